/- P -/
import Derived.Test.YtdakgnaojakldaaGreatDoorP33
import Derived.Test.YtdakgnaojakldaaGreatDoorP06
open Go.Proofs.Tryz
set_option maxRecDepth 100000
set_option maxHeartbeats 1000000
namespace Go.Proofs.YtdakgnaojakldaaGreatDoor
open Go.RowKit
def bH(w:World)(a:Nat)(sh pt:Bool)(R:Bool×Option (List BY))(e:Ending)(w':World):Prop:=
 ∃lv,e = .returned (.agg #[.bool R.1,lv])/\w.grownBy w' (some a)/\qf w' a (sh || !R.2.isSome) (pt || !((R.2.getD []).all Ref.qi))/\w'.ownsRow w.heap.size 9 1 lv (R.2.getD []).length (Ref.strCells (R.2.getD []))
theorem zcE(w:World)(a b:Obj)(t:TypeId)(s:BY):Below w.heap.size w (((w.alloc a).alloc b).alloc (.cells #[.string s] t))/\(((w.alloc a).alloc b).alloc (.cells #[.string s] t)).heap.size=w.heap.size+3 /\
  (((w.alloc a).alloc b).alloc (.cells #[.string s] t)).heap[w.heap.size]?=some a/\(((w.alloc a).alloc b).alloc (.cells #[.string s] t)).heap[w.heap.size+1]?=some b /\
  (((w.alloc a).alloc b).alloc (.cells #[.string s] t)).ownsRow w.heap.size t 1 (.slice (some ⟨w.heap.size+1+1,0,none⟩) 1 1) 1 (Ref.strCells [s]):=by
 refine⟨((nbl _ _).alloc (by simp) _).alloc (by simp;omega) _,by simp,?_,?_,?_⟩
 ·rw[Z8 _ _ _ (by simp;omega)];exact (ky w a b).1
 ·rw[Z8 _ _ _ (by simp)];exact (ky w a b).2
 ·have h:=df (base:=w.heap.size) (e:=t) (size:=1) ((w.alloc a).alloc b) #[.string s] 1 (by simp;omega) (by decide) rfl;rw[vW,vW] at h;exact h
theorem Uf{w A a:World}{b n:Nat}{sh pt:Bool}{e:TypeId}{lv:Value}{xs:List Value}(h:Below w.heap.size w A)(d:w.heap.size<A.heap.size)(j:b<w.heap.size)(g:A.grownBy a (some b))(f:qf a b sh pt)
  (o:a.ownsRow A.heap.size e 1 lv n xs)(u1 u2:Value):w.grownBy ((a.setCell ⟨w.heap.size,0,none⟩ u1).setCell ⟨w.heap.size,1,none⟩ u2) (some b)/\qf ((a.setCell ⟨w.heap.size,0,none⟩ u1).setCell ⟨w.heap.size,1,none⟩ u2) b sh pt /\
    ((a.setCell ⟨w.heap.size,0,none⟩ u1).setCell ⟨w.heap.size,1,none⟩ u2).ownsRow w.heap.size e 1 lv n xs:=by
 have c:w.grownBy a (some b):=But.trans (But.of _ h) g;refine⟨⟨c.os,c.tape,c.output,by simp[World.setCell];exact c.size,λi hi k=>?_⟩,?_,?_⟩
 ·rw[qd _ _ _ _ (by simp only;omega),qd _ _ _ _ (by simp only;omega)];exact c.block i hi k
 ·unfold qf;rw[qd _ _ _ _ (by simp only;omega),qd _ _ _ _ (by simp only;omega)];exact f
 ·exact xC (au (au o d _) d _) (by omega)
theorem Gv(k:Int)(base b gg cap:Nat)(m:List Ref.Node)(d:Nat)(sh pt:Bool)(w:World)(h:Zo w base b gg cap m)(hk:k<m.length)(y:-1<=k)(D:qf w d sh pt) :
  Calls prog 111 #[.pointer (some ⟨b,0,none⟩),.int .i64 k,.pointer (some ⟨d,0,none⟩)] w (bH w d sh pt (Ref.yY m k)):=by
 have q:Hid (∀(k:Int) (w:World),Zo w base b gg cap m->k<m.length -> -1<=k->qf w d sh pt->Calls prog 165 #[.pointer (some ⟨b,0,none⟩),.int .i64 k,.pointer (some ⟨d,0,none⟩)] w (Kj w d sh pt (Ref.qM m k))):=
  λk w h hk y D=>Bi k base b gg cap m d sh pt w h hk y D
 have r:d<w.heap.size:=zt D
 by_cases hneg:k<0
 ·rw[Ref.Gu m k hneg];obtain⟨R,f⟩:=Nm (Ref.qM m k);rw[f];have C:=hid f;have HH:=hid h;have HF:=hid D;have e5:decide ((0:Int)<=k)=false:=by simp;omega
  clear h D f;go_enter func111,ntmps111;go_wp2_with fail;have u:Below w.heap.size w (w.alloc (.cells #[.bool false,.slice none 0 0] 157)):=nbl _ _;refine (q.out k _ (HH.out.below u) hk y (HF.out.below u)).mono ?_;rintro e X ⟨lv,rfl,J,f2,B⟩;have s:X.heap[w.heap.size]?=some (.cells #[.bool false,.slice none 0 0] 157 (0,0)):=(J.block w.heap.size (by simp) (λe=>by simp only[Option.some.injEq] at e;omega)).trans (zB w _);obtain⟨T,p1⟩:=zg s 0;obtain⟨V,p3⟩:=zg s 1;have U:X.cell? ⟨w.heap.size,0,none⟩=some (.bool false):=T;have W:X.cell? ⟨w.heap.size,1,none⟩=some (.slice none 0 0):=V;rw[C.out] at f2 B;obtain⟨F,G,rfl⟩:=jR B;have G2:=hid J;have F2:=hid f2;have O2:=hid B;have BA:=hid u;clear J f2 B T V u s;have a:=hid (Uf BA.out (by simp) r G2.out F2.out O2.out (.bool false) (.slice F (R.getD []).length G))
  go_wp2
  exact zA (v := .agg #[.bool false,.slice F (R.getD []).length G]) (by simp[results,results111,go_sem,U,W]) rfl ⟨_,rfl,a.out⟩
 obtain⟨i,rfl⟩:∃i:Nat,k=i:=⟨k.toNat,by omega⟩;have N:i<m.length:=by omega
 obtain⟨R,f⟩:=Nm (Ref.yY m (i:Int));rw[f];unfold Ref.yY at f;rw[za hneg] at f;simp only[jU,zm N] at f;have E:=zm N;obtain⟨⟨v1,v2⟩,a1,a2,a3,a4,Z,a6⟩:=h.node i _ E;have b9:=h.small i _ E;obtain⟨n,P⟩:=Nm (m[i]);rw[P] at f E a1 a2 Z a6 b9;simp only at a3 a4 Z a6;have Q:=h.slice;obtain⟨nl,A⟩:=Nm m.length;have hlen:=h.len;have HK:=hid hk;rw[A] at Q N hk hlen;obtain⟨na,nc,rfl,_⟩:=vw Z;obtain⟨ka,kc,rfl,cK⟩:=vw a6;have i0:(0:Int)<=(i:Int):=qz _;have i1:(i:Int)<(nl:Int):=by omega
 have e5:decide ((0:Int)<=(i:Int))=true:=by simp
 have HH:=hid h;have HF:=hid D;have HN:=hid E;have h7:=hid A;have A5:=hid Z;have A6:=hid a6;have s1:=λO:Obj=>zh (nbl w O) Q;have b1:=λO:Obj=>zh (nbl w O) a1
 by_cases h1:n.kind=1
 ·rw[zb h1] at f;have M:=(h.ev i _ E).2 h1;have l:=(h.ev i _ E).1;obtain⟨kd,text,I,ks⟩:=n;simp only at h1;subst h1;simp only at a1 a2 a3 a4 M l b1;have b2:=λO:Obj=>zh (nbl w O) a2;have b3:=λO:Obj=>zh (nbl w O) a3;have b4:=λO:Obj=>zh (nbl w O) a4;have C:=hid f;have CK:=hid cK;have a7:=hid M;have d0:=hid l;have c0:=b9.2.1;simp only at c0;clear h D E A P cK Z a6 f M l;go_enter func111,ntmps111;go_wp2_with fail;obtain⟨t1,t2,t3,t4,t5⟩:=zcE w (.cells #[.bool false,.slice none 0 0] 157) (.cells #[.int .i64 1,.string text,.slice na I.length nc,.slice ka ks.length kc] 152) 9 Ref.qR;refine (Az ⟨1,text,I,ks⟩ (.slice na I.length nc,.slice ka ks.length kc) [Ref.qR] _ base w.heap.size _ (ownsRow_below A5.out t1) t5 c0 (by decide)).mono ?_;obtain⟨x,hx⟩:=Nm (Ref.yR ⟨1,text,I,ks⟩ [Ref.qR]);rw[hx];rintro e o ⟨rfl,j⟩;rw[t2] at j;have m0:=zg ((j.block _ (by omega)).trans t3);have m1:=zg ((j.block _ (by omega)).trans t4);have Y:Hid (Below w.heap.size w o):=t1.trans (j.mono (by omega));have f3:=HF.out.below Y.out;obtain⟨d7,d8,d9,e0⟩:=f3.cell;have F3:=hid f3;have z3:w.heap.size+3<=o.heap.size:=by have:=j.size;omega
  have n2:o.cell? ⟨w.heap.size+1,2,none⟩=some (.slice na I.length nc):=(m1 2).1;have n3:o.cell? ⟨w.heap.size+1,3,none⟩=some (.slice ka ks.length kc):=(m1 3).1;have s:o.cell? ⟨w.heap.size,0,none⟩=some (.bool false):=(m0 0).1;have r1:o.cell? ⟨w.heap.size,1,none⟩=some (.slice none 0 0):=(m0 1).1;have r2:=(m0 0).2;have r3:=(m0 1).2;have M0:=hid ((j.block _ (by omega)).trans t3);have HX:=hid hx;clear t1 t2 t3 t4 t5 m0 m1 j hx f3 Q s1 b1 b2 b3 b4 a1 a2 a3 a4
  cases x with
  | false=>
   have t:=C.out;rw[za (by rw[HX.out];simp)] at t;subst t;have a:=hid (Uf Y.out (by omega) r (But.set o d 0 (.bool true)) (F3.out.shape true) (ql (o.setCell ⟨d,0,none⟩ (.bool true)) o.heap.size 9 1) (.bool false) (.slice none 0 0))
   have p:Hid (bH w d sh pt (false,none) (.returned (.agg #[.bool false,.slice none 0 0])) (((o.setCell ⟨d,0,none⟩ (.bool true)).setCell ⟨w.heap.size,0,none⟩ (.bool false)).setCell ⟨w.heap.size,1,none⟩ (.slice none 0 0))):=by
    obtain⟨H,q2,q3⟩:=a.out;exact⟨_,rfl,H,by simpa using q2,q3⟩
   clear C a;have e7:w.heap.size≠d:=by omega
   go_wp2
   exact zA (v := .agg #[.bool false,.slice none 0 0]) (by simp[results,results111,go_sem,s,r1]) rfl p.out
  | true=>
   by_cases hone:I.length=1
   ·have t:=C.out;rw[zb ⟨HX.out,hone⟩] at t;have z:0<ks.length:=by have:=a7.out;omega
    obtain⟨g,rfl,H⟩:=CK.out 0 z;rw[yt,Ref.UC ks 0 z] at H;have L:=d0.out ks[0] (qA z);obtain⟨c,hc⟩:=Nm (ks[0]);have b6:ks.getD 0 0=c:=by rw[<- hc];simp[List.getD,z]
    rw[b6] at t;rw[hc] at H L;have q2:=zh Y.out H;obtain⟨S,K⟩:=Nm (Ref.qM m (c:Int));rw[K] at t;subst t;have HS:=hid K;have c9:=hid L;have e6:((I.length:Int) != 1)=false:=by simp;omega
    have kk:(ks.length:Int)=1:=by have:=a7.out;omega
    clear C H hc b6 K L hone;go_wp2_with fail;refine (q.out c _ (HH.out.below Y.out) (by have:=c9.out;omega) (by omega) F3.out).mono ?_;rintro e w4 ⟨lv,rfl,g4,f4,o4⟩;have u0:=zg ((g4.block w.heap.size (by omega) (λe=>by simp only[Option.some.injEq] at e;omega)).trans M0.out);have T:w4.cell? ⟨w.heap.size,0,none⟩=some (.bool false):=(u0 0).1;have V:w4.cell? ⟨w.heap.size,1,none⟩=some (.slice none 0 0):=(u0 1).1;have p1:=(u0 0).2;have p3:=(u0 1).2;rw[HS.out] at f4 o4;obtain⟨F,G,rfl⟩:=jR o4;have a:=hid (Uf Y.out (by omega) r g4 f4 o4 (.bool true) (.slice F (S.getD []).length G));clear g4 f4 o4 u0 n2 n3 s r1 r2 r3 d7 d8 d9 e0 q2
    go_wp2
    exact zA (v := .agg #[.bool true,.slice F (S.getD []).length G]) (by simp[results,results111,go_sem,T,V]) rfl ⟨_,rfl,a.out⟩
   ·have e6:((I.length:Int) != 1)=true:=by simp;omega
    have t:=C.out;rw[za (λe=>hone e.2)] at t;subst t;have a:=hid (Uf Y.out (by omega) r (But.set o d 0 (.bool true)) (F3.out.shape true) (ql (o.setCell ⟨d,0,none⟩ (.bool true)) o.heap.size 9 1) (.bool false) (.slice none 0 0))
    have p:Hid (bH w d sh pt (false,none) (.returned (.agg #[.bool false,.slice none 0 0])) (((o.setCell ⟨d,0,none⟩ (.bool true)).setCell ⟨w.heap.size,0,none⟩ (.bool false)).setCell ⟨w.heap.size,1,none⟩ (.slice none 0 0))):=by
     obtain⟨H,q2,q3⟩:=a.out;exact⟨_,rfl,H,by simpa using q2,q3⟩
    clear C a;have e7:w.heap.size≠d:=by omega
    go_wp2
    exact zA (v := .agg #[.bool false,.slice none 0 0]) (by simp[results,results111,go_sem,s,r1]) rfl p.out
 ·rw[za h1] at f;obtain⟨S,K⟩:=Nm (Ref.qM m (i:Int));rw[K] at f;subst f;have e3:(n.kind==1)=false:=by simp[h1]
  obtain⟨kd,b8⟩:=Nm n.kind;rw[b8] at a1 e3 b1;have HS:=hid K;clear h D E A K P cK h1 b8 A5 A6 Z a6 a2 a3 a4;go_enter func111,ntmps111;go_wp2_with fail;have u:Below w.heap.size w (w.alloc (.cells #[.bool false,.slice none 0 0] 157)):=nbl _ _;refine (q.out i _ (HH.out.below u) HK.out y (HF.out.below u)).mono ?_;rintro e X ⟨lv,rfl,J,f2,B⟩;have s:X.heap[w.heap.size]?=some (.cells #[.bool false,.slice none 0 0] 157 (0,0)):=(J.block w.heap.size (by simp) (λe=>by simp only[Option.some.injEq] at e;omega)).trans (zB w _);obtain⟨T,p1⟩:=zg s 0;obtain⟨V,p3⟩:=zg s 1;have U:X.cell? ⟨w.heap.size,0,none⟩=some (.bool false):=T;have W:X.cell? ⟨w.heap.size,1,none⟩=some (.slice none 0 0):=V;rw[HS.out] at f2 B;obtain⟨F,G,rfl⟩:=jR B;have G2:=hid J;have F2:=hid f2;have O2:=hid B;have BA:=hid u;clear J f2 B T V u s;have a:=hid (Uf BA.out (by simp) r G2.out F2.out O2.out (.bool false) (.slice F (S.getD []).length G))
  go_wp2
  exact zA (v := .agg #[.bool false,.slice F (S.getD []).length G]) (by simp[results,results111,go_sem,U,W]) rfl ⟨_,rfl,a.out⟩
theorem sM(s:BY)(w:World)(A:s.size<=12000) :
  Calls prog 233 #[.string s] w λe w'=>e = .returned (.bool (Ref.qF s))/\w'=w:=by
 obtain⟨R,g⟩:=Nm (Ref.qF s);rw[g];unfold Ref.qF at g
 cases hz:(s.toList==[48]) with
 | true=>
  rw[hz,VJ] at g;subst g;go_enter func233,ntmps233
  go_wp2
  go_ret;exact⟨rfl,rfl⟩
 | false=>
 rw[hz,Xa] at g
 by_cases hm:0<s.size/\(s.data.toList.getD 0 0).toNat=45
 ·rw[zb hm] at g;have t:0<s.size:=hm.1;have u:((s[0].toNat:Int)==45)=true:=by rw[<- Ref.X8 s t,hm.2];rfl
  have x:decide (0<(s.size:Int))=true:=by simp;omega
  have z:(s.extract 1 s.size).size=s.size-1:=by rw[yz];omega
  have c:=hid g;clear g hm
  by_cases hsz:1<=(s.size-1)/\(s.size-1)<=18
  ·have r:decide (((s.size-1):Nat)<(1:Int))=false:=by simp;omega
   have v:decide ((18:Int)<((s.size-1):Nat))=false:=by simp;omega
   have b:0<(s.extract 1 s.size).size:=by omega
   by_cases h48:(((s.extract 1 s.size)[0]'b).toNat:Int)=48
   ·have d:((((s.extract 1 s.size)[0]'b).toNat:Int)==48)=true:=by simp[h48]
    have a:=Ref.gG (s.extract 1 s.size) b h48;rw[c.out] at a;subst a;clear c h48;go_enter func233,ntmps233
    go_wp2
    go_ret;exact⟨rfl,rfl⟩
   ·have d:((((s.extract 1 s.size)[0]'b).toNat:Int)==48)=false:=by simp[h48]
    have m:=hid h48;obtain⟨D,o⟩:∃D:Nat->Bool,(λk=>Ref.digits ((s.extract 1 s.size).data.toList.take k))=D:=⟨_,rfl⟩;have f:D 0=true:=by rw[<- o];rfl
    have p:=hid o;have n:=hid f;clear o f;clear h48;go_enter func233,ntmps233
    go_wp2
    go_loop [3] (λi=>∃k:Nat,k<=(s.size-1)/\i = .int .i64 k/\D k=true) (λi=>(s.size-1)-(intOf i).toNat)
    case atStart=>exact⟨0,zH _,rfl,n.out⟩
    case round=>
     obtain⟨k,y,rfl,l⟩:=hrel;have q:=hid l;clear l
     by_cases hlt:k<(s.size-1)
     ·have h:k<(s.extract 1 s.size).size:=by omega
      go_wp2
      all_goals first
       | (go_ret;exact⟨ZB ((Ref.Ak (s.extract 1 s.size) k h (by omega)).symm.trans c.out),rfl⟩)
       | exact⟨⟨k+1,by omega,by go_num,by have j:=q.out;rw[<- p.out] at j |-;exact Ref.pq (s.extract 1 s.size) k h j (by omega) (by omega)⟩,by simp[intOf];omega⟩
     ·have a:=Ref.Al (s.extract 1 s.size) k (by omega) (by omega) (by omega) (by omega) m.out (by have j:=q.out;rw[<- p.out] at j;exact j);rw[c.out] at a;subst a;clear c
      go_wp2
      go_ret;exact⟨rfl,rfl⟩
  ·have a:=Ref.UE (s.extract 1 s.size) (by omega);rw[c.out] at a;subst a;clear c;go_enter func233,ntmps233
   go_wp2
   all_goals first
    | (exfalso;omega)
    | (go_ret;exact⟨rfl,rfl⟩)
 ·rw[za hm] at g;have c:=hid g;clear g
  by_cases t:0<s.size
  ·have u:((s[0].toNat:Int)==45)=false:=by
    rw[<- Ref.X8 s t]
    have:(s.data.toList.getD 0 0).toNat≠45:=λe=>hm ⟨t,e⟩
    rw[qP];omega
   have x:decide (0<(s.size:Int))=true:=by simp;omega
   clear hm
   by_cases hsz:1<=s.size/\s.size<=18
   ·have r:decide ((s.size:Nat)<(1:Int))=false:=by simp;omega
    have v:decide ((18:Int)<(s.size:Nat))=false:=by simp;omega
    have b:0<(s).size:=by omega
    by_cases h48:(((s)[0]'b).toNat:Int)=48
    ·have d:((((s)[0]'b).toNat:Int)==48)=true:=by simp[h48]
     have a:=Ref.gG (s) b h48;rw[c.out] at a;subst a;clear c h48;go_enter func233,ntmps233
     go_wp2
     go_ret;exact⟨rfl,rfl⟩
    ·have d:((((s)[0]'b).toNat:Int)==48)=false:=by simp[h48]
     have m:=hid h48;obtain⟨D,o⟩:∃D:Nat->Bool,(λk=>Ref.digits ((s).data.toList.take k))=D:=⟨_,rfl⟩;have f:D 0=true:=by rw[<- o];rfl
     have p:=hid o;have n:=hid f;clear o f;clear h48;go_enter func233,ntmps233
     go_wp2
     go_loop [3] (λi=>∃k:Nat,k<=s.size/\i = .int .i64 k/\D k=true) (λi=>s.size-(intOf i).toNat)
     case atStart=>exact⟨0,zH _,rfl,n.out⟩
     case round=>
      obtain⟨k,y,rfl,l⟩:=hrel;have q:=hid l;clear l
      by_cases hlt:k<s.size
      ·have h:k<(s).size:=by omega
       go_wp2
       all_goals first
        | (go_ret;exact⟨ZB ((Ref.Ak (s) k h (by omega)).symm.trans c.out),rfl⟩)
        | exact⟨⟨k+1,by omega,by go_num,by have j:=q.out;rw[<- p.out] at j |-;exact Ref.pq (s) k h j (by omega) (by omega)⟩,by simp[intOf];omega⟩
      ·have a:=Ref.Al (s) k (by omega) (by omega) (by omega) (by omega) m.out (by have j:=q.out;rw[<- p.out] at j;exact j);rw[c.out] at a;subst a;clear c
       go_wp2
       go_ret;exact⟨rfl,rfl⟩
   ·have a:=Ref.UE (s) (by omega);rw[c.out] at a;subst a;clear c;go_enter func233,ntmps233
    go_wp2
    all_goals first
     | (exfalso;omega)
     | (go_ret;exact⟨rfl,rfl⟩)
  ·have x:decide (0<(s.size:Int))=false:=zJ (by omega);have r:decide ((s.size:Int)<1)=true:=by simp;omega
   have a:=Ref.UE s (by omega);rw[c.out] at a;subst a;clear c hm;go_enter func233,ntmps233
   go_wp2
   go_ret;exact⟨rfl,rfl⟩
theorem KV(s:BY)(w:World)(a:s.size<=12000)(x:Bool)(b:Ref.qF s=x) :
  Calls prog 233 #[.string s] w λe w'=>e = .returned (.bool x)/\w'=w:=by
 subst b;exact sM s w a
theorem zc0(op:BY)(l:List BY)(lv:Value)(base:Nat)(w:World)(h:w.ownsRow base 9 1 lv l.length (Ref.strCells l))(C:l.length<=10)(j:∀s ∈ l,s.size<=12000) :
  Calls prog 208 #[.string op,lv] w λe w'=>e = .returned (.bool (Ref.Zv op l))/\w'=w:=by
 obtain⟨R,n⟩:=Nm (Ref.Zv op l);rw[n];unfold Ref.Zv at n;obtain⟨D,E,rfl,x⟩:=vw h;have q:=hid n;have A:=hid x;have r:=hid j;clear n x j h;go_enter func208,ntmps208
 go_wp2
 go_loop [5] (λi=>∃k:Nat,k<=l.length/\i = .int .i64 k/\((l.take k).all (Ref.uq op))=true) (λi=>l.length-(intOf i).toNat)
 case atStart=>exact⟨0,zH _,rfl,by simp⟩
 case round=>
  obtain⟨k,B,rfl,hb⟩:=hrel;have m:=hid hb;clear hb
  by_cases hlt:k<l.length
  ·obtain⟨g,rfl,z⟩:=A.out k hlt;rw[Ref.JE l k hlt] at z;have a:=r.out l[k] (qA hlt);obtain⟨s,t⟩:=Nm (l[k]);rw[t] at z a;have v:=hid t;clear t;have good:Hid (Ref.uq op s=true->((l.take (k+1)).all (Ref.uq op))=true):=λe=>Ref.mJ l _ k hlt m.out (by rw[v.out];exact e);have bad:Hid (Ref.uq op s=false->R=false):=λe=>by rw[<- q.out,Ref.mM l _ k hlt (by rw[v.out];exact e)];rfl
   obtain⟨V,o⟩:=Nm (Ref.uq op s);rw[o] at good bad;unfold Ref.uq at o;have d:=hid o;clear o m;obtain⟨N,y⟩:=Nm (Ref.qF s);have c:=hid y;clear y
   cases hE:s.toList.isEmpty with
   | true=>
    cases N with
    | true=>
     have b:=c.out
     go_wp2_with (go_at_call 233;refine (KV s _ a true c.out).mono ?_;rintro e u ⟨rfl,rfl⟩)
     all_goals first
      | (go_ret;refine⟨ZB (bad.out ?_).symm,rfl⟩;rw[<- d.out];first|(simp only[*];simp;done)|(simp only[*];simp;omega)|(simp[*];done)|(simp[*];omega))
      | (refine⟨⟨k+1,by omega,by go_num,good.out ?_⟩,by simp[intOf];omega⟩;rw[<- d.out];first|(simp only[*];simp;done)|(simp only[*];simp;omega)|(simp[*];done)|(simp[*];omega))
    | false=>
     have b:=c.out
     go_wp2_with (go_at_call 233;refine (KV s _ a false c.out).mono ?_;rintro e u ⟨rfl,rfl⟩)
     all_goals first
      | (go_ret;refine⟨ZB (bad.out ?_).symm,rfl⟩;rw[<- d.out];first|(simp only[*];simp;done)|(simp only[*];simp;omega)|(simp[*];done)|(simp[*];omega))
      | (refine⟨⟨k+1,by omega,by go_num,good.out ?_⟩,by simp[intOf];omega⟩;rw[<- d.out];first|(simp only[*];simp;done)|(simp only[*];simp;omega)|(simp[*];done)|(simp[*];omega))
   | false=>
    cases N with
    | true=>
     have b:=c.out
     go_wp2_with (go_at_call 233;refine (KV s _ a true c.out).mono ?_;rintro e u ⟨rfl,rfl⟩)
     all_goals first
      | (go_ret;refine⟨ZB (bad.out ?_).symm,rfl⟩;rw[<- d.out];first|(simp only[*];simp;done)|(simp only[*];simp;omega)|(simp[*];done)|(simp[*];omega))
      | (refine⟨⟨k+1,by omega,by go_num,good.out ?_⟩,by simp[intOf];omega⟩;rw[<- d.out];first|(simp only[*];simp;done)|(simp only[*];simp;omega)|(simp[*];done)|(simp[*];omega))
    | false=>
     have b:=c.out
     go_wp2_with (go_at_call 233;refine (KV s _ a false c.out).mono ?_;rintro e u ⟨rfl,rfl⟩)
     all_goals first
      | (go_ret;refine⟨ZB (bad.out ?_).symm,rfl⟩;rw[<- d.out];first|(simp only[*];simp;done)|(simp only[*];simp;omega)|(simp[*];done)|(simp[*];omega))
      | (refine⟨⟨k+1,by omega,by go_num,good.out ?_⟩,by simp[intOf];omega⟩;rw[<- d.out];first|(simp only[*];simp;done)|(simp only[*];simp;omega)|(simp[*];done)|(simp[*];omega))
  ·have e:=Ref.mH l (Ref.uq op) k hlt m.out;have p:=q.out;rw[e,jC] at p;unfold Ref.Zd at p;have f:=hid p;clear p e q m
   go_wp2
   all_goals
    go_ret
    first
     | exact⟨rfl,rfl⟩
     | (refine⟨ZB ?_,rfl⟩;rw[<- f.out];done)
     | (refine⟨ZB ?_,rfl⟩;rw[<- f.out];simp[*];done)
theorem zO.rd{w:World}{base b:Nat}{m:Ref.zk}{s p:Value}{d:List (Value×Value)}(h:zO w base b m s p d)(q:m.nodes≠[])(f:Ref.Ev m.nodes)(hb:Ref.Bnd 4000 m)(r:Ref.uz 12000 m.nodes) :
  ∃e cap,Zo w base b e cap m.nodes:=by
 have o:0<m.nodes.length:=List.length_pos_iff.2 q
 obtain⟨e,cap,rfl⟩:∃g c,p = .slice (some ⟨g,0,none⟩) m.nodes.length c:=by
  rcases h.ownN.2 with ⟨_,h0⟩|⟨g,c,cur,rfl,_⟩
  ·omega
  ·exact⟨_,_,rfl⟩
 refine⟨e,cap,⟨zt h.blk,(h.ownN.lt e rfl).2⟩,(h.cell 2).1,λi n hi=>?_,f,hb.nodes,λi n hi=>⟨(hb.kids i n hi).1,(hb.kids i n hi).2,r i n hi⟩⟩;have j:i<m.nodes.length:=(zW.1 hi).1;have l:i<d.length:=by rw[h.len];exact j
 have k:=zm l;have a:=ag m.nodes d h.len i n d[i] hi k;exact⟨d[i],(h.ownN.cellAt _ (by omega)).trans a.1,(h.ownN.cellAt _ (by omega)).trans a.2.1,(h.ownN.cellAt _ (by omega)).trans a.2.2.1,(h.ownN.cellAt _ (by omega)).trans a.2.2.2,h.names i n _ hi k,h.kids i n _ hi k⟩
theorem zan(text:BY)(h:(qG text).1=0):Ref.Ev (qG text).2.2.nodes/\(qG text).2.2.nodes≠[]/\0<=(qG text).2.2.root/\(qG text).2.2.root<((qG text).2.2.nodes.length:Int)/\Ref.uz 12000 (qG text).2.2.nodes:=by
 obtain⟨R,a⟩:=Nm (qG text);rw[a] at h |-;unfold qG at a
 by_cases h1:4000<text.size
 ·rw[zb h1] at a;subst a;simp at h
 rw[za h1] at a
 by_cases h2:(Ref.run Ref.init text.data.toList 0).1≠0
 ·rw[zb h2] at a;subst a;exact absurd h h2
 rw[za h2] at a
 by_cases h3:(Ref.run Ref.init text.data.toList 0).2.2.state≠6\/(Ref.run Ref.init text.data.toList 0).2.2.opn≠[]
 ·rw[zb h3] at a;subst a;simp at h
 rw[za h3] at a;subst a
 have j:(Ref.run Ref.init text.data.toList 0).2.2.state=6:=by
  by_cases e:(Ref.run Ref.init text.data.toList 0).2.2.state=6
  ·exact e
  ·exact absurd (.inl e) h3
 have g:(Ref.run Ref.init text.data.toList 0).1=0:=by
  by_cases e:(Ref.run Ref.init text.data.toList 0).1=0
  ·exact e
  ·exact absurd e h2
 have b:=(Ref.BU text.data.toList Ref.init 0 0 Ref.OL fO fM g).1;have c:=Ref.BS text.data.toList Ref.init 0 0 4000 (λi n hi=>by simp[Ref.init] at hi) fM (by rw[Ref.zD];omega);have f:¬Ref.pend (Ref.run Ref.init text.data.toList 0).2.2:=by unfold Ref.pend;omega
 have d:=b.full (by unfold Ref.asks;omega);exact⟨b.ev f,d,b.root0,b.root d,c⟩
structure xD (w:World) (fb:Nat) (nc cc:Array Value) (sh pt:Bool) (wx:World):Prop where
 g:w.grownBy wx (some fb)
 f:qf wx fb sh pt
 r:wx.heap[w.heap.size]?=some (.cells #[.string ⟨#[]⟩,.string ⟨#[]⟩,.slice none 0 0,.bool false] 244 (0,0))
 n:wx.heap[w.heap.size+1]?=some (.cells nc 152 (0,0))
 c:wx.heap[w.heap.size+2]?=some (.cells cc 244 (0,0))
theorem Dn(w:World)(a b c:Obj):(((w.alloc a).alloc b).alloc c).heap[w.heap.size]?=some a/\(((w.alloc a).alloc b).alloc c).heap[w.heap.size+1]?=some b/\(((w.alloc a).alloc b).alloc c).heap[w.heap.size+2]?=some c:=by
 refine⟨?_,?_,?_⟩
 ·rw[Z8 _ _ _ (by simp;omega)];exact (ky w a b).1
 ·rw[Z8 _ _ _ (by simp)];exact (ky w a b).2
 ·have h:=zB ((w.alloc a).alloc b) c;rw[vW,vW] at h;exact h
theorem xD.start{w:World}{c:Nat}{sh pt:Bool}(d:qf w c sh pt)(b a:Array Value) :
  xD w c b a sh pt (((w.alloc (.cells #[.string ⟨#[]⟩,.string ⟨#[]⟩,.slice none 0 0,.bool false] 244)).alloc (.cells b 152)).alloc (.cells a 244)):=by
 have hb:Below w.heap.size w (((w.alloc (.cells #[.string ⟨#[]⟩,.string ⟨#[]⟩,.slice none 0 0,.bool false] 244)).alloc (.cells b 152)).alloc (.cells a 244)):=
  ((nbl _ _).alloc (by simp) _).alloc (by simp;omega) _
 obtain⟨e,f,g⟩:=Dn w (.cells #[.string ⟨#[]⟩,.string ⟨#[]⟩,.slice none 0 0,.bool false] 244) (.cells b 152) (.cells a 244);exact⟨But.of _ hb,d.below hb,e,f,g⟩
theorem xD.size{w a:World}{d:Nat}{e b:Array Value}{sh pt:Bool}(h:xD w d e b sh pt a):w.heap.size+3<=a.heap.size:=zt h.c
theorem xD.below{w a i:World}{d:Nat}{e b:Array Value}{sh pt:Bool}(h:xD w d e b sh pt a)(hb:Below a.heap.size a i):xD w d e b sh pt i:=by
 have j:=h.size;exact⟨But.trans h.g (But.of _ hb),h.f.below hb,(hb.block _ (by omega)).trans h.r,(hb.block _ (by omega)).trans h.n,(hb.block _ (by omega)).trans h.c⟩
theorem xD.grown{w k f:World}{a:Nat}{j i:Array Value}{sh pt d b:Bool}(m:a<w.heap.size)(h:xD w a j i sh pt k)(e:k.grownBy f (some a))(l:qf f a d b):xD w a j i d b f:=by
 have o:=h.size;exact⟨But.trans h.g e,l,(e.block _ (by omega) (by simp;omega)).trans h.r,(e.block _ (by omega) (by simp;omega)).trans h.n,(e.block _ (by omega) (by simp;omega)).trans h.c⟩
theorem xD.shape{w e:World}{a:Nat}{d c:Array Value}{sh pt:Bool}(b:a<w.heap.size)(h:xD w a d c sh pt e)(x:Bool):xD w a d c x pt (e.setCell ⟨a,0,none⟩ (.bool x)):=
 h.grown b (But.set _ _ _ _) (h.f.shape x)
theorem xD.put{w d:World}{a:Nat}{j:Array Value}{c0 c1 c2 c3:Value}{sh pt:Bool}(k:a<w.heap.size)(h:xD w a j #[c0,c1,c2,c3] sh pt d)(o:Nat)(u:Value)(e:Array Value)(b:e=#[c0,c1,c2,c3].set! o u):xD w a j e sh pt (d.setCell ⟨w.heap.size+2,o,none⟩ u):=by
 subst b;refine⟨⟨h.g.os,h.g.tape,h.g.output,by simp[World.setCell];exact h.g.size,λi hi l=>?_⟩,?_,?_,?_,?_⟩
 ·rw[qd _ _ _ _ (by simp only;omega)];exact h.g.block i hi l
 ·unfold qf;rw[qd _ _ _ _ (by simp only;omega)];exact h.f
 ·rw[qd _ _ _ _ (by simp only;omega)];exact h.r
 ·rw[qd _ _ _ _ (by simp only;omega)];exact h.n
 ·exact yF d (w.heap.size+2) o _ _ _ h.c
theorem xD.cells{w a:World}{b:Nat}{d e g i c0 c1 c2 c3:Value}{sh pt:Bool}(h:xD w b #[d,e,g,i] #[c0,c1,c2,c3] sh pt a) :
  (a.cell? ⟨w.heap.size+1,0,none⟩=some d/\a.cell? ⟨w.heap.size+1,1,none⟩=some e/\a.cell? ⟨w.heap.size+1,2,none⟩=some g/\a.cell? ⟨w.heap.size+1,3,none⟩=some i) /\
  (a.cell? ⟨w.heap.size+2,0,none⟩=some c0/\a.cell? ⟨w.heap.size+2,1,none⟩=some c1/\a.cell? ⟨w.heap.size+2,2,none⟩=some c2/\a.cell? ⟨w.heap.size+2,3,none⟩=some c3) /\
  (a.frozen? ⟨w.heap.size+2,0,none⟩=false/\a.frozen? ⟨w.heap.size+2,1,none⟩=false/\a.frozen? ⟨w.heap.size+2,2,none⟩=false/\a.frozen? ⟨w.heap.size+2,3,none⟩=false) /\
  (a.cell? ⟨b,0,none⟩=some (.bool sh)/\a.cell? ⟨b,1,none⟩=some (.bool pt)/\a.frozen? ⟨b,0,none⟩=false/\a.frozen? ⟨b,1,none⟩=false):=
 ⟨⟨(zg h.n 0).1,(zg h.n 1).1,(zg h.n 2).1,(zg h.n 3).1⟩,⟨(zg h.c 0).1,(zg h.c 1).1,(zg h.c 2).1,(zg h.c 3).1⟩,
  ⟨(zg h.c 0).2,(zg h.c 1).2,(zg h.c 2).2,(zg h.c 3).2⟩,h.f.cell⟩
theorem xD.fin{w b:World}{a:Nat}{j c:Array Value}{sh pt:Bool}(d:a<w.heap.size)(h:xD w a j c sh pt b)(u0 u1 u2 u3:Value) :
  w.grownBy ((((b.setCell ⟨w.heap.size,0,none⟩ u0).setCell ⟨w.heap.size,1,none⟩ u1).setCell ⟨w.heap.size,2,none⟩ u2).setCell ⟨w.heap.size,3,none⟩ u3) (some a) /\
  qf ((((b.setCell ⟨w.heap.size,0,none⟩ u0).setCell ⟨w.heap.size,1,none⟩ u1).setCell ⟨w.heap.size,2,none⟩ u2).setCell ⟨w.heap.size,3,none⟩ u3) a sh pt:=by
 refine⟨⟨h.g.os,h.g.tape,h.g.output,by simp[World.setCell];exact h.g.size,λi hi e=>?_⟩,?_⟩
 ·rw[qd _ _ _ _ (by simp only;omega),qd _ _ _ _ (by simp only;omega),qd _ _ _ _ (by simp only;omega),qd _ _ _ _ (by simp only;omega)];exact h.g.block i hi e
 ·unfold qf;rw[qd _ _ _ _ (by simp only;omega),qd _ _ _ _ (by simp only;omega),qd _ _ _ _ (by simp only;omega),qd _ _ _ _ (by simp only;omega)];exact h.f
def VM(w:World)(a:Nat)(sh pt:Bool)(R:Ref.qD)(e:Ending)(w':World):Prop:=
 ∃lv,e = .returned (.agg #[.string R.op,.string R.key,lv,.bool R.no])/\w.grownBy w' (some a)/\qf w' a (sh||R.sh) (pt||R.pt)/\w'.ownsRow w.heap.size 9 1 lv R.vals.length (Ref.strCells R.vals)
structure jT (w0:World) (base b gg cap:Nat) (ns:List Ref.Node) (w:World):Prop where
 rd:Zo w0 base b gg cap ns
 non:Ref.NoN ns
 bel:Below w0.heap.size w0 w
theorem jT.at{d w:World}{base b a cap:Nat}{c:List Ref.Node}(h:jT d base b a cap c w):Zo w base b a cap c:=h.rd.below h.bel
theorem jT.below{d w w':World}{base b a cap:Nat}{c:List Ref.Node}(h:jT d base b a cap c w)(hb:Below w.heap.size w w'):jT d base b a cap c w':=⟨h.rd,h.non,h.bel.trans (hb.mono h.bel.size)⟩
theorem jT.grown{a w w':World}{base b d cap c:Nat}{e:List Ref.Node}(h:jT a base b d cap e w)(g:w.grownBy w' (some c))(f:a.heap.size<=c):jT a base b d cap e w':=⟨h.rd,h.non,h.bel.trans (But.below g h.bel.size f)⟩
theorem jT.names{d w:World}{base b c cap:Nat}{a:List Ref.Node}(h:jT d base b c cap a w){i:Nat}{n:Ref.Node}(hi:a[i]?=some n):n.names.length<=n.kids.length:=by
 by_cases h1:n.kind=1
 ·rw[(h.rd.ev i n hi).2 h1];exact zf _
 ·rw[h.non i n hi h1];simp
theorem Uu{f w:World}{base b g cap:Nat}{o:List Ref.Node}(h:jT f base b g cap o w){i:Nat}{n:Ref.Node}(hi:o[i]?=some n) :
  ∃v:Value×Value,(∃z A,v.1 = .slice z n.names.length A)/\(∃x y,v.2 = .slice x n.kids.length y) /\
   (∀W,Below f.heap.size f W->W.cell? ⟨g,i*4,none⟩=some (.int .i64 n.kind)/\W.cell? ⟨g,i*4+1,none⟩=some (.string n.text)/\W.cell? ⟨g,i*4+2,none⟩=some v.1/\W.cell? ⟨g,i*4+3,none⟩=some v.2) /\
   (∀W (name:BY),Below f.heap.size f W->Calls prog 60 #[QX n v,.string name] W λe w'=>e = .returned (.int .i64 (Ref.zn n name))/\Below W.heap.size W w') /\
   (∀W (ts:List BY) (j:Value) (d:Nat),Below f.heap.size f W->W.ownsRow d 9 1 j ts.length (Ref.strCells ts)->ts.length<=4000->Calls prog 110 #[QX n v,j] W λe w'=>e = .returned (.bool (Ref.yR n ts))/\Below W.heap.size W w'):=by
 obtain⟨v,p,q,r,s,k,l⟩:=h.rd.node i n hi;have m:=h.rd.small i n hi;refine⟨v,?_,?_,λW hb=>⟨zh hb p,zh hb q,zh hb r,zh hb s⟩,λW name hb=>Ob n v name base W (ownsRow_below k hb) (ownsRow_below l hb) (h.names hi) m.1,λW ts j d hb t u=>Az n v ts j base d W (ownsRow_below k hb) t m.2.1 u⟩
 ·obtain⟨a,c,e,_⟩:=vw k;exact⟨a,c,e⟩
 ·obtain⟨a,c,e,_⟩:=vw l;exact⟨a,c,e⟩
end Go.Proofs.YtdakgnaojakldaaGreatDoor
