/- P -/
import Derived.Test.YtagnlbgbnfnapaaGreatDoorK37
import Derived.Test.YtagnlbgbnfnapaaGreatDoorK06
open Go.Proofs.Tryz
set_option maxRecDepth 100000
set_option maxHeartbeats 1000000
namespace Go.Proofs.YtagnlbgbnfnapaaGreatDoor
open Go.RowKit
def U5(w:World)(a:Nat)(sh pt:Bool)(R:Bool×Option (List BY))(e:Ending)(w':World):Prop:=
 ∃lv,e = .returned (.agg #[.bool R.1,lv])/\w.grownBy w' (some a)/\qd w' a (sh || !R.2.isSome) (pt || !((R.2.getD []).all Ref.qF))/\w'.ownsRow w.heap.size 9 1 lv (R.2.getD []).length (Ref.strCells (R.2.getD []))
theorem Sv(w:World)(a b:Obj)(t:TypeId)(s:BY):Below w.heap.size w (((w.alloc a).alloc b).alloc (.cells #[.string s] t))/\(((w.alloc a).alloc b).alloc (.cells #[.string s] t)).heap.size=w.heap.size+3 /\
  (((w.alloc a).alloc b).alloc (.cells #[.string s] t)).heap[w.heap.size]?=some a/\(((w.alloc a).alloc b).alloc (.cells #[.string s] t)).heap[w.heap.size+1]?=some b /\
  (((w.alloc a).alloc b).alloc (.cells #[.string s] t)).ownsRow w.heap.size t 1 (.slice (some ⟨w.heap.size+1+1,0,none⟩) 1 1) 1 (Ref.strCells [s]):=by
 refine⟨((nbl _ _).alloc (by simp) _).alloc (by simp;omega) _,by simp,?_,?_,?_⟩
 ·rw[Za _ _ _ (by simp;omega)];exact (uy w a b).1
 ·rw[Za _ _ _ (by simp)];exact (uy w a b).2
 ·have h:=VP (base:=w.heap.size) (e:=t) (size:=1) ((w.alloc a).alloc b) #[.string s] 1 (by simp;omega) (by decide) rfl;rw[jT,jT] at h;exact h
theorem JI{w A a:World}{b n:Nat}{sh pt:Bool}{e:TypeId}{lv:Value}{xs:List Value}(h:Below w.heap.size w A)(d:w.heap.size<A.heap.size)(j:b<w.heap.size)(g:A.grownBy a (some b))(f:qd a b sh pt)
  (o:a.ownsRow A.heap.size e 1 lv n xs)(u1 u2:Value):w.grownBy ((a.setCell ⟨w.heap.size,0,none⟩ u1).setCell ⟨w.heap.size,1,none⟩ u2) (some b)/\qd ((a.setCell ⟨w.heap.size,0,none⟩ u1).setCell ⟨w.heap.size,1,none⟩ u2) b sh pt /\
    ((a.setCell ⟨w.heap.size,0,none⟩ u1).setCell ⟨w.heap.size,1,none⟩ u2).ownsRow w.heap.size e 1 lv n xs:=by
 have c:w.grownBy a (some b):=But.trans (But.of _ h) g;refine⟨⟨c.os,c.tape,c.output,by simp[World.setCell];exact c.size,λi hi k=>?_⟩,?_,?_⟩
 ·rw[qc _ _ _ _ (by simp only;omega),qc _ _ _ _ (by simp only;omega)];exact c.block i hi k
 ·unfold qd;rw[qc _ _ _ _ (by simp only;omega),qc _ _ _ _ (by simp only;omega)];exact f
 ·exact xA (Ux (Ux o d _) d _) (by omega)
theorem Bz(k:Int)(base b gg cap:Nat)(ns:List Ref.Node)(d:Nat)(sh pt:Bool)(w:World)(h:uH w base b gg cap ns)(hk:k<ns.length)(u:-1<=k)(C:qd w d sh pt) :
  Calls prog 169 #[.pointer (some ⟨b,0,none⟩),.int .i64 k,.pointer (some ⟨d,0,none⟩)] w (U5 w d sh pt (Ref.yG ns k)):=by
 have p:Hid (∀(k:Int) (w:World),uH w base b gg cap ns->k<ns.length -> -1<=k->qd w d sh pt->Calls prog 211 #[.pointer (some ⟨b,0,none⟩),.int .i64 k,.pointer (some ⟨d,0,none⟩)] w (VJ w d sh pt (Ref.qK ns k))):=
  λk w h hk u C=>pJ k base b gg cap ns d sh pt w h hk u C
 have q:d<w.heap.size:=zy C
 by_cases hneg:k<0
 ·rw[Ref.Bw ns k hneg];obtain⟨R,f⟩:=Nm (Ref.qK ns k);rw[f];have B:=hid f;have HH:=hid h;have HF:=hid C;have e4:decide ((0:Int)<=k)=false:=by simp;omega
  clear h C f;go_enter func169,ntmps169;go_wp2_with fail;have t:Below w.heap.size w (w.alloc (.cells #[.bool false,.slice none 0 0] 246)):=nbl _ _;refine (p.out k _ (HH.out.below t) hk u (HF.out.below t)).mono ?_;rintro e W ⟨lv,rfl,I,f2,A⟩;have r:W.heap[w.heap.size]?=some (.cells #[.bool false,.slice none 0 0] 246 (0,0)):=(I.block w.heap.size (by simp) (λe=>by simp only[Option.some.injEq] at e;omega)).trans (zQ w _);obtain⟨Q,p1⟩:=zg r 0;obtain⟨U,p3⟩:=zg r 1;have T:W.cell? ⟨w.heap.size,0,none⟩=some (.bool false):=Q;have V:W.cell? ⟨w.heap.size,1,none⟩=some (.slice none 0 0):=U;rw[B.out] at f2 A;obtain⟨E,F,rfl⟩:=yt A;have G2:=hid I;have F2:=hid f2;have O2:=hid A;have BA:=hid t;clear I f2 A Q U t r;have a:=hid (JI BA.out (by simp) q G2.out F2.out O2.out (.bool false) (.slice E (R.getD []).length F))
  go_wp2
  exact zN (v := .agg #[.bool false,.slice E (R.getD []).length F]) (by simp[results,results169,go_sem,T,V]) rfl ⟨_,rfl,a.out⟩
 obtain⟨i,rfl⟩:∃i:Nat,k=i:=⟨k.toNat,by omega⟩;have M:i<ns.length:=by omega
 obtain⟨R,f⟩:=Nm (Ref.yG ns (i:Int));rw[f];unfold Ref.yG at f;rw[za hneg] at f;simp only[xQ,zn M] at f;have D:=zn M;obtain⟨⟨v1,v2⟩,a1,a2,a3,a4,Y,Z⟩:=h.node i _ D;have b8:=h.small i _ D;obtain⟨n,N⟩:=Nm (ns[i]);rw[N] at f D a1 a2 Y Z b8;simp only at a3 a4 Y Z;have P:=h.slice;obtain⟨nl,z⟩:=Nm ns.length;have hlen:=h.len;have HK:=hid hk;rw[z] at P M hk hlen;obtain⟨na,nc,rfl,_⟩:=yU Y;obtain⟨ka,kc,rfl,cK⟩:=yU Z;have i0:(0:Int)<=(i:Int):=zZ _;have i1:(i:Int)<(nl:Int):=by omega
 have e4:decide ((0:Int)<=(i:Int))=true:=by simp
 have HH:=hid h;have HF:=hid C;have HN:=hid D;have h6:=hid z;have A5:=hid Y;have A6:=hid Z;have s1:=λO:Obj=>zi (nbl w O) P;have b1:=λO:Obj=>zi (nbl w O) a1
 by_cases h1:n.kind=1
 ·rw[zb h1] at f;have L:=(h.ev i _ D).2 h1;have l:=(h.ev i _ D).1;obtain⟨kd,text,H,ks⟩:=n;simp only at h1;subst h1;simp only at a1 a2 a3 a4 L l b1;have b2:=λO:Obj=>zi (nbl w O) a2;have b3:=λO:Obj=>zi (nbl w O) a3;have b4:=λO:Obj=>zi (nbl w O) a4;have B:=hid f;have CK:=hid cK;have a0:=hid L;have c9:=hid l;have b9:=b8.2.1;simp only at b9;clear h C D z N cK Y Z f L l;go_enter func169,ntmps169;go_wp2_with fail;obtain⟨t1,t2,t3,t4,t5⟩:=Sv w (.cells #[.bool false,.slice none 0 0] 246) (.cells #[.int .i64 1,.string text,.slice na H.length nc,.slice ka ks.length kc] 241) 9 Ref.qM;refine (oH ⟨1,text,H,ks⟩ (.slice na H.length nc,.slice ka ks.length kc) [Ref.qM] _ base w.heap.size _ (ownsRow_below A5.out t1) t5 b9 (by decide)).mono ?_;obtain⟨x,hx⟩:=Nm (Ref.yB ⟨1,text,H,ks⟩ [Ref.qM]);rw[hx];rintro e m ⟨rfl,j⟩;rw[t2] at j;have m0:=zg ((j.block _ (by omega)).trans t3);have m1:=zg ((j.block _ (by omega)).trans t4);have X:Hid (Below w.heap.size w m):=t1.trans (j.mono (by omega));have f3:=HF.out.below X.out;obtain⟨d6,d7,d8,d9⟩:=f3.cell;have F3:=hid f3;have z3:w.heap.size+3<=m.heap.size:=by have:=j.size;omega
  have n2:m.cell? ⟨w.heap.size+1,2,none⟩=some (.slice na H.length nc):=(m1 2).1;have n3:m.cell? ⟨w.heap.size+1,3,none⟩=some (.slice ka ks.length kc):=(m1 3).1;have r:m.cell? ⟨w.heap.size,0,none⟩=some (.bool false):=(m0 0).1;have r1:m.cell? ⟨w.heap.size,1,none⟩=some (.slice none 0 0):=(m0 1).1;have r2:=(m0 0).2;have r3:=(m0 1).2;have M0:=hid ((j.block _ (by omega)).trans t3);have HX:=hid hx;clear t1 t2 t3 t4 t5 m0 m1 j hx f3 P s1 b1 b2 b3 b4 a1 a2 a3 a4
  cases x with
  | false=>
   have s:=B.out;rw[za (by rw[HX.out];simp)] at s;subst s;have a:=hid (JI X.out (by omega) q (But.set m d 0 (.bool true)) (F3.out.shape true) (qD (m.setCell ⟨d,0,none⟩ (.bool true)) m.heap.size 9 1) (.bool false) (.slice none 0 0))
   have o:Hid (U5 w d sh pt (false,none) (.returned (.agg #[.bool false,.slice none 0 0])) (((m.setCell ⟨d,0,none⟩ (.bool true)).setCell ⟨w.heap.size,0,none⟩ (.bool false)).setCell ⟨w.heap.size,1,none⟩ (.slice none 0 0))):=by
    obtain⟨G,q2,q3⟩:=a.out;exact⟨_,rfl,G,by simpa using q2,q3⟩
   clear B a;have e6:w.heap.size≠d:=by omega
   go_wp2
   exact zN (v := .agg #[.bool false,.slice none 0 0]) (by simp[results,results169,go_sem,r,r1]) rfl o.out
  | true=>
   by_cases hone:H.length=1
   ·have s:=B.out;rw[zb ⟨HX.out,hone⟩] at s;have y:0<ks.length:=by have:=a0.out;omega
    obtain⟨g,rfl,G⟩:=CK.out 0 y;rw[xY,Ref.J5 ks 0 y] at G;have K:=c9.out ks[0] (xB y);obtain⟨c,hc⟩:=Nm (ks[0]);have b5:ks.getD 0 0=c:=by rw[<- hc];simp[List.getD,y]
    rw[b5] at s;rw[hc] at G K;have q2:=zi X.out G;obtain⟨S,J⟩:=Nm (Ref.qK ns (c:Int));rw[J] at s;subst s;have HS:=hid J;have c8:=hid K;have e5:((H.length:Int) != 1)=false:=by simp;omega
    have kk:(ks.length:Int)=1:=by have:=a0.out;omega
    clear B G hc b5 J K hone;go_wp2_with fail;refine (p.out c _ (HH.out.below X.out) (by have:=c8.out;omega) (by omega) F3.out).mono ?_;rintro e w4 ⟨lv,rfl,g4,f4,o4⟩;have u0:=zg ((g4.block w.heap.size (by omega) (λe=>by simp only[Option.some.injEq] at e;omega)).trans M0.out);have Q:w4.cell? ⟨w.heap.size,0,none⟩=some (.bool false):=(u0 0).1;have U:w4.cell? ⟨w.heap.size,1,none⟩=some (.slice none 0 0):=(u0 1).1;have p1:=(u0 0).2;have p3:=(u0 1).2;rw[HS.out] at f4 o4;obtain⟨E,F,rfl⟩:=yt o4;have a:=hid (JI X.out (by omega) q g4 f4 o4 (.bool true) (.slice E (S.getD []).length F));clear g4 f4 o4 u0 n2 n3 r r1 r2 r3 d6 d7 d8 d9 q2
    go_wp2
    exact zN (v := .agg #[.bool true,.slice E (S.getD []).length F]) (by simp[results,results169,go_sem,Q,U]) rfl ⟨_,rfl,a.out⟩
   ·have e5:((H.length:Int) != 1)=true:=by simp;omega
    have s:=B.out;rw[za (λe=>hone e.2)] at s;subst s;have a:=hid (JI X.out (by omega) q (But.set m d 0 (.bool true)) (F3.out.shape true) (qD (m.setCell ⟨d,0,none⟩ (.bool true)) m.heap.size 9 1) (.bool false) (.slice none 0 0))
    have o:Hid (U5 w d sh pt (false,none) (.returned (.agg #[.bool false,.slice none 0 0])) (((m.setCell ⟨d,0,none⟩ (.bool true)).setCell ⟨w.heap.size,0,none⟩ (.bool false)).setCell ⟨w.heap.size,1,none⟩ (.slice none 0 0))):=by
     obtain⟨G,q2,q3⟩:=a.out;exact⟨_,rfl,G,by simpa using q2,q3⟩
    clear B a;have e6:w.heap.size≠d:=by omega
    go_wp2
    exact zN (v := .agg #[.bool false,.slice none 0 0]) (by simp[results,results169,go_sem,r,r1]) rfl o.out
 ·rw[za h1] at f;obtain⟨S,J⟩:=Nm (Ref.qK ns (i:Int));rw[J] at f;subst f;have e2:(n.kind==1)=false:=by simp[h1]
  obtain⟨kd,b7⟩:=Nm n.kind;rw[b7] at a1 e2 b1;have HS:=hid J;clear h C D z J N cK h1 b7 A5 A6 Y Z a2 a3 a4;go_enter func169,ntmps169;go_wp2_with fail;have t:Below w.heap.size w (w.alloc (.cells #[.bool false,.slice none 0 0] 246)):=nbl _ _;refine (p.out i _ (HH.out.below t) HK.out u (HF.out.below t)).mono ?_;rintro e W ⟨lv,rfl,I,f2,A⟩;have r:W.heap[w.heap.size]?=some (.cells #[.bool false,.slice none 0 0] 246 (0,0)):=(I.block w.heap.size (by simp) (λe=>by simp only[Option.some.injEq] at e;omega)).trans (zQ w _);obtain⟨Q,p1⟩:=zg r 0;obtain⟨U,p3⟩:=zg r 1;have T:W.cell? ⟨w.heap.size,0,none⟩=some (.bool false):=Q;have V:W.cell? ⟨w.heap.size,1,none⟩=some (.slice none 0 0):=U;rw[HS.out] at f2 A;obtain⟨E,F,rfl⟩:=yt A;have G2:=hid I;have F2:=hid f2;have O2:=hid A;have BA:=hid t;clear I f2 A Q U t r;have a:=hid (JI BA.out (by simp) q G2.out F2.out O2.out (.bool false) (.slice E (S.getD []).length F))
  go_wp2
  exact zN (v := .agg #[.bool false,.slice E (S.getD []).length F]) (by simp[results,results169,go_sem,T,V]) rfl ⟨_,rfl,a.out⟩
theorem GI(s:BY)(w:World)(A:s.size<=12000) :
  Calls prog 252 #[.string s] w λe w'=>e = .returned (.bool (Ref.jY s))/\w'=w:=by
 obtain⟨R,g⟩:=Nm (Ref.jY s);rw[g];unfold Ref.jY at g
 cases hz:(s.toList==[48]) with
 | true=>
  rw[hz,Bool.true_or] at g;subst g;go_enter func252,ntmps252
  go_wp2
  go_ret;exact⟨rfl,rfl⟩
 | false=>
 rw[hz,Ji] at g
 by_cases hm:0<s.size/\(s.data.toList.getD 0 0).toNat=45
 ·rw[zb hm] at g;have t:0<s.size:=hm.1;have u:((s[0].toNat:Int)==45)=true:=by rw[<- Ref.X6 s t,hm.2];rfl
  have x:decide (0<(s.size:Int))=true:=by simp;omega
  have z:(s.extract 1 s.size).size=s.size-1:=by rw[jI];omega
  have c:=hid g;clear g hm
  by_cases hsz:1<=(s.size-1)/\(s.size-1)<=18
  ·have r:decide (((s.size-1):Nat)<(1:Int))=false:=by simp;omega
   have v:decide ((18:Int)<((s.size-1):Nat))=false:=by simp;omega
   have b:0<(s.extract 1 s.size).size:=by omega
   by_cases h48:(((s.extract 1 s.size)[0]'b).toNat:Int)=48
   ·have d:((((s.extract 1 s.size)[0]'b).toNat:Int)==48)=true:=by simp[h48]
    have a:=Ref.bJ (s.extract 1 s.size) b h48;rw[c.out] at a;subst a;clear c h48;go_enter func252,ntmps252
    go_wp2
    go_ret;exact⟨rfl,rfl⟩
   ·have d:((((s.extract 1 s.size)[0]'b).toNat:Int)==48)=false:=by simp[h48]
    have m:=hid h48;obtain⟨D,o⟩:∃D:Nat->Bool,(λk=>Ref.digits ((s.extract 1 s.size).data.toList.take k))=D:=⟨_,rfl⟩;have f:D 0=true:=by rw[<- o];rfl
    have p:=hid o;have n:=hid f;clear o f;clear h48;go_enter func252,ntmps252
    go_wp2
    go_loop [3] (λi=>∃k:Nat,k<=(s.size-1)/\i = .int .i64 k/\D k=true) (λi=>(s.size-1)-(intOf i).toNat)
    case atStart=>exact⟨0,zG _,rfl,n.out⟩
    case round=>
     obtain⟨k,y,rfl,l⟩:=hrel;have q:=hid l;clear l
     by_cases hlt:k<(s.size-1)
     ·have h:k<(s.extract 1 s.size).size:=by omega
      go_wp2
      all_goals first
       | (go_ret;exact⟨Zu ((Ref.oo (s.extract 1 s.size) k h (by omega)).symm.trans c.out),rfl⟩)
       | exact⟨⟨k+1,by omega,by go_num,by have j:=q.out;rw[<- p.out] at j |-;exact Ref.iR (s.extract 1 s.size) k h j (by omega) (by omega)⟩,by simp[intOf];omega⟩
     ·have a:=Ref.oq (s.extract 1 s.size) k (by omega) (by omega) (by omega) (by omega) m.out (by have j:=q.out;rw[<- p.out] at j;exact j);rw[c.out] at a;subst a;clear c
      go_wp2
      go_ret;exact⟨rfl,rfl⟩
  ·have a:=Ref.J8 (s.extract 1 s.size) (by omega);rw[c.out] at a;subst a;clear c;go_enter func252,ntmps252
   go_wp2
   all_goals first
    | (exfalso;omega)
    | (go_ret;exact⟨rfl,rfl⟩)
 ·rw[za hm] at g;have c:=hid g;clear g
  by_cases t:0<s.size
  ·have u:((s[0].toNat:Int)==45)=false:=by
    rw[<- Ref.X6 s t]
    have:(s.data.toList.getD 0 0).toNat≠45:=λe=>hm ⟨t,e⟩
    rw[qI];omega
   have x:decide (0<(s.size:Int))=true:=by simp;omega
   clear hm
   by_cases hsz:1<=s.size/\s.size<=18
   ·have r:decide ((s.size:Nat)<(1:Int))=false:=by simp;omega
    have v:decide ((18:Int)<(s.size:Nat))=false:=by simp;omega
    have b:0<(s).size:=by omega
    by_cases h48:(((s)[0]'b).toNat:Int)=48
    ·have d:((((s)[0]'b).toNat:Int)==48)=true:=by simp[h48]
     have a:=Ref.bJ (s) b h48;rw[c.out] at a;subst a;clear c h48;go_enter func252,ntmps252
     go_wp2
     go_ret;exact⟨rfl,rfl⟩
    ·have d:((((s)[0]'b).toNat:Int)==48)=false:=by simp[h48]
     have m:=hid h48;obtain⟨D,o⟩:∃D:Nat->Bool,(λk=>Ref.digits ((s).data.toList.take k))=D:=⟨_,rfl⟩;have f:D 0=true:=by rw[<- o];rfl
     have p:=hid o;have n:=hid f;clear o f;clear h48;go_enter func252,ntmps252
     go_wp2
     go_loop [3] (λi=>∃k:Nat,k<=s.size/\i = .int .i64 k/\D k=true) (λi=>s.size-(intOf i).toNat)
     case atStart=>exact⟨0,zG _,rfl,n.out⟩
     case round=>
      obtain⟨k,y,rfl,l⟩:=hrel;have q:=hid l;clear l
      by_cases hlt:k<s.size
      ·have h:k<(s).size:=by omega
       go_wp2
       all_goals first
        | (go_ret;exact⟨Zu ((Ref.oo (s) k h (by omega)).symm.trans c.out),rfl⟩)
        | exact⟨⟨k+1,by omega,by go_num,by have j:=q.out;rw[<- p.out] at j |-;exact Ref.iR (s) k h j (by omega) (by omega)⟩,by simp[intOf];omega⟩
      ·have a:=Ref.oq (s) k (by omega) (by omega) (by omega) (by omega) m.out (by have j:=q.out;rw[<- p.out] at j;exact j);rw[c.out] at a;subst a;clear c
       go_wp2
       go_ret;exact⟨rfl,rfl⟩
   ·have a:=Ref.J8 (s) (by omega);rw[c.out] at a;subst a;clear c;go_enter func252,ntmps252
    go_wp2
    all_goals first
     | (exfalso;omega)
     | (go_ret;exact⟨rfl,rfl⟩)
  ·have x:decide (0<(s.size:Int))=false:=zO (by omega);have r:decide ((s.size:Int)<1)=true:=by simp;omega
   have a:=Ref.J8 s (by omega);rw[c.out] at a;subst a;clear c hm;go_enter func252,ntmps252
   go_wp2
   go_ret;exact⟨rfl,rfl⟩
theorem Uf(s:BY)(w:World)(a:s.size<=12000)(x:Bool)(b:Ref.jY s=x) :
  Calls prog 252 #[.string s] w λe w'=>e = .returned (.bool x)/\w'=w:=by
 subst b;exact GI s w a
theorem SX(op:BY)(l:List BY)(lv:Value)(base:Nat)(w:World)(h:w.ownsRow base 9 1 lv l.length (Ref.strCells l))(C:l.length<=10)(j:∀s ∈ l,s.size<=12000) :
  Calls prog 239 #[.string op,lv] w λe w'=>e = .returned (.bool (Ref.Zn op l))/\w'=w:=by
 obtain⟨R,n⟩:=Nm (Ref.Zn op l);rw[n];unfold Ref.Zn at n;obtain⟨D,E,rfl,x⟩:=yU h;have q:=hid n;have A:=hid x;have r:=hid j;clear n x j h;go_enter func239,ntmps239
 go_wp2
 go_loop [5] (λi=>∃k:Nat,k<=l.length/\i = .int .i64 k/\((l.take k).all (Ref.ug op))=true) (λi=>l.length-(intOf i).toNat)
 case atStart=>exact⟨0,zG _,rfl,by simp⟩
 case round=>
  obtain⟨k,B,rfl,hb⟩:=hrel;have m:=hid hb;clear hb
  by_cases hlt:k<l.length
  ·obtain⟨g,rfl,z⟩:=A.out k hlt;rw[Ref.XD l k hlt] at z;have a:=r.out l[k] (xB hlt);obtain⟨s,t⟩:=Nm (l[k]);rw[t] at z a;have v:=hid t;clear t;have good:Hid (Ref.ug op s=true->((l.take (k+1)).all (Ref.ug op))=true):=λe=>Ref.gp l _ k hlt m.out (by rw[v.out];exact e);have bad:Hid (Ref.ug op s=false->R=false):=λe=>by rw[<- q.out,Ref.gq l _ k hlt (by rw[v.out];exact e)];rfl
   obtain⟨V,o⟩:=Nm (Ref.ug op s);rw[o] at good bad;unfold Ref.ug at o;have d:=hid o;clear o m;obtain⟨N,y⟩:=Nm (Ref.jY s);have c:=hid y;clear y
   cases hE:s.toList.isEmpty with
   | true=>
    cases N with
    | true=>
     have b:=c.out
     go_wp2_with (go_at_call 252;refine (Uf s _ a true c.out).mono ?_;rintro e u ⟨rfl,rfl⟩)
     all_goals first
      | (go_ret;refine⟨Zu (bad.out ?_).symm,rfl⟩;rw[<- d.out];first|(simp only[*];simp;done)|(simp only[*];simp;omega)|(simp[*];done)|(simp[*];omega))
      | (refine⟨⟨k+1,by omega,by go_num,good.out ?_⟩,by simp[intOf];omega⟩;rw[<- d.out];first|(simp only[*];simp;done)|(simp only[*];simp;omega)|(simp[*];done)|(simp[*];omega))
    | false=>
     have b:=c.out
     go_wp2_with (go_at_call 252;refine (Uf s _ a false c.out).mono ?_;rintro e u ⟨rfl,rfl⟩)
     all_goals first
      | (go_ret;refine⟨Zu (bad.out ?_).symm,rfl⟩;rw[<- d.out];first|(simp only[*];simp;done)|(simp only[*];simp;omega)|(simp[*];done)|(simp[*];omega))
      | (refine⟨⟨k+1,by omega,by go_num,good.out ?_⟩,by simp[intOf];omega⟩;rw[<- d.out];first|(simp only[*];simp;done)|(simp only[*];simp;omega)|(simp[*];done)|(simp[*];omega))
   | false=>
    cases N with
    | true=>
     have b:=c.out
     go_wp2_with (go_at_call 252;refine (Uf s _ a true c.out).mono ?_;rintro e u ⟨rfl,rfl⟩)
     all_goals first
      | (go_ret;refine⟨Zu (bad.out ?_).symm,rfl⟩;rw[<- d.out];first|(simp only[*];simp;done)|(simp only[*];simp;omega)|(simp[*];done)|(simp[*];omega))
      | (refine⟨⟨k+1,by omega,by go_num,good.out ?_⟩,by simp[intOf];omega⟩;rw[<- d.out];first|(simp only[*];simp;done)|(simp only[*];simp;omega)|(simp[*];done)|(simp[*];omega))
    | false=>
     have b:=c.out
     go_wp2_with (go_at_call 252;refine (Uf s _ a false c.out).mono ?_;rintro e u ⟨rfl,rfl⟩)
     all_goals first
      | (go_ret;refine⟨Zu (bad.out ?_).symm,rfl⟩;rw[<- d.out];first|(simp only[*];simp;done)|(simp only[*];simp;omega)|(simp[*];done)|(simp[*];omega))
      | (refine⟨⟨k+1,by omega,by go_num,good.out ?_⟩,by simp[intOf];omega⟩;rw[<- d.out];first|(simp only[*];simp;done)|(simp only[*];simp;omega)|(simp[*];done)|(simp[*];omega))
  ·have e:=Ref.gm l (Ref.ug op) k hlt m.out;have p:=q.out;rw[e,Z0] at p;unfold Ref.uP at p;have f:=hid p;clear p e q m
   go_wp2
   all_goals
    go_ret
    first
     | exact⟨rfl,rfl⟩
     | (refine⟨Zu ?_,rfl⟩;rw[<- f.out];done)
     | (refine⟨Zu ?_,rfl⟩;rw[<- f.out];simp[*];done)
theorem zP.rd{w:World}{base b:Nat}{m:Ref.zl}{s p:Value}{d:List (Value×Value)}(h:zP w base b m s p d)(q:m.nodes≠[])(f:Ref.Ev m.nodes)(hb:Ref.Bnd 4000 m)(r:Ref.vD 12000 m.nodes) :
  ∃e cap,uH w base b e cap m.nodes:=by
 have o:0<m.nodes.length:=List.length_pos_iff.2 q
 obtain⟨e,cap,rfl⟩:∃g c,p = .slice (some ⟨g,0,none⟩) m.nodes.length c:=by
  rcases h.ownN.2 with ⟨_,h0⟩|⟨g,c,cur,rfl,_⟩
  ·omega
  ·exact⟨_,_,rfl⟩
 refine⟨e,cap,⟨zy h.blk,(h.ownN.lt e rfl).2⟩,(h.cell 2).1,λi n hi=>?_,f,hb.nodes,λi n hi=>⟨(hb.kids i n hi).1,(hb.kids i n hi).2,r i n hi⟩⟩;have j:i<m.nodes.length:=(zR.1 hi).1;have l:i<d.length:=by rw[h.len];exact j
 have k:=zn l;have a:=Us m.nodes d h.len i n d[i] hi k;exact⟨d[i],(h.ownN.cellAt _ (by omega)).trans a.1,(h.ownN.cellAt _ (by omega)).trans a.2.1,(h.ownN.cellAt _ (by omega)).trans a.2.2.1,(h.ownN.cellAt _ (by omega)).trans a.2.2.2,h.names i n _ hi k,h.kids i n _ hi k⟩
theorem Oo(text:BY)(h:(qC text).1=0):Ref.Ev (qC text).2.2.nodes/\(qC text).2.2.nodes≠[]/\0<=(qC text).2.2.root/\(qC text).2.2.root<((qC text).2.2.nodes.length:Int)/\Ref.vD 12000 (qC text).2.2.nodes:=by
 obtain⟨R,a⟩:=Nm (qC text);rw[a] at h |-;unfold qC at a
 by_cases h1:4000<text.size
 ·rw[zb h1] at a;subst a;simp at h
 rw[za h1] at a
 by_cases h2:(Ref.run Ref.init text.data.toList 0).1≠0
 ·rw[zb h2] at a;subst a;exact absurd h h2
 rw[za h2] at a
 by_cases h3:(Ref.run Ref.init text.data.toList 0).2.2.state≠6\/(Ref.run Ref.init text.data.toList 0).2.2.opn≠[]
 ·rw[zb h3] at a;subst a;simp at h
 rw[za h3] at a;subst a
 have j:(Ref.run Ref.init text.data.toList 0).2.2.state=6:=by
  by_cases e:(Ref.run Ref.init text.data.toList 0).2.2.state=6
  ·exact e
  ·exact absurd (.inl e) h3
 have g:(Ref.run Ref.init text.data.toList 0).1=0:=by
  by_cases e:(Ref.run Ref.init text.data.toList 0).1=0
  ·exact e
  ·exact absurd e h2
 have b:=(Ref.rQ text.data.toList Ref.init 0 0 Ref.Gt aR aQ g).1;have c:=Ref.rP text.data.toList Ref.init 0 0 4000 (λi n hi=>by simp[Ref.init] at hi) aQ (by rw[Ref.zA];omega);have f:¬Ref.pend (Ref.run Ref.init text.data.toList 0).2.2:=by unfold Ref.pend;omega
 have d:=b.full (by unfold Ref.asks;omega);exact⟨b.ev f,d,b.root0,b.root d,c⟩
structure xm (w:World) (fb:Nat) (nc cc:Array Value) (sh pt:Bool) (wx:World):Prop where
 g:w.grownBy wx (some fb)
 f:qd wx fb sh pt
 r:wx.heap[w.heap.size]?=some (.cells #[.string ⟨#[]⟩,.string ⟨#[]⟩,.slice none 0 0,.bool false] 332 (0,0))
 n:wx.heap[w.heap.size+1]?=some (.cells nc 241 (0,0))
 c:wx.heap[w.heap.size+2]?=some (.cells cc 332 (0,0))
theorem sZ(w:World)(a b c:Obj):(((w.alloc a).alloc b).alloc c).heap[w.heap.size]?=some a/\(((w.alloc a).alloc b).alloc c).heap[w.heap.size+1]?=some b/\(((w.alloc a).alloc b).alloc c).heap[w.heap.size+2]?=some c:=by
 refine⟨?_,?_,?_⟩
 ·rw[Za _ _ _ (by simp;omega)];exact (uy w a b).1
 ·rw[Za _ _ _ (by simp)];exact (uy w a b).2
 ·have h:=zQ ((w.alloc a).alloc b) c;rw[jT,jT] at h;exact h
theorem xm.start{w:World}{c:Nat}{sh pt:Bool}(d:qd w c sh pt)(b a:Array Value) :
  xm w c b a sh pt (((w.alloc (.cells #[.string ⟨#[]⟩,.string ⟨#[]⟩,.slice none 0 0,.bool false] 332)).alloc (.cells b 241)).alloc (.cells a 332)):=by
 have hb:Below w.heap.size w (((w.alloc (.cells #[.string ⟨#[]⟩,.string ⟨#[]⟩,.slice none 0 0,.bool false] 332)).alloc (.cells b 241)).alloc (.cells a 332)):=
  ((nbl _ _).alloc (by simp) _).alloc (by simp;omega) _
 obtain⟨e,f,g⟩:=sZ w (.cells #[.string ⟨#[]⟩,.string ⟨#[]⟩,.slice none 0 0,.bool false] 332) (.cells b 241) (.cells a 332);exact⟨But.of _ hb,d.below hb,e,f,g⟩
theorem xm.size{w a:World}{d:Nat}{e b:Array Value}{sh pt:Bool}(h:xm w d e b sh pt a):w.heap.size+3<=a.heap.size:=zy h.c
theorem xm.below{w a i:World}{d:Nat}{e b:Array Value}{sh pt:Bool}(h:xm w d e b sh pt a)(hb:Below a.heap.size a i):xm w d e b sh pt i:=by
 have j:=h.size;exact⟨But.trans h.g (But.of _ hb),h.f.below hb,(hb.block _ (by omega)).trans h.r,(hb.block _ (by omega)).trans h.n,(hb.block _ (by omega)).trans h.c⟩
theorem xm.grown{w k f:World}{a:Nat}{j i:Array Value}{sh pt d b:Bool}(m:a<w.heap.size)(h:xm w a j i sh pt k)(e:k.grownBy f (some a))(l:qd f a d b):xm w a j i d b f:=by
 have o:=h.size;exact⟨But.trans h.g e,l,(e.block _ (by omega) (by simp;omega)).trans h.r,(e.block _ (by omega) (by simp;omega)).trans h.n,(e.block _ (by omega) (by simp;omega)).trans h.c⟩
theorem xm.shape{w e:World}{a:Nat}{d c:Array Value}{sh pt:Bool}(b:a<w.heap.size)(h:xm w a d c sh pt e)(x:Bool):xm w a d c x pt (e.setCell ⟨a,0,none⟩ (.bool x)):=
 h.grown b (But.set _ _ _ _) (h.f.shape x)
theorem xm.put{w d:World}{a:Nat}{k:Array Value}{e c1 c2 c3:Value}{sh pt:Bool}(l:a<w.heap.size)(h:xm w a k #[e,c1,c2,c3] sh pt d)(o:Nat)(u:Value)(j:Array Value)(b:j=#[e,c1,c2,c3].set! o u):xm w a k j sh pt (d.setCell ⟨w.heap.size+2,o,none⟩ u):=by
 subst b;refine⟨⟨h.g.os,h.g.tape,h.g.output,by simp[World.setCell];exact h.g.size,λi hi m=>?_⟩,?_,?_,?_,?_⟩
 ·rw[qc _ _ _ _ (by simp only;omega)];exact h.g.block i hi m
 ·unfold qd;rw[qc _ _ _ _ (by simp only;omega)];exact h.f
 ·rw[qc _ _ _ _ (by simp only;omega)];exact h.r
 ·rw[qc _ _ _ _ (by simp only;omega)];exact h.n
 ·exact yz d (w.heap.size+2) o _ _ _ h.c
theorem xm.cells{w a:World}{b:Nat}{e g i j d c1 c2 c3:Value}{sh pt:Bool}(h:xm w b #[e,g,i,j] #[d,c1,c2,c3] sh pt a) :
  (a.cell? ⟨w.heap.size+1,0,none⟩=some e/\a.cell? ⟨w.heap.size+1,1,none⟩=some g/\a.cell? ⟨w.heap.size+1,2,none⟩=some i/\a.cell? ⟨w.heap.size+1,3,none⟩=some j) /\
  (a.cell? ⟨w.heap.size+2,0,none⟩=some d/\a.cell? ⟨w.heap.size+2,1,none⟩=some c1/\a.cell? ⟨w.heap.size+2,2,none⟩=some c2/\a.cell? ⟨w.heap.size+2,3,none⟩=some c3) /\
  (a.frozen? ⟨w.heap.size+2,0,none⟩=false/\a.frozen? ⟨w.heap.size+2,1,none⟩=false/\a.frozen? ⟨w.heap.size+2,2,none⟩=false/\a.frozen? ⟨w.heap.size+2,3,none⟩=false) /\
  (a.cell? ⟨b,0,none⟩=some (.bool sh)/\a.cell? ⟨b,1,none⟩=some (.bool pt)/\a.frozen? ⟨b,0,none⟩=false/\a.frozen? ⟨b,1,none⟩=false):=
 ⟨⟨(zg h.n 0).1,(zg h.n 1).1,(zg h.n 2).1,(zg h.n 3).1⟩,⟨(zg h.c 0).1,(zg h.c 1).1,(zg h.c 2).1,(zg h.c 3).1⟩,
  ⟨(zg h.c 0).2,(zg h.c 1).2,(zg h.c 2).2,(zg h.c 3).2⟩,h.f.cell⟩
theorem xm.fin{w b:World}{a:Nat}{j c:Array Value}{sh pt:Bool}(d:a<w.heap.size)(h:xm w a j c sh pt b)(u0 u1 u2 u3:Value) :
  w.grownBy ((((b.setCell ⟨w.heap.size,0,none⟩ u0).setCell ⟨w.heap.size,1,none⟩ u1).setCell ⟨w.heap.size,2,none⟩ u2).setCell ⟨w.heap.size,3,none⟩ u3) (some a) /\
  qd ((((b.setCell ⟨w.heap.size,0,none⟩ u0).setCell ⟨w.heap.size,1,none⟩ u1).setCell ⟨w.heap.size,2,none⟩ u2).setCell ⟨w.heap.size,3,none⟩ u3) a sh pt:=by
 refine⟨⟨h.g.os,h.g.tape,h.g.output,by simp[World.setCell];exact h.g.size,λi hi e=>?_⟩,?_⟩
 ·rw[qc _ _ _ _ (by simp only;omega),qc _ _ _ _ (by simp only;omega),qc _ _ _ _ (by simp only;omega),qc _ _ _ _ (by simp only;omega)];exact h.g.block i hi e
 ·unfold qd;rw[qc _ _ _ _ (by simp only;omega),qc _ _ _ _ (by simp only;omega),qc _ _ _ _ (by simp only;omega),qc _ _ _ _ (by simp only;omega)];exact h.f
def Jl(w:World)(a:Nat)(sh pt:Bool)(R:Ref.qg)(e:Ending)(w':World):Prop:=
 ∃lv,e = .returned (.agg #[.string R.op,.string R.key,lv,.bool R.no])/\w.grownBy w' (some a)/\qd w' a (sh||R.sh) (pt||R.pt)/\w'.ownsRow w.heap.size 9 1 lv R.vals.length (Ref.strCells R.vals)
structure vv (w0:World) (base b gg cap:Nat) (ns:List Ref.Node) (w:World):Prop where
 rd:uH w0 base b gg cap ns
 non:Ref.NoN ns
 bel:Below w0.heap.size w0 w
theorem vv.at{c w:World}{base b a cap:Nat}{ns:List Ref.Node}(h:vv c base b a cap ns w):uH w base b a cap ns:=h.rd.below h.bel
theorem vv.grown{a w w':World}{base b d cap c:Nat}{ns:List Ref.Node}(h:vv a base b d cap ns w)(f:w.grownBy w' (some c))(e:a.heap.size<=c):vv a base b d cap ns w':=⟨h.rd,h.non,h.bel.trans (But.below f h.bel.size e)⟩
theorem vv.names{c w:World}{base b a cap:Nat}{ns:List Ref.Node}(h:vv c base b a cap ns w){i:Nat}{n:Ref.Node}(hi:ns[i]?=some n):n.names.length<=n.kids.length:=by
 by_cases h1:n.kind=1
 ·rw[(h.rd.ev i n hi).2 h1];exact ze _
 ·rw[h.non i n hi h1];simp
theorem JV{f w:World}{base b g cap:Nat}{ns:List Ref.Node}(h:vv f base b g cap ns w){i:Nat}{n:Ref.Node}(hi:ns[i]?=some n) :
  ∃v:Value×Value,(∃y z,v.1 = .slice y n.names.length z)/\(∃u x,v.2 = .slice u n.kids.length x) /\
   (∀W,Below f.heap.size f W->W.cell? ⟨g,i*4,none⟩=some (.int .i64 n.kind)/\W.cell? ⟨g,i*4+1,none⟩=some (.string n.text)/\W.cell? ⟨g,i*4+2,none⟩=some v.1/\W.cell? ⟨g,i*4+3,none⟩=some v.2) /\
   (∀W (name:BY),Below f.heap.size f W->Calls prog 126 #[ZR n v,.string name] W λe w'=>e = .returned (.int .i64 (Ref.zq n name))/\Below W.heap.size W w') /\
   (∀W (ts:List BY) (j:Value) (d:Nat),Below f.heap.size f W->W.ownsRow d 9 1 j ts.length (Ref.strCells ts)->ts.length<=4000->Calls prog 168 #[ZR n v,j] W λe w'=>e = .returned (.bool (Ref.yB n ts))/\Below W.heap.size W w'):=by
 obtain⟨v,o,p,q,r,k,l⟩:=h.rd.node i n hi;have m:=h.rd.small i n hi;refine⟨v,?_,?_,λW hb=>⟨zi hb o,zi hb p,zi hb q,zi hb r⟩,λW name hb=>FW n v name base W (ownsRow_below k hb) (ownsRow_below l hb) (h.names hi) m.1,λW ts j d hb s t=>oH n v ts j base d W (ownsRow_below k hb) s m.2.1 t⟩
 ·obtain⟨a,c,e,_⟩:=yU k;exact⟨a,c,e⟩
 ·obtain⟨a,c,e,_⟩:=yU l;exact⟨a,c,e⟩
end Go.Proofs.YtagnlbgbnfnapaaGreatDoor
