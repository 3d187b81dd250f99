/- P -/
import Derived.Test.YtfjpcldndaiifaaGreatDoorA24
import Derived.Test.YtfjpcldndaiifaaGreatDoorA05
open Go.Proofs.Tryz
set_option maxRecDepth 100000
set_option maxHeartbeats 1000000
namespace Go.Proofs.YtfjpcldndaiifaaGreatDoor
open Go.RowKit
def fP(w:J)(a:Nat)(d c:Bool)(R:Bool×Option (List BY))(e:Ending)(w':J):Prop:=
 ∃b,e=.returned (.agg #[.bool R.1,b])/\w.grownBy w' (some a)/\qA w' a (d || !R.2.isSome) (c || !((R.2.getD []).all U.qD))/\w'.ownsRow w.heap.size 9 1 b (R.2.getD []).length (U.strCells (R.2.getD []))
theorem zfl(w:J)(a b:Obj)(t:TypeId)(s:BY):BQ w (((w.alloc a).alloc b).alloc (L8 #[S9 s] t))/\(((w.alloc a).alloc b).alloc (L8 #[S9 s] t)).heap.size=w.heap.size+3 /\
  (((w.alloc a).alloc b).alloc (L8 #[S9 s] t)).heap[w.heap.size]?=some a/\(((w.alloc a).alloc b).alloc (L8 #[S9 s] t)).heap[w.heap.size+1]?=some b /\
  (((w.alloc a).alloc b).alloc (L8 #[S9 s] t)).ownsRow w.heap.size t 1 (TL (some (G8 (w.heap.size+1+1) 0)) 1 1) 1 (U.strCells [s]):=by
 refine⟨((nbl _ _).alloc (by simp) _).alloc (by simp;omega) _,by simp,?_,?_,?_⟩
 ·rw[Qz _ _ _ (by simp;omega)];exact(Zn w a b).1
 ·rw[Qz _ _ _ (by simp)];exact(Zn w a b).2
 have h:=bB (base:=w.heap.size) (e:=t) (size:=1) ((w.alloc a).alloc b) #[S9 s] 1 (by simp;omega) (by decide) rfl;rw[uH,uH]at h;exact h
theorem Kb{w A a:J}{b n:Nat}{k j:Bool}{e:TypeId}{h:Y}{xs:List Y}(l:BQ w A)(d:w.heap.size<A.heap.size)(m:b<w.heap.size)(g:A.grownBy a (some b))(f:qA a b k j)
  (o:a.ownsRow A.heap.size e 1 h n xs)(u1 u2:Y):w.grownBy ((a.setCell (G8 w.heap.size 0) u1).setCell (G8 w.heap.size 1) u2) (some b)/\qA ((a.setCell (G8 w.heap.size 0) u1).setCell (G8 w.heap.size 1) u2) b k j /\
    ((a.setCell (G8 w.heap.size 0) u1).setCell (G8 w.heap.size 1) u2).ownsRow w.heap.size e 1 h n xs:=by
 have c:w.grownBy a (some b):=But.trans (But.of _ l) g;refine⟨⟨c.os,c.tape,c.output,by simp[World.setCell];exact c.size,λi p q=>?_⟩,?_,?_⟩
 ·rw[qy _ _ _ _ (by simp only;omega),qy _ _ _ _ (by simp only;omega)];exact c.block i p q
 ·unfold qA;rw[qy _ _ _ _ (by simp only;omega),qy _ _ _ _ (by simp only;omega)];exact f
 exact xS (dS (dS o d _) d _) (by omega)
theorem Mv(k:Int)(base b gg cap:Nat)(ns:List U.Node)(d:Nat)(sh pt:Bool)(w:J)(h:ZM w base b gg cap ns)(hk:k<ns.length)(z:-1<=k)(E:qA w d sh pt):R8 123 #[RG b 0,R9 k,RG d 0] w (fP w d sh pt (U.jG ns k)):=by
 have p:G6 (∀(k:Int) (w:J),ZM w base b gg cap ns->k<ns.length -> -1<=k->qA w d sh pt->R8 172 #[RG b 0,R9 k,RG d 0] w (aX w d sh pt (U.xq ns k))):=
  λk w h hk z E=>Er k base b gg cap ns d sh pt w h hk z E
 have q:d<w.heap.size:=zt E
 by_cases hneg:k<0
 ·rw[U.Mt ns k hneg];obtain⟨R,f⟩:=Nm (U.xq ns k);rw[f];have⟨D,HH,HF⟩:=M4 f h E;have f5:decide ((0:Int)<=k)=false:=by simp;omega
  clear h E f;go_enter func123,ntmps123;go_wp2_with fail;have y:BQ w (w.alloc (L8 #[T9,R4] 170)):=nbl _ _;apply(p.o k _ (HH.o.below y) hk z (HF.o.below y)).mono;rintro e w2⟨lv,rfl,L,f2,C⟩;have s:w2.heap[w.heap.size]?=some (L8 #[T9,R4] 170 (0,0)):=(L.block w.heap.size (by simp) (λe=>by simp only[Option.some.injEq]at e;omega)).trans (zA w _);obtain⟨W,p1⟩:=zg s 0;obtain⟨p2,p3⟩:=zg s 1;have X:w2.cell? (G8 w.heap.size 0)=some T9:=W;have a7:w2.cell? (G8 w.heap.size 1)=some R4:=p2;rw[D.o]at f2 C;obtain⟨G,H,rfl⟩:=jb C;have⟨G2,F2,O2,BA⟩:=M5 L f2 C y;clear L f2 C W p2 y s;have a:=G7 (Kb BA.o (by simp) q G2.o F2.o O2.o T9 (TL G (R.getD []).length H));go_wp2;exact zG (v := .agg #[T9,TL G (R.getD []).length H]) (by simp[results,results123,go_sem,X,a7]) rfl ⟨_,rfl,a.o⟩
 obtain⟨i,rfl⟩:∃i:Nat,k=i:=⟨k.toNat,by omega⟩;have Q:i<ns.length:=by omega
 obtain⟨R,f⟩:=Nm (U.jG ns (i:Int));rw[f];unfold U.jG at f;rw[za hneg]at f;simp only[yE,zn Q]at f;have F:=zn Q;obtain⟨⟨v1,v2⟩,a1,a2,a3,a4,a5,a6⟩:=h.node i _ F;have c7:=h.small i _ F;obtain⟨n,T⟩:=Nm (ns[i]);rw[T]at f F a1 a2 a5 a6 c7;simp only at a3 a4 a5 a6;have V:=h.slice;obtain⟨nl,B⟩:=Nm ns.length;have c6:=h.len;have HK:=G7 hk;rw[B]at V Q hk c6;obtain⟨na,nc,rfl,_⟩:=jU a5;obtain⟨ka,kc,rfl,cK⟩:=jU a6;have i0:(0:Int)<=(i:Int):=qd _;have i1:(i:Int)<(nl:Int):=by omega
 have f5:decide ((0:Int)<=(i:Int))=true:=by simp
 have⟨HH,HF,HN,i2,A5,A6⟩:=M7 h E F B a5 a6;have s1:=λO:Obj=>zi (nbl w O) V;have b1:=λO:Obj=>zi (nbl w O) a1
 by_cases h1:n.kind=1
 ·rw[zb h1]at f;have P:=(h.ev i _ F).2 h1;have l:=(h.ev i _ F).1;obtain⟨kd,t,K,r⟩:=n;simp only at h1;subst h1;simp only at a1 a2 a3 a4 P l b1;have b2:=λO:Obj=>zi (nbl w O) a2;have b3:=λO:Obj=>zi (nbl w O) a3;have b4:=λO:Obj=>zi (nbl w O) a4;have⟨D,CK,b8,d9⟩:=M5 f cK P l;have c8:=c7.2.1;simp only at c8;clear h E F B T cK a5 a6 f P l;go_enter func123,ntmps123;go_wp2_with fail;obtain⟨t1,t2,t3,t4,t5⟩:=zfl w (L8 #[T9,R4] 170) (L8 #[R9 1,S9 t,TL na K.length nc,TL ka r.length kc] 165) 9 U.xx;refine(DV ⟨1,t,K,r⟩ (TL na K.length nc,TL ka r.length kc) [U.xx] _ base w.heap.size _ (ownsRow_below A5.o t1) t5 c8 (by decide)).mono ?_;obtain⟨x,hx⟩:=Nm (U.jA ⟨1,t,K,r⟩ [U.xx]);rw[hx];rintro e m⟨rfl,j⟩;rw[t2]at j;have m0:=zg ((j.block _ (by omega)).trans t3);have m1:=zg ((j.block _ (by omega)).trans t4);have B3:G6 (BQ w m):=t1.trans (j.mono (by omega));have f3:=HF.o.below B3.o;obtain⟨e4,e5,e6,e7⟩:=f3.cell;have F3:=G7 f3;have z3:w.heap.size+3<=m.heap.size:=by have:=j.size;omega
  have n2:m.cell? (G8 (w.heap.size+1) 2)=some (TL na K.length nc):=(m1 2).1;have n3:m.cell? (G8 (w.heap.size+1) 3)=some (TL ka r.length kc):=(m1 3).1;have s:m.cell? (G8 w.heap.size 0)=some T9:=(m0 0).1;have r1:m.cell? (G8 w.heap.size 1)=some R4:=(m0 1).1;have r2:=(m0 0).2;have r3:=(m0 1).2;have M0:=G7 ((j.block _ (by omega)).trans t3);have HX:=G7 hx;clear t1 t2 t3 t4 t5 m0 m1 j hx f3 V s1 b1 b2 b3 b4 a1 a2 a3 a4
  cases x with
  | false=>
   have u:=D.o;rw[za (by rw[HX.o];simp)]at u;subst u;have a:=G7 (Kb B3.o (by omega) q (But.set m d 0 L6) (F3.o.shape true) (qF (m.setCell (G8 d 0) L6) m.heap.size 9 1) T9 R4)
   have o:G6 (fP w d sh pt (false,none) (.returned (.agg #[T9,R4])) (((m.setCell (G8 d 0) L6).setCell (G8 w.heap.size 0) T9).setCell (G8 w.heap.size 1) R4)):=by
    obtain⟨I,q2,q3⟩:=a.o;exact⟨_,rfl,I,by simpa using q2,q3⟩
   clear D a;have f7:w.heap.size≠d:=by omega
   go_wp2;exact zG (v := .agg #[T9,R4]) (by simp[results,results123,go_sem,s,r1]) rfl o.o
  | true=>
   by_cases hone:K.length=1
   ·have u:=D.o;rw[zb ⟨HX.o,hone⟩]at u;have A:0<r.length:=by have:=b8.o;omega
    obtain⟨g,rfl,I⟩:=CK.o 0 A;rw[yK,U.KI r 0 A]at I;have N:=d9.o r[0] (qm A);obtain⟨c,hc⟩:=Nm (r[0]);have c3:r.getD 0 0=c:=by rw[<- hc];simp[List.getD,A]
    rw[c3]at u;rw[hc]at I N;have q2:=zi B3.o I;obtain⟨S,M⟩:=Nm (U.xq ns (c:Int));rw[M]at u;subst u;have⟨HS,d8⟩:=D5 M N;have f6:((K.length:Int) != 1)=false:=by simp;omega
    have kk:(r.length:Int)=1:=by have:=b8.o;omega
    clear D I hc c3 M N hone;go_wp2_with fail;apply(p.o c _ (HH.o.below B3.o) (by have:=d8.o;omega) (by omega) F3.o).mono;rintro e w4⟨lv,rfl,g4,f4,o4⟩;have u0:=zg ((g4.block w.heap.size (by omega) (λe=>by simp only[Option.some.injEq]at e;omega)).trans M0.o);have W:w4.cell? (G8 w.heap.size 0)=some T9:=(u0 0).1;have p2:w4.cell? (G8 w.heap.size 1)=some R4:=(u0 1).1;have p1:=(u0 0).2;have p3:=(u0 1).2;rw[HS.o]at f4 o4;obtain⟨G,H,rfl⟩:=jb o4;have a:=G7 (Kb B3.o (by omega) q g4 f4 o4 L6 (TL G (S.getD []).length H));clear g4 f4 o4 u0 n2 n3 s r1 r2 r3 e4 e5 e6 e7 q2;go_wp2;exact zG (v := .agg #[L6,TL G (S.getD []).length H]) (by simp[results,results123,go_sem,W,p2]) rfl ⟨_,rfl,a.o⟩
   have f6:((K.length:Int) != 1)=true:=by simp;omega
   have u:=D.o;rw[za (λe=>hone e.2)]at u;subst u;have a:=G7 (Kb B3.o (by omega) q (But.set m d 0 L6) (F3.o.shape true) (qF (m.setCell (G8 d 0) L6) m.heap.size 9 1) T9 R4)
   have o:G6 (fP w d sh pt (false,none) (.returned (.agg #[T9,R4])) (((m.setCell (G8 d 0) L6).setCell (G8 w.heap.size 0) T9).setCell (G8 w.heap.size 1) R4)):=by
    obtain⟨I,q2,q3⟩:=a.o;exact⟨_,rfl,I,by simpa using q2,q3⟩
   clear D a;have f7:w.heap.size≠d:=by omega
   go_wp2;exact zG (v := .agg #[T9,R4]) (by simp[results,results123,go_sem,s,r1]) rfl o.o
 rw[za h1]at f;obtain⟨S,M⟩:=Nm (U.xq ns (i:Int));rw[M]at f;subst f;have f0:(n.kind==1)=false:=by simp[h1]
 obtain⟨kd,c5⟩:=Nm n.kind;rw[c5]at a1 f0 b1;have HS:=G7 M;clear h E F B M T cK h1 c5 A5 A6 a5 a6 a2 a3 a4;go_enter func123,ntmps123;go_wp2_with fail;have y:BQ w (w.alloc (L8 #[T9,R4] 170)):=nbl _ _;apply(p.o i _ (HH.o.below y) HK.o z (HF.o.below y)).mono;rintro e w2⟨lv,rfl,L,f2,C⟩;have s:w2.heap[w.heap.size]?=some (L8 #[T9,R4] 170 (0,0)):=(L.block w.heap.size (by simp) (λe=>by simp only[Option.some.injEq]at e;omega)).trans (zA w _);obtain⟨W,p1⟩:=zg s 0;obtain⟨p2,p3⟩:=zg s 1;have X:w2.cell? (G8 w.heap.size 0)=some T9:=W;have a7:w2.cell? (G8 w.heap.size 1)=some R4:=p2;rw[HS.o]at f2 C;obtain⟨G,H,rfl⟩:=jb C;have⟨G2,F2,O2,BA⟩:=M5 L f2 C y;clear L f2 C W p2 y s;have a:=G7 (Kb BA.o (by simp) q G2.o F2.o O2.o T9 (TL G (S.getD []).length H));go_wp2;exact zG (v := .agg #[T9,TL G (S.getD []).length H]) (by simp[results,results123,go_sem,X,a7]) rfl ⟨_,rfl,a.o⟩
theorem BF(s:BY)(w:J)(B:s.size<=12000):R8 219 #[S9 s] w λe A=>e=.returned (.bool (U.qW s))/\A=w:=by
 obtain⟨R,g⟩:=Nm (U.qW s);rw[g];unfold U.qW at g
 cases hz:(s.toList==[48]) with
 | true=>
  rw[hz,UI]at g;subst g;go_enter func219,ntmps219;go_wp2;go_ret;exact⟨rfl,rfl⟩
 | false=>
 rw[hz,XI]at g
 by_cases hm:0<s.size/\(s.data.toList.getD 0 0).toNat=45
 ·rw[zb hm]at g;have t:0<s.size:=hm.1;have u:((s[0].toNat:Int)==45)=true:=by rw[<- U.YK s t,hm.2];rfl
  have x:decide (0<(s.size:Int))=true:=by simp;omega
  have z:(s.extract 1 s.size).size=s.size-1:=by rw[yM];omega
  have c:=G7 g;clear g hm
  by_cases hsz:1<=(s.size-1)/\(s.size-1)<=18
  ·have r:decide (((s.size-1):Nat)<(1:Int))=false:=by simp;omega
   have v:decide ((18:Int)<((s.size-1):Nat))=false:=by simp;omega
   have b:0<(s.extract 1 s.size).size:=by omega
   by_cases h48:(((s.extract 1 s.size)[0]'b).toNat:Int)=48
   ·have d:((((s.extract 1 s.size)[0]'b).toNat:Int)==48)=true:=by simp[h48]
    have a:=U.mV (s.extract 1 s.size) b h48;rw[c.o]at a;subst a;clear c h48;go_enter func219,ntmps219;go_wp2;go_ret;exact⟨rfl,rfl⟩
   have d:((((s.extract 1 s.size)[0]'b).toNat:Int)==48)=false:=by simp[h48]
   have m:=G7 h48;obtain⟨D,o⟩:∃D:Nat->Bool,(λk=>U.digits ((s.extract 1 s.size).data.toList.take k))=D:=⟨_,rfl⟩;have f:D 0=true:=by rw[<- o];rfl
   have⟨p,n⟩:=D5 o f;clear o f;clear h48;go_enter func219,ntmps219;go_wp2
   go_loop [3] (λi=>∃k:Nat,k<=(s.size-1)/\i=R9 k/\D k=true) (λi=>(s.size-1)-(intOf i).toNat)
   case atStart=>exact⟨0,zD _,rfl,n.o⟩
   case round=>
    obtain⟨k,y,rfl,l⟩:=hrel;have q:=G7 l;clear l
    by_cases hlt:k<(s.size-1)
    ·have h:k<(s.extract 1 s.size).size:=by omega
     go_wp2
     all_goals first
      | (go_ret;exact⟨Z4 ((U.Dz (s.extract 1 s.size) k h (by omega)).symm.trans c.o),rfl⟩)
      | exact⟨⟨k+1,by omega,by go_num,by have j:=q.o;rw[<- p.o]at j |-;exact U.Ag (s.extract 1 s.size) k h j (by omega) (by omega)⟩,by simp[intOf];omega⟩
    have a:=U.DC (s.extract 1 s.size) k (by omega) (by omega) (by omega) (by omega) m.o (by have j:=q.o;rw[<- p.o]at j;exact j);rw[c.o]at a;subst a;clear c;go_wp2;go_ret;exact⟨rfl,rfl⟩
  have a:=U.KL (s.extract 1 s.size) (by omega);rw[c.o]at a;subst a;clear c;go_enter func219,ntmps219;go_wp2
  all_goals first
   | (exfalso;omega)
   | (go_ret;exact⟨rfl,rfl⟩)
 rw[za hm]at g;have c:=G7 g;clear g
 by_cases t:0<s.size
 ·have u:((s[0].toNat:Int)==45)=false:=by
   rw[<- U.YK s t]
   have:(s.data.toList.getD 0 0).toNat≠45:=λe=>hm ⟨t,e⟩
   rw[qY];omega
  have x:decide (0<(s.size:Int))=true:=by simp;omega
  clear hm
  by_cases hsz:1<=s.size/\s.size<=18
  ·have r:decide ((s.size:Nat)<(1:Int))=false:=by simp;omega
   have v:decide ((18:Int)<(s.size:Nat))=false:=by simp;omega
   have b:0<(s).size:=by omega
   by_cases h48:(((s)[0]'b).toNat:Int)=48
   ·have d:((((s)[0]'b).toNat:Int)==48)=true:=by simp[h48]
    have a:=U.mV (s) b h48;rw[c.o]at a;subst a;clear c h48;go_enter func219,ntmps219;go_wp2;go_ret;exact⟨rfl,rfl⟩
   have d:((((s)[0]'b).toNat:Int)==48)=false:=by simp[h48]
   have m:=G7 h48;obtain⟨D,o⟩:∃D:Nat->Bool,(λk=>U.digits ((s).data.toList.take k))=D:=⟨_,rfl⟩;have f:D 0=true:=by rw[<- o];rfl
   have⟨p,n⟩:=D5 o f;clear o f;clear h48;go_enter func219,ntmps219;go_wp2
   go_loop [3] (λi=>∃k:Nat,k<=s.size/\i=R9 k/\D k=true) (λi=>s.size-(intOf i).toNat)
   case atStart=>exact⟨0,zD _,rfl,n.o⟩
   case round=>
    obtain⟨k,y,rfl,l⟩:=hrel;have q:=G7 l;clear l
    by_cases hlt:k<s.size
    ·have h:k<(s).size:=by omega
     go_wp2
     all_goals first
      | (go_ret;exact⟨Z4 ((U.Dz (s) k h (by omega)).symm.trans c.o),rfl⟩)
      | exact⟨⟨k+1,by omega,by go_num,by have j:=q.o;rw[<- p.o]at j |-;exact U.Ag (s) k h j (by omega) (by omega)⟩,by simp[intOf];omega⟩
    have a:=U.DC (s) k (by omega) (by omega) (by omega) (by omega) m.o (by have j:=q.o;rw[<- p.o]at j;exact j);rw[c.o]at a;subst a;clear c;go_wp2;go_ret;exact⟨rfl,rfl⟩
  have a:=U.KL (s) (by omega);rw[c.o]at a;subst a;clear c;go_enter func219,ntmps219;go_wp2
  all_goals first
   | (exfalso;omega)
   | (go_ret;exact⟨rfl,rfl⟩)
 have x:decide (0<(s.size:Int))=false:=P6;have r:decide ((s.size:Int)<1)=true:=by simp;omega
 have a:=U.KL s (by omega);rw[c.o]at a;subst a;clear c hm;go_enter func219,ntmps219;go_wp2;go_ret;exact⟨rfl,rfl⟩
theorem dz(s:BY)(w:J)(a:s.size<=12000)(x:Bool)(b:U.qW s=x):R8 219 #[S9 s] w λe c=>e=.returned (.bool x)/\c=w:=by
 subst b;exact BF s w a
theorem zfH(op:BY)(l:List BY)(C:Y)(base:Nat)(w:J)(h:w.ownsRow base 9 1 C l.length (U.strCells l))(H:l.length<=10)(n:∀s ∈ l,s.size<=12000):R8 206 #[S9 op,C] w λe F=>e=.returned (.bool (U.ZU op l))/\F=w:=by
 obtain⟨R,p⟩:=Nm (U.ZU op l);rw[p];unfold U.ZU at p;obtain⟨I,K,rfl,z⟩:=jU h;have⟨t,E,u⟩:=M4 p z n;clear p z n h;go_enter func206,ntmps206;go_wp2
 go_loop [5] (λi=>∃k:Nat,k<=l.length/\i=R9 k/\((l.take k).all (U.uZ op))=true) (λi=>l.length-(intOf i).toNat)
 case atStart=>exact⟨0,zD _,rfl,by simp⟩
 case round=>
  obtain⟨k,G,rfl,B⟩:=hrel;have o:=G7 B;clear B
  by_cases hlt:k<l.length
  ·obtain⟨g,rfl,D⟩:=E.o k hlt;rw[U.JE l k hlt]at D;have b:=u.o l[k] (qm hlt);obtain⟨s,v⟩:=Nm (l[k]);rw[v]at D b;have y:=G7 v;clear v;have a:G6 (U.uZ op s=true->((l.take (k+1)).all (U.uZ op))=true):=λe=>U.rX l _ k hlt o.o (by rw[y.o];exact e);have c:G6 (U.uZ op s=false->R=false):=λe=>by rw[<- t.o,U.rY l _ k hlt (by rw[y.o];exact e)];rfl
   obtain⟨V,q⟩:=Nm (U.uZ op s);rw[q]at a c;unfold U.uZ at q;have j:=G7 q;clear q o;obtain⟨N,A⟩:=Nm (U.qW s);have f:=G7 A;clear A
   cases hE:s.toList.isEmpty with
   | true=>
    cases N with
    | true=>
     have d:=f.o;go_wp2_with(go_at_call 219;apply(dz s _ b true f.o).mono;rintro e x⟨rfl,rfl⟩)
     all_goals first
      | (go_ret;refine⟨Z4 (c.o ?_).symm,rfl⟩;rw[<- j.o];first|(simp only[*];simp;done)|(simp only[*];simp;omega)|(simp[*];done)|(simp[*];omega))
      | (refine⟨⟨k+1,by omega,by go_num,a.o ?_⟩,by simp[intOf];omega⟩;rw[<- j.o];first|(simp only[*];simp;done)|(simp only[*];simp;omega)|(simp[*];done)|(simp[*];omega))
    | false=>
     have d:=f.o;go_wp2_with(go_at_call 219;apply(dz s _ b false f.o).mono;rintro e x⟨rfl,rfl⟩)
     all_goals first
      | (go_ret;refine⟨Z4 (c.o ?_).symm,rfl⟩;rw[<- j.o];first|(simp only[*];simp;done)|(simp only[*];simp;omega)|(simp[*];done)|(simp[*];omega))
      | (refine⟨⟨k+1,by omega,by go_num,a.o ?_⟩,by simp[intOf];omega⟩;rw[<- j.o];first|(simp only[*];simp;done)|(simp only[*];simp;omega)|(simp[*];done)|(simp[*];omega))
   | false=>
    cases N with
    | true=>
     have d:=f.o;go_wp2_with(go_at_call 219;apply(dz s _ b true f.o).mono;rintro e x⟨rfl,rfl⟩)
     all_goals first
      | (go_ret;refine⟨Z4 (c.o ?_).symm,rfl⟩;rw[<- j.o];first|(simp only[*];simp;done)|(simp only[*];simp;omega)|(simp[*];done)|(simp[*];omega))
      | (refine⟨⟨k+1,by omega,by go_num,a.o ?_⟩,by simp[intOf];omega⟩;rw[<- j.o];first|(simp only[*];simp;done)|(simp only[*];simp;omega)|(simp[*];done)|(simp[*];omega))
    | false=>
     have d:=f.o;go_wp2_with(go_at_call 219;apply(dz s _ b false f.o).mono;rintro e x⟨rfl,rfl⟩)
     all_goals first
      | (go_ret;refine⟨Z4 (c.o ?_).symm,rfl⟩;rw[<- j.o];first|(simp only[*];simp;done)|(simp only[*];simp;omega)|(simp[*];done)|(simp[*];omega))
      | (refine⟨⟨k+1,by omega,by go_num,a.o ?_⟩,by simp[intOf];omega⟩;rw[<- j.o];first|(simp only[*];simp;done)|(simp only[*];simp;omega)|(simp[*];done)|(simp[*];omega))
  have e:=U.rW l (U.uZ op) k hlt o.o;have r:=t.o;rw[e,jY]at r;unfold U.Zz at r;have m:=G7 r;clear r e t o;go_wp2
  all_goals
   go_ret
   first
    | exact⟨rfl,rfl⟩
    | (refine⟨Z4 ?_,rfl⟩;rw[<- m.o];done)
    | (refine⟨Z4 ?_,rfl⟩;rw[<- m.o];simp[*];done)
theorem zW.rd{w:J}{base b:Nat}{m:U.zl}{v s:Y}{f:List (Y×Y)}(h:zW w base b m v s f)(t:m.nodes≠[])(l:U.Ev m.nodes)(k:U.Bnd 4000 m)(u:U.kw 12000 m.nodes):∃j e,ZM w base b j e m.nodes:=by
 have r:0<m.nodes.length:=List.length_pos_iff.2 t
 obtain⟨j,e,rfl⟩:∃g c,s=TL (some (G8 g 0)) m.nodes.length c:=by
  rcases h.ownN.2 with⟨_,h0⟩|⟨g,c,cur,rfl,_⟩
  ·omega
  exact⟨_,_,rfl⟩
 refine⟨j,e,⟨zt h.blk,(h.ownN.lt j rfl).2⟩,(h.cell 2).1,λi n d=>?_,l,k.nodes,λi n d=>⟨(k.kids i n d).1,(k.kids i n d).2,u i n d⟩⟩;have o:i<m.nodes.length:=(zU.1 d).1;have q:i<f.length:=by rw[h.len];exact o
 have p:=zn q;have a:=dN m.nodes f h.len i n f[i] d p;exact⟨f[i],(h.ownN.cellAt _ (by omega)).trans a.1,(h.ownN.cellAt _ (by omega)).trans a.2.1,(h.ownN.cellAt _ (by omega)).trans a.2.2.1,(h.ownN.cellAt _ (by omega)).trans a.2.2.2,h.names i n _ d p,h.kids i n _ d p⟩
theorem zcO(a:BY)(h:(qX a).1=0):U.Ev (qX a).2.2.nodes/\(qX a).2.2.nodes≠[]/\0<=(qX a).2.2.root/\(qX a).2.2.root<((qX a).2.2.nodes.length:Int)/\U.kw 12000 (qX a).2.2.nodes:=by
 obtain⟨R,b⟩:=Nm (qX a);rw[b]at h |-;unfold qX at b
 by_cases h1:4000<a.size
 ·rw[zb h1]at b;subst b;simp at h
 rw[za h1]at b
 by_cases h2:(U.run U.init a.data.toList 0).1≠0
 ·rw[zb h2]at b;subst b;exact absurd h h2
 rw[za h2]at b
 by_cases h3:(U.run U.init a.data.toList 0).2.2.state≠6\/(U.run U.init a.data.toList 0).2.2.opn≠[]
 ·rw[zb h3]at b;subst b;simp at h
 rw[za h3]at b;subst b
 have l:(U.run U.init a.data.toList 0).2.2.state=6:=by
  by_cases e:(U.run U.init a.data.toList 0).2.2.state=6
  ·exact e
  exact absurd (.inl e) h3
 have k:(U.run U.init a.data.toList 0).1=0:=by
  by_cases e:(U.run U.init a.data.toList 0).1=0
  ·exact e
  exact absurd e h2
 have c:=(U.Fj a.data.toList U.init 0 0 U.Tk lX lW k).1;have d:=U.Fh a.data.toList U.init 0 0 4000 (λi n g=>by simp[U.init]at g) lW (by rw[U.zF];omega);have j:¬U.pend (U.run U.init a.data.toList 0).2.2:=by unfold U.pend;omega
 have f:=c.full (by unfold U.asks;omega);exact⟨c.ev j,f,c.root0,c.root f,d⟩
structure xY (w:J) (fb:Nat) (nc cc:Array Y) (sh pt:Bool) (wx:J):Prop where
 g:w.grownBy wx (some fb)
 f:qA wx fb sh pt
 r:wx.heap[w.heap.size]?=some (L8 #[R5,R5,R4,T9] 265 (0,0))
 n:wx.heap[w.heap.size+1]?=some (.cells nc 165 (0,0))
 c:wx.heap[w.heap.size+2]?=some (.cells cc 265 (0,0))
theorem Gp(w:J)(a b c:Obj):(((w.alloc a).alloc b).alloc c).heap[w.heap.size]?=some a/\(((w.alloc a).alloc b).alloc c).heap[w.heap.size+1]?=some b/\(((w.alloc a).alloc b).alloc c).heap[w.heap.size+2]?=some c:=by
 refine⟨?_,?_,?_⟩
 ·rw[Qz _ _ _ (by simp;omega)];exact(Zn w a b).1
 ·rw[Qz _ _ _ (by simp)];exact(Zn w a b).2
 have h:=zA ((w.alloc a).alloc b) c;rw[uH,uH]at h;exact h
theorem xY.start{w:J}{c:Nat}{f e:Bool}(g:qA w c f e)(b a:Array Y):xY w c b a f e (((w.alloc (L8 #[R5,R5,R4,T9] 265)).alloc (.cells b 165)).alloc (.cells a 265)):=by
 have d:BQ w (((w.alloc (L8 #[R5,R5,R4,T9] 265)).alloc (.cells b 165)).alloc (.cells a 265)):=
  ((nbl _ _).alloc (by simp) _).alloc (by simp;omega) _
 obtain⟨t1,t2,t3⟩:=Gp w (L8 #[R5,R5,R4,T9] 265) (.cells b 165) (.cells a 265);exact⟨But.of _ d,g.below d,t1,t2,t3⟩
theorem xY.size{w a:J}{d:Nat}{e b:Array Y}{g f:Bool}(h:xY w d e b g f a):w.heap.size+3<=a.heap.size:=zt h.c
theorem xY.below{w b l:J}{e:Nat}{i d:Array Y}{k j:Bool}(h:xY w e i d k j b)(a:BQ b l):xY w e i d k j l:=by
 have m:=h.size;exact⟨But.trans h.g (But.of _ a),h.f.below a,(a.block _ (by omega)).trans h.r,(a.block _ (by omega)).trans h.n,(a.block _ (by omega)).trans h.c⟩
theorem xY.grown{w k f:J}{a:Nat}{j i:Array Y}{p o d b:Bool}(m:a<w.heap.size)(h:xY w a j i p o k)(e:k.grownBy f (some a))(l:qA f a d b):xY w a j i d b f:=by
 have q:=h.size;exact⟨But.trans h.g e,l,(e.block _ (by omega) (by simp;omega)).trans h.r,(e.block _ (by omega) (by simp;omega)).trans h.n,(e.block _ (by omega) (by simp;omega)).trans h.c⟩
theorem xY.shape{w g:J}{a:Nat}{d c:Array Y}{i e:Bool}(b:a<w.heap.size)(h:xY w a d c i e g)(x:Bool):xY w a d c x e (g.setCell (G8 a 0) (.bool x)):=
 h.grown b (But.set _ _ _ _) (h.f.shape x)
theorem xY.put{w d:J}{a:Nat}{k:Array Y}{e c1 c2 c3:Y}{m l:Bool}(p:a<w.heap.size)(h:xY w a k #[e,c1,c2,c3] m l d)(o:Nat)(u:Y)(j:Array Y)(b:j=#[e,c1,c2,c3].set! o u):xY w a k j m l (d.setCell (G8 (w.heap.size+2) o) u):=by
 subst b;refine⟨⟨h.g.os,h.g.tape,h.g.output,by simp[World.setCell];exact h.g.size,λi q s=>?_⟩,?_,?_,?_,?_⟩
 ·rw[qy _ _ _ _ (by simp only;omega)];exact h.g.block i q s
 ·unfold qA;rw[qy _ _ _ _ (by simp only;omega)];exact h.f
 ·rw[qy _ _ _ _ (by simp only;omega)];exact h.r
 ·rw[qy _ _ _ _ (by simp only;omega)];exact h.n
 exact yC d (w.heap.size+2) o _ _ _ h.c
theorem xY.cells{w a:J}{b:Nat}{e g i j d c1 c2 c3:Y}{l k:Bool}(h:xY w b #[e,g,i,j] #[d,c1,c2,c3] l k a):(a.cell? (G8 (w.heap.size+1) 0)=some e/\a.cell? (G8 (w.heap.size+1) 1)=some g/\a.cell? (G8 (w.heap.size+1) 2)=some i/\a.cell? (G8 (w.heap.size+1) 3)=some j) /\
  (a.cell? (G8 (w.heap.size+2) 0)=some d/\a.cell? (G8 (w.heap.size+2) 1)=some c1/\a.cell? (G8 (w.heap.size+2) 2)=some c2/\a.cell? (G8 (w.heap.size+2) 3)=some c3) /\
  (a.frozen? (G8 (w.heap.size+2) 0)=false/\a.frozen? (G8 (w.heap.size+2) 1)=false/\a.frozen? (G8 (w.heap.size+2) 2)=false/\a.frozen? (G8 (w.heap.size+2) 3)=false) /\
  (a.cell? (G8 b 0)=some (.bool l)/\a.cell? (G8 b 1)=some (.bool k)/\a.frozen? (G8 b 0)=false/\a.frozen? (G8 b 1)=false):=
 ⟨⟨(zg h.n 0).1,(zg h.n 1).1,(zg h.n 2).1,(zg h.n 3).1⟩,⟨(zg h.c 0).1,(zg h.c 1).1,(zg h.c 2).1,(zg h.c 3).1⟩,
  ⟨(zg h.c 0).2,(zg h.c 1).2,(zg h.c 2).2,(zg h.c 3).2⟩,h.f.cell⟩
theorem xY.fin{w b:J}{a:Nat}{m e:Array Y}{d c:Bool}(j:a<w.heap.size)(h:xY w a m e d c b)(u0 u1 u2 u3:Y):w.grownBy ((((b.setCell (G8 w.heap.size 0) u0).setCell (G8 w.heap.size 1) u1).setCell (G8 w.heap.size 2) u2).setCell (G8 w.heap.size 3) u3) (some a) /\
  qA ((((b.setCell (G8 w.heap.size 0) u0).setCell (G8 w.heap.size 1) u1).setCell (G8 w.heap.size 2) u2).setCell (G8 w.heap.size 3) u3) a d c:=by
 refine⟨⟨h.g.os,h.g.tape,h.g.output,by simp[World.setCell];exact h.g.size,λi k l=>?_⟩,?_⟩
 ·rw[qy _ _ _ _ (by simp only;omega),qy _ _ _ _ (by simp only;omega),qy _ _ _ _ (by simp only;omega),qy _ _ _ _ (by simp only;omega)];exact h.g.block i k l
 unfold qA;rw[qy _ _ _ _ (by simp only;omega),qy _ _ _ _ (by simp only;omega),qy _ _ _ _ (by simp only;omega),qy _ _ _ _ (by simp only;omega)];exact h.f
def UK(w:J)(a:Nat)(d c:Bool)(R:U.qz)(e:Ending)(w':J):Prop:=
 ∃b,e=.returned (.agg #[S9 R.op,S9 R.key,b,.bool R.no])/\w.grownBy w' (some a)/\qA w' a (d||R.sh) (c||R.pt)/\w'.ownsRow w.heap.size 9 1 b R.vals.length (U.strCells R.vals)
structure kr (w0:J) (base b gg cap:Nat) (ns:List U.Node) (w:J):Prop where
 rd:ZM w0 base b gg cap ns
 non:U.NoN ns
 bel:BQ w0 w
theorem kr.at{c w:J}{base b a cap:Nat}{ns:List U.Node}(h:kr c base b a cap ns w):ZM w base b a cap ns:=h.rd.below h.bel
theorem kr.grown{a w w':J}{base b d cap c:Nat}{ns:List U.Node}(h:kr a base b d cap ns w)(f:w.grownBy w' (some c))(e:a.heap.size<=c):kr a base b d cap ns w':=⟨h.rd,h.non,h.bel.trans (But.below f h.bel.size e)⟩
theorem kr.names{d w:J}{base b c cap:Nat}{ns:List U.Node}(h:kr d base b c cap ns w){i:Nat}{n:U.Node}(a:ns[i]?=some n):n.names.length<=n.kids.length:=by
 by_cases h1:n.kind=1
 ·rw[(h.rd.ev i n a).2 h1];exact ze _
 rw[h.non i n a h1];simp
theorem Kv{j w:J}{base b l cap:Nat}{ns:List U.Node}(h:kr j base b l cap ns w){i:Nat}{n:U.Node}(p:ns[i]?=some n):∃v:Y×Y,(∃D E,v.1=TL D n.names.length E)/\(∃B C,v.2=TL B n.kids.length C) /\
   (∀W,BQ j W->W.cell? (G8 l (i*4))=some (R9 n.kind)/\W.cell? (G8 l (i*4+1))=some (S9 n.text)/\W.cell? (G8 l (i*4+2))=some v.1/\W.cell? (G8 l (i*4+3))=some v.2) /\
   (∀W (f:BY),BQ j W->R8 72 #[Xz n v,S9 f] W (G5 (R9 (U.zq n f)) W)) /\
   (∀W (k:List BY) (m:Y) (d:Nat),BQ j W->W.ownsRow d 9 1 m k.length (U.strCells k)->k.length<=4000->R8 122 #[Xz n v,m] W (G5 (.bool (U.jA n k)) W)):=by
 obtain⟨v,t,u,x,y,o,r⟩:=h.rd.node i n p;have s:=h.rd.small i n p;refine⟨v,?_,?_,λW g=>⟨zi g t,zi g u,zi g x,zi g y⟩,λW f g=>Sq n v f base W (ownsRow_below o g) (ownsRow_below r g) (h.names p) s.1,λW k m d g z A=>DV n v k m base d W (ownsRow_below o g) z s.2.1 A⟩
 ·obtain⟨a,c,e,_⟩:=jU o;exact⟨a,c,e⟩
 obtain⟨a,c,e,_⟩:=jU r;exact⟨a,c,e⟩
end Go.Proofs.YtfjpcldndaiifaaGreatDoor
