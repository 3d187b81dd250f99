/- P -/
import Derived.Test.YtdakgnaojakldaaGreatDoorQ40
open Go.Proofs.Tryz
set_option maxRecDepth 100000
set_option maxHeartbeats 4000000
namespace Go.Proofs.YtdakgnaojakldaaGreatDoor
def YX(c:zU):Prop:=(Ref.yf c.op=true/\c.vals=[])\/(Ref.yf c.op=false/\Ref.XU c.op c.vals=true/\(Ref.xw c.op=true->∀v ∈ c.vals,Ref.xV v=true))
structure YY (s:zB):Prop where
 who:∀p ∈ s.who.2,Ref.xV p=true
 act:∀p ∈ s.act.2,Ref.xV p=true
 on:∀p ∈ s.on.2,Ref.xV p=true
 ifs:∀c ∈ s.ifs,YX c
theorem Ej(v:Rd.V)(c:(Rd.xq v).sh=false)(e:(Rd.xq v).pt=false):YX (toS (Rd.xq v)):=by
 match v with
 | .str s=>exact absurd c (by simp[Rd.xq,Ref.jU])
 | .word b=>exact absurd c (by simp[Rd.xq,Ref.jU])
 | .list l=>exact absurd c (by simp[Rd.xq,Ref.jU])
 | .obj ms=>
  obtain⟨R,a⟩:=Nm (Rd.xq (.obj ms));rw[a] at c e |-;simp only[Rd.xq,Rd.Jg] at a
  cases h1:Rd.opV (Rd.zk ms Ref.bOp) with
  | none=>rw[h1] at a;subst a;simp[Ref.jU] at c
  | some op=>
   rw[h1] at a
   cases h2:Rd.opV (Rd.zk ms Ref.zx) with
   | none=>rw[h2] at a;subst a;simp[Ref.jU] at c
   | some key=>
    rw[h2] at a;simp only at a
    by_cases ca:Ref.yf op=true
    ·rw[zb ca] at a;subst a;exact .inl ⟨ca,rfl⟩
    ·rw[za ca] at a;subst a;simp only[gN,KJ] at c;refine .inr ⟨Bool.eq_false_iff.2 ca,c.1.1.2.2,λf v g=>?_⟩;have d:Ref.xw op=true:=f;simp only[d,Qi,KJ] at e;exact ve.1 e v g
theorem ag{c:Bool×Option (List BA)}(h:Rd.chP c=false):∀p ∈ (Rd.chD c).2,Ref.xV p=true:=by
 unfold Rd.chP at h;rw[KJ] at h;exact λp a=>ve.1 h p a
theorem Er(x:Option Rd.V)(a:(Rd.xS x).sh=false)(e:(Rd.xS x).pt=false):∀c ∈ (Rd.xS x).cs.map toS,YX c:=by
 intro c d
 match x with
 | none=>simp[Rd.xS] at d
 | some (.str s)=>simp[Rd.xS] at a
 | some (.word b)=>simp[Rd.xS] at a
 | some (.obj ms)=>simp[Rd.xS] at a
 | some (.list vs)=>
  simp only[Rd.xS] at a e d
  by_cases c5:5<vs.length
  ·rw[zb c5] at a;simp at a
  ·rw[za c5] at a e d;simp only[Qp,Qo,Function.comp] at a e;simp only[xD,ql,Function.comp] at d;obtain⟨v,f,rfl⟩:=d;exact Ej v (by simpa using a v f) (by simpa using e v f)
theorem TY(v:Rd.V)(a:(Rd.yl v).sh=false)(c:(Rd.yl v).pt=false):YY (kJ (Rd.yl v)):=by
 match v with
 | .str s=>exact absurd a (by simp[Rd.yl,Rd.uI])
 | .word b=>exact absurd a (by simp[Rd.yl,Rd.uI])
 | .list l=>exact absurd a (by simp[Rd.yl,Rd.uI])
 | .obj ms=>
  simp only[Rd.yl,Rd.JU] at a c |-
  split at a
  ·rename_i eff d e;rw[d,e] at c;simp only[Rd.JB,gN] at a c;obtain⟨⟨⟨f,g⟩,h⟩,i⟩:=c;exact⟨ag f,ag g,ag h,Er _ a.2 i⟩
  ·simp[Rd.uI] at a
theorem Gw(s:BA)(h:(Rd.x9 s).1=0):∀r ∈ QO s,YY (kJ r):=by
 unfold Rd.x9 at h;unfold QO
 by_cases h1:4000<s.size
 ·rw[zb h1] at h;simp at h
 rw[za h1] at h;rw[za h1]
 cases hm:Rd.yh s.data.toList with
 | err e q=>intro r d;simp at d
 | ok v q=>
  rw[hm] at h;simp only at h |-
  match v with
  | .str t=>simp[Rd.Za] at h
  | .word b=>simp[Rd.Za] at h
  | .list l=>simp[Rd.Za] at h
  | .obj ms=>
   simp only[Rd.Za] at h
   match hx:Rd.zk ms Rd.jE with
   | none=>rw[hx] at h;simp at h
   | some (.str t)=>rw[hx] at h;simp at h
   | some (.word b)=>rw[hx] at h;simp at h
   | some (.obj ms)=>rw[hx] at h;simp at h
   | some (.list vs)=>
    rw[hx] at h;simp only at h;have f:qC (stX (.obj ms))=vs:=by simp[qC,stX,hx]
    rw[f]
    by_cases c:ms.length≠1\/vs.length<1\/10<vs.length
    ·rw[zb c] at h;simp at h
    rw[za c] at h;intro r d;obtain⟨a,b⟩:=bn _ _ h r d;rw[ql] at d;obtain⟨v,f,rfl⟩:=d;exact TY v a b
end Go.Proofs.YtdakgnaojakldaaGreatDoor
namespace Go.Proofs.YtdakgnaojakldaaGreatDoor
open Go.RowKit
abbrev StO:=Nat->List zy
def upd(st:StO)(i:Nat)(L:List zy):StO:=λj=>if j=i then L else st j
def XI(a:List zB):Prop:=a.length<=10/\(∀s ∈ a,Q6 s)/\∀s ∈ a,YY s
def Yh(L:List zy):Prop:=y9 L/\L.length<=4/\∀x ∈ L,XI x.2
theorem Yh.with{L:List zy}(h:Yh L){name:BA}{b:List zB}(c:(zC L name||decide (L.length<4))=true)(d:XI b):Yh (jL L name b):=
 ⟨h.1.with name b,zaz h.2.1 c,λx a=>by
  unfold jL at a
  rcases ZM.1 a with a|a
  ·rcases ZM.1 a with a|a
   ·exact h.2.2 x (KU a)
   ·rw[xE] at a;subst a;exact d
  ·exact h.2.2 x (gX a)⟩
structure qP (M:Nat->Prop) (W:World) (ob:Nat) (st:StO):Prop where
 mine:M ob
 row:∃vs:Nat->Value,W.heap[ob]?=some (.cells #[vs 0,vs 1,vs 2,vs 3] 101)/\∀i,i<4->xk M W (vs i) (st i)
 good:∀i,i<4->Yh (st i)
theorem lt4{i:Nat}(h:i<4):i=0\/i=1\/i=2\/i=3:=by omega
theorem qP.below{M:Nat->Prop}{W b:World}{a:Nat}{st:StO}(h:qP M W a st)(hb:Below W.heap.size W b):qP M b a st:=by
 obtain⟨e,c,d⟩:=h.row;exact⟨h.mine,⟨e,(hb.block a (qF c)).trans c,λi hi=>(d i hi).turn (zT.of hb)⟩,h.good⟩
theorem qP.other{M:Nat->Prop}{W f:World}{c a:Nat}{st:StO}(h:qP M W c st)(j:zT (λb=>b=a) W f)(d:c≠a)(m:M a):qP M f c st:=by
 obtain⟨n,g,l⟩:=h.row;exact⟨h.mine,⟨n,(j.block c (qF g) d).trans g,λi hi=>(l i hi).turn (j.wide (λk _ e=>by rw[e];exact m))⟩,h.good⟩
theorem qP.more{M a:Nat->Prop}{W:World}{c:Nat}{st:StO}(h:qP M W c st)(f:∀b,a b->M b\/W.heap.size<=b)(g:a c):qP a W c st:=by
 obtain⟨j,d,e⟩:=h.row;exact⟨g,⟨j,d,λi hi=>(e i hi).more f⟩,h.good⟩
theorem QE(a:Nat->Value){i:Nat}(h:i<4):(#[a 0,a 1,a 2,a 3]:Array Value)[i]?=some (a i):=by
 rcases lt4 h with rfl|rfl|rfl|rfl<;>rfl
theorem GX(a:Nat->Value)(v:Value){i:Nat}(h:i<4):(#[a 0,a 1,a 2,a 3]:Array Value).setIfInBounds i v=#[if 0=i then v else a 0,if 1=i then v else a 1,if 2=i then v else a 2,if 3=i then v else a 3]:=by
 rcases lt4 h with rfl|rfl|rfl|rfl<;>rfl
theorem qP.set{M:Nat->Prop}{W:World}{a:Nat}{st:StO}(h:qP M W a st){i:Nat}(hi:i<4){v:Value}{L:List zy}(l:xk M W v L)(k:Yh L):qP M (W.setCell ⟨a,i,none⟩ v) a (upd st i L):=by
 obtain⟨c,f,g⟩:=h.row;have d:=zT.set (M:=M) W h.mine i v;refine⟨h.mine,⟨λj=>if j=i then v else c j,?_,λj b=>?_⟩,λj b=>?_⟩
 ·have:=vZ W a i _ _ v f
  rw[GX c v hi] at this;exact this
 ·show xk M _ (if j=i then v else c j) (if j=i then L else st j)
  by_cases e:j=i
  ·rw[zb e,zb e];exact l.turn d
  ·rw[za e,za e];exact (g j b).turn d
 ·unfold upd
  by_cases e:j=i
  ·rw[zb e];exact k
  ·rw[za e];exact h.good j b
def xM:StO:=λ_=>[]
theorem dz(M:Nat->Prop)(w:World)(d:M w.heap.size) :
  Calls prog 21 #[] w λe b=>e = .returned (.pointer (some ⟨w.heap.size,0,none⟩))/\Below w.heap.size w b/\qP M b w.heap.size xM:=by
 have a:qP M (w.alloc (.cells #[.slice none 0 0,.slice none 0 0,.slice none 0 0,.slice none 0 0] 101)) w.heap.size xM:=
  ⟨d,⟨λ_ => .slice none 0 0,zM w _,λi _=>oI M _⟩,λi _=>⟨List.Pairwise.nil,by simp[xM],λx f=>by simp[xM] at f⟩⟩
 have c:=hid a;clear a;go_enter func21,ntmps21
 go_wp2
 go_ret;exact⟨rfl,nB w _,c.out⟩
theorem dR{l:Int}{name:BA}(h:jX l name=0):∃i:Nat,l=(i:Int)/\i<4/\Ref.qj name=true:=by
 unfold jX at h
 cases h1:kw l with
 | false=>rw[h1] at h;simp at h
 | true=>
  rw[h1] at h
  cases h2:Ref.qj name with
  | false=>rw[h2] at h;simp at h
  | true=>
   unfold kw at h1;rw[um,je,je] at h1;exact⟨l.toNat,by omega,by omega,rfl⟩
def U1(l:Int):Int:=if kw l then 0 else 7
def U0(st:StO)(l:Int):List BA:=if kw l then (st l.toNat).map Prod.fst else []
theorem NT(o:Nat)(st:StO)(l:Int)(M:Nat->Prop)(w:World)(h:qP M w o st) :
  Calls prog 22 #[.pointer (some ⟨o,0,none⟩),.int .i64 l] w λe s=>∃j,e = .returned (.tuple #[j,.int .i64 (U1 l)])/\zA s w.heap.size j (U0 st l)/\Below w.heap.size w s:=by
 have c1:=nY l w;unfold U1 U0
 cases hl:kw l with
 | false=>
  rw[hl] at c1;have m:=hid c1;simp only[xz,qW];clear c1 h hl;go_enter func22,ntmps22
  go_wp2_with (go_at_call 40;refine m.out.mono ?_;rintro e x ⟨rfl,f⟩;rw[f];clear f)
  go_ret2;exact⟨_,rfl,⟨rfl,.inl ⟨rfl,rfl⟩⟩,zh _ _⟩
 | true=>
  rw[hl] at c1;have m:=hid c1;simp only[qh];unfold kw at hl;rw[um,je,je] at hl;obtain⟨i,rfl⟩:∃i:Nat,l=(i:Int):=⟨l.toNat,by omega⟩;have hi:i<4:=by omega
  obtain⟨k,d,b⟩:=h.row;have c0:w.cell? ⟨o,i,none⟩=some (k i):=(zf d i).1.trans (QE k hi);have g:=MG (st i) (k i) M w (b i hi) (by have:=(h.good i hi).2.1;omega);obtain⟨A,C,B,r⟩:∃a n c,k i = .slice a n c:=by obtain⟨a,c,e,_⟩:=b i hi;exact⟨a,_,c,e⟩
  rw[r] at c0 g;unfold Yk at g;have p:((i:Int)).toNat=i:=Qm i;rw[p];have t:=hid g;have y:(0:Int)<=(i:Int):=vP _;have z:(i:Int)<4:=by omega
  clear c1 h hl d b g r p;go_enter func22,ntmps22
  go_wp2_with (first
   | (go_at_call 41;refine t.out.mono ?_;rintro e D ⟨j,rfl,q,hb⟩;have v:=hid q;have u:=hid hb;clear q hb)
   | (go_at_call 40;refine m.out.mono ?_;rintro e x ⟨rfl,f⟩;rw[f];clear f))
  go_ret2;exact⟨j,rfl,v.out,u.out⟩
def JS(st:StO)(l:Int)(name:BA):Int:=if jX l name=0 then (if zC (st l.toNat) name then 0 else 9) else jX l name
def Vo(st:StO)(l:Int)(name:BA):List zB:=match (st l.toNat)[qI (st l.toNat) name]? with
 | some x=>x.2
 | none=>[]
def JR(st:StO)(l:Int)(name:BA):BA:=if jX l name=0/\zC (st l.toNat) name=true then xu (Vo st l name) else ⟨#[]⟩
theorem Tj(R:Nat)(st:StO)(l:Int)(name:BA)(M:Nat->Prop)(w:World)(h:qP M w R st)(hs:name.size<=maxLen) :
  Calls prog 23 #[.pointer (some ⟨R,0,none⟩),.int .i64 l,.string name] w λe S=>e = .returned (.tuple #[.string (JR st l name),.int .i64 (JS st l name)])/\Below w.heap.size w S:=by
 have u:=dS l name w hs
 by_cases hpl:jX l name=0
 ·obtain⟨i,rfl,hi,Y⟩:=dR hpl;have G:JS st (i:Int) name=if zC (st i) name then 0 else 9:=by unfold JS;rw[zb hpl];rfl
  have hA:JR st (i:Int) name=if zC (st i) name=true then xu (Vo st (i:Int) name) else ⟨#[]⟩:=by
   unfold JR;simp only[Qm,hpl,true_and]
  rw[G,hA];rw[hpl] at u;have O:=hid u;have Z:=hid h;have p:∀x,(st i)[qI (st i) name]?=some x->Vo st (i:Int) name=x.2:=λx s=>by unfold Vo;simp only[Qm];rw[s]
  have K:∀x,(st i)[qI (st i) name]?=some x->XI x.2:=λx s=>(h.good i hi).2.2 x (ZN s)
  have X:∀(W:World) (v:Value),Below w.heap.size w W->xk M W v (st i)->Calls prog 43 #[v,.string name] W λe S=>∃C F D,e = .returned (.tuple #[.agg #[.slice C F D],.bool (zC (st i) name)])/\Below W.heap.size W S/\(zC (st i) name=true->∃x,(st i)[qI (st i) name]?=some x/\ym M S (.slice C F D) x.2):=λW v hb hl=>
   MF (st i) v name M W hl (by have:=(h.good i hi).2.1;omega) ((h.good i hi).1.down name)
  obtain⟨b,hb⟩:=Nm (zC (st i) name);simp only[hb] at X;simp only[hb];have Q:=hid X;have HD:=hid p;have HS:=hid K;have k0:(0:Int)<=(i:Int):=vP _;have k1:(i:Int)<4:=by omega
  clear u X p K hpl hb Y hA G
  cases b with
  | false=>
   simp only[xz,qW];go_enter func23,ntmps23
   go_upto_region 4 with (go_at_call 42;refine O.out.mono ?_;rintro e y ⟨rfl,o⟩;have f:=hid o;clear o)
   obtain⟨t,j,g⟩:=(Z.out.below f.out).row;have c0:y.cell? ⟨R,i,none⟩=some (t i):=(zf j i).1.trans (QE t hi);obtain⟨la,ln,lc,L⟩:∃a n c,t i = .slice a n c:=by obtain⟨a,c,e,_⟩:=g i hi;exact⟨a,_,c,e⟩
   have k:=g i hi;rw[L] at c0 k;have P:=hid (Q.out y _ f.out k);clear j g L k Q
   go_wp2_with (go_at_call 43;refine P.out.mono ?_;rintro e N ⟨C,F,D,rfl,B,_⟩;have m:=hid (f.out.trans (B.mono f.out.size));clear B)
   go_ret2;exact⟨rfl,m.out.alloc m.out.size _⟩
  | true=>
   simp only[qh];go_enter func23,ntmps23
   go_upto_region 4 with (go_at_call 42;refine O.out.mono ?_;rintro e y ⟨rfl,o⟩;have f:=hid o;clear o)
   obtain⟨t,j,g⟩:=(Z.out.below f.out).row;have c0:y.cell? ⟨R,i,none⟩=some (t i):=(zf j i).1.trans (QE t hi);obtain⟨la,ln,lc,L⟩:∃a n c,t i = .slice a n c:=by obtain⟨a,c,e,_⟩:=g i hi;exact⟨a,_,c,e⟩
   have k:=g i hi;rw[L] at c0 k;have P:=hid (Q.out y _ f.out k);clear j g L k Q
   go_upto_region 7 with (go_at_call 43;refine P.out.mono ?_;rintro e N ⟨C,F,D,rfl,B,J⟩;have A:=hid (J (by trivial));have m:=hid (f.out.trans (B.mono f.out.size));clear B J)
   obtain⟨x,s,I⟩:=A.out;have V:Below N.heap.size N (N.alloc (.cells #[.slice C F D] 72)):=nB N _;obtain⟨base,H⟩:=(I.turn (zT.of V)).at;have r:=HS.out x s;have q:=sJ x.2 _ base _ H r.1 r.2.1;rw[<- HD.out x s] at q;have T:=hid q;have z:=hid (m.out.trans (V.mono m.out.size));clear q H r I s V A P
   go_wp2_with (go_at_call 35;refine T.out.mono ?_;rintro e w5 ⟨rfl,b5⟩;have U:=hid (z.out.trans (b5.mono z.out.size));clear b5)
   go_ret2;exact⟨rfl,U.out⟩
 ·unfold JS JR;rw[za hpl,za (λe=>hpl e.1)];obtain⟨E,G⟩:∃x,jX l name=x:=⟨_,rfl⟩;rw[G] at u hpl |-;have O:=hid u;have d:(E==0)=false:=by simpa using hpl
  have d2:(E != 0)=true:=by simpa using hpl
  clear u G h;go_enter func23,ntmps23
  go_wp2_with (go_at_call 42;refine O.out.mono ?_;rintro e y ⟨rfl,o⟩;have f:=hid o;clear o)
  go_ret2;exact⟨rfl,f.out⟩
def VL(st:StO)(l:Int)(name text:BA):Bool:=decide (jX l name=0)&&decide ((Rd.x9 text).1=0)&&(zC (st l.toNat) name||decide ((st l.toNat).length<4))
def ZE(st:StO)(l:Int)(name text:BA):Int×Nat:=if jX l name=0 then (if (Rd.x9 text).1=0 then (if zC (st l.toNat) name||decide ((st l.toNat).length<4) then (0,0) else (10,0)) else Rd.x9 text) else (jX l name,0)
def vG(st:StO)(l:Int)(name text:BA):StO:=if VL st l name text then upd st l.toNat (jL (st l.toNat) name (xP text)) else st
theorem Aw(s:BA)(c:(Rd.x9 s).1=0):XI (xP s):=by
 obtain⟨d,e,f⟩:=fF s c;have g:xP s=(QO s).map kJ:=f;rw[g];refine⟨by rw[zN];exact e,λx a=>?_,λx a=>?_⟩
 ·rw[ql] at a;obtain⟨r,b,rfl⟩:=a;exact wH (d r b).2
 ·rw[ql] at a;obtain⟨r,b,rfl⟩:=a;exact Gw s c r b
theorem ed(I:Nat)(st:StO)(l:Int)(name text:BA)(M:Nat->Prop)(aL:Addr)(w:World)(hC:Qk w aL)(h:qP M w I st)(hM:∀b,M b->b<w.heap.size)(hs:name.size<=maxLen) :
  Calls prog 24 #[.pointer (some ⟨I,0,none⟩),.int .i64 l,.string name,.string text] w λe S=>e = .returned (.tuple #[.int .i64 (ZE st l name text).1,.int .i64 ((ZE st l name text).2:Int)])/\zT (λb=>b=I) w S/\qP M S I (vG st l name text):=by
 have cp:=dS l name w hs
 by_cases hpl:jX l name=0
 ·obtain⟨i,rfl,hi,X⟩:=dR hpl;rw[hpl] at cp;have CP:=hid cp;have HO:=hid h;have d9:=hid hC;have e7:I<w.heap.size:=hM I h.mine;have U:=λW (hb:Below w.heap.size w W)=>mD text W _ _ _ rfl (hC.below hb).q;have r:=Aw text;have k0:(0:Int)<=(i:Int):=vP _;have k1:(i:Int)<4:=by omega
  by_cases hd:(Rd.x9 text).1=0
  ·have hA:ZE st (i:Int) name text=if (zC (st i) name||decide ((st i).length<4))=true then (0,0) else (10,0):=by
    unfold ZE;rw[zb hpl,zb hd]
    rfl
   have hS:vG st (i:Int) name text=if (zC (st i) name||decide ((st i).length<4))=true then upd st i (jL (st i) name (xP text)) else st:=by
    unfold vG VL;rw[zF hpl,zF hd];simp only[Qm,Qi]
   rw[hA,hS]
   have b7:name.size<=281474976710656:=by
    by_cases e:1<=name.size/\name.size<=12
    ·omega
    ·rw[Ref.bQ name e] at X;cases X
   have cw:∀(W:World) (v:Value) (s:Option Addr) (n t:Nat),Below w.heap.size w W->xk M W v (st i)->ym M W (.slice s n t) (xP text)->Calls prog 44 #[v,.string name,.agg #[.slice s n t]] W λe S=>∃v,e = .returned (.tuple #[v,.bool (zC (st i) name||decide ((st i).length<4))])/\Below W.heap.size W S/\((zC (st i) name||decide ((st i).length<4))=true->xk M S v (jL (st i) name (xP text))):=λW v s n t hb hl c7=>
    zaA (st i) v name s n t (xP text) M W hl (by have:=(h.good i hi).2.1;omega) ((h.good i hi).1.down name) (λb c6=>uq (hM b c6) hb.size) c7 b7
   have a8:(zC (st i) name||decide ((st i).length<4))=true->Yh (jL (st i) name (xP text)):=λho=>(h.good i hi).with ho (r hd)
   obtain⟨b,hb⟩:=Nm ((zC (st i) name||decide ((st i).length<4)));simp only[hb] at cw a8;simp only[hb];obtain⟨⟨c,q⟩,F⟩:∃x,Rd.x9 text=x:=⟨_,rfl⟩;rw[F] at hd;simp only[F] at U;unfold XC at U;simp only at hd U;subst hd;have CR:=hid U;have HW:=hid cw;have c2:=hid a8;have HM:=hid hM;clear cp U cw a8 hA hS hb F r h hC hM hpl X
   cases b with
   | false=>
    simp only[xz,qW];go_enter func24,ntmps24
    go_upto_region 4 with (go_at_call 42;refine CP.out.mono ?_;rintro e w1 ⟨rfl,N⟩;have f:=hid N;clear N)
    have Z:=hid (CR.out w1 f.out);clear CR
    go_upto_region 5 with (go_at_call 32;refine Z.out.mono ?_;rintro e D ⟨s,n,t,u,rfl,C,b2,R⟩;have K:=hid (R (by trivial));have H:=hid C;have z:=hid (f.out.trans (b2.mono f.out.size));clear b2 C R)
    obtain rfl:u = .nilIface:=by
     rcases Vp rfl H.out with ⟨_,e⟩|⟨e,_⟩
     ·exact e
     ·exact absurd rfl e
    obtain⟨g,k⟩:∃W,D.alloc (.cells #[.slice s n t] 72)=W:=⟨_,rfl⟩;have j:Hid (Below w.heap.size w g):=hid (by rw[<- k];exact z.out.alloc z.out.size _);have O:Below D.heap.size D g:=by rw[<- k];exact nB D _
    have e0:g.cell? ⟨D.heap.size,0,none⟩=some (.slice s n t):=by rw[<- k];exact (zf (zM D _) 0).1
    have B:ym M g (.slice s n t) (xP text):=ym.of (K.out.below O) (λb hb=>uq (HM.out b hb) f.out.size);obtain⟨Y,o,m⟩:=(HO.out.below j.out).row;have c0:g.cell? ⟨I,i,none⟩=some (Y i):=(zf o i).1.trans (QE Y hi);obtain⟨xa,xn,xc,hv⟩:∃a n c,Y i = .slice a n c:=by obtain⟨a,c,e,_⟩:=m i hi;exact⟨a,_,c,e⟩
    have V:Below g.heap.size g g.drew:=(zh _ g).drew;have L:=hid (HW.out g.drew (Y i) s n t (j.out.trans (V.mono j.out.size)) ((m i hi).turn (zT.of V)) (B.turn (zT.of V)));have b4:=hid o;rw[hv] at c0 L;rw[k];clear o m B HW K Z V O k
    go_upto_region 7 with fail
    go_region_held3 (λS=>S.cell? ⟨I,i,none⟩=some (.slice xa xn xc)/\S.cell? ⟨D.heap.size,0,none⟩=some (.slice s n t)) (go_keep) (first|((go_at_call 44);refine L.out.mono ?_;rintro e w5 ⟨v,rfl,J,P⟩;have a4:=hid P;have g0:=zg J c0;have g1:=zg J e0;have G:Hid (Below g.heap.size g w5):=(((zh _ g).drew).trans J);have A:=hid (j.out.trans (G.out.mono j.out.size));clear J P))
    go_wp2_with fail;go_ret2;exact⟨rfl,zT.of A.out,HO.out.below A.out⟩
   | true=>
    simp only[qh];go_enter func24,ntmps24
    go_upto_region 4 with (go_at_call 42;refine CP.out.mono ?_;rintro e w1 ⟨rfl,N⟩;have f:=hid N;clear N)
    have Z:=hid (CR.out w1 f.out);clear CR
    go_upto_region 5 with (go_at_call 32;refine Z.out.mono ?_;rintro e D ⟨s,n,t,u,rfl,C,b2,R⟩;have K:=hid (R (by trivial));have H:=hid C;have z:=hid (f.out.trans (b2.mono f.out.size));clear b2 C R)
    obtain rfl:u = .nilIface:=by
     rcases Vp rfl H.out with ⟨_,e⟩|⟨e,_⟩
     ·exact e
     ·exact absurd rfl e
    obtain⟨g,k⟩:∃W,D.alloc (.cells #[.slice s n t] 72)=W:=⟨_,rfl⟩;have j:Hid (Below w.heap.size w g):=hid (by rw[<- k];exact z.out.alloc z.out.size _);have O:Below D.heap.size D g:=by rw[<- k];exact nB D _
    have e0:g.cell? ⟨D.heap.size,0,none⟩=some (.slice s n t):=by rw[<- k];exact (zf (zM D _) 0).1
    have B:ym M g (.slice s n t) (xP text):=ym.of (K.out.below O) (λb hb=>uq (HM.out b hb) f.out.size);obtain⟨Y,o,m⟩:=(HO.out.below j.out).row;have c0:g.cell? ⟨I,i,none⟩=some (Y i):=(zf o i).1.trans (QE Y hi);obtain⟨xa,xn,xc,hv⟩:∃a n c,Y i = .slice a n c:=by obtain⟨a,c,e,_⟩:=m i hi;exact⟨a,_,c,e⟩
    have V:Below g.heap.size g g.drew:=(zh _ g).drew;have L:=hid (HW.out g.drew (Y i) s n t (j.out.trans (V.mono j.out.size)) ((m i hi).turn (zT.of V)) (B.turn (zT.of V)));have b4:=hid o;rw[hv] at c0 L;rw[k];clear o m B HW K Z V O k
    go_upto_region 7 with fail
    go_region_held3 (λS=>S.cell? ⟨I,i,none⟩=some (.slice xa xn xc)/\S.cell? ⟨D.heap.size,0,none⟩=some (.slice s n t)) (go_keep) (first|((go_at_call 44);refine L.out.mono ?_;rintro e w5 ⟨v,rfl,J,P⟩;have a4:=hid P;have g0:=zg J c0;have g1:=zg J e0;have G:Hid (Below g.heap.size g w5):=(((zh _ g).drew).trans J);have A:=hid (j.out.trans (G.out.mono j.out.size));clear J P))
    have HL:=hid (a4.out (by trivial));have Q:=(G.out.block I (by have:=j.out.size;omega)).trans b4.out;have f2:=(zf Q i).2;obtain⟨va,vn,vc,c9⟩:∃a n c,v = .slice a n c:=by obtain⟨a,c,e,_⟩:=HL.out;exact⟨a,_,c,e⟩
    subst c9;have HF:=hid ((HO.out.below A.out).set hi HL.out (c2.out (by trivial)));have HT:=hid ((zT.of (M:=λb=>b=I) A.out).trans (zT.set (M:=λb=>b=I) w5 rfl i (.slice va vn vc)));clear Q a4 HL;go_wp2_with fail;go_ret2;exact⟨rfl,HT.out,HF.out⟩
  ·have hA:ZE st (i:Int) name text=Rd.x9 text:=by
    unfold ZE;rw[zb hpl,za hd]
   have hS:vG st (i:Int) name text=st:=by
    unfold vG VL;rw[zH hd]
    simp
   rw[hA,hS];obtain⟨⟨c,q⟩,F⟩:∃x,Rd.x9 text=x:=⟨_,rfl⟩;rw[F] at hd |-;simp only[F] at U;unfold XC at U;simp only at hd U |-;have ce:=λW u (hb:Below w.heap.size w W) h=>mZ c q u aL W (hC.below hb).q.p.d.err (hC.below hb).q.long h;have CR:=hid U;have CE:=hid ce;clear cp U ce hA hS F r h hC hM hpl X;go_enter func24,ntmps24
   go_upto_region 4 with (go_at_call 42;refine CP.out.mono ?_;rintro e w1 ⟨rfl,N⟩;have f:=hid N;clear N)
   have Z:=hid (CR.out w1 f.out);clear CR
   go_upto_region 5 with (go_at_call 32;refine Z.out.mono ?_;rintro e D ⟨s,n,t,u,rfl,C,b2,_⟩;have H:=hid C;have z:=hid (f.out.trans (b2.mono f.out.size));clear b2 C)
   obtain⟨T,y,rfl⟩:∃T y,u = .iface T y:=by
    rcases Vp rfl H.out with ⟨e,_⟩|⟨_,T,y,e⟩
    ·exact absurd e hd
    ·exact⟨T,y,e⟩
   have a3:=hid (z.out.alloc z.out.size (.cells #[.slice s n t] 72));have c1:=hid (CE.out _ _ a3.out H.out);clear CE Z
   go_wp2_with (go_at_call 33;refine c1.out.mono ?_;rintro e w5 ⟨rfl,J⟩;have A:=hid (a3.out.trans (J.mono a3.out.size));clear J)
   go_ret2;exact⟨rfl,zT.of A.out,HO.out.below A.out⟩
 ·unfold ZE
  have hS:vG st l name text=st:=by
   unfold vG VL;rw[zH hpl]
   simp
  rw[za hpl,hS];obtain⟨E,hE⟩:∃x,jX l name=x:=⟨_,rfl⟩;rw[hE] at cp hpl |-;have CP:=hid cp;have HO:=hid h;have d:(E==0)=false:=by simpa using hpl
  have d2:(E != 0)=true:=by simpa using hpl
  clear cp hE h hM hC hS;go_enter func24,ntmps24
  go_wp2_with (go_at_call 42;refine CP.out.mono ?_;rintro e w1 ⟨rfl,N⟩;have f:=hid N;clear N)
  go_ret2;exact⟨rfl,zT.of f.out,HO.out.below f.out⟩
end Go.Proofs.YtdakgnaojakldaaGreatDoor
