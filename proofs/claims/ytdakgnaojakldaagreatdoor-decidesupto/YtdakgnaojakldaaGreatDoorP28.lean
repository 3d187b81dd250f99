/- P -/
import Derived.Test.YtdakgnaojakldaaGreatDoorP27
open Go.Proofs.Tryz
set_option maxRecDepth 100000
set_option maxHeartbeats 4000000
namespace Go.Proofs.YtdakgnaojakldaaGreatDoor
def XM(c:qj):Prop:=(Ref.xJ c.op=true/\c.vals=[])\/(Ref.xJ c.op=false/\Ref.Zv c.op c.vals=true/\(Ref.qX c.op=true->∀v ∈ c.vals,Ref.qi v=true))
structure Y4 (s:zS):Prop where
 who:∀p ∈ s.who.2,Ref.qi p=true
 act:∀p ∈ s.act.2,Ref.qi p=true
 on:∀p ∈ s.on.2,Ref.qi p=true
 ifs:∀c ∈ s.ifs,XM c
theorem GY(v:Rd.V)(c:(Rd.xm v).sh=false)(e:(Rd.xm v).pt=false):XM (toS (Rd.xm v)):=by
 match v with
 | .str s=>exact absurd c (by simp[Rd.xm,Ref.yH])
 | .word b=>exact absurd c (by simp[Rd.xm,Ref.yH])
 | .list l=>exact absurd c (by simp[Rd.xm,Ref.yH])
 | .obj ms=>
  obtain⟨R,a⟩:=Nm (Rd.xm (.obj ms));rw[a] at c e |-;simp only[Rd.xm,Rd.YJ] at a
  cases h1:Rd.opV (Rd.zl ms Ref.bOp) with
  | none=>rw[h1] at a;subst a;simp[Ref.yH] at c
  | some op=>
   rw[h1] at a
   cases h2:Rd.opV (Rd.zl ms Ref.zI) with
   | none=>rw[h2] at a;subst a;simp[Ref.yH] at c
   | some key=>
    rw[h2] at a;simp only at a
    by_cases ca:Ref.xJ op=true
    ·rw[zb ca] at a;subst a;exact .inl ⟨ca,rfl⟩
    ·rw[za ca] at a;subst a;simp only[lL,bB] at c;refine .inr ⟨Bool.eq_false_iff.2 ca,c.1.1.2.2,λf v g=>?_⟩;have d:Ref.qX op=true:=f;simp only[d,jC,bB] at e;exact ZM.1 e v g
theorem dI{c:Bool×Option (List BY)}(h:Rd.chP c=false):∀p ∈ (Rd.chD c).2,Ref.qi p=true:=by
 unfold Rd.chP at h;rw[bB] at h;exact λp a=>ZM.1 h p a
theorem Hq(x:Option Rd.V)(a:(Rd.xG x).sh=false)(e:(Rd.xG x).pt=false):∀c ∈ (Rd.xG x).cs.map toS,XM c:=by
 intro c d
 match x with
 | none=>simp[Rd.xG] at d
 | some (.str s)=>simp[Rd.xG] at a
 | some (.word b)=>simp[Rd.xG] at a
 | some (.obj ms)=>simp[Rd.xG] at a
 | some (.list vs)=>
  simp only[Rd.xG] at a e d
  by_cases c5:5<vs.length
  ·rw[zb c5] at a;simp at a
  ·rw[za c5] at a e d;simp only[Xc,JO,Function.comp] at a e;simp only[kM,yf,Function.comp] at d;obtain⟨v,f,rfl⟩:=d;exact GY v (by simpa using a v f) (by simpa using e v f)
theorem zbW(v:Rd.V)(a:(Rd.x8 v).sh=false)(c:(Rd.x8 v).pt=false):Y4 (vQ (Rd.x8 v)):=by
 match v with
 | .str s=>exact absurd a (by simp[Rd.x8,Rd.vg])
 | .word b=>exact absurd a (by simp[Rd.x8,Rd.vg])
 | .list l=>exact absurd a (by simp[Rd.x8,Rd.vg])
 | .obj ms=>
  simp only[Rd.x8,Rd.YU] at a c |-
  split at a
  ·rename_i eff d e;rw[d,e] at c;simp only[Rd.Ye,lL] at a c;obtain⟨⟨⟨f,g⟩,h⟩,i⟩:=c;exact⟨dI f,dI g,dI h,Hq _ a.2 i⟩
  ·simp[Rd.vg] at a
theorem MS(s:BY)(h:(Rd.xy s).1=0):∀r ∈ vz s,Y4 (vQ r):=by
 unfold Rd.xy at h;unfold vz
 by_cases h1:4000<s.size
 ·rw[zb h1] at h;simp at h
 rw[za h1] at h;rw[za h1]
 cases hm:Rd.yS s.data.toList with
 | err e q=>intro r d;simp at d
 | ok v q=>
  rw[hm] at h;simp only at h |-
  match v with
  | .str t=>simp[Rd.ug] at h
  | .word b=>simp[Rd.ug] at h
  | .list l=>simp[Rd.ug] at h
  | .obj ms=>
   simp only[Rd.ug] at h
   match hx:Rd.zl ms Rd.yX with
   | none=>rw[hx] at h;simp at h
   | some (.str t)=>rw[hx] at h;simp at h
   | some (.word b)=>rw[hx] at h;simp at h
   | some (.obj ms)=>rw[hx] at h;simp at h
   | some (.list vs)=>
    rw[hx] at h;simp only at h;have f:qy (stX (.obj ms))=vs:=by simp[qy,stX,hx]
    rw[f]
    by_cases c:ms.length≠1\/vs.length<1\/10<vs.length
    ·rw[zb c] at h;simp at h
    rw[za c] at h;intro r d;obtain⟨a,b⟩:=eU _ _ h r d;rw[yf] at d;obtain⟨v,f,rfl⟩:=d;exact zbW v a b
end Go.Proofs.YtdakgnaojakldaaGreatDoor
namespace Go.Proofs.YtdakgnaojakldaaGreatDoor
open Go.RowKit
abbrev StO:=Nat->List zF
def upd(st:StO)(i:Nat)(L:List zF):StO:=λj=>if j=i then L else st j
def XX(a:List zS):Prop:=a.length<=10/\(∀s ∈ a,cz s)/\∀s ∈ a,Y4 s
def Qw(L:List zF):Prop:=jG L/\L.length<=4/\∀x ∈ L,XX x.2
theorem Qw.less{L:List zF}(h:Qw L)(p:Nat):Qw (ZW L p):=
 ⟨h.1.less p,RY p h.2.1,λx a=>h.2.2 x (by
  unfold ZW at a
  rcases jE.1 a with a|a
  ·exact VV a
  ·exact Ke a)⟩
theorem Qw.with{L:List zF}(h:Qw L){name:BY}{b:List zS}(c:(zn L name||decide (L.length<4))=true)(d:XX b):Qw (kH L name b):=
 ⟨h.1.with name b,zc8 h.2.1 c,λx a=>by
  unfold kH at a
  rcases jE.1 a with a|a
  ·rcases jE.1 a with a|a
   ·exact h.2.2 x (VV a)
   ·rw[xX] at a;subst a;exact d
  ·exact h.2.2 x (Ke a)⟩
structure xw (M:Nat->Prop) (W:World) (ob:Nat) (st:StO):Prop where
 mine:M ob
 row:∃vs:Nat->Value,W.heap[ob]?=some (.cells #[vs 0,vs 1,vs 2,vs 3] 101)/\∀i,i<4->x9 M W (vs i) (st i)
 good:∀i,i<4->Qw (st i)
theorem lt4{i:Nat}(h:i<4):i=0\/i=1\/i=2\/i=3:=by omega
theorem xw.below{M:Nat->Prop}{W W':World}{ob:Nat}{st:StO}(h:xw M W ob st)(hb:Below W.heap.size W W'):xw M W' ob st:=by
 obtain⟨c,a,b⟩:=h.row;exact⟨h.mine,⟨c,(hb.block ob (zt a)).trans a,λi hi=>(b i hi).turn (zw.of hb)⟩,h.good⟩
theorem xw.other{M:Nat->Prop}{W W':World}{ob a:Nat}{st:StO}(h:xw M W ob st)(f:zw (λb=>b=a) W W')(c:ob≠a)(j:M a):xw M W' ob st:=by
 obtain⟨l,d,g⟩:=h.row;exact⟨h.mine,⟨l,(f.block ob (zt d) c).trans d,λi hi=>(g i hi).turn (f.wide (λk _ e=>by rw[e];exact j))⟩,h.good⟩
theorem xw.more{M M':Nat->Prop}{W:World}{ob:Nat}{st:StO}(h:xw M W ob st)(d:∀b,M' b->M b\/W.heap.size<=b)(e:M' ob):xw M' W ob st:=by
 obtain⟨f,a,c⟩:=h.row;exact⟨e,⟨f,a,λi hi=>(c i hi).more d⟩,h.good⟩
theorem Jo(a:Nat->Value){i:Nat}(h:i<4):(#[a 0,a 1,a 2,a 3]:Array Value)[i]?=some (a i):=by
 rcases lt4 h with rfl|rfl|rfl|rfl<;>rfl
theorem Np(a:Nat->Value)(v:Value){i:Nat}(h:i<4):(#[a 0,a 1,a 2,a 3]:Array Value).setIfInBounds i v=#[if 0=i then v else a 0,if 1=i then v else a 1,if 2=i then v else a 2,if 3=i then v else a 3]:=by
 rcases lt4 h with rfl|rfl|rfl|rfl<;>rfl
theorem xw.set{M:Nat->Prop}{W:World}{ob:Nat}{st:StO}(h:xw M W ob st){i:Nat}(hi:i<4){v:Value}{L:List zF}(k:x9 M W v L)(g:Qw L):xw M (W.setCell ⟨ob,i,none⟩ v) ob (upd st i L):=by
 obtain⟨b,d,f⟩:=h.row;have c:=zw.set (M:=M) W h.mine i v;refine⟨h.mine,⟨λj=>if j=i then v else b j,?_,λj a=>?_⟩,λj a=>?_⟩
 ·have:=yF W ob i _ _ v d
  rw[Np b v hi] at this;exact this
 ·show x9 M _ (if j=i then v else b j) (if j=i then L else st j)
  by_cases e:j=i
  ·rw[zb e,zb e];exact k.turn c
  ·rw[za e,za e];exact (f j a).turn c
 ·unfold upd
  by_cases e:j=i
  ·rw[zb e];exact g
  ·rw[za e];exact h.good j a
def QK:StO:=λ_=>[]
theorem Tk(M:Nat->Prop)(w:World)(c:M w.heap.size) :
  Calls prog 21 #[] w λe w'=>e = .returned (.pointer (some ⟨w.heap.size,0,none⟩))/\Below w.heap.size w w'/\xw M w' w.heap.size QK:=by
 have a:xw M (w.alloc (.cells #[.slice none 0 0,.slice none 0 0,.slice none 0 0,.slice none 0 0] 101)) w.heap.size QK:=
  ⟨c,⟨λ_ => .slice none 0 0,zB w _,λi _=>tK M _⟩,λi _=>⟨bK,by simp[QK],λx d=>by simp[QK] at d⟩⟩
 have b:=hid a;clear a;go_enter func21,ntmps21
 go_wp2
 go_ret;exact⟨rfl,nbl w _,b.out⟩
def X6(st:StO)(l:Int)(name:BY):Int:=if xL l name=0 then (if zn (st l.toNat) name then 0 else 9) else xL l name
def X7(st:StO)(l:Int)(name:BY):StO:=if xL l name=0/\zn (st l.toNat) name=true then upd st l.toNat (ZW (st l.toNat) (qV (st l.toNat) name)) else st
theorem ay{l:Int}{name:BY}(h:xL l name=0):∃i:Nat,l=(i:Int)/\i<4/\Ref.zX name=true:=by
 unfold xL at h
 cases h1:YO l with
 | false=>rw[h1] at h;simp at h
 | true=>
  rw[h1] at h
  cases h2:Ref.zX name with
  | false=>rw[h2] at h;simp at h
  | true=>
   unfold YO at h1;rw[kJ,uf,uf] at h1;exact⟨l.toNat,by omega,by omega,rfl⟩
theorem LD(ob:Nat)(st:StO)(l:Int)(name:BY)(M:Nat->Prop)(w:World)(h:xw M w ob st)(B:∀b,M b->b<w.heap.size)(hs:name.size<=maxLen) :
  Calls prog 29 #[.pointer (some ⟨ob,0,none⟩),.int .i64 l,.string name] w λe w'=>e = .returned (.int .i64 (X6 st l name))/\zw (λb=>b=ob) w w'/\xw M w' ob (X7 st l name):=by
 have y:=Bn l name w hs
 by_cases hpl:xL l name=0
 ·obtain⟨i,rfl,hi,K⟩:=ay hpl;have P:X6 st (i:Int) name=if zn (st i) name then 0 else 9:=by unfold X6;rw[zb hpl];rfl
  have S:X7 st (i:Int) name=if zn (st i) name=true then upd st i (ZW (st i) (qV (st i) name)) else st:=by
   unfold X7;simp only[jU,hpl,Q8]
  rw[P,S];rw[hpl] at y;have D:=hid y;have r:=hid h;have HM:=hid B;have a0:ob<w.heap.size:=B ob h.mine
  have I:∀(W:World) (v:Value),xw M W ob st->Below w.heap.size w W->x9 M W v (st i)->Calls prog 48 #[v,.string name] W λe w'=>∃v,e = .returned (.tuple #[v,.bool (zn (st i) name)])/\Below W.heap.size W w'/\(zn (st i) name=true->x9 M w' v (ZW (st i) (qV (st i) name))):=λW v R hb Z=>
   zda (st i) v name M W Z (by have:=(R.good i hi).2.1;omega) ((R.good i hi).1.down name) (λb J=>xS (B b J) hb.size)
  have T:=(h.good i hi);have t:=T.less (qV (st i) name);obtain⟨b,hb⟩:=Nm (zn (st i) name);obtain⟨LN,p⟩:∃x,ZW (st i) (qV (st i) name)=x:=⟨_,rfl⟩;simp only[hb,p] at I;simp only[hb,p];rw[p] at t;clear P S;have F:=hid I;have V:=hid t;have k0:(0:Int)<=(i:Int):=qz _;have k1:(i:Int)<4:=by omega
  clear y I T t hpl hb p B K
  cases b with
  | false=>
   simp only[yu,xV];go_enter func29,ntmps29
   go_upto_region 4 with (go_at_call 42;refine D.out.mono ?_;rintro e w1 ⟨rfl,s⟩;have f:=hid s;clear s)
   obtain⟨q,j,g⟩:=(r.out.below f.out).row;have c0:w1.cell? ⟨ob,i,none⟩=some (q i):=(zg j i).1.trans (Jo q hi);obtain⟨la,ln,lc,z⟩:∃a n c,q i = .slice a n c:=by obtain⟨a,c,e,_⟩:=g i hi;exact⟨a,_,c,e⟩
   have k:=g i hi;rw[z] at c0 k;have G:=hid (F.out w1 _ (r.out.below f.out) f.out k);clear j g z k F
   go_wp2_with (go_at_call 48;refine G.out.mono ?_;rintro e N ⟨v,rfl,u,_⟩;have o:=hid (f.out.trans (u.mono f.out.size));clear u)
   go_ret;exact⟨rfl,zw.of o.out,r.out.below o.out⟩
  | true=>
   simp only[qJ];go_enter func29,ntmps29
   go_upto_region 4 with (go_at_call 42;refine D.out.mono ?_;rintro e w1 ⟨rfl,s⟩;have f:=hid s;clear s)
   obtain⟨q,j,g⟩:=(r.out.below f.out).row;have c0:w1.cell? ⟨ob,i,none⟩=some (q i):=(zg j i).1.trans (Jo q hi);obtain⟨la,ln,lc,z⟩:∃a n c,q i = .slice a n c:=by obtain⟨a,c,e,_⟩:=g i hi;exact⟨a,_,c,e⟩
   have k:=g i hi;have H:=hid j;rw[z] at c0 k;have G:=hid (F.out w1 _ (r.out.below f.out) f.out k);have f1:=(zg j i).2;clear j g k F
   go_upto_region 7 with (go_at_call 48;refine G.out.mono ?_;rintro e N ⟨v,rfl,u,C⟩;have O:=hid (C (by trivial));have A:=hid u;have o:=hid (f.out.trans (u.mono f.out.size));clear u C)
   have m:=(A.out.block ob (by have:=f.out.size;omega)).trans H.out;have Y:N.cell? ⟨ob,i,none⟩=some (q i):=(zg m i).1.trans (Jo q hi);have f2:=(zg m i).2;obtain⟨va,vn,vc,L⟩:∃a n c,v = .slice a n c:=by obtain⟨a,c,e,_⟩:=O.out;exact⟨a,_,c,e⟩
   subst L;have U:=hid ((r.out.below o.out).set hi O.out V.out);have X:=hid ((zw.of (M:=λb=>b=ob) o.out).trans (zw.set (M:=λb=>b=ob) N rfl i (.slice va vn vc)));rw[z] at Y;clear m z c0 f1;go_wp2_with fail;go_ret;exact⟨rfl,X.out,U.out⟩
 ·unfold X6 X7;rw[za hpl,za (λe=>hpl e.1)];obtain⟨E,Q⟩:∃x,xL l name=x:=⟨_,rfl⟩;rw[Q] at y hpl |-;have D:=hid y;have r:=hid h;have d:(E==0)=false:=by simpa using hpl
  have d2:(E != 0)=true:=by simpa using hpl
  clear y Q h B;go_enter func29,ntmps29
  go_wp2_with (go_at_call 42;refine D.out.mono ?_;rintro e w1 ⟨rfl,s⟩;have f:=hid s;clear s)
  go_ret;exact⟨rfl,zw.of f.out,r.out.below f.out⟩
def Yi(st:StO)(l:Int)(name text:BY):Bool:=decide (xL l name=0)&&decide ((Rd.xy text).1=0)&&(zn (st l.toNat) name||decide ((st l.toNat).length<4))
def Ze(st:StO)(l:Int)(name text:BY):Int×Nat:=if xL l name=0 then (if (Rd.xy text).1=0 then (if zn (st l.toNat) name||decide ((st l.toNat).length<4) then (0,0) else (10,0)) else Rd.xy text) else (xL l name,0)
def ZA(st:StO)(l:Int)(name text:BY):StO:=if Yi st l name text then upd st l.toNat (kH (st l.toNat) name (Zj text)) else st
theorem zcI(s:BY)(c:(Rd.xy s).1=0):XX (Zj s):=by
 obtain⟨d,e,f⟩:=CY s c;have g:Zj s=(vz s).map vQ:=f;rw[g];refine⟨by rw[qH];exact e,λx a=>?_,λx a=>?_⟩
 ·rw[yf] at a;obtain⟨r,b,rfl⟩:=a;exact zbp (d r b).2
 ·rw[yf] at a;obtain⟨r,b,rfl⟩:=a;exact MS s c r b
theorem WV(ob:Nat)(st:StO)(l:Int)(name text:BY)(M:Nat->Prop)(aL:Addr)(w:World)(hC:Qu w aL)(h:xw M w ob st)(hM:∀b,M b->b<w.heap.size)(hs:name.size<=maxLen) :
  Calls prog 24 #[.pointer (some ⟨ob,0,none⟩),.int .i64 l,.string name,.string text] w λe w'=>e = .returned (.tuple #[.int .i64 (Ze st l name text).1,.int .i64 ((Ze st l name text).2:Int)])/\zw (λb=>b=ob) w w'/\xw M w' ob (ZA st l name text):=by
 have cp:=Bn l name w hs
 by_cases hpl:xL l name=0
 ·obtain⟨i,rfl,hi,U⟩:=ay hpl;rw[hpl] at cp;have CP:=hid cp;have HO:=hid h;have d6:=hid hC;have e4:ob<w.heap.size:=hM ob h.mine;have R:=λW (hb:Below w.heap.size w W)=>Lg text W _ _ _ rfl (hC.below hb).q;have r:=zcI text;have k0:(0:Int)<=(i:Int):=qz _;have k1:(i:Int)<4:=by omega
  by_cases hd:(Rd.xy text).1=0
  ·have hA:Ze st (i:Int) name text=if (zn (st i) name||decide ((st i).length<4))=true then (0,0) else (10,0):=by
    unfold Ze;rw[zb hpl,zb hd]
    rfl
   have Z:ZA st (i:Int) name text=if (zn (st i) name||decide ((st i).length<4))=true then upd st i (kH (st i) name (Zj text)) else st:=by
    unfold ZA Yi;rw[zy hpl,zy hd];simp only[jU,jC]
   rw[hA,Z]
   have b3:name.size<=281474976710656:=by
    by_cases e:1<=name.size/\name.size<=12
    ·omega
    ·rw[Ref.Uw name e] at U;cases U
   have cw:∀(W:World) (v:Value) (s:Option Addr) (n t:Nat),Below w.heap.size w W->x9 M W v (st i)->jd M W (.slice s n t) (Zj text)->Calls prog 44 #[v,.string name,.agg #[.slice s n t]] W λe w'=>∃v,e = .returned (.tuple #[v,.bool (zn (st i) name||decide ((st i).length<4))])/\Below W.heap.size W w'/\((zn (st i) name||decide ((st i).length<4))=true->x9 M w' v (kH (st i) name (Zj text))):=λW v s n t hb hl c4=>
    zc9 (st i) v name s n t (Zj text) M W hl (by have:=(h.good i hi).2.1;omega) ((h.good i hi).1.down name) (λb c3=>xS (hM b c3) hb.size) c4 b3
   have a6:(zn (st i) name||decide ((st i).length<4))=true->Qw (kH (st i) name (Zj text)):=λho=>(h.good i hi).with ho (r hd)
   obtain⟨b,hb⟩:=Nm ((zn (st i) name||decide ((st i).length<4)));simp only[hb] at cw a6;simp only[hb];obtain⟨⟨c,q⟩,F⟩:∃x,Rd.xy text=x:=⟨_,rfl⟩;rw[F] at hd;simp only[F] at R;unfold Y2 at R;simp only at hd R;subst hd;have CR:=hid R;have HW:=hid cw;have b8:=hid a6;have HM:=hid hM;clear cp R cw a6 hA Z hb F r h hC hM hpl U
   cases b with
   | false=>
    simp only[yu,xV];go_enter func24,ntmps24
    go_upto_region 4 with (go_at_call 42;refine CP.out.mono ?_;rintro e w1 ⟨rfl,L⟩;have f:=hid L;clear L)
    have X:=hid (CR.out w1 f.out);clear CR
    go_upto_region 5 with (go_at_call 32;refine X.out.mono ?_;rintro e D ⟨s,n,t,u,rfl,C,Y,Q⟩;have J:=hid (Q (by trivial));have H:=hid C;have z:=hid (f.out.trans (Y.mono f.out.size));clear Y C Q)
    obtain rfl:u = .nilIface:=by
     rcases eH rfl H.out with ⟨_,e⟩|⟨e,_⟩
     ·exact e
     ·exact absurd rfl e
    obtain⟨g,k⟩:∃W,D.alloc (.cells #[.slice s n t] 72)=W:=⟨_,rfl⟩;have j:Hid (Below w.heap.size w g):=hid (by rw[<- k];exact z.out.alloc z.out.size _);have N:Below D.heap.size D g:=by rw[<- k];exact nbl D _
    have e0:g.cell? ⟨D.heap.size,0,none⟩=some (.slice s n t):=by rw[<- k];exact (zg (zB D _) 0).1
    have B:jd M g (.slice s n t) (Zj text):=jd.of (J.out.below N) (λb hb=>xS (HM.out b hb) f.out.size);obtain⟨V,o,m⟩:=(HO.out.below j.out).row;have c0:g.cell? ⟨ob,i,none⟩=some (V i):=(zg o i).1.trans (Jo V hi);obtain⟨xa,xn,xc,hv⟩:∃a n c,V i = .slice a n c:=by obtain⟨a,c,e,_⟩:=m i hi;exact⟨a,_,c,e⟩
    have S:Below g.heap.size g g.drew:=(ze _ g).drew;have K:=hid (HW.out g.drew (V i) s n t (j.out.trans (S.mono j.out.size)) ((m i hi).turn (zw.of S)) (B.turn (zw.of S)));have a9:=hid o;rw[hv] at c0 K;rw[k];clear o m B HW J X S N k
    go_upto_region 7 with fail
    go_region_held3 (λw'=>w'.cell? ⟨ob,i,none⟩=some (.slice xa xn xc)/\w'.cell? ⟨D.heap.size,0,none⟩=some (.slice s n t)) (go_keep) (first|((go_at_call 44);refine K.out.mono ?_;rintro e w5 ⟨v,rfl,I,O⟩;have a2:=hid O;have g0:=zh I c0;have g1:=zh I e0;have G:Hid (Below g.heap.size g w5):=(((ze _ g).drew).trans I);have A:=hid (j.out.trans (G.out.mono j.out.size));clear I O))
    go_wp2_with fail;go_ret2;exact⟨rfl,zw.of A.out,HO.out.below A.out⟩
   | true=>
    simp only[qJ];go_enter func24,ntmps24
    go_upto_region 4 with (go_at_call 42;refine CP.out.mono ?_;rintro e w1 ⟨rfl,L⟩;have f:=hid L;clear L)
    have X:=hid (CR.out w1 f.out);clear CR
    go_upto_region 5 with (go_at_call 32;refine X.out.mono ?_;rintro e D ⟨s,n,t,u,rfl,C,Y,Q⟩;have J:=hid (Q (by trivial));have H:=hid C;have z:=hid (f.out.trans (Y.mono f.out.size));clear Y C Q)
    obtain rfl:u = .nilIface:=by
     rcases eH rfl H.out with ⟨_,e⟩|⟨e,_⟩
     ·exact e
     ·exact absurd rfl e
    obtain⟨g,k⟩:∃W,D.alloc (.cells #[.slice s n t] 72)=W:=⟨_,rfl⟩;have j:Hid (Below w.heap.size w g):=hid (by rw[<- k];exact z.out.alloc z.out.size _);have N:Below D.heap.size D g:=by rw[<- k];exact nbl D _
    have e0:g.cell? ⟨D.heap.size,0,none⟩=some (.slice s n t):=by rw[<- k];exact (zg (zB D _) 0).1
    have B:jd M g (.slice s n t) (Zj text):=jd.of (J.out.below N) (λb hb=>xS (HM.out b hb) f.out.size);obtain⟨V,o,m⟩:=(HO.out.below j.out).row;have c0:g.cell? ⟨ob,i,none⟩=some (V i):=(zg o i).1.trans (Jo V hi);obtain⟨xa,xn,xc,hv⟩:∃a n c,V i = .slice a n c:=by obtain⟨a,c,e,_⟩:=m i hi;exact⟨a,_,c,e⟩
    have S:Below g.heap.size g g.drew:=(ze _ g).drew;have K:=hid (HW.out g.drew (V i) s n t (j.out.trans (S.mono j.out.size)) ((m i hi).turn (zw.of S)) (B.turn (zw.of S)));have a9:=hid o;rw[hv] at c0 K;rw[k];clear o m B HW J X S N k
    go_upto_region 7 with fail
    go_region_held3 (λw'=>w'.cell? ⟨ob,i,none⟩=some (.slice xa xn xc)/\w'.cell? ⟨D.heap.size,0,none⟩=some (.slice s n t)) (go_keep) (first|((go_at_call 44);refine K.out.mono ?_;rintro e w5 ⟨v,rfl,I,O⟩;have a2:=hid O;have g0:=zh I c0;have g1:=zh I e0;have G:Hid (Below g.heap.size g w5):=(((ze _ g).drew).trans I);have A:=hid (j.out.trans (G.out.mono j.out.size));clear I O))
    have HL:=hid (a2.out (by trivial));have P:=(G.out.block ob (by have:=j.out.size;omega)).trans a9.out;have f2:=(zg P i).2;obtain⟨va,vn,vc,c6⟩:∃a n c,v = .slice a n c:=by obtain⟨a,c,e,_⟩:=HL.out;exact⟨a,_,c,e⟩
    subst c6;have HF:=hid ((HO.out.below A.out).set hi HL.out (b8.out (by trivial)));have HT:=hid ((zw.of (M:=λb=>b=ob) A.out).trans (zw.set (M:=λb=>b=ob) w5 rfl i (.slice va vn vc)));clear P a2 HL;go_wp2_with fail;go_ret2;exact⟨rfl,HT.out,HF.out⟩
  ·have hA:Ze st (i:Int) name text=Rd.xy text:=by
    unfold Ze;rw[zb hpl,za hd]
   have Z:ZA st (i:Int) name text=st:=by
    unfold ZA Yi;rw[zJ hd]
    simp
   rw[hA,Z];obtain⟨⟨c,q⟩,F⟩:∃x,Rd.xy text=x:=⟨_,rfl⟩;rw[F] at hd |-;simp only[F] at R;unfold Y2 at R;simp only at hd R |-;have ce:=λW u (hb:Below w.heap.size w W) h=>Ml c q u aL W (hC.below hb).q.p.d.err (hC.below hb).q.long h;have CR:=hid R;have CE:=hid ce;clear cp R ce hA Z F r h hC hM hpl U;go_enter func24,ntmps24
   go_upto_region 4 with (go_at_call 42;refine CP.out.mono ?_;rintro e w1 ⟨rfl,L⟩;have f:=hid L;clear L)
   have X:=hid (CR.out w1 f.out);clear CR
   go_upto_region 5 with (go_at_call 32;refine X.out.mono ?_;rintro e D ⟨s,n,t,u,rfl,C,Y,_⟩;have H:=hid C;have z:=hid (f.out.trans (Y.mono f.out.size));clear Y C)
   obtain⟨T,y,rfl⟩:∃T y,u = .iface T y:=by
    rcases eH rfl H.out with ⟨e,_⟩|⟨_,T,y,e⟩
    ·exact absurd e hd
    ·exact⟨T,y,e⟩
   have a1:=hid (z.out.alloc z.out.size (.cells #[.slice s n t] 72));have b7:=hid (CE.out _ _ a1.out H.out);clear CE X
   go_wp2_with (go_at_call 33;refine b7.out.mono ?_;rintro e w5 ⟨rfl,I⟩;have A:=hid (a1.out.trans (I.mono a1.out.size));clear I)
   go_ret2;exact⟨rfl,zw.of A.out,HO.out.below A.out⟩
 ·unfold Ze
  have Z:ZA st l name text=st:=by
   unfold ZA Yi;rw[zJ hpl]
   simp
  rw[za hpl,Z];obtain⟨E,hE⟩:∃x,xL l name=x:=⟨_,rfl⟩;rw[hE] at cp hpl |-;have CP:=hid cp;have HO:=hid h;have d:(E==0)=false:=by simpa using hpl
  have d2:(E != 0)=true:=by simpa using hpl
  clear cp hE h hM hC Z;go_enter func24,ntmps24
  go_wp2_with (go_at_call 42;refine CP.out.mono ?_;rintro e w1 ⟨rfl,L⟩;have f:=hid L;clear L)
  go_ret2;exact⟨rfl,zw.of f.out,HO.out.below f.out⟩
end Go.Proofs.YtdakgnaojakldaaGreatDoor
