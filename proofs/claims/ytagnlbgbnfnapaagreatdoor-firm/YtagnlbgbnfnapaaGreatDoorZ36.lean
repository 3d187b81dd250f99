/- P -/
import Derived.Test.YtagnlbgbnfnapaaGreatDoorZ35
open Go.Proofs.Tryz
set_option maxRecDepth 100000
set_option maxHeartbeats 4000000
namespace Go.Proofs.YtagnlbgbnfnapaaGreatDoor
def Jp(c:qF):Prop:=(Ref.jm c.op=true/\c.vals=[])\/(Ref.jm c.op=false/\Ref.Yl c.op c.vals=true/\(Ref.xH c.op=true->∀v ∈ c.vals,Ref.yf v=true))
structure Jq (s:zT):Prop where
 who:∀p ∈ s.who.2,Ref.yf p=true
 act:∀p ∈ s.act.2,Ref.yf p=true
 on:∀p ∈ s.on.2,Ref.yf p=true
 ifs:∀c ∈ s.ifs,Jp c
theorem FD(v:Rd.V)(c:(Rd.xG v).sh=false)(e:(Rd.xG v).pt=false):Jp (toS (Rd.xG v)):=by
 match v with
 | .str s=>exact absurd c (by simp[Rd.xG,Ref.Zi])
 | .word b=>exact absurd c (by simp[Rd.xG,Ref.Zi])
 | .list l=>exact absurd c (by simp[Rd.xG,Ref.Zi])
 | .obj ms=>
  obtain⟨R,a⟩:=Nm (Rd.xG (.obj ms));rw[a] at c e |-;simp only[Rd.xG,Rd.JM] at a
  cases h1:Rd.opV (Rd.zl ms Ref.bOp) with
  | none=>rw[h1] at a;subst a;simp[Ref.Zi] at c
  | some op=>
   rw[h1] at a
   cases h2:Rd.opV (Rd.zl ms Ref.zG) with
   | none=>rw[h2] at a;subst a;simp[Ref.Zi] at c
   | some key=>
    rw[h2] at a;simp only at a
    by_cases ca:Ref.jm op=true
    ·rw[zb ca] at a;subst a;exact .inl ⟨ca,rfl⟩
    ·rw[za ca] at a;subst a;simp only[K9,K8] at c;refine .inr ⟨Bool.eq_false_iff.2 ca,c.1.1.2.2,λf v g=>?_⟩;have d:Ref.xH op=true:=f;simp only[d,Qg,K8] at e;exact vP.1 e v g
theorem aX{c:Bool×Option (List BA)}(h:Rd.chP c=false):∀p ∈ (Rd.chD c).2,Ref.yf p=true:=by
 unfold Rd.chP at h;rw[K8] at h;exact λp a=>vP.1 h p a
theorem FL(x:Option Rd.V)(a:(Rd.xY x).sh=false)(e:(Rd.xY x).pt=false):∀c ∈ (Rd.xY x).cs.map toS,Jp c:=by
 intro c d
 match x with
 | none=>simp[Rd.xY] at d
 | some (.str s)=>simp[Rd.xY] at a
 | some (.word b)=>simp[Rd.xY] at a
 | some (.obj ms)=>simp[Rd.xY] at a
 | some (.list vs)=>
  simp only[Rd.xY] at a e d
  by_cases c5:5<vs.length
  ·rw[zb c5] at a;simp at a
  ·rw[za c5] at a e d;simp only[QV,QU,Function.comp] at a e;simp only[jw,qR,Function.comp] at d;obtain⟨v,f,rfl⟩:=d;exact FD v (by simpa using a v f) (by simpa using e v f)
theorem WG(v:Rd.V)(a:(Rd.yz v).sh=false)(c:(Rd.yz v).pt=false):Jq (YD (Rd.yz v)):=by
 match v with
 | .str s=>exact absurd a (by simp[Rd.yz,Rd.Z9])
 | .word b=>exact absurd a (by simp[Rd.yz,Rd.Z9])
 | .list l=>exact absurd a (by simp[Rd.yz,Rd.Z9])
 | .obj ms=>
  simp only[Rd.yz,Rd.Vp] at a c |-
  split at a
  ·rename_i eff d e;rw[d,e] at c;simp only[Rd.J4,K9] at a c;obtain⟨⟨⟨f,g⟩,h⟩,i⟩:=c;exact⟨aX f,aX g,aX h,FL _ a.2 i⟩
  ·simp[Rd.Z9] at a
theorem IK(s:BA)(h:(Rd.jT s).1=0):∀r ∈ Ji s,Jq (YD r):=by
 unfold Rd.jT at h;unfold Ji
 by_cases h1:4000<s.size
 ·rw[zb h1] at h;simp at h
 rw[za h1] at h;rw[za h1]
 cases hm:Rd.yS s.data.toList with
 | err e q=>intro r d;simp at d
 | ok v q=>
  rw[hm] at h;simp only at h |-
  match v with
  | .str t=>simp[Rd.ZC] at h
  | .word b=>simp[Rd.ZC] at h
  | .list l=>simp[Rd.ZC] at h
  | .obj ms=>
   simp only[Rd.ZC] at h
   match hx:Rd.zl ms Rd.vC with
   | none=>rw[hx] at h;simp at h
   | some (.str t)=>rw[hx] at h;simp at h
   | some (.word b)=>rw[hx] at h;simp at h
   | some (.obj ms)=>rw[hx] at h;simp at h
   | some (.list vs)=>
    rw[hx] at h;simp only at h;have f:qK (stX (.obj ms))=vs:=by simp[qK,stX,hx]
    rw[f]
    by_cases c:ms.length≠1\/vs.length<1\/10<vs.length
    ·rw[zb c] at h;simp at h
    rw[za c] at h;intro r d;obtain⟨a,b⟩:=cz _ _ h r d;rw[qR] at d;obtain⟨v,f,rfl⟩:=d;exact WG v a b
end Go.Proofs.YtagnlbgbnfnapaaGreatDoor
namespace Go.Proofs.YtagnlbgbnfnapaaGreatDoor
open Go.RowKit
abbrev StO:=Nat->List zu
def upd(a:StO)(i:Nat)(L:List zu):StO:=λj=>if j=i then L else a j
def YS(a:List zT):Prop:=a.length<=10/\(∀s ∈ a,aJ s)/\∀s ∈ a,Jq s
def QS(L:List zu):Prop:=jC L/\L.length<=4/\∀x ∈ L,YS x.2
theorem QS.less{L:List zu}(h:QS L)(p:Nat):QS (Zf L p):=
 ⟨h.1.less p,Nq p h.2.1,λx a=>h.2.2 x (by
  unfold Zf at a
  rcases ZT.1 a with a|a
  ·exact Ju a
  ·exact az a)⟩
theorem QS.with{L:List zu}(h:QS L){name:BA}{b:List zT}(c:(zO L name||decide (L.length<4))=true)(d:YS b):QS (jg L name b):=
 ⟨h.1.with name b,za2 h.2.1 c,λx a=>by
  unfold jg at a
  rcases ZT.1 a with a|a
  ·rcases ZT.1 a with a|a
   ·exact h.2.2 x (Ju a)
   ·rw[xP] at a;subst a;exact d
  ·exact h.2.2 x (az a)⟩
structure qN (M:Nat->Prop) (W:World) (ob:Nat) (st:StO):Prop where
 mine:M ob
 row:∃vs:Nat->Value,W.heap[ob]?=some (.cells #[vs 0,vs 1,vs 2,vs 3] 81)/\∀i,i<4->xO M W (vs i) (st i)
 good:∀i,i<4->QS (st i)
theorem lt4{i:Nat}(h:i<4):i=0\/i=1\/i=2\/i=3:=by omega
theorem qN.below{M:Nat->Prop}{W b:World}{a:Nat}{d:StO}(h:qN M W a d)(hb:Below W.heap.size W b):qN M b a d:=by
 obtain⟨f,c,e⟩:=h.row;exact⟨h.mine,⟨f,(hb.block a (zY c)).trans c,λi hi=>(e i hi).turn (zC.of hb)⟩,h.good⟩
theorem qN.other{M:Nat->Prop}{W f:World}{c a:Nat}{l:StO}(h:qN M W c l)(j:zC (λb=>b=a) W f)(d:c≠a)(n:M a):qN M f c l:=by
 obtain⟨o,g,m⟩:=h.row;exact⟨h.mine,⟨o,(j.block c (zY g) d).trans g,λi hi=>(m i hi).turn (j.wide (λk _ e=>by rw[e];exact n))⟩,h.good⟩
theorem qN.more{M M':Nat->Prop}{W:World}{a:Nat}{c:StO}(h:qN M W a c)(f:∀b,M' b->M b\/W.heap.size<=b)(g:M' a):qN M' W a c:=by
 obtain⟨j,d,e⟩:=h.row;exact⟨g,⟨j,d,λi hi=>(e i hi).more f⟩,h.good⟩
theorem Yn(a:Nat->Value){i:Nat}(h:i<4):(#[a 0,a 1,a 2,a 3]:Array Value)[i]?=some (a i):=by
 rcases lt4 h with rfl|rfl|rfl|rfl<;>rfl
theorem Lg(a:Nat->Value)(v:Value){i:Nat}(h:i<4):(#[a 0,a 1,a 2,a 3]:Array Value).setIfInBounds i v=#[if 0=i then v else a 0,if 1=i then v else a 1,if 2=i then v else a 2,if 3=i then v else a 3]:=by
 rcases lt4 h with rfl|rfl|rfl|rfl<;>rfl
theorem qN.set{M:Nat->Prop}{W:World}{a:Nat}{c:StO}(h:qN M W a c){i:Nat}(hi:i<4){v:Value}{L:List zu}(m:xO M W v L)(l:QS L):qN M (W.setCell ⟨a,i,none⟩ v) a (upd c i L):=by
 obtain⟨d,g,k⟩:=h.row;have f:=zC.set (M:=M) W h.mine i v;refine⟨h.mine,⟨λj=>if j=i then v else d j,?_,λj b=>?_⟩,λj b=>?_⟩
 ·have:=uC W a i _ _ v g
  rw[Lg d v hi] at this;exact this
 ·show xO M _ (if j=i then v else d j) (if j=i then L else c j)
  by_cases e:j=i
  ·rw[zb e,zb e];exact m.turn f
  ·rw[za e,za e];exact (k j b).turn f
 ·unfold upd
  by_cases e:j=i
  ·rw[zb e];exact l
  ·rw[za e];exact h.good j b
def xy:StO:=λ_=>[]
theorem fT(M:Nat->Prop)(w:World)(d:M w.heap.size) :
  Calls prog 12 #[] w λe b=>e = .returned (.pointer (some ⟨w.heap.size,0,none⟩))/\Below w.heap.size w b/\qN M b w.heap.size xy:=by
 have a:qN M (w.alloc (.cells #[.slice none 0 0,.slice none 0 0,.slice none 0 0,.slice none 0 0] 81)) w.heap.size xy:=
  ⟨d,⟨λ_ => .slice none 0 0,zL w _,λi _=>sF M _⟩,λi _=>⟨List.Pairwise.nil,by simp[xy],λx f=>by simp[xy] at f⟩⟩
 have c:=hid a;clear a;go_enter func12,ntmps12
 go_wp2
 go_ret;exact⟨rfl,nB w _,c.out⟩
def U2(a:StO)(l:Int)(name:BA):Int:=if vL l name=0 then (if zO (a l.toNat) name then 0 else 9) else vL l name
def JO(a:StO)(l:Int)(name:BA):StO:=if vL l name=0/\zO (a l.toNat) name=true then upd a l.toNat (Zf (a l.toNat) (qI (a l.toNat) name)) else a
theorem Am{l:Int}{name:BA}(h:vL l name=0):∃i:Nat,l=(i:Int)/\i<4/\Ref.qm name=true:=by
 unfold vL at h
 cases h1:kC l with
 | false=>rw[h1] at h;simp at h
 | true=>
  rw[h1] at h
  cases h2:Ref.qm name with
  | false=>rw[h2] at h;simp at h
  | true=>
   unfold kC at h1;rw[uo,jk,jk] at h1;exact⟨l.toNat,by omega,by omega,rfl⟩
theorem GQ(p:Nat)(k:StO)(l:Int)(name:BA)(M:Nat->Prop)(w:World)(h:qN M w p k)(F:∀b,M b->b<w.heap.size)(hs:name.size<=maxLen) :
  Calls prog 16 #[.pointer (some ⟨p,0,none⟩),.int .i64 l,.string name] w λe H=>e = .returned (.int .i64 (U2 k l name))/\zC (λb=>b=p) w H/\qN M H p (JO k l name):=by
 have A:=Ao l name w hs
 by_cases hpl:vL l name=0
 ·obtain⟨i,rfl,hi,P⟩:=Am hpl;have T:U2 k (i:Int) name=if zO (k i) name then 0 else 9:=by unfold U2;rw[zb hpl];rfl
  have X:JO k (i:Int) name=if zO (k i) name=true then upd k i (Zf (k i) (qI (k i) name)) else k:=by
   unfold JO;simp only[Xv,hpl,true_and]
  rw[T,X];rw[hpl] at A;have I:=hid A;have t:=hid h;have HM:=hid F;have a4:p<w.heap.size:=F p h.mine
  have N:∀(W:World) (v:Value),qN M W p k->Below w.heap.size w W->xO M W v (k i)->Calls prog 31 #[v,.string name] W λe H=>∃v,e = .returned (.tuple #[v,.bool (zO (k i) name)])/\Below W.heap.size W H/\(zO (k i) name=true->xO M H v (Zf (k i) (qI (k i) name))):=λW v V hb hl=>
   za4 (k i) v name M W hl (by have:=(V.good i hi).2.1;omega) ((V.good i hi).1.down name) (λb O=>xx (F b O) hb.size)
  have Y:=(h.good i hi);have y:=Y.less (qI (k i) name);obtain⟨b,hb⟩:=Nm (zO (k i) name);obtain⟨LN,r⟩:∃x,Zf (k i) (qI (k i) name)=x:=⟨_,rfl⟩;simp only[hb,r] at N;simp only[hb,r];rw[r] at y;clear T X;have J:=hid N;have HG:=hid y;have k0:(0:Int)<=(i:Int):=jL _;have k1:(i:Int)<4:=by omega
  clear A N Y y hpl hb r F P
  cases b with
  | false=>
   simp only[yB,yu];go_enter func16,ntmps16
   go_upto_region 4 with (go_at_call 24;refine I.out.mono ?_;rintro e C ⟨rfl,u⟩;have f:=hid u;clear u)
   obtain⟨s,j,g⟩:=(t.out.below f.out).row;have c0:C.cell? ⟨p,i,none⟩=some (s i):=(zf j i).1.trans (Yn s hi);obtain⟨la,ln,lc,B⟩:∃a n c,s i = .slice a n c:=by obtain⟨a,c,e,_⟩:=g i hi;exact⟨a,_,c,e⟩
   have m:=g i hi;rw[B] at c0 m;have K:=hid (J.out C _ (t.out.below f.out) f.out m);clear j g B m J
   go_wp2_with (go_at_call 31;refine K.out.mono ?_;rintro e R ⟨v,rfl,z,_⟩;have q:=hid (f.out.trans (z.mono f.out.size));clear z)
   go_ret;exact⟨rfl,zC.of q.out,t.out.below q.out⟩
  | true=>
   simp only[qO];go_enter func16,ntmps16
   go_upto_region 4 with (go_at_call 24;refine I.out.mono ?_;rintro e C ⟨rfl,u⟩;have f:=hid u;clear u)
   obtain⟨s,j,g⟩:=(t.out.below f.out).row;have c0:C.cell? ⟨p,i,none⟩=some (s i):=(zf j i).1.trans (Yn s hi);obtain⟨la,ln,lc,B⟩:∃a n c,s i = .slice a n c:=by obtain⟨a,c,e,_⟩:=g i hi;exact⟨a,_,c,e⟩
   have m:=g i hi;have L:=hid j;rw[B] at c0 m;have K:=hid (J.out C _ (t.out.below f.out) f.out m);have f1:=(zf j i).2;clear j g m J
   go_upto_region 7 with (go_at_call 31;refine K.out.mono ?_;rintro e R ⟨v,rfl,z,G⟩;have S:=hid (G (by trivial));have D:=hid z;have q:=hid (f.out.trans (z.mono f.out.size));clear z G)
   have o:=(D.out.block p (by have:=f.out.size;omega)).trans L.out;have d0:R.cell? ⟨p,i,none⟩=some (s i):=(zf o i).1.trans (Yn s hi);have f2:=(zf o i).2;obtain⟨va,vn,vc,Q⟩:∃a n c,v = .slice a n c:=by obtain⟨a,c,e,_⟩:=S.out;exact⟨a,_,c,e⟩
   subst Q;have Z:=hid ((t.out.below q.out).set hi S.out HG.out);have HT:=hid ((zC.of (M:=λb=>b=p) q.out).trans (zC.set (M:=λb=>b=p) R rfl i (.slice va vn vc)));rw[B] at d0;clear o B c0 f1;go_wp2_with fail;go_ret;exact⟨rfl,HT.out,Z.out⟩
 ·unfold U2 JO;rw[za hpl,za (λe=>hpl e.1)];obtain⟨E,U⟩:∃x,vL l name=x:=⟨_,rfl⟩;rw[U] at A hpl |-;have I:=hid A;have t:=hid h;have d:(E==0)=false:=by simpa using hpl
  have d2:(E != 0)=true:=by simpa using hpl
  clear A U h F;go_enter func16,ntmps16
  go_wp2_with (go_at_call 24;refine I.out.mono ?_;rintro e C ⟨rfl,u⟩;have f:=hid u;clear u)
  go_ret;exact⟨rfl,zC.of f.out,t.out.below f.out⟩
def Kl(l:Int):Int:=if kC l then 0 else 7
def Kk(a:StO)(l:Int):List BA:=if kC l then (a l.toNat).map Prod.fst else []
theorem OC(o:Nat)(p:StO)(l:Int)(M:Nat->Prop)(w:World)(h:qN M w o p) :
  Calls prog 15 #[.pointer (some ⟨o,0,none⟩),.int .i64 l] w λe t=>∃j,e = .returned (.tuple #[j,.int .i64 (Kl l)])/\zZ t w.heap.size j (Kk p l)/\Below w.heap.size w t:=by
 have c1:=rF l w;unfold Kl Kk
 cases hl:kC l with
 | false=>
  rw[hl] at c1;have m:=hid c1;simp only[yB,yu];clear c1 h hl;go_enter func15,ntmps15
  go_wp2_with (go_at_call 29;refine m.out.mono ?_;rintro e y ⟨rfl,f⟩;rw[f];clear f)
  go_ret2;exact⟨_,rfl,⟨rfl,.inl ⟨rfl,rfl⟩⟩,zi _ _⟩
 | true=>
  rw[hl] at c1;have m:=hid c1;simp only[qO];unfold kC at hl;rw[uo,jk,jk] at hl;obtain⟨i,rfl⟩:∃i:Nat,l=(i:Int):=⟨l.toNat,by omega⟩;have hi:i<4:=by omega
  obtain⟨k,d,b⟩:=h.row;have c0:w.cell? ⟨o,i,none⟩=some (k i):=(zf d i).1.trans (Yn k hi);have g:=Nj (p i) (k i) M w (b i hi) (by have:=(h.good i hi).2.1;omega);obtain⟨B,D,C,s⟩:∃a n c,k i = .slice a n c:=by obtain⟨a,c,e,_⟩:=b i hi;exact⟨a,_,c,e⟩
  rw[s] at c0 g;unfold UE at g;have q:((i:Int)).toNat=i:=Xv i;rw[q];have u:=hid g;have z:(0:Int)<=(i:Int):=jL _;have A:(i:Int)<4:=by omega
  clear c1 h hl d b g s q;go_enter func15,ntmps15
  go_wp2_with (first
   | (go_at_call 30;refine u.out.mono ?_;rintro e E ⟨j,rfl,r,hb⟩;have x:=hid r;have v:=hid hb;clear r hb)
   | (go_at_call 29;refine m.out.mono ?_;rintro e y ⟨rfl,f⟩;rw[f];clear f))
  go_ret2;exact⟨j,rfl,x.out,v.out⟩
def Vj(a:StO)(l:Int)(name text:BA):Bool:=decide (vL l name=0)&&decide ((Rd.jT text).1=0)&&(zO (a l.toNat) name||decide ((a l.toNat).length<4))
def jW(a:StO)(l:Int)(name text:BA):Int×Nat:=if vL l name=0 then (if (Rd.jT text).1=0 then (if zO (a l.toNat) name||decide ((a l.toNat).length<4) then (0,0) else (10,0)) else Rd.jT text) else (vL l name,0)
def yj(a:StO)(l:Int)(name text:BA):StO:=if Vj a l name text then upd a l.toNat (jg (a l.toNat) name (um text)) else a
theorem KZ(s:BA)(c:(Rd.jT s).1=0):YS (um s):=by
 obtain⟨d,e,f⟩:=WK s c;have g:um s=(Ji s).map YD:=f;rw[g];refine⟨by rw[qg];exact e,λx a=>?_,λx a=>?_⟩
 ·rw[qR] at a;obtain⟨r,b,rfl⟩:=a;exact TR (d r b).2
 ·rw[qR] at a;obtain⟨r,b,rfl⟩:=a;exact IK s c r b
theorem Uc(J:Nat)(g:StO)(l:Int)(name text:BA)(M:Nat->Prop)(aL:Addr)(w:World)(hC:Qh w aL)(h:qN M w J g)(hM:∀b,M b->b<w.heap.size)(hs:name.size<=maxLen) :
  Calls prog 13 #[.pointer (some ⟨J,0,none⟩),.int .i64 l,.string name,.string text] w λe U=>e = .returned (.tuple #[.int .i64 (jW g l name text).1,.int .i64 ((jW g l name text).2:Int)])/\zC (λb=>b=J) w U/\qN M U J (yj g l name text):=by
 have cp:=Ao l name w hs
 by_cases hpl:vL l name=0
 ·obtain⟨i,rfl,hi,Y⟩:=Am hpl;rw[hpl] at cp;have CP:=hid cp;have HO:=hid h;have e1:=hid hC;have e8:J<w.heap.size:=hM J h.mine;have V:=λW (hb:Below w.heap.size w W)=>GD text W _ _ _ rfl (hC.below hb).q;have s:=KZ text;have k0:(0:Int)<=(i:Int):=jL _;have k1:(i:Int)<4:=by omega
  by_cases hd:(Rd.jT text).1=0
  ·have hA:jW g (i:Int) name text=if (zO (g i) name||decide ((g i).length<4))=true then (0,0) else (10,0):=by
    unfold jW;rw[zb hpl,zb hd]
    rfl
   have hS:yj g (i:Int) name text=if (zO (g i) name||decide ((g i).length<4))=true then upd g i (jg (g i) name (um text)) else g:=by
    unfold yj Vj;rw[zF hpl,zF hd];simp only[Xv,Qg]
   rw[hA,hS]
   have b8:name.size<=281474976710656:=by
    by_cases e:1<=name.size/\name.size<=12
    ·omega
    ·rw[Ref.dN name e] at Y;cases Y
   have cw:∀(W:World) (v:Value) (t:Option Addr) (n z:Nat),Below w.heap.size w W->xO M W v (g i)->yV M W (.slice t n z) (um text)->Calls prog 27 #[v,.string name,.agg #[.slice t n z]] W λe U=>∃v,e = .returned (.tuple #[v,.bool (zO (g i) name||decide ((g i).length<4))])/\Below W.heap.size W U/\((zO (g i) name||decide ((g i).length<4))=true->xO M U v (jg (g i) name (um text))):=λW v t n z hb hl c8=>
    za3 (g i) v name t n z (um text) M W hl (by have:=(h.good i hi).2.1;omega) ((h.good i hi).1.down name) (λb c7=>xx (hM b c7) hb.size) c8 b8
   have a9:(zO (g i) name||decide ((g i).length<4))=true->QS (jg (g i) name (um text)):=λho=>(h.good i hi).with ho (s hd)
   obtain⟨b,hb⟩:=Nm ((zO (g i) name||decide ((g i).length<4)));simp only[hb] at cw a9;simp only[hb];obtain⟨⟨c,q⟩,G⟩:∃x,Rd.jT text=x:=⟨_,rfl⟩;rw[G] at hd;simp only[G] at V;unfold YO at V;simp only at hd V;subst hd;have CR:=hid V;have HW:=hid cw;have c3:=hid a9;have HM:=hid hM;clear cp V cw a9 hA hS hb G s h hC hM hpl Y
   cases b with
   | false=>
    simp only[yB,yu];go_enter func13,ntmps13
    go_upto_region 4 with (go_at_call 24;refine CP.out.mono ?_;rintro e w1 ⟨rfl,O⟩;have f:=hid O;clear O)
    have HR:=hid (CR.out w1 f.out);clear CR
    go_upto_region 5 with (go_at_call 25;refine HR.out.mono ?_;rintro e F ⟨t,n,z,u,rfl,D,b2,S⟩;have L:=hid (S (by trivial));have I:=hid D;have A:=hid (f.out.trans (b2.mono f.out.size));clear b2 D S)
    obtain rfl:u = .nilIface:=by
     rcases bW rfl I.out with ⟨_,e⟩|⟨e,_⟩
     ·exact e
     ·exact absurd rfl e
    obtain⟨j,m⟩:∃W,F.alloc (.cells #[.slice t n z] 84)=W:=⟨_,rfl⟩;have k:Hid (Below w.heap.size w j):=hid (by rw[<- m];exact A.out.alloc A.out.size _);have P:Below F.heap.size F j:=by rw[<- m];exact nB F _
    have e0:j.cell? ⟨F.heap.size,0,none⟩=some (.slice t n z):=by rw[<- m];exact (zf (zL F _) 0).1
    have C:yV M j (.slice t n z) (um text):=yV.of (L.out.below P) (λb hb=>xx (HM.out b hb) f.out.size);obtain⟨Z,r,o⟩:=(HO.out.below k.out).row;have c0:j.cell? ⟨J,i,none⟩=some (Z i):=(zf r i).1.trans (Yn Z hi);obtain⟨xa,xn,xc,hv⟩:∃a n c,Z i = .slice a n c:=by obtain⟨a,c,e,_⟩:=o i hi;exact⟨a,_,c,e⟩
    have X:Below j.heap.size j j.drew:=(zi _ j).drew;have N:=hid (HW.out j.drew (Z i) t n z (k.out.trans (X.mono k.out.size)) ((o i hi).turn (zC.of X)) (C.turn (zC.of X)));have b6:=hid r;rw[hv] at c0 N;rw[m];clear r o C HW L HR X P m
    go_upto_region 7 with fail
    go_region_held3 (λU=>U.cell? ⟨J,i,none⟩=some (.slice xa xn xc)/\U.cell? ⟨F.heap.size,0,none⟩=some (.slice t n z)) (go_keep) (first|((go_at_call 27);refine N.out.mono ?_;rintro e w5 ⟨v,rfl,K,Q⟩;have a5:=hid Q;have g0:=zh K c0;have g1:=zh K e0;have H:Hid (Below j.heap.size j w5):=(((zi _ j).drew).trans K);have B:=hid (k.out.trans (H.out.mono k.out.size));clear K Q))
    go_wp2_with fail;go_ret2;exact⟨rfl,zC.of B.out,HO.out.below B.out⟩
   | true=>
    simp only[qO];go_enter func13,ntmps13
    go_upto_region 4 with (go_at_call 24;refine CP.out.mono ?_;rintro e w1 ⟨rfl,O⟩;have f:=hid O;clear O)
    have HR:=hid (CR.out w1 f.out);clear CR
    go_upto_region 5 with (go_at_call 25;refine HR.out.mono ?_;rintro e F ⟨t,n,z,u,rfl,D,b2,S⟩;have L:=hid (S (by trivial));have I:=hid D;have A:=hid (f.out.trans (b2.mono f.out.size));clear b2 D S)
    obtain rfl:u = .nilIface:=by
     rcases bW rfl I.out with ⟨_,e⟩|⟨e,_⟩
     ·exact e
     ·exact absurd rfl e
    obtain⟨j,m⟩:∃W,F.alloc (.cells #[.slice t n z] 84)=W:=⟨_,rfl⟩;have k:Hid (Below w.heap.size w j):=hid (by rw[<- m];exact A.out.alloc A.out.size _);have P:Below F.heap.size F j:=by rw[<- m];exact nB F _
    have e0:j.cell? ⟨F.heap.size,0,none⟩=some (.slice t n z):=by rw[<- m];exact (zf (zL F _) 0).1
    have C:yV M j (.slice t n z) (um text):=yV.of (L.out.below P) (λb hb=>xx (HM.out b hb) f.out.size);obtain⟨Z,r,o⟩:=(HO.out.below k.out).row;have c0:j.cell? ⟨J,i,none⟩=some (Z i):=(zf r i).1.trans (Yn Z hi);obtain⟨xa,xn,xc,hv⟩:∃a n c,Z i = .slice a n c:=by obtain⟨a,c,e,_⟩:=o i hi;exact⟨a,_,c,e⟩
    have X:Below j.heap.size j j.drew:=(zi _ j).drew;have N:=hid (HW.out j.drew (Z i) t n z (k.out.trans (X.mono k.out.size)) ((o i hi).turn (zC.of X)) (C.turn (zC.of X)));have b6:=hid r;rw[hv] at c0 N;rw[m];clear r o C HW L HR X P m
    go_upto_region 7 with fail
    go_region_held3 (λU=>U.cell? ⟨J,i,none⟩=some (.slice xa xn xc)/\U.cell? ⟨F.heap.size,0,none⟩=some (.slice t n z)) (go_keep) (first|((go_at_call 27);refine N.out.mono ?_;rintro e w5 ⟨v,rfl,K,Q⟩;have a5:=hid Q;have g0:=zh K c0;have g1:=zh K e0;have H:Hid (Below j.heap.size j w5):=(((zi _ j).drew).trans K);have B:=hid (k.out.trans (H.out.mono k.out.size));clear K Q))
    have HL:=hid (a5.out (by trivial));have R:=(H.out.block J (by have:=k.out.size;omega)).trans b6.out;have f2:=(zf R i).2;obtain⟨va,vn,vc,d0⟩:∃a n c,v = .slice a n c:=by obtain⟨a,c,e,_⟩:=HL.out;exact⟨a,_,c,e⟩
    subst d0;have HF:=hid ((HO.out.below B.out).set hi HL.out (c3.out (by trivial)));have HT:=hid ((zC.of (M:=λb=>b=J) B.out).trans (zC.set (M:=λb=>b=J) w5 rfl i (.slice va vn vc)));clear R a5 HL;go_wp2_with fail;go_ret2;exact⟨rfl,HT.out,HF.out⟩
  ·have hA:jW g (i:Int) name text=Rd.jT text:=by
    unfold jW;rw[zb hpl,za hd]
   have hS:yj g (i:Int) name text=g:=by
    unfold yj Vj;rw[zH hd]
    simp
   rw[hA,hS];obtain⟨⟨c,q⟩,G⟩:∃x,Rd.jT text=x:=⟨_,rfl⟩;rw[G] at hd |-;simp only[G] at V;unfold YO at V;simp only at hd V |-;have ce:=λW u (hb:Below w.heap.size w W) h=>Ih c q u aL W (hC.below hb).q.p.d.err (hC.below hb).q.long h;have CR:=hid V;have CE:=hid ce;clear cp V ce hA hS G s h hC hM hpl Y;go_enter func13,ntmps13
   go_upto_region 4 with (go_at_call 24;refine CP.out.mono ?_;rintro e w1 ⟨rfl,O⟩;have f:=hid O;clear O)
   have HR:=hid (CR.out w1 f.out);clear CR
   go_upto_region 5 with (go_at_call 25;refine HR.out.mono ?_;rintro e F ⟨t,n,z,u,rfl,D,b2,_⟩;have I:=hid D;have A:=hid (f.out.trans (b2.mono f.out.size));clear b2 D)
   obtain⟨T,y,rfl⟩:∃T y,u = .iface T y:=by
    rcases bW rfl I.out with ⟨e,_⟩|⟨_,T,y,e⟩
    ·exact absurd e hd
    ·exact⟨T,y,e⟩
   have a4:=hid (A.out.alloc A.out.size (.cells #[.slice t n z] 84));have c2:=hid (CE.out _ _ a4.out I.out);clear CE HR
   go_wp2_with (go_at_call 26;refine c2.out.mono ?_;rintro e w5 ⟨rfl,K⟩;have B:=hid (a4.out.trans (K.mono a4.out.size));clear K)
   go_ret2;exact⟨rfl,zC.of B.out,HO.out.below B.out⟩
 ·unfold jW
  have hS:yj g l name text=g:=by
   unfold yj Vj;rw[zH hpl]
   simp
  rw[za hpl,hS];obtain⟨E,hE⟩:∃x,vL l name=x:=⟨_,rfl⟩;rw[hE] at cp hpl |-;have CP:=hid cp;have HO:=hid h;have d:(E==0)=false:=by simpa using hpl
  have d2:(E != 0)=true:=by simpa using hpl
  clear cp hE h hM hC hS;go_enter func13,ntmps13
  go_wp2_with (go_at_call 24;refine CP.out.mono ?_;rintro e w1 ⟨rfl,O⟩;have f:=hid O;clear O)
  go_ret2;exact⟨rfl,zC.of f.out,HO.out.below f.out⟩
end Go.Proofs.YtagnlbgbnfnapaaGreatDoor
