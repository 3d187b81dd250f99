/- P -/
import Derived.Test.YtagnlbgbnfnapaaGreatDoorZ02
import Derived.Test.YtagnlbgbnfnapaaGreatDoorZ05
open Go.Proofs.Tryz
set_option maxRecDepth 100000
set_option maxHeartbeats 1000000
namespace Go.Proofs.YtagnlbgbnfnapaaGreatDoor
open Go.RowKit
def FV(c:Nat)(u:Value):Prop:=(c=0/\u = .nilIface)\/(c=1/\∃p,u = .iface 129 (.agg #[.string p]))\/(c=2/\∃k,u = .iface 216 (.agg #[.int .i64 k]))
theorem FV.le{c:Nat}{u:Value}(h:FV c u):c<=2:=by rcases h with ⟨h,_⟩|⟨h,_⟩|⟨h,_⟩<;>omega
theorem FV.form{c:Nat}{u:Value}(h:FV c u):u = .nilIface\/∃T x,u = .iface T x:=by
 rcases h with ⟨_,h⟩|⟨_,p,h⟩|⟨_,k,h⟩
 ·exact .inl h
 ·exact .inr ⟨_,_,h⟩
 ·exact .inr ⟨_,_,h⟩
theorem rD(c:Nat)(u:Value)(w:World)(h:FV c u):Calls prog 57 #[u] w λe a=>e = .returned (.bool (c != 0))/\Below w.heap.size w a:=by
 rcases h with ⟨rfl,rfl⟩|⟨rfl,p,rfl⟩|⟨rfl,k,rfl⟩
 ·go_enter func57,ntmps57
  go_wp2
  go_ret;exact⟨rfl,zi _ _⟩
 ·go_enter func57,ntmps57
  go_wp2
  go_ret;exact⟨rfl,zi _ _⟩
 ·go_enter func57,ntmps57
  go_wp2
  go_ret;exact⟨rfl,zi _ _⟩
theorem Eb(a:Value)(w:World):Calls prog 59 #[.nilIface,a] w λe b=>e = .returned (.bool false)/\b=w:=by
 go_enter func59,ntmps59
 go_wp2
 go_ret;exact⟨rfl,rfl⟩
theorem Yk(w:World)(v:Value)(t:TypeId):(w.alloc (.cells #[v] t)).cell? ⟨w.heap.size,0,none⟩=some v:=by simp
theorem Hy(w:World)(v:Value)(t:TypeId):(w.alloc (.cells #[v] t)).frozen? ⟨w.heap.size,0,none⟩=false:=by simp
theorem MO(c:Nat)(u:Value)(w:World)(g:xN w)(h:FV c u):Calls prog 152 #[u] w λe f=>e = .returned (.bool (c==1))/\Below w.heap.size w f:=by
 have a:=nB w (.cells #[.string ⟨#[]⟩] 129)
 rcases h with ⟨rfl,rfl⟩|⟨rfl,p,rfl⟩|⟨rfl,k,rfl⟩
 ·have c1:=Eb;go_enter func152,ntmps152
  go_wp2_with (go_at_call 59;refine (c1 _ _).mono ?_;rintro e i ⟨rfl,rfl⟩)
  go_ret;exact⟨rfl,a⟩
 ·have c1:=Yj 129 355 129 (.agg #[.string p]) ⟨w.heap.size,0,none⟩ (w.alloc (.cells #[.string ⟨#[]⟩] 129)) (g.below a) iQ true
   (λf=>Below w.heap.size w f) (λO=>by
     refine (oP 129 355 _ (.string p) _ (.string ⟨#[]⟩) _ ⟨w.heap.size,0,none⟩ _ Z4 Eo iQ Me ⟨p,rfl⟩ (zM (Yk _ _ _) O) (zM (zM (Yk w _ _) _) O) (xZ (zM (Yk w _ _) _) (xZ (Yk w _ _) (Hy w _ _) _) O)).mono ?_;rintro e f ⟨rfl,_,hb⟩;have b:Below w.heap.size w (((w.alloc (.cells #[.string ⟨#[]⟩] 129)).alloc (.cells #[.pointer (some ⟨w.heap.size,0,none⟩)] 355)).alloc O):=(a.alloc (by simp) _).alloc (by simp;omega) _;exact⟨rfl,b.trans (hb w.heap.size (ze _) b.size)⟩)
  go_enter func152,ntmps152
  go_wp2_with (go_at_call 59;refine c1.mono ?_;rintro e i ⟨rfl,d⟩)
  go_ret;exact⟨rfl,d⟩
 ·have c1:=Yj 129 355 216 (.agg #[.int .i64 k]) ⟨w.heap.size,0,none⟩ (w.alloc (.cells #[.string ⟨#[]⟩] 129)) (g.below a) iQ false
   (λf=>Below w.heap.size w f) (λO=>by
     refine (oQ 216 129 _ _ _ _ _ _ JR V5 El).mono ?_;rintro e f ⟨rfl,hb⟩;have b:Below w.heap.size w (((w.alloc (.cells #[.string ⟨#[]⟩] 129)).alloc (.cells #[.pointer (some ⟨w.heap.size,0,none⟩)] 355)).alloc O):=(a.alloc (by simp) _).alloc (by simp;omega) _;exact⟨rfl,b.trans (hb.mono b.size)⟩)
  go_enter func152,ntmps152
  go_wp2_with (go_at_call 59;refine c1.mono ?_;rintro e i ⟨rfl,d⟩)
  go_ret;exact⟨rfl,d⟩
def jF(w:World)(ao:Option Addr)(a:List Value):Prop:=
 a=[]\/∃b o,ao=some ⟨b,o,none⟩/\∀j,(h:j<a.length)->w.cell? ⟨b,o+j,none⟩=some a[j]
theorem U4{w c:World}{ao:Option Addr}{a:List Value}(h:jF w ao a)(hb:Below w.heap.size w c):jF c ao a:=by
 rcases h with h|⟨b,o,ha,hc⟩
 ·exact .inl h
 ·exact .inr ⟨b,o,ha,λj d=>zh hb (hc j d)⟩
theorem dx(a:List Value)(ao:Option Addr)(cap g:Nat)(p:Nat->Bool)(w:World)(D:a.length<=100000000000)(B:∀args w,(callFunc g args).run prog w = .ok (.enter g args) w)
  (z:jF w ao a)(q:∀u ∈ a,u = .nilIface\/∃T x,u = .iface T x)(A:jQ g #[] (λj=>a.getD j .nilIface) a.length p w) :
  Calls prog 56 #[.slice ao a.length cap,.func (.func g) #[] #[]] w λe m=>
   e = .returned (.tuple #[.int .i64 (((zD p a.length).getD 0:Nat):Int),.bool (zD p a.length).isSome])/\Below w.heap.size w m:=by
 generalize hF:zD p a.length=F;have t:=hid hF;clear hF;go_enter func56,ntmps56
 go_wp2
 go_loopw [10] (λi wr=>∃k:Nat,k<=a.length/\i = .int .i64 k/\(∀j,j<k->p j=false)/\Below w.heap.size w wr) (λi _=>a.length-(intOf i).toNat)
 case atStart=>exact⟨0,zU _,rfl,λj h=>by omega,zi _ _⟩
 case round=>
  obtain⟨k,C,rfl,hb,f⟩:=hrel;have n:=hid hb;clear hb
  by_cases hlt:k<a.length
  ·rcases z with rfl|⟨b,o,rfl,hc⟩
   ·simp at hlt
   have c:=λW hb=>A W k hlt hb;have l:a.getD k .nilIface=a[k]:=by rw[zQ,zt hlt];rfl
   simp only[l] at c;have s:=hc k hlt;have r:=q a[k] (xg hlt);obtain⟨u,y⟩:=Nm (a[k]);rw[y] at s c r;have E:=zh f s;clear y hc s l
   cases hpp:p k with
   | false=>
    rw[hpp] at c;have v:=hid hpp;clear hpp
    rcases r with rfl|⟨T,x,rfl⟩
    ·go_wp2_with (go_at_fn g;refine (c _ f).mono ?_;rintro e m ⟨rfl,d⟩)
     refine⟨⟨k+1,by omega,by go_num,λj h=>?_,f.trans (d.mono f.size)⟩,by simp[intOf];omega⟩
     by_cases hj:j=k
     ·subst hj;exact v.out
     ·exact n.out j (by omega)
    ·go_wp2_with (go_at_fn g;refine (c _ f).mono ?_;rintro e m ⟨rfl,d⟩)
     refine⟨⟨k+1,by omega,by go_num,λj h=>?_,f.trans (d.mono f.size)⟩,by simp[intOf];omega⟩
     by_cases hj:j=k
     ·subst hj;exact v.out
     ·exact n.out j (by omega)
   | true=>
    rw[hpp] at c;have e:=QA p a.length k hlt n.out hpp;rw[t.out] at e;subst e;clear hpp
    rcases r with rfl|⟨T,x,rfl⟩
    ·go_wp2_with (go_at_fn g;refine (c _ f).mono ?_;rintro e m ⟨rfl,d⟩)
     go_ret2;exact⟨rfl,f.trans (d.mono f.size)⟩
    ·go_wp2_with (go_at_fn g;refine (c _ f).mono ?_;rintro e m ⟨rfl,d⟩)
     go_ret2;exact⟨rfl,f.trans (d.mono f.size)⟩
  ·have e:=QB p a.length (λj h=>n.out j (by omega));rw[t.out] at e;subst e
   go_wp2
   go_ret2;exact⟨rfl,f⟩
def FVs(cs:List Nat)(a:List Value):Prop:=a.length=cs.length/\∀(j c:Nat) (u:Value),cs[j]?=some c->a[j]?=some u->FV c u
theorem FVs.at{cs:List Nat}{a:List Value}(h:FVs cs a)(j:Nat)(c:j<a.length):FV (cs.getD j 0) a[j]:=by
 have b:j<cs.length:=by have:=h.1;omega
 have:=h.2 j cs[j] a[j] (zt b) (zt c)
 rw[zQ,zt b];exact this
theorem FVs.form{cs:List Nat}{a:List Value}(h:FVs cs a):∀u ∈ a,u = .nilIface\/∃T x,u = .iface T x:=by
 intro u c;obtain⟨j,b,rfl⟩:=Ql c;exact (h.at j b).form
theorem U5{p:Nat->Bool}{n k:Nat}(h:zD p n=some k):k<n/\p k=true/\∀j,j<k->p j=false:=by
 unfold zD at h;rw[Vy] at h;exact⟨by simpa using h.2.1,h.1,λj a=>by simpa using h.2.2 j a⟩
theorem VR{p:Nat->Bool}{n:Nat}(h:zD p n=none):∀j,j<n->p j=false:=by
 intro j a;unfold zD at h;rw[Ya] at h
 simpa using h j (vQ.2 a)
theorem ky{cs:List Nat}{j:Nat}(h:j<cs.length):cs.getD j 0 ∈ cs:=by
 rw[zQ,zt h];exact xg h
theorem LQ{cs:List Nat}{k:Nat}(h:zD (λj=>cs.getD j 0==1) cs.length=some k):k<cs.length/\cs.getD k 0=1/\Rd.qA cs=1:=by
 obtain⟨a,c,_⟩:=U5 h;have b:cs.getD k 0=1:=by simpa using c
 exact⟨a,b,Rd.VU (b ▸ ky a)⟩
theorem Kh{cs:List Nat}{c:Nat}(h:c ∈ cs):∃j,j<cs.length/\cs.getD j 0=c:=by
 obtain⟨j,a,rfl⟩:=Ql h;exact⟨j,a,by rw[zQ,zt a];rfl⟩
theorem pX{cs:List Nat}(h:zD (λj=>cs.getD j 0==1) cs.length=none):(cs.any λc=>c==1)=false:=by
 rw[QU];intro c a;obtain⟨j,b,rfl⟩:=Kh a
 simpa using VR h j b
theorem LU{cs:List Nat}{k:Nat}(hle:∀c ∈ cs,c<=2)(h:zD (λj=>cs.getD j 0==1) cs.length=none)(d:zD (λj=>cs.getD j 0 != 0) cs.length=some k):k<cs.length/\cs.getD k 0=2/\Rd.qA cs=2:=by
 obtain⟨a,e,_⟩:=U5 d;have f:cs.getD k 0≠0:=by simpa using e
 have g:cs.getD k 0≠1:=by simpa using VR h k a
 have i:=hle _ (ky a);have b:cs.getD k 0=2:=by omega
 refine⟨a,b,?_⟩;unfold Rd.qA;rw[pX h,za (by decide),zb];rw[uT];exact⟨2,b ▸ ky a,rfl⟩
theorem Yo{cs:List Nat}(h:zD (λj=>cs.getD j 0==1) cs.length=none)(a:zD (λj=>cs.getD j 0 != 0) cs.length=none):Rd.qA cs=0:=by
 unfold Rd.qA;rw[pX h,za (by decide),za];rw[Bool.not_eq_true,QU];intro c b;obtain⟨j,d,rfl⟩:=Kh b
 have:cs.getD j 0=0:=by simpa using VR a j d
 rw[this];decide
theorem FVs.le{cs:List Nat}{a:List Value}(h:FVs cs a):∀c ∈ cs,c<=2:=by
 intro c b;obtain⟨j,e,rfl⟩:=Kh b;have d:j<a.length:=by have:=h.1;omega
 exact (h.at j d).le
theorem JW(cs:List Nat)(c:List Value)(ao:Option Addr)(cap:Nat)(w:World)(E:xN w)(J:c.length<=100000)(n:jF w ao c)(hF:FVs cs c) :
  Calls prog 101 #[.slice ao c.length cap] w λe H=>∃u,e = .returned u/\FV (Rd.qA cs) u/\Below w.heap.size w H:=by
 have t:=hF.1
 have C:jQ 152 #[] (λj=>c.getD j .nilIface) c.length (λj=>cs.getD j 0==1) w:=λW j m hb=>by
  have:=MO _ _ W (E.below hb) (hF.at j m)
  rw[show c[j]=c.getD j .nilIface by rw[zQ,zt m];rfl] at this;exact this
 have D:∀z,jQ 57 #[] (λj=>c.getD j .nilIface) c.length (λj=>cs.getD j 0 != 0) z:=λz W j m hb=>by
  have:=rD _ _ W (hF.at j m)
  rw[show c[j]=c.getD j .nilIface by rw[zQ,zt m];rfl] at this;exact this
 have A:∀args w,(callFunc 152 args).run prog w = .ok (.enter 152 args) w:=qx func152 (by kernel_rfl) rfl;have B:∀args w,(callFunc 57 args).run prog w = .ok (.enter 57 args) w:=qx func57 (by kernel_rfl) rfl;have c1:=dx c ao cap _ _ w (by omega) A n hF.form C;have c2:=λW hb=>dx c ao cap _ _ W (by omega) B (U4 n hb) hF.form (D W);clear C D A B;have g:=λj m=>hF.at j m;have l:=hF.form;have hle:=hF.le;rw[t] at c1 c2
 cases hx:zD (λj=>cs.getD j 0==1) cs.length with
 | some k=>
  obtain⟨F,y,s⟩:=LQ hx;rw[hx] at c1;simp only[yO,uw] at c1;have f:k<c.length:=by omega
  have d:=g k f;rw[y] at d;rw[s]
  rcases n with rfl|⟨b,o,rfl,hc⟩
  ·simp at f
  have q:=hc k f;obtain⟨u,r⟩:=Nm (c[k]);rw[r] at d q;have x:(k:Int)<(cs.length:Int):=by omega
  rcases d with ⟨h,_⟩|⟨_,p,rfl⟩|⟨h,_⟩
  ·simp at h
  ·rw[t];clear c2 g l hle hx hc hF r;go_enter func101,ntmps101
   go_wp2_with (go_at_call 56;refine c1.mono ?_;rintro e v ⟨rfl,a⟩;have G:=zh a q)
   go_ret;exact⟨_,rfl,.inr (.inl ⟨rfl,p,rfl⟩),a⟩
  ·simp at h
 | none=>
  rw[hx] at c1;simp only[Q0,kU] at c1
  cases hy:zD (λj=>cs.getD j 0 != 0) cs.length with
  | some k=>
   obtain⟨F,y,s⟩:=LU hle hx hy;simp only[hy,yO,uw] at c2;have f:k<c.length:=by omega
   have d:=g k f;rw[y] at d;rw[s]
   rcases n with rfl|⟨b,o,rfl,hc⟩
   ·simp at f
   have q:=hc k f;obtain⟨u,r⟩:=Nm (c[k]);rw[r] at d q;have x:(k:Int)<(cs.length:Int):=by omega
   rcases d with ⟨h,_⟩|⟨h,_⟩|⟨_,p,rfl⟩
   ·simp at h
   ·simp at h
   ·rw[t];clear g l hle hx hy hc hF r;go_enter func101,ntmps101
    go_wp2_with (first
     | (go_at_call 56;refine (c2 v a).mono ?_;rintro e I ⟨rfl,i⟩;have G:=zh (a.trans (i.mono a.size)) q)
     | (go_at_call 56;refine c1.mono ?_;rintro e v ⟨rfl,a⟩))
    go_ret;exact⟨_,rfl,.inr (.inr ⟨rfl,p,rfl⟩),a.trans (i.mono a.size)⟩
  | none=>
   have s:=Yo hx hy;simp only[hy,Q0,kU] at c2;rw[s,t];clear g l hle hx hy hF n;go_enter func101,ntmps101
   go_wp2_with (first
    | (go_at_call 56;refine (c2 v a).mono ?_;rintro e I ⟨rfl,i⟩)
    | (go_at_call 56;refine c1.mono ?_;rintro e v ⟨rfl,a⟩))
   go_ret;exact⟨_,rfl,.inl ⟨rfl,rfl⟩,a.trans (i.mono a.size)⟩
end Go.Proofs.YtagnlbgbnfnapaaGreatDoor
