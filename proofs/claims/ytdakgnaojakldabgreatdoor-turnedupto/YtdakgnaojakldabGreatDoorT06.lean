/- P -/
import Derived.Test.YtdakgnaojakldabGreatDoorT02
import Derived.Test.YtdakgnaojakldabGreatDoorT05
open Go.Proofs.Tryz
set_option maxRecDepth 100000
set_option maxHeartbeats 1000000
namespace Go.Proofs.YtdakgnaojakldabGreatDoor
open Go.RowKit
def FV(c:Nat)(u:Value):Prop:=(c=0/\u = .nilIface)\/(c=1/\∃p,u = .iface 96 (.agg #[.string p]))\/(c=2/\∃k,u = .iface 165 (.agg #[.int .i64 k]))
theorem FV.le{c:Nat}{u:Value}(h:FV c u):c<=2:=by rcases h with ⟨h,_⟩|⟨h,_⟩|⟨h,_⟩<;>omega
theorem FV.form{c:Nat}{u:Value}(h:FV c u):u = .nilIface\/∃T x,u = .iface T x:=by
 rcases h with ⟨_,h⟩|⟨_,p,h⟩|⟨_,k,h⟩
 ·exact .inl h
 ·exact .inr ⟨_,_,h⟩
 ·exact .inr ⟨_,_,h⟩
theorem eu(c:Nat)(u:Value)(w:World)(h:FV c u):Calls prog 35 #[u] w λe a=>e = .returned (.bool (c != 0))/\Below w.heap.size w a:=by
 rcases h with ⟨rfl,rfl⟩|⟨rfl,p,rfl⟩|⟨rfl,k,rfl⟩
 ·go_enter func35,ntmps35
  go_wp2
  go_ret;exact⟨rfl,Below.refl _ _⟩
 ·go_enter func35,ntmps35
  go_wp2
  go_ret;exact⟨rfl,Below.refl _ _⟩
 ·go_enter func35,ntmps35
  go_wp2
  go_ret;exact⟨rfl,Below.refl _ _⟩
theorem pM(a:Value)(w:World):Calls prog 37 #[.nilIface,a] w λe b=>e = .returned (.bool false)/\b=w:=by
 go_enter func37,ntmps37
 go_wp2
 go_ret;exact⟨rfl,rfl⟩
theorem QX(w:World)(v:Value)(t:TypeId):(w.alloc (.cells #[v] t)).cell? ⟨w.heap.size,0,none⟩=some v:=by simp
theorem Bn(w:World)(v:Value)(t:TypeId):(w.alloc (.cells #[v] t)).frozen? ⟨w.heap.size,0,none⟩=false:=by simp
theorem Eu(c:Nat)(u:Value)(w:World)(i:qQ w)(h:FV c u):Calls prog 94 #[u] w λe f=>e = .returned (.bool (c==1))/\Below w.heap.size w f:=by
 have a:=nB w (.cells #[.string ⟨#[]⟩] 96)
 rcases h with ⟨rfl,rfl⟩|⟨rfl,p,rfl⟩|⟨rfl,k,rfl⟩
 ·have c1:=pM;go_enter func94,ntmps94
  go_wp2_with (go_at_call 37;refine (c1 _ _).mono ?_;rintro e j ⟨rfl,rfl⟩)
  go_ret;exact⟨rfl,a⟩
 ·have c1:=QW 96 242 96 (.agg #[.string p]) ⟨w.heap.size,0,none⟩ (w.alloc (.cells #[.string ⟨#[]⟩] 96)) (i.below a) KJ true
   (λf=>Below w.heap.size w f) (λO=>by
     refine (cK 96 242 _ (.string p) _ (.string ⟨#[]⟩) _ ⟨w.heap.size,0,none⟩ _ uH rC KJ DK ⟨p,rfl⟩ (zF (QX _ _ _) O) (zF (zF (QX w _ _) _) O) (yV (zF (QX w _ _) _) (yV (QX w _ _) (Bn w _ _) _) O)).mono ?_;rintro e f ⟨rfl,_,g⟩;have b:Below w.heap.size w (((w.alloc (.cells #[.string ⟨#[]⟩] 96)).alloc (.cells #[.pointer (some ⟨w.heap.size,0,none⟩)] 242)).alloc O):=(a.alloc (by simp) _).alloc (by simp;omega) _;exact⟨rfl,b.trans (g w.heap.size (Nat.le_refl _) b.size)⟩)
  go_enter func94,ntmps94
  go_wp2_with (go_at_call 37;refine c1.mono ?_;rintro e j ⟨rfl,d⟩)
  go_ret;exact⟨rfl,d⟩
 ·have c1:=QW 96 242 165 (.agg #[.int .i64 k]) ⟨w.heap.size,0,none⟩ (w.alloc (.cells #[.string ⟨#[]⟩] 96)) (i.below a) KJ false
   (λf=>Below w.heap.size w f) (λO=>by
     refine (cZ 165 96 _ _ _ _ _ _ XA YF ry).mono ?_;rintro e f ⟨rfl,g⟩;have b:Below w.heap.size w (((w.alloc (.cells #[.string ⟨#[]⟩] 96)).alloc (.cells #[.pointer (some ⟨w.heap.size,0,none⟩)] 242)).alloc O):=(a.alloc (by simp) _).alloc (by simp;omega) _;exact⟨rfl,b.trans (g.mono b.size)⟩)
  go_enter func94,ntmps94
  go_wp2_with (go_at_call 37;refine c1.mono ?_;rintro e j ⟨rfl,d⟩)
  go_ret;exact⟨rfl,d⟩
def yt(w:World)(ao:Option Addr)(a:List Value):Prop:=
 a=[]\/∃b o,ao=some ⟨b,o,none⟩/\∀j,(h:j<a.length)->w.cell? ⟨b,o+j,none⟩=some a[j]
theorem Jp{w c:World}{ao:Option Addr}{a:List Value}(h:yt w ao a)(d:Below w.heap.size w c):yt c ao a:=by
 rcases h with h|⟨b,o,ha,hc⟩
 ·exact .inl h
 ·exact .inr ⟨b,o,ha,λj e=>zb d (hc j e)⟩
theorem Uk(a:List Value)(ao:Option Addr)(cap g:Nat)(p:Nat->Bool)(w:World)(E:a.length<=100000000000)(C:∀args w,(callFunc g args).run prog w = .ok (.enter g args) w)
  (A:yt w ao a)(r:∀u ∈ a,u = .nilIface\/∃T x,u = .iface T x)(B:yE g #[] (λj=>a.getD j .nilIface) a.length p w) :
  Calls prog 34 #[.slice ao a.length cap,.func (.func g) #[] #[]] w λe m=>
   e = .returned (.tuple #[.int .i64 (((zm p a.length).getD 0:Nat):Int),.bool (zm p a.length).isSome])/\Below w.heap.size w m:=by
 generalize hF:zm p a.length=F;have v:=hid hF;clear hF;go_enter func34,ntmps34
 go_wp2
 go_loopw [10] (λi wr=>∃k:Nat,k<=a.length/\i = .int .i64 k/\(∀j,j<k->p j=false)/\Below w.heap.size w wr) (λi _=>a.length-(intOf i).toNat)
 case atStart=>exact⟨0,Nat.zero_le _,rfl,λj h=>by omega,Below.refl _ _⟩
 case round=>
  obtain⟨k,D,rfl,q,f⟩:=hrel;have n:=hid q;clear q
  by_cases hlt:k<a.length
  ·rcases A with rfl|⟨b,o,rfl,hc⟩
   ·simp at hlt
   have c:=λW q=>B W k hlt q;have l:a.getD k .nilIface=a[k]:=by rw[List.getD_eq_getElem?_getD,List.getElem?_eq_getElem hlt];rfl
   simp only[l] at c;have t:=hc k hlt;have s:=r a[k] (List.getElem_mem hlt);obtain⟨u,z⟩:=Nm (a[k]);rw[z] at t c s;have G:=zb f t;clear z hc t l
   cases hpp:p k with
   | false=>
    rw[hpp] at c;have y:=hid hpp;clear hpp
    rcases s with rfl|⟨T,x,rfl⟩
    ·go_wp2_with (go_at_fn g;refine (c _ f).mono ?_;rintro e m ⟨rfl,d⟩)
     refine⟨⟨k+1,by omega,by go_num,λj h=>?_,f.trans (d.mono f.size)⟩,by simp[intOf];omega⟩
     by_cases hj:j=k
     ·subst hj;exact y.out
     ·exact n.out j (by omega)
    ·go_wp2_with (go_at_fn g;refine (c _ f).mono ?_;rintro e m ⟨rfl,d⟩)
     refine⟨⟨k+1,by omega,by go_num,λj h=>?_,f.trans (d.mono f.size)⟩,by simp[intOf];omega⟩
     by_cases hj:j=k
     ·subst hj;exact y.out
     ·exact n.out j (by omega)
   | true=>
    rw[hpp] at c;have e:=kD p a.length k hlt n.out hpp;rw[v.out] at e;subst e;clear hpp
    rcases s with rfl|⟨T,x,rfl⟩
    ·go_wp2_with (go_at_fn g;refine (c _ f).mono ?_;rintro e m ⟨rfl,d⟩)
     go_ret2;exact⟨rfl,f.trans (d.mono f.size)⟩
    ·go_wp2_with (go_at_fn g;refine (c _ f).mono ?_;rintro e m ⟨rfl,d⟩)
     go_ret2;exact⟨rfl,f.trans (d.mono f.size)⟩
  ·have e:=kE p a.length (λj h=>n.out j (by omega));rw[v.out] at e;subst e
   go_wp2
   go_ret2;exact⟨rfl,f⟩
def FVs(cs:List Nat)(a:List Value):Prop:=a.length=cs.length/\∀(j c:Nat) (u:Value),cs[j]?=some c->a[j]?=some u->FV c u
theorem FVs.at{cs:List Nat}{a:List Value}(h:FVs cs a)(j:Nat)(c:j<a.length):FV (cs.getD j 0) a[j]:=by
 have b:j<cs.length:=by have:=h.1;omega
 have:=h.2 j cs[j] a[j] (List.getElem?_eq_getElem b) (List.getElem?_eq_getElem c)
 rw[List.getD_eq_getElem?_getD,List.getElem?_eq_getElem b];exact this
theorem FVs.form{cs:List Nat}{a:List Value}(h:FVs cs a):∀u ∈ a,u = .nilIface\/∃T x,u = .iface T x:=by
 intro u c;obtain⟨j,b,rfl⟩:=List.getElem_of_mem c;exact (h.at j b).form
theorem Jq{p:Nat->Bool}{n k:Nat}(h:zm p n=some k):k<n/\p k=true/\∀j,j<k->p j=false:=by
 unfold zm at h;rw[List.find?_range_eq_some] at h;exact⟨by simpa using h.2.1,h.1,λj a=>by simpa using h.2.2 j a⟩
theorem Yv{p:Nat->Bool}{n:Nat}(h:zm p n=none):∀j,j<n->p j=false:=by
 intro j a;unfold zm at h;rw[List.find?_eq_none] at h
 simpa using h j (List.mem_range.2 a)
theorem jV{cs:List Nat}{j:Nat}(h:j<cs.length):cs.getD j 0 ∈ cs:=by
 rw[List.getD_eq_getElem?_getD,List.getElem?_eq_getElem h];exact List.getElem_mem h
theorem Du{cs:List Nat}{k:Nat}(h:zm (λj=>cs.getD j 0==1) cs.length=some k):k<cs.length/\cs.getD k 0=1/\Rd.zT cs=1:=by
 obtain⟨a,c,_⟩:=Jq h;have b:cs.getD k 0=1:=by simpa using c
 exact⟨a,b,Rd.Yy (b ▸ jV a)⟩
theorem JG{cs:List Nat}{c:Nat}(h:c ∈ cs):∃j,j<cs.length/\cs.getD j 0=c:=by
 obtain⟨j,a,rfl⟩:=List.getElem_of_mem h;exact⟨j,a,by rw[List.getD_eq_getElem?_getD,List.getElem?_eq_getElem a];rfl⟩
theorem dR{cs:List Nat}(h:zm (λj=>cs.getD j 0==1) cs.length=none):(cs.any λc=>c==1)=false:=by
 rw[List.any_eq_false];intro c a;obtain⟨j,b,rfl⟩:=JG a
 simpa using Yv h j b
theorem Dv{cs:List Nat}{k:Nat}(hle:∀c ∈ cs,c<=2)(h:zm (λj=>cs.getD j 0==1) cs.length=none)(d:zm (λj=>cs.getD j 0 != 0) cs.length=some k):k<cs.length/\cs.getD k 0=2/\Rd.zT cs=2:=by
 obtain⟨a,e,_⟩:=Jq d;have f:cs.getD k 0≠0:=by simpa using e
 have g:cs.getD k 0≠1:=by simpa using Yv h k a
 have i:=hle _ (jV a);have b:cs.getD k 0=2:=by omega
 refine⟨a,b,?_⟩;unfold Rd.zT;rw[dR h,if_neg (by decide),if_pos];rw[List.any_eq_true];exact⟨2,b ▸ jV a,rfl⟩
theorem Qp{cs:List Nat}(h:zm (λj=>cs.getD j 0==1) cs.length=none)(a:zm (λj=>cs.getD j 0 != 0) cs.length=none):Rd.zT cs=0:=by
 unfold Rd.zT;rw[dR h,if_neg (by decide),if_neg];rw[Bool.not_eq_true,List.any_eq_false];intro c b;obtain⟨j,d,rfl⟩:=JG b
 have:cs.getD j 0=0:=by simpa using Yv a j d
 rw[this];decide
theorem FVs.le{cs:List Nat}{a:List Value}(h:FVs cs a):∀c ∈ cs,c<=2:=by
 intro c b;obtain⟨j,e,rfl⟩:=JG b;have d:j<a.length:=by have:=h.1;omega
 exact (h.at j d).le
theorem XC(cs:List Nat)(c:List Value)(ao:Option Addr)(cap:Nat)(w:World)(F:qQ w)(K:c.length<=100000)(n:yt w ao c)(hF:FVs cs c) :
  Calls prog 61 #[.slice ao c.length cap] w λe I=>∃u,e = .returned u/\FV (Rd.zT cs) u/\Below w.heap.size w I:=by
 have v:=hF.1
 have D:yE 94 #[] (λj=>c.getD j .nilIface) c.length (λj=>cs.getD j 0==1) w:=λW j m t=>by
  have:=Eu _ _ W (F.below t) (hF.at j m)
  rw[show c[j]=c.getD j .nilIface by rw[List.getD_eq_getElem?_getD,List.getElem?_eq_getElem m];rfl] at this;exact this
 have E:∀A,yE 35 #[] (λj=>c.getD j .nilIface) c.length (λj=>cs.getD j 0 != 0) A:=λA W j m t=>by
  have:=eu _ _ W (hF.at j m)
  rw[show c[j]=c.getD j .nilIface by rw[List.getD_eq_getElem?_getD,List.getElem?_eq_getElem m];rfl] at this;exact this
 have B:∀args w,(callFunc 94 args).run prog w = .ok (.enter 94 args) w:=enters_of func94 (by kernel_rfl) rfl;have C:∀args w,(callFunc 35 args).run prog w = .ok (.enter 35 args) w:=enters_of func35 (by kernel_rfl) rfl;have c1:=Uk c ao cap _ _ w (by omega) B n hF.form D;have c2:=λW t=>Uk c ao cap _ _ W (by omega) C (Jp n t) hF.form (E W);clear D E B C;have g:=λj m=>hF.at j m;have l:=hF.form;have hle:=hF.le;rw[v] at c1 c2
 cases hx:zm (λj=>cs.getD j 0==1) cs.length with
 | some k=>
  obtain⟨G,z,s⟩:=Du hx;rw[hx] at c1;simp only[Option.getD_some,Option.isSome_some] at c1;have f:k<c.length:=by omega
  have d:=g k f;rw[z] at d;rw[s]
  rcases n with rfl|⟨b,o,rfl,hc⟩
  ·simp at f
  have q:=hc k f;obtain⟨u,r⟩:=Nm (c[k]);rw[r] at d q;have y:(k:Int)<(cs.length:Int):=by omega
  rcases d with ⟨h,_⟩|⟨_,p,rfl⟩|⟨h,_⟩
  ·simp at h
  ·rw[v];clear c2 g l hle hx hc hF r;go_enter func61,ntmps61
   go_wp2_with (go_at_call 34;refine c1.mono ?_;rintro e x ⟨rfl,a⟩;have H:=zb a q)
   go_ret;exact⟨_,rfl,.inr (.inl ⟨rfl,p,rfl⟩),a⟩
  ·simp at h
 | none=>
  rw[hx] at c1;simp only[Option.getD_none,Option.isSome_none] at c1
  cases hy:zm (λj=>cs.getD j 0 != 0) cs.length with
  | some k=>
   obtain⟨G,z,s⟩:=Dv hle hx hy;simp only[hy,Option.getD_some,Option.isSome_some] at c2;have f:k<c.length:=by omega
   have d:=g k f;rw[z] at d;rw[s]
   rcases n with rfl|⟨b,o,rfl,hc⟩
   ·simp at f
   have q:=hc k f;obtain⟨u,r⟩:=Nm (c[k]);rw[r] at d q;have y:(k:Int)<(cs.length:Int):=by omega
   rcases d with ⟨h,_⟩|⟨h,_⟩|⟨_,p,rfl⟩
   ·simp at h
   ·simp at h
   ·rw[v];clear g l hle hx hy hc hF r;go_enter func61,ntmps61
    go_wp2_with (first
     | (go_at_call 34;refine (c2 x a).mono ?_;rintro e J ⟨rfl,i⟩;have H:=zb (a.trans (i.mono a.size)) q)
     | (go_at_call 34;refine c1.mono ?_;rintro e x ⟨rfl,a⟩))
    go_ret;exact⟨_,rfl,.inr (.inr ⟨rfl,p,rfl⟩),a.trans (i.mono a.size)⟩
  | none=>
   have s:=Qp hx hy;simp only[hy,Option.getD_none,Option.isSome_none] at c2;rw[s,v];clear g l hle hx hy hF n;go_enter func61,ntmps61
   go_wp2_with (first
    | (go_at_call 34;refine (c2 x a).mono ?_;rintro e J ⟨rfl,i⟩)
    | (go_at_call 34;refine c1.mono ?_;rintro e x ⟨rfl,a⟩))
   go_ret;exact⟨_,rfl,.inl ⟨rfl,rfl⟩,a.trans (i.mono a.size)⟩
end Go.Proofs.YtdakgnaojakldabGreatDoor
