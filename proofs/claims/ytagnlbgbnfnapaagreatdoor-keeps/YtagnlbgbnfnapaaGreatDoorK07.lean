/- P -/
import Derived.Test.YtagnlbgbnfnapaaGreatDoorK03
import Derived.Test.YtagnlbgbnfnapaaGreatDoorK06
open Go.Proofs.Tryz
set_option maxRecDepth 100000
set_option maxHeartbeats 1000000
namespace Go.Proofs.YtagnlbgbnfnapaaGreatDoor
open Go.RowKit
def FV(c:Nat)(u:Value):Prop:=(c=0/\u = .nilIface)\/(c=1/\∃p,u = .iface 129 (.agg #[.string p]))\/(c=2/\∃k,u = .iface 216 (.agg #[.int .i64 k]))
theorem FV.le{c:Nat}{u:Value}(h:FV c u):c<=2:=by rcases h with ⟨h,_⟩|⟨h,_⟩|⟨h,_⟩<;>omega
theorem FV.form{c:Nat}{u:Value}(h:FV c u):u = .nilIface\/∃T x,u = .iface T x:=by
 rcases h with ⟨_,h⟩|⟨_,p,h⟩|⟨_,k,h⟩
 ·exact .inl h
 ·exact .inr ⟨_,_,h⟩
 ·exact .inr ⟨_,_,h⟩
theorem mJ(c:Nat)(u:Value)(w:World)(h:FV c u):Calls prog 57 #[u] w λe w'=>e = .returned (.bool (c != 0))/\Below w.heap.size w w':=by
 rcases h with ⟨rfl,rfl⟩|⟨rfl,p,rfl⟩|⟨rfl,k,rfl⟩
 ·go_enter func57,ntmps57
  go_wp2
  go_ret;exact⟨rfl,zf _ _⟩
 ·go_enter func57,ntmps57
  go_wp2
  go_ret;exact⟨rfl,zf _ _⟩
 ·go_enter func57,ntmps57
  go_wp2
  go_ret;exact⟨rfl,zf _ _⟩
theorem Ae(a:Value)(w:World):Calls prog 59 #[.nilIface,a] w λe w'=>e = .returned (.bool false)/\w'=w:=by
 go_enter func59,ntmps59
 go_wp2
 go_ret;exact⟨rfl,rfl⟩
theorem Xr(w:World)(v:Value)(t:TypeId):(w.alloc (.cells #[v] t)).cell? ⟨w.heap.size,0,none⟩=some v:=by simp
theorem Eh(w:World)(v:Value)(t:TypeId):(w.alloc (.cells #[v] t)).frozen? ⟨w.heap.size,0,none⟩=false:=by simp
theorem GJ(c:Nat)(u:Value)(w:World)(f:xH w)(h:FV c u):Calls prog 152 #[u] w λe w'=>e = .returned (.bool (c==1))/\Below w.heap.size w w':=by
 have a:=nbl w (.cells #[.string ⟨#[]⟩] 129)
 rcases h with ⟨rfl,rfl⟩|⟨rfl,p,rfl⟩|⟨rfl,k,rfl⟩
 ·have c1:=Ae;go_enter func152,ntmps152
  go_wp2_with (go_at_call 59;refine (c1 _ _).mono ?_;rintro e w1 ⟨rfl,rfl⟩)
  go_ret;exact⟨rfl,a⟩
 ·have c1:=Xq 129 355 129 (.agg #[.string p]) ⟨w.heap.size,0,none⟩ (w.alloc (.cells #[.string ⟨#[]⟩] 129)) (f.below a) dZ true
   (λw'=>Below w.heap.size w w') (λO=>by
     refine (lF 129 355 _ (.string p) _ (.string ⟨#[]⟩) _ ⟨w.heap.size,0,none⟩ _ Zm Am dZ Gg ⟨p,rfl⟩ (zF (Xr _ _ _) O) (zF (zF (Xr w _ _) _) O) (x9 (zF (Xr w _ _) _) (x9 (Xr w _ _) (Eh w _ _) _) O)).mono ?_;rintro e w' ⟨rfl,_,hb⟩;have b:Below w.heap.size w (((w.alloc (.cells #[.string ⟨#[]⟩] 129)).alloc (.cells #[.pointer (some ⟨w.heap.size,0,none⟩)] 355)).alloc O):=(a.alloc (by simp) _).alloc (by simp;omega) _;exact⟨rfl,b.trans (hb w.heap.size (ze _) b.size)⟩)
  go_enter func152,ntmps152
  go_wp2_with (go_at_call 59;refine c1.mono ?_;rintro e w1 ⟨rfl,d⟩)
  go_ret;exact⟨rfl,d⟩
 ·have c1:=Xq 129 355 216 (.agg #[.int .i64 k]) ⟨w.heap.size,0,none⟩ (w.alloc (.cells #[.string ⟨#[]⟩] 129)) (f.below a) dZ false
   (λw'=>Below w.heap.size w w') (λO=>by
     refine (lG 216 129 _ _ _ _ _ _ YP J7 Aj).mono ?_;rintro e w' ⟨rfl,hb⟩;have b:Below w.heap.size w (((w.alloc (.cells #[.string ⟨#[]⟩] 129)).alloc (.cells #[.pointer (some ⟨w.heap.size,0,none⟩)] 355)).alloc O):=(a.alloc (by simp) _).alloc (by simp;omega) _;exact⟨rfl,b.trans (hb.mono b.size)⟩)
  go_enter func152,ntmps152
  go_wp2_with (go_at_call 59;refine c1.mono ?_;rintro e w1 ⟨rfl,d⟩)
  go_ret;exact⟨rfl,d⟩
def jA(w:World)(c:Option Addr)(a:List Value):Prop:=
 a=[]\/∃b o,c=some ⟨b,o,none⟩/\∀j,(h:j<a.length)->w.cell? ⟨b,o+j,none⟩=some a[j]
theorem V9{w w':World}{a:Option Addr}{c:List Value}(h:jA w a c)(hb:Below w.heap.size w w'):jA w' a c:=by
 rcases h with h|⟨b,o,ha,hc⟩
 ·exact .inl h
 ·exact .inr ⟨b,o,ha,λj d=>zi hb (hc j d)⟩
theorem aB(a:List Value)(v:Option Addr)(cap g:Nat)(p:Nat->Bool)(w:World)(D:a.length<=100000000000)(B:∀args w,(callFunc g args).run prog w = .ok (.enter g args) w)
  (z:jA w v a)(n:∀u ∈ a,u = .nilIface\/∃T x,u = .iface T x)(A:ZC g #[] (λj=>a.getD j .nilIface) a.length p w) :
  Calls prog 56 #[.slice v a.length cap,.func (.func g) #[] #[]] w λe w'=>
   e = .returned (.tuple #[.int .i64 (((zX p a.length).getD 0:Nat):Int),.bool (zX p a.length).isSome])/\Below w.heap.size w w':=by
 generalize hF:zX p a.length=F;have s:=hid hF;clear hF;go_enter func56,ntmps56
 go_wp2
 go_loopw [10] (λi wr=>∃k:Nat,k<=a.length/\i = .int .i64 k/\(∀j,j<k->p j=false)/\Below w.heap.size w wr) (λi _=>a.length-(intOf i).toNat)
 case atStart=>exact⟨0,zG _,rfl,λj h=>by omega,zf _ _⟩
 case round=>
  obtain⟨k,C,rfl,hb,f⟩:=hrel;have m:=hid hb;clear hb
  by_cases hlt:k<a.length
  ·rcases z with rfl|⟨b,o,rfl,hc⟩
   ·simp at hlt
   have c:=λW hb=>A W k hlt hb;have l:a.getD k .nilIface=a[k]:=by rw[zY,zn hlt];rfl
   simp only[l] at c;have r:=hc k hlt;have q:=n a[k] (xB hlt);obtain⟨u,y⟩:=Nm (a[k]);rw[y] at r c q;have E:=zi f r;clear y hc r l
   cases hpp:p k with
   | false=>
    rw[hpp] at c;have t:=hid hpp;clear hpp
    rcases q with rfl|⟨T,x,rfl⟩
    ·go_wp2_with (go_at_fn g;refine (c _ f).mono ?_;rintro e w' ⟨rfl,d⟩)
     refine⟨⟨k+1,by omega,by go_num,λj h=>?_,f.trans (d.mono f.size)⟩,by simp[intOf];omega⟩
     by_cases hj:j=k
     ·subst hj;exact t.out
     ·exact m.out j (by omega)
    ·go_wp2_with (go_at_fn g;refine (c _ f).mono ?_;rintro e w' ⟨rfl,d⟩)
     refine⟨⟨k+1,by omega,by go_num,λj h=>?_,f.trans (d.mono f.size)⟩,by simp[intOf];omega⟩
     by_cases hj:j=k
     ·subst hj;exact t.out
     ·exact m.out j (by omega)
   | true=>
    rw[hpp] at c;have e:=JN p a.length k hlt m.out hpp;rw[s.out] at e;subst e;clear hpp
    rcases q with rfl|⟨T,x,rfl⟩
    ·go_wp2_with (go_at_fn g;refine (c _ f).mono ?_;rintro e w' ⟨rfl,d⟩)
     go_ret2;exact⟨rfl,f.trans (d.mono f.size)⟩
    ·go_wp2_with (go_at_fn g;refine (c _ f).mono ?_;rintro e w' ⟨rfl,d⟩)
     go_ret2;exact⟨rfl,f.trans (d.mono f.size)⟩
  ·have e:=JO p a.length (λj h=>m.out j (by omega));rw[s.out] at e;subst e
   go_wp2
   go_ret2;exact⟨rfl,f⟩
def FVs(cs:List Nat)(a:List Value):Prop:=a.length=cs.length/\∀(j c:Nat) (u:Value),cs[j]?=some c->a[j]?=some u->FV c u
theorem FVs.at{cs:List Nat}{a:List Value}(h:FVs cs a)(j:Nat)(c:j<a.length):FV (cs.getD j 0) a[j]:=by
 have b:j<cs.length:=by have:=h.1;omega
 have:=h.2 j cs[j] a[j] (zn b) (zn c)
 rw[zY,zn b];exact this
theorem FVs.form{cs:List Nat}{a:List Value}(h:FVs cs a):∀u ∈ a,u = .nilIface\/∃T x,u = .iface T x:=by
 intro u c;obtain⟨j,b,rfl⟩:=Qa c;exact (h.at j b).form
theorem Ub{p:Nat->Bool}{n k:Nat}(h:zX p n=some k):k<n/\p k=true/\∀j,j<k->p j=false:=by
 unfold zX at h;rw[Vz] at h;exact⟨by simpa using h.2.1,h.1,λj a=>by simpa using h.2.2 j a⟩
theorem JP{p:Nat->Bool}{n:Nat}(h:zX p n=none):∀j,j<n->p j=false:=by
 intro j a;unfold zX at h;rw[Yz] at h
 simpa using h j (ku.2 a)
theorem aF{cs:List Nat}{j:Nat}(h:j<cs.length):cs.getD j 0 ∈ cs:=by
 rw[zY,zn h];exact xB h
theorem FJ{cs:List Nat}{k:Nat}(h:zX (λj=>cs.getD j 0==1) cs.length=some k):k<cs.length/\cs.getD k 0=1/\Rd.qE cs=1:=by
 obtain⟨a,c,_⟩:=Ub h;have b:cs.getD k 0=1:=by simpa using c
 exact⟨a,b,Rd.JS (b ▸ aF a)⟩
theorem Uo{cs:List Nat}{c:Nat}(h:c ∈ cs):∃j,j<cs.length/\cs.getD j 0=c:=by
 obtain⟨j,a,rfl⟩:=Qa h;exact⟨j,a,by rw[zY,zn a];rfl⟩
theorem mq{cs:List Nat}(h:zX (λj=>cs.getD j 0==1) cs.length=none):(cs.any λc=>c==1)=false:=by
 rw[Yy];intro c a;obtain⟨j,b,rfl⟩:=Uo a
 simpa using JP h j b
theorem FK{cs:List Nat}{k:Nat}(hle:∀c ∈ cs,c<=2)(h:zX (λj=>cs.getD j 0==1) cs.length=none)(d:zX (λj=>cs.getD j 0 != 0) cs.length=some k):k<cs.length/\cs.getD k 0=2/\Rd.qE cs=2:=by
 obtain⟨a,e,_⟩:=Ub d;have f:cs.getD k 0≠0:=by simpa using e
 have g:cs.getD k 0≠1:=by simpa using JP h k a
 have i:=hle _ (aF a);have b:cs.getD k 0=2:=by omega
 refine⟨a,b,?_⟩;unfold Rd.qE;rw[mq h,za (by decide),zb];rw[Xd];exact⟨2,b ▸ aF a,rfl⟩
theorem FN{cs:List Nat}(h:zX (λj=>cs.getD j 0==1) cs.length=none)(a:zX (λj=>cs.getD j 0 != 0) cs.length=none):Rd.qE cs=0:=by
 unfold Rd.qE;rw[mq h,za (by decide),za];rw[U4,Yy];intro c b;obtain⟨j,d,rfl⟩:=Uo b
 have:cs.getD j 0=0:=by simpa using JP a j d
 rw[this];decide
theorem FVs.le{cs:List Nat}{a:List Value}(h:FVs cs a):∀c ∈ cs,c<=2:=by
 intro c b;obtain⟨j,e,rfl⟩:=Uo b;have d:j<a.length:=by have:=h.1;omega
 exact (h.at j d).le
theorem YT(cs:List Nat)(c:List Value)(t:Option Addr)(cap:Nat)(w:World)(E:xH w)(I:c.length<=100000)(n:jA w t c)(hF:FVs cs c) :
  Calls prog 101 #[.slice t c.length cap] w λe w'=>∃u,e = .returned u/\FV (Rd.qE cs) u/\Below w.heap.size w w':=by
 have v:=hF.1
 have C:ZC 152 #[] (λj=>c.getD j .nilIface) c.length (λj=>cs.getD j 0==1) w:=λW j m hb=>by
  have:=GJ _ _ W (E.below hb) (hF.at j m)
  rw[show c[j]=c.getD j .nilIface by rw[zY,zn m];rfl] at this;exact this
 have D:∀z,ZC 57 #[] (λj=>c.getD j .nilIface) c.length (λj=>cs.getD j 0 != 0) z:=λz W j m hb=>by
  have:=mJ _ _ W (hF.at j m)
  rw[show c[j]=c.getD j .nilIface by rw[zY,zn m];rfl] at this;exact this
 have A:∀args w,(callFunc 152 args).run prog w = .ok (.enter 152 args) w:=xg func152 (by kernel_rfl) rfl;have B:∀args w,(callFunc 57 args).run prog w = .ok (.enter 57 args) w:=xg func57 (by kernel_rfl) rfl;have c1:=aB c t cap _ _ w (by omega) A n hF.form C;have c2:=λW hb=>aB c t cap _ _ W (by omega) B (V9 n hb) hF.form (D W);clear C D A B;have g:=λj m=>hF.at j m;have l:=hF.form;have hle:=hF.le;rw[v] at c1 c2
 cases hx:zX (λj=>cs.getD j 0==1) cs.length with
 | some k=>
  obtain⟨F,y,s⟩:=FJ hx;rw[hx] at c1;simp only[QD,Jy] at c1;have f:k<c.length:=by omega
  have d:=g k f;rw[y] at d;rw[s]
  rcases n with rfl|⟨b,o,rfl,hc⟩
  ·simp at f
  have q:=hc k f;obtain⟨u,r⟩:=Nm (c[k]);rw[r] at d q;have x:(k:Int)<(cs.length:Int):=by omega
  rcases d with ⟨h,_⟩|⟨_,p,rfl⟩|⟨h,_⟩
  ·simp at h
  ·rw[v];clear c2 g l hle hx hc hF r;go_enter func101,ntmps101
   go_wp2_with (go_at_call 56;refine c1.mono ?_;rintro e w1 ⟨rfl,a⟩;have G:=zi a q)
   go_ret;exact⟨_,rfl,.inr (.inl ⟨rfl,p,rfl⟩),a⟩
  ·simp at h
 | none=>
  rw[hx] at c1;simp only[Option.getD_none,Ku] at c1
  cases hy:zX (λj=>cs.getD j 0 != 0) cs.length with
  | some k=>
   obtain⟨F,y,s⟩:=FK hle hx hy;simp only[hy,QD,Jy] at c2;have f:k<c.length:=by omega
   have d:=g k f;rw[y] at d;rw[s]
   rcases n with rfl|⟨b,o,rfl,hc⟩
   ·simp at f
   have q:=hc k f;obtain⟨u,r⟩:=Nm (c[k]);rw[r] at d q;have x:(k:Int)<(cs.length:Int):=by omega
   rcases d with ⟨h,_⟩|⟨h,_⟩|⟨_,p,rfl⟩
   ·simp at h
   ·simp at h
   ·rw[v];clear g l hle hx hy hc hF r;go_enter func101,ntmps101
    go_wp2_with (first
     | (go_at_call 56;refine (c2 w1 a).mono ?_;rintro e H ⟨rfl,i⟩;have G:=zi (a.trans (i.mono a.size)) q)
     | (go_at_call 56;refine c1.mono ?_;rintro e w1 ⟨rfl,a⟩))
    go_ret;exact⟨_,rfl,.inr (.inr ⟨rfl,p,rfl⟩),a.trans (i.mono a.size)⟩
  | none=>
   have s:=FN hx hy;simp only[hy,Option.getD_none,Ku] at c2;rw[s,v];clear g l hle hx hy hF n;go_enter func101,ntmps101
   go_wp2_with (first
    | (go_at_call 56;refine (c2 w1 a).mono ?_;rintro e H ⟨rfl,i⟩)
    | (go_at_call 56;refine c1.mono ?_;rintro e w1 ⟨rfl,a⟩))
   go_ret;exact⟨_,rfl,.inl ⟨rfl,rfl⟩,a.trans (i.mono a.size)⟩
end Go.Proofs.YtagnlbgbnfnapaaGreatDoor
