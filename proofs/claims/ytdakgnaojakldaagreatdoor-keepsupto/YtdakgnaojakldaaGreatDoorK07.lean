/- P -/
import Derived.Test.YtdakgnaojakldaaGreatDoorK03
import Derived.Test.YtdakgnaojakldaaGreatDoorK06
open Go.Proofs.Tryz
set_option maxRecDepth 100000
set_option maxHeartbeats 1000000
namespace Go.Proofs.YtdakgnaojakldaaGreatDoor
open Go.RowKit
def FV(c:Nat)(u:Value):Prop:=(c=0/\u = .nilIface)\/(c=1/\∃p,u = .iface 125 (.agg #[.string p]))\/(c=2/\∃k,u = .iface 228 (.agg #[.int .i64 k]))
theorem FV.le{c:Nat}{u:Value}(h:FV c u):c<=2:=by rcases h with ⟨h,_⟩|⟨h,_⟩|⟨h,_⟩<;>omega
theorem FV.form{c:Nat}{u:Value}(h:FV c u):u = .nilIface\/∃T x,u = .iface T x:=by
 rcases h with ⟨_,h⟩|⟨_,p,h⟩|⟨_,k,h⟩
 ·exact .inl h
 ·exact .inr ⟨_,_,h⟩
 ·exact .inr ⟨_,_,h⟩
theorem lS(c:Nat)(u:Value)(w:World)(h:FV c u):Calls prog 55 #[u] w λe w'=>e = .returned (.bool (c != 0))/\Below w.heap.size w w':=by
 rcases h with ⟨rfl,rfl⟩|⟨rfl,p,rfl⟩|⟨rfl,k,rfl⟩
 ·go_enter func55,ntmps55
  go_wp2
  go_ret;exact⟨rfl,zf _ _⟩
 ·go_enter func55,ntmps55
  go_wp2
  go_ret;exact⟨rfl,zf _ _⟩
 ·go_enter func55,ntmps55
  go_wp2
  go_ret;exact⟨rfl,zf _ _⟩
theorem wG(a:Value)(w:World):Calls prog 57 #[.nilIface,a] w λe w'=>e = .returned (.bool false)/\w'=w:=by
 go_enter func57,ntmps57
 go_wp2
 go_ret;exact⟨rfl,rfl⟩
theorem XY(w:World)(v:Value)(t:TypeId):(w.alloc (.cells #[v] t)).cell? ⟨w.heap.size,0,none⟩=some v:=by simp
theorem DK(w:World)(v:Value)(t:TypeId):(w.alloc (.cells #[v] t)).frozen? ⟨w.heap.size,0,none⟩=false:=by simp
theorem Gl(c:Nat)(u:Value)(w:World)(f:xE w)(h:FV c u):Calls prog 155 #[u] w λe w'=>e = .returned (.bool (c==1))/\Below w.heap.size w w':=by
 have a:=nbl w (.cells #[.string ⟨#[]⟩] 125)
 rcases h with ⟨rfl,rfl⟩|⟨rfl,p,rfl⟩|⟨rfl,k,rfl⟩
 ·have c1:=wG;go_enter func155,ntmps155
  go_wp2_with (go_at_call 57;refine (c1 _ _).mono ?_;rintro e w1 ⟨rfl,rfl⟩)
  go_ret;exact⟨rfl,a⟩
 ·have c1:=XX 125 347 125 (.agg #[.string p]) ⟨w.heap.size,0,none⟩ (w.alloc (.cells #[.string ⟨#[]⟩] 125)) (f.below a) dN true
   (λw'=>Below w.heap.size w w') (λO=>by
     refine (iP 125 347 _ (.string p) _ (.string ⟨#[]⟩) _ ⟨w.heap.size,0,none⟩ _ Zk wR dN FK ⟨p,rfl⟩ (zQ (XY _ _ _) O) (zQ (zQ (XY w _ _) _) O) (jV (zQ (XY w _ _) _) (jV (XY w _ _) (DK w _ _) _) O)).mono ?_;rintro e w' ⟨rfl,_,hb⟩;have b:Below w.heap.size w (((w.alloc (.cells #[.string ⟨#[]⟩] 125)).alloc (.cells #[.pointer (some ⟨w.heap.size,0,none⟩)] 347)).alloc O):=(a.alloc (by simp) _).alloc (by simp;omega) _;exact⟨rfl,b.trans (hb w.heap.size (ze _) b.size)⟩)
  go_enter func155,ntmps155
  go_wp2_with (go_at_call 57;refine c1.mono ?_;rintro e w1 ⟨rfl,d⟩)
  go_ret;exact⟨rfl,d⟩
 ·have c1:=XX 125 347 228 (.agg #[.int .i64 k]) ⟨w.heap.size,0,none⟩ (w.alloc (.cells #[.string ⟨#[]⟩] 125)) (f.below a) dN false
   (λw'=>Below w.heap.size w w') (λO=>by
     refine (iQ 228 125 _ _ _ _ _ _ YM JY wM).mono ?_;rintro e w' ⟨rfl,hb⟩;have b:Below w.heap.size w (((w.alloc (.cells #[.string ⟨#[]⟩] 125)).alloc (.cells #[.pointer (some ⟨w.heap.size,0,none⟩)] 347)).alloc O):=(a.alloc (by simp) _).alloc (by simp;omega) _;exact⟨rfl,b.trans (hb.mono b.size)⟩)
  go_enter func155,ntmps155
  go_wp2_with (go_at_call 57;refine c1.mono ?_;rintro e w1 ⟨rfl,d⟩)
  go_ret;exact⟨rfl,d⟩
def jr(w:World)(c:Option Addr)(a:List Value):Prop:=
 a=[]\/∃b o,c=some ⟨b,o,none⟩/\∀j,(h:j<a.length)->w.cell? ⟨b,o+j,none⟩=some a[j]
theorem VY{w w':World}{a:Option Addr}{c:List Value}(h:jr w a c)(hb:Below w.heap.size w w'):jr w' a c:=by
 rcases h with h|⟨b,o,ha,hc⟩
 ·exact .inl h
 ·exact .inr ⟨b,o,ha,λj d=>zh hb (hc j d)⟩
theorem ae(a:List Value)(v:Option Addr)(cap g:Nat)(p:Nat->Bool)(w:World)(D:a.length<=100000000000)(B:∀args w,(callFunc g args).run prog w = .ok (.enter g args) w)
  (z:jr w v a)(n:∀u ∈ a,u = .nilIface\/∃T x,u = .iface T x)(A:ZA g #[] (λj=>a.getD j .nilIface) a.length p w) :
  Calls prog 54 #[.slice v a.length cap,.func (.func g) #[] #[]] w λe w'=>
   e = .returned (.tuple #[.int .i64 (((zW p a.length).getD 0:Nat):Int),.bool (zW p a.length).isSome])/\Below w.heap.size w w':=by
 generalize hF:zW p a.length=F;have s:=hid hF;clear hF;go_enter func54,ntmps54
 go_wp2
 go_loopw [10] (λi wr=>∃k:Nat,k<=a.length/\i = .int .i64 k/\(∀j,j<k->p j=false)/\Below w.heap.size w wr) (λi _=>a.length-(intOf i).toNat)
 case atStart=>exact⟨0,zD _,rfl,λj h=>by omega,zf _ _⟩
 case round=>
  obtain⟨k,C,rfl,hb,f⟩:=hrel;have m:=hid hb;clear hb
  by_cases hlt:k<a.length
  ·rcases z with rfl|⟨b,o,rfl,hc⟩
   ·simp at hlt
   have c:=λW hb=>A W k hlt hb;have l:a.getD k .nilIface=a[k]:=by rw[zX,zm hlt];rfl
   simp only[l] at c;have r:=hc k hlt;have q:=n a[k] (xy hlt);obtain⟨u,y⟩:=Nm (a[k]);rw[y] at r c q;have E:=zh f r;clear y hc r l
   cases hpp:p k with
   | false=>
    rw[hpp] at c;have t:=hid hpp;clear hpp
    rcases q with rfl|⟨T,x,rfl⟩
    ·go_wp2_with (go_at_fn g;refine (c _ f).mono ?_;rintro e w' ⟨rfl,d⟩)
     refine⟨⟨k+1,by omega,by go_num,λj h=>?_,f.trans (d.mono f.size)⟩,by simp[intOf];omega⟩
     by_cases hj:j=k
     ·subst hj;exact t.out
     ·exact m.out j (by omega)
    ·go_wp2_with (go_at_fn g;refine (c _ f).mono ?_;rintro e w' ⟨rfl,d⟩)
     refine⟨⟨k+1,by omega,by go_num,λj h=>?_,f.trans (d.mono f.size)⟩,by simp[intOf];omega⟩
     by_cases hj:j=k
     ·subst hj;exact t.out
     ·exact m.out j (by omega)
   | true=>
    rw[hpp] at c;have e:=JG p a.length k hlt m.out hpp;rw[s.out] at e;subst e;clear hpp
    rcases q with rfl|⟨T,x,rfl⟩
    ·go_wp2_with (go_at_fn g;refine (c _ f).mono ?_;rintro e w' ⟨rfl,d⟩)
     go_ret2;exact⟨rfl,f.trans (d.mono f.size)⟩
    ·go_wp2_with (go_at_fn g;refine (c _ f).mono ?_;rintro e w' ⟨rfl,d⟩)
     go_ret2;exact⟨rfl,f.trans (d.mono f.size)⟩
  ·have e:=JH p a.length (λj h=>m.out j (by omega));rw[s.out] at e;subst e
   go_wp2
   go_ret2;exact⟨rfl,f⟩
def FVs(cs:List Nat)(a:List Value):Prop:=a.length=cs.length/\∀(j c:Nat) (u:Value),cs[j]?=some c->a[j]?=some u->FV c u
theorem FVs.at{cs:List Nat}{a:List Value}(h:FVs cs a)(j:Nat)(c:j<a.length):FV (cs.getD j 0) a[j]:=by
 have b:j<cs.length:=by have:=h.1;omega
 have:=h.2 j cs[j] a[j] (zm b) (zm c)
 rw[zX,zm b];exact this
theorem FVs.form{cs:List Nat}{a:List Value}(h:FVs cs a):∀u ∈ a,u = .nilIface\/∃T x,u = .iface T x:=by
 intro u c;obtain⟨j,b,rfl⟩:=Z6 c;exact (h.at j b).form
theorem V3{p:Nat->Bool}{n k:Nat}(h:zW p n=some k):k<n/\p k=true/\∀j,j<k->p j=false:=by
 unfold zW at h;rw[Vr] at h;exact⟨by simpa using h.2.1,h.1,λj a=>by simpa using h.2.2 j a⟩
theorem JI{p:Nat->Bool}{n:Nat}(h:zW p n=none):∀j,j<n->p j=false:=by
 intro j a;unfold zW at h;rw[Yw] at h
 simpa using h j (uZ.2 a)
theorem ah{cs:List Nat}{j:Nat}(h:j<cs.length):cs.getD j 0 ∈ cs:=by
 rw[zX,zm h];exact xy h
theorem Fb{cs:List Nat}{k:Nat}(h:zW (λj=>cs.getD j 0==1) cs.length=some k):k<cs.length/\cs.getD k 0=1/\Rd.qD cs=1:=by
 obtain⟨a,c,_⟩:=V3 h;have b:cs.getD k 0=1:=by simpa using c
 exact⟨a,b,Rd.JL (b ▸ ah a)⟩
theorem Ug{cs:List Nat}{c:Nat}(h:c ∈ cs):∃j,j<cs.length/\cs.getD j 0=c:=by
 obtain⟨j,a,rfl⟩:=Z6 h;exact⟨j,a,by rw[zX,zm a];rfl⟩
theorem lJ{cs:List Nat}(h:zW (λj=>cs.getD j 0==1) cs.length=none):(cs.any λc=>c==1)=false:=by
 rw[Yv];intro c a;obtain⟨j,b,rfl⟩:=Ug a
 simpa using JI h j b
theorem Fe{cs:List Nat}{k:Nat}(hle:∀c ∈ cs,c<=2)(h:zW (λj=>cs.getD j 0==1) cs.length=none)(d:zW (λj=>cs.getD j 0 != 0) cs.length=some k):k<cs.length/\cs.getD k 0=2/\Rd.qD cs=2:=by
 obtain⟨a,e,_⟩:=V3 d;have f:cs.getD k 0≠0:=by simpa using e
 have g:cs.getD k 0≠1:=by simpa using JI h k a
 have i:=hle _ (ah a);have b:cs.getD k 0=2:=by omega
 refine⟨a,b,?_⟩;unfold Rd.qD;rw[lJ h,za (by decide),zb];rw[Q9];exact⟨2,b ▸ ah a,rfl⟩
theorem Fh{cs:List Nat}(h:zW (λj=>cs.getD j 0==1) cs.length=none)(a:zW (λj=>cs.getD j 0 != 0) cs.length=none):Rd.qD cs=0:=by
 unfold Rd.qD;rw[lJ h,za (by decide),za];rw[UU,Yv];intro c b;obtain⟨j,d,rfl⟩:=Ug b
 have:cs.getD j 0=0:=by simpa using JI a j d
 rw[this];decide
theorem FVs.le{cs:List Nat}{a:List Value}(h:FVs cs a):∀c ∈ cs,c<=2:=by
 intro c b;obtain⟨j,e,rfl⟩:=Ug b;have d:j<a.length:=by have:=h.1;omega
 exact (h.at j d).le
theorem YO(cs:List Nat)(c:List Value)(t:Option Addr)(cap:Nat)(w:World)(E:xE w)(I:c.length<=100000)(n:jr w t c)(hF:FVs cs c) :
  Calls prog 102 #[.slice t c.length cap] w λe w'=>∃u,e = .returned u/\FV (Rd.qD cs) u/\Below w.heap.size w w':=by
 have v:=hF.1
 have C:ZA 155 #[] (λj=>c.getD j .nilIface) c.length (λj=>cs.getD j 0==1) w:=λW j m hb=>by
  have:=Gl _ _ W (E.below hb) (hF.at j m)
  rw[show c[j]=c.getD j .nilIface by rw[zX,zm m];rfl] at this;exact this
 have D:∀z,ZA 55 #[] (λj=>c.getD j .nilIface) c.length (λj=>cs.getD j 0 != 0) z:=λz W j m hb=>by
  have:=lS _ _ W (hF.at j m)
  rw[show c[j]=c.getD j .nilIface by rw[zX,zm m];rfl] at this;exact this
 have A:∀args w,(callFunc 155 args).run prog w = .ok (.enter 155 args) w:=enters_of func155 (by kernel_rfl) rfl;have B:∀args w,(callFunc 55 args).run prog w = .ok (.enter 55 args) w:=enters_of func55 (by kernel_rfl) rfl;have c1:=ae c t cap _ _ w (by omega) A n hF.form C;have c2:=λW hb=>ae c t cap _ _ W (by omega) B (VY n hb) hF.form (D W);clear C D A B;have g:=λj m=>hF.at j m;have l:=hF.form;have hle:=hF.le;rw[v] at c1 c2
 cases hx:zW (λj=>cs.getD j 0==1) cs.length with
 | some k=>
  obtain⟨F,y,s⟩:=Fb hx;rw[hx] at c1;simp only[QA,Jr] at c1;have f:k<c.length:=by omega
  have d:=g k f;rw[y] at d;rw[s]
  rcases n with rfl|⟨b,o,rfl,hc⟩
  ·simp at f
  have q:=hc k f;obtain⟨u,r⟩:=Nm (c[k]);rw[r] at d q;have x:(k:Int)<(cs.length:Int):=by omega
  rcases d with ⟨h,_⟩|⟨_,p,rfl⟩|⟨h,_⟩
  ·simp at h
  ·rw[v];clear c2 g l hle hx hc hF r;go_enter func102,ntmps102
   go_wp2_with (go_at_call 54;refine c1.mono ?_;rintro e w1 ⟨rfl,a⟩;have G:=zh a q)
   go_ret;exact⟨_,rfl,.inr (.inl ⟨rfl,p,rfl⟩),a⟩
  ·simp at h
 | none=>
  rw[hx] at c1;simp only[Option.getD_none,Kg] at c1
  cases hy:zW (λj=>cs.getD j 0 != 0) cs.length with
  | some k=>
   obtain⟨F,y,s⟩:=Fe hle hx hy;simp only[hy,QA,Jr] at c2;have f:k<c.length:=by omega
   have d:=g k f;rw[y] at d;rw[s]
   rcases n with rfl|⟨b,o,rfl,hc⟩
   ·simp at f
   have q:=hc k f;obtain⟨u,r⟩:=Nm (c[k]);rw[r] at d q;have x:(k:Int)<(cs.length:Int):=by omega
   rcases d with ⟨h,_⟩|⟨h,_⟩|⟨_,p,rfl⟩
   ·simp at h
   ·simp at h
   ·rw[v];clear g l hle hx hy hc hF r;go_enter func102,ntmps102
    go_wp2_with (first
     | (go_at_call 54;refine (c2 w1 a).mono ?_;rintro e H ⟨rfl,i⟩;have G:=zh (a.trans (i.mono a.size)) q)
     | (go_at_call 54;refine c1.mono ?_;rintro e w1 ⟨rfl,a⟩))
    go_ret;exact⟨_,rfl,.inr (.inr ⟨rfl,p,rfl⟩),a.trans (i.mono a.size)⟩
  | none=>
   have s:=Fh hx hy;simp only[hy,Option.getD_none,Kg] at c2;rw[s,v];clear g l hle hx hy hF n;go_enter func102,ntmps102
   go_wp2_with (first
    | (go_at_call 54;refine (c2 w1 a).mono ?_;rintro e H ⟨rfl,i⟩)
    | (go_at_call 54;refine c1.mono ?_;rintro e w1 ⟨rfl,a⟩))
   go_ret;exact⟨_,rfl,.inl ⟨rfl,rfl⟩,a.trans (i.mono a.size)⟩
end Go.Proofs.YtdakgnaojakldaaGreatDoor
