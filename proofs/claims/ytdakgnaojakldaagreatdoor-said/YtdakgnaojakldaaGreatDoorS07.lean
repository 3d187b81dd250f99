/- P -/
import Derived.Test.YtdakgnaojakldaaGreatDoorS03
import Derived.Test.YtdakgnaojakldaaGreatDoorS06
open Go.Proofs.Tryz
set_option maxRecDepth 100000
set_option maxHeartbeats 1000000
namespace Go.Proofs.YtdakgnaojakldaaGreatDoor
open Go.RowKit
def FV(c:Nat)(u:Value):Prop:=(c=0/\u = .nilIface)\/(c=1/\∃p,u = .iface 125 (.agg #[.string p]))\/(c=2/\∃k,u = .iface 228 (.agg #[.int .i64 k]))
theorem FV.le{c:Nat}{u:Value}(h:FV c u):c<=2:=by rcases h with ⟨h,_⟩|⟨h,_⟩|⟨h,_⟩<;>omega
theorem FV.form{c:Nat}{u:Value}(h:FV c u):u = .nilIface\/∃T x,u = .iface T x:=by
 rcases h with ⟨_,h⟩|⟨_,p,h⟩|⟨_,k,h⟩
 ·exact .inl h
 ·exact .inr ⟨_,_,h⟩
 ·exact .inr ⟨_,_,h⟩
theorem aU(c:Nat)(u:Value)(w:World)(h:FV c u):Calls prog 55 #[u] w λe a=>e = .returned (.bool (c != 0))/\Below w.heap.size w a:=by
 rcases h with ⟨rfl,rfl⟩|⟨rfl,p,rfl⟩|⟨rfl,k,rfl⟩
 ·go_enter func55,ntmps55
  go_wp2
  go_ret;exact⟨rfl,Below.refl _ _⟩
 ·go_enter func55,ntmps55
  go_wp2
  go_ret;exact⟨rfl,Below.refl _ _⟩
 ·go_enter func55,ntmps55
  go_wp2
  go_ret;exact⟨rfl,Below.refl _ _⟩
theorem lW(a:Value)(w:World):Calls prog 57 #[.nilIface,a] w λe b=>e = .returned (.bool false)/\b=w:=by
 go_enter func57,ntmps57
 go_wp2
 go_ret;exact⟨rfl,rfl⟩
theorem Qn(w:World)(v:Value)(t:TypeId):(w.alloc (.cells #[v] t)).cell? ⟨w.heap.size,0,none⟩=some v:=by simp
theorem rQ(w:World)(v:Value)(t:TypeId):(w.alloc (.cells #[v] t)).frozen? ⟨w.heap.size,0,none⟩=false:=by simp
theorem Bn(c:Nat)(u:Value)(w:World)(g:qC w)(h:FV c u):Calls prog 155 #[u] w λe f=>e = .returned (.bool (c==1))/\Below w.heap.size w f:=by
 have a:=nb w (.cells #[.string ⟨#[]⟩] 125)
 rcases h with ⟨rfl,rfl⟩|⟨rfl,p,rfl⟩|⟨rfl,k,rfl⟩
 ·have c1:=lW;go_enter func155,ntmps155
  go_wp2_with (go_at_call 57;refine (c1 _ _).mono ?_;rintro e i ⟨rfl,rfl⟩)
  go_ret;exact⟨rfl,a⟩
 ·have c1:=Qm 125 347 125 (.agg #[.string p]) ⟨w.heap.size,0,none⟩ (w.alloc (.cells #[.string ⟨#[]⟩] 125)) (g.below a) Ux true
   (λf=>Below w.heap.size w f) (λO=>by
     refine (K9 125 347 _ (.string p) _ (.string ⟨#[]⟩) _ ⟨w.heap.size,0,none⟩ _ vN mq Ux Ao ⟨p,rfl⟩ (zB (Qn _ _ _) O) (zB (zB (Qn w _ _) _) O) (yw (zB (Qn w _ _) _) (yw (Qn w _ _) (rQ w _ _) _) O)).mono ?_;rintro e f ⟨rfl,_,hb⟩;have b:Below w.heap.size w (((w.alloc (.cells #[.string ⟨#[]⟩] 125)).alloc (.cells #[.pointer (some ⟨w.heap.size,0,none⟩)] 347)).alloc O):=(a.alloc (by simp) _).alloc (by simp;omega) _;exact⟨rfl,b.trans (hb w.heap.size (Nat.le_refl _) b.size)⟩)
  go_enter func155,ntmps155
  go_wp2_with (go_at_call 57;refine c1.mono ?_;rintro e i ⟨rfl,d⟩)
  go_ret;exact⟨rfl,d⟩
 ·have c1:=Qm 125 347 228 (.agg #[.int .i64 k]) ⟨w.heap.size,0,none⟩ (w.alloc (.cells #[.string ⟨#[]⟩] 125)) (g.below a) Ux false
   (λf=>Below w.heap.size w f) (λO=>by
     refine (aa 228 125 _ _ _ _ _ _ QU XY mh).mono ?_;rintro e f ⟨rfl,hb⟩;have b:Below w.heap.size w (((w.alloc (.cells #[.string ⟨#[]⟩] 125)).alloc (.cells #[.pointer (some ⟨w.heap.size,0,none⟩)] 347)).alloc O):=(a.alloc (by simp) _).alloc (by simp;omega) _;exact⟨rfl,b.trans (hb.mono b.size)⟩)
  go_enter func155,ntmps155
  go_wp2_with (go_at_call 57;refine c1.mono ?_;rintro e i ⟨rfl,d⟩)
  go_ret;exact⟨rfl,d⟩
def xW(w:World)(ao:Option Addr)(a:List Value):Prop:=
 a=[]\/∃b o,ao=some ⟨b,o,none⟩/\∀j,(h:j<a.length)->w.cell? ⟨b,o+j,none⟩=some a[j]
theorem YL{w c:World}{ao:Option Addr}{a:List Value}(h:xW w ao a)(hb:Below w.heap.size w c):xW c ao a:=by
 rcases h with h|⟨b,o,ha,hc⟩
 ·exact .inl h
 ·exact .inr ⟨b,o,ha,λj d=>zg hb (hc j d)⟩
theorem Vn(a:List Value)(ao:Option Addr)(cap g:Nat)(p:Nat->Bool)(w:World)(D:a.length<=100000000000)(B:∀args w,(callFunc g args).run prog w = .ok (.enter g args) w)
  (z:xW w ao a)(q:∀u ∈ a,u = .nilIface\/∃T x,u = .iface T x)(A:yf g #[] (λj=>a.getD j .nilIface) a.length p w) :
  Calls prog 54 #[.slice ao a.length cap,.func (.func g) #[] #[]] w λe m=>
   e = .returned (.tuple #[.int .i64 (((zl p a.length).getD 0:Nat):Int),.bool (zl p a.length).isSome])/\Below w.heap.size w m:=by
 generalize hF:zl p a.length=F;have t:=hid hF;clear hF;go_enter func54,ntmps54
 go_wp2
 go_loopw [10] (λi wr=>∃k:Nat,k<=a.length/\i = .int .i64 k/\(∀j,j<k->p j=false)/\Below w.heap.size w wr) (λi _=>a.length-(intOf i).toNat)
 case atStart=>exact⟨0,Nat.zero_le _,rfl,λj h=>by omega,Below.refl _ _⟩
 case round=>
  obtain⟨k,C,rfl,hb,f⟩:=hrel;have n:=hid hb;clear hb
  by_cases hlt:k<a.length
  ·rcases z with rfl|⟨b,o,rfl,hc⟩
   ·simp at hlt
   have c:=λW hb=>A W k hlt hb;have l:a.getD k .nilIface=a[k]:=by rw[List.getD_eq_getElem?_getD,List.getElem?_eq_getElem hlt];rfl
   simp only[l] at c;have s:=hc k hlt;have r:=q a[k] (List.getElem_mem hlt);obtain⟨u,y⟩:=Nm (a[k]);rw[y] at s c r;have E:=zg f s;clear y hc s l
   cases hpp:p k with
   | false=>
    rw[hpp] at c;have v:=hid hpp;clear hpp
    rcases r with rfl|⟨T,x,rfl⟩
    ·go_wp2_with (go_at_fn g;refine (c _ f).mono ?_;rintro e m ⟨rfl,d⟩)
     refine⟨⟨k+1,by omega,by go_num,λj h=>?_,f.trans (d.mono f.size)⟩,by simp[intOf];omega⟩
     by_cases hj:j=k
     ·subst hj;exact v.out
     ·exact n.out j (by omega)
    ·go_wp2_with (go_at_fn g;refine (c _ f).mono ?_;rintro e m ⟨rfl,d⟩)
     refine⟨⟨k+1,by omega,by go_num,λj h=>?_,f.trans (d.mono f.size)⟩,by simp[intOf];omega⟩
     by_cases hj:j=k
     ·subst hj;exact v.out
     ·exact n.out j (by omega)
   | true=>
    rw[hpp] at c;have e:=um p a.length k hlt n.out hpp;rw[t.out] at e;subst e;clear hpp
    rcases r with rfl|⟨T,x,rfl⟩
    ·go_wp2_with (go_at_fn g;refine (c _ f).mono ?_;rintro e m ⟨rfl,d⟩)
     go_ret2;exact⟨rfl,f.trans (d.mono f.size)⟩
    ·go_wp2_with (go_at_fn g;refine (c _ f).mono ?_;rintro e m ⟨rfl,d⟩)
     go_ret2;exact⟨rfl,f.trans (d.mono f.size)⟩
  ·have e:=uo p a.length (λj h=>n.out j (by omega));rw[t.out] at e;subst e
   go_wp2
   go_ret2;exact⟨rfl,f⟩
def FVs(cs:List Nat)(a:List Value):Prop:=a.length=cs.length/\∀(j c:Nat) (u:Value),cs[j]?=some c->a[j]?=some u->FV c u
theorem FVs.at{cs:List Nat}{a:List Value}(h:FVs cs a)(j:Nat)(c:j<a.length):FV (cs.getD j 0) a[j]:=by
 have b:j<cs.length:=by have:=h.1;omega
 have:=h.2 j cs[j] a[j] (List.getElem?_eq_getElem b) (List.getElem?_eq_getElem c)
 rw[List.getD_eq_getElem?_getD,List.getElem?_eq_getElem b];exact this
theorem FVs.form{cs:List Nat}{a:List Value}(h:FVs cs a):∀u ∈ a,u = .nilIface\/∃T x,u = .iface T x:=by
 intro u c;obtain⟨j,b,rfl⟩:=List.getElem_of_mem c;exact (h.at j b).form
theorem YM{p:Nat->Bool}{n k:Nat}(h:zl p n=some k):k<n/\p k=true/\∀j,j<k->p j=false:=by
 unfold zl at h;rw[List.find?_range_eq_some] at h;exact⟨by simpa using h.2.1,h.1,λj a=>by simpa using h.2.2 j a⟩
theorem XN{p:Nat->Bool}{n:Nat}(h:zl p n=none):∀j,j<n->p j=false:=by
 intro j a;unfold zl at h;rw[List.find?_eq_none] at h
 simpa using h j (List.mem_range.2 a)
theorem ZN{cs:List Nat}{j:Nat}(h:j<cs.length):cs.getD j 0 ∈ cs:=by
 rw[List.getD_eq_getElem?_getD,List.getElem?_eq_getElem h];exact List.getElem_mem h
theorem Aa{cs:List Nat}{k:Nat}(h:zl (λj=>cs.getD j 0==1) cs.length=some k):k<cs.length/\cs.getD k 0=1/\Rd.zN cs=1:=by
 obtain⟨a,c,_⟩:=YM h;have b:cs.getD k 0=1:=by simpa using c
 exact⟨a,b,Rd.XR (b ▸ ZN a)⟩
theorem YX{cs:List Nat}{c:Nat}(h:c ∈ cs):∃j,j<cs.length/\cs.getD j 0=c:=by
 obtain⟨j,a,rfl⟩:=List.getElem_of_mem h;exact⟨j,a,by rw[List.getD_eq_getElem?_getD,List.getElem?_eq_getElem a];rfl⟩
theorem aM{cs:List Nat}(h:zl (λj=>cs.getD j 0==1) cs.length=none):(cs.any λc=>c==1)=false:=by
 rw[List.any_eq_false];intro c a;obtain⟨j,b,rfl⟩:=YX a
 simpa using XN h j b
theorem Ab{cs:List Nat}{k:Nat}(hle:∀c ∈ cs,c<=2)(h:zl (λj=>cs.getD j 0==1) cs.length=none)(d:zl (λj=>cs.getD j 0 != 0) cs.length=some k):k<cs.length/\cs.getD k 0=2/\Rd.zN cs=2:=by
 obtain⟨a,e,_⟩:=YM d;have f:cs.getD k 0≠0:=by simpa using e
 have g:cs.getD k 0≠1:=by simpa using XN h k a
 have i:=hle _ (ZN a);have b:cs.getD k 0=2:=by omega
 refine⟨a,b,?_⟩;unfold Rd.zN;rw[aM h,if_neg (by decide),if_pos];rw[List.any_eq_true];exact⟨2,b ▸ ZN a,rfl⟩
theorem YQ{cs:List Nat}(h:zl (λj=>cs.getD j 0==1) cs.length=none)(a:zl (λj=>cs.getD j 0 != 0) cs.length=none):Rd.zN cs=0:=by
 unfold Rd.zN;rw[aM h,if_neg (by decide),if_neg];rw[Bool.not_eq_true,List.any_eq_false];intro c b;obtain⟨j,d,rfl⟩:=YX b
 have:cs.getD j 0=0:=by simpa using XN a j d
 rw[this];decide
theorem FVs.le{cs:List Nat}{a:List Value}(h:FVs cs a):∀c ∈ cs,c<=2:=by
 intro c b;obtain⟨j,e,rfl⟩:=YX b;have d:j<a.length:=by have:=h.1;omega
 exact (h.at j d).le
theorem QW(cs:List Nat)(c:List Value)(ao:Option Addr)(cap:Nat)(w:World)(E:qC w)(J:c.length<=100000)(n:xW w ao c)(hF:FVs cs c) :
  Calls prog 102 #[.slice ao c.length cap] w λe H=>∃u,e = .returned u/\FV (Rd.zN cs) u/\Below w.heap.size w H:=by
 have t:=hF.1
 have C:yf 155 #[] (λj=>c.getD j .nilIface) c.length (λj=>cs.getD j 0==1) w:=λW j m hb=>by
  have:=Bn _ _ W (E.below hb) (hF.at j m)
  rw[show c[j]=c.getD j .nilIface by rw[List.getD_eq_getElem?_getD,List.getElem?_eq_getElem m];rfl] at this;exact this
 have D:∀z,yf 55 #[] (λj=>c.getD j .nilIface) c.length (λj=>cs.getD j 0 != 0) z:=λz W j m hb=>by
  have:=aU _ _ W (hF.at j m)
  rw[show c[j]=c.getD j .nilIface by rw[List.getD_eq_getElem?_getD,List.getElem?_eq_getElem m];rfl] at this;exact this
 have A:∀args w,(callFunc 155 args).run prog w = .ok (.enter 155 args) w:=enters_of func155 (by kernel_rfl) rfl;have B:∀args w,(callFunc 55 args).run prog w = .ok (.enter 55 args) w:=enters_of func55 (by kernel_rfl) rfl;have c1:=Vn c ao cap _ _ w (by omega) A n hF.form C;have c2:=λW hb=>Vn c ao cap _ _ W (by omega) B (YL n hb) hF.form (D W);clear C D A B;have g:=λj m=>hF.at j m;have l:=hF.form;have hle:=hF.le;rw[t] at c1 c2
 cases hx:zl (λj=>cs.getD j 0==1) cs.length with
 | some k=>
  obtain⟨F,y,s⟩:=Aa hx;rw[hx] at c1;simp only[Option.getD_some,Option.isSome_some] at c1;have f:k<c.length:=by omega
  have d:=g k f;rw[y] at d;rw[s]
  rcases n with rfl|⟨b,o,rfl,hc⟩
  ·simp at f
  have q:=hc k f;obtain⟨u,r⟩:=Nm (c[k]);rw[r] at d q;have x:(k:Int)<(cs.length:Int):=by omega
  rcases d with ⟨h,_⟩|⟨_,p,rfl⟩|⟨h,_⟩
  ·simp at h
  ·rw[t];clear c2 g l hle hx hc hF r;go_enter func102,ntmps102
   go_wp2_with (go_at_call 54;refine c1.mono ?_;rintro e v ⟨rfl,a⟩;have G:=zg a q)
   go_ret;exact⟨_,rfl,.inr (.inl ⟨rfl,p,rfl⟩),a⟩
  ·simp at h
 | none=>
  rw[hx] at c1;simp only[Option.getD_none,Option.isSome_none] at c1
  cases hy:zl (λj=>cs.getD j 0 != 0) cs.length with
  | some k=>
   obtain⟨F,y,s⟩:=Ab hle hx hy;simp only[hy,Option.getD_some,Option.isSome_some] at c2;have f:k<c.length:=by omega
   have d:=g k f;rw[y] at d;rw[s]
   rcases n with rfl|⟨b,o,rfl,hc⟩
   ·simp at f
   have q:=hc k f;obtain⟨u,r⟩:=Nm (c[k]);rw[r] at d q;have x:(k:Int)<(cs.length:Int):=by omega
   rcases d with ⟨h,_⟩|⟨h,_⟩|⟨_,p,rfl⟩
   ·simp at h
   ·simp at h
   ·rw[t];clear g l hle hx hy hc hF r;go_enter func102,ntmps102
    go_wp2_with (first
     | (go_at_call 54;refine (c2 v a).mono ?_;rintro e I ⟨rfl,i⟩;have G:=zg (a.trans (i.mono a.size)) q)
     | (go_at_call 54;refine c1.mono ?_;rintro e v ⟨rfl,a⟩))
    go_ret;exact⟨_,rfl,.inr (.inr ⟨rfl,p,rfl⟩),a.trans (i.mono a.size)⟩
  | none=>
   have s:=YQ hx hy;simp only[hy,Option.getD_none,Option.isSome_none] at c2;rw[s,t];clear g l hle hx hy hF n;go_enter func102,ntmps102
   go_wp2_with (first
    | (go_at_call 54;refine (c2 v a).mono ?_;rintro e I ⟨rfl,i⟩)
    | (go_at_call 54;refine c1.mono ?_;rintro e v ⟨rfl,a⟩))
   go_ret;exact⟨_,rfl,.inl ⟨rfl,rfl⟩,a.trans (i.mono a.size)⟩
end Go.Proofs.YtdakgnaojakldaaGreatDoor
