/- P -/
import Derived.Test.YtdakgnaojakldaaGreatDoorF02
import Derived.Test.YtdakgnaojakldaaGreatDoorF05
open Go.Proofs.Tryz
set_option maxRecDepth 100000
set_option maxHeartbeats 1000000
namespace Go.Proofs.YtdakgnaojakldaaGreatDoor
open Go.RowKit
def FV(c:Nat)(u:Value):Prop:=(c=0/\u = .nilIface)\/(c=1/\∃p,u = .iface 125 (.agg #[.string p]))\/(c=2/\∃k,u = .iface 228 (.agg #[.int .i64 k]))
theorem FV.le{c:Nat}{u:Value}(h:FV c u):c<=2:=by rcases h with ⟨h,_⟩|⟨h,_⟩|⟨h,_⟩<;>omega
theorem FV.form{c:Nat}{u:Value}(h:FV c u):u = .nilIface\/∃T x,u = .iface T x:=by
 rcases h with ⟨_,h⟩|⟨_,p,h⟩|⟨_,k,h⟩
 ·exact .inl h
 ·exact .inr ⟨_,_,h⟩
 ·exact .inr ⟨_,_,h⟩
theorem gD(c:Nat)(u:Value)(w:World)(h:FV c u):Calls prog 55 #[u] w λe a=>e = .returned (.bool (c != 0))/\Below w.heap.size w a:=by
 rcases h with ⟨rfl,rfl⟩|⟨rfl,p,rfl⟩|⟨rfl,k,rfl⟩
 ·go_enter func55,ntmps55
  go_wp2
  go_ret;exact⟨rfl,Below.refl _ _⟩
 ·go_enter func55,ntmps55
  go_wp2
  go_ret;exact⟨rfl,Below.refl _ _⟩
 ·go_enter func55,ntmps55
  go_wp2
  go_ret;exact⟨rfl,Below.refl _ _⟩
theorem sQ(a:Value)(w:World):Calls prog 57 #[.nilIface,a] w λe b=>e = .returned (.bool false)/\b=w:=by
 go_enter func57,ntmps57
 go_wp2
 go_ret;exact⟨rfl,rfl⟩
theorem Xi(w:World)(v:Value)(t:TypeId):(w.alloc (.cells #[v] t)).cell? ⟨w.heap.size,0,none⟩=some v:=by simp
theorem Cv(w:World)(v:Value)(t:TypeId):(w.alloc (.cells #[v] t)).frozen? ⟨w.heap.size,0,none⟩=false:=by simp
theorem FE(c:Nat)(u:Value)(w:World)(g:qN w)(h:FV c u):Calls prog 155 #[u] w λe f=>e = .returned (.bool (c==1))/\Below w.heap.size w f:=by
 have a:=nB w (.cells #[.string ⟨#[]⟩] 125)
 rcases h with ⟨rfl,rfl⟩|⟨rfl,p,rfl⟩|⟨rfl,k,rfl⟩
 ·have c1:=sQ;go_enter func155,ntmps155
  go_wp2_with (go_at_call 57;refine (c1 _ _).mono ?_;rintro e i ⟨rfl,rfl⟩)
  go_ret;exact⟨rfl,a⟩
 ·have c1:=Xh 125 347 125 (.agg #[.string p]) ⟨w.heap.size,0,none⟩ (w.alloc (.cells #[.string ⟨#[]⟩] 125)) (g.below a) aI true
   (λf=>Below w.heap.size w f) (λO=>by
     refine (eZ 125 347 _ (.string p) _ (.string ⟨#[]⟩) _ ⟨w.heap.size,0,none⟩ _ uW tN aI EQ ⟨p,rfl⟩ (zB (Xi _ _ _) O) (zB (zB (Xi w _ _) _) O) (ja (zB (Xi w _ _) _) (ja (Xi w _ _) (Cv w _ _) _) O)).mono ?_;rintro e f ⟨rfl,_,hb⟩;have b:Below w.heap.size w (((w.alloc (.cells #[.string ⟨#[]⟩] 125)).alloc (.cells #[.pointer (some ⟨w.heap.size,0,none⟩)] 347)).alloc O):=(a.alloc (by simp) _).alloc (by simp;omega) _;exact⟨rfl,b.trans (hb w.heap.size (Nat.le_refl _) b.size)⟩)
  go_enter func155,ntmps155
  go_wp2_with (go_at_call 57;refine c1.mono ?_;rintro e i ⟨rfl,d⟩)
  go_ret;exact⟨rfl,d⟩
 ·have c1:=Xh 125 347 228 (.agg #[.int .i64 k]) ⟨w.heap.size,0,none⟩ (w.alloc (.cells #[.string ⟨#[]⟩] 125)) (g.below a) aI false
   (λf=>Below w.heap.size w f) (λO=>by
     refine (fe 228 125 _ _ _ _ _ _ XV Y4 tH).mono ?_;rintro e f ⟨rfl,hb⟩;have b:Below w.heap.size w (((w.alloc (.cells #[.string ⟨#[]⟩] 125)).alloc (.cells #[.pointer (some ⟨w.heap.size,0,none⟩)] 347)).alloc O):=(a.alloc (by simp) _).alloc (by simp;omega) _;exact⟨rfl,b.trans (hb.mono b.size)⟩)
  go_enter func155,ntmps155
  go_wp2_with (go_at_call 57;refine c1.mono ?_;rintro e i ⟨rfl,d⟩)
  go_ret;exact⟨rfl,d⟩
def yC(w:World)(ao:Option Addr)(a:List Value):Prop:=
 a=[]\/∃b o,ao=some ⟨b,o,none⟩/\∀j,(h:j<a.length)->w.cell? ⟨b,o+j,none⟩=some a[j]
theorem JY{w c:World}{ao:Option Addr}{a:List Value}(h:yC w ao a)(hb:Below w.heap.size w c):yC c ao a:=by
 rcases h with h|⟨b,o,ha,hc⟩
 ·exact .inl h
 ·exact .inr ⟨b,o,ha,λj d=>zb hb (hc j d)⟩
theorem UW(a:List Value)(ao:Option Addr)(cap g:Nat)(p:Nat->Bool)(w:World)(D:a.length<=100000000000)(B:∀args w,(callFunc g args).run prog w = .ok (.enter g args) w)
  (z:yC w ao a)(q:∀u ∈ a,u = .nilIface\/∃T x,u = .iface T x)(A:yK g #[] (λj=>a.getD j .nilIface) a.length p w) :
  Calls prog 54 #[.slice ao a.length cap,.func (.func g) #[] #[]] w λe m=>
   e = .returned (.tuple #[.int .i64 (((zn p a.length).getD 0:Nat):Int),.bool (zn p a.length).isSome])/\Below w.heap.size w m:=by
 generalize hF:zn p a.length=F;have t:=hid hF;clear hF;go_enter func54,ntmps54
 go_wp2
 go_loopw [10] (λi wr=>∃k:Nat,k<=a.length/\i = .int .i64 k/\(∀j,j<k->p j=false)/\Below w.heap.size w wr) (λi _=>a.length-(intOf i).toNat)
 case atStart=>exact⟨0,Nat.zero_le _,rfl,λj h=>by omega,Below.refl _ _⟩
 case round=>
  obtain⟨k,C,rfl,hb,f⟩:=hrel;have n:=hid hb;clear hb
  by_cases hlt:k<a.length
  ·rcases z with rfl|⟨b,o,rfl,hc⟩
   ·simp at hlt
   have c:=λW hb=>A W k hlt hb;have l:a.getD k .nilIface=a[k]:=by rw[List.getD_eq_getElem?_getD,List.getElem?_eq_getElem hlt];rfl
   simp only[l] at c;have s:=hc k hlt;have r:=q a[k] (List.getElem_mem hlt);obtain⟨u,y⟩:=Nm (a[k]);rw[y] at s c r;have E:=zb f s;clear y hc s l
   cases hpp:p k with
   | false=>
    rw[hpp] at c;have v:=hid hpp;clear hpp
    rcases r with rfl|⟨T,x,rfl⟩
    ·go_wp2_with (go_at_fn g;refine (c _ f).mono ?_;rintro e m ⟨rfl,d⟩)
     refine⟨⟨k+1,by omega,by go_num,λj h=>?_,f.trans (d.mono f.size)⟩,by simp[intOf];omega⟩
     by_cases hj:j=k
     ·subst hj;exact v.out
     ·exact n.out j (by omega)
    ·go_wp2_with (go_at_fn g;refine (c _ f).mono ?_;rintro e m ⟨rfl,d⟩)
     refine⟨⟨k+1,by omega,by go_num,λj h=>?_,f.trans (d.mono f.size)⟩,by simp[intOf];omega⟩
     by_cases hj:j=k
     ·subst hj;exact v.out
     ·exact n.out j (by omega)
   | true=>
    rw[hpp] at c;have e:=kW p a.length k hlt n.out hpp;rw[t.out] at e;subst e;clear hpp
    rcases r with rfl|⟨T,x,rfl⟩
    ·go_wp2_with (go_at_fn g;refine (c _ f).mono ?_;rintro e m ⟨rfl,d⟩)
     go_ret2;exact⟨rfl,f.trans (d.mono f.size)⟩
    ·go_wp2_with (go_at_fn g;refine (c _ f).mono ?_;rintro e m ⟨rfl,d⟩)
     go_ret2;exact⟨rfl,f.trans (d.mono f.size)⟩
  ·have e:=kX p a.length (λj h=>n.out j (by omega));rw[t.out] at e;subst e
   go_wp2
   go_ret2;exact⟨rfl,f⟩
def FVs(cs:List Nat)(a:List Value):Prop:=a.length=cs.length/\∀(j c:Nat) (u:Value),cs[j]?=some c->a[j]?=some u->FV c u
theorem FVs.at{cs:List Nat}{a:List Value}(h:FVs cs a)(j:Nat)(c:j<a.length):FV (cs.getD j 0) a[j]:=by
 have b:j<cs.length:=by have:=h.1;omega
 have:=h.2 j cs[j] a[j] (List.getElem?_eq_getElem b) (List.getElem?_eq_getElem c)
 rw[List.getD_eq_getElem?_getD,List.getElem?_eq_getElem b];exact this
theorem FVs.form{cs:List Nat}{a:List Value}(h:FVs cs a):∀u ∈ a,u = .nilIface\/∃T x,u = .iface T x:=by
 intro u c;obtain⟨j,b,rfl⟩:=List.getElem_of_mem c;exact (h.at j b).form
theorem JZ{p:Nat->Bool}{n k:Nat}(h:zn p n=some k):k<n/\p k=true/\∀j,j<k->p j=false:=by
 unfold zn at h;rw[List.find?_range_eq_some] at h;exact⟨by simpa using h.2.1,h.1,λj a=>by simpa using h.2.2 j a⟩
theorem YT{p:Nat->Bool}{n:Nat}(h:zn p n=none):∀j,j<n->p j=false:=by
 intro j a;unfold zn at h;rw[List.find?_eq_none] at h
 simpa using h j (List.mem_range.2 a)
theorem ve{cs:List Nat}{j:Nat}(h:j<cs.length):cs.getD j 0 ∈ cs:=by
 rw[List.getD_eq_getElem?_getD,List.getElem?_eq_getElem h];exact List.getElem_mem h
theorem EF{cs:List Nat}{k:Nat}(h:zn (λj=>cs.getD j 0==1) cs.length=some k):k<cs.length/\cs.getD k 0=1/\Rd.zR cs=1:=by
 obtain⟨a,c,_⟩:=JZ h;have b:cs.getD k 0=1:=by simpa using c
 exact⟨a,b,Rd.YW (b ▸ ve a)⟩
theorem Ve{cs:List Nat}{c:Nat}(h:c ∈ cs):∃j,j<cs.length/\cs.getD j 0=c:=by
 obtain⟨j,a,rfl⟩:=List.getElem_of_mem h;exact⟨j,a,by rw[List.getD_eq_getElem?_getD,List.getElem?_eq_getElem a];rfl⟩
theorem fZ{cs:List Nat}(h:zn (λj=>cs.getD j 0==1) cs.length=none):(cs.any λc=>c==1)=false:=by
 rw[List.any_eq_false];intro c a;obtain⟨j,b,rfl⟩:=Ve a
 simpa using YT h j b
theorem EG{cs:List Nat}{k:Nat}(hle:∀c ∈ cs,c<=2)(h:zn (λj=>cs.getD j 0==1) cs.length=none)(d:zn (λj=>cs.getD j 0 != 0) cs.length=some k):k<cs.length/\cs.getD k 0=2/\Rd.zR cs=2:=by
 obtain⟨a,e,_⟩:=JZ d;have f:cs.getD k 0≠0:=by simpa using e
 have g:cs.getD k 0≠1:=by simpa using YT h k a
 have i:=hle _ (ve a);have b:cs.getD k 0=2:=by omega
 refine⟨a,b,?_⟩;unfold Rd.zR;rw[fZ h,if_neg (by decide),if_pos];rw[List.any_eq_true];exact⟨2,b ▸ ve a,rfl⟩
theorem QF{cs:List Nat}(h:zn (λj=>cs.getD j 0==1) cs.length=none)(a:zn (λj=>cs.getD j 0 != 0) cs.length=none):Rd.zR cs=0:=by
 unfold Rd.zR;rw[fZ h,if_neg (by decide),if_neg];rw[Bool.not_eq_true,List.any_eq_false];intro c b;obtain⟨j,d,rfl⟩:=Ve b
 have:cs.getD j 0=0:=by simpa using YT a j d
 rw[this];decide
theorem FVs.le{cs:List Nat}{a:List Value}(h:FVs cs a):∀c ∈ cs,c<=2:=by
 intro c b;obtain⟨j,e,rfl⟩:=Ve b;have d:j<a.length:=by have:=h.1;omega
 exact (h.at j d).le
theorem XX(cs:List Nat)(c:List Value)(ao:Option Addr)(cap:Nat)(w:World)(E:qN w)(J:c.length<=100000)(n:yC w ao c)(hF:FVs cs c) :
  Calls prog 102 #[.slice ao c.length cap] w λe H=>∃u,e = .returned u/\FV (Rd.zR cs) u/\Below w.heap.size w H:=by
 have t:=hF.1
 have C:yK 155 #[] (λj=>c.getD j .nilIface) c.length (λj=>cs.getD j 0==1) w:=λW j m hb=>by
  have:=FE _ _ W (E.below hb) (hF.at j m)
  rw[show c[j]=c.getD j .nilIface by rw[List.getD_eq_getElem?_getD,List.getElem?_eq_getElem m];rfl] at this;exact this
 have D:∀z,yK 55 #[] (λj=>c.getD j .nilIface) c.length (λj=>cs.getD j 0 != 0) z:=λz W j m hb=>by
  have:=gD _ _ W (hF.at j m)
  rw[show c[j]=c.getD j .nilIface by rw[List.getD_eq_getElem?_getD,List.getElem?_eq_getElem m];rfl] at this;exact this
 have A:∀args w,(callFunc 155 args).run prog w = .ok (.enter 155 args) w:=enters_of func155 (by kernel_rfl) rfl;have B:∀args w,(callFunc 55 args).run prog w = .ok (.enter 55 args) w:=enters_of func55 (by kernel_rfl) rfl;have c1:=UW c ao cap _ _ w (by omega) A n hF.form C;have c2:=λW hb=>UW c ao cap _ _ W (by omega) B (JY n hb) hF.form (D W);clear C D A B;have g:=λj m=>hF.at j m;have l:=hF.form;have hle:=hF.le;rw[t] at c1 c2
 cases hx:zn (λj=>cs.getD j 0==1) cs.length with
 | some k=>
  obtain⟨F,y,s⟩:=EF hx;rw[hx] at c1;simp only[Option.getD_some,Option.isSome_some] at c1;have f:k<c.length:=by omega
  have d:=g k f;rw[y] at d;rw[s]
  rcases n with rfl|⟨b,o,rfl,hc⟩
  ·simp at f
  have q:=hc k f;obtain⟨u,r⟩:=Nm (c[k]);rw[r] at d q;have x:(k:Int)<(cs.length:Int):=by omega
  rcases d with ⟨h,_⟩|⟨_,p,rfl⟩|⟨h,_⟩
  ·simp at h
  ·rw[t];clear c2 g l hle hx hc hF r;go_enter func102,ntmps102
   go_wp2_with (go_at_call 54;refine c1.mono ?_;rintro e v ⟨rfl,a⟩;have G:=zb a q)
   go_ret;exact⟨_,rfl,.inr (.inl ⟨rfl,p,rfl⟩),a⟩
  ·simp at h
 | none=>
  rw[hx] at c1;simp only[Option.getD_none,Option.isSome_none] at c1
  cases hy:zn (λj=>cs.getD j 0 != 0) cs.length with
  | some k=>
   obtain⟨F,y,s⟩:=EG hle hx hy;simp only[hy,Option.getD_some,Option.isSome_some] at c2;have f:k<c.length:=by omega
   have d:=g k f;rw[y] at d;rw[s]
   rcases n with rfl|⟨b,o,rfl,hc⟩
   ·simp at f
   have q:=hc k f;obtain⟨u,r⟩:=Nm (c[k]);rw[r] at d q;have x:(k:Int)<(cs.length:Int):=by omega
   rcases d with ⟨h,_⟩|⟨h,_⟩|⟨_,p,rfl⟩
   ·simp at h
   ·simp at h
   ·rw[t];clear g l hle hx hy hc hF r;go_enter func102,ntmps102
    go_wp2_with (first
     | (go_at_call 54;refine (c2 v a).mono ?_;rintro e I ⟨rfl,i⟩;have G:=zb (a.trans (i.mono a.size)) q)
     | (go_at_call 54;refine c1.mono ?_;rintro e v ⟨rfl,a⟩))
    go_ret;exact⟨_,rfl,.inr (.inr ⟨rfl,p,rfl⟩),a.trans (i.mono a.size)⟩
  | none=>
   have s:=QF hx hy;simp only[hy,Option.getD_none,Option.isSome_none] at c2;rw[s,t];clear g l hle hx hy hF n;go_enter func102,ntmps102
   go_wp2_with (first
    | (go_at_call 54;refine (c2 v a).mono ?_;rintro e I ⟨rfl,i⟩)
    | (go_at_call 54;refine c1.mono ?_;rintro e v ⟨rfl,a⟩))
   go_ret;exact⟨_,rfl,.inl ⟨rfl,rfl⟩,a.trans (i.mono a.size)⟩
end Go.Proofs.YtdakgnaojakldaaGreatDoor
