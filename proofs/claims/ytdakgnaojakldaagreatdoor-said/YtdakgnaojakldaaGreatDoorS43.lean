/- P -/
import Derived.Test.YtdakgnaojakldaaGreatDoorS42
open Go.Proofs.Tryz
set_option maxRecDepth 100000
set_option maxHeartbeats 2000000
namespace Go.Proofs.YtdakgnaojakldaaGreatDoor
open Go.RowKit
def Xg(w:World)(ao:Option Addr)(n:Nat)(v:Nat->Int):Prop:=
 n=0\/∃b o,ao=some ⟨b,o,none⟩/\∀j,j<n->w.cell? ⟨b,o+j,none⟩=some (.int .i64 (v j))
theorem fT{w a:World}{ao:Option Addr}{n:Nat}{v:Nat->Int}(h:Xg w ao n v)(hb:Below w.heap.size w a):Xg a ao n v:=by
 rcases h with h|⟨b,o,h1,h2⟩
 ·exact .inl h
 ·exact .inr ⟨b,o,h1,λj c=>zg hb (h2 j c)⟩
theorem tF(n:Nat)(ao:Option Addr)(cap g:Nat)(r:Array Value)(v:Nat->Int)(p:Nat->Bool)(w:World)(z:n<=1000000000000)(x:∀args w,(callFunc g args).run prog w = .ok (.enter g args) w)
  (t:Xg w ao n v)(u:yf g r (λj => .int .i64 (v j)) n p w) :
  Calls prog 347 #[.slice ao n cap,.func (.func g) #[] r] w λe l=>
   e = .returned (.tuple #[.int .i64 (((zl p n).getD 0:Nat):Int),.bool (zl p n).isSome])/\Below w.heap.size w l:=by
 generalize hF:zl p n=F;have m:=hid hF;clear hF;go_enter func347,ntmps347
 go_wp2
 go_loopw [10] (λi wr=>∃k:Nat,k<=n/\i = .int .i64 k/\(∀j,j<k->p j=false)/\Below w.heap.size w wr) (λi _=>n-(intOf i).toNat)
 case atStart=>exact⟨0,Nat.zero_le _,rfl,λj h=>by omega,Below.refl _ _⟩
 case round=>
  obtain⟨k,y,rfl,hb,c⟩:=hrel;have f:=hid hb;clear hb
  by_cases hlt:k<n
  ·rcases t with h0|⟨b,o,rfl,hcc⟩
   ·omega
   have q:=zg c (hcc k hlt);have a:=λW hb=>u W k hlt hb;simp only at a
   cases hpp:p k with
   | false=>
    rw[hpp] at a;have s:=hid hpp;clear hpp
    go_wp2_with (go_at_fn g;refine (a _ c).mono ?_;rintro e l ⟨rfl,d⟩)
    refine⟨⟨k+1,by omega,by go_num,λj h=>?_,c.trans (d.mono c.size)⟩,by simp[intOf];omega⟩
    by_cases hj:j=k
    ·subst hj;exact s.out
    ·exact f.out j (by omega)
   | true=>
    rw[hpp] at a;have e:=um p n k hlt f.out hpp;rw[m.out] at e;subst e;clear hpp
    go_wp2_with (go_at_fn g;refine (a _ c).mono ?_;rintro e l ⟨rfl,d⟩)
    go_ret2;exact⟨rfl,c.trans (d.mono c.size)⟩
  ·have e:=uo p n (λj h=>f.out j (by omega));rw[m.out] at e;subst e
   go_wp2
   go_ret2;exact⟨rfl,c⟩
theorem lJ(n:Nat)(ao:Option Addr)(cap g:Nat)(b:Array Value)(v:Nat->Int)(p:Nat->Bool)(w:World)(i:n<=1000000000000)(f:∀args w,(callFunc g args).run prog w = .ok (.enter g args) w)
  (h:Xg w ao n v)(k:yf g b (λj => .int .i64 (v j)) n p w) :
  Calls prog 342 #[.slice ao n cap,.func (.func g) #[] b] w λe d=>
   e = .returned (.bool (zl p n).isSome)/\Below w.heap.size w d:=by
 have c:=tF n ao cap g b v p w i f h k;generalize zl p n=F at c;go_enter func342,ntmps342
 go_wp2_with (go_at_call 347;refine c.mono ?_;rintro e d ⟨rfl,a⟩)
 go_ret;exact⟨rfl,a⟩
theorem AJ:(prog.info? 2).map (λi=>(i.zero,i.size,i.bytes))=some (some (.int .i64 0),1,8):=by kernel_rfl
def QK(w:World)(base:Nat)(a:Value)(l:List Int):Prop:=w.ownsRow base 2 1 a l.length (l.map (Value.int .i64))
def iH(w:World)(outs:List Int)(e:Ending)(b:World):Prop:=∃a,e = .returned a/\QK b w.heap.size a outs/\Below w.heap.size w b
theorem DN{w:World}{B:Nat}{a:Value}{l:List Int}{s:Int}(h:w.ownsRow B 2 1 a (l.length+1) (l.map (Value.int .i64)++[.int .i64 s])):QK w B a (l++[s]):=by
 unfold QK;rw[List.map_append,List.length_append];exact h
theorem Gw{w:World}{base:Nat}{d:Value}{l:List Int}(h:QK w base d l):∃a c,d = .slice a l.length c/\Xg w a l.length (λj=>l.getD j 0):=by
 rcases h.2 with ⟨rfl,h0⟩|⟨g,cap,cur,ev,_⟩
 ·exact⟨none,0,by rw[h0],.inl h0⟩
 ·refine⟨_,cap,ev,.inr ⟨g,0,rfl,λj b=>?_⟩⟩;rw[Nat.zero_add,World.ownsRow.cellAt (g:=g) (cap:=cap) (by rw[<- ev];exact h) j (by omega),List.getElem?_map,List.getElem?_eq_getElem b];simp[b]
theorem Dj(b:List BY)(Z:Value)(g:Nat)(out:BY->Int)(w:World)(h:yO w Z b)(hn:b.length<=1000)(eg:∀args w,(callFunc g args).run prog w = .ok (.enter g args) w)
  (T:∀W s,s ∈ b->Below w.heap.size w W->Calls prog g #[.string s] W λe w'=>e = .returned (.int .i64 (out s))/\Below W.heap.size W w') :
  Calls prog 334 #[Z,.func (.func g) #[] #[]] w (iH w (b.map out)):=by
 obtain⟨Y,hi,G,H,I⟩:=info_parts AJ;obtain⟨a,c,rfl,p⟩:=h;obtain⟨n,l⟩:=Nm b.length
 have f:∀(k:Nat) (x:BY),b[k]?=some x->∃E o,a=some ⟨E,o,none⟩/\w.cell? ⟨E,o+k,none⟩=some (.string x):=by
  intro k x hx;obtain⟨m,rfl⟩:=List.getElem?_eq_some_iff.1 hx
  rcases p with e|⟨E,o,e,hc⟩
  ·rw[e] at m;simp at m
  ·exact⟨E,o,e,hc k m⟩
 rw[l];rw[l] at hn;have HC:=hid f;have HP:=hid T;have R:=hid l;clear f T l p;go_enter func334,ntmps334
 go_wp2_with (at_make;refine wpList_make_own _ rfl _ _ 450 rfl w.heap.size 2 Y (.int .i64 0) 1 underlying450 hi G H _ _ _ n rfl rfl rfl ?_ ?_ ?_ ?_)
 ·rw[I];omega
 ·unfold maxLen;omega
 ·omega
 intro w1 r d;have D:=hid r;have B:Hid (Below w.heap.size w w1):=(Below.refl _ w).grown d (Nat.le_refl _) (λk m=>by cases m);clear r d;go_wp2_with fail
 go_loopw [5,7,13] (λov _ Q wr=>∃(k:Nat),k<=n/\Q = .int .i64 k/\QK wr w.heap.size ov ((b.take k).map out)/\Below w.heap.size w wr) (λ_ _ Q _=>n-(intOf Q).toNat)
 case atStart=>exact⟨0,Nat.zero_le _,rfl,D.out,B.out⟩
 case round=>
  obtain⟨k,m,rfl,A,hb⟩:=hrel;have J:=hid A;have z:=hid hb;clear A hb D B
  by_cases hlt:k<n
  ·have v:k<b.length:=by rw[R.out];exact hlt
   obtain⟨E,o,rfl,q⟩:=HC.out k _ (List.getElem?_eq_getElem v);have q2:=zg z.out q;have O:=HP.out wr b[k] (List.getElem_mem v) z.out;have y:Hid ((b.take (k+1)).map out=(b.take k).map out++[out b[k]]):=hid (by rw[List.take_add_one,List.getElem?_eq_getElem v,List.map_append];rfl);have F:((b.take k).map out).length=k:=by rw[List.length_map,List.length_take];omega
   obtain⟨s,U⟩:=Nm (b[k]);rw[U] at q2 O y;have CC:=hid O;obtain⟨L,S⟩:=Nm ((b.take k).map out);rw[S] at J y F;clear q O U S
   go_wp2_with (first
    | (go_at_fn g;refine CC.out.mono ?_;rintro e w2 ⟨rfl,t⟩;have C:=hid t;have X:=t.size;have a6:=z.out.size;clear t)
    | (at_builtin;refine wpList_append_own _ rfl _ _ 450 rfl w.heap.size 2 Y (.int .i64 0) 1 8 underlying450 hi G H I rfl (by decide) _ L.length (L.map (Value.int .i64)) rfl (World.ownsRow.alloc (ownsRow_below J.out C.out) _) ⟨w2.heap.size,0,none⟩ 1 1 [.int .i64 (out s)] rfl rfl ?_ ?_ ?_ ?_ ?_ ?_))
   ·exact Dc _ _ _
   ·intro u V;simp at V;rcases V with rfl;rfl
   ·unfold maxLen;omega
   ·omega
   ·simp;omega
   ·intro v' w3 j i _;have N:Hid (QK w3 w.heap.size v' ((b.take (k+1)).map out)):=by rw[y.out];exact DN (by rw[F];exact j)
    have K:Hid (Below w.heap.size w w3):=((z.out.trans (C.out.mono z.out.size)).alloc (by omega) _).grown i (by simp;omega) (λk m=>(World.ownsRow.lt J.out k m).1);clear j i
    go_wp2
    go_roundw
    case rel=>exact⟨k+1,by omega,by go_num,N.out,K.out⟩
    case measure=>simp[intOf];omega
  ·have P:k=n:=by omega
   subst P;have A:=J.out;rw[List.take_of_length_le (by rw[R.out];omega)] at A;have M:=hid A;clear A
   go_wp2
   go_ret;exact⟨_,rfl,M.out,z.out⟩
theorem iQ(z n:Int)(B:Nat)(w:World)(b:w.cell? ⟨B,0,none⟩=some (.int .i64 n)) :
  Calls prog 343 #[.int .i64 z,.pointer (some ⟨B,0,none⟩)] w λe a=>e = .returned (.bool (decide (n<z)))/\Below w.heap.size w a:=by
 go_enter func343,ntmps343
 go_wp2
 go_ret;exact⟨rfl,Below.refl _ _⟩
theorem iR(l:List Int)(n:Int)(ao:Option Addr)(cap:Nat)(w:World)(h:l.length<=100000000000)(f:Xg w ao l.length (λj=>l.getD j 0)) :
  Calls prog 333 #[.slice ao l.length cap,.int .i64 n] w λe d=>e = .returned (.bool (l.any λz=>decide (n<z)))/\Below w.heap.size w d:=by
 have a:=nb w (.cells #[.int .i64 n] 2)
 have c:=lJ l.length ao cap 343 #[.pointer (some ⟨w.heap.size,0,none⟩)] (λj=>l.getD j 0) (λj=>decide (n<l.getD j 0)) (w.alloc (.cells #[.int .i64 n] 2)) (by omega)
  (enters_of func343 (by kernel_rfl) rfl) (fT f a)
  (λW j g hb=>iQ (l.getD j 0) n w.heap.size W (zg hb (by simp)))
 rw[show (zl (λj=>decide (n<l.getD j 0)) l.length).isSome=l.any (λz=>decide (n<z)) from Xz l 0 (λz=>decide (n<z))] at c
 generalize (l.any λz=>decide (n<z))=F at c;go_enter func333,ntmps333
 go_wp2_with (go_at_call 342;refine c.mono ?_;rintro e d ⟨rfl,b⟩)
 go_ret;exact⟨rfl,a.trans (b.mono (by simp))⟩
theorem XA{α:Type}(l:List α)(f g:α->Bool)(h:∀x ∈ l,f x=g x):l.any f=l.any g:=by
 rw[Bool.eq_iff_iff,List.any_eq_true,List.any_eq_true]
 constructor
 ·rintro ⟨x,a,b⟩;exact⟨x,a,by rw[<- h x a];exact b⟩
 ·rintro ⟨x,a,b⟩;exact⟨x,a,by rw[h x a];exact b⟩
theorem mQ(x:BY)(vals:List BY)(c:Ref.qj x=true)(b:∀v ∈ vals,Ref.qj v=true):((vals.map De.uz).any λz=>decide (De.uz x<z))=vals.any λv=>De.Zu x v:=by
 rw[List.any_map];exact XA _ _ _ λv a=>(De.Ir c (b v a)).symm
theorem AZ(S:Option BY)(vals:List BY)(H:Value)(B:Nat)(w:World)(q:∀v ∈ vals,Ref.qj v=true)(hn:vals.length<=1000)(t:yO w H vals) :
  Calls prog 325 #[jX S B,H] w λe r=>e = .returned (.bool (ja S λx=>Ref.qj x&&vals.any λv=>De.Zu x v))/\Below w.heap.size w r:=by
 have I:=λO:Obj=>nb w O;unfold jX qQ
 cases S with
 | none=>
  simp only[ja,Option.getD_none,Option.isSome_none];clear t q;go_enter func325,ntmps325;go_wp2_with fail
  go_quiet (fail)
  go_wp2_with fail;go_ret;exact⟨rfl,below_drewN (I _) _⟩
 | some x=>
  simp only[ja,Option.getD_some,Option.isSome_some];have p:=λW=>aX x W;obtain⟨g,h⟩:∃W,w.alloc (.cells #[.string x,.bool true,.func (.func 215) #[] #[.pointer (some ⟨B,0,none⟩)]] 408)=W:=⟨_,rfl⟩;have s:Hid (Below w.heap.size w g):=hid (by rw[<- h];exact I _);have D:g.cell? ⟨w.heap.size,0,none⟩=some (.string x):=by rw[<- h];simp
  have E:g.cell? ⟨w.heap.size,1,none⟩=some (.bool true):=by rw[<- h];simp
  have n:=hid h
  cases hx:Ref.qj x with
  | false=>
   rw[Bool.false_and];simp only[hx] at p;clear t q h;go_enter func325,ntmps325
   go_upto_region 1 with fail
   rw[n.out];have J:∀X:Grown g,X.w.cell? ⟨w.heap.size,0,none⟩=some (.string x):=λX=>zg X.b D;have f1:∀X:Grown g,X.w.cell? ⟨w.heap.size,1,none⟩=some (.bool true):=λX=>zg X.b E
   have R:Hid (∀(X:Grown g),Calls prog 332 #[.string x] X.w λe k=>e = .returned (.bool false)/\∃Y:Grown g,k=Y.w):=
    hid λX=>(p X.w).mono λe k ⟨he,hb⟩=>⟨he,⟨k,X.b.trans (hb.mono X.b.size)⟩,rfl⟩
   have NE:Nonempty (Grown g):=⟨⟨g,Below.refl _ _⟩⟩;clear p D E;refine wp_region_quiet (C:=λU=>∃X:Grown g,U=X.w) (by kernel_rfl) (by kernel_rfl) ⟨⟨_,(Below.refl _ g).drew⟩,rfl⟩ ?_;simp only
   repeat (go_big_quiet_step (first|exact R.out _))
   refine wpQuiet_nil ?_;intro r G;obtain⟨X,rfl⟩:=G;go_wp2_with fail;go_ret;exact⟨rfl,s.out.trans (X.b.mono s.out.size)⟩
  | true=>
   rw[Bool.true_and,<- mQ x vals hx q];simp only[hx] at p;have Z:=λW=>dF x W hx;have A:=λ(W:World) (hb:Below w.heap.size w W)=>Dj vals H 335 De.uz W (Zw t hb) hn (enters_of func335 (by kernel_rfl) rfl) (λV v F _=>dF v V (q v F));have z:=λ(W:World) (ao:Option Addr) (cap:Nat) f=>iR (vals.map De.uz) (De.uz x) ao cap W (by rw[List.length_map];omega) f;obtain⟨a,c,rfl,_⟩:=t;generalize hL:vals.map De.uz=L at A z;have Q:=hid A;have P:=hid z;clear q h hL A z hx;go_enter func325,ntmps325
   go_upto_region 1 with fail
   rw[n.out]
   go_region_held3 (λr=>r.cell? ⟨w.heap.size,0,none⟩=some (.string x)/\r.cell? ⟨w.heap.size,1,none⟩=some (.bool true)) (go_keep) (first
    | ((go_at_call 335);refine (Z M).mono ?_;rintro e N ⟨rfl,o⟩;have i0:=zg o h0;have i1:=zg o h1;have y:=hid (fT T.out o);have m:Hid (Below w.heap.size w N):=l.out.trans (o.mono l.out.size);clear o)
    | ((go_at_call 334);refine (Q.out K j.out).mono ?_;rintro e M ⟨mv,rfl,i,d⟩;obtain⟨ma,mc,rfl,f⟩:=Gw i;have T:=hid f;have h0:=zg d J;have h1:=zg d f1;have l:Hid (Below w.heap.size w M):=j.out.trans (d.mono j.out.size);clear d i f)
    | ((go_at_call 332);refine (p g.drew).mono ?_;rintro e K ⟨rfl,d⟩;have J:=zg d D;have f1:=zg d E;have j:Hid (Below w.heap.size w K):=s.out.trans (((Below.refl _ g).drew.trans d).mono s.out.size);clear d)
    | ((go_at_call 333);refine (P.out N ma mc y.out).mono ?_;rintro e w4 ⟨rfl,d⟩;have k0:=zg d i0;have k1:=zg d i1;have u:Hid (Below w.heap.size w w4):=m.out.trans (d.mono m.out.size);clear d))
   all_goals
    go_wp2_with fail;go_ret;exact⟨rfl,u.out⟩
end Go.Proofs.YtdakgnaojakldaaGreatDoor
