/- P -/
import Derived.Test.YtdakgnaojakldabGreatDoorT43
open Go.Proofs.Tryz
set_option maxRecDepth 100000
set_option maxHeartbeats 2000000
namespace Go.Proofs.YtdakgnaojakldabGreatDoor
open Go.RowKit
def XV(w:World)(ao:Option Addr)(n:Nat)(v:Nat->Int):Prop:=
 n=0\/∃b o,ao=some ⟨b,o,none⟩/\∀j,j<n->w.cell? ⟨b,o+j,none⟩=some (.int .i64 (v j))
theorem lD{w a:World}{ao:Option Addr}{n:Nat}{v:Nat->Int}(h:XV w ao n v)(c:Below w.heap.size w a):XV a ao n v:=by
 rcases h with h|⟨b,o,h1,h2⟩
 ·exact .inl h
 ·exact .inr ⟨b,o,h1,λj d=>zb c (h2 j d)⟩
theorem Ch(n:Nat)(ao:Option Addr)(cap g:Nat)(s:Array Value)(v:Nat->Int)(p:Nat->Bool)(w:World)(A:n<=1000000000000)(y:∀args w,(callFunc g args).run prog w = .ok (.enter g args) w)
  (u:XV w ao n v)(x:yE g s (λj => .int .i64 (v j)) n p w) :
  Calls prog 236 #[.slice ao n cap,.func (.func g) #[] s] w λe m=>
   e = .returned (.tuple #[.int .i64 (((zm p n).getD 0:Nat):Int),.bool (zm p n).isSome])/\Below w.heap.size w m:=by
 generalize hF:zm p n=F;have r:=hid hF;clear hF;go_enter func236,ntmps236
 go_wp2
 go_loopw [10] (λi wr=>∃k:Nat,k<=n/\i = .int .i64 k/\(∀j,j<k->p j=false)/\Below w.heap.size w wr) (λi _=>n-(intOf i).toNat)
 case atStart=>exact⟨0,Nat.zero_le _,rfl,λj h=>by omega,Below.refl _ _⟩
 case round=>
  obtain⟨k,z,rfl,f,c⟩:=hrel;have l:=hid f;clear f
  by_cases hlt:k<n
  ·rcases u with h0|⟨b,o,rfl,hcc⟩
   ·omega
   have q:=zb c (hcc k hlt);have a:=λW f=>x W k hlt f;simp only at a
   cases hpp:p k with
   | false=>
    rw[hpp] at a;have t:=hid hpp;clear hpp
    go_wp2_with (go_at_fn g;refine (a _ c).mono ?_;rintro e m ⟨rfl,d⟩)
    refine⟨⟨k+1,by omega,by go_num,λj h=>?_,c.trans (d.mono c.size)⟩,by simp[intOf];omega⟩
    by_cases hj:j=k
    ·subst hj;exact t.out
    ·exact l.out j (by omega)
   | true=>
    rw[hpp] at a;have e:=kD p n k hlt l.out hpp;rw[r.out] at e;subst e;clear hpp
    go_wp2_with (go_at_fn g;refine (a _ c).mono ?_;rintro e m ⟨rfl,d⟩)
    go_ret2;exact⟨rfl,c.trans (d.mono c.size)⟩
  ·have e:=kE p n (λj h=>l.out j (by omega));rw[r.out] at e;subst e
   go_wp2
   go_ret2;exact⟨rfl,c⟩
theorem oZ(n:Nat)(ao:Option Addr)(cap g:Nat)(b:Array Value)(v:Nat->Int)(p:Nat->Bool)(w:World)(i:n<=1000000000000)(f:∀args w,(callFunc g args).run prog w = .ok (.enter g args) w)
  (h:XV w ao n v)(k:yE g b (λj => .int .i64 (v j)) n p w) :
  Calls prog 231 #[.slice ao n cap,.func (.func g) #[] b] w λe d=>
   e = .returned (.bool (zm p n).isSome)/\Below w.heap.size w d:=by
 have c:=Ch n ao cap g b v p w i f h k;generalize zm p n=F at c;go_enter func231,ntmps231
 go_wp2_with (go_at_call 236;refine c.mono ?_;rintro e d ⟨rfl,a⟩)
 go_ret;exact⟨rfl,a⟩
theorem Ea:(prog.info? 2).map (λi=>(i.zero,i.size,i.bytes))=some (some (.int .i64 0),1,8):=by kernel_rfl
def Xq(w:World)(base:Nat)(a:Value)(l:List Int):Prop:=w.ownsRow base 2 1 a l.length (l.map (Value.int .i64))
def nQ(w:World)(outs:List Int)(e:Ending)(b:World):Prop:=∃a,e = .returned a/\Xq b w.heap.size a outs/\Below w.heap.size w b
theorem GV{w:World}{B:Nat}{a:Value}{l:List Int}{s:Int}(h:w.ownsRow B 2 1 a (l.length+1) (l.map (Value.int .i64)++[.int .i64 s])):Xq w B a (l++[s]):=by
 unfold Xq;rw[List.map_append,List.length_append];exact h
theorem MK{w:World}{base:Nat}{d:Value}{l:List Int}(h:Xq w base d l):∃a c,d = .slice a l.length c/\XV w a l.length (λj=>l.getD j 0):=by
 rcases h.2 with ⟨rfl,h0⟩|⟨g,cap,cur,ev,_⟩
 ·exact⟨none,0,by rw[h0],.inl h0⟩
 ·refine⟨_,cap,ev,.inr ⟨g,0,rfl,λj b=>?_⟩⟩;rw[Nat.zero_add,World.ownsRow.cellAt (g:=g) (cap:=cap) (by rw[<- ev];exact h) j (by omega),List.getElem?_map,List.getElem?_eq_getElem b];simp[b]
theorem Gq(b:List BA)(lv:Value)(g:Nat)(out:BA->Int)(w:World)(h:jq w lv b)(hn:b.length<=1000)(eg:∀args w,(callFunc g args).run prog w = .ok (.enter g args) w)
  (V:∀W s,s ∈ b->Below w.heap.size w W->Calls prog g #[.string s] W λe w'=>e = .returned (.int .i64 (out s))/\Below W.heap.size W w') :
  Calls prog 223 #[lv,.func (.func g) #[] #[]] w (nQ w (b.map out)):=by
 obtain⟨i0,U,G,H,I⟩:=info_parts Ea;obtain⟨a,c,rfl,p⟩:=h;obtain⟨n,l⟩:=Nm b.length
 have f:∀(k:Nat) (x:BA),b[k]?=some x->∃E o,a=some ⟨E,o,none⟩/\w.cell? ⟨E,o+k,none⟩=some (.string x):=by
  intro k x hx;obtain⟨m,rfl⟩:=List.getElem?_eq_some_iff.1 hx
  rcases p with e|⟨E,o,e,hc⟩
  ·rw[e] at m;simp at m
  ·exact⟨E,o,e,hc k m⟩
 rw[l];rw[l] at hn;have HC:=hid f;have HP:=hid V;have R:=hid l;clear f V l p;go_enter func223,ntmps223
 go_wp2_with (at_make;refine wpList_make_own _ rfl _ _ 324 rfl w.heap.size 2 i0 (.int .i64 0) 1 underlying324 U G H _ _ _ n rfl rfl rfl ?_ ?_ ?_ ?_)
 ·rw[I];omega
 ·unfold maxLen;omega
 ·omega
 intro w1 r d;have D:=hid r;have B:Hid (Below w.heap.size w w1):=(Below.refl _ w).grown d (Nat.le_refl _) (λk m=>by cases m);clear r d;go_wp2_with fail
 go_loopw [5,7,13] (λov _ Q wr=>∃(k:Nat),k<=n/\Q = .int .i64 k/\Xq wr w.heap.size ov ((b.take k).map out)/\Below w.heap.size w wr) (λ_ _ Q _=>n-(intOf Q).toNat)
 case atStart=>exact⟨0,Nat.zero_le _,rfl,D.out,B.out⟩
 case round=>
  obtain⟨k,m,rfl,A,T⟩:=hrel;have J:=hid A;have z:=hid T;clear A T D B
  by_cases hlt:k<n
  ·have v:k<b.length:=by rw[R.out];exact hlt
   obtain⟨E,o,rfl,q⟩:=HC.out k _ (List.getElem?_eq_getElem v);have q2:=zb z.out q;have O:=HP.out wr b[k] (List.getElem_mem v) z.out;have y:Hid ((b.take (k+1)).map out=(b.take k).map out++[out b[k]]):=hid (by rw[List.take_add_one,List.getElem?_eq_getElem v,List.map_append];rfl);have F:((b.take k).map out).length=k:=by rw[List.length_map,List.length_take];omega
   obtain⟨s,X⟩:=Nm (b[k]);rw[X] at q2 O y;have CC:=hid O;obtain⟨L,S⟩:=Nm ((b.take k).map out);rw[S] at J y F;clear q O X S
   go_wp2_with (first
    | (go_at_fn g;refine CC.out.mono ?_;rintro e w2 ⟨rfl,t⟩;have C:=hid t;have Z:=t.size;have a8:=z.out.size;clear t)
    | (at_builtin;refine wpList_append_own _ rfl _ _ 324 rfl w.heap.size 2 i0 (.int .i64 0) 1 8 underlying324 U G H I rfl (by decide) _ L.length (L.map (Value.int .i64)) rfl (World.ownsRow.alloc (ownsRow_below J.out C.out) _) ⟨w2.heap.size,0,none⟩ 1 1 [.int .i64 (out s)] rfl rfl ?_ ?_ ?_ ?_ ?_ ?_))
   ·exact Gg _ _ _
   ·intro u Y;simp at Y;rcases Y with rfl;rfl
   ·unfold maxLen;omega
   ·omega
   ·simp;omega
   ·intro v' w3 j i _;have N:Hid (Xq w3 w.heap.size v' ((b.take (k+1)).map out)):=by rw[y.out];exact GV (by rw[F];exact j)
    have K:Hid (Below w.heap.size w w3):=((z.out.trans (C.out.mono z.out.size)).alloc (by omega) _).grown i (by simp;omega) (λk m=>(World.ownsRow.lt J.out k m).1);clear j i
    go_wp2
    go_roundw
    case rel=>exact⟨k+1,by omega,by go_num,N.out,K.out⟩
    case measure=>simp[intOf];omega
  ·have P:k=n:=by omega
   subst P;have A:=J.out;rw[List.take_of_length_le (by rw[R.out];omega)] at A;have M:=hid A;clear A
   go_wp2
   go_ret;exact⟨_,rfl,M.out,z.out⟩
theorem oh(z n:Int)(B:Nat)(w:World)(b:w.cell? ⟨B,0,none⟩=some (.int .i64 n)) :
  Calls prog 232 #[.int .i64 z,.pointer (some ⟨B,0,none⟩)] w λe a=>e = .returned (.bool (decide (n<z)))/\Below w.heap.size w a:=by
 go_enter func232,ntmps232
 go_wp2
 go_ret;exact⟨rfl,Below.refl _ _⟩
theorem ol(l:List Int)(n:Int)(ao:Option Addr)(cap:Nat)(w:World)(i:l.length<=100000000000)(g:XV w ao l.length (λj=>l.getD j 0)) :
  Calls prog 222 #[.slice ao l.length cap,.int .i64 n] w λe d=>e = .returned (.bool (l.any λz=>decide (n<z)))/\Below w.heap.size w d:=by
 have a:=nB w (.cells #[.int .i64 n] 2)
 have c:=oZ l.length ao cap 232 #[.pointer (some ⟨w.heap.size,0,none⟩)] (λj=>l.getD j 0) (λj=>decide (n<l.getD j 0)) (w.alloc (.cells #[.int .i64 n] 2)) (by omega)
  (enters_of func232 (by kernel_rfl) rfl) (lD g a)
  (λW j h f=>oh (l.getD j 0) n w.heap.size W (zb f (by simp)))
 rw[show (zm (λj=>decide (n<l.getD j 0)) l.length).isSome=l.any (λz=>decide (n<z)) from Yg l 0 (λz=>decide (n<z))] at c
 generalize (l.any λz=>decide (n<z))=F at c;go_enter func222,ntmps222
 go_wp2_with (go_at_call 231;refine c.mono ?_;rintro e d ⟨rfl,b⟩)
 go_ret;exact⟨rfl,a.trans (b.mono (by simp))⟩
theorem Yh{α:Type}(l:List α)(f g:α->Bool)(h:∀x ∈ l,f x=g x):l.any f=l.any g:=by
 rw[Bool.eq_iff_iff,List.any_eq_true,List.any_eq_true]
 constructor
 ·rintro ⟨x,a,b⟩;exact⟨x,a,by rw[<- h x a];exact b⟩
 ·rintro ⟨x,a,b⟩;exact⟨x,a,by rw[h x a];exact b⟩
theorem rP(x:BA)(vals:List BA)(c:Ref.qE x=true)(b:∀v ∈ vals,Ref.qE v=true):((vals.map De.kL).any λz=>decide (De.kL x<z))=vals.any λv=>De.Qy x v:=by
 rw[List.any_map];exact Yh _ _ _ λv a=>(De.NS c (b v a)).symm
theorem Eg(S:Option BA)(vals:List BA)(H:Value)(B:Nat)(w:World)(p:∀v ∈ vals,Ref.qE v=true)(hn:vals.length<=1000)(s:jq w H vals) :
  Calls prog 214 #[vT S B,H] w λe q=>e = .returned (.bool (jL S λx=>Ref.qE x&&vals.any λv=>De.Qy x v))/\Below w.heap.size w q:=by
 have I:=λO:Obj=>nB w O;unfold vT xk
 cases S with
 | none=>
  simp only[jL,Option.getD_none,Option.isSome_none];clear s p;go_enter func214,ntmps214;go_wp2_with fail
  go_quiet (fail)
  go_wp2_with fail;go_ret;exact⟨rfl,below_drewN (I _) _⟩
 | some x=>
  simp only[jL,Option.getD_some,Option.isSome_some];have o:=λW=>eG x W;obtain⟨f,g⟩:∃W,w.alloc (.cells #[.string x,.bool true,.func (.func 128) #[] #[.pointer (some ⟨B,0,none⟩)]] 265)=W:=⟨_,rfl⟩;have r:Hid (Below w.heap.size w f):=hid (by rw[<- g];exact I _);have A:f.cell? ⟨w.heap.size,0,none⟩=some (.string x):=by rw[<- g];simp
  have D:f.cell? ⟨w.heap.size,1,none⟩=some (.bool true):=by rw[<- g];simp
  have m:=hid g
  cases hx:Ref.qE x with
  | false=>
   rw[Bool.false_and];simp only[hx] at o;clear s p g;go_enter func214,ntmps214
   go_upto_region 1 with fail
   rw[m.out];have J:∀X:Grown f,X.w.cell? ⟨w.heap.size,0,none⟩=some (.string x):=λX=>zb X.b A;have f1:∀X:Grown f,X.w.cell? ⟨w.heap.size,1,none⟩=some (.bool true):=λX=>zb X.b D
   have R:Hid (∀(X:Grown f),Calls prog 221 #[.string x] X.w λe j=>e = .returned (.bool false)/\∃Y:Grown f,j=Y.w):=
    hid λX=>(o X.w).mono λe j ⟨he,E⟩=>⟨he,⟨j,X.b.trans (E.mono X.b.size)⟩,rfl⟩
   have NE:Nonempty (Grown f):=⟨⟨f,Below.refl _ _⟩⟩;clear o A D;refine wp_region_quiet (C:=λU=>∃X:Grown f,U=X.w) (by kernel_rfl) (by kernel_rfl) ⟨⟨_,(Below.refl _ f).drew⟩,rfl⟩ ?_;simp only
   repeat (go_big_quiet_step (first|exact R.out _))
   refine wpQuiet_nil ?_;intro q G;obtain⟨X,rfl⟩:=G;go_wp2_with fail;go_ret;exact⟨rfl,r.out.trans (X.b.mono r.out.size)⟩
  | true=>
   rw[Bool.true_and,<- rP x vals hx p];simp only[hx] at o;have Z:=λW=>gK x W hx;have z:=λ(W:World) (E:Below w.heap.size w W)=>Gq vals H 224 De.kL W (Qa s E) hn (enters_of func224 (by kernel_rfl) rfl) (λV v F _=>gK v V (p v F));have y:=λ(W:World) (ao:Option Addr) (cap:Nat) d=>ol (vals.map De.kL) (De.kL x) ao cap W (by rw[List.length_map];omega) d;obtain⟨a,c,rfl,_⟩:=s;generalize hL:vals.map De.kL=L at z y;have Q:=hid z;have P:=hid y;clear p g hL z y hx;go_enter func214,ntmps214
   go_upto_region 1 with fail
   rw[m.out]
   go_region_held3 (λq=>q.cell? ⟨w.heap.size,0,none⟩=some (.string x)/\q.cell? ⟨w.heap.size,1,none⟩=some (.bool true)) (go_keep) (first
    | ((go_at_call 224);refine (Z M).mono ?_;rintro e N ⟨rfl,n⟩;have i0:=zb n h0;have i1:=zb n h1;have u:=hid (lD T.out n);have l:Hid (Below w.heap.size w N):=k.out.trans (n.mono k.out.size);clear n)
    | ((go_at_call 223);refine (Q.out K i.out).mono ?_;rintro e M ⟨mv,rfl,h,bb⟩;obtain⟨ma,mc,rfl,d⟩:=MK h;have T:=hid d;have h0:=zb bb J;have h1:=zb bb f1;have k:Hid (Below w.heap.size w M):=i.out.trans (bb.mono i.out.size);clear bb h d)
    | ((go_at_call 221);refine (o f.drew).mono ?_;rintro e K ⟨rfl,bb⟩;have J:=zb bb A;have f1:=zb bb D;have i:Hid (Below w.heap.size w K):=r.out.trans (((Below.refl _ f).drew.trans bb).mono r.out.size);clear bb)
    | ((go_at_call 222);refine (P.out N ma mc u.out).mono ?_;rintro e w4 ⟨rfl,bb⟩;have k0:=zb bb i0;have k1:=zb bb i1;have t:Hid (Below w.heap.size w w4):=l.out.trans (bb.mono l.out.size);clear bb))
   all_goals
    go_wp2_with fail;go_ret;exact⟨rfl,t.out⟩
namespace De
def Q3(c:zX)(r:Ref.Req):Bool:=((Ref.xI c.op&&(Ref.says r c.key).isNone)||QQ c.op c.vals r (Ref.says r c.key)) != c.no
def Yi(s:zD)(r:Ref.Req):Bool:=jr s.who r.who r&&jr s.act r.act r&&jr s.on r.on r&&s.ifs.all λc=>Q3 c r
def yH(eff:BA)(r:Ref.Req)(s:zD):Bool:=(s.eff.toList==eff.toList)&&Yi s r
def jU(eff:BA)(r:Ref.Req)(a:List zD):Option Nat:=a.findIdx? (yH eff r)
def xH(eff:BA)(r:Ref.Req):List zl->Option (BA×Nat)
 | []=>none
 | x::L=>match jU eff r x.2 with
  | some k=>some (x.1,k+1)
  | none=>xH eff r L
def qA(a:Nat->List zl)(eff:BA)(r:Ref.Req):List Nat->Option (Nat×BA×Nat)
 | []=>none
 | i::is=>match xH eff r (a i) with
  | some (n,k)=>some (i,n,k)
  | none=>qA a eff r is
def xE:BA:=⟨#[97,108,108,111,119]⟩
def jE:BA:=⟨#[100,101,110,121]⟩
structure Dec where
 verdict:Nat
 layer:Nat
 doc:BA
 stmt:Nat
def silent:Dec:=⟨3,0,⟨#[]⟩,0⟩
def Ho:Dec:=⟨0,0,⟨#[]⟩,0⟩
def uM(a:Nat->List zl)(r:Ref.Req)(i:Nat):Bool:=(a i).isEmpty||(xH xE r (a i)).isSome
def uB(a:Nat->List zl)(r:Ref.Req):Dec:=match qA a jE r [0,1,2,3] with
 | some (i,n,k)=>⟨2,i,n,k⟩
 | none=>if (uM a r 0&&uM a r 1)=false then silent else match qA a xE r [2,3] with
  | some (i,n,k)=>⟨1,i,n,k⟩
  | none=>silent
def yn(a:Nat->List zl)(r:Ref.Req):Dec×Int:=if Ref.xO r then (uB a r,0) else (Ho,11)
end De
def ko(w:World)(v:Value)(cs:List zX):Prop:=
 ∃a cap,v = .slice a cs.length cap/\(cs=[]\/∃b o,a=some ⟨b,o,none⟩/\∀j,(h:j<cs.length)->∃c,w.cell? ⟨b,o+j*4,none⟩=some (.string cs[j].op)/\w.cell? ⟨b,o+j*4+1,none⟩=some (.string cs[j].key)/\w.cell? ⟨b,o+j*4+2,none⟩=some c/\w.cell? ⟨b,o+j*4+3,none⟩=some (.bool cs[j].no)/\jq w c cs[j].vals)
theorem ko.below{w d:World}{v:Value}{cs:List zX}(h:ko w v cs)(c:Below w.heap.size w d):ko d v cs:=by
 obtain⟨a,cap,e,h⟩:=h;refine⟨a,cap,e,?_⟩
 rcases h with h|⟨b,o,ha,hc⟩
 ·exact .inl h
 ·refine .inr ⟨b,o,ha,λj m=>?_⟩;obtain⟨n,f,g,i,k,l⟩:=hc j m;exact⟨n,zb c f,zb c g,zb c i,zb c k,Qa l c⟩
structure Qz (w:World) (l1 l2 l3 lc:Value) (s:zD):Prop where
 who:jq w l1 s.who.2
 act:jq w l2 s.act.2
 on:jq w l3 s.on.2
 ifs:ko w lc s.ifs
theorem Qz.below{w f:World}{b c d e:Value}{s:zD}(h:Qz w b c d e s)(a:Below w.heap.size w f):Qz f b c d e s:=
 ⟨Qa h.who a,Qa h.act a,Qa h.on a,h.ifs.below a⟩
def QA(w:World)(v:Value)(c:List zD):Prop:=
 ∃a cap,v = .slice a c.length cap/\(c=[]\/∃b o,a=some ⟨b,o,none⟩/\∀j,(h:j<c.length)->∃d e f g,w.cell? ⟨b,o+j*8,none⟩=some (.string c[j].eff)/\w.cell? ⟨b,o+j*8+1,none⟩=some (.bool c[j].who.1)/\w.cell? ⟨b,o+j*8+2,none⟩=some d/\w.cell? ⟨b,o+j*8+3,none⟩=some (.bool c[j].act.1)/\w.cell? ⟨b,o+j*8+4,none⟩=some e/\w.cell? ⟨b,o+j*8+5,none⟩=some (.bool c[j].on.1)/\w.cell? ⟨b,o+j*8+6,none⟩=some f/\w.cell? ⟨b,o+j*8+7,none⟩=some g/\Qz w d e f g c[j])
theorem QA.below{w f:World}{v:Value}{d:List zD}(h:QA w v d)(c:Below w.heap.size w f):QA f v d:=by
 obtain⟨a,cap,e,h⟩:=h;refine⟨a,cap,e,?_⟩
 rcases h with h|⟨b,o,ha,hc⟩
 ·exact .inl h
 ·refine .inr ⟨b,o,ha,λj s=>?_⟩;obtain⟨t,u,x,y,g,i,k,l,m,n,p,q,r⟩:=hc j s;exact⟨t,u,x,y,zb c g,zb c i,zb c k,zb c l,zb c m,zb c n,zb c p,zb c q,r.below c⟩
theorem lF{w:World}{base n b:Nat}{e:TypeId}{v:Value}{xs:List Value}(h:w.ownsRow base e b v n xs):(n=0/\v = .slice none 0 0)\/∃g cap,v = .slice (some ⟨g,0,none⟩) n cap/\∀i,i<xs.length->w.cell? ⟨g,i,none⟩=xs[i]?:=by
 rcases h.2 with ⟨e0,h0⟩|⟨g,cap,cur,ev,_⟩
 ·exact .inl ⟨h0,e0⟩
 ·exact .inr ⟨g,cap,ev,λi a=>World.ownsRow.cellAt (g:=g) (cap:=cap) (by rw[<- ev];exact h) i (by rw[<- h.1];exact a)⟩
theorem tX{w:World}{base:Nat}{e:TypeId}{v:Value}{xs:List Value}{cs:List zX}(h:w.ownsRow base e 4 v cs.length xs)
  (l:∀j,(c:j<cs.length)->∃a,xs[j*4]?=some (.string cs[j].op)/\xs[j*4+1]?=some (.string cs[j].key)/\xs[j*4+2]?=some a/\xs[j*4+3]?=some (.bool cs[j].no)/\jq w a cs[j].vals):ko w v cs:=by
 have m:xs.length=cs.length*4:=h.1
 rcases lF h with ⟨b,rfl⟩|⟨g,cap,rfl,hcell⟩
 ·have:cs=[]:=List.length_eq_zero_iff.1 b
  subst this;exact⟨none,0,rfl,.inl rfl⟩
 ·refine⟨_,cap,rfl,.inr ⟨g,0,rfl,λj c=>?_⟩⟩;obtain⟨a,b,d,f,i,k⟩:=l j c;rw[Nat.zero_add];exact⟨a,(hcell _ (by omega)).trans b,(hcell _ (by omega)).trans d,(hcell _ (by omega)).trans f,(hcell _ (by omega)).trans i,k⟩
theorem OG{w:World}{base:Nat}{e:TypeId}{v:Value}{xs:List Value}{a:List zD}(h:w.ownsRow base e 8 v a.length xs)
  (t:∀j,(k:j<a.length)->∃b c d f,xs[j*8]?=some (.string a[j].eff)/\xs[j*8+1]?=some (.bool a[j].who.1)/\xs[j*8+2]?=some b/\xs[j*8+3]?=some (.bool a[j].act.1)/\xs[j*8+4]?=some c/\xs[j*8+5]?=some (.bool a[j].on.1)/\xs[j*8+6]?=some d/\xs[j*8+7]?=some f/\Qz w b c d f a[j]):QA w v a:=by
 have u:xs.length=a.length*8:=h.1
 rcases lF h with ⟨i,rfl⟩|⟨g,cap,rfl,hcell⟩
 ·have:a=[]:=List.length_eq_zero_iff.1 i
  subst this;exact⟨none,0,rfl,.inl rfl⟩
 ·refine⟨_,cap,rfl,.inr ⟨g,0,rfl,λj k=>?_⟩⟩;obtain⟨b,c,d,f,i,l,m,n,o,p,q,r,s⟩:=t j k;rw[Nat.zero_add];exact⟨b,c,d,f,(hcell _ (by omega)).trans i,(hcell _ (by omega)).trans l,(hcell _ (by omega)).trans m,(hcell _ (by omega)).trans n,(hcell _ (by omega)).trans o,(hcell _ (by omega)).trans p,(hcell _ (by omega)).trans q,(hcell _ (by omega)).trans r,s⟩
theorem tY{w:World}{base:Nat}{v:Value}{cs:List zX}(h:qJ w base v cs):ko w v cs:=by
 obtain⟨xs,f,g⟩:=h;refine tX f λj i=>?_;obtain⟨k,a,b,c,d,e⟩:=g j i;exact⟨k,a,b,c,d,Vi rfl e⟩
theorem OH{w:World}{base:Nat}{v:Value}{c:List zD}(h:yD w base v c):QA w v c:=by
 obtain⟨xs,a,b⟩:=h;refine OG a λj p=>?_;obtain⟨q,r,s,t,i,a,b,k,l,m,n,o,d,e,f,g⟩:=b j p;exact⟨q,r,s,t,i,a,b,k,l,m,n,o,⟨Vi rfl d,Vi rfl e,Vi rfl f,tY g⟩⟩
theorem mD{M:Nat->Prop}{w:World}{v:Value}{a:List zD}(h:xP M w v a):QA w v a:=by
 obtain⟨base,h⟩:=h.at;exact OH h
theorem YS{w:World}{v:Value}{l:List BA}(h:jq w v l):∃a c,v = .slice a l.length c/\jq w (.slice a l.length c) l:=by
 obtain⟨a,c,rfl,h⟩:=h;exact⟨a,c,rfl,a,c,rfl,h⟩
theorem tZ{w:World}{v:Value}{l:List zX}(h:ko w v l):∃a c,v = .slice a l.length c/\ko w (.slice a l.length c) l:=by
 obtain⟨a,c,rfl,h⟩:=h;exact⟨a,c,rfl,a,c,rfl,h⟩
def QC(op:BA)(vals:List BA)(r:Ref.Req)(S:Option BA):Bool:=(Ref.xI op&&S.isNone)||De.QQ op vals r S
theorem YJ{op:BA}{l:List UInt8}(h:op.toList=l):yz op=zm (λk=>(opN k).toList==l) 5:=by
 unfold yz;rw[h]
theorem YK(k:Nat):(opN k).toList=(opN k).data.toList:=ByteArray.toList_eq _
theorem DV:zm (λk=>(opN k).toList==[108,105,107,101]) 5=some 0:=by simp only[YK];decide
theorem DW:zm (λk=>(opN k).toList==[115,97,109,101]) 5=some 1:=by simp only[YK];decide
theorem DU:zm (λk=>(opN k).toList==[98,101,108,111,119]) 5=some 2:=by simp only[YK];decide
theorem DX:zm (λk=>(opN k).toList==[117,110,100,101,114]) 5=some 3:=by simp only[YK];decide
theorem DT:zm (λk=>(opN k).toList==[97,98,115,101,110,116]) 5=some 4:=by simp only[YK];decide
theorem Iw(k:Nat)(a:k<5):∀args w,(callFunc (opT k) args).run prog w = .ok (.enter (opT k) args) w:=by
 rcases lt5 a with rfl|rfl|rfl|rfl|rfl
 ·exact enters_of func210 (by kernel_rfl) rfl
 ·exact enters_of func212 (by kernel_rfl) rfl
 ·exact enters_of func214 (by kernel_rfl) rfl
 ·exact enters_of func216 (by kernel_rfl) rfl
 ·exact enters_of func218 (by kernel_rfl) rfl
theorem PU(c:zX)(o:Value)(S:Option BA)(r:Ref.Req)(ao:Option Addr)(cap B:Nat)(w:World)(m:jq w o c.vals)(y:Xk c)(p:c.vals.length<=1000)(q:∀v ∈ c.vals,v.size<=100000)(z:∀x,S=some x->x.size<=100/\(Ref.chars x).isSome=true)(u:vz w r ao cap B)(t:qR w) :
  ∃k,k<5/\yz c.op=some k/\Calls prog (opT k) #[vT S B,o] w λe A=>e = .returned (.bool (QC c.op c.vals r S))/\Below w.heap.size w A:=by
 obtain⟨op,key,vals,no⟩:=c;simp only at m p q |-
 rcases y with ⟨ha,n⟩|⟨ha,hfit,hlike⟩
 ·simp only at ha n;subst n;have b:op.toList=[97,98,115,101,110,116]:=eq_of_beq ha;refine⟨4,by omega,(YJ b).trans DT,?_⟩
  have e:QC op [] r S=S.isNone:=by
   unfold QC;rw[ha]
   cases S<;>rfl
  rw[e];exact Ef S o B w
 ·simp only at ha hfit hlike;obtain⟨a,c,rfl,d⟩:=m;have m:jq w (.slice a vals.length c) vals:=⟨a,c,rfl,d⟩;have i:vo w a vals:=d;have s:QC op vals r S=De.QQ op vals r S:=by unfold QC;rw[ha];rfl
  rw[s];unfold Ref.ZY at hfit;rw[Bool.and_eq_true] at hfit;obtain⟨j,f⟩:=hfit;unfold Ref.jK at f;simp only[Bool.or_eq_true] at f
  rcases f with ((h|h)|h)|h
  ·have b:=eq_of_beq h;refine⟨1,by omega,(YJ b).trans DW,?_⟩
   have e:De.QQ op vals r S=(jL S λx=>vals.any λv=>x.toList==v.toList):=by
    cases S with
    | none=>rfl
    | some x=>
     refine Yh _ _ _ λv _=>?_;unfold De.Q8 Ref.qD De.xJ;rw[b]
     rfl
   rw[e];exact Et S vals a c B w (by omega) i
  ·have b:=eq_of_beq h;refine⟨3,by omega,(YJ b).trans DX,?_⟩
   have e:De.QQ op vals r S=(jL S λx=>vals.any λv=>De.kZ x v):=by
    cases S with
    | none=>rfl
    | some x=>
     refine Yh _ _ _ λv _=>?_;unfold De.Q8 Ref.qD De.xJ De.yu;rw[b]
     rfl
   rw[e];exact Ew S vals a c B w (by omega) q i
  ·have b:=eq_of_beq h;refine⟨2,by omega,(YJ b).trans DU,?_⟩
   have l:∀v ∈ vals,Ref.qE v=true:=λv n=>by
    have:=List.all_eq_true.1 j v n
    unfold Ref.Zx at this;rw[b] at this
    simpa using this
   have e:De.QQ op vals r S=(jL S λx=>Ref.qE x&&vals.any λv=>De.Qy x v):=by
    cases S with
    | none=>rfl
    | some x=>
     have g:(vals.any λv=>De.Q8 op x v r)=vals.any λv=>(Ref.qE x&&De.Qy x v):=by
      refine Yh _ _ _ λv _=>?_;unfold De.Q8 Ref.qD De.xJ De.yu;rw[b]
      rfl
     show (vals.any λv=>De.Q8 op x v r)=(Ref.qE x&&vals.any λv=>De.Qy x v);rw[g]
     cases Ref.qE x with
     | true=>rfl
     | false=>simp
   rw[e];exact Eg S vals _ B w l p m
  ·have b:=eq_of_beq h;refine⟨0,by omega,(YJ b).trans DV,?_⟩
   have e:De.QQ op vals r S=(jL S λx=>vals.any λv=>Ref.jg v x r):=by
    cases S with
    | none=>rfl
    | some x=>
     refine Yh _ _ _ λv _=>?_;unfold De.Q8 Ref.qD;rw[b]
     rfl
   rw[e];exact Eo S vals r ao a cap c B w z (hlike h) (by omega) i u t
theorem DR(c:zX)(J:Value)(r:Ref.Req)(ao:Option Addr)(cap B:Nat)(w:World)(hm:jq w J c.vals)(hf:Xk c)(hn:c.vals.length<=1000)(hz:∀v ∈ c.vals,v.size<=100000)(I:vz w r ao cap B)(O:qR w) :
  Calls prog 121 #[.agg #[.string c.op,.string c.key,J,.bool c.no],xk B] w λe t=>e = .returned (.bool (De.Q3 c r))/\Below w.heap.size w t:=by
 have P:=λ(W:World) (i:Below w.heap.size w W)=>PU c J (Ref.says r c.key) r ao cap B W (Qa hm i) hf hn hz (lK I.ok c.key) (I.below i) (O.below i);obtain⟨k,hk,h,_⟩:=P w (Below.refl _ _)
 have b:∀(W:World),Below w.heap.size w W->Calls prog (opT k) #[vT (Ref.says r c.key) B,J] W λe t=>e = .returned (.bool (QC c.op c.vals r (Ref.says r c.key)))/\Below W.heap.size W t:=by
  intro W i;obtain⟨k',_,H,h3⟩:=P W i;rw[h] at H;injection H with H
  rw[H];exact h3
 have f:De.Q3 c r=(QC c.op c.vals r (Ref.says r c.key) != c.no):=rfl;rw[f];have o:=λ(W:World) (i:Below w.heap.size w W)=>UU c.op W (O.below i).ops;have A:=λ(W:World) (i:Below w.heap.size w W)=>I.call W c.key i;rw[h] at o;have eg:=Iw k hk;have es:=lJ;obtain⟨a,Q,rfl,_⟩:=hm;obtain⟨op,key,vals,no⟩:=c;simp only at b o A |-;obtain⟨S,p⟩:=Nm (Ref.says r key);simp only[p] at b A;rw[p];obtain⟨T,q⟩:=Nm (QC op vals r S);simp only[q] at b;rw[q];unfold vT xk at b;unfold opV at o;unfold xk;simp only[Option.isSome_some] at o;obtain⟨G,s⟩:∃g,opT k=g:=⟨_,rfl⟩;obtain⟨fl,E⟩:∃g,opL k=g:=⟨_,rfl⟩;obtain⟨ON,C⟩:∃g,opN k=g:=⟨_,rfl⟩;rw[s] at b eg;simp only[s,E,C] at o;obtain⟨X,Z⟩:=Nm (S.getD ⟨#[]⟩);obtain⟨TH,D⟩:∃X,S.isSome=X:=⟨_,rfl⟩;simp only[Z,D] at b A;have HT:=hid b;have CO:=hid o;have CS:=hid A;obtain⟨x,d⟩:∃W,w.alloc (.cells #[.string op,.string key,.slice a vals.length Q,.bool no] 200)=W:=⟨_,rfl⟩;have L:Hid (Below w.heap.size w x):=hid (by rw[<- d];exact nB w _);have R:x.cell? ⟨w.heap.size,0,none⟩=some (.string op):=by rw[<- d];simp
 have U:x.cell? ⟨w.heap.size,1,none⟩=some (.string key):=by rw[<- d];simp
 have V:x.cell? ⟨w.heap.size,2,none⟩=some (.slice a vals.length Q):=by rw[<- d];simp
 have Y:x.cell? ⟨w.heap.size,3,none⟩=some (.bool no):=by rw[<- d];simp
 have N:=hid d;have sf:=λW a g m=>run_store prog W a (.func (.func g) #[] #[]) m rfl;clear P b o A p q s E C Z D d h f hf hn hz I O hk;go_enter func121,ntmps121
 go_upto_region 1 with fail
 rw[N.out]
 go_upto_region 2 with (go_at_call 127;refine (CO.out x L.out).mono ?_;rintro e u ⟨rfl,bb⟩;have k0:=zb bb R;have k1:=zb bb U;have k2:=zb bb V;have k3:=zb bb Y;have j:Hid (Below w.heap.size w u):=L.out.trans (bb.mono L.out.size);clear bb)
 obtain⟨K,hw2⟩:∃W,u.alloc (.cells #[.string ON,.func (.func fl) #[] #[],.func (.func G) #[] #[]] 237)=W:=⟨_,rfl⟩;have f2:K.cell? ⟨u.heap.size,2,none⟩=some (.func (.func G) #[] #[]):=by rw[<- hw2];simp
 have z:Below u.heap.size u K:=by rw[<- hw2];exact nB u _
 have j1:=zb z k1;have j2:=zb z k2;have j3:=zb z k3;have l:Hid (Below w.heap.size w K):=hid (j.out.trans (z.mono j.out.size));rw[hw2];clear hw2 z k0 k1 k2 k3 j R U V Y
 go_upto_region 3 with (go_at_fn 128;refine (CS.out K l.out).mono ?_;rintro e F ⟨rfl,bb⟩;have f3:=zb bb f2;have l2:=zb bb j2;have l3:=zb bb j3;have n:Hid (Below w.heap.size w F):=l.out.trans (bb.mono l.out.size);clear bb)
 go_region_held3 (λt=>t.cell? ⟨u.heap.size,2,none⟩=some (.func (.func G) #[] #[])/\t.cell? ⟨w.heap.size,2,none⟩=some (.slice a vals.length Q)/\t.cell? ⟨w.heap.size,3,none⟩=some (.bool no)) (go_keep) (first
  | ((go_at_fn G);refine (HT.out F.drew n.out.drew).mono ?_;rintro e w4 ⟨rfl,bb⟩;have y:Below F.heap.size F w4:=(Below.refl _ F).drew.trans bb;have f4:=zb y f3;have m2:=zb y l2;have m3:=zb y l3;have M:Hid (Below w.heap.size w w4):=n.out.trans (y.mono n.out.size);clear bb y))
 all_goals
  go_wp2_with fail;go_ret;exact⟨rfl,M.out⟩
end Go.Proofs.YtdakgnaojakldabGreatDoor
