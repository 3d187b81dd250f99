/- P -/
import Derived.Test.YtdakgnaojakldaaGreatDoorF44
import Derived.Test.YtdakgnaojakldaaGreatDoorF38
open Go.Proofs.Tryz
set_option maxRecDepth 100000
set_option maxHeartbeats 2000000
namespace Go.Proofs.YtdakgnaojakldaaGreatDoor
open Go.RowKit
def Ym(w:World)(ao:Option Addr)(n:Nat)(v:Nat->Int):Prop:=
 n=0\/∃b o,ao=some ⟨b,o,none⟩/\∀j,j<n->w.cell? ⟨b,o+j,none⟩=some (.int .i64 (v j))
theorem nJ{w a:World}{ao:Option Addr}{n:Nat}{v:Nat->Int}(h:Ym w ao n v)(hb:Below w.heap.size w a):Ym a ao n v:=by
 rcases h with h|⟨b,o,h1,h2⟩
 ·exact .inl h
 ·exact .inr ⟨b,o,h1,λj c=>zb hb (h2 j c)⟩
theorem DK(n:Nat)(ao:Option Addr)(cap g:Nat)(r:Array Value)(v:Nat->Int)(p:Nat->Bool)(w:World)(z:n<=1000000000000)(x:∀args w,(callFunc g args).run prog w = .ok (.enter g args) w)
  (t:Ym w ao n v)(u:yK g r (λj => .int .i64 (v j)) n p w) :
  Calls prog 347 #[.slice ao n cap,.func (.func g) #[] r] w λe l=>
   e = .returned (.tuple #[.int .i64 (((zn p n).getD 0:Nat):Int),.bool (zn p n).isSome])/\Below w.heap.size w l:=by
 generalize hF:zn p n=F;have m:=hid hF;clear hF;go_enter func347,ntmps347
 go_wp2
 go_loopw [10] (λi wr=>∃k:Nat,k<=n/\i = .int .i64 k/\(∀j,j<k->p j=false)/\Below w.heap.size w wr) (λi _=>n-(intOf i).toNat)
 case atStart=>exact⟨0,Nat.zero_le _,rfl,λj h=>by omega,Below.refl _ _⟩
 case round=>
  obtain⟨k,y,rfl,hb,c⟩:=hrel;have f:=hid hb;clear hb
  by_cases hlt:k<n
  ·rcases t with h0|⟨b,o,rfl,hcc⟩
   ·omega
   have q:=zb c (hcc k hlt);have a:=λW hb=>u W k hlt hb;simp only at a
   cases hpp:p k with
   | false=>
    rw[hpp] at a;have s:=hid hpp;clear hpp
    go_wp2_with (go_at_fn g;refine (a _ c).mono ?_;rintro e l ⟨rfl,d⟩)
    refine⟨⟨k+1,by omega,by go_num,λj h=>?_,c.trans (d.mono c.size)⟩,by simp[intOf];omega⟩
    by_cases hj:j=k
    ·subst hj;exact s.out
    ·exact f.out j (by omega)
   | true=>
    rw[hpp] at a;have e:=kW p n k hlt f.out hpp;rw[m.out] at e;subst e;clear hpp
    go_wp2_with (go_at_fn g;refine (a _ c).mono ?_;rintro e l ⟨rfl,d⟩)
    go_ret2;exact⟨rfl,c.trans (d.mono c.size)⟩
  ·have e:=kX p n (λj h=>f.out j (by omega));rw[m.out] at e;subst e
   go_wp2
   go_ret2;exact⟨rfl,c⟩
theorem sG(n:Nat)(ao:Option Addr)(cap g:Nat)(b:Array Value)(v:Nat->Int)(p:Nat->Bool)(w:World)(i:n<=1000000000000)(f:∀args w,(callFunc g args).run prog w = .ok (.enter g args) w)
  (h:Ym w ao n v)(k:yK g b (λj => .int .i64 (v j)) n p w) :
  Calls prog 342 #[.slice ao n cap,.func (.func g) #[] b] w λe d=>
   e = .returned (.bool (zn p n).isSome)/\Below w.heap.size w d:=by
 have c:=DK n ao cap g b v p w i f h k;generalize zn p n=F at c;go_enter func342,ntmps342
 go_wp2_with (go_at_call 347;refine c.mono ?_;rintro e d ⟨rfl,a⟩)
 go_ret;exact⟨rfl,a⟩
theorem Ff:(prog.info? 2).map (λi=>(i.zero,i.size,i.bytes))=some (some (.int .i64 0),1,8):=by kernel_rfl
def XJ(w:World)(base:Nat)(a:Value)(l:List Int):Prop:=w.ownsRow base 2 1 a l.length (l.map (Value.int .i64))
def pY(w:World)(outs:List Int)(e:Ending)(b:World):Prop:=∃a,e = .returned a/\XJ b w.heap.size a outs/\Below w.heap.size w b
theorem IV{w:World}{B:Nat}{a:Value}{l:List Int}{s:Int}(h:w.ownsRow B 2 1 a (l.length+1) (l.map (Value.int .i64)++[.int .i64 s])):XJ w B a (l++[s]):=by
 unfold XJ;rw[List.map_append,List.length_append];exact h
theorem NU{w:World}{base:Nat}{d:Value}{l:List Int}(h:XJ w base d l):∃a c,d = .slice a l.length c/\Ym w a l.length (λj=>l.getD j 0):=by
 rcases h.2 with ⟨rfl,h0⟩|⟨g,cap,cur,ev,_⟩
 ·exact⟨none,0,by rw[h0],.inl h0⟩
 ·refine⟨_,cap,ev,.inr ⟨g,0,rfl,λj b=>?_⟩⟩;rw[Nat.zero_add,World.ownsRow.cellAt (g:=g) (cap:=cap) (by rw[<- ev];exact h) j (by omega),List.getElem?_map,List.getElem?_eq_getElem b];simp[b]
theorem Im(b:List BA)(Z:Value)(g:Nat)(out:BA->Int)(w:World)(h:jE w Z b)(hn:b.length<=1000)(eg:∀args w,(callFunc g args).run prog w = .ok (.enter g args) w)
  (T:∀W s,s ∈ b->Below w.heap.size w W->Calls prog g #[.string s] W λe w'=>e = .returned (.int .i64 (out s))/\Below W.heap.size W w') :
  Calls prog 334 #[Z,.func (.func g) #[] #[]] w (pY w (b.map out)):=by
 obtain⟨Y,hi,G,H,I⟩:=info_parts Ff;obtain⟨a,c,rfl,p⟩:=h;obtain⟨n,l⟩:=Nm b.length
 have f:∀(k:Nat) (x:BA),b[k]?=some x->∃E o,a=some ⟨E,o,none⟩/\w.cell? ⟨E,o+k,none⟩=some (.string x):=by
  intro k x hx;obtain⟨m,rfl⟩:=List.getElem?_eq_some_iff.1 hx
  rcases p with e|⟨E,o,e,hc⟩
  ·rw[e] at m;simp at m
  ·exact⟨E,o,e,hc k m⟩
 rw[l];rw[l] at hn;have HC:=hid f;have HP:=hid T;have R:=hid l;clear f T l p;go_enter func334,ntmps334
 go_wp2_with (at_make;refine wpList_make_own _ rfl _ _ 450 rfl w.heap.size 2 Y (.int .i64 0) 1 underlying450 hi G H _ _ _ n rfl rfl rfl ?_ ?_ ?_ ?_)
 ·rw[I];omega
 ·unfold maxLen;omega
 ·omega
 intro w1 r d;have D:=hid r;have B:Hid (Below w.heap.size w w1):=(Below.refl _ w).grown d (Nat.le_refl _) (λk m=>by cases m);clear r d;go_wp2_with fail
 go_loopw [5,7,13] (λov _ Q wr=>∃(k:Nat),k<=n/\Q = .int .i64 k/\XJ wr w.heap.size ov ((b.take k).map out)/\Below w.heap.size w wr) (λ_ _ Q _=>n-(intOf Q).toNat)
 case atStart=>exact⟨0,Nat.zero_le _,rfl,D.out,B.out⟩
 case round=>
  obtain⟨k,m,rfl,A,hb⟩:=hrel;have J:=hid A;have z:=hid hb;clear A hb D B
  by_cases hlt:k<n
  ·have v:k<b.length:=by rw[R.out];exact hlt
   obtain⟨E,o,rfl,q⟩:=HC.out k _ (List.getElem?_eq_getElem v);have q2:=zb z.out q;have O:=HP.out wr b[k] (List.getElem_mem v) z.out;have y:Hid ((b.take (k+1)).map out=(b.take k).map out++[out b[k]]):=hid (by rw[List.take_add_one,List.getElem?_eq_getElem v,List.map_append];rfl);have F:((b.take k).map out).length=k:=by rw[List.length_map,List.length_take];omega
   obtain⟨s,U⟩:=Nm (b[k]);rw[U] at q2 O y;have CC:=hid O;obtain⟨L,S⟩:=Nm ((b.take k).map out);rw[S] at J y F;clear q O U S
   go_wp2_with (first
    | (go_at_fn g;refine CC.out.mono ?_;rintro e w2 ⟨rfl,t⟩;have C:=hid t;have X:=t.size;have a6:=z.out.size;clear t)
    | (at_builtin;refine wpList_append_own _ rfl _ _ 450 rfl w.heap.size 2 Y (.int .i64 0) 1 8 underlying450 hi G H I rfl (by decide) _ L.length (L.map (Value.int .i64)) rfl (World.ownsRow.alloc (ownsRow_below J.out C.out) _) ⟨w2.heap.size,0,none⟩ 1 1 [.int .i64 (out s)] rfl rfl ?_ ?_ ?_ ?_ ?_ ?_))
   ·exact iw _ _ _
   ·intro u V;simp at V;rcases V with rfl;rfl
   ·unfold maxLen;omega
   ·omega
   ·simp;omega
   ·intro v' w3 j i _;have N:Hid (XJ w3 w.heap.size v' ((b.take (k+1)).map out)):=by rw[y.out];exact IV (by rw[F];exact j)
    have K:Hid (Below w.heap.size w w3):=((z.out.trans (C.out.mono z.out.size)).alloc (by omega) _).grown i (by simp;omega) (λk m=>(World.ownsRow.lt J.out k m).1);clear j i
    go_wp2
    go_roundw
    case rel=>exact⟨k+1,by omega,by go_num,N.out,K.out⟩
    case measure=>simp[intOf];omega
  ·have P:k=n:=by omega
   subst P;have A:=J.out;rw[List.take_of_length_le (by rw[R.out];omega)] at A;have M:=hid A;clear A
   go_wp2
   go_ret;exact⟨_,rfl,M.out,z.out⟩
theorem rF(z n:Int)(B:Nat)(w:World)(b:w.cell? ⟨B,0,none⟩=some (.int .i64 n)) :
  Calls prog 343 #[.int .i64 z,.pointer (some ⟨B,0,none⟩)] w λe a=>e = .returned (.bool (decide (n<z)))/\Below w.heap.size w a:=by
 go_enter func343,ntmps343
 go_wp2
 go_ret;exact⟨rfl,Below.refl _ _⟩
theorem rG(l:List Int)(n:Int)(ao:Option Addr)(cap:Nat)(w:World)(h:l.length<=100000000000)(f:Ym w ao l.length (λj=>l.getD j 0)) :
  Calls prog 333 #[.slice ao l.length cap,.int .i64 n] w λe d=>e = .returned (.bool (l.any λz=>decide (n<z)))/\Below w.heap.size w d:=by
 have a:=nB w (.cells #[.int .i64 n] 2)
 have c:=sG l.length ao cap 343 #[.pointer (some ⟨w.heap.size,0,none⟩)] (λj=>l.getD j 0) (λj=>decide (n<l.getD j 0)) (w.alloc (.cells #[.int .i64 n] 2)) (by omega)
  (enters_of func343 (by kernel_rfl) rfl) (nJ f a)
  (λW j g hb=>rF (l.getD j 0) n w.heap.size W (zb hb (by simp)))
 rw[show (zn (λj=>decide (n<l.getD j 0)) l.length).isSome=l.any (λz=>decide (n<z)) from YF l 0 (λz=>decide (n<z))] at c
 generalize (l.any λz=>decide (n<z))=F at c;go_enter func333,ntmps333
 go_wp2_with (go_at_call 342;refine c.mono ?_;rintro e d ⟨rfl,b⟩)
 go_ret;exact⟨rfl,a.trans (b.mono (by simp))⟩
theorem YG{α:Type}(l:List α)(f g:α->Bool)(h:∀x ∈ l,f x=g x):l.any f=l.any g:=by
 rw[Bool.eq_iff_iff,List.any_eq_true,List.any_eq_true]
 constructor
 ·rintro ⟨x,a,b⟩;exact⟨x,a,by rw[<- h x a];exact b⟩
 ·rintro ⟨x,a,b⟩;exact⟨x,a,by rw[h x a];exact b⟩
theorem ww(x:BA)(vals:List BA)(c:Ref.qF x=true)(b:∀v ∈ vals,Ref.qF v=true):((vals.map De.Zd).any λz=>decide (De.Zd x<z))=vals.any λv=>De.QS x v:=by
 rw[List.any_map];exact YG _ _ _ λv a=>(De.Pn c (b v a)).symm
theorem Fq(S:Option BA)(vals:List BA)(H:Value)(B:Nat)(w:World)(q:∀v ∈ vals,Ref.qF v=true)(hn:vals.length<=1000)(t:jE w H vals) :
  Calls prog 325 #[ul S B,H] w λe r=>e = .returned (.bool (jR S λx=>Ref.qF x&&vals.any λv=>De.QS x v))/\Below w.heap.size w r:=by
 have I:=λO:Obj=>nB w O;unfold ul xq
 cases S with
 | none=>
  simp only[jR,Option.getD_none,Option.isSome_none];clear t q;go_enter func325,ntmps325;go_wp2_with fail
  go_quiet (fail)
  go_wp2_with fail;go_ret;exact⟨rfl,below_drewN (I _) _⟩
 | some x=>
  simp only[jR,Option.getD_some,Option.isSome_some];have p:=λW=>gI x W;obtain⟨g,h⟩:∃W,w.alloc (.cells #[.string x,.bool true,.func (.func 215) #[] #[.pointer (some ⟨B,0,none⟩)]] 408)=W:=⟨_,rfl⟩;have s:Hid (Below w.heap.size w g):=hid (by rw[<- h];exact I _);have D:g.cell? ⟨w.heap.size,0,none⟩=some (.string x):=by rw[<- h];simp
  have E:g.cell? ⟨w.heap.size,1,none⟩=some (.bool true):=by rw[<- h];simp
  have n:=hid h
  cases hx:Ref.qF x with
  | false=>
   rw[Bool.false_and];simp only[hx] at p;clear t q h;go_enter func325,ntmps325
   go_upto_region 1 with fail
   rw[n.out];have J:∀X:Grown g,X.w.cell? ⟨w.heap.size,0,none⟩=some (.string x):=λX=>zb X.b D;have f1:∀X:Grown g,X.w.cell? ⟨w.heap.size,1,none⟩=some (.bool true):=λX=>zb X.b E
   have R:Hid (∀(X:Grown g),Calls prog 332 #[.string x] X.w λe k=>e = .returned (.bool false)/\∃Y:Grown g,k=Y.w):=
    hid λX=>(p X.w).mono λe k ⟨he,hb⟩=>⟨he,⟨k,X.b.trans (hb.mono X.b.size)⟩,rfl⟩
   have NE:Nonempty (Grown g):=⟨⟨g,Below.refl _ _⟩⟩;clear p D E;refine wp_region_quiet (C:=λU=>∃X:Grown g,U=X.w) (by kernel_rfl) (by kernel_rfl) ⟨⟨_,(Below.refl _ g).drew⟩,rfl⟩ ?_;simp only
   repeat (go_big_quiet_step (first|exact R.out _))
   refine wpQuiet_nil ?_;intro r G;obtain⟨X,rfl⟩:=G;go_wp2_with fail;go_ret;exact⟨rfl,s.out.trans (X.b.mono s.out.size)⟩
  | true=>
   rw[Bool.true_and,<- ww x vals hx q];simp only[hx] at p;have Z:=λW=>lq x W hx;have A:=λ(W:World) (hb:Below w.heap.size w W)=>Im vals H 335 De.Zd W (Qp t hb) hn (enters_of func335 (by kernel_rfl) rfl) (λV v F _=>lq v V (q v F));have z:=λ(W:World) (ao:Option Addr) (cap:Nat) f=>rG (vals.map De.Zd) (De.Zd x) ao cap W (by rw[List.length_map];omega) f;obtain⟨a,c,rfl,_⟩:=t;generalize hL:vals.map De.Zd=L at A z;have Q:=hid A;have P:=hid z;clear q h hL A z hx;go_enter func325,ntmps325
   go_upto_region 1 with fail
   rw[n.out]
   go_region_held3 (λr=>r.cell? ⟨w.heap.size,0,none⟩=some (.string x)/\r.cell? ⟨w.heap.size,1,none⟩=some (.bool true)) (go_keep) (first
    | ((go_at_call 335);refine (Z M).mono ?_;rintro e N ⟨rfl,o⟩;have i0:=zb o h0;have i1:=zb o h1;have y:=hid (nJ T.out o);have m:Hid (Below w.heap.size w N):=l.out.trans (o.mono l.out.size);clear o)
    | ((go_at_call 334);refine (Q.out K j.out).mono ?_;rintro e M ⟨mv,rfl,i,d⟩;obtain⟨ma,mc,rfl,f⟩:=NU i;have T:=hid f;have h0:=zb d J;have h1:=zb d f1;have l:Hid (Below w.heap.size w M):=j.out.trans (d.mono j.out.size);clear d i f)
    | ((go_at_call 332);refine (p g.drew).mono ?_;rintro e K ⟨rfl,d⟩;have J:=zb d D;have f1:=zb d E;have j:Hid (Below w.heap.size w K):=s.out.trans (((Below.refl _ g).drew.trans d).mono s.out.size);clear d)
    | ((go_at_call 333);refine (P.out N ma mc y.out).mono ?_;rintro e w4 ⟨rfl,d⟩;have k0:=zb d i0;have k1:=zb d i1;have u:Hid (Below w.heap.size w w4):=m.out.trans (d.mono m.out.size);clear d))
   all_goals
    go_wp2_with fail;go_ret;exact⟨rfl,u.out⟩
namespace De
def Xm(c:zW)(r:Ref.Req):Bool:=((Ref.qZ c.op&&(Ref.says r c.key).isNone)||Xa c.op c.vals r (Ref.says r c.key)) != c.no
def JD(s:zA)(r:Ref.Req):Bool:=QW s.who r.who r&&QW s.act r.act r&&QW s.on r.on r&&s.ifs.all λc=>Xm c r
def yO(eff:BA)(r:Ref.Req)(s:zA):Bool:=(s.eff.toList==eff.toList)&&JD s r
def kU(eff:BA)(r:Ref.Req)(a:List zA):Option Nat:=a.findIdx? (yO eff r)
def jo(eff:BA)(r:Ref.Req):List zk->Option (BA×Nat)
 | []=>none
 | x::L=>match kU eff r x.2 with
  | some k=>some (x.1,k+1)
  | none=>jo eff r L
def xK(a:Nat->List zk)(eff:BA)(r:Ref.Req):List Nat->Option (Nat×BA×Nat)
 | []=>none
 | i::is=>match jo eff r (a i) with
  | some (n,k)=>some (i,n,k)
  | none=>xK a eff r is
def yh:BA:=⟨#[97,108,108,111,119]⟩
def yj:BA:=⟨#[100,101,110,121]⟩
structure Dec where
 verdict:Nat
 layer:Nat
 doc:BA
 stmt:Nat
def silent:Dec:=⟨3,0,⟨#[]⟩,0⟩
def Lf:Dec:=⟨0,0,⟨#[]⟩,0⟩
def jq(a:Nat->List zk)(r:Ref.Req)(i:Nat):Bool:=(a i).isEmpty||(jo yh r (a i)).isSome
def Xg(a:Nat->List zk)(r:Ref.Req):Dec:=match xK a yj r [0,1,2,3] with
 | some (i,n,k)=>⟨2,i,n,k⟩
 | none=>if (jq a r 0&&jq a r 1)=false then silent else match xK a yh r [2,3] with
  | some (i,n,k)=>⟨1,i,n,k⟩
  | none=>silent
def kG(a:Nat->List zk)(r:Ref.Req):Dec×Int:=if Ref.xP r then (Xg a r,0) else (Lf,11)
end De
def kF(w:World)(v:Value)(cs:List zW):Prop:=
 ∃a cap,v = .slice a cs.length cap/\(cs=[]\/∃b o,a=some ⟨b,o,none⟩/\∀j,(h:j<cs.length)->∃c,w.cell? ⟨b,o+j*4,none⟩=some (.string cs[j].op)/\w.cell? ⟨b,o+j*4+1,none⟩=some (.string cs[j].key)/\w.cell? ⟨b,o+j*4+2,none⟩=some c/\w.cell? ⟨b,o+j*4+3,none⟩=some (.bool cs[j].no)/\jE w c cs[j].vals)
theorem kF.below{w c:World}{v:Value}{cs:List zW}(h:kF w v cs)(hb:Below w.heap.size w c):kF c v cs:=by
 obtain⟨a,cap,e,h⟩:=h;refine⟨a,cap,e,?_⟩
 rcases h with h|⟨b,o,ha,hc⟩
 ·exact .inl h
 ·refine .inr ⟨b,o,ha,λj l=>?_⟩;obtain⟨m,d,f,g,i,k⟩:=hc j l;exact⟨m,zb hb d,zb hb f,zb hb g,zb hb i,Qp k hb⟩
structure QT (w:World) (l1 l2 l3 lc:Value) (s:zA):Prop where
 who:jE w l1 s.who.2
 act:jE w l2 s.act.2
 on:jE w l3 s.on.2
 ifs:kF w lc s.ifs
theorem QT.below{w e:World}{a b c d:Value}{s:zA}(h:QT w a b c d s)(hb:Below w.heap.size w e):QT e a b c d s:=
 ⟨Qp h.who hb,Qp h.act hb,Qp h.on hb,h.ifs.below hb⟩
def QU(w:World)(v:Value)(c:List zA):Prop:=
 ∃a cap,v = .slice a c.length cap/\(c=[]\/∃b o,a=some ⟨b,o,none⟩/\∀j,(h:j<c.length)->∃d e f g,w.cell? ⟨b,o+j*8,none⟩=some (.string c[j].eff)/\w.cell? ⟨b,o+j*8+1,none⟩=some (.bool c[j].who.1)/\w.cell? ⟨b,o+j*8+2,none⟩=some d/\w.cell? ⟨b,o+j*8+3,none⟩=some (.bool c[j].act.1)/\w.cell? ⟨b,o+j*8+4,none⟩=some e/\w.cell? ⟨b,o+j*8+5,none⟩=some (.bool c[j].on.1)/\w.cell? ⟨b,o+j*8+6,none⟩=some f/\w.cell? ⟨b,o+j*8+7,none⟩=some g/\QT w d e f g c[j])
theorem QU.below{w d:World}{v:Value}{c:List zA}(h:QU w v c)(hb:Below w.heap.size w d):QU d v c:=by
 obtain⟨a,cap,e,h⟩:=h;refine⟨a,cap,e,?_⟩
 rcases h with h|⟨b,o,ha,hc⟩
 ·exact .inl h
 ·refine .inr ⟨b,o,ha,λj r=>?_⟩;obtain⟨s,t,u,x,f,g,i,k,l,m,n,p,q⟩:=hc j r;exact⟨s,t,u,x,zb hb f,zb hb g,zb hb i,zb hb k,zb hb l,zb hb m,zb hb n,zb hb p,q.below hb⟩
theorem nK{w:World}{base n a:Nat}{e:TypeId}{v:Value}{xs:List Value}(h:w.ownsRow base e a v n xs):(n=0/\v = .slice none 0 0)\/∃g cap,v = .slice (some ⟨g,0,none⟩) n cap/\∀i,i<xs.length->w.cell? ⟨g,i,none⟩=xs[i]?:=by
 rcases h.2 with ⟨e0,h0⟩|⟨g,cap,cur,ev,_⟩
 ·exact .inl ⟨h0,e0⟩
 ·exact .inr ⟨g,cap,ev,λi hi=>World.ownsRow.cellAt (g:=g) (cap:=cap) (by rw[<- ev];exact h) i (by rw[<- h.1];exact hi)⟩
theorem Ao{w:World}{base:Nat}{e:TypeId}{v:Value}{xs:List Value}{cs:List zW}(h:w.ownsRow base e 4 v cs.length xs)
  (l:∀j,(c:j<cs.length)->∃a,xs[j*4]?=some (.string cs[j].op)/\xs[j*4+1]?=some (.string cs[j].key)/\xs[j*4+2]?=some a/\xs[j*4+3]?=some (.bool cs[j].no)/\jE w a cs[j].vals):kF w v cs:=by
 have m:xs.length=cs.length*4:=h.1
 rcases nK h with ⟨b,rfl⟩|⟨g,cap,rfl,hcell⟩
 ·have:cs=[]:=List.length_eq_zero_iff.1 b
  subst this;exact⟨none,0,rfl,.inl rfl⟩
 ·refine⟨_,cap,rfl,.inr ⟨g,0,rfl,λj c=>?_⟩⟩;obtain⟨a,b,d,f,i,k⟩:=l j c;rw[Nat.zero_add];exact⟨a,(hcell _ (by omega)).trans b,(hcell _ (by omega)).trans d,(hcell _ (by omega)).trans f,(hcell _ (by omega)).trans i,k⟩
theorem PU{w:World}{base:Nat}{e:TypeId}{v:Value}{xs:List Value}{a:List zA}(h:w.ownsRow base e 8 v a.length xs)
  (t:∀j,(k:j<a.length)->∃b c d f,xs[j*8]?=some (.string a[j].eff)/\xs[j*8+1]?=some (.bool a[j].who.1)/\xs[j*8+2]?=some b/\xs[j*8+3]?=some (.bool a[j].act.1)/\xs[j*8+4]?=some c/\xs[j*8+5]?=some (.bool a[j].on.1)/\xs[j*8+6]?=some d/\xs[j*8+7]?=some f/\QT w b c d f a[j]):QU w v a:=by
 have u:xs.length=a.length*8:=h.1
 rcases nK h with ⟨i,rfl⟩|⟨g,cap,rfl,hcell⟩
 ·have:a=[]:=List.length_eq_zero_iff.1 i
  subst this;exact⟨none,0,rfl,.inl rfl⟩
 ·refine⟨_,cap,rfl,.inr ⟨g,0,rfl,λj k=>?_⟩⟩;obtain⟨b,c,d,f,i,l,m,n,o,p,q,r,s⟩:=t j k;rw[Nat.zero_add];exact⟨b,c,d,f,(hcell _ (by omega)).trans i,(hcell _ (by omega)).trans l,(hcell _ (by omega)).trans m,(hcell _ (by omega)).trans n,(hcell _ (by omega)).trans o,(hcell _ (by omega)).trans p,(hcell _ (by omega)).trans q,(hcell _ (by omega)).trans r,s⟩
theorem Ap{w:World}{base:Nat}{v:Value}{cs:List zW}(h:qJ w base v cs):kF w v cs:=by
 obtain⟨xs,f,g⟩:=h;refine Ao f λj i=>?_;obtain⟨k,a,b,c,d,e⟩:=g j i;exact⟨k,a,b,c,d,VM rfl e⟩
theorem PV{w:World}{base:Nat}{v:Value}{c:List zA}(h:yJ w base v c):QU w v c:=by
 obtain⟨xs,a,b⟩:=h;refine PU a λj p=>?_;obtain⟨q,r,s,t,i,a,b,k,l,m,n,o,d,e,f,g⟩:=b j p;exact⟨q,r,s,t,i,a,b,k,l,m,n,o,⟨VM rfl d,VM rfl e,VM rfl f,Ap g⟩⟩
theorem oG{M:Nat->Prop}{w:World}{v:Value}{a:List zA}(h:xQ M w v a):QU w v a:=by
 obtain⟨base,h⟩:=h.at;exact PV h
theorem Jm{w:World}{v:Value}{l:List BA}(h:jE w v l):∃a c,v = .slice a l.length c/\jE w (.slice a l.length c) l:=by
 obtain⟨a,c,rfl,h⟩:=h;exact⟨a,c,rfl,a,c,rfl,h⟩
theorem Aq{w:World}{v:Value}{l:List zW}(h:kF w v l):∃a c,v = .slice a l.length c/\kF w (.slice a l.length c) l:=by
 obtain⟨a,c,rfl,h⟩:=h;exact⟨a,c,rfl,a,c,rfl,h⟩
def QX(op:BA)(vals:List BA)(r:Ref.Req)(S:Option BA):Bool:=(Ref.qZ op&&S.isNone)||De.Xa op vals r S
theorem Y8{op:BA}{l:List UInt8}(h:op.toList=l):yH op=zn (λk=>(opN k).toList==l) 5:=by
 unfold yH;rw[h]
theorem Y9(k:Nat):(opN k).toList=(opN k).data.toList:=ByteArray.toList_eq _
theorem EY:zn (λk=>(opN k).toList==[108,105,107,101]) 5=some 0:=by simp only[Y9];decide
theorem EZ:zn (λk=>(opN k).toList==[115,97,109,101]) 5=some 1:=by simp only[Y9];decide
theorem EX:zn (λk=>(opN k).toList==[98,101,108,111,119]) 5=some 2:=by simp only[Y9];decide
theorem Fa:zn (λk=>(opN k).toList==[117,110,100,101,114]) 5=some 3:=by simp only[Y9];decide
theorem EW:zn (λk=>(opN k).toList==[97,98,115,101,110,116]) 5=some 4:=by simp only[Y9];decide
theorem Md(k:Nat)(a:k<5):∀args w,(callFunc (opT k) args).run prog w = .ok (.enter (opT k) args) w:=by
 rcases lt5 a with rfl|rfl|rfl|rfl|rfl
 ·exact enters_of func321 (by kernel_rfl) rfl
 ·exact enters_of func323 (by kernel_rfl) rfl
 ·exact enters_of func325 (by kernel_rfl) rfl
 ·exact enters_of func327 (by kernel_rfl) rfl
 ·exact enters_of func329 (by kernel_rfl) rfl
theorem Sc(c:zW)(o:Value)(S:Option BA)(r:Ref.Req)(ao:Option Addr)(cap B:Nat)(w:World)(m:jE w o c.vals)(y:XB c)(p:c.vals.length<=1000)(q:∀v ∈ c.vals,v.size<=100000)(z:∀x,S=some x->x.size<=100/\(Ref.chars x).isSome=true)(u:vP w r ao cap B)(t:qP w) :
  ∃k,k<5/\yH c.op=some k/\Calls prog (opT k) #[ul S B,o] w λe A=>e = .returned (.bool (QX c.op c.vals r S))/\Below w.heap.size w A:=by
 obtain⟨op,key,vals,no⟩:=c;simp only at m p q |-
 rcases y with ⟨ha,n⟩|⟨ha,hfit,hlike⟩
 ·simp only at ha n;subst n;have b:op.toList=[97,98,115,101,110,116]:=eq_of_beq ha;refine⟨4,by omega,(Y8 b).trans EW,?_⟩
  have e:QX op [] r S=S.isNone:=by
   unfold QX;rw[ha]
   cases S<;>rfl
  rw[e];exact Fp S o B w
 ·simp only at ha hfit hlike;obtain⟨a,c,rfl,d⟩:=m;have m:jE w (.slice a vals.length c) vals:=⟨a,c,rfl,d⟩;have i:vJ w a vals:=d;have s:QX op vals r S=De.Xa op vals r S:=by unfold QX;rw[ha];rfl
  rw[s];unfold Ref.Qe at hfit;rw[Bool.and_eq_true] at hfit;obtain⟨j,f⟩:=hfit;unfold Ref.jQ at f;simp only[Bool.or_eq_true] at f
  rcases f with ((h|h)|h)|h
  ·have b:=eq_of_beq h;refine⟨1,by omega,(Y8 b).trans EZ,?_⟩
   have e:De.Xa op vals r S=(jR S λx=>vals.any λv=>x.toList==v.toList):=by
    cases S with
    | none=>rfl
    | some x=>
     refine YG _ _ _ λv _=>?_;unfold De.Xr Ref.qE De.xL;rw[b]
     rfl
   rw[e];exact FD S vals a c B w (by omega) i
  ·have b:=eq_of_beq h;refine⟨3,by omega,(Y8 b).trans Fa,?_⟩
   have e:De.Xa op vals r S=(jR S λx=>vals.any λv=>De.Zj x v):=by
    cases S with
    | none=>rfl
    | some x=>
     refine YG _ _ _ λv _=>?_;unfold De.Xr Ref.qE De.xL De.yD;rw[b]
     rfl
   rw[e];exact FH S vals a c B w (by omega) q i
  ·have b:=eq_of_beq h;refine⟨2,by omega,(Y8 b).trans EX,?_⟩
   have l:∀v ∈ vals,Ref.qF v=true:=λv n=>by
    have:=List.all_eq_true.1 j v n
    unfold Ref.ZN at this;rw[b] at this
    simpa using this
   have e:De.Xa op vals r S=(jR S λx=>Ref.qF x&&vals.any λv=>De.QS x v):=by
    cases S with
    | none=>rfl
    | some x=>
     have g:(vals.any λv=>De.Xr op x v r)=vals.any λv=>(Ref.qF x&&De.QS x v):=by
      refine YG _ _ _ λv _=>?_;unfold De.Xr Ref.qE De.xL De.yD;rw[b]
      rfl
     show (vals.any λv=>De.Xr op x v r)=(Ref.qF x&&vals.any λv=>De.QS x v);rw[g]
     cases Ref.qF x with
     | true=>rfl
     | false=>simp
   rw[e];exact Fq S vals _ B w l p m
  ·have b:=eq_of_beq h;refine⟨0,by omega,(Y8 b).trans EY,?_⟩
   have e:De.Xa op vals r S=(jR S λx=>vals.any λv=>Ref.jr v x r):=by
    cases S with
    | none=>rfl
    | some x=>
     refine YG _ _ _ λv _=>?_;unfold De.Xr Ref.qE;rw[b]
     rfl
   rw[e];exact Fy S vals r ao a cap c B w z (hlike h) (by omega) i u t
theorem EU(c:zW)(J:Value)(r:Ref.Req)(ao:Option Addr)(cap B:Nat)(w:World)(hm:jE w J c.vals)(hf:XB c)(hn:c.vals.length<=1000)(hz:∀v ∈ c.vals,v.size<=100000)(I:vP w r ao cap B)(O:qP w) :
  Calls prog 248 #[.agg #[.string c.op,.string c.key,J,.bool c.no],xq B] w λe t=>e = .returned (.bool (De.Xm c r))/\Below w.heap.size w t:=by
 have P:=λ(W:World) (hb:Below w.heap.size w W)=>Sc c J (Ref.says r c.key) r ao cap B W (Qp hm hb) hf hn hz (nQ I.ok c.key) (I.below hb) (O.below hb);obtain⟨k,hk,i,_⟩:=P w (Below.refl _ _)
 have b:∀(W:World),Below w.heap.size w W->Calls prog (opT k) #[ul (Ref.says r c.key) B,J] W λe t=>e = .returned (.bool (QX c.op c.vals r (Ref.says r c.key)))/\Below W.heap.size W t:=by
  intro W hb;obtain⟨k',_,H,h3⟩:=P W hb;rw[i] at H;injection H with H
  rw[H];exact h3
 have h:De.Xm c r=(QX c.op c.vals r (Ref.says r c.key) != c.no):=rfl;rw[h];have o:=λ(W:World) (hb:Below w.heap.size w W)=>KF c.op W (O.below hb).ops;have A:=λ(W:World) (hb:Below w.heap.size w W)=>I.call W c.key hb;rw[i] at o;have eg:=Md k hk;have es:=nP;obtain⟨a,Q,rfl,_⟩:=hm;obtain⟨op,key,vals,no⟩:=c;simp only at b o A |-;obtain⟨S,p⟩:=Nm (Ref.says r key);simp only[p] at b A;rw[p];obtain⟨T,q⟩:=Nm (QX op vals r S);simp only[q] at b;rw[q];unfold ul xq at b;unfold opV at o;unfold xq;simp only[Option.isSome_some] at o;obtain⟨G,s⟩:∃g,opT k=g:=⟨_,rfl⟩;obtain⟨fl,E⟩:∃g,opL k=g:=⟨_,rfl⟩;obtain⟨ON,C⟩:∃g,opN k=g:=⟨_,rfl⟩;rw[s] at b eg;simp only[s,E,C] at o;obtain⟨X,Z⟩:=Nm (S.getD ⟨#[]⟩);obtain⟨TH,D⟩:∃X,S.isSome=X:=⟨_,rfl⟩;simp only[Z,D] at b A;have HT:=hid b;have CO:=hid o;have CS:=hid A;obtain⟨x,f⟩:∃W,w.alloc (.cells #[.string op,.string key,.slice a vals.length Q,.bool no] 241)=W:=⟨_,rfl⟩;have L:Hid (Below w.heap.size w x):=hid (by rw[<- f];exact nB w _);have R:x.cell? ⟨w.heap.size,0,none⟩=some (.string op):=by rw[<- f];simp
 have U:x.cell? ⟨w.heap.size,1,none⟩=some (.string key):=by rw[<- f];simp
 have V:x.cell? ⟨w.heap.size,2,none⟩=some (.slice a vals.length Q):=by rw[<- f];simp
 have Y:x.cell? ⟨w.heap.size,3,none⟩=some (.bool no):=by rw[<- f];simp
 have N:=hid f;have sf:=λW a g m=>run_store prog W a (.func (.func g) #[] #[]) m rfl;clear P b o A p q s E C Z D f i h hf hn hz I O hk;go_enter func248,ntmps248
 go_upto_region 1 with fail
 rw[N.out]
 go_upto_region 2 with (go_at_call 232;refine (CO.out x L.out).mono ?_;rintro e u ⟨rfl,d⟩;have k0:=zb d R;have k1:=zb d U;have k2:=zb d V;have k3:=zb d Y;have j:Hid (Below w.heap.size w u):=L.out.trans (d.mono L.out.size);clear d)
 obtain⟨K,hw2⟩:∃W,u.alloc (.cells #[.string ON,.func (.func fl) #[] #[],.func (.func G) #[] #[]] 342)=W:=⟨_,rfl⟩;have f2:K.cell? ⟨u.heap.size,2,none⟩=some (.func (.func G) #[] #[]):=by rw[<- hw2];simp
 have z:Below u.heap.size u K:=by rw[<- hw2];exact nB u _
 have j1:=zb z k1;have j2:=zb z k2;have j3:=zb z k3;have l:Hid (Below w.heap.size w K):=hid (j.out.trans (z.mono j.out.size));rw[hw2];clear hw2 z k0 k1 k2 k3 j R U V Y
 go_upto_region 3 with (go_at_fn 215;refine (CS.out K l.out).mono ?_;rintro e F ⟨rfl,d⟩;have f3:=zb d f2;have l2:=zb d j2;have l3:=zb d j3;have n:Hid (Below w.heap.size w F):=l.out.trans (d.mono l.out.size);clear d)
 go_region_held3 (λt=>t.cell? ⟨u.heap.size,2,none⟩=some (.func (.func G) #[] #[])/\t.cell? ⟨w.heap.size,2,none⟩=some (.slice a vals.length Q)/\t.cell? ⟨w.heap.size,3,none⟩=some (.bool no)) (go_keep) (first
  | ((go_at_fn G);refine (HT.out F.drew n.out.drew).mono ?_;rintro e w4 ⟨rfl,d⟩;have y:Below F.heap.size F w4:=(Below.refl _ F).drew.trans d;have f4:=zb y f3;have m2:=zb y l2;have m3:=zb y l3;have M:Hid (Below w.heap.size w w4):=n.out.trans (y.mono n.out.size);clear d y))
 all_goals
  go_wp2_with fail;go_ret;exact⟨rfl,M.out⟩
end Go.Proofs.YtdakgnaojakldaaGreatDoor
