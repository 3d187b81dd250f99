/- P -/
import Derived.Test.YtdakgnaojakldaaGreatDoorG46
import Derived.Test.YtdakgnaojakldaaGreatDoorG41
open Go.Proofs.Tryz
set_option maxRecDepth 100000
set_option maxHeartbeats 2000000
namespace Go.Proofs.YtdakgnaojakldaaGreatDoor
open Go.RowKit
def YA(w:World)(ao:Option Addr)(n:Nat)(v:Nat->Int):Prop:=
 n=0\/∃b o,ao=some ⟨b,o,none⟩/\∀j,j<n->w.cell? ⟨b,o+j,none⟩=some (.int .i64 (v j))
theorem oL{w a:World}{ao:Option Addr}{n:Nat}{v:Nat->Int}(h:YA w ao n v)(hb:Below w.heap.size w a):YA a ao n v:=by
 rcases h with h|⟨b,o,h1,h2⟩
 ·exact .inl h
 ·exact .inr ⟨b,o,h1,λj c=>zb hb (h2 j c)⟩
theorem EH(n:Nat)(ao:Option Addr)(cap g:Nat)(r:Array Value)(v:Nat->Int)(p:Nat->Bool)(w:World)(z:n<=1000000000000)(x:∀args w,(callFunc g args).run prog w = .ok (.enter g args) w)
  (t:YA w ao n v)(u:yT g r (λj => .int .i64 (v j)) n p w) :
  Calls prog 347 #[.slice ao n cap,.func (.func g) #[] r] w λe l=>
   e = .returned (.tuple #[.int .i64 (((zn p n).getD 0:Nat):Int),.bool (zn p n).isSome])/\Below w.heap.size w l:=by
 generalize hF:zn p n=F;have m:=hid hF;clear hF;go_enter func347,ntmps347
 go_wp2
 go_loopw [10] (λi wr=>∃k:Nat,k<=n/\i = .int .i64 k/\(∀j,j<k->p j=false)/\Below w.heap.size w wr) (λi _=>n-(intOf i).toNat)
 case atStart=>exact⟨0,Nat.zero_le _,rfl,λj h=>by omega,Below.refl _ _⟩
 case round=>
  obtain⟨k,y,rfl,hb,c⟩:=hrel;have f:=hid hb;clear hb
  by_cases hlt:k<n
  ·rcases t with h0|⟨b,o,rfl,hcc⟩
   ·omega
   have q:=zb c (hcc k hlt);have a:=λW hb=>u W k hlt hb;simp only at a
   cases hpp:p k with
   | false=>
    rw[hpp] at a;have s:=hid hpp;clear hpp
    go_wp2_with (go_at_fn g;refine (a _ c).mono ?_;rintro e l ⟨rfl,d⟩)
    refine⟨⟨k+1,by omega,by go_num,λj h=>?_,c.trans (d.mono c.size)⟩,by simp[intOf];omega⟩
    by_cases hj:j=k
    ·subst hj;exact s.out
    ·exact f.out j (by omega)
   | true=>
    rw[hpp] at a;have e:=kS p n k hlt f.out hpp;rw[m.out] at e;subst e;clear hpp
    go_wp2_with (go_at_fn g;refine (a _ c).mono ?_;rintro e l ⟨rfl,d⟩)
    go_ret2;exact⟨rfl,c.trans (d.mono c.size)⟩
  ·have e:=kU p n (λj h=>f.out j (by omega));rw[m.out] at e;subst e
   go_wp2
   go_ret2;exact⟨rfl,c⟩
theorem wG(n:Nat)(ao:Option Addr)(cap g:Nat)(b:Array Value)(v:Nat->Int)(p:Nat->Bool)(w:World)(i:n<=1000000000000)(f:∀args w,(callFunc g args).run prog w = .ok (.enter g args) w)
  (h:YA w ao n v)(k:yT g b (λj => .int .i64 (v j)) n p w) :
  Calls prog 342 #[.slice ao n cap,.func (.func g) #[] b] w λe d=>
   e = .returned (.bool (zn p n).isSome)/\Below w.heap.size w d:=by
 have c:=EH n ao cap g b v p w i f h k;generalize zn p n=F at c;go_enter func342,ntmps342
 go_wp2_with (go_at_call 347;refine c.mono ?_;rintro e d ⟨rfl,a⟩)
 go_ret;exact⟨rfl,a⟩
theorem Gj:(prog.info? 2).map (λi=>(i.zero,i.size,i.bytes))=some (some (.int .i64 0),1,8):=by kernel_rfl
def XP(w:World)(base:Nat)(lv:Value)(l:List Int):Prop:=w.ownsRow base 2 1 lv l.length (l.map (Value.int .i64))
def sQ(w:World)(outs:List Int)(e:Ending)(a:World):Prop:=∃lv,e = .returned lv/\XP a w.heap.size lv outs/\Below w.heap.size w a
theorem Mc{w:World}{B:Nat}{a:Value}{l:List Int}{s:Int}(h:w.ownsRow B 2 1 a (l.length+1) (l.map (Value.int .i64)++[.int .i64 s])):XP w B a (l++[s]):=by
 unfold XP;rw[List.map_append,List.length_append];exact h
theorem Pf{w:World}{base:Nat}{lv:Value}{l:List Int}(h:XP w base lv l):∃a c,lv = .slice a l.length c/\YA w a l.length (λj=>l.getD j 0):=by
 rcases h.2 with ⟨rfl,h0⟩|⟨g,cap,cur,ev,_⟩
 ·exact⟨none,0,by rw[h0],.inl h0⟩
 ·refine⟨_,cap,ev,.inr ⟨g,0,rfl,λj b=>?_⟩⟩;rw[Nat.zero_add,World.ownsRow.cellAt (g:=g) (cap:=cap) (by rw[<- ev];exact h) j (by omega),List.getElem?_map,List.getElem?_eq_getElem b];simp[b]
theorem Lp(b:List BA)(lv:Value)(g:Nat)(out:BA->Int)(w:World)(h:jH w lv b)(hn:b.length<=1000)(eg:∀args w,(callFunc g args).run prog w = .ok (.enter g args) w)
  (T:∀W s,s ∈ b->Below w.heap.size w W->Calls prog g #[.string s] W λe w'=>e = .returned (.int .i64 (out s))/\Below W.heap.size W w') :
  Calls prog 334 #[lv,.func (.func g) #[] #[]] w (sQ w (b.map out)):=by
 obtain⟨Y,hi,G,H,I⟩:=info_parts Gj;obtain⟨a,c,rfl,p⟩:=h;obtain⟨n,l⟩:=Nm b.length
 have f:∀(k:Nat) (x:BA),b[k]?=some x->∃E o,a=some ⟨E,o,none⟩/\w.cell? ⟨E,o+k,none⟩=some (.string x):=by
  intro k x hx;obtain⟨m,rfl⟩:=List.getElem?_eq_some_iff.1 hx
  rcases p with e|⟨E,o,e,hc⟩
  ·rw[e] at m;simp at m
  ·exact⟨E,o,e,hc k m⟩
 rw[l];rw[l] at hn;have HC:=hid f;have HP:=hid T;have R:=hid l;clear f T l p;go_enter func334,ntmps334
 go_wp2_with (at_make;refine wpList_make_own _ rfl _ _ 450 rfl w.heap.size 2 Y (.int .i64 0) 1 underlying450 hi G H _ _ _ n rfl rfl rfl ?_ ?_ ?_ ?_)
 ·rw[I];omega
 ·unfold maxLen;omega
 ·omega
 intro w1 r d;have D:=hid r;have B:Hid (Below w.heap.size w w1):=(Below.refl _ w).grown d (Nat.le_refl _) (λk m=>by cases m);clear r d;go_wp2_with fail
 go_loopw [5,7,13] (λov _ Q wr=>∃(k:Nat),k<=n/\Q = .int .i64 k/\XP wr w.heap.size ov ((b.take k).map out)/\Below w.heap.size w wr) (λ_ _ Q _=>n-(intOf Q).toNat)
 case atStart=>exact⟨0,Nat.zero_le _,rfl,D.out,B.out⟩
 case round=>
  obtain⟨k,m,rfl,A,hb⟩:=hrel;have J:=hid A;have z:=hid hb;clear A hb D B
  by_cases hlt:k<n
  ·have v:k<b.length:=by rw[R.out];exact hlt
   obtain⟨E,o,rfl,q⟩:=HC.out k _ (List.getElem?_eq_getElem v);have q2:=zb z.out q;have O:=HP.out wr b[k] (List.getElem_mem v) z.out;have y:Hid ((b.take (k+1)).map out=(b.take k).map out++[out b[k]]):=hid (by rw[List.take_add_one,List.getElem?_eq_getElem v,List.map_append];rfl);have F:((b.take k).map out).length=k:=by rw[List.length_map,List.length_take];omega
   obtain⟨s,U⟩:=Nm (b[k]);rw[U] at q2 O y;have CC:=hid O;obtain⟨L,S⟩:=Nm ((b.take k).map out);rw[S] at J y F;clear q O U S
   go_wp2_with (first
    | (go_at_fn g;refine CC.out.mono ?_;rintro e w2 ⟨rfl,t⟩;have C:=hid t;have X:=t.size;have a5:=z.out.size;clear t)
    | (at_builtin;refine wpList_append_own _ rfl _ _ 450 rfl w.heap.size 2 Y (.int .i64 0) 1 8 underlying450 hi G H I rfl (by decide) _ L.length (L.map (Value.int .i64)) rfl (World.ownsRow.alloc (ownsRow_below J.out C.out) _) ⟨w2.heap.size,0,none⟩ 1 1 [.int .i64 (out s)] rfl rfl ?_ ?_ ?_ ?_ ?_ ?_))
   ·exact kW _ _ _
   ·intro u V;simp at V;rcases V with rfl;rfl
   ·unfold maxLen;omega
   ·omega
   ·simp;omega
   ·intro v' Z j i _;have N:Hid (XP Z w.heap.size v' ((b.take (k+1)).map out)):=by rw[y.out];exact Mc (by rw[F];exact j)
    have K:Hid (Below w.heap.size w Z):=((z.out.trans (C.out.mono z.out.size)).alloc (by omega) _).grown i (by simp;omega) (λk m=>(World.ownsRow.lt J.out k m).1);clear j i
    go_wp2
    go_roundw
    case rel=>exact⟨k+1,by omega,by go_num,N.out,K.out⟩
    case measure=>simp[intOf];omega
  ·have P:k=n:=by omega
   subst P;have A:=J.out;rw[List.take_of_length_le (by rw[R.out];omega)] at A;have M:=hid A;clear A
   go_wp2
   go_ret;exact⟨_,rfl,M.out,z.out⟩
theorem tC(z n:Int)(B:Nat)(w:World)(b:w.cell? ⟨B,0,none⟩=some (.int .i64 n)) :
  Calls prog 343 #[.int .i64 z,.pointer (some ⟨B,0,none⟩)] w λe a=>e = .returned (.bool (decide (n<z)))/\Below w.heap.size w a:=by
 go_enter func343,ntmps343
 go_wp2
 go_ret;exact⟨rfl,Below.refl _ _⟩
theorem tF(l:List Int)(n:Int)(ao:Option Addr)(cap:Nat)(w:World)(h:l.length<=100000000000)(f:YA w ao l.length (λj=>l.getD j 0)) :
  Calls prog 333 #[.slice ao l.length cap,.int .i64 n] w λe d=>e = .returned (.bool (l.any λz=>decide (n<z)))/\Below w.heap.size w d:=by
 have a:=nB w (.cells #[.int .i64 n] 2)
 have c:=wG l.length ao cap 343 #[.pointer (some ⟨w.heap.size,0,none⟩)] (λj=>l.getD j 0) (λj=>decide (n<l.getD j 0)) (w.alloc (.cells #[.int .i64 n] 2)) (by omega)
  (enters_of func343 (by kernel_rfl) rfl) (oL f a)
  (λW j g hb=>tC (l.getD j 0) n w.heap.size W (zb hb (by simp)))
 rw[show (zn (λj=>decide (n<l.getD j 0)) l.length).isSome=l.any (λz=>decide (n<z)) from YT l 0 (λz=>decide (n<z))] at c
 generalize (l.any λz=>decide (n<z))=F at c;go_enter func333,ntmps333
 go_wp2_with (go_at_call 342;refine c.mono ?_;rintro e d ⟨rfl,b⟩)
 go_ret;exact⟨rfl,a.trans (b.mono (by simp))⟩
theorem YU{α:Type}(l:List α)(f g:α->Bool)(h:∀x ∈ l,f x=g x):l.any f=l.any g:=by
 rw[Bool.eq_iff_iff,List.any_eq_true,List.any_eq_true]
 constructor
 ·rintro ⟨x,a,b⟩;exact⟨x,a,by rw[<- h x a];exact b⟩
 ·rintro ⟨x,a,b⟩;exact⟨x,a,by rw[h x a];exact b⟩
theorem Aq(x:BA)(vals:List BA)(c:Ref.qH x=true)(b:∀v ∈ vals,Ref.qH v=true):((vals.map De.Zc).any λz=>decide (De.Zc x<z))=vals.any λv=>De.QX x v:=by
 rw[List.any_map];exact YU _ _ _ λv a=>(De.Ru c (b v a)).symm
theorem Gr(S:Option BA)(vals:List BA)(lv:Value)(B:Nat)(w:World)(q:∀v ∈ vals,Ref.qH v=true)(hn:vals.length<=1000)(t:jH w lv vals) :
  Calls prog 325 #[uo S B,lv] w λe r=>e = .returned (.bool (jT S λx=>Ref.qH x&&vals.any λv=>De.QX x v))/\Below w.heap.size w r:=by
 have H:=λO:Obj=>nB w O;unfold uo xE
 cases S with
 | none=>
  simp only[jT,Option.getD_none,Option.isSome_none];clear t q;go_enter func325,ntmps325;go_wp2_with fail
  go_quiet (fail)
  go_wp2_with fail;go_ret;exact⟨rfl,below_drewN (H _) _⟩
 | some x=>
  simp only[jT,Option.getD_some,Option.isSome_some];have p:=λW=>iI x W;obtain⟨g,h⟩:∃W,w.alloc (.cells #[.string x,.bool true,.func (.func 215) #[] #[.pointer (some ⟨B,0,none⟩)]] 408)=W:=⟨_,rfl⟩;have s:Hid (Below w.heap.size w g):=hid (by rw[<- h];exact H _);have D:g.cell? ⟨w.heap.size,0,none⟩=some (.string x):=by rw[<- h];simp
  have E:g.cell? ⟨w.heap.size,1,none⟩=some (.bool true):=by rw[<- h];simp
  have n:=hid h
  cases hx:Ref.qH x with
  | false=>
   rw[Bool.false_and];simp only[hx] at p;clear t q h;go_enter func325,ntmps325
   go_upto_region 1 with fail
   rw[n.out];have I:∀X:Grown g,X.w.cell? ⟨w.heap.size,0,none⟩=some (.string x):=λX=>zb X.b D;have f1:∀X:Grown g,X.w.cell? ⟨w.heap.size,1,none⟩=some (.bool true):=λX=>zb X.b E
   have Q:Hid (∀(X:Grown g),Calls prog 332 #[.string x] X.w λe k=>e = .returned (.bool false)/\∃Y:Grown g,k=Y.w):=
    hid λX=>(p X.w).mono λe k ⟨he,hb⟩=>⟨he,⟨k,X.b.trans (hb.mono X.b.size)⟩,rfl⟩
   have NE:Nonempty (Grown g):=⟨⟨g,Below.refl _ _⟩⟩;clear p D E;refine wp_region_quiet (C:=λT=>∃X:Grown g,T=X.w) (by kernel_rfl) (by kernel_rfl) ⟨⟨_,(Below.refl _ g).drew⟩,rfl⟩ ?_;simp only
   repeat (go_big_quiet_step (first|exact Q.out _))
   refine wpQuiet_nil ?_;intro r G;obtain⟨X,rfl⟩:=G;go_wp2_with fail;go_ret;exact⟨rfl,s.out.trans (X.b.mono s.out.size)⟩
  | true=>
   rw[Bool.true_and,<- Aq x vals hx q];simp only[hx] at p;have V:=λW=>mQ x W hx;have A:=λ(W:World) (hb:Below w.heap.size w W)=>Lp vals lv 335 De.Zc W (Qv t hb) hn (enters_of func335 (by kernel_rfl) rfl) (λU v F _=>mQ v U (q v F));have z:=λ(W:World) (ao:Option Addr) (cap:Nat) f=>tF (vals.map De.Zc) (De.Zc x) ao cap W (by rw[List.length_map];omega) f;obtain⟨a,c,rfl,_⟩:=t;generalize hL:vals.map De.Zc=L at A z;have P:=hid A;have N:=hid z;clear q h hL A z hx;go_enter func325,ntmps325
   go_upto_region 1 with fail
   rw[n.out]
   go_region_held3 (λr=>r.cell? ⟨w.heap.size,0,none⟩=some (.string x)/\r.cell? ⟨w.heap.size,1,none⟩=some (.bool true)) (go_keep) (first
    | ((go_at_call 335);refine (V K).mono ?_;rintro e M ⟨rfl,o⟩;have i0:=zb o Z;have i1:=zb o h1;have y:=hid (oL R.out o);have m:Hid (Below w.heap.size w M):=l.out.trans (o.mono l.out.size);clear o)
    | ((go_at_call 334);refine (P.out J j.out).mono ?_;rintro e K ⟨mv,rfl,i,d⟩;obtain⟨ma,mc,rfl,f⟩:=Pf i;have R:=hid f;have Z:=zb d I;have h1:=zb d f1;have l:Hid (Below w.heap.size w K):=j.out.trans (d.mono j.out.size);clear d i f)
    | ((go_at_call 332);refine (p g.drew).mono ?_;rintro e J ⟨rfl,d⟩;have I:=zb d D;have f1:=zb d E;have j:Hid (Below w.heap.size w J):=s.out.trans (((Below.refl _ g).drew.trans d).mono s.out.size);clear d)
    | ((go_at_call 333);refine (N.out M ma mc y.out).mono ?_;rintro e w4 ⟨rfl,d⟩;have k0:=zb d i0;have k1:=zb d i1;have u:Hid (Below w.heap.size w w4):=m.out.trans (d.mono m.out.size);clear d))
   all_goals
    go_wp2_with fail;go_ret;exact⟨rfl,u.out⟩
namespace De
def Xp(c:zJ)(r:Ref.Req):Bool:=((Ref.xq c.op&&(Ref.says r c.key).isNone)||Xd c.op c.vals r (Ref.says r c.key)) != c.no
def JU(s:zw)(r:Ref.Req):Bool:=Q3 s.who r.who r&&Q3 s.act r.act r&&Q3 s.on r.on r&&s.ifs.all λc=>Xp c r
def Qm(eff:BA)(r:Ref.Req)(s:zw):Bool:=(s.eff.toList==eff.toList)&&JU s r
def QJ(eff:BA)(r:Ref.Req)(a:List zw):Option Nat:=a.findIdx? (Qm eff r)
def vV(eff:BA)(r:Ref.Req):List zt->Option (BA×Nat)
 | []=>none
 | x::L=>match QJ eff r x.2 with
  | some k=>some (x.1,k+1)
  | none=>vV eff r L
def yY(st:Nat->List zt)(eff:BA)(r:Ref.Req):List Nat->Option (Nat×BA×Nat)
 | []=>none
 | i::is=>match vV eff r (st i) with
  | some (n,k)=>some (i,n,k)
  | none=>yY st eff r is
def jX:BA:=⟨#[97,108,108,111,119]⟩
def Zy:BA:=⟨#[100,101,110,121]⟩
structure Dec where
 verdict:Nat
 layer:Nat
 doc:BA
 stmt:Nat
def silent:Dec:=⟨3,0,⟨#[]⟩,0⟩
def Mj:Dec:=⟨0,0,⟨#[]⟩,0⟩
def Xt(st:Nat->List zt)(r:Ref.Req)(i:Nat):Bool:=(st i).isEmpty||(vV jX r (st i)).isSome
def Y4(st:Nat->List zt)(r:Ref.Req):Dec:=match yY st Zy r [0,1,2,3] with
 | some (i,n,k)=>⟨2,i,n,k⟩
 | none=>if (Xt st r 0&&Xt st r 1)=false then silent else match yY st jX r [2,3] with
  | some (i,n,k)=>⟨1,i,n,k⟩
  | none=>silent
def yh(st:Nat->List zt)(r:Ref.Req):Dec×Int:=if Ref.xY r then (Y4 st r,0) else (Mj,11)
end De
def kJ(w:World)(v:Value)(cs:List zJ):Prop:=
 ∃a cap,v = .slice a cs.length cap/\(cs=[]\/∃b o,a=some ⟨b,o,none⟩/\∀j,(h:j<cs.length)->∃lv,w.cell? ⟨b,o+j*4,none⟩=some (.string cs[j].op)/\w.cell? ⟨b,o+j*4+1,none⟩=some (.string cs[j].key)/\w.cell? ⟨b,o+j*4+2,none⟩=some lv/\w.cell? ⟨b,o+j*4+3,none⟩=some (.bool cs[j].no)/\jH w lv cs[j].vals)
theorem kJ.below{w c:World}{v:Value}{cs:List zJ}(h:kJ w v cs)(hb:Below w.heap.size w c):kJ c v cs:=by
 obtain⟨a,cap,e,h⟩:=h;refine⟨a,cap,e,?_⟩
 rcases h with h|⟨b,o,ha,hc⟩
 ·exact .inl h
 ·refine .inr ⟨b,o,ha,λj l=>?_⟩;obtain⟨lv,d,f,g,i,k⟩:=hc j l;exact⟨lv,zb hb d,zb hb f,zb hb g,zb hb i,Qv k hb⟩
structure QY (w:World) (l1 l2 l3 lc:Value) (s:zw):Prop where
 who:jH w l1 s.who.2
 act:jH w l2 s.act.2
 on:jH w l3 s.on.2
 ifs:kJ w lc s.ifs
theorem QY.below{w e:World}{a b c d:Value}{s:zw}(h:QY w a b c d s)(hb:Below w.heap.size w e):QY e a b c d s:=
 ⟨Qv h.who hb,Qv h.act hb,Qv h.on hb,h.ifs.below hb⟩
def QZ(w:World)(v:Value)(c:List zw):Prop:=
 ∃a cap,v = .slice a c.length cap/\(c=[]\/∃b o,a=some ⟨b,o,none⟩/\∀j,(h:j<c.length)->∃d e f g,w.cell? ⟨b,o+j*8,none⟩=some (.string c[j].eff)/\w.cell? ⟨b,o+j*8+1,none⟩=some (.bool c[j].who.1)/\w.cell? ⟨b,o+j*8+2,none⟩=some d/\w.cell? ⟨b,o+j*8+3,none⟩=some (.bool c[j].act.1)/\w.cell? ⟨b,o+j*8+4,none⟩=some e/\w.cell? ⟨b,o+j*8+5,none⟩=some (.bool c[j].on.1)/\w.cell? ⟨b,o+j*8+6,none⟩=some f/\w.cell? ⟨b,o+j*8+7,none⟩=some g/\QY w d e f g c[j])
theorem QZ.below{w d:World}{v:Value}{c:List zw}(h:QZ w v c)(hb:Below w.heap.size w d):QZ d v c:=by
 obtain⟨a,cap,e,h⟩:=h;refine⟨a,cap,e,?_⟩
 rcases h with h|⟨b,o,ha,hc⟩
 ·exact .inl h
 ·refine .inr ⟨b,o,ha,λj r=>?_⟩;obtain⟨s,t,u,x,f,g,i,k,l,m,n,p,q⟩:=hc j r;exact⟨s,t,u,x,zb hb f,zb hb g,zb hb i,zb hb k,zb hb l,zb hb m,zb hb n,zb hb p,q.below hb⟩
theorem oM{w:World}{base n a:Nat}{e:TypeId}{v:Value}{xs:List Value}(h:w.ownsRow base e a v n xs):(n=0/\v = .slice none 0 0)\/∃g cap,v = .slice (some ⟨g,0,none⟩) n cap/\∀i,i<xs.length->w.cell? ⟨g,i,none⟩=xs[i]?:=by
 rcases h.2 with ⟨e0,h0⟩|⟨g,cap,cur,ev,_⟩
 ·exact .inl ⟨h0,e0⟩
 ·exact .inr ⟨g,cap,ev,λi hi=>World.ownsRow.cellAt (g:=g) (cap:=cap) (by rw[<- ev];exact h) i (by rw[<- h.1];exact hi)⟩
theorem BF{w:World}{base:Nat}{e:TypeId}{v:Value}{xs:List Value}{cs:List zJ}(h:w.ownsRow base e 4 v cs.length xs)
  (k:∀j,(b:j<cs.length)->∃lv,xs[j*4]?=some (.string cs[j].op)/\xs[j*4+1]?=some (.string cs[j].key)/\xs[j*4+2]?=some lv/\xs[j*4+3]?=some (.bool cs[j].no)/\jH w lv cs[j].vals):kJ w v cs:=by
 have l:xs.length=cs.length*4:=h.1
 rcases oM h with ⟨a,rfl⟩|⟨g,cap,rfl,hcell⟩
 ·have:cs=[]:=List.length_eq_zero_iff.1 a
  subst this;exact⟨none,0,rfl,.inl rfl⟩
 ·refine⟨_,cap,rfl,.inr ⟨g,0,rfl,λj b=>?_⟩⟩;obtain⟨lv,a,c,d,f,i⟩:=k j b;rw[Nat.zero_add];exact⟨lv,(hcell _ (by omega)).trans a,(hcell _ (by omega)).trans c,(hcell _ (by omega)).trans d,(hcell _ (by omega)).trans f,i⟩
theorem Sc{w:World}{base:Nat}{e:TypeId}{v:Value}{xs:List Value}{a:List zw}(h:w.ownsRow base e 8 v a.length xs)
  (t:∀j,(k:j<a.length)->∃b c d f,xs[j*8]?=some (.string a[j].eff)/\xs[j*8+1]?=some (.bool a[j].who.1)/\xs[j*8+2]?=some b/\xs[j*8+3]?=some (.bool a[j].act.1)/\xs[j*8+4]?=some c/\xs[j*8+5]?=some (.bool a[j].on.1)/\xs[j*8+6]?=some d/\xs[j*8+7]?=some f/\QY w b c d f a[j]):QZ w v a:=by
 have u:xs.length=a.length*8:=h.1
 rcases oM h with ⟨i,rfl⟩|⟨g,cap,rfl,hcell⟩
 ·have:a=[]:=List.length_eq_zero_iff.1 i
  subst this;exact⟨none,0,rfl,.inl rfl⟩
 ·refine⟨_,cap,rfl,.inr ⟨g,0,rfl,λj k=>?_⟩⟩;obtain⟨b,c,d,f,i,l,m,n,o,p,q,r,s⟩:=t j k;rw[Nat.zero_add];exact⟨b,c,d,f,(hcell _ (by omega)).trans i,(hcell _ (by omega)).trans l,(hcell _ (by omega)).trans m,(hcell _ (by omega)).trans n,(hcell _ (by omega)).trans o,(hcell _ (by omega)).trans p,(hcell _ (by omega)).trans q,(hcell _ (by omega)).trans r,s⟩
theorem BG{w:World}{base:Nat}{v:Value}{cs:List zJ}(h:qx w base v cs):kJ w v cs:=by
 obtain⟨xs,f,g⟩:=h;refine BF f λj i=>?_;obtain⟨lv,a,b,c,d,e⟩:=g j i;exact⟨lv,a,b,c,d,V8 rfl e⟩
theorem Sd{w:World}{base:Nat}{v:Value}{c:List zw}(h:yc w base v c):QZ w v c:=by
 obtain⟨xs,a,b⟩:=h;refine Sc a λj p=>?_;obtain⟨q,r,s,t,i,a,b,k,l,m,n,o,d,e,f,g⟩:=b j p;exact⟨q,r,s,t,i,a,b,k,l,m,n,o,⟨V8 rfl d,V8 rfl e,V8 rfl f,BG g⟩⟩
theorem rA{M:Nat->Prop}{w:World}{v:Value}{a:List zw}(h:xH M w v a):QZ w v a:=by
 obtain⟨base,h⟩:=h.at;exact Sd h
theorem JF{w:World}{v:Value}{l:List BA}(h:jH w v l):∃a c,v = .slice a l.length c/\jH w (.slice a l.length c) l:=by
 obtain⟨a,c,rfl,h⟩:=h;exact⟨a,c,rfl,a,c,rfl,h⟩
theorem BH{w:World}{v:Value}{l:List zJ}(h:kJ w v l):∃a c,v = .slice a l.length c/\kJ w (.slice a l.length c) l:=by
 obtain⟨a,c,rfl,h⟩:=h;exact⟨a,c,rfl,a,c,rfl,h⟩
def Q4(op:BA)(vals:List BA)(r:Ref.Req)(S:Option BA):Bool:=(Ref.xq op&&S.isNone)||De.Xd op vals r S
theorem Jp{op:BA}{l:List UInt8}(h:op.toList=l):yR op=zn (λk=>(opN k).toList==l) 5:=by
 unfold yR;rw[h]
theorem Jq(k:Nat):(opN k).toList=(opN k).data.toList:=ByteArray.toList_eq _
theorem Gd:zn (λk=>(opN k).toList==[108,105,107,101]) 5=some 0:=by simp only[Jq];decide
theorem Gf:zn (λk=>(opN k).toList==[115,97,109,101]) 5=some 1:=by simp only[Jq];decide
theorem Gc:zn (λk=>(opN k).toList==[98,101,108,111,119]) 5=some 2:=by simp only[Jq];decide
theorem Gg:zn (λk=>(opN k).toList==[117,110,100,101,114]) 5=some 3:=by simp only[Jq];decide
theorem Gb:zn (λk=>(opN k).toList==[97,98,115,101,110,116]) 5=some 4:=by simp only[Jq];decide
theorem MU(k:Nat)(a:k<5):∀args w,(callFunc (opT k) args).run prog w = .ok (.enter (opT k) args) w:=by
 rcases lt5 a with rfl|rfl|rfl|rfl|rfl
 ·exact enters_of func321 (by kernel_rfl) rfl
 ·exact enters_of func323 (by kernel_rfl) rfl
 ·exact enters_of func325 (by kernel_rfl) rfl
 ·exact enters_of func327 (by kernel_rfl) rfl
 ·exact enters_of func329 (by kernel_rfl) rfl
theorem Tt(c:zJ)(lv:Value)(S:Option BA)(r:Ref.Req)(ao:Option Addr)(cap B:Nat)(w:World)(m:jH w lv c.vals)(u:XJ c)(o:c.vals.length<=1000)(p:∀v ∈ c.vals,v.size<=100000)(y:∀x,S=some x->x.size<=100/\(Ref.chars x).isSome=true)(t:vO w r ao cap B)(s:qW w) :
  ∃k,k<5/\yR c.op=some k/\Calls prog (opT k) #[uo S B,lv] w λe z=>e = .returned (.bool (Q4 c.op c.vals r S))/\Below w.heap.size w z:=by
 obtain⟨op,key,vals,no⟩:=c;simp only at m o p |-
 rcases u with ⟨ha,n⟩|⟨ha,hfit,hlike⟩
 ·simp only at ha n;subst n;have b:op.toList=[97,98,115,101,110,116]:=eq_of_beq ha;refine⟨4,by omega,(Jp b).trans Gb,?_⟩
  have e:Q4 op [] r S=S.isNone:=by
   unfold Q4;rw[ha]
   cases S<;>rfl
  rw[e];exact Gq S lv B w
 ·simp only at ha hfit hlike;obtain⟨a,c,rfl,d⟩:=m;have m:jH w (.slice a vals.length c) vals:=⟨a,c,rfl,d⟩;have i:vJ w a vals:=d;have q:Q4 op vals r S=De.Xd op vals r S:=by unfold Q4;rw[ha];rfl
  rw[q];unfold Ref.Qh at hfit;rw[Bool.and_eq_true] at hfit;obtain⟨j,f⟩:=hfit;unfold Ref.jS at f;simp only[Bool.or_eq_true] at f
  rcases f with ((h|h)|h)|h
  ·have b:=eq_of_beq h;refine⟨1,by omega,(Jp b).trans Gf,?_⟩
   have e:De.Xd op vals r S=(jT S λx=>vals.any λv=>x.toList==v.toList):=by
    cases S with
    | none=>rfl
    | some x=>
     refine YU _ _ _ λv _=>?_;unfold De.Xy Ref.qG De.xV;rw[b]
     rfl
   rw[e];exact GG S vals a c B w (by omega) i
  ·have b:=eq_of_beq h;refine⟨3,by omega,(Jp b).trans Gg,?_⟩
   have e:De.Xd op vals r S=(jT S λx=>vals.any λv=>De.Zj x v):=by
    cases S with
    | none=>rfl
    | some x=>
     refine YU _ _ _ λv _=>?_;unfold De.Xy Ref.qG De.xV De.yN;rw[b]
     rfl
   rw[e];exact GI S vals a c B w (by omega) p i
  ·have b:=eq_of_beq h;refine⟨2,by omega,(Jp b).trans Gc,?_⟩
   have l:∀v ∈ vals,Ref.qH v=true:=λv n=>by
    have:=List.all_eq_true.1 j v n
    unfold Ref.ZR at this;rw[b] at this
    simpa using this
   have e:De.Xd op vals r S=(jT S λx=>Ref.qH x&&vals.any λv=>De.QX x v):=by
    cases S with
    | none=>rfl
    | some x=>
     have g:(vals.any λv=>De.Xy op x v r)=vals.any λv=>(Ref.qH x&&De.QX x v):=by
      refine YU _ _ _ λv _=>?_;unfold De.Xy Ref.qG De.xV De.yN;rw[b]
      rfl
     show (vals.any λv=>De.Xy op x v r)=(Ref.qH x&&vals.any λv=>De.QX x v);rw[g]
     cases Ref.qH x with
     | true=>rfl
     | false=>simp
   rw[e];exact Gr S vals _ B w l o m
  ·have b:=eq_of_beq h;refine⟨0,by omega,(Jp b).trans Gd,?_⟩
   have e:De.Xd op vals r S=(jT S λx=>vals.any λv=>Ref.jA v x r):=by
    cases S with
    | none=>rfl
    | some x=>
     refine YU _ _ _ λv _=>?_;unfold De.Xy Ref.qG;rw[b]
     rfl
   rw[e];exact Gy S vals r ao a cap c B w y (hlike h) (by omega) i t s
theorem Ga(c:zJ)(lv:Value)(r:Ref.Req)(ao:Option Addr)(cap B:Nat)(w:World)(hm:jH w lv c.vals)(Z:XJ c)(hn:c.vals.length<=1000)(hz:∀v ∈ c.vals,v.size<=100000)(I:vO w r ao cap B)(N:qW w) :
  Calls prog 248 #[.agg #[.string c.op,.string c.key,lv,.bool c.no],xE B] w λe t=>e = .returned (.bool (De.Xp c r))/\Below w.heap.size w t:=by
 have O:=λ(W:World) (hb:Below w.heap.size w W)=>Tt c lv (Ref.says r c.key) r ao cap B W (Qv hm hb) Z hn hz (oV I.ok c.key) (I.below hb) (N.below hb);obtain⟨k,hk,i,_⟩:=O w (Below.refl _ _)
 have b:∀(W:World),Below w.heap.size w W->Calls prog (opT k) #[uo (Ref.says r c.key) B,lv] W λe t=>e = .returned (.bool (Q4 c.op c.vals r (Ref.says r c.key)))/\Below W.heap.size W t:=by
  intro W hb;obtain⟨k',_,H,h3⟩:=O W hb;rw[i] at H;injection H with H
  rw[H];exact h3
 have h:De.Xp c r=(Q4 c.op c.vals r (Ref.says r c.key) != c.no):=rfl;rw[h];have o:=λ(W:World) (hb:Below w.heap.size w W)=>K3 c.op W (N.below hb).ops;have A:=λ(W:World) (hb:Below w.heap.size w W)=>I.call W c.key hb;rw[i] at o;have eg:=MU k hk;have es:=oU;obtain⟨a,P,rfl,_⟩:=hm;obtain⟨op,key,vals,no⟩:=c;simp only at b o A |-;obtain⟨S,p⟩:=Nm (Ref.says r key);simp only[p] at b A;rw[p];obtain⟨T,q⟩:=Nm (Q4 op vals r S);simp only[q] at b;rw[q];unfold uo xE at b;unfold opV at o;unfold xE;simp only[Option.isSome_some] at o;obtain⟨G,s⟩:∃g,opT k=g:=⟨_,rfl⟩;obtain⟨fl,E⟩:∃g,opL k=g:=⟨_,rfl⟩;obtain⟨ON,C⟩:∃g,opN k=g:=⟨_,rfl⟩;rw[s] at b eg;simp only[s,E,C] at o;obtain⟨X,Y⟩:=Nm (S.getD ⟨#[]⟩);obtain⟨TH,D⟩:∃X,S.isSome=X:=⟨_,rfl⟩;simp only[Y,D] at b A;have HT:=hid b;have CO:=hid o;have CS:=hid A;obtain⟨x,f⟩:∃W,w.alloc (.cells #[.string op,.string key,.slice a vals.length P,.bool no] 241)=W:=⟨_,rfl⟩;have K:Hid (Below w.heap.size w x):=hid (by rw[<- f];exact nB w _);have Q:x.cell? ⟨w.heap.size,0,none⟩=some (.string op):=by rw[<- f];simp
 have R:x.cell? ⟨w.heap.size,1,none⟩=some (.string key):=by rw[<- f];simp
 have U:x.cell? ⟨w.heap.size,2,none⟩=some (.slice a vals.length P):=by rw[<- f];simp
 have V:x.cell? ⟨w.heap.size,3,none⟩=some (.bool no):=by rw[<- f];simp
 have M:=hid f;have sf:=λW a g m=>run_store prog W a (.func (.func g) #[] #[]) m rfl;clear O b o A p q s E C Y D f i h Z hn hz I N hk;go_enter func248,ntmps248
 go_upto_region 1 with fail
 rw[M.out]
 go_upto_region 2 with (go_at_call 232;refine (CO.out x K.out).mono ?_;rintro e u ⟨rfl,d⟩;have k0:=zb d Q;have k1:=zb d R;have k2:=zb d U;have k3:=zb d V;have j:Hid (Below w.heap.size w u):=K.out.trans (d.mono K.out.size);clear d)
 obtain⟨J,hw2⟩:∃W,u.alloc (.cells #[.string ON,.func (.func fl) #[] #[],.func (.func G) #[] #[]] 342)=W:=⟨_,rfl⟩;have f2:J.cell? ⟨u.heap.size,2,none⟩=some (.func (.func G) #[] #[]):=by rw[<- hw2];simp
 have z:Below u.heap.size u J:=by rw[<- hw2];exact nB u _
 have j1:=zb z k1;have j2:=zb z k2;have j3:=zb z k3;have l:Hid (Below w.heap.size w J):=hid (j.out.trans (z.mono j.out.size));rw[hw2];clear hw2 z k0 k1 k2 k3 j Q R U V
 go_upto_region 3 with (go_at_fn 215;refine (CS.out J l.out).mono ?_;rintro e F ⟨rfl,d⟩;have f3:=zb d f2;have l2:=zb d j2;have l3:=zb d j3;have n:Hid (Below w.heap.size w F):=l.out.trans (d.mono l.out.size);clear d)
 go_region_held3 (λt=>t.cell? ⟨u.heap.size,2,none⟩=some (.func (.func G) #[] #[])/\t.cell? ⟨w.heap.size,2,none⟩=some (.slice a vals.length P)/\t.cell? ⟨w.heap.size,3,none⟩=some (.bool no)) (go_keep) (first
  | ((go_at_fn G);refine (HT.out F.drew n.out.drew).mono ?_;rintro e w4 ⟨rfl,d⟩;have y:Below F.heap.size F w4:=(Below.refl _ F).drew.trans d;have f4:=zb y f3;have m2:=zb y l2;have m3:=zb y l3;have L:Hid (Below w.heap.size w w4):=n.out.trans (y.mono n.out.size);clear d y))
 all_goals
  go_wp2_with fail;go_ret;exact⟨rfl,L.out⟩
end Go.Proofs.YtdakgnaojakldaaGreatDoor
