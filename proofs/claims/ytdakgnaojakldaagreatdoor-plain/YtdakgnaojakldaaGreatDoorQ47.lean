/- P -/
import Derived.Test.YtdakgnaojakldaaGreatDoorQ46
open Go.Proofs.Tryz
set_option maxRecDepth 100000
set_option maxHeartbeats 2000000
namespace Go.Proofs.YtdakgnaojakldaaGreatDoor
open Go.RowKit
def JP(w:World)(ao:Option Addr)(n:Nat)(v:Nat->Int):Prop:=
 n=0\/∃b o,ao=some ⟨b,o,none⟩/\∀j,j<n->w.cell? ⟨b,o+j,none⟩=some (.int .i64 (v j))
theorem tY{w a:World}{ao:Option Addr}{n:Nat}{v:Nat->Int}(h:JP w ao n v)(hb:Below w.heap.size w a):JP a ao n v:=by
 rcases h with h|⟨b,o,h1,h2⟩
 ·exact .inl h
 ·exact .inr ⟨b,o,h1,λj c=>zg hb (h2 j c)⟩
theorem GG(n:Nat)(ao:Option Addr)(cap g:Nat)(r:Array Value)(v:Nat->Int)(p:Nat->Bool)(w:World)(z:n<=1000000000000)(x:∀args w,(callFunc g args).run prog w = .ok (.enter g args) w)
  (t:JP w ao n v)(u:jD g r (λj => .int .i64 (v j)) n p w) :
  Calls prog 347 #[.slice ao n cap,.func (.func g) #[] r] w λe l=>
   e = .returned (.tuple #[.int .i64 (((zw p n).getD 0:Nat):Int),.bool (zw p n).isSome])/\Below w.heap.size w l:=by
 generalize hF:zw p n=F;have m:=hid hF;clear hF;go_enter func347,ntmps347
 go_wp2
 go_loopw [10] (λi wr=>∃k:Nat,k<=n/\i = .int .i64 k/\(∀j,j<k->p j=false)/\Below w.heap.size w wr) (λi _=>n-(intOf i).toNat)
 case atStart=>exact⟨0,zO _,rfl,λj h=>by omega,zh _ _⟩
 case round=>
  obtain⟨k,y,rfl,hb,c⟩:=hrel;have f:=hid hb;clear hb
  by_cases hlt:k<n
  ·rcases t with h0|⟨b,o,rfl,hcc⟩
   ·omega
   have q:=zg c (hcc k hlt);have a:=λW hb=>u W k hlt hb;simp only at a
   cases hpp:p k with
   | false=>
    rw[hpp] at a;have s:=hid hpp;clear hpp
    go_wp2_with (go_at_fn g;refine (a _ c).mono ?_;rintro e l ⟨rfl,d⟩)
    refine⟨⟨k+1,by omega,by go_num,λj h=>?_,c.trans (d.mono c.size)⟩,by simp[intOf];omega⟩
    by_cases hj:j=k
    ·subst hj;exact s.out
    ·exact f.out j (by omega)
   | true=>
    rw[hpp] at a;have e:=ZY p n k hlt f.out hpp;rw[m.out] at e;subst e;clear hpp
    go_wp2_with (go_at_fn g;refine (a _ c).mono ?_;rintro e l ⟨rfl,d⟩)
    go_ret2;exact⟨rfl,c.trans (d.mono c.size)⟩
  ·have e:=ZZ p n (λj h=>f.out j (by omega));rw[m.out] at e;subst e
   go_wp2
   go_ret2;exact⟨rfl,c⟩
theorem BO(n:Nat)(ao:Option Addr)(cap g:Nat)(b:Array Value)(v:Nat->Int)(p:Nat->Bool)(w:World)(i:n<=1000000000000)(f:∀args w,(callFunc g args).run prog w = .ok (.enter g args) w)
  (h:JP w ao n v)(k:jD g b (λj => .int .i64 (v j)) n p w) :
  Calls prog 342 #[.slice ao n cap,.func (.func g) #[] b] w λe d=>
   e = .returned (.bool (zw p n).isSome)/\Below w.heap.size w d:=by
 have c:=GG n ao cap g b v p w i f h k;generalize zw p n=F at c;go_enter func342,ntmps342
 go_wp2_with (go_at_call 347;refine c.mono ?_;rintro e d ⟨rfl,a⟩)
 go_ret;exact⟨rfl,a⟩
theorem IG:(prog.info? 2).map (λi=>(i.zero,i.size,i.bytes))=some (some (.int .i64 0),1,8):=by kernel_rfl
def Y5(w:World)(base:Nat)(a:Value)(l:List Int):Prop:=w.ownsRow base 2 1 a l.length (l.map (Value.int .i64))
def Be(w:World)(outs:List Int)(e:Ending)(b:World):Prop:=∃a,e = .returned a/\Y5 b w.heap.size a outs/\Below w.heap.size w b
theorem NL{w:World}{B:Nat}{a:Value}{l:List Int}{s:Int}(h:w.ownsRow B 2 1 a (l.length+1) (l.map (Value.int .i64)++[.int .i64 s])):Y5 w B a (l++[s]):=by
 unfold Y5;rw[jm,xm];exact h
theorem RX{w:World}{base:Nat}{d:Value}{l:List Int}(h:Y5 w base d l):∃a c,d = .slice a l.length c/\JP w a l.length (λj=>l.getD j 0):=by
 rcases h.2 with ⟨rfl,h0⟩|⟨g,cap,cur,ev,_⟩
 ·exact⟨none,0,by rw[h0],.inl h0⟩
 ·refine⟨_,cap,ev,.inr ⟨g,0,rfl,λj b=>?_⟩⟩;rw[qO,World.ownsRow.cellAt (g:=g) (cap:=cap) (by rw[<- ev];exact h) j (by omega),jN,zl b];simp[b]
theorem Ng(b:List BA)(Z:Value)(g:Nat)(out:BA->Int)(w:World)(h:vK w Z b)(hn:b.length<=1000)(eg:∀args w,(callFunc g args).run prog w = .ok (.enter g args) w)
  (T:∀W s,s ∈ b->Below w.heap.size w W->Calls prog g #[.string s] W λe w'=>e = .returned (.int .i64 (out s))/\Below W.heap.size W w') :
  Calls prog 334 #[Z,.func (.func g) #[] #[]] w (Be w (b.map out)):=by
 obtain⟨Y,hi,G,H,I⟩:=yU IG;obtain⟨a,c,rfl,p⟩:=h;obtain⟨n,l⟩:=Nm b.length
 have f:∀(k:Nat) (x:BA),b[k]?=some x->∃E o,a=some ⟨E,o,none⟩/\w.cell? ⟨E,o+k,none⟩=some (.string x):=by
  intro k x hx;obtain⟨m,rfl⟩:=qY.1 hx
  rcases p with e|⟨E,o,e,hc⟩
  ·rw[e] at m;simp at m
  ·exact⟨E,o,e,hc k m⟩
 rw[l];rw[l] at hn;have HC:=hid f;have HP:=hid T;have R:=hid l;clear f T l p;go_enter func334,ntmps334
 go_wp2_with (at_make;refine wpList_make_own _ rfl _ _ 450 rfl w.heap.size 2 Y (.int .i64 0) 1 underlying450 hi G H _ _ _ n rfl rfl rfl ?_ ?_ ?_ ?_)
 ·rw[I];omega
 ·unfold maxLen;omega
 ·omega
 intro w1 r d;have D:=hid r;have B:Hid (Below w.heap.size w w1):=(zh _ w).grown d (ze _) (λk m=>by cases m);clear r d;go_wp2_with fail
 go_loopw [5,7,13] (λov _ Q wr=>∃(k:Nat),k<=n/\Q = .int .i64 k/\Y5 wr w.heap.size ov ((b.take k).map out)/\Below w.heap.size w wr) (λ_ _ Q _=>n-(intOf Q).toNat)
 case atStart=>exact⟨0,zO _,rfl,D.out,B.out⟩
 case round=>
  obtain⟨k,m,rfl,A,hb⟩:=hrel;have J:=hid A;have z:=hid hb;clear A hb D B
  by_cases hlt:k<n
  ·have v:k<b.length:=by rw[R.out];exact hlt
   obtain⟨E,o,rfl,q⟩:=HC.out k _ (zl v);have q2:=zg z.out q;have O:=HP.out wr b[k] (qH v) z.out;have y:Hid ((b.take (k+1)).map out=(b.take k).map out++[out b[k]]):=hid (by rw[XF,zl v,jm];rfl);have F:((b.take k).map out).length=k:=by rw[zN,xC];omega
   obtain⟨s,U⟩:=Nm (b[k]);rw[U] at q2 O y;have CC:=hid O;obtain⟨L,S⟩:=Nm ((b.take k).map out);rw[S] at J y F;clear q O U S
   go_wp2_with (first
    | (go_at_fn g;refine CC.out.mono ?_;rintro e w2 ⟨rfl,t⟩;have C:=hid t;have X:=t.size;have a6:=z.out.size;clear t)
    | (at_builtin;refine vL _ rfl _ _ 450 rfl w.heap.size 2 Y (.int .i64 0) 1 8 underlying450 hi G H I rfl (by decide) _ L.length (L.map (Value.int .i64)) rfl (World.ownsRow.alloc (ownsRow_below J.out C.out) _) ⟨w2.heap.size,0,none⟩ 1 1 [.int .i64 (out s)] rfl rfl ?_ ?_ ?_ ?_ ?_ ?_))
   ·exact Zz _ _ _
   ·intro u V;simp at V;rcases V with rfl;rfl
   ·unfold maxLen;omega
   ·omega
   ·simp;omega
   ·intro v' w3 j i _;have N:Hid (Y5 w3 w.heap.size v' ((b.take (k+1)).map out)):=by rw[y.out];exact NL (by rw[F];exact j)
    have K:Hid (Below w.heap.size w w3):=((z.out.trans (C.out.mono z.out.size)).alloc (by omega) _).grown i (by simp;omega) (λk m=>(World.ownsRow.lt J.out k m).1);clear j i
    go_wp2
    go_roundw
    case rel=>exact⟨k+1,by omega,by go_num,N.out,K.out⟩
    case measure=>simp[intOf];omega
  ·have P:k=n:=by omega
   subst P;have A:=J.out;rw[uW (by rw[R.out];omega)] at A;have M:=hid A;clear A
   go_wp2
   go_ret;exact⟨_,rfl,M.out,z.out⟩
theorem Bl(z n:Int)(B:Nat)(w:World)(b:w.cell? ⟨B,0,none⟩=some (.int .i64 n)) :
  Calls prog 343 #[.int .i64 z,.pointer (some ⟨B,0,none⟩)] w λe a=>e = .returned (.bool (decide (n<z)))/\Below w.heap.size w a:=by
 go_enter func343,ntmps343
 go_wp2
 go_ret;exact⟨rfl,zh _ _⟩
theorem Bn(l:List Int)(n:Int)(ao:Option Addr)(cap:Nat)(w:World)(h:l.length<=100000000000)(f:JP w ao l.length (λj=>l.getD j 0)) :
  Calls prog 333 #[.slice ao l.length cap,.int .i64 n] w λe d=>e = .returned (.bool (l.any λz=>decide (n<z)))/\Below w.heap.size w d:=by
 have a:=nB w (.cells #[.int .i64 n] 2)
 have c:=BO l.length ao cap 343 #[.pointer (some ⟨w.heap.size,0,none⟩)] (λj=>l.getD j 0) (λj=>decide (n<l.getD j 0)) (w.alloc (.cells #[.int .i64 n] 2)) (by omega)
  (enters_of func343 (by kernel_rfl) rfl) (tY f a)
  (λW j g hb=>Bl (l.getD j 0) n w.heap.size W (zg hb (by simp)))
 rw[show (zw (λj=>decide (n<l.getD j 0)) l.length).isSome=l.any (λz=>decide (n<z)) from Vh l 0 (λz=>decide (n<z))] at c
 generalize (l.any λz=>decide (n<z))=F at c;go_enter func333,ntmps333
 go_wp2_with (go_at_call 342;refine c.mono ?_;rintro e d ⟨rfl,b⟩)
 go_ret;exact⟨rfl,a.trans (b.mono (by simp))⟩
theorem Vi{α:Type}(l:List α)(f g:α->Bool)(h:∀x ∈ l,f x=g x):l.any f=l.any g:=by
 rw[vN,QV,QV]
 constructor
 ·rintro ⟨x,a,b⟩;exact⟨x,a,by rw[<- h x a];exact b⟩
 ·rintro ⟨x,a,b⟩;exact⟨x,a,by rw[h x a];exact b⟩
theorem Df(x:BA)(vals:List BA)(c:Ref.xe x=true)(b:∀v ∈ vals,Ref.xe v=true):((vals.map De.Z8).any λz=>decide (De.Z8 x<z))=vals.any λv=>De.X3 x v:=by
 rw[Qp];exact Vi _ _ _ λv a=>(De.Tn c (b v a)).symm
theorem IM(S:Option BA)(vals:List BA)(H:Value)(B:Nat)(w:World)(q:∀v ∈ vals,Ref.xe v=true)(hn:vals.length<=1000)(t:vK w H vals) :
  Calls prog 325 #[kW S B,H] w λe r=>e = .returned (.bool (uj S λx=>Ref.xe x&&vals.any λv=>De.X3 x v))/\Below w.heap.size w r:=by
 have I:=λO:Obj=>nB w O;unfold kW yj
 cases S with
 | none=>
  simp only[uj,Qu,kS];clear t q;go_enter func325,ntmps325;go_wp2_with fail
  go_quiet (fail)
  go_wp2_with fail;go_ret;exact⟨rfl,below_drewN (I _) _⟩
 | some x=>
  simp only[uj,yE,vT];have p:=λW=>og x W;obtain⟨g,h⟩:∃W,w.alloc (.cells #[.string x,.bool true,.func (.func 215) #[] #[.pointer (some ⟨B,0,none⟩)]] 408)=W:=⟨_,rfl⟩;have s:Hid (Below w.heap.size w g):=hid (by rw[<- h];exact I _);have D:g.cell? ⟨w.heap.size,0,none⟩=some (.string x):=by rw[<- h];simp
  have E:g.cell? ⟨w.heap.size,1,none⟩=some (.bool true):=by rw[<- h];simp
  have n:=hid h
  cases hx:Ref.xe x with
  | false=>
   rw[XA];simp only[hx] at p;clear t q h;go_enter func325,ntmps325
   go_upto_region 1 with fail
   rw[n.out];have J:∀X:Grown g,X.w.cell? ⟨w.heap.size,0,none⟩=some (.string x):=λX=>zg X.b D;have f1:∀X:Grown g,X.w.cell? ⟨w.heap.size,1,none⟩=some (.bool true):=λX=>zg X.b E
   have R:Hid (∀(X:Grown g),Calls prog 332 #[.string x] X.w λe k=>e = .returned (.bool false)/\∃Y:Grown g,k=Y.w):=
    hid λX=>(p X.w).mono λe k ⟨he,hb⟩=>⟨he,⟨k,X.b.trans (hb.mono X.b.size)⟩,rfl⟩
   have NE:Nonempty (Grown g):=⟨⟨g,zh _ _⟩⟩;clear p D E;refine wp_region_quiet (C:=λU=>∃X:Grown g,U=X.w) (by kernel_rfl) (by kernel_rfl) ⟨⟨_,(zh _ g).drew⟩,rfl⟩ ?_;simp only
   repeat (go_big_quiet_step (first|exact R.out _))
   refine wpQuiet_nil ?_;intro r G;obtain⟨X,rfl⟩:=G;go_wp2_with fail;go_ret;exact⟨rfl,s.out.trans (X.b.mono s.out.size)⟩
  | true=>
   rw[Qi,<- Df x vals hx q];simp only[hx] at p;have Z:=λW=>rz x W hx;have A:=λ(W:World) (hb:Below w.heap.size w W)=>Ng vals H 335 De.Z8 W (Xv t hb) hn (enters_of func335 (by kernel_rfl) rfl) (λV v F _=>rz v V (q v F));have z:=λ(W:World) (ao:Option Addr) (cap:Nat) f=>Bn (vals.map De.Z8) (De.Z8 x) ao cap W (by rw[zN];omega) f;obtain⟨a,c,rfl,_⟩:=t;generalize hL:vals.map De.Z8=L at A z;have Q:=hid A;have P:=hid z;clear q h hL A z hx;go_enter func325,ntmps325
   go_upto_region 1 with fail
   rw[n.out]
   go_region_held3 (λr=>r.cell? ⟨w.heap.size,0,none⟩=some (.string x)/\r.cell? ⟨w.heap.size,1,none⟩=some (.bool true)) (go_keep) (first
    | ((go_at_call 335);refine (Z M).mono ?_;rintro e N ⟨rfl,o⟩;have i0:=zg o h0;have i1:=zg o h1;have y:=hid (tY T.out o);have m:Hid (Below w.heap.size w N):=l.out.trans (o.mono l.out.size);clear o)
    | ((go_at_call 334);refine (Q.out K j.out).mono ?_;rintro e M ⟨mv,rfl,i,d⟩;obtain⟨ma,mc,rfl,f⟩:=RX i;have T:=hid f;have h0:=zg d J;have h1:=zg d f1;have l:Hid (Below w.heap.size w M):=j.out.trans (d.mono j.out.size);clear d i f)
    | ((go_at_call 332);refine (p g.drew).mono ?_;rintro e K ⟨rfl,d⟩;have J:=zg d D;have f1:=zg d E;have j:Hid (Below w.heap.size w K):=s.out.trans (((zh _ g).drew.trans d).mono s.out.size);clear d)
    | ((go_at_call 333);refine (P.out N ma mc y.out).mono ?_;rintro e w4 ⟨rfl,d⟩;have k0:=zg d i0;have k1:=zg d i1;have u:Hid (Below w.heap.size w w4):=m.out.trans (d.mono m.out.size);clear d))
   all_goals
    go_wp2_with fail;go_ret;exact⟨rfl,u.out⟩
namespace De
def YD(c:zU)(r:Ref.Req):Bool:=((Ref.yf c.op&&(Ref.says r c.key).isNone)||Yr c.op c.vals r (Ref.says r c.key)) != c.no
def Uh(s:zB)(r:Ref.Req):Bool:=X7 s.who r.who r&&X7 s.act r.act r&&X7 s.on r.on r&&s.ifs.all λc=>YD c r
def Xm(eff:BA)(r:Ref.Req)(s:zB):Bool:=(s.eff.toList==eff.toList)&&Uh s r
def XT(eff:BA)(r:Ref.Req)(a:List zB):Option Nat:=a.findIdx? (Xm eff r)
def kr(eff:BA)(r:Ref.Req):List zy->Option (BA×Nat)
 | []=>none
 | x::L=>match XT eff r x.2 with
  | some k=>some (x.1,k+1)
  | none=>kr eff r L
def yH(st:Nat->List zy)(eff:BA)(r:Ref.Req):List Nat->Option (Nat×BA×Nat)
 | []=>none
 | i::is=>match kr eff r (st i) with
  | some (n,k)=>some (i,n,k)
  | none=>yH st eff r is
def vX:BA:=⟨#[97,108,108,111,119]⟩
def ZQ:BA:=⟨#[100,101,110,121]⟩
structure Dec where
 verdict:Nat
 layer:Nat
 doc:BA
 stmt:Nat
def silent:Dec:=⟨3,0,⟨#[]⟩,0⟩
def Oa:Dec:=⟨0,0,⟨#[]⟩,0⟩
def XW(st:Nat->List zy)(r:Ref.Req)(i:Nat):Bool:=(st i).isEmpty||(kr vX r (st i)).isSome
def Ji(st:Nat->List zy)(r:Ref.Req):Dec:=match yH st ZQ r [0,1,2,3] with
 | some (i,n,k)=>⟨2,i,n,k⟩
 | none=>if (XW st r 0&&XW st r 1)=false then silent else match yH st vX r [2,3] with
  | some (i,n,k)=>⟨1,i,n,k⟩
  | none=>silent
def kZ(st:Nat->List zy)(r:Ref.Req):Dec×Int:=if Ref.yN r then (Ji st r,0) else (Oa,11)
end De
def ZR(w:World)(v:Value)(cs:List zU):Prop:=
 ∃a cap,v = .slice a cs.length cap/\(cs=[]\/∃b o,a=some ⟨b,o,none⟩/\∀j,(h:j<cs.length)->∃c,w.cell? ⟨b,o+j*4,none⟩=some (.string cs[j].op)/\w.cell? ⟨b,o+j*4+1,none⟩=some (.string cs[j].key)/\w.cell? ⟨b,o+j*4+2,none⟩=some c/\w.cell? ⟨b,o+j*4+3,none⟩=some (.bool cs[j].no)/\vK w c cs[j].vals)
theorem ZR.below{w c:World}{v:Value}{cs:List zU}(h:ZR w v cs)(hb:Below w.heap.size w c):ZR c v cs:=by
 obtain⟨a,cap,e,h⟩:=h;refine⟨a,cap,e,?_⟩
 rcases h with h|⟨b,o,ha,hc⟩
 ·exact .inl h
 ·refine .inr ⟨b,o,ha,λj l=>?_⟩;obtain⟨m,d,f,g,i,k⟩:=hc j l;exact⟨m,zg hb d,zg hb f,zg hb g,zg hb i,Xv k hb⟩
structure X4 (w:World) (l1 l2 l3 lc:Value) (s:zB):Prop where
 who:vK w l1 s.who.2
 act:vK w l2 s.act.2
 on:vK w l3 s.on.2
 ifs:ZR w lc s.ifs
theorem X4.below{w e:World}{a b c d:Value}{s:zB}(h:X4 w a b c d s)(hb:Below w.heap.size w e):X4 e a b c d s:=
 ⟨Xv h.who hb,Xv h.act hb,Xv h.on hb,h.ifs.below hb⟩
def X5(w:World)(v:Value)(c:List zB):Prop:=
 ∃a cap,v = .slice a c.length cap/\(c=[]\/∃b o,a=some ⟨b,o,none⟩/\∀j,(h:j<c.length)->∃d e f g,w.cell? ⟨b,o+j*8,none⟩=some (.string c[j].eff)/\w.cell? ⟨b,o+j*8+1,none⟩=some (.bool c[j].who.1)/\w.cell? ⟨b,o+j*8+2,none⟩=some d/\w.cell? ⟨b,o+j*8+3,none⟩=some (.bool c[j].act.1)/\w.cell? ⟨b,o+j*8+4,none⟩=some e/\w.cell? ⟨b,o+j*8+5,none⟩=some (.bool c[j].on.1)/\w.cell? ⟨b,o+j*8+6,none⟩=some f/\w.cell? ⟨b,o+j*8+7,none⟩=some g/\X4 w d e f g c[j])
theorem X5.below{w d:World}{v:Value}{c:List zB}(h:X5 w v c)(hb:Below w.heap.size w d):X5 d v c:=by
 obtain⟨a,cap,e,h⟩:=h;refine⟨a,cap,e,?_⟩
 rcases h with h|⟨b,o,ha,hc⟩
 ·exact .inl h
 ·refine .inr ⟨b,o,ha,λj r=>?_⟩;obtain⟨s,t,u,x,f,g,i,k,l,m,n,p,q⟩:=hc j r;exact⟨s,t,u,x,zg hb f,zg hb g,zg hb i,zg hb k,zg hb l,zg hb m,zg hb n,zg hb p,q.below hb⟩
theorem tZ{w:World}{base n a:Nat}{e:TypeId}{v:Value}{xs:List Value}(h:w.ownsRow base e a v n xs):(n=0/\v = .slice none 0 0)\/∃g cap,v = .slice (some ⟨g,0,none⟩) n cap/\∀i,i<xs.length->w.cell? ⟨g,i,none⟩=xs[i]?:=by
 rcases h.2 with ⟨e0,h0⟩|⟨g,cap,cur,ev,_⟩
 ·exact .inl ⟨h0,e0⟩
 ·exact .inr ⟨g,cap,ev,λi hi=>World.ownsRow.cellAt (g:=g) (cap:=cap) (by rw[<- ev];exact h) i (by rw[<- h.1];exact hi)⟩
theorem Ed{w:World}{base:Nat}{e:TypeId}{v:Value}{xs:List Value}{cs:List zU}(h:w.ownsRow base e 4 v cs.length xs)
  (l:∀j,(c:j<cs.length)->∃a,xs[j*4]?=some (.string cs[j].op)/\xs[j*4+1]?=some (.string cs[j].key)/\xs[j*4+2]?=some a/\xs[j*4+3]?=some (.bool cs[j].no)/\vK w a cs[j].vals):ZR w v cs:=by
 have m:xs.length=cs.length*4:=h.1
 rcases tZ h with ⟨b,rfl⟩|⟨g,cap,rfl,hcell⟩
 ·have:cs=[]:=ZL.1 b
  subst this;exact⟨none,0,rfl,.inl rfl⟩
 ·refine⟨_,cap,rfl,.inr ⟨g,0,rfl,λj c=>?_⟩⟩;obtain⟨a,b,d,f,i,k⟩:=l j c;rw[qO];exact⟨a,(hcell _ (by omega)).trans b,(hcell _ (by omega)).trans d,(hcell _ (by omega)).trans f,(hcell _ (by omega)).trans i,k⟩
theorem TS{w:World}{base:Nat}{e:TypeId}{v:Value}{xs:List Value}{a:List zB}(h:w.ownsRow base e 8 v a.length xs)
  (t:∀j,(k:j<a.length)->∃b c d f,xs[j*8]?=some (.string a[j].eff)/\xs[j*8+1]?=some (.bool a[j].who.1)/\xs[j*8+2]?=some b/\xs[j*8+3]?=some (.bool a[j].act.1)/\xs[j*8+4]?=some c/\xs[j*8+5]?=some (.bool a[j].on.1)/\xs[j*8+6]?=some d/\xs[j*8+7]?=some f/\X4 w b c d f a[j]):X5 w v a:=by
 have u:xs.length=a.length*8:=h.1
 rcases tZ h with ⟨i,rfl⟩|⟨g,cap,rfl,hcell⟩
 ·have:a=[]:=ZL.1 i
  subst this;exact⟨none,0,rfl,.inl rfl⟩
 ·refine⟨_,cap,rfl,.inr ⟨g,0,rfl,λj k=>?_⟩⟩;obtain⟨b,c,d,f,i,l,m,n,o,p,q,r,s⟩:=t j k;rw[qO];exact⟨b,c,d,f,(hcell _ (by omega)).trans i,(hcell _ (by omega)).trans l,(hcell _ (by omega)).trans m,(hcell _ (by omega)).trans n,(hcell _ (by omega)).trans o,(hcell _ (by omega)).trans p,(hcell _ (by omega)).trans q,(hcell _ (by omega)).trans r,s⟩
theorem Ee{w:World}{base:Nat}{v:Value}{cs:List zU}(h:qN w base v cs):ZR w v cs:=by
 obtain⟨xs,f,g⟩:=h;refine Ed f λj i=>?_;obtain⟨k,a,b,c,d,e⟩:=g j i;exact⟨k,a,b,c,d,Ku rfl e⟩
theorem TT{w:World}{base:Nat}{v:Value}{c:List zB}(h:yo w base v c):X5 w v c:=by
 obtain⟨xs,a,b⟩:=h;refine TS a λj p=>?_;obtain⟨q,r,s,t,i,a,b,k,l,m,n,o,d,e,f,g⟩:=b j p;exact⟨q,r,s,t,i,a,b,k,l,m,n,o,⟨Ku rfl d,Ku rfl e,Ku rfl f,Ee g⟩⟩
theorem Ae{M:Nat->Prop}{w:World}{v:Value}{a:List zB}(h:ym M w v a):X5 w v a:=by
 obtain⟨base,h⟩:=h.at;exact TT h
theorem VQ{w:World}{v:Value}{l:List BA}(h:vK w v l):∃a c,v = .slice a l.length c/\vK w (.slice a l.length c) l:=by
 obtain⟨a,c,rfl,h⟩:=h;exact⟨a,c,rfl,a,c,rfl,h⟩
theorem Ef{w:World}{v:Value}{l:List zU}(h:ZR w v l):∃a c,v = .slice a l.length c/\ZR w (.slice a l.length c) l:=by
 obtain⟨a,c,rfl,h⟩:=h;exact⟨a,c,rfl,a,c,rfl,h⟩
def X8(op:BA)(vals:List BA)(r:Ref.Req)(S:Option BA):Bool:=(Ref.yf op&&S.isNone)||De.Yr op vals r S
theorem VE{op:BA}{l:List UInt8}(h:op.toList=l):jA op=zw (λk=>(opN k).toList==l) 5:=by
 unfold jA;rw[h]
theorem VF(k:Nat):(opN k).toList=(opN k).data.toList:=Qj _
theorem Iz:zw (λk=>(opN k).toList==[108,105,107,101]) 5=some 0:=by simp only[VF];decide
theorem IA:zw (λk=>(opN k).toList==[115,97,109,101]) 5=some 1:=by simp only[VF];decide
theorem Iy:zw (λk=>(opN k).toList==[98,101,108,111,119]) 5=some 2:=by simp only[VF];decide
theorem IB:zw (λk=>(opN k).toList==[117,110,100,101,114]) 5=some 3:=by simp only[VF];decide
theorem Iw:zw (λk=>(opN k).toList==[97,98,115,101,110,116]) 5=some 4:=by simp only[VF];decide
theorem OG(k:Nat)(a:k<5):∀args w,(callFunc (opT k) args).run prog w = .ok (.enter (opT k) args) w:=by
 rcases lt5 a with rfl|rfl|rfl|rfl|rfl
 ·exact enters_of func321 (by kernel_rfl) rfl
 ·exact enters_of func323 (by kernel_rfl) rfl
 ·exact enters_of func325 (by kernel_rfl) rfl
 ·exact enters_of func327 (by kernel_rfl) rfl
 ·exact enters_of func329 (by kernel_rfl) rfl
theorem WW(c:zU)(o:Value)(S:Option BA)(r:Ref.Req)(ao:Option Addr)(cap B:Nat)(w:World)(m:vK w o c.vals)(y:YX c)(p:c.vals.length<=1000)(q:∀v ∈ c.vals,v.size<=100000)(z:∀x,S=some x->x.size<=100/\(Ref.chars x).isSome=true)(u:uX w r ao cap B)(t:xH w) :
  ∃k,k<5/\jA c.op=some k/\Calls prog (opT k) #[kW S B,o] w λe A=>e = .returned (.bool (X8 c.op c.vals r S))/\Below w.heap.size w A:=by
 obtain⟨op,key,vals,no⟩:=c;simp only at m p q |-
 rcases y with ⟨ha,n⟩|⟨ha,hfit,hlike⟩
 ·simp only at ha n;subst n;have b:op.toList=[97,98,115,101,110,116]:=Jk ha;refine⟨4,by omega,(VE b).trans Iw,?_⟩
  have e:X8 op [] r S=S.isNone:=by
   unfold X8;rw[ha]
   cases S<;>rfl
  rw[e];exact IL S o B w
 ·simp only at ha hfit hlike;obtain⟨a,c,rfl,d⟩:=m;have m:vK w (.slice a vals.length c) vals:=⟨a,c,rfl,d⟩;have i:uO w a vals:=d;have s:X8 op vals r S=De.Yr op vals r S:=by unfold X8;rw[ha];rfl
  rw[s];unfold Ref.XU at hfit;rw[um] at hfit;obtain⟨j,f⟩:=hfit;unfold Ref.ui at f;simp only[V5] at f
  rcases f with ((h|h)|h)|h
  ·have b:=Jk h;refine⟨1,by omega,(VE b).trans IA,?_⟩
   have e:De.Yr op vals r S=(uj S λx=>vals.any λv=>x.toList==v.toList):=by
    cases S with
    | none=>rfl
    | some x=>
     refine Vi _ _ _ λv _=>?_;unfold De.YK Ref.xw De.yI;rw[b]
     rfl
   rw[e];exact La S vals a c B w (by omega) i
  ·have b:=Jk h;refine⟨3,by omega,(VE b).trans IB,?_⟩
   have e:De.Yr op vals r S=(uj S λx=>vals.any λv=>De.Qf x v):=by
    cases S with
    | none=>rfl
    | some x=>
     refine Vi _ _ _ λv _=>?_;unfold De.YK Ref.xw De.yI De.jw;rw[b]
     rfl
   rw[e];exact Lc S vals a c B w (by omega) q i
  ·have b:=Jk h;refine⟨2,by omega,(VE b).trans Iy,?_⟩
   have l:∀v ∈ vals,Ref.xe v=true:=λv n=>by
    have:=ve.1 j v n
    unfold Ref.QP at this;rw[b] at this
    simpa using this
   have e:De.Yr op vals r S=(uj S λx=>Ref.xe x&&vals.any λv=>De.X3 x v):=by
    cases S with
    | none=>rfl
    | some x=>
     have g:(vals.any λv=>De.YK op x v r)=vals.any λv=>(Ref.xe x&&De.X3 x v):=by
      refine Vi _ _ _ λv _=>?_;unfold De.YK Ref.xw De.yI De.jw;rw[b]
      rfl
     show (vals.any λv=>De.YK op x v r)=(Ref.xe x&&vals.any λv=>De.X3 x v);rw[g]
     cases Ref.xe x with
     | true=>rfl
     | false=>simp
   rw[e];exact IM S vals _ B w l p m
  ·have b:=Jk h;refine⟨0,by omega,(VE b).trans Iz,?_⟩
   have e:De.Yr op vals r S=(uj S λx=>vals.any λv=>Ref.vw v x r):=by
    cases S with
    | none=>rfl
    | some x=>
     refine Vi _ _ _ λv _=>?_;unfold De.YK Ref.xw;rw[b]
     rfl
   rw[e];exact IW S vals r ao a cap c B w z (hlike h) (by omega) i u t
theorem Iu(c:zU)(J:Value)(r:Ref.Req)(ao:Option Addr)(cap B:Nat)(w:World)(hm:vK w J c.vals)(hf:YX c)(hn:c.vals.length<=1000)(hz:∀v ∈ c.vals,v.size<=100000)(I:uX w r ao cap B)(O:xH w) :
  Calls prog 248 #[.agg #[.string c.op,.string c.key,J,.bool c.no],yj B] w λe t=>e = .returned (.bool (De.YD c r))/\Below w.heap.size w t:=by
 have P:=λ(W:World) (hb:Below w.heap.size w W)=>WW c J (Ref.says r c.key) r ao cap B W (Xv hm hb) hf hn hz (wB I.ok c.key) (I.below hb) (O.below hb);obtain⟨k,hk,i,_⟩:=P w (zh _ _)
 have b:∀(W:World),Below w.heap.size w W->Calls prog (opT k) #[kW (Ref.says r c.key) B,J] W λe t=>e = .returned (.bool (X8 c.op c.vals r (Ref.says r c.key)))/\Below W.heap.size W t:=by
  intro W hb;obtain⟨k',_,H,h3⟩:=P W hb;rw[i] at H;injection H with H
  rw[H];exact h3
 have h:De.YD c r=(X8 c.op c.vals r (Ref.says r c.key) != c.no):=rfl;rw[h];have o:=λ(W:World) (hb:Below w.heap.size w W)=>dI c.op W (O.below hb).ops;have A:=λ(W:World) (hb:Below w.heap.size w W)=>I.call W c.key hb;rw[i] at o;have eg:=OG k hk;have es:=wz;obtain⟨a,Q,rfl,_⟩:=hm;obtain⟨op,key,vals,no⟩:=c;simp only at b o A |-;obtain⟨S,p⟩:=Nm (Ref.says r key);simp only[p] at b A;rw[p];obtain⟨T,q⟩:=Nm (X8 op vals r S);simp only[q] at b;rw[q];unfold kW yj at b;unfold opV at o;unfold yj;simp only[vT] at o;obtain⟨G,s⟩:∃g,opT k=g:=⟨_,rfl⟩;obtain⟨fl,E⟩:∃g,opL k=g:=⟨_,rfl⟩;obtain⟨ON,C⟩:∃g,opN k=g:=⟨_,rfl⟩;rw[s] at b eg;simp only[s,E,C] at o;obtain⟨X,Z⟩:=Nm (S.getD ⟨#[]⟩);obtain⟨TH,D⟩:∃X,S.isSome=X:=⟨_,rfl⟩;simp only[Z,D] at b A;have HT:=hid b;have CO:=hid o;have CS:=hid A;obtain⟨x,f⟩:∃W,w.alloc (.cells #[.string op,.string key,.slice a vals.length Q,.bool no] 241)=W:=⟨_,rfl⟩;have L:Hid (Below w.heap.size w x):=hid (by rw[<- f];exact nB w _);have R:x.cell? ⟨w.heap.size,0,none⟩=some (.string op):=by rw[<- f];simp
 have U:x.cell? ⟨w.heap.size,1,none⟩=some (.string key):=by rw[<- f];simp
 have V:x.cell? ⟨w.heap.size,2,none⟩=some (.slice a vals.length Q):=by rw[<- f];simp
 have Y:x.cell? ⟨w.heap.size,3,none⟩=some (.bool no):=by rw[<- f];simp
 have N:=hid f;have sf:=λW a g m=>kE prog W a (.func (.func g) #[] #[]) m rfl;clear P b o A p q s E C Z D f i h hf hn hz I O hk;go_enter func248,ntmps248
 go_upto_region 1 with fail
 rw[N.out]
 go_upto_region 2 with (go_at_call 232;refine (CO.out x L.out).mono ?_;rintro e u ⟨rfl,d⟩;have k0:=zg d R;have k1:=zg d U;have k2:=zg d V;have k3:=zg d Y;have j:Hid (Below w.heap.size w u):=L.out.trans (d.mono L.out.size);clear d)
 obtain⟨K,hw2⟩:∃W,u.alloc (.cells #[.string ON,.func (.func fl) #[] #[],.func (.func G) #[] #[]] 342)=W:=⟨_,rfl⟩;have f2:K.cell? ⟨u.heap.size,2,none⟩=some (.func (.func G) #[] #[]):=by rw[<- hw2];simp
 have z:Below u.heap.size u K:=by rw[<- hw2];exact nB u _
 have j1:=zg z k1;have j2:=zg z k2;have j3:=zg z k3;have l:Hid (Below w.heap.size w K):=hid (j.out.trans (z.mono j.out.size));rw[hw2];clear hw2 z k0 k1 k2 k3 j R U V Y
 go_upto_region 3 with (go_at_fn 215;refine (CS.out K l.out).mono ?_;rintro e F ⟨rfl,d⟩;have f3:=zg d f2;have l2:=zg d j2;have l3:=zg d j3;have n:Hid (Below w.heap.size w F):=l.out.trans (d.mono l.out.size);clear d)
 go_region_held3 (λt=>t.cell? ⟨u.heap.size,2,none⟩=some (.func (.func G) #[] #[])/\t.cell? ⟨w.heap.size,2,none⟩=some (.slice a vals.length Q)/\t.cell? ⟨w.heap.size,3,none⟩=some (.bool no)) (go_keep) (first
  | ((go_at_fn G);refine (HT.out F.drew n.out.drew).mono ?_;rintro e w4 ⟨rfl,d⟩;have y:Below F.heap.size F w4:=(zh _ F).drew.trans d;have f4:=zg y f3;have m2:=zg y l2;have m3:=zg y l3;have M:Hid (Below w.heap.size w w4):=n.out.trans (y.mono n.out.size);clear d y))
 all_goals
  go_wp2_with fail;go_ret;exact⟨rfl,M.out⟩
end Go.Proofs.YtdakgnaojakldaaGreatDoor
