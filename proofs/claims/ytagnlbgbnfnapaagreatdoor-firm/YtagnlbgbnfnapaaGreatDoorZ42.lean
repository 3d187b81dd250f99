/- P -/
import Derived.Test.YtagnlbgbnfnapaaGreatDoorZ41
open Go.Proofs.Tryz
set_option maxRecDepth 100000
set_option maxHeartbeats 2000000
namespace Go.Proofs.YtagnlbgbnfnapaaGreatDoor
open Go.RowKit
def Vm(w:World)(ao:Option Addr)(n:Nat)(v:Nat->Int):Prop:=
 n=0\/∃b o,ao=some ⟨b,o,none⟩/\∀j,j<n->w.cell? ⟨b,o+j,none⟩=some (.int .i64 (v j))
theorem Bc{w a:World}{ao:Option Addr}{n:Nat}{v:Nat->Int}(h:Vm w ao n v)(hb:Below w.heap.size w a):Vm a ao n v:=by
 rcases h with h|⟨b,o,h1,h2⟩
 ·exact .inl h
 ·exact .inr ⟨b,o,h1,λj c=>zh hb (h2 j c)⟩
theorem IU(n:Nat)(ao:Option Addr)(cap g:Nat)(r:Array Value)(v:Nat->Int)(p:Nat->Bool)(w:World)(z:n<=1000000000000)(x:∀args w,(callFunc g args).run prog w = .ok (.enter g args) w)
  (t:Vm w ao n v)(u:jQ g r (λj => .int .i64 (v j)) n p w) :
  Calls prog 340 #[.slice ao n cap,.func (.func g) #[] r] w λe l=>
   e = .returned (.tuple #[.int .i64 (((zD p n).getD 0:Nat):Int),.bool (zD p n).isSome])/\Below w.heap.size w l:=by
 generalize hF:zD p n=F;have m:=hid hF;clear hF;go_enter func340,ntmps340
 go_wp2
 go_loopw [10] (λi wr=>∃k:Nat,k<=n/\i = .int .i64 k/\(∀j,j<k->p j=false)/\Below w.heap.size w wr) (λi _=>n-(intOf i).toNat)
 case atStart=>exact⟨0,zU _,rfl,λj h=>by omega,zi _ _⟩
 case round=>
  obtain⟨k,y,rfl,hb,c⟩:=hrel;have f:=hid hb;clear hb
  by_cases hlt:k<n
  ·rcases t with h0|⟨b,o,rfl,hcc⟩
   ·omega
   have q:=zh c (hcc k hlt);have a:=λW hb=>u W k hlt hb;simp only at a
   cases hpp:p k with
   | false=>
    rw[hpp] at a;have s:=hid hpp;clear hpp
    go_wp2_with (go_at_fn g;refine (a _ c).mono ?_;rintro e l ⟨rfl,d⟩)
    refine⟨⟨k+1,by omega,by go_num,λj h=>?_,c.trans (d.mono c.size)⟩,by simp[intOf];omega⟩
    by_cases hj:j=k
    ·subst hj;exact s.out
    ·exact f.out j (by omega)
   | true=>
    rw[hpp] at a;have e:=QA p n k hlt f.out hpp;rw[m.out] at e;subst e;clear hpp
    go_wp2_with (go_at_fn g;refine (a _ c).mono ?_;rintro e l ⟨rfl,d⟩)
    go_ret2;exact⟨rfl,c.trans (d.mono c.size)⟩
  ·have e:=QB p n (λj h=>f.out j (by omega));rw[m.out] at e;subst e
   go_wp2
   go_ret2;exact⟨rfl,c⟩
theorem DL(n:Nat)(ao:Option Addr)(cap g:Nat)(b:Array Value)(v:Nat->Int)(p:Nat->Bool)(w:World)(i:n<=1000000000000)(f:∀args w,(callFunc g args).run prog w = .ok (.enter g args) w)
  (h:Vm w ao n v)(k:jQ g b (λj => .int .i64 (v j)) n p w) :
  Calls prog 335 #[.slice ao n cap,.func (.func g) #[] b] w λe d=>
   e = .returned (.bool (zD p n).isSome)/\Below w.heap.size w d:=by
 have c:=IU n ao cap g b v p w i f h k;generalize zD p n=F at c;go_enter func335,ntmps335
 go_wp2_with (go_at_call 340;refine c.mono ?_;rintro e d ⟨rfl,a⟩)
 go_ret;exact⟨rfl,a⟩
theorem Mr:(prog.info? 2).map (λi=>(i.zero,i.size,i.bytes))=some (some (.int .i64 0),1,8):=by kernel_rfl
def JC(w:World)(base:Nat)(a:Value)(l:List Int):Prop:=w.ownsRow base 2 1 a l.length (l.map (Value.int .i64))
def Cz(w:World)(outs:List Int)(e:Ending)(b:World):Prop:=∃a,e = .returned a/\JC b w.heap.size a outs/\Below w.heap.size w b
theorem Ov{w:World}{B:Nat}{a:Value}{l:List Int}{s:Int}(h:w.ownsRow B 2 1 a (l.length+1) (l.map (Value.int .i64)++[.int .i64 s])):JC w B a (l++[s]):=by
 unfold JC;rw[jN,qL];exact h
theorem SF{w:World}{base:Nat}{d:Value}{l:List Int}(h:JC w base d l):∃a c,d = .slice a l.length c/\Vm w a l.length (λj=>l.getD j 0):=by
 rcases h.2 with ⟨rfl,h0⟩|⟨g,cap,cur,ev,_⟩
 ·exact⟨none,0,by rw[h0],.inl h0⟩
 ·refine⟨_,cap,ev,.inr ⟨g,0,rfl,λj b=>?_⟩⟩;rw[qM,World.ownsRow.cellAt (g:=g) (cap:=cap) (by rw[<- ev];exact h) j (by omega),vv,zt b];simp[b]
theorem NN(b:List BA)(Z:Value)(g:Nat)(out:BA->Int)(w:World)(h:uj w Z b)(hn:b.length<=1000)(eg:∀args w,(callFunc g args).run prog w = .ok (.enter g args) w)
  (T:∀W s,s ∈ b->Below w.heap.size w W->Calls prog g #[.string s] W λe w'=>e = .returned (.int .i64 (out s))/\Below W.heap.size W w') :
  Calls prog 327 #[Z,.func (.func g) #[] #[]] w (Cz w (b.map out)):=by
 obtain⟨Y,hi,G,H,I⟩:=jl Mr;obtain⟨a,c,rfl,p⟩:=h;obtain⟨n,l⟩:=Nm b.length
 have f:∀(k:Nat) (x:BA),b[k]?=some x->∃E o,a=some ⟨E,o,none⟩/\w.cell? ⟨E,o+k,none⟩=some (.string x):=by
  intro k x hx;obtain⟨m,rfl⟩:=xw.1 hx
  rcases p with e|⟨E,o,e,hc⟩
  ·rw[e] at m;simp at m
  ·exact⟨E,o,e,hc k m⟩
 rw[l];rw[l] at hn;have HC:=hid f;have HP:=hid T;have R:=hid l;clear f T l p;go_enter func327,ntmps327
 go_wp2_with (at_make;refine wpList_make_own _ rfl _ _ 446 rfl w.heap.size 2 Y (.int .i64 0) 1 underlying446 hi G H _ _ _ n rfl rfl rfl ?_ ?_ ?_ ?_)
 ·rw[I];omega
 ·unfold maxLen;omega
 ·omega
 intro w1 r d;have D:=hid r;have B:Hid (Below w.heap.size w w1):=(zi _ w).grown d (ze _) (λk m=>by cases m);clear r d;go_wp2_with fail
 go_loopw [5,7,13] (λov _ Q wr=>∃(k:Nat),k<=n/\Q = .int .i64 k/\JC wr w.heap.size ov ((b.take k).map out)/\Below w.heap.size w wr) (λ_ _ Q _=>n-(intOf Q).toNat)
 case atStart=>exact⟨0,zU _,rfl,D.out,B.out⟩
 case round=>
  obtain⟨k,m,rfl,A,hb⟩:=hrel;have J:=hid A;have z:=hid hb;clear A hb D B
  by_cases hlt:k<n
  ·have v:k<b.length:=by rw[R.out];exact hlt
   obtain⟨E,o,rfl,q⟩:=HC.out k _ (zt v);have q2:=zh z.out q;have O:=HP.out wr b[k] (xg v) z.out;have y:Hid ((b.take (k+1)).map out=(b.take k).map out++[out b[k]]):=hid (by rw[VB,zt v,jN];rfl);have F:((b.take k).map out).length=k:=by rw[qg,xE];omega
   obtain⟨s,U⟩:=Nm (b[k]);rw[U] at q2 O y;have CC:=hid O;obtain⟨L,S⟩:=Nm ((b.take k).map out);rw[S] at J y F;clear q O U S
   go_wp2_with (first
    | (go_at_fn g;refine CC.out.mono ?_;rintro e w2 ⟨rfl,t⟩;have C:=hid t;have X:=t.size;have a6:=z.out.size;clear t)
    | (at_builtin;refine YF _ rfl _ _ 446 rfl w.heap.size 2 Y (.int .i64 0) 1 8 underlying446 hi G H I rfl (by decide) _ L.length (L.map (Value.int .i64)) rfl (World.ownsRow.alloc (ownsRow_below J.out C.out) _) ⟨w2.heap.size,0,none⟩ 1 1 [.int .i64 (out s)] rfl rfl ?_ ?_ ?_ ?_ ?_ ?_))
   ·exact sQ _ _ _
   ·intro u V;simp at V;rcases V with rfl;rfl
   ·unfold maxLen;omega
   ·omega
   ·simp;omega
   ·intro v' w3 j i _;have N:Hid (JC w3 w.heap.size v' ((b.take (k+1)).map out)):=by rw[y.out];exact Ov (by rw[F];exact j)
    have K:Hid (Below w.heap.size w w3):=((z.out.trans (C.out.mono z.out.size)).alloc (by omega) _).grown i (by simp;omega) (λk m=>(World.ownsRow.lt J.out k m).1);clear j i
    go_wp2
    go_roundw
    case rel=>exact⟨k+1,by omega,by go_num,N.out,K.out⟩
    case measure=>simp[intOf];omega
  ·have P:k=n:=by omega
   subst P;have A:=J.out;rw[ZU (by rw[R.out];omega)] at A;have M:=hid A;clear A
   go_wp2
   go_ret;exact⟨_,rfl,M.out,z.out⟩
theorem Dh(z n:Int)(B:Nat)(w:World)(b:w.cell? ⟨B,0,none⟩=some (.int .i64 n)) :
  Calls prog 336 #[.int .i64 z,.pointer (some ⟨B,0,none⟩)] w λe a=>e = .returned (.bool (decide (n<z)))/\Below w.heap.size w a:=by
 go_enter func336,ntmps336
 go_wp2
 go_ret;exact⟨rfl,zi _ _⟩
theorem Di(l:List Int)(n:Int)(ao:Option Addr)(cap:Nat)(w:World)(h:l.length<=100000000000)(f:Vm w ao l.length (λj=>l.getD j 0)) :
  Calls prog 326 #[.slice ao l.length cap,.int .i64 n] w λe d=>e = .returned (.bool (l.any λz=>decide (n<z)))/\Below w.heap.size w d:=by
 have a:=nB w (.cells #[.int .i64 n] 2)
 have c:=DL l.length ao cap 336 #[.pointer (some ⟨w.heap.size,0,none⟩)] (λj=>l.getD j 0) (λj=>decide (n<l.getD j 0)) (w.alloc (.cells #[.int .i64 n] 2)) (by omega)
  (qx func336 (by kernel_rfl) rfl) (Bc f a)
  (λW j g hb=>Dh (l.getD j 0) n w.heap.size W (zh hb (by simp)))
 rw[show (zD (λj=>decide (n<l.getD j 0)) l.length).isSome=l.any (λz=>decide (n<z)) from VH l 0 (λz=>decide (n<z))] at c
 generalize (l.any λz=>decide (n<z))=F at c;go_enter func326,ntmps326
 go_wp2_with (go_at_call 335;refine c.mono ?_;rintro e d ⟨rfl,b⟩)
 go_ret;exact⟨rfl,a.trans (b.mono (by simp))⟩
theorem VI{α:Type}(l:List α)(f g:α->Bool)(h:∀x ∈ l,f x=g x):l.any f=l.any g:=by
 rw[vk,uT,uT]
 constructor
 ·rintro ⟨x,a,b⟩;exact⟨x,a,by rw[<- h x a];exact b⟩
 ·rintro ⟨x,a,b⟩;exact⟨x,a,by rw[h x a];exact b⟩
theorem Ey(x:BA)(vals:List BA)(c:Ref.xB x=true)(b:∀v ∈ vals,Ref.xB v=true):((vals.map De.QH).any λz=>decide (De.QH x<z))=vals.any λv=>De.Yy x v:=by
 rw[QV];exact VI _ _ _ λv a=>(De.TS c (b v a)).symm
theorem MC(S:Option BA)(vals:List BA)(G:Value)(B:Nat)(w:World)(p:∀v ∈ vals,Ref.xB v=true)(hn:vals.length<=1000)(s:uj w G vals) :
  Calls prog 318 #[Zy S B,G] w λe q=>e = .returned (.bool (uM S λx=>Ref.xB x&&vals.any λv=>De.Yy x v))/\Below w.heap.size w q:=by
 have H:=λO:Obj=>nB w O;unfold Zy yw
 cases S with
 | none=>
  simp only[uM,Q0,kU];clear s p;go_enter func318,ntmps318;go_wp2_with fail
  go_quiet (fail)
  go_wp2_with fail;go_ret;exact⟨rfl,below_drewN (H _) _⟩
 | some x=>
  simp only[uM,yO,uw];have o:=λW=>rH x W;obtain⟨f,g⟩:∃W,w.alloc (.cells #[.string x,.bool true,.func (.func 160) #[] #[.pointer (some ⟨B,0,none⟩)]] 397)=W:=⟨_,rfl⟩;have r:Hid (Below w.heap.size w f):=hid (by rw[<- g];exact H _);have A:f.cell? ⟨w.heap.size,0,none⟩=some (.string x):=by rw[<- g];simp
  have D:f.cell? ⟨w.heap.size,1,none⟩=some (.bool true):=by rw[<- g];simp
  have m:=hid g
  cases hx:Ref.xB x with
  | false=>
   rw[X8];simp only[hx] at o;clear s p g;go_enter func318,ntmps318
   go_upto_region 1 with fail
   rw[m.out];have I:∀X:Grown f,X.w.cell? ⟨w.heap.size,0,none⟩=some (.string x):=λX=>zh X.b A;have f1:∀X:Grown f,X.w.cell? ⟨w.heap.size,1,none⟩=some (.bool true):=λX=>zh X.b D
   have Q:Hid (∀(X:Grown f),Calls prog 325 #[.string x] X.w λe j=>e = .returned (.bool false)/\∃Y:Grown f,j=Y.w):=
    hid λX=>(o X.w).mono λe j ⟨he,hb⟩=>⟨he,⟨j,X.b.trans (hb.mono X.b.size)⟩,rfl⟩
   have NE:Nonempty (Grown f):=⟨⟨f,zi _ _⟩⟩;clear o A D;refine wp_region_quiet (C:=λT=>∃X:Grown f,T=X.w) (by kernel_rfl) (by kernel_rfl) ⟨⟨_,(zi _ f).drew⟩,rfl⟩ ?_;simp only
   repeat (go_big_quiet_step (first|exact Q.out _))
   refine wpQuiet_nil ?_;intro q F;obtain⟨X,rfl⟩:=F;go_wp2_with fail;go_ret;exact⟨rfl,r.out.trans (X.b.mono r.out.size)⟩
  | true=>
   rw[Qg,<- Ey x vals hx p];simp only[hx] at o;have V:=λW=>wD x W hx;have z:=λ(W:World) (hb:Below w.heap.size w W)=>NN vals G 328 De.QH W (X4 s hb) hn (qx func328 (by kernel_rfl) rfl) (λU v E _=>wD v U (p v E));have y:=λ(W:World) (ao:Option Addr) (cap:Nat) d=>Di (vals.map De.QH) (De.QH x) ao cap W (by rw[qg];omega) d;obtain⟨a,c,rfl,_⟩:=s;generalize hL:vals.map De.QH=L at z y;have P:=hid z;have N:=hid y;clear p g hL z y hx;go_enter func318,ntmps318
   go_upto_region 1 with fail
   rw[m.out]
   go_region_held3 (λq=>q.cell? ⟨w.heap.size,0,none⟩=some (.string x)/\q.cell? ⟨w.heap.size,1,none⟩=some (.bool true)) (go_keep) (first
    | ((go_at_call 328);refine (V K).mono ?_;rintro e M ⟨rfl,n⟩;have i0:=zh n Z;have i1:=zh n h1;have u:=hid (Bc R.out n);have l:Hid (Below w.heap.size w M):=k.out.trans (n.mono k.out.size);clear n)
    | ((go_at_call 327);refine (P.out J i.out).mono ?_;rintro e K ⟨mv,rfl,h,bb⟩;obtain⟨ma,mc,rfl,d⟩:=SF h;have R:=hid d;have Z:=zh bb I;have h1:=zh bb f1;have k:Hid (Below w.heap.size w K):=i.out.trans (bb.mono i.out.size);clear bb h d)
    | ((go_at_call 325);refine (o f.drew).mono ?_;rintro e J ⟨rfl,bb⟩;have I:=zh bb A;have f1:=zh bb D;have i:Hid (Below w.heap.size w J):=r.out.trans (((zi _ f).drew.trans bb).mono r.out.size);clear bb)
    | ((go_at_call 326);refine (N.out M ma mc u.out).mono ?_;rintro e w4 ⟨rfl,bb⟩;have k0:=zh bb i0;have k1:=zh bb i1;have t:Hid (Below w.heap.size w w4):=l.out.trans (bb.mono l.out.size);clear bb))
   all_goals
    go_wp2_with fail;go_ret;exact⟨rfl,t.out⟩
namespace De
def Y6(c:qF)(r:Ref.Req):Bool:=((Ref.jm c.op&&(Ref.says r c.key).isNone)||YX c.op c.vals r (Ref.says r c.key)) != c.no
def VJ(s:zT)(r:Ref.Req):Bool:=uk s.who r.who r&&uk s.act r.act r&&uk s.on r.on r&&s.ifs.all λc=>Y6 c r
def yH(eff:BA)(r:Ref.Req)(s:zT):Bool:=(s.eff.toList==eff.toList)&&VJ s r
def uA(eff:BA)(r:Ref.Req)(a:List zT):Option Nat:=a.findIdx? (yH eff r)
def yc(eff:BA)(r:Ref.Req):List zu->Option (BA×Nat)
 | []=>none
 | x::L=>match uA eff r x.2 with
  | some k=>some (x.1,k+1)
  | none=>yc eff r L
def qX(a:Nat->List zu)(eff:BA)(r:Ref.Req):List Nat->Option (Nat×BA×Nat)
 | []=>none
 | i::is=>match yc eff r (a i) with
  | some (n,k)=>some (i,n,k)
  | none=>qX a eff r is
def xR:BA:=⟨#[97,108,108,111,119]⟩
def yo:BA:=⟨#[100,101,110,121]⟩
structure Dec where
 verdict:Nat
 layer:Nat
 doc:BA
 stmt:Nat
def silent:Dec:=⟨3,0,⟨#[]⟩,0⟩
def OH:Dec:=⟨0,0,⟨#[]⟩,0⟩
def jH(a:Nat->List zu)(r:Ref.Req)(i:Nat):Bool:=(a i).isEmpty||(yc xR r (a i)).isSome
def Za(a:Nat->List zu)(r:Ref.Req):Dec:=match qX a yo r [0,1,2,3] with
 | some (i,n,k)=>⟨2,i,n,k⟩
 | none=>if (jH a r 0&&jH a r 1)=false then silent else match qX a xR r [2,3] with
  | some (i,n,k)=>⟨1,i,n,k⟩
  | none=>silent
def yF(a:Nat->List zu)(r:Ref.Req):Dec×Int:=if Ref.yT r then (Za a r,0) else (OH,11)
end De
def Qt(w:World)(v:Value)(cs:List qF):Prop:=
 ∃a cap,v = .slice a cs.length cap/\(cs=[]\/∃b o,a=some ⟨b,o,none⟩/\∀j,(h:j<cs.length)->∃c,w.cell? ⟨b,o+j*4,none⟩=some (.string cs[j].op)/\w.cell? ⟨b,o+j*4+1,none⟩=some (.string cs[j].key)/\w.cell? ⟨b,o+j*4+2,none⟩=some c/\w.cell? ⟨b,o+j*4+3,none⟩=some (.bool cs[j].no)/\uj w c cs[j].vals)
theorem Qt.below{w c:World}{v:Value}{cs:List qF}(h:Qt w v cs)(hb:Below w.heap.size w c):Qt c v cs:=by
 obtain⟨a,cap,e,h⟩:=h;refine⟨a,cap,e,?_⟩
 rcases h with h|⟨b,o,ha,hc⟩
 ·exact .inl h
 ·refine .inr ⟨b,o,ha,λj l=>?_⟩;obtain⟨m,d,f,g,i,k⟩:=hc j l;exact⟨m,zh hb d,zh hb f,zh hb g,zh hb i,X4 k hb⟩
structure Yz (w:World) (l1 l2 l3 lc:Value) (s:zT):Prop where
 who:uj w l1 s.who.2
 act:uj w l2 s.act.2
 on:uj w l3 s.on.2
 ifs:Qt w lc s.ifs
theorem Yz.below{w e:World}{a b c d:Value}{s:zT}(h:Yz w a b c d s)(hb:Below w.heap.size w e):Yz e a b c d s:=
 ⟨X4 h.who hb,X4 h.act hb,X4 h.on hb,h.ifs.below hb⟩
def YA(w:World)(v:Value)(c:List zT):Prop:=
 ∃a cap,v = .slice a c.length cap/\(c=[]\/∃b o,a=some ⟨b,o,none⟩/\∀j,(h:j<c.length)->∃d e f g,w.cell? ⟨b,o+j*8,none⟩=some (.string c[j].eff)/\w.cell? ⟨b,o+j*8+1,none⟩=some (.bool c[j].who.1)/\w.cell? ⟨b,o+j*8+2,none⟩=some d/\w.cell? ⟨b,o+j*8+3,none⟩=some (.bool c[j].act.1)/\w.cell? ⟨b,o+j*8+4,none⟩=some e/\w.cell? ⟨b,o+j*8+5,none⟩=some (.bool c[j].on.1)/\w.cell? ⟨b,o+j*8+6,none⟩=some f/\w.cell? ⟨b,o+j*8+7,none⟩=some g/\Yz w d e f g c[j])
theorem YA.below{w d:World}{v:Value}{c:List zT}(h:YA w v c)(hb:Below w.heap.size w d):YA d v c:=by
 obtain⟨a,cap,e,h⟩:=h;refine⟨a,cap,e,?_⟩
 rcases h with h|⟨b,o,ha,hc⟩
 ·exact .inl h
 ·refine .inr ⟨b,o,ha,λj r=>?_⟩;obtain⟨s,t,u,x,f,g,i,k,l,m,n,p,q⟩:=hc j r;exact⟨s,t,u,x,zh hb f,zh hb g,zh hb i,zh hb k,zh hb l,zh hb m,zh hb n,zh hb p,q.below hb⟩
theorem Bd{w:World}{base n a:Nat}{e:TypeId}{v:Value}{xs:List Value}(h:w.ownsRow base e a v n xs):(n=0/\v = .slice none 0 0)\/∃g cap,v = .slice (some ⟨g,0,none⟩) n cap/\∀i,i<xs.length->w.cell? ⟨g,i,none⟩=xs[i]?:=by
 rcases h.2 with ⟨e0,h0⟩|⟨g,cap,cur,ev,_⟩
 ·exact .inl ⟨h0,e0⟩
 ·exact .inr ⟨g,cap,ev,λi hi=>World.ownsRow.cellAt (g:=g) (cap:=cap) (by rw[<- ev];exact h) i (by rw[<- h.1];exact hi)⟩
theorem Fw{w:World}{base:Nat}{e:TypeId}{v:Value}{xs:List Value}{cs:List qF}(h:w.ownsRow base e 4 v cs.length xs)
  (l:∀j,(c:j<cs.length)->∃a,xs[j*4]?=some (.string cs[j].op)/\xs[j*4+1]?=some (.string cs[j].key)/\xs[j*4+2]?=some a/\xs[j*4+3]?=some (.bool cs[j].no)/\uj w a cs[j].vals):Qt w v cs:=by
 have m:xs.length=cs.length*4:=h.1
 rcases Bd h with ⟨b,rfl⟩|⟨g,cap,rfl,hcell⟩
 ·have:cs=[]:=uW.1 b
  subst this;exact⟨none,0,rfl,.inl rfl⟩
 ·refine⟨_,cap,rfl,.inr ⟨g,0,rfl,λj c=>?_⟩⟩;obtain⟨a,b,d,f,i,k⟩:=l j c;rw[qM];exact⟨a,(hcell _ (by omega)).trans b,(hcell _ (by omega)).trans d,(hcell _ (by omega)).trans f,(hcell _ (by omega)).trans i,k⟩
theorem Wz{w:World}{base:Nat}{e:TypeId}{v:Value}{xs:List Value}{a:List zT}(h:w.ownsRow base e 8 v a.length xs)
  (t:∀j,(k:j<a.length)->∃b c d f,xs[j*8]?=some (.string a[j].eff)/\xs[j*8+1]?=some (.bool a[j].who.1)/\xs[j*8+2]?=some b/\xs[j*8+3]?=some (.bool a[j].act.1)/\xs[j*8+4]?=some c/\xs[j*8+5]?=some (.bool a[j].on.1)/\xs[j*8+6]?=some d/\xs[j*8+7]?=some f/\Yz w b c d f a[j]):YA w v a:=by
 have u:xs.length=a.length*8:=h.1
 rcases Bd h with ⟨i,rfl⟩|⟨g,cap,rfl,hcell⟩
 ·have:a=[]:=uW.1 i
  subst this;exact⟨none,0,rfl,.inl rfl⟩
 ·refine⟨_,cap,rfl,.inr ⟨g,0,rfl,λj k=>?_⟩⟩;obtain⟨b,c,d,f,i,l,m,n,o,p,q,r,s⟩:=t j k;rw[qM];exact⟨b,c,d,f,(hcell _ (by omega)).trans i,(hcell _ (by omega)).trans l,(hcell _ (by omega)).trans m,(hcell _ (by omega)).trans n,(hcell _ (by omega)).trans o,(hcell _ (by omega)).trans p,(hcell _ (by omega)).trans q,(hcell _ (by omega)).trans r,s⟩
theorem Fx{w:World}{base:Nat}{v:Value}{cs:List qF}(h:xJ w base v cs):Qt w v cs:=by
 obtain⟨xs,f,g⟩:=h;refine Fw f λj i=>?_;obtain⟨k,a,b,c,d,e⟩:=g j i;exact⟨k,a,b,c,d,KT rfl e⟩
theorem WB{w:World}{base:Nat}{v:Value}{c:List zT}(h:jP w base v c):YA w v c:=by
 obtain⟨xs,a,b⟩:=h;refine Wz a λj p=>?_;obtain⟨q,r,s,t,i,a,b,k,l,m,n,o,d,e,f,g⟩:=b j p;exact⟨q,r,s,t,i,a,b,k,l,m,n,o,⟨KT rfl d,KT rfl e,KT rfl f,Fx g⟩⟩
theorem BL{M:Nat->Prop}{w:World}{v:Value}{a:List zT}(h:yV M w v a):YA w v a:=by
 obtain⟨base,h⟩:=h.at;exact WB h
theorem Uj{w:World}{v:Value}{l:List BA}(h:uj w v l):∃a c,v = .slice a l.length c/\uj w (.slice a l.length c) l:=by
 obtain⟨a,c,rfl,h⟩:=h;exact⟨a,c,rfl,a,c,rfl,h⟩
theorem Fy{w:World}{v:Value}{l:List qF}(h:Qt w v l):∃a c,v = .slice a l.length c/\Qt w (.slice a l.length c) l:=by
 obtain⟨a,c,rfl,h⟩:=h;exact⟨a,c,rfl,a,c,rfl,h⟩
def YC(op:BA)(vals:List BA)(r:Ref.Req)(S:Option BA):Bool:=(Ref.jm op&&S.isNone)||De.YX op vals r S
theorem V8{op:BA}{l:List UInt8}(h:op.toList=l):jJ op=zD (λk=>(opN k).toList==l) 5:=by
 unfold jJ;rw[h]
theorem V9(k:Nat):(opN k).toList=(opN k).data.toList:=QQ _
theorem Mk:zD (λk=>(opN k).toList==[108,105,107,101]) 5=some 0:=by simp only[V9];decide
theorem Ml:zD (λk=>(opN k).toList==[115,97,109,101]) 5=some 1:=by simp only[V9];decide
theorem Mj:zD (λk=>(opN k).toList==[98,101,108,111,119]) 5=some 2:=by simp only[V9];decide
theorem Mm:zD (λk=>(opN k).toList==[117,110,100,101,114]) 5=some 3:=by simp only[V9];decide
theorem Mi:zD (λk=>(opN k).toList==[97,98,115,101,110,116]) 5=some 4:=by simp only[V9];decide
theorem Py(k:Nat)(a:k<5):∀args w,(callFunc (opT k) args).run prog w = .ok (.enter (opT k) args) w:=by
 rcases lt5 a with rfl|rfl|rfl|rfl|rfl
 ·exact qx func314 (by kernel_rfl) rfl
 ·exact qx func316 (by kernel_rfl) rfl
 ·exact qx func318 (by kernel_rfl) rfl
 ·exact qx func320 (by kernel_rfl) rfl
 ·exact qx func322 (by kernel_rfl) rfl
theorem zaC(c:qF)(o:Value)(S:Option BA)(r:Ref.Req)(ao:Option Addr)(cap B:Nat)(w:World)(m:uj w o c.vals)(y:Jp c)(p:c.vals.length<=1000)(q:∀v ∈ c.vals,v.size<=100000)(z:∀x,S=some x->x.size<=100/\(Ref.chars x).isSome=true)(u:kW w r ao cap B)(t:xK w) :
  ∃k,k<5/\jJ c.op=some k/\Calls prog (opT k) #[Zy S B,o] w λe A=>e = .returned (.bool (YC c.op c.vals r S))/\Below w.heap.size w A:=by
 obtain⟨op,key,vals,no⟩:=c;simp only at m p q |-
 rcases y with ⟨ha,n⟩|⟨ha,hfit,hlike⟩
 ·simp only at ha n;subst n;have b:op.toList=[97,98,115,101,110,116]:=JP ha;refine⟨4,by omega,(V8 b).trans Mi,?_⟩
  have e:YC op [] r S=S.isNone:=by
   unfold YC;rw[ha]
   cases S<;>rfl
  rw[e];exact MB S o B w
 ·simp only at ha hfit hlike;obtain⟨a,c,rfl,d⟩:=m;have m:uj w (.slice a vals.length c) vals:=⟨a,c,rfl,d⟩;have i:kI w a vals:=d;have s:YC op vals r S=De.YX op vals r S:=by unfold YC;rw[ha];rfl
  rw[s];unfold Ref.Yl at hfit;rw[uo] at hfit;obtain⟨j,f⟩:=hfit;unfold Ref.uJ at f;simp only[Vt] at f
  rcases f with ((h|h)|h)|h
  ·have b:=JP h;refine⟨1,by omega,(V8 b).trans Ml,?_⟩
   have e:De.YX op vals r S=(uM S λx=>vals.any λv=>x.toList==v.toList):=by
    cases S with
    | none=>rfl
    | some x=>
     refine VI _ _ _ λv _=>?_;unfold De.Jd Ref.xH De.yQ;rw[b]
     rfl
   rw[e];exact MN S vals a c B w (by omega) i
  ·have b:=JP h;refine⟨3,by omega,(V8 b).trans Mm,?_⟩
   have e:De.YX op vals r S=(uM S λx=>vals.any λv=>De.QN x v):=by
    cases S with
    | none=>rfl
    | some x=>
     refine VI _ _ _ λv _=>?_;unfold De.Jd Ref.xH De.yQ De.jG;rw[b]
     rfl
   rw[e];exact MP S vals a c B w (by omega) q i
  ·have b:=JP h;refine⟨2,by omega,(V8 b).trans Mj,?_⟩
   have l:∀v ∈ vals,Ref.xB v=true:=λv n=>by
    have:=vP.1 j v n
    unfold Ref.Xl at this;rw[b] at this
    simpa using this
   have e:De.YX op vals r S=(uM S λx=>Ref.xB x&&vals.any λv=>De.Yy x v):=by
    cases S with
    | none=>rfl
    | some x=>
     have g:(vals.any λv=>De.Jd op x v r)=vals.any λv=>(Ref.xB x&&De.Yy x v):=by
      refine VI _ _ _ λv _=>?_;unfold De.Jd Ref.xH De.yQ De.jG;rw[b]
      rfl
     show (vals.any λv=>De.Jd op x v r)=(Ref.xB x&&vals.any λv=>De.Yy x v);rw[g]
     cases Ref.xB x with
     | true=>rfl
     | false=>simp
   rw[e];exact MC S vals _ B w l p m
  ·have b:=JP h;refine⟨0,by omega,(V8 b).trans Mk,?_⟩
   have e:De.YX op vals r S=(uM S λx=>vals.any λv=>Ref.vX v x r):=by
    cases S with
    | none=>rfl
    | some x=>
     refine VI _ _ _ λv _=>?_;unfold De.Jd Ref.xH;rw[b]
     rfl
   rw[e];exact MJ S vals r ao a cap c B w z (hlike h) (by omega) i u t
theorem Mh(c:qF)(I:Value)(r:Ref.Req)(ao:Option Addr)(cap B:Nat)(w:World)(hm:uj w I c.vals)(Z:Jp c)(hn:c.vals.length<=1000)(hz:∀v ∈ c.vals,v.size<=100000)(H:kW w r ao cap B)(N:xK w) :
  Calls prog 224 #[.agg #[.string c.op,.string c.key,I,.bool c.no],yw B] w λe s=>e = .returned (.bool (De.Y6 c r))/\Below w.heap.size w s:=by
 have O:=λ(W:World) (hb:Below w.heap.size w W)=>zaC c I (Ref.says r c.key) r ao cap B W (X4 hm hb) Z hn hz (Bl H.ok c.key) (H.below hb) (N.below hb);obtain⟨k,hk,h,_⟩:=O w (zi _ _)
 have b:∀(W:World),Below w.heap.size w W->Calls prog (opT k) #[Zy (Ref.says r c.key) B,I] W λe s=>e = .returned (.bool (YC c.op c.vals r (Ref.says r c.key)))/\Below W.heap.size W s:=by
  intro W hb;obtain⟨k',_,G,h3⟩:=O W hb;rw[h] at G;injection G with G
  rw[G];exact h3
 have f:De.Y6 c r=(YC c.op c.vals r (Ref.says r c.key) != c.no):=rfl;rw[f];have n:=λ(W:World) (hb:Below w.heap.size w W)=>gB c.op W (N.below hb).ops;have z:=λ(W:World) (hb:Below w.heap.size w W)=>H.call W c.key hb;rw[h] at n;have eg:=Py k hk;have es:=Bj;obtain⟨a,P,rfl,_⟩:=hm;obtain⟨op,key,vals,no⟩:=c;simp only at b n z |-;obtain⟨S,o⟩:=Nm (Ref.says r key);simp only[o] at b z;rw[o];obtain⟨T,p⟩:=Nm (YC op vals r S);simp only[p] at b;rw[p];unfold Zy yw at b;unfold opV at n;unfold yw;simp only[uw] at n;obtain⟨F,q⟩:∃g,opT k=g:=⟨_,rfl⟩;obtain⟨fl,D⟩:∃g,opL k=g:=⟨_,rfl⟩;obtain⟨ON,A⟩:∃g,opN k=g:=⟨_,rfl⟩;rw[q] at b eg;simp only[q,D,A] at n;obtain⟨X,Y⟩:=Nm (S.getD ⟨#[]⟩);obtain⟨TH,C⟩:∃X,S.isSome=X:=⟨_,rfl⟩;simp only[Y,C] at b z;have HT:=hid b;have CO:=hid n;have CS:=hid z;obtain⟨u,d⟩:∃W,w.alloc (.cells #[.string op,.string key,.slice a vals.length P,.bool no] 286)=W:=⟨_,rfl⟩;have K:Hid (Below w.heap.size w u):=hid (by rw[<- d];exact nB w _);have Q:u.cell? ⟨w.heap.size,0,none⟩=some (.string op):=by rw[<- d];simp
 have R:u.cell? ⟨w.heap.size,1,none⟩=some (.string key):=by rw[<- d];simp
 have U:u.cell? ⟨w.heap.size,2,none⟩=some (.slice a vals.length P):=by rw[<- d];simp
 have V:u.cell? ⟨w.heap.size,3,none⟩=some (.bool no):=by rw[<- d];simp
 have M:=hid d;have sf:=λW a g m=>Zk prog W a (.func (.func g) #[] #[]) m rfl;clear O b n z o p q D A Y C d h f Z hn hz H N hk;go_enter func224,ntmps224
 go_upto_region 1 with fail
 rw[M.out]
 go_upto_region 2 with (go_at_call 229;refine (CO.out u K.out).mono ?_;rintro e t ⟨rfl,bb⟩;have k0:=zh bb Q;have k1:=zh bb R;have k2:=zh bb U;have k3:=zh bb V;have i:Hid (Below w.heap.size w t):=K.out.trans (bb.mono K.out.size);clear bb)
 obtain⟨J,hw2⟩:∃W,t.alloc (.cells #[.string ON,.func (.func fl) #[] #[],.func (.func F) #[] #[]] 350)=W:=⟨_,rfl⟩;have f2:J.cell? ⟨t.heap.size,2,none⟩=some (.func (.func F) #[] #[]):=by rw[<- hw2];simp
 have y:Below t.heap.size t J:=by rw[<- hw2];exact nB t _
 have j1:=zh y k1;have j2:=zh y k2;have j3:=zh y k3;have j:Hid (Below w.heap.size w J):=hid (i.out.trans (y.mono i.out.size));rw[hw2];clear hw2 y k0 k1 k2 k3 i Q R U V
 go_upto_region 3 with (go_at_fn 160;refine (CS.out J j.out).mono ?_;rintro e E ⟨rfl,bb⟩;have f3:=zh bb f2;have l2:=zh bb j2;have l3:=zh bb j3;have l:Hid (Below w.heap.size w E):=j.out.trans (bb.mono j.out.size);clear bb)
 go_region_held3 (λs=>s.cell? ⟨t.heap.size,2,none⟩=some (.func (.func F) #[] #[])/\s.cell? ⟨w.heap.size,2,none⟩=some (.slice a vals.length P)/\s.cell? ⟨w.heap.size,3,none⟩=some (.bool no)) (go_keep) (first
  | ((go_at_fn F);refine (HT.out E.drew l.out.drew).mono ?_;rintro e w4 ⟨rfl,bb⟩;have x:Below E.heap.size E w4:=(zi _ E).drew.trans bb;have f4:=zh x f3;have m2:=zh x l2;have m3:=zh x l3;have L:Hid (Below w.heap.size w w4):=l.out.trans (x.mono l.out.size);clear bb x))
 all_goals
  go_wp2_with fail;go_ret;exact⟨rfl,L.out⟩
end Go.Proofs.YtagnlbgbnfnapaaGreatDoor
