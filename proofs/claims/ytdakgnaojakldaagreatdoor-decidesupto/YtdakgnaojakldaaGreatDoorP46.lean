/- P -/
import Derived.Test.YtdakgnaojakldaaGreatDoorP45
open Go.Proofs.Tryz
set_option maxRecDepth 100000
set_option maxHeartbeats 2000000
namespace Go.Proofs.YtdakgnaojakldaaGreatDoor
open Go.RowKit
def VC(w:World)(ao:Option Addr)(n:Nat)(v:Nat->Int):Prop:=
 n=0\/∃b o,ao=some ⟨b,o,none⟩/\∀j,j<n->w.cell? ⟨b,o+j,none⟩=some (.int .i64 (v j))
theorem BK{w w':World}{ao:Option Addr}{n:Nat}{v:Nat->Int}(h:VC w ao n v)(hb:Below w.heap.size w w'):VC w' ao n v:=by
 rcases h with h|⟨b,o,h1,h2⟩
 ·exact .inl h
 ·exact .inr ⟨b,o,h1,λj a=>zh hb (h2 j a)⟩
theorem MX(n:Nat)(ao:Option Addr)(cap g:Nat)(m:Array Value)(v:Nat->Int)(p:Nat->Bool)(w:World)(y:n<=1000000000000)(u:∀args w,(callFunc g args).run prog w = .ok (.enter g args) w)
  (s:VC w ao n v)(t:vI g m (λj => .int .i64 (v j)) n p w) :
  Calls prog 347 #[.slice ao n cap,.func (.func g) #[] m] w λe w'=>
   e = .returned (.tuple #[.int .i64 (((zx p n).getD 0:Nat):Int),.bool (zx p n).isSome])/\Below w.heap.size w w':=by
 generalize hF:zx p n=F;have l:=hid hF;clear hF;go_enter func347,ntmps347
 go_wp2
 go_loopw [10] (λi wr=>∃k:Nat,k<=n/\i = .int .i64 k/\(∀j,j<k->p j=false)/\Below w.heap.size w wr) (λi _=>n-(intOf i).toNat)
 case atStart=>exact⟨0,zH _,rfl,λj h=>by omega,ze _ _⟩
 case round=>
  obtain⟨k,x,rfl,hb,c⟩:=hrel;have f:=hid hb;clear hb
  by_cases hlt:k<n
  ·rcases s with h0|⟨b,o,rfl,hcc⟩
   ·omega
   have q:=zh c (hcc k hlt);have a:=λW hb=>t W k hlt hb;simp only at a
   cases hpp:p k with
   | false=>
    rw[hpp] at a;have r:=hid hpp;clear hpp
    go_wp2_with (go_at_fn g;refine (a _ c).mono ?_;rintro e w' ⟨rfl,d⟩)
    refine⟨⟨k+1,by omega,by go_num,λj h=>?_,c.trans (d.mono c.size)⟩,by simp[intOf];omega⟩
    by_cases hj:j=k
    ·subst hj;exact r.out
    ·exact f.out j (by omega)
   | true=>
    rw[hpp] at a;have e:=QO p n k hlt f.out hpp;rw[l.out] at e;subst e;clear hpp
    go_wp2_with (go_at_fn g;refine (a _ c).mono ?_;rintro e w' ⟨rfl,d⟩)
    go_ret2;exact⟨rfl,c.trans (d.mono c.size)⟩
  ·have e:=QP p n (λj h=>f.out j (by omega));rw[l.out] at e;subst e
   go_wp2
   go_ret2;exact⟨rfl,c⟩
theorem EE(n:Nat)(ao:Option Addr)(cap g:Nat)(b:Array Value)(v:Nat->Int)(p:Nat->Bool)(w:World)(h:n<=1000000000000)(d:∀args w,(callFunc g args).run prog w = .ok (.enter g args) w)
  (f:VC w ao n v)(i:vI g b (λj => .int .i64 (v j)) n p w) :
  Calls prog 342 #[.slice ao n cap,.func (.func g) #[] b] w λe w'=>
   e = .returned (.bool (zx p n).isSome)/\Below w.heap.size w w':=by
 have c:=MX n ao cap g b v p w h d f i;generalize zx p n=F at c;go_enter func342,ntmps342
 go_wp2_with (go_at_call 347;refine c.mono ?_;rintro e w' ⟨rfl,a⟩)
 go_ret;exact⟨rfl,a⟩
theorem OD:(prog.info? 2).map (λi=>(i.zero,i.size,i.bytes))=some (some (.int .i64 0),1,8):=by kernel_rfl
def JX(w:World)(base:Nat)(lv:Value)(l:List Int):Prop:=w.ownsRow base 2 1 lv l.length (l.map (Value.int .i64))
def DK(w:World)(outs:List Int)(e:Ending)(w':World):Prop:=∃lv,e = .returned lv/\JX w' w.heap.size lv outs/\Below w.heap.size w w'
theorem Tf{w:World}{B:Nat}{a:Value}{l:List Int}{s:Int}(h:w.ownsRow B 2 1 a (l.length+1) (l.map (Value.int .i64)++[.int .i64 s])):JX w B a (l++[s]):=by
 unfold JX;rw[Qc,qB];exact h
theorem zaD{w:World}{base:Nat}{lv:Value}{l:List Int}(h:JX w base lv l):∃a c,lv = .slice a l.length c/\VC w a l.length (λj=>l.getD j 0):=by
 rcases h.2 with ⟨rfl,h0⟩|⟨g,cap,cur,ev,_⟩
 ·exact⟨none,0,by rw[h0],.inl h0⟩
 ·refine⟨_,cap,ev,.inr ⟨g,0,rfl,λj b=>?_⟩⟩;rw[qN,World.ownsRow.cellAt (g:=g) (cap:=cap) (by rw[<- ev];exact h) j (by omega),uO,zm b];simp[b]
theorem Su(b:List BY)(lv:Value)(g:Nat)(out:BY->Int)(w:World)(h:xW w lv b)(hn:b.length<=1000)(eg:∀args w,(callFunc g args).run prog w = .ok (.enter g args) w)
  (S:∀W s,s ∈ b->Below w.heap.size w W->Calls prog g #[.string s] W λe w'=>e = .returned (.int .i64 (out s))/\Below W.heap.size W w') :
  Calls prog 334 #[lv,.func (.func g) #[] #[]] w (DK w (b.map out)):=by
 obtain⟨X,hi,G,H,I⟩:=xA OD;obtain⟨a,c,rfl,p⟩:=h;obtain⟨n,l⟩:=Nm b.length
 have f:∀(k:Nat) (x:BY),b[k]?=some x->∃E o,a=some ⟨E,o,none⟩/\w.cell? ⟨E,o+k,none⟩=some (.string x):=by
  intro k x hx;obtain⟨m,rfl⟩:=zW.1 hx
  rcases p with e|⟨E,o,e,hc⟩
  ·rw[e] at m;simp at m
  ·exact⟨E,o,e,hc k m⟩
 rw[l];rw[l] at hn;have HC:=hid f;have HP:=hid S;have Q:=hid l;clear f S l p;go_enter func334,ntmps334
 go_wp2_with (at_make;refine wpList_make_own _ rfl _ _ 450 rfl w.heap.size 2 X (.int .i64 0) 1 underlying450 hi G H _ _ _ n rfl rfl rfl ?_ ?_ ?_ ?_)
 ·rw[I];omega
 ·unfold maxLen;omega
 ·omega
 intro w1 r d;have D:=hid r;have B:Hid (Below w.heap.size w w1):=(ze _ w).grown d (zf _) (λk m=>by cases m);clear r d;go_wp2_with fail
 go_loopw [5,7,13] (λov _ kv wr=>∃(k:Nat),k<=n/\kv = .int .i64 k/\JX wr w.heap.size ov ((b.take k).map out)/\Below w.heap.size w wr) (λ_ _ kv _=>n-(intOf kv).toNat)
 case atStart=>exact⟨0,zH _,rfl,D.out,B.out⟩
 case round=>
  obtain⟨k,m,rfl,A,hb⟩:=hrel;have J:=hid A;have z:=hid hb;clear A hb D B
  by_cases hlt:k<n
  ·have v:k<b.length:=by rw[Q.out];exact hlt
   obtain⟨E,o,rfl,q⟩:=HC.out k _ (zm v);have q2:=zh z.out q;have O:=HP.out wr b[k] (qA v) z.out;have y:Hid ((b.take (k+1)).map out=(b.take k).map out++[out b[k]]):=hid (by rw[Yw,zm v,Qc];rfl);have F:((b.take k).map out).length=k:=by rw[qH,vT];omega
   obtain⟨s,T⟩:=Nm (b[k]);rw[T] at q2 O y;have Z:=hid O;obtain⟨L,R⟩:=Nm ((b.take k).map out);rw[R] at J y F;clear q O T R
   go_wp2_with (first
    | (go_at_fn g;refine Z.out.mono ?_;rintro e w2 ⟨rfl,t⟩;have C:=hid t;have V:=t.size;have a4:=z.out.size;clear t)
    | (at_builtin;refine vS _ rfl _ _ 450 rfl w.heap.size 2 X (.int .i64 0) 1 8 underlying450 hi G H I rfl (by decide) _ L.length (L.map (Value.int .i64)) rfl (World.ownsRow.alloc (ownsRow_below J.out C.out) _) ⟨w2.heap.size,0,none⟩ 1 1 [.int .i64 (out s)] rfl rfl ?_ ?_ ?_ ?_ ?_ ?_))
   ·exact wm _ _ _
   ·intro u U;simp at U;rcases U with rfl;rfl
   ·unfold maxLen;omega
   ·omega
   ·simp;omega
   ·intro v' Y j i _;have N:Hid (JX Y w.heap.size v' ((b.take (k+1)).map out)):=by rw[y.out];exact Tf (by rw[F];exact j)
    have K:Hid (Below w.heap.size w Y):=((z.out.trans (C.out.mono z.out.size)).alloc (by omega) _).grown i (by simp;omega) (λk m=>(World.ownsRow.lt J.out k m).1);clear j i
    go_wp2
    go_roundw
    case rel=>exact⟨k+1,by omega,by go_num,N.out,K.out⟩
    case measure=>simp[intOf];omega
  ·have P:k=n:=by omega
   subst P;have A:=J.out;rw[ZO (by rw[Q.out];omega)] at A;have M:=hid A;clear A
   go_wp2
   go_ret;exact⟨_,rfl,M.out,z.out⟩
theorem DW(z n:Int)(B:Nat)(w:World)(a:w.cell? ⟨B,0,none⟩=some (.int .i64 n)) :
  Calls prog 343 #[.int .i64 z,.pointer (some ⟨B,0,none⟩)] w λe w'=>e = .returned (.bool (decide (n<z)))/\Below w.heap.size w w':=by
 go_enter func343,ntmps343
 go_wp2
 go_ret;exact⟨rfl,ze _ _⟩
theorem DX(l:List Int)(n:Int)(ao:Option Addr)(cap:Nat)(w:World)(g:l.length<=100000000000)(d:VC w ao l.length (λj=>l.getD j 0)) :
  Calls prog 333 #[.slice ao l.length cap,.int .i64 n] w λe w'=>e = .returned (.bool (l.any λz=>decide (n<z)))/\Below w.heap.size w w':=by
 have a:=nbl w (.cells #[.int .i64 n] 2)
 have c:=EE l.length ao cap 343 #[.pointer (some ⟨w.heap.size,0,none⟩)] (λj=>l.getD j 0) (λj=>decide (n<l.getD j 0)) (w.alloc (.cells #[.int .i64 n] 2)) (by omega)
  (enters_of func343 (by kernel_rfl) rfl) (BK d a)
  (λW j f hb=>DW (l.getD j 0) n w.heap.size W (zh hb (by simp)))
 rw[show (zx (λj=>decide (n<l.getD j 0)) l.length).isSome=l.any (λz=>decide (n<z)) from V7 l 0 (λz=>decide (n<z))] at c
 generalize (l.any λz=>decide (n<z))=F at c;go_enter func333,ntmps333
 go_wp2_with (go_at_call 342;refine c.mono ?_;rintro e w' ⟨rfl,b⟩)
 go_ret;exact⟨rfl,a.trans (b.mono (by simp))⟩
theorem V8{α:Type}(l:List α)(f g:α->Bool)(h:∀x ∈ l,f x=g x):l.any f=l.any g:=by
 rw[kL,Qy,Qy]
 constructor
 ·rintro ⟨x,a,b⟩;exact⟨x,a,by rw[<- h x a];exact b⟩
 ·rintro ⟨x,a,b⟩;exact⟨x,a,by rw[h x a];exact b⟩
theorem FC(x:BY)(vals:List BY)(c:Ref.qF x=true)(b:∀v ∈ vals,Ref.qF v=true):((vals.map De.QY).any λz=>decide (De.QY x<z))=vals.any λv=>De.XD x v:=by
 rw[Xc];exact V8 _ _ _ λv a=>(De.zbq c (b v a)).symm
theorem OU(S:Option BY)(vals:List BY)(lv:Value)(B:Nat)(w:World)(q:∀v ∈ vals,Ref.qF v=true)(hn:vals.length<=1000)(s:xW w lv vals) :
  Calls prog 325 #[ZR S B,lv] w λe w'=>e = .returned (.bool (uY S λx=>Ref.qF x&&vals.any λv=>De.XD x v))/\Below w.heap.size w w':=by
 have G:=λO:Obj=>nbl w O;unfold ZR yI
 cases S with
 | none=>
  simp only[uY,QF,kS];clear s q;go_enter func325,ntmps325;go_wp2_with fail
  go_quiet (fail)
  go_wp2_with fail;go_ret;exact⟨rfl,below_drewN (G _) _⟩
 | some x=>
  simp only[uY,yB,uw];have p:=λW=>sP x W;obtain⟨g,h⟩:∃W,w.alloc (.cells #[.string x,.bool true,.func (.func 215) #[] #[.pointer (some ⟨B,0,none⟩)]] 408)=W:=⟨_,rfl⟩;have r:Hid (Below w.heap.size w g):=hid (by rw[<- h];exact G _);have A:g.cell? ⟨w.heap.size,0,none⟩=some (.string x):=by rw[<- h];simp
  have D:g.cell? ⟨w.heap.size,1,none⟩=some (.bool true):=by rw[<- h];simp
  have n:=hid h
  cases hx:Ref.qF x with
  | false=>
   rw[uJ];simp only[hx] at p;clear s q h;go_enter func325,ntmps325
   go_upto_region 1 with fail
   rw[n.out];have H:∀X:Grown g,X.w.cell? ⟨w.heap.size,0,none⟩=some (.string x):=λX=>zh X.b A;have f1:∀X:Grown g,X.w.cell? ⟨w.heap.size,1,none⟩=some (.bool true):=λX=>zh X.b D
   have N:Hid (∀(X:Grown g),Calls prog 332 #[.string x] X.w λe k=>e = .returned (.bool false)/\∃Y:Grown g,k=Y.w):=
    hid λX=>(p X.w).mono λe k ⟨Z,hb⟩=>⟨Z,⟨k,X.b.trans (hb.mono X.b.size)⟩,rfl⟩
   have NE:Nonempty (Grown g):=⟨⟨g,ze _ _⟩⟩;clear p A D;refine wp_region_quiet (C:=λW'=>∃X:Grown g,W'=X.w) (by kernel_rfl) (by kernel_rfl) ⟨⟨_,(ze _ g).drew⟩,rfl⟩ ?_;simp only
   repeat (go_big_quiet_step (first|exact N.out _))
   refine wpQuiet_nil ?_;intro w' F;obtain⟨X,rfl⟩:=F;go_wp2_with fail;go_ret;exact⟨rfl,r.out.trans (X.b.mono r.out.size)⟩
  | true=>
   rw[jC,<- FC x vals hx q];simp only[hx] at p;have R:=λW=>Am x W hx;have z:=λ(W:World) (hb:Below w.heap.size w W)=>Su vals lv 335 De.QY W (uI s hb) hn (enters_of func335 (by kernel_rfl) rfl) (λQ v E _=>Am v Q (q v E));have y:=λ(W:World) (ao:Option Addr) (cap:Nat) f=>DX (vals.map De.QY) (De.QY x) ao cap W (by rw[qH];omega) f;obtain⟨a,c,rfl,_⟩:=s;generalize V:vals.map De.QY=L at z y;have M:=hid z;have K:=hid y;clear q h V z y hx;go_enter func325,ntmps325
   go_upto_region 1 with fail
   rw[n.out]
   go_region_held3 (λw'=>w'.cell? ⟨w.heap.size,0,none⟩=some (.string x)/\w'.cell? ⟨w.heap.size,1,none⟩=some (.bool true)) (go_keep) (first
    | ((go_at_call 335);refine (R I).mono ?_;rintro e J ⟨rfl,o⟩;have i0:=zh o T;have i1:=zh o U;have u:=hid (BK P.out o);have m:Hid (Below w.heap.size w J):=l.out.trans (o.mono l.out.size);clear o)
    | ((go_at_call 334);refine (M.out w1 j.out).mono ?_;rintro e I ⟨mv,rfl,i,d⟩;obtain⟨ma,mc,rfl,f⟩:=zaD i;have P:=hid f;have T:=zh d H;have U:=zh d f1;have l:Hid (Below w.heap.size w I):=j.out.trans (d.mono j.out.size);clear d i f)
    | ((go_at_call 332);refine (p g.drew).mono ?_;rintro e w1 ⟨rfl,d⟩;have H:=zh d A;have f1:=zh d D;have j:Hid (Below w.heap.size w w1):=r.out.trans (((ze _ g).drew.trans d).mono r.out.size);clear d)
    | ((go_at_call 333);refine (K.out J ma mc u.out).mono ?_;rintro e w4 ⟨rfl,d⟩;have k0:=zh d i0;have k1:=zh d i1;have t:Hid (Below w.heap.size w w4):=m.out.trans (d.mono m.out.size);clear d))
   all_goals
    go_wp2_with fail;go_ret;exact⟨rfl,t.out⟩
namespace De
def Xr(c:qj)(r:Ref.Req):Bool:=((Ref.xJ c.op&&(Ref.says r c.key).isNone)||YC c.op c.vals r (Ref.says r c.key)) != c.no
def YD(s:zS)(r:Ref.Req):Bool:=Z6 s.who r.who r&&Z6 s.act r.act r&&Z6 s.on r.on r&&s.ifs.all λc=>Xr c r
def QR(eff:BY)(r:Ref.Req)(s:zS):Bool:=(s.eff.toList==eff.toList)&&YD s r
def YM(eff:BY)(r:Ref.Req)(a:List zS):Option Nat:=a.findIdx? (QR eff r)
def yO(eff:BY)(r:Ref.Req):List zF->Option (BY×Nat)
 | []=>none
 | x::L=>match YM eff r x.2 with
  | some k=>some (x.1,k+1)
  | none=>yO eff r L
def yE(st:Nat->List zF)(eff:BY)(r:Ref.Req):List Nat->Option (Nat×BY×Nat)
 | []=>none
 | i::is=>match yO eff r (st i) with
  | some (n,k)=>some (i,n,k)
  | none=>yE st eff r is
def jl:BY:=⟨#[97,108,108,111,119]⟩
def kX:BY:=⟨#[100,101,110,121]⟩
structure Dec where
 verdict:Nat
 layer:Nat
 doc:BY
 stmt:Nat
def silent:Dec:=⟨3,0,⟨#[]⟩,0⟩
def Tn:Dec:=⟨0,0,⟨#[]⟩,0⟩
def Qn(st:Nat->List zF)(r:Ref.Req)(i:Nat):Bool:=(st i).isEmpty||(yO jl r (st i)).isSome
def YL(st:Nat->List zF)(r:Ref.Req):Dec:=match yE st kX r [0,1,2,3] with
 | some (i,n,k)=>⟨2,i,n,k⟩
 | none=>if (Qn st r 0&&Qn st r 1)=false then silent else match yE st jl r [2,3] with
  | some (i,n,k)=>⟨1,i,n,k⟩
  | none=>silent
def Jj(st:Nat->List zF)(r:Ref.Req):Dec×Int:=if Ref.xP r then (YL st r,0) else (Tn,11)
end De
def Qg(w:World)(v:Value)(cs:List qj):Prop:=
 ∃a cap,v = .slice a cs.length cap/\(cs=[]\/∃b o,a=some ⟨b,o,none⟩/\∀j,(h:j<cs.length)->∃lv,w.cell? ⟨b,o+j*4,none⟩=some (.string cs[j].op)/\w.cell? ⟨b,o+j*4+1,none⟩=some (.string cs[j].key)/\w.cell? ⟨b,o+j*4+2,none⟩=some lv/\w.cell? ⟨b,o+j*4+3,none⟩=some (.bool cs[j].no)/\xW w lv cs[j].vals)
theorem Qg.below{w w':World}{v:Value}{cs:List qj}(h:Qg w v cs)(hb:Below w.heap.size w w'):Qg w' v cs:=by
 obtain⟨a,cap,e,h⟩:=h;refine⟨a,cap,e,?_⟩
 rcases h with h|⟨b,o,ha,hc⟩
 ·exact .inl h
 ·refine .inr ⟨b,o,ha,λj k=>?_⟩;obtain⟨lv,c,d,f,g,i⟩:=hc j k;exact⟨lv,zh hb c,zh hb d,zh hb f,zh hb g,uI i hb⟩
structure XE (w:World) (l1 l2 l3 lc:Value) (s:zS):Prop where
 who:xW w l1 s.who.2
 act:xW w l2 s.act.2
 on:xW w l3 s.on.2
 ifs:Qg w lc s.ifs
theorem XE.below{w w':World}{a b c d:Value}{s:zS}(h:XE w a b c d s)(hb:Below w.heap.size w w'):XE w' a b c d s:=
 ⟨uI h.who hb,uI h.act hb,uI h.on hb,h.ifs.below hb⟩
def Q7(w:World)(v:Value)(c:List zS):Prop:=
 ∃a cap,v = .slice a c.length cap/\(c=[]\/∃b o,a=some ⟨b,o,none⟩/\∀j,(h:j<c.length)->∃d e f g,w.cell? ⟨b,o+j*8,none⟩=some (.string c[j].eff)/\w.cell? ⟨b,o+j*8+1,none⟩=some (.bool c[j].who.1)/\w.cell? ⟨b,o+j*8+2,none⟩=some d/\w.cell? ⟨b,o+j*8+3,none⟩=some (.bool c[j].act.1)/\w.cell? ⟨b,o+j*8+4,none⟩=some e/\w.cell? ⟨b,o+j*8+5,none⟩=some (.bool c[j].on.1)/\w.cell? ⟨b,o+j*8+6,none⟩=some f/\w.cell? ⟨b,o+j*8+7,none⟩=some g/\XE w d e f g c[j])
theorem Q7.below{w w':World}{v:Value}{c:List zS}(h:Q7 w v c)(hb:Below w.heap.size w w'):Q7 w' v c:=by
 obtain⟨a,cap,e,h⟩:=h;refine⟨a,cap,e,?_⟩
 rcases h with h|⟨b,o,ha,hc⟩
 ·exact .inl h
 ·refine .inr ⟨b,o,ha,λj q=>?_⟩;obtain⟨r,s,t,u,d,f,g,i,k,l,m,n,p⟩:=hc j q;exact⟨r,s,t,u,zh hb d,zh hb f,zh hb g,zh hb i,zh hb k,zh hb l,zh hb m,zh hb n,p.below hb⟩
theorem BO{w:World}{base n a:Nat}{e:TypeId}{v:Value}{xs:List Value}(h:w.ownsRow base e a v n xs):(n=0/\v = .slice none 0 0)\/∃g cap,v = .slice (some ⟨g,0,none⟩) n cap/\∀i,i<xs.length->w.cell? ⟨g,i,none⟩=xs[i]?:=by
 rcases h.2 with ⟨e0,h0⟩|⟨g,cap,cur,ev,_⟩
 ·exact .inl ⟨h0,e0⟩
 ·exact .inr ⟨g,cap,ev,λi hi=>World.ownsRow.cellAt (g:=g) (cap:=cap) (by rw[<- ev];exact h) i (by rw[<- h.1];exact hi)⟩
theorem oF{w:World}{base:Nat}{e:TypeId}{v:Value}{xs:List Value}{cs:List qj}(h:w.ownsRow base e 4 v cs.length xs)
  (k:∀j,(b:j<cs.length)->∃lv,xs[j*4]?=some (.string cs[j].op)/\xs[j*4+1]?=some (.string cs[j].key)/\xs[j*4+2]?=some lv/\xs[j*4+3]?=some (.bool cs[j].no)/\xW w lv cs[j].vals):Qg w v cs:=by
 have l:xs.length=cs.length*4:=h.1
 rcases BO h with ⟨a,rfl⟩|⟨g,cap,rfl,hcell⟩
 ·have:cs=[]:=Y7.1 a
  subst this;exact⟨none,0,rfl,.inl rfl⟩
 ·refine⟨_,cap,rfl,.inr ⟨g,0,rfl,λj b=>?_⟩⟩;obtain⟨lv,a,c,d,f,i⟩:=k j b;rw[qN];exact⟨lv,(hcell _ (by omega)).trans a,(hcell _ (by omega)).trans c,(hcell _ (by omega)).trans d,(hcell _ (by omega)).trans f,i⟩
theorem CU{w:World}{base:Nat}{e:TypeId}{v:Value}{xs:List Value}{a:List zS}(h:w.ownsRow base e 8 v a.length xs)
  (t:∀j,(k:j<a.length)->∃b c d f,xs[j*8]?=some (.string a[j].eff)/\xs[j*8+1]?=some (.bool a[j].who.1)/\xs[j*8+2]?=some b/\xs[j*8+3]?=some (.bool a[j].act.1)/\xs[j*8+4]?=some c/\xs[j*8+5]?=some (.bool a[j].on.1)/\xs[j*8+6]?=some d/\xs[j*8+7]?=some f/\XE w b c d f a[j]):Q7 w v a:=by
 have u:xs.length=a.length*8:=h.1
 rcases BO h with ⟨i,rfl⟩|⟨g,cap,rfl,hcell⟩
 ·have:a=[]:=Y7.1 i
  subst this;exact⟨none,0,rfl,.inl rfl⟩
 ·refine⟨_,cap,rfl,.inr ⟨g,0,rfl,λj k=>?_⟩⟩;obtain⟨b,c,d,f,i,l,m,n,o,p,q,r,s⟩:=t j k;rw[qN];exact⟨b,c,d,f,(hcell _ (by omega)).trans i,(hcell _ (by omega)).trans l,(hcell _ (by omega)).trans m,(hcell _ (by omega)).trans n,(hcell _ (by omega)).trans o,(hcell _ (by omega)).trans p,(hcell _ (by omega)).trans q,(hcell _ (by omega)).trans r,s⟩
theorem GR{w:World}{base:Nat}{v:Value}{cs:List qj}(h:xM w base v cs):Qg w v cs:=by
 obtain⟨xs,f,g⟩:=h;refine oF f λj i=>?_;obtain⟨lv,a,b,c,d,e⟩:=g j i;exact⟨lv,a,b,c,d,XG rfl e⟩
theorem zbR{w:World}{base:Nat}{v:Value}{c:List zS}(h:vG w base v c):Q7 w v c:=by
 obtain⟨xs,a,b⟩:=h;refine CU a λj p=>?_;obtain⟨q,r,s,t,i,a,b,k,l,m,n,o,d,e,f,g⟩:=b j p;exact⟨q,r,s,t,i,a,b,k,l,m,n,o,⟨XG rfl d,XG rfl e,XG rfl f,GR g⟩⟩
theorem GU{w:World}{base:Nat}{v:Value}{cs:List Ref.qD}(h:yh w base v cs):Qg w v (cs.map toS):=by
 obtain⟨xs,g,i⟩:=h;refine oF (by rw[qH];exact g) λj f=>?_;rw[qH] at f;obtain⟨lv,a,b,c,d,e⟩:=i j f;rw[JP];exact⟨lv,a,b,c,d,XG rfl e⟩
theorem zbT{w:World}{base:Nat}{v:Value}{rs:List Rd.qh}(h:jh w base v rs):Q7 w v (rs.map vQ):=by
 obtain⟨xs,a,b⟩:=h;refine CU (by rw[qH];exact a) λj c=>?_;rw[qH] at c;obtain⟨p,q,r,s,i,a,b,k,l,m,n,o,d,e,f,g⟩:=b j c;rw[JP];exact⟨p,q,r,s,i,a,b,k,l,m,n,o,⟨XG rfl d,XG rfl e,XG rfl f,GU g⟩⟩
theorem CQ{M:Nat->Prop}{w:World}{v:Value}{a:List zS}(h:jd M w v a):Q7 w v a:=by
 obtain⟨base,h⟩:=h.at;exact zbR h
theorem zbS{M:Nat->Prop}{w:World}{v:Value}{rs:List Rd.qh}(h:jX M w v rs):Q7 w v (rs.map vQ):=by
 obtain⟨base,h⟩:=h.at;exact zbT h
theorem Yp{w:World}{v:Value}{l:List BY}(h:xW w v l):∃a c,v = .slice a l.length c/\xW w (.slice a l.length c) l:=by
 obtain⟨a,c,rfl,h⟩:=h;exact⟨a,c,rfl,a,c,rfl,h⟩
theorem oG{w:World}{v:Value}{l:List qj}(h:Qg w v l):∃a c,v = .slice a l.length c/\Qg w (.slice a l.length c) l:=by
 obtain⟨a,c,rfl,h⟩:=h;exact⟨a,c,rfl,a,c,rfl,h⟩
def YW(op:BY)(vals:List BY)(r:Ref.Req)(S:Option BY):Bool:=(Ref.xJ op&&S.isNone)||De.YC op vals r S
theorem UF{op:BY}{l:List UInt8}(h:op.toList=l):vo op=zx (λk=>(opN k).toList==l) 5:=by
 unfold vo;rw[h]
theorem UG(k:Nat):(opN k).toList=(opN k).data.toList:=ut _
theorem Ox:zx (λk=>(opN k).toList==[108,105,107,101]) 5=some 0:=by simp only[UG];decide
theorem Oz:zx (λk=>(opN k).toList==[115,97,109,101]) 5=some 1:=by simp only[UG];decide
theorem Ov:zx (λk=>(opN k).toList==[98,101,108,111,119]) 5=some 2:=by simp only[UG];decide
theorem OA:zx (λk=>(opN k).toList==[117,110,100,101,114]) 5=some 3:=by simp only[UG];decide
theorem Ou:zx (λk=>(opN k).toList==[97,98,115,101,110,116]) 5=some 4:=by simp only[UG];decide
theorem TU(k:Nat)(a:k<5):∀args w,(callFunc (opT k) args).run prog w = .ok (.enter (opT k) args) w:=by
 rcases lt5 a with rfl|rfl|rfl|rfl|rfl
 ·exact enters_of func321 (by kernel_rfl) rfl
 ·exact enters_of func323 (by kernel_rfl) rfl
 ·exact enters_of func325 (by kernel_rfl) rfl
 ·exact enters_of func327 (by kernel_rfl) rfl
 ·exact enters_of func329 (by kernel_rfl) rfl
theorem zcB(c:qj)(lv:Value)(S:Option BY)(r:Ref.Req)(ao:Option Addr)(cap B:Nat)(w:World)(m:xW w lv c.vals)(u:XM c)(o:c.vals.length<=1000)(p:∀v ∈ c.vals,v.size<=100000)(y:∀x,S=some x->x.size<=100/\(Ref.chars x).isSome=true)(t:Zp w r ao cap B)(s:yg w) :
  ∃k,k<5/\vo c.op=some k/\Calls prog (opT k) #[ZR S B,lv] w λe w'=>e = .returned (.bool (YW c.op c.vals r S))/\Below w.heap.size w w':=by
 obtain⟨op,key,vals,no⟩:=c;simp only at m o p |-
 rcases u with ⟨ha,n⟩|⟨ha,hfit,hlike⟩
 ·simp only at ha n;subst n;have b:op.toList=[97,98,115,101,110,116]:=QM ha;refine⟨4,by omega,(UF b).trans Ou,?_⟩
  have e:YW op [] r S=S.isNone:=by
   unfold YW;rw[ha]
   cases S<;>rfl
  rw[e];exact OT S lv B w
 ·simp only at ha hfit hlike;obtain⟨a,c,rfl,d⟩:=m;have m:xW w (.slice a vals.length c) vals:=⟨a,c,rfl,d⟩;have i:Zi w a vals:=d;have q:YW op vals r S=De.YC op vals r S:=by unfold YW;rw[ha];rfl
  rw[q];unfold Ref.Zv at hfit;rw[kJ] at hfit;obtain⟨j,f⟩:=hfit;unfold Ref.Zd at f;simp only[bF] at f
  rcases f with ((h|h)|h)|h
  ·have b:=QM h;refine⟨1,by omega,(UF b).trans Oz,?_⟩
   have e:De.YC op vals r S=(uY S λx=>vals.any λv=>x.toList==v.toList):=by
    cases S with
    | none=>rfl
    | some x=>
     refine V8 _ _ _ λv _=>?_;unfold De.Xx Ref.qX De.jO;rw[b]
     rfl
   rw[e];exact Pn S vals a c B w (by omega) i
  ·have b:=QM h;refine⟨3,by omega,(UF b).trans OA,?_⟩
   have e:De.YC op vals r S=(uY S λx=>vals.any λv=>De.Zk x v):=by
    cases S with
    | none=>rfl
    | some x=>
     refine V8 _ _ _ λv _=>?_;unfold De.Xx Ref.qX De.jO De.jN;rw[b]
     rfl
   rw[e];exact Pp S vals a c B w (by omega) p i
  ·have b:=QM h;refine⟨2,by omega,(UF b).trans Ov,?_⟩
   have l:∀v ∈ vals,Ref.qF v=true:=λv n=>by
    have:=ZM.1 j v n
    unfold Ref.uq at this;rw[b] at this
    simpa using this
   have e:De.YC op vals r S=(uY S λx=>Ref.qF x&&vals.any λv=>De.XD x v):=by
    cases S with
    | none=>rfl
    | some x=>
     have g:(vals.any λv=>De.Xx op x v r)=vals.any λv=>(Ref.qF x&&De.XD x v):=by
      refine V8 _ _ _ λv _=>?_;unfold De.Xx Ref.qX De.jO De.jN;rw[b]
      rfl
     show (vals.any λv=>De.Xx op x v r)=(Ref.qF x&&vals.any λv=>De.XD x v);rw[g]
     cases Ref.qF x with
     | true=>rfl
     | false=>simp
   rw[e];exact OU S vals _ B w l o m
  ·have b:=QM h;refine⟨0,by omega,(UF b).trans Ox,?_⟩
   have e:De.YC op vals r S=(uY S λx=>vals.any λv=>Ref.jy v x r):=by
    cases S with
    | none=>rfl
    | some x=>
     refine V8 _ _ _ λv _=>?_;unfold De.Xx Ref.qX;rw[b]
     rfl
   rw[e];exact Pe S vals r ao a cap c B w y (hlike h) (by omega) i t s
theorem Ot(c:qj)(lv:Value)(r:Ref.Req)(ao:Option Addr)(cap B:Nat)(w:World)(hm:xW w lv c.vals)(Y:XM c)(hn:c.vals.length<=1000)(hz:∀v ∈ c.vals,v.size<=100000)(H:Zp w r ao cap B)(M:yg w) :
  Calls prog 248 #[.agg #[.string c.op,.string c.key,lv,.bool c.no],yI B] w λe w'=>e = .returned (.bool (De.Xr c r))/\Below w.heap.size w w':=by
 have N:=λ(W:World) (hb:Below w.heap.size w W)=>zcB c lv (Ref.says r c.key) r ao cap B W (uI hm hb) Y hn hz (UN H.ok c.key) (H.below hb) (M.below hb);obtain⟨k,Z,i,_⟩:=N w (ze _ _)
 have b:∀(W:World),Below w.heap.size w W->Calls prog (opT k) #[ZR (Ref.says r c.key) B,lv] W λe w'=>e = .returned (.bool (YW c.op c.vals r (Ref.says r c.key)))/\Below W.heap.size W w':=by
  intro W hb;obtain⟨k',_,G,h3⟩:=N W hb;rw[i] at G;injection G with G
  rw[G];exact h3
 have h:De.Xr c r=(YW c.op c.vals r (Ref.says r c.key) != c.no):=rfl;rw[h];have p:=λ(W:World) (hb:Below w.heap.size w W)=>gK c.op W (M.below hb).ops;have z:=λ(W:World) (hb:Below w.heap.size w W)=>H.call W c.key hb;rw[i] at p;have eg:=TU k Z;have es:=Ca;obtain⟨a,O,rfl,_⟩:=hm;obtain⟨op,key,vals,no⟩:=c;simp only at b p z |-;obtain⟨S,q⟩:=Nm (Ref.says r key);simp only[q] at b z;rw[q];obtain⟨T,s⟩:=Nm (YW op vals r S);simp only[s] at b;rw[s];unfold ZR yI at b;unfold opV at p;unfold yI;simp only[uw] at p;obtain⟨F,t⟩:∃g,opT k=g:=⟨_,rfl⟩;obtain⟨fl,D⟩:∃g,opL k=g:=⟨_,rfl⟩;obtain⟨ON,A⟩:∃g,opN k=g:=⟨_,rfl⟩;rw[t] at b eg;simp only[t,D,A] at p;obtain⟨X,V⟩:=Nm (S.getD ⟨#[]⟩);obtain⟨TH,C⟩:∃X,S.isSome=X:=⟨_,rfl⟩;simp only[V,C] at b z;have HT:=hid b;have CO:=hid p;have CS:=hid z;obtain⟨u,f⟩:∃W,w.alloc (.cells #[.string op,.string key,.slice a vals.length O,.bool no] 241)=W:=⟨_,rfl⟩;have J:Hid (Below w.heap.size w u):=hid (by rw[<- f];exact nbl w _);have P:u.cell? ⟨w.heap.size,0,none⟩=some (.string op):=by rw[<- f];simp
 have Q:u.cell? ⟨w.heap.size,1,none⟩=some (.string key):=by rw[<- f];simp
 have R:u.cell? ⟨w.heap.size,2,none⟩=some (.slice a vals.length O):=by rw[<- f];simp
 have U:u.cell? ⟨w.heap.size,3,none⟩=some (.bool no):=by rw[<- f];simp
 have L:=hid f;have sf:=λW a g m=>ZC prog W a (.func (.func g) #[] #[]) m rfl;clear N b p z q s t D A V C f i h Y hn hz H M Z;go_enter func248,ntmps248
 go_upto_region 1 with fail
 rw[L.out]
 go_upto_region 2 with (go_at_call 232;refine (CO.out u J.out).mono ?_;rintro e w1 ⟨rfl,d⟩;have k0:=zh d P;have k1:=zh d Q;have k2:=zh d R;have k3:=zh d U;have l:Hid (Below w.heap.size w w1):=J.out.trans (d.mono J.out.size);clear d)
 obtain⟨I,j⟩:∃W,w1.alloc (.cells #[.string ON,.func (.func fl) #[] #[],.func (.func F) #[] #[]] 342)=W:=⟨_,rfl⟩;have f2:I.cell? ⟨w1.heap.size,2,none⟩=some (.func (.func F) #[] #[]):=by rw[<- j];simp
 have y:Below w1.heap.size w1 I:=by rw[<- j];exact nbl w1 _
 have j1:=zh y k1;have j2:=zh y k2;have j3:=zh y k3;have n:Hid (Below w.heap.size w I):=hid (l.out.trans (y.mono l.out.size));rw[j];clear j y k0 k1 k2 k3 l P Q R U
 go_upto_region 3 with (go_at_fn 215;refine (CS.out I n.out).mono ?_;rintro e E ⟨rfl,d⟩;have f3:=zh d f2;have l2:=zh d j2;have l3:=zh d j3;have o:Hid (Below w.heap.size w E):=n.out.trans (d.mono n.out.size);clear d)
 go_region_held3 (λw'=>w'.cell? ⟨w1.heap.size,2,none⟩=some (.func (.func F) #[] #[])/\w'.cell? ⟨w.heap.size,2,none⟩=some (.slice a vals.length O)/\w'.cell? ⟨w.heap.size,3,none⟩=some (.bool no)) (go_keep) (first
  | ((go_at_fn F);refine (HT.out E.drew o.out.drew).mono ?_;rintro e w4 ⟨rfl,d⟩;have x:Below E.heap.size E w4:=(ze _ E).drew.trans d;have f4:=zh x f3;have m2:=zh x l2;have m3:=zh x l3;have K:Hid (Below w.heap.size w w4):=o.out.trans (x.mono o.out.size);clear d x))
 all_goals
  go_wp2_with fail;go_ret;exact⟨rfl,K.out⟩
end Go.Proofs.YtdakgnaojakldaaGreatDoor
