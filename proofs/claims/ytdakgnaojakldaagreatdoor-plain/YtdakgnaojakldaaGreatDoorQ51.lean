/- P -/
import Derived.Test.YtdakgnaojakldaaGreatDoorQ50
open Go.Proofs.Tryz
set_option maxRecDepth 100000
set_option maxHeartbeats 4000000
namespace Go.Proofs.YtdakgnaojakldaaGreatDoor
open Go.RowKit
namespace Kp
def r0:Ref.Req:=⟨⟨#[97,110,110]⟩,⟨#[114,101,97,100]⟩,⟨#[98,111,120]⟩,[]⟩
def Xb:BA:=⟨#[97]⟩
def Vw:StO:=vG xM 2 Xb (jh [xX])
theorem tF:Ref.yN r0=true:=by kernel_rfl
theorem Ml:De.kZ xM r0=(De.silent,0):=by
 unfold De.kZ;rw[zb tF]
 rfl
theorem oq:ZE xM 2 Xb (jh [xX])=(0,0)/\Vw=upd xM 2 [(Xb,[stK xX])]:=by
 have h:=JM xM (i:=2) (k:=0) (by decide) (by decide) (jh [xX]) (VI _);have e:qp 0=Xb:=rfl;rw[e] at h;refine⟨h.1.trans (by rfl),?_⟩;unfold Vw;refine h.2.trans ?_;rw[zb (by rfl),Au]
 rfl
theorem Mk:De.kZ Vw r0=(⟨1,2,Xb,1⟩,0):=by
 unfold De.kZ;rw[zb tF,oq.2];have hd:De.Xm De.ZQ r0 (stK xX)=false:=by kernel_rfl
 have c:De.Xm De.vX r0 (stK xX)=true:=by kernel_rfl
 have a:De.yH (upd xM 2 [(Xb,[stK xX])]) De.ZQ r0 [0,1,2,3]=none:=by
  simp[De.yH,De.kr,De.XT,upd,xM,hd]
 have b:De.yH (upd xM 2 [(Xb,[stK xX])]) De.vX r0 [2,3]=some (2,Xb,1):=by
  simp[De.yH,De.kr,De.XT,upd,c]
 unfold De.Ji;rw[a,b];simp[De.XW,upd,xM]
end Kp
theorem Sa:Y6 Kp.xX:=by constructor<;>(unfold I64;decide)
theorem Rj:Pg.reqLen Kp.r0:=⟨by unfold maxLen;decide,by unfold maxLen;decide,by unfold maxLen;decide,zO _,λm a=>by simp[Kp.r0] at a⟩
theorem Sb(W:World)(b:Nat)(h:W.heap[b]?=some (.cells #[.bool false,.slice none 0 0,.slice none 0 0,.slice none 0 0,.int .i64 0,.int .i64 0,.int .i64 0,.int .i64 0,.bool false,.int .i64 0] 66)):Qw W (.slice (some ⟨b,0,none⟩) 1 1) [Kp.xX]:=by
 refine⟨some ⟨b,0,none⟩,1,rfl,λk r d=>?_⟩
 have f:k=0:=by
  have:=(qY.1 d).1
  simp at this;exact this
 subst f;have e:Kp.xX=r:=by simpa using d
 subst e;have c:=λk=>(zf h k).1;have a:IntsIn W (.slice none 0 0) []:=⟨none,0,rfl,λk x g=>by simp at g⟩;refine⟨Sa,zO _,zO _,zO _,b,0,.slice none 0 0,.slice none 0 0,.slice none 0 0,rfl,⟨c 0,c 1,c 2,c 3,c 4,c 5,c 6,c 7,c 8,c 9⟩,a,a,a⟩
theorem Mm(aL:Addr)(w:World)(hC:Qk w aL)(hE:xH w) :
  Calls prog 27 #[] w λe p=>e = .returned (.bool true)/\Below w.heap.size w p:=by
 have cn:=dz (λb=>b=w.heap.size) w rfl;have G:=λ(st:StO) (W:World) (hb:Below w.heap.size w W) (L:qP (λb=>b=w.heap.size) W w.heap.size st)=>dY w.heap.size st Kp.r0 none 0 (λb=>b=w.heap.size) W L (.inl rfl) Rj (hE.below hb);have cP:=λ(W:World) (rv:Value) (hr:Qw W rv [Kp.xX])=>rX [Kp.xX] rv W hr (by unfold maxLen;simp);have H:=λ(W:World) (hb:Below w.heap.size w W) (L:qP (λb=>b=w.heap.size) W w.heap.size xM) (hz:w.heap.size<W.heap.size)=>ed w.heap.size xM 2 Kp.Xb (Kp.jh [Kp.xX]) (λb=>b=w.heap.size) aL W (hC.below hb) L (λb hb=>by rw[hb];exact hz) (by unfold maxLen;decide);have I:=G xM;have J:=G Kp.Vw;rw[Kp.Ml] at I;rw[Kp.Mk] at J;rw[Kp.oq.1] at H;have CN:=hid cn;have X:Hid (∀(W:World),Below w.heap.size w W->qP (λb=>b=w.heap.size) W w.heap.size xM->Calls prog 25 #[.pointer (some ⟨w.heap.size,0,none⟩),.agg #[.string ⟨#[97,110,110]⟩,.string ⟨#[114,101,97,100]⟩,.string ⟨#[98,111,120]⟩,.slice none 0 0]] W λe p=>e = .returned (.tuple #[.agg #[.int .i64 3,.int .i64 0,.string ⟨#[]⟩,.int .i64 0],.int .i64 0])/\Below W.heap.size W p):=hid I;have D1:Hid (∀(W:World),Below w.heap.size w W->qP (λb=>b=w.heap.size) W w.heap.size Kp.Vw->Calls prog 25 #[.pointer (some ⟨w.heap.size,0,none⟩),.agg #[.string ⟨#[97,110,110]⟩,.string ⟨#[114,101,97,100]⟩,.string ⟨#[98,111,120]⟩,.slice none 0 0]] W λe p=>e = .returned (.tuple #[.agg #[.int .i64 1,.int .i64 2,.string ⟨#[97]⟩,.int .i64 1],.int .i64 0])/\Below W.heap.size W p):=hid J;have U:=hid cP;have V:=hid H;clear cn G I J cP H;go_enter func27,ntmps27
 go_upto_region 5 with (go_at_call 21;refine CN.out.mono ?_;rintro e g ⟨rfl,b1,o1⟩;have z:=hid b1;have B:=hid o1;clear b1 o1)
 obtain⟨D,c⟩:∃W,g.alloc (.cells #[.string ⟨#[97,110,110]⟩,.string ⟨#[114,101,97,100]⟩,.string ⟨#[98,111,120]⟩,.slice none 0 0] 53)=W:=⟨_,rfl⟩;have E:Below g.heap.size g D:=by rw[<- c];exact nB g _
 have f:D.heap[g.heap.size]?=some (jH (.string ⟨#[97,110,110]⟩) (.string ⟨#[114,101,97,100]⟩) (.string ⟨#[98,111,120]⟩) (.slice none 0 0)):=by rw[<- c];exact zM g _
 have z1:w.heap.size<g.heap.size:=qF B.out.row.choose_spec.1;obtain⟨P,n⟩:∃x,g.heap.size=x:=⟨_,rfl⟩;have i:=hid (z.out.trans (E.mono z.out.size));have C:=hid (B.out.below E);rw[n] at f z1 |-;rw[c];have s:=(zf f 0).1;have t:=(zf f 1).1;have u:=(zf f 2).1;have v:=(zf f 3).1;simp at s t u v;have Y:=hid f;have zr:=qF f;clear c E n f B z
 go_upto_region 6 with (go_at_call 25;refine (X.out D i.out C.out).mono ?_;rintro e h ⟨rfl,b3⟩;have j:=hid b3;clear b3)
 obtain⟨q,d⟩:∃W,h.alloc (.cells #[.int .i64 3,.int .i64 0,.string ⟨#[]⟩,.int .i64 0] 48)=W:=⟨_,rfl⟩;have r:Below h.heap.size h q:=by rw[<- d];exact nB h _
 have y:q.heap[h.heap.size]?=some (.cells #[.int .i64 3,.int .i64 0,.string ⟨#[]⟩,.int .i64 0] 48):=by rw[<- d];exact zM h _
 have z3:=j.out.size;obtain⟨db,m⟩:∃x,h.heap.size=x:=⟨_,rfl⟩;have R:=hid ((i.out.trans (j.out.mono i.out.size)).trans (r.mono (jC i.out.size z3)));have O4:=hid ((C.out.below j.out).below r);have N:=(r.block P (by omega)).trans ((j.out.block P zr).trans Y.out);rw[m] at y z3 |-;rw[d];have K:=(zf y 0).1;simp at K;have Z:=hid N;have zd:=qF y;have Q:=qF N;clear d r m y N X i j C Y s t u v
 go_upto_region 7 with (first
  | (go_at_call 24;refine (V.out w6 S.out O6.out z6).mono ?_;rintro e w7 ⟨rfl,t7,o7⟩;have T7:=hid t7;have O7:=hid o7;clear t7 o7)
  | (go_at_call 18;refine (U.out _ _ (Sb _ _ (zM q _))).mono ?_;rintro e w6 ⟨rfl,b6⟩;have a:=(nB q _).trans (b6.mono (by simp));have l:=hid a;have S:=hid (R.out.trans (a.mono R.out.size));have O6:=hid (O4.out.below a);have z6:w.heap.size<w6.heap.size:=uq (by omega) a.size;clear b6 a))
 have t47:=(zT.of (M:=λb=>b=w.heap.size) l.out).trans T7.out;have o:=(t47.block P Q (by omega)).trans Z.out;have s:=(zf o 0).1;have t:=(zf o 1).1;have u:=(zf o 2).1;have v:=(zf o 3).1;simp at s t u v;have e7:=t47.cell (x:=⟨db,0,none⟩) (by simp;omega) K;have A:=hid (S.out.trans (T7.out.below (λk hk e=>by omega) (by omega)));clear t47 o Z K l U V
 go_upto_region 8 with (go_at_call 25;refine (D1.out w7 A.out O7.out).mono ?_;rintro e w8 ⟨rfl,F⟩;have e8:=zg F e7;have T:=hid (A.out.trans (F.mono A.out.size));clear F)
 have d7:=Yp _ _ e8;have e9:=λO:Obj=>zg (nB w8 O) e8;go_wp2_with fail;go_ret;exact⟨rfl,T.out.alloc T.out.size _⟩
theorem wI{L:List zy}(h:y9 L)(j:Nat):y9 (L.take j):=h.sublist (List.take_sublist j L)
theorem WQ{L:List zy}(h:y9 L){j:Nat}(f:j<L.length):zC (L.take j) L[j].1=false/\jL (L.take j) L[j].1 L[j].2=L.take (j+1):=by
 have e:=wI h j
 have d:∀y ∈ L.take j,xL y.1 L[j].1<0:=by
  intro y c;obtain⟨k,g,rfl⟩:=ZJ c;rw[xC] at g;rw[List.getElem_take];exact h.at (a:=k) (b:=j) (by omega) (zl _) (zl _)
 constructor
 ·cases hh:zC (L.take j) L[j].1 with
  | false=>rfl
  | true=>
   obtain⟨l,i,_⟩:=dm hh
   have:=d _ i
   rw[Yw] at this;omega
 ·refine wJ _ _ (e.with _ _) (wI h (j+1)) (λy=>?_)
  rw[JA e,QZ f,ZM,xE]
  constructor
  ·rintro (rfl|⟨c,_⟩)
   ·exact .inr rfl
   ·exact .inl c
  ·rintro (c|rfl)
   ·exact .inr ⟨c,ne_of_lt (d y c)⟩
   ·exact .inl rfl
namespace Kp
def bSt(st:StO)(L j:Nat):StO:=λi=>if i<L then st i else if i=L then (st L).take j else []
theorem Dc(st:StO):bSt st 0 0=xM:=by
 funext i
 unfold bSt xM;rw[za (by omega)]
 split<;>rfl
theorem Da(st:StO)(L:Nat):bSt st L (st L).length=bSt st (L+1) 0:=by
 funext i
 unfold bSt
 by_cases h1:i<L
 ·rw[zb h1,zb (by omega)]
 ·by_cases h2:i=L
  ·subst h2;rw[za h1,zb rfl,zb (by omega),uW (ze _)]
  ·rw[za h1,za h2,za (by omega)]
   split<;>rfl
theorem K8(st:StO)(L j:Nat):bSt st L j L=(st L).take j:=by unfold bSt;rw[za (by omega),zb rfl]
theorem CZ(st:StO){i:Nat}(h:i<4):bSt st 4 0 i=st i:=by unfold bSt;rw[zb h]
theorem Fp{st:StO}(h:Zm st)(i:Qr st){L j:Nat}(a:L<4)(g:j<(st L).length):∃k l,k<6/\(st L)[j].1=qp k/\(st L)[j].2=qK l/\JS st (L:Int) (qp k)=0/\JR st (L:Int) (qp k)=xu (qK l):=by
 obtain⟨⟨k,c,d⟩,l,e⟩:=i L a _ (qH g);obtain⟨b,f⟩:=bJ (h L a).1 (qH g);rw[d] at b f;refine⟨k,l,c,d,e,?_,?_⟩
 ·unfold JS;rw[zb (dU a c)];exact zb b
 ·unfold JR Vo;simp only[Qm];rw[zb ⟨dU a c,b⟩,f];simp only;rw[e]
theorem Db{st:StO}(e:Zm st){L j k:Nat}{l:List zt}(a:L<4)(n:j<(st L).length)(o:k<6)(f:(st L)[j].1=qp k)(g:(st L)[j].2=qK l):ZE (bSt st L j) (L:Int) (qp k) (xu (qK l))=(0,0)/\vG (bSt st L j) (L:Int) (qp k) (xu (qK l))=bSt st L (j+1):=by
 obtain⟨c,d⟩:=JM (bSt st L j) a o _ (dW l);obtain⟨q,b⟩:=WQ (e L a).1 n;rw[f] at q b;rw[g] at b;have r:=(e L a).2.1;have p:(bSt st L j L).length=j:=by rw[K8,xC];omega
 have m:(zC (bSt st L j L) (qp k)||decide ((bSt st L j L).length<4))=true:=by
  rw[p,zF (by omega:j<4),Bool.or_true]
 rw[m] at c d;refine⟨c,d.trans ?_⟩;simp only[qh]
 funext i
 by_cases h:i=L
 ·subst h;rw[YS,K8,K8,Av];exact b
 ·rw[VW _ h];unfold bSt;rw[za h,za h]
end Kp
theorem bz{st st':StO}(h:∀i,i<4->st i=st' i)(eff:BA)(r:Ref.Req):∀is:List Nat,(∀i ∈ is,i<4)->De.yH st eff r is=De.yH st' eff r is
 | [],_=>rfl
 | i::is,hi=>by
  rw[De.yH,De.yH,h i (hi i (by simp)),bz h eff r is (λk a=>hi k (by simp[a]))]
theorem EJ{st st':StO}(h:∀i,i<4->st i=st' i)(r:Ref.Req):De.kZ st r=De.kZ st' r:=by
 unfold De.kZ De.Ji De.XW;rw[bz h De.ZQ r [0,1,2,3] (by decide),bz h De.vX r [2,3] (by decide),h 0 (by decide),h 1 (by decide)]
theorem Fb(l:List zB):0<(xu l).size:=by
 have a:(⟨#[123,34,115,116,97,116,101,109,101,110,116,34,58]⟩:BA).size=13:=rfl;unfold xu;rw[zI,zI];omega
def gL(w:World)(e:Value)(asks:List (List Int)):Prop:=∃a c,e = .slice a asks.length c/\∀(k:Nat) (raw:List Int),asks[k]?=some raw->∃b o d,a=some ⟨b,o,none⟩/\w.cell? ⟨b,o+k,none⟩=some d/\IntsIn w d raw
def Yl(w:World)(B:Nat)(d:Value)(L:List BA):Prop:=∃a c,d = .slice a L.length c/\∀(k:Nat) (x:BA),L[k]?=some x->∃b,a=some ⟨b,0,none⟩/\B<=b/\w.cell? ⟨b,k,none⟩=some (.string x)
theorem Yl.own{w:World}{B:Nat}{f:Value}{L:List BA}(h:zA w B f L):Yl w B f L:=by
 obtain⟨a,c,rfl⟩:=xh h;refine⟨a,c,rfl,λk x d=>?_⟩;have j:k<L.length:=(qY.1 d).1
 rcases h.2 with ⟨e,h0⟩|⟨gb,cap,cur,e,_⟩
 ·omega
 ·have b:w.ownsRow B 9 1 (.slice (some ⟨gb,0,none⟩) L.length cap) L.length (L.map Value.string):=by rw[<- e];exact h
  have g:=World.ownsRow.cellAt b k (by omega);have i:=(World.ownsRow.lt b gb (by rfl)).1;injection e with e1 e2 e3
  exact⟨gb,e1,i,by rw[g];simp[List.getElem?_map,d]⟩
theorem Yl.turn{w g:World}{B:Nat}{f:Value}{L:List BA}{M:Nat->Prop}(h:Yl w B f L)(l:zT M w g)(i:∀b,B<=b->¬M b):Yl g B f L:=by
 obtain⟨a,c,rfl,h⟩:=h;refine⟨a,c,rfl,λk x m=>?_⟩;obtain⟨d,e,hb,j⟩:=h k x m;exact⟨d,e,hb,l.cell (x:=⟨d,k,none⟩) (i d hb) j⟩
theorem Cj(raw:List Int):Pg.reqLen (Kp.yF raw):=by
 have c:∀i,(Kp.xZ raw i).size<=maxLen:=λi=>by
  have:=Kp.Zd (P:=λb=>b.size<=8) Kp.KH (by decide) (Kp.zo (raw.getD (i % raw.length) 0) 14)
  unfold Kp.xZ maxLen;omega
 unfold Kp.yF
 split
 ·exact⟨by unfold maxLen;decide,by unfold maxLen;decide,by unfold maxLen;decide,zO _,λm a=>by simp at a⟩
 ·refine⟨c 0,c 1,c 2,?_,λm a=>?_⟩
  ·simp only[xm]
   split<;>split<;>simp
  ·simp only[ZM] at a
   rcases a with a|a
   ·split at a
    ·rw[xE] at a;subst a;exact⟨(by unfold maxLen;decide:(⟨#[116,97,103]⟩:BA).size<=maxLen),c 3⟩
    ·simp at a
   ·split at a
    ·rw[xE] at a;subst a;exact⟨(by unfold maxLen;decide:(⟨#[97,103,101]⟩:BA).size<=maxLen),c 4⟩
    ·simp at a
end Go.Proofs.YtdakgnaojakldaaGreatDoor
namespace Go.Proofs.YtdakgnaojakldaaGreatDoor
open laws Go.ChangeShapes Go.WideShapes Go.ChangeAt Go.RowKit Go.Joins Go.Deep
instance:Inhabited Kp.xA:=⟨⟨0,0,[]⟩⟩
section
variable {H:Type} {enc:TypeId×Value->H} {w:World} {spare:Nat->Bool} {held:Bool}
theorem OY{fuel:Nat}{cs:List Value}{x:DataW H×List MemPlace}(h:DataW.trod enc prog w 0 spare held fuel 68 cs=some x)(v:∀b,spare b=true) :
  ∃(p:Kp.xA) (o:Value),cs=[.int .i64 p.layer,.int .i64 p.name,o]/\I64 p.layer/\I64 p.name/\p.rules.length<=maxLen/\Qw w o p.rules:=by
 obtain⟨xs,n,_,rfl,_,_,_⟩:=DataW.trod_struct underlying68 h;have c3:prog.cellsOf 3=1:=by kernel_rfl
 have i:prog.cellsOf 32=1:=by kernel_rfl
 obtain⟨u,c⟩:=Kw underlying68 (λj f a=>by
  match j,a with
  | 0,a=>simp at a;subst a;exact⟨rfl,c3⟩
  | 1,a=>simp at a;subst a;exact⟨rfl,c3⟩
  | 2,a=>simp at a;subst a;exact⟨rfl,i⟩
  | j+3,a=>simp at a) (by kernel_rfl) h
 obtain⟨N,D,K,G,d,_,r⟩:=c 0 _ rfl;obtain⟨O,E,L,I,e,_,s⟩:=c 1 _ rfl;obtain⟨P,F,M,J,g,_,t⟩:=c 2 _ rfl;have k:cs.length=3:=u
 match cs,k with
 | [u0,u1,u2],_=>
  simp only[uT,QX,Option.some.injEq] at d e g;subst d e g;obtain⟨z,l,_,q⟩:=DataW.trod_int underlying3 r;obtain⟨A,m,_,f1⟩:=DataW.trod_int underlying3 s;obtain⟨B,C,y⟩:=Sd t v;simp only[List.cons.injEq,and_true] at l m;subst l m;exact⟨⟨z,A,B⟩,u2,rfl,wf_i64 q,wf_i64 f1,C,y⟩
theorem OZ{fuel:Nat}{v:Value}{x:DataW H×List MemPlace}(h:DataW.trod enc prog w 0 spare held fuel 36 [v]=some x)(u:∀b,spare b=true):∃l:List Kp.xA,l.length<=maxLen/\KZ w v l:=by
 have E:prog.cellsOf 68=3:=by kernel_rfl
 rcases open_slice underlying36 h with ⟨e,_⟩|⟨a,len,cap,m,n,D,Pl,e,_,hl,hmx,hmm,_,hcell⟩
 ·simp only[List.cons.injEq,and_true] at e;subst e;exact⟨[],by simp,none,0,rfl,λk r d=>by simp at d⟩
 ·simp only[List.cons.injEq,and_true] at e;subst e;rw[u,zb rfl] at hmm;rw[E] at hcell
  have each:∀i,i<len->∃p:Kp.xA,I64 p.layer/\I64 p.name/\p.rules.length<=maxLen /\
   ∃c o f,some a=some ⟨c,o,none⟩/\w.cell? ⟨c,o+i*3,none⟩=some (.int .i64 p.layer)/\w.cell? ⟨c,o+i*3+1,none⟩=some (.int .i64 p.name)/\w.cell? ⟨c,o+i*3+2,none⟩=some f/\Qw w f p.rules:=by
   intro i hi
   have s:∃b o,a=⟨b,o,none⟩:=by
    obtain⟨z,A,L⟩:=hcell 0 (by omega);obtain⟨_,I,g⟩:=World.cells?_some A
    have:=g 0 (by omega)
    rw[add_add,Nat.zero_mul,vR,zl (by omega)] at this;exact plain_of_cell this
   obtain⟨c,o,rfl⟩:=s;obtain⟨y,B,C⟩:=hcell i (by omega);obtain⟨p,f,rfl,f1,f2,K,J⟩:=OY C u;obtain⟨_,_,q⟩:=World.cells?_some B
   have cell:∀j,j<3->w.cell? ⟨c,o+i*3+j,none⟩=[Value.int .i64 p.layer,.int .i64 p.name,f][j]?:=by
    intro j G
    have:=q j G
    rw[add_add,addr_add,<- KV] at this;exact this
   exact⟨p,f1,f2,K,c,o,f,rfl,cell 0 (by omega),cell 1 (by omega),cell 2 (by omega),J⟩
  obtain⟨F,hF⟩:=choose_lt each;refine⟨(List.range len).map F,by rw[zN,uU];omega,some a,cap,by rw[zN,uU],λk r d=>?_⟩
  have t:k<len:=by
   have:=(qY.1 d).1
   rw[zN,uU] at this;exact this
  rw[jN,Vb t] at d;simp only[XG,Option.some.injEq] at d;subst d;exact hF k t
theorem Cm{fuel:Nat}{v:Value}{x:DataW H×List MemPlace}(h:DataW.trod enc prog w 0 spare held fuel 37 [v]=some x)(u:∀b,spare b=true):∃l:List (List Int),l.length<=maxLen/\gL w v l:=by
 have C:prog.cellsOf 30=1:=by kernel_rfl
 rcases open_slice underlying37 h with ⟨e,_⟩|⟨a,len,cap,m,n,D,Pl,e,_,hl,hmx,hmm,_,hcell⟩
 ·simp only[List.cons.injEq,and_true] at e;subst e;exact⟨[],by simp,none,0,rfl,λk r c=>by simp at c⟩
 ·simp only[List.cons.injEq,and_true] at e;subst e;rw[u,zb rfl] at hmm;rw[C] at hcell
  have each:∀i,i<len->∃r:List Int,∃d o f,some a=some ⟨d,o,none⟩/\w.cell? ⟨d,o+i,none⟩=some f/\IntsIn w f r:=by
   intro i hi
   have s:∃b o,a=⟨b,o,none⟩:=by
    obtain⟨y,z,G⟩:=hcell 0 (by omega);obtain⟨_,E,j⟩:=World.cells?_some z
    have:=j 0 (by omega)
    rw[add_add,Nat.zero_mul,vR,zl (by omega)] at this;exact plain_of_cell this
   obtain⟨d,o,rfl⟩:=s;obtain⟨g,A,B⟩:=hcell i (by omega);obtain⟨_,q,p⟩:=World.cells?_some A
   match g,q with
   | [f],_=>
    obtain⟨r,_,c⟩:=UM B u
    have:=p 0 (by omega)
    rw[add_add,addr_add,Nat.mul_one,vR] at this;exact⟨r,d,o,f,rfl,this,c⟩
  obtain⟨F,hF⟩:=choose_lt each;refine⟨(List.range len).map F,by rw[zN,uU];omega,some a,cap,by rw[zN,uU],λk r c=>?_⟩
  have t:k<len:=by
   have:=(qY.1 c).1
   rw[zN,uU] at this;exact this
  rw[jN,Vb t] at c;simp only[XG,Option.some.injEq] at c;subst c;exact hF k t
end
end Go.Proofs.YtdakgnaojakldaaGreatDoor
