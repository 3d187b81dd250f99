/- P -/
import Derived.Test.YtagnlbgbnfnapaaGreatDoorZ45
open Go.Proofs.Tryz
set_option maxRecDepth 100000
set_option maxHeartbeats 4000000
namespace Go.Proofs.YtagnlbgbnfnapaaGreatDoor
open Go.RowKit
namespace Kp
def r0:Ref.Req:=⟨⟨#[97,110,110]⟩,⟨#[114,101,97,100]⟩,⟨#[98,111,120]⟩,[]⟩
def XH:BA:=⟨#[97]⟩
def VX:StO:=yj xy 2 XH (qQ [xu])
theorem AP:Ref.yT r0=true:=by kernel_rfl
theorem MX:De.yF xy r0=(De.silent,0):=by
 unfold De.yF;rw[zb AP]
 rfl
theorem rV:jW xy 2 XH (qQ [xu])=(0,0)/\VX=upd xy 2 [(XH,[stK xu])]:=by
 have h:=Yw xy (i:=2) (k:=0) (by decide) (by decide) (qQ [xu]) (Qb _);have e:qy 0=XH:=rfl;rw[e] at h;refine⟨h.1.trans (by rfl),?_⟩;unfold VX;refine h.2.trans ?_;rw[zb (by rfl),Uq]
 rfl
theorem MW:De.yF VX r0=(⟨1,2,XH,1⟩,0):=by
 unfold De.yF;rw[zb AP,rV.2];have hd:De.yH De.yo r0 (stK xu)=false:=by kernel_rfl
 have c:De.yH De.xR r0 (stK xu)=true:=by kernel_rfl
 have a:De.qX (upd xy 2 [(XH,[stK xu])]) De.yo r0 [0,1,2,3]=none:=by
  simp[De.qX,De.yc,De.uA,upd,xy,hd]
 have b:De.qX (upd xy 2 [(XH,[stK xu])]) De.xR r0 [2,3]=some (2,XH,1):=by
  simp[De.qX,De.yc,De.uA,upd,c]
 unfold De.Za;rw[a,b];simp[De.jH,upd,xy]
end Kp
theorem Vn:Qo Kp.xu:=by constructor<;>(unfold I64;decide)
theorem RH:Pg.reqLen Kp.r0:=⟨by unfold maxLen;decide,by unfold maxLen;decide,by unfold maxLen;decide,zU _,λm a=>by simp[Kp.r0] at a⟩
theorem SI(W:World)(b:Nat)(h:W.heap[b]?=some (.cells #[.bool false,.slice none 0 0,.slice none 0 0,.slice none 0 0,.int .i64 0,.int .i64 0,.int .i64 0,.int .i64 0,.bool false,.int .i64 0] 42)):uY W (.slice (some ⟨b,0,none⟩) 1 1) [Kp.xu]:=by
 refine⟨some ⟨b,0,none⟩,1,rfl,λk r d=>?_⟩
 have f:k=0:=by
  have:=(xw.1 d).1
  simp at this;exact this
 subst f;have e:Kp.xu=r:=by simpa using d
 subst e;have c:=λk=>(zf h k).1;have a:IntsIn W (.slice none 0 0) []:=⟨none,0,rfl,λk x g=>by simp at g⟩;refine⟨Vn,zU _,zU _,zU _,b,0,.slice none 0 0,.slice none 0 0,.slice none 0 0,rfl,⟨c 0,c 1,c 2,c 3,c 4,c 5,c 6,c 7,c 8,c 9⟩,a,a,a⟩
theorem rU(aL:Addr)(w:World)(hC:Qh w aL)(hE:xK w) :
  Calls prog 7 #[] w λe p=>e = .returned (.bool true)/\Below w.heap.size w p:=by
 have cn:=fT (λb=>b=w.heap.size) w rfl;have G:=λ(st:StO) (W:World) (hb:Below w.heap.size w W) (L:qN (λb=>b=w.heap.size) W w.heap.size st)=>KE w.heap.size st Kp.r0 none 0 (λb=>b=w.heap.size) W L (.inl rfl) RH (hE.below hb);have cP:=λ(W:World) (rv:Value) (hr:uY W rv [Kp.xu])=>Kt [Kp.xu] rv W hr (by unfold maxLen;simp);have H:=λ(W:World) (hb:Below w.heap.size w W) (L:qN (λb=>b=w.heap.size) W w.heap.size xy) (hz:w.heap.size<W.heap.size)=>Uc w.heap.size xy 2 Kp.XH (Kp.qQ [Kp.xu]) (λb=>b=w.heap.size) aL W (hC.below hb) L (λb hb=>by rw[hb];exact hz) (by unfold maxLen;decide);have I:=G xy;have J:=G Kp.VX;rw[Kp.MX] at I;rw[Kp.MW] at J;rw[Kp.rV.1] at H;have CN:=hid cn;have X:Hid (∀(W:World),Below w.heap.size w W->qN (λb=>b=w.heap.size) W w.heap.size xy->Calls prog 10 #[.pointer (some ⟨w.heap.size,0,none⟩),.agg #[.string ⟨#[97,110,110]⟩,.string ⟨#[114,101,97,100]⟩,.string ⟨#[98,111,120]⟩,.slice none 0 0]] W λe p=>e = .returned (.tuple #[.agg #[.int .i64 3,.int .i64 0,.string ⟨#[]⟩,.int .i64 0],.int .i64 0])/\Below W.heap.size W p):=hid I;have D1:Hid (∀(W:World),Below w.heap.size w W->qN (λb=>b=w.heap.size) W w.heap.size Kp.VX->Calls prog 10 #[.pointer (some ⟨w.heap.size,0,none⟩),.agg #[.string ⟨#[97,110,110]⟩,.string ⟨#[114,101,97,100]⟩,.string ⟨#[98,111,120]⟩,.slice none 0 0]] W λe p=>e = .returned (.tuple #[.agg #[.int .i64 1,.int .i64 2,.string ⟨#[97]⟩,.int .i64 1],.int .i64 0])/\Below W.heap.size W p):=hid J;have U:=hid cP;have V:=hid H;clear cn G I J cP H;go_enter func7,ntmps7
 go_upto_region 5 with (go_at_call 12;refine CN.out.mono ?_;rintro e g ⟨rfl,b1,o1⟩;have z:=hid b1;have B:=hid o1;clear b1 o1)
 obtain⟨D,c⟩:∃W,g.alloc (.cells #[.string ⟨#[97,110,110]⟩,.string ⟨#[114,101,97,100]⟩,.string ⟨#[98,111,120]⟩,.slice none 0 0] 34)=W:=⟨_,rfl⟩;have E:Below g.heap.size g D:=by rw[<- c];exact nB g _
 have f:D.heap[g.heap.size]?=some (jc (.string ⟨#[97,110,110]⟩) (.string ⟨#[114,101,97,100]⟩) (.string ⟨#[98,111,120]⟩) (.slice none 0 0)):=by rw[<- c];exact zL g _
 have z1:w.heap.size<g.heap.size:=zY B.out.row.choose_spec.1;obtain⟨P,n⟩:∃x,g.heap.size=x:=⟨_,rfl⟩;have i:=hid (z.out.trans (E.mono z.out.size));have C:=hid (B.out.below E);rw[n] at f z1 |-;rw[c];have s:=(zf f 0).1;have t:=(zf f 1).1;have u:=(zf f 2).1;have v:=(zf f 3).1;simp at s t u v;have Y:=hid f;have zr:=zY f;clear c E n f B z
 go_upto_region 6 with (go_at_call 10;refine (X.out D i.out C.out).mono ?_;rintro e h ⟨rfl,b3⟩;have j:=hid b3;clear b3)
 obtain⟨q,d⟩:∃W,h.alloc (.cells #[.int .i64 3,.int .i64 0,.string ⟨#[]⟩,.int .i64 0] 37)=W:=⟨_,rfl⟩;have r:Below h.heap.size h q:=by rw[<- d];exact nB h _
 have y:q.heap[h.heap.size]?=some (.cells #[.int .i64 3,.int .i64 0,.string ⟨#[]⟩,.int .i64 0] 37):=by rw[<- d];exact zL h _
 have z3:=j.out.size;obtain⟨db,m⟩:∃x,h.heap.size=x:=⟨_,rfl⟩;have R:=hid ((i.out.trans (j.out.mono i.out.size)).trans (r.mono (jy i.out.size z3)));have O4:=hid ((C.out.below j.out).below r);have N:=(r.block P (by omega)).trans ((j.out.block P zr).trans Y.out);rw[m] at y z3 |-;rw[d];have K:=(zf y 0).1;simp at K;have Z:=hid N;have zd:=zY y;have Q:=zY N;clear d r m y N X i j C Y s t u v
 go_upto_region 7 with (first
  | (go_at_call 13;refine (V.out w6 S.out O6.out z6).mono ?_;rintro e w7 ⟨rfl,t7,o7⟩;have T7:=hid t7;have O7:=hid o7;clear t7 o7)
  | (go_at_call 14;refine (U.out _ _ (SI _ _ (zL q _))).mono ?_;rintro e w6 ⟨rfl,b6⟩;have a:=(nB q _).trans (b6.mono (by simp));have l:=hid a;have S:=hid (R.out.trans (a.mono R.out.size));have O6:=hid (O4.out.below a);have z6:w.heap.size<w6.heap.size:=xx (by omega) a.size;clear b6 a))
 have t47:=(zC.of (M:=λb=>b=w.heap.size) l.out).trans T7.out;have o:=(t47.block P Q (by omega)).trans Z.out;have s:=(zf o 0).1;have t:=(zf o 1).1;have u:=(zf o 2).1;have v:=(zf o 3).1;simp at s t u v;have e7:=t47.cell (x:=⟨db,0,none⟩) (by simp;omega) K;have A:=hid (S.out.trans (T7.out.below (λk hk e=>by omega) (by omega)));clear t47 o Z K l U V
 go_upto_region 8 with (go_at_call 10;refine (D1.out w7 A.out O7.out).mono ?_;rintro e w8 ⟨rfl,F⟩;have e8:=zh F e7;have T:=hid (A.out.trans (F.mono A.out.size));clear F)
 have d7:=kX _ _ e8;have e9:=λO:Obj=>zh (nB w8 O) e8;go_wp2_with fail;go_ret;exact⟨rfl,T.out.alloc T.out.size _⟩
namespace Kp
end Kp
theorem U7{b a:StO}(h:∀i,i<4->b i=a i)(eff:BA)(r:Ref.Req):∀is:List Nat,(∀i ∈ is,i<4)->De.qX b eff r is=De.qX a eff r is
 | [],_=>rfl
 | i::is,hi=>by
  rw[De.qX,De.qX,h i (hi i (by simp)),U7 h eff r is (λk c=>hi k (by simp[c]))]
def lH(w:World)(e:Value)(asks:List (List Int)):Prop:=∃a c,e = .slice a asks.length c/\∀(k:Nat) (raw:List Int),asks[k]?=some raw->∃b o d,a=some ⟨b,o,none⟩/\w.cell? ⟨b,o+k,none⟩=some d/\IntsIn w d raw
def aC(w:World)(B:Nat)(d:Value)(L:List BA):Prop:=∃a c,d = .slice a L.length c/\∀(k:Nat) (x:BA),L[k]?=some x->∃b,a=some ⟨b,0,none⟩/\B<=b/\w.cell? ⟨b,k,none⟩=some (.string x)
theorem aC.own{w:World}{B:Nat}{f:Value}{L:List BA}(h:zZ w B f L):aC w B f L:=by
 obtain⟨a,c,rfl⟩:=jV h;refine⟨a,c,rfl,λk x d=>?_⟩;have j:k<L.length:=(xw.1 d).1
 rcases h.2 with ⟨e,h0⟩|⟨gb,cap,cur,e,_⟩
 ·omega
 ·have b:w.ownsRow B 9 1 (.slice (some ⟨gb,0,none⟩) L.length cap) L.length (L.map Value.string):=by rw[<- e];exact h
  have g:=World.ownsRow.cellAt b k (by omega);have i:=(World.ownsRow.lt b gb (by rfl)).1;injection e with e1 e2 e3
  exact⟨gb,e1,i,by rw[g];simp[List.getElem?_map,d]⟩
theorem mM(raw:List Int):Pg.reqLen (Kp.xe raw):=by
 have c:∀i,(Kp.ym raw i).size<=maxLen:=λi=>by
  have:=Kp.ZF (P:=λb=>b.size<=8) Kp.K6 (by decide) (Kp.zy (raw.getD (i % raw.length) 0) 14)
  unfold Kp.ym maxLen;omega
 unfold Kp.xe
 split
 ·exact⟨by unfold maxLen;decide,by unfold maxLen;decide,by unfold maxLen;decide,zU _,λm a=>by simp at a⟩
 ·refine⟨c 0,c 1,c 2,?_,λm a=>?_⟩
  ·simp only[qL]
   split<;>split<;>simp
  ·simp only[ZT] at a
   rcases a with a|a
   ·split at a
    ·rw[xP] at a;subst a;exact⟨(by unfold maxLen;decide:(⟨#[116,97,103]⟩:BA).size<=maxLen),c 3⟩
    ·simp at a
   ·split at a
    ·rw[xP] at a;subst a;exact⟨(by unfold maxLen;decide:(⟨#[97,103,101]⟩:BA).size<=maxLen),c 4⟩
    ·simp at a
end Go.Proofs.YtagnlbgbnfnapaaGreatDoor
namespace Go.Proofs.YtagnlbgbnfnapaaGreatDoor
open laws Go.ChangeShapes Go.WideShapes Go.ChangeAt Go.RowKit Go.Joins Go.Deep
instance:Inhabited Kp.qp:=⟨⟨0,0,[]⟩⟩
section
variable {H:Type} {enc:TypeId×Value->H} {w:World} {spare:Nat->Bool} {held:Bool}
theorem PT{fuel:Nat}{cs:List Value}{x:DataW H×List MemPlace}(h:DataW.trod enc prog w 0 spare held fuel 53 cs=some x)(v:∀b,spare b=true) :
  ∃(p:Kp.qp) (o:Value),cs=[.int .i64 p.layer,.int .i64 p.name,o]/\I64 p.layer/\I64 p.name/\p.rules.length<=maxLen/\uY w o p.rules:=by
 obtain⟨xs,n,_,rfl,_,_,_⟩:=DataW.trod_struct underlying53 h;have c3:prog.cellsOf 3=1:=by kernel_rfl
 have i:prog.cellsOf 27=1:=by kernel_rfl
 obtain⟨u,c⟩:=KU underlying53 (λj f a=>by
  match j,a with
  | 0,a=>simp at a;subst a;exact⟨rfl,c3⟩
  | 1,a=>simp at a;subst a;exact⟨rfl,c3⟩
  | 2,a=>simp at a;subst a;exact⟨rfl,i⟩
  | j+3,a=>simp at a) (by kernel_rfl) h
 obtain⟨N,D,K,G,d,_,r⟩:=c 0 _ rfl;obtain⟨v1,E,L,I,e,_,s⟩:=c 1 _ rfl;obtain⟨v2,F,M,J,g,_,t⟩:=c 2 _ rfl;have k:cs.length=3:=u
 match cs,k with
 | [u0,u1,u2],_=>
  simp only[kS,Xx,Option.some.injEq] at d e g;subst d e g;obtain⟨z,l,_,q⟩:=YN underlying3 r;obtain⟨A,m,_,f1⟩:=YN underlying3 s;obtain⟨B,C,y⟩:=Bf t v;simp only[List.cons.injEq,Qs] at l m;subst l m;exact⟨⟨z,A,B⟩,u2,rfl,wf_i64 q,wf_i64 f1,C,y⟩
theorem gK{fuel:Nat}{v:Value}{x:DataW H×List MemPlace}(h:DataW.trod enc prog w 0 spare held fuel 26 [v]=some x)(u:∀b,spare b=true):∃l:List Kp.qp,l.length<=maxLen/\XA w v l:=by
 have E:prog.cellsOf 53=3:=by kernel_rfl
 rcases open_slice underlying26 h with ⟨e,_⟩|⟨a,len,cap,m,n,D,Pl,e,_,hl,hmx,hmm,_,hcell⟩
 ·simp only[List.cons.injEq,Qs] at e;subst e;exact⟨[],by simp,none,0,rfl,λk r d=>by simp at d⟩
 ·simp only[List.cons.injEq,Qs] at e;subst e;rw[u,zb rfl] at hmm;rw[E] at hcell
  have each:∀i,i<len->∃p:Kp.qp,I64 p.layer/\I64 p.name/\p.rules.length<=maxLen /\
   ∃c o f,some a=some ⟨c,o,none⟩/\w.cell? ⟨c,o+i*3,none⟩=some (.int .i64 p.layer)/\w.cell? ⟨c,o+i*3+1,none⟩=some (.int .i64 p.name)/\w.cell? ⟨c,o+i*3+2,none⟩=some f/\uY w f p.rules:=by
   intro i hi
   have s:∃b o,a=⟨b,o,none⟩:=by
    obtain⟨z,A,L⟩:=hcell 0 (by omega);obtain⟨_,I,g⟩:=World.cells?_some A
    have:=g 0 (by omega)
    rw[add_add,Nat.zero_mul,ut,zt (by omega)] at this;exact plain_of_cell this
   obtain⟨c,o,rfl⟩:=s;obtain⟨y,B,C⟩:=hcell i (by omega);obtain⟨p,f,rfl,f1,f2,K,J⟩:=PT C u;obtain⟨_,_,q⟩:=World.cells?_some B
   have cell:∀j,j<3->w.cell? ⟨c,o+i*3+j,none⟩=[Value.int .i64 p.layer,.int .i64 p.name,f][j]?:=by
    intro j G
    have:=q j G
    rw[add_add,addr_add,<- aD] at this;exact this
   exact⟨p,f1,f2,K,c,o,f,rfl,cell 0 (by omega),cell 1 (by omega),cell 2 (by omega),J⟩
  obtain⟨F,hF⟩:=choose_lt each;refine⟨(List.range len).map F,by rw[qg,jM];omega,some a,cap,by rw[qg,jM],λk r d=>?_⟩
  have t:k<len:=by
   have:=(xw.1 d).1
   rw[qg,jM] at this;exact this
  rw[vv,VA t] at d;simp only[Q3,Option.some.injEq] at d;subst d;exact hF k t
theorem Ef{fuel:Nat}{v:Value}{x:DataW H×List MemPlace}(h:DataW.trod enc prog w 0 spare held fuel 56 [v]=some x)(u:∀b,spare b=true):∃l:List (List Int),l.length<=maxLen/\lH w v l:=by
 have C:prog.cellsOf 24=1:=by kernel_rfl
 rcases open_slice underlying56 h with ⟨e,_⟩|⟨a,len,cap,m,n,D,Pl,e,_,hl,hmx,hmm,_,hcell⟩
 ·simp only[List.cons.injEq,Qs] at e;subst e;exact⟨[],by simp,none,0,rfl,λk r c=>by simp at c⟩
 ·simp only[List.cons.injEq,Qs] at e;subst e;rw[u,zb rfl] at hmm;rw[C] at hcell
  have each:∀i,i<len->∃r:List Int,∃d o f,some a=some ⟨d,o,none⟩/\w.cell? ⟨d,o+i,none⟩=some f/\IntsIn w f r:=by
   intro i hi
   have s:∃b o,a=⟨b,o,none⟩:=by
    obtain⟨y,z,G⟩:=hcell 0 (by omega);obtain⟨_,E,j⟩:=World.cells?_some z
    have:=j 0 (by omega)
    rw[add_add,Nat.zero_mul,ut,zt (by omega)] at this;exact plain_of_cell this
   obtain⟨d,o,rfl⟩:=s;obtain⟨g,A,B⟩:=hcell i (by omega);obtain⟨_,q,p⟩:=World.cells?_some A
   match g,q with
   | [f],_=>
    obtain⟨r,_,c⟩:=VW B u
    have:=p 0 (by omega)
    rw[add_add,addr_add,Nat.mul_one,ut] at this;exact⟨r,d,o,f,rfl,this,c⟩
  obtain⟨F,hF⟩:=choose_lt each;refine⟨(List.range len).map F,by rw[qg,jM];omega,some a,cap,by rw[qg,jM],λk r c=>?_⟩
  have t:k<len:=by
   have:=(xw.1 c).1
   rw[qg,jM] at this;exact this
  rw[vv,VA t] at c;simp only[Q3,Option.some.injEq] at c;subst c;exact hF k t
end
end Go.Proofs.YtagnlbgbnfnapaaGreatDoor
namespace Go.Proofs.YtagnlbgbnfnapaaGreatDoor
open laws Go.ChangeShapes Go.WideShapes Go.ChangeAt Go.RowKit Go.Joins Go.Deep
section
variable {H:Type} {enc:TypeId×Value->H} {w:World} {spare:Nat->Bool} {held:Bool}
end
theorem zaG{H:Type}{enc:TypeId×Value->H}{P:Program}{w:World}{base:Nat}{spare:Nat->Bool}{held:Bool}{t I l J K:TypeId}{args:Array Value}{E:List (DataW H)}{G:List MemPlace}(h:DataW.TrodAll enc P w base spare held [t,I,l,J,K] args.toList E G) :
  ∃v x i v3 y d m b n o p r g s u,args=#[v,x,i,v3,y]/\E=[d,m,b,n,o]/\G=p++r++g++s++u/\DataW.Trod enc P w base spare held t v d p/\DataW.Trod enc P w base spare held I x m r/\DataW.Trod enc P w base spare held l i b g/\DataW.Trod enc P w base spare held J v3 n s/\DataW.Trod enc P w base spare held K y o u:=by
 obtain⟨v,X,d,M,p,q,A,rfl,rfl,hd,j⟩:=trodAll_cons h;obtain⟨x,R,m,F,r,U,rfl,rfl,rfl,B,c⟩:=trodAll_cons j;obtain⟨i,L,b,z,g,Q,rfl,rfl,rfl,k,a⟩:=trodAll_cons c;obtain⟨v3,S,n,N,s,V,rfl,rfl,rfl,C,e⟩:=trodAll_cons a;obtain⟨y,T,o,O,u,W,rfl,rfl,rfl,D,f⟩:=trodAll_cons e;obtain⟨rfl,rfl,rfl⟩:=trodAll_nil f;exact⟨v,x,i,v3,y,d,m,b,n,o,p,r,g,s,u,by cases args;simp_all,rfl,by simp,hd,B,k,C,D⟩
end Go.Proofs.YtagnlbgbnfnapaaGreatDoor
namespace Go.Proofs.YtagnlbgbnfnapaaGreatDoor
open laws Go.ChangeShapes Go.WideShapes Go.ChangeAt Go.RowKit Go.Joins Go.Deep
section
variable {H:Type} {enc:TypeId×Value->H} {w:World} {spare:Nat->Bool} {held:Bool}
end
end Go.Proofs.YtagnlbgbnfnapaaGreatDoor
namespace Go.Proofs.YtagnlbgbnfnapaaGreatDoor
open Go.RowKit
namespace Kp
end Kp
namespace De
def VF(eff:BA)(r:Ref.Req)(L:List zu):Bool:=L.any λx=>x.2.any (yH eff r)
def Q5(a:Nat->List zu)(eff:BA)(r:Ref.Req)(is:List Nat):Bool:=is.any λi=>VF eff r (a i)
theorem cZ(eff:BA)(r:Ref.Req)(a:List zT):(uA eff r a).isSome=a.any (yH eff r):=by
 unfold uA;rw[List.findIdx?_isSome]
theorem dh(eff:BA)(r:Ref.Req):∀L:List zu,(yc eff r L).isSome=VF eff r L
 | []=>rfl
 | x::L=>by
  have a:=dh eff r L;have h:=cZ eff r x.2;unfold VF at a |-;rw[yc,X9,<- h,<- a]
  cases uA eff r x.2<;>simp
theorem dm(a:Nat->List zu)(eff:BA)(r:Ref.Req):∀is:List Nat,(qX a eff r is).isSome=Q5 a eff r is
 | []=>rfl
 | i::is=>by
  have b:=dm a eff r is;have h:=dh eff r (a i);unfold Q5 at b |-;rw[qX,X9,<- h,<- b]
  cases yc eff r (a i)<;>simp
def yA(a:Nat->List zu)(r:Ref.Req):Nat:=
 if Q5 a yo r [0,1,2,3] then 2 else if (jH a r 0&&jH a r 1)=false then 3 else if Q5 a xR r [2,3] then 1 else 3
theorem za0(a:Nat->List zu)(r:Ref.Req):(Za a r).verdict=yA a r:=by
 unfold Za yA;rw[<- dm,<- dm]
 cases h1:qX a yo r [0,1,2,3] with
 | some x=>simp
 | none=>
  simp only[kU,yB,yu]
  split
  ·rfl
  ·cases h2:qX a xR r [2,3] with
   | some x=>simp
   | none=>rfl
theorem mq{eff:BA}{r:Ref.Req}{L:List zu}:VF eff r L=true↔∃x ∈ L,∃s ∈ x.2,yH eff r s=true:=by
 unfold VF;simp only[uT]
theorem VG{a:Nat->List zu}{eff:BA}{r:Ref.Req}{is:List Nat}:Q5 a eff r is=true↔∃i ∈ is,∃x ∈ a i,∃s ∈ x.2,yH eff r s=true:=by
 unfold Q5;simp only[uT,mq]
theorem Ns{a:Nat->List zu}{r:Ref.Req}{i:Nat}:jH a r i=true↔a i=[]\/∃x ∈ a i,∃s ∈ x.2,yH xR r s=true:=by
 unfold jH;rw[Vt,dh,mq,au]
def ae(D:List zT):Prop:=∀s ∈ D,∀r,yH xR r s=false
structure More (st st':Nat->List zu) (n:Nat) (y:zu):Prop where
 lay:n<4
 mem:∀i,i<4->∀x,x ∈ st' i↔x ∈ st i\/(i=n/\x=y)
theorem More.deny{d a:Nat->List zu}{n:Nat}{y:zu}(h:More d a n y){r:Ref.Req}(c:∃s ∈ y.2,yH yo r s=true):yA a r=2:=by
 unfold yA;rw[zb];rw[VG];have b:=h.lay;exact⟨n,by simp;omega,y,(h.mem n b y).2 (.inr ⟨rfl,rfl⟩),c⟩
theorem More.allow{c a:Nat->List zu}{n:Nat}{y:zu}(h:More c a n y)(hd:ae y.2){r:Ref.Req}(d:yA a r=1):yA c r=1:=by
 unfold yA at d |-
 split at d
 ·cases d
 rename_i o
 split at d
 ·cases d
 rename_i p
 split at d
 rename_i j
 ·have k:¬Q5 c yo r [0,1,2,3]=true:=λe=>o (by
   rw[VG] at e |-;obtain⟨i,hi,x,b,g⟩:=e;exact⟨i,hi,x,(h.mem i (by simp at hi;omega) x).2 (.inl b),g⟩)
  have lets:∀i,i<4->jH a r i=true->jH c r i=true:=by
   intro i hi e;rw[Ns] at e |-
   rcases e with e|⟨x,b,s,g,f⟩
   ·left
    cases hst:c i with
    | nil=>rfl
    | cons z L=>
     have:z ∈ a i:=(h.mem i hi z).2 (.inl (by rw[hst];simp))
     rw[e] at this;simp at this
   ·rcases (h.mem i hi x).1 b with b|⟨_,rfl⟩
    ·exact .inr ⟨x,b,s,g,f⟩
    ·rw[hd s g r] at f;cases f
  have l:(jH c r 0&&jH c r 1)=true:=by
   have e:(jH a r 0&&jH a r 1)=true:=by simpa using p
   rw[uo] at e |-;exact⟨lets 0 (by decide) e.1,lets 1 (by decide) e.2⟩
  have m:Q5 c xR r [2,3]=true:=by
   rw[VG] at j |-;obtain⟨i,hi,x,b,s,g,f⟩:=j
   rcases (h.mem i (by simp at hi;omega) x).1 b with b|⟨_,rfl⟩
   ·exact⟨i,hi,x,b,s,g,f⟩
   ·rw[hd s g r] at f;cases f
  rw[za k,l,za (by simp),zb m]
 ·cases d
end De
end Go.Proofs.YtagnlbgbnfnapaaGreatDoor
