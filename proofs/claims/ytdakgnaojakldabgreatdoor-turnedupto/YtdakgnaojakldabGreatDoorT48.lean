/- P -/
import Derived.Test.YtdakgnaojakldabGreatDoorT47
open Go.Proofs.Tryz hiding parts
set_option maxRecDepth 100000
set_option maxHeartbeats 4000000
namespace Go.Proofs.YtdakgnaojakldabGreatDoor
open Go.RowKit
namespace Kp
def r0:Ref.Req:=⟨⟨#[97,110,110]⟩,⟨#[114,101,97,100]⟩,⟨#[98,111,120]⟩,[]⟩
def ZM:BA:=⟨#[97]⟩
def YA:StO:=y9 qW 2 ZM (xh [qI])
theorem iY:Ref.xO r0=true:=by kernel_rfl
theorem FD:De.yn qW r0=(De.silent,0):=by
 unfold De.yn;rw[if_pos iY]
 rfl
theorem eO:kS qW 2 ZM (xh [qI])=(0,0)/\YA=upd qW 2 [(ZM,[stK qI])]:=by
 have h:=Xb qW (i:=2) (k:=0) (by decide) (by decide) (xh [qI]) (Xa _);have e:qi 0=ZM:=rfl;rw[e] at h;refine⟨h.1.trans (by rfl),?_⟩;unfold YA;refine h.2.trans ?_;rw[if_pos (by rfl),Vn]
 rfl
theorem FC:De.yn YA r0=(⟨1,2,ZM,1⟩,0):=by
 unfold De.yn;rw[if_pos iY,eO.2];have hd:De.yH De.jE r0 (stK qI)=false:=by kernel_rfl
 have c:De.yH De.xE r0 (stK qI)=true:=by kernel_rfl
 have a:De.qA (upd qW 2 [(ZM,[stK qI])]) De.jE r0 [0,1,2,3]=none:=by
  simp[De.qA,De.xH,De.jU,upd,qW,hd]
 have b:De.qA (upd qW 2 [(ZM,[stK qI])]) De.xE r0 [2,3]=some (2,ZM,1):=by
  simp[De.qA,De.xH,De.jU,upd,c]
 unfold De.uB;rw[a,b];simp[De.uM,upd,qW]
end Kp
theorem MN:ZH Kp.qI:=by constructor<;>(unfold I64;decide)
theorem LQ:Pg.reqLen Kp.r0:=⟨by unfold maxLen;decide,by unfold maxLen;decide,by unfold maxLen;decide,Nat.zero_le _,λm a=>by simp[Kp.r0] at a⟩
theorem MO(W:World)(b:Nat)(h:W.heap[b]?=some (.cells #[.bool false,.slice none 0 0,.slice none 0 0,.slice none 0 0,.int .i64 0,.int .i64 0,.int .i64 0,.int .i64 0,.bool false,.int .i64 0] 32)):uY W (.slice (some ⟨b,0,none⟩) 1 1) [Kp.qI]:=by
 refine⟨some ⟨b,0,none⟩,1,rfl,λk r d=>?_⟩
 have f:k=0:=by
  have:=(List.getElem?_eq_some_iff.1 d).1
  simp at this;exact this
 subst f;have e:Kp.qI=r:=by simpa using d
 subst e;have c:=λk=>(za h k).1;have a:IntsIn W (.slice none 0 0) []:=⟨none,0,rfl,λk x g=>by simp at g⟩;refine⟨MN,Nat.zero_le _,Nat.zero_le _,Nat.zero_le _,b,0,.slice none 0 0,.slice none 0 0,.slice none 0 0,rfl,⟨c 0,c 1,c 2,c 3,c 4,c 5,c 6,c 7,c 8,c 9⟩,a,a,a⟩
theorem FE(aL:Addr)(w:World)(hC:Zz w aL)(hE:qR w) :
  Calls prog 9 #[] w λe q=>e = .returned (.bool true)/\Below w.heap.size w q:=by
 have cn:=gz (λb=>b=w.heap.size) w rfl;have H:=λ(st:StO) (W:World) (m:Below w.heap.size w W) (N:qL (λb=>b=w.heap.size) W w.heap.size st)=>U4 w.heap.size st Kp.r0 none 0 (λb=>b=w.heap.size) W N (.inl rfl) LQ (hE.below m);have cP:=λ(W:World) (rv:Value) (hr:uY W rv [Kp.qI])=>iy [Kp.qI] rv W hr (by unfold maxLen;simp);have I:=λ(W:World) (m:Below w.heap.size w W) (N:qL (λb=>b=w.heap.size) W w.heap.size qW) (hz:w.heap.size<W.heap.size)=>iQ w.heap.size qW 2 Kp.ZM (Kp.xh [Kp.qI]) (λb=>b=w.heap.size) aL W (hC.below m) N (λb m=>by rw[m];exact hz) (by unfold maxLen;decide);have J:=H qW;have K:=H Kp.YA;rw[Kp.FD] at J;rw[Kp.FC] at K;rw[Kp.eO.1] at I;have CN:=hid cn;have Y:Hid (∀(W:World),Below w.heap.size w W->qL (λb=>b=w.heap.size) W w.heap.size qW->Calls prog 7 #[.pointer (some ⟨w.heap.size,0,none⟩),.agg #[.string ⟨#[97,110,110]⟩,.string ⟨#[114,101,97,100]⟩,.string ⟨#[98,111,120]⟩,.slice none 0 0]] W λe q=>e = .returned (.tuple #[.agg #[.int .i64 3,.int .i64 0,.string ⟨#[]⟩,.int .i64 0],.int .i64 0])/\Below W.heap.size W q):=hid J;have D1:Hid (∀(W:World),Below w.heap.size w W->qL (λb=>b=w.heap.size) W w.heap.size Kp.YA->Calls prog 7 #[.pointer (some ⟨w.heap.size,0,none⟩),.agg #[.string ⟨#[97,110,110]⟩,.string ⟨#[114,101,97,100]⟩,.string ⟨#[98,111,120]⟩,.slice none 0 0]] W λe q=>e = .returned (.tuple #[.agg #[.int .i64 1,.int .i64 2,.string ⟨#[97]⟩,.int .i64 1],.int .i64 0])/\Below W.heap.size W q):=hid K;have V:=hid cP;have X:=hid I;clear cn H J K cP I;go_enter func9,ntmps9
 go_upto_region 5 with (go_at_call 10;refine CN.out.mono ?_;rintro e g ⟨rfl,b1,o1⟩;have A:=hid b1;have C:=hid o1;clear b1 o1)
 obtain⟨E,c⟩:∃W,g.alloc (.cells #[.string ⟨#[97,110,110]⟩,.string ⟨#[114,101,97,100]⟩,.string ⟨#[98,111,120]⟩,.slice none 0 0] 42)=W:=⟨_,rfl⟩;have F:Below g.heap.size g E:=by rw[<- c];exact nB g _
 have f:E.heap[g.heap.size]?=some (yK (.string ⟨#[97,110,110]⟩) (.string ⟨#[114,101,97,100]⟩) (.string ⟨#[98,111,120]⟩) (.slice none 0 0)):=by rw[<- c];exact heap_alloc_new g _
 have z1:w.heap.size<g.heap.size:=lt_of_block C.out.row.choose_spec.1;obtain⟨Q,o⟩:∃x,g.heap.size=x:=⟨_,rfl⟩;have i:=hid (A.out.trans (F.mono A.out.size));have D:=hid (C.out.below F);rw[o] at f z1 |-;rw[c];have t:=(za f 0).1;have u:=(za f 1).1;have v:=(za f 2).1;have y:=(za f 3).1;simp at t u v y;have Z:=hid f;have zr:=lt_of_block f;clear c F o f C A
 go_upto_region 6 with (go_at_call 7;refine (Y.out E i.out D.out).mono ?_;rintro e h ⟨rfl,b3⟩;have j:=hid b3;clear b3)
 obtain⟨r,d⟩:∃W,h.alloc (.cells #[.int .i64 3,.int .i64 0,.string ⟨#[]⟩,.int .i64 0] 36)=W:=⟨_,rfl⟩;have s:Below h.heap.size h r:=by rw[<- d];exact nB h _
 have z:r.heap[h.heap.size]?=some (.cells #[.int .i64 3,.int .i64 0,.string ⟨#[]⟩,.int .i64 0] 36):=by rw[<- d];exact heap_alloc_new h _
 have z3:=j.out.size;obtain⟨db,n⟩:∃x,h.heap.size=x:=⟨_,rfl⟩;have S:=hid ((i.out.trans (j.out.mono i.out.size)).trans (s.mono (Nat.le_trans i.out.size z3)));have O4:=hid ((D.out.below j.out).below s);have P:=(s.block Q (by omega)).trans ((j.out.block Q zr).trans Z.out);rw[n] at z z3 |-;rw[d];have L:=(za z 0).1;simp at L;have R4:=hid P;have zd:=lt_of_block z;have R:=lt_of_block P;clear d s n z P Y i j D Z t u v y
 go_upto_region 7 with (first
  | (go_at_call 12;refine (X.out w6 T.out O6.out z6).mono ?_;rintro e w7 ⟨rfl,t7,o7⟩;have T7:=hid t7;have O7:=hid o7;clear t7 o7)
  | (go_at_call 13;refine (V.out _ _ (MO _ _ (heap_alloc_new r _))).mono ?_;rintro e w6 ⟨rfl,b6⟩;have a:=(nB r _).trans (b6.mono (by simp));have l:=hid a;have T:=hid (S.out.trans (a.mono S.out.size));have O6:=hid (O4.out.below a);have z6:w.heap.size<w6.heap.size:=Nat.lt_of_lt_of_le (by omega) a.size;clear b6 a))
 have t47:=(zA.of (M:=λb=>b=w.heap.size) l.out).trans T7.out;have p:=(t47.block Q R (by omega)).trans R4.out;have t:=(za p 0).1;have u:=(za p 1).1;have v:=(za p 2).1;have y:=(za p 3).1;simp at t u v y;have e7:=t47.cell (x:=⟨db,0,none⟩) (by simp;omega) L;have B:=hid (T.out.trans (T7.out.below (λk hk e=>by omega) (by omega)));clear t47 p R4 L l V X
 go_upto_region 8 with (go_at_call 7;refine (D1.out w7 B.out O7.out).mono ?_;rintro e w8 ⟨rfl,G⟩;have e8:=zb G e7;have U:=hid (B.out.trans (G.mono B.out.size));clear G)
 have d9:=World.block_lt_of_cell? _ _ e8;have e9:=λO:Obj=>zb (nB w8 O) e8;go_wp2_with fail;go_ret;exact⟨rfl,U.out.alloc U.out.size _⟩
namespace Kp
end Kp
theorem Js{b a:StO}(h:∀i,i<4->b i=a i)(eff:BA)(r:Ref.Req):∀is:List Nat,(∀i ∈ is,i<4)->De.qA b eff r is=De.qA a eff r is
 | [],_=>rfl
 | i::is,hi=>by
  rw[De.qA,De.qA,h i (hi i (by simp)),Js h eff r is (λk c=>hi k (by simp[c]))]
def X5(w:World)(e:Value)(asks:List (List Int)):Prop:=∃a c,e = .slice a asks.length c/\∀(k:Nat) (raw:List Int),asks[k]?=some raw->∃b o d,a=some ⟨b,o,none⟩/\w.cell? ⟨b,o+k,none⟩=some d/\IntsIn w d raw
theorem X5.below{w f:World}{b:Value}{asks:List (List Int)}(h:X5 w b asks)(d:Below w.heap.size w f):X5 f b asks:=by
 obtain⟨a,c,rfl,h⟩:=h;refine⟨a,c,rfl,λk raw j=>?_⟩;obtain⟨g,o,l,e,c0,i⟩:=h k raw j;exact⟨g,o,l,e,zb d c0,i.below d⟩
def X9(w:World)(B:Nat)(d:Value)(L:List BA):Prop:=∃a c,d = .slice a L.length c/\∀(k:Nat) (x:BA),L[k]?=some x->∃b,a=some ⟨b,0,none⟩/\B<=b/\w.cell? ⟨b,k,none⟩=some (.string x)
theorem X9.own{w:World}{B:Nat}{f:Value}{L:List BA}(h:zO w B f L):X9 w B f L:=by
 obtain⟨a,c,rfl⟩:=yJ h;refine⟨a,c,rfl,λk x d=>?_⟩;have j:k<L.length:=(List.getElem?_eq_some_iff.1 d).1
 rcases h.2 with ⟨e,h0⟩|⟨gb,cap,cur,e,_⟩
 ·omega
 ·have b:w.ownsRow B 9 1 (.slice (some ⟨gb,0,none⟩) L.length cap) L.length (L.map Value.string):=by rw[<- e];exact h
  have g:=World.ownsRow.cellAt b k (by omega);have i:=(World.ownsRow.lt b gb (by rfl)).1;injection e with e1 e2 e3
  exact⟨gb,e1,i,by rw[g];simp[List.getElem?_map,d]⟩
theorem X9.turn{w i:World}{B:Nat}{g:Value}{L:List BA}{M:Nat->Prop}(h:X9 w B g L)(m:zA M w i)(j:∀b,B<=b->¬M b):X9 i B g L:=by
 obtain⟨a,c,rfl,h⟩:=h;refine⟨a,c,rfl,λk x n=>?_⟩;obtain⟨d,e,f,l⟩:=h k x n;exact⟨d,e,f,m.cell (x:=⟨d,k,none⟩) (j d f) l⟩
theorem pU(raw:List Int):Pg.reqLen (Kp.qM raw):=by
 have c:∀i,(Kp.xe raw i).size<=maxLen:=λi=>by
  have:=Kp.vZ (P:=λb=>b.size<=8) Kp.Vr (by decide) (Kp.zk (raw.getD (i % raw.length) 0) 14)
  unfold Kp.xe maxLen;omega
 unfold Kp.qM
 split
 ·exact⟨by unfold maxLen;decide,by unfold maxLen;decide,by unfold maxLen;decide,Nat.zero_le _,λm a=>by simp at a⟩
 ·refine⟨c 0,c 1,c 2,?_,λm a=>?_⟩
  ·simp only[List.length_append]
   split<;>split<;>simp
  ·simp only[List.mem_append] at a
   rcases a with a|a
   ·split at a
    ·rw[List.mem_singleton] at a;subst a;exact⟨(by unfold maxLen;decide:(⟨#[116,97,103]⟩:BA).size<=maxLen),c 3⟩
    ·simp at a
   ·split at a
    ·rw[List.mem_singleton] at a;subst a;exact⟨(by unfold maxLen;decide:(⟨#[97,103,101]⟩:BA).size<=maxLen),c 4⟩
    ·simp at a
end Go.Proofs.YtdakgnaojakldabGreatDoor
namespace Go.Proofs.YtdakgnaojakldabGreatDoor
open laws Go.ChangeShapes Go.WideShapes Go.ChangeAt Go.RowKit Go.Joins Go.Deep
instance:Inhabited Kp.zY:=⟨⟨0,0,[]⟩⟩
section
variable {H:Type} {enc:TypeId×Value->H} {w:World} {spare:Nat->Bool} {held:Bool}
theorem IP{fuel:Nat}{cs:List Value}{x:DataW H×List MemPlace}(h:DataW.trod enc prog w 0 spare held fuel 29 cs=some x)(v:∀b,spare b=true) :
  ∃(p:Kp.zY) (o:Value),cs=[.int .i64 p.layer,.int .i64 p.name,o]/\I64 p.layer/\I64 p.name/\p.rules.length<=maxLen/\uY w o p.rules:=by
 obtain⟨xs,n,_,rfl,_,_,_⟩:=DataW.trod_struct underlying29 h;have c3:prog.cellsOf 3=1:=by kernel_rfl
 have i:prog.cellsOf 27=1:=by kernel_rfl
 obtain⟨u,c⟩:=Vj underlying29 (λj f a=>by
  match j,a with
  | 0,a=>simp at a;subst a;exact⟨rfl,c3⟩
  | 1,a=>simp at a;subst a;exact⟨rfl,c3⟩
  | 2,a=>simp at a;subst a;exact⟨rfl,i⟩
  | j+3,a=>simp at a) (by kernel_rfl) h
 obtain⟨N,D,K,G,d,_,r⟩:=c 0 _ rfl;obtain⟨O,E,L,I,e,_,s⟩:=c 1 _ rfl;obtain⟨P,F,M,J,g,_,t⟩:=c 2 _ rfl;have k:cs.length=3:=u
 match cs,k with
 | [u0,u1,u2],_=>
  simp only[List.getElem?_cons_zero,List.getElem?_cons_succ,Option.some.injEq] at d e g;subst d e g;obtain⟨z,l,_,q⟩:=DataW.trod_int underlying3 r;obtain⟨A,m,_,f1⟩:=DataW.trod_int underlying3 s;obtain⟨B,C,y⟩:=MR t v;simp only[List.cons.injEq,and_true] at l m;subst l m;exact⟨⟨z,A,B⟩,u2,rfl,wf_i64 q,wf_i64 f1,C,y⟩
theorem IR{fuel:Nat}{v:Value}{x:DataW H×List MemPlace}(h:DataW.trod enc prog w 0 spare held fuel 22 [v]=some x)(u:∀b,spare b=true):∃l:List Kp.zY,l.length<=maxLen/\QK w v l:=by
 have E:prog.cellsOf 29=3:=by kernel_rfl
 rcases open_slice underlying22 h with ⟨e,_⟩|⟨a,len,cap,m,n,D,Pl,e,_,hl,hmx,hmm,_,hcell⟩
 ·simp only[List.cons.injEq,and_true] at e;subst e;exact⟨[],by simp,none,0,rfl,λk r d=>by simp at d⟩
 ·simp only[List.cons.injEq,and_true] at e;subst e;rw[u,if_pos rfl] at hmm;rw[E] at hcell
  have each:∀i,i<len->∃p:Kp.zY,I64 p.layer/\I64 p.name/\p.rules.length<=maxLen /\
   ∃c o f,some a=some ⟨c,o,none⟩/\w.cell? ⟨c,o+i*3,none⟩=some (.int .i64 p.layer)/\w.cell? ⟨c,o+i*3+1,none⟩=some (.int .i64 p.name)/\w.cell? ⟨c,o+i*3+2,none⟩=some f/\uY w f p.rules:=by
   intro i L
   have s:∃b o,a=⟨b,o,none⟩:=by
    obtain⟨z,A,M⟩:=hcell 0 (by omega);obtain⟨_,I,g⟩:=World.cells?_some A
    have:=g 0 (by omega)
    rw[add_add,Nat.zero_mul,Nat.add_zero,List.getElem?_eq_getElem (by omega)] at this;exact plain_of_cell this
   obtain⟨c,o,rfl⟩:=s;obtain⟨y,B,C⟩:=hcell i (by omega);obtain⟨p,f,rfl,f1,f2,K,J⟩:=IP C u;obtain⟨_,_,q⟩:=World.cells?_some B
   have cell:∀j,j<3->w.cell? ⟨c,o+i*3+j,none⟩=[Value.int .i64 p.layer,.int .i64 p.name,f][j]?:=by
    intro j G
    have:=q j G
    rw[add_add,addr_add,<- Nat.add_assoc] at this;exact this
   exact⟨p,f1,f2,K,c,o,f,rfl,cell 0 (by omega),cell 1 (by omega),cell 2 (by omega),J⟩
  obtain⟨F,hF⟩:=choose_lt each;refine⟨(List.range len).map F,by rw[List.length_map,List.length_range];omega,some a,cap,by rw[List.length_map,List.length_range],λk r d=>?_⟩
  have t:k<len:=by
   have:=(List.getElem?_eq_some_iff.1 d).1
   rw[List.length_map,List.length_range] at this;exact this
  rw[List.getElem?_map,List.getElem?_range t] at d;simp only[Option.map_some,Option.some.injEq] at d;subst d;exact hF k t
theorem pW{fuel:Nat}{v:Value}{x:DataW H×List MemPlace}(h:DataW.trod enc prog w 0 spare held fuel 23 [v]=some x)(u:∀b,spare b=true):∃l:List (List Int),l.length<=maxLen/\X5 w v l:=by
 have C:prog.cellsOf 30=1:=by kernel_rfl
 rcases open_slice underlying23 h with ⟨e,_⟩|⟨a,len,cap,m,n,D,Pl,e,_,hl,hmx,hmm,_,hcell⟩
 ·simp only[List.cons.injEq,and_true] at e;subst e;exact⟨[],by simp,none,0,rfl,λk r c=>by simp at c⟩
 ·simp only[List.cons.injEq,and_true] at e;subst e;rw[u,if_pos rfl] at hmm;rw[C] at hcell
  have each:∀i,i<len->∃r:List Int,∃d o f,some a=some ⟨d,o,none⟩/\w.cell? ⟨d,o+i,none⟩=some f/\IntsIn w f r:=by
   intro i G
   have s:∃b o,a=⟨b,o,none⟩:=by
    obtain⟨y,z,I⟩:=hcell 0 (by omega);obtain⟨_,E,j⟩:=World.cells?_some z
    have:=j 0 (by omega)
    rw[add_add,Nat.zero_mul,Nat.add_zero,List.getElem?_eq_getElem (by omega)] at this;exact plain_of_cell this
   obtain⟨d,o,rfl⟩:=s;obtain⟨g,A,B⟩:=hcell i (by omega);obtain⟨_,q,p⟩:=World.cells?_some A
   match g,q with
   | [f],_=>
    obtain⟨r,_,c⟩:=Jz B u
    have:=p 0 (by omega)
    rw[add_add,addr_add,Nat.mul_one,Nat.add_zero] at this;exact⟨r,d,o,f,rfl,this,c⟩
  obtain⟨F,hF⟩:=choose_lt each;refine⟨(List.range len).map F,by rw[List.length_map,List.length_range];omega,some a,cap,by rw[List.length_map,List.length_range],λk r c=>?_⟩
  have t:k<len:=by
   have:=(List.getElem?_eq_some_iff.1 c).1
   rw[List.length_map,List.length_range] at this;exact this
  rw[List.getElem?_map,List.getElem?_range t] at c;simp only[Option.map_some,Option.some.injEq] at c;subst c;exact hF k t
end
end Go.Proofs.YtdakgnaojakldabGreatDoor
namespace Go.Proofs.YtdakgnaojakldabGreatDoor
open laws Go.ChangeShapes Go.WideShapes Go.ChangeAt Go.RowKit Go.Joins Go.Deep
theorem CZ{H:Type}(d:DataW H):1<=Rows.uptoBulk d:=by
 cases d with
 | lit l=>cases l<;>simp[Rows.uptoBulk]
 | nil=>simp[Rows.uptoBulk]
 | ptr d=>simp[Rows.uptoBulk]
 | slice elems spare=>simp[Rows.uptoBulk]
 | agg parts=>simp[Rows.uptoBulk]
 | iface t d=>simp[Rows.uptoBulk]
 | map entries=>simp[Rows.uptoBulk]
 | held h=>simp[Rows.uptoBulk]
theorem CY{H:Type}(l:List (DataW H)):l.length<=Rows.uptoBulkAll l:=by
 induction l with
 | nil=>simp[Rows.uptoBulkAll]
 | cons x r a=>have:=CZ x;simp only[Rows.uptoBulkAll,List.length_cons];omega
section
variable {H:Type} {enc:TypeId×Value->H} {w:World} {spare:Nat->Bool} {held:Bool}
end
end Go.Proofs.YtdakgnaojakldabGreatDoor
namespace Go.Proofs.YtdakgnaojakldabGreatDoor
open laws Go.ChangeShapes Go.WideShapes Go.ChangeAt Go.RowKit Go.Joins Go.Deep
section
variable {H:Type} {enc:TypeId×Value->H} {w:World} {spare:Nat->Bool} {held:Bool}
theorem IQ{fuel:Nat}{a:Option Addr}{len cap:Nat}{x:DataW H×List MemPlace}(h:DataW.trod enc prog w 0 spare held fuel 22 [.slice a len cap]=some x):len<=Rows.uptoBulk x.1:=by
 rcases open_slice underlying22 h with ⟨e,_⟩|⟨a',len',cap',m,n,D,Pl,e,_,hl,hmx,hmm,rfl,hcell⟩
 ·simp only[List.cons.injEq,and_true] at e;injection e with e1 e2
  omega
 ·simp only[List.cons.injEq,and_true] at e;injection e with e1 e2 e3
  subst e2;have b:=CY ((List.range len).map D);rw[List.length_map,List.length_range] at b;simp only[Rows.uptoBulk];omega
end
theorem trodAll_four{H:Type}{enc:TypeId×Value->H}{P:Program}{w:World}{base:Nat}{spare:Nat->Bool}{held:Bool}{t C k D:TypeId}{args:Array Value}{z:List (DataW H)}{B:List MemPlace}(h:DataW.TrodAll enc P w base spare held [t,C,k,D] args.toList z B) :
  ∃v r g s d l b m p n f o,args=#[v,r,g,s]/\z=[d,l,b,m]/\B=p++n++f++o/\DataW.Trod enc P w base spare held t v d p/\DataW.Trod enc P w base spare held C r l n/\DataW.Trod enc P w base spare held k g b f/\DataW.Trod enc P w base spare held D s m o:=by
 obtain⟨v,O,d,F,p,q,u,rfl,rfl,hd,i⟩:=trodAll_cons h;obtain⟨r,J,l,A,n,M,rfl,rfl,rfl,x,c⟩:=trodAll_cons i;obtain⟨g,E,b,L,f,I,rfl,rfl,rfl,j,a⟩:=trodAll_cons c;obtain⟨s,K,m,G,o,N,rfl,rfl,rfl,y,e⟩:=trodAll_cons a;obtain⟨rfl,rfl,rfl⟩:=trodAll_nil e;exact⟨v,r,g,s,d,l,b,m,p,n,f,o,by cases args;simp_all,rfl,by simp,hd,x,j,y⟩
end Go.Proofs.YtdakgnaojakldabGreatDoor
namespace Go.Proofs.YtdakgnaojakldabGreatDoor
open Go.RowKit
namespace Kp
end Kp
namespace De
def VC(eff:BA)(r:Ref.Req)(L:List zl):Bool:=L.any λx=>x.2.any (yH eff r)
def Yf(a:Nat->List zl)(eff:BA)(r:Ref.Req)(is:List Nat):Bool:=is.any λi=>VC eff r (a i)
theorem dC(eff:BA)(r:Ref.Req)(a:List zD):(jU eff r a).isSome=a.any (yH eff r):=by
 unfold jU;rw[List.findIdx?_isSome]
def nD(a:Nat->List zl)(r:Ref.Req):Nat:=
 if Yf a jE r [0,1,2,3] then 2 else if (uM a r 0&&uM a r 1)=false then 3 else if Yf a xE r [2,3] then 1 else 3
theorem oU{eff:BA}{r:Ref.Req}{L:List zl}:VC eff r L=true↔∃x ∈ L,∃s ∈ x.2,yH eff r s=true:=by
 unfold VC;simp only[List.any_eq_true]
theorem oW{a:Nat->List zl}{eff:BA}{r:Ref.Req}{is:List Nat}:Yf a eff r is=true↔∃i ∈ is,∃x ∈ a i,∃s ∈ x.2,yH eff r s=true:=by
 unfold Yf;simp only[List.any_eq_true,oU]
structure More (st st':Nat->List zl) (n:Nat) (y:zl):Prop where
 lay:n<4
 mem:∀i,i<4->∀x,x ∈ st' i↔x ∈ st i\/(i=n/\x=y)
theorem More.deny{d a:Nat->List zl}{n:Nat}{y:zl}(h:More d a n y){r:Ref.Req}(c:∃s ∈ y.2,yH jE r s=true):nD a r=2:=by
 unfold nD;rw[if_pos];rw[oW];have b:=h.lay;exact⟨n,by simp;omega,y,(h.mem n b y).2 (.inr ⟨rfl,rfl⟩),c⟩
end De
end Go.Proofs.YtdakgnaojakldabGreatDoor
