/- P -/
import Derived.Test.YtdakgnaojakldaaGreatDoorG43
import Derived.Test.YtdakgnaojakldaaGreatDoorG50
open Go.Proofs.Tryz hiding parts
set_option maxRecDepth 100000
set_option maxHeartbeats 4000000
namespace Go.Proofs.YtdakgnaojakldaaGreatDoor
open Go.RowKit
namespace Kp
def r0:Ref.Req:=⟨⟨#[97,110,110]⟩,⟨#[114,101,97,100]⟩,⟨#[98,111,120]⟩,[]⟩
def Z7:BA:=⟨#[97]⟩
def Je:StO:=yS xe 2 Z7 (qp [xu])
theorem ow:Ref.xY r0=true:=by kernel_rfl
theorem Iw:De.yh xe r0=(De.silent,0):=by
 unfold De.yh;rw[if_pos ow]
 rfl
theorem iN:vC xe 2 Z7 (qp [xu])=(0,0)/\Je=upd xe 2 [(Z7,[stK xu])]:=by
 have h:=Qt xe (i:=2) (k:=0) (by decide) (by decide) (qp [xu]) (QR _);have e:zF 0=Z7:=rfl;rw[e] at h;refine⟨h.1.trans (by rfl),?_⟩;unfold Je;refine h.2.trans ?_;rw[if_pos (by rfl),rW]
 rfl
theorem Iu:De.yh Je r0=(⟨1,2,Z7,1⟩,0):=by
 unfold De.yh;rw[if_pos ow,iN.2];have hd:De.Qm De.Zy r0 (stK xu)=false:=by kernel_rfl
 have c:De.Qm De.jX r0 (stK xu)=true:=by kernel_rfl
 have a:De.yY (upd xe 2 [(Z7,[stK xu])]) De.Zy r0 [0,1,2,3]=none:=by
  simp[De.yY,De.vV,De.QJ,upd,xe,hd]
 have b:De.yY (upd xe 2 [(Z7,[stK xu])]) De.jX r0 [2,3]=some (2,Z7,1):=by
  simp[De.yY,De.vV,De.QJ,upd,c]
 unfold De.Y4;rw[a,b];simp[De.Xt,upd,xe]
end Kp
theorem Pj:XT Kp.xu:=by constructor<;>(unfold I64;decide)
theorem Oq:Pg.reqLen Kp.r0:=⟨by unfold maxLen;decide,by unfold maxLen;decide,by unfold maxLen;decide,Nat.zero_le _,λm a=>by simp[Kp.r0] at a⟩
theorem Pk(W:World)(b:Nat)(h:W.heap[b]?=some (.cells #[.bool false,.slice none 0 0,.slice none 0 0,.slice none 0 0,.int .i64 0,.int .i64 0,.int .i64 0,.int .i64 0,.bool false,.int .i64 0] 66)):kH W (.slice (some ⟨b,0,none⟩) 1 1) [Kp.xu]:=by
 refine⟨some ⟨b,0,none⟩,1,rfl,λk r d=>?_⟩
 have f:k=0:=by
  have:=(List.getElem?_eq_some_iff.1 d).1
  simp at this;exact this
 subst f;have e:Kp.xu=r:=by simpa using d
 subst e;have c:=λk=>(za h k).1;have a:IntsIn W (.slice none 0 0) []:=⟨none,0,rfl,λk x g=>by simp at g⟩;refine⟨Pj,Nat.zero_le _,Nat.zero_le _,Nat.zero_le _,b,0,.slice none 0 0,.slice none 0 0,.slice none 0 0,rfl,⟨c 0,c 1,c 2,c 3,c 4,c 5,c 6,c 7,c 8,c 9⟩,a,a,a⟩
theorem Iy(aL:Addr)(w:World)(hC:ZU w aL)(hE:qW w) :
  Calls prog 27 #[] w λe p=>e = .returned (.bool true)/\Below w.heap.size w p:=by
 have cn:=mr (λb=>b=w.heap.size) w rfl;have G:=λ(st:StO) (W:World) (hb:Below w.heap.size w W) (L:ql (λb=>b=w.heap.size) W w.heap.size st)=>Jy w.heap.size st Kp.r0 none 0 (λb=>b=w.heap.size) W L (.inl rfl) Oq (hE.below hb);have cP:=λ(W:World) (rv:Value) (hr:kH W rv [Kp.xu])=>K7 [Kp.xu] rv W hr (by unfold maxLen;simp);have H:=λ(W:World) (hb:Below w.heap.size w W) (L:ql (λb=>b=w.heap.size) W w.heap.size xe) (hz:w.heap.size<W.heap.size)=>au w.heap.size xe 2 Kp.Z7 (Kp.qp [Kp.xu]) (λb=>b=w.heap.size) aL W (hC.below hb) L (λb hb=>by rw[hb];exact hz) (by unfold maxLen;decide);have I:=G xe;have J:=G Kp.Je;rw[Kp.Iw] at I;rw[Kp.Iu] at J;rw[Kp.iN.1] at H;have CN:=hid cn;have X:Hid (∀(W:World),Below w.heap.size w W->ql (λb=>b=w.heap.size) W w.heap.size xe->Calls prog 25 #[.pointer (some ⟨w.heap.size,0,none⟩),.agg #[.string ⟨#[97,110,110]⟩,.string ⟨#[114,101,97,100]⟩,.string ⟨#[98,111,120]⟩,.slice none 0 0]] W λe p=>e = .returned (.tuple #[.agg #[.int .i64 3,.int .i64 0,.string ⟨#[]⟩,.int .i64 0],.int .i64 0])/\Below W.heap.size W p):=hid I;have D1:Hid (∀(W:World),Below w.heap.size w W->ql (λb=>b=w.heap.size) W w.heap.size Kp.Je->Calls prog 25 #[.pointer (some ⟨w.heap.size,0,none⟩),.agg #[.string ⟨#[97,110,110]⟩,.string ⟨#[114,101,97,100]⟩,.string ⟨#[98,111,120]⟩,.slice none 0 0]] W λe p=>e = .returned (.tuple #[.agg #[.int .i64 1,.int .i64 2,.string ⟨#[97]⟩,.int .i64 1],.int .i64 0])/\Below W.heap.size W p):=hid J;have U:=hid cP;have V:=hid H;clear cn G I J cP H;go_enter func27,ntmps27
 go_upto_region 5 with (go_at_call 21;refine CN.out.mono ?_;rintro e g ⟨rfl,b1,o1⟩;have z:=hid b1;have B:=hid o1;clear b1 o1)
 obtain⟨D,c⟩:∃W,g.alloc (.cells #[.string ⟨#[97,110,110]⟩,.string ⟨#[114,101,97,100]⟩,.string ⟨#[98,111,120]⟩,.slice none 0 0] 53)=W:=⟨_,rfl⟩;have E:Below g.heap.size g D:=by rw[<- c];exact nB g _
 have f:D.heap[g.heap.size]?=some (y9 (.string ⟨#[97,110,110]⟩) (.string ⟨#[114,101,97,100]⟩) (.string ⟨#[98,111,120]⟩) (.slice none 0 0)):=by rw[<- c];exact heap_alloc_new g _
 have z1:w.heap.size<g.heap.size:=lt_of_block B.out.row.choose_spec.1;obtain⟨P,n⟩:∃x,g.heap.size=x:=⟨_,rfl⟩;have i:=hid (z.out.trans (E.mono z.out.size));have C:=hid (B.out.below E);rw[n] at f z1 |-;rw[c];have s:=(za f 0).1;have t:=(za f 1).1;have u:=(za f 2).1;have v:=(za f 3).1;simp at s t u v;have Y:=hid f;have zr:=lt_of_block f;clear c E n f B z
 go_upto_region 6 with (go_at_call 25;refine (X.out D i.out C.out).mono ?_;rintro e h ⟨rfl,b3⟩;have j:=hid b3;clear b3)
 obtain⟨q,d⟩:∃W,h.alloc (.cells #[.int .i64 3,.int .i64 0,.string ⟨#[]⟩,.int .i64 0] 48)=W:=⟨_,rfl⟩;have r:Below h.heap.size h q:=by rw[<- d];exact nB h _
 have y:q.heap[h.heap.size]?=some (.cells #[.int .i64 3,.int .i64 0,.string ⟨#[]⟩,.int .i64 0] 48):=by rw[<- d];exact heap_alloc_new h _
 have z3:=j.out.size;obtain⟨db,m⟩:∃x,h.heap.size=x:=⟨_,rfl⟩;have R:=hid ((i.out.trans (j.out.mono i.out.size)).trans (r.mono (Nat.le_trans i.out.size z3)));have O4:=hid ((C.out.below j.out).below r);have N:=(r.block P (by omega)).trans ((j.out.block P zr).trans Y.out);rw[m] at y z3 |-;rw[d];have K:=(za y 0).1;simp at K;have Z:=hid N;have zd:=lt_of_block y;have Q:=lt_of_block N;clear d r m y N X i j C Y s t u v
 go_upto_region 7 with (first
  | (go_at_call 24;refine (V.out w6 S.out O6.out z6).mono ?_;rintro e w7 ⟨rfl,t7,o7⟩;have T7:=hid t7;have O7:=hid o7;clear t7 o7)
  | (go_at_call 18;refine (U.out _ _ (Pk _ _ (heap_alloc_new q _))).mono ?_;rintro e w6 ⟨rfl,b6⟩;have a:=(nB q _).trans (b6.mono (by simp));have l:=hid a;have S:=hid (R.out.trans (a.mono R.out.size));have O6:=hid (O4.out.below a);have z6:w.heap.size<w6.heap.size:=Nat.lt_of_lt_of_le (by omega) a.size;clear b6 a))
 have t47:=(zu.of (M:=λb=>b=w.heap.size) l.out).trans T7.out;have o:=(t47.block P Q (by omega)).trans Z.out;have s:=(za o 0).1;have t:=(za o 1).1;have u:=(za o 2).1;have v:=(za o 3).1;simp at s t u v;have e7:=t47.cell (x:=⟨db,0,none⟩) (by simp;omega) K;have A:=hid (S.out.trans (T7.out.below (λk hk e=>by omega) (by omega)));clear t47 o Z K l U V
 go_upto_region 8 with (go_at_call 25;refine (D1.out w7 A.out O7.out).mono ?_;rintro e w8 ⟨rfl,F⟩;have e8:=zb F e7;have T:=hid (A.out.trans (F.mono A.out.size));clear F)
 have d7:=World.block_lt_of_cell? _ _ e8;have e9:=λO:Obj=>zb (nB w8 O) e8;go_wp2_with fail;go_ret;exact⟨rfl,T.out.alloc T.out.size _⟩
namespace Kp
end Kp
def YI(w:World)(e:Value)(asks:List (List Int)):Prop:=∃a c,e = .slice a asks.length c/\∀(k:Nat) (raw:List Int),asks[k]?=some raw->∃b o d,a=some ⟨b,o,none⟩/\w.cell? ⟨b,o+k,none⟩=some d/\IntsIn w d raw
theorem YI.below{w d:World}{b:Value}{asks:List (List Int)}(h:YI w b asks)(hb:Below w.heap.size w d):YI d b asks:=by
 obtain⟨a,c,rfl,h⟩:=h;refine⟨a,c,rfl,λk raw g=>?_⟩;obtain⟨f,o,i,e,c0,hi⟩:=h k raw g;exact⟨f,o,i,e,zb hb c0,hi.below hb⟩
def YP(w:World)(B:Nat)(lv:Value)(L:List BA):Prop:=∃a c,lv = .slice a L.length c/\∀(k:Nat) (x:BA),L[k]?=some x->∃b,a=some ⟨b,0,none⟩/\B<=b/\w.cell? ⟨b,k,none⟩=some (.string x)
theorem YP.own{w:World}{B:Nat}{lv:Value}{L:List BA}(h:zx w B lv L):YP w B lv L:=by
 obtain⟨a,c,rfl⟩:=qJ h;refine⟨a,c,rfl,λk x d=>?_⟩;have i:k<L.length:=(List.getElem?_eq_some_iff.1 d).1
 rcases h.2 with ⟨e,h0⟩|⟨gb,cap,cur,e,_⟩
 ·omega
 ·have b:w.ownsRow B 9 1 (.slice (some ⟨gb,0,none⟩) L.length cap) L.length (L.map Value.string):=by rw[<- e];exact h
  have f:=World.ownsRow.cellAt b k (by omega);have g:=(World.ownsRow.lt b gb (by rfl)).1;injection e with e1 e2 e3
  exact⟨gb,e1,g,by rw[f];simp[List.getElem?_map,d]⟩
theorem YP.turn{w f:World}{B:Nat}{lv:Value}{L:List BA}{M:Nat->Prop}(h:YP w B lv L)(j:zu M w f)(g:∀b,B<=b->¬M b):YP f B lv L:=by
 obtain⟨a,c,rfl,h⟩:=h;refine⟨a,c,rfl,λk x l=>?_⟩;obtain⟨d,e,hb,i⟩:=h k x l;exact⟨d,e,hb,j.cell (x:=⟨d,k,none⟩) (g d hb) i⟩
theorem JW(raw:List Int):Pg.reqLen (Kp.qy raw):=by
 have c:∀i,(Kp.xx raw i).size<=maxLen:=λi=>by
  have:=Kp.uz (P:=λb=>b.size<=8) Kp.Ug (by decide) (Kp.zk (raw.getD (i % raw.length) 0) 14)
  unfold Kp.xx maxLen;omega
 unfold Kp.qy
 split
 ·exact⟨by unfold maxLen;decide,by unfold maxLen;decide,by unfold maxLen;decide,Nat.zero_le _,λm a=>by simp at a⟩
 ·refine⟨c 0,c 1,c 2,?_,λm a=>?_⟩
  ·simp only[List.length_append]
   split<;>split<;>simp
  ·simp only[List.mem_append] at a
   rcases a with a|a
   ·split at a
    ·rw[List.mem_singleton] at a;subst a;exact⟨(by unfold maxLen;decide:(⟨#[116,97,103]⟩:BA).size<=maxLen),c 3⟩
    ·simp at a
   ·split at a
    ·rw[List.mem_singleton] at a;subst a;exact⟨(by unfold maxLen;decide:(⟨#[97,103,101]⟩:BA).size<=maxLen),c 4⟩
    ·simp at a
end Go.Proofs.YtdakgnaojakldaaGreatDoor
namespace Go.Proofs.YtdakgnaojakldaaGreatDoor
open laws Go.ChangeShapes Go.WideShapes Go.ChangeAt Go.RowKit Go.Joins Go.Deep
instance:Inhabited Kp.qK:=⟨⟨0,0,[]⟩⟩
section
variable {H:Type} {enc:TypeId×Value->H} {w:World} {spare:Nat->Bool} {held:Bool}
theorem Nk{fuel:Nat}{cs:List Value}{x:DataW H×List MemPlace}(h:DataW.trod enc prog w 0 spare held fuel 68 cs=some x)(v:∀b,spare b=true) :
  ∃(p:Kp.qK) (o:Value),cs=[.int .i64 p.layer,.int .i64 p.name,o]/\I64 p.layer/\I64 p.name/\p.rules.length<=maxLen/\kH w o p.rules:=by
 obtain⟨xs,n,_,rfl,_,_,_⟩:=DataW.trod_struct underlying68 h;have c3:prog.cellsOf 3=1:=by kernel_rfl
 have i:prog.cellsOf 32=1:=by kernel_rfl
 obtain⟨u,c⟩:=V9 underlying68 (λj f a=>by
  match j,a with
  | 0,a=>simp at a;subst a;exact⟨rfl,c3⟩
  | 1,a=>simp at a;subst a;exact⟨rfl,c3⟩
  | 2,a=>simp at a;subst a;exact⟨rfl,i⟩
  | j+3,a=>simp at a) (by kernel_rfl) h
 obtain⟨N,D,K,G,d,_,r⟩:=c 0 _ rfl;obtain⟨O,E,L,I,e,_,s⟩:=c 1 _ rfl;obtain⟨P,F,M,J,g,_,t⟩:=c 2 _ rfl;have k:cs.length=3:=u
 match cs,k with
 | [u0,u1,u2],_=>
  simp only[List.getElem?_cons_zero,List.getElem?_cons_succ,Option.some.injEq] at d e g;subst d e g;obtain⟨z,l,_,q⟩:=DataW.trod_int underlying3 r;obtain⟨A,m,_,f1⟩:=DataW.trod_int underlying3 s;obtain⟨B,C,y⟩:=oO t v;simp only[List.cons.injEq,and_true] at l m;subst l m;exact⟨⟨z,A,B⟩,u2,rfl,wf_i64 q,wf_i64 f1,C,y⟩
theorem Nl{fuel:Nat}{v:Value}{x:DataW H×List MemPlace}(h:DataW.trod enc prog w 0 spare held fuel 36 [v]=some x)(u:∀b,spare b=true):∃l:List Kp.qK,l.length<=maxLen/\XQ w v l:=by
 have E:prog.cellsOf 68=3:=by kernel_rfl
 rcases open_slice underlying36 h with ⟨e,_⟩|⟨a,len,cap,m,n,D,Pl,e,_,hl,hmx,hmm,_,hcell⟩
 ·simp only[List.cons.injEq,and_true] at e;subst e;exact⟨[],by simp,none,0,rfl,λk r d=>by simp at d⟩
 ·simp only[List.cons.injEq,and_true] at e;subst e;rw[u,if_pos rfl] at hmm;rw[E] at hcell
  have each:∀i,i<len->∃p:Kp.qK,I64 p.layer/\I64 p.name/\p.rules.length<=maxLen /\
   ∃c o f,some a=some ⟨c,o,none⟩/\w.cell? ⟨c,o+i*3,none⟩=some (.int .i64 p.layer)/\w.cell? ⟨c,o+i*3+1,none⟩=some (.int .i64 p.name)/\w.cell? ⟨c,o+i*3+2,none⟩=some f/\kH w f p.rules:=by
   intro i hi
   have s:∃b o,a=⟨b,o,none⟩:=by
    obtain⟨z,A,L⟩:=hcell 0 (by omega);obtain⟨_,I,g⟩:=World.cells?_some A
    have:=g 0 (by omega)
    rw[add_add,Nat.zero_mul,Nat.add_zero,List.getElem?_eq_getElem (by omega)] at this;exact plain_of_cell this
   obtain⟨c,o,rfl⟩:=s;obtain⟨y,B,C⟩:=hcell i (by omega);obtain⟨p,f,rfl,f1,f2,K,J⟩:=Nk C u;obtain⟨_,_,q⟩:=World.cells?_some B
   have cell:∀j,j<3->w.cell? ⟨c,o+i*3+j,none⟩=[Value.int .i64 p.layer,.int .i64 p.name,f][j]?:=by
    intro j G
    have:=q j G
    rw[add_add,addr_add,<- Nat.add_assoc] at this;exact this
   exact⟨p,f1,f2,K,c,o,f,rfl,cell 0 (by omega),cell 1 (by omega),cell 2 (by omega),J⟩
  obtain⟨F,hF⟩:=choose_lt each;refine⟨(List.range len).map F,by rw[List.length_map,List.length_range];omega,some a,cap,by rw[List.length_map,List.length_range],λk r d=>?_⟩
  have t:k<len:=by
   have:=(List.getElem?_eq_some_iff.1 d).1
   rw[List.length_map,List.length_range] at this;exact this
  rw[List.getElem?_map,List.getElem?_range t] at d;simp only[Option.map_some,Option.some.injEq] at d;subst d;exact hF k t
theorem wY{fuel:Nat}{v:Value}{x:DataW H×List MemPlace}(h:DataW.trod enc prog w 0 spare held fuel 37 [v]=some x)(u:∀b,spare b=true):∃l:List (List Int),l.length<=maxLen/\YI w v l:=by
 have C:prog.cellsOf 30=1:=by kernel_rfl
 rcases open_slice underlying37 h with ⟨e,_⟩|⟨a,len,cap,m,n,D,Pl,e,_,hl,hmx,hmm,_,hcell⟩
 ·simp only[List.cons.injEq,and_true] at e;subst e;exact⟨[],by simp,none,0,rfl,λk r c=>by simp at c⟩
 ·simp only[List.cons.injEq,and_true] at e;subst e;rw[u,if_pos rfl] at hmm;rw[C] at hcell
  have each:∀i,i<len->∃r:List Int,∃d o f,some a=some ⟨d,o,none⟩/\w.cell? ⟨d,o+i,none⟩=some f/\IntsIn w f r:=by
   intro i hi
   have s:∃b o,a=⟨b,o,none⟩:=by
    obtain⟨y,z,G⟩:=hcell 0 (by omega);obtain⟨_,E,j⟩:=World.cells?_some z
    have:=j 0 (by omega)
    rw[add_add,Nat.zero_mul,Nat.add_zero,List.getElem?_eq_getElem (by omega)] at this;exact plain_of_cell this
   obtain⟨d,o,rfl⟩:=s;obtain⟨g,A,B⟩:=hcell i (by omega);obtain⟨_,q,p⟩:=World.cells?_some A
   match g,q with
   | [f],_=>
    obtain⟨r,_,c⟩:=Vt B u
    have:=p 0 (by omega)
    rw[add_add,addr_add,Nat.mul_one,Nat.add_zero] at this;exact⟨r,d,o,f,rfl,this,c⟩
  obtain⟨F,hF⟩:=choose_lt each;refine⟨(List.range len).map F,by rw[List.length_map,List.length_range];omega,some a,cap,by rw[List.length_map,List.length_range],λk r c=>?_⟩
  have t:k<len:=by
   have:=(List.getElem?_eq_some_iff.1 c).1
   rw[List.length_map,List.length_range] at this;exact this
  rw[List.getElem?_map,List.getElem?_range t] at c;simp only[Option.map_some,Option.some.injEq] at c;subst c;exact hF k t
end
end Go.Proofs.YtdakgnaojakldaaGreatDoor
namespace Go.Proofs.YtdakgnaojakldaaGreatDoor
open laws Go.ChangeShapes Go.WideShapes Go.ChangeAt Go.RowKit Go.Joins Go.Deep
theorem Fg{H:Type}(d:DataW H):1<=Rows.uptoBulk d:=by
 cases d with
 | lit l=>cases l<;>simp[Rows.uptoBulk]
 | nil=>simp[Rows.uptoBulk]
 | ptr d=>simp[Rows.uptoBulk]
 | slice elems spare=>simp[Rows.uptoBulk]
 | agg parts=>simp[Rows.uptoBulk]
 | iface t d=>simp[Rows.uptoBulk]
 | map entries=>simp[Rows.uptoBulk]
 | held h=>simp[Rows.uptoBulk]
theorem Ff{H:Type}(l:List (DataW H)):l.length<=Rows.uptoBulkAll l:=by
 induction l with
 | nil=>simp[Rows.uptoBulkAll]
 | cons x r a=>have:=Fg x;simp only[Rows.uptoBulkAll,List.length_cons];omega
section
variable {H:Type} {enc:TypeId×Value->H} {w:World} {spare:Nat->Bool} {held:Bool}
theorem wX{fuel:Nat}{a:Option Addr}{len cap:Nat}{x:DataW H×List MemPlace}(h:DataW.trod enc prog w 0 spare held fuel 37 [.slice a len cap]=some x):len<=Rows.uptoBulk x.1:=by
 rcases open_slice underlying37 h with ⟨e,_⟩|⟨a',len',cap',m,n,D,Pl,e,_,hl,hmx,hmm,rfl,hcell⟩
 ·simp only[List.cons.injEq,and_true] at e;injection e with e1 e2
  omega
 ·simp only[List.cons.injEq,and_true] at e;injection e with e1 e2 e3
  subst e2;have hb:=Ff ((List.range len).map D);rw[List.length_map,List.length_range] at hb;simp only[Rows.uptoBulk];omega
end
theorem Ty{H:Type}{enc:TypeId×Value->H}{P:Program}{w:World}{base:Nat}{spare:Nat->Bool}{held:Bool}{t J l K L:TypeId}{args:Array Value}{F:List (DataW H)}{I:List MemPlace}(h:DataW.TrodAll enc P w base spare held [t,J,l,K,L] args.toList F I) :
  ∃v x i y z d m b n o p r g s u,args=#[v,x,i,y,z]/\F=[d,m,b,n,o]/\I=p++r++g++s++u/\DataW.Trod enc P w base spare held t v d p/\DataW.Trod enc P w base spare held J x m r/\DataW.Trod enc P w base spare held l i b g/\DataW.Trod enc P w base spare held K y n s/\DataW.Trod enc P w base spare held L z o u:=by
 obtain⟨v,Y,d,N,p,q,B,rfl,rfl,hd,j⟩:=trodAll_cons h;obtain⟨x,S,m,G,r,V,rfl,rfl,rfl,C,c⟩:=trodAll_cons j;obtain⟨i,M,b,A,g,R,rfl,rfl,rfl,k,a⟩:=trodAll_cons c;obtain⟨y,T,n,O,s,W,rfl,rfl,rfl,D,e⟩:=trodAll_cons a;obtain⟨z,U,o,Q,u,X,rfl,rfl,rfl,E,f⟩:=trodAll_cons e;obtain⟨rfl,rfl,rfl⟩:=trodAll_nil f;exact⟨v,x,i,y,z,d,m,b,n,o,p,r,g,s,u,by cases args;simp_all,rfl,by simp,hd,C,k,D,E⟩
end Go.Proofs.YtdakgnaojakldaaGreatDoor
namespace Go.Proofs.YtdakgnaojakldaaGreatDoor
open Go.RowKit
theorem We{L:List zt}(h:xy L){n:BA}{D b:List zw}(f:(n,D) ∈ L):qY (qY L n b) n D=L:=by
 refine VX _ _ ((h.with n b).with n D) h (λy=>?_)
 rw[ZK (h.with n b),ZK h]
 constructor
 ·rintro (rfl|⟨rfl|⟨a,_⟩,c⟩)
  ·exact f
  ·exact absurd rfl c
  ·exact a
 ·intro a
  by_cases e:y.1=n
  ·left
   obtain⟨_,d⟩:=Yd h a;obtain⟨_,g⟩:=Yd h f;rw[e] at d;exact Option.some.inj (d.symm.trans g)
  ·exact .inr ⟨.inr ⟨a,e⟩,e⟩
theorem IW{L:List zt}(h:xy L){n:BA}{b:List zw}(i:zh L n=false):vX (qY L n b) (qa (qY L n b) n)=L:=by
 have f:=h.with n b
 have g:zh (qY L n b) n=true:=by rw[Jd h,decide_eq_true rfl,Bool.true_or]
 refine VX _ _ (f.less _) h (λy=>?_);rw[lL f g,ZK h]
 constructor
 ·rintro ⟨rfl|⟨c,_⟩,a⟩
  ·exact absurd rfl a
  ·exact c
 ·intro c
  have a:y.1≠n:=λe=>by
   obtain⟨d,_⟩:=Yd h c;rw[e,i] at d
   cases d
  exact⟨.inr ⟨c,a⟩,a⟩
namespace Kp
theorem sj{st:StO}{i:Nat}{L a:List zt}(h:a=st i):upd (upd st i L) i a=st:=by
 funext j
 by_cases e:j=i
 ·subst e;rw[Zl,h]
 ·rw[YF _ e,YF _ e]
theorem FC{st:StO}(q:uO st)(r:Zt st){i k:Nat}(hi:i<4)(c:k<6)(l:List zl)(b:zh (st i) (zF k)=true) :
  ∃S a,QW st (i:Int) (zF k)=0/\XC st (i:Int) (zF k)=S/\vC st (i:Int) (zF k) (qp l)=(0,0)/\yS st (i:Int) (zF k) (qp l)=a/\vC a (i:Int) (zF k) S=(0,0)/\yS a (i:Int) (zF k) S=st:=by
 obtain⟨D,g,d⟩:=VC b;obtain⟨_,e,f⟩:=r i hi _ g;simp only at f;subst f;obtain⟨j,m⟩:=Qt st hi c (qp l) (QR l);rw[b,Bool.true_or] at j m;have h:=(q i hi).1;obtain⟨n,o⟩:=Qt (upd st i (qY (st i) (zF k) (xP (qp l)))) hi c (yA (qU e)) (NU e);have p:zh (upd st i (qY (st i) (zF k) (xP (qp l))) i) (zF k)=true:=by rw[Zl,Jd h,decide_eq_true rfl,Bool.true_or]
 rw[p,Bool.true_or] at n o;refine⟨yA (qU e),_,?_,?_,j,m,n,o.trans ?_⟩
 ·unfold QW;rw[if_pos (Yx hi c)];exact if_pos b
 ·unfold XC Y5;simp only[Int.toNat_natCast];rw[if_pos ⟨Yx hi c,b⟩,d]
 ·simp only[if_true];rw[Tz,Zl];exact sj (We h g)
theorem Ro{st:StO}{i k:Nat}(hi:i<4)(b:k<6)(a:zh (st i) (zF k)=false):QW st (i:Int) (zF k)=9:=by
 unfold QW;rw[if_pos (Yx hi b)];exact if_neg (by simp only[Int.toNat_natCast];rw[a];simp)
theorem FD{st:StO}(j:uO st){i k:Nat}(hi:i<4)(b:k<6)(l:List zl)(e:zh (st i) (zF k)=false)(h:(st i).length<4) :
  ∃a,vC st (i:Int) (zF k) (qp l)=(0,0)/\yS st (i:Int) (zF k) (qp l)=a/\X5 a (i:Int) (zF k)=0/\X6 a (i:Int) (zF k)=st:=by
 obtain⟨g,c⟩:=Qt st hi b (qp l) (QR l);rw[e,Bool.false_or,decide_eq_true h] at g c;simp only[if_true] at c;have f:=(j i hi).1;have d:zh (upd st i (qY (st i) (zF k) (xP (qp l))) i) (zF k)=true:=by rw[Zl,Jd f,decide_eq_true rfl,Bool.true_or]
 refine⟨_,g,c,?_,?_⟩
 ·unfold X5;rw[if_pos (Yx hi b)];exact if_pos d
 ·unfold X6;simp only[Int.toNat_natCast];rw[if_pos ⟨Yx hi b,d⟩,Zl];exact sj (IW f e)
theorem FB{st:StO}{i k:Nat}(hi:i<4)(e:k<6)(l:List zl)(d:zh (st i) (zF k)=false)(c:¬(st i).length<4) :
  vC st (i:Int) (zF k) (qp l)=(10,0)/\yS st (i:Int) (zF k) (qp l)=st:=by
 obtain⟨a,b⟩:=Qt st hi e (qp l) (QR l);rw[d,Bool.false_or,decide_eq_false c] at a b;exact⟨a,b⟩
end Kp
def yj(d:De.Dec):List Value:=[.int .i64 ((d.verdict:Nat):Int),.int .i64 ((d.layer:Nat):Int),.string d.doc,.int .i64 ((d.stmt:Nat):Int)]
theorem fQ:∀(L:List De.Dec) (i:Nat) (h:i<L.length) (t:Nat),t<4->(L.flatMap yj)[i*4+t]?=(yj L[i])[t]?
 | [],i,h,_,_=>by simp at h
 | d::L,0,_,t,ht=>by
  rw[List.flatMap_cons,List.getElem?_append_left (by simp[yj];omega)]
  simp
 | d::L,i+1,h,t,ht=>by
  have a:=fQ L i (by simpa using h) t ht;rw[List.flatMap_cons,List.getElem?_append_right (by simp[yj];omega)];rw[show (i+1)*4+t-(yj d).length=i*4+t by simp[yj];omega]
  simpa using a
def yX(st:StO)(asks:List (List Int))(k:Nat):List De.Dec:=(asks.take k).map λraw=>(De.yh st (Kp.qy raw)).1
theorem Cw(st:StO)(asks:List (List Int)){k:Nat}(h:k<=asks.length):(yX st asks k).length=k:=by unfold yX;rw[List.length_map,List.length_take];omega
theorem Cx(st:StO)(asks:List (List Int)){k:Nat}(h:k<asks.length):yX st asks (k+1)=yX st asks k++[(De.yh st (Kp.qy asks[k])).1]:=by
 unfold yX;rw[List.take_succ_eq_append_getElem h,List.map_append,List.map_singleton]
theorem U3(st:StO)(asks:List (List Int)){k i:Nat}(hi:i<k){raw:List Int}(a:asks[i]?=some raw):(yX st asks k)[i]?=some (De.yh st (Kp.qy raw)).1:=by
 unfold yX;rw[List.getElem?_map,List.getElem?_take,if_pos hi,a]
 rfl
theorem Cn{L:List De.Dec}{i:Nat}{d:De.Dec}(h:L[i]?=some d)(t:Nat)(a:t<4):(L.flatMap yj)[i*4+t]?=(yj d)[t]?:=by
 obtain⟨hi,rfl⟩:=List.getElem?_eq_some_iff.1 h;exact fQ L i hi t a
theorem Cm:(prog.info? 48).map (λi=>(i.zero,i.size,i.bytes))=some (some (.agg #[.int .i64 0,.int .i64 0,.string ⟨#[]⟩,.int .i64 0]),4,40):=by kernel_rfl
end Go.Proofs.YtdakgnaojakldaaGreatDoor
