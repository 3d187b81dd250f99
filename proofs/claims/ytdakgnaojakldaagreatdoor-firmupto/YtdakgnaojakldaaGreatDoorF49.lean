/- P -/
import Derived.Test.YtdakgnaojakldaaGreatDoorF40
import Derived.Test.YtdakgnaojakldaaGreatDoorF48
open Go.Proofs.Tryz hiding parts
set_option maxRecDepth 100000
set_option maxHeartbeats 4000000
namespace Go.Proofs.YtdakgnaojakldaaGreatDoor
open Go.RowKit
namespace Kp
def r0:Ref.Req:=⟨⟨#[97,110,110]⟩,⟨#[114,101,97,100]⟩,⟨#[98,111,120]⟩,[]⟩
def Z0:BA:=⟨#[97]⟩
def YY:StO:=xE qm 2 Z0 (qi [qU])
theorem ny:Ref.xP r0=true:=by kernel_rfl
theorem GM:De.kG qm r0=(De.silent,0):=by
 unfold De.kG;rw[if_pos ny]
 rfl
theorem gK:yR qm 2 Z0 (qi [qU])=(0,0)/\YY=upd qm 2 [(Z0,[stK qU])]:=by
 have h:=Yj qm (i:=2) (k:=0) (by decide) (by decide) (qi [qU]) (ZG _);have e:zT 0=Z0:=rfl;rw[e] at h;refine⟨h.1.trans (by rfl),?_⟩;unfold YY;refine h.2.trans ?_;rw[if_pos (by rfl),aM]
 rfl
theorem GL:De.kG YY r0=(⟨1,2,Z0,1⟩,0):=by
 unfold De.kG;rw[if_pos ny,gK.2];have hd:De.yO De.yj r0 (stK qU)=false:=by kernel_rfl
 have c:De.yO De.yh r0 (stK qU)=true:=by kernel_rfl
 have a:De.xK (upd qm 2 [(Z0,[stK qU])]) De.yj r0 [0,1,2,3]=none:=by
  simp[De.xK,De.jo,De.kU,upd,qm,hd]
 have b:De.xK (upd qm 2 [(Z0,[stK qU])]) De.yh r0 [2,3]=some (2,Z0,1):=by
  simp[De.xK,De.jo,De.kU,upd,c]
 unfold De.Xg;rw[a,b];simp[De.jq,upd,qm]
end Kp
theorem Yn:Qt Kp.qU:=by constructor<;>(unfold I64;decide)
theorem Nj:Pg.reqLen Kp.r0:=⟨by unfold maxLen;decide,by unfold maxLen;decide,by unfold maxLen;decide,Nat.zero_le _,λm a=>by simp[Kp.r0] at a⟩
theorem Oa(W:World)(b:Nat)(h:W.heap[b]?=some (.cells #[.bool false,.slice none 0 0,.slice none 0 0,.slice none 0 0,.int .i64 0,.int .i64 0,.int .i64 0,.int .i64 0,.bool false,.int .i64 0] 66)):vO W (.slice (some ⟨b,0,none⟩) 1 1) [Kp.qU]:=by
 refine⟨some ⟨b,0,none⟩,1,rfl,λk r d=>?_⟩
 have f:k=0:=by
  have:=(List.getElem?_eq_some_iff.1 d).1
  simp at this;exact this
 subst f;have e:Kp.qU=r:=by simpa using d
 subst e;have c:=λk=>(za h k).1;have a:IntsIn W (.slice none 0 0) []:=⟨none,0,rfl,λk x g=>by simp at g⟩;refine⟨Yn,Nat.zero_le _,Nat.zero_le _,Nat.zero_le _,b,0,.slice none 0 0,.slice none 0 0,.slice none 0 0,rfl,⟨c 0,c 1,c 2,c 3,c 4,c 5,c 6,c 7,c 8,c 9⟩,a,a,a⟩
theorem GN(aL:Addr)(w:World)(hC:ZP w aL)(hE:qP w) :
  Calls prog 27 #[] w λe p=>e = .returned (.bool true)/\Below w.heap.size w p:=by
 have cn:=Kq (λb=>b=w.heap.size) w rfl;have G:=λ(st:StO) (W:World) (hb:Below w.heap.size w W) (L:qf (λb=>b=w.heap.size) W w.heap.size st)=>mR w.heap.size st Kp.r0 none 0 (λb=>b=w.heap.size) W L (.inl rfl) Nj (hE.below hb);have cP:=λ(W:World) (rv:Value) (hr:vO W rv [Kp.qU])=>Vq [Kp.qU] rv W hr (by unfold maxLen;simp);have H:=λ(W:World) (hb:Below w.heap.size w W) (L:qf (λb=>b=w.heap.size) W w.heap.size qm) (hz:w.heap.size<W.heap.size)=>Je w.heap.size qm 2 Kp.Z0 (Kp.qi [Kp.qU]) (λb=>b=w.heap.size) aL W (hC.below hb) L (λb hb=>by rw[hb];exact hz) (by unfold maxLen;decide);have I:=G qm;have J:=G Kp.YY;rw[Kp.GM] at I;rw[Kp.GL] at J;rw[Kp.gK.1] at H;have CN:=hid cn;have X:Hid (∀(W:World),Below w.heap.size w W->qf (λb=>b=w.heap.size) W w.heap.size qm->Calls prog 25 #[.pointer (some ⟨w.heap.size,0,none⟩),.agg #[.string ⟨#[97,110,110]⟩,.string ⟨#[114,101,97,100]⟩,.string ⟨#[98,111,120]⟩,.slice none 0 0]] W λe p=>e = .returned (.tuple #[.agg #[.int .i64 3,.int .i64 0,.string ⟨#[]⟩,.int .i64 0],.int .i64 0])/\Below W.heap.size W p):=hid I;have D1:Hid (∀(W:World),Below w.heap.size w W->qf (λb=>b=w.heap.size) W w.heap.size Kp.YY->Calls prog 25 #[.pointer (some ⟨w.heap.size,0,none⟩),.agg #[.string ⟨#[97,110,110]⟩,.string ⟨#[114,101,97,100]⟩,.string ⟨#[98,111,120]⟩,.slice none 0 0]] W λe p=>e = .returned (.tuple #[.agg #[.int .i64 1,.int .i64 2,.string ⟨#[97]⟩,.int .i64 1],.int .i64 0])/\Below W.heap.size W p):=hid J;have U:=hid cP;have V:=hid H;clear cn G I J cP H;go_enter func27,ntmps27
 go_upto_region 5 with (go_at_call 21;refine CN.out.mono ?_;rintro e g ⟨rfl,b1,o1⟩;have z:=hid b1;have B:=hid o1;clear b1 o1)
 obtain⟨D,c⟩:∃W,g.alloc (.cells #[.string ⟨#[97,110,110]⟩,.string ⟨#[114,101,97,100]⟩,.string ⟨#[98,111,120]⟩,.slice none 0 0] 53)=W:=⟨_,rfl⟩;have E:Below g.heap.size g D:=by rw[<- c];exact nB g _
 have f:D.heap[g.heap.size]?=some (yc (.string ⟨#[97,110,110]⟩) (.string ⟨#[114,101,97,100]⟩) (.string ⟨#[98,111,120]⟩) (.slice none 0 0)):=by rw[<- c];exact heap_alloc_new g _
 have z1:w.heap.size<g.heap.size:=lt_of_block B.out.row.choose_spec.1;obtain⟨P,n⟩:∃x,g.heap.size=x:=⟨_,rfl⟩;have i:=hid (z.out.trans (E.mono z.out.size));have C:=hid (B.out.below E);rw[n] at f z1 |-;rw[c];have s:=(za f 0).1;have t:=(za f 1).1;have u:=(za f 2).1;have v:=(za f 3).1;simp at s t u v;have Y:=hid f;have zr:=lt_of_block f;clear c E n f B z
 go_upto_region 6 with (go_at_call 25;refine (X.out D i.out C.out).mono ?_;rintro e h ⟨rfl,b3⟩;have j:=hid b3;clear b3)
 obtain⟨q,d⟩:∃W,h.alloc (.cells #[.int .i64 3,.int .i64 0,.string ⟨#[]⟩,.int .i64 0] 48)=W:=⟨_,rfl⟩;have r:Below h.heap.size h q:=by rw[<- d];exact nB h _
 have y:q.heap[h.heap.size]?=some (.cells #[.int .i64 3,.int .i64 0,.string ⟨#[]⟩,.int .i64 0] 48):=by rw[<- d];exact heap_alloc_new h _
 have z3:=j.out.size;obtain⟨db,m⟩:∃x,h.heap.size=x:=⟨_,rfl⟩;have R:=hid ((i.out.trans (j.out.mono i.out.size)).trans (r.mono (Nat.le_trans i.out.size z3)));have O4:=hid ((C.out.below j.out).below r);have N:=(r.block P (by omega)).trans ((j.out.block P zr).trans Y.out);rw[m] at y z3 |-;rw[d];have K:=(za y 0).1;simp at K;have Z:=hid N;have zd:=lt_of_block y;have Q:=lt_of_block N;clear d r m y N X i j C Y s t u v
 go_upto_region 7 with (first
  | (go_at_call 24;refine (V.out w6 S.out O6.out z6).mono ?_;rintro e w7 ⟨rfl,t7,o7⟩;have T7:=hid t7;have O7:=hid o7;clear t7 o7)
  | (go_at_call 18;refine (U.out _ _ (Oa _ _ (heap_alloc_new q _))).mono ?_;rintro e w6 ⟨rfl,b6⟩;have a:=(nB q _).trans (b6.mono (by simp));have l:=hid a;have S:=hid (R.out.trans (a.mono R.out.size));have O6:=hid (O4.out.below a);have z6:w.heap.size<w6.heap.size:=Nat.lt_of_lt_of_le (by omega) a.size;clear b6 a))
 have t47:=(zx.of (M:=λb=>b=w.heap.size) l.out).trans T7.out;have o:=(t47.block P Q (by omega)).trans Z.out;have s:=(za o 0).1;have t:=(za o 1).1;have u:=(za o 2).1;have v:=(za o 3).1;simp at s t u v;have e7:=t47.cell (x:=⟨db,0,none⟩) (by simp;omega) K;have A:=hid (S.out.trans (T7.out.below (λk hk e=>by omega) (by omega)));clear t47 o Z K l U V
 go_upto_region 8 with (go_at_call 25;refine (D1.out w7 A.out O7.out).mono ?_;rintro e w8 ⟨rfl,F⟩;have e8:=zb F e7;have T:=hid (A.out.trans (F.mono A.out.size));clear F)
 have d7:=World.block_lt_of_cell? _ _ e8;have e9:=λO:Obj=>zb (nB w8 O) e8;go_wp2_with fail;go_ret;exact⟨rfl,T.out.alloc T.out.size _⟩
namespace Kp
end Kp
def VV(w:World)(e:Value)(asks:List (List Int)):Prop:=∃a c,e = .slice a asks.length c/\∀(k:Nat) (raw:List Int),asks[k]?=some raw->∃b o d,a=some ⟨b,o,none⟩/\w.cell? ⟨b,o+k,none⟩=some d/\IntsIn w d raw
theorem VV.below{w d:World}{b:Value}{asks:List (List Int)}(h:VV w b asks)(hb:Below w.heap.size w d):VV d b asks:=by
 obtain⟨a,c,rfl,h⟩:=h;refine⟨a,c,rfl,λk raw g=>?_⟩;obtain⟨f,o,i,e,c0,hi⟩:=h k raw g;exact⟨f,o,i,e,zb hb c0,hi.below hb⟩
def XF(w:World)(B:Nat)(d:Value)(L:List BA):Prop:=∃a c,d = .slice a L.length c/\∀(k:Nat) (x:BA),L[k]?=some x->∃b,a=some ⟨b,0,none⟩/\B<=b/\w.cell? ⟨b,k,none⟩=some (.string x)
theorem XF.own{w:World}{B:Nat}{f:Value}{L:List BA}(h:zF w B f L):XF w B f L:=by
 obtain⟨a,c,rfl⟩:=yQ h;refine⟨a,c,rfl,λk x d=>?_⟩;have j:k<L.length:=(List.getElem?_eq_some_iff.1 d).1
 rcases h.2 with ⟨e,h0⟩|⟨gb,cap,cur,e,_⟩
 ·omega
 ·have b:w.ownsRow B 9 1 (.slice (some ⟨gb,0,none⟩) L.length cap) L.length (L.map Value.string):=by rw[<- e];exact h
  have g:=World.ownsRow.cellAt b k (by omega);have i:=(World.ownsRow.lt b gb (by rfl)).1;injection e with e1 e2 e3
  exact⟨gb,e1,i,by rw[g];simp[List.getElem?_map,d]⟩
theorem XF.turn{w g:World}{B:Nat}{f:Value}{L:List BA}{M:Nat->Prop}(h:XF w B f L)(l:zx M w g)(i:∀b,B<=b->¬M b):XF g B f L:=by
 obtain⟨a,c,rfl,h⟩:=h;refine⟨a,c,rfl,λk x m=>?_⟩;obtain⟨d,e,hb,j⟩:=h k x m;exact⟨d,e,hb,l.cell (x:=⟨d,k,none⟩) (i d hb) j⟩
theorem sW(raw:List Int):Pg.reqLen (Kp.xU raw):=by
 have c:∀i,(Kp.xg raw i).size<=maxLen:=λi=>by
  have:=Kp.uw (P:=λb=>b.size<=8) Kp.VU (by decide) (Kp.zm (raw.getD (i % raw.length) 0) 14)
  unfold Kp.xg maxLen;omega
 unfold Kp.xU
 split
 ·exact⟨by unfold maxLen;decide,by unfold maxLen;decide,by unfold maxLen;decide,Nat.zero_le _,λm a=>by simp at a⟩
 ·refine⟨c 0,c 1,c 2,?_,λm a=>?_⟩
  ·simp only[List.length_append]
   split<;>split<;>simp
  ·simp only[List.mem_append] at a
   rcases a with a|a
   ·split at a
    ·rw[List.mem_singleton] at a;subst a;exact⟨(by unfold maxLen;decide:(⟨#[116,97,103]⟩:BA).size<=maxLen),c 3⟩
    ·simp at a
   ·split at a
    ·rw[List.mem_singleton] at a;subst a;exact⟨(by unfold maxLen;decide:(⟨#[97,103,101]⟩:BA).size<=maxLen),c 4⟩
    ·simp at a
end Go.Proofs.YtdakgnaojakldaaGreatDoor
namespace Go.Proofs.YtdakgnaojakldaaGreatDoor
open laws Go.ChangeShapes Go.WideShapes Go.ChangeAt Go.RowKit Go.Joins Go.Deep
instance:Inhabited Kp.qz:=⟨⟨0,0,[]⟩⟩
section
variable {H:Type} {enc:TypeId×Value->H} {w:World} {spare:Nat->Bool} {held:Bool}
theorem Mt{fuel:Nat}{cs:List Value}{x:DataW H×List MemPlace}(h:DataW.trod enc prog w 0 spare held fuel 68 cs=some x)(v:∀b,spare b=true) :
  ∃(p:Kp.qz) (o:Value),cs=[.int .i64 p.layer,.int .i64 p.name,o]/\I64 p.layer/\I64 p.name/\p.rules.length<=maxLen/\vO w o p.rules:=by
 obtain⟨xs,n,_,rfl,_,_,_⟩:=DataW.trod_struct underlying68 h;have c3:prog.cellsOf 3=1:=by kernel_rfl
 have i:prog.cellsOf 32=1:=by kernel_rfl
 obtain⟨u,c⟩:=VN underlying68 (λj f a=>by
  match j,a with
  | 0,a=>simp at a;subst a;exact⟨rfl,c3⟩
  | 1,a=>simp at a;subst a;exact⟨rfl,c3⟩
  | 2,a=>simp at a;subst a;exact⟨rfl,i⟩
  | j+3,a=>simp at a) (by kernel_rfl) h
 obtain⟨N,D,K,G,d,_,r⟩:=c 0 _ rfl;obtain⟨v1,E,L,I,e,_,s⟩:=c 1 _ rfl;obtain⟨v2,F,M,J,g,_,t⟩:=c 2 _ rfl;have k:cs.length=3:=u
 match cs,k with
 | [u0,u1,u2],_=>
  simp only[List.getElem?_cons_zero,List.getElem?_cons_succ,Option.some.injEq] at d e g;subst d e g;obtain⟨z,l,_,q⟩:=DataW.trod_int underlying3 r;obtain⟨A,m,_,f1⟩:=DataW.trod_int underlying3 s;obtain⟨B,C,y⟩:=nM t v;simp only[List.cons.injEq,and_true] at l m;subst l m;exact⟨⟨z,A,B⟩,u2,rfl,wf_i64 q,wf_i64 f1,C,y⟩
theorem mf{fuel:Nat}{v:Value}{x:DataW H×List MemPlace}(h:DataW.trod enc prog w 0 spare held fuel 36 [v]=some x)(u:∀b,spare b=true):∃l:List Kp.qz,l.length<=maxLen/\Q5 w v l:=by
 have E:prog.cellsOf 68=3:=by kernel_rfl
 rcases open_slice underlying36 h with ⟨e,_⟩|⟨a,len,cap,m,n,D,Pl,e,_,hl,hmx,hmm,_,hcell⟩
 ·simp only[List.cons.injEq,and_true] at e;subst e;exact⟨[],by simp,none,0,rfl,λk r d=>by simp at d⟩
 ·simp only[List.cons.injEq,and_true] at e;subst e;rw[u,if_pos rfl] at hmm;rw[E] at hcell
  have each:∀i,i<len->∃p:Kp.qz,I64 p.layer/\I64 p.name/\p.rules.length<=maxLen /\
   ∃c o f,some a=some ⟨c,o,none⟩/\w.cell? ⟨c,o+i*3,none⟩=some (.int .i64 p.layer)/\w.cell? ⟨c,o+i*3+1,none⟩=some (.int .i64 p.name)/\w.cell? ⟨c,o+i*3+2,none⟩=some f/\vO w f p.rules:=by
   intro i hi
   have s:∃b o,a=⟨b,o,none⟩:=by
    obtain⟨z,A,L⟩:=hcell 0 (by omega);obtain⟨_,I,g⟩:=World.cells?_some A
    have:=g 0 (by omega)
    rw[add_add,Nat.zero_mul,Nat.add_zero,List.getElem?_eq_getElem (by omega)] at this;exact plain_of_cell this
   obtain⟨c,o,rfl⟩:=s;obtain⟨y,B,C⟩:=hcell i (by omega);obtain⟨p,f,rfl,f1,f2,K,J⟩:=Mt C u;obtain⟨_,_,q⟩:=World.cells?_some B
   have cell:∀j,j<3->w.cell? ⟨c,o+i*3+j,none⟩=[Value.int .i64 p.layer,.int .i64 p.name,f][j]?:=by
    intro j G
    have:=q j G
    rw[add_add,addr_add,<- Nat.add_assoc] at this;exact this
   exact⟨p,f1,f2,K,c,o,f,rfl,cell 0 (by omega),cell 1 (by omega),cell 2 (by omega),J⟩
  obtain⟨F,hF⟩:=choose_lt each;refine⟨(List.range len).map F,by rw[List.length_map,List.length_range];omega,some a,cap,by rw[List.length_map,List.length_range],λk r d=>?_⟩
  have t:k<len:=by
   have:=(List.getElem?_eq_some_iff.1 d).1
   rw[List.length_map,List.length_range] at this;exact this
  rw[List.getElem?_map,List.getElem?_range t] at d;simp only[Option.map_some,Option.some.injEq] at d;subst d;exact hF k t
end
end Go.Proofs.YtdakgnaojakldaaGreatDoor
namespace Go.Proofs.YtdakgnaojakldaaGreatDoor
open laws Go.ChangeShapes Go.WideShapes Go.ChangeAt Go.RowKit Go.Joins Go.Deep
theorem Em{H:Type}(d:DataW H):1<=Rows.uptoBulk d:=by
 cases d with
 | lit l=>cases l<;>simp[Rows.uptoBulk]
 | nil=>simp[Rows.uptoBulk]
 | ptr d=>simp[Rows.uptoBulk]
 | slice elems spare=>simp[Rows.uptoBulk]
 | agg parts=>simp[Rows.uptoBulk]
 | iface t d=>simp[Rows.uptoBulk]
 | map entries=>simp[Rows.uptoBulk]
 | held h=>simp[Rows.uptoBulk]
theorem El{H:Type}(l:List (DataW H)):l.length<=Rows.uptoBulkAll l:=by
 induction l with
 | nil=>simp[Rows.uptoBulkAll]
 | cons x r a=>have:=Em x;simp only[Rows.uptoBulkAll,List.length_cons];omega
section
variable {H:Type} {enc:TypeId×Value->H} {w:World} {spare:Nat->Bool} {held:Bool}
end
theorem Sk{H:Type}{enc:TypeId×Value->H}{P:Program}{w:World}{base:Nat}{spare:Nat->Bool}{held:Bool}{t I l J K:TypeId}{args:Array Value}{E:List (DataW H)}{G:List MemPlace}(h:DataW.TrodAll enc P w base spare held [t,I,l,J,K] args.toList E G) :
  ∃v x i v3 y d m b n o p r g s u,args=#[v,x,i,v3,y]/\E=[d,m,b,n,o]/\G=p++r++g++s++u/\DataW.Trod enc P w base spare held t v d p/\DataW.Trod enc P w base spare held I x m r/\DataW.Trod enc P w base spare held l i b g/\DataW.Trod enc P w base spare held J v3 n s/\DataW.Trod enc P w base spare held K y o u:=by
 obtain⟨v,X,d,M,p,q,A,rfl,rfl,hd,j⟩:=trodAll_cons h;obtain⟨x,R,m,F,r,U,rfl,rfl,rfl,B,c⟩:=trodAll_cons j;obtain⟨i,L,b,z,g,Q,rfl,rfl,rfl,k,a⟩:=trodAll_cons c;obtain⟨v3,S,n,N,s,V,rfl,rfl,rfl,C,e⟩:=trodAll_cons a;obtain⟨y,T,o,O,u,W,rfl,rfl,rfl,D,f⟩:=trodAll_cons e;obtain⟨rfl,rfl,rfl⟩:=trodAll_nil f;exact⟨v,x,i,v3,y,d,m,b,n,o,p,r,g,s,u,by cases args;simp_all,rfl,by simp,hd,B,k,C,D⟩
end Go.Proofs.YtdakgnaojakldaaGreatDoor
namespace Go.Proofs.YtdakgnaojakldaaGreatDoor
open laws Go.ChangeShapes Go.WideShapes Go.ChangeAt Go.RowKit Go.Joins Go.Deep
section
variable {H:Type} {enc:TypeId×Value->H} {w:World} {spare:Nat->Bool} {held:Bool}
theorem Od{fuel:Nat}{a:Option Addr}{len cap:Nat}{x:DataW H×List MemPlace}(h:DataW.trod enc prog w 0 spare held fuel 32 [.slice a len cap]=some x):len<=Rows.uptoBulk x.1:=by
 rcases open_slice underlying32 h with ⟨e,_⟩|⟨a',len',cap',m,n,D,Pl,e,_,hl,hmx,hmm,rfl,hcell⟩
 ·simp only[List.cons.injEq,and_true] at e;injection e with e1 e2
  omega
 ·simp only[List.cons.injEq,and_true] at e;injection e with e1 e2 e3
  subst e2;have hb:=El ((List.range len).map D);rw[List.length_map,List.length_range] at hb;simp only[Rows.uptoBulk];omega
end
end Go.Proofs.YtdakgnaojakldaaGreatDoor
namespace Go.Proofs.YtdakgnaojakldaaGreatDoor
open Go.RowKit
namespace Kp
end Kp
def uq(d:De.Dec):List Value:=[.int .i64 ((d.verdict:Nat):Int),.int .i64 ((d.layer:Nat):Int),.string d.doc,.int .i64 ((d.stmt:Nat):Int)]
theorem eu:∀(L:List De.Dec) (i:Nat) (h:i<L.length) (t:Nat),t<4->(L.flatMap uq)[i*4+t]?=(uq L[i])[t]?
 | [],i,h,_,_=>by simp at h
 | d::L,0,_,t,ht=>by
  rw[List.flatMap_cons,List.getElem?_append_left (by simp[uq];omega)]
  simp
 | d::L,i+1,h,t,ht=>by
  have a:=eu L i (by simpa using h) t ht;rw[List.flatMap_cons,List.getElem?_append_right (by simp[uq];omega)];rw[show (i+1)*4+t-(uq d).length=i*4+t by simp[uq];omega]
  simpa using a
theorem Bf{L:List De.Dec}{i:Nat}{d:De.Dec}(h:L[i]?=some d)(t:Nat)(a:t<4):(L.flatMap uq)[i*4+t]?=(uq d)[t]?:=by
 obtain⟨hi,rfl⟩:=List.getElem?_eq_some_iff.1 h;exact eu L i hi t a
namespace De
def YD(eff:BA)(r:Ref.Req)(L:List zk):Bool:=L.any λx=>x.2.any (yO eff r)
def kE(a:Nat->List zk)(eff:BA)(r:Ref.Req)(is:List Nat):Bool:=is.any λi=>YD eff r (a i)
theorem Dz(eff:BA)(r:Ref.Req)(a:List zA):(kU eff r a).isSome=a.any (yO eff r):=by
 unfold kU;rw[List.findIdx?_isSome]
theorem UT(eff:BA)(r:Ref.Req):∀L:List zk,(jo eff r L).isSome=YD eff r L
 | []=>rfl
 | x::L=>by
  have a:=UT eff r L;have h:=Dz eff r x.2;unfold YD at a |-;rw[jo,List.any_cons,<- h,<- a]
  cases kU eff r x.2<;>simp
theorem UU(a:Nat->List zk)(eff:BA)(r:Ref.Req):∀is:List Nat,(xK a eff r is).isSome=kE a eff r is
 | []=>rfl
 | i::is=>by
  have b:=UU a eff r is;have h:=UT eff r (a i);unfold kE at b |-;rw[xK,List.any_cons,<- h,<- b]
  cases jo eff r (a i)<;>simp
def xx(a:Nat->List zk)(r:Ref.Req):Nat:=
 if kE a yj r [0,1,2,3] then 2 else if (jq a r 0&&jq a r 1)=false then 3 else if kE a yh r [2,3] then 1 else 3
theorem SH(a:Nat->List zk)(r:Ref.Req):(Xg a r).verdict=xx a r:=by
 unfold Xg xx;rw[<- UU,<- UU]
 cases h1:xK a yj r [0,1,2,3] with
 | some x=>simp
 | none=>
  simp only[Option.isSome_none,Bool.false_eq_true,if_false]
  split
  ·rfl
  ·cases h2:xK a yh r [2,3] with
   | some x=>simp
   | none=>rfl
theorem bF{eff:BA}{r:Ref.Req}{L:List zk}:YD eff r L=true↔∃x ∈ L,∃s ∈ x.2,yO eff r s=true:=by
 unfold YD;simp only[List.any_eq_true]
theorem YE{a:Nat->List zk}{eff:BA}{r:Ref.Req}{is:List Nat}:kE a eff r is=true↔∃i ∈ is,∃x ∈ a i,∃s ∈ x.2,yO eff r s=true:=by
 unfold kE;simp only[List.any_eq_true,bF]
theorem Ht{a:Nat->List zk}{r:Ref.Req}{i:Nat}:jq a r i=true↔a i=[]\/∃x ∈ a i,∃s ∈ x.2,yO yh r s=true:=by
 unfold jq;rw[Bool.or_eq_true,UT,bF,List.isEmpty_iff]
def VX(D:List zA):Prop:=∀s ∈ D,∀r,yO yh r s=false
structure More (st st':Nat->List zk) (n:Nat) (y:zk):Prop where
 lay:n<4
 mem:∀i,i<4->∀x,x ∈ st' i↔x ∈ st i\/(i=n/\x=y)
theorem More.deny{d a:Nat->List zk}{n:Nat}{y:zk}(h:More d a n y){r:Ref.Req}(c:∃s ∈ y.2,yO yj r s=true):xx a r=2:=by
 unfold xx;rw[if_pos];rw[YE];have b:=h.lay;exact⟨n,by simp;omega,y,(h.mem n b y).2 (.inr ⟨rfl,rfl⟩),c⟩
theorem More.allow{c a:Nat->List zk}{n:Nat}{y:zk}(h:More c a n y)(hd:VX y.2){r:Ref.Req}(d:xx a r=1):xx c r=1:=by
 unfold xx at d |-
 split at d
 ·cases d
 rename_i o
 split at d
 ·cases d
 rename_i p
 split at d
 rename_i j
 ·have k:¬kE c yj r [0,1,2,3]=true:=λe=>o (by
   rw[YE] at e |-;obtain⟨i,hi,x,b,g⟩:=e;exact⟨i,hi,x,(h.mem i (by simp at hi;omega) x).2 (.inl b),g⟩)
  have lets:∀i,i<4->jq a r i=true->jq c r i=true:=by
   intro i hi e;rw[Ht] at e |-
   rcases e with e|⟨x,b,s,g,f⟩
   ·left
    cases hst:c i with
    | nil=>rfl
    | cons z L=>
     have:z ∈ a i:=(h.mem i hi z).2 (.inl (by rw[hst];simp))
     rw[e] at this;simp at this
   ·rcases (h.mem i hi x).1 b with b|⟨_,rfl⟩
    ·exact .inr ⟨x,b,s,g,f⟩
    ·rw[hd s g r] at f;cases f
  have l:(jq c r 0&&jq c r 1)=true:=by
   have e:(jq a r 0&&jq a r 1)=true:=by simpa using p
   rw[Bool.and_eq_true] at e |-;exact⟨lets 0 (by decide) e.1,lets 1 (by decide) e.2⟩
  have m:kE c yh r [2,3]=true:=by
   rw[YE] at j |-;obtain⟨i,hi,x,b,s,g,f⟩:=j
   rcases (h.mem i (by simp at hi;omega) x).1 b with b|⟨_,rfl⟩
   ·exact⟨i,hi,x,b,s,g,f⟩
   ·rw[hd s g r] at f;cases f
  rw[if_neg k,l,if_neg (by simp),if_pos m]
 ·cases d
end De
end Go.Proofs.YtdakgnaojakldaaGreatDoor
