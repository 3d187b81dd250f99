/- P -/
import Derived.Test.YtagnlbgbnfnapaaGreatDoorRows
import Derived.Test.YtagnlbgbnfnapaaGreatDoorZ23
open Go.Proofs.Tryz
set_option maxRecDepth 100000
namespace Go.Proofs.YtagnlbgbnfnapaaGreatDoor.laws
open Go.ChangeShapes Go.WideShapes Go.ChangeAt Go.RowKit Go.Joins Go.Deep
section
variable {H:Type} {enc:TypeId×Value->H} {P:Program} {w:World} {base:Nat} {sp:Nat->Bool} {held:Bool}
theorem KU{fuel:Nat}{t:TypeId}{a:Array Field}{cs:List Value}{c:List (DataW H)}{p:List MemPlace}(s:P.underlying t=some (.struct a))
  (m:∀(i:Nat) (f:Field),a[i]?=some f->f.offset=i/\P.cellsOf f.type=1)(g:P.cellsOf t=a.size)(h:DataW.trod enc P w base sp held fuel t cs=some (.agg c,p)) :
  cs.length=a.size/\∀(i:Nat) (f:Field),a[i]?=some f->∃v d q n,cs[i]?=some v/\c[i]?=some d/\DataW.trod enc P w base sp held n f.type [v]=some (d,q):=by
 obtain⟨xs,n,rfl,u,k,x,b⟩:=DataW.trod_struct s h
 have j:c=xs.map (·.1):=by
  have:=congrArg Prod.fst u
  simpa using this
 rw[g] at k;refine⟨k,λi f hi=>?_⟩;have o:i<a.size:=(YI.1 hi).1;obtain⟨r,l⟩:=m i f hi;have e:=b i f hi;rw[r,l,zt (by omega)] at e
 have hcut:(cs.drop i).take 1=[cs[i]'(by omega)]:=by
  rw[ZQ (by omega)];rfl
 rw[hcut] at e;exact⟨cs[i]'(by omega),(xs[i]'(by omega)).1,(xs[i]'(by omega)).2,n,zt (by omega),by rw[j];simp[List.getElem?_eq_getElem (show i<xs.length by omega)],e⟩
theorem sM{α:Type}(c:Nat):∀(n:Nat) (row:Nat->List α) (cs:List α),cs.length=n*c->(∀i,i<n->(cs.drop (i*c)).take c=row i)->cs=(List.range n).flatMap row
 | 0,_,cs,hl,_=>by
  have:cs=[]:=uW.1 (by simpa using hl)
  simp[this]
 | n+1,row,cs,hl,h=>by
  have e:cs.length=n*c+c:=by rw[hl,Nat.succ_mul]
  have a:cs.take (n*c)=(List.range n).flatMap row:=by
   refine sM c n row _ (by rw[xE];omega) (λi hi=>?_);have hle:i*c+c<=n*c:=by rw[<- Nat.succ_mul];exact Jw c hi
   rw[<- h i (by omega),List.drop_take,List.take_take];congr 1;omega
  have b:cs.drop (n*c)=row n:=by
   rw[<- h n (by omega)];exact (ZU (by rw[Zu];omega)).symm
  rw[UB,List.flatMap_append,<- a];have d:[n].flatMap row=cs.drop (n*c):=by rw[b];simp
  rw[d,UD]
theorem mG{fuel:Nat}{t e:TypeId}{n c:Nat}{cs:List Value}{f:List (DataW H)}{p:List MemPlace}(j:P.underlying t=some (.array n e))(k:P.cellsOf e=c)(b:P.cellsOf t=n*c)
  (h:DataW.trod enc P w base sp held fuel t cs=some (.agg f,p))(row:Nat->List Value)
  (m:∀(i:Nat) (d:DataW H) (xs:List Value) (a:Nat) (q:List MemPlace),i<n->f[i]?=some d->DataW.trod enc P w base sp held a e xs=some (d,q)->xs=row i):cs=(List.range n).flatMap row:=by
 have hlen:cs.length=n*c:=by
  cases fuel with
  | zero=>simp[DataW.trod] at h
  | succ fuel=>
   simp only[DataW.trod,j] at h
   split at h
   ·rename_i l;rw[l,b]
   ·cases h
 refine sM c n row cs hlen (λi hi=>?_);obtain⟨a,d,q,hd,g⟩:=Lib.array_elem j h i hi;rw[k] at g;exact m i d _ a q hi hd g
theorem Mx{fuel:Nat}{t:TypeId}{a:Array Field}{cs:List Value}{e:List (IntKind×Int)}{p:List MemPlace}(A:P.underlying t=some (.struct a))
  (s:∀(i:Nat) (f:Field),a[i]?=some f->f.offset=i/\P.cellsOf f.type=1)(u:∀(i:Nat) (f:Field),a[i]?=some f->∃k z,e[i]?=some (k,z)/\P.underlying f.type=some (.int k))(g:P.cellsOf t=a.size)(y:e.length=a.size)
  (h:DataW.trod enc P w base sp held fuel t cs=some (.agg (e.map λx => .lit (.int x.1 x.2)),p)):cs=e.map λx=>Value.int x.1 x.2:=by
 obtain⟨E,b⟩:=KU A s g h;apply ah;intro i
 by_cases hi:i<a.size
 ·obtain⟨v,d,q,n,C,hd,m⟩:=b i a[i] (by simp[hi]);obtain⟨k,z,c,B⟩:=u i a[i] (by simp[hi]);obtain⟨r,j,D,_⟩:=YN B m;have o:v = .int k r:=by simpa using j
  have l:d = .lit (.int k r):=by
   have:=congrArg Prod.fst D
   simpa using this
  rw[vv,c] at hd;simp only[Q3,Option.some.injEq] at hd;rw[l] at hd;injection hd with hd
  injection hd with _ hd
  rw[C,vv,c,o,<- hd]
  rfl
 ·rw[aj (by omega),aj (by simp;omega)]
end
theorem Ck{P:Program}{w:World}{n:String}{g:Nat}{cs:Array Value}(b:P.globalNamed n=some g)(h:w.var? P n=some cs):∃t fr,w.heap[g]?=some (.cells cs t fr):=by
 unfold World.var? at h;rw[b] at h;simp only[Option.bind_some] at h
 split at h
 ·rename_i a t fr e;injection h with h
  subst h;exact⟨t,fr,e⟩
 ·cases h
def KJ:Nat->List (IntKind×Int)
 | 0=>[(.u8,194),(.u8,223),(.i64,1),(.u8,128),(.u8,191)]
 | 1=>[(.u8,224),(.u8,224),(.i64,2),(.u8,160),(.u8,191)]
 | 2=>[(.u8,225),(.u8,236),(.i64,2),(.u8,128),(.u8,191)]
 | 3=>[(.u8,237),(.u8,237),(.i64,2),(.u8,128),(.u8,159)]
 | 4=>[(.u8,238),(.u8,239),(.i64,2),(.u8,128),(.u8,191)]
 | 5=>[(.u8,240),(.u8,240),(.i64,3),(.u8,144),(.u8,191)]
 | 6=>[(.u8,241),(.u8,243),(.i64,3),(.u8,128),(.u8,191)]
 | _=>[(.u8,244),(.u8,244),(.i64,3),(.u8,128),(.u8,143)]
def Tk:DataW Unit := .agg ((List.range 8).map λi => .agg ((KJ i).map λx => .lit (.int x.1 x.2)))
theorem Tm:(Rows.laid_warrant_texts_sequences:DataW Unit)=Tk:=by kernel_rfl
theorem pQ:prog.globalNamed "warrant/texts.sequences" = some 5:=by kernel_rfl
theorem za7:(prog.globals[(5:Nat)]?).map (·.type)=some 400:=by kernel_rfl
theorem EI:prog.cellsOf 400=8*5:=by kernel_rfl
theorem nD:prog.cellsOf 399=5:=by kernel_rfl
theorem Tu {W:World} (h:Lib.VarReads prog W "warrant/texts.sequences" Rows.laid_warrant_texts_sequences):qG W:=by
 obtain⟨g,t,cs,fuel,p,w,s,n,hd⟩:=h;obtain rfl:=Option.some.inj (pQ.symm.trans w);obtain rfl:=Option.some.inj (za7.symm.trans s);rw[Tm] at hd
 have r:cs.toList=(List.range 8).flatMap λi=>(KJ i).map λx=>Value.int x.1 x.2:=by
  refine mG underlying400 nD EI hd _ (λi d xs o q hi m v=>?_);rw[vv,VA hi] at m;simp only[Q3,Option.some.injEq] at m;subst m
  have u:∀i,(KJ i).map Prod.fst=[.u8,.u8,.i64,.u8,.u8]:=by
   intro i;unfold KJ
   split<;>rfl
  refine Mx underlying399 ?_ ?_ (by rw[nD];rfl) (by have:=congrArg List.length (u i);simpa using this) v
  ·intro j f a
   match j,a with
   | 0,a=>simp at a;subst a;exact⟨rfl,by kernel_rfl⟩
   | 1,a=>simp at a;subst a;exact⟨rfl,by kernel_rfl⟩
   | 2,a=>simp at a;subst a;exact⟨rfl,by kernel_rfl⟩
   | 3,a=>simp at a;subst a;exact⟨rfl,by kernel_rfl⟩
   | 4,a=>simp at a;subst a;exact⟨rfl,by kernel_rfl⟩
   | j+5,a=>simp at a
  ·intro j f a;have b:=congrArg (λl=>l[j]?) (u i);simp only[vv] at b
   match j,a,b with
   | 0,a,b=>
    obtain⟨⟨k,z⟩,c,rfl⟩:=vR.1 b;simp at a;subst a;exact⟨_,z,c,by kernel_rfl⟩
   | 1,a,b=>
    obtain⟨⟨k,z⟩,c,rfl⟩:=vR.1 b;simp at a;subst a;exact⟨_,z,c,by kernel_rfl⟩
   | 2,a,b=>
    obtain⟨⟨k,z⟩,c,rfl⟩:=vR.1 b;simp at a;subst a;exact⟨_,z,c,by kernel_rfl⟩
   | 3,a,b=>
    obtain⟨⟨k,z⟩,c,rfl⟩:=vR.1 b;simp at a;subst a;exact⟨_,z,c,by kernel_rfl⟩
   | 4,a,b=>
    obtain⟨⟨k,z⟩,c,rfl⟩:=vR.1 b;simp at a;subst a;exact⟨_,z,c,by kernel_rfl⟩
   | j+5,a,_=>simp at a
 obtain⟨t,fr,hb⟩:=Ck pQ n;refine⟨t,fr,?_⟩
 have e:cs=Zl.toArray:=by
  rw[<- Jm,r]
  rfl
 rw[<- e];exact hb
theorem Ua{W:World}{fuel:Nat}{xs:List Value}{q:List MemPlace}(nm:BA){r t:UInt8}{u v:List UInt8}{f1 f2:FuncId}
  (y:((List.range prog.funcs.size).filter λf=>(prog.funcs[f]?).any (·.name.toUTF8.data.toList==r::u))=[f1])
  (z:((List.range prog.funcs.size).filter λf=>(prog.funcs[f]?).any (·.name.toUTF8.data.toList==t::v))=[f2])
  (h:DataW.trod (funcToken prog) prog W 0 (λ_=>true) true fuel 350 xs=some (.agg [.lit (.string nm.data.toList),.held (r::u),.held (t::v)],q)) :
  xs=[.string nm,.func (.func f1) #[] #[],.func (.func f2) #[] #[]]:=by
 obtain⟨A,b⟩:=KU underlying350 (λj f a=>by
  match j,a with
  | 0,a=>simp at a;subst a;exact⟨rfl,by kernel_rfl⟩
  | 1,a=>simp at a;subst a;exact⟨rfl,by kernel_rfl⟩
  | 2,a=>simp at a;subst a;exact⟨rfl,by kernel_rfl⟩
  | j+3,a=>simp at a) (by kernel_rfl) h
 obtain⟨E,F,L,I,g,c,n⟩:=b 0 _ rfl;obtain⟨v1,G,M,J,i,d,o⟩:=b 1 _ rfl;obtain⟨v2,H,q2,K,k,e,p⟩:=b 2 _ rfl;simp only[kS,Xx,Option.some.injEq] at c d e;subst c;subst d;subst e;obtain⟨s,B,D,_⟩:=DataW.trod_string underlying9 n;have w:=func_of_trod underlying347 y o;have x:=func_of_trod underlying348 z p;have C:E = .string s:=by simpa using B
 have m:s=nm:=by
  have:=congrArg Prod.fst D
  simp only[DataW.lit.injEq,Lit.string.injEq] at this;exact uS (Jm.1 this.symm)
 have l:xs.length=3:=A
 match xs,l with
 | [x0,x1,x2],_=>
  simp only[kS,Xx,Option.some.injEq] at g i k;rw[g,i,k,C,m,w,x]
def NF:Nat->List UInt8
 | 0=>[119,97,114,114,97,110,116,47,100,111,99,117,109,101,110,116,115,46,108,105,107,101,86,97,108,117,101,115]
 | 1=>[119,97,114,114,97,110,116,47,100,111,99,117,109,101,110,116,115,46,115,97,109,101,86,97,108,117,101,115]
 | 2=>[119,97,114,114,97,110,116,47,100,111,99,117,109,101,110,116,115,46,98,101,108,111,119,86,97,108,117,101,115]
 | 3=>[119,97,114,114,97,110,116,47,100,111,99,117,109,101,110,116,115,46,117,110,100,101,114,86,97,108,117,101,115]
 | _=>[119,97,114,114,97,110,116,47,100,111,99,117,109,101,110,116,115,46,97,98,115,101,110,116,86,97,108,117,101,115]
def zaB:Nat->List UInt8
 | 0=>[119,97,114,114,97,110,116,47,100,111,99,117,109,101,110,116,115,46,105,115,76,105,107,101]
 | 1=>[119,97,114,114,97,110,116,47,100,111,99,117,109,101,110,116,115,46,105,115,83,97,109,101]
 | 2=>[119,97,114,114,97,110,116,47,100,111,99,117,109,101,110,116,115,46,105,115,66,101,108,111,119]
 | 3=>[119,97,114,114,97,110,116,47,100,111,99,117,109,101,110,116,115,46,105,115,85,110,100,101,114]
 | _=>[119,97,114,114,97,110,116,47,100,111,99,117,109,101,110,116,115,46,105,115,65,98,115,101,110,116]
def wR:DataW (List UInt8) := .agg ((List.range 5).map λi => .agg [.lit (.string (opN i).data.toList),.held (NF i),.held (zaB i)])
theorem Pt:∃d,(Rows.laid_warrant_documents_operations:DataW Unit) = .iface "func table" d/\d.funcsOut=wR:=⟨_,rfl,by kernel_rfl⟩
theorem pO:prog.globalNamed "warrant/documents.operations" = some 6:=by kernel_rfl
theorem za6:(prog.globals[(6:Nat)]?).map (·.type)=some 402:=by kernel_rfl
theorem EG:prog.cellsOf 402=5*3:=by kernel_rfl
theorem EH:prog.cellsOf 350=3:=by kernel_rfl
def Px(i:Nat):List Value:=[.string (opN i),.func (.func (opL i)) #[] #[],.func (.func (opT i)) #[] #[]]
theorem PM {W:World} {d:DataW Unit} (k:d.funcsOut=wR) (h:funcsAt prog W "warrant/documents.operations" d):QZ W:=by
 obtain⟨g,t,cs,fuel,p,m,l,c,hd⟩:=h;obtain rfl:=Option.some.inj (pO.symm.trans m);obtain rfl:=Option.some.inj (za6.symm.trans l);rw[k] at hd
 have j:cs.toList=(List.range 5).flatMap Px:=by
  refine mG underlying402 EH EG hd _ (λi d xs f q hi a b=>?_);rw[vv,VA hi] at a;simp only[Q3,Option.some.injEq] at a;subst a
  rcases lt5 hi with rfl|rfl|rfl|rfl|rfl
  ·exact Ua (opN 0) (f1:=opL 0) (f2:=opT 0) (by kernel_rfl) (by kernel_rfl) b
  ·exact Ua (opN 1) (f1:=opL 1) (f2:=opT 1) (by kernel_rfl) (by kernel_rfl) b
  ·exact Ua (opN 2) (f1:=opL 2) (f2:=opT 2) (by kernel_rfl) (by kernel_rfl) b
  ·exact Ua (opN 3) (f1:=opL 3) (f2:=opT 3) (by kernel_rfl) (by kernel_rfl) b
  ·exact Ua (opN 4) (f1:=opL 4) (f2:=opT 4) (by kernel_rfl) (by kernel_rfl) b
 obtain⟨t,fr,hb⟩:=Ck pO c;refine⟨t,fr,?_⟩
 have e:cs=Vf.toArray:=by
  rw[<- Jm,j]
  rfl
 rw[<- e];exact hb
theorem own:ownKnob prog.godebug=none:=by kernel_rfl
theorem pM:prog.globalNamed "warrant/texts.ErrLong" = some 0:=by kernel_rfl
theorem Lp:prog.globalNamed "errors.errorType" = some 1:=by kernel_rfl
theorem SH:(prog.cutTypes.find? (·.1 == "internal/reflectlite.rtype")).map (·.2)=some 289:=by kernel_rfl
theorem zaK:prog.types.size=454:=by kernel_rfl
theorem Ph:((List.range 454).filter λt=>prog.rowNamed t [101,114,114,111,114])=[86]:=by kernel_rfl
theorem handle:typeHandle prog 86 = .pointer (some ⟨7,86,none⟩):=by kernel_rfl
theorem IL:Rows.laid_unicode_utf8_first=Lib.firstData:=by kernel_rfl
theorem Dk:(Rows.laid_unicode_utf8_acceptRanges:DataW Unit)=Lib.acceptData:=by kernel_rfl
theorem BC : "*" ++ "errors.errorString" = "*errors.errorString":=by decide
theorem Pb (u:TypeId) (h:prog.typeName? 3 u=some "*errors.errorString"):u=414:=
 typeName_ptr_named (nm := "errors.errorString") (by rw[BC];kernel_rfl) (by kernel_rfl) (by decide) u (by rw[BC];exact h)
theorem Ob{W:World}(h:W.ShapedOpen prog):Xz W:=
 Go.Proofs.cell_of_shapedOpen_int (zero:=#[.int .i64 0]) (t:=3) h (XW (by kernel_rfl)) (by kernel_rfl) rfl (by kernel_rfl) (by kernel_rfl) underlying3
def laidAll:List (String×DataW Unit):=[("unicode/utf8.acceptRanges",Rows.laid_unicode_utf8_acceptRanges),("errors.errorType",Rows.laid_errors_errorType),("warrant/texts.ErrLong",Rows.laid_warrant_texts_ErrLong),("warrant/texts.sequences",Rows.laid_warrant_texts_sequences),("warrant/documents.operations",Rows.laid_warrant_documents_operations),("unicode/utf8.first",Rows.laid_unicode_utf8_first)]
def rZ:List (String×DataW Unit):=[("unicode/utf8.acceptRanges",Rows.laid_unicode_utf8_acceptRanges),("warrant/texts.ErrLong",Rows.laid_warrant_texts_ErrLong),("warrant/texts.sequences",Rows.laid_warrant_texts_sequences),("unicode/utf8.first",Rows.laid_unicode_utf8_first)]
theorem oN{W:World}(h:laidMetH prog laidAll W)(x:W.ShapedOpen prog):∃l,Qh W l:=by
 have v:laidMet prog rZ W/\handlesMet prog [("errors.errorType",Rows.laid_errors_errorType),("warrant/documents.operations",Rows.laid_warrant_documents_operations)] W:=h
 obtain⟨i,w⟩:=v
 have b:uZ W:=by
  have z:Lib.VarReads prog W "unicode/utf8.first" Lib.firstData:=by rw[<- IL];exact Lib.laidMet.reads i (.tail _ (.tail _ (.tail _ (.head _))))
  have A:Lib.VarReads prog W "unicode/utf8.acceptRanges" Lib.acceptData:=by rw[<- Dk];exact Lib.laidMet.reads i (.head _)
  exact utf8Tabs_of_readsT (U8Types.of196 Tryz.lays196) ⟨by kernel_rfl,by kernel_rfl,by kernel_rfl,by kernel_rfl,by kernel_rfl,by kernel_rfl,by kernel_rfl⟩ z A
 have c:xN W:=by
  obtain⟨name,u,B,m,o,p,q,j⟩:=w _ (.head _);have r:name=[101,114,114,111,114]:=(Option.some.inj m).symm;subst r;obtain rfl:=Option.some.inj (SH.symm.trans o);have k:B ∈ (List.range 454).filter λt=>prog.rowNamed t [101,114,114,111,114]:=List.mem_filter.2 ⟨vQ.2 (by rw[<- zaK];exact p),q⟩;rw[Ph] at k;obtain rfl:=xP.1 k;rw[handle] at j;show W.cell? _=_
  simpa using World.var?_cell Lp j 0
 have e:QZ W:=by
  obtain⟨d,hd,f⟩:=Pt
  exact PM f (h.funcs (n := "warrant/documents.operations") (d:=d) (by rw[<- hd];exact .tail _ (.tail _ (.tail _ (.tail _ (.head _))))))
 have g:qG W:=Tu (Lib.laidMet.reads i (.tail _ (.tail _ (.head _))));obtain⟨a,s,y,_⟩:=laid_sentinel (tp:=414) (te:=433) (ts:=9) (laidMet.tail i) pM (by kernel_rfl) underlying86 Pb underlying414 underlying433 rfl rfl underlying9 (by kernel_rfl) (by kernel_rfl);exact⟨a,⟨⟨⟨⟨b,Ob x,c⟩,e⟩,g,by simpa using World.var?_cell pM y 0⟩⟩⟩
noncomputable def low:Nat:=(World.holding prog default ⟨#[],#[],[]⟩).heap.size
noncomputable def put (h:Array Obj) (g:Nat) (cs:Array Value):Array Obj:=h.modify g fun
 | .cells _ t frozen => .cells cs t frozen
 | o=>o
noncomputable def laidWorld (os:Os):World:=
 { World.holding prog os ⟨#[.cells #[.string ⟨#[116,104,101,32,116,101,120,116,32,105,115,32,116,111,111,32,108,111,110,103]⟩] 433],#[],[]⟩ with
  heap:=put (put (put (put (put (put (World.holding prog os ⟨#[.cells #[.string ⟨#[116,104,101,32,116,101,120,116,32,105,115,32,116,111,111,32,108,111,110,103]⟩] 433],#[],[]⟩).heap
   0 #[.iface 414 (.pointer (some ⟨low,0,none⟩))])
   1 #[.iface 289 (.agg #[.pointer (some ⟨7,86,none⟩)])])
   2 (Lib.firstTab.map λz=>Value.int .u8 z).toArray)
   3 ((List.range 16).flatMap λi=>[Value.int .u8 (Lib.accLo i),Value.int .u8 (Lib.accHi i)]).toArray)
   5 Zl.toArray)
   6 Vf.toArray }
theorem si(os:Os)(args:Array Value):laidMetH prog laidAll ((laidWorld os).forCall (λ_ _=>0) ⟨#[],args,[]⟩).memory:=
 laidMetH_of_parts3 (fuel:=8) (LaidIn.of_run (l:=rZ) [0,2,3,5,low] 8 (by kernel_rfl) (by kernel_rfl) (by kernel_rfl) (by kernel_rfl)).met (by kernel_rfl) (by kernel_rfl)
theorem laidOut:laidOutB prog=true:=by kernel_rfl
theorem Cc{H:Type}{enc:TypeId×Value->H}{P:Program}(r:laidOutB P=true){W j:World}(hb:Below W.heap.size W j) :
  ∀(ts:List TypeId) (e:List Value) (c:List (DataW H)) (a:List MemPlace),(∀t ∈ ts,P.readableRec t=true/\t<P.types.size)->DataW.TrodAll enc P W 0 (λ_=>true) true ts e c a->(∀x ∈ a,x.block<W.heap.size) ->
   DataW.TrodAll enc P j 0 (λb=>decide (b<W.heap.size)) true ts e c a:=by
 intro ts
 induction ts with
 | nil=>
  intro e c a _ h _;obtain⟨rfl,rfl,rfl⟩:=trodAll_nil h;exact trodAll_mk0
 | cons t ts u=>
  intro e c a l h k;obtain⟨v,i,d,f,p,q,rfl,rfl,rfl,n,o⟩:=trodAll_cons h;have m:=l t (List.mem_cons_self ..);exact trodAll_cons_mk (Below.trod r m.1 m.2 n hb (λx g=>k x (ax _ g))) (u i f q (λt s=>l t (List.mem_cons_of_mem _ s)) o (λx g=>k x (List.mem_append_right _ g)))
end Go.Proofs.YtagnlbgbnfnapaaGreatDoor.laws
