/- P -/
import Derived.Test.YtdakgnaojakldabGreatDoorRows
import Derived.Test.YtdakgnaojakldabGreatDoorT23
import Derived.ProofKit
import Derived.OpenShut
import Derived.JoinedCond
import Derived.Lib.SmallJoins
import Derived.Deep.SlicePairs
import Derived.Deep.DeepHandedRow
import Derived.Deep.DeepWitnessRowRef
import Derived.Lib.LaidIn
import Derived.Lib.LaidU8T
import Derived.Stop.LaidErr
import Derived.LaidHandle
import Derived.LaidMore
import Derived.Shelf.Vars
open Go.Proofs.Tryz
set_option maxRecDepth 100000
namespace Go.Proofs.YtdakgnaojakldabGreatDoor.laws
open Go.ChangeShapes Go.WideShapes Go.ChangeAt Go.RowKit Go.Joins Go.Deep
section
variable {H:Type} {enc:TypeId×Value->H} {P:Program} {w:World} {base:Nat} {sp:Nat->Bool} {held:Bool}
theorem Vj{fuel:Nat}{t:TypeId}{a:Array Field}{cs:List Value}{c:List (DataW H)}{p:List MemPlace}(u:P.underlying t=some (.struct a))
  (o:∀(i:Nat) (f:Field),a[i]?=some f->f.offset=i/\P.cellsOf f.type=1)(g:P.cellsOf t=a.size)(h:DataW.trod enc P w base sp held fuel t cs=some (.agg c,p)) :
  cs.length=a.size/\∀(i:Nat) (f:Field),a[i]?=some f->∃v d q n,cs[i]?=some v/\c[i]?=some d/\DataW.trod enc P w base sp held n f.type [v]=some (d,q):=by
 obtain⟨xs,n,rfl,x,l,y,b⟩:=DataW.trod_struct u h
 have j:c=xs.map (·.1):=by
  have:=congrArg Prod.fst x
  simpa using this
 rw[g] at l;refine⟨l,λi f k=>?_⟩;have r:i<a.size:=(Array.getElem?_eq_some_iff.1 k).1;obtain⟨s,m⟩:=o i f k;have e:=b i f k;rw[s,m,List.getElem?_eq_getElem (by omega)] at e
 have hcut:(cs.drop i).take 1=[cs[i]'(by omega)]:=by
  rw[List.drop_eq_getElem_cons (by omega)];rfl
 rw[hcut] at e;exact⟨cs[i]'(by omega),(xs[i]'(by omega)).1,(xs[i]'(by omega)).2,n,List.getElem?_eq_getElem (by omega),by rw[j];simp[List.getElem?_eq_getElem (show i<xs.length by omega)],e⟩
theorem fG{α:Type}(c:Nat):∀(n:Nat) (row:Nat->List α) (cs:List α),cs.length=n*c->(∀i,i<n->(cs.drop (i*c)).take c=row i)->cs=(List.range n).flatMap row
 | 0,_,cs,hl,_=>by
  have:cs=[]:=List.length_eq_zero_iff.1 (by simpa using hl)
  simp[this]
 | n+1,row,cs,hl,h=>by
  have f:cs.length=n*c+c:=by rw[hl,Nat.succ_mul]
  have a:cs.take (n*c)=(List.range n).flatMap row:=by
   refine fG c n row _ (by rw[List.length_take];omega) (λi e=>?_);have hle:i*c+c<=n*c:=by rw[<- Nat.succ_mul];exact Nat.mul_le_mul_right c e
   rw[<- h i (by omega),List.drop_take,List.take_take];congr 1;omega
  have b:cs.drop (n*c)=row n:=by
   rw[<- h n (by omega)];exact (List.take_of_length_le (by rw[List.length_drop];omega)).symm
  rw[List.range_succ,List.flatMap_append,<- a];have d:[n].flatMap row=cs.drop (n*c):=by rw[b];simp
  rw[d,List.take_append_drop]
theorem aj{fuel:Nat}{t e:TypeId}{n c:Nat}{cs:List Value}{f:List (DataW H)}{p:List MemPlace}(k:P.underlying t=some (.array n e))(l:P.cellsOf e=c)(b:P.cellsOf t=n*c)
  (h:DataW.trod enc P w base sp held fuel t cs=some (.agg f,p))(row:Nat->List Value)
  (o:∀(i:Nat) (d:DataW H) (xs:List Value) (a:Nat) (q:List MemPlace),i<n->f[i]?=some d->DataW.trod enc P w base sp held a e xs=some (d,q)->xs=row i):cs=(List.range n).flatMap row:=by
 have hlen:cs.length=n*c:=by
  cases fuel with
  | zero=>simp[DataW.trod] at h
  | succ fuel=>
   simp only[DataW.trod,k] at h
   split at h
   ·rename_i m;rw[m,b]
   ·cases h
 refine fG c n row cs hlen (λi j=>?_);obtain⟨a,d,q,hd,g⟩:=Lib.array_elem k h i j;rw[l] at g;exact o i d _ a q j hd g
theorem Ee{fuel:Nat}{t:TypeId}{a:Array Field}{cs:List Value}{e:List (IntKind×Int)}{p:List MemPlace}(A:P.underlying t=some (.struct a))
  (s:∀(i:Nat) (f:Field),a[i]?=some f->f.offset=i/\P.cellsOf f.type=1)(u:∀(i:Nat) (f:Field),a[i]?=some f->∃k z,e[i]?=some (k,z)/\P.underlying f.type=some (.int k))(g:P.cellsOf t=a.size)(y:e.length=a.size)
  (h:DataW.trod enc P w base sp held fuel t cs=some (.agg (e.map λx => .lit (.int x.1 x.2)),p)):cs=e.map λx=>Value.int x.1 x.2:=by
 obtain⟨E,b⟩:=Vj A s g h;apply List.ext_getElem?;intro i
 by_cases hi:i<a.size
 ·obtain⟨v,d,q,n,C,hd,m⟩:=b i a[i] (by simp[hi]);obtain⟨k,z,c,B⟩:=u i a[i] (by simp[hi]);obtain⟨r,j,D,_⟩:=DataW.trod_int B m;have o:v = .int k r:=by simpa using j
  have l:d = .lit (.int k r):=by
   have:=congrArg Prod.fst D
   simpa using this
  rw[List.getElem?_map,c] at hd;simp only[Option.map_some,Option.some.injEq] at hd;rw[l] at hd;injection hd with hd
  injection hd with _ hd
  rw[C,List.getElem?_map,c,o,<- hd]
  rfl
 ·rw[List.getElem?_eq_none (by omega),List.getElem?_eq_none (by simp;omega)]
end
theorem nC{P:Program}{w:World}{n:String}{g:Nat}{cs:Array Value}(b:P.globalNamed n=some g)(h:w.var? P n=some cs):∃t fr,w.heap[g]?=some (.cells cs t fr):=by
 unfold World.var? at h;rw[b] at h;simp only[Option.bind_some] at h
 split at h
 ·rename_i a t fr e;injection h with h
  subst h;exact⟨t,fr,e⟩
 ·cases h
def J4:Nat->List (IntKind×Int)
 | 0=>[(.u8,194),(.u8,223),(.i64,1),(.u8,128),(.u8,191)]
 | 1=>[(.u8,224),(.u8,224),(.i64,2),(.u8,160),(.u8,191)]
 | 2=>[(.u8,225),(.u8,236),(.i64,2),(.u8,128),(.u8,191)]
 | 3=>[(.u8,237),(.u8,237),(.i64,2),(.u8,128),(.u8,159)]
 | 4=>[(.u8,238),(.u8,239),(.i64,2),(.u8,128),(.u8,191)]
 | 5=>[(.u8,240),(.u8,240),(.i64,3),(.u8,144),(.u8,191)]
 | 6=>[(.u8,241),(.u8,243),(.i64,3),(.u8,128),(.u8,191)]
 | _=>[(.u8,244),(.u8,244),(.i64,3),(.u8,128),(.u8,143)]
def Nj:DataW Unit := .agg ((List.range 8).map λi => .agg ((J4 i).map λx => .lit (.int x.1 x.2)))
theorem Nk:(Rows.laid_warrant_texts_sequences:DataW Unit)=Nj:=by kernel_rfl
theorem dM:prog.globalNamed "warrant/texts.sequences" = some 5:=by kernel_rfl
theorem RL:(prog.globals[(5:Nat)]?).map (·.type)=some 268:=by kernel_rfl
theorem rZ:prog.cellsOf 268=8*5:=by kernel_rfl
theorem aO:prog.cellsOf 267=5:=by kernel_rfl
theorem Nr {W:World} (h:Lib.VarReads prog W "warrant/texts.sequences" Rows.laid_warrant_texts_sequences):qb W:=by
 obtain⟨g,t,cs,fuel,p,y,s,n,hd⟩:=h;obtain rfl:=Option.some.inj (dM.symm.trans y);obtain rfl:=Option.some.inj (RL.symm.trans s);rw[Nk] at hd
 have r:cs.toList=(List.range 8).flatMap λi=>(J4 i).map λx=>Value.int x.1 x.2:=by
  refine aj underlying268 aO rZ hd _ (λi d xs o q A m w=>?_);rw[List.getElem?_map,List.getElem?_range A] at m;simp only[Option.map_some,Option.some.injEq] at m;subst m
  have u:∀i,(J4 i).map Prod.fst=[.u8,.u8,.i64,.u8,.u8]:=by
   intro i;unfold J4
   split<;>rfl
  refine Ee underlying267 ?_ ?_ (by rw[aO];rfl) (by have:=congrArg List.length (u i);simpa using this) w
  ·intro j f a
   match j,a with
   | 0,a=>simp at a;subst a;exact⟨rfl,by kernel_rfl⟩
   | 1,a=>simp at a;subst a;exact⟨rfl,by kernel_rfl⟩
   | 2,a=>simp at a;subst a;exact⟨rfl,by kernel_rfl⟩
   | 3,a=>simp at a;subst a;exact⟨rfl,by kernel_rfl⟩
   | 4,a=>simp at a;subst a;exact⟨rfl,by kernel_rfl⟩
   | j+5,a=>simp at a
  ·intro j f a;have b:=congrArg (λl=>l[j]?) (u i);simp only[List.getElem?_map] at b
   match j,a,b with
   | 0,a,b=>
    obtain⟨⟨k,z⟩,c,rfl⟩:=Option.map_eq_some_iff.1 b;simp at a;subst a;exact⟨_,z,c,by kernel_rfl⟩
   | 1,a,b=>
    obtain⟨⟨k,z⟩,c,rfl⟩:=Option.map_eq_some_iff.1 b;simp at a;subst a;exact⟨_,z,c,by kernel_rfl⟩
   | 2,a,b=>
    obtain⟨⟨k,z⟩,c,rfl⟩:=Option.map_eq_some_iff.1 b;simp at a;subst a;exact⟨_,z,c,by kernel_rfl⟩
   | 3,a,b=>
    obtain⟨⟨k,z⟩,c,rfl⟩:=Option.map_eq_some_iff.1 b;simp at a;subst a;exact⟨_,z,c,by kernel_rfl⟩
   | 4,a,b=>
    obtain⟨⟨k,z⟩,c,rfl⟩:=Option.map_eq_some_iff.1 b;simp at a;subst a;exact⟨_,z,c,by kernel_rfl⟩
   | j+5,a,_=>simp at a
 obtain⟨t,fr,v⟩:=nC dM n;refine⟨t,fr,?_⟩
 have e:cs=vg.toArray:=by
  rw[<- Array.toList_inj,r]
  rfl
 rw[<- e];exact v
theorem YL{W:World}{fuel:Nat}{xs:List Value}{q:List MemPlace}(nm:BA){r t:UInt8}{u v:List UInt8}{f1 f2:FuncId}
  (y:((List.range prog.funcs.size).filter λf=>(prog.funcs[f]?).any (·.name.toUTF8.data.toList==r::u))=[f1])
  (z:((List.range prog.funcs.size).filter λf=>(prog.funcs[f]?).any (·.name.toUTF8.data.toList==t::v))=[f2])
  (h:DataW.trod (funcToken prog) prog W 0 (λ_=>true) true fuel 237 xs=some (.agg [.lit (.string nm.data.toList),.held (r::u),.held (t::v)],q)) :
  xs=[.string nm,.func (.func f1) #[] #[],.func (.func f2) #[] #[]]:=by
 obtain⟨A,b⟩:=Vj underlying237 (λj f a=>by
  match j,a with
  | 0,a=>simp at a;subst a;exact⟨rfl,by kernel_rfl⟩
  | 1,a=>simp at a;subst a;exact⟨rfl,by kernel_rfl⟩
  | 2,a=>simp at a;subst a;exact⟨rfl,by kernel_rfl⟩
  | j+3,a=>simp at a) (by kernel_rfl) h
 obtain⟨E,F,L,I,g,c,n⟩:=b 0 _ rfl;obtain⟨N,G,M,J,i,d,o⟩:=b 1 _ rfl;obtain⟨O,H,q2,K,k,e,p⟩:=b 2 _ rfl;simp only[List.getElem?_cons_zero,List.getElem?_cons_succ,Option.some.injEq] at c d e;subst c;subst d;subst e;obtain⟨s,B,D,_⟩:=DataW.trod_string underlying9 n;have w:=func_of_trod underlying234 y o;have x:=func_of_trod underlying235 z p;have C:E = .string s:=by simpa using B
 have m:s=nm:=by
  have:=congrArg Prod.fst D
  simp only[DataW.lit.injEq,Lit.string.injEq] at this;exact ByteArray.ext (Array.toList_inj.1 this.symm)
 have l:xs.length=3:=A
 match xs,l with
 | [x0,x1,x2],_=>
  simp only[List.getElem?_cons_zero,List.getElem?_cons_succ,Option.some.injEq] at g i k;rw[g,i,k,C,m,w,x]
def Gh:Nat->List UInt8
 | 0=>[119,97,114,114,97,110,116,47,100,111,99,117,109,101,110,116,115,46,108,105,107,101,86,97,108,117,101,115]
 | 1=>[119,97,114,114,97,110,116,47,100,111,99,117,109,101,110,116,115,46,115,97,109,101,86,97,108,117,101,115]
 | 2=>[119,97,114,114,97,110,116,47,100,111,99,117,109,101,110,116,115,46,98,101,108,111,119,86,97,108,117,101,115]
 | 3=>[119,97,114,114,97,110,116,47,100,111,99,117,109,101,110,116,115,46,117,110,100,101,114,86,97,108,117,101,115]
 | _=>[119,97,114,114,97,110,116,47,100,111,99,117,109,101,110,116,115,46,97,98,115,101,110,116,86,97,108,117,101,115]
def PT:Nat->List UInt8
 | 0=>[119,97,114,114,97,110,116,47,100,111,99,117,109,101,110,116,115,46,105,115,76,105,107,101]
 | 1=>[119,97,114,114,97,110,116,47,100,111,99,117,109,101,110,116,115,46,105,115,83,97,109,101]
 | 2=>[119,97,114,114,97,110,116,47,100,111,99,117,109,101,110,116,115,46,105,115,66,101,108,111,119]
 | 3=>[119,97,114,114,97,110,116,47,100,111,99,117,109,101,110,116,115,46,105,115,85,110,100,101,114]
 | _=>[119,97,114,114,97,110,116,47,100,111,99,117,109,101,110,116,115,46,105,115,65,98,115,101,110,116]
def gZ:DataW (List UInt8) := .agg ((List.range 5).map λi => .agg [.lit (.string (opN i).data.toList),.held (Gh i),.held (PT i)])
theorem Ip:∃d,(Rows.laid_warrant_documents_operations:DataW Unit) = .iface "func table" d/\d.funcsOut=gZ:=⟨_,rfl,by kernel_rfl⟩
theorem dL:prog.globalNamed "warrant/documents.operations" = some 6:=by kernel_rfl
theorem RJ:(prog.globals[(6:Nat)]?).map (·.type)=some 272:=by kernel_rfl
theorem rX:prog.cellsOf 272=5*3:=by kernel_rfl
theorem rY:prog.cellsOf 237=3:=by kernel_rfl
def Iu(i:Nat):List Value:=[.string (opN i),.func (.func (opL i)) #[] #[],.func (.func (opT i)) #[] #[]]
theorem IG {W:World} {d:DataW Unit} (k:d.funcsOut=gZ) (h:funcsAt prog W "warrant/documents.operations" d):Zg W:=by
 obtain⟨g,t,cs,fuel,p,o,l,c,hd⟩:=h;obtain rfl:=Option.some.inj (dL.symm.trans o);obtain rfl:=Option.some.inj (RJ.symm.trans l);rw[k] at hd
 have j:cs.toList=(List.range 5).flatMap Iu:=by
  refine aj underlying272 rY rX hd _ (λi d xs f q m a b=>?_);rw[List.getElem?_map,List.getElem?_range m] at a;simp only[Option.map_some,Option.some.injEq] at a;subst a
  rcases lt5 m with rfl|rfl|rfl|rfl|rfl
  ·exact YL (opN 0) (f1:=opL 0) (f2:=opT 0) (by kernel_rfl) (by kernel_rfl) b
  ·exact YL (opN 1) (f1:=opL 1) (f2:=opT 1) (by kernel_rfl) (by kernel_rfl) b
  ·exact YL (opN 2) (f1:=opL 2) (f2:=opT 2) (by kernel_rfl) (by kernel_rfl) b
  ·exact YL (opN 3) (f1:=opL 3) (f2:=opT 3) (by kernel_rfl) (by kernel_rfl) b
  ·exact YL (opN 4) (f1:=opL 4) (f2:=opT 4) (by kernel_rfl) (by kernel_rfl) b
 obtain⟨t,fr,n⟩:=nC dL c;refine⟨t,fr,?_⟩
 have e:cs=XO.toArray:=by
  rw[<- Array.toList_inj,j]
  rfl
 rw[<- e];exact n
theorem own:ownKnob prog.godebug=none:=by kernel_rfl
theorem dK:prog.globalNamed "warrant/texts.ErrLong" = some 0:=by kernel_rfl
theorem CX:prog.globalNamed "errors.errorType" = some 1:=by kernel_rfl
theorem MM:(prog.cutTypes.find? (·.1 == "internal/reflectlite.rtype")).map (·.2)=some 203:=by kernel_rfl
theorem Rf:prog.types.size=333:=by kernel_rfl
theorem Ik:((List.range 333).filter λt=>prog.rowNamed t [101,114,114,111,114])=[70]:=by kernel_rfl
theorem handle:typeHandle prog 70 = .pointer (some ⟨7,70,none⟩):=by kernel_rfl
theorem Cb:Rows.laid_unicode_utf8_first=Lib.firstData:=by kernel_rfl
theorem oo:(Rows.laid_unicode_utf8_acceptRanges:DataW Unit)=Lib.acceptData:=by kernel_rfl
theorem lY : "*" ++ "errors.errorString" = "*errors.errorString":=by decide
theorem Ih (u:TypeId) (h:prog.typeName? 3 u=some "*errors.errorString"):u=291:=
 typeName_ptr_named (nm := "errors.errorString") (by rw[lY];kernel_rfl) (by kernel_rfl) (by decide) u (by rw[lY];exact h)
theorem Gz{W:World}(h:W.ShapedOpen prog):ZF W:=
 Go.Proofs.cell_of_shapedOpen_int (zero:=#[.int .i64 0]) (t:=3) h (of_decide_eq_true (by kernel_rfl)) (by kernel_rfl) rfl (by kernel_rfl) (by kernel_rfl) underlying3
def laidAll:List (String×DataW Unit):=[("unicode/utf8.acceptRanges",Rows.laid_unicode_utf8_acceptRanges),("errors.errorType",Rows.laid_errors_errorType),("warrant/texts.ErrLong",Rows.laid_warrant_texts_ErrLong),("warrant/texts.sequences",Rows.laid_warrant_texts_sequences),("warrant/documents.operations",Rows.laid_warrant_documents_operations),("unicode/utf8.first",Rows.laid_unicode_utf8_first)]
def eX:List (String×DataW Unit):=[("unicode/utf8.acceptRanges",Rows.laid_unicode_utf8_acceptRanges),("warrant/texts.ErrLong",Rows.laid_warrant_texts_ErrLong),("warrant/texts.sequences",Rows.laid_warrant_texts_sequences),("unicode/utf8.first",Rows.laid_unicode_utf8_first)]
theorem Bi{W:World}(h:laidMetH prog laidAll W)(x:W.ShapedOpen prog):∃l,Zz W l:=by
 have v:laidMet prog eX W/\handlesMet prog [("errors.errorType",Rows.laid_errors_errorType),("warrant/documents.operations",Rows.laid_warrant_documents_operations)] W:=h
 obtain⟨i,w⟩:=v
 have b:jQ W:=by
  have z:Lib.VarReads prog W "unicode/utf8.first" Lib.firstData:=by rw[<- Cb];exact Lib.laidMet.reads i (.tail _ (.tail _ (.tail _ (.head _))))
  have A:Lib.VarReads prog W "unicode/utf8.acceptRanges" Lib.acceptData:=by rw[<- oo];exact Lib.laidMet.reads i (.head _)
  exact utf8Tabs_of_readsT (U8Types.of196 Tryz.lays196) ⟨by kernel_rfl,by kernel_rfl,by kernel_rfl,by kernel_rfl,by kernel_rfl,by kernel_rfl,by kernel_rfl⟩ z A
 have c:qQ W:=by
  obtain⟨name,u,B,m,o,p,q,j⟩:=w _ (.head _);have r:name=[101,114,114,111,114]:=(Option.some.inj m).symm;subst r;obtain rfl:=Option.some.inj (MM.symm.trans o);have k:B ∈ (List.range 333).filter λt=>prog.rowNamed t [101,114,114,111,114]:=List.mem_filter.2 ⟨List.mem_range.2 (by rw[<- Rf];exact p),q⟩;rw[Ik] at k;obtain rfl:=List.mem_singleton.1 k;rw[handle] at j;show W.cell? _=_
  simpa using World.var?_cell CX j 0
 have e:Zg W:=by
  obtain⟨d,hd,f⟩:=Ip
  exact IG f (h.funcs (n := "warrant/documents.operations") (d:=d) (by rw[<- hd];exact .tail _ (.tail _ (.tail _ (.tail _ (.head _))))))
 have g:qb W:=Nr (Lib.laidMet.reads i (.tail _ (.tail _ (.head _))));obtain⟨a,s,y,_⟩:=laid_sentinel (tp:=291) (te:=311) (ts:=9) (laidMet.tail i) dK (by kernel_rfl) underlying70 Ih underlying291 underlying311 rfl rfl underlying9 (by kernel_rfl) (by kernel_rfl);exact⟨a,⟨⟨⟨⟨b,Gz x,c⟩,e⟩,g,by simpa using World.var?_cell dK y 0⟩⟩⟩
noncomputable def low:Nat:=(World.holding prog default ⟨#[],#[],[]⟩).heap.size
noncomputable def put (h:Array Obj) (g:Nat) (cs:Array Value):Array Obj:=h.modify g fun
 | .cells _ t frozen => .cells cs t frozen
 | o=>o
noncomputable def laidWorld (os:Os):World:=
 { World.holding prog os ⟨#[.cells #[.string ⟨#[116,104,101,32,116,101,120,116,32,105,115,32,116,111,111,32,108,111,110,103]⟩] 311],#[],[]⟩ with
  heap:=put (put (put (put (put (put (World.holding prog os ⟨#[.cells #[.string ⟨#[116,104,101,32,116,101,120,116,32,105,115,32,116,111,111,32,108,111,110,103]⟩] 311],#[],[]⟩).heap
   0 #[.iface 291 (.pointer (some ⟨low,0,none⟩))])
   1 #[.iface 203 (.agg #[.pointer (some ⟨7,70,none⟩)])])
   2 (Lib.firstTab.map λz=>Value.int .u8 z).toArray)
   3 ((List.range 16).flatMap λi=>[Value.int .u8 (Lib.accLo i),Value.int .u8 (Lib.accHi i)]).toArray)
   5 vg.toArray)
   6 XO.toArray }
theorem FM(os:Os)(args:Array Value):laidMetH prog laidAll ((laidWorld os).forCall (λ_ _=>0) ⟨#[],args,[]⟩).memory:=
 laidMetH_of_parts3 (fuel:=8) (LaidIn.of_run (l:=eX) [0,2,3,5,low] 8 (by kernel_rfl) (by kernel_rfl) (by kernel_rfl) (by kernel_rfl)).met (by kernel_rfl) (by kernel_rfl)
theorem laidOut:laidOutB prog=true:=by kernel_rfl
theorem Ra{H:Type}{enc:TypeId×Value->H}{P:Program}(s:laidOutB P=true){W j:World}(r:Below W.heap.size W j) :
  ∀(ts:List TypeId) (e:List Value) (c:List (DataW H)) (a:List MemPlace),(∀t ∈ ts,P.readableRec t=true/\t<P.types.size)->DataW.TrodAll enc P W 0 (λ_=>true) true ts e c a->(∀x ∈ a,x.block<W.heap.size) ->
   DataW.TrodAll enc P j 0 (λb=>decide (b<W.heap.size)) true ts e c a:=by
 intro ts
 induction ts with
 | nil=>
  intro e c a _ h _;obtain⟨rfl,rfl,rfl⟩:=trodAll_nil h;exact trodAll_mk0
 | cons t ts w=>
  intro e c a l h k;obtain⟨v,i,d,f,p,q,rfl,rfl,rfl,n,o⟩:=trodAll_cons h;have m:=l t (List.mem_cons_self ..);exact trodAll_cons_mk (Below.trod s m.1 m.2 n r (λx g=>k x (List.mem_append_left _ g))) (w i f q (λt u=>l t (List.mem_cons_of_mem _ u)) o (λx g=>k x (List.mem_append_right _ g)))
end Go.Proofs.YtdakgnaojakldabGreatDoor.laws
