/- P -/
import Derived.Test.YtdakgnaojakldaaGreatDoorRows
import Derived.Test.YtdakgnaojakldaaGreatDoorP23
import Derived.ProofKit
import Derived.OpenShut
import Derived.JoinedCond
import Derived.Lib.SmallJoins
import Derived.Deep.SlicePairs
import Derived.Deep.DeepHandedRow
import Derived.Deep.DeepWitnessRowRef
import Derived.Lib.LaidIn
import Derived.Lib.LaidU8T
import Derived.Stop.LaidErr
import Derived.LaidHandle
import Derived.LaidMore
import Derived.Shelf.Vars
set_option maxRecDepth 100000
namespace Go.Proofs.YtdakgnaojakldaaGreatDoor.laws
open Go.ChangeShapes Go.WideShapes Go.ChangeAt Go.RowKit Go.Joins Go.Deep
section
variable {H:Type} {enc:TypeId×Value→H} {P:Program} {w:World} {base:Nat} {sp:Nat→Bool} {held:Bool}
theorem YF {fuel:Nat} {t:TypeId} {fs:Array Field} {cs:List Value} {ds:List (DataW H)} {p:List MemPlace} (ht:P.underlying t=some (.struct fs))
  (hf:∀(i:Nat) (f:Field),fs[i]?=some f→f.offset=i∧P.cellsOf f.type=1) (hct:P.cellsOf t=fs.size) (h:DataW.trod enc P w base sp held fuel t cs=some (.agg ds,p)) :
  cs.length=fs.size∧∀(i:Nat) (f:Field),fs[i]?=some f→∃v d q n,cs[i]?=some v∧ds[i]?=some d∧DataW.trod enc P w base sp held n f.type [v]=some (d,q):=by
 obtain ⟨xs,n,rfl,hx,hl,hxl,hall⟩:=DataW.trod_struct ht h
 have hds:ds=xs.map (·.1):=by
  have:=congrArg Prod.fst hx
  simpa using this
 rw [hct] at hl
 refine ⟨hl,fun i f hi=>?_⟩
 have hlt:i<fs.size:=(Array.getElem?_eq_some_iff.1 hi).1
 obtain ⟨ho,hc⟩:=hf i f hi
 have h1:=hall i f hi
 rw [ho,hc,List.getElem?_eq_getElem (by omega)] at h1
 have hcut:(cs.drop i).take 1=[cs[i]'(by omega)]:=by
  rw [List.drop_eq_getElem_cons (by omega)];rfl
 rw [hcut] at h1
 exact ⟨cs[i]'(by omega),(xs[i]'(by omega)).1,(xs[i]'(by omega)).2,n,List.getElem?_eq_getElem (by omega),by rw [hds];simp [List.getElem?_eq_getElem (show i<xs.length by omega)],h1⟩
theorem zb1 {α:Type} (c:Nat):∀(n:Nat) (row:Nat→List α) (cs:List α),cs.length=n*c→(∀i,i<n→(cs.drop (i*c)).take c=row i)→cs=(List.range n).flatMap row
 | 0,_,cs,hl,_=>by
  have:cs=[]:=List.length_eq_zero_iff.1 (by simpa using hl)
  simp [this]
 | n+1,row,cs,hl,h=>by
  have hl2:cs.length=n*c+c:=by rw [hl,Nat.succ_mul]
  have e1:cs.take (n*c)=(List.range n).flatMap row:=by
   refine zb1 c n row _ (by rw [List.length_take];omega) (fun i hi=>?_)
   have hle:i*c+c≤n*c:=by rw [← Nat.succ_mul];exact Nat.mul_le_mul_right c hi
   rw [← h i (by omega),List.drop_take,List.take_take]
   congr 1
   omega
  have e2:cs.drop (n*c)=row n:=by
   rw [← h n (by omega)]
   exact (List.take_of_length_le (by rw [List.length_drop];omega)).symm
  rw [List.range_succ,List.flatMap_append,← e1]
  have e3:[n].flatMap row=cs.drop (n*c):=by rw [e2];simp
  rw [e3,List.take_append_drop]
theorem Un {fuel:Nat} {t e:TypeId} {n c:Nat} {cs:List Value} {ds:List (DataW H)} {p:List MemPlace} (ht:P.underlying t=some (.array n e)) (hc:P.cellsOf e=c) (hct:P.cellsOf t=n*c)
  (h:DataW.trod enc P w base sp held fuel t cs=some (.agg ds,p)) (row:Nat→List Value)
  (hr:∀(i:Nat) (d:DataW H) (xs:List Value) (fuel':Nat) (q:List MemPlace),i<n→ds[i]?=some d→DataW.trod enc P w base sp held fuel' e xs=some (d,q)→xs=row i):cs=(List.range n).flatMap row:=by
 have hlen:cs.length=n*c:=by
  cases fuel with
  | zero=>simp [DataW.trod] at h
  | succ fuel=>
   simp only [DataW.trod,ht] at h
   split at h
   ·rename_i hl;rw [hl,hct]
   ·cases h
 refine zb1 c n row cs hlen (fun i hi=>?_)
 obtain ⟨fuel',d,q,hd,he⟩:=Lib.array_elem ht h i hi
 rw [hc] at he
 exact hr i d _ fuel' q hi hd he
theorem zgk {fuel:Nat} {t:TypeId} {fs:Array Field} {cs:List Value} {kz:List (IntKind×Int)} {p:List MemPlace} (ht:P.underlying t=some (.struct fs))
  (hf:∀(i:Nat) (f:Field),fs[i]?=some f→f.offset=i∧P.cellsOf f.type=1) (hk:∀(i:Nat) (f:Field),fs[i]?=some f→∃k z,kz[i]?=some (k,z)∧P.underlying f.type=some (.int k)) (hct:P.cellsOf t=fs.size) (hkl:kz.length=fs.size)
  (h:DataW.trod enc P w base sp held fuel t cs=some (.agg (kz.map fun x => .lit (.int x.1 x.2)),p)):cs=kz.map fun x=>Value.int x.1 x.2:=by
 obtain ⟨hl,hall⟩:=YF ht hf hct h
 apply List.ext_getElem?
 intro i
 by_cases hi:i<fs.size
 ·obtain ⟨v,d,q,n,hv,hd,ht2⟩:=hall i fs[i] (by simp [hi])
  obtain ⟨k,z,hkz,hu⟩:=hk i fs[i] (by simp [hi])
  obtain ⟨z',hcz,hx,_⟩:=DataW.trod_int hu ht2
  have hvz:v = .int k z':=by simpa using hcz
  have hdz:d = .lit (.int k z'):=by
   have:=congrArg Prod.fst hx
   simpa using this
  rw [List.getElem?_map,hkz] at hd
  simp only [Option.map_some,Option.some.injEq] at hd
  rw [hdz] at hd
  injection hd with hd
  injection hd with _ hd
  rw [hv,List.getElem?_map,hkz,hvz,← hd]
  rfl
 ·rw [List.getElem?_eq_none (by omega),List.getElem?_eq_none (by simp;omega)]
end
theorem zbg {P:Program} {w:World} {n:String} {g:Nat} {cs:Array Value} (hg:P.globalNamed n=some g) (h:w.var? P n=some cs):∃t fr,w.heap[g]?=some (.cells cs t fr):=by
 unfold World.var? at h
 rw [hg] at h
 simp only [Option.bind_some] at h
 split at h
 ·rename_i cs' t fr e
  injection h with h
  subst h
  exact ⟨t,fr,e⟩
 ·cases h
def zeI:Nat→List (IntKind×Int)
 | 0=>[(.u8,194),(.u8,223),(.i64,1),(.u8,128),(.u8,191)]
 | 1=>[(.u8,224),(.u8,224),(.i64,2),(.u8,160),(.u8,191)]
 | 2=>[(.u8,225),(.u8,236),(.i64,2),(.u8,128),(.u8,191)]
 | 3=>[(.u8,237),(.u8,237),(.i64,2),(.u8,128),(.u8,159)]
 | 4=>[(.u8,238),(.u8,239),(.i64,2),(.u8,128),(.u8,191)]
 | 5=>[(.u8,240),(.u8,240),(.i64,3),(.u8,144),(.u8,191)]
 | 6=>[(.u8,241),(.u8,243),(.i64,3),(.u8,128),(.u8,191)]
 | _=>[(.u8,244),(.u8,244),(.i64,3),(.u8,128),(.u8,143)]
def zlL:DataW Unit := .agg ((List.range 8).map fun i => .agg ((zeI i).map fun x => .lit (.int x.1 x.2)))
theorem zmU:(Rows.laid_warrant_texts_sequences:DataW Unit)=zlL:=by kernel_rfl
theorem zmV:Tryz.prog.globalNamed "warrant/texts.sequences" = some 5:=by kernel_rfl
theorem zno:(Tryz.prog.globals[(5:Nat)]?).map (·.type)=some 400:=by kernel_rfl
theorem zm1:Tryz.prog.cellsOf 400=8*5:=by kernel_rfl
theorem zmb:Tryz.prog.cellsOf 399=5:=by kernel_rfl
theorem zbd {W:World} (h:Lib.VarReads Tryz.prog W "warrant/texts.sequences" Rows.laid_warrant_texts_sequences):qo W:=by
 obtain ⟨g,t,cs,fuel,p,hg,hty,hvar,hd⟩:=h
 obtain rfl:=Option.some.inj (zmV.symm.trans hg)
 obtain rfl:=Option.some.inj (zno.symm.trans hty)
 rw [zmU] at hd
 have hcs:cs.toList=(List.range 8).flatMap fun i=>(zeI i).map fun x=>Value.int x.1 x.2:=by
  refine Un Tryz.underlying400 zmb zm1 hd _ (fun i d xs fuel' q hi hdi he=>?_)
  rw [List.getElem?_map,List.getElem?_range hi] at hdi
  simp only [Option.map_some,Option.some.injEq] at hdi
  subst hdi
  have hk:∀i,(zeI i).map Prod.fst=[.u8, .u8, .i64, .u8, .u8]:=by
   intro i
   unfold zeI
   split<;>rfl
  refine zgk Tryz.underlying399 ?_ ?_ (by rw [zmb];rfl) (by have:=congrArg List.length (hk i);simpa using this) he
  ·intro j f hj
   match j,hj with
   | 0,hj=>simp at hj;subst hj;exact ⟨rfl,by kernel_rfl⟩
   | 1,hj=>simp at hj;subst hj;exact ⟨rfl,by kernel_rfl⟩
   | 2,hj=>simp at hj;subst hj;exact ⟨rfl,by kernel_rfl⟩
   | 3,hj=>simp at hj;subst hj;exact ⟨rfl,by kernel_rfl⟩
   | 4,hj=>simp at hj;subst hj;exact ⟨rfl,by kernel_rfl⟩
   | j+5,hj=>simp at hj
  ·intro j f hj
   have hkj:=congrArg (fun l=>l[j]?) (hk i)
   simp only [List.getElem?_map] at hkj
   match j,hj,hkj with
   | 0,hj,hkj=>
    obtain ⟨⟨k,z⟩,hz,rfl⟩:=Option.map_eq_some_iff.1 hkj
    simp at hj;subst hj;exact ⟨_,z,hz,by kernel_rfl⟩
   | 1,hj,hkj=>
    obtain ⟨⟨k,z⟩,hz,rfl⟩:=Option.map_eq_some_iff.1 hkj
    simp at hj;subst hj;exact ⟨_,z,hz,by kernel_rfl⟩
   | 2,hj,hkj=>
    obtain ⟨⟨k,z⟩,hz,rfl⟩:=Option.map_eq_some_iff.1 hkj
    simp at hj;subst hj;exact ⟨_,z,hz,by kernel_rfl⟩
   | 3,hj,hkj=>
    obtain ⟨⟨k,z⟩,hz,rfl⟩:=Option.map_eq_some_iff.1 hkj
    simp at hj;subst hj;exact ⟨_,z,hz,by kernel_rfl⟩
   | 4,hj,hkj=>
    obtain ⟨⟨k,z⟩,hz,rfl⟩:=Option.map_eq_some_iff.1 hkj
    simp at hj;subst hj;exact ⟨_,z,hz,by kernel_rfl⟩
   | j+5,hj,_=>simp at hj
 obtain ⟨t,fr,hb⟩:=zbg zmV hvar
 refine ⟨t,fr,?_⟩
 have e:cs=yj.toArray:=by
  rw [← Array.toList_inj,hcs]
  rfl
 rw [← e]
 exact hb
theorem Xh {W:World} {fuel:Nat} {xs:List Value} {q:List MemPlace} (nm:ByteArray) {b1 b2:UInt8} {r1 r2:List UInt8} {f1 f2:FuncId}
  (h1:((List.range Tryz.prog.funcs.size).filter fun f=>(Tryz.prog.funcs[f]?).any (·.name.toUTF8.data.toList==b1::r1))=[f1])
  (h2:((List.range Tryz.prog.funcs.size).filter fun f=>(Tryz.prog.funcs[f]?).any (·.name.toUTF8.data.toList==b2::r2))=[f2])
  (h:DataW.trod (funcToken Tryz.prog) Tryz.prog W 0 (fun _=>true) true fuel 342 xs=some (.agg [.lit (.string nm.data.toList), .held (b1::r1), .held (b2::r2)],q)) :
  xs=[.string nm, .func (.func f1) #[] #[], .func (.func f2) #[] #[]]:=by
 obtain ⟨hl,hall⟩:=YF Tryz.underlying342 (fun j f hj=>by
  match j,hj with
  | 0,hj=>simp at hj;subst hj;exact ⟨rfl,by kernel_rfl⟩
  | 1,hj=>simp at hj;subst hj;exact ⟨rfl,by kernel_rfl⟩
  | 2,hj=>simp at hj;subst hj;exact ⟨rfl,by kernel_rfl⟩
  | j+3,hj=>simp at hj) (by kernel_rfl) h
 obtain ⟨v0,d0,q0,n0,hv0,hd0,ht0⟩:=hall 0 _ rfl
 obtain ⟨v1,d1,q1,n1,hv1,hd1,ht1⟩:=hall 1 _ rfl
 obtain ⟨v2,d2,q2,n2,hv2,hd2,ht2⟩:=hall 2 _ rfl
 simp only [List.getElem?_cons_zero,List.getElem?_cons_succ,Option.some.injEq] at hd0 hd1 hd2
 subst hd0
 subst hd1
 subst hd2
 obtain ⟨s,hs,hx,_⟩:=DataW.trod_string Tryz.underlying9 ht0
 have e1:=func_of_trod Tryz.underlying339 h1 ht1
 have e2:=func_of_trod Tryz.underlying340 h2 ht2
 have hv:v0 = .string s:=by simpa using hs
 have hsn:s=nm:=by
  have:=congrArg Prod.fst hx
  simp only [DataW.lit.injEq,Lit.string.injEq] at this
  exact ByteArray.ext (Array.toList_inj.1 this.symm)
 have hl3:xs.length=3:=hl
 match xs,hl3 with
 | [x0,x1,x2],_=>
  simp only [List.getElem?_cons_zero,List.getElem?_cons_succ,Option.some.injEq] at hv0 hv1 hv2
  rw [hv0,hv1,hv2,hv,hsn,e1,e2]
def zmR:Nat→List UInt8
 | 0=>[119,97,114,114,97,110,116,47,100,111,99,117,109,101,110,116,115,46,108,105,107,101,86,97,108,117,101,115]
 | 1=>[119,97,114,114,97,110,116,47,100,111,99,117,109,101,110,116,115,46,115,97,109,101,86,97,108,117,101,115]
 | 2=>[119,97,114,114,97,110,116,47,100,111,99,117,109,101,110,116,115,46,98,101,108,111,119,86,97,108,117,101,115]
 | 3=>[119,97,114,114,97,110,116,47,100,111,99,117,109,101,110,116,115,46,117,110,100,101,114,86,97,108,117,101,115]
 | _=>[119,97,114,114,97,110,116,47,100,111,99,117,109,101,110,116,115,46,97,98,115,101,110,116,86,97,108,117,101,115]
def zmS:Nat→List UInt8
 | 0=>[119,97,114,114,97,110,116,47,100,111,99,117,109,101,110,116,115,46,105,115,76,105,107,101]
 | 1=>[119,97,114,114,97,110,116,47,100,111,99,117,109,101,110,116,115,46,105,115,83,97,109,101]
 | 2=>[119,97,114,114,97,110,116,47,100,111,99,117,109,101,110,116,115,46,105,115,66,101,108,111,119]
 | 3=>[119,97,114,114,97,110,116,47,100,111,99,117,109,101,110,116,115,46,105,115,85,110,100,101,114]
 | _=>[119,97,114,114,97,110,116,47,100,111,99,117,109,101,110,116,115,46,105,115,65,98,115,101,110,116]
def zkG:DataW (List UInt8) := .agg ((List.range 5).map fun i => .agg [.lit (.string (opN i).data.toList), .held (zmR i), .held (zmS i)])
theorem znu:∃d,(Rows.laid_warrant_documents_operations:DataW Unit) = .iface "func table" d∧d.funcsOut=zkG:=⟨_,rfl,by kernel_rfl⟩
theorem zmW:Tryz.prog.globalNamed "warrant/documents.operations" = some 6:=by kernel_rfl
theorem znm:(Tryz.prog.globals[(6:Nat)]?).map (·.type)=some 402:=by kernel_rfl
theorem znz:Tryz.prog.cellsOf 402=5*3:=by kernel_rfl
theorem zmP:Tryz.prog.cellsOf 342=3:=by kernel_rfl
def zmO (i:Nat):List Value:=[.string (opN i), .func (.func (opL i)) #[] #[], .func (.func (opT i)) #[] #[]]
theorem zaH {W:World} {d:DataW Unit} (hd0:d.funcsOut=zkG) (h:funcsAt Tryz.prog W "warrant/documents.operations" d):VI W:=by
 obtain ⟨g,t,cs,fuel,p,hg,hty,hvar,hd⟩:=h
 obtain rfl:=Option.some.inj (zmW.symm.trans hg)
 obtain rfl:=Option.some.inj (znm.symm.trans hty)
 rw [hd0] at hd
 have hcs:cs.toList=(List.range 5).flatMap zmO:=by
  refine Un Tryz.underlying402 zmP znz hd _ (fun i d xs fuel' q hi hdi he=>?_)
  rw [List.getElem?_map,List.getElem?_range hi] at hdi
  simp only [Option.map_some,Option.some.injEq] at hdi
  subst hdi
  rcases lt5 hi with rfl|rfl|rfl|rfl|rfl
  ·exact Xh (opN 0) (f1:=opL 0) (f2:=opT 0) (by kernel_rfl) (by kernel_rfl) he
  ·exact Xh (opN 1) (f1:=opL 1) (f2:=opT 1) (by kernel_rfl) (by kernel_rfl) he
  ·exact Xh (opN 2) (f1:=opL 2) (f2:=opT 2) (by kernel_rfl) (by kernel_rfl) he
  ·exact Xh (opN 3) (f1:=opL 3) (f2:=opT 3) (by kernel_rfl) (by kernel_rfl) he
  ·exact Xh (opN 4) (f1:=opL 4) (f2:=opT 4) (by kernel_rfl) (by kernel_rfl) he
 obtain ⟨t,fr,hb⟩:=zbg zmW hvar
 refine ⟨t,fr,?_⟩
 have e:cs=Ya.toArray:=by
  rw [← Array.toList_inj,hcs]
  rfl
 rw [← e]
 exact hb
theorem own:ownKnob Tryz.prog.godebug=none:=by kernel_rfl
theorem zmu:Tryz.prog.globalNamed "warrant/texts.ErrLong" = some 0:=by kernel_rfl
theorem zm2:Tryz.prog.globalNamed "errors.errorType" = some 1:=by kernel_rfl
theorem zmQ:(Tryz.prog.cutTypes.find? (·.1 == "internal/reflectlite.rtype")).map (·.2)=some 283:=by kernel_rfl
theorem zmq:Tryz.prog.types.size=458:=by kernel_rfl
theorem oneRow:((List.range 458).filter fun t=>Tryz.prog.rowNamed t [101,114,114,111,114])=[74]:=by kernel_rfl
theorem handle:typeHandle Tryz.prog 74 = .pointer (some ⟨7,74,none⟩):=by kernel_rfl
theorem zle:Rows.laid_unicode_utf8_first=Lib.firstData:=by kernel_rfl
theorem zjO:(Rows.laid_unicode_utf8_acceptRanges:DataW Unit)=Lib.acceptData:=by kernel_rfl
theorem zd4 : "*" ++ "errors.errorString" = "*errors.errorString":=by decide
theorem zld (u:TypeId) (h:Tryz.prog.typeName? 3 u=some "*errors.errorString"):u=418:=
 typeName_ptr_named (nm := "errors.errorString") (by rw [zd4];kernel_rfl) (by kernel_rfl) (by decide) u (by rw [zd4];exact h)
theorem zmC {W:World} (h:W.ShapedOpen Tryz.prog):KG W:=
 Go.Proofs.cell_of_shapedOpen_int (zero:=#[.int .i64 0]) (t:=3) h (of_decide_eq_true (by kernel_rfl)) (by kernel_rfl) rfl (by kernel_rfl) (by kernel_rfl) Tryz.underlying3
def laidAll:List (String×DataW Unit):=[("unicode/utf8.acceptRanges",Rows.laid_unicode_utf8_acceptRanges),("errors.errorType",Rows.laid_errors_errorType),("warrant/texts.ErrLong",Rows.laid_warrant_texts_ErrLong),("warrant/texts.sequences",Rows.laid_warrant_texts_sequences),("warrant/documents.operations",Rows.laid_warrant_documents_operations),("unicode/utf8.first",Rows.laid_unicode_utf8_first)]
def zbq:List (String×DataW Unit):=[("unicode/utf8.acceptRanges",Rows.laid_unicode_utf8_acceptRanges),("warrant/texts.ErrLong",Rows.laid_warrant_texts_ErrLong),("warrant/texts.sequences",Rows.laid_warrant_texts_sequences),("unicode/utf8.first",Rows.laid_unicode_utf8_first)]
theorem zcS {W:World} (h:laidMetH Tryz.prog laidAll W) (hs:W.ShapedOpen Tryz.prog):∃aL,ziV W aL:=by
 have h':laidMet Tryz.prog zbq W∧handlesMet Tryz.prog [("errors.errorType",Rows.laid_errors_errorType),("warrant/documents.operations",Rows.laid_warrant_documents_operations)] W:=h
 obtain ⟨hp,hh⟩:=h'
 have htabs:Y3 W:=by
  have r1:Lib.VarReads Tryz.prog W "unicode/utf8.first" Lib.firstData:=by rw [← zle];exact Lib.laidMet.reads hp (.tail _ (.tail _ (.tail _ (.head _))))
  have r2:Lib.VarReads Tryz.prog W "unicode/utf8.acceptRanges" Lib.acceptData:=by rw [← zjO];exact Lib.laidMet.reads hp (.head _)
  exact utf8Tabs_of_readsT (U8Types.of196 Tryz.lays196) ⟨by kernel_rfl,by kernel_rfl,by kernel_rfl,by kernel_rfl,by kernel_rfl,by kernel_rfl,by kernel_rfl⟩ r1 r2
 have herr:jq W:=by
  obtain ⟨name,u,ty,e1,e2,e3,e4,e5⟩:=hh _ (.head _)
  have en:name=[101,114,114,111,114]:=(Option.some.inj e1).symm
  subst en
  obtain rfl:=Option.some.inj (zmQ.symm.trans e2)
  have hm:ty ∈ (List.range 458).filter fun t=>Tryz.prog.rowNamed t [101,114,114,111,114]:=List.mem_filter.2 ⟨List.mem_range.2 (by rw [← zmq];exact e3),e4⟩
  rw [oneRow] at hm
  obtain rfl:=List.mem_singleton.1 hm
  rw [handle] at e5
  show W.cell? _=_
  simpa using World.var?_cell zm2 e5 0
 have hops:VI W:=by
  obtain ⟨d,hd,hout⟩:=znu
  exact zaH hout (h.funcs (n := "warrant/documents.operations") (d:=d) (by rw [← hd];exact .tail _ (.tail _ (.tail _ (.tail _ (.head _))))))
 have hseq:qo W:=zbd (Lib.laidMet.reads hp (.tail _ (.tail _ (.head _))))
 obtain ⟨a,s,hv,_⟩:=laid_sentinel (tp:=418) (te:=437) (ts:=9) (laidMet.tail hp) zmu (by kernel_rfl) Tryz.underlying74 zld Tryz.underlying418 Tryz.underlying437 rfl rfl Tryz.underlying9 (by kernel_rfl) (by kernel_rfl)
 exact ⟨a,⟨⟨⟨⟨htabs,zmC hs,herr⟩,hops⟩,hseq,by simpa using World.var?_cell zmu hv 0⟩⟩⟩
noncomputable def low:Nat:=(World.holding Tryz.prog default ⟨#[],#[],[]⟩).heap.size
noncomputable def put (h:Array Obj) (g:Nat) (cs:Array Value):Array Obj:=h.modify g fun
 | .cells _ t frozen => .cells cs t frozen
 | o=>o
noncomputable def laidWorld (os:Os):World:=
 { World.holding Tryz.prog os ⟨#[.cells #[.string ⟨#[116,104,101,32,116,101,120,116,32,105,115,32,116,111,111,32,108,111,110,103]⟩] 437],#[],[]⟩ with
  heap:=put (put (put (put (put (put (World.holding Tryz.prog os ⟨#[.cells #[.string ⟨#[116,104,101,32,116,101,120,116,32,105,115,32,116,111,111,32,108,111,110,103]⟩] 437],#[],[]⟩).heap
   0 #[.iface 418 (.pointer (some ⟨low,0,none⟩))])
   1 #[.iface 283 (.agg #[.pointer (some ⟨7,74,none⟩)])])
   2 (Lib.firstTab.map fun z=>Value.int .u8 z).toArray)
   3 ((List.range 16).flatMap fun i=>[Value.int .u8 (Lib.accLo i),Value.int .u8 (Lib.accHi i)]).toArray)
   5 yj.toArray)
   6 Ya.toArray }
theorem laid_met (os:Os) (args:Array Value):laidMetH Tryz.prog laidAll ((laidWorld os).forCall (fun _ _=>0) ⟨#[],args,[]⟩).memory:=
 laidMetH_of_parts3 (fuel:=8) (LaidIn.of_run (l:=zbq) [0,2,3,5,low] 8 (by kernel_rfl) (by kernel_rfl) (by kernel_rfl) (by kernel_rfl)).met (by kernel_rfl) (by kernel_rfl)
theorem laidOut:laidOutB Tryz.prog=true:=by kernel_rfl
theorem KU {H:Type} {enc:TypeId×Value→H} {P:Program} (hl:laidOutB P=true) {W W':World} (hb:Below W.heap.size W W') :
  ∀(ts:List TypeId) (vs:List Value) (ds:List (DataW H)) (ps:List MemPlace),(∀t ∈ ts,P.readableRec t=true∧t<P.types.size)→DataW.TrodAll enc P W 0 (fun _=>true) true ts vs ds ps→(∀x ∈ ps,x.block<W.heap.size) →
   DataW.TrodAll enc P W' 0 (fun b=>decide (b<W.heap.size)) true ts vs ds ps:=by
 intro ts
 induction ts with
 | nil=>
  intro vs ds ps _ h _
  obtain ⟨rfl,rfl,rfl⟩:=trodAll_nil h
  exact trodAll_mk0
 | cons t ts ih=>
  intro vs ds ps hr h hp
  obtain ⟨v,vs',d,ds',p,q,rfl,rfl,rfl,h1,h2⟩:=trodAll_cons h
  have r1:=hr t (List.mem_cons_self ..)
  exact trodAll_cons_mk (Below.trod hl r1.1 r1.2 h1 hb (fun x hx=>hp x (List.mem_append_left _ hx))) (ih vs' ds' q (fun t ht=>hr t (List.mem_cons_of_mem _ ht)) h2 (fun x hx=>hp x (List.mem_append_right _ hx)))
end Go.Proofs.YtdakgnaojakldaaGreatDoor.laws
