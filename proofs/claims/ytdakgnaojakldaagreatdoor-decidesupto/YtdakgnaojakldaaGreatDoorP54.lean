/- Decides: for every script of steps whose size is at most 1048576: its steps that make offices, put and drop documents and decide requests answer in the program as in the reference, and the marks that were handed in are as they were; the library's tables and variables, the program's error of length, its table of sequences and its table of operations start as the text lays them. -/
import Derived.Test.YtdakgnaojakldaaGreatDoorCards
import Derived.Test.YtdakgnaojakldaaGreatDoorTie
import Derived.Test.YtdakgnaojakldaaGreatDoorP53
import Derived.SizedLaws
open Go.Proofs.Tryz
set_option maxRecDepth 100000
namespace Go.Proofs.YtdakgnaojakldaaGreatDoor.decides
open Go.ChangeShapes Go.WideShapes Go.ChangeAt Go.RowKit Go.Joins Go.Deep
open Go.ChangeMaps (open_string shut_string)
theorem contract(H:Type)(enc:TypeId×Value->H)(W:World)(base:Nat)(args:Array Value)(k w:List (DataW H))(before:List MemPlace)
  (c:∀(j:Nat) t v,Tryz.f6.params[j]?=some t->args[j]?=some v->Value.okWide prog W .any base t v)
  (y:DataW.Whole enc prog Tryz.f6.params.toList Rows.decidesSpec.vars false W args.toList k w before)
  (F:Rows.uptoSmall H (k++w)=true)(s:Addr)(C:Qu W s) :
  Calls prog 6 args W λe W'=>∃v,e = .returned v/\Rows.decidesSpec.post enc prog Tryz.f6 false true false false W args v W':=by
 have f:=y;obtain⟨p,q,n,D,rfl,E,J⟩:=y;have m:DataW.TrodAll enc prog W 0 (λ_=>true) true Tryz.f6.params.toList args.toList k p:=n;have r:∀x ∈ p,x.block<W.heap.size:=λx K=>by simpa using f.lt x (Kc _ K)
 obtain⟨rfl,rfl⟩:=trodVars_none D
 have d:∀W',Below W.heap.size W W'->DataW.TrodAll enc prog W' 0 (λb=>decide (b<W.heap.size)) true Tryz.f6.params.toList args.toList k p:=λW' hb=>
  laws.zcH laws.laidOut hb _ _ _ _ (by rw[params6];decide +kernel) m r
 rw[params6] at m c;obtain⟨B,u,rfl,rfl,l⟩:=trodAll_one m
 have i:∀(e:Ending) (W':World),e = .returned (.bool true)/\Below W.heap.size W W' ->
   ∃v,e = .returned v/\Rows.decidesSpec.post enc prog Tryz.f6 false true false false W #[B] v W':=by
  rintro e W' ⟨rfl,hb⟩;refine⟨_,rfl,[u],[],_,[],p,[],f,trodAll_mk1 (shut_bool underlying4 true),?_,rfl,hb.frame _,λh=>by cases h⟩;exact d W' hb
 obtain⟨a,len,cap,rfl⟩:=okWide_slice underlying28 (c 0 28 B rfl rfl);obtain⟨fuel,l⟩:=l;obtain⟨ops,I,G,z⟩:=We (v := .slice a len cap) l (λ_=>rfl);have g:Rows.uptoBulkAll ([u]++[])<=1048576:=of_decide_eq_true F;simp only[List.append_nil,Rows.uptoBulkAll] at g;simp only at I;exact (IE W s C _ ops G (λo A=>⟨(z o A).1,(z o A).2.more (by simp only;omega)⟩) (by omega)).mono i
theorem lifted(os:Os)(started:os.Started)(H:Type)(enc:TypeId×Value->H)(F:Stop.Interp) :
  ReturnsInHanded {} Tryz.checked os 6 .any ((Rows.OpenSpec.upto Rows.decidesSpec).preRow enc prog Tryz.f6 Rows.decidesUptoRow.domain false Rows.decidesUptoRow.laid) (((Rows.OpenSpec.upto Rows.decidesSpec).at F).post enc prog Tryz.f6 false true false false):=by
 obtain⟨c,m⟩:=reads os enc
 refine returnsInHanded_of_row (C:=Tryz.checked) (s:=Rows.OpenSpec.upto Rows.decidesSpec) laws.own started zc2 func6
  (witness_row_atRef (enc:=enc) (C:=Tryz.checked) false (laws.laidWorld os) Q9 rfl (zc6 os) (zc4 os) (zc3 os)
    (OpenSpec.preRow_of_cond 8 m (by kernel_rfl) (λk l=>by cases l;kernel_rfl) (zc5 os enc) (laws.Rw os _))) ?_
 intro W base args f g before b j _ a _ i d _;obtain⟨e,h⟩:=laws.Ma i d;exact contract H enc W base args f g before b j (a _ rfl) e h
theorem Py:joinedFacts prog 6 Tryz.f6 (Rows.OpenSpec.upto Rows.decidesSpec).bare Rows.decidesUptoRow=true:=by
 unfold joinedFacts;exact laws.xK (laws.xK (laws.xK (laws.xK (laws.xK (laws.xK (laws.xK (laws.xK (laws.xK (laws.xK (laws.xK (laws.xK (laws.xK (laws.xK (laws.xK (laws.xK (laws.xK (laws.xK (laws.xK (laws.xK (laws.xK (laws.xK (laws.xK (laws.xK (laws.xK (laws.xK (laws.xK (laws.xK (laws.xK (laws.xK (laws.xK (Ro) laws.PH) laws.PQ) PW) PS) Rb) laws.Rc) Re) laws.Rf) PD) Rj) Ra) Rn) PI) PK) PL) PM) PN) Rk) PX) PY) PZ) PV) Ri) laws.Rh) laws.PO) PG) PP) PE) PU) Rl) Rm
theorem said:Rows.DecidesUptoSaid:=
 OpenClaim.holds_of_cond 6 Tryz.f6 rfl rfl rfl rfl rfl rfl rfl ⟨rfl,rfl,rfl,rfl,rfl⟩ rfl rfl rfl rfl rfl PR func6 Py Pz Rp
  (λos started H enc _ F=>by rw[OpenClaim.pre_eq_preRow];exact lifted os started H enc F)
theorem plain (f:FuncId) (a:Func) (e:Tryz.pinned.checked.prog.funcNamed "warrant/warrantlaw.Decides" = some f) (b:Tryz.pinned.checked.prog.funcs[f]?=some a) :
  true=Tryz.pinned.checked.prog.looks []/\∀(j:Nat) t,a.params[j]?=some t->Tryz.pinned.checked.prog.wantsStandIn t=false:=by
 obtain rfl:f=6:=Option.some.inj ((show prog.funcNamed "warrant/warrantlaw.Decides" = some 6 by kernel_rfl).symm.trans e) |>.symm
 obtain rfl:a=Tryz.f6:=(Option.some.inj (func6.symm.trans b)).symm;refine⟨by kernel_rfl,λj t d=>?_⟩;rw[params6] at d;have c:=Array.mem_of_getElem? d;simp at c;subst c;exact (show prog.wantsStandIn 28=false by kernel_rfl)
theorem card:Rows.DecidesUptoCardSaid:=
 Claim7.holds_tied_plain_at .later [] _ _ _ _ said (λ_ h=>by cases h) (by kernel_rfl) (λ_ h=>by cases h) decidesUpto_row_tie rfl ⟨rfl,rfl⟩ (by kernel_rfl) rfl plain (by kernel_rfl)
end Go.Proofs.YtdakgnaojakldaaGreatDoor.decides
namespace Go.Proofs.YtdakgnaojakldaaGreatDoor
theorem decides_upto_holds:Rows.DecidesUptoCardSaid:=decides.card
end Go.Proofs.YtdakgnaojakldaaGreatDoor
