/- Prints: for every text the program's Print answers the plain form, byte by byte, and the error that the reference answers; the library's tables and variables, the program's error of length, its table of sequences and its table of operations start as the text lays them. -/
import Derived.Test.YtdakgnaojakldaaGreatDoorCards
import Derived.Test.YtdakgnaojakldaaGreatDoorTie
import Derived.Test.YtdakgnaojakldaaGreatDoorPrF
import Derived.Test.YtdakgnaojakldaaGreatDoorJxI
import Derived.Test.YtdakgnaojakldaaGreatDoorPrG
import Derived.Test.YtdakgnaojakldaaGreatDoorCkH
import Derived.SizedLaws
namespace Go.Proofs.YtdakgnaojakldaaGreatDoor.prints
open Go.ChangeShapes Go.WideShapes Go.ChangeAt Go.RowKit Go.Joins Go.Deep
open Go.ChangeMaps (open_string shut_string)

set_option maxRecDepth 100000 in
theorem contract (H : Type) (enc : TypeId × Value → H) (W : World) (base : Nat) (args : Array Value) (ds gs : List (DataW H)) (before : List MemPlace)
    (hval : ∀ (j : Nat) t v, Tryz.f4.params[j]? = some t → args[j]? = some v → Value.okWide Tryz.prog W .any base t v)
    (hW : DataW.Whole enc Tryz.prog Tryz.f4.params.toList Rows.printsSpec.vars false W args.toList ds gs before)
    (aL : Addr) (hE : CEnv W aL) :
    Calls Tryz.prog 4 args W fun e W' => ∃ v, e = .returned v ∧ Rows.printsSpec.post enc Tryz.prog Tryz.f4 false true false false W args v W' := by
  have hW' := hW
  obtain ⟨p, q, hA0, hV, rfl, hfz, hnd⟩ := hW
  have hA : DataW.TrodAll enc Tryz.prog W 0 (fun _ => true) true Tryz.f4.params.toList args.toList ds p := hA0
  have hlt : ∀ x ∈ p, x.block < W.heap.size := fun x hx => by simpa using hW'.lt x (List.mem_append_left _ hx)
  obtain ⟨rfl, rfl⟩ := trodVars_none hV
  have hkeep : ∀ W', Below W.heap.size W W' → DataW.TrodAll enc Tryz.prog W' 0 (fun b => decide (b < W.heap.size)) true Tryz.f4.params.toList args.toList ds p := fun W' hb =>
    laws.trodAll_below laws.laidOut hb _ _ _ _ (by rw [Tryz.params4]; decide +kernel) hA hlt
  rw [Tryz.params4] at hA hval
  obtain ⟨v0, d0, rfl, rfl, h0⟩ := trodAll_one hA
  have hfin : ∀ (e : Ending) (W' : World), e = .returned (.bool true) ∧ Below W.heap.size W W' →
      ∃ v, e = .returned v ∧ Rows.printsSpec.post enc Tryz.prog Tryz.f4 false true false false W #[v0] v W' := by
    rintro e W' ⟨rfl, hb⟩
    refine ⟨_, rfl, [d0], [], _, [], p, [], hW', trodAll_mk1 (shut_bool Tryz.underlying4 true), ?_, rfl, hb.frame _, fun h => by cases h⟩
    exact hkeep W' hb
  obtain ⟨s0, rfl, rfl, rfl, hm0⟩ := open_string Tryz.underlying9 (hval 0 9 v0 rfl rfl) h0
  exact (prints_any s0 aL W hE hm0).mono hfin

set_option maxRecDepth 100000 in
theorem lifted (os : Os) (started : os.Started) (H : Type) (enc : TypeId × Value → H) (F : Stop.Interp) :
    ReturnsInHanded {} Tryz.checked os 4 .any ((OpenSpec.ofChange Rows.printsSpec).preRow enc Tryz.prog Tryz.f4 Rows.printsRow.domain false Rows.printsRow.laid) (((OpenSpec.ofChange Rows.printsSpec).at F).post enc Tryz.prog Tryz.f4 false true false false) := by
  obtain ⟨places, hx⟩ := reads os enc
  refine returnsInHanded_of_row (C := Tryz.checked) (s := OpenSpec.ofChange Rows.printsSpec) laws.own started w_init Tryz.func4
    (witness_row_atRef (enc := enc) (C := Tryz.checked) false (laws.laidWorld os) wArgs rfl (w_vars os) (w_rest os) (w_ok os)
      (OpenSpec.preRow_of_cond 8 hx rfl (fun k hk => by cases hk) (w_sized os enc) (laws.laid_met os _))) ?_
  intro W base args ds gs before hval hW _ _ hz hL hsh _
  obtain ⟨aL, hE⟩ := laws.env_of_laid hL hsh
  exact contract H enc W base args ds gs before hval hW aL hE

set_option maxRecDepth 100000 in
theorem k_all : joinedFacts Tryz.prog 4 Tryz.f4 (OpenSpec.ofChange Rows.printsSpec).bare Rows.printsRow = true := by
  unfold joinedFacts
  exact laws.k_and (laws.k_and (laws.k_and (laws.k_and (laws.k_and (laws.k_and (laws.k_and (laws.k_and (laws.k_and (laws.k_and (laws.k_and (laws.k_and (laws.k_and (laws.k_and (laws.k_and (laws.k_and (laws.k_and (laws.k_and (laws.k_and (laws.k_and (laws.k_and (laws.k_and (laws.k_and (laws.k_and (laws.k_and (laws.k_and (laws.k_and (laws.k_and (laws.k_and (laws.k_and (laws.k_and (k_wf) laws.k_lo) laws.k_mr) k_pr) k_nt) k_s1) laws.k_s2) k_s3) laws.k_s4) k_ip) k_uf) k_rc) k_vn) k_m1) k_m2) k_m3) k_m4) k_m5) k_v1) k_r1) k_r2) k_r3) k_pk) k_st) laws.k_sh) laws.k_me) k_lf) k_mk) k_kd) k_pb) k_ve) k_vf

theorem said : Rows.PrintsSaid :=
  OpenClaim.holds_of_cond 4 Tryz.f4 rfl rfl rfl rfl rfl rfl rfl ⟨rfl, rfl, rfl, rfl, rfl⟩ rfl rfl rfl rfl rfl k_named Tryz.func4 k_all k_inst k_wrap
    (fun os started H enc _ F => by rw [OpenClaim.pre_eq_preRow]; exact lifted os started H enc F)

theorem plain (f : FuncId) (fn : Func) (hf : Tryz.pinned.checked.prog.funcNamed "warrant/warrantlaw.Prints" = some f) (hfn : Tryz.pinned.checked.prog.funcs[f]? = some fn) :
    true = Tryz.pinned.checked.prog.looks [] ∧ ∀ (j : Nat) t, fn.params[j]? = some t → Tryz.pinned.checked.prog.wantsStandIn t = false := by
  obtain rfl : f = 4 := Option.some.inj ((show Tryz.prog.funcNamed "warrant/warrantlaw.Prints" = some 4 by kernel_rfl).symm.trans hf) |>.symm
  obtain rfl : fn = Tryz.f4 := (Option.some.inj (Tryz.func4.symm.trans hfn)).symm
  refine ⟨by kernel_rfl, fun j t ht => ?_⟩
  rw [Tryz.params4] at ht
  have hm := Array.mem_of_getElem? ht
  simp at hm
  subst hm
  exact (show Tryz.prog.wantsStandIn 9 = false by kernel_rfl)

theorem card : Rows.PrintsCardSaid :=
  Claim7.holds_tied_plain_at .later [] _ _ _ _ said (fun _ h => by cases h) (by kernel_rfl) (fun _ h => by cases h) prints_row_tie rfl ⟨rfl, rfl⟩ (by kernel_rfl) rfl plain (by kernel_rfl)

end Go.Proofs.YtdakgnaojakldaaGreatDoor.prints

namespace Go.Proofs.YtdakgnaojakldaaGreatDoor
theorem prints_holds : Rows.PrintsCardSaid := prints.card
end Go.Proofs.YtdakgnaojakldaaGreatDoor
