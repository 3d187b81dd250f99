/- Cut: for every list of raw statements and every number: the document that they make is one; what is cut off its end is missed at the end of what is left; a sign too many, behind it or ahead of it, is told at its place; the library's tables and variables, the program's error of length, its table of sequences and its table of operations start as the text lays them. -/
import Derived.Test.YtdakgnaojakldaaGreatDoorCards
import Derived.Test.YtdakgnaojakldaaGreatDoorTie
import Derived.Test.YtdakgnaojakldaaGreatDoorCtF
import Derived.Test.YtdakgnaojakldaaGreatDoorCtC
import Derived.Test.YtdakgnaojakldaaGreatDoorCtG
import Derived.Test.YtdakgnaojakldaaGreatDoorCkH
import Derived.SizedLaws
namespace Go.Proofs.YtdakgnaojakldaaGreatDoor.cut
open Go.ChangeShapes Go.WideShapes Go.ChangeAt Go.RowKit Go.Joins Go.Deep
open Go.ChangeMaps (open_string shut_string)

set_option maxRecDepth 100000 in
theorem contract (H : Type) (enc : TypeId × Value → H) (W : World) (base : Nat) (args : Array Value) (ds gs : List (DataW H)) (before : List MemPlace)
    (hval : ∀ (j : Nat) t v, Tryz.f8.params[j]? = some t → args[j]? = some v → Value.okWide Tryz.prog W .any base t v)
    (hW : DataW.Whole enc Tryz.prog Tryz.f8.params.toList Rows.cutSpec.vars false W args.toList ds gs before)
    (aL : Addr) (hE : CEnv W aL) :
    Calls Tryz.prog 8 args W fun e W' => ∃ v, e = .returned v ∧ Rows.cutSpec.post enc Tryz.prog Tryz.f8 false true false false W args v W' := by
  have hW' := hW
  obtain ⟨p, q, hA0, hV, rfl, hfz, hnd⟩ := hW
  have hA : DataW.TrodAll enc Tryz.prog W 0 (fun _ => true) true Tryz.f8.params.toList args.toList ds p := hA0
  have hlt : ∀ x ∈ p, x.block < W.heap.size := fun x hx => by simpa using hW'.lt x (List.mem_append_left _ hx)
  obtain ⟨rfl, rfl⟩ := trodVars_none hV
  have hkeep : ∀ W', Below W.heap.size W W' → DataW.TrodAll enc Tryz.prog W' 0 (fun b => decide (b < W.heap.size)) true Tryz.f8.params.toList args.toList ds p := fun W' hb =>
    laws.trodAll_below laws.laidOut hb _ _ _ _ (by rw [Tryz.params8]; decide +kernel) hA hlt
  rw [Tryz.params8] at hA hval
  obtain ⟨v0, v1, d0, d1, p0, p1, rfl, rfl, rfl, h0, h1⟩ := trodAll_two hA
  have hfin : ∀ (e : Ending) (W' : World), e = .returned (.bool true) ∧ Below W.heap.size W W' →
      ∃ v, e = .returned v ∧ Rows.cutSpec.post enc Tryz.prog Tryz.f8 false true false false W #[v0, v1] v W' := by
    rintro e W' ⟨rfl, hb⟩
    refine ⟨_, rfl, [d0, d1], [], _, [], p0 ++ p1, [], hW', trodAll_mk1 (shut_bool Tryz.underlying4 true), ?_, rfl, hb.frame _, fun h => by cases h⟩
    exact hkeep W' hb
  obtain ⟨z, rfl, rfl, rfl, hz⟩ := open_int Tryz.underlying3 (hval 1 3 v1 rfl rfl) h1
  obtain ⟨a, len, cap, rfl⟩ := okWide_slice Tryz.underlying32 (hval 0 32 v0 rfl rfl)
  obtain ⟨fuel, h0⟩ := h0
  obtain ⟨l, hm, hl⟩ := rules_open (v := .slice a len cap) h0 (fun _ => rfl)
  exact (cutLaw_any l _ z aL W hE hl hm (wf_i64 hz)).mono hfin

set_option maxRecDepth 100000 in
theorem lifted (os : Os) (started : os.Started) (H : Type) (enc : TypeId × Value → H) (F : Stop.Interp) :
    ReturnsInHanded {} Tryz.checked os 8 .any ((OpenSpec.ofChange Rows.cutSpec).preRow enc Tryz.prog Tryz.f8 Rows.cutRow.domain false Rows.cutRow.laid) (((OpenSpec.ofChange Rows.cutSpec).at F).post enc Tryz.prog Tryz.f8 false true false false) := by
  obtain ⟨places, hx⟩ := reads os enc
  refine returnsInHanded_of_row (C := Tryz.checked) (s := OpenSpec.ofChange Rows.cutSpec) laws.own started w_init Tryz.func8
    (witness_row_atRef (enc := enc) (C := Tryz.checked) false (laws.laidWorld os) wArgs rfl (w_vars os) (w_rest os) (w_ok os)
      (OpenSpec.preRow_of_cond 8 hx rfl (fun k hk => by cases hk) (w_sized os enc) (laws.laid_met os _))) ?_
  intro W base args ds gs before hval hW _ _ hz hL hsh _
  obtain ⟨aL, hE⟩ := laws.env_of_laid hL hsh
  exact contract H enc W base args ds gs before hval hW aL hE

set_option maxRecDepth 100000 in
theorem k_all : joinedFacts Tryz.prog 8 Tryz.f8 (OpenSpec.ofChange Rows.cutSpec).bare Rows.cutRow = true := by
  unfold joinedFacts
  exact laws.k_and (laws.k_and (laws.k_and (laws.k_and (laws.k_and (laws.k_and (laws.k_and (laws.k_and (laws.k_and (laws.k_and (laws.k_and (laws.k_and (laws.k_and (laws.k_and (laws.k_and (laws.k_and (laws.k_and (laws.k_and (laws.k_and (laws.k_and (laws.k_and (laws.k_and (laws.k_and (laws.k_and (laws.k_and (laws.k_and (laws.k_and (laws.k_and (laws.k_and (laws.k_and (laws.k_and (k_wf) laws.k_lo) laws.k_mr) k_pr) k_nt) k_s1) laws.k_s2) k_s3) laws.k_s4) k_ip) k_uf) k_rc) k_vn) k_m1) k_m2) k_m3) k_m4) k_m5) k_v1) k_r1) k_r2) k_r3) k_pk) k_st) laws.k_sh) laws.k_me) k_lf) k_mk) k_kd) k_pb) k_ve) k_vf

theorem said : Rows.CutSaid :=
  OpenClaim.holds_of_cond 8 Tryz.f8 rfl rfl rfl rfl rfl rfl rfl ⟨rfl, rfl, rfl, rfl, rfl⟩ rfl rfl rfl rfl rfl k_named Tryz.func8 k_all k_inst k_wrap
    (fun os started H enc _ F => by rw [OpenClaim.pre_eq_preRow]; exact lifted os started H enc F)

theorem plain (f : FuncId) (fn : Func) (hf : Tryz.pinned.checked.prog.funcNamed "warrant/warrantkeep.Cut" = some f) (hfn : Tryz.pinned.checked.prog.funcs[f]? = some fn) :
    true = Tryz.pinned.checked.prog.looks [] ∧ ∀ (j : Nat) t, fn.params[j]? = some t → Tryz.pinned.checked.prog.wantsStandIn t = false := by
  obtain rfl : f = 8 := Option.some.inj ((show Tryz.prog.funcNamed "warrant/warrantkeep.Cut" = some 8 by kernel_rfl).symm.trans hf) |>.symm
  obtain rfl : fn = Tryz.f8 := (Option.some.inj (Tryz.func8.symm.trans hfn)).symm
  refine ⟨by kernel_rfl, fun j t ht => ?_⟩
  rw [Tryz.params8] at ht
  have hm := Array.mem_of_getElem? ht
  simp at hm
  rcases hm with rfl | rfl
  · exact (show Tryz.prog.wantsStandIn 32 = false by kernel_rfl)
  · exact (show Tryz.prog.wantsStandIn 3 = false by kernel_rfl)

theorem card : Rows.CutCardSaid :=
  Claim7.holds_tied_plain_at .later [] _ _ _ _ said (fun _ h => by cases h) (by kernel_rfl) (fun _ h => by cases h) cut_row_tie rfl ⟨rfl, rfl⟩ (by kernel_rfl) rfl plain (by kernel_rfl)

end Go.Proofs.YtdakgnaojakldaaGreatDoor.cut

namespace Go.Proofs.YtdakgnaojakldaaGreatDoor
theorem cut_holds : Rows.CutCardSaid := cut.card
end Go.Proofs.YtdakgnaojakldaaGreatDoor
