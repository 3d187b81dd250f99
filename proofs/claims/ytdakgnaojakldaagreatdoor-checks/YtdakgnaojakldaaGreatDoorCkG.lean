/- Closed facts of the row of Checks, one by one. -/
import Derived.Test.YtdakgnaojakldaaGreatDoorRows
import Derived.JoinedCond
namespace Go.Proofs.YtdakgnaojakldaaGreatDoor.checks
theorem k_wf : (Rows.checksRow.wf (OpenSpec.ofChange (OpenSpec.ofChange Rows.checksSpec).bare)) = true := by kernel_rfl
theorem k_pr : (Tryz.f3.params.all (Tryz.prog.readableRec ·)) = true := by kernel_rfl
theorem k_nt : (namedTie Tryz.prog Rows.checksRow.named (OpenSpec.ofChange Rows.checksSpec).bare.vars) = true := by kernel_rfl
theorem k_s1 : ((Rows.checksRow.stops == [])) = true := by kernel_rfl
theorem k_s3 : ((Rows.checksRow.knobs == [])) = true := by kernel_rfl
theorem k_ip : ((Rows.checksRow.inPlace == Tryz.prog.inPlace 3)) = true := by kernel_rfl
theorem k_uf : ((Rows.checksRow.unfollowed == Tryz.prog.unfollowed 3)) = true := by kernel_rfl
theorem k_rc : ((Rows.checksRow.recurses == Tryz.prog.recurses 3)) = true := by kernel_rfl
theorem k_vn : ((Rows.checksRow.named == Tryz.prog.varsNamed 3)) = true := by kernel_rfl
theorem k_m1 : ((Rows.checksRow.maps == (Tryz.f3.params.toList ++ (OpenSpec.ofChange Rows.checksSpec).bare.plain.varTypes Tryz.prog).any (Tryz.prog.mapsRec ·))) = true := by kernel_rfl
theorem k_m2 : ((Rows.checksRow.ifaces == (Tryz.f3.params.toList ++ (OpenSpec.ofChange Rows.checksSpec).bare.plain.varTypes Tryz.prog).any (Tryz.prog.ifacesRec ·))) = true := by kernel_rfl
theorem k_m3 : ((Rows.checksRow.mapsOut == Tryz.prog.mapsAmong Tryz.f3.resultTypes.toList)) = true := by kernel_rfl
theorem k_m4 : ((Rows.checksRow.loops == (Tryz.f3.params.toList ++ (OpenSpec.ofChange Rows.checksSpec).bare.plain.varTypes Tryz.prog).any (Tryz.prog.loopsFrom ·))) = true := by kernel_rfl
theorem k_m5 : ((Rows.checksRow.wideKeys == (Tryz.f3.params.toList ++ (OpenSpec.ofChange Rows.checksSpec).bare.plain.varTypes Tryz.prog ++ Tryz.f3.resultTypes.toList).any (Tryz.prog.wideKeysFrom ·))) = true := by kernel_rfl
theorem k_v1 : ((OpenSpec.ofChange Rows.checksSpec).bare.vars.all (Tryz.prog.varReadable ·)) = true := by kernel_rfl
theorem k_r1 : (Tryz.f3.resultTypes.all (fun t => Tryz.prog.readableRec t && decide (t < Tryz.prog.types.size))) = true := by kernel_rfl
theorem k_r2 : ((Rows.checksRow.ifacesOut == Tryz.f3.resultTypes.toList.any (Tryz.prog.ifacesRec ·))) = true := by kernel_rfl
theorem k_r3 : ((Rows.checksRow.loopsOut == Tryz.f3.resultTypes.toList.any (Tryz.prog.loopsFrom ·))) = true := by kernel_rfl
theorem k_pk : ((Rows.checksRow.plainKeys == Tryz.prog.plainKeys)) = true := by kernel_rfl
theorem k_st : (Rows.checksRow.shortTexts.isNone) = true := by kernel_rfl
theorem k_lf : ((Rows.checksRow.lifted == Tryz.prog.liftsFinal)) = true := by kernel_rfl
theorem k_mk : ((Tryz.prog.make == some Rows.checksRow.make)) = true := by kernel_rfl
theorem k_kd : ((Rows.checksRow.kinds == (if Rows.checksRow.domain.isEmpty then [] else Tryz.f3.params.toList.map fun t => match Tryz.prog.underlying t with | some (.int k) => some k | _ => none))) = true := by kernel_rfl
theorem k_pb : ((Rows.checksRow.pinned == Rows.checksRow.pinnedBy)) = true := by kernel_rfl
theorem k_ve : ((Rows.checksRow.veiled == (Tryz.f3.params.toList ++ (OpenSpec.ofChange Rows.checksSpec).bare.plain.varTypes Tryz.prog ++ Tryz.f3.resultTypes.toList).any (Tryz.prog.veiledRec ·))) = true := by kernel_rfl
theorem k_vf : (Rows.checksRow.veiledFits Tryz.prog Tryz.f3.params.toList (Tryz.f3.params.toList ++ (OpenSpec.ofChange Rows.checksSpec).bare.plain.varTypes Tryz.prog ++ Tryz.f3.resultTypes.toList)) = true := by kernel_rfl
theorem k_inst : Tryz.f3.isInstance Tryz.prog Rows.checksRow.origin Rows.checksRow.targs := of_decide_eq_true (by kernel_rfl)
theorem k_wrap : Tryz.f3.isWrapper Tryz.prog Rows.checksRow.wrapper Rows.checksRow.mainSum := by unfold Func.isWrapper; first | (rw [if_pos (by decide +kernel)]; kernel_rfl) | (rw [if_neg (by decide +kernel)]; exact ⟨rfl, rfl⟩)
theorem k_named : Tryz.prog.funcNamed Rows.checksRow.func = some 3 := by kernel_rfl
end Go.Proofs.YtdakgnaojakldaaGreatDoor.checks
