/- Closed facts of the row of Cut, one by one. -/
import Derived.Test.YtdakgnaojakldaaGreatDoorRows
import Derived.JoinedCond
namespace Go.Proofs.YtdakgnaojakldaaGreatDoor.cut
theorem k_wf : (Rows.cutRow.wf (OpenSpec.ofChange (OpenSpec.ofChange Rows.cutSpec).bare)) = true := by kernel_rfl
theorem k_pr : (Tryz.f8.params.all (Tryz.prog.readableRec ·)) = true := by kernel_rfl
theorem k_nt : (namedTie Tryz.prog Rows.cutRow.named (OpenSpec.ofChange Rows.cutSpec).bare.vars) = true := by kernel_rfl
theorem k_s1 : ((Rows.cutRow.stops == [])) = true := by kernel_rfl
theorem k_s3 : ((Rows.cutRow.knobs == [])) = true := by kernel_rfl
theorem k_ip : ((Rows.cutRow.inPlace == Tryz.prog.inPlace 8)) = true := by kernel_rfl
theorem k_uf : ((Rows.cutRow.unfollowed == Tryz.prog.unfollowed 8)) = true := by kernel_rfl
theorem k_rc : ((Rows.cutRow.recurses == Tryz.prog.recurses 8)) = true := by kernel_rfl
theorem k_vn : ((Rows.cutRow.named == Tryz.prog.varsNamed 8)) = true := by kernel_rfl
theorem k_m1 : ((Rows.cutRow.maps == (Tryz.f8.params.toList ++ (OpenSpec.ofChange Rows.cutSpec).bare.plain.varTypes Tryz.prog).any (Tryz.prog.mapsRec ·))) = true := by kernel_rfl
theorem k_m2 : ((Rows.cutRow.ifaces == (Tryz.f8.params.toList ++ (OpenSpec.ofChange Rows.cutSpec).bare.plain.varTypes Tryz.prog).any (Tryz.prog.ifacesRec ·))) = true := by kernel_rfl
theorem k_m3 : ((Rows.cutRow.mapsOut == Tryz.prog.mapsAmong Tryz.f8.resultTypes.toList)) = true := by kernel_rfl
theorem k_m4 : ((Rows.cutRow.loops == (Tryz.f8.params.toList ++ (OpenSpec.ofChange Rows.cutSpec).bare.plain.varTypes Tryz.prog).any (Tryz.prog.loopsFrom ·))) = true := by kernel_rfl
theorem k_m5 : ((Rows.cutRow.wideKeys == (Tryz.f8.params.toList ++ (OpenSpec.ofChange Rows.cutSpec).bare.plain.varTypes Tryz.prog ++ Tryz.f8.resultTypes.toList).any (Tryz.prog.wideKeysFrom ·))) = true := by kernel_rfl
theorem k_v1 : ((OpenSpec.ofChange Rows.cutSpec).bare.vars.all (Tryz.prog.varReadable ·)) = true := by kernel_rfl
theorem k_r1 : (Tryz.f8.resultTypes.all (fun t => Tryz.prog.readableRec t && decide (t < Tryz.prog.types.size))) = true := by kernel_rfl
theorem k_r2 : ((Rows.cutRow.ifacesOut == Tryz.f8.resultTypes.toList.any (Tryz.prog.ifacesRec ·))) = true := by kernel_rfl
theorem k_r3 : ((Rows.cutRow.loopsOut == Tryz.f8.resultTypes.toList.any (Tryz.prog.loopsFrom ·))) = true := by kernel_rfl
theorem k_pk : ((Rows.cutRow.plainKeys == Tryz.prog.plainKeys)) = true := by kernel_rfl
theorem k_st : (Rows.cutRow.shortTexts.isNone) = true := by kernel_rfl
theorem k_lf : ((Rows.cutRow.lifted == Tryz.prog.liftsFinal)) = true := by kernel_rfl
theorem k_mk : ((Tryz.prog.make == some Rows.cutRow.make)) = true := by kernel_rfl
theorem k_kd : ((Rows.cutRow.kinds == (if Rows.cutRow.domain.isEmpty then [] else Tryz.f8.params.toList.map fun t => match Tryz.prog.underlying t with | some (.int k) => some k | _ => none))) = true := by kernel_rfl
theorem k_pb : ((Rows.cutRow.pinned == Rows.cutRow.pinnedBy)) = true := by kernel_rfl
theorem k_ve : ((Rows.cutRow.veiled == (Tryz.f8.params.toList ++ (OpenSpec.ofChange Rows.cutSpec).bare.plain.varTypes Tryz.prog ++ Tryz.f8.resultTypes.toList).any (Tryz.prog.veiledRec ·))) = true := by kernel_rfl
theorem k_vf : (Rows.cutRow.veiledFits Tryz.prog Tryz.f8.params.toList (Tryz.f8.params.toList ++ (OpenSpec.ofChange Rows.cutSpec).bare.plain.varTypes Tryz.prog ++ Tryz.f8.resultTypes.toList)) = true := by kernel_rfl
theorem k_inst : Tryz.f8.isInstance Tryz.prog Rows.cutRow.origin Rows.cutRow.targs := of_decide_eq_true (by kernel_rfl)
theorem k_wrap : Tryz.f8.isWrapper Tryz.prog Rows.cutRow.wrapper Rows.cutRow.mainSum := by unfold Func.isWrapper; first | (rw [if_pos (by decide +kernel)]; kernel_rfl) | (rw [if_neg (by decide +kernel)]; exact ⟨rfl, rfl⟩)
theorem k_named : Tryz.prog.funcNamed Rows.cutRow.func = some 8 := by kernel_rfl
end Go.Proofs.YtdakgnaojakldaaGreatDoor.cut
