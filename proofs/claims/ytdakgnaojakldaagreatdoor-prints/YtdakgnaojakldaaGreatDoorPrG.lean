/- Closed facts of the row of Prints, one by one. -/
import Derived.Test.YtdakgnaojakldaaGreatDoorRows
import Derived.JoinedCond
namespace Go.Proofs.YtdakgnaojakldaaGreatDoor.prints
theorem k_wf : (Rows.printsRow.wf (OpenSpec.ofChange (OpenSpec.ofChange Rows.printsSpec).bare)) = true := by kernel_rfl
theorem k_pr : (Tryz.f4.params.all (Tryz.prog.readableRec ·)) = true := by kernel_rfl
theorem k_nt : (namedTie Tryz.prog Rows.printsRow.named (OpenSpec.ofChange Rows.printsSpec).bare.vars) = true := by kernel_rfl
theorem k_s1 : ((Rows.printsRow.stops == [])) = true := by kernel_rfl
theorem k_s3 : ((Rows.printsRow.knobs == [])) = true := by kernel_rfl
theorem k_ip : ((Rows.printsRow.inPlace == Tryz.prog.inPlace 4)) = true := by kernel_rfl
theorem k_uf : ((Rows.printsRow.unfollowed == Tryz.prog.unfollowed 4)) = true := by kernel_rfl
theorem k_rc : ((Rows.printsRow.recurses == Tryz.prog.recurses 4)) = true := by kernel_rfl
theorem k_vn : ((Rows.printsRow.named == Tryz.prog.varsNamed 4)) = true := by kernel_rfl
theorem k_m1 : ((Rows.printsRow.maps == (Tryz.f4.params.toList ++ (OpenSpec.ofChange Rows.printsSpec).bare.plain.varTypes Tryz.prog).any (Tryz.prog.mapsRec ·))) = true := by kernel_rfl
theorem k_m2 : ((Rows.printsRow.ifaces == (Tryz.f4.params.toList ++ (OpenSpec.ofChange Rows.printsSpec).bare.plain.varTypes Tryz.prog).any (Tryz.prog.ifacesRec ·))) = true := by kernel_rfl
theorem k_m3 : ((Rows.printsRow.mapsOut == Tryz.prog.mapsAmong Tryz.f4.resultTypes.toList)) = true := by kernel_rfl
theorem k_m4 : ((Rows.printsRow.loops == (Tryz.f4.params.toList ++ (OpenSpec.ofChange Rows.printsSpec).bare.plain.varTypes Tryz.prog).any (Tryz.prog.loopsFrom ·))) = true := by kernel_rfl
theorem k_m5 : ((Rows.printsRow.wideKeys == (Tryz.f4.params.toList ++ (OpenSpec.ofChange Rows.printsSpec).bare.plain.varTypes Tryz.prog ++ Tryz.f4.resultTypes.toList).any (Tryz.prog.wideKeysFrom ·))) = true := by kernel_rfl
theorem k_v1 : ((OpenSpec.ofChange Rows.printsSpec).bare.vars.all (Tryz.prog.varReadable ·)) = true := by kernel_rfl
theorem k_r1 : (Tryz.f4.resultTypes.all (fun t => Tryz.prog.readableRec t && decide (t < Tryz.prog.types.size))) = true := by kernel_rfl
theorem k_r2 : ((Rows.printsRow.ifacesOut == Tryz.f4.resultTypes.toList.any (Tryz.prog.ifacesRec ·))) = true := by kernel_rfl
theorem k_r3 : ((Rows.printsRow.loopsOut == Tryz.f4.resultTypes.toList.any (Tryz.prog.loopsFrom ·))) = true := by kernel_rfl
theorem k_pk : ((Rows.printsRow.plainKeys == Tryz.prog.plainKeys)) = true := by kernel_rfl
theorem k_st : (Rows.printsRow.shortTexts.isNone) = true := by kernel_rfl
theorem k_lf : ((Rows.printsRow.lifted == Tryz.prog.liftsFinal)) = true := by kernel_rfl
theorem k_mk : ((Tryz.prog.make == some Rows.printsRow.make)) = true := by kernel_rfl
theorem k_kd : ((Rows.printsRow.kinds == (if Rows.printsRow.domain.isEmpty then [] else Tryz.f4.params.toList.map fun t => match Tryz.prog.underlying t with | some (.int k) => some k | _ => none))) = true := by kernel_rfl
theorem k_pb : ((Rows.printsRow.pinned == Rows.printsRow.pinnedBy)) = true := by kernel_rfl
theorem k_ve : ((Rows.printsRow.veiled == (Tryz.f4.params.toList ++ (OpenSpec.ofChange Rows.printsSpec).bare.plain.varTypes Tryz.prog ++ Tryz.f4.resultTypes.toList).any (Tryz.prog.veiledRec ·))) = true := by kernel_rfl
theorem k_vf : (Rows.printsRow.veiledFits Tryz.prog Tryz.f4.params.toList (Tryz.f4.params.toList ++ (OpenSpec.ofChange Rows.printsSpec).bare.plain.varTypes Tryz.prog ++ Tryz.f4.resultTypes.toList)) = true := by kernel_rfl
theorem k_inst : Tryz.f4.isInstance Tryz.prog Rows.printsRow.origin Rows.printsRow.targs := of_decide_eq_true (by kernel_rfl)
theorem k_wrap : Tryz.f4.isWrapper Tryz.prog Rows.printsRow.wrapper Rows.printsRow.mainSum := by unfold Func.isWrapper; first | (rw [if_pos (by decide +kernel)]; kernel_rfl) | (rw [if_neg (by decide +kernel)]; exact ⟨rfl, rfl⟩)
theorem k_named : Tryz.prog.funcNamed Rows.printsRow.func = some 4 := by kernel_rfl
end Go.Proofs.YtdakgnaojakldaaGreatDoor.prints
