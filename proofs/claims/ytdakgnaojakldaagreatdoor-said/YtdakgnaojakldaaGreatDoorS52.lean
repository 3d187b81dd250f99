/- P -/
import Derived.Test.YtdakgnaojakldaaGreatDoorS00
import Derived.Test.YtdakgnaojakldaaGreatDoorRows
import Derived.JoinedCond
open Go.Proofs.Tryz
set_option maxRecDepth 100000
namespace Go.Proofs.YtdakgnaojakldaaGreatDoor.said1
theorem Cn:(Rows.saidRow.wf (OpenSpec.ofChange (OpenSpec.ofChange Rows.saidSpec).bare))=true:=by kernel_rfl
theorem BR:(Tryz.f11.params.all (prog.readableRec ·))=true:=by kernel_rfl
theorem BO:(namedTie prog Rows.saidRow.named (OpenSpec.ofChange Rows.saidSpec).bare.vars)=true:=by kernel_rfl
theorem Ca:((Rows.saidRow.stops==[]))=true:=by kernel_rfl
theorem Cc:((Rows.saidRow.knobs==[]))=true:=by kernel_rfl
theorem BA:((Rows.saidRow.inPlace==prog.inPlace 11))=true:=by kernel_rfl
theorem Ch:((Rows.saidRow.unfollowed==prog.unfollowed 11))=true:=by kernel_rfl
theorem BZ:((Rows.saidRow.recurses==prog.recurses 11))=true:=by kernel_rfl
theorem Cm:((Rows.saidRow.named==prog.varsNamed 11))=true:=by kernel_rfl
theorem BF:((Rows.saidRow.maps==(Tryz.f11.params.toList++(OpenSpec.ofChange Rows.saidSpec).bare.plain.varTypes prog).any (prog.mapsRec ·)))=true:=by kernel_rfl
theorem BG:((Rows.saidRow.ifaces==(Tryz.f11.params.toList++(OpenSpec.ofChange Rows.saidSpec).bare.plain.varTypes prog).any (prog.ifacesRec ·)))=true:=by kernel_rfl
theorem BH:((Rows.saidRow.mapsOut==prog.mapsAmong Tryz.f11.resultTypes.toList))=true:=by kernel_rfl
theorem BI:((Rows.saidRow.loops==(Tryz.f11.params.toList++(OpenSpec.ofChange Rows.saidSpec).bare.plain.varTypes prog).any (prog.loopsFrom ·)))=true:=by kernel_rfl
theorem BJ:((Rows.saidRow.wideKeys==(Tryz.f11.params.toList++(OpenSpec.ofChange Rows.saidSpec).bare.plain.varTypes prog++Tryz.f11.resultTypes.toList).any (prog.wideKeysFrom ·)))=true:=by kernel_rfl
theorem Ci:((OpenSpec.ofChange Rows.saidSpec).bare.vars.all (prog.varReadable ·))=true:=by kernel_rfl
theorem BS:(Tryz.f11.resultTypes.all (λt=>prog.readableRec t&&decide (t<prog.types.size)))=true:=by kernel_rfl
theorem BU:((Rows.saidRow.ifacesOut==Tryz.f11.resultTypes.toList.any (prog.ifacesRec ·)))=true:=by kernel_rfl
theorem BV:((Rows.saidRow.loopsOut==Tryz.f11.resultTypes.toList.any (prog.loopsFrom ·)))=true:=by kernel_rfl
theorem BQ:((Rows.saidRow.plainKeys==prog.plainKeys))=true:=by kernel_rfl
theorem Cg:(Rows.saidRow.shortTexts.isNone)=true:=by kernel_rfl
theorem BC:((Rows.saidRow.lifted==prog.liftsFinal))=true:=by kernel_rfl
theorem BL:((prog.make==some Rows.saidRow.make))=true:=by kernel_rfl
theorem BB:((Rows.saidRow.kinds==(if Rows.saidRow.domain.isEmpty then [] else Tryz.f11.params.toList.map λt=>match prog.underlying t with|some (.int k)=>some k|_=>none)))=true:=by kernel_rfl
theorem BP:((Rows.saidRow.pinned==Rows.saidRow.pinnedBy))=true:=by kernel_rfl
theorem Cj:((Rows.saidRow.veiled==(Tryz.f11.params.toList++(OpenSpec.ofChange Rows.saidSpec).bare.plain.varTypes prog++Tryz.f11.resultTypes.toList).any (prog.veiledRec ·)))=true:=by kernel_rfl
theorem Ck:(Rows.saidRow.veiledFits prog Tryz.f11.params.toList (Tryz.f11.params.toList++(OpenSpec.ofChange Rows.saidSpec).bare.plain.varTypes prog++Tryz.f11.resultTypes.toList))=true:=by kernel_rfl
theorem Bz:Tryz.f11.isInstance prog Rows.saidRow.origin Rows.saidRow.targs:=of_decide_eq_true (by kernel_rfl)
theorem Co:Tryz.f11.isWrapper prog Rows.saidRow.wrapper Rows.saidRow.mainSum:=by unfold Func.isWrapper;first|(rw[if_pos (by decide +kernel)];kernel_rfl)|(rw[if_neg (by decide +kernel)];exact⟨rfl,rfl⟩)
theorem BN:prog.funcNamed Rows.saidRow.func=some 11:=by kernel_rfl
end Go.Proofs.YtdakgnaojakldaaGreatDoor.said1
namespace Go.Proofs.YtdakgnaojakldaaGreatDoor.laws
theorem BD:(laidOutB prog)=true:=by kernel_rfl
theorem BM:(mapsRowed prog)=true:=by kernel_rfl
theorem Cb:((prog.stops==[]))=true:=by kernel_rfl
theorem Ce:((prog.stopKnobs==[]))=true:=by kernel_rfl
theorem Cf:(prog.stopsHeard)=true:=by kernel_rfl
theorem BK:(prog.mayEnter)=true:=by kernel_rfl
theorem qz{a b:Bool}(h:a=true)(k:b=true):(a&&b)=true:=by rw[h,k];rfl
end Go.Proofs.YtdakgnaojakldaaGreatDoor.laws
