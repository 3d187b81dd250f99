/- P -/
import Derived.Test.YtdakgnaojakldabGreatDoorT00
import Derived.Test.YtdakgnaojakldabGreatDoorRows
import Derived.JoinedCond
open Go.Proofs.Tryz
set_option maxRecDepth 100000
namespace Go.Proofs.YtdakgnaojakldabGreatDoor.turned
theorem Fz:(Rows.turnedUptoRow.wf (OpenSpec.ofChange (Rows.OpenSpec.upto Rows.turnedSpec).bare))=true:=by kernel_rfl
theorem EZ:(Tryz.f3.params.all (prog.readableRec ·))=true:=by kernel_rfl
theorem EW:(namedTie prog Rows.turnedUptoRow.named (Rows.OpenSpec.upto Rows.turnedSpec).bare.vars)=true:=by kernel_rfl
theorem Fg:((Rows.turnedUptoRow.stops==[]))=true:=by kernel_rfl
theorem Fj:((Rows.turnedUptoRow.knobs==[]))=true:=by kernel_rfl
theorem EG:((Rows.turnedUptoRow.inPlace==prog.inPlace 3))=true:=by kernel_rfl
theorem Fu:((Rows.turnedUptoRow.unfollowed==prog.unfollowed 3))=true:=by kernel_rfl
theorem Ff:((Rows.turnedUptoRow.recurses==prog.recurses 3))=true:=by kernel_rfl
theorem Fy:((Rows.turnedUptoRow.named==prog.varsNamed 3))=true:=by kernel_rfl
theorem EK:((Rows.turnedUptoRow.maps==(Tryz.f3.params.toList++(Rows.OpenSpec.upto Rows.turnedSpec).bare.plain.varTypes prog).any (prog.mapsRec ·)))=true:=by kernel_rfl
theorem EM:((Rows.turnedUptoRow.ifaces==(Tryz.f3.params.toList++(Rows.OpenSpec.upto Rows.turnedSpec).bare.plain.varTypes prog).any (prog.ifacesRec ·)))=true:=by kernel_rfl
theorem EN:((Rows.turnedUptoRow.mapsOut==prog.mapsAmong Tryz.f3.resultTypes.toList))=true:=by kernel_rfl
theorem EO:((Rows.turnedUptoRow.loops==(Tryz.f3.params.toList++(Rows.OpenSpec.upto Rows.turnedSpec).bare.plain.varTypes prog).any (prog.loopsFrom ·)))=true:=by kernel_rfl
theorem EP:((Rows.turnedUptoRow.wideKeys==(Tryz.f3.params.toList++(Rows.OpenSpec.upto Rows.turnedSpec).bare.plain.varTypes prog++Tryz.f3.resultTypes.toList).any (prog.wideKeysFrom ·)))=true:=by kernel_rfl
theorem Fv:((Rows.OpenSpec.upto Rows.turnedSpec).bare.vars.all (prog.varReadable ·))=true:=by kernel_rfl
theorem Fa:(Tryz.f3.resultTypes.all (λt=>prog.readableRec t&&decide (t<prog.types.size)))=true:=by kernel_rfl
theorem Fb:((Rows.turnedUptoRow.ifacesOut==Tryz.f3.resultTypes.toList.any (prog.ifacesRec ·)))=true:=by kernel_rfl
theorem Fe:((Rows.turnedUptoRow.loopsOut==Tryz.f3.resultTypes.toList.any (prog.loopsFrom ·)))=true:=by kernel_rfl
theorem EY:((Rows.turnedUptoRow.plainKeys==prog.plainKeys))=true:=by kernel_rfl
theorem Fs:(Rows.turnedUptoRow.shortTexts.isNone)=true:=by kernel_rfl
theorem EI:((Rows.turnedUptoRow.lifted==prog.liftsFinal))=true:=by kernel_rfl
theorem ER:((prog.make==some Rows.turnedUptoRow.make))=true:=by kernel_rfl
theorem EH:((Rows.turnedUptoRow.kinds==(if Rows.turnedUptoRow.domain.isEmpty then [] else Tryz.f3.params.toList.map λt=>match prog.underlying t with|some (.int k)=>some k|_=>none)))=true:=by kernel_rfl
theorem EX:((Rows.turnedUptoRow.pinned==Rows.turnedUptoRow.pinnedBy))=true:=by kernel_rfl
theorem Fw:((Rows.turnedUptoRow.veiled==(Tryz.f3.params.toList++(Rows.OpenSpec.upto Rows.turnedSpec).bare.plain.varTypes prog++Tryz.f3.resultTypes.toList).any (prog.veiledRec ·)))=true:=by kernel_rfl
theorem Fx:(Rows.turnedUptoRow.veiledFits prog Tryz.f3.params.toList (Tryz.f3.params.toList++(Rows.OpenSpec.upto Rows.turnedSpec).bare.plain.varTypes prog++Tryz.f3.resultTypes.toList))=true:=by kernel_rfl
theorem EF:Tryz.f3.isInstance prog Rows.turnedUptoRow.origin Rows.turnedUptoRow.targs:=of_decide_eq_true (by kernel_rfl)
theorem FB:Tryz.f3.isWrapper prog Rows.turnedUptoRow.wrapper Rows.turnedUptoRow.mainSum:=by unfold Func.isWrapper;first|(rw[if_pos (by decide +kernel)];kernel_rfl)|(rw[if_neg (by decide +kernel)];exact⟨rfl,rfl⟩)
theorem EU:prog.funcNamed Rows.turnedUptoRow.func=some 3:=by kernel_rfl
end Go.Proofs.YtdakgnaojakldabGreatDoor.turned
namespace Go.Proofs.YtdakgnaojakldabGreatDoor.laws
theorem EJ:(laidOutB prog)=true:=by kernel_rfl
theorem ET:(mapsRowed prog)=true:=by kernel_rfl
theorem Fh:((prog.stops==[]))=true:=by kernel_rfl
theorem Fp:((prog.stopKnobs==[]))=true:=by kernel_rfl
theorem Fq:(prog.stopsHeard)=true:=by kernel_rfl
theorem EQ:(prog.mayEnter)=true:=by kernel_rfl
theorem qH{a b:Bool}(h:a=true)(k:b=true):(a&&b)=true:=by rw[h,k];rfl
end Go.Proofs.YtdakgnaojakldabGreatDoor.laws
