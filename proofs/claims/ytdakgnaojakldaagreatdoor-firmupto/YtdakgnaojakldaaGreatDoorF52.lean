/- P -/
import Derived.Test.YtdakgnaojakldaaGreatDoorF00
import Derived.Test.YtdakgnaojakldaaGreatDoorRows
import Derived.JoinedCond
open Go.Proofs.Tryz
set_option maxRecDepth 100000
namespace Go.Proofs.YtdakgnaojakldaaGreatDoor.firm
theorem GJ:(Rows.firmUptoRow.wf (OpenSpec.ofChange (Rows.OpenSpec.upto Rows.firmSpec).bare))=true:=by kernel_rfl
theorem Gn:(Tryz.f12.params.all (prog.readableRec ·))=true:=by kernel_rfl
theorem Gi:(namedTie prog Rows.firmUptoRow.named (Rows.OpenSpec.upto Rows.firmSpec).bare.vars)=true:=by kernel_rfl
theorem Gt:((Rows.firmUptoRow.stops==[]))=true:=by kernel_rfl
theorem Gv:((Rows.firmUptoRow.knobs==[]))=true:=by kernel_rfl
theorem FT:((Rows.firmUptoRow.inPlace==prog.inPlace 12))=true:=by kernel_rfl
theorem Gz:((Rows.firmUptoRow.unfollowed==prog.unfollowed 12))=true:=by kernel_rfl
theorem Gs:((Rows.firmUptoRow.recurses==prog.recurses 12))=true:=by kernel_rfl
theorem GI:((Rows.firmUptoRow.named==prog.varsNamed 12))=true:=by kernel_rfl
theorem FY:((Rows.firmUptoRow.maps==(Tryz.f12.params.toList++(Rows.OpenSpec.upto Rows.firmSpec).bare.plain.varTypes prog).any (prog.mapsRec ·)))=true:=by kernel_rfl
theorem FZ:((Rows.firmUptoRow.ifaces==(Tryz.f12.params.toList++(Rows.OpenSpec.upto Rows.firmSpec).bare.plain.varTypes prog).any (prog.ifacesRec ·)))=true:=by kernel_rfl
theorem Ga:((Rows.firmUptoRow.mapsOut==prog.mapsAmong Tryz.f12.resultTypes.toList))=true:=by kernel_rfl
theorem Gb:((Rows.firmUptoRow.loops==(Tryz.f12.params.toList++(Rows.OpenSpec.upto Rows.firmSpec).bare.plain.varTypes prog).any (prog.loopsFrom ·)))=true:=by kernel_rfl
theorem Gc:((Rows.firmUptoRow.wideKeys==(Tryz.f12.params.toList++(Rows.OpenSpec.upto Rows.firmSpec).bare.plain.varTypes prog++Tryz.f12.resultTypes.toList).any (prog.wideKeysFrom ·)))=true:=by kernel_rfl
theorem GA:((Rows.OpenSpec.upto Rows.firmSpec).bare.vars.all (prog.varReadable ·))=true:=by kernel_rfl
theorem Gp:(Tryz.f12.resultTypes.all (λt=>prog.readableRec t&&decide (t<prog.types.size)))=true:=by kernel_rfl
theorem Gq:((Rows.firmUptoRow.ifacesOut==Tryz.f12.resultTypes.toList.any (prog.ifacesRec ·)))=true:=by kernel_rfl
theorem Gr:((Rows.firmUptoRow.loopsOut==Tryz.f12.resultTypes.toList.any (prog.loopsFrom ·)))=true:=by kernel_rfl
theorem Gm:((Rows.firmUptoRow.plainKeys==prog.plainKeys))=true:=by kernel_rfl
theorem Gy:(Rows.firmUptoRow.shortTexts.isNone)=true:=by kernel_rfl
theorem FW:((Rows.firmUptoRow.lifted==prog.liftsFinal))=true:=by kernel_rfl
theorem Gf:((prog.make==some Rows.firmUptoRow.make))=true:=by kernel_rfl
theorem FU:((Rows.firmUptoRow.kinds==(if Rows.firmUptoRow.domain.isEmpty then [] else Tryz.f12.params.toList.map λt=>match prog.underlying t with|some (.int k)=>some k|_=>none)))=true:=by kernel_rfl
theorem Gj:((Rows.firmUptoRow.pinned==Rows.firmUptoRow.pinnedBy))=true:=by kernel_rfl
theorem GD:((Rows.firmUptoRow.veiled==(Tryz.f12.params.toList++(Rows.OpenSpec.upto Rows.firmSpec).bare.plain.varTypes prog++Tryz.f12.resultTypes.toList).any (prog.veiledRec ·)))=true:=by kernel_rfl
theorem GH:(Rows.firmUptoRow.veiledFits prog Tryz.f12.params.toList (Tryz.f12.params.toList++(Rows.OpenSpec.upto Rows.firmSpec).bare.plain.varTypes prog++Tryz.f12.resultTypes.toList))=true:=by kernel_rfl
theorem FR:Tryz.f12.isInstance prog Rows.firmUptoRow.origin Rows.firmUptoRow.targs:=of_decide_eq_true (by kernel_rfl)
theorem GK:Tryz.f12.isWrapper prog Rows.firmUptoRow.wrapper Rows.firmUptoRow.mainSum:=by unfold Func.isWrapper;first|(rw[if_pos (by decide +kernel)];kernel_rfl)|(rw[if_neg (by decide +kernel)];exact⟨rfl,rfl⟩)
theorem Gh:prog.funcNamed Rows.firmUptoRow.func=some 12:=by kernel_rfl
end Go.Proofs.YtdakgnaojakldaaGreatDoor.firm
namespace Go.Proofs.YtdakgnaojakldaaGreatDoor.laws
theorem FX:(laidOutB prog)=true:=by kernel_rfl
theorem Gg:(mapsRowed prog)=true:=by kernel_rfl
theorem Gu:((prog.stops==[]))=true:=by kernel_rfl
theorem Gw:((prog.stopKnobs==[]))=true:=by kernel_rfl
theorem Gx:(prog.stopsHeard)=true:=by kernel_rfl
theorem Gd:(prog.mayEnter)=true:=by kernel_rfl
theorem qI{a b:Bool}(h:a=true)(k:b=true):(a&&b)=true:=by rw[h,k];rfl
end Go.Proofs.YtdakgnaojakldaaGreatDoor.laws
