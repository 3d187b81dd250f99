/- P -/
import Derived.Test.YtdakgnaojakldaaGreatDoorRows
import Derived.JoinedCond
import Derived.Test.YtdakgnaojakldaaGreatDoorQ00
open Go.Proofs.Tryz
set_option maxRecDepth 100000
namespace Go.Proofs.YtdakgnaojakldaaGreatDoor.plain
theorem Mi:(Rows.plainRow.wf (OpenSpec.ofChange (OpenSpec.ofChange Rows.plainSpec).bare))=true:=by kernel_rfl
theorem LM:(Tryz.f9.params.all (prog.readableRec ·))=true:=by kernel_rfl
theorem LH:(namedTie prog Rows.plainRow.named (OpenSpec.ofChange Rows.plainSpec).bare.vars)=true:=by kernel_rfl
theorem LW:((Rows.plainRow.stops==[]))=true:=by kernel_rfl
theorem LY:((Rows.plainRow.knobs==[]))=true:=by kernel_rfl
theorem Lm:((Rows.plainRow.inPlace==prog.inPlace 9))=true:=by kernel_rfl
theorem Md:((Rows.plainRow.unfollowed==prog.unfollowed 9))=true:=by kernel_rfl
theorem LV:((Rows.plainRow.recurses==prog.recurses 9))=true:=by kernel_rfl
theorem Mh:((Rows.plainRow.named==prog.varsNamed 9))=true:=by kernel_rfl
theorem Lt:((Rows.plainRow.maps==(Tryz.f9.params.toList++(OpenSpec.ofChange Rows.plainSpec).bare.plain.varTypes prog).any (prog.mapsRec ·)))=true:=by kernel_rfl
theorem Lu:((Rows.plainRow.ifaces==(Tryz.f9.params.toList++(OpenSpec.ofChange Rows.plainSpec).bare.plain.varTypes prog).any (prog.ifacesRec ·)))=true:=by kernel_rfl
theorem Lv:((Rows.plainRow.mapsOut==prog.mapsAmong Tryz.f9.resultTypes.toList))=true:=by kernel_rfl
theorem Lx:((Rows.plainRow.loops==(Tryz.f9.params.toList++(OpenSpec.ofChange Rows.plainSpec).bare.plain.varTypes prog).any (prog.loopsFrom ·)))=true:=by kernel_rfl
theorem LA:((Rows.plainRow.wideKeys==(Tryz.f9.params.toList++(OpenSpec.ofChange Rows.plainSpec).bare.plain.varTypes prog++Tryz.f9.resultTypes.toList).any (prog.wideKeysFrom ·)))=true:=by kernel_rfl
theorem Me:((OpenSpec.ofChange Rows.plainSpec).bare.vars.all (prog.varReadable ·))=true:=by kernel_rfl
theorem LP:(Tryz.f9.resultTypes.all (λt=>prog.readableRec t&&decide (t<prog.types.size)))=true:=by kernel_rfl
theorem LQ:((Rows.plainRow.ifacesOut==Tryz.f9.resultTypes.toList.any (prog.ifacesRec ·)))=true:=by kernel_rfl
theorem LU:((Rows.plainRow.loopsOut==Tryz.f9.resultTypes.toList.any (prog.loopsFrom ·)))=true:=by kernel_rfl
theorem LK:((Rows.plainRow.plainKeys==prog.plainKeys))=true:=by kernel_rfl
theorem Mc:(Rows.plainRow.shortTexts.isNone)=true:=by kernel_rfl
theorem Lr:((Rows.plainRow.lifted==prog.liftsFinal))=true:=by kernel_rfl
theorem LD:((prog.make==some Rows.plainRow.make))=true:=by kernel_rfl
theorem Lp:((Rows.plainRow.kinds==(if Rows.plainRow.domain.isEmpty then [] else Tryz.f9.params.toList.map λt=>match prog.underlying t with|some (.int k)=>some k|_=>none)))=true:=by kernel_rfl
theorem LJ:((Rows.plainRow.pinned==Rows.plainRow.pinnedBy))=true:=by kernel_rfl
theorem Mf:((Rows.plainRow.veiled==(Tryz.f9.params.toList++(OpenSpec.ofChange Rows.plainSpec).bare.plain.varTypes prog++Tryz.f9.resultTypes.toList).any (prog.veiledRec ·)))=true:=by kernel_rfl
theorem Mg:(Rows.plainRow.veiledFits prog Tryz.f9.params.toList (Tryz.f9.params.toList++(OpenSpec.ofChange Rows.plainSpec).bare.plain.varTypes prog++Tryz.f9.resultTypes.toList))=true:=by kernel_rfl
theorem Ll:Tryz.f9.isInstance prog Rows.plainRow.origin Rows.plainRow.targs:=of_decide_eq_true (by kernel_rfl)
theorem Mj:Tryz.f9.isWrapper prog Rows.plainRow.wrapper Rows.plainRow.mainSum:=by unfold Func.isWrapper;first|(rw[zb (by decide +kernel)];kernel_rfl)|(rw[za (by decide +kernel)];exact⟨rfl,rfl⟩)
theorem LG:prog.funcNamed Rows.plainRow.func=some 9:=by kernel_rfl
end Go.Proofs.YtdakgnaojakldaaGreatDoor.plain
namespace Go.Proofs.YtdakgnaojakldaaGreatDoor.laws
theorem Ls:(laidOutB prog)=true:=by kernel_rfl
theorem LF:(mapsRowed prog)=true:=by kernel_rfl
theorem LX:((prog.stops==[]))=true:=by kernel_rfl
theorem LZ:((prog.stopKnobs==[]))=true:=by kernel_rfl
theorem Ma:(prog.stopsHeard)=true:=by kernel_rfl
theorem LB:(prog.mayEnter)=true:=by kernel_rfl
theorem xx{a b:Bool}(h:a=true)(k:b=true):(a&&b)=true:=by rw[h,k];rfl
end Go.Proofs.YtdakgnaojakldaaGreatDoor.laws
