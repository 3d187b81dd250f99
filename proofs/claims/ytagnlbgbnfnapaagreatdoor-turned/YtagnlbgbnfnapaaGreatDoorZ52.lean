/- P -/
import Derived.Test.YtagnlbgbnfnapaaGreatDoorZ51
open Go.Proofs.Tryz
set_option maxRecDepth 100000
namespace Go.Proofs.YtagnlbgbnfnapaaGreatDoor.turned
theorem fD:(Rows.turnedRow.wf (OpenSpec.ofChange (OpenSpec.ofChange Rows.turnedSpec).bare))=true:=by kernel_rfl
theorem eO:(Tryz.f5.params.all (prog.readableRec ·))=true:=by kernel_rfl
theorem eF:(namedTie prog Rows.turnedRow.named (OpenSpec.ofChange Rows.turnedSpec).bare.vars)=true:=by kernel_rfl
theorem eY:((Rows.turnedRow.stops==[]))=true:=by kernel_rfl
theorem eZ:((Rows.turnedRow.knobs==[]))=true:=by kernel_rfl
theorem dS:((Rows.turnedRow.inPlace==prog.inPlace 5))=true:=by kernel_rfl
theorem fq:((Rows.turnedRow.unfollowed==prog.unfollowed 5))=true:=by kernel_rfl
theorem eX:((Rows.turnedRow.recurses==prog.recurses 5))=true:=by kernel_rfl
theorem fB:((Rows.turnedRow.named==prog.varsNamed 5))=true:=by kernel_rfl
theorem dW:((Rows.turnedRow.maps==(Tryz.f5.params.toList++(OpenSpec.ofChange Rows.turnedSpec).bare.plain.varTypes prog).any (prog.mapsRec ·)))=true:=by kernel_rfl
theorem dX:((Rows.turnedRow.ifaces==(Tryz.f5.params.toList++(OpenSpec.ofChange Rows.turnedSpec).bare.plain.varTypes prog).any (prog.ifacesRec ·)))=true:=by kernel_rfl
theorem dY:((Rows.turnedRow.mapsOut==prog.mapsAmong Tryz.f5.resultTypes.toList))=true:=by kernel_rfl
theorem dZ:((Rows.turnedRow.loops==(Tryz.f5.params.toList++(OpenSpec.ofChange Rows.turnedSpec).bare.plain.varTypes prog).any (prog.loopsFrom ·)))=true:=by kernel_rfl
theorem ed:((Rows.turnedRow.wideKeys==(Tryz.f5.params.toList++(OpenSpec.ofChange Rows.turnedSpec).bare.plain.varTypes prog++Tryz.f5.resultTypes.toList).any (prog.wideKeysFrom ·)))=true:=by kernel_rfl
theorem fu:((OpenSpec.ofChange Rows.turnedSpec).bare.vars.all (prog.varReadable ·))=true:=by kernel_rfl
theorem eQ:(Tryz.f5.resultTypes.all (λt=>prog.readableRec t&&decide (t<prog.types.size)))=true:=by kernel_rfl
theorem eT:((Rows.turnedRow.ifacesOut==Tryz.f5.resultTypes.toList.any (prog.ifacesRec ·)))=true:=by kernel_rfl
theorem eU:((Rows.turnedRow.loopsOut==Tryz.f5.resultTypes.toList.any (prog.loopsFrom ·)))=true:=by kernel_rfl
theorem eH:((Rows.turnedRow.plainKeys==prog.plainKeys))=true:=by kernel_rfl
theorem fe:(Rows.turnedRow.shortTexts.isNone)=true:=by kernel_rfl
theorem dV:((Rows.turnedRow.lifted==prog.liftsFinal))=true:=by kernel_rfl
theorem eu:((prog.make==some Rows.turnedRow.make))=true:=by kernel_rfl
theorem dU:((Rows.turnedRow.kinds==(if Rows.turnedRow.domain.isEmpty then [] else Tryz.f5.params.toList.map λt=>match prog.underlying t with|some (.int k)=>some k|_=>none)))=true:=by kernel_rfl
theorem eG:((Rows.turnedRow.pinned==Rows.turnedRow.pinnedBy))=true:=by kernel_rfl
theorem fw:((Rows.turnedRow.veiled==(Tryz.f5.params.toList++(OpenSpec.ofChange Rows.turnedSpec).bare.plain.varTypes prog++Tryz.f5.resultTypes.toList).any (prog.veiledRec ·)))=true:=by kernel_rfl
theorem fA:(Rows.turnedRow.veiledFits prog Tryz.f5.params.toList (Tryz.f5.params.toList++(OpenSpec.ofChange Rows.turnedSpec).bare.plain.varTypes prog++Tryz.f5.resultTypes.toList))=true:=by kernel_rfl
theorem dR:Tryz.f5.isInstance prog Rows.turnedRow.origin Rows.turnedRow.targs:=XW (by kernel_rfl)
theorem fE:Tryz.f5.isWrapper prog Rows.turnedRow.wrapper Rows.turnedRow.mainSum:=by unfold Func.isWrapper;first|(rw[zb (by decide +kernel)];kernel_rfl)|(rw[za (by decide +kernel)];exact⟨rfl,rfl⟩)
theorem eD:prog.funcNamed Rows.turnedRow.func=some 5:=by kernel_rfl
end Go.Proofs.YtagnlbgbnfnapaaGreatDoor.turned
namespace Go.Proofs.YtagnlbgbnfnapaaGreatDoor.turned
open Go.ChangeShapes Go.WideShapes Go.ChangeAt Go.RowKit Go.Joins Go.Deep
open Go.ChangeMaps (open_string shut_string)
theorem contract(H:Type)(enc:TypeId×Value->H)(W:World)(base:Nat)(args:Array Value)(n E:List (DataW H))(before:List MemPlace)
  (c:∀(j:Nat) t v,Tryz.f5.params[j]?=some t->args[j]?=some v->Value.okWide prog W .any base t v)
  (G:DataW.Whole enc prog Tryz.f5.params.toList Rows.turnedSpec.vars false W args.toList n E before)
  (Z:(DataW.weightsEach prog (Tryz.f5.params.toList++(OpenSpec.ofChange Rows.turnedSpec).bare.plain.varTypes prog) (n++E)).all (·<=reachBytes)=true)(D:Addr)(F:Qh W D) :
  Calls prog 5 args W λe d=>∃v,e = .returned v/\Rows.turnedSpec.post enc prog Tryz.f5 false true false false W args v d:=by
 have k:=G;obtain⟨p,q,y,Q,rfl,T,V⟩:=G;have w:DataW.TrodAll enc prog W 0 (λ_=>true) true Tryz.f5.params.toList args.toList n p:=y;have z:∀x ∈ p,x.block<W.heap.size:=λx Y=>by simpa using k.lt x (ax _ Y)
 obtain⟨rfl,rfl⟩:=trodVars_none Q
 have g:∀d,Below W.heap.size W d->DataW.TrodAll enc prog d 0 (λb=>decide (b<W.heap.size)) true Tryz.f5.params.toList args.toList n p:=λd hb=>
  laws.Cc laws.laidOut hb _ _ _ _ (by rw[params5];decide +kernel) w z
 rw[params5] at w c;obtain⟨J,v1,v2,v3,K,L,M,N,p0,p1,p2,p3,rfl,rfl,rfl,r,O,P,u⟩:=trodAll_four w
 have m:∀(e:Ending) (d:World),e = .returned (.bool true)/\Below W.heap.size W d ->
   ∃v,e = .returned v/\Rows.turnedSpec.post enc prog Tryz.f5 false true false false W #[J,v1,v2,v3] v d:=by
  rintro e d ⟨rfl,hb⟩;refine⟨_,rfl,[K,L,M,N],[],_,[],p0++p1++p2++p3,[],k,trodAll_mk1 (shut_bool underlying4 true),?_,rfl,hb.frame _,λh=>by cases h⟩;exact g d hb
 obtain⟨z1,rfl,rfl,rfl,B⟩:=open_int underlying3 (c 1 3 v1 rfl rfl) O;obtain⟨z2,rfl,rfl,rfl,C⟩:=open_int underlying3 (c 2 3 v2 rfl rfl) P;obtain⟨a,len,cap,rfl⟩:=okWide_slice underlying26 (c 0 26 J rfl rfl);obtain⟨s,i,f,rfl⟩:=okWide_slice underlying56 (c 3 56 v3 rfl rfl);obtain⟨fuel,r⟩:=r;obtain⟨o,u⟩:=u;obtain⟨l,hm,I⟩:=gK (v := .slice a len cap) r (λ_=>rfl);obtain⟨asks,U,R⟩:=Ef (v := .slice s i f) u (λ_=>rfl);have A:=sG Z (j:=0) underlying26 r rfl rfl;rw[show prog.bytesOf 53=40 by kernel_rfl] at A;have X:=reachBytes_lt
 have S:l.length=len:=by
  obtain⟨_,_,e,_⟩:=I;injection e with _ e2
  exact e2.symm
 exact (zaJ l z1 z2 asks _ _ D W F F.q.p I (by omega) (wf_i64 B) (wf_i64 C) R U).mono m
theorem lifted(os:Os)(started:os.Started)(H:Type)(enc:TypeId×Value->H)(F:Stop.Interp) :
  ReturnsInHanded {} Tryz.checked os 5 .any ((OpenSpec.ofChange Rows.turnedSpec).preRow enc prog Tryz.f5 Rows.turnedRow.domain false Rows.turnedRow.laid) (((OpenSpec.ofChange Rows.turnedSpec).at F).post enc prog Tryz.f5 false true false false):=by
 obtain⟨places,j⟩:=reads os enc
 refine returnsInHanded_of_row (C:=Tryz.checked) (s:=OpenSpec.ofChange Rows.turnedSpec) laws.own started iZ func5
  (witness_row_atRef (enc:=enc) (C:=Tryz.checked) false (laws.laidWorld os) yU rfl (lm os) (lh os) (lg os)
    (OpenSpec.preRow_of_cond 8 j rfl (λk i=>by cases i) (ll os enc) (laws.si os _))) ?_
 intro W base args d e before a h _ _ l g b _;obtain⟨c,f⟩:=laws.oN g b;exact contract H enc W base args d e before a h l c f
theorem dQ:joinedFacts prog 5 Tryz.f5 (OpenSpec.ofChange Rows.turnedSpec).bare Rows.turnedRow=true:=by
 unfold joinedFacts;exact laws.zW (laws.zW (laws.zW (laws.zW (laws.zW (laws.zW (laws.zW (laws.zW (laws.zW (laws.zW (laws.zW (laws.zW (laws.zW (laws.zW (laws.zW (laws.zW (laws.zW (laws.zW (laws.zW (laws.zW (laws.zW (laws.zW (laws.zW (laws.zW (laws.zW (laws.zW (laws.zW (laws.zW (laws.zW (laws.zW (laws.zW (fD) laws.rM) laws.rP) eO) eF) eY) laws.rQ) eZ) laws.rR) dS) fq) eX) fB) dW) dX) dY) dZ) ed) fu) eQ) eT) eU) eH) fe) laws.rT) laws.rO) dV) eu) dU) eG) fw) fA
theorem said:Rows.TurnedSaid:=
 OpenClaim.holds_of_cond 5 Tryz.f5 rfl rfl rfl rfl rfl rfl rfl ⟨rfl,rfl,rfl,rfl,rfl⟩ rfl rfl rfl rfl rfl eD func5 dQ dR fE
  (λos started H enc _ F=>by rw[OpenClaim.pre_eq_preRow];exact lifted os started H enc F)
theorem plain (f:FuncId) (a:Func) (e:Tryz.pinned.checked.prog.funcNamed "warrant/warrantkeep.Turned" = some f) (b:Tryz.pinned.checked.prog.funcs[f]?=some a) :
  true=Tryz.pinned.checked.prog.looks []/\∀(j:Nat) t,a.params[j]?=some t->Tryz.pinned.checked.prog.wantsStandIn t=false:=by
 obtain rfl:f=5:=Option.some.inj ((show prog.funcNamed "warrant/warrantkeep.Turned" = some 5 by kernel_rfl).symm.trans e) |>.symm
 obtain rfl:a=Tryz.f5:=(Option.some.inj (func5.symm.trans b)).symm;refine⟨by kernel_rfl,λj t d=>?_⟩;rw[params5] at d;have c:=Array.mem_of_getElem? d;simp at c
 rcases c with rfl|rfl|rfl
 ·exact (show prog.wantsStandIn 26=false by kernel_rfl)
 ·exact (show prog.wantsStandIn 3=false by kernel_rfl)
 ·exact (show prog.wantsStandIn 56=false by kernel_rfl)
theorem card:Rows.TurnedCardSaid:=
 Claim7.holds_tied_plain_at .later [] _ _ _ _ said (λ_ h=>by cases h) (by kernel_rfl) (λ_ h=>by cases h) turned_row_tie rfl ⟨rfl,rfl⟩ (by kernel_rfl) rfl plain (by kernel_rfl)
end Go.Proofs.YtagnlbgbnfnapaaGreatDoor.turned
namespace Go.Proofs.YtagnlbgbnfnapaaGreatDoor
theorem turned_holds:Rows.TurnedCardSaid:=turned.card
end Go.Proofs.YtagnlbgbnfnapaaGreatDoor
