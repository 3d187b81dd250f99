/- Keeps: for every script of steps whose size is at most 1048576: its steps that make offices, put, drop, show and name documents answer in the program as in the reference; the library's tables and variables, the program's error of length, its table of sequences and its table of operations start as the text lays them. -/
import Derived.Test.YtdakgnaojakldaaGreatDoorCards
import Derived.Test.YtdakgnaojakldaaGreatDoorTie
import Derived.Test.YtdakgnaojakldaaGreatDoorP54
import Derived.SizedLaws
set_option maxRecDepth 100000
namespace Go.Proofs.YtdakgnaojakldaaGreatDoor.keeps
open Go.ChangeShapes Go.WideShapes Go.ChangeAt Go.RowKit Go.Joins Go.Deep
open Go.ChangeMaps (open_string shut_string)
theorem contract (H:Type) (enc:TypeId×Value→H) (W:World) (base:Nat) (args:Array Value) (ds gs:List (DataW H)) (before:List MemPlace)
  (hval:∀(j:Nat) t v,Tryz.f5.params[j]?=some t→args[j]?=some v→Value.okWide Tryz.prog W .any base t v)
  (hW:DataW.Whole enc Tryz.prog Tryz.f5.params.toList Rows.keepsSpec.vars false W args.toList ds gs before)
  (hk:Rows.uptoSmall H (ds++gs)=true) (aL:Addr) (hE:ziV W aL) :
  Calls Tryz.prog 5 args W fun e W'=>∃v,e = .returned v∧Rows.keepsSpec.post enc Tryz.prog Tryz.f5 false true false false W args v W':=by
 have hW':=hW
 obtain ⟨p,q,hA0,hV,rfl,hfz,hnd⟩:=hW
 have hA:DataW.TrodAll enc Tryz.prog W 0 (fun _=>true) true Tryz.f5.params.toList args.toList ds p:=hA0
 have hlt:∀x ∈ p,x.block<W.heap.size:=fun x hx=>by simpa using hW'.lt x (List.mem_append_left _ hx)
 obtain ⟨rfl,rfl⟩:=trodVars_none hV
 have hkeep:∀W',Below W.heap.size W W'→DataW.TrodAll enc Tryz.prog W' 0 (fun b=>decide (b<W.heap.size)) true Tryz.f5.params.toList args.toList ds p:=fun W' hb=>
  laws.KU laws.laidOut hb _ _ _ _ (by rw [Tryz.params5];decide +kernel) hA hlt
 rw [Tryz.params5] at hA hval
 obtain ⟨v0,d0,rfl,rfl,h0⟩:=trodAll_one hA
 have hfin:∀(e:Ending) (W':World),e = .returned (.bool true)∧Below W.heap.size W W' →
   ∃v,e = .returned v∧Rows.keepsSpec.post enc Tryz.prog Tryz.f5 false true false false W #[v0] v W':=by
  rintro e W' ⟨rfl,hb⟩
  refine ⟨_,rfl,[d0],[],_,[],p,[],hW',trodAll_mk1 (shut_bool Tryz.underlying4 true),?_,rfl,hb.frame _,fun h=>by cases h⟩
  exact hkeep W' hb
 obtain ⟨a,len,cap,rfl⟩:=okWide_slice Tryz.underlying28 (hval 0 28 v0 rfl rfl)
 obtain ⟨fuel,h0⟩:=h0
 obtain ⟨ops,hm,hl,hf⟩:=zi6 (v := .slice a len cap) h0 (fun _=>rfl)
 have hblk:Rows.uptoBulkAll ([d0]++[])≤1048576:=of_decide_eq_true hk
 simp only [List.append_nil,Rows.uptoBulkAll] at hblk
 simp only at hm
 exact (zb0 W aL hE _ ops hl hf (by omega)).mono hfin
theorem lifted (os:Os) (started:os.Started) (H:Type) (enc:TypeId×Value→H) (F:Stop.Interp) :
  ReturnsInHanded {} Tryz.checked os 5 .any ((Rows.OpenSpec.upto Rows.keepsSpec).preRow enc Tryz.prog Tryz.f5 Rows.keepsUptoRow.domain false Rows.keepsUptoRow.laid) (((Rows.OpenSpec.upto Rows.keepsSpec).at F).post enc Tryz.prog Tryz.f5 false true false false):=by
 obtain ⟨places,hx⟩:=reads os enc
 refine returnsInHanded_of_row (C:=Tryz.checked) (s:=Rows.OpenSpec.upto Rows.keepsSpec) laws.own started zmn Tryz.func5
  (witness_row_atRef (enc:=enc) (C:=Tryz.checked) false (laws.laidWorld os) VD rfl (zl3 os) (zmo os) (znD os)
   (OpenSpec.preRow_of_cond 8 hx (by kernel_rfl) (fun k hk=>by cases hk;kernel_rfl) (zkR os enc) (laws.laid_met os _))) ?_
 intro W base args ds gs before hval hW _ hcond _ hL hsh _
 obtain ⟨aL,hE⟩:=laws.zcS hL hsh
 exact contract H enc W base args ds gs before hval hW (hcond _ rfl) aL hE
theorem zmF:joinedFacts Tryz.prog 5 Tryz.f5 (Rows.OpenSpec.upto Rows.keepsSpec).bare Rows.keepsUptoRow=true:=by
 unfold joinedFacts
 exact laws.yQ (laws.yQ (laws.yQ (laws.yQ (laws.yQ (laws.yQ (laws.yQ (laws.yQ (laws.yQ (laws.yQ (laws.yQ (laws.yQ (laws.yQ (laws.yQ (laws.yQ (laws.yQ (laws.yQ (laws.yQ (laws.yQ (laws.yQ (laws.yQ (laws.yQ (laws.yQ (laws.yQ (laws.yQ (laws.yQ (laws.yQ (laws.yQ (laws.yQ (laws.yQ (laws.yQ (zm3) laws.zmZ) laws.znh) znk) znB) zne) laws.znc) znb) laws.znp) zm9) znj) znv) zm7) znf) zni) zns) znl) zm4) znn) zmY) znt) znx) zm6) znq) laws.znw) laws.zm0) zm8) znr) zm5) zng) znd) znC
theorem said:Rows.KeepsUptoSaid:=
 OpenClaim.holds_of_cond 5 Tryz.f5 rfl rfl rfl rfl rfl rfl rfl ⟨rfl,rfl,rfl,rfl,rfl⟩ rfl rfl rfl rfl rfl zlj Tryz.func5 zmF zl0 zmy
  (fun os started H enc _ F=>by rw [OpenClaim.pre_eq_preRow];exact lifted os started H enc F)
theorem plain (f:FuncId) (fn:Func) (hf:Tryz.pinned.checked.prog.funcNamed "warrant/warrantlaw.Keeps" = some f) (hfn:Tryz.pinned.checked.prog.funcs[f]?=some fn) :
  true=Tryz.pinned.checked.prog.looks []∧∀(j:Nat) t,fn.params[j]?=some t→Tryz.pinned.checked.prog.wantsStandIn t=false:=by
 obtain rfl:f=5:=Option.some.inj ((show Tryz.prog.funcNamed "warrant/warrantlaw.Keeps" = some 5 by kernel_rfl).symm.trans hf) |>.symm
 obtain rfl:fn=Tryz.f5:=(Option.some.inj (Tryz.func5.symm.trans hfn)).symm
 refine ⟨by kernel_rfl,fun j t ht=>?_⟩
 rw [Tryz.params5] at ht
 have hm:=Array.mem_of_getElem? ht
 simp at hm
 subst hm
 exact (show Tryz.prog.wantsStandIn 28=false by kernel_rfl)
theorem card:Rows.KeepsUptoCardSaid:=
 Claim7.holds_tied_plain_at .later [] _ _ _ _ said (fun _ h=>by cases h) (by kernel_rfl) (fun _ h=>by cases h) keepsUpto_row_tie rfl ⟨rfl,rfl⟩ (by kernel_rfl) rfl plain (by kernel_rfl)
end Go.Proofs.YtdakgnaojakldaaGreatDoor.keeps
namespace Go.Proofs.YtdakgnaojakldaaGreatDoor
theorem keeps_upto_holds:Rows.KeepsUptoCardSaid:=keeps.card
end Go.Proofs.YtdakgnaojakldaaGreatDoor
