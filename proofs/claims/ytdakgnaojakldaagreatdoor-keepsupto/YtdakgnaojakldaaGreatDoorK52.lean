/- Keeps: for every script of steps whose size is at most 1048576: its steps that make offices, put, drop, show and name documents answer in the program as in the reference; the library's tables and variables, the program's error of length, its table of sequences and its table of operations start as the text lays them. -/
import Derived.Test.YtdakgnaojakldaaGreatDoorCards
import Derived.Test.YtdakgnaojakldaaGreatDoorTie
import Derived.Test.YtdakgnaojakldaaGreatDoorK51
import Derived.SizedLaws
open Go.Proofs.Tryz
set_option maxRecDepth 100000
namespace Go.Proofs.YtdakgnaojakldaaGreatDoor.keeps
open Go.ChangeShapes Go.WideShapes Go.ChangeAt Go.RowKit Go.Joins Go.Deep
open Go.ChangeMaps (open_string shut_string)
theorem contract(H:Type)(enc:TypeId×Value->H)(W:World)(base:Nat)(args:Array Value)(k u:List (DataW H))(before:List MemPlace)
  (c:∀(j:Nat) t v,Tryz.f5.params[j]?=some t->args[j]?=some v->Value.okWide prog W .any base t v)
  (w:DataW.Whole enc prog Tryz.f5.params.toList Rows.keepsSpec.vars false W args.toList k u before)
  (D:Rows.uptoSmall H (k++u)=true)(r:Addr)(z:ZZ W r) :
  Calls prog 5 args W λe W'=>∃v,e = .returned v/\Rows.keepsSpec.post enc prog Tryz.f5 false true false false W args v W':=by
 have f:=w;obtain⟨p,q,n,A,rfl,C,G⟩:=w;have m:DataW.TrodAll enc prog W 0 (λ_=>true) true Tryz.f5.params.toList args.toList k p:=n;have o:∀x ∈ p,x.block<W.heap.size:=λx I=>by simpa using f.lt x (Vt _ I)
 obtain⟨rfl,rfl⟩:=trodVars_none A
 have d:∀W',Below W.heap.size W W'->DataW.TrodAll enc prog W' 0 (λb=>decide (b<W.heap.size)) true Tryz.f5.params.toList args.toList k p:=λW' hb=>
  laws.RZ laws.laidOut hb _ _ _ _ (by rw[params5];decide +kernel) m o
 rw[params5] at m c;obtain⟨y,s,rfl,rfl,l⟩:=trodAll_one m
 have i:∀(e:Ending) (W':World),e = .returned (.bool true)/\Below W.heap.size W W' ->
   ∃v,e = .returned v/\Rows.keepsSpec.post enc prog Tryz.f5 false true false false W #[y] v W':=by
  rintro e W' ⟨rfl,hb⟩;refine⟨_,rfl,[s],[],_,[],p,[],f,trodAll_mk1 (shut_bool underlying4 true),?_,rfl,hb.frame _,λh=>by cases h⟩;exact d W' hb
 obtain⟨a,len,cap,rfl⟩:=okWide_slice underlying28 (c 0 28 y rfl rfl);obtain⟨fuel,l⟩:=l;obtain⟨ops,F,E,B⟩:=Mw (v := .slice a len cap) l (λ_=>rfl);have g:Rows.uptoBulkAll ([s]++[])<=1048576:=of_decide_eq_true D;simp only[List.append_nil,Rows.uptoBulkAll] at g;simp only at F;exact (Ia W r z _ ops E B (by omega)).mono i
theorem lifted(os:Os)(started:os.Started)(H:Type)(enc:TypeId×Value->H)(F:Stop.Interp) :
  ReturnsInHanded {} Tryz.checked os 5 .any ((Rows.OpenSpec.upto Rows.keepsSpec).preRow enc prog Tryz.f5 Rows.keepsUptoRow.domain false Rows.keepsUptoRow.laid) (((Rows.OpenSpec.upto Rows.keepsSpec).at F).post enc prog Tryz.f5 false true false false):=by
 obtain⟨c,m⟩:=reads os enc
 refine returnsInHanded_of_row (C:=Tryz.checked) (s:=Rows.OpenSpec.upto Rows.keepsSpec) laws.own started Sv func5
  (witness_row_atRef (enc:=enc) (C:=Tryz.checked) false (laws.laidWorld os) ZW rfl (SA os) (Sy os) (Sw os)
    (OpenSpec.preRow_of_cond 8 m (by kernel_rfl) (λk l=>by cases l;kernel_rfl) (Sz os enc) (laws.Ie os _))) ?_
 intro W base args f g before b j _ a _ i d _;obtain⟨e,h⟩:=laws.DF i d;exact contract H enc W base args f g before b j (a _ rfl) e h
theorem Gt:joinedFacts prog 5 Tryz.f5 (Rows.OpenSpec.upto Rows.keepsSpec).bare Rows.keepsUptoRow=true:=by
 unfold joinedFacts;exact laws.xw (laws.xw (laws.xw (laws.xw (laws.xw (laws.xw (laws.xw (laws.xw (laws.xw (laws.xw (laws.xw (laws.xw (laws.xw (laws.xw (laws.xw (laws.xw (laws.xw (laws.xw (laws.xw (laws.xw (laws.xw (laws.xw (laws.xw (laws.xw (laws.xw (laws.xw (laws.xw (laws.xw (laws.xw (laws.xw (laws.xw (Hu) laws.Gy) laws.GK) GR) GM) GZ) laws.Ha) He) laws.Hf) Gv) Hm) GY) Ht) Gz) GA) GD) GG) GH) Ho) GU) GV) GX) GQ) Hl) laws.Hg) laws.GI) Gx) GJ) Gw) GN) Hq) Hr
theorem said:Rows.KeepsUptoSaid:=
 OpenClaim.holds_of_cond 5 Tryz.f5 rfl rfl rfl rfl rfl rfl rfl ⟨rfl,rfl,rfl,rfl,rfl⟩ rfl rfl rfl rfl rfl GL func5 Gt Gu Hw
  (λos started H enc _ F=>by rw[OpenClaim.pre_eq_preRow];exact lifted os started H enc F)
theorem plain (f:FuncId) (a:Func) (e:Tryz.pinned.checked.prog.funcNamed "warrant/warrantlaw.Keeps" = some f) (b:Tryz.pinned.checked.prog.funcs[f]?=some a) :
  true=Tryz.pinned.checked.prog.looks []/\∀(j:Nat) t,a.params[j]?=some t->Tryz.pinned.checked.prog.wantsStandIn t=false:=by
 obtain rfl:f=5:=Option.some.inj ((show prog.funcNamed "warrant/warrantlaw.Keeps" = some 5 by kernel_rfl).symm.trans e) |>.symm
 obtain rfl:a=Tryz.f5:=(Option.some.inj (func5.symm.trans b)).symm;refine⟨by kernel_rfl,λj t d=>?_⟩;rw[params5] at d;have c:=Array.mem_of_getElem? d;simp at c;subst c;exact (show prog.wantsStandIn 28=false by kernel_rfl)
theorem card:Rows.KeepsUptoCardSaid:=
 Claim7.holds_tied_plain_at .later [] _ _ _ _ said (λ_ h=>by cases h) (by kernel_rfl) (λ_ h=>by cases h) keepsUpto_row_tie rfl ⟨rfl,rfl⟩ (by kernel_rfl) rfl plain (by kernel_rfl)
end Go.Proofs.YtdakgnaojakldaaGreatDoor.keeps
namespace Go.Proofs.YtdakgnaojakldaaGreatDoor
theorem keeps_upto_holds:Rows.KeepsUptoCardSaid:=keeps.card
end Go.Proofs.YtdakgnaojakldaaGreatDoor
