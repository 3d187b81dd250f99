/- Keeps: for every script of steps: its steps that make offices, put, drop, show and name documents answer in the program as in the reference; the library's tables and variables, the program's error of length, its table of sequences and its table of operations start as the text lays them. -/
import Derived.Test.YtagnlbgbnfnapaaGreatDoorCards
import Derived.Test.YtagnlbgbnfnapaaGreatDoorTie
import Derived.Test.YtagnlbgbnfnapaaGreatDoorK52
open Go.Proofs.Tryz
set_option maxRecDepth 100000
namespace Go.Proofs.YtagnlbgbnfnapaaGreatDoor.keeps
open Go.ChangeShapes Go.WideShapes Go.ChangeAt Go.RowKit Go.Joins Go.Deep
open Go.ChangeMaps (open_string shut_string)
theorem contract(H:Type)(enc:TypeId×Value->H)(W:World)(base:Nat)(args:Array Value)(i s:List (DataW H))(before:List MemPlace)
  (c:∀(j:Nat) t v,Tryz.f3.params[j]?=some t->args[j]?=some v->Value.okWide prog W .any base t v)
  (u:DataW.Whole enc prog Tryz.f3.params.toList Rows.keepsSpec.vars false W args.toList i s before)
  (J:(DataW.weightsEach prog (Tryz.f3.params.toList++(OpenSpec.ofChange Rows.keepsSpec).bare.plain.varTypes prog) (i++s)).all (·<=reachBytes)=true)(r:Addr)(A:Z5 W r) :
  Calls prog 3 args W λe W'=>∃v,e = .returned v/\Rows.keepsSpec.post enc prog Tryz.f3 false true false false W args v W':=by
 have f:=u;obtain⟨p,q,m,B,rfl,E,F⟩:=u;have l:DataW.TrodAll enc prog W 0 (λ_=>true) true Tryz.f3.params.toList args.toList i p:=m;have n:∀x ∈ p,x.block<W.heap.size:=λx I=>by simpa using f.lt x (VC _ I)
 obtain⟨rfl,rfl⟩:=trodVars_none B
 have d:∀W',Below W.heap.size W W'->DataW.TrodAll enc prog W' 0 (λb=>decide (b<W.heap.size)) true Tryz.f3.params.toList args.toList i p:=λW' hb=>
  laws.Sz laws.laidOut hb _ _ _ _ (by rw[params3];decide +kernel) l n
 rw[params3] at l c;obtain⟨y,z,rfl,rfl,k⟩:=trodAll_one l
 have g:∀(e:Ending) (W':World),e = .returned (.bool true)/\Below W.heap.size W W' ->
   ∃v,e = .returned v/\Rows.keepsSpec.post enc prog Tryz.f3 false true false false W #[y] v W':=by
  rintro e W' ⟨rfl,hb⟩;refine⟨_,rfl,[z],[],_,[],p,[],f,trodAll_mk1 (shut_bool underlying4 true),?_,rfl,hb.frame _,λh=>by cases h⟩;exact d W' hb
 obtain⟨a,len,cap,rfl⟩:=okWide_slice underlying22 (c 0 22 y rfl rfl);obtain⟨fuel,k⟩:=k;obtain⟨ops,_,w,D⟩:=MS (v := .slice a len cap) k (λ_=>rfl);have o:=IV J (j:=0) underlying22 k rfl rfl;rw[show prog.bytesOf 67=128 by kernel_rfl] at o;have G:=reachBytes_lt
 have C:ops.length=len:=by
  obtain⟨_,_,e,_⟩:=w;injection e with _ e2
  exact e2.symm
 exact (IA W r A _ ops w D (by omega)).mono g
theorem lifted(os:Os)(started:os.Started)(H:Type)(enc:TypeId×Value->H)(F:Stop.Interp) :
  ReturnsInHanded {} Tryz.checked os 3 .any ((OpenSpec.ofChange Rows.keepsSpec).preRow enc prog Tryz.f3 Rows.keepsRow.domain false Rows.keepsRow.laid) (((OpenSpec.ofChange Rows.keepsSpec).at F).post enc prog Tryz.f3 false true false false):=by
 obtain⟨places,j⟩:=reads os enc
 refine returnsInHanded_of_row (C:=Tryz.checked) (s:=OpenSpec.ofChange Rows.keepsSpec) laws.own started Ta func3
  (witness_row_atRef (enc:=enc) (C:=Tryz.checked) false (laws.laidWorld os) ZZ rfl (Tf os) (Td os) (Tc os)
    (OpenSpec.preRow_of_cond 8 j rfl (λk i=>by cases i) (Te os enc) (laws.IC os _))) ?_
 intro W base args d e before a h _ _ l g b _;obtain⟨c,f⟩:=laws.Ee g b;exact contract H enc W base args d e before a h l c f
theorem GU:joinedFacts prog 3 Tryz.f3 (OpenSpec.ofChange Rows.keepsSpec).bare Rows.keepsRow=true:=by
 unfold joinedFacts;exact laws.xz (laws.xz (laws.xz (laws.xz (laws.xz (laws.xz (laws.xz (laws.xz (laws.xz (laws.xz (laws.xz (laws.xz (laws.xz (laws.xz (laws.xz (laws.xz (laws.xz (laws.xz (laws.xz (laws.xz (laws.xz (laws.xz (laws.xz (laws.xz (laws.xz (laws.xz (laws.xz (laws.xz (laws.xz (laws.xz (laws.xz (Iu) laws.Ha) laws.Hr) Hz) Hu) Ig) laws.Ih) Ii) laws.Ij) GX) Im) Ie) Ir) He) Hf) Hg) Hl) Hm) Io) Ia) Ib) Ic) Hy) Il) laws.Ik) laws.Ho) GZ) Hq) GY) Hw) Ip) Iq
theorem said:Rows.KeepsSaid:=
 OpenClaim.holds_of_cond 3 Tryz.f3 rfl rfl rfl rfl rfl rfl rfl ⟨rfl,rfl,rfl,rfl,rfl⟩ rfl rfl rfl rfl rfl Ht func3 GU GV Iw
  (λos started H enc _ F=>by rw[OpenClaim.pre_eq_preRow];exact lifted os started H enc F)
theorem plain (f:FuncId) (a:Func) (e:Tryz.pinned.checked.prog.funcNamed "warrant/warrantlaw.Keeps" = some f) (b:Tryz.pinned.checked.prog.funcs[f]?=some a) :
  true=Tryz.pinned.checked.prog.looks []/\∀(j:Nat) t,a.params[j]?=some t->Tryz.pinned.checked.prog.wantsStandIn t=false:=by
 obtain rfl:f=3:=Option.some.inj ((show prog.funcNamed "warrant/warrantlaw.Keeps" = some 3 by kernel_rfl).symm.trans e) |>.symm
 obtain rfl:a=Tryz.f3:=(Option.some.inj (func3.symm.trans b)).symm;refine⟨by kernel_rfl,λj t d=>?_⟩;rw[params3] at d;have c:=Array.mem_of_getElem? d;simp at c;subst c;exact (show prog.wantsStandIn 22=false by kernel_rfl)
theorem card:Rows.KeepsCardSaid:=
 Claim7.holds_tied_plain_at .later [] _ _ _ _ said (λ_ h=>by cases h) (by kernel_rfl) (λ_ h=>by cases h) keeps_row_tie rfl ⟨rfl,rfl⟩ (by kernel_rfl) rfl plain (by kernel_rfl)
end Go.Proofs.YtagnlbgbnfnapaaGreatDoor.keeps
namespace Go.Proofs.YtagnlbgbnfnapaaGreatDoor
theorem keeps_holds:Rows.KeepsCardSaid:=keeps.card
end Go.Proofs.YtagnlbgbnfnapaaGreatDoor
