/- All: for every script of steps whose size is at most 1048576: every call, in every order, over several offices, answers in the program as in the reference; the marks that are handed in are as they were, and every list that came out stays its owner's; the library's tables and variables, the program's error of length, its table of sequences and its table of operations start as the text lays them. -/
import Derived.Test.YtfjpcldndaiifaaGreatDoorCards
import Derived.Test.YtfjpcldndaiifaaGreatDoorTie
import Derived.Test.YtfjpcldndaiifaaGreatDoorA44
open Go.Proofs.Tryz
set_option maxRecDepth 100000
namespace Go.Proofs.YtfjpcldndaiifaaGreatDoor.all
open Go.ChangeShapes Go.WideShapes Go.ChangeAt Go.RowKit Go.Joins Go.Deep
open Go.ChangeMaps (open_string shut_string)
theorem contract(H:Type)(enc:TypeId×Y->H)(W:J)(base:Nat)(c:Array Y)(m C:List (DataW H))(d:List MemPlace)
  (f:∀(j:Nat) t v,Tryz.f3.params[j]?=some t->c[j]?=some v->Value.okWide prog W .any base t v)
  (D:DataW.Whole enc prog Tryz.f3.params.toList Rows.allSpec.vars false W c.toList m C d)
  (M:Rows.uptoSmall H (m++C)=true)(A:Addr)(I:jL W A):R8 3 c W λe W'=>∃v,e=.returned v/\Rows.allSpec.post enc prog Tryz.f3 false true false false W c v W':=by
 have i:=D;obtain⟨p,q,w,K,rfl,L,P⟩:=D;have u:DataW.TrodAll enc prog W 0 (λ_=>true) true Tryz.f3.params.toList c.toList m p:=w;have y:∀x ∈ p,x.block<W.heap.size:=λx Q=>by simpa using i.lt x (aN _ Q)
 obtain⟨rfl,rfl⟩:=trodVars_none K
 have g:∀W',BQ W W'->DataW.TrodAll enc prog W' 0 (λb=>decide (b<W.heap.size)) true Tryz.f3.params.toList c.toList m p:=λW' n=>
  laws.zfo laws.laidOut n _ _ _ _ (by rw[params3];decide +kernel) u y
 rw[params3]at u f;obtain⟨G,d0,rfl,rfl,s⟩:=trodAll_one u
 have l:∀(e:Ending) (W':J),e=.returned (.bool true)/\BQ W W' ->
   ∃v,e=.returned v/\Rows.allSpec.post enc prog Tryz.f3 false true false false W #[G] v W':=by
  rintro e W'⟨rfl,n⟩;refine⟨_,rfl,[d0],[],_,[],p,[],i,trodAll_mk1 (shut_bool underlying4 true),?_,rfl,n.frame _,λh=>by cases h⟩;exact g W' n
 obtain⟨a,len,r,rfl⟩:=okWide_slice underlying22 (f 0 22 G rfl rfl);obtain⟨B,s⟩:=s;obtain⟨z,O,N,E⟩:=zbQ (v := TL a len r) s (λ_=>rfl);have k:Rows.uptoBulkAll ([d0]++[])<=1048576:=DL M;simp only[List.append_nil,Rows.uptoBulkAll]at k;simp only at O;exact(Ho W A I _ z N (λo F=>⟨(E o F).1,(E o F).2.more (by simp only;omega)⟩) (by omega)).mono l
theorem lifted(c:Os)(a:c.Started)(H:Type)(enc:TypeId×Y->H)(F:Stop.Interp):ReturnsInHanded {} Tryz.checked c 3 .any ((Rows.OpenSpec.upto Rows.allSpec).preRow enc prog Tryz.f3 Rows.allUptoRow.domain false Rows.allUptoRow.laid) (((Rows.OpenSpec.upto Rows.allSpec).at F).post enc prog Tryz.f3 false true false false):=by
 obtain⟨g,q⟩:=reads c enc
 refine returnsInHanded_of_row (C:=Tryz.checked) (s:=Rows.OpenSpec.upto Rows.allSpec) laws.own a zfJ func3
  (witness_row_atRef (enc:=enc) (C:=Tryz.checked) false (laws.laidWorld c) XH rfl (zfN c) (zfL c) (zfK c)
    (OpenSpec.preRow_of_cond 8 q (by kernel_rfl) (λk p=>by cases p;kernel_rfl) (zfM c enc) (laws.WR c _))) ?_
 intro W base e j l b f o _ d _ n h _;obtain⟨i,m⟩:=laws.Ph n h;exact contract H enc W base e j l b f o (d _ rfl) i m
theorem TR:joinedFacts prog 3 Tryz.f3 (Rows.OpenSpec.upto Rows.allSpec).bare Rows.allUptoRow=true:=by
 unfold joinedFacts;exact laws.yf (laws.yf (laws.yf (laws.yf (laws.yf (laws.yf (laws.yf (laws.yf (laws.yf (laws.yf (laws.yf (laws.yf (laws.yf (laws.yf (laws.yf (laws.yf (laws.yf (laws.yf (laws.yf (laws.yf (laws.yf (laws.yf (laws.yf (laws.yf (laws.yf (laws.yf (laws.yf (laws.yf (laws.yf (laws.yf (laws.yf (WJ) laws.TW) laws.Wl) Wq) Wn) Ww) laws.Wx) Wy) laws.Wz) TT) WC) Wv) WI) TY) TZ) Wd) We) Wh) WE) Ws) Wt) Wu) Wp) WB) laws.WA) laws.Wi) TV) Wj) TU) Wo) WF) WG
theorem said:Rows.AllUptoSaid:=
 OpenClaim.holds_of_cond 3 Tryz.f3 rfl rfl rfl rfl rfl rfl rfl ⟨rfl,rfl,rfl,rfl,rfl⟩ rfl rfl rfl rfl rfl Wm func3 TR TS WK
  (λb a H enc _ F=>by rw[OpenClaim.pre_eq_preRow];exact lifted b a H enc F)
theorem plain (f:FuncId) (a:Func) (e:Tryz.pinned.checked.prog.funcNamed "warrant/warrantlaw.All" = some f) (b:Tryz.pinned.checked.prog.funcs[f]?=some a):true=Tryz.pinned.checked.prog.looks []/\∀(j:Nat) t,a.params[j]?=some t->Tryz.pinned.checked.prog.wantsStandIn t=false:=by
 obtain rfl:f=3:=Option.some.inj ((show prog.funcNamed "warrant/warrantlaw.All" = some 3 by kernel_rfl).symm.trans e) |>.symm
 obtain rfl:a=Tryz.f3:=(Option.some.inj (func3.symm.trans b)).symm;refine⟨by kernel_rfl,λj t d=>?_⟩;rw[params3]at d;have c:=Array.mem_of_getElem? d;simp at c;subst c;exact(show prog.wantsStandIn 22=false by kernel_rfl)
theorem card:Rows.AllUptoCardSaid:=
 Claim7.holds_tied_plain_at .later [] _ _ _ _ said (λ_ h=>by cases h) (by kernel_rfl) (λ_ h=>by cases h) allUpto_row_tie rfl ⟨rfl,rfl⟩ (by kernel_rfl) rfl plain (by kernel_rfl)
end Go.Proofs.YtfjpcldndaiifaaGreatDoor.all
namespace Go.Proofs.YtfjpcldndaiifaaGreatDoor
theorem all_upto_holds:Rows.AllUptoCardSaid:=all.card
end Go.Proofs.YtfjpcldndaiifaaGreatDoor
