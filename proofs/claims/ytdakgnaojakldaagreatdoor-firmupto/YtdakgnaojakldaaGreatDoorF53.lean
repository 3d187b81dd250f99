/- Firm: for all raw papers, raw statements, a layer, further raw papers and a raw request whose size is at most 1048576: a document that only denies turns no Deny and no Silent into Allow, in whatever layer; and while it denies the request it is denied, whatever else is put; the library's tables and variables, the program's error of length, its table of sequences and its table of operations start as the text lays them. -/
import Derived.Test.YtdakgnaojakldaaGreatDoorCards
import Derived.Test.YtdakgnaojakldaaGreatDoorTie
import Derived.Test.YtdakgnaojakldaaGreatDoorF51
import Derived.Test.YtdakgnaojakldaaGreatDoorF52
import Derived.SizedLaws
open Go.Proofs.Tryz
set_option maxRecDepth 100000
namespace Go.Proofs.YtdakgnaojakldaaGreatDoor.firm
open Go.ChangeShapes Go.WideShapes Go.ChangeAt Go.RowKit Go.Joins Go.Deep
open Go.ChangeMaps (open_string shut_string)
theorem contract(H:Type)(enc:TypeId×Value->H)(W:World)(base:Nat)(args:Array Value)(y U:List (DataW H))(before:List MemPlace)
  (c:∀(j:Nat) t v,Tryz.f12.params[j]?=some t->args[j]?=some v->Value.okWide prog W .any base t v)
  (X:DataW.Whole enc prog Tryz.f12.params.toList Rows.firmSpec.vars false W args.toList y U before)
  (hk:Rows.uptoSmall H (y++U)=true)(P:Addr)(V:ZP W P) :
  Calls prog 12 args W λe d=>∃v,e = .returned v/\Rows.firmSpec.post enc prog Tryz.f12 false true false false W args v d:=by
 have o:=X;obtain⟨p,q,J,hV,rfl,a8,b2⟩:=X;have I:DataW.TrodAll enc prog W 0 (λ_=>true) true Tryz.f12.params.toList args.toList y p:=J;have L:∀x ∈ p,x.block<W.heap.size:=λx hx=>by simpa using o.lt x (List.mem_append_left _ hx)
 obtain⟨rfl,rfl⟩:=trodVars_none hV
 have i:∀d,Below W.heap.size W d->DataW.TrodAll enc prog d 0 (λb=>decide (b<W.heap.size)) true Tryz.f12.params.toList args.toList y p:=λd hb=>
  laws.Sj laws.laidOut hb _ _ _ _ (by rw[params12];decide +kernel) I L
 rw[params12] at I c;obtain⟨Y,v1,v2,v3,Z,Q,R,d2,S,T,p0,p1,p2,p3,p4,rfl,rfl,rfl,E,A,h2,F,G⟩:=Sk I
 have s:∀(e:Ending) (d:World),e = .returned (.bool true)/\Below W.heap.size W d ->
   ∃v,e = .returned v/\Rows.firmSpec.post enc prog Tryz.f12 false true false false W #[Y,v1,v2,v3,Z] v d:=by
  rintro e d ⟨rfl,hb⟩;refine⟨_,rfl,[Q,R,d2,S,T],[],_,[],p0++p1++p2++p3++p4,[],o,trodAll_mk1 (shut_bool underlying4 true),?_,rfl,hb.frame _,λh=>by cases h⟩;exact i d hb
 obtain⟨z2,rfl,rfl,rfl,O⟩:=open_int underlying3 (c 2 3 v2 rfl rfl) h2;obtain⟨a,len,cap,rfl⟩:=okWide_slice underlying36 (c 0 36 Y rfl rfl);obtain⟨a',f,m,rfl⟩:=okWide_slice underlying32 (c 1 32 v1 rfl rfl);obtain⟨a3,w,n,rfl⟩:=okWide_slice underlying36 (c 3 36 v3 rfl rfl);obtain⟨B,k,g,rfl⟩:=okWide_slice underlying30 (c 4 30 Z rfl rfl);obtain⟨fuel,E⟩:=E;obtain⟨C,A⟩:=A;obtain⟨D,F⟩:=F;obtain⟨z,G⟩:=G;obtain⟨l,hm,hl⟩:=mf (v := .slice a len cap) E (λ_=>rfl);obtain⟨rules,b3,u⟩:=nM (v := .slice a' f m) A (λ_=>rfl);obtain⟨more,M,N⟩:=mf (v := .slice a3 w n) F (λ_=>rfl);obtain⟨raw,_,ha⟩:=J7 (v := .slice B k g) G (λ_=>rfl);have K:=Od A;have r:Rows.uptoBulkAll ([Q,R,_,S,T]++[])<=1048576:=of_decide_eq_true hk;simp only[List.append_nil,Rows.uptoBulkAll] at r
 have a7:rules.length=f:=by
  obtain⟨_,_,e,_⟩:=u;injection e with _ e2
  exact e2.symm
 simp only at K;exact (Du l rules z2 more raw _ _ _ _ P W V V.q.p hl hm u (by omega) (wf_i64 O) N M ha).mono s
theorem lifted(os:Os)(started:os.Started)(H:Type)(enc:TypeId×Value->H)(F:Stop.Interp) :
  ReturnsInHanded {} Tryz.checked os 12 .any ((Rows.OpenSpec.upto Rows.firmSpec).preRow enc prog Tryz.f12 Rows.firmUptoRow.domain false Rows.firmUptoRow.laid) (((Rows.OpenSpec.upto Rows.firmSpec).at F).post enc prog Tryz.f12 false true false false):=by
 obtain⟨c,m⟩:=reads os enc
 refine returnsInHanded_of_row (C:=Tryz.checked) (s:=Rows.OpenSpec.upto Rows.firmSpec) laws.own started SI func12
  (witness_row_atRef (enc:=enc) (C:=Tryz.checked) false (laws.laidWorld os) Zl rfl (SQ os) (SL os) (SK os)
    (OpenSpec.preRow_of_cond 8 m (by kernel_rfl) (λk l=>by cases l;kernel_rfl) (SN os enc) (laws.GX os _))) ?_
 intro W base args f g before b j _ a _ i d _;obtain⟨e,h⟩:=laws.Cs i d;exact contract H enc W base args f g before b j (a _ rfl) e h
theorem FQ:joinedFacts prog 12 Tryz.f12 (Rows.OpenSpec.upto Rows.firmSpec).bare Rows.firmUptoRow=true:=by
 unfold joinedFacts;exact laws.qI (laws.qI (laws.qI (laws.qI (laws.qI (laws.qI (laws.qI (laws.qI (laws.qI (laws.qI (laws.qI (laws.qI (laws.qI (laws.qI (laws.qI (laws.qI (laws.qI (laws.qI (laws.qI (laws.qI (laws.qI (laws.qI (laws.qI (laws.qI (laws.qI (laws.qI (laws.qI (laws.qI (laws.qI (laws.qI (laws.qI (GJ) laws.FX) laws.Gg) Gn) Gi) Gt) laws.Gu) Gv) laws.Gw) FT) Gz) Gs) GI) FY) FZ) Ga) Gb) Gc) GA) Gp) Gq) Gr) Gm) Gy) laws.Gx) laws.Gd) FW) Gf) FU) Gj) GD) GH
theorem said:Rows.FirmUptoSaid:=
 OpenClaim.holds_of_cond 12 Tryz.f12 rfl rfl rfl rfl rfl rfl rfl ⟨rfl,rfl,rfl,rfl,rfl⟩ rfl rfl rfl rfl rfl Gh func12 FQ FR GK
  (λos started H enc _ F=>by rw[OpenClaim.pre_eq_preRow];exact lifted os started H enc F)
theorem plain (f:FuncId) (a:Func) (e:Tryz.pinned.checked.prog.funcNamed "warrant/warrantkeep.Firm" = some f) (b:Tryz.pinned.checked.prog.funcs[f]?=some a) :
  true=Tryz.pinned.checked.prog.looks []/\∀(j:Nat) t,a.params[j]?=some t->Tryz.pinned.checked.prog.wantsStandIn t=false:=by
 obtain rfl:f=12:=Option.some.inj ((show prog.funcNamed "warrant/warrantkeep.Firm" = some 12 by kernel_rfl).symm.trans e) |>.symm
 obtain rfl:a=Tryz.f12:=(Option.some.inj (func12.symm.trans b)).symm;refine⟨by kernel_rfl,λj t d=>?_⟩;rw[params12] at d;have c:=Array.mem_of_getElem? d;simp at c
 rcases c with rfl|rfl|rfl|rfl|rfl
 ·exact (show prog.wantsStandIn 36=false by kernel_rfl)
 ·exact (show prog.wantsStandIn 32=false by kernel_rfl)
 ·exact (show prog.wantsStandIn 3=false by kernel_rfl)
 ·exact (show prog.wantsStandIn 36=false by kernel_rfl)
 ·exact (show prog.wantsStandIn 30=false by kernel_rfl)
theorem card:Rows.FirmUptoCardSaid:=
 Claim7.holds_tied_plain_at .later [] _ _ _ _ said (λ_ h=>by cases h) (by kernel_rfl) (λ_ h=>by cases h) firmUpto_row_tie rfl ⟨rfl,rfl⟩ (by kernel_rfl) rfl plain (by kernel_rfl)
end Go.Proofs.YtdakgnaojakldaaGreatDoor.firm
namespace Go.Proofs.YtdakgnaojakldaaGreatDoor
theorem firm_upto_holds:Rows.FirmUptoCardSaid:=firm.card
end Go.Proofs.YtdakgnaojakldaaGreatDoor
