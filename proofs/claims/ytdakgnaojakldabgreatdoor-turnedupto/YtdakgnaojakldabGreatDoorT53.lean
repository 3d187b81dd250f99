/- Turned: for all raw papers, two numbers and raw requests whose size is at most 1048576: the statements of every document in another order, their lists in another order and with one part twice, in another form, leave the verdict, the layer and the document of every decision of these requests as they were; the library's tables and variables, the program's error of length, its table of sequences and its table of operations start as the text lays them. -/
import Derived.Test.YtdakgnaojakldabGreatDoorCards
import Derived.Test.YtdakgnaojakldabGreatDoorTie
import Derived.Test.YtdakgnaojakldabGreatDoorT51
import Derived.Test.YtdakgnaojakldabGreatDoorT52
import Derived.SizedLaws
open Go.Proofs.Tryz
set_option maxRecDepth 100000
namespace Go.Proofs.YtdakgnaojakldabGreatDoor.turned
open Go.ChangeShapes Go.WideShapes Go.ChangeAt Go.RowKit Go.Joins Go.Deep
open Go.ChangeMaps (open_string shut_string)
theorem contract(H:Type)(enc:TypeId×Value->H)(W:World)(base:Nat)(args:Array Value)(o J:List (DataW H))(before:List MemPlace)
  (c:∀(j:Nat) t v,Tryz.f3.params[j]?=some t->args[j]?=some v->Value.okWide prog W .any base t v)
  (L:DataW.Whole enc prog Tryz.f3.params.toList Rows.turnedSpec.vars false W args.toList o J before)
  (hk:Rows.uptoSmall H (o++J)=true)(F:Addr)(K:Zz W F) :
  Calls prog 3 args W λe d=>∃v,e = .returned v/\Rows.turnedSpec.post enc prog Tryz.f3 false true false false W args v d:=by
 have k:=L;obtain⟨p,q,A,V,rfl,Z,a2⟩:=L;have z:DataW.TrodAll enc prog W 0 (λ_=>true) true Tryz.f3.params.toList args.toList o p:=A;have C:∀x ∈ p,x.block<W.heap.size:=λx hx=>by simpa using k.lt x (List.mem_append_left _ hx)
 obtain⟨rfl,rfl⟩:=trodVars_none V
 have g:∀d,Below W.heap.size W d->DataW.TrodAll enc prog d 0 (λb=>decide (b<W.heap.size)) true Tryz.f3.params.toList args.toList o p:=λd u=>
  laws.Ra laws.laidOut u _ _ _ _ (by rw[params3];decide +kernel) z C
 rw[params3] at z c;obtain⟨N,O,P,Q,G,R,S,I,p0,p1,p2,p3,rfl,rfl,rfl,s,T,U,y⟩:=trodAll_four z
 have n:∀(e:Ending) (d:World),e = .returned (.bool true)/\Below W.heap.size W d ->
   ∃v,e = .returned v/\Rows.turnedSpec.post enc prog Tryz.f3 false true false false W #[N,O,P,Q] v d:=by
  rintro e d ⟨rfl,u⟩;refine⟨_,rfl,[G,R,S,I],[],_,[],p0++p1++p2++p3,[],k,trodAll_mk1 (shut_bool underlying4 true),?_,rfl,u.frame _,λh=>by cases h⟩;exact g d u
 obtain⟨z1,rfl,rfl,rfl,D⟩:=open_int underlying3 (c 1 3 O rfl rfl) T;obtain⟨z2,rfl,rfl,rfl,E⟩:=open_int underlying3 (c 2 3 P rfl rfl) U;obtain⟨a,len,cap,rfl⟩:=okWide_slice underlying22 (c 0 22 N rfl rfl);obtain⟨w,i,f,rfl⟩:=okWide_slice underlying23 (c 3 23 Q rfl rfl);obtain⟨fuel,s⟩:=s;obtain⟨r,y⟩:=y;obtain⟨l,hm,M⟩:=IR (v := .slice a len cap) s (λ_=>rfl);obtain⟨asks,hn,X⟩:=pW (v := .slice w i f) y (λ_=>rfl);have B:=IQ s;have m:Rows.uptoBulkAll ([G,_,_,I]++[])<=1048576:=of_decide_eq_true hk;simp only[List.append_nil,Rows.uptoBulkAll] at m
 have Y:l.length=len:=by
  obtain⟨_,_,e,_⟩:=M;injection e with _ e2
  exact e2.symm
 simp only at B;exact (Re l z1 z2 asks _ _ F W K K.q.p M (by omega) (wf_i64 D) (wf_i64 E) X hn).mono n
theorem lifted(os:Os)(started:os.Started)(H:Type)(enc:TypeId×Value->H)(F:Stop.Interp) :
  ReturnsInHanded {} Tryz.checked os 3 .any ((Rows.OpenSpec.upto Rows.turnedSpec).preRow enc prog Tryz.f3 Rows.turnedUptoRow.domain false Rows.turnedUptoRow.laid) (((Rows.OpenSpec.upto Rows.turnedSpec).at F).post enc prog Tryz.f3 false true false false):=by
 obtain⟨places,l⟩:=reads os enc
 refine returnsInHanded_of_row (C:=Tryz.checked) (s:=Rows.OpenSpec.upto Rows.turnedSpec) laws.own started Rx func3
  (witness_row_atRef (enc:=enc) (C:=Tryz.checked) false (laws.laidWorld os) Zb rfl (RD os) (Rz os) (Ry os)
    (OpenSpec.preRow_of_cond 8 l (by kernel_rfl) (λk j=>by cases j;kernel_rfl) (RA os enc) (laws.FM os _))) ?_
 intro W base args e f before b i _ a _ h c _;obtain⟨d,g⟩:=laws.Bi h c;exact contract H enc W base args e f before b i (a _ rfl) d g
theorem EE:joinedFacts prog 3 Tryz.f3 (Rows.OpenSpec.upto Rows.turnedSpec).bare Rows.turnedUptoRow=true:=by
 unfold joinedFacts;exact laws.qH (laws.qH (laws.qH (laws.qH (laws.qH (laws.qH (laws.qH (laws.qH (laws.qH (laws.qH (laws.qH (laws.qH (laws.qH (laws.qH (laws.qH (laws.qH (laws.qH (laws.qH (laws.qH (laws.qH (laws.qH (laws.qH (laws.qH (laws.qH (laws.qH (laws.qH (laws.qH (laws.qH (laws.qH (laws.qH (laws.qH (Fz) laws.EJ) laws.ET) EZ) EW) Fg) laws.Fh) Fj) laws.Fp) EG) Fu) Ff) Fy) EK) EM) EN) EO) EP) Fv) Fa) Fb) Fe) EY) Fs) laws.Fq) laws.EQ) EI) ER) EH) EX) Fw) Fx
theorem said:Rows.TurnedUptoSaid:=
 OpenClaim.holds_of_cond 3 Tryz.f3 rfl rfl rfl rfl rfl rfl rfl ⟨rfl,rfl,rfl,rfl,rfl⟩ rfl rfl rfl rfl rfl EU func3 EE EF FB
  (λos started H enc _ F=>by rw[OpenClaim.pre_eq_preRow];exact lifted os started H enc F)
theorem plain (f:FuncId) (a:Func) (e:Tryz.pinned.checked.prog.funcNamed "warrant/warrantkeep.Turned" = some f) (b:Tryz.pinned.checked.prog.funcs[f]?=some a) :
  true=Tryz.pinned.checked.prog.looks []/\∀(j:Nat) t,a.params[j]?=some t->Tryz.pinned.checked.prog.wantsStandIn t=false:=by
 obtain rfl:f=3:=Option.some.inj ((show prog.funcNamed "warrant/warrantkeep.Turned" = some 3 by kernel_rfl).symm.trans e) |>.symm
 obtain rfl:a=Tryz.f3:=(Option.some.inj (func3.symm.trans b)).symm;refine⟨by kernel_rfl,λj t d=>?_⟩;rw[params3] at d;have c:=Array.mem_of_getElem? d;simp at c
 rcases c with rfl|rfl|rfl
 ·exact (show prog.wantsStandIn 22=false by kernel_rfl)
 ·exact (show prog.wantsStandIn 3=false by kernel_rfl)
 ·exact (show prog.wantsStandIn 23=false by kernel_rfl)
theorem card:Rows.TurnedUptoCardSaid:=
 Claim7.holds_tied_plain_at .later [] _ _ _ _ said (λ_ h=>by cases h) (by kernel_rfl) (λ_ h=>by cases h) turnedUpto_row_tie rfl ⟨rfl,rfl⟩ (by kernel_rfl) rfl plain (by kernel_rfl)
end Go.Proofs.YtdakgnaojakldabGreatDoor.turned
namespace Go.Proofs.YtdakgnaojakldabGreatDoor
theorem turned_upto_holds:Rows.TurnedUptoCardSaid:=turned.card
end Go.Proofs.YtdakgnaojakldabGreatDoor
