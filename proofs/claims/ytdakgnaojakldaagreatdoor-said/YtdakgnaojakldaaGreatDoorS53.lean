/- Said: for all numbers, whatever the list of numbers: of one document with one statement, whose choices are single words, with one condition, the verdict is the one that is said outright; with a document in Guard or Bound that allows, or does not, too; the library's tables and variables, the program's error of length, its table of sequences and its table of operations start as the text lays them. -/
import Derived.Test.YtdakgnaojakldaaGreatDoorCards
import Derived.Test.YtdakgnaojakldaaGreatDoorTie
import Derived.Test.YtdakgnaojakldaaGreatDoorS51
import Derived.Test.YtdakgnaojakldaaGreatDoorS52
import Derived.SizedLaws
open Go.Proofs.Tryz
set_option maxRecDepth 100000
namespace Go.Proofs.YtdakgnaojakldaaGreatDoor.said1
open Go.ChangeShapes Go.WideShapes Go.ChangeAt Go.RowKit Go.Joins Go.Deep
open Go.ChangeMaps (open_string shut_string)
theorem contract(H:Type)(enc:TypeId×Value->H)(W:World)(base:Nat)(args:Array Value)(m gs:List (DataW H))(before:List MemPlace)
  (c:∀(j:Nat) t v,Tryz.f11.params[j]?=some t->args[j]?=some v->Value.okWide prog W .any base t v)
  (L:DataW.Whole enc prog Tryz.f11.params.toList Rows.saidSpec.vars false W args.toList m gs before)
  (J:Addr)(K:Z6 W J) :
  Calls prog 11 args W λe d=>∃v,e = .returned v/\Rows.saidSpec.post enc prog Tryz.f11 false true false false W args v d:=by
 have g:=L;obtain⟨p,q,u,hV,rfl,b9,c0⟩:=L;have s:DataW.TrodAll enc prog W 0 (λ_=>true) true Tryz.f11.params.toList args.toList m p:=u;have w:∀x ∈ p,x.block<W.heap.size:=λx hx=>by simpa using g.lt x (List.mem_append_left _ hx)
 obtain⟨rfl,rfl⟩:=trodVars_none hV
 have f:∀d,Below W.heap.size W d->DataW.TrodAll enc prog d 0 (λb=>decide (b<W.heap.size)) true Tryz.f11.params.toList args.toList m p:=λd hb=>
  laws.Mc laws.laidOut hb _ _ _ _ (by rw[params11];decide +kernel) s w
 rw[params11] at s c;obtain⟨M,N,O,P,Q,R,S,T,U,V,v10,v11,X,Y,Z,d3,d4,d5,d6,d7,d8,d9,d10,d11,p0,p1,p2,p3,p4,p5,p6,p7,p8,p9,E,F,rfl,rfl,rfl,h0,h1,h2,h3,h4,h5,h6,h7,h8,r,n,o⟩:=Ma s
 have i:∀(e:Ending) (d:World),e = .returned (.bool true)/\Below W.heap.size W d ->
   ∃v,e = .returned v/\Rows.saidSpec.post enc prog Tryz.f11 false true false false W #[M,N,O,P,Q,R,S,T,U,V,v10,v11] v d:=by
  rintro e d ⟨rfl,hb⟩;refine⟨_,rfl,[X,Y,Z,d3,d4,d5,d6,d7,d8,d9,d10,d11],[],_,[],p0++p1++p2++p3++p4++p5++p6++p7++p8++p9++E++F,[],g,trodAll_mk1 (shut_bool underlying4 true),?_,rfl,hb.frame _,λh=>by cases h⟩;exact f d hb
 obtain⟨z0,rfl,rfl,rfl,y⟩:=open_int underlying3 (c 0 3 M rfl rfl) h0;obtain⟨z1,rfl,rfl,rfl,z⟩:=open_int underlying3 (c 1 3 N rfl rfl) h1;obtain⟨z2,rfl,rfl,rfl,A⟩:=open_int underlying3 (c 2 3 O rfl rfl) h2;obtain⟨z5,rfl,rfl,rfl,B⟩:=open_int underlying3 (c 5 3 R rfl rfl) h5;obtain⟨z6,rfl,rfl,rfl,C⟩:=open_int underlying3 (c 6 3 S rfl rfl) h6;obtain⟨z7,rfl,rfl,rfl,D⟩:=open_int underlying3 (c 7 3 T rfl rfl) h7;obtain⟨G,rfl,rfl,rfl,k⟩:=open_int underlying3 (c 10 3 v10 rfl rfl) n;obtain⟨I,rfl,rfl,rfl,l⟩:=open_int underlying3 (c 11 3 v11 rfl rfl) o;obtain⟨z3,rfl,rfl,rfl⟩:=open_bool underlying4 (c 3 4 P rfl rfl) h3;obtain⟨z4,rfl,rfl,rfl⟩:=open_bool underlying4 (c 4 4 Q rfl rfl) h4;obtain⟨z8,rfl,rfl,rfl⟩:=open_bool underlying4 (c 8 4 U rfl rfl) h8;obtain⟨a,len,cap,rfl⟩:=okWide_slice underlying30 (c 9 30 V rfl rfl);obtain⟨fuel,r⟩:=r;obtain⟨raw,_,ha⟩:=AX (v := .slice a len cap) r (λ_=>rfl);exact (GJ z0 z1 z2 z3 z4 z5 z6 z7 z8 raw G I _ J W K K.q.p (wf_i64 y) (wf_i64 z) (wf_i64 A) (wf_i64 B) (wf_i64 C) (wf_i64 D) (wf_i64 k) (wf_i64 l) ha).mono i
theorem lifted(os:Os)(started:os.Started)(H:Type)(enc:TypeId×Value->H)(F:Stop.Interp) :
  ReturnsInHanded {} Tryz.checked os 11 .any ((OpenSpec.ofChange Rows.saidSpec).preRow enc prog Tryz.f11 Rows.saidRow.domain false Rows.saidRow.laid) (((OpenSpec.ofChange Rows.saidSpec).at F).post enc prog Tryz.f11 false true false false):=by
 obtain⟨b,l⟩:=reads os enc
 refine returnsInHanded_of_row (C:=Tryz.checked) (s:=OpenSpec.ofChange Rows.saidSpec) laws.own started MF func11
  (witness_row_atRef (enc:=enc) (C:=Tryz.checked) false (laws.laidWorld os) uL rfl (MJ os) (MH os) (MG os)
    (OpenSpec.preRow_of_cond 8 l rfl (λk j=>by cases j) (MI os enc) (laws.Cs os _))) ?_
 intro W base args e f before a i _ _ m h c _;obtain⟨d,g⟩:=laws.rM h c;exact contract H enc W base args e f before a i d g
theorem Bw:joinedFacts prog 11 Tryz.f11 (OpenSpec.ofChange Rows.saidSpec).bare Rows.saidRow=true:=by
 unfold joinedFacts;exact laws.qz (laws.qz (laws.qz (laws.qz (laws.qz (laws.qz (laws.qz (laws.qz (laws.qz (laws.qz (laws.qz (laws.qz (laws.qz (laws.qz (laws.qz (laws.qz (laws.qz (laws.qz (laws.qz (laws.qz (laws.qz (laws.qz (laws.qz (laws.qz (laws.qz (laws.qz (laws.qz (laws.qz (laws.qz (laws.qz (laws.qz (Cn) laws.BD) laws.BM) BR) BO) Ca) laws.Cb) Cc) laws.Ce) BA) Ch) BZ) Cm) BF) BG) BH) BI) BJ) Ci) BS) BU) BV) BQ) Cg) laws.Cf) laws.BK) BC) BL) BB) BP) Cj) Ck
theorem said:Rows.SaidSaid:=
 OpenClaim.holds_of_cond 11 Tryz.f11 rfl rfl rfl rfl rfl rfl rfl ⟨rfl,rfl,rfl,rfl,rfl⟩ rfl rfl rfl rfl rfl BN func11 Bw Bz Co
  (λos started H enc _ F=>by rw[OpenClaim.pre_eq_preRow];exact lifted os started H enc F)
theorem plain (f:FuncId) (a:Func) (e:Tryz.pinned.checked.prog.funcNamed "warrant/warrantkeep.Said" = some f) (b:Tryz.pinned.checked.prog.funcs[f]?=some a) :
  true=Tryz.pinned.checked.prog.looks []/\∀(j:Nat) t,a.params[j]?=some t->Tryz.pinned.checked.prog.wantsStandIn t=false:=by
 obtain rfl:f=11:=Option.some.inj ((show prog.funcNamed "warrant/warrantkeep.Said" = some 11 by kernel_rfl).symm.trans e) |>.symm
 obtain rfl:a=Tryz.f11:=(Option.some.inj (func11.symm.trans b)).symm;refine⟨by kernel_rfl,λj t g=>?_⟩;have d:(Tryz.f11.params.toList.all λt=>!prog.wantsStandIn t)=true:=by kernel_rfl
 have c:=List.all_eq_true.1 d t (Array.mem_toList_iff.2 (Array.mem_of_getElem? g));rw[Bool.not_eq_true'] at c;exact c
theorem card:Rows.SaidCardSaid:=
 Claim7.holds_tied_plain_at .later [] _ _ _ _ said (λ_ h=>by cases h) (by kernel_rfl) (λ_ h=>by cases h) said_row_tie rfl ⟨rfl,rfl⟩ (by kernel_rfl) rfl plain (by kernel_rfl)
end Go.Proofs.YtdakgnaojakldaaGreatDoor.said1
namespace Go.Proofs.YtdakgnaojakldaaGreatDoor
theorem said_holds:Rows.SaidCardSaid:=said1.card
end Go.Proofs.YtdakgnaojakldaaGreatDoor
