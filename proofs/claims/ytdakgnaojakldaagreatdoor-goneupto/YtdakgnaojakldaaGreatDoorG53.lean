/- Gone: for all raw papers, raw statements, a layer, a name and raw requests whose size is at most 1048576: a document that is put and dropped, or put in the place of another one that is then put back, leaves every decision of these requests, and what is shown, as it was; the library's tables and variables, the program's error of length, its table of sequences and its table of operations start as the text lays them. -/
import Derived.Test.YtdakgnaojakldaaGreatDoorCards
import Derived.Test.YtdakgnaojakldaaGreatDoorTie
import Derived.Test.YtdakgnaojakldaaGreatDoorG52
import Derived.SizedLaws
open Go.Proofs.Tryz
set_option maxRecDepth 100000
namespace Go.Proofs.YtdakgnaojakldaaGreatDoor.gone
open Go.ChangeShapes Go.WideShapes Go.ChangeAt Go.RowKit Go.Joins Go.Deep
open Go.ChangeMaps (open_string shut_string)
theorem contract(H:Type)(enc:TypeId×Value->H)(W:World)(base:Nat)(args:Array Value)(s P:List (DataW H))(before:List MemPlace)
  (c:∀(j:Nat) t v,Tryz.f10.params[j]?=some t->args[j]?=some v->Value.okWide prog W .any base t v)
  (R:DataW.Whole enc prog Tryz.f10.params.toList Rows.goneSpec.vars false W args.toList s P before)
  (hk:Rows.uptoSmall H (s++P)=true)(L:Addr)(Q:ZU W L) :
  Calls prog 10 args W λe f=>∃v,e = .returned v/\Rows.goneSpec.post enc prog Tryz.f10 false true false false W args v f:=by
 have m:=R;obtain⟨p,q,D,hV,rfl,a6,b0⟩:=R;have C:DataW.TrodAll enc prog W 0 (λ_=>true) true Tryz.f10.params.toList args.toList s p:=D;have F:∀x ∈ p,x.block<W.heap.size:=λx hx=>by simpa using m.lt x (List.mem_append_left _ hx)
 obtain⟨rfl,rfl⟩:=trodVars_none hV
 have i:∀f,Below W.heap.size W f->DataW.TrodAll enc prog f 0 (λb=>decide (b<W.heap.size)) true Tryz.f10.params.toList args.toList s p:=λf hb=>
  laws.Tx laws.laidOut hb _ _ _ _ (by rw[params10];decide +kernel) C F
 rw[params10] at C c;obtain⟨T,U,V,X,Y,M,N,d2,d3,O,p0,p1,p2,p3,p4,rfl,rfl,rfl,A,B,h2,h3,w⟩:=Ty C
 have o:∀(e:Ending) (f:World),e = .returned (.bool true)/\Below W.heap.size W f ->
   ∃v,e = .returned v/\Rows.goneSpec.post enc prog Tryz.f10 false true false false W #[T,U,V,X,Y] v f:=by
  rintro e f ⟨rfl,hb⟩;refine⟨_,rfl,[M,N,d2,d3,O],[],_,[],p0++p1++p2++p3++p4,[],m,trodAll_mk1 (shut_bool underlying4 true),?_,rfl,hb.frame _,λh=>by cases h⟩;exact i f hb
 obtain⟨z2,rfl,rfl,rfl,J⟩:=open_int underlying3 (c 2 3 V rfl rfl) h2;obtain⟨z3,rfl,rfl,rfl,K⟩:=open_int underlying3 (c 3 3 X rfl rfl) h3;obtain⟨a,len,cap,rfl⟩:=okWide_slice underlying36 (c 0 36 T rfl rfl);obtain⟨Z,r,k,rfl⟩:=okWide_slice underlying32 (c 1 32 U rfl rfl);obtain⟨y,d,g,rfl⟩:=okWide_slice underlying37 (c 4 37 Y rfl rfl);obtain⟨fuel,A⟩:=A;obtain⟨z,B⟩:=B;obtain⟨u,w⟩:=w;obtain⟨l,hm,hl⟩:=Nl (v := .slice a len cap) A (λ_=>rfl);obtain⟨rules,I,G⟩:=oO (v := .slice Z r k) B (λ_=>rfl);obtain⟨asks,hn,S⟩:=wY (v := .slice y d g) w (λ_=>rfl);have E:=wX w;have n:Rows.uptoBulkAll ([M,N,_,_,O]++[])<=1048576:=of_decide_eq_true hk;simp only[List.append_nil,Rows.uptoBulkAll] at n
 have a5:asks.length=d:=by
  obtain⟨_,_,e,_⟩:=S;injection e with _ e2
  exact e2.symm
 simp only at E;exact (FE l rules z2 z3 asks _ _ _ L W Q Q.q.p hl hm G I (wf_i64 J) (wf_i64 K) S (by omega)).mono o
theorem lifted(os:Os)(started:os.Started)(H:Type)(enc:TypeId×Value->H)(F:Stop.Interp) :
  ReturnsInHanded {} Tryz.checked os 10 .any ((Rows.OpenSpec.upto Rows.goneSpec).preRow enc prog Tryz.f10 Rows.goneUptoRow.domain false Rows.goneUptoRow.laid) (((Rows.OpenSpec.upto Rows.goneSpec).at F).post enc prog Tryz.f10 false true false false):=by
 obtain⟨c,m⟩:=reads os enc
 refine returnsInHanded_of_row (C:=Tryz.checked) (s:=Rows.OpenSpec.upto Rows.goneSpec) laws.own started TT func10
  (witness_row_atRef (enc:=enc) (C:=Tryz.checked) false (laws.laidWorld os) Zm rfl (TY os) (TV os) (TU os)
    (OpenSpec.preRow_of_cond 8 m (by kernel_rfl) (λk l=>by cases l;kernel_rfl) (TW os enc) (laws.IG os _))) ?_
 intro W base args f g before b j _ a _ i d _;obtain⟨e,h⟩:=laws.DT i d;exact contract H enc W base args f g before b j (a _ rfl) e h
theorem GR:joinedFacts prog 10 Tryz.f10 (Rows.OpenSpec.upto Rows.goneSpec).bare Rows.goneUptoRow=true:=by
 unfold joinedFacts;exact laws.qM (laws.qM (laws.qM (laws.qM (laws.qM (laws.qM (laws.qM (laws.qM (laws.qM (laws.qM (laws.qM (laws.qM (laws.qM (laws.qM (laws.qM (laws.qM (laws.qM (laws.qM (laws.qM (laws.qM (laws.qM (laws.qM (laws.qM (laws.qM (laws.qM (laws.qM (laws.qM (laws.qM (laws.qM (laws.qM (laws.qM (Iq) laws.GZ) laws.Hq) Hy) Ht) Ic) laws.Ie) Ig) laws.Ih) GV) Ik) Ib) Ip) Ha) He) Hf) Hg) Hl) Il) Hz) HY) Ia) Hw) Ij) laws.Ii) laws.Hm) GY) Ho) GX) Hu) Im) Io
theorem said:Rows.GoneUptoSaid:=
 OpenClaim.holds_of_cond 10 Tryz.f10 rfl rfl rfl rfl rfl rfl rfl ⟨rfl,rfl,rfl,rfl,rfl⟩ rfl rfl rfl rfl rfl Hr func10 GR GU Ir
  (λos started H enc _ F=>by rw[OpenClaim.pre_eq_preRow];exact lifted os started H enc F)
theorem plain (f:FuncId) (a:Func) (e:Tryz.pinned.checked.prog.funcNamed "warrant/warrantkeep.Gone" = some f) (b:Tryz.pinned.checked.prog.funcs[f]?=some a) :
  true=Tryz.pinned.checked.prog.looks []/\∀(j:Nat) t,a.params[j]?=some t->Tryz.pinned.checked.prog.wantsStandIn t=false:=by
 obtain rfl:f=10:=Option.some.inj ((show prog.funcNamed "warrant/warrantkeep.Gone" = some 10 by kernel_rfl).symm.trans e) |>.symm
 obtain rfl:a=Tryz.f10:=(Option.some.inj (func10.symm.trans b)).symm;refine⟨by kernel_rfl,λj t d=>?_⟩;rw[params10] at d;have c:=Array.mem_of_getElem? d;simp at c
 rcases c with rfl|rfl|rfl|rfl
 ·exact (show prog.wantsStandIn 36=false by kernel_rfl)
 ·exact (show prog.wantsStandIn 32=false by kernel_rfl)
 ·exact (show prog.wantsStandIn 3=false by kernel_rfl)
 ·exact (show prog.wantsStandIn 37=false by kernel_rfl)
theorem card:Rows.GoneUptoCardSaid:=
 Claim7.holds_tied_plain_at .later [] _ _ _ _ said (λ_ h=>by cases h) (by kernel_rfl) (λ_ h=>by cases h) goneUpto_row_tie rfl ⟨rfl,rfl⟩ (by kernel_rfl) rfl plain (by kernel_rfl)
end Go.Proofs.YtdakgnaojakldaaGreatDoor.gone
namespace Go.Proofs.YtdakgnaojakldaaGreatDoor
theorem gone_upto_holds:Rows.GoneUptoCardSaid:=gone.card
end Go.Proofs.YtdakgnaojakldaaGreatDoor
