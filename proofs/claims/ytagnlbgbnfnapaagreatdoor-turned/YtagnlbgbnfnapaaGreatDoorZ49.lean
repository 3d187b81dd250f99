/- P -/
import Derived.Test.YtagnlbgbnfnapaaGreatDoorCards
import Derived.Test.YtagnlbgbnfnapaaGreatDoorTie
import Derived.Test.YtagnlbgbnfnapaaGreatDoorZ48
open Go.Proofs.Tryz
set_option maxRecDepth 100000
namespace Go.Proofs.YtagnlbgbnfnapaaGreatDoor.firm
theorem fD:(Rows.firmRow.wf (OpenSpec.ofChange (OpenSpec.ofChange Rows.firmSpec).bare))=true:=by kernel_rfl
theorem eO:(Tryz.f4.params.all (prog.readableRec ·))=true:=by kernel_rfl
theorem eF:(namedTie prog Rows.firmRow.named (OpenSpec.ofChange Rows.firmSpec).bare.vars)=true:=by kernel_rfl
theorem eY:((Rows.firmRow.stops==[]))=true:=by kernel_rfl
theorem eZ:((Rows.firmRow.knobs==[]))=true:=by kernel_rfl
theorem dS:((Rows.firmRow.inPlace==prog.inPlace 4))=true:=by kernel_rfl
theorem fq:((Rows.firmRow.unfollowed==prog.unfollowed 4))=true:=by kernel_rfl
theorem eX:((Rows.firmRow.recurses==prog.recurses 4))=true:=by kernel_rfl
theorem fB:((Rows.firmRow.named==prog.varsNamed 4))=true:=by kernel_rfl
theorem dW:((Rows.firmRow.maps==(Tryz.f4.params.toList++(OpenSpec.ofChange Rows.firmSpec).bare.plain.varTypes prog).any (prog.mapsRec ·)))=true:=by kernel_rfl
theorem dX:((Rows.firmRow.ifaces==(Tryz.f4.params.toList++(OpenSpec.ofChange Rows.firmSpec).bare.plain.varTypes prog).any (prog.ifacesRec ·)))=true:=by kernel_rfl
theorem dY:((Rows.firmRow.mapsOut==prog.mapsAmong Tryz.f4.resultTypes.toList))=true:=by kernel_rfl
theorem dZ:((Rows.firmRow.loops==(Tryz.f4.params.toList++(OpenSpec.ofChange Rows.firmSpec).bare.plain.varTypes prog).any (prog.loopsFrom ·)))=true:=by kernel_rfl
theorem ed:((Rows.firmRow.wideKeys==(Tryz.f4.params.toList++(OpenSpec.ofChange Rows.firmSpec).bare.plain.varTypes prog++Tryz.f4.resultTypes.toList).any (prog.wideKeysFrom ·)))=true:=by kernel_rfl
theorem fu:((OpenSpec.ofChange Rows.firmSpec).bare.vars.all (prog.varReadable ·))=true:=by kernel_rfl
theorem eQ:(Tryz.f4.resultTypes.all (λt=>prog.readableRec t&&decide (t<prog.types.size)))=true:=by kernel_rfl
theorem eT:((Rows.firmRow.ifacesOut==Tryz.f4.resultTypes.toList.any (prog.ifacesRec ·)))=true:=by kernel_rfl
theorem eU:((Rows.firmRow.loopsOut==Tryz.f4.resultTypes.toList.any (prog.loopsFrom ·)))=true:=by kernel_rfl
theorem eH:((Rows.firmRow.plainKeys==prog.plainKeys))=true:=by kernel_rfl
theorem fe:(Rows.firmRow.shortTexts.isNone)=true:=by kernel_rfl
theorem dV:((Rows.firmRow.lifted==prog.liftsFinal))=true:=by kernel_rfl
theorem eu:((prog.make==some Rows.firmRow.make))=true:=by kernel_rfl
theorem dU:((Rows.firmRow.kinds==(if Rows.firmRow.domain.isEmpty then [] else Tryz.f4.params.toList.map λt=>match prog.underlying t with|some (.int k)=>some k|_=>none)))=true:=by kernel_rfl
theorem eG:((Rows.firmRow.pinned==Rows.firmRow.pinnedBy))=true:=by kernel_rfl
theorem fw:((Rows.firmRow.veiled==(Tryz.f4.params.toList++(OpenSpec.ofChange Rows.firmSpec).bare.plain.varTypes prog++Tryz.f4.resultTypes.toList).any (prog.veiledRec ·)))=true:=by kernel_rfl
theorem fA:(Rows.firmRow.veiledFits prog Tryz.f4.params.toList (Tryz.f4.params.toList++(OpenSpec.ofChange Rows.firmSpec).bare.plain.varTypes prog++Tryz.f4.resultTypes.toList))=true:=by kernel_rfl
theorem dR:Tryz.f4.isInstance prog Rows.firmRow.origin Rows.firmRow.targs:=XW (by kernel_rfl)
theorem fE:Tryz.f4.isWrapper prog Rows.firmRow.wrapper Rows.firmRow.mainSum:=by unfold Func.isWrapper;first|(rw[zb (by decide +kernel)];kernel_rfl)|(rw[za (by decide +kernel)];exact⟨rfl,rfl⟩)
theorem eD:prog.funcNamed Rows.firmRow.func=some 4:=by kernel_rfl
end Go.Proofs.YtagnlbgbnfnapaaGreatDoor.firm
namespace Go.Proofs.YtagnlbgbnfnapaaGreatDoor.laws
theorem rM:(laidOutB prog)=true:=by kernel_rfl
theorem rP:(mapsRowed prog)=true:=by kernel_rfl
theorem rQ:((prog.stops==[]))=true:=by kernel_rfl
theorem rR:((prog.stopKnobs==[]))=true:=by kernel_rfl
theorem rT:(prog.stopsHeard)=true:=by kernel_rfl
theorem rO:(prog.mayEnter)=true:=by kernel_rfl
theorem zW{a b:Bool}(h:a=true)(k:b=true):(a&&b)=true:=by rw[h,k];rfl
end Go.Proofs.YtagnlbgbnfnapaaGreatDoor.laws
namespace Go.Proofs.YtagnlbgbnfnapaaGreatDoor
open Go.ChangeShapes Go.WideShapes Go.ChangeAt Go.RowKit Go.Joins Go.Deep
theorem sG{H:Type}{enc:TypeId×Value->H}{w:World}{spare:Nat->Bool}{held:Bool}{P:Program}{ts:List TypeId}{b:List (DataW H)}(g:(DataW.weightsEach P ts b).all (·<=reachBytes)=true)
  {j fuel:Nat}{t e:TypeId}{a:Option Addr}{len cap:Nat}{x:DataW H×List MemPlace}(d:P.underlying t=some (.slice e))(h:DataW.trod enc P w 0 spare held fuel t [.slice a len cap]=some x)(f:ts[j]?=some t)(hd:b[j]?=some x.1) :
  len*P.bytesOf e<=reachBytes:=by
 rcases open_slice d h with ⟨e1,_⟩|⟨a',len',cap',m,n,D,Pl,e1,_,hl,hmx,hmm,rfl,hcell⟩
 ·simp only[List.cons.injEq,Value.slice.injEq,Qs] at e1;obtain⟨_,rfl,_⟩:=e1
  simp
 ·simp only[List.cons.injEq,Value.slice.injEq,Qs] at e1;obtain⟨_,rfl,_⟩:=e1;have c:=sized_slice g f hd d;rw[qg,jM] at c;exact jy (Jw _ (Nat.le_add_right _ _)) c
end Go.Proofs.YtagnlbgbnfnapaaGreatDoor
namespace Go.Proofs.YtagnlbgbnfnapaaGreatDoor.firm
open Go.ChangeShapes Go.WideShapes Go.ChangeAt Go.RowKit Go.Joins Go.Deep
open Go.ChangeMaps (open_string shut_string)
theorem contract(H:Type)(enc:TypeId×Value->H)(W:World)(base:Nat)(args:Array Value)(w P:List (DataW H))(before:List MemPlace)
  (c:∀(j:Nat) t v,Tryz.f4.params[j]?=some t->args[j]?=some v->Value.okWide prog W .any base t v)
  (R:DataW.Whole enc prog Tryz.f4.params.toList Rows.firmSpec.vars false W args.toList w P before)
  (hz:(DataW.weightsEach prog (Tryz.f4.params.toList++(OpenSpec.ofChange Rows.firmSpec).bare.plain.varTypes prog) (w++P)).all (·<=reachBytes)=true)(O:Addr)(Q:Qh W O) :
  Calls prog 4 args W λe d=>∃v,e = .returned v/\Rows.firmSpec.post enc prog Tryz.f4 false true false false W args v d:=by
 have o:=R;obtain⟨p,q,I,hV,rfl,a7,b0⟩:=R;have G:DataW.TrodAll enc prog W 0 (λ_=>true) true Tryz.f4.params.toList args.toList w p:=I;have J:∀x ∈ p,x.block<W.heap.size:=λx hx=>by simpa using o.lt x (ax _ hx)
 obtain⟨rfl,rfl⟩:=trodVars_none hV
 have i:∀d,Below W.heap.size W d->DataW.TrodAll enc prog d 0 (λb=>decide (b<W.heap.size)) true Tryz.f4.params.toList args.toList w p:=λd hb=>
  laws.Cc laws.laidOut hb _ _ _ _ (by rw[params4];decide +kernel) G J
 rw[params4] at G c;obtain⟨S,v1,v2,v3,T,X,Y,Z,d3,d4,p0,p1,p2,p3,p4,rfl,rfl,rfl,D,z,h2,E,F⟩:=zaG G
 have r:∀(e:Ending) (d:World),e = .returned (.bool true)/\Below W.heap.size W d ->
   ∃v,e = .returned v/\Rows.firmSpec.post enc prog Tryz.f4 false true false false W #[S,v1,v2,v3,T] v d:=by
  rintro e d ⟨rfl,hb⟩;refine⟨_,rfl,[X,Y,Z,d3,d4],[],_,[],p0++p1++p2++p3++p4,[],o,trodAll_mk1 (shut_bool underlying4 true),?_,rfl,hb.frame _,λh=>by cases h⟩;exact i d hb
 obtain⟨z2,rfl,rfl,rfl,N⟩:=open_int underlying3 (c 2 3 v2 rfl rfl) h2;obtain⟨a,len,cap,rfl⟩:=okWide_slice underlying26 (c 0 26 S rfl rfl);obtain⟨U,f,m,rfl⟩:=okWide_slice underlying27 (c 1 27 v1 rfl rfl);obtain⟨V,u,n,rfl⟩:=okWide_slice underlying26 (c 3 26 v3 rfl rfl);obtain⟨A,k,g,rfl⟩:=okWide_slice underlying24 (c 4 24 T rfl rfl);obtain⟨fuel,D⟩:=D;obtain⟨B,z⟩:=z;obtain⟨C,E⟩:=E;obtain⟨y,F⟩:=F;obtain⟨l,hm,hl⟩:=gK (v := .slice a len cap) D (λ_=>rfl);obtain⟨rules,b2,s⟩:=Bf (v := .slice U f m) z (λ_=>rfl);obtain⟨more,K,L⟩:=gK (v := .slice V u n) E (λ_=>rfl);obtain⟨raw,_,ha⟩:=VW (v := .slice A k g) F (λ_=>rfl);have M:=sG hz (j:=1) underlying27 z rfl rfl;rw[show prog.bytesOf 42=128 by kernel_rfl] at M;have b1:=reachBytes_lt
 have a6:rules.length=f:=by
  obtain⟨_,_,e,_⟩:=s;injection e with _ e2
  exact e2.symm
 exact (IE l rules z2 more raw _ _ _ _ O W Q Q.q.p hl hm s (by omega) (wf_i64 N) L K ha).mono r
theorem lifted(os:Os)(started:os.Started)(H:Type)(enc:TypeId×Value->H)(F:Stop.Interp) :
  ReturnsInHanded {} Tryz.checked os 4 .any ((OpenSpec.ofChange Rows.firmSpec).preRow enc prog Tryz.f4 Rows.firmRow.domain false Rows.firmRow.laid) (((OpenSpec.ofChange Rows.firmSpec).at F).post enc prog Tryz.f4 false true false false):=by
 obtain⟨places,j⟩:=reads os enc
 refine returnsInHanded_of_row (C:=Tryz.checked) (s:=OpenSpec.ofChange Rows.firmSpec) laws.own started iZ func4
  (witness_row_atRef (enc:=enc) (C:=Tryz.checked) false (laws.laidWorld os) yU rfl (lm os) (lh os) (lg os)
    (OpenSpec.preRow_of_cond 8 j rfl (λk i=>by cases i) (ll os enc) (laws.si os _))) ?_
 intro W base args d e before a h _ _ l g b _;obtain⟨c,f⟩:=laws.oN g b;exact contract H enc W base args d e before a h l c f
theorem dQ:joinedFacts prog 4 Tryz.f4 (OpenSpec.ofChange Rows.firmSpec).bare Rows.firmRow=true:=by
 unfold joinedFacts;exact laws.zW (laws.zW (laws.zW (laws.zW (laws.zW (laws.zW (laws.zW (laws.zW (laws.zW (laws.zW (laws.zW (laws.zW (laws.zW (laws.zW (laws.zW (laws.zW (laws.zW (laws.zW (laws.zW (laws.zW (laws.zW (laws.zW (laws.zW (laws.zW (laws.zW (laws.zW (laws.zW (laws.zW (laws.zW (laws.zW (laws.zW (fD) laws.rM) laws.rP) eO) eF) eY) laws.rQ) eZ) laws.rR) dS) fq) eX) fB) dW) dX) dY) dZ) ed) fu) eQ) eT) eU) eH) fe) laws.rT) laws.rO) dV) eu) dU) eG) fw) fA
theorem said:Rows.FirmSaid:=
 OpenClaim.holds_of_cond 4 Tryz.f4 rfl rfl rfl rfl rfl rfl rfl ⟨rfl,rfl,rfl,rfl,rfl⟩ rfl rfl rfl rfl rfl eD func4 dQ dR fE
  (λos started H enc _ F=>by rw[OpenClaim.pre_eq_preRow];exact lifted os started H enc F)
theorem plain (f:FuncId) (a:Func) (e:Tryz.pinned.checked.prog.funcNamed "warrant/warrantkeep.Firm" = some f) (b:Tryz.pinned.checked.prog.funcs[f]?=some a) :
  true=Tryz.pinned.checked.prog.looks []/\∀(j:Nat) t,a.params[j]?=some t->Tryz.pinned.checked.prog.wantsStandIn t=false:=by
 obtain rfl:f=4:=Option.some.inj ((show prog.funcNamed "warrant/warrantkeep.Firm" = some 4 by kernel_rfl).symm.trans e) |>.symm
 obtain rfl:a=Tryz.f4:=(Option.some.inj (func4.symm.trans b)).symm;refine⟨by kernel_rfl,λj t d=>?_⟩;rw[params4] at d;have c:=Array.mem_of_getElem? d;simp at c
 rcases c with rfl|rfl|rfl|rfl|rfl
 ·exact (show prog.wantsStandIn 26=false by kernel_rfl)
 ·exact (show prog.wantsStandIn 27=false by kernel_rfl)
 ·exact (show prog.wantsStandIn 3=false by kernel_rfl)
 ·exact (show prog.wantsStandIn 26=false by kernel_rfl)
 ·exact (show prog.wantsStandIn 24=false by kernel_rfl)
theorem card:Rows.FirmCardSaid:=
 Claim7.holds_tied_plain_at .later [] _ _ _ _ said (λ_ h=>by cases h) (by kernel_rfl) (λ_ h=>by cases h) firm_row_tie rfl ⟨rfl,rfl⟩ (by kernel_rfl) rfl plain (by kernel_rfl)
end Go.Proofs.YtagnlbgbnfnapaaGreatDoor.firm
namespace Go.Proofs.YtagnlbgbnfnapaaGreatDoor
theorem firm_holds:Rows.FirmCardSaid:=firm.card
end Go.Proofs.YtagnlbgbnfnapaaGreatDoor
namespace Go.Proofs.YtagnlbgbnfnapaaGreatDoor.turned
open Go.ChangeShapes Go.WideShapes Go.ChangeAt Go.RowKit Go.Joins Go.Deep
def yU:Array Value:=#[.slice none 0 0,.int .i64 0,.int .i64 0,.slice none 0 0]
theorem lm(os:Os):((laws.laidWorld os).forCall (λ_ _=>0) ⟨#[],yU,[]⟩).variablesRefB prog=true:=by kernel_rfl
theorem lh(os:Os):(((laws.laidWorld os).forCall (λ_ _=>0) ⟨#[],yU,[]⟩).heap.toList.drop prog.globals.size).take ((begin prog (λ_ _=>0) default).world.heap.size-prog.globals.size) =
   (begin prog (λ_ _=>0) default).world.heap.toList.drop prog.globals.size:=by kernel_rfl
theorem lg(os:Os):Input.okWideB prog ((laws.laidWorld os).forCall (λ_ _=>0) ⟨#[],yU,[]⟩) 5 ⟨#[],yU,[]⟩=true:=by kernel_rfl
theorem ll(os:Os){H:Type}(enc:TypeId×Value->H):(OpenSpec.ofChange Rows.turnedSpec).bare.sizedB enc prog Tryz.f5 false ((laws.laidWorld os).forCall (λ_ _=>0) ⟨#[],yU,[]⟩).memory yU 8=true:=by kernel_rfl
theorem iZ:prog.inits.idxOf? 5=none:=by kernel_rfl
theorem reads(os:Os){H:Type}(enc:TypeId×Value->H):∃places,DataW.whole enc prog ((laws.laidWorld os).forCall (λ_ _=>0) ⟨#[],yU,[]⟩).memory Tryz.f5.params.toList Rows.turnedSpec.vars false yU.toList 8
  = some ([.nil,.lit (.int .i64 0),.lit (.int .i64 0),.nil],[],places):=by
 have b:(DataW.whole enc prog ((laws.laidWorld os).forCall (λ_ _=>0) ⟨#[],yU,[]⟩).memory Tryz.f5.params.toList Rows.turnedSpec.vars false yU.toList 8).map (λx=>(x.1,x.2.1)) =
   some ([.nil,.lit (.int .i64 0),.lit (.int .i64 0),.nil],[]):=by kernel_rfl
 obtain⟨⟨e,f,d⟩,c,a⟩:=vR.1 b;simp only[Prod.mk.injEq] at a;obtain⟨rfl,rfl⟩:=a;exact⟨d,c⟩
end Go.Proofs.YtagnlbgbnfnapaaGreatDoor.turned
namespace Go.Proofs.YtagnlbgbnfnapaaGreatDoor
open laws Go.ChangeShapes Go.WideShapes Go.ChangeAt Go.RowKit Go.Joins Go.Deep
section
variable {H:Type} {enc:TypeId×Value->H} {w:World} {spare:Nat->Bool} {held:Bool}
end
theorem trodAll_four{H:Type}{enc:TypeId×Value->H}{P:Program}{w:World}{base:Nat}{spare:Nat->Bool}{held:Bool}{t B k C:TypeId}{args:Array Value}{y:List (DataW H)}{A:List MemPlace}(h:DataW.TrodAll enc P w base spare held [t,B,k,C] args.toList y A) :
  ∃v r g v3 d l b m p n f o,args=#[v,r,g,v3]/\y=[d,l,b,m]/\A=p++n++f++o/\DataW.Trod enc P w base spare held t v d p/\DataW.Trod enc P w base spare held B r l n/\DataW.Trod enc P w base spare held k g b f/\DataW.Trod enc P w base spare held C v3 m o:=by
 obtain⟨v,N,d,E,p,q,s,rfl,rfl,hd,i⟩:=trodAll_cons h;obtain⟨r,I,l,z,n,L,rfl,rfl,rfl,u,c⟩:=trodAll_cons i;obtain⟨g,D,b,K,f,G,rfl,rfl,rfl,j,a⟩:=trodAll_cons c;obtain⟨v3,J,m,F,o,M,rfl,rfl,rfl,x,e⟩:=trodAll_cons a;obtain⟨rfl,rfl,rfl⟩:=trodAll_nil e;exact⟨v,r,g,v3,d,l,b,m,p,n,f,o,by cases args;simp_all,rfl,by simp,hd,u,j,x⟩
end Go.Proofs.YtagnlbgbnfnapaaGreatDoor
namespace Go.Proofs.YtagnlbgbnfnapaaGreatDoor
open Go.RowKit
def aI(D a:List zT):Prop:=∀eff q,D.any (De.yH eff q)=a.any (De.yH eff q)
inductive xQ:List zu->List zu->Prop
 | nil:xQ [] []
 | cons {n:BA} {D D':List zT} {L L':List zu}:aI D D'->xQ L L'->xQ ((n,D)::L) ((n,D')::L')
def Yc(b a:StO):Prop:=∀i,xQ (b i) (a i)
theorem xQ.append{A a B b:List zu}(h:xQ A a)(k:xQ B b):xQ (A++B) (a++b):=by
 induction h with
 | nil=>exact k
 | cons hd _ c=>exact .cons hd c
theorem xQ.take{A a:List zu}(h:xQ A a):∀n,xQ (A.take n) (a.take n):=by
 induction h with
 | nil=>intro n;simpa using xQ.nil
 | cons hd _ b=>
  intro n
  cases n with
  | zero=>exact .nil
  | succ n=>exact .cons hd (b n)
theorem xQ.drop{A a:List zu}(h:xQ A a):∀n,xQ (A.drop n) (a.drop n):=by
 induction h with
 | nil=>intro n;simpa using xQ.nil
 | cons hd b c=>
  intro n
  cases n with
  | zero=>exact .cons hd b
  | succ n=>exact c n
theorem xQ.length{A a:List zu}(h:xQ A a):A.length=a.length:=by
 induction h with
 | nil=>rfl
 | cons _ _ b=>simp[b]
theorem xQ.pos{A a:List zu}(h:xQ A a)(name:BA):qI A name=qI a name:=by
 unfold qI
 induction h with
 | nil=>rfl
 | @cons n D b L d _ _ c=>
  have e:ltN name (n,D)=ltN name (n,b):=rfl;rw[UC,UC,e]
  split
  ·simp[c]
  ·rfl
theorem xQ.get{A a:List zu}(h:xQ A a):∀k:Nat,(A[k]?).map Prod.fst=(a[k]?).map Prod.fst:=by
 induction h with
 | nil=>intro k;rfl
 | cons _ _ b=>
  intro k
  cases k with
  | zero=>rfl
  | succ k=>simpa using b k
theorem xQ.has{A b:List zu}(h:xQ A b)(name:BA):zO A name=zO b name:=by
 have c:=h.pos name;have a:=h.get (qI A name);unfold zO;rw[<- c]
 cases e:A[qI A name]? with
 | none=>
  rw[e] at a
  cases e':b[qI A name]? with
  | none=>rfl
  | some y=>rw[e'] at a;cases a
 | some x=>
  rw[e] at a
  cases e':b[qI A name]? with
  | none=>rw[e'] at a;cases a
  | some y=>
   rw[e'] at a
   have:x.1=y.1:=by simpa using a
   simp only[this]
theorem xQ.with{A a:List zu}(h:xQ A a)(name:BA){D b:List zT}(hd:aI D b):xQ (jg A name D) (jg a name b):=by
 unfold jg;rw[<- h.pos name,<- h.has name];exact ((h.take _).append (.cons hd .nil)).append (h.drop _)
namespace De
theorem U7{A b:List zu}(h:xQ A b)(eff:BA)(q:Ref.Req):(yc eff q A).map Prod.fst=(yc eff q b).map Prod.fst:=by
 induction h with
 | nil=>rfl
 | @cons n D a L d hd _ c=>
  have e:(uA eff q D).isSome=(uA eff q a).isSome:=by rw[cZ,cZ,hd eff q]
  rw[yc,yc];simp only
  cases e1:uA eff q D with
  | none=>
   rw[e1] at e
   cases e2:uA eff q a with
   | none=>exact c
   | some k=>rw[e2] at e;cases e
  | some k=>
   rw[e1] at e
   cases e2:uA eff q a with
   | none=>rw[e2] at e;cases e
   | some f=>rfl
theorem di{c b:StO}(h:Yc c b)(eff:BA)(q:Ref.Req):∀is:List Nat,(qX c eff q is).map (λx=>(x.1,x.2.1))=(qX b eff q is).map (λx=>(x.1,x.2.1))
 | []=>rfl
 | i::is=>by
  have e:=U7 (h i) eff q;have d:=di h eff q is;rw[qX,qX]
  cases e1:yc eff q (c i) with
  | none=>
   rw[e1] at e
   cases e2:yc eff q (b i) with
   | none=>exact d
   | some k=>rw[e2] at e;cases e
  | some k=>
   rw[e1] at e
   cases e2:yc eff q (b i) with
   | none=>rw[e2] at e;cases e
   | some f=>
    rw[e2] at e;obtain⟨n,a⟩:=k;obtain⟨g,j⟩:=f
    have:n=g:=by simpa using e
    subst this
    rfl
theorem sH{b a:StO}(h:Yc b a)(q:Ref.Req)(i:Nat):jH b q i=jH a q i:=by
 have e:=U7 (h i) xR q;have f:=(h i).length;unfold jH
 have c:(yc xR q (b i)).isSome=(yc xR q (a i)).isSome:=by
  have:=congrArg Option.isSome e
  simpa using this
 have d:(b i).isEmpty=(a i).isEmpty:=by
  cases h1:b i<;>cases h2:a i<;>simp[h1,h2] at f |-
 rw[c,d]
theorem Gh{d a:StO}(h:Yc d a)(q:Ref.Req):(Za d q).verdict=(Za a q).verdict/\(Za d q).layer=(Za a q).layer/\(Za d q).doc=(Za a q).doc:=by
 have b:=di h yo q [0,1,2,3];have c:=di h xR q [2,3];have e:=sH h q 0;have f:=sH h q 1;unfold Za
 cases h1:qX d yo q [0,1,2,3] with
 | some x=>
  rw[h1] at b
  cases h2:qX a yo q [0,1,2,3] with
  | none=>rw[h2] at b;cases b
  | some y=>
   rw[h2] at b;obtain⟨i,n,k⟩:=x;obtain⟨g,l,j⟩:=y;simp at b;obtain⟨rfl,rfl⟩:=b;exact⟨rfl,rfl,rfl⟩
 | none=>
  rw[h1] at b
  cases h2:qX a yo q [0,1,2,3] with
  | some y=>rw[h2] at b;cases b
  | none=>
   simp only;rw[<- e,<- f]
   split
   ·exact⟨rfl,rfl,rfl⟩
   ·cases h3:qX d xR q [2,3] with
    | some x=>
     rw[h3] at c
     cases h4:qX a xR q [2,3] with
     | none=>rw[h4] at c;cases c
     | some y=>
      rw[h4] at c;obtain⟨i,n,k⟩:=x;obtain⟨g,l,j⟩:=y;simp at c;obtain⟨rfl,rfl⟩:=c;exact⟨rfl,rfl,rfl⟩
    | none=>
     rw[h3] at c
     cases h4:qX a xR q [2,3] with
     | some y=>rw[h4] at c;cases c
     | none=>exact⟨rfl,rfl,rfl⟩
end De
namespace Kp
theorem Bb{α:Type}(L:List α)(p:Nat)(d x:α):x ∈ (List.range L.length).map (λk=>L.getD ((k+p) % L.length) d)↔x ∈ L:=by
 by_cases h0:L.length=0
 ·have:L=[]:=uW.1 h0
  subst this
  simp
 ·constructor
  ·intro h;obtain⟨k,_,rfl⟩:=qR.1 h;have f:(k+p) % L.length<L.length:=Nat.mod_lt _ (by omega);rw[zQ,zt f];exact xg _
  ·intro h;obtain⟨j,a,rfl⟩:=Ql h;refine qR.2 ⟨(j+(L.length-p % L.length)) % L.length,vQ.2 (Nat.mod_lt _ (by omega)),?_⟩;have g:p % L.length<L.length:=Nat.mod_lt _ (by omega)
   have e:((j+(L.length-p % L.length)) % L.length+p) % L.length=j:=by
    rw[Nat.mod_add_mod]
    have b:j+(L.length-p % L.length)+p=j+L.length+(p-p % L.length):=by
     have:=Nat.mod_le p L.length
     omega
    have c:p-p % L.length=L.length*(p / L.length):=by
     have:=Nat.div_add_mod p L.length
     omega
    rw[b,c,Nat.add_mul_mod_self_left,Nat.add_mod_right];exact Nat.mod_eq_of_lt a
   rw[e,zQ,zt a]
   rfl
def uO(l:List Int)(b:Int):List Int:=(List.range (l.take 4).length).map (λi=>(l.take 4).getD ((i+zy b (l.take 4).length) % (l.take 4).length) 0)
def qi(l:List Int)(b:Int):List Int:=if 0<(uO l b).length/\(uO l b).length<4 then uO l b++[(uO l b).getD 0 0] else uO l b
theorem SB(l:List Int)(b:Int):(uO l b).length=(l.take 4).length:=by unfold uO;rw[qg,jM]
theorem KY(l:List Int)(b:Int):(qi l b).length<=4/\((qi l b).length=0↔l.length=0):=by
 have h:=SB l b;rw[xE] at h;unfold qi
 split
 ·rw[qL,xV];omega
 ·omega
theorem iW(l:List Int)(b x:Int):x ∈ qi l b↔x ∈ l.take 4:=by
 have h:=Bb (l.take 4) (zy b (l.take 4).length) 0 x;have a:x ∈ uO l b↔x ∈ l.take 4:=h;unfold qi
 split
 ·rename_i c;rw[ZT,xP,<- a]
  constructor
  ·rintro (h|rfl)
   ·exact h
   ·rw[zQ,zt c.1];exact xg _
  ·exact .inl
 ·exact a
def Zp(b style:Int)(r:zm):zm:=⟨r.deny,qi r.who b,qi r.act b,qi r.on b,r.nt,r.iff,r.key,r.val,r.no,style⟩
def Qd(b style:Int)(l:List zm):List zm:=(List.range (l.take 4).length).map (λk=>Zp b style ((l.take 4).getD ((k+zy b (l.take 4).length) % (l.take 4).length) xu))
theorem Ce(b style:Int)(l:List zm):(Qd b style l).length=(l.take 4).length:=by unfold Qd;rw[qg,jM]
theorem rf(r:zm):Z6 r=(zy r.iff 8==1||zy r.iff 8==6||zy r.iff 8==2||zy r.iff 8==3||zy r.iff 8==4):=by
 have a:∀x:BA,(⟨#[123]⟩++x:BA).size≠0:=λx=>by rw[qD];show 1+_≠0;omega
 unfold Z6 xU;generalize zy r.iff 8=j
 split
 ·rw[zF (by simp only[ByteArray.append_assoc];exact a _)];rfl
 ·unfold ZB;rw[zF (by simp only[ByteArray.append_assoc];exact a _)];rfl
 ·unfold ZB;rw[zF (by simp only[ByteArray.append_assoc];exact a _)];rfl
 ·unfold ZB;rw[zF (by simp only[ByteArray.append_assoc];exact a _)];rfl
 ·unfold ZB;rw[zF (by simp only[ByteArray.append_assoc];exact a _)];rfl
 ·rename_i b c d f g;have e:decide ((⟨#[]⟩:BA).size≠0)=false:=by decide
  rw[e];symm;simp only[K9,xh];exact⟨⟨⟨⟨λe=>b e,λe=>c e⟩,λe=>d e⟩,λe=>f e⟩,λe=>g e⟩
end Kp
end Go.Proofs.YtagnlbgbnfnapaaGreatDoor
