/- P -/
import Derived.Test.YtdakgnaojakldaaGreatDoorP53
set_option maxRecDepth 100000
namespace Go.Proofs.YtdakgnaojakldaaGreatDoor
open laws Go.ChangeShapes Go.WideShapes Go.ChangeAt Go.RowKit Go.Joins Go.Deep
theorem zgI {n:Int} (h:(Lit.int .i64 n).wf=true):I64 n:=by
 have h2:(decide (IntKind.min .i64≤n)&&decide (n≤IntKind.max .i64))=true:=h
 rw [Bool.and_eq_true,decide_eq_true_eq,decide_eq_true_eq] at h2
 exact h2
theorem zjT {w:World} {a:Addr} {v:Value} (h:w.cell? (a.add 0)=some v):∃b o,a=⟨b,o,none⟩:=by
 obtain ⟨b,o,s⟩:=a
 have h2:w.cell? ⟨b,o,s⟩=some v:=h
 cases s with
 | none=>exact ⟨b,o,rfl⟩
 | some x=>
  unfold World.cell? at h2
  split at h2
  ·simp at h2
  ·cases h2
instance : Inhabited OpD:=⟨⟨0,0,0,⟨#[]⟩,⟨#[]⟩,⟨#[]⟩,⟨#[]⟩,⟨#[]⟩,none,0,0⟩⟩
section
variable {H:Type} {enc:TypeId×Value→H} {w:World} {spare:Nat→Bool} {held:Bool}
theorem Vs {P:Program} {base fuel:Nat} {t:TypeId} {fs:Array Field} {cs:List Value} {x:DataW H×List MemPlace} (ht:P.underlying t=some (.struct fs)) (h:DataW.trod enc P w base spare held fuel t cs=some x) :
  cs.length=P.cellsOf t∧∀(i:Nat) (f:Field),fs[i]?=some f→∀(u:TypeId) (o c:Nat),f.type=u→f.offset=o→P.cellsOf u=c→∃n y,DataW.trod enc P w base spare held n u ((cs.drop o).take c)=some y:=by
 obtain ⟨xs,n,_,_,hl,hxl,hall⟩:=DataW.trod_struct ht h
 refine ⟨hl,fun i f hi u o c hu ho hc=>?_⟩
 have hlt:i<fs.size:=(Array.getElem?_eq_some_iff.1 hi).1
 have h1:=hall i f hi
 subst hu
 rw [ho,hc,List.getElem?_eq_getElem (by omega)] at h1
 exact ⟨n,_,h1⟩
theorem zkp {H:Type} (d:DataW H):1≤Rows.uptoBulk d:=by
 cases d with
 | lit l=>cases l<;>simp [Rows.uptoBulk]
 | nil=>simp [Rows.uptoBulk]
 | ptr d=>simp [Rows.uptoBulk]
 | slice elems spare=>simp [Rows.uptoBulk]
 | agg parts=>simp [Rows.uptoBulk]
 | iface t d=>simp [Rows.uptoBulk]
 | map entries=>simp [Rows.uptoBulk]
 | held h=>simp [Rows.uptoBulk]
theorem zc6 {H:Type} (l:List (DataW H)):l.length≤Rows.uptoBulkAll l:=by
 induction l with
 | nil=>simp [Rows.uptoBulkAll]
 | cons x r ih=>have:=zkp x;simp only [Rows.uptoBulkAll,List.length_cons];omega
theorem zlI {fuel:Nat} {cs:List Value} {x:DataW H×List MemPlace} (h:DataW.trod enc Tryz.prog w 0 spare held fuel 91 cs=some x) :
  ∃o:OpD,cs=[.int .i64 o.kind, .int .i64 o.a, .int .i64 o.layer, .string o.name, .string o.text, .string o.who, .string o.act, .string o.on, .slice o.ma o.mn o.mc]∧zaE o:=by
 have c3:Tryz.prog.cellsOf 3=1:=by kernel_rfl
 have c9:Tryz.prog.cellsOf 9=1:=by kernel_rfl
 have cR:Tryz.prog.cellsOf 53=4:=by kernel_rfl
 have cM:Tryz.prog.cellsOf 51=1:=by kernel_rfl
 have cO:Tryz.prog.cellsOf 91=9:=by kernel_rfl
 obtain ⟨hl,hall⟩:=Vs Tryz.underlying91 h
 rw [cO] at hl
 match cs,hl with
 | [u0,u1,u2,u3,u4,u5,u6,u7,u8],_=>
  obtain ⟨n0,y0,g0⟩:=hall 0 _ rfl _ 0 1 rfl rfl c3
  obtain ⟨n1,y1,g1⟩:=hall 1 _ rfl _ 1 1 rfl rfl c3
  obtain ⟨n2,y2,g2⟩:=hall 2 _ rfl _ 2 1 rfl rfl c3
  obtain ⟨n3,y3,g3⟩:=hall 3 _ rfl _ 3 1 rfl rfl c9
  obtain ⟨n4,y4,g4⟩:=hall 4 _ rfl _ 4 1 rfl rfl c9
  obtain ⟨n5,y5,g5⟩:=hall 5 _ rfl _ 5 4 rfl rfl cR
  obtain ⟨_,hall2⟩:=Vs Tryz.underlying53 g5
  obtain ⟨n6,y6,g6⟩:=hall2 0 _ rfl _ 0 1 rfl rfl c9
  obtain ⟨n7,y7,g7⟩:=hall2 1 _ rfl _ 1 1 rfl rfl c9
  obtain ⟨n8,y8,g8⟩:=hall2 2 _ rfl _ 2 1 rfl rfl c9
  obtain ⟨n9,y9,g9⟩:=hall2 3 _ rfl _ 3 1 rfl rfl cM
  obtain ⟨k0,q0,_,f0⟩:=DataW.trod_int Tryz.underlying3 g0
  obtain ⟨k1,q1,_,f1⟩:=DataW.trod_int Tryz.underlying3 g1
  obtain ⟨k2,q2,_,f2⟩:=DataW.trod_int Tryz.underlying3 g2
  obtain ⟨s3,q3,_,f3⟩:=DataW.trod_string Tryz.underlying9 g3
  obtain ⟨s4,q4,_,f4⟩:=DataW.trod_string Tryz.underlying9 g4
  obtain ⟨s6,q6,_,f6⟩:=DataW.trod_string Tryz.underlying9 g6
  obtain ⟨s7,q7,_,f7⟩:=DataW.trod_string Tryz.underlying9 g7
  obtain ⟨s8,q8,_,f8⟩:=DataW.trod_string Tryz.underlying9 g8
  have q9:∃a n c,u8 = .slice a n c:=by
   rcases open_slice Tryz.underlying51 g9 with ⟨e,_⟩|⟨a,len,cap,_,_,_,_,e,_⟩
   ·exact ⟨none,0,0,by simpa using e⟩
   ·exact ⟨some a,len,cap,by simpa using e⟩
  obtain ⟨ma,mn,mc,rfl⟩:=q9
  simp at q0 q1 q2 q3 q4 q6 q7 q8
  subst q0 q1 q2 q3 q4 q6 q7 q8
  exact ⟨⟨k0,k1,k2,s3,s4,s6,s7,s8,ma,mn,mc⟩,rfl,zgI f0,zgI f1,zgI f2,f3,f4⟩
theorem zi6 {fuel:Nat} {v:Value} {x:DataW H×List MemPlace} (h:DataW.trod enc Tryz.prog w 0 spare held fuel 28 [v]=some x) (hs:∀b,spare b=true):∃ops:List OpD,ops.length≤Rows.uptoBulk x.1∧zfT w v ops∧∀o ∈ ops,zaE o:=by
 have hc:Tryz.prog.cellsOf 91=9:=by kernel_rfl
 rcases open_slice Tryz.underlying28 h with ⟨e,_⟩|⟨a,len,cap,m,n,D,Pl,e,_,hl,hmx,hmm,rfl,hcell⟩
 ·simp only [List.cons.injEq,and_true] at e
  subst e
  exact ⟨[],by simp,⟨none,0,rfl,fun k r hr=>by simp at hr⟩,fun o ho=>by simp at ho⟩
 ·simp only [List.cons.injEq,and_true] at e
  subst e
  rw [hs,if_pos rfl] at hmm
  rw [hc] at hcell
  have each:∀i,i<len→∃o:OpD,zaE o∧∃gb q,some a=some ⟨gb,q,none⟩∧JS w gb (q+i*9) o:=by
   intro i hi
   have hpl:∃b o,a=⟨b,o,none⟩:=by
    obtain ⟨cs0,h0,t0⟩:=hcell 0 (by omega)
    obtain ⟨_,hl0,hc0⟩:=World.cells?_some h0
    have:=hc0 0 (by omega)
    rw [add_add,Nat.zero_mul,Nat.add_zero,List.getElem?_eq_getElem (by omega)] at this
    exact zjT this
   obtain ⟨gb,q,rfl⟩:=hpl
   obtain ⟨cs',h1,h2⟩:=hcell i (by omega)
   obtain ⟨o,rfl,f⟩:=zlI h2
   obtain ⟨_,_,hcc⟩:=World.cells?_some h1
   have cell:∀j,j<9→w.cell? ⟨gb,q+i*9+j,none⟩=[Value.int .i64 o.kind, .int .i64 o.a, .int .i64 o.layer, .string o.name, .string o.text, .string o.who, .string o.act, .string o.on, .slice o.ma o.mn o.mc][j]?:=by
    intro j hj
    have:=hcc j hj
    rw [add_add,addr_add,← Nat.add_assoc] at this
    exact this
   exact ⟨o,f,gb,q,rfl,cell 0 (by omega),cell 1 (by omega),cell 2 (by omega),cell 3 (by omega),cell 4 (by omega),cell 5 (by omega),cell 6 (by omega),cell 7 (by omega),cell 8 (by omega)⟩
  obtain ⟨F,hF⟩:=choose_lt each
  have hb:=zc6 ((List.range len).map D)
  rw [List.length_map,List.length_range] at hb
  refine ⟨(List.range len).map F,?_,⟨some a,cap,by rw [List.length_map,List.length_range],fun k o ho=>?_⟩,fun o ho=>?_⟩
  ·rw [List.length_map,List.length_range]
   simp only [Rows.uptoBulk]
   omega
  ·have hk:k<len:=by
    have:=(List.getElem?_eq_some_iff.1 ho).1
    rw [List.length_map,List.length_range] at this
    exact this
   rw [List.getElem?_map,List.getElem?_range hk] at ho
   simp only [Option.map_some,Option.some.injEq] at ho
   subst ho
   exact (hF k hk).2
  ·obtain ⟨i,hi,rfl⟩:=List.mem_map.1 ho
   exact (hF i (List.mem_range.1 hi)).1
end
end Go.Proofs.YtdakgnaojakldaaGreatDoor
namespace Go.Proofs.YtdakgnaojakldaaGreatDoor.keeps
theorem zm3:(Rows.keepsUptoRow.wf (OpenSpec.ofChange (Rows.OpenSpec.upto Rows.keepsSpec).bare))=true:=by kernel_rfl
theorem znk:(Tryz.f5.params.all (Tryz.prog.readableRec ·))=true:=by kernel_rfl
theorem znB:(namedTie Tryz.prog Rows.keepsUptoRow.named (Rows.OpenSpec.upto Rows.keepsSpec).bare.vars)=true:=by kernel_rfl
theorem zne:((Rows.keepsUptoRow.stops==[]))=true:=by kernel_rfl
theorem znb:((Rows.keepsUptoRow.knobs==[]))=true:=by kernel_rfl
theorem zm9:((Rows.keepsUptoRow.inPlace==Tryz.prog.inPlace 5))=true:=by kernel_rfl
theorem znj:((Rows.keepsUptoRow.unfollowed==Tryz.prog.unfollowed 5))=true:=by kernel_rfl
theorem znv:((Rows.keepsUptoRow.recurses==Tryz.prog.recurses 5))=true:=by kernel_rfl
theorem zm7:((Rows.keepsUptoRow.named==Tryz.prog.varsNamed 5))=true:=by kernel_rfl
theorem znf:((Rows.keepsUptoRow.maps==(Tryz.f5.params.toList++(Rows.OpenSpec.upto Rows.keepsSpec).bare.plain.varTypes Tryz.prog).any (Tryz.prog.mapsRec ·)))=true:=by kernel_rfl
theorem zni:((Rows.keepsUptoRow.ifaces==(Tryz.f5.params.toList++(Rows.OpenSpec.upto Rows.keepsSpec).bare.plain.varTypes Tryz.prog).any (Tryz.prog.ifacesRec ·)))=true:=by kernel_rfl
theorem zns:((Rows.keepsUptoRow.mapsOut==Tryz.prog.mapsAmong Tryz.f5.resultTypes.toList))=true:=by kernel_rfl
theorem znl:((Rows.keepsUptoRow.loops==(Tryz.f5.params.toList++(Rows.OpenSpec.upto Rows.keepsSpec).bare.plain.varTypes Tryz.prog).any (Tryz.prog.loopsFrom ·)))=true:=by kernel_rfl
theorem zm4:((Rows.keepsUptoRow.wideKeys==(Tryz.f5.params.toList++(Rows.OpenSpec.upto Rows.keepsSpec).bare.plain.varTypes Tryz.prog++Tryz.f5.resultTypes.toList).any (Tryz.prog.wideKeysFrom ·)))=true:=by kernel_rfl
theorem znn:((Rows.OpenSpec.upto Rows.keepsSpec).bare.vars.all (Tryz.prog.varReadable ·))=true:=by kernel_rfl
theorem zmY:(Tryz.f5.resultTypes.all (fun t=>Tryz.prog.readableRec t&&decide (t<Tryz.prog.types.size)))=true:=by kernel_rfl
theorem znt:((Rows.keepsUptoRow.ifacesOut==Tryz.f5.resultTypes.toList.any (Tryz.prog.ifacesRec ·)))=true:=by kernel_rfl
theorem znx:((Rows.keepsUptoRow.loopsOut==Tryz.f5.resultTypes.toList.any (Tryz.prog.loopsFrom ·)))=true:=by kernel_rfl
theorem zm6:((Rows.keepsUptoRow.plainKeys==Tryz.prog.plainKeys))=true:=by kernel_rfl
theorem znq:(Rows.keepsUptoRow.shortTexts.isNone)=true:=by kernel_rfl
theorem zm8:((Rows.keepsUptoRow.lifted==Tryz.prog.liftsFinal))=true:=by kernel_rfl
theorem znr:((Tryz.prog.make==some Rows.keepsUptoRow.make))=true:=by kernel_rfl
theorem zm5:((Rows.keepsUptoRow.kinds==(if Rows.keepsUptoRow.domain.isEmpty then [] else Tryz.f5.params.toList.map fun t=>match Tryz.prog.underlying t with|some (.int k)=>some k|_=>none)))=true:=by kernel_rfl
theorem zng:((Rows.keepsUptoRow.pinned==Rows.keepsUptoRow.pinnedBy))=true:=by kernel_rfl
theorem znd:((Rows.keepsUptoRow.veiled==(Tryz.f5.params.toList++(Rows.OpenSpec.upto Rows.keepsSpec).bare.plain.varTypes Tryz.prog++Tryz.f5.resultTypes.toList).any (Tryz.prog.veiledRec ·)))=true:=by kernel_rfl
theorem znC:(Rows.keepsUptoRow.veiledFits Tryz.prog Tryz.f5.params.toList (Tryz.f5.params.toList++(Rows.OpenSpec.upto Rows.keepsSpec).bare.plain.varTypes Tryz.prog++Tryz.f5.resultTypes.toList))=true:=by kernel_rfl
theorem zl0:Tryz.f5.isInstance Tryz.prog Rows.keepsUptoRow.origin Rows.keepsUptoRow.targs:=of_decide_eq_true (by kernel_rfl)
theorem zmy:Tryz.f5.isWrapper Tryz.prog Rows.keepsUptoRow.wrapper Rows.keepsUptoRow.mainSum:=by unfold Func.isWrapper;first|(rw [if_pos (by decide +kernel)];kernel_rfl)|(rw [if_neg (by decide +kernel)];exact ⟨rfl,rfl⟩)
theorem zlj:Tryz.prog.funcNamed Rows.keepsUptoRow.func=some 5:=by kernel_rfl
end Go.Proofs.YtdakgnaojakldaaGreatDoor.keeps
namespace Go.Proofs.YtdakgnaojakldaaGreatDoor.laws
theorem zmZ:(laidOutB Tryz.prog)=true:=by kernel_rfl
theorem znh:(mapsRowed Tryz.prog)=true:=by kernel_rfl
theorem znc:((Tryz.prog.stops==[]))=true:=by kernel_rfl
theorem znp:((Tryz.prog.stopKnobs==[]))=true:=by kernel_rfl
theorem znw:(Tryz.prog.stopsHeard)=true:=by kernel_rfl
theorem zm0:(Tryz.prog.mayEnter)=true:=by kernel_rfl
theorem yQ {a b:Bool} (h:a=true) (k:b=true):(a&&b)=true:=by rw [h,k];rfl
end Go.Proofs.YtdakgnaojakldaaGreatDoor.laws
