/- P -/
import Derived.Test.YtagnlbgbnfnapaaGreatDoorK51
open Go.Proofs.Tryz hiding parts
set_option maxRecDepth 100000
namespace Go.Proofs.YtagnlbgbnfnapaaGreatDoor
open laws Go.ChangeShapes Go.WideShapes Go.ChangeAt Go.RowKit Go.Joins Go.Deep
theorem bO{n:Int}(h:(Lit.int .i64 n).wf=true):I64 n:=by
 have a:(decide (IntKind.min .i64<=n)&&decide (n<=IntKind.max .i64))=true:=h;rw[Jh,Zj,Zj] at a;exact a
theorem MP{w:World}{a:Addr}{v:Value}(h:w.cell? (a.add 0)=some v):∃b o,a=⟨b,o,none⟩:=by
 obtain⟨b,o,s⟩:=a;have c:w.cell? ⟨b,o,s⟩=some v:=h
 cases s with
 | none=>exact⟨b,o,rfl⟩
 | some x=>
  unfold World.cell? at c
  split at c
  ·simp at c
  ·cases c
instance:Inhabited OpD:=⟨⟨0,0,0,⟨#[]⟩,⟨#[]⟩,⟨#[]⟩,⟨#[]⟩,⟨#[]⟩,none,0,0⟩⟩
section
variable {H:Type} {enc:TypeId×Value->H} {w:World} {spare:Nat->Bool} {held:Bool}
theorem sW{P:Program}{base fuel:Nat}{t:TypeId}{b:Array Field}{cs:List Value}{x:DataW H×List MemPlace}(l:P.underlying t=some (.struct b))(h:DataW.trod enc P w base spare held fuel t cs=some x) :
  cs.length=P.cellsOf t/\∀(i:Nat) (f:Field),b[i]?=some f->∀(u:TypeId) (o c:Nat),f.type=u->f.offset=o->P.cellsOf u=c->∃n y,DataW.trod enc P w base spare held n u ((cs.drop o).take c)=some y:=by
 obtain⟨xs,n,_,_,g,p,a⟩:=DataW.trod_struct l h;refine⟨g,λi f hi u o c m k e=>?_⟩;have j:i<b.size:=(XG.1 hi).1;have d:=a i f hi;subst m;rw[k,e,zn (by omega)] at d;exact⟨n,_,d⟩
theorem AX{H:Type}(d:DataW H):1<=Rows.uptoBulk d:=by
 cases d with
 | lit l=>cases l<;>simp[Rows.uptoBulk]
 | nil=>simp[Rows.uptoBulk]
 | ptr d=>simp[Rows.uptoBulk]
 | slice elems spare=>simp[Rows.uptoBulk]
 | agg parts=>simp[Rows.uptoBulk]
 | iface t d=>simp[Rows.uptoBulk]
 | map entries=>simp[Rows.uptoBulk]
 | held h=>simp[Rows.uptoBulk]
theorem AU{H:Type}(l:List (DataW H)):l.length<=Rows.uptoBulkAll l:=by
 induction l with
 | nil=>simp[Rows.uptoBulkAll]
 | cons x r a=>have:=AX x;simp only[Rows.uptoBulkAll,ZB];omega
theorem MO{fuel:Nat}{cs:List Value}{x:DataW H×List MemPlace}(h:DataW.trod enc prog w 0 spare held fuel 67 cs=some x) :
  ∃o:OpD,cs=[.int .i64 o.kind,.int .i64 o.a,.int .i64 o.layer,.string o.name,.string o.text,.string o.who,.string o.act,.string o.on,.slice o.ma o.mn o.mc]/\Jw o:=by
 have c3:prog.cellsOf 3=1:=by kernel_rfl
 have f:prog.cellsOf 9=1:=by kernel_rfl
 have t:prog.cellsOf 34=4:=by kernel_rfl
 have r:prog.cellsOf 32=1:=by kernel_rfl
 have s:prog.cellsOf 67=9:=by kernel_rfl
 obtain⟨g,b⟩:=sW underlying67 h;rw[s] at g
 match cs,g with
 | [u0,u1,u2,u3,u4,u5,u6,u7,u8],_=>
  obtain⟨W,y0,z⟩:=b 0 _ rfl _ 0 1 rfl rfl c3;obtain⟨X,y1,A⟩:=b 1 _ rfl _ 1 1 rfl rfl c3;obtain⟨Y,y2,B⟩:=b 2 _ rfl _ 2 1 rfl rfl c3;obtain⟨Z,y3,C⟩:=b 3 _ rfl _ 3 1 rfl rfl f;obtain⟨n4,y4,D⟩:=b 4 _ rfl _ 4 1 rfl rfl f;obtain⟨n5,y5,E⟩:=b 5 _ rfl _ 5 4 rfl rfl t;obtain⟨_,d⟩:=sW underlying34 E;obtain⟨n6,y6,F⟩:=d 0 _ rfl _ 0 1 rfl rfl f;obtain⟨n7,y7,G⟩:=d 1 _ rfl _ 1 1 rfl rfl f;obtain⟨n8,y8,I⟩:=d 2 _ rfl _ 2 1 rfl rfl f;obtain⟨n9,y9,J⟩:=d 3 _ rfl _ 3 1 rfl rfl r;obtain⟨K,i,_,u⟩:=U6 underlying3 z;obtain⟨L,j,_,f1⟩:=U6 underlying3 A;obtain⟨M,q2,_,f2⟩:=U6 underlying3 B;obtain⟨O,k,_,v⟩:=Jn underlying9 C;obtain⟨P,l,_,y⟩:=Jn underlying9 D;obtain⟨Q,m,_,T⟩:=Jn underlying9 F;obtain⟨R,p,_,U⟩:=Jn underlying9 G;obtain⟨S,q,_,V⟩:=Jn underlying9 I
  have N:∃a n c,u8 = .slice a n c:=by
   rcases open_slice underlying32 J with ⟨e,_⟩|⟨a,len,cap,_,_,_,_,e,_⟩
   ·exact⟨none,0,0,by simpa using e⟩
   ·exact⟨some a,len,cap,by simpa using e⟩
  obtain⟨ma,mn,mc,rfl⟩:=N;simp at i j q2 k l m p q;subst i j q2 k l m p q;exact⟨⟨K,L,M,O,P,Q,R,S,ma,mn,mc⟩,rfl,bO u,bO f1,bO f2,v,y⟩
theorem MS{fuel:Nat}{v:Value}{x:DataW H×List MemPlace}(h:DataW.trod enc prog w 0 spare held fuel 22 [v]=some x)(I:∀b,spare b=true):∃ops:List OpD,ops.length<=Rows.uptoBulk x.1/\YE w v ops/\∀o ∈ ops,Jw o:=by
 have B:prog.cellsOf 67=9:=by kernel_rfl
 rcases open_slice underlying22 h with ⟨e,_⟩|⟨a,len,cap,m,n,D,Pl,e,_,hl,hmx,hmm,rfl,hcell⟩
 ·simp only[List.cons.injEq,and_true] at e;subst e;exact⟨[],by simp,⟨none,0,rfl,λk r G=>by simp at G⟩,λo c=>by simp at c⟩
 ·simp only[List.cons.injEq,and_true] at e;subst e;rw[I,zb rfl] at hmm;rw[B] at hcell
  have each:∀i,i<len->∃o:OpD,Jw o/\∃d q,some a=some ⟨d,q,none⟩/\Jv w d (q+i*9) o:=by
   intro i hi
   have p:∃b o,a=⟨b,o,none⟩:=by
    obtain⟨u,y,J⟩:=hcell 0 (by omega);obtain⟨_,E,g⟩:=World.cells?_some y
    have:=g 0 (by omega)
    rw[add_add,Nat.zero_mul,Ze,zn (by omega)] at this;exact MP this
   obtain⟨d,q,rfl⟩:=p;obtain⟨t,z,A⟩:=hcell i (by omega);obtain⟨o,rfl,f⟩:=MO A;obtain⟨_,_,l⟩:=World.cells?_some z
   have cell:∀j,j<9->w.cell? ⟨d,q+i*9+j,none⟩=[Value.int .i64 o.kind,.int .i64 o.a,.int .i64 o.layer,.string o.name,.string o.text,.string o.who,.string o.act,.string o.on,.slice o.ma o.mn o.mc][j]?:=by
    intro j C
    have:=l j C
    rw[add_add,addr_add,<- Nat.add_assoc] at this;exact this
   exact⟨o,f,d,q,rfl,cell 0 (by omega),cell 1 (by omega),cell 2 (by omega),cell 3 (by omega),cell 4 (by omega),cell 5 (by omega),cell 6 (by omega),cell 7 (by omega),cell 8 (by omega)⟩
  obtain⟨F,hF⟩:=choose_lt each;have hb:=AU ((List.range len).map D);rw[qB,Qb] at hb;refine⟨(List.range len).map F,?_,⟨some a,cap,by rw[qB,Qb],λk o c=>?_⟩,λo c=>?_⟩
  ·rw[qB,Qb];simp only[Rows.uptoBulk];omega
  ·have s:k<len:=by
    have:=(zR.1 c).1
    rw[qB,Qb] at this;exact this
   rw[vz,Kk s] at c;simp only[Xg,Option.some.injEq] at c;subst c;exact (hF k s).2
  ·obtain⟨i,hi,rfl⟩:=xR.1 c;exact (hF i (ku.1 hi)).1
end
end Go.Proofs.YtagnlbgbnfnapaaGreatDoor
namespace Go.Proofs.YtagnlbgbnfnapaaGreatDoor.keeps
theorem Iu:(Rows.keepsRow.wf (OpenSpec.ofChange (OpenSpec.ofChange Rows.keepsSpec).bare))=true:=by kernel_rfl
theorem Hz:(Tryz.f3.params.all (prog.readableRec ·))=true:=by kernel_rfl
theorem Hu:(namedTie prog Rows.keepsRow.named (OpenSpec.ofChange Rows.keepsSpec).bare.vars)=true:=by kernel_rfl
theorem Ig:((Rows.keepsRow.stops==[]))=true:=by kernel_rfl
theorem Ii:((Rows.keepsRow.knobs==[]))=true:=by kernel_rfl
theorem GX:((Rows.keepsRow.inPlace==prog.inPlace 3))=true:=by kernel_rfl
theorem Im:((Rows.keepsRow.unfollowed==prog.unfollowed 3))=true:=by kernel_rfl
theorem Ie:((Rows.keepsRow.recurses==prog.recurses 3))=true:=by kernel_rfl
theorem Ir:((Rows.keepsRow.named==prog.varsNamed 3))=true:=by kernel_rfl
theorem He:((Rows.keepsRow.maps==(Tryz.f3.params.toList++(OpenSpec.ofChange Rows.keepsSpec).bare.plain.varTypes prog).any (prog.mapsRec ·)))=true:=by kernel_rfl
theorem Hf:((Rows.keepsRow.ifaces==(Tryz.f3.params.toList++(OpenSpec.ofChange Rows.keepsSpec).bare.plain.varTypes prog).any (prog.ifacesRec ·)))=true:=by kernel_rfl
theorem Hg:((Rows.keepsRow.mapsOut==prog.mapsAmong Tryz.f3.resultTypes.toList))=true:=by kernel_rfl
theorem Hl:((Rows.keepsRow.loops==(Tryz.f3.params.toList++(OpenSpec.ofChange Rows.keepsSpec).bare.plain.varTypes prog).any (prog.loopsFrom ·)))=true:=by kernel_rfl
theorem Hm:((Rows.keepsRow.wideKeys==(Tryz.f3.params.toList++(OpenSpec.ofChange Rows.keepsSpec).bare.plain.varTypes prog++Tryz.f3.resultTypes.toList).any (prog.wideKeysFrom ·)))=true:=by kernel_rfl
theorem Io:((OpenSpec.ofChange Rows.keepsSpec).bare.vars.all (prog.varReadable ·))=true:=by kernel_rfl
theorem Ia:(Tryz.f3.resultTypes.all (λt=>prog.readableRec t&&decide (t<prog.types.size)))=true:=by kernel_rfl
theorem Ib:((Rows.keepsRow.ifacesOut==Tryz.f3.resultTypes.toList.any (prog.ifacesRec ·)))=true:=by kernel_rfl
theorem Ic:((Rows.keepsRow.loopsOut==Tryz.f3.resultTypes.toList.any (prog.loopsFrom ·)))=true:=by kernel_rfl
theorem Hy:((Rows.keepsRow.plainKeys==prog.plainKeys))=true:=by kernel_rfl
theorem Il:(Rows.keepsRow.shortTexts.isNone)=true:=by kernel_rfl
theorem GZ:((Rows.keepsRow.lifted==prog.liftsFinal))=true:=by kernel_rfl
theorem Hq:((prog.make==some Rows.keepsRow.make))=true:=by kernel_rfl
theorem GY:((Rows.keepsRow.kinds==(if Rows.keepsRow.domain.isEmpty then [] else Tryz.f3.params.toList.map λt=>match prog.underlying t with|some (.int k)=>some k|_=>none)))=true:=by kernel_rfl
theorem Hw:((Rows.keepsRow.pinned==Rows.keepsRow.pinnedBy))=true:=by kernel_rfl
theorem Ip:((Rows.keepsRow.veiled==(Tryz.f3.params.toList++(OpenSpec.ofChange Rows.keepsSpec).bare.plain.varTypes prog++Tryz.f3.resultTypes.toList).any (prog.veiledRec ·)))=true:=by kernel_rfl
theorem Iq:(Rows.keepsRow.veiledFits prog Tryz.f3.params.toList (Tryz.f3.params.toList++(OpenSpec.ofChange Rows.keepsSpec).bare.plain.varTypes prog++Tryz.f3.resultTypes.toList))=true:=by kernel_rfl
theorem GV:Tryz.f3.isInstance prog Rows.keepsRow.origin Rows.keepsRow.targs:=of_decide_eq_true (by kernel_rfl)
theorem Iw:Tryz.f3.isWrapper prog Rows.keepsRow.wrapper Rows.keepsRow.mainSum:=by unfold Func.isWrapper;first|(rw[zb (by decide +kernel)];kernel_rfl)|(rw[za (by decide +kernel)];exact⟨rfl,rfl⟩)
theorem Ht:prog.funcNamed Rows.keepsRow.func=some 3:=by kernel_rfl
end Go.Proofs.YtagnlbgbnfnapaaGreatDoor.keeps
namespace Go.Proofs.YtagnlbgbnfnapaaGreatDoor.laws
theorem Ha:(laidOutB prog)=true:=by kernel_rfl
theorem Hr:(mapsRowed prog)=true:=by kernel_rfl
theorem Ih:((prog.stops==[]))=true:=by kernel_rfl
theorem Ij:((prog.stopKnobs==[]))=true:=by kernel_rfl
theorem Ik:(prog.stopsHeard)=true:=by kernel_rfl
theorem Ho:(prog.mayEnter)=true:=by kernel_rfl
theorem xz{a b:Bool}(h:a=true)(k:b=true):(a&&b)=true:=by rw[h,k];rfl
end Go.Proofs.YtagnlbgbnfnapaaGreatDoor.laws
namespace Go.Proofs.YtagnlbgbnfnapaaGreatDoor
open Go.ChangeShapes Go.WideShapes Go.ChangeAt Go.RowKit Go.Joins Go.Deep
theorem IV{H:Type}{enc:TypeId×Value->H}{w:World}{spare:Nat->Bool}{held:Bool}{P:Program}{ts:List TypeId}{b:List (DataW H)}(i:(DataW.weightsEach P ts b).all (·<=reachBytes)=true)
  {j fuel:Nat}{t e:TypeId}{a:Option Addr}{len cap:Nat}{x:DataW H×List MemPlace}(d:P.underlying t=some (.slice e))(h:DataW.trod enc P w 0 spare held fuel t [.slice a len cap]=some x)(g:ts[j]?=some t)(f:b[j]?=some x.1) :
  len*P.bytesOf e<=reachBytes:=by
 rcases open_slice d h with ⟨e1,_⟩|⟨a',len',cap',m,n,D,Pl,e1,_,hl,hmx,hmm,rfl,hcell⟩
 ·simp only[List.cons.injEq,Value.slice.injEq,and_true] at e1;obtain⟨_,rfl,_⟩:=e1
  simp
 ·simp only[List.cons.injEq,Value.slice.injEq,and_true] at e1;obtain⟨_,rfl,_⟩:=e1;have c:=sized_slice i g f d;rw[qB,Qb] at c;exact qZ (Ju _ (Nat.le_add_right _ _)) c
end Go.Proofs.YtagnlbgbnfnapaaGreatDoor
