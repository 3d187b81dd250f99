/- P -/
import Derived.Test.YtfjpcldndaiifaaGreatDoorA15
open Go.Proofs.Tryz
set_option maxRecDepth 100000
set_option maxHeartbeats 4000000
namespace Go.Proofs.YtfjpcldndaiifaaGreatDoor.all
open Go.ChangeShapes Go.WideShapes Go.ChangeAt Go.RowKit Go.Joins Go.Deep
def XH:Array Y:=#[R4]
theorem zfN(a:Os):((laws.laidWorld a).forCall (λ_ _=>0) ⟨#[],XH,[]⟩).variablesRefB prog=true:=by kernel_rfl
theorem zfL(a:Os):(((laws.laidWorld a).forCall (λ_ _=>0) ⟨#[],XH,[]⟩).heap.toList.drop prog.globals.size).take ((begin prog (λ_ _=>0) default).world.heap.size-prog.globals.size) =
   (begin prog (λ_ _=>0) default).world.heap.toList.drop prog.globals.size:=by kernel_rfl
theorem zfK(a:Os):Input.okWideB prog ((laws.laidWorld a).forCall (λ_ _=>0) ⟨#[],XH,[]⟩) 3 ⟨#[],XH,[]⟩=true:=by kernel_rfl
theorem zfM(a:Os){H:Type}(enc:TypeId×Y->H):(Rows.OpenSpec.upto Rows.allSpec).bare.sizedB enc prog Tryz.f3 false ((laws.laidWorld a).forCall (λ_ _=>0) ⟨#[],XH,[]⟩).memory XH 8=true:=by kernel_rfl
theorem zfJ:prog.inits.idxOf? 3=none:=by kernel_rfl
theorem reads(c:Os){H:Type}(enc:TypeId×Y->H):∃a,DataW.whole enc prog ((laws.laidWorld c).forCall (λ_ _=>0) ⟨#[],XH,[]⟩).memory Tryz.f3.params.toList Rows.allSpec.vars false XH.toList 8
  = some ([.nil],[],a):=by
 have d:(DataW.whole enc prog ((laws.laidWorld c).forCall (λ_ _=>0) ⟨#[],XH,[]⟩).memory Tryz.f3.params.toList Rows.allSpec.vars false XH.toList 8).map (λx=>(x.1,x.2.1)) =
   some ([.nil],[]):=by kernel_rfl
 obtain⟨⟨g,h,f⟩,e,b⟩:=vT.1 d;simp only[Prod.mk.injEq]at b;obtain⟨rfl,rfl⟩:=b;exact⟨f,e⟩
end Go.Proofs.YtfjpcldndaiifaaGreatDoor.all
namespace Go.Proofs.YtfjpcldndaiifaaGreatDoor
namespace U
def hexDigits:BY:=⟨#[48,49,50,51,52,53,54,55,56,57,97,98,99,100,101,102]⟩
def Jq(s o:BY)(i:Nat)(c:Int):BY:=
 if c=34\/c=92 then o++⟨#[92]⟩++s.extract i (i+1)
 else if c=10 then o++⟨#[92,110]⟩
 else if c=9 then o++⟨#[92,116]⟩
 else if c<32 then o++⟨#[92,117,48,48]⟩++hexDigits.extract (c / 16).toNat ((c / 16).toNat+1)++hexDigits.extract (c % 16).toNat ((c % 16).toNat+1)
 else o++s.extract i (i+1)
def uU(s:BY):Nat->BY
 | 0=>⟨#[34]⟩
 | k+1=>Jq s (uU s k) k ((s.data.toList.getD k 0).toNat:Int)
def qh(s:BY):BY:=uU s s.size++⟨#[34]⟩
theorem ext_size(t:BY)(i:Nat):(t.extract i (i+1)).size<=1:=by rw[yM];omega
theorem Pz(s o:BY)(i:Nat)(c:Int):(Jq s o i c).size<=o.size+6:=by
 have a:=ext_size s i;have b:=ext_size hexDigits (c / 16).toNat;have d:=ext_size hexDigits (c % 16).toNat;have e:(⟨#[92]⟩:BY).size=1:=rfl;have f:(⟨#[92,110]⟩:BY).size=2:=rfl;have g:(⟨#[92,116]⟩:BY).size=2:=rfl;have h:(⟨#[92,117,48,48]⟩:BY).size=4:=rfl;unfold Jq;split
 ·rw[zV,zV];omega
 split
 ·rw[zV];omega
 split
 ·rw[zV];omega
 split
 ·rw[zV,zV,zV];omega
 rw[zV];omega
theorem KW(s:BY):∀k,(uU s k).size<=1+6*k
 | 0=>by simp[uU,ByteArray.size]
 | k+1=>by rw[uU];have:=Pz s (uU s k) k ((s.data.toList.getD k 0).toNat:Int);have:=KW s k;omega
theorem byte_at(s:BY)(k:Nat)(h:k<s.size):s.data.toList.getD k 0=s[k]:=by
 have a:k<s.data.toList.length:=by rw[zF];exact h
 rw[zT,zn a]
 rfl
theorem EK(s:BY)(k:Nat)(h:k<s.size):uU s (k+1)=Jq s (uU s k) k (s[k].toNat:Int):=by rw[uU,byte_at s k h]
def listedTo(l:List BY):Nat->BY
 | 0=>⟨#[91]⟩
 | k+1=>(if 0<k then listedTo l k++⟨#[44]⟩ else listedTo l k)++qh (l.getD k ⟨#[]⟩)
def listedB(l:List BY):BY:=listedTo l l.length++⟨#[93]⟩
theorem Z0(s:BY):(qh s).size<=2+6*s.size:=by
 have:=KW s s.size
 have z:(⟨#[34]⟩:BY).size=1:=rfl;rw[qh,zV];omega
theorem listedTo_size(l:List BY)(h:∀s ∈ l,s.size<=12000):∀k,(listedTo l k).size<=1+80000*k
 | 0=>by simp[listedTo,ByteArray.size]
 | k+1=>by
  have a:=listedTo_size l h k;have b:=Z0 (l.getD k ⟨#[]⟩);have z:(⟨#[44]⟩:BY).size=1:=rfl
  have c:(l.getD k ⟨#[]⟩).size<=12000:=by
   rw[zT]
   cases e:l[k]? with
   | none=>exact zD _
   | some s=>exact h s (xC e)
  rw[listedTo,zV];split
  ·rw[zV];omega
  omega
theorem zaw(l:List BY)(k:Nat)(h:k<l.length):listedTo l (k+1)=(if 0<k then listedTo l k++⟨#[44]⟩ else listedTo l k)++qh l[k]:=by
 rw[listedTo,zT,zn h];rfl
def Zv(c:Bool×List BY):BY:=if c.1 then ⟨#[123,34,110,111,116,34,58]⟩++listedB c.2++⟨#[125]⟩ else listedB c.2
def Xg(o:BY)(c:qz):BY:=o++⟨#[123,34,111,112,34,58]⟩++qh c.op++⟨#[44,34,107,101,121,34,58]⟩++qh c.key
def Jl(o:BY)(c:qz):BY:=if xR c.op then o else o++⟨#[44,34,118,97,108,117,101,34,58]⟩++listedB c.vals
def VZ(o:BY)(c:qz):BY:=if c.no then o++⟨#[44,34,110,111,34,58,116,114,117,101]⟩ else o
def Jk(o:BY)(c:qz):BY:=VZ (Jl (Xg o c) c) c++⟨#[125]⟩
def comma(o:BY)(k:Nat):BY:=if 0<k then o++⟨#[44]⟩ else o
def QJ(l:List qz):Nat->BY
 | 0=>⟨#[]⟩
 | k+1=>Jk (comma (QJ l k) k) (l.getD k yR)
def Xh(l:List qz):BY:=QJ l l.length
def Vt(o:BY)(s:Z.qi):BY:=o++⟨#[123,34,101,102,102,101,99,116,34,58]⟩++qh s.eff++⟨#[44,34,119,104,111,34,58]⟩++Zv s.who++⟨#[44,34,100,111,34,58]⟩++Zv s.act++⟨#[44,34,111,110,34,58]⟩++Zv s.on
def UD(o:BY)(s:Z.qi):BY:=if 0<s.cs.length then o++⟨#[44,34,105,102,34,58,91]⟩++Xh s.cs++⟨#[93]⟩ else o
def JD(o:BY)(s:Z.qi):BY:=UD (Vt o s) s++⟨#[125]⟩
def Qu(l:List Z.qi):Nat->BY
 | 0=>⟨#[123,34,115,116,97,116,101,109,101,110,116,34,58,91]⟩
 | k+1=>JD (comma (Qu l k) k) (l.getD k Z.vN)
def QU(l:List Z.qi):BY:=Qu l l.length++⟨#[93,125]⟩
def Jc(c:qz):Prop:=c.op.size<=12000/\c.key.size<=12000/\c.vals.length<=10/\∀s ∈ c.vals,s.size<=12000
def ZO(l:List BY):Prop:=l.length<=10/\∀s ∈ l,s.size<=12000
structure ZP (s:Z.qi):Prop where
 eff:s.eff.size<=12000
 who:ZO s.who.2
 act:ZO s.act.2
 on:ZO s.on.2
 len:s.cs.length<=5
 cs:∀c ∈ s.cs,Jc c
theorem Ug{l:List BY}(h:ZO l):(listedB l).size<=900000:=by
 have a:=listedTo_size l h.2 l.length;have b:=h.1;have z:(⟨#[93]⟩:BY).size=1:=rfl;rw[listedB,zV];omega
theorem QH{c:Bool×List BY}(h:ZO c.2):(Zv c).size<=900020:=by
 have a:=Ug h;have b:(⟨#[123,34,110,111,116,34,58]⟩:BY).size=7:=rfl;have d:(⟨#[125]⟩:BY).size=1:=rfl;unfold Zv;split
 ·rw[zV,zV];omega
 omega
theorem wL(o:BY){c:qz}(h:Jc c):(Xg o c).size<=o.size+200000/\(Jl (Xg o c) c).size<=o.size+1200000/\(VZ (Jl (Xg o c) c) c).size<=o.size+1200100/\(Jk o c).size<=o.size+1200200:=by
 obtain⟨g,i,f⟩:=h;have j:=Z0 c.op;have k:=Z0 c.key;have m:=Ug (l:=c.vals) f
 have a:(Xg o c).size<=o.size+200000:=by
  have e:(⟨#[123,34,111,112,34,58]⟩:BY).size=6:=rfl;have n:(⟨#[44,34,107,101,121,34,58]⟩:BY).size=7:=rfl;unfold Xg;rw[zV,zV,zV,zV];omega
 have b:(Jl (Xg o c) c).size<=o.size+1200000:=by
  have e:(⟨#[44,34,118,97,108,117,101,34,58]⟩:BY).size=9:=rfl;unfold Jl;split
  ·omega
  rw[zV,zV];omega
 have d:(VZ (Jl (Xg o c) c) c).size<=o.size+1200100:=by
  have e:(⟨#[44,34,110,111,34,58,116,114,117,101]⟩:BY).size=10:=rfl;unfold VZ;split
  ·rw[zV];omega
  omega
 have z:(⟨#[125]⟩:BY).size=1:=rfl;refine⟨a,b,d,?_⟩;unfold Jk;rw[zV];omega
theorem bO(o:BY)(k:Nat):(comma o k).size<=o.size+1:=by
 have z:(⟨#[44]⟩:BY).size=1:=rfl;unfold comma;split
 ·rw[zV];omega
 omega
theorem bP(l:List qz)(h:∀c ∈ l,Jc c):∀k,k<=l.length->(QJ l k).size<=1300000*k
 | 0,_=>ze 0
 | k+1,hk=>by
  have e:=bP l h k (by omega)
  have a:Jc (l.getD k yR):=by
   rw[zT,P7];exact h _ (qm (by omega))
  have b:=(wL (comma (QJ l k) k) a).2.2.2;have d:=bO (QJ l k) k;rw[QJ];omega
theorem zes(o:BY){s:Z.qi}(h:ZP s):(Vt o s).size<=o.size+3000000:=by
 have q:=Z0 s.eff;have e:=h.eff;have c1:=QH h.who;have c2:=QH h.act;have c3:=QH h.on;have a:(⟨#[123,34,101,102,102,101,99,116,34,58]⟩:BY).size=10:=rfl;have b:(⟨#[44,34,119,104,111,34,58]⟩:BY).size=7:=rfl;have c:(⟨#[44,34,100,111,34,58]⟩:BY).size=6:=rfl;have d:(⟨#[44,34,111,110,34,58]⟩:BY).size=6:=rfl;unfold Vt;rw[zV,zV,zV,zV,zV,zV,zV,zV];omega
theorem zet(o:BY){s:Z.qi}(h:ZP s):(UD (Vt o s) s).size<=o.size+10000000/\(JD o s).size<=o.size+10000001/\(Xh s.cs).size<=6500000:=by
 have b:=zes o h;have c:=bP s.cs h.cs s.cs.length F7;have d:=h.len
 have a:(UD (Vt o s) s).size<=o.size+10000000:=by
  have e:(⟨#[44,34,105,102,34,58,91]⟩:BY).size=7:=rfl;have f:(⟨#[93]⟩:BY).size=1:=rfl;unfold UD Xh;split
  ·rw[zV,zV,zV];omega
  omega
 have z:(⟨#[125]⟩:BY).size=1:=rfl;refine⟨a,?_,by unfold Xh;omega⟩;unfold JD;rw[zV];omega
theorem FZ(l:List Z.qi)(h:∀s ∈ l,ZP s):∀k,k<=l.length->(Qu l k).size<=11000000*k+20
 | 0,_=>by
  have z:(⟨#[123,34,115,116,97,116,101,109,101,110,116,34,58,91]⟩:BY).size=14:=rfl;show ByteArray.size _<=_;rw[Qu,z];omega
 | k+1,hk=>by
  have d:=FZ l h k (by omega)
  have a:ZP (l.getD k Z.vN):=by
   rw[zT,P7];exact h _ (qm (by omega))
  have b:=(zet (comma (Qu l k) k) a).2.1;have c:=bO (Qu l k) k;rw[Qu];omega
end U
end Go.Proofs.YtfjpcldndaiifaaGreatDoor
namespace Go.Proofs.YtfjpcldndaiifaaGreatDoor
open Go.RowKit
theorem Ku{l:List Nat}(h:Z.qZ l=0):∀c ∈ l,c≠1/\c≠2:=by
 unfold Z.qZ at h;split at h
 ·simp at h
 rename_i b;split at h
 ·simp at h
 rename_i d;intro c a;refine⟨λe=>b ?_,λe=>d ?_⟩
 ·rw[Q3];exact⟨c,a,by simp[e]⟩
 rw[Q3];exact⟨c,a,by simp[e]⟩
theorem EX{f:BY->Bool}{x:Option Z.V}(h:Z.qx f x≠1):∃s,x=some (.str s)/\f s=true/\Z.xN f x=s:=by
 match x with
 | none=>exact absurd rfl h
 | some (.word b)=>exact absurd rfl h
 | some (.list vs)=>exact absurd rfl h
 | some (.obj ms)=>exact absurd rfl h
 | some (.str s)=>
  have a:f s=true:=by
   cases e:f s with
   | true=>rfl
   | false=>exact absurd (by simp[Z.qx,e,Z.cls]) h
  exact⟨s,rfl,a,by simp[Z.xN,a]⟩
theorem iD{L:Nat}(x:Option Z.V)(f:∀v,x=some v->Z.Good L v)(h:Z.chC x≠1):(Z.um x).2.isSome=true/\chS x=Z.chD (Z.um x):=by
 have g:=Z.bM x f
 have a:(Z.um x).2.isSome=true:=by
  cases e:(Z.um x).2.isSome with
  | true=>rfl
  | false=>rw[e]at g;exact absurd g h
 refine⟨a,?_⟩;unfold Z.chD;have d:∀y:Option Z.V,(Z.zN y).isSome=true->Z.xy Z.strOf y=(Z.zN y).getD []:=λy i=>Z.DU y i
 match x with
 | none=>exact absurd a (by simp[Z.um,Z.zN])
 | some (.word b)=>exact absurd a (by simp[Z.um,Z.zN])
 | some (.str s)=>rfl
 | some (.list vs)=>exact congrArg (Prod.mk false) (d _ a)
 | some (.obj ms)=>
  simp only[chS,Z.um]at a |-
  by_cases c:Z.qB ms [U.xx]=true/\ms.length=1
  ·rw[zb c]at a |-;rw[zb c.1]
   match ms,c with
   | [m],c=>
    have e:(m.1.toList==U.xx.toList)=true:=by
     have:=c.1
     simp[Z.qB]at this;simp[this]
    have f:Z.zm [m] U.xx=some m.2:=by unfold Z.zm;rw[UO,e];rfl
    rw[f];exact congrArg (Prod.mk true) (d _ a)
  rw[za c]at a;simp at a
def toS(c:U.qz):qj:=⟨c.op,c.key,c.vals,c.no⟩
theorem zaA(op:BY)(x:Option Z.V)(a:U.Zz op=true)(h:Z.yZ op x≠1):Z.uS op x=(Z.zN x).getD []/\(Z.zN x).isSome=true:=by
 have g:=Z.Cr op x a
 have c:(Z.zN x).isSome=true:=by
  cases e:(Z.zN x).isSome with
  | true=>rfl
  | false=>rw[e]at g;exact absurd g h
 refine⟨?_,c⟩
 have d:∀f:BY->Bool,Z.xm (Z.qx f) x≠1->Z.xy (Z.xN f) x=(Z.zN x).getD []:=by
  intro f b;rw[Z.dP]at b;refine Z.zbx f x c ?_
  cases e:((Z.zN x).getD []).all f with
  | true=>rfl
  | false=>rw[e]at b;simp[Z.cls]at b
 unfold Z.yZ at h;unfold Z.uS
 by_cases c1:U.xE op=true
 ·rw[zb c1];exact Z.DU x c
 rw[za c1]at h |-
 by_cases c2:Z.vM op=true
 ·rw[zb c2]at h |-;exact d _ h
 rw[za c2]at h |-
 by_cases c3:Z.vK op=true
 ·rw[zb c3]at h |-;exact d _ h
 rw[za c3]at h |-
 by_cases c4:Z.Xu op=true
 ·rw[zb c4]at h |-;exact d _ h
 exfalso;unfold U.Zz at a;unfold U.xE at c1;unfold Z.vM at c2;unfold Z.vK at c3;unfold Z.Xu at c4;simp only[fM]at a
 rcases a with ((a|a)|a)|a
 ·exact c2 a
 ·exact c4 a
 ·exact c3 a
 exact c1 a
theorem MR(v:Z.V)(h:Z.condC v≠1/\Z.condC v≠2):Zw v=toS (Z.xQ v):=by
 match v with
 | .str s=>exact absurd rfl h.1
 | .word b=>exact absurd rfl h.1
 | .list l=>exact absurd rfl h.1
 | .obj a=>
  rw[iQ]at h;simp only[Zw,Z.xQ]
  cases ho:Z.qB a [U.bOp,U.zL,U.zK,U.bNo] with
  | false=>rw[ho]at h;exact absurd rfl h.1
  | true=>
   rw[ho]at h;simp only[qJ]at h |-
   cases hop:Yg (Z.zm a U.bOp) with
   | none=>rw[hop]at h;exact absurd rfl h.1
   | some k=>
    rw[hop]at h;simp only at h |-
    have g:Z.qZ [Z.qx U.ql (Z.zm a U.zL),Z.yZ (opN k) (Z.zm a U.zK),Z.cls (Z.kJ (Z.zm a U.bNo)) false]=0:=by
     have:=Z.V9 [Z.qx U.ql (Z.zm a U.zL),Z.yZ (opN k) (Z.zm a U.zK),Z.cls (Z.kJ (Z.zm a U.bNo)) false]
     omega
    have g:=Ku g;obtain⟨key,e,o,m⟩:=EX (g (Z.qx U.ql (Z.zm a U.zL)) (by simp)).1;have n:=(g (Z.yZ (opN k) (Z.zm a U.zK)) (by simp)).1
    obtain⟨s,j,d⟩:∃s,Z.zm a U.bOp=some (.str s)/\ug s=some k:=by
     match hgm:Z.zm a U.bOp with
     | none=>rw[hgm]at hop;cases hop
     | some (.word b)=>rw[hgm]at hop;cases hop
     | some (.list vs)=>rw[hgm]at hop;cases hop
     | some (.obj a)=>rw[hgm]at hop;cases hop
     | some (.str s)=>rw[hgm]at hop;exact⟨s,rfl,hop⟩
    obtain⟨_,c,f⟩:=mY d;rw[m,c];rw[c]at n;simp only[Z.Jj,j,e,Z.opV,toS]
    by_cases ca:U.xR s=true
    ·obtain⟨w,p,q,r,t⟩:=Z.rP s ca;rw[zb ca];simp only[Z.uS,p,q,r,t,yu,xX]
    have u:U.Zz s=true:=by
     have i:U.xR s=false:=by simpa using ca
     rw[i,ZI]at f;exact f
    rw[za ca,(zaA s _ u n).1]
theorem Ni(x:Option Z.V)(h:Z.uM x≠1/\Z.uM x≠2):Jm x=(Z.x8 x).cs.map toS:=by
 match x with
 | none=>rfl
 | some (.str s)=>exact absurd rfl h.1
 | some (.word b)=>exact absurd rfl h.1
 | some (.obj ms)=>exact absurd rfl h.1
 | some (.list vs)=>
  simp only[Jm,Z.x8,Z.uM]at h |-
  by_cases c:5<vs.length
  ·rw[zb c]at h;exact absurd rfl h.1
  rw[za c]at h |-;rw[za c]
  have a:Z.qZ (vs.map Z.condC)=0:=by
   have:=Z.V9 (vs.map Z.condC)
   omega
  have a:=Ku a;simp only[kY];exact JR λv d=>MR v (a _ (xI.2 ⟨v,d,rfl⟩))
def vQ(r:Z.qi):zS:=⟨r.eff,r.who,r.act,r.on,r.cs.map toS⟩
theorem zey{L:Nat}(v:Z.V)(c:Z.Good L v)(h:Z.jd v≠1/\Z.jd v≠2):vP v=vQ (Z.yD v):=by
 match v,c with
 | .str s,_=>exact absurd rfl h.1
 | .word b,_=>exact absurd rfl h.1
 | .list l,_=>exact absurd rfl h.1
 | .obj ms,c=>
  simp only[Z.jd]at h;simp only[vP,Z.yD,Z.JC]
  cases ho:Z.qB ms [Z.zM,Z.zY,Z.bDo,Z.bOn,Z.bIf] with
  | false=>rw[ho]at h;exact absurd rfl h.1
  | true=>
   rw[ho]at h;simp only[qJ]at h |-
   have a:Z.qZ [Z.qx Z.yI (Z.zm ms Z.zM),Z.chC (Z.zm ms Z.zY),Z.chC (Z.zm ms Z.bDo),Z.chC (Z.zm ms Z.bOn),Z.uM (Z.zm ms Z.bIf)]=0:=by
    have:=Z.V9 [Z.qx Z.yI (Z.zm ms Z.zM),Z.chC (Z.zm ms Z.zY),Z.chC (Z.zm ms Z.bDo),Z.chC (Z.zm ms Z.bOn),Z.uM (Z.zm ms Z.bIf)]
    omega
   have a:=Ku a;obtain⟨eff,e,f,d⟩:=EX (a (Z.qx Z.yI (Z.zm ms Z.zM)) (by simp)).1;rw[d];have c1:=(iD _ (Z.jr c Z.zY) (a (Z.chC (Z.zm ms Z.zY)) (by simp)).1).2;have c2:=(iD _ (Z.jr c Z.bDo) (a (Z.chC (Z.zm ms Z.bDo)) (by simp)).1).2;have c3:=(iD _ (Z.jr c Z.bOn) (a (Z.chC (Z.zm ms Z.bOn)) (by simp)).1).2;have c4:=Ni _ (a (Z.uM (Z.zm ms Z.bIf)) (by simp));rw[c1,c2,c3,c4];simp only[e,Z.opV,vQ,Z.YO]
def vY(xs:List BY):BY:=⟨(Lib.join (xs.map (·.data.toList)) [44]).toArray⟩
theorem ik{a b:BY}(h:a.data.toList=b.data.toList):a=b:=XJ (Y3.1 h)
theorem bG(a b:BY):(a++b).data.toList=a.data.toList++b.data.toList:=by simp[ByteArray.data_append]
theorem X0(a b c:BY):a++b++c=a++(b++c):=by apply ik;simp only[bG,fZ]
theorem TQ(xs:List (List UInt8))(y s:List UInt8):Lib.join (xs++[y]) s=if xs=[] then y else Lib.join xs s++s++y:=by
 cases xs with
 | nil=>simp[Lib.join_one]
 | cons x r=>
  rw[za (by simp),gm,Lib.join_cons,Lib.join_cons];simp[Lib.joinTail,List.append_assoc]
theorem mf(xs:List BY)(y:BY):vY (xs++[y])=U.comma (vY xs) xs.length++y:=by
 apply ik;rw[bG];unfold vY U.comma;simp only[uz,yO,Zr,TQ]
 cases xs with
 | nil=>simp[Lib.join_nil]
 | cons x r=>
  rw[za (by simp),zb (by simp)];rw[bG]
theorem wI(a b:BY)(k:Nat):U.comma (a++b) k=a++U.comma b k:=by
 unfold U.comma;split
 ·rw[X0]
 rfl
theorem written(a:Nat->BY)(o:BY)(b:Nat->BY)(c:a 0=o)(d:∀k,a (k+1)=U.comma (a k) k++b k):∀n,a n=o++vY ((List.range n).map b)
 | 0=>by rw[c];apply ik;rw[bG];simp[vY,Lib.join_nil]
 | n+1=>by
  rw[d n,written a o b c d n,VJ,uz,yO,Zr,mf,wI,X0]
  simp
theorem nQ{α β:Type}(f:α->β)(d:α):∀(l:List α),(List.range l.length).map (λk=>f (l.getD k d))=l.map f:=by
 intro l;apply gp
 ·simp
 intro i b a;simp only[qf]at a;simp[List.getD_eq_getElem?_getD,List.getElem?_eq_getElem a]
def uq(l:List BY):BY:=⟨#[91]⟩++vY l++⟨#[93]⟩
theorem KG(l:List BY):U.listedB l=uq (l.map U.qh):=by
 unfold U.listedB uq;rw[written (U.listedTo l) ⟨#[91]⟩ (λk=>U.qh (l.getD k ⟨#[]⟩)) rfl (λk=>by rw[U.listedTo];rfl) l.length,nQ]
def Xf(c:Bool×List BY):BY:=if c.1 then ⟨#[123,34,110,111,116,34,58]⟩++uq (c.2.map U.qh)++⟨#[125]⟩ else uq (c.2.map U.qh)
theorem bN(c:Bool×List BY):U.Zv c=Xf c:=by unfold U.Zv Xf;rw[KG]
def uL(c:qj):BY:=
 (if c.no then (if 0<c.vals.length then ⟨#[123,34,111,112,34,58]⟩++U.qh c.op++⟨#[44,34,107,101,121,34,58]⟩++U.qh c.key++(⟨#[44,34,118,97,108,117,101,34,58]⟩++uq (c.vals.map U.qh)) else ⟨#[123,34,111,112,34,58]⟩++U.qh c.op++⟨#[44,34,107,101,121,34,58]⟩++U.qh c.key)++⟨#[44,34,110,111,34,58,116,114,117,101]⟩
  else (if 0<c.vals.length then ⟨#[123,34,111,112,34,58]⟩++U.qh c.op++⟨#[44,34,107,101,121,34,58]⟩++U.qh c.key++(⟨#[44,34,118,97,108,117,101,34,58]⟩++uq (c.vals.map U.qh)) else ⟨#[123,34,111,112,34,58]⟩++U.qh c.op++⟨#[44,34,107,101,121,34,58]⟩++U.qh c.key))++⟨#[125]⟩
theorem MO(o:BY)(c:U.qz)(h:U.xR c.op=decide (c.vals.length=0)):U.Jk o c=o++uL (toS c):=by
 unfold U.Jk U.VZ U.Jl U.Xg uL toS;rw[h];simp only
 by_cases hv:c.vals.length=0
 ·have b:¬0<c.vals.length:=by omega
  simp only[hv,decide_true,qJ,za (Nat.lt_irrefl 0)]
  cases c.no
  ·simp only[yu,xX,X0]
  simp only[qJ,X0]
 have a:0<c.vals.length:=by omega
 simp only[hv,a,decide_false,yu,xX,qJ,KG]
 cases c.no
 ·simp only[yu,xX,X0]
 simp only[qJ,X0]
def J8(l:List qj):BY:=uq (l.map uL)
theorem Nl(l:List U.qz)(h:∀c ∈ l,U.xR c.op=decide (c.vals.length=0)):U.Xh l=vY ((l.map toS).map uL):=by
 unfold U.Xh
 have a:∀n,n<=l.length->U.QJ l n=vY ((List.range n).map λk=>uL (toS (l.getD k U.yR))):=by
  intro n
  induction n with
  | zero=>intro _;rfl
  | succ n d=>
   intro e
   have b:U.xR (l.getD n U.yR).op=decide ((l.getD n U.yR).vals.length=0):=by
    rw[zT,P7];exact h _ (qm (by omega))
   rw[U.QJ,MO _ _ b,d (by omega),VJ,uz,yO,Zr,mf]
   simp
 rw[a _ F7,nQ (λc=>uL (toS c)),kY]
 rfl
def uh(s:zS):BY:=
 (if 0<s.ifs.length then ⟨#[123,34,101,102,102,101,99,116,34,58]⟩++U.qh s.eff++(⟨#[44,34,119,104,111,34,58]⟩++Xf s.who)++(⟨#[44,34,100,111,34,58]⟩++Xf s.act)++(⟨#[44,34,111,110,34,58]⟩++Xf s.on)++(⟨#[44,34,105,102,34,58]⟩++J8 s.ifs)
  else ⟨#[123,34,101,102,102,101,99,116,34,58]⟩++U.qh s.eff++(⟨#[44,34,119,104,111,34,58]⟩++Xf s.who)++(⟨#[44,34,100,111,34,58]⟩++Xf s.act)++(⟨#[44,34,111,110,34,58]⟩++Xf s.on))++⟨#[125]⟩
def UM(s:Z.qi):Prop:=∀c ∈ s.cs,U.xR c.op=decide (c.vals.length=0)
theorem zeu(o:BY)(s:Z.qi)(h:UM s):U.JD o s=o++uh (vQ s):=by
 unfold U.JD U.UD U.Vt uh vQ;simp only[qf]
 by_cases hc:0<s.cs.length
 ·simp only[hc,qJ,bN,Nl s.cs h,J8,uq];have e:(⟨#[44,34,105,102,34,58,91]⟩:BY)=⟨#[44,34,105,102,34,58]⟩++⟨#[91]⟩:=rfl;rw[e];simp only[X0]
 simp only[hc,xX,bN,X0]
def Xj(l:List zS):BY:=⟨#[123,34,115,116,97,116,101,109,101,110,116,34,58]⟩++uq (l.map uh)++⟨#[125]⟩
theorem Ey(l:List Z.qi)(h:∀s ∈ l,UM s):U.QU l=Xj (l.map vQ):=by
 unfold U.QU Xj uq
 have b:∀n,n<=l.length->U.Qu l n=⟨#[123,34,115,116,97,116,101,109,101,110,116,34,58,91]⟩++vY ((List.range n).map λk=>uh (vQ (l.getD k Z.vN))):=by
  intro n
  induction n with
  | zero=>intro _;rfl
  | succ n d=>
   intro f
   have c:UM (l.getD n Z.vN):=by
    rw[zT,P7];exact h _ (qm (by omega))
   rw[U.Qu,zeu _ _ c,d (by omega),VJ,uz,yO,Zr,mf,wI,X0]
   simp
 rw[b _ F7,nQ (λs=>uh (vQ s)),kY];have e:(⟨#[123,34,115,116,97,116,101,109,101,110,116,34,58,91]⟩:BY)=⟨#[123,34,115,116,97,116,101,109,101,110,116,34,58]⟩++⟨#[91]⟩:=rfl;have a:(⟨#[93,125]⟩:BY)=⟨#[93]⟩++⟨#[125]⟩:=rfl;rw[e,a];simp only[X0]
 rfl
def Uc(k:Nat):UInt8:=(#[48,49,50,51,52,53,54,55,56,57,97,98,99,100,101,102]:Array UInt8).getD k 0
def Kl(b:UInt8):BY:=
 if b.toNat=34\/b.toNat=92 then ⟨#[92,b]⟩ else if b.toNat=10 then ⟨#[92,110]⟩ else if b.toNat=9 then ⟨#[92,116]⟩
 else if b.toNat<32 then ⟨#[92,117,48,48,Uc (b.toNat / 16),Uc (b.toNat % 16)]⟩ else ⟨#[b]⟩
theorem J6{w:J}{B:Nat}{b:Y}{t u:BY}{n:Nat}{a:List Y}(c:u.size=n)(d:Z.jm u=a)(h:w.ownsRow B 5 1 b (t.size+n) (Z.jm t++a)):vS w B b (t++u):=by
 unfold vS;rw[Z.bJ,d,show (t++u).size=t.size+n by simp[c]];exact h
theorem uQ(w:J)(cs:Array Y)(t:TypeId):∀(j:Nat) (u:Y),cs.toList[j]?=some u->(w.alloc (.cells cs t)).cell? (((G8 w.heap.size 0):Addr).add j)=some u:=by
 intro j u a;have h:=(zg (zA w (.cells cs t)) j).1;rw[addr_add];simp only[qV];rw[h]
 simpa using a
theorem zax(w:J)(cs:Array Y)(t:TypeId):∀(j:Nat) (u:Y),cs.toList[j]?=some u->(w.alloc (.cells cs t)).drew.cell? (((G8 w.heap.size 0):Addr).add j)=some u:=uQ w cs t
theorem IB(t:BY)(v:Y)(B:Nat)(b:UInt8)(w:J)(h:vS w B v t)(P:B<=w.heap.size)(ht:t.size<=1000000):R8 177 #[v,.int .u8 (b.toNat:Int)] w λe A=>∃o,e=.returned o/\vS A B o (t++Kl b)/\Below B w A:=by
 obtain⟨a,c,rfl⟩:=xe h;obtain⟨r,q,l,m,n⟩:=qU bL;have p:=G7 h;have z:∀k,(Value.slice a t.size c).ownBlock=some k->B<=k:=λk G=>(World.ownsRow.lt h k G).1;have j:=G7 z;obtain⟨s,g⟩:=Nm (Kl b);rw[g];unfold Kl at g;have F:b.toNat<256:=bu b;clear h z;have fin:∀(w1:J) (O:Obj),Below B w (w.alloc O):=λ_ O=>(zf _ w).alloc P O
 by_cases c1:b.toNat=34\/b.toNat=92
 ·rw[zb c1]at g;subst g
  rcases c1 with c1|c1
  ·have D:((b.toNat:Int)==34)=true:=by simp;omega
   clear c1;go_enter func177,ntmps177;go_wp2_with (at_builtin;refine yh _ rfl _ _ 210 rfl B 5 r (.int .u8 0) 1 1 underlying210 q l m n rfl (by decide) _ t.size (Z.jm t) rfl (World.ownsRow.alloc p.o _) (G8 w.heap.size 0) 2 2 [.int .u8 92,.int .u8 (b.toNat:Int)] rfl rfl ?_ ?_ ?_ ?_ ?_ ?_)
   ·exact uQ _ _ _
   ·intro u i;simp at i;rcases i with rfl|rfl<;>rfl
   ·unfold maxLen;omega
   ·omega
   ·simp;omega
   intro o C f d _;go_wp2;go_ret;exact⟨_,rfl,J6 (u:=⟨#[92,b]⟩) rfl rfl f,(fin w _).grown d (by simp;omega) j.o⟩
  have e0:((b.toNat:Int)==34)=false:=by simp;omega
  have D:((b.toNat:Int)==92)=true:=by simp;omega
  clear c1;go_enter func177,ntmps177;go_wp2_with (at_builtin;refine yh _ rfl _ _ 210 rfl B 5 r (.int .u8 0) 1 1 underlying210 q l m n rfl (by decide) _ t.size (Z.jm t) rfl (World.ownsRow.alloc p.o _) (G8 w.heap.size 0) 2 2 [.int .u8 92,.int .u8 (b.toNat:Int)] rfl rfl ?_ ?_ ?_ ?_ ?_ ?_)
  ·exact uQ _ _ _
  ·intro u i;simp at i;rcases i with rfl|rfl<;>rfl
  ·unfold maxLen;omega
  ·omega
  ·simp;omega
  intro o C f d _;go_wp2;go_ret;exact⟨_,rfl,J6 (u:=⟨#[92,b]⟩) rfl rfl f,(fin w _).grown d (by simp;omega) j.o⟩
 rw[za c1]at g;have D:((b.toNat:Int)==34)=false:=by simp;omega
 have M:((b.toNat:Int)==92)=false:=by simp;omega
 by_cases c2:b.toNat=10
 ·rw[zb c2]at g;subst g;have I:((b.toNat:Int)==10)=true:=by simp;omega
  clear c1 c2;go_enter func177,ntmps177;go_wp2_with (at_builtin;refine yh _ rfl _ _ 210 rfl B 5 r (.int .u8 0) 1 1 underlying210 q l m n rfl (by decide) _ t.size (Z.jm t) rfl (World.ownsRow.alloc p.o _) (G8 w.heap.size 0) 2 2 [.int .u8 92,.int .u8 110] rfl rfl ?_ ?_ ?_ ?_ ?_ ?_)
  ·exact uQ _ _ _
  ·intro u i;simp at i;rcases i with rfl|rfl<;>rfl
  ·unfold maxLen;omega
  ·omega
  ·simp;omega
  intro o C f d _;go_wp2;go_ret;exact⟨_,rfl,J6 (u:=⟨#[92,110]⟩) rfl rfl f,(fin w _).grown d (by simp;omega) j.o⟩
 rw[za c2]at g;have I:((b.toNat:Int)==10)=false:=by simp;omega
 by_cases c3:b.toNat=9
 ·rw[zb c3]at g;subst g;have K:((b.toNat:Int)==9)=true:=by simp;omega
  clear c1 c2 c3;go_enter func177,ntmps177;go_wp2_with (at_builtin;refine yh _ rfl _ _ 210 rfl B 5 r (.int .u8 0) 1 1 underlying210 q l m n rfl (by decide) _ t.size (Z.jm t) rfl (World.ownsRow.alloc p.o _) (G8 w.heap.size 0) 2 2 [.int .u8 92,.int .u8 116] rfl rfl ?_ ?_ ?_ ?_ ?_ ?_)
  ·exact uQ _ _ _
  ·intro u i;simp at i;rcases i with rfl|rfl<;>rfl
  ·unfold maxLen;omega
  ·omega
  ·simp;omega
  intro o C f d _;go_wp2;go_ret;exact⟨_,rfl,J6 (u:=⟨#[92,116]⟩) rfl rfl f,(fin w _).grown d (by simp;omega) j.o⟩
 rw[za c3]at g;have K:((b.toNat:Int)==9)=false:=by simp;omega
 by_cases c4:b.toNat<32
 ·rw[zb c4]at g;subst g
  have x:∀k:Nat,k<32->k≠9->k≠10->b.toNat=k->R8 177 #[Value.slice a t.size c,.int .u8 (b.toNat:Int)] w λe A=>∃o,e=.returned o/\vS A B o (t++⟨#[92,117,48,48,Uc (b.toNat / 16),Uc (b.toNat % 16)]⟩)/\Below B w A:=by
   intro k G N E y;rw[y];clear D M I K c1 c2 c3 c4 y;have H:k=0\/k=1\/k=2\/k=3\/k=4\/k=5\/k=6\/k=7\/k=8\/k=11\/k=12\/k=13\/k=14\/k=15\/k=16\/k=17\/k=18\/k=19\/k=20\/k=21\/k=22\/k=23\/k=24\/k=25\/k=26\/k=27\/k=28\/k=29\/k=30\/k=31:=by omega
   clear G N E;have q0:bits BinOp.and IntKind.u8 0 15=0:=by decide +kernel
   have q1:bits BinOp.and IntKind.u8 1 15=1:=by decide +kernel
   have q2:bits BinOp.and IntKind.u8 2 15=2:=by decide +kernel
   have q3:bits BinOp.and IntKind.u8 3 15=3:=by decide +kernel
   have q4:bits BinOp.and IntKind.u8 4 15=4:=by decide +kernel
   have q5:bits BinOp.and IntKind.u8 5 15=5:=by decide +kernel
   have q6:bits BinOp.and IntKind.u8 6 15=6:=by decide +kernel
   have q7:bits BinOp.and IntKind.u8 7 15=7:=by decide +kernel
   have q8:bits BinOp.and IntKind.u8 8 15=8:=by decide +kernel
   have S:bits BinOp.and IntKind.u8 11 15=11:=by decide +kernel
   have T:bits BinOp.and IntKind.u8 12 15=12:=by decide +kernel
   have V:bits BinOp.and IntKind.u8 13 15=13:=by decide +kernel
   have W:bits BinOp.and IntKind.u8 14 15=14:=by decide +kernel
   have X:bits BinOp.and IntKind.u8 15 15=15:=by decide +kernel
   have a0:bits BinOp.and IntKind.u8 16 15=0:=by decide +kernel
   have a1:bits BinOp.and IntKind.u8 17 15=1:=by decide +kernel
   have a2:bits BinOp.and IntKind.u8 18 15=2:=by decide +kernel
   have a3:bits BinOp.and IntKind.u8 19 15=3:=by decide +kernel
   have a4:bits BinOp.and IntKind.u8 20 15=4:=by decide +kernel
   have a5:bits BinOp.and IntKind.u8 21 15=5:=by decide +kernel
   have a6:bits BinOp.and IntKind.u8 22 15=6:=by decide +kernel
   have a7:bits BinOp.and IntKind.u8 23 15=7:=by decide +kernel
   have a8:bits BinOp.and IntKind.u8 24 15=8:=by decide +kernel
   have a9:bits BinOp.and IntKind.u8 25 15=9:=by decide +kernel
   have b0:bits BinOp.and IntKind.u8 26 15=10:=by decide +kernel
   have b1:bits BinOp.and IntKind.u8 27 15=11:=by decide +kernel
   have b2:bits BinOp.and IntKind.u8 28 15=12:=by decide +kernel
   have b3:bits BinOp.and IntKind.u8 29 15=13:=by decide +kernel
   have b4:bits BinOp.and IntKind.u8 30 15=14:=by decide +kernel
   have b5:bits BinOp.and IntKind.u8 31 15=15:=by decide +kernel
   rcases H with rfl|rfl|rfl|rfl|rfl|rfl|rfl|rfl|rfl|rfl|rfl|rfl|rfl|rfl|rfl|rfl|rfl|rfl|rfl|rfl|rfl|rfl|rfl|rfl|rfl|rfl|rfl|rfl|rfl|rfl
   all_goals
    go_enter func177,ntmps177;go_wp2_with fail;go_region_law ((refine eY _ (by rfl) _ _ _ (by rfl) B 5 r (.int .u8 0) 1 1 underlying210 q l m n rfl (by omega) (TL a t.size c) t.size (Z.jm t) (by rfl) (World.ownsRow.drew (World.ownsRow.alloc p.o _)) (G8 w.heap.size 0) 6 6 _ (by rfl) ?_ (zax _ _ _) (by simp[Value.oneCell']) (by omega) (by unfold maxLen;omega) (by omega) (by simp;omega) (w.heap.size+1) (by simp) ?_;rfl;intro gg L C f d Q R))
    all_goals
     go_wp2_with fail;go_ret;exact⟨_,rfl,J6 (u:=⟨#[92,117,48,48,_,_]⟩) rfl rfl f,((fin w _).drew).grown d (by simp;omega) j.o⟩
  exact x b.toNat c4 c3 c2 rfl
 rw[za c4]at g;subst g;have e5:decide ((b.toNat:Int)<32)=false:=by simp;omega
 go_enter func177,ntmps177;go_wp2_with (at_builtin;refine yh _ rfl _ _ 210 rfl B 5 r (.int .u8 0) 1 1 underlying210 q l m n rfl (by decide) _ t.size (Z.jm t) rfl (World.ownsRow.alloc p.o _) (G8 w.heap.size 0) 1 1 [.int .u8 (b.toNat:Int)] rfl rfl ?_ ?_ ?_ ?_ ?_ ?_)
 ·exact uQ _ _ _
 ·intro u i;simp at i;rcases i with rfl;rfl
 ·unfold maxLen;omega
 ·omega
 ·simp;omega
 intro o C f d _;go_wp2;go_ret;exact⟨_,rfl,J6 (u:=⟨#[b]⟩) rfl rfl f,(fin w _).grown d (by simp;omega) j.o⟩
theorem AU(t:BY)(k:Nat)(h:k<t.size):t.extract k (k+1)=⟨#[t[k]]⟩:=by
 apply XJ;apply Y3.1;have a:k<t.data.toList.length:=by rw[U.zF];exact h
 simp only[Vz,ay,gq];rw[show k+1-k=1 by omega,jD a]
 rfl
theorem Bz(k:Nat)(h:k<16):U.hexDigits.extract k (k+1)=⟨#[Uc k]⟩:=by
 rw[AU _ _ h]
 have:∀k:Fin 16,(U.hexDigits[k.val]'k.isLt)=Uc k.val:=by decide +kernel
 rw[this ⟨k,h⟩]
theorem zcy(s:BY)(k:Nat)(h:k<s.size):U.uU s (k+1)=U.uU s k++Kl s[k]:=by
 rw[U.EK s k h];generalize U.uU s k=o;have g:=AU s k h;unfold U.Jq Kl;rw[g];generalize s[k]=b;have d:∀a b c:BY,a++b++c=a++(b++c):=λa b c=>by apply XJ;simp[ByteArray.data_append]
 by_cases c1:b.toNat=34\/b.toNat=92
 ·rw[N9,zb c1,d];rfl
 rw[N8,za c1]
 by_cases c2:b.toNat=10
 ·rw[N9,zb c2]
 rw[N8,za c2]
 by_cases c3:b.toNat=9
 ·rw[N9,zb c3]
 rw[N8,za c3]
 by_cases c4:b.toNat<32
 ·rw[N9,zb c4];have e:((b.toNat:Int) / 16).toNat=b.toNat / 16:=by omega
  have f:((b.toNat:Int) % 16).toNat=b.toNat % 16:=by omega
  rw[e,f,Bz _ (by omega),Bz _ (by omega),d,d]
  rfl
 rw[N8,za c4]
theorem nO(s:BY)(w:J)(N:s.size<=100000):R8 127 #[S9 s] w (G5 (.string (U.qh s)) w):=by
 obtain⟨I,G,o,p,q⟩:=qU bL;have v:vS (w.alloc (L8 #[.int .u8 34] 5)) w.heap.size (TL (some (G8 w.heap.size 0)) 1 1) (U.uU s 0):=bB (base:=w.heap.size) (e:=5) (size:=1) w #[.int .u8 34] 1 F7 (by decide) rfl;have t:=G7 v;clear v;go_enter func127,ntmps127;go_wp2_with fail
 go_loopw [3,4,8] (λK O r wr=>∃(k:Nat),k<=s.size/\r=R9 k/\vS wr w.heap.size K (U.uU s k)/\BQ w wr) (λ_ _ r _=>s.size-(intOf r).toNat)
 case atStart=>exact⟨0,zD _,rfl,t.o,nbl _ _⟩
 case round=>
  obtain⟨k,y,rfl,x,f⟩:=hrel;have⟨j,a⟩:=D5 x f;clear x f t
  by_cases hlt:k<s.size
  ·have z:=U.KW s k;have m:=IB (U.uU s k) _ w.heap.size s[k] wr j.o a.o.size (by omega);rw[<- zcy s k hlt]at m;have D:=G7 m;clear m z;go_wp2_with(go_at_call 177;apply D.o.mono;rintro e P⟨B,rfl,i,b⟩;have⟨l,g⟩:=D5 i b;clear i b);go_roundw
   case rel=>exact⟨k+1,by omega,by go_num,l.o,a.o.trans g.o⟩
   case measure=>simp[intOf];omega
  have n:k=s.size:=by omega
  subst n;have z:=U.KW s s.size;have H:=a.o.size;go_wp2_with (at_builtin;refine yh _ rfl _ _ 210 rfl w.heap.size 5 I (.int .u8 0) 1 1 underlying210 G o p q rfl (by decide) _ (U.uU s s.size).size (Z.jm (U.uU s s.size)) rfl (World.ownsRow.alloc j.o _) (G8 wr.heap.size 0) 1 1 [.int .u8 34] rfl rfl ?_ ?_ ?_ ?_ ?_ ?_)
  ·exact uQ _ _ _
  ·intro u A;simp at A;rcases A with rfl;rfl
  ·unfold maxLen;omega
  ·omega
  ·simp;omega
  intro B C d c _;have h:vS C w.heap.size B (U.qh s):=J6 (u:=⟨#[34]⟩) rfl rfl d;have F:=tq h;have E:G6 (BQ w C):=(a.o.alloc H _).grown c (by simp;omega) (λk y=>(World.ownsRow.lt j.o k y).1);obtain⟨M,c3,rfl⟩:=xe h;clear h d c;go_wp2;go_ret;exact⟨rfl,E.o⟩
def JU(w:J)(a:List BY)(e:Ending)(w':J):Prop:=∃b,e=.returned b/\zJ w' w.heap.size b a/\BQ w w'
theorem UE:(prog.info? 9).map (λi=>(i.zero,i.size,i.bytes))=some (some R5,1,16):=by kernel_rfl
theorem K8{w:J}{B:Nat}{a:Y}{l:List BY}{s:BY}(h:w.ownsRow B 9 1 a (l.length+1) (l.map Value.string++[S9 s])):zJ w B a (l++[s]):=by
 unfold zJ;rw[uz,qE];exact h
theorem zaF(b:List BY)(lv:Y)(base g:Nat)(out:BY->BY)(w:J)(h:zJ w base lv b)(hn:b.length<=1000)(eg:∀m w,(callFunc g m).run prog w=.ok (.enter g m) w)
  (X:∀W s,s ∈ b->BQ w W->R8 g #[S9 s] W (G5 (.string (out s)) W)):R8 209 #[lv,.func (.func g) #[] #[]] w (JU w (b.map out)):=by
 obtain⟨i0,V,F,G,H⟩:=qU UE;obtain⟨a,c,rfl⟩:=xe h;obtain⟨n,l⟩:=Nm b.length
 have f:∀(k:Nat) (x:BY),b[k]?=some x->∃y,a=some (G8 y 0)/\w.cell? (G8 y k)=some (S9 x):=by
  intro k x hx;have D:k<b.length:=(zU.1 hx).1
  rcases h.2 with⟨e,h0⟩|⟨y,cap,cur,e,_⟩
  ·omega
  have hc:=World.ownsRow.cellAt (g:=y) (cap:=cap) (by rw[<- e];exact h) k (by omega);injection e with e1 e2 e3
  exact⟨y,e1,by rw[hc];simp[List.getElem?_map,hx]⟩
 rw[l];rw[l]at hn;have⟨HC,HP,R⟩:=M4 f X l;clear f X l h;go_enter func209,ntmps209;go_wp2_with (at_make;refine fG _ rfl _ _ 57 rfl w.heap.size 9 i0 R5 1 underlying57 V F G _ _ _ n rfl rfl rfl ?_ ?_ ?_ ?_)
 ·rw[H];omega
 ·unfold maxLen;omega
 ·omega
 intro w1 o d;have C:=G7 o;have A:G6 (BQ w w1):=(zf _ w).grown d F7 (λk D=>by cases D);clear o d;go_wp2_with fail
 go_loopw [5,7,13] (λov _ Q wr=>∃(k:Nat),k<=n/\Q=R9 k/\zJ wr w.heap.size ov ((b.take k).map out)/\BQ w wr) (λ_ _ Q _=>n-(intOf Q).toNat)
 case atStart=>exact⟨0,zD _,rfl,C.o,A.o⟩
 case round=>
  obtain⟨k,D,rfl,z,T⟩:=hrel;have⟨I,v⟩:=D5 z T;clear z T C A
  by_cases hlt:k<n
  ·have r:k<b.length:=by rw[R.o];exact hlt
   obtain⟨y,rfl,q⟩:=HC.o k _ (zn r);have q2:=zi v.o q;have O:=HP.o wr b[k] (qm r) v.o;have t:G6 ((b.take (k+1)).map out=(b.take k).map out++[out b[k]]):=G7 (by rw[Qg,zn r,uz];rfl);have E:((b.take k).map out).length=k:=by rw[qf,jg];omega
   obtain⟨s,hs⟩:=Nm (b[k]);rw[hs]at q2 O t;have CC:=G7 O;obtain⟨L,S⟩:=Nm ((b.take k).map out);rw[S]at I t E;clear q O hs S
   go_wp2_with(first
    |(go_at_fn g;apply CC.o.mono;rintro e w2⟨rfl,p⟩;have B:=G7 p;have a3:=p.size;have b2:=v.o.size;clear p)
    | (at_builtin;refine yh _ rfl _ _ 57 rfl w.heap.size 9 i0 R5 1 16 underlying57 V F G H rfl (by decide) _ L.length (L.map Value.string) rfl (World.ownsRow.alloc (ownsRow_below I.o B.o) _) (G8 w2.heap.size 0) 1 1 [S9 (out s)] rfl rfl ?_ ?_ ?_ ?_ ?_ ?_))
   ·exact uQ _ _ _
   ·intro u hu;simp at hu;rcases hu with rfl;rfl
   ·unfold maxLen;omega
   ·omega
   ·simp;omega
   intro v' w3 j i _;have N:G6 (zJ w3 w.heap.size v' ((b.take (k+1)).map out)):=by rw[t.o];exact K8 (by rw[E];exact j)
   have K:G6 (BQ w w3):=((v.o.trans (B.o.mono v.o.size)).alloc (by omega) _).grown i (by simp;omega) (λk D=>(World.ownsRow.lt I.o k D).1);clear j i;go_wp2;go_roundw
   case rel=>exact⟨k+1,by omega,by go_num,N.o,K.o⟩
   case measure=>simp[intOf];omega
  have P:k=n:=by omega
  subst P;have z:=I.o;rw[uA (by rw[R.o];omega)]at z;have M:=G7 z;clear z;go_wp2;go_ret;exact⟨_,rfl,M.o,v.o⟩
theorem zaD(b:List qj)(lv:Y)(base g:Nat)(out:qj->BY)(w:J)(h:xB w base lv b)(hn:b.length<=1000)(eg:∀t w,(callFunc g t).run prog w=.ok (.enter g t) w)
  (hp:∀W x v,x ∈ b->BQ w W->zJ W base v x.vals->R8 g #[.agg #[S9 x.op,S9 x.key,v,.bool x.no]] W (G5 (.string (out x)) W)):R8 179 #[lv,.func (.func g) #[] #[]] w (JU w (b.map out)):=by
 obtain⟨i0,V,N,O,P⟩:=qU UE;obtain⟨xs,K,hc⟩:=h
 obtain⟨a,c,rfl⟩:∃a c,lv=TL a b.length c:=by
  rcases K.2 with⟨rfl,G⟩|⟨d,c,cur,rfl,_⟩
  ·exact⟨_,_,by rw[G]⟩
  exact⟨_,_,rfl⟩
 obtain⟨n,r⟩:=Nm b.length
 have j:∀(k:Nat) (x:qj),b[k]?=some x->∃d v,a=some (G8 d 0)/\(w.cell? (G8 d (k*4))=some (S9 x.op)/\w.cell? (G8 d (k*4+1))=some (S9 x.key)/\w.cell? (G8 d (k*4+2))=some v/\w.cell? (G8 d (k*4+3))=some (.bool x.no))/\zJ w base v x.vals:=by
  intro k x M;have C:k<b.length:=(zU.1 M).1;have hl:xs.length=b.length*4:=K.1
  rcases K.2 with⟨e,G⟩|⟨d,cap,cur,e,_⟩
  ·omega
  have q:∀i,i<b.length*4->w.cell? (G8 d i)=xs[i]?:=λi V=>World.ownsRow.cellAt (g:=d) (cap:=cap) (by rw[<- e];exact K) i (by omega);injection e with e1 e2 e3
  obtain⟨v,G,h1,h2,h3,h4⟩:=hc k C;have a0:b[k]=x:=(zU.1 M).2;rw[a0]at G h1 h3 h4;exact⟨d,v,e1,⟨(q _ (by omega)).trans G,(q _ (by omega)).trans h1,(q _ (by omega)).trans h2,(q _ (by omega)).trans h3⟩,h4⟩
 rw[r];rw[r]at hn;have⟨HC,HP,HN⟩:=M4 j hp r;clear j hp r K hc;go_enter func179,ntmps179;go_wp2_with (at_make;refine fG _ rfl _ _ 57 rfl w.heap.size 9 i0 R5 1 underlying57 V N O _ _ _ n rfl rfl rfl ?_ ?_ ?_ ?_)
 ·rw[P];omega
 ·unfold maxLen;omega
 ·omega
 intro w1 y f;have F:=G7 y;have E:G6 (BQ w w1):=(zf _ w).grown f F7 (λk C=>by cases C);clear y f;go_wp2_with fail
 go_loopw [5,7,13] (λov _ kv wr=>∃(k:Nat),k<=n/\kv=R9 k/\zJ wr w.heap.size ov ((b.take k).map out)/\BQ w wr) (λ_ _ kv _=>n-(intOf kv).toNat)
 case atStart=>exact⟨0,zD _,rfl,F.o,E.o⟩
 case round=>
  obtain⟨k,C,rfl,D,hb⟩:=hrel;have⟨Q,p⟩:=D5 D hb;clear D hb F E
  by_cases hlt:k<n
  ·have A:k<b.length:=by rw[HN.o];exact hlt
   obtain⟨d,v,rfl,⟨q0,q1,q2,q3⟩,o4⟩:=HC.o k _ (zn A);have p0:=zi p.o q0;have p1:=zi p.o q1;have p2:=zi p.o q2;have p3:=zi p.o q3;have B:G6 ((b.take (k+1)).map out=(b.take k).map out++[out b[k]]):=G7 (by rw[Qg,zn A,uz];rfl);have I:((b.take k).map out).length=k:=by rw[qf,jg];omega
   have m:b[k] ∈ b:=qm A;obtain⟨s,hs⟩:=Nm (b[k]);rw[hs]at q0 q1 q3 p0 p1 p3 o4 B m;obtain⟨xa,xc,rfl⟩:=xe o4;have o5:=ownsRow_below o4 p.o;have a1:=p.o.size;have cc:=HP.o (wr.alloc (L8 #[S9 s.op,S9 s.key,TL xa s.vals.length xc,.bool s.no] 262)) s _ m (p.o.alloc a1 _) (World.ownsRow.alloc o5 _);have CC:=G7 cc;obtain⟨L,hL⟩:=Nm ((b.take k).map out);rw[hL]at Q B I;clear cc hs hL m
   go_wp2_with(first
    |(go_at_fn g;apply CC.o.mono;rintro e w2⟨rfl,H⟩;have z:G6 (BQ wr w2):=(nbl wr _).trans (H.mono (by simp));have b6:=z.o.size;clear H)
    | (at_builtin;refine yh _ rfl _ _ 57 rfl w.heap.size 9 i0 R5 1 16 underlying57 V N O P rfl (by decide) _ L.length (L.map Value.string) rfl (World.ownsRow.alloc (ownsRow_below Q.o z.o) _) (G8 w2.heap.size 0) 1 1 [S9 (out s)] rfl rfl ?_ ?_ ?_ ?_ ?_ ?_))
   ·exact uQ _ _ _
   ·intro u hu;simp at hu;rcases hu with rfl;rfl
   ·unfold maxLen;omega
   ·omega
   ·simp;omega
   intro v' w3 o l _;have T:G6 (zJ w3 w.heap.size v' ((b.take (k+1)).map out)):=by rw[B.o];exact K8 (by rw[I];exact o)
   have R:G6 (BQ w w3):=((p.o.trans (z.o.mono p.o.size)).alloc (by omega) _).grown l (by simp;omega) (λk C=>(World.ownsRow.lt Q.o k C).1);clear o l;go_wp2;go_roundw
   case rel=>exact⟨k+1,by omega,by go_num,T.o,R.o⟩
   case measure=>simp[intOf];omega
  have X:k=n:=by omega
  subst X;have D:=Q.o;rw[uA (by rw[HN.o];omega)]at D;have S:=G7 D;clear D;go_wp2;go_ret;exact⟨_,rfl,S.o,p.o⟩
theorem zaE(b:List zS)(lv:Y)(base g:Nat)(out:zS->BY)(w:J)(h:jl w base lv b)(hn:b.length<=1000)(eg:∀v w,(callFunc g v).run prog w=.ok (.enter g v) w)
  (hp:∀W x y z A t,x ∈ b->BQ w W->zJ W base y x.who.2->zJ W base z x.act.2->zJ W base A x.on.2->xB W base t x.ifs->R8 g #[.agg #[S9 x.eff,.bool x.who.1,y,.bool x.act.1,z,.bool x.on.1,A,t]] W (G5 (.string (out x)) W)):R8 126 #[lv,.func (.func g) #[] #[]] w (JU w (b.map out)):=by
 obtain⟨i0,hi,R,S,T⟩:=qU UE;obtain⟨xs,P,hc⟩:=h
 obtain⟨a,c,rfl⟩:∃a c,lv=TL a b.length c:=by
  rcases P.2 with⟨rfl,D⟩|⟨f,c,cur,rfl,_⟩
  ·exact⟨_,_,by rw[D]⟩
  exact⟨_,_,rfl⟩
 obtain⟨n,r⟩:=Nm b.length
 have m:∀(k:Nat) (x:zS),b[k]?=some x->∃f y z A t,a=some (G8 f 0)/\(w.cell? (G8 f (k*8))=some (S9 x.eff)/\w.cell? (G8 f (k*8+1))=some (.bool x.who.1)/\w.cell? (G8 f (k*8+2))=some y/\w.cell? (G8 f (k*8+3))=some (.bool x.act.1)/\w.cell? (G8 f (k*8+4))=some z/\w.cell? (G8 f (k*8+5))=some (.bool x.on.1)/\w.cell? (G8 f (k*8+6))=some A/\w.cell? (G8 f (k*8+7))=some t)/\zJ w base y x.who.2/\zJ w base z x.act.2/\zJ w base A x.on.2/\xB w base t x.ifs:=by
  intro k x Q;have G:k<b.length:=(zU.1 Q).1;have hl:xs.length=b.length*8:=P.1
  rcases P.2 with⟨e,D⟩|⟨f,cap,cur,e,_⟩
  ·omega
  have d:∀i,i<b.length*8->w.cell? (G8 f i)=xs[i]?:=λi hi=>World.ownsRow.cellAt (g:=f) (cap:=cap) (by rw[<- e];exact P) i (by omega);injection e with e1 e2 e3
  obtain⟨y,z,A,t,D,h1,h2,h3,h4,h5,h6,h7,g1,g2,g3,g4⟩:=hc k G;have a5:b[k]=x:=(zU.1 Q).2;rw[a5]at D h1 h3 h5 g1 g2 g3 g4;exact⟨f,y,z,A,t,e1,⟨(d _ (by omega)).trans D,(d _ (by omega)).trans h1,(d _ (by omega)).trans h2,(d _ (by omega)).trans h3,(d _ (by omega)).trans h4,(d _ (by omega)).trans h5,(d _ (by omega)).trans h6,(d _ (by omega)).trans h7⟩,g1,g2,g3,g4⟩
 rw[r];rw[r]at hn;have⟨HC,HP,HN⟩:=M4 m hp r;clear m hp r P hc;go_enter func126,ntmps126;go_wp2_with (at_make;refine fG _ rfl _ _ 57 rfl w.heap.size 9 i0 R5 1 underlying57 hi R S _ _ _ n rfl rfl rfl ?_ ?_ ?_ ?_)
 ·rw[T];omega
 ·unfold maxLen;omega
 ·omega
 intro w1 B l;have K:=G7 B;have I:G6 (BQ w w1):=(zf _ w).grown l F7 (λk G=>by cases G);clear B l;go_wp2_with fail
 go_loopw [5,7,13] (λov _ kv wr=>∃(k:Nat),k<=n/\kv=R9 k/\zJ wr w.heap.size ov ((b.take k).map out)/\BQ w wr) (λ_ _ kv _=>n-(intOf kv).toNat)
 case atStart=>exact⟨0,zD _,rfl,K.o,I.o⟩
 case round=>
  obtain⟨k,G,rfl,H,hb⟩:=hrel;have⟨V,j⟩:=D5 H hb;clear H hb K I
  by_cases hlt:k<n
  ·have E:k<b.length:=by rw[HN.o];exact hlt
   obtain⟨f,y,z,A,t,rfl,⟨q0,q1,q2,q3,q4,q5,q6,q7⟩,o1,o2,o3,o4⟩:=HC.o k _ (zn E);have p0:=zi j.o q0;have p1:=zi j.o q1;have p2:=zi j.o q2;have p3:=zi j.o q3;have p4:=zi j.o q4;have p5:=zi j.o q5;have p6:=zi j.o q6;have p7:=zi j.o q7;have F:G6 ((b.take (k+1)).map out=(b.take k).map out++[out b[k]]):=G7 (by rw[Qg,zn E,uz];rfl);have N:((b.take k).map out).length=k:=by rw[qf,jg];omega
   have p:b[k] ∈ b:=qm E;obtain⟨s,hs⟩:=Nm (b[k]);rw[hs]at q0 q1 q3 q5 p0 p1 p3 p5 o1 o2 o3 o4 F p;obtain⟨x1,y1,rfl⟩:=xe o1;obtain⟨x2,y2,rfl⟩:=xe o2;obtain⟨x3,y3,rfl⟩:=xe o3
   obtain⟨x4,y4,rfl⟩:∃a c,t=TL a s.ifs.length c:=by
    obtain⟨ys,hy,_⟩:=o4
    rcases hy.2 with⟨rfl,D⟩|⟨f,c,cur,rfl,_⟩
    ·exact⟨_,_,by rw[D]⟩
    exact⟨_,_,rfl⟩
   have X:=λO:Obj=>(j.o.alloc j.o.size O);have a6:=j.o.size;have cc:=HP.o (wr.alloc (L8 #[S9 s.eff,.bool s.who.1,TL x1 s.who.2.length y1,.bool s.act.1,TL x2 s.act.2.length y2,.bool s.on.1,TL x3 s.on.2.length y3,TL x4 s.ifs.length y4] 140)) s _ _ _ _ p (j.o.alloc a6 _) (o1.below (X _)) (o2.below (X _)) (o3.below (X _)) (o4.below (X _));have CC:=G7 cc;obtain⟨L,hL⟩:=Nm ((b.take k).map out);rw[hL]at V F N;clear cc hs hL p
   go_wp2_with(first
    |(go_at_fn g;apply CC.o.mono;rintro e w2⟨rfl,M⟩;have C:G6 (BQ wr w2):=(nbl wr _).trans (M.mono (by simp));have c8:=C.o.size;clear M)
    | (at_builtin;refine yh _ rfl _ _ 57 rfl w.heap.size 9 i0 R5 1 16 underlying57 hi R S T rfl (by decide) _ L.length (L.map Value.string) rfl (World.ownsRow.alloc (ownsRow_below V.o C.o) _) (G8 w2.heap.size 0) 1 1 [S9 (out s)] rfl rfl ?_ ?_ ?_ ?_ ?_ ?_))
   ·exact uQ _ _ _
   ·intro u hu;simp at hu;rcases hu with rfl;rfl
   ·unfold maxLen;omega
   ·omega
   ·simp;omega
   intro v' w3 q o _;have a2:G6 (zJ w3 w.heap.size v' ((b.take (k+1)).map out)):=by rw[F.o];exact K8 (by rw[N];exact q)
   have a0:G6 (BQ w w3):=((j.o.trans (C.o.mono j.o.size)).alloc (by omega) _).grown o (by simp;omega) (λk G=>(World.ownsRow.lt V.o k G).1);clear q o;go_wp2;go_roundw
   case rel=>exact⟨k+1,by omega,by go_num,a2.o,a0.o⟩
   case measure=>simp[intOf];omega
  have a4:k=n:=by omega
  subst a4;have H:=V.o;rw[uA (by rw[HN.o];omega)]at H;have a1:=G7 H;clear H;go_wp2;go_ret;exact⟨_,rfl,a1.o,j.o⟩
end Go.Proofs.YtfjpcldndaiifaaGreatDoor
namespace Go.Proofs.YtfjpcldndaiifaaGreatDoor
open Go.Shelf
def Tryz.lays156_ren:Go.Shelf.Ren:=⟨λ|156=>125|165=>174|166=>175|169=>176|240=>207|241=>208|276=>220|277=>221|n=>n,λ|31=>57|9=>9|3=>3|4=>4|0=>0|20=>20|72=>319|76=>321|70=>317|37=>210|75=>82|127=>314|164=>235|5=>5|80=>98|n=>n,λ|n=>n⟩
theorem Tryz.lays156:Go.Proofs.Lays.n156 prog Tryz.lays156_ren:={
 mixed:=by kernel_rfl
 f156:=func125.trans (congrArg some (by kernel_rfl))
 f165:=func174.trans (congrArg some (by kernel_rfl))
 f166:=func175.trans (congrArg some (by kernel_rfl))
 f169:=func176.trans (congrArg some (by kernel_rfl))
 f240:=func207.trans (congrArg some (by kernel_rfl))
 f241:=func208.trans (congrArg some (by kernel_rfl))
 f276:=func220.trans (congrArg some (by kernel_rfl))
 f277:=func221.trans (congrArg some (by kernel_rfl))
 t0:=underlying0
 a0:=Tryz.isAgg0
 z0:=Tryz.sizeOf0
 v0:=Tryz.zeroValue0
 t3:=underlying3
 a3:=Tryz.isAgg3
 z3:=Tryz.sizeOf3
 v3:=Tryz.zeroValue3
 t4:=underlying4
 a4:=Tryz.isAgg4
 z4:=Tryz.sizeOf4
 v4:=Tryz.zeroValue4
 t9:=underlying9
 a9:=Tryz.isAgg9
 z9:=Tryz.sizeOf9
 v9:=Tryz.zeroValue9
 t20:=underlying20
 a20:=Tryz.isAgg20
 z20:=Tryz.sizeOf20
 v20:=Tryz.zeroValue20
 t31:=underlying57
 a31:=Tryz.isAgg57
 z31:=Tryz.sizeOf57
 v31:=Tryz.zeroValue57
 t37:=underlying210
 a37:=Tryz.isAgg210
 z37:=Tryz.sizeOf210
 v37:=Tryz.zeroValue210
 t70:=underlying317
 a70:=Tryz.isAgg317
 z70:=Tryz.sizeOf317
 v70:=Tryz.zeroValue317
 t72:=underlying319
 a72:=Tryz.isAgg319
 z72:=Tryz.sizeOf319
 v72:=Tryz.zeroValue319
 t75:=underlying82
 a75:=Tryz.isAgg82
 z75:=Tryz.sizeOf82
 v75:=Tryz.zeroValue82
 t76:=underlying321
 a76:=Tryz.isAgg321
 z76:=Tryz.sizeOf321
 v76:=Tryz.zeroValue321
 t127:=underlying314
 a127:=Tryz.isAgg314
 z127:=Tryz.sizeOf314
 v127:=Tryz.zeroValue314
 t164:=underlying235
 a164:=Tryz.isAgg235
 z164:=Tryz.sizeOf235
 v164:=Tryz.zeroValue235 }
end Go.Proofs.YtfjpcldndaiifaaGreatDoor
