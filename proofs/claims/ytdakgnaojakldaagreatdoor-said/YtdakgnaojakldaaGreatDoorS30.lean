/- P -/
import Derived.Lib.Bytealg
import Derived.Deep.AppendLies
import Derived.Shelf.Strings.OnBuilder
import Derived.Test.YtdakgnaojakldaaGreatDoorS28
import Derived.Shelf.Small.Strs
import Derived.Shelf.Spec.SlicesGrow
import Derived.Shelf.Pu.Clone
open Go.Proofs.Tryz
set_option maxRecDepth 100000
namespace Go.Proofs.YtdakgnaojakldaaGreatDoor
namespace De
def jL(c:UInt8):Prop:=48<=c.toNat/\c.toNat<=57
def UR(n:Nat)(c:UInt8):Nat:=10*n+(c.toNat-48)
def jM(n:Nat)(l:List UInt8):Nat:=l.foldl UR n
def xY(l:List UInt8):Nat:=jM 0 l
theorem Q4(n:Nat)(c:UInt8)(l:List UInt8):jM n (c::l)=jM (10*n+(c.toNat-48)) l:=by simp only[jM,List.foldl_cons,UR]
theorem cZ:∀(a b:List UInt8) (n m:Nat),a.length=b.length->(∀c ∈ a,jL c)->(∀c ∈ b,jL c)->(jM n a<jM m b↔n<m\/(n=m/\Lib.compareBytes a b<0))
 | [],[],n,m,_,_,_=>by simp[jM,Lib.compareBytes]
 | [],_::_,_,_,h,_,_=>by simp at h
 | _::_,[],_,_,h,_,_=>by simp at h
 | x::a,y::b,n,m,h,ha,hb=>by
  have i:=ha x (by simp);have j:=hb y (by simp);unfold jL at i j;rw[Q4,Q4,cZ a b _ _ (by simpa using h) (λc f=>ha c (by simp[f])) (λc f=>hb c (by simp[f])),Lib.compareBytes]
  by_cases c1:x<y
  ·have d:x.toNat<y.toNat:=c1;rw[if_pos c1]
   constructor
   ·intro h;omega
   ·intro h;omega
  ·have d:¬x.toNat<y.toNat:=c1;rw[if_neg c1]
   by_cases c2:y<x
   ·have e:y.toNat<x.toNat:=c2;rw[if_pos c2]
    constructor
    ·intro h;omega
    ·intro h;omega
   ·have e:¬y.toNat<x.toNat:=c2;rw[if_neg c2]
    constructor
    ·rintro (h|⟨h,g⟩)
     ·left;omega
     ·right;exact⟨by omega,g⟩
    ·rintro (h|⟨h,g⟩)
     ·left;omega
     ·right;exact⟨by omega,g⟩
theorem VH:∀(l:List UInt8) (n:Nat),(∀c ∈ l,jL c)->jM n l<(n+1)*10 ^ l.length
 | [],n,_=>by simp[jM]
 | x::l,n,h=>by
  have b:=h x (by simp);unfold jL at b
  have:=VH l (10*n+(x.toNat-48)) (λc a=>h c (by simp[a]))
  rw[Q4];refine Nat.lt_of_lt_of_le this ?_;rw[List.length_cons,Nat.pow_succ,Nat.mul_comm (10 ^ l.length) 10,<- Nat.mul_assoc];exact Nat.mul_le_mul_right _ (by omega)
theorem VI:∀(l:List UInt8) (n:Nat),n*10 ^ l.length<=jM n l
 | [],n=>by simp[jM]
 | x::l,n=>by
  have:=VI l (10*n+(x.toNat-48))
  rw[Q4];refine Nat.le_trans ?_ this;rw[List.length_cons,Nat.pow_succ,Nat.mul_comm (10 ^ l.length) 10,<- Nat.mul_assoc];exact Nat.mul_le_mul_right _ (by omega)
theorem df{a b:List UInt8}(h:∀c ∈ a,jL c)(hb:∀c ∈ b,jL c)(e:a.length<b.length)(d:(b.getD 0 0).toNat≠48):xY a<xY b:=by
 match b,e,d with
 | y::b,e,d=>
  have i:=hb y (by simp);unfold jL at i;have f:y.toNat≠48:=d;have j:=VH a 0 h;have k:=VI b (10*0+(y.toNat-48));have g:xY (y::b)=jM (10*0+(y.toNat-48)) b:=Q4 0 y b;have l:10 ^ a.length<=10 ^ b.length:=Nat.pow_le_pow_right (by omega) (by simp at e;omega);have m:1*10 ^ b.length<=(10*0+(y.toNat-48))*10 ^ b.length:=Nat.mul_le_mul_right _ (by omega);rw[g];unfold xY;omega
def Zr(t:BY):Bool:=(t.toList==[48])||Ref.jN t
def Y7(a b:BY):Bool:=if a.size=b.size then decide (Lib.compareBytes a.data.toList b.data.toList<0) else decide (a.size<b.size)
theorem Y8{t:BY}(h:Zr t=true):(∀c ∈ t.data.toList,jL c)/\1<=t.size/\t.size<=18/\(1<t.size->(t.data.toList.getD 0 0).toNat≠48)/\(t.data.toList.getD 0 0).toNat≠45:=by
 have b:t.data.toList.length=t.size:=by simp
 unfold Zr at h
 rcases Bool.or_eq_true_iff.1 h with h|h
 ·have e:t.data.toList=[48]:=by
   have:=eq_of_beq h
   rwa [ByteArray.toList_eq] at this
  rw[e] at b |-;simp at b;refine⟨λc a=>?_,by omega,by omega,by omega,by simp⟩;simp at a;subst a;exact⟨by decide,by decide⟩
 ·unfold Ref.jN at h;simp only[Bool.and_eq_true,decide_eq_true_eq,bne_iff_ne] at h;obtain⟨⟨⟨d,f⟩,g⟩,i⟩:=h
  have hd:∀c ∈ t.data.toList,jL c:=λc a=>by
   have:=List.all_eq_true.1 i c a
   simp only[decide_eq_true_eq] at this;exact this
  refine⟨hd,d,f,λ_=>g,?_⟩
  match hx:t.data.toList with
  | []=>rw[hx] at b;simp at b;omega
  | x::r=>
   have:=hd x (by rw[hx];simp)
   unfold jL at this
   simp
   omega
theorem eX{a b:BY}(g:Zr a=true)(hb:Zr b=true):Y7 a b=decide (xY a.data.toList<xY b.data.toList):=by
 obtain⟨d,l,_,h,_⟩:=Y8 g;obtain⟨f,m,_,i,_⟩:=Y8 hb;have j:a.data.toList.length=a.size:=by simp
 have k:b.data.toList.length=b.size:=by simp
 unfold Y7
 by_cases e:a.size=b.size
 ·rw[if_pos e]
  have:=cZ a.data.toList b.data.toList 0 0 (by omega) d f
  simp only[Nat.lt_irrefl,false_or,true_and] at this;unfold xY;exact decide_eq_decide.2 this.symm
 ·rw[if_neg e]
  by_cases c:a.size<b.size
  ·rw[decide_eq_true c,decide_eq_true (df d f (by omega) (i (by omega)))]
  ·have:=df f d (by omega) (h (by omega))
   rw[decide_eq_false c,decide_eq_false (by omega)]
def xO(s:BY):Bool:=decide (0<s.size)&&((s.data.toList.getD 0 0).toNat==45)
def jk(s:BY):BY:=if xO s then s.extract 1 s.size else s
def uz(s:BY):Int:=if xO s then -((xY (jk s).data.toList:Nat):Int) else ((xY (jk s).data.toList:Nat):Int)
def Zu(a b:BY):Bool:=if xO a=xO b then (if xO a then Y7 (jk b) (jk a) else Y7 (jk a) (jk b)) else xO a
theorem Vz{s:BY}(h:Ref.qj s=true):Zr (jk s)=true/\(xO s=true->Ref.jN (jk s)=true):=by
 unfold Ref.qj at h
 rcases Bool.or_eq_true_iff.1 h with h|h
 ·have e:s.data.toList=[48]:=by
   have:=eq_of_beq h
   rwa [ByteArray.toList_eq] at this
  have b:xO s=false:=by unfold xO;rw[e];simp
  unfold jk;rw[b];refine⟨?_,λh=>by cases h⟩;unfold Zr;simp[h]
 ·cases b:xO s with
  | true=>
   have a:=b;unfold xO at a;simp only[Bool.and_eq_true,decide_eq_true_eq,beq_iff_eq] at a;rw[if_pos a] at h;unfold jk Zr;rw[b,if_pos rfl,h]
   simp
  | false=>
   have a:=b;unfold xO at a
   rw[if_neg (by
    rintro ⟨c,d⟩;rw[decide_eq_true c,d] at a;simp at a)] at h
   unfold jk Zr;rw[b];simp[h]
theorem DU{t:BY}(h:Ref.jN t=true):0<xY t.data.toList:=by
 have f:=Y8 (t:=t) (by unfold Zr;simp[h]);obtain⟨hd,g,_,_,_⟩:=f;unfold Ref.jN at h;simp only[Bool.and_eq_true,decide_eq_true_eq,bne_iff_ne] at h;have c:t.data.toList.length=t.size:=by simp
 match hx:t.data.toList with
 | []=>rw[hx] at c;simp at c;omega
 | x::r=>
  have b:=h.1.2;rw[hx] at b;have d:x.toNat≠48:=b;have a:=hd x (by rw[hx];simp);unfold jL at a;have i:=VI r (10*0+(x.toNat-48));have e:xY (x::r)=jM (10*0+(x.toNat-48)) r:=Q4 0 x r;have j:1*10 ^ r.length<=(10*0+(x.toNat-48))*10 ^ r.length:=Nat.mul_le_mul_right _ (by omega);have k:0<10 ^ r.length:=Nat.pow_pos (by omega);rw[e];omega
theorem Ir{a b:BY}(e:Ref.qj a=true)(hb:Ref.qj b=true):Zu a b=decide (uz a<uz b):=by
 obtain⟨c,f⟩:=Vz e;obtain⟨d,g⟩:=Vz hb;unfold Zu uz
 cases ea:xO a with
 | true=>
  have h:=DU (f ea)
  cases eb:xO b with
  | true=>
   simp only[if_true];rw[eX d c];exact decide_eq_decide.2 (by omega)
  | false=>
   simp only[Bool.true_eq_false,if_false,if_true,Bool.false_eq_true];rw[decide_eq_true (by omega)]
 | false=>
  cases eb:xO b with
  | true=>
   simp only[Bool.false_eq_true,if_false,if_true];rw[decide_eq_false (by omega)]
  | false=>
   simp only[if_true,Bool.false_eq_true,if_false];rw[eX c d];exact decide_eq_decide.2 (by omega)
def qW(op:BY):Bool:=op.toList==[115,97,109,101]
def xX(op:BY):Bool:=op.toList==[98,101,108,111,119]
def xK(c:Bool×List BY)(word:BY)(r:Ref.Req):Bool:=(c.2.any λp=>Ref.qJ p word r) != c.1
def yG(x v:BY):Bool:=(x.toList==v.toList)||(decide (v.size<x.size)&&((x.data.toList.take v.size==v.data.toList)&&((x.data.toList.getD v.size 0).toNat==47)))
def jr(op x v:BY)(r:Ref.Req):Bool:=
 if Ref.qp op then Ref.qJ v x r
 else if qW op then x.toList==v.toList
 else if xX op then Ref.qj x&&Zu x v
 else yG x v
def ZB(op:BY)(vals:List BY)(r:Ref.Req):Option BY->Bool
 | none=>false
 | some x=>vals.any λv=>jr op x v r
end De
theorem Gr{r:Ref.Req}(h:Ref.xe r=true):r.marks.length<=10:=by
 unfold Ref.xe at h;simp only[Bool.and_eq_true,decide_eq_true_eq] at h;exact h.1.2
theorem QD{s:BY}(h:Ref.yH s=true):s.size<=100/\(Ref.chars s).isSome=true:=by
 unfold Ref.yH at h;simp at h;exact⟨h.2,h.1⟩
theorem fP{r:Ref.Req}(h:Ref.xe r=true):Ref.yH r.who=true/\Ref.yH r.act=true/\Ref.yH r.on=true:=by
 unfold Ref.xe at h;simp only[Bool.and_eq_true,decide_eq_true_eq] at h;exact⟨h.1.1.1.1,h.1.1.1.2,h.1.1.2⟩
theorem gp{r:Ref.Req}(h:Ref.xe r=true)(n v:BY)(a:Ref.says r n=some v):v.size<=100/\(Ref.chars v).isSome=true:=by
 obtain⟨b,c,d⟩:=fP h
 have e:r.marks.all Ref.vo=true:=by
  unfold Ref.xe at h;simp only[Bool.and_eq_true] at h;exact h.2
 refine QD ?_;unfold Ref.says at a
 split at a
 ·simp at a;subst a;exact b
 split at a
 ·simp at a;subst a;exact c
 split at a
 ·simp at a;subst a;exact d
 ·unfold Ref.QZ at a;obtain⟨m,f,rfl⟩:=Option.map_eq_some_iff.1 a
  have:=List.all_eq_true.1 e m (List.mem_of_find?_eq_some f)
  unfold Ref.vo at this;simp only[Bool.and_eq_true] at this;exact this.1.1.1.2
end Go.Proofs.YtdakgnaojakldaaGreatDoor
namespace Go.Proofs.YtdakgnaojakldaaGreatDoor
open Go.RowKit
def yO(w:World)(v:Value)(l:List BY):Prop:=
 ∃ao cap,v = .slice ao l.length cap/\(l=[]\/∃b o,ao=some ⟨b,o,none⟩/\∀j,(h:j<l.length)->w.cell? ⟨b,o+j,none⟩=some (.string l[j]))
theorem Zw{w a:World}{v:Value}{l:List BY}(h:yO w v l)(hb:Below w.heap.size w a):yO a v l:=by
 obtain⟨ao,cap,d,h⟩:=h;refine⟨ao,cap,d,?_⟩
 rcases h with h|⟨b,o,ha,hc⟩
 ·exact .inl h
 ·exact .inr ⟨b,o,ha,λj c=>zg hb (hc j c)⟩
theorem Jl{w:World}{base:Nat}{e:TypeId}{v:Value}{n:Nat}{l:List BY}(f:n=l.length)(h:w.ownsRow base e 1 v n (Ref.strCells l)):yO w v l:=by
 subst f;have a:=λg c=>h.cells (g:=g) c
 rcases h.2 with ⟨rfl,h0⟩|⟨g,cap,cur,rfl,_⟩
 ·exact⟨none,0,by rw[h0],.inl (List.eq_nil_of_length_eq_zero h0)⟩
 ·refine⟨_,cap,rfl,.inr ⟨g,0,rfl,λj d=>?_⟩⟩;have i:=Ref.La l j d;have b:=a g rfl _ _ i;rw[Xx] at b;rw[Nat.zero_add];exact b
def Zf(w:World)(b:Nat)(r:Ref.Req)(ao:Option Addr)(cap:Nat):Prop:=
 w.cell? ⟨b,0,none⟩=some (.string r.who)/\w.cell? ⟨b,1,none⟩=some (.string r.act)/\w.cell? ⟨b,2,none⟩=some (.string r.on)/\w.cell? ⟨b,3,none⟩=some (.slice ao r.marks.length cap)
theorem Qh{w a:World}{b:Nat}{r:Ref.Req}{ao:Option Addr}{cap:Nat}(h:Zf w b r ao cap)(hb:Below w.heap.size w a):Zf a b r ao cap:=
 ⟨zg hb h.1,zg hb h.2.1,zg hb h.2.2.1,zg hb h.2.2.2⟩
theorem Dc(w:World)(cs:Array Value)(t:TypeId):∀(j:Nat) (u:Value),cs.toList[j]?=some u->(w.alloc (.cells cs t)).cell? ((⟨w.heap.size,0,none⟩:Addr).add j)=some u:=by
 intro j u a;have h:=(ze (heap_alloc_new w (.cells cs t)) j).1;rw[addr_add];simp only[Nat.zero_add];rw[h]
 simpa using a
end Go.Proofs.YtdakgnaojakldaaGreatDoor
namespace Go.Proofs.YtdakgnaojakldaaGreatDoor
open Go.Shelf
def Tryz.lays156_ren:Go.Shelf.Ren:=⟨λ|156=>113|165=>167|166=>168|169=>169|240=>209|241=>210|276=>234|277=>235|n=>n,λ|31=>42|9=>9|3=>3|4=>4|0=>0|20=>20|72=>299|76=>301|70=>297|37=>256|75=>74|127=>322|164=>218|5=>5|80=>81|n=>n,λ|n=>n⟩
end Go.Proofs.YtdakgnaojakldaaGreatDoor
namespace Go.Proofs.YtdakgnaojakldaaGreatDoor
open Go.RowKit
theorem Tryz.bx:Builder.Extra prog Tryz.lays156_ren:={
 sizeBuilder:=by kernel_rfl
 liesBuilder:=by kernel_rfl
 t5:=underlying5
 a5:=Tryz.isAgg5
 z5:=Tryz.sizeOf5
 v5:=Tryz.zeroValue5
 infoByte:=by kernel_rfl
 cellsByte:=by kernel_rfl
 sizeByte:=by kernel_rfl
 neB5:=by decide }
def iN(c:zQ):Prop:=c.op.size<=12000/\c.key.size<=12000/\Ref.kY c.vals
structure JA (s:zz):Prop where
 eff:s.eff.size<=12000
 who:Ref.kY s.who.2
 act:Ref.kY s.act.2
 on:Ref.kY s.on.2
 len:s.ifs.length<=5
 cs:∀c ∈ s.ifs,iN c
theorem gY{L:Nat}:∀(a:List Rd.V) (l:List BY),(∀v ∈ a,Rd.Good L v)->Rd.yo a=some l->l.length=a.length/\∀s ∈ l,s.size<=L
 | [],l,_,h=>by simp only[Rd.yo,Option.some.injEq] at h;subst h;simp
 | v::a,l,hg,h=>by
  cases v with
  | str s=>
   simp only[Rd.yo] at h
   cases hr:Rd.yo a with
   | none=>rw[hr] at h;simp at h
   | some r=>
    rw[hr] at h;simp only[Option.map_some,Option.some.injEq] at h;subst h;obtain⟨d,e⟩:=gY a r (λv f=>hg v (by simp[f])) hr;refine⟨by simp[d],λt c=>?_⟩
    rcases List.mem_cons.1 c with rfl|c
    ·have:=hg (.str t) (by simp)
     cases this with
     | str _ h=>exact h
    ·exact e t c
  | word b=>simp[Rd.yo] at h
  | list l=>simp[Rd.yo] at h
  | obj l=>simp[Rd.yo] at h
theorem QA{L:Nat}(i:L<=12000)(x:Option Rd.V)(e:∀v,x=some v->Rd.Good L v):Ref.kY ((Rd.zn x).getD [])/\((Rd.zn x).isSome=true->0<((Rd.zn x).getD []).length):=by
 match x with
 | none=>exact⟨⟨by simp[Rd.zn],by simp[Rd.zn]⟩,λh=>by simp[Rd.zn] at h⟩
 | some (.word b)=>exact⟨⟨by simp[Rd.zn],by simp[Rd.zn]⟩,λh=>by simp[Rd.zn] at h⟩
 | some (.obj ms)=>exact⟨⟨by simp[Rd.zn],by simp[Rd.zn]⟩,λh=>by simp[Rd.zn] at h⟩
 | some (.str s)=>
  have:=e _ rfl
  cases this with
  | str _ h=>exact⟨⟨by simp[Rd.zn],by simp[Rd.zn];omega⟩,λ_=>by simp[Rd.zn]⟩
 | some (.list vs)=>
  have:=e _ rfl
  cases this with
  | list _ g f=>
   simp only[Rd.zn]
   by_cases c:vs.length<1\/10<vs.length
   ·rw[if_pos c];exact⟨⟨by simp,by simp⟩,λh=>by simp at h⟩
   ·rw[if_neg c]
    cases d:Rd.yo vs with
    | none=>exact⟨⟨by simp,by simp⟩,λh=>by simp at h⟩
    | some l=>
     obtain⟨a,b⟩:=gY vs l f d;simp only[Option.getD_some];exact⟨⟨by omega,λs d=>by have:=b s d;omega⟩,λ_=>by omega⟩
theorem JY{L:Nat}(a:L<=12000)(x:Option Rd.V)(d:∀v,x=some v->Rd.Good L v):Ref.kY (Rd.chD (Rd.yh x)).2:=by
 unfold Rd.chD
 match x with
 | none=>exact (QA a none (λv h=>by cases h)).1
 | some (.word b)=>exact (QA a _ d).1
 | some (.str s)=>exact (QA a _ d).1
 | some (.list vs)=>exact (QA a _ d).1
 | some (.obj ms)=>
  simp only[Rd.yh]
  by_cases c:Rd.zJ ms [Ref.qb]=true/\ms.length=1
  ·rw[if_pos c];refine (QA a _ (λv g=>?_)).1
   have:=d _ rfl
   cases this with
   | obj _ i j k f=>
    have e:=List.mem_of_getElem? g;rw[List.mem_map] at e;obtain⟨m,e,rfl⟩:=e;exact f m e
  ·rw[if_neg c];exact⟨by simp,by simp⟩
theorem VP{L:Nat}{x:Option Rd.V}(a:∀v,x=some v->Rd.Good L v){s:BY}(h:Rd.opV x=some s):s.size<=L:=by
 unfold Rd.opV at h
 split at h
 ·injection h with h
  subst h
  have:=a _ rfl
  cases this with
  | str _ h=>exact h
 ·cases h
theorem oh{L:Nat}(g:L<=12000)(v:Rd.V)(c:Rd.Good L v):Ref.Yr (Rd.qi v):=by
 have a:Ref.Yr Ref.xZ:=⟨Nat.zero_le _,Nat.zero_le _,Nat.zero_le _,λs d=>by simp[Ref.xZ] at d⟩
 match v,c with
 | .str s,_=>exact a
 | .word b,_=>exact a
 | .list l,_=>exact a
 | .obj ms,c=>
  simp only[Rd.qi,Rd.ZI]
  split
  ·rename_i op key e f;have i:=VP (Rd.qV c Ref.bOp) e;have j:=VP (Rd.qV c Ref.zw) f
   split
   ·exact⟨by simp only;omega,by simp only;omega,Nat.zero_le _,λs d=>by simp at d⟩
   ·obtain⟨h,_⟩:=QA g _ (Rd.qV c Ref.zq);exact⟨by simp only;omega,by simp only;omega,h.1,h.2⟩
  ·exact a
theorem IZ{L:Nat}(g:L<=12000)(v:Rd.V)(e:Rd.Good L v):Ref.QN (Rd.qR v):=by
 have d:Ref.QN Rd.jo:=⟨Nat.zero_le _,⟨Nat.zero_le _,λs f=>by simp[Rd.jo] at f⟩,⟨Nat.zero_le _,λs f=>by simp[Rd.jo] at f⟩,⟨Nat.zero_le _,λs f=>by simp[Rd.jo] at f⟩,Nat.zero_le _,λc a=>by simp[Rd.jo] at a⟩
 match v,e with
 | .str s,_=>exact d
 | .word b,_=>exact d
 | .list l,_=>exact d
 | .obj ms,e=>
  simp only[Rd.qR,Rd.Xh]
  split
  ·rename_i eff n k;have o:=VP (Rd.qV e Rd.zM) k
   have a:(Rd.qy (Rd.zh ms Rd.bIf)).cs.length<=5/\∀c ∈ (Rd.qy (Rd.zh ms Rd.bIf)).cs,Ref.Yr c:=by
    have h:=Rd.qV e Rd.bIf
    match i:Rd.zh ms Rd.bIf with
    | none=>exact⟨Nat.zero_le _,λc a=>by simp[Rd.qy] at a⟩
    | some (.str s)=>exact⟨Nat.zero_le _,λc a=>by simp[Rd.qy] at a⟩
    | some (.word b)=>exact⟨Nat.zero_le _,λc a=>by simp[Rd.qy] at a⟩
    | some (.obj ms)=>exact⟨Nat.zero_le _,λc a=>by simp[Rd.qy] at a⟩
    | some (.list vs)=>
     have:=h _ i
     cases this with
     | list _ m j=>
      simp only[Rd.qy]
      split
      ·exact⟨Nat.zero_le _,λc a=>by simp at a⟩
      ·refine⟨by simp;omega,λc a=>?_⟩;simp only[List.mem_map] at a;obtain⟨x,i,rfl⟩:=a;exact oh g x (j x i)
   exact⟨by simp only[Rd.Q3];omega,JY g _ (Rd.qV e Rd.zU),JY g _ (Rd.qV e Rd.bDo),JY g _ (Rd.qV e Rd.bOn),a.1,a.2⟩
  ·exact d
theorem nY(v:Rd.V)(h:Rd.condC v≠1){L:Nat}(i:L<=12000)(f:Rd.Good L v):Ref.zX (Rd.qi v).op=decide ((Rd.qi v).vals.length=0):=by
 have g:=Rd.Kz v
 have a:(Rd.qi v).sh=false:=by
  cases e:(Rd.qi v).sh with
  | false=>rfl
  | true=>rw[e] at g;exact absurd g h
 match v,f with
 | .str s,_=>exact absurd a (by simp[Rd.qi,Ref.xZ])
 | .word b,_=>exact absurd a (by simp[Rd.qi,Ref.xZ])
 | .list l,_=>exact absurd a (by simp[Rd.qi,Ref.xZ])
 | .obj ms,f=>
  obtain⟨R,c⟩:=Nm (Rd.qi (.obj ms));rw[c] at a |-;simp only[Rd.qi,Rd.ZI] at c
  cases h1:Rd.opV (Rd.zh ms Ref.bOp) with
  | none=>rw[h1] at c;subst c;simp[Ref.xZ] at a
  | some op=>
   rw[h1] at c
   cases h2:Rd.opV (Rd.zh ms Ref.zw) with
   | none=>rw[h2] at c;subst c;simp[Ref.xZ] at a
   | some key=>
    rw[h2] at c;simp only at c
    by_cases ca:Ref.zX op=true
    ·rw[if_pos ca] at c;subst c;simp[ca]
    ·rw[if_neg ca] at c;subst c;simp only[Bool.or_eq_false_iff,Bool.not_eq_false'] at a
     have:=(QA i _ (Rd.qV f Ref.zq)).2 a.1.1.2.1
     have d:Ref.zX op=false:=by simpa using ca
     simp only[d];symm;simp only[decide_eq_false_iff_not];omega
theorem IX(v:Rd.V)(h:Rd.qB v≠1/\Rd.qB v≠2){L:Nat}(m:L<=12000)(f:Rd.Good L v):Xq (Rd.qR v):=by
 match v,f with
 | .str s,_=>exact absurd rfl h.1
 | .word b,_=>exact absurd rfl h.1
 | .list l,_=>exact absurd rfl h.1
 | .obj ms,f=>
  simp only[Rd.qB] at h;simp only[Rd.qR,Rd.Xh]
  split
  ·rename_i eff k p;rw[k] at h;simp only[if_true] at h
   have n:Rd.zN [Rd.zI Rd.xu (Rd.zh ms Rd.zM),Rd.chC (Rd.zh ms Rd.zU),Rd.chC (Rd.zh ms Rd.bDo),Rd.chC (Rd.zh ms Rd.bOn),Rd.yl (Rd.zh ms Rd.bIf)]=0:=by
    have:=Rd.QV [Rd.zI Rd.xu (Rd.zh ms Rd.zM),Rd.chC (Rd.zh ms Rd.zU),Rd.chC (Rd.zh ms Rd.bDo),Rd.chC (Rd.zh ms Rd.bOn),Rd.yl (Rd.zh ms Rd.bIf)]
    omega
   have e:=(XT n) (Rd.yl (Rd.zh ms Rd.bIf)) (by simp);have g:=Rd.qV f Rd.bIf;intro c a;simp only[Rd.Q3] at a
   match hx:Rd.zh ms Rd.bIf with
   | none=>rw[hx] at a;simp[Rd.qy] at a
   | some (.str s)=>rw[hx] at a;simp[Rd.qy] at a
   | some (.word b)=>rw[hx] at a;simp[Rd.qy] at a
   | some (.obj ms)=>rw[hx] at a;simp[Rd.qy] at a
   | some (.list vs)=>
    rw[hx] at a e
    have:=g _ hx
    cases this with
    | list _ o j=>
     simp only[Rd.qy,Rd.yl] at a e
     by_cases c5:5<vs.length
     ·rw[if_pos c5] at a;simp at a
     ·rw[if_neg c5] at a e
      have i:Rd.zN (vs.map Rd.condC)=0:=by
       have:=Rd.QV (vs.map Rd.condC)
       omega
      simp only[List.mem_map] at a;obtain⟨x,d,rfl⟩:=a;exact nY x ((XT i) _ (List.mem_map.2 ⟨x,d,rfl⟩)).1 m (j x d)
  ·intro c a;simp[Rd.jo] at a
def jA(s:BY):List Rd.qm:=if 4000<s.size then [] else match Rd.xI s.data.toList with
 | .ok v _=>(zV (stX v)).map Rd.qR
 | .err _ _=>[]
theorem Vh:∀(rs:List Rd.qm) (i:Nat),(Rd.Zj rs i).1=0->∀r ∈ rs,r.sh=false/\r.pt=false
 | [],_,_,r,hr=>by simp at hr
 | x::xs,i,h,r,hr=>by
  unfold Rd.Zj at h
  split at h
  ·simp at h
  rename_i a
  split at h
  ·simp at h
  rename_i b
  rcases List.mem_cons.1 hr with rfl|hr
  ·exact⟨by simpa using a,by simpa using b⟩
  ·exact Vh xs (i+1) h r hr
theorem gV(s:BY)(h:(Rd.xV s).1=0):(∀r ∈ jA s,Xq r/\Ref.QN r)/\(jA s).length<=10/\(if 4000<s.size then [] else match Rd.xI s.data.toList with
 | .ok v _=>(zV (stX v)).map qG
 | .err _ _=>[])=(jA s).map yP:=by
 unfold Rd.xV at h;unfold jA
 by_cases h1:4000<s.size
 ·rw[if_pos h1] at h;simp at h
 rw[if_neg h1] at h;rw[if_neg h1,if_neg h1]
 cases hm:Rd.xI s.data.toList with
 | err e q=>
  rw[hm] at h
  have:=Rd.fM hm
  unfold Rd.Code at this;simp only at h;omega
 | ok v q=>
  rw[hm] at h;simp only at h |-;have j:=Rd.Yc hm;have m:s.data.toList.length<=12000:=by rw[Ref.zx];omega
  match v,j with
  | .str t,_=>simp[Rd.uh] at h
  | .word b,_=>simp[Rd.uh] at h
  | .list l,_=>simp[Rd.uh] at h
  | .obj ms,j=>
   simp only[Rd.uh] at h
   match hx:Rd.zh ms Rd.xS with
   | none=>rw[hx] at h;simp at h
   | some (.str t)=>rw[hx] at h;simp at h
   | some (.word b)=>rw[hx] at h;simp at h
   | some (.obj ms)=>rw[hx] at h;simp at h
   | some (.list i)=>
    rw[hx] at h;simp only at h;have d:zV (stX (.obj ms))=i:=by simp[zV,stX,hx]
    rw[d]
    by_cases c:ms.length≠1\/i.length<1\/10<i.length
    ·rw[if_pos c] at h;simp at h
    rw[if_neg c] at h;have k:=Rd.qV j Rd.xS _ hx
    have f:∀v ∈ i,Rd.Good s.data.toList.length v:=by
     cases k with
     | list _ p o=>exact o
    have g:∀v ∈ i,Rd.qB v≠1/\Rd.qB v≠2:=by
     intro v d;obtain⟨a,b⟩:=Vh _ _ h (Rd.qR v) (List.mem_map.2 ⟨v,d,rfl⟩);rw[Rd.gN v (f v d),a,b]
     decide
    refine⟨λr n=>?_,by rw[List.length_map];omega,?_⟩
    ·rw[List.mem_map] at n;obtain⟨v,d,rfl⟩:=n;exact⟨IX v (g v d) m (f v d),IZ m v (f v d)⟩
    ·rw[List.map_map];exact List.map_congr_left λv d=>IW v (f v d) (g v d)
theorem Iq{r:Rd.qm}(h:Ref.QN r):JA (yP r):=
 ⟨h.eff,h.who,h.act,h.on,by show (r.cs.map toS).length<=5;rw[List.length_map];exact h.len,λc e=>by
  rw[show (yP r).ifs=r.cs.map toS from rfl,List.mem_map] at e
  obtain⟨x,f,rfl⟩:=e;obtain⟨a,b,d⟩:=h.cs x f;exact⟨a,b,d⟩⟩
theorem Ve{EL:Value}{T:TypeId}{y:Value}(a:EL = .iface T y){c:Int}{q:Nat}{u:Value}(h:vI EL c q u):(c=0/\u = .nilIface)\/(c≠0/\∃T y,u = .iface T y):=by
 cases h with
 | ok=>exact .inl ⟨rfl,rfl⟩
 | long=>exact .inr ⟨by decide,T,y,a⟩
 | text c q b=>
  refine .inr ⟨by unfold Rd.Code at b;omega,?_⟩;unfold vk
  split
  ·exact⟨_,_,rfl⟩
  ·split
   ·exact⟨_,_,rfl⟩
   ·exact⟨_,_,rfl⟩
 | doc p=>exact .inr ⟨by decide,_,_,rfl⟩
 | shape n p=>exact .inr ⟨by decide,_,_,rfl⟩
 | pat n k=>exact .inr ⟨by decide,_,_,rfl⟩
end Go.Proofs.YtdakgnaojakldaaGreatDoor
namespace Go.Proofs.YtdakgnaojakldaaGreatDoor
open Go.Shelf
def Tryz.lays106_ren:Go.Shelf.Ren:=⟨λ|106=>136|213=>186|265=>224|n=>n,λ|9=>9|3=>3|n=>n,λ|n=>n⟩
theorem Tryz.lays106:Go.Proofs.Lays.n106 prog Tryz.lays106_ren:={
 mixed:=by kernel_rfl
 f106:=func136.trans (congrArg some (by kernel_rfl))
 f213:=func186.trans (congrArg some (by kernel_rfl))
 f265:=func224.trans (congrArg some (by kernel_rfl))
 t3:=underlying3
 a3:=Tryz.isAgg3
 z3:=Tryz.sizeOf3
 v3:=Tryz.zeroValue3
 t9:=underlying9
 a9:=Tryz.isAgg9
 z9:=Tryz.sizeOf9
 v9:=Tryz.zeroValue9 }
def Tryz.laysPu25_ren:Go.Shelf.Ren:=⟨λ|25=>137|n=>n,λ|9=>9|3=>3|4=>4|37=>256|0=>0|47=>322|5=>5|n=>n,λ|n=>n⟩
theorem Tryz.laysPu25:Go.Proofs.LaysPu.n25 prog Tryz.laysPu25_ren:={
 mixed:=by kernel_rfl
 f25:=func137.trans (congrArg some (by kernel_rfl))
 t0:=underlying0
 a0:=Tryz.isAgg0
 z0:=Tryz.sizeOf0
 v0:=Tryz.zeroValue0
 i0:=by kernel_rfl
 t3:=underlying3
 a3:=Tryz.isAgg3
 z3:=Tryz.sizeOf3
 v3:=Tryz.zeroValue3
 i3:=by kernel_rfl
 t4:=underlying4
 a4:=Tryz.isAgg4
 z4:=Tryz.sizeOf4
 v4:=Tryz.zeroValue4
 i4:=by kernel_rfl
 t5:=underlying5
 a5:=Tryz.isAgg5
 z5:=Tryz.sizeOf5
 v5:=Tryz.zeroValue5
 i5:=by kernel_rfl
 t9:=underlying9
 a9:=Tryz.isAgg9
 z9:=Tryz.sizeOf9
 v9:=Tryz.zeroValue9
 i9:=by kernel_rfl
 t37:=underlying256
 a37:=Tryz.isAgg256
 z37:=Tryz.sizeOf256
 v37:=Tryz.zeroValue256
 i37:=by kernel_rfl
 t47:=underlying322
 a47:=Tryz.isAgg322
 z47:=Tryz.sizeOf322
 v47:=Tryz.zeroValue322
 i47:=by kernel_rfl }
def Tryz.lays8grow_ren:Go.Shelf.Ren:=⟨λ|4=>138|n=>n,λ|22=>98|25=>187|3=>3|4=>4|9=>9|20=>20|0=>0|n=>n,λ|n=>n⟩
theorem Tryz.lays8grow:Go.Proofs.Lays8.n4 prog Tryz.lays8grow_ren:={
 mixed:=by kernel_rfl
 f4:=⟨Tryz.f138.name,by decide,func138.trans (congrArg some (by kernel_rfl))⟩
 t0:=underlying0
 a0:=Tryz.isAgg0
 z0:=Tryz.sizeOf0
 v0:=Tryz.zeroValue0
 t3:=underlying3
 a3:=Tryz.isAgg3
 z3:=Tryz.sizeOf3
 v3:=Tryz.zeroValue3
 t4:=underlying4
 a4:=Tryz.isAgg4
 z4:=Tryz.sizeOf4
 v4:=Tryz.zeroValue4
 t9:=underlying9
 a9:=Tryz.isAgg9
 z9:=Tryz.sizeOf9
 v9:=Tryz.zeroValue9
 t20:=underlying20
 a20:=Tryz.isAgg20
 z20:=Tryz.sizeOf20
 v20:=Tryz.zeroValue20
 t22:=underlying98
 a22:=Tryz.isAgg98
 z22:=Tryz.sizeOf98
 v22:=Tryz.zeroValue98 }
end Go.Proofs.YtdakgnaojakldaaGreatDoor
