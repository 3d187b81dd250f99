/- P -/
import Derived.Test.YtdakgnaojakldaaGreatDoorF29
import Derived.Test.YtdakgnaojakldaaGreatDoorF31
import Derived.Deep.AppendLies
import Derived.Shelf.Strings.OnBuilder
import Derived.Shelf.Small.Strs
import Derived.Shelf.Spec.SlicesGrow
import Derived.Shelf.Pu.Clone
open Go.Proofs.Tryz
set_option maxRecDepth 100000
namespace Go.Proofs.YtdakgnaojakldaaGreatDoor
open Go.RowKit
namespace Kp
open Rd Ref
theorem Y5(f:Option V->BA){l:List BA}(c:Int)(h:1<=l.length)(i:l.length<=10)(b:∀s ∈ l,f (some (.str s))=s):qg f (some (zK l c))=l:=by
 unfold zK
 by_cases e:l.length=1/\bit c 32=true
 ·rw[if_pos e];obtain⟨a,rfl⟩:=List.length_eq_one_iff.1 e.1;show [f (some (.str a))]=[a];rw[b a (by simp)]
 ·rw[if_neg e];show (if (l.map V.str).length<1\/10<(l.map V.str).length then [] else (l.map V.str).map λv=>f (some v))=l
  rw[List.length_map,if_neg (by omega),List.map_map];refine (List.map_congr_left (g:=id) (λs d=>b s d)).trans (by simp)
theorem Hy(l:List BA):zK l 0 = .list (l.map .str):=by
 unfold zK
 rw[if_neg (by intro h;have:bit 0 32=false:=by decide
               rw[this] at h;simp at h)]
theorem wM{c:Bool×List BA}(a:Int)(f:1<=c.2.length)(g:c.2.length<=10):chS (some (if c.1 then .obj [(zX,zK c.2 a)] else zK c.2 a))=c:=by
 obtain⟨nt,l⟩:=c;simp only at f g |-;have h:=Y5 strOf (l:=l) a f g (λs _=>rfl)
 cases nt with
 | true=>
  have i:zJ [(zX,zK l a)] [zX]=true:=by kernel_rfl
  have j:zf [(zX,zK l a)] zX=some (zK l a):=by kernel_rfl
  simp only[if_true,chS];rw[if_pos i,j,h]
 | false=>
  simp only[Bool.false_eq_true,if_false]
  have d:∀ms,zK l a ≠ .obj ms:=by
   intro ms;unfold zK
   split<;>(intro e;cases e)
  have k:chS (some (zK l a))=(false,qg strOf (some (zK l a))):=by
   cases hv:zK l a with
   | obj ms=>exact absurd hv (d ms)
   | str s=>rfl
   | word b=>rfl
   | list m=>rfl
  rw[k,h]
def QA(r:zi):zW:=
 match zm r.iff 8 with
 | 1=>⟨jm,keyOf r,[],r.no⟩
 | 6=>⟨XM,keyOf r,[patterns.getD (zm r.val 14) ⟨#[]⟩,⟨#[120]⟩],r.no⟩
 | 2=>⟨Z4,keyOf r,[words.getD (zm r.val 14) ⟨#[]⟩],r.no⟩
 | 3=>⟨uQ,keyOf r,[nums.getD (zm r.val 4) ⟨#[]⟩],r.no⟩
 | 4=>⟨vR,keyOf r,[Zk.getD (zm r.val 3) ⟨#[]⟩],r.no⟩
 | _=>Zb
def XY(r:zi):Bool:=decide ((qY r).size≠0)
def stK(r:zi):zA:=⟨kQ r,(decide (zm r.nt 16=2),qp r.who),(decide (zm r.nt 16=3),qp r.act),(decide (zm r.nt 16=1),qp r.on),if XY r then [QA r] else []⟩
def VB(l:List zi):List zi:=if l.length=0 then [qU] else l.take 4
def kJ(l:List zi):List zA:=(VB l).map stK
structure Jt (c:zW):Prop where
 op:∃k,k<5/\c.op=opN k
 key:zI c.key=true
 some:0<c.vals.length->zS c.op (some (.list (c.vals.map .str)))=0/\qG c.op (some (.list (c.vals.map .str)))=c.vals
 none:c.vals.length=0->zS c.op none=0/\qG c.op none=[]
theorem Ma:∀k,k<5->ko (some (.str (opN k)))=some k:=by decide +kernel
theorem lT{k:Nat}(h:k<5):ko (some (.str (opN k)))=some k:=Ma k h
theorem dP{ms:List (BA×V)}{c:zW}(b:Jt c)(x:Option V)(i:zS c.op x=0/\qG c.op x=c.vals)(d:zJ ms [bOp,zo,zt,bNo]=true)(e:zf ms bOp=some (.str c.op))(f:zf ms zo=some (.str c.key))(g:zf ms zt=x)(j:zf ms bNo=if c.no then some (.word true) else none):yN (.obj ms)=c/\condC (.obj ms)=0:=by
 obtain⟨k,h,a⟩:=b.op
 have m:qh zI (some (.str c.key))=c.key:=by
  show (if zI c.key then c.key else ⟨#[]⟩)=c.key
  rw[b.key];rfl
 have l:zL zI (some (.str c.key))=0:=Zf b.key
 have hb:uz (zf ms bNo)=c.no/\yF (zf ms bNo)=false:=by
  rw[j]
  cases c.no<;>exact⟨rfl,rfl⟩
 constructor
 ·unfold yN;simp only;rw[if_pos d,e,a,lT h];simp only;rw[f,g,m,hb.1,<- a,i.2]
 ·rw[JM,if_pos d,e,a,lT h];simp only;rw[f,g,hb.2,<- a,i.1,l]
  rfl
def Ju(c:Bool×List BA):Prop:=1<=c.2.length/\c.2.length<=10/\∀p ∈ c.2,qX p=true
structure aZ (s:zA):Prop where
 eff:xz s.eff=true
 who:Ju s.who
 act:Ju s.act
 on:Ju s.on
 few:s.ifs.length<=5
 ifs:∀c ∈ s.ifs,Jt c
theorem oH{ms:List (BA×V)}{s:zA}(i:aZ s)(w a o:V)(x:Option V)(k:chS (some w)=s.who/\chC (some w)=0)(h:chS (some a)=s.act/\chC (some a)=0)(j:chS (some o)=s.on/\chC (some o)=0)(l:Qb x=s.ifs/\yA x=0)
  (b:zJ ms [zO,zQ,bDo,bOn,bIf]=true)(c:zf ms zO=some (.str s.eff))(d:zf ms zQ=some w)(e:zf ms bDo=some a)(f:zf ms bOn=some o)(g:zf ms bIf=x):xu (.obj ms)=s/\qM (.obj ms)=0:=by
 have m:qh xz (some (.str s.eff))=s.eff:=by
  show (if xz s.eff then s.eff else ⟨#[]⟩)=s.eff
  rw[i.eff];rfl
 constructor
 ·unfold xu;simp only;rw[if_pos b,c,d,e,f,g,m,k.1,h.1,j.1,l.1]
 ·unfold qM;simp only;rw[if_pos b,c,d,e,f,g,Zf i.eff,k.2,h.2,j.2,l.2]
  rfl
theorem Ux(nt:Bool)(raw:List Int):Ju (nt,qp raw):=⟨(Z8 raw).1,by have:=(Z8 raw).2;simp only;omega,λp a=>Vs p (YL a)⟩
theorem Ih{l:List BA}(b:1<=l.length)(c:l.length<=10)(h:∀s ∈ l,qX s=true)(a:Int):zS XM (some (zK l a))=0/\qG XM (some (zK l a))=l:=by
 unfold zS qG;rw[if_pos (by kernel_rfl),if_pos (by kernel_rfl)];exact⟨Qm a b c (λs d=>Vr (h s d)),Y5 strOf a b c (λs _=>rfl)⟩
theorem KY{f:BA->Bool}{s:BA}(h:f s=true):qh f (some (.str s))=s:=by
 show (if f s then s else ⟨#[]⟩)=s
 rw[h];rfl
theorem Ii{l:List BA}(c:1<=l.length)(d:l.length<=10)(h:∀s ∈ l,short s=true)(a:Int):zS Z4 (some (zK l a))=0/\qG Z4 (some (zK l a))=l:=by
 unfold zS qG;rw[show qE Z4=false by kernel_rfl,show xL Z4=true by kernel_rfl];exact⟨Qm a c d (λs b=>Zf (h s b)),Y5 _ a c d (λs b=>KY (h s b))⟩
theorem Ig{l:List BA}(c:1<=l.length)(d:l.length<=10)(h:∀s ∈ l,qF s=true)(a:Int):zS uQ (some (zK l a))=0/\qG uQ (some (zK l a))=l:=by
 unfold zS qG;rw[show qE uQ=false by kernel_rfl,show xL uQ=false by kernel_rfl,show yD uQ=true by kernel_rfl];exact⟨Qm a c d (λs b=>Zf (h s b)),Y5 _ a c d (λs b=>KY (h s b))⟩
theorem Ij{l:List BA}(c:1<=l.length)(d:l.length<=10)(h:∀s ∈ l,filled s=true)(a:Int):zS vR (some (zK l a))=0/\qG vR (some (zK l a))=l:=by
 unfold zS qG;rw[show qE vR=false by kernel_rfl,show xL vR=false by kernel_rfl,show yD vR=false by kernel_rfl,show uy vR=true by kernel_rfl];exact⟨Qm a c d (λs b=>Zf (h s b)),Y5 _ a c d (λs b=>KY (h s b))⟩
theorem iA:zS jm none=0/\qG jm none=[]:=⟨by kernel_rfl,by kernel_rfl⟩
theorem DW{op key:BA}{l:List BA}{no:Bool}(c:∃k,k<5/\op=opN k)(b:zI key=true)(e:1<=l.length)(h:∀a,zS op (some (zK l a))=0/\qG op (some (zK l a))=l):Jt ⟨op,key,l,no⟩:=
 ⟨c,b,λ_=>by have:=h 0;rw[Hy] at this;exact this,λd=>by simp only at d;omega⟩
theorem dM(r:zi)(h:XY r=true):jY r = .obj ([(zo,.str (keyOf r)),(bOp,.str jm)]++jy r)/\QA r=⟨jm,keyOf r,[],r.no⟩
  \/ ∃op l,jY r=Z9 r op l/\QA r=⟨op,keyOf r,l,r.no⟩/\(∃k,k<5/\op=opN k)/\1<=l.length/\l.length<=2/\(∀s ∈ l,Pl s/\s.size<=8)/\∀b,zS op (some (zK l b))=0/\qG op (some (zK l b))=l:=by
 have h:=of_decide_eq_true h;unfold qY at h;unfold jY QA
 revert h
 generalize zm r.iff 8=j;intro h
 split
 ·exact .inl ⟨rfl,rfl⟩
 ·refine .inr ⟨XM,_,rfl,rfl,⟨0,by decide,rfl⟩,by simp,by simp,?_,Ih (by simp) (by simp) ?_⟩
  ·intro s a
   rcases List.mem_cons.1 a with rfl|a
   ·have:=ve (l:=patterns) (qR r.val 14 (by decide))
    exact⟨Vt _ this,Vu _ this⟩
   ·rw[List.mem_singleton] at a;subst a;exact⟨QO _ rfl,by decide⟩
  ·intro s a
   rcases List.mem_cons.1 a with rfl|a
   ·exact Vs _ (ve (qR r.val 14 (by decide)))
   ·rw[List.mem_singleton] at a;subst a;kernel_rfl
 ·have:=ve (l:=words) (qR r.val 14 (by decide))
  exact .inr ⟨Z4,_,rfl,rfl,⟨1,by decide,rfl⟩,by simp,by simp,λs a=>by rw[List.mem_singleton] at a;subst a;exact⟨pR _ this,VU _ this⟩,Ii (by simp) (by simp) (λs a=>by rw[List.mem_singleton] at a;subst a;exact VT _ this)⟩
 ·have:=ve (l:=nums) (qR r.val 4 (by decide))
  exact .inr ⟨uQ,_,rfl,rfl,⟨2,by decide,rfl⟩,by simp,by simp,λs a=>by rw[List.mem_singleton] at a;subst a;exact⟨lw _ this,Ku _ this⟩,Ig (by simp) (by simp) (λs a=>by rw[List.mem_singleton] at a;subst a;exact lu _ this)⟩
 ·have:=ve (l:=Zk) (qR r.val 3 (by decide))
  exact .inr ⟨vR,_,rfl,rfl,⟨3,by decide,rfl⟩,by simp,by simp,λs a=>by rw[List.mem_singleton] at a;subst a;exact⟨pu _ this,aO _ this⟩,Ij (by simp) (by simp) (λs a=>by rw[List.mem_singleton] at a;subst a;exact pq _ this)⟩
 ·rename_i c d e f g;exfalso;apply h
  split
  all_goals first|rfl|(exfalso;first|exact c rfl|exact d rfl|exact e rfl|exact f rfl|exact g rfl)
theorem gM(r:zi):zI (keyOf r)=true:=Ke _ (Vb r)
theorem dN(r:zi)(h:XY r=true):Jt (QA r):=by
 rcases dM r h with ⟨_,e⟩|⟨op,l,_,e,ho,h0,_,_,hl⟩
 ·rw[e];exact⟨⟨4,by decide,rfl⟩,gM r,λh=>by simp at h,λ_=>iA⟩
 ·rw[e];exact DW ho (gM r) h0 hl
theorem Au(r:zi)(h:XY r=true):yN (jY r)=QA r/\condC (jY r)=0:=by
 have a:=dN r h
 rcases dM r h with ⟨e,e2⟩|⟨op,l,e,e2,_,h0,_,_,hl⟩
 ·rw[e2] at a |-;rw[e];unfold jy;refine dP a none iA ?_ ?_ ?_ ?_ ?_
  all_goals (cases r.no<;>kernel_rfl)
 ·rw[e2] at a |-;rw[e];unfold Z9 jy;refine dP a (some (zK l r.style)) (hl _) ?_ ?_ ?_ ?_ ?_
  all_goals (cases r.no<;>kernel_rfl)
theorem Cg(r:zi):xz (kQ r)=true:=by unfold kQ;cases r.deny<;>kernel_rfl
theorem Pt(r:zi):aZ (stK r):=by
 refine⟨Cg r,Ux _ _,Ux _ _,Ux _ _,?_,?_⟩
 ·unfold stK;simp only;split<;>simp
 ·intro c a;unfold stK at a;simp only at a
  split at a
  ·rename_i h;rw[List.mem_singleton] at a;subst a;exact dN r h
  ·simp at a
theorem Us(raw:List Int)(nt:Bool)(a:Int):chS (some (y9 raw nt a))=(nt,qp raw)/\chC (some (y9 raw nt a))=0:=by
 refine⟨?_,JJ raw nt a⟩
 have:=wM (c:=(nt,qp raw)) a (Z8 raw).1 (by have:=(Z8 raw).2;simp only;omega)
 exact this
theorem oI(r:zi):xu (ZL r)=stK r:=by
 have c:=Pt r;have c1:=Us r.who (decide (zm r.nt 16=2)) r.style;have c2:=Us r.act (decide (zm r.nt 16=3)) r.style;have c3:=Us r.on (decide (zm r.nt 16=1)) r.style;unfold ZL Xn
 by_cases hz:(qY r).size=0
 ·rw[if_pos hz];have a:XY r=false:=decide_eq_false (λh=>h hz);have hi:(stK r).ifs=[]:=by unfold stK;simp only;rw[a];rfl
  exact (oH c _ _ _ none c1 c2 c3 ⟨by rw[hi];rfl,rfl⟩ (by kernel_rfl) (by kernel_rfl) (by kernel_rfl) (by kernel_rfl) (by kernel_rfl) (by kernel_rfl)).1
 ·rw[if_neg hz];have a:XY r=true:=decide_eq_true hz;have hi:(stK r).ifs=[QA r]:=by unfold stK;simp only;rw[a];rfl
  have b:=Au r a;refine (oH c _ _ _ (some (.list [jY r])) c1 c2 c3 ⟨?_,?_⟩ (by kernel_rfl) (by kernel_rfl) (by kernel_rfl) (by kernel_rfl) (by kernel_rfl) (by kernel_rfl)).1
  ·rw[hi];show [yN (jY r)]=[QA r];rw[b.1]
  ·show zR [condC (jY r)]=0;rw[b.2];rfl
theorem aM(l:List zi):yI (qi l)=kJ l:=by
 unfold yI;have b:=lY l;have a:=KL l;unfold bl at a;rw[if_neg (by omega),a];simp only
 have:stX (XR l)=some (.list (uD l)):=by unfold XR stX;kernel_rfl
 rw[this];show (uD l).map xu=kJ l;unfold uD kJ VB
 split
 ·simp only[List.map_cons,List.map_nil,oI]
 ·rw[List.map_map];exact List.map_congr_left λr _=>oI r
theorem BG{l:List zi}{s:zA}(h:s ∈ kJ l):∃r ∈ VB l,stK r=s:=List.mem_map.1 h
end Kp
theorem iw(w:World)(cs:Array Value)(t:TypeId):∀(j:Nat) (u:Value),cs.toList[j]?=some u->(w.alloc (.cells cs t)).cell? ((⟨w.heap.size,0,none⟩:Addr).add j)=some u:=by
 intro j u a;have h:=(za (heap_alloc_new w (.cells cs t)) j).1;rw[addr_add];simp only[Nat.zero_add];rw[h]
 simpa using a
def Jw(w:World)(outs:List BA)(e:Ending)(b:World):Prop:=∃a,e = .returned a/\zF b w.heap.size a outs/\Below w.heap.size w b
theorem Rq:(prog.info? 9).map (λi=>(i.zero,i.size,i.bytes))=some (some (.string ⟨#[]⟩),1,16):=by kernel_rfl
theorem Rw{w:World}{B:Nat}{a:Value}{l:List BA}{s:BA}(h:w.ownsRow B 9 1 a (l.length+1) (l.map Value.string++[.string s])):zF w B a (l++[s]):=by
 unfold zF;rw[List.map_append,List.length_append];exact h
end Go.Proofs.YtdakgnaojakldaaGreatDoor
namespace Go.Proofs.YtdakgnaojakldaaGreatDoor
open Go.Shelf
def Tryz.lays156_ren:Go.Shelf.Ren:=⟨λ|156=>113|165=>167|166=>168|169=>169|240=>209|241=>210|276=>234|277=>235|n=>n,λ|31=>42|9=>9|3=>3|4=>4|0=>0|20=>20|72=>299|76=>301|70=>297|37=>256|75=>74|127=>322|164=>218|5=>5|80=>81|n=>n,λ|n=>n⟩
end Go.Proofs.YtdakgnaojakldaaGreatDoor
namespace Go.Proofs.YtdakgnaojakldaaGreatDoor
open Go.RowKit
theorem Tryz.bx:Builder.Extra prog Tryz.lays156_ren:={
 sizeBuilder:=by kernel_rfl
 liesBuilder:=by kernel_rfl
 t5:=underlying5
 a5:=Tryz.isAgg5
 z5:=Tryz.sizeOf5
 v5:=Tryz.zeroValue5
 infoByte:=by kernel_rfl
 cellsByte:=by kernel_rfl
 sizeByte:=by kernel_rfl
 neB5:=by decide }
def rC(c:zW):Prop:=c.op.size<=12000/\c.key.size<=12000/\Ref.ZX c.vals
structure V5 (s:zA):Prop where
 eff:s.eff.size<=12000
 who:Ref.ZX s.who.2
 act:Ref.ZX s.act.2
 on:Ref.ZX s.on.2
 len:s.ifs.length<=5
 cs:∀c ∈ s.ifs,rC c
theorem oN{L:Nat}:∀(a:List Rd.V) (l:List BA),(∀v ∈ a,Rd.Good L v)->Rd.yV a=some l->l.length=a.length/\∀s ∈ l,s.size<=L
 | [],l,_,h=>by simp only[Rd.yV,Option.some.injEq] at h;subst h;simp
 | v::a,l,hg,h=>by
  cases v with
  | str s=>
   simp only[Rd.yV] at h
   cases hr:Rd.yV a with
   | none=>rw[hr] at h;simp at h
   | some r=>
    rw[hr] at h;simp only[Option.map_some,Option.some.injEq] at h;subst h;obtain⟨d,e⟩:=oN a r (λv f=>hg v (by simp[f])) hr;refine⟨by simp[d],λt c=>?_⟩
    rcases List.mem_cons.1 c with rfl|c
    ·have:=hg (.str t) (by simp)
     cases this with
     | str _ h=>exact h
    ·exact e t c
  | word b=>simp[Rd.yV] at h
  | list l=>simp[Rd.yV] at h
  | obj l=>simp[Rd.yV] at h
theorem Xx{L:Nat}(i:L<=12000)(x:Option Rd.V)(e:∀v,x=some v->Rd.Good L v):Ref.ZX ((Rd.zu x).getD [])/\((Rd.zu x).isSome=true->0<((Rd.zu x).getD []).length):=by
 match x with
 | none=>exact⟨⟨by simp[Rd.zu],by simp[Rd.zu]⟩,λh=>by simp[Rd.zu] at h⟩
 | some (.word b)=>exact⟨⟨by simp[Rd.zu],by simp[Rd.zu]⟩,λh=>by simp[Rd.zu] at h⟩
 | some (.obj ms)=>exact⟨⟨by simp[Rd.zu],by simp[Rd.zu]⟩,λh=>by simp[Rd.zu] at h⟩
 | some (.str s)=>
  have:=e _ rfl
  cases this with
  | str _ h=>exact⟨⟨by simp[Rd.zu],by simp[Rd.zu];omega⟩,λ_=>by simp[Rd.zu]⟩
 | some (.list vs)=>
  have:=e _ rfl
  cases this with
  | list _ g f=>
   simp only[Rd.zu]
   by_cases c:vs.length<1\/10<vs.length
   ·rw[if_pos c];exact⟨⟨by simp,by simp⟩,λh=>by simp at h⟩
   ·rw[if_neg c]
    cases d:Rd.yV vs with
    | none=>exact⟨⟨by simp,by simp⟩,λh=>by simp at h⟩
    | some l=>
     obtain⟨a,b⟩:=oN vs l f d;simp only[Option.getD_some];exact⟨⟨by omega,λs d=>by have:=b s d;omega⟩,λ_=>by omega⟩
theorem Uu{L:Nat}(a:L<=12000)(x:Option Rd.V)(d:∀v,x=some v->Rd.Good L v):Ref.ZX (Rd.chD (Rd.yM x)).2:=by
 unfold Rd.chD
 match x with
 | none=>exact (Xx a none (λv h=>by cases h)).1
 | some (.word b)=>exact (Xx a _ d).1
 | some (.str s)=>exact (Xx a _ d).1
 | some (.list vs)=>exact (Xx a _ d).1
 | some (.obj ms)=>
  simp only[Rd.yM]
  by_cases c:Rd.zJ ms [Ref.zX]=true/\ms.length=1
  ·rw[if_pos c];refine (Xx a _ (λv g=>?_)).1
   have:=d _ rfl
   cases this with
   | obj _ i j k f=>
    have e:=List.mem_of_getElem? g;rw[List.mem_map] at e;obtain⟨m,e,rfl⟩:=e;exact f m e
  ·rw[if_neg c];exact⟨by simp,by simp⟩
theorem KG{L:Nat}{x:Option Rd.V}(a:∀v,x=some v->Rd.Good L v){s:BA}(h:Rd.opV x=some s):s.size<=L:=by
 unfold Rd.opV at h
 split at h
 ·injection h with h
  subst h
  have:=a _ rfl
  cases this with
  | str _ h=>exact h
 ·cases h
theorem Az{L:Nat}(g:L<=12000)(v:Rd.V)(c:Rd.Good L v):Ref.Jz (Rd.qB v):=by
 have a:Ref.Jz Ref.yG:=⟨Nat.zero_le _,Nat.zero_le _,Nat.zero_le _,λs d=>by simp[Ref.yG] at d⟩
 match v,c with
 | .str s,_=>exact a
 | .word b,_=>exact a
 | .list l,_=>exact a
 | .obj ms,c=>
  simp only[Rd.qB,Rd.QB]
  split
  ·rename_i op key e f;have i:=KG (Rd.xk c Ref.bOp) e;have j:=KG (Rd.xk c Ref.zo) f
   split
   ·exact⟨by simp only;omega,by simp only;omega,Nat.zero_le _,λs d=>by simp at d⟩
   ·obtain⟨h,_⟩:=Xx g _ (Rd.xk c Ref.zt);exact⟨by simp only;omega,by simp only;omega,h.1,h.2⟩
  ·exact a
theorem Rb{L:Nat}(g:L<=12000)(v:Rd.V)(e:Rd.Good L v):Ref.XL (Rd.xw v):=by
 have d:Ref.XL Rd.vz:=⟨Nat.zero_le _,⟨Nat.zero_le _,λs f=>by simp[Rd.vz] at f⟩,⟨Nat.zero_le _,λs f=>by simp[Rd.vz] at f⟩,⟨Nat.zero_le _,λs f=>by simp[Rd.vz] at f⟩,Nat.zero_le _,λc a=>by simp[Rd.vz] at a⟩
 match v,e with
 | .str s,_=>exact d
 | .word b,_=>exact d
 | .list l,_=>exact d
 | .obj ms,e=>
  simp only[Rd.xw,Rd.Yp]
  split
  ·rename_i eff n k;have o:=KG (Rd.xk e Rd.zO) k
   have a:(Rd.qH (Rd.zf ms Rd.bIf)).cs.length<=5/\∀c ∈ (Rd.qH (Rd.zf ms Rd.bIf)).cs,Ref.Jz c:=by
    have h:=Rd.xk e Rd.bIf
    match i:Rd.zf ms Rd.bIf with
    | none=>exact⟨Nat.zero_le _,λc a=>by simp[Rd.qH] at a⟩
    | some (.str s)=>exact⟨Nat.zero_le _,λc a=>by simp[Rd.qH] at a⟩
    | some (.word b)=>exact⟨Nat.zero_le _,λc a=>by simp[Rd.qH] at a⟩
    | some (.obj ms)=>exact⟨Nat.zero_le _,λc a=>by simp[Rd.qH] at a⟩
    | some (.list vs)=>
     have:=h _ i
     cases this with
     | list _ m j=>
      simp only[Rd.qH]
      split
      ·exact⟨Nat.zero_le _,λc a=>by simp at a⟩
      ·refine⟨by simp;omega,λc a=>?_⟩;simp only[List.mem_map] at a;obtain⟨x,i,rfl⟩:=a;exact Az g x (j x i)
   exact⟨by simp only[Rd.X7];omega,Uu g _ (Rd.xk e Rd.zQ),Uu g _ (Rd.xk e Rd.bDo),Uu g _ (Rd.xk e Rd.bOn),a.1,a.2⟩
  ·exact d
theorem Av(v:Rd.V)(h:Rd.condC v≠1){L:Nat}(i:L<=12000)(f:Rd.Good L v):Ref.qZ (Rd.qB v).op=decide ((Rd.qB v).vals.length=0):=by
 have g:=Rd.dK v
 have a:(Rd.qB v).sh=false:=by
  cases e:(Rd.qB v).sh with
  | false=>rfl
  | true=>rw[e] at g;exact absurd g h
 match v,f with
 | .str s,_=>exact absurd a (by simp[Rd.qB,Ref.yG])
 | .word b,_=>exact absurd a (by simp[Rd.qB,Ref.yG])
 | .list l,_=>exact absurd a (by simp[Rd.qB,Ref.yG])
 | .obj ms,f=>
  obtain⟨R,c⟩:=Nm (Rd.qB (.obj ms));rw[c] at a |-;simp only[Rd.qB,Rd.QB] at c
  cases h1:Rd.opV (Rd.zf ms Ref.bOp) with
  | none=>rw[h1] at c;subst c;simp[Ref.yG] at a
  | some op=>
   rw[h1] at c
   cases h2:Rd.opV (Rd.zf ms Ref.zo) with
   | none=>rw[h2] at c;subst c;simp[Ref.yG] at a
   | some key=>
    rw[h2] at c;simp only at c
    by_cases ca:Ref.qZ op=true
    ·rw[if_pos ca] at c;subst c;simp[ca]
    ·rw[if_neg ca] at c;subst c;simp only[Bool.or_eq_false_iff,Bool.not_eq_false'] at a
     have:=(Xx i _ (Rd.xk f Ref.zt)).2 a.1.1.2.1
     have d:Ref.qZ op=false:=by simpa using ca
     simp only[d];symm;simp only[decide_eq_false_iff_not];omega
theorem PZ(v:Rd.V)(h:Rd.qM v≠1/\Rd.qM v≠2){L:Nat}(m:L<=12000)(f:Rd.Good L v):Yy (Rd.xw v):=by
 match v,f with
 | .str s,_=>exact absurd rfl h.1
 | .word b,_=>exact absurd rfl h.1
 | .list l,_=>exact absurd rfl h.1
 | .obj ms,f=>
  simp only[Rd.qM] at h;simp only[Rd.xw,Rd.Yp]
  split
  ·rename_i eff k p;rw[k] at h;simp only[if_true] at h
   have n:Rd.zR [Rd.zL Rd.xz (Rd.zf ms Rd.zO),Rd.chC (Rd.zf ms Rd.zQ),Rd.chC (Rd.zf ms Rd.bDo),Rd.chC (Rd.zf ms Rd.bOn),Rd.yA (Rd.zf ms Rd.bIf)]=0:=by
    have:=Rd.XW [Rd.zL Rd.xz (Rd.zf ms Rd.zO),Rd.chC (Rd.zf ms Rd.zQ),Rd.chC (Rd.zf ms Rd.bDo),Rd.chC (Rd.zf ms Rd.bOn),Rd.yA (Rd.zf ms Rd.bIf)]
    omega
   have e:=(YX n) (Rd.yA (Rd.zf ms Rd.bIf)) (by simp);have g:=Rd.xk f Rd.bIf;intro c a;simp only[Rd.X7] at a
   match hx:Rd.zf ms Rd.bIf with
   | none=>rw[hx] at a;simp[Rd.qH] at a
   | some (.str s)=>rw[hx] at a;simp[Rd.qH] at a
   | some (.word b)=>rw[hx] at a;simp[Rd.qH] at a
   | some (.obj ms)=>rw[hx] at a;simp[Rd.qH] at a
   | some (.list vs)=>
    rw[hx] at a e
    have:=g _ hx
    cases this with
    | list _ o j=>
     simp only[Rd.qH,Rd.yA] at a e
     by_cases c5:5<vs.length
     ·rw[if_pos c5] at a;simp at a
     ·rw[if_neg c5] at a e
      have i:Rd.zR (vs.map Rd.condC)=0:=by
       have:=Rd.XW (vs.map Rd.condC)
       omega
      simp only[List.mem_map] at a;obtain⟨x,d,rfl⟩:=a;exact Av x ((YX i) _ (List.mem_map.2 ⟨x,d,rfl⟩)).1 m (j x d)
  ·intro c a;simp[Rd.vz] at a
def vI(s:BA):List Rd.qA:=if 4000<s.size then [] else match Rd.xO s.data.toList with
 | .ok v _=>(qb (stX v)).map Rd.xw
 | .err _ _=>[]
theorem UO:∀(rs:List Rd.qA) (i:Nat),(Rd.Qd rs i).1=0->∀r ∈ rs,r.sh=false/\r.pt=false
 | [],_,_,r,hr=>by simp at hr
 | x::xs,i,h,r,hr=>by
  unfold Rd.Qd at h
  split at h
  ·simp at h
  rename_i a
  split at h
  ·simp at h
  rename_i b
  rcases List.mem_cons.1 hr with rfl|hr
  ·exact⟨by simpa using a,by simpa using b⟩
  ·exact UO xs (i+1) h r hr
theorem oJ(s:BA)(h:(Rd.xW s).1=0):(∀r ∈ vI s,Yy r/\Ref.XL r)/\(vI s).length<=10/\(if 4000<s.size then [] else match Rd.xO s.data.toList with
 | .ok v _=>(qb (stX v)).map xu
 | .err _ _=>[])=(vI s).map jF:=by
 unfold Rd.xW at h;unfold vI
 by_cases h1:4000<s.size
 ·rw[if_pos h1] at h;simp at h
 rw[if_neg h1] at h;rw[if_neg h1,if_neg h1]
 cases hm:Rd.xO s.data.toList with
 | err e q=>
  rw[hm] at h
  have:=Rd.nE hm
  unfold Rd.Code at this;simp only at h;omega
 | ok v q=>
  rw[hm] at h;simp only at h |-;have j:=Rd.Jg hm;have m:s.data.toList.length<=12000:=by rw[Ref.zy];omega
  match v,j with
  | .str t,_=>simp[Rd.ut] at h
  | .word b,_=>simp[Rd.ut] at h
  | .list l,_=>simp[Rd.ut] at h
  | .obj ms,j=>
   simp only[Rd.ut] at h
   match hx:Rd.zf ms Rd.y8 with
   | none=>rw[hx] at h;simp at h
   | some (.str t)=>rw[hx] at h;simp at h
   | some (.word b)=>rw[hx] at h;simp at h
   | some (.obj ms)=>rw[hx] at h;simp at h
   | some (.list i)=>
    rw[hx] at h;simp only at h;have d:qb (stX (.obj ms))=i:=by simp[qb,stX,hx]
    rw[d]
    by_cases c:ms.length≠1\/i.length<1\/10<i.length
    ·rw[if_pos c] at h;simp at h
    rw[if_neg c] at h;have k:=Rd.xk j Rd.y8 _ hx
    have f:∀v ∈ i,Rd.Good s.data.toList.length v:=by
     cases k with
     | list _ p o=>exact o
    have g:∀v ∈ i,Rd.qM v≠1/\Rd.qM v≠2:=by
     intro v d;obtain⟨a,b⟩:=UO _ _ h (Rd.xw v) (List.mem_map.2 ⟨v,d,rfl⟩);rw[Rd.ow v (f v d),a,b]
     decide
    refine⟨λr n=>?_,by rw[List.length_map];omega,?_⟩
    ·rw[List.mem_map] at n;obtain⟨v,d,rfl⟩:=n;exact⟨PZ v (g v d) m (f v d),Rb m v (f v d)⟩
    ·rw[List.map_map];exact List.map_congr_left λv d=>PX v (f v d) (g v d)
theorem Pm{r:Rd.qA}(h:Ref.XL r):V5 (jF r):=
 ⟨h.eff,h.who,h.act,h.on,by show (r.cs.map toS).length<=5;rw[List.length_map];exact h.len,λc e=>by
  rw[show (jF r).ifs=r.cs.map toS from rfl,List.mem_map] at e
  obtain⟨x,f,rfl⟩:=e;obtain⟨a,b,d⟩:=h.cs x f;exact⟨a,b,d⟩⟩
theorem UK{EL:Value}{T:TypeId}{y:Value}(a:EL = .iface T y){c:Int}{q:Nat}{u:Value}(h:uM EL c q u):(c=0/\u = .nilIface)\/(c≠0/\∃T y,u = .iface T y):=by
 cases h with
 | ok=>exact .inl ⟨rfl,rfl⟩
 | long=>exact .inr ⟨by decide,T,y,a⟩
 | text c q b=>
  refine .inr ⟨by unfold Rd.Code at b;omega,?_⟩;unfold uu
  split
  ·exact⟨_,_,rfl⟩
  ·split
   ·exact⟨_,_,rfl⟩
   ·exact⟨_,_,rfl⟩
 | doc p=>exact .inr ⟨by decide,_,_,rfl⟩
 | shape n p=>exact .inr ⟨by decide,_,_,rfl⟩
 | pat n k=>exact .inr ⟨by decide,_,_,rfl⟩
namespace Kp
open Rd Ref
end Kp
end Go.Proofs.YtdakgnaojakldaaGreatDoor
namespace Go.Proofs.YtdakgnaojakldaaGreatDoor
open Go.Shelf
def Tryz.lays106_ren:Go.Shelf.Ren:=⟨λ|106=>136|213=>186|265=>224|n=>n,λ|9=>9|3=>3|n=>n,λ|n=>n⟩
theorem Tryz.lays106:Go.Proofs.Lays.n106 prog Tryz.lays106_ren:={
 mixed:=by kernel_rfl
 f106:=func136.trans (congrArg some (by kernel_rfl))
 f213:=func186.trans (congrArg some (by kernel_rfl))
 f265:=func224.trans (congrArg some (by kernel_rfl))
 t3:=underlying3
 a3:=Tryz.isAgg3
 z3:=Tryz.sizeOf3
 v3:=Tryz.zeroValue3
 t9:=underlying9
 a9:=Tryz.isAgg9
 z9:=Tryz.sizeOf9
 v9:=Tryz.zeroValue9 }
def Tryz.laysPu25_ren:Go.Shelf.Ren:=⟨λ|25=>137|n=>n,λ|9=>9|3=>3|4=>4|37=>256|0=>0|47=>322|5=>5|n=>n,λ|n=>n⟩
theorem Tryz.laysPu25:Go.Proofs.LaysPu.n25 prog Tryz.laysPu25_ren:={
 mixed:=by kernel_rfl
 f25:=func137.trans (congrArg some (by kernel_rfl))
 t0:=underlying0
 a0:=Tryz.isAgg0
 z0:=Tryz.sizeOf0
 v0:=Tryz.zeroValue0
 i0:=by kernel_rfl
 t3:=underlying3
 a3:=Tryz.isAgg3
 z3:=Tryz.sizeOf3
 v3:=Tryz.zeroValue3
 i3:=by kernel_rfl
 t4:=underlying4
 a4:=Tryz.isAgg4
 z4:=Tryz.sizeOf4
 v4:=Tryz.zeroValue4
 i4:=by kernel_rfl
 t5:=underlying5
 a5:=Tryz.isAgg5
 z5:=Tryz.sizeOf5
 v5:=Tryz.zeroValue5
 i5:=by kernel_rfl
 t9:=underlying9
 a9:=Tryz.isAgg9
 z9:=Tryz.sizeOf9
 v9:=Tryz.zeroValue9
 i9:=by kernel_rfl
 t37:=underlying256
 a37:=Tryz.isAgg256
 z37:=Tryz.sizeOf256
 v37:=Tryz.zeroValue256
 i37:=by kernel_rfl
 t47:=underlying322
 a47:=Tryz.isAgg322
 z47:=Tryz.sizeOf322
 v47:=Tryz.zeroValue322
 i47:=by kernel_rfl }
def Tryz.lays8grow_ren:Go.Shelf.Ren:=⟨λ|4=>138|n=>n,λ|22=>98|25=>187|3=>3|4=>4|9=>9|20=>20|0=>0|n=>n,λ|n=>n⟩
theorem Tryz.lays8grow:Go.Proofs.Lays8.n4 prog Tryz.lays8grow_ren:={
 mixed:=by kernel_rfl
 f4:=⟨Tryz.f138.name,by decide,func138.trans (congrArg some (by kernel_rfl))⟩
 t0:=underlying0
 a0:=Tryz.isAgg0
 z0:=Tryz.sizeOf0
 v0:=Tryz.zeroValue0
 t3:=underlying3
 a3:=Tryz.isAgg3
 z3:=Tryz.sizeOf3
 v3:=Tryz.zeroValue3
 t4:=underlying4
 a4:=Tryz.isAgg4
 z4:=Tryz.sizeOf4
 v4:=Tryz.zeroValue4
 t9:=underlying9
 a9:=Tryz.isAgg9
 z9:=Tryz.sizeOf9
 v9:=Tryz.zeroValue9
 t20:=underlying20
 a20:=Tryz.isAgg20
 z20:=Tryz.sizeOf20
 v20:=Tryz.zeroValue20
 t22:=underlying98
 a22:=Tryz.isAgg98
 z22:=Tryz.sizeOf98
 v22:=Tryz.zeroValue98 }
end Go.Proofs.YtdakgnaojakldaaGreatDoor
