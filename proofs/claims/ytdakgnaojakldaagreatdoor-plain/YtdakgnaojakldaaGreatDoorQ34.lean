/- P -/
import Derived.Test.YtdakgnaojakldaaGreatDoorQ31
import Derived.Test.YtdakgnaojakldaaGreatDoorQ33
set_option maxRecDepth 100000
namespace Go.Proofs.YtdakgnaojakldaaGreatDoor
open Go.RowKit
namespace Kp
open Rd Ref
theorem Dk(s:BA)(k:Nat)(h:k<(bl s).length):bl (s.extract k (k+1))=[(bl s)[k]]:=by
 have e:bl (s.extract k (k+1))=((bl s).drop k).take 1:=by
  unfold bl;rw[XB,YV,J8]
  simp
 rw[e,uS h]
 rfl
theorem PI{t:List UInt8}(h:Plain8 t):∀b ∈ t,32<=b.toNat/\b.toNat≠34/\b.toNat≠92:=by
 induction h with
 | nil=>intro b hb;simp at hb
 | one h _ a=>
  intro b hb
  rcases x8.1 hb with rfl|hb
  ·exact⟨h.1,h.2.2⟩
  ·exact a b hb
 | two _ a=>
  intro b hb
  rcases x8.1 hb with rfl|hb
  ·decide
  rcases x8.1 hb with rfl|hb
  ·decide
  ·exact a b hb
theorem PK{t:List UInt8}(h:Plain8 t):jQ t ⟨⟨t⟩⟩:=by
 have e:inner 0 t=t:=by
  unfold inner
  have:∀b:UInt8,bl (esc 0 b)=[b]:=λb=>by
   unfold esc;have a:∀d,bit 0 d=false:=λd=>by unfold bit;simp
   simp[a]
   rfl
  rw[show (λb=>bl (esc 0 b))=λb:UInt8=>[b] from funext this]
  exact List.flatMap_singleton' t
 have:=Ag 0 h
 rw[e] at this;exact this
theorem tC(s:BA)(h:∀b ∈ bl s,32<=b.toNat/\b.toNat≠34/\b.toNat≠92):∀k,k<=(bl s).length->bl (Ref.jG s k)=34::(bl s).take k
 | 0,_=>rfl
 | k+1,hk=>by
  have a:k<(bl s).length:=by omega
  have c:s.data.toList.getD k 0=(bl s)[k]:=by
   rw[zL];show ((bl s)[k]?).getD 0=_;rw[zl a]
   rfl
  obtain⟨d,e,f⟩:=h _ (qH a);rw[Ref.jG,c];unfold Ref.Jo;rw[za (by omega),za (by omega),za (by omega),za (by omega),qB,tC s h k (by omega),Dk s k a,QZ a]
  rfl
theorem tu{s:BA}(h:Pl s):bl (Ref.zQ s)=[34]++bl s++[34]:=by
 rw[Ref.zQ,qB,tC s (PI h) s.size (by rw[XN];omega),uW (by rw[XN];omega)]
 rfl
theorem VM{d:Nat}{s:BA}(h:Pl s):W d (bl (Ref.zQ s)) (.str s):=by
 rw[tu h];exact .str (PK h)
theorem oo:∀ts:List (List UInt8),yJ [44] ts=Lib.join ts [44]
 | []=>rfl
 | [t]=>(Lib.join_one t [44]).symm
 | t::u::ts=>by
  have a:=oo (u::ts);show t++[44]++yJ [44] (u::ts)=_;rw[a,Lib.join_cons,Lib.join_cons];simp[Lib.joinTail]
theorem oL(l:List BA):bl (xI l)=[91]++yJ [44] (l.map bl)++[93]:=by
 unfold xI jg;rw[qB,qB,oo];simp[bl]
 rfl
theorem df{d:Nat}(hd:d<=8)(xs:List (BA×V))(a:xs≠[])(h:∀x ∈ xs,W (d+1) (bl x.1) x.2):W d (bl (xI (xs.map Prod.fst))) (.list (xs.map Prod.snd)):=by
 have b:=KF (d:=d) (c:=[]) zP (xs.map λx=>(bl x.1,x.2)) (by simpa using a) (by
  intro x e;obtain⟨y,f,rfl⟩:=ql.1 e;exact h y f)
 have:=W.list hd zP b
 rw[oL];simp only[xD,List.append_nil,List.append_assoc] at this |-;exact this
theorem fM{d:Nat}(hd:d<=8)(l:List BA)(a:l≠[])(h:∀s ∈ l,Pl s):W d (bl (xI (l.map Ref.zQ))) (.list (l.map .str)):=by
 have:=df hd (l.map λs=>(Ref.zQ s,V.str s)) (by simpa using a) (by
  intro x c;obtain⟨s,b,rfl⟩:=ql.1 c;exact VM (h s b))
 simp only[xD] at this;exact this
def chV(c:Bool×List BA):V:=if c.1 then .obj [(qm,.list (c.2.map .str))] else .list (c.2.map .str)
theorem ai{d:Nat}(hd:d<=7)(c:Bool×List BA)(a:c.2≠[])(h:∀s ∈ c.2,Pl s):W d (bl (yS c)) (chV c):=by
 unfold yS chV
 cases c.1 with
 | false=>
  simp only[xz,qW];exact fM (by omega) _ a h
 | true=>
  simp only[qh];have f:=QH (n:=[110,111,116]) (e:=[]) (by decide) (fM (d:=d+1) (by omega) _ a h) zP;have b:=W.obj (d:=d) (by omega) zP f (by simp);rw[qB,qB];simp only[bl,yZ,List.nil_append] at b |-;exact b
def YJ(b:Bool):List (BA×V):=if b then [(bNo,.word true)] else []
def JW(l:List BA):List (BA×V):=if 0<l.length then [(zz,.list (l.map .str))] else []
def cdV(c:zU):V := .obj ([(bOp,.str c.op),(zx,.str c.key)]++JW c.vals++YJ c.no)
theorem oD{d:Nat}{n t:List UInt8}{v:V}(b:Bool)(a:Q8 n)(c:W (d+1) t v):WO d (34::(n++34::58::(t++(bl (if b then ⟨#[44,34,110,111,34,58,116,114,117,101]⟩ else ⟨#[]⟩)++[125])))) ((⟨⟨n⟩⟩,v)::YJ b):=by
 unfold YJ
 cases b with
 | false=>exact QH (e:=[]) a c zP
 | true=>
  have f:WO d (34::([110,111]++34::58::([116,114,117,101]++([]++[125])))) [(⟨⟨[110,111]⟩⟩,.word true)]:=QH (by decide) .yes zP;exact uH (e:=[]) (g:=[]) a c zP zP f
theorem lQ(c:zU):yx c=⟨#[123,34,111,112,34,58]⟩++Ref.zQ c.op++⟨#[44,34,107,101,121,34,58]⟩++Ref.zQ c.key++(if 0<c.vals.length then ⟨#[44,34,118,97,108,117,101,34,58]⟩++xI (c.vals.map Ref.zQ) else ⟨#[]⟩)++(if c.no then ⟨#[44,34,110,111,34,58,116,114,117,101]⟩ else ⟨#[]⟩)++⟨#[125]⟩:=by
 have b:∀a:BA,a++⟨#[]⟩=a:=λa=>by apply jk;simp[ByteArray.data_append]
 unfold yx
 cases c.no<;>by_cases hv:0<c.vals.length<;>simp only[hv,qh,qW,xz,b,ByteArray.append_assoc]
theorem Dr{d:Nat}(hd:d<=7)(c:zU)(f:Pl c.op)(a:Pl c.key)(h:∀s ∈ c.vals,Pl s):W d (bl (yx c)) (cdV c):=by
 have i:WO d (34::([107,101,121]++34::58::(bl (Ref.zQ c.key)++(bl (if 0<c.vals.length then ⟨#[44,34,118,97,108,117,101,34,58]⟩++xI (c.vals.map Ref.zQ) else ⟨#[]⟩)++(bl (if c.no then ⟨#[44,34,110,111,34,58,116,114,117,101]⟩ else ⟨#[]⟩)++[125]))))) ((zx,.str c.key)::(JW c.vals++YJ c.no)):=by
  unfold JW
  by_cases hv:0<c.vals.length
  ·rw[zb hv,zb hv,qB]
   have:=uH (n:=[107,101,121]) (e:=[]) (g:=[]) (by decide) (VM (d:=d+1) a) zP zP (oD (n:=[118,97,108,117,101]) c.no (by decide) (fM (d:=d+1) (by omega) c.vals (by intro e;rw[e] at hv;simp at hv) h))
   simp only[bl,yZ,List.nil_append] at this |-;exact this
  ·rw[za hv,za hv];exact oD (n:=[107,101,121]) c.no (by decide) (VM a)
 have k:=uH (n:=[111,112]) (e:=[]) (g:=[]) (by decide) (VM (d:=d+1) f) zP zP i
 have j:((([(bOp,V.str c.op),(zx,.str c.key)]++JW c.vals++YJ c.no)).map λm=>m.1.toList).Nodup:=by
  unfold JW YJ
  by_cases hv:0<c.vals.length
  ·rw[zb hv]
   cases c.no with
   | false=>exact (by kernel_rfl:decide ([bOp.toList,zx.toList,zz.toList].Nodup)=true) |> of_decide_eq_true
   | true=>exact (by kernel_rfl:decide ([bOp.toList,zx.toList,zz.toList,bNo.toList].Nodup)=true) |> of_decide_eq_true
  ·rw[za hv]
   cases c.no with
   | false=>exact (by kernel_rfl:decide ([bOp.toList,zx.toList].Nodup)=true) |> of_decide_eq_true
   | true=>exact (by kernel_rfl:decide ([bOp.toList,zx.toList,bNo.toList].Nodup)=true) |> of_decide_eq_true
 have b:=W.obj (d:=d) (by omega) zP k j;rw[lQ];simp only[qB];simp only[bl,List.append_assoc,yZ,List.nil_append] at b |-;exact b
def Ju(l:List zU):List (BA×V):=if 0<l.length then [(bIf,.list (l.map cdV))] else []
def stV(s:zB):V := .obj ([(qa,.str s.eff),(qg,chV s.who),(bDo,chV s.act),(bOn,chV s.on)]++Ju s.ifs)
theorem Ac(s:zB):xN s=⟨#[123,34,101,102,102,101,99,116,34,58]⟩++Ref.zQ s.eff++(⟨#[44,34,119,104,111,34,58]⟩++yS s.who)++(⟨#[44,34,100,111,34,58]⟩++yS s.act)++(⟨#[44,34,111,110,34,58]⟩++yS s.on)++(if 0<s.ifs.length then ⟨#[44,34,105,102,34,58]⟩++Zr s.ifs else ⟨#[]⟩)++⟨#[125]⟩:=by
 have b:∀a:BA,a++⟨#[]⟩=a:=λa=>by apply jk;simp[ByteArray.data_append]
 unfold xN
 by_cases hv:0<s.ifs.length<;>simp only[hv,qh,qW,b]
structure PlS (s:zB):Prop where
 eff:Pl s.eff
 who:s.who.2≠[]/\∀p ∈ s.who.2,Pl p
 act:s.act.2≠[]/\∀p ∈ s.act.2,Pl p
 on:s.on.2≠[]/\∀p ∈ s.on.2,Pl p
 ifs:∀c ∈ s.ifs,Pl c.op/\Pl c.key/\∀p ∈ c.vals,Pl p
theorem Tv{d:Nat}(hd:d<=4)(s:zB)(h:PlS s):W d (bl (xN s)) (stV s):=by
 have o:=ai (d:=d+1) (by omega) s.who h.who.1 h.who.2;have k:=ai (d:=d+1) (by omega) s.act h.act.1 h.act.2;have f:=ai (d:=d+1) (by omega) s.on h.on.1 h.on.2
 have j:WO d (34::([111,110]++34::58::(bl (yS s.on)++(bl (if 0<s.ifs.length then ⟨#[44,34,105,102,34,58]⟩++Zr s.ifs else ⟨#[]⟩)++[125])))) ((bOn,chV s.on)::Ju s.ifs):=by
  unfold Ju
  by_cases hv:0<s.ifs.length
  ·rw[zb hv,zb hv,qB]
   have a:=df (d:=d+1) (by omega) (s.ifs.map λc=>(yx c,cdV c)) (by intro e;have:=congrArg List.length e;simp at this;rw[this] at hv;simp at hv) (by
    intro x p;obtain⟨c,a,rfl⟩:=ql.1 p;obtain⟨q,q2,r⟩:=h.ifs c a;exact Dr (by omega) c q q2 r)
   simp only[xD] at a
   have:=uH (n:=[111,110]) (e:=[]) (g:=[]) (by decide) f zP zP (QH (n:=[105,102]) (e:=[]) (by decide) a zP)
   unfold Zr;simp only[bl,yZ,List.nil_append] at this |-;exact this
  ·rw[za hv,za hv];exact QH (n:=[111,110]) (e:=[]) (by decide) f zP
 have i:=uH (n:=[101,102,102,101,99,116]) (e:=[]) (g:=[]) (by decide) (VM (d:=d+1) h.eff) zP zP (uH (n:=[119,104,111]) (e:=[]) (g:=[]) (by decide) o zP zP (uH (n:=[100,111]) (e:=[]) (g:=[]) (by decide) k zP zP j))
 have l:((([(qa,V.str s.eff),(qg,chV s.who),(bDo,chV s.act),(bOn,chV s.on)]++Ju s.ifs)).map λm=>m.1.toList).Nodup:=by
  unfold Ju
  by_cases hv:0<s.ifs.length
  ·rw[zb hv];exact (by kernel_rfl:decide ([qa.toList,qg.toList,bDo.toList,bOn.toList,bIf.toList].Nodup)=true) |> of_decide_eq_true
  ·rw[za hv];exact (by kernel_rfl:decide ([qa.toList,qg.toList,bDo.toList,bOn.toList].Nodup)=true) |> of_decide_eq_true
 have b:=W.obj (d:=d) (by omega) zP i l;rw[Ac];simp only[qB];simp only[bl,List.append_assoc,yZ,List.nil_append] at b |-;exact b
def dcV(l:List zB):V := .obj [(jE,.list (l.map stV))]
theorem EF(l:List zB)(c:l≠[])(h:∀s ∈ l,PlS s):W 1 (bl (xu l)) (dcV l):=by
 have b:=df (d:=2) (by omega) (l.map λs=>(xN s,stV s)) (by simpa using c) (by
  intro x i;obtain⟨s,g,rfl⟩:=ql.1 i;exact Tv (by omega) s (h s g))
 simp only[xD] at b;have f:=QH (d:=1) (n:=[115,116,97,116,101,109,101,110,116]) (e:=[]) (by decide) b zP;have a:=W.obj (d:=1) (by omega) zP f (by simp);unfold xu;rw[qB,qB];simp only[bl,yZ,List.nil_append] at a |-;exact a
theorem PS(l:List zB)(a:l≠[])(h:∀s ∈ l,PlS s):yh (bl (xu l)) = .ok (dcV l) (bl (xu l)).length:=tH (EF l a h)
theorem VC(f:Option V->BA){l:List BA}(st:Int)(d:1<=l.length)(h:l.length<=10)(b:∀s ∈ l,f (some (.str s))=s):qL f (some (qb l st))=l:=by
 unfold qb
 by_cases e:l.length=1/\bit st 32=true
 ·rw[zb e];obtain⟨a,rfl⟩:=List.length_eq_one_iff.1 e.1;show [f (some (.str a))]=[a];rw[b a (by simp)]
 ·rw[za e];show (if (l.map V.str).length<1\/10<(l.map V.str).length then [] else (l.map V.str).map λv=>f (some v))=l
  rw[zN,za (by omega),xD];refine (XE (g:=id) (λs c=>b s c)).trans (by simp)
theorem oN(l:List BA):qb l 0 = .list (l.map .str):=by
 unfold qb
 rw[za (by intro h;have:bit 0 32=false:=by decide
           rw[this] at h;simp at h)]
theorem lg{c:Bool×List BA}(st:Int)(d:1<=c.2.length)(f:c.2.length<=10):chS (some (if c.1 then .obj [(qm,qb c.2 st)] else qb c.2 st))=c:=by
 obtain⟨nt,l⟩:=c;simp only at d f |-;have g:=VC strOf (l:=l) st d f (λs _=>rfl)
 cases nt with
 | true=>
  have h:qc [(qm,qb l st)] [qm]=true:=by kernel_rfl
  have i:zk [(qm,qb l st)] qm=some (qb l st):=by kernel_rfl
  simp only[qh,chS];rw[zb h,i,g]
 | false=>
  simp only[xz,qW]
  have a:∀ms,qb l st ≠ .obj ms:=by
   intro ms;unfold qb
   split<;>(intro e;cases e)
  have j:chS (some (qb l st))=(false,qL strOf (some (qb l st))):=by
   cases hv:qb l st with
   | obj ms=>exact absurd hv (a ms)
   | str s=>rfl
   | word b=>rfl
   | list k=>rfl
  rw[j,g]
def jo(r:zt):zU:=
 match zo r.iff 8 with
 | 1=>⟨vv,keyOf r,[],r.no⟩
 | 6=>⟨Ja,keyOf r,[patterns.getD (zo r.val 14) ⟨#[]⟩,⟨#[120]⟩],r.no⟩
 | 2=>⟨Xc,keyOf r,[words.getD (zo r.val 14) ⟨#[]⟩],r.no⟩
 | 3=>⟨Zp,keyOf r,[nums.getD (zo r.val 4) ⟨#[]⟩],r.no⟩
 | 4=>⟨uZ,keyOf r,[Qg.getD (zo r.val 3) ⟨#[]⟩],r.no⟩
 | _=>Z6
def Xk(r:zt):Bool:=decide ((xR r).size≠0)
def stK(r:zt):zB:=⟨Zb r,(decide (zo r.nt 16=2),qE r.who),(decide (zo r.nt 16=3),qE r.act),(decide (zo r.nt 16=1),qE r.on),if Xk r then [jo r] else []⟩
def YM(l:List zt):List zt:=if l.length=0 then [xX] else l.take 4
def qK(l:List zt):List zB:=(YM l).map stK
structure J3 (c:zU):Prop where
 op:∃k,k<5/\c.op=opN k
 key:qj c.key=true
 some:0<c.vals.length->qx c.op (some (.list (c.vals.map .str)))=0/\xg c.op (some (.list (c.vals.map .str)))=c.vals
 none:c.vals.length=0->qx c.op none=0/\xg c.op none=[]
theorem OD:∀k,k<5->ZB (some (.str (opN k)))=some k:=by decide +kernel
theorem rT{k:Nat}(h:k<5):ZB (some (.str (opN k)))=some k:=OD k h
theorem Ux{ms:List (BA×V)}{c:zU}(b:J3 c)(x:Option V)(i:qx c.op x=0/\xg c.op x=c.vals)(d:qc ms [bOp,zx,zz,bNo]=true)(e:zk ms bOp=some (.str c.op))(f:zk ms zx=some (.str c.key))(g:zk ms zz=x)(j:zk ms bNo=if c.no then some (.word true) else none):jc (.obj ms)=c/\condC (.obj ms)=0:=by
 obtain⟨k,h,a⟩:=b.op
 have m:qM qj (some (.str c.key))=c.key:=by
  show (if qj c.key then c.key else ⟨#[]⟩)=c.key
  rw[b.key];rfl
 have l:qd qj (some (.str c.key))=0:=Qb b.key
 have hb:YI (zk ms bNo)=c.no/\kC (zk ms bNo)=false:=by
  rw[j]
  cases c.no<;>exact⟨rfl,rfl⟩
 constructor
 ·unfold jc;simp only;rw[zb d,e,a,rT h];simp only;rw[f,g,m,hb.1,<- a,i.2]
 ·rw[Uv,zb d,e,a,rT h];simp only;rw[f,g,hb.2,<- a,i.1,l]
  rfl
theorem iZ{c:zU}(a:J3 c):jc (cdV c)=c/\condC (cdV c)=0:=by
 unfold cdV JW YJ
 by_cases hv:0<c.vals.length
 ·rw[zb hv];refine Ux a (some (.list (c.vals.map .str))) (a.some hv) ?_ ?_ ?_ ?_ ?_
  all_goals (cases c.no<;>kernel_rfl)
 ·rw[za hv];have b:c.vals.length=0:=by omega
  refine Ux a none ⟨(a.none b).1,(a.none b).2.trans (ZL.1 b).symm⟩ ?_ ?_ ?_ ?_ ?_
  all_goals (cases c.no<;>kernel_rfl)
def J4(c:Bool×List BA):Prop:=1<=c.2.length/\c.2.length<=10/\∀p ∈ c.2,xV p=true
theorem Je{c:Bool×List BA}(h:J4 c):chS (some (chV c))=c/\chC (some (chV c))=0:=by
 have f:=oN c.2;have b:=QI (c:=yg) (l:=c.2) 0 h.1 h.2.1 (λs a=>VJ (h.2.2 s a));have a:=lg (c:=c) 0 h.1 h.2.1;rw[f] at a b;refine⟨a,?_⟩;unfold chV
 cases c.1 with
 | true=>
  have d:qc [(qm,V.list (c.2.map .str))] [qm]=true:=by kernel_rfl
  have e:zk [(qm,V.list (c.2.map .str))] qm=some (.list (c.2.map .str)):=by kernel_rfl
  simp only[qh,chC];rw[zb d,e];exact b
 | false=>exact b
structure KM (s:zB):Prop where
 eff:yz s.eff=true
 who:J4 s.who
 act:J4 s.act
 on:J4 s.on
 few:s.ifs.length<=5
 ifs:∀c ∈ s.ifs,J3 c
theorem Kn{ms:List (BA×V)}{s:zB}(i:KM s)(w a o:V)(x:Option V)(k:chS (some w)=s.who/\chC (some w)=0)(h:chS (some a)=s.act/\chC (some a)=0)(j:chS (some o)=s.on/\chC (some o)=0)(l:QB x=s.ifs/\jd x=0)
  (b:qc ms [qa,qg,bDo,bOn,bIf]=true)(c:zk ms qa=some (.str s.eff))(d:zk ms qg=some w)(e:zk ms bDo=some a)(f:zk ms bOn=some o)(g:zk ms bIf=x):xO (.obj ms)=s/\xy (.obj ms)=0:=by
 have m:qM yz (some (.str s.eff))=s.eff:=by
  show (if yz s.eff then s.eff else ⟨#[]⟩)=s.eff
  rw[i.eff];rfl
 constructor
 ·unfold xO;simp only;rw[zb b,c,d,e,f,g,m,k.1,h.1,j.1,l.1]
 ·unfold xy;simp only;rw[zb b,c,d,e,f,g,Qb i.eff,k.2,h.2,j.2,l.2]
  rfl
theorem wN{s:zB}(a:KM s):xO (stV s)=s/\xy (stV s)=0:=by
 have d:QB (some (.list (s.ifs.map cdV)))=s.ifs/\jd (some (.list (s.ifs.map cdV)))=0:=by
  constructor
  ·show (if 5<(s.ifs.map cdV).length then [] else (s.ifs.map cdV).map jc)=s.ifs
   rw[zN,za (by have:=a.few;omega),xD];exact (XE (g:=id) (λc b=>(iZ (a.ifs c b)).1)).trans (by simp)
  ·show (if 5<(s.ifs.map cdV).length then 1 else qo ((s.ifs.map cdV).map condC))=0
   rw[zN,za (by have:=a.few;omega),xD];refine Xj (λx e=>?_);obtain⟨c,b,rfl⟩:=ql.1 e;exact (iZ (a.ifs c b)).2
 unfold stV Ju
 by_cases hv:0<s.ifs.length
 ·rw[zb hv];exact Kn a _ _ _ (some (.list (s.ifs.map cdV))) (Je a.who) (Je a.act) (Je a.on) d (by kernel_rfl) (by kernel_rfl) (by kernel_rfl) (by kernel_rfl) (by kernel_rfl) (by kernel_rfl)
 ·rw[za hv];have f:s.ifs=[]:=ZL.1 (by omega);exact Kn a _ _ _ none (Je a.who) (Je a.act) (Je a.on) ⟨by rw[f];rfl,rfl⟩ (by kernel_rfl) (by kernel_rfl) (by kernel_rfl) (by kernel_rfl) (by kernel_rfl) (by kernel_rfl)
end Kp
end Go.Proofs.YtdakgnaojakldaaGreatDoor
