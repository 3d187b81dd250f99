/- P -/
import Derived.Test.YtdakgnaojakldaaGreatDoorS25
import Derived.Deep.RegionHeld3
import Derived.Deep.CutRange
open Go.Proofs.Tryz
set_option maxRecDepth 100000
set_option maxHeartbeats 1000000
namespace Go.Proofs.YtdakgnaojakldaaGreatDoor.said1
open Go.ChangeShapes Go.WideShapes Go.ChangeAt Go.RowKit Go.Joins Go.Deep
def uL:Array Value:=#[.int .i64 0,.int .i64 0,.int .i64 0,.bool false,.bool false,.int .i64 0,.int .i64 0,.int .i64 0,.bool false,.slice none 0 0,.int .i64 0,.int .i64 0]
theorem MJ(os:Os):((laws.laidWorld os).forCall (λ_ _=>0) ⟨#[],uL,[]⟩).variablesRefB prog=true:=by kernel_rfl
theorem MH(os:Os):(((laws.laidWorld os).forCall (λ_ _=>0) ⟨#[],uL,[]⟩).heap.toList.drop prog.globals.size).take ((begin prog (λ_ _=>0) default).world.heap.size-prog.globals.size) =
   (begin prog (λ_ _=>0) default).world.heap.toList.drop prog.globals.size:=by kernel_rfl
theorem MG(os:Os):Input.okWideB prog ((laws.laidWorld os).forCall (λ_ _=>0) ⟨#[],uL,[]⟩) 11 ⟨#[],uL,[]⟩=true:=by kernel_rfl
theorem MI(os:Os){H:Type}(enc:TypeId×Value->H):(OpenSpec.ofChange Rows.saidSpec).bare.sizedB enc prog Tryz.f11 false ((laws.laidWorld os).forCall (λ_ _=>0) ⟨#[],uL,[]⟩).memory uL 8=true:=by kernel_rfl
theorem MF:prog.inits.idxOf? 11=none:=by kernel_rfl
theorem reads(os:Os){H:Type}(enc:TypeId×Value->H):∃a,DataW.whole enc prog ((laws.laidWorld os).forCall (λ_ _=>0) ⟨#[],uL,[]⟩).memory Tryz.f11.params.toList Rows.saidSpec.vars false uL.toList 8
  = some ([.lit (.int .i64 0),.lit (.int .i64 0),.lit (.int .i64 0),.lit (.bool false),.lit (.bool false),.lit (.int .i64 0),.lit (.int .i64 0),.lit (.int .i64 0),.lit (.bool false),.nil,.lit (.int .i64 0),.lit (.int .i64 0)],[],a):=by
 have c:(DataW.whole enc prog ((laws.laidWorld os).forCall (λ_ _=>0) ⟨#[],uL,[]⟩).memory Tryz.f11.params.toList Rows.saidSpec.vars false uL.toList 8).map (λx=>(x.1,x.2.1)) =
   some ([.lit (.int .i64 0),.lit (.int .i64 0),.lit (.int .i64 0),.lit (.bool false),.lit (.bool false),.lit (.int .i64 0),.lit (.int .i64 0),.lit (.int .i64 0),.lit (.bool false),.nil,.lit (.int .i64 0),.lit (.int .i64 0)],[]):=by kernel_rfl
 obtain⟨⟨f,g,e⟩,d,b⟩:=Option.map_eq_some_iff.1 c;simp only[Prod.mk.injEq] at b;obtain⟨rfl,rfl⟩:=b;exact⟨e,d⟩
end Go.Proofs.YtdakgnaojakldaaGreatDoor.said1
namespace Go.Proofs.YtdakgnaojakldaaGreatDoor
namespace Kp
def zS(c:Int)(n:Nat):Nat:=((if c<0 then -(c+1) else c) % (n:Int)).toNat
theorem uB(c:Int)(n:Nat)(h:0<n):zS c n<n:=by
 unfold zS;have a:=Int.emod_nonneg (if c<0 then -(c+1) else c) (show (n:Int)≠0 by omega)
 have b:=Int.emod_lt_of_pos (if c<0 then -(c+1) else c) (show (0:Int)<n by omega)
 omega
def bit(a d:Int):Bool:=decide ((a.tdiv d).tmod 2≠0)
def keys:List BY:=[⟨#[119,104,111]⟩,⟨#[100,111]⟩,⟨#[111,110]⟩,⟨#[116,97,103]⟩,⟨#[97,103,101]⟩]
def nums:List BY:=[⟨#[48]⟩,⟨#[56]⟩,⟨#[45,52]⟩,⟨#[49,48,48]⟩]
def EP:List BY:=[⟨#[]⟩,⟨#[32]⟩,⟨#[10,9]⟩,⟨#[13,32]⟩]
def esc(a:Int)(b:UInt8):BY:=
 if b.toNat=47/\bit a 1=true then ⟨#[92,47]⟩ else if b.toNat=97/\bit a 2=true then ⟨#[92,117,48,48,54,49]⟩ else if b.toNat=42/\bit a 4=true then ⟨#[92,117,48,48,50,65]⟩ else ⟨#[b]⟩
def fF(s:BY)(a:Int):Nat->BY
 | 0=>⟨#[34]⟩
 | k+1=>fF s a k++esc a (s.data.toList.getD k 0)
def fE(s:BY)(a:Int):BY:=fF s a s.size++⟨#[34]⟩
def VS(a:Int):BY:=EP.getD (zS (a.tdiv 8) 4) ⟨#[]⟩
def Zn(l:List BY)(a:Int):Nat->BY
 | 0=>⟨#[91]⟩++VS a
 | k+1=>(if 0<k then Zn l a k++⟨#[44]⟩++VS a else Zn l a k)++fE (l.getD k ⟨#[]⟩) a
def QX(l:List BY)(a:Int):BY:=if l.length=1/\bit a 32=true then fE (l.getD 0 ⟨#[]⟩) a else Zn l a l.length++⟨#[93]⟩++VS a
structure yT where
 deny:Bool
 who:List Int
 act:List Int
 on:List Int
 nt:Int
 iff:Int
 key:Int
 val:Int
 no:Bool
 style:Int
def Gz:yT:=⟨false,[],[],[],0,0,0,0,false,0⟩
end Kp
end Go.Proofs.YtdakgnaojakldaaGreatDoor
namespace Go.Proofs.YtdakgnaojakldaaGreatDoor
open Go.RowKit
def I64(x:Int):Prop:=-9223372036854775808<=x/\x<=9223372036854775807
theorem I64.tdiv{x:Int}(h:I64 x)(d:Nat):I64 (x.tdiv d):=by
 obtain⟨b,c⟩:=h;have e:(x.tdiv d).natAbs=x.natAbs / d:=by rw[Int.natAbs_tdiv];rfl
 have hle:x.natAbs / d<=x.natAbs:=Nat.div_le_self _ _
 by_cases h0:0<=x
 ·have:=Int.tdiv_nonneg h0 (show (0:Int)<=(d:Int) by omega)
  unfold I64;omega
 ·have a:=Int.tdiv_nonneg (show (0:Int) <= -x by omega) (show (0:Int)<=(d:Int) by omega);rw[Int.neg_tdiv] at a;unfold I64;omega
theorem Fw(c:Int)(n:Nat)(h:c<0):-(c+1).tmod (n:Int)=(Kp.zS c n:Int):=by
 unfold Kp.zS;rw[if_pos h,<- Int.neg_tmod,Int.tmod_eq_emod_of_nonneg (by omega)];have a:=Int.emod_nonneg (-(c+1)) (b:=(n:Int))
 by_cases hn:(n:Int)=0
 ·rw[hn,Int.emod_zero];omega
 ·have:=a hn;omega
theorem Fx(c:Int)(n:Nat)(h:0<=c):c % (n:Int)=(Kp.zS c n:Int):=by
 unfold Kp.zS;rw[if_neg (by omega)];have a:=Int.emod_nonneg c (b:=(n:Int))
 by_cases hn:(n:Int)=0
 ·rw[hn,Int.emod_zero];omega
 ·have:=a hn;omega
theorem Y6(c:Int)(n:Nat)(w:World)(a:I64 c)(h:0<n)(g:n<=1000000) :
  Calls prog 19 #[.int .i64 c,.int .i64 (n:Int)] w λe b=>e = .returned (.int .i64 (Kp.zS c n:Int))/\b=w:=by
 obtain⟨d,f⟩:=a
 by_cases h0:c<0
 ·have e:=hid (Fw c n h0);go_enter func19,ntmps19
  go_wp2
  go_ret;exact⟨by rw[<- e.out];rfl,rfl⟩
 ·have e:=hid (Fx c n (by omega));go_enter func19,ntmps19
  go_wp2
  go_ret;exact⟨by rw[<- e.out];rfl,rfl⟩
theorem VE(w:World)(l:List BY)(k:Nat)(h:k<l.length):(w.alloc (.cells (l.map Value.string).toArray 9)).cell? ⟨w.heap.size,k,none⟩=some (.string (l.getD k ⟨#[]⟩)):=by
 have a:=(ze (heap_alloc_new w (.cells (l.map Value.string).toArray 9)) k).1;rw[a,List.getD_eq_getElem?_getD];simp[List.getElem?_map,List.getElem?_eq_getElem h]
def Xw(w:World)(d:Value)(l:List BY):Prop:=∃a c,d = .slice a l.length c/\∀(k:Nat) (x:BY),l[k]?=some x->∃b,a=some ⟨b,0,none⟩/\w.cell? ⟨b,k,none⟩=some (.string x)
theorem Xw.below{w d:World}{b:Value}{l:List BY}(h:Xw w b l)(hb:Below w.heap.size w d):Xw d b l:=by
 obtain⟨a,c,rfl,h⟩:=h;exact⟨a,c,rfl,λk x i=>by obtain⟨f,e,g⟩:=h k x i;exact⟨f,e,zg hb g⟩⟩
def IntsIn(w:World)(d:Value)(l:List Int):Prop:=∃a c,d = .slice a l.length c/\∀(k:Nat) (x:Int),l[k]?=some x->I64 x/\∃b o,a=some ⟨b,o,none⟩/\w.cell? ⟨b,o+k,none⟩=some (.int .i64 x)
theorem IntsIn.below{w d:World}{b:Value}{l:List Int}(h:IntsIn w b l)(hb:Below w.heap.size w d):IntsIn d b l:=by
 obtain⟨a,c,rfl,h⟩:=h;exact⟨a,c,rfl,λk x i=>by obtain⟨hi,f,o,e,g⟩:=h k x i;exact⟨hi,f,o,e,zg hb g⟩⟩
theorem Xw.own{w:World}{base:Nat}{d:Value}{l:List BY}(h:zO w base d l):Xw w d l:=by
 obtain⟨a,c,rfl⟩:=yB h;refine⟨a,c,rfl,λk x b=>?_⟩;have i:k<l.length:=(List.getElem?_eq_some_iff.1 b).1
 rcases h.2 with ⟨e,h0⟩|⟨gb,cap,cur,e,_⟩
 ·omega
 ·have f:=World.ownsRow.cellAt (g:=gb) (cap:=cap) (by rw[<- e];exact h) k (by omega);injection e with e1 e2 e3
  exact⟨gb,e1,by rw[f];simp[List.getElem?_map,b]⟩
structure Jy (r:Kp.yT):Prop where
 nt:I64 r.nt
 iff:I64 r.iff
 key:I64 r.key
 val:I64 r.val
 style:I64 r.style
theorem Below.step{B:Nat}{a b c:World}(h:Below B a b)(k:Below b.heap.size b c)(d:B<=a.heap.size):Below B a c:=h.trans (k.mono (Nat.le_trans d h.size))
def QM(w:World)(g:Value)(l:List Kp.yT):Prop:=∃a c,g = .slice a l.length c/\∀(k:Nat) (r:Kp.yT),l[k]?=some r->Jy r/\r.who.length<=maxLen/\r.act.length<=maxLen/\r.on.length<=maxLen /\
 ∃b o d e f,a=some ⟨b,o,none⟩/\(w.cell? ⟨b,o+k*10,none⟩=some (.bool r.deny)/\w.cell? ⟨b,o+k*10+1,none⟩=some d/\w.cell? ⟨b,o+k*10+2,none⟩=some e/\w.cell? ⟨b,o+k*10+3,none⟩=some f /\
  w.cell? ⟨b,o+k*10+4,none⟩=some (.int .i64 r.nt)/\w.cell? ⟨b,o+k*10+5,none⟩=some (.int .i64 r.iff)/\w.cell? ⟨b,o+k*10+6,none⟩=some (.int .i64 r.key)/\w.cell? ⟨b,o+k*10+7,none⟩=some (.int .i64 r.val) /\
  w.cell? ⟨b,o+k*10+8,none⟩=some (.bool r.no)/\w.cell? ⟨b,o+k*10+9,none⟩=some (.int .i64 r.style))/\IntsIn w d r.who/\IntsIn w e r.act/\IntsIn w f r.on
theorem QM.below{w d:World}{b:Value}{l:List Kp.yT}(h:QM w b l)(hb:Below w.heap.size w d):QM d b l:=by
 obtain⟨a,c,rfl,h⟩:=h;refine⟨a,c,rfl,λk r n=>?_⟩;obtain⟨g,i,j,m,f,o,D,E,F,e,⟨t,u,q2,v,x,y,z,A,B,C⟩,p,q,s⟩:=h k r n;exact⟨g,i,j,m,f,o,D,E,F,e,⟨zg hb t,zg hb u,zg hb q2,zg hb v,zg hb x,zg hb y,zg hb z,zg hb A,zg hb B,zg hb C⟩,p.below hb,q.below hb,s.below hb⟩
theorem AR(w:World):IntsIn w (.slice none 0 0) []:=⟨none,0,rfl,λk x a=>by simp at a⟩
namespace Rd
open Ref
def At(l:List UInt8)(p:Nat)(t r:List UInt8):Prop:=l.drop p=t++r
theorem At.app{l:List UInt8}{p:Nat}{a b r:List UInt8}(h:At l p (a++b) r):At l p a (b++r)/\At l (p+a.length) b r:=by
 unfold At at h |-;rw[List.append_assoc] at h;refine⟨h,?_⟩;rw[<- List.drop_drop,h,List.drop_left]
theorem At.le{l:List UInt8}{p:Nat}{t r:List UInt8}(h:At l p t r)(a:t≠[]):p+t.length<=l.length:=by
 have:=congrArg List.length h
 have b:0<t.length:=List.length_pos_iff.2 a;rw[List.length_drop,List.length_append] at this;omega
theorem At.hd{l:List UInt8}{p:Nat}{b:UInt8}{t r:List UInt8}(h:At l p (b::t) r):zf l p=b.toNat:=by
 unfold At at h;unfold Rd.zf
 have:l[p]?=some b:=by
  have:=congrArg (λx=>x[0]?) h
  simpa [List.getElem?_drop] using this
 rw[List.getD_eq_getElem?_getD,this]
 rfl
theorem At.hdR{l:List UInt8}{p:Nat}{b:UInt8}{t r:List UInt8}(h:At l p t (b::r)):zf l (p+t.length)=b.toNat:=by
 have a:At l p (t++[b]) r:=by unfold At at h |-;rw[h];simp
 exact a.app.2.hd
structure UK (t:List UInt8) (u:BY):Prop where
 pos:t≠[]
 first:t.head?≠some 34
 reads:∀l p r,At l p t r->xU l p = .ok u (p+t.length)
inductive jW:List UInt8->BY->Prop
 | nil:jW [] ⟨#[]⟩
 | char {t u t' u'}:UK t u->jW t' u'->jW (t++t') (u++u')
theorem Ld{t:List UInt8}{s:BY}(h:jW t s):∀(l r:List UInt8) (p f:Nat) (acc:BY),At l p (t++[34]) r->t.length+1<=f->qa l f p acc = .ok (acc++s) (p+t.length+1):=by
 induction h with
 | nil=>
  intro l r p f acc d a;have k:=At.hd (b:=34) (t:=[]) d
  match f,a with
  | f+1,_=>
   rw[qa,if_pos (by rw[k];rfl)]
   have:acc++(⟨#[]⟩:BY)=acc:=by apply ByteArray.ext;simp[ByteArray.data_append]
   rw[this]
   rfl
 | char g q o=>
  rename_i t u v i;intro l r p f acc d a;rw[List.append_assoc] at d;obtain⟨c,j⟩:=d.app;have n:=g.reads l p _ c;have hlen:0<t.length:=List.length_pos_iff.2 g.pos
  have m:zf l p≠34:=by
   match t,g.first,c with
   | b::t2,hf1,c=>
    rw[c.hd];intro e;apply hf1
    have:b=34:=UInt8.toNat_inj.1 e
    simp[this]
  match f,a with
  | f+1,a=>
   rw[qa,if_neg m,n];simp only;rw[o l r (p+t.length) f (acc++u) j (by rw[List.length_append] at a;omega),List.length_append]
   have:acc++u++i=acc++(u++i):=by apply ByteArray.ext;simp[ByteArray.data_append]
   rw[this];congr 1;omega
theorem Ue{t:List UInt8}{s:BY}(h:jW t s){l r:List UInt8}{p:Nat}(a:At l p (t++[34]) r):yE l p = .ok s (p+t.length+1):=by
 have hle:=a.le (by simp);rw[List.length_append,List.length_singleton] at hle;unfold yE;rw[Ld h l r p _ _ a (by omega)]
 have:(⟨#[]⟩:BY)++s=s:=by apply ByteArray.ext;simp[ByteArray.data_append]
 rw[this]
def Blanks(b:List UInt8):Prop:=∀c ∈ b,blank c.toNat=true
theorem skip_none(l:List UInt8)(p:Nat)(h:blank (zf l p)=false):skip l p=p:=by rw[uI,h];rfl
theorem gD:∀(b:List UInt8),Blanks b->∀(l r:List UInt8) (p:Nat),At l p b r->blank (zf l (p+b.length))=false->skip l p=p+b.length
 | [],_,l,r,p,_,hr=>by simpa using skip_none l p hr
 | c::b,hb,l,r,p,ha,hr=>by
  have e:=hb c (by simp);have d:At l (p+1) b r:=(At.app (a:=[c]) (b:=b) ha).2;rw[uI,ha.hd,e,if_pos rfl,gD b (λx f=>hb x (by simp[f])) l r (p+1) d (by rw[show p+1+b.length=p+(c::b).length by simp;omega];exact hr)]
  simp;omega
mutual
inductive W:Nat->List UInt8->V->Prop
 | str {d t s}:jW t s->W d ([34]++t++[34]) (.str s)
 | yes {d}:W d [116,114,117,101] (.word true)
 | no {d}:W d [102,97,108,115,101] (.word false)
 | list {d b t vs}:d<=8->Blanks b->WL d t vs->W d ([91]++b++t) (.list vs)
 | obj {d b t ms}:d<=8->Blanks b->WO d t ms->(ms.map λm=>m.1.toList).Nodup->W d ([123]++b++t) (.obj ms)
inductive WL:Nat->List UInt8->List V->Prop
 | last {d t v b}:W (d+1) t v->Blanks b->WL d (t++b++[93]) [v]
 | more {d t v b c t' vs}:W (d+1) t v->Blanks b->Blanks c->WL d t' vs->WL d (t++b++[44]++c++t') (v::vs)
inductive WO:Nat->List UInt8->List (BY×V)->Prop
 | last {d n s b c t v e}:jW n s->Blanks b->Blanks c->W (d+1) t v->Blanks e->WO d ([34]++n++[34]++b++[58]++c++t++e++[125]) [(s,v)]
 | more {d n s b c t v e g t' ms}:jW n s->Blanks b->Blanks c->W (d+1) t v->Blanks e->Blanks g->WO d t' ms->WO d ([34]++n++[34]++b++[58]++c++t++e++[44]++g++t') ((s,v)::ms)
end
theorem W.head{d:Nat}{t:List UInt8}{v:V}(h:W d t v):∃c r,t=c::r/\blank c.toNat=false/\c≠93/\c≠125:=by
 cases h with
 | str h=>exact⟨34,_,rfl,by decide,by decide,by decide⟩
 | yes=>exact⟨116,_,rfl,by decide,by decide,by decide⟩
 | no=>exact⟨102,_,rfl,by decide,by decide,by decide⟩
 | list _ _ _=>exact⟨91,_,rfl,by decide,by decide,by decide⟩
 | obj _ _ _ _=>exact⟨123,_,rfl,by decide,by decide,by decide⟩
theorem WL.head{d:Nat}{t:List UInt8}{f:List V}(h:WL d t f):∃c r,t=c::r/\blank c.toNat=false/\c≠93:=by
 cases h with
 | last e _=>obtain⟨c,r,rfl,a,b,_⟩:=e.head;exact⟨c,_,rfl,a,b⟩
 | more e _ _ _=>obtain⟨c,r,rfl,a,b,_⟩:=e.head;exact⟨c,_,rfl,a,b⟩
theorem WO.head{d:Nat}{t:List UInt8}{ms:List (BY×V)}(h:WO d t ms):∃r,t=34::r:=by
 cases h with
 | last=>exact⟨_,rfl⟩
 | more=>exact⟨_,rfl⟩
end Rd
end Go.Proofs.YtdakgnaojakldaaGreatDoor
