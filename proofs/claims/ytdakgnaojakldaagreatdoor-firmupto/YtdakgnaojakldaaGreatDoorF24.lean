/- P -/
import Derived.Test.YtdakgnaojakldaaGreatDoorF23
open Go.Proofs.Tryz
set_option maxRecDepth 100000
set_option maxHeartbeats 1000000
namespace Go.Proofs.YtdakgnaojakldaaGreatDoor.firm
open Go.ChangeShapes Go.WideShapes Go.ChangeAt Go.RowKit Go.Joins Go.Deep
def Zl:Array Value:=#[.slice none 0 0,.slice none 0 0,.int .i64 0,.slice none 0 0,.slice none 0 0]
theorem SQ(os:Os):((laws.laidWorld os).forCall (λ_ _=>0) ⟨#[],Zl,[]⟩).variablesRefB prog=true:=by kernel_rfl
theorem SL(os:Os):(((laws.laidWorld os).forCall (λ_ _=>0) ⟨#[],Zl,[]⟩).heap.toList.drop prog.globals.size).take ((begin prog (λ_ _=>0) default).world.heap.size-prog.globals.size) =
   (begin prog (λ_ _=>0) default).world.heap.toList.drop prog.globals.size:=by kernel_rfl
theorem SK(os:Os):Input.okWideB prog ((laws.laidWorld os).forCall (λ_ _=>0) ⟨#[],Zl,[]⟩) 12 ⟨#[],Zl,[]⟩=true:=by kernel_rfl
theorem SN(os:Os){H:Type}(enc:TypeId×Value->H):(Rows.OpenSpec.upto Rows.firmSpec).bare.sizedB enc prog Tryz.f12 false ((laws.laidWorld os).forCall (λ_ _=>0) ⟨#[],Zl,[]⟩).memory Zl 8=true:=by kernel_rfl
theorem SI:prog.inits.idxOf? 12=none:=by kernel_rfl
theorem reads(os:Os){H:Type}(enc:TypeId×Value->H):∃a,DataW.whole enc prog ((laws.laidWorld os).forCall (λ_ _=>0) ⟨#[],Zl,[]⟩).memory Tryz.f12.params.toList Rows.firmSpec.vars false Zl.toList 8
  = some ([.nil,.nil,.lit (.int .i64 0),.nil,.nil],[],a):=by
 have c:(DataW.whole enc prog ((laws.laidWorld os).forCall (λ_ _=>0) ⟨#[],Zl,[]⟩).memory Tryz.f12.params.toList Rows.firmSpec.vars false Zl.toList 8).map (λx=>(x.1,x.2.1)) =
   some ([.nil,.nil,.lit (.int .i64 0),.nil,.nil],[]):=by kernel_rfl
 obtain⟨⟨f,g,e⟩,d,b⟩:=Option.map_eq_some_iff.1 c;simp only[Prod.mk.injEq] at b;obtain⟨rfl,rfl⟩:=b;exact⟨e,d⟩
end Go.Proofs.YtdakgnaojakldaaGreatDoor.firm
namespace Go.Proofs.YtdakgnaojakldaaGreatDoor
namespace Kp
def zm(c:Int)(n:Nat):Nat:=((if c<0 then -(c+1) else c) % (n:Int)).toNat
theorem qR(c:Int)(n:Nat)(h:0<n):zm c n<n:=by
 unfold zm;have a:=Int.emod_nonneg (if c<0 then -(c+1) else c) (show (n:Int)≠0 by omega)
 have b:=Int.emod_lt_of_pos (if c<0 then -(c+1) else c) (show (0:Int)<n by omega)
 omega
def bit(a d:Int):Bool:=decide ((a.tdiv d).tmod 2≠0)
def words:List BA:=[⟨#[97,110,110]⟩,⟨#[98,111,98]⟩,⟨#[114,101,97,100]⟩,⟨#[119,114,105,116,101]⟩,⟨#[98,111,120]⟩,⟨#[98,111,120,47,49]⟩,⟨#[98,111,120,47,195,169]⟩,⟨#[98,111,120,47,49,47,97]⟩,⟨#[]⟩,⟨#[42]⟩,⟨#[97]⟩,⟨#[55]⟩,⟨#[45,51]⟩,⟨#[49,56]⟩]
def patterns:List BA:=[⟨#[42]⟩,⟨#[97,110,110]⟩,⟨#[98,42]⟩,⟨#[114,101,97,100]⟩,⟨#[63,63,63,63,63]⟩,⟨#[98,111,120,47,42]⟩,⟨#[98,111,120,47,63]⟩,⟨#[36,123,119,104,111,125]⟩,⟨#[42,36,123,116,97,103,125,42]⟩,⟨#[36,42]⟩,⟨#[]⟩,⟨#[42,97,42]⟩,⟨#[98,111,120,47,195,169]⟩,⟨#[36,123,111,110,125,47,42]⟩]
def keys:List BA:=[⟨#[119,104,111]⟩,⟨#[100,111]⟩,⟨#[111,110]⟩,⟨#[116,97,103]⟩,⟨#[97,103,101]⟩]
def nums:List BA:=[⟨#[48]⟩,⟨#[56]⟩,⟨#[45,52]⟩,⟨#[49,48,48]⟩]
def Zk:List BA:=[⟨#[98,111,120]⟩,⟨#[98,111,120,47,49]⟩,⟨#[97]⟩]
def Xt:List BA:=[⟨#[]⟩,⟨#[32]⟩,⟨#[10,9]⟩,⟨#[13,32]⟩]
def esc(a:Int)(b:UInt8):BA:=
 if b.toNat=47/\bit a 1=true then ⟨#[92,47]⟩ else if b.toNat=97/\bit a 2=true then ⟨#[92,117,48,48,54,49]⟩ else if b.toNat=42/\bit a 4=true then ⟨#[92,117,48,48,50,65]⟩ else ⟨#[b]⟩
def ZH(s:BA)(a:Int):Nat->BA
 | 0=>⟨#[34]⟩
 | k+1=>ZH s a k++esc a (s.data.toList.getD k 0)
def jC(s:BA)(a:Int):BA:=ZH s a s.size++⟨#[34]⟩
def xB(a:Int):BA:=Xt.getD (zm (a.tdiv 8) 4) ⟨#[]⟩
def qQ(l:List BA)(a:Int):Nat->BA
 | 0=>⟨#[91]⟩++xB a
 | k+1=>(if 0<k then qQ l a k++⟨#[44]⟩++xB a else qQ l a k)++jC (l.getD k ⟨#[]⟩) a
def xm(l:List BA)(a:Int):BA:=if l.length=1/\bit a 32=true then jC (l.getD 0 ⟨#[]⟩) a else qQ l a l.length++⟨#[93]⟩++xB a
def jD(raw:List Int):List BA:=(raw.take 4).map λc=>patterns.getD (zm c 14) ⟨#[]⟩
def qp(raw:List Int):List BA:=if (jD raw).length=0 then [⟨#[42]⟩] else jD raw
def ym(raw:List Int)(nt:Bool)(a:Int):BA:=if nt then ⟨#[123]⟩++xB a++⟨#[34,110,111,116,34,58]⟩++xm (qp raw) a++⟨#[125]⟩ else xm (qp raw) a
structure zi where
 deny:Bool
 who:List Int
 act:List Int
 on:List Int
 nt:Int
 iff:Int
 key:Int
 val:Int
 no:Bool
 style:Int
def noB(r:zi):BA:=if r.no then ⟨#[44,34,110,111,34,58,116,114,117,101]⟩ else ⟨#[]⟩
def Qf(r:zi):BA:=⟨#[34,107,101,121,34,58,34]⟩++keys.getD (zm r.key 5) ⟨#[]⟩++⟨#[34,44,34,111,112,34,58]⟩
def Qa(r:zi)(op:BA)(l:List BA):BA:=⟨#[123]⟩++Qf r++op++xm l r.style++noB r++⟨#[125]⟩
def gY:BA:=⟨#[34,108,105,107,101,34,44,34,118,97,108,117,101,34,58]⟩
def nO:BA:=⟨#[34,115,97,109,101,34,44,34,118,97,108,117,101,34,58]⟩
def bY:BA:=⟨#[34,98,101,108,111,119,34,44,34,118,97,108,117,101,34,58]⟩
def pg:BA:=⟨#[34,117,110,100,101,114,34,44,34,118,97,108,117,101,34,58]⟩
def qY(r:zi):BA:=
 match zm r.iff 8 with
 | 1=>⟨#[123]⟩++Qf r++⟨#[34,97,98,115,101,110,116,34]⟩++noB r++⟨#[125]⟩
 | 6=>Qa r gY [patterns.getD (zm r.val 14) ⟨#[]⟩,⟨#[120]⟩]
 | 2=>Qa r nO [words.getD (zm r.val 14) ⟨#[]⟩]
 | 3=>Qa r bY [nums.getD (zm r.val 4) ⟨#[]⟩]
 | 4=>Qa r pg [Zk.getD (zm r.val 3) ⟨#[]⟩]
 | _=>⟨#[]⟩
def uT(r:zi):BA:=if r.deny then ⟨#[123,34,101,102,102,101,99,116,34,58,34,100,101,110,121,34,44]⟩++xB r.style else ⟨#[123,34,101,102,102,101,99,116,34,58,34,97,108,108,111,119,34,44]⟩
def ZO(r:zi):BA:=if (qY r).size=0 then uT r else uT r++⟨#[34,105,102,34,58,91]⟩++qY r++⟨#[93,44]⟩
def yU(r:zi):BA:=
 ZO r++⟨#[34,111,110,34,58]⟩++ym r.on (decide (zm r.nt 16=1)) r.style++⟨#[44,34,119,104,111,34,58]⟩++ym r.who (decide (zm r.nt 16=2)) r.style++⟨#[44,34,100,111,34,58]⟩++ym r.act (decide (zm r.nt 16=3)) r.style++⟨#[125]⟩
def jd(l:List zi):Nat->BA
 | 0=>⟨#[]⟩
 | k+1=>(if 0<k then jd l k++⟨#[44]⟩ else jd l k)++(l[k]?.elim ⟨#[]⟩ yU)
def qU:zi:=⟨false,[],[],[],0,0,0,0,false,0⟩
def Zx(l:List zi):BA:=if l.length=0 then yU qU else jd l (min l.length 4)
def qi(l:List zi):BA:=⟨#[123,34,115,116,97,116,101,109,101,110,116,34,58,91]⟩++Zx l++⟨#[93,125]⟩
theorem Dj(a:Int)(b:UInt8):(esc a b).size<=6:=by
 unfold esc
 split
 ·exact by decide
 split
 ·exact by decide
 split
 ·exact by decide
 ·show 1<=6;omega
theorem KR(s:BA)(a:Int):∀k,(ZH s a k).size<=6*k+1
 | 0=>by show 1<=1;omega
 | k+1=>by
  have b:=KR s a k;have c:=Dj a (s.data.toList.getD k 0);rw[ZH,ByteArray.size_append];omega
theorem KQ(s:BA)(a:Int):(jC s a).size<=6*s.size+2:=by
 have b:=KR s a s.size;have c:(⟨#[34]⟩:BA).size=1:=rfl;rw[jC,ByteArray.size_append];omega
theorem Mq:∀b ∈ Xt,b.size<=2:=by decide
theorem uw{P:BA->Prop}{l:List BA}(h:∀b ∈ l,P b)(a:P ⟨#[]⟩)(k:Nat):P (l.getD k ⟨#[]⟩):=by
 rw[List.getD_eq_getElem?_getD]
 cases e:l[k]? with
 | none=>exact a
 | some b=>exact h b (List.mem_of_getElem? e)
theorem QN(a:Int):(xB a).size<=2:=uw (P:=λb=>b.size<=2) Mq (by decide) _
theorem X3(l:List BA)(a:Int)(h:∀b ∈ l,b.size<=8):∀k,(qQ l a k).size<=53*k+3
 | 0=>by
  have c:=QN a;have d:(⟨#[91]⟩:BA).size=1:=rfl;rw[qQ,ByteArray.size_append];omega
 | k+1=>by
  have c:=X3 l a h k;have d:=KQ (l.getD k ⟨#[]⟩) a;have e:=uw (P:=λb=>b.size<=8) h (by decide) k;have f:=QN a;have g:(⟨#[44]⟩:BA).size=1:=rfl;rw[qQ,ByteArray.size_append]
  split
  ·rw[ByteArray.size_append,ByteArray.size_append];omega
  ·omega
theorem QG(l:List BA)(a:Int)(h:∀b ∈ l,b.size<=8):(xm l a).size<=53*l.length+6:=by
 unfold xm
 split
 ·have c:=KQ (l.getD 0 ⟨#[]⟩) a;have d:=uw (P:=λb=>b.size<=8) h (by decide) 0;omega
 ·have e:=X3 l a h l.length;have c:=QN a;have d:(⟨#[93]⟩:BA).size=1:=rfl;rw[ByteArray.size_append,ByteArray.size_append];omega
theorem Vu:∀b ∈ patterns,b.size<=8:=by decide
theorem VU:∀b ∈ words,b.size<=8:=by decide
theorem Ku:∀b ∈ nums,b.size<=8:=by decide
theorem aO:∀b ∈ Zk,b.size<=8:=by decide
theorem gN:∀b ∈ keys,b.size<=3:=by decide
theorem Pp{raw:List Int}{b:BA}(h:b ∈ jD raw):b ∈ patterns:=by
 unfold jD at h;rw[List.mem_map] at h;obtain⟨c,_,rfl⟩:=h;have a:=qR c 14 (by decide);have e:patterns.getD (zm c 14) ⟨#[]⟩=patterns[zm c 14]'a:=by rw[List.getD_eq_getElem?_getD,List.getElem?_eq_getElem a];rfl
 rw[e];exact List.getElem_mem _
theorem Po(raw:List Int):(jD raw).length<=4:=by
 unfold jD;rw[List.length_map,List.length_take];omega
theorem YL{raw:List Int}{b:BA}(h:b ∈ qp raw):b ∈ patterns:=by
 unfold qp at h
 split at h
 ·rw[List.mem_singleton] at h;subst h;exact .head _
 ·exact Pp h
theorem Z8(raw:List Int):1<=(qp raw).length/\(qp raw).length<=4:=by
 have h:=Po raw;unfold qp
 split
 ·exact⟨by decide,by decide⟩
 ·omega
theorem Uw(raw:List Int):∀b ∈ qp raw,b.size<=8:=λb hb=>Vu b (YL hb)
theorem JL(raw:List Int)(nt:Bool)(a:Int):(ym raw nt a).size<=228:=by
 have b:=QG (qp raw) a (Uw raw);have c:=(Z8 raw).2;unfold ym
 split
 ·have d:=QN a;have e:(⟨#[123]⟩:BA).size=1:=rfl;have f:(⟨#[34,110,111,116,34,58]⟩:BA).size=6:=rfl;have g:(⟨#[125]⟩:BA).size=1:=rfl;rw[ByteArray.size_append,ByteArray.size_append,ByteArray.size_append,ByteArray.size_append];omega
 ·omega
theorem Kr(r:zi):(noB r).size<=10:=by unfold noB;split<;>decide
theorem U5(r:zi):(Qf r).size<=17:=by
 have a:=uw (P:=λb=>b.size<=3) gN (by decide) (zm r.key 5);have c:(⟨#[34,107,101,121,34,58,34]⟩:BA).size=7:=rfl;have d:(⟨#[34,44,34,111,112,34,58]⟩:BA).size=7:=rfl;rw[Qf,ByteArray.size_append,ByteArray.size_append];omega
theorem JO(r:zi)(op:BA)(l:List BA)(h:op.size<=16)(g:l.length<=2)(hb:∀b ∈ l,b.size<=8):(Qa r op l).size<=158:=by
 have a:=U5 r;have c:=Kr r;have d:=QG l r.style hb;have e:(⟨#[123]⟩:BA).size=1:=rfl;have f:(⟨#[125]⟩:BA).size=1:=rfl;rw[Qa]
 repeat rw[ByteArray.size_append]
 omega
theorem dJ(r:zi):(qY r).size<=158:=by
 have one:∀{l:List BA} (k:Nat),(∀b ∈ l,b.size<=8)->∀b ∈ [l.getD k ⟨#[]⟩],b.size<=8:=λk h b hb=>by
  rw[List.mem_singleton] at hb;subst hb;exact uw (P:=λb=>b.size<=8) h (by decide) k
 unfold qY
 split
 ·have a:=U5 r;have c:=Kr r;have d:(⟨#[123]⟩:BA).size=1:=rfl;have e:(⟨#[34,97,98,115,101,110,116,34]⟩:BA).size=8:=rfl;have f:(⟨#[125]⟩:BA).size=1:=rfl
  repeat rw[ByteArray.size_append]
  omega
 ·refine JO r _ _ (by decide) (by simp) (λb hb=>?_)
  rcases List.mem_cons.1 hb with rfl|hb
  ·exact uw (P:=λb=>b.size<=8) Vu (by decide) _
  ·rw[List.mem_singleton] at hb;subst hb;decide
 ·exact JO r _ _ (by decide) (by simp) (one _ VU)
 ·exact JO r _ _ (by decide) (by simp) (one _ Ku)
 ·exact JO r _ _ (by decide) (by simp) (one _ aO)
 ·decide
theorem eQ(r:zi):(uT r).size<=19:=by
 unfold uT
 split
 ·have a:=QN r.style;have b:(⟨#[123,34,101,102,102,101,99,116,34,58,34,100,101,110,121,34,44]⟩:BA).size=17:=rfl;rw[ByteArray.size_append];omega
 ·decide
theorem pI(r:zi):(ZO r).size<=185:=by
 have a:=eQ r;have b:=dJ r;have c:(⟨#[34,105,102,34,58,91]⟩:BA).size=6:=rfl;have d:(⟨#[93,44]⟩:BA).size=2:=rfl;unfold ZO
 split
 ·omega
 ·repeat rw[ByteArray.size_append]
  omega
theorem VH(r:zi):(yU r).size<=888:=by
 have i:=pI r;have a:=λraw nt=>JL raw nt r.style;have b:=a r.on (decide (zm r.nt 16=1));have c:=a r.who (decide (zm r.nt 16=2));have d:=a r.act (decide (zm r.nt 16=3));have e:(⟨#[34,111,110,34,58]⟩:BA).size=5:=rfl;have f:(⟨#[44,34,119,104,111,34,58]⟩:BA).size=7:=rfl;have g:(⟨#[44,34,100,111,34,58]⟩:BA).size=6:=rfl;have h:(⟨#[125]⟩:BA).size=1:=rfl;unfold yU
 repeat rw[ByteArray.size_append]
 omega
theorem KJ(l:List zi):∀k,(jd l k).size<=889*k
 | 0=>Nat.le_refl 0
 | k+1=>by
  have a:=KJ l k;have c:(⟨#[44]⟩:BA).size=1:=rfl
  have b:(l[k]?.elim ⟨#[]⟩ yU).size<=888:=by
   cases e:l[k]? with
   | none=>decide
   | some r=>exact VH r
  rw[jd,ByteArray.size_append]
  split
  ·rw[ByteArray.size_append];omega
  ·omega
theorem cB(l:List zi):(Zx l).size<=3556:=by
 unfold Zx
 split
 ·have:=VH qU;omega
 ·have a:=KJ l (min l.length 4)
  have:min l.length 4<=4:=Nat.min_le_right _ _
  omega
theorem lY(l:List zi):(qi l).size<=3572:=by
 have a:=cB l;have b:(⟨#[123,34,115,116,97,116,101,109,101,110,116,34,58,91]⟩:BA).size=14:=rfl;have c:(⟨#[93,125]⟩:BA).size=2:=rfl;unfold qi;rw[ByteArray.size_append,ByteArray.size_append];omega
end Kp
end Go.Proofs.YtdakgnaojakldaaGreatDoor
namespace Go.Proofs.YtdakgnaojakldaaGreatDoor
open Go.RowKit
def I64(x:Int):Prop:=-9223372036854775808<=x/\x<=9223372036854775807
theorem I64.tdiv{x:Int}(h:I64 x)(d:Nat):I64 (x.tdiv d):=by
 obtain⟨b,c⟩:=h;have e:(x.tdiv d).natAbs=x.natAbs / d:=by rw[Int.natAbs_tdiv];rfl
 have hle:x.natAbs / d<=x.natAbs:=Nat.div_le_self _ _
 by_cases h0:0<=x
 ·have:=Int.tdiv_nonneg h0 (show (0:Int)<=(d:Int) by omega)
  unfold I64;omega
 ·have a:=Int.tdiv_nonneg (show (0:Int) <= -x by omega) (show (0:Int)<=(d:Int) by omega);rw[Int.neg_tdiv] at a;unfold I64;omega
theorem MU(c:Int)(n:Nat)(h:c<0):-(c+1).tmod (n:Int)=(Kp.zm c n:Int):=by
 unfold Kp.zm;rw[if_pos h,<- Int.neg_tmod,Int.tmod_eq_emod_of_nonneg (by omega)];have a:=Int.emod_nonneg (-(c+1)) (b:=(n:Int))
 by_cases hn:(n:Int)=0
 ·rw[hn,Int.emod_zero];omega
 ·have:=a hn;omega
theorem MV(c:Int)(n:Nat)(h:0<=c):c % (n:Int)=(Kp.zm c n:Int):=by
 unfold Kp.zm;rw[if_neg (by omega)];have a:=Int.emod_nonneg c (b:=(n:Int))
 by_cases hn:(n:Int)=0
 ·rw[hn,Int.emod_zero];omega
 ·have:=a hn;omega
theorem vC(c:Int)(n:Nat)(w:World)(a:I64 c)(h:0<n)(g:n<=1000000) :
  Calls prog 19 #[.int .i64 c,.int .i64 (n:Int)] w λe b=>e = .returned (.int .i64 (Kp.zm c n:Int))/\b=w:=by
 obtain⟨d,f⟩:=a
 by_cases h0:c<0
 ·have e:=hid (MU c n h0);go_enter func19,ntmps19
  go_wp2
  go_ret;exact⟨by rw[<- e.out];rfl,rfl⟩
 ·have e:=hid (MV c n (by omega));go_enter func19,ntmps19
  go_wp2
  go_ret;exact⟨by rw[<- e.out];rfl,rfl⟩
theorem Qi(w:World)(l:List BA)(k:Nat)(h:k<l.length):(w.alloc (.cells (l.map Value.string).toArray 9)).cell? ⟨w.heap.size,k,none⟩=some (.string (l.getD k ⟨#[]⟩)):=by
 have a:=(za (heap_alloc_new w (.cells (l.map Value.string).toArray 9)) k).1;rw[a,List.getD_eq_getElem?_getD];simp[List.getElem?_map,List.getElem?_eq_getElem h]
theorem KH(a:Int)(w:World)(i:I64 a) :
  Calls prog 77 #[.int .i64 a] w λe m=>e = .returned (.string (Kp.xB a))/\Below w.heap.size w m:=by
 have h:=i.tdiv 8;have c1:=λW=>vC (a.tdiv (8:Nat)) 4 W h (by decide) (by decide);have b:=Kp.qR (a.tdiv (8:Nat)) 4 (by decide);have g:Kp.xB a=Kp.Xt.getD (Kp.zm (a.tdiv (8:Nat)) 4) ⟨#[]⟩:=rfl;rw[g];obtain⟨k,c⟩:=Nm (Kp.zm (a.tdiv (8:Nat)) 4);rw[c] at b |-;simp only[c] at c1;have j:=hid c1;have d:=Qi w Kp.Xt k b;obtain⟨P,f⟩:=Nm (Kp.Xt.getD k ⟨#[]⟩);rw[f] at d |-;have l:(w.alloc (.cells #[.string ⟨#[]⟩,.string ⟨#[32]⟩,.string ⟨#[10,9]⟩,.string ⟨#[13,32]⟩] 9)).cell? ⟨w.heap.size,k,none⟩=some (.string P):=d;obtain⟨n,o⟩:=i;clear c1 f c g d h;go_enter func77,ntmps77
 go_wp2_with (go_at_call 19;refine (j.out _).mono ?_;rintro e p ⟨rfl,rfl⟩)
 go_ret;exact⟨rfl,nB w _⟩
theorem GQ(c:Int)(w:World)(g:I64 c) :
  Calls prog 128 #[.int .i64 c] w λe j=>e = .returned (.string (Kp.keys.getD (Kp.zm c 5) ⟨#[]⟩))/\Below w.heap.size w j:=by
 have c1:=λW=>vC c 5 W g (by decide) (by decide);have a:=Kp.qR c 5 (by decide);obtain⟨k,b⟩:=Nm (Kp.zm c 5);rw[b] at a |-;simp only[b] at c1;have h:=hid c1;have d:=Qi w Kp.keys k a;obtain⟨P,f⟩:=Nm (Kp.keys.getD k ⟨#[]⟩);rw[f] at d |-;have i:(w.alloc (.cells #[.string ⟨#[119,104,111]⟩,.string ⟨#[100,111]⟩,.string ⟨#[111,110]⟩,.string ⟨#[116,97,103]⟩,.string ⟨#[97,103,101]⟩] 9)).cell? ⟨w.heap.size,k,none⟩=some (.string P):=d;obtain⟨l,m⟩:=g;clear c1 f b d;go_enter func128,ntmps128
 go_wp2_with (go_at_call 19;refine (h.out _).mono ?_;rintro e n ⟨rfl,rfl⟩)
 go_ret;exact⟨rfl,nB w _⟩
theorem pQ(w:World) :
  Calls prog 91 #[] w λe a=>e = .returned (.slice (some ⟨w.heap.size,0,none⟩) 14 14)/\a=w.alloc (.cells (Kp.words.map Value.string).toArray 9):=by
 go_enter func91,ntmps91
 go_wp2
 go_ret;exact⟨rfl,rfl⟩
theorem mG(w:World) :
  Calls prog 129 #[] w λe a=>e = .returned (.slice (some ⟨w.heap.size,0,none⟩) 14 14)/\a=w.alloc (.cells (Kp.patterns.map Value.string).toArray 9):=by
 go_enter func129,ntmps129
 go_wp2
 go_ret;exact⟨rfl,rfl⟩
theorem Ng(s:BA)(a:Int)(k:Nat)(h:k<s.size):Kp.ZH s a (k+1)=Kp.ZH s a k++Kp.esc a s[k]:=by
 rw[Kp.ZH,List.getD_eq_getElem?_getD];have b:k<s.data.toList.length:=by rw[Ref.zy];exact h
 rw[List.getElem?_eq_getElem b]
 rfl
theorem Rx(t:BA)(k:Nat)(h:k<t.size):t.extract k (k+1)=⟨#[t[k]]⟩:=by
 apply ByteArray.ext;apply Array.toList_inj.1;have a:k<t.data.toList.length:=by rw[Ref.zy];exact h
 simp only[ByteArray.data_extract,Array.toList_extract,List.extract_eq_take_drop];rw[show k+1-k=1 by omega,List.drop_eq_getElem_cons a]
 rfl
theorem Nf(s:BA)(a:Int)(w:World)(K:s.size<=1000)(D:I64 a) :
  Calls prog 183 #[.string s,.int .i64 a] w λe I=>e = .returned (.string (Kp.jC s a))/\I=w:=by
 obtain⟨P,Q⟩:=D;obtain⟨R,C⟩:=Nm (Kp.jC s a);rw[C];have B:=hid C;clear C;obtain⟨j,d⟩:∃b,Kp.bit a 1=b:=⟨_,rfl⟩;obtain⟨l,f⟩:∃b,Kp.bit a 2=b:=⟨_,rfl⟩;obtain⟨m,g⟩:∃b,Kp.bit a 4=b:=⟨_,rfl⟩;have L:(a.tmod 2 != 0)=j:=by rw[<- d,Kp.bit,Int.tdiv_one];by_cases h:a.tmod 2=0<;>simp[h]
 have M:((a.tdiv 2).tmod 2 != 0)=l:=by rw[<- f,Kp.bit];by_cases h:(a.tdiv 2).tmod 2=0<;>simp[h]
 have N:((a.tdiv 4).tmod 2 != 0)=m:=by rw[<- g,Kp.bit];by_cases h:(a.tdiv 4).tmod 2=0<;>simp[h]
 have G:∀b,Kp.esc a b=if b.toNat=47/\j=true then ⟨#[92,47]⟩ else if b.toNat=97/\l=true then ⟨#[92,117,48,48,54,49]⟩ else if b.toNat=42/\m=true then ⟨#[92,117,48,48,50,65]⟩ else ⟨#[b]⟩:=λb=>by rw[<- d,<- f,<- g];rfl
 have A:=hid G;clear G d f g;go_enter func183,ntmps183
 go_wp2
 obtain⟨O,x⟩:∃O:Nat->BA,Kp.ZH s a=O:=⟨_,rfl⟩;have r:∀k,(O k).size<=6*k+1:=λk=>by rw[<- x];exact Kp.KR s a k
 have u:=hid x;have n:=hid r;have F:Hid (O 0=⟨#[34]⟩):=by rw[<- x];rfl
 clear x r
 go_loopw [5,6] (λH E wr=>∃k:Nat,k<=s.size/\E = .int .i64 k/\H = .string (O k)/\wr=w) (λ_ E _=>s.size-(intOf E).toNat)
 case atStart=>exact⟨0,Nat.zero_le _,rfl,by rw[F.out],rfl⟩
 case round=>
  obtain⟨k,J,rfl,rfl,t⟩:=hrel;rw[t];clear t;have z:=n.out k;obtain⟨o,q⟩:=Nm (O k);rw[q] at z |-
  by_cases hlt:k<s.size
  ·have c:Hid (O (k+1)=o++Kp.esc a s[k]):=by rw[<- q,<- u.out];exact Ng s a k hlt
   have y:=hid (Rx s k hlt);rw[A.out] at c;clear q u n F B A
   by_cases c1:s[k].toNat=47/\j=true
   ·obtain⟨c1,rfl⟩:=c1;rw[if_pos ⟨c1,rfl⟩] at c;have i:((s[k].toNat:Int)==47)=true:=by simp;omega
    go_wp2
    go_roundw
    case rel=>exact⟨k+1,by omega,by go_num,by rw[c.out],trivial⟩
    case measure=>simp[intOf];omega
   rw[if_neg c1] at c
   by_cases c2:s[k].toNat=97/\l=true
   ·obtain⟨c2,rfl⟩:=c2;rw[if_pos ⟨c2,rfl⟩] at c;have i:((s[k].toNat:Int)==47)=false:=by simp;omega
    have p:((s[k].toNat:Int)==97)=true:=by simp;omega
    go_wp2
    go_roundw
    case rel=>exact⟨k+1,by omega,by go_num,by rw[c.out],trivial⟩
    case measure=>simp[intOf];omega
   rw[if_neg c2] at c
   by_cases c3:s[k].toNat=42/\m=true
   ·obtain⟨c3,rfl⟩:=c3;rw[if_pos ⟨c3,rfl⟩] at c;have i:((s[k].toNat:Int)==47)=false:=by simp;omega
    have p:((s[k].toNat:Int)==97)=false:=by simp;omega
    have v:((s[k].toNat:Int)==42)=true:=by simp;omega
    go_wp2
    go_roundw
    case rel=>exact⟨k+1,by omega,by go_num,by rw[c.out],trivial⟩
    case measure=>simp[intOf];omega
   rw[if_neg c3] at c
   by_cases d1:s[k].toNat=47
   ·have hb:j=false:=by cases j with
     | true=>exact absurd ⟨d1,rfl⟩ c1
     | false=>rfl
    subst hb;have i:((s[k].toNat:Int)==47)=true:=by simp;omega
    have p:((s[k].toNat:Int)==97)=false:=by simp;omega
    have v:((s[k].toNat:Int)==42)=false:=by simp;omega
    go_wp2
    go_roundw
    case rel=>exact⟨k+1,by omega,by go_num,by rw[c.out,y.out],trivial⟩
    case measure=>simp[intOf];omega
   by_cases d2:s[k].toNat=97
   ·have hb:l=false:=by cases l with
     | true=>exact absurd ⟨d2,rfl⟩ c2
     | false=>rfl
    subst hb;have i:((s[k].toNat:Int)==47)=false:=by simp;omega
    have p:((s[k].toNat:Int)==97)=true:=by simp;omega
    have v:((s[k].toNat:Int)==42)=false:=by simp;omega
    go_wp2
    go_roundw
    case rel=>exact⟨k+1,by omega,by go_num,by rw[c.out,y.out],trivial⟩
    case measure=>simp[intOf];omega
   by_cases d3:s[k].toNat=42
   ·have hb:m=false:=by cases m with
     | true=>exact absurd ⟨d3,rfl⟩ c3
     | false=>rfl
    subst hb;have i:((s[k].toNat:Int)==47)=false:=by simp;omega
    have p:((s[k].toNat:Int)==97)=false:=by simp;omega
    have v:((s[k].toNat:Int)==42)=true:=by simp;omega
    go_wp2
    go_roundw
    case rel=>exact⟨k+1,by omega,by go_num,by rw[c.out,y.out],trivial⟩
    case measure=>simp[intOf];omega
   ·have i:((s[k].toNat:Int)==47)=false:=by simp;omega
    have p:((s[k].toNat:Int)==97)=false:=by simp;omega
    have v:((s[k].toNat:Int)==42)=false:=by simp;omega
    go_wp2
    go_roundw
    case rel=>exact⟨k+1,by omega,by go_num,by rw[c.out,y.out],trivial⟩
    case measure=>simp[intOf];omega
  ·have e:R=o++⟨#[34]⟩:=by rw[<- B.out,<- q,<- u.out,Kp.jC,show k=s.size by omega]
   subst e;clear B u q A
   go_wp2
   go_ret;exact⟨rfl,rfl⟩
end Go.Proofs.YtdakgnaojakldaaGreatDoor
