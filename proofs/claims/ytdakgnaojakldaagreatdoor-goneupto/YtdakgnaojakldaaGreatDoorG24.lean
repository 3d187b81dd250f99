/- P -/
import Derived.Test.YtdakgnaojakldaaGreatDoorG23
open Go.Proofs.Tryz
set_option maxRecDepth 100000
set_option maxHeartbeats 1000000
namespace Go.Proofs.YtdakgnaojakldaaGreatDoor.gone
open Go.ChangeShapes Go.WideShapes Go.ChangeAt Go.RowKit Go.Joins Go.Deep
def Zm:Array Value:=#[.slice none 0 0,.slice none 0 0,.int .i64 0,.int .i64 0,.slice none 0 0]
theorem TY(os:Os):((laws.laidWorld os).forCall (λ_ _=>0) ⟨#[],Zm,[]⟩).variablesRefB prog=true:=by kernel_rfl
theorem TV(os:Os):(((laws.laidWorld os).forCall (λ_ _=>0) ⟨#[],Zm,[]⟩).heap.toList.drop prog.globals.size).take ((begin prog (λ_ _=>0) default).world.heap.size-prog.globals.size) =
   (begin prog (λ_ _=>0) default).world.heap.toList.drop prog.globals.size:=by kernel_rfl
theorem TU(os:Os):Input.okWideB prog ((laws.laidWorld os).forCall (λ_ _=>0) ⟨#[],Zm,[]⟩) 10 ⟨#[],Zm,[]⟩=true:=by kernel_rfl
theorem TW(os:Os){H:Type}(enc:TypeId×Value->H):(Rows.OpenSpec.upto Rows.goneSpec).bare.sizedB enc prog Tryz.f10 false ((laws.laidWorld os).forCall (λ_ _=>0) ⟨#[],Zm,[]⟩).memory Zm 8=true:=by kernel_rfl
theorem TT:prog.inits.idxOf? 10=none:=by kernel_rfl
theorem reads(os:Os){H:Type}(enc:TypeId×Value->H):∃a,DataW.whole enc prog ((laws.laidWorld os).forCall (λ_ _=>0) ⟨#[],Zm,[]⟩).memory Tryz.f10.params.toList Rows.goneSpec.vars false Zm.toList 8
  = some ([.nil,.nil,.lit (.int .i64 0),.lit (.int .i64 0),.nil],[],a):=by
 have c:(DataW.whole enc prog ((laws.laidWorld os).forCall (λ_ _=>0) ⟨#[],Zm,[]⟩).memory Tryz.f10.params.toList Rows.goneSpec.vars false Zm.toList 8).map (λx=>(x.1,x.2.1)) =
   some ([.nil,.nil,.lit (.int .i64 0),.lit (.int .i64 0),.nil],[]):=by kernel_rfl
 obtain⟨⟨f,g,e⟩,d,b⟩:=Option.map_eq_some_iff.1 c;simp only[Prod.mk.injEq] at b;obtain⟨rfl,rfl⟩:=b;exact⟨e,d⟩
end Go.Proofs.YtdakgnaojakldaaGreatDoor.gone
namespace Go.Proofs.YtdakgnaojakldaaGreatDoor
namespace Kp
def zk(c:Int)(n:Nat):Nat:=((if c<0 then -(c+1) else c) % (n:Int)).toNat
theorem qP(c:Int)(n:Nat)(h:0<n):zk c n<n:=by
 unfold zk;have a:=Int.emod_nonneg (if c<0 then -(c+1) else c) (show (n:Int)≠0 by omega)
 have b:=Int.emod_lt_of_pos (if c<0 then -(c+1) else c) (show (0:Int)<n by omega)
 omega
def bit(st d:Int):Bool:=decide ((st.tdiv d).tmod 2≠0)
def words:List BA:=[⟨#[97,110,110]⟩,⟨#[98,111,98]⟩,⟨#[114,101,97,100]⟩,⟨#[119,114,105,116,101]⟩,⟨#[98,111,120]⟩,⟨#[98,111,120,47,49]⟩,⟨#[98,111,120,47,195,169]⟩,⟨#[98,111,120,47,49,47,97]⟩,⟨#[]⟩,⟨#[42]⟩,⟨#[97]⟩,⟨#[55]⟩,⟨#[45,51]⟩,⟨#[49,56]⟩]
def patterns:List BA:=[⟨#[42]⟩,⟨#[97,110,110]⟩,⟨#[98,42]⟩,⟨#[114,101,97,100]⟩,⟨#[63,63,63,63,63]⟩,⟨#[98,111,120,47,42]⟩,⟨#[98,111,120,47,63]⟩,⟨#[36,123,119,104,111,125]⟩,⟨#[42,36,123,116,97,103,125,42]⟩,⟨#[36,42]⟩,⟨#[]⟩,⟨#[42,97,42]⟩,⟨#[98,111,120,47,195,169]⟩,⟨#[36,123,111,110,125,47,42]⟩]
def keys:List BA:=[⟨#[119,104,111]⟩,⟨#[100,111]⟩,⟨#[111,110]⟩,⟨#[116,97,103]⟩,⟨#[97,103,101]⟩]
def nums:List BA:=[⟨#[48]⟩,⟨#[56]⟩,⟨#[45,52]⟩,⟨#[49,48,48]⟩]
def Zk:List BA:=[⟨#[98,111,120]⟩,⟨#[98,111,120,47,49]⟩,⟨#[97]⟩]
def Xz:List BA:=[⟨#[]⟩,⟨#[32]⟩,⟨#[10,9]⟩,⟨#[13,32]⟩]
def esc(st:Int)(b:UInt8):BA:=
 if b.toNat=47/\bit st 1=true then ⟨#[92,47]⟩ else if b.toNat=97/\bit st 2=true then ⟨#[92,117,48,48,54,49]⟩ else if b.toNat=42/\bit st 4=true then ⟨#[92,117,48,48,50,65]⟩ else ⟨#[b]⟩
def ZM(s:BA)(st:Int):Nat->BA
 | 0=>⟨#[34]⟩
 | k+1=>ZM s st k++esc st (s.data.toList.getD k 0)
def jF(s:BA)(st:Int):BA:=ZM s st s.size++⟨#[34]⟩
def xN(st:Int):BA:=Xz.getD (zk (st.tdiv 8) 4) ⟨#[]⟩
def qV(l:List BA)(st:Int):Nat->BA
 | 0=>⟨#[91]⟩++xN st
 | k+1=>(if 0<k then qV l st k++⟨#[44]⟩++xN st else qV l st k)++jF (l.getD k ⟨#[]⟩) st
def qO(l:List BA)(st:Int):BA:=if l.length=1/\bit st 32=true then jF (l.getD 0 ⟨#[]⟩) st else qV l st l.length++⟨#[93]⟩++xN st
def jG(raw:List Int):List BA:=(raw.take 4).map λc=>patterns.getD (zk c 14) ⟨#[]⟩
def qg(raw:List Int):List BA:=if (jG raw).length=0 then [⟨#[42]⟩] else jG raw
def yw(raw:List Int)(nt:Bool)(st:Int):BA:=if nt then ⟨#[123]⟩++xN st++⟨#[34,110,111,116,34,58]⟩++qO (qg raw) st++⟨#[125]⟩ else qO (qg raw) st
structure zl where
 deny:Bool
 who:List Int
 act:List Int
 on:List Int
 nt:Int
 iff:Int
 key:Int
 val:Int
 no:Bool
 style:Int
def noB(r:zl):BA:=if r.no then ⟨#[44,34,110,111,34,58,116,114,117,101]⟩ else ⟨#[]⟩
def Ql(r:zl):BA:=⟨#[34,107,101,121,34,58,34]⟩++keys.getD (zk r.key 5) ⟨#[]⟩++⟨#[34,44,34,111,112,34,58]⟩
def Qd(r:zl)(op:BA)(l:List BA):BA:=⟨#[123]⟩++Ql r++op++qO l r.style++noB r++⟨#[125]⟩
def lh:BA:=⟨#[34,108,105,107,101,34,44,34,118,97,108,117,101,34,58]⟩
def oQ:BA:=⟨#[34,115,97,109,101,34,44,34,118,97,108,117,101,34,58]⟩
def dQ:BA:=⟨#[34,98,101,108,111,119,34,44,34,118,97,108,117,101,34,58]⟩
def rY:BA:=⟨#[34,117,110,100,101,114,34,44,34,118,97,108,117,101,34,58]⟩
def xm(r:zl):BA:=
 match zk r.iff 8 with
 | 1=>⟨#[123]⟩++Ql r++⟨#[34,97,98,115,101,110,116,34]⟩++noB r++⟨#[125]⟩
 | 6=>Qd r lh [patterns.getD (zk r.val 14) ⟨#[]⟩,⟨#[120]⟩]
 | 2=>Qd r oQ [words.getD (zk r.val 14) ⟨#[]⟩]
 | 3=>Qd r dQ [nums.getD (zk r.val 4) ⟨#[]⟩]
 | 4=>Qd r rY [Zk.getD (zk r.val 3) ⟨#[]⟩]
 | _=>⟨#[]⟩
def uX(r:zl):BA:=if r.deny then ⟨#[123,34,101,102,102,101,99,116,34,58,34,100,101,110,121,34,44]⟩++xN r.style else ⟨#[123,34,101,102,102,101,99,116,34,58,34,97,108,108,111,119,34,44]⟩
def ZT(r:zl):BA:=if (xm r).size=0 then uX r else uX r++⟨#[34,105,102,34,58,91]⟩++xm r++⟨#[93,44]⟩
def jc(r:zl):BA:=
 ZT r++⟨#[34,111,110,34,58]⟩++yw r.on (decide (zk r.nt 16=1)) r.style++⟨#[44,34,119,104,111,34,58]⟩++yw r.who (decide (zk r.nt 16=2)) r.style++⟨#[44,34,100,111,34,58]⟩++yw r.act (decide (zk r.nt 16=3)) r.style++⟨#[125]⟩
def jm(l:List zl):Nat->BA
 | 0=>⟨#[]⟩
 | k+1=>(if 0<k then jm l k++⟨#[44]⟩ else jm l k)++(l[k]?.elim ⟨#[]⟩ jc)
def xu:zl:=⟨false,[],[],[],0,0,0,0,false,0⟩
def ZA(l:List zl):BA:=if l.length=0 then jc xu else jm l (min l.length 4)
def qp(l:List zl):BA:=⟨#[123,34,115,116,97,116,101,109,101,110,116,34,58,91]⟩++ZA l++⟨#[93,125]⟩
theorem En(st:Int)(b:UInt8):(esc st b).size<=6:=by
 unfold esc
 split
 ·exact by decide
 split
 ·exact by decide
 split
 ·exact by decide
 ·show 1<=6;omega
theorem ay(s:BA)(st:Int):∀k,(ZM s st k).size<=6*k+1
 | 0=>by show 1<=1;omega
 | k+1=>by
  have a:=ay s st k;have b:=En st (s.data.toList.getD k 0);rw[ZM,ByteArray.size_append];omega
theorem ax(s:BA)(st:Int):(jF s st).size<=6*s.size+2:=by
 have a:=ay s st s.size;have b:(⟨#[34]⟩:BA).size=1:=rfl;rw[jF,ByteArray.size_append];omega
theorem Ni:∀b ∈ Xz,b.size<=2:=by decide
theorem uz{P:BA->Prop}{l:List BA}(h:∀b ∈ l,P b)(a:P ⟨#[]⟩)(k:Nat):P (l.getD k ⟨#[]⟩):=by
 rw[List.getD_eq_getElem?_getD]
 cases e:l[k]? with
 | none=>exact a
 | some b=>exact h b (List.mem_of_getElem? e)
theorem QQ(st:Int):(xN st).size<=2:=uz (P:=λb=>b.size<=2) Ni (by decide) _
theorem Xu(l:List BA)(st:Int)(h:∀b ∈ l,b.size<=8):∀k,(qV l st k).size<=53*k+3
 | 0=>by
  have a:=QQ st;have c:(⟨#[91]⟩:BA).size=1:=rfl;rw[qV,ByteArray.size_append];omega
 | k+1=>by
  have a:=Xu l st h k;have c:=ax (l.getD k ⟨#[]⟩) st;have d:=uz (P:=λb=>b.size<=8) h (by decide) k;have e:=QQ st;have f:(⟨#[44]⟩:BA).size=1:=rfl;rw[qV,ByteArray.size_append]
  split
  ·rw[ByteArray.size_append,ByteArray.size_append];omega
  ·omega
theorem QM(l:List BA)(st:Int)(h:∀b ∈ l,b.size<=8):(qO l st).size<=53*l.length+6:=by
 unfold qO
 split
 ·have a:=ax (l.getD 0 ⟨#[]⟩) st;have c:=uz (P:=λb=>b.size<=8) h (by decide) 0;omega
 ·have d:=Xu l st h l.length;have a:=QQ st;have c:(⟨#[93]⟩:BA).size=1:=rfl;rw[ByteArray.size_append,ByteArray.size_append];omega
theorem Jw:∀b ∈ patterns,b.size<=8:=by decide
theorem Ug:∀b ∈ words,b.size<=8:=by decide
theorem KT:∀b ∈ nums,b.size<=8:=by decide
theorem bS:∀b ∈ Zk,b.size<=8:=by decide
theorem KE:∀b ∈ keys,b.size<=3:=by decide
theorem Rw{raw:List Int}{b:BA}(h:b ∈ jG raw):b ∈ patterns:=by
 unfold jG at h;rw[List.mem_map] at h;obtain⟨c,_,rfl⟩:=h;have a:=qP c 14 (by decide);have e:patterns.getD (zk c 14) ⟨#[]⟩=patterns[zk c 14]'a:=by rw[List.getD_eq_getElem?_getD,List.getElem?_eq_getElem a];rfl
 rw[e];exact List.getElem_mem _
theorem Rv(raw:List Int):(jG raw).length<=4:=by
 unfold jG;rw[List.length_map,List.length_take];omega
theorem QF{raw:List Int}{b:BA}(h:b ∈ qg raw):b ∈ patterns:=by
 unfold qg at h
 split at h
 ·rw[List.mem_singleton] at h;subst h;exact .head _
 ·exact Rw h
theorem ZB(raw:List Int):1<=(qg raw).length/\(qg raw).length<=4:=by
 have h:=Rv raw;unfold qg
 split
 ·exact⟨by decide,by decide⟩
 ·omega
theorem UR(raw:List Int):∀b ∈ qg raw,b.size<=8:=λb hb=>Jw b (QF hb)
theorem J9(raw:List Int)(nt:Bool)(st:Int):(yw raw nt st).size<=228:=by
 have a:=QM (qg raw) st (UR raw);have b:=(ZB raw).2;unfold yw
 split
 ·have c:=QQ st;have d:(⟨#[123]⟩:BA).size=1:=rfl;have e:(⟨#[34,110,111,116,34,58]⟩:BA).size=6:=rfl;have f:(⟨#[125]⟩:BA).size=1:=rfl;rw[ByteArray.size_append,ByteArray.size_append,ByteArray.size_append,ByteArray.size_append];omega
 ·omega
theorem KQ(r:zl):(noB r).size<=10:=by unfold noB;split<;>decide
theorem Kq(r:zl):(Ql r).size<=17:=by
 have a:=uz (P:=λb=>b.size<=3) KE (by decide) (zk r.key 5);have c:(⟨#[34,107,101,121,34,58,34]⟩:BA).size=7:=rfl;have d:(⟨#[34,44,34,111,112,34,58]⟩:BA).size=7:=rfl;rw[Ql,ByteArray.size_append,ByteArray.size_append];omega
theorem Vf(r:zl)(op:BA)(l:List BA)(h:op.size<=16)(g:l.length<=2)(hb:∀b ∈ l,b.size<=8):(Qd r op l).size<=158:=by
 have a:=Kq r;have c:=KQ r;have d:=QM l r.style hb;have e:(⟨#[123]⟩:BA).size=1:=rfl;have f:(⟨#[125]⟩:BA).size=1:=rfl;rw[Qd]
 repeat rw[ByteArray.size_append]
 omega
theorem eY(r:zl):(xm r).size<=158:=by
 have one:∀{l:List BA} (k:Nat),(∀b ∈ l,b.size<=8)->∀b ∈ [l.getD k ⟨#[]⟩],b.size<=8:=λk h b hb=>by
  rw[List.mem_singleton] at hb;subst hb;exact uz (P:=λb=>b.size<=8) h (by decide) k
 unfold xm
 split
 ·have a:=Kq r;have c:=KQ r;have d:(⟨#[123]⟩:BA).size=1:=rfl;have e:(⟨#[34,97,98,115,101,110,116,34]⟩:BA).size=8:=rfl;have f:(⟨#[125]⟩:BA).size=1:=rfl
  repeat rw[ByteArray.size_append]
  omega
 ·refine Vf r _ _ (by decide) (by simp) (λb hb=>?_)
  rcases List.mem_cons.1 hb with rfl|hb
  ·exact uz (P:=λb=>b.size<=8) Jw (by decide) _
  ·rw[List.mem_singleton] at hb;subst hb;decide
 ·exact Vf r _ _ (by decide) (by simp) (one _ Ug)
 ·exact Vf r _ _ (by decide) (by simp) (one _ KT)
 ·exact Vf r _ _ (by decide) (by simp) (one _ bS)
 ·decide
theorem gq(r:zl):(uX r).size<=19:=by
 unfold uX
 split
 ·have a:=QQ r.style;have b:(⟨#[123,34,101,102,102,101,99,116,34,58,34,100,101,110,121,34,44]⟩:BA).size=17:=rfl;rw[ByteArray.size_append];omega
 ·decide
theorem sD(r:zl):(ZT r).size<=185:=by
 have a:=gq r;have b:=eY r;have c:(⟨#[34,105,102,34,58,91]⟩:BA).size=6:=rfl;have d:(⟨#[93,44]⟩:BA).size=2:=rfl;unfold ZT
 split
 ·omega
 ·repeat rw[ByteArray.size_append]
  omega
theorem VZ(r:zl):(jc r).size<=888:=by
 have i:=sD r;have a:=λraw nt=>J9 raw nt r.style;have b:=a r.on (decide (zk r.nt 16=1));have c:=a r.who (decide (zk r.nt 16=2));have d:=a r.act (decide (zk r.nt 16=3));have e:(⟨#[34,111,110,34,58]⟩:BA).size=5:=rfl;have f:(⟨#[44,34,119,104,111,34,58]⟩:BA).size=7:=rfl;have g:(⟨#[44,34,100,111,34,58]⟩:BA).size=6:=rfl;have h:(⟨#[125]⟩:BA).size=1:=rfl;unfold jc
 repeat rw[ByteArray.size_append]
 omega
theorem K9(l:List zl):∀k,(jm l k).size<=889*k
 | 0=>Nat.le_refl 0
 | k+1=>by
  have a:=K9 l k;have c:(⟨#[44]⟩:BA).size=1:=rfl
  have b:(l[k]?.elim ⟨#[]⟩ jc).size<=888:=by
   cases e:l[k]? with
   | none=>decide
   | some r=>exact VZ r
  rw[jm,ByteArray.size_append]
  split
  ·rw[ByteArray.size_append];omega
  ·omega
theorem dS(l:List zl):(ZA l).size<=3556:=by
 unfold ZA
 split
 ·have:=VZ xu;omega
 ·have a:=K9 l (min l.length 4)
  have:min l.length 4<=4:=Nat.min_le_right _ _
  omega
theorem nH(l:List zl):(qp l).size<=3572:=by
 have a:=dS l;have b:(⟨#[123,34,115,116,97,116,101,109,101,110,116,34,58,91]⟩:BA).size=14:=rfl;have c:(⟨#[93,125]⟩:BA).size=2:=rfl;unfold qp;rw[ByteArray.size_append,ByteArray.size_append];omega
end Kp
end Go.Proofs.YtdakgnaojakldaaGreatDoor
namespace Go.Proofs.YtdakgnaojakldaaGreatDoor
open Go.RowKit
def I64(x:Int):Prop:=-9223372036854775808<=x/\x<=9223372036854775807
theorem I64.tdiv{x:Int}(h:I64 x)(d:Nat):I64 (x.tdiv d):=by
 obtain⟨b,c⟩:=h;have e:(x.tdiv d).natAbs=x.natAbs / d:=by rw[Int.natAbs_tdiv];rfl
 have hle:x.natAbs / d<=x.natAbs:=Nat.div_le_self _ _
 by_cases h0:0<=x
 ·have:=Int.tdiv_nonneg h0 (show (0:Int)<=(d:Int) by omega)
  unfold I64;omega
 ·have a:=Int.tdiv_nonneg (show (0:Int) <= -x by omega) (show (0:Int)<=(d:Int) by omega);rw[Int.neg_tdiv] at a;unfold I64;omega
theorem NL(c:Int)(n:Nat)(h:c<0):-(c+1).tmod (n:Int)=(Kp.zk c n:Int):=by
 unfold Kp.zk;rw[if_pos h,<- Int.neg_tmod,Int.tmod_eq_emod_of_nonneg (by omega)];have a:=Int.emod_nonneg (-(c+1)) (b:=(n:Int))
 by_cases hn:(n:Int)=0
 ·rw[hn,Int.emod_zero];omega
 ·have:=a hn;omega
theorem NM(c:Int)(n:Nat)(h:0<=c):c % (n:Int)=(Kp.zk c n:Int):=by
 unfold Kp.zk;rw[if_neg (by omega)];have a:=Int.emod_nonneg c (b:=(n:Int))
 by_cases hn:(n:Int)=0
 ·rw[hn,Int.emod_zero];omega
 ·have:=a hn;omega
theorem uf(c:Int)(n:Nat)(w:World)(a:I64 c)(h:0<n)(g:n<=1000000) :
  Calls prog 19 #[.int .i64 c,.int .i64 (n:Int)] w λe b=>e = .returned (.int .i64 (Kp.zk c n:Int))/\b=w:=by
 obtain⟨d,f⟩:=a
 by_cases h0:c<0
 ·have e:=hid (NL c n h0);go_enter func19,ntmps19
  go_wp2
  go_ret;exact⟨by rw[<- e.out];rfl,rfl⟩
 ·have e:=hid (NM c n (by omega));go_enter func19,ntmps19
  go_wp2
  go_ret;exact⟨by rw[<- e.out];rfl,rfl⟩
theorem Qo(w:World)(l:List BA)(k:Nat)(h:k<l.length):(w.alloc (.cells (l.map Value.string).toArray 9)).cell? ⟨w.heap.size,k,none⟩=some (.string (l.getD k ⟨#[]⟩)):=by
 have a:=(za (heap_alloc_new w (.cells (l.map Value.string).toArray 9)) k).1;rw[a,List.getD_eq_getElem?_getD];simp[List.getElem?_map,List.getElem?_eq_getElem h]
theorem K6(st:Int)(w:World)(h:I64 st) :
  Calls prog 77 #[.int .i64 st] w λe l=>e = .returned (.string (Kp.xN st))/\Below w.heap.size w l:=by
 have g:=h.tdiv 8;have c1:=λW=>uf (st.tdiv (8:Nat)) 4 W g (by decide) (by decide);have a:=Kp.qP (st.tdiv (8:Nat)) 4 (by decide);have f:Kp.xN st=Kp.Xz.getD (Kp.zk (st.tdiv (8:Nat)) 4) ⟨#[]⟩:=rfl;rw[f];obtain⟨k,b⟩:=Nm (Kp.zk (st.tdiv (8:Nat)) 4);rw[b] at a |-;simp only[b] at c1;have i:=hid c1;have c:=Qo w Kp.Xz k a;obtain⟨P,d⟩:=Nm (Kp.Xz.getD k ⟨#[]⟩);rw[d] at c |-;have j:(w.alloc (.cells #[.string ⟨#[]⟩,.string ⟨#[32]⟩,.string ⟨#[10,9]⟩,.string ⟨#[13,32]⟩] 9)).cell? ⟨w.heap.size,k,none⟩=some (.string P):=c;obtain⟨m,n⟩:=h;clear c1 d b f c g;go_enter func77,ntmps77
 go_wp2_with (go_at_call 19;refine (i.out _).mono ?_;rintro e o ⟨rfl,rfl⟩)
 go_ret;exact⟨rfl,nB w _⟩
theorem Iz(c:Int)(w:World)(g:I64 c) :
  Calls prog 128 #[.int .i64 c] w λe j=>e = .returned (.string (Kp.keys.getD (Kp.zk c 5) ⟨#[]⟩))/\Below w.heap.size w j:=by
 have c1:=λW=>uf c 5 W g (by decide) (by decide);have a:=Kp.qP c 5 (by decide);obtain⟨k,b⟩:=Nm (Kp.zk c 5);rw[b] at a |-;simp only[b] at c1;have h:=hid c1;have d:=Qo w Kp.keys k a;obtain⟨P,f⟩:=Nm (Kp.keys.getD k ⟨#[]⟩);rw[f] at d |-;have i:(w.alloc (.cells #[.string ⟨#[119,104,111]⟩,.string ⟨#[100,111]⟩,.string ⟨#[111,110]⟩,.string ⟨#[116,97,103]⟩,.string ⟨#[97,103,101]⟩] 9)).cell? ⟨w.heap.size,k,none⟩=some (.string P):=d;obtain⟨l,m⟩:=g;clear c1 f b d;go_enter func128,ntmps128
 go_wp2_with (go_at_call 19;refine (h.out _).mono ?_;rintro e n ⟨rfl,rfl⟩)
 go_ret;exact⟨rfl,nB w _⟩
theorem sJ(w:World) :
  Calls prog 91 #[] w λe a=>e = .returned (.slice (some ⟨w.heap.size,0,none⟩) 14 14)/\a=w.alloc (.cells (Kp.words.map Value.string).toArray 9):=by
 go_enter func91,ntmps91
 go_wp2
 go_ret;exact⟨rfl,rfl⟩
theorem nQ(w:World) :
  Calls prog 129 #[] w λe a=>e = .returned (.slice (some ⟨w.heap.size,0,none⟩) 14 14)/\a=w.alloc (.cells (Kp.patterns.map Value.string).toArray 9):=by
 go_enter func129,ntmps129
 go_wp2
 go_ret;exact⟨rfl,rfl⟩
theorem Oi(s:BA)(st:Int)(k:Nat)(h:k<s.size):Kp.ZM s st (k+1)=Kp.ZM s st k++Kp.esc st s[k]:=by
 rw[Kp.ZM,List.getD_eq_getElem?_getD];have a:k<s.data.toList.length:=by rw[Ref.zz];exact h
 rw[List.getElem?_eq_getElem a]
 rfl
theorem SI(t:BA)(k:Nat)(h:k<t.size):t.extract k (k+1)=⟨#[t[k]]⟩:=by
 apply ByteArray.ext;apply Array.toList_inj.1;have a:k<t.data.toList.length:=by rw[Ref.zz];exact h
 simp only[ByteArray.data_extract,Array.toList_extract,List.extract_eq_take_drop];rw[show k+1-k=1 by omega,List.drop_eq_getElem_cons a]
 rfl
theorem Oh(s:BA)(st:Int)(w:World)(J:s.size<=1000)(C:I64 st) :
  Calls prog 183 #[.string s,.int .i64 st] w λe H=>e = .returned (.string (Kp.jF s st))/\H=w:=by
 obtain⟨N,P⟩:=C;obtain⟨R,B⟩:=Nm (Kp.jF s st);rw[B];have A:=hid B;clear B;obtain⟨i,c⟩:∃b,Kp.bit st 1=b:=⟨_,rfl⟩;obtain⟨j,d⟩:∃b,Kp.bit st 2=b:=⟨_,rfl⟩;obtain⟨l,f⟩:∃b,Kp.bit st 4=b:=⟨_,rfl⟩;have K:(st.tmod 2 != 0)=i:=by rw[<- c,Kp.bit,Int.tdiv_one];by_cases h:st.tmod 2=0<;>simp[h]
 have L:((st.tdiv 2).tmod 2 != 0)=j:=by rw[<- d,Kp.bit];by_cases h:(st.tdiv 2).tmod 2=0<;>simp[h]
 have M:((st.tdiv 4).tmod 2 != 0)=l:=by rw[<- f,Kp.bit];by_cases h:(st.tdiv 4).tmod 2=0<;>simp[h]
 have F:∀b,Kp.esc st b=if b.toNat=47/\i=true then ⟨#[92,47]⟩ else if b.toNat=97/\j=true then ⟨#[92,117,48,48,54,49]⟩ else if b.toNat=42/\l=true then ⟨#[92,117,48,48,50,65]⟩ else ⟨#[b]⟩:=λb=>by rw[<- c,<- d,<- f];rfl
 have y:=hid F;clear F c d f;go_enter func183,ntmps183
 go_wp2
 obtain⟨O,v⟩:∃O:Nat->BA,Kp.ZM s st=O:=⟨_,rfl⟩;have q:∀k,(O k).size<=6*k+1:=λk=>by rw[<- v];exact Kp.ay s st k
 have t:=hid v;have m:=hid q;have E:Hid (O 0=⟨#[34]⟩):=by rw[<- v];rfl
 clear v q
 go_loopw [5,6] (λG D wr=>∃k:Nat,k<=s.size/\D = .int .i64 k/\G = .string (O k)/\wr=w) (λ_ D _=>s.size-(intOf D).toNat)
 case atStart=>exact⟨0,Nat.zero_le _,rfl,by rw[E.out],rfl⟩
 case round=>
  obtain⟨k,I,rfl,rfl,r⟩:=hrel;rw[r];clear r;have z:=m.out k;obtain⟨o,p⟩:=Nm (O k);rw[p] at z |-
  by_cases hlt:k<s.size
  ·have a:Hid (O (k+1)=o++Kp.esc st s[k]):=by rw[<- p,<- t.out];exact Oi s st k hlt
   have x:=hid (SI s k hlt);rw[y.out] at a;clear p t m E A y
   by_cases c1:s[k].toNat=47/\i=true
   ·obtain⟨c1,rfl⟩:=c1;rw[if_pos ⟨c1,rfl⟩] at a;have g:((s[k].toNat:Int)==47)=true:=by simp;omega
    go_wp2
    go_roundw
    case rel=>exact⟨k+1,by omega,by go_num,by rw[a.out],trivial⟩
    case measure=>simp[intOf];omega
   rw[if_neg c1] at a
   by_cases c2:s[k].toNat=97/\j=true
   ·obtain⟨c2,rfl⟩:=c2;rw[if_pos ⟨c2,rfl⟩] at a;have g:((s[k].toNat:Int)==47)=false:=by simp;omega
    have n:((s[k].toNat:Int)==97)=true:=by simp;omega
    go_wp2
    go_roundw
    case rel=>exact⟨k+1,by omega,by go_num,by rw[a.out],trivial⟩
    case measure=>simp[intOf];omega
   rw[if_neg c2] at a
   by_cases c3:s[k].toNat=42/\l=true
   ·obtain⟨c3,rfl⟩:=c3;rw[if_pos ⟨c3,rfl⟩] at a;have g:((s[k].toNat:Int)==47)=false:=by simp;omega
    have n:((s[k].toNat:Int)==97)=false:=by simp;omega
    have u:((s[k].toNat:Int)==42)=true:=by simp;omega
    go_wp2
    go_roundw
    case rel=>exact⟨k+1,by omega,by go_num,by rw[a.out],trivial⟩
    case measure=>simp[intOf];omega
   rw[if_neg c3] at a
   by_cases d1:s[k].toNat=47
   ·have hb:i=false:=by cases i with
     | true=>exact absurd ⟨d1,rfl⟩ c1
     | false=>rfl
    subst hb;have g:((s[k].toNat:Int)==47)=true:=by simp;omega
    have n:((s[k].toNat:Int)==97)=false:=by simp;omega
    have u:((s[k].toNat:Int)==42)=false:=by simp;omega
    go_wp2
    go_roundw
    case rel=>exact⟨k+1,by omega,by go_num,by rw[a.out,x.out],trivial⟩
    case measure=>simp[intOf];omega
   by_cases d2:s[k].toNat=97
   ·have hb:j=false:=by cases j with
     | true=>exact absurd ⟨d2,rfl⟩ c2
     | false=>rfl
    subst hb;have g:((s[k].toNat:Int)==47)=false:=by simp;omega
    have n:((s[k].toNat:Int)==97)=true:=by simp;omega
    have u:((s[k].toNat:Int)==42)=false:=by simp;omega
    go_wp2
    go_roundw
    case rel=>exact⟨k+1,by omega,by go_num,by rw[a.out,x.out],trivial⟩
    case measure=>simp[intOf];omega
   by_cases d3:s[k].toNat=42
   ·have hb:l=false:=by cases l with
     | true=>exact absurd ⟨d3,rfl⟩ c3
     | false=>rfl
    subst hb;have g:((s[k].toNat:Int)==47)=false:=by simp;omega
    have n:((s[k].toNat:Int)==97)=false:=by simp;omega
    have u:((s[k].toNat:Int)==42)=true:=by simp;omega
    go_wp2
    go_roundw
    case rel=>exact⟨k+1,by omega,by go_num,by rw[a.out,x.out],trivial⟩
    case measure=>simp[intOf];omega
   ·have g:((s[k].toNat:Int)==47)=false:=by simp;omega
    have n:((s[k].toNat:Int)==97)=false:=by simp;omega
    have u:((s[k].toNat:Int)==42)=false:=by simp;omega
    go_wp2
    go_roundw
    case rel=>exact⟨k+1,by omega,by go_num,by rw[a.out,x.out],trivial⟩
    case measure=>simp[intOf];omega
  ·have e:R=o++⟨#[34]⟩:=by rw[<- A.out,<- p,<- t.out,Kp.jF,show k=s.size by omega]
   subst e;clear A t p y
   go_wp2
   go_ret;exact⟨rfl,rfl⟩
end Go.Proofs.YtdakgnaojakldaaGreatDoor
