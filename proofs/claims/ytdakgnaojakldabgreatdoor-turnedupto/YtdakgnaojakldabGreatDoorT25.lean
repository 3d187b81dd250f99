/- P -/
import Derived.Test.YtdakgnaojakldabGreatDoorT24
open Go.Proofs.Tryz
set_option maxRecDepth 100000
set_option maxHeartbeats 1000000
namespace Go.Proofs.YtdakgnaojakldabGreatDoor.turned
open Go.ChangeShapes Go.WideShapes Go.ChangeAt Go.RowKit Go.Joins Go.Deep
def Zb:Array Value:=#[.slice none 0 0,.int .i64 0,.int .i64 0,.slice none 0 0]
theorem RD(os:Os):((laws.laidWorld os).forCall (λ_ _=>0) ⟨#[],Zb,[]⟩).variablesRefB prog=true:=by kernel_rfl
theorem Rz(os:Os):(((laws.laidWorld os).forCall (λ_ _=>0) ⟨#[],Zb,[]⟩).heap.toList.drop prog.globals.size).take ((begin prog (λ_ _=>0) default).world.heap.size-prog.globals.size) =
   (begin prog (λ_ _=>0) default).world.heap.toList.drop prog.globals.size:=by kernel_rfl
theorem Ry(os:Os):Input.okWideB prog ((laws.laidWorld os).forCall (λ_ _=>0) ⟨#[],Zb,[]⟩) 3 ⟨#[],Zb,[]⟩=true:=by kernel_rfl
theorem RA(os:Os){H:Type}(enc:TypeId×Value->H):(Rows.OpenSpec.upto Rows.turnedSpec).bare.sizedB enc prog Tryz.f3 false ((laws.laidWorld os).forCall (λ_ _=>0) ⟨#[],Zb,[]⟩).memory Zb 8=true:=by kernel_rfl
theorem Rx:prog.inits.idxOf? 3=none:=by kernel_rfl
theorem reads(os:Os){H:Type}(enc:TypeId×Value->H):∃places,DataW.whole enc prog ((laws.laidWorld os).forCall (λ_ _=>0) ⟨#[],Zb,[]⟩).memory Tryz.f3.params.toList Rows.turnedSpec.vars false Zb.toList 8
  = some ([.nil,.lit (.int .i64 0),.lit (.int .i64 0),.nil],[],places):=by
 have b:(DataW.whole enc prog ((laws.laidWorld os).forCall (λ_ _=>0) ⟨#[],Zb,[]⟩).memory Tryz.f3.params.toList Rows.turnedSpec.vars false Zb.toList 8).map (λx=>(x.1,x.2.1)) =
   some ([.nil,.lit (.int .i64 0),.lit (.int .i64 0),.nil],[]):=by kernel_rfl
 obtain⟨⟨e,f,d⟩,c,a⟩:=Option.map_eq_some_iff.1 b;simp only[Prod.mk.injEq] at a;obtain⟨rfl,rfl⟩:=a;exact⟨d,c⟩
end Go.Proofs.YtdakgnaojakldabGreatDoor.turned
namespace Go.Proofs.YtdakgnaojakldabGreatDoor
namespace Kp
def zk(c:Int)(n:Nat):Nat:=((if c<0 then -(c+1) else c) % (n:Int)).toNat
theorem qO(c:Int)(n:Nat)(h:0<n):zk c n<n:=by
 unfold zk;have a:=Int.emod_nonneg (if c<0 then -(c+1) else c) (show (n:Int)≠0 by omega)
 have b:=Int.emod_lt_of_pos (if c<0 then -(c+1) else c) (show (0:Int)<n by omega)
 omega
def bit(a d:Int):Bool:=decide ((a.tdiv d).tmod 2≠0)
def words:List BA:=[⟨#[97,110,110]⟩,⟨#[98,111,98]⟩,⟨#[114,101,97,100]⟩,⟨#[119,114,105,116,101]⟩,⟨#[98,111,120]⟩,⟨#[98,111,120,47,49]⟩,⟨#[98,111,120,47,195,169]⟩,⟨#[98,111,120,47,49,47,97]⟩,⟨#[]⟩,⟨#[42]⟩,⟨#[97]⟩,⟨#[55]⟩,⟨#[45,51]⟩,⟨#[49,56]⟩]
def patterns:List BA:=[⟨#[42]⟩,⟨#[97,110,110]⟩,⟨#[98,42]⟩,⟨#[114,101,97,100]⟩,⟨#[63,63,63,63,63]⟩,⟨#[98,111,120,47,42]⟩,⟨#[98,111,120,47,63]⟩,⟨#[36,123,119,104,111,125]⟩,⟨#[42,36,123,116,97,103,125,42]⟩,⟨#[36,42]⟩,⟨#[]⟩,⟨#[42,97,42]⟩,⟨#[98,111,120,47,195,169]⟩,⟨#[36,123,111,110,125,47,42]⟩]
def keys:List BA:=[⟨#[119,104,111]⟩,⟨#[100,111]⟩,⟨#[111,110]⟩,⟨#[116,97,103]⟩,⟨#[97,103,101]⟩]
def nums:List BA:=[⟨#[48]⟩,⟨#[56]⟩,⟨#[45,52]⟩,⟨#[49,48,48]⟩]
def Za:List BA:=[⟨#[98,111,120]⟩,⟨#[98,111,120,47,49]⟩,⟨#[97]⟩]
def Q9:List BA:=[⟨#[]⟩,⟨#[32]⟩,⟨#[10,9]⟩,⟨#[13,32]⟩]
def esc(a:Int)(b:UInt8):BA:=
 if b.toNat=47/\bit a 1=true then ⟨#[92,47]⟩ else if b.toNat=97/\bit a 2=true then ⟨#[92,117,48,48,54,49]⟩ else if b.toNat=42/\bit a 4=true then ⟨#[92,117,48,48,50,65]⟩ else ⟨#[b]⟩
def Zp(s:BA)(a:Int):Nat->BA
 | 0=>⟨#[34]⟩
 | k+1=>Zp s a k++esc a (s.data.toList.getD k 0)
def jo(s:BA)(a:Int):BA:=Zp s a s.size++⟨#[34]⟩
def xz(a:Int):BA:=Q9.getD (zk (a.tdiv 8) 4) ⟨#[]⟩
def qY(l:List BA)(a:Int):Nat->BA
 | 0=>⟨#[91]⟩++xz a
 | k+1=>(if 0<k then qY l a k++⟨#[44]⟩++xz a else qY l a k)++jo (l.getD k ⟨#[]⟩) a
def xK(l:List BA)(a:Int):BA:=if l.length=1/\bit a 32=true then jo (l.getD 0 ⟨#[]⟩) a else qY l a l.length++⟨#[93]⟩++xz a
def yg(raw:List Int):List BA:=(raw.take 4).map λc=>patterns.getD (zk c 14) ⟨#[]⟩
def qg(raw:List Int):List BA:=if (yg raw).length=0 then [⟨#[42]⟩] else yg raw
def xZ(raw:List Int)(nt:Bool)(a:Int):BA:=if nt then ⟨#[123]⟩++xz a++⟨#[34,110,111,116,34,58]⟩++xK (qg raw) a++⟨#[125]⟩ else xK (qg raw) a
structure zg where
 deny:Bool
 who:List Int
 act:List Int
 on:List Int
 nt:Int
 iff:Int
 key:Int
 val:Int
 no:Bool
 style:Int
def noB(r:zg):BA:=if r.no then ⟨#[44,34,110,111,34,58,116,114,117,101]⟩ else ⟨#[]⟩
def ZZ(r:zg):BA:=⟨#[34,107,101,121,34,58,34]⟩++keys.getD (zk r.key 5) ⟨#[]⟩++⟨#[34,44,34,111,112,34,58]⟩
def vW(r:zg)(op:BA)(l:List BA):BA:=⟨#[123]⟩++ZZ r++op++xK l r.style++noB r++⟨#[125]⟩
def fD:BA:=⟨#[34,108,105,107,101,34,44,34,118,97,108,117,101,34,58]⟩
def lI:BA:=⟨#[34,115,97,109,101,34,44,34,118,97,108,117,101,34,58]⟩
def aI:BA:=⟨#[34,98,101,108,111,119,34,44,34,118,97,108,117,101,34,58]⟩
def nk:BA:=⟨#[34,117,110,100,101,114,34,44,34,118,97,108,117,101,34,58]⟩
def qV(r:zg):BA:=
 match zk r.iff 8 with
 | 1=>⟨#[123]⟩++ZZ r++⟨#[34,97,98,115,101,110,116,34]⟩++noB r++⟨#[125]⟩
 | 6=>vW r fD [patterns.getD (zk r.val 14) ⟨#[]⟩,⟨#[120]⟩]
 | 2=>vW r lI [words.getD (zk r.val 14) ⟨#[]⟩]
 | 3=>vW r aI [nums.getD (zk r.val 4) ⟨#[]⟩]
 | 4=>vW r nk [Za.getD (zk r.val 3) ⟨#[]⟩]
 | _=>⟨#[]⟩
def uD(r:zg):BA:=if r.deny then ⟨#[123,34,101,102,102,101,99,116,34,58,34,100,101,110,121,34,44]⟩++xz r.style else ⟨#[123,34,101,102,102,101,99,116,34,58,34,97,108,108,111,119,34,44]⟩
def Zy(r:zg):BA:=if (qV r).size=0 then uD r else uD r++⟨#[34,105,102,34,58,91]⟩++qV r++⟨#[93,44]⟩
def yO(r:zg):BA:=
 Zy r++⟨#[34,111,110,34,58]⟩++xZ r.on (decide (zk r.nt 16=1)) r.style++⟨#[44,34,119,104,111,34,58]⟩++xZ r.who (decide (zk r.nt 16=2)) r.style++⟨#[44,34,100,111,34,58]⟩++xZ r.act (decide (zk r.nt 16=3)) r.style++⟨#[125]⟩
def yZ(l:List zg):Nat->BA
 | 0=>⟨#[]⟩
 | k+1=>(if 0<k then yZ l k++⟨#[44]⟩ else yZ l k)++(l[k]?.elim ⟨#[]⟩ yO)
def qI:zg:=⟨false,[],[],[],0,0,0,0,false,0⟩
def Zi(l:List zg):BA:=if l.length=0 then yO qI else yZ l (min l.length 4)
def xh(l:List zg):BA:=⟨#[123,34,115,116,97,116,101,109,101,110,116,34,58,91]⟩++Zi l++⟨#[93,125]⟩
theorem BJ(a:Int)(b:UInt8):(esc a b).size<=6:=by
 unfold esc
 split
 ·exact by decide
 split
 ·exact by decide
 split
 ·exact by decide
 ·show 1<=6;omega
theorem U7(s:BA)(a:Int):∀k,(Zp s a k).size<=6*k+1
 | 0=>by show 1<=1;omega
 | k+1=>by
  have b:=U7 s a k;have c:=BJ a (s.data.toList.getD k 0);rw[Zp,ByteArray.size_append];omega
theorem U6(s:BA)(a:Int):(jo s a).size<=6*s.size+2:=by
 have b:=U7 s a s.size;have c:(⟨#[34]⟩:BA).size=1:=rfl;rw[jo,ByteArray.size_append];omega
theorem IK:∀b ∈ Q9,b.size<=2:=by decide
theorem vZ{P:BA->Prop}{l:List BA}(h:∀b ∈ l,P b)(a:P ⟨#[]⟩)(k:Nat):P (l.getD k ⟨#[]⟩):=by
 rw[List.getD_eq_getElem?_getD]
 cases e:l[k]? with
 | none=>exact a
 | some b=>exact h b (List.mem_of_getElem? e)
theorem Qv(a:Int):(xz a).size<=2:=vZ (P:=λb=>b.size<=2) IK (by decide) _
theorem XF(l:List BA)(a:Int)(h:∀b ∈ l,b.size<=8):∀k,(qY l a k).size<=53*k+3
 | 0=>by
  have c:=Qv a;have d:(⟨#[91]⟩:BA).size=1:=rfl;rw[qY,ByteArray.size_append];omega
 | k+1=>by
  have c:=XF l a h k;have d:=U6 (l.getD k ⟨#[]⟩) a;have e:=vZ (P:=λb=>b.size<=8) h (by decide) k;have f:=Qv a;have g:(⟨#[44]⟩:BA).size=1:=rfl;rw[qY,ByteArray.size_append]
  split
  ·rw[ByteArray.size_append,ByteArray.size_append];omega
  ·omega
theorem Qr(l:List BA)(a:Int)(h:∀b ∈ l,b.size<=8):(xK l a).size<=53*l.length+6:=by
 unfold xK
 split
 ·have c:=U6 (l.getD 0 ⟨#[]⟩) a;have d:=vZ (P:=λb=>b.size<=8) h (by decide) 0;omega
 ·have e:=XF l a h l.length;have c:=Qv a;have d:(⟨#[93]⟩:BA).size=1:=rfl;rw[ByteArray.size_append,ByteArray.size_append];omega
theorem JS:∀b ∈ patterns,b.size<=8:=by decide
theorem Vr:∀b ∈ words,b.size<=8:=by decide
theorem UL:∀b ∈ nums,b.size<=8:=by decide
theorem KR:∀b ∈ Za,b.size<=8:=by decide
theorem eU:∀b ∈ keys,b.size<=3:=by decide
theorem NU{raw:List Int}{b:BA}(h:b ∈ yg raw):b ∈ patterns:=by
 unfold yg at h;rw[List.mem_map] at h;obtain⟨c,_,rfl⟩:=h;have a:=qO c 14 (by decide);have e:patterns.getD (zk c 14) ⟨#[]⟩=patterns[zk c 14]'a:=by rw[List.getD_eq_getElem?_getD,List.getElem?_eq_getElem a];rfl
 rw[e];exact List.getElem_mem _
theorem NT(raw:List Int):(yg raw).length<=4:=by
 unfold yg;rw[List.length_map,List.length_take];omega
theorem Yn{raw:List Int}{b:BA}(h:b ∈ qg raw):b ∈ patterns:=by
 unfold qg at h
 split at h
 ·rw[List.mem_singleton] at h;subst h;exact .head _
 ·exact NU h
theorem ZR(raw:List Int):1<=(qg raw).length/\(qg raw).length<=4:=by
 have h:=NT raw;unfold qg
 split
 ·exact⟨by decide,by decide⟩
 ·omega
theorem VY(raw:List Int):∀b ∈ qg raw,b.size<=8:=λb a=>JS b (Yn a)
theorem Jf(raw:List Int)(nt:Bool)(a:Int):(xZ raw nt a).size<=228:=by
 have b:=Qr (qg raw) a (VY raw);have c:=(ZR raw).2;unfold xZ
 split
 ·have d:=Qv a;have e:(⟨#[123]⟩:BA).size=1:=rfl;have f:(⟨#[34,110,111,116,34,58]⟩:BA).size=6:=rfl;have g:(⟨#[125]⟩:BA).size=1:=rfl;rw[ByteArray.size_append,ByteArray.size_append,ByteArray.size_append,ByteArray.size_append];omega
 ·omega
theorem UJ(r:zg):(noB r).size<=10:=by unfold noB;split<;>decide
theorem Ut(r:zg):(ZZ r).size<=17:=by
 have a:=vZ (P:=λb=>b.size<=3) eU (by decide) (zk r.key 5);have c:(⟨#[34,107,101,121,34,58,34]⟩:BA).size=7:=rfl;have d:(⟨#[34,44,34,111,112,34,58]⟩:BA).size=7:=rfl;rw[ZZ,ByteArray.size_append,ByteArray.size_append];omega
theorem Ji(r:zg)(op:BA)(l:List BA)(i:op.size<=16)(h:l.length<=2)(a:∀b ∈ l,b.size<=8):(vW r op l).size<=158:=by
 have c:=Ut r;have d:=UJ r;have e:=Qr l r.style a;have f:(⟨#[123]⟩:BA).size=1:=rfl;have g:(⟨#[125]⟩:BA).size=1:=rfl;rw[vW]
 repeat rw[ByteArray.size_append]
 omega
theorem bB(r:zg):(qV r).size<=158:=by
 have one:∀{l:List BA} (k:Nat),(∀b ∈ l,b.size<=8)->∀b ∈ [l.getD k ⟨#[]⟩],b.size<=8:=λk h b a=>by
  rw[List.mem_singleton] at a;subst a;exact vZ (P:=λb=>b.size<=8) h (by decide) k
 unfold qV
 split
 ·have c:=Ut r;have d:=UJ r;have e:(⟨#[123]⟩:BA).size=1:=rfl;have f:(⟨#[34,97,98,115,101,110,116,34]⟩:BA).size=8:=rfl;have g:(⟨#[125]⟩:BA).size=1:=rfl
  repeat rw[ByteArray.size_append]
  omega
 ·refine Ji r _ _ (by decide) (by simp) (λb a=>?_)
  rcases List.mem_cons.1 a with rfl|a
  ·exact vZ (P:=λb=>b.size<=8) JS (by decide) _
  ·rw[List.mem_singleton] at a;subst a;decide
 ·exact Ji r _ _ (by decide) (by simp) (one _ Vr)
 ·exact Ji r _ _ (by decide) (by simp) (one _ UL)
 ·exact Ji r _ _ (by decide) (by simp) (one _ KR)
 ·decide
theorem bX(r:zg):(uD r).size<=19:=by
 unfold uD
 split
 ·have a:=Qv r.style;have b:(⟨#[123,34,101,102,102,101,99,116,34,58,34,100,101,110,121,34,44]⟩:BA).size=17:=rfl;rw[ByteArray.size_append];omega
 ·decide
theorem nG(r:zg):(Zy r).size<=185:=by
 have a:=bX r;have b:=bB r;have c:(⟨#[34,105,102,34,58,91]⟩:BA).size=6:=rfl;have d:(⟨#[93,44]⟩:BA).size=2:=rfl;unfold Zy
 split
 ·omega
 ·repeat rw[ByteArray.size_append]
  omega
theorem Ve(r:zg):(yO r).size<=888:=by
 have i:=nG r;have a:=λraw nt=>Jf raw nt r.style;have b:=a r.on (decide (zk r.nt 16=1));have c:=a r.who (decide (zk r.nt 16=2));have d:=a r.act (decide (zk r.nt 16=3));have e:(⟨#[34,111,110,34,58]⟩:BA).size=5:=rfl;have f:(⟨#[44,34,119,104,111,34,58]⟩:BA).size=7:=rfl;have g:(⟨#[44,34,100,111,34,58]⟩:BA).size=6:=rfl;have h:(⟨#[125]⟩:BA).size=1:=rfl;unfold yO
 repeat rw[ByteArray.size_append]
 omega
theorem UZ(l:List zg):∀k,(yZ l k).size<=889*k
 | 0=>Nat.le_refl 0
 | k+1=>by
  have a:=UZ l k;have c:(⟨#[44]⟩:BA).size=1:=rfl
  have b:(l[k]?.elim ⟨#[]⟩ yO).size<=888:=by
   cases e:l[k]? with
   | none=>decide
   | some r=>exact Ve r
  rw[yZ,ByteArray.size_append]
  split
  ·rw[ByteArray.size_append];omega
  ·omega
theorem aM(l:List zg):(Zi l).size<=3556:=by
 unfold Zi
 split
 ·have:=Ve qI;omega
 ·have a:=UZ l (min l.length 4)
  have:min l.length 4<=4:=Nat.min_le_right _ _
  omega
theorem iw(l:List zg):(xh l).size<=3572:=by
 have a:=aM l;have b:(⟨#[123,34,115,116,97,116,101,109,101,110,116,34,58,91]⟩:BA).size=14:=rfl;have c:(⟨#[93,125]⟩:BA).size=2:=rfl;unfold xh;rw[ByteArray.size_append,ByteArray.size_append];omega
end Kp
end Go.Proofs.YtdakgnaojakldabGreatDoor
namespace Go.Proofs.YtdakgnaojakldabGreatDoor
open Go.RowKit
def I64(x:Int):Prop:=-9223372036854775808<=x/\x<=9223372036854775807
theorem I64.tdiv{x:Int}(h:I64 x)(d:Nat):I64 (x.tdiv d):=by
 obtain⟨b,c⟩:=h;have e:(x.tdiv d).natAbs=x.natAbs / d:=by rw[Int.natAbs_tdiv];rfl
 have hle:x.natAbs / d<=x.natAbs:=Nat.div_le_self _ _
 by_cases h0:0<=x
 ·have:=Int.tdiv_nonneg h0 (show (0:Int)<=(d:Int) by omega)
  unfold I64;omega
 ·have a:=Int.tdiv_nonneg (show (0:Int) <= -x by omega) (show (0:Int)<=(d:Int) by omega);rw[Int.neg_tdiv] at a;unfold I64;omega
theorem Ls(c:Int)(n:Nat)(h:c<0):-(c+1).tmod (n:Int)=(Kp.zk c n:Int):=by
 unfold Kp.zk;rw[if_pos h,<- Int.neg_tmod,Int.tmod_eq_emod_of_nonneg (by omega)];have a:=Int.emod_nonneg (-(c+1)) (b:=(n:Int))
 by_cases hn:(n:Int)=0
 ·rw[hn,Int.emod_zero];omega
 ·have:=a hn;omega
theorem Lt(c:Int)(n:Nat)(h:0<=c):c % (n:Int)=(Kp.zk c n:Int):=by
 unfold Kp.zk;rw[if_neg (by omega)];have a:=Int.emod_nonneg c (b:=(n:Int))
 by_cases hn:(n:Int)=0
 ·rw[hn,Int.emod_zero];omega
 ·have:=a hn;omega
theorem vL(c:Int)(n:Nat)(w:World)(a:I64 c)(h:0<n)(g:n<=1000000) :
  Calls prog 5 #[.int .i64 c,.int .i64 (n:Int)] w λe b=>e = .returned (.int .i64 (Kp.zk c n:Int))/\b=w:=by
 obtain⟨d,f⟩:=a
 by_cases h0:c<0
 ·have e:=hid (Ls c n h0);go_enter func5,ntmps5
  go_wp2
  go_ret;exact⟨by rw[<- e.out];rfl,rfl⟩
 ·have e:=hid (Lt c n (by omega));go_enter func5,ntmps5
  go_wp2
  go_ret;exact⟨by rw[<- e.out];rfl,rfl⟩
theorem Z4(w:World)(l:List BA)(k:Nat)(h:k<l.length):(w.alloc (.cells (l.map Value.string).toArray 9)).cell? ⟨w.heap.size,k,none⟩=some (.string (l.getD k ⟨#[]⟩)):=by
 have a:=(za (heap_alloc_new w (.cells (l.map Value.string).toArray 9)) k).1;rw[a,List.getD_eq_getElem?_getD];simp[List.getElem?_map,List.getElem?_eq_getElem h]
theorem UX(a:Int)(w:World)(i:I64 a) :
  Calls prog 42 #[.int .i64 a] w λe m=>e = .returned (.string (Kp.xz a))/\Below w.heap.size w m:=by
 have h:=i.tdiv 8;have c1:=λW=>vL (a.tdiv (8:Nat)) 4 W h (by decide) (by decide);have b:=Kp.qO (a.tdiv (8:Nat)) 4 (by decide);have g:Kp.xz a=Kp.Q9.getD (Kp.zk (a.tdiv (8:Nat)) 4) ⟨#[]⟩:=rfl;rw[g];obtain⟨k,c⟩:=Nm (Kp.zk (a.tdiv (8:Nat)) 4);rw[c] at b |-;simp only[c] at c1;have j:=hid c1;have d:=Z4 w Kp.Q9 k b;obtain⟨P,f⟩:=Nm (Kp.Q9.getD k ⟨#[]⟩);rw[f] at d |-;have l:(w.alloc (.cells #[.string ⟨#[]⟩,.string ⟨#[32]⟩,.string ⟨#[10,9]⟩,.string ⟨#[13,32]⟩] 9)).cell? ⟨w.heap.size,k,none⟩=some (.string P):=d;obtain⟨n,o⟩:=i;clear c1 f c g d h;go_enter func42,ntmps42
 go_wp2_with (go_at_call 5;refine (j.out _).mono ?_;rintro e p ⟨rfl,rfl⟩)
 go_ret;exact⟨rfl,nB w _⟩
theorem FH(c:Int)(w:World)(g:I64 c) :
  Calls prog 73 #[.int .i64 c] w λe j=>e = .returned (.string (Kp.keys.getD (Kp.zk c 5) ⟨#[]⟩))/\Below w.heap.size w j:=by
 have c1:=λW=>vL c 5 W g (by decide) (by decide);have a:=Kp.qO c 5 (by decide);obtain⟨k,b⟩:=Nm (Kp.zk c 5);rw[b] at a |-;simp only[b] at c1;have h:=hid c1;have d:=Z4 w Kp.keys k a;obtain⟨P,f⟩:=Nm (Kp.keys.getD k ⟨#[]⟩);rw[f] at d |-;have i:(w.alloc (.cells #[.string ⟨#[119,104,111]⟩,.string ⟨#[100,111]⟩,.string ⟨#[111,110]⟩,.string ⟨#[116,97,103]⟩,.string ⟨#[97,103,101]⟩] 9)).cell? ⟨w.heap.size,k,none⟩=some (.string P):=d;obtain⟨l,m⟩:=g;clear c1 f b d;go_enter func73,ntmps73
 go_wp2_with (go_at_call 5;refine (h.out _).mono ?_;rintro e n ⟨rfl,rfl⟩)
 go_ret;exact⟨rfl,nB w _⟩
theorem nK(w:World) :
  Calls prog 27 #[] w λe a=>e = .returned (.slice (some ⟨w.heap.size,0,none⟩) 14 14)/\a=w.alloc (.cells (Kp.words.map Value.string).toArray 9):=by
 go_enter func27,ntmps27
 go_wp2
 go_ret;exact⟨rfl,rfl⟩
theorem iI(w:World) :
  Calls prog 74 #[] w λe a=>e = .returned (.slice (some ⟨w.heap.size,0,none⟩) 14 14)/\a=w.alloc (.cells (Kp.patterns.map Value.string).toArray 9):=by
 go_enter func74,ntmps74
 go_wp2
 go_ret;exact⟨rfl,rfl⟩
theorem LK(s:BA)(a:Int)(k:Nat)(h:k<s.size):Kp.Zp s a (k+1)=Kp.Zp s a k++Kp.esc a s[k]:=by
 rw[Kp.Zp,List.getD_eq_getElem?_getD];have b:k<s.data.toList.length:=by rw[Ref.zB];exact h
 rw[List.getElem?_eq_getElem b]
 rfl
theorem Po(t:BA)(k:Nat)(h:k<t.size):t.extract k (k+1)=⟨#[t[k]]⟩:=by
 apply ByteArray.ext;apply Array.toList_inj.1;have a:k<t.data.toList.length:=by rw[Ref.zB];exact h
 simp only[ByteArray.data_extract,Array.toList_extract,List.extract_eq_take_drop];rw[show k+1-k=1 by omega,List.drop_eq_getElem_cons a]
 rfl
theorem LJ(s:BA)(a:Int)(w:World)(L:s.size<=1000)(E:I64 a) :
  Calls prog 98 #[.string s,.int .i64 a] w λe J=>e = .returned (.string (Kp.jo s a))/\J=w:=by
 obtain⟨Q,S⟩:=E;obtain⟨R,D⟩:=Nm (Kp.jo s a);rw[D];have C:=hid D;clear D;obtain⟨j,d⟩:∃b,Kp.bit a 1=b:=⟨_,rfl⟩;obtain⟨l,f⟩:∃b,Kp.bit a 2=b:=⟨_,rfl⟩;obtain⟨m,g⟩:∃b,Kp.bit a 4=b:=⟨_,rfl⟩;have M:(a.tmod 2 != 0)=j:=by rw[<- d,Kp.bit,Int.tdiv_one];by_cases h:a.tmod 2=0<;>simp[h]
 have N:((a.tdiv 2).tmod 2 != 0)=l:=by rw[<- f,Kp.bit];by_cases h:(a.tdiv 2).tmod 2=0<;>simp[h]
 have P:((a.tdiv 4).tmod 2 != 0)=m:=by rw[<- g,Kp.bit];by_cases h:(a.tdiv 4).tmod 2=0<;>simp[h]
 have H:∀b,Kp.esc a b=if b.toNat=47/\j=true then ⟨#[92,47]⟩ else if b.toNat=97/\l=true then ⟨#[92,117,48,48,54,49]⟩ else if b.toNat=42/\m=true then ⟨#[92,117,48,48,50,65]⟩ else ⟨#[b]⟩:=λb=>by rw[<- d,<- f,<- g];rfl
 have B:=hid H;clear H d f g;go_enter func98,ntmps98
 go_wp2
 obtain⟨O,y⟩:∃O:Nat->BA,Kp.Zp s a=O:=⟨_,rfl⟩;have t:∀k,(O k).size<=6*k+1:=λk=>by rw[<- y];exact Kp.U7 s a k
 have v:=hid y;have n:=hid t;have G:Hid (O 0=⟨#[34]⟩):=by rw[<- y];rfl
 clear y t
 go_loopw [5,6] (λI F wr=>∃k:Nat,k<=s.size/\F = .int .i64 k/\I = .string (O k)/\wr=w) (λ_ F _=>s.size-(intOf F).toNat)
 case atStart=>exact⟨0,Nat.zero_le _,rfl,by rw[G.out],rfl⟩
 case round=>
  obtain⟨k,K,rfl,rfl,u⟩:=hrel;rw[u];clear u;have z:=n.out k;obtain⟨o,r⟩:=Nm (O k);rw[r] at z |-
  by_cases hlt:k<s.size
  ·have c:Hid (O (k+1)=o++Kp.esc a s[k]):=by rw[<- r,<- v.out];exact LK s a k hlt
   have A:=hid (Po s k hlt);rw[B.out] at c;clear r v n G C B
   by_cases c1:s[k].toNat=47/\j=true
   ·obtain⟨c1,rfl⟩:=c1;rw[if_pos ⟨c1,rfl⟩] at c;have i:((s[k].toNat:Int)==47)=true:=by simp;omega
    go_wp2
    go_roundw
    case rel=>exact⟨k+1,by omega,by go_num,by rw[c.out],trivial⟩
    case measure=>simp[intOf];omega
   rw[if_neg c1] at c
   by_cases c2:s[k].toNat=97/\l=true
   ·obtain⟨c2,rfl⟩:=c2;rw[if_pos ⟨c2,rfl⟩] at c;have i:((s[k].toNat:Int)==47)=false:=by simp;omega
    have p:((s[k].toNat:Int)==97)=true:=by simp;omega
    go_wp2
    go_roundw
    case rel=>exact⟨k+1,by omega,by go_num,by rw[c.out],trivial⟩
    case measure=>simp[intOf];omega
   rw[if_neg c2] at c
   by_cases c3:s[k].toNat=42/\m=true
   ·obtain⟨c3,rfl⟩:=c3;rw[if_pos ⟨c3,rfl⟩] at c;have i:((s[k].toNat:Int)==47)=false:=by simp;omega
    have p:((s[k].toNat:Int)==97)=false:=by simp;omega
    have x:((s[k].toNat:Int)==42)=true:=by simp;omega
    go_wp2
    go_roundw
    case rel=>exact⟨k+1,by omega,by go_num,by rw[c.out],trivial⟩
    case measure=>simp[intOf];omega
   rw[if_neg c3] at c
   by_cases d1:s[k].toNat=47
   ·have q:j=false:=by cases j with
     | true=>exact absurd ⟨d1,rfl⟩ c1
     | false=>rfl
    subst q;have i:((s[k].toNat:Int)==47)=true:=by simp;omega
    have p:((s[k].toNat:Int)==97)=false:=by simp;omega
    have x:((s[k].toNat:Int)==42)=false:=by simp;omega
    go_wp2
    go_roundw
    case rel=>exact⟨k+1,by omega,by go_num,by rw[c.out,A.out],trivial⟩
    case measure=>simp[intOf];omega
   by_cases d2:s[k].toNat=97
   ·have q:l=false:=by cases l with
     | true=>exact absurd ⟨d2,rfl⟩ c2
     | false=>rfl
    subst q;have i:((s[k].toNat:Int)==47)=false:=by simp;omega
    have p:((s[k].toNat:Int)==97)=true:=by simp;omega
    have x:((s[k].toNat:Int)==42)=false:=by simp;omega
    go_wp2
    go_roundw
    case rel=>exact⟨k+1,by omega,by go_num,by rw[c.out,A.out],trivial⟩
    case measure=>simp[intOf];omega
   by_cases d3:s[k].toNat=42
   ·have q:m=false:=by cases m with
     | true=>exact absurd ⟨d3,rfl⟩ c3
     | false=>rfl
    subst q;have i:((s[k].toNat:Int)==47)=false:=by simp;omega
    have p:((s[k].toNat:Int)==97)=false:=by simp;omega
    have x:((s[k].toNat:Int)==42)=true:=by simp;omega
    go_wp2
    go_roundw
    case rel=>exact⟨k+1,by omega,by go_num,by rw[c.out,A.out],trivial⟩
    case measure=>simp[intOf];omega
   ·have i:((s[k].toNat:Int)==47)=false:=by simp;omega
    have p:((s[k].toNat:Int)==97)=false:=by simp;omega
    have x:((s[k].toNat:Int)==42)=false:=by simp;omega
    go_wp2
    go_roundw
    case rel=>exact⟨k+1,by omega,by go_num,by rw[c.out,A.out],trivial⟩
    case measure=>simp[intOf];omega
  ·have e:R=o++⟨#[34]⟩:=by rw[<- C.out,<- r,<- v.out,Kp.jo,show k=s.size by omega]
   subst e;clear C v r B
   go_wp2
   go_ret;exact⟨rfl,rfl⟩
end Go.Proofs.YtdakgnaojakldabGreatDoor
