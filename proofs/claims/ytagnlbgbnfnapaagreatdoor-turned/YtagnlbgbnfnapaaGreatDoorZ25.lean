/- P -/
import Derived.Test.YtagnlbgbnfnapaaGreatDoorZ24
open Go.Proofs.Tryz
set_option maxRecDepth 100000
set_option maxHeartbeats 1000000
namespace Go.Proofs.YtagnlbgbnfnapaaGreatDoor.firm
open Go.ChangeShapes Go.WideShapes Go.ChangeAt Go.RowKit Go.Joins Go.Deep
def yU:Array Value:=#[.slice none 0 0,.slice none 0 0,.int .i64 0,.slice none 0 0,.slice none 0 0]
theorem lm(os:Os):((laws.laidWorld os).forCall (λ_ _=>0) ⟨#[],yU,[]⟩).variablesRefB prog=true:=by kernel_rfl
theorem lh(os:Os):(((laws.laidWorld os).forCall (λ_ _=>0) ⟨#[],yU,[]⟩).heap.toList.drop prog.globals.size).take ((begin prog (λ_ _=>0) default).world.heap.size-prog.globals.size) =
   (begin prog (λ_ _=>0) default).world.heap.toList.drop prog.globals.size:=by kernel_rfl
theorem lg(os:Os):Input.okWideB prog ((laws.laidWorld os).forCall (λ_ _=>0) ⟨#[],yU,[]⟩) 4 ⟨#[],yU,[]⟩=true:=by kernel_rfl
theorem ll(os:Os){H:Type}(enc:TypeId×Value->H):(OpenSpec.ofChange Rows.firmSpec).bare.sizedB enc prog Tryz.f4 false ((laws.laidWorld os).forCall (λ_ _=>0) ⟨#[],yU,[]⟩).memory yU 8=true:=by kernel_rfl
theorem iZ:prog.inits.idxOf? 4=none:=by kernel_rfl
theorem reads(os:Os){H:Type}(enc:TypeId×Value->H):∃places,DataW.whole enc prog ((laws.laidWorld os).forCall (λ_ _=>0) ⟨#[],yU,[]⟩).memory Tryz.f4.params.toList Rows.firmSpec.vars false yU.toList 8
  = some ([.nil,.nil,.lit (.int .i64 0),.nil,.nil],[],places):=by
 have b:(DataW.whole enc prog ((laws.laidWorld os).forCall (λ_ _=>0) ⟨#[],yU,[]⟩).memory Tryz.f4.params.toList Rows.firmSpec.vars false yU.toList 8).map (λx=>(x.1,x.2.1)) =
   some ([.nil,.nil,.lit (.int .i64 0),.nil,.nil],[]):=by kernel_rfl
 obtain⟨⟨e,f,d⟩,c,a⟩:=vR.1 b;simp only[Prod.mk.injEq] at a;obtain⟨rfl,rfl⟩:=a;exact⟨d,c⟩
end Go.Proofs.YtagnlbgbnfnapaaGreatDoor.firm
namespace Go.Proofs.YtagnlbgbnfnapaaGreatDoor
namespace Kp
def zy(c:Int)(n:Nat):Nat:=((if c<0 then -(c+1) else c) % (n:Int)).toNat
theorem xI(c:Int)(n:Nat)(h:0<n):zy c n<n:=by
 unfold zy;have a:=Int.emod_nonneg (if c<0 then -(c+1) else c) (show (n:Int)≠0 by omega)
 have b:=Int.emod_lt_of_pos (if c<0 then -(c+1) else c) (show (0:Int)<n by omega)
 omega
def bit(a d:Int):Bool:=decide ((a.tdiv d).tmod 2≠0)
def words:List BA:=[⟨#[97,110,110]⟩,⟨#[98,111,98]⟩,⟨#[114,101,97,100]⟩,⟨#[119,114,105,116,101]⟩,⟨#[98,111,120]⟩,⟨#[98,111,120,47,49]⟩,⟨#[98,111,120,47,195,169]⟩,⟨#[98,111,120,47,49,47,97]⟩,⟨#[]⟩,⟨#[42]⟩,⟨#[97]⟩,⟨#[55]⟩,⟨#[45,51]⟩,⟨#[49,56]⟩]
def patterns:List BA:=[⟨#[42]⟩,⟨#[97,110,110]⟩,⟨#[98,42]⟩,⟨#[114,101,97,100]⟩,⟨#[63,63,63,63,63]⟩,⟨#[98,111,120,47,42]⟩,⟨#[98,111,120,47,63]⟩,⟨#[36,123,119,104,111,125]⟩,⟨#[42,36,123,116,97,103,125,42]⟩,⟨#[36,42]⟩,⟨#[]⟩,⟨#[42,97,42]⟩,⟨#[98,111,120,47,195,169]⟩,⟨#[36,123,111,110,125,47,42]⟩]
def keys:List BA:=[⟨#[119,104,111]⟩,⟨#[100,111]⟩,⟨#[111,110]⟩,⟨#[116,97,103]⟩,⟨#[97,103,101]⟩]
def nums:List BA:=[⟨#[48]⟩,⟨#[56]⟩,⟨#[45,52]⟩,⟨#[49,48,48]⟩]
def QO:List BA:=[⟨#[98,111,120]⟩,⟨#[98,111,120,47,49]⟩,⟨#[97]⟩]
def Je:List BA:=[⟨#[]⟩,⟨#[32]⟩,⟨#[10,9]⟩,⟨#[13,32]⟩]
def esc(a:Int)(b:UInt8):BA:=
 if b.toNat=47/\bit a 1=true then ⟨#[92,47]⟩ else if b.toNat=97/\bit a 2=true then ⟨#[92,117,48,48,54,49]⟩ else if b.toNat=42/\bit a 4=true then ⟨#[92,117,48,48,50,65]⟩ else ⟨#[b]⟩
def Xf(s:BA)(a:Int):Nat->BA
 | 0=>⟨#[34]⟩
 | k+1=>Xf s a k++esc a (s.data.toList.getD k 0)
def ui(s:BA)(a:Int):BA:=Xf s a s.size++⟨#[34]⟩
def yJ(a:Int):BA:=Je.getD (zy (a.tdiv 8) 4) ⟨#[]⟩
def yg(l:List BA)(a:Int):Nat->BA
 | 0=>⟨#[91]⟩++yJ a
 | k+1=>(if 0<k then yg l a k++⟨#[44]⟩++yJ a else yg l a k)++ui (l.getD k ⟨#[]⟩) a
def vW(l:List BA)(a:Int):BA:=if l.length=1/\bit a 32=true then ui (l.getD 0 ⟨#[]⟩) a else yg l a l.length++⟨#[93]⟩++yJ a
def jq(raw:List Int):List BA:=(raw.take 4).map λc=>patterns.getD (zy c 14) ⟨#[]⟩
def qU(raw:List Int):List BA:=if (jq raw).length=0 then [⟨#[42]⟩] else jq raw
def ji(raw:List Int)(nt:Bool)(a:Int):BA:=if nt then ⟨#[123]⟩++yJ a++⟨#[34,110,111,116,34,58]⟩++vW (qU raw) a++⟨#[125]⟩ else vW (qU raw) a
structure zm where
 deny:Bool
 who:List Int
 act:List Int
 on:List Int
 nt:Int
 iff:Int
 key:Int
 val:Int
 no:Bool
 style:Int
def noB(r:zm):BA:=if r.no then ⟨#[44,34,110,111,34,58,116,114,117,101]⟩ else ⟨#[]⟩
def XQ(r:zm):BA:=⟨#[34,107,101,121,34,58,34]⟩++keys.getD (zy r.key 5) ⟨#[]⟩++⟨#[34,44,34,111,112,34,58]⟩
def ZB(r:zm)(op:BA)(l:List BA):BA:=⟨#[123]⟩++XQ r++op++vW l r.style++noB r++⟨#[125]⟩
def sI:BA:=⟨#[34,108,105,107,101,34,44,34,118,97,108,117,101,34,58]⟩
def Bi:BA:=⟨#[34,115,97,109,101,34,44,34,118,97,108,117,101,34,58]⟩
def nk:BA:=⟨#[34,98,101,108,111,119,34,44,34,118,97,108,117,101,34,58]⟩
def Cg:BA:=⟨#[34,117,110,100,101,114,34,44,34,118,97,108,117,101,34,58]⟩
def xU(r:zm):BA:=
 match zy r.iff 8 with
 | 1=>⟨#[123]⟩++XQ r++⟨#[34,97,98,115,101,110,116,34]⟩++noB r++⟨#[125]⟩
 | 6=>ZB r sI [patterns.getD (zy r.val 14) ⟨#[]⟩,⟨#[120]⟩]
 | 2=>ZB r Bi [words.getD (zy r.val 14) ⟨#[]⟩]
 | 3=>ZB r nk [nums.getD (zy r.val 4) ⟨#[]⟩]
 | 4=>ZB r Cg [QO.getD (zy r.val 3) ⟨#[]⟩]
 | _=>⟨#[]⟩
def ZZ(r:zm):BA:=if r.deny then ⟨#[123,34,101,102,102,101,99,116,34,58,34,100,101,110,121,34,44]⟩++yJ r.style else ⟨#[123,34,101,102,102,101,99,116,34,58,34,97,108,108,111,119,34,44]⟩
def Xm(r:zm):BA:=if (xU r).size=0 then ZZ r else ZZ r++⟨#[34,105,102,34,58,91]⟩++xU r++⟨#[93,44]⟩
def jZ(r:zm):BA:=
 Xm r++⟨#[34,111,110,34,58]⟩++ji r.on (decide (zy r.nt 16=1)) r.style++⟨#[44,34,119,104,111,34,58]⟩++ji r.who (decide (zy r.nt 16=2)) r.style++⟨#[44,34,100,111,34,58]⟩++ji r.act (decide (zy r.nt 16=3)) r.style++⟨#[125]⟩
def vJ(l:List zm):Nat->BA
 | 0=>⟨#[]⟩
 | k+1=>(if 0<k then vJ l k++⟨#[44]⟩ else vJ l k)++(l[k]?.elim ⟨#[]⟩ jZ)
def xu:zm:=⟨false,[],[],[],0,0,0,0,false,0⟩
def Q6(l:List zm):BA:=if l.length=0 then jZ xu else vJ l (min l.length 4)
def qQ(l:List zm):BA:=⟨#[123,34,115,116,97,116,101,109,101,110,116,34,58,91]⟩++Q6 l++⟨#[93,125]⟩
theorem Iq(a:Int)(b:UInt8):(esc a b).size<=6:=by
 unfold esc
 split
 ·exact by decide
 split
 ·exact by decide
 split
 ·exact by decide
 ·show 1<=6;omega
theorem gT(s:BA)(a:Int):∀k,(Xf s a k).size<=6*k+1
 | 0=>by show 1<=1;omega
 | k+1=>by
  have b:=gT s a k;have c:=Iq a (s.data.toList.getD k 0);rw[Xf,qD];omega
theorem gQ(s:BA)(a:Int):(ui s a).size<=6*s.size+2:=by
 have b:=gT s a s.size;have c:(⟨#[34]⟩:BA).size=1:=rfl;rw[ui,qD];omega
theorem PQ:∀b ∈ Je,b.size<=2:=by decide
theorem ZF{P:BA->Prop}{l:List BA}(h:∀b ∈ l,P b)(a:P ⟨#[]⟩)(k:Nat):P (l.getD k ⟨#[]⟩):=by
 rw[zQ]
 cases e:l[k]? with
 | none=>exact a
 | some b=>exact h b (Qm e)
theorem Yu(a:Int):(yJ a).size<=2:=ZF (P:=λb=>b.size<=2) PQ (by decide) _
theorem V3(l:List BA)(a:Int)(h:∀b ∈ l,b.size<=8):∀k,(yg l a k).size<=53*k+3
 | 0=>by
  have c:=Yu a;have d:(⟨#[91]⟩:BA).size=1:=rfl;rw[yg,qD];omega
 | k+1=>by
  have c:=V3 l a h k;have d:=gQ (l.getD k ⟨#[]⟩) a;have e:=ZF (P:=λb=>b.size<=8) h (by decide) k;have f:=Yu a;have g:(⟨#[44]⟩:BA).size=1:=rfl;rw[yg,qD]
  split
  ·rw[qD,qD];omega
  ·omega
theorem Y9(l:List BA)(a:Int)(h:∀b ∈ l,b.size<=8):(vW l a).size<=53*l.length+6:=by
 unfold vW
 split
 ·have c:=gQ (l.getD 0 ⟨#[]⟩) a;have d:=ZF (P:=λb=>b.size<=8) h (by decide) 0;omega
 ·have e:=V3 l a h l.length;have c:=Yu a;have d:(⟨#[93]⟩:BA).size=1:=rfl;rw[qD,qD];omega
theorem Ky:∀b ∈ patterns,b.size<=8:=by decide
theorem K6:∀b ∈ words,b.size<=8:=by decide
theorem fZ:∀b ∈ nums,b.size<=8:=by decide
theorem iY:∀b ∈ QO,b.size<=8:=by decide
theorem rY:∀b ∈ keys,b.size<=3:=by decide
theorem TV{raw:List Int}{b:BA}(h:b ∈ jq raw):b ∈ patterns:=by
 unfold jq at h;rw[qR] at h;obtain⟨c,_,rfl⟩:=h;have a:=xI c 14 (by decide);have e:patterns.getD (zy c 14) ⟨#[]⟩=patterns[zy c 14]'a:=by rw[zQ,zt a];rfl
 rw[e];exact xg _
theorem TU(raw:List Int):(jq raw).length<=4:=by
 unfold jq;rw[qg,xE];omega
theorem VN{raw:List Int}{b:BA}(h:b ∈ qU raw):b ∈ patterns:=by
 unfold qU at h
 split at h
 ·rw[xP] at h;subst h;exact .head _
 ·exact TV h
theorem XL(raw:List Int):1<=(qU raw).length/\(qU raw).length<=4:=by
 have h:=TU raw;unfold qU
 split
 ·exact⟨by decide,by decide⟩
 ·omega
theorem bH(raw:List Int):∀b ∈ qU raw,b.size<=8:=λb hb=>Ky b (VN hb)
theorem UV(raw:List Int)(nt:Bool)(a:Int):(ji raw nt a).size<=228:=by
 have b:=Y9 (qU raw) a (bH raw);have c:=(XL raw).2;unfold ji
 split
 ·have d:=Yu a;have e:(⟨#[123]⟩:BA).size=1:=rfl;have f:(⟨#[34,110,111,116,34,58]⟩:BA).size=6:=rfl;have g:(⟨#[125]⟩:BA).size=1:=rfl;rw[qD,qD,qD,qD];omega
 ·omega
theorem fU(r:zm):(noB r).size<=10:=by unfold noB;split<;>decide
theorem dJ(r:zm):(XQ r).size<=17:=by
 have a:=ZF (P:=λb=>b.size<=3) rY (by decide) (zy r.key 5);have c:(⟨#[34,107,101,121,34,58,34]⟩:BA).size=7:=rfl;have d:(⟨#[34,44,34,111,112,34,58]⟩:BA).size=7:=rfl;rw[XQ,qD,qD];omega
theorem UY(r:zm)(op:BA)(l:List BA)(h:op.size<=16)(g:l.length<=2)(hb:∀b ∈ l,b.size<=8):(ZB r op l).size<=158:=by
 have a:=dJ r;have c:=fU r;have d:=Y9 l r.style hb;have e:(⟨#[123]⟩:BA).size=1:=rfl;have f:(⟨#[125]⟩:BA).size=1:=rfl;rw[ZB]
 repeat rw[qD]
 omega
theorem nW(r:zm):(xU r).size<=158:=by
 have one:∀{l:List BA} (k:Nat),(∀b ∈ l,b.size<=8)->∀b ∈ [l.getD k ⟨#[]⟩],b.size<=8:=λk h b hb=>by
  rw[xP] at hb;subst hb;exact ZF (P:=λb=>b.size<=8) h (by decide) k
 unfold xU
 split
 ·have a:=dJ r;have c:=fU r;have d:(⟨#[123]⟩:BA).size=1:=rfl;have e:(⟨#[34,97,98,115,101,110,116,34]⟩:BA).size=8:=rfl;have f:(⟨#[125]⟩:BA).size=1:=rfl
  repeat rw[qD]
  omega
 ·refine UY r _ _ (by decide) (by simp) (λb hb=>?_)
  rcases vz.1 hb with rfl|hb
  ·exact ZF (P:=λb=>b.size<=8) Ky (by decide) _
  ·rw[xP] at hb;subst hb;decide
 ·exact UY r _ _ (by decide) (by simp) (one _ K6)
 ·exact UY r _ _ (by decide) (by simp) (one _ fZ)
 ·exact UY r _ _ (by decide) (by simp) (one _ iY)
 ·decide
theorem oJ(r:zm):(ZZ r).size<=19:=by
 unfold ZZ
 split
 ·have a:=Yu r.style;have b:(⟨#[123,34,101,102,102,101,99,116,34,58,34,100,101,110,121,34,44]⟩:BA).size=17:=rfl;rw[qD];omega
 ·decide
theorem Cn(r:zm):(Xm r).size<=185:=by
 have a:=oJ r;have b:=nW r;have c:(⟨#[34,105,102,34,58,91]⟩:BA).size=6:=rfl;have d:(⟨#[93,44]⟩:BA).size=2:=rfl;unfold Xm
 split
 ·omega
 ·repeat rw[qD]
  omega
theorem KP(r:zm):(jZ r).size<=888:=by
 have i:=Cn r;have a:=λraw nt=>UV raw nt r.style;have b:=a r.on (decide (zy r.nt 16=1));have c:=a r.who (decide (zy r.nt 16=2));have d:=a r.act (decide (zy r.nt 16=3));have e:(⟨#[34,111,110,34,58]⟩:BA).size=5:=rfl;have f:(⟨#[44,34,119,104,111,34,58]⟩:BA).size=7:=rfl;have g:(⟨#[44,34,100,111,34,58]⟩:BA).size=6:=rfl;have h:(⟨#[125]⟩:BA).size=1:=rfl;unfold jZ
 repeat rw[qD]
 omega
theorem gI(l:List zm):∀k,(vJ l k).size<=889*k
 | 0=>ze 0
 | k+1=>by
  have a:=gI l k;have c:(⟨#[44]⟩:BA).size=1:=rfl
  have b:(l[k]?.elim ⟨#[]⟩ jZ).size<=888:=by
   cases e:l[k]? with
   | none=>decide
   | some r=>exact KP r
  rw[vJ,qD]
  split
  ·rw[qD];omega
  ·omega
theorem nz(l:List zm):(Q6 l).size<=3556:=by
 unfold Q6
 split
 ·have:=KP xu;omega
 ·have a:=gI l (min l.length 4)
  have:min l.length 4<=4:=Nat.min_le_right _ _
  omega
theorem Aa(l:List zm):(qQ l).size<=3572:=by
 have a:=nz l;have b:(⟨#[123,34,115,116,97,116,101,109,101,110,116,34,58,91]⟩:BA).size=14:=rfl;have c:(⟨#[93,125]⟩:BA).size=2:=rfl;unfold qQ;rw[qD,qD];omega
end Kp
end Go.Proofs.YtagnlbgbnfnapaaGreatDoor
namespace Go.Proofs.YtagnlbgbnfnapaaGreatDoor
open Go.RowKit
def I64(x:Int):Prop:=-9223372036854775808<=x/\x<=9223372036854775807
theorem I64.tdiv{x:Int}(h:I64 x)(d:Nat):I64 (x.tdiv d):=by
 obtain⟨b,c⟩:=h;have e:(x.tdiv d).natAbs=x.natAbs / d:=by rw[Int.natAbs_tdiv];rfl
 have hle:x.natAbs / d<=x.natAbs:=Nat.div_le_self _ _
 by_cases h0:0<=x
 ·have:=Int.tdiv_nonneg h0 (show (0:Int)<=(d:Int) by omega)
  unfold I64;omega
 ·have a:=Int.tdiv_nonneg (show (0:Int) <= -x by omega) (show (0:Int)<=(d:Int) by omega);rw[Int.neg_tdiv] at a;unfold I64;omega
theorem Rt(c:Int)(n:Nat)(h:c<0):-(c+1).tmod (n:Int)=(Kp.zy c n:Int):=by
 unfold Kp.zy;rw[zb h,<- Int.neg_tmod,Int.tmod_eq_emod_of_nonneg (by omega)];have a:=Int.emod_nonneg (-(c+1)) (b:=(n:Int))
 by_cases hn:(n:Int)=0
 ·rw[hn,Int.emod_zero];omega
 ·have:=a hn;omega
theorem Ru(c:Int)(n:Nat)(h:0<=c):c % (n:Int)=(Kp.zy c n:Int):=by
 unfold Kp.zy;rw[za (by omega)];have a:=Int.emod_nonneg c (b:=(n:Int))
 by_cases hn:(n:Int)=0
 ·rw[hn,Int.emod_zero];omega
 ·have:=a hn;omega
theorem uh(c:Int)(n:Nat)(w:World)(a:I64 c)(h:0<n)(g:n<=1000000) :
  Calls prog 11 #[.int .i64 c,.int .i64 (n:Int)] w λe b=>e = .returned (.int .i64 (Kp.zy c n:Int))/\b=w:=by
 obtain⟨d,f⟩:=a
 by_cases h0:c<0
 ·have e:=hid (Rt c n h0);go_enter func11,ntmps11
  go_wp2
  go_ret;exact⟨by rw[<- e.out];rfl,rfl⟩
 ·have e:=hid (Ru c n (by omega));go_enter func11,ntmps11
  go_wp2
  go_ret;exact⟨by rw[<- e.out];rfl,rfl⟩
theorem XT(w:World)(l:List BA)(k:Nat)(h:k<l.length):(w.alloc (.cells (l.map Value.string).toArray 9)).cell? ⟨w.heap.size,k,none⟩=some (.string (l.getD k ⟨#[]⟩)):=by
 have a:=(zf (zL w (.cells (l.map Value.string).toArray 9)) k).1;rw[a,zQ];simp[List.getElem?_map,List.getElem?_eq_getElem h]
theorem gG(a:Int)(w:World)(i:I64 a) :
  Calls prog 64 #[.int .i64 a] w λe m=>e = .returned (.string (Kp.yJ a))/\Below w.heap.size w m:=by
 have h:=i.tdiv 8;have c1:=λW=>uh (a.tdiv (8:Nat)) 4 W h (by decide) (by decide);have b:=Kp.xI (a.tdiv (8:Nat)) 4 (by decide);have g:Kp.yJ a=Kp.Je.getD (Kp.zy (a.tdiv (8:Nat)) 4) ⟨#[]⟩:=rfl;rw[g];obtain⟨k,c⟩:=Nm (Kp.zy (a.tdiv (8:Nat)) 4);rw[c] at b |-;simp only[c] at c1;have j:=hid c1;have d:=XT w Kp.Je k b;obtain⟨P,f⟩:=Nm (Kp.Je.getD k ⟨#[]⟩);rw[f] at d |-;have l:(w.alloc (.cells #[.string ⟨#[]⟩,.string ⟨#[32]⟩,.string ⟨#[10,9]⟩,.string ⟨#[13,32]⟩] 9)).cell? ⟨w.heap.size,k,none⟩=some (.string P):=d;obtain⟨n,o⟩:=i;clear c1 f c g d h;go_enter func64,ntmps64
 go_wp2_with (go_at_call 11;refine (j.out _).mono ?_;rintro e p ⟨rfl,rfl⟩)
 go_ret;exact⟨rfl,nB w _⟩
theorem MZ(c:Int)(w:World)(g:I64 c) :
  Calls prog 113 #[.int .i64 c] w λe j=>e = .returned (.string (Kp.keys.getD (Kp.zy c 5) ⟨#[]⟩))/\Below w.heap.size w j:=by
 have c1:=λW=>uh c 5 W g (by decide) (by decide);have a:=Kp.xI c 5 (by decide);obtain⟨k,b⟩:=Nm (Kp.zy c 5);rw[b] at a |-;simp only[b] at c1;have h:=hid c1;have d:=XT w Kp.keys k a;obtain⟨P,f⟩:=Nm (Kp.keys.getD k ⟨#[]⟩);rw[f] at d |-;have i:(w.alloc (.cells #[.string ⟨#[119,104,111]⟩,.string ⟨#[100,111]⟩,.string ⟨#[111,110]⟩,.string ⟨#[116,97,103]⟩,.string ⟨#[97,103,101]⟩] 9)).cell? ⟨w.heap.size,k,none⟩=some (.string P):=d;obtain⟨l,m⟩:=g;clear c1 f b d;go_enter func113,ntmps113
 go_wp2_with (go_at_call 11;refine (h.out _).mono ?_;rintro e n ⟨rfl,rfl⟩)
 go_ret;exact⟨rfl,nB w _⟩
theorem Cs(w:World) :
  Calls prog 45 #[] w λe a=>e = .returned (.slice (some ⟨w.heap.size,0,none⟩) 14 14)/\a=w.alloc (.cells (Kp.words.map Value.string).toArray 9):=by
 go_enter func45,ntmps45
 go_wp2
 go_ret;exact⟨rfl,rfl⟩
theorem Aj(w:World) :
  Calls prog 114 #[] w λe a=>e = .returned (.slice (some ⟨w.heap.size,0,none⟩) 14 14)/\a=w.alloc (.cells (Kp.patterns.map Value.string).toArray 9):=by
 go_enter func114,ntmps114
 go_wp2
 go_ret;exact⟨rfl,rfl⟩
theorem RD(s:BA)(a:Int)(k:Nat)(h:k<s.size):Kp.Xf s a (k+1)=Kp.Xf s a k++Kp.esc a s[k]:=by
 rw[Kp.Xf,zQ];have b:k<s.data.toList.length:=by rw[Ref.zP];exact h
 rw[zt b]
 rfl
theorem zad(t:BA)(k:Nat)(h:k<t.size):t.extract k (k+1)=⟨#[t[k]]⟩:=by
 apply uS;apply Jm.1;have a:k<t.data.toList.length:=by rw[Ref.zP];exact h
 simp only[Jn,Uu,ai];rw[show k+1-k=1 by omega,ZQ a]
 rfl
theorem RA(s:BA)(a:Int)(w:World)(K:s.size<=1000)(D:I64 a) :
  Calls prog 156 #[.string s,.int .i64 a] w λe I=>e = .returned (.string (Kp.ui s a))/\I=w:=by
 obtain⟨P,Q⟩:=D;obtain⟨R,C⟩:=Nm (Kp.ui s a);rw[C];have B:=hid C;clear C;obtain⟨j,d⟩:∃b,Kp.bit a 1=b:=⟨_,rfl⟩;obtain⟨l,f⟩:∃b,Kp.bit a 2=b:=⟨_,rfl⟩;obtain⟨m,g⟩:∃b,Kp.bit a 4=b:=⟨_,rfl⟩;have L:(a.tmod 2 != 0)=j:=by rw[<- d,Kp.bit,Int.tdiv_one];by_cases h:a.tmod 2=0<;>simp[h]
 have M:((a.tdiv 2).tmod 2 != 0)=l:=by rw[<- f,Kp.bit];by_cases h:(a.tdiv 2).tmod 2=0<;>simp[h]
 have N:((a.tdiv 4).tmod 2 != 0)=m:=by rw[<- g,Kp.bit];by_cases h:(a.tdiv 4).tmod 2=0<;>simp[h]
 have G:∀b,Kp.esc a b=if b.toNat=47/\j=true then ⟨#[92,47]⟩ else if b.toNat=97/\l=true then ⟨#[92,117,48,48,54,49]⟩ else if b.toNat=42/\m=true then ⟨#[92,117,48,48,50,65]⟩ else ⟨#[b]⟩:=λb=>by rw[<- d,<- f,<- g];rfl
 have A:=hid G;clear G d f g;go_enter func156,ntmps156
 go_wp2
 obtain⟨O,x⟩:∃O:Nat->BA,Kp.Xf s a=O:=⟨_,rfl⟩;have r:∀k,(O k).size<=6*k+1:=λk=>by rw[<- x];exact Kp.gT s a k
 have u:=hid x;have n:=hid r;have F:Hid (O 0=⟨#[34]⟩):=by rw[<- x];rfl
 clear x r
 go_loopw [5,6] (λH E wr=>∃k:Nat,k<=s.size/\E = .int .i64 k/\H = .string (O k)/\wr=w) (λ_ E _=>s.size-(intOf E).toNat)
 case atStart=>exact⟨0,zU _,rfl,by rw[F.out],rfl⟩
 case round=>
  obtain⟨k,J,rfl,rfl,t⟩:=hrel;rw[t];clear t;have z:=n.out k;obtain⟨o,q⟩:=Nm (O k);rw[q] at z |-
  by_cases hlt:k<s.size
  ·have c:Hid (O (k+1)=o++Kp.esc a s[k]):=by rw[<- q,<- u.out];exact RD s a k hlt
   have y:=hid (zad s k hlt);rw[A.out] at c;clear q u n F B A
   by_cases c1:s[k].toNat=47/\j=true
   ·obtain⟨c1,rfl⟩:=c1;rw[zb ⟨c1,rfl⟩] at c;have i:((s[k].toNat:Int)==47)=true:=by simp;omega
    go_wp2
    go_roundw
    case rel=>exact⟨k+1,by omega,by go_num,by rw[c.out],trivial⟩
    case measure=>simp[intOf];omega
   rw[za c1] at c
   by_cases c2:s[k].toNat=97/\l=true
   ·obtain⟨c2,rfl⟩:=c2;rw[zb ⟨c2,rfl⟩] at c;have i:((s[k].toNat:Int)==47)=false:=by simp;omega
    have p:((s[k].toNat:Int)==97)=true:=by simp;omega
    go_wp2
    go_roundw
    case rel=>exact⟨k+1,by omega,by go_num,by rw[c.out],trivial⟩
    case measure=>simp[intOf];omega
   rw[za c2] at c
   by_cases c3:s[k].toNat=42/\m=true
   ·obtain⟨c3,rfl⟩:=c3;rw[zb ⟨c3,rfl⟩] at c;have i:((s[k].toNat:Int)==47)=false:=by simp;omega
    have p:((s[k].toNat:Int)==97)=false:=by simp;omega
    have v:((s[k].toNat:Int)==42)=true:=by simp;omega
    go_wp2
    go_roundw
    case rel=>exact⟨k+1,by omega,by go_num,by rw[c.out],trivial⟩
    case measure=>simp[intOf];omega
   rw[za c3] at c
   by_cases d1:s[k].toNat=47
   ·have hb:j=false:=by cases j with
     | true=>exact absurd ⟨d1,rfl⟩ c1
     | false=>rfl
    subst hb;have i:((s[k].toNat:Int)==47)=true:=by simp;omega
    have p:((s[k].toNat:Int)==97)=false:=by simp;omega
    have v:((s[k].toNat:Int)==42)=false:=by simp;omega
    go_wp2
    go_roundw
    case rel=>exact⟨k+1,by omega,by go_num,by rw[c.out,y.out],trivial⟩
    case measure=>simp[intOf];omega
   by_cases d2:s[k].toNat=97
   ·have hb:l=false:=by cases l with
     | true=>exact absurd ⟨d2,rfl⟩ c2
     | false=>rfl
    subst hb;have i:((s[k].toNat:Int)==47)=false:=by simp;omega
    have p:((s[k].toNat:Int)==97)=true:=by simp;omega
    have v:((s[k].toNat:Int)==42)=false:=by simp;omega
    go_wp2
    go_roundw
    case rel=>exact⟨k+1,by omega,by go_num,by rw[c.out,y.out],trivial⟩
    case measure=>simp[intOf];omega
   by_cases d3:s[k].toNat=42
   ·have hb:m=false:=by cases m with
     | true=>exact absurd ⟨d3,rfl⟩ c3
     | false=>rfl
    subst hb;have i:((s[k].toNat:Int)==47)=false:=by simp;omega
    have p:((s[k].toNat:Int)==97)=false:=by simp;omega
    have v:((s[k].toNat:Int)==42)=true:=by simp;omega
    go_wp2
    go_roundw
    case rel=>exact⟨k+1,by omega,by go_num,by rw[c.out,y.out],trivial⟩
    case measure=>simp[intOf];omega
   ·have i:((s[k].toNat:Int)==47)=false:=by simp;omega
    have p:((s[k].toNat:Int)==97)=false:=by simp;omega
    have v:((s[k].toNat:Int)==42)=false:=by simp;omega
    go_wp2
    go_roundw
    case rel=>exact⟨k+1,by omega,by go_num,by rw[c.out,y.out],trivial⟩
    case measure=>simp[intOf];omega
  ·have e:R=o++⟨#[34]⟩:=by rw[<- B.out,<- q,<- u.out,Kp.ui,show k=s.size by omega]
   subst e;clear B u q A
   go_wp2
   go_ret;exact⟨rfl,rfl⟩
end Go.Proofs.YtagnlbgbnfnapaaGreatDoor
