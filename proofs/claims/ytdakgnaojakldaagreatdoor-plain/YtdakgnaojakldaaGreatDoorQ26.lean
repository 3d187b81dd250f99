/- P -/
import Derived.Test.YtdakgnaojakldaaGreatDoorQ25
open Go.Proofs.Tryz
set_option maxRecDepth 100000
set_option maxHeartbeats 1000000
namespace Go.Proofs.YtdakgnaojakldaaGreatDoor.plain
open Go.ChangeShapes Go.WideShapes Go.ChangeAt Go.RowKit Go.Joins Go.Deep
def Qh:Array Value:=#[.slice none 0 0,.slice none 0 0]
theorem zax(os:Os):((laws.laidWorld os).forCall (λ_ _=>0) ⟨#[],Qh,[]⟩).variablesRefB prog=true:=by kernel_rfl
theorem zav(os:Os):(((laws.laidWorld os).forCall (λ_ _=>0) ⟨#[],Qh,[]⟩).heap.toList.drop prog.globals.size).take ((begin prog (λ_ _=>0) default).world.heap.size-prog.globals.size) =
   (begin prog (λ_ _=>0) default).world.heap.toList.drop prog.globals.size:=by kernel_rfl
theorem zau(os:Os):Input.okWideB prog ((laws.laidWorld os).forCall (λ_ _=>0) ⟨#[],Qh,[]⟩) 9 ⟨#[],Qh,[]⟩=true:=by kernel_rfl
theorem zaw(os:Os){H:Type}(enc:TypeId×Value->H):(OpenSpec.ofChange Rows.plainSpec).bare.sizedB enc prog Tryz.f9 false ((laws.laidWorld os).forCall (λ_ _=>0) ⟨#[],Qh,[]⟩).memory Qh 8=true:=by kernel_rfl
theorem zat:prog.inits.idxOf? 9=none:=by kernel_rfl
theorem reads(os:Os){H:Type}(enc:TypeId×Value->H):∃a,DataW.whole enc prog ((laws.laidWorld os).forCall (λ_ _=>0) ⟨#[],Qh,[]⟩).memory Tryz.f9.params.toList Rows.plainSpec.vars false Qh.toList 8
  = some ([.nil,.nil],[],a):=by
 have c:(DataW.whole enc prog ((laws.laidWorld os).forCall (λ_ _=>0) ⟨#[],Qh,[]⟩).memory Tryz.f9.params.toList Rows.plainSpec.vars false Qh.toList 8).map (λx=>(x.1,x.2.1)) =
   some ([.nil,.nil],[]):=by kernel_rfl
 obtain⟨⟨f,g,e⟩,d,b⟩:=vU.1 c;simp only[Prod.mk.injEq] at b;obtain⟨rfl,rfl⟩:=b;exact⟨e,d⟩
end Go.Proofs.YtdakgnaojakldaaGreatDoor.plain
namespace Go.Proofs.YtdakgnaojakldaaGreatDoor
namespace Kp
def zo(c:Int)(n:Nat):Nat:=((if c<0 then -(c+1) else c) % (n:Int)).toNat
theorem xK(c:Int)(n:Nat)(h:0<n):zo c n<n:=by
 unfold zo;have a:=Int.emod_nonneg (if c<0 then -(c+1) else c) (show (n:Int)≠0 by omega)
 have b:=Int.emod_lt_of_pos (if c<0 then -(c+1) else c) (show (0:Int)<n by omega)
 omega
def bit(st d:Int):Bool:=decide ((st.tdiv d).tmod 2≠0)
def words:List BA:=[⟨#[97,110,110]⟩,⟨#[98,111,98]⟩,⟨#[114,101,97,100]⟩,⟨#[119,114,105,116,101]⟩,⟨#[98,111,120]⟩,⟨#[98,111,120,47,49]⟩,⟨#[98,111,120,47,195,169]⟩,⟨#[98,111,120,47,49,47,97]⟩,⟨#[]⟩,⟨#[42]⟩,⟨#[97]⟩,⟨#[55]⟩,⟨#[45,51]⟩,⟨#[49,56]⟩]
def patterns:List BA:=[⟨#[42]⟩,⟨#[97,110,110]⟩,⟨#[98,42]⟩,⟨#[114,101,97,100]⟩,⟨#[63,63,63,63,63]⟩,⟨#[98,111,120,47,42]⟩,⟨#[98,111,120,47,63]⟩,⟨#[36,123,119,104,111,125]⟩,⟨#[42,36,123,116,97,103,125,42]⟩,⟨#[36,42]⟩,⟨#[]⟩,⟨#[42,97,42]⟩,⟨#[98,111,120,47,195,169]⟩,⟨#[36,123,111,110,125,47,42]⟩]
def keys:List BA:=[⟨#[119,104,111]⟩,⟨#[100,111]⟩,⟨#[111,110]⟩,⟨#[116,97,103]⟩,⟨#[97,103,101]⟩]
def nums:List BA:=[⟨#[48]⟩,⟨#[56]⟩,⟨#[45,52]⟩,⟨#[49,48,48]⟩]
def Qg:List BA:=[⟨#[98,111,120]⟩,⟨#[98,111,120,47,49]⟩,⟨#[97]⟩]
def YL:List BA:=[⟨#[]⟩,⟨#[32]⟩,⟨#[10,9]⟩,⟨#[13,32]⟩]
def esc(st:Int)(b:UInt8):BA:=
 if b.toNat=47/\bit st 1=true then ⟨#[92,47]⟩ else if b.toNat=97/\bit st 2=true then ⟨#[92,117,48,48,54,49]⟩ else if b.toNat=42/\bit st 4=true then ⟨#[92,117,48,48,50,65]⟩ else ⟨#[b]⟩
def QJ(s:BA)(st:Int):Nat->BA
 | 0=>⟨#[34]⟩
 | k+1=>QJ s st k++esc st (s.data.toList.getD k 0)
def vI(s:BA)(st:Int):BA:=QJ s st s.size++⟨#[34]⟩
def yB(st:Int):BA:=YL.getD (zo (st.tdiv 8) 4) ⟨#[]⟩
def xG(l:List BA)(st:Int):Nat->BA
 | 0=>⟨#[91]⟩++yB st
 | k+1=>(if 0<k then xG l st k++⟨#[44]⟩++yB st else xG l st k)++vI (l.getD k ⟨#[]⟩) st
def xJ(l:List BA)(st:Int):BA:=if l.length=1/\bit st 32=true then vI (l.getD 0 ⟨#[]⟩) st else xG l st l.length++⟨#[93]⟩++yB st
def vJ(raw:List Int):List BA:=(raw.take 4).map λc=>patterns.getD (zo c 14) ⟨#[]⟩
def qE(raw:List Int):List BA:=if (vJ raw).length=0 then [⟨#[42]⟩] else vJ raw
def jb(raw:List Int)(nt:Bool)(st:Int):BA:=if nt then ⟨#[123]⟩++yB st++⟨#[34,110,111,116,34,58]⟩++xJ (qE raw) st++⟨#[125]⟩ else xJ (qE raw) st
structure zt where
 deny:Bool
 who:List Int
 act:List Int
 on:List Int
 nt:Int
 iff:Int
 key:Int
 val:Int
 no:Bool
 style:Int
def noB(r:zt):BA:=if r.no then ⟨#[44,34,110,111,34,58,116,114,117,101]⟩ else ⟨#[]⟩
def Xl(r:zt):BA:=⟨#[34,107,101,121,34,58,34]⟩++keys.getD (zo r.key 5) ⟨#[]⟩++⟨#[34,44,34,111,112,34,58]⟩
def Xg(r:zt)(op:BA)(l:List BA):BA:=⟨#[123]⟩++Xl r++op++xJ l r.style++noB r++⟨#[125]⟩
def oK:BA:=⟨#[34,108,105,107,101,34,44,34,118,97,108,117,101,34,58]⟩
def ww:BA:=⟨#[34,115,97,109,101,34,44,34,118,97,108,117,101,34,58]⟩
def iO:BA:=⟨#[34,98,101,108,111,119,34,44,34,118,97,108,117,101,34,58]⟩
def Ay:BA:=⟨#[34,117,110,100,101,114,34,44,34,118,97,108,117,101,34,58]⟩
def xR(r:zt):BA:=
 match zo r.iff 8 with
 | 1=>⟨#[123]⟩++Xl r++⟨#[34,97,98,115,101,110,116,34]⟩++noB r++⟨#[125]⟩
 | 6=>Xg r oK [patterns.getD (zo r.val 14) ⟨#[]⟩,⟨#[120]⟩]
 | 2=>Xg r ww [words.getD (zo r.val 14) ⟨#[]⟩]
 | 3=>Xg r iO [nums.getD (zo r.val 4) ⟨#[]⟩]
 | 4=>Xg r Ay [Qg.getD (zo r.val 3) ⟨#[]⟩]
 | _=>⟨#[]⟩
def Zu(r:zt):BA:=if r.deny then ⟨#[123,34,101,102,102,101,99,116,34,58,34,100,101,110,121,34,44]⟩++yB r.style else ⟨#[123,34,101,102,102,101,99,116,34,58,34,97,108,108,111,119,34,44]⟩
def QQ(r:zt):BA:=if (xR r).size=0 then Zu r else Zu r++⟨#[34,105,102,34,58,91]⟩++xR r++⟨#[93,44]⟩
def jK(r:zt):BA:=
 QQ r++⟨#[34,111,110,34,58]⟩++jb r.on (decide (zo r.nt 16=1)) r.style++⟨#[44,34,119,104,111,34,58]⟩++jb r.who (decide (zo r.nt 16=2)) r.style++⟨#[44,34,100,111,34,58]⟩++jb r.act (decide (zo r.nt 16=3)) r.style++⟨#[125]⟩
def jV(l:List zt):Nat->BA
 | 0=>⟨#[]⟩
 | k+1=>(if 0<k then jV l k++⟨#[44]⟩ else jV l k)++(l[k]?.elim ⟨#[]⟩ jK)
def xX:zt:=⟨false,[],[],[],0,0,0,0,false,0⟩
def Qy(l:List zt):BA:=if l.length=0 then jK xX else jV l (min l.length 4)
def jh(l:List zt):BA:=⟨#[123,34,115,116,97,116,101,109,101,110,116,34,58,91]⟩++Qy l++⟨#[93,125]⟩
theorem Gi(st:Int)(b:UInt8):(esc st b).size<=6:=by
 unfold esc
 split
 ·exact by decide
 split
 ·exact by decide
 split
 ·exact by decide
 ·show 1<=6;omega
theorem eB(s:BA)(st:Int):∀k,(QJ s st k).size<=6*k+1
 | 0=>by show 1<=1;omega
 | k+1=>by
  have a:=eB s st k;have b:=Gi st (s.data.toList.getD k 0);rw[QJ,zI];omega
theorem eu(s:BA)(st:Int):(vI s st).size<=6*s.size+2:=by
 have a:=eB s st s.size;have b:(⟨#[34]⟩:BA).size=1:=rfl;rw[vI,zI];omega
theorem OV:∀b ∈ YL,b.size<=2:=by decide
theorem Zd{P:BA->Prop}{l:List BA}(h:∀b ∈ l,P b)(a:P ⟨#[]⟩)(k:Nat):P (l.getD k ⟨#[]⟩):=by
 rw[zL]
 cases e:l[k]? with
 | none=>exact a
 | some b=>exact h b (ZN e)
theorem XY(st:Int):(yB st).size<=2:=Zd (P:=λb=>b.size<=2) OV (by decide) _
theorem Jw(l:List BA)(st:Int)(h:∀b ∈ l,b.size<=8):∀k,(xG l st k).size<=53*k+3
 | 0=>by
  have a:=XY st;have c:(⟨#[91]⟩:BA).size=1:=rfl;rw[xG,zI];omega
 | k+1=>by
  have a:=Jw l st h k;have c:=eu (l.getD k ⟨#[]⟩) st;have d:=Zd (P:=λb=>b.size<=8) h (by decide) k;have e:=XY st;have f:(⟨#[44]⟩:BA).size=1:=rfl;rw[xG,zI]
  split
  ·rw[zI,zI];omega
  ·omega
theorem YG(l:List BA)(st:Int)(h:∀b ∈ l,b.size<=8):(xJ l st).size<=53*l.length+6:=by
 unfold xJ
 split
 ·have a:=eu (l.getD 0 ⟨#[]⟩) st;have c:=Zd (P:=λb=>b.size<=8) h (by decide) 0;omega
 ·have d:=Jw l st h l.length;have a:=XY st;have c:(⟨#[93]⟩:BA).size=1:=rfl;rw[zI,zI];omega
theorem VK:∀b ∈ patterns,b.size<=8:=by decide
theorem KH:∀b ∈ words,b.size<=8:=by decide
theorem dC:∀b ∈ nums,b.size<=8:=by decide
theorem gB:∀b ∈ Qg,b.size<=8:=by decide
theorem bY:∀b ∈ keys,b.size<=3:=by decide
theorem Tq{raw:List Int}{b:BA}(h:b ∈ vJ raw):b ∈ patterns:=by
 unfold vJ at h;rw[ql] at h;obtain⟨c,_,rfl⟩:=h;have a:=xK c 14 (by decide);have e:patterns.getD (zo c 14) ⟨#[]⟩=patterns[zo c 14]'a:=by rw[zL,zl a];rfl
 rw[e];exact qH _
theorem Tp(raw:List Int):(vJ raw).length<=4:=by
 unfold vJ;rw[zN,xC];omega
theorem XP{raw:List Int}{b:BA}(h:b ∈ qE raw):b ∈ patterns:=by
 unfold qE at h
 split at h
 ·rw[xE] at h;subst h;exact .head _
 ·exact Tq h
theorem Qz(raw:List Int):1<=(qE raw).length/\(qE raw).length<=4:=by
 have h:=Tp raw;unfold qE
 split
 ·exact⟨by decide,by decide⟩
 ·omega
theorem aJ(raw:List Int):∀b ∈ qE raw,b.size<=8:=λb hb=>VK b (XP hb)
theorem Us(raw:List Int)(nt:Bool)(st:Int):(jb raw nt st).size<=228:=by
 have a:=YG (qE raw) st (aJ raw);have b:=(Qz raw).2;unfold jb
 split
 ·have c:=XY st;have d:(⟨#[123]⟩:BA).size=1:=rfl;have e:(⟨#[34,110,111,116,34,58]⟩:BA).size=6:=rfl;have f:(⟨#[125]⟩:BA).size=1:=rfl;rw[zI,zI,zI,zI];omega
 ·omega
theorem dA(r:zt):(noB r).size<=10:=by unfold noB;split<;>decide
theorem bM(r:zt):(Xl r).size<=17:=by
 have a:=Zd (P:=λb=>b.size<=3) bY (by decide) (zo r.key 5);have c:(⟨#[34,107,101,121,34,58,34]⟩:BA).size=7:=rfl;have d:(⟨#[34,44,34,111,112,34,58]⟩:BA).size=7:=rfl;rw[Xl,zI,zI];omega
theorem Uy(r:zt)(op:BA)(l:List BA)(h:op.size<=16)(g:l.length<=2)(hb:∀b ∈ l,b.size<=8):(Xg r op l).size<=158:=by
 have a:=bM r;have c:=dA r;have d:=YG l r.style hb;have e:(⟨#[123]⟩:BA).size=1:=rfl;have f:(⟨#[125]⟩:BA).size=1:=rfl;rw[Xg]
 repeat rw[zI]
 omega
theorem lI(r:zt):(xR r).size<=158:=by
 have one:∀{l:List BA} (k:Nat),(∀b ∈ l,b.size<=8)->∀b ∈ [l.getD k ⟨#[]⟩],b.size<=8:=λk h b hb=>by
  rw[xE] at hb;subst hb;exact Zd (P:=λb=>b.size<=8) h (by decide) k
 unfold xR
 split
 ·have a:=bM r;have c:=dA r;have d:(⟨#[123]⟩:BA).size=1:=rfl;have e:(⟨#[34,97,98,115,101,110,116,34]⟩:BA).size=8:=rfl;have f:(⟨#[125]⟩:BA).size=1:=rfl
  repeat rw[zI]
  omega
 ·refine Uy r _ _ (by decide) (by simp) (λb hb=>?_)
  rcases x8.1 hb with rfl|hb
  ·exact Zd (P:=λb=>b.size<=8) VK (by decide) _
  ·rw[xE] at hb;subst hb;decide
 ·exact Uy r _ _ (by decide) (by simp) (one _ KH)
 ·exact Uy r _ _ (by decide) (by simp) (one _ dC)
 ·exact Uy r _ _ (by decide) (by simp) (one _ gB)
 ·decide
theorem mJ(r:zt):(Zu r).size<=19:=by
 unfold Zu
 split
 ·have a:=XY r.style;have b:(⟨#[123,34,101,102,102,101,99,116,34,58,34,100,101,110,121,34,44]⟩:BA).size=17:=rfl;rw[zI];omega
 ·decide
theorem AP(r:zt):(QQ r).size<=185:=by
 have a:=mJ r;have b:=lI r;have c:(⟨#[34,105,102,34,58,91]⟩:BA).size=6:=rfl;have d:(⟨#[93,44]⟩:BA).size=2:=rfl;unfold QQ
 split
 ·omega
 ·repeat rw[zI]
  omega
theorem Km(r:zt):(jK r).size<=888:=by
 have i:=AP r;have a:=λraw nt=>Us raw nt r.style;have b:=a r.on (decide (zo r.nt 16=1));have c:=a r.who (decide (zo r.nt 16=2));have d:=a r.act (decide (zo r.nt 16=3));have e:(⟨#[34,111,110,34,58]⟩:BA).size=5:=rfl;have f:(⟨#[44,34,119,104,111,34,58]⟩:BA).size=7:=rfl;have g:(⟨#[44,34,100,111,34,58]⟩:BA).size=6:=rfl;have h:(⟨#[125]⟩:BA).size=1:=rfl;unfold jK
 repeat rw[zI]
 omega
theorem dN(l:List zt):∀k,(jV l k).size<=889*k
 | 0=>ze 0
 | k+1=>by
  have a:=dN l k;have c:(⟨#[44]⟩:BA).size=1:=rfl
  have b:(l[k]?.elim ⟨#[]⟩ jK).size<=888:=by
   cases e:l[k]? with
   | none=>decide
   | some r=>exact Km r
  rw[jV,zI]
  split
  ·rw[zI];omega
  ·omega
theorem iQ(l:List zt):(Qy l).size<=3556:=by
 unfold Qy
 split
 ·have:=Km xX;omega
 ·have a:=dN l (min l.length 4)
  have:min l.length 4<=4:=Nat.min_le_right _ _
  omega
theorem rW(l:List zt):(jh l).size<=3572:=by
 have a:=iQ l;have b:(⟨#[123,34,115,116,97,116,101,109,101,110,116,34,58,91]⟩:BA).size=14:=rfl;have c:(⟨#[93,125]⟩:BA).size=2:=rfl;unfold jh;rw[zI,zI];omega
end Kp
end Go.Proofs.YtdakgnaojakldaaGreatDoor
namespace Go.Proofs.YtdakgnaojakldaaGreatDoor
open Go.RowKit
def I64(x:Int):Prop:=-9223372036854775808<=x/\x<=9223372036854775807
theorem I64.tdiv{x:Int}(h:I64 x)(d:Nat):I64 (x.tdiv d):=by
 obtain⟨b,c⟩:=h;have e:(x.tdiv d).natAbs=x.natAbs / d:=by rw[Int.natAbs_tdiv];rfl
 have hle:x.natAbs / d<=x.natAbs:=Nat.div_le_self _ _
 by_cases h0:0<=x
 ·have:=Int.tdiv_nonneg h0 (show (0:Int)<=(d:Int) by omega)
  unfold I64;omega
 ·have a:=Int.tdiv_nonneg (show (0:Int) <= -x by omega) (show (0:Int)<=(d:Int) by omega);rw[Int.neg_tdiv] at a;unfold I64;omega
theorem PE(c:Int)(n:Nat)(h:c<0):-(c+1).tmod (n:Int)=(Kp.zo c n:Int):=by
 unfold Kp.zo;rw[zb h,<- Int.neg_tmod,Int.tmod_eq_emod_of_nonneg (by omega)];have a:=Int.emod_nonneg (-(c+1)) (b:=(n:Int))
 by_cases hn:(n:Int)=0
 ·rw[hn,Int.emod_zero];omega
 ·have:=a hn;omega
theorem PG(c:Int)(n:Nat)(h:0<=c):c % (n:Int)=(Kp.zo c n:Int):=by
 unfold Kp.zo;rw[za (by omega)];have a:=Int.emod_nonneg c (b:=(n:Int))
 by_cases hn:(n:Int)=0
 ·rw[hn,Int.emod_zero];omega
 ·have:=a hn;omega
theorem ZC(c:Int)(n:Nat)(w:World)(a:I64 c)(h:0<n)(g:n<=1000000) :
  Calls prog 19 #[.int .i64 c,.int .i64 (n:Int)] w λe b=>e = .returned (.int .i64 (Kp.zo c n:Int))/\b=w:=by
 obtain⟨d,f⟩:=a
 by_cases h0:c<0
 ·have e:=hid (PE c n h0);go_enter func19,ntmps19
  go_wp2
  go_ret;exact⟨by rw[<- e.out];rfl,rfl⟩
 ·have e:=hid (PG c n (by omega));go_enter func19,ntmps19
  go_wp2
  go_ret;exact⟨by rw[<- e.out];rfl,rfl⟩
theorem Xo(w:World)(l:List BA)(k:Nat)(h:k<l.length):(w.alloc (.cells (l.map Value.string).toArray 9)).cell? ⟨w.heap.size,k,none⟩=some (.string (l.getD k ⟨#[]⟩)):=by
 have a:=(zf (zM w (.cells (l.map Value.string).toArray 9)) k).1;rw[a,zL];simp[List.getElem?_map,List.getElem?_eq_getElem h]
theorem dL(st:Int)(w:World)(h:I64 st) :
  Calls prog 77 #[.int .i64 st] w λe l=>e = .returned (.string (Kp.yB st))/\Below w.heap.size w l:=by
 have g:=h.tdiv 8;have c1:=λW=>ZC (st.tdiv (8:Nat)) 4 W g (by decide) (by decide);have a:=Kp.xK (st.tdiv (8:Nat)) 4 (by decide);have f:Kp.yB st=Kp.YL.getD (Kp.zo (st.tdiv (8:Nat)) 4) ⟨#[]⟩:=rfl;rw[f];obtain⟨k,b⟩:=Nm (Kp.zo (st.tdiv (8:Nat)) 4);rw[b] at a |-;simp only[b] at c1;have i:=hid c1;have c:=Xo w Kp.YL k a;obtain⟨P,d⟩:=Nm (Kp.YL.getD k ⟨#[]⟩);rw[d] at c |-;have j:(w.alloc (.cells #[.string ⟨#[]⟩,.string ⟨#[32]⟩,.string ⟨#[10,9]⟩,.string ⟨#[13,32]⟩] 9)).cell? ⟨w.heap.size,k,none⟩=some (.string P):=c;obtain⟨m,n⟩:=h;clear c1 d b f c g;go_enter func77,ntmps77
 go_wp2_with (go_at_call 19;refine (i.out _).mono ?_;rintro e o ⟨rfl,rfl⟩)
 go_ret;exact⟨rfl,nB w _⟩
theorem Mo(c:Int)(w:World)(g:I64 c) :
  Calls prog 128 #[.int .i64 c] w λe j=>e = .returned (.string (Kp.keys.getD (Kp.zo c 5) ⟨#[]⟩))/\Below w.heap.size w j:=by
 have c1:=λW=>ZC c 5 W g (by decide) (by decide);have a:=Kp.xK c 5 (by decide);obtain⟨k,b⟩:=Nm (Kp.zo c 5);rw[b] at a |-;simp only[b] at c1;have h:=hid c1;have d:=Xo w Kp.keys k a;obtain⟨P,f⟩:=Nm (Kp.keys.getD k ⟨#[]⟩);rw[f] at d |-;have i:(w.alloc (.cells #[.string ⟨#[119,104,111]⟩,.string ⟨#[100,111]⟩,.string ⟨#[111,110]⟩,.string ⟨#[116,97,103]⟩,.string ⟨#[97,103,101]⟩] 9)).cell? ⟨w.heap.size,k,none⟩=some (.string P):=d;obtain⟨l,m⟩:=g;clear c1 f b d;go_enter func128,ntmps128
 go_wp2_with (go_at_call 19;refine (h.out _).mono ?_;rintro e n ⟨rfl,rfl⟩)
 go_ret;exact⟨rfl,nB w _⟩
theorem AX(w:World) :
  Calls prog 91 #[] w λe a=>e = .returned (.slice (some ⟨w.heap.size,0,none⟩) 14 14)/\a=w.alloc (.cells (Kp.words.map Value.string).toArray 9):=by
 go_enter func91,ntmps91
 go_wp2
 go_ret;exact⟨rfl,rfl⟩
theorem sG(w:World) :
  Calls prog 129 #[] w λe a=>e = .returned (.slice (some ⟨w.heap.size,0,none⟩) 14 14)/\a=w.alloc (.cells (Kp.patterns.map Value.string).toArray 9):=by
 go_enter func129,ntmps129
 go_wp2
 go_ret;exact⟨rfl,rfl⟩
theorem Rc(s:BA)(st:Int)(k:Nat)(h:k<s.size):Kp.QJ s st (k+1)=Kp.QJ s st k++Kp.esc st s[k]:=by
 rw[Kp.QJ,zL];have a:k<s.data.toList.length:=by rw[Ref.zG];exact h
 rw[zl a]
 rfl
theorem Ww(t:BA)(k:Nat)(h:k<t.size):t.extract k (k+1)=⟨#[t[k]]⟩:=by
 apply jk;apply Xy.1;have a:k<t.data.toList.length:=by rw[Ref.zG];exact h
 simp only[XB,YV,J8];rw[show k+1-k=1 by omega,uS a]
 rfl
theorem Rb(s:BA)(st:Int)(w:World)(J:s.size<=1000)(C:I64 st) :
  Calls prog 183 #[.string s,.int .i64 st] w λe H=>e = .returned (.string (Kp.vI s st))/\H=w:=by
 obtain⟨N,P⟩:=C;obtain⟨R,B⟩:=Nm (Kp.vI s st);rw[B];have A:=hid B;clear B;obtain⟨i,c⟩:∃b,Kp.bit st 1=b:=⟨_,rfl⟩;obtain⟨j,d⟩:∃b,Kp.bit st 2=b:=⟨_,rfl⟩;obtain⟨l,f⟩:∃b,Kp.bit st 4=b:=⟨_,rfl⟩;have K:(st.tmod 2 != 0)=i:=by rw[<- c,Kp.bit,Int.tdiv_one];by_cases h:st.tmod 2=0<;>simp[h]
 have L:((st.tdiv 2).tmod 2 != 0)=j:=by rw[<- d,Kp.bit];by_cases h:(st.tdiv 2).tmod 2=0<;>simp[h]
 have M:((st.tdiv 4).tmod 2 != 0)=l:=by rw[<- f,Kp.bit];by_cases h:(st.tdiv 4).tmod 2=0<;>simp[h]
 have F:∀b,Kp.esc st b=if b.toNat=47/\i=true then ⟨#[92,47]⟩ else if b.toNat=97/\j=true then ⟨#[92,117,48,48,54,49]⟩ else if b.toNat=42/\l=true then ⟨#[92,117,48,48,50,65]⟩ else ⟨#[b]⟩:=λb=>by rw[<- c,<- d,<- f];rfl
 have y:=hid F;clear F c d f;go_enter func183,ntmps183
 go_wp2
 obtain⟨O,v⟩:∃O:Nat->BA,Kp.QJ s st=O:=⟨_,rfl⟩;have q:∀k,(O k).size<=6*k+1:=λk=>by rw[<- v];exact Kp.eB s st k
 have t:=hid v;have m:=hid q;have E:Hid (O 0=⟨#[34]⟩):=by rw[<- v];rfl
 clear v q
 go_loopw [5,6] (λG D wr=>∃k:Nat,k<=s.size/\D = .int .i64 k/\G = .string (O k)/\wr=w) (λ_ D _=>s.size-(intOf D).toNat)
 case atStart=>exact⟨0,zO _,rfl,by rw[E.out],rfl⟩
 case round=>
  obtain⟨k,I,rfl,rfl,r⟩:=hrel;rw[r];clear r;have z:=m.out k;obtain⟨o,p⟩:=Nm (O k);rw[p] at z |-
  by_cases hlt:k<s.size
  ·have a:Hid (O (k+1)=o++Kp.esc st s[k]):=by rw[<- p,<- t.out];exact Rc s st k hlt
   have x:=hid (Ww s k hlt);rw[y.out] at a;clear p t m E A y
   by_cases c1:s[k].toNat=47/\i=true
   ·obtain⟨c1,rfl⟩:=c1;rw[zb ⟨c1,rfl⟩] at a;have g:((s[k].toNat:Int)==47)=true:=by simp;omega
    go_wp2
    go_roundw
    case rel=>exact⟨k+1,by omega,by go_num,by rw[a.out],trivial⟩
    case measure=>simp[intOf];omega
   rw[za c1] at a
   by_cases c2:s[k].toNat=97/\j=true
   ·obtain⟨c2,rfl⟩:=c2;rw[zb ⟨c2,rfl⟩] at a;have g:((s[k].toNat:Int)==47)=false:=by simp;omega
    have n:((s[k].toNat:Int)==97)=true:=by simp;omega
    go_wp2
    go_roundw
    case rel=>exact⟨k+1,by omega,by go_num,by rw[a.out],trivial⟩
    case measure=>simp[intOf];omega
   rw[za c2] at a
   by_cases c3:s[k].toNat=42/\l=true
   ·obtain⟨c3,rfl⟩:=c3;rw[zb ⟨c3,rfl⟩] at a;have g:((s[k].toNat:Int)==47)=false:=by simp;omega
    have n:((s[k].toNat:Int)==97)=false:=by simp;omega
    have u:((s[k].toNat:Int)==42)=true:=by simp;omega
    go_wp2
    go_roundw
    case rel=>exact⟨k+1,by omega,by go_num,by rw[a.out],trivial⟩
    case measure=>simp[intOf];omega
   rw[za c3] at a
   by_cases d1:s[k].toNat=47
   ·have hb:i=false:=by cases i with
     | true=>exact absurd ⟨d1,rfl⟩ c1
     | false=>rfl
    subst hb;have g:((s[k].toNat:Int)==47)=true:=by simp;omega
    have n:((s[k].toNat:Int)==97)=false:=by simp;omega
    have u:((s[k].toNat:Int)==42)=false:=by simp;omega
    go_wp2
    go_roundw
    case rel=>exact⟨k+1,by omega,by go_num,by rw[a.out,x.out],trivial⟩
    case measure=>simp[intOf];omega
   by_cases d2:s[k].toNat=97
   ·have hb:j=false:=by cases j with
     | true=>exact absurd ⟨d2,rfl⟩ c2
     | false=>rfl
    subst hb;have g:((s[k].toNat:Int)==47)=false:=by simp;omega
    have n:((s[k].toNat:Int)==97)=true:=by simp;omega
    have u:((s[k].toNat:Int)==42)=false:=by simp;omega
    go_wp2
    go_roundw
    case rel=>exact⟨k+1,by omega,by go_num,by rw[a.out,x.out],trivial⟩
    case measure=>simp[intOf];omega
   by_cases d3:s[k].toNat=42
   ·have hb:l=false:=by cases l with
     | true=>exact absurd ⟨d3,rfl⟩ c3
     | false=>rfl
    subst hb;have g:((s[k].toNat:Int)==47)=false:=by simp;omega
    have n:((s[k].toNat:Int)==97)=false:=by simp;omega
    have u:((s[k].toNat:Int)==42)=true:=by simp;omega
    go_wp2
    go_roundw
    case rel=>exact⟨k+1,by omega,by go_num,by rw[a.out,x.out],trivial⟩
    case measure=>simp[intOf];omega
   ·have g:((s[k].toNat:Int)==47)=false:=by simp;omega
    have n:((s[k].toNat:Int)==97)=false:=by simp;omega
    have u:((s[k].toNat:Int)==42)=false:=by simp;omega
    go_wp2
    go_roundw
    case rel=>exact⟨k+1,by omega,by go_num,by rw[a.out,x.out],trivial⟩
    case measure=>simp[intOf];omega
  ·have e:R=o++⟨#[34]⟩:=by rw[<- A.out,<- p,<- t.out,Kp.vI,show k=s.size by omega]
   subst e;clear A t p y
   go_wp2
   go_ret;exact⟨rfl,rfl⟩
end Go.Proofs.YtdakgnaojakldaaGreatDoor
