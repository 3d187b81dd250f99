/- P -/
import Derived.Test.YtagnlbgbnfnapaaGreatDoorZ25
open Go.Proofs.Tryz
set_option maxRecDepth 100000
set_option maxHeartbeats 1000000
namespace Go.Proofs.YtagnlbgbnfnapaaGreatDoor
open Go.RowKit
def vU(w:World)(d:Value)(l:List BA):Prop:=∃a c,d = .slice a l.length c/\∀(k:Nat) (x:BA),l[k]?=some x->∃b,a=some ⟨b,0,none⟩/\w.cell? ⟨b,k,none⟩=some (.string x)
theorem sO(l:List BA)(a:Int)(k:Nat)(h:k<l.length):Kp.yg l a (k+1)=(if 0<k then Kp.yg l a k++⟨#[44]⟩++Kp.yJ a else Kp.yg l a k)++Kp.ui l[k] a:=by
 rw[Kp.yg,zQ,zt h]
 rfl
theorem VZ(l:List BA)(lv:Value)(c:Int)(w:World)(h:vU w lv l)(J:I64 c)(hn:l.length<=4)(x:∀b ∈ l,b.size<=8) :
  Calls prog 115 #[lv,.int .i64 c] w λe w'=>e = .returned (.string (Kp.vW l c))/\Below w.heap.size w w':=by
 obtain⟨a,cc,rfl,p⟩:=h;have cp:=λW=>gG c W J;have G:=λW s D=>RA s c W (jy (x s D) (by decide)) J;have a8:=Kp.Yu c;have Y:∀b ∈ l,(Kp.ui b c).size<=50:=λb hb=>by have h1:=Kp.gQ b c;have h2:=x b hb;omega
 have I:=Kp.V3 l c x;have g:=sO l c;have h0:Kp.yg l c 0=⟨#[91]⟩++Kp.yJ c:=rfl;have N:Kp.vW l c=if l.length=1/\Kp.bit c 32=true then Kp.ui (l.getD 0 ⟨#[]⟩) c else Kp.yg l c l.length++⟨#[93]⟩++Kp.yJ c:=rfl
 obtain⟨R,S⟩:=Nm (Kp.vW l c);rw[S] at N |-;obtain⟨P,hP⟩:=Nm (Kp.yJ c);obtain⟨O,hO⟩:∃O:Nat->BA,Kp.yg l c=O:=⟨_,rfl⟩;obtain⟨B,hB⟩:∃b,Kp.bit c 32=b:=⟨_,rfl⟩;have t1:((c.tdiv 32).tmod 2 != 0)=B:=by rw[<- hB,Kp.bit];by_cases h:(c.tdiv 32).tmod 2=0<;>simp[h]
 simp only[hO,hP,hB] at cp g N I h0 a8;obtain⟨n,H⟩:=Nm l.length;rw[H] at hn N |-;obtain⟨x1,x2⟩:=J;have L:=hid p;have r:=hid cp;have j:=hid G;have v:=hid Y;have u:=hid I;have t:=hid g;have H0:=hid h0;have HR:=hid N;have Z:=hid H;clear p cp G Y I g h0 N H S hP hO hB x
 by_cases h1:n=1/\B=true
 ·obtain⟨rfl,rfl⟩:=h1;have hk:0<l.length:=by rw[Z.out];omega
  obtain⟨gb,rfl,q⟩:=L.out 0 _ (zt hk);have C:=HR.out;rw[zb ⟨rfl,rfl⟩,zQ,zt hk] at C;have c1:=hid (j.out w l[0] (xg hk));obtain⟨s,D⟩:=Nm (l[0]);simp only[yO] at C;rw[D] at C c1 q;subst C;clear L r j v u t H0 HR Z D;go_enter func115,ntmps115
  go_wp2_with (go_at_call 156;refine c1.out.mono ?_;rintro e w1 ⟨rfl,rfl⟩)
  go_ret;exact⟨rfl,zi _ _⟩
 ·have C:=HR.out;rw[za h1] at C;have F:=hid C;clear C HR;obtain⟨b1,en⟩:∃b,((n:Int)==1)=b:=⟨_,rfl⟩;have HT:Hid (¬(b1=true/\B=true)):=λ⟨e1,e2⟩=>h1 ⟨by rw[e1] at en;simp at en;omega,e2⟩;clear h1;have L0:=H0.out
  cases b1<;>cases B
  case true.true=>exact absurd ⟨rfl,rfl⟩ HT.out
  all_goals
   clear HT;go_enter func115,ntmps115
   go_wp2_with (go_at_call 64;refine (r.out w).mono ?_;rintro e w1 ⟨rfl,T⟩;have K:=hid T;clear T)
   go_loopw [5,6] (λov iv wr=>∃k:Nat,k<=n/\iv = .int .i64 k/\ov = .string (O k)/\Below w.heap.size w wr) (λ_ iv _=>n-(intOf iv).toNat)
   case atStart=>exact⟨0,zU _,rfl,by rw[L0],K.out⟩
   case round=>
    obtain⟨k,hk,rfl,rfl,A⟩:=hrel;have d:=hid A;have z:=u.out k;clear A K L0 H0 en t1
    by_cases hlt:k<n
    ·have y:k<l.length:=by rw[Z.out];exact hlt
     obtain⟨gb,rfl,q⟩:=L.out k _ (zt y);have q1:=zh d.out q;have f:=t.out k y;have hz:=v.out _ (xg y);have G:=λW=>j.out W _ (xg y);obtain⟨s,D⟩:=Nm (l[k]);rw[D] at q1 f hz;simp only[D] at G;obtain⟨Q,hQ⟩:=Nm (Kp.ui s c);rw[hQ] at f hz;simp only[hQ] at G;obtain⟨o,X⟩:=Nm (O k);rw[X] at f z |-;have CQ:=hid G;clear q G D hQ L j v u t F X
     by_cases hk0:0<k
     ·rw[zb hk0] at f;have m:=hid f;have d0:decide ((0:Int)<(k:Int))=true:=by simp;omega
      clear f
      go_wp2_with (first
       | (go_at_call 64;refine (r.out wr).mono ?_;rintro e w2 ⟨rfl,i⟩;have q2:=zh i q1;have E:=hid (d.out.trans (i.mono d.out.size));clear i)
       | (go_at_call 156;refine (CQ.out _).mono ?_;rintro e w3 ⟨rfl,M⟩;rw[M];clear M))
      go_roundw
      case rel=>exact⟨k+1,by omega,by go_num,by rw[m.out],E.out⟩
      case measure=>simp[intOf];omega
     ·rw[za hk0] at f;have m:=hid f;have U:k=0:=by omega
      subst U;clear f
      go_wp2_with (go_at_call 156;refine (CQ.out _).mono ?_;rintro e w3 ⟨rfl,M⟩;rw[M];clear M)
      go_roundw
      case rel=>exact⟨1,by omega,by go_num,by rw[m.out],d.out⟩
      case measure=>simp[intOf];omega
    ·have V:k=n:=by omega
     have e:R=O k++⟨#[93]⟩++P:=by rw[V];exact F.out
     obtain⟨o,X⟩:=Nm (O k);rw[X] at e z |-;subst e;subst V;clear F X L j v u t Z
     go_wp2_with (go_at_call 64;refine (r.out wr).mono ?_;rintro e w2 ⟨rfl,i⟩;have E:=hid (d.out.trans (i.mono d.out.size));clear i)
     go_ret;exact⟨rfl,E.out⟩
def IntsIn(w:World)(d:Value)(l:List Int):Prop:=∃a c,d = .slice a l.length c/\∀(k:Nat) (x:Int),l[k]?=some x->I64 x/\∃b o,a=some ⟨b,o,none⟩/\w.cell? ⟨b,o+k,none⟩=some (.int .i64 x)
theorem IntsIn.below{w d:World}{b:Value}{l:List Int}(h:IntsIn w b l)(hb:Below w.heap.size w d):IntsIn d b l:=by
 obtain⟨a,c,rfl,h⟩:=h;exact⟨a,c,rfl,λk x i=>by obtain⟨hi,f,o,e,g⟩:=h k x i;exact⟨hi,f,o,e,zh hb g⟩⟩
theorem vU.own{w:World}{base:Nat}{d:Value}{l:List BA}(h:zZ w base d l):vU w d l:=by
 obtain⟨a,c,rfl⟩:=jV h;refine⟨a,c,rfl,λk x b=>?_⟩;have i:k<l.length:=(xw.1 b).1
 rcases h.2 with ⟨e,h0⟩|⟨gb,cap,cur,e,_⟩
 ·omega
 ·have f:=World.ownsRow.cellAt (g:=gb) (cap:=cap) (by rw[<- e];exact h) k (by omega);injection e with e1 e2 e3
  exact⟨gb,e1,by rw[f];simp[List.getElem?_map,b]⟩
theorem WT:(prog.info? 9).map (λi=>(i.zero,i.size,i.bytes))=some (some (.string ⟨#[]⟩),1,16):=by kernel_rfl
theorem zab{w:World}{B:Nat}{a:Value}{l:List BA}{s:BA}(h:w.ownsRow B 9 1 a (l.length+1) (l.map Value.string++[.string s])):zZ w B a (l++[s]):=by
 unfold zZ;rw[jN,qL];exact h
theorem sP(w:World)(cs:Array Value)(t:TypeId):∀(j:Nat) (u:Value),cs.toList[j]?=some u->(w.alloc (.cells cs t)).cell? ((⟨w.heap.size,0,none⟩:Addr).add j)=some u:=by
 intro j u a;have h:=(zf (zL w (.cells cs t)) j).1;rw[addr_add];simp only[qM];rw[h,<- a,Array.getElem?_toList]
theorem TW(raw:List Int)(k:Nat)(h:k<raw.length)(b:k<4):(Kp.jq raw).take (k+1)=(Kp.jq raw).take k++[Kp.patterns.getD (Kp.zy raw[k] 14) ⟨#[]⟩]:=by
 have a:k<(Kp.jq raw).length:=by unfold Kp.jq;rw[qg,xE];omega
 rw[VB,zt a]
 have:(Kp.jq raw)[k]=Kp.patterns.getD (Kp.zy raw[k] 14) ⟨#[]⟩:=by simp[Kp.jq]
 rw[this]
 rfl
theorem Ff(raw:List Int)(lv:Value)(w:World)(h:IntsIn w lv raw)(hm:raw.length<=maxLen) :
  Calls prog 116 #[lv] w λe w'=>∃v,e = .returned v/\vU w' v (Kp.qU raw)/\Below w.heap.size w w':=by
 obtain⟨i0,hi,U,V,X⟩:=jl WT;obtain⟨a,cc,rfl,t⟩:=h;obtain⟨l,A⟩:∃W,w.alloc (.cells (Kp.patterns.map Value.string).toArray 9)=W:=⟨_,rfl⟩;have D:∀k,k<14->l.cell? ⟨w.heap.size,k,none⟩=some (.string (Kp.patterns.getD k ⟨#[]⟩)):=λk J=>by rw[<- A];exact XT w Kp.patterns k J
 have P:Below w.heap.size w l:=by rw[<- A];exact nB w _
 have c1:=Aj w;rw[A] at c1;obtain⟨n,B⟩:=Nm raw.length;rw[B] at hm |-;unfold maxLen at hm;have b:Kp.qU raw=if (Kp.jq raw).length=0 then [⟨#[42]⟩] else Kp.jq raw:=rfl
 have hlen:(Kp.jq raw).length=min n 4:=by unfold Kp.jq;rw[qg,xE,B,Nat.min_comm]
 have g:=TW raw;obtain⟨F,hF⟩:=Nm (Kp.jq raw);rw[hF] at hlen b g;have Z:=hid t;have HP:=hid D;have p:=hid P;have M:=hid c1;have HN:=hid B;have N:=hid b;have HL:=hid hlen;have HT:=hid g;clear t D P c1 B b hlen g hF A;go_enter func116,ntmps116
 go_wp2_with (go_at_call 114;refine M.out.mono ?_;rintro e w1 ⟨rfl,e1⟩;rw[e1];clear e1)
 go_loopw [4,5] (λov iv wr=>∃k:Nat,k<=min n 4/\iv = .int .i64 k/\zZ wr l.heap.size ov (F.take k)/\Below l.heap.size l wr) (λ_ iv _=>min n 4-(intOf iv).toNat)
 case atStart=>exact⟨0,zU _,rfl,⟨rfl,.inl ⟨rfl,rfl⟩⟩,zi _ _⟩
 case round=>
  obtain⟨k,J,rfl,ho,hb⟩:=hrel;have z:=hid ho;have E:=hid hb;have f:(F.take k).length=k:=by rw[xE,HL.out];omega
  clear ho hb M
  by_cases hlt:k<n/\k<4
  ·obtain⟨a9,b0⟩:=hlt;have Q:k<raw.length:=by rw[HN.out];exact a9
   obtain⟨y,gb,o,rfl,q⟩:=Z.out k _ (zt Q);have q1:=zh E.out (zh p.out q);have m:=HT.out k Q b0;obtain⟨x,hx⟩:=Nm (raw[k]);rw[hx] at q1 m y;have S:=Kp.xI x 14 (by decide);have cp:=λW=>uh x 14 W y (by decide) (by decide);have r1:=zh E.out (HP.out _ S);obtain⟨j,hj⟩:=Nm (Kp.zy x 14);rw[hj] at m S r1;simp only[hj] at cp;obtain⟨s,hs⟩:=Nm (Kp.patterns.getD j ⟨#[]⟩);rw[hs] at m r1;obtain⟨L,hL⟩:=Nm (F.take k);rw[hL] at z m f;have a5:=hid m;have CP:=hid cp;have I:=E.out.size;clear q m cp hs hL hj hx Z HP HN N HT y
   go_wp2_with (first
    | (go_at_call 11;refine (CP.out _).mono ?_;rintro e w2 ⟨rfl,e2⟩;rw[e2];clear e2)
    | (at_builtin;refine YF _ rfl _ _ 48 rfl l.heap.size 9 i0 (.string ⟨#[]⟩) 1 16 underlying48 hi U V X rfl (by decide) _ L.length (L.map Value.string) rfl (World.ownsRow.alloc z.out _) ⟨wr.heap.size,0,none⟩ 1 1 [.string s] rfl rfl ?_ ?_ ?_ ?_ ?_ ?_))
   ·exact sP _ _ _
   ·intro u T;simp at T;rcases T with rfl;rfl
   ·unfold maxLen;omega
   ·omega
   ·simp;omega
   ·intro v' Y d c _;have H:Hid (zZ Y l.heap.size v' (F.take (k+1))):=by rw[a5.out];exact zab (by rw[f];exact d)
    have G:Hid (Below l.heap.size l Y):=(E.out.alloc I _).grown c (by simp;omega) (λk J=>(World.ownsRow.lt z.out k J).1);clear d c
    go_wp2
    go_roundw
    case rel=>exact⟨k+1,by omega,by go_num,H.out,G.out⟩
    case measure=>simp[intOf];omega
  ·have R:k=min n 4:=by omega
   have r:F.take k=F:=ZU (by rw[HL.out];omega);rw[r] at z f;have I:=E.out.size;have K:Hid (Below w.heap.size w wr):=p.out.trans (E.out.mono p.out.size);obtain⟨fa,fc,rfl⟩:=jV z.out;rw[f] at z |-;have C:(decide ((k:Int)<(n:Int))&&decide ((k:Int)<4))=false:=by simp;omega
   by_cases h0:k=0
   ·have a7:F=[]:=uW.1 (by rw[f];exact h0);have b:=N.out;rw[zb (by rw[f];exact h0)] at b;have b1:n=0:=by omega
    subst h0;subst b1;have i:=hid b;clear b N Z HP HN HT R r C HL;rw[a7] at z
    go_wp2_with (at_builtin;refine YF _ rfl _ _ 48 rfl l.heap.size 9 i0 (.string ⟨#[]⟩) 1 16 underlying48 hi U V X rfl (by decide) _ 0 [] rfl (World.ownsRow.alloc z.out _) ⟨wr.heap.size,0,none⟩ 1 1 [.string ⟨#[42]⟩] rfl rfl ?_ ?_ ?_ ?_ ?_ ?_)
    ·exact sP _ _ _
    ·intro u T;simp at T;rcases T with rfl;rfl
    ·unfold maxLen;omega
    ·omega
    ·simp;omega
    ·intro v' Y d c _;have H:Hid (zZ Y l.heap.size v' [⟨#[42]⟩]):=hid d;have G:Hid (Below l.heap.size l Y):=(E.out.alloc I _).grown c (by simp;omega) (λk J=>(World.ownsRow.lt z.out k J).1);clear d c
     go_wp2
     go_ret;exact⟨_,rfl,by rw[i.out];exact vU.own H.out,p.out.trans (G.out.mono p.out.size)⟩
   ·have b:=N.out;rw[za (by rw[f];exact h0)] at b;have i:=hid b;have d0:((k:Int)==0)=false:=by simp;omega
    have O:Hid (vU wr (.slice fa k fc) F):=vU.own z.out;clear b N Z HP HN HT R r HL
    by_cases h4:k<4
    ·have e1:decide ((k:Int)<(n:Int))=false:=by simp at C |-;omega
     go_wp2
     go_ret;exact⟨_,rfl,by rw[i.out];exact O.out,K.out⟩
    ·have e1:decide ((k:Int)<4)=false:=by simp;omega
     go_wp2
     all_goals
      go_ret;exact⟨_,rfl,by rw[i.out];exact O.out,K.out⟩
theorem bz(raw:List Int)(n:Value)(nt:Bool)(b:Int)(w:World)(h:IntsIn w n raw)(y:raw.length<=maxLen)(i:I64 b) :
  Calls prog 66 #[n,.bool nt,.int .i64 b] w λe z=>e = .returned (.string (Kp.ji raw nt b))/\Below w.heap.size w z:=by
 have c1:=Ff raw n w h y;have c2:=λW v (j:vU W v (Kp.qU raw))=>VZ (Kp.qU raw) v b W j i (Kp.XL raw).2 (Kp.bH raw);have c3:=λW=>gG b W i;have A:=Kp.Y9 (Kp.qU raw) b (Kp.bH raw);have G:=(Kp.XL raw).2;have B:=Kp.Yu b;have t:Kp.ji raw nt b=if nt then ⟨#[123]⟩++Kp.yJ b++⟨#[34,110,111,116,34,58]⟩++Kp.vW (Kp.qU raw) b++⟨#[125]⟩ else Kp.vW (Kp.qU raw) b:=rfl
 rw[t];obtain⟨P,s⟩:=Nm (Kp.yJ b);obtain⟨L,r⟩:=Nm (Kp.vW (Kp.qU raw) b);obtain⟨a,C,rfl,_⟩:=h;simp only[s,r] at c2 c3 A B |-;obtain⟨E,F⟩:=i;have p:=hid c1;have q:=hid c2;have x:=hid c3;clear c1 c2 c3 s r t
 cases nt with
 | true=>
  go_enter func66,ntmps66
  go_wp2_with (first
   | (go_at_call 116;refine p.out.mono ?_;rintro e o ⟨v,rfl,j,d⟩;have m:=hid j;have c:=hid d;clear j d)
   | (go_at_call 115;refine (q.out o v m.out).mono ?_;rintro e u ⟨rfl,f⟩;have g:=hid (c.out.trans (f.mono c.out.size));clear f)
   | (go_at_call 64;refine (x.out u).mono ?_;rintro e D ⟨rfl,k⟩;have l:=hid (g.out.trans (k.mono g.out.size));clear k))
  go_ret;exact⟨rfl,l.out⟩
 | false=>
  go_enter func66,ntmps66
  go_wp2_with (first
   | (go_at_call 116;refine p.out.mono ?_;rintro e o ⟨v,rfl,j,d⟩;have m:=hid j;have c:=hid d;clear j d)
   | (go_at_call 115;refine (q.out o v m.out).mono ?_;rintro e u ⟨rfl,f⟩;have g:=hid (c.out.trans (f.mono c.out.size));clear f))
  go_ret;exact⟨rfl,g.out⟩
end Go.Proofs.YtagnlbgbnfnapaaGreatDoor
