/- P -/
import Derived.Test.YtdakgnaojakldabGreatDoorT25
open Go.Proofs.Tryz
set_option maxRecDepth 100000
set_option maxHeartbeats 1000000
namespace Go.Proofs.YtdakgnaojakldabGreatDoor
open Go.RowKit
def yl(w:World)(d:Value)(l:List BA):Prop:=∃a c,d = .slice a l.length c/\∀(k:Nat) (x:BA),l[k]?=some x->∃b,a=some ⟨b,0,none⟩/\w.cell? ⟨b,k,none⟩=some (.string x)
theorem yl.below{w d:World}{b:Value}{l:List BA}(h:yl w b l)(g:Below w.heap.size w d):yl d b l:=by
 obtain⟨a,c,rfl,h⟩:=h;exact⟨a,c,rfl,λk x j=>by obtain⟨f,e,i⟩:=h k x j;exact⟨f,e,zb g i⟩⟩
theorem fI(l:List BA)(a:Int)(k:Nat)(h:k<l.length):Kp.qY l a (k+1)=(if 0<k then Kp.qY l a k++⟨#[44]⟩++Kp.xz a else Kp.qY l a k)++Kp.jo l[k] a:=by
 rw[Kp.qY,List.getD_eq_getElem?_getD,List.getElem?_eq_getElem h]
 rfl
theorem YD(l:List BA)(lv:Value)(c:Int)(w:World)(h:yl w lv l)(J:I64 c)(hn:l.length<=4)(x:∀b ∈ l,b.size<=8) :
  Calls prog 75 #[lv,.int .i64 c] w λe w'=>e = .returned (.string (Kp.xK l c))/\Below w.heap.size w w':=by
 obtain⟨a,cc,rfl,p⟩:=h;have cp:=λW=>UX c W J;have G:=λW s D=>LJ s c W (Nat.le_trans (x s D) (by decide)) J;have a8:=Kp.Qv c;have Y:∀b ∈ l,(Kp.jo b c).size<=50:=λb hb=>by have h1:=Kp.U6 b c;have h2:=x b hb;omega
 have I:=Kp.XF l c x;have g:=fI l c;have h0:Kp.qY l c 0=⟨#[91]⟩++Kp.xz c:=rfl;have N:Kp.xK l c=if l.length=1/\Kp.bit c 32=true then Kp.jo (l.getD 0 ⟨#[]⟩) c else Kp.qY l c l.length++⟨#[93]⟩++Kp.xz c:=rfl
 obtain⟨R,S⟩:=Nm (Kp.xK l c);rw[S] at N |-;obtain⟨P,hP⟩:=Nm (Kp.xz c);obtain⟨O,hO⟩:∃O:Nat->BA,Kp.qY l c=O:=⟨_,rfl⟩;obtain⟨B,hB⟩:∃b,Kp.bit c 32=b:=⟨_,rfl⟩;have t1:((c.tdiv 32).tmod 2 != 0)=B:=by rw[<- hB,Kp.bit];by_cases h:(c.tdiv 32).tmod 2=0<;>simp[h]
 simp only[hO,hP,hB] at cp g N I h0 a8;obtain⟨n,H⟩:=Nm l.length;rw[H] at hn N |-;obtain⟨x1,x2⟩:=J;have L:=hid p;have r:=hid cp;have j:=hid G;have v:=hid Y;have u:=hid I;have t:=hid g;have H0:=hid h0;have HR:=hid N;have Z:=hid H;clear p cp G Y I g h0 N H S hP hO hB x
 by_cases h1:n=1/\B=true
 ·obtain⟨rfl,rfl⟩:=h1;have hk:0<l.length:=by rw[Z.out];omega
  obtain⟨gb,rfl,q⟩:=L.out 0 _ (List.getElem?_eq_getElem hk);have C:=HR.out;rw[if_pos ⟨rfl,rfl⟩,List.getD_eq_getElem?_getD,List.getElem?_eq_getElem hk] at C;have c1:=hid (j.out w l[0] (List.getElem_mem hk));obtain⟨s,D⟩:=Nm (l[0]);simp only[Option.getD_some] at C;rw[D] at C c1 q;subst C;clear L r j v u t H0 HR Z D;go_enter func75,ntmps75
  go_wp2_with (go_at_call 98;refine c1.out.mono ?_;rintro e w1 ⟨rfl,rfl⟩)
  go_ret;exact⟨rfl,Below.refl _ _⟩
 ·have C:=HR.out;rw[if_neg h1] at C;have F:=hid C;clear C HR;obtain⟨b1,en⟩:∃b,((n:Int)==1)=b:=⟨_,rfl⟩;have HT:Hid (¬(b1=true/\B=true)):=λ⟨e1,e2⟩=>h1 ⟨by rw[e1] at en;simp at en;omega,e2⟩;clear h1;have L0:=H0.out
  cases b1<;>cases B
  case true.true=>exact absurd ⟨rfl,rfl⟩ HT.out
  all_goals
   clear HT;go_enter func75,ntmps75
   go_wp2_with (go_at_call 42;refine (r.out w).mono ?_;rintro e w1 ⟨rfl,T⟩;have K:=hid T;clear T)
   go_loopw [5,6] (λov iv wr=>∃k:Nat,k<=n/\iv = .int .i64 k/\ov = .string (O k)/\Below w.heap.size w wr) (λ_ iv _=>n-(intOf iv).toNat)
   case atStart=>exact⟨0,Nat.zero_le _,rfl,by rw[L0],K.out⟩
   case round=>
    obtain⟨k,hk,rfl,rfl,A⟩:=hrel;have d:=hid A;have z:=u.out k;clear A K L0 H0 en t1
    by_cases hlt:k<n
    ·have y:k<l.length:=by rw[Z.out];exact hlt
     obtain⟨gb,rfl,q⟩:=L.out k _ (List.getElem?_eq_getElem y);have q1:=zb d.out q;have f:=t.out k y;have hz:=v.out _ (List.getElem_mem y);have G:=λW=>j.out W _ (List.getElem_mem y);obtain⟨s,D⟩:=Nm (l[k]);rw[D] at q1 f hz;simp only[D] at G;obtain⟨Q,hQ⟩:=Nm (Kp.jo s c);rw[hQ] at f hz;simp only[hQ] at G;obtain⟨o,X⟩:=Nm (O k);rw[X] at f z |-;have CQ:=hid G;clear q G D hQ L j v u t F X
     by_cases hk0:0<k
     ·rw[if_pos hk0] at f;have m:=hid f;have d0:decide ((0:Int)<(k:Int))=true:=by simp;omega
      clear f
      go_wp2_with (first
       | (go_at_call 42;refine (r.out wr).mono ?_;rintro e w2 ⟨rfl,i⟩;have q2:=zb i q1;have E:=hid (d.out.trans (i.mono d.out.size));clear i)
       | (go_at_call 98;refine (CQ.out _).mono ?_;rintro e w3 ⟨rfl,M⟩;rw[M];clear M))
      go_roundw
      case rel=>exact⟨k+1,by omega,by go_num,by rw[m.out],E.out⟩
      case measure=>simp[intOf];omega
     ·rw[if_neg hk0] at f;have m:=hid f;have U:k=0:=by omega
      subst U;clear f
      go_wp2_with (go_at_call 98;refine (CQ.out _).mono ?_;rintro e w3 ⟨rfl,M⟩;rw[M];clear M)
      go_roundw
      case rel=>exact⟨1,by omega,by go_num,by rw[m.out],d.out⟩
      case measure=>simp[intOf];omega
    ·have V:k=n:=by omega
     have e:R=O k++⟨#[93]⟩++P:=by rw[V];exact F.out
     obtain⟨o,X⟩:=Nm (O k);rw[X] at e z |-;subst e;subst V;clear F X L j v u t Z
     go_wp2_with (go_at_call 42;refine (r.out wr).mono ?_;rintro e w2 ⟨rfl,i⟩;have E:=hid (d.out.trans (i.mono d.out.size));clear i)
     go_ret;exact⟨rfl,E.out⟩
def IntsIn(w:World)(d:Value)(l:List Int):Prop:=∃a c,d = .slice a l.length c/\∀(k:Nat) (x:Int),l[k]?=some x->I64 x/\∃b o,a=some ⟨b,o,none⟩/\w.cell? ⟨b,o+k,none⟩=some (.int .i64 x)
theorem IntsIn.below{w d:World}{b:Value}{l:List Int}(h:IntsIn w b l)(g:Below w.heap.size w d):IntsIn d b l:=by
 obtain⟨a,c,rfl,h⟩:=h;exact⟨a,c,rfl,λk x m=>by obtain⟨j,f,o,e,i⟩:=h k x m;exact⟨j,f,o,e,zb g i⟩⟩
theorem yl.own{w:World}{base:Nat}{d:Value}{l:List BA}(h:zO w base d l):yl w d l:=by
 obtain⟨a,c,rfl⟩:=yJ h;refine⟨a,c,rfl,λk x b=>?_⟩;have i:k<l.length:=(List.getElem?_eq_some_iff.1 b).1
 rcases h.2 with ⟨e,h0⟩|⟨gb,cap,cur,e,_⟩
 ·omega
 ·have f:=World.ownsRow.cellAt (g:=gb) (cap:=cap) (by rw[<- e];exact h) k (by omega);injection e with e1 e2 e3
  exact⟨gb,e1,by rw[f];simp[List.getElem?_map,b]⟩
theorem Pb:(prog.info? 9).map (λi=>(i.zero,i.size,i.bytes))=some (some (.string ⟨#[]⟩),1,16):=by kernel_rfl
theorem Pn{w:World}{B:Nat}{a:Value}{l:List BA}{s:BA}(h:w.ownsRow B 9 1 a (l.length+1) (l.map Value.string++[.string s])):zO w B a (l++[s]):=by
 unfold zO;rw[List.map_append,List.length_append];exact h
theorem fJ(w:World)(cs:Array Value)(t:TypeId):∀(j:Nat) (u:Value),cs.toList[j]?=some u->(w.alloc (.cells cs t)).cell? ((⟨w.heap.size,0,none⟩:Addr).add j)=some u:=by
 intro j u a;have h:=(za (heap_alloc_new w (.cells cs t)) j).1;rw[addr_add];simp only[Nat.zero_add];rw[h,<- a,Array.getElem?_toList]
theorem NY(raw:List Int)(k:Nat)(h:k<raw.length)(b:k<4):(Kp.yg raw).take (k+1)=(Kp.yg raw).take k++[Kp.patterns.getD (Kp.zk raw[k] 14) ⟨#[]⟩]:=by
 have a:k<(Kp.yg raw).length:=by unfold Kp.yg;rw[List.length_map,List.length_take];omega
 rw[List.take_add_one,List.getElem?_eq_getElem a]
 have:(Kp.yg raw)[k]=Kp.patterns.getD (Kp.zk raw[k] 14) ⟨#[]⟩:=by simp[Kp.yg]
 rw[this]
 rfl
theorem sZ(raw:List Int)(lv:Value)(w:World)(h:IntsIn w lv raw)(hm:raw.length<=maxLen) :
  Calls prog 76 #[lv] w λe w'=>∃v,e = .returned v/\yl w' v (Kp.qg raw)/\Below w.heap.size w w':=by
 obtain⟨i0,hi,U,V,X⟩:=info_parts Pb;obtain⟨a,cc,rfl,t⟩:=h;obtain⟨l,A⟩:∃W,w.alloc (.cells (Kp.patterns.map Value.string).toArray 9)=W:=⟨_,rfl⟩;have D:∀k,k<14->l.cell? ⟨w.heap.size,k,none⟩=some (.string (Kp.patterns.getD k ⟨#[]⟩)):=λk J=>by rw[<- A];exact Z4 w Kp.patterns k J
 have P:Below w.heap.size w l:=by rw[<- A];exact nB w _
 have c1:=iI w;rw[A] at c1;obtain⟨n,B⟩:=Nm raw.length;rw[B] at hm |-;unfold maxLen at hm;have b:Kp.qg raw=if (Kp.yg raw).length=0 then [⟨#[42]⟩] else Kp.yg raw:=rfl
 have hlen:(Kp.yg raw).length=min n 4:=by unfold Kp.yg;rw[List.length_map,List.length_take,B,Nat.min_comm]
 have g:=NY raw;obtain⟨F,hF⟩:=Nm (Kp.yg raw);rw[hF] at hlen b g;have Z:=hid t;have HP:=hid D;have p:=hid P;have M:=hid c1;have HN:=hid B;have N:=hid b;have HL:=hid hlen;have HT:=hid g;clear t D P c1 B b hlen g hF A;go_enter func76,ntmps76
 go_wp2_with (go_at_call 74;refine M.out.mono ?_;rintro e w1 ⟨rfl,e1⟩;rw[e1];clear e1)
 go_loopw [4,5] (λov iv wr=>∃k:Nat,k<=min n 4/\iv = .int .i64 k/\zO wr l.heap.size ov (F.take k)/\Below l.heap.size l wr) (λ_ iv _=>min n 4-(intOf iv).toNat)
 case atStart=>exact⟨0,Nat.zero_le _,rfl,⟨rfl,.inl ⟨rfl,rfl⟩⟩,Below.refl _ _⟩
 case round=>
  obtain⟨k,J,rfl,ho,hb⟩:=hrel;have z:=hid ho;have E:=hid hb;have f:(F.take k).length=k:=by rw[List.length_take,HL.out];omega
  clear ho hb M
  by_cases hlt:k<n/\k<4
  ·obtain⟨a9,b0⟩:=hlt;have Q:k<raw.length:=by rw[HN.out];exact a9
   obtain⟨y,gb,o,rfl,q⟩:=Z.out k _ (List.getElem?_eq_getElem Q);have q1:=zb E.out (zb p.out q);have m:=HT.out k Q b0;obtain⟨x,hx⟩:=Nm (raw[k]);rw[hx] at q1 m y;have S:=Kp.qO x 14 (by decide);have cp:=λW=>vL x 14 W y (by decide) (by decide);have r1:=zb E.out (HP.out _ S);obtain⟨j,hj⟩:=Nm (Kp.zk x 14);rw[hj] at m S r1;simp only[hj] at cp;obtain⟨s,hs⟩:=Nm (Kp.patterns.getD j ⟨#[]⟩);rw[hs] at m r1;obtain⟨L,hL⟩:=Nm (F.take k);rw[hL] at z m f;have a5:=hid m;have CP:=hid cp;have I:=E.out.size;clear q m cp hs hL hj hx Z HP HN N HT y
   go_wp2_with (first
    | (go_at_call 5;refine (CP.out _).mono ?_;rintro e w2 ⟨rfl,e2⟩;rw[e2];clear e2)
    | (at_builtin;refine wpList_append_own _ rfl _ _ 47 rfl l.heap.size 9 i0 (.string ⟨#[]⟩) 1 16 underlying47 hi U V X rfl (by decide) _ L.length (L.map Value.string) rfl (World.ownsRow.alloc z.out _) ⟨wr.heap.size,0,none⟩ 1 1 [.string s] rfl rfl ?_ ?_ ?_ ?_ ?_ ?_))
   ·exact fJ _ _ _
   ·intro u T;simp at T;rcases T with rfl;rfl
   ·unfold maxLen;omega
   ·omega
   ·simp;omega
   ·intro v' Y d c _;have H:Hid (zO Y l.heap.size v' (F.take (k+1))):=by rw[a5.out];exact Pn (by rw[f];exact d)
    have G:Hid (Below l.heap.size l Y):=(E.out.alloc I _).grown c (by simp;omega) (λk J=>(World.ownsRow.lt z.out k J).1);clear d c
    go_wp2
    go_roundw
    case rel=>exact⟨k+1,by omega,by go_num,H.out,G.out⟩
    case measure=>simp[intOf];omega
  ·have R:k=min n 4:=by omega
   have r:F.take k=F:=List.take_of_length_le (by rw[HL.out];omega);rw[r] at z f;have I:=E.out.size;have K:Hid (Below w.heap.size w wr):=p.out.trans (E.out.mono p.out.size);obtain⟨fa,fc,rfl⟩:=yJ z.out;rw[f] at z |-;have C:(decide ((k:Int)<(n:Int))&&decide ((k:Int)<4))=false:=by simp;omega
   by_cases h0:k=0
   ·have a7:F=[]:=List.length_eq_zero_iff.1 (by rw[f];exact h0);have b:=N.out;rw[if_pos (by rw[f];exact h0)] at b;have b1:n=0:=by omega
    subst h0;subst b1;have i:=hid b;clear b N Z HP HN HT R r C HL;rw[a7] at z
    go_wp2_with (at_builtin;refine wpList_append_own _ rfl _ _ 47 rfl l.heap.size 9 i0 (.string ⟨#[]⟩) 1 16 underlying47 hi U V X rfl (by decide) _ 0 [] rfl (World.ownsRow.alloc z.out _) ⟨wr.heap.size,0,none⟩ 1 1 [.string ⟨#[42]⟩] rfl rfl ?_ ?_ ?_ ?_ ?_ ?_)
    ·exact fJ _ _ _
    ·intro u T;simp at T;rcases T with rfl;rfl
    ·unfold maxLen;omega
    ·omega
    ·simp;omega
    ·intro v' Y d c _;have H:Hid (zO Y l.heap.size v' [⟨#[42]⟩]):=hid d;have G:Hid (Below l.heap.size l Y):=(E.out.alloc I _).grown c (by simp;omega) (λk J=>(World.ownsRow.lt z.out k J).1);clear d c
     go_wp2
     go_ret;exact⟨_,rfl,by rw[i.out];exact yl.own H.out,p.out.trans (G.out.mono p.out.size)⟩
   ·have b:=N.out;rw[if_neg (by rw[f];exact h0)] at b;have i:=hid b;have d0:((k:Int)==0)=false:=by simp;omega
    have O:Hid (yl wr (.slice fa k fc) F):=yl.own z.out;clear b N Z HP HN HT R r HL
    by_cases h4:k<4
    ·have e1:decide ((k:Int)<(n:Int))=false:=by simp at C |-;omega
     go_wp2
     go_ret;exact⟨_,rfl,by rw[i.out];exact O.out,K.out⟩
    ·have e1:decide ((k:Int)<4)=false:=by simp;omega
     go_wp2
     all_goals
      go_ret;exact⟨_,rfl,by rw[i.out];exact O.out,K.out⟩
theorem VT(raw:List Int)(n:Value)(nt:Bool)(b:Int)(w:World)(h:IntsIn w n raw)(y:raw.length<=maxLen)(i:I64 b) :
  Calls prog 44 #[n,.bool nt,.int .i64 b] w λe z=>e = .returned (.string (Kp.xZ raw nt b))/\Below w.heap.size w z:=by
 have c1:=sZ raw n w h y;have c2:=λW v (j:yl W v (Kp.qg raw))=>YD (Kp.qg raw) v b W j i (Kp.ZR raw).2 (Kp.VY raw);have c3:=λW=>UX b W i;have A:=Kp.Qr (Kp.qg raw) b (Kp.VY raw);have G:=(Kp.ZR raw).2;have B:=Kp.Qv b;have t:Kp.xZ raw nt b=if nt then ⟨#[123]⟩++Kp.xz b++⟨#[34,110,111,116,34,58]⟩++Kp.xK (Kp.qg raw) b++⟨#[125]⟩ else Kp.xK (Kp.qg raw) b:=rfl
 rw[t];obtain⟨P,s⟩:=Nm (Kp.xz b);obtain⟨L,r⟩:=Nm (Kp.xK (Kp.qg raw) b);obtain⟨a,C,rfl,_⟩:=h;simp only[s,r] at c2 c3 A B |-;obtain⟨E,F⟩:=i;have p:=hid c1;have q:=hid c2;have x:=hid c3;clear c1 c2 c3 s r t
 cases nt with
 | true=>
  go_enter func44,ntmps44
  go_wp2_with (first
   | (go_at_call 76;refine p.out.mono ?_;rintro e o ⟨v,rfl,j,d⟩;have m:=hid j;have c:=hid d;clear j d)
   | (go_at_call 75;refine (q.out o v m.out).mono ?_;rintro e u ⟨rfl,f⟩;have g:=hid (c.out.trans (f.mono c.out.size));clear f)
   | (go_at_call 42;refine (x.out u).mono ?_;rintro e D ⟨rfl,k⟩;have l:=hid (g.out.trans (k.mono g.out.size));clear k))
  go_ret;exact⟨rfl,l.out⟩
 | false=>
  go_enter func44,ntmps44
  go_wp2_with (first
   | (go_at_call 76;refine p.out.mono ?_;rintro e o ⟨v,rfl,j,d⟩;have m:=hid j;have c:=hid d;clear j d)
   | (go_at_call 75;refine (q.out o v m.out).mono ?_;rintro e u ⟨rfl,f⟩;have g:=hid (c.out.trans (f.mono c.out.size));clear f))
  go_ret;exact⟨rfl,g.out⟩
end Go.Proofs.YtdakgnaojakldabGreatDoor
