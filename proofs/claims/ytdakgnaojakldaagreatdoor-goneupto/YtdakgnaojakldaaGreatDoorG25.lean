/- P -/
import Derived.Test.YtdakgnaojakldaaGreatDoorG24
open Go.Proofs.Tryz
set_option maxRecDepth 100000
set_option maxHeartbeats 1000000
namespace Go.Proofs.YtdakgnaojakldaaGreatDoor
open Go.RowKit
def yI(w:World)(lv:Value)(l:List BA):Prop:=∃a c,lv = .slice a l.length c/\∀(k:Nat) (x:BA),l[k]?=some x->∃b,a=some ⟨b,0,none⟩/\w.cell? ⟨b,k,none⟩=some (.string x)
theorem yI.below{w b:World}{lv:Value}{l:List BA}(h:yI w lv l)(hb:Below w.heap.size w b):yI b lv l:=by
 obtain⟨a,c,rfl,h⟩:=h;exact⟨a,c,rfl,λk x g=>by obtain⟨d,e,f⟩:=h k x g;exact⟨d,e,zb hb f⟩⟩
theorem lF(l:List BA)(st:Int)(k:Nat)(h:k<l.length):Kp.qV l st (k+1)=(if 0<k then Kp.qV l st k++⟨#[44]⟩++Kp.xN st else Kp.qV l st k)++Kp.jF l[k] st:=by
 rw[Kp.qV,List.getD_eq_getElem?_getD,List.getElem?_eq_getElem h]
 rfl
theorem Ji(l:List BA)(lv:Value)(st:Int)(w:World)(h:yI w lv l)(I:I64 st)(hn:l.length<=4)(v:∀b ∈ l,b.size<=8) :
  Calls prog 130 #[lv,.int .i64 st] w λe w'=>e = .returned (.string (Kp.qO l st))/\Below w.heap.size w w':=by
 obtain⟨a,cc,rfl,m⟩:=h;have cp:=λW=>K6 st W I;have F:=λW s C=>Oh s st W (Nat.le_trans (v s C) (by decide)) I;have a7:=Kp.QQ st;have X:∀b ∈ l,(Kp.jF b st).size<=50:=λb hb=>by have h1:=Kp.ax b st;have h2:=v b hb;omega
 have H:=Kp.Xu l st v;have f:=lF l st;have h0:Kp.qV l st 0=⟨#[91]⟩++Kp.xN st:=rfl;have M:Kp.qO l st=if l.length=1/\Kp.bit st 32=true then Kp.jF (l.getD 0 ⟨#[]⟩) st else Kp.qV l st l.length++⟨#[93]⟩++Kp.xN st:=rfl
 obtain⟨R,N⟩:=Nm (Kp.qO l st);rw[N] at M |-;obtain⟨P,hP⟩:=Nm (Kp.xN st);obtain⟨O,hO⟩:∃O:Nat->BA,Kp.qV l st=O:=⟨_,rfl⟩;obtain⟨B,hB⟩:∃b,Kp.bit st 32=b:=⟨_,rfl⟩;have t1:((st.tdiv 32).tmod 2 != 0)=B:=by rw[<- hB,Kp.bit];by_cases h:(st.tdiv 32).tmod 2=0<;>simp[h]
 simp only[hO,hP,hB] at cp f M H h0 a7;obtain⟨n,G⟩:=Nm l.length;rw[G] at hn M |-;obtain⟨x1,x2⟩:=I;have K:=hid m;have p:=hid cp;have i:=hid F;have u:=hid X;have t:=hid H;have r:=hid f;have H0:=hid h0;have Z:=hid M;have Y:=hid G;clear m cp F X H f h0 M G N hP hO hB v
 by_cases h1:n=1/\B=true
 ·obtain⟨rfl,rfl⟩:=h1;have hk:0<l.length:=by rw[Y.out];omega
  obtain⟨gb,rfl,q⟩:=K.out 0 _ (List.getElem?_eq_getElem hk);have A:=Z.out;rw[if_pos ⟨rfl,rfl⟩,List.getD_eq_getElem?_getD,List.getElem?_eq_getElem hk] at A;have c1:=hid (i.out w l[0] (List.getElem_mem hk));obtain⟨s,C⟩:=Nm (l[0]);simp only[Option.getD_some] at A;rw[C] at A c1 q;subst A;clear K p i u t r H0 Z Y C;go_enter func130,ntmps130
  go_wp2_with (go_at_call 183;refine c1.out.mono ?_;rintro e w1 ⟨rfl,rfl⟩)
  go_ret;exact⟨rfl,Below.refl _ _⟩
 ·have A:=Z.out;rw[if_neg h1] at A;have E:=hid A;clear A Z;obtain⟨b1,en⟩:∃b,((n:Int)==1)=b:=⟨_,rfl⟩;have HT:Hid (¬(b1=true/\B=true)):=λ⟨e1,e2⟩=>h1 ⟨by rw[e1] at en;simp at en;omega,e2⟩;clear h1;have L0:=H0.out
  cases b1<;>cases B
  case true.true=>exact absurd ⟨rfl,rfl⟩ HT.out
  all_goals
   clear HT;go_enter func130,ntmps130
   go_wp2_with (go_at_call 77;refine (p.out w).mono ?_;rintro e w1 ⟨rfl,S⟩;have J:=hid S;clear S)
   go_loopw [5,6] (λov iv wr=>∃k:Nat,k<=n/\iv = .int .i64 k/\ov = .string (O k)/\Below w.heap.size w wr) (λ_ iv _=>n-(intOf iv).toNat)
   case atStart=>exact⟨0,Nat.zero_le _,rfl,by rw[L0],J.out⟩
   case round=>
    obtain⟨k,hk,rfl,rfl,y⟩:=hrel;have c:=hid y;have z:=t.out k;clear y J L0 H0 en t1
    by_cases hlt:k<n
    ·have x:k<l.length:=by rw[Y.out];exact hlt
     obtain⟨gb,rfl,q⟩:=K.out k _ (List.getElem?_eq_getElem x);have q1:=zb c.out q;have d:=r.out k x;have hz:=u.out _ (List.getElem_mem x);have F:=λW=>i.out W _ (List.getElem_mem x);obtain⟨s,C⟩:=Nm (l[k]);rw[C] at q1 d hz;simp only[C] at F;obtain⟨Q,hQ⟩:=Nm (Kp.jF s st);rw[hQ] at d hz;simp only[hQ] at F;obtain⟨o,V⟩:=Nm (O k);rw[V] at d z |-;have CQ:=hid F;clear q F C hQ K i u t r E V
     by_cases hk0:0<k
     ·rw[if_pos hk0] at d;have j:=hid d;have d0:decide ((0:Int)<(k:Int))=true:=by simp;omega
      clear d
      go_wp2_with (first
       | (go_at_call 77;refine (p.out wr).mono ?_;rintro e w2 ⟨rfl,g⟩;have q2:=zb g q1;have D:=hid (c.out.trans (g.mono c.out.size));clear g)
       | (go_at_call 183;refine (CQ.out _).mono ?_;rintro e w3 ⟨rfl,L⟩;rw[L];clear L))
      go_roundw
      case rel=>exact⟨k+1,by omega,by go_num,by rw[j.out],D.out⟩
      case measure=>simp[intOf];omega
     ·rw[if_neg hk0] at d;have j:=hid d;have T:k=0:=by omega
      subst T;clear d
      go_wp2_with (go_at_call 183;refine (CQ.out _).mono ?_;rintro e w3 ⟨rfl,L⟩;rw[L];clear L)
      go_roundw
      case rel=>exact⟨1,by omega,by go_num,by rw[j.out],c.out⟩
      case measure=>simp[intOf];omega
    ·have U:k=n:=by omega
     have e:R=O k++⟨#[93]⟩++P:=by rw[U];exact E.out
     obtain⟨o,V⟩:=Nm (O k);rw[V] at e z |-;subst e;subst U;clear E V K i u t r Y
     go_wp2_with (go_at_call 77;refine (p.out wr).mono ?_;rintro e w2 ⟨rfl,g⟩;have D:=hid (c.out.trans (g.mono c.out.size));clear g)
     go_ret;exact⟨rfl,D.out⟩
def IntsIn(w:World)(lv:Value)(l:List Int):Prop:=∃a c,lv = .slice a l.length c/\∀(k:Nat) (x:Int),l[k]?=some x->I64 x/\∃b o,a=some ⟨b,o,none⟩/\w.cell? ⟨b,o+k,none⟩=some (.int .i64 x)
theorem IntsIn.below{w b:World}{lv:Value}{l:List Int}(h:IntsIn w lv l)(hb:Below w.heap.size w b):IntsIn b lv l:=by
 obtain⟨a,c,rfl,h⟩:=h;exact⟨a,c,rfl,λk x g=>by obtain⟨hi,d,o,e,f⟩:=h k x g;exact⟨hi,d,o,e,zb hb f⟩⟩
theorem yI.own{w:World}{base:Nat}{lv:Value}{l:List BA}(h:zx w base lv l):yI w lv l:=by
 obtain⟨a,c,rfl⟩:=qJ h;refine⟨a,c,rfl,λk x b=>?_⟩;have f:k<l.length:=(List.getElem?_eq_some_iff.1 b).1
 rcases h.2 with ⟨e,h0⟩|⟨gb,cap,cur,e,_⟩
 ·omega
 ·have d:=World.ownsRow.cellAt (g:=gb) (cap:=cap) (by rw[<- e];exact h) k (by omega);injection e with e1 e2 e3
  exact⟨gb,e1,by rw[d];simp[List.getElem?_map,b]⟩
theorem Sz:(prog.info? 9).map (λi=>(i.zero,i.size,i.bytes))=some (some (.string ⟨#[]⟩),1,16):=by kernel_rfl
theorem SH{w:World}{B:Nat}{a:Value}{l:List BA}{s:BA}(h:w.ownsRow B 9 1 a (l.length+1) (l.map Value.string++[.string s])):zx w B a (l++[s]):=by
 unfold zx;rw[List.map_append,List.length_append];exact h
theorem lG(w:World)(cs:Array Value)(t:TypeId):∀(j:Nat) (u:Value),cs.toList[j]?=some u->(w.alloc (.cells cs t)).cell? ((⟨w.heap.size,0,none⟩:Addr).add j)=some u:=by
 intro j u a;have h:=(za (heap_alloc_new w (.cells cs t)) j).1;rw[addr_add];simp only[Nat.zero_add];rw[h,<- a,Array.getElem?_toList]
theorem Rx(raw:List Int)(k:Nat)(h:k<raw.length)(b:k<4):(Kp.jG raw).take (k+1)=(Kp.jG raw).take k++[Kp.patterns.getD (Kp.zk raw[k] 14) ⟨#[]⟩]:=by
 have a:k<(Kp.jG raw).length:=by unfold Kp.jG;rw[List.length_map,List.length_take];omega
 rw[List.take_add_one,List.getElem?_eq_getElem a]
 have:(Kp.jG raw)[k]=Kp.patterns.getD (Kp.zk raw[k] 14) ⟨#[]⟩:=by simp[Kp.jG]
 rw[this]
 rfl
theorem Bq(raw:List Int)(lv:Value)(w:World)(h:IntsIn w lv raw)(hm:raw.length<=maxLen) :
  Calls prog 131 #[lv] w λe w'=>∃v,e = .returned v/\yI w' v (Kp.qg raw)/\Below w.heap.size w w':=by
 obtain⟨i0,hi,U,V,X⟩:=info_parts Sz;obtain⟨a,cc,rfl,t⟩:=h;obtain⟨l,A⟩:∃W,w.alloc (.cells (Kp.patterns.map Value.string).toArray 9)=W:=⟨_,rfl⟩;have D:∀k,k<14->l.cell? ⟨w.heap.size,k,none⟩=some (.string (Kp.patterns.getD k ⟨#[]⟩)):=λk J=>by rw[<- A];exact Qo w Kp.patterns k J
 have P:Below w.heap.size w l:=by rw[<- A];exact nB w _
 have c1:=nQ w;rw[A] at c1;obtain⟨n,B⟩:=Nm raw.length;rw[B] at hm |-;unfold maxLen at hm;have b:Kp.qg raw=if (Kp.jG raw).length=0 then [⟨#[42]⟩] else Kp.jG raw:=rfl
 have hlen:(Kp.jG raw).length=min n 4:=by unfold Kp.jG;rw[List.length_map,List.length_take,B,Nat.min_comm]
 have g:=Rx raw;obtain⟨F,hF⟩:=Nm (Kp.jG raw);rw[hF] at hlen b g;have Z:=hid t;have HP:=hid D;have p:=hid P;have M:=hid c1;have HN:=hid B;have N:=hid b;have HL:=hid hlen;have HT:=hid g;clear t D P c1 B b hlen g hF A;go_enter func131,ntmps131
 go_wp2_with (go_at_call 129;refine M.out.mono ?_;rintro e w1 ⟨rfl,e1⟩;rw[e1];clear e1)
 go_loopw [4,5] (λov iv wr=>∃k:Nat,k<=min n 4/\iv = .int .i64 k/\zx wr l.heap.size ov (F.take k)/\Below l.heap.size l wr) (λ_ iv _=>min n 4-(intOf iv).toNat)
 case atStart=>exact⟨0,Nat.zero_le _,rfl,⟨rfl,.inl ⟨rfl,rfl⟩⟩,Below.refl _ _⟩
 case round=>
  obtain⟨k,J,rfl,ho,hb⟩:=hrel;have z:=hid ho;have E:=hid hb;have f:(F.take k).length=k:=by rw[List.length_take,HL.out];omega
  clear ho hb M
  by_cases hlt:k<n/\k<4
  ·obtain⟨a9,b0⟩:=hlt;have Q:k<raw.length:=by rw[HN.out];exact a9
   obtain⟨y,gb,o,rfl,q⟩:=Z.out k _ (List.getElem?_eq_getElem Q);have q1:=zb E.out (zb p.out q);have m:=HT.out k Q b0;obtain⟨x,hx⟩:=Nm (raw[k]);rw[hx] at q1 m y;have S:=Kp.qP x 14 (by decide);have cp:=λW=>uf x 14 W y (by decide) (by decide);have r1:=zb E.out (HP.out _ S);obtain⟨j,hj⟩:=Nm (Kp.zk x 14);rw[hj] at m S r1;simp only[hj] at cp;obtain⟨s,hs⟩:=Nm (Kp.patterns.getD j ⟨#[]⟩);rw[hs] at m r1;obtain⟨L,hL⟩:=Nm (F.take k);rw[hL] at z m f;have a5:=hid m;have CP:=hid cp;have I:=E.out.size;clear q m cp hs hL hj hx Z HP HN N HT y
   go_wp2_with (first
    | (go_at_call 19;refine (CP.out _).mono ?_;rintro e w2 ⟨rfl,e2⟩;rw[e2];clear e2)
    | (at_builtin;refine wpList_append_own _ rfl _ _ 42 rfl l.heap.size 9 i0 (.string ⟨#[]⟩) 1 16 underlying42 hi U V X rfl (by decide) _ L.length (L.map Value.string) rfl (World.ownsRow.alloc z.out _) ⟨wr.heap.size,0,none⟩ 1 1 [.string s] rfl rfl ?_ ?_ ?_ ?_ ?_ ?_))
   ·exact lG _ _ _
   ·intro u T;simp at T;rcases T with rfl;rfl
   ·unfold maxLen;omega
   ·omega
   ·simp;omega
   ·intro v' Y d c _;have H:Hid (zx Y l.heap.size v' (F.take (k+1))):=by rw[a5.out];exact SH (by rw[f];exact d)
    have G:Hid (Below l.heap.size l Y):=(E.out.alloc I _).grown c (by simp;omega) (λk J=>(World.ownsRow.lt z.out k J).1);clear d c
    go_wp2
    go_roundw
    case rel=>exact⟨k+1,by omega,by go_num,H.out,G.out⟩
    case measure=>simp[intOf];omega
  ·have R:k=min n 4:=by omega
   have r:F.take k=F:=List.take_of_length_le (by rw[HL.out];omega);rw[r] at z f;have I:=E.out.size;have K:Hid (Below w.heap.size w wr):=p.out.trans (E.out.mono p.out.size);obtain⟨fa,fc,rfl⟩:=qJ z.out;rw[f] at z |-;have C:(decide ((k:Int)<(n:Int))&&decide ((k:Int)<4))=false:=by simp;omega
   by_cases h0:k=0
   ·have a7:F=[]:=List.length_eq_zero_iff.1 (by rw[f];exact h0);have b:=N.out;rw[if_pos (by rw[f];exact h0)] at b;have b1:n=0:=by omega
    subst h0;subst b1;have i:=hid b;clear b N Z HP HN HT R r C HL;rw[a7] at z
    go_wp2_with (at_builtin;refine wpList_append_own _ rfl _ _ 42 rfl l.heap.size 9 i0 (.string ⟨#[]⟩) 1 16 underlying42 hi U V X rfl (by decide) _ 0 [] rfl (World.ownsRow.alloc z.out _) ⟨wr.heap.size,0,none⟩ 1 1 [.string ⟨#[42]⟩] rfl rfl ?_ ?_ ?_ ?_ ?_ ?_)
    ·exact lG _ _ _
    ·intro u T;simp at T;rcases T with rfl;rfl
    ·unfold maxLen;omega
    ·omega
    ·simp;omega
    ·intro v' Y d c _;have H:Hid (zx Y l.heap.size v' [⟨#[42]⟩]):=hid d;have G:Hid (Below l.heap.size l Y):=(E.out.alloc I _).grown c (by simp;omega) (λk J=>(World.ownsRow.lt z.out k J).1);clear d c
     go_wp2
     go_ret;exact⟨_,rfl,by rw[i.out];exact yI.own H.out,p.out.trans (G.out.mono p.out.size)⟩
   ·have b:=N.out;rw[if_neg (by rw[f];exact h0)] at b;have i:=hid b;have d0:((k:Int)==0)=false:=by simp;omega
    have O:Hid (yI wr (.slice fa k fc) F):=yI.own z.out;clear b N Z HP HN HT R r HL
    by_cases h4:k<4
    ·have e1:decide ((k:Int)<(n:Int))=false:=by simp at C |-;omega
     go_wp2
     go_ret;exact⟨_,rfl,by rw[i.out];exact O.out,K.out⟩
    ·have e1:decide ((k:Int)<4)=false:=by simp;omega
     go_wp2
     all_goals
      go_ret;exact⟨_,rfl,by rw[i.out];exact O.out,K.out⟩
theorem UJ(raw:List Int)(lv:Value)(nt:Bool)(st:Int)(w:World)(h:IntsIn w lv raw)(u:raw.length<=maxLen)(g:I64 st) :
  Calls prog 79 #[lv,.bool nt,.int .i64 st] w λe x=>e = .returned (.string (Kp.yw raw nt st))/\Below w.heap.size w x:=by
 have c1:=Bq raw lv w h u;have c2:=λW v (i:yI W v (Kp.qg raw))=>Ji (Kp.qg raw) v st W i g (Kp.ZB raw).2 (Kp.UR raw);have c3:=λW=>K6 st W g;have y:=Kp.QM (Kp.qg raw) st (Kp.UR raw);have E:=(Kp.ZB raw).2;have z:=Kp.QQ st;have r:Kp.yw raw nt st=if nt then ⟨#[123]⟩++Kp.xN st++⟨#[34,110,111,116,34,58]⟩++Kp.qO (Kp.qg raw) st++⟨#[125]⟩ else Kp.qO (Kp.qg raw) st:=rfl
 rw[r];obtain⟨P,q⟩:=Nm (Kp.xN st);obtain⟨L,p⟩:=Nm (Kp.qO (Kp.qg raw) st);obtain⟨a,A,rfl,_⟩:=h;simp only[q,p] at c2 c3 y z |-;obtain⟨C,D⟩:=g;have n:=hid c1;have o:=hid c2;have t:=hid c3;clear c1 c2 c3 q p r
 cases nt with
 | true=>
  go_enter func79,ntmps79
  go_wp2_with (first
   | (go_at_call 131;refine n.out.mono ?_;rintro e m ⟨v,rfl,i,c⟩;have l:=hid i;have b:=hid c;clear i c)
   | (go_at_call 130;refine (o.out m v l.out).mono ?_;rintro e s ⟨rfl,d⟩;have f:=hid (b.out.trans (d.mono b.out.size));clear d)
   | (go_at_call 77;refine (t.out s).mono ?_;rintro e B ⟨rfl,j⟩;have k:=hid (f.out.trans (j.mono f.out.size));clear j))
  go_ret;exact⟨rfl,k.out⟩
 | false=>
  go_enter func79,ntmps79
  go_wp2_with (first
   | (go_at_call 131;refine n.out.mono ?_;rintro e m ⟨v,rfl,i,c⟩;have l:=hid i;have b:=hid c;clear i c)
   | (go_at_call 130;refine (o.out m v l.out).mono ?_;rintro e s ⟨rfl,d⟩;have f:=hid (b.out.trans (d.mono b.out.size));clear d))
  go_ret;exact⟨rfl,f.out⟩
end Go.Proofs.YtdakgnaojakldaaGreatDoor
