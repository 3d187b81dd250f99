/- P -/
import Derived.Test.YtagnlbgbnfnapaaGreatDoorZ37
open Go.Proofs.Tryz
set_option maxRecDepth 100000
set_option maxHeartbeats 8000000
namespace Go.Proofs.YtagnlbgbnfnapaaGreatDoor
open Go.RowKit
def XA(w:World)(e:Value)(l:List Kp.qp):Prop:=∃a c,e = .slice a l.length c/\∀(k:Nat) (p:Kp.qp),l[k]?=some p->I64 p.layer/\I64 p.name/\p.rules.length<=maxLen /\
 ∃b o d,a=some ⟨b,o,none⟩/\w.cell? ⟨b,o+k*3,none⟩=some (.int .i64 p.layer)/\w.cell? ⟨b,o+k*3+1,none⟩=some (.int .i64 p.name)/\w.cell? ⟨b,o+k*3+2,none⟩=some d/\uY w d p.rules
theorem XA.below{w d:World}{b:Value}{l:List Kp.qp}(h:XA w b l)(hb:Below w.heap.size w d):XA d b l:=by
 obtain⟨a,c,rfl,h⟩:=h;refine⟨a,c,rfl,λk p m=>?_⟩;obtain⟨g,i,j,f,o,q,e,c0,c1,c2,n⟩:=h k p m;exact⟨g,i,j,f,o,q,e,zh hb c0,zh hb c1,zh hb c2,n.below hb⟩
structure ZO (w:World) (cb hb:Nat) (st:StO):Prop where
 cnt:∀i,i<4->w.cell? ⟨cb,i,none⟩=some (.int .i64 ((st i).length:Nat))/\w.frozen? ⟨cb,i,none⟩=false
 has:∀i,i<4->∀k,k<6->w.cell? ⟨hb,i*6+k,none⟩=some (.bool (zO (st i) (Kp.qy k)))/\w.frozen? ⟨hb,i*6+k,none⟩=false
theorem ZO.turn{w f:World}{c hb:Nat}{l:StO}{M:Nat->Prop}(h:ZO w c hb l)(e:zC M w f)(g:¬M c)(j:¬M hb):ZO f c hb l:=by
 have fr:∀(b k:Nat) (v:Value),¬M b->w.cell? ⟨b,k,none⟩=some v->w.frozen? ⟨b,k,none⟩=false->f.frozen? ⟨b,k,none⟩=false:=λb k v o m n=>
  (yZ (w:=w) (a:=⟨b,k,none⟩) (e.block b (kX _ _ m) o)).trans n
 exact⟨λi hi=>⟨e.cell (x:=⟨c,i,none⟩) g (h.cnt i hi).1,fr _ _ _ g (h.cnt i hi).1 (h.cnt i hi).2⟩,λi hi k d=>⟨e.cell (x:=⟨hb,i*6+k,none⟩) j (h.has i hi k d).1,fr _ _ _ j (h.has i hi k d).1 (h.has i hi k d).2⟩⟩
theorem ZO.same{w:World}{e hb:Nat}{d c:StO}(h:ZO w e hb d)(g:∀a,a<4->(c a).length=(d a).length)(j:∀a,a<4->∀b,b<6->zO (c a) (Kp.qy b)=zO (d a) (Kp.qy b)):ZO w e hb c:=
 ⟨λi hi=>by rw[g i hi];exact h.cnt i hi,λi hi k f=>by rw[j i hi k f];exact h.has i hi k f⟩
theorem ZO.more{w:World}{l hb:Nat}{k g:StO}(h:ZO w l hb k)(m:l≠hb){i j:Nat}(hi:i<4)(q:j<6)(o:∀a,a<4->(g a).length=if a=i then (k a).length+1 else (k a).length)(p:∀a,a<4->∀b,b<6->zO (g a) (Kp.qy b)=(zO (k a) (Kp.qy b)||(decide (a=i)&&decide (b=j)))) :
  ZO ((w.setCell ⟨l,i,none⟩ (.int .i64 (((k i).length:Int)+1))).setCell ⟨hb,i*6+j,none⟩ (.bool true)) l hb g:=by
 refine⟨λa d=>⟨?_,by rw[World.frozen?_setCell,World.frozen?_setCell];exact (h.cnt a d).2⟩,λa d b f=>⟨?_,by rw[World.frozen?_setCell,World.frozen?_setCell];exact (h.has a d b f).2⟩⟩
 ·rw[xW _ _ _ _ (by intro e;injection e with e;exact m e.symm),o a d]
  by_cases e:a=i
  ·subst e;rw[zb rfl,Zx _ _ _ (h.cnt a d).1]
   simp
  ·rw[za e,xW _ _ _ _ (by intro c;injection c with _ c;exact e c.symm)]
   exact (h.cnt a d).1
 ·have n:=(xW w ⟨l,i,none⟩ ⟨hb,a*6+b,none⟩ (.int .i64 (((k i).length:Int)+1)) (by intro e;injection e with e;exact m e)).trans (h.has a d b f).1
  rw[p a d b f]
  by_cases e:a=i/\b=j
  ·obtain⟨rfl,rfl⟩:=e;rw[Zx _ _ _ n]
   simp
  ·rw[xW _ _ _ _ (by intro c;injection c with _ c;apply e;constructor<;>omega),n]
   have:(decide (a=i)&&decide (b=j))=false:=by
    rw[Bool.and_eq_false_iff]
    by_cases e1:a=i
    ·exact .inr (zH (λc=>e ⟨e1,c⟩))
    ·exact .inl (zH e1)
   rw[this,Xp]
def OpM(c a b:Nat):Prop:=b=c\/b=a+1\/b=a+1+1
structure Jz (w wr:World) (nb:Nat) (st:StO):Prop where
 below:Below w.heap.size w wr
 office:qN (OpM w.heap.size nb) wr w.heap.size st
 lt:w.heap.size<nb
 top:nb+2<wr.heap.size
 names:∀j,j<6->wr.cell? ⟨nb,j,none⟩=some (.string (Kp.qy j))
 counts:ZO wr (nb+1) (nb+1+1) st
def UF(w:World)(l:List Kp.qp)(e:Ending)(c:World):Prop:=∃a,e = .returned (.tuple #[.pointer (some ⟨a,0,none⟩),.bool true])/\w.heap.size<=a/\a<c.heap.size/\Below w.heap.size w c/\qN (λb=>b=a) c a (Kp.uL l)
theorem gF(l:List Kp.qp)(lv:Value)(aL:Addr)(w:World)(hC:Qh w aL)(h:XA w lv l)(hm:l.length<=maxLen) :
  Calls prog 8 #[lv] w (UF w l):=by
 have cn:=fT (λb=>b=w.heap.size) w rfl;have cN:=λW=>tF W;obtain⟨a,cc,rfl,I⟩:=h;obtain⟨n,a0⟩:=Nm l.length;have z:=hid I;have HC:=hid hC;have CN:=hid cn;have a9:=hid cN;rw[a0] at hm |-;have HN:=hid a0;unfold maxLen at hm;clear I hC cn cN a0;go_enter func8,ntmps8
 go_upto_region 8 with (first
  | (go_at_call 17;refine (a9.out O).mono ?_;rintro e w2 ⟨rfl,R⟩;rw[R];clear R)
  | (go_at_call 12;refine CN.out.mono ?_;rintro e O ⟨rfl,b1,o1⟩;have B1:=hid b1;have O1:=hid o1;clear b1 o1))
 have h3:w.heap.size<O.heap.size:=zY O1.out.row.choose_spec.1;obtain⟨d,H⟩:∃x,O.heap.size=x:=⟨_,rfl⟩;obtain⟨W3,B⟩:∃W,((O.alloc (.cells (Kp.Xb.map Value.string).toArray 9)).alloc (.cells #[.int .i64 0,.int .i64 0,.int .i64 0,.int .i64 0] 69)).alloc (.cells #[.bool false,.bool false,.bool false,.bool false,.bool false,.bool false,.bool false,.bool false,.bool false,.bool false,.bool false,.bool false,.bool false,.bool false,.bool false,.bool false,.bool false,.bool false,.bool false,.bool false,.bool false,.bool false,.bool false,.bool false] 71)=W:=⟨_,rfl⟩
 have X:Jz w W3 d (Kp.uf l 0):=by
  have hb13:Below O.heap.size O W3:=by rw[<- B];exact ((nB O _).alloc (by simp) _).alloc (by simp;omega) _
  have j6:W3.heap.size=d+3:=by rw[<- B,<- H];simp
  have e0:Kp.uf l 0=xy:=rfl;rw[e0]
  have x1:W3.heap[d]?=some (.cells (Kp.Xb.map Value.string).toArray 9):=by
   rw[<- B,<- H,Xn _ _ _ (by simp;omega),Xn _ _ _ (by simp)];exact zL O _
  have x2:W3.heap[d+1]?=some (.cells #[.int .i64 0,.int .i64 0,.int .i64 0,.int .i64 0] 69):=by
   rw[<- B,<- H,Xn _ _ _ (by simp)]
   have:=zL (O.alloc (.cells (Kp.Xb.map Value.string).toArray 9)) (.cells #[.int .i64 0,.int .i64 0,.int .i64 0,.int .i64 0] 69)
   simpa using this
  have x3:W3.heap[d+2]?=some (.cells #[.bool false,.bool false,.bool false,.bool false,.bool false,.bool false,.bool false,.bool false,.bool false,.bool false,.bool false,.bool false,.bool false,.bool false,.bool false,.bool false,.bool false,.bool false,.bool false,.bool false,.bool false,.bool false,.bool false,.bool false] 71):=by
   rw[<- B,<- H]
   have:=zL ((O.alloc (.cells (Kp.Xb.map Value.string).toArray 9)).alloc (.cells #[.int .i64 0,.int .i64 0,.int .i64 0,.int .i64 0] 69)) (.cells #[.bool false,.bool false,.bool false,.bool false,.bool false,.bool false,.bool false,.bool false,.bool false,.bool false,.bool false,.bool false,.bool false,.bool false,.bool false,.bool false,.bool false,.bool false,.bool false,.bool false,.bool false,.bool false,.bool false,.bool false] 71)
   simpa using this
  refine⟨B1.out.trans (hb13.mono B1.out.size),(O1.out.more (λb hb=>by rcases hb with h|h|h;exact .inl h;exact .inr (by omega);exact .inr (by omega)) (.inl rfl)).below hb13,by omega,by omega,λj hj=>?_,⟨λi hi=>?_,λi hi k hk=>?_⟩⟩
  ·rw[(zf x1 j).1]
   have:j=0\/j=1\/j=2\/j=3\/j=4\/j=5:=by omega
   rcases this with rfl|rfl|rfl|rfl|rfl|rfl<;>rfl
  ·obtain⟨c,f⟩:=zf x2 i;rw[c,f]
   have:i=0\/i=1\/i=2\/i=3:=by omega
   rcases this with rfl|rfl|rfl|rfl<;>exact⟨rfl,rfl⟩
  ·obtain⟨c,f⟩:=zf x3 (i*6+k);rw[c,f]
   have b3:∀m,m<24->(#[Value.bool false,.bool false,.bool false,.bool false,.bool false,.bool false,.bool false,.bool false,.bool false,.bool false,.bool false,.bool false,.bool false,.bool false,.bool false,.bool false,.bool false,.bool false,.bool false,.bool false,.bool false,.bool false,.bool false,.bool false]:Array Value)[m]?=some (.bool false):=by
    intro m hm;have d6:(List.replicate 24 (Value.bool false))[m]?=some (.bool false):=by rw[List.getElem?_replicate,zb hm]
    simpa using d6
   exact⟨b3 _ (by omega),rfl⟩
 rw[B];have b0:=hid X;rw[H];clear X B H B1 O1 CN a9
 go_loopw [8] (λiv wr=>∃k:Nat,k<=n/\iv = .int .i64 k/\Jz w wr d (Kp.uf l k)) (λiv _=>n-(intOf iv).toNat)
 case atStart=>exact⟨0,zU _,rfl,b0.out⟩
 case round=>
  clear b0;obtain⟨k,hk,rfl,A⟩:=hrel
  by_cases hlt:k<n
  ·have b4:k<l.length:=by rw[HN.out];exact hlt
   obtain⟨i1,i2,a1,gb,o,rv,rfl,q0,q1,q2,a2⟩:=z.out k _ (zt b4);have g:=Kp.PI l k b4;obtain⟨hG,_⟩:=Kp.PH l k;obtain⟨C,b8⟩:∃s,Kp.uf l k=s:=⟨_,rfl⟩;rw[b8] at A g hG;obtain⟨p,hp⟩:=Nm (l[k]);rw[hp] at i1 i2 a1 q0 q1 a2 g;have p0:=zh A.below q0;have p1:=zh A.below q1;have p2:=zh A.below q2;have hi4:=Kp.Yp p;have G:=Kp.Xe p;have c1:=λW=>uh p.layer 4 W i1 (by decide) (by decide);have c2:=λW=>uh p.name 6 W i2 (by decide) (by decide);have hlen:=Kp.Ws C p;have J:=λ(a b:Nat) (N:a<4) (hb:b<6)=>Kp.Wq hG p N hb;have y:=Kp.Yw C hi4 G (Kp.qQ p.rules) (Kp.Qb p.rules);have K:Kp.jf C p=yj C (p.lay:Int) (Kp.qy p.num) (Kp.qQ p.rules):=rfl;have cP:=λ(W:World) (hb:Below w.heap.size w W)=>Kt p.rules rv W (a2.below hb) a1;unfold Kp.qp.nam at hlen;have e1:Kp.zy p.layer 4=p.lay:=rfl;have R:Kp.zy p.name 6=p.num:=rfl;simp only[e1] at c1;simp only[R] at c2;obtain⟨i,hi⟩:=Nm p.lay;obtain⟨j,hj⟩:=Nm p.num;simp only[hi,hj] at c1 c2 hi4 G hlen J y K;obtain⟨T,hT⟩:=Nm (Kp.qQ p.rules);simp only[hT] at y K cP;have nj:=A.names j G;have jz:=Kp.fO j G;obtain⟨nm,S⟩:∃x,Kp.qy j=x:=⟨_,rfl⟩;rw[S] at nj jz y K;simp only[S] at hlen;have C1:Hid (∀W,Calls prog 11 #[.int .i64 p.layer,.int .i64 4] W λe w'=>e = .returned (.int .i64 (i:Int))/\w'=W):=hid c1;have C2:Hid (∀W,Calls prog 11 #[.int .i64 p.name,.int .i64 6] W λe w'=>e = .returned (.int .i64 (j:Int))/\w'=W):=hid c2;have CP:=hid cP;have L:=hid A;have HG:=hid hG;have r:=hid hlen;have q:=hid J;have t:=hid (g.trans K);have E:=hid g;have P:=hid y.1;have U:=hid (λ(W:World) (hb:Below w.heap.size w W) (ho:qN (OpM w.heap.size d) W w.heap.size C) (hz:d+2<W.heap.size)=>Uc w.heap.size C (i:Int) nm T (OpM w.heap.size d) aL W (HC.out.below hb) ho (λb hb=>by have:=A.lt;rcases hb with h|h|h<;>omega) (by unfold maxLen;omega))
   have b2:=hid S;have V:=A.top;have v:=A.lt;have j4:(0:Int)<=(k:Int):=jL _;have j2:(0:Int)<=(i:Int):=jL _;have j3:(0:Int)<=(j:Int):=jL _;have h0:(i:Int)<4:=by omega
   have h1:(j:Int)<6:=by omega
   clear q0 q1 a2 hp c1 c2 cP A hG hlen J y K g b8 hi hj hT z HN S i1 i2 a1
   go_upto_region 11 with (go_at_call 11;refine (C1.out wr).mono ?_;rintro e w2 ⟨rfl,R⟩;rw[R];clear R)
   go_upto_region 12 with (go_at_call 11;refine (C2.out wr).mono ?_;rintro e w3 ⟨rfl,e3⟩;rw[e3];clear e3)
   go_cut [11] (λv11 wc=>v11 = .int .i64 (jW C (i:Int) nm T).1/\Below w.heap.size w wc/\qN (OpM w.heap.size d) wc w.heap.size (Kp.uf l (k+1))/\d+2<wc.heap.size/\(∀j,j<6->wc.cell? ⟨d,j,none⟩=some (.string (Kp.qy j)))/\ZO wc (d+1) (d+1+1) C)
   case first=>
    have cp:=hid (CP.out wr.drew L.out.below.drew);have g9:gb≠w.heap.size:=by have:=kX _ _ q2;simp at this;omega
    go_region_held3 (λw'=>w'.cell? ⟨d,j,none⟩=some (.string nm)/\w'.cell? ⟨gb,o+k*3+2,none⟩=some rv) (go_keep) (first
     | (go_at_call 13;refine (U.out w5 B5.out O5.out z5).mono ?_;rintro e w6 ⟨rfl,t6,o6⟩;have n6:=t6.cell (x:=⟨d,j,none⟩) (by simp;omega) n5;have r6:=t6.cell (x:=⟨gb,o+k*3+2,none⟩) (by simp;omega) r5;have T6:=hid t6;have O6:=hid o6;clear t6 o6)
     | (go_at_call 14;refine cp.out.mono ?_;rintro e w5 ⟨rfl,Y⟩;have n5:=zh Y nj;have r5:=zh Y p2;have B5:=hid (L.out.below.drew.trans (Y.mono L.out.below.size));have O5:=hid ((L.out.office.below (zi _ wr).drew).below Y);have z5:d+2<w5.heap.size:=xx V Y.size;have d0:=hid Y;clear Y))
    all_goals
     go_wp2_with fail
     go_meet
     case rel=>
      have tt:=(zC.of (M:=λb=>b=w.heap.size) ((zi _ wr).drew)).trans ((zC.of d0.out).trans T6.out);refine⟨rfl,B5.out.trans (T6.out.below (λk hk e=>by omega) (by omega)),by rw[t.out];exact O6.out,?_,λj' Z=>tt.cell (x:=⟨d,j',none⟩) (by simp;omega) (L.out.names j' Z),L.out.counts.turn tt (by omega) (by omega)⟩
      have:=tt.size
      omega
   case rest=>
    obtain⟨rfl,b7,o7,z7,n7,Q⟩:=hcut;have x1:=Q.cnt i hi4;have x2:=Q.has i hi4 j G;rw[b2.out] at x2;have b6:∀a3:StO,Kp.uf l (k+1)=a3->ZO wc (d+1) (d+1+1) a3->Jz w wc d (Kp.uf l (k+1)):=λa3 e hc=>⟨b7,o7,v,z7,n7,by rw[e];exact hc⟩;have F:=P.out;have B7:=hid b7;have O7:=hid o7;have N7:=hid n7;have D:=hid Q;obtain⟨f3,k3⟩:=x1;obtain⟨c0,k4⟩:=x2;clear b7 o7 n7 Q U L CP C1 C2 b6
    cases hh:zO (C i) nm with
    | true=>
     rw[hh] at c0;rw[F,hh,YK,zb rfl]
     have hinv:Jz w wc d (Kp.uf l (k+1)):=by
      refine⟨B7.out,O7.out,v,z7,N7.out,?_⟩;rw[E.out];refine D.out.same (λa N=>?_) (λa N b hb=>?_)
      ·rw[r.out a,za (λh=>by rw[h.2.1] at hh;cases hh)]
      ·rw[q.out a b N hb]
       by_cases e:a=i/\b=j
       ·obtain⟨rfl,rfl⟩:=e;rw[b2.out,hh,YK]
       ·have:(decide (a=i)&&decide (b=j))=false:=by
         rw[Bool.and_eq_false_iff]
         by_cases e1:a=i
         ·exact .inr (zH (λR=>e ⟨e1,R⟩))
         ·exact .inl (zH e1)
        rw[this,X8,Xp]
     have u:=hid hinv;clear hinv r q D O7 N7 B7 E t P F;go_wp2_with fail
     go_roundw
     case rel=>exact⟨k+1,by omega,by go_num,u.out⟩
     case measure=>simp[intOf];omega
    | false=>
     rw[hh] at c0
     by_cases h4:(C i).length<4
     ·rw[F,hh,Xo,zF h4,zb rfl];have d4:(((C i).length:Int)==4)=false:=by simp;omega
      have hW:=((B7.out.setCell (p:=⟨d+1,i,none⟩) (by simp;omega) (.int .i64 (((C i).length:Int)+1))).setCell (p:=⟨d+1+1,i*6+j,none⟩) (by simp;omega) (.bool true));have tW:=(zC.set (M:=λb=>b=d+1\/b=d+1+1) wc (b:=d+1) (.inl rfl) i (.int .i64 (((C i).length:Int)+1))).trans (zC.set (M:=λb=>b=d+1\/b=d+1+1) _ (b:=d+1+1) (.inr rfl) (i*6+j) (.bool true))
      have hinv:Jz w ((wc.setCell ⟨d+1,i,none⟩ (.int .i64 (((C i).length:Int)+1))).setCell ⟨d+1+1,i*6+j,none⟩ (.bool true)) d (Kp.uf l (k+1)):=by
       refine⟨hW,?_,v,by simp;omega,λj' Z=>tW.cell (x:=⟨d,j',none⟩) (by simp;omega) (N7.out j' Z),?_⟩
       ·exact (O7.out.other (zC.set (M:=λb=>b=d+1) wc (b:=d+1) rfl i _) (by omega) (.inr (.inl rfl))).other (zC.set (M:=λb=>b=d+1+1) _ (b:=d+1+1) rfl (i*6+j) _) (by omega) (.inr (.inr rfl))
       ·rw[E.out];refine D.out.more (by omega) hi4 G (λa N=>?_) (λa N b hb=>?_)
        ·rw[r.out a]
         by_cases e:a=i
         ·rw[zb ⟨e,hh,h4⟩,zb e]
         ·rw[za (λh=>e h.1),za e]
        ·rw[q.out a b N hb,zF h4,YJ]
      have u:=hid hinv;clear hinv hW tW r q D O7 N7 B7 E t P F;go_wp2_with fail
      go_roundw
      case rel=>exact⟨k+1,by omega,by go_num,u.out⟩
      case measure=>simp[intOf];omega
     ·rw[F,hh,Xo,zH h4,za (by simp)]
      have d9:(C i).length=4:=by
       have:=(HG.out i hi4).2.1
       omega
      rw[d9] at f3
      have hinv:Jz w wc d (Kp.uf l (k+1)):=by
       refine⟨B7.out,O7.out,v,z7,N7.out,?_⟩;rw[E.out];refine D.out.same (λa N=>?_) (λa N b hb=>?_)
       ·rw[r.out a,za (λh=>h4 h.2.2)]
       ·rw[q.out a b N hb,zH h4,Bool.and_false,Xp]
      have u:=hid hinv;clear hinv r q D O7 N7 B7 E t P F;go_wp2_with fail
      go_roundw
      case rel=>exact⟨k+1,by omega,by go_num,u.out⟩
      case measure=>simp[intOf];omega
  ·have d8:k=n:=by omega
   subst d8;rw[Kp.PG l k (by rw[HN.out];exact ze _)] at A;have L:=hid A;have V:=A.top;have v:=A.lt;clear A z HN;go_wp2_with fail;go_ret2;exact⟨w.heap.size,rfl,ze _,by omega,L.out.below,L.out.office.more (λb hb => .inl (.inl hb)) rfl⟩
namespace De
def Ze(c:UInt8):Prop:=48<=c.toNat/\c.toNat<=57
def mh(n:Nat)(c:UInt8):Nat:=10*n+(c.toNat-48)
def Zg(n:Nat)(l:List UInt8):Nat:=l.foldl mh n
def jI(l:List UInt8):Nat:=Zg 0 l
theorem J9(n:Nat)(c:UInt8)(l:List UInt8):Zg n (c::l)=Zg (10*n+(c.toNat-48)) l:=by simp only[Zg,List.foldl_cons,mh]
theorem tN:∀(a b:List UInt8) (n m:Nat),a.length=b.length->(∀c ∈ a,Ze c)->(∀c ∈ b,Ze c)->(Zg n a<Zg m b↔n<m\/(n=m/\Lib.compareBytes a b<0))
 | [],[],n,m,_,_,_=>by simp[Zg,Lib.compareBytes]
 | [],_::_,_,_,h,_,_=>by simp at h
 | _::_,[],_,_,h,_,_=>by simp at h
 | x::a,y::b,n,m,h,ha,hb=>by
  have i:=ha x (by simp);have j:=hb y (by simp);unfold Ze at i j;rw[J9,J9,tN a b _ _ (by simpa using h) (λc f=>ha c (by simp[f])) (λc f=>hb c (by simp[f])),Lib.compareBytes]
  by_cases c1:x<y
  ·have d:x.toNat<y.toNat:=c1;rw[zb c1]
   constructor
   ·intro h;omega
   ·intro h;omega
  ·have d:¬x.toNat<y.toNat:=c1;rw[za c1]
   by_cases c2:y<x
   ·have e:y.toNat<x.toNat:=c2;rw[zb c2]
    constructor
    ·intro h;omega
    ·intro h;omega
   ·have e:¬y.toNat<x.toNat:=c2;rw[za c2]
    constructor
    ·rintro (h|⟨h,g⟩)
     ·left;omega
     ·right;exact⟨by omega,g⟩
    ·rintro (h|⟨h,g⟩)
     ·left;omega
     ·right;exact⟨by omega,g⟩
theorem fP:∀(l:List UInt8) (n:Nat),(∀c ∈ l,Ze c)->Zg n l<(n+1)*10 ^ l.length
 | [],n,_=>by simp[Zg]
 | x::l,n,h=>by
  have b:=h x (by simp);unfold Ze at b
  have:=fP l (10*n+(x.toNat-48)) (λc a=>h c (by simp[a]))
  rw[J9];refine xx this ?_;rw[uU,Nat.pow_succ,Nat.mul_comm (10 ^ l.length) 10,<- Nat.mul_assoc];exact Jw _ (by omega)
theorem fQ:∀(l:List UInt8) (n:Nat),n*10 ^ l.length<=Zg n l
 | [],n=>by simp[Zg]
 | x::l,n=>by
  have:=fQ l (10*n+(x.toNat-48))
  rw[J9];refine jy ?_ this;rw[uU,Nat.pow_succ,Nat.mul_comm (10 ^ l.length) 10,<- Nat.mul_assoc];exact Jw _ (by omega)
theorem tQ{a b:List UInt8}(h:∀c ∈ a,Ze c)(hb:∀c ∈ b,Ze c)(e:a.length<b.length)(d:(b.getD 0 0).toNat≠48):jI a<jI b:=by
 match b,e,d with
 | y::b,e,d=>
  have i:=hb y (by simp);unfold Ze at i;have f:y.toNat≠48:=d;have j:=fP a 0 h;have k:=fQ b (10*0+(y.toNat-48));have g:jI (y::b)=Zg (10*0+(y.toNat-48)) b:=J9 0 y b;have l:10 ^ a.length<=10 ^ b.length:=Nat.pow_le_pow_right (by omega) (by simp at e;omega);have m:1*10 ^ b.length<=(10*0+(y.toNat-48))*10 ^ b.length:=Jw _ (by omega);rw[g];unfold jI;omega
def XZ(t:BA):Bool:=(t.toList==[48])||Ref.Zj t
def KA(a b:BA):Bool:=if a.size=b.size then decide (Lib.compareBytes a.data.toList b.data.toList<0) else decide (a.size<b.size)
theorem KD{t:BA}(h:XZ t=true):(∀c ∈ t.data.toList,Ze c)/\1<=t.size/\t.size<=18/\(1<t.size->(t.data.toList.getD 0 0).toNat≠48)/\(t.data.toList.getD 0 0).toNat≠45:=by
 have b:t.data.toList.length=t.size:=by simp
 unfold XZ at h
 rcases Bool.or_eq_true_iff.1 h with h|h
 ·have e:t.data.toList=[48]:=by
   have:=JP h
   rwa [QQ] at this
  rw[e] at b |-;simp at b;refine⟨λc a=>?_,by omega,by omega,by omega,by simp⟩;simp at a;subst a;exact⟨by decide,by decide⟩
 ·unfold Ref.Zj at h;simp only[uo,jk,bne_iff_ne] at h;obtain⟨⟨⟨d,f⟩,g⟩,i⟩:=h
  have hd:∀c ∈ t.data.toList,Ze c:=λc a=>by
   have:=vP.1 i c a
   simp only[jk] at this;exact this
  refine⟨hd,d,f,λ_=>g,?_⟩
  match hx:t.data.toList with
  | []=>rw[hx] at b;simp at b;omega
  | x::r=>
   have:=hd x (by rw[hx];simp)
   unfold Ze at this
   simp
   omega
theorem Aq{a b:BA}(g:XZ a=true)(hb:XZ b=true):KA a b=decide (jI a.data.toList<jI b.data.toList):=by
 obtain⟨d,l,_,h,_⟩:=KD g;obtain⟨f,m,_,i,_⟩:=KD hb;have j:a.data.toList.length=a.size:=by simp
 have k:b.data.toList.length=b.size:=by simp
 unfold KA
 by_cases e:a.size=b.size
 ·rw[zb e]
  have:=tN a.data.toList b.data.toList 0 0 (by omega) d f
  simp only[Nat.lt_irrefl,false_or,true_and] at this;unfold jI;exact bO.2 this.symm
 ·rw[za e]
  by_cases c:a.size<b.size
  ·rw[zF c,zF (tQ d f (by omega) (i (by omega)))]
  ·have:=tQ f d (by omega) (h (by omega))
   rw[zH c,zH (by omega)]
def jo(s:BA):Bool:=decide (0<s.size)&&((s.data.toList.getD 0 0).toNat==45)
def kD(s:BA):BA:=if jo s then s.extract 1 s.size else s
def QH(s:BA):Int:=if jo s then -((jI (kD s).data.toList:Nat):Int) else ((jI (kD s).data.toList:Nat):Int)
def Yy(a b:BA):Bool:=if jo a=jo b then (if jo a then KA (kD b) (kD a) else KA (kD a) (kD b)) else jo a
theorem dO{s:BA}(h:Ref.xB s=true):XZ (kD s)=true/\(jo s=true->Ref.Zj (kD s)=true):=by
 unfold Ref.xB at h
 rcases Bool.or_eq_true_iff.1 h with h|h
 ·have e:s.data.toList=[48]:=by
   have:=JP h
   rwa [QQ] at this
  have b:jo s=false:=by unfold jo;rw[e];simp
  unfold kD;rw[b];refine⟨?_,λh=>by cases h⟩;unfold XZ;simp[h]
 ·cases b:jo s with
  | true=>
   have a:=b;unfold jo at a;simp only[uo,jk,Zz] at a;rw[zb a] at h;unfold kD XZ;rw[b,zb rfl,h]
   simp
  | false=>
   have a:=b;unfold jo at a
   rw[za (by
    rintro ⟨c,d⟩;rw[zF c,d] at a;simp at a)] at h
   unfold kD XZ;rw[b];simp[h]
theorem OE{t:BA}(h:Ref.Zj t=true):0<jI t.data.toList:=by
 have f:=KD (t:=t) (by unfold XZ;simp[h]);obtain⟨hd,g,_,_,_⟩:=f;unfold Ref.Zj at h;simp only[uo,jk,bne_iff_ne] at h;have c:t.data.toList.length=t.size:=by simp
 match hx:t.data.toList with
 | []=>rw[hx] at c;simp at c;omega
 | x::r=>
  have b:=h.1.2;rw[hx] at b;have d:x.toNat≠48:=b;have a:=hd x (by rw[hx];simp);unfold Ze at a;have i:=fQ r (10*0+(x.toNat-48));have e:jI (x::r)=Zg (10*0+(x.toNat-48)) r:=J9 0 x r;have j:1*10 ^ r.length<=(10*0+(x.toNat-48))*10 ^ r.length:=Jw _ (by omega);have k:0<10 ^ r.length:=Nat.pow_pos (by omega);rw[e];omega
theorem TS{a b:BA}(e:Ref.xB a=true)(hb:Ref.xB b=true):Yy a b=decide (QH a<QH b):=by
 obtain⟨c,f⟩:=dO e;obtain⟨d,g⟩:=dO hb;unfold Yy QH
 cases ea:jo a with
 | true=>
  have h:=OE (f ea)
  cases eb:jo b with
  | true=>
   simp only[qO];rw[Aq d c];exact bO.2 (by omega)
  | false=>
   simp only[Bool.true_eq_false,yu,qO,yB];rw[zF (by omega)]
 | false=>
  cases eb:jo b with
  | true=>
   simp only[yB,yu,qO];rw[zH (by omega)]
  | false=>
   simp only[qO,yB,yu];rw[Aq c d];exact bO.2 (by omega)
def yQ(op:BA):Bool:=op.toList==[115,97,109,101]
def jG(op:BA):Bool:=op.toList==[98,101,108,111,119]
def uk(c:Bool×List BA)(word:BA)(r:Ref.Req):Bool:=(c.2.any λp=>Ref.vX p word r) != c.1
def QN(x v:BA):Bool:=(x.toList==v.toList)||(decide (v.size<x.size)&&((x.data.toList.take v.size==v.data.toList)&&((x.data.toList.getD v.size 0).toNat==47)))
def Jd(op x v:BA)(r:Ref.Req):Bool:=
 if Ref.xH op then Ref.vX v x r
 else if yQ op then x.toList==v.toList
 else if jG op then Ref.xB x&&Yy x v
 else QN x v
def YX(op:BA)(vals:List BA)(r:Ref.Req):Option BA->Bool
 | none=>false
 | some x=>vals.any λv=>Jd op x v r
end De
theorem Sw{r:Ref.Req}(h:Ref.yT r=true):r.marks.length<=10:=by
 unfold Ref.yT at h;simp only[uo,jk] at h;exact h.1.2
theorem Jl{s:BA}(h:Ref.vg s=true):s.size<=100/\(Ref.chars s).isSome=true:=by
 unfold Ref.vg at h;simp at h;exact⟨h.2,h.1⟩
theorem AZ{r:Ref.Req}(h:Ref.yT r=true):Ref.vg r.who=true/\Ref.vg r.act=true/\Ref.vg r.on=true:=by
 unfold Ref.yT at h;simp only[uo,jk] at h;exact⟨h.1.1.1.1,h.1.1.1.2,h.1.1.2⟩
theorem Bl{r:Ref.Req}(h:Ref.yT r=true)(n v:BA)(a:Ref.says r n=some v):v.size<=100/\(Ref.chars v).isSome=true:=by
 obtain⟨b,c,d⟩:=AZ h
 have e:r.marks.all Ref.Z8=true:=by
  unfold Ref.yT at h;simp only[uo] at h;exact h.2
 refine Jl ?_;unfold Ref.says at a
 split at a
 ·simp at a;subst a;exact b
 split at a
 ·simp at a;subst a;exact c
 split at a
 ·simp at a;subst a;exact d
 ·unfold Ref.JY at a;obtain⟨m,f,rfl⟩:=vR.1 a
  have:=vP.1 e m (lW f)
  unfold Ref.Z8 at this;simp only[uo] at this;exact this.1.1.1.2
end Go.Proofs.YtagnlbgbnfnapaaGreatDoor
