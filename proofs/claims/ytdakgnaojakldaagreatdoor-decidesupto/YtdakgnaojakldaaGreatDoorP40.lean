/- P -/
import Derived.Test.YtdakgnaojakldaaGreatDoorP39
import Derived.Lib.AppendZeros
open Go.Proofs.Tryz
set_option maxRecDepth 100000
set_option maxHeartbeats 4000000
namespace Go.Proofs.YtdakgnaojakldaaGreatDoor
namespace Kp
def uZ(c:Int)(n:Nat):Nat:=((if c<0 then -(c+1) else c) % (n:Int)).toNat
theorem WE(c:Int)(n:Nat)(h:0<n):uZ c n<n:=by
 unfold uZ;have a:=Int.emod_nonneg (if c<0 then -(c+1) else c) (show (n:Int)≠0 by omega)
 have b:=Int.emod_lt_of_pos (if c<0 then -(c+1) else c) (show (0:Int)<n by omega)
 omega
def bit(st d:Int):Bool:=decide ((st.tdiv d).tmod 2≠0)
def keys:List BY:=[⟨#[119,104,111]⟩,⟨#[100,111]⟩,⟨#[111,110]⟩,⟨#[116,97,103]⟩,⟨#[97,103,101]⟩]
def nums:List BY:=[⟨#[48]⟩,⟨#[56]⟩,⟨#[45,52]⟩,⟨#[49,48,48]⟩]
def Wl:List BY:=[⟨#[]⟩,⟨#[32]⟩,⟨#[10,9]⟩,⟨#[13,32]⟩]
def esc(st:Int)(b:UInt8):BY:=
 if b.toNat=47/\bit st 1=true then ⟨#[92,47]⟩ else if b.toNat=97/\bit st 2=true then ⟨#[92,117,48,48,54,49]⟩ else if b.toNat=42/\bit st 4=true then ⟨#[92,117,48,48,50,65]⟩ else ⟨#[b]⟩
def BB(s:BY)(st:Int):Nat->BY
 | 0=>⟨#[34]⟩
 | k+1=>BB s st k++esc st (s.data.toList.getD k 0)
def Bz(s:BY)(st:Int):BY:=BB s st s.size++⟨#[34]⟩
def gQ(st:Int):BY:=Wl.getD (uZ (st.tdiv 8) 4) ⟨#[]⟩
def Ya(l:List BY)(st:Int):Nat->BY
 | 0=>⟨#[91]⟩++gQ st
 | k+1=>(if 0<k then Ya l st k++⟨#[44]⟩++gQ st else Ya l st k)++Bz (l.getD k ⟨#[]⟩) st
def Vj(l:List BY)(st:Int):BY:=if l.length=1/\bit st 32=true then Bz (l.getD 0 ⟨#[]⟩) st else Ya l st l.length++⟨#[93]⟩++gQ st
end Kp
end Go.Proofs.YtdakgnaojakldaaGreatDoor
namespace Go.Proofs.YtdakgnaojakldaaGreatDoor
open Go.RowKit
def I64(x:Int):Prop:=-9223372036854775808<=x/\x<=9223372036854775807
theorem I64.tdiv{x:Int}(h:I64 x)(d:Nat):I64 (x.tdiv d):=by
 obtain⟨b,c⟩:=h;have e:(x.tdiv d).natAbs=x.natAbs / d:=by rw[Int.natAbs_tdiv];rfl
 have hle:x.natAbs / d<=x.natAbs:=Nat.div_le_self _ _
 by_cases h0:0<=x
 ·have:=Int.tdiv_nonneg h0 (show (0:Int)<=(d:Int) by omega)
  unfold I64;omega
 ·have a:=Int.tdiv_nonneg (show (0:Int) <= -x by omega) (show (0:Int)<=(d:Int) by omega);rw[Int.neg_tdiv] at a;unfold I64;omega
theorem WF(c:Int)(n:Nat)(h:c<0):-(c+1).tmod (n:Int)=(Kp.uZ c n:Int):=by
 unfold Kp.uZ;rw[zb h,<- Int.neg_tmod,Int.tmod_eq_emod_of_nonneg (by omega)];have a:=Int.emod_nonneg (-(c+1)) (b:=(n:Int))
 by_cases hn:(n:Int)=0
 ·rw[hn,Int.emod_zero];omega
 ·have:=a hn;omega
theorem WG(c:Int)(n:Nat)(h:0<=c):c % (n:Int)=(Kp.uZ c n:Int):=by
 unfold Kp.uZ;rw[za (by omega)];have a:=Int.emod_nonneg c (b:=(n:Int))
 by_cases hn:(n:Int)=0
 ·rw[hn,Int.emod_zero];omega
 ·have:=a hn;omega
def Jk(k:Nat):BY:=(⟨#[48,49,50,51,52,53,54,55,56,57]⟩:BY).extract k (k+1)
def K9:Nat->Nat->BY->BY
 | 0,_,s=>s
 | f+1,i,s=>if i / 10=0 then s++Jk (i % 10) else K9 f (i / 10) (s++Jk (i % 10))
def Vk(i:Nat):BY:=K9 (i+1) i ⟨#[40,109,105,110,101,32]⟩
theorem IK{k:Nat}(h:k<10):(Jk k).size=1:=by
 unfold Jk;rw[yz];show min (k+1) 10-k=1;omega
theorem Sy(i:Nat)(w:World)(hi:i<=1000000000) :
  Calls prog 76 #[.int .i64 (i:Int)] w λe w'=>e = .returned (.string (Vk i))/\w'=w:=by
 obtain⟨R,j⟩:=Nm (Vk i);rw[j];unfold Vk at j;have m:=hid j;clear j;go_enter func76,ntmps76
 go_wp2
 go_loopw [0,3] (λq v wr=>∃(k f:Nat) (s:BY),q = .int .i64 (k:Int)/\v = .string s/\k<f/\K9 f k s=R/\s.size+k<=6+i/\k<=i/\wr=w) (λq _ _=>(intOf q).toNat)
 case atStart=>exact⟨i,i+1,_,rfl,rfl,by omega,m.out,by show 6+i<=6+i;omega,zf _,rfl⟩
 case round=>
  obtain⟨k,f,s,rfl,rfl,r,a,u,t,h⟩:=hrel;rw[h];clear h;obtain⟨g,rfl⟩:∃g,f=g+1:=⟨f-1,by omega⟩;rw[K9] at a;have c:=IK (k:=k % 10) (by omega);have b:Jk (k % 10)=(⟨#[48,49,50,51,52,53,54,55,56,57]⟩:BY).extract (k % 10) (k % 10+1):=rfl;have x:(0:Int)<=(k:Int):=qz _
  go_upto_if 15 with fail
  rw[<- b];have p:(s++Jk (k % 10)).size=s.size+1:=by rw[ZJ,c]
  obtain⟨S,n⟩:=Nm (s++Jk (k % 10));rw[n] at a p |-;have o:((k:Int) / 10)=((k / 10:Nat):Int):=rfl
  by_cases hz:k / 10=0
  ·rw[zb hz] at a;have d:((k:Int) / 10==0)=true:=by rw[o,hz];rfl
   rw[d];have l:=hid a;clear a n b c m;go_wp2_with fail;go_ret;exact⟨by rw[<- l.out];rfl,rfl⟩
  ·rw[za hz] at a;have d:((k:Int) / 10==0)=false:=by rw[o];simp;omega
   rw[d];have l:=hid a;clear a n b c m;go_wp2_with fail
   go_roundw
   case rel=>exact⟨k / 10,g,S,by rw[o],rfl,by omega,l.out,by omega,by omega,by trivial⟩
   case measure=>simp[intOf];omega
theorem ig(c:Int)(n:Nat)(w:World)(a:I64 c)(g:0<n)(f:n<=1000000000) :
  Calls prog 68 #[.int .i64 c,.int .i64 (n:Int)] w λe w'=>e = .returned (.int .i64 (Kp.uZ c n:Int))/\w'=w:=by
 obtain⟨b,d⟩:=a
 by_cases h0:c<0
 ·have e:=hid (WF c n h0);go_enter func68,ntmps68
  go_wp2
  go_ret;exact⟨by rw[<- e.out];rfl,rfl⟩
 ·have e:=hid (WG c n (by omega));go_enter func68,ntmps68
  go_wp2
  go_ret;exact⟨by rw[<- e.out];rfl,rfl⟩
def Y9(M:Nat->Prop)(W:World)(v:Value)(z:BY):Prop:=
 ∃a n c,v = .slice a n c/\n<=1000000000/\∀j,j<n->∃b,a=some ⟨b,0,none⟩/\¬M b/\W.cell? ⟨b,j,none⟩=some (.string z)
def Yx(M:Nat->Prop)(W:World)(v:Value)(z:BY):Prop:=
 ∃a c,∃b:Nat->Value,v = .slice (some ⟨a,0,none⟩) 4 c/\¬M a/\∀k,k<4->W.cell? ⟨a,k,none⟩=some (b k)/\Y9 M W (b k) z
def U2(M:Nat->Prop)(W:World)(a:Value)(m:Nat):Prop:=
 ∃b,W.ownsRow 0 183 1 a m b/\∀(i:Nat) (v:Value),b[i]?=some v->Yx M W v (Vk i)
theorem Y9.turn{M:Nat->Prop}{W W':World}{v:Value}{z:BY}(h:Y9 M W v z)(k:zw M W W'):Y9 M W' v z:=by
 obtain⟨a,n,c,e,l,f⟩:=h;exact⟨a,n,c,e,l,λj i=>by obtain⟨d,e,b,g⟩:=f j i;exact⟨d,e,b,k.cell b g⟩⟩
theorem Yx.turn{M:Nat->Prop}{W W':World}{v:Value}{z:BY}(h:Yx M W v z)(k:zw M W W'):Yx M W' v z:=by
 obtain⟨f,c,g,e,d,a⟩:=h;exact⟨f,c,g,e,d,λj b=>⟨k.cell d (a j b).1,(a j b).2.turn k⟩⟩
theorem Y9.more{M M':Nat->Prop}{W:World}{v:Value}{z:BY}(h:Y9 M W v z)(k:∀b,M' b->M b\/W.heap.size<=b):Y9 M' W v z:=by
 obtain⟨a,n,c,e,o,i⟩:=h;refine⟨a,n,c,e,o,λj l=>?_⟩;obtain⟨d,e,m,g⟩:=i j l;have p:d<W.heap.size:=Qe _ _ g;exact⟨d,e,λf=>(k d f).elim m (λx=>by omega),g⟩
theorem Yx.more{M M':Nat->Prop}{W:World}{v:Value}{z:BY}(h:Yx M W v z)(g:∀b,M' b->M b\/W.heap.size<=b):Yx M' W v z:=by
 obtain⟨a,c,l,e,k,d⟩:=h;have m:a<W.heap.size:=Qe _ _ (d 0 (by omega)).1;exact⟨a,c,l,e,λf=>(g a f).elim k (λx=>by omega),λj i=>⟨(d j i).1,(d j i).2.more g⟩⟩
theorem zc7(M:Nat->Prop)(w:World)(J m:Nat)(t:Value)(U:w.cell? ⟨J,1,none⟩=some t)(h:U2 M w t m)(L:m<=1000000000) :
  Calls prog 38 #[.pointer (some ⟨J,1,none⟩)] w λe w'=>e = .returned (.bool true)/\w'=w:=by
 obtain⟨P,b,x⟩:=h;obtain⟨a,c,rfl⟩:=uG b
 have n:∀i,i<m->∃r v,a=some ⟨r,0,none⟩/\w.cell? ⟨r,i,none⟩=some v/\Yx M w v (Vk i):=by
  intro i hi;have Y:=b.1
  rcases b.2 with ⟨e,h0⟩|⟨r,cap,cur,e,_⟩
  ·omega
  ·have o:=World.ownsRow.cellAt (g:=r) (cap:=cap) (by rw[<- e];exact b) i (by omega);injection e with e1 B e3
   have H:=zm (l:=P) (i:=i) (by omega);exact⟨r,_,e1,o.trans H,x i _ H⟩
 have G:=λi (hi:i<=m) W=>Sy i W (xu hi L);have F:=hid n;have E:=hid G;clear n b x G;go_enter func38,ntmps38
 go_wp2
 go_loopw [3,4,5,6] (λC _ _ _ wr=>∃i:Nat,i<=m/\C = .int .i64 i/\wr=w) (λC _ _ _ _=>m-(intOf C).toNat)
 case atStart=>exact⟨0,zH _,rfl,rfl⟩
 case round=>
  obtain⟨i,hi,rfl,f⟩:=hrel;rw[f];clear f
  by_cases hlt:i<m
  ·obtain⟨r,v,rfl,q0,T,lc,vs,rfl,_,q⟩:=F.out i hlt;have p:=E.out i hi;obtain⟨z,I⟩:=Nm (Vk i);simp only[I] at p q;have A:=hid p;have K:=hid q;have Z:(0:Int)<=(i:Int):=qz _;have i1:(i:Int)<(m:Int):=by omega
   clear p q I F E
   go_wp2_with (go_at_call 76;refine (A.out _).mono ?_;rintro e w2 ⟨rfl,B⟩;rw[B];clear B)
   go_loopw [5,6] (λkv _ wr=>∃k:Nat,k<=4/\kv = .int .i64 k/\wr=w) (λkv _ _=>4-(intOf kv).toNat)
   case atStart=>exact⟨0,zH _,rfl,rfl⟩
   case round=>
    obtain⟨k,X,rfl,f⟩:=hrel;rw[f];clear f
    by_cases hlk:k<4
    ·obtain⟨O,Q,y,c2,u,N,o⟩:=K.out k hlk;rw[u] at O;have s:=hid o;have k0:(0:Int)<=(k:Int):=qz _;have k1:(k:Int)<4:=by omega
     clear o u;go_wp2_with fail
     go_loopw [6] (λD wr=>∃j:Nat,j<=y/\D = .int .i64 j/\wr=w) (λD _=>y-(intOf D).toNat)
     case atStart=>exact⟨0,zH _,rfl,rfl⟩
     case round=>
      obtain⟨j,V,rfl,f⟩:=hrel;rw[f];clear f
      by_cases hlj:j<y
      ·obtain⟨S,rfl,_,q2⟩:=s.out j hlj;have j0:(0:Int)<=(j:Int):=qz _;have j1:(j:Int)<(y:Int):=by omega
       have d:(z.toList==z.toList)=true:=by simp
       have R:(z.toList != z.toList)=false:=by simp
       clear s;go_wp2_with fail
       go_roundw
       case rel=>exact⟨j+1,by omega,by go_num,by trivial⟩
       case measure=>simp[intOf];omega
      ·go_wp2_with fail
       go_roundw
       case rel=>exact⟨k+1,by omega,by go_num,by trivial⟩
       case measure=>simp[intOf];omega
    ·go_wp2_with fail
     go_roundw
     case rel=>exact⟨i+1,by omega,by go_num,by trivial⟩
     case measure=>simp[intOf];omega
  ·go_wp2_with fail;go_ret;exact⟨rfl,rfl⟩
theorem gP{N:Nat->Prop}{W W':World}{base:Nat}{e:TypeId}{size:Nat}{v:Value}{n:Nat}{xs:List Value}(h:W.ownsRow base e size v n xs)(k:zw N W W')(c:∀g,v.ownBlock=some g->¬N g):W'.ownsRow base e size v n xs:=by
 obtain⟨b,a⟩:=h;refine⟨b,?_⟩
 rcases a with a|⟨g,cap,cur,hv,hg,hh,h3⟩
 ·exact .inl a
 ·exact .inr ⟨g,cap,cur,hv,hg,(k.block g (zt hh) (c g (by rw[hv];rfl))).trans hh,h3⟩
def Sh(N:Nat->Prop)(W:World)(v:Value)(n:Nat):Prop:=
 ∃a c,v = .slice a n c/\(0<n->∃g cur,a=some ⟨g,0,none⟩/\N g/\W.heap[g]?=some (.cells cur 9 (0,0))/\n<=cur.size)
theorem Sh.of{W:World}{base:Nat}{v:Value}{n:Nat}{xs:List Value}(h:W.ownsRow base 9 1 v n xs){N:Nat->Prop}(a:∀g,v.ownBlock=some g->N g):Sh N W v n:=by
 rcases h.2 with ⟨rfl,h0⟩|⟨g,cap,cur,rfl,_,hg,hnc,_,hcs,_⟩
 ·exact⟨none,0,by rw[h0],λe=>by omega⟩
 ·exact⟨_,_,rfl,λ_=>⟨g,cur,rfl,a g rfl,hg,by omega⟩⟩
theorem Sh.below{N:Nat->Prop}{W W':World}{v:Value}{n:Nat}(h:Sh N W v n)(hb:Below W.heap.size W W'):Sh N W' v n:=by
 obtain⟨a,c,e,h⟩:=h;refine⟨a,c,e,λf=>?_⟩;obtain⟨g,cur,d,j,b,i⟩:=h f;exact⟨g,cur,d,j,(hb.block g (zt b)).trans b,i⟩
theorem Sh.grown{N:Nat->Prop}{W W':World}{v:Value}{n:Nat}(h:Sh N W v n){r:Option Nat}(hb:W.grownBy W' r)(b:∀g,v.ownBlock=some g->some g≠r):Sh N W' v n:=by
 obtain⟨a,c,e,h⟩:=h;refine⟨a,c,e,λi=>?_⟩;obtain⟨g,cur,d,k,f,j⟩:=h i;exact⟨g,cur,d,k,(hb.block g (zt f) (b g (by rw[e,d];rfl))).trans f,j⟩
theorem Sh.set{N:Nat->Prop}{W:World}{v:Value}{n:Nat}(h:Sh N W v n)(d j:Nat)(u:Value):Sh N (W.setCell ⟨d,j,none⟩ u) v n:=by
 obtain⟨a,c,e,h⟩:=h;refine⟨a,c,e,λl=>?_⟩;obtain⟨g,cur,b,k,f,i⟩:=h l
 by_cases eg:g=d
 ·subst eg;exact⟨g,_,b,k,yF W g j _ _ u f,by simp;exact i⟩
 ·exact⟨g,cur,b,k,(qd _ _ _ _ eg).trans f,i⟩
structure Wrote (N:Nat->Prop) (W4 wr:World) (vs:Nat->Value) (ns:Nat->Nat) (z:BY) (K J:Nat):Prop where
 turn:zw N W4 wr
 sh:∀k,k<4->Sh N wr (vs k) (ns k)
 done:∀k j,k<4->j<ns k->(k<K\/(k=K/\j<J))->∃g,(vs k).ownBlock=some g/\wr.cell? ⟨g,j,none⟩=some (.string z)
theorem Wrote.start{N:Nat->Prop}{W:World}{b:Nat->Value}{a:Nat->Nat}{z:BY}(h:∀k,k<4->Sh N W (b k) (a k)):Wrote N W W b a z 0 0:=
 ⟨zw.refl _ _,h,λk j _ _ e=>by omega⟩
theorem Wrote.row{N:Nat->Prop}{b wr:World}{c:Nat->Value}{a:Nat->Nat}{z:BY}{K J:Nat}(h:Wrote N b wr c a z K J)(g:a K<=J):Wrote N b wr c a z (K+1) 0:=
 ⟨h.turn,h.sh,λk j f d e=>h.done k j f d (by
  rcases e with e|⟨_,e⟩
  ·by_cases ek:k=K
   ·subst ek;exact .inr ⟨rfl,by omega⟩
   ·exact .inl (by omega)
  ·omega)⟩
theorem nR(W:World)(g j b c:Nat)(z:BY)(cur:Array Value)(t:TypeId)(d:W.heap[g]?=some (.cells cur t (0,0)))(h:j<cur.size)(a:W.cell? ⟨b,c,none⟩=some (.string z)\/(b=g/\c=j)):(W.setCell ⟨g,j,none⟩ (.string z)).cell? ⟨b,c,none⟩=some (.string z):=by
 by_cases eg:b=g
 ·subst eg;have f:=(zg (yF W b j _ _ (.string z) d) c).1;rw[f,Array.getElem?_setIfInBounds]
  by_cases ej:j=c
  ·rw[zb ej,zb (by omega)]
  ·rw[za ej]
   rcases a with a|⟨_,e⟩
   ·rw[<- a,(zg d c).1]
   ·exact absurd e.symm ej
 ·rcases a with a|⟨e,_⟩
  ·have hb:=qd W ⟨g,j,none⟩ (.string z) b (by exact eg);unfold World.cell? at a |-;rw[hb];exact a
  ·exact absurd e eg
theorem Wrote.next{N:Nat->Prop}{i wr:World}{f:Nat->Value}{d:Nat->Nat}{z:BY}{K J:Nat}(h:Wrote N i wr f d z K J)(s:K<4)(r:J<d K){g:Nat}{cur:Array Value}(m:wr.heap[g]?=some (.cells cur 9 (0,0)))(n:J<cur.size)(q:(f K).ownBlock=some g)(o:N g):Wrote N i (wr.setCell ⟨g,J,none⟩ (.string z)) f d z K (J+1):=by
 refine⟨h.turn.trans (zw.set wr o J _),λk b=>(h.sh k b).set g J _,λk j b a e=>?_⟩
 by_cases e2:k=K/\j=J
 ·obtain⟨rfl,rfl⟩:=e2;exact⟨g,q,nR wr g j g j z cur _ m n (.inr ⟨rfl,rfl⟩)⟩
 ·obtain⟨l,c,p⟩:=h.done k j b a (by omega);exact⟨l,c,nR wr g J l j z cur _ m n (.inl p)⟩
structure xY where
 ob:Nat
 cb:Nat
 lv:Value
 st:StO
 ks:List zC
def Zu(a:List xY):List Value:=a.flatMap λp=>[.pointer (some ⟨p.ob,0,none⟩),.pointer (some ⟨p.cb,0,none⟩)]
theorem nS:∀{a:List xY} {i:Nat} {p:xY},a[i]?=some p->(Zu a)[i*2]?=some (.pointer (some ⟨p.ob,0,none⟩))/\(Zu a)[i*2+1]?=some (.pointer (some ⟨p.cb,0,none⟩))
 | [],i,p,h=>by simp at h
 | q::r,0,p,h=>by
  simp only[yV,Option.some.injEq] at h;subst h;exact⟨rfl,rfl⟩
 | q::r,i+1,p,h=>by
  simp only[uM] at h;have b:=nS h;have e:Zu (q::r) = .pointer (some ⟨q.ob,0,none⟩) :: .pointer (some ⟨q.cb,0,none⟩)::Zu r:=rfl;rw[e,show (i+1)*2=i*2+1+1 by omega];simp only[uM];exact b
theorem FY(a:List xY)(p:xY):Zu (a++[p])=Zu a++[.pointer (some ⟨p.ob,0,none⟩),.pointer (some ⟨p.cb,0,none⟩)]:=by
 unfold Zu
 simp
theorem dH:∀{a:List xY} {i:Nat} {p q:xY},a[i]?=some p->q.ob=p.ob->q.cb=p.cb->Zu (a.set i q)=Zu a
 | [],i,p,q,h,_,_=>by simp at h
 | x::r,0,p,q,h,e1,e2=>by
  simp only[yV,Option.some.injEq] at h;subst h;unfold Zu;simp only[List.set_cons_zero,List.flatMap_cons,e1,e2]
 | x::r,i+1,p,q,h,e1,e2=>by
  simp only[uM] at h;have b:=dH h e1 e2;unfold Zu at b |-;simp only[Kh,List.flatMap_cons,b]
theorem Vv{w:World}{base:Nat}{t:TypeId}{size:Nat}{v:Value}{n:Nat}{xs:List Value}(h:w.ownsRow base t size v n xs):∀g,v.ownBlock=some g->g<w.heap.size:=λg a=>by
 rcases h.2 with ⟨rfl,_⟩|⟨g2,cap2,cur,rfl,hbg,hg2,_⟩
 ·cases a
 ·have:g2=g:=by simpa [Value.ownBlock] using a
  subst this;exact zt hg2
def Lm(L:Nat->Nat):Nat->Prop:=λb=>L b≠0
structure yw (w0:World) (L:Nat->Nat) (W:World) (yb:Nat) (psv bkv:Value) (ps:List xY) (m:Nat):Prop where
 low:Below w0.heap.size w0 W
 base:∀b,L b≠0->w0.heap.size<=b/\b<W.heap.size
 play:W.heap[yb]?=some (.cells #[psv,bkv] 89)
 lyb:L yb=1
 row:W.ownsRow 0 175 2 psv ps.length (Zu ps)
 lps:∀g,psv.ownBlock=some g->L g=2
 book:U2 (Lm L) W bkv m
 lbk:∀g,bkv.ownBlock=some g->L g=3
 off:∀i p,ps[i]?=some p->xw (Lm L) W p.ob p.st/\L p.ob=10+3*i
 ref:∀i p,ps[i]?=some p->xN (Lm L) W p.cb p.lv p.ks/\L p.cb=11+3*i/\∀g,p.lv.ownBlock=some g->L g=12+3*i
structure Goes (L L':Nat->Nat) (S:Nat->Prop) (W W':World):Prop where
 turn:zw (λb=>S (L b)) W W'
 zero:¬S 0
 old:∀b,b<W.heap.size->L' b=L b
 new:∀b,L' b≠0->b<W'.heap.size
section
variable {L L':Nat->Nat} {S:Nat->Prop} {W W':World}
theorem Goes.more(g:Goes L L' S W W'):∀b,Lm L' b->Lm L b\/W.heap.size<=b:=λb hb=>by
 by_cases h:b<W.heap.size
 ·exact .inl (by unfold Lm at hb |-;rw[g.old b h] at hb;exact hb)
 ·exact .inr (by omega)
theorem Goes.turnM(g:Goes L L' S W W'):zw (Lm L') W W':=g.turn.wide (λk b a=>by
 show L' k≠0;rw[g.old k b];intro e;simp only[e] at a;exact g.zero a)
theorem Goes.far(g:Goes L L' S W W'){b c:Nat}(hb:b<W.heap.size)(d:L b=c)(a:¬S c):W'.heap[b]?=W.heap[b]?:=
 g.turn.block b hb (by show ¬S (L b);rw[d];exact a)
theorem Goes.mine(g:Goes L L' S W W'){b:Nat}(hb:b<W.heap.size)(h:Lm L b):Lm L' b:=by
 unfold Lm at h |-;rw[g.old b hb];exact h
theorem Goes.office(g:Goes L L' S W W'){ob:Nat}{st:StO}{c:Nat}(h:xw (Lm L) W ob st)(d:L ob=c)(f:¬S c):xw (Lm L') W' ob st/\L' ob=c:=by
 obtain⟨j,b,e⟩:=h.row;have a:=zt b;exact⟨⟨g.mine a h.mine,⟨j,(g.far a d f).trans b,λi hi=>((e i hi).more g.more).turn g.turnM⟩,h.good⟩,(g.old ob a).trans d⟩
theorem Goes.ref(g:Goes L L' S W W'){cb:Nat}{lv:Value}{ks:List zC}{c d:Nat}(h:xN (Lm L) W cb lv ks)(f:L cb=c)(i:∀g,lv.ownBlock=some g->L g=d)(l:¬S c)(k:¬S d):xN (Lm L') W' cb lv ks/\L' cb=c/\∀g,lv.ownBlock=some g->L' g=d:=by
 obtain⟨xs,e,j⟩:=h.rows;have b:=zt h.cell;have hb:=Vv e;refine⟨⟨g.mine b h.mine,(g.far b f l).trans h.cell,⟨xs,gP e g.turn (λx a=>?_),(j.more g.more).turn g.turnM⟩,λx a=>⟨g.mine (hb x a) (h.own x a).1,(h.own x a).2⟩⟩,(g.old cb b).trans f,λx a=>(g.old x (hb x a)).trans (i x a)⟩;show ¬S (L x);rw[i x a];exact k
theorem Goes.book(g:Goes L L' S W W'){a:Value}{m c:Nat}(h:U2 (Lm L) W a m)(e:∀g,a.ownBlock=some g->L g=c)(j:¬S c):U2 (Lm L') W' a m/\∀g,a.ownBlock=some g->L' g=c:=by
 obtain⟨l,d,f⟩:=h;have hb:=Vv d;refine⟨⟨l,gP d g.turn (λx b=>?_),λi v k=>((f i v k).more g.more).turn g.turnM⟩,λx b=>(g.old x (hb x b)).trans (e x b)⟩;show ¬S (L x);rw[e x b];exact j
theorem Goes.row(g:Goes L L' S W W'){t:TypeId}{size:Nat}{v:Value}{n c:Nat}{xs:List Value}(h:W.ownsRow 0 t size v n xs)(b:∀g,v.ownBlock=some g->L g=c)(d:¬S c):W'.ownsRow 0 t size v n xs/\∀g,v.ownBlock=some g->L' g=c:=by
 have hb:=Vv h;refine⟨gP h g.turn (λx a=>?_),λx a=>(g.old x (hb x a)).trans (b x a)⟩;show ¬S (L x);rw[b x a];exact d
theorem Goes.low{a:World}(g:Goes L L' S W W')(h:Below a.heap.size a W)(hb:∀b,L b≠0->a.heap.size<=b/\b<W.heap.size):Below a.heap.size a W'/\∀b,L' b≠0->a.heap.size<=b/\b<W'.heap.size:=by
 refine⟨h.trans (g.turn.below (λk f d=>?_) h.size),λb c=>⟨?_,g.new b c⟩⟩
 ·have:L k≠0:=λe=>by
   simp only[e] at d;exact g.zero d
  have:=(hb k this).1
  omega
 ·rcases g.more b c with e|e
  ·exact (hb b e).1
  ·have:=h.size;omega
end
structure jH (L L':Nat->Nat) (W W':World):Prop where
 size:W.heap.size<=W'.heap.size
 keep:∀b,b<W.heap.size->L b=0->W'.heap[b]?=W.heap[b]?
 old:∀b,b<W.heap.size->L' b=L b
theorem Goes.stay{L L':Nat->Nat}{S:Nat->Prop}{W W':World}(g:Goes L L' S W W'):jH L L' W W':=⟨g.turn.size,λ_ hb a=>g.far hb a g.zero,g.old⟩
theorem jH.of{L:Nat->Nat}{W W':World}(h:Below W.heap.size W W'):jH L L W W':=⟨h.size,λb hb _=>h.block b hb,λ_ _=>rfl⟩
theorem jH.trans{L L' a:Nat->Nat}{A B C:World}(h:jH L L' A B)(k:jH L' a B C):jH L a A C:=
 ⟨xu h.size k.size,λb hb c=>(k.keep b (xS hb h.size) ((h.old b hb).trans c)).trans (h.keep b hb c),λb hb=>(k.old b (xS hb h.size)).trans (h.old b hb)⟩
theorem yw.below{j:World}{L:Nat->Nat}{W W':World}{k:Nat}{d c:Value}{f:List xY}{m:Nat}(h:yw j L W k d c f m)(hb:Below W.heap.size W W'):yw j L W' k d c f m:=by
 have g:Goes L L (λ_=>False) W W':=⟨zw.of hb,id,λ_ _=>rfl,λb e=>xS (h.base b e).2 hb.size⟩
 exact⟨(g.low h.low h.base).1,(g.low h.low h.base).2,(g.far (zt h.play) h.lyb id).trans h.play,h.lyb,(g.row h.row h.lps id).1,h.lps,(g.book h.book h.lbk id).1,h.lbk,
  λi p a=>g.office (h.off i p a).1 (h.off i p a).2 id,λi p a=>g.ref (h.ref i p a).1 (h.ref i p a).2.1 (h.ref i p a).2.2 id id⟩
theorem yw.offSet{u:World}{L:Nat->Nat}{W W':World}{v:Nat}{l d:Value}{o:List xY}{m:Nat}(h:yw u L W v l d o m){i:Nat}{p:xY}(c:o[i]?=some p)(t:zw (λb=>b=p.ob) W W'){st:StO}(w:xw (Lm L) W' p.ob st):jH L L W W'/\yw u L W' v l d (o.set i { p with st:=st }) m:=by
 have s:=(h.off i p c).2;have g:Goes L L (λn=>n=10+3*i) W W':=⟨t.wide (λk _ e=>by show L k=_;rw[e];exact s),by omega,λ_ _=>rfl,λb r=>xS (h.base b r).2 t.size⟩;have f:i<o.length:=(zW.1 c).1;refine⟨g.stay,(g.low h.low h.base).1,(g.low h.low h.base).2,(g.far (zt h.play) h.lyb (by omega)).trans h.play,h.lyb,?_,h.lps,(g.book h.book h.lbk (by omega)).1,h.lbk,λj q a=>?_,λj q a=>?_⟩
 ·rw[dH (q:={ p with st:=st }) c rfl rfl,Zn]
  exact (g.row h.row h.lps (by omega)).1
 ·rw[zq] at a
  by_cases e:i=j
  ·subst e;rw[zb rfl,zb f] at a;injection a with a
   subst a;exact⟨w,s⟩
  ·rw[za e] at a;exact g.office (h.off j q a).1 (h.off j q a).2 (by omega)
 ·rw[zq] at a
  by_cases e:i=j
  ·subst e;rw[zb rfl,zb f] at a;injection a with a
   subst a;exact g.ref (h.ref i p c).1 (h.ref i p c).2.1 (h.ref i p c).2.2 (by omega) (by omega)
  ·rw[za e] at a;exact g.ref (h.ref j q a).1 (h.ref j q a).2.1 (h.ref j q a).2.2 (by omega) (by omega)
def lab(L:Nat->Nat)(v:Value)(n:Nat):Nat->Nat:=λb=>if v.ownBlock=some b then n else L b
theorem Ru(L:Nat->Nat)(v:Value){n:Nat}(a:n≠0):Lm (lab L v n)=vR (Lm L) v:=by
 funext b
 unfold Lm lab vR
 by_cases e:v.ownBlock=some b
 ·simp[e,a]
 ·simp[e]
theorem sW{L:Nat->Nat}{v:Value}{n:Nat}{W:World}(h:∀g,v.ownBlock=some g->L g=n\/W.heap.size<=g):∀b,b<W.heap.size->lab L v n b=L b:=λb hb=>by
 unfold lab
 by_cases e:v.ownBlock=some b
 ·rw[zb e]
  rcases h b e with h|h
  ·exact h.symm
  ·omega
 ·rw[za e]
theorem sV{L:Nat->Nat}{v:Value}{n:Nat}:∀g,v.ownBlock=some g->lab L v n g=n:=λg a=>by unfold lab;rw[zb a]
theorem yw.refSet{B:World}{L:Nat->Nat}{W W':World}{w:Nat}{o d:Value}{r:List xY}{m:Nat}(h:yw B L W w o d r m){i:Nat}{p:xY}(l:r[i]?=some p)(A:zw (λb=>b=p.cb\/p.lv.ownBlock=some b) W W'){v:Value}{ks:List zC}(z:xN (vR (Lm L) v) W' p.cb v ks)(E:∀g,v.ownBlock=some g->p.lv.ownBlock=some g\/W.heap.size<=g):∃L',jH L L' W W'/\yw B L' W' w o d (r.set i { p with lv:=v,ks:=ks }) m:=by
 obtain⟨D,y,x⟩:=h.ref i p l;have t:∀g,v.ownBlock=some g->L g=12+3*i\/W.heap.size<=g:=λg C=>(E g C).imp (x g) id;obtain⟨xs,u,_⟩:=z.rows;have s:=Vv u
 have g:Goes L (lab L v (12+3*i)) (λn=>n=11+3*i\/n=12+3*i) W W':=⟨A.wide (λk _ e=>by
  show L k=_\/L k=_
  rcases e with e|e
  ·rw[e];exact .inl y
  ·exact .inr (x k e)),by omega,sW t,λb c=>by
   unfold lab at c
   by_cases e:v.ownBlock=some b
   ·exact s b e
   ·rw[za e] at c;exact xS (h.base b c).2 A.size⟩
 have f:i<r.length:=(zW.1 l).1;refine⟨_,g.stay,(g.low h.low h.base).1,(g.low h.low h.base).2,(g.far (zt h.play) h.lyb (by omega)).trans h.play,(g.old w (zt h.play)).trans h.lyb,?_,(g.row h.row h.lps (by omega)).2,(g.book h.book h.lbk (by omega)).1,(g.book h.book h.lbk (by omega)).2,λj q a=>?_,λj q a=>?_⟩
 ·rw[dH (q:={ p with lv:=v,ks:=ks }) l rfl rfl,Zn]
  exact (g.row h.row h.lps (by omega)).1
 ·rw[zq] at a
  by_cases e:i=j
  ·subst e;rw[zb rfl,zb f] at a;injection a with a
   subst a;exact g.office (h.off i p l).1 (h.off i p l).2 (by omega)
  ·rw[za e] at a;exact g.office (h.off j q a).1 (h.off j q a).2 (by omega)
 ·rw[zq] at a
  by_cases e:i=j
  ·subst e;rw[zb rfl,zb f] at a;injection a with a
   subst a;exact⟨by rw[Ru L v (by omega)];exact z,(g.old p.cb (zt D.cell)).trans y,sV⟩
  ·rw[za e] at a;exact g.ref (h.ref j q a).1 (h.ref j q a).2.1 (h.ref j q a).2.2 (by omega) (by omega)
theorem xw.fresh{M M':Nat->Prop}{W W':World}{ob:Nat}(h:xw M W ob QK)(hb:W'.heap[ob]?=W.heap[ob]?)(f:M' ob):xw M' W' ob QK:=by
 obtain⟨n,b,d⟩:=h.row;refine⟨f,⟨n,hb.trans b,λi hi=>?_⟩,h.good⟩;obtain⟨a,c,e,j,l,m,_⟩:=d i hi;exact⟨a,c,e,j,l,m,λk x g=>by simp[QK] at g⟩
theorem yw.pairAdd{N:World}{L:Nat->Nat}{W D W':World}{y:Nat}{p psv' i:Value}{c:List xY}{m:Nat}(h:yw N L W y p i c m){ob cb:Nat}{M:Nat->Prop}(F:xw M D ob QK)(u:W'.heap[ob]?=D.heap[ob]?)(R:W.heap.size<=ob)(r:W'.heap[cb]?=some (.cells #[.slice none 0 0] 173))(E:W.heap.size<=cb)(z:ob≠cb)
  (H:zw (λb=>b=y\/p.ownBlock=some b) W W')(Q:W'.heap[y]?=some (.cells #[psv',i] 89))(G:W'.ownsRow 0 175 2 psv' (c.length+1) (Zu c++[.pointer (some ⟨ob,0,none⟩),.pointer (some ⟨cb,0,none⟩)]))(I:∀g,psv'.ownBlock=some g->p.ownBlock=some g\/(W.heap.size<=g/\g≠ob/\g≠cb)) :
  ∃L',jH L L' W W'/\yw N L' W' y psv' i (c++[⟨ob,cb,.slice none 0 0,QK,[]⟩]) m:=by
 have B:∀g,psv'.ownBlock=some g->L g=2\/W.heap.size<=g:=λg t=>(I g t).imp (h.lps g) (λx=>x.1);have A:=Vv G;obtain⟨S,v,_⟩:=F.row;have w:=zt (u.trans v);have s:=zt r;refine⟨λb=>if b=ob then 10+3*c.length else if b=cb then 11+3*c.length else lab L psv' 2 b,?_⟩
 obtain⟨L',d⟩:∃L',L'=λb=>if b=ob then 10+3*c.length else if b=cb then 11+3*c.length else lab L psv' 2 b:=⟨_,rfl⟩
 rw[<- d];have lo:L' ob=10+3*c.length:=by rw[d];simp
 have K:L' cb=11+3*c.length:=by rw[d];simp[Ne.symm z]
 have C:∀b,b≠ob->b≠cb->L' b=lab L psv' 2 b:=λb O P=>by rw[d];simp[O,P]
 have g:Goes L L' (λn=>n=1\/n=2) W W':=⟨H.wide (λk _ e=>by
  show L k=_\/L k=_
  rcases e with e|e
  ·rw[e];exact .inl h.lyb
  ·exact .inr (h.lps k e)),by omega,λb hb=>by
   rw[C b (by omega) (by omega)];exact sW B b hb,λb f=>by
   by_cases e1:b=ob
   ·rw[e1];exact w
   ·by_cases e2:b=cb
    ·rw[e2];exact s
    ·rw[C b e1 e2] at f;unfold lab at f
     by_cases e:psv'.ownBlock=some b
     ·exact A b e
     ·rw[za e] at f;exact xS (h.base b f).2 H.size⟩
 refine⟨g.stay,(g.low h.low h.base).1,(g.low h.low h.base).2,Q,(g.old y (zt h.play)).trans h.lyb,?_,λx J=>?_,(g.book h.book h.lbk (by omega)).1,(g.book h.book h.lbk (by omega)).2,λj q a=>?_,λj q a=>?_⟩
 ·rw[FY,qB];exact G
 ·have:x≠ob/\x≠cb:=by
   rcases I x J with e|e
   ·have:=Vv h.row x e
    exact⟨by omega,by omega⟩
   ·exact e.2
  rw[C x this.1 this.2];exact sV x J
 ·by_cases hj:j<c.length
  ·rw[yc hj] at a;exact g.office (h.off j q a).1 (h.off j q a).2 (by omega)
  ·have o:=(zW.1 a).1;simp at o;have l:j=c.length:=by omega
   subst l;rw[yA (zf _)] at a;simp at a;subst a;exact⟨F.fresh u (by unfold Lm;rw[lo];omega),lo⟩
 ·by_cases hj:j<c.length
  ·rw[yc hj] at a;exact g.ref (h.ref j q a).1 (h.ref j q a).2.1 (h.ref j q a).2.2 (by omega) (by omega)
  ·have o:=(zW.1 a).1;simp at o;have l:j=c.length:=by omega
   subst l;rw[yA (zf _)] at a;simp at a;subst a;exact⟨⟨by unfold Lm;rw[K];omega,r,⟨[],ql _ _ _ _,xx.nil⟩,λg t=>by cases t⟩,K,λg t=>by cases t⟩
theorem Uv{st:StO}{ks:List zC}(h:Agree st ks){i:Nat}(hi:i<4){name:BY}(b:ks.findIdx? (isR (i:Int) name)=none):zn (st i) name=false:=by
 cases e:zn (st i) name with
 | false=>rfl
 | true=>
  obtain⟨k,a⟩:=(h.has hi).1 e;rw[b] at a
  cases a
theorem WW{st:StO}{ks:List zC}(h:Agree st ks){l:Int}{name text:BY}{M:Nat->Prop}{cb:Nat}{lv:Value}{w w':World}{e:Ending}(q:bW ks l name text M cb lv w e w') :
  ∃m a,e = .returned (.tuple #[.int .i64 (Ze st l name text).1,.int .i64 ((Ze st l name text).2:Int)])/\zw (λb=>b=cb\/lv.ownBlock=some b) w w'/\xN (vR M m) w' cb m a/\(∀g,m.ownBlock=some g->lv.ownBlock=some g\/w.heap.size<=g)/\Agree (ZA st l name text) a:=by
 obtain⟨E,A,m,a,f,s,_,r,p,c1,c2,c3,c4⟩:=q;refine⟨m,a,?_,s,r,p,?_⟩
 all_goals
  by_cases hpl:xL l name=0
  ·by_cases hd:(Rd.xy text).1=0
   ·obtain⟨i,rfl,hi,j⟩:=ay hpl
    cases hf:ks.findIdx? (isR (i:Int) name) with
    | some k=>
     obtain⟨rfl,rfl,rfl⟩:=c3 hpl hd k hf;have c:=(h.has hi).2 ⟨k,hf⟩
     first
      | (rw[f];unfold Ze;rw[zb hpl,zb hd,jU,c];rfl)
      | (unfold ZA Yi;rw[jU,c,zy hpl,zy hd];exact h.set hi j hd hf)
    | none=>
     obtain⟨out,n,o⟩:=c4 hpl hd hf;have c:=Uv h hi hf;have hlen:(st i).length=out.length:=by rw[h.layer hi n,qH]
     rcases o with ⟨h4,rfl,rfl,rfl⟩|⟨h4,rfl,rfl,rfl⟩
     ·have d:decide ((st i).length<4)=false:=zJ (by omega)
      first
       | (rw[f];unfold Ze;rw[zb hpl,zb hd,jU,c,d];rfl)
       | (unfold ZA Yi;rw[jU,c,d,zy hpl,zy hd];exact h)
     ·have d:decide ((st i).length<4)=true:=zy (by omega)
      first
       | (rw[f];unfold Ze;rw[zb hpl,zb hd,jU,c,d];rfl)
       | (unfold ZA Yi;rw[jU,c,d,zy hpl,zy hd];exact h.add hi j hd hf)
   ·obtain⟨rfl,rfl,rfl⟩:=c2 hpl hd
    first
     | (rw[f];unfold Ze;rw[zb hpl,za hd])
     | (unfold ZA Yi;rw[zy hpl,zJ hd];exact h)
  ·obtain⟨rfl,rfl,rfl⟩:=c1 hpl
   first
    | (rw[f];unfold Ze;(rw[za hpl]<;>rfl))
    | (unfold ZA Yi;rw[zJ hpl];exact h)
theorem LF{st:StO}{ks:List zC}(h:Agree st ks){l:Int}{name:BY}{M:Nat->Prop}{cb:Nat}{lv:Value}{w w':World}{e:Ending}(o:bJ ks l name M cb lv w e w') :
  ∃d a,e = .returned (.int .i64 (X6 st l name))/\zw (λb=>b=cb\/lv.ownBlock=some b) w w'/\xN (vR M d) w' cb d a/\(∀g,d.ownBlock=some g->lv.ownBlock=some g\/w.heap.size<=g)/\Agree (X7 st l name) a:=by
 obtain⟨E,d,a,f,q,_,p,j,c1,c2,c3⟩:=o;refine⟨d,a,?_,q.wide (λ_ _ e => .inl e),p,λg m=>?_,?_⟩
 rotate_left
 ·rcases j with rfl|j
  ·exact .inl m
  ·exact .inr (j g m)
 all_goals
  by_cases hpl:xL l name=0
  ·obtain⟨i,rfl,hi,n⟩:=ay hpl
   cases hf:ks.findIdx? (isR (i:Int) name) with
   | some k=>
    obtain⟨rfl,rfl⟩:=c3 hpl k hf;have c:=(h.has hi).2 ⟨k,hf⟩
    first
     | (rw[f];unfold X6;rw[zb hpl,jU,c];rfl)
     | (unfold X7;rw[jU,zb ⟨hpl,c⟩];exact h.less hi hf)
   | none=>
    obtain⟨rfl,rfl⟩:=c2 hpl hf;have c:=Uv h hi hf
    first
     | (rw[f];unfold X6;rw[zb hpl,jU,c];rfl)
     | (unfold X7;rw[jU,c,za (by simp)];exact h)
  ·obtain⟨rfl,rfl⟩:=c1 hpl
   first
    | (rw[f];unfold X6;rw[za hpl])
    | (unfold X7;rw[za (λx=>hpl x.1)];exact h)
def kI(a:List xY):Prop:=∀(i:Nat) (p:xY),a[i]?=some p->Agree p.st p.ks
theorem kI.set{b:List xY}(h:kI b)(i:Nat){q:xY}(c:Agree q.st q.ks):kI (b.set i q):=λj p a=>by
 rw[zq] at a
 by_cases e:i=j
 ·rw[zb e] at a
  split at a
  ·injection a with a
   subst a;exact c
  ·cases a
 ·rw[za e] at a;exact h j p a
theorem kI.add{b:List xY}(h:kI b){q:xY}(e:Agree q.st q.ks):kI (b++[q]):=λj p a=>by
 by_cases hj:j<b.length
 ·rw[yc hj] at a;exact h j p a
 ·have d:=(zW.1 a).1;simp at d;have c:j=b.length:=by omega
  subst c;rw[yA (zf _)] at a;simp at a;subst a;exact e
def JZ(d:World)(L:Nat->Nat)(w:World)(f n m:Nat)(e:Ending)(w':World):Prop:=
 ∃L' c b a m',e = .returned (.bool true)/\jH L L' w w'/\yw d L' w' f c b a m'/\kI a/\n<=a.length/\a.length<=n+1/\m'<=m+1/\0<a.length
def Yf(k a l:Int)(name text who act on:BY)(ma:Option Addr)(mn mc:Nat):Value := .agg #[.int .i64 k,.int .i64 a,.int .i64 l,.string name,.string text,.string who,.string act,.string on,.slice ma mn mc]
theorem yw.pick{t:World}{L:Nat->Nat}{W:World}{l:Nat}{b d:Value}{a:List xY}{m:Nat}(h:yw t L W l b d a m)(c:Int)(r:0<a.length):∃g s p,b = .slice (some ⟨g,0,none⟩) a.length s/\Kp.uZ c a.length<a.length/\a[Kp.uZ c a.length]?=some p/\W.cell? ⟨l,0,none⟩=some b/\W.cell? ⟨g,Kp.uZ c a.length*2,none⟩=some (.pointer (some ⟨p.ob,0,none⟩))/\W.cell? ⟨g,Kp.uZ c a.length*2+1,none⟩=some (.pointer (some ⟨p.cb,0,none⟩))/\W.cell? ⟨l,1,none⟩=some d:=by
 have k:Kp.uZ c a.length<a.length:=Kp.WE c a.length r;have q:=zm k;have n:=(zg h.play 0).1;have f:=(zg h.play 1).1;simp at n f;have o:=nS q
 rcases h.row.2 with ⟨_,h0⟩|⟨g,cap,cur,e,_⟩
 ·omega
 ·have j:=λi hi=>World.ownsRow.cellAt (g:=g) (cap:=cap) (by rw[<- e];exact h.row) i hi;exact⟨g,cap,_,e,k,q,n,(j _ (by omega)).trans o.1,(j _ (by omega)).trans o.2,f⟩
theorem gT{k:World}{L:Nat->Nat}{W:World}{l:Nat}{g c:Value}{f:List xY}{m:Nat}(h:yw k L W l g c f m)(d:kI f){i:Nat}{p:xY}(j:f[i]?=some p):p.ks.length<=16/\(∀x ∈ p.ks,x.name.size<=maxLen)/\(∀x ∈ p.ks,x.rs.length<=10/\∀r ∈ x.rs,Ref.Jc r)/\Agree p.st p.ks:=by
 have a:=d i p j;refine⟨a.few (λi hi=>((h.off _ p j).1.good i hi).2.1),λx b=>?_,λx b=>⟨(a.ok x b).2.1,(a.ok x b).2.2.1⟩,a⟩
 have:=(a.ok x b).1
 by_cases e:1<=x.name.size/\x.name.size<=12
 ·unfold maxLen;omega
 ·rw[Ref.Uw _ e] at this
  cases this
theorem Cy(w0:World)(aL:Addr)(hC:Qu w0 aL)(L:Nat->Nat)(w:World)(yb:Nat)(c1 b4:Value)(t:List xY)(m:Nat)(h:yw w0 L w yb c1 b4 t m)(B:kI t)(r:0<t.length)(b8:t.length<=100000000)(a l:Int)(name text who act on:BY)(ma:Option Addr)(mn mc:Nat)(hA:I64 a)(hs:name.size<=maxLen)(ht:text.size<=maxLen) :
  Calls prog 37 #[.pointer (some ⟨yb,0,none⟩),Yf 2 a l name text who act on ma mn mc] w (JZ w0 L w yb t.length m):=by
 unfold Yf;obtain⟨f,k⟩:∃W,w.alloc (.cells #[.int .i64 2,.int .i64 a,.int .i64 l,.string name,.string text,.string who,.string act,.string on,.slice ma mn mc] 91)=W:=⟨_,rfl⟩;have b1:Below w.heap.size w f:=by rw[<- k];exact nbl w _
 have o:f.heap[w.heap.size]?=some (.cells #[.int .i64 2,.int .i64 a,.int .i64 l,.string name,.string text,.string who,.string act,.string on,.slice ma mn mc] 91):=by rw[<- k];exact zB w _
 have h1:=h.below b1;obtain⟨g,pc,p,rfl,R,C,O,Q,P,b6⟩:=h1.pick a r;have Z:=(zg o 0).1;have k1:=(zg o 1).1;simp at Z k1;have Y:=λW=>ig a t.length W hA r (by omega);obtain⟨n,hn⟩:∃x,t.length=x:=⟨_,rfl⟩;obtain⟨i,hi⟩:∃x,Kp.uZ a t.length=x:=⟨_,rfl⟩;simp only[hi] at C Q P R Y;have c:=λb (hb:L b≠0)=>(h.base b hb).2;have c0:=(h.off i p C).2;have b9:=(h.ref i p C).2.1;have T:=(h.ref i p C).2.2;have f8:p.ob<w.heap.size:=c _ (by omega);have e6:p.cb<w.heap.size:=c _ (by omega);have U:∀g,p.lv.ownBlock=some g->g<w.heap.size:=λg hg=>c _ (by have:=T g hg;omega);have v:=hid (gT h B C);simp only[hn] at R r b8 O Y |-;have CP:=hid Y;have HN:=hid hn;have HP:=hid C;have H1:=hid h1;have u:=hid o;have a2:=hid B;have K:=hid k;have a3:=hid b1;have e1:=hid U;have a4:=hid c;have i0:(0:Int)<=(i:Int):=qz _;have i1:(i:Int)<(n:Int):=by omega
 have f3:((n:Int)==0)=false:=by simp;omega
 clear Y hn hi C h1 o B k b1 h U c c0 b9 T;go_enter func37,ntmps37
 go_upto_region 1 with fail
 rw[K.out];clear K
 go_upto_region 16 with fail
 go_cut [6] (λv6 wc=>v6 = .pointer (some ⟨f.heap.size,0,none⟩)/\wc=(f.alloc (.cells #[.pointer (some ⟨p.ob,0,none⟩),.pointer (some ⟨p.cb,0,none⟩)] 175)).drew)
 case first=>
  go_region_held3 (λw'=>w'.cell? ⟨yb,0,none⟩=some (.slice (some ⟨g,0,none⟩) n pc)/\w'.cell? ⟨w.heap.size,1,none⟩=some (.int .i64 a)/\w'.cell? ⟨g,i*2,none⟩=some (.pointer (some ⟨p.ob,0,none⟩))/\w'.cell? ⟨g,i*2+1,none⟩=some (.pointer (some ⟨p.cb,0,none⟩))) (go_keep) (first|(go_at_call 68;refine (CP.out _).mono ?_;rintro e w3 ⟨rfl,e3⟩;rw[e3];clear e3))
  all_goals
   go_wp2_with fail
   go_meet
   case rel=>exact⟨rfl,rfl⟩
 case rest=>
  obtain⟨rfl,F⟩:=hcut;have X:Below f.heap.size f wc:=by rw[F];exact (nbl f _).drew
  have q:wc.heap[f.heap.size]?=some (.cells #[.pointer (some ⟨p.ob,0,none⟩),.pointer (some ⟨p.cb,0,none⟩)] 175):=by rw[F];exact zB f _
  clear F CP O Q P b6 Z k1;have y:=hid (H1.out.below X);have d:=(X.block _ (zt u.out)).trans u.out;have g8:w.heap.size<f.heap.size:=zt u.out;have g9:f.heap.size<wc.heap.size:=zt q;have a9:Hid (jH L L w wc):=hid ((jH.of a3.out).trans (jH.of X));have H:Hid (∀b,Lm L b->b<w.heap.size):=hid a4.out;have p0:=(zg q 0).1;have Z:=(zg d 0).1;have k2:=(zg d 2).1;have k3:=(zg d 3).1;have k4:=(zg d 4).1;simp at p0 Z k2 k3 k4;have I:=hid q;have M:=hid d;clear q d X;have j:=WV p.ob p.st l name text (Lm L) aL wc (hC.below y.out.low) (y.out.off i p HP.out).1 (λb hb=>Nat.lt_trans (H.out b hb) (by omega)) hs;have N:=λ(W:World) (hz:wc.heap.size<=W.heap.size) (hr:xN (Lm L) W p.cb p.lv p.ks)=>WU p.cb p.lv p.ks l name text (Lm L) W hr (by have:=v.out.1;omega) v.out.2.1 hs ht (λb hb=>xS (Nat.lt_trans (H.out b hb) (by omega)) hz);have D:=λ(W W':World) (e:Ending) (h:bW p.ks l name text (Lm L) p.cb p.lv W e W')=>WW v.out.2.2.2 h;obtain⟨⟨E,A⟩,z⟩:∃x,Ze p.st l name text=x:=⟨_,rfl⟩;rw[z] at j;simp only[z] at D;have d1:(E==E)=true:=by simp
  have d2:((A:Int)==(A:Int))=true:=by simp
  have G:=hid j;have a1:=hid N;have a8:=hid D;clear j N D z;have J:=hid (List.getElem?_set_self (l:=t) (a:={ p with st:=ZA p.st l name text }) (zW.1 HP.out).1)
  go_wp2_with (first
   | (go_at_call 24;refine G.out.mono ?_;rintro e w4 ⟨rfl,V,o4⟩;have P4:=hid (y.out.offSet HP.out V o4);have S:=(V.block _ (zt I.out) (by omega)).trans I.out;have s:=(V.block _ (zt M.out) (by omega)).trans M.out;have r1:=(zg S 1).1;have r2:=(zg s 2).1;have r3:=(zg s 3).1;have r4:=(zg s 4).1;simp at r1 r2 r3 r4;have z4:=V.size;clear V o4 S s)
   | (go_at_call 69;refine (a1.out w4 z4 (P4.out.2.ref i _ J.out).1).mono ?_;rintro e w5 he;obtain⟨v5,f7,rfl,t5,r5,o5,a5⟩:=a8.out _ _ _ he;obtain⟨L5,s5,q5⟩:=P4.out.2.refSet J.out t5 r5 o5;have S5:=hid s5;have Q5:=hid q5;have A5:=hid a5;clear he t5 r5 o5 s5 q5 a5))
  go_ret;have hq:=Q5.out;rw[List.set_set] at hq;exact⟨L5,_,_,_,m,rfl,(a9.out.trans P4.out.1).trans S5.out,hq,a2.out.set i A5.out,by rw[Zn];exact Nat.le_of_eq HN.out.symm,by rw[Zn,HN.out];omega,by omega,by rw[Zn,HN.out];exact r⟩
end Go.Proofs.YtdakgnaojakldaaGreatDoor
