/- P -/
import Derived.Test.YtagnlbgbnfnapaaGreatDoorZ06
import Derived.Test.YtagnlbgbnfnapaaGreatDoorZ09
import Derived.Test.YtagnlbgbnfnapaaGreatDoorZ12
open Go.Proofs.Tryz
set_option maxRecDepth 100000
set_option maxHeartbeats 1000000
namespace Go.Proofs.YtagnlbgbnfnapaaGreatDoor
open Go.RowKit
def kI(w:World)(ao:Option Addr)(a:List BA):Prop:=
 a=[]\/∃b o,ao=some ⟨b,o,none⟩/\∀j,(h:j<a.length)->w.cell? ⟨b,o+j,none⟩=some (.string a[j])
theorem Zo{w c:World}{ao:Option Addr}{a:List BA}(h:kI w ao a)(hb:Below w.heap.size w c):kI c ao a:=by
 rcases h with h|⟨b,o,ha,hc⟩
 ·exact .inl h
 ·exact .inr ⟨b,o,ha,λj d=>zh hb (hc j d)⟩
def ZL(a:List BA)(j:Nat):BA:=a.getD j ⟨#[]⟩
theorem iC(a:List BA)(j:Nat)(h:j<a.length):ZL a j=a[j]:=by
 unfold ZL;rw[zQ,zt h];rfl
theorem IZ(a:List BA)(ao:Option Addr)(cap g:Nat)(s:Array Value)(p:Nat->Bool)(w:World)(A:a.length<=100000000000)(y:∀args w,(callFunc g args).run prog w = .ok (.enter g args) w)
  (v:kI w ao a)(x:jQ g s (λj => .string (ZL a j)) a.length p w) :
  Calls prog 228 #[.slice ao a.length cap,.func (.func g) #[] s] w λe n=>
   e = .returned (.tuple #[.int .i64 (((zD p a.length).getD 0:Nat):Int),.bool (zD p a.length).isSome])/\Below w.heap.size w n:=by
 generalize hF:zD p a.length=F;have q:=hid hF;clear hF;go_enter func228,ntmps228
 go_wp2
 go_loopw [10] (λi wr=>∃k:Nat,k<=a.length/\i = .int .i64 k/\(∀j,j<k->p j=false)/\Below w.heap.size w wr) (λi _=>a.length-(intOf i).toNat)
 case atStart=>exact⟨0,zU _,rfl,λj h=>by omega,zi _ _⟩
 case round=>
  obtain⟨k,z,rfl,hb,d⟩:=hrel;have l:=hid hb;clear hb
  by_cases hlt:k<a.length
  ·rcases v with rfl|⟨b,o,rfl,hc⟩
   ·simp at hlt
   have c:=λW hb=>x W k hlt hb;simp only[iC a k hlt] at c;have m:=hc k hlt;obtain⟨u,r⟩:=Nm (a[k]);rw[r] at m c;have B:=zh d m;clear r hc m
   cases hpp:p k with
   | false=>
    rw[hpp] at c;have t:=hid hpp;clear hpp
    go_wp2_with (go_at_fn g;refine (c _ d).mono ?_;rintro e n ⟨rfl,f⟩)
    refine⟨⟨k+1,by omega,by go_num,λj h=>?_,d.trans (f.mono d.size)⟩,by simp[intOf];omega⟩
    by_cases hj:j=k
    ·subst hj;exact t.out
    ·exact l.out j (by omega)
   | true=>
    rw[hpp] at c;have e:=QA p a.length k hlt l.out hpp;rw[q.out] at e;subst e;clear hpp
    go_wp2_with (go_at_fn g;refine (c _ d).mono ?_;rintro e n ⟨rfl,f⟩)
    go_ret2;exact⟨rfl,d.trans (f.mono d.size)⟩
  ·have e:=QB p a.length (λj h=>l.out j (by omega));rw[q.out] at e;subst e
   go_wp2
   go_ret2;exact⟨rfl,d⟩
theorem aO(a:List BA)(ao:Option Addr)(cap g:Nat)(d:Array Value)(p:Nat->Bool)(w:World)(k:a.length<=100000000000)(h:∀args w,(callFunc g args).run prog w = .ok (.enter g args) w)
  (i:kI w ao a)(l:jQ g d (λj => .string (ZL a j)) a.length p w) :
  Calls prog 188 #[.slice ao a.length cap,.func (.func g) #[] d] w λe f=>e = .returned (.bool (zD p a.length).isSome)/\Below w.heap.size w f:=by
 have c:=IZ a ao cap g d p w k h i l;generalize zD p a.length=F at c;go_enter func188,ntmps188
 go_wp2_with (go_at_call 228;refine c.mono ?_;rintro e f ⟨rfl,b⟩)
 go_ret;exact⟨rfl,b⟩
theorem LZ(s this:BA)(B:Nat)(w:World)(b:w.cell? ⟨B,0,none⟩=some (.string this)) :
  Calls prog 189 #[.string s,.pointer (some ⟨B,0,none⟩)] w λe a=>e = .returned (.bool (s.toList==this.toList))/\Below w.heap.size w a:=by
 go_enter func189,ntmps189
 go_wp2
 go_ret;exact⟨rfl,zi _ _⟩
theorem VH{α:Type}(l:List α)(d:α)(f:α->Bool):(zD (λj=>f (l.getD j d)) l.length).isSome=l.any f:=by
 rw[vk,uT]
 constructor
 ·intro h;obtain⟨k,b⟩:=aH.1 h;unfold zD at b;rw[Vy] at b;have a:k<l.length:=by simpa using b.2.1
  refine⟨l[k],xg a,?_⟩
  have:=b.1
  rw[zQ,zt a] at this;exact this
 ·rintro ⟨x,g,c⟩;obtain⟨j,e,rfl⟩:=Ql g
  cases h:zD (λj=>f (l.getD j d)) l.length with
  | some k=>rfl
  | none=>
   unfold zD at h;rw[Ya] at h
   have:=h j (vQ.2 e)
   rw[zQ,zt e] at this;simp at this;rw[this] at c
   cases c
theorem rz(a:List BA)(this:BA)(ao:Option Addr)(cap:Nat)(w:World)(i:a.length<=100000000000)(h:kI w ao a) :
  Calls prog 146 #[.slice ao a.length cap,.string this] w λe f=>e = .returned (.bool (a.any λs=>s.toList==this.toList))/\Below w.heap.size w f:=by
 have b:=nB w (.cells #[.string this] 9);have g:∀args w,(callFunc 189 args).run prog w = .ok (.enter 189 args) w:=qx func189 (by kernel_rfl) rfl
 have c:=aO a ao cap 189 #[.pointer (some ⟨w.heap.size,0,none⟩)] (λj=>(ZL a j).toList==this.toList) (w.alloc (.cells #[.string this] 9)) i g (Zo h b)
  (λW j k hb=>LZ (ZL a j) this w.heap.size W (zh hb (by simp)))
 rw[show (zD (λj=>(ZL a j).toList==this.toList) a.length).isSome=a.any (λs=>s.toList==this.toList) from VH a ⟨#[]⟩ (λs=>s.toList==this.toList)] at c
 generalize a.any (λs=>s.toList==this.toList)=F at c;go_enter func146,ntmps146
 go_wp2_with (go_at_call 188;refine c.mono ?_;rintro e f ⟨rfl,d⟩)
 go_ret;exact⟨rfl,b.trans (d.mono (by simp))⟩
def OAt(w:World)(x:Option Rd.V)(u:Value):Prop:=match x with
 | none=>u = .nilIface
 | some v=>ValAt w (λb=>b<w.heap.size) v u
theorem OAt.below{w c:World}{x:Option Rd.V}{u:Value}(h:OAt w x u)(hb:Below w.heap.size w c):OAt c x u:=by
 cases x with
 | none=>exact h
 | some v=>exact ValAt.move h (λb a=>xx a hb.size) (λb a=>hb.block b a)
def UG(g:Nat)(a:Array Value)(f:BA->Bool)(L:Nat)(w:World):Prop:=
 ∀W (s:BA),s.size<=L->Below w.heap.size w W->Calls prog g (#[.string s]++a) W λe b=>e = .returned (.bool (f s))/\Below W.heap.size W b
def YT(w:World)(s:BA)(c:Nat)(e:Ending)(a:World):Prop:=∃u,e = .returned (.tuple #[.string s,u])/\FV c u/\Below w.heap.size w a
theorem gU(x:Option Rd.V)(u:Value)(g:Nat)(p:Array Value)(f:BA->Bool)(L:Nat)(w:World)(z:∀args w,(callFunc g args).run prog w = .ok (.enter g args) w)
  (i:OAt w x u)(m:∀s,x=some (.str s)->s.size<=L)(d:UG g p f L w) :
  Calls prog 97 #[u,.func (.func g) #[] p] w (YT w (Rd.qZ f x) (Rd.qf f x)):=by
 cases x with
 | none=>
  have q:u = .nilIface:=i;subst q;clear i d;have h:=iK;go_enter func97,ntmps97
  go_wp2
  go_ret2;exact⟨_,rfl,.inr (.inl ⟨rfl,_,rfl⟩),zi _ _⟩
 | some v=>
  have r:ValAt w (λb=>b<w.heap.size) v u:=i;clear i
  cases r with
  | word b=>
   clear d;have h:=iM;go_enter func97,ntmps97
   go_wp2
   go_ret2;exact⟨_,rfl,.inr (.inl ⟨rfl,_,rfl⟩),zi _ _⟩
  | list A t ao cap j k l=>
   clear d j k l;have h:=iJ;go_enter func97,ntmps97
   go_wp2
   go_ret2;exact⟨_,rfl,.inr (.inl ⟨rfl,_,rfl⟩),zi _ _⟩
  | obj ms t ao cap j k l=>
   clear d j k l;have h:=iL;go_enter func97,ntmps97
   go_wp2
   go_ret2;exact⟨_,rfl,.inr (.inl ⟨rfl,_,rfl⟩),zi _ _⟩
  | str s=>
   have c:=d w s (m s rfl) (zi _ _);have o:Rd.qZ f (some (.str s))=if f s then s else ⟨#[]⟩:=rfl
   have n:Rd.qf f (some (.str s))=Rd.cls (!f s) false:=rfl;rw[o,n];clear d m o n
   cases hf:f s with
   | true=>
    rw[hf] at c;clear hf;have h:=Ul;go_enter func97,ntmps97
    go_wp2_with (go_at_fn g;refine c.mono ?_;rintro e y ⟨rfl,a⟩)
    go_ret2;exact⟨_,rfl,.inl ⟨rfl,rfl⟩,a⟩
   | false=>
    rw[hf] at c;clear hf;have h:=Ul;go_enter func97,ntmps97
    go_wp2_with (go_at_fn g;refine c.mono ?_;rintro e y ⟨rfl,a⟩)
    go_ret2;exact⟨_,rfl,.inr (.inl ⟨rfl,_,rfl⟩),a⟩
theorem MG(s:BA)(w:World):Calls prog 98 #[.string s] w λe a=>e = .returned (.bool (Rd.yG s))/\Below w.heap.size w a:=by
 unfold Rd.yG
 cases h1:(s.toList==[97,108,108,111,119]) with
 | true=>
  go_enter func98,ntmps98
  go_wp2
  go_ret;exact⟨rfl,zi _ _⟩
 | false=>
  cases h2:(s.toList==[100,101,110,121]) with
  | true=>
   go_enter func98,ntmps98
   go_wp2
   go_ret;exact⟨rfl,zi _ _⟩
  | false=>
   go_enter func98,ntmps98
   go_wp2
   go_ret;exact⟨rfl,zi _ _⟩
def CX(g:Nat)(b:Array Value)(a:Nat->Value)(n:Nat)(f:Nat->BA)(c:Nat->Nat)(w:World):Prop:=
 ∀W j,j<n->Below w.heap.size w W->Calls prog g (#[a j]++b) W (YT W (f j) (c j))
def qV(f:Nat->BA)(n k:Nat):List Value:=(List.range n).map λj=>if j<k then .string (f j) else .string ⟨#[]⟩
theorem WQ(f:Nat->BA)(n k:Nat):(qV f n k).set k (.string (f k))=qV f n (k+1):=by
 apply List.ext_getElem
 ·simp[qV]
 intro i a b;simp only[qV,List.length_set,qg,jM] at a b;simp only[qV,List.getElem_set,ak,lV]
 by_cases e:k=i
 ·subst e;simp
 ·rw[za e]
  by_cases h:i<k
  ·rw[zb h,zb (by omega)]
  ·rw[za h,za (by omega)]
theorem WS(f:Nat->BA)(n:Nat):qV f n 0=List.replicate n (.string ⟨#[]⟩):=by
 apply List.ext_getElem
 ·simp[qV]
 intro i a b;simp[qV]
theorem WP(f:Nat->BA)(n k:Nat)(h:k<n):(qV f n k)[k]?=some (.string ⟨#[]⟩):=by
 simp[qV,h]
def uq(c:Nat->Nat)(n k:Nat)(a:List Value):Prop:=a.length=n/\(∀j,j<k->FV (c j) (a.getD j .nilIface))/\∀j,k<=j->j<n->a[j]?=some .nilIface
theorem uq.set{c:Nat->Nat}{n k:Nat}{b:List Value}(h:uq c n k b)(m:k<n){u:Value}(l:FV (c k) u):uq c n (k+1) (b.set k u):=by
 obtain⟨d,f,g⟩:=h;refine⟨by simp[d],λj i=>?_,λj i a=>?_⟩
 ·rw[zQ,zB]
  by_cases e:k=j
  ·subst e;rw[zb rfl,zb (by omega)];exact l
  ·rw[za e]
   have:=f j (by omega)
   rwa [zQ] at this
 ·rw[zB,za (by omega)];exact g j (by omega) a
theorem uq.start(c:Nat->Nat)(n:Nat):uq c n 0 (List.replicate n .nilIface):=⟨by simp,λj a=>by omega,λj _ a=>by simp[a]⟩
theorem uq.done{c:Nat->Nat}{n:Nat}{f:List Value}(h:uq c n n f):FVs ((List.range n).map c) f:=by
 obtain⟨g,i,k⟩:=h;refine⟨by simp[g],λj d u a e=>?_⟩;have b:j<n:=by have:=(xw.1 e).1;omega
 have:=i j b
 rw[zQ,e] at this;simp[b] at a;subst a;exact this
def Cw(w:World)(n:Nat)(f:Nat->BA)(c:Nat->Nat)(e:Ending)(a:World):Prop:=
 ∃(oa d:Option Addr) (g h:Nat) (b:List Value),e = .returned (.tuple #[.slice oa n g,.slice d n h])/\b.length=n/\jF a d b/\FVs ((List.range n).map c) b/\Below w.heap.size w a /\
  a.ownsRow w.heap.size 9 1 (.slice oa n g) n (qV f n n)
theorem GY(r:List Value)(ao:Option Addr)(cap g:Nat)(lb:Array Value)(f:Nat->BA)(c:Nat->Nat)(w:World)(hn:r.length<=10000)(eg:∀args w,(callFunc g args).run prog w = .ok (.enter g args) w)
  (hm:jF w ao r)(R:∀u ∈ r,u = .nilIface\/∃T x,u = .iface T x)(hp:CX g lb (λj=>r.getD j .nilIface) r.length f c w) :
  Calls prog 192 #[.slice ao r.length cap,.func (.func g) #[] lb] w (Cw w r.length f c):=by
 obtain⟨i0,hi,a8,a9,b0⟩:=jl (show (prog.info? 9).map (λi=>(i.zero,i.size,i.bytes))=some (some (.string ⟨#[]⟩),1,16) by kernel_rfl);obtain⟨i1,hj,a7,hy1,hy2⟩:=jl (show (prog.info? 86).map (λi=>(i.zero,i.size,i.bytes))=some (some .nilIface,1,16) by kernel_rfl);obtain⟨n,H⟩:=Nm r.length;rw[H] at hn hp |-;have HM:=hid hm;have a0:=hid R;have HP:=hid hp;have a1:=hid H;clear hm R hp H;go_enter func192,ntmps192
 go_wp2_with (at_make;refine Us _ rfl _ _ 48 rfl w.heap.size 9 i0 (.string ⟨#[]⟩) 1 underlying48 hi a8 a9 _ _ _ _ n rfl rfl ?_ ?_ ?_ ?_ ?_ ?_)
 ·omega
 ·omega
 ·rw[b0];omega
 ·unfold maxLen;omega
 ·omega
 intro W F t
 have I:W.ownsRow w.heap.size 9 1 (.slice (some ⟨w.heap.size,0,none⟩) n n) n (qV f n 0):=by
  rw[WS,<- iR];exact F
 have p:Below w.heap.size w W:=(zi _ w).grown t (ze _) (λk Y=>by cases Y);clear F
 go_wp2_with (at_make;refine Us _ rfl _ _ 130 rfl w.heap.size 86 i1 .nilIface 1 underlying130 hj a7 hy1 _ _ _ _ n rfl rfl ?_ ?_ ?_ ?_ ?_ ?_)
 ·omega
 ·omega
 ·rw[hy2];omega
 ·unfold maxLen;omega
 ·have:=p.size;omega
 intro w2 G m
 have J:w2.ownsRow w.heap.size 86 1 (.slice (some ⟨W.heap.size,0,none⟩) n n) n (List.replicate n .nilIface):=by
  rw[<- iR];exact G
 have E:=I.kept m (.inr (by simp[Value.ownBlock]));have S:w.heap.size<W.heap.size:=(I.lt _ rfl).2;have D:Below w.heap.size w w2:=p.grown m p.size (λk Y=>by cases Y);obtain⟨s,P⟩:=Nm W.heap.size;rw[P] at J S |-;have U:w.heap.size≠s:=by omega
 have M:=hid E;have N:=hid J;have L:=hid D;clear G m t I p E J D P;go_wp2_with fail
 go_loopw [18] (λiv wr=>∃(k:Nat) (K:List Value),k<=n/\iv = .int .i64 k/\uq c n k K/\wr.ownsRow w.heap.size 9 1 (.slice (some ⟨w.heap.size,0,none⟩) n n) n (qV f n k)/\wr.ownsRow w.heap.size 86 1 (.slice (some ⟨s,0,none⟩) n n) n K/\Below w.heap.size w wr) (λiv _=>n-(intOf iv).toNat)
 case atStart=>exact⟨0,_,zU _,rfl,uq.start c n,M.out,N.out,L.out⟩
 case round=>
  obtain⟨k,K,Y,rfl,V,ro,re,rb⟩:=hrel;clear M N L;have RO:=hid ro;have RE:=hid re;have O:=hid rb;have B:=hid V;clear ro re rb V
  by_cases hlt:k<n
  ·have A:k<r.length:=by rw[a1.out];exact hlt
   have Q:r.getD k .nilIface=r[k]:=by rw[zQ,zt A];rfl
   have C:=HP.out wr k hlt O.out;have hv:=a0.out r[k] (xg A)
   rcases HM.out with hnil|⟨b,o,hao,hc⟩
   ·rw[hnil] at A;simp at A
   subst hao;have q:=zh O.out (hc k A);simp only[Q] at C;obtain⟨u,hu⟩:=Nm (r[k]);rw[hu] at q C hv;clear hu hc Q
   have fin:Hid (∀l x,Below wr.heap.size wr l->FV (c k) x->uq c n (k+1) (K.set k x)/\((l.setCell ⟨w.heap.size,k,none⟩ (.string (f k))).setCell ⟨s,k,none⟩ x).ownsRow w.heap.size 9 1 (.slice (some ⟨w.heap.size,0,none⟩) n n) n (qV f n (k+1)) /\
     ((l.setCell ⟨w.heap.size,k,none⟩ (.string (f k))).setCell ⟨s,k,none⟩ x).ownsRow w.heap.size 86 1 (.slice (some ⟨s,0,none⟩) n n) n (K.set k x)/\Below w.heap.size w ((l.setCell ⟨w.heap.size,k,none⟩ (.string (f k))).setCell ⟨s,k,none⟩ x)):=by
    intro l x d hx;have Z:=ownsRow_below RO.out d;have X:=ownsRow_below RE.out d;have o4:=(Z.stored k (.string (f k))).1;rw[WQ] at o4;have e4:=yh X (a:=⟨w.heap.size,k,none⟩) (by simp only[Value.ownBlock];intro e;simp only[Option.some.injEq] at e;exact U e.symm) (.string (f k));exact⟨B.out.set hlt hx,yh o4 (by simp only[Value.ownBlock];intro e;simp only[Option.some.injEq] at e;exact U e) _,(e4.stored k x).1,((O.out.trans (d.mono O.out.size)).setCell (ze _) _).setCell (by show w.heap.size<=s;omega) _⟩
   have cells:Hid (∀l,Below wr.heap.size wr l->l.cell? ⟨w.heap.size,k,none⟩=some (.string ⟨#[]⟩)/\l.frozen? ⟨w.heap.size,k,none⟩=false/\l.cell? ⟨s,k,none⟩=some .nilIface/\l.frozen? ⟨s,k,none⟩=false):=by
    intro l d;have Z:=ownsRow_below RO.out d;have X:=ownsRow_below RE.out d;exact⟨(Z.cellAt k (by omega)).trans (WP f n k hlt),Z.frozenAt k,(X.cellAt k (by omega)).trans (B.out.2.2 k (ze _) hlt),X.frozenAt k⟩
   rcases hv with rfl|⟨T,y,rfl⟩
   ·go_wp2_with (go_at_fn g;refine C.mono ?_;rintro e l ⟨x,rfl,v,d⟩;obtain⟨d1,d2,d3,d4⟩:=cells.out l d;have h:=hid (fin.out l x d v);rcases v.form with rfl|⟨T,z,rfl⟩)
    all_goals
     go_roundw
     case rel=>exact⟨k+1,_,by omega,by go_num,h.out.1,h.out.2.1,h.out.2.2.1,h.out.2.2.2⟩
     case measure=>simp[intOf];omega
   ·go_wp2_with (go_at_fn g;refine C.mono ?_;rintro e l ⟨x,rfl,v,d⟩;obtain⟨d1,d2,d3,d4⟩:=cells.out l d;have h:=hid (fin.out l x d v);rcases v.form with rfl|⟨T,z,rfl⟩)
    all_goals
     go_roundw
     case rel=>exact⟨k+1,_,by omega,by go_num,h.out.1,h.out.2.1,h.out.2.2.1,h.out.2.2.2⟩
     case measure=>simp[intOf];omega
  ·have a5:k=n:=by omega
   subst a5;have hE:=B.out.done;have hl:=B.out.1
   go_wp2
   go_ret2;refine⟨_,_,_,_,K,rfl,hl,?_,hE,O.out,RO.out⟩;exact .inr ⟨s,0,rfl,λj hj=>by rw[qM];exact (RE.out.cellAt j (by omega)).trans (zt hj)⟩
def VC(g:Nat)(a:Array Value)(f:Option Rd.V->BA)(c:Option Rd.V->Nat)(L:Nat)(w:World):Prop:=
 ∀W (y:Option Rd.V) (u:Value),(∀v,y=some v->Rd.Good L v)->OAt W y u->Below w.heap.size w W->Calls prog g (#[u]++a) W (YT W (f y) (c y))
def XE(w:World)(b:List BA)(c:Nat)(e:Ending)(d:World):Prop:=
 ∃a u,e = .returned (.tuple #[a,u])/\FV c u/\Below w.heap.size w d/\d.ownsRow w.heap.size 9 1 a b.length (b.map Value.string)
theorem OAt.form{w:World}{x:Option Rd.V}{u:Value}(h:OAt w x u):u = .nilIface\/∃T y,u = .iface T y:=by
 cases x with
 | none=>exact .inl h
 | some v=>exact .inr (ValAt.iface h)
theorem Vl{α β:Type}(l:List α)(d:α)(f:α->β):(List.range l.length).map (λj=>f (l.getD j d))=l.map f:=by
 apply List.ext_getElem
 ·simp
 intro i a b;simp only[qg,jM] at a;simp[a]
theorem oI(xs:List (Option Rd.V))(a:List Value)(ao:Option Addr)(cap g:Nat)(p:Array Value)(f:Option Rd.V->BA)(c:Option Rd.V->Nat)(L:Nat)(w:World)(s:a.length=xs.length)(D:a.length<=10000)(y:∀args w,(callFunc g args).run prog w = .ok (.enter g args) w)
  (C:jF w ao a)(H:∀(j:Nat) (x:Option Rd.V) (u:Value),xs[j]?=some x->a[j]?=some u->OAt w x u)(B:∀x ∈ xs,∀v,x=some v->Rd.Good L v)(E:VC g p f c L w) :
  Calls prog 192 #[.slice ao a.length cap,.func (.func g) #[] p] w λe n=>
   ∃(oa l:Option Addr) (m o:Nat) (k:List Value),e = .returned (.tuple #[.slice oa a.length m,.slice l a.length o])/\k.length=a.length/\jF n l k/\FVs (xs.map c) k/\Below w.heap.size w n /\
    n.ownsRow w.heap.size 9 1 (.slice oa a.length m) a.length ((xs.map f).map Value.string):=by
 have i:∀j,(h:j<a.length)->OAt w (xs.getD j none) a[j]:=λj h=>by
  have b:j<xs.length:=by omega
  rw[zQ,zt b];exact H j _ _ (zt b) (zt h)
 refine (GY a ao cap g p (λj=>f (xs.getD j none)) (λj=>c (xs.getD j none)) w D y C ?_ ?_).mono ?_
 ·intro u F;obtain⟨j,d,rfl⟩:=Ql F;exact (i j d).form
 ·intro W j d hb;have b:j<xs.length:=by omega
  have:=E W (xs.getD j none) a[j] (λv G=>B _ (by rw[zQ,zt b];exact xg b) v G) ((i j d).below hb) hb
  rw[show a[j]=a.getD j .nilIface by rw[zQ,zt d];rfl] at this;exact this
 ·rintro e n ⟨oa,l,m,o,k,rfl,z,b,q,A,r⟩;refine⟨oa,l,m,o,k,rfl,z,b,?_,A,?_⟩
  ·rw[s,Vl] at q;exact q
  ·have t:qV (λj=>f (xs.getD j none)) a.length a.length=(xs.map f).map Value.string:=by
    rw[s,jw,<- Vl xs none (Value.string ∘ f)];unfold qV;refine Jt λj d=>?_;rw[zb (vQ.1 d)]
    rfl
   rw[t] at r;exact r
theorem iG{w:World}{x:Option Rd.V}{u:Value}(h:OAt w x u)(e:∀a,x≠some (.list a))(W:World):(Instr.typeAssert u 118 125 true).run prog W = .ok (.tuple #[.slice none 0 0,.bool false]) W:=by
 cases x with
 | none=>
  have c:u = .nilIface:=h;subst c;exact zaf W
 | some v=>
  have d:ValAt w (λb=>b<w.heap.size) v u:=h
  cases d with
  | str s=>exact zai _ W
  | word b=>exact zaj _ W
  | list a=>exact absurd rfl (e a)
  | obj ms=>exact zah _ W
theorem wL(c:Option Rd.V->Nat)(f:Option Rd.V->BA)(x:Option Rd.V)(d:∀a,x≠some (.list a)):Rd.qP c x=Rd.qA [c x]/\Rd.qW f x=[f x]:=by
 match x with
 | none=>exact⟨rfl,rfl⟩
 | some (.str s)=>exact⟨rfl,rfl⟩
 | some (.word b)=>exact⟨rfl,rfl⟩
 | some (.obj ms)=>exact⟨rfl,rfl⟩
 | some (.list a)=>exact absurd rfl (d a)
theorem Pf(x:Option Rd.V)(u:Value)(g:Nat)(D:Array Value)(f:Option Rd.V->BA)(c:Option Rd.V->Nat)(L:Nat)(w:World)(F:xN w)(H:∀args w,(callFunc g args).run prog w = .ok (.enter g args) w)
  (t:OAt w x u)(M:∀v,x=some v->Rd.Good L v)(G:VC g D f c L w)(i:∀P,x≠some (.list P)) :
  Calls prog 148 #[u,.func (.func g) #[] D] w (XE w (Rd.qW f x) (Rd.qP c x)):=by
 have R:=λW=>iG t i W;rw[(wL c f x i).1,(wL c f x i).2];have h:=nB w (.cells #[u] 118)
 have z:=oI [x] [u] (some ⟨w.heap.size,0,none⟩) 1 g D f c L (w.alloc (.cells #[u] 118)) rfl (by simp) H (.inr ⟨w.heap.size,0,rfl,λj N=>by
   simp only[xV] at N
   have:j=0:=by omega
   subst this
   simp⟩) (λj y v p s=>by
   cases j with
   | zero=>
    simp only[kS,Option.some.injEq] at p s;subst p;subst s;exact t.below h
   | succ j=>simp at p) (λy p v s=>by simp only[xP] at p;subst p;exact M v s) (λW y v I J K=>G W y v I J (h.trans (K.mono (by simp))))
 simp only[vw,Zv,xV] at z;have C:=t.form;clear t G i
 rcases C with rfl|⟨T,y,rfl⟩
 ·go_enter func148,ntmps148
  go_wp2_with (first
   | (go_at_call 101;refine q.mono ?_;rintro e Q ⟨v,rfl,l,b⟩)
   | (go_at_call 192;refine z.mono ?_;rintro e r ⟨oa,A,O,B,E,rfl,o,m,n,k,d⟩;have a:Below w.heap.size w r:=h.trans (k.mono (by simp));have q:=JW [c x] E A B r (F.below a) (by omega) m n;rw[o] at q))
  go_ret2;exact⟨_,_,rfl,l,a.trans (b.mono a.size),ownsRow_below (kG d (by simp)) b⟩
 ·go_enter func148,ntmps148
  go_wp2_with (first
   | (go_at_call 101;refine q.mono ?_;rintro e Q ⟨v,rfl,l,b⟩)
   | (go_at_call 192;refine z.mono ?_;rintro e r ⟨oa,A,O,B,E,rfl,o,m,n,k,d⟩;have a:Below w.heap.size w r:=h.trans (k.mono (by simp));have q:=JW [c x] E A B r (F.below a) (by omega) m n;rw[o] at q))
  go_ret2;exact⟨_,_,rfl,l,a.trans (b.mono a.size),ownsRow_below (kG d (by simp)) b⟩
theorem Pe(a:List Rd.V)(u:Value)(g:Nat)(M:Array Value)(f:Option Rd.V->BA)(c:Option Rd.V->Nat)(L:Nat)(w:World)(W:xN w)(S:∀args w,(callFunc g args).run prog w = .ok (.enter g args) w)
  (Q:OAt w (some (.list a)) u)(N:Rd.Good L (.list a))(H:VC g M f c L w) :
  Calls prog 148 #[u,.func (.func g) #[] M] w (XE w (Rd.qW f (some (.list a))) (Rd.qP c (some (.list a)))):=by
 have l:ValAt w (λb=>b<w.heap.size) (.list a) u:=Q;clear Q;have ta:=iF;have k:∀v ∈ a,Rd.Good L v:=by cases N with|list _ _ h=>exact h
 have B:Rd.qP c (some (.list a))=if a.length<1\/10<a.length then 1 else Rd.qA (a.map λv=>c (some v)):=rfl
 have P:Rd.qW f (some (.list a))=if a.length<1\/10<a.length then [] else a.map λv=>f (some v):=rfl
 rw[B,P];clear B P
 cases l with
 | list _ m ao cap D p E=>
  by_cases hbad:a.length<1\/10<a.length
  ·rw[zb hbad,zb hbad];obtain⟨n,r⟩:=Nm m.length;rw[r];have i:n=0\/(¬n=0/\10<n):=by omega
   clear p E H k
   rcases i with rfl|⟨h0,h10⟩
   ·go_enter func148,ntmps148
    go_wp2
    go_ret2;exact⟨_,_,rfl,.inr (.inl ⟨rfl,_,rfl⟩),zi _ _,jR _ _ _ _⟩
   ·have A:((n:Int)==0)=false:=by simp;omega
    have Z:decide ((10:Int)<(n:Int))=true:=by simp;omega
    go_enter func148,ntmps148
    go_wp2
    go_ret2;exact⟨_,_,rfl,.inr (.inl ⟨rfl,_,rfl⟩),zi _ _,jR _ _ _ _⟩
  ·rw[za hbad,za hbad]
   have C:=oI (a.map some) m ao cap g M f c L w (by simp[D]) (by omega) S (by
     rcases p with p|⟨b,ha,_,B⟩
     ·exact .inl p
     ·exact .inr ⟨b,0,ha,λj X=>by rw[qM];exact B j _ (zt X)⟩)
    (λj y v x l=>by
      rw[vv] at x;obtain⟨z,A,rfl⟩:=vR.1 x;exact E j z v A l) (λy x v l=>by
      rw[qR] at x;obtain⟨z,A,rfl⟩:=x;simp only[Option.some.injEq] at l;subst l;exact k z A) H
   simp only[jw] at C;have hlen:(a.map λv=>f (some v)).length=m.length:=by simp[D]
   have G:¬m.length=0:=by omega
   have s:m.length<=10:=by omega
   clear p E H k hbad N D;have o:=hid hlen;clear hlen;obtain⟨n,r⟩:=Nm m.length;rw[r] at C G s |-;have R:=hid r;clear r;have A:((n:Int)==0)=false:=by simp;omega
   have Z:decide ((10:Int)<(n:Int))=false:=by simp;omega
   go_enter func148,ntmps148
   go_wp2_with (first
    | (go_at_call 101;refine O.mono ?_;rintro e w2 ⟨v,rfl,F,q⟩)
    | (go_at_call 192;refine C.mono ?_;rintro e w1 ⟨oa,T,oc,U,ys,rfl,K,I,J,d,t⟩;have O:=JW _ ys T U w1 (W.below d) (by omega) I J;rw[K] at O))
   go_ret2;refine⟨_,_,rfl,F,d.trans (q.mono d.size),?_⟩;have Y:=ownsRow_below t q;rw[o.out,R.out,jw];exact Y
theorem Kq(x:Option Rd.V)(u:Value)(g:Nat)(b:Array Value)(f:Option Rd.V->BA)(c:Option Rd.V->Nat)(L:Nat)(w:World)(j:xN w)(d:∀args w,(callFunc g args).run prog w = .ok (.enter g args) w)
  (l:OAt w x u)(i:∀v,x=some v->Rd.Good L v)(k:VC g b f c L w) :
  Calls prog 148 #[u,.func (.func g) #[] b] w (XE w (Rd.qW f x) (Rd.qP c x)):=by
 by_cases h:∃a,x=some (.list a)
 ·obtain⟨a,rfl⟩:=h;exact Pe a u g b f c L w j d l (i _ rfl) k
 ·exact Pf x u g b f c L w j d l i k (λa e=>h ⟨a,e⟩)
structure kL (w:World):Prop where
 tabs:uZ w
 max:Xz w
 err:xN w
theorem kL.below{w a:World}(h:kL w)(hb:Below w.heap.size w a):kL a:=⟨h.tabs.below hb,h.max.below hb,h.err.below hb⟩
theorem Sb(x:Option Rd.V)(u:Value)(w:World)(j:kL w)(l:OAt w x u)(m:∀s,x=some (.str s)->s.size<=4000) :
  Calls prog 149 #[u] w (YT w (Rd.strOf x) (Rd.yM x)):=by
 cases x with
 | none=>
  have q:u = .nilIface:=l;subst q;have f:=iK;go_enter func149,ntmps149
  go_wp2
  go_ret2;exact⟨_,rfl,.inr (.inl ⟨rfl,_,rfl⟩),zi _ _⟩
 | some v=>
  have r:ValAt w (λb=>b<w.heap.size) v u:=l;clear l
  cases r with
  | word b=>
   have f:=iM;go_enter func149,ntmps149
   go_wp2
   go_ret2;exact⟨_,rfl,.inr (.inl ⟨rfl,_,rfl⟩),zi _ _⟩
  | list B z ao cap g h i=>
   clear g h i;have f:=iJ;go_enter func149,ntmps149
   go_wp2
   go_ret2;exact⟨_,rfl,.inr (.inl ⟨rfl,_,rfl⟩),zi _ _⟩
  | obj ms z ao cap g h i=>
   clear g h i;have f:=iL;go_enter func149,ntmps149
   go_wp2
   go_ret2;exact⟨_,rfl,.inr (.inl ⟨rfl,_,rfl⟩),zi _ _⟩
  | str s=>
   have p:=m s rfl;have c:=AU s w (by unfold maxLen;omega) j.max j.tabs;have n:Rd.yM (some (.str s))=Rd.cls false (!Ref.yf s):=rfl;have o:Rd.strOf (some (.str s))=s:=rfl;rw[n,o];unfold Ref.yf;have f:=Ul;clear m n o p j
   cases hP:Ref.parts s with
   | none=>
    rw[hP] at c;clear hP;go_enter func149,ntmps149
    go_wp2_with (go_at_call 117;refine c.mono ?_;rintro e A ⟨v,y,rfl,d,a⟩;rcases a with ⟨_,rfl,k,rfl⟩|⟨t,hps,_⟩;rotate_left;cases hps)
    go_ret2;exact⟨_,rfl,.inr (.inr ⟨rfl,k,rfl⟩),d⟩
   | some t=>
    rw[hP] at c;clear hP;go_enter func149,ntmps149
    go_wp2_with (go_at_call 117;refine c.mono ?_;rintro e A ⟨v,y,rfl,d,a⟩;rcases a with ⟨hps,_⟩|⟨ps',hps,rfl,hown⟩;cases hps;cases hps)
    go_ret2;exact⟨_,rfl,.inl ⟨rfl,rfl⟩,d⟩
end Go.Proofs.YtagnlbgbnfnapaaGreatDoor
