/- P -/
import Derived.Test.YtagnlbgbnfnapaaGreatDoorK07
import Derived.Test.YtagnlbgbnfnapaaGreatDoorK10
import Derived.Test.YtagnlbgbnfnapaaGreatDoorK12
open Go.Proofs.Tryz
set_option maxRecDepth 100000
set_option maxHeartbeats 1000000
namespace Go.Proofs.YtagnlbgbnfnapaaGreatDoor
open Go.RowKit
def Q8(w:World)(c:Option Addr)(a:List BY):Prop:=
 a=[]\/∃b o,c=some ⟨b,o,none⟩/\∀j,(h:j<a.length)->w.cell? ⟨b,o+j,none⟩=some (.string a[j])
theorem dN{w w':World}{a:Option Addr}{c:List BY}(h:Q8 w a c)(hb:Below w.heap.size w w'):Q8 w' a c:=by
 rcases h with h|⟨b,o,ha,hc⟩
 ·exact .inl h
 ·exact .inr ⟨b,o,ha,λj d=>zi hb (hc j d)⟩
def Yn(a:List BY)(j:Nat):BY:=a.getD j ⟨#[]⟩
theorem Rx(a:List BY)(j:Nat)(h:j<a.length):Yn a j=a[j]:=by
 unfold Yn;rw[zY,zn h];rfl
theorem EZ(a:List BY)(q:Option Addr)(cap g:Nat)(s:Array Value)(p:Nat->Bool)(w:World)(A:a.length<=100000000000)(y:∀args w,(callFunc g args).run prog w = .ok (.enter g args) w)
  (v:Q8 w q a)(x:ZC g s (λj => .string (Yn a j)) a.length p w) :
  Calls prog 228 #[.slice q a.length cap,.func (.func g) #[] s] w λe w'=>
   e = .returned (.tuple #[.int .i64 (((zX p a.length).getD 0:Nat):Int),.bool (zX p a.length).isSome])/\Below w.heap.size w w':=by
 generalize hF:zX p a.length=F;have n:=hid hF;clear hF;go_enter func228,ntmps228
 go_wp2
 go_loopw [10] (λi wr=>∃k:Nat,k<=a.length/\i = .int .i64 k/\(∀j,j<k->p j=false)/\Below w.heap.size w wr) (λi _=>a.length-(intOf i).toNat)
 case atStart=>exact⟨0,zG _,rfl,λj h=>by omega,zf _ _⟩
 case round=>
  obtain⟨k,z,rfl,hb,d⟩:=hrel;have l:=hid hb;clear hb
  by_cases hlt:k<a.length
  ·rcases v with rfl|⟨b,o,rfl,hc⟩
   ·simp at hlt
   have c:=λW hb=>x W k hlt hb;simp only[Rx a k hlt] at c;have m:=hc k hlt;obtain⟨u,r⟩:=Nm (a[k]);rw[r] at m c;have B:=zi d m;clear r hc m
   cases hpp:p k with
   | false=>
    rw[hpp] at c;have t:=hid hpp;clear hpp
    go_wp2_with (go_at_fn g;refine (c _ d).mono ?_;rintro e w' ⟨rfl,f⟩)
    refine⟨⟨k+1,by omega,by go_num,λj h=>?_,d.trans (f.mono d.size)⟩,by simp[intOf];omega⟩
    by_cases hj:j=k
    ·subst hj;exact t.out
    ·exact l.out j (by omega)
   | true=>
    rw[hpp] at c;have e:=JN p a.length k hlt l.out hpp;rw[n.out] at e;subst e;clear hpp
    go_wp2_with (go_at_fn g;refine (c _ d).mono ?_;rintro e w' ⟨rfl,f⟩)
    go_ret2;exact⟨rfl,d.trans (f.mono d.size)⟩
  ·have e:=JO p a.length (λj h=>l.out j (by omega));rw[n.out] at e;subst e
   go_wp2
   go_ret2;exact⟨rfl,d⟩
theorem Ab(a:List BY)(b:Option Addr)(cap g:Nat)(f:Array Value)(p:Nat->Bool)(w:World)(k:a.length<=100000000000)(h:∀args w,(callFunc g args).run prog w = .ok (.enter g args) w)
  (i:Q8 w b a)(l:ZC g f (λj => .string (Yn a j)) a.length p w) :
  Calls prog 188 #[.slice b a.length cap,.func (.func g) #[] f] w λe w'=>e = .returned (.bool (zX p a.length).isSome)/\Below w.heap.size w w':=by
 have c:=EZ a b cap g f p w k h i l;generalize zX p a.length=F at c;go_enter func188,ntmps188
 go_wp2_with (go_at_call 228;refine c.mono ?_;rintro e w' ⟨rfl,d⟩)
 go_ret;exact⟨rfl,d⟩
theorem FU(s this:BY)(B:Nat)(w:World)(a:w.cell? ⟨B,0,none⟩=some (.string this)) :
  Calls prog 189 #[.string s,.pointer (some ⟨B,0,none⟩)] w λe w'=>e = .returned (.bool (s.toList==this.toList))/\Below w.heap.size w w':=by
 go_enter func189,ntmps189
 go_wp2
 go_ret;exact⟨rfl,zf _ _⟩
theorem wZ{α:Type}(l:List α)(d:α)(f:α->Bool):(zX (λj=>f (l.getD j d)) l.length).isSome=l.any f:=by
 rw[XH,Xd]
 constructor
 ·intro h;obtain⟨k,b⟩:=Option.isSome_iff_exists.1 h;unfold zX at b;rw[Vz] at b;have a:k<l.length:=by simpa using b.2.1
  refine⟨l[k],xB a,?_⟩
  have:=b.1
  rw[zY,zn a] at this;exact this
 ·rintro ⟨x,g,c⟩;obtain⟨j,e,rfl⟩:=Qa g
  cases h:zX (λj=>f (l.getD j d)) l.length with
  | some k=>rfl
  | none=>
   unfold zX at h;rw[Yz] at h
   have:=h j (ku.2 e)
   rw[zY,zn e] at this;simp at this;rw[this] at c
   cases c
theorem FX(a:List BY)(this:BY)(d:Option Addr)(cap:Nat)(w:World)(i:a.length<=100000000000)(h:Q8 w d a) :
  Calls prog 146 #[.slice d a.length cap,.string this] w λe w'=>e = .returned (.bool (a.any λs=>s.toList==this.toList))/\Below w.heap.size w w':=by
 have b:=nbl w (.cells #[.string this] 9);have g:∀args w,(callFunc 189 args).run prog w = .ok (.enter 189 args) w:=xg func189 (by kernel_rfl) rfl
 have c:=Ab a d cap 189 #[.pointer (some ⟨w.heap.size,0,none⟩)] (λj=>(Yn a j).toList==this.toList) (w.alloc (.cells #[.string this] 9)) i g (dN h b)
  (λW j k hb=>FU (Yn a j) this w.heap.size W (zi hb (by simp)))
 rw[show (zX (λj=>(Yn a j).toList==this.toList) a.length).isSome=a.any (λs=>s.toList==this.toList) from wZ a ⟨#[]⟩ (λs=>s.toList==this.toList)] at c
 generalize a.any (λs=>s.toList==this.toList)=F at c;go_enter func146,ntmps146
 go_wp2_with (go_at_call 188;refine c.mono ?_;rintro e w' ⟨rfl,f⟩)
 go_ret;exact⟨rfl,b.trans (f.mono (by simp))⟩
def OAt(w:World)(x:Option Rd.V)(u:Value):Prop:=match x with
 | none=>u = .nilIface
 | some v=>ValAt w (λb=>b<w.heap.size) v u
theorem OAt.below{w w':World}{x:Option Rd.V}{u:Value}(h:OAt w x u)(hb:Below w.heap.size w w'):OAt w' x u:=by
 cases x with
 | none=>exact h
 | some v=>exact ValAt.move h (λb a=>xM a hb.size) (λb a=>hb.block b a)
def VK(g:Nat)(a:Array Value)(f:BY->Bool)(L:Nat)(w:World):Prop:=
 ∀W (s:BY),s.size<=L->Below w.heap.size w W->Calls prog g (#[.string s]++a) W λe w'=>e = .returned (.bool (f s))/\Below W.heap.size W w'
def XU(w:World)(s:BY)(c:Nat)(e:Ending)(w':World):Prop:=∃u,e = .returned (.tuple #[.string s,u])/\FV c u/\Below w.heap.size w w'
theorem dh(x:Option Rd.V)(u:Value)(g:Nat)(p:Array Value)(f:BY->Bool)(L:Nat)(w:World)(z:∀args w,(callFunc g args).run prog w = .ok (.enter g args) w)
  (i:OAt w x u)(m:∀s,x=some (.str s)->s.size<=L)(d:VK g p f L w) :
  Calls prog 97 #[u,.func (.func g) #[] p] w (XU w (Rd.qV f x) (Rd.qb f x)):=by
 cases x with
 | none=>
  have r:u = .nilIface:=i;subst r;clear i d;have h:=dU;go_enter func97,ntmps97
  go_wp2
  go_ret2;exact⟨_,rfl,.inr (.inl ⟨rfl,_,rfl⟩),zf _ _⟩
 | some v=>
  have t:ValAt w (λb=>b<w.heap.size) v u:=i;clear i
  cases t with
  | word b=>
   clear d;have h:=dW;go_enter func97,ntmps97
   go_wp2
   go_ret2;exact⟨_,rfl,.inr (.inl ⟨rfl,_,rfl⟩),zf _ _⟩
  | list A y q cap j k l=>
   clear d j k l;have h:=dS;go_enter func97,ntmps97
   go_wp2
   go_ret2;exact⟨_,rfl,.inr (.inl ⟨rfl,_,rfl⟩),zf _ _⟩
  | obj ms y q cap j k l=>
   clear d j k l;have h:=dV;go_enter func97,ntmps97
   go_wp2
   go_ret2;exact⟨_,rfl,.inr (.inl ⟨rfl,_,rfl⟩),zf _ _⟩
  | str s=>
   have c:=d w s (m s rfl) (zf _ _);have o:Rd.qV f (some (.str s))=if f s then s else ⟨#[]⟩:=rfl
   have n:Rd.qb f (some (.str s))=Rd.cls (!f s) false:=rfl;rw[o,n];clear d m o n
   cases hf:f s with
   | true=>
    rw[hf] at c;clear hf;have h:=Vk;go_enter func97,ntmps97
    go_wp2_with (go_at_fn g;refine c.mono ?_;rintro e w' ⟨rfl,a⟩)
    go_ret2;exact⟨_,rfl,.inl ⟨rfl,rfl⟩,a⟩
   | false=>
    rw[hf] at c;clear hf;have h:=Vk;go_enter func97,ntmps97
    go_wp2_with (go_at_fn g;refine c.mono ?_;rintro e w' ⟨rfl,a⟩)
    go_ret2;exact⟨_,rfl,.inr (.inl ⟨rfl,_,rfl⟩),a⟩
theorem Gx(s:BY)(w:World):Calls prog 98 #[.string s] w λe w'=>e = .returned (.bool (Rd.xX s))/\Below w.heap.size w w':=by
 unfold Rd.xX
 cases h1:(s.toList==[97,108,108,111,119]) with
 | true=>
  go_enter func98,ntmps98
  go_wp2
  go_ret;exact⟨rfl,zf _ _⟩
 | false=>
  cases h2:(s.toList==[100,101,110,121]) with
  | true=>
   go_enter func98,ntmps98
   go_wp2
   go_ret;exact⟨rfl,zf _ _⟩
  | false=>
   go_enter func98,ntmps98
   go_wp2
   go_ret;exact⟨rfl,zf _ _⟩
def wz(g:Nat)(b:Array Value)(a:Nat->Value)(n:Nat)(f:Nat->BY)(c:Nat->Nat)(w:World):Prop:=
 ∀W j,j<n->Below w.heap.size w W->Calls prog g (#[a j]++b) W (XU W (f j) (c j))
def qO(f:Nat->BY)(n k:Nat):List Value:=(List.range n).map λj=>if j<k then .string (f j) else .string ⟨#[]⟩
theorem Rv(f:Nat->BY)(n k:Nat):(qO f n k).set k (.string (f k))=qO f n (k+1):=by
 apply Kh
 ·simp[qO]
 intro i a b;simp only[qO,uD,qB,Qb] at a b;simp only[qO,List.getElem_set,Kl,fE]
 by_cases e:k=i
 ·subst e;simp
 ·rw[za e]
  by_cases h:i<k
  ·rw[zb h,zb (by omega)]
  ·rw[za h,za (by omega)]
theorem Rw(f:Nat->BY)(n:Nat):qO f n 0=List.replicate n (.string ⟨#[]⟩):=by
 apply Kh
 ·simp[qO]
 intro i a b;simp[qO]
theorem Ru(f:Nat->BY)(n k:Nat)(h:k<n):(qO f n k)[k]?=some (.string ⟨#[]⟩):=by
 simp[qO,h]
def vP(c:Nat->Nat)(n k:Nat)(a:List Value):Prop:=a.length=n/\(∀j,j<k->FV (c j) (a.getD j .nilIface))/\∀j,k<=j->j<n->a[j]?=some .nilIface
theorem vP.set{c:Nat->Nat}{n k:Nat}{b:List Value}(h:vP c n k b)(m:k<n){u:Value}(l:FV (c k) u):vP c n (k+1) (b.set k u):=by
 obtain⟨d,f,g⟩:=h;refine⟨by simp[d],λj i=>?_,λj i a=>?_⟩
 ·rw[zY,zt]
  by_cases e:k=j
  ·subst e;rw[zb rfl,zb (by omega)];exact l
  ·rw[za e]
   have:=f j (by omega)
   rwa [zY] at this
 ·rw[zt,za (by omega)];exact g j (by omega) a
theorem vP.start(c:Nat->Nat)(n:Nat):vP c n 0 (List.replicate n .nilIface):=⟨by simp,λj a=>by omega,λj _ a=>by simp[a]⟩
theorem vP.done{c:Nat->Nat}{n:Nat}{f:List Value}(h:vP c n n f):FVs ((List.range n).map c) f:=by
 obtain⟨g,i,k⟩:=h;refine⟨by simp[g],λj d u a e=>?_⟩;have b:j<n:=by have:=(zR.1 e).1;omega
 have:=i j b
 rw[zY,e] at this;simp[b] at a;subst a;exact this
def tZ(w:World)(n:Nat)(f:Nat->BY)(c:Nat->Nat)(e:Ending)(w':World):Prop:=
 ∃(d b:Option Addr) (g h:Nat) (a:List Value),e = .returned (.tuple #[.slice d n g,.slice b n h])/\a.length=n/\jA w' b a/\FVs ((List.range n).map c) a/\Below w.heap.size w w' /\
  w'.ownsRow w.heap.size 9 1 (.slice d n g) n (qO f n n)
theorem DV(r:List Value)(ao:Option Addr)(cap g:Nat)(lb:Array Value)(f:Nat->BY)(c:Nat->Nat)(w:World)(hn:r.length<=10000)(eg:∀args w,(callFunc g args).run prog w = .ok (.enter g args) w)
  (hm:jA w ao r)(R:∀u ∈ r,u = .nilIface\/∃T x,u = .iface T x)(hp:wz g lb (λj=>r.getD j .nilIface) r.length f c w) :
  Calls prog 192 #[.slice ao r.length cap,.func (.func g) #[] lb] w (tZ w r.length f c):=by
 obtain⟨i0,hi,a9,b0,b1⟩:=qP (show (prog.info? 9).map (λi=>(i.zero,i.size,i.bytes))=some (some (.string ⟨#[]⟩),1,16) by kernel_rfl);obtain⟨i1,hj,a6,a7,a8⟩:=qP (show (prog.info? 86).map (λi=>(i.zero,i.size,i.bytes))=some (some .nilIface,1,16) by kernel_rfl);obtain⟨n,H⟩:=Nm r.length;rw[H] at hn hp |-;have HM:=hid hm;have Z:=hid R;have HP:=hid hp;have a0:=hid H;clear hm R hp H;go_enter func192,ntmps192
 go_wp2_with (at_make;refine Jf _ rfl _ _ 48 rfl w.heap.size 9 i0 (.string ⟨#[]⟩) 1 underlying48 hi a9 b0 _ _ _ _ n rfl rfl ?_ ?_ ?_ ?_ ?_ ?_)
 ·omega
 ·omega
 ·rw[b1];omega
 ·unfold maxLen;omega
 ·omega
 intro w1 F t
 have I:w1.ownsRow w.heap.size 9 1 (.slice (some ⟨w.heap.size,0,none⟩) n n) n (qO f n 0):=by
  rw[Rw,<- UY];exact F
 have p:Below w.heap.size w w1:=(zf _ w).grown t (ze _) (λk X=>by cases X);clear F
 go_wp2_with (at_make;refine Jf _ rfl _ _ 130 rfl w.heap.size 86 i1 .nilIface 1 underlying130 hj a6 a7 _ _ _ _ n rfl rfl ?_ ?_ ?_ ?_ ?_ ?_)
 ·omega
 ·omega
 ·rw[a8];omega
 ·unfold maxLen;omega
 ·have:=p.size;omega
 intro w2 G m
 have J:w2.ownsRow w.heap.size 86 1 (.slice (some ⟨w1.heap.size,0,none⟩) n n) n (List.replicate n .nilIface):=by
  rw[<- UY];exact G
 have E:=I.kept m (.inr (by simp[Value.ownBlock]));have S:w.heap.size<w1.heap.size:=(I.lt _ rfl).2;have D:Below w.heap.size w w2:=p.grown m p.size (λk X=>by cases X);obtain⟨s,P⟩:=Nm w1.heap.size;rw[P] at J S |-;have U:w.heap.size≠s:=by omega
 have M:=hid E;have N:=hid J;have L:=hid D;clear G m t I p E J D P;go_wp2_with fail
 go_loopw [18] (λiv wr=>∃(k:Nat) (K:List Value),k<=n/\iv = .int .i64 k/\vP c n k K/\wr.ownsRow w.heap.size 9 1 (.slice (some ⟨w.heap.size,0,none⟩) n n) n (qO f n k)/\wr.ownsRow w.heap.size 86 1 (.slice (some ⟨s,0,none⟩) n n) n K/\Below w.heap.size w wr) (λiv _=>n-(intOf iv).toNat)
 case atStart=>exact⟨0,_,zG _,rfl,vP.start c n,M.out,N.out,L.out⟩
 case round=>
  obtain⟨k,K,X,rfl,V,ro,re,rb⟩:=hrel;clear M N L;have RO:=hid ro;have RE:=hid re;have O:=hid rb;have B:=hid V;clear ro re rb V
  by_cases hlt:k<n
  ·have A:k<r.length:=by rw[a0.out];exact hlt
   have Q:r.getD k .nilIface=r[k]:=by rw[zY,zn A];rfl
   have C:=HP.out wr k hlt O.out;have hv:=Z.out r[k] (xB A)
   rcases HM.out with hnil|⟨b,o,hao,hc⟩
   ·rw[hnil] at A;simp at A
   subst hao;have q:=zi O.out (hc k A);simp only[Q] at C;obtain⟨u,hu⟩:=Nm (r[k]);rw[hu] at q C hv;clear hu hc Q
   have fin:Hid (∀l x,Below wr.heap.size wr l->FV (c k) x->vP c n (k+1) (K.set k x)/\((l.setCell ⟨w.heap.size,k,none⟩ (.string (f k))).setCell ⟨s,k,none⟩ x).ownsRow w.heap.size 9 1 (.slice (some ⟨w.heap.size,0,none⟩) n n) n (qO f n (k+1)) /\
     ((l.setCell ⟨w.heap.size,k,none⟩ (.string (f k))).setCell ⟨s,k,none⟩ x).ownsRow w.heap.size 86 1 (.slice (some ⟨s,0,none⟩) n n) n (K.set k x)/\Below w.heap.size w ((l.setCell ⟨w.heap.size,k,none⟩ (.string (f k))).setCell ⟨s,k,none⟩ x)):=by
    intro l x d hx;have Y:=ownsRow_below RO.out d;have W:=ownsRow_below RE.out d;have o4:=(Y.stored k (.string (f k))).1;rw[Rv] at o4;have e4:=xE W (a:=⟨w.heap.size,k,none⟩) (by simp only[Value.ownBlock];intro e;simp only[Option.some.injEq] at e;exact U e.symm) (.string (f k));exact⟨B.out.set hlt hx,xE o4 (by simp only[Value.ownBlock];intro e;simp only[Option.some.injEq] at e;exact U e) _,(e4.stored k x).1,((O.out.trans (d.mono O.out.size)).setCell (ze _) _).setCell (by show w.heap.size<=s;omega) _⟩
   have cells:Hid (∀l,Below wr.heap.size wr l->l.cell? ⟨w.heap.size,k,none⟩=some (.string ⟨#[]⟩)/\l.frozen? ⟨w.heap.size,k,none⟩=false/\l.cell? ⟨s,k,none⟩=some .nilIface/\l.frozen? ⟨s,k,none⟩=false):=by
    intro l d;have Y:=ownsRow_below RO.out d;have W:=ownsRow_below RE.out d;exact⟨(Y.cellAt k (by omega)).trans (Ru f n k hlt),Y.frozenAt k,(W.cellAt k (by omega)).trans (B.out.2.2 k (ze _) hlt),W.frozenAt k⟩
   rcases hv with rfl|⟨T,y,rfl⟩
   ·go_wp2_with (go_at_fn g;refine C.mono ?_;rintro e l ⟨x,rfl,v,d⟩;obtain⟨d1,d2,d3,d4⟩:=cells.out l d;have h:=hid (fin.out l x d v);rcases v.form with rfl|⟨T,z,rfl⟩)
    all_goals
     go_roundw
     case rel=>exact⟨k+1,_,by omega,by go_num,h.out.1,h.out.2.1,h.out.2.2.1,h.out.2.2.2⟩
     case measure=>simp[intOf];omega
   ·go_wp2_with (go_at_fn g;refine C.mono ?_;rintro e l ⟨x,rfl,v,d⟩;obtain⟨d1,d2,d3,d4⟩:=cells.out l d;have h:=hid (fin.out l x d v);rcases v.form with rfl|⟨T,z,rfl⟩)
    all_goals
     go_roundw
     case rel=>exact⟨k+1,_,by omega,by go_num,h.out.1,h.out.2.1,h.out.2.2.1,h.out.2.2.2⟩
     case measure=>simp[intOf];omega
  ·have a4:k=n:=by omega
   subst a4;have hE:=B.out.done;have hl:=B.out.1
   go_wp2
   go_ret2;refine⟨_,_,_,_,K,rfl,hl,?_,hE,O.out,RO.out⟩;exact .inr ⟨s,0,rfl,λj hj=>by rw[yO];exact (RE.out.cellAt j (by omega)).trans (zn hj)⟩
def Jz(g:Nat)(a:Array Value)(f:Option Rd.V->BY)(c:Option Rd.V->Nat)(L:Nat)(w:World):Prop:=
 ∀W (y:Option Rd.V) (u:Value),(∀v,y=some v->Rd.Good L v)->OAt W y u->Below w.heap.size w W->Calls prog g (#[u]++a) W (XU W (f y) (c y))
def QH(w:World)(a:List BY)(c:Nat)(e:Ending)(w':World):Prop:=
 ∃lv u,e = .returned (.tuple #[lv,u])/\FV c u/\Below w.heap.size w w'/\w'.ownsRow w.heap.size 9 1 lv a.length (a.map Value.string)
theorem OAt.form{w:World}{x:Option Rd.V}{u:Value}(h:OAt w x u):u = .nilIface\/∃T y,u = .iface T y:=by
 cases x with
 | none=>exact .inl h
 | some v=>exact .inr (ValAt.iface h)
theorem Y8{α β:Type}(l:List α)(d:α)(f:α->β):(List.range l.length).map (λj=>f (l.getD j d))=l.map f:=by
 apply Kh
 ·simp
 intro i a b;simp only[qB,Qb] at a;simp[a]
theorem iZ(xs:List (Option Rd.V))(a:List Value)(o:Option Addr)(cap g:Nat)(q:Array Value)(f:Option Rd.V->BY)(c:Option Rd.V->Nat)(L:Nat)(w:World)(t:a.length=xs.length)(E:a.length<=10000)(z:∀args w,(callFunc g args).run prog w = .ok (.enter g args) w)
  (D:jA w o a)(I:∀(j:Nat) (x:Option Rd.V) (u:Value),xs[j]?=some x->a[j]?=some u->OAt w x u)(C:∀x ∈ xs,∀v,x=some v->Rd.Good L v)(F:Jz g q f c L w) :
  Calls prog 192 #[.slice o a.length cap,.func (.func g) #[] q] w λe w'=>
   ∃(m l:Option Addr) (n p:Nat) (k:List Value),e = .returned (.tuple #[.slice m a.length n,.slice l a.length p])/\k.length=a.length/\jA w' l k/\FVs (xs.map c) k/\Below w.heap.size w w' /\
    w'.ownsRow w.heap.size 9 1 (.slice m a.length n) a.length ((xs.map f).map Value.string):=by
 have i:∀j,(h:j<a.length)->OAt w (xs.getD j none) a[j]:=λj h=>by
  have b:j<xs.length:=by omega
  rw[zY,zn b];exact I j _ _ (zn b) (zn h)
 refine (DV a o cap g q (λj=>f (xs.getD j none)) (λj=>c (xs.getD j none)) w E z D ?_ ?_).mono ?_
 ·intro u G;obtain⟨j,d,rfl⟩:=Qa G;exact (i j d).form
 ·intro W j d hb;have b:j<xs.length:=by omega
  have:=F W (xs.getD j none) a[j] (λv H=>C _ (by rw[zY,zn b];exact xB b) v H) ((i j d).below hb) hb
  rw[show a[j]=a.getD j .nilIface by rw[zY,zn d];rfl] at this;exact this
 ·rintro e w' ⟨m,l,n,p,k,rfl,A,b,r,B,s⟩;refine⟨m,l,n,p,k,rfl,A,b,?_,B,?_⟩
  ·rw[t,Y8] at r;exact r
  ·have y:qO (λj=>f (xs.getD j none)) a.length a.length=(xs.map f).map Value.string:=by
    rw[t,ui,<- Y8 xs none (Value.string ∘ f)];unfold qO;refine Kn λj d=>?_;rw[zb (ku.1 d)]
    rfl
   rw[y] at s;exact s
theorem dP{w:World}{x:Option Rd.V}{u:Value}(h:OAt w x u)(e:∀a,x≠some (.list a))(W:World):(Instr.typeAssert u 118 125 true).run prog W = .ok (.tuple #[.slice none 0 0,.bool false]) W:=by
 cases x with
 | none=>
  have c:u = .nilIface:=h;subst c;exact RP W
 | some v=>
  have d:ValAt w (λb=>b<w.heap.size) v u:=h
  cases d with
  | str s=>exact RU _ W
  | word b=>exact RV _ W
  | list a=>exact absurd rfl (e a)
  | obj ms=>exact RQ _ W
theorem oF(c:Option Rd.V->Nat)(f:Option Rd.V->BY)(x:Option Rd.V)(d:∀a,x≠some (.list a)):Rd.qJ c x=Rd.qE [c x]/\Rd.qN f x=[f x]:=by
 match x with
 | none=>exact⟨rfl,rfl⟩
 | some (.str s)=>exact⟨rfl,rfl⟩
 | some (.word b)=>exact⟨rfl,rfl⟩
 | some (.obj ms)=>exact⟨rfl,rfl⟩
 | some (.list a)=>exact absurd rfl (d a)
theorem ME(x:Option Rd.V)(u:Value)(g:Nat)(C:Array Value)(f:Option Rd.V->BY)(c:Option Rd.V->Nat)(L:Nat)(w:World)(E:xH w)(G:∀args w,(callFunc g args).run prog w = .ok (.enter g args) w)
  (s:OAt w x u)(K:∀v,x=some v->Rd.Good L v)(F:Jz g C f c L w)(i:∀P,x≠some (.list P)) :
  Calls prog 148 #[u,.func (.func g) #[] C] w (QH w (Rd.qN f x) (Rd.qJ c x)):=by
 have R:=λW=>dP s i W;rw[(oF c f x i).1,(oF c f x i).2];have h:=nbl w (.cells #[u] 118)
 have t:=iZ [x] [u] (some ⟨w.heap.size,0,none⟩) 1 g C f c L (w.alloc (.cells #[u] 118)) rfl (by simp) G (.inr ⟨w.heap.size,0,rfl,λj M=>by
   simp only[vQ] at M
   have:j=0:=by omega
   subst this
   simp⟩) (λj y v p r=>by
   cases j with
   | zero=>
    simp only[jr,Option.some.injEq] at p r;subst p;subst r;exact s.below h
   | succ j=>simp at p) (λy p v r=>by simp only[xL] at p;subst p;exact K v r) (λW y v H I J=>F W y v H I (h.trans (J.mono (by simp))))
 simp only[yh,Zc,vQ] at t;have B:=s.form;clear s F i
 rcases B with rfl|⟨T,y,rfl⟩
 ·go_enter func148,ntmps148
  go_wp2_with (first
   | (go_at_call 101;refine q.mono ?_;rintro e Q ⟨v,rfl,l,b⟩)
   | (go_at_call 192;refine t.mono ?_;rintro e w1 ⟨N,z,O,A,D,rfl,o,m,n,k,d⟩;have a:Below w.heap.size w w1:=h.trans (k.mono (by simp));have q:=YT [c x] D z A w1 (E.below a) (by omega) m n;rw[o] at q))
  go_ret2;exact⟨_,_,rfl,l,a.trans (b.mono a.size),ownsRow_below (xA d (by simp)) b⟩
 ·go_enter func148,ntmps148
  go_wp2_with (first
   | (go_at_call 101;refine q.mono ?_;rintro e Q ⟨v,rfl,l,b⟩)
   | (go_at_call 192;refine t.mono ?_;rintro e w1 ⟨N,z,O,A,D,rfl,o,m,n,k,d⟩;have a:Below w.heap.size w w1:=h.trans (k.mono (by simp));have q:=YT [c x] D z A w1 (E.below a) (by omega) m n;rw[o] at q))
  go_ret2;exact⟨_,_,rfl,l,a.trans (b.mono a.size),ownsRow_below (xA d (by simp)) b⟩
theorem MC(a:List Rd.V)(u:Value)(g:Nat)(M:Array Value)(f:Option Rd.V->BY)(c:Option Rd.V->Nat)(L:Nat)(w:World)(X:xH w)(T:∀args w,(callFunc g args).run prog w = .ok (.enter g args) w)
  (Q:OAt w (some (.list a)) u)(N:Rd.Good L (.list a))(H:Jz g M f c L w) :
  Calls prog 148 #[u,.func (.func g) #[] M] w (QH w (Rd.qN f (some (.list a))) (Rd.qJ c (some (.list a)))):=by
 have l:ValAt w (λb=>b<w.heap.size) (.list a) u:=Q;clear Q;have ta:=dO;have k:∀v ∈ a,Rd.Good L v:=by cases N with|list _ _ h=>exact h
 have B:Rd.qJ c (some (.list a))=if a.length<1\/10<a.length then 1 else Rd.qE (a.map λv=>c (some v)):=rfl
 have P:Rd.qN f (some (.list a))=if a.length<1\/10<a.length then [] else a.map λv=>f (some v):=rfl
 rw[B,P];clear B P
 cases l with
 | list _ m S cap D p E=>
  by_cases hbad:a.length<1\/10<a.length
  ·rw[zb hbad,zb hbad];obtain⟨n,r⟩:=Nm m.length;rw[r];have i:n=0\/(¬n=0/\10<n):=by omega
   clear p E H k
   rcases i with rfl|⟨h0,h10⟩
   ·go_enter func148,ntmps148
    go_wp2
    go_ret2;exact⟨_,_,rfl,.inr (.inl ⟨rfl,_,rfl⟩),zf _ _,qD _ _ _ _⟩
   ·have A:((n:Int)==0)=false:=by simp;omega
    have ht:decide ((10:Int)<(n:Int))=true:=by simp;omega
    go_enter func148,ntmps148
    go_wp2
    go_ret2;exact⟨_,_,rfl,.inr (.inl ⟨rfl,_,rfl⟩),zf _ _,qD _ _ _ _⟩
  ·rw[za hbad,za hbad]
   have C:=iZ (a.map some) m S cap g M f c L w (by simp[D]) (by omega) T (by
     rcases p with p|⟨b,ha,_,B⟩
     ·exact .inl p
     ·exact .inr ⟨b,0,ha,λj Y=>by rw[yO];exact B j _ (zn Y)⟩)
    (λj y v x l=>by
      rw[vz] at x;obtain⟨z,A,rfl⟩:=Qg.1 x;exact E j z v A l) (λy x v l=>by
      rw[xR] at x;obtain⟨z,A,rfl⟩:=x;simp only[Option.some.injEq] at l;subst l;exact k z A) H
   simp only[ui] at C;have hlen:(a.map λv=>f (some v)).length=m.length:=by simp[D]
   have G:¬m.length=0:=by omega
   have s:m.length<=10:=by omega
   clear p E H k hbad N D;have o:=hid hlen;clear hlen;obtain⟨n,r⟩:=Nm m.length;rw[r] at C G s |-;have R:=hid r;clear r;have A:((n:Int)==0)=false:=by simp;omega
   have ht:decide ((10:Int)<(n:Int))=false:=by simp;omega
   go_enter func148,ntmps148
   go_wp2_with (first
    | (go_at_call 101;refine O.mono ?_;rintro e w2 ⟨v,rfl,F,q⟩)
    | (go_at_call 192;refine C.mono ?_;rintro e w1 ⟨oa,U,oc,W,ys,rfl,K,I,J,d,t⟩;have O:=YT _ ys U W w1 (X.below d) (by omega) I J;rw[K] at O))
   go_ret2;refine⟨_,_,rfl,F,d.trans (q.mono d.size),?_⟩;have Z:=ownsRow_below t q;rw[o.out,R.out,ui];exact Z
theorem Uv(x:Option Rd.V)(u:Value)(g:Nat)(b:Array Value)(f:Option Rd.V->BY)(c:Option Rd.V->Nat)(L:Nat)(w:World)(j:xH w)(d:∀args w,(callFunc g args).run prog w = .ok (.enter g args) w)
  (l:OAt w x u)(i:∀v,x=some v->Rd.Good L v)(k:Jz g b f c L w) :
  Calls prog 148 #[u,.func (.func g) #[] b] w (QH w (Rd.qN f x) (Rd.qJ c x)):=by
 by_cases h:∃a,x=some (.list a)
 ·obtain⟨a,rfl⟩:=h;exact MC a u g b f c L w j d l (i _ rfl) k
 ·exact ME x u g b f c L w j d l i k (λa e=>h ⟨a,e⟩)
structure uB (w:World):Prop where
 tabs:Xj w
 max:QC w
 err:xH w
theorem uB.below{w w':World}(h:uB w)(hb:Below w.heap.size w w'):uB w':=⟨h.tabs.below hb,h.max.below hb,h.err.below hb⟩
theorem Oj(x:Option Rd.V)(u:Value)(w:World)(j:uB w)(l:OAt w x u)(m:∀s,x=some (.str s)->s.size<=4000) :
  Calls prog 149 #[u] w (XU w (Rd.strOf x) (Rd.jl x)):=by
 cases x with
 | none=>
  have r:u = .nilIface:=l;subst r;have f:=dU;go_enter func149,ntmps149
  go_wp2
  go_ret2;exact⟨_,rfl,.inr (.inl ⟨rfl,_,rfl⟩),zf _ _⟩
 | some v=>
  have t:ValAt w (λb=>b<w.heap.size) v u:=l;clear l
  cases t with
  | word b=>
   have f:=dW;go_enter func149,ntmps149
   go_wp2
   go_ret2;exact⟨_,rfl,.inr (.inl ⟨rfl,_,rfl⟩),zf _ _⟩
  | list B A p cap g h i=>
   clear g h i;have f:=dS;go_enter func149,ntmps149
   go_wp2
   go_ret2;exact⟨_,rfl,.inr (.inl ⟨rfl,_,rfl⟩),zf _ _⟩
  | obj ms A p cap g h i=>
   clear g h i;have f:=dV;go_enter func149,ntmps149
   go_wp2
   go_ret2;exact⟨_,rfl,.inr (.inl ⟨rfl,_,rfl⟩),zf _ _⟩
  | str s=>
   have q:=m s rfl;have c:=Oi s w (by unfold maxLen;omega) j.max j.tabs;have n:Rd.jl (some (.str s))=Rd.cls false (!Ref.qF s):=rfl;have o:Rd.strOf (some (.str s))=s:=rfl;rw[n,o];unfold Ref.qF;have f:=Vk;clear m n o q j
   cases hP:Ref.parts s with
   | none=>
    rw[hP] at c;clear hP;go_enter func149,ntmps149
    go_wp2_with (go_at_call 117;refine c.mono ?_;rintro e w1 ⟨v,y,rfl,d,a⟩;rcases a with ⟨_,rfl,k,rfl⟩|⟨z,hps,_⟩;rotate_left;cases hps)
    go_ret2;exact⟨_,rfl,.inr (.inr ⟨rfl,k,rfl⟩),d⟩
   | some z=>
    rw[hP] at c;clear hP;go_enter func149,ntmps149
    go_wp2_with (go_at_call 117;refine c.mono ?_;rintro e w1 ⟨v,y,rfl,d,a⟩;rcases a with ⟨hps,_⟩|⟨ps',hps,rfl,hown⟩;cases hps;cases hps)
    go_ret2;exact⟨_,rfl,.inl ⟨rfl,rfl⟩,d⟩
end Go.Proofs.YtagnlbgbnfnapaaGreatDoor
