/- P -/
import Derived.Test.YtdakgnaojakldabGreatDoorT06
import Derived.Test.YtdakgnaojakldabGreatDoorT09
import Derived.Test.YtdakgnaojakldabGreatDoorT12
open Go.Proofs.Tryz
set_option maxRecDepth 100000
set_option maxHeartbeats 1000000
namespace Go.Proofs.YtdakgnaojakldabGreatDoor
open Go.RowKit
def vo(w:World)(ao:Option Addr)(a:List BA):Prop:=
 a=[]\/∃b o,ao=some ⟨b,o,none⟩/\∀j,(h:j<a.length)->w.cell? ⟨b,o+j,none⟩=some (.string a[j])
theorem vN{w c:World}{ao:Option Addr}{a:List BA}(h:vo w ao a)(d:Below w.heap.size w c):vo c ao a:=by
 rcases h with h|⟨b,o,ha,hc⟩
 ·exact .inl h
 ·exact .inr ⟨b,o,ha,λj e=>zb d (hc j e)⟩
def uo(a:List BA)(j:Nat):BA:=a.getD j ⟨#[]⟩
theorem Kq(a:List BA)(j:Nat)(h:j<a.length):uo a j=a[j]:=by
 unfold uo;rw[List.getD_eq_getElem?_getD,List.getElem?_eq_getElem h];rfl
theorem Cn(a:List BA)(ao:Option Addr)(cap g:Nat)(t:Array Value)(p:Nat->Bool)(w:World)(B:a.length<=100000000000)(z:∀args w,(callFunc g args).run prog w = .ok (.enter g args) w)
  (x:vo w ao a)(y:yE g t (λj => .string (uo a j)) a.length p w) :
  Calls prog 125 #[.slice ao a.length cap,.func (.func g) #[] t] w λe q=>
   e = .returned (.tuple #[.int .i64 (((zm p a.length).getD 0:Nat):Int),.bool (zm p a.length).isSome])/\Below w.heap.size w q:=by
 generalize hF:zm p a.length=F;have r:=hid hF;clear hF;go_enter func125,ntmps125
 go_wp2
 go_loopw [10] (λi wr=>∃k:Nat,k<=a.length/\i = .int .i64 k/\(∀j,j<k->p j=false)/\Below w.heap.size w wr) (λi _=>a.length-(intOf i).toNat)
 case atStart=>exact⟨0,Nat.zero_le _,rfl,λj h=>by omega,Below.refl _ _⟩
 case round=>
  obtain⟨k,A,rfl,l,d⟩:=hrel;have m:=hid l;clear l
  by_cases hlt:k<a.length
  ·rcases x with rfl|⟨b,o,rfl,hc⟩
   ·simp at hlt
   have c:=λW l=>y W k hlt l;simp only[Kq a k hlt] at c;have n:=hc k hlt;obtain⟨u,s⟩:=Nm (a[k]);rw[s] at n c;have C:=zb d n;clear s hc n
   cases hpp:p k with
   | false=>
    rw[hpp] at c;have v:=hid hpp;clear hpp
    go_wp2_with (go_at_fn g;refine (c _ d).mono ?_;rintro e q ⟨rfl,f⟩)
    refine⟨⟨k+1,by omega,by go_num,λj h=>?_,d.trans (f.mono d.size)⟩,by simp[intOf];omega⟩
    by_cases hj:j=k
    ·subst hj;exact v.out
    ·exact m.out j (by omega)
   | true=>
    rw[hpp] at c;have e:=kD p a.length k hlt m.out hpp;rw[r.out] at e;subst e;clear hpp
    go_wp2_with (go_at_fn g;refine (c _ d).mono ?_;rintro e q ⟨rfl,f⟩)
    go_ret2;exact⟨rfl,d.trans (f.mono d.size)⟩
  ·have e:=kE p a.length (λj h=>m.out j (by omega));rw[r.out] at e;subst e
   go_wp2
   go_ret2;exact⟨rfl,d⟩
theorem VD(a:List BA)(ao:Option Addr)(cap g:Nat)(d:Array Value)(p:Nat->Bool)(w:World)(k:a.length<=100000000000)(h:∀args w,(callFunc g args).run prog w = .ok (.enter g args) w)
  (i:vo w ao a)(l:yE g d (λj => .string (uo a j)) a.length p w) :
  Calls prog 108 #[.slice ao a.length cap,.func (.func g) #[] d] w λe f=>e = .returned (.bool (zm p a.length).isSome)/\Below w.heap.size w f:=by
 have c:=Cn a ao cap g d p w k h i l;generalize zm p a.length=F at c;go_enter func108,ntmps108
 go_wp2_with (go_at_call 125;refine c.mono ?_;rintro e f ⟨rfl,b⟩)
 go_ret;exact⟨rfl,b⟩
theorem DC(s this:BA)(B:Nat)(w:World)(b:w.cell? ⟨B,0,none⟩=some (.string this)) :
  Calls prog 109 #[.string s,.pointer (some ⟨B,0,none⟩)] w λe a=>e = .returned (.bool (s.toList==this.toList))/\Below w.heap.size w a:=by
 go_enter func109,ntmps109
 go_wp2
 go_ret;exact⟨rfl,Below.refl _ _⟩
theorem Yg{α:Type}(l:List α)(d:α)(f:α->Bool):(zm (λj=>f (l.getD j d)) l.length).isSome=l.any f:=by
 rw[Bool.eq_iff_iff,List.any_eq_true]
 constructor
 ·intro h;obtain⟨k,b⟩:=Option.isSome_iff_exists.1 h;unfold zm at b;rw[List.find?_range_eq_some] at b;have a:k<l.length:=by simpa using b.2.1
  refine⟨l[k],List.getElem_mem a,?_⟩
  have:=b.1
  rw[List.getD_eq_getElem?_getD,List.getElem?_eq_getElem a] at this;exact this
 ·rintro ⟨x,g,c⟩;obtain⟨j,e,rfl⟩:=List.getElem_of_mem g
  cases h:zm (λj=>f (l.getD j d)) l.length with
  | some k=>rfl
  | none=>
   unfold zm at h;rw[List.find?_eq_none] at h
   have:=h j (List.mem_range.2 e)
   rw[List.getD_eq_getElem?_getD,List.getElem?_eq_getElem e] at this;simp at this;rw[this] at c
   cases c
theorem dY(a:List BA)(this:BA)(ao:Option Addr)(cap:Nat)(w:World)(k:a.length<=100000000000)(i:vo w ao a) :
  Calls prog 88 #[.slice ao a.length cap,.string this] w λe f=>e = .returned (.bool (a.any λs=>s.toList==this.toList))/\Below w.heap.size w f:=by
 have b:=nB w (.cells #[.string this] 9);have g:∀args w,(callFunc 109 args).run prog w = .ok (.enter 109 args) w:=enters_of func109 (by kernel_rfl) rfl
 have c:=VD a ao cap 109 #[.pointer (some ⟨w.heap.size,0,none⟩)] (λj=>(uo a j).toList==this.toList) (w.alloc (.cells #[.string this] 9)) k g (vN i b)
  (λW j l h=>DC (uo a j) this w.heap.size W (zb h (by simp)))
 rw[show (zm (λj=>(uo a j).toList==this.toList) a.length).isSome=a.any (λs=>s.toList==this.toList) from Yg a ⟨#[]⟩ (λs=>s.toList==this.toList)] at c
 generalize a.any (λs=>s.toList==this.toList)=F at c;go_enter func88,ntmps88
 go_wp2_with (go_at_call 108;refine c.mono ?_;rintro e f ⟨rfl,d⟩)
 go_ret;exact⟨rfl,b.trans (d.mono (by simp))⟩
def OAt(w:World)(x:Option Rd.V)(u:Value):Prop:=match x with
 | none=>u = .nilIface
 | some v=>ValAt w (λb=>b<w.heap.size) v u
theorem OAt.below{w d:World}{x:Option Rd.V}{u:Value}(h:OAt w x u)(c:Below w.heap.size w d):OAt d x u:=by
 cases x with
 | none=>exact h
 | some v=>exact ValAt.move h (λb a=>Nat.lt_of_lt_of_le a c.size) (λb a=>c.block b a)
def Y2(g:Nat)(a:Array Value)(f:BA->Bool)(L:Nat)(w:World):Prop:=
 ∀W (s:BA),s.size<=L->Below w.heap.size w W->Calls prog g (#[.string s]++a) W λe b=>e = .returned (.bool (f s))/\Below W.heap.size W b
def QM(w:World)(s:BA)(c:Nat)(e:Ending)(a:World):Prop:=∃u,e = .returned (.tuple #[.string s,u])/\FV c u/\Below w.heap.size w a
theorem U8(x:Option Rd.V)(u:Value)(g:Nat)(p:Array Value)(f:BA->Bool)(L:Nat)(w:World)(z:∀args w,(callFunc g args).run prog w = .ok (.enter g args) w)
  (i:OAt w x u)(m:∀s,x=some (.str s)->s.size<=L)(d:Y2 g p f L w) :
  Calls prog 57 #[u,.func (.func g) #[] p] w (QM w (Rd.ql f x) (Rd.zL f x)):=by
 cases x with
 | none=>
  have q:u = .nilIface:=i;subst q;clear i d;have h:=KD;go_enter func57,ntmps57
  go_wp2
  go_ret2;exact⟨_,rfl,.inr (.inl ⟨rfl,_,rfl⟩),Below.refl _ _⟩
 | some v=>
  have r:ValAt w (λb=>b<w.heap.size) v u:=i;clear i
  cases r with
  | word b=>
   clear d;have h:=KF;go_enter func57,ntmps57
   go_wp2
   go_ret2;exact⟨_,rfl,.inr (.inl ⟨rfl,_,rfl⟩),Below.refl _ _⟩
  | list A t ao cap j k l=>
   clear d j k l;have h:=KA;go_enter func57,ntmps57
   go_wp2
   go_ret2;exact⟨_,rfl,.inr (.inl ⟨rfl,_,rfl⟩),Below.refl _ _⟩
  | obj ms t ao cap j k l=>
   clear d j k l;have h:=KE;go_enter func57,ntmps57
   go_wp2
   go_ret2;exact⟨_,rfl,.inr (.inl ⟨rfl,_,rfl⟩),Below.refl _ _⟩
  | str s=>
   have c:=d w s (m s rfl) (Below.refl _ _);have o:Rd.ql f (some (.str s))=if f s then s else ⟨#[]⟩:=rfl
   have n:Rd.zL f (some (.str s))=Rd.cls (!f s) false:=rfl;rw[o,n];clear d m o n
   cases hf:f s with
   | true=>
    rw[hf] at c;clear hf;have h:=YU;go_enter func57,ntmps57
    go_wp2_with (go_at_fn g;refine c.mono ?_;rintro e y ⟨rfl,a⟩)
    go_ret2;exact⟨_,rfl,.inl ⟨rfl,rfl⟩,a⟩
   | false=>
    rw[hf] at c;clear hf;have h:=YU;go_enter func57,ntmps57
    go_wp2_with (go_at_fn g;refine c.mono ?_;rintro e y ⟨rfl,a⟩)
    go_ret2;exact⟨_,rfl,.inr (.inl ⟨rfl,_,rfl⟩),a⟩
theorem Ej(s:BA)(w:World):Calls prog 58 #[.string s] w λe a=>e = .returned (.bool (Rd.xx s))/\Below w.heap.size w a:=by
 unfold Rd.xx
 cases h1:(s.toList==[97,108,108,111,119]) with
 | true=>
  go_enter func58,ntmps58
  go_wp2
  go_ret;exact⟨rfl,Below.refl _ _⟩
 | false=>
  cases h2:(s.toList==[100,101,110,121]) with
  | true=>
   go_enter func58,ntmps58
   go_wp2
   go_ret;exact⟨rfl,Below.refl _ _⟩
  | false=>
   go_enter func58,ntmps58
   go_wp2
   go_ret;exact⟨rfl,Below.refl _ _⟩
def nT(g:Nat)(b:Array Value)(a:Nat->Value)(n:Nat)(f:Nat->BA)(c:Nat->Nat)(w:World):Prop:=
 ∀W j,j<n->Below w.heap.size w W->Calls prog g (#[a j]++b) W (QM W (f j) (c j))
def qh(f:Nat->BA)(n k:Nat):List Value:=(List.range n).map λj=>if j<k then .string (f j) else .string ⟨#[]⟩
theorem OX(f:Nat->BA)(n k:Nat):(qh f n k).set k (.string (f k))=qh f n (k+1):=by
 apply List.ext_getElem
 ·simp[qh]
 intro i a b;simp only[qh,List.length_set,List.length_map,List.length_range] at a b;simp only[qh,List.getElem_set,List.getElem_map,List.getElem_range]
 by_cases e:k=i
 ·subst e;simp
 ·rw[if_neg e]
  by_cases h:i<k
  ·rw[if_pos h,if_pos (by omega)]
  ·rw[if_neg h,if_neg (by omega)]
theorem OZ(f:Nat->BA)(n:Nat):qh f n 0=List.replicate n (.string ⟨#[]⟩):=by
 apply List.ext_getElem
 ·simp[qh]
 intro i a b;simp[qh]
theorem OV(f:Nat->BA)(n k:Nat)(h:k<n):(qh f n k)[k]?=some (.string ⟨#[]⟩):=by
 simp[qh,h]
def jy(c:Nat->Nat)(n k:Nat)(a:List Value):Prop:=a.length=n/\(∀j,j<k->FV (c j) (a.getD j .nilIface))/\∀j,k<=j->j<n->a[j]?=some .nilIface
theorem jy.set{c:Nat->Nat}{n k:Nat}{b:List Value}(h:jy c n k b)(m:k<n){u:Value}(l:FV (c k) u):jy c n (k+1) (b.set k u):=by
 obtain⟨d,f,g⟩:=h;refine⟨by simp[d],λj i=>?_,λj i a=>?_⟩
 ·rw[List.getD_eq_getElem?_getD,List.getElem?_set]
  by_cases e:k=j
  ·subst e;rw[if_pos rfl,if_pos (by omega)];exact l
  ·rw[if_neg e]
   have:=f j (by omega)
   rwa [List.getD_eq_getElem?_getD] at this
 ·rw[List.getElem?_set,if_neg (by omega)];exact g j (by omega) a
theorem jy.start(c:Nat->Nat)(n:Nat):jy c n 0 (List.replicate n .nilIface):=⟨by simp,λj a=>by omega,λj _ a=>by simp[a]⟩
theorem jy.done{c:Nat->Nat}{n:Nat}{f:List Value}(h:jy c n n f):FVs ((List.range n).map c) f:=by
 obtain⟨g,i,k⟩:=h;refine⟨by simp[g],λj d u a e=>?_⟩;have b:j<n:=by have:=(List.getElem?_eq_some_iff.1 e).1;omega
 have:=i j b
 rw[List.getD_eq_getElem?_getD,e] at this;simp[b] at a;subst a;exact this
def nO(w:World)(n:Nat)(f:Nat->BA)(c:Nat->Nat)(e:Ending)(a:World):Prop:=
 ∃(g d:Option Addr) (h i:Nat) (b:List Value),e = .returned (.tuple #[.slice g n h,.slice d n i])/\b.length=n/\yt a d b/\FVs ((List.range n).map c) b/\Below w.heap.size w a /\
  a.ownsRow w.heap.size 9 1 (.slice g n h) n (qh f n n)
theorem AU(r:List Value)(ao:Option Addr)(cap g:Nat)(lb:Array Value)(f:Nat->BA)(c:Nat->Nat)(w:World)(hn:r.length<=10000)(eg:∀args w,(callFunc g args).run prog w = .ok (.enter g args) w)
  (hm:yt w ao r)(R:∀u ∈ r,u = .nilIface\/∃T x,u = .iface T x)(hp:nT g lb (λj=>r.getD j .nilIface) r.length f c w) :
  Calls prog 112 #[.slice ao r.length cap,.func (.func g) #[] lb] w (nO w r.length f c):=by
 obtain⟨i0,hi,a8,a9,b0⟩:=info_parts (show (prog.info? 9).map (λi=>(i.zero,i.size,i.bytes))=some (some (.string ⟨#[]⟩),1,16) by kernel_rfl);obtain⟨i1,hj,a7,hy1,hy2⟩:=info_parts (show (prog.info? 70).map (λi=>(i.zero,i.size,i.bytes))=some (some .nilIface,1,16) by kernel_rfl);obtain⟨n,H⟩:=Nm r.length;rw[H] at hn hp |-;have HM:=hid hm;have a0:=hid R;have HP:=hid hp;have a1:=hid H;clear hm R hp H;go_enter func112,ntmps112
 go_wp2_with (at_make;refine wpList_make_full _ rfl _ _ 47 rfl w.heap.size 9 i0 (.string ⟨#[]⟩) 1 underlying47 hi a8 a9 _ _ _ _ n rfl rfl ?_ ?_ ?_ ?_ ?_ ?_)
 ·omega
 ·omega
 ·rw[b0];omega
 ·unfold maxLen;omega
 ·omega
 intro W F t
 have I:W.ownsRow w.heap.size 9 1 (.slice (some ⟨w.heap.size,0,none⟩) n n) n (qh f n 0):=by
  rw[OZ,<- toList_madeCells_one];exact F
 have p:Below w.heap.size w W:=(Below.refl _ w).grown t (Nat.le_refl _) (λk Y=>by cases Y);clear F
 go_wp2_with (at_make;refine wpList_make_full _ rfl _ _ 97 rfl w.heap.size 70 i1 .nilIface 1 underlying97 hj a7 hy1 _ _ _ _ n rfl rfl ?_ ?_ ?_ ?_ ?_ ?_)
 ·omega
 ·omega
 ·rw[hy2];omega
 ·unfold maxLen;omega
 ·have:=p.size;omega
 intro w2 G m
 have J:w2.ownsRow w.heap.size 70 1 (.slice (some ⟨W.heap.size,0,none⟩) n n) n (List.replicate n .nilIface):=by
  rw[<- toList_madeCells_one];exact G
 have E:=I.kept m (.inr (by simp[Value.ownBlock]));have S:w.heap.size<W.heap.size:=(I.lt _ rfl).2;have D:Below w.heap.size w w2:=p.grown m p.size (λk Y=>by cases Y);obtain⟨s,P⟩:=Nm W.heap.size;rw[P] at J S |-;have U:w.heap.size≠s:=by omega
 have M:=hid E;have N:=hid J;have L:=hid D;clear G m t I p E J D P;go_wp2_with fail
 go_loopw [18] (λiv wr=>∃(k:Nat) (K:List Value),k<=n/\iv = .int .i64 k/\jy c n k K/\wr.ownsRow w.heap.size 9 1 (.slice (some ⟨w.heap.size,0,none⟩) n n) n (qh f n k)/\wr.ownsRow w.heap.size 70 1 (.slice (some ⟨s,0,none⟩) n n) n K/\Below w.heap.size w wr) (λiv _=>n-(intOf iv).toNat)
 case atStart=>exact⟨0,_,Nat.zero_le _,rfl,jy.start c n,M.out,N.out,L.out⟩
 case round=>
  obtain⟨k,K,Y,rfl,V,ro,re,rb⟩:=hrel;clear M N L;have RO:=hid ro;have RE:=hid re;have O:=hid rb;have B:=hid V;clear ro re rb V
  by_cases hlt:k<n
  ·have A:k<r.length:=by rw[a1.out];exact hlt
   have Q:r.getD k .nilIface=r[k]:=by rw[List.getD_eq_getElem?_getD,List.getElem?_eq_getElem A];rfl
   have C:=HP.out wr k hlt O.out;have hv:=a0.out r[k] (List.getElem_mem A)
   rcases HM.out with hnil|⟨b,o,hao,hc⟩
   ·rw[hnil] at A;simp at A
   subst hao;have q:=zb O.out (hc k A);simp only[Q] at C;obtain⟨u,hu⟩:=Nm (r[k]);rw[hu] at q C hv;clear hu hc Q
   have fin:Hid (∀l x,Below wr.heap.size wr l->FV (c k) x->jy c n (k+1) (K.set k x)/\((l.setCell ⟨w.heap.size,k,none⟩ (.string (f k))).setCell ⟨s,k,none⟩ x).ownsRow w.heap.size 9 1 (.slice (some ⟨w.heap.size,0,none⟩) n n) n (qh f n (k+1)) /\
     ((l.setCell ⟨w.heap.size,k,none⟩ (.string (f k))).setCell ⟨s,k,none⟩ x).ownsRow w.heap.size 70 1 (.slice (some ⟨s,0,none⟩) n n) n (K.set k x)/\Below w.heap.size w ((l.setCell ⟨w.heap.size,k,none⟩ (.string (f k))).setCell ⟨s,k,none⟩ x)):=by
    intro l x d hx;have Z:=ownsRow_below RO.out d;have X:=ownsRow_below RE.out d;have o4:=(Z.stored k (.string (f k))).1;rw[OX] at o4;have e4:=ownsRow_setCell_other X (a:=⟨w.heap.size,k,none⟩) (by simp only[Value.ownBlock];intro e;simp only[Option.some.injEq] at e;exact U e.symm) (.string (f k));exact⟨B.out.set hlt hx,ownsRow_setCell_other o4 (by simp only[Value.ownBlock];intro e;simp only[Option.some.injEq] at e;exact U e) _,(e4.stored k x).1,((O.out.trans (d.mono O.out.size)).setCell (Nat.le_refl _) _).setCell (by show w.heap.size<=s;omega) _⟩
   have cells:Hid (∀l,Below wr.heap.size wr l->l.cell? ⟨w.heap.size,k,none⟩=some (.string ⟨#[]⟩)/\l.frozen? ⟨w.heap.size,k,none⟩=false/\l.cell? ⟨s,k,none⟩=some .nilIface/\l.frozen? ⟨s,k,none⟩=false):=by
    intro l d;have Z:=ownsRow_below RO.out d;have X:=ownsRow_below RE.out d;exact⟨(Z.cellAt k (by omega)).trans (OV f n k hlt),Z.frozenAt k,(X.cellAt k (by omega)).trans (B.out.2.2 k (Nat.le_refl _) hlt),X.frozenAt k⟩
   rcases hv with rfl|⟨T,y,rfl⟩
   ·go_wp2_with (go_at_fn g;refine C.mono ?_;rintro e l ⟨x,rfl,v,d⟩;obtain⟨d1,d2,d3,d4⟩:=cells.out l d;have h:=hid (fin.out l x d v);rcases v.form with rfl|⟨T,z,rfl⟩)
    all_goals
     go_roundw
     case rel=>exact⟨k+1,_,by omega,by go_num,h.out.1,h.out.2.1,h.out.2.2.1,h.out.2.2.2⟩
     case measure=>simp[intOf];omega
   ·go_wp2_with (go_at_fn g;refine C.mono ?_;rintro e l ⟨x,rfl,v,d⟩;obtain⟨d1,d2,d3,d4⟩:=cells.out l d;have h:=hid (fin.out l x d v);rcases v.form with rfl|⟨T,z,rfl⟩)
    all_goals
     go_roundw
     case rel=>exact⟨k+1,_,by omega,by go_num,h.out.1,h.out.2.1,h.out.2.2.1,h.out.2.2.2⟩
     case measure=>simp[intOf];omega
  ·have a5:k=n:=by omega
   subst a5;have hE:=B.out.done;have hl:=B.out.1
   go_wp2
   go_ret2;refine⟨_,_,_,_,K,rfl,hl,?_,hE,O.out,RO.out⟩;exact .inr ⟨s,0,rfl,λj hj=>by rw[Nat.zero_add];exact (RE.out.cellAt j (by omega)).trans (List.getElem?_eq_getElem hj)⟩
def Yb(g:Nat)(a:Array Value)(f:Option Rd.V->BA)(c:Option Rd.V->Nat)(L:Nat)(w:World):Prop:=
 ∀W (y:Option Rd.V) (u:Value),(∀v,y=some v->Rd.Good L v)->OAt W y u->Below w.heap.size w W->Calls prog g (#[u]++a) W (QM W (f y) (c y))
def ZK(w:World)(b:List BA)(c:Nat)(e:Ending)(d:World):Prop:=
 ∃a u,e = .returned (.tuple #[a,u])/\FV c u/\Below w.heap.size w d/\d.ownsRow w.heap.size 9 1 a b.length (b.map Value.string)
theorem OAt.form{w:World}{x:Option Rd.V}{u:Value}(h:OAt w x u):u = .nilIface\/∃T y,u = .iface T y:=by
 cases x with
 | none=>exact .inl h
 | some v=>exact .inr (ValAt.iface h)
theorem XU{α β:Type}(l:List α)(d:α)(f:α->β):(List.range l.length).map (λj=>f (l.getD j d))=l.map f:=by
 apply List.ext_getElem
 ·simp
 intro i a b;simp only[List.length_map,List.length_range] at a;simp[a]
theorem bW(xs:List (Option Rd.V))(a:List Value)(ao:Option Addr)(cap g:Nat)(q:Array Value)(f:Option Rd.V->BA)(c:Option Rd.V->Nat)(L:Nat)(w:World)(y:a.length=xs.length)(F:a.length<=10000)(A:∀args w,(callFunc g args).run prog w = .ok (.enter g args) w)
  (E:yt w ao a)(J:∀(j:Nat) (x:Option Rd.V) (u:Value),xs[j]?=some x->a[j]?=some u->OAt w x u)(D:∀x ∈ xs,∀v,x=some v->Rd.Good L v)(G:Yb g q f c L w) :
  Calls prog 112 #[.slice ao a.length cap,.func (.func g) #[] q] w λe o=>
   ∃(m l:Option Addr) (n p:Nat) (k:List Value),e = .returned (.tuple #[.slice m a.length n,.slice l a.length p])/\k.length=a.length/\yt o l k/\FVs (xs.map c) k/\Below w.heap.size w o /\
    o.ownsRow w.heap.size 9 1 (.slice m a.length n) a.length ((xs.map f).map Value.string):=by
 have i:∀j,(h:j<a.length)->OAt w (xs.getD j none) a[j]:=λj h=>by
  have b:j<xs.length:=by omega
  rw[List.getD_eq_getElem?_getD,List.getElem?_eq_getElem b];exact J j _ _ (List.getElem?_eq_getElem b) (List.getElem?_eq_getElem h)
 refine (AU a ao cap g q (λj=>f (xs.getD j none)) (λj=>c (xs.getD j none)) w F A E ?_ ?_).mono ?_
 ·intro u H;obtain⟨j,d,rfl⟩:=List.getElem_of_mem H;exact (i j d).form
 ·intro W j d t;have b:j<xs.length:=by omega
  have:=G W (xs.getD j none) a[j] (λv I=>D _ (by rw[List.getD_eq_getElem?_getD,List.getElem?_eq_getElem b];exact List.getElem_mem b) v I) ((i j d).below t) t
  rw[show a[j]=a.getD j .nilIface by rw[List.getD_eq_getElem?_getD,List.getElem?_eq_getElem d];rfl] at this;exact this
 ·rintro e o ⟨m,l,n,p,k,rfl,B,b,r,C,s⟩;refine⟨m,l,n,p,k,rfl,B,b,?_,C,?_⟩
  ·rw[y,XU] at r;exact r
  ·have z:qh (λj=>f (xs.getD j none)) a.length a.length=(xs.map f).map Value.string:=by
    rw[y,List.map_map,<- XU xs none (Value.string ∘ f)];unfold qh;refine List.map_congr_left λj d=>?_;rw[if_pos (List.mem_range.1 d)]
    rfl
   rw[z] at s;exact s
theorem Kw{w:World}{x:Option Rd.V}{u:Value}(h:OAt w x u)(e:∀a,x≠some (.list a))(W:World):(Instr.typeAssert u 85 92 true).run prog W = .ok (.tuple #[.slice none 0 0,.bool false]) W:=by
 cases x with
 | none=>
  have c:u = .nilIface:=h;subst c;exact Pq W
 | some v=>
  have d:ValAt w (λb=>b<w.heap.size) v u:=h
  cases d with
  | str s=>exact Pt _ W
  | word b=>exact Pv _ W
  | list a=>exact absurd rfl (e a)
  | obj ms=>exact Ps _ W
theorem gV(c:Option Rd.V->Nat)(f:Option Rd.V->BA)(x:Option Rd.V)(d:∀a,x≠some (.list a)):Rd.qf c x=Rd.zT [c x]/\Rd.qj f x=[f x]:=by
 match x with
 | none=>exact⟨rfl,rfl⟩
 | some (.str s)=>exact⟨rfl,rfl⟩
 | some (.word b)=>exact⟨rfl,rfl⟩
 | some (.obj ms)=>exact⟨rfl,rfl⟩
 | some (.list a)=>exact absurd rfl (d a)
theorem Ij(x:Option Rd.V)(u:Value)(g:Nat)(D:Array Value)(f:Option Rd.V->BA)(c:Option Rd.V->Nat)(L:Nat)(w:World)(F:qQ w)(H:∀args w,(callFunc g args).run prog w = .ok (.enter g args) w)
  (t:OAt w x u)(M:∀v,x=some v->Rd.Good L v)(G:Yb g D f c L w)(i:∀Q,x≠some (.list Q)) :
  Calls prog 90 #[u,.func (.func g) #[] D] w (ZK w (Rd.qj f x) (Rd.qf c x)):=by
 have S:=λW=>Kw t i W;rw[(gV c f x i).1,(gV c f x i).2];have h:=nB w (.cells #[u] 85)
 have z:=bW [x] [u] (some ⟨w.heap.size,0,none⟩) 1 g D f c L (w.alloc (.cells #[u] 85)) rfl (by simp) H (.inr ⟨w.heap.size,0,rfl,λj N=>by
   simp only[List.length_singleton] at N
   have:j=0:=by omega
   subst this
   simp⟩) (λj y v p s=>by
   cases j with
   | zero=>
    simp only[List.getElem?_cons_zero,Option.some.injEq] at p s;subst p;subst s;exact t.below h
   | succ j=>simp at p) (λy p v s=>by simp only[List.mem_singleton] at p;subst p;exact M v s) (λW y v I J K=>G W y v I J (h.trans (K.mono (by simp))))
 simp only[List.map_cons,List.map_nil,List.length_singleton] at z;have C:=t.form;clear t G i
 rcases C with rfl|⟨T,y,rfl⟩
 ·go_enter func90,ntmps90
  go_wp2_with (first
   | (go_at_call 61;refine q.mono ?_;rintro e R ⟨v,rfl,l,b⟩)
   | (go_at_call 112;refine z.mono ?_;rintro e r ⟨O,A,P,B,E,rfl,o,m,n,k,d⟩;have a:Below w.heap.size w r:=h.trans (k.mono (by simp));have q:=XC [c x] E A B r (F.below a) (by omega) m n;rw[o] at q))
  go_ret2;exact⟨_,_,rfl,l,a.trans (b.mono a.size),ownsRow_below (jZ d (by simp)) b⟩
 ·go_enter func90,ntmps90
  go_wp2_with (first
   | (go_at_call 61;refine q.mono ?_;rintro e R ⟨v,rfl,l,b⟩)
   | (go_at_call 112;refine z.mono ?_;rintro e r ⟨O,A,P,B,E,rfl,o,m,n,k,d⟩;have a:Below w.heap.size w r:=h.trans (k.mono (by simp));have q:=XC [c x] E A B r (F.below a) (by omega) m n;rw[o] at q))
  go_ret2;exact⟨_,_,rfl,l,a.trans (b.mono a.size),ownsRow_below (jZ d (by simp)) b⟩
theorem Ii(a:List Rd.V)(u:Value)(g:Nat)(M:Array Value)(f:Option Rd.V->BA)(c:Option Rd.V->Nat)(L:Nat)(w:World)(W:qQ w)(S:∀args w,(callFunc g args).run prog w = .ok (.enter g args) w)
  (Q:OAt w (some (.list a)) u)(N:Rd.Good L (.list a))(H:Yb g M f c L w) :
  Calls prog 90 #[u,.func (.func g) #[] M] w (ZK w (Rd.qj f (some (.list a))) (Rd.qf c (some (.list a)))):=by
 have l:ValAt w (λb=>b<w.heap.size) (.list a) u:=Q;clear Q;have ta:=Kv;have k:∀v ∈ a,Rd.Good L v:=by cases N with|list _ _ h=>exact h
 have B:Rd.qf c (some (.list a))=if a.length<1\/10<a.length then 1 else Rd.zT (a.map λv=>c (some v)):=rfl
 have P:Rd.qj f (some (.list a))=if a.length<1\/10<a.length then [] else a.map λv=>f (some v):=rfl
 rw[B,P];clear B P
 cases l with
 | list _ m ao cap D p E=>
  by_cases hbad:a.length<1\/10<a.length
  ·rw[if_pos hbad,if_pos hbad];obtain⟨n,r⟩:=Nm m.length;rw[r];have i:n=0\/(¬n=0/\10<n):=by omega
   clear p E H k
   rcases i with rfl|⟨h0,h10⟩
   ·go_enter func90,ntmps90
    go_wp2
    go_ret2;exact⟨_,_,rfl,.inr (.inl ⟨rfl,_,rfl⟩),Below.refl _ _,World.ownsRow_nil _ _ _ _⟩
   ·have A:((n:Int)==0)=false:=by simp;omega
    have Z:decide ((10:Int)<(n:Int))=true:=by simp;omega
    go_enter func90,ntmps90
    go_wp2
    go_ret2;exact⟨_,_,rfl,.inr (.inl ⟨rfl,_,rfl⟩),Below.refl _ _,World.ownsRow_nil _ _ _ _⟩
  ·rw[if_neg hbad,if_neg hbad]
   have C:=bW (a.map some) m ao cap g M f c L w (by simp[D]) (by omega) S (by
     rcases p with p|⟨b,ha,_,B⟩
     ·exact .inl p
     ·exact .inr ⟨b,0,ha,λj X=>by rw[Nat.zero_add];exact B j _ (List.getElem?_eq_getElem X)⟩)
    (λj y v x l=>by
      rw[List.getElem?_map] at x;obtain⟨z,A,rfl⟩:=Option.map_eq_some_iff.1 x;exact E j z v A l) (λy x v l=>by
      rw[List.mem_map] at x;obtain⟨z,A,rfl⟩:=x;simp only[Option.some.injEq] at l;subst l;exact k z A) H
   simp only[List.map_map] at C;have hlen:(a.map λv=>f (some v)).length=m.length:=by simp[D]
   have G:¬m.length=0:=by omega
   have s:m.length<=10:=by omega
   clear p E H k hbad N D;have o:=hid hlen;clear hlen;obtain⟨n,r⟩:=Nm m.length;rw[r] at C G s |-;have R:=hid r;clear r;have A:((n:Int)==0)=false:=by simp;omega
   have Z:decide ((10:Int)<(n:Int))=false:=by simp;omega
   go_enter func90,ntmps90
   go_wp2_with (first
    | (go_at_call 61;refine O.mono ?_;rintro e w2 ⟨v,rfl,F,q⟩)
    | (go_at_call 112;refine C.mono ?_;rintro e w1 ⟨oa,T,oc,U,ys,rfl,K,I,J,d,t⟩;have O:=XC _ ys T U w1 (W.below d) (by omega) I J;rw[K] at O))
   go_ret2;refine⟨_,_,rfl,F,d.trans (q.mono d.size),?_⟩;have Y:=ownsRow_below t q;rw[o.out,R.out,List.map_map];exact Y
theorem JN(x:Option Rd.V)(u:Value)(g:Nat)(b:Array Value)(f:Option Rd.V->BA)(c:Option Rd.V->Nat)(L:Nat)(w:World)(j:qQ w)(d:∀args w,(callFunc g args).run prog w = .ok (.enter g args) w)
  (l:OAt w x u)(i:∀v,x=some v->Rd.Good L v)(k:Yb g b f c L w) :
  Calls prog 90 #[u,.func (.func g) #[] b] w (ZK w (Rd.qj f x) (Rd.qf c x)):=by
 by_cases h:∃a,x=some (.list a)
 ·obtain⟨a,rfl⟩:=h;exact Ii a u g b f c L w j d l (i _ rfl) k
 ·exact Ij x u g b f c L w j d l i k (λa e=>h ⟨a,e⟩)
structure vv (w:World):Prop where
 tabs:jQ w
 max:ZF w
 err:qQ w
theorem vv.below{w b:World}(h:vv w)(a:Below w.heap.size w b):vv b:=⟨h.tabs.below a,h.max.below a,h.err.below a⟩
theorem Mh(x:Option Rd.V)(u:Value)(w:World)(j:vv w)(l:OAt w x u)(m:∀s,x=some (.str s)->s.size<=4000) :
  Calls prog 91 #[u] w (QM w (Rd.strOf x) (Rd.xB x)):=by
 cases x with
 | none=>
  have q:u = .nilIface:=l;subst q;have f:=KD;go_enter func91,ntmps91
  go_wp2
  go_ret2;exact⟨_,rfl,.inr (.inl ⟨rfl,_,rfl⟩),Below.refl _ _⟩
 | some v=>
  have r:ValAt w (λb=>b<w.heap.size) v u:=l;clear l
  cases r with
  | word b=>
   have f:=KF;go_enter func91,ntmps91
   go_wp2
   go_ret2;exact⟨_,rfl,.inr (.inl ⟨rfl,_,rfl⟩),Below.refl _ _⟩
  | list B z ao cap g h i=>
   clear g h i;have f:=KA;go_enter func91,ntmps91
   go_wp2
   go_ret2;exact⟨_,rfl,.inr (.inl ⟨rfl,_,rfl⟩),Below.refl _ _⟩
  | obj ms z ao cap g h i=>
   clear g h i;have f:=KE;go_enter func91,ntmps91
   go_wp2
   go_ret2;exact⟨_,rfl,.inr (.inl ⟨rfl,_,rfl⟩),Below.refl _ _⟩
  | str s=>
   have p:=m s rfl;have c:=lh s w (by unfold maxLen;omega) j.max j.tabs;have n:Rd.xB (some (.str s))=Rd.cls false (!Ref.qX s):=rfl;have o:Rd.strOf (some (.str s))=s:=rfl;rw[n,o];unfold Ref.qX;have f:=YU;clear m n o p j
   cases hP:Ref.parts s with
   | none=>
    rw[hP] at c;clear hP;go_enter func91,ntmps91
    go_wp2_with (go_at_call 113;refine c.mono ?_;rintro e A ⟨v,y,rfl,d,a⟩;rcases a with ⟨_,rfl,k,rfl⟩|⟨t,hps,_⟩;rotate_left;cases hps)
    go_ret2;exact⟨_,rfl,.inr (.inr ⟨rfl,k,rfl⟩),d⟩
   | some t=>
    rw[hP] at c;clear hP;go_enter func91,ntmps91
    go_wp2_with (go_at_call 113;refine c.mono ?_;rintro e A ⟨v,y,rfl,d,a⟩;rcases a with ⟨hps,_⟩|⟨ps',hps,rfl,hown⟩;cases hps;cases hps)
    go_ret2;exact⟨_,rfl,.inl ⟨rfl,rfl⟩,d⟩
end Go.Proofs.YtdakgnaojakldabGreatDoor
