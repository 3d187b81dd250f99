/- P -/
import Derived.Test.YtdakgnaojakldaaGreatDoorS20
open Go.Proofs.Tryz
set_option maxRecDepth 100000
set_option maxHeartbeats 2000000
namespace Go.Proofs.YtdakgnaojakldaaGreatDoor
open Go.RowKit
def UO(w:World)(R:Nat)(s:BY)(r:Rd.Res (List (BY×Rd.V)))(e:Ending)(a:World):Prop:=match r with
 | .ok ms q=>∃b,e = .returned (.tuple #[b,.nilIface])/\ValAt a (Blk w a) (.obj ms) (.iface 118 b)/\w.grownBy a (some R)/\zk a R s q
 | .err c q=>∃b,e = .returned (.tuple #[b,vk c q])/\w.grownBy a (some R)
theorem Ej(s:BY)(R d F:Nat)(b:World)(o:s.size<=4000)(l:R<b.heap.size)(e:R≠5)(k:5<b.heap.size)(p:vZ s R F) :
  Reads s R 191 #[.pointer (some ⟨b.heap.size,0,none⟩),.pointer (some ⟨b.heap.size+1,0,none⟩),.pointer (some ⟨b.heap.size+2,0,none⟩)] (Rd.stO s.data.toList d) F d (uS b R s d) (QH b R) where
 rd:=λ_ _ _ h=>h.rd
 mv:=λ_ _ _ _ _ h g m n=>h.mv l e g m n
 bad:=λ_ _ _ h=>by
  obtain⟨ao,cap,u,c1,_⟩:=h.row;exact⟨h.grown,_,c1⟩
 adv:=λf a q r t g hb i h=>by
  unfold Rd.stO at h
  cases hx:Rd.kC s.data.toList d f a q with
  | ok v q2=>
   rw[hx] at h;injection h with h1 h2
   rw[<- h2];exact dH g i hx
  | err c q2=>rw[hx] at h;cases h
 one:=λf a q w i hd hi g _ j=>Ei s R d F b o l e k hd p f a q w i hi g j
theorem uS.val{a:World}{R:Nat}{s:BY}{d:Nat}{acc:List (BY×Rd.V)}{q:Nat}{w:World}(h:uS a R s d acc q w):∃l,w.cell? ⟨a.heap.size+2,0,none⟩=some l/\ValAt w (Blk a w) (.obj acc) (.iface 118 l):=by
 obtain⟨ao,cap,i,c1,c2,c3,k,c4⟩:=h.row;refine⟨_,c1,?_⟩;have n:i.length=acc.length:=by have:=congrArg List.length k;simpa using this
 have e:∀(j:Nat) (x:BY×Rd.V) (u:BY×Value),acc[j]?=some x->i[j]?=some u->ValAt w (Blk a w) x.2 u.2:=λj v u r p=>(c4 j v u r p).move (λb hb=>⟨by omega,hb.2.1⟩) (λ_ _=>rfl);have f:=bW c3;rw[<- n];refine .obj acc i ao cap k ?_ e
 rcases f with h0|⟨b,o,ha,hc⟩
 ·exact .inl h0
 ·rcases c3.2 with ⟨h1,h2⟩|⟨g,c,cur,h1,hB,hg,hrest⟩
  ·exact .inl (List.eq_nil_of_length_eq_zero (by omega))
  ·injection h1 with h1 h2 h3
   rw[h1] at ha;injection ha with ha
   injection ha with hb ho
   subst hb;refine .inr ⟨g,h1,⟨by omega,(Array.getElem?_eq_some_iff.1 hg).1⟩,λj x t=>?_⟩;obtain⟨m,rfl⟩:=List.getElem?_eq_some_iff.1 t
   have:=hc j m
   rw[<- ho] at this
   simpa using this
theorem Em(s:BY)(R p d F:Nat)(w:World)(x:zk w R s p)(t:zT w)(k:R≠5)(I:p<s.size)(D:s.size<=4000)(hd:d<=9)(n:vZ s R F)(hF:2*(s.size-(p+1))+1<F) :
  Calls prog 144 #[.pointer (some ⟨R,0,none⟩),.int .i64 (d:Int)] w λe b=>UO w R s (Rd.yY s.data.toList (Rd.stO s.data.toList d) 125 F d [] p) e b:=by
 have H:=x.lt;have r:=t.lt;have E:∀args w,(callFunc 191 args).run prog w = .ok (.enter 191 args) w:=enters_of func191 (by kernel_rfl) rfl;have l:∀A B C:Obj,w.grownBy (((w.alloc A).alloc B).alloc C) (some R):=λA B C=>zD (zD (World.grownBy_alloc w A _) (World.grownBy_alloc _ B _)) (World.grownBy_alloc _ C _)
 have f:uS w R s d [] p (((w.alloc (.cells #[.pointer (some ⟨R,0,none⟩)] 195)).alloc (.cells #[.int .i64 (d:Int)] 3)).alloc (.cells #[.slice none 0 0] 118)):=by
  have m:=ig w (.pointer (some ⟨R,0,none⟩)) (.int .i64 (d:Int)) (.slice none 0 0) 195 3 118;exact⟨((x.alloc _).alloc _).alloc _,t.grown (l _ _ _) k,l _ _ _,by simp,Nat.zero_le _,m.1,m.2.1,none,0,[],m.2.2.1,m.2.2.2,World.ownsRow_nil _ _ _ _,rfl,λj v u n=>by simp at n⟩
 have hit:=aY s R p d 125 191 F _ (Rd.stO s.data.toList d) (uS w R s d) (QH w R) [] _ E (Ej s R d F w D H k r n) f I D (by omega) (by decide) (by decide) hF;clear f n x t
 cases hx:Rd.yY s.data.toList (Rd.stO s.data.toList d) 125 F d [] p with
 | ok K q=>
  rw[hx] at hit
  have g:=hit.mono (R':=λe b=>e = .returned .nilIface/\∃a,b.cell? ⟨w.heap.size+2,0,none⟩=some a/\ValAt b (Blk w b) (.obj K) (.iface 118 a)/\w.grownBy b (some R)/\zk b R s q) (by
   rintro e b ⟨rfl,h⟩;obtain⟨a,o,G⟩:=h.val;exact⟨rfl,a,o,G,h.grown,h.rd⟩)
  clear hit hx;go_enter func144,ntmps144
  go_wp2_with (go_at_call 190;refine g.mono ?_;rintro e L ⟨rfl,a,J,z,i,y⟩)
  go_ret2;exact⟨a,rfl,z,i,y⟩
 | err c q=>
  rw[hx] at hit
  have g:=hit.mono (R':=λe b=>e = .returned (vk c q)/\∃a,b.cell? ⟨w.heap.size+2,0,none⟩=some a/\w.grownBy b (some R)) (by
   rintro e b ⟨rfl,h,a,o⟩;exact⟨rfl,a,o,h⟩)
  clear hit hx;go_enter func144,ntmps144
  go_wp2_with (go_at_call 190;refine g.mono ?_;rintro e L ⟨rfl,a,J,i⟩)
  go_ret2;exact⟨a,rfl,i⟩
theorem bG(s:BY)(R p d F:Nat)(w:World)(f:zk w R s p)(c:zT w)(a:R≠5)(b:p<s.size)(g:s.size<=4000)(hd:d<=9)(i:vZ s R F)(hF:2*(s.size-(p+1))+1<F)(r:Rd.Res (List Rd.V))(h:Rd.yY s.data.toList (Rd.stL s.data.toList d) 93 F d [] p=r) :
  Calls prog 145 #[.pointer (some ⟨R,0,none⟩),.int .i64 (d:Int)] w λe j=>Xr w R s r e j:=by
 rw[<- h];exact CZ s R p d F w f c a b g hd i hF
theorem dK(s:BY)(R p d F:Nat)(w:World)(f:zk w R s p)(c:zT w)(a:R≠5)(b:p<s.size)(g:s.size<=4000)(hd:d<=9)(i:vZ s R F)(hF:2*(s.size-(p+1))+1<F)(r:Rd.Res (List (BY×Rd.V)))(h:Rd.yY s.data.toList (Rd.stO s.data.toList d) 125 F d [] p=r) :
  Calls prog 144 #[.pointer (some ⟨R,0,none⟩),.int .i64 (d:Int)] w λe j=>UO w R s r e j:=by
 rw[<- h];exact Em s R p d F w f c a b g hd i hF
theorem Blk.later{w a c:World}{b:Nat}(h:Blk a c b)(d:w.heap.size<=a.heap.size):Blk w c b:=⟨by have:=h.1;omega,h.2⟩
theorem Mw(s:BY)(R f d p:Nat)(w:World)(M:zk w R s p)(L:zT w)(v:R≠5)(C:p<=s.size)(A:s.size<=4000)(hd:d<=9)(O:2*(s.size-p)<f+1)(G:vZ s R f) :
  Calls prog 93 #[.pointer (some ⟨R,0,none⟩),.int .i64 (d:Int)] w λe E=>yU w R s (starts s p) (Rd.zL s.data.toList (f+1) d p) e E:=by
 obtain⟨b,hb⟩:=Nm (Rd.zf s.data.toList p)
 have o:=(Xd s R p w M C).mono (R':=λe E=>e = .returned (.int .u8 (b:Int))/\zk E R s p/\w.grownBy E (some R)/\zT E) (by
  rintro e E ⟨rfl,N,J,_,_⟩;exact⟨by rw[hb],N,J,L.grown J v⟩)
 have K:b<256:=by rw[<- hb];exact Rd.uA _ _
 have l:b≠0->p<s.size:=λh=>by
  have:=Rd.zP s.data.toList p (by rw[hb];exact h)
  rwa [Ref.zx] at this
 have n:starts s p=(b==123||b==91||b==34||b==116||b==102):=by unfold starts;rw[hb]
 clear M L
 by_cases c1:b=123
 ·have k:=hid (Rd.Mt s.data.toList f d p (by rw[hb];exact c1));have x:Hid (starts s p=true):=hid (by rw[n,c1];rfl);have H:(b:Int)=123:=by omega
  have y:=l (by omega);clear hb n l
  cases hx:Rd.yY s.data.toList (Rd.stO s.data.toList d) 125 f d [] p with
  | ok ms q=>
   rw[hx] at k;have u:=hid hx;clear hx;go_enter func93,ntmps93
   go_wp2_with (first
    | (go_at_call 143;refine o.mono ?_;rintro e r ⟨rfl,g,a,j⟩)
    | (go_at_call 144;refine (dK s R p d f r g j v y A hd G (by omega) _ u.out).mono ?_;rintro e B ⟨I,rfl,D,i,m⟩))
   go_ret2;refine yU.of ?_ k.out;exact⟨_,rfl,D.move (λb hb=>hb.later a.size) (λ_ _=>rfl),zD a i,m⟩
  | err c q=>
   rw[hx] at k;have u:=hid hx;clear hx;go_enter func93,ntmps93
   go_wp2_with (first
    | (go_at_call 143;refine o.mono ?_;rintro e r ⟨rfl,g,a,j⟩)
    | (go_at_call 144;refine (dK s R p d f r g j v y A hd G (by omega) _ u.out).mono ?_;rintro e B ⟨I,rfl,i⟩))
   go_ret2;refine yU.of ?_ k.out;exact⟨_,rfl,⟨λ_=>⟨_,_,rfl⟩,λh=>absurd (x.out.symm.trans h) (by decide)⟩,zD a i⟩
 have P:((b:Int)==123)=false:=by rw[beq_eq_false_iff_ne];omega
 by_cases c2:b=91
 ·have k:=hid (Rd.Mr s.data.toList f d p (by rw[hb];exact c2));have x:Hid (starts s p=true):=hid (by rw[n,c2];rfl);have H:(b:Int)=91:=by omega
  have y:=l (by omega);clear hb n l
  cases hx:Rd.yY s.data.toList (Rd.stL s.data.toList d) 93 f d [] p with
  | ok ms q=>
   rw[hx] at k;have u:=hid hx;clear hx;go_enter func93,ntmps93
   go_wp2_with (first
    | (go_at_call 143;refine o.mono ?_;rintro e r ⟨rfl,g,a,j⟩)
    | (go_at_call 145;refine (bG s R p d f r g j v y A hd G (by omega) _ u.out).mono ?_;rintro e B ⟨I,rfl,D,i,m⟩))
   go_ret2;refine yU.of ?_ k.out;exact⟨_,rfl,D.move (λb hb=>hb.later a.size) (λ_ _=>rfl),zD a i,m⟩
  | err c q=>
   rw[hx] at k;have u:=hid hx;clear hx;go_enter func93,ntmps93
   go_wp2_with (first
    | (go_at_call 143;refine o.mono ?_;rintro e r ⟨rfl,g,a,j⟩)
    | (go_at_call 145;refine (bG s R p d f r g j v y A hd G (by omega) _ u.out).mono ?_;rintro e B ⟨I,rfl,i⟩))
   go_ret2;refine yU.of ?_ k.out;exact⟨_,rfl,⟨λ_=>⟨_,_,rfl⟩,λh=>absurd (x.out.symm.trans h) (by decide)⟩,zD a i⟩
 have Q:((b:Int)==91)=false:=by rw[beq_eq_false_iff_ne];omega
 clear G
 by_cases c3:b=34
 ·have k:=hid (Rd.Mx s.data.toList f d p (by rw[hb];exact c3));have x:Hid (starts s p=true):=hid (by rw[n,c3];rfl);have H:(b:Int)=34:=by omega
  clear hb n l
  cases hx:Rd.xw s.data.toList p with
  | ok t q=>
   rw[hx] at k;have u:=hid hx;clear hx;go_enter func93,ntmps93
   go_wp2_with (first
    | (go_at_call 143;refine o.mono ?_;rintro e r ⟨rfl,g,a,j⟩)
    | (go_at_call 146;refine (Jb s R p r g C A j v _ u.out).mono ?_;rintro e B ⟨rfl,i,m,z⟩))
   go_ret2;refine yU.of ?_ k.out;exact⟨_,rfl,.str t,zD a i,m⟩
  | err c q=>
   rw[hx] at k;have F:=Rd.fB hx;subst F;have u:=hid hx;clear hx;go_enter func93,ntmps93
   go_wp2_with (first
    | (go_at_call 143;refine o.mono ?_;rintro e r ⟨rfl,g,a,j⟩)
    | (go_at_call 146;refine (Jb s R p r g C A j v _ u.out).mono ?_;rintro e B ⟨rfl,i,m,z⟩))
   go_ret2;refine yU.of ?_ k.out;exact⟨_,rfl,⟨λ_=>⟨_,_,rfl⟩,λh=>absurd (x.out.symm.trans h) (by decide)⟩,zD a i⟩
 have S:((b:Int)==34)=false:=by rw[beq_eq_false_iff_ne];omega
 by_cases c4:b=116
 ·have k:=hid (Rd.MB s.data.toList f d p (by rw[hb];exact c4));have x:Hid (starts s p=true):=hid (by rw[n,c4];rfl);have H:(b:Int)=116:=by omega
  clear hb n l
  cases hx:Rd.zK s.data.toList [116,114,117,101] p with
  | ok t q=>
   rw[hx] at k;have u:=hid hx;clear hx;go_enter func93,ntmps93
   go_wp2_with (first
    | (go_at_call 143;refine o.mono ?_;rintro e r ⟨rfl,g,a,j⟩)
    | (go_at_call 147;refine (ZY s ⟨#[116,114,117,101]⟩ R p r g C A (by decide) (by decide) _ u.out).mono ?_;rintro e B ⟨rfl,i,m,z⟩))
   go_ret2;refine yU.of ?_ k.out;exact⟨_,rfl,.word true,zD a i,m⟩
  | err c q=>
   rw[hx] at k;have F:=Rd.Ym hx;subst F;have u:=hid hx;clear hx;go_enter func93,ntmps93
   go_wp2_with (first
    | (go_at_call 143;refine o.mono ?_;rintro e r ⟨rfl,g,a,j⟩)
    | (go_at_call 147;refine (ZY s ⟨#[116,114,117,101]⟩ R p r g C A (by decide) (by decide) _ u.out).mono ?_;rintro e B ⟨rfl,i,m,z⟩))
   go_ret2;refine yU.of ?_ k.out;exact⟨_,rfl,⟨λ_=>⟨_,_,rfl⟩,λh=>absurd (x.out.symm.trans h) (by decide)⟩,zD a i⟩
 have T:((b:Int)==116)=false:=by rw[beq_eq_false_iff_ne];omega
 by_cases c5:b=102
 ·have k:=hid (Rd.Mq s.data.toList f d p (by rw[hb];exact c5));have x:Hid (starts s p=true):=hid (by rw[n,c5];rfl);have H:(b:Int)=102:=by omega
  clear hb n l
  cases hx:Rd.zK s.data.toList [102,97,108,115,101] p with
  | ok t q=>
   rw[hx] at k;have u:=hid hx;clear hx;go_enter func93,ntmps93
   go_wp2_with (first
    | (go_at_call 143;refine o.mono ?_;rintro e r ⟨rfl,g,a,j⟩)
    | (go_at_call 147;refine (ZY s ⟨#[102,97,108,115,101]⟩ R p r g C A (by decide) (by decide) _ u.out).mono ?_;rintro e B ⟨rfl,i,m,z⟩))
   go_ret2;refine yU.of ?_ k.out;exact⟨_,rfl,.word false,zD a i,m⟩
  | err c q=>
   rw[hx] at k;have F:=Rd.Ym hx;subst F;have u:=hid hx;clear hx;go_enter func93,ntmps93
   go_wp2_with (first
    | (go_at_call 143;refine o.mono ?_;rintro e r ⟨rfl,g,a,j⟩)
    | (go_at_call 147;refine (ZY s ⟨#[102,97,108,115,101]⟩ R p r g C A (by decide) (by decide) _ u.out).mono ?_;rintro e B ⟨rfl,i,m,z⟩))
   go_ret2;refine yU.of ?_ k.out;exact⟨_,rfl,⟨λ_=>⟨_,_,rfl⟩,λh=>absurd (x.out.symm.trans h) (by decide)⟩,zD a i⟩
 have U:((b:Int)==102)=false:=by rw[beq_eq_false_iff_ne];omega
 have k:=hid (Rd.Ms s.data.toList f d p (by rw[hb];exact c1) (by rw[hb];exact c2) (by rw[hb];exact c3) (by rw[hb];exact c4) (by rw[hb];exact c5));have x:Hid (starts s p=false):=hid (by rw[n];simp[c1,c2,c3,c4,c5]);clear hb n l c1 c2 c3 c4 c5;go_enter func93,ntmps93
 go_wp2_with (first
  | (go_at_call 143;refine o.mono ?_;rintro e r ⟨rfl,g,a,j⟩)
  | (go_at_call 94;refine (Zx s R p r g).mono ?_;rintro e B ⟨rfl,rfl⟩))
 go_ret2;refine yU.of ?_ k.out;exact⟨_,rfl,⟨λh=>absurd (x.out.symm.trans h) (by decide),λ_=>rfl⟩,a⟩
theorem iw(s:BY)(R:Nat)(a:R≠5)(e:s.size<=4000):∀F,vZ s R F
 | 0=>λf c=>absurd c (Nat.not_lt_zero f)
 | F+1=>λf c d p w k j i _ b _ h=>by
  cases f with
  | zero=>omega
  | succ f=>exact Mw s R f d p w k j a i e b (by omega) (λg l=>iw s R a e F g (by omega))
def uU(w:World)(r:Rd.Res Rd.V)(e:Ending)(a:World):Prop:=match r with
 | .ok v _=>∃u,e = .returned (.tuple #[u,.nilIface])/\ValAt a (Blk w a) v u/\Below w.heap.size w a
 | .err c q=>e = .returned (.tuple #[.nilIface,vk c q])/\Below w.heap.size w a
theorem uU.of{w b:World}{r a:Rd.Res Rd.V}{e:Ending}(h:uU w r e b)(c:a=r):uU w a e b:=c ▸ h
theorem below_grown{w c d:World}{R:Nat}(h:Below w.heap.size w c)(e:w.heap.size<=R)(a:c.grownBy d (some R)):Below w.heap.size w d:=
 ⟨a.os.trans h.os,a.tape.trans h.tape,a.output.trans h.output,Nat.le_trans h.size a.size,λk b=>(a.block k (Nat.lt_of_lt_of_le b h.size) (by simp;omega)).trans (h.block k b)⟩
theorem VY(s:BY)(w:World)(hq:zT w)(hs:s.size<=4000) :
  Calls prog 50 #[.string s] w λe g=>uU w (Rd.xI s.data.toList) e g:=by
 have a2:=hq.lt;have T:w.heap.size≠5:=by omega
 have dl:decide ((4000:Int)<(s.size:Int))=false:=decide_eq_false (by omega);have Y:=heap_alloc_new w (.cells #[.string s,.int .i64 0] 197)
 have W:zk (w.alloc (.cells #[.string s,.int .i64 0] 197)) w.heap.size s 0:=by
  refine⟨?_,?_,?_⟩
  ·simp only[World.cell?,Y];rfl
  ·simp only[World.cell?,Y];rfl
  ·simp only[World.frozen?,Y];rfl
 have U:=nb w (.cells #[.string s,.int .i64 0] 197);have V:zT (w.alloc (.cells #[.string s,.int .i64 0] 197)):=hq.same (U.block _ a2);have P:=Rd.jc s.data.toList 0 (Nat.zero_le _);have A:=Rd.vB s.data.toList 0;rw[Ref.zx] at P;have k:Rd.xI s.data.toList=Rd.xI s.data.toList:=rfl
 conv at k=>rhs;unfold Rd.xI
 obtain⟨p,L⟩:=Nm (Rd.skip s.data.toList 0);rw[L] at P A k
 have O:=(Qy s w.heap.size 0 _ W (Nat.zero_le _) hs).mono (R':=λe g=>e = .returned (.tuple #[])/\zk g w.heap.size s p/\Below w.heap.size w g/\zT g/\w.heap.size+1<=g.heap.size) (by
  rintro e g ⟨rfl,I,z⟩;rw[L] at z;exact⟨rfl,z,below_grown U (Nat.le_refl _) I,V.grown I T,by have:=I.size;simp at this;omega⟩)
 have i:=λa (h:zk a w.heap.size s p) (H:zT a)=>iw s w.heap.size T hs (2*s.data.toList.length+2) (2*s.data.toList.length+1) (by omega) 1 p a h H P (by omega) (by omega) A (by rw[Ref.zx];omega);have D:=hid (λv q B=>Rd.Jo (l:=s.data.toList) (f:=2*s.data.toList.length+1) (d:=1) (p:=p) (q:=q) (v:=v) (by omega) (by rw[Ref.zx];omega) A (by rw[Ref.zx];omega) B);clear L A W hq V Y
 cases B:Rd.zL s.data.toList (2*s.data.toList.length+1) 1 p with
 | err c q=>
  rw[B] at k;simp only at k;simp only[B] at i;obtain⟨T2,J⟩:=Qo c q
  have j:∀a,zk a w.heap.size s p->zT a->Below w.heap.size w a->Calls prog 93 #[.pointer (some ⟨w.heap.size,0,none⟩),.int .i64 1] a λe g=>∃u,e = .returned (.tuple #[u,.iface T2 (.agg #[.int .i64 (q:Int)])])/\Below w.heap.size w g:=λa h H z=>by
   refine (i a h H).mono ?_;rintro e g ⟨u,rfl,_,Z⟩;exact⟨u,by rw[J],below_grown z (Nat.le_refl _) Z⟩
  have R:=hid k;have HT:=hid J;clear i k B J;go_enter func50,ntmps50
  go_wp2_with (first
   | (go_at_call 92;refine O.mono ?_;rintro e a ⟨rfl,t,n,r,C⟩)
   | (go_at_call 93;refine (j a t r n).mono ?_;rintro e m ⟨u,rfl,o⟩))
  go_ret2;refine uU.of ?_ R.out;exact⟨by rw[HT.out];rfl,o⟩
 | ok v q=>
  rw[B] at k;simp only at k;simp only[B] at i;have E:=D.out v q B;rw[Ref.zx] at E;have F:=Rd.jc s.data.toList q (by rw[Ref.zx];omega);rw[Ref.zx] at F;obtain⟨q2,M⟩:=Nm (Rd.skip s.data.toList q);rw[M] at F k
  have j:∀a,zk a w.heap.size s p->zT a->Below w.heap.size w a->w.heap.size+1<=a.heap.size->Calls prog 93 #[.pointer (some ⟨w.heap.size,0,none⟩),.int .i64 1] a λe g=>∃u,e = .returned (.tuple #[u,.nilIface])/\ValAt g (λb=>w.heap.size+1<=b/\b<g.heap.size) v u/\Below w.heap.size w g/\zk g w.heap.size s q:=λa h H z h3=>by
   refine (i a h H).mono ?_;rintro e g ⟨u,rfl,Q,Z,hr⟩;exact⟨u,rfl,Q.move (λb hb=>⟨by have:=hb.1;omega,hb.2⟩) (λ_ _=>rfl),below_grown z (Nat.le_refl _) Z,hr⟩
  have X:∀m u,zk m w.heap.size s q->Below w.heap.size w m->ValAt m (λb=>w.heap.size+1<=b/\b<m.heap.size) v u->Calls prog 92 #[.pointer (some ⟨w.heap.size,0,none⟩)] m λe g=>e = .returned (.tuple #[])/\zk g w.heap.size s q2/\Below w.heap.size w g/\ValAt g (Blk w g) v u:=λm u h H Q=>by
   refine (Qy s w.heap.size q m h E.2 hs).mono ?_;rintro e g ⟨rfl,I,z⟩;rw[M] at z;exact⟨rfl,z,below_grown H (Nat.le_refl _) I,Q.move (λb hb=>⟨by omega,by have:=I.size;omega⟩) (λb hb=>I.block b hb.2 (by simp;omega))⟩
  clear i B M D
  by_cases c:q2<s.size
  ·rw[if_pos (by rw[Ref.zx];exact c)] at k;have R:=hid k;have dq:decide ((q2:Int)<(s.size:Int))=true:=decide_eq_true (by omega);clear k;go_enter func50,ntmps50
   go_wp2_with (first
    | (go_at_call 92;refine (X m u N o y).mono ?_;rintro e w3 ⟨rfl,x,K,G⟩;have S:=hid x;obtain⟨g1,g2,g3⟩:=x)
    | (go_at_call 92;refine O.mono ?_;rintro e a ⟨rfl,t,n,r,C⟩)
    | (go_at_call 93;refine (j a t r n C).mono ?_;rintro e m ⟨u,rfl,y,o,N⟩)
    | (go_at_call 94;refine (Zx s w.heap.size q2 w3 S.out).mono ?_;rintro e w4 ⟨rfl,rfl⟩))
   go_ret2;refine uU.of ?_ R.out;exact⟨rfl,K⟩
  ·rw[if_neg (by rw[Ref.zx];exact c)] at k;have R:=hid k;have dq:decide ((q2:Int)<(s.size:Int))=false:=decide_eq_false (by omega);clear k;go_enter func50,ntmps50
   go_wp2_with (first
    | (go_at_call 92;refine (X m u N o y).mono ?_;rintro e w3 ⟨rfl,x,K,G⟩;have S:=hid x;obtain⟨g1,g2,g3⟩:=x)
    | (go_at_call 92;refine O.mono ?_;rintro e a ⟨rfl,t,n,r,C⟩)
    | (go_at_call 93;refine (j a t r n C).mono ?_;rintro e m ⟨u,rfl,y,o,N⟩))
   go_ret2;refine uU.of ?_ R.out;exact⟨u,rfl,G,K⟩
theorem Gd(s:BY)(w:World)(EL:Value)(a:w.cell? ⟨0,0,none⟩=some EL)(f:4000<s.size) :
  Calls prog 50 #[.string s] w λe c=>e = .returned (.tuple #[.nilIface,EL])/\Below w.heap.size w c:=by
 have d:decide ((4000:Int)<(s.size:Int))=true:=decide_eq_true (by omega);go_enter func50,ntmps50;go_wp2_with fail
 go_quiet (fail)
 go_wp2
 go_ret2;exact⟨rfl,by have h:=xq w none nq;exact⟨h.os,h.tape,h.output,h.size,λk b=>h.block k b (by simp)⟩⟩
end Go.Proofs.YtdakgnaojakldaaGreatDoor
