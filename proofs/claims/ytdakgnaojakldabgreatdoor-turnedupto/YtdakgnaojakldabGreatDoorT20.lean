/- P -/
import Derived.Test.YtdakgnaojakldabGreatDoorT19
open Go.Proofs.Tryz
set_option maxRecDepth 100000
set_option maxHeartbeats 2000000
namespace Go.Proofs.YtdakgnaojakldabGreatDoor
open Go.RowKit
def K8(w:World)(R:Nat)(s:BA)(r:Rd.Res (List (BA×Rd.V)))(e:Ending)(a:World):Prop:=match r with
 | .ok ms q=>∃b,e = .returned (.tuple #[b,.nilIface])/\ValAt a (Blk w a) (.obj ms) (.iface 89 b)/\w.grownBy a (some R)/\zi a R s q
 | .err c q=>∃b,e = .returned (.tuple #[b,vY c q])/\w.grownBy a (some R)
theorem Ia(s:BA)(R d F:Nat)(b:World)(p:s.size<=4000)(l:R<b.heap.size)(e:R≠5)(k:5<b.heap.size)(r:kg s R F) :
  Reads s R 104 #[.pointer (some ⟨b.heap.size,0,none⟩),.pointer (some ⟨b.heap.size+1,0,none⟩),.pointer (some ⟨b.heap.size+2,0,none⟩)] (Rd.stO s.data.toList d) F d (Zf b R s d) (Xm b R) where
 rd:=λ_ _ _ h=>h.rd
 mv:=λ_ _ _ _ _ h g m o=>h.mv l e g m o
 bad:=λ_ _ _ h=>by
  obtain⟨ao,cap,y,c1,_⟩:=h.row;exact⟨h.grown,_,c1⟩
 adv:=λf a q t x g u i h=>by
  unfold Rd.stO at h
  cases hx:Rd.Zo s.data.toList d f a q with
  | ok v q2=>
   rw[hx] at h;injection h with h1 h2
   rw[<- h2];exact gN g i hx
  | err c q2=>rw[hx] at h;cases h
 one:=λf a q w i hd n g _ j=>HY s R d F b p l e k hd r f a q w i n g j
theorem Zf.val{a:World}{R:Nat}{s:BA}{d:Nat}{acc:List (BA×Rd.V)}{q:Nat}{w:World}(h:Zf a R s d acc q w):∃m,w.cell? ⟨a.heap.size+2,0,none⟩=some m/\ValAt w (Blk a w) (.obj acc) (.iface 89 m):=by
 obtain⟨ao,cap,k,c1,c2,c3,l,c4⟩:=h.row;refine⟨_,c1,?_⟩;have p:k.length=acc.length:=by have:=congrArg List.length l;simpa using this
 have f:∀(j:Nat) (x:BA×Rd.V) (u:BA×Value),acc[j]?=some x->k[j]?=some u->ValAt w (Blk a w) x.2 u.2:=λj v u t r=>(c4 j v u t r).move (λb e=>⟨by omega,e.2.1⟩) (λ_ _=>rfl);have i:=fT c3;rw[<- p];refine .obj acc k ao cap l ?_ f
 rcases i with h0|⟨b,o,ha,hc⟩
 ·exact .inl h0
 ·rcases c3.2 with ⟨h1,h2⟩|⟨g,c,cur,h1,hB,hg,hrest⟩
  ·exact .inl (List.eq_nil_of_length_eq_zero (by omega))
  ·injection h1 with h1 h2 h3
   rw[h1] at ha;injection ha with ha
   injection ha with e ho
   subst e;refine .inr ⟨g,h1,⟨by omega,(Array.getElem?_eq_some_iff.1 hg).1⟩,λj x y=>?_⟩;obtain⟨n,rfl⟩:=List.getElem?_eq_some_iff.1 y
   have:=hc j n
   rw[<- ho] at this
   simpa using this
theorem Ic(s:BA)(R p d F:Nat)(w:World)(x:zi w R s p)(t:qb w)(k:R≠5)(I:p<s.size)(D:s.size<=4000)(hd:d<=9)(n:kg s R F)(hF:2*(s.size-(p+1))+1<F) :
  Calls prog 83 #[.pointer (some ⟨R,0,none⟩),.int .i64 (d:Int)] w λe b=>K8 w R s (Rd.jG s.data.toList (Rd.stO s.data.toList d) 125 F d [] p) e b:=by
 have H:=x.lt;have r:=t.lt;have E:∀args w,(callFunc 104 args).run prog w = .ok (.enter 104 args) w:=enters_of func104 (by kernel_rfl) rfl;have l:∀A B C:Obj,w.grownBy (((w.alloc A).alloc B).alloc C) (some R):=λA B C=>zH (zH (World.grownBy_alloc w A _) (World.grownBy_alloc _ B _)) (World.grownBy_alloc _ C _)
 have f:Zf w R s d [] p (((w.alloc (.cells #[.pointer (some ⟨R,0,none⟩)] 132)).alloc (.cells #[.int .i64 (d:Int)] 3)).alloc (.cells #[.slice none 0 0] 89)):=by
  have m:=mR w (.pointer (some ⟨R,0,none⟩)) (.int .i64 (d:Int)) (.slice none 0 0) 132 3 89;exact⟨((x.alloc _).alloc _).alloc _,t.grown (l _ _ _) k,l _ _ _,by simp,Nat.zero_le _,m.1,m.2.1,none,0,[],m.2.2.1,m.2.2.2,World.ownsRow_nil _ _ _ _,rfl,λj v u n=>by simp at n⟩
 have hit:=eH s R p d 125 104 F _ (Rd.stO s.data.toList d) (Zf w R s d) (Xm w R) [] _ E (Ia s R d F w D H k r n) f I D (by omega) (by decide) (by decide) hF;clear f n x t
 cases hx:Rd.jG s.data.toList (Rd.stO s.data.toList d) 125 F d [] p with
 | ok K q=>
  rw[hx] at hit
  have g:=hit.mono (R':=λe b=>e = .returned .nilIface/\∃a,b.cell? ⟨w.heap.size+2,0,none⟩=some a/\ValAt b (Blk w b) (.obj K) (.iface 89 a)/\w.grownBy b (some R)/\zi b R s q) (by
   rintro e b ⟨rfl,h⟩;obtain⟨a,o,G⟩:=h.val;exact⟨rfl,a,o,G,h.grown,h.rd⟩)
  clear hit hx;go_enter func83,ntmps83
  go_wp2_with (go_at_call 103;refine g.mono ?_;rintro e L ⟨rfl,a,J,z,i,y⟩)
  go_ret2;exact⟨a,rfl,z,i,y⟩
 | err c q=>
  rw[hx] at hit
  have g:=hit.mono (R':=λe b=>e = .returned (vY c q)/\∃a,b.cell? ⟨w.heap.size+2,0,none⟩=some a/\w.grownBy b (some R)) (by
   rintro e b ⟨rfl,h,a,o⟩;exact⟨rfl,a,o,h⟩)
  clear hit hx;go_enter func83,ntmps83
  go_wp2_with (go_at_call 103;refine g.mono ?_;rintro e L ⟨rfl,a,J,i⟩)
  go_ret2;exact⟨a,rfl,i⟩
theorem fF(s:BA)(R p d F:Nat)(w:World)(f:zi w R s p)(c:qb w)(a:R≠5)(b:p<s.size)(g:s.size<=4000)(hd:d<=9)(i:kg s R F)(hF:2*(s.size-(p+1))+1<F)(r:Rd.Res (List Rd.V))(h:Rd.jG s.data.toList (Rd.stL s.data.toList d) 93 F d [] p=r) :
  Calls prog 84 #[.pointer (some ⟨R,0,none⟩),.int .i64 (d:Int)] w λe j=>X8 w R s r e j:=by
 rw[<- h];exact Gc s R p d F w f c a b g hd i hF
theorem gT(s:BA)(R p d F:Nat)(w:World)(f:zi w R s p)(c:qb w)(a:R≠5)(b:p<s.size)(g:s.size<=4000)(hd:d<=9)(i:kg s R F)(hF:2*(s.size-(p+1))+1<F)(r:Rd.Res (List (BA×Rd.V)))(h:Rd.jG s.data.toList (Rd.stO s.data.toList d) 125 F d [] p=r) :
  Calls prog 83 #[.pointer (some ⟨R,0,none⟩),.int .i64 (d:Int)] w λe j=>K8 w R s r e j:=by
 rw[<- h];exact Ic s R p d F w f c a b g hd i hF
theorem Blk.later{w a c:World}{b:Nat}(h:Blk a c b)(d:w.heap.size<=a.heap.size):Blk w c b:=⟨by have:=h.1;omega,h.2⟩
theorem Rt(s:BA)(R f d p:Nat)(w:World)(N:zi w R s p)(M:qb w)(x:R≠5)(D:p<=s.size)(B:s.size<=4000)(hd:d<=9)(P:2*(s.size-p)<f+1)(H:kg s R f) :
  Calls prog 52 #[.pointer (some ⟨R,0,none⟩),.int .i64 (d:Int)] w λe F=>jC w R s (starts s p) (Rd.zR s.data.toList (f+1) d p) e F:=by
 obtain⟨b,o⟩:=Nm (Rd.ze s.data.toList p)
 have r:=(XR s R p w N D).mono (R':=λe F=>e = .returned (.int .u8 (b:Int))/\zi F R s p/\w.grownBy F (some R)/\qb F) (by
  rintro e F ⟨rfl,O,K,_,_⟩;exact⟨by rw[o],O,K,M.grown K x⟩)
 have L:b<256:=by rw[<- o];exact Rd.kM _ _
 have l:b≠0->p<s.size:=λh=>by
  have:=Rd.zW s.data.toList p (by rw[o];exact h)
  rwa [Ref.zB] at this
 have n:starts s p=(b==123||b==91||b==34||b==116||b==102):=by unfold starts;rw[o]
 clear N M
 by_cases c1:b=123
 ·have k:=hid (Rd.Rq s.data.toList f d p (by rw[o];exact c1));have y:Hid (starts s p=true):=hid (by rw[n,c1];rfl);have I:(b:Int)=123:=by omega
  have z:=l (by omega);clear o n l
  cases hx:Rd.jG s.data.toList (Rd.stO s.data.toList d) 125 f d [] p with
  | ok ms q=>
   rw[hx] at k;have v:=hid hx;clear hx;go_enter func52,ntmps52
   go_wp2_with (first
    | (go_at_call 82;refine r.mono ?_;rintro e u ⟨rfl,g,a,j⟩)
    | (go_at_call 83;refine (gT s R p d f u g j x z B hd H (by omega) _ v.out).mono ?_;rintro e C ⟨J,rfl,E,i,m⟩))
   go_ret2;refine jC.of ?_ k.out;exact⟨_,rfl,E.move (λb o=>o.later a.size) (λ_ _=>rfl),zH a i,m⟩
  | err c q=>
   rw[hx] at k;have v:=hid hx;clear hx;go_enter func52,ntmps52
   go_wp2_with (first
    | (go_at_call 82;refine r.mono ?_;rintro e u ⟨rfl,g,a,j⟩)
    | (go_at_call 83;refine (gT s R p d f u g j x z B hd H (by omega) _ v.out).mono ?_;rintro e C ⟨J,rfl,i⟩))
   go_ret2;refine jC.of ?_ k.out;exact⟨_,rfl,⟨λ_=>⟨_,_,rfl⟩,λh=>absurd (y.out.symm.trans h) (by decide)⟩,zH a i⟩
 have Q:((b:Int)==123)=false:=by rw[beq_eq_false_iff_ne];omega
 by_cases c2:b=91
 ·have k:=hid (Rd.Ro s.data.toList f d p (by rw[o];exact c2));have y:Hid (starts s p=true):=hid (by rw[n,c2];rfl);have I:(b:Int)=91:=by omega
  have z:=l (by omega);clear o n l
  cases hx:Rd.jG s.data.toList (Rd.stL s.data.toList d) 93 f d [] p with
  | ok ms q=>
   rw[hx] at k;have v:=hid hx;clear hx;go_enter func52,ntmps52
   go_wp2_with (first
    | (go_at_call 82;refine r.mono ?_;rintro e u ⟨rfl,g,a,j⟩)
    | (go_at_call 84;refine (fF s R p d f u g j x z B hd H (by omega) _ v.out).mono ?_;rintro e C ⟨J,rfl,E,i,m⟩))
   go_ret2;refine jC.of ?_ k.out;exact⟨_,rfl,E.move (λb o=>o.later a.size) (λ_ _=>rfl),zH a i,m⟩
  | err c q=>
   rw[hx] at k;have v:=hid hx;clear hx;go_enter func52,ntmps52
   go_wp2_with (first
    | (go_at_call 82;refine r.mono ?_;rintro e u ⟨rfl,g,a,j⟩)
    | (go_at_call 84;refine (fF s R p d f u g j x z B hd H (by omega) _ v.out).mono ?_;rintro e C ⟨J,rfl,i⟩))
   go_ret2;refine jC.of ?_ k.out;exact⟨_,rfl,⟨λ_=>⟨_,_,rfl⟩,λh=>absurd (y.out.symm.trans h) (by decide)⟩,zH a i⟩
 have S:((b:Int)==91)=false:=by rw[beq_eq_false_iff_ne];omega
 clear H
 by_cases c3:b=34
 ·have k:=hid (Rd.Ru s.data.toList f d p (by rw[o];exact c3));have y:Hid (starts s p=true):=hid (by rw[n,c3];rfl);have I:(b:Int)=34:=by omega
  clear o n l
  cases hx:Rd.xM s.data.toList p with
  | ok t q=>
   rw[hx] at k;have v:=hid hx;clear hx;go_enter func52,ntmps52
   go_wp2_with (first
    | (go_at_call 82;refine r.mono ?_;rintro e u ⟨rfl,g,a,j⟩)
    | (go_at_call 85;refine (JZ s R p u g D B j x _ v.out).mono ?_;rintro e C ⟨rfl,i,m,A⟩))
   go_ret2;refine jC.of ?_ k.out;exact⟨_,rfl,.str t,zH a i,m⟩
  | err c q=>
   rw[hx] at k;have G:=Rd.iR hx;subst G;have v:=hid hx;clear hx;go_enter func52,ntmps52
   go_wp2_with (first
    | (go_at_call 82;refine r.mono ?_;rintro e u ⟨rfl,g,a,j⟩)
    | (go_at_call 85;refine (JZ s R p u g D B j x _ v.out).mono ?_;rintro e C ⟨rfl,i,m,A⟩))
   go_ret2;refine jC.of ?_ k.out;exact⟨_,rfl,⟨λ_=>⟨_,_,rfl⟩,λh=>absurd (y.out.symm.trans h) (by decide)⟩,zH a i⟩
 have T:((b:Int)==34)=false:=by rw[beq_eq_false_iff_ne];omega
 by_cases c4:b=116
 ·have k:=hid (Rd.Rv s.data.toList f d p (by rw[o];exact c4));have y:Hid (starts s p=true):=hid (by rw[n,c4];rfl);have I:(b:Int)=116:=by omega
  clear o n l
  cases hx:Rd.zP s.data.toList [116,114,117,101] p with
  | ok t q=>
   rw[hx] at k;have v:=hid hx;clear hx;go_enter func52,ntmps52
   go_wp2_with (first
    | (go_at_call 82;refine r.mono ?_;rintro e u ⟨rfl,g,a,j⟩)
    | (go_at_call 86;refine (QB s ⟨#[116,114,117,101]⟩ R p u g D B (by decide) (by decide) _ v.out).mono ?_;rintro e C ⟨rfl,i,m,A⟩))
   go_ret2;refine jC.of ?_ k.out;exact⟨_,rfl,.word true,zH a i,m⟩
  | err c q=>
   rw[hx] at k;have G:=Rd.YX hx;subst G;have v:=hid hx;clear hx;go_enter func52,ntmps52
   go_wp2_with (first
    | (go_at_call 82;refine r.mono ?_;rintro e u ⟨rfl,g,a,j⟩)
    | (go_at_call 86;refine (QB s ⟨#[116,114,117,101]⟩ R p u g D B (by decide) (by decide) _ v.out).mono ?_;rintro e C ⟨rfl,i,m,A⟩))
   go_ret2;refine jC.of ?_ k.out;exact⟨_,rfl,⟨λ_=>⟨_,_,rfl⟩,λh=>absurd (y.out.symm.trans h) (by decide)⟩,zH a i⟩
 have U:((b:Int)==116)=false:=by rw[beq_eq_false_iff_ne];omega
 by_cases c5:b=102
 ·have k:=hid (Rd.Rn s.data.toList f d p (by rw[o];exact c5));have y:Hid (starts s p=true):=hid (by rw[n,c5];rfl);have I:(b:Int)=102:=by omega
  clear o n l
  cases hx:Rd.zP s.data.toList [102,97,108,115,101] p with
  | ok t q=>
   rw[hx] at k;have v:=hid hx;clear hx;go_enter func52,ntmps52
   go_wp2_with (first
    | (go_at_call 82;refine r.mono ?_;rintro e u ⟨rfl,g,a,j⟩)
    | (go_at_call 86;refine (QB s ⟨#[102,97,108,115,101]⟩ R p u g D B (by decide) (by decide) _ v.out).mono ?_;rintro e C ⟨rfl,i,m,A⟩))
   go_ret2;refine jC.of ?_ k.out;exact⟨_,rfl,.word false,zH a i,m⟩
  | err c q=>
   rw[hx] at k;have G:=Rd.YX hx;subst G;have v:=hid hx;clear hx;go_enter func52,ntmps52
   go_wp2_with (first
    | (go_at_call 82;refine r.mono ?_;rintro e u ⟨rfl,g,a,j⟩)
    | (go_at_call 86;refine (QB s ⟨#[102,97,108,115,101]⟩ R p u g D B (by decide) (by decide) _ v.out).mono ?_;rintro e C ⟨rfl,i,m,A⟩))
   go_ret2;refine jC.of ?_ k.out;exact⟨_,rfl,⟨λ_=>⟨_,_,rfl⟩,λh=>absurd (y.out.symm.trans h) (by decide)⟩,zH a i⟩
 have V:((b:Int)==102)=false:=by rw[beq_eq_false_iff_ne];omega
 have k:=hid (Rd.Rp s.data.toList f d p (by rw[o];exact c1) (by rw[o];exact c2) (by rw[o];exact c3) (by rw[o];exact c4) (by rw[o];exact c5));have y:Hid (starts s p=false):=hid (by rw[n];simp[c1,c2,c3,c4,c5]);clear o n l c1 c2 c3 c4 c5;go_enter func52,ntmps52
 go_wp2_with (first
  | (go_at_call 82;refine r.mono ?_;rintro e u ⟨rfl,g,a,j⟩)
  | (go_at_call 53;refine (Qb s R p u g).mono ?_;rintro e C ⟨rfl,rfl⟩))
 go_ret2;refine jC.of ?_ k.out;exact⟨_,rfl,⟨λh=>absurd (y.out.symm.trans h) (by decide),λ_=>rfl⟩,a⟩
theorem nz(s:BA)(R:Nat)(a:R≠5)(e:s.size<=4000):∀F,kg s R F
 | 0=>λf c=>absurd c (Nat.not_lt_zero f)
 | F+1=>λf c d p w k j i _ b _ h=>by
  cases f with
  | zero=>omega
  | succ f=>exact Rt s R f d p w k j a i e b (by omega) (λg l=>nz s R a e F g (by omega))
def Zh(w:World)(r:Rd.Res Rd.V)(e:Ending)(a:World):Prop:=match r with
 | .ok v _=>∃u,e = .returned (.tuple #[u,.nilIface])/\ValAt a (Blk w a) v u/\Below w.heap.size w a
 | .err c q=>e = .returned (.tuple #[.nilIface,vY c q])/\Below w.heap.size w a
theorem Zh.of{w b:World}{r a:Rd.Res Rd.V}{e:Ending}(h:Zh w r e b)(c:a=r):Zh w a e b:=c ▸ h
theorem below_grown{w c d:World}{R:Nat}(h:Below w.heap.size w c)(e:w.heap.size<=R)(a:c.grownBy d (some R)):Below w.heap.size w d:=
 ⟨a.os.trans h.os,a.tape.trans h.tape,a.output.trans h.output,Nat.le_trans h.size a.size,λk b=>(a.block k (Nat.lt_of_lt_of_le b h.size) (by simp;omega)).trans (h.block k b)⟩
theorem U9(s:BA)(w:World)(hq:qb w)(hs:s.size<=4000) :
  Calls prog 30 #[.string s] w λe g=>Zh w (Rd.xN s.data.toList) e g:=by
 have a3:=hq.lt;have T:w.heap.size≠5:=by omega
 have dl:decide ((4000:Int)<(s.size:Int))=false:=decide_eq_false (by omega);have Z:=heap_alloc_new w (.cells #[.string s,.int .i64 0] 134)
 have X:zi (w.alloc (.cells #[.string s,.int .i64 0] 134)) w.heap.size s 0:=by
  refine⟨?_,?_,?_⟩
  ·simp only[World.cell?,Z];rfl
  ·simp only[World.cell?,Z];rfl
  ·simp only[World.frozen?,Z];rfl
 have V:=nB w (.cells #[.string s,.int .i64 0] 134);have W:qb (w.alloc (.cells #[.string s,.int .i64 0] 134)):=hq.same (V.block _ a3);have P:=Rd.jO s.data.toList 0 (Nat.zero_le _);have A:=Rd.ul s.data.toList 0;rw[Ref.zB] at P;have k:Rd.xN s.data.toList=Rd.xN s.data.toList:=rfl
 conv at k=>rhs;unfold Rd.xN
 obtain⟨p,L⟩:=Nm (Rd.skip s.data.toList 0);rw[L] at P A k
 have O:=(Xd s w.heap.size 0 _ X (Nat.zero_le _) hs).mono (R':=λe g=>e = .returned (.tuple #[])/\zi g w.heap.size s p/\Below w.heap.size w g/\qb g/\w.heap.size+1<=g.heap.size) (by
  rintro e g ⟨rfl,I,z⟩;rw[L] at z;exact⟨rfl,z,below_grown V (Nat.le_refl _) I,W.grown I T,by have:=I.size;simp at this;omega⟩)
 have i:=λa (h:zi a w.heap.size s p) (H:qb a)=>nz s w.heap.size T hs (2*s.data.toList.length+2) (2*s.data.toList.length+1) (by omega) 1 p a h H P (by omega) (by omega) A (by rw[Ref.zB];omega);have D:=hid (λv q B=>Rd.Vo (l:=s.data.toList) (f:=2*s.data.toList.length+1) (d:=1) (p:=p) (q:=q) (v:=v) (by omega) (by rw[Ref.zB];omega) A (by rw[Ref.zB];omega) B);clear L A X hq W Z
 cases B:Rd.zR s.data.toList (2*s.data.toList.length+1) 1 p with
 | err c q=>
  rw[B] at k;simp only at k;simp only[B] at i;obtain⟨T2,J⟩:=QY c q
  have j:∀a,zi a w.heap.size s p->qb a->Below w.heap.size w a->Calls prog 52 #[.pointer (some ⟨w.heap.size,0,none⟩),.int .i64 1] a λe g=>∃u,e = .returned (.tuple #[u,.iface T2 (.agg #[.int .i64 (q:Int)])])/\Below w.heap.size w g:=λa h H z=>by
   refine (i a h H).mono ?_;rintro e g ⟨u,rfl,_,hg⟩;exact⟨u,by rw[J],below_grown z (Nat.le_refl _) hg⟩
  have R:=hid k;have HT:=hid J;clear i k B J;go_enter func30,ntmps30
  go_wp2_with (first
   | (go_at_call 51;refine O.mono ?_;rintro e a ⟨rfl,t,n,r,C⟩)
   | (go_at_call 52;refine (j a t r n).mono ?_;rintro e m ⟨u,rfl,o⟩))
  go_ret2;refine Zh.of ?_ R.out;exact⟨by rw[HT.out];rfl,o⟩
 | ok v q=>
  rw[B] at k;simp only at k;simp only[B] at i;have E:=D.out v q B;rw[Ref.zB] at E;have F:=Rd.jO s.data.toList q (by rw[Ref.zB];omega);rw[Ref.zB] at F;obtain⟨q2,M⟩:=Nm (Rd.skip s.data.toList q);rw[M] at F k
  have j:∀a,zi a w.heap.size s p->qb a->Below w.heap.size w a->w.heap.size+1<=a.heap.size->Calls prog 52 #[.pointer (some ⟨w.heap.size,0,none⟩),.int .i64 1] a λe g=>∃u,e = .returned (.tuple #[u,.nilIface])/\ValAt g (λb=>w.heap.size+1<=b/\b<g.heap.size) v u/\Below w.heap.size w g/\zi g w.heap.size s q:=λa h H z h3=>by
   refine (i a h H).mono ?_;rintro e g ⟨u,rfl,Q,hg,hr⟩;exact⟨u,rfl,Q.move (λb U=>⟨by have:=U.1;omega,U.2⟩) (λ_ _=>rfl),below_grown z (Nat.le_refl _) hg,hr⟩
  have Y:∀m u,zi m w.heap.size s q->Below w.heap.size w m->ValAt m (λb=>w.heap.size+1<=b/\b<m.heap.size) v u->Calls prog 51 #[.pointer (some ⟨w.heap.size,0,none⟩)] m λe g=>e = .returned (.tuple #[])/\zi g w.heap.size s q2/\Below w.heap.size w g/\ValAt g (Blk w g) v u:=λm u h H Q=>by
   refine (Xd s w.heap.size q m h E.2 hs).mono ?_;rintro e g ⟨rfl,I,z⟩;rw[M] at z;exact⟨rfl,z,below_grown H (Nat.le_refl _) I,Q.move (λb U=>⟨by omega,by have:=I.size;omega⟩) (λb U=>I.block b U.2 (by simp;omega))⟩
  clear i B M D
  by_cases c:q2<s.size
  ·rw[if_pos (by rw[Ref.zB];exact c)] at k;have R:=hid k;have dq:decide ((q2:Int)<(s.size:Int))=true:=decide_eq_true (by omega);clear k;go_enter func30,ntmps30
   go_wp2_with (first
    | (go_at_call 51;refine (Y m u N o y).mono ?_;rintro e w3 ⟨rfl,x,K,G⟩;have S:=hid x;obtain⟨g1,g2,g3⟩:=x)
    | (go_at_call 51;refine O.mono ?_;rintro e a ⟨rfl,t,n,r,C⟩)
    | (go_at_call 52;refine (j a t r n C).mono ?_;rintro e m ⟨u,rfl,y,o,N⟩)
    | (go_at_call 53;refine (Qb s w.heap.size q2 w3 S.out).mono ?_;rintro e w4 ⟨rfl,rfl⟩))
   go_ret2;refine Zh.of ?_ R.out;exact⟨rfl,K⟩
  ·rw[if_neg (by rw[Ref.zB];exact c)] at k;have R:=hid k;have dq:decide ((q2:Int)<(s.size:Int))=false:=decide_eq_false (by omega);clear k;go_enter func30,ntmps30
   go_wp2_with (first
    | (go_at_call 51;refine (Y m u N o y).mono ?_;rintro e w3 ⟨rfl,x,K,G⟩;have S:=hid x;obtain⟨g1,g2,g3⟩:=x)
    | (go_at_call 51;refine O.mono ?_;rintro e a ⟨rfl,t,n,r,C⟩)
    | (go_at_call 52;refine (j a t r n C).mono ?_;rintro e m ⟨u,rfl,y,o,N⟩))
   go_ret2;refine Zh.of ?_ R.out;exact⟨u,rfl,G,K⟩
theorem Ml(s:BA)(w:World)(EL:Value)(a:w.cell? ⟨0,0,none⟩=some EL)(f:4000<s.size) :
  Calls prog 30 #[.string s] w λe c=>e = .returned (.tuple #[.nilIface,EL])/\Below w.heap.size w c:=by
 have d:decide ((4000:Int)<(s.size:Int))=true:=decide_eq_true (by omega);go_enter func30,ntmps30;go_wp2_with fail
 go_quiet (fail)
 go_wp2
 go_ret2;exact⟨rfl,by have h:=xG w none nq;exact⟨h.os,h.tape,h.output,h.size,λk b=>h.block k b (by simp)⟩⟩
end Go.Proofs.YtdakgnaojakldabGreatDoor
