/- P -/
import Derived.Test.YtdakgnaojakldaaGreatDoorK19
open Go.Proofs.Tryz
set_option maxRecDepth 100000
set_option maxHeartbeats 2000000
namespace Go.Proofs.YtdakgnaojakldaaGreatDoor
open Go.RowKit
def eT(w:World)(R:Nat)(s:BY)(r:Rd.Res (List (BY×Rd.V)))(e:Ending)(w':World):Prop:=match r with
 | .ok ms q=>∃lv,e = .returned (.tuple #[lv,.nilIface])/\ValAt w' (Blk w w') (.obj ms) (.iface 118 lv)/\w.grownBy w' (some R)/\zt w' R s q
 | .err c q=>∃lv,e = .returned (.tuple #[lv,ky c q])/\w.grownBy w' (some R)
theorem LX(s:BY)(R d F:Nat)(b:World)(p:s.size<=4000)(l:R<b.heap.size)(e:R≠5)(k:5<b.heap.size)(r:ZB s R F) :
  Reads s R 191 #[.pointer (some ⟨b.heap.size,0,none⟩),.pointer (some ⟨b.heap.size+1,0,none⟩),.pointer (some ⟨b.heap.size+2,0,none⟩)] (Rd.stO s.data.toList d) F d (Z9 b R s d) (Yt b R) where
 rd:=λ_ _ _ h=>h.rd
 mv:=λ_ _ _ _ _ h g n o=>h.mv l e g n o
 bad:=λ_ _ _ h=>by
  obtain⟨u,cap,y,c1,_⟩:=h.row;exact⟨h.grown,_,c1⟩
 adv:=λf a q t x g hb i h=>by
  unfold Rd.stO at h
  cases hx:Rd.Qn s.data.toList d f a q with
  | ok v q2=>
   rw[hx] at h;injection h with h1 h2
   rw[<- h2];exact nN g i hx
  | err c q2=>rw[hx] at h;cases h
 one:=λf a q w i m hi g _ j=>LW s R d F b p l e k m r f a q w i hi g j
theorem Z9.val{a:World}{R:Nat}{s:BY}{d:Nat}{acc:List (BY×Rd.V)}{q:Nat}{w:World}(h:Z9 a R s d acc q w):∃lv,w.cell? ⟨a.heap.size+2,0,none⟩=some lv/\ValAt w (Blk a w) (.obj acc) (.iface 118 lv):=by
 obtain⟨l,cap,i,c1,c2,c3,k,c4⟩:=h.row;refine⟨_,c1,?_⟩;have n:i.length=acc.length:=by have:=congrArg List.length k;simpa using this
 have e:∀(j:Nat) (x:BY×Rd.V) (u:BY×Value),acc[j]?=some x->i[j]?=some u->ValAt w (Blk a w) x.2 u.2:=λj v u r p=>(c4 j v u r p).move (λb hb=>⟨by omega,hb.2.1⟩) (λ_ _=>rfl);have f:=ng c3;rw[<- n];refine .obj acc i l cap k ?_ e
 rcases f with h0|⟨b,o,ha,hc⟩
 ·exact .inl h0
 ·rcases c3.2 with ⟨h1,h2⟩|⟨g,c,cur,h1,hB,hg,hrest⟩
  ·exact .inl (U2 (by omega))
  ·injection h1 with h1 h2 h3
   rw[h1] at ha;injection ha with ha
   injection ha with hb ho
   subst hb;refine .inr ⟨g,h1,⟨by omega,(Xz.1 hg).1⟩,λj x t=>?_⟩;obtain⟨m,rfl⟩:=zP.1 t
   have:=hc j m
   rw[<- ho] at this
   simpa using this
theorem LZ(s:BY)(R p d F:Nat)(w:World)(t:zt w R s p)(r:qx w)(i:R≠5)(H:p<s.size)(z:s.size<=4000)(K:d<=9)(m:ZB s R F)(hF:2*(s.size-(p+1))+1<F) :
  Calls prog 144 #[.pointer (some ⟨R,0,none⟩),.int .i64 (d:Int)] w λe w'=>eT w R s (Rd.vT s.data.toList (Rd.stO s.data.toList d) 125 F d [] p) e w':=by
 have G:=t.lt;have o:=r.lt;have D:∀args w,(callFunc 191 args).run prog w = .ok (.enter 191 args) w:=enters_of func191 (by kernel_rfl) rfl;have k:∀A B C:Obj,w.grownBy (((w.alloc A).alloc B).alloc C) (some R):=λA B C=>zS (zS (xS w A _) (xS _ B _)) (xS _ C _)
 have b:Z9 w R s d [] p (((w.alloc (.cells #[.pointer (some ⟨R,0,none⟩)] 195)).alloc (.cells #[.int .i64 (d:Int)] 3)).alloc (.cells #[.slice none 0 0] 118)):=by
  have l:=su w (.pointer (some ⟨R,0,none⟩)) (.int .i64 (d:Int)) (.slice none 0 0) 195 3 118;exact⟨((t.alloc _).alloc _).alloc _,r.grown (k _ _ _) i,k _ _ _,by simp,zD _,l.1,l.2.1,none,0,[],l.2.2.1,l.2.2.2,qC _ _ _ _,rfl,λj v u m=>by simp at m⟩
 have a:=lW s R p d 125 191 F _ (Rd.stO s.data.toList d) (Z9 w R s d) (Yt w R) [] _ D (LX s R d F w z G i o m) b H z (by omega) (by decide) (by decide) hF;clear b m t r
 cases hx:Rd.vT s.data.toList (Rd.stO s.data.toList d) 125 F d [] p with
 | ok J q=>
  rw[hx] at a
  have f:=a.mono (R':=λe w'=>e = .returned .nilIface/\∃lv,w'.cell? ⟨w.heap.size+2,0,none⟩=some lv/\ValAt w' (Blk w w') (.obj J) (.iface 118 lv)/\w.grownBy w' (some R)/\zt w' R s q) (by
   rintro e w' ⟨rfl,h⟩;obtain⟨lv,n,E⟩:=h.val;exact⟨rfl,lv,n,E,h.grown,h.rd⟩)
  clear a hx;go_enter func144,ntmps144
  go_wp2_with (go_at_call 190;refine f.mono ?_;rintro e w1 ⟨rfl,lv,I,y,g,x⟩)
  go_ret2;exact⟨lv,rfl,y,g,x⟩
 | err c q=>
  rw[hx] at a
  have f:=a.mono (R':=λe w'=>e = .returned (ky c q)/\∃lv,w'.cell? ⟨w.heap.size+2,0,none⟩=some lv/\w.grownBy w' (some R)) (by
   rintro e w' ⟨rfl,h,lv,n⟩;exact⟨rfl,lv,n,h⟩)
  clear a hx;go_enter func144,ntmps144
  go_wp2_with (go_at_call 190;refine f.mono ?_;rintro e w1 ⟨rfl,lv,I,g⟩)
  go_ret2;exact⟨lv,rfl,g⟩
theorem mM(s:BY)(R p d F:Nat)(w:World)(g:zt w R s p)(f:qx w)(a:R≠5)(c:p<s.size)(i:s.size<=4000)(b:d<=9)(j:ZB s R F)(hF:2*(s.size-(p+1))+1<F)(r:Rd.Res (List Rd.V))(h:Rd.vT s.data.toList (Rd.stL s.data.toList d) 93 F d [] p=r) :
  Calls prog 145 #[.pointer (some ⟨R,0,none⟩),.int .i64 (d:Int)] w λe w'=>Jk w R s r e w':=by
 rw[<- h];exact IJ s R p d F w g f a c i b j hF
theorem nQ(s:BY)(R p d F:Nat)(w:World)(g:zt w R s p)(f:qx w)(a:R≠5)(c:p<s.size)(i:s.size<=4000)(b:d<=9)(j:ZB s R F)(hF:2*(s.size-(p+1))+1<F)(r:Rd.Res (List (BY×Rd.V)))(h:Rd.vT s.data.toList (Rd.stO s.data.toList d) 125 F d [] p=r) :
  Calls prog 144 #[.pointer (some ⟨R,0,none⟩),.int .i64 (d:Int)] w λe w'=>eT w R s r e w':=by
 rw[<- h];exact LZ s R p d F w g f a c i b j hF
theorem Blk.later{w w1 a:World}{b:Nat}(h:Blk w1 a b)(c:w.heap.size<=w1.heap.size):Blk w a b:=⟨by have:=h.1;omega,h.2⟩
theorem Sm(s:BY)(R f d p:Nat)(w:World)(K:zt w R s p)(J:qx w)(u:R≠5)(B:p<=s.size)(z:s.size<=4000)(G:d<=9)(M:2*(s.size-p)<f+1)(E:ZB s R f) :
  Calls prog 93 #[.pointer (some ⟨R,0,none⟩),.int .i64 (d:Int)] w λe w'=>vR w R s (starts s p) (Rd.qm s.data.toList (f+1) d p) e w':=by
 obtain⟨b,hb⟩:=Nm (Rd.zi s.data.toList p)
 have o:=(Y1 s R p w K B).mono (R':=λe w'=>e = .returned (.int .u8 (b:Int))/\zt w' R s p/\w.grownBy w' (some R)/\qx w') (by
  rintro e w' ⟨rfl,L,H,_,_⟩;exact⟨by rw[hb],L,H,J.grown H u⟩)
 have I:b<256:=by rw[<- hb];exact Rd.ZU _ _
 have l:b≠0->p<s.size:=λh=>by
  have:=Rd.qi s.data.toList p (by rw[hb];exact h)
  rwa [Ref.zz] at this
 have n:starts s p=(b==123||b==91||b==34||b==116||b==102):=by unfold starts;rw[hb]
 clear K J
 by_cases c1:b=123
 ·have k:=hid (Rd.Sk s.data.toList f d p (by rw[hb];exact c1));have v:Hid (starts s p=true):=hid (by rw[n,c1];rfl);have F:(b:Int)=123:=by omega
  have x:=l (by omega);clear hb n l
  cases hx:Rd.vT s.data.toList (Rd.stO s.data.toList d) 125 f d [] p with
  | ok ms q=>
   rw[hx] at k;have r:=hid hx;clear hx;go_enter func93,ntmps93
   go_wp2_with (first
    | (go_at_call 143;refine o.mono ?_;rintro e w1 ⟨rfl,g,a,j⟩)
    | (go_at_call 144;refine (nQ s R p d f w1 g j u x z G E (by omega) _ r.out).mono ?_;rintro e A ⟨lv,rfl,C,i,m⟩))
   go_ret2;refine vR.of ?_ k.out;exact⟨_,rfl,C.move (λb hb=>hb.later a.size) (λ_ _=>rfl),zS a i,m⟩
  | err c q=>
   rw[hx] at k;have r:=hid hx;clear hx;go_enter func93,ntmps93
   go_wp2_with (first
    | (go_at_call 143;refine o.mono ?_;rintro e w1 ⟨rfl,g,a,j⟩)
    | (go_at_call 144;refine (nQ s R p d f w1 g j u x z G E (by omega) _ r.out).mono ?_;rintro e A ⟨lv,rfl,i⟩))
   go_ret2;refine vR.of ?_ k.out;exact⟨_,rfl,⟨λ_=>⟨_,_,rfl⟩,λh=>absurd (v.out.symm.trans h) (by decide)⟩,zS a i⟩
 have N:((b:Int)==123)=false:=by rw[qG];omega
 by_cases c2:b=91
 ·have k:=hid (Rd.Si s.data.toList f d p (by rw[hb];exact c2));have v:Hid (starts s p=true):=hid (by rw[n,c2];rfl);have F:(b:Int)=91:=by omega
  have x:=l (by omega);clear hb n l
  cases hx:Rd.vT s.data.toList (Rd.stL s.data.toList d) 93 f d [] p with
  | ok ms q=>
   rw[hx] at k;have r:=hid hx;clear hx;go_enter func93,ntmps93
   go_wp2_with (first
    | (go_at_call 143;refine o.mono ?_;rintro e w1 ⟨rfl,g,a,j⟩)
    | (go_at_call 145;refine (mM s R p d f w1 g j u x z G E (by omega) _ r.out).mono ?_;rintro e A ⟨lv,rfl,C,i,m⟩))
   go_ret2;refine vR.of ?_ k.out;exact⟨_,rfl,C.move (λb hb=>hb.later a.size) (λ_ _=>rfl),zS a i,m⟩
  | err c q=>
   rw[hx] at k;have r:=hid hx;clear hx;go_enter func93,ntmps93
   go_wp2_with (first
    | (go_at_call 143;refine o.mono ?_;rintro e w1 ⟨rfl,g,a,j⟩)
    | (go_at_call 145;refine (mM s R p d f w1 g j u x z G E (by omega) _ r.out).mono ?_;rintro e A ⟨lv,rfl,i⟩))
   go_ret2;refine vR.of ?_ k.out;exact⟨_,rfl,⟨λ_=>⟨_,_,rfl⟩,λh=>absurd (v.out.symm.trans h) (by decide)⟩,zS a i⟩
 have O:((b:Int)==91)=false:=by rw[qG];omega
 clear E
 by_cases c3:b=34
 ·have k:=hid (Rd.Sn s.data.toList f d p (by rw[hb];exact c3));have v:Hid (starts s p=true):=hid (by rw[n,c3];rfl);have F:(b:Int)=34:=by omega
  clear hb n l
  cases hx:Rd.yG s.data.toList p with
  | ok t q=>
   rw[hx] at k;have r:=hid hx;clear hx;go_enter func93,ntmps93
   go_wp2_with (first
    | (go_at_call 143;refine o.mono ?_;rintro e w1 ⟨rfl,g,a,j⟩)
    | (go_at_call 146;refine (Uy s R p w1 g B z j u _ r.out).mono ?_;rintro e A ⟨rfl,i,m,y⟩))
   go_ret2;refine vR.of ?_ k.out;exact⟨_,rfl,.str t,zS a i,m⟩
  | err c q=>
   rw[hx] at k;have D:=Rd.oW hx;subst D;have r:=hid hx;clear hx;go_enter func93,ntmps93
   go_wp2_with (first
    | (go_at_call 143;refine o.mono ?_;rintro e w1 ⟨rfl,g,a,j⟩)
    | (go_at_call 146;refine (Uy s R p w1 g B z j u _ r.out).mono ?_;rintro e A ⟨rfl,i,m,y⟩))
   go_ret2;refine vR.of ?_ k.out;exact⟨_,rfl,⟨λ_=>⟨_,_,rfl⟩,λh=>absurd (v.out.symm.trans h) (by decide)⟩,zS a i⟩
 have P:((b:Int)==34)=false:=by rw[qG];omega
 by_cases c4:b=116
 ·have k:=hid (Rd.Sq s.data.toList f d p (by rw[hb];exact c4));have v:Hid (starts s p=true):=hid (by rw[n,c4];rfl);have F:(b:Int)=116:=by omega
  clear hb n l
  cases hx:Rd.qh s.data.toList [116,114,117,101] p with
  | ok t q=>
   rw[hx] at k;have r:=hid hx;clear hx;go_enter func93,ntmps93
   go_wp2_with (first
    | (go_at_call 143;refine o.mono ?_;rintro e w1 ⟨rfl,g,a,j⟩)
    | (go_at_call 147;refine (Xy s ⟨#[116,114,117,101]⟩ R p w1 g B z (by decide) (by decide) _ r.out).mono ?_;rintro e A ⟨rfl,i,m,y⟩))
   go_ret2;refine vR.of ?_ k.out;exact⟨_,rfl,.word true,zS a i,m⟩
  | err c q=>
   rw[hx] at k;have D:=Rd.Vi hx;subst D;have r:=hid hx;clear hx;go_enter func93,ntmps93
   go_wp2_with (first
    | (go_at_call 143;refine o.mono ?_;rintro e w1 ⟨rfl,g,a,j⟩)
    | (go_at_call 147;refine (Xy s ⟨#[116,114,117,101]⟩ R p w1 g B z (by decide) (by decide) _ r.out).mono ?_;rintro e A ⟨rfl,i,m,y⟩))
   go_ret2;refine vR.of ?_ k.out;exact⟨_,rfl,⟨λ_=>⟨_,_,rfl⟩,λh=>absurd (v.out.symm.trans h) (by decide)⟩,zS a i⟩
 have Q:((b:Int)==116)=false:=by rw[qG];omega
 by_cases c5:b=102
 ·have k:=hid (Rd.Sg s.data.toList f d p (by rw[hb];exact c5));have v:Hid (starts s p=true):=hid (by rw[n,c5];rfl);have F:(b:Int)=102:=by omega
  clear hb n l
  cases hx:Rd.qh s.data.toList [102,97,108,115,101] p with
  | ok t q=>
   rw[hx] at k;have r:=hid hx;clear hx;go_enter func93,ntmps93
   go_wp2_with (first
    | (go_at_call 143;refine o.mono ?_;rintro e w1 ⟨rfl,g,a,j⟩)
    | (go_at_call 147;refine (Xy s ⟨#[102,97,108,115,101]⟩ R p w1 g B z (by decide) (by decide) _ r.out).mono ?_;rintro e A ⟨rfl,i,m,y⟩))
   go_ret2;refine vR.of ?_ k.out;exact⟨_,rfl,.word false,zS a i,m⟩
  | err c q=>
   rw[hx] at k;have D:=Rd.Vi hx;subst D;have r:=hid hx;clear hx;go_enter func93,ntmps93
   go_wp2_with (first
    | (go_at_call 143;refine o.mono ?_;rintro e w1 ⟨rfl,g,a,j⟩)
    | (go_at_call 147;refine (Xy s ⟨#[102,97,108,115,101]⟩ R p w1 g B z (by decide) (by decide) _ r.out).mono ?_;rintro e A ⟨rfl,i,m,y⟩))
   go_ret2;refine vR.of ?_ k.out;exact⟨_,rfl,⟨λ_=>⟨_,_,rfl⟩,λh=>absurd (v.out.symm.trans h) (by decide)⟩,zS a i⟩
 have S:((b:Int)==102)=false:=by rw[qG];omega
 have k:=hid (Rd.Sj s.data.toList f d p (by rw[hb];exact c1) (by rw[hb];exact c2) (by rw[hb];exact c3) (by rw[hb];exact c4) (by rw[hb];exact c5));have v:Hid (starts s p=false):=hid (by rw[n];simp[c1,c2,c3,c4,c5]);clear hb n l c1 c2 c3 c4 c5;go_enter func93,ntmps93
 go_wp2_with (first
  | (go_at_call 143;refine o.mono ?_;rintro e w1 ⟨rfl,g,a,j⟩)
  | (go_at_call 94;refine (Q6 s R p w1 g).mono ?_;rintro e A ⟨rfl,rfl⟩))
 go_ret2;refine vR.of ?_ k.out;exact⟨_,rfl,⟨λh=>absurd (v.out.symm.trans h) (by decide),λ_=>rfl⟩,a⟩
theorem sH(s:BY)(R:Nat)(a:R≠5)(e:s.size<=4000):∀F,ZB s R F
 | 0=>λf c=>absurd c (Nat.not_lt_zero f)
 | F+1=>λf c d p w k j i _ b _ h=>by
  cases f with
  | zero=>omega
  | succ f=>exact Sm s R f d p w k j a i e b (by omega) (λg l=>sH s R a e F g (by omega))
def Qd(w:World)(r:Rd.Res Rd.V)(e:Ending)(w':World):Prop:=match r with
 | .ok v _=>∃u,e = .returned (.tuple #[u,.nilIface])/\ValAt w' (Blk w w') v u/\Below w.heap.size w w'
 | .err c q=>e = .returned (.tuple #[.nilIface,ky c q])/\Below w.heap.size w w'
theorem Qd.of{w w':World}{r a:Rd.Res Rd.V}{e:Ending}(h:Qd w r e w')(b:a=r):Qd w a e w':=b ▸ h
theorem below_grown{w w1 c:World}{R:Nat}(h:Below w.heap.size w w1)(d:w.heap.size<=R)(a:w1.grownBy c (some R)):Below w.heap.size w c:=
 ⟨a.os.trans h.os,a.tape.trans h.tape,a.output.trans h.output,xe h.size a.size,λk b=>(a.block k (xL b h.size) (by simp;omega)).trans (h.block k b)⟩
theorem bR(s:BY)(w:World)(Y:qx w)(Z:s.size<=4000) :
  Calls prog 50 #[.string s] w λe w'=>Qd w (Rd.yA s.data.toList) e w':=by
 have a0:=Y.lt;have R:w.heap.size≠5:=by omega
 have dl:decide ((4000:Int)<(s.size:Int))=false:=zM (by omega);have W:=zO w (.cells #[.string s,.int .i64 0] 197)
 have U:zt (w.alloc (.cells #[.string s,.int .i64 0] 197)) w.heap.size s 0:=by
  refine⟨?_,?_,?_⟩
  ·simp only[World.cell?,W];rfl
  ·simp only[World.cell?,W];rfl
  ·simp only[World.frozen?,W];rfl
 have S:=nbl w (.cells #[.string s,.int .i64 0] 197);have T:qx (w.alloc (.cells #[.string s,.int .i64 0] 197)):=Y.same (S.block _ a0);have N:=Rd.j5 s.data.toList 0 (zD _);have y:=Rd.ut s.data.toList 0;rw[Ref.zz] at N;have i:Rd.yA s.data.toList=Rd.yA s.data.toList:=rfl
 conv at i=>rhs;unfold Rd.yA
 obtain⟨p,J⟩:=Nm (Rd.skip s.data.toList 0);rw[J] at N y i
 have M:=(Yf s w.heap.size 0 _ U (zD _) Z).mono (R':=λe w'=>e = .returned (.tuple #[])/\zt w' w.heap.size s p/\Below w.heap.size w w'/\qx w'/\w.heap.size+1<=w'.heap.size) (by
  rintro e w' ⟨rfl,G,x⟩;rw[J] at x;exact⟨rfl,x,below_grown S (ze _) G,T.grown G R,by have:=G.size;simp at this;omega⟩)
 have a:=λw1 (h:zt w1 w.heap.size s p) (F:qx w1)=>sH s w.heap.size R Z (2*s.data.toList.length+2) (2*s.data.toList.length+1) (by omega) 1 p w1 h F N (by omega) (by omega) y (by rw[Ref.zz];omega);have B:=hid (λv q z=>Rd.UO (l:=s.data.toList) (f:=2*s.data.toList.length+1) (d:=1) (p:=p) (q:=q) (v:=v) (by omega) (by rw[Ref.zz];omega) y (by rw[Ref.zz];omega) z);clear J y U Y T W
 cases z:Rd.qm s.data.toList (2*s.data.toList.length+1) 1 p with
 | err c q=>
  rw[z] at i;simp only at i;simp only[z] at a;obtain⟨T2,H⟩:=XZ c q
  have g:∀w1,zt w1 w.heap.size s p->qx w1->Below w.heap.size w w1->Calls prog 93 #[.pointer (some ⟨w.heap.size,0,none⟩),.int .i64 1] w1 λe w'=>∃u,e = .returned (.tuple #[u,.iface T2 (.agg #[.int .i64 (q:Int)])])/\Below w.heap.size w w':=λw1 h F x=>by
   refine (a w1 h F).mono ?_;rintro e w' ⟨u,rfl,_,X⟩;exact⟨u,by rw[H],below_grown x (ze _) X⟩
  have P:=hid i;have HT:=hid H;clear a i z H;go_enter func50,ntmps50
  go_wp2_with (first
   | (go_at_call 92;refine M.mono ?_;rintro e w1 ⟨rfl,o,k,n,A⟩)
   | (go_at_call 93;refine (g w1 o n k).mono ?_;rintro e j ⟨u,rfl,m⟩))
  go_ret2;refine Qd.of ?_ P.out;exact⟨by rw[HT.out];rfl,m⟩
 | ok v q=>
  rw[z] at i;simp only at i;simp only[z] at a;have C:=B.out v q z;rw[Ref.zz] at C;have D:=Rd.j5 s.data.toList q (by rw[Ref.zz];omega);rw[Ref.zz] at D;obtain⟨q2,K⟩:=Nm (Rd.skip s.data.toList q);rw[K] at D i
  have g:∀w1,zt w1 w.heap.size s p->qx w1->Below w.heap.size w w1->w.heap.size+1<=w1.heap.size->Calls prog 93 #[.pointer (some ⟨w.heap.size,0,none⟩),.int .i64 1] w1 λe w'=>∃u,e = .returned (.tuple #[u,.nilIface])/\ValAt w' (λb=>w.heap.size+1<=b/\b<w'.heap.size) v u/\Below w.heap.size w w'/\zt w' w.heap.size s q:=λw1 h F x h3=>by
   refine (a w1 h F).mono ?_;rintro e w' ⟨u,rfl,O,X,hr⟩;exact⟨u,rfl,O.move (λb hb=>⟨by have:=hb.1;omega,hb.2⟩) (λ_ _=>rfl),below_grown x (ze _) X,hr⟩
  have V:∀j u,zt j w.heap.size s q->Below w.heap.size w j->ValAt j (λb=>w.heap.size+1<=b/\b<j.heap.size) v u->Calls prog 92 #[.pointer (some ⟨w.heap.size,0,none⟩)] j λe w'=>e = .returned (.tuple #[])/\zt w' w.heap.size s q2/\Below w.heap.size w w'/\ValAt w' (Blk w w') v u:=λj u h F O=>by
   refine (Yf s w.heap.size q j h C.2 Z).mono ?_;rintro e w' ⟨rfl,G,x⟩;rw[K] at x;exact⟨rfl,x,below_grown F (ze _) G,O.move (λb hb=>⟨by omega,by have:=G.size;omega⟩) (λb hb=>G.block b hb.2 (by simp;omega))⟩
  clear a z K B
  by_cases c:q2<s.size
  ·rw[zb (by rw[Ref.zz];exact c)] at i;have P:=hid i;have dq:decide ((q2:Int)<(s.size:Int))=true:=zB (by omega);clear i;go_enter func50,ntmps50
   go_wp2_with (first
    | (go_at_call 92;refine (V j u L m t).mono ?_;rintro e w3 ⟨rfl,r,I,E⟩;have Q:=hid r;obtain⟨g1,g2,g3⟩:=r)
    | (go_at_call 92;refine M.mono ?_;rintro e w1 ⟨rfl,o,k,n,A⟩)
    | (go_at_call 93;refine (g w1 o n k A).mono ?_;rintro e j ⟨u,rfl,t,m,L⟩)
    | (go_at_call 94;refine (Q6 s w.heap.size q2 w3 Q.out).mono ?_;rintro e w4 ⟨rfl,rfl⟩))
   go_ret2;refine Qd.of ?_ P.out;exact⟨rfl,I⟩
  ·rw[za (by rw[Ref.zz];exact c)] at i;have P:=hid i;have dq:decide ((q2:Int)<(s.size:Int))=false:=zM (by omega);clear i;go_enter func50,ntmps50
   go_wp2_with (first
    | (go_at_call 92;refine (V j u L m t).mono ?_;rintro e w3 ⟨rfl,r,I,E⟩;have Q:=hid r;obtain⟨g1,g2,g3⟩:=r)
    | (go_at_call 92;refine M.mono ?_;rintro e w1 ⟨rfl,o,k,n,A⟩)
    | (go_at_call 93;refine (g w1 o n k A).mono ?_;rintro e j ⟨u,rfl,t,m,L⟩))
   go_ret2;refine Qd.of ?_ P.out;exact⟨u,rfl,E,I⟩
theorem NY(s:BY)(w:World)(EL:Value)(a:w.cell? ⟨0,0,none⟩=some EL)(d:4000<s.size) :
  Calls prog 50 #[.string s] w λe w'=>e = .returned (.tuple #[.nilIface,EL])/\Below w.heap.size w w':=by
 have c:decide ((4000:Int)<(s.size:Int))=true:=zB (by omega);go_enter func50,ntmps50;go_wp2_with fail
 go_quiet (fail)
 go_wp2
 go_ret2;exact⟨rfl,by have h:=yE w none nq;exact⟨h.os,h.tape,h.output,h.size,λk b=>h.block k b (by simp)⟩⟩
end Go.Proofs.YtdakgnaojakldaaGreatDoor
