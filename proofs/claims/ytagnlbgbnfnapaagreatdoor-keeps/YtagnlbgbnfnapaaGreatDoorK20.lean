/- P -/
import Derived.Test.YtagnlbgbnfnapaaGreatDoorK19
open Go.Proofs.Tryz
set_option maxRecDepth 100000
set_option maxHeartbeats 2000000
namespace Go.Proofs.YtagnlbgbnfnapaaGreatDoor
open Go.RowKit
def fK(w:World)(R:Nat)(s:BY)(r:Rd.Res (List (BY×Rd.V)))(e:Ending)(w':World):Prop:=match r with
 | .ok ms q=>∃lv,e = .returned (.tuple #[lv,.nilIface])/\ValAt w' (Blk w w') (.obj ms) (.iface 122 lv)/\w.grownBy w' (some R)/\zu w' R s q
 | .err c q=>∃lv,e = .returned (.tuple #[lv,kJ c q])/\w.grownBy w' (some R)
theorem Ms(s:BY)(R d F:Nat)(b:World)(p:s.size<=4000)(l:R<b.heap.size)(e:R≠5)(k:5<b.heap.size)(r:ZE s R F) :
  Reads s R 184 #[.pointer (some ⟨b.heap.size,0,none⟩),.pointer (some ⟨b.heap.size+1,0,none⟩),.pointer (some ⟨b.heap.size+2,0,none⟩)] (Rd.stO s.data.toList d) F d (Qe b R s d) (Yw b R) where
 rd:=λ_ _ _ h=>h.rd
 mv:=λ_ _ _ _ _ h g n o=>h.mv l e g n o
 bad:=λ_ _ _ h=>by
  obtain⟨u,cap,y,c1,_⟩:=h.row;exact⟨h.grown,_,c1⟩
 adv:=λf a q t x g hb i h=>by
  unfold Rd.stO at h
  cases hx:Rd.Qs s.data.toList d f a q with
  | ok v q2=>
   rw[hx] at h;injection h with h1 h2
   rw[<- h2];exact ou g i hx
  | err c q2=>rw[hx] at h;cases h
 one:=λf a q w i m hi g _ j=>Mr s R d F b p l e k m r f a q w i hi g j
theorem Qe.val{a:World}{R:Nat}{s:BY}{d:Nat}{acc:List (BY×Rd.V)}{q:Nat}{w:World}(h:Qe a R s d acc q w):∃lv,w.cell? ⟨a.heap.size+2,0,none⟩=some lv/\ValAt w (Blk a w) (.obj acc) (.iface 122 lv):=by
 obtain⟨l,cap,i,c1,c2,c3,k,c4⟩:=h.row;refine⟨_,c1,?_⟩;have n:i.length=acc.length:=by have:=congrArg List.length k;simpa using this
 have e:∀(j:Nat) (x:BY×Rd.V) (u:BY×Value),acc[j]?=some x->i[j]?=some u->ValAt w (Blk a w) x.2 u.2:=λj v u r p=>(c4 j v u r p).move (λb hb=>⟨by omega,hb.2.1⟩) (λ_ _=>rfl);have f:=nQ c3;rw[<- n];refine .obj acc i l cap k ?_ e
 rcases f with h0|⟨b,o,ha,hc⟩
 ·exact .inl h0
 ·rcases c3.2 with ⟨h1,h2⟩|⟨g,c,cur,h1,hB,hg,hrest⟩
  ·exact .inl (Kg (by omega))
  ·injection h1 with h1 h2 h3
   rw[h1] at ha;injection ha with ha
   injection ha with hb ho
   subst hb;refine .inr ⟨g,h1,⟨by omega,(XG.1 hg).1⟩,λj x t=>?_⟩;obtain⟨m,rfl⟩:=zR.1 t
   have:=hc j m
   rw[<- ho] at this
   simpa using this
theorem Mv(s:BY)(R p d F:Nat)(w:World)(r:zu w R s p)(o:qx w)(g:R≠5)(G:p<s.size)(y:s.size<=4000)(J:d<=9)(l:ZE s R F)(hF:2*(s.size-(p+1))+1<F) :
  Calls prog 141 #[.pointer (some ⟨R,0,none⟩),.int .i64 (d:Int)] w λe w'=>fK w R s (Rd.vV s.data.toList (Rd.stO s.data.toList d) 125 F d [] p) e w':=by
 have E:=r.lt;have n:=o.lt;have z:∀args w,(callFunc 184 args).run prog w = .ok (.enter 184 args) w:=xg func184 (by kernel_rfl) rfl;have i:∀A B C:Obj,w.grownBy (((w.alloc A).alloc B).alloc C) (some R):=λA B C=>zW (zW (xU w A _) (xU _ B _)) (xU _ C _)
 have a:Qe w R s d [] p (((w.alloc (.cells #[.pointer (some ⟨R,0,none⟩)] 183)).alloc (.cells #[.int .i64 (d:Int)] 3)).alloc (.cells #[.slice none 0 0] 122)):=by
  have k:=tq w (.pointer (some ⟨R,0,none⟩)) (.int .i64 (d:Int)) (.slice none 0 0) 183 3 122;exact⟨((r.alloc _).alloc _).alloc _,o.grown (i _ _ _) g,i _ _ _,by simp,zG _,k.1,k.2.1,none,0,[],k.2.2.1,k.2.2.2,qD _ _ _ _,rfl,λj v u l=>by simp at l⟩
 have hit:=mQ s R p d 125 184 F _ (Rd.stO s.data.toList d) (Qe w R s d) (Yw w R) [] _ z (Ms s R d F w y E g n l) a G y (by omega) (by decide) (by decide) hF;clear a l r o
 cases hx:Rd.vV s.data.toList (Rd.stO s.data.toList d) 125 F d [] p with
 | ok I q=>
  rw[hx] at hit
  have b:=hit.mono (R':=λe w'=>e = .returned .nilIface/\∃lv,w'.cell? ⟨w.heap.size+2,0,none⟩=some lv/\ValAt w' (Blk w w') (.obj I) (.iface 122 lv)/\w.grownBy w' (some R)/\zu w' R s q) (by
   rintro e w' ⟨rfl,h⟩;obtain⟨lv,m,D⟩:=h.val;exact⟨rfl,lv,m,D,h.grown,h.rd⟩)
  clear hit hx;go_enter func141,ntmps141
  go_wp2_with (go_at_call 183;refine b.mono ?_;rintro e w1 ⟨rfl,lv,H,x,f,t⟩)
  go_ret2;exact⟨lv,rfl,x,f,t⟩
 | err c q=>
  rw[hx] at hit
  have b:=hit.mono (R':=λe w'=>e = .returned (kJ c q)/\∃lv,w'.cell? ⟨w.heap.size+2,0,none⟩=some lv/\w.grownBy w' (some R)) (by
   rintro e w' ⟨rfl,h,lv,m⟩;exact⟨rfl,lv,m,h⟩)
  clear hit hx;go_enter func141,ntmps141
  go_wp2_with (go_at_call 183;refine b.mono ?_;rintro e w1 ⟨rfl,lv,H,f⟩)
  go_ret2;exact⟨lv,rfl,f⟩
theorem nE(s:BY)(R p d F:Nat)(w:World)(g:zu w R s p)(f:qx w)(a:R≠5)(c:p<s.size)(i:s.size<=4000)(b:d<=9)(j:ZE s R F)(hF:2*(s.size-(p+1))+1<F)(r:Rd.Res (List Rd.V))(h:Rd.vV s.data.toList (Rd.stL s.data.toList d) 93 F d [] p=r) :
  Calls prog 142 #[.pointer (some ⟨R,0,none⟩),.int .i64 (d:Int)] w λe w'=>fe w R s r e w':=by
 rw[<- h];exact Lg s R p d F w g f a c i b j hF
theorem oC(s:BY)(R p d F:Nat)(w:World)(g:zu w R s p)(f:qx w)(a:R≠5)(c:p<s.size)(i:s.size<=4000)(b:d<=9)(j:ZE s R F)(hF:2*(s.size-(p+1))+1<F)(r:Rd.Res (List (BY×Rd.V)))(h:Rd.vV s.data.toList (Rd.stO s.data.toList d) 125 F d [] p=r) :
  Calls prog 141 #[.pointer (some ⟨R,0,none⟩),.int .i64 (d:Int)] w λe w'=>fK w R s r e w':=by
 rw[<- h];exact Mv s R p d F w g f a c i b j hF
theorem Blk.later{w w1 a:World}{b:Nat}(h:Blk w1 a b)(c:w.heap.size<=w1.heap.size):Blk w a b:=⟨by have:=h.1;omega,h.2⟩
theorem SQ(s:BY)(R f d p:Nat)(w:World)(K:zu w R s p)(J:qx w)(u:R≠5)(B:p<=s.size)(z:s.size<=4000)(G:d<=9)(M:2*(s.size-p)<f+1)(E:ZE s R f) :
  Calls prog 92 #[.pointer (some ⟨R,0,none⟩),.int .i64 (d:Int)] w λe w'=>vT w R s (starts s p) (Rd.qm s.data.toList (f+1) d p) e w':=by
 obtain⟨b,hb⟩:=Nm (Rd.zk s.data.toList p)
 have o:=(Y6 s R p w K B).mono (R':=λe w'=>e = .returned (.int .u8 (b:Int))/\zu w' R s p/\w.grownBy w' (some R)/\qx w') (by
  rintro e w' ⟨rfl,L,H,_,_⟩;exact⟨by rw[hb],L,H,J.grown H u⟩)
 have I:b<256:=by rw[<- hb];exact Rd.ZW _ _
 have l:b≠0->p<s.size:=λh=>by
  have:=Rd.qj s.data.toList p (by rw[hb];exact h)
  rwa [Ref.zA] at this
 have n:starts s p=(b==123||b==91||b==34||b==116||b==102):=by unfold starts;rw[hb]
 clear K J
 by_cases c1:b=123
 ·have k:=hid (Rd.SL s.data.toList f d p (by rw[hb];exact c1));have v:Hid (starts s p=true):=hid (by rw[n,c1];rfl);have F:(b:Int)=123:=by omega
  have x:=l (by omega);clear hb n l
  cases hx:Rd.vV s.data.toList (Rd.stO s.data.toList d) 125 f d [] p with
  | ok ms q=>
   rw[hx] at k;have r:=hid hx;clear hx;go_enter func92,ntmps92
   go_wp2_with (first
    | (go_at_call 140;refine o.mono ?_;rintro e w1 ⟨rfl,g,a,j⟩)
    | (go_at_call 141;refine (oC s R p d f w1 g j u x z G E (by omega) _ r.out).mono ?_;rintro e A ⟨lv,rfl,C,i,m⟩))
   go_ret2;refine vT.of ?_ k.out;exact⟨_,rfl,C.move (λb hb=>hb.later a.size) (λ_ _=>rfl),zW a i,m⟩
  | err c q=>
   rw[hx] at k;have r:=hid hx;clear hx;go_enter func92,ntmps92
   go_wp2_with (first
    | (go_at_call 140;refine o.mono ?_;rintro e w1 ⟨rfl,g,a,j⟩)
    | (go_at_call 141;refine (oC s R p d f w1 g j u x z G E (by omega) _ r.out).mono ?_;rintro e A ⟨lv,rfl,i⟩))
   go_ret2;refine vT.of ?_ k.out;exact⟨_,rfl,⟨λ_=>⟨_,_,rfl⟩,λh=>absurd (v.out.symm.trans h) (by decide)⟩,zW a i⟩
 have N:((b:Int)==123)=false:=by rw[qI];omega
 by_cases c2:b=91
 ·have k:=hid (Rd.SI s.data.toList f d p (by rw[hb];exact c2));have v:Hid (starts s p=true):=hid (by rw[n,c2];rfl);have F:(b:Int)=91:=by omega
  have x:=l (by omega);clear hb n l
  cases hx:Rd.vV s.data.toList (Rd.stL s.data.toList d) 93 f d [] p with
  | ok ms q=>
   rw[hx] at k;have r:=hid hx;clear hx;go_enter func92,ntmps92
   go_wp2_with (first
    | (go_at_call 140;refine o.mono ?_;rintro e w1 ⟨rfl,g,a,j⟩)
    | (go_at_call 142;refine (nE s R p d f w1 g j u x z G E (by omega) _ r.out).mono ?_;rintro e A ⟨lv,rfl,C,i,m⟩))
   go_ret2;refine vT.of ?_ k.out;exact⟨_,rfl,C.move (λb hb=>hb.later a.size) (λ_ _=>rfl),zW a i,m⟩
  | err c q=>
   rw[hx] at k;have r:=hid hx;clear hx;go_enter func92,ntmps92
   go_wp2_with (first
    | (go_at_call 140;refine o.mono ?_;rintro e w1 ⟨rfl,g,a,j⟩)
    | (go_at_call 142;refine (nE s R p d f w1 g j u x z G E (by omega) _ r.out).mono ?_;rintro e A ⟨lv,rfl,i⟩))
   go_ret2;refine vT.of ?_ k.out;exact⟨_,rfl,⟨λ_=>⟨_,_,rfl⟩,λh=>absurd (v.out.symm.trans h) (by decide)⟩,zW a i⟩
 have O:((b:Int)==91)=false:=by rw[qI];omega
 clear E
 by_cases c3:b=34
 ·have k:=hid (Rd.SS s.data.toList f d p (by rw[hb];exact c3));have v:Hid (starts s p=true):=hid (by rw[n,c3];rfl);have F:(b:Int)=34:=by omega
  clear hb n l
  cases hx:Rd.yJ s.data.toList p with
  | ok t q=>
   rw[hx] at k;have r:=hid hx;clear hx;go_enter func92,ntmps92
   go_wp2_with (first
    | (go_at_call 140;refine o.mono ?_;rintro e w1 ⟨rfl,g,a,j⟩)
    | (go_at_call 143;refine (UG s R p w1 g B z j u _ r.out).mono ?_;rintro e A ⟨rfl,i,m,y⟩))
   go_ret2;refine vT.of ?_ k.out;exact⟨_,rfl,.str t,zW a i,m⟩
  | err c q=>
   rw[hx] at k;have D:=Rd.pX hx;subst D;have r:=hid hx;clear hx;go_enter func92,ntmps92
   go_wp2_with (first
    | (go_at_call 140;refine o.mono ?_;rintro e w1 ⟨rfl,g,a,j⟩)
    | (go_at_call 143;refine (UG s R p w1 g B z j u _ r.out).mono ?_;rintro e A ⟨rfl,i,m,y⟩))
   go_ret2;refine vT.of ?_ k.out;exact⟨_,rfl,⟨λ_=>⟨_,_,rfl⟩,λh=>absurd (v.out.symm.trans h) (by decide)⟩,zW a i⟩
 have P:((b:Int)==34)=false:=by rw[qI];omega
 by_cases c4:b=116
 ·have k:=hid (Rd.SV s.data.toList f d p (by rw[hb];exact c4));have v:Hid (starts s p=true):=hid (by rw[n,c4];rfl);have F:(b:Int)=116:=by omega
  clear hb n l
  cases hx:Rd.qi s.data.toList [116,114,117,101] p with
  | ok t q=>
   rw[hx] at k;have r:=hid hx;clear hx;go_enter func92,ntmps92
   go_wp2_with (first
    | (go_at_call 140;refine o.mono ?_;rintro e w1 ⟨rfl,g,a,j⟩)
    | (go_at_call 144;refine (XE s ⟨#[116,114,117,101]⟩ R p w1 g B z (by decide) (by decide) _ r.out).mono ?_;rintro e A ⟨rfl,i,m,y⟩))
   go_ret2;refine vT.of ?_ k.out;exact⟨_,rfl,.word true,zW a i,m⟩
  | err c q=>
   rw[hx] at k;have D:=Rd.Vq hx;subst D;have r:=hid hx;clear hx;go_enter func92,ntmps92
   go_wp2_with (first
    | (go_at_call 140;refine o.mono ?_;rintro e w1 ⟨rfl,g,a,j⟩)
    | (go_at_call 144;refine (XE s ⟨#[116,114,117,101]⟩ R p w1 g B z (by decide) (by decide) _ r.out).mono ?_;rintro e A ⟨rfl,i,m,y⟩))
   go_ret2;refine vT.of ?_ k.out;exact⟨_,rfl,⟨λ_=>⟨_,_,rfl⟩,λh=>absurd (v.out.symm.trans h) (by decide)⟩,zW a i⟩
 have Q:((b:Int)==116)=false:=by rw[qI];omega
 by_cases c5:b=102
 ·have k:=hid (Rd.SG s.data.toList f d p (by rw[hb];exact c5));have v:Hid (starts s p=true):=hid (by rw[n,c5];rfl);have F:(b:Int)=102:=by omega
  clear hb n l
  cases hx:Rd.qi s.data.toList [102,97,108,115,101] p with
  | ok t q=>
   rw[hx] at k;have r:=hid hx;clear hx;go_enter func92,ntmps92
   go_wp2_with (first
    | (go_at_call 140;refine o.mono ?_;rintro e w1 ⟨rfl,g,a,j⟩)
    | (go_at_call 144;refine (XE s ⟨#[102,97,108,115,101]⟩ R p w1 g B z (by decide) (by decide) _ r.out).mono ?_;rintro e A ⟨rfl,i,m,y⟩))
   go_ret2;refine vT.of ?_ k.out;exact⟨_,rfl,.word false,zW a i,m⟩
  | err c q=>
   rw[hx] at k;have D:=Rd.Vq hx;subst D;have r:=hid hx;clear hx;go_enter func92,ntmps92
   go_wp2_with (first
    | (go_at_call 140;refine o.mono ?_;rintro e w1 ⟨rfl,g,a,j⟩)
    | (go_at_call 144;refine (XE s ⟨#[102,97,108,115,101]⟩ R p w1 g B z (by decide) (by decide) _ r.out).mono ?_;rintro e A ⟨rfl,i,m,y⟩))
   go_ret2;refine vT.of ?_ k.out;exact⟨_,rfl,⟨λ_=>⟨_,_,rfl⟩,λh=>absurd (v.out.symm.trans h) (by decide)⟩,zW a i⟩
 have S:((b:Int)==102)=false:=by rw[qI];omega
 have k:=hid (Rd.SK s.data.toList f d p (by rw[hb];exact c1) (by rw[hb];exact c2) (by rw[hb];exact c3) (by rw[hb];exact c4) (by rw[hb];exact c5));have v:Hid (starts s p=false):=hid (by rw[n];simp[c1,c2,c3,c4,c5]);clear hb n l c1 c2 c3 c4 c5;go_enter func92,ntmps92
 go_wp2_with (first
  | (go_at_call 140;refine o.mono ?_;rintro e w1 ⟨rfl,g,a,j⟩)
  | (go_at_call 93;refine (Q9 s R p w1 g).mono ?_;rintro e A ⟨rfl,rfl⟩))
 go_ret2;refine vT.of ?_ k.out;exact⟨_,rfl,⟨λh=>absurd (v.out.symm.trans h) (by decide),λ_=>rfl⟩,a⟩
theorem tJ(s:BY)(R:Nat)(a:R≠5)(e:s.size<=4000):∀F,ZE s R F
 | 0=>λf c=>absurd c (Nat.not_lt_zero f)
 | F+1=>λf c d p w k j i _ b _ h=>by
  cases f with
  | zero=>omega
  | succ f=>exact SQ s R f d p w k j a i e b (by omega) (λg l=>tJ s R a e F g (by omega))
def Qi(w:World)(r:Rd.Res Rd.V)(e:Ending)(w':World):Prop:=match r with
 | .ok v _=>∃u,e = .returned (.tuple #[u,.nilIface])/\ValAt w' (Blk w w') v u/\Below w.heap.size w w'
 | .err c q=>e = .returned (.tuple #[.nilIface,kJ c q])/\Below w.heap.size w w'
theorem Qi.of{w w':World}{r a:Rd.Res Rd.V}{e:Ending}(h:Qi w r e w')(b:a=r):Qi w a e w':=b ▸ h
theorem below_grown{w w1 c:World}{R:Nat}(h:Below w.heap.size w w1)(d:w.heap.size<=R)(a:w1.grownBy c (some R)):Below w.heap.size w c:=
 ⟨a.os.trans h.os,a.tape.trans h.tape,a.output.trans h.output,qZ h.size a.size,λk b=>(a.block k (xM b h.size) (by simp;omega)).trans (h.block k b)⟩
theorem di(s:BY)(w:World)(Y:qx w)(Z:s.size<=4000) :
  Calls prog 52 #[.string s] w λe w'=>Qi w (Rd.yC s.data.toList) e w':=by
 have a0:=Y.lt;have R:w.heap.size≠5:=by omega
 have dl:decide ((4000:Int)<(s.size:Int))=false:=zO (by omega);have W:=zQ w (.cells #[.string s,.int .i64 0] 185)
 have U:zu (w.alloc (.cells #[.string s,.int .i64 0] 185)) w.heap.size s 0:=by
  refine⟨?_,?_,?_⟩
  ·simp only[World.cell?,W];rfl
  ·simp only[World.cell?,W];rfl
  ·simp only[World.frozen?,W];rfl
 have S:=nbl w (.cells #[.string s,.int .i64 0] 185);have T:qx (w.alloc (.cells #[.string s,.int .i64 0] 185)):=Y.same (S.block _ a0);have N:=Rd.ve s.data.toList 0 (zG _);have y:=Rd.uw s.data.toList 0;rw[Ref.zA] at N;have i:Rd.yC s.data.toList=Rd.yC s.data.toList:=rfl
 conv at i=>rhs;unfold Rd.yC
 obtain⟨p,J⟩:=Nm (Rd.skip s.data.toList 0);rw[J] at N y i
 have M:=(Yj s w.heap.size 0 _ U (zG _) Z).mono (R':=λe w'=>e = .returned (.tuple #[])/\zu w' w.heap.size s p/\Below w.heap.size w w'/\qx w'/\w.heap.size+1<=w'.heap.size) (by
  rintro e w' ⟨rfl,G,x⟩;rw[J] at x;exact⟨rfl,x,below_grown S (ze _) G,T.grown G R,by have:=G.size;simp at this;omega⟩)
 have a:=λw1 (h:zu w1 w.heap.size s p) (F:qx w1)=>tJ s w.heap.size R Z (2*s.data.toList.length+2) (2*s.data.toList.length+1) (by omega) 1 p w1 h F N (by omega) (by omega) y (by rw[Ref.zA];omega);have B:=hid (λv q z=>Rd.UZ (l:=s.data.toList) (f:=2*s.data.toList.length+1) (d:=1) (p:=p) (q:=q) (v:=v) (by omega) (by rw[Ref.zA];omega) y (by rw[Ref.zA];omega) z);clear J y U Y T W
 cases z:Rd.qm s.data.toList (2*s.data.toList.length+1) 1 p with
 | err c q=>
  rw[z] at i;simp only at i;simp only[z] at a;obtain⟨T2,H⟩:=YR c q
  have g:∀w1,zu w1 w.heap.size s p->qx w1->Below w.heap.size w w1->Calls prog 92 #[.pointer (some ⟨w.heap.size,0,none⟩),.int .i64 1] w1 λe w'=>∃u,e = .returned (.tuple #[u,.iface T2 (.agg #[.int .i64 (q:Int)])])/\Below w.heap.size w w':=λw1 h F x=>by
   refine (a w1 h F).mono ?_;rintro e w' ⟨u,rfl,_,X⟩;exact⟨u,by rw[H],below_grown x (ze _) X⟩
  have P:=hid i;have HT:=hid H;clear a i z H;go_enter func52,ntmps52
  go_wp2_with (first
   | (go_at_call 91;refine M.mono ?_;rintro e w1 ⟨rfl,o,k,n,A⟩)
   | (go_at_call 92;refine (g w1 o n k).mono ?_;rintro e j ⟨u,rfl,m⟩))
  go_ret2;refine Qi.of ?_ P.out;exact⟨by rw[HT.out];rfl,m⟩
 | ok v q=>
  rw[z] at i;simp only at i;simp only[z] at a;have C:=B.out v q z;rw[Ref.zA] at C;have D:=Rd.ve s.data.toList q (by rw[Ref.zA];omega);rw[Ref.zA] at D;obtain⟨q2,K⟩:=Nm (Rd.skip s.data.toList q);rw[K] at D i
  have g:∀w1,zu w1 w.heap.size s p->qx w1->Below w.heap.size w w1->w.heap.size+1<=w1.heap.size->Calls prog 92 #[.pointer (some ⟨w.heap.size,0,none⟩),.int .i64 1] w1 λe w'=>∃u,e = .returned (.tuple #[u,.nilIface])/\ValAt w' (λb=>w.heap.size+1<=b/\b<w'.heap.size) v u/\Below w.heap.size w w'/\zu w' w.heap.size s q:=λw1 h F x h3=>by
   refine (a w1 h F).mono ?_;rintro e w' ⟨u,rfl,O,X,hr⟩;exact⟨u,rfl,O.move (λb hb=>⟨by have:=hb.1;omega,hb.2⟩) (λ_ _=>rfl),below_grown x (ze _) X,hr⟩
  have V:∀j u,zu j w.heap.size s q->Below w.heap.size w j->ValAt j (λb=>w.heap.size+1<=b/\b<j.heap.size) v u->Calls prog 91 #[.pointer (some ⟨w.heap.size,0,none⟩)] j λe w'=>e = .returned (.tuple #[])/\zu w' w.heap.size s q2/\Below w.heap.size w w'/\ValAt w' (Blk w w') v u:=λj u h F O=>by
   refine (Yj s w.heap.size q j h C.2 Z).mono ?_;rintro e w' ⟨rfl,G,x⟩;rw[K] at x;exact⟨rfl,x,below_grown F (ze _) G,O.move (λb hb=>⟨by omega,by have:=G.size;omega⟩) (λb hb=>G.block b hb.2 (by simp;omega))⟩
  clear a z K B
  by_cases c:q2<s.size
  ·rw[zb (by rw[Ref.zA];exact c)] at i;have P:=hid i;have dq:decide ((q2:Int)<(s.size:Int))=true:=zC (by omega);clear i;go_enter func52,ntmps52
   go_wp2_with (first
    | (go_at_call 91;refine (V j u L m t).mono ?_;rintro e w3 ⟨rfl,r,I,E⟩;have Q:=hid r;obtain⟨g1,g2,g3⟩:=r)
    | (go_at_call 91;refine M.mono ?_;rintro e w1 ⟨rfl,o,k,n,A⟩)
    | (go_at_call 92;refine (g w1 o n k A).mono ?_;rintro e j ⟨u,rfl,t,m,L⟩)
    | (go_at_call 93;refine (Q9 s w.heap.size q2 w3 Q.out).mono ?_;rintro e w4 ⟨rfl,rfl⟩))
   go_ret2;refine Qi.of ?_ P.out;exact⟨rfl,I⟩
  ·rw[za (by rw[Ref.zA];exact c)] at i;have P:=hid i;have dq:decide ((q2:Int)<(s.size:Int))=false:=zO (by omega);clear i;go_enter func52,ntmps52
   go_wp2_with (first
    | (go_at_call 91;refine (V j u L m t).mono ?_;rintro e w3 ⟨rfl,r,I,E⟩;have Q:=hid r;obtain⟨g1,g2,g3⟩:=r)
    | (go_at_call 91;refine M.mono ?_;rintro e w1 ⟨rfl,o,k,n,A⟩)
    | (go_at_call 92;refine (g w1 o n k A).mono ?_;rintro e j ⟨u,rfl,t,m,L⟩))
   go_ret2;refine Qi.of ?_ P.out;exact⟨u,rfl,E,I⟩
theorem Ow(s:BY)(w:World)(EL:Value)(a:w.cell? ⟨0,0,none⟩=some EL)(d:4000<s.size) :
  Calls prog 52 #[.string s] w λe w'=>e = .returned (.tuple #[.nilIface,EL])/\Below w.heap.size w w':=by
 have c:decide ((4000:Int)<(s.size:Int))=true:=zC (by omega);go_enter func52,ntmps52;go_wp2_with fail
 go_quiet (fail)
 go_wp2
 go_ret2;exact⟨rfl,by have h:=yH w none nq;exact⟨h.os,h.tape,h.output,h.size,λk b=>h.block k b (by simp)⟩⟩
end Go.Proofs.YtagnlbgbnfnapaaGreatDoor
