/- P -/
import Derived.Test.YtagnlbgbnfnapaaGreatDoorZ19
open Go.Proofs.Tryz
set_option maxRecDepth 100000
set_option maxHeartbeats 2000000
namespace Go.Proofs.YtagnlbgbnfnapaaGreatDoor
open Go.RowKit
def lY(w:World)(R:Nat)(s:BA)(r:Rd.Res (List (BA×Rd.V)))(e:Ending)(a:World):Prop:=match r with
 | .ok ms q=>∃b,e = .returned (.tuple #[b,.nilIface])/\ValAt a (Blk w a) (.obj ms) (.iface 122 b)/\w.grownBy a (some R)/\zz a R s q
 | .err c q=>∃b,e = .returned (.tuple #[b,ZE c q])/\w.grownBy a (some R)
theorem OU(s:BA)(R d F:Nat)(b:World)(o:s.size<=4000)(l:R<b.heap.size)(e:R≠5)(k:5<b.heap.size)(p:Qr s R F) :
  Reads s R 184 #[.pointer (some ⟨b.heap.size,0,none⟩),.pointer (some ⟨b.heap.size+1,0,none⟩),.pointer (some ⟨b.heap.size+2,0,none⟩)] (Rd.stO s.data.toList d) F d (QY b R s d) (Js b R) where
 rd:=λ_ _ _ h=>h.rd
 mv:=λ_ _ _ _ _ h g m n=>h.mv l e g m n
 bad:=λ_ _ _ h=>by
  obtain⟨ao,cap,u,c1,_⟩:=h.row;exact⟨h.grown,_,c1⟩
 adv:=λf a q r t g hb i h=>by
  unfold Rd.stO at h
  cases hx:Rd.Xd s.data.toList d f a q with
  | ok v q2=>
   rw[hx] at h;injection h with h1 h2
   rw[<- h2];exact wG g i hx
  | err c q2=>rw[hx] at h;cases h
 one:=λf a q w i hd hi g _ j=>OT s R d F b o l e k hd p f a q w i hi g j
theorem QY.val{a:World}{R:Nat}{s:BA}{d:Nat}{acc:List (BA×Rd.V)}{q:Nat}{w:World}(h:QY a R s d acc q w):∃l,w.cell? ⟨a.heap.size+2,0,none⟩=some l/\ValAt w (Blk a w) (.obj acc) (.iface 122 l):=by
 obtain⟨ao,cap,i,c1,c2,c3,k,c4⟩:=h.row;refine⟨_,c1,?_⟩;have n:i.length=acc.length:=by have:=congrArg List.length k;simpa using this
 have e:∀(j:Nat) (x:BA×Rd.V) (u:BA×Value),acc[j]?=some x->i[j]?=some u->ValAt w (Blk a w) x.2 u.2:=λj v u r p=>(c4 j v u r p).move (λb hb=>⟨by omega,hb.2.1⟩) (λ_ _=>rfl);have f:=tu c3;rw[<- n];refine .obj acc i ao cap k ?_ e
 rcases f with h0|⟨b,o,ha,hc⟩
 ·exact .inl h0
 ·rcases c3.2 with ⟨h1,h2⟩|⟨g,c,cur,h1,hB,hg,hrest⟩
  ·exact .inl (Vx (by omega))
  ·injection h1 with h1 h2 h3
   rw[h1] at ha;injection ha with ha
   injection ha with hb ho
   subst hb;refine .inr ⟨g,h1,⟨by omega,(YI.1 hg).1⟩,λj x t=>?_⟩;obtain⟨m,rfl⟩:=xw.1 t
   have:=hc j m
   rw[<- ho] at this
   simpa using this
theorem OX(s:BA)(R p d F:Nat)(w:World)(x:zz w R s p)(t:qG w)(k:R≠5)(I:p<s.size)(D:s.size<=4000)(hd:d<=9)(n:Qr s R F)(hF:2*(s.size-(p+1))+1<F) :
  Calls prog 141 #[.pointer (some ⟨R,0,none⟩),.int .i64 (d:Int)] w λe b=>lY w R s (Rd.uD s.data.toList (Rd.stO s.data.toList d) 125 F d [] p) e b:=by
 have H:=x.lt;have r:=t.lt;have E:∀args w,(callFunc 184 args).run prog w = .ok (.enter 184 args) w:=qx func184 (by kernel_rfl) rfl;have l:∀A B C:Obj,w.grownBy (((w.alloc A).alloc B).alloc C) (some R):=λA B C=>qc (qc (yD w A _) (yD _ B _)) (yD _ C _)
 have f:QY w R s d [] p (((w.alloc (.cells #[.pointer (some ⟨R,0,none⟩)] 183)).alloc (.cells #[.int .i64 (d:Int)] 3)).alloc (.cells #[.slice none 0 0] 122)):=by
  have m:=BS w (.pointer (some ⟨R,0,none⟩)) (.int .i64 (d:Int)) (.slice none 0 0) 183 3 122;exact⟨((x.alloc _).alloc _).alloc _,t.grown (l _ _ _) k,l _ _ _,by simp,zU _,m.1,m.2.1,none,0,[],m.2.2.1,m.2.2.2,jR _ _ _ _,rfl,λj v u n=>by simp at n⟩
 have hit:=rJ s R p d 125 184 F _ (Rd.stO s.data.toList d) (QY w R s d) (Js w R) [] _ E (OU s R d F w D H k r n) f I D (by omega) (by decide) (by decide) hF;clear f n x t
 cases hx:Rd.uD s.data.toList (Rd.stO s.data.toList d) 125 F d [] p with
 | ok K q=>
  rw[hx] at hit
  have g:=hit.mono (R':=λe b=>e = .returned .nilIface/\∃a,b.cell? ⟨w.heap.size+2,0,none⟩=some a/\ValAt b (Blk w b) (.obj K) (.iface 122 a)/\w.grownBy b (some R)/\zz b R s q) (by
   rintro e b ⟨rfl,h⟩;obtain⟨a,o,G⟩:=h.val;exact⟨rfl,a,o,G,h.grown,h.rd⟩)
  clear hit hx;go_enter func141,ntmps141
  go_wp2_with (go_at_call 183;refine g.mono ?_;rintro e L ⟨rfl,a,J,z,i,y⟩)
  go_ret2;exact⟨a,rfl,z,i,y⟩
 | err c q=>
  rw[hx] at hit
  have g:=hit.mono (R':=λe b=>e = .returned (ZE c q)/\∃a,b.cell? ⟨w.heap.size+2,0,none⟩=some a/\w.grownBy b (some R)) (by
   rintro e b ⟨rfl,h,a,o⟩;exact⟨rfl,a,o,h⟩)
  clear hit hx;go_enter func141,ntmps141
  go_wp2_with (go_at_call 183;refine g.mono ?_;rintro e L ⟨rfl,a,J,i⟩)
  go_ret2;exact⟨a,rfl,i⟩
theorem sK(s:BA)(R p d F:Nat)(w:World)(f:zz w R s p)(c:qG w)(a:R≠5)(b:p<s.size)(g:s.size<=4000)(hd:d<=9)(i:Qr s R F)(hF:2*(s.size-(p+1))+1<F)(r:Rd.Res (List Rd.V))(h:Rd.uD s.data.toList (Rd.stL s.data.toList d) 93 F d [] p=r) :
  Calls prog 142 #[.pointer (some ⟨R,0,none⟩),.int .i64 (d:Int)] w λe j=>lQ w R s r e j:=by
 rw[<- h];exact Nz s R p d F w f c a b g hd i hF
theorem wJ(s:BA)(R p d F:Nat)(w:World)(f:zz w R s p)(c:qG w)(a:R≠5)(b:p<s.size)(g:s.size<=4000)(hd:d<=9)(i:Qr s R F)(hF:2*(s.size-(p+1))+1<F)(r:Rd.Res (List (BA×Rd.V)))(h:Rd.uD s.data.toList (Rd.stO s.data.toList d) 125 F d [] p=r) :
  Calls prog 141 #[.pointer (some ⟨R,0,none⟩),.int .i64 (d:Int)] w λe j=>lY w R s r e j:=by
 rw[<- h];exact OX s R p d F w f c a b g hd i hF
theorem Blk.later{w a c:World}{b:Nat}(h:Blk a c b)(d:w.heap.size<=a.heap.size):Blk w c b:=⟨by have:=h.1;omega,h.2⟩
theorem zaW(s:BA)(R f d p:Nat)(w:World)(M:zz w R s p)(L:qG w)(v:R≠5)(C:p<=s.size)(A:s.size<=4000)(hd:d<=9)(O:2*(s.size-p)<f+1)(G:Qr s R f) :
  Calls prog 92 #[.pointer (some ⟨R,0,none⟩),.int .i64 (d:Int)] w λe E=>uy w R s (starts s p) (Rd.qo s.data.toList (f+1) d p) e E:=by
 obtain⟨b,hb⟩:=Nm (Rd.zk s.data.toList p)
 have o:=(Vi s R p w M C).mono (R':=λe E=>e = .returned (.int .u8 (b:Int))/\zz E R s p/\w.grownBy E (some R)/\qG E) (by
  rintro e E ⟨rfl,N,J,_,_⟩;exact⟨by rw[hb],N,J,L.grown J v⟩)
 have K:b<256:=by rw[<- hb];exact Rd.QI _ _
 have l:b≠0->p<s.size:=λh=>by
  have:=Rd.qC s.data.toList p (by rw[hb];exact h)
  rwa [Ref.zP] at this
 have n:starts s p=(b==123||b==91||b==34||b==116||b==102):=by unfold starts;rw[hb]
 clear M L
 by_cases c1:b=123
 ·have k:=hid (Rd.zaU s.data.toList f d p (by rw[hb];exact c1));have x:Hid (starts s p=true):=hid (by rw[n,c1];rfl);have H:(b:Int)=123:=by omega
  have y:=l (by omega);clear hb n l
  cases hx:Rd.uD s.data.toList (Rd.stO s.data.toList d) 125 f d [] p with
  | ok ms q=>
   rw[hx] at k;have u:=hid hx;clear hx;go_enter func92,ntmps92
   go_wp2_with (first
    | (go_at_call 140;refine o.mono ?_;rintro e r ⟨rfl,g,a,j⟩)
    | (go_at_call 141;refine (wJ s R p d f r g j v y A hd G (by omega) _ u.out).mono ?_;rintro e B ⟨I,rfl,D,i,m⟩))
   go_ret2;refine uy.of ?_ k.out;exact⟨_,rfl,D.move (λb hb=>hb.later a.size) (λ_ _=>rfl),qc a i,m⟩
  | err c q=>
   rw[hx] at k;have u:=hid hx;clear hx;go_enter func92,ntmps92
   go_wp2_with (first
    | (go_at_call 140;refine o.mono ?_;rintro e r ⟨rfl,g,a,j⟩)
    | (go_at_call 141;refine (wJ s R p d f r g j v y A hd G (by omega) _ u.out).mono ?_;rintro e B ⟨I,rfl,i⟩))
   go_ret2;refine uy.of ?_ k.out;exact⟨_,rfl,⟨λ_=>⟨_,_,rfl⟩,λh=>absurd (x.out.symm.trans h) (by decide)⟩,qc a i⟩
 have P:((b:Int)==123)=false:=by rw[xh];omega
 by_cases c2:b=91
 ·have k:=hid (Rd.zaS s.data.toList f d p (by rw[hb];exact c2));have x:Hid (starts s p=true):=hid (by rw[n,c2];rfl);have H:(b:Int)=91:=by omega
  have y:=l (by omega);clear hb n l
  cases hx:Rd.uD s.data.toList (Rd.stL s.data.toList d) 93 f d [] p with
  | ok ms q=>
   rw[hx] at k;have u:=hid hx;clear hx;go_enter func92,ntmps92
   go_wp2_with (first
    | (go_at_call 140;refine o.mono ?_;rintro e r ⟨rfl,g,a,j⟩)
    | (go_at_call 142;refine (sK s R p d f r g j v y A hd G (by omega) _ u.out).mono ?_;rintro e B ⟨I,rfl,D,i,m⟩))
   go_ret2;refine uy.of ?_ k.out;exact⟨_,rfl,D.move (λb hb=>hb.later a.size) (λ_ _=>rfl),qc a i,m⟩
  | err c q=>
   rw[hx] at k;have u:=hid hx;clear hx;go_enter func92,ntmps92
   go_wp2_with (first
    | (go_at_call 140;refine o.mono ?_;rintro e r ⟨rfl,g,a,j⟩)
    | (go_at_call 142;refine (sK s R p d f r g j v y A hd G (by omega) _ u.out).mono ?_;rintro e B ⟨I,rfl,i⟩))
   go_ret2;refine uy.of ?_ k.out;exact⟨_,rfl,⟨λ_=>⟨_,_,rfl⟩,λh=>absurd (x.out.symm.trans h) (by decide)⟩,qc a i⟩
 have Q:((b:Int)==91)=false:=by rw[xh];omega
 clear G
 by_cases c3:b=34
 ·have k:=hid (Rd.zaX s.data.toList f d p (by rw[hb];exact c3));have x:Hid (starts s p=true):=hid (by rw[n,c3];rfl);have H:(b:Int)=34:=by omega
  clear hb n l
  cases hx:Rd.yR s.data.toList p with
  | ok t q=>
   rw[hx] at k;have u:=hid hx;clear hx;go_enter func92,ntmps92
   go_wp2_with (first
    | (go_at_call 140;refine o.mono ?_;rintro e r ⟨rfl,g,a,j⟩)
    | (go_at_call 143;refine (KI s R p r g C A j v _ u.out).mono ?_;rintro e B ⟨rfl,i,m,z⟩))
   go_ret2;refine uy.of ?_ k.out;exact⟨_,rfl,.str t,qc a i,m⟩
  | err c q=>
   rw[hx] at k;have F:=Rd.Ay hx;subst F;have u:=hid hx;clear hx;go_enter func92,ntmps92
   go_wp2_with (first
    | (go_at_call 140;refine o.mono ?_;rintro e r ⟨rfl,g,a,j⟩)
    | (go_at_call 143;refine (KI s R p r g C A j v _ u.out).mono ?_;rintro e B ⟨rfl,i,m,z⟩))
   go_ret2;refine uy.of ?_ k.out;exact⟨_,rfl,⟨λ_=>⟨_,_,rfl⟩,λh=>absurd (x.out.symm.trans h) (by decide)⟩,qc a i⟩
 have S:((b:Int)==34)=false:=by rw[xh];omega
 by_cases c4:b=116
 ·have k:=hid (Rd.zaY s.data.toList f d p (by rw[hb];exact c4));have x:Hid (starts s p=true):=hid (by rw[n,c4];rfl);have H:(b:Int)=116:=by omega
  clear hb n l
  cases hx:Rd.qj s.data.toList [116,114,117,101] p with
  | ok t q=>
   rw[hx] at k;have u:=hid hx;clear hx;go_enter func92,ntmps92
   go_wp2_with (first
    | (go_at_call 140;refine o.mono ?_;rintro e r ⟨rfl,g,a,j⟩)
    | (go_at_call 144;refine (YB s ⟨#[116,114,117,101]⟩ R p r g C A (by decide) (by decide) _ u.out).mono ?_;rintro e B ⟨rfl,i,m,z⟩))
   go_ret2;refine uy.of ?_ k.out;exact⟨_,rfl,.word true,qc a i,m⟩
  | err c q=>
   rw[hx] at k;have F:=Rd.Ur hx;subst F;have u:=hid hx;clear hx;go_enter func92,ntmps92
   go_wp2_with (first
    | (go_at_call 140;refine o.mono ?_;rintro e r ⟨rfl,g,a,j⟩)
    | (go_at_call 144;refine (YB s ⟨#[116,114,117,101]⟩ R p r g C A (by decide) (by decide) _ u.out).mono ?_;rintro e B ⟨rfl,i,m,z⟩))
   go_ret2;refine uy.of ?_ k.out;exact⟨_,rfl,⟨λ_=>⟨_,_,rfl⟩,λh=>absurd (x.out.symm.trans h) (by decide)⟩,qc a i⟩
 have T:((b:Int)==116)=false:=by rw[xh];omega
 by_cases c5:b=102
 ·have k:=hid (Rd.zaR s.data.toList f d p (by rw[hb];exact c5));have x:Hid (starts s p=true):=hid (by rw[n,c5];rfl);have H:(b:Int)=102:=by omega
  clear hb n l
  cases hx:Rd.qj s.data.toList [102,97,108,115,101] p with
  | ok t q=>
   rw[hx] at k;have u:=hid hx;clear hx;go_enter func92,ntmps92
   go_wp2_with (first
    | (go_at_call 140;refine o.mono ?_;rintro e r ⟨rfl,g,a,j⟩)
    | (go_at_call 144;refine (YB s ⟨#[102,97,108,115,101]⟩ R p r g C A (by decide) (by decide) _ u.out).mono ?_;rintro e B ⟨rfl,i,m,z⟩))
   go_ret2;refine uy.of ?_ k.out;exact⟨_,rfl,.word false,qc a i,m⟩
  | err c q=>
   rw[hx] at k;have F:=Rd.Ur hx;subst F;have u:=hid hx;clear hx;go_enter func92,ntmps92
   go_wp2_with (first
    | (go_at_call 140;refine o.mono ?_;rintro e r ⟨rfl,g,a,j⟩)
    | (go_at_call 144;refine (YB s ⟨#[102,97,108,115,101]⟩ R p r g C A (by decide) (by decide) _ u.out).mono ?_;rintro e B ⟨rfl,i,m,z⟩))
   go_ret2;refine uy.of ?_ k.out;exact⟨_,rfl,⟨λ_=>⟨_,_,rfl⟩,λh=>absurd (x.out.symm.trans h) (by decide)⟩,qc a i⟩
 have U:((b:Int)==102)=false:=by rw[xh];omega
 have k:=hid (Rd.zaT s.data.toList f d p (by rw[hb];exact c1) (by rw[hb];exact c2) (by rw[hb];exact c3) (by rw[hb];exact c4) (by rw[hb];exact c5));have x:Hid (starts s p=false):=hid (by rw[n];simp[c1,c2,c3,c4,c5]);clear hb n l c1 c2 c3 c4 c5;go_enter func92,ntmps92
 go_wp2_with (first
  | (go_at_call 140;refine o.mono ?_;rintro e r ⟨rfl,g,a,j⟩)
  | (go_at_call 93;refine (X5 s R p r g).mono ?_;rintro e B ⟨rfl,rfl⟩))
 go_ret2;refine uy.of ?_ k.out;exact⟨_,rfl,⟨λh=>absurd (x.out.symm.trans h) (by decide),λ_=>rfl⟩,a⟩
theorem Cj(s:BA)(R:Nat)(a:R≠5)(e:s.size<=4000):∀F,Qr s R F
 | 0=>λf c=>absurd c (Nat.not_lt_zero f)
 | F+1=>λf c d p w k j i _ b _ h=>by
  cases f with
  | zero=>omega
  | succ f=>exact zaW s R f d p w k j a i e b (by omega) (λg l=>Cj s R a e F g (by omega))
def Q4(w:World)(r:Rd.Res Rd.V)(e:Ending)(a:World):Prop:=match r with
 | .ok v _=>∃u,e = .returned (.tuple #[u,.nilIface])/\ValAt a (Blk w a) v u/\Below w.heap.size w a
 | .err c q=>e = .returned (.tuple #[.nilIface,ZE c q])/\Below w.heap.size w a
theorem Q4.of{w b:World}{r a:Rd.Res Rd.V}{e:Ending}(h:Q4 w r e b)(c:a=r):Q4 w a e b:=c ▸ h
theorem below_grown{w c d:World}{R:Nat}(h:Below w.heap.size w c)(e:w.heap.size<=R)(a:c.grownBy d (some R)):Below w.heap.size w d:=
 ⟨a.os.trans h.os,a.tape.trans h.tape,a.output.trans h.output,jy h.size a.size,λk b=>(a.block k (xx b h.size) (by simp;omega)).trans (h.block k b)⟩
theorem gV(s:BA)(w:World)(hq:qG w)(hs:s.size<=4000) :
  Calls prog 52 #[.string s] w λe g=>Q4 w (Rd.yS s.data.toList) e g:=by
 have a2:=hq.lt;have T:w.heap.size≠5:=by omega
 have dl:decide ((4000:Int)<(s.size:Int))=false:=zH (by omega);have Y:=zL w (.cells #[.string s,.int .i64 0] 185)
 have W:zz (w.alloc (.cells #[.string s,.int .i64 0] 185)) w.heap.size s 0:=by
  refine⟨?_,?_,?_⟩
  ·simp only[World.cell?,Y];rfl
  ·simp only[World.cell?,Y];rfl
  ·simp only[World.frozen?,Y];rfl
 have U:=nB w (.cells #[.string s,.int .i64 0] 185);have V:qG (w.alloc (.cells #[.string s,.int .i64 0] 185)):=hq.same (U.block _ a2);have P:=Rd.uQ s.data.toList 0 (zU _);have A:=Rd.ZJ s.data.toList 0;rw[Ref.zP] at P;have k:Rd.yS s.data.toList=Rd.yS s.data.toList:=rfl
 conv at k=>rhs;unfold Rd.yS
 obtain⟨p,L⟩:=Nm (Rd.skip s.data.toList 0);rw[L] at P A k
 have O:=(Jg s w.heap.size 0 _ W (zU _) hs).mono (R':=λe g=>e = .returned (.tuple #[])/\zz g w.heap.size s p/\Below w.heap.size w g/\qG g/\w.heap.size+1<=g.heap.size) (by
  rintro e g ⟨rfl,I,z⟩;rw[L] at z;exact⟨rfl,z,below_grown U (ze _) I,V.grown I T,by have:=I.size;simp at this;omega⟩)
 have i:=λa (h:zz a w.heap.size s p) (H:qG a)=>Cj s w.heap.size T hs (2*s.data.toList.length+2) (2*s.data.toList.length+1) (by omega) 1 p a h H P (by omega) (by omega) A (by rw[Ref.zP];omega);have D:=hid (λv q B=>Rd.K3 (l:=s.data.toList) (f:=2*s.data.toList.length+1) (d:=1) (p:=p) (q:=q) (v:=v) (by omega) (by rw[Ref.zP];omega) A (by rw[Ref.zP];omega) B);clear L A W hq V Y
 cases B:Rd.qo s.data.toList (2*s.data.toList.length+1) 1 p with
 | err c q=>
  rw[B] at k;simp only at k;simp only[B] at i;obtain⟨T2,J⟩:=JU c q
  have j:∀a,zz a w.heap.size s p->qG a->Below w.heap.size w a->Calls prog 92 #[.pointer (some ⟨w.heap.size,0,none⟩),.int .i64 1] a λe g=>∃u,e = .returned (.tuple #[u,.iface T2 (.agg #[.int .i64 (q:Int)])])/\Below w.heap.size w g:=λa h H z=>by
   refine (i a h H).mono ?_;rintro e g ⟨u,rfl,_,Z⟩;exact⟨u,by rw[J],below_grown z (ze _) Z⟩
  have R:=hid k;have HT:=hid J;clear i k B J;go_enter func52,ntmps52
  go_wp2_with (first
   | (go_at_call 91;refine O.mono ?_;rintro e a ⟨rfl,t,n,r,C⟩)
   | (go_at_call 92;refine (j a t r n).mono ?_;rintro e m ⟨u,rfl,o⟩))
  go_ret2;refine Q4.of ?_ R.out;exact⟨by rw[HT.out];rfl,o⟩
 | ok v q=>
  rw[B] at k;simp only at k;simp only[B] at i;have E:=D.out v q B;rw[Ref.zP] at E;have F:=Rd.uQ s.data.toList q (by rw[Ref.zP];omega);rw[Ref.zP] at F;obtain⟨q2,M⟩:=Nm (Rd.skip s.data.toList q);rw[M] at F k
  have j:∀a,zz a w.heap.size s p->qG a->Below w.heap.size w a->w.heap.size+1<=a.heap.size->Calls prog 92 #[.pointer (some ⟨w.heap.size,0,none⟩),.int .i64 1] a λe g=>∃u,e = .returned (.tuple #[u,.nilIface])/\ValAt g (λb=>w.heap.size+1<=b/\b<g.heap.size) v u/\Below w.heap.size w g/\zz g w.heap.size s q:=λa h H z h3=>by
   refine (i a h H).mono ?_;rintro e g ⟨u,rfl,Q,Z,hr⟩;exact⟨u,rfl,Q.move (λb hb=>⟨by have:=hb.1;omega,hb.2⟩) (λ_ _=>rfl),below_grown z (ze _) Z,hr⟩
  have X:∀m u,zz m w.heap.size s q->Below w.heap.size w m->ValAt m (λb=>w.heap.size+1<=b/\b<m.heap.size) v u->Calls prog 91 #[.pointer (some ⟨w.heap.size,0,none⟩)] m λe g=>e = .returned (.tuple #[])/\zz g w.heap.size s q2/\Below w.heap.size w g/\ValAt g (Blk w g) v u:=λm u h H Q=>by
   refine (Jg s w.heap.size q m h E.2 hs).mono ?_;rintro e g ⟨rfl,I,z⟩;rw[M] at z;exact⟨rfl,z,below_grown H (ze _) I,Q.move (λb hb=>⟨by omega,by have:=I.size;omega⟩) (λb hb=>I.block b hb.2 (by simp;omega))⟩
  clear i B M D
  by_cases c:q2<s.size
  ·rw[zb (by rw[Ref.zP];exact c)] at k;have R:=hid k;have dq:decide ((q2:Int)<(s.size:Int))=true:=zF (by omega);clear k;go_enter func52,ntmps52
   go_wp2_with (first
    | (go_at_call 91;refine (X m u N o y).mono ?_;rintro e w3 ⟨rfl,x,K,G⟩;have S:=hid x;obtain⟨g1,g2,g3⟩:=x)
    | (go_at_call 91;refine O.mono ?_;rintro e a ⟨rfl,t,n,r,C⟩)
    | (go_at_call 92;refine (j a t r n C).mono ?_;rintro e m ⟨u,rfl,y,o,N⟩)
    | (go_at_call 93;refine (X5 s w.heap.size q2 w3 S.out).mono ?_;rintro e w4 ⟨rfl,rfl⟩))
   go_ret2;refine Q4.of ?_ R.out;exact⟨rfl,K⟩
  ·rw[za (by rw[Ref.zP];exact c)] at k;have R:=hid k;have dq:decide ((q2:Int)<(s.size:Int))=false:=zH (by omega);clear k;go_enter func52,ntmps52
   go_wp2_with (first
    | (go_at_call 91;refine (X m u N o y).mono ?_;rintro e w3 ⟨rfl,x,K,G⟩;have S:=hid x;obtain⟨g1,g2,g3⟩:=x)
    | (go_at_call 91;refine O.mono ?_;rintro e a ⟨rfl,t,n,r,C⟩)
    | (go_at_call 92;refine (j a t r n C).mono ?_;rintro e m ⟨u,rfl,y,o,N⟩))
   go_ret2;refine Q4.of ?_ R.out;exact⟨u,rfl,G,K⟩
theorem Si(s:BA)(w:World)(EL:Value)(a:w.cell? ⟨0,0,none⟩=some EL)(f:4000<s.size) :
  Calls prog 52 #[.string s] w λe c=>e = .returned (.tuple #[.nilIface,EL])/\Below w.heap.size w c:=by
 have d:decide ((4000:Int)<(s.size:Int))=true:=zF (by omega);go_enter func52,ntmps52;go_wp2_with fail
 go_quiet (fail)
 go_wp2
 go_ret2;exact⟨rfl,by have h:=yP w none nq;exact⟨h.os,h.tape,h.output,h.size,λk b=>h.block k b (by simp)⟩⟩
end Go.Proofs.YtagnlbgbnfnapaaGreatDoor
