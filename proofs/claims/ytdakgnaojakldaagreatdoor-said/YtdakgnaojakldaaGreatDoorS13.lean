/- P -/
import Derived.Test.YtdakgnaojakldaaGreatDoorS03
import Derived.Laws.IdiomStrings
import Derived.Test.YtdakgnaojakldaaGreatDoorS12
open Go.Proofs.Tryz
set_option maxRecDepth 100000
set_option maxHeartbeats 1000000
namespace Go.Proofs.YtdakgnaojakldaaGreatDoor
open Go.RowKit
def ut(m:BY×BY):Value := .agg #[.string m.1,.string m.2]
def jl(ms:List (BY×BY))(j:Nat):BY×BY:=ms.getD j (⟨#[]⟩,⟨#[]⟩)
theorem Qt(ms:List (BY×BY))(j:Nat)(h:j<ms.length):jl ms j=ms[j]:=by
 unfold jl;rw[List.getD_eq_getElem?_getD,List.getElem?_eq_getElem h];rfl
theorem aj(ms:List (BY×BY))(ao:Option Addr)(cap g:Nat)(u:Array Value)(p:Nat->Bool)(w:World)(B:ms.length<=100000000000)(z:∀args w,(callFunc g args).run prog w = .ok (.enter g args) w)
  (x:qO w ao ms)(y:yf g u (λj=>ut (jl ms j)) ms.length p w) :
  Calls prog 188 #[.slice ao ms.length cap,.func (.func g) #[] u] w λe s=>
   e = .returned (.tuple #[.int .i64 (((zl p ms.length).getD 0:Nat):Int),.bool (zl p ms.length).isSome])/\Below w.heap.size w s:=by
 generalize hF:zl p ms.length=F;have t:=hid hF;clear hF;go_enter func188,ntmps188
 go_wp2
 go_loopw [10] (λi wr=>∃k:Nat,k<=ms.length/\i = .int .i64 k/\(∀j,j<k->p j=false)/\Below w.heap.size w wr) (λi _=>ms.length-(intOf i).toNat)
 case atStart=>exact⟨0,Nat.zero_le _,rfl,λj h=>by omega,Below.refl _ _⟩
 case round=>
  obtain⟨k,A,rfl,hb,m⟩:=hrel;have q:=hid hb;clear hb
  by_cases hlt:k<ms.length
  ·rcases x with rfl|⟨b,o,rfl,hc⟩
   ·simp at hlt
   have a:=λW hb=>y W k hlt hb;simp only[Qt ms k hlt,ut] at a;obtain⟨r,q2⟩:=hc k hlt;obtain⟨C,f⟩:∃n,ms[k].1=n:=⟨_,rfl⟩;obtain⟨G,l⟩:∃n,ms[k].2=n:=⟨_,rfl⟩;rw[f] at r a;rw[l] at q2 a;have D:=zg m r;have E:=zg m q2;clear f l hc r q2;have c:=λO=>m.trans (nb wr O |>.mono m.size)
   cases hpp:p k with
   | false=>
    rw[hpp] at a;have v:=hid hpp;clear hpp
    go_wp2_with (go_at_fn g;refine (a _ (c _)).mono ?_;rintro e s ⟨rfl,d⟩)
    refine⟨⟨k+1,by omega,by go_num,λj h=>?_,(c _).trans (d.mono (c _).size)⟩,by simp[intOf];omega⟩
    by_cases hj:j=k
    ·subst hj;exact v.out
    ·exact q.out j (by omega)
   | true=>
    rw[hpp] at a;have e:=um p ms.length k hlt q.out hpp;rw[t.out] at e;subst e;clear hpp
    go_wp2_with (go_at_fn g;refine (a _ (c _)).mono ?_;rintro e s ⟨rfl,d⟩)
    go_ret2;exact⟨rfl,(c _).trans (d.mono (c _).size)⟩
  ·have e:=uo p ms.length (λj h=>q.out j (by omega));rw[t.out] at e;subst e
   go_wp2
   go_ret2;exact⟨rfl,m⟩
theorem lM(ms:List (BY×BY))(ao:Option Addr)(cap g:Nat)(b:Array Value)(p:Nat->Bool)(w:World)(i:ms.length<=100000000000)(f:∀args w,(callFunc g args).run prog w = .ok (.enter g args) w)
  (h:qO w ao ms)(k:yf g b (λj=>ut (jl ms j)) ms.length p w) :
  Calls prog 140 #[.slice ao ms.length cap,.func (.func g) #[] b] w λe d=>
   e = .returned (.bool (zl p ms.length).isSome)/\Below w.heap.size w d:=by
 have c:=aj ms ao cap g b p w i f h k;generalize zl p ms.length=F at c;go_enter func140,ntmps140
 go_wp2_with (go_at_call 188;refine c.mono ?_;rintro e d ⟨rfl,a⟩)
 go_ret;exact⟨rfl,a⟩
theorem lu(g:Nat)(h:Array Value)(m:BY×BY)(B:Nat)(y:Bool)(w:World)(k:∀args w,(callFunc g args).run prog w = .ok (.enter g args) w)
  (i:w.cell? ⟨B,0,none⟩=some (.func (.func g) #[] h))(f:∀W,Below w.heap.size w W->Calls prog g (#[ut m]++h) W λe c=>e = .returned (.bool y)/\Below W.heap.size W c) :
  Calls prog 141 #[ut m,.pointer (some ⟨B,0,none⟩)] w λe c=>e = .returned (.bool (!y))/\Below w.heap.size w c:=by
 obtain⟨a,v⟩:=m;unfold ut at f |-;simp only at f |-;have j:=λO:Obj=>zg (nb w O) i;have b:=λO:Obj=>nb w O;go_enter func141,ntmps141
 go_wp2_with (go_at_fn g;refine (f _ (b _)).mono ?_;rintro e c ⟨rfl,d⟩)
 go_ret;exact⟨rfl,(b _).trans (d.mono (b _).size)⟩
theorem lq(ms:List (BY×BY))(ao:Option Addr)(cap g:Nat)(a:Array Value)(p:Nat->Bool)(w:World)(n:ms.length<=100000000000)(i:∀args w,(callFunc g args).run prog w = .ok (.enter g args) w)
  (m:qO w ao ms)(o:yf g a (λj=>ut (jl ms j)) ms.length p w) :
  Calls prog 87 #[.slice ao ms.length cap,.func (.func g) #[] a] w λe d=>
   e = .returned (.bool (yX p ms.length))/\Below w.heap.size w d:=by
 have h:∀args w,(callFunc 141 args).run prog w = .ok (.enter 141 args) w:=enters_of func141 (by kernel_rfl) rfl
 have c:=lM ms ao cap 141 #[.pointer (some ⟨w.heap.size,0,none⟩)] (λj=>!p j) (w.alloc (.cells #[.func (.func g) #[] a] 191)) n h
  (jm m (nb w _))
  (λW j l hb=>by
    refine lu g a (jl ms j) w.heap.size (p j) W i ?_ (λf k=>o f j l (((nb w _).trans (hb.mono (by simp))).trans (k.mono (by have:=hb.size;simp at this;omega))));exact zg hb (by simp))
 rw[Yt];generalize zl (λj=>!p j) ms.length=F at c;go_enter func87,ntmps87
 go_wp2_with (go_at_call 140;refine c.mono ?_;rintro e d ⟨rfl,b⟩)
 go_ret;exact⟨rfl,(nb w _).trans (b.mono (by simp))⟩
def vS(c:Nat):Bool:=decide (97<=c/\c<=122)
theorem Bf(c:Nat)(w:World)(f:c<256) :
  Calls prog 133 #[.int .u8 (c:Int)] w λe d=>e = .returned (.bool (vS c))/\d=w:=by
 by_cases h1:97<=c
 ·have a:decide ((97:Int)<=(c:Int))=true:=decide_eq_true (by omega)
  by_cases h2:c<=122
  ·have b:decide ((c:Int)<=122)=true:=decide_eq_true (by omega);have e:vS c=true:=by unfold vS;simp;omega
   rw[e];go_enter func133,ntmps133
   go_wp2
   go_ret;exact⟨rfl,rfl⟩
  ·have b:decide ((c:Int)<=122)=false:=decide_eq_false (by omega);have e:vS c=false:=by unfold vS;simp;omega
   rw[e];go_enter func133,ntmps133
   go_wp2
   go_ret;exact⟨rfl,rfl⟩
 ·have a:decide ((97:Int)<=(c:Int))=false:=decide_eq_false (by omega);have e:vS c=false:=by unfold vS;simp;omega
  rw[e];go_enter func133,ntmps133
  go_wp2
  go_ret;exact⟨rfl,rfl⟩
theorem UT(l:List UInt8)(f:Nat->Bool):yX (λj=>f (l.getD j 0).toNat) l.length=l.all λc=>f c.toNat:=by
 unfold yX;rw[Bool.eq_iff_iff,List.all_eq_true,List.all_eq_true]
 constructor
 ·intro h c d;obtain⟨j,b,rfl⟩:=List.mem_iff_getElem.1 d
  have:=h j (List.mem_range.2 b)
  rwa [List.getD_eq_getElem?_getD,List.getElem?_eq_getElem b] at this
 ·intro h j b;have a:=List.mem_range.1 b;rw[List.getD_eq_getElem?_getD,List.getElem?_eq_getElem a];exact h _ (List.getElem_mem a)
theorem JM(s:BY)(w:World):∃C O,(convert 9 256 (.string s)).run prog w = .ok (.slice (some ⟨w.heap.size,0,none⟩) s.size C) (w.alloc O).drew
  /\ ∀j,j<s.size->(w.alloc O).drew.cell? ⟨w.heap.size,0+j,none⟩=some (.int .u8 (((s.data.toList.getD j 0).toNat:Nat):Int)):=by
 refine⟨_,_,run_bytes_of_string w _ _ _ s underlying9 underlying256 underlying5,λj a=>?_⟩;show (w.alloc _).cell? _=_;rw[Nat.zero_add,World.cell?_alloc_mark];rw[bytesRow_at s _ j a,Ref.getD_at s j a]
 rfl
theorem YT(s:BY)(w:World)(n:s.size<=maxLen) :
  Calls prog 82 #[.string s] w λe g=>e = .returned (.bool (Ref.zH s))/\Below w.heap.size w g:=by
 unfold maxLen at n
 by_cases h1:1<=s.size
 ·have i:decide ((0:Int)<(s.size:Int))=true:=decide_eq_true (by omega)
  by_cases h2:s.size<=12
  ·have k:decide ((s.size:Int)<=12)=true:=decide_eq_true (by omega);obtain⟨C,O,l,b⟩:=JM s w;have a:Below w.heap.size w (w.alloc O).drew:=(nb w _).drew
   have c:=UU s.size w.heap.size 0 C 133 #[] (λj=>(((s.data.toList.getD j 0).toNat:Nat):Int)) (λj=>vS (s.data.toList.getD j 0).toNat) _ (by omega)
    (enters_of func133 (by kernel_rfl) rfl) b
    (λW j _ _=>(Bf _ W (UInt8.toNat_lt _)).mono λe g ⟨m,o⟩=>⟨m,o ▸ Below.refl _ _⟩)
   have f:=UT s.data.toList vS;rw[Ref.zx] at f;rw[f] at c
   have h:Ref.zH s=s.data.toList.all λc=>vS c.toNat:=by
    unfold Ref.zH Ref.letters vS;rw[decide_eq_true (by omega)];rfl
   rw[h];generalize (s.data.toList.all λc=>vS c.toNat)=R at c;clear f h b;go_enter func82,ntmps82
   go_wp2_with (go_at_call 132;refine c.mono ?_;rintro e g ⟨rfl,d⟩)
   go_ret;exact⟨rfl,a.trans (d.mono a.size)⟩
  ·have k:decide ((s.size:Int)<=12)=false:=decide_eq_false (by omega);rw[Ref.Vy s (by omega)];go_enter func82,ntmps82
   go_wp2
   go_ret;exact⟨rfl,Below.refl _ _⟩
 ·have i:decide ((0:Int)<(s.size:Int))=false:=decide_eq_false (by omega);rw[Ref.Vy s (by omega)];go_enter func82,ntmps82
  go_wp2
  go_ret;exact⟨rfl,Below.refl _ _⟩
theorem below_drewN{B:Nat}{a w:World}(h:Below B a w):∀q,Below B a (w.drewN q)
 | 0=>h
 | q+1=>(below_drewN h q).drew
def kU(w:World):Prop:=∃m,w.cell? ⟨4,0,none⟩=some (.int .i64 m)
theorem kU.below{w a:World}(h:kU w)(hb:Below w.heap.size w a):kU a:=by
 obtain⟨m,b⟩:=h;exact⟨m,zg hb b⟩
theorem oJ(u:BY)(w:World)(g:u.size<=1000)(a:kU w) :
  Calls prog 252 #[.string u,.string ⟨#[125]⟩] w λe b=>(∃X,e = .returned (.tuple #[.string (Pg.ko u),.string X,.bool (Pg.kg u)]))/\Below w.heap.size w b:=by
 obtain⟨m,a⟩:=a;have c:=Any.strings_Cut Tryz.lays145 u ⟨#[125]⟩ m w (by omega) a;obtain⟨d,f⟩:=Pg.oK u;refine c.mono ?_;rintro e b ⟨rfl,n,rfl⟩;refine⟨⟨⟨(Lib.cut u.data.toList [125]).2.1.toArray⟩,?_⟩,below_drewN (Below.refl _ _) n⟩;rw[<- d,<- f]
theorem Gv{a b:Int}{c d:BY}{c1 c2:Int}(e:a=b)(f:c=d)(g:c1=c2) :
  Ending.returned (.tuple #[.agg #[.int .i32 a,.string c],.int .i64 c1]) = .returned (.tuple #[.agg #[.int .i32 b,.string d],.int .i64 c2]):=by rw[e,f,g]
theorem FT(t:BY)(w:World)(I:t.size<=100)(C:kU w) :
  Calls prog 236 #[.string t] w λe f=>
   e = .returned (.tuple #[.agg #[.int .i32 (Pg.ui t).1,.string (Pg.ui t).2.1],.int .i64 ((Pg.ui t).2.2:Nat)])/\Below w.heap.size w f:=by
 by_cases h0:t.size=0
 ·have hd:Pg.ui t=(0,⟨#[]⟩,0):=by unfold Pg.ui;rw[if_pos h0]
  rw[hd]
  have r:t=⟨#[]⟩:=by
   have h:=h0;simp at h;exact h
  subst r;go_enter func236,ntmps236
  go_wp2
  exact bodyPost_ret (v := .tuple #[.agg #[.int .i32 0,.string ⟨#[]⟩],.int .i64 0]) (by simp[results,results236,go_sem]) rfl ⟨rfl,nb _ _⟩
 have D:(t.toList==([]:List UInt8))=false:=by
  rw[Lib.toList_data]
  cases h:t.data.toList with
  | nil=>exact absurd (by rw[Lib.size_eq,h];rfl) h0
  | cons _ _=>rfl
 have z:0<t.size:=by omega
 obtain⟨b,hb⟩:=Nm ((t[0]'z));have B:t.data.toList.getD 0 0=b:=by rw[Ref.getD_at t 0 z,hb]
 have hd:Pg.ui t=Pg.ui t:=rfl
 conv at hd=>rhs;unfold Pg.ui
 rw[if_neg h0,B] at hd;have y:=b.toNat_lt
 by_cases h3:b.toNat=36\/b.toNat=42\/b.toNat=63
 ·rw[if_pos h3] at hd;rw[hd];clear hd;have q:(b.toNat:Int)=36\/(b.toNat:Int)=42\/(b.toNat:Int)=63:=by omega
  clear h3
  rcases q with h|h|h
  all_goals
   go_enter func236,ntmps236
   go_wp2
   exact bodyPost_ret (v := .tuple #[.agg #[.int .i32 b.toNat,.string ⟨#[]⟩],.int .i64 2]) (by simp[results,results236,go_sem,h]) rfl ⟨rfl,nb _ _⟩
 rw[if_neg h3] at hd;have J:((b.toNat:Int)==36)=false:=by rw[beq_eq_false_iff_ne];omega
 have K:((b.toNat:Int)==42)=false:=by rw[beq_eq_false_iff_ne];omega
 have L:((b.toNat:Int)==63)=false:=by rw[beq_eq_false_iff_ne];omega
 clear h3
 by_cases h4:b.toNat=123
 ·have H:(b.toNat:Int)=123:=by omega
  rw[if_pos h4] at hd;clear h4;obtain⟨u,A⟩:=Nm (t.extract 1 t.size);rw[A] at hd;have G:u.size<=100:=by rw[<- A,ByteArray.size_extract];omega
  have F:(1:Int)<=(t.size:Int):=by omega
  have c:=λO=>oJ u (w.alloc O) (by omega) (C.below (nb w O))
  cases hh:Pg.kg u with
  | false=>
   rw[hh,if_neg (by decide)] at hd;rw[hh] at c;rw[hd];clear hd hh;go_enter func236,ntmps236
   go_wp2_with (go_at_call 252;refine (c _).mono ?_;rintro e f ⟨⟨X,rfl⟩,a⟩;obtain⟨l,x⟩:=xB a)
   have o:w.heap.size<f.heap.size:=by have:=a.size;simp at this;omega
   have j:Below w.heap.size w f:=(nb w _).trans (a.mono (by simp));exact bodyPost_ret (v := .tuple #[.agg #[.int .i32 0,.string ⟨#[]⟩],.int .i64 0]) (by simp[results,results236,go_sem,l]) rfl ⟨rfl,(j.setCell (Nat.le_refl _) _).setCell (Nat.le_refl _) _⟩
  | true=>
   rw[hh,if_pos rfl] at hd;rw[hh] at c;obtain⟨nm,g⟩:=Nm (Pg.ko u)
   have E:nm.size<=100:=by
    rw[<- g];unfold Pg.ko;rw[hh,if_pos rfl,ByteArray.size_extract];omega
   rw[g] at hd c;have n:=λW=>YT nm W (by unfold maxLen;omega)
   cases hi:Ref.zH nm with
   | true=>
    rw[hi,if_pos rfl] at hd;rw[hi] at n;rw[hd];clear hd hh hi g;go_enter func236,ntmps236
    go_wp2_with (first
     | (go_at_call 252;refine (c _).mono ?_;rintro e f ⟨⟨X,rfl⟩,a⟩;obtain⟨l,x⟩:=xB a;have o:w.heap.size<f.heap.size:=by (have:=a.size;simp at this;omega))
     | (go_at_call 82;refine (n _).mono ?_;rintro e m ⟨rfl,d⟩;obtain⟨i,p⟩:=xB d))
    have s:w.heap.size<m.heap.size:=by have:=d.size;omega
    have j:Below w.heap.size w f:=(nb w _).trans (a.mono (by simp));have k:Below w.heap.size w m:=j.trans (d.mono j.size);exact bodyPost_ret (v := .tuple #[.agg #[.int .i32 0,.string nm],.int .i64 (2+nm.size+1)]) (by simp[results,results236,go_sem,l,o,i]) rfl ⟨Gv rfl rfl (by simp),(k.setCell (Nat.le_refl _) _).setCell (Nat.le_refl _) _⟩
   | false=>
    rw[hi,if_neg (by decide)] at hd;rw[hi] at n;rw[hd];clear hd hh hi g;go_enter func236,ntmps236
    go_wp2_with (first
     | (go_at_call 252;refine (c _).mono ?_;rintro e f ⟨⟨X,rfl⟩,a⟩;obtain⟨l,x⟩:=xB a;have o:w.heap.size<f.heap.size:=by (have:=a.size;simp at this;omega))
     | (go_at_call 82;refine (n _).mono ?_;rintro e m ⟨rfl,d⟩;obtain⟨i,p⟩:=xB d))
    have s:w.heap.size<m.heap.size:=by have:=d.size;omega
    have j:Below w.heap.size w f:=(nb w _).trans (a.mono (by simp));have k:Below w.heap.size w m:=j.trans (d.mono j.size);exact bodyPost_ret (v := .tuple #[.agg #[.int .i32 0,.string ⟨#[]⟩],.int .i64 0]) (by simp[results,results236,go_sem,l,o,i]) rfl ⟨rfl,(k.setCell (Nat.le_refl _) _).setCell (Nat.le_refl _) _⟩
 ·have H:((b.toNat:Int)==123)=false:=by rw[beq_eq_false_iff_ne];omega
  rw[if_neg h4] at hd;rw[hd];clear hd h4;go_enter func236,ntmps236
  go_wp2
  exact bodyPost_ret (v := .tuple #[.agg #[.int .i32 0,.string ⟨#[]⟩],.int .i64 0]) (by simp[results,results236,go_sem]) rfl ⟨rfl,nb _ _⟩
def jd(w:World):Prop:=Lib.Utf8Tabs 2 3 w
theorem jd.below{w a:World}(h:jd w)(hb:Below w.heap.size w a):jd a:=Utf8Tabs_below h hb
theorem KX(s:BY)(w:World)(d:0<s.size)(a:jd w)(c n:Nat)(hd:Utf8.decode s 0=(c,n)) :
  Calls prog 237 #[.string s] w λe b=>e = .returned (.tuple #[.int .i32 (c:Int),.int .i64 (n:Int)])/\Below w.heap.size w b:=by
 have c0:=Any.utf8_DecodeRuneInString Tryz.lays197 s w a;have e:Lib.decodeGo s=(c,n):=by unfold Lib.decodeGo;rw[if_neg (by omega),hd]
 rw[e] at c0;exact c0
theorem fK(s:BY)(w:World)(g:0<s.size)(D:s.size<=100)(y:kU w)(m:jd w)(A:Int)(B:BY)(N:Nat)(d:Pg.Qz (Ref.qY s)=(A,B,N)) :
  Calls prog 212 #[.string s] w λe f=>
   e = .returned (.tuple #[.agg #[.int .i32 A,.string B],.int .i64 (N:Int)])/\Below w.heap.size w f:=by
 obtain⟨b,hb⟩:=Nm ((s[0]'g));have j:s.data.toList.getD 0 0=b:=by rw[Ref.getD_at s 0 g,hb]
 have o:=b.toNat_lt;have z:(0:Int)<(s.size:Int):=by omega
 have b0:=λO=>nb w O
 by_cases h1:b.toNat=42
 ·have e:=Pg.IP s g (by rw[j];exact h1);rw[d] at e;obtain⟨rfl,rfl,rfl⟩:A = -2/\B=⟨#[]⟩/\N=1:=by simpa using e
  have q:(b.toNat:Int)=42:=by omega
  clear h1 d e;go_enter func212,ntmps212
  go_wp2
  exact bodyPost_ret (v := .tuple #[.agg #[.int .i32 (-2),.string ⟨#[]⟩],.int .i64 1]) (by simp[results,results212,go_sem]) rfl ⟨rfl,nb _ _⟩
 have F:((b.toNat:Int)==42)=false:=by rw[beq_eq_false_iff_ne];omega
 by_cases h2:b.toNat=63
 ·have e:=Pg.IM s g (by rw[j];exact h2);rw[d] at e;obtain⟨rfl,rfl,rfl⟩:A = -1/\B=⟨#[]⟩/\N=1:=by simpa using e
  have q:(b.toNat:Int)=63:=by omega
  clear h1 h2 d e;go_enter func212,ntmps212
  go_wp2
  exact bodyPost_ret (v := .tuple #[.agg #[.int .i32 (-1),.string ⟨#[]⟩],.int .i64 1]) (by simp[results,results212,go_sem]) rfl ⟨rfl,nb _ _⟩
 have G:((b.toNat:Int)==63)=false:=by rw[beq_eq_false_iff_ne];omega
 by_cases h3:b.toNat=36
 ·have e:=Pg.IK s g (by rw[j];exact h3);rw[d] at e;have q:(b.toNat:Int)=36:=by omega
  obtain⟨u,p⟩:=Nm (s.extract 1 s.size);have l:u.size<=100:=by rw[<- p,ByteArray.size_extract];omega
  rw[p] at e;have c:=λO=>FT u (w.alloc O) l (y.below (b0 O));rw[<- e] at c;have C:(1:Int)<=(s.size:Int):=by omega
  clear h1 h2 h3 d e;go_enter func212,ntmps212
  go_wp2_with (go_at_call 236;refine (c _).mono ?_;rintro e f ⟨rfl,a⟩;obtain⟨h,k⟩:=xB a)
  have i:Below w.heap.size w f:=(b0 _).trans (a.mono (by simp));exact bodyPost_ret (v := .tuple #[.agg #[.int .i32 A,.string B],.int .i64 N]) (by simp[results,results212,go_sem,h]) rfl ⟨rfl,(i.setCell (Nat.le_refl _) _).setCell (Nat.le_refl _) _⟩
 have H:((b.toNat:Int)==36)=false:=by rw[beq_eq_false_iff_ne];omega
 rcases Pg.gM s g (by rw[j];exact h1) (by rw[j];exact h2) (by rw[j];exact h3) with ⟨hd,e⟩|⟨c,n,hc,hd,hn,hns,e⟩
 ·rw[d] at e;obtain⟨rfl,rfl,rfl⟩:A=0/\B=⟨#[]⟩/\N=0:=by simpa using e
  have c:=λO=>KX s (w.alloc O) g (m.below (b0 O)) _ _ hd;clear h1 h2 h3 d e hd;go_enter func212,ntmps212
  go_wp2_with (go_at_call 237;refine (c _).mono ?_;rintro e f ⟨rfl,a⟩;obtain⟨h,k⟩:=xB a)
  have i:Below w.heap.size w f:=(b0 _).trans (a.mono (by simp));exact bodyPost_ret (v := .tuple #[.agg #[.int .i32 0,.string ⟨#[]⟩],.int .i64 0]) (by simp[results,results212,go_sem,h]) rfl ⟨rfl,(i.setCell (Nat.le_refl _) _).setCell (Nat.le_refl _) _⟩
 ·rw[d] at e;obtain⟨rfl,rfl,rfl⟩:A=(c:Int)/\B=⟨#[]⟩/\N=n:=by simpa using e
  have cd:=λO=>KX s (w.alloc O) g (m.below (b0 O)) _ _ hd;have t:(0:Int)<=(c:Int):=by omega
  have x:(c:Int)<=1114111:=by omega
  by_cases hcc:c=65533
  ·have r:(c:Int)=65533:=by omega
   have E:((N:Int)==1)=false:=by rw[beq_eq_false_iff_ne];omega
   clear h1 h2 h3 d e hd hcc hn;go_enter func212,ntmps212
   go_wp2_with (go_at_call 237;refine (cd _).mono ?_;rintro e f ⟨rfl,a⟩;obtain⟨h,k⟩:=xB a)
   have i:Below w.heap.size w f:=(b0 _).trans (a.mono (by simp));exact bodyPost_ret (v := .tuple #[.agg #[.int .i32 c,.string ⟨#[]⟩],.int .i64 N]) (by simp[results,results212,go_sem,h,r]) rfl ⟨rfl,(i.setCell (Nat.le_refl _) _).setCell (Nat.le_refl _) _⟩
  ·have r:((c:Int)==65533)=false:=by rw[beq_eq_false_iff_ne];omega
   clear h1 h2 h3 d e hd hcc hn;go_enter func212,ntmps212
   go_wp2_with (go_at_call 237;refine (cd _).mono ?_;rintro e f ⟨rfl,a⟩;obtain⟨h,k⟩:=xB a)
   have i:Below w.heap.size w f:=(b0 _).trans (a.mono (by simp));exact bodyPost_ret (v := .tuple #[.agg #[.int .i32 c,.string ⟨#[]⟩],.int .i64 N]) (by simp[results,results212,go_sem,h]) rfl ⟨rfl,(i.setCell (Nat.le_refl _) _).setCell (Nat.le_refl _) _⟩
namespace Pg
def xH(l:List (Int×BY)):List Value:=l.flatMap λp=>[.int .i32 (ql p),.string (nameOf p)]
theorem ed(l:List (Int×BY))(p:Int×BY):xH (l++[p])=xH l++[.int .i32 (ql p),.string (nameOf p)]:=by
 unfold xH;simp
def iM(w:World)(P:Option (List (Int×BY)))(v x:Value)(b:World):Prop:=
 (P=none/\v = .slice none 0 0/\∃k:Int,x = .iface 228 (.agg #[.int .i64 k])) \/
 (∃a,P=some a/\x = .nilIface/\b.ownsRow w.heap.size 358 2 v a.length (xH a))
theorem sM(s:BY)(k n:Nat):(s.extract k s.size).extract n (s.extract k s.size).size=s.extract (k+n) s.size:=by
 rw[ByteArray.extract_extract,ByteArray.size_extract];have e:min (k+(min s.size s.size-k)) s.size=s.size:=by omega
 rw[e]
end Pg
theorem Tryz.infoPgPart:(prog.info? 358).map (λi=>(i.zero,i.size,i.bytes))=some (some (.agg #[.int .i32 0,.string ⟨#[]⟩]),2,24):=by kernel_rfl
theorem En(k:Int)(c:BY):∀u ∈ [Value.int .i32 k,Value.string c],u.oneCell'=true:=by
 intro u a;simp at a;rcases a with rfl|rfl<;>rfl
theorem fJ(s:BY)(w:World)(hs:s.size<=maxLen)(W:kU w)(U:jd w) :
  Calls prog 173 #[.string s] w λe F=>∃v x,e = .returned (.tuple #[v,x])/\Below w.heap.size w F/\Pg.iM w (Ref.parts s) v x F:=by
 unfold maxLen at hs
 by_cases h60:60<s.size
 ·have G:Ref.parts s=none:=by unfold Ref.parts;rw[if_pos h60]
  rw[G];have hi:(60:Int)<(s.size:Int):=by omega
  go_enter func173,ntmps173
  go_wp2
  go_ret2;exact⟨_,_,rfl,Below.refl _ _,.inl ⟨rfl,rfl,_,rfl⟩⟩
 obtain⟨i0,hi,Q,R,S⟩:=info_parts Tryz.infoPgPart;have a5:decide (60<(s.size:Int))=false:=decide_eq_false (by omega);have G:Ref.parts s=(Ref.yC (s.size+1) s).map λr=>[]++r:=by unfold Ref.parts;rw[if_neg (by omega)];simp
 generalize N:Ref.parts s=P at *;clear N;have T:Hid (P=(Ref.yC (s.size+1) s).map λr=>[]++r):=G;clear G;have X:s.size<=60:=by omega
 clear h60;go_enter func173,ntmps173
 go_wp2
 go_loopw [4,5] (λlv M wr=>∃(k f:Nat) (done:List (Int×BY)),M = .int .i64 k/\k<=s.size/\done.length<=k/\(s.extract k s.size).size<f/\P=((Ref.yC f (s.extract k s.size)).map λr=>done++r) /\
   wr.ownsRow w.heap.size 358 2 lv done.length (Pg.xH done)/\Below w.heap.size w wr) (λ_ M _=>s.size-(intOf M).toNat)
 case atStart=>
  refine⟨0,s.size+1,[],rfl,by omega,by simp,by rw[ByteArray.size_extract];omega,?_,World.ownsRow_nil _ _ _ _,Below.refl _ _⟩;rw[T.out];simp
 case round=>
  obtain⟨k,f,done,rfl,hk,a1,H,p,g,a⟩:=hrel;obtain⟨t,Y⟩:=Nm (s.extract k s.size);have a6:t.size=s.size-k:=by rw[<- Y,ByteArray.size_extract];omega
  have d:=λn=>Pg.sM s k n;rw[Y] at p H d;have h:=hid p;have Z:=hid d;clear p T d;have E:=a.size
  by_cases hlt:k<s.size
  ·have C:0<t.size:=by omega
   have V:(k:Int)<(s.size:Int):=by omega
   cases hst:Ref.qY t with
   | none=>
    have i:=Ref.Fu P f t done C H h.out hst;subst i;have c:=fK t wr C (by omega) (W.below a) (U.below a) 0 ⟨#[]⟩ 0 (by rw[hst];rfl);clear hst
    go_wp2_with (go_at_call 212;refine c.mono ?_;rintro e F ⟨rfl,b⟩)
    go_ret2;exact⟨_,_,rfl,(a.trans (b.mono E)).alloc (by have:=b.size;omega) _,.inl ⟨rfl,rfl,_,rfl⟩⟩
   | some q=>
    obtain⟨m,u,n⟩:=q;obtain⟨f',B,o⟩:=Ref.Fp P f t done C H h.out m u n hst;have a3:=Ref.VT t C m u n hst;rw[Z.out n] at B o;have c:=fK t wr C (by omega) (W.below a) (U.below a) (Pg.ql (m,u)) (Pg.nameOf (m,u)) n (by rw[hst];rfl);have D:=Pg.ed done (m,u);have L:=hid D;have J:=hid o;obtain⟨sg,A⟩:∃x,Pg.ql (m,u)=x:=⟨_,rfl⟩;obtain⟨nm,y⟩:∃x,Pg.nameOf (m,u)=x:=⟨_,rfl⟩;rw[A,y] at c;have K:=hid A;have I:=hid y;have a2:((n:Int)==0)=false:=by rw[beq_eq_false_iff_ne];omega
    clear o hst h D A y
    go_wp2_with (first
     | (go_at_call 212;refine c.mono ?_;rintro e F ⟨rfl,b⟩)
     | (at_builtin;refine wpList_append_own _ rfl _ _ 307 rfl w.heap.size 358 i0 (.agg #[.int .i32 0,.string ⟨#[]⟩]) 2 24 underlying307 hi Q R S rfl (by decide) _ done.length (Pg.xH done) rfl (((ownsRow_below g b).alloc _).alloc _) ⟨F.heap.size+1,0,none⟩ 1 1 [.int .i32 sg,.string nm] rfl rfl ?_ ?_ ?_ ?_ ?_ ?_))
    ·exact YC _ _ _ _ _ _ (by simp)
    ·exact En _ _
    ·unfold maxLen;omega
    ·omega
    ·have:=b.size;simp;omega
    ·intro v' w1 l j _;have O:=Kc (a.trans (b.mono E)) (ownsRow_below g b) _ _ j
     have z:w1.ownsRow w.heap.size 358 2 v' (done++[(m,u)]).length (Pg.xH (done++[(m,u)])):=by
      rw[L.out,K.out,I.out,List.length_append];exact l
     clear l j g c b
     go_wp2
     go_roundw
     case rel=>exact⟨k+n,f',_,by go_num,by omega,by simp;omega,B,J.out,z,O⟩
     case measure=>simp[intOf];omega
  ·have i:=Ref.Fh P f t done (by omega) H h.out;subst i;clear h
   go_wp2
   go_ret2;exact⟨_,_,rfl,a,.inr ⟨_,rfl,rfl,g⟩⟩
end Go.Proofs.YtdakgnaojakldaaGreatDoor
