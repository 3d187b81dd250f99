/- P -/
import Derived.Test.YtdakgnaojakldabGreatDoorT02
import Derived.Laws.IdiomStrings
import Derived.Test.YtdakgnaojakldabGreatDoorT11
open Go.Proofs.Tryz
set_option maxRecDepth 100000
set_option maxHeartbeats 1000000
namespace Go.Proofs.YtdakgnaojakldabGreatDoor
open Go.RowKit
def kF(m:BA×BA):Value := .agg #[.string m.1,.string m.2]
def jX(ms:List (BA×BA))(j:Nat):BA×BA:=ms.getD j (⟨#[]⟩,⟨#[]⟩)
theorem Q6(ms:List (BA×BA))(j:Nat)(h:j<ms.length):jX ms j=ms[j]:=by
 unfold jX;rw[List.getD_eq_getElem?_getD,List.getElem?_eq_getElem h];rfl
theorem dD(ms:List (BA×BA))(ao:Option Addr)(cap g:Nat)(v:Array Value)(p:Nat->Bool)(w:World)(C:ms.length<=100000000000)(A:∀args w,(callFunc g args).run prog w = .ok (.enter g args) w)
  (y:xL w ao ms)(z:yE g v (λj=>kF (jX ms j)) ms.length p w) :
  Calls prog 78 #[.slice ao ms.length cap,.func (.func g) #[] v] w λe t=>
   e = .returned (.tuple #[.int .i64 (((zm p ms.length).getD 0:Nat):Int),.bool (zm p ms.length).isSome])/\Below w.heap.size w t:=by
 generalize hF:zm p ms.length=F;have u:=hid hF;clear hF;go_enter func78,ntmps78
 go_wp2
 go_loopw [10] (λi wr=>∃k:Nat,k<=ms.length/\i = .int .i64 k/\(∀j,j<k->p j=false)/\Below w.heap.size w wr) (λi _=>ms.length-(intOf i).toNat)
 case atStart=>exact⟨0,Nat.zero_le _,rfl,λj h=>by omega,Below.refl _ _⟩
 case round=>
  obtain⟨k,B,rfl,q,m⟩:=hrel;have r:=hid q;clear q
  by_cases hlt:k<ms.length
  ·rcases y with rfl|⟨b,o,rfl,hc⟩
   ·simp at hlt
   have a:=λW q=>z W k hlt q;simp only[Q6 ms k hlt,kF] at a;obtain⟨s,q2⟩:=hc k hlt;obtain⟨D,f⟩:∃n,ms[k].1=n:=⟨_,rfl⟩;obtain⟨H,l⟩:∃n,ms[k].2=n:=⟨_,rfl⟩;rw[f] at s a;rw[l] at q2 a;have E:=zb m s;have G:=zb m q2;clear f l hc s q2;have c:=λO=>m.trans (nB wr O |>.mono m.size)
   cases hpp:p k with
   | false=>
    rw[hpp] at a;have x:=hid hpp;clear hpp
    go_wp2_with (go_at_fn g;refine (a _ (c _)).mono ?_;rintro e t ⟨rfl,d⟩)
    refine⟨⟨k+1,by omega,by go_num,λj h=>?_,(c _).trans (d.mono (c _).size)⟩,by simp[intOf];omega⟩
    by_cases hj:j=k
    ·subst hj;exact x.out
    ·exact r.out j (by omega)
   | true=>
    rw[hpp] at a;have e:=kD p ms.length k hlt r.out hpp;rw[u.out] at e;subst e;clear hpp
    go_wp2_with (go_at_fn g;refine (a _ (c _)).mono ?_;rintro e t ⟨rfl,d⟩)
    go_ret2;exact⟨rfl,(c _).trans (d.mono (c _).size)⟩
  ·have e:=kE p ms.length (λj h=>r.out j (by omega));rw[u.out] at e;subst e
   go_wp2
   go_ret2;exact⟨rfl,m⟩
theorem pu(ms:List (BA×BA))(ao:Option Addr)(cap g:Nat)(b:Array Value)(p:Nat->Bool)(w:World)(i:ms.length<=100000000000)(f:∀args w,(callFunc g args).run prog w = .ok (.enter g args) w)
  (h:xL w ao ms)(k:yE g b (λj=>kF (jX ms j)) ms.length p w) :
  Calls prog 46 #[.slice ao ms.length cap,.func (.func g) #[] b] w λe d=>
   e = .returned (.bool (zm p ms.length).isSome)/\Below w.heap.size w d:=by
 have c:=dD ms ao cap g b p w i f h k;generalize zm p ms.length=F at c;go_enter func46,ntmps46
 go_wp2_with (go_at_call 78;refine c.mono ?_;rintro e d ⟨rfl,a⟩)
 go_ret;exact⟨rfl,a⟩
theorem oJ(g:Nat)(h:Array Value)(m:BA×BA)(B:Nat)(y:Bool)(w:World)(k:∀args w,(callFunc g args).run prog w = .ok (.enter g args) w)
  (i:w.cell? ⟨B,0,none⟩=some (.func (.func g) #[] h))(f:∀W,Below w.heap.size w W->Calls prog g (#[kF m]++h) W λe c=>e = .returned (.bool y)/\Below W.heap.size W c) :
  Calls prog 47 #[kF m,.pointer (some ⟨B,0,none⟩)] w λe c=>e = .returned (.bool (!y))/\Below w.heap.size w c:=by
 obtain⟨a,v⟩:=m;unfold kF at f |-;simp only at f |-;have j:=λO:Obj=>zb (nB w O) i;have b:=λO:Obj=>nB w O;go_enter func47,ntmps47
 go_wp2_with (go_at_fn g;refine (f _ (b _)).mono ?_;rintro e c ⟨rfl,d⟩)
 go_ret;exact⟨rfl,(b _).trans (d.mono (b _).size)⟩
theorem oI(ms:List (BA×BA))(ao:Option Addr)(cap g:Nat)(a:Array Value)(p:Nat->Bool)(w:World)(o:ms.length<=100000000000)(k:∀args w,(callFunc g args).run prog w = .ok (.enter g args) w)
  (n:xL w ao ms)(q:yE g a (λj=>kF (jX ms j)) ms.length p w) :
  Calls prog 23 #[.slice ao ms.length cap,.func (.func g) #[] a] w λe f=>
   e = .returned (.bool (jD p ms.length))/\Below w.heap.size w f:=by
 have i:∀args w,(callFunc 47 args).run prog w = .ok (.enter 47 args) w:=enters_of func47 (by kernel_rfl) rfl
 have c:=pu ms ao cap 47 #[.pointer (some ⟨w.heap.size,0,none⟩)] (λj=>!p j) (w.alloc (.cells #[.func (.func g) #[] a] 79)) o i
  (jY n (nB w _))
  (λW j m b=>by
    refine oJ g a (jX ms j) w.heap.size (p j) W k ?_ (λh l=>q h j m (((nB w _).trans (b.mono (by simp))).trans (l.mono (by have:=b.size;simp at this;omega))));exact zb b (by simp))
 rw[Y5];generalize zm (λj=>!p j) ms.length=F at c;go_enter func23,ntmps23
 go_wp2_with (go_at_call 46;refine c.mono ?_;rintro e f ⟨rfl,d⟩)
 go_ret;exact⟨rfl,(nB w _).trans (d.mono (by simp))⟩
def uO(c:Nat):Bool:=decide (97<=c/\c<=122)
theorem En(c:Nat)(w:World)(f:c<256) :
  Calls prog 50 #[.int .u8 (c:Int)] w λe d=>e = .returned (.bool (uO c))/\d=w:=by
 by_cases h1:97<=c
 ·have a:decide ((97:Int)<=(c:Int))=true:=decide_eq_true (by omega)
  by_cases h2:c<=122
  ·have b:decide ((c:Int)<=122)=true:=decide_eq_true (by omega);have e:uO c=true:=by unfold uO;simp;omega
   rw[e];go_enter func50,ntmps50
   go_wp2
   go_ret;exact⟨rfl,rfl⟩
  ·have b:decide ((c:Int)<=122)=false:=decide_eq_false (by omega);have e:uO c=false:=by unfold uO;simp;omega
   rw[e];go_enter func50,ntmps50
   go_wp2
   go_ret;exact⟨rfl,rfl⟩
 ·have a:decide ((97:Int)<=(c:Int))=false:=decide_eq_false (by omega);have e:uO c=false:=by unfold uO;simp;omega
  rw[e];go_enter func50,ntmps50
  go_wp2
  go_ret;exact⟨rfl,rfl⟩
theorem ae(l:List UInt8)(f:Nat->Bool):jD (λj=>f (l.getD j 0).toNat) l.length=l.all λc=>f c.toNat:=by
 unfold jD;rw[Bool.eq_iff_iff,List.all_eq_true,List.all_eq_true]
 constructor
 ·intro h c d;obtain⟨j,b,rfl⟩:=List.mem_iff_getElem.1 d
  have:=h j (List.mem_range.2 b)
  rwa [List.getD_eq_getElem?_getD,List.getElem?_eq_getElem b] at this
 ·intro h j b;have a:=List.mem_range.1 b;rw[List.getD_eq_getElem?_getD,List.getElem?_eq_getElem a];exact h _ (List.getElem_mem a)
theorem VJ(s:BA)(w:World):∃C O,(convert 9 130 (.string s)).run prog w = .ok (.slice (some ⟨w.heap.size,0,none⟩) s.size C) (w.alloc O).drew
  /\ ∀j,j<s.size->(w.alloc O).drew.cell? ⟨w.heap.size,0+j,none⟩=some (.int .u8 (((s.data.toList.getD j 0).toNat:Nat):Int)):=by
 refine⟨_,_,run_bytes_of_string w _ _ _ s underlying9 underlying130 underlying5,λj a=>?_⟩;show (w.alloc _).cell? _=_;rw[Nat.zero_add,World.cell?_alloc_mark];rw[bytesRow_at s _ j a,Ref.getD_at s j a]
 rfl
theorem JC(s:BA)(w:World)(n:s.size<=maxLen) :
  Calls prog 29 #[.string s] w λe g=>e = .returned (.bool (Ref.zM s))/\Below w.heap.size w g:=by
 unfold maxLen at n
 by_cases h1:1<=s.size
 ·have i:decide ((0:Int)<(s.size:Int))=true:=decide_eq_true (by omega)
  by_cases h2:s.size<=12
  ·have k:decide ((s.size:Int)<=12)=true:=decide_eq_true (by omega);obtain⟨C,O,l,b⟩:=VJ s w;have a:Below w.heap.size w (w.alloc O).drew:=(nB w _).drew
   have c:=af s.size w.heap.size 0 C 50 #[] (λj=>(((s.data.toList.getD j 0).toNat:Nat):Int)) (λj=>uO (s.data.toList.getD j 0).toNat) _ (by omega)
    (enters_of func50 (by kernel_rfl) rfl) b
    (λW j _ _=>(En _ W (UInt8.toNat_lt _)).mono λe g ⟨m,o⟩=>⟨m,o ▸ Below.refl _ _⟩)
   have f:=ae s.data.toList uO;rw[Ref.zB] at f;rw[f] at c
   have h:Ref.zM s=s.data.toList.all λc=>uO c.toNat:=by
    unfold Ref.zM Ref.letters uO;rw[decide_eq_true (by omega)];rfl
   rw[h];generalize (s.data.toList.all λc=>uO c.toNat)=R at c;clear f h b;go_enter func29,ntmps29
   go_wp2_with (go_at_call 49;refine c.mono ?_;rintro e g ⟨rfl,d⟩)
   go_ret;exact⟨rfl,a.trans (d.mono a.size)⟩
  ·have k:decide ((s.size:Int)<=12)=false:=decide_eq_false (by omega);rw[Ref.Ux s (by omega)];go_enter func29,ntmps29
   go_wp2
   go_ret;exact⟨rfl,Below.refl _ _⟩
 ·have i:decide ((0:Int)<(s.size:Int))=false:=decide_eq_false (by omega);rw[Ref.Ux s (by omega)];go_enter func29,ntmps29
  go_wp2
  go_ret;exact⟨rfl,Below.refl _ _⟩
theorem below_drewN{B:Nat}{a w:World}(h:Below B a w):∀q,Below B a (w.drewN q)
 | 0=>h
 | q+1=>(below_drewN h q).drew
def ZF(w:World):Prop:=∃m,w.cell? ⟨4,0,none⟩=some (.int .i64 m)
theorem ZF.below{w a:World}(h:ZF w)(b:Below w.heap.size w a):ZF a:=by
 obtain⟨m,c⟩:=h;exact⟨m,zb b c⟩
theorem wR(u:BA)(w:World)(g:u.size<=1000)(a:ZF w) :
  Calls prog 143 #[.string u,.string ⟨#[125]⟩] w λe b=>(∃X,e = .returned (.tuple #[.string (Pg.Zm u),.string X,.bool (Pg.Zl u)]))/\Below w.heap.size w b:=by
 obtain⟨m,a⟩:=a;have c:=Any.strings_Cut Tryz.lays145 u ⟨#[125]⟩ m w (by omega) a;obtain⟨d,f⟩:=Pg.wU u;refine c.mono ?_;rintro e b ⟨rfl,n,rfl⟩;refine⟨⟨⟨(Lib.cut u.data.toList [125]).2.1.toArray⟩,?_⟩,below_drewN (Below.refl _ _) n⟩;rw[<- d,<- f]
theorem MG{a b:Int}{c d:BA}{c1 c2:Int}(e:a=b)(f:c=d)(g:c1=c2) :
  Ending.returned (.tuple #[.agg #[.int .i32 a,.string c],.int .i64 c1]) = .returned (.tuple #[.agg #[.int .i32 b,.string d],.int .i64 c2]):=by rw[e,f,g]
theorem Mc(t:BA)(w:World)(J:t.size<=100)(D:ZF w) :
  Calls prog 136 #[.string t] w λe f=>
   e = .returned (.tuple #[.agg #[.int .i32 (Pg.ku t).1,.string (Pg.ku t).2.1],.int .i64 ((Pg.ku t).2.2:Nat)])/\Below w.heap.size w f:=by
 by_cases h0:t.size=0
 ·have hd:Pg.ku t=(0,⟨#[]⟩,0):=by unfold Pg.ku;rw[if_pos h0]
  rw[hd]
  have r:t=⟨#[]⟩:=by
   have h:=h0;simp at h;exact h
  subst r;go_enter func136,ntmps136
  go_wp2
  exact bodyPost_ret (v := .tuple #[.agg #[.int .i32 0,.string ⟨#[]⟩],.int .i64 0]) (by simp[results,results136,go_sem]) rfl ⟨rfl,nB _ _⟩
 have E:(t.toList==([]:List UInt8))=false:=by
  rw[Lib.toList_data]
  cases h:t.data.toList with
  | nil=>exact absurd (by rw[Lib.size_eq,h];rfl) h0
  | cons _ _=>rfl
 have z:0<t.size:=by omega
 obtain⟨b,B⟩:=Nm ((t[0]'z));have C:t.data.toList.getD 0 0=b:=by rw[Ref.getD_at t 0 z,B]
 have hd:Pg.ku t=Pg.ku t:=rfl
 conv at hd=>rhs;unfold Pg.ku
 rw[if_neg h0,C] at hd;have y:=b.toNat_lt
 by_cases h3:b.toNat=36\/b.toNat=42\/b.toNat=63
 ·rw[if_pos h3] at hd;rw[hd];clear hd;have q:(b.toNat:Int)=36\/(b.toNat:Int)=42\/(b.toNat:Int)=63:=by omega
  clear h3
  rcases q with h|h|h
  all_goals
   go_enter func136,ntmps136
   go_wp2
   exact bodyPost_ret (v := .tuple #[.agg #[.int .i32 b.toNat,.string ⟨#[]⟩],.int .i64 2]) (by simp[results,results136,go_sem,h]) rfl ⟨rfl,nB _ _⟩
 rw[if_neg h3] at hd;have K:((b.toNat:Int)==36)=false:=by rw[beq_eq_false_iff_ne];omega
 have L:((b.toNat:Int)==42)=false:=by rw[beq_eq_false_iff_ne];omega
 have M:((b.toNat:Int)==63)=false:=by rw[beq_eq_false_iff_ne];omega
 clear h3
 by_cases h4:b.toNat=123
 ·have I:(b.toNat:Int)=123:=by omega
  rw[if_pos h4] at hd;clear h4;obtain⟨u,A⟩:=Nm (t.extract 1 t.size);rw[A] at hd;have H:u.size<=100:=by rw[<- A,ByteArray.size_extract];omega
  have G:(1:Int)<=(t.size:Int):=by omega
  have c:=λO=>wR u (w.alloc O) (by omega) (D.below (nB w O))
  cases hh:Pg.Zl u with
  | false=>
   rw[hh,if_neg (by decide)] at hd;rw[hh] at c;rw[hd];clear hd hh;go_enter func136,ntmps136
   go_wp2_with (go_at_call 143;refine (c _).mono ?_;rintro e f ⟨⟨X,rfl⟩,a⟩;obtain⟨l,x⟩:=xR a)
   have o:w.heap.size<f.heap.size:=by have:=a.size;simp at this;omega
   have j:Below w.heap.size w f:=(nB w _).trans (a.mono (by simp));exact bodyPost_ret (v := .tuple #[.agg #[.int .i32 0,.string ⟨#[]⟩],.int .i64 0]) (by simp[results,results136,go_sem,l]) rfl ⟨rfl,(j.setCell (Nat.le_refl _) _).setCell (Nat.le_refl _) _⟩
  | true=>
   rw[hh,if_pos rfl] at hd;rw[hh] at c;obtain⟨nm,g⟩:=Nm (Pg.Zm u)
   have F:nm.size<=100:=by
    rw[<- g];unfold Pg.Zm;rw[hh,if_pos rfl,ByteArray.size_extract];omega
   rw[g] at hd c;have n:=λW=>JC nm W (by unfold maxLen;omega)
   cases hi:Ref.zM nm with
   | true=>
    rw[hi,if_pos rfl] at hd;rw[hi] at n;rw[hd];clear hd hh hi g;go_enter func136,ntmps136
    go_wp2_with (first
     | (go_at_call 143;refine (c _).mono ?_;rintro e f ⟨⟨X,rfl⟩,a⟩;obtain⟨l,x⟩:=xR a;have o:w.heap.size<f.heap.size:=by (have:=a.size;simp at this;omega))
     | (go_at_call 29;refine (n _).mono ?_;rintro e m ⟨rfl,d⟩;obtain⟨i,p⟩:=xR d))
    have s:w.heap.size<m.heap.size:=by have:=d.size;omega
    have j:Below w.heap.size w f:=(nB w _).trans (a.mono (by simp));have k:Below w.heap.size w m:=j.trans (d.mono j.size);exact bodyPost_ret (v := .tuple #[.agg #[.int .i32 0,.string nm],.int .i64 (2+nm.size+1)]) (by simp[results,results136,go_sem,l,o,i]) rfl ⟨MG rfl rfl (by simp),(k.setCell (Nat.le_refl _) _).setCell (Nat.le_refl _) _⟩
   | false=>
    rw[hi,if_neg (by decide)] at hd;rw[hi] at n;rw[hd];clear hd hh hi g;go_enter func136,ntmps136
    go_wp2_with (first
     | (go_at_call 143;refine (c _).mono ?_;rintro e f ⟨⟨X,rfl⟩,a⟩;obtain⟨l,x⟩:=xR a;have o:w.heap.size<f.heap.size:=by (have:=a.size;simp at this;omega))
     | (go_at_call 29;refine (n _).mono ?_;rintro e m ⟨rfl,d⟩;obtain⟨i,p⟩:=xR d))
    have s:w.heap.size<m.heap.size:=by have:=d.size;omega
    have j:Below w.heap.size w f:=(nB w _).trans (a.mono (by simp));have k:Below w.heap.size w m:=j.trans (d.mono j.size);exact bodyPost_ret (v := .tuple #[.agg #[.int .i32 0,.string ⟨#[]⟩],.int .i64 0]) (by simp[results,results136,go_sem,l,o,i]) rfl ⟨rfl,(k.setCell (Nat.le_refl _) _).setCell (Nat.le_refl _) _⟩
 ·have I:((b.toNat:Int)==123)=false:=by rw[beq_eq_false_iff_ne];omega
  rw[if_neg h4] at hd;rw[hd];clear hd h4;go_enter func136,ntmps136
  go_wp2
  exact bodyPost_ret (v := .tuple #[.agg #[.int .i32 0,.string ⟨#[]⟩],.int .i64 0]) (by simp[results,results136,go_sem]) rfl ⟨rfl,nB _ _⟩
def jQ(w:World):Prop:=Lib.Utf8Tabs 2 3 w
theorem jQ.below{w a:World}(h:jQ w)(b:Below w.heap.size w a):jQ a:=Utf8Tabs_below h b
theorem bT(s:BA)(w:World)(d:0<s.size)(a:jQ w)(c n:Nat)(hd:Utf8.decode s 0=(c,n)) :
  Calls prog 137 #[.string s] w λe b=>e = .returned (.tuple #[.int .i32 (c:Int),.int .i64 (n:Int)])/\Below w.heap.size w b:=by
 have c0:=Any.utf8_DecodeRuneInString Tryz.lays197 s w a;have e:Lib.decodeGo s=(c,n):=by unfold Lib.decodeGo;rw[if_neg (by omega),hd]
 rw[e] at c0;exact c0
theorem ll(s:BA)(w:World)(g:0<s.size)(E:s.size<=100)(z:ZF w)(m:jQ w)(A:Int)(B:BA)(N:Nat)(d:Pg.Xe (Ref.xA s)=(A,B,N)) :
  Calls prog 126 #[.string s] w λe f=>
   e = .returned (.tuple #[.agg #[.int .i32 A,.string B],.int .i64 (N:Int)])/\Below w.heap.size w f:=by
 obtain⟨b,t⟩:=Nm ((s[0]'g));have j:s.data.toList.getD 0 0=b:=by rw[Ref.getD_at s 0 g,t]
 have o:=b.toNat_lt;have C:(0:Int)<(s.size:Int):=by omega
 have b0:=λO=>nB w O
 by_cases h1:b.toNat=42
 ·have e:=Pg.Ow s g (by rw[j];exact h1);rw[d] at e;obtain⟨rfl,rfl,rfl⟩:A = -2/\B=⟨#[]⟩/\N=1:=by simpa using e
  have q:(b.toNat:Int)=42:=by omega
  clear h1 d e;go_enter func126,ntmps126
  go_wp2
  exact bodyPost_ret (v := .tuple #[.agg #[.int .i32 (-2),.string ⟨#[]⟩],.int .i64 1]) (by simp[results,results126,go_sem]) rfl ⟨rfl,nB _ _⟩
 have G:((b.toNat:Int)==42)=false:=by rw[beq_eq_false_iff_ne];omega
 by_cases h2:b.toNat=63
 ·have e:=Pg.Ov s g (by rw[j];exact h2);rw[d] at e;obtain⟨rfl,rfl,rfl⟩:A = -1/\B=⟨#[]⟩/\N=1:=by simpa using e
  have q:(b.toNat:Int)=63:=by omega
  clear h1 h2 d e;go_enter func126,ntmps126
  go_wp2
  exact bodyPost_ret (v := .tuple #[.agg #[.int .i32 (-1),.string ⟨#[]⟩],.int .i64 1]) (by simp[results,results126,go_sem]) rfl ⟨rfl,nB _ _⟩
 have H:((b.toNat:Int)==63)=false:=by rw[beq_eq_false_iff_ne];omega
 by_cases h3:b.toNat=36
 ·have e:=Pg.Oo s g (by rw[j];exact h3);rw[d] at e;have q:(b.toNat:Int)=36:=by omega
  obtain⟨u,p⟩:=Nm (s.extract 1 s.size);have l:u.size<=100:=by rw[<- p,ByteArray.size_extract];omega
  rw[p] at e;have c:=λO=>Mc u (w.alloc O) l (z.below (b0 O));rw[<- e] at c;have D:(1:Int)<=(s.size:Int):=by omega
  clear h1 h2 h3 d e;go_enter func126,ntmps126
  go_wp2_with (go_at_call 136;refine (c _).mono ?_;rintro e f ⟨rfl,a⟩;obtain⟨h,k⟩:=xR a)
  have i:Below w.heap.size w f:=(b0 _).trans (a.mono (by simp));exact bodyPost_ret (v := .tuple #[.agg #[.int .i32 A,.string B],.int .i64 N]) (by simp[results,results126,go_sem,h]) rfl ⟨rfl,(i.setCell (Nat.le_refl _) _).setCell (Nat.le_refl _) _⟩
 have I:((b.toNat:Int)==36)=false:=by rw[beq_eq_false_iff_ne];omega
 rcases Pg.Om s g (by rw[j];exact h1) (by rw[j];exact h2) (by rw[j];exact h3) with ⟨hd,e⟩|⟨c,n,hc,hd,hn,hns,e⟩
 ·rw[d] at e;obtain⟨rfl,rfl,rfl⟩:A=0/\B=⟨#[]⟩/\N=0:=by simpa using e
  have c:=λO=>bT s (w.alloc O) g (m.below (b0 O)) _ _ hd;clear h1 h2 h3 d e hd;go_enter func126,ntmps126
  go_wp2_with (go_at_call 137;refine (c _).mono ?_;rintro e f ⟨rfl,a⟩;obtain⟨h,k⟩:=xR a)
  have i:Below w.heap.size w f:=(b0 _).trans (a.mono (by simp));exact bodyPost_ret (v := .tuple #[.agg #[.int .i32 0,.string ⟨#[]⟩],.int .i64 0]) (by simp[results,results126,go_sem,h]) rfl ⟨rfl,(i.setCell (Nat.le_refl _) _).setCell (Nat.le_refl _) _⟩
 ·rw[d] at e;obtain⟨rfl,rfl,rfl⟩:A=(c:Int)/\B=⟨#[]⟩/\N=n:=by simpa using e
  have cd:=λO=>bT s (w.alloc O) g (m.below (b0 O)) _ _ hd;have x:(0:Int)<=(c:Int):=by omega
  have y:(c:Int)<=1114111:=by omega
  by_cases hcc:c=65533
  ·have r:(c:Int)=65533:=by omega
   have F:((N:Int)==1)=false:=by rw[beq_eq_false_iff_ne];omega
   clear h1 h2 h3 d e hd hcc hn;go_enter func126,ntmps126
   go_wp2_with (go_at_call 137;refine (cd _).mono ?_;rintro e f ⟨rfl,a⟩;obtain⟨h,k⟩:=xR a)
   have i:Below w.heap.size w f:=(b0 _).trans (a.mono (by simp));exact bodyPost_ret (v := .tuple #[.agg #[.int .i32 c,.string ⟨#[]⟩],.int .i64 N]) (by simp[results,results126,go_sem,h,r]) rfl ⟨rfl,(i.setCell (Nat.le_refl _) _).setCell (Nat.le_refl _) _⟩
  ·have r:((c:Int)==65533)=false:=by rw[beq_eq_false_iff_ne];omega
   clear h1 h2 h3 d e hd hcc hn;go_enter func126,ntmps126
   go_wp2_with (go_at_call 137;refine (cd _).mono ?_;rintro e f ⟨rfl,a⟩;obtain⟨h,k⟩:=xR a)
   have i:Below w.heap.size w f:=(b0 _).trans (a.mono (by simp));exact bodyPost_ret (v := .tuple #[.agg #[.int .i32 c,.string ⟨#[]⟩],.int .i64 N]) (by simp[results,results126,go_sem,h]) rfl ⟨rfl,(i.setCell (Nat.le_refl _) _).setCell (Nat.le_refl _) _⟩
namespace Pg
def xV(l:List (Int×BA)):List Value:=l.flatMap λp=>[.int .i32 (qB p),.string (nameOf p)]
theorem iB(l:List (Int×BA))(p:Int×BA):xV (l++[p])=xV l++[.int .i32 (qB p),.string (nameOf p)]:=by
 unfold xV;simp
def nX(w:World)(P:Option (List (Int×BA)))(v x:Value)(b:World):Prop:=
 (P=none/\v = .slice none 0 0/\∃k:Int,x = .iface 165 (.agg #[.int .i64 k])) \/
 (∃a,P=some a/\x = .nilIface/\b.ownsRow w.heap.size 255 2 v a.length (xV a))
theorem BP(s:BA)(k n:Nat):(s.extract k s.size).extract n (s.extract k s.size).size=s.extract (k+n) s.size:=by
 rw[ByteArray.extract_extract,ByteArray.size_extract];have e:min (k+(min s.size s.size-k)) s.size=s.size:=by omega
 rw[e]
end Pg
theorem Tryz.infoPgPart:(prog.info? 255).map (λi=>(i.zero,i.size,i.bytes))=some (some (.agg #[.int .i32 0,.string ⟨#[]⟩]),2,24):=by kernel_rfl
theorem Ie(k:Int)(c:BA):∀u ∈ [Value.int .i32 k,Value.string c],u.oneCell'=true:=by
 intro u a;simp at a;rcases a with rfl|rfl<;>rfl
theorem lh(s:BA)(w:World)(hs:s.size<=maxLen)(X:ZF w)(U:jQ w) :
  Calls prog 113 #[.string s] w λe F=>∃v x,e = .returned (.tuple #[v,x])/\Below w.heap.size w F/\Pg.nX w (Ref.parts s) v x F:=by
 unfold maxLen at hs
 by_cases h60:60<s.size
 ·have G:Ref.parts s=none:=by unfold Ref.parts;rw[if_pos h60]
  rw[G];have V:(60:Int)<(s.size:Int):=by omega
  go_enter func113,ntmps113
  go_wp2
  go_ret2;exact⟨_,_,rfl,Below.refl _ _,.inl ⟨rfl,rfl,_,rfl⟩⟩
 obtain⟨i0,V,Q,R,S⟩:=info_parts Tryz.infoPgPart;have a6:decide (60<(s.size:Int))=false:=decide_eq_false (by omega);have G:Ref.parts s=(Ref.y8 (s.size+1) s).map λr=>[]++r:=by unfold Ref.parts;rw[if_neg (by omega)];simp
 generalize N:Ref.parts s=P at *;clear N;have T:Hid (P=(Ref.y8 (s.size+1) s).map λr=>[]++r):=G;clear G;have Y:s.size<=60:=by omega
 clear h60;go_enter func113,ntmps113
 go_wp2
 go_loopw [4,5] (λlv M wr=>∃(k f:Nat) (done:List (Int×BA)),M = .int .i64 k/\k<=s.size/\done.length<=k/\(s.extract k s.size).size<f/\P=((Ref.y8 f (s.extract k s.size)).map λr=>done++r) /\
   wr.ownsRow w.heap.size 255 2 lv done.length (Pg.xV done)/\Below w.heap.size w wr) (λ_ M _=>s.size-(intOf M).toNat)
 case atStart=>
  refine⟨0,s.size+1,[],rfl,by omega,by simp,by rw[ByteArray.size_extract];omega,?_,World.ownsRow_nil _ _ _ _,Below.refl _ _⟩;rw[T.out];simp
 case round=>
  obtain⟨k,f,done,rfl,hk,a2,H,p,g,a⟩:=hrel;obtain⟨t,Z⟩:=Nm (s.extract k s.size);have a7:t.size=s.size-k:=by rw[<- Z,ByteArray.size_extract];omega
  have d:=λn=>Pg.BP s k n;rw[Z] at p H d;have h:=hid p;have HM:=hid d;clear p T d;have E:=a.size
  by_cases hlt:k<s.size
  ·have C:0<t.size:=by omega
   have W:(k:Int)<(s.size:Int):=by omega
   cases hst:Ref.xA t with
   | none=>
    have i:=Ref.Lp P f t done C H h.out hst;subst i;have c:=ll t wr C (by omega) (X.below a) (U.below a) 0 ⟨#[]⟩ 0 (by rw[hst];rfl);clear hst
    go_wp2_with (go_at_call 126;refine c.mono ?_;rintro e F ⟨rfl,b⟩)
    go_ret2;exact⟨_,_,rfl,(a.trans (b.mono E)).alloc (by have:=b.size;omega) _,.inl ⟨rfl,rfl,_,rfl⟩⟩
   | some q=>
    obtain⟨m,u,n⟩:=q;obtain⟨f',B,o⟩:=Ref.Lj P f t done C H h.out m u n hst;have a4:=Ref.U1 t C m u n hst;rw[HM.out n] at B o;have c:=ll t wr C (by omega) (X.below a) (U.below a) (Pg.qB (m,u)) (Pg.nameOf (m,u)) n (by rw[hst];rfl);have D:=Pg.iB done (m,u);have L:=hid D;have J:=hid o;obtain⟨sg,A⟩:∃x,Pg.qB (m,u)=x:=⟨_,rfl⟩;obtain⟨nm,y⟩:∃x,Pg.nameOf (m,u)=x:=⟨_,rfl⟩;rw[A,y] at c;have K:=hid A;have I:=hid y;have a3:((n:Int)==0)=false:=by rw[beq_eq_false_iff_ne];omega
    clear o hst h D A y
    go_wp2_with (first
     | (go_at_call 126;refine c.mono ?_;rintro e F ⟨rfl,b⟩)
     | (at_builtin;refine wpList_append_own _ rfl _ _ 230 rfl w.heap.size 255 i0 (.agg #[.int .i32 0,.string ⟨#[]⟩]) 2 24 underlying230 V Q R S rfl (by decide) _ done.length (Pg.xV done) rfl (((ownsRow_below g b).alloc _).alloc _) ⟨F.heap.size+1,0,none⟩ 1 1 [.int .i32 sg,.string nm] rfl rfl ?_ ?_ ?_ ?_ ?_ ?_))
    ·exact Jc _ _ _ _ _ _ (by simp)
    ·exact Ie _ _
    ·unfold maxLen;omega
    ·omega
    ·have:=b.size;simp;omega
    ·intro v' w1 l j _;have O:=aJ (a.trans (b.mono E)) (ownsRow_below g b) _ _ j
     have z:w1.ownsRow w.heap.size 255 2 v' (done++[(m,u)]).length (Pg.xV (done++[(m,u)])):=by
      rw[L.out,K.out,I.out,List.length_append];exact l
     clear l j g c b
     go_wp2
     go_roundw
     case rel=>exact⟨k+n,f',_,by go_num,by omega,by simp;omega,B,J.out,z,O⟩
     case measure=>simp[intOf];omega
  ·have i:=Ref.Lh P f t done (by omega) H h.out;subst i;clear h
   go_wp2
   go_ret2;exact⟨_,_,rfl,a,.inr ⟨_,rfl,rfl,g⟩⟩
end Go.Proofs.YtdakgnaojakldabGreatDoor
