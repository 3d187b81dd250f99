/- P -/
import Derived.Test.YtdakgnaojakldaaGreatDoorQ04
import Derived.Laws.IdiomStrings
import Derived.Test.YtdakgnaojakldaaGreatDoorQ12
open Go.Proofs.Tryz
set_option maxRecDepth 100000
set_option maxHeartbeats 1000000
namespace Go.Proofs.YtdakgnaojakldaaGreatDoor
open Go.RowKit
def Z0(m:BA×BA):Value := .agg #[.string m.1,.string m.2]
def uD(ms:List (BA×BA))(j:Nat):BA×BA:=ms.getD j (⟨#[]⟩,⟨#[]⟩)
theorem YH(ms:List (BA×BA))(j:Nat)(h:j<ms.length):uD ms j=ms[j]:=by
 unfold uD;rw[zL,zl h];rfl
theorem nA(ms:List (BA×BA))(ao:Option Addr)(cap g:Nat)(u:Array Value)(p:Nat->Bool)(w:World)(B:ms.length<=100000000000)(z:∀args w,(callFunc g args).run prog w = .ok (.enter g args) w)
  (x:yK w ao ms)(y:jD g u (λj=>Z0 (uD ms j)) ms.length p w) :
  Calls prog 188 #[.slice ao ms.length cap,.func (.func g) #[] u] w λe s=>
   e = .returned (.tuple #[.int .i64 (((zw p ms.length).getD 0:Nat):Int),.bool (zw p ms.length).isSome])/\Below w.heap.size w s:=by
 generalize hF:zw p ms.length=F;have t:=hid hF;clear hF;go_enter func188,ntmps188
 go_wp2
 go_loopw [10] (λi wr=>∃k:Nat,k<=ms.length/\i = .int .i64 k/\(∀j,j<k->p j=false)/\Below w.heap.size w wr) (λi _=>ms.length-(intOf i).toNat)
 case atStart=>exact⟨0,zO _,rfl,λj h=>by omega,zh _ _⟩
 case round=>
  obtain⟨k,A,rfl,hb,m⟩:=hrel;have q:=hid hb;clear hb
  by_cases hlt:k<ms.length
  ·rcases x with rfl|⟨b,o,rfl,hc⟩
   ·simp at hlt
   have a:=λW hb=>y W k hlt hb;simp only[YH ms k hlt,Z0] at a;obtain⟨r,q2⟩:=hc k hlt;obtain⟨C,f⟩:∃n,ms[k].1=n:=⟨_,rfl⟩;obtain⟨G,l⟩:∃n,ms[k].2=n:=⟨_,rfl⟩;rw[f] at r a;rw[l] at q2 a;have D:=zg m r;have E:=zg m q2;clear f l hc r q2;have c:=λO=>m.trans (nB wr O |>.mono m.size)
   cases hpp:p k with
   | false=>
    rw[hpp] at a;have v:=hid hpp;clear hpp
    go_wp2_with (go_at_fn g;refine (a _ (c _)).mono ?_;rintro e s ⟨rfl,d⟩)
    refine⟨⟨k+1,by omega,by go_num,λj h=>?_,(c _).trans (d.mono (c _).size)⟩,by simp[intOf];omega⟩
    by_cases hj:j=k
    ·subst hj;exact v.out
    ·exact q.out j (by omega)
   | true=>
    rw[hpp] at a;have e:=ZY p ms.length k hlt q.out hpp;rw[t.out] at e;subst e;clear hpp
    go_wp2_with (go_at_fn g;refine (a _ (c _)).mono ?_;rintro e s ⟨rfl,d⟩)
    go_ret2;exact⟨rfl,(c _).trans (d.mono (c _).size)⟩
  ·have e:=ZZ p ms.length (λj h=>q.out j (by omega));rw[t.out] at e;subst e
   go_wp2
   go_ret2;exact⟨rfl,m⟩
theorem BR(ms:List (BA×BA))(ao:Option Addr)(cap g:Nat)(b:Array Value)(p:Nat->Bool)(w:World)(i:ms.length<=100000000000)(f:∀args w,(callFunc g args).run prog w = .ok (.enter g args) w)
  (h:yK w ao ms)(k:jD g b (λj=>Z0 (uD ms j)) ms.length p w) :
  Calls prog 140 #[.slice ao ms.length cap,.func (.func g) #[] b] w λe d=>
   e = .returned (.bool (zw p ms.length).isSome)/\Below w.heap.size w d:=by
 have c:=nA ms ao cap g b p w i f h k;generalize zw p ms.length=F at c;go_enter func140,ntmps140
 go_wp2_with (go_at_call 188;refine c.mono ?_;rintro e d ⟨rfl,a⟩)
 go_ret;exact⟨rfl,a⟩
theorem BG(g:Nat)(h:Array Value)(m:BA×BA)(B:Nat)(y:Bool)(w:World)(k:∀args w,(callFunc g args).run prog w = .ok (.enter g args) w)
  (i:w.cell? ⟨B,0,none⟩=some (.func (.func g) #[] h))(f:∀W,Below w.heap.size w W->Calls prog g (#[Z0 m]++h) W λe c=>e = .returned (.bool y)/\Below W.heap.size W c) :
  Calls prog 141 #[Z0 m,.pointer (some ⟨B,0,none⟩)] w λe c=>e = .returned (.bool (!y))/\Below w.heap.size w c:=by
 obtain⟨a,v⟩:=m;unfold Z0 at f |-;simp only at f |-;have j:=λO:Obj=>zg (nB w O) i;have b:=λO:Obj=>nB w O;go_enter func141,ntmps141
 go_wp2_with (go_at_fn g;refine (f _ (b _)).mono ?_;rintro e c ⟨rfl,d⟩)
 go_ret;exact⟨rfl,(b _).trans (d.mono (b _).size)⟩
theorem BF(ms:List (BA×BA))(ao:Option Addr)(cap g:Nat)(a:Array Value)(p:Nat->Bool)(w:World)(n:ms.length<=100000000000)(i:∀args w,(callFunc g args).run prog w = .ok (.enter g args) w)
  (m:yK w ao ms)(o:jD g a (λj=>Z0 (uD ms j)) ms.length p w) :
  Calls prog 87 #[.slice ao ms.length cap,.func (.func g) #[] a] w λe d=>
   e = .returned (.bool (vW p ms.length))/\Below w.heap.size w d:=by
 have h:∀args w,(callFunc 141 args).run prog w = .ok (.enter 141 args) w:=enters_of func141 (by kernel_rfl) rfl
 have c:=BR ms ao cap 141 #[.pointer (some ⟨w.heap.size,0,none⟩)] (λj=>!p j) (w.alloc (.cells #[.func (.func g) #[] a] 191)) n h
  (uG m (nB w _))
  (λW j l hb=>by
    refine BG g a (uD ms j) w.heap.size (p j) W i ?_ (λf k=>o f j l (((nB w _).trans (hb.mono (by simp))).trans (k.mono (by have:=hb.size;simp at this;omega))));exact zg hb (by simp))
 rw[Ue];generalize zw (λj=>!p j) ms.length=F at c;go_enter func87,ntmps87
 go_wp2_with (go_at_call 140;refine c.mono ?_;rintro e d ⟨rfl,b⟩)
 go_ret;exact⟨rfl,(nB w _).trans (b.mono (by simp))⟩
def Zy(c:Nat):Bool:=decide (97<=c/\c<=122)
theorem IV(c:Nat)(w:World)(f:c<256) :
  Calls prog 133 #[.int .u8 (c:Int)] w λe d=>e = .returned (.bool (Zy c))/\d=w:=by
 by_cases h1:97<=c
 ·have a:decide ((97:Int)<=(c:Int))=true:=zF (by omega)
  by_cases h2:c<=122
  ·have b:decide ((c:Int)<=122)=true:=zF (by omega);have e:Zy c=true:=by unfold Zy;simp;omega
   rw[e];go_enter func133,ntmps133
   go_wp2
   go_ret;exact⟨rfl,rfl⟩
  ·have b:decide ((c:Int)<=122)=false:=zH (by omega);have e:Zy c=false:=by unfold Zy;simp;omega
   rw[e];go_enter func133,ntmps133
   go_wp2
   go_ret;exact⟨rfl,rfl⟩
 ·have a:decide ((97:Int)<=(c:Int))=false:=zH (by omega);have e:Zy c=false:=by unfold Zy;simp;omega
  rw[e];go_enter func133,ntmps133
  go_wp2
  go_ret;exact⟨rfl,rfl⟩
theorem il(l:List UInt8)(f:Nat->Bool):vW (λj=>f (l.getD j 0).toNat) l.length=l.all λc=>f c.toNat:=by
 unfold vW;rw[vN,ve,ve]
 constructor
 ·intro h c d;obtain⟨j,b,rfl⟩:=KT.1 d
  have:=h j (vQ.2 b)
  rwa [zL,zl b] at this
 ·intro h j b;have a:=vQ.1 b;rw[zL,zl a];exact h _ (qH a)
theorem ae(s:BA)(w:World):∃C O,(convert 9 256 (.string s)).run prog w = .ok (.slice (some ⟨w.heap.size,0,none⟩) s.size C) (w.alloc O).drew
  /\ ∀j,j<s.size->(w.alloc O).drew.cell? ⟨w.heap.size,0+j,none⟩=some (.int .u8 (((s.data.toList.getD j 0).toNat:Nat):Int)):=by
 refine⟨_,_,run_bytes_of_string w _ _ _ s underlying9 underlying256 underlying5,λj a=>?_⟩;show (w.alloc _).cell? _=_;rw[qO,World.cell?_alloc_mark];rw[bytesRow_at s _ j a,Ref.getD_at s j a]
 rfl
theorem UO(s:BA)(w:World)(n:s.size<=maxLen) :
  Calls prog 82 #[.string s] w λe g=>e = .returned (.bool (Ref.qj s))/\Below w.heap.size w g:=by
 unfold maxLen at n
 by_cases h1:1<=s.size
 ·have i:decide ((0:Int)<(s.size:Int))=true:=zF (by omega)
  by_cases h2:s.size<=12
  ·have k:decide ((s.size:Int)<=12)=true:=zF (by omega);obtain⟨C,O,l,b⟩:=ae s w;have a:Below w.heap.size w (w.alloc O).drew:=(nB w _).drew
   have c:=iq s.size w.heap.size 0 C 133 #[] (λj=>(((s.data.toList.getD j 0).toNat:Nat):Int)) (λj=>Zy (s.data.toList.getD j 0).toNat) _ (by omega)
    (enters_of func133 (by kernel_rfl) rfl) b
    (λW j _ _=>(IV _ W (UInt8.toNat_lt _)).mono λe g ⟨m,o⟩=>⟨m,o ▸ zh _ _⟩)
   have f:=il s.data.toList Zy;rw[Ref.zG] at f;rw[f] at c
   have h:Ref.qj s=s.data.toList.all λc=>Zy c.toNat:=by
    unfold Ref.qj Ref.letters Zy;rw[zF (by omega)];rfl
   rw[h];generalize (s.data.toList.all λc=>Zy c.toNat)=R at c;clear f h b;go_enter func82,ntmps82
   go_wp2_with (go_at_call 132;refine c.mono ?_;rintro e g ⟨rfl,d⟩)
   go_ret;exact⟨rfl,a.trans (d.mono a.size)⟩
  ·have k:decide ((s.size:Int)<=12)=false:=zH (by omega);rw[Ref.bQ s (by omega)];go_enter func82,ntmps82
   go_wp2
   go_ret;exact⟨rfl,zh _ _⟩
 ·have i:decide ((0:Int)<(s.size:Int))=false:=zH (by omega);rw[Ref.bQ s (by omega)];go_enter func82,ntmps82
  go_wp2
  go_ret;exact⟨rfl,zh _ _⟩
theorem below_drewN{B:Nat}{a w:World}(h:Below B a w):∀q,Below B a (w.drewN q)
 | 0=>h
 | q+1=>(below_drewN h q).drew
def Q0(w:World):Prop:=∃m,w.cell? ⟨4,0,none⟩=some (.int .i64 m)
theorem Q0.below{w a:World}(h:Q0 w)(hb:Below w.heap.size w a):Q0 a:=by
 obtain⟨m,b⟩:=h;exact⟨m,zg hb b⟩
theorem ED(u:BA)(w:World)(g:u.size<=1000)(a:Q0 w) :
  Calls prog 252 #[.string u,.string ⟨#[125]⟩] w λe b=>(∃X,e = .returned (.tuple #[.string (Pg.QD u),.string X,.bool (Pg.QC u)]))/\Below w.heap.size w b:=by
 obtain⟨m,a⟩:=a;have c:=Any.strings_Cut Tryz.lays145 u ⟨#[125]⟩ m w (by omega) a;obtain⟨d,f⟩:=Pg.EE u;refine c.mono ?_;rintro e b ⟨rfl,n,rfl⟩;refine⟨⟨⟨(Lib.cut u.data.toList [125]).2.1.toArray⟩,?_⟩,below_drewN (zh _ _) n⟩;rw[<- d,<- f]
theorem RV{a b:Int}{c d:BA}{c1 c2:Int}(e:a=b)(f:c=d)(g:c1=c2) :
  Ending.returned (.tuple #[.agg #[.int .i32 a,.string c],.int .i64 c1]) = .returned (.tuple #[.agg #[.int .i32 b,.string d],.int .i64 c2]):=by rw[e,f,g]
theorem Rs(t:BA)(w:World)(I:t.size<=100)(C:Q0 w) :
  Calls prog 236 #[.string t] w λe f=>
   e = .returned (.tuple #[.agg #[.int .i32 (Pg.ZU t).1,.string (Pg.ZU t).2.1],.int .i64 ((Pg.ZU t).2.2:Nat)])/\Below w.heap.size w f:=by
 by_cases h0:t.size=0
 ·have hd:Pg.ZU t=(0,⟨#[]⟩,0):=by unfold Pg.ZU;rw[zb h0]
  rw[hd]
  have r:t=⟨#[]⟩:=by
   have h:=h0;simp at h;exact h
  subst r;go_enter func236,ntmps236
  go_wp2
  exact zS (v := .tuple #[.agg #[.int .i32 0,.string ⟨#[]⟩],.int .i64 0]) (by simp[results,results236,go_sem]) rfl ⟨rfl,nB _ _⟩
 have D:(t.toList==([]:List UInt8))=false:=by
  rw[Lib.toList_data]
  cases h:t.data.toList with
  | nil=>exact absurd (by rw[Lib.size_eq,h];rfl) h0
  | cons _ _=>rfl
 have z:0<t.size:=by omega
 obtain⟨b,hb⟩:=Nm ((t[0]'z));have B:t.data.toList.getD 0 0=b:=by rw[Ref.getD_at t 0 z,hb]
 have hd:Pg.ZU t=Pg.ZU t:=rfl
 conv at hd=>rhs;unfold Pg.ZU
 rw[za h0,B] at hd;have y:=b.toNat_lt
 by_cases h3:b.toNat=36\/b.toNat=42\/b.toNat=63
 ·rw[zb h3] at hd;rw[hd];clear hd;have q:(b.toNat:Int)=36\/(b.toNat:Int)=42\/(b.toNat:Int)=63:=by omega
  clear h3
  rcases q with h|h|h
  all_goals
   go_enter func236,ntmps236
   go_wp2
   exact zS (v := .tuple #[.agg #[.int .i32 b.toNat,.string ⟨#[]⟩],.int .i64 2]) (by simp[results,results236,go_sem,h]) rfl ⟨rfl,nB _ _⟩
 rw[za h3] at hd;have J:((b.toNat:Int)==36)=false:=by rw[qQ];omega
 have K:((b.toNat:Int)==42)=false:=by rw[qQ];omega
 have L:((b.toNat:Int)==63)=false:=by rw[qQ];omega
 clear h3
 by_cases h4:b.toNat=123
 ·have H:(b.toNat:Int)=123:=by omega
  rw[zb h4] at hd;clear h4;obtain⟨u,A⟩:=Nm (t.extract 1 t.size);rw[A] at hd;have G:u.size<=100:=by rw[<- A,jB];omega
  have F:(1:Int)<=(t.size:Int):=by omega
  have c:=λO=>ED u (w.alloc O) (by omega) (C.below (nB w O))
  cases hh:Pg.QC u with
  | false=>
   rw[hh,za (by decide)] at hd;rw[hh] at c;rw[hd];clear hd hh;go_enter func236,ntmps236
   go_wp2_with (go_at_call 252;refine (c _).mono ?_;rintro e f ⟨⟨X,rfl⟩,a⟩;obtain⟨l,x⟩:=yR a)
   have o:w.heap.size<f.heap.size:=by have:=a.size;simp at this;omega
   have j:Below w.heap.size w f:=(nB w _).trans (a.mono (by simp));exact zS (v := .tuple #[.agg #[.int .i32 0,.string ⟨#[]⟩],.int .i64 0]) (by simp[results,results236,go_sem,l]) rfl ⟨rfl,(j.setCell (ze _) _).setCell (ze _) _⟩
  | true=>
   rw[hh,zb rfl] at hd;rw[hh] at c;obtain⟨nm,g⟩:=Nm (Pg.QD u)
   have E:nm.size<=100:=by
    rw[<- g];unfold Pg.QD;rw[hh,zb rfl,jB];omega
   rw[g] at hd c;have n:=λW=>UO nm W (by unfold maxLen;omega)
   cases hi:Ref.qj nm with
   | true=>
    rw[hi,zb rfl] at hd;rw[hi] at n;rw[hd];clear hd hh hi g;go_enter func236,ntmps236
    go_wp2_with (first
     | (go_at_call 252;refine (c _).mono ?_;rintro e f ⟨⟨X,rfl⟩,a⟩;obtain⟨l,x⟩:=yR a;have o:w.heap.size<f.heap.size:=by (have:=a.size;simp at this;omega))
     | (go_at_call 82;refine (n _).mono ?_;rintro e m ⟨rfl,d⟩;obtain⟨i,p⟩:=yR d))
    have s:w.heap.size<m.heap.size:=by have:=d.size;omega
    have j:Below w.heap.size w f:=(nB w _).trans (a.mono (by simp));have k:Below w.heap.size w m:=j.trans (d.mono j.size);exact zS (v := .tuple #[.agg #[.int .i32 0,.string nm],.int .i64 (2+nm.size+1)]) (by simp[results,results236,go_sem,l,o,i]) rfl ⟨RV rfl rfl (by simp),(k.setCell (ze _) _).setCell (ze _) _⟩
   | false=>
    rw[hi,za (by decide)] at hd;rw[hi] at n;rw[hd];clear hd hh hi g;go_enter func236,ntmps236
    go_wp2_with (first
     | (go_at_call 252;refine (c _).mono ?_;rintro e f ⟨⟨X,rfl⟩,a⟩;obtain⟨l,x⟩:=yR a;have o:w.heap.size<f.heap.size:=by (have:=a.size;simp at this;omega))
     | (go_at_call 82;refine (n _).mono ?_;rintro e m ⟨rfl,d⟩;obtain⟨i,p⟩:=yR d))
    have s:w.heap.size<m.heap.size:=by have:=d.size;omega
    have j:Below w.heap.size w f:=(nB w _).trans (a.mono (by simp));have k:Below w.heap.size w m:=j.trans (d.mono j.size);exact zS (v := .tuple #[.agg #[.int .i32 0,.string ⟨#[]⟩],.int .i64 0]) (by simp[results,results236,go_sem,l,o,i]) rfl ⟨rfl,(k.setCell (ze _) _).setCell (ze _) _⟩
 ·have H:((b.toNat:Int)==123)=false:=by rw[qQ];omega
  rw[za h4] at hd;rw[hd];clear hd h4;go_enter func236,ntmps236
  go_wp2
  exact zS (v := .tuple #[.agg #[.int .i32 0,.string ⟨#[]⟩],.int .i64 0]) (by simp[results,results236,go_sem]) rfl ⟨rfl,nB _ _⟩
def ut(w:World):Prop:=Lib.Utf8Tabs 2 3 w
theorem ut.below{w a:World}(h:ut w)(hb:Below w.heap.size w a):ut a:=Utf8Tabs_below h hb
theorem mr(s:BA)(w:World)(d:0<s.size)(a:ut w)(c n:Nat)(hd:Utf8.decode s 0=(c,n)) :
  Calls prog 237 #[.string s] w λe b=>e = .returned (.tuple #[.int .i32 (c:Int),.int .i64 (n:Int)])/\Below w.heap.size w b:=by
 have c0:=Any.utf8_DecodeRuneInString Tryz.lays197 s w a;have e:Lib.decodeGo s=(c,n):=by unfold Lib.decodeGo;rw[za (by omega),hd]
 rw[e] at c0;exact c0
theorem tQ(s:BA)(w:World)(g:0<s.size)(E:s.size<=100)(z:Q0 w)(o:ut w)(A:Int)(B:BA)(N:Nat)(d:Pg.YP (Ref.yC s)=(A,B,N)) :
  Calls prog 212 #[.string s] w λe f=>
   e = .returned (.tuple #[.agg #[.int .i32 A,.string B],.int .i64 (N:Int)])/\Below w.heap.size w f:=by
 obtain⟨b,hb⟩:=Nm ((s[0]'g));have k:s.data.toList.getD 0 0=b:=by rw[Ref.getD_at s 0 g,hb]
 have p:=b.toNat_lt;have C:(0:Int)<(s.size:Int):=by omega
 have h:=λO=>nB w O
 by_cases h1:b.toNat=42
 ·have e:=Pg.TM s g (by rw[k];exact h1);rw[d] at e;obtain⟨rfl,rfl,rfl⟩:A = -2/\B=⟨#[]⟩/\N=1:=by simpa using e
  have r:(b.toNat:Int)=42:=by omega
  clear h1 d e;go_enter func212,ntmps212
  go_wp2
  exact zS (v := .tuple #[.agg #[.int .i32 (-2),.string ⟨#[]⟩],.int .i64 1]) (by simp[results,results212,go_sem]) rfl ⟨rfl,nB _ _⟩
 have G:((b.toNat:Int)==42)=false:=by rw[qQ];omega
 by_cases h2:b.toNat=63
 ·have e:=Pg.TK s g (by rw[k];exact h2);rw[d] at e;obtain⟨rfl,rfl,rfl⟩:A = -1/\B=⟨#[]⟩/\N=1:=by simpa using e
  have r:(b.toNat:Int)=63:=by omega
  clear h1 h2 d e;go_enter func212,ntmps212
  go_wp2
  exact zS (v := .tuple #[.agg #[.int .i32 (-1),.string ⟨#[]⟩],.int .i64 1]) (by simp[results,results212,go_sem]) rfl ⟨rfl,nB _ _⟩
 have H:((b.toNat:Int)==63)=false:=by rw[qQ];omega
 by_cases h3:b.toNat=36
 ·have e:=Pg.TF s g (by rw[k];exact h3);rw[d] at e;have r:(b.toNat:Int)=36:=by omega
  obtain⟨u,q⟩:=Nm (s.extract 1 s.size);have m:u.size<=100:=by rw[<- q,jB];omega
  rw[q] at e;have c:=λO=>Rs u (w.alloc O) m (z.below (h O));rw[<- e] at c;have D:(1:Int)<=(s.size:Int):=by omega
  clear h1 h2 h3 d e;go_enter func212,ntmps212
  go_wp2_with (go_at_call 236;refine (c _).mono ?_;rintro e f ⟨rfl,a⟩;obtain⟨i,l⟩:=yR a)
  have j:Below w.heap.size w f:=(h _).trans (a.mono (by simp));exact zS (v := .tuple #[.agg #[.int .i32 A,.string B],.int .i64 N]) (by simp[results,results212,go_sem,i]) rfl ⟨rfl,(j.setCell (ze _) _).setCell (ze _) _⟩
 have I:((b.toNat:Int)==36)=false:=by rw[qQ];omega
 rcases Pg.wV s g (by rw[k];exact h1) (by rw[k];exact h2) (by rw[k];exact h3) with ⟨hd,e⟩|⟨c,n,hc,hd,hn,hns,e⟩
 ·rw[d] at e;obtain⟨rfl,rfl,rfl⟩:A=0/\B=⟨#[]⟩/\N=0:=by simpa using e
  have c:=λO=>mr s (w.alloc O) g (o.below (h O)) _ _ hd;clear h1 h2 h3 d e hd;go_enter func212,ntmps212
  go_wp2_with (go_at_call 237;refine (c _).mono ?_;rintro e f ⟨rfl,a⟩;obtain⟨i,l⟩:=yR a)
  have j:Below w.heap.size w f:=(h _).trans (a.mono (by simp));exact zS (v := .tuple #[.agg #[.int .i32 0,.string ⟨#[]⟩],.int .i64 0]) (by simp[results,results212,go_sem,i]) rfl ⟨rfl,(j.setCell (ze _) _).setCell (ze _) _⟩
 ·rw[d] at e;obtain⟨rfl,rfl,rfl⟩:A=(c:Int)/\B=⟨#[]⟩/\N=n:=by simpa using e
  have cd:=λO=>mr s (w.alloc O) g (o.below (h O)) _ _ hd;have x:(0:Int)<=(c:Int):=by omega
  have y:(c:Int)<=1114111:=by omega
  by_cases hcc:c=65533
  ·have t:(c:Int)=65533:=by omega
   have F:((N:Int)==1)=false:=by rw[qQ];omega
   clear h1 h2 h3 d e hd hcc hn;go_enter func212,ntmps212
   go_wp2_with (go_at_call 237;refine (cd _).mono ?_;rintro e f ⟨rfl,a⟩;obtain⟨i,l⟩:=yR a)
   have j:Below w.heap.size w f:=(h _).trans (a.mono (by simp));exact zS (v := .tuple #[.agg #[.int .i32 c,.string ⟨#[]⟩],.int .i64 N]) (by simp[results,results212,go_sem,i,t]) rfl ⟨rfl,(j.setCell (ze _) _).setCell (ze _) _⟩
  ·have t:((c:Int)==65533)=false:=by rw[qQ];omega
   clear h1 h2 h3 d e hd hcc hn;go_enter func212,ntmps212
   go_wp2_with (go_at_call 237;refine (cd _).mono ?_;rintro e f ⟨rfl,a⟩;obtain⟨i,l⟩:=yR a)
   have j:Below w.heap.size w f:=(h _).trans (a.mono (by simp));exact zS (v := .tuple #[.agg #[.int .i32 c,.string ⟨#[]⟩],.int .i64 N]) (by simp[results,results212,go_sem,i]) rfl ⟨rfl,(j.setCell (ze _) _).setCell (ze _) _⟩
namespace Pg
def yX(l:List (Int×BA)):List Value:=l.flatMap λp=>[.int .i32 (qX p),.string (nameOf p)]
theorem rZ(l:List (Int×BA))(p:Int×BA):yX (l++[p])=yX l++[.int .i32 (qX p),.string (nameOf p)]:=by
 unfold yX;simp
def Bi(w:World)(P:Option (List (Int×BA)))(v x:Value)(b:World):Prop:=
 (P=none/\v = .slice none 0 0/\∃k:Int,x = .iface 228 (.agg #[.int .i64 k])) \/
 (∃a,P=some a/\x = .nilIface/\b.ownsRow w.heap.size 358 2 v a.length (yX a))
theorem Gr(s:BA)(k n:Nat):(s.extract k s.size).extract n (s.extract k s.size).size=s.extract (k+n) s.size:=by
 rw[KL,jB];have e:min (k+(min s.size s.size-k)) s.size=s.size:=by omega
 rw[e]
end Pg
theorem Tryz.infoPgPart:(prog.info? 358).map (λi=>(i.zero,i.size,i.bytes))=some (some (.agg #[.int .i32 0,.string ⟨#[]⟩]),2,24):=by kernel_rfl
theorem Oq(k:Int)(c:BA):∀u ∈ [Value.int .i32 k,Value.string c],u.oneCell'=true:=by
 intro u a;simp at a;rcases a with rfl|rfl<;>rfl
theorem tN(s:BA)(w:World)(hs:s.size<=maxLen)(W:Q0 w)(U:ut w) :
  Calls prog 173 #[.string s] w λe F=>∃v x,e = .returned (.tuple #[v,x])/\Below w.heap.size w F/\Pg.Bi w (Ref.parts s) v x F:=by
 unfold maxLen at hs
 by_cases h60:60<s.size
 ·have G:Ref.parts s=none:=by unfold Ref.parts;rw[zb h60]
  rw[G];have hi:(60:Int)<(s.size:Int):=by omega
  go_enter func173,ntmps173
  go_wp2
  go_ret2;exact⟨_,_,rfl,zh _ _,.inl ⟨rfl,rfl,_,rfl⟩⟩
 obtain⟨i0,hi,Q,R,S⟩:=yU Tryz.infoPgPart;have a5:decide (60<(s.size:Int))=false:=zH (by omega);have G:Ref.parts s=(Ref.jW (s.size+1) s).map λr=>[]++r:=by unfold Ref.parts;rw[za (by omega)];simp
 generalize N:Ref.parts s=P at *;clear N;have T:Hid (P=(Ref.jW (s.size+1) s).map λr=>[]++r):=G;clear G;have X:s.size<=60:=by omega
 clear h60;go_enter func173,ntmps173
 go_wp2
 go_loopw [4,5] (λlv M wr=>∃(k f:Nat) (done:List (Int×BA)),M = .int .i64 k/\k<=s.size/\done.length<=k/\(s.extract k s.size).size<f/\P=((Ref.jW f (s.extract k s.size)).map λr=>done++r) /\
   wr.ownsRow w.heap.size 358 2 lv done.length (Pg.yX done)/\Below w.heap.size w wr) (λ_ M _=>s.size-(intOf M).toNat)
 case atStart=>
  refine⟨0,s.size+1,[],rfl,by omega,by simp,by rw[jB];omega,?_,uw _ _ _ _,zh _ _⟩;rw[T.out];simp
 case round=>
  obtain⟨k,f,done,rfl,hk,a1,H,p,g,a⟩:=hrel;obtain⟨t,Y⟩:=Nm (s.extract k s.size);have a6:t.size=s.size-k:=by rw[<- Y,jB];omega
  have d:=λn=>Pg.Gr s k n;rw[Y] at p H d;have h:=hid p;have Z:=hid d;clear p T d;have E:=a.size
  by_cases hlt:k<s.size
  ·have C:0<t.size:=by omega
   have V:(k:Int)<(s.size:Int):=by omega
   cases hst:Ref.yC t with
   | none=>
    have i:=Ref.Pz P f t done C H h.out hst;subst i;have c:=tQ t wr C (by omega) (W.below a) (U.below a) 0 ⟨#[]⟩ 0 (by rw[hst];rfl);clear hst
    go_wp2_with (go_at_call 212;refine c.mono ?_;rintro e F ⟨rfl,b⟩)
    go_ret2;exact⟨_,_,rfl,(a.trans (b.mono E)).alloc (by have:=b.size;omega) _,.inl ⟨rfl,rfl,_,rfl⟩⟩
   | some q=>
    obtain⟨m,u,n⟩:=q;obtain⟨f',B,o⟩:=Ref.Pw P f t done C H h.out m u n hst;have a3:=Ref.dP t C m u n hst;rw[Z.out n] at B o;have c:=tQ t wr C (by omega) (W.below a) (U.below a) (Pg.qX (m,u)) (Pg.nameOf (m,u)) n (by rw[hst];rfl);have D:=Pg.rZ done (m,u);have L:=hid D;have J:=hid o;obtain⟨sg,A⟩:∃x,Pg.qX (m,u)=x:=⟨_,rfl⟩;obtain⟨nm,y⟩:∃x,Pg.nameOf (m,u)=x:=⟨_,rfl⟩;rw[A,y] at c;have K:=hid A;have I:=hid y;have a2:((n:Int)==0)=false:=by rw[qQ];omega
    clear o hst h D A y
    go_wp2_with (first
     | (go_at_call 212;refine c.mono ?_;rintro e F ⟨rfl,b⟩)
     | (at_builtin;refine vL _ rfl _ _ 307 rfl w.heap.size 358 i0 (.agg #[.int .i32 0,.string ⟨#[]⟩]) 2 24 underlying307 hi Q R S rfl (by decide) _ done.length (Pg.yX done) rfl (((ownsRow_below g b).alloc _).alloc _) ⟨F.heap.size+1,0,none⟩ 1 1 [.int .i32 sg,.string nm] rfl rfl ?_ ?_ ?_ ?_ ?_ ?_))
    ·exact Uo _ _ _ _ _ _ (by simp)
    ·exact Oq _ _
    ·unfold maxLen;omega
    ·omega
    ·have:=b.size;simp;omega
    ·intro v' w1 l j _;have O:=iP (a.trans (b.mono E)) (ownsRow_below g b) _ _ j
     have z:w1.ownsRow w.heap.size 358 2 v' (done++[(m,u)]).length (Pg.yX (done++[(m,u)])):=by
      rw[L.out,K.out,I.out,xm];exact l
     clear l j g c b
     go_wp2
     go_roundw
     case rel=>exact⟨k+n,f',_,by go_num,by omega,by simp;omega,B,J.out,z,O⟩
     case measure=>simp[intOf];omega
  ·have i:=Ref.Pt P f t done (by omega) H h.out;subst i;clear h
   go_wp2
   go_ret2;exact⟨_,_,rfl,a,.inr ⟨_,rfl,rfl,g⟩⟩
end Go.Proofs.YtdakgnaojakldaaGreatDoor
