/- P -/
import Derived.Test.YtagnlbgbnfnapaaGreatDoorZ03
import Derived.Test.YtagnlbgbnfnapaaGreatDoorZ11
open Go.Proofs.Tryz
set_option maxRecDepth 100000
set_option maxHeartbeats 1000000
namespace Go.Proofs.YtagnlbgbnfnapaaGreatDoor
open Go.RowKit
def QC(m:BA×BA):Value := .agg #[.string m.1,.string m.2]
def kE(ms:List (BA×BA))(j:Nat):BA×BA:=ms.getD j (⟨#[]⟩,⟨#[]⟩)
theorem Ja(ms:List (BA×BA))(j:Nat)(h:j<ms.length):kE ms j=ms[j]:=by
 unfold kE;rw[zQ,zt h];rfl
theorem pz(ms:List (BA×BA))(ao:Option Addr)(cap g:Nat)(u:Array Value)(p:Nat->Bool)(w:World)(B:ms.length<=100000000000)(z:∀args w,(callFunc g args).run prog w = .ok (.enter g args) w)
  (x:xD w ao ms)(y:jQ g u (λj=>QC (kE ms j)) ms.length p w) :
  Calls prog 136 #[.slice ao ms.length cap,.func (.func g) #[] u] w λe s=>
   e = .returned (.tuple #[.int .i64 (((zD p ms.length).getD 0:Nat):Int),.bool (zD p ms.length).isSome])/\Below w.heap.size w s:=by
 generalize hF:zD p ms.length=F;have t:=hid hF;clear hF;go_enter func136,ntmps136
 go_wp2
 go_loopw [10] (λi wr=>∃k:Nat,k<=ms.length/\i = .int .i64 k/\(∀j,j<k->p j=false)/\Below w.heap.size w wr) (λi _=>ms.length-(intOf i).toNat)
 case atStart=>exact⟨0,zU _,rfl,λj h=>by omega,zi _ _⟩
 case round=>
  obtain⟨k,A,rfl,hb,m⟩:=hrel;have q:=hid hb;clear hb
  by_cases hlt:k<ms.length
  ·rcases x with rfl|⟨b,o,rfl,hc⟩
   ·simp at hlt
   have a:=λW hb=>y W k hlt hb;simp only[Ja ms k hlt,QC] at a;obtain⟨r,q2⟩:=hc k hlt;obtain⟨C,f⟩:∃n,ms[k].1=n:=⟨_,rfl⟩;obtain⟨v1,l⟩:∃n,ms[k].2=n:=⟨_,rfl⟩;rw[f] at r a;rw[l] at q2 a;have D:=zh m r;have E:=zh m q2;clear f l hc r q2;have c:=λO=>m.trans (nB wr O |>.mono m.size)
   cases hpp:p k with
   | false=>
    rw[hpp] at a;have v:=hid hpp;clear hpp
    go_wp2_with (go_at_fn g;refine (a _ (c _)).mono ?_;rintro e s ⟨rfl,d⟩)
    refine⟨⟨k+1,by omega,by go_num,λj h=>?_,(c _).trans (d.mono (c _).size)⟩,by simp[intOf];omega⟩
    by_cases hj:j=k
    ·subst hj;exact v.out
    ·exact q.out j (by omega)
   | true=>
    rw[hpp] at a;have e:=QA p ms.length k hlt q.out hpp;rw[t.out] at e;subst e;clear hpp
    go_wp2_with (go_at_fn g;refine (a _ (c _)).mono ?_;rintro e s ⟨rfl,d⟩)
    go_ret2;exact⟨rfl,(c _).trans (d.mono (c _).size)⟩
  ·have e:=QB p ms.length (λj h=>q.out j (by omega));rw[t.out] at e;subst e
   go_wp2
   go_ret2;exact⟨rfl,m⟩
theorem DT(ms:List (BA×BA))(ao:Option Addr)(cap g:Nat)(b:Array Value)(p:Nat->Bool)(w:World)(i:ms.length<=100000000000)(f:∀args w,(callFunc g args).run prog w = .ok (.enter g args) w)
  (h:xD w ao ms)(k:jQ g b (λj=>QC (kE ms j)) ms.length p w) :
  Calls prog 86 #[.slice ao ms.length cap,.func (.func g) #[] b] w λe d=>
   e = .returned (.bool (zD p ms.length).isSome)/\Below w.heap.size w d:=by
 have c:=pz ms ao cap g b p w i f h k;generalize zD p ms.length=F at c;go_enter func86,ntmps86
 go_wp2_with (go_at_call 136;refine c.mono ?_;rintro e d ⟨rfl,a⟩)
 go_ret;exact⟨rfl,a⟩
theorem Dw(g:Nat)(h:Array Value)(m:BA×BA)(B:Nat)(y:Bool)(w:World)(k:∀args w,(callFunc g args).run prog w = .ok (.enter g args) w)
  (i:w.cell? ⟨B,0,none⟩=some (.func (.func g) #[] h))(f:∀W,Below w.heap.size w W->Calls prog g (#[QC m]++h) W λe c=>e = .returned (.bool y)/\Below W.heap.size W c) :
  Calls prog 87 #[QC m,.pointer (some ⟨B,0,none⟩)] w λe c=>e = .returned (.bool (!y))/\Below w.heap.size w c:=by
 obtain⟨a,v⟩:=m;unfold QC at f |-;simp only at f |-;have j:=λO:Obj=>zh (nB w O) i;have b:=λO:Obj=>nB w O;go_enter func87,ntmps87
 go_wp2_with (go_at_fn g;refine (f _ (b _)).mono ?_;rintro e c ⟨rfl,d⟩)
 go_ret;exact⟨rfl,(b _).trans (d.mono (b _).size)⟩
theorem Dv(ms:List (BA×BA))(ao:Option Addr)(cap g:Nat)(a:Array Value)(p:Nat->Bool)(w:World)(n:ms.length<=100000000000)(i:∀args w,(callFunc g args).run prog w = .ok (.enter g args) w)
  (m:xD w ao ms)(o:jQ g a (λj=>QC (kE ms j)) ms.length p w) :
  Calls prog 47 #[.slice ao ms.length cap,.func (.func g) #[] a] w λe d=>
   e = .returned (.bool (uz p ms.length))/\Below w.heap.size w d:=by
 have h:∀args w,(callFunc 87 args).run prog w = .ok (.enter 87 args) w:=qx func87 (by kernel_rfl) rfl
 have c:=DT ms ao cap 87 #[.pointer (some ⟨w.heap.size,0,none⟩)] (λj=>!p j) (w.alloc (.cells #[.func (.func g) #[] a] 113)) n h
  (kF m (nB w _))
  (λW j l hb=>by
    refine Dw g a (kE ms j) w.heap.size (p j) W i ?_ (λf k=>o f j l (((nB w _).trans (hb.mono (by simp))).trans (k.mono (by have:=hb.size;simp at this;omega))));exact zh hb (by simp))
 rw[UK];generalize zD (λj=>!p j) ms.length=F at c;go_enter func47,ntmps47
 go_wp2_with (go_at_call 86;refine c.mono ?_;rintro e d ⟨rfl,b⟩)
 go_ret;exact⟨rfl,(nB w _).trans (b.mono (by simp))⟩
def Z7(c:Nat):Bool:=decide (97<=c/\c<=122)
theorem MI(c:Nat)(w:World)(f:c<256) :
  Calls prog 90 #[.int .u8 (c:Int)] w λe d=>e = .returned (.bool (Z7 c))/\d=w:=by
 by_cases h1:97<=c
 ·have a:decide ((97:Int)<=(c:Int))=true:=zF (by omega)
  by_cases h2:c<=122
  ·have b:decide ((c:Int)<=122)=true:=zF (by omega);have e:Z7 c=true:=by unfold Z7;simp;omega
   rw[e];go_enter func90,ntmps90
   go_wp2
   go_ret;exact⟨rfl,rfl⟩
  ·have b:decide ((c:Int)<=122)=false:=zH (by omega);have e:Z7 c=false:=by unfold Z7;simp;omega
   rw[e];go_enter func90,ntmps90
   go_wp2
   go_ret;exact⟨rfl,rfl⟩
 ·have a:decide ((97:Int)<=(c:Int))=false:=zH (by omega);have e:Z7 c=false:=by unfold Z7;simp;omega
  rw[e];go_enter func90,ntmps90
  go_wp2
  go_ret;exact⟨rfl,rfl⟩
theorem mi(l:List UInt8)(f:Nat->Bool):uz (λj=>f (l.getD j 0).toNat) l.length=l.all λc=>f c.toNat:=by
 unfold uz;rw[vk,vP,vP]
 constructor
 ·intro h c d;obtain⟨j,b,rfl⟩:=ay.1 d
  have:=h j (vQ.2 b)
  rwa [zQ,zt b] at this
 ·intro h j b;have a:=vQ.1 b;rw[zQ,zt a];exact h _ (xg a)
theorem aV(s:BA)(w:World):∃C O,(convert 9 181 (.string s)).run prog w = .ok (.slice (some ⟨w.heap.size,0,none⟩) s.size C) (w.alloc O).drew
  /\ ∀j,j<s.size->(w.alloc O).drew.cell? ⟨w.heap.size,0+j,none⟩=some (.int .u8 (((s.data.toList.getD j 0).toNat:Nat):Int)):=by
 refine⟨_,_,run_bytes_of_string w _ _ _ s underlying9 underlying181 underlying5,λj a=>?_⟩;show (w.alloc _).cell? _=_;rw[qM,World.cell?_alloc_mark];rw[bytesRow_at s _ j a,Ref.getD_at s j a]
 rfl
theorem Kb(s:BA)(w:World)(n:s.size<=maxLen) :
  Calls prog 51 #[.string s] w λe g=>e = .returned (.bool (Ref.qm s))/\Below w.heap.size w g:=by
 unfold maxLen at n
 by_cases h1:1<=s.size
 ·have i:decide ((0:Int)<(s.size:Int))=true:=zF (by omega)
  by_cases h2:s.size<=12
  ·have k:decide ((s.size:Int)<=12)=true:=zF (by omega);obtain⟨C,O,l,b⟩:=aV s w;have a:Below w.heap.size w (w.alloc O).drew:=(nB w _).drew
   have c:=mo s.size w.heap.size 0 C 90 #[] (λj=>(((s.data.toList.getD j 0).toNat:Nat):Int)) (λj=>Z7 (s.data.toList.getD j 0).toNat) _ (by omega)
    (qx func90 (by kernel_rfl) rfl) b
    (λW j _ _=>(MI _ W (aM _)).mono λe g ⟨m,o⟩=>⟨m,o ▸ zi _ _⟩)
   have f:=mi s.data.toList Z7;rw[Ref.zP] at f;rw[f] at c
   have h:Ref.qm s=s.data.toList.all λc=>Z7 c.toNat:=by
    unfold Ref.qm Ref.letters Z7;rw[zF (by omega)];rfl
   rw[h];generalize (s.data.toList.all λc=>Z7 c.toNat)=R at c;clear f h b;go_enter func51,ntmps51
   go_wp2_with (go_at_call 89;refine c.mono ?_;rintro e g ⟨rfl,d⟩)
   go_ret;exact⟨rfl,a.trans (d.mono a.size)⟩
  ·have k:decide ((s.size:Int)<=12)=false:=zH (by omega);rw[Ref.dN s (by omega)];go_enter func51,ntmps51
   go_wp2
   go_ret;exact⟨rfl,zi _ _⟩
 ·have i:decide ((0:Int)<(s.size:Int))=false:=zH (by omega);rw[Ref.dN s (by omega)];go_enter func51,ntmps51
  go_wp2
  go_ret;exact⟨rfl,zi _ _⟩
theorem below_drewN{B:Nat}{a w:World}(h:Below B a w):∀q,Below B a (w.drewN q)
 | 0=>h
 | q+1=>(below_drewN h q).drew
def Xz(w:World):Prop:=∃m,w.cell? ⟨4,0,none⟩=some (.int .i64 m)
theorem Xz.below{w a:World}(h:Xz w)(hb:Below w.heap.size w a):Xz a:=by
 obtain⟨m,b⟩:=h;exact⟨m,zh hb b⟩
theorem FX(u:BA)(w:World)(g:u.size<=1000)(a:Xz w) :
  Calls prog 230 #[.string u,.string ⟨#[125]⟩] w λe b=>(∃X,e = .returned (.tuple #[.string (Pg.Xa u),.string X,.bool (Pg.Q9 u)]))/\Below w.heap.size w b:=by
 obtain⟨m,a⟩:=a;have c:=Any.strings_Cut Tryz.lays145 u ⟨#[125]⟩ m w (by omega) a;obtain⟨d,f⟩:=Pg.FY u;refine c.mono ?_;rintro e b ⟨rfl,n,rfl⟩;refine⟨⟨⟨(Lib.cut u.data.toList [125]).2.1.toArray⟩,?_⟩,below_drewN (zi _ _) n⟩;rw[<- d,<- f]
theorem SA{a b:Int}{c d:BA}{c1 c2:Int}(e:a=b)(f:c=d)(g:c1=c2) :
  Ending.returned (.tuple #[.agg #[.int .i32 a,.string c],.int .i64 c1]) = .returned (.tuple #[.agg #[.int .i32 b,.string d],.int .i64 c2]):=by rw[e,f,g]
theorem RV(t:BA)(w:World)(I:t.size<=100)(C:Xz w) :
  Calls prog 196 #[.string t] w λe f=>
   e = .returned (.tuple #[.agg #[.int .i32 (Pg.Qv t).1,.string (Pg.Qv t).2.1],.int .i64 ((Pg.Qv t).2.2:Nat)])/\Below w.heap.size w f:=by
 by_cases h0:t.size=0
 ·have hd:Pg.Qv t=(0,⟨#[]⟩,0):=by unfold Pg.Qv;rw[zb h0]
  rw[hd]
  have r:t=⟨#[]⟩:=by
   have h:=h0;simp at h;exact h
  subst r;go_enter func196,ntmps196
  go_wp2
  exact qa (v := .tuple #[.agg #[.int .i32 0,.string ⟨#[]⟩],.int .i64 0]) (by simp[results,results196,go_sem]) rfl ⟨rfl,nB _ _⟩
 have D:(t.toList==([]:List UInt8))=false:=by
  rw[YP]
  cases h:t.data.toList with
  | nil=>exact absurd (by rw[Lib.size_eq,h];rfl) h0
  | cons _ _=>rfl
 have z:0<t.size:=by omega
 obtain⟨b,hb⟩:=Nm ((t[0]'z));have B:t.data.toList.getD 0 0=b:=by rw[Ref.getD_at t 0 z,hb]
 have hd:Pg.Qv t=Pg.Qv t:=rfl
 conv at hd=>rhs;unfold Pg.Qv
 rw[za h0,B] at hd;have y:=b.toNat_lt
 by_cases h3:b.toNat=36\/b.toNat=42\/b.toNat=63
 ·rw[zb h3] at hd;rw[hd];clear hd;have q:(b.toNat:Int)=36\/(b.toNat:Int)=42\/(b.toNat:Int)=63:=by omega
  clear h3
  rcases q with h|h|h
  all_goals
   go_enter func196,ntmps196
   go_wp2
   exact qa (v := .tuple #[.agg #[.int .i32 b.toNat,.string ⟨#[]⟩],.int .i64 2]) (by simp[results,results196,go_sem,h]) rfl ⟨rfl,nB _ _⟩
 rw[za h3] at hd;have J:((b.toNat:Int)==36)=false:=by rw[xh];omega
 have K:((b.toNat:Int)==42)=false:=by rw[xh];omega
 have L:((b.toNat:Int)==63)=false:=by rw[xh];omega
 clear h3
 by_cases h4:b.toNat=123
 ·have H:(b.toNat:Int)=123:=by omega
  rw[zb h4] at hd;clear h4;obtain⟨u,A⟩:=Nm (t.extract 1 t.size);rw[A] at hd;have G:u.size<=100:=by rw[<- A,jK];omega
  have F:(1:Int)<=(t.size:Int):=by omega
  have c:=λO=>FX u (w.alloc O) (by omega) (C.below (nB w O))
  cases hh:Pg.Q9 u with
  | false=>
   rw[hh,za (by decide)] at hd;rw[hh] at c;rw[hd];clear hd hh;go_enter func196,ntmps196
   go_wp2_with (go_at_call 230;refine (c _).mono ?_;rintro e f ⟨⟨X,rfl⟩,a⟩;obtain⟨l,x⟩:=y8 a)
   have o:w.heap.size<f.heap.size:=by have:=a.size;simp at this;omega
   have j:Below w.heap.size w f:=(nB w _).trans (a.mono (by simp));exact qa (v := .tuple #[.agg #[.int .i32 0,.string ⟨#[]⟩],.int .i64 0]) (by simp[results,results196,go_sem,l]) rfl ⟨rfl,(j.setCell (ze _) _).setCell (ze _) _⟩
  | true=>
   rw[hh,zb rfl] at hd;rw[hh] at c;obtain⟨nm,g⟩:=Nm (Pg.Xa u)
   have E:nm.size<=100:=by
    rw[<- g];unfold Pg.Xa;rw[hh,zb rfl,jK];omega
   rw[g] at hd c;have n:=λW=>Kb nm W (by unfold maxLen;omega)
   cases hi:Ref.qm nm with
   | true=>
    rw[hi,zb rfl] at hd;rw[hi] at n;rw[hd];clear hd hh hi g;go_enter func196,ntmps196
    go_wp2_with (first
     | (go_at_call 230;refine (c _).mono ?_;rintro e f ⟨⟨X,rfl⟩,a⟩;obtain⟨l,x⟩:=y8 a;have o:w.heap.size<f.heap.size:=by (have:=a.size;simp at this;omega))
     | (go_at_call 51;refine (n _).mono ?_;rintro e m ⟨rfl,d⟩;obtain⟨i,p⟩:=y8 d))
    have s:w.heap.size<m.heap.size:=by have:=d.size;omega
    have j:Below w.heap.size w f:=(nB w _).trans (a.mono (by simp));have k:Below w.heap.size w m:=j.trans (d.mono j.size);exact qa (v := .tuple #[.agg #[.int .i32 0,.string nm],.int .i64 (2+nm.size+1)]) (by simp[results,results196,go_sem,l,o,i]) rfl ⟨SA rfl rfl (by simp),(k.setCell (ze _) _).setCell (ze _) _⟩
   | false=>
    rw[hi,za (by decide)] at hd;rw[hi] at n;rw[hd];clear hd hh hi g;go_enter func196,ntmps196
    go_wp2_with (first
     | (go_at_call 230;refine (c _).mono ?_;rintro e f ⟨⟨X,rfl⟩,a⟩;obtain⟨l,x⟩:=y8 a;have o:w.heap.size<f.heap.size:=by (have:=a.size;simp at this;omega))
     | (go_at_call 51;refine (n _).mono ?_;rintro e m ⟨rfl,d⟩;obtain⟨i,p⟩:=y8 d))
    have s:w.heap.size<m.heap.size:=by have:=d.size;omega
    have j:Below w.heap.size w f:=(nB w _).trans (a.mono (by simp));have k:Below w.heap.size w m:=j.trans (d.mono j.size);exact qa (v := .tuple #[.agg #[.int .i32 0,.string ⟨#[]⟩],.int .i64 0]) (by simp[results,results196,go_sem,l,o,i]) rfl ⟨rfl,(k.setCell (ze _) _).setCell (ze _) _⟩
 ·have H:((b.toNat:Int)==123)=false:=by rw[xh];omega
  rw[za h4] at hd;rw[hd];clear hd h4;go_enter func196,ntmps196
  go_wp2
  exact qa (v := .tuple #[.agg #[.int .i32 0,.string ⟨#[]⟩],.int .i64 0]) (by simp[results,results196,go_sem]) rfl ⟨rfl,nB _ _⟩
def uZ(w:World):Prop:=Lib.Utf8Tabs 2 3 w
theorem uZ.below{w a:World}(h:uZ w)(hb:Below w.heap.size w a):uZ a:=Utf8Tabs_below h hb
theorem oF(s:BA)(w:World)(d:0<s.size)(a:uZ w)(c n:Nat)(hd:Utf8.decode s 0=(c,n)) :
  Calls prog 197 #[.string s] w λe b=>e = .returned (.tuple #[.int .i32 (c:Int),.int .i64 (n:Int)])/\Below w.heap.size w b:=by
 have c0:=Any.utf8_DecodeRuneInString Tryz.lays197 s w a;have e:Lib.decodeGo s=(c,n):=by unfold Lib.decodeGo;rw[za (by omega),hd]
 rw[e] at c0;exact c0
theorem AX(s:BA)(w:World)(g:0<s.size)(E:s.size<=100)(z:Xz w)(o:uZ w)(A:Int)(B:BA)(N:Nat)(d:Pg.Jh (Ref.yK s)=(A,B,N)) :
  Calls prog 157 #[.string s] w λe f=>
   e = .returned (.tuple #[.agg #[.int .i32 A,.string B],.int .i64 (N:Int)])/\Below w.heap.size w f:=by
 obtain⟨b,hb⟩:=Nm ((s[0]'g));have k:s.data.toList.getD 0 0=b:=by rw[Ref.getD_at s 0 g,hb]
 have p:=b.toNat_lt;have C:(0:Int)<(s.size:Int):=by omega
 have h:=λO=>nB w O
 by_cases h1:b.toNat=42
 ·have e:=Pg.Wv s g (by rw[k];exact h1);rw[d] at e;obtain⟨rfl,rfl,rfl⟩:A = -2/\B=⟨#[]⟩/\N=1:=by simpa using e
  have r:(b.toNat:Int)=42:=by omega
  clear h1 d e;go_enter func157,ntmps157
  go_wp2
  exact qa (v := .tuple #[.agg #[.int .i32 (-2),.string ⟨#[]⟩],.int .i64 1]) (by simp[results,results157,go_sem]) rfl ⟨rfl,nB _ _⟩
 have G:((b.toNat:Int)==42)=false:=by rw[xh];omega
 by_cases h2:b.toNat=63
 ·have e:=Pg.Wu s g (by rw[k];exact h2);rw[d] at e;obtain⟨rfl,rfl,rfl⟩:A = -1/\B=⟨#[]⟩/\N=1:=by simpa using e
  have r:(b.toNat:Int)=63:=by omega
  clear h1 h2 d e;go_enter func157,ntmps157
  go_wp2
  exact qa (v := .tuple #[.agg #[.int .i32 (-1),.string ⟨#[]⟩],.int .i64 1]) (by simp[results,results157,go_sem]) rfl ⟨rfl,nB _ _⟩
 have H:((b.toNat:Int)==63)=false:=by rw[xh];omega
 by_cases h3:b.toNat=36
 ·have e:=Pg.Wp s g (by rw[k];exact h3);rw[d] at e;have r:(b.toNat:Int)=36:=by omega
  obtain⟨u,q⟩:=Nm (s.extract 1 s.size);have m:u.size<=100:=by rw[<- q,jK];omega
  rw[q] at e;have c:=λO=>RV u (w.alloc O) m (z.below (h O));rw[<- e] at c;have D:(1:Int)<=(s.size:Int):=by omega
  clear h1 h2 h3 d e;go_enter func157,ntmps157
  go_wp2_with (go_at_call 196;refine (c _).mono ?_;rintro e f ⟨rfl,a⟩;obtain⟨i,l⟩:=y8 a)
  have j:Below w.heap.size w f:=(h _).trans (a.mono (by simp));exact qa (v := .tuple #[.agg #[.int .i32 A,.string B],.int .i64 N]) (by simp[results,results157,go_sem,i]) rfl ⟨rfl,(j.setCell (ze _) _).setCell (ze _) _⟩
 have I:((b.toNat:Int)==36)=false:=by rw[xh];omega
 rcases Pg.BG s g (by rw[k];exact h1) (by rw[k];exact h2) (by rw[k];exact h3) with ⟨hd,e⟩|⟨c,n,hc,hd,hn,hns,e⟩
 ·rw[d] at e;obtain⟨rfl,rfl,rfl⟩:A=0/\B=⟨#[]⟩/\N=0:=by simpa using e
  have c:=λO=>oF s (w.alloc O) g (o.below (h O)) _ _ hd;clear h1 h2 h3 d e hd;go_enter func157,ntmps157
  go_wp2_with (go_at_call 197;refine (c _).mono ?_;rintro e f ⟨rfl,a⟩;obtain⟨i,l⟩:=y8 a)
  have j:Below w.heap.size w f:=(h _).trans (a.mono (by simp));exact qa (v := .tuple #[.agg #[.int .i32 0,.string ⟨#[]⟩],.int .i64 0]) (by simp[results,results157,go_sem,i]) rfl ⟨rfl,(j.setCell (ze _) _).setCell (ze _) _⟩
 ·rw[d] at e;obtain⟨rfl,rfl,rfl⟩:A=(c:Int)/\B=⟨#[]⟩/\N=n:=by simpa using e
  have cd:=λO=>oF s (w.alloc O) g (o.below (h O)) _ _ hd;have x:(0:Int)<=(c:Int):=by omega
  have y:(c:Int)<=1114111:=by omega
  by_cases hcc:c=65533
  ·have t:(c:Int)=65533:=by omega
   have F:((N:Int)==1)=false:=by rw[xh];omega
   clear h1 h2 h3 d e hd hcc hn;go_enter func157,ntmps157
   go_wp2_with (go_at_call 197;refine (cd _).mono ?_;rintro e f ⟨rfl,a⟩;obtain⟨i,l⟩:=y8 a)
   have j:Below w.heap.size w f:=(h _).trans (a.mono (by simp));exact qa (v := .tuple #[.agg #[.int .i32 c,.string ⟨#[]⟩],.int .i64 N]) (by simp[results,results157,go_sem,i,t]) rfl ⟨rfl,(j.setCell (ze _) _).setCell (ze _) _⟩
  ·have t:((c:Int)==65533)=false:=by rw[xh];omega
   clear h1 h2 h3 d e hd hcc hn;go_enter func157,ntmps157
   go_wp2_with (go_at_call 197;refine (cd _).mono ?_;rintro e f ⟨rfl,a⟩;obtain⟨i,l⟩:=y8 a)
   have j:Below w.heap.size w f:=(h _).trans (a.mono (by simp));exact qa (v := .tuple #[.agg #[.int .i32 c,.string ⟨#[]⟩],.int .i64 N]) (by simp[results,results157,go_sem,i]) rfl ⟨rfl,(j.setCell (ze _) _).setCell (ze _) _⟩
namespace Pg
def jb(l:List (Int×BA)):List Value:=l.flatMap λp=>[.int .i32 (xz p),.string (nameOf p)]
theorem Ac(l:List (Int×BA))(p:Int×BA):jb (l++[p])=jb l++[.int .i32 (xz p),.string (nameOf p)]:=by
 unfold jb;simp
def Da(w:World)(P:Option (List (Int×BA)))(v x:Value)(b:World):Prop:=
 (P=none/\v = .slice none 0 0/\∃k:Int,x = .iface 216 (.agg #[.int .i64 k])) \/
 (∃a,P=some a/\x = .nilIface/\b.ownsRow w.heap.size 304 2 v a.length (jb a))
theorem IA(s:BA)(k n:Nat):(s.extract k s.size).extract n (s.extract k s.size).size=s.extract (k+n) s.size:=by
 rw[aa,jK];have e:min (k+(min s.size s.size-k)) s.size=s.size:=by omega
 rw[e]
end Pg
theorem Tryz.infoPgPart:(prog.info? 304).map (λi=>(i.zero,i.size,i.bytes))=some (some (.agg #[.int .i32 0,.string ⟨#[]⟩]),2,24):=by kernel_rfl
theorem OY(k:Int)(c:BA):∀u ∈ [Value.int .i32 k,Value.string c],u.oneCell'=true:=by
 intro u a;simp at a;rcases a with rfl|rfl<;>rfl
theorem AU(s:BA)(w:World)(hs:s.size<=maxLen)(W:Xz w)(U:uZ w) :
  Calls prog 117 #[.string s] w λe F=>∃v x,e = .returned (.tuple #[v,x])/\Below w.heap.size w F/\Pg.Da w (Ref.parts s) v x F:=by
 unfold maxLen at hs
 by_cases h60:60<s.size
 ·have G:Ref.parts s=none:=by unfold Ref.parts;rw[zb h60]
  rw[G];have hi:(60:Int)<(s.size:Int):=by omega
  go_enter func117,ntmps117
  go_wp2
  go_ret2;exact⟨_,_,rfl,zi _ _,.inl ⟨rfl,rfl,_,rfl⟩⟩
 obtain⟨i0,hi,Q,R,S⟩:=jl Tryz.infoPgPart;have a5:decide (60<(s.size:Int))=false:=zH (by omega);have G:Ref.parts s=(Ref.vK (s.size+1) s).map λr=>[]++r:=by unfold Ref.parts;rw[za (by omega)];simp
 generalize N:Ref.parts s=P at *;clear N;have T:Hid (P=(Ref.vK (s.size+1) s).map λr=>[]++r):=G;clear G;have X:s.size<=60:=by omega
 clear h60;go_enter func117,ntmps117
 go_wp2
 go_loopw [4,5] (λlv M wr=>∃(k f:Nat) (done:List (Int×BA)),M = .int .i64 k/\k<=s.size/\done.length<=k/\(s.extract k s.size).size<f/\P=((Ref.vK f (s.extract k s.size)).map λr=>done++r) /\
   wr.ownsRow w.heap.size 304 2 lv done.length (Pg.jb done)/\Below w.heap.size w wr) (λ_ M _=>s.size-(intOf M).toNat)
 case atStart=>
  refine⟨0,s.size+1,[],rfl,by omega,by simp,by rw[jK];omega,?_,jR _ _ _ _,zi _ _⟩;rw[T.out];simp
 case round=>
  obtain⟨k,f,done,rfl,hk,a1,H,p,g,a⟩:=hrel;obtain⟨t,Y⟩:=Nm (s.extract k s.size);have a6:t.size=s.size-k:=by rw[<- Y,jK];omega
  have d:=λn=>Pg.IA s k n;rw[Y] at p H d;have h:=hid p;have Z:=hid d;clear p T d;have E:=a.size
  by_cases hlt:k<s.size
  ·have C:0<t.size:=by omega
   have V:(k:Int)<(s.size:Int):=by omega
   cases hst:Ref.yK t with
   | none=>
    have i:=Ref.Rq P f t done C H h.out hst;subst i;have c:=AX t wr C (by omega) (W.below a) (U.below a) 0 ⟨#[]⟩ 0 (by rw[hst];rfl);clear hst
    go_wp2_with (go_at_call 157;refine c.mono ?_;rintro e F ⟨rfl,b⟩)
    go_ret2;exact⟨_,_,rfl,(a.trans (b.mono E)).alloc (by have:=b.size;omega) _,.inl ⟨rfl,rfl,_,rfl⟩⟩
   | some q=>
    obtain⟨m,u,n⟩:=q;obtain⟨f',B,o⟩:=Ref.Rn P f t done C H h.out m u n hst;have a3:=Ref.gL t C m u n hst;rw[Z.out n] at B o;have c:=AX t wr C (by omega) (W.below a) (U.below a) (Pg.xz (m,u)) (Pg.nameOf (m,u)) n (by rw[hst];rfl);have D:=Pg.Ac done (m,u);have L:=hid D;have J:=hid o;obtain⟨sg,A⟩:∃x,Pg.xz (m,u)=x:=⟨_,rfl⟩;obtain⟨nm,y⟩:∃x,Pg.nameOf (m,u)=x:=⟨_,rfl⟩;rw[A,y] at c;have K:=hid A;have I:=hid y;have a2:((n:Int)==0)=false:=by rw[xh];omega
    clear o hst h D A y
    go_wp2_with (first
     | (go_at_call 157;refine c.mono ?_;rintro e F ⟨rfl,b⟩)
     | (at_builtin;refine YF _ rfl _ _ 227 rfl w.heap.size 304 i0 (.agg #[.int .i32 0,.string ⟨#[]⟩]) 2 24 underlying227 hi Q R S rfl (by decide) _ done.length (Pg.jb done) rfl (((ownsRow_below g b).alloc _).alloc _) ⟨F.heap.size+1,0,none⟩ 1 1 [.int .i32 sg,.string nm] rfl rfl ?_ ?_ ?_ ?_ ?_ ?_))
    ·exact UR _ _ _ _ _ _ (by simp)
    ·exact OY _ _
    ·unfold maxLen;omega
    ·omega
    ·have:=b.size;simp;omega
    ·intro v' w1 l j _;have O:=nu (a.trans (b.mono E)) (ownsRow_below g b) _ _ j
     have z:w1.ownsRow w.heap.size 304 2 v' (done++[(m,u)]).length (Pg.jb (done++[(m,u)])):=by
      rw[L.out,K.out,I.out,qL];exact l
     clear l j g c b
     go_wp2
     go_roundw
     case rel=>exact⟨k+n,f',_,by go_num,by omega,by simp;omega,B,J.out,z,O⟩
     case measure=>simp[intOf];omega
  ·have i:=Ref.Rl P f t done (by omega) H h.out;subst i;clear h
   go_wp2
   go_ret2;exact⟨_,_,rfl,a,.inr ⟨_,rfl,rfl,g⟩⟩
end Go.Proofs.YtagnlbgbnfnapaaGreatDoor
