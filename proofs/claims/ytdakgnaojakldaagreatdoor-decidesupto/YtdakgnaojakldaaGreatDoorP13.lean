/- P -/
import Derived.Test.YtdakgnaojakldaaGreatDoorP03
import Derived.Laws.IdiomStrings
import Derived.Test.YtdakgnaojakldaaGreatDoorP12
open Go.Proofs.Tryz
set_option maxRecDepth 100000
set_option maxHeartbeats 1000000
namespace Go.Proofs.YtdakgnaojakldaaGreatDoor
open Go.RowKit
def QT(m:BY×BY):Value := .agg #[.string m.1,.string m.2]
def Zc(ms:List (BY×BY))(j:Nat):BY×BY:=ms.getD j (⟨#[]⟩,⟨#[]⟩)
theorem Ju(ms:List (BY×BY))(j:Nat)(h:j<ms.length):Zc ms j=ms[j]:=by
 unfold Zc;rw[zQ,zm h];rfl
theorem rO(ms:List (BY×BY))(ao:Option Addr)(cap g:Nat)(t:Array Value)(p:Nat->Bool)(w:World)(A:ms.length<=100000000000)(y:∀args w,(callFunc g args).run prog w = .ok (.enter g args) w)
  (v:qQ w ao ms)(x:vI g t (λj=>QT (Zc ms j)) ms.length p w) :
  Calls prog 188 #[.slice ao ms.length cap,.func (.func g) #[] t] w λe w'=>
   e = .returned (.tuple #[.int .i64 (((zx p ms.length).getD 0:Nat):Int),.bool (zx p ms.length).isSome])/\Below w.heap.size w w':=by
 generalize hF:zx p ms.length=F;have s:=hid hF;clear hF;go_enter func188,ntmps188
 go_wp2
 go_loopw [10] (λi wr=>∃k:Nat,k<=ms.length/\i = .int .i64 k/\(∀j,j<k->p j=false)/\Below w.heap.size w wr) (λi _=>ms.length-(intOf i).toNat)
 case atStart=>exact⟨0,zH _,rfl,λj h=>by omega,ze _ _⟩
 case round=>
  obtain⟨k,z,rfl,hb,m⟩:=hrel;have q:=hid hb;clear hb
  by_cases hlt:k<ms.length
  ·rcases v with rfl|⟨b,o,rfl,hc⟩
   ·simp at hlt
   have a:=λW hb=>x W k hlt hb;simp only[Ju ms k hlt,QT] at a;obtain⟨r,q2⟩:=hc k hlt;obtain⟨B,f⟩:∃n,ms[k].1=n:=⟨_,rfl⟩;obtain⟨E,l⟩:∃n,ms[k].2=n:=⟨_,rfl⟩;rw[f] at r a;rw[l] at q2 a;have C:=zh m r;have D:=zh m q2;clear f l hc r q2;have c:=λO=>m.trans (nbl wr O |>.mono m.size)
   cases hpp:p k with
   | false=>
    rw[hpp] at a;have u:=hid hpp;clear hpp
    go_wp2_with (go_at_fn g;refine (a _ (c _)).mono ?_;rintro e w' ⟨rfl,d⟩)
    refine⟨⟨k+1,by omega,by go_num,λj h=>?_,(c _).trans (d.mono (c _).size)⟩,by simp[intOf];omega⟩
    by_cases hj:j=k
    ·subst hj;exact u.out
    ·exact q.out j (by omega)
   | true=>
    rw[hpp] at a;have e:=QO p ms.length k hlt q.out hpp;rw[s.out] at e;subst e;clear hpp
    go_wp2_with (go_at_fn g;refine (a _ (c _)).mono ?_;rintro e w' ⟨rfl,d⟩)
    go_ret2;exact⟨rfl,(c _).trans (d.mono (c _).size)⟩
  ·have e:=QP p ms.length (λj h=>q.out j (by omega));rw[s.out] at e;subst e
   go_wp2
   go_ret2;exact⟨rfl,m⟩
theorem EJ(ms:List (BY×BY))(ao:Option Addr)(cap g:Nat)(b:Array Value)(p:Nat->Bool)(w:World)(h:ms.length<=100000000000)(d:∀args w,(callFunc g args).run prog w = .ok (.enter g args) w)
  (f:qQ w ao ms)(i:vI g b (λj=>QT (Zc ms j)) ms.length p w) :
  Calls prog 140 #[.slice ao ms.length cap,.func (.func g) #[] b] w λe w'=>
   e = .returned (.bool (zx p ms.length).isSome)/\Below w.heap.size w w':=by
 have c:=rO ms ao cap g b p w h d f i;generalize zx p ms.length=F at c;go_enter func140,ntmps140
 go_wp2_with (go_at_call 188;refine c.mono ?_;rintro e w' ⟨rfl,a⟩)
 go_ret;exact⟨rfl,a⟩
theorem Er(g:Nat)(f:Array Value)(m:BY×BY)(B:Nat)(y:Bool)(w:World)(j:∀args w,(callFunc g args).run prog w = .ok (.enter g args) w)
  (h:w.cell? ⟨B,0,none⟩=some (.func (.func g) #[] f))(d:∀W,Below w.heap.size w W->Calls prog g (#[QT m]++f) W λe w'=>e = .returned (.bool y)/\Below W.heap.size W w') :
  Calls prog 141 #[QT m,.pointer (some ⟨B,0,none⟩)] w λe w'=>e = .returned (.bool (!y))/\Below w.heap.size w w':=by
 obtain⟨a,v⟩:=m;unfold QT at d |-;simp only at d |-;have i:=λO:Obj=>zh (nbl w O) h;have b:=λO:Obj=>nbl w O;go_enter func141,ntmps141
 go_wp2_with (go_at_fn g;refine (d _ (b _)).mono ?_;rintro e w' ⟨rfl,c⟩)
 go_ret;exact⟨rfl,(b _).trans (c.mono (b _).size)⟩
theorem Ep(ms:List (BY×BY))(ao:Option Addr)(cap g:Nat)(a:Array Value)(p:Nat->Bool)(w:World)(m:ms.length<=100000000000)(h:∀args w,(callFunc g args).run prog w = .ok (.enter g args) w)
  (l:qQ w ao ms)(n:vI g a (λj=>QT (Zc ms j)) ms.length p w) :
  Calls prog 87 #[.slice ao ms.length cap,.func (.func g) #[] a] w λe w'=>
   e = .returned (.bool (uT p ms.length))/\Below w.heap.size w w':=by
 have f:∀args w,(callFunc 141 args).run prog w = .ok (.enter 141 args) w:=enters_of func141 (by kernel_rfl) rfl
 have c:=EJ ms ao cap 141 #[.pointer (some ⟨w.heap.size,0,none⟩)] (λj=>!p j) (w.alloc (.cells #[.func (.func g) #[] a] 191)) m f
  (xB l (nbl w _))
  (λW j k hb=>by
    refine Er g a (Zc ms j) w.heap.size (p j) W h ?_ (λd i=>n d j k (((nbl w _).trans (hb.mono (by simp))).trans (i.mono (by have:=hb.size;simp at this;omega))));exact zh hb (by simp))
 rw[Kq];generalize zx (λj=>!p j) ms.length=F at c;go_enter func87,ntmps87
 go_wp2_with (go_at_call 140;refine c.mono ?_;rintro e w' ⟨rfl,b⟩)
 go_ret;exact⟨rfl,(nbl w _).trans (b.mono (by simp))⟩
def Qo(c:Nat):Bool:=decide (97<=c/\c<=122)
theorem Pd(c:Nat)(w:World)(d:c<256) :
  Calls prog 133 #[.int .u8 (c:Int)] w λe w'=>e = .returned (.bool (Qo c))/\w'=w:=by
 by_cases h1:97<=c
 ·have a:decide ((97:Int)<=(c:Int))=true:=zy (by omega)
  by_cases h2:c<=122
  ·have b:decide ((c:Int)<=122)=true:=zy (by omega);have e:Qo c=true:=by unfold Qo;simp;omega
   rw[e];go_enter func133,ntmps133
   go_wp2
   go_ret;exact⟨rfl,rfl⟩
  ·have b:decide ((c:Int)<=122)=false:=zJ (by omega);have e:Qo c=false:=by unfold Qo;simp;omega
   rw[e];go_enter func133,ntmps133
   go_wp2
   go_ret;exact⟨rfl,rfl⟩
 ·have a:decide ((97:Int)<=(c:Int))=false:=zJ (by omega);have e:Qo c=false:=by unfold Qo;simp;omega
  rw[e];go_enter func133,ntmps133
  go_wp2
  go_ret;exact⟨rfl,rfl⟩
theorem mD(l:List UInt8)(f:Nat->Bool):uT (λj=>f (l.getD j 0).toNat) l.length=l.all λc=>f c.toNat:=by
 unfold uT;rw[kL,ZM,ZM]
 constructor
 ·intro h c d;obtain⟨j,b,rfl⟩:=bR.1 d
  have:=h j (jW.2 b)
  rwa [zQ,zm b] at this
 ·intro h j b;have a:=jW.1 b;rw[zQ,zm a];exact h _ (qA a)
theorem dE(s:BY)(w:World):∃C O,(convert 9 256 (.string s)).run prog w = .ok (.slice (some ⟨w.heap.size,0,none⟩) s.size C) (w.alloc O).drew
  /\ ∀j,j<s.size->(w.alloc O).drew.cell? ⟨w.heap.size,0+j,none⟩=some (.int .u8 (((s.data.toList.getD j 0).toNat:Nat):Int)):=by
 refine⟨_,_,run_bytes_of_string w _ _ _ s underlying9 underlying256 underlying5,λj a=>?_⟩;show (w.alloc _).cell? _=_;rw[qN,World.cell?_alloc_mark];rw[bytesRow_at s _ j a,Ref.getD_at s j a]
 rfl
theorem KT(s:BY)(w:World)(m:s.size<=maxLen) :
  Calls prog 82 #[.string s] w λe w'=>e = .returned (.bool (Ref.zX s))/\Below w.heap.size w w':=by
 unfold maxLen at m
 by_cases h1:1<=s.size
 ·have h:decide ((0:Int)<(s.size:Int))=true:=zy (by omega)
  by_cases h2:s.size<=12
  ·have i:decide ((s.size:Int)<=12)=true:=zy (by omega);obtain⟨C,O,k,b⟩:=dE s w;have a:Below w.heap.size w (w.alloc O).drew:=(nbl w _).drew
   have c:=mG s.size w.heap.size 0 C 133 #[] (λj=>(((s.data.toList.getD j 0).toNat:Nat):Int)) (λj=>Qo (s.data.toList.getD j 0).toNat) _ (by omega)
    (enters_of func133 (by kernel_rfl) rfl) b
    (λW j _ _=>(Pd _ W (UInt8.toNat_lt _)).mono λe w' ⟨l,n⟩=>⟨l,n ▸ ze _ _⟩)
   have f:=mD s.data.toList Qo;rw[Ref.zD] at f;rw[f] at c
   have g:Ref.zX s=s.data.toList.all λc=>Qo c.toNat:=by
    unfold Ref.zX Ref.letters Qo;rw[zy (by omega)];rfl
   rw[g];generalize (s.data.toList.all λc=>Qo c.toNat)=R at c;clear f g b;go_enter func82,ntmps82
   go_wp2_with (go_at_call 132;refine c.mono ?_;rintro e w' ⟨rfl,d⟩)
   go_ret;exact⟨rfl,a.trans (d.mono a.size)⟩
  ·have i:decide ((s.size:Int)<=12)=false:=zJ (by omega);rw[Ref.Uw s (by omega)];go_enter func82,ntmps82
   go_wp2
   go_ret;exact⟨rfl,ze _ _⟩
 ·have h:decide ((0:Int)<(s.size:Int))=false:=zJ (by omega);rw[Ref.Uw s (by omega)];go_enter func82,ntmps82
  go_wp2
  go_ret;exact⟨rfl,ze _ _⟩
theorem below_drewN{B:Nat}{a w:World}(h:Below B a w):∀q,Below B a (w.drewN q)
 | 0=>h
 | q+1=>(below_drewN h q).drew
def XU(w:World):Prop:=∃m,w.cell? ⟨4,0,none⟩=some (.int .i64 m)
theorem XU.below{w w':World}(h:XU w)(hb:Below w.heap.size w w'):XU w':=by
 obtain⟨m,a⟩:=h;exact⟨m,zh hb a⟩
theorem Io(u:BY)(w:World)(f:u.size<=1000)(a:XU w) :
  Calls prog 252 #[.string u,.string ⟨#[125]⟩] w λe w'=>(∃X,e = .returned (.tuple #[.string (Pg.Xo u),.string X,.bool (Pg.Xn u)]))/\Below w.heap.size w w':=by
 obtain⟨m,a⟩:=a;have c:=Any.strings_Cut Tryz.lays145 u ⟨#[125]⟩ m w (by omega) a;obtain⟨b,d⟩:=Pg.Ip u;refine c.mono ?_;rintro e w' ⟨rfl,n,rfl⟩;refine⟨⟨⟨(Lib.cut u.data.toList [125]).2.1.toArray⟩,?_⟩,below_drewN (ze _ _) n⟩;rw[<- b,<- d]
theorem zaz{a b:Int}{c d:BY}{c1 c2:Int}(e:a=b)(f:c=d)(g:c1=c2) :
  Ending.returned (.tuple #[.agg #[.int .i32 a,.string c],.int .i64 c1]) = .returned (.tuple #[.agg #[.int .i32 b,.string d],.int .i64 c2]):=by rw[e,f,g]
theorem zaf(t:BY)(w:World)(I:t.size<=100)(C:XU w) :
  Calls prog 236 #[.string t] w λe w'=>
   e = .returned (.tuple #[.agg #[.int .i32 (Pg.QJ t).1,.string (Pg.QJ t).2.1],.int .i64 ((Pg.QJ t).2.2:Nat)])/\Below w.heap.size w w':=by
 by_cases h0:t.size=0
 ·have a:Pg.QJ t=(0,⟨#[]⟩,0):=by unfold Pg.QJ;rw[zb h0]
  rw[a]
  have r:t=⟨#[]⟩:=by
   have h:=h0;simp at h;exact h
  subst r;go_enter func236,ntmps236
  go_wp2
  exact zA (v := .tuple #[.agg #[.int .i32 0,.string ⟨#[]⟩],.int .i64 0]) (by simp[results,results236,go_sem]) rfl ⟨rfl,nbl _ _⟩
 have D:(t.toList==([]:List UInt8))=false:=by
  rw[Lib.toList_data]
  cases h:t.data.toList with
  | nil=>exact absurd (by rw[Lib.size_eq,h];rfl) h0
  | cons _ _=>rfl
 have z:0<t.size:=by omega
 obtain⟨b,hb⟩:=Nm ((t[0]'z));have B:t.data.toList.getD 0 0=b:=by rw[Ref.getD_at t 0 z,hb]
 have a:Pg.QJ t=Pg.QJ t:=rfl
 conv at a=>rhs;unfold Pg.QJ
 rw[za h0,B] at a;have y:=b.toNat_lt
 by_cases h3:b.toNat=36\/b.toNat=42\/b.toNat=63
 ·rw[zb h3] at a;rw[a];clear a;have q:(b.toNat:Int)=36\/(b.toNat:Int)=42\/(b.toNat:Int)=63:=by omega
  clear h3
  rcases q with h|h|h
  all_goals
   go_enter func236,ntmps236
   go_wp2
   exact zA (v := .tuple #[.agg #[.int .i32 b.toNat,.string ⟨#[]⟩],.int .i64 2]) (by simp[results,results236,go_sem,h]) rfl ⟨rfl,nbl _ _⟩
 rw[za h3] at a;have J:((b.toNat:Int)==36)=false:=by rw[qP];omega
 have K:((b.toNat:Int)==42)=false:=by rw[qP];omega
 have L:((b.toNat:Int)==63)=false:=by rw[qP];omega
 clear h3
 by_cases h4:b.toNat=123
 ·have H:(b.toNat:Int)=123:=by omega
  rw[zb h4] at a;clear h4;obtain⟨u,A⟩:=Nm (t.extract 1 t.size);rw[A] at a;have G:u.size<=100:=by rw[<- A,yz];omega
  have F:(1:Int)<=(t.size:Int):=by omega
  have c:=λO=>Io u (w.alloc O) (by omega) (C.below (nbl w O))
  cases hh:Pg.Xn u with
  | false=>
   rw[hh,za (by decide)] at a;rw[hh] at c;rw[a];clear a hh;go_enter func236,ntmps236
   go_wp2_with (go_at_call 252;refine (c _).mono ?_;rintro e w' ⟨⟨X,rfl⟩,d⟩;obtain⟨l,x⟩:=yN d)
   have o:w.heap.size<w'.heap.size:=by have:=d.size;simp at this;omega
   have j:Below w.heap.size w w':=(nbl w _).trans (d.mono (by simp));exact zA (v := .tuple #[.agg #[.int .i32 0,.string ⟨#[]⟩],.int .i64 0]) (by simp[results,results236,go_sem,l]) rfl ⟨rfl,(j.setCell (zf _) _).setCell (zf _) _⟩
  | true=>
   rw[hh,zb rfl] at a;rw[hh] at c;obtain⟨nm,g⟩:=Nm (Pg.Xo u)
   have E:nm.size<=100:=by
    rw[<- g];unfold Pg.Xo;rw[hh,zb rfl,yz];omega
   rw[g] at a c;have n:=λW=>KT nm W (by unfold maxLen;omega)
   cases hi:Ref.zX nm with
   | true=>
    rw[hi,zb rfl] at a;rw[hi] at n;rw[a];clear a hh hi g;go_enter func236,ntmps236
    go_wp2_with (first
     | (go_at_call 252;refine (c _).mono ?_;rintro e w' ⟨⟨X,rfl⟩,d⟩;obtain⟨l,x⟩:=yN d;have o:w.heap.size<w'.heap.size:=by (have:=d.size;simp at this;omega))
     | (go_at_call 82;refine (n _).mono ?_;rintro e m ⟨rfl,f⟩;obtain⟨i,p⟩:=yN f))
    have s:w.heap.size<m.heap.size:=by have:=f.size;omega
    have j:Below w.heap.size w w':=(nbl w _).trans (d.mono (by simp));have k:Below w.heap.size w m:=j.trans (f.mono j.size);exact zA (v := .tuple #[.agg #[.int .i32 0,.string nm],.int .i64 (2+nm.size+1)]) (by simp[results,results236,go_sem,l,o,i]) rfl ⟨zaz rfl rfl (by simp),(k.setCell (zf _) _).setCell (zf _) _⟩
   | false=>
    rw[hi,za (by decide)] at a;rw[hi] at n;rw[a];clear a hh hi g;go_enter func236,ntmps236
    go_wp2_with (first
     | (go_at_call 252;refine (c _).mono ?_;rintro e w' ⟨⟨X,rfl⟩,d⟩;obtain⟨l,x⟩:=yN d;have o:w.heap.size<w'.heap.size:=by (have:=d.size;simp at this;omega))
     | (go_at_call 82;refine (n _).mono ?_;rintro e m ⟨rfl,f⟩;obtain⟨i,p⟩:=yN f))
    have s:w.heap.size<m.heap.size:=by have:=f.size;omega
    have j:Below w.heap.size w w':=(nbl w _).trans (d.mono (by simp));have k:Below w.heap.size w m:=j.trans (f.mono j.size);exact zA (v := .tuple #[.agg #[.int .i32 0,.string ⟨#[]⟩],.int .i64 0]) (by simp[results,results236,go_sem,l,o,i]) rfl ⟨rfl,(k.setCell (zf _) _).setCell (zf _) _⟩
 ·have H:((b.toNat:Int)==123)=false:=by rw[qP];omega
  rw[za h4] at a;rw[a];clear a h4;go_enter func236,ntmps236
  go_wp2
  exact zA (v := .tuple #[.agg #[.int .i32 0,.string ⟨#[]⟩],.int .i64 0]) (by simp[results,results236,go_sem]) rfl ⟨rfl,nbl _ _⟩
def kW(w:World):Prop:=Lib.Utf8Tabs 2 3 w
theorem kW.below{w w':World}(h:kW w)(hb:Below w.heap.size w w'):kW w':=Utf8Tabs_below h hb
theorem pg(s:BY)(w:World)(d:0<s.size)(a:kW w)(c n:Nat)(b:Utf8.decode s 0=(c,n)) :
  Calls prog 237 #[.string s] w λe w'=>e = .returned (.tuple #[.int .i32 (c:Int),.int .i64 (n:Int)])/\Below w.heap.size w w':=by
 have c0:=Any.utf8_DecodeRuneInString Tryz.lays197 s w a;have e:Lib.decodeGo s=(c,n):=by unfold Lib.decodeGo;rw[za (by omega),b]
 rw[e] at c0;exact c0
theorem BH(s:BY)(w:World)(f:0<s.size)(C:s.size<=100)(x:XU w)(l:kW w)(A:Int)(B:BY)(N:Nat)(d:Pg.JC (Ref.qZ s)=(A,B,N)) :
  Calls prog 212 #[.string s] w λe w'=>
   e = .returned (.tuple #[.agg #[.int .i32 A,.string B],.int .i64 (N:Int)])/\Below w.heap.size w w':=by
 obtain⟨b,hb⟩:=Nm ((s[0]'f));have i:s.data.toList.getD 0 0=b:=by rw[Ref.getD_at s 0 f,hb]
 have m:=b.toNat_lt;have y:(0:Int)<(s.size:Int):=by omega
 have b0:=λO=>nbl w O
 by_cases h1:b.toNat=42
 ·have e:=Pg.zbJ s f (by rw[i];exact h1);rw[d] at e;obtain⟨rfl,rfl,rfl⟩:A = -2/\B=⟨#[]⟩/\N=1:=by simpa using e
  have p:(b.toNat:Int)=42:=by omega
  clear h1 d e;go_enter func212,ntmps212
  go_wp2
  exact zA (v := .tuple #[.agg #[.int .i32 (-2),.string ⟨#[]⟩],.int .i64 1]) (by simp[results,results212,go_sem]) rfl ⟨rfl,nbl _ _⟩
 have E:((b.toNat:Int)==42)=false:=by rw[qP];omega
 by_cases h2:b.toNat=63
 ·have e:=Pg.zbI s f (by rw[i];exact h2);rw[d] at e;obtain⟨rfl,rfl,rfl⟩:A = -1/\B=⟨#[]⟩/\N=1:=by simpa using e
  have p:(b.toNat:Int)=63:=by omega
  clear h1 h2 d e;go_enter func212,ntmps212
  go_wp2
  exact zA (v := .tuple #[.agg #[.int .i32 (-1),.string ⟨#[]⟩],.int .i64 1]) (by simp[results,results212,go_sem]) rfl ⟨rfl,nbl _ _⟩
 have F:((b.toNat:Int)==63)=false:=by rw[qP];omega
 by_cases h3:b.toNat=36
 ·have e:=Pg.zbE s f (by rw[i];exact h3);rw[d] at e;have p:(b.toNat:Int)=36:=by omega
  obtain⟨u,o⟩:=Nm (s.extract 1 s.size);have k:u.size<=100:=by rw[<- o,yz];omega
  rw[o] at e;have c:=λO=>zaf u (w.alloc O) k (x.below (b0 O));rw[<- e] at c;have z:(1:Int)<=(s.size:Int):=by omega
  clear h1 h2 h3 d e;go_enter func212,ntmps212
  go_wp2_with (go_at_call 236;refine (c _).mono ?_;rintro e w' ⟨rfl,a⟩;obtain⟨g,j⟩:=yN a)
  have h:Below w.heap.size w w':=(b0 _).trans (a.mono (by simp));exact zA (v := .tuple #[.agg #[.int .i32 A,.string B],.int .i64 N]) (by simp[results,results212,go_sem,g]) rfl ⟨rfl,(h.setCell (zf _) _).setCell (zf _) _⟩
 have G:((b.toNat:Int)==36)=false:=by rw[qP];omega
 rcases Pg.iL s f (by rw[i];exact h1) (by rw[i];exact h2) (by rw[i];exact h3) with ⟨hd,e⟩|⟨c,n,hc,hd,hn,hns,e⟩
 ·rw[d] at e;obtain⟨rfl,rfl,rfl⟩:A=0/\B=⟨#[]⟩/\N=0:=by simpa using e
  have c:=λO=>pg s (w.alloc O) f (l.below (b0 O)) _ _ hd;clear h1 h2 h3 d e hd;go_enter func212,ntmps212
  go_wp2_with (go_at_call 237;refine (c _).mono ?_;rintro e w' ⟨rfl,a⟩;obtain⟨g,j⟩:=yN a)
  have h:Below w.heap.size w w':=(b0 _).trans (a.mono (by simp));exact zA (v := .tuple #[.agg #[.int .i32 0,.string ⟨#[]⟩],.int .i64 0]) (by simp[results,results212,go_sem,g]) rfl ⟨rfl,(h.setCell (zf _) _).setCell (zf _) _⟩
 ·rw[d] at e;obtain⟨rfl,rfl,rfl⟩:A=(c:Int)/\B=⟨#[]⟩/\N=n:=by simpa using e
  have cd:=λO=>pg s (w.alloc O) f (l.below (b0 O)) _ _ hd;have r:(0:Int)<=(c:Int):=by omega
  have t:(c:Int)<=1114111:=by omega
  by_cases hcc:c=65533
  ·have q:(c:Int)=65533:=by omega
   have D:((N:Int)==1)=false:=by rw[qP];omega
   clear h1 h2 h3 d e hd hcc hn;go_enter func212,ntmps212
   go_wp2_with (go_at_call 237;refine (cd _).mono ?_;rintro e w' ⟨rfl,a⟩;obtain⟨g,j⟩:=yN a)
   have h:Below w.heap.size w w':=(b0 _).trans (a.mono (by simp));exact zA (v := .tuple #[.agg #[.int .i32 c,.string ⟨#[]⟩],.int .i64 N]) (by simp[results,results212,go_sem,g,q]) rfl ⟨rfl,(h.setCell (zf _) _).setCell (zf _) _⟩
  ·have q:((c:Int)==65533)=false:=by rw[qP];omega
   clear h1 h2 h3 d e hd hcc hn;go_enter func212,ntmps212
   go_wp2_with (go_at_call 237;refine (cd _).mono ?_;rintro e w' ⟨rfl,a⟩;obtain⟨g,j⟩:=yN a)
   have h:Below w.heap.size w w':=(b0 _).trans (a.mono (by simp));exact zA (v := .tuple #[.agg #[.int .i32 c,.string ⟨#[]⟩],.int .i64 N]) (by simp[results,results212,go_sem,g]) rfl ⟨rfl,(h.setCell (zf _) _).setCell (zf _) _⟩
namespace Pg
def qK(l:List (Int×BY)):List Value:=l.flatMap λp=>[.int .i32 (xq p),.string (nameOf p)]
theorem YR(l:List (Int×BY))(p:Int×BY):qK (l++[p])=qK l++[.int .i32 (xq p),.string (nameOf p)]:=by
 unfold qK;simp
def DT(w:World)(P:Option (List (Int×BY)))(v x:Value)(w':World):Prop:=
 (P=none/\v = .slice none 0 0/\∃k:Int,x = .iface 228 (.agg #[.int .i64 k])) \/
 (∃a,P=some a/\x = .nilIface/\w'.ownsRow w.heap.size 358 2 v a.length (qK a))
theorem ML(s:BY)(k n:Nat):(s.extract k s.size).extract n (s.extract k s.size).size=s.extract (k+n) s.size:=by
 rw[bG,yz];have e:min (k+(min s.size s.size-k)) s.size=s.size:=by omega
 rw[e]
end Pg
theorem Tryz.infoPgPart:(prog.info? 358).map (λi=>(i.zero,i.size,i.bytes))=some (some (.agg #[.int .i32 0,.string ⟨#[]⟩]),2,24):=by kernel_rfl
theorem TD(k:Int)(c:BY):∀u ∈ [Value.int .i32 k,Value.string c],u.oneCell'=true:=by
 intro u a;simp at a;rcases a with rfl|rfl<;>rfl
theorem BG(s:BY)(w:World)(hs:s.size<=maxLen)(V:XU w)(T:kW w) :
  Calls prog 173 #[.string s] w λe w'=>∃v x,e = .returned (.tuple #[v,x])/\Below w.heap.size w w'/\Pg.DT w (Ref.parts s) v x w':=by
 unfold maxLen at hs
 by_cases h60:60<s.size
 ·have F:Ref.parts s=none:=by unfold Ref.parts;rw[zb h60]
  rw[F];have hi:(60:Int)<(s.size:Int):=by omega
  go_enter func173,ntmps173
  go_wp2
  go_ret2;exact⟨_,_,rfl,ze _ _,.inl ⟨rfl,rfl,_,rfl⟩⟩
 obtain⟨i0,hi,O,Q,R⟩:=xA Tryz.infoPgPart;have a4:decide (60<(s.size:Int))=false:=zJ (by omega);have F:Ref.parts s=(Ref.jA (s.size+1) s).map λr=>[]++r:=by unfold Ref.parts;rw[za (by omega)];simp
 generalize M:Ref.parts s=P at *;clear M;have S:Hid (P=(Ref.jA (s.size+1) s).map λr=>[]++r):=F;clear F;have W:s.size<=60:=by omega
 clear h60;go_enter func173,ntmps173
 go_wp2
 go_loopw [4,5] (λlv L wr=>∃(k f:Nat) (done:List (Int×BY)),L = .int .i64 k/\k<=s.size/\done.length<=k/\(s.extract k s.size).size<f/\P=((Ref.jA f (s.extract k s.size)).map λr=>done++r) /\
   wr.ownsRow w.heap.size 358 2 lv done.length (Pg.qK done)/\Below w.heap.size w wr) (λ_ L _=>s.size-(intOf L).toNat)
 case atStart=>
  refine⟨0,s.size+1,[],rfl,by omega,by simp,by rw[yz];omega,?_,ql _ _ _ _,ze _ _⟩;rw[S.out];simp
 case round=>
  obtain⟨k,f,done,rfl,hk,a0,G,p,g,a⟩:=hrel;obtain⟨t,X⟩:=Nm (s.extract k s.size);have a5:t.size=s.size-k:=by rw[<- X,yz];omega
  have d:=λn=>Pg.ML s k n;rw[X] at p G d;have h:=hid p;have Y:=hid d;clear p S d;have E:=a.size
  by_cases hlt:k<s.size
  ·have C:0<t.size:=by omega
   have U:(k:Int)<(s.size:Int):=by omega
   cases hst:Ref.qZ t with
   | none=>
    have i:=Ref.gY P f t done C G h.out hst;subst i;have c:=BH t wr C (by omega) (V.below a) (T.below a) 0 ⟨#[]⟩ 0 (by rw[hst];rfl);clear hst
    go_wp2_with (go_at_call 212;refine c.mono ?_;rintro e w' ⟨rfl,b⟩)
    go_ret2;exact⟨_,_,rfl,(a.trans (b.mono E)).alloc (by have:=b.size;omega) _,.inl ⟨rfl,rfl,_,rfl⟩⟩
   | some q=>
    obtain⟨m,u,n⟩:=q;obtain⟨Z,B,o⟩:=Ref.UJ P f t done C G h.out m u n hst;have a2:=Ref.gV t C m u n hst;rw[Y.out n] at B o;have c:=BH t wr C (by omega) (V.below a) (T.below a) (Pg.xq (m,u)) (Pg.nameOf (m,u)) n (by rw[hst];rfl);have D:=Pg.YR done (m,u);have K:=hid D;have I:=hid o;obtain⟨sg,A⟩:∃x,Pg.xq (m,u)=x:=⟨_,rfl⟩;obtain⟨nm,y⟩:∃x,Pg.nameOf (m,u)=x:=⟨_,rfl⟩;rw[A,y] at c;have J:=hid A;have H:=hid y;have a1:((n:Int)==0)=false:=by rw[qP];omega
    clear o hst h D A y
    go_wp2_with (first
     | (go_at_call 212;refine c.mono ?_;rintro e w' ⟨rfl,b⟩)
     | (at_builtin;refine vS _ rfl _ _ 307 rfl w.heap.size 358 i0 (.agg #[.int .i32 0,.string ⟨#[]⟩]) 2 24 underlying307 hi O Q R rfl (by decide) _ done.length (Pg.qK done) rfl (((ownsRow_below g b).alloc _).alloc _) ⟨w'.heap.size+1,0,none⟩ 1 1 [.int .i32 sg,.string nm] rfl rfl ?_ ?_ ?_ ?_ ?_ ?_))
    ·exact Ji _ _ _ _ _ _ (by simp)
    ·exact TD _ _
    ·unfold maxLen;omega
    ·omega
    ·have:=b.size;simp;omega
    ·intro v' w1 l j _;have N:=Ua (a.trans (b.mono E)) (ownsRow_below g b) _ _ j
     have z:w1.ownsRow w.heap.size 358 2 v' (done++[(m,u)]).length (Pg.qK (done++[(m,u)])):=by
      rw[K.out,J.out,H.out,qB];exact l
     clear l j g c b
     go_wp2
     go_roundw
     case rel=>exact⟨k+n,Z,_,by go_num,by omega,by simp;omega,B,I.out,z,N⟩
     case measure=>simp[intOf];omega
  ·have i:=Ref.Be P f t done (by omega) G h.out;subst i;clear h
   go_wp2
   go_ret2;exact⟨_,_,rfl,a,.inr ⟨_,rfl,rfl,g⟩⟩
end Go.Proofs.YtdakgnaojakldaaGreatDoor
