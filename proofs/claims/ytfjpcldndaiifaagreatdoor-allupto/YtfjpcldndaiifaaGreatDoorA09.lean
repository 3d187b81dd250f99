/- P -/
import Derived.Test.YtfjpcldndaiifaaGreatDoorA08
import Derived.Test.YtfjpcldndaiifaaGreatDoorA07
open Go.Proofs.Tryz
set_option maxRecDepth 100000
set_option maxHeartbeats 1000000
namespace Go.Proofs.YtfjpcldndaiifaaGreatDoor
open Go.RowKit
def Xv(m:BY×BY):Y := .agg #[S9 m.1,S9 m.2]
def Zf(ms:List (BY×BY))(j:Nat):BY×BY:=ms.getD j (⟨#[]⟩,⟨#[]⟩)
theorem Jt(ms:List (BY×BY))(j:Nat)(h:j<ms.length):Zf ms j=ms[j]:=by
 unfold Zf;rw[zT,zn h];rfl
theorem Bd(ms:List (BY×BY))(ao:Option Addr)(cap g:Nat)(y:Array Y)(p:Nat->Bool)(w:J)(E:ms.length<=100000000000)(C:L9 g)
  (A:qK w ao ms)(B:ul g y (λj=>Xv (Zf ms j)) ms.length p w):R8 143 #[TL ao ms.length cap,.func (.func g) #[] y] w λe v=>
   e=.returned (.tuple #[R9 (((zC p ms.length).getD 0:Nat):Int),.bool (zC p ms.length).isSome])/\BQ w v:=by
 generalize hF:zC p ms.length=F;have x:=G7 hF;clear hF;go_enter func143,ntmps143;go_wp2
 go_loopw [10] (λi wr=>∃k:Nat,k<=ms.length/\i=R9 k/\(∀j,j<k->p j=false)/\BQ w wr) (λi _=>ms.length-(intOf i).toNat)
 case atStart=>exact⟨0,zD _,rfl,λj h=>by omega,zf _ _⟩
 case round=>
  obtain⟨k,D,rfl,r,q⟩:=hrel;have s:=G7 r;clear r
  by_cases hlt:k<ms.length
  ·rcases A with rfl|⟨b,o,rfl,hc⟩
   ·simp at hlt
   have a:=λW r=>B W k hlt r;simp only[Jt ms k hlt,Xv]at a;obtain⟨t,u⟩:=hc k hlt;obtain⟨G,l⟩:=Nm (ms[k].1);obtain⟨K,m⟩:=Nm (ms[k].2);rw[l]at t a;rw[m]at u a;have H:=zi q t;have I:=zi q u;clear l m hc t u;have c:=λO=>q.trans (nbl wr O |>.mono q.size)
   cases hpp:p k with
   | false=>
    rw[hpp]at a;have z:=G7 hpp;clear hpp;go_wp2_with(go_at_fn g;apply(a _ (c _)).mono;rintro e v⟨rfl,f⟩);refine⟨⟨k+1,by omega,by go_num,λj h=>?_,(c _).trans (f.mono (c _).size)⟩,by simp[intOf];omega⟩
    by_cases hj:j=k
    ·subst hj;exact z
    ·exact s j (by omega)
   | true=>
    rw[hpp]at a;have e:=Xp p ms.length k hlt s hpp;rw[x.o]at e;subst e;clear hpp;go_wp2_with(go_at_fn g;apply(a _ (c _)).mono;rintro e v⟨rfl,f⟩);go_ret2;exact⟨rfl,(c _).trans (f.mono (c _).size)⟩
  have e:=Xq p ms.length (λj h=>s j (by omega));rw[x.o]at e;subst e;go_wp2;go_ret2;exact⟨rfl,q⟩
theorem Iy(ms:List (BY×BY))(ao:Option Addr)(cap g:Nat)(d:Array Y)(p:Nat->Bool)(w:J)(k:ms.length<=100000000000)(h:L9 g)
  (i:qK w ao ms)(l:ul g d (λj=>Xv (Zf ms j)) ms.length p w):R8 137 #[TL ao ms.length cap,.func (.func g) #[] d] w λe f=>
   e=.returned (.bool (zC p ms.length).isSome)/\BQ w f:=by
 have c:=Bd ms ao cap g d p w k h i l;generalize zC p ms.length=F at c;go_enter func137,ntmps137;go_wp2_with(go_at_call 143;apply c.mono;rintro e f⟨rfl,b⟩);go_ret;exact⟨rfl,b⟩
theorem Ic(g:Nat)(i:Array Y)(m:BY×BY)(B:Nat)(y:Bool)(w:J)(l:L9 g)
  (j:w.cell? (G8 B 0)=some (.func (.func g) #[] i))(h:∀W,BQ w W->R8 g (#[Xv m]++i) W (G5 (.bool y) W)):R8 138 #[Xv m,RG B 0] w (G5 (.bool (!y)) w):=by
 obtain⟨a,v⟩:=m;unfold Xv at h |-;simp only at h |-;have k:=λO:Obj=>zi (nbl w O) j;have c:=λO:Obj=>nbl w O;go_enter func138,ntmps138;go_wp2_with(go_at_fn g;apply(h _ (c _)).mono;rintro e d⟨rfl,f⟩);go_ret;exact⟨rfl,(c _).trans (f.mono (c _).size)⟩
theorem Ib(ms:List (BY×BY))(ao:Option Addr)(cap g:Nat)(b:Array Y)(p:Nat->Bool)(w:J)(q:ms.length<=100000000000)(l:L9 g)
  (o:qK w ao ms)(r:ul g b (λj=>Xv (Zf ms j)) ms.length p w):R8 85 #[TL ao ms.length cap,.func (.func g) #[] b] w λe h=>
   e=.returned (.bool (Zc p ms.length))/\BQ w h:=by
 have k:L9 138:=qo func138 (by kernel_rfl) rfl
 have c:=Iy ms ao cap 138 #[RG w.heap.size 0] (λj=>!p j) (w.alloc (L8 #[.func (.func g) #[] b] 194)) q k
  (xh o (nbl w _))
  (λW j n d=>by
    refine Ic g b (Zf ms j) w.heap.size (p j) W l ?_ (λi m=>r i j n (((nbl w _).trans (d.mono (by simp))).trans (m.mono (by have:=d.size;simp at this;omega))));exact zi d (by simp))
 rw[bE];generalize zC (λj=>!p j) ms.length=F at c;go_enter func85,ntmps85;go_wp2_with(go_at_call 137;apply c.mono;rintro e h⟨rfl,f⟩);go_ret;exact⟨rfl,(nbl w _).trans (f.mono (by simp))⟩
def QR(c:Nat):Bool:=decide (97<=c/\c<=122)
theorem Tx(c:Nat)(w:J)(b:c<256):R8 98 #[.int .u8 (c:Int)] w λe a=>e=.returned (.bool (QR c))/\a=w:=by
 by_cases h1:97<=c
 ·have d1:decide ((97:Int)<=(c:Int))=true:=P5
  by_cases h2:c<=122
  ·have d2:decide ((c:Int)<=122)=true:=P5;have e:QR c=true:=by unfold QR;simp;omega
   rw[e];go_enter func98,ntmps98;go_wp2;go_ret;exact⟨rfl,rfl⟩
  have d2:decide ((c:Int)<=122)=false:=P6;have e:QR c=false:=by unfold QR;simp;omega
  rw[e];go_enter func98,ntmps98;go_wp2;go_ret;exact⟨rfl,rfl⟩
 have d1:decide ((97:Int)<=(c:Int))=false:=P6;have e:QR c=false:=by unfold QR;simp;omega
 rw[e];go_enter func98,ntmps98;go_wp2;go_ret;exact⟨rfl,rfl⟩
theorem rT(l:List UInt8)(f:Nat->Bool):Zc (λj=>f (l.getD j 0).toNat) l.length=l.all λc=>f c.toNat:=by
 unfold Zc;rw[Zp,Zq,Zq]
 constructor
 ·intro h c d;obtain⟨j,b,rfl⟩:=gD.1 d
  have:=h j (vk.2 b)
  rwa [zT,zn b]at this
 intro h j b;have a:=vk.1 b;rw[zT,zn a];exact h _ (qm a)
theorem iw(s:BY)(w:J):∃C O,(convert 9 210 (S9 s)).run prog w=.ok (TL (some (G8 w.heap.size 0)) s.size C) (w.alloc O).drew
  /\ ∀j,j<s.size->(w.alloc O).drew.cell? (G8 w.heap.size (0+j))=some (.int .u8 (((s.data.toList.getD j 0).toNat:Nat):Int)):=by
 refine⟨_,_,run_bytes_of_string w _ _ _ s underlying9 underlying210 underlying5,λj a=>?_⟩;show (w.alloc _).cell? _=_;rw[qV,World.cell?_alloc_mark];rw[bytesRow_at s _ j a,U.getD_at s j a]
 rfl
theorem dw(s:BY)(w:J)(l:s.size<=maxLen):R8 57 #[S9 s] w (G5 (.bool (U.ql s)) w):=by
 unfold maxLen at l
 by_cases h1:1<=s.size
 ·have d1:decide ((0:Int)<(s.size:Int))=true:=P5
  by_cases h2:s.size<=12
  ·have d2:decide ((s.size:Int)<=12)=true:=P5;obtain⟨C,O,i,b⟩:=iw s w;have a:BQ w (w.alloc O).drew:=(nbl w _).drew
   have c:=rV s.size w.heap.size 0 C 98 #[] (λj=>(((s.data.toList.getD j 0).toNat:Nat):Int)) (λj=>QR (s.data.toList.getD j 0).toNat) _ (by omega)
    (qo func98 (by kernel_rfl) rfl) b
    (λW j _ _=>(Tx _ W (bu _)).mono λe g ⟨k,m⟩=>⟨k,m ▸ zf _ _⟩)
   have f:=rT s.data.toList QR;rw[U.zF]at f;rw[f]at c
   have h:U.ql s=s.data.toList.all λc=>QR c.toNat:=by
    unfold U.ql U.letters QR;rw[P5];rfl
   rw[h];generalize (s.data.toList.all λc=>QR c.toNat)=R at c;clear f h b;go_enter func57,ntmps57;go_wp2_with(go_at_call 97;apply c.mono;rintro e g⟨rfl,d⟩);go_ret;exact⟨rfl,a.trans (d.mono a.size)⟩
  have d2:decide ((s.size:Int)<=12)=false:=P6;rw[U.Kw s (by omega)];go_enter func57,ntmps57;go_wp2;go_ret;exact⟨rfl,zf _ _⟩
 have d1:decide ((0:Int)<(s.size:Int))=false:=P6;rw[U.Kw s (by omega)];go_enter func57,ntmps57;go_wp2;go_ret;exact⟨rfl,zf _ _⟩
theorem below_drewN{B:Nat}{a w:J}(h:Below B a w):∀q,Below B a (w.drewN q)
 | 0=>h
 | q+1=>(below_drewN h q).drew
def XV(w:J):Prop:=∃m,w.cell? (G8 4 0)=some (R9 m)
theorem XV.below{w w':J}(h:XV w)(a:BQ w w'):XV w':=by
 obtain⟨m,b⟩:=h;exact⟨m,zi a b⟩
theorem NH(u:BY)(w:J)(g:u.size<=1000)(a:XV w):R8 183 #[S9 u,S9 ⟨#[125]⟩] w λe b=>(∃X,e=.returned (.tuple #[S9 (Pg.X6 u),S9 X,.bool (Pg.X5 u)]))/\BQ w b:=by
 obtain⟨m,a⟩:=a;have c:=Any.strings_Cut Tryz.lays145 u ⟨#[125]⟩ m w (by omega) a;obtain⟨d,f⟩:=Pg.NI u;apply c.mono;rintro e b⟨rfl,n,rfl⟩;refine⟨⟨⟨(Lib.cut u.data.toList [125]).2.1.toArray⟩,?_⟩,below_drewN E9 n⟩;rw[<- d,<- f]
theorem zcZ{a b:Int}{c d:BY}{c1 c2:Int}(e:a=b)(f:c=d)(g:c1=c2):Ending.returned (.tuple #[.agg #[.int .i32 a,S9 c],R9 c1])=.returned (.tuple #[.agg #[.int .i32 b,S9 d],R9 c2]):=by rw[e,f,g]
theorem zcH(t:BY)(w:J)(M:t.size<=100)(F:XV w):R8 135 #[S9 t] w λe g=>
   e=.returned (.tuple #[.agg #[.int .i32 (Pg.Xk t).1,S9 (Pg.Xk t).2.1],R9 ((Pg.Xk t).2.2:Nat)])/\BQ w g:=by
 by_cases h0:t.size=0
 ·have a:Pg.Xk t=(0,⟨#[]⟩,0):=by unfold Pg.Xk;rw[zb h0]
  rw[a]
  have x:t=⟨#[]⟩:=by
   have h:=h0;simp at h;exact h
  subst x;go_enter func135,ntmps135;go_wp2;exact zG (v := .tuple #[.agg #[.int .i32 0,R5],R9 0]) (by simp[results,results135,go_sem]) rfl ⟨rfl,nbl _ _⟩
 have G:(t.toList==([]:List UInt8))=false:=by
  rw[JO]
  cases h:t.data.toList with
  | nil=>exact absurd (by rw[Lib.size_eq,h];rfl) h0
  | cons _ _=>rfl
 have B:0<t.size:=by omega
 obtain⟨b,D⟩:=Nm ((t[0]'B));have E:t.data.toList.getD 0 0=b:=by rw[U.getD_at t 0 B,D]
 have a:Pg.Xk t=Pg.Xk t:=rfl
 conv at a=>rhs;unfold Pg.Xk
 rw[za h0,E]at a;have A:=b.toNat_lt
 by_cases h3:b.toNat=36\/b.toNat=42\/b.toNat=63
 ·rw[zb h3]at a;rw[a];clear a;have s:(b.toNat:Int)=36\/(b.toNat:Int)=42\/(b.toNat:Int)=63:=by omega
  clear h3
  rcases s with h|h|h
  all_goals
   go_enter func135,ntmps135;go_wp2;exact zG (v := .tuple #[.agg #[.int .i32 b.toNat,R5],R9 2]) (by simp[results,results135,go_sem,h]) rfl ⟨rfl,nbl _ _⟩
 rw[za h3]at a;have N:((b.toNat:Int)==36)=false:=by rw[qY];omega
 have P:((b.toNat:Int)==42)=false:=by rw[qY];omega
 have Q:((b.toNat:Int)==63)=false:=by rw[qY];omega
 clear h3
 by_cases h4:b.toNat=123
 ·have L:(b.toNat:Int)=123:=by omega
  rw[zb h4]at a;clear h4;obtain⟨u,C⟩:=Nm (t.extract 1 t.size);rw[C]at a;have K:u.size<=100:=by rw[<- C,yM];omega
  have I:(1:Int)<=(t.size:Int):=by omega
  have c:=λO=>NH u (w.alloc O) (by omega) (F.below (nbl w O))
  cases hh:Pg.X5 u with
  | false=>
   rw[hh,za (by decide)]at a;rw[hh]at c;rw[a];clear a hh;go_enter func135,ntmps135;go_wp2_with(go_at_call 183;apply(c _).mono;rintro e g⟨⟨X,rfl⟩,d⟩;obtain⟨n,z⟩:=qP d);have q:w.heap.size<g.heap.size:=by have:=d.size;simp at this;omega
   have k:BQ w g:=(nbl w _).trans (d.mono (by simp));exact zG (v := .tuple #[.agg #[.int .i32 0,R5],R9 0]) (by simp[results,results135,go_sem,n]) rfl ⟨rfl,(k.setCell F7 _).setCell F7 _⟩
  | true=>
   rw[hh,zb rfl]at a;rw[hh]at c;obtain⟨m,i⟩:=Nm (Pg.X6 u)
   have H:m.size<=100:=by
    rw[<- i];unfold Pg.X6;rw[hh,zb rfl,yM];omega
   rw[i]at a c;have p:=λW=>dw m W (by unfold maxLen;omega)
   cases hi:U.ql m with
   | true=>
    rw[hi,zb rfl]at a;rw[hi]at p;rw[a];clear a hh hi i;go_enter func135,ntmps135
    go_wp2_with(first
     |(go_at_call 183;apply(c _).mono;rintro e g⟨⟨X,rfl⟩,d⟩;obtain⟨n,z⟩:=qP d;have q:w.heap.size<g.heap.size:=by (have:=d.size;simp at this;omega))
     |(go_at_call 57;apply(p _).mono;rintro e o⟨rfl,f⟩;obtain⟨j,r⟩:=qP f))
    have y:w.heap.size<o.heap.size:=by have:=f.size;omega
    have k:BQ w g:=(nbl w _).trans (d.mono (by simp));have l:BQ w o:=k.trans (f.mono k.size);exact zG (v := .tuple #[.agg #[.int .i32 0,S9 m],R9 (2+m.size+1)]) (by simp[results,results135,go_sem,n,q,j]) rfl ⟨zcZ rfl rfl (by simp),(l.setCell F7 _).setCell F7 _⟩
   | false=>
    rw[hi,za (by decide)]at a;rw[hi]at p;rw[a];clear a hh hi i;go_enter func135,ntmps135
    go_wp2_with(first
     |(go_at_call 183;apply(c _).mono;rintro e g⟨⟨X,rfl⟩,d⟩;obtain⟨n,z⟩:=qP d;have q:w.heap.size<g.heap.size:=by (have:=d.size;simp at this;omega))
     |(go_at_call 57;apply(p _).mono;rintro e o⟨rfl,f⟩;obtain⟨j,r⟩:=qP f))
    have y:w.heap.size<o.heap.size:=by have:=f.size;omega
    have k:BQ w g:=(nbl w _).trans (d.mono (by simp));have l:BQ w o:=k.trans (f.mono k.size);exact zG (v := .tuple #[.agg #[.int .i32 0,R5],R9 0]) (by simp[results,results135,go_sem,n,q,j]) rfl ⟨rfl,(l.setCell F7 _).setCell F7 _⟩
 have L:((b.toNat:Int)==123)=false:=by rw[qY];omega
 rw[za h4]at a;rw[a];clear a h4;go_enter func135,ntmps135;go_wp2;exact zG (v := .tuple #[.agg #[.int .i32 0,R5],R9 0]) (by simp[results,results135,go_sem]) rfl ⟨rfl,nbl _ _⟩
def uG(w:J):Prop:=Lib.Utf8Tabs 2 3 w
theorem uG.below{w w':J}(h:uG w)(a:BQ w w'):uG w':=Utf8Tabs_below h a
theorem Af(s:BY)(w:J)(g:0<s.size)(b:uG w)(c n:Nat)(d:Utf8.decode s 0=(c,n)):R8 136 #[S9 s] w (G5 (.tuple #[.int .i32 (c:Int),R9 (n:Int)]) w):=by
 have a:=Any.utf8_DecodeRuneInString Tryz.lays197 s w b;have e:Lib.decodeGo s=(c,n):=by unfold Lib.decodeGo;rw[N8,d]
 rw[e]at a;exact a
theorem EP(s:BY)(w:J)(g:0<s.size)(F:s.size<=100)(C:XV w)(o:uG w)(A:Int)(B:BY)(N:Nat)(d:Pg.Vr (U.xG s)=(A,B,N)):R8 84 #[S9 s] w λe f=>
   e=.returned (.tuple #[.agg #[.int .i32 A,S9 B],R9 (N:Int)])/\BQ w f:=by
 obtain⟨b,x⟩:=Nm ((s[0]'g));have j:s.data.toList.getD 0 0=b:=by rw[U.getD_at s 0 g,x]
 have p:=b.toNat_lt;have D:(0:Int)<(s.size:Int):=by omega
 have b0:=λO=>nbl w O
 by_cases h1:b.toNat=42
 ·have e:=Pg.zel s g (by rw[j];exact h1);rw[d]at e;obtain⟨rfl,rfl,rfl⟩:A = -2/\B=⟨#[]⟩/\N=1:=by simpa using e
  have r:(b.toNat:Int)=42:=by omega
  clear h1 d e;go_enter func84,ntmps84;go_wp2;exact zG (v := .tuple #[.agg #[.int .i32 (-2),R5],R9 1]) (by simp[results,results84,go_sem]) rfl ⟨rfl,nbl _ _⟩
 have H:((b.toNat:Int)==42)=false:=by rw[qY];omega
 by_cases h2:b.toNat=63
 ·have e:=Pg.zei s g (by rw[j];exact h2);rw[d]at e;obtain⟨rfl,rfl,rfl⟩:A = -1/\B=⟨#[]⟩/\N=1:=by simpa using e
  have r:(b.toNat:Int)=63:=by omega
  clear h1 h2 d e;go_enter func84,ntmps84;go_wp2;exact zG (v := .tuple #[.agg #[.int .i32 (-1),R5],R9 1]) (by simp[results,results84,go_sem]) rfl ⟨rfl,nbl _ _⟩
 have I:((b.toNat:Int)==63)=false:=by rw[qY];omega
 by_cases h3:b.toNat=36
 ·have e:=Pg.zec s g (by rw[j];exact h3);rw[d]at e;have r:(b.toNat:Int)=36:=by omega
  obtain⟨u,q⟩:=Nm (s.extract 1 s.size);have l:u.size<=100:=by rw[<- q,yM];omega
  rw[q]at e;have c:=λO=>zcH u (w.alloc O) l (C.below (b0 O));rw[<- e]at c;have E:(1:Int)<=(s.size:Int):=by omega
  clear h1 h2 h3 d e;go_enter func84,ntmps84;go_wp2_with(go_at_call 135;apply(c _).mono;rintro e f⟨rfl,a⟩;obtain⟨h,k⟩:=qP a);have i:BQ w f:=(b0 _).trans (a.mono (by simp));exact zG (v := .tuple #[.agg #[.int .i32 A,S9 B],R9 N]) (by simp[results,results84,go_sem,h]) rfl ⟨rfl,(i.setCell F7 _).setCell F7 _⟩
 have K:((b.toNat:Int)==36)=false:=by rw[qY];omega
 rcases Pg.oC s g (by rw[j];exact h1) (by rw[j];exact h2) (by rw[j];exact h3) with⟨hd,e⟩|⟨c,n,hc,hd,hn,hns,e⟩
 ·rw[d]at e;obtain⟨rfl,rfl,rfl⟩:A=0/\B=⟨#[]⟩/\N=0:=by simpa using e
  have c:=λO=>Af s (w.alloc O) g (o.below (b0 O)) _ _ hd;clear h1 h2 h3 d e hd;go_enter func84,ntmps84;go_wp2_with(go_at_call 136;apply(c _).mono;rintro e f⟨rfl,a⟩;obtain⟨h,k⟩:=qP a);have i:BQ w f:=(b0 _).trans (a.mono (by simp));exact zG (v := .tuple #[.agg #[.int .i32 0,R5],R9 0]) (by simp[results,results84,go_sem,h]) rfl ⟨rfl,(i.setCell F7 _).setCell F7 _⟩
 rw[d]at e;obtain⟨rfl,rfl,rfl⟩:A=(c:Int)/\B=⟨#[]⟩/\N=n:=by simpa using e
 have m:=λO=>Af s (w.alloc O) g (o.below (b0 O)) _ _ hd;have y:(0:Int)<=(c:Int):=by omega
 have z:(c:Int)<=1114111:=by omega
 by_cases hcc:c=65533
 ·have t:(c:Int)=65533:=by omega
  have G:((N:Int)==1)=false:=by rw[qY];omega
  clear h1 h2 h3 d e hd hcc hn;go_enter func84,ntmps84;go_wp2_with(go_at_call 136;apply(m _).mono;rintro e f⟨rfl,a⟩;obtain⟨h,k⟩:=qP a);have i:BQ w f:=(b0 _).trans (a.mono (by simp));exact zG (v := .tuple #[.agg #[.int .i32 c,R5],R9 N]) (by simp[results,results84,go_sem,h,t]) rfl ⟨rfl,(i.setCell F7 _).setCell F7 _⟩
 have t:((c:Int)==65533)=false:=by rw[qY];omega
 clear h1 h2 h3 d e hd hcc hn;go_enter func84,ntmps84;go_wp2_with(go_at_call 136;apply(m _).mono;rintro e f⟨rfl,a⟩;obtain⟨h,k⟩:=qP a);have i:BQ w f:=(b0 _).trans (a.mono (by simp));exact zG (v := .tuple #[.agg #[.int .i32 c,R5],R9 N]) (by simp[results,results84,go_sem,h]) rfl ⟨rfl,(i.setCell F7 _).setCell F7 _⟩
namespace Pg
def xg(l:List (Int×BY)):List Y:=l.flatMap λp=>[.int .i32 (xU p),S9 (nameOf p)]
theorem Jz(l:List (Int×BY))(p:Int×BY):xg (l++[p])=xg l++[.int .i32 (xU p),S9 (nameOf p)]:=by
 unfold xg;simp
def GQ(w:J)(P:Option (List (Int×BY)))(v x:Y)(w':J):Prop:=
 (P=none/\v=TL none 0 0/\∃k:Int,x=.iface 188 (.agg #[R9 k])) \/
 (∃a,P=some a/\x=.nilIface/\w'.ownsRow w.heap.size 190 2 v a.length (xg a))
theorem PS(s:BY)(k n:Nat):(s.extract k s.size).extract n (s.extract k s.size).size=s.extract (k+n) s.size:=by
 rw[fO,yM];have e:min (k+(min s.size s.size-k)) s.size=s.size:=by omega
 rw[e]
end Pg
theorem Tryz.infoPgPart:(prog.info? 190).map (λi=>(i.zero,i.size,i.bytes))=some (some (.agg #[.int .i32 0,R5]),2,24):=by kernel_rfl
theorem zbw(k:Int)(c:BY):∀u ∈ [Value.int .i32 k,Value.string c],u.oneCell'=true:=by
 intro u a;simp at a;rcases a with rfl|rfl<;>rfl
theorem nR(s:BY)(w:J)(hs:s.size<=maxLen)(hm:XV w)(W:uG w):R8 48 #[S9 s] w λe F=>∃v x,e=.returned (.tuple #[v,x])/\BQ w F/\Pg.GQ w (U.parts s) v x F:=by
 unfold maxLen at hs
 by_cases h60:60<s.size
 ·have G:U.parts s=none:=by unfold U.parts;rw[zb h60]
  rw[G];have X:(60:Int)<(s.size:Int):=by omega
  go_enter func48,ntmps48;go_wp2;go_ret2;exact⟨_,_,rfl,zf _ _,.inl ⟨rfl,rfl,_,rfl⟩⟩
 obtain⟨i0,X,R,S,T⟩:=qU Tryz.infoPgPart;have b0:decide (60<(s.size:Int))=false:=P6;have G:U.parts s=(U.jT (s.size+1) s).map λr=>[]++r:=by unfold U.parts;rw[N8];simp
 generalize O:U.parts s=P at *;clear O;have V:G6 (P=(U.jT (s.size+1) s).map λr=>[]++r):=G;clear G;have a2:s.size<=60:=by omega
 clear h60;go_enter func48,ntmps48;go_wp2
 go_loopw [4,5] (λlv N wr=>∃(k f:Nat) (done:List (Int×BY)),N=R9 k/\k<=s.size/\done.length<=k/\(s.extract k s.size).size<f/\P=((U.jT f (s.extract k s.size)).map λr=>done++r) /\
   wr.ownsRow w.heap.size 190 2 lv done.length (Pg.xg done)/\BQ w wr) (λ_ N _=>s.size-(intOf N).toNat)
 case atStart=>
  refine⟨0,s.size+1,[],rfl,by omega,by simp,by rw[yM];omega,?_,qF _ _ _ _,zf _ _⟩;rw[V.o];simp
 case round=>
  obtain⟨k,f,done,rfl,hk,a6,H,p,g,a⟩:=hrel;obtain⟨t,ht⟩:=Nm (s.extract k s.size);have b1:t.size=s.size-k:=by rw[<- ht,yM];omega
  have d:=λn=>Pg.PS s k n;rw[ht]at p H d;have⟨h,HM⟩:=D5 p d;clear p V d;have E:=a.size
  by_cases hlt:k<s.size
  ·have C:0<t.size:=by omega
   have a0:(k:Int)<(s.size:Int):=by omega
   cases hst:U.xG t with
   | none=>
    have i:=U.nI P f t done C H h hst;subst i;have c:=EP t wr C (by omega) (hm.below a) (W.below a) 0 ⟨#[]⟩ 0 (by rw[hst];rfl);clear hst;go_wp2_with(go_at_call 84;apply c.mono;rintro e F⟨rfl,b⟩);go_ret2;exact⟨_,_,rfl,(a.trans (b.mono E)).alloc (by have:=b.size;omega) _,.inl ⟨rfl,rfl,_,rfl⟩⟩
   | some q=>
    obtain⟨m,u,n⟩:=q;obtain⟨f',B,o⟩:=U.KU P f t done C H h m u n hst;have a8:=U.nD t C m u n hst;rw[HM.o n]at B o;have c:=EP t wr C (by omega) (hm.below a) (W.below a) (Pg.xU (m,u)) (Pg.nameOf (m,u)) n (by rw[hst];rfl);have D:=Pg.Jz done (m,u);have⟨M,K⟩:=D5 D o;obtain⟨sg,A⟩:=Nm (Pg.xU (m,u));obtain⟨nm,y⟩:=Nm (Pg.nameOf (m,u));rw[A,y]at c;have⟨L,I⟩:=D5 A y;have a7:((n:Int)==0)=false:=by rw[qY];omega
    clear o hst h D A y
    go_wp2_with(first
     |(go_at_call 84;apply c.mono;rintro e F⟨rfl,b⟩)
     | (at_builtin;refine yh _ rfl _ _ 109 rfl w.heap.size 190 i0 (.agg #[.int .i32 0,R5]) 2 24 underlying109 X R S T rfl (by decide) _ done.length (Pg.xg done) rfl (((ownsRow_below g b).alloc _).alloc _) (G8 (F.heap.size+1) 0) 1 1 [.int .i32 sg,S9 nm] rfl rfl ?_ ?_ ?_ ?_ ?_ ?_))
    ·exact J7 _ _ _ _ _ _ (by simp)
    ·exact zbw _ _
    ·unfold maxLen;omega
    ·omega
    ·have:=b.size;simp;omega
    intro v' w1 l j _;have Q:=U6 (a.trans (b.mono E)) (ownsRow_below g b) _ _ j
    have z:w1.ownsRow w.heap.size 190 2 v' (done++[(m,u)]).length (Pg.xg (done++[(m,u)])):=by
     rw[M.o,L.o,I.o,qE];exact l
    clear l j g c b;go_wp2;go_roundw
    case rel=>exact⟨k+n,f',_,by go_num,by omega,by simp;omega,B,K,z,Q⟩
    case measure=>simp[intOf];omega
  have i:=U.El P f t done (by omega) H h;subst i;clear h;go_wp2;go_ret2;exact⟨_,_,rfl,a,.inr ⟨_,rfl,rfl,g⟩⟩
def ZF(w:J)(ao:Option Addr)(a:List BY):Prop:=
 a=[]\/∃b o,ao=some (G8 b o)/\∀j,(h:j<a.length)->w.cell? (G8 b (o+j))=some (S9 a[j])
theorem Z9{w w':J}{ao:Option Addr}{a:List BY}(h:ZF w ao a)(c:BQ w w'):ZF w' ao a:=by
 rcases h with h|⟨b,o,ha,hc⟩
 ·exact .inl h
 exact .inr ⟨b,o,ha,λj d=>zi c (hc j d)⟩
def Qv(a:List BY)(j:Nat):BY:=a.getD j ⟨#[]⟩
theorem oK(a:List BY)(j:Nat)(h:j<a.length):Qv a j=a[j]:=by
 unfold Qv;rw[zT,zn h];rfl
theorem Rl(a:List BY)(ao:Option Addr)(cap g:Nat)(v:Array Y)(p:Nat->Bool)(w:J)(C:a.length<=100000000000)(A:L9 g)
  (y:ZF w ao a)(z:ul g v (λj => S9 (Qv a j)) a.length p w):R8 217 #[TL ao a.length cap,.func (.func g) #[] v] w λe r=>
   e=.returned (.tuple #[R9 (((zC p a.length).getD 0:Nat):Int),.bool (zC p a.length).isSome])/\BQ w r:=by
 generalize hF:zC p a.length=F;have s:=G7 hF;clear hF;go_enter func217,ntmps217;go_wp2
 go_loopw [10] (λi wr=>∃k:Nat,k<=a.length/\i=R9 k/\(∀j,j<k->p j=false)/\BQ w wr) (λi _=>a.length-(intOf i).toNat)
 case atStart=>exact⟨0,zD _,rfl,λj h=>by omega,zf _ _⟩
 case round=>
  obtain⟨k,B,rfl,m,f⟩:=hrel;have n:=G7 m;clear m
  by_cases hlt:k<a.length
  ·rcases y with rfl|⟨b,o,rfl,hc⟩
   ·simp at hlt
   have c:=λW m=>z W k hlt m;simp only[oK a k hlt]at c;have q:=hc k hlt;obtain⟨u,t⟩:=Nm (a[k]);rw[t]at q c;have D:=zi f q;clear t hc q
   cases hpp:p k with
   | false=>
    rw[hpp]at c;have x:=G7 hpp;clear hpp;go_wp2_with(go_at_fn g;apply(c _ f).mono;rintro e r⟨rfl,l⟩);refine⟨⟨k+1,by omega,by go_num,λj h=>?_,f.trans (l.mono f.size)⟩,by simp[intOf];omega⟩
    by_cases hj:j=k
    ·subst hj;exact x
    ·exact n j (by omega)
   | true=>
    rw[hpp]at c;have e:=Xp p a.length k hlt n hpp;rw[s.o]at e;subst e;clear hpp;go_wp2_with(go_at_fn g;apply(c _ f).mono;rintro e r⟨rfl,l⟩);go_ret2;exact⟨rfl,f.trans (l.mono f.size)⟩
  have e:=Xq p a.length (λj h=>n j (by omega));rw[s.o]at e;subst e;go_wp2;go_ret2;exact⟨rfl,f⟩
theorem gX(b:List BY)(ao:Option Addr)(cap g:Nat)(f:Array Y)(p:Nat->Bool)(w:J)(l:b.length<=100000000000)(i:L9 g)
  (k:ZF w ao b)(m:ul g f (λj => S9 (Qv b j)) b.length p w):R8 193 #[TL ao b.length cap,.func (.func g) #[] f] w (G5 (.bool (zC p b.length).isSome) w):=by
 have c:=Rl b ao cap g f p w l i k m;generalize zC p b.length=F at c;go_enter func193,ntmps193;go_wp2_with(go_at_call 217;apply c.mono;rintro e h⟨rfl,d⟩);go_ret;exact⟨rfl,d⟩
theorem Sn(s this:BY)(B:Nat)(w:J)(b:w.cell? (G8 B 0)=some (S9 this)):R8 194 #[S9 s,RG B 0] w (G5 (.bool (s.toList==this.toList)) w):=by
 go_enter func194,ntmps194;go_wp2;go_ret;exact⟨rfl,zf _ _⟩
theorem U3{α:Type}(l:List α)(d:α)(f:α->Bool):(zC (λj=>f (l.getD j d)) l.length).isSome=l.any f:=by
 rw[Zp,Q3]
 constructor
 ·intro h;obtain⟨k,b⟩:=gK.1 h;unfold zC at b;rw[UQ]at b;have a:k<l.length:=by simpa using b.2.1
  refine⟨l[k],qm a,?_⟩
  have:=b.1
  rw[zT,zn a]at this;exact this
 rintro⟨x,g,c⟩;obtain⟨j,e,rfl⟩:=QB g
 cases h:zC (λj=>f (l.getD j d)) l.length with
 | some k=>rfl
 | none=>
  unfold zC at h;rw[Y5]at h
  have:=h j (vk.2 e)
  rw[zT,zn e]at this;simp at this;rw[this]at c
  cases c
theorem Bw(a:List BY)(this:BY)(ao:Option Addr)(cap:Nat)(w:J)(l:a.length<=100000000000)(k:ZF w ao a):R8 155 #[TL ao a.length cap,S9 this] w (G5 (.bool (a.any λs=>s.toList==this.toList)) w):=by
 have d:=nbl w (L8 #[S9 this] 9);have h:L9 194:=qo func194 (by kernel_rfl) rfl
 have c:=gX a ao cap 194 #[RG w.heap.size 0] (λj=>(Qv a j).toList==this.toList) (w.alloc (L8 #[S9 this] 9)) l h (Z9 k d)
  (λW j m i=>Sn (Qv a j) this w.heap.size W (zi i (by simp)))
 rw[show (zC (λj=>(Qv a j).toList==this.toList) a.length).isSome=a.any (λs=>s.toList==this.toList) from U3 a ⟨#[]⟩ (λs=>s.toList==this.toList)]at c
 generalize a.any (λs=>s.toList==this.toList)=F at c;go_enter func155,ntmps155;go_wp2_with(go_at_call 193;apply c.mono;rintro e g⟨rfl,f⟩);go_ret;exact⟨rfl,d.trans (f.mono (by simp))⟩
def OAt(w:J)(x:Option Z.V)(u:Y):Prop:=match x with
 | none=>u=.nilIface
 | some v=>ValAt w (λb=>b<w.heap.size) v u
theorem OAt.below{w w':J}{x:Option Z.V}{u:Y}(h:OAt w x u)(c:BQ w w'):OAt w' x u:=by
 cases x with
 | none=>exact h
 | some v=>exact ValAt.move h (λb a=>xO a c.size) (λb a=>c.block b a)
def aY(g:Nat)(a:Array Y)(f:BY->Bool)(L:Nat)(w:J):Prop:=
 ∀W (s:BY),s.size<=L->BQ w W->R8 g (#[S9 s]++a) W (G5 (.bool (f s)) W)
def JZ(w:J)(s:BY)(c:Nat)(e:Ending)(w':J):Prop:=∃u,e=.returned (.tuple #[S9 s,u])/\FV c u/\BQ w w'
theorem nS(x:Option Z.V)(u:Y)(g:Nat)(r:Array Y)(f:BY->Bool)(L:Nat)(w:J)(C:L9 g)
  (j:OAt w x u)(o:∀s,x=some (.str s)->s.size<=L)(h:aY g r f L w):R8 105 #[u,.func (.func g) #[] r] w (JZ w (Z.xN f x) (Z.qx f x)):=by
 cases x with
 | none=>
  have y:u=.nilIface:=j;subst y;clear j h;have i:=oW;go_enter func105,ntmps105;go_wp2;go_ret2;exact⟨_,rfl,.inr (.inl ⟨rfl,_,rfl⟩),zf _ _⟩
 | some v=>
  have z:ValAt w (λb=>b<w.heap.size) v u:=j;clear j
  cases z with
  | word b=>
   clear h;have i:=pg;go_enter func105,ntmps105;go_wp2;go_ret2;exact⟨_,rfl,.inr (.inl ⟨rfl,_,rfl⟩),zf _ _⟩
  | list E A t k l m n=>
   clear h l m n;have i:=oU;go_enter func105,ntmps105;go_wp2;go_ret2;exact⟨_,rfl,.inr (.inl ⟨rfl,_,rfl⟩),zf _ _⟩
  | obj D A t k l m n=>
   clear h l m n;have i:=oZ;go_enter func105,ntmps105;go_wp2;go_ret2;exact⟨_,rfl,.inr (.inl ⟨rfl,_,rfl⟩),zf _ _⟩
  | str s=>
   have c:=h w s (o s rfl) E9;have q:Z.xN f (some (.str s))=if f s then s else ⟨#[]⟩:=rfl
   have p:Z.qx f (some (.str s))=Z.cls (!f s) false:=rfl;rw[q,p];clear h o q p
   cases hf:f s with
   | true=>
    rw[hf]at c;clear hf;have i:=K9;go_enter func105,ntmps105;go_wp2_with(go_at_fn g;apply c.mono;rintro e B⟨rfl,d⟩);go_ret2;exact⟨_,rfl,.inl ⟨rfl,rfl⟩,d⟩
   | false=>
    rw[hf]at c;clear hf;have i:=K9;go_enter func105,ntmps105;go_wp2_with(go_at_fn g;apply c.mono;rintro e B⟨rfl,d⟩);go_ret2;exact⟨_,rfl,.inr (.inl ⟨rfl,_,rfl⟩),d⟩
theorem Tv(s:BY)(w:J):R8 106 #[S9 s] w (G5 (.bool (Z.yI s)) w):=by
 unfold Z.yI
 cases h1:(s.toList==[97,108,108,111,119]) with
 | true=>
  go_enter func106,ntmps106;go_wp2;go_ret;exact⟨rfl,zf _ _⟩
 | false=>
  cases h2:(s.toList==[100,101,110,121]) with
  | true=>
   go_enter func106,ntmps106;go_wp2;go_ret;exact⟨rfl,zf _ _⟩
  | false=>
   go_enter func106,ntmps106;go_wp2;go_ret;exact⟨rfl,zf _ _⟩
def GM(g:Nat)(b:Array Y)(a:Nat->Y)(n:Nat)(f:Nat->BY)(c:Nat->Nat)(w:J):Prop:=
 ∀W j,j<n->BQ w W->R8 g (#[a j]++b) W (JZ W (f j) (c j))
def xA(f:Nat->BY)(n k:Nat):List Y:=(List.range n).map λj=>if j<k then S9 (f j) else S9 ⟨#[]⟩
theorem zeK(f:Nat->BY)(n k:Nat):(xA f n k).set k (S9 (f k))=xA f n (k+1):=by
 apply gp
 ·simp[xA]
 intro i a b;simp only[xA,ZL,qf,XT]at a b;simp only[xA,List.getElem_set,VI,rC]
 by_cases e:k=i
 ·subst e;simp
 rw[za e]
 by_cases h:i<k
 ·rw[zb h,N9]
 rw[za h,N8]
theorem zeL(f:Nat->BY)(n:Nat):xA f n 0=List.replicate n R5:=by
 apply gp
 ·simp[xA]
 intro i a b;simp[xA]
theorem zeJ(f:Nat->BY)(n k:Nat)(h:k<n):(xA f n k)[k]?=some R5:=by
 simp[xA,h]
def kU(c:Nat->Nat)(n k:Nat)(a:List Y):Prop:=a.length=n/\(∀j,j<k->FV (c j) (a.getD j .nilIface))/\∀j,k<=j->j<n->a[j]?=some .nilIface
theorem kU.set{c:Nat->Nat}{n k:Nat}{b:List Y}(h:kU c n k b)(m:k<n){u:Y}(l:FV (c k) u):kU c n (k+1) (b.set k u):=by
 obtain⟨d,f,g⟩:=h;refine⟨by simp[d],λj i=>?_,λj i a=>?_⟩
 ·rw[zT,zu]
  by_cases e:k=j
  ·subst e;rw[zb rfl,N9];exact l
  rw[za e]
  have:=f j (by omega)
  rwa [zT]at this
 rw[zu,N8];exact g j (by omega) a
theorem kU.start(c:Nat->Nat)(n:Nat):kU c n 0 (List.replicate n .nilIface):=⟨by simp,λj a=>by omega,λj _ a=>by simp[a]⟩
theorem kU.done{c:Nat->Nat}{n:Nat}{f:List Y}(h:kU c n n f):FVs ((List.range n).map c) f:=by
 obtain⟨g,i,k⟩:=h;refine⟨by simp[g],λj d u a e=>?_⟩;have b:j<n:=by have:=(zU.1 e).1;omega
 have:=i j b
 rw[zT,e]at this;simp[b]at a;subst a;exact this
def GI(w:J)(n:Nat)(f:Nat->BY)(c:Nat->Nat)(e:Ending)(w':J):Prop:=
 ∃(d b:Option Addr) (g h:Nat) (a:List Y),e=.returned (.tuple #[TL d n g,TL b n h])/\a.length=n/\vV w' b a/\FVs ((List.range n).map c) a/\BQ w w' /\
  w'.ownsRow w.heap.size 9 1 (TL d n g) n (xA f n n)
theorem OU(r:List Y)(ao:Option Addr)(cap g:Nat)(lb:Array Y)(f:Nat->BY)(c:Nat->Nat)(w:J)(hn:r.length<=10000)(eg:L9 g)
  (hm:vV w ao r)(V:∀u ∈ r,u=.nilIface\/∃T x,u=.iface T x)(hp:GM g lb (λj=>r.getD j .nilIface) r.length f c w):R8 197 #[TL ao r.length cap,.func (.func g) #[] lb] w (GI w r.length f c):=by
 obtain⟨i0,hi,b5,b6,b7⟩:=qU (show (prog.info? 9).map (λi=>(i.zero,i.size,i.bytes))=some (some R5,1,16) by kernel_rfl);obtain⟨i1,hj,b2,b3,b4⟩:=qU (show (prog.info? 82).map (λi=>(i.zero,i.size,i.bytes))=some (some .nilIface,1,16) by kernel_rfl);obtain⟨n,I⟩:=Nm r.length;rw[I]at hn hp |-;have⟨HM,a5,HP,a6⟩:=M5 hm V hp I;clear hm V hp I;go_enter func197,ntmps197;go_wp2_with (at_make;refine JH _ rfl _ _ 57 rfl w.heap.size 9 i0 R5 1 underlying57 hi b5 b6 _ _ _ _ n rfl rfl ?_ ?_ ?_ ?_ ?_ ?_)
 ·omega
 ·omega
 ·rw[b7];omega
 ·unfold maxLen;omega
 ·omega
 intro w1 G t
 have K:w1.ownsRow w.heap.size 9 1 (TL (some (G8 w.heap.size 0)) n n) n (xA f n 0):=by
  rw[zeL,<- UG];exact G
 have p:BQ w w1:=(zf _ w).grown t F7 (λk hk=>by cases hk);clear G;go_wp2_with (at_make;refine JH _ rfl _ _ 133 rfl w.heap.size 82 i1 .nilIface 1 underlying133 hj b2 b3 _ _ _ _ n rfl rfl ?_ ?_ ?_ ?_ ?_ ?_)
 ·omega
 ·omega
 ·rw[b4];omega
 ·unfold maxLen;omega
 ·have:=p.size;omega
 intro w2 H m
 have L:w2.ownsRow w.heap.size 82 1 (TL (some (G8 w1.heap.size 0)) n n) n (List.replicate n .nilIface):=by
  rw[<- UG];exact H
 have F:=K.kept m (.inr (by simp[Value.ownBlock]));have W:w.heap.size<w1.heap.size:=(K.lt _ rfl).2;have E:BQ w w2:=p.grown m p.size (λk hk=>by cases hk);obtain⟨s,R⟩:=Nm w1.heap.size;rw[R]at L W |-;have X:w.heap.size≠s:=by omega
 have⟨O,P,N⟩:=M4 F L E;clear H m t K p F L E R;go_wp2_with fail
 go_loopw [18] (λiv wr=>∃(k:Nat) (M:List Y),k<=n/\iv=R9 k/\kU c n k M/\wr.ownsRow w.heap.size 9 1 (TL (some (G8 w.heap.size 0)) n n) n (xA f n k)/\wr.ownsRow w.heap.size 82 1 (TL (some (G8 s 0)) n n) n M/\BQ w wr) (λiv _=>n-(intOf iv).toNat)
 case atStart=>exact⟨0,_,zD _,rfl,kU.start c n,O,P,N⟩
 case round=>
  obtain⟨k,M,hk,rfl,a0,ro,re,rb⟩:=hrel;clear O P N;have⟨RO,RE,Q,B⟩:=M5 ro re rb a0;clear ro re rb a0
  by_cases hlt:k<n
  ·have A:k<r.length:=by rw[a6.o];exact hlt
   have S:r.getD k .nilIface=r[k]:=by rw[zT,zn A];rfl
   have C:=HP wr k hlt Q;have hv:=a5 r[k] (qm A)
   rcases HM with hnil|⟨b,o,hao,hc⟩
   ·rw[hnil]at A;simp at A
   subst hao;have q:=zi Q (hc k A);simp only[S]at C;obtain⟨u,hu⟩:=Nm (r[k]);rw[hu]at q C hv;clear hu hc S
   have fin:G6 (∀l x,BQ wr l->FV (c k) x->kU c n (k+1) (M.set k x)/\((l.setCell (G8 w.heap.size k) (S9 (f k))).setCell (G8 s k) x).ownsRow w.heap.size 9 1 (TL (some (G8 w.heap.size 0)) n n) n (xA f n (k+1)) /\
     ((l.setCell (G8 w.heap.size k) (S9 (f k))).setCell (G8 s k) x).ownsRow w.heap.size 82 1 (TL (some (G8 s 0)) n n) n (M.set k x)/\BQ w ((l.setCell (G8 w.heap.size k) (S9 (f k))).setCell (G8 s k) x)):=by
    intro l x d hx;have o3:=ownsRow_below RO d;have e3:=ownsRow_below RE d;have o4:=(o3.stored k (S9 (f k))).1;rw[zeK]at o4;have e4:=xz e3 (a:=G8 w.heap.size k) (by simp only[Value.ownBlock];intro e;simp only[Option.some.injEq]at e;exact X e.symm) (S9 (f k));exact⟨B.set hlt hx,xz o4 (by simp only[Value.ownBlock];intro e;simp only[Option.some.injEq]at e;exact X e) _,(e4.stored k x).1,((Q.trans (d.mono Q.size)).setCell F7 _).setCell (by show w.heap.size<=s;omega) _⟩
   have cells:G6 (∀l,BQ wr l->l.cell? (G8 w.heap.size k)=some R5/\l.frozen? (G8 w.heap.size k)=false/\l.cell? (G8 s k)=some .nilIface/\l.frozen? (G8 s k)=false):=by
    intro l d;have o3:=ownsRow_below RO d;have e3:=ownsRow_below RE d;exact⟨(o3.cellAt k (by omega)).trans (zeJ f n k hlt),o3.frozenAt k,(e3.cellAt k (by omega)).trans (B.2.2 k F7 hlt),e3.frozenAt k⟩
   rcases hv with rfl|⟨T,y,rfl⟩
   ·go_wp2_with(go_at_fn g;apply C.mono;rintro e l⟨x,rfl,v,d⟩;obtain⟨d1,d2,d3,d4⟩:=cells l d;have h:=G7 (fin l x d v);rcases v.form with rfl|⟨T,z,rfl⟩)
    all_goals
     go_roundw
     case rel=>exact⟨k+1,_,by omega,by go_num,h.1,h.2.1,h.2.2.1,h.2.2.2⟩
     case measure=>simp[intOf];omega
   go_wp2_with(go_at_fn g;apply C.mono;rintro e l⟨x,rfl,v,d⟩;obtain⟨d1,d2,d3,d4⟩:=cells l d;have h:=G7 (fin l x d v);rcases v.form with rfl|⟨T,z,rfl⟩)
   all_goals
    go_roundw
    case rel=>exact⟨k+1,_,by omega,by go_num,h.1,h.2.1,h.2.2.1,h.2.2.2⟩
    case measure=>simp[intOf];omega
  have b0:k=n:=by omega
  subst b0;have hE:=B.done;have hl:=B.1;go_wp2;go_ret2;refine⟨_,_,_,_,M,rfl,hl,?_,hE,Q,RO⟩;exact .inr ⟨s,0,rfl,λj hj=>by rw[qV];exact(RE.cellAt j (by omega)).trans (zn hj)⟩
def UY(g:Nat)(a:Array Y)(f:Option Z.V->BY)(c:Option Z.V->Nat)(L:Nat)(w:J):Prop:=
 ∀W (y:Option Z.V) (u:Y),(∀v,y=some v->Z.Good L v)->OAt W y u->BQ w W->R8 g (#[u]++a) W (JZ W (f y) (c y))
def YD(w:J)(b:List BY)(c:Nat)(e:Ending)(w':J):Prop:=
 ∃a u,e=.returned (.tuple #[a,u])/\FV c u/\BQ w w'/\w'.ownsRow w.heap.size 9 1 a b.length (b.map Value.string)
theorem OAt.form{w:J}{x:Option Z.V}{u:Y}(h:OAt w x u):u=.nilIface\/∃T y,u=.iface T y:=by
 cases x with
 | none=>exact .inl h
 | some v=>exact .inr (ValAt.iface h)
theorem Ux{α β:Type}(l:List α)(d:α)(f:α->β):(List.range l.length).map (λj=>f (l.getD j d))=l.map f:=by
 apply gp
 ·simp
 intro i a b;simp only[qf,XT]at a;simp[a]
theorem Ao(xs:List (Option Z.V))(a:List Y)(ao:Option Addr)(cap g:Nat)(r:Array Y)(f:Option Z.V->BY)(c:Option Z.V->Nat)(L:Nat)(w:J)(z:a.length=xs.length)(G:a.length<=10000)(B:L9 g)
  (F:vV w ao a)(M:∀(j:Nat) (x:Option Z.V) (u:Y),xs[j]?=some x->a[j]?=some u->OAt w x u)(E:∀x ∈ xs,∀v,x=some v->Z.Good L v)(H:UY g r f c L w):R8 197 #[TL ao a.length cap,.func (.func g) #[] r] w λe p=>
   ∃(n m:Option Addr) (o q:Nat) (l:List Y),e=.returned (.tuple #[TL n a.length o,TL m a.length q])/\l.length=a.length/\vV p m l/\FVs (xs.map c) l/\BQ w p /\
    p.ownsRow w.heap.size 9 1 (TL n a.length o) a.length ((xs.map f).map Value.string):=by
 have k:∀j,(h:j<a.length)->OAt w (xs.getD j none) a[j]:=λj h=>by
  have d:j<xs.length:=by omega
  rw[zT,zn d];exact M j _ _ (zn d) (zn h)
 refine(OU a ao cap g r (λj=>f (xs.getD j none)) (λj=>c (xs.getD j none)) w G B F ?_ ?_).mono ?_
 ·intro u I;obtain⟨j,i,rfl⟩:=QB I;exact(k j i).form
 ·intro W j i y;have d:j<xs.length:=by omega
  have:=H W (xs.getD j none) a[j] (λv K=>E _ (by rw[zT,zn d];exact qm d) v K) ((k j i).below y) y
  rw[show a[j]=a.getD j .nilIface by rw[zT,zn i];rfl]at this;exact this
 rintro e p⟨n,m,o,q,l,rfl,C,d,s,D,t⟩;refine⟨n,m,o,q,l,rfl,C,d,?_,D,?_⟩
 ·rw[z,Ux]at s;exact s
 have A:xA (λj=>f (xs.getD j none)) a.length a.length=(xs.map f).map Value.string:=by
  rw[z,kY,<- Ux xs none (Value.string ∘ f)];unfold xA;refine JR λj i=>?_;rw[zb (vk.1 i)]
  rfl
 rw[A]at t;exact t
theorem oO{w:J}{x:Option Z.V}{u:Y}(h:OAt w x u)(e:∀a,x≠some (.list a))(W:J):(Instr.typeAssert u 121 128 true).run prog W=.ok (.tuple #[R4,T9]) W:=by
 cases x with
 | none=>
  have c:u=.nilIface:=h;subst c;exact zeW W
 | some v=>
  have d:ValAt w (λb=>b<w.heap.size) v u:=h
  cases d with
  | str s=>exact zeY _ W
  | word b=>exact zeZ _ W
  | list a=>exact absurd rfl (e a)
  | obj f=>exact zeX _ W
theorem DR(c:Option Z.V->Nat)(f:Option Z.V->BY)(x:Option Z.V)(d:∀a,x≠some (.list a)):Z.xm c x=Z.qZ [c x]/\Z.xy f x=[f x]:=by
 match x with
 | none=>exact⟨rfl,rfl⟩
 | some (.str s)=>exact⟨rfl,rfl⟩
 | some (.word b)=>exact⟨rfl,rfl⟩
 | some (.obj ms)=>exact⟨rfl,rfl⟩
 | some (.list a)=>exact absurd rfl (d a)
theorem zbA(x:Option Z.V)(u:Y)(g:Nat)(E:Array Y)(f:Option Z.V->BY)(c:Option Z.V->Nat)(L:Nat)(w:J)(G:yj w)(I:L9 g)
  (z:OAt w x u)(O:∀v,x=some v->Z.Good L v)(H:UY g E f c L w)(i:∀S,x≠some (.list S)):R8 157 #[u,.func (.func g) #[] E] w (YD w (Z.xy f x) (Z.xm c x)):=by
 have ta:=λW=>oO z i W;rw[(DR c f x i).1,(DR c f x i).2];have h:=nbl w (L8 #[u] 121)
 have A:=Ao [x] [u] (some (G8 w.heap.size 0)) 1 g E f c L (w.alloc (L8 #[u] 121)) rfl (by simp) I (.inr ⟨w.heap.size,0,rfl,λj P=>by
   simp only[kX]at P
   have:j=0:=by omega
   subst this
   simp⟩) (λj y v q t=>by
   cases j with
   | zero=>
    simp only[jE,Option.some.injEq]at q t;subst q;subst t;exact z.below h
   | succ j=>simp at q) (λy q v t=>by simp only[yx]at q;subst q;exact O v t) (λW y v K M N=>H W y v K M (h.trans (N.mono (by simp))))
 simp only[yO,Zr,kX]at A;have D:=z.form;clear z H i
 rcases D with rfl|⟨T,y,rfl⟩
 ·go_enter func157,ntmps157
  go_wp2_with(first
   |(go_at_call 109;apply r.mono;rintro e X⟨v,rfl,m,b⟩)
   |(go_at_call 197;apply A.mono;rintro e s⟨Q,B,R,C,F,rfl,p,n,o,l,d⟩;have a:BQ w s:=h.trans (l.mono (by simp));have r:=Ua [c x] F B C s (G.below a) (by omega) n o;rw[p]at r))
  go_ret2;exact⟨_,_,rfl,m,a.trans (b.mono a.size),ownsRow_below (xS d (by simp)) b⟩
 go_enter func157,ntmps157
 go_wp2_with(first
  |(go_at_call 109;apply r.mono;rintro e X⟨v,rfl,m,b⟩)
  |(go_at_call 197;apply A.mono;rintro e s⟨Q,B,R,C,F,rfl,p,n,o,l,d⟩;have a:BQ w s:=h.trans (l.mono (by simp));have r:=Ua [c x] F B C s (G.below a) (by omega) n o;rw[p]at r))
 go_ret2;exact⟨_,_,rfl,m,a.trans (b.mono a.size),ownsRow_below (xS d (by simp)) b⟩
theorem zbz(a:List Z.V)(u:Y)(g:Nat)(Q:Array Y)(f:Option Z.V->BY)(c:Option Z.V->Nat)(L:Nat)(w:J)(hg:yj w)(eg:L9 g)
  (W:OAt w (some (.list a)) u)(R:Z.Good L (.list a))(M:UY g Q f c L w):R8 157 #[u,.func (.func g) #[] Q] w (YD w (Z.xy f (some (.list a))) (Z.xm c (some (.list a)))):=by
 have o:ValAt w (λb=>b<w.heap.size) (.list a) u:=W;clear W;have ta:=oN;have m:∀v ∈ a,Z.Good L v:=by cases R with|list _ _ h=>exact h
 have D:Z.xm c (some (.list a))=if a.length<1\/10<a.length then 1 else Z.qZ (a.map λv=>c (some v)):=rfl
 have T:Z.xy f (some (.list a))=if a.length<1\/10<a.length then [] else a.map λv=>f (some v):=rfl
 rw[D,T];clear D T
 cases o with
 | list _ p ao F G r H=>
  by_cases hbad:a.length<1\/10<a.length
  ·rw[zb hbad,zb hbad];obtain⟨n,t⟩:=Nm p.length;rw[t];have l:n=0\/(¬n=0/\10<n):=by omega
   clear r H M m
   rcases l with rfl|⟨h0,h10⟩
   ·go_enter func157,ntmps157;go_wp2;go_ret2;exact⟨_,_,rfl,.inr (.inl ⟨rfl,_,rfl⟩),zf _ _,qF _ _ _ _⟩
   have C:((n:Int)==0)=false:=by simp;omega
   have ht:decide ((10:Int)<(n:Int))=true:=by simp;omega
   go_enter func157,ntmps157;go_wp2;go_ret2;exact⟨_,_,rfl,.inr (.inl ⟨rfl,_,rfl⟩),zf _ _,qF _ _ _ _⟩
  rw[za hbad,za hbad]
  have E:=Ao (a.map some) p ao F g Q f c L w (by simp[G]) (by omega) eg (by
    rcases r with r|⟨b,ha,_,D⟩
    ·exact .inl r
    exact .inr ⟨b,0,ha,λj hj=>by rw[qV];exact D j _ (zn hj)⟩)
   (λj y v B o=>by
     rw[ui]at B;obtain⟨z,C,rfl⟩:=vT.1 B;exact H j z v C o) (λy B v o=>by
     rw[xI]at B;obtain⟨z,C,rfl⟩:=B;simp only[Option.some.injEq]at o;subst o;exact m z C) M
  simp only[kY]at E;have i:(a.map λv=>f (some v)).length=p.length:=by simp[G]
  have K:¬p.length=0:=by omega
  have x:p.length<=10:=by omega
  clear r H M m hbad R G;have q:=G7 i;clear i;obtain⟨n,t⟩:=Nm p.length;rw[t]at E K x |-;have X:=G7 t;clear t;have C:((n:Int)==0)=false:=by simp;omega
  have ht:decide ((10:Int)<(n:Int))=false:=by simp;omega
  go_enter func157,ntmps157
  go_wp2_with(first
   |(go_at_call 109;apply S.mono;rintro e w2⟨v,rfl,I,s⟩)
   |(go_at_call 197;apply E.mono;rintro e w1⟨oa,fa,oc,fc,ys,rfl,P,N,O,k,A⟩;have S:=Ua _ ys fa fc w1 (hg.below k) (by omega) N O;rw[P]at S))
  go_ret2;refine⟨_,_,rfl,I,k.trans (s.mono k.size),?_⟩;have ho:=ownsRow_below A s;rw[q.o,X.o,kY];exact ho
theorem dQ(x:Option Z.V)(u:Y)(g:Nat)(d:Array Y)(f:Option Z.V->BY)(c:Option Z.V->Nat)(L:Nat)(w:J)(k:yj w)(i:L9 g)
  (m:OAt w x u)(j:∀v,x=some v->Z.Good L v)(l:UY g d f c L w):R8 157 #[u,.func (.func g) #[] d] w (YD w (Z.xy f x) (Z.xm c x)):=by
 by_cases h:∃b,x=some (.list b)
 ·obtain⟨b,rfl⟩:=h;exact zbz b u g d f c L w k i m (j _ rfl) l
 exact zbA x u g d f c L w k i m j l (λb e=>h ⟨b,e⟩)
structure ZJ (w:J):Prop where
 tabs:uG w
 max:XV w
 err:yj w
theorem ZJ.below{w w':J}(h:ZJ w)(a:BQ w w'):ZJ w':=⟨h.tabs.below a,h.max.below a,h.err.below a⟩
theorem zcL(x:Option Z.V)(u:Y)(w:J)(l:ZJ w)(m:OAt w x u)(n:∀s,x=some (.str s)->s.size<=4000):R8 158 #[u] w (JZ w (Z.strOf x) (Z.vO x)):=by
 cases x with
 | none=>
  have t:u=.nilIface:=m;subst t;have f:=oW;go_enter func158,ntmps158;go_wp2;go_ret2;exact⟨_,rfl,.inr (.inl ⟨rfl,_,rfl⟩),zf _ _⟩
 | some v=>
  have z:ValAt w (λb=>b<w.heap.size) v u:=m;clear m
  cases z with
  | word b=>
   have f:=pg;go_enter func158,ntmps158;go_wp2;go_ret2;exact⟨_,rfl,.inr (.inl ⟨rfl,_,rfl⟩),zf _ _⟩
  | list E B q g h i j=>
   clear h i j;have f:=oU;go_enter func158,ntmps158;go_wp2;go_ret2;exact⟨_,rfl,.inr (.inl ⟨rfl,_,rfl⟩),zf _ _⟩
  | obj D B q g h i j=>
   clear h i j;have f:=oZ;go_enter func158,ntmps158;go_wp2;go_ret2;exact⟨_,rfl,.inr (.inl ⟨rfl,_,rfl⟩),zf _ _⟩
  | str s=>
   have r:=n s rfl;have c:=nR s w (by unfold maxLen;omega) l.max l.tabs;have o:Z.vO (some (.str s))=Z.cls false (!U.qD s):=rfl;have p:Z.strOf (some (.str s))=s:=rfl;rw[o,p];unfold U.qD;have f:=K9;clear n o p r l
   cases hP:U.parts s with
   | none=>
    rw[hP]at c;clear hP;go_enter func158,ntmps158;go_wp2_with(go_at_call 48;apply c.mono;rintro e C⟨v,y,rfl,d,a⟩;rcases a with⟨_,rfl,k,rfl⟩|⟨A,hps,_⟩;rotate_left;cases hps);go_ret2;exact⟨_,rfl,.inr (.inr ⟨rfl,k,rfl⟩),d⟩
   | some A=>
    rw[hP]at c;clear hP;go_enter func158,ntmps158;go_wp2_with(go_at_call 48;apply c.mono;rintro e C⟨v,y,rfl,d,a⟩;rcases a with⟨hps,_⟩|⟨ps',hps,rfl,hown⟩;cases hps;cases hps);go_ret2;exact⟨_,rfl,.inl ⟨rfl,rfl⟩,d⟩
end Go.Proofs.YtfjpcldndaiifaaGreatDoor
