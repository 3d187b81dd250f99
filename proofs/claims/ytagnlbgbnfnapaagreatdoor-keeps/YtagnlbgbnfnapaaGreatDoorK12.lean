/- P -/
import Derived.Test.YtagnlbgbnfnapaaGreatDoorK03
import Derived.Test.YtagnlbgbnfnapaaGreatDoorK11
open Go.Proofs.Tryz
set_option maxRecDepth 100000
set_option maxHeartbeats 1000000
namespace Go.Proofs.YtagnlbgbnfnapaaGreatDoor
open Go.Shelf
def Tryz.lays197_ren:Go.Shelf.Ren:=⟨λ|197=>197|260=>231|n=>n,λ|9=>9|21=>21|3=>3|4=>4|5=>5|105=>356|119=>262|0=>0|46=>266|139=>265|138=>264|n=>n,λ|3=>2|4=>3|n=>n⟩
theorem Tryz.lays197:Go.Proofs.Lays.n197 prog Tryz.lays197_ren:={
 mixed:=by kernel_rfl
 f197:=func197.trans (congrArg some (by kernel_rfl))
 f260:=func231.trans (congrArg some (by kernel_rfl))
 t0:=underlying0
 a0:=Tryz.isAgg0
 z0:=Tryz.sizeOf0
 v0:=Tryz.zeroValue0
 t3:=underlying3
 a3:=Tryz.isAgg3
 z3:=Tryz.sizeOf3
 v3:=Tryz.zeroValue3
 t4:=underlying4
 a4:=Tryz.isAgg4
 z4:=Tryz.sizeOf4
 v4:=Tryz.zeroValue4
 t5:=underlying5
 a5:=Tryz.isAgg5
 z5:=Tryz.sizeOf5
 v5:=Tryz.zeroValue5
 t9:=underlying9
 a9:=Tryz.isAgg9
 z9:=Tryz.sizeOf9
 v9:=Tryz.zeroValue9
 t21:=underlying21
 a21:=Tryz.isAgg21
 z21:=Tryz.sizeOf21
 v21:=Tryz.zeroValue21
 t46:=underlying266
 a46:=Tryz.isAgg266
 z46:=Tryz.sizeOf266
 v46:=Tryz.zeroValue266
 t105:=underlying356
 a105:=Tryz.isAgg356
 z105:=Tryz.sizeOf356
 v105:=Tryz.zeroValue356
 t119:=underlying262
 a119:=Tryz.isAgg262
 z119:=Tryz.sizeOf262
 t138:=underlying264
 a138:=Tryz.isAgg264
 z138:=Tryz.sizeOf264
 v138:=Tryz.zeroValue264
 t139:=underlying265
 a139:=Tryz.isAgg265
 z139:=Tryz.sizeOf265
 v139:=Tryz.zeroValue265
 g3:=by kernel_rfl
 g4:=by kernel_rfl }
def Tryz.lays145_ren:Go.Shelf.Ren:=⟨λ|145=>230|220=>250|219=>260|217=>261|225=>262|224=>263|267=>264|266=>265|314=>266|n=>n,λ|9=>9|4=>4|59=>386|3=>3|5=>5|46=>266|146=>412|51=>398|n=>n,λ|1=>4|n=>n⟩
theorem Tryz.lays145:Go.Proofs.Lays.n145 prog Tryz.lays145_ren:={
 mixed:=by kernel_rfl
 f145:=func230.trans (congrArg some (by kernel_rfl))
 f217:=func261.trans (congrArg some (by kernel_rfl))
 f219:=func260.trans (congrArg some (by kernel_rfl))
 f220:=func250.trans (congrArg some (by kernel_rfl))
 f224:=func263.trans (congrArg some (by kernel_rfl))
 f225:=func262.trans (congrArg some (by kernel_rfl))
 f266:=func265.trans (congrArg some (by kernel_rfl))
 f267:=func264.trans (congrArg some (by kernel_rfl))
 f314:=func266.trans (congrArg some (by kernel_rfl))
 t3:=underlying3
 a3:=Tryz.isAgg3
 z3:=Tryz.sizeOf3
 v3:=Tryz.zeroValue3
 t4:=underlying4
 a4:=Tryz.isAgg4
 z4:=Tryz.sizeOf4
 v4:=Tryz.zeroValue4
 t5:=underlying5
 a5:=Tryz.isAgg5
 z5:=Tryz.sizeOf5
 v5:=Tryz.zeroValue5
 t9:=underlying9
 a9:=Tryz.isAgg9
 z9:=Tryz.sizeOf9
 v9:=Tryz.zeroValue9
 t46:=underlying266
 a46:=Tryz.isAgg266
 z46:=Tryz.sizeOf266
 v46:=Tryz.zeroValue266
 t51:=underlying398
 a51:=Tryz.isAgg398
 z51:=Tryz.sizeOf398
 v51:=Tryz.zeroValue398
 t59:=underlying386
 a59:=Tryz.isAgg386
 z59:=Tryz.sizeOf386
 v59:=Tryz.zeroValue386
 t146:=underlying412
 a146:=Tryz.isAgg412
 z146:=Tryz.sizeOf412
 v146:=Tryz.zeroValue412
 g1:=by kernel_rfl }
def Tryz.lays196_ren:Go.Shelf.Ren:=⟨λ|196=>85|259=>135|n=>n,λ|9=>9|4=>4|3=>3|5=>5|12=>12|119=>262|0=>0|46=>266|139=>265|138=>264|53=>334|n=>n,λ|3=>2|4=>3|n=>n⟩
theorem Tryz.lays196:Go.Proofs.Lays.n196 prog Tryz.lays196_ren:={
 mixed:=by kernel_rfl
 f196:=func85.trans (congrArg some (by kernel_rfl))
 f259:=func135.trans (congrArg some (by kernel_rfl))
 t0:=underlying0
 a0:=Tryz.isAgg0
 z0:=Tryz.sizeOf0
 v0:=Tryz.zeroValue0
 t3:=underlying3
 a3:=Tryz.isAgg3
 z3:=Tryz.sizeOf3
 v3:=Tryz.zeroValue3
 t4:=underlying4
 a4:=Tryz.isAgg4
 z4:=Tryz.sizeOf4
 v4:=Tryz.zeroValue4
 t5:=underlying5
 a5:=Tryz.isAgg5
 z5:=Tryz.sizeOf5
 v5:=Tryz.zeroValue5
 t9:=underlying9
 a9:=Tryz.isAgg9
 z9:=Tryz.sizeOf9
 v9:=Tryz.zeroValue9
 t12:=underlying12
 a12:=Tryz.isAgg12
 z12:=Tryz.sizeOf12
 v12:=Tryz.zeroValue12
 t46:=underlying266
 a46:=Tryz.isAgg266
 z46:=Tryz.sizeOf266
 v46:=Tryz.zeroValue266
 t53:=underlying334
 a53:=Tryz.isAgg334
 z53:=Tryz.sizeOf334
 v53:=Tryz.zeroValue334
 t119:=underlying262
 a119:=Tryz.isAgg262
 z119:=Tryz.sizeOf262
 t138:=underlying264
 a138:=Tryz.isAgg264
 z138:=Tryz.sizeOf264
 v138:=Tryz.zeroValue264
 t139:=underlying265
 a139:=Tryz.isAgg265
 z139:=Tryz.sizeOf265
 v139:=Tryz.zeroValue265
 g3:=by kernel_rfl
 g4:=by kernel_rfl }
end Go.Proofs.YtagnlbgbnfnapaaGreatDoor
namespace Go.Proofs.YtagnlbgbnfnapaaGreatDoor
open Go.RowKit
def Zq(c:Nat):Bool:=decide (97<=c/\c<=122)
theorem Gz(c:Nat)(w:World)(d:c<256) :
  Calls prog 90 #[.int .u8 (c:Int)] w λe w'=>e = .returned (.bool (Zq c))/\w'=w:=by
 by_cases h1:97<=c
 ·have a:decide ((97:Int)<=(c:Int))=true:=zC (by omega)
  by_cases h2:c<=122
  ·have b:decide ((c:Int)<=122)=true:=zC (by omega);have e:Zq c=true:=by unfold Zq;simp;omega
   rw[e];go_enter func90,ntmps90
   go_wp2
   go_ret;exact⟨rfl,rfl⟩
  ·have b:decide ((c:Int)<=122)=false:=zO (by omega);have e:Zq c=false:=by unfold Zq;simp;omega
   rw[e];go_enter func90,ntmps90
   go_wp2
   go_ret;exact⟨rfl,rfl⟩
 ·have a:decide ((97:Int)<=(c:Int))=false:=zO (by omega);have e:Zq c=false:=by unfold Zq;simp;omega
  rw[e];go_enter func90,ntmps90
  go_wp2
  go_ret;exact⟨rfl,rfl⟩
theorem fU(l:List UInt8)(f:Nat->Bool):QK (λj=>f (l.getD j 0).toNat) l.length=l.all λc=>f c.toNat:=by
 unfold QK;rw[XH,Yx,Yx]
 constructor
 ·intro h c d;obtain⟨j,b,rfl⟩:=List.mem_iff_getElem.1 d
  have:=h j (ku.2 b)
  rwa [zY,zn b] at this
 ·intro h j b;have a:=ku.1 b;rw[zY,zn a];exact h _ (xB a)
theorem gQ(s:BY)(w:World):∃C O,(convert 9 181 (.string s)).run prog w = .ok (.slice (some ⟨w.heap.size,0,none⟩) s.size C) (w.alloc O).drew
  /\ ∀j,j<s.size->(w.alloc O).drew.cell? ⟨w.heap.size,0+j,none⟩=some (.int .u8 (((s.data.toList.getD j 0).toNat:Nat):Int)):=by
 refine⟨_,_,run_bytes_of_string w _ _ _ s underlying9 underlying181 underlying5,λj a=>?_⟩;show (w.alloc _).cell? _=_;rw[yO,World.cell?_alloc_mark];rw[bytesRow_at s _ j a,Ref.getD_at s j a]
 rfl
theorem aU(s:BY)(w:World)(m:s.size<=maxLen) :
  Calls prog 51 #[.string s] w λe w'=>e = .returned (.bool (Ref.qh s))/\Below w.heap.size w w':=by
 unfold maxLen at m
 by_cases h1:1<=s.size
 ·have h:decide ((0:Int)<(s.size:Int))=true:=zC (by omega)
  by_cases h2:s.size<=12
  ·have i:decide ((s.size:Int)<=12)=true:=zC (by omega);obtain⟨C,O,k,b⟩:=gQ s w;have a:Below w.heap.size w (w.alloc O).drew:=(nbl w _).drew
   have c:=fZ s.size w.heap.size 0 C 90 #[] (λj=>(((s.data.toList.getD j 0).toNat:Nat):Int)) (λj=>Zq (s.data.toList.getD j 0).toNat) _ (by omega)
    (xg func90 (by kernel_rfl) rfl) b
    (λW j _ _=>(Gz _ W (VO _)).mono λe w' ⟨l,n⟩=>⟨l,n ▸ zf _ _⟩)
   have f:=fU s.data.toList Zq;rw[Ref.zA] at f;rw[f] at c
   have g:Ref.qh s=s.data.toList.all λc=>Zq c.toNat:=by
    unfold Ref.qh Ref.letters Zq;rw[zC (by omega)];rfl
   rw[g];generalize (s.data.toList.all λc=>Zq c.toNat)=R at c;clear f g b;go_enter func51,ntmps51
   go_wp2_with (go_at_call 89;refine c.mono ?_;rintro e w' ⟨rfl,d⟩)
   go_ret;exact⟨rfl,a.trans (d.mono a.size)⟩
  ·have i:decide ((s.size:Int)<=12)=false:=zO (by omega);rw[Ref.JW s (by omega)];go_enter func51,ntmps51
   go_wp2
   go_ret;exact⟨rfl,zf _ _⟩
 ·have h:decide ((0:Int)<(s.size:Int))=false:=zO (by omega);rw[Ref.JW s (by omega)];go_enter func51,ntmps51
  go_wp2
  go_ret;exact⟨rfl,zf _ _⟩
theorem below_drewN{B:Nat}{a w:World}(h:Below B a w):∀q,Below B a (w.drewN q)
 | 0=>h
 | q+1=>(below_drewN h q).drew
def QC(w:World):Prop:=∃m,w.cell? ⟨4,0,none⟩=some (.int .i64 m)
theorem QC.below{w w':World}(h:QC w)(hb:Below w.heap.size w w'):QC w':=by
 obtain⟨m,a⟩:=h;exact⟨m,zi hb a⟩
theorem Cy(u:BY)(w:World)(f:u.size<=1000)(a:QC w) :
  Calls prog 230 #[.string u,.string ⟨#[125]⟩] w λe w'=>(∃X,e = .returned (.tuple #[.string (Pg.Qo u),.string X,.bool (Pg.Qn u)]))/\Below w.heap.size w w':=by
 obtain⟨m,a⟩:=a;have c:=Any.strings_Cut Tryz.lays145 u ⟨#[125]⟩ m w (by omega) a;obtain⟨b,d⟩:=Pg.Cz u;refine c.mono ?_;rintro e w' ⟨rfl,n,rfl⟩;refine⟨⟨⟨(Lib.cut u.data.toList [125]).2.1.toArray⟩,?_⟩,below_drewN (zf _ _) n⟩;rw[<- b,<- d]
theorem Oz{a b:Int}{c d:BY}{c1 c2:Int}(e:a=b)(f:c=d)(g:c1=c2) :
  Ending.returned (.tuple #[.agg #[.int .i32 a,.string c],.int .i64 c1]) = .returned (.tuple #[.agg #[.int .i32 b,.string d],.int .i64 c2]):=by rw[e,f,g]
theorem Od(t:BY)(w:World)(I:t.size<=100)(C:QC w) :
  Calls prog 196 #[.string t] w λe w'=>
   e = .returned (.tuple #[.agg #[.int .i32 (Pg.ZJ t).1,.string (Pg.ZJ t).2.1],.int .i64 ((Pg.ZJ t).2.2:Nat)])/\Below w.heap.size w w':=by
 by_cases h0:t.size=0
 ·have a:Pg.ZJ t=(0,⟨#[]⟩,0):=by unfold Pg.ZJ;rw[zb h0]
  rw[a]
  have r:t=⟨#[]⟩:=by
   have h:=h0;simp at h;exact h
  subst r;go_enter func196,ntmps196
  go_wp2
  exact zN (v := .tuple #[.agg #[.int .i32 0,.string ⟨#[]⟩],.int .i64 0]) (by simp[results,results196,go_sem]) rfl ⟨rfl,nbl _ _⟩
 have D:(t.toList==([]:List UInt8))=false:=by
  rw[Lib.toList_data]
  cases h:t.data.toList with
  | nil=>exact absurd (by rw[Lib.size_eq,h];rfl) h0
  | cons _ _=>rfl
 have z:0<t.size:=by omega
 obtain⟨b,hb⟩:=Nm ((t[0]'z));have B:t.data.toList.getD 0 0=b:=by rw[Ref.getD_at t 0 z,hb]
 have a:Pg.ZJ t=Pg.ZJ t:=rfl
 conv at a=>rhs;unfold Pg.ZJ
 rw[za h0,B] at a;have y:=b.toNat_lt
 by_cases h3:b.toNat=36\/b.toNat=42\/b.toNat=63
 ·rw[zb h3] at a;rw[a];clear a;have q:(b.toNat:Int)=36\/(b.toNat:Int)=42\/(b.toNat:Int)=63:=by omega
  clear h3
  rcases q with h|h|h
  all_goals
   go_enter func196,ntmps196
   go_wp2
   exact zN (v := .tuple #[.agg #[.int .i32 b.toNat,.string ⟨#[]⟩],.int .i64 2]) (by simp[results,results196,go_sem,h]) rfl ⟨rfl,nbl _ _⟩
 rw[za h3] at a;have J:((b.toNat:Int)==36)=false:=by rw[qI];omega
 have K:((b.toNat:Int)==42)=false:=by rw[qI];omega
 have L:((b.toNat:Int)==63)=false:=by rw[qI];omega
 clear h3
 by_cases h4:b.toNat=123
 ·have H:(b.toNat:Int)=123:=by omega
  rw[zb h4] at a;clear h4;obtain⟨u,A⟩:=Nm (t.extract 1 t.size);rw[A] at a;have G:u.size<=100:=by rw[<- A,jI];omega
  have F:(1:Int)<=(t.size:Int):=by omega
  have c:=λO=>Cy u (w.alloc O) (by omega) (C.below (nbl w O))
  cases hh:Pg.Qn u with
  | false=>
   rw[hh,za (by decide)] at a;rw[hh] at c;rw[a];clear a hh;go_enter func196,ntmps196
   go_wp2_with (go_at_call 230;refine (c _).mono ?_;rintro e w' ⟨⟨X,rfl⟩,d⟩;obtain⟨l,x⟩:=ZF d)
   have o:w.heap.size<w'.heap.size:=by have:=d.size;simp at this;omega
   have j:Below w.heap.size w w':=(nbl w _).trans (d.mono (by simp));exact zN (v := .tuple #[.agg #[.int .i32 0,.string ⟨#[]⟩],.int .i64 0]) (by simp[results,results196,go_sem,l]) rfl ⟨rfl,(j.setCell (ze _) _).setCell (ze _) _⟩
  | true=>
   rw[hh,zb rfl] at a;rw[hh] at c;obtain⟨nm,g⟩:=Nm (Pg.Qo u)
   have E:nm.size<=100:=by
    rw[<- g];unfold Pg.Qo;rw[hh,zb rfl,jI];omega
   rw[g] at a c;have n:=λW=>aU nm W (by unfold maxLen;omega)
   cases hi:Ref.qh nm with
   | true=>
    rw[hi,zb rfl] at a;rw[hi] at n;rw[a];clear a hh hi g;go_enter func196,ntmps196
    go_wp2_with (first
     | (go_at_call 230;refine (c _).mono ?_;rintro e w' ⟨⟨X,rfl⟩,d⟩;obtain⟨l,x⟩:=ZF d;have o:w.heap.size<w'.heap.size:=by (have:=d.size;simp at this;omega))
     | (go_at_call 51;refine (n _).mono ?_;rintro e m ⟨rfl,f⟩;obtain⟨i,p⟩:=ZF f))
    have s:w.heap.size<m.heap.size:=by have:=f.size;omega
    have j:Below w.heap.size w w':=(nbl w _).trans (d.mono (by simp));have k:Below w.heap.size w m:=j.trans (f.mono j.size);exact zN (v := .tuple #[.agg #[.int .i32 0,.string nm],.int .i64 (2+nm.size+1)]) (by simp[results,results196,go_sem,l,o,i]) rfl ⟨Oz rfl rfl (by simp),(k.setCell (ze _) _).setCell (ze _) _⟩
   | false=>
    rw[hi,za (by decide)] at a;rw[hi] at n;rw[a];clear a hh hi g;go_enter func196,ntmps196
    go_wp2_with (first
     | (go_at_call 230;refine (c _).mono ?_;rintro e w' ⟨⟨X,rfl⟩,d⟩;obtain⟨l,x⟩:=ZF d;have o:w.heap.size<w'.heap.size:=by (have:=d.size;simp at this;omega))
     | (go_at_call 51;refine (n _).mono ?_;rintro e m ⟨rfl,f⟩;obtain⟨i,p⟩:=ZF f))
    have s:w.heap.size<m.heap.size:=by have:=f.size;omega
    have j:Below w.heap.size w w':=(nbl w _).trans (d.mono (by simp));have k:Below w.heap.size w m:=j.trans (f.mono j.size);exact zN (v := .tuple #[.agg #[.int .i32 0,.string ⟨#[]⟩],.int .i64 0]) (by simp[results,results196,go_sem,l,o,i]) rfl ⟨rfl,(k.setCell (ze _) _).setCell (ze _) _⟩
 ·have H:((b.toNat:Int)==123)=false:=by rw[qI];omega
  rw[za h4] at a;rw[a];clear a h4;go_enter func196,ntmps196
  go_wp2
  exact zN (v := .tuple #[.agg #[.int .i32 0,.string ⟨#[]⟩],.int .i64 0]) (by simp[results,results196,go_sem]) rfl ⟨rfl,nbl _ _⟩
def Xj(w:World):Prop:=Lib.Utf8Tabs 2 3 w
theorem Xj.below{w w':World}(h:Xj w)(hb:Below w.heap.size w w'):Xj w':=Utf8Tabs_below h hb
theorem iQ(s:BY)(w:World)(f:0<s.size)(b:Xj w)(c n:Nat)(d:Utf8.decode s 0=(c,n)) :
  Calls prog 197 #[.string s] w λe w'=>e = .returned (.tuple #[.int .i32 (c:Int),.int .i64 (n:Int)])/\Below w.heap.size w w':=by
 have a:=Any.utf8_DecodeRuneInString Tryz.lays197 s w b;have e:Lib.decodeGo s=(c,n):=by unfold Lib.decodeGo;rw[za (by omega),d]
 rw[e] at a;exact a
theorem rD(s:BY)(w:World)(f:0<s.size)(C:s.size<=100)(x:QC w)(l:Xj w)(A:Int)(B:BY)(N:Nat)(d:Pg.Yk (Ref.qY s)=(A,B,N)) :
  Calls prog 157 #[.string s] w λe w'=>
   e = .returned (.tuple #[.agg #[.int .i32 A,.string B],.int .i64 (N:Int)])/\Below w.heap.size w w':=by
 obtain⟨b,hb⟩:=Nm ((s[0]'f));have i:s.data.toList.getD 0 0=b:=by rw[Ref.getD_at s 0 f,hb]
 have m:=b.toNat_lt;have y:(0:Int)<(s.size:Int):=by omega
 have b0:=λO=>nbl w O
 by_cases h1:b.toNat=42
 ·have e:=Pg.PW s f (by rw[i];exact h1);rw[d] at e;obtain⟨rfl,rfl,rfl⟩:A = -2/\B=⟨#[]⟩/\N=1:=by simpa using e
  have p:(b.toNat:Int)=42:=by omega
  clear h1 d e;go_enter func157,ntmps157
  go_wp2
  exact zN (v := .tuple #[.agg #[.int .i32 (-2),.string ⟨#[]⟩],.int .i64 1]) (by simp[results,results157,go_sem]) rfl ⟨rfl,nbl _ _⟩
 have E:((b.toNat:Int)==42)=false:=by rw[qI];omega
 by_cases h2:b.toNat=63
 ·have e:=Pg.PU s f (by rw[i];exact h2);rw[d] at e;obtain⟨rfl,rfl,rfl⟩:A = -1/\B=⟨#[]⟩/\N=1:=by simpa using e
  have p:(b.toNat:Int)=63:=by omega
  clear h1 h2 d e;go_enter func157,ntmps157
  go_wp2
  exact zN (v := .tuple #[.agg #[.int .i32 (-1),.string ⟨#[]⟩],.int .i64 1]) (by simp[results,results157,go_sem]) rfl ⟨rfl,nbl _ _⟩
 have F:((b.toNat:Int)==63)=false:=by rw[qI];omega
 by_cases h3:b.toNat=36
 ·have e:=Pg.PO s f (by rw[i];exact h3);rw[d] at e;have p:(b.toNat:Int)=36:=by omega
  obtain⟨u,o⟩:=Nm (s.extract 1 s.size);have k:u.size<=100:=by rw[<- o,jI];omega
  rw[o] at e;have c:=λO=>Od u (w.alloc O) k (x.below (b0 O));rw[<- e] at c;have z:(1:Int)<=(s.size:Int):=by omega
  clear h1 h2 h3 d e;go_enter func157,ntmps157
  go_wp2_with (go_at_call 196;refine (c _).mono ?_;rintro e w' ⟨rfl,a⟩;obtain⟨g,j⟩:=ZF a)
  have h:Below w.heap.size w w':=(b0 _).trans (a.mono (by simp));exact zN (v := .tuple #[.agg #[.int .i32 A,.string B],.int .i64 N]) (by simp[results,results157,go_sem,g]) rfl ⟨rfl,(h.setCell (ze _) _).setCell (ze _) _⟩
 have G:((b.toNat:Int)==36)=false:=by rw[qI];omega
 rcases Pg.dH s f (by rw[i];exact h1) (by rw[i];exact h2) (by rw[i];exact h3) with ⟨hd,e⟩|⟨c,n,hc,hd,hn,hns,e⟩
 ·rw[d] at e;obtain⟨rfl,rfl,rfl⟩:A=0/\B=⟨#[]⟩/\N=0:=by simpa using e
  have c:=λO=>iQ s (w.alloc O) f (l.below (b0 O)) _ _ hd;clear h1 h2 h3 d e hd;go_enter func157,ntmps157
  go_wp2_with (go_at_call 197;refine (c _).mono ?_;rintro e w' ⟨rfl,a⟩;obtain⟨g,j⟩:=ZF a)
  have h:Below w.heap.size w w':=(b0 _).trans (a.mono (by simp));exact zN (v := .tuple #[.agg #[.int .i32 0,.string ⟨#[]⟩],.int .i64 0]) (by simp[results,results157,go_sem,g]) rfl ⟨rfl,(h.setCell (ze _) _).setCell (ze _) _⟩
 ·rw[d] at e;obtain⟨rfl,rfl,rfl⟩:A=(c:Int)/\B=⟨#[]⟩/\N=n:=by simpa using e
  have cd:=λO=>iQ s (w.alloc O) f (l.below (b0 O)) _ _ hd;have r:(0:Int)<=(c:Int):=by omega
  have t:(c:Int)<=1114111:=by omega
  by_cases hcc:c=65533
  ·have q:(c:Int)=65533:=by omega
   have D:((N:Int)==1)=false:=by rw[qI];omega
   clear h1 h2 h3 d e hd hcc hn;go_enter func157,ntmps157
   go_wp2_with (go_at_call 197;refine (cd _).mono ?_;rintro e w' ⟨rfl,a⟩;obtain⟨g,j⟩:=ZF a)
   have h:Below w.heap.size w w':=(b0 _).trans (a.mono (by simp));exact zN (v := .tuple #[.agg #[.int .i32 c,.string ⟨#[]⟩],.int .i64 N]) (by simp[results,results157,go_sem,g,q]) rfl ⟨rfl,(h.setCell (ze _) _).setCell (ze _) _⟩
  ·have q:((c:Int)==65533)=false:=by rw[qI];omega
   clear h1 h2 h3 d e hd hcc hn;go_enter func157,ntmps157
   go_wp2_with (go_at_call 197;refine (cd _).mono ?_;rintro e w' ⟨rfl,a⟩;obtain⟨g,j⟩:=ZF a)
   have h:Below w.heap.size w w':=(b0 _).trans (a.mono (by simp));exact zN (v := .tuple #[.agg #[.int .i32 c,.string ⟨#[]⟩],.int .i64 N]) (by simp[results,results157,go_sem,g]) rfl ⟨rfl,(h.setCell (ze _) _).setCell (ze _) _⟩
namespace Pg
def j4(l:List (Int×BY)):List Value:=l.flatMap λp=>[.int .i32 (XA p),.string (nameOf p)]
theorem Y3(l:List (Int×BY))(p:Int×BY):j4 (l++[p])=j4 l++[.int .i32 (XA p),.string (nameOf p)]:=by
 unfold j4;simp
def wD(w:World)(P:Option (List (Int×BY)))(v x:Value)(w':World):Prop:=
 (P=none/\v = .slice none 0 0/\∃k:Int,x = .iface 216 (.agg #[.int .i64 k])) \/
 (∃a,P=some a/\x = .nilIface/\w'.ownsRow w.heap.size 304 2 v a.length (j4 a))
theorem EP(s:BY)(k n:Nat):(s.extract k s.size).extract n (s.extract k s.size).size=s.extract (k+n) s.size:=by
 rw[eT,jI];have e:min (k+(min s.size s.size-k)) s.size=s.size:=by omega
 rw[e]
end Pg
theorem Tryz.infoPgPart:(prog.info? 304).map (λi=>(i.zero,i.size,i.bytes))=some (some (.agg #[.int .i32 0,.string ⟨#[]⟩]),2,24):=by kernel_rfl
theorem Mw(k:Int)(c:BY):∀u ∈ [Value.int .i32 k,Value.string c],u.oneCell'=true:=by
 intro u a;simp at a;rcases a with rfl|rfl<;>rfl
theorem Oi(s:BY)(w:World)(hs:s.size<=maxLen)(V:QC w)(T:Xj w) :
  Calls prog 117 #[.string s] w λe w'=>∃v x,e = .returned (.tuple #[v,x])/\Below w.heap.size w w'/\Pg.wD w (Ref.parts s) v x w':=by
 unfold maxLen at hs
 by_cases h60:60<s.size
 ·have F:Ref.parts s=none:=by unfold Ref.parts;rw[zb h60]
  rw[F];have hi:(60:Int)<(s.size:Int):=by omega
  go_enter func117,ntmps117
  go_wp2
  go_ret2;exact⟨_,_,rfl,zf _ _,.inl ⟨rfl,rfl,_,rfl⟩⟩
 obtain⟨i0,hi,O,Q,R⟩:=qP Tryz.infoPgPart;have a4:decide (60<(s.size:Int))=false:=zO (by omega);have F:Ref.parts s=(Ref.vX (s.size+1) s).map λr=>[]++r:=by unfold Ref.parts;rw[za (by omega)];simp
 generalize M:Ref.parts s=P at *;clear M;have S:Hid (P=(Ref.vX (s.size+1) s).map λr=>[]++r):=F;clear F;have W:s.size<=60:=by omega
 clear h60;go_enter func117,ntmps117
 go_wp2
 go_loopw [4,5] (λlv L wr=>∃(k f:Nat) (done:List (Int×BY)),L = .int .i64 k/\k<=s.size/\done.length<=k/\(s.extract k s.size).size<f/\P=((Ref.vX f (s.extract k s.size)).map λr=>done++r) /\
   wr.ownsRow w.heap.size 304 2 lv done.length (Pg.j4 done)/\Below w.heap.size w wr) (λ_ L _=>s.size-(intOf L).toNat)
 case atStart=>
  refine⟨0,s.size+1,[],rfl,by omega,by simp,by rw[jI];omega,?_,qD _ _ _ _,zf _ _⟩;rw[S.out];simp
 case round=>
  obtain⟨k,f,done,rfl,hk,a0,G,p,g,a⟩:=hrel;obtain⟨t,X⟩:=Nm (s.extract k s.size);have a5:t.size=s.size-k:=by rw[<- X,jI];omega
  have d:=λn=>Pg.EP s k n;rw[X] at p G d;have h:=hid p;have Y:=hid d;clear p S d;have E:=a.size
  by_cases hlt:k<s.size
  ·have C:0<t.size:=by omega
   have U:(k:Int)<(s.size:Int):=by omega
   cases hst:Ref.qY t with
   | none=>
    have i:=Ref.bS P f t done C G h.out hst;subst i;have c:=rD t wr C (by omega) (V.below a) (T.below a) 0 ⟨#[]⟩ 0 (by rw[hst];rfl);clear hst
    go_wp2_with (go_at_call 157;refine c.mono ?_;rintro e w' ⟨rfl,b⟩)
    go_ret2;exact⟨_,_,rfl,(a.trans (b.mono E)).alloc (by have:=b.size;omega) _,.inl ⟨rfl,rfl,_,rfl⟩⟩
   | some q=>
    obtain⟨m,u,n⟩:=q;obtain⟨Z,B,o⟩:=Ref.Vb P f t done C G h.out m u n hst;have a2:=Ref.oU t C m u n hst;rw[Y.out n] at B o;have c:=rD t wr C (by omega) (V.below a) (T.below a) (Pg.XA (m,u)) (Pg.nameOf (m,u)) n (by rw[hst];rfl);have D:=Pg.Y3 done (m,u);have K:=hid D;have I:=hid o;obtain⟨sg,A⟩:∃x,Pg.XA (m,u)=x:=⟨_,rfl⟩;obtain⟨nm,y⟩:∃x,Pg.nameOf (m,u)=x:=⟨_,rfl⟩;rw[A,y] at c;have J:=hid A;have H:=hid y;have a1:((n:Int)==0)=false:=by rw[qI];omega
    clear o hst h D A y
    go_wp2_with (first
     | (go_at_call 157;refine c.mono ?_;rintro e w' ⟨rfl,b⟩)
     | (at_builtin;refine yK _ rfl _ _ 227 rfl w.heap.size 304 i0 (.agg #[.int .i32 0,.string ⟨#[]⟩]) 2 24 underlying227 hi O Q R rfl (by decide) _ done.length (Pg.j4 done) rfl (((ownsRow_below g b).alloc _).alloc _) ⟨w'.heap.size+1,0,none⟩ 1 1 [.int .i32 sg,.string nm] rfl rfl ?_ ?_ ?_ ?_ ?_ ?_))
    ·exact X0 _ _ _ _ _ _ (by simp)
    ·exact Mw _ _
    ·unfold maxLen;omega
    ·omega
    ·have:=b.size;simp;omega
    ·intro v' w1 l j _;have N:=VU (a.trans (b.mono E)) (ownsRow_below g b) _ _ j
     have z:w1.ownsRow w.heap.size 304 2 v' (done++[(m,u)]).length (Pg.j4 (done++[(m,u)])):=by
      rw[K.out,J.out,H.out,qA];exact l
     clear l j g c b
     go_wp2
     go_roundw
     case rel=>exact⟨k+n,Z,_,by go_num,by omega,by simp;omega,B,I.out,z,N⟩
     case measure=>simp[intOf];omega
  ·have i:=Ref.pF P f t done (by omega) G h.out;subst i;clear h
   go_wp2
   go_ret2;exact⟨_,_,rfl,a,.inr ⟨_,rfl,rfl,g⟩⟩
end Go.Proofs.YtagnlbgbnfnapaaGreatDoor
