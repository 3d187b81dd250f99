/- P -/
import Derived.Test.YtdakgnaojakldaaGreatDoorP51
open Go.Proofs.Tryz
set_option maxRecDepth 100000
set_option maxHeartbeats 8000000
namespace Go.Proofs.YtdakgnaojakldaaGreatDoor
open Go.RowKit
def ja(ms:List (BY×BY)):List Value:=ms.flatMap λm=>[.string m.1,.string m.2]
theorem Sv(a b:List (BY×BY)):ja (a++b)=ja a++ja b:=by simp[ja]
theorem ww(ms:List (BY×BY)):(ja ms).length=ms.length*2:=by
 induction ms with
 | nil=>rfl
 | cons m ms a=>rw[show ja (m::ms) = .string m.1 :: .string m.2::ja ms by simp[ja]];simp[a];omega
theorem gy(ms:List (BY×BY))(j:Nat)(h:j<ms.length):(ja ms)[j*2]?=some (.string ms[j].1)/\(ja ms)[j*2+1]?=some (.string ms[j].2):=by
 induction ms generalizing j with
 | nil=>simp at h
 | cons p a b=>
  have e:ja (p::a) = .string p.1 :: .string p.2::ja a:=by simp[ja]
  rw[e]
  cases j with
  | zero=>simp
  | succ j=>
   have:=b j (by simpa using h)
   rw[show (j+1)*2=(j*2)+1+1 by omega,show (j*2)+1+1+1=(j*2+1)+1+1 by omega]
   simpa using this
theorem Sw(ms:List (BY×BY))(j:Nat)(u:Value)(h:(ja ms)[j]?=some u):∃k,∃c:k<ms.length,(j=k*2/\u = .string ms[k].1)\/(j=k*2+1/\u = .string ms[k].2):=by
 have d:j<ms.length*2:=by
  rw[<- ww];exact (zW.1 h).1
 refine⟨j / 2,by omega,?_⟩;have b:=gy ms (j / 2) (by omega)
 rcases Nat.mod_two_eq_zero_or_one j with e|e
 ·left
  have a:j / 2*2=j:=by omega
  rw[a,h] at b;exact⟨a.symm,by simpa using b.1⟩
 ·right
  have a:j / 2*2+1=j:=by omega
  rw[a,h] at b;exact⟨a.symm,by simpa using b.2⟩
def spare:BY×BY:=(⟨#[115,112,97,114,101]⟩,⟨#[]⟩)
theorem Tryz.infoMark:(prog.info? 62).map (λi=>(i.zero,i.size,i.bytes))=some (some (.agg #[.string ⟨#[]⟩,.string ⟨#[]⟩]),2,32):=by kernel_rfl
theorem RV(who act on:BY)(w:World) :
  Calls prog 120 #[.agg #[.string who,.string act,.string on,.slice none 0 0]] w λe w'=>
   e = .returned (.agg #[.string who,.string act,.string on,.slice none 0 0])/\Below w.heap.size w w':=by
 have q:∀(w:World) (a:Option Addr) (n c d b:Nat),(binOp .eql 51 (.slice a n c) (.slice none d b)).run prog w = .ok (.bool a.isNone) w:=λw a n c d b=>Lib.run_eql_slice_nil w _ _ a n c d b underlying51;go_enter func120,ntmps120
 go_wp2
 exact zA (v := .agg #[.string who,.string act,.string on,.slice none 0 0]) (by simp[results,results120,go_sem]) rfl ⟨rfl,(nbl _ _).alloc (by simp) _⟩
theorem Aw(ms:List (BY×BY)):∀u ∈ ja ms,u.oneCell'=true:=by
 intro u a;unfold ja at a;rw[List.mem_flatMap] at a;obtain⟨m,_,b⟩:=a;simp at b
 rcases b with rfl|rfl<;>rfl
theorem SA{w w':World}{a:Addr}{ms:List (BY×BY)}(b:∀j,(h:j<ms.length)->w.cell? (a.add (j*2))=some (.string ms[j].1)/\w.cell? (a.add (j*2+1))=some (.string ms[j].2))
  (hb:Below w.heap.size w w'):∀j u,(ja ms)[j]?=some u->w'.cell? (a.add j)=some u:=by
 intro j u h;obtain⟨k,c,⟨rfl,rfl⟩|⟨rfl,rfl⟩⟩:=Sw ms j u h
 ·exact zh hb (b k c).1
 ·exact zh hb (b k c).2
theorem RX(who act on:BY)(ms:List (BY×BY))(s:Addr)(cap:Nat)(w:World)(hn:ms.length<=1000000000)
  (F:∀j,(h:j<ms.length)->w.cell? (s.add (j*2))=some (.string ms[j].1)/\w.cell? (s.add (j*2+1))=some (.string ms[j].2)) :
  Calls prog 120 #[.agg #[.string who,.string act,.string on,.slice (some s) ms.length cap]] w λe w'=>
   ∃g c,e = .returned (.agg #[.string who,.string act,.string on,.slice (some ⟨g,0,none⟩) ms.length c])/\Below w.heap.size w w' /\
    w'.ownsRow w.heap.size 62 2 (.slice (some ⟨g,0,none⟩) (ms.length+2) c) (ms.length+2) (ja (ms++[spare,spare])):=by
 obtain⟨P,hi,C,D,E⟩:=xA Tryz.infoMark;have q:∀(w:World) (a:Option Addr) (n c J H:Nat),(binOp .eql 51 (.slice a n c) (.slice none J H)).run prog w = .ok (.bool a.isNone) w:=λw a n c J H=>Lib.run_eql_slice_nil w _ _ a n c J H underlying51;have X:=hid F;clear F;go_enter func120,ntmps120
 go_wp2_with (at_builtin;refine vS _ rfl (.tmp 8) (.tmp 10) 51 rfl (w.heap.size+2) 62 P (.agg #[.string ⟨#[]⟩,.string ⟨#[]⟩]) 2 32 underlying51 hi C D E rfl (by decide) _ 0 [] rfl (ql _ _ _ _) s ms.length cap (ja ms) rfl (ww ms) ?_ ?_ ?_ ?_ ?_ ?_)
 ·exact SA X.out ((nbl w _).alloc (by simp) _)
 ·exact Aw ms
 ·unfold maxLen;omega
 ·omega
 ·simp
 intro v1 w1 l f _;have O:=(nbl w (Obj.cells #[Value.string who,Value.string act,Value.string on,Value.slice (some s) ms.length cap] 53)).alloc (by simp) (Obj.cells #[Value.string ⟨#[]⟩,Value.string ⟨#[]⟩,Value.string ⟨#[]⟩,Value.slice none 0 0] 53);have L:=ky w (Obj.cells #[Value.string who,Value.string act,Value.string on,Value.slice (some s) ms.length cap] 53) (Obj.cells #[Value.string ⟨#[]⟩,Value.string ⟨#[]⟩,Value.string ⟨#[]⟩,Value.slice none 0 0] 53);have y:=(ze (w.heap.size+2) _).grown f (by simp) (λk I=>by cases I);have r:=(y.block w.heap.size (by omega)).trans L.1;have A:=(y.block (w.heap.size+1) (by omega)).trans L.2;have M:Below w.heap.size w w1:=O.trans (y.mono (by omega));have W:w.heap.size+2<=w1.heap.size:=by have:=y.size;simp at this;omega
 have Q:=(zg r 3).1;simp only[lU,uM,yV] at Q;have x:=hid M;have t:=hid r;have u:=hid A;clear O L y r A f M
 go_wp2_with (at_builtin;refine vS _ rfl (.tmp 12) (.tmp 15) 51 rfl (w.heap.size+2) 62 P (.agg #[.string ⟨#[]⟩,.string ⟨#[]⟩]) 2 32 underlying51 hi C D E rfl (by decide) _ ms.length (ja ms) rfl (l.alloc _) ⟨w1.heap.size,0,none⟩ 2 2 [.string spare.1,.string spare.2,.string spare.1,.string spare.2] rfl rfl ?_ ?_ ?_ ?_ ?_ ?_)
 ·exact FT _ _ _ _ _ _
 ·exact Aw [spare,spare]
 ·unfold maxLen;omega
 ·omega
 ·simp;omega
 intro v2 V m i _;have z:=((ze (w.heap.size+2) w1).alloc W _).grown i (by simp;omega) (λk I=>(l.lt k I).1);have b:=(z.block w.heap.size (by omega)).trans t.out;have d:=(z.block (w.heap.size+1) (by omega)).trans u.out;have N:Below w.heap.size w V:=x.out.trans (z.mono (by omega));have z2:=z.size
 obtain⟨g,c,rfl,a7,a6⟩:∃g c,v2 = .slice (some ⟨g,0,none⟩) (ms.length+2) c/\w.heap.size+2<=g/\ms.length+2<=c:=by
  rcases m.2 with ⟨_,h⟩|⟨g,c,cur,hv,hg,_,F,_⟩
  ·omega
  ·exact⟨g,c,hv,hg,F⟩
 have B:Hid (V.ownsRow (w.heap.size+2) 62 2 (.slice (some ⟨g,0,none⟩) (ms.length+2) c) (ms.length+2) (ja (ms++[spare,spare]))):=by
  rw[Sv];exact m
 have Y:=(zg b 0).1;have Z:=(zg b 1).1;have a2:=(zg b 2).1;have a3:=(zg b 3).1;have f3:=(zg b 3).2;have R:=(zg d 0).1;have S:=(zg d 1).1;have T:=(zg d 2).1;have U:=(zg d 3).1;have f0:=λo=>(zg d o).2;simp only[lU,uM,yV] at Y Z a2 a3 R S T U;have G:=hid N;clear z b d i m l t u x Q W N
 go_wp2
 refine zA (v := .agg #[.string who,.string act,.string on,.slice (some ⟨g,0,none⟩) ms.length c]) ?_ rfl ⟨g,c,rfl,?_,?_⟩
 ·simp[results,results120,go_sem,R,S,T,U]
 ·exact ((((G.out.setCell (by simp) _).setCell (by simp) _).setCell (by simp) _).setCell (by simp) _).setCell (by simp) _
 ·refine xC (base:=w.heap.size+2) ?_ (by omega);have K:(Value.slice (some ⟨g,0,none⟩) (ms.length+2) c).ownBlock≠some w.heap.size:=by simp[Value.ownBlock];omega
  have p:(Value.slice (some ⟨g,0,none⟩) (ms.length+2) c).ownBlock≠some (w.heap.size+1):=by simp[Value.ownBlock];omega
  exact qY (qY (qY (qY (qY B.out K _) p _) p _) p _) p _
theorem zaB(f g h i j k:BY)(w:World) :
  Calls prog 123 #[.agg #[.string f,.string g,.string h,.slice none 0 0],.agg #[.string i,.string j,.string k,.slice none 0 0]] w λe w'=>
   e = .returned (.bool true)/\Below w.heap.size w w':=by
 have q:∀(w:World) (a:Option Addr) (n c d b:Nat),(binOp .eql 51 (.slice a n c) (.slice none d b)).run prog w = .ok (.bool a.isNone) w:=λw a n c d b=>Lib.run_eql_slice_nil w _ _ a n c d b underlying51;go_enter func123,ntmps123
 go_wp2
 go_ret;exact⟨rfl,(nbl _ _).alloc (by simp) _⟩
theorem mr{w:World}{a:Addr}{v:Value}(h:w.cell? (a.add (0*2))=some v):∃b o,a=⟨b,o,none⟩:=by
 obtain⟨b,o,sp⟩:=a
 cases sp with
 | none=>exact⟨b,o,rfl⟩
 | some s=>
  exfalso;unfold World.cell? Addr.add at h;simp at h
  split at h<;>simp at h
theorem Du{w wr:World}{g k n:Nat}{L:List (BY×BY)}{e:Value}(i:g<w.heap.size)(hb:zw (λb=>b=g) w wr)(l:w.heap.size+2<=wr.heap.size)(c:wr.cell? ⟨w.heap.size+1,n,none⟩=some e)
  (d:∀o,wr.frozen? ⟨g,o,none⟩=false)(f:∀j,(h:j<L.length)->k<=j->wr.cell? ⟨g,j*2,none⟩=some (.string L[j].1)/\wr.cell? ⟨g,j*2+1,none⟩=some (.string L[j].2))(x y:Value)(O:Obj) :
  zw (λb=>b=g) w (((wr.setCell ⟨g,k*2,none⟩ x).setCell ⟨g,k*2+1,none⟩ y).alloc O).drew/\w.heap.size+2<=(((wr.setCell ⟨g,k*2,none⟩ x).setCell ⟨g,k*2+1,none⟩ y).alloc O).drew.heap.size /\
  (((wr.setCell ⟨g,k*2,none⟩ x).setCell ⟨g,k*2+1,none⟩ y).alloc O).drew.cell? ⟨w.heap.size+1,n,none⟩=some e/\(∀o,(((wr.setCell ⟨g,k*2,none⟩ x).setCell ⟨g,k*2+1,none⟩ y).alloc O).drew.frozen? ⟨g,o,none⟩=false) /\
  ∀j,(h:j<L.length)->k+1<=j->(((wr.setCell ⟨g,k*2,none⟩ x).setCell ⟨g,k*2+1,none⟩ y).alloc O).drew.cell? ⟨g,j*2,none⟩=some (.string L[j].1)/\(((wr.setCell ⟨g,k*2,none⟩ x).setCell ⟨g,k*2+1,none⟩ y).alloc O).drew.cell? ⟨g,j*2+1,none⟩=some (.string L[j].2):=by
 have q:((wr.setCell ⟨g,k*2,none⟩ x).setCell ⟨g,k*2+1,none⟩ y).heap.size=wr.heap.size:=by simp[World.setCell]
 have a:Below wr.heap.size ((wr.setCell ⟨g,k*2,none⟩ x).setCell ⟨g,k*2+1,none⟩ y) (((wr.setCell ⟨g,k*2,none⟩ x).setCell ⟨g,k*2+1,none⟩ y).alloc O).drew:=((ze _ _).alloc (by omega) O).drew;refine⟨((hb.trans (zw.set (M:=λb=>b=g) wr rfl _ x)).trans (zw.set (M:=λb=>b=g) _ rfl _ y)).trans (zw.of (a.mono (by omega))),by have:=a.size;omega,?_,λo=>?_,λj h m=>⟨?_,?_⟩⟩
 ·rw[a.cell (p:=⟨w.heap.size+1,n,none⟩) (by simp only;omega),Jh _ _ _ _ _ _ (by omega),Jh _ _ _ _ _ _ (by omega)];exact c
 ·rw[a.frozen (p:=⟨g,o,none⟩) (by simp only;omega),KP,KP];exact d o
 ·rw[a.cell (p:=⟨g,j*2,none⟩) (by simp only;omega),Jh _ _ _ _ _ _ (by omega),Jh _ _ _ _ _ _ (by omega)];exact (f j h (by omega)).1
 ·rw[a.cell (p:=⟨g,j*2+1,none⟩) (by simp only;omega),Jh _ _ _ _ _ _ (by omega),Jh _ _ _ _ _ _ (by omega)];exact (f j h (by omega)).2
theorem zaC(x0 x1 x2 y0 y1 y2:BY)(ms:List (BY×BY))(A:Addr)(cap g c base:Nat)(w:World)(hn:ms.length<=1000000000)(K:0<ms.length->A.block≠g)
  (M:∀j,(h:j<ms.length)->w.cell? (A.add (j*2))=some (.string ms[j].1)/\w.cell? (A.add (j*2+1))=some (.string ms[j].2))
  (d:w.ownsRow base 62 2 (.slice (some ⟨g,0,none⟩) (ms.length+2) c) (ms.length+2) (ja (ms++[spare,spare]))) :
  Calls prog 123 #[.agg #[.string x0,.string x1,.string x2,.slice (some ⟨g,0,none⟩) ms.length c],.agg #[.string y0,.string y1,.string y2,.slice (some A) ms.length cap]] w λe w'=>
   e = .returned (.bool true)/\zw (λb=>b=g) w w':=by
 have q:∀(w:World) (a:Option Addr) (n c T G:Nat),(binOp .eql 51 (.slice a n c) (.slice none T G)).run prog w = .ok (.bool a.isNone) w:=λw a n c T G=>Lib.run_eql_slice_nil w _ _ a n c T G underlying51;have u:g<w.heap.size:=(d.lt g rfl).2
 have a6:ms.length+2<=c:=by
  rcases d.2 with ⟨_,h⟩|⟨g',G,cur,hv,N,_,M,_⟩
  ·omega
  ·simp only[Value.slice.injEq] at hv;omega
 have D:∀o,w.frozen? ⟨g,o,none⟩=false:=λo=>d.frozenAt o;obtain⟨L,H⟩:=Nm (ms++[spare,spare]);have a5:L.length=ms.length+2:=by rw[<- H];simp
 rw[H] at d
 have C:∀j,(h:j<L.length)->w.cell? ⟨g,j*2,none⟩=some (.string L[j].1)/\w.cell? ⟨g,j*2+1,none⟩=some (.string L[j].2):=λj h=>by
  have N:=gy L j h;exact⟨(d.cellAt _ (by omega)).trans N.1,(d.cellAt _ (by omega)).trans N.2⟩
 have V:=hid M;have z:=hid D;have t:=hid C;have W:=hid H;clear M D C H d;go_enter func123,ntmps123
 go_wp2
 go_loopw [6,7] (λU S wr=>∃k:Nat,k<=L.length/\U = .bool true/\S = .int .i64 k/\zw (λb=>b=g) w wr/\w.heap.size+2<=wr.heap.size/\wr.cell? ⟨w.heap.size+1,3,none⟩=some (.slice (some A) ms.length cap) /\
   (∀o,wr.frozen? ⟨g,o,none⟩=false)/\∀j,(h:j<L.length)->k<=j->wr.cell? ⟨g,j*2,none⟩=some (.string L[j].1)/\wr.cell? ⟨g,j*2+1,none⟩=some (.string L[j].2)) (λ_ S _=>L.length-(intOf S).toNat)
 case atStart=>
  have F:=λa b=>(nbl w a).alloc (by simp) b;exact⟨0,by omega,rfl,rfl,zw.of (F _ _),by simp,by simp,λo=>((F _ _).frozen (p:=⟨g,o,none⟩) u).trans (z.out o),λj h _=>⟨zh (F _ _) (t.out j h).1,zh (F _ _) (t.out j h).2⟩⟩
 case round=>
  obtain⟨k,hk,rfl,rfl,s,E,v,y,Z⟩:=hrel;have I:=hid Z;have f:=hid s;clear Z s t z
  by_cases hlt:k<L.length
  ·obtain⟨f1,f2⟩:=I.out k hlt (zf _);obtain⟨Y,i⟩:∃n,L[k].1=n:=⟨_,rfl⟩;obtain⟨v1,l⟩:∃n,L[k].2=n:=⟨_,rfl⟩;rw[i] at f1;rw[l] at f2;have f3:=λO:Obj=>zh (nbl wr O) f1;have f4:=λO:Obj=>zh (nbl wr O) f2;have a1:=λO:Obj=>zh (nbl wr O) v;have P:g<wr.heap.size:=by omega
   have a4:=λ(O:Obj) (o:Nat)=>((nbl wr O).frozen (p:=⟨g,o,none⟩) P).trans (y o)
   by_cases hkm:k<ms.length
   ·have r:L[k]=ms[k]:=by simp only[<- W.out];rw[bO hkm]
    rw[r] at i l;have m:=V.out k hkm;obtain⟨b,o,rfl⟩:=mr (V.out 0 (by omega)).1;rw[addr_add,addr_add,i,l] at m;have B:b≠g:=K (by omega);have X:=f.out.cell (x:=⟨b,o+k*2,none⟩) B m.1;have J:=f.out.cell (x:=⟨b,o+(k*2+1),none⟩) B m.2;rw[<- VX] at J;have d3:=λO:Obj=>zh (nbl wr O) X;have d4:=λO:Obj=>zh (nbl wr O) J;clear i l m X J r
    go_wp2
    go_region
    all_goals go_wp2
    have R:=Du u f.out E v y I.out (.string ⟨#[111,118,101,114]⟩) (.string ⟨#[119,114,105,116,116,101,110]⟩) (Obj.cells #[Value.string Y,Value.string v1] 62);exact⟨⟨k+1,by omega,rfl,by go_num,R⟩,by simp[intOf];omega⟩
   ·have r:L[k]=spare:=by
     simp only[<- W.out];rw[lV (by omega)];have Q:k-ms.length=0\/k-ms.length=1:=by omega
     rcases Q with e|e<;>simp[e]
    rw[r] at i l;have e1:Y=⟨#[115,112,97,114,101]⟩:=i.symm;have e2:v1=⟨#[]⟩:=l.symm;subst e1;subst e2;clear i l r
    go_wp2
    go_region
    all_goals go_wp2
    have R:=Du u f.out E v y I.out (.string ⟨#[111,118,101,114]⟩) (.string ⟨#[119,114,105,116,116,101,110]⟩) (Obj.cells #[Value.string ⟨#[115,112,97,114,101]⟩,Value.string ⟨#[]⟩] 62);exact⟨⟨k+1,by omega,rfl,by go_num,R⟩,by simp[intOf];omega⟩
  ·go_wp2
   go_ret;exact⟨rfl,f.out⟩
theorem RU{w:World}{base:Nat}{e:TypeId}{g n c:Nat}{ms ext:List (BY×BY)}(h:w.ownsRow base e 2 (.slice (some ⟨g,0,none⟩) n c) n (ja (ms++ext))):qQ w (some ⟨g,0,none⟩) ms:=by
 refine .inr ⟨g,0,rfl,λj i=>?_⟩;have a:=λj u=>h.cells (g:=g) rfl j u;have b:=gy (ms++ext) j (by simp;omega);rw[bO i] at b;have d:=a _ _ b.1;have f:=a _ _ b.2;rw[YB] at d f;exact⟨by rw[qN];exact d,by rw[qN];exact f⟩
def Xg(w:World)(ma:Option Addr)(mn:Nat)(mc:Nat)(ms:List (BY×BY)):Prop:=
 mn=ms.length/\((ma=none/\mc=0/\ms=[])\/∃a,ma=some a/\∀j,(h:j<ms.length)->w.cell? (a.add (j*2))=some (.string ms[j].1)/\w.cell? (a.add (j*2+1))=some (.string ms[j].2))
theorem Xg.at{w:World}{ma:Option Addr}{mn mc:Nat}{ms:List (BY×BY)}(h:Xg w ma mn mc ms):qQ w ma ms:=by
 rcases h.2 with ⟨_,_,rfl⟩|⟨ad,rfl,hc⟩
 ·exact .inl rfl
 ·by_cases h0:0<ms.length
  ·obtain⟨b,o,rfl⟩:=mr (hc 0 h0).1;refine .inr ⟨b,o,rfl,λj a=>?_⟩
   have:=hc j a
   rw[addr_add,addr_add] at this;exact⟨this.1,by rw[VX];exact this.2⟩
  ·exact .inl (Yu (by omega))
theorem Xg.below{w w':World}{ma:Option Addr}{mn mc:Nat}{ms:List (BY×BY)}(h:Xg w ma mn mc ms)(hb:Below w.heap.size w w'):Xg w' ma mn mc ms:=by
 refine⟨h.1,?_⟩
 rcases h.2 with h|⟨ad,rfl,hc⟩
 ·exact .inl h
 ·exact .inr ⟨ad,rfl,λj a=>⟨zh hb (hc j a).1,zh hb (hc j a).2⟩⟩
theorem RQ(who act on:BY)(ma:Option Addr)(mn mc:Nat)(ms:List (BY×BY))(l w:World)(q:Xg l ma mn mc ms)(t:ms.length<=1000000000)(a:Below l.heap.size l w) :
  Calls prog 120 #[.agg #[.string who,.string act,.string on,.slice ma mn mc]] w λe w'=>
   ∃o r,e = .returned (.agg #[.string who,.string act,.string on,.slice o mn r])/\Below w.heap.size w w'/\qQ w' o ms /\
    ∀W,Below w'.heap.size w' W->Calls prog 123 #[.agg #[.string who,.string act,.string on,.slice o mn r],.agg #[.string who,.string act,.string on,.slice ma mn mc]] W λe i=>e = .returned (.bool true)/\zw (λb=>l.heap.size<=b/\b<w'.heap.size) W i:=by
 obtain⟨rfl,h⟩:=q
 rcases h with ⟨rfl,rfl,rfl⟩|⟨ad,rfl,hc⟩
 ·refine (RV who act on w).mono ?_;rintro e w' ⟨rfl,hb⟩;refine⟨none,0,rfl,hb,.inl rfl,λW p=>?_⟩;refine (zaB who act on who act on W).mono ?_;rintro e i ⟨rfl,f⟩;exact⟨rfl,zw.of f⟩
 ·refine (RX who act on ms ad mc w t (λj n=>⟨zh a (hc j n).1,zh a (hc j n).2⟩)).mono ?_;rintro e w' ⟨g,c,rfl,hb,d⟩;refine⟨some ⟨g,0,none⟩,c,rfl,hb,RU d,λW p=>?_⟩;have m:Below l.heap.size l W:=a.trans ((hb.trans (p.mono hb.size)).mono a.size);have s:=d.lt g rfl;refine (zaC who act on who act on ms ad mc g c w.heap.size W t (λu=>?_) (λj n=>⟨zh m (hc j n).1,zh m (hc j n).2⟩) (ownsRow_below d p)).mono ?_
  ·have x:ad.block<l.heap.size:=Qe _ _ (hc 0 u).1;have y:=a.size;omega
  ·rintro e i ⟨rfl,f⟩;exact⟨rfl,f.wide (λk _ v=>by rw[v];exact⟨xu a.size s.1,s.2⟩)⟩
theorem IC(ob cb:Nat)(st:StO)(lv:Value)(ks:List zC)(who act on:BY)(ma:Option Addr)(mn mc:Nat)(ms:List (BY×BY))(M:Nat->Prop)(w:World)(hO:xw M w ob st)(hR:xN M w cb lv ks)(hn:ks.length<=1000000000)(hN:∀x ∈ ks,x.name.size<=maxLen)(hM:∀b,M b->b<w.heap.size)(d4:Agree st ks)
  (l:Xg w ma mn mc ms)(hr:Ref.aI ⟨who,act,on,ms⟩)(hl:Pg.reqLen ⟨who,act,on,ms⟩)(d5:ms.length<=1000000000)(hE:yg w) :
  Calls prog 75 #[.agg #[.pointer (some ⟨ob,0,none⟩),.pointer (some ⟨cb,0,none⟩)],.agg #[.string who,.string act,.string on,.slice ma mn mc]] w λe w'=>e = .returned (.bool true)/\Below w.heap.size w w':=by
 have v:mn=ms.length:=l.1;have cP:=λ(W:World) (hb:Below w.heap.size w W) T gc (j:qQ W T ms)=>WS ob st ⟨who,act,on,ms⟩ T gc M W (hO.below hb) j hl (hE.below hb);have cR:=λ(W:World) (hb:Below w.heap.size w W)=>zau cb lv ks st ⟨who,act,on,ms⟩ ma mc M W (hR.below hb) hn hN (λb g7=>xS (hM b g7) hb.size) d4 hO.good (xB l.at hb) hr;have cL:=λ(W:World) (hb:Below w.heap.size w W)=>RQ who act on ma mn mc ms w W l d5 hb;obtain⟨⟨⟨dv,dl,dn,dk⟩,er⟩,hd⟩:∃d,De.Jj st ⟨who,act,on,ms⟩=d:=⟨_,rfl⟩;rw[hd] at cP cR;unfold Uj jM Ref.zY at cP cR;simp only[<- v] at cP cR;obtain⟨r,h1⟩:∃W,w.alloc (.cells #[.pointer (some ⟨ob,0,none⟩),.pointer (some ⟨cb,0,none⟩)] 175)=W:=⟨_,rfl⟩;have s1:r.heap.size=w.heap.size+1:=by rw[<- h1];simp
 have z:r.heap[w.heap.size]?=some (.cells #[.pointer (some ⟨ob,0,none⟩),.pointer (some ⟨cb,0,none⟩)] 175):=by rw[<- h1];exact zB w _
 have b1:Below w.heap.size w r:=by rw[<- h1];exact nbl w _
 obtain⟨N,h2⟩:∃W,r.alloc (.cells #[.string who,.string act,.string on,.slice ma mn mc] 53)=W:=⟨_,rfl⟩;have A:N.heap[w.heap.size+1]?=some (.cells #[.string who,.string act,.string on,.slice ma mn mc] 53):=by rw[<- h2,<- s1];exact zB r _
 have b2:Below r.heap.size r N:=by rw[<- h2];exact nbl r _
 have bw:Below w.heap.size w N:=b1.trans (b2.mono b1.size);have HW:Hid ((w.alloc (.cells #[.pointer (some ⟨ob,0,none⟩),.pointer (some ⟨cb,0,none⟩)] 175)).alloc (.cells #[.string who,.string act,.string on,.slice ma mn mc] 53)=N):=hid (by rw[h1,h2]);have N1:Hid (N.heap[w.heap.size]?=some (.cells #[.pointer (some ⟨ob,0,none⟩),.pointer (some ⟨cb,0,none⟩)] 175)):=hid ((b2.block _ (by omega)).trans z);have L:=hid A;have BW:=hid bw;have CP:=hid cP;have CR:=hid cR;have CL:=hid (cL N bw);clear cP cR cL hd h1 h2 s1 z A b1 b2 bw hO hR hn hN hM d4 l hr hl d5 hE v;have e0:=(zg N1.out 0).1;have s:=(zg N1.out 1).1;have t:=(zg L.out 0).1;have f1:=(zg L.out 1).1;have f2:=(zg L.out 2).1;have u:=(zg L.out 3).1;simp at e0 s t f1 f2 u;go_enter func75,ntmps75
 go_upto_region 1 with fail
 rw[HW.out]
 go_upto_region 2 with (go_at_call 120;refine CL.out.mono ?_;rintro e q ⟨T,gc,rfl,b3,j,y⟩;have f5:=hid j;have f7:=hid y;have X:=hid (BW.out.trans (b3.mono BW.out.size));have a1:=hid ((b3.block _ (zt N1.out)).trans N1.out);have a3:=hid ((b3.block _ (zt L.out)).trans L.out);clear b3 j y)
 clear e0 s t f1 f2 u;obtain⟨w4,m⟩:∃W,q.alloc (.cells #[.string who,.string act,.string on,.slice T mn gc] 53)=W:=⟨_,rfl⟩;have O:Below q.heap.size q w4:=by rw[<- m];exact nbl q _
 have n4:w4.heap[q.heap.size]?=some (.cells #[.string who,.string act,.string on,.slice T mn gc] 53):=by rw[<- m];exact zB q _
 rw[m];obtain⟨qb,d6⟩:∃n,q.heap.size=n:=⟨_,rfl⟩;have D:=hid (X.out.trans (O.mono X.out.size));have U:=hid O;have f:=hid ((O.block _ (zt a1.out)).trans a1.out);have a4:=hid ((O.block _ (zt a3.out)).trans a3.out);have a:=hid n4;rw[d6] at a |-;have e7:=hid (CP.out w4 D.out T gc (xB f5.out O));clear m O n4 d6 CP;have e0:=(zg f.out 0).1;have s:=(zg f.out 1).1;have g0:=(zg a.out 0).1;have g1:=(zg a.out 1).1;have g2:=(zg a.out 2).1;have g3:=(zg a.out 3).1;simp at e0 s g0 g1 g2 g3
 go_upto_region 3 with (go_at_call 25;refine e7.out.mono ?_;rintro e J ⟨rfl,P⟩;have Y:=hid (D.out.trans (P.mono D.out.size));have B:=hid (U.out.trans (P.mono U.out.size));have a2:=hid ((P.block _ (zt f.out)).trans f.out);have a5:=hid ((P.block _ (zt a4.out)).trans a4.out);have a7:=hid ((P.block _ (zt a.out)).trans a.out);clear P)
 clear e0 s g0 g1 g2 g3;obtain⟨w6,o⟩:∃W,J.alloc (.cells #[.int .i64 ((dv:Nat):Int),.int .i64 ((dl:Nat):Int),.string dn,.int .i64 ((dk:Nat):Int)] 48)=W:=⟨_,rfl⟩;have Q:Below J.heap.size J w6:=by rw[<- o];exact nbl J _
 have n6:w6.heap[J.heap.size]?=some (.cells #[.int .i64 ((dv:Nat):Int),.int .i64 ((dl:Nat):Int),.string dn,.int .i64 ((dk:Nat):Int)] 48):=by rw[<- o];exact zB J _
 rw[o];obtain⟨db,H⟩:∃n,J.heap.size=n:=⟨_,rfl⟩;have f4:Hid (q.heap.size<=db):=hid (by rw[<- H];exact B.out.size);have E:=hid (Y.out.trans (Q.mono Y.out.size));have V:=hid (B.out.trans (Q.mono B.out.size));have f8:=hid ((Q.block _ (zt a2.out)).trans a2.out);have c:=hid ((Q.block _ (zt a5.out)).trans a5.out);have a8:=hid ((Q.block _ (zt a7.out)).trans a7.out);have F:=hid n6;rw[H] at F |-;clear o Q n6 H;have s:=(zg f8.out 1).1;have t:=(zg c.out 0).1;have f1:=(zg c.out 1).1;have f2:=(zg c.out 2).1;have u:=(zg c.out 3).1;simp at s t f1 f2 u
 go_upto_region 4 with (go_at_call 127;refine (CR.out w6 E.out).mono ?_;rintro e K ⟨rfl,R⟩;have Z:=hid (E.out.trans (R.mono E.out.size));have C:=hid (V.out.trans (R.mono V.out.size));have a6:=hid ((R.block _ (zt c.out)).trans c.out);have a9:=hid ((R.block _ (zt a8.out)).trans a8.out);have b0:=hid ((R.block _ (zt F.out)).trans F.out);clear R)
 clear s t f1 f2 u;obtain⟨w8,p⟩:∃W,K.alloc (.cells #[.int .i64 ((dv:Nat):Int),.int .i64 ((dl:Nat):Int),.string dn,.int .i64 ((dk:Nat):Int)] 48)=W:=⟨_,rfl⟩;have S:Below K.heap.size K w8:=by rw[<- p];exact nbl K _
 have n8:w8.heap[K.heap.size]?=some (.cells #[.int .i64 ((dv:Nat):Int),.int .i64 ((dl:Nat):Int),.string dn,.int .i64 ((dk:Nat):Int)] 48):=by rw[<- p];exact zB K _
 rw[p];obtain⟨rb,I⟩:∃n,K.heap.size=n:=⟨_,rfl⟩;have f6:Hid (q.heap.size<=rb):=hid (by rw[<- I];exact C.out.size);have a0:=hid (Z.out.trans (S.mono Z.out.size));have e8:=hid (C.out.trans (S.mono C.out.size));have g:=hid ((S.block _ (zt a6.out)).trans a6.out);have i:=hid ((S.block _ (zt a9.out)).trans a9.out);have c0:=hid ((S.block _ (zt b0.out)).trans b0.out);have G:=hid n8;rw[I] at G |-;have CT:=hid (f7.out w8 e8.out);clear p S n8 I;have t:=(zg g.out 0).1;have f1:=(zg g.out 1).1;have f2:=(zg g.out 2).1;have u:=(zg g.out 3).1;have g0:=(zg i.out 0).1;have g1:=(zg i.out 1).1;have g2:=(zg i.out 2).1;have g3:=(zg i.out 3).1;simp at t f1 f2 u g0 g1 g2 g3
 go_upto_region 5 with (go_at_call 123;refine CT.out.mono ?_;rintro e w9 ⟨rfl,b9⟩;have B9:=hid b9;clear b9)
 have z:=(B9.out.block db (zt c0.out) (λh=>by have:=f4.out;omega)).trans c0.out;have A:=(B9.out.block rb (zt G.out) (λh=>by have:=f6.out;omega)).trans G.out;have e9:Hid (Below w.heap.size w w9):=hid (a0.out.trans (B9.out.below (λk hk h=>by omega) a0.out.size));have d0:=(zg z 0).1;have d1:=(zg z 1).1;have d2:=(zg z 2).1;have d3:=(zg z 3).1;have r0:=(zg A 0).1;have r1:=(zg A 1).1;have r2:=(zg A 2).1;have r3:=(zg A 3).1;simp at d0 d1 d2 d3 r0 r1 r2 r3;clear z A t f1 f2 u g0 g1 g2 g3;go_wp2_with fail;go_ret;exact⟨rfl,e9.out⟩
end Go.Proofs.YtdakgnaojakldaaGreatDoor
namespace Go.Proofs.YtdakgnaojakldaaGreatDoor
open Go.RowKit
theorem zbD(Q:World)(aL:Addr)(hC:Qu Q aL)(L:Nat->Nat)(w:World)(R:Nat)(a7 a0:Value)(u:List xY)(m:Nat)(h:yw Q L w R a7 a0 u m)(z:kI u)(s:0<u.length)(a4:u.length<=100000000)(a l:Int)(name text who act on:BY)(ma:Option Addr)(mn mc:Nat)(ms:List (BY×BY))(hA:I64 a)(I:Xg Q ma mn mc ms)(hr:Ref.aI ⟨who,act,on,ms⟩)(hl:Pg.reqLen ⟨who,act,on,ms⟩)(J:ms.length<=1000000000) :
  Calls prog 37 #[.pointer (some ⟨R,0,none⟩),Yf 6 a l name text who act on ma mn mc] w (JZ Q L w R u.length m):=by
 unfold Yf;obtain⟨j,k⟩:∃W,w.alloc (.cells #[.int .i64 6,.int .i64 a,.int .i64 l,.string name,.string text,.string who,.string act,.string on,.slice ma mn mc] 91)=W:=⟨_,rfl⟩;have Z:Below w.heap.size w j:=by rw[<- k];exact nbl w _
 have o:j.heap[w.heap.size]?=some (.cells #[.int .i64 6,.int .i64 a,.int .i64 l,.string name,.string text,.string who,.string act,.string on,.slice ma mn mc] 91):=by rw[<- k];exact zB w _
 have h1:=h.below Z;obtain⟨g,pc,p,rfl,H,A,E,G,F,a2⟩:=h1.pick a s;have P:=(zg o 0).1;have k1:=(zg o 1).1;simp at P k1;have O:=λW=>ig a u.length W hA s (by omega);obtain⟨n,hn⟩:∃x,u.length=x:=⟨_,rfl⟩;obtain⟨i,hi⟩:∃x,Kp.uZ a u.length=x:=⟨_,rfl⟩;simp only[hi] at A G F H O;have c:=λb (hb:L b≠0)=>(h.base b hb).2;have a6:=(h.off i p A).2;have a5:=(h.ref i p A).2.1;have K:=(h.ref i p A).2.2;have d0:p.ob<w.heap.size:=c _ (by omega);have c2:p.cb<w.heap.size:=c _ (by omega);have M:∀g,p.lv.ownBlock=some g->g<w.heap.size:=λg hg=>c _ (by have:=K g hg;omega);have y:=hid (gT h z A);simp only[hn] at H s a4 E O |-;have CP:=hid O;have X:=hid hn;have HP:=hid A;have H1:=hid h1;have v:=hid o;have S:=hid z;have D:=hid k;have T:=hid Z;have c0:=hid M;have U:=hid c;have i0:(0:Int)<=(i:Int):=qz _;have i1:(i:Int)<(n:Int):=by omega
 have c5:((n:Int)==0)=false:=by simp;omega
 clear O hn hi A h1 o z k Z h M c a6 a5 K;go_enter func37,ntmps37
 go_upto_region 1 with fail
 rw[D.out];clear D
 go_upto_region 16 with fail
 go_cut [6] (λv6 wc=>v6 = .pointer (some ⟨j.heap.size,0,none⟩)/\wc=(j.alloc (.cells #[.pointer (some ⟨p.ob,0,none⟩),.pointer (some ⟨p.cb,0,none⟩)] 175)).drew)
 case first=>
  go_region_held3 (λw'=>w'.cell? ⟨R,0,none⟩=some (.slice (some ⟨g,0,none⟩) n pc)/\w'.cell? ⟨w.heap.size,1,none⟩=some (.int .i64 a)/\w'.cell? ⟨g,i*2,none⟩=some (.pointer (some ⟨p.ob,0,none⟩))/\w'.cell? ⟨g,i*2+1,none⟩=some (.pointer (some ⟨p.cb,0,none⟩))) (go_keep) (first|(go_at_call 68;refine (CP.out _).mono ?_;rintro e w3 ⟨rfl,e3⟩;rw[e3];clear e3))
  all_goals
   go_wp2_with fail
   go_meet
   case rel=>exact⟨rfl,rfl⟩
 case rest=>
  obtain⟨rfl,B⟩:=hcut;have N:Below j.heap.size j wc:=by rw[B];exact (nbl j _).drew
  have r:wc.heap[j.heap.size]?=some (.cells #[.pointer (some ⟨p.ob,0,none⟩),.pointer (some ⟨p.cb,0,none⟩)] 175):=by rw[B];exact zB j _
  clear B CP E G F a2 P k1;have f:=hid (H1.out.below N);have d:=(N.block _ (zt v.out)).trans v.out;have d5:w.heap.size<j.heap.size:=zt v.out;have d6:j.heap.size<wc.heap.size:=zt r;have Y:Hid (jH L L w wc):=hid ((jH.of T.out).trans (jH.of N));have V:Hid (∀b,Lm L b->b<w.heap.size):=hid U.out;have p0:=(zg r 0).1;have p1:=(zg r 1).1;have P:=(zg d 0).1;have k5:=(zg d 5).1;have k6:=(zg d 6).1;have k7:=(zg d 7).1;have k8:=(zg d 8).1;simp at p0 p1 P k5 k6 k7 k8;clear r d N;have t:=IC p.ob p.cb p.st p.lv p.ks who act on ma mn mc ms (Lm L) wc (f.out.off i p HP.out).1 (f.out.ref i p HP.out).1 (by have:=y.out.1;omega) y.out.2.1 (λb hb=>Nat.lt_trans (V.out b hb) (by omega)) y.out.2.2.2 (I.below f.out.low) hr hl J (hC.below f.out.low).q.p;have C:=hid t;clear t I hr hl J hC
  go_wp2_with (go_at_call 75;refine C.out.mono ?_;rintro e w4 ⟨rfl,t4⟩;have B4:=hid t4;clear t4)
  go_ret;exact⟨L,_,_,_,m,rfl,Y.out.trans (jH.of B4.out),f.out.below B4.out,S.out,Nat.le_of_eq X.out.symm,by rw[X.out];omega,by omega,by rw[X.out];exact s⟩
end Go.Proofs.YtdakgnaojakldaaGreatDoor
namespace Go.Proofs.YtdakgnaojakldaaGreatDoor
open laws Go.ChangeShapes Go.WideShapes Go.ChangeAt Go.RowKit Go.Joins Go.Deep
def QE(w:World)(o:OpD)(K:Nat):Prop:=∃ms:List (BY×BY),Xg w o.ma o.mn o.mc ms/\o.who.size<=K/\o.act.size<=K/\o.on.size<=K/\ms.length<=K/\∀m ∈ ms,m.1.size<=K/\m.2.size<=K
theorem QE.more{w:World}{o:OpD}{K a:Nat}(h:QE w o K)(j:K<=a):QE w o a:=by
 obtain⟨ms,b,e,f,g,i,c⟩:=h;exact⟨ms,b,by omega,by omega,by omega,by omega,λm d=>by have:=c m d;omega⟩
section
variable {H:Type} {enc:TypeId×Value->H} {w:World} {spare:Nat->Bool} {held:Bool}
theorem Dl{P:Program}{base fuel:Nat}{t:TypeId}{b:Array Field}{cs:List Value}{x:DataW H×List MemPlace}(m:P.underlying t=some (.struct b))(h:DataW.trod enc P w base spare held fuel t cs=some x) :
  cs.length=P.cellsOf t/\∀(i:Nat) (f:Field),b[i]?=some f->∀(u:TypeId) (o c:Nat),f.type=u->f.offset=o->P.cellsOf u=c->∃n y,DataW.trod enc P w base spare held n u ((cs.drop o).take c)=some y/\Rows.uptoBulk y.1<=Rows.uptoBulk x.1:=by
 obtain⟨xs,n,_,rfl,g,q,a⟩:=DataW.trod_struct m h;refine⟨g,λi f hi u o c p l e=>?_⟩;have j:i<b.size:=(YY.1 hi).1;have d:=a i f hi;subst p;rw[l,e,zm (by omega)] at d;have k:xs[i].1 ∈ xs.map (·.1):=yf.2 ⟨xs[i],qA _,rfl⟩
 have:=dC k
 refine⟨n,_,d,?_⟩;simp only[Rows.uptoBulk];omega
theorem iR{fuel:Nat}{v:Value}{x:DataW H×List MemPlace}(h:DataW.trod enc prog w 0 spare held fuel 9 [v]=some x):∃s:BY,v = .string s/\s.size<=Rows.uptoBulk x.1/\s.size<=maxLen:=by
 obtain⟨s,q,a,f⟩:=VO underlying9 h;simp only[List.cons.injEq,and_true] at q;refine⟨s,q,?_,f⟩;rw[a];simp only[Rows.uptoBulk];rw[Ref.zD];omega
theorem Sz{fuel:Nat}{v:Value}{x:DataW H×List MemPlace}(h:DataW.trod enc prog w 0 spare held fuel 51 [v]=some x)(E:∀b,spare b=true):∃ma mn mc ms,v = .slice ma mn mc/\Xg w ma mn mc ms/\ms.length<=Rows.uptoBulk x.1/\∀m ∈ ms,m.1.size<=Rows.uptoBulk x.1/\m.2.size<=Rows.uptoBulk x.1:=by
 have y:prog.cellsOf 62=2:=by kernel_rfl
 have p:prog.cellsOf 9=1:=by kernel_rfl
 rcases open_slice_pairs underlying51 underlying62 y rfl rfl p p h with ⟨e,_⟩|⟨a,len,cap,m2,n2,V0,V1,D0,D1,P0,P1,e,_,hl,hmx,hmm,rfl,hcell⟩
 ·simp only[List.cons.injEq,and_true] at e;exact⟨none,0,0,[],e,⟨rfl,.inl ⟨rfl,rfl,rfl⟩⟩,by simp,λm n=>by simp at n⟩
 ·simp only[List.cons.injEq,and_true] at e;rw[E,zb rfl] at hmm
  have f:∀i,i<len->∃x:BY×BY,V0 i = .string x.1/\V1 i = .string x.2/\D0 i = .lit (.string x.1.data.toList)/\D1 i = .lit (.string x.2.data.toList):=λi hi=>by
   obtain⟨_,_,G,I⟩:=hcell i (by omega);obtain⟨t,q,s,_⟩:=VO underlying9 G;obtain⟨u,r,f1,_⟩:=VO underlying9 I;simp only[List.cons.injEq,and_true] at q r;simp only[Prod.mk.injEq] at s f1;exact⟨(t,u),q,r,s.1,f1.1⟩
  obtain⟨F,hF⟩:=choose_lt f;have hlen:((List.range len).map F).length=len:=by simp
  have c:∀j (h:j<((List.range len).map F).length),((List.range len).map F)[j]=F j:=λj h=>by simp
  have k:=nK ((List.range len).map λi=>DataW.agg [D0 i,D1 i]);rw[qH,Xe] at k;refine⟨some a,len,cap,(List.range len).map F,e,⟨hlen.symm,.inr ⟨a,rfl,λj h=>?_⟩⟩,?_,λJ n=>?_⟩
  ·rw[c j h];have D:j<len:=by rw[hlen] at h;exact h
   obtain⟨c0,c1,_,_⟩:=hcell j (by omega);obtain⟨B,C,_,_⟩:=hF j D;rw[B] at c0;rw[C] at c1;exact⟨c0,c1⟩
  ·rw[hlen];simp only[Rows.uptoBulk];omega
  ·obtain⟨i,hi,rfl⟩:=yf.1 n;have g:i<len:=jW.1 hi;obtain⟨_,_,z,A⟩:=hF i g;have o:=dC (H:=H) (d := .agg [D0 i,D1 i]) (l:=(List.range len).map λi=>DataW.agg [D0 i,D1 i]) (yf.2 ⟨i,hi,rfl⟩);rw[z,A] at o;simp only[Rows.uptoBulk,Rows.uptoBulkAll] at o |-;rw[Ref.zD,Ref.zD] at o
   constructor<;>omega
theorem TW{fuel:Nat}{cs:List Value}{x:DataW H×List MemPlace}(h:DataW.trod enc prog w 0 spare held fuel 91 cs=some x)(J:∀b,spare b=true) :
  ∃o:OpD,cs=[.int .i64 o.kind,.int .i64 o.a,.int .i64 o.layer,.string o.name,.string o.text,.string o.who,.string o.act,.string o.on,.slice o.ma o.mn o.mc]/\V3 o/\QE w o (Rows.uptoBulk x.1):=by
 have c3:prog.cellsOf 3=1:=by kernel_rfl
 have e:prog.cellsOf 9=1:=by kernel_rfl
 have p:prog.cellsOf 53=4:=by kernel_rfl
 have l:prog.cellsOf 51=1:=by kernel_rfl
 have n:prog.cellsOf 91=9:=by kernel_rfl
 obtain⟨f,c⟩:=Dl underlying91 h;rw[n] at f
 match cs,f with
 | [u0,u1,u2,u3,u4,u5,u6,u7,u8],_=>
  obtain⟨Z,y0,u,_⟩:=c 0 _ rfl _ 0 1 rfl rfl c3;obtain⟨n1,y1,y,_⟩:=c 1 _ rfl _ 1 1 rfl rfl c3;obtain⟨n2,y2,z,_⟩:=c 2 _ rfl _ 2 1 rfl rfl c3;obtain⟨n3,y3,A,_⟩:=c 3 _ rfl _ 3 1 rfl rfl e;obtain⟨n4,y4,B,_⟩:=c 4 _ rfl _ 4 1 rfl rfl e;obtain⟨n5,y5,C,z5⟩:=c 5 _ rfl _ 5 4 rfl rfl p;obtain⟨_,d⟩:=Dl underlying53 C;obtain⟨n6,y6,D,z6⟩:=d 0 _ rfl _ 0 1 rfl rfl e;obtain⟨n7,y7,E,z7⟩:=d 1 _ rfl _ 1 1 rfl rfl e;obtain⟨n8,y8,F,z8⟩:=d 2 _ rfl _ 2 1 rfl rfl e;obtain⟨n9,y9,G,z9⟩:=d 3 _ rfl _ 3 1 rfl rfl l;obtain⟨K,g,_,q⟩:=DataW.trod_int underlying3 u;obtain⟨L,i,_,f1⟩:=DataW.trod_int underlying3 y;obtain⟨M,q2,_,f2⟩:=DataW.trod_int underlying3 z;obtain⟨R,j,_,r⟩:=VO underlying9 A;obtain⟨S,k,_,s⟩:=VO underlying9 B;obtain⟨T,N,W,_⟩:=iR (v:=u5) D;obtain⟨U,O,X,_⟩:=iR (v:=u6) E;obtain⟨V,P,Y,_⟩:=iR (v:=u7) F;obtain⟨ma,mn,mc,ms,Q,t,f10,f11⟩:=Sz (v:=u8) G J;simp at g i q2 j k;subst g i q2 j k N O P Q;exact⟨⟨K,L,M,R,S,T,U,V,ma,mn,mc⟩,rfl,⟨gM q,gM f1,gM f2,r,s⟩,ms,t,by simp only;omega,by simp only;omega,by simp only;omega,by omega,λm I=>by have:=f11 m I;omega⟩
theorem We{fuel:Nat}{v:Value}{x:DataW H×List MemPlace}(h:DataW.trod enc prog w 0 spare held fuel 28 [v]=some x)(z:∀b,spare b=true):∃ops:List OpD,ops.length<=Rows.uptoBulk x.1/\JW w v ops/\∀o ∈ ops,V3 o/\QE w o (Rows.uptoBulk x.1):=by
 have I:prog.cellsOf 91=9:=by kernel_rfl
 rcases open_slice underlying28 h with ⟨e,_⟩|⟨a,len,cap,m,n,D,Pl,e,_,hl,hmx,hmm,rfl,hcell⟩
 ·simp only[List.cons.injEq,and_true] at e;subst e;exact⟨[],by simp,⟨none,0,rfl,λk r L=>by simp at L⟩,λo c=>by simp at c⟩
 ·simp only[List.cons.injEq,and_true] at e;subst e;rw[z,zb rfl] at hmm;rw[I] at hcell
  have each:∀i,i<len->∃o:OpD,(V3 o/\QE w o (Rows.uptoBulk (D i)))/\∃g q,some a=some ⟨g,q,none⟩/\VZ w g (q+i*9) o:=by
   intro i hi
   have u:∃b o,a=⟨b,o,none⟩:=by
    obtain⟨B,C,N⟩:=hcell 0 (by omega);obtain⟨_,K,p⟩:=World.cells?_some C
    have:=p 0 (by omega)
    rw[add_add,Nat.zero_mul,ZP,zm (by omega)] at this;exact TY this
   obtain⟨g,q,rfl⟩:=u;obtain⟨A,E,G⟩:=hcell i (by omega);obtain⟨o,rfl,f,fr⟩:=TW G z;obtain⟨_,_,s⟩:=World.cells?_some E
   have cell:∀j,j<9->w.cell? ⟨g,q+i*9+j,none⟩=[Value.int .i64 o.kind,.int .i64 o.a,.int .i64 o.layer,.string o.name,.string o.text,.string o.who,.string o.act,.string o.on,.slice o.ma o.mn o.mc][j]?:=by
    intro j J
    have:=s j J
    rw[add_add,addr_add,<- VX] at this;exact this
   exact⟨o,⟨f,fr⟩,g,q,rfl,cell 0 (by omega),cell 1 (by omega),cell 2 (by omega),cell 3 (by omega),cell 4 (by omega),cell 5 (by omega),cell 6 (by omega),cell 7 (by omega),cell 8 (by omega)⟩
  obtain⟨F,hF⟩:=choose_lt each;have hb:=nK ((List.range len).map D);rw[qH,Xe] at hb;refine⟨(List.range len).map F,?_,⟨some a,cap,by rw[qH,Xe],λk o c=>?_⟩,λo c=>?_⟩
  ·rw[qH,Xe];simp only[Rows.uptoBulk];omega
  ·have y:k<len:=by
    have:=(zW.1 c).1
    rw[qH,Xe] at this;exact this
   rw[uO,Kb y] at c;simp only[Yy,Option.some.injEq] at c;subst c;exact (hF k y).2
  ·obtain⟨i,hi,rfl⟩:=yf.1 c;have t:=jW.1 hi;obtain⟨f1,f2⟩:=(hF i t).1;have M:=dC (H:=H) (d:=D i) (l:=(List.range len).map D) (yf.2 ⟨i,hi,rfl⟩);refine⟨f1,f2.more ?_⟩;simp only[Rows.uptoBulk];omega
end
end Go.Proofs.YtdakgnaojakldaaGreatDoor
namespace Go.Proofs.YtdakgnaojakldaaGreatDoor
open Go.RowKit
theorem QE.below{w w':World}{o:OpD}{K:Nat}(h:QE w o K)(hb:Below w.heap.size w w'):QE w' o K:=by
 obtain⟨ms,a,b⟩:=h;exact⟨ms,a.below hb,b⟩
theorem Iz{k:Int}(h:inK [1,2,3,6] k=true):k=1\/k=2\/k=3\/k=6:=by
 unfold inK at h
 simpa using h
theorem IA{w:World}{i:Addr}(n:Qu w i){o:OpD}(r:V3 o)(t:QE w o 1048576)(s:inK [1,2,3,6] o.kind=true):mi w o:=by
 obtain⟨kind,a,layer,name,text,who,act,on,ma,mn,mc⟩:=o;obtain⟨_,k,_,p,u⟩:=r;obtain⟨ms,e,v,q2,y,A,q⟩:=t;simp only at v q2 y e;intro L W d b h m g c j f z
 rcases Iz s with rfl|rfl|rfl|rfl
 ·exact Cx w L W w.heap.size d b h m g c f a layer name text who act on ma mn mc
 ·exact Cy w i n L W w.heap.size d b h m g c j f a layer name text who act on ma mn mc k p u
 ·exact Cw w L W w.heap.size d b h m g c j f a layer name text who act on ma mn mc k p
 ·refine zbD w i n L W w.heap.size d b h m g c j f a layer name text who act on ma mn mc ms k e ⟨?_,?_,?_,?_,λx l=>?_⟩ ⟨?_,?_,?_,?_,λx l=>?_⟩ (by omega)
  ·simp only;omega
  ·simp only;omega
  ·simp only;omega
  ·simp only;omega
  ·have:=q x l;omega
  ·simp only;unfold maxLen;omega
  ·simp only;unfold maxLen;omega
  ·simp only;unfold maxLen;omega
  ·simp only;omega
  ·have:=q x l;unfold maxLen;omega
theorem IE(w:World)(l:Addr)(p:Qu w l)(k:Value)(ops:List OpD)(t:JW w k ops)(i:∀o ∈ ops,V3 o/\QE w o 1048576)(hlen:ops.length<=10000000) :
  Calls prog 6 #[k] w λe w'=>e = .returned (.bool true)/\Below w.heap.size w w':=by
 obtain⟨h,b⟩:∃W,w.alloc (.cells #[.int .i64 1,.int .i64 2,.int .i64 3,.int .i64 6] 3)=W:=⟨_,rfl⟩;have c:Below w.heap.size w h:=by rw[<- b];exact nbl w _
 have f:h.heap[w.heap.size]?=some (.cells #[.int .i64 1,.int .i64 2,.int .i64 3,.int .i64 6] 3):=by rw[<- b];exact zB w _
 have n:=WQ h l (p.below c) k ops (t.below c) hlen w.heap.size 4 [1,2,3,6] (λj x a=>by
  rw[(zg f j).1]
  match j,a with
  | 0,a=>simp at a;subst a;rfl
  | 1,a=>simp at a;subst a;rfl
  | 2,a=>simp at a;subst a;rfl
  | 3,a=>simp at a;subst a;rfl
  | j+4,a=>simp at a) (by simp) (λo q u=>IA (p.below c) (i o q).1 ((i o q).2.below c) u)
 have s:=hid n;have g:=hid b;have d:=hid c;clear n b c f i;go_enter func6,ntmps6
 go_wp2_with (go_at_call 17;rw[g.out];refine s.out.mono ?_;rintro e v ⟨rfl,m⟩;have r:=hid m;clear m)
 go_ret;exact⟨rfl,d.out.trans (r.out.mono d.out.size)⟩
end Go.Proofs.YtdakgnaojakldaaGreatDoor
namespace Go.Proofs.YtdakgnaojakldaaGreatDoor.decides
theorem Ro:(Rows.decidesUptoRow.wf (OpenSpec.ofChange (Rows.OpenSpec.upto Rows.decidesSpec).bare))=true:=by kernel_rfl
theorem PW:(Tryz.f6.params.all (prog.readableRec ·))=true:=by kernel_rfl
theorem PS:(namedTie prog Rows.decidesUptoRow.named (Rows.OpenSpec.upto Rows.decidesSpec).bare.vars)=true:=by kernel_rfl
theorem Rb:((Rows.decidesUptoRow.stops==[]))=true:=by kernel_rfl
theorem Re:((Rows.decidesUptoRow.knobs==[]))=true:=by kernel_rfl
theorem PD:((Rows.decidesUptoRow.inPlace==prog.inPlace 6))=true:=by kernel_rfl
theorem Rj:((Rows.decidesUptoRow.unfollowed==prog.unfollowed 6))=true:=by kernel_rfl
theorem Ra:((Rows.decidesUptoRow.recurses==prog.recurses 6))=true:=by kernel_rfl
theorem Rn:((Rows.decidesUptoRow.named==prog.varsNamed 6))=true:=by kernel_rfl
theorem PI:((Rows.decidesUptoRow.maps==(Tryz.f6.params.toList++(Rows.OpenSpec.upto Rows.decidesSpec).bare.plain.varTypes prog).any (prog.mapsRec ·)))=true:=by kernel_rfl
theorem PK:((Rows.decidesUptoRow.ifaces==(Tryz.f6.params.toList++(Rows.OpenSpec.upto Rows.decidesSpec).bare.plain.varTypes prog).any (prog.ifacesRec ·)))=true:=by kernel_rfl
theorem PL:((Rows.decidesUptoRow.mapsOut==prog.mapsAmong Tryz.f6.resultTypes.toList))=true:=by kernel_rfl
theorem PM:((Rows.decidesUptoRow.loops==(Tryz.f6.params.toList++(Rows.OpenSpec.upto Rows.decidesSpec).bare.plain.varTypes prog).any (prog.loopsFrom ·)))=true:=by kernel_rfl
theorem PN:((Rows.decidesUptoRow.wideKeys==(Tryz.f6.params.toList++(Rows.OpenSpec.upto Rows.decidesSpec).bare.plain.varTypes prog++Tryz.f6.resultTypes.toList).any (prog.wideKeysFrom ·)))=true:=by kernel_rfl
theorem Rk:((Rows.OpenSpec.upto Rows.decidesSpec).bare.vars.all (prog.varReadable ·))=true:=by kernel_rfl
theorem PX:(Tryz.f6.resultTypes.all (λt=>prog.readableRec t&&decide (t<prog.types.size)))=true:=by kernel_rfl
theorem PY:((Rows.decidesUptoRow.ifacesOut==Tryz.f6.resultTypes.toList.any (prog.ifacesRec ·)))=true:=by kernel_rfl
theorem PZ:((Rows.decidesUptoRow.loopsOut==Tryz.f6.resultTypes.toList.any (prog.loopsFrom ·)))=true:=by kernel_rfl
theorem PV:((Rows.decidesUptoRow.plainKeys==prog.plainKeys))=true:=by kernel_rfl
theorem Ri:(Rows.decidesUptoRow.shortTexts.isNone)=true:=by kernel_rfl
theorem PG:((Rows.decidesUptoRow.lifted==prog.liftsFinal))=true:=by kernel_rfl
theorem PP:((prog.make==some Rows.decidesUptoRow.make))=true:=by kernel_rfl
theorem PE:((Rows.decidesUptoRow.kinds==(if Rows.decidesUptoRow.domain.isEmpty then [] else Tryz.f6.params.toList.map λt=>match prog.underlying t with|some (.int k)=>some k|_=>none)))=true:=by kernel_rfl
theorem PU:((Rows.decidesUptoRow.pinned==Rows.decidesUptoRow.pinnedBy))=true:=by kernel_rfl
theorem Rl:((Rows.decidesUptoRow.veiled==(Tryz.f6.params.toList++(Rows.OpenSpec.upto Rows.decidesSpec).bare.plain.varTypes prog++Tryz.f6.resultTypes.toList).any (prog.veiledRec ·)))=true:=by kernel_rfl
theorem Rm:(Rows.decidesUptoRow.veiledFits prog Tryz.f6.params.toList (Tryz.f6.params.toList++(Rows.OpenSpec.upto Rows.decidesSpec).bare.plain.varTypes prog++Tryz.f6.resultTypes.toList))=true:=by kernel_rfl
theorem Pz:Tryz.f6.isInstance prog Rows.decidesUptoRow.origin Rows.decidesUptoRow.targs:=of_decide_eq_true (by kernel_rfl)
theorem Rp:Tryz.f6.isWrapper prog Rows.decidesUptoRow.wrapper Rows.decidesUptoRow.mainSum:=by unfold Func.isWrapper;first|(rw[zb (by decide +kernel)];kernel_rfl)|(rw[za (by decide +kernel)];exact⟨rfl,rfl⟩)
theorem PR:prog.funcNamed Rows.decidesUptoRow.func=some 6:=by kernel_rfl
end Go.Proofs.YtdakgnaojakldaaGreatDoor.decides
namespace Go.Proofs.YtdakgnaojakldaaGreatDoor.laws
theorem PH:(laidOutB prog)=true:=by kernel_rfl
theorem PQ:(mapsRowed prog)=true:=by kernel_rfl
theorem Rc:((prog.stops==[]))=true:=by kernel_rfl
theorem Rf:((prog.stopKnobs==[]))=true:=by kernel_rfl
theorem Rh:(prog.stopsHeard)=true:=by kernel_rfl
theorem PO:(prog.mayEnter)=true:=by kernel_rfl
theorem xK{a b:Bool}(h:a=true)(k:b=true):(a&&b)=true:=by rw[h,k];rfl
end Go.Proofs.YtdakgnaojakldaaGreatDoor.laws
