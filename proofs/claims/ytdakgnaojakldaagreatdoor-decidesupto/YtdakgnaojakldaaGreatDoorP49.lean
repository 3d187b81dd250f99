/- P -/
import Derived.Test.YtdakgnaojakldaaGreatDoorP48
open Go.Proofs.Tryz
set_option maxRecDepth 100000
set_option maxHeartbeats 4000000
namespace Go.Proofs.YtdakgnaojakldaaGreatDoor
open Go.RowKit
theorem EN(c:qj)(lv:Value)(r:Ref.Req)(ao:Option Addr)(cap B f:Nat)(w:World)(k:xW w lv c.vals)(j:XM c)(l:c.vals.length<=1000)(m:∀v ∈ c.vals,v.size<=100000)(i:Zp w r ao cap B)(h:yg w)(g:w.cell? ⟨f,0,none⟩=some (yI B)) :
  Calls prog 247 #[.agg #[.string c.op,.string c.key,lv,.bool c.no],.pointer (some ⟨f,0,none⟩)] w λe w'=>e = .returned (.bool (De.Xr c r))/\Below w.heap.size w w':=by
 have b0:=λO:Obj=>nbl w O;have b:=λO:Obj=>Ot c lv r ao cap B (w.alloc O) (uI k (b0 O)) j l m (i.below (b0 O)) (h.below (b0 O));have d:=λO:Obj=>zh (b0 O) g;obtain⟨a,p,rfl,_⟩:=k;generalize De.Xr c r=F at b;obtain⟨op,key,vals,no⟩:=c;simp only at b |-;unfold yI at b d;have n:=hid b;clear b i h j l m g;go_enter func247,ntmps247
 go_wp2_with (go_at_call 248;refine (n.out _).mono ?_;rintro e w1 ⟨rfl,o⟩)
 go_ret;exact⟨rfl,(b0 _).trans (o.mono (b0 _).size)⟩
theorem Nk(w c:World)(e f g i:Obj)(h:(((w.alloc e).alloc f).alloc g).alloc i=c) :
  c.heap[w.heap.size]?=some e/\c.heap[w.heap.size+1]?=some f/\c.heap[w.heap.size+2]?=some g/\c.heap[w.heap.size+3]?=some i/\Below w.heap.size w c:=by
 obtain⟨a,l⟩:∃W,w.alloc e=W:=⟨_,rfl⟩;have q:a.heap.size=w.heap.size+1:=by rw[<- l];simp
 have s:a.heap[w.heap.size]?=some e:=by rw[<- l];exact zB w e
 have p:Below w.heap.size w a:=by rw[<- l];exact nbl w _
 rw[l] at h;obtain⟨b,m⟩:∃W,a.alloc f=W:=⟨_,rfl⟩;have r:b.heap.size=w.heap.size+2:=by rw[<- m];simp[q]
 have t:b.heap[w.heap.size+1]?=some f:=by rw[<- m,<- q];exact zB a f
 have o:Below a.heap.size a b:=by rw[<- m];exact nbl a _
 rw[m] at h;obtain⟨d,n⟩:∃W,b.alloc g=W:=⟨_,rfl⟩;have x:d.heap.size=w.heap.size+3:=by rw[<- n];simp[r]
 have u:d.heap[w.heap.size+2]?=some g:=by rw[<- n,<- r];exact zB b g
 have j:Below b.heap.size b d:=by rw[<- n];exact nbl b _
 rw[n] at h;have v:c.heap[w.heap.size+3]?=some i:=by rw[<- h,<- x];exact zB d i
 have k:Below d.heap.size d c:=by rw[<- h];exact nbl d _
 exact⟨(k.block _ (by omega)).trans ((j.block _ (by omega)).trans ((o.block _ (by omega)).trans s)),(k.block _ (by omega)).trans ((j.block _ (by omega)).trans t),(k.block _ (by omega)).trans u,v,
  p.trans ((o.trans ((j.trans (k.mono j.size)).mono o.size)).mono p.size)⟩
theorem EP(s:zS)(l1 l2 l3 lc:Value)(r:Ref.Req)(ao:Option Addr)(cap:Nat)(w:World)(E:XE w l1 l2 l3 lc s)(O:Y4 s)(F:Y3 s)(hv:∀c ∈ s.ifs,c.vals.length<=1000)(P:qQ w ao r.marks)(y:Ref.xP r=true)(L:yg w) :
  Calls prog 227 #[.agg #[.string s.eff,.bool s.who.1,l1,.bool s.act.1,l2,.bool s.on.1,l3,lc],Ref.zY r ao cap] w λe w'=>e = .returned (.bool (De.YD s r))/\Below w.heap.size w w':=by
 obtain⟨k1,k2,k3⟩:=iA y;obtain⟨a1,y1,rfl,g1⟩:=E.who;obtain⟨a2,y2,rfl,g2⟩:=E.act;obtain⟨a3,y3,rfl,g3⟩:=E.on;obtain⟨a4,y4,rfl,_⟩:=E.ifs;have g4:=E.ifs;have N:∃d,((((w.alloc (.cells #[.string s.eff,.bool s.who.1,.slice a1 s.who.2.length y1,.bool s.act.1,.slice a2 s.act.2.length y2,.bool s.on.1,.slice a3 s.on.2.length y3,.slice a4 s.ifs.length y4] 133)).alloc (.cells #[.string r.who,.string r.act,.string r.on,.slice ao r.marks.length cap] 53)).alloc (.cells #[.string r.who,.string r.act,.string r.on,.slice ao r.marks.length cap] 53)).alloc (.cells #[yI (w.heap.size+2)] 312))=d:=⟨_,rfl⟩;obtain⟨d,k⟩:=N;obtain⟨u,J,K,e3,p⟩:=Nk w d _ _ _ _ k;have M:Zp d r ao cap (w.heap.size+2):=⟨(zg K 0).1,(zg K 1).1,(zg K 2).1,(zg K 3).1,xB P p,y⟩
 have q:J3 d w.heap.size (.bool s.who.1) (.slice a1 s.who.2.length y1) (.bool s.act.1) (.slice a2 s.act.2.length y2) (.bool s.on.1) (.slice a3 s.on.2.length y3) (.slice a4 s.ifs.length y4) (.string r.who) (.string r.act) (.string r.on) (.slice ao r.marks.length cap):=
  ⟨(zg u 1).1,(zg u 2).1,(zg u 3).1,(zg u 4).1,(zg u 5).1,(zg u 6).1,(zg u 7).1,(zg J 0).1,(zg J 1).1,(zg J 2).1,(zg J 3).1⟩
 have l:d.cell? ⟨w.heap.size+3,0,none⟩=some (yI (w.heap.size+2)):=(zg e3 0).1;have c1:=λ(W:World) (hb:Below d.heap.size d W)=>dQ s.who r.who r ao a1 cap y1 (w.heap.size+2) W O.who F.who (ZG (ZG g1 p) hb) (M.below hb) ((L.below p).below hb) (XI k1).1 (XI k1).2;have c2:=λ(W:World) (hb:Below d.heap.size d W)=>dQ s.act r.act r ao a2 cap y2 (w.heap.size+2) W O.act F.act (ZG (ZG g2 p) hb) (M.below hb) ((L.below p).below hb) (XI k2).1 (XI k2).2;have c3:=λ(W:World) (hb:Below d.heap.size d W)=>dQ s.on r.on r ao a3 cap y3 (w.heap.size+2) W O.on F.on (ZG (ZG g3 p) hb) (M.below hb) ((L.below p).below hb) (XI k3).1 (XI k3).2
 have c4:=λ(W:World) (hb:Below d.heap.size d W)=>En s.ifs (.slice a4 s.ifs.length y4) 247 #[.pointer (some ⟨w.heap.size+3,0,none⟩)] (λc=>De.Xr c r) W F.ifs (enters_of func247 (by kernel_rfl) rfl) ((g4.below p).below hb)
  (λW2 c lv hc h2 hs=>by
    have x:Below d.heap.size d W2:=hb.trans (h2.mono hb.size);exact EN c lv r ao cap (w.heap.size+2) (w.heap.size+3) W2 hs (O.ifs c hc) (hv c hc) (F.vals c hc).2 (M.below x) ((L.below p).below x) (zh x l))
 have X:=λW=>zaQ r ao cap W;unfold De.YD;obtain⟨A,hA⟩:=Nm (De.Z6 s.who r.who r);obtain⟨B,hB⟩:∃A,De.Z6 s.act r.act r=A:=⟨_,rfl⟩;obtain⟨C,hC⟩:∃A,De.Z6 s.on r.on r=A:=⟨_,rfl⟩;obtain⟨D,hD⟩:∃A,(s.ifs.all λc=>De.Xr c r)=A:=⟨_,rfl⟩;rw[hA] at c1;rw[hB] at c2;rw[hC] at c3;rw[hD] at c4;rw[hA,hB,hC,hD];clear hA hB hC hD O F E k1 k2 k3 g1 g2 g3 g4 hv P y L M u J K e3;have sf:=λW a g lb m=>ZC prog W a (.func (.func g) #[] lb) m rfl;obtain⟨who,act,on,ms⟩:=r;obtain⟨eff,⟨n1,s1⟩,⟨n2,s2⟩,⟨n3,s3⟩,cs⟩:=s;unfold Ref.zY at X |-;simp only at c1 c2 c3 c4 X k q |-;unfold yI at c1 c2 c3 l k;obtain⟨z1,Q⟩:∃n,s1.length=n:=⟨_,rfl⟩;obtain⟨z2,R⟩:∃n,s2.length=n:=⟨_,rfl⟩;obtain⟨z3,S⟩:∃n,s3.length=n:=⟨_,rfl⟩;obtain⟨z4,T⟩:∃n,cs.length=n:=⟨_,rfl⟩;simp only[Q,R,S,T] at c1 c2 c3 c4 k q |-;have I:=hid k;have U:=hid q;have t:=hid p;have V:=hid c1;have C2:=hid c2;have C3:=hid c3;have C4:=hid c4;obtain⟨p1,p2,p3,p4,p5,p6,p7,q0,q1,q2,q3⟩:=q;clear k p c1 c2 c3 c4 Q R S T;go_enter func227,ntmps227
 go_upto_region 2 with (go_at_call 175;refine (X _).mono ?_;rintro e wS ⟨rfl,rfl⟩)
 rw[show w.heap.size+1+1+1=w.heap.size+3 from rfl,show w.heap.size+1+1=w.heap.size+2 from rfl,I.out]
 clear I X sf
 cases A with
 | false=>
  go_wp2_with (go_at_call 245;refine (V.out d (ze _ _)).mono ?_;rintro e H ⟨rfl,b⟩;have f:=hid b;have h:=hid (U.out.below b);obtain⟨i1,i2,i3,i4,i5,i6,i7,t0,t1,t2,t3⟩:=h.out;have G:=zh b l;clear b)
  go_ret;exact⟨rfl,t.out.trans (f.out.mono t.out.size)⟩
 | true=>
 cases B with
 | false=>
  go_wp2_with (first
   | (go_at_call 245;refine (C2.out H f.out).mono ?_;rintro e z ⟨rfl,b⟩;have i:Hid (Below d.heap.size d z):=f.out.trans (b.mono f.out.size);have j:=hid (h.out.below b);obtain⟨j1,j2,j3,j4,j5,j6,j7,u0,u1,u2,u3⟩:=j.out;have Y:=zh b G;clear b)
   | (go_at_call 245;refine (V.out d (ze _ _)).mono ?_;rintro e H ⟨rfl,b⟩;have f:=hid b;have h:=hid (U.out.below b);obtain⟨i1,i2,i3,i4,i5,i6,i7,t0,t1,t2,t3⟩:=h.out;have G:=zh b l;clear b))
  go_ret;exact⟨rfl,t.out.trans (i.out.mono t.out.size)⟩
 | true=>
 cases C with
 | false=>
  go_wp2_with (first
   | (go_at_call 245;refine (C3.out z i.out).mono ?_;rintro e Z ⟨rfl,b⟩;have o:Hid (Below d.heap.size d Z):=i.out.trans (b.mono i.out.size);have v:=hid (j.out.below b);obtain⟨m1,m2,m3,m4,m5,m6,m7,x0,x1,x2,x3⟩:=v.out;have v7:=zh b Y;clear b)
   | (go_at_call 245;refine (C2.out H f.out).mono ?_;rintro e z ⟨rfl,b⟩;have i:Hid (Below d.heap.size d z):=f.out.trans (b.mono f.out.size);have j:=hid (h.out.below b);obtain⟨j1,j2,j3,j4,j5,j6,j7,u0,u1,u2,u3⟩:=j.out;have Y:=zh b G;clear b)
   | (go_at_call 245;refine (V.out d (ze _ _)).mono ?_;rintro e H ⟨rfl,b⟩;have f:=hid b;have h:=hid (U.out.below b);obtain⟨i1,i2,i3,i4,i5,i6,i7,t0,t1,t2,t3⟩:=h.out;have G:=zh b l;clear b))
  go_ret;exact⟨rfl,t.out.trans (o.out.mono t.out.size)⟩
 | true=>
  go_wp2_with (first
   | (go_at_call 246;refine (C4.out Z o.out).mono ?_;rintro e w8 ⟨rfl,b⟩;have a5:Hid (Below d.heap.size d w8):=o.out.trans (b.mono o.out.size);clear b)
   | (go_at_call 245;refine (C3.out z i.out).mono ?_;rintro e Z ⟨rfl,b⟩;have o:Hid (Below d.heap.size d Z):=i.out.trans (b.mono i.out.size);have v:=hid (j.out.below b);obtain⟨m1,m2,m3,m4,m5,m6,m7,x0,x1,x2,x3⟩:=v.out;have v7:=zh b Y;clear b)
   | (go_at_call 245;refine (C2.out H f.out).mono ?_;rintro e z ⟨rfl,b⟩;have i:Hid (Below d.heap.size d z):=f.out.trans (b.mono f.out.size);have j:=hid (h.out.below b);obtain⟨j1,j2,j3,j4,j5,j6,j7,u0,u1,u2,u3⟩:=j.out;have Y:=zh b G;clear b)
   | (go_at_call 245;refine (V.out d (ze _ _)).mono ?_;rintro e H ⟨rfl,b⟩;have f:=hid b;have h:=hid (U.out.below b);obtain⟨i1,i2,i3,i4,i5,i6,i7,t0,t1,t2,t3⟩:=h.out;have G:=zh b l;clear b))
  go_ret;exact⟨rfl,t.out.trans (a5.out.mono t.out.size)⟩
theorem MW{α:Type}(l:List α)(d:α)(p:α->Bool):zx (λj=>p (l.getD j d)) l.length=l.findIdx? p:=by
 have c:∀j,(h:j<l.length)->l.getD j d=l[j]:=λj h=>by rw[zQ,zm h];rfl
 cases h:l.findIdx? p with
 | none=>
  have b:=bN.1 h;exact QP _ _ (λj a=>by show p (l.getD j d)=false;rw[c j a];exact b _ (qA a))
 | some k=>
  obtain⟨e,f,b⟩:=VU.1 h;exact QO _ _ k e (λj a=>by show p (l.getD j d)=false;rw[c j (by omega)];simpa using b j a) (by show p (l.getD k d)=true;rw[c k e];exact f)
theorem La(s:zS)(g h i j:Value)(eff:BY)(r:Ref.Req)(ao:Option Addr)(cap o p:Nat)(w:World)(a:XE w g h i j s)(v:Y4 s)(x:Y3 s)(y:∀c ∈ s.ifs,c.vals.length<=1000)(d:qQ w ao r.marks)(f:Ref.xP r=true)(u:yg w)
  (q:w.cell? ⟨o,0,none⟩=some (.string eff))(G:jm w p r ao cap) :
  Calls prog 226 #[.agg #[.string s.eff,.bool s.who.1,g,.bool s.act.1,h,.bool s.on.1,i,j],.pointer (some ⟨o,0,none⟩),.pointer (some ⟨p,0,none⟩)] w λe w'=>e = .returned (.bool (De.QR eff r s))/\Below w.heap.size w w':=by
 have b0:=λO:Obj=>nbl w O;have b:=λO:Obj=>EP s g h i j r ao cap (w.alloc O) (a.below (b0 O)) v x y (xB d (b0 O)) f (u.below (b0 O));have P:=λO:Obj=>zh (b0 O) q;obtain⟨q2,z,B,C⟩:=G;have k:=λO:Obj=>zh (b0 O) q2;have l:=λO:Obj=>zh (b0 O) z;have m:=λO:Obj=>zh (b0 O) B;have n:=λO:Obj=>zh (b0 O) C;obtain⟨H,T,rfl,_⟩:=a.who;obtain⟨I,U,rfl,_⟩:=a.act;obtain⟨J,V,rfl,_⟩:=a.on;obtain⟨K,W,rfl,_⟩:=a.ifs;unfold De.QR;obtain⟨A,t⟩:=Nm (De.YD s r);rw[t] at b |-;clear t a v x y d f u q q2 z B C;obtain⟨who,act,on,ms⟩:=r;obtain⟨F,⟨L,Q⟩,⟨M,R⟩,⟨N,S⟩,cs⟩:=s;unfold Ref.zY at b;simp only at b k l m n |-;have D:=hid b;clear b
 cases hh:(F.toList==eff.toList) with
 | false=>
  rw[uJ];go_enter func226,ntmps226;go_wp2_with fail;go_ret;exact⟨rfl,b0 _⟩
 | true=>
  rw[jC];go_enter func226,ntmps226
  go_wp2_with (go_at_call 227;refine (D.out _).mono ?_;rintro e w1 ⟨rfl,E⟩)
  go_ret;exact⟨rfl,(b0 _).trans (E.mono (b0 _).size)⟩
theorem XX.few{b:List zS}(h:XX b):∀s ∈ b,Y4 s/\Y3 s/\∀c ∈ s.ifs,c.vals.length<=1000:=
 λs a=>⟨h.2.2 s a,Y3.of (h.2.1 s a),λc d=>by have:=((h.2.1 s a).cs c d).2.2.1;omega⟩
theorem Lb(b:List zS)(h:Value)(eff:BY)(r:Ref.Req)(ao:Option Addr)(cap:Nat)(w:World)(K:Q7 w h b)(y:XX b)(o:qQ w ao r.marks)(p:Ref.xP r=true)(I:yg w) :
  Calls prog 189 #[.agg #[h],.string eff,Ref.zY r ao cap] w λe w'=>e = .returned (.tuple #[.int .i64 (match De.YM eff r b with|none=>0|some k=>((k+1:Nat):Int)),.bool (De.YM eff r b).isSome])/\Below w.heap.size w w':=by
 obtain⟨d,j⟩:∃W,w.alloc (.cells #[h] 72)=W:=⟨_,rfl⟩;have E:d.heap.size=w.heap.size+1:=by rw[<- j];simp
 have L:d.heap[w.heap.size]?=some (.cells #[h] 72):=by rw[<- j];exact zB w _
 have A:Below w.heap.size w d:=by rw[<- j];exact nbl w _
 obtain⟨f,l⟩:∃W,d.alloc (.cells #[.string eff] 9)=W:=⟨_,rfl⟩;have N:f.heap.size=w.heap.size+2:=by rw[<- l];simp[E]
 have M:f.heap[w.heap.size+1]?=some (.cells #[.string eff] 9):=by rw[<- l,<- E];exact zB d _
 have u:Below d.heap.size d f:=by rw[<- l];exact nbl d _
 obtain⟨g,x⟩:∃W,f.alloc (.cells #[.string r.who,.string r.act,.string r.on,.slice ao r.marks.length cap] 53)=W:=⟨_,rfl⟩;have q:g.heap[w.heap.size+2]?=some (.cells #[.string r.who,.string r.act,.string r.on,.slice ao r.marks.length cap] 53):=by rw[<- x,<- N];exact zB f _
 have v:Below f.heap.size f g:=by rw[<- x];exact nbl f _
 have i:Below w.heap.size w g:=A.trans ((u.trans (v.mono u.size)).mono A.size);have X:g.cell? ⟨w.heap.size,0,none⟩=some h:=zh v (zh u (zg L 0).1);have G:g.cell? ⟨w.heap.size+1,0,none⟩=some (.string eff):=zh v (zg M 0).1;have H:jm g (w.heap.size+2) r ao cap:=⟨(zg q 0).1,(zg q 1).1,(zg q 2).1,(zg q 3).1⟩
 have c:=Nc b h 226 #[.pointer (some ⟨w.heap.size+1,0,none⟩),.pointer (some ⟨w.heap.size+2,0,none⟩)] (De.QR eff r) g (by have:=y.1;omega) (enters_of func226 (by kernel_rfl) rfl) (K.below i)
  (λW s R S T U Q hb D=>by
    obtain⟨f1,f2,P⟩:=y.few s Q;have m:Below w.heap.size w W:=i.trans (hb.mono i.size);exact La s R S T U eff r ao cap (w.heap.size+1) (w.heap.size+2) W D f1 f2 P (xB o m) p (I.below m) (zh hb G) (Zt H hb))
 rw[MW] at c;have n:De.YM eff r b=b.findIdx? (De.QR eff r):=rfl;rw[n]
 have hle:∀k,b.findIdx? (De.QR eff r)=some k->k<100:=λk J=>by
  have:=(VU.1 J).1
  have:=y.1
  omega
 obtain⟨F,hF⟩:=Nm (b.findIdx? (De.QR eff r));rw[hF] at c hle |-;obtain⟨a,O,rfl,_⟩:=K;have C:=hid c;have z:Hid (((w.alloc (.cells #[.slice a b.length O] 72)).alloc (.cells #[.string eff] 9)).alloc (.cells #[.string r.who,.string r.act,.string r.on,.slice ao r.marks.length cap] 53)=g):=hid (by rw[j,l,x]);have t:=hid i;obtain⟨who,act,on,ms⟩:=r;unfold Ref.zY;simp only at z |-;clear c hF n y o p I j l x L M q A u v i E N G H
 cases F with
 | none=>
  simp only[QF,kS] at C |-;go_enter func189,ntmps189
  go_upto_region 1 with fail
  rw[z.out]
  go_wp2_with (go_at_call 225;refine C.out.mono ?_;rintro e V ⟨rfl,B⟩)
  go_ret2;exact⟨rfl,t.out.trans (B.mono t.out.size)⟩
 | some k=>
  have J:=hle k rfl;simp only[yB,uw] at C |-;go_enter func189,ntmps189
  go_upto_region 1 with fail
  rw[z.out]
  go_wp2_with (go_at_call 225;refine C.out.mono ?_;rintro e V ⟨rfl,B⟩)
  go_ret2;exact⟨by go_num,t.out.trans (B.mono t.out.size)⟩
def eY(F:Option (BY×Nat)):Value:=match F with
 | none => .tuple #[.string ⟨#[]⟩,.int .i64 0,.bool false]
 | some (n,k) => .tuple #[.string n,.int .i64 ((k:Nat):Int),.bool true]
theorem rJ(eff:BY)(r:Ref.Req)(L:List zF)(k:Nat)(h:k<L.length):De.yO eff r (L.drop k)=match De.YM eff r L[k].2 with
  | some i=>some (L[k].1,i+1)
  | none=>De.yO eff r (L.drop (k+1)):=by
 rw[jf h]
 rfl
theorem RI(L:List zF)(lv:Value)(eff:BY)(r:Ref.Req)(ao:Option Addr)(cap:Nat)(M:Nat->Prop)(w:World)(hl:x9 M w lv L)(T:∀x ∈ L,XX x.2)(hn:L.length<=1000)(v:qQ w ao r.marks)(y:Ref.xP r=true)(R:yg w) :
  Calls prog 142 #[lv,.string eff,Ref.zY r ao cap] w λe w'=>e = .returned (eY (De.yO eff r L))/\Below w.heap.size w w':=by
 obtain⟨la,lc,rfl,_,_,_,S⟩:=hl;have N:=λ(W:World) (hb:Below w.heap.size w W) (I:Value) (x:zF) (A:x ∈ L) (a:jd M w I x.2)=>Lb x.2 I eff r ao cap W ((CQ a).below hb) (T x A) (xB v hb) y (R.below hb);obtain⟨F,hF⟩:=Nm (De.yO eff r L);rw[hF];have f:=λk h=>rJ eff r L k h;have b0:Below w.heap.size w (w.alloc (.cells #[.string r.who,.string r.act,.string r.on,.slice ao r.marks.length cap] 53)):=nbl w _;have P:jm (w.alloc (.cells #[.string r.who,.string r.act,.string r.on,.slice ao r.marks.length cap] 53)) w.heap.size r ao cap:=⟨by simp,by simp,by simp,by simp⟩;have C:=hid N;have HC:=hid S;have HF:=hid hF;have HD:=hid f;have B:=hid b0;have E:=hid P;clear N S hF f b0 P v y R T;obtain⟨q,hq⟩:=Nm r;obtain⟨who,act,on,ms⟩:=r;unfold Ref.zY at C |-;simp only at C B E |-;go_enter func142,ntmps142
 go_wp2
 go_loopw [15] (λi wr=>∃k:Nat,k<=L.length/\i = .int .i64 k/\De.yO eff ⟨who,act,on,ms⟩ (L.drop k)=F/\Below w.heap.size w wr/\jm wr w.heap.size ⟨who,act,on,ms⟩ ao cap) (λi _=>L.length-(intOf i).toNat)
 case atStart=>exact⟨0,zH _,rfl,HF.out,B.out,E.out⟩
 case round=>
  obtain⟨k,hk,rfl,u,V,t⟩:=hrel;have n:=hid u;have s:=hid V;have G:=hid t;obtain⟨z0,z1,z2,z3⟩:=t;clear u V B E
  by_cases hlt:k<L.length
  ·obtain⟨gb,o,I,rfl,_,Y,Z,a⟩:=HC.out k L[k] (zm hlt);obtain⟨da,dc,rfl,_⟩:=CQ a;have X:=zh s.out Y;have K:=zh s.out Z;have b:=HD.out k hlt;rw[n.out] at b;have l:=λ(W:World) (hb:Below w.heap.size w W)=>C.out W hb _ L[k] (qA hlt) a;obtain⟨x,A⟩:=Nm (L[k]);simp only[A] at X K b l;obtain⟨nm,ss⟩:=x;simp only at X K b l;obtain⟨m,U⟩:=Nm ss.length;simp only[U] at K l;obtain⟨D,Q⟩:=Nm (De.YM eff ⟨who,act,on,ms⟩ ss);simp only[Q] at b l;have c:=λO=>s.out.alloc s.out.size O;have d:=λO:Obj=>Zt G.out (nbl wr O);have v0:=λO:Obj=>(d O).1;have v1:=λO:Obj=>(d O).2.1;have v2:=λO:Obj=>(d O).2.2.1;have v3:=λO:Obj=>(d O).2.2.2;simp only at v0 v1 v2 v3;have z:=hid l;have p:=hid b;clear l b a Y Z A U Q
   cases D with
   | none=>
    simp only[kS] at z
    go_wp2_with (go_at_call 189;refine (z.out _ (c _)).mono ?_;rintro e w1 ⟨rfl,j⟩;have g:Hid (Below w.heap.size w w1):=(c _).trans (j.mono (c _).size);have H:=hid (Zt (d _) j);clear j)
    refine⟨⟨k+1,by omega,by go_num,p.out.symm,g.out,H.out⟩,by simp[intOf];omega⟩
   | some i=>
    simp only[uw] at z
    go_wp2_with (go_at_call 189;refine (z.out _ (c _)).mono ?_;rintro e w1 ⟨rfl,j⟩;have g:Hid (Below w.heap.size w w1):=(c _).trans (j.mono (c _).size);have a8:=zh j (zg (zB wr (.cells #[.string nm,.slice da m dc] 187)) 0).1;clear j)
    go_ret3;exact⟨by rw[p.out];rfl,g.out⟩
  ·have J:k=L.length:=by omega
   subst J;have e:=n.out;rw[Y6] at e;have HE:=hid e;clear e
   go_wp2
   go_ret3;exact⟨by rw[<- HE.out];rfl,s.out⟩
def jM(v l:Int)(n:BY)(k:Int):Value := .agg #[.int .i64 v,.int .i64 l,.string n,.int .i64 k]
def YN(F:Option (Nat×BY×Nat)):Value:=match F with
 | none => .tuple #[jM 0 0 ⟨#[]⟩ 0,.bool false]
 | some (i,n,k) => .tuple #[jM 0 ((i:Nat):Int) n ((k:Nat):Int),.bool true]
def jL(a b c d:Value):Obj := .cells #[a,b,c,d] 48
def Qt:Obj:=jL (.int .i64 0) (.int .i64 0) (.string ⟨#[]⟩) (.int .i64 0)
theorem dZ{W:World}{b:Nat}{f g i j:Value}(h:W.heap[b]?=some (jL f g i j))(a c d e:Value) :
  ((((W.setCell ⟨b,0,none⟩ a).setCell ⟨b,1,none⟩ c).setCell ⟨b,2,none⟩ d).setCell ⟨b,3,none⟩ e).heap[b]?=some (jL a c d e):=by
 have k:=yF W b 0 _ _ a h;have l:=yF _ b 1 _ _ c k;have m:=yF _ b 2 _ _ d l;exact yF _ b 3 _ _ e m
theorem eX(st:Nat->List zF)(eff:BY)(r:Ref.Req)(is:List Nat)(k:Nat)(h:k<is.length):De.yE st eff r (is.drop k)=match De.yO eff r (st is[k]) with
  | some (n,i)=>some (is[k],n,i)
  | none=>De.yE st eff r (is.drop (k+1)):=by
 rw[jf h]
 rfl
theorem gI(ob:Nat)(st:StO)(eff:BY)(r:Ref.Req)(ao so:Option Addr)(cap sc:Nat)(is:List Nat)(M:Nat->Prop)(w:World)(h:xw M w ob st)(hi:∀i ∈ is,i<4)(hn:is.length<=100)(hs:∀j,(hj:j<is.length)->∃gb o,so=some ⟨gb,o,none⟩/\w.cell? ⟨gb,o+j,none⟩=some (.int .i64 ((is[j]:Nat):Int)))(P:qQ w ao r.marks)(Q:Ref.xP r=true)(hE:yg w) :
  Calls prog 89 #[.pointer (some ⟨ob,0,none⟩),.string eff,Ref.zY r ao cap,.slice so is.length sc] w λe w'=>e = .returned (YN (De.yE st eff r is))/\Below w.heap.size w w':=by
 have cL:=λ(W:World) (hb:Below w.heap.size w W) (i:Nat) (u:i<4) (lv:Value) (hl:x9 M W lv (st i))=>RI (st i) lv eff r ao cap M W hl (λx hx=>(h.good i u).2.2 x hx) (by have:=(h.good i u).2.1;omega) (xB P hb) Q (hE.below hb);obtain⟨F,hF⟩:=Nm (De.yE st eff r is);rw[hF];have g:=λk h=>eX st eff r is k h;obtain⟨t,K⟩:∃W,w.alloc (.cells #[.string r.who,.string r.act,.string r.on,.slice ao r.marks.length cap] 53)=W:=⟨_,rfl⟩;have s1:t.heap.size=w.heap.size+1:=by rw[<- K];simp
 have R:t.heap[w.heap.size]?=some (.cells #[.string r.who,.string r.act,.string r.on,.slice ao r.marks.length cap] 53):=by rw[<- K];exact zB w _
 have b1:Below w.heap.size w t:=by rw[<- K];exact nbl w _
 obtain⟨I,X⟩:∃W,t.alloc Qt=W:=⟨_,rfl⟩;have n2:I.heap[w.heap.size+1]?=some Qt:=by rw[<- X,<- s1];exact zB t _
 have b2:Below t.heap.size t I:=by rw[<- X];exact nbl t _
 have bw:Below w.heap.size w I:=b1.trans (b2.mono b1.size);have g2:jm I w.heap.size r ao cap:=Zt ⟨(zg R 0).1,(zg R 1).1,(zg R 2).1,(zg R 3).1⟩ b2;have HW:Hid ((w.alloc (.cells #[.string r.who,.string r.act,.string r.on,.slice ao r.marks.length cap] 53)).alloc (.cells #[.int .i64 0,.int .i64 0,.string ⟨#[]⟩,.int .i64 0] 48)=I):=hid (by rw[K];exact X);have f9:ob<w.heap.size:=by obtain⟨Z,Y,_⟩:=h.row;exact zt Y
 have CL:=hid cL;have HF:=hid hF;have HD:=hid g;have HO:=hid h;have HI:=hid hi;have HS:=hid hs;have BW:=hid bw;have G2:=hid g2;have N2:=hid n2;clear cL hF g h hi hs bw g2 n2 b1 b2 R K X s1 P Q hE;obtain⟨who,act,on,ms⟩:=r;unfold Ref.zY at CL |-;simp only at CL HW |-;go_enter func89,ntmps89
 go_upto_region 1 with fail
 rw[HW.out];go_wp2_with fail
 go_loopw [17] (λi wr=>∃k:Nat,k<=is.length/\i = .int .i64 k/\De.yE st eff ⟨who,act,on,ms⟩ (is.drop k)=F/\Below w.heap.size w wr/\jm wr w.heap.size ⟨who,act,on,ms⟩ ao cap/\wr.heap[w.heap.size+1]?=some Qt) (λi _=>is.length-(intOf i).toNat)
 case atStart=>exact⟨0,zH _,rfl,HF.out,BW.out,G2.out,N2.out⟩
 case round=>
  obtain⟨k,hk,rfl,N,hw,L,q⟩:=hrel;have E:=hid N;have s:=hid hw;have a2:=hid L;have H:=hid q;obtain⟨z0,z1,z2,z3⟩:=L;simp only at z0 z1 z2 z3;have y0:=(zg q 0).1;have y1:=(zg q 1).1;have y2:=(zg q 2).1;have y3:=(zg q 3).1;have t0:=(zg q 0).2;have t1:=(zg q 1).2;have t2:=(zg q 2).2;have t3:=(zg q 3).2;simp at y0 y1 y2 y3 t0 t1 t2 t3;clear N hw q BW G2 N2
  by_cases hlt:k<is.length
  ·obtain⟨gb,o,rfl,q0⟩:=HS.out k hlt;have p0:=zh s.out q0;have p:=HD.out k hlt;rw[E.out] at p;have u:=HI.out is[k] (qA hlt);obtain⟨i,O⟩:=Nm (is[k]);simp only[O] at p0 p u;obtain⟨Z,y,l⟩:=(HO.out.below s.out).row;have c0:wr.cell? ⟨ob,i,none⟩=some (Z i):=(zg y i).1.trans (Jo Z u);obtain⟨la,ln,lc,Y⟩:∃a n c,Z i = .slice a n c:=by obtain⟨a,c,e,_⟩:=l i u;exact⟨a,_,c,e⟩
   have B:=l i u;rw[Y] at c0 B;have z:=hid (CL.out wr.drew s.out.drew i u _ (B.turn (zw.of (ze _ wr).drew)));obtain⟨D,hD⟩:=Nm (De.yO eff ⟨who,act,on,ms⟩ (st i));rw[hD] at z p;have G:=hid p;have k0:(0:Int)<=(i:Int):=qz _;have k1:(i:Int)<4:=by omega
   clear y l Y B q0 p O hD
   cases D with
   | none=>
    unfold eY at z;simp only at z;go_wp2_with fail
    go_region_held3 (λw'=>w'.cell? ⟨ob,i,none⟩=some (.slice la ln lc)/\w'.cell? ⟨w.heap.size,0,none⟩=some (.string who)/\w'.cell? ⟨w.heap.size,1,none⟩=some (.string act)/\w'.cell? ⟨w.heap.size,2,none⟩=some (.string on)/\w'.cell? ⟨w.heap.size,3,none⟩=some (.slice ao ms.length cap)) (go_keep) (first
     | ((go_at_call 142);refine z.out.mono ?_;rintro e C ⟨rfl,J⟩;have f:Below wr.heap.size wr C:=(ze _ wr).drew.trans J;have e0:=zh f c0;have e1:=zh f z0;have e2:=zh f z1;have e3:=zh f z2;have e4:=zh f z3;have b:=hid ((f.block (w.heap.size+1) (zt H.out)).trans H.out);have a3:=hid (Zt a2.out f);have A:Hid (Below w.heap.size w C):=s.out.trans (f.mono s.out.size);clear J f))
    all_goals
     go_wp2_with fail
     go_roundw
     case rel=>exact⟨k+1,by omega,by go_num,G.out.symm,A.out,a3.out,b.out⟩
     case measure=>simp[intOf];omega
   | some d=>
    obtain⟨nm,num⟩:=d;unfold eY at z;simp only at z;go_wp2_with fail
    go_region_held3 (λw'=>w'.cell? ⟨ob,i,none⟩=some (.slice la ln lc)/\w'.cell? ⟨w.heap.size,0,none⟩=some (.string who)/\w'.cell? ⟨w.heap.size,1,none⟩=some (.string act)/\w'.cell? ⟨w.heap.size,2,none⟩=some (.string on)/\w'.cell? ⟨w.heap.size,3,none⟩=some (.slice ao ms.length cap)) (go_keep) (first
     | ((go_at_call 142);refine z.out.mono ?_;rintro e C ⟨rfl,J⟩;have f:Below wr.heap.size wr C:=(ze _ wr).drew.trans J;have e0:=zh f c0;have e1:=zh f z0;have e2:=zh f z1;have e3:=zh f z2;have e4:=zh f z3;have b:=hid ((f.block (w.heap.size+1) (zt H.out)).trans H.out);have A:Hid (Below w.heap.size w C):=s.out.trans (f.mono s.out.size);clear J f))
    all_goals
     have y0:=(zg b.out 0).1;have y1:=(zg b.out 1).1;have y2:=(zg b.out 2).1;have y3:=(zg b.out 3).1;have t0:=(zg b.out 0).2;have t1:=(zg b.out 1).2;have t2:=(zg b.out 2).2;have t3:=(zg b.out 3).2;simp at y0 y1 y2 y3 t0 t1 t2 t3;have m:=dZ b.out (.int .i64 0) (.int .i64 (i:Int)) (.string nm) (.int .i64 (num:Int));have S:=(zg m 0).1;have T:=(zg m 1).1;have U:=(zg m 2).1;have V:=(zg m 3).1;simp at S T U V;have a1:Hid (Below w.heap.size w ((((C.setCell ⟨w.heap.size+1,0,none⟩ (.int .i64 0)).setCell ⟨w.heap.size+1,1,none⟩ (.int .i64 (i:Int))).setCell ⟨w.heap.size+1,2,none⟩ (.string nm)).setCell ⟨w.heap.size+1,3,none⟩ (.int .i64 (num:Int)))):=hid ((((A.out.setCell (by simp) _).setCell (by simp) _).setCell (by simp) _).setCell (by simp) _);clear m;go_wp2_with fail;exact zA (v := .tuple #[.agg #[.int .i64 0,.int .i64 (i:Int),.string nm,.int .i64 (num:Int)],.bool true]) (by simp[results,results89,go_sem,S,T,U,V]) rfl ⟨by rw[G.out];rfl,a1.out⟩
  ·have a7:k=is.length:=by omega
   subst a7;have e:=E.out;rw[Y6] at e;have HE:=hid e;have m:=dZ H.out (.int .i64 0) (.int .i64 0) (.string ⟨#[]⟩) (.int .i64 0);have S:=(zg m 0).1;have T:=(zg m 1).1;have U:=(zg m 2).1;have V:=(zg m 3).1;simp at S T U V;clear e m;go_wp2_with fail;exact zA (v := .tuple #[.agg #[.int .i64 0,.int .i64 0,.string ⟨#[]⟩,.int .i64 0],.bool false]) (by simp[results,results89,go_sem,S,T,U,V]) rfl ⟨by rw[<- HE.out];rfl,(((s.out.setCell (by simp) _).setCell (by simp) _).setCell (by simp) _).setCell (by simp) _⟩
theorem MV(st:Nat->List zF)(eff:BY)(r:Ref.Req)(i:Nat):(De.yE st eff r [i]).isSome=(De.yO eff r (st i)).isSome:=by
 simp only[De.yE]
 cases De.yO eff r (st i) with
 | none=>rfl
 | some d=>rfl
theorem Sb(ob:Nat)(st:StO)(i:Nat)(r:Ref.Req)(ao:Option Addr)(cap:Nat)(M:Nat->Prop)(w:World)(h:xw M w ob st)(I:i<4)(s:qQ w ao r.marks)(t:Ref.xP r=true)(J:yg w) :
  Calls prog 90 #[.pointer (some ⟨ob,0,none⟩),.int .i64 ((i:Nat):Int),Ref.zY r ao cap] w λe w'=>e = .returned (.bool (De.Qn st r i))/\Below w.heap.size w w':=by
 obtain⟨f,v⟩:∃W,w.alloc (.cells #[.string r.who,.string r.act,.string r.on,.slice ao r.marks.length cap] 53)=W:=⟨_,rfl⟩;have u:f.heap[w.heap.size]?=some (.cells #[.string r.who,.string r.act,.string r.on,.slice ao r.marks.length cap] 53):=by rw[<- v];exact zB w _
 have o:Below w.heap.size w f:=by rw[<- v];exact nbl w _
 obtain⟨S,T,U,V⟩:jm f w.heap.size r ao cap:=⟨(zg u 0).1,(zg u 1).1,(zg u 2).1,(zg u 3).1⟩;have D:Below f.heap.size f (f.alloc (.cells #[.int .i64 ((i:Nat):Int)] 3)):=nbl f _;have p:Below w.heap.size w (f.alloc (.cells #[.int .i64 ((i:Nat):Int)] 3)):=o.trans (D.mono o.size)
 have A:=gI ob st De.jl r ao (some ⟨f.heap.size,0,none⟩) cap 1 [i] M (f.alloc (.cells #[.int .i64 ((i:Nat):Int)] 3)) (h.below p) (λj x=>by simp at x;omega) (by simp) (λj x=>by
   simp at x;subst x;exact⟨_,_,rfl,by simp⟩) (xB s p) t (J.below p)
 obtain⟨C,l,k⟩:=(h.below o).row;have c0:f.cell? ⟨ob,i,none⟩=some (C i):=(zg l i).1.trans (Jo C I);obtain⟨Z,lc,L⟩:∃a c,C i = .slice a (st i).length c:=by obtain⟨a,c,e,_⟩:=k i I;exact⟨a,c,e⟩
 rw[L] at c0;have X:(0:Int)<=(i:Int):=qz _;have Y:(i:Int)<4:=by omega
 have g:=MV st De.jl r i;unfold De.Qn;rw[<- g];obtain⟨F,hF⟩:=Nm (De.yE st De.jl r [i]);rw[hF] at A |-;have q:(st i).isEmpty=decide ((st i).length=0):=by cases st i<;>simp
 rw[q];obtain⟨n,K⟩:=Nm ((st i).length);rw[K] at c0 |-;have z:=hid v;have m:=hid A;have R:=hid o;have y:=hid p;obtain⟨who,act,on,ms⟩:=r;unfold Ref.zY at m |-;simp only at m z S T U V |-;unfold De.jl at m;clear A hF g l k L h s t J v o D p u q K
 by_cases hz:n=0
 ·subst hz;go_enter func90,ntmps90
  go_upto_region 1 with fail
  rw[z.out];go_wp2_with fail;go_ret;exact⟨rfl,R.out⟩
 ·have d:((n:Int)==0)=false:=by simp;omega
  rw[zJ hz,Xa]
  have e:∃B b,YN F = .tuple #[B,.bool b]/\b=F.isSome/\∃N O P Q,B=jM N O P Q:=by
   cases F with
   | none=>exact⟨_,_,rfl,rfl,_,_,_,_,rfl⟩
   | some d=>exact⟨_,_,rfl,rfl,_,_,_,_,rfl⟩
  obtain⟨B,b,G,H,N,O,P,Q,rfl⟩:=e;rw[G] at m;rw[<- H];unfold jM at m;clear G H;go_enter func90,ntmps90
  go_upto_region 1 with fail
  rw[z.out]
  go_wp2_with (go_at_call 89;refine m.out.mono ?_;rintro e w3 ⟨rfl,E⟩)
  go_ret;exact⟨rfl,(y.out.trans (E.mono y.out.size)).alloc (by have:=y.out.size;have:=E.size;omega) _⟩
def Pg.reqLen(r:Ref.Req):Prop:=r.who.size<=maxLen/\r.act.size<=maxLen/\r.on.size<=maxLen/\r.marks.length<=100000000000/\∀m ∈ r.marks,m.1.size<=maxLen/\m.2.size<=maxLen
theorem SI(r:Ref.Req)(ao:Option Addr)(cap:Nat)(w:World)(B:qQ w ao r.marks)(I:Pg.reqLen r)(z:kW w) :
  Calls prog 45 #[Ref.zY r ao cap] w λe w'=>e = .returned (.bool (Ref.xP r))/\Below w.heap.size w w':=by
 obtain⟨who,act,on,ms⟩:=r;obtain⟨D,E,F,G,H⟩:=I;simp only at D E F G H B
 have u:=λW hb=>Eh ms ao cap W G (λj C=>by
  exact H (Zc ms j) (by rw[Ju ms j C];exact qA C)) (xB B hb) (z.below hb)
 generalize l:Ref.xP ⟨who,act,on,ms⟩=Q;unfold Ref.xP at l;simp only at l;unfold Ref.zY;simp only;have b0:=λO=>nbl w O;have c1:=KW who _ rfl D;have c2:=KW act _ rfl E;have c3:=KW on _ rfl F;have k:∀w1,Below w.heap.size w w1->kW w1:=λw1 h=>z.below h;clear B z
 cases d1:Ref.yT who with
 | false=>
  have e:Q=false:=by rw[<- l,d1];simp
  subst e;rw[d1] at c1;clear l d1 u c2 c3;go_enter func45,ntmps45
  go_wp2_with (go_at_call 86;refine (c1 _ (k _ (b0 _))).mono ?_;rintro e w1 ⟨rfl,a⟩)
  go_ret;exact⟨rfl,(b0 _).trans (a.mono (by simp))⟩
 | true=>
 rw[d1] at c1
 cases d2:Ref.yT act with
 | false=>
  have e:Q=false:=by rw[<- l,d2];simp
  subst e;rw[d2] at c2;clear l d1 d2 u c3;go_enter func45,ntmps45
  go_wp2_with (first
   | (go_at_call 86;refine (c2 w1 (k _ b)).mono ?_;rintro e i ⟨rfl,c⟩;have d:Below w.heap.size w i:=b.trans (c.mono b.size);obtain⟨o,q⟩:=yN c;have t:w.heap.size<i.heap.size:=by (have:=c.size;omega))
   | (go_at_call 86;refine (c1 _ (k _ (b0 _))).mono ?_;rintro e w1 ⟨rfl,a⟩;have b:Below w.heap.size w w1:=(b0 _).trans (a.mono (by simp));obtain⟨n,p⟩:=yN a;have s:w.heap.size<w1.heap.size:=by (have:=a.size;simp at this;omega)))
  go_ret;exact⟨rfl,d⟩
 | true=>
 rw[d2] at c2
 cases d3:Ref.yT on with
 | false=>
  have e:Q=false:=by rw[<- l,d3];simp
  subst e;rw[d3] at c3;clear l d1 d2 d3 u;go_enter func45,ntmps45
  go_wp2_with (first
   | (go_at_call 86;refine (c3 i (k _ d)).mono ?_;rintro e m ⟨rfl,f⟩;have g:Below w.heap.size w m:=d.trans (f.mono d.size);obtain⟨v,x⟩:=yN f;have y:w.heap.size<m.heap.size:=by (have:=f.size;omega))
   | (go_at_call 86;refine (c2 w1 (k _ b)).mono ?_;rintro e i ⟨rfl,c⟩;have d:Below w.heap.size w i:=b.trans (c.mono b.size);obtain⟨o,q⟩:=yN c;have t:w.heap.size<i.heap.size:=by (have:=c.size;omega))
   | (go_at_call 86;refine (c1 _ (k _ (b0 _))).mono ?_;rintro e w1 ⟨rfl,a⟩;have b:Below w.heap.size w w1:=(b0 _).trans (a.mono (by simp));obtain⟨n,p⟩:=yN a;have s:w.heap.size<w1.heap.size:=by (have:=a.size;simp at this;omega)))
  go_ret;exact⟨rfl,g⟩
 | true=>
 rw[d3] at c3
 by_cases d4:ms.length<=10
 ·have e:Q=ms.all Ref.jP:=by rw[<- l,d1,d2,d3,zy d4];simp
  have J:decide ((ms.length:Int)<=10)=true:=zy (by omega);rw[<- e] at u;clear l d1 d2 d3 d4 e;go_enter func45,ntmps45
  go_wp2_with (first
   | (go_at_call 87;refine (u m g).mono ?_;rintro e K ⟨rfl,A⟩)
   | (go_at_call 86;refine (c3 i (k _ d)).mono ?_;rintro e m ⟨rfl,f⟩;have g:Below w.heap.size w m:=d.trans (f.mono d.size);obtain⟨v,x⟩:=yN f;have y:w.heap.size<m.heap.size:=by (have:=f.size;omega))
   | (go_at_call 86;refine (c2 w1 (k _ b)).mono ?_;rintro e i ⟨rfl,c⟩;have d:Below w.heap.size w i:=b.trans (c.mono b.size);obtain⟨o,q⟩:=yN c;have t:w.heap.size<i.heap.size:=by (have:=c.size;omega))
   | (go_at_call 86;refine (c1 _ (k _ (b0 _))).mono ?_;rintro e w1 ⟨rfl,a⟩;have b:Below w.heap.size w w1:=(b0 _).trans (a.mono (by simp));obtain⟨n,p⟩:=yN a;have s:w.heap.size<w1.heap.size:=by (have:=a.size;simp at this;omega)))
  go_ret;exact⟨rfl,g.trans (A.mono g.size)⟩
 ·have e:Q=false:=by rw[<- l,zJ d4];simp
  have J:decide ((ms.length:Int)<=10)=false:=zJ (by omega);subst e;clear l d1 d2 d3 d4 u;go_enter func45,ntmps45
  go_wp2_with (first
   | (go_at_call 86;refine (c3 i (k _ d)).mono ?_;rintro e m ⟨rfl,f⟩;have g:Below w.heap.size w m:=d.trans (f.mono d.size);obtain⟨v,x⟩:=yN f;have y:w.heap.size<m.heap.size:=by (have:=f.size;omega))
   | (go_at_call 86;refine (c2 w1 (k _ b)).mono ?_;rintro e i ⟨rfl,c⟩;have d:Below w.heap.size w i:=b.trans (c.mono b.size);obtain⟨o,q⟩:=yN c;have t:w.heap.size<i.heap.size:=by (have:=c.size;omega))
   | (go_at_call 86;refine (c1 _ (k _ (b0 _))).mono ?_;rintro e w1 ⟨rfl,a⟩;have b:Below w.heap.size w w1:=(b0 _).trans (a.mono (by simp));obtain⟨n,p⟩:=yN a;have s:w.heap.size<w1.heap.size:=by (have:=a.size;simp at this;omega)))
  go_ret;exact⟨rfl,g⟩
end Go.Proofs.YtdakgnaojakldaaGreatDoor
