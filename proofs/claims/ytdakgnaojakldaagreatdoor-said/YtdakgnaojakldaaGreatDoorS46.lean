/- P -/
import Derived.Test.YtdakgnaojakldaaGreatDoorS45
open Go.Proofs.Tryz
set_option maxRecDepth 100000
set_option maxHeartbeats 2000000
namespace Go.Proofs.YtdakgnaojakldaaGreatDoor
open Go.RowKit
theorem tC{α:Type}(l:List α)(d:α)(p:α->Bool):zl (λj=>p (l.getD j d)) l.length=l.findIdx? p:=by
 have c:∀j,(h:j<l.length)->l.getD j d=l[j]:=λj h=>by rw[List.getD_eq_getElem?_getD,List.getElem?_eq_getElem h];rfl
 cases h:l.findIdx? p with
 | none=>
  have b:=List.findIdx?_eq_none_iff.1 h;exact uo _ _ (λj a=>by show p (l.getD j d)=false;rw[c j a];exact b _ (List.getElem_mem a))
 | some k=>
  obtain⟨e,f,b⟩:=List.findIdx?_eq_some_iff_getElem.1 h;exact um _ _ k e (λj a=>by show p (l.getD j d)=false;rw[c j (by omega)];simpa using b j a) (by show p (l.getD k d)=true;rw[c k e];exact f)
theorem pu(s:zz)(g h i j:Value)(eff:BY)(r:Ref.Req)(ao:Option Addr)(cap o p:Nat)(w:World)(a:ZW w g h i j s)(v:QG s)(x:QE s)(y:∀c ∈ s.ifs,c.vals.length<=1000)(d:qO w ao r.marks)(f:Ref.xe r=true)(u:qD w)
  (q:w.cell? ⟨o,0,none⟩=some (.string eff))(G:Zf w p r ao cap) :
  Calls prog 226 #[.agg #[.string s.eff,.bool s.who.1,g,.bool s.act.1,h,.bool s.on.1,i,j],.pointer (some ⟨o,0,none⟩),.pointer (some ⟨p,0,none⟩)] w λe H=>e = .returned (.bool (De.qE eff r s))/\Below w.heap.size w H:=by
 have b0:=λO:Obj=>nb w O;have b:=λO:Obj=>lU s g h i j r ao cap (w.alloc O) (a.below (b0 O)) v x y (jm d (b0 O)) f (u.below (b0 O));have Q:=λO:Obj=>zg (b0 O) q;obtain⟨q2,z,B,C⟩:=G;have k:=λO:Obj=>zg (b0 O) q2;have l:=λO:Obj=>zg (b0 O) z;have m:=λO:Obj=>zg (b0 O) B;have n:=λO:Obj=>zg (b0 O) C;obtain⟨I,V,rfl,_⟩:=a.who;obtain⟨J,W,rfl,_⟩:=a.act;obtain⟨K,X,rfl,_⟩:=a.on;obtain⟨L,Y,rfl,_⟩:=a.ifs;unfold De.qE;obtain⟨A,t⟩:=Nm (De.uf s r);rw[t] at b |-;clear t a v x y d f u q q2 z B C;obtain⟨who,act,on,ms⟩:=r;obtain⟨F,⟨M,R⟩,⟨N,S⟩,⟨P,T⟩,cs⟩:=s;unfold Ref.qP at b;simp only at b k l m n |-;have D:=hid b;clear b
 cases hh:(F.toList==eff.toList) with
 | false=>
  rw[Bool.false_and];go_enter func226,ntmps226;go_wp2_with fail;go_ret;exact⟨rfl,b0 _⟩
 | true=>
  rw[Bool.true_and];go_enter func226,ntmps226
  go_wp2_with (go_at_call 227;refine (D.out _).mono ?_;rintro e U ⟨rfl,E⟩)
  go_ret;exact⟨rfl,(b0 _).trans (E.mono (b0 _).size)⟩
theorem Qc.few{b:List zz}(h:Qc b):∀s ∈ b,QG s/\QE s/\∀c ∈ s.ifs,c.vals.length<=1000:=
 λs a=>⟨h.2.2 s a,QE.of (h.2.1 s a),λc d=>by have:=((h.2.1 s a).cs c d).2.2.1;omega⟩
theorem pz(b:List zz)(h:Value)(eff:BY)(r:Ref.Req)(ao:Option Addr)(cap:Nat)(w:World)(J:ZX w h b)(hd:Qc b)(o:qO w ao r.marks)(p:Ref.xe r=true)(H:qD w) :
  Calls prog 189 #[.agg #[h],.string eff,Ref.qP r ao cap] w λe U=>e = .returned (.tuple #[.int .i64 (match De.vO eff r b with|none=>0|some k=>((k+1:Nat):Int)),.bool (De.vO eff r b).isSome])/\Below w.heap.size w U:=by
 obtain⟨d,j⟩:∃W,w.alloc (.cells #[h] 72)=W:=⟨_,rfl⟩;have D:d.heap.size=w.heap.size+1:=by rw[<- j];simp
 have K:d.heap[w.heap.size]?=some (.cells #[h] 72):=by rw[<- j];exact heap_alloc_new w _
 have z:Below w.heap.size w d:=by rw[<- j];exact nb w _
 obtain⟨f,l⟩:∃W,d.alloc (.cells #[.string eff] 9)=W:=⟨_,rfl⟩;have M:f.heap.size=w.heap.size+2:=by rw[<- l];simp[D]
 have L:f.heap[w.heap.size+1]?=some (.cells #[.string eff] 9):=by rw[<- l,<- D];exact heap_alloc_new d _
 have u:Below d.heap.size d f:=by rw[<- l];exact nb d _
 obtain⟨g,x⟩:∃W,f.alloc (.cells #[.string r.who,.string r.act,.string r.on,.slice ao r.marks.length cap] 53)=W:=⟨_,rfl⟩;have q:g.heap[w.heap.size+2]?=some (.cells #[.string r.who,.string r.act,.string r.on,.slice ao r.marks.length cap] 53):=by rw[<- x,<- M];exact heap_alloc_new f _
 have v:Below f.heap.size f g:=by rw[<- x];exact nb f _
 have i:Below w.heap.size w g:=z.trans ((u.trans (v.mono u.size)).mono z.size);have X:g.cell? ⟨w.heap.size,0,none⟩=some h:=zg v (zg u (ze K 0).1);have E:g.cell? ⟨w.heap.size+1,0,none⟩=some (.string eff):=zg v (ze L 0).1;have G:Zf g (w.heap.size+2) r ao cap:=⟨(ze q 0).1,(ze q 1).1,(ze q 2).1,(ze q 3).1⟩
 have c:=tN b h 226 #[.pointer (some ⟨w.heap.size+1,0,none⟩),.pointer (some ⟨w.heap.size+2,0,none⟩)] (De.qE eff r) g (by have:=hd.1;omega) (enters_of func226 (by kernel_rfl) rfl) (J.below i)
  (λW s Q R S T P hb B=>by
    obtain⟨f1,f2,O⟩:=hd.few s P;have m:Below w.heap.size w W:=i.trans (hb.mono i.size);exact pu s Q R S T eff r ao cap (w.heap.size+1) (w.heap.size+2) W B f1 f2 O (jm o m) p (H.below m) (zg hb E) (Qh G hb))
 rw[tC] at c;have n:De.vO eff r b=b.findIdx? (De.qE eff r):=rfl;rw[n]
 have hle:∀k,b.findIdx? (De.qE eff r)=some k->k<100:=λk I=>by
  have:=(List.findIdx?_eq_some_iff_getElem.1 I).1
  have:=hd.1
  omega
 obtain⟨F,hF⟩:=Nm (b.findIdx? (De.qE eff r));rw[hF] at c hle |-;obtain⟨a,N,rfl,_⟩:=J;have C:=hid c;have y:Hid (((w.alloc (.cells #[.slice a b.length N] 72)).alloc (.cells #[.string eff] 9)).alloc (.cells #[.string r.who,.string r.act,.string r.on,.slice ao r.marks.length cap] 53)=g):=hid (by rw[j,l,x]);have t:=hid i;obtain⟨who,act,on,ms⟩:=r;unfold Ref.qP;simp only at y |-;clear c hF n hd o p H j l x K L q z u v i D M E G
 cases F with
 | none=>
  simp only[Option.getD_none,Option.isSome_none] at C |-;go_enter func189,ntmps189
  go_upto_region 1 with fail
  rw[y.out]
  go_wp2_with (go_at_call 225;refine C.out.mono ?_;rintro e V ⟨rfl,A⟩)
  go_ret2;exact⟨rfl,t.out.trans (A.mono t.out.size)⟩
 | some k=>
  have I:=hle k rfl;simp only[Option.getD_some,Option.isSome_some] at C |-;go_enter func189,ntmps189
  go_upto_region 1 with fail
  rw[y.out]
  go_wp2_with (go_at_call 225;refine C.out.mono ?_;rintro e V ⟨rfl,A⟩)
  go_ret2;exact⟨by go_num,t.out.trans (A.mono t.out.size)⟩
def Vm(F:Option (BY×Nat)):Value:=match F with
 | none => .tuple #[.string ⟨#[]⟩,.int .i64 0,.bool false]
 | some (n,k) => .tuple #[.string n,.int .i64 ((k:Nat):Int),.bool true]
theorem sZ(eff:BY)(r:Ref.Req)(L:List zm)(k:Nat)(h:k<L.length):De.yx eff r (L.drop k)=match De.vO eff r L[k].2 with
  | some i=>some (L[k].1,i+1)
  | none=>De.yx eff r (L.drop (k+1)):=by
 rw[List.drop_eq_getElem_cons h]
 rfl
theorem Cw(L:List zm)(X:Value)(eff:BY)(r:Ref.Req)(ao:Option Addr)(cap:Nat)(M:Nat->Prop)(w:World)(hl:xh M w X L)(hd:∀x ∈ L,Qc x.2)(hn:L.length<=1000)(v:qO w ao r.marks)(y:Ref.xe r=true)(S:qD w) :
  Calls prog 142 #[X,.string eff,Ref.qP r ao cap] w λe w'=>e = .returned (Vm (De.yx eff r L))/\Below w.heap.size w w':=by
 obtain⟨la,lc,rfl,_,_,_,T⟩:=hl;have P:=λ(W:World) (hb:Below w.heap.size w W) (I:Value) (x:zm) (A:x ∈ L) (a:xx M w I x.2)=>pz x.2 I eff r ao cap W ((gT a).below hb) (hd x A) (jm v hb) y (S.below hb);obtain⟨F,hF⟩:=Nm (De.yx eff r L);rw[hF];have f:=λk h=>sZ eff r L k h;have b0:Below w.heap.size w (w.alloc (.cells #[.string r.who,.string r.act,.string r.on,.slice ao r.marks.length cap] 53)):=nb w _;have Q:Zf (w.alloc (.cells #[.string r.who,.string r.act,.string r.on,.slice ao r.marks.length cap] 53)) w.heap.size r ao cap:=⟨by simp,by simp,by simp,by simp⟩;have C:=hid P;have HC:=hid T;have HF:=hid hF;have HD:=hid f;have B:=hid b0;have E:=hid Q;clear P T hF f b0 Q v y S hd;obtain⟨q,hq⟩:=Nm r;obtain⟨who,act,on,ms⟩:=r;unfold Ref.qP at C |-;simp only at C B E |-;go_enter func142,ntmps142
 go_wp2
 go_loopw [15] (λi wr=>∃k:Nat,k<=L.length/\i = .int .i64 k/\De.yx eff ⟨who,act,on,ms⟩ (L.drop k)=F/\Below w.heap.size w wr/\Zf wr w.heap.size ⟨who,act,on,ms⟩ ao cap) (λi _=>L.length-(intOf i).toNat)
 case atStart=>exact⟨0,Nat.zero_le _,rfl,HF.out,B.out,E.out⟩
 case round=>
  obtain⟨k,hk,rfl,u,V,t⟩:=hrel;have n:=hid u;have s:=hid V;have G:=hid t;obtain⟨z0,z1,z2,z3⟩:=t;clear u V B E
  by_cases hlt:k<L.length
  ·obtain⟨gb,o,I,rfl,_,Z,q1,a⟩:=HC.out k L[k] (List.getElem?_eq_getElem hlt);obtain⟨da,dc,rfl,_⟩:=gT a;have Y:=zg s.out Z;have K:=zg s.out q1;have b:=HD.out k hlt;rw[n.out] at b;have l:=λ(W:World) (hb:Below w.heap.size w W)=>C.out W hb _ L[k] (List.getElem_mem hlt) a;obtain⟨x,A⟩:=Nm (L[k]);simp only[A] at Y K b l;obtain⟨nm,ss⟩:=x;simp only at Y K b l;obtain⟨m,U⟩:=Nm ss.length;simp only[U] at K l;obtain⟨D,R⟩:=Nm (De.vO eff ⟨who,act,on,ms⟩ ss);simp only[R] at b l;have c:=λO=>s.out.alloc s.out.size O;have d:=λO:Obj=>Qh G.out (nb wr O);have v0:=λO:Obj=>(d O).1;have v1:=λO:Obj=>(d O).2.1;have v2:=λO:Obj=>(d O).2.2.1;have v3:=λO:Obj=>(d O).2.2.2;simp only at v0 v1 v2 v3;have z:=hid l;have p:=hid b;clear l b a Z q1 A U R
   cases D with
   | none=>
    simp only[Option.isSome_none] at z
    go_wp2_with (go_at_call 189;refine (z.out _ (c _)).mono ?_;rintro e N ⟨rfl,j⟩;have g:Hid (Below w.heap.size w N):=(c _).trans (j.mono (c _).size);have H:=hid (Qh (d _) j);clear j)
    refine⟨⟨k+1,by omega,by go_num,p.out.symm,g.out,H.out⟩,by simp[intOf];omega⟩
   | some i=>
    simp only[Option.isSome_some] at z
    go_wp2_with (go_at_call 189;refine (z.out _ (c _)).mono ?_;rintro e N ⟨rfl,j⟩;have g:Hid (Below w.heap.size w N):=(c _).trans (j.mono (c _).size);have a9:=zg j (ze (heap_alloc_new wr (.cells #[.string nm,.slice da m dc] 187)) 0).1;clear j)
    go_ret3;exact⟨by rw[p.out];rfl,g.out⟩
  ·have J:k=L.length:=by omega
   subst J;have e:=n.out;rw[List.drop_length] at e;have HE:=hid e;clear e
   go_wp2
   go_ret3;exact⟨by rw[<- HE.out];rfl,s.out⟩
end Go.Proofs.YtdakgnaojakldaaGreatDoor
