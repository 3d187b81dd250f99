/- P -/
import Derived.Test.YtagnlbgbnfnapaaGreatDoorK49
open Go.Proofs.Tryz
set_option maxRecDepth 100000
set_option maxHeartbeats 4000000
namespace Go.Proofs.YtagnlbgbnfnapaaGreatDoor
open Go.RowKit
theorem sw(w0:World)(L:Nat->Nat)(w:World)(Z:Nat)(c0 b3:Value)(s:List xC)(m:Nat)(h:xD w0 L w Z c0 b3 s m)(v:vO s)(r:0<s.length)(b7:s.length<=5000000000000)(a l:Int)(name text who act on:BY)(ma:Option Addr)(mn mc:Nat)(hA:I64 a)(hs:name.size<=maxLen) :
  Calls prog 19 #[.pointer (some ⟨Z,0,none⟩),ZU 3 a l name text who act on ma mn mc] w (XT w0 L w Z s.length m):=by
 unfold ZU;obtain⟨f,k⟩:∃W,w.alloc (.cells #[.int .i64 3,.int .i64 a,.int .i64 l,.string name,.string text,.string who,.string act,.string on,.slice ma mn mc] 67)=W:=⟨_,rfl⟩;have b1:Below w.heap.size w f:=by rw[<- k];exact nbl w _
 have o:f.heap[w.heap.size]?=some (.cells #[.int .i64 3,.int .i64 a,.int .i64 l,.string name,.string text,.string who,.string act,.string on,.slice ma mn mc] 67):=by rw[<- k];exact zQ w _
 have h1:=h.below b1;obtain⟨g,pc,p,rfl,Q,y,N,P,O,b5⟩:=h1.pick a r;have Y:=(zg o 0).1;have k1:=(zg o 1).1;simp at Y k1;have X:=λW=>UB a s.length W hA r (by omega);obtain⟨n,hn⟩:∃x,s.length=x:=⟨_,rfl⟩;obtain⟨i,hi⟩:∃x,Kp.vM a s.length=x:=⟨_,rfl⟩;simp only[hi] at y P O Q X;have c:=λb (hb:L b≠0)=>(h.base b hb).2;have b9:=(h.off i p y).2;have b8:=(h.ref i p y).2.1;have S:=(h.ref i p y).2.2;have f3:p.ob<w.heap.size:=c _ (by omega);have e2:p.cb<w.heap.size:=c _ (by omega);have T:∀g,p.lv.ownBlock=some g->g<w.heap.size:=λg hg=>c _ (by have:=S g hg;omega);have F:=hid (Uz h v y);simp only[hn] at Q r b7 N X |-;have CP:=hid X;have HN:=hid hn;have HP:=hid y;have H1:=hid h1;have t:=hid o;have a1:=hid v;have I:=hid k;have a2:=hid b1;have d8:=hid T;have a3:=hid c;have i0:(0:Int)<=(i:Int):=zZ _;have i1:(i:Int)<(n:Int):=by omega
 have e8:((n:Int)==0)=false:=by simp;omega
 clear X hn hi y h1 o v k b1 h T c b9 b8 S;go_enter func19,ntmps19
 go_upto_region 1 with fail
 rw[I.out];clear I
 go_upto_region 16 with fail
 go_cut [6] (λv6 wc=>v6 = .pointer (some ⟨f.heap.size,0,none⟩)/\wc=(f.alloc (.cells #[.pointer (some ⟨p.ob,0,none⟩),.pointer (some ⟨p.cb,0,none⟩)] 100)).drew)
 case first=>
  go_region_held3 (λw'=>w'.cell? ⟨Z,0,none⟩=some (.slice (some ⟨g,0,none⟩) n pc)/\w'.cell? ⟨w.heap.size,1,none⟩=some (.int .i64 a)/\w'.cell? ⟨g,i*2,none⟩=some (.pointer (some ⟨p.ob,0,none⟩))/\w'.cell? ⟨g,i*2+1,none⟩=some (.pointer (some ⟨p.cb,0,none⟩))) (go_keep) (first|(go_at_call 35;refine (CP.out _).mono ?_;rintro e w3 ⟨rfl,e3⟩;rw[e3];clear e3))
  all_goals
   go_wp2_with fail
   go_meet
   case rel=>exact⟨rfl,rfl⟩
 case rest=>
  obtain⟨rfl,A⟩:=hcut;have V:Below f.heap.size f wc:=by rw[A];exact (nbl f _).drew
  have q:wc.heap[f.heap.size]?=some (.cells #[.pointer (some ⟨p.ob,0,none⟩),.pointer (some ⟨p.cb,0,none⟩)] 100):=by rw[A];exact zQ f _
  clear A CP N P O b5 Y k1;have J:=hid (H1.out.below V);have d:=(V.block _ (zy t.out)).trans t.out;have g2:w.heap.size<f.heap.size:=zy t.out;have g3:f.heap.size<wc.heap.size:=zy q;have a8:Hid (x8 L L w wc):=hid ((x8.of a2.out).trans (x8.of V));have D:Hid (∀b,Lm L b->b<w.heap.size):=hid a3.out;have p0:=(zg q 0).1;have Y:=(zg d 0).1;have k2:=(zg d 2).1;have k3:=(zg d 3).1;have k4:=(zg d 4).1;simp at p0 Y k2 k3 k4;have G:=hid q;have K:=hid d;clear q d V;have j:=DK p.ob p.st l name (Lm L) wc (J.out.off i p HP.out).1 (λb hb=>Jt (D.out b hb) (by omega)) hs;have M:=λ(W:World) (hz:wc.heap.size<=W.heap.size) (hr:xq (Lm L) W p.cb p.lv p.ks)=>DJ p.cb p.lv p.ks l name (Lm L) W hr (by have:=F.out.1;omega) hs (λb hb=>xM (Jt (D.out b hb) (by omega)) hz);have z:=λ(W W':World) (e:Ending) (h:U8 p.ks l name (Lm L) p.cb p.lv W e W')=>DL F.out.2.2.2 h;obtain⟨E,u⟩:∃x,QP p.st l name=x:=⟨_,rfl⟩;rw[u] at j;simp only[u] at z;have d1:(E==E)=true:=by simp
  have C:=hid j;have a0:=hid M;have a7:=hid z;clear j M z u;have H:=hid (List.getElem?_set_self (l:=s) (a:={ p with st:=QQ p.st l name }) (zR.1 HP.out).1)
  go_wp2_with (first
   | (go_at_call 16;refine C.out.mono ?_;rintro e w4 ⟨rfl,U,o4⟩;have P4:=hid (J.out.offSet HP.out U o4);have R:=(U.block _ (zy G.out) (by omega)).trans G.out;have B:=(U.block _ (zy K.out) (by omega)).trans K.out;have r1:=(zg R 1).1;have r2:=(zg B 2).1;have r3:=(zg B 3).1;simp at r1 r2 r3;have z4:=U.size;clear U o4 R B)
   | (go_at_call 37;refine (a0.out w4 z4 (P4.out.2.ref i _ H.out).1).mono ?_;rintro e w5 he;obtain⟨v5,f2,rfl,t5,r5,o5,a5⟩:=a7.out _ _ _ he;obtain⟨L5,s5,q5⟩:=P4.out.2.refSet H.out t5 r5 o5;have S5:=hid s5;have Q5:=hid q5;have A5:=hid a5;clear he t5 r5 o5 s5 q5 a5))
  go_ret;have hq:=Q5.out;rw[List.set_set] at hq;exact⟨L5,_,_,_,m,rfl,(a8.out.trans P4.out.1).trans S5.out,hq,a1.out.set i A5.out,by rw[uD];exact Nat.le_of_eq HN.out.symm,by rw[uD,HN.out];omega,by omega,by rw[uD,HN.out];exact r⟩
theorem PV(w0:World)(L:Nat->Nat)(w:World)(Y:Nat)(b8 a9:Value)(s:List xC)(m:Nat)(h:xD w0 L w Y b8 a9 s m)(A:vO s)(r:0<s.length)(b5:s.length<=5000000000000)(a l:Int)(name text who act on:BY)(ma:Option Addr)(mn mc:Nat)(hA:I64 a)(hs:name.size<=maxLen) :
  Calls prog 19 #[.pointer (some ⟨Y,0,none⟩),ZU 4 a l name text who act on ma mn mc] w (XT w0 L w Y s.length m):=by
 unfold ZU;obtain⟨f,k⟩:∃W,w.alloc (.cells #[.int .i64 4,.int .i64 a,.int .i64 l,.string name,.string text,.string who,.string act,.string on,.slice ma mn mc] 67)=W:=⟨_,rfl⟩;have b1:Below w.heap.size w f:=by rw[<- k];exact nbl w _
 have o:f.heap[w.heap.size]?=some (.cells #[.int .i64 4,.int .i64 a,.int .i64 l,.string name,.string text,.string who,.string act,.string on,.slice ma mn mc] 67):=by rw[<- k];exact zQ w _
 have h1:=h.below b1;obtain⟨g,pc,p,rfl,P,B,M,O,N,b3⟩:=h1.pick a r;have V:=(zg o 0).1;have k1:=(zg o 1).1;simp at V k1;have U:=λW=>UB a s.length W hA r (by omega);obtain⟨n,hn⟩:∃x,s.length=x:=⟨_,rfl⟩;obtain⟨i,hi⟩:∃x,Kp.vM a s.length=x:=⟨_,rfl⟩;simp only[hi] at B O N P U;have c:=λb (hb:L b≠0)=>(h.base b hb).2;have b7:=(h.off i p B).2;have b6:=(h.ref i p B).2.1;have R:=(h.ref i p B).2.2;have e1:p.ob<w.heap.size:=c _ (by omega);have d3:p.cb<w.heap.size:=c _ (by omega);have S:∀g,p.lv.ownBlock=some g->g<w.heap.size:=λg hg=>c _ (by have:=R g hg;omega);have u:=hid (Uz h A B);simp only[hn] at P r b5 M U |-;have CP:=hid U;have HN:=hid hn;have HP:=hid B;have H1:=hid h1;have t:=hid o;have a2:=hid A;have I:=hid k;have a3:=hid b1;have c9:=hid S;have a4:=hid c;have i0:(0:Int)<=(i:Int):=zZ _;have i1:(i:Int)<(n:Int):=by omega
 have d7:((n:Int)==0)=false:=by simp;omega
 clear U hn hi B h1 o A k b1 h S c b7 b6 R;go_enter func19,ntmps19
 go_upto_region 1 with fail
 rw[I.out];clear I
 go_upto_region 16 with fail
 go_cut [6] (λv6 wc=>v6 = .pointer (some ⟨f.heap.size,0,none⟩)/\wc=(f.alloc (.cells #[.pointer (some ⟨p.ob,0,none⟩),.pointer (some ⟨p.cb,0,none⟩)] 100)).drew)
 case first=>
  go_region_held3 (λw'=>w'.cell? ⟨Y,0,none⟩=some (.slice (some ⟨g,0,none⟩) n pc)/\w'.cell? ⟨w.heap.size,1,none⟩=some (.int .i64 a)/\w'.cell? ⟨g,i*2,none⟩=some (.pointer (some ⟨p.ob,0,none⟩))/\w'.cell? ⟨g,i*2+1,none⟩=some (.pointer (some ⟨p.cb,0,none⟩))) (go_keep) (first|(go_at_call 35;refine (CP.out _).mono ?_;rintro e w3 ⟨rfl,e3⟩;rw[e3];clear e3))
  all_goals
   go_wp2_with fail
   go_meet
   case rel=>exact⟨rfl,rfl⟩
 case rest=>
  obtain⟨rfl,D⟩:=hcut;have T:Below f.heap.size f wc:=by rw[D];exact (nbl f _).drew
  have q:wc.heap[f.heap.size]?=some (.cells #[.pointer (some ⟨p.ob,0,none⟩),.pointer (some ⟨p.cb,0,none⟩)] 100):=by rw[D];exact zQ f _
  clear D CP M O N b3 V k1;have v:=hid (H1.out.below T);have d:=(T.block _ (zy t.out)).trans t.out;have f0:w.heap.size<f.heap.size:=zy t.out;have f1:f.heap.size<wc.heap.size:=zy q;have a7:Hid (x8 L L w wc):=hid ((x8.of a3.out).trans (x8.of T));have d0:Hid (∀b,Lm L b->b<w.heap.size):=hid a4.out;have p0:=(zg q 0).1;have V:=(zg d 0).1;have k2:=(zg d 2).1;have k3:=(zg d 3).1;have k4:=(zg d 4).1;simp at p0 V k2 k3 k4;have H:=hid q;have J:=hid d;clear q d T;have j:=Px p.ob p.st l name (Lm L) wc (v.out.off i p HP.out).1 hs;have K:=λ(W:World) (hr:xq (Lm L) W p.cb p.lv p.ks)=>Pw p.cb p.lv p.ks l name (Lm L) W hr (by have:=u.out.1;unfold maxLen;omega) hs u.out.2.2.1;have C:=λ(W W':World) (e:Ending) (h:Ky p.ks l name W e W')=>Py u.out.2.2.2 h;obtain⟨E,y⟩:∃x,Q0 p.st l name=x:=⟨_,rfl⟩;obtain⟨Z,z⟩:∃x,QZ p.st l name=x:=⟨_,rfl⟩;rw[y,z] at j;simp only[y,z] at C;have d1:(E==E)=true:=by simp
  have d2:(Z.toList==Z.toList)=true:=by simp
  have G:=hid j;have a1:=hid K;have a6:=hid C;clear j K C y z
  go_wp2_with (first
   | (go_at_call 38;refine G.out.mono ?_;rintro e w4 ⟨rfl,X⟩;have B4:=hid X;have Q:=(X.block _ (zy H.out)).trans H.out;have F:=(X.block _ (zy J.out)).trans J.out;have r1:=(zg Q 1).1;have r2:=(zg F 2).1;have r3:=(zg F 3).1;simp at r1 r2 r3;clear X Q F)
   | (go_at_call 39;refine (a1.out w4 ((v.out.below B4.out).ref i _ HP.out).1).mono ?_;rintro e w5 he;obtain⟨rfl,t5⟩:=a6.out _ _ _ he;have B5:=hid t5;clear he t5))
  go_ret;exact⟨L,_,_,_,m,rfl,(a7.out.trans (x8.of B4.out)).trans (x8.of B5.out),(v.out.below B4.out).below B5.out,a2.out,Nat.le_of_eq HN.out.symm,by rw[HN.out];omega,by omega,by rw[HN.out];exact r⟩
theorem PS(w0:World)(L:Nat->Nat)(w:World)(yb:Nat)(c5 O:Value)(z:List xC)(m:Nat)(h:xD w0 L w yb c5 O z m)(D:vO z)(v:0<z.length)(c2:z.length<=5000000000000)(hm:m<=5000000000000)(a l:Int)(name text who act on:BY)(ma:Option Addr)(mn mc:Nat)(hA:I64 a) :
  Calls prog 19 #[.pointer (some ⟨yb,0,none⟩),ZU 5 a l name text who act on ma mn mc] w (XT w0 L w yb z.length m):=by
 unfold ZU;obtain⟨j,r⟩:∃W,w.alloc (.cells #[.int .i64 5,.int .i64 a,.int .i64 l,.string name,.string text,.string who,.string act,.string on,.slice ma mn mc] 67)=W:=⟨_,rfl⟩;have b1:Below w.heap.size w j:=by rw[<- r];exact nbl w _
 have t:j.heap[w.heap.size]?=some (.cells #[.int .i64 5,.int .i64 a,.int .i64 l,.string name,.string text,.string who,.string act,.string on,.slice ma mn mc] 67):=by rw[<- r];exact zQ w _
 have h1:=h.below b1;obtain⟨g,pc,p,rfl,U,F,Q,S,R,c0⟩:=h1.pick a v;have k0:=(zg t 0).1;have k1:=(zg t 1).1;simp at k0 k1;have cp:=λW=>UB a z.length W hA v (by omega);obtain⟨n,hn⟩:∃x,z.length=x:=⟨_,rfl⟩;obtain⟨i,hi⟩:∃x,Kp.vM a z.length=x:=⟨_,rfl⟩;simp only[hi] at F S R U cp;have c:=λb (hb:L b≠0)=>(h.base b hb).2;have c4:=(h.off i p F).2;have c3:=(h.ref i p F).2.1;have Y:=(h.ref i p F).2.2;have g2:p.ob<w.heap.size:=c _ (by omega);have e7:p.cb<w.heap.size:=c _ (by omega);have a0:∀g,p.lv.ownBlock=some g->g<w.heap.size:=λg hg=>c _ (by have:=Y g hg;omega);have B:=hid (Uz h D F);simp only[hn] at U v c2 Q cp |-;have CP:=hid cp;have HN:=hid hn;have HP:=hid F;have H1:=hid h1;have A:=hid t;have a9:=hid D;have M:=hid r;have b0:=hid b1;have d8:=hid a0;have b3:=hid c;have i0:(0:Int)<=(i:Int):=zZ _;have i1:(i:Int)<(n:Int):=by omega
 have f4:((n:Int)==0)=false:=by simp;omega
 clear cp hn hi F h1 t D r b1 h a0 c c4 c3 Y;go_enter func19,ntmps19
 go_upto_region 1 with fail
 rw[M.out];clear M
 go_upto_region 16 with fail
 go_cut [6] (λv6 wc=>v6 = .pointer (some ⟨j.heap.size,0,none⟩)/\wc=(j.alloc (.cells #[.pointer (some ⟨p.ob,0,none⟩),.pointer (some ⟨p.cb,0,none⟩)] 100)).drew)
 case first=>
  go_region_held3 (λw'=>w'.cell? ⟨yb,0,none⟩=some (.slice (some ⟨g,0,none⟩) n pc)/\w'.cell? ⟨w.heap.size,1,none⟩=some (.int .i64 a)/\w'.cell? ⟨g,i*2,none⟩=some (.pointer (some ⟨p.ob,0,none⟩))/\w'.cell? ⟨g,i*2+1,none⟩=some (.pointer (some ⟨p.cb,0,none⟩))) (go_keep) (first|(go_at_call 35;refine (CP.out _).mono ?_;rintro e w3 ⟨rfl,e3⟩;rw[e3];clear e3))
  all_goals
   go_wp2_with fail
   go_meet
   case rel=>exact⟨rfl,rfl⟩
 case rest=>
  obtain⟨rfl,H⟩:=hcut;have b2:Below j.heap.size j wc:=by rw[H];exact (nbl j _).drew
  have u:wc.heap[j.heap.size]?=some (.cells #[.pointer (some ⟨p.ob,0,none⟩),.pointer (some ⟨p.cb,0,none⟩)] 100):=by rw[H];exact zQ j _
  clear H CP Q S R c0 k0 k1;have d:=hid (H1.out.below b2);have f:=(b2.block _ (zy A.out)).trans A.out;have h5:w.heap.size<j.heap.size:=zy A.out;have h6:j.heap.size<wc.heap.size:=zy u;have b7:Hid (x8 L L w wc):=hid ((x8.of b0.out).trans (x8.of b2));have J:Hid (∀b,Lm L b->b<w.heap.size):=hid b3.out;have p0:=(zg u 0).1;have k0:=(zg f 0).1;have k2:=(zg f 2).1;have k3:=(zg f 3).1;have k4:=(zg f 4).1;simp at p0 k0 k2 k3 k4;have K:=hid u;have N:=hid f;clear u f b2;have k:=Me p.ob p.st l (Lm L) wc (d.out.off i p HP.out).1;have P:=λ(W:World) (hz:wc.heap.size<=W.heap.size) (hr:xq (Lm L) W p.cb p.lv p.ks)=>Mc p.cb p.lv p.ks l (Lm L) W hr (by have:=B.out.1;omega) B.out.2.1 (λb hb=>xM (Jt (J.out b hb) (by omega)) hz);have G:=λ(W W':World) (e:Ending) (h:Kq p.ks l W e W')=>Mf B.out.2.2.2 h;have y:=Md (d.out.off i p HP.out).1.good l;obtain⟨E,C⟩:∃x,QU l=x:=⟨_,rfl⟩;obtain⟨Z,s⟩:∃x,Xw p.st l=x:=⟨_,rfl⟩;rw[C,s] at k;rw[s] at y;simp only[C,s] at G;have d1:(E==E)=true:=by simp
  have I:=hid k;have a8:=hid P;have b6:=hid G;clear k P G C s
  go_wp2_with (first
   | (go_at_call 15;refine I.out.mono ?_;rintro e w4 ⟨g0,rfl,o,t4⟩;obtain⟨la,lc,e4⟩:=qG o;subst e4;have O4:=hid o;have B4:=hid t4;have V:=(t4.block _ (zy K.out)).trans K.out;have X:=(t4.block _ (zy N.out)).trans N.out;have r1:=(zg V 1).1;have r2:=(zg X 2).1;simp at r1 r2;have z4:=t4.size;clear t4 V X o)
   | (go_at_call 40;refine (a8.out w4 z4 ((d.out.below B4.out).ref i _ HP.out).1).mono ?_;rintro e w5 T;obtain⟨g1,rfl,q,t5⟩:=b6.out _ _ _ T;obtain⟨f8,f9,e5⟩:=qG q;subst e5;have O5:=hid q;have B5:=hid t5;clear T t5 q)
   | (go_at_call 41;refine (OH Z _ _ _ _ w5 (ownsRow_below O4.out B5.out) O5.out (by omega)).mono ?_;rintro e w6 ⟨rfl,t6⟩;have B6:=hid t6;have z5:=B5.out.size;clear t6)
   | (go_at_call 42;refine (Sr (Lm L) wc w6 yb m _ O _ Z (λb hb=>Jt (J.out b hb) (by omega)) (by unfold Lm;rw[d.out.lyb];omega) d.out.play d.out.book (λg hg=>⟨by unfold Lm;rw[d.out.lbk g hg];omega,λe=>by have q1:=d.out.lbk g hg;rw[e,d.out.lyb] at q1;omega⟩) ((B4.out.trans (B5.out.mono z4)).trans (B6.out.mono (by omega))) (ownsRow_below (ownsRow_below O4.out B5.out) B6.out) y hm).mono ?_;rintro e w7 T;have HT:=hid T;obtain⟨e2,r7,rfl,_⟩:=T))
  go_ret;obtain⟨L7,e6,s7,q7⟩:=d.out.bookAdd HT.out;exact⟨L7,_,_,_,m+1,rfl,b7.out.trans s7,q7,a9.out,Nat.le_of_eq HN.out.symm,by rw[HN.out];omega,by omega,by rw[HN.out];exact v⟩
theorem Gq:(prog.info? 100).map (λi=>(i.zero,i.size,i.bytes))=some (some (.agg #[.pointer none,.pointer none]),2,16):=by kernel_rfl
theorem rG{w:World}{base:Nat}{e:TypeId}{size:Nat}{v:Value}{n:Nat}{xs:List Value}(h:w.ownsRow base e size v n xs):∃a c,v = .slice a n c:=by
 rcases h.2 with ⟨e,h0⟩|⟨g,cap,cur,e,_⟩
 ·exact⟨none,0,by rw[h0];exact e⟩
 ·exact⟨_,_,e⟩
theorem sD(w0:World)(L:Nat->Nat)(w:World)(f:Nat)(b9 a8:Value)(D:List xC)(m:Nat)(h:xD w0 L w f b9 a8 D m)(O:vO D)(b3:D.length<=5000000000000)(a l:Int)(name text who act on:BY)(ma:Option Addr)(mn mc:Nat) :
  Calls prog 19 #[.pointer (some ⟨f,0,none⟩),ZU 1 a l name text who act on ma mn mc] w (XT w0 L w f D.length m):=by
 unfold ZU;obtain⟨j1,hj,b5,b6,b7⟩:=qP Gq;obtain⟨r,s⟩:∃W,w.alloc (.cells #[.int .i64 1,.int .i64 a,.int .i64 l,.string name,.string text,.string who,.string act,.string on,.slice ma mn mc] 67)=W:=⟨_,rfl⟩;have b1:Below w.heap.size w r:=by rw[<- s];exact nbl w _
 have Q:r.heap[w.heap.size]?=some (.cells #[.int .i64 1,.int .i64 a,.int .i64 l,.string name,.string text,.string who,.string act,.string on,.slice ma mn mc] 67):=by rw[<- s];exact zQ w _
 have E:=h.below b1;have k0:=(zg Q 0).1;simp at k0;obtain⟨T,U,rfl⟩:=rG h.row;have cn:=Mg (λb=>b=r.heap.size) r rfl;obtain⟨n,hn⟩:∃x,D.length=x:=⟨_,rfl⟩;obtain⟨xs,C⟩:∃x,uJ D=x:=⟨_,rfl⟩;have j:=E.row;have d:=E.play
 have p:∀g,(Value.slice T D.length U).ownBlock=some g->g≠f:=λg u e=>by
  have q1:=E.lps g u;rw[e,E.lyb] at q1;omega
 rw[hn] at j p d;rw[C] at j;have a2:=hid C;have y:=hid hn;have H:=hid h;have F:=hid b1;have Z:=hid O;have I:=hid j;have z:=hid d;have G:=hid p;have CN:=hid cn;have J:=hid s;have S:f<r.heap.size:=zy d;clear C hn h b1 O j cn s E Q p d;simp only[y.out] at b3 |-;go_enter func19,ntmps19
 go_upto_region 1 with fail
 rw[J.out];clear J
 go_upto_region 6 with (go_at_call 12;refine CN.out.mono ?_;rintro e o ⟨rfl,b2,o2⟩;have Y:=hid b2;have O2:=hid o2;have B:=(b2.block f S).trans z.out;have y0:=(zg B 0).1;simp at y0;have a1:=hid B;obtain⟨e1,R,_⟩:=o2.row;have zo:=zy R;clear b2 o2 B R)
 have y1:=λ(O1 O2:Obj)=>((nbl o O1).alloc (by simp) O2);have A:=hid (ownsRow_below I.out Y.out);have d4:=Y.out.size
 go_wp2_with (at_builtin;refine Xa _ rfl _ _ 60 rfl 0 100 j1 (.agg #[.pointer none,.pointer none]) 2 16 underlying60 hj b5 b6 b7 rfl (by decide) (.slice T n U) n xs rfl (World.ownsRow.alloc (World.ownsRow.alloc A.out _) _) ⟨o.heap.size+1,0,none⟩ 1 1 [.pointer (some ⟨r.heap.size,0,none⟩),.pointer (some ⟨o.heap.size,0,none⟩)] rfl rfl ?_ ?_ ?_ ?_ ?_ ?_)
 ·rw[show o.heap.size+1=(o.alloc (.cells #[.slice none 0 0] 98)).heap.size by simp];exact vG _ _ _
 ·simp[Value.oneCell']
 ·unfold maxLen;omega
 ·omega
 ·exact zG _
 ·intro v5 V q i _ N;obtain⟨M,c5,e5⟩:=rG q;subst e5;have YA:=hid (y1 (.cells #[.slice none 0 0] 98) (.cells #[.pointer (some ⟨r.heap.size,0,none⟩),.pointer (some ⟨o.heap.size,0,none⟩)] 100));have t:=(i.block f (by simp;omega) (λe=>G.out f e.symm rfl)).trans ((YA.out.block f (by omega)).trans a1.out);have q5:=(zg t 0).1;have f5:=(zg t 0).2;simp at q5;have K:=hid q;have c:=hid i;have X:=hid N;have a0:=hid t;clear q i N t y1;go_wp2_with fail;go_ret
  have b4:∀g,(Value.slice T n U).ownBlock=some g->g<w.heap.size:=λg u=>by
   have:=H.out.lps g (by rw[y.out];exact u)
   exact (H.out.base g (by omega)).2
  have z1:=F.out.size
  have v:∀b,w.heap.size<=b->b<o.heap.size+1+1->b≠f->(V.setCell ⟨f,0,none⟩ (.slice M (n+1) c5)).heap[b]?=((o.alloc (.cells #[.slice none 0 0] 98)).alloc (.cells #[.pointer (some ⟨r.heap.size,0,none⟩),.pointer (some ⟨o.heap.size,0,none⟩)] 100)).heap[b]?:=λb E h2 h3=>
   (qc _ _ _ _ h3).trans (c.out.block b (by simpa using h2) (λe=>by have:=b4 b e.symm;omega))
  have c1:f<w.heap.size:=zy H.out.play
  have P:∀g,(Value.slice M (n+1) c5).ownBlock=some g->(Value.slice T n U).ownBlock=some g\/g=o.heap.size+1+1:=λg u=>by
   rcases X.out with e|e
   ·exact .inl (by rw[<- e];exact u)
   ·rw[u] at e;injection e with e
    exact .inr e
  have hT:zw (λb=>b=f\/(Value.slice T n U).ownBlock=some b) w (V.setCell ⟨f,0,none⟩ (.slice M (n+1) c5)):=
   ((((zw.of F.out).trans (zw.of Y.out)).trans (zw.of YA.out)).trans ⟨c.out.os,c.out.tape,c.out.output,c.out.size,λk hk b0=>c.out.block k hk (λe=>b0 (.inr e.symm))⟩).trans (zw.set V (.inl rfl) 0 _)
  obtain⟨L',s',q'⟩:=H.out.pairAdd (W':=V.setCell ⟨f,0,none⟩ (.slice M (n+1) c5)) (psv' := .slice M (n+1) c5) (cb:=o.heap.size) O2.out
   ((v r.heap.size z1 (by omega) (by omega)).trans (YA.out.block _ zo)) z1 ((v o.heap.size (by omega) (by omega) (by omega)).trans (((nbl _ _).block o.heap.size (by simp)).trans (zQ o _))) (by omega) (by omega)
   (by rw[y.out];exact hT) (yz V f 0 _ _ _ a0.out) (by
     rw[y.out,a2.out]
     exact xE K.out (a:=⟨f,0,none⟩) (λe=>by
      rcases P f e with e|e
      ·exact G.out f e rfl
      ·omega) _) (λg u=>by
     rw[y.out];exact (P g u).imp id (λe=>⟨by omega,by omega,by omega⟩))
  exact⟨L',_,_,_,m,rfl,s',q',Z.out.add Agree.start,by rw[qA,y.out];omega,by rw[qA,y.out];exact ze _,by omega,by rw[qA];exact Nat.succ_pos _⟩
end Go.Proofs.YtagnlbgbnfnapaaGreatDoor
