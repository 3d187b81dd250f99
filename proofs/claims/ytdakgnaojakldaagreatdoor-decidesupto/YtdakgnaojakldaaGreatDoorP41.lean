/- P -/
import Derived.Test.YtdakgnaojakldaaGreatDoorP40
import Derived.Lib.Bytealg
open Go.Proofs.Tryz hiding parts
set_option maxRecDepth 100000
set_option maxHeartbeats 8000000
namespace Go.Proofs.YtdakgnaojakldaaGreatDoor
open Go.RowKit
theorem Cw(w0:World)(L:Nat->Nat)(w:World)(Z:Nat)(c0 b3:Value)(s:List xY)(m:Nat)(h:yw w0 L w Z c0 b3 s m)(v:kI s)(r:0<s.length)(b7:s.length<=100000000)(a l:Int)(name text who act on:BY)(ma:Option Addr)(mn mc:Nat)(hA:I64 a)(hs:name.size<=maxLen) :
  Calls prog 37 #[.pointer (some ⟨Z,0,none⟩),Yf 3 a l name text who act on ma mn mc] w (JZ w0 L w Z s.length m):=by
 unfold Yf;obtain⟨f,k⟩:∃W,w.alloc (.cells #[.int .i64 3,.int .i64 a,.int .i64 l,.string name,.string text,.string who,.string act,.string on,.slice ma mn mc] 91)=W:=⟨_,rfl⟩;have b1:Below w.heap.size w f:=by rw[<- k];exact nbl w _
 have o:f.heap[w.heap.size]?=some (.cells #[.int .i64 3,.int .i64 a,.int .i64 l,.string name,.string text,.string who,.string act,.string on,.slice ma mn mc] 91):=by rw[<- k];exact zB w _
 have h1:=h.below b1;obtain⟨g,pc,p,rfl,Q,y,N,P,O,b5⟩:=h1.pick a r;have Y:=(zg o 0).1;have k1:=(zg o 1).1;simp at Y k1;have X:=λW=>ig a s.length W hA r (by omega);obtain⟨n,hn⟩:∃x,s.length=x:=⟨_,rfl⟩;obtain⟨i,hi⟩:∃x,Kp.uZ a s.length=x:=⟨_,rfl⟩;simp only[hi] at y P O Q X;have c:=λb (hb:L b≠0)=>(h.base b hb).2;have b9:=(h.off i p y).2;have b8:=(h.ref i p y).2.1;have S:=(h.ref i p y).2.2;have f3:p.ob<w.heap.size:=c _ (by omega);have e2:p.cb<w.heap.size:=c _ (by omega);have T:∀g,p.lv.ownBlock=some g->g<w.heap.size:=λg hg=>c _ (by have:=S g hg;omega);have F:=hid (gT h v y);simp only[hn] at Q r b7 N X |-;have CP:=hid X;have HN:=hid hn;have HP:=hid y;have H1:=hid h1;have t:=hid o;have a1:=hid v;have I:=hid k;have a2:=hid b1;have d8:=hid T;have a3:=hid c;have i0:(0:Int)<=(i:Int):=qz _;have i1:(i:Int)<(n:Int):=by omega
 have e8:((n:Int)==0)=false:=by simp;omega
 clear X hn hi y h1 o v k b1 h T c b9 b8 S;go_enter func37,ntmps37
 go_upto_region 1 with fail
 rw[I.out];clear I
 go_upto_region 16 with fail
 go_cut [6] (λv6 wc=>v6 = .pointer (some ⟨f.heap.size,0,none⟩)/\wc=(f.alloc (.cells #[.pointer (some ⟨p.ob,0,none⟩),.pointer (some ⟨p.cb,0,none⟩)] 175)).drew)
 case first=>
  go_region_held3 (λw'=>w'.cell? ⟨Z,0,none⟩=some (.slice (some ⟨g,0,none⟩) n pc)/\w'.cell? ⟨w.heap.size,1,none⟩=some (.int .i64 a)/\w'.cell? ⟨g,i*2,none⟩=some (.pointer (some ⟨p.ob,0,none⟩))/\w'.cell? ⟨g,i*2+1,none⟩=some (.pointer (some ⟨p.cb,0,none⟩))) (go_keep) (first|(go_at_call 68;refine (CP.out _).mono ?_;rintro e w3 ⟨rfl,e3⟩;rw[e3];clear e3))
  all_goals
   go_wp2_with fail
   go_meet
   case rel=>exact⟨rfl,rfl⟩
 case rest=>
  obtain⟨rfl,A⟩:=hcut;have V:Below f.heap.size f wc:=by rw[A];exact (nbl f _).drew
  have q:wc.heap[f.heap.size]?=some (.cells #[.pointer (some ⟨p.ob,0,none⟩),.pointer (some ⟨p.cb,0,none⟩)] 175):=by rw[A];exact zB f _
  clear A CP N P O b5 Y k1;have J:=hid (H1.out.below V);have d:=(V.block _ (zt t.out)).trans t.out;have g2:w.heap.size<f.heap.size:=zt t.out;have g3:f.heap.size<wc.heap.size:=zt q;have a8:Hid (jH L L w wc):=hid ((jH.of a2.out).trans (jH.of V));have D:Hid (∀b,Lm L b->b<w.heap.size):=hid a3.out;have p0:=(zg q 0).1;have Y:=(zg d 0).1;have k2:=(zg d 2).1;have k3:=(zg d 3).1;have k4:=(zg d 4).1;simp at p0 Y k2 k3 k4;have G:=hid q;have K:=hid d;clear q d V;have j:=LD p.ob p.st l name (Lm L) wc (J.out.off i p HP.out).1 (λb hb=>Nat.lt_trans (D.out b hb) (by omega)) hs;have M:=λ(W:World) (hz:wc.heap.size<=W.heap.size) (hr:xN (Lm L) W p.cb p.lv p.ks)=>Lx p.cb p.lv p.ks l name (Lm L) W hr (by have:=F.out.1;omega) hs (λb hb=>xS (Nat.lt_trans (D.out b hb) (by omega)) hz);have z:=λ(W W':World) (e:Ending) (h:bJ p.ks l name (Lm L) p.cb p.lv W e W')=>LF F.out.2.2.2 h;obtain⟨E,u⟩:∃x,X6 p.st l name=x:=⟨_,rfl⟩;rw[u] at j;simp only[u] at z;have d1:(E==E)=true:=by simp
  have C:=hid j;have a0:=hid M;have a7:=hid z;clear j M z u;have H:=hid (List.getElem?_set_self (l:=s) (a:={ p with st:=X7 p.st l name }) (zW.1 HP.out).1)
  go_wp2_with (first
   | (go_at_call 29;refine C.out.mono ?_;rintro e w4 ⟨rfl,U,o4⟩;have P4:=hid (J.out.offSet HP.out U o4);have R:=(U.block _ (zt G.out) (by omega)).trans G.out;have B:=(U.block _ (zt K.out) (by omega)).trans K.out;have r1:=(zg R 1).1;have r2:=(zg B 2).1;have r3:=(zg B 3).1;simp at r1 r2 r3;have z4:=U.size;clear U o4 R B)
   | (go_at_call 70;refine (a0.out w4 z4 (P4.out.2.ref i _ H.out).1).mono ?_;rintro e w5 he;obtain⟨v5,f2,rfl,t5,r5,o5,a5⟩:=a7.out _ _ _ he;obtain⟨L5,s5,q5⟩:=P4.out.2.refSet H.out t5 r5 o5;have S5:=hid s5;have Q5:=hid q5;have A5:=hid a5;clear he t5 r5 o5 s5 q5 a5))
  go_ret;have hq:=Q5.out;rw[List.set_set] at hq;exact⟨L5,_,_,_,m,rfl,(a8.out.trans P4.out.1).trans S5.out,hq,a1.out.set i A5.out,by rw[Zn];exact Nat.le_of_eq HN.out.symm,by rw[Zn,HN.out];omega,by omega,by rw[Zn,HN.out];exact r⟩
theorem OH:(prog.info? 175).map (λi=>(i.zero,i.size,i.bytes))=some (some (.agg #[.pointer none,.pointer none]),2,16):=by kernel_rfl
theorem BN{w:World}{base:Nat}{e:TypeId}{size:Nat}{v:Value}{n:Nat}{xs:List Value}(h:w.ownsRow base e size v n xs):∃a c,v = .slice a n c:=by
 rcases h.2 with ⟨e,h0⟩|⟨g,cap,cur,e,_⟩
 ·exact⟨none,0,by rw[h0];exact e⟩
 ·exact⟨_,_,e⟩
theorem Cx(w0:World)(L:Nat->Nat)(w:World)(f:Nat)(b9 a8:Value)(D:List xY)(m:Nat)(h:yw w0 L w f b9 a8 D m)(O:kI D)(b3:D.length<=100000000)(a l:Int)(name text who act on:BY)(ma:Option Addr)(mn mc:Nat) :
  Calls prog 37 #[.pointer (some ⟨f,0,none⟩),Yf 1 a l name text who act on ma mn mc] w (JZ w0 L w f D.length m):=by
 unfold Yf;obtain⟨j1,hj,b5,b6,b7⟩:=xA OH;obtain⟨r,s⟩:∃W,w.alloc (.cells #[.int .i64 1,.int .i64 a,.int .i64 l,.string name,.string text,.string who,.string act,.string on,.slice ma mn mc] 91)=W:=⟨_,rfl⟩;have b1:Below w.heap.size w r:=by rw[<- s];exact nbl w _
 have Q:r.heap[w.heap.size]?=some (.cells #[.int .i64 1,.int .i64 a,.int .i64 l,.string name,.string text,.string who,.string act,.string on,.slice ma mn mc] 91):=by rw[<- s];exact zB w _
 have E:=h.below b1;have k0:=(zg Q 0).1;simp at k0;obtain⟨T,U,rfl⟩:=BN h.row;have cn:=Tk (λb=>b=r.heap.size) r rfl;obtain⟨n,hn⟩:∃x,D.length=x:=⟨_,rfl⟩;obtain⟨xs,C⟩:∃x,Zu D=x:=⟨_,rfl⟩;have j:=E.row;have d:=E.play
 have p:∀g,(Value.slice T D.length U).ownBlock=some g->g≠f:=λg u e=>by
  have q1:=E.lps g u;rw[e,E.lyb] at q1;omega
 rw[hn] at j p d;rw[C] at j;have a2:=hid C;have y:=hid hn;have H:=hid h;have F:=hid b1;have Z:=hid O;have I:=hid j;have z:=hid d;have G:=hid p;have CN:=hid cn;have J:=hid s;have S:f<r.heap.size:=zt d;clear C hn h b1 O j cn s E Q p d;simp only[y.out] at b3 |-;go_enter func37,ntmps37
 go_upto_region 1 with fail
 rw[J.out];clear J
 go_upto_region 6 with (go_at_call 21;refine CN.out.mono ?_;rintro e o ⟨rfl,b2,o2⟩;have Y:=hid b2;have O2:=hid o2;have B:=(b2.block f S).trans z.out;have y0:=(zg B 0).1;simp at y0;have a1:=hid B;obtain⟨e1,R,_⟩:=o2.row;have zo:=zt R;clear b2 o2 B R)
 have y1:=λ(O1 O2:Obj)=>((nbl o O1).alloc (by simp) O2);have A:=hid (ownsRow_below I.out Y.out);have d4:=Y.out.size
 go_wp2_with (at_builtin;refine wpList_append_own_at _ rfl _ _ 84 rfl 0 175 j1 (.agg #[.pointer none,.pointer none]) 2 16 underlying84 hj b5 b6 b7 rfl (by decide) (.slice T n U) n xs rfl (World.ownsRow.alloc (World.ownsRow.alloc A.out _) _) ⟨o.heap.size+1,0,none⟩ 1 1 [.pointer (some ⟨r.heap.size,0,none⟩),.pointer (some ⟨o.heap.size,0,none⟩)] rfl rfl ?_ ?_ ?_ ?_ ?_ ?_)
 ·rw[show o.heap.size+1=(o.alloc (.cells #[.slice none 0 0] 173)).heap.size by simp];exact wm _ _ _
 ·simp[Value.oneCell']
 ·unfold maxLen;omega
 ·omega
 ·exact zH _
 ·intro v5 V q i _ N;obtain⟨M,c5,e5⟩:=BN q;subst e5;have YA:=hid (y1 (.cells #[.slice none 0 0] 173) (.cells #[.pointer (some ⟨r.heap.size,0,none⟩),.pointer (some ⟨o.heap.size,0,none⟩)] 175));have t:=(i.block f (by simp;omega) (λe=>G.out f e.symm rfl)).trans ((YA.out.block f (by omega)).trans a1.out);have q5:=(zg t 0).1;have f5:=(zg t 0).2;simp at q5;have K:=hid q;have c:=hid i;have X:=hid N;have a0:=hid t;clear q i N t y1;go_wp2_with fail;go_ret
  have b4:∀g,(Value.slice T n U).ownBlock=some g->g<w.heap.size:=λg u=>by
   have:=H.out.lps g (by rw[y.out];exact u)
   exact (H.out.base g (by omega)).2
  have z1:=F.out.size
  have v:∀b,w.heap.size<=b->b<o.heap.size+1+1->b≠f->(V.setCell ⟨f,0,none⟩ (.slice M (n+1) c5)).heap[b]?=((o.alloc (.cells #[.slice none 0 0] 173)).alloc (.cells #[.pointer (some ⟨r.heap.size,0,none⟩),.pointer (some ⟨o.heap.size,0,none⟩)] 175)).heap[b]?:=λb E h2 h3=>
   (qd _ _ _ _ h3).trans (c.out.block b (by simpa using h2) (λe=>by have:=b4 b e.symm;omega))
  have c1:f<w.heap.size:=zt H.out.play
  have P:∀g,(Value.slice M (n+1) c5).ownBlock=some g->(Value.slice T n U).ownBlock=some g\/g=o.heap.size+1+1:=λg u=>by
   rcases X.out with e|e
   ·exact .inl (by rw[<- e];exact u)
   ·rw[u] at e;injection e with e
    exact .inr e
  have hT:zw (λb=>b=f\/(Value.slice T n U).ownBlock=some b) w (V.setCell ⟨f,0,none⟩ (.slice M (n+1) c5)):=
   ((((zw.of F.out).trans (zw.of Y.out)).trans (zw.of YA.out)).trans ⟨c.out.os,c.out.tape,c.out.output,c.out.size,λk hk b0=>c.out.block k hk (λe=>b0 (.inr e.symm))⟩).trans (zw.set V (.inl rfl) 0 _)
  obtain⟨L',s',q'⟩:=H.out.pairAdd (W':=V.setCell ⟨f,0,none⟩ (.slice M (n+1) c5)) (psv' := .slice M (n+1) c5) (cb:=o.heap.size) O2.out
   ((v r.heap.size z1 (by omega) (by omega)).trans (YA.out.block _ zo)) z1 ((v o.heap.size (by omega) (by omega) (by omega)).trans (((nbl _ _).block o.heap.size (by simp)).trans (zB o _))) (by omega) (by omega)
   (by rw[y.out];exact hT) (yF V f 0 _ _ _ a0.out) (by
     rw[y.out,a2.out]
     exact qY K.out (a:=⟨f,0,none⟩) (λe=>by
      rcases P f e with e|e
      ·exact G.out f e rfl
      ·omega) _) (λg u=>by
     rw[y.out];exact (P g u).imp id (λe=>⟨by omega,by omega,by omega⟩))
  exact⟨L',_,_,_,m,rfl,s',q',Z.out.add Agree.start,by rw[qB,y.out];omega,by rw[qB,y.out];exact zf _,by omega,by rw[qB];exact Nat.succ_pos _⟩
structure OpD where
 kind:Int
 a:Int
 layer:Int
 name:BY
 text:BY
 who:BY
 act:BY
 on:BY
 ma:Option Addr
 mn:Nat
 mc:Nat
def TR(o:OpD):Value:=Yf o.kind o.a o.layer o.name o.text o.who o.act o.on o.ma o.mn o.mc
def VZ(W:World)(b q:Nat)(o:OpD):Prop:=
 W.cell? ⟨b,q,none⟩=some (.int .i64 o.kind)/\W.cell? ⟨b,q+1,none⟩=some (.int .i64 o.a)/\W.cell? ⟨b,q+2,none⟩=some (.int .i64 o.layer)/\W.cell? ⟨b,q+3,none⟩=some (.string o.name)/\W.cell? ⟨b,q+4,none⟩=some (.string o.text) /\
 W.cell? ⟨b,q+5,none⟩=some (.string o.who)/\W.cell? ⟨b,q+6,none⟩=some (.string o.act)/\W.cell? ⟨b,q+7,none⟩=some (.string o.on)/\W.cell? ⟨b,q+8,none⟩=some (.slice o.ma o.mn o.mc)
def JW(W:World)(v:Value)(ops:List OpD):Prop:=
 ∃a c,v = .slice a ops.length c/\∀(k:Nat) (o:OpD),ops[k]?=some o->∃b q,a=some ⟨b,q,none⟩/\VZ W b (q+k*9) o
theorem VZ.below{W W':World}{a q:Nat}{o:OpD}(h:VZ W a q o)(hb:Below W.heap.size W W'):VZ W' a q o:=
 ⟨zh hb h.1,zh hb h.2.1,zh hb h.2.2.1,zh hb h.2.2.2.1,zh hb h.2.2.2.2.1,zh hb h.2.2.2.2.2.1,zh hb h.2.2.2.2.2.2.1,zh hb h.2.2.2.2.2.2.2.1,zh hb h.2.2.2.2.2.2.2.2⟩
def inK(l:List Int)(k:Int):Bool:=l.any (λx=>k==x)
theorem OB{l:List Int}{j:Nat}{x k:Int}(h:l[j]?=some x):inK (l.take (j+1)) k=(inK (l.take j) k||(k==x)):=by
 unfold inK;rw[Yw,h]
 simp
def Un:BY:=⟨#[102,105,114,115,116]⟩
def fH:BY:=⟨#[123,34,115,116,97,116,101,109,101,110,116,34,58,91,123,34,101,102,102,101,99,116,34,58,34,97,108,108,111,119,34,44,34,119,104,111,34,58,34,42,34,44,34,100,111,34,58,34,42,34,44,34,111,110,34,58,34,42,34,125,93,125]⟩
def Jq:Array Value:=#[.int .i64 1,.int .i64 0,.int .i64 0,.string ⟨#[]⟩,.string ⟨#[]⟩,.string ⟨#[]⟩,.string ⟨#[]⟩,.string ⟨#[]⟩,.slice none 0 0,.int .i64 2,.int .i64 0,.int .i64 2,.string Un,.string fH,.string ⟨#[]⟩,.string ⟨#[]⟩,.string ⟨#[]⟩,.slice none 0 0,.int .i64 3,.int .i64 0,.int .i64 2,.string Un,.string ⟨#[]⟩,.string ⟨#[]⟩,.string ⟨#[]⟩,.string ⟨#[]⟩,.slice none 0 0]
theorem rE:Un.size<=maxLen:=by decide
theorem Oc:fH.size<=maxLen:=by decide
theorem yw.start(w:World)(O:Obj):yw w (λb=>if b=w.heap.size then 1 else 0) ((w.alloc (.cells #[.slice none 0 0,.slice none 0 0] 89)).alloc O) w.heap.size (.slice none 0 0) (.slice none 0 0) [] 0:=by
 refine⟨(nbl w _).alloc (by simp) _,λb hb=>?_,?_,by simp,ql _ _ _ _,(λg a=>by cases a),⟨[],ql _ _ _ _,(λi v d=>by simp at d)⟩,(λg a=>by cases a),(λi p c=>by simp at c),λi p c=>by simp at c⟩
 ·by_cases e:b=w.heap.size
  ·subst e;exact⟨zf _,by simp;omega⟩
  ·simp[e] at hb
 ·exact ((nbl _ O).block w.heap.size (by simp)).trans (zB w _)
def Ki(w:World)(i:Nat)(wr:World):Prop:=∃L c b a m,yw w L wr w.heap.size c b a m/\kI a/\0<a.length/\a.length<=3+i/\m<=3+i
def XP(w:World)(j:Nat)(wr:World):Prop:=∃L c b a m,yw w L wr w.heap.size c b a m/\kI a/\(0<j->0<a.length)/\a.length<=j/\m<=j/\L (w.heap.size+1)=0/\wr.heap[w.heap.size+1]?=some (.cells Jq 91)
theorem XP.next{w:World}{j:Nat}{wr g:World}{L:Nat->Nat}{n m:Nat}{e:Ending}(f:L (w.heap.size+1)=0)(b:wr.heap[w.heap.size+1]?=some (.cells Jq 91))(u:n<=j)(t:m<=j)(h:JZ w L wr w.heap.size n m e g):e = .returned (.bool true)/\XP w (j+1) g:=by
 obtain⟨L',c,a,p,m',l,d,o,k,q,r,s,i⟩:=h;exact⟨l,L',c,a,p,m',o,k,λ_=>i,by omega,by omega,(d.old _ (zt b)).trans f,(d.keep _ (zt b) f).trans b⟩
theorem XP.start(w:World):XP w 0 ((w.alloc (.cells #[.slice none 0 0,.slice none 0 0] 89)).alloc (.cells Jq 91)):=by
 refine⟨_,_,_,_,_,yw.start w _,λi p a=>by simp at a,λe=>by omega,zf _,zf _,by simp,?_⟩
 have:=zB (w.alloc (.cells #[.slice none 0 0,.slice none 0 0] 89)) (.cells Jq 91)
 rw[show (w.alloc (.cells #[.slice none 0 0,.slice none 0 0] 89)).heap.size=w.heap.size+1 by simp] at this;exact this
abbrev mi (w:World) (o:OpD):Prop:=∀(L:Nat->Nat) (W:World) (psv bkv:Value) (ps:List xY) (m:Nat),yw w L W w.heap.size psv bkv ps m->kI ps->0<ps.length->ps.length<=100000000->m<=100000000 ->
 Calls prog 37 #[.pointer (some ⟨w.heap.size,0,none⟩),TR o] W (JZ w L W w.heap.size ps.length m)
theorem WQ(w:World)(aL:Addr)(hC:Qu w aL)(sv:Value)(ops:List OpD)(hS:JW w sv ops)(hlen:ops.length<=10000000)(kb kc:Nat)(kinds:List Int)(hK:∀(j:Nat) (x:Int),kinds[j]?=some x->w.cell? ⟨kb,j,none⟩=some (.int .i64 x))(b5:kinds.length<=100)(t:∀o ∈ ops,inK kinds o.kind=true->mi w o) :
  Calls prog 17 #[sv,.slice (some ⟨kb,0,none⟩) kinds.length kc] w λe w'=>e = .returned (.bool true)/\Below w.heap.size w w':=by
 obtain⟨sa,sc,rfl,f⟩:=hS;obtain⟨n,hn⟩:∃x,ops.length=x:=⟨_,rfl⟩;obtain⟨kn,M⟩:∃x,kinds.length=x:=⟨_,rfl⟩;rw[hn] at hlen |-;rw[M] at b5 |-;have HN:=hid hn;have Q:=hid M;have G:=hid f;have HK:=hid hK;have H:=hid t;clear hn M f hK t;go_enter func17,ntmps17;go_wp2_with fail
 go_loopw [7,8] (λO _ wr=>∃j:Nat,j<=3/\O = .int .i64 j/\XP w j wr) (λO _ _=>3-(intOf O).toNat)
 case atStart=>exact⟨0,zH _,rfl,XP.start w⟩
 case round=>
  obtain⟨j,hj,rfl,g⟩:=hrel
  by_cases hlj:j<3
  ·obtain⟨L,d,c,A,m,v,K,I,l,h,hL,hc⟩:=g;have a:=λk=>(zg hc k).1;have B:=hid v;have P:=hid K;have HL:=hid hL;have HC:=hid hc;clear v K hL hc
   rcases (show j=0\/j=1\/j=2 by omega) with rfl|rfl|rfl
   ·have X:=a 0;have Y:=a 1;have q2:=a 2;have Z:=a 3;have q4:=a 4;have q5:=a 5;have q6:=a 6;have q7:=a 7;have q8:=a 8;simp[Jq] at X Y q2 Z q4 q5 q6 q7 q8;clear a
    go_wp2_with (go_at_call 37;refine (Cx w L wr w.heap.size d c A m B.out P.out (by omega) 0 0 ⟨#[]⟩ ⟨#[]⟩ ⟨#[]⟩ ⟨#[]⟩ ⟨#[]⟩ none 0 0).mono ?_;rintro e w2 u;obtain⟨rfl,D⟩:=XP.next HL.out HC.out l h u;have F:=hid D;clear u D)
    go_roundw
    case rel=>exact⟨1,by omega,rfl,F.out⟩
    case measure=>simp[intOf]
   ·have J:=I (by omega);have X:=a 9;have Y:=a 10;have q2:=a 11;have Z:=a 12;have q4:=a 13;have q5:=a 14;have q6:=a 15;have q7:=a 16;have q8:=a 17;simp[Jq] at X Y q2 Z q4 q5 q6 q7 q8;clear a
    go_wp2_with (go_at_call 37;refine (Cy w aL hC L wr w.heap.size d c A m B.out P.out J (by omega) 0 2 Un fH ⟨#[]⟩ ⟨#[]⟩ ⟨#[]⟩ none 0 0 (by unfold I64;decide) rE Oc).mono ?_;rintro e w2 u;obtain⟨rfl,D⟩:=XP.next HL.out HC.out l h u;have F:=hid D;clear u D)
    go_roundw
    case rel=>exact⟨2,by omega,rfl,F.out⟩
    case measure=>simp[intOf]
   ·have J:=I (by omega);have X:=a 18;have Y:=a 19;have q2:=a 20;have Z:=a 21;have q4:=a 22;have q5:=a 23;have q6:=a 24;have q7:=a 25;have q8:=a 26;simp[Jq] at X Y q2 Z q4 q5 q6 q7 q8;clear a
    go_wp2_with (go_at_call 37;refine (Cw w L wr w.heap.size d c A m B.out P.out J (by omega) 0 2 Un ⟨#[]⟩ ⟨#[]⟩ ⟨#[]⟩ ⟨#[]⟩ none 0 0 (by unfold I64;decide) rE).mono ?_;rintro e w2 u;obtain⟨rfl,D⟩:=XP.next HL.out HC.out l h u;have F:=hid D;clear u D)
    go_roundw
    case rel=>exact⟨3,by omega,rfl,F.out⟩
    case measure=>simp[intOf]
  ·have b4:j=3:=by omega
   subst b4
   have s:Ki w 0 wr:=by
    obtain⟨L,d,c,A,m,v,K,I,l,h,_,_⟩:=g;exact⟨L,d,c,A,m,v,K,I (by omega),l,h⟩
   have S:=hid s;clear s g;obtain⟨wh,rfl⟩:∃x,x=wr:=⟨_,rfl⟩;go_wp2_with fail
   go_loopw [9,10,11,12] (λiv _ _ _ wr=>∃i:Nat,i<=n/\iv = .int .i64 i/\Ki w i wr) (λiv _ _ _ _=>n-(intOf iv).toNat)
   case atStart=>exact⟨0,zH _,rfl,S.out⟩
   case round=>
    obtain⟨i,hi,rfl,g⟩:=hrel;clear S
    by_cases hlt:i<n
    ·obtain⟨L,d,c,A,m,v,K,I,l,h⟩:=g;have T:i<ops.length:=by rw[HN.out];exact hlt
     obtain⟨o,ho⟩:∃o,ops[i]?=some o:=⟨_,zm T⟩;obtain⟨gb,q,rfl,N⟩:=G.out i o ho;have b1:=hid N;have y:=N.1;have B:=hid v;have P:=hid K;have HO:=hid ho;have i0:(0:Int)<=(i:Int):=qz _;have i1:(i:Int)<(n:Int):=by omega
     obtain⟨wi,rfl⟩:∃x,x=wr:=⟨_,rfl⟩;clear v K N ho T;go_wp2_with fail
     go_loopw [10,11] (λinv O wr=>∃j:Nat,j<=kn/\O = .int .i64 j/\inv = .bool (inK (kinds.take j) o.kind)/\Below wi.heap.size wi wr) (λ_ O _=>kn-(intOf O).toNat)
     case atStart=>exact⟨0,zH _,rfl,rfl,ze _ _⟩
     case round=>
      obtain⟨j,hj,rfl,rfl,hb⟩:=hrel
      by_cases hlj:j<kn
      ·have U:j<kinds.length:=by rw[Q.out];exact hlj
       obtain⟨x,hx⟩:∃x,kinds[j]?=some x:=⟨_,zm U⟩;have kk:=zh hb (zh B.out.low (HK.out j x hx));have kq:=zh hb (zh B.out.low y);have b:=OB (k:=o.kind) hx;have j0:(0:Int)<=(j:Int):=qz _;have j1:(j:Int)<(kn:Int):=by omega
       have HB:=hid hb;clear hb hx U y
       cases hB:inK (kinds.take j) o.kind with
       | true=>
        rw[hB] at b;have p:=hid b;clear b hB;go_wp2_with fail
        go_quiet (fail)
        go_wp2
        go_roundw
        case rel=>exact⟨j+1,by omega,by go_num,by rw[p.out];rfl,below_drewN HB.out nq⟩
        case measure=>simp[intOf];omega
       | false=>
        rw[hB] at b
        cases hd:(o.kind==x) with
        | true=>
         rw[hd] at b;have p:=hid b;clear b hB;go_wp2_with fail
         go_quiet (fail)
         go_wp2
         go_roundw
         case rel=>exact⟨j+1,by omega,by go_num,by rw[p.out];rfl,below_drewN HB.out nq⟩
         case measure=>simp[intOf];omega
        | false=>
         rw[hd] at b;have p:=hid b;clear b hB;go_wp2_with fail
         go_quiet (fail)
         go_wp2
         go_roundw
         case rel=>exact⟨j+1,by omega,by go_num,by rw[p.out];rfl,below_drewN HB.out nq⟩
         case measure=>simp[intOf];omega
      ·have r:kinds.take j=kinds:=ZO (by rw[Q.out];omega);rw[r];have z:=B.out.below hb;have E:=(b1.out.below B.out.low).below hb;clear r
       cases hB:inK kinds o.kind with
       | false=>
        have F:Hid (Ki w (i+1) wr):=hid ⟨L,d,c,A,m,z,P.out,I,by omega,by omega⟩;clear hB z E y hb;go_wp2_with fail
        go_roundw
        case rel=>exact⟨i+1,by omega,by go_num,F.out⟩
        case measure=>simp[intOf];omega
       | true=>
        obtain⟨c0,c1,c2,c3,c4,c5,c6,c7,c8⟩:=E;have V:=H.out o (xE HO.out) hB L wr d c A m z P.out I (by omega) (by omega);have b2:=hid V;clear hB z V y hb
        go_wp2_with (first
         | (go_at_call 37;refine b2.out.mono ?_;rintro e w2 u;obtain⟨L2,W,C,d0,m2,rfl,s2,p2,a2,n1,n2,n3,n4⟩:=u;have y1:=(zg p2.play 1).1;simp at y1;have P2:=hid p2;have A2:=hid a2;clear s2 p2 a2)
         | (go_at_call 38;refine (zc7 (Lm L2) w2 w.heap.size m2 C y1 P2.out.book (by omega)).mono ?_;rintro e w3 ⟨rfl,e3⟩;rw[e3];clear e3))
        have H3:Ki w (i+1) w2:=⟨L2,W,C,d0,m2,P2.out,A2.out,n4,by omega,by omega⟩;refine⟨?_,?measure⟩
        ·(repeat apply Exists.intro)
         refine⟨?rel,rfl⟩;exact⟨i+1,by omega,by go_num,H3⟩
        ·simp[intOf];omega
    ·obtain⟨L,d,c,A,m,v,_⟩:=g;have R:=hid v.low;clear v;go_wp2_with fail;go_ret;exact⟨rfl,R.out⟩
def V3(o:OpD):Prop:=I64 o.kind/\I64 o.a/\I64 o.layer/\o.name.size<=maxLen/\o.text.size<=maxLen
theorem JW.below{W W':World}{v:Value}{ops:List OpD}(h:JW W v ops)(hb:Below W.heap.size W W'):JW W' v ops:=by
 obtain⟨a,c,rfl,h⟩:=h;refine⟨a,c,rfl,λk o f=>?_⟩;obtain⟨b,q,e,d⟩:=h k o f;exact⟨b,q,e,d.below hb⟩
end Go.Proofs.YtdakgnaojakldaaGreatDoor
namespace Go.Proofs.YtdakgnaojakldaaGreatDoor
open laws Go.ChangeShapes Go.WideShapes Go.ChangeAt Go.RowKit Go.Joins Go.Deep
theorem gM{n:Int}(h:(Lit.int .i64 n).wf=true):I64 n:=by
 have a:(decide (IntKind.min .i64<=n)&&decide (n<=IntKind.max .i64))=true:=h;rw[kJ,uf,uf] at a;exact a
theorem TY{w:World}{a:Addr}{v:Value}(h:w.cell? (a.add 0)=some v):∃b o,a=⟨b,o,none⟩:=by
 obtain⟨b,o,s⟩:=a;have c:w.cell? ⟨b,o,s⟩=some v:=h
 cases s with
 | none=>exact⟨b,o,rfl⟩
 | some x=>
  unfold World.cell? at c
  split at c
  ·simp at c
  ·cases c
instance:Inhabited OpD:=⟨⟨0,0,0,⟨#[]⟩,⟨#[]⟩,⟨#[]⟩,⟨#[]⟩,⟨#[]⟩,none,0,0⟩⟩
section
variable {H:Type} {enc:TypeId×Value->H} {w:World} {spare:Nat->Bool} {held:Bool}
theorem dC{H:Type}{d:DataW H}{l:List (DataW H)}(h:d ∈ l):Rows.uptoBulk d<=Rows.uptoBulkAll l:=by
 induction l with
 | nil=>cases h
 | cons x r a=>
  simp only[Rows.uptoBulkAll]
  cases kR.1 h with
  | inl e=>subst e;omega
  | inr e=>have:=a e;omega
theorem FM{H:Type}(d:DataW H):1<=Rows.uptoBulk d:=by
 cases d with
 | lit l=>cases l<;>simp[Rows.uptoBulk]
 | nil=>simp[Rows.uptoBulk]
 | ptr d=>simp[Rows.uptoBulk]
 | slice elems spare=>simp[Rows.uptoBulk]
 | agg parts=>simp[Rows.uptoBulk]
 | iface t d=>simp[Rows.uptoBulk]
 | map entries=>simp[Rows.uptoBulk]
 | held h=>simp[Rows.uptoBulk]
theorem nK{H:Type}(l:List (DataW H)):l.length<=Rows.uptoBulkAll l:=by
 induction l with
 | nil=>simp[Rows.uptoBulkAll]
 | cons x r a=>have:=FM x;simp only[Rows.uptoBulkAll,QC];omega
end
end Go.Proofs.YtdakgnaojakldaaGreatDoor
namespace Go.Proofs.YtdakgnaojakldaaGreatDoor
namespace De
def Zx(c:UInt8):Prop:=48<=c.toNat/\c.toNat<=57
def mq(n:Nat)(c:UInt8):Nat:=10*n+(c.toNat-48)
def Zz(n:Nat)(l:List UInt8):Nat:=l.foldl mq n
def ve(l:List UInt8):Nat:=Zz 0 l
theorem Vo(n:Nat)(c:UInt8)(l:List UInt8):Zz n (c::l)=Zz (10*n+(c.toNat-48)) l:=by simp only[Zz,List.foldl_cons,mq]
theorem wY:∀(a b:List UInt8) (n m:Nat),a.length=b.length->(∀c ∈ a,Zx c)->(∀c ∈ b,Zx c)->(Zz n a<Zz m b↔n<m\/(n=m/\Lib.compareBytes a b<0))
 | [],[],n,m,_,_,_=>by simp[Zz,Lib.compareBytes]
 | [],_::_,_,_,h,_,_=>by simp at h
 | _::_,[],_,_,h,_,_=>by simp at h
 | x::a,y::b,n,m,h,ha,hb=>by
  have i:=ha x (by simp);have j:=hb y (by simp);unfold Zx at i j;rw[Vo,Vo,wY a b _ _ (by simpa using h) (λc f=>ha c (by simp[f])) (λc f=>hb c (by simp[f])),Lib.compareBytes]
  by_cases c1:x<y
  ·have d:x.toNat<y.toNat:=c1;rw[zb c1]
   constructor
   ·intro h;omega
   ·intro h;omega
  ·have d:¬x.toNat<y.toNat:=c1;rw[za c1]
   by_cases c2:y<x
   ·have e:y.toNat<x.toNat:=c2;rw[zb c2]
    constructor
    ·intro h;omega
    ·intro h;omega
   ·have e:¬y.toNat<x.toNat:=c2;rw[za c2]
    constructor
    ·rintro (h|⟨h,g⟩)
     ·left;omega
     ·right;exact⟨by omega,g⟩
    ·rintro (h|⟨h,g⟩)
     ·left;omega
     ·right;exact⟨by omega,g⟩
theorem gB:∀(l:List UInt8) (n:Nat),(∀c ∈ l,Zx c)->Zz n l<(n+1)*10 ^ l.length
 | [],n,_=>by simp[Zz]
 | x::l,n,h=>by
  have b:=h x (by simp);unfold Zx at b
  have:=gB l (10*n+(x.toNat-48)) (λc a=>h c (by simp[a]))
  rw[Vo];refine xS this ?_;rw[QC,Nat.pow_succ,Nat.mul_comm (10 ^ l.length) 10,<- Nat.mul_assoc];exact VY _ (by omega)
theorem gD:∀(l:List UInt8) (n:Nat),n*10 ^ l.length<=Zz n l
 | [],n=>by simp[Zz]
 | x::l,n=>by
  have:=gD l (10*n+(x.toNat-48))
  rw[Vo];refine xu ?_ this;rw[QC,Nat.pow_succ,Nat.mul_comm (10 ^ l.length) 10,<- Nat.mul_assoc];exact VY _ (by omega)
theorem wZ{a b:List UInt8}(h:∀c ∈ a,Zx c)(hb:∀c ∈ b,Zx c)(e:a.length<b.length)(d:(b.getD 0 0).toNat≠48):ve a<ve b:=by
 match b,e,d with
 | y::b,e,d=>
  have i:=hb y (by simp);unfold Zx at i;have f:y.toNat≠48:=d;have j:=gB a 0 h;have k:=gD b (10*0+(y.toNat-48));have g:ve (y::b)=Zz (10*0+(y.toNat-48)) b:=Vo 0 y b;have l:10 ^ a.length<=10 ^ b.length:=Nat.pow_le_pow_right (by omega) (by simp at e;omega);have m:1*10 ^ b.length<=(10*0+(y.toNat-48))*10 ^ b.length:=VY _ (by omega);rw[g];unfold ve;omega
def Qr(t:BY):Bool:=(t.toList==[48])||Ref.uk t
def Vz(a b:BY):Bool:=if a.size=b.size then decide (Lib.compareBytes a.data.toList b.data.toList<0) else decide (a.size<b.size)
theorem Yh{t:BY}(h:Qr t=true):(∀c ∈ t.data.toList,Zx c)/\1<=t.size/\t.size<=18/\(1<t.size->(t.data.toList.getD 0 0).toNat≠48)/\(t.data.toList.getD 0 0).toNat≠45:=by
 have b:t.data.toList.length=t.size:=by simp
 unfold Qr at h
 rcases Bool.or_eq_true_iff.1 h with h|h
 ·have e:t.data.toList=[48]:=by
   have:=QM h
   rwa [ut] at this
  rw[e] at b |-;simp at b;refine⟨λc a=>?_,by omega,by omega,by omega,by simp⟩;simp at a;subst a;exact⟨by decide,by decide⟩
 ·unfold Ref.uk at h;simp only[kJ,uf,bne_iff_ne] at h;obtain⟨⟨⟨f,g⟩,i⟩,j⟩:=h
  have d:∀c ∈ t.data.toList,Zx c:=λc a=>by
   have:=ZM.1 j c a
   simp only[uf] at this;exact this
  refine⟨d,f,g,λ_=>i,?_⟩
  match hx:t.data.toList with
  | []=>rw[hx] at b;simp at b;omega
  | x::r=>
   have:=d x (by rw[hx];simp)
   unfold Zx at this
   simp
   omega
theorem Bo{a b:BY}(g:Qr a=true)(hb:Qr b=true):Vz a b=decide (ve a.data.toList<ve b.data.toList):=by
 obtain⟨d,l,_,h,_⟩:=Yh g;obtain⟨f,m,_,i,_⟩:=Yh hb;have j:a.data.toList.length=a.size:=by simp
 have k:b.data.toList.length=b.size:=by simp
 unfold Vz
 by_cases e:a.size=b.size
 ·rw[zb e]
  have:=wY a.data.toList b.data.toList 0 0 (by omega) d f
  simp only[Nat.lt_irrefl,false_or,Q8] at this;unfold ve;exact decide_eq_decide.2 this.symm
 ·rw[za e]
  by_cases c:a.size<b.size
  ·rw[zy c,zy (wZ d f (by omega) (i (by omega)))]
  ·have:=wZ f d (by omega) (h (by omega))
   rw[zJ c,zJ (by omega)]
def yo(s:BY):Bool:=decide (0<s.size)&&((s.data.toList.getD 0 0).toNat==45)
def uA(s:BY):BY:=if yo s then s.extract 1 s.size else s
def QY(s:BY):Int:=if yo s then -((ve (uA s).data.toList:Nat):Int) else ((ve (uA s).data.toList:Nat):Int)
def XD(a b:BY):Bool:=if yo a=yo b then (if yo a then Vz (uA b) (uA a) else Vz (uA a) (uA b)) else yo a
theorem Vh{s:BY}(h:Ref.qF s=true):Qr (uA s)=true/\(yo s=true->Ref.uk (uA s)=true):=by
 unfold Ref.qF at h
 rcases Bool.or_eq_true_iff.1 h with h|h
 ·have e:s.data.toList=[48]:=by
   have:=QM h
   rwa [ut] at this
  have b:yo s=false:=by unfold yo;rw[e];simp
  unfold uA;rw[b];refine⟨?_,λh=>by cases h⟩;unfold Qr;simp[h]
 ·cases b:yo s with
  | true=>
   have a:=b;unfold yo at a;simp only[kJ,uf,vJ] at a;rw[zb a] at h;unfold uA Qr;rw[b,zb rfl,h]
   simp
  | false=>
   have a:=b;unfold yo at a
   rw[za (by
    rintro ⟨c,d⟩;rw[zy c,d] at a;simp at a)] at h
   unfold uA Qr;rw[b];simp[h]
theorem Tj{t:BY}(h:Ref.uk t=true):0<ve t.data.toList:=by
 have g:=Yh (t:=t) (by unfold Qr;simp[h]);obtain⟨f,i,_,_,_⟩:=g;unfold Ref.uk at h;simp only[kJ,uf,bne_iff_ne] at h;have c:t.data.toList.length=t.size:=by simp
 match hx:t.data.toList with
 | []=>rw[hx] at c;simp at c;omega
 | x::r=>
  have b:=h.1.2;rw[hx] at b;have d:x.toNat≠48:=b;have a:=f x (by rw[hx];simp);unfold Zx at a;have j:=gD r (10*0+(x.toNat-48));have e:ve (x::r)=Zz (10*0+(x.toNat-48)) r:=Vo 0 x r;have k:1*10 ^ r.length<=(10*0+(x.toNat-48))*10 ^ r.length:=VY _ (by omega);have l:0<10 ^ r.length:=Nat.pow_pos (by omega);rw[e];omega
theorem zbq{a b:BY}(e:Ref.qF a=true)(hb:Ref.qF b=true):XD a b=decide (QY a<QY b):=by
 obtain⟨c,f⟩:=Vh e;obtain⟨d,g⟩:=Vh hb;unfold XD QY
 cases ea:yo a with
 | true=>
  have h:=Tj (f ea)
  cases eb:yo b with
  | true=>
   simp only[qJ];rw[Bo d c];exact decide_eq_decide.2 (by omega)
  | false=>
   simp only[Bool.true_eq_false,xV,qJ,yu];rw[zy (by omega)]
 | false=>
  cases eb:yo b with
  | true=>
   simp only[yu,xV,qJ];rw[zJ (by omega)]
  | false=>
   simp only[qJ,yu,xV];rw[Bo c d];exact decide_eq_decide.2 (by omega)
def jO(op:BY):Bool:=op.toList==[115,97,109,101]
def jN(op:BY):Bool:=op.toList==[98,101,108,111,119]
def Z6(c:Bool×List BY)(word:BY)(r:Ref.Req):Bool:=(c.2.any λp=>Ref.jy p word r) != c.1
def Zk(x v:BY):Bool:=(x.toList==v.toList)||(decide (v.size<x.size)&&((x.data.toList.take v.size==v.data.toList)&&((x.data.toList.getD v.size 0).toNat==47)))
def Xx(op x v:BY)(r:Ref.Req):Bool:=
 if Ref.qX op then Ref.jy v x r
 else if jO op then x.toList==v.toList
 else if jN op then Ref.qF x&&XD x v
 else Zk x v
def YC(op:BY)(vals:List BY)(r:Ref.Req):Option BY->Bool
 | none=>false
 | some x=>vals.any λv=>Xx op x v r
end De
theorem aJ{r:Ref.Req}(h:Ref.xP r=true):r.marks.length<=10:=by
 unfold Ref.xP at h;simp only[kJ,uf] at h;exact h.1.2
theorem XI{s:BY}(h:Ref.yT s=true):s.size<=100/\(Ref.chars s).isSome=true:=by
 unfold Ref.yT at h;simp at h;exact⟨h.2,h.1⟩
theorem iA{r:Ref.Req}(h:Ref.xP r=true):Ref.yT r.who=true/\Ref.yT r.act=true/\Ref.yT r.on=true:=by
 unfold Ref.xP at h;simp only[kJ,uf] at h;exact⟨h.1.1.1.1,h.1.1.1.2,h.1.1.2⟩
theorem UN{r:Ref.Req}(h:Ref.xP r=true)(n v:BY)(a:Ref.says r n=some v):v.size<=100/\(Ref.chars v).isSome=true:=by
 obtain⟨b,c,d⟩:=iA h
 have e:r.marks.all Ref.jP=true:=by
  unfold Ref.xP at h;simp only[kJ] at h;exact h.2
 refine XI ?_;unfold Ref.says at a
 split at a
 ·simp at a;subst a;exact b
 split at a
 ·simp at a;subst a;exact c
 split at a
 ·simp at a;subst a;exact d
 ·unfold Ref.Vl at a;obtain⟨m,f,rfl⟩:=vU.1 a
  have:=ZM.1 e m (lY f)
  unfold Ref.jP at this;simp only[kJ] at this;exact this.1.1.1.2
end Go.Proofs.YtdakgnaojakldaaGreatDoor
