/- P -/
import Derived.Test.YtdakgnaojakldaaGreatDoorP38
open Go.Proofs.Tryz
set_option maxRecDepth 100000
set_option maxHeartbeats 4000000
namespace Go.Proofs.YtdakgnaojakldaaGreatDoor
open Go.RowKit
theorem lF{M:Nat->Prop}{W:World}{base:Nat}{v:Value}{ks:List zC}{xs:List Value}(m:W.ownsRow base 251 3 v ks.length xs)(s:xx M W xs ks):∃a c,v = .slice a ks.length c/\∀(k:Nat) (x:zC),ks[k]?=some x->∃h b f d,a=some ⟨h,0,none⟩/\W.cell? ⟨h,k*3,none⟩=some (.int .i64 x.layer)/\W.cell? ⟨h,k*3+1,none⟩=some (.string x.name)/\W.cell? ⟨h,k*3+2,none⟩=some (.slice b f d)/\jX M W (.slice b f d) x.rs:=by
 rcases m.2 with ⟨e,h0⟩|⟨g,cap,cur,e,_⟩
 ·have n:ks=[]:=Y7.1 h0;subst n;exact⟨none,0,e,λk x j=>by simp at j⟩
 ·refine⟨some ⟨g,0,none⟩,cap,e,λk x j=>?_⟩;have n:k<ks.length:=(zW.1 j).1;obtain⟨b,f,d,o,p,q,r⟩:=s.2 k x j;have l:∀i,i<ks.length*3->W.cell? ⟨g,i,none⟩=xs[i]?:=λi hi=>World.ownsRow.cellAt (g:=g) (cap:=cap) (by rw[<- e];exact m) i (by omega);exact⟨g,b,f,d,rfl,by rw[l _ (by omega)];exact o,by rw[l _ (by omega)];exact p,by rw[l _ (by omega)];exact q,r⟩
theorem sH{ks:List zC}{l:Int}{name:BY}(h:ks.findIdx? (isR l name)=none):Js ks l name = -1:=by unfold Js;rw[h]
theorem sI{ks:List zC}{l:Int}{name:BY}{k:Nat}(h:ks.findIdx? (isR l name)=some k):Js ks l name=(k:Int):=by unfold Js;rw[h]
theorem sS(W:World):(Go.sizeOf (prog.elem 171)).run prog W = .ok 3 W:=by
 obtain⟨d,hi,b,a,c⟩:=xA KQ;have e:prog.elem 171=251:=by kernel_rfl
 rw[e];simp[Go.sizeOf,typeInfo,hi,a]
theorem zbo(a:Option Addr)(n c p:Nat)(h:p<=c)(W:World):(Instr.sliceAt 171 (.slice a n c) none (some (.int .i64 (p:Int))) none).run prog W = .ok (.slice a p c) W:=by
 have b:prog.underlying 171=some (.slice (prog.elem 171)):=by kernel_rfl
 rw[iE _ _ _ _ _ _ b,run_slice_h _ _ _ _ _ b .i64 (p:Int) (by omega) (by omega),sS];simp[Result.andThen,sliced,Addr.add]
theorem zbn(a:Option Addr)(n c p:Nat)(h:p<=n)(W:World):(Instr.sliceAt 171 (.slice a n c) (some (.int .i64 (p:Int))) none none).run prog W = .ok (.slice (if c=p then a else a.map λx=>x.add (p*3)) (n-p) (c-p)) W:=by
 have b:prog.underlying 171=some (.slice (prog.elem 171)):=by kernel_rfl
 rw[iE _ _ _ _ _ _ b,run_slice_l _ _ _ _ _ b .i64 (p:Int) (by omega) (by omega),sS];simp[Result.andThen,sliced]
def vR(M:Nat->Prop)(v:Value):Nat->Prop:=λb=>M b\/v.ownBlock=some b
def bJ(ks:List zC)(l:Int)(name:BY)(M:Nat->Prop)(cb:Nat)(lv:Value)(w:World)(e:Ending)(w':World):Prop:=
 ∃E c a,e = .returned (.int .i64 E)/\zw (λb=>b=cb) w w'/\(∀b,vR M c b->M b\/w.heap.size<=b)/\xN (vR M c) w' cb c a/\(c=lv\/∀g,c.ownBlock=some g->w.heap.size<=g) /\
  (xL l name≠0->E=xL l name/\a=ks)/\(xL l name=0->ks.findIdx? (isR l name)=none->E=9/\a=ks)/\(xL l name=0->∀k,ks.findIdx? (isR l name)=some k->E=0/\a=ks.take k++ks.drop (k+1))
theorem xN.same{M:Nat->Prop}{W:World}{cb:Nat}{lv:Value}{ks:List zC}(h:xN M W cb lv ks):xN (vR M lv) W cb lv ks:=by
 obtain⟨xs,c,d⟩:=h.rows;have f:∀b,vR M lv b->M b\/W.heap.size<=b:=λb hb=>hb.elim .inl (λe => .inl (h.own b e).1);exact⟨.inl h.mine,h.cell,⟨xs,c,d.more f⟩,λg a=>⟨.inl (h.own g a).1,(h.own g a).2⟩⟩
theorem xN.sameM{M:Nat->Prop}{W:World}{cb:Nat}{lv:Value}{ks:List zC}(h:xN M W cb lv ks):∀b,vR M lv b->M b\/W.heap.size<=b:=λb hb=>hb.elim .inl (λe => .inl (h.own b e).1)
theorem Lx(cb:Nat)(lv:Value)(ks:List zC)(l:Int)(name:BY)(M:Nat->Prop)(w:World)(h:xN M w cb lv ks)(hn:ks.length<=1000000000)(hs:name.size<=maxLen)(hM:∀b,M b->b<w.heap.size) :
  Calls prog 70 #[.pointer (some ⟨cb,0,none⟩),.int .i64 l,.string name] w (bJ ks l name M cb lv w):=by
 obtain⟨i1,hj,b7,b8,b9⟩:=xA KQ;have U:=wR l name w hs;have T:=eT cb lv ks l name M w h (by unfold maxLen;omega);have a5:=hid h.same;have a2:=hid h.sameM
 by_cases hpl:xL l name=0
 ·rw[hpl] at U;have Z:=hid U;obtain⟨F,hF⟩:=Nm (ks.findIdx? (isR l name))
  cases F with
  | none=>
   rw[sH hF] at T;have CF:=hid T;have HF:=hid hF;clear U T h hF hM;go_enter func70,ntmps70
   go_wp2_with (first
    | (go_at_call 125;refine CF.out.mono ?_;rintro e S ⟨rfl,e2⟩;rw[e2];clear e2)
    | (go_at_call 124;refine Z.out.mono ?_;rintro e w1 ⟨rfl,J⟩;rw[J];clear J))
   go_ret;exact⟨9,lv,ks,rfl,zw.refl _ _,a2.out,a5.out,.inl rfl,(λe=>absurd hpl e),(λ_ _=>⟨rfl,rfl⟩),λ_ k Y=>by rw[HF.out] at Y;cases Y⟩
  | some k=>
   rw[sI hF] at T;have CF:=hid T;have HF:=hid hF;have d9:k<ks.length:=(VU.1 hF).1;obtain⟨xs,B,I⟩:=h.rows;have c0:=(zg h.cell 0).1;have f0:=(zg h.cell 0).2;have d6:cb<w.heap.size:=hM cb h.mine
   obtain⟨g,cap,cur,e,_,d8,e3,d7,_⟩:∃g cap cur,lv = .slice (some ⟨g,0,none⟩) ks.length cap/\0<=g/\w.heap[g]?=some (.cells cur 251 (0,0))/\ks.length<=cap/\cap<=maxLen/\True:=by
    rcases B.2 with ⟨_,h0⟩|⟨g,cap,cur,e,h1,h2,h3,h4,_⟩
    ·omega
    ·exact⟨g,cap,cur,e,h1,h2,h3,h4,trivial⟩
   subst e;have m:∀i,i<ks.length*3->w.cell? ⟨g,i,none⟩=xs[i]?:=λi hi=>World.ownsRow.cellAt (g:=g) (cap:=cap) B i (by omega);simp at c0;obtain⟨n,A⟩:=Nm ks.length;rw[A] at d9 c0 e3 m hn;have q:=I.1;rw[A] at q;unfold maxLen at d7;have s1:=zbo (some ⟨g,0,none⟩) n cap k (by omega);have s2:∀W,(Instr.sliceAt 171 (.slice (some ⟨g,0,none⟩) n cap) (some (.int .i64 ((k:Int)+1))) none none).run prog W = .ok (.slice (if cap=k+1 then some ⟨g,0,none⟩ else (some (⟨g,0,none⟩:Addr)).map λx=>x.add ((k+1)*3)) (n-(k+1)) (cap-(k+1))) W:=zbn (some ⟨g,0,none⟩) n cap (k+1) (by omega)
   obtain⟨ad,b5,K⟩:∃ad:Addr,(if cap=k+1 then some ⟨g,0,none⟩ else (some (⟨g,0,none⟩:Addr)).map λx=>x.add ((k+1)*3))=some ad/\(∀(j:Nat) (u:Value),(xs.drop ((k+1)*3))[j]?=some u->w.cell? (ad.add j)=some u):=by
    by_cases hc:cap=k+1
    ·refine⟨⟨g,0,none⟩,by rw[zb hc],λj u p=>?_⟩
     have:=(zW.1 p).1
     rw[jV,q] at this;omega
    ·refine⟨⟨g,(k+1)*3,none⟩,by rw[za hc];simp[addr_add],λj u p=>?_⟩;have V:=(zW.1 p).1;rw[jV,q] at V;rw[Qz] at p;rw[addr_add,m _ (by omega)];exact p
   rw[b5] at s2
   have b0:∀(j:Nat) (u:Value),(xs.take (k*3))[j]?=some u->w.cell? ((⟨g,0,none⟩:Addr).add j)=some u:=λj u p=>by
    have V:=(zW.1 p).1;rw[vT,q] at V;rw[ZN] at p
    split at p
    ·rw[addr_add,qN,m _ (by omega)];exact p
    ·cases p
   have P:∀u ∈ xs,u.oneCell'=true:=by
    intro u p;obtain⟨j,f⟩:=QB p;have g6:=(zW.1 f).1;obtain⟨da,dn,dc,g1,g2,g3,_⟩:=I.2 (j / 3) _ (zm (by omega))
    rcases (by omega:j=j / 3*3\/j=j / 3*3+1\/j=j / 3*3+2) with e|e|e
    ·rw[e,g1] at f;injection f with f;rw[<- f];rfl
    ·rw[e,g2] at f;injection f with f;rw[<- f];rfl
    ·rw[e,g3] at f;injection f with f;rw[<- f];rfl
   have HO:=hid h;have a6:=hid I;have c7:=hid b0;have c8:=hid K;have a4:=hid P;have f3:=hid A;have HM:=hid hM;have c9:=hid h.cell;obtain⟨vn,e5⟩:∃x,n-(k+1)=x:=⟨_,rfl⟩;obtain⟨vc,b6⟩:∃x,cap-(k+1)=x:=⟨_,rfl⟩;simp only[e5,b6] at s2;have l1:(xs.take (k*3)).length=k*3:=by rw[vT,q];omega
   have l2:(xs.drop ((k+1)*3)).length=vn*3:=by rw[jV,q];omega
   have b1:0+k<=maxLen:=by unfold maxLen;omega
   have b2:(0+k)*48<=140737488355328:=by omega
   have b3:k+vn<=maxLen:=by unfold maxLen;omega
   have b4:(k+vn)*48<=140737488355328:=by omega
   have hlen:(ks.take k++ks.drop (k+1)).length=k+vn:=by rw[qB,vT,jV,A];omega
   have O:∀b,w.heap.size<=b->b≠cb:=λb hb=>by omega
   have a1:=hid hlen;have d1:=hid O;clear hlen O;have y6:IntKind.i64.wrap ((k:Int)+1)=(k:Int)+1:=by rw[JK];omega
   have y7:wrap64 ((k:Int)+1)=(k:Int)+1:=by unfold wrap64;omega
   clear U T h hF b0 K P A hM I B m d8 b5 q b6;go_enter func70,ntmps70
   go_upto_region 8 with (first
    | (go_at_call 125;refine CF.out.mono ?_;rintro e S ⟨rfl,e2⟩;rw[e2];clear e2)
    | (go_at_call 124;refine Z.out.mono ?_;rintro e w1 ⟨rfl,J⟩;rw[J];clear J))
   clear CF Z
   go_wp2_with (at_builtin;refine vS _ rfl _ _ 171 rfl w.heap.size 251 i1 (.agg #[.int .i64 0,.string ⟨#[]⟩,.slice none 0 0]) 3 48 underlying171 hj b7 b8 b9 rfl (by decide) _ 0 [] rfl (ql _ _ _ _) ⟨g,0,none⟩ k cap (xs.take (k*3)) rfl l1 c7.out (λu p=>a4.out u (VV p)) ?_ ?_ ?_ ?_)
   ·exact b1
   ·exact b2
   ·exact zf _
   ·intro v1 w1 C s _;have a3:=hid C;have G:Hid (Below w.heap.size w w1):=(ze _ w).grown s (zf _) (λk Y=>by cases Y);have e0:=zh G.out c0;have c1:=G.out.size;clear C s
    go_wp2_with (at_builtin;refine vS _ rfl _ _ 171 rfl w.heap.size 251 i1 (.agg #[.int .i64 0,.string ⟨#[]⟩,.slice none 0 0]) 3 48 underlying171 hj b7 b8 b9 rfl (by decide) _ k (xs.take (k*3)) rfl a3.out ad vn vc (xs.drop ((k+1)*3)) rfl l2 (λj u p=>zh G.out (c8.out j u p)) (λu p=>a4.out u (Ke p)) ?_ ?_ ?_ ?_)
    ·exact b3
    ·exact b4
    ·exact c1
    ·intro y S o t _;have a0:Hid (Below w.heap.size w S):=G.out.grown t c1 (λk Y=>(World.ownsRow.lt a3.out k Y).1);have r:=(a0.out.block cb d6).trans c9.out;have g0:=(zg r 0).1;have g1:=(zg r 0).2;simp at g0
     obtain⟨va,vl,h7,e4⟩:∃a n c,y = .slice a n c:=by
      rcases o.2 with ⟨e,_⟩|⟨g,cap,cur,e,_⟩
      ·exact⟨_,_,_,e⟩
      ·exact⟨_,_,_,e⟩
     have v:=λb hb=>World.ownsRow.lt o b hb;have z:∀b,vR M y b->M b\/w.heap.size<=b:=λb hb=>hb.elim .inl (λe => .inr (v b e).1);have hT:zw (λb=>b=cb) w (S.setCell ⟨cb,0,none⟩ y):=(zw.of (M:=λb=>b=cb) a0.out).trans (zw.set (M:=λb=>b=cb) S rfl 0 y);have X:y.ownBlock≠some cb:=λe=>d1.out cb (v cb e).1 rfl;have hlen:=a1.out;have Q:=qY o (a:=⟨cb,0,none⟩) X y;have R:=((a6.out.take k).app (a6.out.drop (k+1))).more z;have a9:zw (vR M y) w (S.setCell ⟨cb,0,none⟩ y):=hT.wide (λb _ e => .inl (by rw[e];exact HO.out.mine));have L:=yF S cb 0 _ _ y r
     have N:xN (vR M y) (S.setCell ⟨cb,0,none⟩ y) cb y (ks.take k++ks.drop (k+1)):=
      ⟨.inl HO.out.mine,L,⟨_,by rw[hlen];exact xC Q (zH _),R.turn a9⟩,λb hb=>⟨.inr hb,λe=>X (by rw[<- e];exact hb)⟩⟩
     have d0:=hid N;have HT:=hid hT;have d4:=hid z;have d3:=hid (λb hb=>(v b hb).1);subst e4;clear N hT z v X hlen Q R a9 L r o t;go_wp2_with fail;go_ret
     exact⟨0,_,_,rfl,HT.out,d4.out,d0.out,.inr d3.out,(λe=>absurd hpl e),(λ_ e=>by rw[HF.out] at e;cases e),λ_ k' H=>by
      rw[HF.out] at H;injection H with H
      subst H;exact⟨rfl,rfl⟩⟩
 ·obtain⟨E,hE⟩:∃x,xL l name=x:=⟨_,rfl⟩;have HE:=hid hE;rw[hE] at U;have D:=hpl;rw[hE] at D;have Z:=hid U;have d:(E==0)=false:=by simpa using D
  have d2:(E != 0)=true:=by simpa using D
  clear U T hE h hM;go_enter func70,ntmps70
  go_wp2_with (go_at_call 124;refine Z.out.mono ?_;rintro e w1 ⟨rfl,J⟩;rw[J];clear J)
  go_ret;exact⟨E,lv,ks,rfl,zw.refl _ _,a2.out,a5.out,.inl rfl,(λ_=>⟨HE.out.symm,rfl⟩),(λe=>absurd e hpl),λe=>absurd e hpl⟩
def bW(ks:List zC)(l:Int)(name text:BY)(M:Nat->Prop)(cb:Nat)(lv:Value)(w:World)(e:Ending)(w':World):Prop:=
 ∃(E:Int) (A:Nat) (c:Value) (a:List zC),e = .returned (.tuple #[.int .i64 E,.int .i64 (A:Int)])/\zw (λb=>b=cb\/lv.ownBlock=some b) w w'/\(∀b,vR M c b->M b\/w.heap.size<=b)/\xN (vR M c) w' cb c a/\(∀g,c.ownBlock=some g->lv.ownBlock=some g\/w.heap.size<=g) /\
  (xL l name≠0->E=xL l name/\A=0/\a=ks) /\
  (xL l name=0->(Rd.xy text).1≠0->E=(Rd.xy text).1/\A=(Rd.xy text).2/\a=ks) /\
  (xL l name=0->(Rd.xy text).1=0->∀k,ks.findIdx? (isR l name)=some k->E=0/\A=0/\a=ks.set k ⟨l,name,vz text⟩) /\
  (xL l name=0->(Rd.xy text).1=0->ks.findIdx? (isR l name)=none->∃out,U8 ks l out/\((4<=out.length/\E=10/\A=0/\a=ks)\/(out.length<4/\E=0/\A=0/\a=ks++[⟨l,name,vz text⟩])))
theorem xx.set{M:Nat->Prop}{W:World}{xs:List Value}{ks:List zC}(h:xx M W xs ks){k:Nat}(r:k<ks.length){d:zC}{b:Option Addr}{f c:Nat}(q:jX M W (.slice b f c) d.rs):xx M W (((xs.set (k*3) (.int .i64 d.layer)).set (k*3+1) (.string d.name)).set (k*3+2) (.slice b f c)) (ks.set k d):=by
 have s:=h.1;refine⟨by simp[s],λj x a=>?_⟩;rw[zq] at a
 by_cases e:k=j
 ·subst e;rw[zb rfl,zb r] at a;injection a with a
  subst a;refine⟨b,f,c,?_,?_,?_,q⟩
  ·rw[zq,za (by omega),zq,za (by omega),zq,zb rfl,zb (by omega)]
  ·rw[zq,za (by omega),zq,zb rfl,zb (by rw[Zn];omega)]
  ·rw[zq,zb rfl,zb (by rw[Zn,Zn];omega)]
 ·rw[za e] at a;obtain⟨g,l,i,m,n,o,p⟩:=h.2 j x a;refine⟨g,l,i,?_,?_,?_,p⟩
  ·rw[zq,za (by omega),zq,za (by omega),zq,za (by omega)];exact m
  ·rw[zq,za (by omega),zq,za (by omega),zq,za (by omega)];exact n
  ·rw[zq,za (by omega),zq,za (by omega),zq,za (by omega)];exact o
theorem WU(cb:Nat)(lv:Value)(ks:List zC)(l:Int)(name text:BY)(M:Nat->Prop)(w:World)(h:xN M w cb lv ks)(hn:ks.length<=1000000000)(hN:∀x ∈ ks,x.name.size<=maxLen)(hs:name.size<=maxLen)(ht:text.size<=maxLen)(hM:∀b,M b->b<w.heap.size) :
  Calls prog 69 #[.pointer (some ⟨cb,0,none⟩),.int .i64 l,.string name,.string text] w (bW ks l name text M cb lv w):=by
 obtain⟨i1,hj,j3,j4,j5⟩:=xA KQ;have cn:=wR l name w hs;have cd:=Lj text w ht;have u:=hid h
 by_cases hpl:xL l name=0
 ·rw[hpl] at cn;have CN:=hid cn
  by_cases hd:(Rd.xy text).1=0
  ·have f8:=zaw text hd;rw[f8] at cd;obtain⟨R,hR⟩:=Nm (vz text);rw[hR] at cd;obtain⟨⟨c,q⟩,C⟩:∃x,Rd.xy text=x:=⟨_,rfl⟩;rw[C] at cd;have i8:c=0:=by rw[C] at hd;exact hd
   subst i8;unfold bI at cd;simp only at cd;have CD:=hid cd;have HR:=hid hR;have c2:=hid hd;have k8:cb<w.heap.size:=hM cb h.mine;clear cn cd f8 C hR hd;obtain⟨F,hF⟩:=Nm (ks.findIdx? (isR l name))
   cases F with
   | some k=>
    have HF:=hid hF;have HM:=hid hM;have c9:k<ks.length:=(VU.1 hF).1
    have cf:∀W,Below w.heap.size w W->Calls prog 125 #[.pointer (some ⟨cb,0,none⟩),.int .i64 l,.string name] W λe w'=>e = .returned (.int .i64 (k:Int))/\w'=W:=λW hb=>by
     have:=eT cb lv ks l name M W (h.below hb) (by unfold maxLen;omega)
     rw[sI hF] at this;exact this
    have CF:=hid cf;clear cf hF h hM;go_enter func69,ntmps69
    go_upto_region 5 with (first
     | (go_at_call 34;refine CD.out.mono ?_;rintro e w1 ⟨dv,rfl,b1,a1⟩;have v:=hid (a1 (by trivial));have o:=hid b1;clear b1 a1)
     | (go_at_call 124;refine CN.out.mono ?_;rintro e w1 ⟨rfl,V⟩;rw[V];clear V))
    obtain⟨H,I,rfl⟩:=v.out.slice;obtain⟨J,Y⟩:∃x,R.length=x:=⟨_,rfl⟩;rw[Y] at v |-;clear Y CD CN;obtain⟨N,y⟩:∃W,w1.alloc (.cells #[.int .i64 l,.string name,.slice H J I] 251)=W:=⟨_,rfl⟩;have B:Below w1.heap.size w1 N:=by rw[<- y];exact nbl w1 _
    have L:=hid (o.out.trans (B.mono o.out.size));have D:N.heap[w1.heap.size]?=some (.cells #[.int .i64 l,.string name,.slice H J I] 251):=by rw[<- y];exact zB w1 _
    have b5:jX M N (.slice H J I) R:=jX.of (v.out.kept (λb _ hl=>B.block b hl)) (λb hb=>xS (HM.out b hb) (zf _));have U:=hid y;have Q:=hid (CF.out w1 o.out);clear CF B y v;have f:=u.out.below L.out;obtain⟨xs,m,s⟩:=f.rows
    obtain⟨g,cap,cur,e,_,a6,_⟩:∃g cap cur,lv = .slice (some ⟨g,0,none⟩) ks.length cap/\0<=g/\N.heap[g]?=some (.cells cur 251 (0,0))/\True:=by
     rcases m.2 with ⟨_,h0⟩|⟨g,cap,cur,e,h1,h2,_⟩
     ·omega
     ·exact⟨g,cap,cur,e,h1,h2,trivial⟩
    subst e;have c0:=(zg f.cell 0).1;simp at c0;have m0:=(zg D 0).1;have m1:=(zg D 1).1;have m2:=(zg D 2).1;simp at m0 m1 m2;obtain⟨ea,en,ec,g0,g1,g2,_⟩:=s.2 k _ (zm c9);have z:∀i,i<ks.length*3->N.cell? ⟨g,i,none⟩=xs[i]?:=λi hi=>World.ownsRow.cellAt (g:=g) (cap:=cap) m i (by omega);have q0:=(z (k*3) (by omega)).trans g0;have q1:=(z (k*3+1) (by omega)).trans g1;have q2:=(z (k*3+2) (by omega)).trans g2;have z0:=m.frozenAt (k*3);have z1:=m.frozenAt (k*3+1);have z2:=m.frozenAt (k*3+2);have e8:=f.own g rfl;have m3:=HM.out g e8.1;have f5:g≠w1.heap.size:=by have:=o.out.size;omega
    have K:=e8.2;have s1:=(m.stored (k*3) (.int .i64 l)).1;have s2:=(s1.stored (k*3+1) (.string name)).1;have s3:=(s2.stored (k*3+2) (.slice H J I)).1;have a2:=((zw.set (M:=λb=>b=cb\/(Value.slice (some ⟨g,0,none⟩) ks.length cap).ownBlock=some b) N (b:=g) (.inr rfl) (k*3) (.int .i64 l)).trans (zw.set _ (b:=g) (.inr rfl) (k*3+1) (.string name))).trans (zw.set _ (b:=g) (.inr rfl) (k*3+2) (.slice H J I));have b7:=s.set c9 (d:=⟨l,name,R⟩) b5
    have tM:=a2.wide (M':=M) (λb _ e=>by
     rcases e with e|e
     ·rw[e];exact f.mine
     ·exact (f.own b e).1)
    have e9:(((N.setCell ⟨g,k*3,none⟩ (.int .i64 l)).setCell ⟨g,k*3+1,none⟩ (.string name)).setCell ⟨g,k*3+2,none⟩ (.slice H J I)).heap[cb]?=some (.cells #[.slice (some ⟨g,0,none⟩) ks.length cap] 173):=
     (qd _ _ _ _ (jF K)).trans ((qd _ _ _ _ (jF K)).trans ((qd _ _ _ _ (jF K)).trans f.cell))
    have hlen:(ks.set k ⟨l,name,R⟩).length=ks.length:=Zn
    have b6:xN M (((N.setCell ⟨g,k*3,none⟩ (.int .i64 l)).setCell ⟨g,k*3+1,none⟩ (.string name)).setCell ⟨g,k*3+2,none⟩ (.slice H J I)) cb (.slice (some ⟨g,0,none⟩) ks.length cap) (ks.set k ⟨l,name,R⟩):=
     ⟨f.mine,e9,⟨_,by rw[hlen];exact s3,b7.turn tM⟩,f.own⟩
    have c3:=hid b6;have c6:=hid ((zw.of (M:=λb=>b=cb\/(Value.slice (some ⟨g,0,none⟩) ks.length cap).ownBlock=some b) L.out).trans a2);obtain⟨n,G⟩:=Nm ks.length;rw[G] at c0 c3 c6 c9 hn;have S:=hid G;have k0:(0:Int)<=(k:Int):=qz _;have k1:(k:Int)<(n:Int):=by omega
    have n5:=jF f5;have n6:=jF K;have n1:¬((k:Int)<0):=by omega
    have m9:decide ((0:Int)<=(k:Int))=true:=by simp
    clear b6 e9 hlen b7 tM a2 s1 s2 s3 m s f z g0 g1 g2 a6 b5 D G
    go_upto_region 9 with (go_at_call 125;refine Q.out.mono ?_;rintro e w3 ⟨rfl,e3⟩;rw[e3];clear e3)
    rw[U.out];clear Q U
    go_upto_region 10 with fail
    go_region_held3 (λw'=>w'.cell? ⟨cb,0,none⟩=some (.slice (some ⟨g,0,none⟩) n cap)/\w'.cell? ⟨w1.heap.size,0,none⟩=some (.int .i64 l)/\w'.cell? ⟨w1.heap.size,1,none⟩=some (.string name)/\w'.cell? ⟨w1.heap.size,2,none⟩=some (.slice H J I)) (go_keep) (fail)
    have g9:=hid (c3.out.below ((ze _ _).drew));have h8:=hid (c6.out.trans (zw.of ((ze _ _).drew)));clear c3 c6;go_wp2_with fail;go_ret2
    exact⟨0,0,_,_,rfl,by rw[S.out];exact h8.out,by rw[<- S.out];exact u.out.sameM,g9.out.same,(λg hg => .inl (by rw[S.out];exact hg)),(λe=>absurd hpl e),(λ_ e=>absurd c2.out e),(λ_ _ k' a7=>by
     rw[HF.out] at a7;injection a7 with a7
     subst a7;exact⟨rfl,rfl,by rw[HR.out]⟩),λ_ _ e=>by rw[HF.out] at e;cases e⟩
   | none=>
    have HF:=hid hF;have HM:=hid hM
    have cf:∀W,Below w.heap.size w W->Calls prog 125 #[.pointer (some ⟨cb,0,none⟩),.int .i64 l,.string name] W λe w'=>e = .returned (.int .i64 (-1))/\w'=W:=λW hb=>by
     have:=eT cb lv ks l name M W (h.below hb) (by unfold maxLen;omega)
     rw[sH hF] at this;exact this
    have ci:∀W,Below w.heap.size w W->_:=λW hb=>fJ cb lv ks l M W (h.below hb) hn hN (λb i7=>xS (hM b i7) hb.size);have CF:=hid cf;have CI:=hid ci;clear cf ci hF h hM;go_enter func69,ntmps69
    go_upto_region 5 with (first
     | (go_at_call 34;refine CD.out.mono ?_;rintro e w1 ⟨dv,rfl,b1,a1⟩;have v:=hid (a1 (by trivial));have o:=hid b1;clear b1 a1)
     | (go_at_call 124;refine CN.out.mono ?_;rintro e w1 ⟨rfl,V⟩;rw[V];clear V))
    obtain⟨H,I,rfl⟩:=v.out.slice;obtain⟨J,Y⟩:∃x,R.length=x:=⟨_,rfl⟩;rw[Y] at v |-;clear Y CD CN;obtain⟨N,y⟩:∃W,w1.alloc (.cells #[.int .i64 l,.string name,.slice H J I] 251)=W:=⟨_,rfl⟩;have B:Below w1.heap.size w1 N:=by rw[<- y];exact nbl w1 _
    have L:=hid (o.out.trans (B.mono o.out.size));have D:N.heap[w1.heap.size]?=some (.cells #[.int .i64 l,.string name,.slice H J I] 251):=by rw[<- y];exact zB w1 _
    have c4:=hid D;have d8:=hid (jX.of (v.out.kept (λb _ hl=>B.block b hl)) (λb hb=>xS (HM.out b hb) (zf _)):jX M N (.slice H J I) R);have U:=hid y;have Q:=hid (CF.out w1 o.out);clear CF B D y v
    go_upto_region 9 with (go_at_call 125;refine Q.out.mono ?_;rintro e w3 ⟨rfl,e3⟩;rw[e3];clear e3)
    rw[U.out];have d7:=hid (CI.out N L.out);clear CI Q U
    go_upto_if 52 with (go_at_call 126;refine d7.out.mono ?_;rintro e w4 ⟨ov,ys,out,rfl,f2,r,g3,b4⟩;have e0:=hid f2;obtain⟨oa,oc,j2,_⟩:=lF r g3;have P:=hid (L.out.trans (b4.mono L.out.size));have a9:=hid b4;subst j2;clear f2 r g3 b4)
    obtain⟨ol,d0⟩:∃x,out.length=x:=⟨_,rfl⟩;rw[d0];have e4:=hid d0;clear d0 d7
    by_cases h4:4<=ol
    ·have d4:decide ((4:Int)<=(ol:Int))=true:=by simp;omega
     rw[d4];go_wp2_with fail;go_ret2;exact⟨10,0,lv,ks,rfl,zw.of P.out,u.out.sameM,(u.out.below P.out).same,(λg hg => .inl hg),(λe=>absurd hpl e),(λ_ e=>absurd c2.out e),(λ_ _ k hk=>by rw[HF.out] at hk;cases hk),λ_ _ _=>⟨out,e0.out,.inl ⟨by rw[e4.out];exact h4,rfl,rfl,rfl⟩⟩⟩
    ·have d4:decide ((4:Int)<=(ol:Int))=false:=by simp;omega
     rw[d4];have f:=u.out.below P.out;obtain⟨xs,m,s⟩:=f.rows
     obtain⟨la,lc,f3⟩:∃a c,lv = .slice a ks.length c:=by
      rcases m.2 with ⟨e,h0⟩|⟨g,cap,cur,e,_⟩
      ·exact⟨none,0,by rw[h0];exact e⟩
      ·exact⟨_,_,e⟩
     have c0:=(zg f.cell 0).1;have f0:=(zg f.cell 0).2;have a8:=(a9.out.block w1.heap.size (zt c4.out)).trans c4.out;have k0:=(zg a8 0).1;have k1:=(zg a8 1).1;have k2:=(zg a8 2).1;simp at c0 k0 k1 k2;have r:=f.own;have b3:cb<w4.heap.size:=zt f.cell;obtain⟨n,G⟩:=Nm ks.length;rw[G] at f3 m hn;subst f3;have nb:(Value.slice la n lc).ownBlock≠some cb:=λe=>(r cb e).2 rfl;have i2:=λO:Obj=>zh (nbl w4 O) c0;have i4:=λO:Obj=>((nbl w4 O).frozen (p:=⟨cb,0,none⟩) b3).trans f0;have c5:=hid f;have h9:=hid (s.app (xx.one (x:=⟨l,name,R⟩) (d8.out.turn (zw.of a9.out))));have S:=hid G;have T:=hid r;have l9:=P.out.size;clear f s r G a8 c4 d8
     go_upto_region 14 with fail
     go_cut [] (λwc=>∃A cap,zw (λb=>b=cb\/(Value.slice la n lc).ownBlock=some b) w wc/\(∀b,vR M (.slice (some ⟨A,0,none⟩) (n+1) cap) b->M b\/w.heap.size<=b)/\xN (vR M (.slice (some ⟨A,0,none⟩) (n+1) cap)) wc cb (.slice (some ⟨A,0,none⟩) (n+1) cap) (ks++[⟨l,name,R⟩])/\((Value.slice la n lc).ownBlock=some A\/w.heap.size<=A))
     case first=>
      go_region_law ((refine step_append_lies _ (by rfl) _ _ _ (by rfl) 0 251 i1 _ 3 48 underlying171 hj j3 j4 j5 rfl (by omega) (.slice la n lc) n xs (by rfl) ((m.alloc _).drew) ⟨w4.heap.size,0,none⟩ 1 1 [.int .i64 l,.string name,.slice H J I] (by rfl) (by rfl) (World.news_of_block (cs:=#[.int .i64 l,.string name,.slice H J I]) (t:=251) (fr:=(0,0)) (zB w4 _)) (by simp[Value.oneCell']) (by omega) (by unfold maxLen;omega) (by omega) (by simp) (w4.heap.size+1) (by simp) ?_;intro A cap w5 d1 j X k9;have n0:w5.cell? ⟨cb,0,none⟩=some (.slice la n lc):=(j.cell_far _ (by simp;omega) (jF nb)).trans (by simp[i2]);have l8:w5.frozen? ⟨cb,0,none⟩=false:=(j.frozen_far _ (by simp;omega) (jF nb)).trans (by simp[i4])))
      all_goals
       go_wp2_with fail
       go_meet
       case rel=>
        have f1:w5.heap[cb]?=some (.cells #[.slice la n lc] 173):=(j.block cb (by simp;omega) (jF nb)).trans (((nbl w4 _).block cb b3).trans c5.out.cell)
        have a6:A≠cb:=by
         rcases X with e|e
         ·exact (T.out A e).2
         ·omega
        have Z:∀b,vR M (.slice (some ⟨A,0,none⟩) (n+1) cap) b->M b\/w4.heap.size<=b:=λb hb=>hb.elim .inl (λe=>by
         have e2:A=b:=by simpa [Value.ownBlock] using e
         subst e2
         rcases X with e|e
         ·exact .inl (T.out A e).1
         ·exact .inr (by omega))
        have t45:zw (λb=>b=cb\/(Value.slice la n lc).ownBlock=some b) w4 w5:=
         (zw.of ((nbl w4 _).drew)).trans ⟨j.os,j.tape,j.output,j.size,λk hk j1=>j.block k hk (λe=>j1 (.inr e.symm))⟩
        have g4:=t45.trans (zw.set (M:=λb=>b=cb\/(Value.slice la n lc).ownBlock=some b) w5 (.inl rfl) 0 (.slice (some ⟨A,0,none⟩) (n+1) cap))
        have tM:zw (vR M (.slice (some ⟨A,0,none⟩) (n+1) cap)) w4 _:=g4.wide (λk _ e => .inl (by
         rcases e with e|e
         ·rw[e];exact c5.out.mine
         ·exact (T.out k e).1))
        have hlen:(ks++[(⟨l,name,R⟩:zC)]).length=n+1:=by rw[qB,S.out];rfl
        refine⟨A,cap,(zw.of P.out).trans g4,λb hb=>(Z b hb).imp id (λe=>by omega),⟨.inl c5.out.mine,yF w5 cb 0 _ _ _ f1,⟨_,by rw[hlen];exact qY d1 (a:=⟨cb,0,none⟩) (by simp only[Value.ownBlock];intro e;injection e with e;exact a6 e) _,(h9.out.more Z).turn tM⟩,λb hb=>?_⟩,X.imp id (λe=>by omega)⟩
        have e2:A=b:=by simpa [Value.ownBlock] using hb
        subst e2;exact⟨.inr hb,a6⟩
     case rest=>
      obtain⟨A,cap,f9,f4,f7,f6⟩:=hcut;have h5:=hid f6;have h7:=hid f9;have h3:=hid f4;have h6:=hid f7;clear f9 f4 f7 f6;go_wp2_with fail;go_ret2
      exact⟨0,0,_,_,rfl,h7.out,h3.out,h6.out,(λg hg=>by
       have e2:A=g:=by simpa [Value.ownBlock] using hg
       subst e2;exact h5.out),(λe=>absurd hpl e),(λ_ e=>absurd c2.out e),(λ_ _ k hk=>by rw[HF.out] at hk;cases hk),λ_ _ _=>⟨out,e0.out,.inr ⟨by rw[e4.out];omega,rfl,rfl,by rw[HR.out]⟩⟩⟩
  ·have a4:=hd;obtain⟨⟨c,q⟩,C⟩:∃x,Rd.xy text=x:=⟨_,rfl⟩;have g8:=hid C;rw[C] at cd a4;unfold bI at cd;simp only at cd a4;have CD:=hid cd;have d:(c==0)=false:=by simpa using a4
   have d2:(c != 0)=true:=by simpa using a4
   clear cn cd C h hM hN;go_enter func69,ntmps69
   go_wp2_with (first
    | (go_at_call 34;refine CD.out.mono ?_;rintro e w1 ⟨dv,rfl,b1,_⟩;have o:=hid b1;clear b1)
    | (go_at_call 124;refine CN.out.mono ?_;rintro e w1 ⟨rfl,V⟩;rw[V];clear V))
   go_ret2;exact⟨c,q,lv,ks,rfl,zw.of o.out,u.out.sameM,(u.out.below o.out).same,(λg hg => .inl hg),(λe=>absurd hpl e),(λ_ _=>by rw[g8.out];exact⟨rfl,rfl,rfl⟩),(λ_ e=>absurd e hd),λ_ e=>absurd e hd⟩
 ·obtain⟨E,hE⟩:∃x,xL l name=x:=⟨_,rfl⟩;have HE:=hid hE;rw[hE] at cn;have a0:=hpl;rw[hE] at a0;have CN:=hid cn;have d:(E==0)=false:=by simpa using a0
  have d2:(E != 0)=true:=by simpa using a0
  clear cn cd hE h hM hN;go_enter func69,ntmps69
  go_wp2_with (go_at_call 124;refine CN.out.mono ?_;rintro e w1 ⟨rfl,V⟩;rw[V];clear V)
  go_ret2;exact⟨E,0,lv,ks,rfl,zw.refl _ _,u.out.sameM,u.out.same,(λg hg => .inl hg),(λ_=>⟨HE.out.symm,rfl,rfl⟩),(λe=>absurd e hpl),(λe=>absurd e hpl),λe=>absurd e hpl⟩
theorem ne_of_lt{a b:BY}(h:qp a b<0):a≠b:=λe=>by rw[e,YI] at h;omega
theorem WR{L:List zF}(h:jG L){k:Nat}{y:zF}(b:L[k]?=some y):qV L y.1=k:=by
 have d:k<L.length:=(zW.1 b).1;refine lq (ltN y.1) L k (Ja d) (λj x c a=>?_) (λj x c a=>?_)
 ·unfold ltN;rw[uf];exact h.at c a b
 ·unfold ltN;rw[ed]
  by_cases e:j=k
  ·subst e;rw[b] at a;injection a with a
   rw[<- a,YI];omega
  ·have:=h.at (show k<j by omega) b a
   rw[dS] at this;omega
theorem sF{L:List zF}(h:jG L){y:zF}(c:y ∈ L):zn L y.1=true/\L[qV L y.1]?=some y:=by
 obtain⟨k,a⟩:=QB c;have b:=WR h a;unfold zn;rw[b,a];exact⟨by simp[YI],rfl⟩
theorem wH{L:List zF}{name:BY}(h:zn L name=true):∃e,(name,e) ∈ L/\L[qV L name]?=some (name,e):=by
 unfold zn at h
 split at h
 ·rename_i x c;have d:x.1=name:=dU (by simpa using h);obtain⟨a,b⟩:=x;simp only at d;subst d;exact⟨b,xE c,c⟩
 ·cases h
theorem zbs{L:List zF}{p:Nat}{x:zF}(h:L[p]?=some x):L=L.take p++x::L.drop (p+1):=by
 obtain⟨a,rfl⟩:=zW.1 h;rw[<- jf a,JS]
theorem wI{L:List zF}(h:jG L){name:BY}{y:zF}:(y ∈ L.take (qV L name)++L.drop (if zn L name then qV L name+1 else qV L name))↔y ∈ L/\y.1≠name:=by
 cases hh:zn L name with
 | true=>
  obtain⟨g,f,b⟩:=wH hh;have d:=zbs b;rw[zb rfl]
  constructor
  ·intro a
   rcases jE.1 a with a|a
   ·exact⟨VV a,ne_of_lt (dh a)⟩
   ·exact⟨Ke a,jF (ne_of_lt (dA h (by rw[hh,zb rfl];exact a)))⟩
  ·rintro ⟨a,c⟩;rw[d] at a
   rcases jE.1 a with a|a
   ·exact Kc _ a
   ·rcases kR.1 a with rfl|a
    ·exact absurd rfl c
    ·exact lX _ a
 | false=>
  simp only[yu,xV];rw[JS];refine⟨λa=>⟨a,λe=>?_⟩,λa=>a.1⟩
  have:=(sF h a).1
  rw[e,hh] at this
  cases this
theorem wK{L:List zF}(h:jG L){name:BY}{b:List zS}{y:zF}:y ∈ kH L name b↔y=(name,b)\/(y ∈ L/\y.1≠name):=by
 rw[<- wI h];unfold kH;simp only[jE,xX]
 constructor
 ·rintro ((a|a)|a)
  ·exact .inr (.inl a)
  ·exact .inl a
  ·exact .inr (.inr a)
 ·rintro (a|a|a)
  ·exact .inl (.inr a)
  ·exact .inl (.inl a)
  ·exact .inr a
theorem SS{L:List zF}(h:jG L){name:BY}(a:zn L name=true){y:zF}:y ∈ ZW L (qV L name)↔y ∈ L/\y.1≠name:=by
 rw[<- wI h,a,zb rfl]
 rfl
theorem Cq:∀(A B:List zF),jG A->jG B->(∀y,y ∈ A↔y ∈ B)->A=B
 | [],[],_,_,_=>rfl
 | [],b::B,_,_,h=>by have:=(h b).2 (by simp);simp at this
 | a::A,[],_,_,h=>by have:=(h a).1 (by simp);simp at this
 | a::A,b::B,hA,hB,h=>by
  have c:=List.pairwise_cons.1 hA;have d:=List.pairwise_cons.1 hB
  have e:a=b:=by
   have g:=(h a).1 (by simp);have i:=(h b).2 (by simp)
   rcases kR.1 g with e|g
   ·exact e
   ·rcases kR.1 i with e|i
    ·exact e.symm
    ·have p:=c.1 b i;have q:=d.1 a g
     have:=Uh p q
     rw[YI] at this;omega
  subst e
  have k:=Cq A B c.2 d.2 (λy=>by
   have j:=h y
   constructor
   ·intro f
    rcases kR.1 (j.1 (by simp[f])) with e|e
    ·subst e
     have:=c.1 _ f
     rw[YI] at this;omega
    ·exact e
   ·intro f
    rcases kR.1 (j.2 (by simp[f])) with e|e
    ·subst e
     have:=d.1 _ f
     rw[YI] at this;omega
    ·exact e)
  rw[k]
def X5(x:zC):zF:=(x.name,x.rs.map vQ)
structure Agree (st:StO) (ks:List zC):Prop where
 sorted:∀i,i<4->jG (st i)
 mem:∀i,i<4->∀y,y ∈ st i↔∃x ∈ ks,x.layer=(i:Int)/\y=X5 x
 keys:ks.Pairwise λx y=>¬(x.layer=y.layer/\x.name=y.name)
 lay:∀x ∈ ks,∃i:Nat,i<4/\x.layer=(i:Int)
 ok:∀x ∈ ks,Ref.zX x.name=true/\x.rs.length<=10/\(∀r ∈ x.rs,Ref.Jc r)/\KG (x.rs.map vQ)=Ref.az x.rs
theorem Agree.start:Agree QK []:=
 ⟨λ_ _=>bK,λi _ y=>by simp[QK],bK,λx a=>by simp at a,λx a=>by simp at a⟩
theorem sN{l:Int}{name:BY}{x:zC}:isR l name x=true↔x.layer=l/\x.name=name:=by
 unfold isR;rw[kJ,vJ,vJ]
 constructor
 ·rintro ⟨b,a⟩;refine⟨b,?_⟩;rw[ut,ut] at a;exact Yr (YZ.1 a)
 ·rintro ⟨b,a⟩;exact⟨b,by rw[a]⟩
theorem fe{ks:List zC}{l:Int}{name:BY}{k:Nat}(h:ks.findIdx? (isR l name)=some k):∃x,ks[k]?=some x/\x.layer=l/\x.name=name:=by
 obtain⟨a,b,_⟩:=VU.1 h;exact⟨_,zm a,sN.1 b⟩
theorem rQ{ks:List zC}{l:Int}{name:BY}(h:ks.findIdx? (isR l name)=none):∀x ∈ ks,¬(x.layer=l/\x.name=name):=by
 intro x a e
 have:=bN.1 h x a
 rw[sN.2 e] at this
 cases this
theorem Agree.has{st:StO}{ks:List zC}(h:Agree st ks){i:Nat}(hi:i<4){name:BY}:zn (st i) name=true↔∃k,ks.findIdx? (isR (i:Int) name)=some k:=by
 constructor
 ·intro f;obtain⟨j,b,_⟩:=wH f;obtain⟨x,d,a,e⟩:=(h.mem i hi _).1 b
  cases hf:ks.findIdx? (isR (i:Int) name) with
  | some k=>exact⟨k,rfl⟩
  | none=>
   have c:x.name=name:=by
    have:=congrArg Prod.fst e
    exact this.symm
   exact absurd ⟨a,c⟩ (rQ hf x d)
 ·rintro ⟨k,g⟩;obtain⟨x,d,a,c⟩:=fe g;have b:X5 x ∈ st i:=(h.mem i hi _).2 ⟨x,xE d,a,rfl⟩
  have:=(sF (h.sorted i hi) b).1
  rw[show (X5 x).1=x.name from rfl,c] at this
  exact this
theorem Ux{ks:List zC}(h:ks.Pairwise λx y=>¬(x.layer=y.layer/\x.name=y.name)){a b:Nat}{x y:zC}(g:ks[a]?=some x)(i:ks[b]?=some y)(d:x.layer=y.layer)(f:x.name=y.name):a=b:=by
 obtain⟨c,rfl⟩:=zW.1 g;obtain⟨hb,rfl⟩:=zW.1 i
 rcases Nat.lt_trichotomy a b with e|e|e
 ·exact absurd ⟨d,f⟩ (Kg.1 h a b c hb e)
 ·exact e
 ·exact absurd ⟨d.symm,f.symm⟩ (Kg.1 h b a hb c e)
theorem Agree.layer{st:StO}{ks:List zC}(h:Agree st ks){i:Nat}(hi:i<4){out:List zC}(t:U8 ks (i:Int) out):st i=out.map X5:=by
 obtain⟨w,q,o,r,rfl⟩:=t
 have d:∀p ∈ w,∃x,ks[p]?=some x/\x.layer=(i:Int):=by
  intro p j;obtain⟨k,l⟩:=(o p).1 j;refine⟨_,zm k,?_⟩;rw[fV (zm k)] at l
  simpa using l
 refine Cq _ _ (h.sorted i hi) ?_ (λy=>?_)
 ·show List.Pairwise _ _;unfold Qq;rw[List.pairwise_map,List.pairwise_filterMap];refine List.Pairwise.imp_of_mem (λ{a b} s hb m=>?_) (q.and r);intro x g y l;obtain⟨n,hle⟩:=m;rw[af g,af l] at hle;have A:=oq y.name x.name;show qp x.name y.name<0;rw[dS]
  have B:qp y.name x.name≠0:=λe=>by
   obtain⟨z,c,u⟩:=d a s;obtain⟨C,f,v⟩:=d b hb;rw[g] at c;injection c with c;subst c
   rw[l] at f;injection f with f;subst f
   exact n (Ux h.keys g l (u.trans v.symm) (dU e).symm)
  omega
 ·rw[h.mem i hi];unfold Qq;simp only[yf,List.mem_filterMap]
  constructor
  ·rintro ⟨x,g,k,rfl⟩;obtain⟨p,j⟩:=QB g;refine⟨x,⟨p,(o p).2 ⟨(zW.1 j).1,by rw[fV j];simpa using k⟩,j⟩,rfl⟩
  ·rintro ⟨x,⟨p,j,g⟩,rfl⟩;obtain⟨z,c,k⟩:=d p j;rw[g] at c;injection c with c;subst c
   exact⟨x,xE g,k,rfl⟩
theorem Jv{ks:List zC}{k:Nat}(c:k<ks.length){d x:zC}:x ∈ ks.set k d↔x=d\/∃j,j≠k/\ks[j]?=some x:=by
 constructor
 ·intro f;obtain⟨j,a⟩:=QB f;rw[zq] at a
  by_cases e:k=j
  ·rw[zb e,zb c] at a;injection a with a
   exact .inl a.symm
  ·rw[za e] at a;exact .inr ⟨j,λx=>e x.symm,a⟩
 ·rintro (rfl|⟨j,b,a⟩)
  ·exact xE (i:=k) (by rw[zq,zb rfl,zb c])
  ·exact xE (i:=j) (by rw[zq,za (λe=>b e.symm)];exact a)
theorem mem_erase_iff{ks:List zC}{k:Nat}{x:zC}:x ∈ ks.take k++ks.drop (k+1)↔∃j,j≠k/\ks[j]?=some x:=by
 rw[<- lS];rw[List.mem_eraseIdx_iff_getElem?]
theorem Ac(text:BY)(c:(Rd.xy text).1=0):(vz text).length<=10/\(∀r ∈ vz text,Ref.Jc r)/\KG ((vz text).map vQ)=Ref.az (vz text)/\Zj text=(vz text).map vQ:=by
 obtain⟨b,d,e⟩:=CY text c;exact⟨d,λr a=>(b r a).2,(WL _ (λr a=>(b r a).1)).symm,e⟩
theorem Agree.set{st:StO}{ks:List zC}(h:Agree st ks){i:Nat}(hi:i<4){name text:BY}(A:Ref.zX name=true)(w:(Rd.xy text).1=0){k:Nat}(z:ks.findIdx? (isR (i:Int) name)=some k):Agree (upd st i (kH (st i) name (Zj text))) (ks.set k ⟨i,name,vz text⟩):=by
 obtain⟨C,D,E,v⟩:=Ac text w;obtain⟨F,f,m,n⟩:=fe z;have c:k<ks.length:=(zW.1 f).1;refine⟨λj o=>?_,λj o y=>?_,?_,λx g=>?_,λx g=>?_⟩
 ·unfold upd
  split
  ·exact (h.sorted i hi).with name _
  ·exact h.sorted j o
 ·unfold upd
  by_cases e:j=i
  ·subst e;rw[zb rfl,wK (h.sorted j o)]
   constructor
   ·rintro (rfl|⟨B,u⟩)
    ·exact⟨_,(Jv c).2 (.inl rfl),rfl,by unfold X5;rw[v]⟩
    ·obtain⟨x,g,l,rfl⟩:=(h.mem j o _).1 B;obtain⟨p,d⟩:=QB g;refine⟨x,(Jv c).2 (.inr ⟨p,λe=>?_,d⟩),l,rfl⟩;subst e;rw[f] at d;injection d with d
     subst d;exact u n
   ·rintro ⟨x,g,l,rfl⟩
    rcases (Jv c).1 g with rfl|⟨p,d,hpx⟩
    ·exact .inl (by unfold X5;rw[v])
    ·refine .inr ⟨(h.mem j o _).2 ⟨x,xE hpx,l,rfl⟩,λe=>d ?_⟩;exact Ux h.keys hpx f (l.trans m.symm) (e.trans n.symm)
  ·rw[za e,h.mem j o]
   constructor
   ·rintro ⟨x,g,l,rfl⟩;obtain⟨p,d⟩:=QB g;refine⟨x,(Jv c).2 (.inr ⟨p,λq=>?_,d⟩),l,rfl⟩;subst q;rw[f] at d;injection d with d
    subst d;rw[m] at l;omega
   ·rintro ⟨x,g,l,rfl⟩
    rcases (Jv c).1 g with rfl|⟨p,d,hpx⟩
    ·simp only at l;omega
    ·exact⟨x,xE hpx,l,rfl⟩
 ·rw[Kg];intro a b s hb t;rw[Zn] at s hb;rw[List.getElem_set,List.getElem_set]
  by_cases ea:k=a
  ·subst ea;rw[zb rfl,za (by omega)];rintro ⟨r,q⟩
   have:=Ux h.keys f (zm hb) (m.trans r) (n.trans q)
   omega
  ·rw[za ea]
   by_cases eb:k=b
   ·subst eb;rw[zb rfl];rintro ⟨r,q⟩
    have:=Ux h.keys (zm s) f (r.trans m.symm) (q.trans n.symm)
    omega
   ·rw[za eb];exact Kg.1 h.keys a b s hb t
 ·rcases (Jv c).1 g with rfl|⟨p,_,hpx⟩
  ·exact⟨i,hi,rfl⟩
  ·exact h.lay x (xE hpx)
 ·rcases (Jv c).1 g with rfl|⟨p,_,hpx⟩
  ·exact⟨A,C,D,E⟩
  ·exact h.ok x (xE hpx)
theorem Agree.add{st:StO}{ks:List zC}(h:Agree st ks){i:Nat}(hi:i<4){name text:BY}(m:Ref.zX name=true)(k:(Rd.xy text).1=0)(l:ks.findIdx? (isR (i:Int) name)=none):Agree (upd st i (kH (st i) name (Zj text))) (ks++[⟨i,name,vz text⟩]):=by
 obtain⟨o,p,q,g⟩:=Ac text k;have d:=rQ l;refine⟨λj c=>?_,λj c y=>?_,?_,λx a=>?_,λx a=>?_⟩
 ·unfold upd
  split
  ·exact (h.sorted i hi).with name _
  ·exact h.sorted j c
 ·unfold upd
  by_cases e:j=i
  ·subst e;rw[zb rfl,wK (h.sorted j c)]
   constructor
   ·rintro (rfl|⟨f,n⟩)
    ·exact⟨⟨(j:Int),name,vz text⟩,lX _ (by simp),rfl,by unfold X5;rw[g]⟩
    ·obtain⟨x,a,b,rfl⟩:=(h.mem j c _).1 f;exact⟨x,Kc _ a,b,rfl⟩
   ·rintro ⟨x,a,b,rfl⟩
    rcases jE.1 a with a|a
    ·exact .inr ⟨(h.mem j c _).2 ⟨x,a,b,rfl⟩,λe=>d x a ⟨b,e⟩⟩
    ·rw[xX] at a;subst a;exact .inl (by unfold X5;rw[g])
  ·rw[za e,h.mem j c]
   constructor
   ·rintro ⟨x,a,b,rfl⟩;exact⟨x,Kc _ a,b,rfl⟩
   ·rintro ⟨x,a,b,rfl⟩
    rcases jE.1 a with a|a
    ·exact⟨x,a,b,rfl⟩
    ·rw[xX] at a;subst a;simp only at b;omega
 ·rw[mf];refine⟨h.keys,by simp,λx a y f=>?_⟩;rw[xX] at f;subst f;exact d x a
 ·rcases jE.1 a with a|a
  ·exact h.lay x a
  ·rw[xX] at a;subst a;exact⟨i,hi,rfl⟩
 ·rcases jE.1 a with a|a
  ·exact h.ok x a
  ·rw[xX] at a;subst a;exact⟨m,o,p,q⟩
theorem Agree.less{st:StO}{ks:List zC}(h:Agree st ks){i:Nat}(hi:i<4){name:BY}{k:Nat}(o:ks.findIdx? (isR (i:Int) name)=some k):Agree (upd st i (ZW (st i) (qV (st i) name))) (ks.take k++ks.drop (k+1)):=by
 obtain⟨t,f,l,m⟩:=fe o;have r:zn (st i) name=true:=(h.has hi).2 ⟨k,o⟩;refine⟨λj g=>?_,λj g y=>?_,?_,λx c=>?_,λx c=>?_⟩
 ·unfold upd
  split
  ·exact (h.sorted i hi).less _
  ·exact h.sorted j g
 ·unfold upd
  by_cases e:j=i
  ·subst e;rw[zb rfl,SS (h.sorted j g) r]
   constructor
   ·rintro ⟨s,n⟩;obtain⟨x,c,d,rfl⟩:=(h.mem j g _).1 s;obtain⟨p,b⟩:=QB c;refine⟨x,mem_erase_iff.2 ⟨p,λe=>?_,b⟩,d,rfl⟩;subst e;rw[f] at b;injection b with b
    subst b;exact n m
   ·rintro ⟨x,c,d,rfl⟩;obtain⟨p,b,a⟩:=mem_erase_iff.1 c;exact⟨(h.mem j g _).2 ⟨x,xE a,d,rfl⟩,λe=>b (Ux h.keys a f (d.trans l.symm) (e.trans m.symm))⟩
  ·rw[za e,h.mem j g]
   constructor
   ·rintro ⟨x,c,d,rfl⟩;obtain⟨p,b⟩:=QB c;refine⟨x,mem_erase_iff.2 ⟨p,λq=>?_,b⟩,d,rfl⟩;subst q;rw[f] at b;injection b with b
    subst b;rw[l] at d;omega
   ·rintro ⟨x,c,d,rfl⟩;obtain⟨p,b,a⟩:=mem_erase_iff.1 c;exact⟨x,xE a,d,rfl⟩
 ·rw[<- lS];exact h.keys.sublist (List.eraseIdx_sublist _ _)
 ·obtain⟨p,_,a⟩:=mem_erase_iff.1 c;exact h.lay x (xE a)
 ·obtain⟨p,_,a⟩:=mem_erase_iff.1 c;exact h.ok x (xE a)
theorem Agree.few{st:StO}{ks:List zC}(h:Agree st ks)(c:∀i,i<4->(st i).length<=4):ks.length<=16:=by
 have d:(ks.map λx=>(x.layer,x.name)).Nodup:=by
  rw[List.nodup_iff_pairwise_ne,List.pairwise_map];refine h.keys.imp (λf e=>f ?_);injection e with e1 e2
  exact⟨e1,e2⟩
 have b:(ks.map λx=>(x.layer,x.name)) ⊆ ((st 0).map λy=>((0:Int),y.1))++((st 1).map λy=>((1:Int),y.1))++((st 2).map λy=>((2:Int),y.1))++((st 3).map λy=>((3:Int),y.1)):=by
  intro z l;obtain⟨x,j,rfl⟩:=yf.1 l;obtain⟨i,hi,g⟩:=h.lay x j;have k:=(h.mem i hi _).2 ⟨x,j,g,rfl⟩;have a:(x.layer,x.name) ∈ (st i).map λy=>((i:Int),y.1):=yf.2 ⟨_,k,by rw[g];rfl⟩;simp only[jE]
  rcases lt4 hi with rfl|rfl|rfl|rfl
  ·exact .inl (.inl (.inl a))
  ·exact .inl (.inl (.inr a))
  ·exact .inl (.inr a)
  ·exact .inr a
 have:=d.length_le_of_subset b
 simp only[qH,qB] at this;have m:=c 0 (by omega);have n:=c 1 (by omega);have o:=c 2 (by omega);have p:=c 3 (by omega);omega
end Go.Proofs.YtdakgnaojakldaaGreatDoor
