/- P -/
import Derived.Test.YtagnlbgbnfnapaaGreatDoorK45
open Go.Proofs.Tryz
set_option maxRecDepth 100000
set_option maxHeartbeats 4000000
namespace Go.Proofs.YtagnlbgbnfnapaaGreatDoor
open Go.RowKit
theorem tH{M:Nat->Prop}{W:World}{base:Nat}{v:Value}{ks:List zx}{xs:List Value}(m:W.ownsRow base 172 3 v ks.length xs)(s:xu M W xs ks):∃a c,v = .slice a ks.length c/\∀(k:Nat) (x:zx),ks[k]?=some x->∃h b f d,a=some ⟨h,0,none⟩/\W.cell? ⟨h,k*3,none⟩=some (.int .i64 x.layer)/\W.cell? ⟨h,k*3+1,none⟩=some (.string x.name)/\W.cell? ⟨h,k*3+2,none⟩=some (.slice b f d)/\jK M W (.slice b f d) x.rs:=by
 rcases m.2 with ⟨e,h0⟩|⟨g,cap,cur,e,_⟩
 ·have n:ks=[]:=YB.1 h0;subst n;exact⟨none,0,e,λk x j=>by simp at j⟩
 ·refine⟨some ⟨g,0,none⟩,cap,e,λk x j=>?_⟩;have n:k<ks.length:=(zR.1 j).1;obtain⟨b,f,d,o,p,q,r⟩:=s.2 k x j;have l:∀i,i<ks.length*3->W.cell? ⟨g,i,none⟩=xs[i]?:=λi hi=>World.ownsRow.cellAt (g:=g) (cap:=cap) (by rw[<- e];exact m) i (by omega);exact⟨g,b,f,d,rfl,by rw[l _ (by omega)];exact o,by rw[l _ (by omega)];exact p,by rw[l _ (by omega)];exact q,r⟩
theorem MV{ks:List zx}{l:Int}{out:List zx}(h:Yv ks l out):out.length<=ks.length:=by
 obtain⟨d,c,b,_,rfl⟩:=h;rw[oN (λp a=>((b p).1 a).1)]
 have:=c.length_le_of_subset (l₂:=List.range ks.length) (λp a=>ku.2 ((b p).1 a).1)
 simpa using this
def Kq(ks:List zx)(l:Int)(w:World)(e:Ending)(w':World):Prop:=
 ∃v ns,e = .returned (.tuple #[v,.int .i64 (QU l)])/\zz w' w.heap.size v ns/\Below w.heap.size w w'/\(jh l=false->ns=[])/\(jh l=true->∃out,Yv ks l out/\ns=out.map zx.name)
def Ky(ks:List zx)(l:Int)(name:BY)(w:World)(e:Ending)(w':World):Prop:=
 ∃s E,e = .returned (.tuple #[.string s,.int .i64 E])/\Below w.heap.size w w' /\
  (qw l name≠0->s=⟨#[]⟩/\E=qw l name)/\(qw l name=0->ks.findIdx? (isR l name)=none->s=⟨#[]⟩/\E=9)/\(qw l name=0->∀k x,ks.findIdx? (isR l name)=some k->ks[k]?=some x->s=Ref.QV x.rs/\E=0)
theorem aN{ks:List zx}{l:Int}{name:BY}(h:ks.findIdx? (isR l name)=none):X9 ks l name = -1:=by unfold X9;rw[h]
theorem aO{ks:List zx}{l:Int}{name:BY}{k:Nat}(h:ks.findIdx? (isR l name)=some k):X9 ks l name=(k:Int):=by unfold X9;rw[h]
theorem Mc(cb:Nat)(lv:Value)(ks:List zx)(l:Int)(M:Nat->Prop)(w:World)(h:xq M w cb lv ks)(hn:ks.length<=1000000000)(N:∀x ∈ ks,x.name.size<=maxLen)(L:∀b,M b->b<w.heap.size) :
  Calls prog 40 #[.pointer (some ⟨cb,0,none⟩),.int .i64 l] w (Kq ks l w):=by
 obtain⟨i0,hi,T,U,V⟩:=qP Jd
 by_cases hr:0<=l/\l<4
 ·obtain⟨P,Q⟩:=hr;have d1:decide (0<=l)=true:=zC P;have d2:decide (l<4)=true:=zC Q;have d3:decide (l<0)=false:=by simp;omega
  have d4:decide (4<=l)=false:=by simp;omega
  have o:jh l=true:=by unfold jh;rw[d1,d2];rfl
  have z:QU l=0:=by unfold QU;rw[o];rfl
  have d:=hid (uA o z);clear o z;have Z:=mH cb lv ks l M w h hn N L;have Y:=hid Z;clear Z h L N;go_enter func40,ntmps40
  go_upto_region 4 with (go_at_call 80;refine Y.out.mono ?_;rintro e w1 ⟨v,xs,out,rfl,p,n,C,hb⟩;have H:=hid p;have y:=hid (tH n C);have j:=hid hb;have R:=MV p;clear p n C hb)
  obtain⟨a,c,rfl,f⟩:=y.out;have G:=hid f;obtain⟨m,q⟩:=Nm out.length;rw[q] at R |-;have t:=hid q;clear f q y Y;go_wp2_with fail
  go_loopw [7,8] (λov X wr=>∃k:Nat,k<=m/\X = .int .i64 k/\zz wr w1.heap.size ov ((out.take k).map zx.name)/\Below w1.heap.size w1 wr) (λ_ X _=>m-(intOf X).toNat)
  case atStart=>exact⟨0,zG _,rfl,⟨rfl,.inl ⟨rfl,rfl⟩⟩,zf _ _⟩
  case round=>
   obtain⟨k,hk,rfl,s,hb⟩:=hrel;have E:=hid s;have D:=hid hb;clear s hb
   by_cases hlt:k<m
   ·have A:k<out.length:=by rw[t.out];exact hlt
    obtain⟨gb,da,dn,dc,rfl,q0,q1,q2,_⟩:=G.out k _ (zn A);have p1:=zi D.out q1;have r:Hid ((out.take (k+1)).map zx.name=(out.take k).map zx.name++[out[k].name]):=hid (by rw[Xe,zn A,uG];rfl);have B:((out.take k).map zx.name).length=k:=by rw[qB,yZ];omega
    obtain⟨S,hS⟩:=Nm (out[k].name);rw[hS] at p1 r;obtain⟨K,hK⟩:=Nm ((out.take k).map zx.name);rw[hK] at E r B;have W:=D.out.size;have a6:=j.out.size;have k0:(0:Int)<=(k:Int):=zZ _;have k1:(k:Int)<(m:Int):=by omega
    clear q0 q1 q2 hS hK G
    go_wp2_with (at_builtin;refine yK _ rfl _ _ 48 rfl w1.heap.size 9 i0 (.string ⟨#[]⟩) 1 16 underlying48 hi T U V rfl (by decide) _ K.length (K.map Value.string) rfl (World.ownsRow.alloc E.out _) ⟨wr.heap.size,0,none⟩ 1 1 [.string S] rfl rfl ?_ ?_ ?_ ?_ ?_ ?_)
    ·exact vG _ _ _
    ·intro u hu;simp at hu;rcases hu with rfl;rfl
    ·unfold maxLen;omega
    ·omega
    ·simp;omega
    ·intro v' w3 i g _;have J:Hid (zz w3 w1.heap.size v' ((out.take (k+1)).map zx.name)):=by rw[r.out];exact Vj (by rw[B];exact i)
     have F:Hid (Below w1.heap.size w1 w3):=(D.out.alloc W _).grown g (by simp;omega) (λk hk=>(World.ownsRow.lt E.out k hk).1);clear i g;go_wp2_with fail
     go_roundw
     case rel=>exact⟨k+1,by omega,by go_num,J.out,F.out⟩
     case measure=>simp[intOf];omega
   ·have O:m=k:=by omega
    subst O;have s:=E.out;rw[Zd (by rw[t.out];omega)] at s;have I:=hid (xA s j.out.size);clear s G;go_wp2_with fail;go_ret2;exact⟨_,_,by rw[d.out.2];rfl,I.out,j.out.trans (D.out.mono j.out.size),(λe=>by rw[d.out.1] at e;cases e),λ_=>⟨out,H.out,rfl⟩⟩
 ·have dd:(decide (0<=l)&&decide (l<4))=false:=by
   rw[Bool.and_eq_false_iff]
   by_cases e:0<=l
   ·exact .inr (by simp;omega)
   ·exact .inl (by simp;omega)
  have o:jh l=false:=dd;have z:QU l=7:=by unfold QU;rw[o];rfl
  have d:=hid (uA o z);clear o z dd;clear h L N
  by_cases e:l<0
  ·have d3:decide (l<0)=true:=by simp;omega
   go_enter func40,ntmps40;go_wp2_with fail;go_ret2;exact⟨_,[],by rw[d.out.2];rfl,⟨rfl,.inl ⟨rfl,rfl⟩⟩,zf _ _,(λ_=>rfl),λe=>by rw[d.out.1] at e;cases e⟩
  ·have d3:decide (l<0)=false:=by simp;omega
   have d4:decide (4<=l)=true:=by simp;omega
   go_enter func40,ntmps40;go_wp2_with fail;go_ret2;exact⟨_,[],by rw[d.out.2];rfl,⟨rfl,.inl ⟨rfl,rfl⟩⟩,zf _ _,(λ_=>rfl),λe=>by rw[d.out.1] at e;cases e⟩
theorem Pw(cb:Nat)(lv:Value)(ks:List zx)(l:Int)(name:BY)(M:Nat->Prop)(w:World)(h:xq M w cb lv ks)(Q:ks.length<=maxLen)(U:name.size<=maxLen)(G:∀x ∈ ks,x.rs.length<=10/\∀r ∈ x.rs,Ref.ky r) :
  Calls prog 39 #[.pointer (some ⟨cb,0,none⟩),.int .i64 l,.string name] w (Ky ks l name w):=by
 have q:=bG l name w U;have p:=Ua cb lv ks l name M w h Q
 by_cases hpl:qw l name=0
 ·rw[hpl] at q;have B:=hid q;obtain⟨F,hF⟩:=Nm (ks.findIdx? (isR l name))
  cases F with
  | none=>
   rw[aN hF] at p;have H:Hid (Calls prog 79 #[.pointer (some ⟨cb,0,none⟩),.int .i64 l,.string name] w λe w'=>e = .returned (.int .i64 (-1))/\w'=w):=hid p;have C:=hid hF;clear q p h hF G;go_enter func39,ntmps39
   go_wp2_with (first
    | (go_at_call 79;refine H.out.mono ?_;rintro e X ⟨rfl,t⟩;rw[t];clear t)
    | (go_at_call 77;refine B.out.mono ?_;rintro e w1 ⟨rfl,o⟩;rw[o];clear o))
   go_ret2;exact⟨⟨#[]⟩,9,rfl,zf _ _,(λe=>absurd hpl e),(λ_ _=>⟨rfl,rfl⟩),λ_ k x O=>by rw[C.out] at O;cases O⟩
  | some k=>
   rw[aO hF] at p;have H:Hid (Calls prog 79 #[.pointer (some ⟨cb,0,none⟩),.int .i64 l,.string name] w λe w'=>e = .returned (.int .i64 (k:Int))/\w'=w):=hid p
   have v:k<ks.length:=by
    have:=Kj.1 hF
    exact this.1
   have z:=zn v;obtain⟨a,c,rfl,b⟩:=h.cells;have N:=(zg h.cell 0).1;simp at N;obtain⟨gb,Z,dn,dc,rfl,V,W,q2,f⟩:=b k _ z;have j:=G _ (qL z);obtain⟨x,A⟩:=Nm (ks[k]);rw[A] at z f j;obtain⟨base,u⟩:=f.at;have s:=Ny x.rs _ base w u j.1 j.2;obtain⟨P,K⟩:=Nm (Ref.QV x.rs);rw[K] at s;have I:=hid s;have T:=hid z;have C:=hid hF;have S:=hid K;obtain⟨n,y⟩:=Nm ks.length;rw[y] at v N;have k0:(0:Int)<=(k:Int):=zZ _;have k1:(k:Int)<(n:Int):=by omega
   clear q p h hF G b f u j s A z K V W y Q;go_enter func39,ntmps39
   go_wp2_with (first
    | (go_at_call 83;refine I.out.mono ?_;rintro e w3 ⟨rfl,L⟩;have J:=hid L;clear L)
    | (go_at_call 79;refine H.out.mono ?_;rintro e X ⟨rfl,t⟩;rw[t];clear t)
    | (go_at_call 77;refine B.out.mono ?_;rintro e w1 ⟨rfl,o⟩;rw[o];clear o))
   go_ret2
   exact⟨P,0,rfl,J.out,(λe=>absurd hpl e),(λ_ e=>by rw[C.out] at e;cases e),λ_ k' x' i m=>by
    rw[C.out] at i;injection i with i
    subst i;rw[T.out] at m;injection m with m
    subst m;exact⟨S.out.symm,rfl⟩⟩
 ·obtain⟨E,D⟩:∃x,qw l name=x:=⟨_,rfl⟩;have R:=hid D;rw[D] at q;have g:=hpl;rw[D] at g;have B:=hid q;have d:(E==0)=false:=by simpa using g
  have Y:(E != 0)=true:=by simpa using g
  clear q p D h G;go_enter func39,ntmps39
  go_wp2_with (go_at_call 77;refine B.out.mono ?_;rintro e w1 ⟨rfl,o⟩;rw[o];clear o)
  go_ret2;exact⟨⟨#[]⟩,E,rfl,zf _ _,λ_=>⟨rfl,R.out.symm⟩,λe=>absurd e hpl,λe=>absurd e hpl⟩
theorem mU(W:World):(Go.sizeOf (prog.elem 96)).run prog W = .ok 3 W:=by
 obtain⟨d,hi,b,a,c⟩:=qP Ud;have e:prog.elem 96=172:=by kernel_rfl
 rw[e];simp[Go.sizeOf,typeInfo,hi,a]
theorem PD(a:Option Addr)(n c p:Nat)(h:p<=c)(W:World):(Instr.sliceAt 96 (.slice a n c) none (some (.int .i64 (p:Int))) none).run prog W = .ok (.slice a p c) W:=by
 have b:prog.underlying 96=some (.slice (prog.elem 96)):=by kernel_rfl
 rw[dz _ _ _ _ _ _ b,run_slice_h _ _ _ _ _ b .i64 (p:Int) (by omega) (by omega),mU];simp[Result.andThen,sliced,Addr.add]
theorem Pz(a:Option Addr)(n c p:Nat)(h:p<=n)(W:World):(Instr.sliceAt 96 (.slice a n c) (some (.int .i64 (p:Int))) none none).run prog W = .ok (.slice (if c=p then a else a.map λx=>x.add (p*3)) (n-p) (c-p)) W:=by
 have b:prog.underlying 96=some (.slice (prog.elem 96)):=by kernel_rfl
 rw[dz _ _ _ _ _ _ b,run_slice_l _ _ _ _ _ b .i64 (p:Int) (by omega) (by omega),mU];simp[Result.andThen,sliced]
def yY(M:Nat->Prop)(v:Value):Nat->Prop:=λb=>M b\/v.ownBlock=some b
def U8(ks:List zx)(l:Int)(name:BY)(M:Nat->Prop)(cb:Nat)(lv:Value)(w:World)(e:Ending)(w':World):Prop:=
 ∃E c a,e = .returned (.int .i64 E)/\zw (λb=>b=cb) w w'/\(∀b,yY M c b->M b\/w.heap.size<=b)/\xq (yY M c) w' cb c a/\(c=lv\/∀g,c.ownBlock=some g->w.heap.size<=g) /\
  (qw l name≠0->E=qw l name/\a=ks)/\(qw l name=0->ks.findIdx? (isR l name)=none->E=9/\a=ks)/\(qw l name=0->∀k,ks.findIdx? (isR l name)=some k->E=0/\a=ks.take k++ks.drop (k+1))
theorem xq.same{M:Nat->Prop}{W:World}{cb:Nat}{lv:Value}{ks:List zx}(h:xq M W cb lv ks):xq (yY M lv) W cb lv ks:=by
 obtain⟨xs,c,d⟩:=h.rows;have f:∀b,yY M lv b->M b\/W.heap.size<=b:=λb hb=>hb.elim .inl (λe => .inl (h.own b e).1);exact⟨.inl h.mine,h.cell,⟨xs,c,d.more f⟩,λg a=>⟨.inl (h.own g a).1,(h.own g a).2⟩⟩
theorem xq.sameM{M:Nat->Prop}{W:World}{cb:Nat}{lv:Value}{ks:List zx}(h:xq M W cb lv ks):∀b,yY M lv b->M b\/W.heap.size<=b:=λb hb=>hb.elim .inl (λe => .inl (h.own b e).1)
theorem DJ(cb:Nat)(lv:Value)(ks:List zx)(l:Int)(name:BY)(M:Nat->Prop)(w:World)(h:xq M w cb lv ks)(hn:ks.length<=1000000000)(hs:name.size<=maxLen)(hM:∀b,M b->b<w.heap.size) :
  Calls prog 37 #[.pointer (some ⟨cb,0,none⟩),.int .i64 l,.string name] w (U8 ks l name M cb lv w):=by
 obtain⟨i1,hj,b7,b8,b9⟩:=qP Ud;have U:=bG l name w hs;have T:=Ua cb lv ks l name M w h (by unfold maxLen;omega);have a5:=hid h.same;have a2:=hid h.sameM
 by_cases hpl:qw l name=0
 ·rw[hpl] at U;have Z:=hid U;obtain⟨F,hF⟩:=Nm (ks.findIdx? (isR l name))
  cases F with
  | none=>
   rw[aN hF] at T;have CF:=hid T;have HF:=hid hF;clear U T h hF hM;go_enter func37,ntmps37
   go_wp2_with (first
    | (go_at_call 79;refine CF.out.mono ?_;rintro e S ⟨rfl,e2⟩;rw[e2];clear e2)
    | (go_at_call 77;refine Z.out.mono ?_;rintro e w1 ⟨rfl,J⟩;rw[J];clear J))
   go_ret;exact⟨9,lv,ks,rfl,zw.refl _ _,a2.out,a5.out,.inl rfl,(λe=>absurd hpl e),(λ_ _=>⟨rfl,rfl⟩),λ_ k Y=>by rw[HF.out] at Y;cases Y⟩
  | some k=>
   rw[aO hF] at T;have CF:=hid T;have HF:=hid hF;have e3:k<ks.length:=(Kj.1 hF).1;obtain⟨xs,B,I⟩:=h.rows;have c0:=(zg h.cell 0).1;have f0:=(zg h.cell 0).2;have d7:cb<w.heap.size:=hM cb h.mine
   obtain⟨g,cap,cur,e,_,d9,e4,d8,_⟩:∃g cap cur,lv = .slice (some ⟨g,0,none⟩) ks.length cap/\0<=g/\w.heap[g]?=some (.cells cur 172 (0,0))/\ks.length<=cap/\cap<=maxLen/\True:=by
    rcases B.2 with ⟨_,h0⟩|⟨g,cap,cur,e,h1,h2,h3,h4,_⟩
    ·omega
    ·exact⟨g,cap,cur,e,h1,h2,h3,h4,trivial⟩
   subst e;have m:∀i,i<ks.length*3->w.cell? ⟨g,i,none⟩=xs[i]?:=λi hi=>World.ownsRow.cellAt (g:=g) (cap:=cap) B i (by omega);simp at c0;obtain⟨n,A⟩:=Nm ks.length;rw[A] at e3 c0 e4 m hn;have q:=I.1;rw[A] at q;unfold maxLen at d8;have s1:=PD (some ⟨g,0,none⟩) n cap k (by omega);have s2:∀W,(Instr.sliceAt 96 (.slice (some ⟨g,0,none⟩) n cap) (some (.int .i64 ((k:Int)+1))) none none).run prog W = .ok (.slice (if cap=k+1 then some ⟨g,0,none⟩ else (some (⟨g,0,none⟩:Addr)).map λx=>x.add ((k+1)*3)) (n-(k+1)) (cap-(k+1))) W:=Pz (some ⟨g,0,none⟩) n cap (k+1) (by omega)
   obtain⟨ad,b5,K⟩:∃ad:Addr,(if cap=k+1 then some ⟨g,0,none⟩ else (some (⟨g,0,none⟩:Addr)).map λx=>x.add ((k+1)*3))=some ad/\(∀(j:Nat) (u:Value),(xs.drop ((k+1)*3))[j]?=some u->w.cell? (ad.add j)=some u):=by
    by_cases hc:cap=k+1
    ·refine⟨⟨g,0,none⟩,by rw[zb hc],λj u p=>?_⟩
     have:=(zR.1 p).1
     rw[jw,q] at this;omega
    ·refine⟨⟨g,(k+1)*3,none⟩,by rw[za hc];simp[addr_add],λj u p=>?_⟩;have V:=(zR.1 p).1;rw[jw,q] at V;rw[Zy] at p;rw[addr_add,m _ (by omega)];exact p
   rw[b5] at s2
   have b0:∀(j:Nat) (u:Value),(xs.take (k*3))[j]?=some u->w.cell? ((⟨g,0,none⟩:Addr).add j)=some u:=λj u p=>by
    have V:=(zR.1 p).1;rw[yZ,q] at V;rw[kr] at p
    split at p
    ·rw[addr_add,yO,m _ (by omega)];exact p
    ·cases p
   have P:∀u ∈ xs,u.oneCell'=true:=by
    intro u p;obtain⟨j,f⟩:=ZA p;have g7:=(zR.1 f).1;obtain⟨da,dn,dc,g1,g2,g3,_⟩:=I.2 (j / 3) _ (zn (by omega))
    rcases (by omega:j=j / 3*3\/j=j / 3*3+1\/j=j / 3*3+2) with e|e|e
    ·rw[e,g1] at f;injection f with f;rw[<- f];rfl
    ·rw[e,g2] at f;injection f with f;rw[<- f];rfl
    ·rw[e,g3] at f;injection f with f;rw[<- f];rfl
   have HO:=hid h;have a6:=hid I;have c7:=hid b0;have c8:=hid K;have a4:=hid P;have f4:=hid A;have HM:=hid hM;have c9:=hid h.cell;obtain⟨vn,e6⟩:∃x,n-(k+1)=x:=⟨_,rfl⟩;obtain⟨vc,b6⟩:∃x,cap-(k+1)=x:=⟨_,rfl⟩;simp only[e6,b6] at s2;have l1:(xs.take (k*3)).length=k*3:=by rw[yZ,q];omega
   have l2:(xs.drop ((k+1)*3)).length=vn*3:=by rw[jw,q];omega
   have b1:0+k<=maxLen:=by unfold maxLen;omega
   have b2:(0+k)*48<=140737488355328:=by omega
   have b3:k+vn<=maxLen:=by unfold maxLen;omega
   have b4:(k+vn)*48<=140737488355328:=by omega
   have hlen:(ks.take k++ks.drop (k+1)).length=k+vn:=by rw[qA,yZ,jw,A];omega
   have O:∀b,w.heap.size<=b->b≠cb:=λb hb=>by omega
   have a1:=hid hlen;have d1:=hid O;clear hlen O;have y6:IntKind.i64.wrap ((k:Int)+1)=(k:Int)+1:=by rw[IntKind.wrap_i64];omega
   have y7:wrap64 ((k:Int)+1)=(k:Int)+1:=by unfold wrap64;omega
   clear U T h hF b0 K P A hM I B m d9 b5 q b6;go_enter func37,ntmps37
   go_upto_region 8 with (first
    | (go_at_call 79;refine CF.out.mono ?_;rintro e S ⟨rfl,e2⟩;rw[e2];clear e2)
    | (go_at_call 77;refine Z.out.mono ?_;rintro e w1 ⟨rfl,J⟩;rw[J];clear J))
   clear CF Z
   go_wp2_with (at_builtin;refine yK _ rfl _ _ 96 rfl w.heap.size 172 i1 (.agg #[.int .i64 0,.string ⟨#[]⟩,.slice none 0 0]) 3 48 underlying96 hj b7 b8 b9 rfl (by decide) _ 0 [] rfl (qD _ _ _ _) ⟨g,0,none⟩ k cap (xs.take (k*3)) rfl l1 c7.out (λu p=>a4.out u (VE p)) ?_ ?_ ?_ ?_)
   ·exact b1
   ·exact b2
   ·exact ze _
   ·intro v1 w1 C s _;have a3:=hid C;have G:Hid (Below w.heap.size w w1):=(zf _ w).grown s (ze _) (λk Y=>by cases Y);have e0:=zi G.out c0;have c1:=G.out.size;clear C s
    go_wp2_with (at_builtin;refine yK _ rfl _ _ 96 rfl w.heap.size 172 i1 (.agg #[.int .i64 0,.string ⟨#[]⟩,.slice none 0 0]) 3 48 underlying96 hj b7 b8 b9 rfl (by decide) _ k (xs.take (k*3)) rfl a3.out ad vn vc (xs.drop ((k+1)*3)) rfl l2 (λj u p=>zi G.out (c8.out j u p)) (λu p=>a4.out u (VD p)) ?_ ?_ ?_ ?_)
    ·exact b3
    ·exact b4
    ·exact c1
    ·intro y S o t _;have a0:Hid (Below w.heap.size w S):=G.out.grown t c1 (λk Y=>(World.ownsRow.lt a3.out k Y).1);have r:=(a0.out.block cb d7).trans c9.out;have g0:=(zg r 0).1;have g1:=(zg r 0).2;simp at g0
     obtain⟨va,vl,h8,e5⟩:∃a n c,y = .slice a n c:=by
      rcases o.2 with ⟨e,_⟩|⟨g,cap,cur,e,_⟩
      ·exact⟨_,_,_,e⟩
      ·exact⟨_,_,_,e⟩
     have v:=λb hb=>World.ownsRow.lt o b hb;have z:∀b,yY M y b->M b\/w.heap.size<=b:=λb hb=>hb.elim .inl (λe => .inr (v b e).1);have hT:zw (λb=>b=cb) w (S.setCell ⟨cb,0,none⟩ y):=(zw.of (M:=λb=>b=cb) a0.out).trans (zw.set (M:=λb=>b=cb) S rfl 0 y);have X:y.ownBlock≠some cb:=λe=>d1.out cb (v cb e).1 rfl;have hlen:=a1.out;have Q:=xE o (a:=⟨cb,0,none⟩) X y;have R:=((a6.out.take k).app (a6.out.drop (k+1))).more z;have a9:zw (yY M y) w (S.setCell ⟨cb,0,none⟩ y):=hT.wide (λb _ e => .inl (by rw[e];exact HO.out.mine));have L:=yz S cb 0 _ _ y r
     have N:xq (yY M y) (S.setCell ⟨cb,0,none⟩ y) cb y (ks.take k++ks.drop (k+1)):=
      ⟨.inl HO.out.mine,L,⟨_,by rw[hlen];exact xA Q (zG _),R.turn a9⟩,λb hb=>⟨.inr hb,λe=>X (by rw[<- e];exact hb)⟩⟩
     have d0:=hid N;have HT:=hid hT;have d4:=hid z;have d3:=hid (λb hb=>(v b hb).1);subst e5;clear N hT z v X hlen Q R a9 L r o t;go_wp2_with fail;go_ret
     exact⟨0,_,_,rfl,HT.out,d4.out,d0.out,.inr d3.out,(λe=>absurd hpl e),(λ_ e=>by rw[HF.out] at e;cases e),λ_ k' H=>by
      rw[HF.out] at H;injection H with H
      subst H;exact⟨rfl,rfl⟩⟩
 ·obtain⟨E,hE⟩:∃x,qw l name=x:=⟨_,rfl⟩;have HE:=hid hE;rw[hE] at U;have D:=hpl;rw[hE] at D;have Z:=hid U;have d:(E==0)=false:=by simpa using D
  have d2:(E != 0)=true:=by simpa using D
  clear U T hE h hM;go_enter func37,ntmps37
  go_wp2_with (go_at_call 77;refine Z.out.mono ?_;rintro e w1 ⟨rfl,J⟩;rw[J];clear J)
  go_ret;exact⟨E,lv,ks,rfl,zw.refl _ _,a2.out,a5.out,.inl rfl,(λ_=>⟨HE.out.symm,rfl⟩),(λe=>absurd e hpl),λe=>absurd e hpl⟩
def Kv(ks:List zx)(l:Int)(name text:BY)(M:Nat->Prop)(cb:Nat)(lv:Value)(w:World)(e:Ending)(w':World):Prop:=
 ∃(E:Int) (A:Nat) (c:Value) (a:List zx),e = .returned (.tuple #[.int .i64 E,.int .i64 (A:Int)])/\zw (λb=>b=cb\/lv.ownBlock=some b) w w'/\(∀b,yY M c b->M b\/w.heap.size<=b)/\xq (yY M c) w' cb c a/\(∀g,c.ownBlock=some g->lv.ownBlock=some g\/w.heap.size<=g) /\
  (qw l name≠0->E=qw l name/\A=0/\a=ks) /\
  (qw l name=0->(Rd.xe text).1≠0->E=(Rd.xe text).1/\A=(Rd.xe text).2/\a=ks) /\
  (qw l name=0->(Rd.xe text).1=0->∀k,ks.findIdx? (isR l name)=some k->E=0/\A=0/\a=ks.set k ⟨l,name,jH text⟩) /\
  (qw l name=0->(Rd.xe text).1=0->ks.findIdx? (isR l name)=none->∃out,Yv ks l out/\((4<=out.length/\E=10/\A=0/\a=ks)\/(out.length<4/\E=0/\A=0/\a=ks++[⟨l,name,jH text⟩])))
theorem xu.set{M:Nat->Prop}{W:World}{xs:List Value}{ks:List zx}(h:xu M W xs ks){k:Nat}(r:k<ks.length){d:zx}{b:Option Addr}{f c:Nat}(q:jK M W (.slice b f c) d.rs):xu M W (((xs.set (k*3) (.int .i64 d.layer)).set (k*3+1) (.string d.name)).set (k*3+2) (.slice b f c)) (ks.set k d):=by
 have s:=h.1;refine⟨by simp[s],λj x a=>?_⟩;rw[zt] at a
 by_cases e:k=j
 ·subst e;rw[zb rfl,zb r] at a;injection a with a
  subst a;refine⟨b,f,c,?_,?_,?_,q⟩
  ·rw[zt,za (by omega),zt,za (by omega),zt,zb rfl,zb (by omega)]
  ·rw[zt,za (by omega),zt,zb rfl,zb (by rw[uD];omega)]
  ·rw[zt,zb rfl,zb (by rw[uD,uD];omega)]
 ·rw[za e] at a;obtain⟨g,l,i,m,n,o,p⟩:=h.2 j x a;refine⟨g,l,i,?_,?_,?_,p⟩
  ·rw[zt,za (by omega),zt,za (by omega),zt,za (by omega)];exact m
  ·rw[zt,za (by omega),zt,za (by omega),zt,za (by omega)];exact n
  ·rw[zt,za (by omega),zt,za (by omega),zt,za (by omega)];exact o
theorem NN(cb:Nat)(lv:Value)(ks:List zx)(l:Int)(name text:BY)(M:Nat->Prop)(w:World)(h:xq M w cb lv ks)(hn:ks.length<=1000000000)(hN:∀x ∈ ks,x.name.size<=maxLen)(hs:name.size<=maxLen)(ht:text.size<=maxLen)(hM:∀b,M b->b<w.heap.size) :
  Calls prog 36 #[.pointer (some ⟨cb,0,none⟩),.int .i64 l,.string name,.string text] w (Kv ks l name text M cb lv w):=by
 obtain⟨i1,hj,j8,j9,k3⟩:=qP Ud;have cn:=bG l name w hs;have cd:=Dx text w ht;have u:=hid h
 by_cases hpl:qw l name=0
 ·rw[hpl] at cn;have CN:=hid cn
  by_cases hd:(Rd.xe text).1=0
  ·have f9:=Ox text hd;rw[f9] at cd;obtain⟨R,hR⟩:=Nm (jH text);rw[hR] at cd;obtain⟨⟨c,q⟩,C⟩:∃x,Rd.xe text=x:=⟨_,rfl⟩;rw[C] at cd;have i9:c=0:=by rw[C] at hd;exact hd
   subst i9;unfold U7 at cd;simp only at cd;have CD:=hid cd;have HR:=hid hR;have c2:=hid hd;have l3:cb<w.heap.size:=hM cb h.mine;clear cn cd f9 C hR hd;obtain⟨F,hF⟩:=Nm (ks.findIdx? (isR l name))
   cases F with
   | some k=>
    have HF:=hid hF;have HM:=hid hM;have c9:k<ks.length:=(Kj.1 hF).1
    have cf:∀W,Below w.heap.size w W->Calls prog 79 #[.pointer (some ⟨cb,0,none⟩),.int .i64 l,.string name] W λe w'=>e = .returned (.int .i64 (k:Int))/\w'=W:=λW hb=>by
     have:=Ua cb lv ks l name M W (h.below hb) (by unfold maxLen;omega)
     rw[aO hF] at this;exact this
    have CF:=hid cf;clear cf hF h hM;go_enter func36,ntmps36
    go_upto_region 5 with (first
     | (go_at_call 78;refine CD.out.mono ?_;rintro e w1 ⟨dv,rfl,b1,a1⟩;have v:=hid (a1 (by trivial));have o:=hid b1;clear b1 a1)
     | (go_at_call 77;refine CN.out.mono ?_;rintro e w1 ⟨rfl,V⟩;rw[V];clear V))
    obtain⟨H,I,rfl⟩:=v.out.slice;obtain⟨J,Y⟩:∃x,R.length=x:=⟨_,rfl⟩;rw[Y] at v |-;clear Y CD CN;obtain⟨N,y⟩:∃W,w1.alloc (.cells #[.int .i64 l,.string name,.slice H J I] 172)=W:=⟨_,rfl⟩;have B:Below w1.heap.size w1 N:=by rw[<- y];exact nbl w1 _
    have L:=hid (o.out.trans (B.mono o.out.size));have D:N.heap[w1.heap.size]?=some (.cells #[.int .i64 l,.string name,.slice H J I] 172):=by rw[<- y];exact zQ w1 _
    have b5:jK M N (.slice H J I) R:=jK.of (v.out.kept (λb _ hl=>B.block b hl)) (λb hb=>xM (HM.out b hb) (ze _));have U:=hid y;have Q:=hid (CF.out w1 o.out);clear CF B y v;have f:=u.out.below L.out;obtain⟨xs,m,s⟩:=f.rows
    obtain⟨g,cap,cur,e,_,a6,_⟩:∃g cap cur,lv = .slice (some ⟨g,0,none⟩) ks.length cap/\0<=g/\N.heap[g]?=some (.cells cur 172 (0,0))/\True:=by
     rcases m.2 with ⟨_,h0⟩|⟨g,cap,cur,e,h1,h2,_⟩
     ·omega
     ·exact⟨g,cap,cur,e,h1,h2,trivial⟩
    subst e;have c0:=(zg f.cell 0).1;simp at c0;have m0:=(zg D 0).1;have m1:=(zg D 1).1;have m2:=(zg D 2).1;simp at m0 m1 m2;obtain⟨ea,en,ec,g0,g1,g2,_⟩:=s.2 k _ (zn c9);have z:∀i,i<ks.length*3->N.cell? ⟨g,i,none⟩=xs[i]?:=λi hi=>World.ownsRow.cellAt (g:=g) (cap:=cap) m i (by omega);have q0:=(z (k*3) (by omega)).trans g0;have q1:=(z (k*3+1) (by omega)).trans g1;have q2:=(z (k*3+2) (by omega)).trans g2;have z0:=m.frozenAt (k*3);have z1:=m.frozenAt (k*3+1);have z2:=m.frozenAt (k*3+2);have e9:=f.own g rfl;have m8:=HM.out g e9.1;have f6:g≠w1.heap.size:=by have:=o.out.size;omega
    have K:=e9.2;have s1:=(m.stored (k*3) (.int .i64 l)).1;have s2:=(s1.stored (k*3+1) (.string name)).1;have s3:=(s2.stored (k*3+2) (.slice H J I)).1;have a2:=((zw.set (M:=λb=>b=cb\/(Value.slice (some ⟨g,0,none⟩) ks.length cap).ownBlock=some b) N (b:=g) (.inr rfl) (k*3) (.int .i64 l)).trans (zw.set _ (b:=g) (.inr rfl) (k*3+1) (.string name))).trans (zw.set _ (b:=g) (.inr rfl) (k*3+2) (.slice H J I));have b7:=s.set c9 (d:=⟨l,name,R⟩) b5
    have tM:=a2.wide (M':=M) (λb _ e=>by
     rcases e with e|e
     ·rw[e];exact f.mine
     ·exact (f.own b e).1)
    have f1:(((N.setCell ⟨g,k*3,none⟩ (.int .i64 l)).setCell ⟨g,k*3+1,none⟩ (.string name)).setCell ⟨g,k*3+2,none⟩ (.slice H J I)).heap[cb]?=some (.cells #[.slice (some ⟨g,0,none⟩) ks.length cap] 98):=
     (qc _ _ _ _ (ja K)).trans ((qc _ _ _ _ (ja K)).trans ((qc _ _ _ _ (ja K)).trans f.cell))
    have hlen:(ks.set k ⟨l,name,R⟩).length=ks.length:=uD
    have b6:xq M (((N.setCell ⟨g,k*3,none⟩ (.int .i64 l)).setCell ⟨g,k*3+1,none⟩ (.string name)).setCell ⟨g,k*3+2,none⟩ (.slice H J I)) cb (.slice (some ⟨g,0,none⟩) ks.length cap) (ks.set k ⟨l,name,R⟩):=
     ⟨f.mine,f1,⟨_,by rw[hlen];exact s3,b7.turn tM⟩,f.own⟩
    have c3:=hid b6;have c6:=hid ((zw.of (M:=λb=>b=cb\/(Value.slice (some ⟨g,0,none⟩) ks.length cap).ownBlock=some b) L.out).trans a2);obtain⟨n,G⟩:=Nm ks.length;rw[G] at c0 c3 c6 c9 hn;have S:=hid G;have k0:(0:Int)<=(k:Int):=zZ _;have k1:(k:Int)<(n:Int):=by omega
    have o0:=ja f6;have o1:=ja K;have n6:¬((k:Int)<0):=by omega
    have n4:decide ((0:Int)<=(k:Int))=true:=by simp
    clear b6 f1 hlen b7 tM a2 s1 s2 s3 m s f z g0 g1 g2 a6 b5 D G
    go_upto_region 9 with (go_at_call 79;refine Q.out.mono ?_;rintro e w3 ⟨rfl,e3⟩;rw[e3];clear e3)
    rw[U.out];clear Q U
    go_upto_region 10 with fail
    go_region_held3 (λw'=>w'.cell? ⟨cb,0,none⟩=some (.slice (some ⟨g,0,none⟩) n cap)/\w'.cell? ⟨w1.heap.size,0,none⟩=some (.int .i64 l)/\w'.cell? ⟨w1.heap.size,1,none⟩=some (.string name)/\w'.cell? ⟨w1.heap.size,2,none⟩=some (.slice H J I)) (go_keep) (fail)
    have h3:=hid (c3.out.below ((zf _ _).drew));have h9:=hid (c6.out.trans (zw.of ((zf _ _).drew)));clear c3 c6;go_wp2_with fail;go_ret2
    exact⟨0,0,_,_,rfl,by rw[S.out];exact h9.out,by rw[<- S.out];exact u.out.sameM,h3.out.same,(λg hg => .inl (by rw[S.out];exact hg)),(λe=>absurd hpl e),(λ_ e=>absurd c2.out e),(λ_ _ k' a7=>by
     rw[HF.out] at a7;injection a7 with a7
     subst a7;exact⟨rfl,rfl,by rw[HR.out]⟩),λ_ _ e=>by rw[HF.out] at e;cases e⟩
   | none=>
    have HF:=hid hF;have HM:=hid hM
    have cf:∀W,Below w.heap.size w W->Calls prog 79 #[.pointer (some ⟨cb,0,none⟩),.int .i64 l,.string name] W λe w'=>e = .returned (.int .i64 (-1))/\w'=W:=λW hb=>by
     have:=Ua cb lv ks l name M W (h.below hb) (by unfold maxLen;omega)
     rw[aN hF] at this;exact this
    have ci:∀W,Below w.heap.size w W->_:=λW hb=>mH cb lv ks l M W (h.below hb) hn hN (λb i8=>xM (hM b i8) hb.size);have CF:=hid cf;have CI:=hid ci;clear cf ci hF h hM;go_enter func36,ntmps36
    go_upto_region 5 with (first
     | (go_at_call 78;refine CD.out.mono ?_;rintro e w1 ⟨dv,rfl,b1,a1⟩;have v:=hid (a1 (by trivial));have o:=hid b1;clear b1 a1)
     | (go_at_call 77;refine CN.out.mono ?_;rintro e w1 ⟨rfl,V⟩;rw[V];clear V))
    obtain⟨H,I,rfl⟩:=v.out.slice;obtain⟨J,Y⟩:∃x,R.length=x:=⟨_,rfl⟩;rw[Y] at v |-;clear Y CD CN;obtain⟨N,y⟩:∃W,w1.alloc (.cells #[.int .i64 l,.string name,.slice H J I] 172)=W:=⟨_,rfl⟩;have B:Below w1.heap.size w1 N:=by rw[<- y];exact nbl w1 _
    have L:=hid (o.out.trans (B.mono o.out.size));have D:N.heap[w1.heap.size]?=some (.cells #[.int .i64 l,.string name,.slice H J I] 172):=by rw[<- y];exact zQ w1 _
    have c4:=hid D;have d8:=hid (jK.of (v.out.kept (λb _ hl=>B.block b hl)) (λb hb=>xM (HM.out b hb) (ze _)):jK M N (.slice H J I) R);have U:=hid y;have Q:=hid (CF.out w1 o.out);clear CF B D y v
    go_upto_region 9 with (go_at_call 79;refine Q.out.mono ?_;rintro e w3 ⟨rfl,e3⟩;rw[e3];clear e3)
    rw[U.out];have d7:=hid (CI.out N L.out);clear CI Q U
    go_upto_if 52 with (go_at_call 80;refine d7.out.mono ?_;rintro e w4 ⟨ov,ys,out,rfl,f3,r,g4,b4⟩;have e0:=hid f3;obtain⟨oa,oc,j7,_⟩:=tH r g4;have P:=hid (L.out.trans (b4.mono L.out.size));have a9:=hid b4;subst j7;clear f3 r g4 b4)
    obtain⟨ol,d0⟩:∃x,out.length=x:=⟨_,rfl⟩;rw[d0];have e4:=hid d0;clear d0 d7
    by_cases h4:4<=ol
    ·have d4:decide ((4:Int)<=(ol:Int))=true:=by simp;omega
     rw[d4];go_wp2_with fail;go_ret2;exact⟨10,0,lv,ks,rfl,zw.of P.out,u.out.sameM,(u.out.below P.out).same,(λg hg => .inl hg),(λe=>absurd hpl e),(λ_ e=>absurd c2.out e),(λ_ _ k hk=>by rw[HF.out] at hk;cases hk),λ_ _ _=>⟨out,e0.out,.inl ⟨by rw[e4.out];exact h4,rfl,rfl,rfl⟩⟩⟩
    ·have d4:decide ((4:Int)<=(ol:Int))=false:=by simp;omega
     rw[d4];have f:=u.out.below P.out;obtain⟨xs,m,s⟩:=f.rows
     obtain⟨la,lc,f4⟩:∃a c,lv = .slice a ks.length c:=by
      rcases m.2 with ⟨e,h0⟩|⟨g,cap,cur,e,_⟩
      ·exact⟨none,0,by rw[h0];exact e⟩
      ·exact⟨_,_,e⟩
     have c0:=(zg f.cell 0).1;have f0:=(zg f.cell 0).2;have a8:=(a9.out.block w1.heap.size (zy c4.out)).trans c4.out;have k0:=(zg a8 0).1;have k1:=(zg a8 1).1;have k2:=(zg a8 2).1;simp at c0 k0 k1 k2;have r:=f.own;have b3:cb<w4.heap.size:=zy f.cell;obtain⟨n,G⟩:=Nm ks.length;rw[G] at f4 m hn;subst f4;have nb:(Value.slice la n lc).ownBlock≠some cb:=λe=>(r cb e).2 rfl;have i3:=λO:Obj=>zi (nbl w4 O) c0;have i5:=λO:Obj=>((nbl w4 O).frozen (p:=⟨cb,0,none⟩) b3).trans f0;have c5:=hid f;have i0:=hid (s.app (xu.one (x:=⟨l,name,R⟩) (d8.out.turn (zw.of a9.out))));have S:=hid G;have T:=hid r;have m7:=P.out.size;clear f s r G a8 c4 d8
     go_upto_region 14 with fail
     go_cut [] (λwc=>∃A cap,zw (λb=>b=cb\/(Value.slice la n lc).ownBlock=some b) w wc/\(∀b,yY M (.slice (some ⟨A,0,none⟩) (n+1) cap) b->M b\/w.heap.size<=b)/\xq (yY M (.slice (some ⟨A,0,none⟩) (n+1) cap)) wc cb (.slice (some ⟨A,0,none⟩) (n+1) cap) (ks++[⟨l,name,R⟩])/\((Value.slice la n lc).ownBlock=some A\/w.heap.size<=A))
     case first=>
      go_region_law ((refine UU _ (by rfl) _ _ _ (by rfl) 0 172 i1 _ 3 48 underlying96 hj j8 j9 k3 rfl (by omega) (.slice la n lc) n xs (by rfl) ((m.alloc _).drew) ⟨w4.heap.size,0,none⟩ 1 1 [.int .i64 l,.string name,.slice H J I] (by rfl) (by rfl) (KA (cs:=#[.int .i64 l,.string name,.slice H J I]) (t:=172) (fr:=(0,0)) (zQ w4 _)) (by simp[Value.oneCell']) (by omega) (by unfold maxLen;omega) (by omega) (by simp) (w4.heap.size+1) (by simp) ?_;intro A cap w5 d1 j X l4;have n5:w5.cell? ⟨cb,0,none⟩=some (.slice la n lc):=(j.cell_far _ (by simp;omega) (ja nb)).trans (by simp[i3]);have m6:w5.frozen? ⟨cb,0,none⟩=false:=(j.frozen_far _ (by simp;omega) (ja nb)).trans (by simp[i5])))
      all_goals
       go_wp2_with fail
       go_meet
       case rel=>
        have f2:w5.heap[cb]?=some (.cells #[.slice la n lc] 98):=(j.block cb (by simp;omega) (ja nb)).trans (((nbl w4 _).block cb b3).trans c5.out.cell)
        have a6:A≠cb:=by
         rcases X with e|e
         ·exact (T.out A e).2
         ·omega
        have Z:∀b,yY M (.slice (some ⟨A,0,none⟩) (n+1) cap) b->M b\/w4.heap.size<=b:=λb hb=>hb.elim .inl (λe=>by
         have e2:A=b:=by simpa [Value.ownBlock] using e
         subst e2
         rcases X with e|e
         ·exact .inl (T.out A e).1
         ·exact .inr (by omega))
        have t45:zw (λb=>b=cb\/(Value.slice la n lc).ownBlock=some b) w4 w5:=
         (zw.of ((nbl w4 _).drew)).trans ⟨j.os,j.tape,j.output,j.size,λk hk j2=>j.block k hk (λe=>j2 (.inr e.symm))⟩
        have g5:=t45.trans (zw.set (M:=λb=>b=cb\/(Value.slice la n lc).ownBlock=some b) w5 (.inl rfl) 0 (.slice (some ⟨A,0,none⟩) (n+1) cap))
        have tM:zw (yY M (.slice (some ⟨A,0,none⟩) (n+1) cap)) w4 _:=g5.wide (λk _ e => .inl (by
         rcases e with e|e
         ·rw[e];exact c5.out.mine
         ·exact (T.out k e).1))
        have hlen:(ks++[(⟨l,name,R⟩:zx)]).length=n+1:=by rw[qA,S.out];rfl
        refine⟨A,cap,(zw.of P.out).trans g5,λb hb=>(Z b hb).imp id (λe=>by omega),⟨.inl c5.out.mine,yz w5 cb 0 _ _ _ f2,⟨_,by rw[hlen];exact xE d1 (a:=⟨cb,0,none⟩) (by simp only[Value.ownBlock];intro e;injection e with e;exact a6 e) _,(i0.out.more Z).turn tM⟩,λb hb=>?_⟩,X.imp id (λe=>by omega)⟩
        have e2:A=b:=by simpa [Value.ownBlock] using hb
        subst e2;exact⟨.inr hb,a6⟩
     case rest=>
      obtain⟨A,cap,g3,f5,f8,f7⟩:=hcut;have h6:=hid f7;have h8:=hid g3;have h5:=hid f5;have h7:=hid f8;clear g3 f5 f8 f7;go_wp2_with fail;go_ret2
      exact⟨0,0,_,_,rfl,h8.out,h5.out,h7.out,(λg hg=>by
       have e2:A=g:=by simpa [Value.ownBlock] using hg
       subst e2;exact h6.out),(λe=>absurd hpl e),(λ_ e=>absurd c2.out e),(λ_ _ k hk=>by rw[HF.out] at hk;cases hk),λ_ _ _=>⟨out,e0.out,.inr ⟨by rw[e4.out];omega,rfl,rfl,by rw[HR.out]⟩⟩⟩
  ·have a4:=hd;obtain⟨⟨c,q⟩,C⟩:∃x,Rd.xe text=x:=⟨_,rfl⟩;have g9:=hid C;rw[C] at cd a4;unfold U7 at cd;simp only at cd a4;have CD:=hid cd;have d:(c==0)=false:=by simpa using a4
   have d2:(c != 0)=true:=by simpa using a4
   clear cn cd C h hM hN;go_enter func36,ntmps36
   go_wp2_with (first
    | (go_at_call 78;refine CD.out.mono ?_;rintro e w1 ⟨dv,rfl,b1,_⟩;have o:=hid b1;clear b1)
    | (go_at_call 77;refine CN.out.mono ?_;rintro e w1 ⟨rfl,V⟩;rw[V];clear V))
   go_ret2;exact⟨c,q,lv,ks,rfl,zw.of o.out,u.out.sameM,(u.out.below o.out).same,(λg hg => .inl hg),(λe=>absurd hpl e),(λ_ _=>by rw[g9.out];exact⟨rfl,rfl,rfl⟩),(λ_ e=>absurd e hd),λ_ e=>absurd e hd⟩
 ·obtain⟨E,hE⟩:∃x,qw l name=x:=⟨_,rfl⟩;have HE:=hid hE;rw[hE] at cn;have a0:=hpl;rw[hE] at a0;have CN:=hid cn;have d:(E==0)=false:=by simpa using a0
  have d2:(E != 0)=true:=by simpa using a0
  clear cn cd hE h hM hN;go_enter func36,ntmps36
  go_wp2_with (go_at_call 77;refine CN.out.mono ?_;rintro e w1 ⟨rfl,V⟩;rw[V];clear V)
  go_ret2;exact⟨E,0,lv,ks,rfl,zw.refl _ _,u.out.sameM,u.out.same,(λg hg => .inl hg),(λ_=>⟨HE.out.symm,rfl,rfl⟩),(λe=>absurd e hpl),(λe=>absurd e hpl),λe=>absurd e hpl⟩
theorem ne_of_lt{a b:BY}(h:ql a b<0):a≠b:=λe=>by rw[e,Xl] at h;omega
theorem NL{L:List zK}(h:jb L){k:Nat}{y:zK}(b:L[k]?=some y):qz L y.1=k:=by
 have d:k<L.length:=(zR.1 b).1;refine dX (ltN y.1) L k (XP d) (λj x c a=>?_) (λj x c a=>?_)
 ·unfold ltN;rw[Zj];exact h.at c a b
 ·unfold ltN;rw[af]
  by_cases e:j=k
  ·subst e;rw[b] at a;injection a with a
   rw[<- a,Xl];omega
  ·have:=h.at (show k<j by omega) b a
   rw[K7] at this;omega
theorem aJ{L:List zK}(h:jb L){y:zK}(c:y ∈ L):zq L y.1=true/\L[qz L y.1]?=some y:=by
 obtain⟨k,a⟩:=ZA c;have b:=NL h a;unfold zq;rw[b,a];exact⟨by simp[Xl],rfl⟩
theorem nM{L:List zK}{name:BY}(h:zq L name=true):∃e,(name,e) ∈ L/\L[qz L name]?=some (name,e):=by
 unfold zq at h
 split at h
 ·rename_i x c;have d:x.1=name:=K8 (by simpa using h);obtain⟨a,b⟩:=x;simp only at d;subst d;exact⟨b,qL c,c⟩
 ·cases h
theorem PG{L:List zK}{p:Nat}{x:zK}(h:L[p]?=some x):L=L.take p++x::L.drop (p+1):=by
 obtain⟨a,rfl⟩:=zR.1 h;rw[<- vw a,VH]
theorem nN{L:List zK}(h:jb L){name:BY}{y:zK}:(y ∈ L.take (qz L name)++L.drop (if zq L name then qz L name+1 else qz L name))↔y ∈ L/\y.1≠name:=by
 cases hh:zq L name with
 | true=>
  obtain⟨g,f,b⟩:=nM hh;have d:=PG b;rw[zb rfl]
  constructor
  ·intro a
   rcases jy.1 a with a|a
   ·exact⟨VE a,ne_of_lt (KD a)⟩
   ·exact⟨VD a,ja (ne_of_lt (KL h (by rw[hh,zb rfl];exact a)))⟩
  ·rintro ⟨a,c⟩;rw[d] at a
   rcases jy.1 a with a|a
   ·exact VC _ a
   ·rcases Qc.1 a with rfl|a
    ·exact absurd rfl c
    ·exact fF _ a
 | false=>
  simp only[vo,jN];rw[VH];refine⟨λa=>⟨a,λe=>?_⟩,λa=>a.1⟩
  have:=(aJ h a).1
  rw[e,hh] at this
  cases this
theorem nP{L:List zK}(h:jb L){name:BY}{b:List qp}{y:zK}:y ∈ uh L name b↔y=(name,b)\/(y ∈ L/\y.1≠name):=by
 rw[<- nN h];unfold uh;simp only[jy,xL]
 constructor
 ·rintro ((a|a)|a)
  ·exact .inr (.inl a)
  ·exact .inl a
  ·exact .inr (.inr a)
 ·rintro (a|a|a)
  ·exact .inl (.inr a)
  ·exact .inl (.inl a)
  ·exact .inr a
theorem LK{L:List zK}(h:jb L){name:BY}(a:zq L name=true){y:zK}:y ∈ kQ L (qz L name)↔y ∈ L/\y.1≠name:=by
 rw[<- nN h,a,zb rfl]
 rfl
theorem si:∀(A B:List zK),jb A->jb B->(∀y,y ∈ A↔y ∈ B)->A=B
 | [],[],_,_,_=>rfl
 | [],b::B,_,_,h=>by have:=(h b).2 (by simp);simp at this
 | a::A,[],_,_,h=>by have:=(h a).1 (by simp);simp at this
 | a::A,b::B,hA,hB,h=>by
  have c:=fH.1 hA;have d:=fH.1 hB
  have e:a=b:=by
   have g:=(h a).1 (by simp);have i:=(h b).2 (by simp)
   rcases Qc.1 g with e|g
   ·exact e
   ·rcases Qc.1 i with e|i
    ·exact e.symm
    ·have p:=c.1 b i;have q:=d.1 a g
     have:=JJ p q
     rw[Xl] at this;omega
  subst e
  have k:=si A B c.2 d.2 (λy=>by
   have j:=h y
   constructor
   ·intro f
    rcases Qc.1 (j.1 (by simp[f])) with e|e
    ·subst e
     have:=c.1 _ f
     rw[Xl] at this;omega
    ·exact e
   ·intro f
    rcases Qc.1 (j.2 (by simp[f])) with e|e
    ·subst e
     have:=d.1 _ f
     rw[Xl] at this;omega
    ·exact e)
  rw[k]
def Qm(x:zx):zK:=(x.name,x.rs.map vk)
structure Agree (st:StO) (ks:List zx):Prop where
 sorted:∀i,i<4->jb (st i)
 mem:∀i,i<4->∀y,y ∈ st i↔∃x ∈ ks,x.layer=(i:Int)/\y=Qm x
 keys:ks.Pairwise λx y=>¬(x.layer=y.layer/\x.name=y.name)
 lay:∀x ∈ ks,∃i:Nat,i<4/\x.layer=(i:Int)
 ok:∀x ∈ ks,Ref.qh x.name=true/\x.rs.length<=10/\(∀r ∈ x.rs,Ref.ky r)/\QO (x.rs.map vk)=Ref.QV x.rs
theorem Agree.start:Agree ZK []:=
 ⟨λ_ _=>Kb,λi _ y=>by simp[ZK],Kb,λx a=>by simp at a,λx a=>by simp at a⟩
theorem mO{l:Int}{name:BY}{x:zx}:isR l name x=true↔x.layer=l/\x.name=name:=by
 unfold isR;rw[Jh,kH,kH]
 constructor
 ·rintro ⟨b,a⟩;refine⟨b,?_⟩;rw[Xc,Xc] at a;exact Z4 (Xb.1 a)
 ·rintro ⟨b,a⟩;exact⟨b,by rw[a]⟩
theorem JQ{ks:List zx}{l:Int}{name:BY}{k:Nat}(h:ks.findIdx? (isR l name)=some k):∃x,ks[k]?=some x/\x.layer=l/\x.name=name:=by
 obtain⟨a,b,_⟩:=Kj.1 h;exact⟨_,zn a,mO.1 b⟩
theorem lU{ks:List zx}{l:Int}{name:BY}(h:ks.findIdx? (isR l name)=none):∀x ∈ ks,¬(x.layer=l/\x.name=name):=by
 intro x a e
 have:=List.findIdx?_eq_none_iff.1 h x a
 rw[mO.2 e] at this
 cases this
theorem Agree.has{st:StO}{ks:List zx}(h:Agree st ks){i:Nat}(hi:i<4){name:BY}:zq (st i) name=true↔∃k,ks.findIdx? (isR (i:Int) name)=some k:=by
 constructor
 ·intro f;obtain⟨j,b,_⟩:=nM f;obtain⟨x,d,a,e⟩:=(h.mem i hi _).1 b
  cases hf:ks.findIdx? (isR (i:Int) name) with
  | some k=>exact⟨k,rfl⟩
  | none=>
   have c:x.name=name:=by
    have:=congrArg Prod.fst e
    exact this.symm
   exact absurd ⟨a,c⟩ (lU hf x d)
 ·rintro ⟨k,g⟩;obtain⟨x,d,a,c⟩:=JQ g;have b:Qm x ∈ st i:=(h.mem i hi _).2 ⟨x,qL d,a,rfl⟩
  have:=(aJ (h.sorted i hi) b).1
  rw[show (Qm x).1=x.name from rfl,c] at this
  exact this
theorem Agree.shown{st:StO}{ks:List zx}(h:Agree st ks){i:Nat}(hi:i<4){name:BY}{k:Nat}{x:zx}(d:ks.findIdx? (isR (i:Int) name)=some k)(c:ks[k]?=some x):QO (X5 st (i:Int) name)=Ref.QV x.rs:=by
 obtain⟨j,a,e,g⟩:=JQ d;rw[c] at a;injection a with a
 subst a;have f:Qm x ∈ st i:=(h.mem i hi _).2 ⟨x,qL c,e,rfl⟩;have b:=(aJ (h.sorted i hi) f).2;rw[show (Qm x).1=x.name from rfl,g] at b
 have:X5 st (i:Int) name=x.rs.map vk:=by
  unfold X5;simp only[xQ];rw[b]
  rfl
 rw[this];exact (h.ok x (qL c)).2.2.2
theorem JX{ks:List zx}(h:ks.Pairwise λx y=>¬(x.layer=y.layer/\x.name=y.name)){a b:Nat}{x y:zx}(g:ks[a]?=some x)(i:ks[b]?=some y)(d:x.layer=y.layer)(f:x.name=y.name):a=b:=by
 obtain⟨c,rfl⟩:=zR.1 g;obtain⟨hb,rfl⟩:=zR.1 i
 rcases Nat.lt_trichotomy a b with e|e|e
 ·exact absurd ⟨d,f⟩ (VF.1 h a b c hb e)
 ·exact e
 ·exact absurd ⟨d.symm,f.symm⟩ (VF.1 h b a hb c e)
theorem Agree.layer{st:StO}{ks:List zx}(h:Agree st ks){i:Nat}(hi:i<4){out:List zx}(t:Yv ks (i:Int) out):st i=out.map Qm:=by
 obtain⟨w,q,o,r,rfl⟩:=t
 have d:∀p ∈ w,∃x,ks[p]?=some x/\x.layer=(i:Int):=by
  intro p j;obtain⟨k,l⟩:=(o p).1 j;refine⟨_,zn k,?_⟩;rw[bn (zn k)] at l
  simpa using l
 refine si _ _ (h.sorted i hi) ?_ (λy=>?_)
 ·show List.Pairwise _ _;unfold Zt;rw[List.pairwise_map,List.pairwise_filterMap];refine List.Pairwise.imp_of_mem (λ{a b} s hb m=>?_) (q.and r);intro x g y l;obtain⟨n,hle⟩:=m;rw[Ur g,Ur l] at hle;have A:=iB y.name x.name;show ql x.name y.name<0;rw[K7]
  have B:ql y.name x.name≠0:=λe=>by
   obtain⟨z,c,u⟩:=d a s;obtain⟨C,f,v⟩:=d b hb;rw[g] at c;injection c with c;subst c
   rw[l] at f;injection f with f;subst f
   exact n (JX h.keys g l (u.trans v.symm) (K8 e).symm)
  omega
 ·rw[h.mem i hi];unfold Zt;simp only[xR,List.mem_filterMap]
  constructor
  ·rintro ⟨x,g,k,rfl⟩;obtain⟨p,j⟩:=ZA g;refine⟨x,⟨p,(o p).2 ⟨(zR.1 j).1,by rw[bn j];simpa using k⟩,j⟩,rfl⟩
  ·rintro ⟨x,⟨p,j,g⟩,rfl⟩;obtain⟨z,c,k⟩:=d p j;rw[g] at c;injection c with c;subst c
   exact⟨x,qL g,k,rfl⟩
theorem Yd{ks:List zx}{k:Nat}(c:k<ks.length){d x:zx}:x ∈ ks.set k d↔x=d\/∃j,j≠k/\ks[j]?=some x:=by
 constructor
 ·intro f;obtain⟨j,a⟩:=ZA f;rw[zt] at a
  by_cases e:k=j
  ·rw[zb e,zb c] at a;injection a with a
   exact .inl a.symm
  ·rw[za e] at a;exact .inr ⟨j,λx=>e x.symm,a⟩
 ·rintro (rfl|⟨j,b,a⟩)
  ·exact qL (i:=k) (by rw[zt,zb rfl,zb c])
  ·exact qL (i:=j) (by rw[zt,za (λe=>b e.symm)];exact a)
theorem mem_erase_iff{ks:List zx}{k:Nat}{x:zx}:x ∈ ks.take k++ks.drop (k+1)↔∃j,j≠k/\ks[j]?=some x:=by
 rw[<- fu];rw[List.mem_eraseIdx_iff_getElem?]
theorem nX(text:BY)(c:(Rd.xe text).1=0):(jH text).length<=10/\(∀r ∈ jH text,Ref.ky r)/\QO ((jH text).map vk)=Ref.QV (jH text)/\uz text=(jH text).map vk:=by
 obtain⟨b,d,e⟩:=sJ text c;exact⟨d,λr a=>(b r a).2,(NF _ (λr a=>(b r a).1)).symm,e⟩
theorem Agree.set{st:StO}{ks:List zx}(h:Agree st ks){i:Nat}(hi:i<4){name text:BY}(A:Ref.qh name=true)(w:(Rd.xe text).1=0){k:Nat}(z:ks.findIdx? (isR (i:Int) name)=some k):Agree (upd st i (uh (st i) name (uz text))) (ks.set k ⟨i,name,jH text⟩):=by
 obtain⟨C,D,E,v⟩:=nX text w;obtain⟨F,f,m,n⟩:=JQ z;have c:k<ks.length:=(zR.1 f).1;refine⟨λj o=>?_,λj o y=>?_,?_,λx g=>?_,λx g=>?_⟩
 ·unfold upd
  split
  ·exact (h.sorted i hi).with name _
  ·exact h.sorted j o
 ·unfold upd
  by_cases e:j=i
  ·subst e;rw[zb rfl,nP (h.sorted j o)]
   constructor
   ·rintro (rfl|⟨B,u⟩)
    ·exact⟨_,(Yd c).2 (.inl rfl),rfl,by unfold Qm;rw[v]⟩
    ·obtain⟨x,g,l,rfl⟩:=(h.mem j o _).1 B;obtain⟨p,d⟩:=ZA g;refine⟨x,(Yd c).2 (.inr ⟨p,λe=>?_,d⟩),l,rfl⟩;subst e;rw[f] at d;injection d with d
     subst d;exact u n
   ·rintro ⟨x,g,l,rfl⟩
    rcases (Yd c).1 g with rfl|⟨p,d,hpx⟩
    ·exact .inl (by unfold Qm;rw[v])
    ·refine .inr ⟨(h.mem j o _).2 ⟨x,qL hpx,l,rfl⟩,λe=>d ?_⟩;exact JX h.keys hpx f (l.trans m.symm) (e.trans n.symm)
  ·rw[za e,h.mem j o]
   constructor
   ·rintro ⟨x,g,l,rfl⟩;obtain⟨p,d⟩:=ZA g;refine⟨x,(Yd c).2 (.inr ⟨p,λq=>?_,d⟩),l,rfl⟩;subst q;rw[f] at d;injection d with d
    subst d;rw[m] at l;omega
   ·rintro ⟨x,g,l,rfl⟩
    rcases (Yd c).1 g with rfl|⟨p,d,hpx⟩
    ·simp only at l;omega
    ·exact⟨x,qL hpx,l,rfl⟩
 ·rw[VF];intro a b s hb t;rw[uD] at s hb;rw[List.getElem_set,List.getElem_set]
  by_cases ea:k=a
  ·subst ea;rw[zb rfl,za (by omega)];rintro ⟨r,q⟩
   have:=JX h.keys f (zn hb) (m.trans r) (n.trans q)
   omega
  ·rw[za ea]
   by_cases eb:k=b
   ·subst eb;rw[zb rfl];rintro ⟨r,q⟩
    have:=JX h.keys (zn s) f (r.trans m.symm) (q.trans n.symm)
    omega
   ·rw[za eb];exact VF.1 h.keys a b s hb t
 ·rcases (Yd c).1 g with rfl|⟨p,_,hpx⟩
  ·exact⟨i,hi,rfl⟩
  ·exact h.lay x (qL hpx)
 ·rcases (Yd c).1 g with rfl|⟨p,_,hpx⟩
  ·exact⟨A,C,D,E⟩
  ·exact h.ok x (qL hpx)
theorem Agree.add{st:StO}{ks:List zx}(h:Agree st ks){i:Nat}(hi:i<4){name text:BY}(m:Ref.qh name=true)(k:(Rd.xe text).1=0)(l:ks.findIdx? (isR (i:Int) name)=none):Agree (upd st i (uh (st i) name (uz text))) (ks++[⟨i,name,jH text⟩]):=by
 obtain⟨o,p,q,g⟩:=nX text k;have d:=lU l;refine⟨λj c=>?_,λj c y=>?_,?_,λx a=>?_,λx a=>?_⟩
 ·unfold upd
  split
  ·exact (h.sorted i hi).with name _
  ·exact h.sorted j c
 ·unfold upd
  by_cases e:j=i
  ·subst e;rw[zb rfl,nP (h.sorted j c)]
   constructor
   ·rintro (rfl|⟨f,n⟩)
    ·exact⟨⟨(j:Int),name,jH text⟩,fF _ (by simp),rfl,by unfold Qm;rw[g]⟩
    ·obtain⟨x,a,b,rfl⟩:=(h.mem j c _).1 f;exact⟨x,VC _ a,b,rfl⟩
   ·rintro ⟨x,a,b,rfl⟩
    rcases jy.1 a with a|a
    ·exact .inr ⟨(h.mem j c _).2 ⟨x,a,b,rfl⟩,λe=>d x a ⟨b,e⟩⟩
    ·rw[xL] at a;subst a;exact .inl (by unfold Qm;rw[g])
  ·rw[za e,h.mem j c]
   constructor
   ·rintro ⟨x,a,b,rfl⟩;exact⟨x,VC _ a,b,rfl⟩
   ·rintro ⟨x,a,b,rfl⟩
    rcases jy.1 a with a|a
    ·exact⟨x,a,b,rfl⟩
    ·rw[xL] at a;subst a;simp only at b;omega
 ·rw[fG];refine⟨h.keys,by simp,λx a y f=>?_⟩;rw[xL] at f;subst f;exact d x a
 ·rcases jy.1 a with a|a
  ·exact h.lay x a
  ·rw[xL] at a;subst a;exact⟨i,hi,rfl⟩
 ·rcases jy.1 a with a|a
  ·exact h.ok x a
  ·rw[xL] at a;subst a;exact⟨m,o,p,q⟩
theorem Agree.less{st:StO}{ks:List zx}(h:Agree st ks){i:Nat}(hi:i<4){name:BY}{k:Nat}(o:ks.findIdx? (isR (i:Int) name)=some k):Agree (upd st i (kQ (st i) (qz (st i) name))) (ks.take k++ks.drop (k+1)):=by
 obtain⟨t,f,l,m⟩:=JQ o;have r:zq (st i) name=true:=(h.has hi).2 ⟨k,o⟩;refine⟨λj g=>?_,λj g y=>?_,?_,λx c=>?_,λx c=>?_⟩
 ·unfold upd
  split
  ·exact (h.sorted i hi).less _
  ·exact h.sorted j g
 ·unfold upd
  by_cases e:j=i
  ·subst e;rw[zb rfl,LK (h.sorted j g) r]
   constructor
   ·rintro ⟨s,n⟩;obtain⟨x,c,d,rfl⟩:=(h.mem j g _).1 s;obtain⟨p,b⟩:=ZA c;refine⟨x,mem_erase_iff.2 ⟨p,λe=>?_,b⟩,d,rfl⟩;subst e;rw[f] at b;injection b with b
    subst b;exact n m
   ·rintro ⟨x,c,d,rfl⟩;obtain⟨p,b,a⟩:=mem_erase_iff.1 c;exact⟨(h.mem j g _).2 ⟨x,qL a,d,rfl⟩,λe=>b (JX h.keys a f (d.trans l.symm) (e.trans m.symm))⟩
  ·rw[za e,h.mem j g]
   constructor
   ·rintro ⟨x,c,d,rfl⟩;obtain⟨p,b⟩:=ZA c;refine⟨x,mem_erase_iff.2 ⟨p,λq=>?_,b⟩,d,rfl⟩;subst q;rw[f] at b;injection b with b
    subst b;rw[l] at d;omega
   ·rintro ⟨x,c,d,rfl⟩;obtain⟨p,b,a⟩:=mem_erase_iff.1 c;exact⟨x,qL a,d,rfl⟩
 ·rw[<- fu];exact h.keys.sublist (List.eraseIdx_sublist _ _)
 ·obtain⟨p,_,a⟩:=mem_erase_iff.1 c;exact h.lay x (qL a)
 ·obtain⟨p,_,a⟩:=mem_erase_iff.1 c;exact h.ok x (qL a)
theorem Agree.few{st:StO}{ks:List zx}(h:Agree st ks)(c:∀i,i<4->(st i).length<=4):ks.length<=16:=by
 have d:(ks.map λx=>(x.layer,x.name)).Nodup:=by
  rw[List.nodup_iff_pairwise_ne,List.pairwise_map];refine h.keys.imp (λf e=>f ?_);injection e with e1 e2
  exact⟨e1,e2⟩
 have b:(ks.map λx=>(x.layer,x.name)) ⊆ ((st 0).map λy=>((0:Int),y.1))++((st 1).map λy=>((1:Int),y.1))++((st 2).map λy=>((2:Int),y.1))++((st 3).map λy=>((3:Int),y.1)):=by
  intro z l;obtain⟨x,j,rfl⟩:=xR.1 l;obtain⟨i,hi,g⟩:=h.lay x j;have k:=(h.mem i hi _).2 ⟨x,j,g,rfl⟩;have a:(x.layer,x.name) ∈ (st i).map λy=>((i:Int),y.1):=xR.2 ⟨_,k,by rw[g];rfl⟩;simp only[jy]
  rcases lt4 hi with rfl|rfl|rfl|rfl
  ·exact .inl (.inl (.inl a))
  ·exact .inl (.inl (.inr a))
  ·exact .inl (.inr a)
  ·exact .inr a
 have:=d.length_le_of_subset b
 simp only[qB,qA] at this;have m:=c 0 (by omega);have n:=c 1 (by omega);have o:=c 2 (by omega);have p:=c 3 (by omega);omega
end Go.Proofs.YtagnlbgbnfnapaaGreatDoor
