/- P -/
import Derived.Test.YtagnlbgbnfnapaaGreatDoorK29
open Go.Proofs.Tryz
set_option maxRecDepth 100000
set_option maxHeartbeats 4000000
namespace Go.Proofs.YtagnlbgbnfnapaaGreatDoor
open Go.RowKit
structure zw (M:Nat->Prop) (w w':World):Prop where
 os:w'.os=w.os
 tape:w'.tape=w.tape
 output:w'.output=w.output
 size:w.heap.size<=w'.heap.size
 block:∀k,k<w.heap.size->¬M k->w'.heap[k]?=w.heap[k]?
theorem zw.refl(M:Nat->Prop)(w:World):zw M w w:=⟨rfl,rfl,rfl,ze _,λ_ _ _=>rfl⟩
theorem zw.of{M:Nat->Prop}{w w':World}(h:Below w.heap.size w w'):zw M w w':=⟨h.os,h.tape,h.output,h.size,λk a _=>h.block k a⟩
theorem zw.trans{M:Nat->Prop}{a b c:World}(h:zw M a b)(k:zw M b c):zw M a c:=
 ⟨k.os.trans h.os,k.tape.trans h.tape,k.output.trans h.output,qZ h.size k.size,λx e d=>(k.block x (xM e h.size) d).trans (h.block x e d)⟩
theorem zw.wide{M M':Nat->Prop}{a b:World}(h:zw M a b)(e:∀k,k<a.heap.size->M k->M' k):zw M' a b:=
 ⟨h.os,h.tape,h.output,h.size,λk d f=>h.block k d (λc=>f (e k d c))⟩
theorem zw.below{M:Nat->Prop}{B:Nat}{a b:World}(h:zw M a b)(e:∀k,k<B->¬M k)(d:B<=a.heap.size):Below B a b:=
 ⟨h.os,h.tape,h.output,h.size,λk c=>h.block k (xM c d) (e k c)⟩
theorem zw.set{M:Nat->Prop}(w:World){b:Nat}(hb:M b)(o:Nat)(u:Value):zw M w (w.setCell ⟨b,o,none⟩ u):=by
 exact⟨rfl,rfl,rfl,by simp[World.setCell],λk _ a=>qc _ _ _ _ (λe=>a (by simp only at e;rw[e];exact hb))⟩
theorem zw.cell{M:Nat->Prop}{a b:World}(h:zw M a b){x:Addr}{v:Value}(e:¬M x.block)(c:a.cell? x=some v):b.cell? x=some v:=by
 have d:x.block<a.heap.size:=XX _ _ c
 have:=h.block x.block d e
 unfold World.cell? at c |-;rw[this];exact c
def Same(base:Nat)(w w':World):Prop:=∀b,base<=b->b<w.heap.size->w'.heap[b]?=w.heap[b]?
theorem bP{w w':World}{base:Nat}{e:TypeId}{size:Nat}{v:Value}{n:Nat}{xs:List Value}(h:w.ownsRow base e size v n xs)(hb:Same base w w'):w'.ownsRow base e size v n xs:=by
 obtain⟨b,a⟩:=h;refine⟨b,?_⟩
 rcases a with a|⟨g,cap,cur,hv,hg,hh,h3⟩
 ·exact .inl a
 ·exact .inr ⟨g,cap,cur,hv,hg,by rw[hb g hg (zy hh)];exact hh,h3⟩
theorem zz.same{w w':World}{base:Nat}{lv:Value}{a:List BY}(h:zz w base lv a)(hb:Same base w w'):zz w' base lv a:=bP h hb
theorem qR.same{w w':World}{base:Nat}{lv:Value}{cs:List xG}(h:qR w base lv cs)(hb:Same base w w'):qR w' base lv cs:=by
 obtain⟨xs,f,g⟩:=h;refine⟨xs,bP f hb,λj i=>?_⟩;obtain⟨k,a,b,c,d,e⟩:=g j i;exact⟨k,a,b,c,d,e.same hb⟩
theorem jc.same{w w':World}{base:Nat}{lv:Value}{c:List qp}(h:jc w base lv c)(hb:Same base w w'):jc w' base lv c:=by
 obtain⟨xs,a,b⟩:=h;refine⟨xs,bP a hb,λj p=>?_⟩;obtain⟨q,r,s,t,i,a,b,k,l,m,n,o,d,e,f,g⟩:=b j p;exact⟨q,r,s,t,i,a,b,k,l,m,n,o,d.same hb,e.same hb,f.same hb,g.same hb⟩
def yM(M:Nat->Prop)(W:World)(c:Value)(d:List qp):Prop:=
 ∃base a,jc a base c d/\a.heap.size<=W.heap.size/\∀b,base<=b->b<a.heap.size->¬M b/\W.heap[b]?=a.heap[b]?
theorem yM.at{M:Nat->Prop}{W:World}{a:Value}{c:List qp}(h:yM M W a c):∃base,jc W base a c:=by
 obtain⟨base,g,d,_,e⟩:=h;exact⟨base,d.same (λb hb f=>(e b hb f).2)⟩
theorem yM.turn{M:Nat->Prop}{W W':World}{d:Value}{f:List qp}(h:yM M W d f)(k:zw M W W'):yM M W' d f:=by
 obtain⟨base,g,i,e,c⟩:=h;exact⟨base,g,i,qZ e k.size,λb hb a=>⟨(c b hb a).1,(k.block b (xM a e) (c b hb a).1).trans (c b hb a).2⟩⟩
theorem yM.of{M:Nat->Prop}{W:World}{a:Value}{c:List qp}{base:Nat}(h:jc W base a c)(d:∀b,M b->b<base):yM M W a c:=
 ⟨base,W,h,ze _,λb hb _=>⟨λe=>absurd (d b e) (by omega),rfl⟩⟩
theorem yM.more{M M':Nat->Prop}{W:World}{a:Value}{e:List qp}(h:yM M W a e)(j:∀b,M' b->M b\/W.heap.size<=b):yM M' W a e:=by
 obtain⟨base,f,g,i,c⟩:=h;refine⟨base,f,g,i,λb hb d=>⟨λk=>?_,(c b hb d).2⟩⟩
 rcases j b k with h|h
 ·exact (c b hb d).1 h
 ·omega
abbrev zK:=BY×List qp
def xI(M:Nat->Prop)(W:World)(lv:Value)(L:List zK):Prop:=
 ∃a c,lv = .slice a L.length c/\L.length<=c/\c<=maxLen/\(a=none->c=0)/\∀(k:Nat) (x:zK),L[k]?=some x->∃b o d,a=some ⟨b,o,none⟩/\¬M b/\W.cell? ⟨b,o+k*2,none⟩=some (.string x.1)/\W.cell? ⟨b,o+k*2+1,none⟩=some d/\yM M W d x.2
theorem xI.turn{M:Nat->Prop}{W W':World}{lv:Value}{L:List zK}(h:xI M W lv L)(k:zw M W W'):xI M W' lv L:=by
 obtain⟨a,c,rfl,l,m,p,n⟩:=h;refine⟨a,c,rfl,l,m,p,λj x q=>?_⟩;obtain⟨i,o,g,e,b,f,c1,d⟩:=n j x q;exact⟨i,o,g,e,b,k.cell b f,k.cell b c1,d.turn k⟩
theorem xI.more{M M':Nat->Prop}{W:World}{lv:Value}{L:List zK}(h:xI M W lv L)(k:∀b,M' b->M b\/W.heap.size<=b):xI M' W lv L:=by
 obtain⟨a,c,rfl,m,n,q,p⟩:=h;refine⟨a,c,rfl,m,n,q,λj x s=>?_⟩;obtain⟨f,o,l,e,r,i,c1,d⟩:=p j x s;refine⟨f,o,l,e,λg=>?_,i,c1,d.more k⟩;have t:f<W.heap.size:=XX _ _ i
 rcases k f g with h|h
 ·exact r h
 ·omega
theorem nu(M:Nat->Prop)(W:World):xI M W (.slice none 0 0) []:=⟨none,0,rfl,ze _,by unfold maxLen;omega,λ_=>rfl,λk x a=>by simp at a⟩
def ql(a b:BY):Int:=Lib.compareBytes a.data.toList b.data.toList
def ltN(name:BY)(x:zK):Bool:=decide (ql x.1 name<0)
def qz(L:List zK)(name:BY):Nat:=(L.takeWhile (ltN name)).length
def zq(L:List zK)(name:BY):Bool:=match L[qz L name]? with
 | some x=>ql x.1 name==0
 | none=>false
def Down(L:List zK)(name:BY):Prop:=∀(a b:Nat) (x y:zK),a<b->L[a]?=some x->L[b]?=some y->ltN name y=true->ltN name x=true
theorem dX{α:Type}(p:α->Bool):∀(l:List α) (i:Nat),i<=l.length->(∀(k:Nat) (x:α),k<i->l[k]?=some x->p x=true)->(∀(k:Nat) (x:α),i<=k->l[k]?=some x->p x=false)->(l.takeWhile p).length=i
 | [],i,h,_,_=>by simp at h;simp[h]
 | a::l,0,_,_,h2=>by
  have:=h2 0 a (ze _) rfl
  rw[fI,this]
  rfl
 | a::l,i+1,h,h1,h2=>by
  have c:=h1 0 a (Nat.succ_pos _) rfl
  have:=dX p l i (by simpa using h) (λk x d b=>h1 (k+1) x (by omega) (by simpa using b)) (λk x d b=>h2 (k+1) x (by omega) (by simpa using b))
  rw[fI,c];simp[this]
theorem pQ(L:List zK)(name:BY):qz L name<=L.length:=by
 unfold qz;exact (List.takeWhile_prefix _).length_le
theorem iB(a b:BY):ql a b = -1\/ql a b=0\/ql a b=1:=by
 unfold ql;generalize a.data.toList=x;generalize b.data.toList=y
 induction x generalizing y with
 | nil=>cases y<;>simp[Lib.compareBytes]
 | cons p x c=>
  cases y with
  | nil=>simp[Lib.compareBytes]
  | cons q y=>
   unfold Lib.compareBytes
   split
   ·exact .inl rfl
   split
   ·exact .inr (.inr rfl)
   ·exact c y
theorem iC(nm name:BY)(a:Option Addr)(n c:Nat)(w:World) :
  Calls prog 109 #[.agg #[.string nm,.slice a n c],.string name] w λe w'=>e = .returned (.int .i64 (ql nm name))/\Below w.heap.size w w':=by
 have b:=λW=>Any.strings_Compare Tryz.lays106 nm name W;have f:Hid (∀W,Calls prog 110 #[.string nm,.string name] W λe w'=>e = .returned (.int .i64 (ql nm name))/\w'=W):=hid b;clear b;go_enter func109,ntmps109
 go_wp2_with (go_at_call 110;refine (f.out _).mono ?_;rintro e w1 ⟨rfl,d⟩;rw[d];clear d)
 go_ret;exact⟨rfl,nbl w _⟩
theorem ET:∀args w,(callFunc 109 args).run prog w = .ok (.enter 109 args) w:=xg func109 (by kernel_rfl) rfl
theorem xI.cells{M:Nat->Prop}{W:World}{a:Option Addr}{n c:Nat}{L:List zK}(h:xI M W (.slice a n c) L):n=L.length/\n<=c/\c<=maxLen/\∀(k:Nat) (x:zK),L[k]?=some x->∃l o f j i,a=some ⟨l,o,none⟩/\¬M l/\W.cell? ⟨l,o+k*2,none⟩=some (.string x.1)/\W.cell? ⟨l,o+k*2+1,none⟩=some (.slice f j i)/\yM M W (.slice f j i) x.2:=by
 obtain⟨D,E,e,y,z,_,p⟩:=h;injection e with e1 e2 e3
 subst e1 e2 e3;refine⟨rfl,y,z,λk x q=>?_⟩;obtain⟨l,o,u,e,A,r,c1,d⟩:=p k x q;obtain⟨base,C,⟨xs,B,_⟩,_⟩:=d
 have:∃f j i,u = .slice f j i:=by
  rcases B.2 with ⟨e,_⟩|⟨g,cap,cur,e,_⟩
  ·exact⟨_,_,_,e⟩
  ·exact⟨_,_,_,e⟩
 obtain⟨f,j,i,rfl⟩:=this
 exact⟨l,o,f,j,i,e,A,r,c1,(p k x q).elim (λw ⟨F,v,m,_,s,b,t⟩=>by
  rw[e] at m;injection m with m
  injection m with g1 g2
  subst g1 g2;rw[c1] at b;injection b with b
  rw[b];exact t)⟩
theorem OJ(L:List zK)(lv:Value)(name:BY)(M:Nat->Prop)(w:World)(h:xI M w lv L)(hn:L.length<=1000000)(hd:Down L name) :
  Calls prog 108 #[lv,.string name,.func (.func 109) #[] #[]] w λe w'=>e = .returned (.tuple #[.int .i64 (qz L name:Int),.bool (zq L name)])/\Below w.heap.size w w':=by
 obtain⟨a,c,rfl,X,h2⟩:∃a c,lv = .slice a L.length c/\L.length<=c/\c<=maxLen:=by obtain⟨a,c,e,X,h2,_⟩:=h;exact⟨a,c,e,X,h2⟩
 have hc:=h.cells.2.2.2;obtain⟨n,A⟩:=Nm L.length;have t:∀i,i<=n->(∀(k:Nat) (x:zK),k<i->L[k]?=some x->ltN name x=true)->(∀(k:Nat) (x:zK),i<=k->L[k]?=some x->ltN name x=false)->qz L name=i:=λi hi P Q=>dX (ltN name) L i (by omega) P Q;rw[A] at X hn |-;have K:=hid t;have C:=hid hc;have N:=hid A;have J:=hid hd;have eg:=ET;clear hc A h hd t;go_enter func108,ntmps108
 go_wp2
 go_loopw [9,10] (λiv jv wr=>∃i j:Nat,i<=j/\j<=n/\iv = .int .i64 i/\jv = .int .i64 j/\(∀(k:Nat) (x:zK),k<i->L[k]?=some x->ltN name x=true)/\(∀(k:Nat) (x:zK),j<=k->L[k]?=some x->ltN name x=false)/\Below w.heap.size w wr) (λiv jv _=>(intOf jv).toNat-(intOf iv).toNat)
 case atStart=>exact⟨0,n,zG _,ze _,rfl,rfl,λk x Y=>by omega,λk x Y g=>by have:=(zR.1 g).1;rw[N.out] at this;omega,zf _ _⟩
 case round=>
  obtain⟨i,j,a8,E,rfl,rfl,P,Q,hb⟩:=hrel;have l:=hid hb;have H:=hid P;have I:=hid Q;clear hb P Q
  by_cases hlt:i<j
  ·go_upto_region 5 with fail
   obtain⟨m,hm⟩:∃m:Nat,((i:Int)+(j:Int)) / 2=(m:Int):=⟨(i+j) / 2,by omega⟩;have Z:i<=m:=by omega
   have a9:m<j:=by omega
   rw[hm];have v:m<L.length:=by rw[N.out];omega
   have g:=zn v;obtain⟨gb,o,U,W,V,rfl,_,B,F,_⟩:=C.out m _ g;obtain⟨x,q⟩:=Nm (L[m]);rw[q] at B g;have p0:=zi l.out B;have p1:=zi l.out F;have u:=iC x.1 name U W V wr;obtain⟨z,R⟩:=Nm (ql x.1 name);rw[R] at u;have G:=hid u;have O:=hid g;have k0:(0:Int)<=(m:Int):=zZ _;have k1:(m:Int)<(n:Int):=by omega
   have f:ltN name x=decide (z<0):=by unfold ltN;rw[R]
   clear u g B F q C K hm
   by_cases hzn:z<0
   ·rw[zC hzn] at f
    go_wp2_with (go_at_fn 109;refine G.out.mono ?_;rintro e w2 ⟨rfl,s⟩;have p:=hid (l.out.trans (s.mono l.out.size));clear s)
    go_roundw
    case rel=>
     refine⟨m+1,j,by omega,E,by go_num,rfl,λk y Y r=>?_,I.out,p.out⟩
     by_cases hkm:k<m
     ·exact J.out k m y x hkm r O.out f
     ·have:k=m:=by omega
      subst this;rw[O.out] at r;injection r with r
      rw[<- r];exact f
    case measure=>simp[intOf];omega
   ·rw[zO hzn] at f
    go_wp2_with (go_at_fn 109;refine G.out.mono ?_;rintro e w2 ⟨rfl,s⟩;have p:=hid (l.out.trans (s.mono l.out.size));clear s)
    go_roundw
    case rel=>
     refine⟨i,m,Z,by omega,rfl,rfl,H.out,λk y Y r=>?_,p.out⟩
     by_cases hkm:m<k
     ·cases hly:ltN name y with
      | false=>rfl
      | true=>
       have:=J.out m k x y hkm O.out r hly
       rw[f] at this
       cases this
     ·have:k=m:=by omega
      subst this;rw[O.out] at r;injection r with r
      rw[<- r];exact f
    case measure=>simp[intOf];omega
  ·have D:i=j:=by omega
   subst D;have d:=K.out i E H.out I.out
   have b:zq L name=match L[i]? with
    | some x=>ql x.1 name==0
    | none=>false:=by unfold zq;rw[d]
   by_cases hin:i<n
   ·have v:i<L.length:=by rw[N.out];omega
    have g:=zn v;obtain⟨gb,o,U,W,V,rfl,_,B,F,_⟩:=C.out i _ g;rw[g] at b;obtain⟨x,q⟩:=Nm (L[i]);rw[q] at B b;have p0:=zi l.out B;have p1:=zi l.out F;have u:=iC x.1 name U W V wr;simp only at b;obtain⟨z,R⟩:=Nm (ql x.1 name);rw[R] at u b;have G:=hid u;have T:=hid d;have S:=hid b;have k0:(0:Int)<=(i:Int):=zZ _;have k1:(i:Int)<(n:Int):=by omega
    clear u g B F q C K d b J H I hlt
    go_wp2_with (go_at_fn 109;refine G.out.mono ?_;rintro e w2 ⟨rfl,s⟩;have p:=hid (l.out.trans (s.mono l.out.size));clear s)
    go_ret2;exact⟨by rw[T.out,S.out];rfl,p.out⟩
   ·have g:L[i]?=none:=VB (by rw[N.out];omega);rw[g] at b;have T:=hid d;have S:=hid b;clear g C K d b J H I hlt;go_wp2_with fail;go_ret2;exact⟨by rw[T.out,S.out];rfl,l.out⟩
theorem ay(L:List zK)(lv:Value)(name:BY)(M:Nat->Prop)(w:World)(h:xI M w lv L)(k:L.length<=1000000)(j:Down L name) :
  Calls prog 61 #[lv,.string name] w λe w'=>e = .returned (.tuple #[.int .i64 (qz L name:Int),.bool (zq L name)])/\Below w.heap.size w w':=by
 have c1:=OJ L lv name M w h k j;obtain⟨a,c,rfl,_⟩:=h;obtain⟨P,g⟩:∃x,qz L name=x:=⟨_,rfl⟩;obtain⟨B,f⟩:∃x,zq L name=x:=⟨_,rfl⟩;rw[g,f] at c1 |-;have i:=hid c1;clear c1 g f;go_enter func61,ntmps61
 go_wp2_with (go_at_call 108;refine i.out.mono ?_;rintro e w1 ⟨rfl,d⟩;have b:=hid d;clear d)
 go_ret2;exact⟨rfl,b.out⟩
def uY(W:World)(v:Value)(xs:List Value):Prop:=
 ∃a n c,v = .slice a n c/\xs.length=n*2/\n<=c/\c<=maxLen/\(a=none->n=0/\c=0)/\(∀u ∈ xs,u.oneCell'=true)/\∀(j:Nat) (u:Value),xs[j]?=some u->∃b o,a=some ⟨b,o,none⟩/\W.cell? ⟨b,o+j,none⟩=some u
theorem uY.below{W W':World}{v:Value}{xs:List Value}(h:uY W v xs)(hb:Below W.heap.size W W'):uY W' v xs:=by
 obtain⟨a,n,c,e,d,f,g,i,k,l⟩:=h;exact⟨a,n,c,e,d,f,g,i,k,λj u p=>by obtain⟨b,o,e,m⟩:=l j u p;exact⟨b,o,e,zi hb m⟩⟩
def sumTo(a:List (List Value)):Nat->Nat
 | 0=>0
 | k+1=>sumTo a k+(a.getD k []).length / 2
def Uc(a:List (List Value)):Nat->List Value
 | 0=>[]
 | k+1=>Uc a k++a.getD k []
theorem RN(c:List (List Value)){a b:Nat}(h:a<=b):sumTo c a<=sumTo c b:=by
 induction b with
 | zero=>have:a=0:=by omega
         subst this;exact ze _
 | succ b d=>
  by_cases e:a=b+1
  ·subst e;exact ze _
  ·have:=d (by omega)
   rw[sumTo];omega
theorem aP:(prog.info? 156).map (λi=>(i.zero,i.size,i.bytes))=some (some (.agg #[.string ⟨#[]⟩,.slice none 0 0]),2,40):=by kernel_rfl
theorem tV(z:Array Value)(n:Nat):(Builtin.zeroCells z n).size=n*z.size:=by
 unfold Builtin.zeroCells
 simp
theorem FO(n:Nat)(w:World)(l:n<=1000) :
  Calls prog 112 #[.slice none 0 0,.int .i64 (n:Int)] w λe w'=>∃v,e = .returned v/\w'.ownsRow w.heap.size 156 2 v 0 []/\Below w.heap.size w w':=by
 obtain⟨k,hi,d,j,f⟩:=qP aP
 by_cases h0:n=0
 ·subst h0;refine (Any8.slices_Grow_room Tryz.lays8grow none 0 0 0 w (ze _) (by omega) (by omega) (by omega)).mono ?_;rintro e w' ⟨rfl,rfl⟩;exact⟨_,rfl,⟨rfl,.inl ⟨rfl,rfl⟩⟩,zf _ _⟩
 ·have c:=Any8.slices_Grow_grow Tryz.lays8grow k _ hi d (by omega) none 0 0 n [] w (ze _) (by omega) (by rw[f];omega) (by omega) (by simp) (λ_=>rfl) (λa h=>by cases h);refine c.mono ?_;rintro e w' ⟨rfl,rfl⟩;have b:=grownCap_ge w (0+n) 0 156;have hle:=grownCap_le_maxLen w (0+n) 0 156 (by unfold maxLen;omega);refine⟨_,rfl,⟨by simp,.inr ⟨w.heap.size,_,_,rfl,ze _,zQ w.drew _,zG _,hle,?_,by simp⟩⟩,((zf _ w).drew).alloc (ze _) _⟩;have i:(Value.agg #[Value.string ⟨#[]⟩,Value.slice none 0 0]).cells.size=2:=by kernel_rfl
  have g:0+n<=grownCap w (0+n) 0 (Tryz.lays8grow_ren.t 25):=b;rw[Array.size_append,Array.size_append,tV,tV,i];show 0+(0+n-0)*2+(grownCap w (0+n) 0 (Tryz.lays8grow_ren.t 25)-(0+n))*2=grownCap w (0+n) 0 (Tryz.lays8grow_ren.t 25)*2;omega
theorem K9(g:List Value)(b:List (List Value))(pb:Nat)(w:World)(hl:g.length=b.length)(hp:∀(k:Nat) (v:Value),g[k]?=some v->w.cell? ⟨pb,k,none⟩=some v)(hc:∀(k:Nat) (v:Value) (xs:List Value),g[k]?=some v->b[k]?=some xs->uY w v xs)(hn:g.length<=10)(hs:sumTo b g.length<=1000) :
  Calls prog 63 #[.slice (some ⟨pb,0,none⟩) g.length g.length] w λe w'=>∃v,e = .returned v/\w'.ownsRow w.heap.size 156 2 v (sumTo b g.length) (Uc b g.length)/\Below w.heap.size w w':=by
 obtain⟨i0,hi,a7,a8,a9⟩:=qP aP;obtain⟨n,O⟩:=Nm g.length;obtain⟨S,N⟩:∃S:Nat->Nat,sumTo b=S:=⟨_,rfl⟩;obtain⟨T,X⟩:∃T:Nat->List Value,Uc b=T:=⟨_,rfl⟩;have S0:S 0=0:=by rw[<- N];rfl
 have T0:T 0=[]:=by rw[<- X];rfl
 have q:∀k,k<=n->S k<=S n:=λk t=>by rw[<- N];exact RN b t
 have each:∀k,k<n->∃v xs a m c,g[k]?=some v/\v = .slice a m c/\xs.length=m*2/\(a=none->m=0/\c=0)/\(∀u ∈ xs,u.oneCell'=true)/\S (k+1)=S k+m/\T (k+1)=T k++xs/\m<=c/\c<=maxLen /\
   (∀(j:Nat) (u:Value),xs[j]?=some u->∃gb o,a=some ⟨gb,o,none⟩/\w.cell? ⟨gb,o+j,none⟩=some u):=by
  intro k t;have h1:=zn (l:=g) (i:=k) (by omega);have h2:=zn (l:=b) (i:=k) (by omega);obtain⟨a,m,c,e,g1,g2,g3,g4,g5,g6⟩:=hc k _ _ h1 h2;have hg:b.getD k []=b[k]'(by omega):=by rw[zY,h2];rfl
  refine⟨_,_,a,m,c,h1,e,g1,g4,g5,?_,?_,g2,g3,g6⟩
  ·rw[<- N,sumTo,hg,g1];omega
  ·rw[<- X,Uc,hg]
 rw[O] at hn hs |-;rw[N] at hs |-;rw[X];have Q:∀(k:Nat) (v:Value),g[k]?=some v->∀W,Below w.heap.size w W->W.cell? ⟨pb,k,none⟩=some v:=λk v y W hb=>zi hb (hp k v y);have cg:=λW=>FO (S n) W hs;have I:=hid each;have J:=hid Q;have z:=hid q;have Y:=hid cg;have B:=hid S0;have C:=hid T0;clear each Q q cg S0 T0 hp hc hl O N X;go_enter func63,ntmps63
 go_wp2
 go_loopw [3,5,11] (λsv _ G wr=>∃k:Nat,k<=n/\G = .int .i64 k/\sv = .int .i64 (S k:Int)/\wr=w) (λ_ _ G _=>n-(intOf G).toNat)
 case atStart=>exact⟨0,zG _,rfl,by rw[B.out];rfl,rfl⟩
 case round=>
  obtain⟨k,t,rfl,rfl,R⟩:=hrel;rw[R];clear R
  by_cases hlt:k<n
  ·obtain⟨v,xs,a,m,c,y,rfl,_,_,_,f,_,_,_,_⟩:=I.out k hlt;have p0:=J.out k _ y w (zf _ _);have hz:=z.out k t;have c2:=z.out (k+1) hlt;have a1:=hid f;have k0:(0:Int)<=(k:Int):=zZ _;have k1:(k:Int)<(n:Int):=by omega
   have d3:¬((S k:Int)+(m:Int)<0):=by omega
   have a5:S k+m<=1000:=by omega
   clear f I J z Y C y;go_wp2_with fail
   go_roundw
   case rel=>exact⟨k+1,by omega,by go_num,by rw[a1.out];go_num,by trivial⟩
   case measure=>simp[intOf];omega
  ·have E:n=k:=by omega
   subst E;clear hlt t
   go_wp2_with (go_at_call 112;refine (Y.out _).mono ?_;rintro e w1 ⟨gv,rfl,P,hb⟩;have M:=hid P;have K:=hid hb;clear P hb)
   go_loopw [6,8,27] (λov _ G wr=>∃k:Nat,k<=n/\G = .int .i64 k/\wr.ownsRow w.heap.size 156 2 ov (S k) (T k)/\Below w.heap.size w wr) (λ_ _ G _=>n-(intOf G).toNat)
   case atStart=>exact⟨0,zG _,rfl,by rw[B.out,C.out];exact M.out,K.out⟩
   case round=>
    obtain⟨k,t,rfl,P,hb⟩:=hrel;have L:=hid P;have H:=hid hb;have b0:=H.out.size;clear P hb M K B C Y
    by_cases hlt:k<n
    ·obtain⟨v,xs,a,m,c,y,a6,U,F,r,f,D,_,_,d⟩:=I.out k hlt;subst a6;have p0:=J.out k _ y wr H.out;have hz:=z.out (k+1) hlt;have k0:(0:Int)<=(k:Int):=zZ _;have k1:(k:Int)<(n:Int):=by omega
     have h:Hid (S (k+1)=S k+m/\T (k+1)=T k++xs):=⟨f,D⟩;have a5:S k+m<=1000:=by omega
     cases a with
     | none=>
      obtain⟨rfl,rfl⟩:=F rfl;have V:xs=[]:=YB.1 (by omega);have A:Hid (wr.ownsRow w.heap.size 156 2 u6 (S (k+1)) (T (k+1))):=hid (by rw[h.out.1,h.out.2,V,List.append_nil];exact L.out);clear d F r f D I J z y V U h
      go_wp2_with (at_builtin;refine wpList_append_own_none rfl _ _ 78 rfl w.heap.size 156 i0 2 underlying78 hi _ (S k) (T k) rfl L.out rfl ?_)
      go_wp2_with fail
      go_roundw
      case rel=>exact⟨k+1,by omega,by go_num,A.out,H.out⟩
      case measure=>simp[intOf];omega
     | some ad=>
      have x:∀(j:Nat) (u:Value),xs[j]?=some u->wr.cell? (ad.add j)=some u:=λj u hu=>by
       obtain⟨gb,o,e,hq⟩:=d j u hu;injection e with e
       subst e;rw[addr_add];exact zi H.out hq
      have a2:=hid x;have a0:=hid r;clear d F r f D I J z y x
      go_wp2_with (at_builtin;refine yK _ rfl _ _ 78 rfl w.heap.size 156 i0 (.agg #[.string ⟨#[]⟩,.slice none 0 0]) 2 40 underlying78 hi a7 a8 a9 rfl (by decide) _ (S k) (T k) rfl L.out ad m c xs rfl U a2.out a0.out ?_ ?_ ?_ ?_)
      ·unfold maxLen;omega
      ·omega
      ·omega
      ·intro v' w3 s p _;have A:Hid (w3.ownsRow w.heap.size 156 2 v' (S (k+1)) (T (k+1))):=hid (by rw[h.out.1,h.out.2];exact s);have Z:Hid (Below w.heap.size w w3):=H.out.grown p b0 (λk t=>(World.ownsRow.lt L.out k t).1);clear s p;go_wp2_with fail
       go_roundw
       case rel=>exact⟨k+1,by omega,by go_num,A.out,Z.out⟩
       case measure=>simp[intOf];omega
    ·have E:n=k:=by omega
     subst E;clear I J z hlt;go_wp2_with fail;go_ret;exact⟨_,rfl,L.out,H.out⟩
def yP(M:Nat->Prop)(W:World)(xs:List Value)(L:List zK):Prop:=
 xs.length=L.length*2/\∀(k:Nat) (x:zK),L[k]?=some x->∃a c b,xs[k*2]?=some (.string x.1)/\xs[k*2+1]?=some (.slice a c b)/\yM M W (.slice a c b) x.2
theorem yP.turn{M:Nat->Prop}{W W':World}{xs:List Value}{L:List zK}(h:yP M W xs L)(k:zw M W W'):yP M W' xs L:=
 ⟨h.1,λj x g=>by obtain⟨a,c,b,d,e,f⟩:=h.2 j x g;exact⟨a,c,b,d,e,f.turn k⟩⟩
theorem yP.one{M:Nat->Prop}{W:World}{b:Option Addr}{d c:Nat}{x:zK}(h:yM M W (.slice b d c) x.2):yP M W [.string x.1,.slice b d c] [x]:=by
 refine⟨rfl,λk y a=>?_⟩
 match k,a with
 | 0,a=>
  simp only[jr,Option.some.injEq] at a;subst a;exact⟨b,d,c,rfl,rfl,h⟩
 | k+1,a=>simp at a
theorem yP.nil{M:Nat->Prop}{W:World}:yP M W [] []:=⟨rfl,λk x a=>by simp at a⟩
theorem yP.take{M:Nat->Prop}{W:World}{xs:List Value}{L:List zK}(h:yP M W xs L)(p:Nat):yP M W (xs.take (p*2)) (L.take p):=by
 refine⟨by rw[yZ,yZ,h.1];omega,λk x a=>?_⟩;rw[kr] at a
 split at a
 ·rename_i i;obtain⟨b,d,c,e,f,g⟩:=h.2 k x a;exact⟨b,d,c,by rw[kr,zb (by omega)];exact e,by rw[kr,zb (by omega)];exact f,g⟩
 ·cases a
theorem yP.drop{M:Nat->Prop}{W:World}{xs:List Value}{L:List zK}(h:yP M W xs L)(p:Nat):yP M W (xs.drop (p*2)) (L.drop p):=by
 refine⟨by rw[jw,jw,h.1];omega,λk x a=>?_⟩;rw[Zy] at a;obtain⟨b,d,c,e,f,g⟩:=h.2 (p+k) x a;exact⟨b,d,c,by rw[Zy,show p*2+k*2=(p+k)*2 by omega];exact e,by rw[Zy,show p*2+(k*2+1)=(p+k)*2+1 by omega];exact f,g⟩
theorem yP.app{M:Nat->Prop}{W:World}{xs j:List Value}{L N:List zK}(h:yP M W xs L)(g:yP M W j N):yP M W (xs++j) (L++N):=by
 refine⟨by rw[qA,qA,h.1,g.1];omega,λk x a=>?_⟩
 by_cases hk:k<L.length
 ·rw[xK hk] at a;obtain⟨b,d,c,e,f,i⟩:=h.2 k x a;exact⟨b,d,c,by rw[xK (by rw[h.1];omega)];exact e,by rw[xK (by rw[h.1];omega)];exact f,i⟩
 ·rw[xZ (by omega)] at a;obtain⟨b,d,c,e,f,i⟩:=g.2 (k-L.length) x a;exact⟨b,d,c,by rw[xZ (by rw[h.1];omega),h.1,show k*2-L.length*2=(k-L.length)*2 by omega];exact e,by rw[xZ (by rw[h.1];omega),h.1,show k*2+1-L.length*2=(k-L.length)*2+1 by omega];exact f,i⟩
theorem xI.flat{M:Nat->Prop}{W:World}{lv:Value}{L:List zK}(h:xI M W lv L):∃xs,uY W lv xs/\yP M W xs L:=by
 obtain⟨a,c,rfl,v,r,w,B⟩:=id h;have m:=h.cells.2.2.2
 by_cases h0:L.length=0
 ·have y:L=[]:=YB.1 h0;subst y;exact⟨[],⟨a,0,c,rfl,rfl,zG _,r,λe=>⟨rfl,w e⟩,by simp,λj u b=>by simp at b⟩,yP.nil⟩
 ·obtain⟨g,o,_,_,_,t,_⟩:=m 0 _ (zn (by omega));subst t
  have cell:∀j,j<L.length*2->∃u,W.cell? ⟨g,o+j,none⟩=some u/\u.oneCell'=true:=by
   intro j f;obtain⟨l,A,n,q,p,e,_,i,c1,_⟩:=m (j / 2) _ (zn (by omega));injection e with e
   injection e with e1 e2
   subst e1 e2
   by_cases he:j % 2=0
   ·have:j=j / 2*2:=by omega
    rw[this];exact⟨_,i,rfl⟩
   ·have:o+j=o+j / 2*2+1:=by omega
    rw[this];exact⟨_,c1,rfl⟩
  have get:∀j,j<L.length*2->((List.range (L.length*2)).map λj=>(W.cell? ⟨g,o+j,none⟩).getD undef)[j]?=W.cell? ⟨g,o+j,none⟩:=by
   intro j f;obtain⟨u,b,_⟩:=cell j f;rw[vz,Kk f];simp only[Xg];rw[b]
   rfl
  refine⟨(List.range (L.length*2)).map λj=>(W.cell? ⟨g,o+j,none⟩).getD undef,⟨some ⟨g,o,none⟩,L.length,c,rfl,by simp,v,r,(λe=>by cases e),?_,?_⟩,by simp,?_⟩
  ·intro u b;obtain⟨j,f,rfl⟩:=xR.1 b;obtain⟨u,b,z⟩:=cell j (ku.1 f);rw[b];exact z
  ·intro j u b
   have f:j<L.length*2:=by
    have:=(zR.1 b).1
    simpa using this
   rw[get j f] at b;exact⟨g,o,rfl,b⟩
  ·intro k x s;have C:k<L.length:=(zR.1 s).1;obtain⟨l,A,n,q,p,e,_,i,c1,d⟩:=m k x s;injection e with e
   injection e with e1 e2
   subst e1 e2;exact⟨n,q,p,by rw[get _ (by omega)];exact i,by rw[get _ (by omega)];exact c1,d⟩
theorem bq{M:Nat->Prop}{W:World}{base:Nat}{v:Value}{n:Nat}{xs:List Value}{L:List zK}(h:W.ownsRow base 156 2 v n xs)(c:yP M W xs L)(r:∀b,M b->b<base):xI M W v L:=by
 have t:n=L.length:=by have:=h.1;have:=c.1;omega
 subst t;have a:=λg cap (e:v = .slice (some ⟨g,0,none⟩) L.length cap)=>World.ownsRow.cellAt (w:=W) (base:=base) (e:=156) (size:=2) (n:=L.length) (xs:=xs) (g:=g) (cap:=cap) (by rw[<- e];exact h)
 rcases h.2 with ⟨e,h0⟩|⟨g,cap,cur,e,hg,hh,h1,h2,_⟩
 ·have q:L=[]:=YB.1 h0;subst q;rw[e];exact nu M W
 ·refine⟨some ⟨g,0,none⟩,cap,e,h1,h2,(λe=>by cases e),λk x f=>?_⟩;have u:k<L.length:=(zR.1 f).1;obtain⟨i,l,j,m,o,p⟩:=c.2 k x f;have d:=a g cap e;refine⟨g,0,.slice i l j,rfl,λs=>absurd (r g s) (by omega),?_,?_,p⟩
  ·rw[yO,d _ (by have:=c.1;omega)];exact m
  ·rw[yO,d _ (by have:=c.1;omega)];exact o
theorem uY.take{W:World}{a:Option Addr}{n c:Nat}{xs:List Value}(h:uY W (.slice a n c) xs){p:Nat}(q:p<=n):uY W (.slice a p c) (xs.take (p*2)):=by
 obtain⟨l,r,m,e,f,o,g,d,i,k⟩:=h;injection e with e1 e2 e3
 subst e1 e2 e3;refine⟨a,p,c,rfl,by rw[yZ,f];omega,by omega,g,λe=>⟨by have:=(d e).1;omega,(d e).2⟩,λu b=>i u (VE b),λj u b=>?_⟩;rw[kr] at b
 split at b
 ·exact k j u b
 ·cases b
theorem uY.drop{W:World}{a:Option Addr}{n c:Nat}{xs:List Value}(h:uY W (.slice a n c) xs){p:Nat}(y:p<=n):uY W (.slice (if c=p then a else a.map λx=>x.add (p*2)) (n-p) (c-p)) (xs.drop (p*2)):=by
 obtain⟨s,z,t,e,d,v,w,i,k,l⟩:=h;injection e with e1 e2 e3
 subst e1 e2 e3;refine⟨_,n-p,c-p,rfl,by rw[jw,d];omega,by omega,by omega,λe=>?_,λu b=>k u (VD b),λj u b=>?_⟩
 ·have m:a=none:=by
   split at e
   ·exact e
   ·exact Option.map_eq_none_iff.1 e
  have:=i m
  exact⟨by omega,by omega⟩
 ·have r:j<(xs.drop (p*2)).length:=(zR.1 b).1;rw[jw,d] at r;rw[Zy] at b;obtain⟨g,o,f,q⟩:=l _ u b;refine⟨g,o+p*2,?_,by rw[Nat.add_assoc];exact q⟩;rw[za (by omega),f];simp only[Xg,addr_add]
end Go.Proofs.YtagnlbgbnfnapaaGreatDoor
