/- P -/
import Derived.Test.YtagnlbgbnfnapaaGreatDoorZ33
open Go.Proofs.Tryz
set_option maxRecDepth 100000
set_option maxHeartbeats 4000000
namespace Go.Proofs.YtagnlbgbnfnapaaGreatDoor
open Go.RowKit
structure zC (M:Nat->Prop) (w w':World):Prop where
 os:w'.os=w.os
 tape:w'.tape=w.tape
 output:w'.output=w.output
 size:w.heap.size<=w'.heap.size
 block:∀k,k<w.heap.size->¬M k->w'.heap[k]?=w.heap[k]?
theorem zC.refl(M:Nat->Prop)(w:World):zC M w w:=⟨rfl,rfl,rfl,ze _,λ_ _ _=>rfl⟩
theorem zC.of{M:Nat->Prop}{w a:World}(h:Below w.heap.size w a):zC M w a:=⟨h.os,h.tape,h.output,h.size,λk b _=>h.block k b⟩
theorem zC.trans{M:Nat->Prop}{a b c:World}(h:zC M a b)(k:zC M b c):zC M a c:=
 ⟨k.os.trans h.os,k.tape.trans h.tape,k.output.trans h.output,jy h.size k.size,λx e d=>(k.block x (xx e h.size) d).trans (h.block x e d)⟩
theorem zC.wide{M M':Nat->Prop}{a b:World}(h:zC M a b)(e:∀k,k<a.heap.size->M k->M' k):zC M' a b:=
 ⟨h.os,h.tape,h.output,h.size,λk d f=>h.block k d (λc=>f (e k d c))⟩
theorem zC.below{M:Nat->Prop}{B:Nat}{a b:World}(h:zC M a b)(e:∀k,k<B->¬M k)(d:B<=a.heap.size):Below B a b:=
 ⟨h.os,h.tape,h.output,h.size,λk c=>h.block k (xx c d) (e k c)⟩
theorem zC.set{M:Nat->Prop}(w:World){b:Nat}(hb:M b)(o:Nat)(u:Value):zC M w (w.setCell ⟨b,o,none⟩ u):=by
 exact⟨rfl,rfl,rfl,by simp[World.setCell],λk _ a=>X7 _ _ _ _ (λe=>a (by simp only at e;rw[e];exact hb))⟩
theorem zC.cell{M:Nat->Prop}{a b:World}(h:zC M a b){x:Addr}{v:Value}(e:¬M x.block)(c:a.cell? x=some v):b.cell? x=some v:=by
 have d:x.block<a.heap.size:=kX _ _ c
 have:=h.block x.block d e
 unfold World.cell? at c |-;rw[this];exact c
def Same(base:Nat)(w a:World):Prop:=∀b,base<=b->b<w.heap.size->a.heap[b]?=w.heap[b]?
theorem Kr{w b:World}{base:Nat}{e:TypeId}{size:Nat}{v:Value}{n:Nat}{xs:List Value}(h:w.ownsRow base e size v n xs)(hb:Same base w b):b.ownsRow base e size v n xs:=by
 obtain⟨c,a⟩:=h;refine⟨c,?_⟩
 rcases a with a|⟨g,cap,cur,hv,hg,hh,h3⟩
 ·exact .inl a
 ·exact .inr ⟨g,cap,cur,hv,hg,by rw[hb g hg (zY hh)];exact hh,h3⟩
theorem zZ.same{w c:World}{base:Nat}{a:Value}{b:List BA}(h:zZ w base a b)(hb:Same base w c):zZ c base a b:=Kr h hb
theorem xJ.same{w b:World}{base:Nat}{a:Value}{cs:List qF}(h:xJ w base a cs)(hb:Same base w b):xJ b base a cs:=by
 obtain⟨xs,i,k⟩:=h;refine⟨xs,Kr i hb,λj l=>?_⟩;obtain⟨m,c,d,e,f,g⟩:=k j l;exact⟨m,c,d,e,f,g.same hb⟩
theorem jP.same{w e:World}{base:Nat}{c:Value}{d:List zT}(h:jP w base c d)(hb:Same base w e):jP e base c d:=by
 obtain⟨xs,a,b⟩:=h;refine⟨xs,Kr a hb,λj r=>?_⟩;obtain⟨s,t,u,v,l,a,b,m,n,o,p,q,f,g,i,k⟩:=b j r;exact⟨s,t,u,v,l,a,b,m,n,o,p,q,f.same hb,g.same hb,i.same hb,k.same hb⟩
def yV(M:Nat->Prop)(W:World)(c:Value)(d:List zT):Prop:=
 ∃base a,jP a base c d/\a.heap.size<=W.heap.size/\∀b,base<=b->b<a.heap.size->¬M b/\W.heap[b]?=a.heap[b]?
theorem yV.at{M:Nat->Prop}{W:World}{a:Value}{c:List zT}(h:yV M W a c):∃base,jP W base a c:=by
 obtain⟨base,g,d,_,e⟩:=h;exact⟨base,d.same (λb hb f=>(e b hb f).2)⟩
theorem yV.turn{M:Nat->Prop}{W d:World}{e:Value}{g:List zT}(h:yV M W e g)(k:zC M W d):yV M d e g:=by
 obtain⟨base,i,j,f,c⟩:=h;exact⟨base,i,j,jy f k.size,λb hb a=>⟨(c b hb a).1,(k.block b (xx a f) (c b hb a).1).trans (c b hb a).2⟩⟩
theorem yV.of{M:Nat->Prop}{W:World}{a:Value}{c:List zT}{base:Nat}(h:jP W base a c)(d:∀b,M b->b<base):yV M W a c:=
 ⟨base,W,h,ze _,λb hb _=>⟨λe=>absurd (d b e) (by omega),rfl⟩⟩
theorem yV.more{M M':Nat->Prop}{W:World}{a:Value}{e:List zT}(h:yV M W a e)(j:∀b,M' b->M b\/W.heap.size<=b):yV M' W a e:=by
 obtain⟨base,f,g,i,c⟩:=h;refine⟨base,f,g,i,λb hb d=>⟨λk=>?_,(c b hb d).2⟩⟩
 rcases j b k with h|h
 ·exact (c b hb d).1 h
 ·omega
abbrev zu:=BA×List zT
def xO(M:Nat->Prop)(W:World)(e:Value)(L:List zu):Prop:=
 ∃a c,e = .slice a L.length c/\L.length<=c/\c<=maxLen/\(a=none->c=0)/\∀(k:Nat) (x:zu),L[k]?=some x->∃b o d,a=some ⟨b,o,none⟩/\¬M b/\W.cell? ⟨b,o+k*2,none⟩=some (.string x.1)/\W.cell? ⟨b,o+k*2+1,none⟩=some d/\yV M W d x.2
theorem xO.turn{M:Nat->Prop}{W f:World}{g:Value}{L:List zu}(h:xO M W g L)(k:zC M W f):xO M f g L:=by
 obtain⟨a,c,rfl,m,n,q,p⟩:=h;refine⟨a,c,rfl,m,n,q,λj x r=>?_⟩;obtain⟨l,o,i,e,b,c0,c1,d⟩:=p j x r;exact⟨l,o,i,e,b,k.cell b c0,k.cell b c1,d.turn k⟩
theorem xO.more{M M':Nat->Prop}{W:World}{k:Value}{L:List zu}(h:xO M W k L)(i:∀b,M' b->M b\/W.heap.size<=b):xO M' W k L:=by
 obtain⟨a,c,rfl,m,n,q,p⟩:=h;refine⟨a,c,rfl,m,n,q,λj x s=>?_⟩;obtain⟨f,o,l,e,r,c0,c1,d⟩:=p j x s;refine⟨f,o,l,e,λg=>?_,c0,c1,d.more i⟩;have t:f<W.heap.size:=kX _ _ c0
 rcases i f g with h|h
 ·exact r h
 ·omega
theorem sF(M:Nat->Prop)(W:World):xO M W (.slice none 0 0) []:=⟨none,0,rfl,ze _,by unfold maxLen;omega,λ_=>rfl,λk x a=>by simp at a⟩
def xX(a b:BA):Int:=Lib.compareBytes a.data.toList b.data.toList
def ltN(name:BA)(x:zu):Bool:=decide (xX x.1 name<0)
def qI(L:List zu)(name:BA):Nat:=(L.takeWhile (ltN name)).length
def zO(L:List zu)(name:BA):Bool:=match L[qI L name]? with
 | some x=>xX x.1 name==0
 | none=>false
def Down(L:List zu)(name:BA):Prop:=∀(a b:Nat) (x y:zu),a<b->L[a]?=some x->L[b]?=some y->ltN name y=true->ltN name x=true
theorem iN{α:Type}(p:α->Bool):∀(l:List α) (i:Nat),i<=l.length->(∀(k:Nat) (x:α),k<i->l[k]?=some x->p x=true)->(∀(k:Nat) (x:α),i<=k->l[k]?=some x->p x=false)->(l.takeWhile p).length=i
 | [],i,h,_,_=>by simp at h;simp[h]
 | a::l,0,_,_,h2=>by
  have:=h2 0 a (ze _) rfl
  rw[UC,this]
  rfl
 | a::l,i+1,h,h1,h2=>by
  have c:=h1 0 a (Nat.succ_pos _) rfl
  have:=iN p l i (by simpa using h) (λk x d b=>h1 (k+1) x (by omega) (by simpa using b)) (λk x d b=>h2 (k+1) x (by omega) (by simpa using b))
  rw[UC,c];simp[this]
theorem gN(L:List zu)(name:BA):qI L name<=L.length:=by
 unfold qI;exact (List.takeWhile_prefix _).length_le
theorem Fq(a b:BA):xX a b = -1\/xX a b=0\/xX a b=1:=by
 unfold xX;generalize a.data.toList=x;generalize b.data.toList=y
 induction x generalizing y with
 | nil=>cases y<;>simp[Lib.compareBytes]
 | cons p x c=>
  cases y with
  | nil=>simp[Lib.compareBytes]
  | cons q y=>
   unfold Lib.compareBytes
   split
   ·exact .inl rfl
   split
   ·exact .inr (.inr rfl)
   ·exact c y
theorem nU(nm name:BA)(a:Option Addr)(n c:Nat)(w:World) :
  Calls prog 109 #[.agg #[.string nm,.slice a n c],.string name] w λe b=>e = .returned (.int .i64 (xX nm name))/\Below w.heap.size w b:=by
 have d:=λW=>Any.strings_Compare Tryz.lays106 nm name W;have g:Hid (∀W,Calls prog 110 #[.string nm,.string name] W λe b=>e = .returned (.int .i64 (xX nm name))/\b=W):=hid d;clear d;go_enter func109,ntmps109
 go_wp2_with (go_at_call 110;refine (g.out _).mono ?_;rintro e h ⟨rfl,f⟩;rw[f];clear f)
 go_ret;exact⟨rfl,nB w _⟩
theorem IC:∀args w,(callFunc 109 args).run prog w = .ok (.enter 109 args) w:=qx func109 (by kernel_rfl) rfl
theorem xO.cells{M:Nat->Prop}{W:World}{a:Option Addr}{n c:Nat}{L:List zu}(h:xO M W (.slice a n c) L):n=L.length/\n<=c/\c<=maxLen/\∀(k:Nat) (x:zu),L[k]?=some x->∃l o f j i,a=some ⟨l,o,none⟩/\¬M l/\W.cell? ⟨l,o+k*2,none⟩=some (.string x.1)/\W.cell? ⟨l,o+k*2+1,none⟩=some (.slice f j i)/\yV M W (.slice f j i) x.2:=by
 obtain⟨C,D,e,w,y,_,p⟩:=h;injection e with e1 e2 e3
 subst e1 e2 e3;refine⟨rfl,w,y,λk x q=>?_⟩;obtain⟨l,o,t,e,z,c0,c1,d⟩:=p k x q;obtain⟨base,B,⟨xs,A,_⟩,_⟩:=d
 have:∃f j i,t = .slice f j i:=by
  rcases A.2 with ⟨e,_⟩|⟨g,cap,cur,e,_⟩
  ·exact⟨_,_,_,e⟩
  ·exact⟨_,_,_,e⟩
 obtain⟨f,j,i,rfl⟩:=this
 exact⟨l,o,f,j,i,e,z,c0,c1,(p k x q).elim (λv ⟨E,u,m,_,r,b,s⟩=>by
  rw[e] at m;injection m with m
  injection m with g1 g2
  subst g1 g2;rw[c1] at b;injection b with b
  rw[b];exact s)⟩
theorem Tf(L:List zu)(lv:Value)(name:BA)(M:Nat->Prop)(w:World)(h:xO M w lv L)(hn:L.length<=1000000)(hd:Down L name) :
  Calls prog 108 #[lv,.string name,.func (.func 109) #[] #[]] w λe w'=>e = .returned (.tuple #[.int .i64 (qI L name:Int),.bool (zO L name)])/\Below w.heap.size w w':=by
 obtain⟨a,c,rfl,X,h2⟩:∃a c,lv = .slice a L.length c/\L.length<=c/\c<=maxLen:=by obtain⟨a,c,e,X,h2,_⟩:=h;exact⟨a,c,e,X,h2⟩
 have hc:=h.cells.2.2.2;obtain⟨n,A⟩:=Nm L.length;have t:∀i,i<=n->(∀(k:Nat) (x:zu),k<i->L[k]?=some x->ltN name x=true)->(∀(k:Nat) (x:zu),i<=k->L[k]?=some x->ltN name x=false)->qI L name=i:=λi hi P Q=>iN (ltN name) L i (by omega) P Q;rw[A] at X hn |-;have K:=hid t;have C:=hid hc;have N:=hid A;have J:=hid hd;have eg:=IC;clear hc A h hd t;go_enter func108,ntmps108
 go_wp2
 go_loopw [9,10] (λiv jv wr=>∃i j:Nat,i<=j/\j<=n/\iv = .int .i64 i/\jv = .int .i64 j/\(∀(k:Nat) (x:zu),k<i->L[k]?=some x->ltN name x=true)/\(∀(k:Nat) (x:zu),j<=k->L[k]?=some x->ltN name x=false)/\Below w.heap.size w wr) (λiv jv _=>(intOf jv).toNat-(intOf iv).toNat)
 case atStart=>exact⟨0,n,zU _,ze _,rfl,rfl,λk x Y=>by omega,λk x Y g=>by have:=(xw.1 g).1;rw[N.out] at this;omega,zi _ _⟩
 case round=>
  obtain⟨i,j,a8,E,rfl,rfl,P,Q,hb⟩:=hrel;have l:=hid hb;have H:=hid P;have I:=hid Q;clear hb P Q
  by_cases hlt:i<j
  ·go_upto_region 5 with fail
   obtain⟨m,hm⟩:∃m:Nat,((i:Int)+(j:Int)) / 2=(m:Int):=⟨(i+j) / 2,by omega⟩;have Z:i<=m:=by omega
   have a9:m<j:=by omega
   rw[hm];have v:m<L.length:=by rw[N.out];omega
   have g:=zt v;obtain⟨gb,o,U,W,V,rfl,_,B,F,_⟩:=C.out m _ g;obtain⟨x,q⟩:=Nm (L[m]);rw[q] at B g;have p0:=zh l.out B;have p1:=zh l.out F;have u:=nU x.1 name U W V wr;obtain⟨z,R⟩:=Nm (xX x.1 name);rw[R] at u;have G:=hid u;have O:=hid g;have k0:(0:Int)<=(m:Int):=jL _;have k1:(m:Int)<(n:Int):=by omega
   have f:ltN name x=decide (z<0):=by unfold ltN;rw[R]
   clear u g B F q C K hm
   by_cases hzn:z<0
   ·rw[zF hzn] at f
    go_wp2_with (go_at_fn 109;refine G.out.mono ?_;rintro e w2 ⟨rfl,s⟩;have p:=hid (l.out.trans (s.mono l.out.size));clear s)
    go_roundw
    case rel=>
     refine⟨m+1,j,by omega,E,by go_num,rfl,λk y Y r=>?_,I.out,p.out⟩
     by_cases hkm:k<m
     ·exact J.out k m y x hkm r O.out f
     ·have:k=m:=by omega
      subst this;rw[O.out] at r;injection r with r
      rw[<- r];exact f
    case measure=>simp[intOf];omega
   ·rw[zH hzn] at f
    go_wp2_with (go_at_fn 109;refine G.out.mono ?_;rintro e w2 ⟨rfl,s⟩;have p:=hid (l.out.trans (s.mono l.out.size));clear s)
    go_roundw
    case rel=>
     refine⟨i,m,Z,by omega,rfl,rfl,H.out,λk y Y r=>?_,p.out⟩
     by_cases hkm:m<k
     ·cases hly:ltN name y with
      | false=>rfl
      | true=>
       have:=J.out m k x y hkm O.out r hly
       rw[f] at this
       cases this
     ·have:k=m:=by omega
      subst this;rw[O.out] at r;injection r with r
      rw[<- r];exact f
    case measure=>simp[intOf];omega
  ·have D:i=j:=by omega
   subst D;have d:=K.out i E H.out I.out
   have b:zO L name=match L[i]? with
    | some x=>xX x.1 name==0
    | none=>false:=by unfold zO;rw[d]
   by_cases hin:i<n
   ·have v:i<L.length:=by rw[N.out];omega
    have g:=zt v;obtain⟨gb,o,U,W,V,rfl,_,B,F,_⟩:=C.out i _ g;rw[g] at b;obtain⟨x,q⟩:=Nm (L[i]);rw[q] at B b;have p0:=zh l.out B;have p1:=zh l.out F;have u:=nU x.1 name U W V wr;simp only at b;obtain⟨z,R⟩:=Nm (xX x.1 name);rw[R] at u b;have G:=hid u;have T:=hid d;have S:=hid b;have k0:(0:Int)<=(i:Int):=jL _;have k1:(i:Int)<(n:Int):=by omega
    clear u g B F q C K d b J H I hlt
    go_wp2_with (go_at_fn 109;refine G.out.mono ?_;rintro e w2 ⟨rfl,s⟩;have p:=hid (l.out.trans (s.mono l.out.size));clear s)
    go_ret2;exact⟨by rw[T.out,S.out];rfl,p.out⟩
   ·have g:L[i]?=none:=aj (by rw[N.out];omega);rw[g] at b;have T:=hid d;have S:=hid b;clear g C K d b J H I hlt;go_wp2_with fail;go_ret2;exact⟨by rw[T.out,S.out];rfl,l.out⟩
theorem pq(L:List zu)(d:Value)(name:BA)(M:Nat->Prop)(w:World)(h:xO M w d L)(k:L.length<=1000000)(hd:Down L name) :
  Calls prog 61 #[d,.string name] w λe l=>e = .returned (.tuple #[.int .i64 (qI L name:Int),.bool (zO L name)])/\Below w.heap.size w l:=by
 have c1:=Tf L d name M w h k hd;obtain⟨a,c,rfl,_⟩:=h;obtain⟨P,i⟩:∃x,qI L name=x:=⟨_,rfl⟩;obtain⟨B,g⟩:∃x,zO L name=x:=⟨_,rfl⟩;rw[i,g] at c1 |-;have j:=hid c1;clear c1 i g;go_enter func61,ntmps61
 go_wp2_with (go_at_call 108;refine j.out.mono ?_;rintro e m ⟨rfl,f⟩;have b:=hid f;clear f)
 go_ret2;exact⟨rfl,b.out⟩
def Zt(W:World)(v:Value)(xs:List Value):Prop:=
 ∃a n c,v = .slice a n c/\xs.length=n*2/\n<=c/\c<=maxLen/\(a=none->n=0/\c=0)/\(∀u ∈ xs,u.oneCell'=true)/\∀(j:Nat) (u:Value),xs[j]?=some u->∃b o,a=some ⟨b,o,none⟩/\W.cell? ⟨b,o+j,none⟩=some u
theorem Zt.below{W b:World}{v:Value}{xs:List Value}(h:Zt W v xs)(hb:Below W.heap.size W b):Zt b v xs:=by
 obtain⟨a,n,c,e,f,g,i,k,l,m⟩:=h;exact⟨a,n,c,e,f,g,i,k,l,λj u q=>by obtain⟨d,o,e,p⟩:=m j u q;exact⟨d,o,e,zh hb p⟩⟩
def sumTo(a:List (List Value)):Nat->Nat
 | 0=>0
 | k+1=>sumTo a k+(a.getD k []).length / 2
def U8(a:List (List Value)):Nat->List Value
 | 0=>[]
 | k+1=>U8 a k++a.getD k []
theorem zae(c:List (List Value)){a b:Nat}(h:a<=b):sumTo c a<=sumTo c b:=by
 induction b with
 | zero=>have:a=0:=by omega
         subst this;exact ze _
 | succ b d=>
  by_cases e:a=b+1
  ·subst e;exact ze _
  ·have:=d (by omega)
   rw[sumTo];omega
theorem dL:(prog.info? 156).map (λi=>(i.zero,i.size,i.bytes))=some (some (.agg #[.string ⟨#[]⟩,.slice none 0 0]),2,40):=by kernel_rfl
theorem Cu(z:Array Value)(n:Nat):(Builtin.zeroCells z n).size=n*z.size:=by
 unfold Builtin.zeroCells
 simp
theorem LX(n:Nat)(w:World)(m:n<=1000) :
  Calls prog 112 #[.slice none 0 0,.int .i64 (n:Int)] w λe b=>∃v,e = .returned v/\b.ownsRow w.heap.size 156 2 v 0 []/\Below w.heap.size w b:=by
 obtain⟨l,hi,f,k,g⟩:=jl dL
 by_cases h0:n=0
 ·subst h0;refine (Any8.slices_Grow_room Tryz.lays8grow none 0 0 0 w (ze _) (by omega) (by omega) (by omega)).mono ?_;rintro e b ⟨rfl,rfl⟩;exact⟨_,rfl,⟨rfl,.inl ⟨rfl,rfl⟩⟩,zi _ _⟩
 ·have c:=Any8.slices_Grow_grow Tryz.lays8grow l _ hi f (by omega) none 0 0 n [] w (ze _) (by omega) (by rw[g];omega) (by omega) (by simp) (λ_=>rfl) (λa h=>by cases h);refine c.mono ?_;rintro e b ⟨rfl,rfl⟩;have d:=grownCap_ge w (0+n) 0 156;have hle:=grownCap_le_maxLen w (0+n) 0 156 (by unfold maxLen;omega);refine⟨_,rfl,⟨by simp,.inr ⟨w.heap.size,_,_,rfl,ze _,zL w.drew _,zU _,hle,?_,by simp⟩⟩,((zi _ w).drew).alloc (ze _) _⟩;have j:(Value.agg #[Value.string ⟨#[]⟩,Value.slice none 0 0]).cells.size=2:=by kernel_rfl
  have i:0+n<=grownCap w (0+n) 0 (Tryz.lays8grow_ren.t 25):=d;rw[Array.size_append,Array.size_append,Cu,Cu,j];show 0+(0+n-0)*2+(grownCap w (0+n) 0 (Tryz.lays8grow_ren.t 25)-(0+n))*2=grownCap w (0+n) 0 (Tryz.lays8grow_ren.t 25)*2;omega
theorem bL(g:List Value)(b:List (List Value))(pb:Nat)(w:World)(hl:g.length=b.length)(hp:∀(k:Nat) (v:Value),g[k]?=some v->w.cell? ⟨pb,k,none⟩=some v)(hc:∀(k:Nat) (v:Value) (xs:List Value),g[k]?=some v->b[k]?=some xs->Zt w v xs)(hn:g.length<=10)(hs:sumTo b g.length<=1000) :
  Calls prog 63 #[.slice (some ⟨pb,0,none⟩) g.length g.length] w λe w'=>∃v,e = .returned v/\w'.ownsRow w.heap.size 156 2 v (sumTo b g.length) (U8 b g.length)/\Below w.heap.size w w':=by
 obtain⟨i0,hi,a7,a8,a9⟩:=jl dL;obtain⟨n,O⟩:=Nm g.length;obtain⟨S,N⟩:∃S:Nat->Nat,sumTo b=S:=⟨_,rfl⟩;obtain⟨T,X⟩:∃T:Nat->List Value,U8 b=T:=⟨_,rfl⟩;have S0:S 0=0:=by rw[<- N];rfl
 have T0:T 0=[]:=by rw[<- X];rfl
 have q:∀k,k<=n->S k<=S n:=λk t=>by rw[<- N];exact zae b t
 have each:∀k,k<n->∃v xs a m c,g[k]?=some v/\v = .slice a m c/\xs.length=m*2/\(a=none->m=0/\c=0)/\(∀u ∈ xs,u.oneCell'=true)/\S (k+1)=S k+m/\T (k+1)=T k++xs/\m<=c/\c<=maxLen /\
   (∀(j:Nat) (u:Value),xs[j]?=some u->∃gb o,a=some ⟨gb,o,none⟩/\w.cell? ⟨gb,o+j,none⟩=some u):=by
  intro k t;have h1:=zt (l:=g) (i:=k) (by omega);have h2:=zt (l:=b) (i:=k) (by omega);obtain⟨a,m,c,e,g1,g2,g3,g4,g5,g6⟩:=hc k _ _ h1 h2;have hg:b.getD k []=b[k]'(by omega):=by rw[zQ,h2];rfl
  refine⟨_,_,a,m,c,h1,e,g1,g4,g5,?_,?_,g2,g3,g6⟩
  ·rw[<- N,sumTo,hg,g1];omega
  ·rw[<- X,U8,hg]
 rw[O] at hn hs |-;rw[N] at hs |-;rw[X];have Q:∀(k:Nat) (v:Value),g[k]?=some v->∀W,Below w.heap.size w W->W.cell? ⟨pb,k,none⟩=some v:=λk v y W hb=>zh hb (hp k v y);have cg:=λW=>LX (S n) W hs;have I:=hid each;have J:=hid Q;have z:=hid q;have Y:=hid cg;have B:=hid S0;have C:=hid T0;clear each Q q cg S0 T0 hp hc hl O N X;go_enter func63,ntmps63
 go_wp2
 go_loopw [3,5,11] (λsv _ G wr=>∃k:Nat,k<=n/\G = .int .i64 k/\sv = .int .i64 (S k:Int)/\wr=w) (λ_ _ G _=>n-(intOf G).toNat)
 case atStart=>exact⟨0,zU _,rfl,by rw[B.out];rfl,rfl⟩
 case round=>
  obtain⟨k,t,rfl,rfl,R⟩:=hrel;rw[R];clear R
  by_cases hlt:k<n
  ·obtain⟨v,xs,a,m,c,y,rfl,_,_,_,f,_,_,_,_⟩:=I.out k hlt;have p0:=J.out k _ y w (zi _ _);have hz:=z.out k t;have c2:=z.out (k+1) hlt;have a1:=hid f;have k0:(0:Int)<=(k:Int):=jL _;have k1:(k:Int)<(n:Int):=by omega
   have d4:¬((S k:Int)+(m:Int)<0):=by omega
   have a5:S k+m<=1000:=by omega
   clear f I J z Y C y;go_wp2_with fail
   go_roundw
   case rel=>exact⟨k+1,by omega,by go_num,by rw[a1.out];go_num,by trivial⟩
   case measure=>simp[intOf];omega
  ·have E:n=k:=by omega
   subst E;clear hlt t
   go_wp2_with (go_at_call 112;refine (Y.out _).mono ?_;rintro e w1 ⟨gv,rfl,P,hb⟩;have M:=hid P;have K:=hid hb;clear P hb)
   go_loopw [6,8,27] (λov _ G wr=>∃k:Nat,k<=n/\G = .int .i64 k/\wr.ownsRow w.heap.size 156 2 ov (S k) (T k)/\Below w.heap.size w wr) (λ_ _ G _=>n-(intOf G).toNat)
   case atStart=>exact⟨0,zU _,rfl,by rw[B.out,C.out];exact M.out,K.out⟩
   case round=>
    obtain⟨k,t,rfl,P,hb⟩:=hrel;have L:=hid P;have H:=hid hb;have b0:=H.out.size;clear P hb M K B C Y
    by_cases hlt:k<n
    ·obtain⟨v,xs,a,m,c,y,a6,U,F,r,f,D,_,_,d⟩:=I.out k hlt;subst a6;have p0:=J.out k _ y wr H.out;have hz:=z.out (k+1) hlt;have k0:(0:Int)<=(k:Int):=jL _;have k1:(k:Int)<(n:Int):=by omega
     have h:Hid (S (k+1)=S k+m/\T (k+1)=T k++xs):=⟨f,D⟩;have a5:S k+m<=1000:=by omega
     cases a with
     | none=>
      obtain⟨rfl,rfl⟩:=F rfl;have V:xs=[]:=uW.1 (by omega);have A:Hid (wr.ownsRow w.heap.size 156 2 u6 (S (k+1)) (T (k+1))):=hid (by rw[h.out.1,h.out.2,V,List.append_nil];exact L.out);clear d F r f D I J z y V U h
      go_wp2_with (at_builtin;refine wpList_append_own_none rfl _ _ 78 rfl w.heap.size 156 i0 2 underlying78 hi _ (S k) (T k) rfl L.out rfl ?_)
      go_wp2_with fail
      go_roundw
      case rel=>exact⟨k+1,by omega,by go_num,A.out,H.out⟩
      case measure=>simp[intOf];omega
     | some ad=>
      have x:∀(j:Nat) (u:Value),xs[j]?=some u->wr.cell? (ad.add j)=some u:=λj u hu=>by
       obtain⟨gb,o,e,hq⟩:=d j u hu;injection e with e
       subst e;rw[addr_add];exact zh H.out hq
      have a2:=hid x;have a0:=hid r;clear d F r f D I J z y x
      go_wp2_with (at_builtin;refine YF _ rfl _ _ 78 rfl w.heap.size 156 i0 (.agg #[.string ⟨#[]⟩,.slice none 0 0]) 2 40 underlying78 hi a7 a8 a9 rfl (by decide) _ (S k) (T k) rfl L.out ad m c xs rfl U a2.out a0.out ?_ ?_ ?_ ?_)
      ·unfold maxLen;omega
      ·omega
      ·omega
      ·intro v' w3 s p _;have A:Hid (w3.ownsRow w.heap.size 156 2 v' (S (k+1)) (T (k+1))):=hid (by rw[h.out.1,h.out.2];exact s);have Z:Hid (Below w.heap.size w w3):=H.out.grown p b0 (λk t=>(World.ownsRow.lt L.out k t).1);clear s p;go_wp2_with fail
       go_roundw
       case rel=>exact⟨k+1,by omega,by go_num,A.out,Z.out⟩
       case measure=>simp[intOf];omega
    ·have E:n=k:=by omega
     subst E;clear I J z hlt;go_wp2_with fail;go_ret;exact⟨_,rfl,L.out,H.out⟩
def yY(M:Nat->Prop)(W:World)(xs:List Value)(L:List zu):Prop:=
 xs.length=L.length*2/\∀(k:Nat) (x:zu),L[k]?=some x->∃a c b,xs[k*2]?=some (.string x.1)/\xs[k*2+1]?=some (.slice a c b)/\yV M W (.slice a c b) x.2
theorem yY.turn{M:Nat->Prop}{W a:World}{xs:List Value}{L:List zu}(h:yY M W xs L)(k:zC M W a):yY M a xs L:=
 ⟨h.1,λj x i=>by obtain⟨b,d,c,e,f,g⟩:=h.2 j x i;exact⟨b,d,c,e,f,g.turn k⟩⟩
theorem yY.one{M:Nat->Prop}{W:World}{b:Option Addr}{d c:Nat}{x:zu}(h:yV M W (.slice b d c) x.2):yY M W [.string x.1,.slice b d c] [x]:=by
 refine⟨rfl,λk y a=>?_⟩
 match k,a with
 | 0,a=>
  simp only[kS,Option.some.injEq] at a;subst a;exact⟨b,d,c,rfl,rfl,h⟩
 | k+1,a=>simp at a
theorem yY.nil{M:Nat->Prop}{W:World}:yY M W [] []:=⟨rfl,λk x a=>by simp at a⟩
theorem yY.take{M:Nat->Prop}{W:World}{xs:List Value}{L:List zu}(h:yY M W xs L)(p:Nat):yY M W (xs.take (p*2)) (L.take p):=by
 refine⟨by rw[xE,xE,h.1];omega,λk x a=>?_⟩;rw[Qk] at a
 split at a
 ·rename_i i;obtain⟨b,d,c,e,f,g⟩:=h.2 k x a;exact⟨b,d,c,by rw[Qk,zb (by omega)];exact e,by rw[Qk,zb (by omega)];exact f,g⟩
 ·cases a
theorem yY.drop{M:Nat->Prop}{W:World}{xs:List Value}{L:List zu}(h:yY M W xs L)(p:Nat):yY M W (xs.drop (p*2)) (L.drop p):=by
 refine⟨by rw[Zu,Zu,h.1];omega,λk x a=>?_⟩;rw[YQ] at a;obtain⟨b,d,c,e,f,g⟩:=h.2 (p+k) x a;exact⟨b,d,c,by rw[YQ,show p*2+k*2=(p+k)*2 by omega];exact e,by rw[YQ,show p*2+(k*2+1)=(p+k)*2+1 by omega];exact f,g⟩
theorem yY.app{M:Nat->Prop}{W:World}{xs j:List Value}{L N:List zu}(h:yY M W xs L)(g:yY M W j N):yY M W (xs++j) (L++N):=by
 refine⟨by rw[qL,qL,h.1,g.1];omega,λk x a=>?_⟩
 by_cases hk:k<L.length
 ·rw[kR hk] at a;obtain⟨b,d,c,e,f,i⟩:=h.2 k x a;exact⟨b,d,c,by rw[kR (by rw[h.1];omega)];exact e,by rw[kR (by rw[h.1];omega)];exact f,i⟩
 ·rw[ZR (by omega)] at a;obtain⟨b,d,c,e,f,i⟩:=g.2 (k-L.length) x a;exact⟨b,d,c,by rw[ZR (by rw[h.1];omega),h.1,show k*2-L.length*2=(k-L.length)*2 by omega];exact e,by rw[ZR (by rw[h.1];omega),h.1,show k*2+1-L.length*2=(k-L.length)*2+1 by omega];exact f,i⟩
theorem xO.flat{M:Nat->Prop}{W:World}{s:Value}{L:List zu}(h:xO M W s L):∃xs,Zt W s xs/\yY M W xs L:=by
 obtain⟨a,c,rfl,v,q,w,B⟩:=id h;have l:=h.cells.2.2.2
 by_cases h0:L.length=0
 ·have y:L=[]:=uW.1 h0;subst y;exact⟨[],⟨a,0,c,rfl,rfl,zU _,q,λe=>⟨rfl,w e⟩,by simp,λj u b=>by simp at b⟩,yY.nil⟩
 ·obtain⟨g,o,_,_,_,t,_⟩:=l 0 _ (zt (by omega));subst t
  have cell:∀j,j<L.length*2->∃u,W.cell? ⟨g,o+j,none⟩=some u/\u.oneCell'=true:=by
   intro j f;obtain⟨i,A,m,p,n,e,_,c0,c1,_⟩:=l (j / 2) _ (zt (by omega));injection e with e
   injection e with e1 e2
   subst e1 e2
   by_cases he:j % 2=0
   ·have:j=j / 2*2:=by omega
    rw[this];exact⟨_,c0,rfl⟩
   ·have:o+j=o+j / 2*2+1:=by omega
    rw[this];exact⟨_,c1,rfl⟩
  have get:∀j,j<L.length*2->((List.range (L.length*2)).map λj=>(W.cell? ⟨g,o+j,none⟩).getD undef)[j]?=W.cell? ⟨g,o+j,none⟩:=by
   intro j f;obtain⟨u,b,_⟩:=cell j f;rw[vv,VA f];simp only[Q3];rw[b]
   rfl
  refine⟨(List.range (L.length*2)).map λj=>(W.cell? ⟨g,o+j,none⟩).getD undef,⟨some ⟨g,o,none⟩,L.length,c,rfl,by simp,v,q,(λe=>by cases e),?_,?_⟩,by simp,?_⟩
  ·intro u b;obtain⟨j,f,rfl⟩:=qR.1 b;obtain⟨u,b,z⟩:=cell j (vQ.1 f);rw[b];exact z
  ·intro j u b
   have f:j<L.length*2:=by
    have:=(xw.1 b).1
    simpa using this
   rw[get j f] at b;exact⟨g,o,rfl,b⟩
  ·intro k x r;have C:k<L.length:=(xw.1 r).1;obtain⟨i,A,m,p,n,e,_,c0,c1,d⟩:=l k x r;injection e with e
   injection e with e1 e2
   subst e1 e2;exact⟨m,p,n,by rw[get _ (by omega)];exact c0,by rw[get _ (by omega)];exact c1,d⟩
theorem fH{M:Nat->Prop}{W:World}{base:Nat}{v:Value}{n:Nat}{xs:List Value}{L:List zu}(h:W.ownsRow base 156 2 v n xs)(c:yY M W xs L)(r:∀b,M b->b<base):xO M W v L:=by
 have t:n=L.length:=by have:=h.1;have:=c.1;omega
 subst t;have a:=λg cap (e:v = .slice (some ⟨g,0,none⟩) L.length cap)=>World.ownsRow.cellAt (w:=W) (base:=base) (e:=156) (size:=2) (n:=L.length) (xs:=xs) (g:=g) (cap:=cap) (by rw[<- e];exact h)
 rcases h.2 with ⟨e,h0⟩|⟨g,cap,cur,e,hg,hh,h1,h2,_⟩
 ·have q:L=[]:=uW.1 h0;subst q;rw[e];exact sF M W
 ·refine⟨some ⟨g,0,none⟩,cap,e,h1,h2,(λe=>by cases e),λk x f=>?_⟩;have u:k<L.length:=(xw.1 f).1;obtain⟨i,l,j,m,o,p⟩:=c.2 k x f;have d:=a g cap e;refine⟨g,0,.slice i l j,rfl,λs=>absurd (r g s) (by omega),?_,?_,p⟩
  ·rw[qM,d _ (by have:=c.1;omega)];exact m
  ·rw[qM,d _ (by have:=c.1;omega)];exact o
theorem Zt.take{W:World}{a:Option Addr}{n c:Nat}{xs:List Value}(h:Zt W (.slice a n c) xs){p:Nat}(q:p<=n):Zt W (.slice a p c) (xs.take (p*2)):=by
 obtain⟨l,r,m,e,f,o,g,d,i,k⟩:=h;injection e with e1 e2 e3
 subst e1 e2 e3;refine⟨a,p,c,rfl,by rw[xE,f];omega,by omega,g,λe=>⟨by have:=(d e).1;omega,(d e).2⟩,λu b=>i u (Ju b),λj u b=>?_⟩;rw[Qk] at b
 split at b
 ·exact k j u b
 ·cases b
theorem Zt.drop{W:World}{a:Option Addr}{n c:Nat}{xs:List Value}(h:Zt W (.slice a n c) xs){p:Nat}(y:p<=n):Zt W (.slice (if c=p then a else a.map λx=>x.add (p*2)) (n-p) (c-p)) (xs.drop (p*2)):=by
 obtain⟨s,z,t,e,d,v,w,i,k,l⟩:=h;injection e with e1 e2 e3
 subst e1 e2 e3;refine⟨_,n-p,c-p,rfl,by rw[Zu,d];omega,by omega,by omega,λe=>?_,λu b=>k u (az b),λj u b=>?_⟩
 ·have m:a=none:=by
   split at e
   ·exact e
   ·exact Option.map_eq_none_iff.1 e
  have:=i m
  exact⟨by omega,by omega⟩
 ·have r:j<(xs.drop (p*2)).length:=(xw.1 b).1;rw[Zu,d] at r;rw[YQ] at b;obtain⟨g,o,f,q⟩:=l _ u b;refine⟨g,o+p*2,?_,by rw[aD];exact q⟩;rw[za (by omega),f];simp only[Q3,addr_add]
end Go.Proofs.YtagnlbgbnfnapaaGreatDoor
