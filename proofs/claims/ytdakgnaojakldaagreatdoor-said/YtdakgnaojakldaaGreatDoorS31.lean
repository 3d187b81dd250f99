/- P -/
import Derived.Test.YtdakgnaojakldaaGreatDoorS30
import Derived.Laws.AppendOwnNone
open Go.Proofs.Tryz
set_option maxRecDepth 100000
set_option maxHeartbeats 4000000
namespace Go.Proofs.YtdakgnaojakldaaGreatDoor
open Go.RowKit
structure zy (M:Nat->Prop) (w w':World):Prop where
 os:w'.os=w.os
 tape:w'.tape=w.tape
 output:w'.output=w.output
 size:w.heap.size<=w'.heap.size
 block:∀k,k<w.heap.size->¬M k->w'.heap[k]?=w.heap[k]?
theorem zy.refl(M:Nat->Prop)(w:World):zy M w w:=⟨rfl,rfl,rfl,Nat.le_refl _,λ_ _ _=>rfl⟩
theorem zy.of{M:Nat->Prop}{w a:World}(h:Below w.heap.size w a):zy M w a:=⟨h.os,h.tape,h.output,h.size,λk b _=>h.block k b⟩
theorem zy.trans{M:Nat->Prop}{a b c:World}(h:zy M a b)(k:zy M b c):zy M a c:=
 ⟨k.os.trans h.os,k.tape.trans h.tape,k.output.trans h.output,Nat.le_trans h.size k.size,λx e d=>(k.block x (Nat.lt_of_lt_of_le e h.size) d).trans (h.block x e d)⟩
theorem zy.wide{M d:Nat->Prop}{a b:World}(h:zy M a b)(f:∀k,k<a.heap.size->M k->d k):zy d a b:=
 ⟨h.os,h.tape,h.output,h.size,λk e g=>h.block k e (λc=>g (f k e c))⟩
theorem zy.below{M:Nat->Prop}{B:Nat}{a b:World}(h:zy M a b)(e:∀k,k<B->¬M k)(d:B<=a.heap.size):Below B a b:=
 ⟨h.os,h.tape,h.output,h.size,λk c=>h.block k (Nat.lt_of_lt_of_le c d) (e k c)⟩
theorem zy.set{M:Nat->Prop}(w:World){b:Nat}(hb:M b)(o:Nat)(u:Value):zy M w (w.setCell ⟨b,o,none⟩ u):=by
 exact⟨rfl,rfl,rfl,by simp[World.setCell],λk _ a=>Below.heap_setCell _ _ _ _ (λe=>a (by simp only at e;rw[e];exact hb))⟩
theorem zy.cell{M:Nat->Prop}{a b:World}(h:zy M a b){x:Addr}{v:Value}(e:¬M x.block)(c:a.cell? x=some v):b.cell? x=some v:=by
 have d:x.block<a.heap.size:=World.block_lt_of_cell? _ _ c
 have:=h.block x.block d e
 unfold World.cell? at c |-;rw[this];exact c
def Same(base:Nat)(w a:World):Prop:=∀b,base<=b->b<w.heap.size->a.heap[b]?=w.heap[b]?
theorem VR{w b:World}{base:Nat}{e:TypeId}{size:Nat}{v:Value}{n:Nat}{xs:List Value}(h:w.ownsRow base e size v n xs)(hb:Same base w b):b.ownsRow base e size v n xs:=by
 obtain⟨c,a⟩:=h;refine⟨c,?_⟩
 rcases a with a|⟨g,cap,cur,hv,hg,hh,h3⟩
 ·exact .inl a
 ·exact .inr ⟨g,cap,cur,hv,hg,by rw[hb g hg (lt_of_block hh)];exact hh,h3⟩
theorem zO.same{w c:World}{base:Nat}{a:Value}{b:List BY}(h:zO w base a b)(hb:Same base w c):zO c base a b:=VR h hb
theorem qA.same{w b:World}{base:Nat}{a:Value}{cs:List zQ}(h:qA w base a cs)(hb:Same base w b):qA b base a cs:=by
 obtain⟨xs,i,k⟩:=h;refine⟨xs,VR i hb,λj l=>?_⟩;obtain⟨m,c,d,e,f,g⟩:=k j l;exact⟨m,c,d,e,f,g.same hb⟩
theorem yc.same{w e:World}{base:Nat}{c:Value}{d:List zz}(h:yc w base c d)(hb:Same base w e):yc e base c d:=by
 obtain⟨xs,a,b⟩:=h;refine⟨xs,VR a hb,λj r=>?_⟩;obtain⟨s,t,u,v,l,a,b,m,n,o,p,q,f,g,i,k⟩:=b j r;exact⟨s,t,u,v,l,a,b,m,n,o,p,q,f.same hb,g.same hb,i.same hb,k.same hb⟩
def xx(M:Nat->Prop)(W:World)(c:Value)(d:List zz):Prop:=
 ∃base a,yc a base c d/\a.heap.size<=W.heap.size/\∀b,base<=b->b<a.heap.size->¬M b/\W.heap[b]?=a.heap[b]?
theorem xx.at{M:Nat->Prop}{W:World}{a:Value}{c:List zz}(h:xx M W a c):∃base,yc W base a c:=by
 obtain⟨base,g,d,_,e⟩:=h;exact⟨base,d.same (λb hb f=>(e b hb f).2)⟩
theorem xx.turn{M:Nat->Prop}{W d:World}{e:Value}{g:List zz}(h:xx M W e g)(k:zy M W d):xx M d e g:=by
 obtain⟨base,i,j,f,c⟩:=h;exact⟨base,i,j,Nat.le_trans f k.size,λb hb a=>⟨(c b hb a).1,(k.block b (Nat.lt_of_lt_of_le a f) (c b hb a).1).trans (c b hb a).2⟩⟩
theorem xx.of{M:Nat->Prop}{W:World}{a:Value}{c:List zz}{base:Nat}(h:yc W base a c)(d:∀b,M b->b<base):xx M W a c:=
 ⟨base,W,h,Nat.le_refl _,λb hb _=>⟨λe=>absurd (d b e) (by omega),rfl⟩⟩
theorem xx.more{M a:Nat->Prop}{W:World}{c:Value}{f:List zz}(h:xx M W c f)(k:∀b,a b->M b\/W.heap.size<=b):xx a W c f:=by
 obtain⟨base,g,i,j,d⟩:=h;refine⟨base,g,i,j,λb hb e=>⟨λl=>?_,(d b hb e).2⟩⟩
 rcases k b l with h|h
 ·exact (d b hb e).1 h
 ·omega
abbrev zm:=BY×List zz
def xh(M:Nat->Prop)(W:World)(e:Value)(L:List zm):Prop:=
 ∃a c,e = .slice a L.length c/\L.length<=c/\c<=maxLen/\(a=none->c=0)/\∀(k:Nat) (x:zm),L[k]?=some x->∃b o d,a=some ⟨b,o,none⟩/\¬M b/\W.cell? ⟨b,o+k*2,none⟩=some (.string x.1)/\W.cell? ⟨b,o+k*2+1,none⟩=some d/\xx M W d x.2
theorem xh.turn{M:Nat->Prop}{W f:World}{g:Value}{L:List zm}(h:xh M W g L)(k:zy M W f):xh M f g L:=by
 obtain⟨a,c,rfl,m,n,q,p⟩:=h;refine⟨a,c,rfl,m,n,q,λj x r=>?_⟩;obtain⟨l,o,i,e,b,c0,c1,d⟩:=p j x r;exact⟨l,o,i,e,b,k.cell b c0,k.cell b c1,d.turn k⟩
theorem xh.more{M i:Nat->Prop}{W:World}{l:Value}{L:List zm}(h:xh M W l L)(k:∀b,i b->M b\/W.heap.size<=b):xh i W l L:=by
 obtain⟨a,c,rfl,n,p,r,q⟩:=h;refine⟨a,c,rfl,n,p,r,λj x t=>?_⟩;obtain⟨f,o,m,e,s,c0,c1,d⟩:=q j x t;refine⟨f,o,m,e,λg=>?_,c0,c1,d.more k⟩;have u:f<W.heap.size:=World.block_lt_of_cell? _ _ c0
 rcases k f g with h|h
 ·exact s h
 ·omega
theorem bB(M:Nat->Prop)(W:World):xh M W (.slice none 0 0) []:=⟨none,0,rfl,Nat.le_refl _,by unfold maxLen;omega,λ_=>rfl,λk x a=>by simp at a⟩
def qh(a b:BY):Int:=Lib.compareBytes a.data.toList b.data.toList
def ltN(name:BY)(x:zm):Bool:=decide (qh x.1 name<0)
def qF(L:List zm)(name:BY):Nat:=(L.takeWhile (ltN name)).length
def zt(L:List zm)(name:BY):Bool:=match L[qF L name]? with
 | some x=>qh x.1 name==0
 | none=>false
def Down(L:List zm)(name:BY):Prop:=∀(a b:Nat) (x y:zm),a<b->L[a]?=some x->L[b]?=some y->ltN name y=true->ltN name x=true
theorem Uu{α:Type}(p:α->Bool):∀(l:List α) (i:Nat),i<=l.length->(∀(k:Nat) (x:α),k<i->l[k]?=some x->p x=true)->(∀(k:Nat) (x:α),i<=k->l[k]?=some x->p x=false)->(l.takeWhile p).length=i
 | [],i,h,_,_=>by simp at h;simp[h]
 | a::l,0,_,_,h2=>by
  have:=h2 0 a (Nat.le_refl _) rfl
  rw[List.takeWhile_cons,this]
  rfl
 | a::l,i+1,h,h1,h2=>by
  have c:=h1 0 a (Nat.succ_pos _) rfl
  have:=Uu p l i (by simpa using h) (λk x d b=>h1 (k+1) x (by omega) (by simpa using b)) (λk x d b=>h2 (k+1) x (by omega) (by simpa using b))
  rw[List.takeWhile_cons,c];simp[this]
theorem eY(L:List zm)(name:BY):qF L name<=L.length:=by
 unfold qF;exact (List.takeWhile_prefix _).length_le
theorem Ku(a b:BY):qh a b = -1\/qh a b=0\/qh a b=1:=by
 unfold qh;generalize a.data.toList=x;generalize b.data.toList=y
 induction x generalizing y with
 | nil=>cases y<;>simp[Lib.compareBytes]
 | cons p x c=>
  cases y with
  | nil=>simp[Lib.compareBytes]
  | cons q y=>
   unfold Lib.compareBytes
   split
   ·exact .inl rfl
   split
   ·exact .inr (.inr rfl)
   ·exact c y
theorem Kv(nm name:BY)(a:Option Addr)(n c:Nat)(w:World) :
  Calls prog 135 #[.agg #[.string nm,.slice a n c],.string name] w λe b=>e = .returned (.int .i64 (qh nm name))/\Below w.heap.size w b:=by
 have d:=λW=>Any.strings_Compare Tryz.lays106 nm name W;have g:Hid (∀W,Calls prog 136 #[.string nm,.string name] W λe b=>e = .returned (.int .i64 (qh nm name))/\b=W):=hid d;clear d;go_enter func135,ntmps135
 go_wp2_with (go_at_call 136;refine (g.out _).mono ?_;rintro e h ⟨rfl,f⟩;rw[f];clear f)
 go_ret;exact⟨rfl,nb w _⟩
theorem sO:∀args w,(callFunc 135 args).run prog w = .ok (.enter 135 args) w:=enters_of func135 (by kernel_rfl) rfl
theorem xh.cells{M:Nat->Prop}{W:World}{a:Option Addr}{n c:Nat}{L:List zm}(h:xh M W (.slice a n c) L):n=L.length/\n<=c/\c<=maxLen/\∀(k:Nat) (x:zm),L[k]?=some x->∃l o f j i,a=some ⟨l,o,none⟩/\¬M l/\W.cell? ⟨l,o+k*2,none⟩=some (.string x.1)/\W.cell? ⟨l,o+k*2+1,none⟩=some (.slice f j i)/\xx M W (.slice f j i) x.2:=by
 obtain⟨C,D,e,w,y,_,p⟩:=h;injection e with e1 e2 e3
 subst e1 e2 e3;refine⟨rfl,w,y,λk x q=>?_⟩;obtain⟨l,o,t,e,z,c0,c1,d⟩:=p k x q;obtain⟨base,B,⟨xs,A,_⟩,_⟩:=d
 have:∃f j i,t = .slice f j i:=by
  rcases A.2 with ⟨e,_⟩|⟨g,cap,cur,e,_⟩
  ·exact⟨_,_,_,e⟩
  ·exact⟨_,_,_,e⟩
 obtain⟨f,j,i,rfl⟩:=this
 exact⟨l,o,f,j,i,e,z,c0,c1,(p k x q).elim (λv ⟨E,u,m,_,r,b,s⟩=>by
  rw[e] at m;injection m with m
  injection m with g1 g2
  subst g1 g2;rw[c1] at b;injection b with b
  rw[b];exact s)⟩
theorem GR(L:List zm)(lv:Value)(name:BY)(M:Nat->Prop)(w:World)(h:xh M w lv L)(hn:L.length<=1000000)(hd:Down L name) :
  Calls prog 134 #[lv,.string name,.func (.func 135) #[] #[]] w λe w'=>e = .returned (.tuple #[.int .i64 (qF L name:Int),.bool (zt L name)])/\Below w.heap.size w w':=by
 obtain⟨a,c,rfl,X,h2⟩:∃a c,lv = .slice a L.length c/\L.length<=c/\c<=maxLen:=by obtain⟨a,c,e,X,h2,_⟩:=h;exact⟨a,c,e,X,h2⟩
 have hc:=h.cells.2.2.2;obtain⟨n,A⟩:=Nm L.length;have t:∀i,i<=n->(∀(k:Nat) (x:zm),k<i->L[k]?=some x->ltN name x=true)->(∀(k:Nat) (x:zm),i<=k->L[k]?=some x->ltN name x=false)->qF L name=i:=λi hi P Q=>Uu (ltN name) L i (by omega) P Q;rw[A] at X hn |-;have K:=hid t;have C:=hid hc;have N:=hid A;have J:=hid hd;have eg:=sO;clear hc A h hd t;go_enter func134,ntmps134
 go_wp2
 go_loopw [9,10] (λiv jv wr=>∃i j:Nat,i<=j/\j<=n/\iv = .int .i64 i/\jv = .int .i64 j/\(∀(k:Nat) (x:zm),k<i->L[k]?=some x->ltN name x=true)/\(∀(k:Nat) (x:zm),j<=k->L[k]?=some x->ltN name x=false)/\Below w.heap.size w wr) (λiv jv _=>(intOf jv).toNat-(intOf iv).toNat)
 case atStart=>exact⟨0,n,Nat.zero_le _,Nat.le_refl _,rfl,rfl,λk x Y=>by omega,λk x Y g=>by have:=(List.getElem?_eq_some_iff.1 g).1;rw[N.out] at this;omega,Below.refl _ _⟩
 case round=>
  obtain⟨i,j,a8,E,rfl,rfl,P,Q,hb⟩:=hrel;have l:=hid hb;have H:=hid P;have I:=hid Q;clear hb P Q
  by_cases hlt:i<j
  ·go_upto_region 5 with fail
   obtain⟨m,hm⟩:∃m:Nat,((i:Int)+(j:Int)) / 2=(m:Int):=⟨(i+j) / 2,by omega⟩;have Z:i<=m:=by omega
   have a9:m<j:=by omega
   rw[hm];have v:m<L.length:=by rw[N.out];omega
   have g:=List.getElem?_eq_getElem v;obtain⟨gb,o,U,W,V,rfl,_,B,F,_⟩:=C.out m _ g;obtain⟨x,q⟩:=Nm (L[m]);rw[q] at B g;have p0:=zg l.out B;have p1:=zg l.out F;have u:=Kv x.1 name U W V wr;obtain⟨z,R⟩:=Nm (qh x.1 name);rw[R] at u;have G:=hid u;have O:=hid g;have k0:(0:Int)<=(m:Int):=Int.natCast_nonneg _;have k1:(m:Int)<(n:Int):=by omega
   have f:ltN name x=decide (z<0):=by unfold ltN;rw[R]
   clear u g B F q C K hm
   by_cases hzn:z<0
   ·rw[decide_eq_true hzn] at f
    go_wp2_with (go_at_fn 135;refine G.out.mono ?_;rintro e w2 ⟨rfl,s⟩;have p:=hid (l.out.trans (s.mono l.out.size));clear s)
    go_roundw
    case rel=>
     refine⟨m+1,j,by omega,E,by go_num,rfl,λk y Y r=>?_,I.out,p.out⟩
     by_cases hkm:k<m
     ·exact J.out k m y x hkm r O.out f
     ·have:k=m:=by omega
      subst this;rw[O.out] at r;injection r with r
      rw[<- r];exact f
    case measure=>simp[intOf];omega
   ·rw[decide_eq_false hzn] at f
    go_wp2_with (go_at_fn 135;refine G.out.mono ?_;rintro e w2 ⟨rfl,s⟩;have p:=hid (l.out.trans (s.mono l.out.size));clear s)
    go_roundw
    case rel=>
     refine⟨i,m,Z,by omega,rfl,rfl,H.out,λk y Y r=>?_,p.out⟩
     by_cases hkm:m<k
     ·cases hly:ltN name y with
      | false=>rfl
      | true=>
       have:=J.out m k x y hkm O.out r hly
       rw[f] at this
       cases this
     ·have:k=m:=by omega
      subst this;rw[O.out] at r;injection r with r
      rw[<- r];exact f
    case measure=>simp[intOf];omega
  ·have D:i=j:=by omega
   subst D;have d:=K.out i E H.out I.out
   have b:zt L name=match L[i]? with
    | some x=>qh x.1 name==0
    | none=>false:=by unfold zt;rw[d]
   by_cases hin:i<n
   ·have v:i<L.length:=by rw[N.out];omega
    have g:=List.getElem?_eq_getElem v;obtain⟨gb,o,U,W,V,rfl,_,B,F,_⟩:=C.out i _ g;rw[g] at b;obtain⟨x,q⟩:=Nm (L[i]);rw[q] at B b;have p0:=zg l.out B;have p1:=zg l.out F;have u:=Kv x.1 name U W V wr;simp only at b;obtain⟨z,R⟩:=Nm (qh x.1 name);rw[R] at u b;have G:=hid u;have T:=hid d;have S:=hid b;have k0:(0:Int)<=(i:Int):=Int.natCast_nonneg _;have k1:(i:Int)<(n:Int):=by omega
    clear u g B F q C K d b J H I hlt
    go_wp2_with (go_at_fn 135;refine G.out.mono ?_;rintro e w2 ⟨rfl,s⟩;have p:=hid (l.out.trans (s.mono l.out.size));clear s)
    go_ret2;exact⟨by rw[T.out,S.out];rfl,p.out⟩
   ·have g:L[i]?=none:=List.getElem?_eq_none (by rw[N.out];omega);rw[g] at b;have T:=hid d;have S:=hid b;clear g C K d b J H I hlt;go_wp2_with fail;go_ret2;exact⟨by rw[T.out,S.out];rfl,l.out⟩
theorem sP(L:List zm)(d:Value)(name:BY)(M:Nat->Prop)(w:World)(h:xh M w d L)(k:L.length<=1000000)(hd:Down L name) :
  Calls prog 83 #[d,.string name] w λe l=>e = .returned (.tuple #[.int .i64 (qF L name:Int),.bool (zt L name)])/\Below w.heap.size w l:=by
 have c1:=GR L d name M w h k hd;obtain⟨a,c,rfl,_⟩:=h;obtain⟨P,i⟩:∃x,qF L name=x:=⟨_,rfl⟩;obtain⟨B,g⟩:∃x,zt L name=x:=⟨_,rfl⟩;rw[i,g] at c1 |-;have j:=hid c1;clear c1 i g;go_enter func83,ntmps83
 go_wp2_with (go_at_call 134;refine j.out.mono ?_;rintro e m ⟨rfl,f⟩;have b:=hid f;clear f)
 go_ret2;exact⟨rfl,b.out⟩
def jT(W:World)(v:Value)(xs:List Value):Prop:=
 ∃a n c,v = .slice a n c/\xs.length=n*2/\n<=c/\c<=maxLen/\(a=none->n=0/\c=0)/\(∀u ∈ xs,u.oneCell'=true)/\∀(j:Nat) (u:Value),xs[j]?=some u->∃b o,a=some ⟨b,o,none⟩/\W.cell? ⟨b,o+j,none⟩=some u
theorem jT.below{W b:World}{v:Value}{xs:List Value}(h:jT W v xs)(hb:Below W.heap.size W b):jT b v xs:=by
 obtain⟨a,n,c,e,f,g,i,k,l,m⟩:=h;exact⟨a,n,c,e,f,g,i,k,l,λj u q=>by obtain⟨d,o,e,p⟩:=m j u q;exact⟨d,o,e,zg hb p⟩⟩
def sumTo(a:List (List Value)):Nat->Nat
 | 0=>0
 | k+1=>sumTo a k+(a.getD k []).length / 2
def YO(a:List (List Value)):Nat->List Value
 | 0=>[]
 | k+1=>YO a k++a.getD k []
theorem Ll(c:List (List Value)){a b:Nat}(h:a<=b):sumTo c a<=sumTo c b:=by
 induction b with
 | zero=>have:a=0:=by omega
         subst this;exact Nat.le_refl _
 | succ b d=>
  by_cases e:a=b+1
  ·subst e;exact Nat.le_refl _
  ·have:=d (by omega)
   rw[sumTo];omega
theorem Vw:(prog.info? 187).map (λi=>(i.zero,i.size,i.bytes))=some (some (.agg #[.string ⟨#[]⟩,.slice none 0 0]),2,40):=by kernel_rfl
theorem iD(z:Array Value)(n:Nat):(Builtin.zeroCells z n).size=n*z.size:=by
 unfold Builtin.zeroCells
 simp
theorem Ae(n:Nat)(w:World)(m:n<=1000) :
  Calls prog 138 #[.slice none 0 0,.int .i64 (n:Int)] w λe b=>∃v,e = .returned v/\b.ownsRow w.heap.size 187 2 v 0 []/\Below w.heap.size w b:=by
 obtain⟨l,hi,f,k,g⟩:=info_parts Vw
 by_cases h0:n=0
 ·subst h0;refine (Any8.slices_Grow_room Tryz.lays8grow none 0 0 0 w (Nat.le_refl _) (by omega) (by omega) (by omega)).mono ?_;rintro e b ⟨rfl,rfl⟩;exact⟨_,rfl,⟨rfl,.inl ⟨rfl,rfl⟩⟩,Below.refl _ _⟩
 ·have c:=Any8.slices_Grow_grow Tryz.lays8grow l _ hi f (by omega) none 0 0 n [] w (Nat.le_refl _) (by omega) (by rw[g];omega) (by omega) (by simp) (λ_=>rfl) (λa h=>by cases h);refine c.mono ?_;rintro e b ⟨rfl,rfl⟩;have d:=grownCap_ge w (0+n) 0 187;have hle:=grownCap_le_maxLen w (0+n) 0 187 (by unfold maxLen;omega);refine⟨_,rfl,⟨by simp,.inr ⟨w.heap.size,_,_,rfl,Nat.le_refl _,heap_alloc_new w.drew _,Nat.zero_le _,hle,?_,by simp⟩⟩,((Below.refl _ w).drew).alloc (Nat.le_refl _) _⟩;have j:(Value.agg #[Value.string ⟨#[]⟩,Value.slice none 0 0]).cells.size=2:=by kernel_rfl
  have i:0+n<=grownCap w (0+n) 0 (Tryz.lays8grow_ren.t 25):=d;rw[Array.size_append,Array.size_append,iD,iD,j];show 0+(0+n-0)*2+(grownCap w (0+n) 0 (Tryz.lays8grow_ren.t 25)-(0+n))*2=grownCap w (0+n) 0 (Tryz.lays8grow_ren.t 25)*2;omega
theorem Ky(g:List Value)(b:List (List Value))(pb:Nat)(w:World)(hl:g.length=b.length)(hp:∀(k:Nat) (v:Value),g[k]?=some v->w.cell? ⟨pb,k,none⟩=some v)(hc:∀(k:Nat) (v:Value) (xs:List Value),g[k]?=some v->b[k]?=some xs->jT w v xs)(hn:g.length<=10)(hs:sumTo b g.length<=1000) :
  Calls prog 85 #[.slice (some ⟨pb,0,none⟩) g.length g.length] w λe w'=>∃v,e = .returned v/\w'.ownsRow w.heap.size 187 2 v (sumTo b g.length) (YO b g.length)/\Below w.heap.size w w':=by
 obtain⟨i0,hi,a7,a8,a9⟩:=info_parts Vw;obtain⟨n,O⟩:=Nm g.length;obtain⟨S,N⟩:∃S:Nat->Nat,sumTo b=S:=⟨_,rfl⟩;obtain⟨T,X⟩:∃T:Nat->List Value,YO b=T:=⟨_,rfl⟩;have S0:S 0=0:=by rw[<- N];rfl
 have T0:T 0=[]:=by rw[<- X];rfl
 have q:∀k,k<=n->S k<=S n:=λk t=>by rw[<- N];exact Ll b t
 have each:∀k,k<n->∃v xs a m c,g[k]?=some v/\v = .slice a m c/\xs.length=m*2/\(a=none->m=0/\c=0)/\(∀u ∈ xs,u.oneCell'=true)/\S (k+1)=S k+m/\T (k+1)=T k++xs/\m<=c/\c<=maxLen /\
   (∀(j:Nat) (u:Value),xs[j]?=some u->∃gb o,a=some ⟨gb,o,none⟩/\w.cell? ⟨gb,o+j,none⟩=some u):=by
  intro k t;have h1:=List.getElem?_eq_getElem (l:=g) (i:=k) (by omega);have h2:=List.getElem?_eq_getElem (l:=b) (i:=k) (by omega);obtain⟨a,m,c,e,g1,g2,g3,g4,g5,g6⟩:=hc k _ _ h1 h2;have hg:b.getD k []=b[k]'(by omega):=by rw[List.getD_eq_getElem?_getD,h2];rfl
  refine⟨_,_,a,m,c,h1,e,g1,g4,g5,?_,?_,g2,g3,g6⟩
  ·rw[<- N,sumTo,hg,g1];omega
  ·rw[<- X,YO,hg]
 rw[O] at hn hs |-;rw[N] at hs |-;rw[X];have Q:∀(k:Nat) (v:Value),g[k]?=some v->∀W,Below w.heap.size w W->W.cell? ⟨pb,k,none⟩=some v:=λk v y W hb=>zg hb (hp k v y);have cg:=λW=>Ae (S n) W hs;have I:=hid each;have J:=hid Q;have z:=hid q;have Y:=hid cg;have B:=hid S0;have C:=hid T0;clear each Q q cg S0 T0 hp hc hl O N X;go_enter func85,ntmps85
 go_wp2
 go_loopw [3,5,11] (λsv _ G wr=>∃k:Nat,k<=n/\G = .int .i64 k/\sv = .int .i64 (S k:Int)/\wr=w) (λ_ _ G _=>n-(intOf G).toNat)
 case atStart=>exact⟨0,Nat.zero_le _,rfl,by rw[B.out];rfl,rfl⟩
 case round=>
  obtain⟨k,t,rfl,rfl,R⟩:=hrel;rw[R];clear R
  by_cases hlt:k<n
  ·obtain⟨v,xs,a,m,c,y,rfl,_,_,_,f,_,_,_,_⟩:=I.out k hlt;have p0:=J.out k _ y w (Below.refl _ _);have hz:=z.out k t;have c2:=z.out (k+1) hlt;have a1:=hid f;have k0:(0:Int)<=(k:Int):=Int.natCast_nonneg _;have k1:(k:Int)<(n:Int):=by omega
   have d4:¬((S k:Int)+(m:Int)<0):=by omega
   have a5:S k+m<=1000:=by omega
   clear f I J z Y C y;go_wp2_with fail
   go_roundw
   case rel=>exact⟨k+1,by omega,by go_num,by rw[a1.out];go_num,by trivial⟩
   case measure=>simp[intOf];omega
  ·have E:n=k:=by omega
   subst E;clear hlt t
   go_wp2_with (go_at_call 138;refine (Y.out _).mono ?_;rintro e w1 ⟨gv,rfl,P,hb⟩;have M:=hid P;have K:=hid hb;clear P hb)
   go_loopw [6,8,27] (λov _ G wr=>∃k:Nat,k<=n/\G = .int .i64 k/\wr.ownsRow w.heap.size 187 2 ov (S k) (T k)/\Below w.heap.size w wr) (λ_ _ G _=>n-(intOf G).toNat)
   case atStart=>exact⟨0,Nat.zero_le _,rfl,by rw[B.out,C.out];exact M.out,K.out⟩
   case round=>
    obtain⟨k,t,rfl,P,hb⟩:=hrel;have L:=hid P;have H:=hid hb;have b0:=H.out.size;clear P hb M K B C Y
    by_cases hlt:k<n
    ·obtain⟨v,xs,a,m,c,y,a6,U,F,r,f,D,_,_,d⟩:=I.out k hlt;subst a6;have p0:=J.out k _ y wr H.out;have hz:=z.out (k+1) hlt;have k0:(0:Int)<=(k:Int):=Int.natCast_nonneg _;have k1:(k:Int)<(n:Int):=by omega
     have h:Hid (S (k+1)=S k+m/\T (k+1)=T k++xs):=⟨f,D⟩;have a5:S k+m<=1000:=by omega
     cases a with
     | none=>
      obtain⟨rfl,rfl⟩:=F rfl;have V:xs=[]:=List.length_eq_zero_iff.1 (by omega);have A:Hid (wr.ownsRow w.heap.size 187 2 u6 (S (k+1)) (T (k+1))):=hid (by rw[h.out.1,h.out.2,V,List.append_nil];exact L.out);clear d F r f D I J z y V U h
      go_wp2_with (at_builtin;refine wpList_append_own_none rfl _ _ 98 rfl w.heap.size 187 i0 2 underlying98 hi _ (S k) (T k) rfl L.out rfl ?_)
      go_wp2_with fail
      go_roundw
      case rel=>exact⟨k+1,by omega,by go_num,A.out,H.out⟩
      case measure=>simp[intOf];omega
     | some ad=>
      have x:∀(j:Nat) (u:Value),xs[j]?=some u->wr.cell? (ad.add j)=some u:=λj u hu=>by
       obtain⟨gb,o,e,hq⟩:=d j u hu;injection e with e
       subst e;rw[addr_add];exact zg H.out hq
      have a2:=hid x;have a0:=hid r;clear d F r f D I J z y x
      go_wp2_with (at_builtin;refine wpList_append_own _ rfl _ _ 98 rfl w.heap.size 187 i0 (.agg #[.string ⟨#[]⟩,.slice none 0 0]) 2 40 underlying98 hi a7 a8 a9 rfl (by decide) _ (S k) (T k) rfl L.out ad m c xs rfl U a2.out a0.out ?_ ?_ ?_ ?_)
      ·unfold maxLen;omega
      ·omega
      ·omega
      ·intro v' w3 s p _;have A:Hid (w3.ownsRow w.heap.size 187 2 v' (S (k+1)) (T (k+1))):=hid (by rw[h.out.1,h.out.2];exact s);have Z:Hid (Below w.heap.size w w3):=H.out.grown p b0 (λk t=>(World.ownsRow.lt L.out k t).1);clear s p;go_wp2_with fail
       go_roundw
       case rel=>exact⟨k+1,by omega,by go_num,A.out,Z.out⟩
       case measure=>simp[intOf];omega
    ·have E:n=k:=by omega
     subst E;clear I J z hlt;go_wp2_with fail;go_ret;exact⟨_,rfl,L.out,H.out⟩
def xz(M:Nat->Prop)(W:World)(xs:List Value)(L:List zm):Prop:=
 xs.length=L.length*2/\∀(k:Nat) (x:zm),L[k]?=some x->∃a c b,xs[k*2]?=some (.string x.1)/\xs[k*2+1]?=some (.slice a c b)/\xx M W (.slice a c b) x.2
theorem xz.turn{M:Nat->Prop}{W a:World}{xs:List Value}{L:List zm}(h:xz M W xs L)(k:zy M W a):xz M a xs L:=
 ⟨h.1,λj x i=>by obtain⟨b,d,c,e,f,g⟩:=h.2 j x i;exact⟨b,d,c,e,f,g.turn k⟩⟩
theorem xz.one{M:Nat->Prop}{W:World}{b:Option Addr}{d c:Nat}{x:zm}(h:xx M W (.slice b d c) x.2):xz M W [.string x.1,.slice b d c] [x]:=by
 refine⟨rfl,λk y a=>?_⟩
 match k,a with
 | 0,a=>
  simp only[List.getElem?_cons_zero,Option.some.injEq] at a;subst a;exact⟨b,d,c,rfl,rfl,h⟩
 | k+1,a=>simp at a
theorem xz.nil{M:Nat->Prop}{W:World}:xz M W [] []:=⟨rfl,λk x a=>by simp at a⟩
theorem xz.take{M:Nat->Prop}{W:World}{xs:List Value}{L:List zm}(h:xz M W xs L)(p:Nat):xz M W (xs.take (p*2)) (L.take p):=by
 refine⟨by rw[List.length_take,List.length_take,h.1];omega,λk x a=>?_⟩;rw[List.getElem?_take] at a
 split at a
 ·rename_i i;obtain⟨b,d,c,e,f,g⟩:=h.2 k x a;exact⟨b,d,c,by rw[List.getElem?_take,if_pos (by omega)];exact e,by rw[List.getElem?_take,if_pos (by omega)];exact f,g⟩
 ·cases a
theorem xz.drop{M:Nat->Prop}{W:World}{xs:List Value}{L:List zm}(h:xz M W xs L)(p:Nat):xz M W (xs.drop (p*2)) (L.drop p):=by
 refine⟨by rw[List.length_drop,List.length_drop,h.1];omega,λk x a=>?_⟩;rw[List.getElem?_drop] at a;obtain⟨b,d,c,e,f,g⟩:=h.2 (p+k) x a;exact⟨b,d,c,by rw[List.getElem?_drop,show p*2+k*2=(p+k)*2 by omega];exact e,by rw[List.getElem?_drop,show p*2+(k*2+1)=(p+k)*2+1 by omega];exact f,g⟩
theorem xz.app{M:Nat->Prop}{W:World}{xs j:List Value}{L N:List zm}(h:xz M W xs L)(g:xz M W j N):xz M W (xs++j) (L++N):=by
 refine⟨by rw[List.length_append,List.length_append,h.1,g.1];omega,λk x a=>?_⟩
 by_cases hk:k<L.length
 ·rw[List.getElem?_append_left hk] at a;obtain⟨b,d,c,e,f,i⟩:=h.2 k x a;exact⟨b,d,c,by rw[List.getElem?_append_left (by rw[h.1];omega)];exact e,by rw[List.getElem?_append_left (by rw[h.1];omega)];exact f,i⟩
 ·rw[List.getElem?_append_right (by omega)] at a;obtain⟨b,d,c,e,f,i⟩:=g.2 (k-L.length) x a;exact⟨b,d,c,by rw[List.getElem?_append_right (by rw[h.1];omega),h.1,show k*2-L.length*2=(k-L.length)*2 by omega];exact e,by rw[List.getElem?_append_right (by rw[h.1];omega),h.1,show k*2+1-L.length*2=(k-L.length)*2+1 by omega];exact f,i⟩
theorem xh.flat{M:Nat->Prop}{W:World}{s:Value}{L:List zm}(h:xh M W s L):∃xs,jT W s xs/\xz M W xs L:=by
 obtain⟨a,c,rfl,v,q,w,B⟩:=id h;have l:=h.cells.2.2.2
 by_cases h0:L.length=0
 ·have y:L=[]:=List.length_eq_zero_iff.1 h0;subst y;exact⟨[],⟨a,0,c,rfl,rfl,Nat.zero_le _,q,λe=>⟨rfl,w e⟩,by simp,λj u b=>by simp at b⟩,xz.nil⟩
 ·obtain⟨g,o,_,_,_,t,_⟩:=l 0 _ (List.getElem?_eq_getElem (by omega));subst t
  have cell:∀j,j<L.length*2->∃u,W.cell? ⟨g,o+j,none⟩=some u/\u.oneCell'=true:=by
   intro j f;obtain⟨i,A,m,p,n,e,_,c0,c1,_⟩:=l (j / 2) _ (List.getElem?_eq_getElem (by omega));injection e with e
   injection e with e1 e2
   subst e1 e2
   by_cases he:j % 2=0
   ·have:j=j / 2*2:=by omega
    rw[this];exact⟨_,c0,rfl⟩
   ·have:o+j=o+j / 2*2+1:=by omega
    rw[this];exact⟨_,c1,rfl⟩
  have get:∀j,j<L.length*2->((List.range (L.length*2)).map λj=>(W.cell? ⟨g,o+j,none⟩).getD undef)[j]?=W.cell? ⟨g,o+j,none⟩:=by
   intro j f;obtain⟨u,b,_⟩:=cell j f;rw[List.getElem?_map,List.getElem?_range f];simp only[Option.map_some];rw[b]
   rfl
  refine⟨(List.range (L.length*2)).map λj=>(W.cell? ⟨g,o+j,none⟩).getD undef,⟨some ⟨g,o,none⟩,L.length,c,rfl,by simp,v,q,(λe=>by cases e),?_,?_⟩,by simp,?_⟩
  ·intro u b;obtain⟨j,f,rfl⟩:=List.mem_map.1 b;obtain⟨u,b,z⟩:=cell j (List.mem_range.1 f);rw[b];exact z
  ·intro j u b
   have f:j<L.length*2:=by
    have:=(List.getElem?_eq_some_iff.1 b).1
    simpa using this
   rw[get j f] at b;exact⟨g,o,rfl,b⟩
  ·intro k x r;have C:k<L.length:=(List.getElem?_eq_some_iff.1 r).1;obtain⟨i,A,m,p,n,e,_,c0,c1,d⟩:=l k x r;injection e with e
   injection e with e1 e2
   subst e1 e2;exact⟨m,p,n,by rw[get _ (by omega)];exact c0,by rw[get _ (by omega)];exact c1,d⟩
theorem bE{M:Nat->Prop}{W:World}{base:Nat}{v:Value}{n:Nat}{xs:List Value}{L:List zm}(h:W.ownsRow base 187 2 v n xs)(c:xz M W xs L)(r:∀b,M b->b<base):xh M W v L:=by
 have t:n=L.length:=by have:=h.1;have:=c.1;omega
 subst t;have a:=λg cap (e:v = .slice (some ⟨g,0,none⟩) L.length cap)=>World.ownsRow.cellAt (w:=W) (base:=base) (e:=187) (size:=2) (n:=L.length) (xs:=xs) (g:=g) (cap:=cap) (by rw[<- e];exact h)
 rcases h.2 with ⟨e,h0⟩|⟨g,cap,cur,e,hg,hh,h1,h2,_⟩
 ·have q:L=[]:=List.length_eq_zero_iff.1 h0;subst q;rw[e];exact bB M W
 ·refine⟨some ⟨g,0,none⟩,cap,e,h1,h2,(λe=>by cases e),λk x f=>?_⟩;have u:k<L.length:=(List.getElem?_eq_some_iff.1 f).1;obtain⟨i,l,j,m,o,p⟩:=c.2 k x f;have d:=a g cap e;refine⟨g,0,.slice i l j,rfl,λs=>absurd (r g s) (by omega),?_,?_,p⟩
  ·rw[Nat.zero_add,d _ (by have:=c.1;omega)];exact m
  ·rw[Nat.zero_add,d _ (by have:=c.1;omega)];exact o
theorem jT.take{W:World}{a:Option Addr}{n c:Nat}{xs:List Value}(h:jT W (.slice a n c) xs){p:Nat}(q:p<=n):jT W (.slice a p c) (xs.take (p*2)):=by
 obtain⟨l,r,m,e,f,o,g,d,i,k⟩:=h;injection e with e1 e2 e3
 subst e1 e2 e3;refine⟨a,p,c,rfl,by rw[List.length_take,f];omega,by omega,g,λe=>⟨by have:=(d e).1;omega,(d e).2⟩,λu b=>i u (List.mem_of_mem_take b),λj u b=>?_⟩;rw[List.getElem?_take] at b
 split at b
 ·exact k j u b
 ·cases b
theorem jT.drop{W:World}{a:Option Addr}{n c:Nat}{xs:List Value}(h:jT W (.slice a n c) xs){p:Nat}(y:p<=n):jT W (.slice (if c=p then a else a.map λx=>x.add (p*2)) (n-p) (c-p)) (xs.drop (p*2)):=by
 obtain⟨s,z,t,e,d,v,w,i,k,l⟩:=h;injection e with e1 e2 e3
 subst e1 e2 e3;refine⟨_,n-p,c-p,rfl,by rw[List.length_drop,d];omega,by omega,by omega,λe=>?_,λu b=>k u (List.mem_of_mem_drop b),λj u b=>?_⟩
 ·have m:a=none:=by
   split at e
   ·exact e
   ·exact Option.map_eq_none_iff.1 e
  have:=i m
  exact⟨by omega,by omega⟩
 ·have r:j<(xs.drop (p*2)).length:=(List.getElem?_eq_some_iff.1 b).1;rw[List.length_drop,d] at r;rw[List.getElem?_drop] at b;obtain⟨g,o,f,q⟩:=l _ u b;refine⟨g,o+p*2,?_,by rw[Nat.add_assoc];exact q⟩;rw[if_neg (by omega),f];simp only[Option.map_some,addr_add]
end Go.Proofs.YtdakgnaojakldaaGreatDoor
