/- P -/
import Derived.Test.YtdakgnaojakldabGreatDoorT34
import Derived.Laws.AppendOwnNone
open Go.Proofs.Tryz
set_option maxRecDepth 100000
set_option maxHeartbeats 4000000
namespace Go.Proofs.YtdakgnaojakldabGreatDoor
open Go.RowKit
structure zA (M:Nat->Prop) (w w':World):Prop where
 os:w'.os=w.os
 tape:w'.tape=w.tape
 output:w'.output=w.output
 size:w.heap.size<=w'.heap.size
 block:∀k,k<w.heap.size->¬M k->w'.heap[k]?=w.heap[k]?
theorem zA.refl(M:Nat->Prop)(w:World):zA M w w:=⟨rfl,rfl,rfl,Nat.le_refl _,λ_ _ _=>rfl⟩
theorem zA.of{M:Nat->Prop}{w a:World}(h:Below w.heap.size w a):zA M w a:=⟨h.os,h.tape,h.output,h.size,λk b _=>h.block k b⟩
theorem zA.trans{M:Nat->Prop}{a b c:World}(h:zA M a b)(k:zA M b c):zA M a c:=
 ⟨k.os.trans h.os,k.tape.trans h.tape,k.output.trans h.output,Nat.le_trans h.size k.size,λx e d=>(k.block x (Nat.lt_of_lt_of_le e h.size) d).trans (h.block x e d)⟩
theorem zA.wide{M M':Nat->Prop}{a b:World}(h:zA M a b)(e:∀k,k<a.heap.size->M k->M' k):zA M' a b:=
 ⟨h.os,h.tape,h.output,h.size,λk d f=>h.block k d (λc=>f (e k d c))⟩
theorem zA.below{M:Nat->Prop}{B:Nat}{a b:World}(h:zA M a b)(e:∀k,k<B->¬M k)(d:B<=a.heap.size):Below B a b:=
 ⟨h.os,h.tape,h.output,h.size,λk c=>h.block k (Nat.lt_of_lt_of_le c d) (e k c)⟩
theorem zA.set{M:Nat->Prop}(w:World){b:Nat}(a:M b)(o:Nat)(u:Value):zA M w (w.setCell ⟨b,o,none⟩ u):=by
 exact⟨rfl,rfl,rfl,by simp[World.setCell],λk _ c=>Below.heap_setCell _ _ _ _ (λe=>c (by simp only at e;rw[e];exact a))⟩
theorem zA.cell{M:Nat->Prop}{a b:World}(h:zA M a b){x:Addr}{v:Value}(e:¬M x.block)(c:a.cell? x=some v):b.cell? x=some v:=by
 have d:x.block<a.heap.size:=World.block_lt_of_cell? _ _ c
 have:=h.block x.block d e
 unfold World.cell? at c |-;rw[this];exact c
def Same(base:Nat)(w a:World):Prop:=∀b,base<=b->b<w.heap.size->a.heap[b]?=w.heap[b]?
theorem UW{w b:World}{base:Nat}{e:TypeId}{size:Nat}{v:Value}{n:Nat}{xs:List Value}(h:w.ownsRow base e size v n xs)(d:Same base w b):b.ownsRow base e size v n xs:=by
 obtain⟨c,a⟩:=h;refine⟨c,?_⟩
 rcases a with a|⟨g,cap,cur,hv,hg,hh,h3⟩
 ·exact .inl a
 ·exact .inr ⟨g,cap,cur,hv,hg,by rw[d g hg (lt_of_block hh)];exact hh,h3⟩
theorem zO.same{w c:World}{base:Nat}{a:Value}{b:List BA}(h:zO w base a b)(d:Same base w c):zO c base a b:=UW h d
theorem qJ.same{w c:World}{base:Nat}{b:Value}{cs:List zX}(h:qJ w base b cs)(a:Same base w c):qJ c base b cs:=by
 obtain⟨xs,k,l⟩:=h;refine⟨xs,UW k a,λj m=>?_⟩;obtain⟨n,d,e,f,g,i⟩:=l j m;exact⟨n,d,e,f,g,i.same a⟩
theorem yD.same{w f:World}{base:Nat}{d:Value}{e:List zD}(h:yD w base d e)(a:Same base w f):yD f base d e:=by
 obtain⟨xs,b,c⟩:=h;refine⟨xs,UW b a,λj s=>?_⟩;obtain⟨t,u,v,x,m,b,c,n,o,p,q,r,g,i,k,l⟩:=c j s;exact⟨t,u,v,x,m,b,c,n,o,p,q,r,g.same a,i.same a,k.same a,l.same a⟩
def xP(M:Nat->Prop)(W:World)(c:Value)(d:List zD):Prop:=
 ∃base a,yD a base c d/\a.heap.size<=W.heap.size/\∀b,base<=b->b<a.heap.size->¬M b/\W.heap[b]?=a.heap[b]?
theorem xP.at{M:Nat->Prop}{W:World}{a:Value}{c:List zD}(h:xP M W a c):∃base,yD W base a c:=by
 obtain⟨base,i,d,_,e⟩:=h;exact⟨base,d.same (λb f g=>(e b f g).2)⟩
theorem xP.turn{M:Nat->Prop}{W e:World}{f:Value}{i:List zD}(h:xP M W f i)(k:zA M W e):xP M e f i:=by
 obtain⟨base,j,l,g,c⟩:=h;exact⟨base,j,l,Nat.le_trans g k.size,λb d a=>⟨(c b d a).1,(k.block b (Nat.lt_of_lt_of_le a g) (c b d a).1).trans (c b d a).2⟩⟩
theorem xP.of{M:Nat->Prop}{W:World}{a:Value}{c:List zD}{base:Nat}(h:yD W base a c)(d:∀b,M b->b<base):xP M W a c:=
 ⟨base,W,h,Nat.le_refl _,λb f _=>⟨λe=>absurd (d b e) (by omega),rfl⟩⟩
theorem xP.more{M M':Nat->Prop}{W:World}{a:Value}{f:List zD}(h:xP M W a f)(k:∀b,M' b->M b\/W.heap.size<=b):xP M' W a f:=by
 obtain⟨base,g,i,j,c⟩:=h;refine⟨base,g,i,j,λb d e=>⟨λl=>?_,(c b d e).2⟩⟩
 rcases k b l with h|h
 ·exact (c b d e).1 h
 ·omega
abbrev zl:=BA×List zD
def xD(M:Nat->Prop)(W:World)(e:Value)(L:List zl):Prop:=
 ∃a c,e = .slice a L.length c/\L.length<=c/\c<=maxLen/\(a=none->c=0)/\∀(k:Nat) (x:zl),L[k]?=some x->∃b o d,a=some ⟨b,o,none⟩/\¬M b/\W.cell? ⟨b,o+k*2,none⟩=some (.string x.1)/\W.cell? ⟨b,o+k*2+1,none⟩=some d/\xP M W d x.2
theorem xD.turn{M:Nat->Prop}{W f:World}{g:Value}{L:List zl}(h:xD M W g L)(k:zA M W f):xD M f g L:=by
 obtain⟨a,c,rfl,m,n,q,p⟩:=h;refine⟨a,c,rfl,m,n,q,λj x r=>?_⟩;obtain⟨l,o,i,e,b,c0,c1,d⟩:=p j x r;exact⟨l,o,i,e,b,k.cell b c0,k.cell b c1,d.turn k⟩
theorem xD.more{M M':Nat->Prop}{W:World}{k:Value}{L:List zl}(h:xD M W k L)(i:∀b,M' b->M b\/W.heap.size<=b):xD M' W k L:=by
 obtain⟨a,c,rfl,m,n,q,p⟩:=h;refine⟨a,c,rfl,m,n,q,λj x s=>?_⟩;obtain⟨f,o,l,e,r,c0,c1,d⟩:=p j x s;refine⟨f,o,l,e,λg=>?_,c0,c1,d.more i⟩;have t:f<W.heap.size:=World.block_lt_of_cell? _ _ c0
 rcases i f g with h|h
 ·exact r h
 ·omega
theorem fw(M:Nat->Prop)(W:World):xD M W (.slice none 0 0) []:=⟨none,0,rfl,Nat.le_refl _,by unfold maxLen;omega,λ_=>rfl,λk x a=>by simp at a⟩
def qx(a b:BA):Int:=Lib.compareBytes a.data.toList b.data.toList
def ltN(name:BA)(x:zl):Bool:=decide (qx x.1 name<0)
def qy(L:List zl)(name:BA):Nat:=(L.takeWhile (ltN name)).length
def zu(L:List zl)(name:BA):Bool:=match L[qy L name]? with
 | some x=>qx x.1 name==0
 | none=>false
def Down(L:List zl)(name:BA):Prop:=∀(a b:Nat) (x y:zl),a<b->L[a]?=some x->L[b]?=some y->ltN name y=true->ltN name x=true
theorem KG{α:Type}(p:α->Bool):∀(l:List α) (i:Nat),i<=l.length->(∀(k:Nat) (x:α),k<i->l[k]?=some x->p x=true)->(∀(k:Nat) (x:α),i<=k->l[k]?=some x->p x=false)->(l.takeWhile p).length=i
 | [],i,h,_,_=>by simp at h;simp[h]
 | a::l,0,_,_,h2=>by
  have:=h2 0 a (Nat.le_refl _) rfl
  rw[List.takeWhile_cons,this]
  rfl
 | a::l,i+1,h,h1,h2=>by
  have c:=h1 0 a (Nat.succ_pos _) rfl
  have:=KG p l i (by simpa using h) (λk x d b=>h1 (k+1) x (by omega) (by simpa using b)) (λk x d b=>h2 (k+1) x (by omega) (by simpa using b))
  rw[List.takeWhile_cons,c];simp[this]
theorem U3(L:List zl)(name:BA):qy L name<=L.length:=by
 unfold qy;exact (List.takeWhile_prefix _).length_le
theorem bq(a b:BA):qx a b = -1\/qx a b=0\/qx a b=1:=by
 unfold qx;generalize a.data.toList=x;generalize b.data.toList=y
 induction x generalizing y with
 | nil=>cases y<;>simp[Lib.compareBytes]
 | cons p x c=>
  cases y with
  | nil=>simp[Lib.compareBytes]
  | cons q y=>
   unfold Lib.compareBytes
   split
   ·exact .inl rfl
   split
   ·exact .inr (.inr rfl)
   ·exact c y
theorem bu(nm name:BA)(a:Option Addr)(n c:Nat)(w:World) :
  Calls prog 69 #[.agg #[.string nm,.slice a n c],.string name] w λe b=>e = .returned (.int .i64 (qx nm name))/\Below w.heap.size w b:=by
 have d:=λW=>Any.strings_Compare Tryz.lays106 nm name W;have g:Hid (∀W,Calls prog 70 #[.string nm,.string name] W λe b=>e = .returned (.int .i64 (qx nm name))/\b=W):=hid d;clear d;go_enter func69,ntmps69
 go_wp2_with (go_at_call 70;refine (g.out _).mono ?_;rintro e h ⟨rfl,f⟩;rw[f];clear f)
 go_ret;exact⟨rfl,nB w _⟩
theorem BR:∀args w,(callFunc 69 args).run prog w = .ok (.enter 69 args) w:=enters_of func69 (by kernel_rfl) rfl
theorem xD.cells{M:Nat->Prop}{W:World}{a:Option Addr}{n c:Nat}{L:List zl}(h:xD M W (.slice a n c) L):n=L.length/\n<=c/\c<=maxLen/\∀(k:Nat) (x:zl),L[k]?=some x->∃l o f j i,a=some ⟨l,o,none⟩/\¬M l/\W.cell? ⟨l,o+k*2,none⟩=some (.string x.1)/\W.cell? ⟨l,o+k*2+1,none⟩=some (.slice f j i)/\xP M W (.slice f j i) x.2:=by
 obtain⟨C,D,e,w,y,_,p⟩:=h;injection e with e1 e2 e3
 subst e1 e2 e3;refine⟨rfl,w,y,λk x q=>?_⟩;obtain⟨l,o,t,e,z,c0,c1,d⟩:=p k x q;obtain⟨base,B,⟨xs,A,_⟩,_⟩:=d
 have:∃f j i,t = .slice f j i:=by
  rcases A.2 with ⟨e,_⟩|⟨g,cap,cur,e,_⟩
  ·exact⟨_,_,_,e⟩
  ·exact⟨_,_,_,e⟩
 obtain⟨f,j,i,rfl⟩:=this
 exact⟨l,o,f,j,i,e,z,c0,c1,(p k x q).elim (λv ⟨E,u,m,_,r,b,s⟩=>by
  rw[e] at m;injection m with m
  injection m with g1 g2
  subst g1 g2;rw[c1] at b;injection b with b
  rw[b];exact s)⟩
theorem Nf(L:List zl)(lv:Value)(name:BA)(M:Nat->Prop)(w:World)(h:xD M w lv L)(hn:L.length<=1000000)(hd:Down L name) :
  Calls prog 68 #[lv,.string name,.func (.func 69) #[] #[]] w λe w'=>e = .returned (.tuple #[.int .i64 (qy L name:Int),.bool (zu L name)])/\Below w.heap.size w w':=by
 obtain⟨a,c,rfl,X,h2⟩:∃a c,lv = .slice a L.length c/\L.length<=c/\c<=maxLen:=by obtain⟨a,c,e,X,h2,_⟩:=h;exact⟨a,c,e,X,h2⟩
 have hc:=h.cells.2.2.2;obtain⟨n,A⟩:=Nm L.length;have t:∀i,i<=n->(∀(k:Nat) (x:zl),k<i->L[k]?=some x->ltN name x=true)->(∀(k:Nat) (x:zl),i<=k->L[k]?=some x->ltN name x=false)->qy L name=i:=λi hi P Q=>KG (ltN name) L i (by omega) P Q;rw[A] at X hn |-;have K:=hid t;have C:=hid hc;have N:=hid A;have J:=hid hd;have eg:=BR;clear hc A h hd t;go_enter func68,ntmps68
 go_wp2
 go_loopw [9,10] (λiv jv wr=>∃i j:Nat,i<=j/\j<=n/\iv = .int .i64 i/\jv = .int .i64 j/\(∀(k:Nat) (x:zl),k<i->L[k]?=some x->ltN name x=true)/\(∀(k:Nat) (x:zl),j<=k->L[k]?=some x->ltN name x=false)/\Below w.heap.size w wr) (λiv jv _=>(intOf jv).toNat-(intOf iv).toNat)
 case atStart=>exact⟨0,n,Nat.zero_le _,Nat.le_refl _,rfl,rfl,λk x Y=>by omega,λk x Y g=>by have:=(List.getElem?_eq_some_iff.1 g).1;rw[N.out] at this;omega,Below.refl _ _⟩
 case round=>
  obtain⟨i,j,a9,E,rfl,rfl,P,Q,hb⟩:=hrel;have l:=hid hb;have H:=hid P;have I:=hid Q;clear hb P Q
  by_cases hlt:i<j
  ·go_upto_region 5 with fail
   obtain⟨m,hm⟩:∃m:Nat,((i:Int)+(j:Int)) / 2=(m:Int):=⟨(i+j) / 2,by omega⟩;have Z:i<=m:=by omega
   have b0:m<j:=by omega
   rw[hm];have v:m<L.length:=by rw[N.out];omega
   have g:=List.getElem?_eq_getElem v;obtain⟨gb,o,U,W,V,rfl,_,B,F,_⟩:=C.out m _ g;obtain⟨x,q⟩:=Nm (L[m]);rw[q] at B g;have p0:=zb l.out B;have p1:=zb l.out F;have u:=bu x.1 name U W V wr;obtain⟨z,R⟩:=Nm (qx x.1 name);rw[R] at u;have G:=hid u;have O:=hid g;have k0:(0:Int)<=(m:Int):=Int.natCast_nonneg _;have k1:(m:Int)<(n:Int):=by omega
   have f:ltN name x=decide (z<0):=by unfold ltN;rw[R]
   clear u g B F q C K hm
   by_cases hzn:z<0
   ·rw[decide_eq_true hzn] at f
    go_wp2_with (go_at_fn 69;refine G.out.mono ?_;rintro e w2 ⟨rfl,s⟩;have p:=hid (l.out.trans (s.mono l.out.size));clear s)
    go_roundw
    case rel=>
     refine⟨m+1,j,by omega,E,by go_num,rfl,λk y Y r=>?_,I.out,p.out⟩
     by_cases hkm:k<m
     ·exact J.out k m y x hkm r O.out f
     ·have:k=m:=by omega
      subst this;rw[O.out] at r;injection r with r
      rw[<- r];exact f
    case measure=>simp[intOf];omega
   ·rw[decide_eq_false hzn] at f
    go_wp2_with (go_at_fn 69;refine G.out.mono ?_;rintro e w2 ⟨rfl,s⟩;have p:=hid (l.out.trans (s.mono l.out.size));clear s)
    go_roundw
    case rel=>
     refine⟨i,m,Z,by omega,rfl,rfl,H.out,λk y Y r=>?_,p.out⟩
     by_cases hkm:m<k
     ·cases hly:ltN name y with
      | false=>rfl
      | true=>
       have:=J.out m k x y hkm O.out r hly
       rw[f] at this
       cases this
     ·have:k=m:=by omega
      subst this;rw[O.out] at r;injection r with r
      rw[<- r];exact f
    case measure=>simp[intOf];omega
  ·have D:i=j:=by omega
   subst D;have d:=K.out i E H.out I.out
   have b:zu L name=match L[i]? with
    | some x=>qx x.1 name==0
    | none=>false:=by unfold zu;rw[d]
   by_cases hin:i<n
   ·have v:i<L.length:=by rw[N.out];omega
    have g:=List.getElem?_eq_getElem v;obtain⟨gb,o,U,W,V,rfl,_,B,F,_⟩:=C.out i _ g;rw[g] at b;obtain⟨x,q⟩:=Nm (L[i]);rw[q] at B b;have p0:=zb l.out B;have p1:=zb l.out F;have u:=bu x.1 name U W V wr;simp only at b;obtain⟨z,R⟩:=Nm (qx x.1 name);rw[R] at u b;have G:=hid u;have T:=hid d;have S:=hid b;have k0:(0:Int)<=(i:Int):=Int.natCast_nonneg _;have k1:(i:Int)<(n:Int):=by omega
    clear u g B F q C K d b J H I hlt
    go_wp2_with (go_at_fn 69;refine G.out.mono ?_;rintro e w2 ⟨rfl,s⟩;have p:=hid (l.out.trans (s.mono l.out.size));clear s)
    go_ret2;exact⟨by rw[T.out,S.out];rfl,p.out⟩
   ·have g:L[i]?=none:=List.getElem?_eq_none (by rw[N.out];omega);rw[g] at b;have T:=hid d;have S:=hid b;clear g C K d b J H I hlt;go_wp2_with fail;go_ret2;exact⟨by rw[T.out,S.out];rfl,l.out⟩
theorem BS(L:List zl)(d:Value)(name:BA)(M:Nat->Prop)(w:World)(h:xD M w d L)(k:L.length<=1000000)(hd:Down L name) :
  Calls prog 39 #[d,.string name] w λe l=>e = .returned (.tuple #[.int .i64 (qy L name:Int),.bool (zu L name)])/\Below w.heap.size w l:=by
 have c1:=Nf L d name M w h k hd;obtain⟨a,c,rfl,_⟩:=h;obtain⟨P,i⟩:∃x,qy L name=x:=⟨_,rfl⟩;obtain⟨B,g⟩:∃x,zu L name=x:=⟨_,rfl⟩;rw[i,g] at c1 |-;have j:=hid c1;clear c1 i g;go_enter func39,ntmps39
 go_wp2_with (go_at_call 68;refine j.out.mono ?_;rintro e m ⟨rfl,f⟩;have b:=hid f;clear f)
 go_ret2;exact⟨rfl,b.out⟩
def vR(W:World)(v:Value)(xs:List Value):Prop:=
 ∃a n c,v = .slice a n c/\xs.length=n*2/\n<=c/\c<=maxLen/\(a=none->n=0/\c=0)/\(∀u ∈ xs,u.oneCell'=true)/\∀(j:Nat) (u:Value),xs[j]?=some u->∃b o,a=some ⟨b,o,none⟩/\W.cell? ⟨b,o+j,none⟩=some u
theorem vR.below{W b:World}{v:Value}{xs:List Value}(h:vR W v xs)(p:Below W.heap.size W b):vR b v xs:=by
 obtain⟨a,n,c,e,f,g,i,k,l,m⟩:=h;exact⟨a,n,c,e,f,g,i,k,l,λj u r=>by obtain⟨d,o,e,q⟩:=m j u r;exact⟨d,o,e,zb p q⟩⟩
def sumTo(a:List (List Value)):Nat->Nat
 | 0=>0
 | k+1=>sumTo a k+(a.getD k []).length / 2
def Jt(a:List (List Value)):Nat->List Value
 | 0=>[]
 | k+1=>Jt a k++a.getD k []
theorem Pp(c:List (List Value)){a b:Nat}(h:a<=b):sumTo c a<=sumTo c b:=by
 induction b with
 | zero=>have:a=0:=by omega
         subst this;exact Nat.le_refl _
 | succ b d=>
  by_cases e:a=b+1
  ·subst e;exact Nat.le_refl _
  ·have:=d (by omega)
   rw[sumTo];omega
theorem Uv:(prog.info? 123).map (λi=>(i.zero,i.size,i.bytes))=some (some (.agg #[.string ⟨#[]⟩,.slice none 0 0]),2,40):=by kernel_rfl
theorem nM(z:Array Value)(n:Nat):(Builtin.zeroCells z n).size=n*z.size:=by
 unfold Builtin.zeroCells
 simp
theorem Dy(n:Nat)(w:World)(o:n<=1000) :
  Calls prog 72 #[.slice none 0 0,.int .i64 (n:Int)] w λe b=>∃v,e = .returned v/\b.ownsRow w.heap.size 123 2 v 0 []/\Below w.heap.size w b:=by
 obtain⟨m,k,f,l,g⟩:=info_parts Uv
 by_cases h0:n=0
 ·subst h0;refine (Any8.slices_Grow_room Tryz.lays8grow none 0 0 0 w (Nat.le_refl _) (by omega) (by omega) (by omega)).mono ?_;rintro e b ⟨rfl,rfl⟩;exact⟨_,rfl,⟨rfl,.inl ⟨rfl,rfl⟩⟩,Below.refl _ _⟩
 ·have c:=Any8.slices_Grow_grow Tryz.lays8grow m _ k f (by omega) none 0 0 n [] w (Nat.le_refl _) (by omega) (by rw[g];omega) (by omega) (by simp) (λ_=>rfl) (λa h=>by cases h);refine c.mono ?_;rintro e b ⟨rfl,rfl⟩;have d:=grownCap_ge w (0+n) 0 123;have hle:=grownCap_le_maxLen w (0+n) 0 123 (by unfold maxLen;omega);refine⟨_,rfl,⟨by simp,.inr ⟨w.heap.size,_,_,rfl,Nat.le_refl _,heap_alloc_new w.drew _,Nat.zero_le _,hle,?_,by simp⟩⟩,((Below.refl _ w).drew).alloc (Nat.le_refl _) _⟩;have j:(Value.agg #[Value.string ⟨#[]⟩,Value.slice none 0 0]).cells.size=2:=by kernel_rfl
  have i:0+n<=grownCap w (0+n) 0 (Tryz.lays8grow_ren.t 25):=d;rw[Array.size_append,Array.size_append,nM,nM,j];show 0+(0+n-0)*2+(grownCap w (0+n) 0 (Tryz.lays8grow_ren.t 25)-(0+n))*2=grownCap w (0+n) 0 (Tryz.lays8grow_ren.t 25)*2;omega
theorem bz(g:List Value)(b:List (List Value))(pb:Nat)(w:World)(hl:g.length=b.length)(hp:∀(k:Nat) (v:Value),g[k]?=some v->w.cell? ⟨pb,k,none⟩=some v)(hc:∀(k:Nat) (v:Value) (xs:List Value),g[k]?=some v->b[k]?=some xs->vR w v xs)(hn:g.length<=10)(hs:sumTo b g.length<=1000) :
  Calls prog 41 #[.slice (some ⟨pb,0,none⟩) g.length g.length] w λe w'=>∃v,e = .returned v/\w'.ownsRow w.heap.size 123 2 v (sumTo b g.length) (Jt b g.length)/\Below w.heap.size w w':=by
 obtain⟨i0,hi,a8,a9,b0⟩:=info_parts Uv;obtain⟨n,P⟩:=Nm g.length;obtain⟨S,O⟩:∃S:Nat->Nat,sumTo b=S:=⟨_,rfl⟩;obtain⟨T,Y⟩:∃T:Nat->List Value,Jt b=T:=⟨_,rfl⟩;have S0:S 0=0:=by rw[<- O];rfl
 have T0:T 0=[]:=by rw[<- Y];rfl
 have q:∀k,k<=n->S k<=S n:=λk t=>by rw[<- O];exact Pp b t
 have each:∀k,k<n->∃v xs a m c,g[k]?=some v/\v = .slice a m c/\xs.length=m*2/\(a=none->m=0/\c=0)/\(∀u ∈ xs,u.oneCell'=true)/\S (k+1)=S k+m/\T (k+1)=T k++xs/\m<=c/\c<=maxLen /\
   (∀(j:Nat) (u:Value),xs[j]?=some u->∃gb o,a=some ⟨gb,o,none⟩/\w.cell? ⟨gb,o+j,none⟩=some u):=by
  intro k t;have h1:=List.getElem?_eq_getElem (l:=g) (i:=k) (by omega);have h2:=List.getElem?_eq_getElem (l:=b) (i:=k) (by omega);obtain⟨a,m,c,e,g1,g2,g3,g4,g5,g6⟩:=hc k _ _ h1 h2;have hg:b.getD k []=b[k]'(by omega):=by rw[List.getD_eq_getElem?_getD,h2];rfl
  refine⟨_,_,a,m,c,h1,e,g1,g4,g5,?_,?_,g2,g3,g6⟩
  ·rw[<- O,sumTo,hg,g1];omega
  ·rw[<- Y,Jt,hg]
 rw[P] at hn hs |-;rw[O] at hs |-;rw[Y];have R:∀(k:Nat) (v:Value),g[k]?=some v->∀W,Below w.heap.size w W->W.cell? ⟨pb,k,none⟩=some v:=λk v y W E=>zb E (hp k v y);have cg:=λW=>Dy (S n) W hs;have J:=hid each;have K:=hid R;have z:=hid q;have Z:=hid cg;have B:=hid S0;have C:=hid T0;clear each R q cg S0 T0 hp hc hl P O Y;go_enter func41,ntmps41
 go_wp2
 go_loopw [3,5,11] (λsv _ H wr=>∃k:Nat,k<=n/\H = .int .i64 k/\sv = .int .i64 (S k:Int)/\wr=w) (λ_ _ H _=>n-(intOf H).toNat)
 case atStart=>exact⟨0,Nat.zero_le _,rfl,by rw[B.out];rfl,rfl⟩
 case round=>
  obtain⟨k,t,rfl,rfl,U⟩:=hrel;rw[U];clear U
  by_cases hlt:k<n
  ·obtain⟨v,xs,a,m,c,y,rfl,_,_,_,f,_,_,_,_⟩:=J.out k hlt;have p0:=K.out k _ y w (Below.refl _ _);have hz:=z.out k t;have c4:=z.out (k+1) hlt;have a2:=hid f;have k0:(0:Int)<=(k:Int):=Int.natCast_nonneg _;have k1:(k:Int)<(n:Int):=by omega
   have d6:¬((S k:Int)+(m:Int)<0):=by omega
   have a6:S k+m<=1000:=by omega
   clear f J K z Z C y;go_wp2_with fail
   go_roundw
   case rel=>exact⟨k+1,by omega,by go_num,by rw[a2.out];go_num,by trivial⟩
   case measure=>simp[intOf];omega
  ·have F:n=k:=by omega
   subst F;clear hlt t
   go_wp2_with (go_at_call 72;refine (Z.out _).mono ?_;rintro e w1 ⟨gv,rfl,Q,E⟩;have N:=hid Q;have L:=hid E;clear Q E)
   go_loopw [6,8,27] (λov _ H wr=>∃k:Nat,k<=n/\H = .int .i64 k/\wr.ownsRow w.heap.size 123 2 ov (S k) (T k)/\Below w.heap.size w wr) (λ_ _ H _=>n-(intOf H).toNat)
   case atStart=>exact⟨0,Nat.zero_le _,rfl,by rw[B.out,C.out];exact N.out,L.out⟩
   case round=>
    obtain⟨k,t,rfl,Q,E⟩:=hrel;have M:=hid Q;have I:=hid E;have b1:=I.out.size;clear Q E N L B C Z
    by_cases hlt:k<n
    ·obtain⟨v,xs,a,m,c,y,a7,V,G,r,f,D,_,_,d⟩:=J.out k hlt;subst a7;have p0:=K.out k _ y wr I.out;have hz:=z.out (k+1) hlt;have k0:(0:Int)<=(k:Int):=Int.natCast_nonneg _;have k1:(k:Int)<(n:Int):=by omega
     have h:Hid (S (k+1)=S k+m/\T (k+1)=T k++xs):=⟨f,D⟩;have a6:S k+m<=1000:=by omega
     cases a with
     | none=>
      obtain⟨rfl,rfl⟩:=G rfl;have X:xs=[]:=List.length_eq_zero_iff.1 (by omega);have A:Hid (wr.ownsRow w.heap.size 123 2 u6 (S (k+1)) (T (k+1))):=hid (by rw[h.out.1,h.out.2,X,List.append_nil];exact M.out);clear d G r f D J K z y X V h
      go_wp2_with (at_builtin;refine wpList_append_own_none rfl _ _ 61 rfl w.heap.size 123 i0 2 underlying61 hi _ (S k) (T k) rfl M.out rfl ?_)
      go_wp2_with fail
      go_roundw
      case rel=>exact⟨k+1,by omega,by go_num,A.out,I.out⟩
      case measure=>simp[intOf];omega
     | some ad=>
      have x:∀(j:Nat) (u:Value),xs[j]?=some u->wr.cell? (ad.add j)=some u:=λj u hu=>by
       obtain⟨gb,o,e,hq⟩:=d j u hu;injection e with e
       subst e;rw[addr_add];exact zb I.out hq
      have a3:=hid x;have a1:=hid r;clear d G r f D J K z y x
      go_wp2_with (at_builtin;refine wpList_append_own _ rfl _ _ 61 rfl w.heap.size 123 i0 (.agg #[.string ⟨#[]⟩,.slice none 0 0]) 2 40 underlying61 hi a8 a9 b0 rfl (by decide) _ (S k) (T k) rfl M.out ad m c xs rfl V a3.out a1.out ?_ ?_ ?_ ?_)
      ·unfold maxLen;omega
      ·omega
      ·omega
      ·intro v' w3 s p _;have A:Hid (w3.ownsRow w.heap.size 123 2 v' (S (k+1)) (T (k+1))):=hid (by rw[h.out.1,h.out.2];exact s);have a0:Hid (Below w.heap.size w w3):=I.out.grown p b1 (λk t=>(World.ownsRow.lt M.out k t).1);clear s p;go_wp2_with fail
       go_roundw
       case rel=>exact⟨k+1,by omega,by go_num,A.out,a0.out⟩
       case measure=>simp[intOf];omega
    ·have F:n=k:=by omega
     subst F;clear J K z hlt;go_wp2_with fail;go_ret;exact⟨_,rfl,M.out,I.out⟩
def xQ(M:Nat->Prop)(W:World)(xs:List Value)(L:List zl):Prop:=
 xs.length=L.length*2/\∀(k:Nat) (x:zl),L[k]?=some x->∃a c b,xs[k*2]?=some (.string x.1)/\xs[k*2+1]?=some (.slice a c b)/\xP M W (.slice a c b) x.2
theorem xQ.turn{M:Nat->Prop}{W a:World}{xs:List Value}{L:List zl}(h:xQ M W xs L)(k:zA M W a):xQ M a xs L:=
 ⟨h.1,λj x i=>by obtain⟨b,d,c,e,f,g⟩:=h.2 j x i;exact⟨b,d,c,e,f,g.turn k⟩⟩
theorem xQ.one{M:Nat->Prop}{W:World}{b:Option Addr}{d c:Nat}{x:zl}(h:xP M W (.slice b d c) x.2):xQ M W [.string x.1,.slice b d c] [x]:=by
 refine⟨rfl,λk y a=>?_⟩
 match k,a with
 | 0,a=>
  simp only[List.getElem?_cons_zero,Option.some.injEq] at a;subst a;exact⟨b,d,c,rfl,rfl,h⟩
 | k+1,a=>simp at a
theorem xQ.nil{M:Nat->Prop}{W:World}:xQ M W [] []:=⟨rfl,λk x a=>by simp at a⟩
theorem xQ.take{M:Nat->Prop}{W:World}{xs:List Value}{L:List zl}(h:xQ M W xs L)(p:Nat):xQ M W (xs.take (p*2)) (L.take p):=by
 refine⟨by rw[List.length_take,List.length_take,h.1];omega,λk x a=>?_⟩;rw[List.getElem?_take] at a
 split at a
 ·rename_i i;obtain⟨b,d,c,e,f,g⟩:=h.2 k x a;exact⟨b,d,c,by rw[List.getElem?_take,if_pos (by omega)];exact e,by rw[List.getElem?_take,if_pos (by omega)];exact f,g⟩
 ·cases a
theorem xQ.drop{M:Nat->Prop}{W:World}{xs:List Value}{L:List zl}(h:xQ M W xs L)(p:Nat):xQ M W (xs.drop (p*2)) (L.drop p):=by
 refine⟨by rw[List.length_drop,List.length_drop,h.1];omega,λk x a=>?_⟩;rw[List.getElem?_drop] at a;obtain⟨b,d,c,e,f,g⟩:=h.2 (p+k) x a;exact⟨b,d,c,by rw[List.getElem?_drop,show p*2+k*2=(p+k)*2 by omega];exact e,by rw[List.getElem?_drop,show p*2+(k*2+1)=(p+k)*2+1 by omega];exact f,g⟩
theorem xQ.app{M:Nat->Prop}{W:World}{xs j:List Value}{L N:List zl}(h:xQ M W xs L)(g:xQ M W j N):xQ M W (xs++j) (L++N):=by
 refine⟨by rw[List.length_append,List.length_append,h.1,g.1];omega,λk x a=>?_⟩
 by_cases hk:k<L.length
 ·rw[List.getElem?_append_left hk] at a;obtain⟨b,d,c,e,f,i⟩:=h.2 k x a;exact⟨b,d,c,by rw[List.getElem?_append_left (by rw[h.1];omega)];exact e,by rw[List.getElem?_append_left (by rw[h.1];omega)];exact f,i⟩
 ·rw[List.getElem?_append_right (by omega)] at a;obtain⟨b,d,c,e,f,i⟩:=g.2 (k-L.length) x a;exact⟨b,d,c,by rw[List.getElem?_append_right (by rw[h.1];omega),h.1,show k*2-L.length*2=(k-L.length)*2 by omega];exact e,by rw[List.getElem?_append_right (by rw[h.1];omega),h.1,show k*2+1-L.length*2=(k-L.length)*2+1 by omega];exact f,i⟩
theorem xD.flat{M:Nat->Prop}{W:World}{s:Value}{L:List zl}(h:xD M W s L):∃xs,vR W s xs/\xQ M W xs L:=by
 obtain⟨a,c,rfl,v,q,w,B⟩:=id h;have l:=h.cells.2.2.2
 by_cases h0:L.length=0
 ·have y:L=[]:=List.length_eq_zero_iff.1 h0;subst y;exact⟨[],⟨a,0,c,rfl,rfl,Nat.zero_le _,q,λe=>⟨rfl,w e⟩,by simp,λj u b=>by simp at b⟩,xQ.nil⟩
 ·obtain⟨g,o,_,_,_,t,_⟩:=l 0 _ (List.getElem?_eq_getElem (by omega));subst t
  have cell:∀j,j<L.length*2->∃u,W.cell? ⟨g,o+j,none⟩=some u/\u.oneCell'=true:=by
   intro j f;obtain⟨i,A,m,p,n,e,_,c0,c1,_⟩:=l (j / 2) _ (List.getElem?_eq_getElem (by omega));injection e with e
   injection e with e1 e2
   subst e1 e2
   by_cases he:j % 2=0
   ·have:j=j / 2*2:=by omega
    rw[this];exact⟨_,c0,rfl⟩
   ·have:o+j=o+j / 2*2+1:=by omega
    rw[this];exact⟨_,c1,rfl⟩
  have get:∀j,j<L.length*2->((List.range (L.length*2)).map λj=>(W.cell? ⟨g,o+j,none⟩).getD undef)[j]?=W.cell? ⟨g,o+j,none⟩:=by
   intro j f;obtain⟨u,b,_⟩:=cell j f;rw[List.getElem?_map,List.getElem?_range f];simp only[Option.map_some];rw[b]
   rfl
  refine⟨(List.range (L.length*2)).map λj=>(W.cell? ⟨g,o+j,none⟩).getD undef,⟨some ⟨g,o,none⟩,L.length,c,rfl,by simp,v,q,(λe=>by cases e),?_,?_⟩,by simp,?_⟩
  ·intro u b;obtain⟨j,f,rfl⟩:=List.mem_map.1 b;obtain⟨u,b,z⟩:=cell j (List.mem_range.1 f);rw[b];exact z
  ·intro j u b
   have f:j<L.length*2:=by
    have:=(List.getElem?_eq_some_iff.1 b).1
    simpa using this
   rw[get j f] at b;exact⟨g,o,rfl,b⟩
  ·intro k x r;have C:k<L.length:=(List.getElem?_eq_some_iff.1 r).1;obtain⟨i,A,m,p,n,e,_,c0,c1,d⟩:=l k x r;injection e with e
   injection e with e1 e2
   subst e1 e2;exact⟨m,p,n,by rw[get _ (by omega)];exact c0,by rw[get _ (by omega)];exact c1,d⟩
theorem fA{M:Nat->Prop}{W:World}{base:Nat}{v:Value}{n:Nat}{xs:List Value}{L:List zl}(h:W.ownsRow base 123 2 v n xs)(c:xQ M W xs L)(r:∀b,M b->b<base):xD M W v L:=by
 have t:n=L.length:=by have:=h.1;have:=c.1;omega
 subst t;have a:=λg cap (e:v = .slice (some ⟨g,0,none⟩) L.length cap)=>World.ownsRow.cellAt (w:=W) (base:=base) (e:=123) (size:=2) (n:=L.length) (xs:=xs) (g:=g) (cap:=cap) (by rw[<- e];exact h)
 rcases h.2 with ⟨e,h0⟩|⟨g,cap,cur,e,hg,hh,h1,h2,_⟩
 ·have q:L=[]:=List.length_eq_zero_iff.1 h0;subst q;rw[e];exact fw M W
 ·refine⟨some ⟨g,0,none⟩,cap,e,h1,h2,(λe=>by cases e),λk x f=>?_⟩;have u:k<L.length:=(List.getElem?_eq_some_iff.1 f).1;obtain⟨i,l,j,m,o,p⟩:=c.2 k x f;have d:=a g cap e;refine⟨g,0,.slice i l j,rfl,λs=>absurd (r g s) (by omega),?_,?_,p⟩
  ·rw[Nat.zero_add,d _ (by have:=c.1;omega)];exact m
  ·rw[Nat.zero_add,d _ (by have:=c.1;omega)];exact o
theorem vR.take{W:World}{a:Option Addr}{n c:Nat}{xs:List Value}(h:vR W (.slice a n c) xs){p:Nat}(q:p<=n):vR W (.slice a p c) (xs.take (p*2)):=by
 obtain⟨l,r,m,e,f,o,g,d,i,k⟩:=h;injection e with e1 e2 e3
 subst e1 e2 e3;refine⟨a,p,c,rfl,by rw[List.length_take,f];omega,by omega,g,λe=>⟨by have:=(d e).1;omega,(d e).2⟩,λu b=>i u (List.mem_of_mem_take b),λj u b=>?_⟩;rw[List.getElem?_take] at b
 split at b
 ·exact k j u b
 ·cases b
theorem vR.drop{W:World}{a:Option Addr}{n c:Nat}{xs:List Value}(h:vR W (.slice a n c) xs){p:Nat}(y:p<=n):vR W (.slice (if c=p then a else a.map λx=>x.add (p*2)) (n-p) (c-p)) (xs.drop (p*2)):=by
 obtain⟨s,z,t,e,d,v,w,i,k,l⟩:=h;injection e with e1 e2 e3
 subst e1 e2 e3;refine⟨_,n-p,c-p,rfl,by rw[List.length_drop,d];omega,by omega,by omega,λe=>?_,λu b=>k u (List.mem_of_mem_drop b),λj u b=>?_⟩
 ·have m:a=none:=by
   split at e
   ·exact e
   ·exact Option.map_eq_none_iff.1 e
  have:=i m
  exact⟨by omega,by omega⟩
 ·have r:j<(xs.drop (p*2)).length:=(List.getElem?_eq_some_iff.1 b).1;rw[List.length_drop,d] at r;rw[List.getElem?_drop] at b;obtain⟨g,o,f,q⟩:=l _ u b;refine⟨g,o+p*2,?_,by rw[Nat.add_assoc];exact q⟩;rw[if_neg (by omega),f];simp only[Option.map_some,addr_add]
end Go.Proofs.YtdakgnaojakldabGreatDoor
