/- P -/
import Derived.Test.YtagnlbgbnfnapaaGreatDoorZ28
set_option maxRecDepth 100000
namespace Go.Proofs.YtagnlbgbnfnapaaGreatDoor
namespace Rd
open Ref
def PW(d:Nat)(t:List UInt8)(v:V):Prop:=∀(l r:List UInt8) (p f:Nat),At l p t r->t.length<=f->qo l f d p = .ok v (p+t.length)
def PL(d:Nat)(t:List UInt8)(a:List V):Prop:=∀(l r:List UInt8) (p f:Nat) (acc:List V),At l p t r->t.length<=f->uH l f d p acc = .ok (.list (acc++a)) (p+t.length)
def PO(d:Nat)(t:List UInt8)(ms:List (BA×V)):Prop:=∀(l r:List UInt8) (p f:Nat) (acc:List (BA×V)),At l p t r->t.length<=f->((acc++ms).map λm=>m.1.toList).Nodup->uI l f d p acc = .ok (.obj (acc++ms)) (p+t.length)
theorem At.skip{l b r:List UInt8}{p:Nat}{c:UInt8}(h:At l p b (c::r))(hb:Blanks b)(d:blank c.toNat=false):skip l p=p+b.length/\zk l (p+b.length)=c.toNat:=by
 have a:=h.hdR;exact⟨Br b hb l _ p h (by rw[a];exact d),a⟩
theorem lC(l r:List UInt8):∀(d:List UInt8) (p:Nat),(∀c ∈ d,c≠0)->At l p d r->qj l (d.map UInt8.toNat) p = .ok () (p+d.length)
 | [],p,_,_=>rfl
 | c::d,p,h0,h=>by
  have e:At l (p+1) d r:=(At.app (a:=[c]) (b:=d) h).2;rw[vw,qj,h.hd];rw[zb rfl,lC l r d (p+1) (λx f=>h0 x (by simp[f])) e]
  simp;omega
theorem Su{d:Nat}{t:List UInt8}{s:BA}(h:vT t s):PW d ([34]++t++[34]) (.str s):=by
 intro l r p f c a;rw[yn] at c;obtain⟨g,i⟩:=c.app;have b:zk l p=34:=g.hd;simp only[qL,xV] at a |-
 match f,a with
 | f+1,a=>
  have e:=iB h i;simp only[xV] at e;rw[qo,za (by rw[b];decide),za (by rw[b];decide),zb b,e];simp only;congr 1;omega
theorem Sv{d:Nat}:PW d [116,114,117,101] (.word true):=by
 intro l r p f e g;have c:zk l p=116:=e.hd;have h:=lC l r [114,117,101] (p+1) (by decide) (At.app (a:=[116]) (b:=[114,117,101]) e).2
 match f,g with
 | f+1,g=>
  rw[qo,za (by rw[c];decide),za (by rw[c];decide),za (by rw[c];decide),zb c];have i:qj l [114,117,101] (p+1) = .ok () (p+1+3):=h;rw[i]
  rfl
theorem Sq{d:Nat}:PW d [102,97,108,115,101] (.word false):=by
 intro l r p f e g;have c:zk l p=102:=e.hd;have h:=lC l r [97,108,115,101] (p+1) (by decide) (At.app (a:=[102]) (b:=[97,108,115,101]) e).2
 match f,g with
 | f+1,g=>
  rw[qo,za (by rw[c];decide),za (by rw[c];decide),za (by rw[c];decide),za (by rw[c];decide),zb c];have i:qj l [97,108,115,101] (p+1) = .ok () (p+1+4):=h;rw[i]
  rfl
theorem Sl{d:Nat}{b t:List UInt8}{j:List V}(hd:d<=8)(hb:Blanks b)(x:WL d t j)(w:PL d t j):PW d ([91]++b++t) (.list j):=by
 intro l r p f u h;obtain⟨c,y,rfl,v,g⟩:=x.head;obtain⟨o,m⟩:=u.app;obtain⟨q,s⟩:=o.app;have n:zk l p=91:=q.hd;obtain⟨a,k⟩:=At.skip (l:=l) (b:=b) (p:=p+[91].length) s hb v;simp only[xV] at a k;simp only[qL,xV] at h m |-
 match f,h with
 | f+1,h=>
  have i:¬zk l (skip l (p+1))=93:=by
   rw[a,k];intro e;exact g (Ye.1 e)
  rw[qo,za (by rw[n];decide),zb n,za (by omega),za i,a]
  have:=w l r (p+1+b.length) f [] (by rw[show p+1+b.length=p+(1+b.length) by omega];exact m) (by omega)
  rw[this];simp only[List.nil_append];congr 1;omega
theorem Sr{d:Nat}{b t:List UInt8}{ms:List (BA×V)}(hd:d<=8)(hb:Blanks b)(v:WO d t ms)(q:(ms.map λm=>m.1.toList).Nodup)(u:PO d t ms):PW d ([123]++b++t) (.obj ms):=by
 intro l r p f o e;obtain⟨w,rfl⟩:=v.head;obtain⟨j,i⟩:=o.app;obtain⟨k,n⟩:=j.app;have s:zk l p=123:=k.hd;obtain⟨a,h⟩:=At.skip (l:=l) (b:=b) (p:=p+[123].length) (c:=34) n hb (by decide);simp only[xV] at a h;simp only[qL,xV] at e i |-
 match f,e with
 | f+1,e=>
  have g:¬zk l (skip l (p+1))=125:=by rw[a,h];decide
  rw[qo,zb s,za (by omega),za g,a]
  have:=u l r (p+1+b.length) f [] (by rw[show p+1+b.length=p+(1+b.length) by omega];exact i) (by omega) (by simpa using q)
  rw[this];simp only[List.nil_append];congr 1;omega
theorem Sj{d:Nat}{t b:List UInt8}{v:V}(o:PW (d+1) t v)(hb:Blanks b)(n:t≠[]):PL d (t++b++[93]) [v]:=by
 intro l r p f acc e a;rw[yn] at e;obtain⟨i,j⟩:=e.app;obtain⟨k,q⟩:=j.app;obtain⟨g,h⟩:=At.skip (l:=l) (b:=b) (p:=p+t.length) (c:=93) k hb (by decide);have m:0<t.length:=List.length_pos_iff.2 n;simp only[qL,xV] at a |-
 match f,a with
 | f+1,a=>
  rw[uH,o l _ p f i (by omega)];simp only;rw[g,h,za (by decide),zb (by decide)];congr 1;omega
theorem Sm{d:Nat}{t b c e:List UInt8}{v:V}{g:List V}(D:PW (d+1) t v)(hb:Blanks b)(z:Blanks c)(E:WL d e g)(B:PL d e g)(C:t≠[]):PL d (t++b++[44]++c++e) (v::g):=by
 intro l r p f acc j a;obtain⟨x,H,rfl,F,_⟩:=E.head;simp only[yn] at j;obtain⟨o,q⟩:=j.app;obtain⟨s,u⟩:=q.app;obtain⟨G,w⟩:=u.app;obtain⟨y,i⟩:=w.app;obtain⟨k,m⟩:=At.skip (l:=l) (b:=b) (p:=p+t.length) (c:=44) s hb (by decide);obtain⟨h,n⟩:=At.skip (l:=l) (b:=c) y z F;simp only[xV] at h n i;have A:0<t.length:=List.length_pos_iff.2 C;simp only[qL,xV] at a |-
 match f,a with
 | f+1,a=>
  rw[uH,D l _ p f o (by omega)];simp only;rw[k,m,zb (by decide),h,B l r _ f (acc++[v]) i (by omega)];simp only[yn,kQ,List.nil_append];congr 1;omega
theorem Sk{d:Nat}{n b c t e:List UInt8}{s:BA}{v:V}(P:vT n s)(hb:Blanks b)(N:Blanks c)(S:W (d+1) t v)(R:PW (d+1) t v)(O:Blanks e):PO d ([34]++n++[34]++b++[58]++c++t++e++[125]) [(s,v)]:=by
 intro l r p f acc B i h;obtain⟨x,Y,rfl,T,_⟩:=S.head;simp only[yn] at B;obtain⟨F,A⟩:=B.app;rw[<- yn n [34]] at A;obtain⟨H,I⟩:=A.app;obtain⟨J,K⟩:=I.app;obtain⟨X,L⟩:=K.app;obtain⟨M,j⟩:=L.app;obtain⟨a,k⟩:=j.app;obtain⟨m,G⟩:=k.app;have Q:zk l p=34:=F.hd;have C:=iB P H;obtain⟨o,q⟩:=At.skip (l:=l) (b:=b) (c:=58) J hb (by decide);obtain⟨u,E⟩:=At.skip (l:=l) (b:=c) M N T;obtain⟨w,z⟩:=At.skip (l:=l) (b:=e) (c:=125) m O (by decide);simp only[xV,qL] at C o q u E w z a i |-
 have g:acc.any (λx=>x.1.toList==s.toList)=false:=by
  rw[QU];intro y U;simp only[jN,vw,Zv] at h
  have:=(List.nodup_append.1 h).2.2 y.1.toList (qR.2 ⟨y,U,rfl⟩) s.toList (by simp)
  simpa using this
 match f,i with
 | f+1,i=>
  rw[uI,za (by rw[Q];decide),C];simp only;rw[g];simp only[yB,yu];have D:p+1+n.length+1=p+1+(n.length+1):=by omega
  rw[D,o,q,za (by decide),u];rw[R l _ _ f a (by simp only[uU] at i |-;omega)];simp only;rw[w,z,za (by decide),zb (by decide)];congr 1;simp only[uU];omega
theorem Sn{d:Nat}{n b c t e g A:List UInt8}{s:BA}{v:V}{ms:List (BA×V)}(hn:vT n s)(hb:Blanks b)(X:Blanks c)(hw:W (d+1) t v)(hv:PW (d+1) t v)(Y:Blanks e)(Z:Blanks g)(ho:WO d A ms)(hr:PO d A ms) :
  PO d ([34]++n++[34]++b++[58]++c++t++e++[44]++g++A) ((s,v)::ms):=by
 intro l r p f acc I k a;obtain⟨x,t2,rfl,hx,_⟩:=hw.head;obtain⟨t3,rfl⟩:=ho.head;simp only[yn] at I;obtain⟨N,H⟩:=I.app;rw[<- yn n [34]] at H;obtain⟨P,Q⟩:=H.app;obtain⟨R,S⟩:=Q.app;obtain⟨h7,T⟩:=S.app;obtain⟨U,m⟩:=T.app;obtain⟨h,o⟩:=m.app;obtain⟨q,u⟩:=o.app;obtain⟨O,w⟩:=u.app;obtain⟨z,i⟩:=w.app;have hp:zk l p=34:=N.hd;have J:=iB hn P;obtain⟨B,C⟩:=At.skip (l:=l) (b:=b) (c:=58) R hb (by decide);obtain⟨D,L⟩:=At.skip (l:=l) (b:=c) U X hx;obtain⟨E,F⟩:=At.skip (l:=l) (b:=e) (c:=44) q Y (by decide);obtain⟨G,M⟩:=At.skip (l:=l) (b:=g) (c:=34) z Z (by decide);simp only[xV,qL] at J B C D L E F G M h i k |-
 have j:acc.any (λx=>x.1.toList==s.toList)=false:=by
  rw[QU];intro y hy;simp only[jN,vw] at a
  have:=(List.nodup_append.1 a).2.2 y.1.toList (qR.2 ⟨y,hy,rfl⟩) s.toList (by simp)
  simpa using this
 match f,k with
 | f+1,k=>
  rw[uI,za (by rw[hp];decide),J];simp only;rw[j];simp only[yB,yu];have K:p+1+n.length+1=p+1+(n.length+1):=by omega
  rw[K,B,C,za (by decide),D];rw[hv l _ _ f h (by simp only[uU] at k |-;omega)];simp only;rw[E,F,zb (by decide),G,hr l r _ f (acc++[(s,v)]) i (by simp only[uU] at k |-;omega) (by simpa using a)];simp only[yn,kQ,List.nil_append];congr 1;simp only[uU];omega
theorem W.pos{d:Nat}{t:List UInt8}{v:V}(h:W d t v):t≠[]:=by
 obtain⟨c,r,rfl,_⟩:=h.head
 simp
mutual
theorem W.reads:∀{d:Nat} {t:List UInt8} {v:V},W d t v->PW d t v
 | _,_,_,.str h=>Su h
 | _,_,_,.yes=>Sv
 | _,_,_,.no=>Sq
 | _,_,_,.list hd hb hw=>Sl hd hb hw hw.reads
 | _,_,_,.obj hd hb hw hn=>Sr hd hb hw hn hw.reads
theorem WL.reads:∀{d:Nat} {t:List UInt8} {a:List V},WL d t a->PL d t a
 | _,_,_,.last hw hb=>Sj hw.reads hb hw.pos
 | _,_,_,.more hw hb hc hl=>Sm hw.reads hb hc hl hl.reads hw.pos
theorem WO.reads:∀{d:Nat} {t:List UInt8} {ms:List (BA×V)},WO d t ms->PO d t ms
 | _,_,_,.last hn hb hc hw he=>Sk hn hb hc hw hw.reads he
 | _,_,_,.more hn hb hc hw he hg ho=>Sn hn hb hc hw hw.reads he hg ho ho.reads
end
theorem RX{t:List UInt8}{v:V}(h:W 1 t v):yS t = .ok v t.length:=by
 obtain⟨c,r,rfl,b,_⟩:=h.head;have a:At (c::r) 0 (c::r) []:=by unfold At;simp
 have e:skip (c::r) 0=0:=skip_none _ _ (by rw[a.hd];exact b);have f:=h.reads (c::r) [] 0 (2*(c::r).length+1) a (by omega);unfold yS;rw[e,f];simp only[qM];have d:skip (c::r) (c::r).length=(c::r).length:=skip_none _ _ (by rw[Kz _ _ (by omega)];decide);rw[d,za (by omega)]
end Rd
namespace Kp
open Rd Ref
def bl(b:BA):List UInt8:=b.data.toList
theorem xL(a b:BA):bl (a++b)=bl a++bl b:=by unfold bl;simp[ByteArray.data_append]
inductive Plain8:List UInt8->Prop
 | nil:Plain8 []
 | one {b t}:32<=b.toNat/\b.toNat<128/\b.toNat≠34/\b.toNat≠92->Plain8 t->Plain8 (b::t)
 | two {t}:Plain8 t->Plain8 (195::169::t)
theorem nL{b:UInt8}(h:32<=b.toNat/\b.toNat<128/\b.toNat≠34/\b.toNat≠92):YL [b] ⟨#[b]⟩:=by
 refine⟨by simp,?_,λl p r a=>?_⟩
 ·simp only[List.head?_cons,ne_eq,Option.some.injEq];intro e;rw[e] at h;exact h.2.2.1 rfl
 ·have c:=a.hd;unfold yE;simp only;rw[c,za (by omega),za h.2.2.2,zb (by omega)]
  have:one ((b.toNat:Nat):Int)=⟨#[b]⟩:=by
   unfold one
   simp
  rw[this]
  rfl
theorem At.tl{l:List UInt8}{p:Nat}{b:UInt8}{t r:List UInt8}(h:At l p (b::t) r):At l (p+1) t r:=(At.app (a:=[b]) (b:=t) h).2
theorem EU:YL [92,47] ⟨#[47]⟩:=by
 refine⟨by simp,by simp,λl p r a=>?_⟩;have b:=a.hd;have c:=(At.tl a).hd;unfold yE vG;simp only[b,c]
 rfl
theorem EQ:YL [92,117,48,48,54,49] ⟨#[97]⟩:=by
 refine⟨by simp,by simp,λl p r e=>?_⟩;have g:=e.hd;have a:=At.tl e;have b:=At.tl a;have c:=At.tl b;have d:=At.tl c;have f:=At.tl d;unfold yE vG uB;simp only[g,a.hd,b.hd,c.hd,d.hd,f.hd]
 rfl
theorem EW:YL [92,117,48,48,50,65] ⟨#[42]⟩:=by
 refine⟨by simp,by simp,λl p r e=>?_⟩;have g:=e.hd;have a:=At.tl e;have b:=At.tl a;have c:=At.tl b;have d:=At.tl c;have f:=At.tl d;unfold yE vG uB;simp only[g,a.hd,b.hd,c.hd,d.hd,f.hd]
 rfl
theorem ER:YL [195,169] ⟨#[195,169]⟩:=by
 refine⟨by simp,by simp,λl p r a=>?_⟩;have c:=a.hd;have b:=At.tl a;unfold yE jY within;simp only[c,b.hd]
 rfl
theorem ET(a:Int){b:UInt8}(h:32<=b.toNat/\b.toNat<128/\b.toNat≠34/\b.toNat≠92):YL (bl (esc a b)) ⟨#[b]⟩:=by
 unfold esc
 by_cases c1:b.toNat=47/\bit a 1=true
 ·rw[zb c1]
  have:b=47:=Ye.1 c1.1
  subst this;exact EU
 rw[za c1]
 by_cases c2:b.toNat=97/\bit a 2=true
 ·rw[zb c2]
  have:b=97:=Ye.1 c2.1
  subst this;exact EQ
 rw[za c2]
 by_cases c3:b.toNat=42/\bit a 4=true
 ·rw[zb c3]
  have:b=42:=Ye.1 c3.1
  subst this;exact EW
 rw[za c3];exact nL h
theorem oW(e:Int){b:UInt8}(a:b.toNat≠47)(c:b.toNat≠97)(d:b.toNat≠42):esc e b=⟨#[b]⟩:=by
 unfold esc;rw[za (λh=>a h.1),za (λh=>c h.1),za (λh=>d h.1)]
def inner(a:Int)(t:List UInt8):List UInt8:=t.flatMap λb=>bl (esc a b)
theorem WU(a:Int){t:List UInt8}(h:Plain8 t):vT (inner a t) ⟨⟨t⟩⟩:=by
 induction h with
 | nil=>exact .nil
 | one hb _ c=>
  rename_i b t _
  have:=vT.char (ET a hb) c
  have e:(⟨#[b]⟩:BA)++⟨⟨t⟩⟩=⟨⟨b::t⟩⟩:=by apply uS;simp[ByteArray.data_append]
  rw[e] at this;exact this
 | two _ c=>
  rename_i t _
  have:=vT.char ER c
  have e:(⟨#[195,169]⟩:BA)++⟨⟨t⟩⟩=⟨⟨195::169::t⟩⟩:=by apply uS;simp[ByteArray.data_append]
  rw[e] at this
  have d:inner a (195::169::t)=[195,169]++inner a t:=by
   unfold inner;rw[lS,lS,oW a (by decide) (by decide) (by decide),oW a (by decide) (by decide) (by decide)]
   rfl
  rw[d];exact this
theorem AA(s:BA)(a:Int):∀k,k<=(bl s).length->bl (Xf s a k)=34::inner a ((bl s).take k)
 | 0,_=>rfl
 | k+1,h=>by
  rw[Xf,xL,AA s a k (by omega)];have b:k<(bl s).length:=by omega
  rw[Xy b];unfold inner;rw[List.flatMap_append,List.flatMap_singleton]
  have:s.data.toList.getD k 0=(bl s)[k]:=by
   rw[zQ];show ((bl s)[k]?).getD 0=_;rw[zt b]
   rfl
  rw[this]
  rfl
theorem ny(s:BA):(bl s).length=s.size:=by unfold bl;simp
theorem Rz(s:BA)(a:Int):bl (ui s a)=[34]++inner a (bl s)++[34]:=by
 rw[ui,xL,AA s a s.size (by rw[ny];omega),ZU (by rw[ny];omega)]
 rfl
def Pl(s:BA):Prop:=Plain8 (bl s)
theorem AC{d:Nat}{s:BA}(a:Int)(h:Pl s):W d (bl (ui s a)) (.str s):=by
 rw[Rz];exact .str (WU a h)
theorem PP:∀b ∈ Je,Blanks (bl b):=by
 intro b hb;simp only[Je,vz,YR,or_false] at hb
 rcases hb with rfl|rfl|rfl|rfl<;>(intro c a;simp[bl] at a)
 ·subst a;decide
 ·rcases a with rfl|rfl<;>decide
 ·rcases a with rfl|rfl<;>decide
theorem xk:Blanks []:=λ_ h=>by simp at h
theorem Ub(a:Int):Blanks (bl (yJ a)):=ZF (P:=λb=>Blanks (bl b)) PP xk _
def uG(sep:List UInt8):List (List UInt8)->List UInt8
 | []=>[]
 | [t]=>t
 | t::ts=>t++sep++uG sep ts
theorem dP(sep t:List UInt8):∀ts:List (List UInt8),ts≠[]->uG sep (ts++[t])=uG sep ts++sep++t
 | [],h=>absurd rfl h
 | [x],_=>rfl
 | x::y::r,_=>by
  have:=dP sep t (y::r) (by simp)
  show x++sep++uG sep (y::r++[t])=x++sep++uG sep (y::r)++sep++t;rw[this];simp only[yn]
theorem lq{d:Nat}{c:List UInt8}(a:Blanks c):∀(xs:List (List UInt8×V)),xs≠[]->(∀x ∈ xs,W (d+1) x.1 x.2)->WL d (uG ([44]++c) (xs.map Prod.fst)++[93]) (xs.map Prod.snd)
 | [],h,_=>absurd rfl h
 | [x],_,h=>by
  have:=WL.last (b:=[]) (h x (by simp)) xk
  simpa [uG] using this
 | x::y::r,_,h=>by
  have g:=lq a (y::r) (by simp) (λz f=>h z (by simp[f]))
  have:=WL.more (b:=[]) (c:=c) (h x (by simp)) xk a g
  have e:uG ([44]++c) ((x::y::r).map Prod.fst)++[93]=x.1++[]++[44]++c++(uG ([44]++c) ((y::r).map Prod.fst)++[93]):=by
   show x.1++([44]++c)++uG ([44]++c) ((y::r).map Prod.fst)++[93]=_;simp only[yn,List.nil_append]
  rw[e];exact this
theorem fJ(l:List BA)(a:Int):∀k,k<=l.length->bl (yg l a k)=[91]++bl (yJ a)++uG ([44]++bl (yJ a)) ((l.take k).map λs=>bl (ui s a))
 | 0,_=>by
  rw[yg,xL];simp[uG]
  rfl
 | k+1,h=>by
  have b:k<l.length:=by omega
  have c:l.getD k ⟨#[]⟩=l[k]:=by rw[zQ,zt b];rfl
  rw[yg,xL,c,Xy b,jN,List.map_singleton]
  by_cases h0:0<k
  ·rw[zb h0,xL,xL,fJ l a k (by omega),dP _ _ _ (by
    intro e
    have:=congrArg List.length e
    rw[qg,xE,QW] at this;omega)]
   simp only[yn]
   rfl
  ·have:k=0:=by omega
   subst this;rw[za h0,fJ l a 0 (by omega)];simp[uG]
def qd(l:List BA)(a:Int):V:=if l.length=1/\bit a 32=true then .str (l.getD 0 ⟨#[]⟩) else .list (l.map .str)
theorem fK{d:Nat}(hd:d<=8){l:List BA}(a:Int)(g:l≠[])(f:∀s ∈ l,Pl s):∃t b,bl (vW l a)=t++b/\Blanks b/\W d t (qd l a):=by
 unfold vW qd
 by_cases c:l.length=1/\bit a 32=true
 ·rw[zb c,zb c];refine⟨_,[],(List.append_nil _).symm,xk,AC a ?_⟩;have i:0<l.length:=by omega
  have h:l.getD 0 ⟨#[]⟩=l[0]:=by rw[zQ,zt i];rfl
  rw[h];exact f _ (xg _)
 ·rw[za c,za c]
  have e:=lq (d:=d) (Ub a) (l.map λs=>(bl (ui s a),V.str s)) (by simpa using g) (by
   intro x k;obtain⟨s,j,rfl⟩:=qR.1 k;exact AC a (f s j))
  rw[jw,jw] at e;refine⟨[91]++bl (yJ a)++(uG ([44]++bl (yJ a)) (l.map λs=>bl (ui s a))++[93]),bl (yJ a),?_,Ub a,.list hd (Ub a) e⟩;rw[xL,xL,fJ l a l.length (ze _),ZU (ze _)];simp only[yn]
  rfl
def XY:List UInt8->Bool
 | []=>true
 | [b]=>decide (32<=b.toNat/\b.toNat<128/\b.toNat≠34/\b.toNat≠92)
 | b::c::t=>(b==195&&c==169&&XY t)||(decide (32<=b.toNat/\b.toNat<128/\b.toNat≠34/\b.toNat≠92)&&XY (c::t))
theorem Yv:∀t,XY t=true->Plain8 t
 | [],_ => .nil
 | [b],h=>by
  rw[XY,jk] at h;exact .one h .nil
 | b::c::t,h=>by
  rw[XY,Vt] at h
  rcases h with h|h
  ·simp only[uo,Zz] at h;obtain⟨⟨rfl,rfl⟩,h⟩:=h;exact .two (Yv t h)
  ·rw[uo,jk] at h;exact .one h.1 (Yv (c::t) h.2)
theorem Kw:∀s ∈ patterns,Pl s:=λs a=>Yv _ ((by decide:∀s ∈ patterns,XY (bl s)=true) s a)
theorem Ct:∀s ∈ words,Pl s:=λs a=>Yv _ ((by decide:∀s ∈ words,XY (bl s)=true) s a)
theorem wF:∀s ∈ nums,Pl s:=λs a=>Yv _ ((by decide:∀s ∈ nums,XY (bl s)=true) s a)
theorem Ci:∀s ∈ QO,Pl s:=λs a=>Yv _ ((by decide:∀s ∈ QO,XY (bl s)=true) s a)
theorem KQ{t:List UInt8}(h:∀b ∈ t,32<=b.toNat/\b.toNat<128/\b.toNat≠34/\b.toNat≠92):vT t ⟨⟨t⟩⟩:=by
 induction t with
 | nil=>exact .nil
 | cons b t c=>
  have:=vT.char (nL (h b (by simp))) (c (λx a=>h x (by simp[a])))
  have e:(⟨#[b]⟩:BA)++⟨⟨t⟩⟩=⟨⟨b::t⟩⟩:=by apply uS;simp[ByteArray.data_append]
  rw[e] at this;exact this
def vD(raw:List Int)(nt:Bool)(a:Int):V:=if nt then .obj [(qH,qd (qU raw) a)] else qd (qU raw) a
theorem nP(raw:List Int):qU raw≠[]:=by
 intro e
 have:=(XL raw).1
 rw[e] at this;simp at this
theorem bG{d:Nat}(hd:d<=7)(raw:List Int)(nt:Bool)(a:Int):∃t b,bl (ji raw nt a)=t++b/\Blanks b/\W d t (vD raw nt a):=by
 unfold ji vD
 cases nt with
 | false=>
  simp only[yB,yu];exact fK (by omega) a (nP raw) (λs f=>Kw s (VN f))
 | true=>
  simp only[qO];obtain⟨t,b,e,hb,j⟩:=fK (d:=d+1) (by omega) a (nP raw) (λs f=>Kw s (VN f));have h:vT [110,111,116] qH:=KQ (by decide);have i:=WO.last (d:=d) h (b:=[]) (c:=[]) xk xk j hb;refine⟨_,[],(List.append_nil _).symm,xk,?_⟩
  have:=W.obj (by omega) (Ub a) i (by simp)
  rw[xL,xL,xL,xL,e]
  have g:bl ⟨#[123]⟩++bl (yJ a)++bl ⟨#[34,110,111,116,34,58]⟩++(t++b)++bl ⟨#[125]⟩=[123]++bl (yJ a)++([34]++[110,111,116]++[34]++[]++[58]++[]++t++b++[125]):=by
   simp only[bl,yn,kQ,List.nil_append]
  rw[g];exact this
end Kp
end Go.Proofs.YtagnlbgbnfnapaaGreatDoor
