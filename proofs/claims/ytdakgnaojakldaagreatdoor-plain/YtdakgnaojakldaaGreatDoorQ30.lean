/- P -/
import Derived.Test.YtdakgnaojakldaaGreatDoorQ29
set_option maxRecDepth 100000
namespace Go.Proofs.YtdakgnaojakldaaGreatDoor
namespace Rd
open Ref
def PW(d:Nat)(t:List UInt8)(v:V):Prop:=∀(l r:List UInt8) (p f:Nat),At l p t r->t.length<=f->qi l f d p = .ok v (p+t.length)
def PL(d:Nat)(t:List UInt8)(a:List V):Prop:=∀(l r:List UInt8) (p f:Nat) (acc:List V),At l p t r->t.length<=f->ug l f d p acc = .ok (.list (acc++a)) (p+t.length)
def PO(d:Nat)(t:List UInt8)(ms:List (BA×V)):Prop:=∀(l r:List UInt8) (p f:Nat) (acc:List (BA×V)),At l p t r->t.length<=f->((acc++ms).map λm=>m.1.toList).Nodup->uh l f d p acc = .ok (.obj (acc++ms)) (p+t.length)
theorem At.skip{l b r:List UInt8}{p:Nat}{c:UInt8}(h:At l p b (c::r))(hb:Blanks b)(d:blank c.toNat=false):skip l p=p+b.length/\zi l (p+b.length)=c.toNat:=by
 have a:=h.hdR;exact⟨wF b hb l _ p h (by rw[a];exact d),a⟩
theorem gH(l r:List UInt8):∀(d:List UInt8) (p:Nat),(∀c ∈ d,c≠0)->At l p d r->qf l (d.map UInt8.toNat) p = .ok () (p+d.length)
 | [],p,_,_=>rfl
 | c::d,p,h0,h=>by
  have e:At l (p+1) d r:=(At.app (a:=[c]) (b:=d) h).2;rw[yn,qf,h.hd];rw[zb rfl,gH l r d (p+1) (λx f=>h0 x (by simp[f])) e]
  simp;omega
theorem RN{d:Nat}{t:List UInt8}{s:BA}(h:jQ t s):PW d ([34]++t++[34]) (.str s):=by
 intro l r p f c a;rw[List.append_assoc] at c;obtain⟨g,i⟩:=c.app;have b:zi l p=34:=g.hd;simp only[xm,y8] at a |-
 match f,a with
 | f+1,a=>
  have e:=fH h i;simp only[y8] at e;rw[qi,za (by rw[b];decide),za (by rw[b];decide),zb b,e];simp only;congr 1;omega
theorem RP{d:Nat}:PW d [116,114,117,101] (.word true):=by
 intro l r p f e g;have c:zi l p=116:=e.hd;have h:=gH l r [114,117,101] (p+1) (by decide) (At.app (a:=[116]) (b:=[114,117,101]) e).2
 match f,g with
 | f+1,g=>
  rw[qi,za (by rw[c];decide),za (by rw[c];decide),za (by rw[c];decide),zb c];have i:qf l [114,117,101] (p+1) = .ok () (p+1+3):=h;rw[i]
  rfl
theorem RJ{d:Nat}:PW d [102,97,108,115,101] (.word false):=by
 intro l r p f e g;have c:zi l p=102:=e.hd;have h:=gH l r [97,108,115,101] (p+1) (by decide) (At.app (a:=[102]) (b:=[97,108,115,101]) e).2
 match f,g with
 | f+1,g=>
  rw[qi,za (by rw[c];decide),za (by rw[c];decide),za (by rw[c];decide),za (by rw[c];decide),zb c];have i:qf l [97,108,115,101] (p+1) = .ok () (p+1+4):=h;rw[i]
  rfl
theorem RG{d:Nat}{b t:List UInt8}{j:List V}(hd:d<=8)(hb:Blanks b)(x:WL d t j)(w:PL d t j):PW d ([91]++b++t) (.list j):=by
 intro l r p f u h;obtain⟨c,y,rfl,v,g⟩:=x.head;obtain⟨o,m⟩:=u.app;obtain⟨q,s⟩:=o.app;have n:zi l p=91:=q.hd;obtain⟨a,k⟩:=At.skip (l:=l) (b:=b) (p:=p+[91].length) s hb v;simp only[y8] at a k;simp only[xm,y8] at h m |-
 match f,h with
 | f+1,h=>
  have i:¬zi l (skip l (p+1))=93:=by
   rw[a,k];intro e;exact g (XJ.1 e)
  rw[qi,za (by rw[n];decide),zb n,za (by omega),za i,a]
  have:=w l r (p+1+b.length) f [] (by rw[show p+1+b.length=p+(1+b.length) by omega];exact m) (by omega)
  rw[this];simp only[List.nil_append];congr 1;omega
theorem RL{d:Nat}{b t:List UInt8}{ms:List (BA×V)}(hd:d<=8)(hb:Blanks b)(v:WO d t ms)(q:(ms.map λm=>m.1.toList).Nodup)(u:PO d t ms):PW d ([123]++b++t) (.obj ms):=by
 intro l r p f o e;obtain⟨w,rfl⟩:=v.head;obtain⟨j,i⟩:=o.app;obtain⟨k,n⟩:=j.app;have s:zi l p=123:=k.hd;obtain⟨a,h⟩:=At.skip (l:=l) (b:=b) (p:=p+[123].length) (c:=34) n hb (by decide);simp only[y8] at a h;simp only[xm,y8] at e i |-
 match f,e with
 | f+1,e=>
  have g:¬zi l (skip l (p+1))=125:=by rw[a,h];decide
  rw[qi,zb s,za (by omega),za g,a]
  have:=u l r (p+1+b.length) f [] (by rw[show p+1+b.length=p+(1+b.length) by omega];exact i) (by omega) (by simpa using q)
  rw[this];simp only[List.nil_append];congr 1;omega
theorem RD{d:Nat}{t b:List UInt8}{v:V}(o:PW (d+1) t v)(hb:Blanks b)(n:t≠[]):PL d (t++b++[93]) [v]:=by
 intro l r p f acc e a;rw[List.append_assoc] at e;obtain⟨i,j⟩:=e.app;obtain⟨k,q⟩:=j.app;obtain⟨g,h⟩:=At.skip (l:=l) (b:=b) (p:=p+t.length) (c:=93) k hb (by decide);have m:0<t.length:=List.length_pos_iff.2 n;simp only[xm,y8] at a |-
 match f,a with
 | f+1,a=>
  rw[ug,o l _ p f i (by omega)];simp only;rw[g,h,za (by decide),zb (by decide)];congr 1;omega
theorem RH{d:Nat}{t b c e:List UInt8}{v:V}{g:List V}(D:PW (d+1) t v)(hb:Blanks b)(z:Blanks c)(E:WL d e g)(B:PL d e g)(C:t≠[]):PL d (t++b++[44]++c++e) (v::g):=by
 intro l r p f acc j a;obtain⟨x,H,rfl,F,_⟩:=E.head;simp only[List.append_assoc] at j;obtain⟨o,q⟩:=j.app;obtain⟨s,u⟩:=q.app;obtain⟨G,w⟩:=u.app;obtain⟨y,i⟩:=w.app;obtain⟨k,m⟩:=At.skip (l:=l) (b:=b) (p:=p+t.length) (c:=44) s hb (by decide);obtain⟨h,n⟩:=At.skip (l:=l) (b:=c) y z F;simp only[y8] at h n i;have A:0<t.length:=List.length_pos_iff.2 C;simp only[xm,y8] at a |-
 match f,a with
 | f+1,a=>
  rw[ug,D l _ p f o (by omega)];simp only;rw[k,m,zb (by decide),h,B l r _ f (acc++[v]) i (by omega)];simp only[List.append_assoc,yZ,List.nil_append];congr 1;omega
theorem RF{d:Nat}{n b c t e:List UInt8}{s:BA}{v:V}(P:jQ n s)(hb:Blanks b)(N:Blanks c)(S:W (d+1) t v)(R:PW (d+1) t v)(O:Blanks e):PO d ([34]++n++[34]++b++[58]++c++t++e++[125]) [(s,v)]:=by
 intro l r p f acc B i h;obtain⟨x,Y,rfl,T,_⟩:=S.head;simp only[List.append_assoc] at B;obtain⟨F,A⟩:=B.app;rw[<- List.append_assoc n [34]] at A;obtain⟨H,I⟩:=A.app;obtain⟨J,K⟩:=I.app;obtain⟨X,L⟩:=K.app;obtain⟨M,j⟩:=L.app;obtain⟨a,k⟩:=j.app;obtain⟨m,G⟩:=k.app;have Q:zi l p=34:=F.hd;have C:=fH P H;obtain⟨o,q⟩:=At.skip (l:=l) (b:=b) (c:=58) J hb (by decide);obtain⟨u,E⟩:=At.skip (l:=l) (b:=c) M N T;obtain⟨w,z⟩:=At.skip (l:=l) (b:=e) (c:=125) m O (by decide);simp only[y8,xm] at C o q u E w z a i |-
 have g:acc.any (λx=>x.1.toList==s.toList)=false:=by
  rw[Qo];intro y U;simp only[jm,yn,vg] at h
  have:=(List.nodup_append.1 h).2.2 y.1.toList (ql.2 ⟨y,U,rfl⟩) s.toList (by simp)
  simpa using this
 match f,i with
 | f+1,i=>
  rw[uh,za (by rw[Q];decide),C];simp only;rw[g];simp only[xz,qW];have D:p+1+n.length+1=p+1+(n.length+1):=by omega
  rw[D,o,q,za (by decide),u];rw[R l _ _ f a (by simp only[jl] at i |-;omega)];simp only;rw[w,z,za (by decide),zb (by decide)];congr 1;simp only[jl];omega
theorem RI{d:Nat}{n b c t e g A:List UInt8}{s:BA}{v:V}{ms:List (BA×V)}(hn:jQ n s)(hb:Blanks b)(X:Blanks c)(hw:W (d+1) t v)(hv:PW (d+1) t v)(Y:Blanks e)(Z:Blanks g)(ho:WO d A ms)(hr:PO d A ms) :
  PO d ([34]++n++[34]++b++[58]++c++t++e++[44]++g++A) ((s,v)::ms):=by
 intro l r p f acc I k a;obtain⟨x,t2,rfl,hx,_⟩:=hw.head;obtain⟨t3,rfl⟩:=ho.head;simp only[List.append_assoc] at I;obtain⟨N,H⟩:=I.app;rw[<- List.append_assoc n [34]] at H;obtain⟨P,Q⟩:=H.app;obtain⟨R,S⟩:=Q.app;obtain⟨h7,T⟩:=S.app;obtain⟨U,m⟩:=T.app;obtain⟨h,o⟩:=m.app;obtain⟨q,u⟩:=o.app;obtain⟨O,w⟩:=u.app;obtain⟨z,i⟩:=w.app;have hp:zi l p=34:=N.hd;have J:=fH hn P;obtain⟨B,C⟩:=At.skip (l:=l) (b:=b) (c:=58) R hb (by decide);obtain⟨D,L⟩:=At.skip (l:=l) (b:=c) U X hx;obtain⟨E,F⟩:=At.skip (l:=l) (b:=e) (c:=44) q Y (by decide);obtain⟨G,M⟩:=At.skip (l:=l) (b:=g) (c:=34) z Z (by decide);simp only[y8,xm] at J B C D L E F G M h i k |-
 have j:acc.any (λx=>x.1.toList==s.toList)=false:=by
  rw[Qo];intro y hy;simp only[jm,yn] at a
  have:=(List.nodup_append.1 a).2.2 y.1.toList (ql.2 ⟨y,hy,rfl⟩) s.toList (by simp)
  simpa using this
 match f,k with
 | f+1,k=>
  rw[uh,za (by rw[hp];decide),J];simp only;rw[j];simp only[xz,qW];have K:p+1+n.length+1=p+1+(n.length+1):=by omega
  rw[K,B,C,za (by decide),D];rw[hv l _ _ f h (by simp only[jl] at k |-;omega)];simp only;rw[E,F,zb (by decide),G,hr l r _ f (acc++[(s,v)]) i (by simp only[jl] at k |-;omega) (by simpa using a)];simp only[List.append_assoc,yZ,List.nil_append];congr 1;simp only[jl];omega
theorem W.pos{d:Nat}{t:List UInt8}{v:V}(h:W d t v):t≠[]:=by
 obtain⟨c,r,rfl,_⟩:=h.head
 simp
mutual
theorem W.reads:∀{d:Nat} {t:List UInt8} {v:V},W d t v->PW d t v
 | _,_,_,.str h=>RN h
 | _,_,_,.yes=>RP
 | _,_,_,.no=>RJ
 | _,_,_,.list hd hb hw=>RG hd hb hw hw.reads
 | _,_,_,.obj hd hb hw hn=>RL hd hb hw hn hw.reads
theorem WL.reads:∀{d:Nat} {t:List UInt8} {a:List V},WL d t a->PL d t a
 | _,_,_,.last hw hb=>RD hw.reads hb hw.pos
 | _,_,_,.more hw hb hc hl=>RH hw.reads hb hc hl hl.reads hw.pos
theorem WO.reads:∀{d:Nat} {t:List UInt8} {ms:List (BA×V)},WO d t ms->PO d t ms
 | _,_,_,.last hn hb hc hw he=>RF hn hb hc hw hw.reads he
 | _,_,_,.more hn hb hc hw he hg ho=>RI hn hb hc hw hw.reads he hg ho ho.reads
end
theorem tH{t:List UInt8}{v:V}(h:W 1 t v):yh t = .ok v t.length:=by
 obtain⟨c,r,rfl,b,_⟩:=h.head;have a:At (c::r) 0 (c::r) []:=by unfold At;simp
 have e:skip (c::r) 0=0:=skip_none _ _ (by rw[a.hd];exact b);have f:=h.reads (c::r) [] 0 (2*(c::r).length+1) a (by omega);unfold yh;rw[e,f];simp only[qO];have d:skip (c::r) (c::r).length=(c::r).length:=skip_none _ _ (by rw[U7 _ _ (by omega)];decide);rw[d,za (by omega)]
end Rd
namespace Kp
open Rd Ref
def bl(b:BA):List UInt8:=b.data.toList
theorem qB(a b:BA):bl (a++b)=bl a++bl b:=by unfold bl;simp[ByteArray.data_append]
inductive Plain8:List UInt8->Prop
 | nil:Plain8 []
 | one {b t}:32<=b.toNat/\b.toNat<128/\b.toNat≠34/\b.toNat≠92->Plain8 t->Plain8 (b::t)
 | two {t}:Plain8 t->Plain8 (195::169::t)
theorem lm{b:UInt8}(h:32<=b.toNat/\b.toNat<128/\b.toNat≠34/\b.toNat≠92):Yf [b] ⟨#[b]⟩:=by
 refine⟨by simp,?_,λl p r a=>?_⟩
 ·simp only[List.head?_cons,ne_eq,Option.some.injEq];intro e;rw[e] at h;exact h.2.2.1 rfl
 ·have c:=a.hd;unfold yw;simp only;rw[c,za (by omega),za h.2.2.2,zb (by omega)]
  have:one ((b.toNat:Nat):Int)=⟨#[b]⟩:=by
   unfold one
   simp
  rw[this]
  rfl
theorem At.tl{l:List UInt8}{p:Nat}{b:UInt8}{t r:List UInt8}(h:At l p (b::t) r):At l (p+1) t r:=(At.app (a:=[b]) (b:=t) h).2
theorem DD:Yf [92,47] ⟨#[47]⟩:=by
 refine⟨by simp,by simp,λl p r a=>?_⟩;have b:=a.hd;have c:=(At.tl a).hd;unfold yw jS;simp only[b,c]
 rfl
theorem Dy:Yf [92,117,48,48,54,49] ⟨#[97]⟩:=by
 refine⟨by simp,by simp,λl p r e=>?_⟩;have g:=e.hd;have a:=At.tl e;have b:=At.tl a;have c:=At.tl b;have d:=At.tl c;have f:=At.tl d;unfold yw jS vY;simp only[g,a.hd,b.hd,c.hd,d.hd,f.hd]
 rfl
theorem DF:Yf [92,117,48,48,50,65] ⟨#[42]⟩:=by
 refine⟨by simp,by simp,λl p r e=>?_⟩;have g:=e.hd;have a:=At.tl e;have b:=At.tl a;have c:=At.tl b;have d:=At.tl c;have f:=At.tl d;unfold yw jS vY;simp only[g,a.hd,b.hd,c.hd,d.hd,f.hd]
 rfl
theorem Dz:Yf [195,169] ⟨#[195,169]⟩:=by
 refine⟨by simp,by simp,λl p r a=>?_⟩;have c:=a.hd;have b:=At.tl a;unfold yw jJ within;simp only[c,b.hd]
 rfl
theorem DC(st:Int){b:UInt8}(h:32<=b.toNat/\b.toNat<128/\b.toNat≠34/\b.toNat≠92):Yf (bl (esc st b)) ⟨#[b]⟩:=by
 unfold esc
 by_cases c1:b.toNat=47/\bit st 1=true
 ·rw[zb c1]
  have:b=47:=XJ.1 c1.1
  subst this;exact DD
 rw[za c1]
 by_cases c2:b.toNat=97/\bit st 2=true
 ·rw[zb c2]
  have:b=97:=XJ.1 c2.1
  subst this;exact Dy
 rw[za c2]
 by_cases c3:b.toNat=42/\bit st 4=true
 ·rw[zb c3]
  have:b=42:=XJ.1 c3.1
  subst this;exact DF
 rw[za c3];exact lm h
theorem ni(st:Int){b:UInt8}(a:b.toNat≠47)(c:b.toNat≠97)(d:b.toNat≠42):esc st b=⟨#[b]⟩:=by
 unfold esc;rw[za (λh=>a h.1),za (λh=>c h.1),za (λh=>d h.1)]
def inner(st:Int)(t:List UInt8):List UInt8:=t.flatMap λb=>bl (esc st b)
theorem Ag(st:Int){t:List UInt8}(h:Plain8 t):jQ (inner st t) ⟨⟨t⟩⟩:=by
 induction h with
 | nil=>exact .nil
 | one hb _ a=>
  rename_i b t _
  have:=jQ.char (DC st hb) a
  have e:(⟨#[b]⟩:BA)++⟨⟨t⟩⟩=⟨⟨b::t⟩⟩:=by apply jk;simp[ByteArray.data_append]
  rw[e] at this;exact this
 | two _ a=>
  rename_i t _
  have:=jQ.char Dz a
  have e:(⟨#[195,169]⟩:BA)++⟨⟨t⟩⟩=⟨⟨195::169::t⟩⟩:=by apply jk;simp[ByteArray.data_append]
  rw[e] at this
  have c:inner st (195::169::t)=[195,169]++inner st t:=by
   unfold inner;rw[List.flatMap_cons,List.flatMap_cons,ni st (by decide) (by decide) (by decide),ni st (by decide) (by decide) (by decide)]
   rfl
  rw[c];exact this
theorem sZ(s:BA)(st:Int):∀k,k<=(bl s).length->bl (QJ s st k)=34::inner st ((bl s).take k)
 | 0,_=>rfl
 | k+1,h=>by
  rw[QJ,qB,sZ s st k (by omega)];have a:k<(bl s).length:=by omega
  rw[QZ a];unfold inner;rw[List.flatMap_append,List.flatMap_singleton]
  have:s.data.toList.getD k 0=(bl s)[k]:=by
   rw[zL];show ((bl s)[k]?).getD 0=_;rw[zl a]
   rfl
  rw[this]
  rfl
theorem XN(s:BA):(bl s).length=s.size:=by unfold bl;simp
theorem Ra(s:BA)(st:Int):bl (vI s st)=[34]++inner st (bl s)++[34]:=by
 rw[vI,qB,sZ s st s.size (by rw[XN];omega),uW (by rw[XN];omega)]
 rfl
def Pl(s:BA):Prop:=Plain8 (bl s)
theorem tq{d:Nat}{s:BA}(st:Int)(h:Pl s):W d (bl (vI s st)) (.str s):=by
 rw[Ra];exact .str (Ag st h)
theorem OU:∀b ∈ YL,Blanks (bl b):=by
 intro b hb;simp only[YL,x8,Yj,or_false] at hb
 rcases hb with rfl|rfl|rfl|rfl<;>(intro c a;simp[bl] at a)
 ·subst a;decide
 ·rcases a with rfl|rfl<;>decide
 ·rcases a with rfl|rfl<;>decide
theorem zP:Blanks []:=λ_ h=>by simp at h
theorem VH(st:Int):Blanks (bl (yB st)):=Zd (P:=λb=>Blanks (bl b)) OU zP _
def yJ(sep:List UInt8):List (List UInt8)->List UInt8
 | []=>[]
 | [t]=>t
 | t::ts=>t++sep++yJ sep ts
theorem bT(sep t:List UInt8):∀ts:List (List UInt8),ts≠[]->yJ sep (ts++[t])=yJ sep ts++sep++t
 | [],h=>absurd rfl h
 | [x],_=>rfl
 | x::y::r,_=>by
  have:=bT sep t (y::r) (by simp)
  show x++sep++yJ sep (y::r++[t])=x++sep++yJ sep (y::r)++sep++t;rw[this];simp only[List.append_assoc]
theorem KF{d:Nat}{c:List UInt8}(a:Blanks c):∀(xs:List (List UInt8×V)),xs≠[]->(∀x ∈ xs,W (d+1) x.1 x.2)->WL d (yJ ([44]++c) (xs.map Prod.fst)++[93]) (xs.map Prod.snd)
 | [],h,_=>absurd rfl h
 | [x],_,h=>by
  have:=WL.last (b:=[]) (h x (by simp)) zP
  simpa [yJ] using this
 | x::y::r,_,h=>by
  have g:=KF a (y::r) (by simp) (λz f=>h z (by simp[f]))
  have:=WL.more (b:=[]) (c:=c) (h x (by simp)) zP a g
  have e:yJ ([44]++c) ((x::y::r).map Prod.fst)++[93]=x.1++[]++[44]++c++(yJ ([44]++c) ((y::r).map Prod.fst)++[93]):=by
   show x.1++([44]++c)++yJ ([44]++c) ((y::r).map Prod.fst)++[93]=_;simp only[List.append_assoc,List.nil_append]
  rw[e];exact this
theorem dh(l:List BA)(st:Int):∀k,k<=l.length->bl (xG l st k)=[91]++bl (yB st)++yJ ([44]++bl (yB st)) ((l.take k).map λs=>bl (vI s st))
 | 0,_=>by
  rw[xG,qB];simp[yJ]
  rfl
 | k+1,h=>by
  have a:k<l.length:=by omega
  have b:l.getD k ⟨#[]⟩=l[k]:=by rw[zL,zl a];rfl
  rw[xG,qB,b,QZ a,jm,List.map_singleton]
  by_cases h0:0<k
  ·rw[zb h0,qB,qB,dh l st k (by omega),bT _ _ _ (by
    intro e
    have:=congrArg List.length e
    rw[zN,xC,uo] at this;omega)]
   simp only[List.append_assoc]
   rfl
  ·have:k=0:=by omega
   subst this;rw[za h0,dh l st 0 (by omega)];simp[yJ]
def qb(l:List BA)(st:Int):V:=if l.length=1/\bit st 32=true then .str (l.getD 0 ⟨#[]⟩) else .list (l.map .str)
theorem di{d:Nat}(hd:d<=8){l:List BA}(st:Int)(f:l≠[])(e:∀s ∈ l,Pl s):∃t b,bl (xJ l st)=t++b/\Blanks b/\W d t (qb l st):=by
 unfold xJ qb
 by_cases c:l.length=1/\bit st 32=true
 ·rw[zb c,zb c];refine⟨_,[],(List.append_nil _).symm,zP,tq st ?_⟩;have h:0<l.length:=by omega
  have g:l.getD 0 ⟨#[]⟩=l[0]:=by rw[zL,zl h];rfl
  rw[g];exact e _ (qH _)
 ·rw[za c,za c]
  have a:=KF (d:=d) (VH st) (l.map λs=>(bl (vI s st),V.str s)) (by simpa using f) (by
   intro x j;obtain⟨s,i,rfl⟩:=ql.1 j;exact tq st (e s i))
  rw[xD,xD] at a;refine⟨[91]++bl (yB st)++(yJ ([44]++bl (yB st)) (l.map λs=>bl (vI s st))++[93]),bl (yB st),?_,VH st,.list hd (VH st) a⟩;rw[qB,qB,dh l st l.length (ze _),uW (ze _)];simp only[List.append_assoc]
  rfl
def uL:List UInt8->Bool
 | []=>true
 | [b]=>decide (32<=b.toNat/\b.toNat<128/\b.toNat≠34/\b.toNat≠92)
 | b::c::t=>(b==195&&c==169&&uL t)||(decide (32<=b.toNat/\b.toNat<128/\b.toNat≠34/\b.toNat≠92)&&uL (c::t))
theorem Qa:∀t,uL t=true->Plain8 t
 | [],_ => .nil
 | [b],h=>by
  rw[uL,je] at h;exact .one h .nil
 | b::c::t,h=>by
  rw[uL,V5] at h
  rcases h with h|h
  ·simp only[um,kX] at h;obtain⟨⟨rfl,rfl⟩,h⟩:=h;exact .two (Qa t h)
  ·rw[um,je] at h;exact .one h.1 (Qa (c::t) h.2)
theorem JJ:∀s ∈ patterns,Pl s:=λs a=>Qa _ ((by decide:∀s ∈ patterns,uL (bl s)=true) s a)
theorem AY:∀s ∈ words,Pl s:=λs a=>Qa _ ((by decide:∀s ∈ words,uL (bl s)=true) s a)
theorem rC:∀s ∈ nums,Pl s:=λs a=>Qa _ ((by decide:∀s ∈ nums,uL (bl s)=true) s a)
theorem AA:∀s ∈ Qg,Pl s:=λs a=>Qa _ ((by decide:∀s ∈ Qg,uL (bl s)=true) s a)
theorem Mq:∀s ∈ keys,Pl s:=λs a=>Qa _ ((by decide:∀s ∈ keys,uL (bl s)=true) s a)
theorem Kq{t:List UInt8}(h:∀b ∈ t,32<=b.toNat/\b.toNat<128/\b.toNat≠34/\b.toNat≠92):jQ t ⟨⟨t⟩⟩:=by
 induction t with
 | nil=>exact .nil
 | cons b t c=>
  have:=jQ.char (lm (h b (by simp))) (c (λx a=>h x (by simp[a])))
  have e:(⟨#[b]⟩:BA)++⟨⟨t⟩⟩=⟨⟨b::t⟩⟩:=by apply jk;simp[ByteArray.data_append]
  rw[e] at this;exact this
def jR(raw:List Int)(nt:Bool)(st:Int):V:=if nt then .obj [(qm,qb (qE raw) st)] else qb (qE raw) st
theorem aH(raw:List Int):qE raw≠[]:=by
 intro e
 have:=(Qz raw).1
 rw[e] at this;simp at this
theorem aG{d:Nat}(hd:d<=7)(raw:List Int)(nt:Bool)(st:Int):∃t b,bl (jb raw nt st)=t++b/\Blanks b/\W d t (jR raw nt st):=by
 unfold jb jR
 cases nt with
 | false=>
  simp only[xz,qW];exact di (by omega) st (aH raw) (λs a=>JJ s (XP a))
 | true=>
  simp only[qh];obtain⟨t,b,e,hb,i⟩:=di (d:=d+1) (by omega) st (aH raw) (λs a=>JJ s (XP a));have g:jQ [110,111,116] qm:=Kq (by decide);have h:=WO.last (d:=d) g (b:=[]) (c:=[]) zP zP i hb;refine⟨_,[],(List.append_nil _).symm,zP,?_⟩
  have:=W.obj (by omega) (VH st) h (by simp)
  rw[qB,qB,qB,qB,e]
  have f:bl ⟨#[123]⟩++bl (yB st)++bl ⟨#[34,110,111,116,34,58]⟩++(t++b)++bl ⟨#[125]⟩=[123]++bl (yB st)++([34]++[110,111,116]++[34]++[]++[58]++[]++t++b++[125]):=by
   simp only[bl,List.append_assoc,yZ,List.nil_append]
  rw[f];exact this
end Kp
end Go.Proofs.YtdakgnaojakldaaGreatDoor
