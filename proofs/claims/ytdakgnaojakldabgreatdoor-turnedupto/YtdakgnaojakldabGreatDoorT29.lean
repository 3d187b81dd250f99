/- P -/
import Derived.Test.YtdakgnaojakldabGreatDoorT28
set_option maxRecDepth 100000
namespace Go.Proofs.YtdakgnaojakldabGreatDoor
namespace Rd
open Ref
def PW(d:Nat)(t:List UInt8)(v:V):Prop:=∀(l r:List UInt8) (p f:Nat),At l p t r->t.length<=f->zR l f d p = .ok v (p+t.length)
def PL(d:Nat)(t:List UInt8)(a:List V):Prop:=∀(l r:List UInt8) (p f:Nat) (acc:List V),At l p t r->t.length<=f->jI l f d p acc = .ok (.list (acc++a)) (p+t.length)
def PO(d:Nat)(t:List UInt8)(ms:List (BA×V)):Prop:=∀(l r:List UInt8) (p f:Nat) (acc:List (BA×V)),At l p t r->t.length<=f->((acc++ms).map λm=>m.1.toList).Nodup->jJ l f d p acc = .ok (.obj (acc++ms)) (p+t.length)
theorem At.skip{l b r:List UInt8}{p:Nat}{c:UInt8}(h:At l p b (c::r))(d:Blanks b)(e:blank c.toNat=false):skip l p=p+b.length/\ze l (p+b.length)=c.toNat:=by
 have a:=h.hdR;exact⟨lQ b d l _ p h (by rw[a];exact e),a⟩
theorem KW(l r:List UInt8):∀(d:List UInt8) (p:Nat),(∀c ∈ d,c≠0)->At l p d r->zP l (d.map UInt8.toNat) p = .ok () (p+d.length)
 | [],p,_,_=>rfl
 | c::d,p,h0,h=>by
  have e:At l (p+1) d r:=(At.app (a:=[c]) (b:=d) h).2;rw[List.map_cons,zP,h.hd];rw[if_pos rfl,KW l r d (p+1) (λx f=>h0 x (by simp[f])) e]
  simp;omega
theorem Mx{d:Nat}{t:List UInt8}{s:BA}(h:je t s):PW d ([34]++t++[34]) (.str s):=by
 intro l r p f c a;rw[List.append_assoc] at c;obtain⟨g,i⟩:=c.app;have b:ze l p=34:=g.hd;simp only[List.length_append,List.length_singleton] at a |-
 match f,a with
 | f+1,a=>
  have e:=Ko h i;simp only[List.length_singleton] at e;rw[zR,if_neg (by rw[b];decide),if_neg (by rw[b];decide),if_pos b,e];simp only;congr 1;omega
theorem MB{d:Nat}:PW d [116,114,117,101] (.word true):=by
 intro l r p f e g;have c:ze l p=116:=e.hd;have h:=KW l r [114,117,101] (p+1) (by decide) (At.app (a:=[116]) (b:=[114,117,101]) e).2
 match f,g with
 | f+1,g=>
  rw[zR,if_neg (by rw[c];decide),if_neg (by rw[c];decide),if_neg (by rw[c];decide),if_pos c];have i:zP l [114,117,101] (p+1) = .ok () (p+1+3):=h;rw[i]
  rfl
theorem Mv{d:Nat}:PW d [102,97,108,115,101] (.word false):=by
 intro l r p f e g;have c:ze l p=102:=e.hd;have h:=KW l r [97,108,115,101] (p+1) (by decide) (At.app (a:=[102]) (b:=[97,108,115,101]) e).2
 match f,g with
 | f+1,g=>
  rw[zR,if_neg (by rw[c];decide),if_neg (by rw[c];decide),if_neg (by rw[c];decide),if_neg (by rw[c];decide),if_pos c];have i:zP l [97,108,115,101] (p+1) = .ok () (p+1+4):=h;rw[i]
  rfl
theorem Mq{d:Nat}{b t:List UInt8}{j:List V}(hd:d<=8)(v:Blanks b)(y:WL d t j)(x:PL d t j):PW d ([91]++b++t) (.list j):=by
 intro l r p f u h;obtain⟨c,z,rfl,w,g⟩:=y.head;obtain⟨o,m⟩:=u.app;obtain⟨q,s⟩:=o.app;have n:ze l p=91:=q.hd;obtain⟨a,k⟩:=At.skip (l:=l) (b:=b) (p:=p+[91].length) s v w;simp only[List.length_singleton] at a k;simp only[List.length_append,List.length_singleton] at h m |-
 match f,h with
 | f+1,h=>
  have i:¬ze l (skip l (p+1))=93:=by
   rw[a,k];intro e;exact g (UInt8.toNat_inj.1 e)
  rw[zR,if_neg (by rw[n];decide),if_pos n,if_neg (by omega),if_neg i,a]
  have:=x l r (p+1+b.length) f [] (by rw[show p+1+b.length=p+(1+b.length) by omega];exact m) (by omega)
  rw[this];simp only[List.nil_append];congr 1;omega
theorem Mw{d:Nat}{b t:List UInt8}{ms:List (BA×V)}(hd:d<=8)(q:Blanks b)(w:WO d t ms)(s:(ms.map λm=>m.1.toList).Nodup)(v:PO d t ms):PW d ([123]++b++t) (.obj ms):=by
 intro l r p f o e;obtain⟨x,rfl⟩:=w.head;obtain⟨j,i⟩:=o.app;obtain⟨k,n⟩:=j.app;have u:ze l p=123:=k.hd;obtain⟨a,h⟩:=At.skip (l:=l) (b:=b) (p:=p+[123].length) (c:=34) n q (by decide);simp only[List.length_singleton] at a h;simp only[List.length_append,List.length_singleton] at e i |-
 match f,e with
 | f+1,e=>
  have g:¬ze l (skip l (p+1))=125:=by rw[a,h];decide
  rw[zR,if_pos u,if_neg (by omega),if_neg g,a]
  have:=v l r (p+1+b.length) f [] (by rw[show p+1+b.length=p+(1+b.length) by omega];exact i) (by omega) (by simpa using s)
  rw[this];simp only[List.nil_append];congr 1;omega
theorem Mm{d:Nat}{t b:List UInt8}{v:V}(q:PW (d+1) t v)(m:Blanks b)(o:t≠[]):PL d (t++b++[93]) [v]:=by
 intro l r p f acc e a;rw[List.append_assoc] at e;obtain⟨i,j⟩:=e.app;obtain⟨k,s⟩:=j.app;obtain⟨g,h⟩:=At.skip (l:=l) (b:=b) (p:=p+t.length) (c:=93) k m (by decide);have n:0<t.length:=List.length_pos_iff.2 o;simp only[List.length_append,List.length_singleton] at a |-
 match f,a with
 | f+1,a=>
  rw[jI,q l _ p f i (by omega)];simp only;rw[g,h,if_neg (by decide),if_pos (by decide)];congr 1;omega
theorem Mr{d:Nat}{t b c e:List UInt8}{v:V}{g:List V}(E:PW (d+1) t v)(z:Blanks b)(A:Blanks c)(F:WL d e g)(C:PL d e g)(D:t≠[]):PL d (t++b++[44]++c++e) (v::g):=by
 intro l r p f acc j a;obtain⟨x,I,rfl,G,_⟩:=F.head;simp only[List.append_assoc] at j;obtain⟨o,q⟩:=j.app;obtain⟨s,u⟩:=q.app;obtain⟨H,w⟩:=u.app;obtain⟨y,i⟩:=w.app;obtain⟨k,m⟩:=At.skip (l:=l) (b:=b) (p:=p+t.length) (c:=44) s z (by decide);obtain⟨h,n⟩:=At.skip (l:=l) (b:=c) y A G;simp only[List.length_singleton] at h n i;have B:0<t.length:=List.length_pos_iff.2 D;simp only[List.length_append,List.length_singleton] at a |-
 match f,a with
 | f+1,a=>
  rw[jI,E l _ p f o (by omega)];simp only;rw[k,m,if_pos (by decide),h,C l r _ f (acc++[v]) i (by omega)];simp only[List.append_assoc,List.cons_append,List.nil_append];congr 1;omega
theorem Mo{d:Nat}{n b c t e:List UInt8}{s:BA}{v:V}(Q:je n s)(N:Blanks b)(O:Blanks c)(T:W (d+1) t v)(S:PW (d+1) t v)(P:Blanks e):PO d ([34]++n++[34]++b++[58]++c++t++e++[125]) [(s,v)]:=by
 intro l r p f acc B i h;obtain⟨x,Z,rfl,U,_⟩:=T.head;simp only[List.append_assoc] at B;obtain⟨F,A⟩:=B.app;rw[<- List.append_assoc n [34]] at A;obtain⟨H,I⟩:=A.app;obtain⟨J,K⟩:=I.app;obtain⟨Y,L⟩:=K.app;obtain⟨M,j⟩:=L.app;obtain⟨a,k⟩:=j.app;obtain⟨m,G⟩:=k.app;have R:ze l p=34:=F.hd;have C:=Ko Q H;obtain⟨o,q⟩:=At.skip (l:=l) (b:=b) (c:=58) J N (by decide);obtain⟨u,E⟩:=At.skip (l:=l) (b:=c) M O U;obtain⟨w,z⟩:=At.skip (l:=l) (b:=e) (c:=125) m P (by decide);simp only[List.length_singleton,List.length_append] at C o q u E w z a i |-
 have g:acc.any (λx=>x.1.toList==s.toList)=false:=by
  rw[List.any_eq_false];intro y X;simp only[List.map_append,List.map_cons,List.map_nil] at h
  have:=(List.nodup_append.1 h).2.2 y.1.toList (List.mem_map.2 ⟨y,X,rfl⟩) s.toList (by simp)
  simpa using this
 match f,i with
 | f+1,i=>
  rw[jJ,if_neg (by rw[R];decide),C];simp only;rw[g];simp only[Bool.false_eq_true,if_false];have D:p+1+n.length+1=p+1+(n.length+1):=by omega
  rw[D,o,q,if_neg (by decide),u];rw[S l _ _ f a (by simp only[List.length_cons] at i |-;omega)];simp only;rw[w,z,if_neg (by decide),if_pos (by decide)];congr 1;simp only[List.length_cons];omega
theorem Mt{d:Nat}{n b c t e g A:List UInt8}{s:BA}{v:V}{ms:List (BA×V)}(hn:je n s)(X:Blanks b)(Y:Blanks c)(hw:W (d+1) t v)(hv:PW (d+1) t v)(Z:Blanks e)(hg:Blanks g)(ho:WO d A ms)(hr:PO d A ms) :
  PO d ([34]++n++[34]++b++[58]++c++t++e++[44]++g++A) ((s,v)::ms):=by
 intro l r p f acc I k a;obtain⟨x,t2,rfl,hx,_⟩:=hw.head;obtain⟨t3,rfl⟩:=ho.head;simp only[List.append_assoc] at I;obtain⟨N,H⟩:=I.app;rw[<- List.append_assoc n [34]] at H;obtain⟨P,Q⟩:=H.app;obtain⟨R,S⟩:=Q.app;obtain⟨h7,T⟩:=S.app;obtain⟨U,m⟩:=T.app;obtain⟨h,o⟩:=m.app;obtain⟨q,u⟩:=o.app;obtain⟨O,w⟩:=u.app;obtain⟨z,i⟩:=w.app;have hp:ze l p=34:=N.hd;have J:=Ko hn P;obtain⟨B,C⟩:=At.skip (l:=l) (b:=b) (c:=58) R X (by decide);obtain⟨D,L⟩:=At.skip (l:=l) (b:=c) U Y hx;obtain⟨E,F⟩:=At.skip (l:=l) (b:=e) (c:=44) q Z (by decide);obtain⟨G,M⟩:=At.skip (l:=l) (b:=g) (c:=34) z hg (by decide);simp only[List.length_singleton,List.length_append] at J B C D L E F G M h i k |-
 have j:acc.any (λx=>x.1.toList==s.toList)=false:=by
  rw[List.any_eq_false];intro y hy;simp only[List.map_append,List.map_cons] at a
  have:=(List.nodup_append.1 a).2.2 y.1.toList (List.mem_map.2 ⟨y,hy,rfl⟩) s.toList (by simp)
  simpa using this
 match f,k with
 | f+1,k=>
  rw[jJ,if_neg (by rw[hp];decide),J];simp only;rw[j];simp only[Bool.false_eq_true,if_false];have K:p+1+n.length+1=p+1+(n.length+1):=by omega
  rw[K,B,C,if_neg (by decide),D];rw[hv l _ _ f h (by simp only[List.length_cons] at k |-;omega)];simp only;rw[E,F,if_pos (by decide),G,hr l r _ f (acc++[(s,v)]) i (by simp only[List.length_cons] at k |-;omega) (by simpa using a)];simp only[List.append_assoc,List.cons_append,List.nil_append];congr 1;simp only[List.length_cons];omega
theorem W.pos{d:Nat}{t:List UInt8}{v:V}(h:W d t v):t≠[]:=by
 obtain⟨c,r,rfl,_⟩:=h.head
 simp
mutual
theorem W.reads:∀{d:Nat} {t:List UInt8} {v:V},W d t v->PW d t v
 | _,_,_,.str h=>Mx h
 | _,_,_,.yes=>MB
 | _,_,_,.no=>Mv
 | _,_,_,.list hd hb hw=>Mq hd hb hw hw.reads
 | _,_,_,.obj hd hb hw hn=>Mw hd hb hw hn hw.reads
theorem WL.reads:∀{d:Nat} {t:List UInt8} {a:List V},WL d t a->PL d t a
 | _,_,_,.last hw hb=>Mm hw.reads hb hw.pos
 | _,_,_,.more hw hb hc hl=>Mr hw.reads hb hc hl hl.reads hw.pos
theorem WO.reads:∀{d:Nat} {t:List UInt8} {ms:List (BA×V)},WO d t ms->PO d t ms
 | _,_,_,.last hn hb hc hw he=>Mo hn hb hc hw hw.reads he
 | _,_,_,.more hn hb hc hw he hg ho=>Mt hn hb hc hw hw.reads he hg ho ho.reads
end
theorem Md{t:List UInt8}{v:V}(h:W 1 t v):xN t = .ok v t.length:=by
 obtain⟨c,r,rfl,b,_⟩:=h.head;have a:At (c::r) 0 (c::r) []:=by unfold At;simp
 have e:skip (c::r) 0=0:=skip_none _ _ (by rw[a.hd];exact b);have f:=h.reads (c::r) [] 0 (2*(c::r).length+1) a (by omega);unfold xN;rw[e,f];simp only[Nat.zero_add];have d:skip (c::r) (c::r).length=(c::r).length:=skip_none _ _ (by rw[JU _ _ (by omega)];decide);rw[d,if_neg (by omega)]
end Rd
namespace Kp
open Rd Ref
def bl(b:BA):List UInt8:=b.data.toList
theorem qN(a b:BA):bl (a++b)=bl a++bl b:=by unfold bl;simp[ByteArray.data_append]
inductive Plain8:List UInt8->Prop
 | nil:Plain8 []
 | one {b t}:32<=b.toNat/\b.toNat<128/\b.toNat≠34/\b.toNat≠92->Plain8 t->Plain8 (b::t)
 | two {t}:Plain8 t->Plain8 (195::169::t)
theorem aX{b:UInt8}(h:32<=b.toNat/\b.toNat<128/\b.toNat≠34/\b.toNat≠92):QG [b] ⟨#[b]⟩:=by
 refine⟨by simp,?_,λl p r a=>?_⟩
 ·simp only[List.head?_cons,ne_eq,Option.some.injEq];intro e;rw[e] at h;exact h.2.2.1 rfl
 ·have c:=a.hd;unfold xw;simp only;rw[c,if_neg (by omega),if_neg h.2.2.2,if_pos (by omega)]
  have:one ((b.toNat:Nat):Int)=⟨#[b]⟩:=by
   unfold one
   simp
  rw[this]
  rfl
theorem At.tl{l:List UInt8}{p:Nat}{b:UInt8}{t r:List UInt8}(h:At l p (b::t) r):At l (p+1) t r:=(At.app (a:=[b]) (b:=t) h).2
theorem sK:QG [92,47] ⟨#[47]⟩:=by
 refine⟨by simp,by simp,λl p r a=>?_⟩;have b:=a.hd;have c:=(At.tl a).hd;unfold xw yX;simp only[b,c]
 rfl
theorem sH:QG [92,117,48,48,54,49] ⟨#[97]⟩:=by
 refine⟨by simp,by simp,λl p r e=>?_⟩;have g:=e.hd;have a:=At.tl e;have b:=At.tl a;have c:=At.tl b;have d:=At.tl c;have f:=At.tl d;unfold xw yX jF;simp only[g,a.hd,b.hd,c.hd,d.hd,f.hd]
 rfl
theorem sM:QG [92,117,48,48,50,65] ⟨#[42]⟩:=by
 refine⟨by simp,by simp,λl p r e=>?_⟩;have g:=e.hd;have a:=At.tl e;have b:=At.tl a;have c:=At.tl b;have d:=At.tl c;have f:=At.tl d;unfold xw yX jF;simp only[g,a.hd,b.hd,c.hd,d.hd,f.hd]
 rfl
theorem sI:QG [195,169] ⟨#[195,169]⟩:=by
 refine⟨by simp,by simp,λl p r a=>?_⟩;have c:=a.hd;have b:=At.tl a;unfold xw yN within;simp only[c,b.hd]
 rfl
theorem sJ(a:Int){b:UInt8}(h:32<=b.toNat/\b.toNat<128/\b.toNat≠34/\b.toNat≠92):QG (bl (esc a b)) ⟨#[b]⟩:=by
 unfold esc
 by_cases c1:b.toNat=47/\bit a 1=true
 ·rw[if_pos c1]
  have:b=47:=UInt8.toNat_inj.1 c1.1
  subst this;exact sK
 rw[if_neg c1]
 by_cases c2:b.toNat=97/\bit a 2=true
 ·rw[if_pos c2]
  have:b=97:=UInt8.toNat_inj.1 c2.1
  subst this;exact sH
 rw[if_neg c2]
 by_cases c3:b.toNat=42/\bit a 4=true
 ·rw[if_pos c3]
  have:b=42:=UInt8.toNat_inj.1 c3.1
  subst this;exact sM
 rw[if_neg c3];exact aX h
theorem dm(e:Int){b:UInt8}(a:b.toNat≠47)(c:b.toNat≠97)(d:b.toNat≠42):esc e b=⟨#[b]⟩:=by
 unfold esc;rw[if_neg (λh=>a h.1),if_neg (λh=>c h.1),if_neg (λh=>d h.1)]
def inner(a:Int)(t:List UInt8):List UInt8:=t.flatMap λb=>bl (esc a b)
theorem Pe(a:Int){t:List UInt8}(h:Plain8 t):je (inner a t) ⟨⟨t⟩⟩:=by
 induction h with
 | nil=>exact .nil
 | one f _ c=>
  rename_i b t _
  have:=je.char (sJ a f) c
  have e:(⟨#[b]⟩:BA)++⟨⟨t⟩⟩=⟨⟨b::t⟩⟩:=by apply ByteArray.ext;simp[ByteArray.data_append]
  rw[e] at this;exact this
 | two _ c=>
  rename_i t _
  have:=je.char sI c
  have e:(⟨#[195,169]⟩:BA)++⟨⟨t⟩⟩=⟨⟨195::169::t⟩⟩:=by apply ByteArray.ext;simp[ByteArray.data_append]
  rw[e] at this
  have d:inner a (195::169::t)=[195,169]++inner a t:=by
   unfold inner;rw[List.flatMap_cons,List.flatMap_cons,dm a (by decide) (by decide) (by decide),dm a (by decide) (by decide) (by decide)]
   rfl
  rw[d];exact this
theorem iV(s:BA)(a:Int):∀k,k<=(bl s).length->bl (Zp s a k)=34::inner a ((bl s).take k)
 | 0,_=>rfl
 | k+1,h=>by
  rw[Zp,qN,iV s a k (by omega)];have b:k<(bl s).length:=by omega
  rw[List.take_succ_eq_append_getElem b];unfold inner;rw[List.flatMap_append,List.flatMap_singleton]
  have:s.data.toList.getD k 0=(bl s)[k]:=by
   rw[List.getD_eq_getElem?_getD];show ((bl s)[k]?).getD 0=_;rw[List.getElem?_eq_getElem b]
   rfl
  rw[this]
  rfl
theorem aK(s:BA):(bl s).length=s.size:=by unfold bl;simp
theorem LH(s:BA)(a:Int):bl (jo s a)=[34]++inner a (bl s)++[34]:=by
 rw[jo,qN,iV s a s.size (by rw[aK];omega),List.take_of_length_le (by rw[aK];omega)]
 rfl
def Pl(s:BA):Prop:=Plain8 (bl s)
theorem iW{d:Nat}{s:BA}(a:Int)(h:Pl s):W d (bl (jo s a)) (.str s):=by
 rw[LH];exact .str (Pe a h)
theorem IJ:∀b ∈ Q9,Blanks (bl b):=by
 intro b d;simp only[Q9,List.mem_cons,List.not_mem_nil,or_false] at d
 rcases d with rfl|rfl|rfl|rfl<;>(intro c a;simp[bl] at a)
 ·subst a;decide
 ·rcases a with rfl|rfl<;>decide
 ·rcases a with rfl|rfl<;>decide
theorem qm:Blanks []:=λ_ h=>by simp at h
theorem YM(a:Int):Blanks (bl (xz a)):=vZ (P:=λb=>Blanks (bl b)) IJ qm _
def jH(sep:List UInt8):List (List UInt8)->List UInt8
 | []=>[]
 | [t]=>t
 | t::ts=>t++sep++jH sep ts
theorem Uz(sep t:List UInt8):∀ts:List (List UInt8),ts≠[]->jH sep (ts++[t])=jH sep ts++sep++t
 | [],h=>absurd rfl h
 | [x],_=>rfl
 | x::y::r,_=>by
  have:=Uz sep t (y::r) (by simp)
  show x++sep++jH sep (y::r++[t])=x++sep++jH sep (y::r)++sep++t;rw[this];simp only[List.append_assoc]
theorem KT{d:Nat}{c:List UInt8}(a:Blanks c):∀(xs:List (List UInt8×V)),xs≠[]->(∀x ∈ xs,W (d+1) x.1 x.2)->WL d (jH ([44]++c) (xs.map Prod.fst)++[93]) (xs.map Prod.snd)
 | [],h,_=>absurd rfl h
 | [x],_,h=>by
  have:=WL.last (b:=[]) (h x (by simp)) qm
  simpa [jH] using this
 | x::y::r,_,h=>by
  have g:=KT a (y::r) (by simp) (λz f=>h z (by simp[f]))
  have:=WL.more (b:=[]) (c:=c) (h x (by simp)) qm a g
  have e:jH ([44]++c) ((x::y::r).map Prod.fst)++[93]=x.1++[]++[44]++c++(jH ([44]++c) ((y::r).map Prod.fst)++[93]):=by
   show x.1++([44]++c)++jH ([44]++c) ((y::r).map Prod.fst)++[93]=_;simp only[List.append_assoc,List.nil_append]
  rw[e];exact this
theorem UE(l:List BA)(a:Int):∀k,k<=l.length->bl (qY l a k)=[91]++bl (xz a)++jH ([44]++bl (xz a)) ((l.take k).map λs=>bl (jo s a))
 | 0,_=>by
  rw[qY,qN];simp[jH]
  rfl
 | k+1,h=>by
  have b:k<l.length:=by omega
  have c:l.getD k ⟨#[]⟩=l[k]:=by rw[List.getD_eq_getElem?_getD,List.getElem?_eq_getElem b];rfl
  rw[qY,qN,c,List.take_succ_eq_append_getElem b,List.map_append,List.map_singleton]
  by_cases h0:0<k
  ·rw[if_pos h0,qN,qN,UE l a k (by omega),Uz _ _ _ (by
    intro e
    have:=congrArg List.length e
    rw[List.length_map,List.length_take,List.length_nil] at this;omega)]
   simp only[List.append_assoc]
   rfl
  ·have:k=0:=by omega
   subst this;rw[if_neg h0,UE l a 0 (by omega)];simp[jH]
def zK(l:List BA)(a:Int):V:=if l.length=1/\bit a 32=true then .str (l.getD 0 ⟨#[]⟩) else .list (l.map .str)
theorem UF{d:Nat}(hd:d<=8){l:List BA}(a:Int)(g:l≠[])(f:∀s ∈ l,Pl s):∃t b,bl (xK l a)=t++b/\Blanks b/\W d t (zK l a):=by
 unfold xK zK
 by_cases c:l.length=1/\bit a 32=true
 ·rw[if_pos c,if_pos c];refine⟨_,[],(List.append_nil _).symm,qm,iW a ?_⟩;have i:0<l.length:=by omega
  have h:l.getD 0 ⟨#[]⟩=l[0]:=by rw[List.getD_eq_getElem?_getD,List.getElem?_eq_getElem i];rfl
  rw[h];exact f _ (List.getElem_mem _)
 ·rw[if_neg c,if_neg c]
  have e:=KT (d:=d) (YM a) (l.map λs=>(bl (jo s a),V.str s)) (by simpa using g) (by
   intro x k;obtain⟨s,j,rfl⟩:=List.mem_map.1 k;exact iW a (f s j))
  rw[List.map_map,List.map_map] at e;refine⟨[91]++bl (xz a)++(jH ([44]++bl (xz a)) (l.map λs=>bl (jo s a))++[93]),bl (xz a),?_,YM a,.list hd (YM a) e⟩;rw[qN,qN,UE l a l.length (Nat.le_refl _),List.take_of_length_le (Nat.le_refl _)];simp only[List.append_assoc]
  rfl
def kR:List UInt8->Bool
 | []=>true
 | [b]=>decide (32<=b.toNat/\b.toNat<128/\b.toNat≠34/\b.toNat≠92)
 | b::c::t=>(b==195&&c==169&&kR t)||(decide (32<=b.toNat/\b.toNat<128/\b.toNat≠34/\b.toNat≠92)&&kR (c::t))
theorem Qw:∀t,kR t=true->Plain8 t
 | [],_ => .nil
 | [b],h=>by
  rw[kR,decide_eq_true_eq] at h;exact .one h .nil
 | b::c::t,h=>by
  rw[kR,Bool.or_eq_true] at h
  rcases h with h|h
  ·simp only[Bool.and_eq_true,beq_iff_eq] at h;obtain⟨⟨rfl,rfl⟩,h⟩:=h;exact .two (Qw t h)
  ·rw[Bool.and_eq_true,decide_eq_true_eq] at h;exact .one h.1 (Qw (c::t) h.2)
theorem JR:∀s ∈ patterns,Pl s:=λs a=>Qw _ ((by decide:∀s ∈ patterns,kR (bl s)=true) s a)
theorem nL:∀s ∈ words,Pl s:=λs a=>Qw _ ((by decide:∀s ∈ words,kR (bl s)=true) s a)
theorem gM:∀s ∈ nums,Pl s:=λs a=>Qw _ ((by decide:∀s ∈ nums,kR (bl s)=true) s a)
theorem ny:∀s ∈ Za,Pl s:=λs a=>Qw _ ((by decide:∀s ∈ Za,kR (bl s)=true) s a)
theorem Vf{t:List UInt8}(h:∀b ∈ t,32<=b.toNat/\b.toNat<128/\b.toNat≠34/\b.toNat≠92):je t ⟨⟨t⟩⟩:=by
 induction t with
 | nil=>exact .nil
 | cons b t c=>
  have:=je.char (aX (h b (by simp))) (c (λx a=>h x (by simp[a])))
  have e:(⟨#[b]⟩:BA)++⟨⟨t⟩⟩=⟨⟨b::t⟩⟩:=by apply ByteArray.ext;simp[ByteArray.data_append]
  rw[e] at this;exact this
def yT(raw:List Int)(nt:Bool)(a:Int):V:=if nt then .obj [(zZ,zK (qg raw) a)] else zK (qg raw) a
theorem bi(raw:List Int):qg raw≠[]:=by
 intro e
 have:=(ZR raw).1
 rw[e] at this;simp at this
theorem VX{d:Nat}(hd:d<=7)(raw:List Int)(nt:Bool)(a:Int):∃t b,bl (xZ raw nt a)=t++b/\Blanks b/\W d t (yT raw nt a):=by
 unfold xZ yT
 cases nt with
 | false=>
  simp only[Bool.false_eq_true,if_false];exact UF (by omega) a (bi raw) (λs f=>JR s (Yn f))
 | true=>
  simp only[if_true];obtain⟨t,b,e,h,k⟩:=UF (d:=d+1) (by omega) a (bi raw) (λs f=>JR s (Yn f));have i:je [110,111,116] zZ:=Vf (by decide);have j:=WO.last (d:=d) i (b:=[]) (c:=[]) qm qm k h;refine⟨_,[],(List.append_nil _).symm,qm,?_⟩
  have:=W.obj (by omega) (YM a) j (by simp)
  rw[qN,qN,qN,qN,e]
  have g:bl ⟨#[123]⟩++bl (xz a)++bl ⟨#[34,110,111,116,34,58]⟩++(t++b)++bl ⟨#[125]⟩=[123]++bl (xz a)++([34]++[110,111,116]++[34]++[]++[58]++[]++t++b++[125]):=by
   simp only[bl,List.append_assoc,List.cons_append,List.nil_append]
  rw[g];exact this
end Kp
end Go.Proofs.YtdakgnaojakldabGreatDoor
