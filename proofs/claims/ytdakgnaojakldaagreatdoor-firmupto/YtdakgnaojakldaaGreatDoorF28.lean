/- P -/
import Derived.Test.YtdakgnaojakldaaGreatDoorF27
set_option maxRecDepth 100000
namespace Go.Proofs.YtdakgnaojakldaaGreatDoor
namespace Rd
open Ref
def PW(d:Nat)(t:List UInt8)(v:V):Prop:=∀(l r:List UInt8) (p f:Nat),At l p t r->t.length<=f->zP l f d p = .ok v (p+t.length)
def PL(d:Nat)(t:List UInt8)(a:List V):Prop:=∀(l r:List UInt8) (p f:Nat) (acc:List V),At l p t r->t.length<=f->jO l f d p acc = .ok (.list (acc++a)) (p+t.length)
def PO(d:Nat)(t:List UInt8)(ms:List (BA×V)):Prop:=∀(l r:List UInt8) (p f:Nat) (acc:List (BA×V)),At l p t r->t.length<=f->((acc++ms).map λm=>m.1.toList).Nodup->jP l f d p acc = .ok (.obj (acc++ms)) (p+t.length)
theorem At.skip{l b r:List UInt8}{p:Nat}{c:UInt8}(h:At l p b (c::r))(hb:Blanks b)(d:blank c.toNat=false):skip l p=p+b.length/\ze l (p+b.length)=c.toNat:=by
 have a:=h.hdR;exact⟨nX b hb l _ p h (by rw[a];exact d),a⟩
theorem aU(l r:List UInt8):∀(d:List UInt8) (p:Nat),(∀c ∈ d,c≠0)->At l p d r->zM l (d.map UInt8.toNat) p = .ok () (p+d.length)
 | [],p,_,_=>rfl
 | c::d,p,h0,h=>by
  have e:At l (p+1) d r:=(At.app (a:=[c]) (b:=d) h).2;rw[List.map_cons,zM,h.hd];rw[if_pos rfl,aU l r d (p+1) (λx f=>h0 x (by simp[f])) e]
  simp;omega
theorem NN{d:Nat}{t:List UInt8}{s:BA}(h:jk t s):PW d ([34]++t++[34]) (.str s):=by
 intro l r p f c a;rw[List.append_assoc] at c;obtain⟨g,i⟩:=c.app;have b:ze l p=34:=g.hd;simp only[List.length_append,List.length_singleton] at a |-
 match f,a with
 | f+1,a=>
  have e:=ag h i;simp only[List.length_singleton] at e;rw[zP,if_neg (by rw[b];decide),if_neg (by rw[b];decide),if_pos b,e];simp only;congr 1;omega
theorem NP{d:Nat}:PW d [116,114,117,101] (.word true):=by
 intro l r p f e g;have c:ze l p=116:=e.hd;have h:=aU l r [114,117,101] (p+1) (by decide) (At.app (a:=[116]) (b:=[114,117,101]) e).2
 match f,g with
 | f+1,g=>
  rw[zP,if_neg (by rw[c];decide),if_neg (by rw[c];decide),if_neg (by rw[c];decide),if_pos c];have i:zM l [114,117,101] (p+1) = .ok () (p+1+3):=h;rw[i]
  rfl
theorem NL{d:Nat}:PW d [102,97,108,115,101] (.word false):=by
 intro l r p f e g;have c:ze l p=102:=e.hd;have h:=aU l r [97,108,115,101] (p+1) (by decide) (At.app (a:=[102]) (b:=[97,108,115,101]) e).2
 match f,g with
 | f+1,g=>
  rw[zP,if_neg (by rw[c];decide),if_neg (by rw[c];decide),if_neg (by rw[c];decide),if_neg (by rw[c];decide),if_pos c];have i:zM l [97,108,115,101] (p+1) = .ok () (p+1+4):=h;rw[i]
  rfl
theorem NI{d:Nat}{b t:List UInt8}{j:List V}(hd:d<=8)(hb:Blanks b)(x:WL d t j)(w:PL d t j):PW d ([91]++b++t) (.list j):=by
 intro l r p f u h;obtain⟨c,y,rfl,v,g⟩:=x.head;obtain⟨o,m⟩:=u.app;obtain⟨q,s⟩:=o.app;have n:ze l p=91:=q.hd;obtain⟨a,k⟩:=At.skip (l:=l) (b:=b) (p:=p+[91].length) s hb v;simp only[List.length_singleton] at a k;simp only[List.length_append,List.length_singleton] at h m |-
 match f,h with
 | f+1,h=>
  have i:¬ze l (skip l (p+1))=93:=by
   rw[a,k];intro e;exact g (UInt8.toNat_inj.1 e)
  rw[zP,if_neg (by rw[n];decide),if_pos n,if_neg (by omega),if_neg i,a]
  have:=w l r (p+1+b.length) f [] (by rw[show p+1+b.length=p+(1+b.length) by omega];exact m) (by omega)
  rw[this];simp only[List.nil_append];congr 1;omega
theorem NM{d:Nat}{b t:List UInt8}{ms:List (BA×V)}(hd:d<=8)(hb:Blanks b)(v:WO d t ms)(q:(ms.map λm=>m.1.toList).Nodup)(u:PO d t ms):PW d ([123]++b++t) (.obj ms):=by
 intro l r p f o e;obtain⟨w,rfl⟩:=v.head;obtain⟨j,i⟩:=o.app;obtain⟨k,n⟩:=j.app;have s:ze l p=123:=k.hd;obtain⟨a,h⟩:=At.skip (l:=l) (b:=b) (p:=p+[123].length) (c:=34) n hb (by decide);simp only[List.length_singleton] at a h;simp only[List.length_append,List.length_singleton] at e i |-
 match f,e with
 | f+1,e=>
  have g:¬ze l (skip l (p+1))=125:=by rw[a,h];decide
  rw[zP,if_pos s,if_neg (by omega),if_neg g,a]
  have:=u l r (p+1+b.length) f [] (by rw[show p+1+b.length=p+(1+b.length) by omega];exact i) (by omega) (by simpa using q)
  rw[this];simp only[List.nil_append];congr 1;omega
theorem NG{d:Nat}{t b:List UInt8}{v:V}(o:PW (d+1) t v)(hb:Blanks b)(n:t≠[]):PL d (t++b++[93]) [v]:=by
 intro l r p f acc e a;rw[List.append_assoc] at e;obtain⟨i,j⟩:=e.app;obtain⟨k,q⟩:=j.app;obtain⟨g,h⟩:=At.skip (l:=l) (b:=b) (p:=p+t.length) (c:=93) k hb (by decide);have m:0<t.length:=List.length_pos_iff.2 n;simp only[List.length_append,List.length_singleton] at a |-
 match f,a with
 | f+1,a=>
  rw[jO,o l _ p f i (by omega)];simp only;rw[g,h,if_neg (by decide),if_pos (by decide)];congr 1;omega
theorem NJ{d:Nat}{t b c e:List UInt8}{v:V}{g:List V}(D:PW (d+1) t v)(hb:Blanks b)(z:Blanks c)(E:WL d e g)(B:PL d e g)(C:t≠[]):PL d (t++b++[44]++c++e) (v::g):=by
 intro l r p f acc j a;obtain⟨x,H,rfl,F,_⟩:=E.head;simp only[List.append_assoc] at j;obtain⟨o,q⟩:=j.app;obtain⟨s,u⟩:=q.app;obtain⟨G,w⟩:=u.app;obtain⟨y,i⟩:=w.app;obtain⟨k,m⟩:=At.skip (l:=l) (b:=b) (p:=p+t.length) (c:=44) s hb (by decide);obtain⟨h,n⟩:=At.skip (l:=l) (b:=c) y z F;simp only[List.length_singleton] at h n i;have A:0<t.length:=List.length_pos_iff.2 C;simp only[List.length_append,List.length_singleton] at a |-
 match f,a with
 | f+1,a=>
  rw[jO,D l _ p f o (by omega)];simp only;rw[k,m,if_pos (by decide),h,B l r _ f (acc++[v]) i (by omega)];simp only[List.append_assoc,List.cons_append,List.nil_append];congr 1;omega
theorem NH{d:Nat}{n b c t e:List UInt8}{s:BA}{v:V}(P:jk n s)(hb:Blanks b)(N:Blanks c)(S:W (d+1) t v)(R:PW (d+1) t v)(O:Blanks e):PO d ([34]++n++[34]++b++[58]++c++t++e++[125]) [(s,v)]:=by
 intro l r p f acc B i h;obtain⟨x,Y,rfl,T,_⟩:=S.head;simp only[List.append_assoc] at B;obtain⟨F,A⟩:=B.app;rw[<- List.append_assoc n [34]] at A;obtain⟨H,I⟩:=A.app;obtain⟨J,K⟩:=I.app;obtain⟨X,L⟩:=K.app;obtain⟨M,j⟩:=L.app;obtain⟨a,k⟩:=j.app;obtain⟨m,G⟩:=k.app;have Q:ze l p=34:=F.hd;have C:=ag P H;obtain⟨o,q⟩:=At.skip (l:=l) (b:=b) (c:=58) J hb (by decide);obtain⟨u,E⟩:=At.skip (l:=l) (b:=c) M N T;obtain⟨w,z⟩:=At.skip (l:=l) (b:=e) (c:=125) m O (by decide);simp only[List.length_singleton,List.length_append] at C o q u E w z a i |-
 have g:acc.any (λx=>x.1.toList==s.toList)=false:=by
  rw[List.any_eq_false];intro y U;simp only[List.map_append,List.map_cons,List.map_nil] at h
  have:=(List.nodup_append.1 h).2.2 y.1.toList (List.mem_map.2 ⟨y,U,rfl⟩) s.toList (by simp)
  simpa using this
 match f,i with
 | f+1,i=>
  rw[jP,if_neg (by rw[Q];decide),C];simp only;rw[g];simp only[Bool.false_eq_true,if_false];have D:p+1+n.length+1=p+1+(n.length+1):=by omega
  rw[D,o,q,if_neg (by decide),u];rw[R l _ _ f a (by simp only[List.length_cons] at i |-;omega)];simp only;rw[w,z,if_neg (by decide),if_pos (by decide)];congr 1;simp only[List.length_cons];omega
theorem NK{d:Nat}{n b c t e g A:List UInt8}{s:BA}{v:V}{ms:List (BA×V)}(hn:jk n s)(hb:Blanks b)(X:Blanks c)(hw:W (d+1) t v)(hv:PW (d+1) t v)(Y:Blanks e)(Z:Blanks g)(ho:WO d A ms)(hr:PO d A ms) :
  PO d ([34]++n++[34]++b++[58]++c++t++e++[44]++g++A) ((s,v)::ms):=by
 intro l r p f acc I k a;obtain⟨x,t2,rfl,hx,_⟩:=hw.head;obtain⟨t3,rfl⟩:=ho.head;simp only[List.append_assoc] at I;obtain⟨N,H⟩:=I.app;rw[<- List.append_assoc n [34]] at H;obtain⟨P,Q⟩:=H.app;obtain⟨R,S⟩:=Q.app;obtain⟨h7,T⟩:=S.app;obtain⟨U,m⟩:=T.app;obtain⟨h,o⟩:=m.app;obtain⟨q,u⟩:=o.app;obtain⟨O,w⟩:=u.app;obtain⟨z,i⟩:=w.app;have hp:ze l p=34:=N.hd;have J:=ag hn P;obtain⟨B,C⟩:=At.skip (l:=l) (b:=b) (c:=58) R hb (by decide);obtain⟨D,L⟩:=At.skip (l:=l) (b:=c) U X hx;obtain⟨E,F⟩:=At.skip (l:=l) (b:=e) (c:=44) q Y (by decide);obtain⟨G,M⟩:=At.skip (l:=l) (b:=g) (c:=34) z Z (by decide);simp only[List.length_singleton,List.length_append] at J B C D L E F G M h i k |-
 have j:acc.any (λx=>x.1.toList==s.toList)=false:=by
  rw[List.any_eq_false];intro y hy;simp only[List.map_append,List.map_cons] at a
  have:=(List.nodup_append.1 a).2.2 y.1.toList (List.mem_map.2 ⟨y,hy,rfl⟩) s.toList (by simp)
  simpa using this
 match f,k with
 | f+1,k=>
  rw[jP,if_neg (by rw[hp];decide),J];simp only;rw[j];simp only[Bool.false_eq_true,if_false];have K:p+1+n.length+1=p+1+(n.length+1):=by omega
  rw[K,B,C,if_neg (by decide),D];rw[hv l _ _ f h (by simp only[List.length_cons] at k |-;omega)];simp only;rw[E,F,if_pos (by decide),G,hr l r _ f (acc++[(s,v)]) i (by simp only[List.length_cons] at k |-;omega) (by simpa using a)];simp only[List.append_assoc,List.cons_append,List.nil_append];congr 1;simp only[List.length_cons];omega
theorem W.pos{d:Nat}{t:List UInt8}{v:V}(h:W d t v):t≠[]:=by
 obtain⟨c,r,rfl,_⟩:=h.head
 simp
mutual
theorem W.reads:∀{d:Nat} {t:List UInt8} {v:V},W d t v->PW d t v
 | _,_,_,.str h=>NN h
 | _,_,_,.yes=>NP
 | _,_,_,.no=>NL
 | _,_,_,.list hd hb hw=>NI hd hb hw hw.reads
 | _,_,_,.obj hd hb hw hn=>NM hd hb hw hn hw.reads
theorem WL.reads:∀{d:Nat} {t:List UInt8} {a:List V},WL d t a->PL d t a
 | _,_,_,.last hw hb=>NG hw.reads hb hw.pos
 | _,_,_,.more hw hb hc hl=>NJ hw.reads hb hc hl hl.reads hw.pos
theorem WO.reads:∀{d:Nat} {t:List UInt8} {ms:List (BA×V)},WO d t ms->PO d t ms
 | _,_,_,.last hn hb hc hw he=>NH hn hb hc hw hw.reads he
 | _,_,_,.more hn hb hc hw he hg ho=>NK hn hb hc hw hw.reads he hg ho ho.reads
end
theorem Nu{t:List UInt8}{v:V}(h:W 1 t v):xO t = .ok v t.length:=by
 obtain⟨c,r,rfl,b,_⟩:=h.head;have a:At (c::r) 0 (c::r) []:=by unfold At;simp
 have e:skip (c::r) 0=0:=skip_none _ _ (by rw[a.hd];exact b);have f:=h.reads (c::r) [] 0 (2*(c::r).length+1) a (by omega);unfold xO;rw[e,f];simp only[Nat.zero_add];have d:skip (c::r) (c::r).length=(c::r).length:=skip_none _ _ (by rw[Vv _ _ (by omega)];decide);rw[d,if_neg (by omega)]
end Rd
namespace Kp
open Rd Ref
def bl(b:BA):List UInt8:=b.data.toList
theorem qK(a b:BA):bl (a++b)=bl a++bl b:=by unfold bl;simp[ByteArray.data_append]
inductive Plain8:List UInt8->Prop
 | nil:Plain8 []
 | one {b t}:32<=b.toNat/\b.toNat<128/\b.toNat≠34/\b.toNat≠92->Plain8 t->Plain8 (b::t)
 | two {t}:Plain8 t->Plain8 (195::169::t)
theorem dz{b:UInt8}(h:32<=b.toNat/\b.toNat<128/\b.toNat≠34/\b.toNat≠92):Q0 [b] ⟨#[b]⟩:=by
 refine⟨by simp,?_,λl p r a=>?_⟩
 ·simp only[List.head?_cons,ne_eq,Option.some.injEq];intro e;rw[e] at h;exact h.2.2.1 rfl
 ·have c:=a.hd;unfold xy;simp only;rw[c,if_neg (by omega),if_neg h.2.2.2,if_pos (by omega)]
  have:one ((b.toNat:Nat):Int)=⟨#[b]⟩:=by
   unfold one
   simp
  rw[this]
  rfl
theorem At.tl{l:List UInt8}{p:Nat}{b:UInt8}{t r:List UInt8}(h:At l p (b::t) r):At l (p+1) t r:=(At.app (a:=[b]) (b:=t) h).2
theorem wV:Q0 [92,47] ⟨#[47]⟩:=by
 refine⟨by simp,by simp,λl p r a=>?_⟩;have b:=a.hd;have c:=(At.tl a).hd;unfold xy jb;simp only[b,c]
 rfl
theorem wQ:Q0 [92,117,48,48,54,49] ⟨#[97]⟩:=by
 refine⟨by simp,by simp,λl p r e=>?_⟩;have g:=e.hd;have a:=At.tl e;have b:=At.tl a;have c:=At.tl b;have d:=At.tl c;have f:=At.tl d;unfold xy jb jL;simp only[g,a.hd,b.hd,c.hd,d.hd,f.hd]
 rfl
theorem wW:Q0 [92,117,48,48,50,65] ⟨#[42]⟩:=by
 refine⟨by simp,by simp,λl p r e=>?_⟩;have g:=e.hd;have a:=At.tl e;have b:=At.tl a;have c:=At.tl b;have d:=At.tl c;have f:=At.tl d;unfold xy jb jL;simp only[g,a.hd,b.hd,c.hd,d.hd,f.hd]
 rfl
theorem wR:Q0 [195,169] ⟨#[195,169]⟩:=by
 refine⟨by simp,by simp,λl p r a=>?_⟩;have c:=a.hd;have b:=At.tl a;unfold xy yT within;simp only[c,b.hd]
 rfl
theorem wU(a:Int){b:UInt8}(h:32<=b.toNat/\b.toNat<128/\b.toNat≠34/\b.toNat≠92):Q0 (bl (esc a b)) ⟨#[b]⟩:=by
 unfold esc
 by_cases c1:b.toNat=47/\bit a 1=true
 ·rw[if_pos c1]
  have:b=47:=UInt8.toNat_inj.1 c1.1
  subst this;exact wV
 rw[if_neg c1]
 by_cases c2:b.toNat=97/\bit a 2=true
 ·rw[if_pos c2]
  have:b=97:=UInt8.toNat_inj.1 c2.1
  subst this;exact wQ
 rw[if_neg c2]
 by_cases c3:b.toNat=42/\bit a 4=true
 ·rw[if_pos c3]
  have:b=42:=UInt8.toNat_inj.1 c3.1
  subst this;exact wW
 rw[if_neg c3];exact dz h
theorem fw(e:Int){b:UInt8}(a:b.toNat≠47)(c:b.toNat≠97)(d:b.toNat≠42):esc e b=⟨#[b]⟩:=by
 unfold esc;rw[if_neg (λh=>a h.1),if_neg (λh=>c h.1),if_neg (λh=>d h.1)]
def inner(a:Int)(t:List UInt8):List UInt8:=t.flatMap λb=>bl (esc a b)
theorem Rm(a:Int){t:List UInt8}(h:Plain8 t):jk (inner a t) ⟨⟨t⟩⟩:=by
 induction h with
 | nil=>exact .nil
 | one hb _ c=>
  rename_i b t _
  have:=jk.char (wU a hb) c
  have e:(⟨#[b]⟩:BA)++⟨⟨t⟩⟩=⟨⟨b::t⟩⟩:=by apply ByteArray.ext;simp[ByteArray.data_append]
  rw[e] at this;exact this
 | two _ c=>
  rename_i t _
  have:=jk.char wR c
  have e:(⟨#[195,169]⟩:BA)++⟨⟨t⟩⟩=⟨⟨195::169::t⟩⟩:=by apply ByteArray.ext;simp[ByteArray.data_append]
  rw[e] at this
  have d:inner a (195::169::t)=[195,169]++inner a t:=by
   unfold inner;rw[List.flatMap_cons,List.flatMap_cons,fw a (by decide) (by decide) (by decide),fw a (by decide) (by decide) (by decide)]
   rfl
  rw[d];exact this
theorem ni(s:BA)(a:Int):∀k,k<=(bl s).length->bl (ZH s a k)=34::inner a ((bl s).take k)
 | 0,_=>rfl
 | k+1,h=>by
  rw[ZH,qK,ni s a k (by omega)];have b:k<(bl s).length:=by omega
  rw[List.take_succ_eq_append_getElem b];unfold inner;rw[List.flatMap_append,List.flatMap_singleton]
  have:s.data.toList.getD k 0=(bl s)[k]:=by
   rw[List.getD_eq_getElem?_getD];show ((bl s)[k]?).getD 0=_;rw[List.getElem?_eq_getElem b]
   rfl
  rw[this]
  rfl
theorem cz(s:BA):(bl s).length=s.size:=by unfold bl;simp
theorem Nc(s:BA)(a:Int):bl (jC s a)=[34]++inner a (bl s)++[34]:=by
 rw[jC,qK,ni s a s.size (by rw[cz];omega),List.take_of_length_le (by rw[cz];omega)]
 rfl
def Pl(s:BA):Prop:=Plain8 (bl s)
theorem nk{d:Nat}{s:BA}(a:Int)(h:Pl s):W d (bl (jC s a)) (.str s):=by
 rw[Nc];exact .str (Rm a h)
theorem Mo:∀b ∈ Xt,Blanks (bl b):=by
 intro b hb;simp only[Xt,List.mem_cons,List.not_mem_nil,or_false] at hb
 rcases hb with rfl|rfl|rfl|rfl<;>(intro c a;simp[bl] at a)
 ·subst a;decide
 ·rcases a with rfl|rfl<;>decide
 ·rcases a with rfl|rfl<;>decide
theorem ql:Blanks []:=λ_ h=>by simp at h
theorem Jd(a:Int):Blanks (bl (xB a)):=uw (P:=λb=>Blanks (bl b)) Mo ql _
def jN(sep:List UInt8):List (List UInt8)->List UInt8
 | []=>[]
 | [t]=>t
 | t::ts=>t++sep++jN sep ts
theorem Kc(sep t:List UInt8):∀ts:List (List UInt8),ts≠[]->jN sep (ts++[t])=jN sep ts++sep++t
 | [],h=>absurd rfl h
 | [x],_=>rfl
 | x::y::r,_=>by
  have:=Kc sep t (y::r) (by simp)
  show x++sep++jN sep (y::r++[t])=x++sep++jN sep (y::r)++sep++t;rw[this];simp only[List.append_assoc]
theorem aP{d:Nat}{c:List UInt8}(a:Blanks c):∀(xs:List (List UInt8×V)),xs≠[]->(∀x ∈ xs,W (d+1) x.1 x.2)->WL d (jN ([44]++c) (xs.map Prod.fst)++[93]) (xs.map Prod.snd)
 | [],h,_=>absurd rfl h
 | [x],_,h=>by
  have:=WL.last (b:=[]) (h x (by simp)) ql
  simpa [jN] using this
 | x::y::r,_,h=>by
  have g:=aP a (y::r) (by simp) (λz f=>h z (by simp[f]))
  have:=WL.more (b:=[]) (c:=c) (h x (by simp)) ql a g
  have e:jN ([44]++c) ((x::y::r).map Prod.fst)++[93]=x.1++[]++[44]++c++(jN ([44]++c) ((y::r).map Prod.fst)++[93]):=by
   show x.1++([44]++c)++jN ([44]++c) ((y::r).map Prod.fst)++[93]=_;simp only[List.append_assoc,List.nil_append]
  rw[e];exact this
theorem Kk(l:List BA)(a:Int):∀k,k<=l.length->bl (qQ l a k)=[91]++bl (xB a)++jN ([44]++bl (xB a)) ((l.take k).map λs=>bl (jC s a))
 | 0,_=>by
  rw[qQ,qK];simp[jN]
  rfl
 | k+1,h=>by
  have b:k<l.length:=by omega
  have c:l.getD k ⟨#[]⟩=l[k]:=by rw[List.getD_eq_getElem?_getD,List.getElem?_eq_getElem b];rfl
  rw[qQ,qK,c,List.take_succ_eq_append_getElem b,List.map_append,List.map_singleton]
  by_cases h0:0<k
  ·rw[if_pos h0,qK,qK,Kk l a k (by omega),Kc _ _ _ (by
    intro e
    have:=congrArg List.length e
    rw[List.length_map,List.length_take,List.length_nil] at this;omega)]
   simp only[List.append_assoc]
   rfl
  ·have:k=0:=by omega
   subst this;rw[if_neg h0,Kk l a 0 (by omega)];simp[jN]
def zK(l:List BA)(a:Int):V:=if l.length=1/\bit a 32=true then .str (l.getD 0 ⟨#[]⟩) else .list (l.map .str)
theorem Kl{d:Nat}(hd:d<=8){l:List BA}(a:Int)(g:l≠[])(f:∀s ∈ l,Pl s):∃t b,bl (xm l a)=t++b/\Blanks b/\W d t (zK l a):=by
 unfold xm zK
 by_cases c:l.length=1/\bit a 32=true
 ·rw[if_pos c,if_pos c];refine⟨_,[],(List.append_nil _).symm,ql,nk a ?_⟩;have i:0<l.length:=by omega
  have h:l.getD 0 ⟨#[]⟩=l[0]:=by rw[List.getD_eq_getElem?_getD,List.getElem?_eq_getElem i];rfl
  rw[h];exact f _ (List.getElem_mem _)
 ·rw[if_neg c,if_neg c]
  have e:=aP (d:=d) (Jd a) (l.map λs=>(bl (jC s a),V.str s)) (by simpa using g) (by
   intro x k;obtain⟨s,j,rfl⟩:=List.mem_map.1 k;exact nk a (f s j))
  rw[List.map_map,List.map_map] at e;refine⟨[91]++bl (xB a)++(jN ([44]++bl (xB a)) (l.map λs=>bl (jC s a))++[93]),bl (xB a),?_,Jd a,.list hd (Jd a) e⟩;rw[qK,qK,Kk l a l.length (Nat.le_refl _),List.take_of_length_le (Nat.le_refl _)];simp only[List.append_assoc]
  rfl
def vY:List UInt8->Bool
 | []=>true
 | [b]=>decide (32<=b.toNat/\b.toNat<128/\b.toNat≠34/\b.toNat≠92)
 | b::c::t=>(b==195&&c==169&&vY t)||(decide (32<=b.toNat/\b.toNat<128/\b.toNat≠34/\b.toNat≠92)&&vY (c::t))
theorem QO:∀t,vY t=true->Plain8 t
 | [],_ => .nil
 | [b],h=>by
  rw[vY,decide_eq_true_eq] at h;exact .one h .nil
 | b::c::t,h=>by
  rw[vY,Bool.or_eq_true] at h
  rcases h with h|h
  ·simp only[Bool.and_eq_true,beq_iff_eq] at h;obtain⟨⟨rfl,rfl⟩,h⟩:=h;exact .two (QO t h)
  ·rw[Bool.and_eq_true,decide_eq_true_eq] at h;exact .one h.1 (QO (c::t) h.2)
theorem Vt:∀s ∈ patterns,Pl s:=λs a=>QO _ ((by decide:∀s ∈ patterns,vY (bl s)=true) s a)
theorem pR:∀s ∈ words,Pl s:=λs a=>QO _ ((by decide:∀s ∈ words,vY (bl s)=true) s a)
theorem lw:∀s ∈ nums,Pl s:=λs a=>QO _ ((by decide:∀s ∈ nums,vY (bl s)=true) s a)
theorem pu:∀s ∈ Zk,Pl s:=λs a=>QO _ ((by decide:∀s ∈ Zk,vY (bl s)=true) s a)
theorem VJ{t:List UInt8}(h:∀b ∈ t,32<=b.toNat/\b.toNat<128/\b.toNat≠34/\b.toNat≠92):jk t ⟨⟨t⟩⟩:=by
 induction t with
 | nil=>exact .nil
 | cons b t c=>
  have:=jk.char (dz (h b (by simp))) (c (λx a=>h x (by simp[a])))
  have e:(⟨#[b]⟩:BA)++⟨⟨t⟩⟩=⟨⟨b::t⟩⟩:=by apply ByteArray.ext;simp[ByteArray.data_append]
  rw[e] at this;exact this
def y9(raw:List Int)(nt:Bool)(a:Int):V:=if nt then .obj [(zX,zK (qp raw) a)] else zK (qp raw) a
theorem dD(raw:List Int):qp raw≠[]:=by
 intro e
 have:=(Z8 raw).1
 rw[e] at this;simp at this
theorem Uv{d:Nat}(hd:d<=7)(raw:List Int)(nt:Bool)(a:Int):∃t b,bl (ym raw nt a)=t++b/\Blanks b/\W d t (y9 raw nt a):=by
 unfold ym y9
 cases nt with
 | false=>
  simp only[Bool.false_eq_true,if_false];exact Kl (by omega) a (dD raw) (λs f=>Vt s (YL f))
 | true=>
  simp only[if_true];obtain⟨t,b,e,hb,j⟩:=Kl (d:=d+1) (by omega) a (dD raw) (λs f=>Vt s (YL f));have h:jk [110,111,116] zX:=VJ (by decide);have i:=WO.last (d:=d) h (b:=[]) (c:=[]) ql ql j hb;refine⟨_,[],(List.append_nil _).symm,ql,?_⟩
  have:=W.obj (by omega) (Jd a) i (by simp)
  rw[qK,qK,qK,qK,e]
  have g:bl ⟨#[123]⟩++bl (xB a)++bl ⟨#[34,110,111,116,34,58]⟩++(t++b)++bl ⟨#[125]⟩=[123]++bl (xB a)++([34]++[110,111,116]++[34]++[]++[58]++[]++t++b++[125]):=by
   simp only[bl,List.append_assoc,List.cons_append,List.nil_append]
  rw[g];exact this
end Kp
end Go.Proofs.YtdakgnaojakldaaGreatDoor
