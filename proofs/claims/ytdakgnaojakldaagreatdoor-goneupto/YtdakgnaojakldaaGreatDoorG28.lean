/- P -/
import Derived.Test.YtdakgnaojakldaaGreatDoorG27
set_option maxRecDepth 100000
namespace Go.Proofs.YtdakgnaojakldaaGreatDoor
namespace Rd
open Ref
def PW(d:Nat)(t:List UInt8)(v:V):Prop:=∀(l r:List UInt8) (p f:Nat),At l p t r->t.length<=f->zU l f d p = .ok v (p+t.length)
def PL(d:Nat)(t:List UInt8)(a:List V):Prop:=∀(l r:List UInt8) (p f:Nat) (acc:List V),At l p t r->t.length<=f->jQ l f d p acc = .ok (.list (acc++a)) (p+t.length)
def PO(d:Nat)(t:List UInt8)(ms:List (BA×V)):Prop:=∀(l r:List UInt8) (p f:Nat) (acc:List (BA×V)),At l p t r->t.length<=f->((acc++ms).map λm=>m.1.toList).Nodup->jR l f d p acc = .ok (.obj (acc++ms)) (p+t.length)
theorem At.skip{l b r:List UInt8}{p:Nat}{c:UInt8}(h:At l p b (c::r))(hb:Blanks b)(d:blank c.toNat=false):skip l p=p+b.length/\ze l (p+b.length)=c.toNat:=by
 have a:=h.hdR;exact⟨pz b hb l _ p h (by rw[a];exact d),a⟩
theorem bY(l r:List UInt8):∀(d:List UInt8) (p:Nat),(∀c ∈ d,c≠0)->At l p d r->zR l (d.map UInt8.toNat) p = .ok () (p+d.length)
 | [],p,_,_=>rfl
 | c::d,p,h0,h=>by
  have e:At l (p+1) d r:=(At.app (a:=[c]) (b:=d) h).2;rw[List.map_cons,zR,h.hd];rw[if_pos rfl,bY l r d (p+1) (λx f=>h0 x (by simp[f])) e]
  simp;omega
theorem OV{d:Nat}{t:List UInt8}{s:BA}(h:jg t s):PW d ([34]++t++[34]) (.str s):=by
 intro l r p f c a;rw[List.append_assoc] at c;obtain⟨g,i⟩:=c.app;have b:ze l p=34:=g.hd;simp only[List.length_append,List.length_singleton] at a |-
 match f,a with
 | f+1,a=>
  have e:=aY h i;simp only[List.length_singleton] at e;rw[zU,if_neg (by rw[b];decide),if_neg (by rw[b];decide),if_pos b,e];simp only;congr 1;omega
theorem OX{d:Nat}:PW d [116,114,117,101] (.word true):=by
 intro l r p f e g;have c:ze l p=116:=e.hd;have h:=bY l r [114,117,101] (p+1) (by decide) (At.app (a:=[116]) (b:=[114,117,101]) e).2
 match f,g with
 | f+1,g=>
  rw[zU,if_neg (by rw[c];decide),if_neg (by rw[c];decide),if_neg (by rw[c];decide),if_pos c];have i:zR l [114,117,101] (p+1) = .ok () (p+1+3):=h;rw[i]
  rfl
theorem OT{d:Nat}:PW d [102,97,108,115,101] (.word false):=by
 intro l r p f e g;have c:ze l p=102:=e.hd;have h:=bY l r [97,108,115,101] (p+1) (by decide) (At.app (a:=[102]) (b:=[97,108,115,101]) e).2
 match f,g with
 | f+1,g=>
  rw[zU,if_neg (by rw[c];decide),if_neg (by rw[c];decide),if_neg (by rw[c];decide),if_neg (by rw[c];decide),if_pos c];have i:zR l [97,108,115,101] (p+1) = .ok () (p+1+4):=h;rw[i]
  rfl
theorem OO{d:Nat}{b t:List UInt8}{j:List V}(hd:d<=8)(hb:Blanks b)(x:WL d t j)(w:PL d t j):PW d ([91]++b++t) (.list j):=by
 intro l r p f u h;obtain⟨c,y,rfl,v,g⟩:=x.head;obtain⟨o,m⟩:=u.app;obtain⟨q,s⟩:=o.app;have n:ze l p=91:=q.hd;obtain⟨a,k⟩:=At.skip (l:=l) (b:=b) (p:=p+[91].length) s hb v;simp only[List.length_singleton] at a k;simp only[List.length_append,List.length_singleton] at h m |-
 match f,h with
 | f+1,h=>
  have i:¬ze l (skip l (p+1))=93:=by
   rw[a,k];intro e;exact g (UInt8.toNat_inj.1 e)
  rw[zU,if_neg (by rw[n];decide),if_pos n,if_neg (by omega),if_neg i,a]
  have:=w l r (p+1+b.length) f [] (by rw[show p+1+b.length=p+(1+b.length) by omega];exact m) (by omega)
  rw[this];simp only[List.nil_append];congr 1;omega
theorem OU{d:Nat}{b t:List UInt8}{ms:List (BA×V)}(hd:d<=8)(hb:Blanks b)(v:WO d t ms)(q:(ms.map λm=>m.1.toList).Nodup)(u:PO d t ms):PW d ([123]++b++t) (.obj ms):=by
 intro l r p f o e;obtain⟨w,rfl⟩:=v.head;obtain⟨j,i⟩:=o.app;obtain⟨k,n⟩:=j.app;have s:ze l p=123:=k.hd;obtain⟨a,h⟩:=At.skip (l:=l) (b:=b) (p:=p+[123].length) (c:=34) n hb (by decide);simp only[List.length_singleton] at a h;simp only[List.length_append,List.length_singleton] at e i |-
 match f,e with
 | f+1,e=>
  have g:¬ze l (skip l (p+1))=125:=by rw[a,h];decide
  rw[zU,if_pos s,if_neg (by omega),if_neg g,a]
  have:=u l r (p+1+b.length) f [] (by rw[show p+1+b.length=p+(1+b.length) by omega];exact i) (by omega) (by simpa using q)
  rw[this];simp only[List.nil_append];congr 1;omega
theorem OL{d:Nat}{t b:List UInt8}{v:V}(o:PW (d+1) t v)(hb:Blanks b)(n:t≠[]):PL d (t++b++[93]) [v]:=by
 intro l r p f acc e a;rw[List.append_assoc] at e;obtain⟨i,j⟩:=e.app;obtain⟨k,q⟩:=j.app;obtain⟨g,h⟩:=At.skip (l:=l) (b:=b) (p:=p+t.length) (c:=93) k hb (by decide);have m:0<t.length:=List.length_pos_iff.2 n;simp only[List.length_append,List.length_singleton] at a |-
 match f,a with
 | f+1,a=>
  rw[jQ,o l _ p f i (by omega)];simp only;rw[g,h,if_neg (by decide),if_pos (by decide)];congr 1;omega
theorem OP{d:Nat}{t b c e:List UInt8}{v:V}{g:List V}(D:PW (d+1) t v)(hb:Blanks b)(z:Blanks c)(E:WL d e g)(B:PL d e g)(C:t≠[]):PL d (t++b++[44]++c++e) (v::g):=by
 intro l r p f acc j a;obtain⟨x,H,rfl,F,_⟩:=E.head;simp only[List.append_assoc] at j;obtain⟨o,q⟩:=j.app;obtain⟨s,u⟩:=q.app;obtain⟨G,w⟩:=u.app;obtain⟨y,i⟩:=w.app;obtain⟨k,m⟩:=At.skip (l:=l) (b:=b) (p:=p+t.length) (c:=44) s hb (by decide);obtain⟨h,n⟩:=At.skip (l:=l) (b:=c) y z F;simp only[List.length_singleton] at h n i;have A:0<t.length:=List.length_pos_iff.2 C;simp only[List.length_append,List.length_singleton] at a |-
 match f,a with
 | f+1,a=>
  rw[jQ,D l _ p f o (by omega)];simp only;rw[k,m,if_pos (by decide),h,B l r _ f (acc++[v]) i (by omega)];simp only[List.append_assoc,List.cons_append,List.nil_append];congr 1;omega
theorem OM{d:Nat}{n b c t e:List UInt8}{s:BA}{v:V}(P:jg n s)(hb:Blanks b)(N:Blanks c)(S:W (d+1) t v)(R:PW (d+1) t v)(O:Blanks e):PO d ([34]++n++[34]++b++[58]++c++t++e++[125]) [(s,v)]:=by
 intro l r p f acc B i h;obtain⟨x,Y,rfl,T,_⟩:=S.head;simp only[List.append_assoc] at B;obtain⟨F,A⟩:=B.app;rw[<- List.append_assoc n [34]] at A;obtain⟨H,I⟩:=A.app;obtain⟨J,K⟩:=I.app;obtain⟨X,L⟩:=K.app;obtain⟨M,j⟩:=L.app;obtain⟨a,k⟩:=j.app;obtain⟨m,G⟩:=k.app;have Q:ze l p=34:=F.hd;have C:=aY P H;obtain⟨o,q⟩:=At.skip (l:=l) (b:=b) (c:=58) J hb (by decide);obtain⟨u,E⟩:=At.skip (l:=l) (b:=c) M N T;obtain⟨w,z⟩:=At.skip (l:=l) (b:=e) (c:=125) m O (by decide);simp only[List.length_singleton,List.length_append] at C o q u E w z a i |-
 have g:acc.any (λx=>x.1.toList==s.toList)=false:=by
  rw[List.any_eq_false];intro y U;simp only[List.map_append,List.map_cons,List.map_nil] at h
  have:=(List.nodup_append.1 h).2.2 y.1.toList (List.mem_map.2 ⟨y,U,rfl⟩) s.toList (by simp)
  simpa using this
 match f,i with
 | f+1,i=>
  rw[jR,if_neg (by rw[Q];decide),C];simp only;rw[g];simp only[Bool.false_eq_true,if_false];have D:p+1+n.length+1=p+1+(n.length+1):=by omega
  rw[D,o,q,if_neg (by decide),u];rw[R l _ _ f a (by simp only[List.length_cons] at i |-;omega)];simp only;rw[w,z,if_neg (by decide),if_pos (by decide)];congr 1;simp only[List.length_cons];omega
theorem OQ{d:Nat}{n b c t e g A:List UInt8}{s:BA}{v:V}{ms:List (BA×V)}(hn:jg n s)(hb:Blanks b)(X:Blanks c)(hw:W (d+1) t v)(hv:PW (d+1) t v)(Y:Blanks e)(Z:Blanks g)(ho:WO d A ms)(hr:PO d A ms) :
  PO d ([34]++n++[34]++b++[58]++c++t++e++[44]++g++A) ((s,v)::ms):=by
 intro l r p f acc I k a;obtain⟨x,t2,rfl,hx,_⟩:=hw.head;obtain⟨t3,rfl⟩:=ho.head;simp only[List.append_assoc] at I;obtain⟨N,H⟩:=I.app;rw[<- List.append_assoc n [34]] at H;obtain⟨P,Q⟩:=H.app;obtain⟨R,S⟩:=Q.app;obtain⟨h7,T⟩:=S.app;obtain⟨U,m⟩:=T.app;obtain⟨h,o⟩:=m.app;obtain⟨q,u⟩:=o.app;obtain⟨O,w⟩:=u.app;obtain⟨z,i⟩:=w.app;have hp:ze l p=34:=N.hd;have J:=aY hn P;obtain⟨B,C⟩:=At.skip (l:=l) (b:=b) (c:=58) R hb (by decide);obtain⟨D,L⟩:=At.skip (l:=l) (b:=c) U X hx;obtain⟨E,F⟩:=At.skip (l:=l) (b:=e) (c:=44) q Y (by decide);obtain⟨G,M⟩:=At.skip (l:=l) (b:=g) (c:=34) z Z (by decide);simp only[List.length_singleton,List.length_append] at J B C D L E F G M h i k |-
 have j:acc.any (λx=>x.1.toList==s.toList)=false:=by
  rw[List.any_eq_false];intro y hy;simp only[List.map_append,List.map_cons] at a
  have:=(List.nodup_append.1 a).2.2 y.1.toList (List.mem_map.2 ⟨y,hy,rfl⟩) s.toList (by simp)
  simpa using this
 match f,k with
 | f+1,k=>
  rw[jR,if_neg (by rw[hp];decide),J];simp only;rw[j];simp only[Bool.false_eq_true,if_false];have K:p+1+n.length+1=p+1+(n.length+1):=by omega
  rw[K,B,C,if_neg (by decide),D];rw[hv l _ _ f h (by simp only[List.length_cons] at k |-;omega)];simp only;rw[E,F,if_pos (by decide),G,hr l r _ f (acc++[(s,v)]) i (by simp only[List.length_cons] at k |-;omega) (by simpa using a)];simp only[List.append_assoc,List.cons_append,List.nil_append];congr 1;simp only[List.length_cons];omega
theorem W.pos{d:Nat}{t:List UInt8}{v:V}(h:W d t v):t≠[]:=by
 obtain⟨c,r,rfl,_⟩:=h.head
 simp
mutual
theorem W.reads:∀{d:Nat} {t:List UInt8} {v:V},W d t v->PW d t v
 | _,_,_,.str h=>OV h
 | _,_,_,.yes=>OX
 | _,_,_,.no=>OT
 | _,_,_,.list hd hb hw=>OO hd hb hw hw.reads
 | _,_,_,.obj hd hb hw hn=>OU hd hb hw hn hw.reads
theorem WL.reads:∀{d:Nat} {t:List UInt8} {a:List V},WL d t a->PL d t a
 | _,_,_,.last hw hb=>OL hw.reads hb hw.pos
 | _,_,_,.more hw hb hc hl=>OP hw.reads hb hc hl hl.reads hw.pos
theorem WO.reads:∀{d:Nat} {t:List UInt8} {ms:List (BA×V)},WO d t ms->PO d t ms
 | _,_,_,.last hn hb hc hw he=>OM hn hb hc hw hw.reads he
 | _,_,_,.more hn hb hc hw he hg ho=>OQ hn hb hc hw hw.reads he hg ho ho.reads
end
theorem oz{t:List UInt8}{v:V}(h:W 1 t v):xD t = .ok v t.length:=by
 obtain⟨c,r,rfl,b,_⟩:=h.head;have a:At (c::r) 0 (c::r) []:=by unfold At;simp
 have e:skip (c::r) 0=0:=skip_none _ _ (by rw[a.hd];exact b);have f:=h.reads (c::r) [] 0 (2*(c::r).length+1) a (by omega);unfold xD;rw[e,f];simp only[Nat.zero_add];have d:skip (c::r) (c::r).length=(c::r).length:=skip_none _ _ (by rw[VL _ _ (by omega)];decide);rw[d,if_neg (by omega)]
end Rd
namespace Kp
open Rd Ref
def bl(b:BA):List UInt8:=b.data.toList
theorem qc(a b:BA):bl (a++b)=bl a++bl b:=by unfold bl;simp[ByteArray.data_append]
inductive Plain8:List UInt8->Prop
 | nil:Plain8 []
 | one {b t}:32<=b.toNat/\b.toNat<128/\b.toNat≠34/\b.toNat≠92->Plain8 t->Plain8 (b::t)
 | two {t}:Plain8 t->Plain8 (195::169::t)
theorem eF{b:UInt8}(h:32<=b.toNat/\b.toNat<128/\b.toNat≠34/\b.toNat≠92):Q7 [b] ⟨#[b]⟩:=by
 refine⟨by simp,?_,λl p r a=>?_⟩
 ·simp only[List.head?_cons,ne_eq,Option.some.injEq];intro e;rw[e] at h;exact h.2.2.1 rfl
 ·have c:=a.hd;unfold xJ;simp only;rw[c,if_neg (by omega),if_neg h.2.2.2,if_pos (by omega)]
  have:one ((b.toNat:Nat):Int)=⟨#[b]⟩:=by
   unfold one
   simp
  rw[this]
  rfl
theorem At.tl{l:List UInt8}{p:Nat}{b:UInt8}{t r:List UInt8}(h:At l p (b::t) r):At l (p+1) t r:=(At.app (a:=[b]) (b:=t) h).2
theorem Bd:Q7 [92,47] ⟨#[47]⟩:=by
 refine⟨by simp,by simp,λl p r a=>?_⟩;have b:=a.hd;have c:=(At.tl a).hd;unfold xJ jk;simp only[b,c]
 rfl
theorem Ba:Q7 [92,117,48,48,54,49] ⟨#[97]⟩:=by
 refine⟨by simp,by simp,λl p r e=>?_⟩;have g:=e.hd;have a:=At.tl e;have b:=At.tl a;have c:=At.tl b;have d:=At.tl c;have f:=At.tl d;unfold xJ jk jO;simp only[g,a.hd,b.hd,c.hd,d.hd,f.hd]
 rfl
theorem Be:Q7 [92,117,48,48,50,65] ⟨#[42]⟩:=by
 refine⟨by simp,by simp,λl p r e=>?_⟩;have g:=e.hd;have a:=At.tl e;have b:=At.tl a;have c:=At.tl b;have d:=At.tl c;have f:=At.tl d;unfold xJ jk jO;simp only[g,a.hd,b.hd,c.hd,d.hd,f.hd]
 rfl
theorem Bb:Q7 [195,169] ⟨#[195,169]⟩:=by
 refine⟨by simp,by simp,λl p r a=>?_⟩;have c:=a.hd;have b:=At.tl a;unfold xJ jb within;simp only[c,b.hd]
 rfl
theorem Bc(st:Int){b:UInt8}(h:32<=b.toNat/\b.toNat<128/\b.toNat≠34/\b.toNat≠92):Q7 (bl (esc st b)) ⟨#[b]⟩:=by
 unfold esc
 by_cases c1:b.toNat=47/\bit st 1=true
 ·rw[if_pos c1]
  have:b=47:=UInt8.toNat_inj.1 c1.1
  subst this;exact Bd
 rw[if_neg c1]
 by_cases c2:b.toNat=97/\bit st 2=true
 ·rw[if_pos c2]
  have:b=97:=UInt8.toNat_inj.1 c2.1
  subst this;exact Ba
 rw[if_neg c2]
 by_cases c3:b.toNat=42/\bit st 4=true
 ·rw[if_pos c3]
  have:b=42:=UInt8.toNat_inj.1 c3.1
  subst this;exact Be
 rw[if_neg c3];exact eF h
theorem gK(st:Int){b:UInt8}(a:b.toNat≠47)(c:b.toNat≠97)(d:b.toNat≠42):esc st b=⟨#[b]⟩:=by
 unfold esc;rw[if_neg (λh=>a h.1),if_neg (λh=>c h.1),if_neg (λh=>d h.1)]
def inner(st:Int)(t:List UInt8):List UInt8:=t.flatMap λb=>bl (esc st b)
theorem rE(st:Int){t:List UInt8}(h:Plain8 t):jg (inner st t) ⟨⟨t⟩⟩:=by
 induction h with
 | nil=>exact .nil
 | one hb _ a=>
  rename_i b t _
  have:=jg.char (Bc st hb) a
  have e:(⟨#[b]⟩:BA)++⟨⟨t⟩⟩=⟨⟨b::t⟩⟩:=by apply ByteArray.ext;simp[ByteArray.data_append]
  rw[e] at this;exact this
 | two _ a=>
  rename_i t _
  have:=jg.char Bb a
  have e:(⟨#[195,169]⟩:BA)++⟨⟨t⟩⟩=⟨⟨195::169::t⟩⟩:=by apply ByteArray.ext;simp[ByteArray.data_append]
  rw[e] at this
  have c:inner st (195::169::t)=[195,169]++inner st t:=by
   unfold inner;rw[List.flatMap_cons,List.flatMap_cons,gK st (by decide) (by decide) (by decide),gK st (by decide) (by decide) (by decide)]
   rfl
  rw[c];exact this
theorem om(s:BA)(st:Int):∀k,k<=(bl s).length->bl (ZM s st k)=34::inner st ((bl s).take k)
 | 0,_=>rfl
 | k+1,h=>by
  rw[ZM,qc,om s st k (by omega)];have a:k<(bl s).length:=by omega
  rw[List.take_succ_eq_append_getElem a];unfold inner;rw[List.flatMap_append,List.flatMap_singleton]
  have:s.data.toList.getD k 0=(bl s)[k]:=by
   rw[List.getD_eq_getElem?_getD];show ((bl s)[k]?).getD 0=_;rw[List.getElem?_eq_getElem a]
   rfl
  rw[this]
  rfl
theorem QD(s:BA):(bl s).length=s.size:=by unfold bl;simp
theorem Og(s:BA)(st:Int):bl (jF s st)=[34]++inner st (bl s)++[34]:=by
 rw[jF,qc,om s st s.size (by rw[QD];omega),List.take_of_length_le (by rw[QD];omega)]
 rfl
def Pl(s:BA):Prop:=Plain8 (bl s)
theorem oo{d:Nat}{s:BA}(st:Int)(h:Pl s):W d (bl (jF s st)) (.str s):=by
 rw[Og];exact .str (rE st h)
theorem Nh:∀b ∈ Xz,Blanks (bl b):=by
 intro b hb;simp only[Xz,List.mem_cons,List.not_mem_nil,or_false] at hb
 rcases hb with rfl|rfl|rfl|rfl<;>(intro c a;simp[bl] at a)
 ·subst a;decide
 ·rcases a with rfl|rfl<;>decide
 ·rcases a with rfl|rfl<;>decide
theorem zC:Blanks []:=λ_ h=>by simp at h
theorem Ju(st:Int):Blanks (bl (xN st)):=uz (P:=λb=>Blanks (bl b)) Nh zC _
def xW(sep:List UInt8):List (List UInt8)->List UInt8
 | []=>[]
 | [t]=>t
 | t::ts=>t++sep++xW sep ts
theorem Kz(sep t:List UInt8):∀ts:List (List UInt8),ts≠[]->xW sep (ts++[t])=xW sep ts++sep++t
 | [],h=>absurd rfl h
 | [x],_=>rfl
 | x::y::r,_=>by
  have:=Kz sep t (y::r) (by simp)
  show x++sep++xW sep (y::r++[t])=x++sep++xW sep (y::r)++sep++t;rw[this];simp only[List.append_assoc]
theorem Ue{d:Nat}{c:List UInt8}(a:Blanks c):∀(xs:List (List UInt8×V)),xs≠[]->(∀x ∈ xs,W (d+1) x.1 x.2)->WL d (xW ([44]++c) (xs.map Prod.fst)++[93]) (xs.map Prod.snd)
 | [],h,_=>absurd rfl h
 | [x],_,h=>by
  have:=WL.last (b:=[]) (h x (by simp)) zC
  simpa [xW] using this
 | x::y::r,_,h=>by
  have g:=Ue a (y::r) (by simp) (λz f=>h z (by simp[f]))
  have:=WL.more (b:=[]) (c:=c) (h x (by simp)) zC a g
  have e:xW ([44]++c) ((x::y::r).map Prod.fst)++[93]=x.1++[]++[44]++c++(xW ([44]++c) ((y::r).map Prod.fst)++[93]):=by
   show x.1++([44]++c)++xW ([44]++c) ((y::r).map Prod.fst)++[93]=_;simp only[List.append_assoc,List.nil_append]
  rw[e];exact this
theorem KM(l:List BA)(st:Int):∀k,k<=l.length->bl (qV l st k)=[91]++bl (xN st)++xW ([44]++bl (xN st)) ((l.take k).map λs=>bl (jF s st))
 | 0,_=>by
  rw[qV,qc];simp[xW]
  rfl
 | k+1,h=>by
  have a:k<l.length:=by omega
  have b:l.getD k ⟨#[]⟩=l[k]:=by rw[List.getD_eq_getElem?_getD,List.getElem?_eq_getElem a];rfl
  rw[qV,qc,b,List.take_succ_eq_append_getElem a,List.map_append,List.map_singleton]
  by_cases h0:0<k
  ·rw[if_pos h0,qc,qc,KM l st k (by omega),Kz _ _ _ (by
    intro e
    have:=congrArg List.length e
    rw[List.length_map,List.length_take,List.length_nil] at this;omega)]
   simp only[List.append_assoc]
   rfl
  ·have:k=0:=by omega
   subst this;rw[if_neg h0,KM l st 0 (by omega)];simp[xW]
def zP(l:List BA)(st:Int):V:=if l.length=1/\bit st 32=true then .str (l.getD 0 ⟨#[]⟩) else .list (l.map .str)
theorem KN{d:Nat}(hd:d<=8){l:List BA}(st:Int)(f:l≠[])(e:∀s ∈ l,Pl s):∃t b,bl (qO l st)=t++b/\Blanks b/\W d t (zP l st):=by
 unfold qO zP
 by_cases c:l.length=1/\bit st 32=true
 ·rw[if_pos c,if_pos c];refine⟨_,[],(List.append_nil _).symm,zC,oo st ?_⟩;have h:0<l.length:=by omega
  have g:l.getD 0 ⟨#[]⟩=l[0]:=by rw[List.getD_eq_getElem?_getD,List.getElem?_eq_getElem h];rfl
  rw[g];exact e _ (List.getElem_mem _)
 ·rw[if_neg c,if_neg c]
  have a:=Ue (d:=d) (Ju st) (l.map λs=>(bl (jF s st),V.str s)) (by simpa using f) (by
   intro x j;obtain⟨s,i,rfl⟩:=List.mem_map.1 j;exact oo st (e s i))
  rw[List.map_map,List.map_map] at a;refine⟨[91]++bl (xN st)++(xW ([44]++bl (xN st)) (l.map λs=>bl (jF s st))++[93]),bl (xN st),?_,Ju st,.list hd (Ju st) a⟩;rw[qc,qc,KM l st l.length (Nat.le_refl _),List.take_of_length_le (Nat.le_refl _)];simp only[List.append_assoc]
  rfl
def vB:List UInt8->Bool
 | []=>true
 | [b]=>decide (32<=b.toNat/\b.toNat<128/\b.toNat≠34/\b.toNat≠92)
 | b::c::t=>(b==195&&c==169&&vB t)||(decide (32<=b.toNat/\b.toNat<128/\b.toNat≠34/\b.toNat≠92)&&vB (c::t))
theorem Ze:∀t,vB t=true->Plain8 t
 | [],_ => .nil
 | [b],h=>by
  rw[vB,decide_eq_true_eq] at h;exact .one h .nil
 | b::c::t,h=>by
  rw[vB,Bool.or_eq_true] at h
  rcases h with h|h
  ·simp only[Bool.and_eq_true,beq_iff_eq] at h;obtain⟨⟨rfl,rfl⟩,h⟩:=h;exact .two (Ze t h)
  ·rw[Bool.and_eq_true,decide_eq_true_eq] at h;exact .one h.1 (Ze (c::t) h.2)
theorem Yu:∀s ∈ patterns,Pl s:=λs a=>Ze _ ((by decide:∀s ∈ patterns,vB (bl s)=true) s a)
theorem sK:∀s ∈ words,Pl s:=λs a=>Ze _ ((by decide:∀s ∈ words,vB (bl s)=true) s a)
theorem mU:∀s ∈ nums,Pl s:=λs a=>Ze _ ((by decide:∀s ∈ nums,vB (bl s)=true) s a)
theorem si:∀s ∈ Zk,Pl s:=λs a=>Ze _ ((by decide:∀s ∈ Zk,vB (bl s)=true) s a)
theorem IA:∀s ∈ keys,Pl s:=λs a=>Ze _ ((by decide:∀s ∈ keys,vB (bl s)=true) s a)
theorem V5{t:List UInt8}(h:∀b ∈ t,32<=b.toNat/\b.toNat<128/\b.toNat≠34/\b.toNat≠92):jg t ⟨⟨t⟩⟩:=by
 induction t with
 | nil=>exact .nil
 | cons b t c=>
  have:=jg.char (eF (h b (by simp))) (c (λx a=>h x (by simp[a])))
  have e:(⟨#[b]⟩:BA)++⟨⟨t⟩⟩=⟨⟨b::t⟩⟩:=by apply ByteArray.ext;simp[ByteArray.data_append]
  rw[e] at this;exact this
def jh(raw:List Int)(nt:Bool)(st:Int):V:=if nt then .obj [(zS,zP (qg raw) st)] else zP (qg raw) st
theorem UO(raw:List Int):qg raw≠[]:=by
 intro e
 have:=(ZB raw).1
 rw[e] at this;simp at this
theorem UN{d:Nat}(hd:d<=7)(raw:List Int)(nt:Bool)(st:Int):∃t b,bl (yw raw nt st)=t++b/\Blanks b/\W d t (jh raw nt st):=by
 unfold yw jh
 cases nt with
 | false=>
  simp only[Bool.false_eq_true,if_false];exact KN (by omega) st (UO raw) (λs a=>Yu s (QF a))
 | true=>
  simp only[if_true];obtain⟨t,b,e,hb,i⟩:=KN (d:=d+1) (by omega) st (UO raw) (λs a=>Yu s (QF a));have g:jg [110,111,116] zS:=V5 (by decide);have h:=WO.last (d:=d) g (b:=[]) (c:=[]) zC zC i hb;refine⟨_,[],(List.append_nil _).symm,zC,?_⟩
  have:=W.obj (by omega) (Ju st) h (by simp)
  rw[qc,qc,qc,qc,e]
  have f:bl ⟨#[123]⟩++bl (xN st)++bl ⟨#[34,110,111,116,34,58]⟩++(t++b)++bl ⟨#[125]⟩=[123]++bl (xN st)++([34]++[110,111,116]++[34]++[]++[58]++[]++t++b++[125]):=by
   simp only[bl,List.append_assoc,List.cons_append,List.nil_append]
  rw[f];exact this
end Kp
end Go.Proofs.YtdakgnaojakldaaGreatDoor
