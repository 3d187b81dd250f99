/- P -/
import Derived.Test.YtdakgnaojakldaaGreatDoorS26
open Go.Proofs.Tryz
set_option maxRecDepth 100000
namespace Go.Proofs.YtdakgnaojakldaaGreatDoor
namespace Rd
open Ref
def PW(d:Nat)(t:List UInt8)(v:V):Prop:=∀(l r:List UInt8) (p f:Nat),At l p t r->t.length<=f->zL l f d p = .ok v (p+t.length)
def PL(d:Nat)(t:List UInt8)(a:List V):Prop:=∀(l r:List UInt8) (p f:Nat) (acc:List V),At l p t r->t.length<=f->yZ l f d p acc = .ok (.list (acc++a)) (p+t.length)
def PO(d:Nat)(t:List UInt8)(ms:List (BY×V)):Prop:=∀(l r:List UInt8) (p f:Nat) (acc:List (BY×V)),At l p t r->t.length<=f->((acc++ms).map λm=>m.1.toList).Nodup->y9 l f d p acc = .ok (.obj (acc++ms)) (p+t.length)
theorem At.skip{l b r:List UInt8}{p:Nat}{c:UInt8}(h:At l p b (c::r))(hb:Blanks b)(d:blank c.toNat=false):skip l p=p+b.length/\zf l (p+b.length)=c.toNat:=by
 have a:=h.hdR;exact⟨gD b hb l _ p h (by rw[a];exact d),a⟩
theorem UG(l r:List UInt8):∀(d:List UInt8) (p:Nat),(∀c ∈ d,c≠0)->At l p d r->zK l (d.map UInt8.toNat) p = .ok () (p+d.length)
 | [],p,_,_=>rfl
 | c::d,p,h0,h=>by
  have e:At l (p+1) d r:=(At.app (a:=[c]) (b:=d) h).2;rw[List.map_cons,zK,h.hd];rw[if_pos rfl,UG l r d (p+1) (λx f=>h0 x (by simp[f])) e]
  simp;omega
theorem Gp{d:Nat}{t:List UInt8}{s:BY}(h:jW t s):PW d ([34]++t++[34]) (.str s):=by
 intro l r p f c a;rw[List.append_assoc] at c;obtain⟨g,i⟩:=c.app;have b:zf l p=34:=g.hd;simp only[List.length_append,List.length_singleton] at a |-
 match f,a with
 | f+1,a=>
  have e:=Ue h i;simp only[List.length_singleton] at e;rw[zL,if_neg (by rw[b];decide),if_neg (by rw[b];decide),if_pos b,e];simp only;congr 1;omega
theorem Gq{d:Nat}:PW d [116,114,117,101] (.word true):=by
 intro l r p f e g;have c:zf l p=116:=e.hd;have h:=UG l r [114,117,101] (p+1) (by decide) (At.app (a:=[116]) (b:=[114,117,101]) e).2
 match f,g with
 | f+1,g=>
  rw[zL,if_neg (by rw[c];decide),if_neg (by rw[c];decide),if_neg (by rw[c];decide),if_pos c];have i:zK l [114,117,101] (p+1) = .ok () (p+1+3):=h;rw[i]
  rfl
theorem Gm{d:Nat}:PW d [102,97,108,115,101] (.word false):=by
 intro l r p f e g;have c:zf l p=102:=e.hd;have h:=UG l r [97,108,115,101] (p+1) (by decide) (At.app (a:=[102]) (b:=[97,108,115,101]) e).2
 match f,g with
 | f+1,g=>
  rw[zL,if_neg (by rw[c];decide),if_neg (by rw[c];decide),if_neg (by rw[c];decide),if_neg (by rw[c];decide),if_pos c];have i:zK l [97,108,115,101] (p+1) = .ok () (p+1+4):=h;rw[i]
  rfl
theorem Gh{d:Nat}{b t:List UInt8}{j:List V}(hd:d<=8)(hb:Blanks b)(x:WL d t j)(w:PL d t j):PW d ([91]++b++t) (.list j):=by
 intro l r p f u h;obtain⟨c,y,rfl,v,g⟩:=x.head;obtain⟨o,m⟩:=u.app;obtain⟨q,s⟩:=o.app;have n:zf l p=91:=q.hd;obtain⟨a,k⟩:=At.skip (l:=l) (b:=b) (p:=p+[91].length) s hb v;simp only[List.length_singleton] at a k;simp only[List.length_append,List.length_singleton] at h m |-
 match f,h with
 | f+1,h=>
  have i:¬zf l (skip l (p+1))=93:=by
   rw[a,k];intro e;exact g (UInt8.toNat_inj.1 e)
  rw[zL,if_neg (by rw[n];decide),if_pos n,if_neg (by omega),if_neg i,a]
  have:=w l r (p+1+b.length) f [] (by rw[show p+1+b.length=p+(1+b.length) by omega];exact m) (by omega)
  rw[this];simp only[List.nil_append];congr 1;omega
theorem Gn{d:Nat}{b t:List UInt8}{ms:List (BY×V)}(hd:d<=8)(hb:Blanks b)(v:WO d t ms)(q:(ms.map λm=>m.1.toList).Nodup)(u:PO d t ms):PW d ([123]++b++t) (.obj ms):=by
 intro l r p f o e;obtain⟨w,rfl⟩:=v.head;obtain⟨j,i⟩:=o.app;obtain⟨k,n⟩:=j.app;have s:zf l p=123:=k.hd;obtain⟨a,h⟩:=At.skip (l:=l) (b:=b) (p:=p+[123].length) (c:=34) n hb (by decide);simp only[List.length_singleton] at a h;simp only[List.length_append,List.length_singleton] at e i |-
 match f,e with
 | f+1,e=>
  have g:¬zf l (skip l (p+1))=125:=by rw[a,h];decide
  rw[zL,if_pos s,if_neg (by omega),if_neg g,a]
  have:=u l r (p+1+b.length) f [] (by rw[show p+1+b.length=p+(1+b.length) by omega];exact i) (by omega) (by simpa using q)
  rw[this];simp only[List.nil_append];congr 1;omega
theorem Gf{d:Nat}{t b:List UInt8}{v:V}(o:PW (d+1) t v)(hb:Blanks b)(n:t≠[]):PL d (t++b++[93]) [v]:=by
 intro l r p f acc e a;rw[List.append_assoc] at e;obtain⟨i,j⟩:=e.app;obtain⟨k,q⟩:=j.app;obtain⟨g,h⟩:=At.skip (l:=l) (b:=b) (p:=p+t.length) (c:=93) k hb (by decide);have m:0<t.length:=List.length_pos_iff.2 n;simp only[List.length_append,List.length_singleton] at a |-
 match f,a with
 | f+1,a=>
  rw[yZ,o l _ p f i (by omega)];simp only;rw[g,h,if_neg (by decide),if_pos (by decide)];congr 1;omega
theorem Gi{d:Nat}{t b c e:List UInt8}{v:V}{g:List V}(D:PW (d+1) t v)(hb:Blanks b)(z:Blanks c)(E:WL d e g)(B:PL d e g)(C:t≠[]):PL d (t++b++[44]++c++e) (v::g):=by
 intro l r p f acc j a;obtain⟨x,H,rfl,F,_⟩:=E.head;simp only[List.append_assoc] at j;obtain⟨o,q⟩:=j.app;obtain⟨s,u⟩:=q.app;obtain⟨G,w⟩:=u.app;obtain⟨y,i⟩:=w.app;obtain⟨k,m⟩:=At.skip (l:=l) (b:=b) (p:=p+t.length) (c:=44) s hb (by decide);obtain⟨h,n⟩:=At.skip (l:=l) (b:=c) y z F;simp only[List.length_singleton] at h n i;have A:0<t.length:=List.length_pos_iff.2 C;simp only[List.length_append,List.length_singleton] at a |-
 match f,a with
 | f+1,a=>
  rw[yZ,D l _ p f o (by omega)];simp only;rw[k,m,if_pos (by decide),h,B l r _ f (acc++[v]) i (by omega)];simp only[List.append_assoc,List.cons_append,List.nil_append];congr 1;omega
theorem Gg{d:Nat}{n b c t e:List UInt8}{s:BY}{v:V}(P:jW n s)(hb:Blanks b)(N:Blanks c)(S:W (d+1) t v)(R:PW (d+1) t v)(O:Blanks e):PO d ([34]++n++[34]++b++[58]++c++t++e++[125]) [(s,v)]:=by
 intro l r p f acc B i h;obtain⟨x,Y,rfl,T,_⟩:=S.head;simp only[List.append_assoc] at B;obtain⟨F,A⟩:=B.app;rw[<- List.append_assoc n [34]] at A;obtain⟨H,I⟩:=A.app;obtain⟨J,K⟩:=I.app;obtain⟨X,L⟩:=K.app;obtain⟨M,j⟩:=L.app;obtain⟨a,k⟩:=j.app;obtain⟨m,G⟩:=k.app;have Q:zf l p=34:=F.hd;have C:=Ue P H;obtain⟨o,q⟩:=At.skip (l:=l) (b:=b) (c:=58) J hb (by decide);obtain⟨u,E⟩:=At.skip (l:=l) (b:=c) M N T;obtain⟨w,z⟩:=At.skip (l:=l) (b:=e) (c:=125) m O (by decide);simp only[List.length_singleton,List.length_append] at C o q u E w z a i |-
 have g:acc.any (λx=>x.1.toList==s.toList)=false:=by
  rw[List.any_eq_false];intro y U;simp only[List.map_append,List.map_cons,List.map_nil] at h
  have:=(List.nodup_append.1 h).2.2 y.1.toList (List.mem_map.2 ⟨y,U,rfl⟩) s.toList (by simp)
  simpa using this
 match f,i with
 | f+1,i=>
  rw[y9,if_neg (by rw[Q];decide),C];simp only;rw[g];simp only[Bool.false_eq_true,if_false];have D:p+1+n.length+1=p+1+(n.length+1):=by omega
  rw[D,o,q,if_neg (by decide),u];rw[R l _ _ f a (by simp only[List.length_cons] at i |-;omega)];simp only;rw[w,z,if_neg (by decide),if_pos (by decide)];congr 1;simp only[List.length_cons];omega
theorem Gj{d:Nat}{n b c t e g A:List UInt8}{s:BY}{v:V}{ms:List (BY×V)}(hn:jW n s)(hb:Blanks b)(X:Blanks c)(hw:W (d+1) t v)(hv:PW (d+1) t v)(Y:Blanks e)(Z:Blanks g)(ho:WO d A ms)(hr:PO d A ms) :
  PO d ([34]++n++[34]++b++[58]++c++t++e++[44]++g++A) ((s,v)::ms):=by
 intro l r p f acc I k a;obtain⟨x,t2,rfl,hx,_⟩:=hw.head;obtain⟨t3,rfl⟩:=ho.head;simp only[List.append_assoc] at I;obtain⟨N,H⟩:=I.app;rw[<- List.append_assoc n [34]] at H;obtain⟨P,Q⟩:=H.app;obtain⟨R,S⟩:=Q.app;obtain⟨h7,T⟩:=S.app;obtain⟨U,m⟩:=T.app;obtain⟨h,o⟩:=m.app;obtain⟨q,u⟩:=o.app;obtain⟨O,w⟩:=u.app;obtain⟨z,i⟩:=w.app;have hp:zf l p=34:=N.hd;have J:=Ue hn P;obtain⟨B,C⟩:=At.skip (l:=l) (b:=b) (c:=58) R hb (by decide);obtain⟨D,L⟩:=At.skip (l:=l) (b:=c) U X hx;obtain⟨E,F⟩:=At.skip (l:=l) (b:=e) (c:=44) q Y (by decide);obtain⟨G,M⟩:=At.skip (l:=l) (b:=g) (c:=34) z Z (by decide);simp only[List.length_singleton,List.length_append] at J B C D L E F G M h i k |-
 have j:acc.any (λx=>x.1.toList==s.toList)=false:=by
  rw[List.any_eq_false];intro y hy;simp only[List.map_append,List.map_cons] at a
  have:=(List.nodup_append.1 a).2.2 y.1.toList (List.mem_map.2 ⟨y,hy,rfl⟩) s.toList (by simp)
  simpa using this
 match f,k with
 | f+1,k=>
  rw[y9,if_neg (by rw[hp];decide),J];simp only;rw[j];simp only[Bool.false_eq_true,if_false];have K:p+1+n.length+1=p+1+(n.length+1):=by omega
  rw[K,B,C,if_neg (by decide),D];rw[hv l _ _ f h (by simp only[List.length_cons] at k |-;omega)];simp only;rw[E,F,if_pos (by decide),G,hr l r _ f (acc++[(s,v)]) i (by simp only[List.length_cons] at k |-;omega) (by simpa using a)];simp only[List.append_assoc,List.cons_append,List.nil_append];congr 1;simp only[List.length_cons];omega
theorem W.pos{d:Nat}{t:List UInt8}{v:V}(h:W d t v):t≠[]:=by
 obtain⟨c,r,rfl,_⟩:=h.head
 simp
mutual
theorem W.reads:∀{d:Nat} {t:List UInt8} {v:V},W d t v->PW d t v
 | _,_,_,.str h=>Gp h
 | _,_,_,.yes=>Gq
 | _,_,_,.no=>Gm
 | _,_,_,.list hd hb hw=>Gh hd hb hw hw.reads
 | _,_,_,.obj hd hb hw hn=>Gn hd hb hw hn hw.reads
theorem WL.reads:∀{d:Nat} {t:List UInt8} {a:List V},WL d t a->PL d t a
 | _,_,_,.last hw hb=>Gf hw.reads hb hw.pos
 | _,_,_,.more hw hb hc hl=>Gi hw.reads hb hc hl hl.reads hw.pos
theorem WO.reads:∀{d:Nat} {t:List UInt8} {ms:List (BY×V)},WO d t ms->PO d t ms
 | _,_,_,.last hn hb hc hw he=>Gg hn hb hc hw hw.reads he
 | _,_,_,.more hn hb hc hw he hg ho=>Gj hn hb hc hw hw.reads he hg ho ho.reads
end
theorem FU{t:List UInt8}{v:V}(h:W 1 t v):xI t = .ok v t.length:=by
 obtain⟨c,r,rfl,b,_⟩:=h.head;have a:At (c::r) 0 (c::r) []:=by unfold At;simp
 have e:skip (c::r) 0=0:=skip_none _ _ (by rw[a.hd];exact b);have f:=h.reads (c::r) [] 0 (2*(c::r).length+1) a (by omega);unfold xI;rw[e,f];simp only[Nat.zero_add];have d:skip (c::r) (c::r).length=(c::r).length:=skip_none _ _ (by rw[Y5 _ _ (by omega)];decide);rw[d,if_neg (by omega)]
end Rd
namespace Kp
open Rd Ref
def bl(b:BY):List UInt8:=b.data.toList
theorem YA(a b:BY):bl (a++b)=bl a++bl b:=by unfold bl;simp[ByteArray.data_append]
theorem nD{b:UInt8}(h:32<=b.toNat/\b.toNat<128/\b.toNat≠34/\b.toNat≠92):UK [b] ⟨#[b]⟩:=by
 refine⟨by simp,?_,λl p r a=>?_⟩
 ·simp only[List.head?_cons,ne_eq,Option.some.injEq];intro e;rw[e] at h;exact h.2.2.1 rfl
 ·have c:=a.hd;unfold xU;simp only;rw[c,if_neg (by omega),if_neg h.2.2.2,if_pos (by omega)]
  have:one ((b.toNat:Nat):Int)=⟨#[b]⟩:=by
   unfold one
   simp
  rw[this]
  rfl
theorem qN:Blanks []:=λ_ h=>by simp at h
def y5(l:List BY)(a:Int):V:=if l.length=1/\bit a 32=true then .str (l.getD 0 ⟨#[]⟩) else .list (l.map .str)
def Qv:List UInt8->Bool
 | []=>true
 | [b]=>decide (32<=b.toNat/\b.toNat<128/\b.toNat≠34/\b.toNat≠92)
 | b::c::t=>(b==195&&c==169&&Qv t)||(decide (32<=b.toNat/\b.toNat<128/\b.toNat≠34/\b.toNat≠92)&&Qv (c::t))
theorem Ug{t:List UInt8}(h:∀b ∈ t,32<=b.toNat/\b.toNat<128/\b.toNat≠34/\b.toNat≠92):jW t ⟨⟨t⟩⟩:=by
 induction t with
 | nil=>exact .nil
 | cons b t c=>
  have:=jW.char (nD (h b (by simp))) (c (λx a=>h x (by simp[a])))
  have e:(⟨#[b]⟩:BY)++⟨⟨t⟩⟩=⟨⟨b::t⟩⟩:=by apply ByteArray.ext;simp[ByteArray.data_append]
  rw[e] at this;exact this
def xA(t:List UInt8):Prop:=∀b ∈ t,32<=b.toNat/\b.toNat<128/\b.toNat≠34/\b.toNat≠92
instance (t:List UInt8):Decidable (xA t):=by unfold xA;infer_instance
theorem Ui{d:Nat}{t:List UInt8}(h:xA t):W d (34::(t++[34])) (.str ⟨⟨t⟩⟩):=W.str (Ug h)
theorem XW{d:Nat}{n t e:List UInt8}{v:V}(f:xA n)(g:W (d+1) t v)(a:Blanks e):WO d (34::(n++34::58::(t++(e++[125])))) [(⟨⟨n⟩⟩,v)]:=by
 have:=WO.last (d:=d) (Ug f) (b:=[]) (c:=[]) qN qN g a
 simpa only[List.append_assoc,List.cons_append,List.nil_append] using this
theorem bT{d:Nat}{n t e g a:List UInt8}{v:V}{ms:List (BY×V)}(i:xA n)(k:W (d+1) t v)(f:Blanks e)(h:Blanks g)(j:WO d a ms):WO d (34::(n++34::58::(t++(e++44::(g++a))))) ((⟨⟨n⟩⟩,v)::ms):=by
 have:=WO.more (d:=d) (Ug i) (b:=[]) (c:=[]) qN qN k f h j
 simpa only[List.append_assoc,List.cons_append,List.nil_append] using this
theorem ZN{l:List BY}{k:Nat}(h:k<l.length):l.getD k ⟨#[]⟩ ∈ l:=by
 rw[List.getD_eq_getElem?_getD,List.getElem?_eq_getElem h];exact List.getElem_mem _
def U9:BY:=⟨#[97,98,115,101,110,116]⟩
def Ka:BY:=⟨#[108,105,107,101]⟩
def Yw:BY:=⟨#[115,97,109,101]⟩
def XC:BY:=⟨#[98,101,108,111,119]⟩
def QO:BY:=⟨#[117,110,100,101,114]⟩
def xm:BY:=⟨#[97,108,108,111,119]⟩
def yu:BY:=⟨#[100,101,110,121]⟩
end Kp
namespace Rd
open Ref
end Rd
namespace Kp
open Rd Ref
theorem YQ{l:List Nat}(h:∀c ∈ l,c=0):zN l=0:=by
 unfold zN
 have b:l.any (λc=>c==1)=false:=by
  rw[List.any_eq_false];intro c a;rw[h c a]
  decide
 have d:l.any (λc=>c==2)=false:=by
  rw[List.any_eq_false];intro c a;rw[h c a]
  decide
 rw[b,d]
 rfl
theorem Y1{c:Option V->Nat}{l:List BY}(d:Int)(g:1<=l.length)(h:l.length<=10)(b:∀s ∈ l,c (some (.str s))=0):zZ c (some (y5 l d))=0:=by
 unfold y5
 by_cases e:l.length=1/\bit d 32=true
 ·rw[if_pos e];show zN [c (some (.str (l.getD 0 ⟨#[]⟩)))]=0;refine YQ (λx a=>?_);rw[List.mem_singleton] at a;subst a;exact b _ (ZN (by omega))
 ·rw[if_neg e];show (if (l.map V.str).length<1\/10<(l.map V.str).length then 1 else zN ((l.map V.str).map λv=>c (some v)))=0
  rw[List.length_map,if_neg (by omega)];refine YQ (λx a=>?_);rw[List.map_map] at a;obtain⟨s,f,rfl⟩:=List.mem_map.1 a;exact b s f
theorem eH{s:BY}(h:qf s=true):qZ (some (.str s))=0:=by
 show cls false (!qf s)=0;rw[h];rfl
theorem Yd{f:BY->Bool}{s:BY}(h:f s=true):zI f (some (.str s))=0:=by
 show cls (!f s) false=0;rw[h];rfl
end Kp
end Go.Proofs.YtdakgnaojakldaaGreatDoor
namespace Go.Proofs.YtdakgnaojakldaaGreatDoor
open Go.RowKit
end Go.Proofs.YtdakgnaojakldaaGreatDoor
namespace Go.Proofs.YtdakgnaojakldaaGreatDoor
open laws Go.ChangeShapes Go.WideShapes Go.ChangeAt Go.RowKit Go.Joins Go.Deep
theorem wf_i64{n:Int}(h:(Lit.int .i64 n).wf=true):I64 n:=by
 have a:(decide (IntKind.min .i64<=n)&&decide (n<=IntKind.max .i64))=true:=h;rw[Bool.and_eq_true,decide_eq_true_eq,decide_eq_true_eq] at a;exact a
instance:Inhabited Kp.yT:=⟨Kp.Gz⟩
section
variable {H:Type} {enc:TypeId×Value->H} {w:World} {spare:Nat->Bool} {held:Bool}
theorem plain_of_cell{w:World}{a:Addr}{v:Value}(h:w.cell? (a.add 0)=some v):∃b o,a=⟨b,o,none⟩:=by
 obtain⟨b,o,s⟩:=a;have c:w.cell? ⟨b,o,s⟩=some v:=h
 cases s with
 | none=>exact⟨b,o,rfl⟩
 | some x=>
  unfold World.cell? at c
  split at c
  ·simp at c
  ·cases c
theorem AX{fuel:Nat}{v:Value}{x:DataW H×List MemPlace}(h:DataW.trod enc prog w 0 spare held fuel 30 [v]=some x)(j:∀b,spare b=true):∃l:List Int,l.length<=maxLen/\IntsIn w v l:=by
 rcases open_ints underlying30 underlying3 (by kernel_rfl) h with ⟨e,_⟩|⟨a,len,cap,zs,e,_,hl,hmx,hzl,_,hcell,hwf⟩
 ·simp only[List.cons.injEq,and_true] at e;subst e;exact⟨[],by simp,AR w⟩
 ·simp only[List.cons.injEq,and_true] at e;subst e;rw[j,if_pos rfl] at hzl;refine⟨zs.take len,by rw[List.length_take];omega,some a,cap,by rw[List.length_take,Nat.min_eq_left (by omega)],λk x c=>?_⟩;have i:k<(zs.take len).length:=(List.getElem?_eq_some_iff.1 c).1;rw[List.length_take] at i;have d:zs[k]?=some x:=by rw[List.getElem?_take] at c;split at c;exact c;cases c
  have f:x ∈ zs:=List.mem_of_getElem? d;obtain⟨b,o,rfl⟩:=plain_of_cell (hcell 0 (by omega));have g:=hcell k (by omega);rw[addr_add,List.getD_eq_getElem?_getD,d] at g;exact⟨wf_i64 (hwf x f),b,o,rfl,g⟩
end
end Go.Proofs.YtdakgnaojakldaaGreatDoor
namespace Go.Proofs.YtdakgnaojakldaaGreatDoor
open laws Go.ChangeShapes Go.WideShapes Go.ChangeAt Go.RowKit Go.Joins Go.Deep
theorem Ma{H:Type}{enc:TypeId×Value->H}{P:Program}{w:World}{base:Nat}{spare:Nat->Bool}{held:Bool}{R S T U V W X Y Z t9 t10 t11:TypeId}{args:Array Value}{M:List (DataW H)}{Q:List MemPlace}(h:DataW.TrodAll enc P w base spare held [R,S,T,U,V,W,X,Y,Z,t9,t10,t11] args.toList M Q) :
  ∃y z A B C D E F G I v10 v11 c d e f g i j k l m d10 d11 n o p q r s t u v x a b,args=#[y,z,A,B,C,D,E,F,G,I,v10,v11]/\M=[c,d,e,f,g,i,j,k,l,m,d10,d11]/\Q=n++o++p++q++r++s++t++u++v++x++a++b/\DataW.Trod enc P w base spare held R y c n/\DataW.Trod enc P w base spare held S z d o/\DataW.Trod enc P w base spare held T A e p/\DataW.Trod enc P w base spare held U B f q/\DataW.Trod enc P w base spare held V C g r/\DataW.Trod enc P w base spare held W D i s/\DataW.Trod enc P w base spare held X E j t/\DataW.Trod enc P w base spare held Y F k u/\DataW.Trod enc P w base spare held Z G l v/\DataW.Trod enc P w base spare held t9 I m x/\DataW.Trod enc P w base spare held t10 v10 d10 a/\DataW.Trod enc P w base spare held t11 v11 d11 b:=by
 obtain⟨y,e4,c,a3,n,q0,J,rfl,rfl,g0,r0⟩:=trodAll_cons h;obtain⟨z,e5,d,a4,o,q1,rfl,rfl,rfl,g1,r1⟩:=trodAll_cons r0;obtain⟨A,e6,e,a5,p,q2,rfl,rfl,rfl,g2,r2⟩:=trodAll_cons r1;obtain⟨B,e7,f,a6,q,q3,rfl,rfl,rfl,g3,r3⟩:=trodAll_cons r2;obtain⟨C,e8,g,a7,r,q4,rfl,rfl,rfl,g4,r4⟩:=trodAll_cons r3;obtain⟨D,e9,i,a8,s,q5,rfl,rfl,rfl,g5,r5⟩:=trodAll_cons r4;obtain⟨E,f0,j,a9,t,q6,rfl,rfl,rfl,g6,r6⟩:=trodAll_cons r5;obtain⟨F,f1,k,b0,u,q7,rfl,rfl,rfl,g7,r7⟩:=trodAll_cons r6;obtain⟨G,f2,l,b1,v,q8,rfl,rfl,rfl,g8,r8⟩:=trodAll_cons r7;obtain⟨I,f3,m,b2,x,q9,rfl,rfl,rfl,g9,r9⟩:=trodAll_cons r8;obtain⟨v10,a1,d10,N,a,c3,rfl,rfl,rfl,g10,K⟩:=trodAll_cons r9;obtain⟨v11,a2,d11,O,b,c4,rfl,rfl,rfl,g11,L⟩:=trodAll_cons K;obtain⟨rfl,rfl,rfl⟩:=trodAll_nil L;exact⟨y,z,A,B,C,D,E,F,G,I,v10,v11,c,d,e,f,g,i,j,k,l,m,d10,d11,n,o,p,q,r,s,t,u,v,x,a,b,by cases args;simp_all,rfl,by simp,g0,g1,g2,g3,g4,g5,g6,g7,g8,g9,g10,g11⟩
namespace Ref
def hexDigits:BY:=⟨#[48,49,50,51,52,53,54,55,56,57,97,98,99,100,101,102]⟩
def sw(s o:BY)(i:Nat)(c:Int):BY:=
 if c=34\/c=92 then o++⟨#[92]⟩++s.extract i (i+1)
 else if c=10 then o++⟨#[92,110]⟩
 else if c=9 then o++⟨#[92,116]⟩
 else if c<32 then o++⟨#[92,117,48,48]⟩++hexDigits.extract (c / 16).toNat ((c / 16).toNat+1)++hexDigits.extract (c % 16).toNat ((c % 16).toNat+1)
 else o++s.extract i (i+1)
def fG(s:BY):Nat->BY
 | 0=>⟨#[34]⟩
 | k+1=>sw s (fG s k) k ((s.data.toList.getD k 0).toNat:Int)
def x9(s:BY):BY:=fG s s.size++⟨#[34]⟩
def Zn(l:List BY):Nat->BY
 | 0=>⟨#[91]⟩
 | k+1=>(if 0<k then Zn l k++⟨#[44]⟩ else Zn l k)++x9 (l.getD k ⟨#[]⟩)
def QX(l:List BY):BY:=Zn l l.length++⟨#[93]⟩
def XG(c:Bool×List BY):BY:=if c.1 then ⟨#[123,34,110,111,116,34,58]⟩++QX c.2++⟨#[125]⟩ else QX c.2
def KA(o:BY)(c:qH):BY:=o++⟨#[123,34,111,112,34,58]⟩++x9 c.op++⟨#[44,34,107,101,121,34,58]⟩++x9 c.key
def KH(o:BY)(c:qH):BY:=if zX c.op then o else o++⟨#[44,34,118,97,108,117,101,34,58]⟩++QX c.vals
def KD(o:BY)(c:qH):BY:=if c.no then o++⟨#[44,34,110,111,34,58,116,114,117,101]⟩ else o
def J3(o:BY)(c:qH):BY:=KD (KH (KA o c) c) c++⟨#[125]⟩
def comma(o:BY)(k:Nat):BY:=if 0<k then o++⟨#[44]⟩ else o
def YF(l:List qH):Nat->BY
 | 0=>⟨#[]⟩
 | k+1=>J3 (comma (YF l k) k) (l.getD k xZ)
def J4(l:List qH):BY:=YF l l.length
def gP(o:BY)(s:Rd.qm):BY:=o++⟨#[123,34,101,102,102,101,99,116,34,58]⟩++x9 s.eff++⟨#[44,34,119,104,111,34,58]⟩++XG s.who++⟨#[44,34,100,111,34,58]⟩++XG s.act++⟨#[44,34,111,110,34,58]⟩++XG s.on
def gQ(o:BY)(s:Rd.qm):BY:=if 0<s.cs.length then o++⟨#[44,34,105,102,34,58,91]⟩++J4 s.cs++⟨#[93]⟩ else o
def Uc(o:BY)(s:Rd.qm):BY:=gQ (gP o s) s++⟨#[125]⟩
def Ji(l:List Rd.qm):Nat->BY
 | 0=>⟨#[123,34,115,116,97,116,101,109,101,110,116,34,58,91]⟩
 | k+1=>Uc (comma (Ji l k) k) (l.getD k Rd.jo)
def Qv(l:List Rd.qm):BY:=Ji l l.length++⟨#[93,125]⟩
def Yr(c:qH):Prop:=c.op.size<=12000/\c.key.size<=12000/\c.vals.length<=10/\∀s ∈ c.vals,s.size<=12000
def kY(l:List BY):Prop:=l.length<=10/\∀s ∈ l,s.size<=12000
structure QN (s:Rd.qm):Prop where
 eff:s.eff.size<=12000
 who:kY s.who.2
 act:kY s.act.2
 on:kY s.on.2
 len:s.cs.length<=5
 cs:∀c ∈ s.cs,Yr c
end Ref
end Go.Proofs.YtdakgnaojakldaaGreatDoor
