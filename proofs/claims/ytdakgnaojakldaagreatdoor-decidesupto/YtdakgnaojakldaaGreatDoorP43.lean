/- P -/
import Derived.Lib.ValidLaws
import Derived.Test.YtdakgnaojakldaaGreatDoorP42
import Derived.Shelf.Unicode.ValidAny
import Derived.Maps.AppendAt
open Go.Proofs.Tryz
set_option maxRecDepth 100000
set_option maxHeartbeats 1000000
namespace Go.Proofs.YtdakgnaojakldaaGreatDoor
namespace Pg
open Ref
theorem zcR(f:Nat)(s:BY)(h:s.size<f):(jq f s).isSome=Lib.validD s.data.toList:=by
 induction f generalizing s with
 | zero=>omega
 | succ f c=>
  rw[jq]
  by_cases h0:s.size=0
  ·rw[zb h0]
   have:s.data.toList=[]:=Yu (by rw[zD];exact h0)
   rw[this];rfl
  ·rw[za h0];have a:s.data.toList≠[]:=λe=>h0 (by rw[<- zD,e];rfl);rw[Lib.validD_step _ a];have b:Lib.decodeL s.data.toList=Utf8.decode s 0:=rfl;rw[b]
   rcases Uk s (by omega) with ⟨ho,e⟩|⟨ho,hc,e,hn⟩
   ·rw[zb ho,e];simp
   ·rw[e,za hn,za (by rw[ho];decide),Option.isSome_map];have d:=YF s (by omega);rw[c _ (by rw[yz];omega),Lib.ext_list]
theorem Gt(s:BY):Lib.validD s.data.toList=(chars s).isSome:=(zcR _ s (by omega)).symm
theorem Gn(f:Nat)(s:BY)(l:List BY)(h:jq f s=some l):∀c ∈ l,Qx c:=by
 induction f generalizing s l with
 | zero=>simp[jq] at h
 | succ f d=>
  rw[jq] at h
  by_cases h0:s.size=0
  ·rw[zb h0] at h;simp at h;subst h;simp
  ·rw[za h0] at h
   rcases Uk s (by omega) with ⟨ho,e⟩|⟨ho,hc,e,hn⟩
   ·rw[zb ho] at h;simp at h
   ·rw[za (by rw[ho];decide)] at h;obtain⟨r,b,rfl⟩:=vU.1 h;intro c a
    rcases kR.1 a with rfl|a
    ·exact hc
    ·exact d _ _ b c a
theorem og(s:BY):∀c ∈ (chars s).getD [],Qx c:=by
 cases h:chars s with
 | none=>simp
 | some l=>exact Gn _ _ _ h
theorem IG(s:BY)(i:Nat):Utf8.decode s i=Utf8.decode (s.extract i s.size) 0:=by
 rw[Lib.decode_at,Lib.decode_at];simp only[rX,Lib.ext_list,Nat.sub_zero,qN,yz,Nat.min_self]
 have e:∀j,(s.data.toList.drop i).getD j 0=s.data.toList.getD (i+j) 0:=by
  intro j;simp[List.getD]
 simp only[e,ZP]
def XA(c:BY):Value := .int .i32 ((vO c:Nat):Int)
theorem zaO(f bound i:Nat)(s:BY)(acc:Array Value)(l:List BY)(a:jq f (s.extract i s.size)=some l)(hb:s.size-i<=bound) :
  Conv.runesFrom s bound i acc=acc++(l.map XA).toArray:=by
 induction f generalizing bound i acc l with
 | zero=>simp[jq] at a
 | succ f j=>
  rw[jq] at a;have c:(s.extract i s.size).size=s.size-i:=by rw[yz];omega
  by_cases h0:s.size-i=0
  ·rw[zb (by rw[c];exact h0)] at a;simp at a;subst a
   cases bound with
   | zero=>simp[Conv.runesFrom]
   | succ b=>unfold Conv.runesFrom;rw[za (by omega)];simp
  ·rw[za (by rw[c];exact h0)] at a
   rcases Uk (s.extract i s.size) (by omega) with ⟨ho,e⟩|⟨ho,hc,e,hn⟩
   ·rw[zb ho] at a;simp at a
   ·rw[za (by rw[ho];decide)] at a;obtain⟨r,d,rfl⟩:=vU.1 a;have g:=YF (s.extract i s.size) (by omega);obtain⟨b,rfl⟩:∃b,bound=b+1:=⟨bound-1,by omega⟩;unfold Conv.runesFrom;rw[zb (by omega),IG,e]
    have h:(s.extract i s.size).extract (zZ (s.extract i s.size)).size (s.extract i s.size).size=s.extract (i+(zZ (s.extract i s.size)).size) s.size:=by
     rw[bG,c];have e:min (i+(s.size-i)) s.size=s.size:=by omega
     rw[e]
    rw[h] at d;simp only;rw[j b (i+(zZ (s.extract i s.size)).size) _ r d (by omega)];rw[Array.push_eq_append,Array.append_assoc];congr 1;simp[XA]
theorem zaN(s:BY)(h:(chars s).isSome=true):Conv.runesFrom s s.size 0 #[]=(((chars s).getD []).map XA).toArray:=by
 obtain⟨l,a⟩:=bV.1 h;rw[a];have e:s.extract 0 s.size=s:=by simp
 have:=zaO (s.size+1) s.size 0 s #[] l (by rw[e];exact a) (by omega)
 rw[this];simp
end Pg
end Go.Proofs.YtdakgnaojakldaaGreatDoor
namespace Go.Proofs.YtdakgnaojakldaaGreatDoor
open Go.RowKit
theorem zcQ(s:BY)(w:World)(b:s.size<=maxLen)(a:kW w) :
  Calls prog 139 #[.string s] w λe w'=>e = .returned (.bool (Ref.chars s).isSome)/\Below w.heap.size w w':=by
 have c:=Any.utf8_ValidString Tryz.lays196 s w (by unfold maxLen at b;omega) a;rw[Pg.Gt] at c;exact c
theorem Pq(s:BY)(w:World)(b:s.size<=maxLen)(f:kW w) :
  Calls prog 86 #[.string s] w λe w'=>e = .returned (.bool (Ref.yT s))/\Below w.heap.size w w':=by
 have c:=zcQ s w b f;unfold Ref.yT;generalize (Ref.chars s).isSome=V at c |-;unfold maxLen at b
 by_cases h:s.size<=100
 ·have d:decide ((s.size:Int)<=100)=true:=zy (by omega);rw[zy h];go_enter func86,ntmps86
  go_wp2_with (go_at_call 139;refine c.mono ?_;rintro e w' ⟨rfl,a⟩)
  go_ret;exact⟨by simp,a⟩
 ·have d:decide ((s.size:Int)<=100)=false:=zJ (by omega);rw[zJ h];go_enter func86,ntmps86
  go_wp2
  go_ret;exact⟨by simp,ze _ _⟩
theorem KW(s:BY)(b:Bool)(hb:Ref.yT s=b)(c:s.size<=maxLen):∀w,kW w ->
  Calls prog 86 #[.string s] w λe w'=>e = .returned (.bool b)/\Below w.heap.size w w':=by
 subst hb;exact λw a=>Pq s w c a
theorem Pf(m:BY×BY)(w:World)(i:m.1.size<=maxLen)(j:m.2.size<=maxLen)(k:kW w) :
  Calls prog 88 #[QT m] w λe w'=>e = .returned (.bool (Ref.jP m))/\Below w.heap.size w w':=by
 obtain⟨a,v⟩:=m;unfold QT;simp only at i j |-;generalize b:Ref.jP (a,v)=M;unfold Ref.jP at b;simp only at b;have b0:=λO=>nbl w O
 cases d1:a.toList==[119,104,111] with
 | true=>
  have e:M=false:=by rw[<- b,d1];simp
  subst e;clear b;go_enter func88,ntmps88
  go_wp2
  go_ret;exact⟨rfl,b0 _⟩
 | false=>
 cases d2:a.toList==[100,111] with
 | true=>
  have e:M=false:=by rw[<- b,d2];simp
  subst e;clear b;go_enter func88,ntmps88
  go_wp2
  go_ret;exact⟨rfl,b0 _⟩
 | false=>
 cases d3:a.toList==[111,110] with
 | true=>
  have e:M=false:=by rw[<- b,d3];simp
  subst e;clear b;go_enter func88,ntmps88
  go_wp2
  go_ret;exact⟨rfl,b0 _⟩
 | false=>
 rw[d1,d2,d3] at b;have d:=λW=>KT a W i
 cases hn:Ref.zX a with
 | false=>
  have e:M=false:=by rw[<- b,hn];simp
  subst e;rw[hn] at d;clear b hn;go_enter func88,ntmps88
  go_wp2_with (go_at_call 82;refine (d _).mono ?_;rintro e w' ⟨rfl,c⟩)
  go_ret;exact⟨rfl,(b0 _).trans (c.mono (by simp))⟩
 | true=>
  have h:=KW v _ rfl j;have e:M=Ref.yT v:=by rw[<- b,hn];simp
  rw[<- e] at h;rw[hn] at d;clear b hn e;go_enter func88,ntmps88
  go_wp2_with (first
   | (go_at_call 82;refine (d _).mono ?_;rintro e w' ⟨rfl,c⟩;obtain⟨l,n⟩:=yN c;have o:w.heap.size<w'.heap.size:=by (have:=c.size;simp at this;omega))
   | (go_at_call 86;refine (h _ (k.below ((b0 _).trans (c.mono (by simp))))).mono ?_;rintro e p ⟨rfl,f⟩))
  have g:Below w.heap.size w w':=(b0 _).trans (c.mono (by simp));go_ret;exact⟨rfl,g.trans (f.mono g.size)⟩
theorem Ei(ms:List (BY×BY))(f:BY×BY->Bool):uT (λj=>f (Zc ms j)) ms.length=ms.all f:=by
 unfold uT;rw[kL,ZM,ZM]
 constructor
 ·intro h c d;obtain⟨j,b,rfl⟩:=bR.1 d
  have:=h j (jW.2 b)
  rwa [Ju ms j b] at this
 ·intro h j b;have a:=jW.1 b;rw[Ju ms j a];exact h _ (qA a)
theorem Eh(ms:List (BY×BY))(ao:Option Addr)(cap:Nat)(w:World)(g:ms.length<=100000000000)(b:∀j,j<ms.length->(Zc ms j).1.size<=maxLen/\(Zc ms j).2.size<=maxLen)(f:qQ w ao ms)(d:kW w) :
  Calls prog 87 #[.slice ao ms.length cap,.func (.func 88) #[] #[]] w λe w'=>e = .returned (.bool (ms.all Ref.jP))/\Below w.heap.size w w':=by
 have c:=Ep ms ao cap 88 #[] (λj=>Ref.jP (Zc ms j)) w g (enters_of func88 (by kernel_rfl) rfl) f
  (λW j a hb=>Pf (Zc ms j) W (b j a).1 (b j a).2 (d.below hb))
 rw[Ei] at c;exact c
theorem MQ(p:Nat->Bool)(n k:Nat)(h:zx p n=some k):k<n/\p k=true/\∀j,j<k->p j=false:=by
 unfold zx at h;rw[VT] at h;obtain⟨a,b,c⟩:=h;exact⟨by simpa using b,a,λj d=>by simpa using c j d⟩
theorem MP(p:Nat->Bool)(n:Nat)(h:zx p n=none):∀j,j<n->p j=false:=by
 unfold zx at h;rw[Yv] at h;intro j a
 simpa using h j (jW.2 a)
theorem zaR(m:BY×BY)(name:BY)(B:Nat)(w:World)(b:w.cell? ⟨B,0,none⟩=some (.string name)) :
  Calls prog 241 #[QT m,.pointer (some ⟨B,0,none⟩)] w λe w'=>e = .returned (.bool (m.1.toList==name.toList))/\Below w.heap.size w w':=by
 obtain⟨a,v⟩:=m;unfold QT;simp only;have q:=λO:Obj=>zh (nbl w O) b;go_enter func241,ntmps241
 go_wp2
 go_ret;exact⟨rfl,nbl w _⟩
theorem zaS(r:Ref.Req)(name:BY)(ao:Option Addr)(cap:Nat)(w:World)(u:r.marks.length<=100000000000)(q:qQ w ao r.marks) :
  Calls prog 216 #[Ref.zY r ao cap,.string name] w λe w'=>
   e = .returned (.tuple #[.string ((Ref.says r name).getD ⟨#[]⟩),.bool (Ref.says r name).isSome])/\Below w.heap.size w w':=by
 obtain⟨who,act,on,ms⟩:=r;generalize a:Ref.says ⟨who,act,on,ms⟩ name=P at *;unfold Ref.says at a;simp only at a u q;unfold Ref.zY;simp only;have g:=λl m=>(nbl w l).alloc (by simp) m
 cases c1:name.toList==[119,104,111] with
 | true=>
  rw[zb c1] at a;subst a;go_enter func216,ntmps216
  go_wp2
  go_ret2;exact⟨rfl,g _ _⟩
 | false=>
 rw[za (by simp[c1])] at a
 cases c2:name.toList==[100,111] with
 | true=>
  rw[zb c2] at a;subst a;go_enter func216,ntmps216
  go_wp2
  go_ret2;exact⟨rfl,g _ _⟩
 | false=>
 rw[za (by simp[c2])] at a
 cases c3:name.toList==[111,110] with
 | true=>
  rw[zb c3] at a;subst a;go_enter func216,ntmps216
  go_wp2
  go_ret2;exact⟨rfl,g _ _⟩
 | false=>
 rw[za (by simp[c3])] at a
 have c:=λl m v=>rO ms ao cap 241 #[.pointer (some ⟨w.heap.size+1,0,none⟩)] (λj=>(Zc ms j).1.toList==name.toList) ((w.alloc l).alloc m) u
  (enters_of func241 (by kernel_rfl) rfl) (xB q (g l m))
  (λW j _ hb=>zaR (Zc ms j) name (w.heap.size+1) W (zh hb v))
 obtain⟨F,hF⟩:=Nm (zx (λj=>(Zc ms j).1.toList==name.toList) ms.length);simp only[hF] at c
 cases F with
 | none=>
  have e:=Ref.wC ms name ms.length (by omega) (λj _ t=>by have:=MP _ _ hF j t;rwa [Ju ms j t] at this);rw[e] at a;subst a;simp only[QF,kS] at c;clear hF e;go_enter func216,ntmps216
  go_wp2_with (go_at_call 188;refine (c _ _ (by simp)).mono ?_;rintro e w' ⟨rfl,d⟩)
  go_ret2;exact⟨rfl,(g _ _).trans (d.mono (by simp;omega))⟩
 | some k=>
  obtain⟨p,f,h⟩:=MQ _ _ _ hF;rw[Ju ms k p] at f;have e:=Ref.wz ms name k p (λj x=>by have:=h j x;rwa [Ju ms j (by omega)] at this) f;rw[e] at a;subst a;simp only[yB,uw] at c
  rcases q with rfl|⟨b,o,rfl,hc⟩
  ·simp at p
  obtain⟨z,q2⟩:=hc k p;obtain⟨D,i⟩:∃n,ms[k].2=n:=⟨_,rfl⟩;rw[i] at q2 |-;have y:(k:Int)<(ms.length:Int):=by omega
  clear hF e f h hc z i;go_enter func216,ntmps216
  go_wp2_with (go_at_call 188;refine (c _ _ (by simp)).mono ?_;rintro e w' ⟨rfl,d⟩;obtain⟨A,B⟩:=yN d;have s:Below w.heap.size w w':=(g _ _).trans (d.mono (by simp;omega));have C:=zh s q2)
  go_ret2;exact⟨rfl,s⟩
theorem SE(r:Ref.Req)(name:BY)(ao:Option Addr)(cap B:Nat)(w:World)(i:r.marks.length<=100000000000)(h:qQ w ao r.marks)
  (b:w.cell? ⟨B,0,none⟩=some (.string r.who))(d:w.cell? ⟨B,1,none⟩=some (.string r.act))(f:w.cell? ⟨B,2,none⟩=some (.string r.on))(g:w.cell? ⟨B,3,none⟩=some (.slice ao r.marks.length cap)) :
  Calls prog 215 #[.string name,.pointer (some ⟨B,0,none⟩)] w λe w'=>
   e = .returned (.tuple #[.string ((Ref.says r name).getD ⟨#[]⟩),.bool (Ref.says r name).isSome])/\Below w.heap.size w w':=by
 have c:=zaS r name ao cap w i h;obtain⟨who,act,on,ms⟩:=r;unfold Ref.zY at c;simp only at c b d f g;generalize Ref.says ⟨who,act,on,ms⟩ name=P at c;go_enter func215,ntmps215
 go_wp2_with (go_at_call 216;refine c.mono ?_;rintro e w' ⟨rfl,a⟩)
 go_ret2;exact⟨rfl,a⟩
theorem zaQ(r:Ref.Req)(ao:Option Addr)(cap:Nat)(w:World) :
  Calls prog 175 #[Ref.zY r ao cap] w λe w'=>
   e = .returned (.func (.func 215) #[] #[.pointer (some ⟨w.heap.size,0,none⟩)])/\w'=w.alloc (.cells #[.string r.who,.string r.act,.string r.on,.slice ao r.marks.length cap] 53):=by
 obtain⟨who,act,on,ms⟩:=r;unfold Ref.zY;simp only;go_enter func175,ntmps175
 go_wp2
 go_ret;exact⟨rfl,rfl⟩
def Yg(w:World)(v:Value)(a:List (Int×BY)):Prop:=
 ∃ao cap,v = .slice ao a.length cap/\(a=[]\/∃b o,ao=some ⟨b,o,none⟩/\∀j,(h:j<a.length)->w.cell? ⟨b,o+j*2,none⟩=some (.int .i64 a[j].1)/\w.cell? ⟨b,o+j*2+1,none⟩=some (.string a[j].2))
def xW(w:World)(v:Value)(l:List BY):Prop:=
 ∃ao cap,v = .slice ao l.length cap/\(l=[]\/∃b o,ao=some ⟨b,o,none⟩/\∀j,(h:j<l.length)->w.cell? ⟨b,o+j,none⟩=some (.string l[j]))
theorem gW{w w':World}{v:Value}{c:List (Int×BY)}(h:Yg w v c)(hb:Below w.heap.size w w'):Yg w' v c:=by
 obtain⟨ao,cap,d,h⟩:=h;refine⟨ao,cap,d,?_⟩
 rcases h with h|⟨b,o,ha,hc⟩
 ·exact .inl h
 ·exact .inr ⟨b,o,ha,λj a=>⟨zh hb (hc j a).1,zh hb (hc j a).2⟩⟩
theorem uI{w w':World}{v:Value}{l:List BY}(h:xW w v l)(hb:Below w.heap.size w w'):xW w' v l:=by
 obtain⟨ao,cap,c,h⟩:=h;refine⟨ao,cap,c,?_⟩
 rcases h with h|⟨b,o,ha,hc⟩
 ·exact .inl h
 ·exact .inr ⟨b,o,ha,λj a=>zh hb (hc j a)⟩
theorem AU{w:World}{base:Nat}{e:TypeId}{v:Value}{n:Nat}{b:List (Int×BY)}(l:n=b.length)(h:w.ownsRow base e 2 v n (Ref.qK b)):Yg w v b:=by
 subst l;have a:=λg i=>h.cells (g:=g) i
 rcases h.2 with ⟨rfl,h0⟩|⟨g,cap,cur,rfl,_⟩
 ·exact⟨none,0,by rw[h0],.inl (Yu h0)⟩
 ·refine⟨_,cap,rfl,.inr ⟨g,0,rfl,λj k=>?_⟩⟩;have f:=Ref.gU b j k;have c:=a g rfl _ _ f.1;have d:=a g rfl _ _ f.2;rw[YB] at c d;exact⟨by rw[qN];exact c,by rw[qN];exact d⟩
theorem XG{w:World}{base:Nat}{e:TypeId}{v:Value}{n:Nat}{l:List BY}(f:n=l.length)(h:w.ownsRow base e 1 v n (Ref.strCells l)):xW w v l:=by
 subst f;have a:=λg c=>h.cells (g:=g) c
 rcases h.2 with ⟨rfl,h0⟩|⟨g,cap,cur,rfl,_⟩
 ·exact⟨none,0,by rw[h0],.inl (Yu h0)⟩
 ·refine⟨_,cap,rfl,.inr ⟨g,0,rfl,λj d=>?_⟩⟩;have i:=Ref.zb2 l j d;have b:=a g rfl _ _ i;rw[YB] at b;rw[qN];exact b
def jm(w:World)(b:Nat)(r:Ref.Req)(ao:Option Addr)(cap:Nat):Prop:=
 w.cell? ⟨b,0,none⟩=some (.string r.who)/\w.cell? ⟨b,1,none⟩=some (.string r.act)/\w.cell? ⟨b,2,none⟩=some (.string r.on)/\w.cell? ⟨b,3,none⟩=some (.slice ao r.marks.length cap)
theorem Zt{w w':World}{b:Nat}{r:Ref.Req}{ao:Option Addr}{cap:Nat}(h:jm w b r ao cap)(hb:Below w.heap.size w w'):jm w' b r ao cap:=
 ⟨zh hb h.1,zh hb h.2.1,zh hb h.2.2.1,zh hb h.2.2.2⟩
theorem FK{w w':World}{b:Nat}{r:Ref.Req}{ao:Option Addr}{cap:Nat}{row:Option Nat}(h:jm w b r ao cap)(f:w.grownBy w' row)(d:row≠some b):jm w' b r ao cap:=by
 have hb:b<w.heap.size:=Qe _ _ h.1;have e:=f.block b hb (λe=>d e.symm);have c:∀o,w'.cell? ⟨b,o,none⟩=w.cell? ⟨b,o,none⟩:=λo=>QH (w:=w) (a:=⟨b,o,none⟩) e;exact⟨(c 0).trans h.1,(c 1).trans h.2.1,(c 2).trans h.2.2.1,(c 3).trans h.2.2.2⟩
theorem zce{w w':World}{d:Option Addr}{n cap:Nat}{l:List BY}{row:Option Nat}(h:xW w (.slice d n cap) l)(p:w.grownBy w' row)(f:∀g,row=some g->∀k,d=some k->k.block≠g) :
  xW w' (.slice d n cap) l:=by
 obtain⟨ao,c,i,h⟩:=h;refine⟨ao,c,i,?_⟩;simp only[Value.slice.injEq] at i;obtain⟨rfl,rfl,rfl⟩:=i
 rcases h with h|⟨b,o,rfl,hc⟩
 ·exact .inl h
 ·refine .inr ⟨b,o,rfl,λj m=>?_⟩;have hb:b<w.heap.size:=Qe _ _ (hc j m);have e:=p.block b hb (λe=>f b e.symm ⟨b,o,none⟩ rfl rfl);exact (QH (w:=w) (a:=⟨b,o+j,none⟩) e).trans (hc j m)
theorem nJ{wr w1:World}{b:Nat}{e:TypeId}{size:Nat}{v:Value}{n:Nat}{xs:List Value}{r:Ref.Req}{ao:Option Addr}{cap:Nat}(c:jm wr b r ao cap)(d:wr.ownsRow (b+1) e size v n xs)(a:Obj)
  (f:(wr.alloc a).grownBy w1 v.ownBlock):jm w1 b r ao cap:=
 FK (Zt c (nbl _ a)) f (λe=>by have:=(d.lt b e).1;omega)
theorem Rv(r:Ref.Req)(d:List (Int×BY))(lv:Value)(ao:Option Addr)(cap:Nat)(w:World)(hm:qQ w ao r.marks)(hl:Yg w lv d)(g8:d.length<=60)(g7:r.marks.length<=10)
  (H:∀n v,Ref.says r n=some v->v.size<=100) :
  Calls prog 220 #[lv,Ref.zY r ao cap] w λe w'=>∃v,e = .returned (.tuple #[v,.bool (Ref.laid r d).isSome])/\Below w.heap.size w w' /\
   w'.ownsRow w.heap.size 368 2 v ((Ref.laid r d).getD []).length (Ref.qK ((Ref.laid r d).getD []))/\((Ref.laid r d).getD []).length<=6000:=by
 obtain⟨i0,hi,c3,c4,c5⟩:=xA Tryz.infoPart;have hP:Ref.laid r d=(Ref.laid r (d.drop 0)).map λb=>[]++b:=by simp
 generalize d6:Ref.laid r d=P at *;clear d6;have HP:=hid hP;have HS:=hid H;clear hP H;obtain⟨lo,J,rfl,hl⟩:=hl;have c1:Yg w (.slice lo d.length J) d:=⟨lo,J,rfl,hl⟩;clear hl;have HL:=hid c1;have HM:=hid hm;clear c1 hm;unfold Ref.zY;go_enter func220,ntmps220
 go_wp2
 go_loopw [6,7] (λov iv wr=>∃(k:Nat) (done:List (Int×BY)),k<=d.length/\iv = .int .i64 k/\P=((Ref.laid r (d.drop k)).map λb=>done++b)/\done.length<=100*k /\
   wr.ownsRow (w.heap.size+1) 368 2 ov done.length (Ref.qK done)/\Below w.heap.size w wr/\jm wr w.heap.size r ao cap) (λ_ iv _=>d.length-(intOf iv).toNat)
 case atStart=>exact⟨0,[],by omega,rfl,HP.out,by simp,ql _ _ _ _,nbl _ _,by simp[jm]⟩
 case round=>
  obtain⟨k,done,hk,rfl,b8,g5,h,a,U⟩:=hrel;have j:=hid b8;have A:=hid U;have b4:Hid (Yg wr (.slice lo d.length J) d):=gW HL.out a;have a1:Hid (qQ wr ao r.marks):=xB HM.out a;have H:=a.size;have e8:w.heap.size+1<=wr.heap.size:=Qe _ _ A.out.1;clear b8 HP U
  by_cases hlt:k<d.length
  ·obtain⟨f3,b6,he,y⟩:=b4.out;simp only[Value.slice.injEq,Q8] at he;obtain⟨rfl,rfl⟩:=he
   rcases y with rfl|⟨b,o,rfl,hc⟩
   ·simp at hlt
   obtain⟨q1,q2⟩:=hc k hlt;obtain⟨kind,a8⟩:∃n,d[k].1=n:=⟨_,rfl⟩;obtain⟨p,b2⟩:∃n,d[k].2=n:=⟨_,rfl⟩;rw[a8] at q1;rw[b2] at q2;have HK:=hid a8;have HT:=hid b2;clear hc a8 b2
   by_cases h4:kind=4
   ·subst h4;have d7:=A.out;obtain⟨g0,g1,g2,g3⟩:=d7
    cases hsy:Ref.says r p with
    | none=>
     have hf:=Ref.tu r d k hlt done P j.out (by unfold Ref.Zy;rw[HK.out,HT.out,zb rfl,hsy];rfl);subst hf;have a3:=hid hsy;clear hsy j;go_wp2_with fail
     go_region_with (go_at_call 242;refine (Cc r p ao cap _ ?_ ?_ none a3.out).mono ?_;omega;exact a1.out;rintro e w2 ⟨rfl,M⟩)
     all_goals go_wp2
     all_goals go_ret2
     all_goals exact⟨_,rfl,a.trans ((QI M).mono H),ql _ _ _ _,by simp⟩
    | some v=>
     have e1:=HS.out p v hsy;have d8:=Ref.Ue v;obtain⟨cs,O⟩:=Nm ((Ref.chars v).getD []);have l:Ref.Zy r d[k]=some (cs.map λc=>((1:Int),c)):=by unfold Ref.Zy;rw[HK.out,HT.out,zb rfl,hsy,<- O];rfl
     have F:=Ref.KY r d k hlt done P j.out _ l;rw[O] at d8;have a2:=hid F;have a3:=hid hsy;have d4:=hid O;clear hsy j F l O;go_wp2_with fail
     go_region_with (go_at_call 242;refine (Cc r p ao cap _ ?_ ?_ (some v) a3.out).mono ?_;omega;exact a1.out;rintro e w2 ⟨rfl,M⟩)
     all_goals
      have L:Below wr.heap.size wr w2:=QI M;have K:w2.ownsRow (w.heap.size+1) 368 2 u6 done.length (Ref.qK done):=ownsRow_below h L;have E:Below w.heap.size w w2:=a.trans (L.mono H);have S:Hid (jm w2 w.heap.size r ao cap):=Zt A.out L;clear M L h a A a1 b4 q1 q2 g0 g1 g2 g3;go_wp2_with fail;refine (dP v _ (by omega)).mono ?_;rw[d4.out];rintro e w3 ⟨cv,rfl,N,q⟩;have a0:=ownsRow_below K N;have R:Below w.heap.size w w3:=E.trans (N.mono E.size);have T:Hid (jm w3 w.heap.size r ao cap):=Zt S.out N;have Q:=XG rfl q;obtain⟨co,u,rfl,y⟩:=Q;have Q:Hid (xW w3 (.slice co cs.length u) cs):=⟨co,u,rfl,y⟩
      have W:Hid (∀g,u6.ownBlock=some g->∀z,co=some z->z.block≠g):=by
       intro g hg z ha;have l1:=(K.lt g hg).2;have l2:=(q.lt z.block (by rw[ha];rfl)).1;omega
      clear y q K E S N
      go_wp2
      go_loopw [6,12] (λov jv wx=>∃m:Nat,m<=cs.length/\jv = .int .i64 m/\wx.ownsRow (w.heap.size+1) 368 2 ov (done++(cs.take m).map λc=>((1:Int),c)).length (Ref.qK (done++(cs.take m).map λc=>((1:Int),c))) /\
        Below w.heap.size w wx/\jm wx w.heap.size r ao cap/\xW wx (.slice co cs.length u) cs/\(∀g,ov.ownBlock=some g->∀z,co=some z->z.block≠g)) (λ_ jv _=>cs.length-(intOf jv).toNat)
      case atStart=>exact⟨0,by omega,rfl,by simpa using a0,R,T.out,Q.out,W.out⟩
      case round=>
       obtain⟨m,g6,rfl,i,x,X,Z,Y⟩:=hrel;clear a0 R T Q W;have B:=hid X;have D:=hid Z;have C:=hid Y;have g9:=x.size;clear X Z Y;have hlen:(done++(cs.take m).map λc=>((1:Int),c)).length<=100*k+100:=by simp;omega
       by_cases hml2:m<cs.length
       ·obtain⟨f4,b6,he,y⟩:=D.out;simp only[Value.slice.injEq,Q8] at he;obtain⟨rfl,rfl⟩:=he
        rcases y with rfl|⟨cb,cof,rfl,hc⟩
        ·simp at hml2
        have q1:=hc m hml2;obtain⟨c,a7⟩:=Nm (cs[m]);rw[a7] at q1
        have V:(done++(cs.take (m+1)).map λc=>((1:Int),c))=(done++(cs.take m).map λc=>((1:Int),c))++[((1:Int),c)]:=by
         rw[QD hml2,a7];simp
        have b5:=hid V;clear hc a7 V;generalize d9:(done++(cs.take m).map λc=>((1:Int),c))=dd at *;clear d9
        go_wp2_with (at_builtin;refine wpList_append_own_at _ rfl _ _ 314 rfl (w.heap.size+1) 368 i0 (.agg #[.int .i64 0,.string ⟨#[]⟩]) 2 24 underlying314 hi c3 c4 c5 rfl (by decide) _ dd.length (Ref.qK dd) rfl (i.alloc _) ⟨_,0,none⟩ 1 1 [.int .i64 1,.string c] rfl rfl ?_ ?_ ?_ ?_ ?_ ?_)
        ·exact cell_two_new _ _ _ _
        ·exact Vt _ _
        ·unfold maxLen;omega
        ·omega
        ·simp;omega
        ·intro v' w1 I f _ c6;have a4:=nI x i (by omega) _ f
         have t:w1.ownsRow (w.heap.size+1) 368 2 v' (done++(cs.take (m+1)).map λc=>((1:Int),c)).length (Ref.qK (done++(cs.take (m+1)).map λc=>((1:Int),c))):=by
          rw[b5.out,Ref.YR,qB];exact I
         have a6:Hid (jm w1 w.heap.size r ao cap):=nJ B.out i _ f;have b1:Hid (xW w1 (.slice (some ⟨cb,cof,none⟩) cs.length u) cs):=zce (uI D.out (nbl _ _)) f C.out;have g4:cb<wr.heap.size:=Qe _ _ q1
         have b0:Hid (∀g,v'.ownBlock=some g->∀z,some (⟨cb,cof,none⟩:Addr)=some z->z.block≠g):=by
          intro g hg z ha
          rcases c6 with e|e
          ·exact C.out g (e ▸ hg) z ha
          ·rw[e] at hg;simp only[Option.some.injEq] at hg ha;subst hg;subst ha;simp only;omega
         clear I f i c6 B D C x
         go_wp2
         go_roundw
         case rel=>exact⟨m+1,by omega,by go_num,t,a4,a6.out,b1.out,b0.out⟩
         case measure=>simp[intOf];omega
       ·have c2:cs.take m=cs:=ZO (by omega)
        have a9:wr.ownsRow (w.heap.size+1) 368 2 u6 (done++cs.map λc=>((1:Int),c)).length (Ref.qK (done++cs.map λc=>((1:Int),c))):=by
         rw[c2] at i;exact i
        clear i c2 hlen
        go_wp2
        go_roundw
        case rel=>exact⟨k+1,_,by omega,by go_num,a2.out,by simp;omega,a9,x,B.out⟩
        case measure=>simp[intOf];omega
   ·have f9:(kind != 4)=true:=by simp[h4]
    have l:Ref.Zy r d[k]=some [(kind,p)]:=by unfold Ref.Zy;rw[HK.out,za h4,<- HK.out,<- HT.out]
    have F:=Ref.KY r d k hlt done P j.out _ l;have a2:=hid F;clear l F j
    go_wp2_with (at_builtin;refine vS _ rfl _ _ 314 rfl (w.heap.size+1) 368 i0 (.agg #[.int .i64 0,.string ⟨#[]⟩]) 2 24 underlying314 hi c3 c4 c5 rfl (by decide) _ done.length (Ref.qK done) rfl (h.alloc _) ⟨wr.heap.size,0,none⟩ 1 1 [.int .i64 kind,.string p] rfl rfl ?_ ?_ ?_ ?_ ?_ ?_)
    ·exact cell_two_new _ _ _ _
    ·exact Vt _ _
    ·unfold maxLen;omega
    ·omega
    ·simp;omega
    ·intro v' w1 G s _;have a4:=nI a h (by omega) _ s;have t:w1.ownsRow (w.heap.size+1) 368 2 v' (done++[(kind,p)]).length (Ref.qK (done++[(kind,p)])):=by rw[Ref.YR,qB];exact G
     have a5:jm w1 w.heap.size r ao cap:=nJ A.out h _ s;clear G s h
     go_wp2
     go_roundw
     case rel=>exact⟨k+1,_,by omega,by go_num,a2.out,by simp;omega,t,a4,a5⟩
     case measure=>simp[intOf];omega
  ·have hf:=Ref.tq r d k hlt done P j.out;subst hf;clear j
   go_wp2
   go_ret2;exact⟨_,rfl,a,xC h (by omega),by simp;omega⟩
end Go.Proofs.YtdakgnaojakldaaGreatDoor
