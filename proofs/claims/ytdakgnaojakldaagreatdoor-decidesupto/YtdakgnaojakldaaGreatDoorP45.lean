/- P -/
import Derived.Test.YtdakgnaojakldaaGreatDoorP44
import Derived.Test.YtdakgnaojakldaaGreatDoorP41
open Go.Proofs.Tryz
set_option maxRecDepth 100000
set_option maxHeartbeats 1000000
namespace Go.Proofs.YtdakgnaojakldaaGreatDoor
open Go.RowKit
theorem zaE{w:World}{base:Nat}{e:TypeId}{v:Value}{n:Nat}{q:List (Int×BY)}(f:n=q.length)(h:w.ownsRow base e 1 v n (Pg.ko q)) :
  ∃ao cap,v = .slice ao (q.map Pg.xq).length cap/\(q.map Pg.xq).length<=cap/\rowAt w ao (q.map Pg.xq).length λj=>(q.map Pg.xq).getD j 0:=by
 subst f;have a:=λg d=>h.cells (g:=g) d;rw[qH]
 rcases h.2 with ⟨rfl,h0⟩|⟨g,cap,cur,rfl,h3⟩
 ·exact⟨none,0,by rw[h0],by omega,.inl h0⟩
 ·refine⟨_,cap,rfl,h3.2.2.1,.inr ⟨g,0,rfl,λj c=>?_⟩⟩;have b:=a g rfl j (.int .i32 (Pg.xq q[j])) (by simp[Pg.ko,c]);rw[YB] at b;rw[qN,b];simp[List.getD,c]
theorem WC(r:Ref.Req)(s:List (Int×BY))(lv:Value)(word:BY)(g:Nat)(L:Array Value)(w:World)(P:Pg.At w lv s)(I:s.length<=60)(B:∀p ∈ s,Pg.Vr p)
  (V:word.size<=100)(K:(Ref.chars word).isSome=true)(D:∀n v,Ref.says r n=some v->v.size<=100/\(Ref.chars v).isSome=true)
  (R:∀args w,(callFunc g args).run prog w = .ok (.enter g args) w)
  (N:∀W name,Below w.heap.size w W->Calls prog g (#[.string name]++L) W λe w'=>e = .returned (.tuple #[.string ((Ref.says r name).getD ⟨#[]⟩),.bool (Ref.says r name).isSome])/\Below W.heap.size W w')
  (A:Bool)(i:(match Ref.laid r s with|none=>false|some q=>Ref.covers q ((Ref.chars word).getD []))=A) :
  Calls prog 174 #[lv,.string word,.func (.func g) #[] L] w λe w'=>e = .returned (.bool A)/\Below w.heap.size w w':=by
 have t:=zbm r s lv g L w P I (λp T X=>by
  rcases B p T with h|⟨_,h⟩
  ·rcases h with h|h|⟨h,_⟩<;>omega
  ·exact Pg.Tg p.2 h) D R N
 have J:=Pg.Rx r s B;have y:=Pg.og word;have G:=Ref.Ue word;have o:=λW=>BZ word W (by omega) K;obtain⟨cs,m⟩:=Nm ((Ref.chars word).getD []);simp only[m] at i y G o
 cases hL:Ref.laid r s with
 | none=>
  rw[hL] at i t;simp only at i;subst i;simp only[kS] at t;clear hL J m o;go_enter func174,ntmps174
  go_wp2_with (go_at_call 213;refine t.mono ?_;rintro e w' ⟨v,rfl,d,k,hlen⟩)
  go_ret;exact⟨rfl,d⟩
 | some q=>
  rw[hL] at i t;simp only at i;have x:A=true↔Pg.Gl (q.map Pg.xq) (cs.map Pg.rI):=by rw[<- i];exact Pg.Il cs y q (J q hL)
  have E:=hid x;simp only[uw,yB] at t
  have Q:∀(ao:Option Addr) (cap C:Nat) (W:World) (O:Obj),q.length<=6000->(q.map Pg.xq).length<=cap->rowAt W ao (q.map Pg.xq).length (λj=>(q.map Pg.xq).getD j 0) ->
    (∀j u,(cs.map Pg.XA)[j]?=some u->(W.alloc O).drew.cell? ⟨W.heap.size,j,none⟩=some u) ->
    Calls prog 214 #[.slice ao q.length cap,.slice (some ⟨W.heap.size,0,none⟩) cs.length C] (W.alloc O).drew λe w'=>e = .returned (.bool A)/\Below W.heap.size W w':=by
   intro ao cap C W O U a b f;have l:Below W.heap.size W (W.alloc O).drew:=(nbl W O).drew
   have c:=SB (q.map Pg.xq) (cs.map Pg.rI) ao (some ⟨W.heap.size,0,none⟩) cap C _ (iB b l)
    (.inr ⟨W.heap.size,0,rfl,λj H=>by
      rw[qH] at H;rw[qN,f j (Pg.XA cs[j]) (by simp[H])];simp[List.getD,H,Pg.XA,Pg.rI]⟩) (by simp;omega) (by simp;omega) a A E.out
   rw[qH,qH] at c;exact c.mono λe w' ⟨S,hb⟩=>⟨S,l.trans (hb.mono l.size)⟩
  clear hL J m i x N P D;go_enter func174,ntmps174
  go_wp2_with (first
   | (go_at_call 214;refine (Q ao cap C w' O hlen a b z).mono ?_;rintro e Y ⟨rfl,F⟩)
   | (go_at_call 213;refine t.mono ?_;rintro e w' ⟨v,rfl,d,k,hlen⟩;obtain⟨ao,cap,rfl,a,b⟩:=zaE rfl k;obtain⟨C,O,M,z⟩:=o w'))
  go_ret;exact⟨rfl,d.trans (F.mono d.size)⟩
structure Zp (w:World) (r:Ref.Req) (ao:Option Addr) (cap B:Nat):Prop where
 c0:w.cell? ⟨B,0,none⟩=some (.string r.who)
 c1:w.cell? ⟨B,1,none⟩=some (.string r.act)
 c2:w.cell? ⟨B,2,none⟩=some (.string r.on)
 c3:w.cell? ⟨B,3,none⟩=some (.slice ao r.marks.length cap)
 ms:qQ w ao r.marks
 ok:Ref.xP r=true
theorem Zp.below{w w':World}{r:Ref.Req}{ao:Option Addr}{cap B:Nat}(h:Zp w r ao cap B)(hb:Below w.heap.size w w'):Zp w' r ao cap B:=
 ⟨zh hb h.c0,zh hb h.c1,zh hb h.c2,zh hb h.c3,xB h.ms hb,h.ok⟩
def yI(B:Nat):Value := .func (.func 215) #[] #[.pointer (some ⟨B,0,none⟩)]
theorem Ca:∀args w,(callFunc 215 args).run prog w = .ok (.enter 215 args) w:=enters_of func215 (by kernel_rfl) rfl
theorem Zp.call{w:World}{r:Ref.Req}{ao:Option Addr}{cap B:Nat}(h:Zp w r ao cap B)(W:World)(name:BY)(hb:Below w.heap.size w W) :
  Calls prog 215 (#[.string name]++#[.pointer (some ⟨B,0,none⟩)]) W λe w'=>e = .returned (.tuple #[.string ((Ref.says r name).getD ⟨#[]⟩),.bool (Ref.says r name).isSome])/\Below W.heap.size W w':=
 have k:=h.below hb
 SE r name ao cap B W (by have:=aJ h.ok;omega) k.ms k.c0 k.c1 k.c2 k.c3
theorem SC(pattern word:BY)(r:Ref.Req)(ao:Option Addr)(cap B:Nat)(w:World)(m:Ref.qi pattern=true)(k:Zp w r ao cap B)(j:yg w)(z:word.size<=100)(u:(Ref.chars word).isSome=true) :
  Calls prog 265 #[.string pattern,.string word,yI B] w λe w'=>e = .returned (.bool (Ref.jy pattern word r))/\Below w.heap.size w w':=by
 have t:=Ref.gX pattern m;have o:=BG pattern w (by unfold maxLen;omega) j.d.max j.d.tabs;obtain⟨h,f⟩:∃h,Ref.parts pattern=some h:=bV.1 m;have b:=Ref.Bf pattern;have a:=Pg.WA pattern;rw[f] at b a o;simp only[yB] at b a;obtain⟨A,g⟩:=Nm (Ref.jy pattern word r);rw[g];unfold Ref.jy at g;rw[f] at g;simp only[yB] at g
 have n:=λ(W:World) (lv:Value) (hb:Below w.heap.size w W) (y:Pg.At W lv h)=>WC r h lv word 215 #[.pointer (some ⟨B,0,none⟩)] W y b a z u (UN k.ok) Ca
  (λq name l=>(k.below hb).call q name l) A g
 have p:=hid n;clear n g k j a f m;unfold yI;go_enter func265,ntmps265
 go_wp2_with (first
  | (go_at_call 174;refine (p.out w1 v i (Pg.Fs rfl hown)).mono ?_;rintro e C ⟨rfl,s⟩)
  | (go_at_call 173;refine o.mono ?_;rintro e w1 ⟨v,x,rfl,i,c⟩;rcases c with ⟨hq,_⟩|⟨ps',hq,rfl,hown⟩;cases hq;cases hq))
 go_ret;exact⟨rfl,i.trans (s.mono i.size)⟩
theorem ED(pattern word:BY)(r:Ref.Req)(ao:Option Addr)(cap B a b:Nat)(w:World)(j:Ref.qi pattern=true)(f:Zp w r ao cap B)(d:yg w)(k:word.size<=100)(i:(Ref.chars word).isSome=true)
  (l:w.cell? ⟨a,0,none⟩=some (.string word))(h:w.cell? ⟨b,0,none⟩=some (yI B)) :
  Calls prog 264 #[.string pattern,.pointer (some ⟨a,0,none⟩),.pointer (some ⟨b,0,none⟩)] w λe w'=>e = .returned (.bool (Ref.jy pattern word r))/\Below w.heap.size w w':=by
 have c:=SC pattern word r ao cap B w j f d k i;unfold yI at c h;generalize Ref.jy pattern word r=A at c;clear f d;go_enter func264,ntmps264
 go_wp2_with (go_at_call 265;refine c.mono ?_;rintro e w1 ⟨rfl,g⟩)
 go_ret;exact⟨rfl,g⟩
theorem mP(a:List BY)(word:BY)(r:Ref.Req)(ao h:Option Addr)(cap o B:Nat)(w:World)(s:∀p ∈ a,Ref.qi p=true)(u:a.length<=100000)(n:Zi w h a)(l:Zp w r ao cap B)(k:yg w)(t:word.size<=100)(q:(Ref.chars word).isSome=true) :
  Calls prog 257 #[.slice h a.length o,.string word,yI B] w λe w'=>e = .returned (.bool (a.any λp=>Ref.jy p word r))/\Below w.heap.size w w':=by
 have f:Below w.heap.size w (w.alloc (.cells #[.string word] 9)):=nbl w _;have b:Below w.heap.size w ((w.alloc (.cells #[.string word] 9)).alloc (.cells #[yI B] 312)):=f.alloc f.size _
 have c:=dm a h o 264 #[.pointer (some ⟨w.heap.size,0,none⟩),.pointer (some ⟨w.heap.size+1,0,none⟩)] (λj=>Ref.jy (Z4 a j) word r) ((w.alloc (.cells #[.string word] 9)).alloc (.cells #[yI B] 312)) (by omega)
  (enters_of func264 (by kernel_rfl) rfl) (ZG n b)
  (λW j m hb=>by
    have d:Below w.heap.size w W:=b.trans (hb.mono b.size);refine ED (Z4 a j) word r ao cap B w.heap.size (w.heap.size+1) W (by rw[iQ a j m];exact s _ (qA m)) (l.below d) (k.below d) t q (zh hb (by simp)) (zh hb (by simp)))
 rw[show (zx (λj=>Ref.jy (Z4 a j) word r) a.length).isSome=a.any (λp=>Ref.jy p word r) from V7 a ⟨#[]⟩ (λp=>Ref.jy p word r)] at c
 generalize a.any (λp=>Ref.jy p word r)=F at c;unfold yI at c b |-;have i:=hid b;clear l k n f b;go_enter func257,ntmps257
 go_wp2_with (go_at_call 195;refine c.mono ?_;rintro e w' ⟨rfl,g⟩)
 go_ret;exact⟨rfl,i.out.trans (g.mono i.out.size)⟩
theorem dQ(b:Bool×List BY)(word:BY)(r:Ref.Req)(ao a:Option Addr)(cap g B:Nat)(w:World)(x:∀p ∈ b.2,Ref.qi p=true)(v:b.2.length<=100000)(o:Zi w a b.2)(u:Zp w r ao cap B)(t:yg w)(A:word.size<=100)(z:(Ref.chars word).isSome=true) :
  Calls prog 245 #[.agg #[.bool b.1,.slice a b.2.length g],.string word,yI B] w λe w'=>e = .returned (.bool (De.Z6 b word r))/\Below w.heap.size w w':=by
 obtain⟨h,f⟩:=b;unfold De.Z6;simp only at x v o |-;have s:Below w.heap.size w (w.alloc (.cells #[.bool h,.slice a f.length g] 130)):=nbl w _;have c:=λ(W:World) (hb:Below w.heap.size w W)=>mP f word r ao a cap g B W x v (ZG o hb) (u.below hb) (t.below hb) A z;generalize (f.any λp=>Ref.jy p word r)=F at c;unfold yI at c |-;have C:=hid c;have i:=hid s;have m:=(zg (zB w (.cells #[.bool h,.slice a f.length g] 130)) 0).1;have n:=(zg (zB w (.cells #[.bool h,.slice a f.length g] 130)) 1).1;simp only[lU,yV,uM] at m n;obtain⟨q,d⟩:∃W,w.alloc (.cells #[.bool h,.slice a f.length g] 130)=W:=⟨_,rfl⟩;rw[d] at i m n;have l:=hid d;clear u t o s c d;go_enter func245,ntmps245
 go_upto_region 1 with fail
 rw[l.out];have y:=hid (C.out q.drew i.out.drew)
 go_region_held3 (λw'=>w'.cell? ⟨w.heap.size,0,none⟩=some (.bool h)/\w'.cell? ⟨w.heap.size,1,none⟩=some (.slice a f.length g)) (go_keep) (first
  | ((go_at_call 257);refine y.out.mono ?_;rintro e w1 ⟨rfl,j⟩;have D:=zh j m;have E:=zh j n;have k:Hid (Below w.heap.size w w1):=i.out.trans (((ze _ q).drew.trans j).mono i.out.size);clear j))
 all_goals
  go_wp2_with fail;go_ret;exact⟨rfl,k.out⟩
def uY(S:Option BY)(f:BY->Bool):Bool:=match S with
 | none=>false
 | some x=>f x
def ZR(S:Option BY)(B:Nat):Value := .agg #[.string (S.getD ⟨#[]⟩),.bool S.isSome,yI B]
theorem EB(w:World)(u0 u1 u2:Value):(w.alloc (.cells #[u0,u1,u2] 408)).cell? ⟨w.heap.size,0,none⟩=some u0:=by
 simp
theorem Pe(S:Option BY)(vals:List BY)(r:Ref.Req)(ao f:Option Addr)(cap h B:Nat)(w:World)(n:∀x,S=some x->x.size<=100/\(Ref.chars x).isSome=true)(m:∀p ∈ vals,Ref.qi p=true)(l:vals.length<=100000)(g:Zi w f vals)(d:Zp w r ao cap B)(b:yg w) :
  Calls prog 321 #[ZR S B,.slice f vals.length h] w λe w'=>e = .returned (.bool (uY S λx=>vals.any λv=>Ref.jy v x r))/\Below w.heap.size w w':=by
 have a:=λO:Obj=>nbl w O;unfold ZR yI
 cases S with
 | none=>
  simp only[uY,QF,kS];clear d b;go_enter func321,ntmps321;go_wp2_with fail;go_ret;exact⟨rfl,a _⟩
 | some x=>
  obtain⟨j,k⟩:=n x rfl;have c:=λO:Obj=>mP vals x r ao f cap h B (w.alloc O) m l (ZG g (a O)) (d.below (a O)) (b.below (a O)) j k;simp only[uY,yB,uw];generalize (vals.any λv=>Ref.jy v x r)=F at c;unfold yI at c;have C:=hid c;clear d b g c;go_enter func321,ntmps321
  go_wp2_with (go_at_call 257;refine (C.out _).mono ?_;rintro e w1 ⟨rfl,i⟩)
  go_ret;exact⟨rfl,(a _).trans (i.mono (a _).size)⟩
theorem FH(x v:BY):(v.toList==x.toList)=(x.toList==v.toList):=by
 rw[kL,vJ,vJ];exact eq_comm
theorem Pn(S:Option BY)(vals:List BY)(b:Option Addr)(f B:Nat)(w:World)(h:vals.length<=100000)(d:Zi w b vals) :
  Calls prog 323 #[ZR S B,.slice b vals.length f] w λe w'=>e = .returned (.bool (uY S λx=>vals.any λv=>x.toList==v.toList))/\Below w.heap.size w w':=by
 have a:=λO:Obj=>nbl w O;unfold ZR yI
 cases S with
 | none=>
  simp only[uY,QF,kS];go_enter func323,ntmps323;go_wp2_with fail;go_ret;exact⟨rfl,a _⟩
 | some x=>
  have c:=λO:Obj=>sG vals x b f (w.alloc O) (by omega) (ZG d (a O));simp only[FH] at c;simp only[uY,yB,uw];generalize (vals.any λv=>x.toList==v.toList)=F at c;have C:=hid c;clear d c;go_enter func323,ntmps323
  go_wp2_with (go_at_call 149;refine (C.out _).mono ?_;rintro e w1 ⟨rfl,g⟩)
  go_ret;exact⟨rfl,(a _).trans (g.mono (a _).size)⟩
theorem OT(S:Option BY)(lv:Value)(B:Nat)(w:World) :
  Calls prog 329 #[ZR S B,lv] w λe w'=>e = .returned (.bool S.isNone)/\Below w.heap.size w w':=by
 have a:=λO:Obj=>nbl w O;unfold ZR yI
 cases S with
 | none=>
  simp only[QF,kS];go_enter func329,ntmps329;go_wp2_with fail;go_ret;exact⟨rfl,a _⟩
 | some x=>
  simp only[yB,uw];go_enter func329,ntmps329;go_wp2_with fail;go_ret;exact⟨rfl,a _⟩
theorem zcN(x v:BY):De.Zk x v=((x.toList==v.toList)||(decide ((v++⟨#[47]⟩:BY).size<=x.size)&&((x.extract 0 (v++⟨#[47]⟩:BY).size).toList==(v++⟨#[47]⟩:BY).toList))):=by
 have g:(v++⟨#[47]⟩:BY).size=v.size+1:=by rw[ZJ];rfl
 have j:v.data.toList.length=v.size:=by simp
 have i:x.data.toList.length=x.size:=by simp
 unfold De.Zk;rw[g];congr 1
 by_cases h:v.size<x.size
 ·rw[zy h,zy (show v.size+1<=x.size from h),jC,jC]
  have d:(x.extract 0 (v.size+1)).toList=x.data.toList.take (v.size+1):=by rw[ut];simp
  have e:(v++⟨#[47]⟩:BY).toList=v.data.toList++[47]:=by rw[ut];simp
  rw[d,e,Yw,zm (by omega),zQ,zm (by omega)];simp only[Option.toList_some,yB];have f:(x.data.toList.take v.size).length=v.data.toList.length:=by rw[vT];omega
  rw[kL,kJ,vJ,vJ,vJ]
  constructor
  ·rintro ⟨a,b⟩;rw[a,Kn.1 (show _=(47:UInt8).toNat from b)]
  ·intro a;obtain⟨b,c⟩:=List.append_inj a f;refine⟨b,?_⟩;injection c with c
   rw[c]
   rfl
 ·rw[zJ h,zJ (show ¬v.size+1<=x.size by omega),uJ,uJ]
theorem zcK(x v:BY)(B:Nat)(w:World)(d:w.cell? ⟨B,0,none⟩=some (.string x))(g:v.size<=100000) :
  Calls prog 337 #[.string v,.pointer (some ⟨B,0,none⟩)] w λe w'=>e = .returned (.bool (De.Zk x v))/\Below w.heap.size w w':=by
 rw[zcN];obtain⟨R,a⟩:=Nm ((decide ((v++⟨#[47]⟩:BY).size<=x.size)&&((x.extract 0 (v++⟨#[47]⟩:BY).size).toList==(v++⟨#[47]⟩:BY).toList)));have c:=λW=>fG x (v++⟨#[47]⟩) W R a.symm;rw[a]
 have c2:∀W,Calls prog 338 #[.string x,.string (v++⟨#[47]⟩)] W λe w'=>e = .returned (.bool R)/\w'=W:=by
  intro W;have b:=c W;clear c a d;go_enter func338,ntmps338
  go_wp2_with (go_at_call 345;refine b.mono ?_;rintro e w' ⟨rfl,rfl⟩)
  go_ret;exact⟨rfl,rfl⟩
 have f:(v.size:Int)+1<=9223372036854775807:=by omega
 clear c a
 cases h:(x.toList==v.toList) with
 | true=>
  rw[VJ];go_enter func337,ntmps337;go_wp2_with fail;go_ret;exact⟨rfl,ze _ _⟩
 | false=>
  rw[Xa];go_enter func337,ntmps337
  go_wp2_with (go_at_call 338;refine (c2 _).mono ?_;rintro e w' ⟨rfl,rfl⟩)
  go_ret;exact⟨rfl,ze _ _⟩
theorem Pp(S:Option BY)(vals:List BY)(b:Option Addr)(g B:Nat)(w:World)(k:vals.length<=100000)(i:∀v ∈ vals,v.size<=100000)(f:Zi w b vals) :
  Calls prog 327 #[ZR S B,.slice b vals.length g] w λe w'=>e = .returned (.bool (uY S λx=>vals.any λv=>De.Zk x v))/\Below w.heap.size w w':=by
 have a:=λO:Obj=>nbl w O;unfold ZR yI
 cases S with
 | none=>
  simp only[uY,QF,kS];go_enter func327,ntmps327;go_wp2_with fail;go_ret;exact⟨rfl,a _⟩
 | some x=>
  simp only[uY,yB,uw]
  have c:=λu1 u2=>dm vals b g 337 #[.pointer (some ⟨w.heap.size,0,none⟩)] (λj=>De.Zk x (Z4 vals j)) (w.alloc (.cells #[.string x,u1,u2] 408)) (by omega)
   (enters_of func337 (by kernel_rfl) rfl) (ZG f (a _))
   (λW j d hb=>zcK x (Z4 vals j) w.heap.size W (zh hb (EB w _ _ _)) (by rw[iQ vals j d];exact i _ (qA d)))
  rw[show (zx (λj=>De.Zk x (Z4 vals j)) vals.length).isSome=vals.any (λv=>De.Zk x v) from V7 vals ⟨#[]⟩ (λv=>De.Zk x v)] at c
  generalize (vals.any λv=>De.Zk x v)=F at c;have C:=hid c;clear f c;go_enter func327,ntmps327
  go_wp2_with (go_at_call 195;refine (C.out _ _).mono ?_;rintro e w1 ⟨rfl,h⟩)
  go_ret;exact⟨rfl,(a _).trans (h.mono (a _).size)⟩
theorem Ab(s:BY):De.yo s=decide (0<s.size/\(s.data.toList.getD 0 0).toNat=45):=by
 unfold De.yo;rw[kL]
 simp
theorem Im(s:BY)(w:World):Calls prog 344 #[.string s,.string ⟨#[45]⟩] w λe w'=>e = .returned (.tuple #[.string (De.uA s),.bool (De.yo s)])/\w'=w:=by
 have c:=fG s ⟨#[45]⟩ w _ ((wM s).symm);rw[<- Ab] at c
 have c2:Calls prog 348 #[.string s,.string ⟨#[45]⟩] w λe w'=>e = .returned (.tuple #[.string (De.uA s),.bool (De.yo s)])/\w'=w:=by
  unfold De.uA
  cases h:De.yo s with
  | true=>
   rw[h] at c;rw[zb rfl];rw[Ab,uf] at h;have a:(1:Int)<=(s.size:Int):=by have:=h.1;omega
   clear h;go_enter func348,ntmps348
   go_wp2_with (go_at_call 345;refine c.mono ?_;rintro e w' ⟨rfl,rfl⟩)
   go_ret2;exact⟨rfl,rfl⟩
  | false=>
   rw[h] at c;simp only[yu,xV];clear h;go_enter func348,ntmps348
   go_wp2_with (go_at_call 345;refine c.mono ?_;rintro e w' ⟨rfl,rfl⟩)
   go_ret2;exact⟨rfl,rfl⟩
 clear c;go_enter func344,ntmps344
 go_wp2_with (go_at_call 348;refine c2.mono ?_;rintro e w' ⟨rfl,rfl⟩)
 go_ret2;exact⟨rfl,rfl⟩
theorem Ti(l:List UInt8)(k:Nat)(h:k<l.length):De.ve (l.take (k+1))=10*De.ve (l.take k)+(l[k].toNat-48):=by
 unfold De.ve De.Zz;rw[Yw,zm h,List.foldl_append]
 rfl
theorem Aa{l:List UInt8}(d:∀c ∈ l,De.Zx c)(a:l.length<=18)(k:Nat):De.ve (l.take k)<1000000000000000000:=by
 have:=De.gB (l.take k) 0 (λc b=>d c (VV b))
 have e:10 ^ (l.take k).length<=10 ^ 18:=Nat.pow_le_pow_right (by omega) (by rw[vT];omega);unfold De.ve;omega
theorem Am(s:BY)(w:World)(h:Ref.qF s=true):Calls prog 335 #[.string s] w λe w'=>e = .returned (.int .i64 (De.QY s))/\Below w.heap.size w w':=by
 obtain⟨A,_⟩:=De.Vh h;obtain⟨y,H,x,_,_⟩:=De.Yh A;have v:=λW=>Im s W;unfold De.QY;obtain⟨t,B⟩:=Nm (De.uA s);rw[B] at A y H x |-;simp only[B] at v;obtain⟨J,r⟩:∃b,De.yo s=b:=⟨_,rfl⟩;simp only[r] at v |-;have F:t.data.toList.length=t.size:=by simp
 obtain⟨C,O,I,p⟩:=dE t w;have o:Below w.heap.size w (w.alloc O).drew:=(nbl w _).drew;have u:=hid y;have G:=hid p;have l:=hid o;have m:=hid F;clear y A B r h p o F;go_enter func335,ntmps335
 go_wp2_with (go_at_call 344;refine (v _).mono ?_;rintro e w' ⟨rfl,D⟩;obtain rfl:=D.symm)
 go_loopw [5,16] (λK kv wr=>∃k:Nat,k<=t.size/\kv = .int .i64 k/\K = .int .i64 ((De.ve (t.data.toList.take k):Nat):Int)/\wr=(w.alloc O).drew) (λ_ kv _=>t.size-(intOf kv).toNat)
 case atStart=>exact⟨0,zH _,rfl,rfl,rfl⟩
 case round=>
  obtain⟨k,P,rfl,rfl,rfl⟩:=hrel
  by_cases hlt:k<t.size
  ·have i:k<t.data.toList.length:=by rw[m.out];exact hlt
   have q:=G.out k hlt;rw[qN,zQ,zm i] at q;simp only[yB] at q;have g:=u.out _ (qA i);have j:=Ti t.data.toList k i;have a:=Aa u.out (by rw[m.out];exact x) (k+1);unfold De.Zx at g;rw[j] at a;have n:=hid j;obtain⟨N,c⟩:=Nm (De.ve (t.data.toList.take k));obtain⟨d,f⟩:=Nm (t.data.toList[k].toNat);rw[c,f] at a n;rw[f] at g q;rw[c];obtain⟨L,M⟩:=g;have w1:IntKind.i64.wrap (10*(N:Int))=10*(N:Int):=by rw[JK];omega
   have Q:IntKind.u8.wrap ((d:Int)-48)=(d:Int)-48:=by rw[show IntKind.u8.wrap ((d:Int)-48)=((d:Int)-48) % 256 by simp[IntKind.wrap,IntKind.bits,IntKind.signed]];omega
   have R:IntKind.i64.wrap ((d:Int)-48)=(d:Int)-48:=by rw[JK];omega
   have S:IntKind.i64.wrap (10*(N:Int)+((d:Int)-48))=10*(N:Int)+((d:Int)-48):=by rw[JK];omega
   clear j c f;go_wp2_with fail
   go_roundw
   case rel=>exact⟨k+1,by omega,by go_num,by rw[n.out];congr 1;omega,trivial⟩
   case measure=>simp[intOf];omega
  ·have z:k=t.size:=by omega
   subst z;rw[ZO (by rw[m.out];omega)]
   have a:De.ve t.data.toList<1000000000000000000:=by
    have:=Aa u.out (by rw[m.out];exact x) t.size
    rwa [ZO (by rw[m.out];omega)] at this
   obtain⟨N,c⟩:=Nm (De.ve t.data.toList);rw[c] at a |-;have E:=hid c;clear c
   cases J with
   | true=>
    have w1:IntKind.i64.wrap (-(N:Int)) = -(N:Int):=by rw[JK];omega
    go_wp2_with fail;go_ret;exact⟨by rw[E.out];rfl,l.out⟩
   | false=>
    go_wp2_with fail;go_ret;exact⟨by rw[E.out];rfl,l.out⟩
end Go.Proofs.YtdakgnaojakldaaGreatDoor
