/- P -/
import Derived.Test.YtagnlbgbnfnapaaGreatDoorZ40
import Derived.Test.YtagnlbgbnfnapaaGreatDoorZ38
open Go.Proofs.Tryz
set_option maxRecDepth 100000
set_option maxHeartbeats 1000000
namespace Go.Proofs.YtagnlbgbnfnapaaGreatDoor
open Go.RowKit
theorem SG{w:World}{base:Nat}{e:TypeId}{v:Value}{n:Nat}{q:List (Int×BA)}(f:n=q.length)(h:w.ownsRow base e 1 v n (Pg.uP q)) :
  ∃ao cap,v = .slice ao (q.map Pg.xz).length cap/\(q.map Pg.xz).length<=cap/\rowAt w ao (q.map Pg.xz).length λj=>(q.map Pg.xz).getD j 0:=by
 subst f;have a:=λg d=>h.cells (g:=g) d;rw[qg]
 rcases h.2 with ⟨rfl,h0⟩|⟨g,cap,cur,rfl,h3⟩
 ·exact⟨none,0,by rw[h0],by omega,.inl h0⟩
 ·refine⟨_,cap,rfl,h3.2.2.1,.inr ⟨g,0,rfl,λj c=>?_⟩⟩;have b:=a g rfl j (.int .i32 (Pg.xz q[j])) (by simp[Pg.uP,c]);rw[VE] at b;rw[qM,b];simp[List.getD,c]
theorem Rs(r:Ref.Req)(t:List (Int×BA))(N:Value)(word:BA)(g:Nat)(M:Array Value)(w:World)(R:Pg.At w N t)(J:t.length<=60)(D:∀p ∈ t,Pg.Vd p)
  (Y:word.size<=100)(L:(Ref.chars word).isSome=true)(E:∀n v,Ref.says r n=some v->v.size<=100/\(Ref.chars v).isSome=true)
  (T:∀args w,(callFunc g args).run prog w = .ok (.enter g args) w)
  (Q:∀W name,Below w.heap.size w W->Calls prog g (#[.string name]++M) W λe d=>e = .returned (.tuple #[.string ((Ref.says r name).getD ⟨#[]⟩),.bool (Ref.says r name).isSome])/\Below W.heap.size W d)
  (A:Bool)(k:(match Ref.laid r t with|none=>false|some q=>Ref.covers q ((Ref.chars word).getD []))=A) :
  Calls prog 118 #[N,.string word,.func (.func g) #[] M] w λe d=>e = .returned (.bool A)/\Below w.heap.size w d:=by
 have x:=TQ r t N g M w R J (λp V Z=>by
  rcases D p V with h|⟨_,h⟩
  ·rcases h with h|h|⟨h,_⟩<;>omega
  ·exact Pg.OB p.2 h) E T Q
 have K:=Pg.Nf r t D;have z:=Pg.nO word;have H:=Ref.bu word;have s:=λW=>Bh word W (by omega) L;obtain⟨cs,o⟩:=Nm ((Ref.chars word).getD []);simp only[o] at k z H s
 cases hL:Ref.laid r t with
 | none=>
  rw[hL] at k x;simp only at k;subst k;simp only[kU] at x;clear hL K o s;go_enter func118,ntmps118
  go_wp2_with (go_at_call 158;refine x.mono ?_;rintro e d ⟨v,rfl,f,l,hlen⟩)
  go_ret;exact⟨rfl,f⟩
 | some q=>
  rw[hL] at k x;simp only at k;have y:A=true↔Pg.Gl (q.map Pg.xz) (cs.map Pg.rI):=by rw[<- k];exact Pg.FU cs z q (K q hL)
  have F:=hid y;simp only[uw,yO] at x
  have S:∀(ao:Option Addr) (cap C:Nat) (W:World) (O:Obj),q.length<=6000->(q.map Pg.xz).length<=cap->rowAt W ao (q.map Pg.xz).length (λj=>(q.map Pg.xz).getD j 0) ->
    (∀j u,(cs.map Pg.Xg)[j]?=some u->(W.alloc O).drew.cell? ⟨W.heap.size,j,none⟩=some u) ->
    Calls prog 159 #[.slice ao q.length cap,.slice (some ⟨W.heap.size,0,none⟩) cs.length C] (W.alloc O).drew λe d=>e = .returned (.bool A)/\Below W.heap.size W d:=by
   intro ao cap C W O X a b i;have m:Below W.heap.size W (W.alloc O).drew:=(nB W O).drew
   have c:=NY (q.map Pg.xz) (cs.map Pg.rI) ao (some ⟨W.heap.size,0,none⟩) cap C _ (gZ b m)
    (.inr ⟨W.heap.size,0,rfl,λj I=>by
      rw[qg] at I;rw[qM,i j (Pg.Xg cs[j]) (by simp[I])];simp[List.getD,I,Pg.Xg,Pg.rI]⟩) (by simp;omega) (by simp;omega) a A F.out
   rw[qg,qg] at c;exact c.mono λe d ⟨U,hb⟩=>⟨U,m.trans (hb.mono m.size)⟩
  clear hL K o k y Q R E;go_enter func118,ntmps118
  go_wp2_with (first
   | (go_at_call 159;refine (S ao cap C d O hlen a b B).mono ?_;rintro e w2 ⟨rfl,G⟩)
   | (go_at_call 158;refine x.mono ?_;rintro e d ⟨v,rfl,f,l,hlen⟩;obtain⟨ao,cap,rfl,a,b⟩:=SG rfl l;obtain⟨C,O,P,B⟩:=s d))
  go_ret;exact⟨rfl,f.trans (G.mono f.size)⟩
structure kW (w:World) (r:Ref.Req) (ao:Option Addr) (cap B:Nat):Prop where
 c0:w.cell? ⟨B,0,none⟩=some (.string r.who)
 c1:w.cell? ⟨B,1,none⟩=some (.string r.act)
 c2:w.cell? ⟨B,2,none⟩=some (.string r.on)
 c3:w.cell? ⟨B,3,none⟩=some (.slice ao r.marks.length cap)
 ms:xD w ao r.marks
 ok:Ref.yT r=true
theorem kW.below{w a:World}{r:Ref.Req}{ao:Option Addr}{cap B:Nat}(h:kW w r ao cap B)(hb:Below w.heap.size w a):kW a r ao cap B:=
 ⟨zh hb h.c0,zh hb h.c1,zh hb h.c2,zh hb h.c3,kF h.ms hb,h.ok⟩
def yw(B:Nat):Value := .func (.func 160) #[] #[.pointer (some ⟨B,0,none⟩)]
theorem Bj:∀args w,(callFunc 160 args).run prog w = .ok (.enter 160 args) w:=qx func160 (by kernel_rfl) rfl
theorem kW.call{w:World}{r:Ref.Req}{ao:Option Addr}{cap B:Nat}(h:kW w r ao cap B)(W:World)(name:BA)(hb:Below w.heap.size w W) :
  Calls prog 160 (#[.string name]++#[.pointer (some ⟨B,0,none⟩)]) W λe a=>e = .returned (.tuple #[.string ((Ref.says r name).getD ⟨#[]⟩),.bool (Ref.says r name).isSome])/\Below W.heap.size W a:=
 have k:=h.below hb
 Oa r name ao cap B W (by have:=Sw h.ok;omega) k.ms k.c0 k.c1 k.c2 k.c3
theorem NZ(pattern word:BA)(r:Ref.Req)(ao:Option Addr)(cap B:Nat)(w:World)(m:Ref.yf pattern=true)(k:kW w r ao cap B)(j:xK w)(C:word.size<=100)(y:(Ref.chars word).isSome=true) :
  Calls prog 257 #[.string pattern,.string word,yw B] w λe D=>e = .returned (.bool (Ref.vX pattern word r))/\Below w.heap.size w D:=by
 have u:=Ref.Rp pattern m;have o:=AU pattern w (by unfold maxLen;omega) j.d.max j.d.tabs;obtain⟨h,f⟩:∃h,Ref.parts pattern=some h:=aH.1 m;have b:=Ref.Rm pattern;have a:=Pg.Ro pattern;rw[f] at b a o;simp only[yO] at b a;obtain⟨A,g⟩:=Nm (Ref.vX pattern word r);rw[g];unfold Ref.vX at g;rw[f] at g;simp only[yO] at g
 have n:=λ(W:World) (p:Value) (hb:Below w.heap.size w W) (z:Pg.At W p h)=>Rs r h p word 160 #[.pointer (some ⟨B,0,none⟩)] W z b a C y (Bl k.ok) Bj
  (λs name l=>(k.below hb).call s name l) A g
 have q:=hid n;clear n g k j a f m;unfold yw;go_enter func257,ntmps257
 go_wp2_with (first
  | (go_at_call 118;refine (q.out E v i (Pg.Ex rfl hown)).mono ?_;rintro e F ⟨rfl,t⟩)
  | (go_at_call 117;refine o.mono ?_;rintro e E ⟨v,x,rfl,i,c⟩;rcases c with ⟨hq,_⟩|⟨ps',hq,rfl,hown⟩;cases hq;cases hq))
 go_ret;exact⟨rfl,i.trans (t.mono i.size)⟩
theorem DK(pattern word:BA)(r:Ref.Req)(ao:Option Addr)(cap B a b:Nat)(w:World)(j:Ref.yf pattern=true)(f:kW w r ao cap B)(d:xK w)(k:word.size<=100)(i:(Ref.chars word).isSome=true)
  (m:w.cell? ⟨a,0,none⟩=some (.string word))(h:w.cell? ⟨b,0,none⟩=some (yw B)) :
  Calls prog 256 #[.string pattern,.pointer (some ⟨a,0,none⟩),.pointer (some ⟨b,0,none⟩)] w λe l=>e = .returned (.bool (Ref.vX pattern word r))/\Below w.heap.size w l:=by
 have c:=NZ pattern word r ao cap B w j f d k i;unfold yw at c h;generalize Ref.vX pattern word r=A at c;clear f d;go_enter func256,ntmps256
 go_wp2_with (go_at_call 257;refine c.mono ?_;rintro e n ⟨rfl,g⟩)
 go_ret;exact⟨rfl,g⟩
theorem mr(a:List BA)(word:BA)(r:Ref.Req)(ao h:Option Addr)(cap q B:Nat)(w:World)(t:∀p ∈ a,Ref.yf p=true)(v:a.length<=100000)(n:kI w h a)(l:kW w r ao cap B)(k:xK w)(u:word.size<=100)(s:(Ref.chars word).isSome=true) :
  Calls prog 244 #[.slice h a.length q,.string word,yw B] w λe o=>e = .returned (.bool (a.any λp=>Ref.vX p word r))/\Below w.heap.size w o:=by
 have f:Below w.heap.size w (w.alloc (.cells #[.string word] 9)):=nB w _;have b:Below w.heap.size w ((w.alloc (.cells #[.string word] 9)).alloc (.cells #[yw B] 232)):=f.alloc f.size _
 have c:=aO a h q 256 #[.pointer (some ⟨w.heap.size,0,none⟩),.pointer (some ⟨w.heap.size+1,0,none⟩)] (λj=>Ref.vX (ZL a j) word r) ((w.alloc (.cells #[.string word] 9)).alloc (.cells #[yw B] 232)) (by omega)
  (qx func256 (by kernel_rfl) rfl) (Zo n b)
  (λW j m hb=>by
    have d:Below w.heap.size w W:=b.trans (hb.mono b.size);refine DK (ZL a j) word r ao cap B w.heap.size (w.heap.size+1) W (by rw[iC a j m];exact t _ (xg m)) (l.below d) (k.below d) u s (zh hb (by simp)) (zh hb (by simp)))
 rw[show (zD (λj=>Ref.vX (ZL a j) word r) a.length).isSome=a.any (λp=>Ref.vX p word r) from VH a ⟨#[]⟩ (λp=>Ref.vX p word r)] at c
 generalize a.any (λp=>Ref.vX p word r)=F at c;unfold yw at c b |-;have i:=hid b;clear l k n f b;go_enter func244,ntmps244
 go_wp2_with (go_at_call 188;refine c.mono ?_;rintro e o ⟨rfl,g⟩)
 go_ret;exact⟨rfl,i.out.trans (g.mono i.out.size)⟩
theorem bE(b:Bool×List BA)(word:BA)(r:Ref.Req)(ao a:Option Addr)(cap g B:Nat)(w:World)(v:∀p ∈ b.2,Ref.yf p=true)(u:b.2.length<=100000)(n:kI w a b.2)(t:kW w r ao cap B)(s:xK w)(z:word.size<=100)(y:(Ref.chars word).isSome=true) :
  Calls prog 221 #[.agg #[.bool b.1,.slice a b.2.length g],.string word,yw B] w λe i=>e = .returned (.bool (De.uk b word r))/\Below w.heap.size w i:=by
 obtain⟨nt,f⟩:=b;unfold De.uk;simp only at v u n |-;have q:Below w.heap.size w (w.alloc (.cells #[.bool nt,.slice a f.length g] 134)):=nB w _;have c:=λ(W:World) (hb:Below w.heap.size w W)=>mr f word r ao a cap g B W v u (Zo n hb) (t.below hb) (s.below hb) z y;generalize (f.any λp=>Ref.vX p word r)=F at c;unfold yw at c |-;have C:=hid c;have h:=hid q;have l:=(zf (zL w (.cells #[.bool nt,.slice a f.length g] 134)) 0).1;have m:=(zf (zL w (.cells #[.bool nt,.slice a f.length g] 134)) 1).1;simp only[zI,kS,Xx] at l m;obtain⟨o,d⟩:∃W,w.alloc (.cells #[.bool nt,.slice a f.length g] 134)=W:=⟨_,rfl⟩;rw[d] at h l m;have k:=hid d;clear t s n q c d;go_enter func221,ntmps221
 go_upto_region 1 with fail
 rw[k.out];have x:=hid (C.out o.drew h.out.drew)
 go_region_held3 (λi=>i.cell? ⟨w.heap.size,0,none⟩=some (.bool nt)/\i.cell? ⟨w.heap.size,1,none⟩=some (.slice a f.length g)) (go_keep) (first
  | ((go_at_call 244);refine x.out.mono ?_;rintro e A ⟨rfl,bb⟩;have D:=zh bb l;have E:=zh bb m;have j:Hid (Below w.heap.size w A):=h.out.trans (((zi _ o).drew.trans bb).mono h.out.size);clear bb))
 all_goals
  go_wp2_with fail;go_ret;exact⟨rfl,j.out⟩
def uM(S:Option BA)(f:BA->Bool):Bool:=match S with
 | none=>false
 | some x=>f x
def Zy(S:Option BA)(B:Nat):Value := .agg #[.string (S.getD ⟨#[]⟩),.bool S.isSome,yw B]
theorem DJ(w:World)(u0 u1 u2:Value):(w.alloc (.cells #[u0,u1,u2] 397)).cell? ⟨w.heap.size,0,none⟩=some u0:=by
 simp
theorem MJ(S:Option BA)(vals:List BA)(r:Ref.Req)(ao f:Option Addr)(cap h B:Nat)(w:World)(n:∀x,S=some x->x.size<=100/\(Ref.chars x).isSome=true)(m:∀p ∈ vals,Ref.yf p=true)(l:vals.length<=100000)(g:kI w f vals)(d:kW w r ao cap B)(b:xK w) :
  Calls prog 314 #[Zy S B,.slice f vals.length h] w λe o=>e = .returned (.bool (uM S λx=>vals.any λv=>Ref.vX v x r))/\Below w.heap.size w o:=by
 have a:=λO:Obj=>nB w O;unfold Zy yw
 cases S with
 | none=>
  simp only[uM,Q0,kU];clear d b;go_enter func314,ntmps314;go_wp2_with fail;go_ret;exact⟨rfl,a _⟩
 | some x=>
  obtain⟨j,k⟩:=n x rfl;have c:=λO:Obj=>mr vals x r ao f cap h B (w.alloc O) m l (Zo g (a O)) (d.below (a O)) (b.below (a O)) j k;simp only[uM,yO,uw];generalize (vals.any λv=>Ref.vX v x r)=F at c;unfold yw at c;have C:=hid c;clear d b g c;go_enter func314,ntmps314
  go_wp2_with (go_at_call 244;refine (C.out _).mono ?_;rintro e q ⟨rfl,i⟩)
  go_ret;exact⟨rfl,(a _).trans (i.mono (a _).size)⟩
theorem EB(x v:BA):(v.toList==x.toList)=(x.toList==v.toList):=by
 rw[vk,Zz,Zz];exact eq_comm
theorem MN(S:Option BA)(vals:List BA)(b:Option Addr)(f B:Nat)(w:World)(i:vals.length<=100000)(d:kI w b vals) :
  Calls prog 316 #[Zy S B,.slice b vals.length f] w λe h=>e = .returned (.bool (uM S λx=>vals.any λv=>x.toList==v.toList))/\Below w.heap.size w h:=by
 have a:=λO:Obj=>nB w O;unfold Zy yw
 cases S with
 | none=>
  simp only[uM,Q0,kU];go_enter func316,ntmps316;go_wp2_with fail;go_ret;exact⟨rfl,a _⟩
 | some x=>
  have c:=λO:Obj=>rz vals x b f (w.alloc O) (by omega) (Zo d (a O));simp only[EB] at c;simp only[uM,yO,uw];generalize (vals.any λv=>x.toList==v.toList)=F at c;have C:=hid c;clear d c;go_enter func316,ntmps316
  go_wp2_with (go_at_call 146;refine (C.out _).mono ?_;rintro e j ⟨rfl,g⟩)
  go_ret;exact⟨rfl,(a _).trans (g.mono (a _).size)⟩
theorem MB(S:Option BA)(b:Value)(B:Nat)(w:World) :
  Calls prog 322 #[Zy S B,b] w λe c=>e = .returned (.bool S.isNone)/\Below w.heap.size w c:=by
 have a:=λO:Obj=>nB w O;unfold Zy yw
 cases S with
 | none=>
  simp only[Q0,kU];go_enter func322,ntmps322;go_wp2_with fail;go_ret;exact⟨rfl,a _⟩
 | some x=>
  simp only[yO,uw];go_enter func322,ntmps322;go_wp2_with fail;go_ret;exact⟨rfl,a _⟩
theorem zaN(x v:BA):De.QN x v=((x.toList==v.toList)||(decide ((v++⟨#[47]⟩:BA).size<=x.size)&&((x.extract 0 (v++⟨#[47]⟩:BA).size).toList==(v++⟨#[47]⟩:BA).toList))):=by
 have g:(v++⟨#[47]⟩:BA).size=v.size+1:=by rw[qD];rfl
 have j:v.data.toList.length=v.size:=by simp
 have i:x.data.toList.length=x.size:=by simp
 unfold De.QN;rw[g];congr 1
 by_cases h:v.size<x.size
 ·rw[zF h,zF (show v.size+1<=x.size from h),Qg,Qg]
  have d:(x.extract 0 (v.size+1)).toList=x.data.toList.take (v.size+1):=by rw[QQ];simp
  have e:(v++⟨#[47]⟩:BA).toList=v.data.toList++[47]:=by rw[QQ];simp
  rw[d,e,VB,zt (by omega),zQ,zt (by omega)];simp only[Option.toList_some,yO];have f:(x.data.toList.take v.size).length=v.data.toList.length:=by rw[xE];omega
  rw[vk,uo,Zz,Zz,Zz]
  constructor
  ·rintro ⟨a,b⟩;rw[a,Ye.1 (show _=(47:UInt8).toNat from b)]
  ·intro a;obtain⟨b,c⟩:=List.append_inj a f;refine⟨b,?_⟩;injection c with c
   rw[c]
   rfl
 ·rw[zH h,zH (show ¬v.size+1<=x.size by omega),X8,X8]
theorem zaL(x v:BA)(B:Nat)(w:World)(f:w.cell? ⟨B,0,none⟩=some (.string x))(i:v.size<=100000) :
  Calls prog 330 #[.string v,.pointer (some ⟨B,0,none⟩)] w λe a=>e = .returned (.bool (De.QN x v))/\Below w.heap.size w a:=by
 rw[zaN];obtain⟨R,b⟩:=Nm ((decide ((v++⟨#[47]⟩:BA).size<=x.size)&&((x.extract 0 (v++⟨#[47]⟩:BA).size).toList==(v++⟨#[47]⟩:BA).toList)));have c:=λW=>dI x (v++⟨#[47]⟩) W R b.symm;rw[b]
 have c2:∀W,Calls prog 331 #[.string x,.string (v++⟨#[47]⟩)] W λe a=>e = .returned (.bool R)/\a=W:=by
  intro W;have d:=c W;clear c b f;go_enter func331,ntmps331
  go_wp2_with (go_at_call 338;refine d.mono ?_;rintro e a ⟨rfl,rfl⟩)
  go_ret;exact⟨rfl,rfl⟩
 have g:(v.size:Int)+1<=9223372036854775807:=by omega
 clear c b
 cases h:(x.toList==v.toList) with
 | true=>
  rw[YK];go_enter func330,ntmps330;go_wp2_with fail;go_ret;exact⟨rfl,zi _ _⟩
 | false=>
  rw[Xo];go_enter func330,ntmps330
  go_wp2_with (go_at_call 331;refine (c2 _).mono ?_;rintro e a ⟨rfl,rfl⟩)
  go_ret;exact⟨rfl,zi _ _⟩
theorem MP(S:Option BA)(vals:List BA)(b:Option Addr)(g B:Nat)(w:World)(l:vals.length<=100000)(i:∀v ∈ vals,v.size<=100000)(f:kI w b vals) :
  Calls prog 320 #[Zy S B,.slice b vals.length g] w λe k=>e = .returned (.bool (uM S λx=>vals.any λv=>De.QN x v))/\Below w.heap.size w k:=by
 have a:=λO:Obj=>nB w O;unfold Zy yw
 cases S with
 | none=>
  simp only[uM,Q0,kU];go_enter func320,ntmps320;go_wp2_with fail;go_ret;exact⟨rfl,a _⟩
 | some x=>
  simp only[uM,yO,uw]
  have c:=λu1 u2=>aO vals b g 330 #[.pointer (some ⟨w.heap.size,0,none⟩)] (λj=>De.QN x (ZL vals j)) (w.alloc (.cells #[.string x,u1,u2] 397)) (by omega)
   (qx func330 (by kernel_rfl) rfl) (Zo f (a _))
   (λW j d hb=>zaL x (ZL vals j) w.heap.size W (zh hb (DJ w _ _ _)) (by rw[iC vals j d];exact i _ (xg d)))
  rw[show (zD (λj=>De.QN x (ZL vals j)) vals.length).isSome=vals.any (λv=>De.QN x v) from VH vals ⟨#[]⟩ (λv=>De.QN x v)] at c
  generalize (vals.any λv=>De.QN x v)=F at c;have C:=hid c;clear f c;go_enter func320,ntmps320
  go_wp2_with (go_at_call 188;refine (C.out _ _).mono ?_;rintro e m ⟨rfl,h⟩)
  go_ret;exact⟨rfl,(a _).trans (h.mono (a _).size)⟩
theorem tV(s:BA):De.jo s=decide (0<s.size/\(s.data.toList.getD 0 0).toNat=45):=by
 unfold De.jo;rw[vk]
 simp
theorem FW(s:BA)(w:World):Calls prog 337 #[.string s,.string ⟨#[45]⟩] w λe a=>e = .returned (.tuple #[.string (De.kD s),.bool (De.jo s)])/\a=w:=by
 have c:=dI s ⟨#[45]⟩ w _ ((tC s).symm);rw[<- tV] at c
 have c2:Calls prog 341 #[.string s,.string ⟨#[45]⟩] w λe a=>e = .returned (.tuple #[.string (De.kD s),.bool (De.jo s)])/\a=w:=by
  unfold De.kD
  cases h:De.jo s with
  | true=>
   rw[h] at c;rw[zb rfl];rw[tV,jk] at h;have b:(1:Int)<=(s.size:Int):=by have:=h.1;omega
   clear h;go_enter func341,ntmps341
   go_wp2_with (go_at_call 338;refine c.mono ?_;rintro e a ⟨rfl,rfl⟩)
   go_ret2;exact⟨rfl,rfl⟩
  | false=>
   rw[h] at c;simp only[yB,yu];clear h;go_enter func341,ntmps341
   go_wp2_with (go_at_call 338;refine c.mono ?_;rintro e a ⟨rfl,rfl⟩)
   go_ret2;exact⟨rfl,rfl⟩
 clear c;go_enter func337,ntmps337
 go_wp2_with (go_at_call 341;refine c2.mono ?_;rintro e a ⟨rfl,rfl⟩)
 go_ret2;exact⟨rfl,rfl⟩
theorem OD(l:List UInt8)(k:Nat)(h:k<l.length):De.jI (l.take (k+1))=10*De.jI (l.take k)+(l[k].toNat-48):=by
 unfold De.jI De.Zg;rw[VB,zt h,List.foldl_append]
 rfl
theorem tT{l:List UInt8}(hd:∀c ∈ l,De.Ze c)(a:l.length<=18)(k:Nat):De.jI (l.take k)<1000000000000000000:=by
 have:=De.fP (l.take k) 0 (λc b=>hd c (Ju b))
 have d:10 ^ (l.take k).length<=10 ^ 18:=Nat.pow_le_pow_right (by omega) (by rw[xE];omega);unfold De.jI;omega
theorem wD(s:BA)(w:World)(h:Ref.xB s=true):Calls prog 328 #[.string s] w λe G=>e = .returned (.int .i64 (De.QH s))/\Below w.heap.size w G:=by
 obtain⟨z,_⟩:=De.dO h;obtain⟨hd,I,x,_,_⟩:=De.KD z;have v:=λW=>FW s W;unfold De.QH;obtain⟨t,A⟩:=Nm (De.kD s);rw[A] at z hd I x |-;simp only[A] at v;obtain⟨K,r⟩:∃b,De.jo s=b:=⟨_,rfl⟩;simp only[r] at v |-;have F:t.data.toList.length=t.size:=by simp
 obtain⟨C,O,J,p⟩:=aV t w;have o:Below w.heap.size w (w.alloc O).drew:=(nB w _).drew;have u:=hid hd;have H:=hid p;have l:=hid o;have m:=hid F;clear hd z A r h p o F;go_enter func328,ntmps328
 go_wp2_with (go_at_call 337;refine (v _).mono ?_;rintro e G ⟨rfl,B⟩;obtain rfl:=B.symm)
 go_loopw [5,16] (λL D wr=>∃k:Nat,k<=t.size/\D = .int .i64 k/\L = .int .i64 ((De.jI (t.data.toList.take k):Nat):Int)/\wr=(w.alloc O).drew) (λ_ D _=>t.size-(intOf D).toNat)
 case atStart=>exact⟨0,zU _,rfl,rfl,rfl⟩
 case round=>
  obtain⟨k,R,rfl,rfl,rfl⟩:=hrel
  by_cases hlt:k<t.size
  ·have i:k<t.data.toList.length:=by rw[m.out];exact hlt
   have q:=H.out k hlt;rw[qM,zQ,zt i] at q;simp only[yO] at q;have g:=u.out _ (xg i);have j:=OD t.data.toList k i;have a:=tT u.out (by rw[m.out];exact x) (k+1);unfold De.Ze at g;rw[j] at a;have n:=hid j;obtain⟨N,c⟩:=Nm (De.jI (t.data.toList.take k));obtain⟨d,f⟩:=Nm (t.data.toList[k].toNat);rw[c,f] at a n;rw[f] at g q;rw[c];obtain⟨P,Q⟩:=g;have M:IntKind.i64.wrap (10*(N:Int))=10*(N:Int):=by rw[Jr];omega
   have S:IntKind.u8.wrap ((d:Int)-48)=(d:Int)-48:=by rw[show IntKind.u8.wrap ((d:Int)-48)=((d:Int)-48) % 256 by simp[IntKind.wrap,IntKind.bits,IntKind.signed]];omega
   have T:IntKind.i64.wrap ((d:Int)-48)=(d:Int)-48:=by rw[Jr];omega
   have U:IntKind.i64.wrap (10*(N:Int)+((d:Int)-48))=10*(N:Int)+((d:Int)-48):=by rw[Jr];omega
   clear j c f;go_wp2_with fail
   go_roundw
   case rel=>exact⟨k+1,by omega,by go_num,by rw[n.out];congr 1;omega,trivial⟩
   case measure=>simp[intOf];omega
  ·have y:k=t.size:=by omega
   subst y;rw[ZU (by rw[m.out];omega)]
   have a:De.jI t.data.toList<1000000000000000000:=by
    have:=tT u.out (by rw[m.out];exact x) t.size
    rwa [ZU (by rw[m.out];omega)] at this
   obtain⟨N,c⟩:=Nm (De.jI t.data.toList);rw[c] at a |-;have E:=hid c;clear c
   cases K with
   | true=>
    have M:IntKind.i64.wrap (-(N:Int)) = -(N:Int):=by rw[Jr];omega
    go_wp2_with fail;go_ret;exact⟨by rw[E.out];rfl,l.out⟩
   | false=>
    go_wp2_with fail;go_ret;exact⟨by rw[E.out];rfl,l.out⟩
end Go.Proofs.YtagnlbgbnfnapaaGreatDoor
