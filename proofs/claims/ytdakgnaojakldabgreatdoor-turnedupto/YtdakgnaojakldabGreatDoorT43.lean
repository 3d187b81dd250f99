/- P -/
import Derived.Test.YtdakgnaojakldabGreatDoorT42
import Derived.Test.YtdakgnaojakldabGreatDoorT39
open Go.Proofs.Tryz
set_option maxRecDepth 100000
set_option maxHeartbeats 1000000
namespace Go.Proofs.YtdakgnaojakldabGreatDoor
open Go.RowKit
theorem ML{w:World}{base:Nat}{e:TypeId}{v:Value}{n:Nat}{q:List (Int×BA)}(f:n=q.length)(h:w.ownsRow base e 1 v n (Pg.jN q)) :
  ∃ao cap,v = .slice ao (q.map Pg.qB).length cap/\(q.map Pg.qB).length<=cap/\rowAt w ao (q.map Pg.qB).length λj=>(q.map Pg.qB).getD j 0:=by
 subst f;have a:=λg d=>h.cells (g:=g) d;rw[List.length_map]
 rcases h.2 with ⟨rfl,h0⟩|⟨g,cap,cur,rfl,h3⟩
 ·exact⟨none,0,by rw[h0],by omega,.inl h0⟩
 ·refine⟨_,cap,rfl,h3.2.2.1,.inr ⟨g,0,rfl,λj c=>?_⟩⟩;have b:=a g rfl j (.int .i32 (Pg.qB q[j])) (by simp[Pg.jN,c]);rw[Ye] at b;rw[Nat.zero_add,b];simp[List.getD,c]
theorem Lr(r:Ref.Req)(t:List (Int×BA))(N:Value)(word:BA)(g:Nat)(M:Array Value)(w:World)(R:Pg.At w N t)(J:t.length<=60)(D:∀p ∈ t,Pg.XM p)
  (Z:word.size<=100)(L:(Ref.chars word).isSome=true)(E:∀n v,Ref.says r n=some v->v.size<=100/\(Ref.chars v).isSome=true)
  (T:∀args w,(callFunc g args).run prog w = .ok (.enter g args) w)
  (Q:∀W name,Below w.heap.size w W->Calls prog g (#[.string name]++M) W λe d=>e = .returned (.tuple #[.string ((Ref.says r name).getD ⟨#[]⟩),.bool (Ref.says r name).isSome])/\Below W.heap.size W d)
  (A:Bool)(k:(match Ref.laid r t with|none=>false|some q=>Ref.covers q ((Ref.chars word).getD []))=A) :
  Calls prog 145 #[N,.string word,.func (.func g) #[] M] w λe d=>e = .returned (.bool A)/\Below w.heap.size w d:=by
 have x:=NP r t N g M w R J (λp X h4=>by
  rcases D p X with h|⟨_,h⟩
  ·rcases h with h|h|⟨h,_⟩<;>omega
  ·exact Pg.Ha p.2 h) E T Q
 have K:=Pg.FN r t D;have z:=Pg.bg word;have H:=Ref.VS word;have s:=λW=>lH word W (by omega) L;obtain⟨cs,o⟩:=Nm ((Ref.chars word).getD []);simp only[o] at k z H s
 cases hL:Ref.laid r t with
 | none=>
  rw[hL] at k x;simp only at k;subst k;simp only[Option.isSome_none] at x;clear hL K o s;go_enter func145,ntmps145
  go_wp2_with (go_at_call 147;refine x.mono ?_;rintro e d ⟨v,rfl,f,l,hlen⟩)
  go_ret;exact⟨rfl,f⟩
 | some q=>
  rw[hL] at k x;simp only at k;have y:A=true↔Pg.Gl (q.map Pg.qB) (cs.map Pg.rI):=by rw[<- k];exact Pg.wP cs z q (K q hL)
  have F:=hid y;simp only[Option.isSome_some,Option.getD_some] at x
  have S:∀(ao:Option Addr) (cap C:Nat) (W:World) (O:Obj),q.length<=6000->(q.map Pg.qB).length<=cap->rowAt W ao (q.map Pg.qB).length (λj=>(q.map Pg.qB).getD j 0) ->
    (∀j u,(cs.map Pg.Zq)[j]?=some u->(W.alloc O).drew.cell? ⟨W.heap.size,j,none⟩=some u) ->
    Calls prog 148 #[.slice ao q.length cap,.slice (some ⟨W.heap.size,0,none⟩) cs.length C] (W.alloc O).drew λe d=>e = .returned (.bool A)/\Below W.heap.size W d:=by
   intro ao cap C W O Y a b i;have m:Below W.heap.size W (W.alloc O).drew:=(nB W O).drew
   have c:=Gw (q.map Pg.qB) (cs.map Pg.rI) ao (some ⟨W.heap.size,0,none⟩) cap C _ (Ke b m)
    (.inr ⟨W.heap.size,0,rfl,λj I=>by
      rw[List.length_map] at I;rw[Nat.zero_add,i j (Pg.Zq cs[j]) (by simp[I])];simp[List.getD,I,Pg.Zq,Pg.rI]⟩) (by simp;omega) (by simp;omega) a A F.out
   rw[List.length_map,List.length_map] at c;exact c.mono λe d ⟨V,U⟩=>⟨V,m.trans (U.mono m.size)⟩
  clear hL K o k y Q R E;go_enter func145,ntmps145
  go_wp2_with (first
   | (go_at_call 148;refine (S ao cap C d O hlen a b B).mono ?_;rintro e w2 ⟨rfl,G⟩)
   | (go_at_call 147;refine x.mono ?_;rintro e d ⟨v,rfl,f,l,hlen⟩;obtain⟨ao,cap,rfl,a,b⟩:=ML rfl l;obtain⟨C,O,P,B⟩:=s d))
  go_ret;exact⟨rfl,f.trans (G.mono f.size)⟩
structure vz (w:World) (r:Ref.Req) (ao:Option Addr) (cap B:Nat):Prop where
 c0:w.cell? ⟨B,0,none⟩=some (.string r.who)
 c1:w.cell? ⟨B,1,none⟩=some (.string r.act)
 c2:w.cell? ⟨B,2,none⟩=some (.string r.on)
 c3:w.cell? ⟨B,3,none⟩=some (.slice ao r.marks.length cap)
 ms:xL w ao r.marks
 ok:Ref.xO r=true
theorem vz.below{w b:World}{r:Ref.Req}{ao:Option Addr}{cap B:Nat}(h:vz w r ao cap B)(a:Below w.heap.size w b):vz b r ao cap B:=
 ⟨zb a h.c0,zb a h.c1,zb a h.c2,zb a h.c3,jY h.ms a,h.ok⟩
def xk(B:Nat):Value := .func (.func 128) #[] #[.pointer (some ⟨B,0,none⟩)]
theorem lJ:∀args w,(callFunc 128 args).run prog w = .ok (.enter 128 args) w:=enters_of func128 (by kernel_rfl) rfl
theorem vz.call{w:World}{r:Ref.Req}{ao:Option Addr}{cap B:Nat}(h:vz w r ao cap B)(W:World)(name:BA)(a:Below w.heap.size w W) :
  Calls prog 128 (#[.string name]++#[.pointer (some ⟨B,0,none⟩)]) W λe b=>e = .returned (.tuple #[.string ((Ref.says r name).getD ⟨#[]⟩),.bool (Ref.says r name).isSome])/\Below W.heap.size W b:=
 have k:=h.below a
 Gy r name ao cap B W (by have:=MC h.ok;omega) k.ms k.c0 k.c1 k.c2 k.c3
theorem Gx(pattern word:BA)(r:Ref.Req)(ao:Option Addr)(cap B:Nat)(w:World)(m:Ref.qX pattern=true)(k:vz w r ao cap B)(j:qR w)(D:word.size<=100)(z:(Ref.chars word).isSome=true) :
  Calls prog 140 #[.string pattern,.string word,xk B] w λe E=>e = .returned (.bool (Ref.jg pattern word r))/\Below w.heap.size w E:=by
 have u:=Ref.Lm pattern m;have o:=lh pattern w (by unfold maxLen;omega) j.d.max j.d.tabs;obtain⟨h,f⟩:∃h,Ref.parts pattern=some h:=Option.isSome_iff_exists.1 m;have b:=Ref.Li pattern;have a:=Pg.Ll pattern;rw[f] at b a o;simp only[Option.getD_some] at b a;obtain⟨A,g⟩:=Nm (Ref.jg pattern word r);rw[g];unfold Ref.jg at g;rw[f] at g;simp only[Option.getD_some] at g
 have n:=λ(W:World) (p:Value) (y:Below w.heap.size w W) (C:Pg.At W p h)=>Lr r h p word 128 #[.pointer (some ⟨B,0,none⟩)] W C b a D z (lK k.ok) lJ
  (λs name l=>(k.below y).call s name l) A g
 have q:=hid n;clear n g k j a f m;unfold xk;go_enter func140,ntmps140
 go_wp2_with (first
  | (go_at_call 145;refine (q.out F v i (Pg.rO rfl hown)).mono ?_;rintro e G ⟨rfl,t⟩)
  | (go_at_call 113;refine o.mono ?_;rintro e F ⟨v,x,rfl,i,c⟩;rcases c with ⟨hq,_⟩|⟨ps',hq,rfl,hown⟩;cases hq;cases hq))
 go_ret;exact⟨rfl,i.trans (t.mono i.size)⟩
theorem oV(pattern word:BA)(r:Ref.Req)(ao:Option Addr)(cap B a b:Nat)(w:World)(j:Ref.qX pattern=true)(f:vz w r ao cap B)(d:qR w)(k:word.size<=100)(i:(Ref.chars word).isSome=true)
  (m:w.cell? ⟨a,0,none⟩=some (.string word))(h:w.cell? ⟨b,0,none⟩=some (xk B)) :
  Calls prog 139 #[.string pattern,.pointer (some ⟨a,0,none⟩),.pointer (some ⟨b,0,none⟩)] w λe l=>e = .returned (.bool (Ref.jg pattern word r))/\Below w.heap.size w l:=by
 have c:=Gx pattern word r ao cap B w j f d k i;unfold xk at c h;generalize Ref.jg pattern word r=A at c;clear f d;go_enter func139,ntmps139
 go_wp2_with (go_at_call 140;refine c.mono ?_;rintro e n ⟨rfl,g⟩)
 go_ret;exact⟨rfl,g⟩
theorem ag(a:List BA)(word:BA)(r:Ref.Req)(ao i:Option Addr)(cap s B:Nat)(w:World)(u:∀p ∈ a,Ref.qX p=true)(x:a.length<=100000)(o:vo w i a)(m:vz w r ao cap B)(l:qR w)(v:word.size<=100)(t:(Ref.chars word).isSome=true) :
  Calls prog 130 #[.slice i a.length s,.string word,xk B] w λe q=>e = .returned (.bool (a.any λp=>Ref.jg p word r))/\Below w.heap.size w q:=by
 have f:Below w.heap.size w (w.alloc (.cells #[.string word] 9)):=nB w _;have b:Below w.heap.size w ((w.alloc (.cells #[.string word] 9)).alloc (.cells #[xk B] 244)):=f.alloc f.size _
 have c:=VD a i s 139 #[.pointer (some ⟨w.heap.size,0,none⟩),.pointer (some ⟨w.heap.size+1,0,none⟩)] (λj=>Ref.jg (uo a j) word r) ((w.alloc (.cells #[.string word] 9)).alloc (.cells #[xk B] 244)) (by omega)
  (enters_of func139 (by kernel_rfl) rfl) (vN o b)
  (λW j n g=>by
    have d:Below w.heap.size w W:=b.trans (g.mono b.size);refine oV (uo a j) word r ao cap B w.heap.size (w.heap.size+1) W (by rw[Kq a j n];exact u _ (List.getElem_mem n)) (m.below d) (l.below d) v t (zb g (by simp)) (zb g (by simp)))
 rw[show (zm (λj=>Ref.jg (uo a j) word r) a.length).isSome=a.any (λp=>Ref.jg p word r) from Yg a ⟨#[]⟩ (λp=>Ref.jg p word r)] at c
 generalize a.any (λp=>Ref.jg p word r)=F at c;unfold xk at c b |-;have k:=hid b;clear m l o f b;go_enter func130,ntmps130
 go_wp2_with (go_at_call 108;refine c.mono ?_;rintro e q ⟨rfl,h⟩)
 go_ret;exact⟨rfl,k.out.trans (h.mono k.out.size)⟩
theorem VV(b:Bool×List BA)(word:BA)(r:Ref.Req)(ao a:Option Addr)(cap g B:Nat)(w:World)(x:∀p ∈ b.2,Ref.qX p=true)(v:b.2.length<=100000)(o:vo w a b.2)(u:vz w r ao cap B)(t:qR w)(A:word.size<=100)(z:(Ref.chars word).isSome=true) :
  Calls prog 118 #[.agg #[.bool b.1,.slice a b.2.length g],.string word,xk B] w λe i=>e = .returned (.bool (De.jr b word r))/\Below w.heap.size w i:=by
 obtain⟨nt,f⟩:=b;unfold De.jr;simp only at x v o |-;have s:Below w.heap.size w (w.alloc (.cells #[.bool nt,.slice a f.length g] 101)):=nB w _;have c:=λ(W:World) (n:Below w.heap.size w W)=>ag f word r ao a cap g B W x v (vN o n) (u.below n) (t.below n) A z;generalize (f.any λp=>Ref.jg p word r)=F at c;unfold xk at c |-;have C:=hid c;have h:=hid s;have l:=(za (heap_alloc_new w (.cells #[.bool nt,.slice a f.length g] 101)) 0).1;have m:=(za (heap_alloc_new w (.cells #[.bool nt,.slice a f.length g] 101)) 1).1;simp only[List.getElem?_toArray,List.getElem?_cons_zero,List.getElem?_cons_succ] at l m;obtain⟨q,d⟩:∃W,w.alloc (.cells #[.bool nt,.slice a f.length g] 101)=W:=⟨_,rfl⟩;rw[d] at h l m;have k:=hid d;clear u t o s c d;go_enter func118,ntmps118
 go_upto_region 1 with fail
 rw[k.out];have y:=hid (C.out q.drew h.out.drew)
 go_region_held3 (λi=>i.cell? ⟨w.heap.size,0,none⟩=some (.bool nt)/\i.cell? ⟨w.heap.size,1,none⟩=some (.slice a f.length g)) (go_keep) (first
  | ((go_at_call 130);refine y.out.mono ?_;rintro e D ⟨rfl,bb⟩;have E:=zb bb l;have G:=zb bb m;have j:Hid (Below w.heap.size w D):=h.out.trans (((Below.refl _ q).drew.trans bb).mono h.out.size);clear bb))
 all_goals
  go_wp2_with fail;go_ret;exact⟨rfl,j.out⟩
def jL(S:Option BA)(f:BA->Bool):Bool:=match S with
 | none=>false
 | some x=>f x
def vT(S:Option BA)(B:Nat):Value := .agg #[.string (S.getD ⟨#[]⟩),.bool S.isSome,xk B]
theorem oQ(w:World)(u0 u1 u2:Value):(w.alloc (.cells #[u0,u1,u2] 265)).cell? ⟨w.heap.size,0,none⟩=some u0:=by
 simp
theorem Eo(S:Option BA)(vals:List BA)(r:Ref.Req)(ao f:Option Addr)(cap h B:Nat)(w:World)(n:∀x,S=some x->x.size<=100/\(Ref.chars x).isSome=true)(m:∀p ∈ vals,Ref.qX p=true)(l:vals.length<=100000)(g:vo w f vals)(d:vz w r ao cap B)(b:qR w) :
  Calls prog 210 #[vT S B,.slice f vals.length h] w λe o=>e = .returned (.bool (jL S λx=>vals.any λv=>Ref.jg v x r))/\Below w.heap.size w o:=by
 have a:=λO:Obj=>nB w O;unfold vT xk
 cases S with
 | none=>
  simp only[jL,Option.getD_none,Option.isSome_none];clear d b;go_enter func210,ntmps210;go_wp2_with fail;go_ret;exact⟨rfl,a _⟩
 | some x=>
  obtain⟨j,k⟩:=n x rfl;have c:=λO:Obj=>ag vals x r ao f cap h B (w.alloc O) m l (vN g (a O)) (d.below (a O)) (b.below (a O)) j k;simp only[jL,Option.getD_some,Option.isSome_some];generalize (vals.any λv=>Ref.jg v x r)=F at c;unfold xk at c;have C:=hid c;clear d b g c;go_enter func210,ntmps210
  go_wp2_with (go_at_call 130;refine (C.out _).mono ?_;rintro e q ⟨rfl,i⟩)
  go_ret;exact⟨rfl,(a _).trans (i.mono (a _).size)⟩
theorem rT(x v:BA):(v.toList==x.toList)=(x.toList==v.toList):=by
 rw[Bool.eq_iff_iff,beq_iff_eq,beq_iff_eq];exact eq_comm
theorem Et(S:Option BA)(vals:List BA)(b:Option Addr)(f B:Nat)(w:World)(i:vals.length<=100000)(d:vo w b vals) :
  Calls prog 212 #[vT S B,.slice b vals.length f] w λe h=>e = .returned (.bool (jL S λx=>vals.any λv=>x.toList==v.toList))/\Below w.heap.size w h:=by
 have a:=λO:Obj=>nB w O;unfold vT xk
 cases S with
 | none=>
  simp only[jL,Option.getD_none,Option.isSome_none];go_enter func212,ntmps212;go_wp2_with fail;go_ret;exact⟨rfl,a _⟩
 | some x=>
  have c:=λO:Obj=>dY vals x b f (w.alloc O) (by omega) (vN d (a O));simp only[rT] at c;simp only[jL,Option.getD_some,Option.isSome_some];generalize (vals.any λv=>x.toList==v.toList)=F at c;have C:=hid c;clear d c;go_enter func212,ntmps212
  go_wp2_with (go_at_call 88;refine (C.out _).mono ?_;rintro e j ⟨rfl,g⟩)
  go_ret;exact⟨rfl,(a _).trans (g.mono (a _).size)⟩
theorem Ef(S:Option BA)(b:Value)(B:Nat)(w:World) :
  Calls prog 218 #[vT S B,b] w λe c=>e = .returned (.bool S.isNone)/\Below w.heap.size w c:=by
 have a:=λO:Obj=>nB w O;unfold vT xk
 cases S with
 | none=>
  simp only[Option.getD_none,Option.isSome_none];go_enter func218,ntmps218;go_wp2_with fail;go_ret;exact⟨rfl,a _⟩
 | some x=>
  simp only[Option.getD_some,Option.isSome_some];go_enter func218,ntmps218;go_wp2_with fail;go_ret;exact⟨rfl,a _⟩
theorem Rj(x v:BA):De.kZ x v=((x.toList==v.toList)||(decide ((v++⟨#[47]⟩:BA).size<=x.size)&&((x.extract 0 (v++⟨#[47]⟩:BA).size).toList==(v++⟨#[47]⟩:BA).toList))):=by
 have g:(v++⟨#[47]⟩:BA).size=v.size+1:=by rw[ByteArray.size_append];rfl
 have j:v.data.toList.length=v.size:=by simp
 have i:x.data.toList.length=x.size:=by simp
 unfold De.kZ;rw[g];congr 1
 by_cases h:v.size<x.size
 ·rw[decide_eq_true h,decide_eq_true (show v.size+1<=x.size from h),Bool.true_and,Bool.true_and]
  have d:(x.extract 0 (v.size+1)).toList=x.data.toList.take (v.size+1):=by rw[ByteArray.toList_eq];simp
  have e:(v++⟨#[47]⟩:BA).toList=v.data.toList++[47]:=by rw[ByteArray.toList_eq];simp
  rw[d,e,List.take_add_one,List.getElem?_eq_getElem (by omega),List.getD_eq_getElem?_getD,List.getElem?_eq_getElem (by omega)];simp only[Option.toList_some,Option.getD_some];have f:(x.data.toList.take v.size).length=v.data.toList.length:=by rw[List.length_take];omega
  rw[Bool.eq_iff_iff,Bool.and_eq_true,beq_iff_eq,beq_iff_eq,beq_iff_eq]
  constructor
  ·rintro ⟨a,b⟩;rw[a,UInt8.toNat_inj.1 (show _=(47:UInt8).toNat from b)]
  ·intro a;obtain⟨b,c⟩:=List.append_inj a f;refine⟨b,?_⟩;injection c with c
   rw[c]
   rfl
 ·rw[decide_eq_false h,decide_eq_false (show ¬v.size+1<=x.size by omega),Bool.false_and,Bool.false_and]
theorem Rh(x v:BA)(B:Nat)(w:World)(f:w.cell? ⟨B,0,none⟩=some (.string x))(i:v.size<=100000) :
  Calls prog 226 #[.string v,.pointer (some ⟨B,0,none⟩)] w λe a=>e = .returned (.bool (De.kZ x v))/\Below w.heap.size w a:=by
 rw[Rj];obtain⟨R,b⟩:=Nm ((decide ((v++⟨#[47]⟩:BA).size<=x.size)&&((x.extract 0 (v++⟨#[47]⟩:BA).size).toList==(v++⟨#[47]⟩:BA).toList)));have c:=λW=>Us x (v++⟨#[47]⟩) W R b.symm;rw[b]
 have c2:∀W,Calls prog 227 #[.string x,.string (v++⟨#[47]⟩)] W λe a=>e = .returned (.bool R)/\a=W:=by
  intro W;have d:=c W;clear c b f;go_enter func227,ntmps227
  go_wp2_with (go_at_call 234;refine d.mono ?_;rintro e a ⟨rfl,rfl⟩)
  go_ret;exact⟨rfl,rfl⟩
 have g:(v.size:Int)+1<=9223372036854775807:=by omega
 clear c b
 cases h:(x.toList==v.toList) with
 | true=>
  rw[Bool.true_or];go_enter func226,ntmps226;go_wp2_with fail;go_ret;exact⟨rfl,Below.refl _ _⟩
 | false=>
  rw[Bool.false_or];go_enter func226,ntmps226
  go_wp2_with (go_at_call 227;refine (c2 _).mono ?_;rintro e a ⟨rfl,rfl⟩)
  go_ret;exact⟨rfl,Below.refl _ _⟩
theorem Ew(S:Option BA)(vals:List BA)(b:Option Addr)(g B:Nat)(w:World)(m:vals.length<=100000)(k:∀v ∈ vals,v.size<=100000)(f:vo w b vals) :
  Calls prog 216 #[vT S B,.slice b vals.length g] w λe l=>e = .returned (.bool (jL S λx=>vals.any λv=>De.kZ x v))/\Below w.heap.size w l:=by
 have a:=λO:Obj=>nB w O;unfold vT xk
 cases S with
 | none=>
  simp only[jL,Option.getD_none,Option.isSome_none];go_enter func216,ntmps216;go_wp2_with fail;go_ret;exact⟨rfl,a _⟩
 | some x=>
  simp only[jL,Option.getD_some,Option.isSome_some]
  have c:=λu1 u2=>VD vals b g 226 #[.pointer (some ⟨w.heap.size,0,none⟩)] (λj=>De.kZ x (uo vals j)) (w.alloc (.cells #[.string x,u1,u2] 265)) (by omega)
   (enters_of func226 (by kernel_rfl) rfl) (vN f (a _))
   (λW j d i=>Rh x (uo vals j) w.heap.size W (zb i (oQ w _ _ _)) (by rw[Kq vals j d];exact k _ (List.getElem_mem d)))
  rw[show (zm (λj=>De.kZ x (uo vals j)) vals.length).isSome=vals.any (λv=>De.kZ x v) from Yg vals ⟨#[]⟩ (λv=>De.kZ x v)] at c
  generalize (vals.any λv=>De.kZ x v)=F at c;have C:=hid c;clear f c;go_enter func216,ntmps216
  go_wp2_with (go_at_call 108;refine (C.out _ _).mono ?_;rintro e n ⟨rfl,h⟩)
  go_ret;exact⟨rfl,(a _).trans (h.mono (a _).size)⟩
theorem gy(s:BA):De.yc s=decide (0<s.size/\(s.data.toList.getD 0 0).toNat=45):=by
 unfold De.yc;rw[Bool.eq_iff_iff]
 simp
theorem wQ(s:BA)(w:World):Calls prog 233 #[.string s,.string ⟨#[45]⟩] w λe a=>e = .returned (.tuple #[.string (De.jW s),.bool (De.yc s)])/\a=w:=by
 have c:=Us s ⟨#[45]⟩ w _ ((fU s).symm);rw[<- gy] at c
 have c2:Calls prog 237 #[.string s,.string ⟨#[45]⟩] w λe a=>e = .returned (.tuple #[.string (De.jW s),.bool (De.yc s)])/\a=w:=by
  unfold De.jW
  cases h:De.yc s with
  | true=>
   rw[h] at c;rw[if_pos rfl];rw[gy,decide_eq_true_eq] at h;have b:(1:Int)<=(s.size:Int):=by have:=h.1;omega
   clear h;go_enter func237,ntmps237
   go_wp2_with (go_at_call 234;refine c.mono ?_;rintro e a ⟨rfl,rfl⟩)
   go_ret2;exact⟨rfl,rfl⟩
  | false=>
   rw[h] at c;simp only[Bool.false_eq_true,if_false];clear h;go_enter func237,ntmps237
   go_wp2_with (go_at_call 234;refine c.mono ?_;rintro e a ⟨rfl,rfl⟩)
   go_ret2;exact⟨rfl,rfl⟩
 clear c;go_enter func233,ntmps233
 go_wp2_with (go_at_call 237;refine c2.mono ?_;rintro e a ⟨rfl,rfl⟩)
 go_ret2;exact⟨rfl,rfl⟩
theorem Hg(l:List UInt8)(k:Nat)(h:k<l.length):De.yw (l.take (k+1))=10*De.yw (l.take k)+(l[k].toNat-48):=by
 unfold De.yw De.vJ;rw[List.take_add_one,List.getElem?_eq_getElem h,List.foldl_append]
 rfl
theorem gu{l:List UInt8}(hd:∀c ∈ l,De.vI c)(a:l.length<=18)(k:Nat):De.yw (l.take k)<1000000000000000000:=by
 have:=De.UH (l.take k) 0 (λc b=>hd c (List.mem_of_mem_take b))
 have d:10 ^ (l.take k).length<=10 ^ 18:=Nat.pow_le_pow_right (by omega) (by rw[List.length_take];omega);unfold De.yw;omega
theorem gK(s:BA)(w:World)(h:Ref.qE s=true):Calls prog 224 #[.string s] w λe G=>e = .returned (.int .i64 (De.kL s))/\Below w.heap.size w G:=by
 obtain⟨z,_⟩:=De.Uy h;obtain⟨hd,I,x,_,_⟩:=De.JW z;have v:=λW=>wQ s W;unfold De.kL;obtain⟨t,A⟩:=Nm (De.jW s);rw[A] at z hd I x |-;simp only[A] at v;obtain⟨K,r⟩:∃b,De.yc s=b:=⟨_,rfl⟩;simp only[r] at v |-;have F:t.data.toList.length=t.size:=by simp
 obtain⟨C,O,J,p⟩:=VJ t w;have o:Below w.heap.size w (w.alloc O).drew:=(nB w _).drew;have u:=hid hd;have H:=hid p;have l:=hid o;have m:=hid F;clear hd z A r h p o F;go_enter func224,ntmps224
 go_wp2_with (go_at_call 233;refine (v _).mono ?_;rintro e G ⟨rfl,B⟩;obtain rfl:=B.symm)
 go_loopw [5,16] (λL D wr=>∃k:Nat,k<=t.size/\D = .int .i64 k/\L = .int .i64 ((De.yw (t.data.toList.take k):Nat):Int)/\wr=(w.alloc O).drew) (λ_ D _=>t.size-(intOf D).toNat)
 case atStart=>exact⟨0,Nat.zero_le _,rfl,rfl,rfl⟩
 case round=>
  obtain⟨k,R,rfl,rfl,rfl⟩:=hrel
  by_cases hlt:k<t.size
  ·have i:k<t.data.toList.length:=by rw[m.out];exact hlt
   have q:=H.out k hlt;rw[Nat.zero_add,List.getD_eq_getElem?_getD,List.getElem?_eq_getElem i] at q;simp only[Option.getD_some] at q;have g:=u.out _ (List.getElem_mem i);have j:=Hg t.data.toList k i;have a:=gu u.out (by rw[m.out];exact x) (k+1);unfold De.vI at g;rw[j] at a;have n:=hid j;obtain⟨N,c⟩:=Nm (De.yw (t.data.toList.take k));obtain⟨d,f⟩:=Nm (t.data.toList[k].toNat);rw[c,f] at a n;rw[f] at g q;rw[c];obtain⟨P,Q⟩:=g;have M:IntKind.i64.wrap (10*(N:Int))=10*(N:Int):=by rw[IntKind.wrap_i64];omega
   have S:IntKind.u8.wrap ((d:Int)-48)=(d:Int)-48:=by rw[show IntKind.u8.wrap ((d:Int)-48)=((d:Int)-48) % 256 by simp[IntKind.wrap,IntKind.bits,IntKind.signed]];omega
   have T:IntKind.i64.wrap ((d:Int)-48)=(d:Int)-48:=by rw[IntKind.wrap_i64];omega
   have U:IntKind.i64.wrap (10*(N:Int)+((d:Int)-48))=10*(N:Int)+((d:Int)-48):=by rw[IntKind.wrap_i64];omega
   clear j c f;go_wp2_with fail
   go_roundw
   case rel=>exact⟨k+1,by omega,by go_num,by rw[n.out];congr 1;omega,trivial⟩
   case measure=>simp[intOf];omega
  ·have y:k=t.size:=by omega
   subst y;rw[List.take_of_length_le (by rw[m.out];omega)]
   have a:De.yw t.data.toList<1000000000000000000:=by
    have:=gu u.out (by rw[m.out];exact x) t.size
    rwa [List.take_of_length_le (by rw[m.out];omega)] at this
   obtain⟨N,c⟩:=Nm (De.yw t.data.toList);rw[c] at a |-;have E:=hid c;clear c
   cases K with
   | true=>
    have M:IntKind.i64.wrap (-(N:Int)) = -(N:Int):=by rw[IntKind.wrap_i64];omega
    go_wp2_with fail;go_ret;exact⟨by rw[E.out];rfl,l.out⟩
   | false=>
    go_wp2_with fail;go_ret;exact⟨by rw[E.out];rfl,l.out⟩
end Go.Proofs.YtdakgnaojakldabGreatDoor
