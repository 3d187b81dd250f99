/- P -/
import Derived.Test.YtdakgnaojakldaaGreatDoorS41
open Go.Proofs.Tryz
set_option maxRecDepth 100000
set_option maxHeartbeats 1000000
namespace Go.Proofs.YtdakgnaojakldaaGreatDoor
open Go.RowKit
theorem Gx{w:World}{base:Nat}{e:TypeId}{v:Value}{n:Nat}{q:List (Int×BY)}(f:n=q.length)(h:w.ownsRow base e 1 v n (Pg.jb q)) :
  ∃ao cap,v = .slice ao (q.map Pg.ql).length cap/\(q.map Pg.ql).length<=cap/\rowAt w ao (q.map Pg.ql).length λj=>(q.map Pg.ql).getD j 0:=by
 subst f;have a:=λg d=>h.cells (g:=g) d;rw[List.length_map]
 rcases h.2 with ⟨rfl,h0⟩|⟨g,cap,cur,rfl,h3⟩
 ·exact⟨none,0,by rw[h0],by omega,.inl h0⟩
 ·refine⟨_,cap,rfl,h3.2.2.1,.inr ⟨g,0,rfl,λj c=>?_⟩⟩;have b:=a g rfl j (.int .i32 (Pg.ql q[j])) (by simp[Pg.jb,c]);rw[Xx] at b;rw[Nat.zero_add,b];simp[List.getD,c]
theorem Fv(r:Ref.Req)(t:List (Int×BY))(N:Value)(word:BY)(g:Nat)(M:Array Value)(w:World)(R:Pg.At w N t)(J:t.length<=60)(D:∀p ∈ t,Pg.Q7 p)
  (Y:word.size<=100)(L:(Ref.chars word).isSome=true)(E:∀n v,Ref.says r n=some v->v.size<=100/\(Ref.chars v).isSome=true)
  (T:∀args w,(callFunc g args).run prog w = .ok (.enter g args) w)
  (Q:∀W name,Below w.heap.size w W->Calls prog g (#[.string name]++M) W λe d=>e = .returned (.tuple #[.string ((Ref.says r name).getD ⟨#[]⟩),.bool (Ref.says r name).isSome])/\Below W.heap.size W d)
  (A:Bool)(k:(match Ref.laid r t with|none=>false|some q=>Ref.covers q ((Ref.chars word).getD []))=A) :
  Calls prog 174 #[N,.string word,.func (.func g) #[] M] w λe d=>e = .returned (.bool A)/\Below w.heap.size w d:=by
 have x:=Io r t N g M w R J (λp V Z=>by
  rcases D p V with h|⟨_,h⟩
  ·rcases h with h|h|⟨h,_⟩<;>omega
  ·exact Pg.DR p.2 h) E T Q
 have K:=Pg.Ct r t D;have z:=Pg.Kq word;have H:=Ref.JW word;have s:=λW=>fZ word W (by omega) L;obtain⟨cs,o⟩:=Nm ((Ref.chars word).getD []);simp only[o] at k z H s
 cases hL:Ref.laid r t with
 | none=>
  rw[hL] at k x;simp only at k;subst k;simp only[Option.isSome_none] at x;clear hL K o s;go_enter func174,ntmps174
  go_wp2_with (go_at_call 213;refine x.mono ?_;rintro e d ⟨v,rfl,f,l,hlen⟩)
  go_ret;exact⟨rfl,f⟩
 | some q=>
  rw[hL] at k x;simp only at k;have y:A=true↔Pg.Gl (q.map Pg.ql) (cs.map Pg.rI):=by rw[<- k];exact Pg.oH cs z q (K q hL)
  have F:=hid y;simp only[Option.isSome_some,Option.getD_some] at x
  have S:∀(ao:Option Addr) (cap C:Nat) (W:World) (O:Obj),q.length<=6000->(q.map Pg.ql).length<=cap->rowAt W ao (q.map Pg.ql).length (λj=>(q.map Pg.ql).getD j 0) ->
    (∀j u,(cs.map Pg.kF)[j]?=some u->(W.alloc O).drew.cell? ⟨W.heap.size,j,none⟩=some u) ->
    Calls prog 214 #[.slice ao q.length cap,.slice (some ⟨W.heap.size,0,none⟩) cs.length C] (W.alloc O).drew λe d=>e = .returned (.bool A)/\Below W.heap.size W d:=by
   intro ao cap C W O X a b i;have m:Below W.heap.size W (W.alloc O).drew:=(nb W O).drew
   have c:=Dm (q.map Pg.ql) (cs.map Pg.rI) ao (some ⟨W.heap.size,0,none⟩) cap C _ (V4 b m)
    (.inr ⟨W.heap.size,0,rfl,λj I=>by
      rw[List.length_map] at I;rw[Nat.zero_add,i j (Pg.kF cs[j]) (by simp[I])];simp[List.getD,I,Pg.kF,Pg.rI]⟩) (by simp;omega) (by simp;omega) a A F.out
   rw[List.length_map,List.length_map] at c;exact c.mono λe d ⟨U,hb⟩=>⟨U,m.trans (hb.mono m.size)⟩
  clear hL K o k y Q R E;go_enter func174,ntmps174
  go_wp2_with (first
   | (go_at_call 214;refine (S ao cap C d O hlen a b B).mono ?_;rintro e w2 ⟨rfl,G⟩)
   | (go_at_call 213;refine x.mono ?_;rintro e d ⟨v,rfl,f,l,hlen⟩;obtain⟨ao,cap,rfl,a,b⟩:=Gx rfl l;obtain⟨C,O,P,B⟩:=s d))
  go_ret;exact⟨rfl,f.trans (G.mono f.size)⟩
structure jF (w:World) (r:Ref.Req) (ao:Option Addr) (cap B:Nat):Prop where
 c0:w.cell? ⟨B,0,none⟩=some (.string r.who)
 c1:w.cell? ⟨B,1,none⟩=some (.string r.act)
 c2:w.cell? ⟨B,2,none⟩=some (.string r.on)
 c3:w.cell? ⟨B,3,none⟩=some (.slice ao r.marks.length cap)
 ms:qO w ao r.marks
 ok:Ref.xe r=true
theorem jF.below{w a:World}{r:Ref.Req}{ao:Option Addr}{cap B:Nat}(h:jF w r ao cap B)(hb:Below w.heap.size w a):jF a r ao cap B:=
 ⟨zg hb h.c0,zg hb h.c1,zg hb h.c2,zg hb h.c3,jm h.ms hb,h.ok⟩
def qQ(B:Nat):Value := .func (.func 215) #[] #[.pointer (some ⟨B,0,none⟩)]
theorem gm:∀args w,(callFunc 215 args).run prog w = .ok (.enter 215 args) w:=enters_of func215 (by kernel_rfl) rfl
theorem jF.call{w:World}{r:Ref.Req}{ao:Option Addr}{cap B:Nat}(h:jF w r ao cap B)(W:World)(name:BY)(hb:Below w.heap.size w W) :
  Calls prog 215 (#[.string name]++#[.pointer (some ⟨B,0,none⟩)]) W λe a=>e = .returned (.tuple #[.string ((Ref.says r name).getD ⟨#[]⟩),.bool (Ref.says r name).isSome])/\Below W.heap.size W a:=
 have k:=h.below hb
 Dr r name ao cap B W (by have:=Gr h.ok;omega) k.ms k.c0 k.c1 k.c2 k.c3
theorem Dq(pattern word:BY)(r:Ref.Req)(ao:Option Addr)(cap B:Nat)(w:World)(m:Ref.qf pattern=true)(k:jF w r ao cap B)(j:qD w)(C:word.size<=100)(y:(Ref.chars word).isSome=true) :
  Calls prog 265 #[.string pattern,.string word,qQ B] w λe D=>e = .returned (.bool (Ref.qJ pattern word r))/\Below w.heap.size w D:=by
 have u:=Ref.Fs pattern m;have o:=fJ pattern w (by unfold maxLen;omega) j.d.max j.d.tabs;obtain⟨h,f⟩:∃h,Ref.parts pattern=some h:=Option.isSome_iff_exists.1 m;have b:=Ref.Fj pattern;have a:=Pg.Fq pattern;rw[f] at b a o;simp only[Option.getD_some] at b a;obtain⟨A,g⟩:=Nm (Ref.qJ pattern word r);rw[g];unfold Ref.qJ at g;rw[f] at g;simp only[Option.getD_some] at g
 have n:=λ(W:World) (p:Value) (hb:Below w.heap.size w W) (z:Pg.At W p h)=>Fv r h p word 215 #[.pointer (some ⟨B,0,none⟩)] W z b a C y (gp k.ok) gm
  (λs name l=>(k.below hb).call s name l) A g
 have q:=hid n;clear n g k j a f m;unfold qQ;go_enter func265,ntmps265
 go_wp2_with (first
  | (go_at_call 174;refine (q.out E v i (Pg.mO rfl hown)).mono ?_;rintro e F ⟨rfl,t⟩)
  | (go_at_call 173;refine o.mono ?_;rintro e E ⟨v,x,rfl,i,c⟩;rcases c with ⟨hq,_⟩|⟨ps',hq,rfl,hown⟩;cases hq;cases hq))
 go_ret;exact⟨rfl,i.trans (t.mono i.size)⟩
theorem lI(pattern word:BY)(r:Ref.Req)(ao:Option Addr)(cap B a b:Nat)(w:World)(j:Ref.qf pattern=true)(f:jF w r ao cap B)(d:qD w)(k:word.size<=100)(i:(Ref.chars word).isSome=true)
  (m:w.cell? ⟨a,0,none⟩=some (.string word))(h:w.cell? ⟨b,0,none⟩=some (qQ B)) :
  Calls prog 264 #[.string pattern,.pointer (some ⟨a,0,none⟩),.pointer (some ⟨b,0,none⟩)] w λe l=>e = .returned (.bool (Ref.qJ pattern word r))/\Below w.heap.size w l:=by
 have c:=Dq pattern word r ao cap B w j f d k i;unfold qQ at c h;generalize Ref.qJ pattern word r=A at c;clear f d;go_enter func264,ntmps264
 go_wp2_with (go_at_call 265;refine c.mono ?_;rintro e n ⟨rfl,g⟩)
 go_ret;exact⟨rfl,g⟩
theorem UW(a:List BY)(word:BY)(r:Ref.Req)(ao h:Option Addr)(cap q B:Nat)(w:World)(t:∀p ∈ a,Ref.qf p=true)(v:a.length<=100000)(n:jB w h a)(l:jF w r ao cap B)(k:qD w)(u:word.size<=100)(s:(Ref.chars word).isSome=true) :
  Calls prog 257 #[.slice h a.length q,.string word,qQ B] w λe o=>e = .returned (.bool (a.any λp=>Ref.qJ p word r))/\Below w.heap.size w o:=by
 have f:Below w.heap.size w (w.alloc (.cells #[.string word] 9)):=nb w _;have b:Below w.heap.size w ((w.alloc (.cells #[.string word] 9)).alloc (.cells #[qQ B] 312)):=f.alloc f.size _
 have c:=JF a h q 264 #[.pointer (some ⟨w.heap.size,0,none⟩),.pointer (some ⟨w.heap.size+1,0,none⟩)] (λj=>Ref.qJ (vC a j) word r) ((w.alloc (.cells #[.string word] 9)).alloc (.cells #[qQ B] 312)) (by omega)
  (enters_of func264 (by kernel_rfl) rfl) (jQ n b)
  (λW j m hb=>by
    have d:Below w.heap.size w W:=b.trans (hb.mono b.size);refine lI (vC a j) word r ao cap B w.heap.size (w.heap.size+1) W (by rw[Uf a j m];exact t _ (List.getElem_mem m)) (l.below d) (k.below d) u s (zg hb (by simp)) (zg hb (by simp)))
 rw[show (zl (λj=>Ref.qJ (vC a j) word r) a.length).isSome=a.any (λp=>Ref.qJ p word r) from Xz a ⟨#[]⟩ (λp=>Ref.qJ p word r)] at c
 generalize a.any (λp=>Ref.qJ p word r)=F at c;unfold qQ at c b |-;have i:=hid b;clear l k n f b;go_enter func257,ntmps257
 go_wp2_with (go_at_call 195;refine c.mono ?_;rintro e o ⟨rfl,g⟩)
 go_ret;exact⟨rfl,i.out.trans (g.mono i.out.size)⟩
theorem JX(b:Bool×List BY)(word:BY)(r:Ref.Req)(ao a:Option Addr)(cap g B:Nat)(w:World)(x:∀p ∈ b.2,Ref.qf p=true)(v:b.2.length<=100000)(o:jB w a b.2)(u:jF w r ao cap B)(t:qD w)(A:word.size<=100)(z:(Ref.chars word).isSome=true) :
  Calls prog 245 #[.agg #[.bool b.1,.slice a b.2.length g],.string word,qQ B] w λe j=>e = .returned (.bool (De.xK b word r))/\Below w.heap.size w j:=by
 obtain⟨nt,f⟩:=b;unfold De.xK;simp only at x v o |-;have s:Below w.heap.size w (w.alloc (.cells #[.bool nt,.slice a f.length g] 130)):=nb w _;have c:=λ(W:World) (hb:Below w.heap.size w W)=>UW f word r ao a cap g B W x v (jQ o hb) (u.below hb) (t.below hb) A z;generalize (f.any λp=>Ref.qJ p word r)=F at c;unfold qQ at c |-;have C:=hid c;have h:=hid s;have m:=(ze (heap_alloc_new w (.cells #[.bool nt,.slice a f.length g] 130)) 0).1;have n:=(ze (heap_alloc_new w (.cells #[.bool nt,.slice a f.length g] 130)) 1).1;simp only[List.getElem?_toArray,List.getElem?_cons_zero,List.getElem?_cons_succ] at m n;obtain⟨q,d⟩:∃W,w.alloc (.cells #[.bool nt,.slice a f.length g] 130)=W:=⟨_,rfl⟩;rw[d] at h m n;have l:=hid d;clear u t o s c d;go_enter func245,ntmps245
 go_upto_region 1 with fail
 rw[l.out];have y:=hid (C.out q.drew h.out.drew)
 go_region_held3 (λj=>j.cell? ⟨w.heap.size,0,none⟩=some (.bool nt)/\j.cell? ⟨w.heap.size,1,none⟩=some (.slice a f.length g)) (go_keep) (first
  | ((go_at_call 257);refine y.out.mono ?_;rintro e D ⟨rfl,i⟩;have E:=zg i m;have G:=zg i n;have k:Hid (Below w.heap.size w D):=h.out.trans (((Below.refl _ q).drew.trans i).mono h.out.size);clear i))
 all_goals
  go_wp2_with fail;go_ret;exact⟨rfl,k.out⟩
def ja(S:Option BY)(f:BY->Bool):Bool:=match S with
 | none=>false
 | some x=>f x
def jX(S:Option BY)(B:Nat):Value := .agg #[.string (S.getD ⟨#[]⟩),.bool S.isSome,qQ B]
theorem lH(w:World)(u0 u1 u2:Value):(w.alloc (.cells #[u0,u1,u2] 408)).cell? ⟨w.heap.size,0,none⟩=some u0:=by
 simp
theorem Bg(S:Option BY)(vals:List BY)(r:Ref.Req)(ao f:Option Addr)(cap h B:Nat)(w:World)(n:∀x,S=some x->x.size<=100/\(Ref.chars x).isSome=true)(m:∀p ∈ vals,Ref.qf p=true)(l:vals.length<=100000)(g:jB w f vals)(d:jF w r ao cap B)(b:qD w) :
  Calls prog 321 #[jX S B,.slice f vals.length h] w λe o=>e = .returned (.bool (ja S λx=>vals.any λv=>Ref.qJ v x r))/\Below w.heap.size w o:=by
 have a:=λO:Obj=>nb w O;unfold jX qQ
 cases S with
 | none=>
  simp only[ja,Option.getD_none,Option.isSome_none];clear d b;go_enter func321,ntmps321;go_wp2_with fail;go_ret;exact⟨rfl,a _⟩
 | some x=>
  obtain⟨j,k⟩:=n x rfl;have c:=λO:Obj=>UW vals x r ao f cap h B (w.alloc O) m l (jQ g (a O)) (d.below (a O)) (b.below (a O)) j k;simp only[ja,Option.getD_some,Option.isSome_some];generalize (vals.any λv=>Ref.qJ v x r)=F at c;unfold qQ at c;have C:=hid c;clear d b g c;go_enter func321,ntmps321
  go_wp2_with (go_at_call 257;refine (C.out _).mono ?_;rintro e q ⟨rfl,i⟩)
  go_ret;exact⟨rfl,(a _).trans (i.mono (a _).size)⟩
theorem mV(x v:BY):(v.toList==x.toList)=(x.toList==v.toList):=by
 rw[Bool.eq_iff_iff,beq_iff_eq,beq_iff_eq];exact eq_comm
theorem Bl(S:Option BY)(vals:List BY)(b:Option Addr)(f B:Nat)(w:World)(i:vals.length<=100000)(d:jB w b vals) :
  Calls prog 323 #[jX S B,.slice b vals.length f] w λe h=>e = .returned (.bool (ja S λx=>vals.any λv=>x.toList==v.toList))/\Below w.heap.size w h:=by
 have a:=λO:Obj=>nb w O;unfold jX qQ
 cases S with
 | none=>
  simp only[ja,Option.getD_none,Option.isSome_none];go_enter func323,ntmps323;go_wp2_with fail;go_ret;exact⟨rfl,a _⟩
 | some x=>
  have c:=λO:Obj=>aR vals x b f (w.alloc O) (by omega) (jQ d (a O));simp only[mV] at c;simp only[ja,Option.getD_some,Option.isSome_some];generalize (vals.any λv=>x.toList==v.toList)=F at c;have C:=hid c;clear d c;go_enter func323,ntmps323
  go_wp2_with (go_at_call 149;refine (C.out _).mono ?_;rintro e j ⟨rfl,g⟩)
  go_ret;exact⟨rfl,(a _).trans (g.mono (a _).size)⟩
theorem AY(S:Option BY)(b:Value)(B:Nat)(w:World) :
  Calls prog 329 #[jX S B,b] w λe c=>e = .returned (.bool S.isNone)/\Below w.heap.size w c:=by
 have a:=λO:Obj=>nb w O;unfold jX qQ
 cases S with
 | none=>
  simp only[Option.getD_none,Option.isSome_none];go_enter func329,ntmps329;go_wp2_with fail;go_ret;exact⟨rfl,a _⟩
 | some x=>
  simp only[Option.getD_some,Option.isSome_some];go_enter func329,ntmps329;go_wp2_with fail;go_ret;exact⟨rfl,a _⟩
theorem Mj(x v:BY):De.yG x v=((x.toList==v.toList)||(decide ((v++⟨#[47]⟩:BY).size<=x.size)&&((x.extract 0 (v++⟨#[47]⟩:BY).size).toList==(v++⟨#[47]⟩:BY).toList))):=by
 have g:(v++⟨#[47]⟩:BY).size=v.size+1:=by rw[ByteArray.size_append];rfl
 have j:v.data.toList.length=v.size:=by simp
 have i:x.data.toList.length=x.size:=by simp
 unfold De.yG;rw[g];congr 1
 by_cases h:v.size<x.size
 ·rw[decide_eq_true h,decide_eq_true (show v.size+1<=x.size from h),Bool.true_and,Bool.true_and]
  have d:(x.extract 0 (v.size+1)).toList=x.data.toList.take (v.size+1):=by rw[ByteArray.toList_eq];simp
  have e:(v++⟨#[47]⟩:BY).toList=v.data.toList++[47]:=by rw[ByteArray.toList_eq];simp
  rw[d,e,List.take_add_one,List.getElem?_eq_getElem (by omega),List.getD_eq_getElem?_getD,List.getElem?_eq_getElem (by omega)];simp only[Option.toList_some,Option.getD_some];have f:(x.data.toList.take v.size).length=v.data.toList.length:=by rw[List.length_take];omega
  rw[Bool.eq_iff_iff,Bool.and_eq_true,beq_iff_eq,beq_iff_eq,beq_iff_eq]
  constructor
  ·rintro ⟨a,b⟩;rw[a,UInt8.toNat_inj.1 (show _=(47:UInt8).toNat from b)]
  ·intro a;obtain⟨b,c⟩:=List.append_inj a f;refine⟨b,?_⟩;injection c with c
   rw[c]
   rfl
 ·rw[decide_eq_false h,decide_eq_false (show ¬v.size+1<=x.size by omega),Bool.false_and,Bool.false_and]
theorem Mg(x v:BY)(B:Nat)(w:World)(f:w.cell? ⟨B,0,none⟩=some (.string x))(i:v.size<=100000) :
  Calls prog 337 #[.string v,.pointer (some ⟨B,0,none⟩)] w λe a=>e = .returned (.bool (De.yG x v))/\Below w.heap.size w a:=by
 rw[Mj];obtain⟨R,b⟩:=Nm ((decide ((v++⟨#[47]⟩:BY).size<=x.size)&&((x.extract 0 (v++⟨#[47]⟩:BY).size).toList==(v++⟨#[47]⟩:BY).toList)));have c:=λW=>Vu x (v++⟨#[47]⟩) W R b.symm;rw[b]
 have c2:∀W,Calls prog 338 #[.string x,.string (v++⟨#[47]⟩)] W λe a=>e = .returned (.bool R)/\a=W:=by
  intro W;have d:=c W;clear c b f;go_enter func338,ntmps338
  go_wp2_with (go_at_call 345;refine d.mono ?_;rintro e a ⟨rfl,rfl⟩)
  go_ret;exact⟨rfl,rfl⟩
 have g:(v.size:Int)+1<=9223372036854775807:=by omega
 clear c b
 cases h:(x.toList==v.toList) with
 | true=>
  rw[Bool.true_or];go_enter func337,ntmps337;go_wp2_with fail;go_ret;exact⟨rfl,Below.refl _ _⟩
 | false=>
  rw[Bool.false_or];go_enter func337,ntmps337
  go_wp2_with (go_at_call 338;refine (c2 _).mono ?_;rintro e a ⟨rfl,rfl⟩)
  go_ret;exact⟨rfl,Below.refl _ _⟩
theorem Bo(S:Option BY)(vals:List BY)(b:Option Addr)(g B:Nat)(w:World)(l:vals.length<=100000)(i:∀v ∈ vals,v.size<=100000)(f:jB w b vals) :
  Calls prog 327 #[jX S B,.slice b vals.length g] w λe k=>e = .returned (.bool (ja S λx=>vals.any λv=>De.yG x v))/\Below w.heap.size w k:=by
 have a:=λO:Obj=>nb w O;unfold jX qQ
 cases S with
 | none=>
  simp only[ja,Option.getD_none,Option.isSome_none];go_enter func327,ntmps327;go_wp2_with fail;go_ret;exact⟨rfl,a _⟩
 | some x=>
  simp only[ja,Option.getD_some,Option.isSome_some]
  have c:=λu1 u2=>JF vals b g 337 #[.pointer (some ⟨w.heap.size,0,none⟩)] (λj=>De.yG x (vC vals j)) (w.alloc (.cells #[.string x,u1,u2] 408)) (by omega)
   (enters_of func337 (by kernel_rfl) rfl) (jQ f (a _))
   (λW j d hb=>Mg x (vC vals j) w.heap.size W (zg hb (lH w _ _ _)) (by rw[Uf vals j d];exact i _ (List.getElem_mem d)))
  rw[show (zl (λj=>De.yG x (vC vals j)) vals.length).isSome=vals.any (λv=>De.yG x v) from Xz vals ⟨#[]⟩ (λv=>De.yG x v)] at c
  generalize (vals.any λv=>De.yG x v)=F at c;have C:=hid c;clear f c;go_enter func327,ntmps327
  go_wp2_with (go_at_call 195;refine (C.out _ _).mono ?_;rintro e m ⟨rfl,h⟩)
  go_ret;exact⟨rfl,(a _).trans (h.mono (a _).size)⟩
theorem di(s:BY):De.xO s=decide (0<s.size/\(s.data.toList.getD 0 0).toNat=45):=by
 unfold De.xO;rw[Bool.eq_iff_iff]
 simp
theorem oI(s:BY)(w:World):Calls prog 344 #[.string s,.string ⟨#[45]⟩] w λe a=>e = .returned (.tuple #[.string (De.jk s),.bool (De.xO s)])/\a=w:=by
 have c:=Vu s ⟨#[45]⟩ w _ ((bX s).symm);rw[<- di] at c
 have c2:Calls prog 348 #[.string s,.string ⟨#[45]⟩] w λe a=>e = .returned (.tuple #[.string (De.jk s),.bool (De.xO s)])/\a=w:=by
  unfold De.jk
  cases h:De.xO s with
  | true=>
   rw[h] at c;rw[if_pos rfl];rw[di,decide_eq_true_eq] at h;have b:(1:Int)<=(s.size:Int):=by have:=h.1;omega
   clear h;go_enter func348,ntmps348
   go_wp2_with (go_at_call 345;refine c.mono ?_;rintro e a ⟨rfl,rfl⟩)
   go_ret2;exact⟨rfl,rfl⟩
  | false=>
   rw[h] at c;simp only[Bool.false_eq_true,if_false];clear h;go_enter func348,ntmps348
   go_wp2_with (go_at_call 345;refine c.mono ?_;rintro e a ⟨rfl,rfl⟩)
   go_ret2;exact⟨rfl,rfl⟩
 clear c;go_enter func344,ntmps344
 go_wp2_with (go_at_call 348;refine c2.mono ?_;rintro e a ⟨rfl,rfl⟩)
 go_ret2;exact⟨rfl,rfl⟩
theorem DT(l:List UInt8)(k:Nat)(h:k<l.length):De.xY (l.take (k+1))=10*De.xY (l.take k)+(l[k].toNat-48):=by
 unfold De.xY De.jM;rw[List.take_add_one,List.getElem?_eq_getElem h,List.foldl_append]
 rfl
theorem dh{l:List UInt8}(hd:∀c ∈ l,De.jL c)(a:l.length<=18)(k:Nat):De.xY (l.take k)<1000000000000000000:=by
 have:=De.VH (l.take k) 0 (λc b=>hd c (List.mem_of_mem_take b))
 have d:10 ^ (l.take k).length<=10 ^ 18:=Nat.pow_le_pow_right (by omega) (by rw[List.length_take];omega);unfold De.xY;omega
theorem dF(s:BY)(w:World)(h:Ref.qj s=true):Calls prog 335 #[.string s] w λe G=>e = .returned (.int .i64 (De.uz s))/\Below w.heap.size w G:=by
 obtain⟨z,_⟩:=De.Vz h;obtain⟨hd,I,x,_,_⟩:=De.Y8 z;have v:=λW=>oI s W;unfold De.uz;obtain⟨t,A⟩:=Nm (De.jk s);rw[A] at z hd I x |-;simp only[A] at v;obtain⟨K,r⟩:∃b,De.xO s=b:=⟨_,rfl⟩;simp only[r] at v |-;have F:t.data.toList.length=t.size:=by simp
 obtain⟨C,O,J,p⟩:=JM t w;have o:Below w.heap.size w (w.alloc O).drew:=(nb w _).drew;have u:=hid hd;have H:=hid p;have l:=hid o;have m:=hid F;clear hd z A r h p o F;go_enter func335,ntmps335
 go_wp2_with (go_at_call 344;refine (v _).mono ?_;rintro e G ⟨rfl,B⟩;obtain rfl:=B.symm)
 go_loopw [5,16] (λL D wr=>∃k:Nat,k<=t.size/\D = .int .i64 k/\L = .int .i64 ((De.xY (t.data.toList.take k):Nat):Int)/\wr=(w.alloc O).drew) (λ_ D _=>t.size-(intOf D).toNat)
 case atStart=>exact⟨0,Nat.zero_le _,rfl,rfl,rfl⟩
 case round=>
  obtain⟨k,R,rfl,rfl,rfl⟩:=hrel
  by_cases hlt:k<t.size
  ·have i:k<t.data.toList.length:=by rw[m.out];exact hlt
   have q:=H.out k hlt;rw[Nat.zero_add,List.getD_eq_getElem?_getD,List.getElem?_eq_getElem i] at q;simp only[Option.getD_some] at q;have g:=u.out _ (List.getElem_mem i);have j:=DT t.data.toList k i;have a:=dh u.out (by rw[m.out];exact x) (k+1);unfold De.jL at g;rw[j] at a;have n:=hid j;obtain⟨N,c⟩:=Nm (De.xY (t.data.toList.take k));obtain⟨d,f⟩:=Nm (t.data.toList[k].toNat);rw[c,f] at a n;rw[f] at g q;rw[c];obtain⟨P,Q⟩:=g;have M:IntKind.i64.wrap (10*(N:Int))=10*(N:Int):=by rw[IntKind.wrap_i64];omega
   have S:IntKind.u8.wrap ((d:Int)-48)=(d:Int)-48:=by rw[show IntKind.u8.wrap ((d:Int)-48)=((d:Int)-48) % 256 by simp[IntKind.wrap,IntKind.bits,IntKind.signed]];omega
   have T:IntKind.i64.wrap ((d:Int)-48)=(d:Int)-48:=by rw[IntKind.wrap_i64];omega
   have U:IntKind.i64.wrap (10*(N:Int)+((d:Int)-48))=10*(N:Int)+((d:Int)-48):=by rw[IntKind.wrap_i64];omega
   clear j c f;go_wp2_with fail
   go_roundw
   case rel=>exact⟨k+1,by omega,by go_num,by rw[n.out];congr 1;omega,trivial⟩
   case measure=>simp[intOf];omega
  ·have y:k=t.size:=by omega
   subst y;rw[List.take_of_length_le (by rw[m.out];omega)]
   have a:De.xY t.data.toList<1000000000000000000:=by
    have:=dh u.out (by rw[m.out];exact x) t.size
    rwa [List.take_of_length_le (by rw[m.out];omega)] at this
   obtain⟨N,c⟩:=Nm (De.xY t.data.toList);rw[c] at a |-;have E:=hid c;clear c
   cases K with
   | true=>
    have M:IntKind.i64.wrap (-(N:Int)) = -(N:Int):=by rw[IntKind.wrap_i64];omega
    go_wp2_with fail;go_ret;exact⟨by rw[E.out];rfl,l.out⟩
   | false=>
    go_wp2_with fail;go_ret;exact⟨by rw[E.out];rfl,l.out⟩
end Go.Proofs.YtdakgnaojakldaaGreatDoor
