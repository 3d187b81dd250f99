/- P -/
import Derived.Test.YtdakgnaojakldaaGreatDoorP21
set_option maxRecDepth 100000
set_option maxHeartbeats 2000000
namespace Go.Proofs.YtdakgnaojakldaaGreatDoor
open Go.RowKit
def YN:Rd.V→Nat
 | .obj ms=>ms.length
 | _=>0
def stX:Rd.V→Option Rd.V
 | .obj ms=>Rd.zK ms Rd.zN
 | _=>none
def uG:Option Rd.V→List Rd.V
 | some (.list vs)=>vs
 | _=>[]
theorem zlo (v:Rd.V):Rd.zan v=if YN v≠1∨(uG (stX v)).length<1∨10<(uG (stX v)).length then (5,0) else Rd.yz ((uG (stX v)).map Rd.jC) 0:=by
 match v with
 | .str s=>rfl
 | .word b=>rfl
 | .list vs=>rfl
 | .obj ms=>
  have key:∀X:Option Rd.V,(match X with
    | some (.list vs)=>if ms.length≠1∨vs.length<1∨10<vs.length then ((5:Int),0) else Rd.yz (vs.map Rd.jC) 0
    | _=>(5,0))=if ms.length≠1∨(uG X).length<1∨10<(uG X).length then (5,0) else Rd.yz ((uG X).map Rd.jC) 0:=by
   intro X
   match X with
   | none=>simp [uG]
   | some (.str s)=>simp [uG]
   | some (.word b)=>simp [uG]
   | some (.obj m)=>simp [uG]
   | some (.list vs)=>rfl
  exact key _
theorem zd2 {w:World} {v:Rd.V} {u:Value} (h:OAt w (some v) u) (hG:Rd.Good 4000 v):∃ao cap b gv,(∀W,(Instr.typeAssert u 114 118 true).run Tryz.prog W = .ok (.tuple #[.slice ao (YN v) cap, .bool b]) W) ∧
  (∀W,Below w.heap.size w W→Calls Tryz.prog 51 #[.slice ao (YN v) cap, .string Rd.zN] W fun e w'=>e = .returned gv∧Below W.heap.size W w')∧OAt w (stX v) gv:=by
 by_cases ho:∃ms,v = .obj ms
 ·obtain ⟨ms,rfl⟩:=ho
  obtain ⟨us,ao,cap,rfl,hO⟩:=Uj h
  have hml:ms.length≤4000:=by cases hG with|obj _ h=>exact h
  refine ⟨ao,cap,true,QH us Rd.zN,fun W=>?_,fun W hb=>?_,hO.get Rd.zN⟩
  ·show _=Result.ok (Value.tuple #[.slice ao ms.length cap, .bool true]) W
   rw [← hO.len];exact Yp _ W
  ·have:=KP (w:=W) cap (hO.below hb) hml Rd.zN
   rw [hO.len] at this
   exact this
 ·have hno:∀ms,some v≠some (.obj ms):=fun ms e=>ho ⟨ms,by simpa using e⟩
  have hl:YN v=0:=by
   cases v with
   | obj ms=>exact absurd ⟨ms,rfl⟩ ho
   | _=>rfl
  have hx:stX v=none:=by
   cases v with
   | obj ms=>exact absurd ⟨ms,rfl⟩ ho
   | _=>rfl
  rw [hl,hx]
  exact ⟨none,0,false, .nilIface,fun W=>XZ h hno W,fun W _=>zlN [] none 0 Rd.zN W (by simp) (.inl rfl) (by simp),rfl⟩
theorem zaK {w:World} {x:Option Rd.V} {u:Value} (h:OAt w x u):∃lo cap b,(∀W,(Instr.typeAssert u 114 121 true).run Tryz.prog W = .ok (.tuple #[.slice lo (uG x).length cap, .bool b]) W) ∧
  ∃us:List Value,us.length=(uG x).length∧yT w lo us∧∀(j:Nat) (v:Rd.V) (u:Value),(uG x)[j]?=some v→us[j]?=some u→OAt w (some v) u:=by
 by_cases ho:∃vs,x=some (.list vs)
 ·obtain ⟨vs,rfl⟩:=ho
  have hv:ValAt w (fun b=>b<w.heap.size) (.list vs) u:=h
  cases hv with
  | list _ us ao cap h1 h2 h3=>
   refine ⟨ao,cap,true,fun W=>?_,us,h1,?_,fun j v u hv hu=>h3 j v u hv hu⟩
   ·show _=Result.ok (Value.tuple #[.slice ao vs.length cap, .bool true]) W
    rw [← h1];exact ZU _ W
   ·rcases h2 with h2|⟨b,ha,_,hc⟩
    ·exact .inl h2
    ·exact .inr ⟨b,0,ha,fun j hj=>by rw [Nat.zero_add];exact hc j _ (List.getElem?_eq_getElem hj)⟩
 ·have hno:∀vs,x≠some (.list vs):=fun vs e=>ho ⟨vs,e⟩
  have hl:uG x=[]:=by
   match x with
   | none=>rfl
   | some (.str s)=>rfl
   | some (.word b)=>rfl
   | some (.obj ms)=>rfl
   | some (.list vs)=>exact absurd rfl (hno vs)
  rw [hl]
  exact ⟨none,0,false,fun W=>Q9 h hno W,[],rfl, .inl rfl,fun j v u hv _=>by simp at hv⟩
theorem zdb (s:ByteArray) (w:World) (EL:Value) (v:Rd.V) (q:Nat) (hQ:zkz w EL) (hs:s.size≤4000) (hr:Rd.vK s.data.toList = .ok v q) (hbad:YN v≠1∨(uG (stX v)).length<1∨10<(uG (stX v)).length) :
  Calls Tryz.prog 32 #[.string s] w (QR w EL (5,0) []):=by
 have hb0:=(Below.refl _ w).alloc (Nat.le_refl _) zgz
 have cc:=zh1 s (w.alloc zgz) (hQ.below hb0).seq hs
 rw [hr] at cc
 unfold jL at cc
 simp only at cc
 have hgd:=Rd.XB hr
 rw [Ref.zg] at hgd
 have hG:Rd.Good 4000 v:=by
  clear cc hr hbad
  induction hgd with
  | str t h=>exact .str t (by omega)
  | word b=>exact .word b
  | list vs h _ ih=>exact .list vs (by omega) ih
  | obj ms h h2 h3 _ ih=>exact .obj ms (by omega) h2 (fun m hm=>by have:=h3 m hm;omega) ih
 obtain ⟨n,hn⟩:∃n,YN v=n:=⟨_,rfl⟩
 obtain ⟨m,hm⟩:∃m,(uG (stX v)).length=m:=⟨_,rfl⟩
 have hview:=fun W u (h:OAt W (some v) u)=>zd2 h hG
 have hlist:=fun W gv (h:OAt W (stX v) gv)=>zaK h
 rw [hn,hm] at hbad
 simp only [hn] at hview
 simp only [hm] at hlist
 unfold zgz at hb0 cc
 unfold Rd.zN at hview
 clear hQ hs hr hn hm hgd hG
 by_cases h1:n=1
 ·subst h1
  by_cases h2:m=0
  ·subst h2
   go_enter Tryz.func32,Tryz.ntmps32
   go_wp2_with (first
    | (go_at_call 51;refine (cG w1 (Below.refl _ _)).mono ?_;rintro e w2 ⟨rfl,hb2⟩;have hb1':=hb1.trans (hb2.mono hb1.size);obtain ⟨r0,f0⟩:=one_cell hb1')
    | (go_at_call 50;refine cc.mono ?_;rintro e w1 ⟨u,rfl,hva,hb1⟩;have hO:OAt w1 (some v) u:=ValAt.move hva (fun _ hb=>hb.2) (fun _ _=>rfl);obtain ⟨ao,cap,bb,gv,taO,cG,hgv⟩:=hview w1 u hO;obtain ⟨lo,lcap,lb,taL,_⟩:=hlist w1 gv hgv;obtain ⟨T,y,rfl⟩:=ValAt.iface hva))
   exact bodyPost_ret (v := .tuple #[.agg #[.slice none 0 0], .iface 125 (.agg #[.string ⟨#[100,111,99,117,109,101,110,116]⟩])]) (by simp [results,Tryz.results32,go_sem,r0]) rfl ⟨_,_,_,_,rfl, .doc _,(hb0.trans (hb1'.mono (by simp))).setCell (Nat.le_refl _) _,fun h=>by simp at h⟩
  ·have d2:((m:Int)==0)=false:=by simp;omega
   have d3:decide ((10:Int)<(m:Int))=true:=by simp;omega
   go_enter Tryz.func32,Tryz.ntmps32
   go_wp2_with (first
    | (go_at_call 51;refine (cG w1 (Below.refl _ _)).mono ?_;rintro e w2 ⟨rfl,hb2⟩;have hb1':=hb1.trans (hb2.mono hb1.size);obtain ⟨r0,f0⟩:=one_cell hb1')
    | (go_at_call 50;refine cc.mono ?_;rintro e w1 ⟨u,rfl,hva,hb1⟩;have hO:OAt w1 (some v) u:=ValAt.move hva (fun _ hb=>hb.2) (fun _ _=>rfl);obtain ⟨ao,cap,bb,gv,taO,cG,hgv⟩:=hview w1 u hO;obtain ⟨lo,lcap,lb,taL,_⟩:=hlist w1 gv hgv;obtain ⟨T,y,rfl⟩:=ValAt.iface hva))
   exact bodyPost_ret (v := .tuple #[.agg #[.slice none 0 0], .iface 125 (.agg #[.string ⟨#[100,111,99,117,109,101,110,116]⟩])]) (by simp [results,Tryz.results32,go_sem,r0]) rfl ⟨_,_,_,_,rfl, .doc _,(hb0.trans (hb1'.mono (by simp))).setCell (Nat.le_refl _) _,fun h=>by simp at h⟩
 ·have d1:((n:Int) != 1)=true:=by simp;omega
  clear hbad
  go_enter Tryz.func32,Tryz.ntmps32
  go_wp2_with (first
   | (go_at_call 51;refine (cG w1 (Below.refl _ _)).mono ?_;rintro e w2 ⟨rfl,hb2⟩;have hb1':=hb1.trans (hb2.mono hb1.size);obtain ⟨r0,f0⟩:=one_cell hb1')
   | (go_at_call 50;refine cc.mono ?_;rintro e w1 ⟨u,rfl,hva,hb1⟩;have hO:OAt w1 (some v) u:=ValAt.move hva (fun _ hb=>hb.2) (fun _ _=>rfl);obtain ⟨ao,cap,bb,gv,taO,cG,hgv⟩:=hview w1 u hO;obtain ⟨lo,lcap,lb,taL,_⟩:=hlist w1 gv hgv;obtain ⟨T,y,rfl⟩:=ValAt.iface hva))
  exact bodyPost_ret (v := .tuple #[.agg #[.slice none 0 0], .iface 125 (.agg #[.string ⟨#[100,111,99,117,109,101,110,116]⟩])]) (by simp [results,Tryz.results32,go_sem,r0]) rfl ⟨_,_,_,_,rfl, .doc _,(hb0.trans (hb1'.mono (by simp))).setCell (Nat.le_refl _) _,fun h=>by simp at h⟩
theorem zhb {L:Nat} (hL:L≤4000) {v:Rd.V} (h:Rd.Good L v):Rd.Good 4000 v:=by
 induction h with
 | str t h=>exact .str t (by omega)
 | word b=>exact .word b
 | list vs h _ ih=>exact .list vs (by omega) ih
 | obj ms h h2 h3 _ ih=>exact .obj ms (by omega) h2 (fun m hm=>by have:=h3 m hm;omega) ih
theorem xJ.below {w w':World} {base:Nat} {lv:Value} {ss:List xH} (h:xJ w base lv ss) (hb:Below w.heap.size w w'):xJ w' base lv ss:=by
 obtain ⟨xs,h1,h2⟩:=h
 exact ⟨xs,ownsRow_below h1 hb,fun j hj=>(h2 j hj).below hb⟩
theorem xJ.mono {w:World} {base base':Nat} {lv:Value} {ss:List xH} (h:xJ w base lv ss) (hb:base'≤base):xJ w base' lv ss:=by
 obtain ⟨xs,h1,h2⟩:=h
 exact ⟨xs,zl h1 hb,fun j hj=>(h2 j hj).mono hb⟩
theorem xJ.set {w:World} {base:Nat} {lv:Value} {ss:List xH} (h:xJ w base lv ss) {b:Nat} (hb:b<base) (o:Nat) (u:Value):xJ (w.setCell ⟨b,o,none⟩ u) base lv ss:=by
 obtain ⟨xs,h1,h2⟩:=h
 exact ⟨xs,zer h1 (by intro he;have:=(h1.lt b he).1;omega) o u,fun j hj=>(h2 j hj).set hb o u⟩
theorem ziP {w W:World} {T:TypeId} {x:Value} {fb o:Nat} (hb:Below (w.alloc (.cells #[.slice none 0 0] 72)).heap.size (w.alloc (.cells #[.slice none 0 0] 72)) W) (h:W.cell? ⟨fb,o,none⟩=some (.iface T x)) (y:Value) :
  (W.setCell ⟨w.heap.size,0,none⟩ y).cell? ⟨fb,o,none⟩=some (.iface T x):=by
 have hne:fb≠w.heap.size:=by
  intro e
  subst e
  have hc:=(cells_of_block (zQ hb) o).1
  rw [h] at hc
  cases o with
  | zero=>simp at hc
  | succ o=>simp at hc
 rw [World.cell?_setCell_other _ _ _ _ (by simp only [ne_eq,Addr.mk.injEq];omega)]
 exact h
theorem zcf (cs:List Nat) (us:List Value) (ao:Option Addr) (cap:Nat) (w:World) (hn:us.length≤100000) (hm:yT w ao us) (hF:FVs cs us) :
  Calls Tryz.prog 54 #[.slice ao us.length cap, .func (.func 55) #[] #[]] w fun e w'=>
   e = .returned (.tuple #[.int .i64 (((zB (fun j=>cs.getD j 0 != 0) cs.length).getD 0:Nat):Int), .bool (zB (fun j=>cs.getD j 0 != 0) cs.length).isSome])∧Below w.heap.size w w':=by
 have e2:∀args w,(callFunc 55 args).run Tryz.prog w = .ok (.enter 55 args) w:=enters_of Tryz.func55 (by kernel_rfl) rfl
 have c:=VF us ao cap _ (fun j=>cs.getD j 0 != 0) w (by omega) e2 hm hF.form (fun W j hj hb=>by
  have:=zbL _ _ W (hF.at j hj)
  rw [show us[j]=us.getD j .nilIface by rw [List.getD_eq_getElem?_getD,List.getElem?_eq_getElem hj];rfl] at this
  exact this)
 rw [hF.1] at c ⊢
 exact c
theorem zbC {L:Nat} {v:Rd.V} (h:Rd.Good L v):∀x ∈ uG (stX v),Rd.Good L x:=by
 intro x hx
 match v with
 | .str s=>simp [stX,uG] at hx
 | .word b=>simp [stX,uG] at hx
 | .list vs=>simp [stX,uG] at hx
 | .obj ms=>
  cases hg:Rd.zK ms Rd.zN with
  | none=>simp only [stX,hg,uG,List.not_mem_nil] at hx
  | some y=>
   have hy:=Rd.qx h Rd.zN y hg
   cases y with
   | list vs=>
    simp only [stX,hg,uG] at hx
    cases hy with|list _ _ h=>exact h x hx
   | str s=>simp only [stX,hg,uG,List.not_mem_nil] at hx
   | word b=>simp only [stX,hg,uG,List.not_mem_nil] at hx
   | obj m=>simp only [stX,hg,uG,List.not_mem_nil] at hx
theorem zbs (s:ByteArray) (w:World) (EL:Value) (v:Rd.V) (q:Nat) (hQ:zkz w EL) (hs:s.size≤4000) (hr:Rd.vK s.data.toList = .ok v q) (h1:YN v=1) (h2:1≤(uG (stX v)).length) (h3:(uG (stX v)).length≤10) :
  Calls Tryz.prog 32 #[.string s] w (QR w EL (Rd.ZW ((uG (stX v)).map Rd.jX) 0) ((uG (stX v)).map uM)):=by
 have hb0:=(Below.refl _ w).alloc (Nat.le_refl _) zgz
 have cc:=zh1 s (w.alloc zgz) (hQ.below hb0).seq hs
 rw [hr] at cc
 unfold jL at cc
 simp only at cc
 have hgd:=Rd.XB hr
 rw [Ref.zg] at hgd
 have hG:=zhb hs hgd
 have hGv:=zbC hG
 have hview:=fun W u (h:OAt W (some v) u)=>zd2 h hG
 have hlist:=fun W gv (h:OAt W (stX v) gv)=>zaK h
 simp only [h1] at hview
 obtain ⟨vs,hvs⟩:∃vs,uG (stX v)=vs:=⟨_,rfl⟩
 rw [hvs] at h2 h3 hGv ⊢
 simp only [hvs] at hlist
 have cE:=fun (us:List Value) ao cap W (hb:Below w.heap.size w W)=>zgp vs us ao cap W (hQ.below hb).p
 have hcl:∀c ∈ vs.map Rd.jX,c≤2:=by
  intro c hc
  rw [List.mem_map] at hc
  obtain ⟨x,_,rfl⟩:=hc
  exact Rd.zj7 x
 have hlen:(vs.map Rd.jX).length=vs.length:=by simp
 obtain ⟨cs,hcs⟩:∃cs,vs.map Rd.jX=cs:=⟨_,rfl⟩
 have cE2:=cE
 simp only [hcs] at cE2
 rw [hcs] at hcl hlen ⊢
 obtain ⟨ss,hss⟩:∃ss,vs.map uM=ss:=⟨_,rfl⟩
 have hsl:ss.length=vs.length:=by rw [← hss];simp
 simp only [hss] at cE2
 rw [hss]
 obtain ⟨m,hm⟩:∃m,vs.length=m:=⟨_,rfl⟩
 rw [hm] at h2 h3 hlen
 have cFF:=fun (ys:List Value) fa fc W hn hm' hF=>zcf cs ys fa fc W hn hm' hF
 have HHV:=hid hlist
 have HGV:=hid hGv
 have HE:=hid cE2
 have HMV:=hid hm
 unfold zgz at hb0 cc
 unfold Rd.zN at hview
 have d2:((m:Int)==0)=false:=by simp;omega
 have d3:decide ((10:Int)<(m:Int))=false:=by simp;omega
 clear hQ hs hr hgd hG h1 hvs hcs hss hm cE cE2 hlist hGv
 cases hx:zB (fun j=>cs.getD j 0 != 0) cs.length with
 | none=>
  have hz:Rd.ZW cs 0=(0,0):=Rd.JP cs 0 (fun c hc=>by
   obtain ⟨j,hj,rfl⟩:=Jd hc
   simpa using jT hx j hj)
  rw [hz]
  simp only [hx,Option.getD_none,Option.isSome_none] at cFF
  clear hz hx hcl
  go_enter Tryz.func32,Tryz.ntmps32
  go_wp2_with (first
   | (go_at_call 54;refine cF2.mono ?_;rintro e w4 ⟨rfl,hb4⟩;have aw4:=aw3.trans (hb4.mono aw3.size);obtain ⟨r0,f0⟩:=one_cell aw4)
   | (go_at_call 52;refine cE3.mono ?_;rintro e w3 ⟨oa,fa,oc,fc,ys,rfl,hyl,hya,hyf,hb3,hown⟩;have aw3:=aw2.trans (hb3.mono aw2.size);have cF2:=cFF ys fa fc w3 (by omega) hya hyf;rw [hyl] at cF2)
   | (go_at_call 51;refine (cG w1 (Below.refl _ _)).mono ?_;rintro e w2 ⟨rfl,hb2⟩;have aw2:=hb1.trans (hb2.mono hb1.size);have bw2:Below w.heap.size w w2:=hb0.trans (aw2.mono (by simp));have cE3:=HE.out us lo lcap w2 bw2 hul (by omega) (ul hua hb2) (fun j x y hx hy=>(huv j x y hx hy).below hb2) HGV.out;rw [hul,HMV.out] at cE3)
   | (go_at_call 50;refine cc.mono ?_;rintro e w1 ⟨u,rfl,hva,hb1⟩;have hO:OAt w1 (some v) u:=ValAt.move hva (fun _ hb=>hb.2) (fun _ _=>rfl);obtain ⟨ao,cap,bb,gv,taO,cG,hgv⟩:=hview w1 u hO;obtain ⟨lo,lcap,lb,taL,us,hul,hua,huv⟩:=HHV.out w1 gv hgv;have hulm:us.length=m:=hul.trans HMV.out;rw [HMV.out] at taL;obtain ⟨T,y,rfl⟩:=ValAt.iface hva))
  have hz2:w.heap.size<w2.heap.size:=by have h:=aw2.size;simp at h;omega
  exact bodyPost_ret (v := .tuple #[.agg #[.slice oa m oc], .nilIface]) (by simp [results,Tryz.results32,go_sem,r0]) rfl ⟨_,_,_,_,rfl, .ok,(hb0.trans (aw4.mono (by simp))).setCell (Nat.le_refl _) _,fun _=>((hown.below hb4).set hz2 _ _).mono (by omega)⟩
 | some k=>
  obtain ⟨hk1,hk2,hk3⟩:=uq hx
  have hck:cs.getD k 0=cs[k]:=by rw [List.getD_eq_getElem?_getD,List.getElem?_eq_getElem hk1];rfl
  have hk0:cs[k]≠0:=by rw [← hck];simpa using hk2
  have hkl:=hcl cs[k] (List.getElem_mem hk1)
  have hz:Rd.ZW cs 0=(if cs[k]=1 then 5 else 6,0+k+1):=Rd.Vu cs 0 k hk1 (fun j hj=>by
   have:=hk3 j hj
   rw [List.getD_eq_getElem?_getD,List.getElem?_eq_getElem (show j<cs.length by omega)] at this
   simpa using this) hk0 hkl
  rw [hz,Nat.zero_add]
  simp only [hx,Option.getD_some,Option.isSome_some] at cFF
  have hkm:k<m:=by omega
  have hki:(k:Int)<(m:Int):=by omega
  have hcase:cs[k]=1∨cs[k]=2:=by omega
  obtain ⟨ck,hckk⟩:∃c,cs[k]=c:=⟨_,rfl⟩
  rw [hckk] at hcase hck ⊢
  have HCK:=hid hck
  clear hz hx hcl hk2 hk3 hck hk0 hkl hckk hk1
  rcases hcase with rfl|rfl
  ·simp only [if_true]
   go_enter Tryz.func32,Tryz.ntmps32
   go_upto_region 11 with (first
   | (go_at_call 54;refine cF2.mono ?_;rintro e w4 ⟨rfl,hb4⟩;have aw4:=aw3.trans (hb4.mono aw3.size);obtain ⟨r0,f0⟩:=one_cell aw4;have hfvk:=(hyf.at k (by omega));rw [HCK.out] at hfvk;rcases hfvk with ⟨h,_⟩|⟨_,pp,hyk⟩|⟨h,_⟩;(exfalso;simp at h);rotate_left;(exfalso;simp at h);rcases hya with hnil|⟨fb,fo,rfl,hfc⟩;(exfalso;rw [hnil] at hyl;simp at hyl;omega);have qk:=cell_later hb4 (hfc k (by omega));rw [hyk] at qk;have qk2:=ziP aw4 qk)
   | (go_at_call 52;refine cE3.mono ?_;rintro e w3 ⟨oa,fa,oc,fc,ys,rfl,hyl,hya,hyf,hb3,hown⟩;have aw3:=aw2.trans (hb3.mono aw2.size);have cF2:=cFF ys fa fc w3 (by omega) hya hyf;rw [hyl] at cF2)
   | (go_at_call 51;refine (cG w1 (Below.refl _ _)).mono ?_;rintro e w2 ⟨rfl,hb2⟩;have aw2:=hb1.trans (hb2.mono hb1.size);have bw2:Below w.heap.size w w2:=hb0.trans (aw2.mono (by simp));have cE3:=HE.out us lo lcap w2 bw2 hul (by omega) (ul hua hb2) (fun j x y hx hy=>(huv j x y hx hy).below hb2) HGV.out;rw [hul,HMV.out] at cE3)
   | (go_at_call 50;refine cc.mono ?_;rintro e w1 ⟨u,rfl,hva,hb1⟩;have hO:OAt w1 (some v) u:=ValAt.move hva (fun _ hb=>hb.2) (fun _ _=>rfl);obtain ⟨ao,cap,bb,gv,taO,cG,hgv⟩:=hview w1 u hO;obtain ⟨lo,lcap,lb,taL,us,hul,hua,huv⟩:=HHV.out w1 gv hgv;have hulm:us.length=m:=hul.trans HMV.out;rw [HMV.out] at taL;obtain ⟨T,y,rfl⟩:=ValAt.iface hva))
   go_region
   all_goals
    go_wp2_with fail
    exact bodyPost_ret (v := .tuple #[.agg #[.slice none 0 0], .iface 138 (.agg #[.int .i64 (((k+1:Nat)):Int), .iface 125 (.agg #[.string pp])])]) (by simp [results,Tryz.results32,go_sem,r0]) rfl ⟨_,_,_,_,rfl, .shape (k+1) pp,((hb0.trans (aw4.mono (by simp))).setCell (Nat.le_refl _) _).drew,fun h=>by simp at h⟩
  ·simp only [show ¬(2:Nat)=1 by decide,if_false]
   go_enter Tryz.func32,Tryz.ntmps32
   go_upto_region 11 with (first
   | (go_at_call 54;refine cF2.mono ?_;rintro e w4 ⟨rfl,hb4⟩;have aw4:=aw3.trans (hb4.mono aw3.size);obtain ⟨r0,f0⟩:=one_cell aw4;have hfvk:=(hyf.at k (by omega));rw [HCK.out] at hfvk;rcases hfvk with ⟨h,_⟩|⟨h,_⟩|⟨_,pp,hyk⟩;(exfalso;simp at h);(exfalso;simp at h);rcases hya with hnil|⟨fb,fo,rfl,hfc⟩;(exfalso;rw [hnil] at hyl;simp at hyl;omega);have qk:=cell_later hb4 (hfc k (by omega));rw [hyk] at qk;have qk2:=ziP aw4 qk)
   | (go_at_call 52;refine cE3.mono ?_;rintro e w3 ⟨oa,fa,oc,fc,ys,rfl,hyl,hya,hyf,hb3,hown⟩;have aw3:=aw2.trans (hb3.mono aw2.size);have cF2:=cFF ys fa fc w3 (by omega) hya hyf;rw [hyl] at cF2)
   | (go_at_call 51;refine (cG w1 (Below.refl _ _)).mono ?_;rintro e w2 ⟨rfl,hb2⟩;have aw2:=hb1.trans (hb2.mono hb1.size);have bw2:Below w.heap.size w w2:=hb0.trans (aw2.mono (by simp));have cE3:=HE.out us lo lcap w2 bw2 hul (by omega) (ul hua hb2) (fun j x y hx hy=>(huv j x y hx hy).below hb2) HGV.out;rw [hul,HMV.out] at cE3)
   | (go_at_call 50;refine cc.mono ?_;rintro e w1 ⟨u,rfl,hva,hb1⟩;have hO:OAt w1 (some v) u:=ValAt.move hva (fun _ hb=>hb.2) (fun _ _=>rfl);obtain ⟨ao,cap,bb,gv,taO,cG,hgv⟩:=hview w1 u hO;obtain ⟨lo,lcap,lb,taL,us,hul,hua,huv⟩:=HHV.out w1 gv hgv;have hulm:us.length=m:=hul.trans HMV.out;rw [HMV.out] at taL;obtain ⟨T,y,rfl⟩:=ValAt.iface hva))
   go_region
   all_goals
    go_wp2_with fail
    exact bodyPost_ret (v := .tuple #[.agg #[.slice none 0 0], .iface 138 (.agg #[.int .i64 (((k+1:Nat)):Int), .iface 228 (.agg #[.int .i64 pp])])]) (by simp [results,Tryz.results32,go_sem,r0]) rfl ⟨_,_,_,_,rfl, .pat (k+1) pp,((hb0.trans (aw4.mono (by simp))).setCell (Nat.le_refl _) _).drew,fun h=>by simp at h⟩
def zcW (s:ByteArray):List xH:=if 4000<s.size then [] else match Rd.vK s.data.toList with
 | .ok v _=>(uG (stX v)).map uM
 | .err _ _=>[]
theorem ziy (s:ByteArray) (w:World) (EL:Value) (T:TypeId) (y:Value) (hEL:EL = .iface T y) (hQ:zkz w EL) :
  Calls Tryz.prog 32 #[.string s] w (QR w EL (Rd.qU s) (zcW s)):=by
 have hA:Rd.qU s=if 4000<s.size then (1,0) else match Rd.vK s.data.toList with
  | .err e q=>(e,q)
  | .ok v _=>Rd.zan v:=rfl
 have hS:zcW s=if 4000<s.size then [] else match Rd.vK s.data.toList with
  | .ok v _=>(uG (stX v)).map uM
  | .err _ _=>[]:=rfl
 by_cases h:4000<s.size
 ·rw [hA,hS,if_pos h,if_pos h]
  exact zaw s w EL T y hEL hQ h
 ·rw [hA,hS,if_neg h,if_neg h]
  cases hr:Rd.vK s.data.toList with
  | err c q=>exact zdk s w EL c q hQ (by omega) hr
  | ok v q=>
   simp only
   rw [zlo]
   have hgd:=Rd.XB hr
   by_cases hb:YN v≠1∨(uG (stX v)).length<1∨10<(uG (stX v)).length
   ·rw [if_pos hb]
    refine (zdb s w EL v q hQ (by omega) hr hb).mono ?_
    rintro e w' ⟨la,n,lc,u,h1,h2,h3,_⟩
    exact ⟨la,n,lc,u,h1,h2,h3,fun h=>by simp at h⟩
   ·rw [if_neg hb,Rd.zbF (L:=s.data.toList.length) _ 0 (zbC hgd)]
    exact zbs s w EL v q hQ (by omega) hr (by omega) (by omega) (by omega)
end Go.Proofs.YtdakgnaojakldaaGreatDoor
