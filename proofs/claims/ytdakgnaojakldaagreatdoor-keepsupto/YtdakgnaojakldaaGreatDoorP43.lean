/- P -/
import Derived.Test.YtdakgnaojakldaaGreatDoorP42
set_option maxRecDepth 100000
set_option maxHeartbeats 2000000
namespace Go.Proofs.YtdakgnaojakldaaGreatDoor
open Go.RowKit
def zln (w:World) (base:Nat) (xs:List Value) (j:Nat) (c:Ref.xg):Prop:=
 ∃lv,xs[j*4]?=some (.string c.op)∧xs[j*4+1]?=some (.string c.key)∧xs[j*4+2]?=some lv∧xs[j*4+3]?=some (.bool c.no)∧w.ownsRow base 9 1 lv c.vals.length (Ref.strCells c.vals)
def xO (w:World) (base:Nat) (lv:Value) (cs:List Ref.xg):Prop:=
 ∃xs,w.ownsRow base 244 4 lv cs.length xs∧∀j,(h:j<cs.length)→zln w base xs j cs[j]
theorem xO.nil (w:World) (base:Nat):xO w base (.slice none 0 0) []:=⟨[],World.ownsRow_nil _ _ _ _,fun j hj=>by simp at hj⟩
theorem xO.kept {w w':World} {base:Nat} {lv:Value} {cs:List Ref.xg} (h:xO w base lv cs) (hk:∀i,base≤i→i<w.heap.size→w'.heap[i]?=w.heap[i]?):xO w' base lv cs:=by
 obtain ⟨xs,h1,h2⟩:=h
 refine ⟨xs,qK h1 hk,fun j hj=>?_⟩
 obtain ⟨l,a,b,c,d,e⟩:=h2 j hj
 exact ⟨l,a,b,c,d,qK e hk⟩
theorem xO.mono {w:World} {base base':Nat} {lv:Value} {cs:List Ref.xg} (h:xO w base lv cs) (hb:base'≤base):xO w base' lv cs:=by
 obtain ⟨xs,h1,h2⟩:=h
 refine ⟨xs,zl h1 hb,fun j hj=>?_⟩
 obtain ⟨l,a,b,c,d,e⟩:=h2 j hj
 exact ⟨l,a,b,c,d,zl e hb⟩
theorem ji {W w3:World} {base base':Nat} {e e':TypeId} {size size':Nat} {lv v:Value} {n m:Nat} {xs ys:List Value} (own:W.ownsRow base e size lv n xs) (h:W.ownsRow base' e' size' v m ys) (hne:e≠e') (hg:W.grownBy w3 lv.ownBlock):w3.ownsRow base' e' size' v m ys:=by
 refine h.kept hg ?_
 rcases h.2 with ⟨rfl,_⟩|⟨g,cap,cur,rfl,_,hb,_⟩
 ·exact .inl rfl
 ·refine .inr fun ee=>?_
  rcases own.2 with ⟨rfl,_⟩|⟨g2,cap2,cur2,rfl,_,hb2,_⟩
  ·simp [Value.ownBlock] at ee
  ·simp only [Value.ownBlock,Option.some.injEq] at ee
   subst ee
   rw [hb2] at hb
   injection hb with hb
   injection hb with _ hb
   exact hne hb
theorem xO.snoc {W w3:World} {base:Nat} {lv v' l2:Value} {cs:List Ref.xg} {xs:List Value} (own:W.ownsRow base 244 4 lv cs.length xs) (hc:∀j,(h:j<cs.length)→zln W base xs j cs[j]) (c:Ref.xg)
  (hl2:W.ownsRow base 9 1 l2 c.vals.length (Ref.strCells c.vals)) (hgrow:W.grownBy w3 lv.ownBlock) (hown':w3.ownsRow base 244 4 v' (cs.length+1) (xs++[.string c.op, .string c.key,l2, .bool c.no])):xO w3 base v' (cs++[c]):=by
 have hx:xs.length=cs.length*4:=own.1
 have hne:(244:TypeId)≠9:=by decide
 refine ⟨_,by rw [List.length_append];exact hown',fun j hj=>?_⟩
 rw [List.length_append,List.length_singleton] at hj
 by_cases hlt:j<cs.length
 ·rw [List.getElem_append_left hlt]
  obtain ⟨l,a,b,d,e,f⟩:=hc j hlt
  refine ⟨l,?_,?_,?_,?_,ji own f hne hgrow⟩
  ·rw [List.getElem?_append_left (by omega)];exact a
  ·rw [List.getElem?_append_left (by omega)];exact b
  ·rw [List.getElem?_append_left (by omega)];exact d
  ·rw [List.getElem?_append_left (by omega)];exact e
 ·have hj2:j=cs.length:=by omega
  subst hj2
  rw [List.getElem_append_right (Nat.le_refl _)]
  simp only [Nat.sub_self,List.getElem_cons_zero]
  refine ⟨l2,?_,?_,?_,?_,ji own hl2 hne hgrow⟩
  ·rw [List.getElem?_append_right (by omega),hx,Nat.sub_self];rfl
  ·rw [List.getElem?_append_right (by omega),hx,show cs.length*4+1-cs.length*4=1 by omega];rfl
  ·rw [List.getElem?_append_right (by omega),hx,show cs.length*4+2-cs.length*4=2 by omega];rfl
  ·rw [List.getElem?_append_right (by omega),hx,show cs.length*4+3-cs.length*4=3 by omega];rfl
def za6 (w:World) (fb:Nat) (sh pt:Bool) (R:Ref.zeO) (e:Ending) (w':World):Prop:=
 ∃lv,e = .returned lv∧w.grownBy w' (some fb)∧qW w' fb (sh||R.sh) (pt||R.pt)∧xO w' w.heap.size lv R.cs
structure zgf (w:World) (fb:Nat) (nc:Array Value) (sh pt:Bool) (wx:World):Prop where
 g:w.grownBy wx (some fb)
 f:qW wx fb sh pt
 n:wx.heap[w.heap.size]?=some (.cells nc 152 (0,0))
theorem zgf.start {w:World} {fb:Nat} {sh pt:Bool} (hf:qW w fb sh pt) (nc:Array Value):zgf w fb nc sh pt (w.alloc (.cells nc 152)):=by
 have hb:Below w.heap.size w (w.alloc (.cells nc 152)):=(Below.refl _ _).alloc (Nat.le_refl _) _
 exact ⟨But.of _ hb,hf.below hb,heap_alloc_new w _⟩
theorem zgf.size {w wx:World} {fb:Nat} {nc:Array Value} {sh pt:Bool} (h:zgf w fb nc sh pt wx):w.heap.size+1≤wx.heap.size:=lt_of_block h.n
theorem zgf.grown {w wx wy:World} {fb:Nat} {nc:Array Value} {sh pt sh' pt':Bool} (hfl:fb<w.heap.size) (h:zgf w fb nc sh pt wx) (hg:wx.grownBy wy (some fb)) (hf:qW wy fb sh' pt'):zgf w fb nc sh' pt' wy:=by
 have hz:=h.size
 exact ⟨But.trans h.g hg,hf,(hg.block _ (by omega) (by simp;omega)).trans h.n⟩
theorem zgf.app {w wx wy:World} {fb:Nat} {nc:Array Value} {sh pt:Bool} (hfl:fb<w.heap.size) (h:zgf w fb nc sh pt wx) (hb:Below (w.heap.size+1) wx wy):zgf w fb nc sh pt wy:=by
 refine ⟨⟨hb.os.trans h.g.os,hb.tape.trans h.g.tape,hb.output.trans h.g.output,Nat.le_trans h.g.size hb.size,fun i hi hn=>(hb.block i (by omega)).trans (h.g.block i hi hn)⟩,(hb.block fb (by omega)).trans h.f,(hb.block _ (by omega)).trans h.n⟩
theorem zcs (ns:List Ref.Node) (ks:List Nat) (j:Nat) (hj:j<ks.length) (x:Ref.Node) (hx:ns[ks[j]]?=some x):Ref.yf ns (ks.take (j+1))=Ref.yf ns (ks.take j)++[Ref.Yy ns x]:=by
 rw [List.take_add_one,List.getElem?_eq_getElem hj]
 unfold Ref.yf
 rw [List.map_append]
 simp [hx]
theorem zmK (w:World) (O:Obj) (t:TypeId) (a b c d:Value):∀(j:Nat) (u:Value),[a,b,c,d][j]?=some u→((w.alloc O).alloc (.cells #[a,b,c,d] t)).cell? ((⟨w.heap.size+1,0,none⟩:Addr).add j)=some u:=by
 have h:=World.ownsRow_lit (base:=w.heap.size) (e:=t) (size:=4) (w.alloc O) #[a,b,c,d] 1 (by simp) (by decide) rfl
 rw [World.size_alloc] at h
 exact fun j u hu=>h.cells (g:=w.heap.size+1) rfl j u hu
theorem Tryz.infoRCond:(Tryz.prog.info? 244).map (fun i=>(i.zero,i.size,i.bytes))=some (some (.agg #[.string ⟨#[]⟩, .string ⟨#[]⟩, .slice none 0 0, .bool false]),4,64):=by kernel_rfl
theorem zfs {w wr w2:World} {fb:Nat} {lv:Value} {done:List Ref.xg} {op key:ByteArray} {vals:List ByteArray} {no:Bool} {la:Option Addr} {lc:Nat} (h:xO wr (w.heap.size+1) lv done) (hlr:w.heap.size+1≤wr.heap.size) (hfl:fb<w.heap.size) (g2:wr.grownBy w2 (some fb))
  (o2:w2.ownsRow wr.heap.size 9 1 (.slice la vals.length lc) vals.length (Ref.strCells vals)) :
  ∃xs,((w2.alloc (.cells #[.string op, .string key, .slice la vals.length lc, .bool no] 244)).alloc (.cells #[.string op, .string key, .slice la vals.length lc, .bool no] 244)).ownsRow (w.heap.size+1) 244 4 lv done.length xs ∧
   (∀j,(h:j<done.length)→zln ((w2.alloc (.cells #[.string op, .string key, .slice la vals.length lc, .bool no] 244)).alloc (.cells #[.string op, .string key, .slice la vals.length lc, .bool no] 244)) (w.heap.size+1) xs j done[j]) ∧
   ((w2.alloc (.cells #[.string op, .string key, .slice la vals.length lc, .bool no] 244)).alloc (.cells #[.string op, .string key, .slice la vals.length lc, .bool no] 244)).ownsRow (w.heap.size+1) 9 1 (.slice la vals.length lc) vals.length (Ref.strCells vals):=by
 have BW:Below w2.heap.size w2 ((w2.alloc (.cells #[.string op, .string key, .slice la vals.length lc, .bool no] 244)).alloc (.cells #[.string op, .string key, .slice la vals.length lc, .bool no] 244)):=((Below.refl _ _).alloc (Nat.le_refl _) _).alloc (by simp) _
 obtain ⟨xs,h1,h2⟩:=(h.kept (fun i hi hl=>g2.block i hl (by simp;omega))).kept (fun i hi hl=>BW.block i hl)
 exact ⟨xs,h1,h2,ownsRow_below (zl o2 hlr) BW⟩
theorem VR (k:Int) (w0:World) (base b gg cap:Nat) (ns:List Ref.Node) (fb:Nat) (sh pt:Bool) (w:World) (hE:jR w0 base b gg cap ns w) (hk:k<ns.length) (hk0:-1≤k) (hfb:w0.heap.size≤fb) (hf:qW w fb sh pt) :
  Calls Tryz.prog 112 #[.pointer (some ⟨b,0,none⟩), .int .i64 k, .pointer (some ⟨fb,0,none⟩)] w (za6 w fb sh pt (Ref.QJ ns k)):=by
 have hfl:fb<w.heap.size:=lt_of_block hf
 obtain ⟨R,hR⟩:∃R,Ref.QJ ns k=R:=⟨_,rfl⟩
 rw [hR]
 unfold Ref.QJ at hR
 by_cases hneg:k<0
 ·rw [if_pos hneg] at hR
  subst hR
  go_enter Tryz.func112,Tryz.ntmps112
  go_wp2
  go_ret
  exact ⟨_,rfl,But.of _ (Below.refl _ _),by simpa using hf,xO.nil _ _⟩
 rw [if_neg hneg] at hR
 obtain ⟨i,rfl⟩:∃i:Nat,k=i:=⟨k.toNat,by omega⟩
 have hil:i<ns.length:=by omega
 simp only [Int.toNat_natCast,List.getElem?_eq_getElem hil] at hR
 have hn:=List.getElem?_eq_getElem hil
 have h:=hE.at
 obtain ⟨v,a1,a2,a3,a4,a5,a6⟩:=hE.rd.node i _ hn
 replace a1:=cell_later hE.bel a1
 replace a2:=cell_later hE.bel a2
 replace a3:=cell_later hE.bel a3
 replace a4:=cell_later hE.bel a4
 have hsm:=h.small i _ hn
 obtain ⟨n,hnn⟩:∃n,ns[i]=n:=⟨_,rfl⟩
 rw [hnn] at hR hn a1 a2 a5 a6 hsm
 obtain ⟨v1,v2⟩:=v
 simp only at a3 a4 a5 a6
 have hsl:=h.slice
 obtain ⟨nl,hnl⟩:∃nl,ns.length=nl:=⟨_,rfl⟩
 have hlen:=h.len
 rw [hnl] at hsl hil hk hlen
 obtain ⟨kind,text,ss,ks⟩:=n
 simp only at hR a1 a2 a3 a4 a5 a6 hsm
 obtain ⟨ka,kc,hv2,cK⟩:=qh a6
 obtain ⟨na,nc,rfl,_⟩:=qh a5
 obtain ⟨kl,hkl⟩:∃kl,ks.length=kl:=⟨_,rfl⟩
 rw [hkl] at hv2 cK hsm hR
 rw [hv2] at a4
 have CK:=hid cK
 have HE:=hid hE
 have HR:=hid hR
 have HKL:=hid hkl
 have HN:=hid hn
 have HNL:=hid hnl
 have HF:=hid hf
 have i0:(0:Int)≤(i:Int):=Int.natCast_nonneg _
 have i1:(i:Int)<(nl:Int):=by omega
 obtain ⟨f0,f1,f2,f3⟩:=hf.cell
 have bA:∀O:Obj,Below w.heap.size w (w.alloc O):=fun O=>(Below.refl _ _).alloc (Nat.le_refl _) O
 have f0':=fun O:Obj=>cell_later (bA O) f0
 have f2':∀O:Obj,(w.alloc O).frozen? ⟨fb,0,none⟩=false:=fun O=>(HF.out.below (bA O)).cell.2.2.1
 have BAD:Hid (∀O:Obj,w.grownBy ((w.setCell ⟨fb,0,none⟩ (.bool true)).alloc O) (some fb)∧qW ((w.setCell ⟨fb,0,none⟩ (.bool true)).alloc O) fb (sh||true) (pt||false)):=by
  refine hid (fun O=>⟨But.trans (But.set _ _ _ _) (But.of _ ((Below.refl _ _).alloc (Nat.le_refl _) O)),?_⟩)
  have:=(HF.out.shape true).below ((Below.refl _ _).alloc (Nat.le_refl _) O)
  simpa using this
 clear h hE hR hnn hn hnl hkl a5 a6 cK hk0 hk hv2 hf f0 f1 f2 f3 bA
 go_enter Tryz.func112,Tryz.ntmps112
 have hr:=HR.out
 by_cases h2:kind≠2
 ·rw [if_pos (.inl h2)] at hr
  subst hr
  have h2b:(kind != 2)=true:=by simp [h2]
  clear HR
  go_wp2
  go_ret
  exact ⟨_,rfl,(BAD.out _).1,(BAD.out _).2,xO.nil _ _⟩
 rw [Ne,Decidable.not_not] at h2
 subst h2
 by_cases hk5:5<kl
 ·rw [if_pos (.inr hk5)] at hr
  subst hr
  have hkc:decide (5<(kl:Int))=true:=by simp;omega
  clear HR
  go_wp2
  go_ret
  exact ⟨_,rfl,(BAD.out _).1,(BAD.out _).2,xO.nil _ _⟩
 rw [if_neg (by omega)] at hr
 have HR2:=hid hr
 have hkc:decide (5<(kl:Int))=false:=by simp;omega
 clear hr HR BAD
 obtain ⟨i0,hi,hz0,hz1,hz2⟩:=info_parts Tryz.infoRCond
 go_wp2_with fail
 go_loopw [8,9] (fun lv jv wr=>∃(j:Nat),j≤kl∧jv = .int .i64 j∧xO wr (w.heap.size+1) lv (Ref.yf ns (ks.take j)) ∧
   zgf w fb #[.int .i64 2, .string text, .slice na ss.length nc, .slice ka kl kc] (sh||(Ref.yf ns (ks.take j)).any Ref.xg.sh) (pt||(Ref.yf ns (ks.take j)).any Ref.xg.pt) wr) (fun _ jv _=>kl-(intOf jv).toNat)
 case atStart=>
  refine ⟨0,by omega,rfl,xO.nil _ _,?_⟩
  have:=zgf.start HF.out #[.int .i64 2, .string text, .slice na ss.length nc, .slice ka kl kc]
  simpa [Ref.yf] using this
 case round=>
  obtain ⟨j,hj,rfl,hcs,hks⟩:=hrel
  have HCS:=hid hcs
  have HKS:=hid hks
  have c3:wr.cell? ⟨w.heap.size,3,none⟩=some (.slice ka kl kc):=(cells_of_block hks.n 3).1
  have hlr:=hks.size
  have hdl:(Ref.yf ns (ks.take j)).length=j:=by unfold Ref.yf;rw [List.length_map,List.length_take,HKL.out];omega
  clear hcs hks a1 a2 a3 a4 hsl f0' f2'
  by_cases hlt:j<kl
  ·obtain ⟨g,rfl,q1⟩:=CK.out j hlt
   have l1:j<ks.length:=by rw [HKL.out];exact hlt
   rw [qf,Ref.zbj ks j l1] at q1
   have hkid:=HE.out.at.kid HN.out j l1
   simp only at hkid
   have hx:=List.getElem?_eq_getElem hkid
   obtain ⟨x,hxx⟩:∃x,ns[ks[j]]=x:=⟨_,rfl⟩
   rw [hxx] at hx
   have HT:=hid (zcs ns ks j l1 x hx)
   have hEr:=HE.out.grown HKS.out.g hfb
   have q2:=cell_later hEr.bel q1
   have cc:=zah ks[j] w0 base b gg cap ns x fb _ _ wr hEr hx hfb HKS.out.f
   obtain ⟨kid,hkd⟩:∃c,ks[j]=c:=⟨_,rfl⟩
   rw [hkd] at q2 cc
   obtain ⟨C,hC⟩:∃C,Ref.Yy ns x=C:=⟨_,rfl⟩
   rw [hC] at cc
   have HT2:Hid (Ref.yf ns (ks.take (j+1))=Ref.yf ns (ks.take j)++[C]):=by rw [← hC];exact HT
   obtain ⟨done,hdone⟩:∃d,Ref.yf ns (ks.take j)=d:=⟨_,rfl⟩
   rw [hdone] at HCS HKS HT2 hdl cc
   obtain ⟨sh1,hsh1⟩:∃x,(sh||done.any Ref.xg.sh)=x:=⟨_,rfl⟩
   obtain ⟨pt1,hpt1⟩:∃x,(pt||done.any Ref.xg.pt)=x:=⟨_,rfl⟩
   rw [hsh1,hpt1] at HKS cc
   have HSH:=hid hsh1
   have HPT:=hid hpt1
   obtain ⟨op,key,vals,no,csh,cpt⟩:=C
   have CC:=hid cc
   clear q1 hx hxx hkid HT hC hdone hsh1 hpt1 hEr hkd cc
   go_wp2_with (first
    | (go_at_call 166;refine CC.out.mono ?_;rintro e w2 ⟨l2,rfl,g2,fl2,o2⟩;simp only at g2 fl2 o2;obtain ⟨la,lc,rfl⟩:=qm o2;have G2:=hid g2;have FL2:=hid fl2;obtain ⟨xs,ro,rc,o3⟩:=zfs (op:=op) (key:=key) (no:=no) HCS.out hlr hfl g2 o2;have O3:=hid o3;have RO:=hid ro;have RC:=hid rc;have hz2':=g2.size;clear g2 fl2 o2 ro rc o3)
    | (at_builtin;refine wpList_append_own _ rfl _ _ 158 rfl (w.heap.size+1) 244 i0 (.agg #[.string ⟨#[]⟩, .string ⟨#[]⟩, .slice none 0 0, .bool false]) 4 64 Tryz.underlying158 hi hz0 hz1 hz2 rfl (by decide) _ done.length xs rfl RO.out ⟨w2.heap.size+1,0,none⟩ 1 1 [.string op, .string key, .slice la vals.length lc, .bool no] rfl rfl ?_ ?_ ?_ ?_ ?_ ?_))
   ·exact zmK _ _ _ _ _ _ _
   ·intro u hu;simp at hu;rcases hu with rfl|rfl|rfl|rfl<;>rfl
   ·unfold maxLen;omega
   ·omega
   ·simp;omega
   ·intro v' w3 hown' hgrow _
    have HRC:=hid (xO.snoc RO.out RC.out ⟨op,key,vals,no,csh,cpt⟩ O3.out hgrow (by rw [hdl];exact hown'))
    have K3:=(HKS.out.grown hfl G2.out FL2.out).app hfl ((((Below.refl _ w2).alloc (by omega) _).alloc (by simp;omega) _).grown hgrow (by simp;omega) (fun k hk=>(RO.out.lt k hk).1))
    have K4:Hid (zgf w fb #[.int .i64 2, .string text, .slice na ss.length nc, .slice (some ⟨g,0,none⟩) kl kc] (sh||(Ref.yf ns (ks.take (j+1))).any Ref.xg.sh) (pt||(Ref.yf ns (ks.take (j+1))).any Ref.xg.pt) w3):=by
     have e1:(sh||(Ref.yf ns (ks.take (j+1))).any Ref.xg.sh)=(sh1||csh):=by rw [HT2.out,← HSH.out];simp [Bool.or_assoc]
     have e2:(pt||(Ref.yf ns (ks.take (j+1))).any Ref.xg.pt)=(pt1||cpt):=by rw [HT2.out,← HPT.out];simp [Bool.or_assoc]
     rw [e1,e2]
     exact hid K3
    have HRC2:Hid (xO w3 (w.heap.size+1) v' (Ref.yf ns (ks.take (j+1)))):=by rw [HT2.out];exact HRC
    clear hown' hgrow K3 HRC RO RC O3 HCS HKS
    go_wp2
    go_roundw
    case rel=>exact ⟨j+1,by omega,by go_num,HRC2.out,K4.out⟩
    case measure=>simp [intOf];omega
  ·have hjk:j=ks.length:=by rw [HKL.out];omega
   have hfin:R=⟨Ref.yf ns (ks.take j),(Ref.yf ns (ks.take j)).any Ref.xg.sh,(Ref.yf ns (ks.take j)).any Ref.xg.pt⟩:=by rw [hjk,List.take_length];exact HR2.out.symm
   subst hfin
   go_wp2
   go_ret
   exact ⟨_,rfl,HKS.out.g,HKS.out.f,HCS.out.mono (by omega)⟩
def Qz (w:World) (base:Nat) (l1 l2 l3 lc:Value) (R:Rd.qN):Prop:=
 w.ownsRow base 9 1 l1 R.who.2.length (Ref.strCells R.who.2)∧w.ownsRow base 9 1 l2 R.act.2.length (Ref.strCells R.act.2)∧w.ownsRow base 9 1 l3 R.on.2.length (Ref.strCells R.on.2)∧xO w base lc R.cs
def zbt (w:World) (R:Rd.qN) (e:Ending) (w':World):Prop:=
 ∃l1 l2 l3 lc,e = .returned (.tuple #[.agg #[.string R.eff, .bool R.who.1,l1, .bool R.act.1,l2, .bool R.on.1,l3,lc], .agg #[.bool R.sh, .bool R.pt]])∧Below w.heap.size w w'∧Qz w' w.heap.size l1 l2 l3 lc R
theorem Qz.kept {w w':World} {base:Nat} {l1 l2 l3 lc:Value} {R:Rd.qN} (h:Qz w base l1 l2 l3 lc R) (hk:∀i,base≤i→i<w.heap.size→w'.heap[i]?=w.heap[i]?):Qz w' base l1 l2 l3 lc R:=
 ⟨qK h.1 hk,qK h.2.1 hk,qK h.2.2.1 hk,h.2.2.2.kept hk⟩
theorem Qz.mono {w:World} {base base':Nat} {l1 l2 l3 lc:Value} {R:Rd.qN} (h:Qz w base l1 l2 l3 lc R) (hb:base'≤base):Qz w base' l1 l2 l3 lc R:=
 ⟨zl h.1 hb,zl h.2.1 hb,zl h.2.2.1 hb,h.2.2.2.mono hb⟩
structure XE (w:World) (nc sc:Array Value) (sh pt:Bool) (wx:World):Prop where
 g:Below w.heap.size w wx
 r:wx.heap[w.heap.size]?=some (.cells #[.string ⟨#[]⟩, .bool false, .slice none 0 0, .bool false, .slice none 0 0, .bool false, .slice none 0 0, .slice none 0 0] 160 (0,0))
 rf:wx.heap[w.heap.size+1]?=some (.cells #[.bool false, .bool false] 162 (0,0))
 n:wx.heap[w.heap.size+2]?=some (.cells nc 152 (0,0))
 s:wx.heap[w.heap.size+3]?=some (.cells sc 160 (0,0))
 f:qW wx (w.heap.size+4) sh pt
theorem zc8 (w:World) (a b c d e:Obj):(((((w.alloc a).alloc b).alloc c).alloc d).alloc e).heap[w.heap.size]?=some a∧(((((w.alloc a).alloc b).alloc c).alloc d).alloc e).heap[w.heap.size+1]?=some b∧(((((w.alloc a).alloc b).alloc c).alloc d).alloc e).heap[w.heap.size+2]?=some c ∧
  (((((w.alloc a).alloc b).alloc c).alloc d).alloc e).heap[w.heap.size+3]?=some d∧(((((w.alloc a).alloc b).alloc c).alloc d).alloc e).heap[w.heap.size+4]?=some e:=by
 obtain ⟨t1,t2,t3⟩:=YD w a b c
 have hz:(((w.alloc a).alloc b).alloc c).heap.size=w.heap.size+3:=by simp
 obtain ⟨u1,u2⟩:=qI (((w.alloc a).alloc b).alloc c) d e
 rw [hz] at u1 u2
 have k:∀i,i<w.heap.size+3→(((((w.alloc a).alloc b).alloc c).alloc d).alloc e).heap[i]?=(((w.alloc a).alloc b).alloc c).heap[i]?:=by
  intro i hi
  rw [Below.heap_alloc _ _ _ (by simp;omega),Below.heap_alloc _ _ _ (by simp;omega)]
 exact ⟨(k _ (by omega)).trans t1,(k _ (by omega)).trans t2,(k _ (by omega)).trans t3,u1,u2⟩
theorem XE.start (w:World) (nc:Array Value) :
  XE w nc #[.string ⟨#[]⟩, .bool false, .slice none 0 0, .bool false, .slice none 0 0, .bool false, .slice none 0 0, .slice none 0 0] false false
   (((((w.alloc (.cells #[.string ⟨#[]⟩, .bool false, .slice none 0 0, .bool false, .slice none 0 0, .bool false, .slice none 0 0, .slice none 0 0] 160)).alloc (.cells #[.bool false, .bool false] 162)).alloc (.cells nc 152)).alloc (.cells #[.string ⟨#[]⟩, .bool false, .slice none 0 0, .bool false, .slice none 0 0, .bool false, .slice none 0 0, .slice none 0 0] 160)).alloc (.cells #[.bool false, .bool false] 162)):=by
 obtain ⟨t1,t2,t3,t4,t5⟩:=zc8 w (.cells #[.string ⟨#[]⟩, .bool false, .slice none 0 0, .bool false, .slice none 0 0, .bool false, .slice none 0 0, .slice none 0 0] 160) (.cells #[.bool false, .bool false] 162) (.cells nc 152) (.cells #[.string ⟨#[]⟩, .bool false, .slice none 0 0, .bool false, .slice none 0 0, .bool false, .slice none 0 0, .slice none 0 0] 160) (.cells #[.bool false, .bool false] 162)
 exact ⟨((((((Below.refl _ _).alloc (Nat.le_refl _) _).alloc (by simp) _).alloc (by simp;omega) _).alloc (by simp;omega) _).alloc (by simp;omega) _),t1,t2,t3,t4,t5⟩
theorem XE.size {w wx:World} {nc sc:Array Value} {sh pt:Bool} (h:XE w nc sc sh pt wx):w.heap.size+5≤wx.heap.size:=lt_of_block h.f
theorem XE.below {w wx wy:World} {nc sc:Array Value} {sh pt:Bool} (h:XE w nc sc sh pt wx) (hb:Below wx.heap.size wx wy):XE w nc sc sh pt wy:=by
 have hz:=h.size
 exact ⟨h.g.trans (hb.mono (by omega)),(hb.block _ (by omega)).trans h.r,(hb.block _ (by omega)).trans h.rf,(hb.block _ (by omega)).trans h.n,(hb.block _ (by omega)).trans h.s,h.f.below hb⟩
theorem XE.grown {w wx wy:World} {nc sc:Array Value} {sh pt sh' pt':Bool} (h:XE w nc sc sh pt wx) (hg:wx.grownBy wy (some (w.heap.size+4))) (hf:qW wy (w.heap.size+4) sh' pt'):XE w nc sc sh' pt' wy:=by
 have hz:=h.size
 exact ⟨h.g.trans (But.below hg (by omega) (by omega)),(hg.block _ (by omega) (by simp)).trans h.r,(hg.block _ (by omega) (by simp)).trans h.rf,(hg.block _ (by omega) (by simp)).trans h.n,(hg.block _ (by omega) (by simp)).trans h.s,hf⟩
theorem XE.shape {w wx:World} {nc sc:Array Value} {sh pt:Bool} (h:XE w nc sc sh pt wx) (x:Bool):XE w nc sc x pt (wx.setCell ⟨w.heap.size+4,0,none⟩ (.bool x)):=
 h.grown (But.set _ _ _ _) (h.f.shape x)
theorem XE.put {w wx:World} {nc sc:Array Value} {sh pt:Bool} (h:XE w nc sc sh pt wx) (o:Nat) (u:Value) (cc:Array Value) (hcc:cc=sc.set! o u):XE w nc cc sh pt (wx.setCell ⟨w.heap.size+3,o,none⟩ u):=by
 subst hcc
 have ne:∀i,i≠w.heap.size+3→(wx.setCell ⟨w.heap.size+3,o,none⟩ u).heap[i]?=wx.heap[i]?:=fun i hi=>Below.heap_setCell _ _ _ _ (by simp only;omega)
 exact ⟨h.g.setCell (by simp only;omega) _,(ne _ (by omega)).trans h.r,(ne _ (by omega)).trans h.rf,(ne _ (by omega)).trans h.n,heap_setCell_same wx _ o _ _ _ h.s,(ne _ (by omega)).trans h.f⟩
theorem XE.cells {w wx:World} {n0 n1 n2 n3 c0 c1 c2 c3 c4 c5 c6 c7:Value} {sh pt:Bool} (h:XE w #[n0,n1,n2,n3] #[c0,c1,c2,c3,c4,c5,c6,c7] sh pt wx) :
  (wx.cell? ⟨w.heap.size+2,0,none⟩=some n0∧wx.cell? ⟨w.heap.size+2,1,none⟩=some n1∧wx.cell? ⟨w.heap.size+2,2,none⟩=some n2∧wx.cell? ⟨w.heap.size+2,3,none⟩=some n3) ∧
  (wx.cell? ⟨w.heap.size+3,0,none⟩=some c0∧wx.cell? ⟨w.heap.size+3,1,none⟩=some c1∧wx.cell? ⟨w.heap.size+3,2,none⟩=some c2∧wx.cell? ⟨w.heap.size+3,3,none⟩=some c3∧wx.cell? ⟨w.heap.size+3,4,none⟩=some c4∧wx.cell? ⟨w.heap.size+3,5,none⟩=some c5∧wx.cell? ⟨w.heap.size+3,6,none⟩=some c6∧wx.cell? ⟨w.heap.size+3,7,none⟩=some c7) ∧
  (∀o,wx.frozen? ⟨w.heap.size+3,o,none⟩=false) ∧
  (wx.cell? ⟨w.heap.size+4,0,none⟩=some (.bool sh)∧wx.cell? ⟨w.heap.size+4,1,none⟩=some (.bool pt)∧wx.frozen? ⟨w.heap.size+4,0,none⟩=false):=
 ⟨⟨(cells_of_block h.n 0).1,(cells_of_block h.n 1).1,(cells_of_block h.n 2).1,(cells_of_block h.n 3).1⟩,⟨(cells_of_block h.s 0).1,(cells_of_block h.s 1).1,(cells_of_block h.s 2).1,(cells_of_block h.s 3).1,(cells_of_block h.s 4).1,(cells_of_block h.s 5).1,(cells_of_block h.s 6).1,(cells_of_block h.s 7).1⟩,
  fun o=>(cells_of_block h.s o).2,h.f.cell.1,h.f.cell.2.1,h.f.cell.2.2.1⟩
theorem XE.res {w wx:World} {nc sc:Array Value} {sh pt:Bool} (h:XE w nc sc sh pt wx) :
  (wx.cell? ⟨w.heap.size,0,none⟩=some (.string ⟨#[]⟩)∧wx.cell? ⟨w.heap.size,1,none⟩=some (.bool false)∧wx.cell? ⟨w.heap.size,2,none⟩=some (.slice none 0 0)∧wx.cell? ⟨w.heap.size,3,none⟩=some (.bool false)∧wx.cell? ⟨w.heap.size,4,none⟩=some (.slice none 0 0)∧wx.cell? ⟨w.heap.size,5,none⟩=some (.bool false)∧wx.cell? ⟨w.heap.size,6,none⟩=some (.slice none 0 0)∧wx.cell? ⟨w.heap.size,7,none⟩=some (.slice none 0 0)) ∧
  (wx.cell? ⟨w.heap.size+1,0,none⟩=some (.bool false)∧wx.cell? ⟨w.heap.size+1,1,none⟩=some (.bool false))∧(∀o,wx.frozen? ⟨w.heap.size,o,none⟩=false)∧(∀o,wx.frozen? ⟨w.heap.size+1,o,none⟩=false):=
 ⟨⟨(cells_of_block h.r 0).1,(cells_of_block h.r 1).1,(cells_of_block h.r 2).1,(cells_of_block h.r 3).1,(cells_of_block h.r 4).1,(cells_of_block h.r 5).1,(cells_of_block h.r 6).1,(cells_of_block h.r 7).1⟩,⟨(cells_of_block h.rf 0).1,(cells_of_block h.rf 1).1⟩,fun o=>(cells_of_block h.r o).2,fun o=>(cells_of_block h.rf o).2⟩
def zbQ (w:World) (b:Nat) (x0 x1 x2 x3 x4 x5 x6 x7:Value):World:=(((((((w.setCell ⟨b,0,none⟩ x0).setCell ⟨b,1,none⟩ x1).setCell ⟨b,2,none⟩ x2).setCell ⟨b,3,none⟩ x3).setCell ⟨b,4,none⟩ x4).setCell ⟨b,5,none⟩ x5).setCell ⟨b,6,none⟩ x6).setCell ⟨b,7,none⟩ x7
def set2 (w:World) (b:Nat) (x0 x1:Value):World:=(w.setCell ⟨b,0,none⟩ x0).setCell ⟨b,1,none⟩ x1
theorem ZL {w:World} {b:Nat} {t:TypeId} {cs:Array Value} (h:w.heap[b]?=some (.cells cs t (0,0))) (o:Nat) (u:Value):(w.setCell ⟨b,o,none⟩ u).heap[b]?=some (.cells (cs.set! o u) t (0,0)):=heap_setCell_same w b o _ _ _ h
theorem Um {w:World} {b:Nat} {t:TypeId} {c0 c1 c2 c3 c4 c5 c6 c7:Value} (h:w.heap[b]?=some (.cells #[c0,c1,c2,c3,c4,c5,c6,c7] t (0,0))) (x0 x1 x2 x3 x4 x5 x6 x7:Value):(zbQ w b x0 x1 x2 x3 x4 x5 x6 x7).heap[b]?=some (.cells #[x0,x1,x2,x3,x4,x5,x6,x7] t (0,0)):=by
 have e0:(#[c0,c1,c2,c3,c4,c5,c6,c7]:Array Value).set! 0 x0=#[x0,c1,c2,c3,c4,c5,c6,c7]:=rfl
 have h0:=ZL h 0 x0
 rw [e0] at h0
 have e1:(#[x0,c1,c2,c3,c4,c5,c6,c7]:Array Value).set! 1 x1=#[x0,x1,c2,c3,c4,c5,c6,c7]:=rfl
 have h1:=ZL h0 1 x1
 rw [e1] at h1
 have e2:(#[x0,x1,c2,c3,c4,c5,c6,c7]:Array Value).set! 2 x2=#[x0,x1,x2,c3,c4,c5,c6,c7]:=rfl
 have h2:=ZL h1 2 x2
 rw [e2] at h2
 have e3:(#[x0,x1,x2,c3,c4,c5,c6,c7]:Array Value).set! 3 x3=#[x0,x1,x2,x3,c4,c5,c6,c7]:=rfl
 have h3:=ZL h2 3 x3
 rw [e3] at h3
 have e4:(#[x0,x1,x2,x3,c4,c5,c6,c7]:Array Value).set! 4 x4=#[x0,x1,x2,x3,x4,c5,c6,c7]:=rfl
 have h4:=ZL h3 4 x4
 rw [e4] at h4
 have e5:(#[x0,x1,x2,x3,x4,c5,c6,c7]:Array Value).set! 5 x5=#[x0,x1,x2,x3,x4,x5,c6,c7]:=rfl
 have h5:=ZL h4 5 x5
 rw [e5] at h5
 have e6:(#[x0,x1,x2,x3,x4,x5,c6,c7]:Array Value).set! 6 x6=#[x0,x1,x2,x3,x4,x5,x6,c7]:=rfl
 have h6:=ZL h5 6 x6
 rw [e6] at h6
 have e7:(#[x0,x1,x2,x3,x4,x5,x6,c7]:Array Value).set! 7 x7=#[x0,x1,x2,x3,x4,x5,x6,x7]:=rfl
 have h7:=ZL h6 7 x7
 rw [e7] at h7
 exact h7
theorem V9 {w:World} {b:Nat} {t:TypeId} {c0 c1:Value} (h:w.heap[b]?=some (.cells #[c0,c1] t (0,0))) (x0 x1:Value):(set2 w b x0 x1).heap[b]?=some (.cells #[x0,x1] t (0,0)):=
 heap_setCell_same _ b 1 _ _ _ (heap_setCell_same _ b 0 _ _ _ h)
theorem Qq (w:World) (b:Nat) (x0 x1 x2 x3 x4 x5 x6 x7:Value) (i:Nat) (hi:i≠b):(zbQ w b x0 x1 x2 x3 x4 x5 x6 x7).heap[i]?=w.heap[i]?:=by
 unfold zbQ
 iterate 8 rw [Below.heap_setCell _ _ _ _ (by simp only;exact hi)]
theorem Qs (w:World) (b:Nat) (x0 x1:Value) (i:Nat) (hi:i≠b):(set2 w b x0 x1).heap[i]?=w.heap[i]?:=by
 unfold set2
 iterate 2 rw [Below.heap_setCell _ _ _ _ (by simp only;exact hi)]
theorem Us {w0 w:World} {B b:Nat} (h:Below B w0 w) (hb:B≤b) (x0 x1 x2 x3 x4 x5 x6 x7:Value):Below B w0 (zbQ w b x0 x1 x2 x3 x4 x5 x6 x7):=
 (((((((h.setCell hb _).setCell hb _).setCell hb _).setCell hb _).setCell hb _).setCell hb _).setCell hb _).setCell hb _
theorem VX {w0 w:World} {B b:Nat} (h:Below B w0 w) (hb:B≤b) (x0 x1:Value):Below B w0 (set2 w b x0 x1):=(h.setCell hb _).setCell hb _
theorem XE.fin {w wx:World} {nc sc:Array Value} {sh pt:Bool} (h:XE w nc sc sh pt wx) (x0 x1 x2 x3 x4 x5 x6 x7 y0 y1:Value) :
  Below w.heap.size w (set2 (zbQ wx w.heap.size x0 x1 x2 x3 x4 x5 x6 x7) (w.heap.size+1) y0 y1)∧(∀i,w.heap.size+2≤i→(set2 (zbQ wx w.heap.size x0 x1 x2 x3 x4 x5 x6 x7) (w.heap.size+1) y0 y1).heap[i]?=wx.heap[i]?) ∧
  (set2 (zbQ wx w.heap.size x0 x1 x2 x3 x4 x5 x6 x7) (w.heap.size+1) y0 y1).heap[w.heap.size]?=some (.cells #[x0,x1,x2,x3,x4,x5,x6,x7] 160 (0,0)) ∧
  (set2 (zbQ wx w.heap.size x0 x1 x2 x3 x4 x5 x6 x7) (w.heap.size+1) y0 y1).heap[w.heap.size+1]?=some (.cells #[y0,y1] 162 (0,0)):=by
 refine ⟨VX (Us h.g (Nat.le_refl _) _ _ _ _ _ _ _ _) (by omega) _ _,fun i hi=>?_,?_,V9 ((Qq _ _ _ _ _ _ _ _ _ _ _ (by omega)).trans h.rf) _ _⟩
 ·rw [Qs _ _ _ _ _ (by omega),Qq _ _ _ _ _ _ _ _ _ _ _ (by omega)]
 ·rw [Qs _ _ _ _ _ (by omega)];exact Um h.r _ _ _ _ _ _ _ _
theorem XE.fin2 {w wx:World} {nc sc:Array Value} {sh pt:Bool} (h:XE w nc sc sh pt wx) (x0 x1 x2 x3 x4 x5 x6 x7 y0 y1:Value) :
  Below w.heap.size w (zbQ (set2 wx (w.heap.size+1) y0 y1) w.heap.size x0 x1 x2 x3 x4 x5 x6 x7)∧(∀i,w.heap.size+2≤i→(zbQ (set2 wx (w.heap.size+1) y0 y1) w.heap.size x0 x1 x2 x3 x4 x5 x6 x7).heap[i]?=wx.heap[i]?) ∧
  (zbQ (set2 wx (w.heap.size+1) y0 y1) w.heap.size x0 x1 x2 x3 x4 x5 x6 x7).heap[w.heap.size]?=some (.cells #[x0,x1,x2,x3,x4,x5,x6,x7] 160 (0,0)) ∧
  (zbQ (set2 wx (w.heap.size+1) y0 y1) w.heap.size x0 x1 x2 x3 x4 x5 x6 x7).heap[w.heap.size+1]?=some (.cells #[y0,y1] 162 (0,0)):=by
 refine ⟨Us (VX h.g (by omega) _ _) (Nat.le_refl _) _ _ _ _ _ _ _ _,fun i hi=>?_,Um ((Qs _ _ _ _ _ (by omega)).trans h.r) _ _ _ _ _ _ _ _,?_⟩
 ·rw [Qq _ _ _ _ _ _ _ _ _ _ _ (by omega),Qs _ _ _ _ _ (by omega)]
 ·rw [Qq _ _ _ _ _ _ _ _ _ _ _ (by omega)];exact V9 h.rf _ _
theorem zkI {W:World} {g base:Nat} {a b c d e:ByteArray} (h:W.heap[g]?=some (.cells #[.string a, .string b, .string c, .string d, .string e] 9 (0,0))) (hb:base≤g) :
  W.ownsRow base 9 1 (.slice (some ⟨g,0,none⟩) 5 5) [a,b,c,d,e].length (Ref.strCells [a,b,c,d,e]):=
 ⟨rfl, .inr ⟨g,5,_,rfl,hb,h,by simp,by decide,rfl,rfl⟩⟩
theorem UQ (i:Nat) (w0:World) (base b gg cap:Nat) (ns:List Ref.Node) (n:Ref.Node) (w:World) (hE:jR w0 base b gg cap ns w) (hi:ns[i]?=some n)
  (hbad:Ref.vM n [Rd.zk,Rd.jB,Rd.bDo,Rd.bOn,Rd.bIf]=false∨Ref.zX n Rd.zk<0∨Ref.kindOf ns (Ref.zX n Rd.zk)≠3) :
  Calls Tryz.prog 61 #[.pointer (some ⟨b,0,none⟩), .int .i64 (i:Int)] w (zbt w Rd.yJ):=by
 obtain ⟨⟨v1,v2⟩,⟨na,nc,hv1⟩,⟨ka,kc,hv2⟩,hcell,cH,cO⟩:=XL hE hi
 simp only at hv1 hv2
 subst hv1
 subst hv2
 have hil:i<ns.length:=(List.getElem?_eq_some_iff.1 hi).1
 have hsl:=hE.at.slice
 have hlen:=hE.rd.len
 have eB:=Ref.xM hE.rd.ev hi Rd.zk
 obtain ⟨a1,a2,a3,a4⟩:=hcell w hE.bel
 simp only at a3 a4
 obtain ⟨nl,hnl⟩:∃nl,ns.length=nl:=⟨_,rfl⟩
 have HNL:=hid hnl
 rw [hnl] at hsl hil hlen eB
 unfold Vb at cH cO
 simp only at cH cO
 obtain ⟨kind,hkind⟩:∃k,n.kind=k:=⟨_,rfl⟩
 obtain ⟨text,htext⟩:∃k,n.text=k:=⟨_,rfl⟩
 obtain ⟨nn,hnn⟩:∃k,n.names.length=k:=⟨_,rfl⟩
 obtain ⟨nk,hnk⟩:∃k,n.kids.length=k:=⟨_,rfl⟩
 rw [hkind] at a1
 rw [htext] at a2
 rw [hnn] at a3
 rw [hnk] at a4
 simp only [hkind,htext,hnn,hnk] at cH cO
 have ST:=XE.start w #[.int .i64 kind, .string text, .slice na nn nc, .slice ka nk kc]
 have bel0:∀wx sc sh pt,XE w #[.int .i64 kind, .string text, .slice na nn nc, .slice ka nk kc] sc sh pt wx→Below w0.heap.size w0 wx:=fun wx _ _ _ h=>hE.bel.trans (h.g.mono hE.bel.size)
 obtain ⟨EF,hEF⟩:∃x,Ref.zX n Rd.zk=x:=⟨_,rfl⟩
 obtain ⟨ON,hON⟩:∃x,Ref.vM n [Rd.zk,Rd.jB,Rd.bDo,Rd.bOn,Rd.bIf]=x:=⟨_,rfl⟩
 have cH1:=fun W h=>cH W Rd.zk h
 simp only [hEF] at cH1
 unfold Rd.zk at cH1
 rw [hEF] at eB
 rw [hEF,hON] at hbad
 have ST1:=ST.below ((Below.refl _ _).alloc (Nat.le_refl _) (.cells #[.string Rd.zk, .string Rd.jB, .string Rd.bDo, .string Rd.bOn, .string Rd.bIf] 9))
 have cO1:=cO _ [Rd.zk,Rd.jB,Rd.bDo,Rd.bOn,Rd.bIf] _ 0 (bel0 _ _ _ _ ST1) (zkI (heap_alloc_new _ _) (Nat.zero_le _)) (by simp)
 rw [hON] at cO1
 simp only [World.size_alloc] at cO1
 unfold Rd.zk Rd.jB Rd.bDo Rd.bOn Rd.bIf at cO1 ST1
 have HE:=hid hE
 have BEL0:=hid bel0
 have i0:(0:Int)≤(i:Int):=Int.natCast_nonneg _
 have i1:(i:Int)<(nl:Int):=by omega
 clear hE cH hcell hEF hON hkind htext hnn hnk bel0 cO hnl ST
 have s1:=fun O P:Obj=>cell_later (((Below.refl _ w).alloc (Nat.le_refl _) O).alloc (by simp) P) hsl
 have b1:=fun O P:Obj=>cell_later (((Below.refl _ w).alloc (Nat.le_refl _) O).alloc (by simp) P) a1
 have b2:=fun O P:Obj=>cell_later (((Below.refl _ w).alloc (Nat.le_refl _) O).alloc (by simp) P) a2
 have b3:=fun O P:Obj=>cell_later (((Below.refl _ w).alloc (Nat.le_refl _) O).alloc (by simp) P) a3
 have b4:=fun O P:Obj=>cell_later (((Below.refl _ w).alloc (Nat.le_refl _) O).alloc (by simp) P) a4
 go_enter Tryz.func61,Tryz.ntmps61
 go_upto_region 6 with (first
  | (go_at_call 60;refine (cH1 w1 (BEL0.out w1 _ _ _ C1)).mono ?_;rintro e w2 ⟨rfl,hb2⟩;have C2:=C1.below hb2)
  | (go_at_call 110;refine cO1.mono ?_;rintro e w1 ⟨rfl,hb1⟩;have C1:=ST1.below (by simp only [World.size_alloc];exact hb1);obtain ⟨⟨pa0,pa1,pa2,pa3⟩,_,_,_⟩:=C1.cells))
 have bl2:=BEL0.out w2 _ _ _ C2
 have sl2:w2.cell? ⟨b,2,none⟩=some (.slice (some ⟨gg,0,none⟩) nl cap):=by
  have:=(HE.out.rd.below bl2).slice
  rwa [HNL.out] at this
 clear pa0 pa1 pa2 pa3 s1 b1 b2 b3 b4 a1 a2 a3 a4 hsl i0 i1 hb1 hb2 C1 ST1 cH1 cO1
 obtain ⟨_,_,_,⟨h0,h1,h2⟩⟩:=C2.cells
 have E5:=C2.shape true
 obtain ⟨_,⟨y0,y1,y2,y3,y4,y5,y6,y7⟩,_,⟨g0,g1,_⟩⟩:=E5.cells
 obtain ⟨⟨t0,t1,t2,t3,t4,t5,t6,t7⟩,⟨u0,u1⟩,z0,z1⟩:=E5.res
 have z00:=z0 0
 have z01:=z0 1
 have z02:=z0 2
 have z03:=z0 3
 have z04:=z0 4
 have z05:=z0 5
 have z06:=z0 6
 have z07:=z0 7
 have z10:=z1 0
 have z11:=z1 1
 have FA:=E5.fin (.string ⟨#[]⟩) (.bool false) (.slice none 0 0) (.bool false) (.slice none 0 0) (.bool false) (.slice none 0 0) (.slice none 0 0) (.bool true) (.bool false)
 have FB:=E5.fin2 (.string ⟨#[]⟩) (.bool false) (.slice none 0 0) (.bool false) (.slice none 0 0) (.bool false) (.slice none 0 0) (.slice none 0 0) (.bool true) (.bool false)
 have FIN:∀W,Below w.heap.size w W→zbt w Rd.yJ (.returned (.tuple #[.agg #[.string ⟨#[]⟩, .bool false, .slice none 0 0, .bool false, .slice none 0 0, .bool false, .slice none 0 0, .slice none 0 0], .agg #[.bool true, .bool false]])) W:=fun W hb=>⟨_,_,_,_,rfl,hb,World.ownsRow_nil _ _ _ _,World.ownsRow_nil _ _ _ _,World.ownsRow_nil _ _ _ _,xO.nil _ _⟩
 have HFA:=hid FA
 have HFB:=hid FB
 have HFIN:=hid FIN
 clear z0 z1 FA FB FIN E5 C2
 have d:ON=false∨(ON=true∧EF<0)∨(ON=true∧0≤EF∧Ref.kindOf ns EF≠3):=by
  cases ON
  ·exact .inl rfl
  ·by_cases e:EF<0
   ·exact .inr (.inl ⟨rfl,e⟩)
   ·refine .inr (.inr ⟨rfl,by omega,?_⟩)
    rcases hbad with h|h|h
    ·cases h
    ·omega
    ·exact h
 clear hbad
 have last:Hid (∀W,W=set2 (zbQ (w2.setCell ⟨w.heap.size+4,0,none⟩ (.bool true)) w.heap.size (.string ⟨#[]⟩) (.bool false) (.slice none 0 0) (.bool false) (.slice none 0 0) (.bool false) (.slice none 0 0) (.slice none 0 0)) (w.heap.size+1) (.bool true) (.bool false)∨W=zbQ (set2 (w2.setCell ⟨w.heap.size+4,0,none⟩ (.bool true)) (w.heap.size+1) (.bool true) (.bool false)) w.heap.size (.string ⟨#[]⟩) (.bool false) (.slice none 0 0) (.bool false) (.slice none 0 0) (.bool false) (.slice none 0 0) (.slice none 0 0) →
   (W.cell? ⟨w.heap.size,0,none⟩=some (.string ⟨#[]⟩)∧W.cell? ⟨w.heap.size,1,none⟩=some (.bool false)∧W.cell? ⟨w.heap.size,2,none⟩=some (.slice none 0 0)∧W.cell? ⟨w.heap.size,3,none⟩=some (.bool false)∧W.cell? ⟨w.heap.size,4,none⟩=some (.slice none 0 0)∧W.cell? ⟨w.heap.size,5,none⟩=some (.bool false)∧W.cell? ⟨w.heap.size,6,none⟩=some (.slice none 0 0)∧W.cell? ⟨w.heap.size,7,none⟩=some (.slice none 0 0))∧(W.cell? ⟨w.heap.size+1,0,none⟩=some (.bool true)∧W.cell? ⟨w.heap.size+1,1,none⟩=some (.bool false))∧Below w.heap.size w W):=by
  refine hid (fun W hW=>?_)
  rcases hW with rfl|rfl
  ·obtain ⟨k1,_,k3,k4⟩:=HFA.out
   exact ⟨⟨(cells_of_block k3 0).1,(cells_of_block k3 1).1,(cells_of_block k3 2).1,(cells_of_block k3 3).1,(cells_of_block k3 4).1,(cells_of_block k3 5).1,(cells_of_block k3 6).1,(cells_of_block k3 7).1⟩,⟨(cells_of_block k4 0).1,(cells_of_block k4 1).1⟩,k1⟩
  ·obtain ⟨k1,_,k3,k4⟩:=HFB.out
   exact ⟨⟨(cells_of_block k3 0).1,(cells_of_block k3 1).1,(cells_of_block k3 2).1,(cells_of_block k3 3).1,(cells_of_block k3 4).1,(cells_of_block k3 5).1,(cells_of_block k3 6).1,(cells_of_block k3 7).1⟩,⟨(cells_of_block k4 0).1,(cells_of_block k4 1).1⟩,k1⟩
 have LA:=last.out _ (.inl rfl)
 have LB:=last.out _ (.inr rfl)
 unfold set2 zbQ at LA LB
 have LA':=hid LA
 have LB':=hid LB
 clear last LA LB HFA HFB
 rcases d with rfl|⟨rfl,o1⟩|⟨rfl,o1,o2⟩
 ·go_wp2_with fail
  go_region
  all_goals
   obtain ⟨⟨e0,e1,e2,e3,e4,e5,e6,e7⟩,⟨e8,e9⟩,bl⟩:=LA'.out
   obtain ⟨⟨l0,l1,l2,l3,l4,l5,l6,l7⟩,⟨l8,l9⟩,bm⟩:=LB'.out
   go_wp2_with fail
   first
    | exact bodyPost_ret (v := .tuple #[.agg #[.string ⟨#[]⟩, .bool false, .slice none 0 0, .bool false, .slice none 0 0, .bool false, .slice none 0 0, .slice none 0 0], .agg #[.bool true, .bool false]]) (by simp [results,Tryz.results61,go_sem,e0,e1,e2,e3,e4,e5,e6,e7,e8,e9]) rfl (HFIN.out _ bl.drew)
    | exact bodyPost_ret (v := .tuple #[.agg #[.string ⟨#[]⟩, .bool false, .slice none 0 0, .bool false, .slice none 0 0, .bool false, .slice none 0 0, .slice none 0 0], .agg #[.bool true, .bool false]]) (by simp [results,Tryz.results61,go_sem,l0,l1,l2,l3,l4,l5,l6,l7,l8,l9]) rfl (HFIN.out _ bm.drew)
 ·have d1:decide (EF<0)=true:=decide_eq_true o1
  go_wp2_with fail
  go_region
  all_goals
   obtain ⟨⟨e0,e1,e2,e3,e4,e5,e6,e7⟩,⟨e8,e9⟩,bl⟩:=LA'.out
   obtain ⟨⟨l0,l1,l2,l3,l4,l5,l6,l7⟩,⟨l8,l9⟩,bm⟩:=LB'.out
   go_wp2_with fail
   first
    | exact bodyPost_ret (v := .tuple #[.agg #[.string ⟨#[]⟩, .bool false, .slice none 0 0, .bool false, .slice none 0 0, .bool false, .slice none 0 0, .slice none 0 0], .agg #[.bool true, .bool false]]) (by simp [results,Tryz.results61,go_sem,e0,e1,e2,e3,e4,e5,e6,e7,e8,e9]) rfl (HFIN.out _ bl.drew)
    | exact bodyPost_ret (v := .tuple #[.agg #[.string ⟨#[]⟩, .bool false, .slice none 0 0, .bool false, .slice none 0 0, .bool false, .slice none 0 0, .slice none 0 0], .agg #[.bool true, .bool false]]) (by simp [results,Tryz.results61,go_sem,l0,l1,l2,l3,l4,l5,l6,l7,l8,l9]) rfl (HFIN.out _ bm.drew)
 ·have d1:decide (EF<0)=false:=decide_eq_false (by omega)
  obtain ⟨je,rfl,hec⟩:=node_cells HE.out EF o1 (by rw [HNL.out];exact eB.2)
  have je0:(0:Int)≤(je:Int):=Int.natCast_nonneg _
  have je1:(je:Int)<(nl:Int):=eB.2
  obtain ⟨m1,_⟩:=hec w2 bl2
  obtain ⟨KE,hKE⟩:∃x,Ref.kindOf ns (je:Int)=x:=⟨_,rfl⟩
  rw [hKE] at o2 m1
  have d2:(KE != 3)=true:=by simp [o2]
  clear hec hKE o2 o1
  go_wp2_with fail
  go_region
  all_goals
   obtain ⟨⟨e0,e1,e2,e3,e4,e5,e6,e7⟩,⟨e8,e9⟩,bl⟩:=LA'.out
   obtain ⟨⟨l0,l1,l2,l3,l4,l5,l6,l7⟩,⟨l8,l9⟩,bm⟩:=LB'.out
   go_wp2_with fail
   first
    | exact bodyPost_ret (v := .tuple #[.agg #[.string ⟨#[]⟩, .bool false, .slice none 0 0, .bool false, .slice none 0 0, .bool false, .slice none 0 0, .slice none 0 0], .agg #[.bool true, .bool false]]) (by simp [results,Tryz.results61,go_sem,e0,e1,e2,e3,e4,e5,e6,e7,e8,e9]) rfl (HFIN.out _ bl.drew)
    | exact bodyPost_ret (v := .tuple #[.agg #[.string ⟨#[]⟩, .bool false, .slice none 0 0, .bool false, .slice none 0 0, .bool false, .slice none 0 0, .slice none 0 0], .agg #[.bool true, .bool false]]) (by simp [results,Tryz.results61,go_sem,l0,l1,l2,l3,l4,l5,l6,l7,l8,l9]) rfl (HFIN.out _ bm.drew)
end Go.Proofs.YtdakgnaojakldaaGreatDoor
