/- P -/
import Derived.Test.YtdakgnaojakldaaGreatDoorP37
set_option maxRecDepth 100000
set_option maxHeartbeats 1000000
namespace Go.Proofs.YtdakgnaojakldaaGreatDoor
open Go.RowKit
def Vb (n:Ref.Node) (v:Value×Value):Value := .agg #[.int .i64 n.kind, .string n.text,v.1,v.2]
theorem qh {w:World} {base:Nat} {e:TypeId} {v:Value} {n:Nat} {xs:List Value} (h:w.ownsRow base e 1 v n xs):∃a c,v = .slice a n c∧∀k,k<n→∃g,a=some ⟨g,0,none⟩∧w.cell? ⟨g,k,none⟩=xs[k]?:=by
 rcases h.2 with ⟨rfl,rfl⟩|⟨g,c,cur,rfl,_⟩
 ·exact ⟨_,_,rfl,fun k hk=>by omega⟩
 ·exact ⟨_,_,rfl,fun k hk=>⟨g,rfl,h.cellAt k (by omega)⟩⟩
def Zh (w wr:World) (cs:Array Value) (t:TypeId):Prop:=wr.heap[w.heap.size]?=some (.cells cs t (0,0))∧Below w.heap.size w wr
theorem Zh.start (w:World) (cs:Array Value) (t:TypeId):Zh w (w.alloc (.cells cs t)) cs t:=⟨heap_alloc_new w _,(Below.refl _ _).alloc (Nat.le_refl _) _⟩
theorem Zh.drew {w wr:World} {cs:Array Value} {t:TypeId} (h:Zh w wr cs t):Zh w wr.drew cs t:=⟨h.1,h.2.drew⟩
theorem Zh.cell {w wr:World} {cs:Array Value} {t:TypeId} (h:Zh w wr cs t) (k:Nat):wr.cell? ⟨w.heap.size,k,none⟩=cs[k]?:=(cells_of_block h.1 k).1
theorem Zh.old {w wr:World} {cs:Array Value} {t:TypeId} (h:Zh w wr cs t) {p:Addr} {v:Value} (hp:w.cell? p=some v):wr.cell? p=some v:=cell_later h.2 hp
theorem zlm (n:Ref.Node) (v:Value×Value) (name:ByteArray) (base:Nat) (w:World) (hN:w.ownsRow base 9 1 v.1 n.names.length (Ref.strCells n.names)) (hK:w.ownsRow base 3 1 v.2 n.kids.length (qf n.kids))
  (hl:n.names.length≤n.kids.length) (hs:n.kids.length≤4000) :
  Calls Tryz.prog 60 #[Vb n v, .string name] w fun e w'=>e = .returned (.int .i64 (Ref.zX n name))∧Below w.heap.size w w':=by
 obtain ⟨P,hP⟩:∃P,Ref.zX n name=P:=⟨_,rfl⟩
 rw [hP]
 obtain ⟨kind,text,ss,ks⟩:=n
 unfold Ref.zX at hP
 simp only at hP hN hK hl hs
 obtain ⟨na,nc,hv1,cN⟩:=qh hN
 obtain ⟨ka,kc,hv2,cK⟩:=qh hK
 unfold Vb
 rw [hv1,hv2]
 simp only
 obtain ⟨nl,hnl⟩:∃k,ss.length=k:=⟨_,rfl⟩
 obtain ⟨kl,hkl⟩:∃k,ks.length=k:=⟨_,rfl⟩
 rw [hnl] at cN hl
 rw [hkl] at cK hl hs
 rw [hnl,hkl]
 have HP:=hid hP
 have CN:=hid cN
 have CK:=hid cK
 have HNL:=hid hnl
 have HKL:=hid hkl
 clear hP hN hK hv1 hv2 cN cK hnl hkl
 go_enter Tryz.func60,Tryz.ntmps60
 go_wp2_with fail
 go_loopw [5] (fun i wr=>∃k:Nat,k≤nl∧i = .int .i64 k∧P=Ref.Uz (ss.drop k) (ks.drop k) name∧Zh w wr #[.int .i64 kind, .string text, .slice na nl nc, .slice ka kl kc] 152) (fun i _=>nl-(intOf i).toNat)
 case atStart=>exact ⟨0,Nat.zero_le _,rfl,by rw [← HP.out];rfl,Zh.start _ _ _⟩
 case round=>
  obtain ⟨k,hk,rfl,hb,hloc⟩:=hrel
  have HB:=hid hb
  have c2:wr.cell? ⟨w.heap.size,2,none⟩=some (.slice na nl nc):=hloc.cell 2
  have c3:wr.cell? ⟨w.heap.size,3,none⟩=some (.slice ka kl kc):=hloc.cell 3
  have HL:=hid hloc
  clear hb hloc
  by_cases hlt:k<nl
  ·obtain ⟨g,rfl,q1⟩:=CN.out k hlt
   obtain ⟨g2,rfl,q2⟩:=CK.out k (by omega)
   have l1:k<ss.length:=by rw [HNL.out];exact hlt
   have l2:k<ks.length:=by rw [HKL.out];omega
   rw [Ref.xC ss k l1] at q1
   rw [qf,Ref.zbj ks k l2] at q2
   obtain ⟨s,hs1⟩:∃s,ss[k]=s:=⟨_,rfl⟩
   obtain ⟨j,hj1⟩:∃s,ks[k]=s:=⟨_,rfl⟩
   rw [hs1] at q1;rw [hj1] at q2
   have HS:=hid hs1
   have HJ:=hid hj1
   have L1:=hid l1
   have L2:=hid l2
   have q3:=HL.out.old q1
   have q4:=HL.out.old q2
   clear hs1 hj1 q1 q2
   cases heq:(s.toList==name.toList) with
   | true=>
    have e:=Ref.zjH ss ks name k L1.out L2.out (by rw [HS.out];exact heq)
    rw [← HB.out,HJ.out] at e
    subst e
    go_wp2
    go_ret
    exact ⟨rfl,HL.out.2⟩
   | false=>
    have e:=Ref.zgD ss ks name k L1.out L2.out (by rw [HS.out];exact heq)
    go_wp2
    go_roundw
    case rel=>exact ⟨k+1,by omega,by go_num,HB.out.trans e,HL.out⟩
    case measure=>simp [intOf];omega
  ·have e:=Ref.zkg ss ks name k (by rw [HNL.out];exact hlt)
   rw [← HB.out] at e
   subst e
   go_wp2
   go_ret
   exact ⟨rfl,HL.out.2⟩
theorem zd0 (n:Ref.Node) (v:Value×Value) (ts:List ByteArray) (sl:Value) (base base2:Nat) (w:World) (hN:w.ownsRow base 9 1 v.1 n.names.length (Ref.strCells n.names)) (hT:w.ownsRow base2 9 1 sl ts.length (Ref.strCells ts))
  (hl:n.names.length≤4000) (hs:ts.length≤4000) :
  Calls Tryz.prog 110 #[Vb n v,sl] w fun e w'=>e = .returned (.bool (Ref.vM n ts))∧Below w.heap.size w w':=by
 obtain ⟨P,hP⟩:∃P,Ref.vM n ts=P:=⟨_,rfl⟩
 rw [hP]
 obtain ⟨kind,text,ss,ks⟩:=n
 unfold Ref.vM at hP
 simp only at hP hN hl
 obtain ⟨na,nc,hv1,cN⟩:=qh hN
 obtain ⟨ta,tc,hv2,cT⟩:=qh hT
 unfold Vb
 rw [hv1,hv2]
 simp only
 obtain ⟨v2,hv2'⟩:∃x,v.2=x:=⟨_,rfl⟩
 rw [hv2']
 obtain ⟨nl,hnl⟩:∃k,ss.length=k:=⟨_,rfl⟩
 obtain ⟨tl,htl⟩:∃k,ts.length=k:=⟨_,rfl⟩
 rw [hnl] at cN hl
 rw [htl] at cT hs
 rw [hnl,htl]
 have HP:=hid hP
 have CN:=hid cN
 have CT:=hid cT
 have HNL:=hid hnl
 have HTL:=hid htl
 clear hP hN hT hv1 hv2 hv2' cN cT hnl htl
 go_enter Tryz.func110,Tryz.ntmps110
 go_wp2_with fail
 go_loopw [5] (fun i wr=>∃k:Nat,k≤nl∧i = .int .i64 k∧((ss.take k).all (fun s=>ts.any fun t=>t.toList==s.toList))=true∧Zh w wr #[.int .i64 kind, .string text, .slice na nl nc,v2] 152) (fun i _=>nl-(intOf i).toNat)
 case atStart=>exact ⟨0,Nat.zero_le _,rfl,by simp,Zh.start _ _ _⟩
 case round=>
  obtain ⟨k,hk,rfl,hb,hloc⟩:=hrel
  have HB:=hid hb
  have c2:wr.cell? ⟨w.heap.size,2,none⟩=some (.slice na nl nc):=hloc.cell 2
  have c0:wr.cell? ⟨w.heap.size,0,none⟩=some (.int .i64 kind):=hloc.cell 0
  have HL:=hid hloc
  clear hb hloc
  by_cases hlt:k<nl
  ·obtain ⟨g,rfl,q1⟩:=CN.out k hlt
   have l1:k<ss.length:=by rw [HNL.out];exact hlt
   rw [Ref.xC ss k l1] at q1
   obtain ⟨s,hs1⟩:∃s,ss[k]=s:=⟨_,rfl⟩
   rw [hs1] at q1
   have HS:=hid hs1
   have L1:=hid l1
   have q3:=HL.out.old q1
   have Q1:=hid q1
   clear hs1 q1
   go_wp2_with fail
   go_loopw [6,7] (fun fv jv wx=>∃(j:Nat) (x:Bool),j≤tl∧jv = .int .i64 j∧fv = .bool x∧(x=(ts.take j).any fun t=>t.toList==s.toList)∧Zh w wx #[.int .i64 kind, .string text, .slice (some ⟨g,0,none⟩) nl nc,v2] 152) (fun _ jv _=>tl-(intOf jv).toNat)
   case atStart=>exact ⟨0,false,Nat.zero_le _,rfl,rfl,by simp,HL.out⟩
   case round=>
    obtain ⟨j,x,hj,rfl,rfl,hx,hloc⟩:=hrel
    have HX:=hid hx
    have HL2:=hid hloc
    have q5:=HL2.out.old Q1.out
    have d2:wr.cell? ⟨w.heap.size,2,none⟩=some (.slice (some ⟨g,0,none⟩) nl nc):=hloc.cell 2
    clear hx c2 c0 q3 hloc
    by_cases hjt:j<tl
    ·obtain ⟨g2,rfl,q2⟩:=CT.out j hjt
     have l2:j<ts.length:=by rw [HTL.out];exact hjt
     rw [Ref.xC ts j l2] at q2
     obtain ⟨t,ht1⟩:∃s,ts[j]=s:=⟨_,rfl⟩
     rw [ht1] at q2
     have HT:=hid ht1
     have q4:=HL2.out.old q2
     clear ht1 q2
     cases heq:(t.toList==s.toList) with
     | true=>
      have e:=hid (Ref.zd7 ts s j l2 x HX.out true (by rw [HT.out];exact heq))
      cases x with
      | true=>
       go_wp2_with fail
       go_region
       all_goals
        go_wp2
        go_roundw
        case rel=>exact ⟨j+1,true,by omega,by go_num,rfl,e.out,HL2.out.drew⟩
        case measure=>simp [intOf];omega
      | false=>
       go_wp2_with fail
       go_region
       all_goals
        go_wp2
        go_roundw
        case rel=>exact ⟨j+1,true,by omega,by go_num,rfl,e.out,HL2.out.drew⟩
        case measure=>simp [intOf];omega
     | false=>
      have e:=hid (Ref.zd7 ts s j l2 x HX.out false (by rw [HT.out];exact heq))
      cases x with
      | true=>
       go_wp2_with fail
       go_region
       all_goals
        go_wp2
        go_roundw
        case rel=>exact ⟨j+1,true,by omega,by go_num,rfl,e.out,HL2.out.drew⟩
        case measure=>simp [intOf];omega
      | false=>
       go_wp2_with fail
       go_region
       all_goals
        go_wp2
        go_roundw
        case rel=>exact ⟨j+1,false,by omega,by go_num,rfl,e.out,HL2.out.drew⟩
        case measure=>simp [intOf];omega
    ·have e:=hid (Ref.zk9 ts s j (by rw [HTL.out];exact hjt) x HX.out)
     cases x with
     | true=>
      have e2:=hid (Ref.zez ss (fun s=>ts.any fun t=>t.toList==s.toList) k L1.out HB.out (by rw [HS.out];exact e.out))
      go_wp2
      go_roundw
      case rel=>exact ⟨k+1,by omega,by go_num,e2.out,HL2.out⟩
      case measure=>simp [intOf];omega
     | false=>
      have e2:=Ref.zeK ss (fun s=>ts.any fun t=>t.toList==s.toList) k L1.out (by rw [HS.out];exact e.out)
      have hp:=HP.out
      rw [e2,Bool.false_and] at hp
      subst hp
      clear e2
      go_wp2
      go_ret
      exact ⟨rfl,HL2.out.2⟩
  ·have e:=Ref.zhJ ss (fun s=>ts.any fun t=>t.toList==s.toList) k (by rw [HNL.out];exact hlt) HB.out
   have hp:=HP.out
   rw [e,Bool.true_and] at hp
   subst hp
   clear e
   go_wp2
   go_ret
   exact ⟨rfl,HL.out.2⟩
structure zej (w:World) (base b gg cap:Nat) (ns:List Ref.Node):Prop where
 lt:b<w.heap.size∧gg<w.heap.size
 slice:w.cell? ⟨b,2,none⟩=some (.slice (some ⟨gg,0,none⟩) ns.length cap)
 node:∀(i:Nat) (n:Ref.Node),ns[i]?=some n→∃v:Value×Value,w.cell? ⟨gg,i*4,none⟩=some (.int .i64 n.kind)∧w.cell? ⟨gg,i*4+1,none⟩=some (.string n.text)∧w.cell? ⟨gg,i*4+2,none⟩=some v.1∧w.cell? ⟨gg,i*4+3,none⟩=some v.2 ∧
  w.ownsRow base 9 1 v.1 n.names.length (Ref.strCells n.names)∧w.ownsRow base 3 1 v.2 n.kids.length (qf n.kids)
 ev:Ref.Ev ns
 len:ns.length≤4000
 small:∀(i:Nat) (n:Ref.Node),ns[i]?=some n→n.kids.length≤4000∧n.names.length≤4000∧n.text.size≤12000
theorem zej.below {w w':World} {base b gg cap:Nat} {ns:List Ref.Node} (h:zej w base b gg cap ns) (hb:Below w.heap.size w w'):zej w' base b gg cap ns:=by
 have hsz:=hb.size
 refine ⟨⟨by have:=h.lt.1;omega,by have:=h.lt.2;omega⟩,cell_later hb h.slice,fun i n hi=>?_,h.ev,h.len,h.small⟩
 obtain ⟨v,a1,a2,a3,a4,a5,a6⟩:=h.node i n hi
 exact ⟨v,cell_later hb a1,cell_later hb a2,cell_later hb a3,cell_later hb a4,ownsRow_below a5 hb,ownsRow_below a6 hb⟩
theorem zej.kid {w:World} {base b gg cap:Nat} {ns:List Ref.Node} (h:zej w base b gg cap ns) {i:Nat} {n:Ref.Node} (hi:ns[i]?=some n) (j:Nat) (hj:j<n.kids.length):n.kids[j]<ns.length:=(h.ev i n hi).1 _ (List.getElem_mem hj)
theorem Zh.grown2 {w wr w1:World} {cs:Array Value} {t e:TypeId} {size n:Nat} {v:Value} {xs:List Value} (h:Zh w wr cs t) (hown:wr.ownsRow (w.heap.size+1) e size v n xs) (a b:Obj) (hg:((wr.alloc a).alloc b).drew.grownBy w1 v.ownBlock):Zh w w1 cs t:=by
 have hlt:w.heap.size<wr.heap.size:=lt_of_block h.1
 have B1:Below (w.heap.size+1) wr w1:=(((Below.refl _ wr).alloc (by omega) a).alloc (by simp;omega) b).drew.grown hg (by simp;omega) (fun k hk=>(hown.lt k hk).1)
 exact ⟨(B1.block _ (by omega)).trans h.1,h.2.trans (B1.mono (by omega))⟩
theorem zed (w:World) (O:Obj) (t:TypeId) (s:ByteArray):((w.alloc O).alloc (.cells #[.string s] t)).ownsRow w.heap.size t 1 (.slice (some ⟨w.heap.size+1,0,none⟩) 1 1) 1 [.string s]:=by
 have h:=World.ownsRow_lit (base:=w.heap.size) (e:=t) (size:=1) (w.alloc O) #[.string s] 1 (by simp) (by decide) rfl
 rw [World.size_alloc] at h
 exact h
theorem zg0 (w:World) (O:Obj) (t:TypeId) (s:ByteArray):∀(j:Nat) (u:Value),[Value.string s][j]?=some u→((w.alloc O).alloc (.cells #[.string s] t)).drew.cell? ((⟨w.heap.size+1,0,none⟩:Addr).add j)=some u:=
 fun j u h=>(zed w O t s).cells (g:=w.heap.size+1) rfl j u h
def KH (w:World) (R:Option (List ByteArray)) (e:Ending) (w':World):Prop:=
 ∃lv,e = .returned (.tuple #[lv, .bool R.isSome])∧Below w.heap.size w w'∧w'.ownsRow w.heap.size 9 1 lv (R.getD []).length (Ref.strCells (R.getD []))
theorem Ve (k:Int) (base b gg cap:Nat) (ns:List Ref.Node) (w:World) (h:zej w base b gg cap ns) (hk:k<ns.length) (hk0:-1≤k) :
  Calls Tryz.prog 207 #[.pointer (some ⟨b,0,none⟩), .int .i64 k] w (KH w (Ref.zH ns k)):=by
 obtain ⟨R,hR⟩:∃R,Ref.zH ns k=R:=⟨_,rfl⟩
 rw [hR]
 unfold Ref.zH at hR
 by_cases hneg:k<0
 ·rw [if_pos hneg] at hR
  subst hR
  go_enter Tryz.func207,Tryz.ntmps207
  go_wp2
  go_ret2
  exact ⟨_,rfl,Below.refl _ _,World.ownsRow_nil _ _ _ _⟩
 rw [if_neg hneg] at hR
 obtain ⟨i,rfl⟩:∃i:Nat,k=i:=⟨k.toNat,by omega⟩
 have hil:i<ns.length:=by omega
 simp only [Int.toNat_natCast,List.getElem?_eq_getElem hil] at hR
 have hn:=List.getElem?_eq_getElem hil
 obtain ⟨v,a1,a2,a3,a4,a5,a6⟩:=h.node i _ hn
 have hsm:=h.small i _ hn
 obtain ⟨n,hnn⟩:∃n,ns[i]=n:=⟨_,rfl⟩
 rw [hnn] at hR hn a1 a2 a5 a6 hsm
 obtain ⟨v1,v2⟩:=v
 simp only at a3 a4 a5 a6
 have hsl:=h.slice
 obtain ⟨nl,hnl⟩:∃nl,ns.length=nl:=⟨_,rfl⟩
 have hlen:=h.len
 rw [hnl] at hsl hil hk hlen
 obtain ⟨kind,text,ss,ks⟩:=n
 simp only at hR a1 a2 a3 a4 a5 a6 hsm
 obtain ⟨ka,kc,hv2,cK⟩:=qh a6
 obtain ⟨na,nc,rfl,_⟩:=qh a5
 obtain ⟨kl,hkl⟩:∃kl,ks.length=kl:=⟨_,rfl⟩
 rw [hkl] at hv2 cK hsm hR
 rw [hv2] at a4
 have CK:=hid cK
 have HH:=hid h
 have HR:=hid hR
 have HKL:=hid hkl
 have HN:=hid hn
 have HNL:=hid hnl
 have i0:(0:Int)≤(i:Int):=Int.natCast_nonneg _
 have i1:(i:Int)<(nl:Int):=by omega
 clear h hR hnn hn hnl hkl a5 a6 cK hk0 hk hv2
 go_enter Tryz.func207,Tryz.ntmps207
 by_cases h3:kind=3
 ·have hr:=HR.out
  rw [if_pos h3] at hr
  subst hr
  subst h3
  go_wp2
  go_ret2
  exact ⟨_,rfl,((Below.refl _ _).alloc (Nat.le_refl _) _).alloc (by simp) _,zed _ _ _ _⟩
 have h3b:(kind==3)=false:=by simp [h3]
 have hr:=HR.out
 rw [if_neg h3] at hr
 by_cases h2:kind≠2
 ·rw [if_pos (.inl h2)] at hr
  subst hr
  have h2b:(kind != 2)=true:=by simp [h2]
  clear HR
  go_wp2
  go_ret2
  exact ⟨_,rfl,(Below.refl _ _).alloc (Nat.le_refl _) _,World.ownsRow_nil _ _ _ _⟩
 rw [Ne,Decidable.not_not] at h2
 subst h2
 by_cases hk1:kl<1
 ·rw [if_pos (.inr (.inl hk1))] at hr
  subst hr
  have hkb:decide ((kl:Int)<1)=true:=by simp;omega
  clear HR
  go_wp2
  go_ret2
  exact ⟨_,rfl,(Below.refl _ _).alloc (Nat.le_refl _) _,World.ownsRow_nil _ _ _ _⟩
 by_cases hk10:10<kl
 ·rw [if_pos (.inr (.inr hk10))] at hr
  subst hr
  have hkb:decide ((kl:Int)<1)=false:=by simp;omega
  have hkc:decide (10<(kl:Int))=true:=by simp;omega
  clear HR
  go_wp2
  go_ret2
  exact ⟨_,rfl,(Below.refl _ _).alloc (Nat.le_refl _) _,World.ownsRow_nil _ _ _ _⟩
 rw [if_neg (by omega)] at hr
 have HR2:=hid hr
 have hkb:decide ((kl:Int)<1)=false:=by simp;omega
 have hkc:decide (10<(kl:Int))=false:=by simp;omega
 clear hr HR
 obtain ⟨i0,hi,hz0,hz1,hz2⟩:=info_parts Tryz.infoStr
 go_wp2_with fail
 go_loopw [7,8] (fun lv jv wr=>∃(j:Nat) (done:List ByteArray),j≤kl∧jv = .int .i64 j∧done.length=j∧R=(Ref.xm ns (ks.drop j)).map (fun b=>done++b)∧wr.ownsRow (w.heap.size+1) 9 1 lv done.length (Ref.strCells done) ∧
   Zh w wr #[.int .i64 2, .string text, .slice na ss.length nc, .slice ka kl kc] 152) (fun _ jv _=>kl-(intOf jv).toNat)
 case atStart=>exact ⟨0,[],by omega,rfl,rfl,by rw [← HR2.out];simp,World.ownsRow_nil _ _ _ _,Zh.start _ _ _⟩
 case round=>
  obtain ⟨j,done,hj,rfl,hdl,hP0,hown,hloc⟩:=hrel
  have HP1:=hid hP0
  have c3:wr.cell? ⟨w.heap.size,3,none⟩=some (.slice ka kl kc):=hloc.cell 3
  have hrd:=HH.out.below hloc.2
  have HRD:=hid hrd
  have HL:=hid hloc
  have hlr:w.heap.size<wr.heap.size:=lt_of_block hloc.1
  have s2:=hrd.slice
  rw [HNL.out] at s2
  clear hP0 hloc hrd HR2 a1 a2 a3 a4 hsl
  by_cases hlt:j<kl
  ·obtain ⟨g,rfl,q1⟩:=CK.out j hlt
   have l1:j<ks.length:=by rw [HKL.out];exact hlt
   rw [qf,Ref.zbj ks j l1] at q1
   have hkid:=HRD.out.kid HN.out j l1
   simp only at hkid
   obtain ⟨c,hc⟩:∃c,ks[j]=c:=⟨_,rfl⟩
   rw [hc] at q1 hkid
   have q2:=HL.out.old q1
   have hx:=List.getElem?_eq_getElem hkid
   obtain ⟨⟨v1,v2⟩,b1,b2,b3,b4,b5,b6⟩:=HRD.out.node c _ hx
   obtain ⟨x,hxx⟩:∃x,ns[c]=x:=⟨_,rfl⟩
   rw [hxx] at hx b1 b2 b5 b6
   simp only at b3 b4 b5 b6
   obtain ⟨na2,nc2,rfl,_⟩:=qh b5
   obtain ⟨ka2,kc2,rfl,_⟩:=qh b6
   obtain ⟨xk,xt,xs,xks⟩:=x
   simp only at b1 b2 b3 b4
   rw [HNL.out] at hkid
   have k0:(0:Int)≤(c:Int):=Int.natCast_nonneg _
   have k1:(c:Int)<(nl:Int):=by omega
   have HX:Hid (ns[ks[j]]?=some ⟨xk,xt,xs,xks⟩):=by rw [hc];exact hx
   have L1:=hid l1
   clear q1 hx hxx hc b5 b6
   have q2':=fun O:Obj=>cell_later ((Below.refl _ wr).alloc (Nat.le_refl _) O) q2
   have s2':=fun O:Obj=>cell_later ((Below.refl _ wr).alloc (Nat.le_refl _) O) s2
   have c3':=fun O:Obj=>cell_later ((Below.refl _ wr).alloc (Nat.le_refl _) O) c3
   have b1':=fun O:Obj=>cell_later ((Below.refl _ wr).alloc (Nat.le_refl _) O) b1
   have b2':=fun O:Obj=>cell_later ((Below.refl _ wr).alloc (Nat.le_refl _) O) b2
   have b3':=fun O:Obj=>cell_later ((Below.refl _ wr).alloc (Nat.le_refl _) O) b3
   have b4':=fun O:Obj=>cell_later ((Below.refl _ wr).alloc (Nat.le_refl _) O) b4
   by_cases hx3:xk=3
   ·subst hx3
    have e:=hid (Ref.zad ns ks j l1 _ HX.out rfl done R HP1.out)
    clear HP1
    go_wp2_with fail
    go_region
    go_wp2_with (at_builtin;refine wpList_append_own _ rfl _ _ 42 rfl (w.heap.size+1) 9 i0 (.string ⟨#[]⟩) 1 16 Tryz.underlying42 hi hz0 hz1 hz2 rfl (by decide) _ done.length (Ref.strCells done) rfl ((hown.alloc _).alloc _) ⟨wr.heap.size+1,0,none⟩ 1 1 [.string xt] rfl rfl ?_ ?_ ?_ ?_ ?_ ?_)
    ·exact zg0 _ _ _ _
    ·intro u hu;simp at hu;subst hu;rfl
    ·unfold maxLen;omega
    ·omega
    ·simp;omega
    ·intro v' w1 hown' hgrow _
     have hl2:=hid (HL.out.grown2 hown _ _ hgrow)
     have hown2:w1.ownsRow (w.heap.size+1) 9 1 v' (done++[xt]).length (Ref.strCells (done++[xt])):=by rw [Ref.U6,List.length_append,hdl];exact hown'
     clear hown' hgrow hown q2' s2' c3' b1' b2' b3' b4' q2 s2 c3 b1 b2 b3 b4
     go_wp2
     go_roundw
     case rel=>exact ⟨j+1,done++[xt],by omega,by go_num,by simp;omega,e.out,hown2,hl2.out⟩
     case measure=>simp [intOf];omega
   ·have hfin:=Ref.U5 ns ks j l1 _ HX.out hx3 done R HP1.out
    subst hfin
    have hxb:(xk != 3)=true:=by simp [hx3]
    clear HP1
    go_wp2_with fail
    go_region
    all_goals
     go_wp2
     go_ret2
     exact ⟨_,rfl,(HL.out.2.alloc (by omega) _).drew,World.ownsRow_nil _ _ _ _⟩
  ·have hfin:=Ref.za0 ns ks j (by rw [HKL.out];exact hlt) done R HP1.out
   subst hfin
   clear HP1
   go_wp2
   go_ret2
   exact ⟨_,rfl,HL.out.2,zl hown (by omega)⟩
def qW (w:World) (fb:Nat) (sh pt:Bool):Prop:=w.heap[fb]?=some (.cells #[.bool sh, .bool pt] 162 (0,0))
theorem qW.cell {w:World} {fb:Nat} {sh pt:Bool} (h:qW w fb sh pt):w.cell? ⟨fb,0,none⟩=some (.bool sh)∧w.cell? ⟨fb,1,none⟩=some (.bool pt)∧w.frozen? ⟨fb,0,none⟩=false∧w.frozen? ⟨fb,1,none⟩=false:=
 ⟨(cells_of_block h 0).1,(cells_of_block h 1).1,(cells_of_block h 0).2,(cells_of_block h 1).2⟩
theorem qW.shape {w:World} {fb:Nat} {sh pt:Bool} (h:qW w fb sh pt) (x:Bool):qW (w.setCell ⟨fb,0,none⟩ (.bool x)) fb x pt:=heap_setCell_same w fb 0 _ _ _ h
theorem qW.pat {w:World} {fb:Nat} {sh pt:Bool} (h:qW w fb sh pt) (x:Bool):qW (w.setCell ⟨fb,1,none⟩ (.bool x)) fb sh x:=heap_setCell_same w fb 1 _ _ _ h
theorem qW.below {w w':World} {fb:Nat} {sh pt:Bool} (h:qW w fb sh pt) (hb:Below w.heap.size w w'):qW w' fb sh pt:=(hb.block fb (lt_of_block h)).trans h
theorem But.trans {a b c:World} {r:Option Nat} (h:a.grownBy b r) (k:b.grownBy c r):a.grownBy c r:=
 ⟨k.os.trans h.os,k.tape.trans h.tape,k.output.trans h.output,Nat.le_trans h.size k.size,fun i hi hn=>(k.block i (Nat.lt_of_lt_of_le hi h.size) hn).trans (h.block i hi hn)⟩
theorem But.of {a b:World} (r:Option Nat) (h:Below a.heap.size a b):a.grownBy b r:=⟨h.os,h.tape,h.output,h.size,fun i hi _=>h.block i hi⟩
theorem But.set (a:World) (fb o:Nat) (u:Value):a.grownBy (a.setCell ⟨fb,o,none⟩ u) (some fb):=
 ⟨rfl,rfl,rfl,by simp [World.setCell],fun i _ hn=>Below.heap_setCell _ _ _ _ (fun e=>hn (by simp only at e;rw [e]))⟩
theorem But.below {a b:World} {fb B:Nat} (h:a.grownBy b (some fb)) (hB:B≤a.heap.size) (hf:B≤fb):Below B a b:=
 ⟨h.os,h.tape,h.output,h.size,fun i hi=>h.block i (by omega) (fun e=>by simp only [Option.some.injEq] at e;omega)⟩
theorem zfJ (s:ByteArray) (w:World) (hs:s.size≤maxLen) (h:60<s.size) :
  Calls Tryz.prog 176 #[.string s] w fun e w'=>e = .returned (.tuple #[.slice none 0 0, .bool false])∧w'=w:=by
 unfold maxLen at hs
 go_enter Tryz.func176,Tryz.ntmps176
 go_wp2
 go_ret2
 exact ⟨rfl,rfl⟩
theorem Jf (s:ByteArray) (w:World) (hs:s.size≤12000) (x:Bool) (hx:Ref.xY s=x) :
  Calls Tryz.prog 176 #[.string s] w fun e w'=>∃v,e = .returned (.tuple #[v, .bool x])∧Below w.heap.size w w':=by
 subst hx
 unfold Ref.xY
 by_cases h:60<s.size
 ·have hp:(Ref.parts s).isSome=false:=by unfold Ref.parts;rw [if_pos h];rfl
  rw [hp]
  refine (zfJ s w (by unfold maxLen;omega) h).mono ?_
  rintro e w' ⟨rfl,rfl⟩
  exact ⟨_,rfl,Below.refl _ _⟩
 ·refine (ziT s w (by omega)).mono ?_
  rintro e w' ⟨v,rfl,hb,_⟩
  exact ⟨v,rfl,hb⟩
def U1 (w:World) (fb:Nat) (sh pt:Bool) (R:Option (List ByteArray)) (e:Ending) (w':World):Prop:=
 ∃lv,e = .returned lv∧w.grownBy w' (some fb)∧qW w' fb (sh || !R.isSome) (pt || !((R.getD []).all Ref.xY))∧w'.ownsRow w.heap.size 9 1 lv (R.getD []).length (Ref.strCells (R.getD []))
theorem qm {w:World} {base:Nat} {lv:Value} {l:List ByteArray} (h:w.ownsRow base 9 1 lv l.length (Ref.strCells l)):∃a c,lv = .slice a l.length c:=by
 obtain ⟨a,c,e,_⟩:=qh h
 exact ⟨a,c,e⟩
theorem YP (k:Int) (base b gg cap:Nat) (ns:List Ref.Node) (fb:Nat) (sh pt:Bool) (w:World) (h:zej w base b gg cap ns) (hk:k<ns.length) (hk0:-1≤k) (hf:qW w fb sh pt) :
  Calls Tryz.prog 165 #[.pointer (some ⟨b,0,none⟩), .int .i64 k, .pointer (some ⟨fb,0,none⟩)] w (U1 w fb sh pt (Ref.zH ns k)):=by
 have hsmall:∀s ∈ (Ref.zH ns k).getD [],s.size≤12000:=by
  cases e:Ref.zH ns k with
  | none=>simp
  | some l=>exact Ref.QF ns 12000 (fun i n hi=>(h.small i n hi).2.2) k l e
 have hlen:((Ref.zH ns k).getD []).length≤10:=by
  cases e:Ref.zH ns k with
  | none=>simp
  | some l=>exact Ref.YV ns k l e
 obtain ⟨R,hR⟩:∃R,Ref.zH ns k=R:=⟨_,rfl⟩
 have HS:Hid (∀w,zej w base b gg cap ns→Calls Tryz.prog 207 #[.pointer (some ⟨b,0,none⟩), .int .i64 k] w (KH w R)):=by
  intro w h;rw [← hR];exact Ve k base b gg cap ns w h hk hk0
 rw [hR] at hsmall hlen ⊢
 have HH:=hid h
 have HF:=hid hf
 have HSM:=hid hsmall
 have hfl:fb<w.heap.size:=lt_of_block hf
 clear h hf hR hsmall
 go_enter Tryz.func165,Tryz.ntmps165
 go_wp2_with fail
 refine (HS.out _ HH.out).mono ?_
 rintro e w1 ⟨lv,rfl,hb1,hown1⟩
 have f1:=HF.out.below hb1
 obtain ⟨fc0,fc1,ff0,ff1⟩:=f1.cell
 have F1:=hid f1
 have B1:=hid hb1
 obtain ⟨l,hl⟩:∃l,R.getD []=l:=⟨_,rfl⟩
 rw [hl] at hown1 hlen
 obtain ⟨la,lc,rfl⟩:=qm hown1
 have HLL:=hid hl
 have OWN:=hid hown1
 obtain ⟨x,hx⟩:∃x,R.isSome=x:=⟨_,rfl⟩
 have HXX:=hid hx
 rw [hx]
 clear f1 hb1 hl hown1 hx HS HH
 cases x with
 | true=>
  obtain ⟨SH,hSH⟩:∃y,(sh || !true)=y:=⟨_,rfl⟩
  have START:Hid (qW w1 fb SH pt∧w.grownBy w1 (some fb)∧w1.ownsRow w.heap.size 9 1 (.slice la l.length lc) l.length (Ref.strCells l)):=by
   refine ⟨?_,But.of _ B1.out,OWN.out⟩
   rw [← hSH];simpa using F1.out
  have HSH:=hid hSH
  clear hSH
  go_wp2_with fail
  go_loopw [9] (fun iv wr=>∃(j:Nat),j≤l.length∧iv = .int .i64 j∧qW wr fb SH (pt || !((l.take j).all Ref.xY))∧w.grownBy wr (some fb)∧wr.ownsRow w.heap.size 9 1 (.slice la l.length lc) l.length (Ref.strCells l)) (fun iv _=>l.length-(intOf iv).toNat)
  case atStart=>exact ⟨0,Nat.zero_le _,rfl,by simpa using START.out.1,START.out.2.1,START.out.2.2⟩
  case round=>
   obtain ⟨j,hj,rfl,rf,rg,ro⟩:=hrel
   obtain ⟨P,hP⟩:∃P,(pt || !((l.take j).all Ref.xY))=P:=⟨_,rfl⟩
   rw [hP] at rf
   obtain ⟨rc0,rc1,rf0,rf1⟩:=rf.cell
   have RF:=hid rf
   have RG:=hid rg
   have RO:=hid ro
   have HPP:=hid hP
   clear rf rg ro hP START
   by_cases hlt:j<l.length
   ·obtain ⟨la2,lc2,hsl,hcs⟩:=qh RO.out
    simp only [Value.slice.injEq,true_and] at hsl
    obtain ⟨rfl,rfl⟩:=hsl
    obtain ⟨g,rfl,q1⟩:=hcs j hlt
    rw [Ref.xC l j hlt] at q1
    have hsz:=HSM.out l[j] (by rw [HLL.out];exact List.getElem_mem hlt)
    have e:=Ref.zeC l pt j hlt
    rw [HPP.out] at e
    obtain ⟨s,hs⟩:∃s,l[j]=s:=⟨_,rfl⟩
    rw [hs] at q1 hsz e
    cases hy:Ref.xY s with
    | true=>
     rw [hy] at e
     simp only [Bool.not_true,Bool.or_false] at e
     have E:=hid e
     have HY:=hid hy
     clear hcs hs e hy
     go_wp2_with (go_at_call 176;refine (Jf s _ hsz true HY.out).mono ?_;rintro e w2 ⟨pv,rfl,hb2⟩)
     go_roundw
     case rel=>exact ⟨j+1,by omega,by go_num,by rw [E.out];exact RF.out.below hb2,But.trans RG.out (But.of _ hb2),ownsRow_below RO.out hb2⟩
     case measure=>simp [intOf];omega
    | false=>
     rw [hy] at e
     simp only [Bool.not_false,Bool.or_true] at e
     have E:=hid e
     have HY:=hid hy
     clear hcs hs e hy
     go_wp2_with (go_at_call 176;refine (Jf s _ hsz false HY.out).mono ?_;rintro e w2 ⟨pv,rfl,hb2⟩;obtain ⟨tc0,tc1,tf0,tf1⟩:=(RF.out.below hb2).cell)
     go_roundw
     case rel=>exact ⟨j+1,by omega,by go_num,by rw [E.out];exact (RF.out.below hb2).pat true,But.trans (But.trans RG.out (But.of _ hb2)) (But.set _ _ _ _),ownsRow_setCell_below (ownsRow_below RO.out hb2) hfl _⟩
     case measure=>simp [intOf];omega
   ·have e:=Ref.zhq l pt j hlt
    rw [HPP.out] at e
    have hR2:(qW wr fb SH (pt || !((R.getD []).all Ref.xY))):=by rw [HLL.out,← e];exact RF.out
    have HR2:=hid hR2
    clear e hR2
    go_wp2
    go_ret
    exact ⟨_,rfl,RG.out,by rw [HXX.out,HSH.out];exact HR2.out,by rw [HLL.out];exact RO.out⟩
 | false=>
  obtain ⟨SH,hSH⟩:∃y,(sh || !false)=y:=⟨_,rfl⟩
  have START:Hid (qW (w1.setCell ⟨fb,0,none⟩ (.bool true)) fb SH pt∧w.grownBy (w1.setCell ⟨fb,0,none⟩ (.bool true)) (some fb)∧(w1.setCell ⟨fb,0,none⟩ (.bool true)).ownsRow w.heap.size 9 1 (.slice la l.length lc) l.length (Ref.strCells l)):=by
   refine ⟨?_,But.trans (But.of _ B1.out) (But.set _ _ _ _),ownsRow_setCell_below OWN.out hfl _⟩
   rw [← hSH];simpa using F1.out.shape true
  have HSH:=hid hSH
  clear hSH
  go_wp2_with fail
  go_loopw [9] (fun iv wr=>∃(j:Nat),j≤l.length∧iv = .int .i64 j∧qW wr fb SH (pt || !((l.take j).all Ref.xY))∧w.grownBy wr (some fb)∧wr.ownsRow w.heap.size 9 1 (.slice la l.length lc) l.length (Ref.strCells l)) (fun iv _=>l.length-(intOf iv).toNat)
  case atStart=>exact ⟨0,Nat.zero_le _,rfl,by simpa using START.out.1,START.out.2.1,START.out.2.2⟩
  case round=>
   obtain ⟨j,hj,rfl,rf,rg,ro⟩:=hrel
   obtain ⟨P,hP⟩:∃P,(pt || !((l.take j).all Ref.xY))=P:=⟨_,rfl⟩
   rw [hP] at rf
   obtain ⟨rc0,rc1,rf0,rf1⟩:=rf.cell
   have RF:=hid rf
   have RG:=hid rg
   have RO:=hid ro
   have HPP:=hid hP
   clear rf rg ro hP START
   by_cases hlt:j<l.length
   ·obtain ⟨la2,lc2,hsl,hcs⟩:=qh RO.out
    simp only [Value.slice.injEq,true_and] at hsl
    obtain ⟨rfl,rfl⟩:=hsl
    obtain ⟨g,rfl,q1⟩:=hcs j hlt
    rw [Ref.xC l j hlt] at q1
    have hsz:=HSM.out l[j] (by rw [HLL.out];exact List.getElem_mem hlt)
    have e:=Ref.zeC l pt j hlt
    rw [HPP.out] at e
    obtain ⟨s,hs⟩:∃s,l[j]=s:=⟨_,rfl⟩
    rw [hs] at q1 hsz e
    cases hy:Ref.xY s with
    | true=>
     rw [hy] at e
     simp only [Bool.not_true,Bool.or_false] at e
     have E:=hid e
     have HY:=hid hy
     clear hcs hs e hy
     go_wp2_with (go_at_call 176;refine (Jf s _ hsz true HY.out).mono ?_;rintro e w2 ⟨pv,rfl,hb2⟩)
     go_roundw
     case rel=>exact ⟨j+1,by omega,by go_num,by rw [E.out];exact RF.out.below hb2,But.trans RG.out (But.of _ hb2),ownsRow_below RO.out hb2⟩
     case measure=>simp [intOf];omega
    | false=>
     rw [hy] at e
     simp only [Bool.not_false,Bool.or_true] at e
     have E:=hid e
     have HY:=hid hy
     clear hcs hs e hy
     go_wp2_with (go_at_call 176;refine (Jf s _ hsz false HY.out).mono ?_;rintro e w2 ⟨pv,rfl,hb2⟩;obtain ⟨tc0,tc1,tf0,tf1⟩:=(RF.out.below hb2).cell)
     go_roundw
     case rel=>exact ⟨j+1,by omega,by go_num,by rw [E.out];exact (RF.out.below hb2).pat true,But.trans (But.trans RG.out (But.of _ hb2)) (But.set _ _ _ _),ownsRow_setCell_below (ownsRow_below RO.out hb2) hfl _⟩
     case measure=>simp [intOf];omega
   ·have e:=Ref.zhq l pt j hlt
    rw [HPP.out] at e
    have hR2:(qW wr fb SH (pt || !((R.getD []).all Ref.xY))):=by rw [HLL.out,← e];exact RF.out
    have HR2:=hid hR2
    clear e hR2
    go_wp2
    go_ret
    exact ⟨_,rfl,RG.out,by rw [HXX.out,HSH.out];exact HR2.out,by rw [HLL.out];exact RO.out⟩
end Go.Proofs.YtdakgnaojakldaaGreatDoor
