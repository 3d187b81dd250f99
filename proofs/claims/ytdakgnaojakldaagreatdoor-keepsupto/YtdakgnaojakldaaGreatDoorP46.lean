/- P -/
import Derived.Test.YtdakgnaojakldaaGreatDoorP45
import Derived.Test.YtdakgnaojakldaaGreatDoorP44
import Derived.Deep.CutRange
import Derived.Test.YtdakgnaojakldaaGreatDoorP30
set_option maxRecDepth 100000
set_option maxHeartbeats 4000000
namespace Go.Proofs.YtdakgnaojakldaaGreatDoor
open Go.RowKit
theorem Below.on {B:Nat} {a b c:World} (h:Below B a b) (k:Below b.heap.size b c) (hB:B≤a.heap.size):Below B a c:=h.trans (k.mono (Nat.le_trans hB h.size))
structure Grown (A:World) where
 w:World
 b:Below A.heap.size A w
theorem zgy (cs:List Ref.xg) (k:Nat) (c:Ref.xg) (h:cs[k]?=some c):Ref.vg cs (k+1)=Ref.YL (Ref.comma (Ref.vg cs k) k) c:=by
 rw [Ref.vg,List.getD_eq_getElem?_getD,h];rfl
theorem JR (cs:List Ref.xg) (lv:Value) (base:Nat) (w:World) (h:xO w base lv cs) (hn:cs.length≤5) (hS:∀c ∈ cs,Ref.YK c) :
  Calls Tryz.prog 66 #[lv] w fun e w'=>e = .returned (.string (Ref.Qd cs))∧Below w.heap.size w w':=by
 obtain ⟨a,cc,rfl⟩:=h.slice
 obtain ⟨xs,hx,hc⟩:=h
 obtain ⟨n,hnn⟩:∃n,cs.length=n:=⟨_,rfl⟩
 have hcell:∀(k:Nat) (x:Ref.xg),cs[k]?=some x→∃gb lx,a=some ⟨gb,0,none⟩∧(w.cell? ⟨gb,k*4,none⟩=some (.string x.op)∧w.cell? ⟨gb,k*4+1,none⟩=some (.string x.key)∧w.cell? ⟨gb,k*4+2,none⟩=some lx∧w.cell? ⟨gb,k*4+3,none⟩=some (.bool x.no))∧w.ownsRow base 9 1 lx x.vals.length (Ref.strCells x.vals):=by
  intro k x hxk
  have hk:k<cs.length:=(List.getElem?_eq_some_iff.1 hxk).1
  have hl:xs.length=cs.length*4:=hx.1
  rcases hx.2 with ⟨e,h0⟩|⟨gb,cap,cur,e,_⟩
  ·omega
  ·have hcc:∀i,i<cs.length*4→w.cell? ⟨gb,i,none⟩=xs[i]?:=fun i hi=>World.ownsRow.cellAt (g:=gb) (cap:=cap) (by rw [← e];exact hx) i (by omega)
   injection e with e1 e2 e3
   obtain ⟨lx,h0,h1,h2,h3,h4⟩:=hc k hk
   have hxe:cs[k]=x:=(List.getElem?_eq_some_iff.1 hxk).2
   rw [hxe] at h0 h1 h3 h4
   exact ⟨gb,lx,e1,⟨(hcc _ (by omega)).trans h0,(hcc _ (by omega)).trans h1,(hcc _ (by omega)).trans h2,(hcc _ (by omega)).trans h3⟩,h4⟩
 obtain ⟨R,hR⟩:∃R,Ref.Qd cs=R:=⟨_,rfl⟩
 rw [hR]
 obtain ⟨O,hO⟩:∃O:Nat→ByteArray,Ref.vg cs=O:=⟨_,rfl⟩
 have hsz:∀k,k≤n→(O k).size≤1300000*k:=fun k hk=>by rw [← hO];exact Ref.um cs hS k (by rw [hnn];exact hk)
 have hnext:∀k c,cs[k]?=some c→O (k+1)=Ref.YL (Ref.comma (O k) k) c:=fun k c hkc=>by rw [← hO];exact zgy cs k c hkc
 have hRO:R=O n:=by rw [← hR,← hO,← hnn];rfl
 have O0:O 0=⟨#[]⟩:=by rw [← hO];rfl
 rw [hnn] at hn
 have HC:=hid hcell
 have HN:=hid hnn
 have HZ:=hid hsz
 have HNX:=hid hnext
 have HRO:=hid hRO
 have HO0:=hid O0
 have HS:=hid hS
 rw [hnn]
 clear hcell hnn hx hc hsz hnext hRO O0 hR hO hS
 go_enter Tryz.func66,Tryz.ntmps66
 go_wp2
 go_loopw [3,4] (fun ov iv wr=>∃k:Nat,k≤n∧iv = .int .i64 k∧ov = .string (O k)∧Below w.heap.size w wr) (fun _ iv _=>n-(intOf iv).toNat)
 case atStart=>exact ⟨0,Nat.zero_le _,rfl,by rw [HO0.out],Below.refl _ _⟩
 case round=>
  obtain ⟨k,hk,rfl,rfl,hbel⟩:=hrel
  have HBEL:=hid hbel
  have z:=HZ.out k hk
  clear hbel HO0
  by_cases hlt:k<n
  ·have hkl:k<cs.length:=by rw [HN.out];exact hlt
   have hck:=List.getElem?_eq_getElem hkl
   obtain ⟨gb,lx,rfl,⟨q0,q1,q2,q3⟩,o4⟩:=HC.out k _ hck
   have hnx:=HNX.out k _ hck
   have hsm:=HS.out _ (List.getElem_mem hkl)
   obtain ⟨c,hcc⟩:∃c,cs[k]=c:=⟨_,rfl⟩
   rw [hcc] at q0 q1 q3 o4 hnx hsm
   obtain ⟨la,lc,rfl⟩:=qm o4
   obtain ⟨op,key,vals,no,csh,cpt⟩:=c
   simp only at q0 q1 q2 q3 o4 hnx hsm
   obtain ⟨s1,s2,s3,s4⟩:=hsm
   simp only at s1 s2 s3 s4
   have p0:=cell_later HBEL.out q0
   have p1:=cell_later HBEL.out q1
   have p2:=cell_later HBEL.out q2
   have p3:=cell_later HBEL.out q3
   have CL:=hid (fun W (hb:Below w.heap.size w W)=>Uo vals _ base W (ownsRow_below o4 hb) s3 s4)
   have hsb:=(Ref.J7 (Ref.comma (O k) k) (c:=⟨op,key,vals,no,csh,cpt⟩) ⟨s1,s2,s3,s4⟩)
   have hcz:=Ref.Qg (O k) k
   obtain ⟨o,ho⟩:∃o,O k=o:=⟨_,rfl⟩
   rw [ho] at hnx hsb hcz z ⊢
   have HNX1:=hid hnx
   have lz:=Ref.yA (l:=vals) ⟨s3,s4⟩
   obtain ⟨vl,hvl⟩:∃v,vals.length=v:=⟨_,rfl⟩
   rw [hvl] at p2 CL
   have hoz:(Ref.comma o k).size≤10000000:=by
    have:1300000*k≤1300000*5:=Nat.mul_le_mul_left _ (by omega)
    omega
   have k0:(0:Int)≤(k:Int):=Int.natCast_nonneg _
   have k1:(k:Int)<(n:Int):=by omega
   clear q0 q1 q2 q3 o4 hck hcc HC HNX HZ HRO HN HS ho hnx
   go_upto_if 12 with fail
   go_cut [3] from 5 to 55 (fun s wx=>s = .string (Ref.comma o k)∧wx=wr)
   case first=>
    by_cases hk0:0<k
    ·have hkb:decide (0<k)=true:=decide_eq_true hk0
     rw [hkb]
     go_wp2_with fail
     go_meet
     case rel=>exact ⟨by unfold Ref.comma;rw [if_pos hk0],rfl⟩
    ·have hkb:decide (0<k)=false:=decide_eq_false hk0
     rw [hkb]
     go_wp2_with fail
     go_meet
     case rel=>exact ⟨by unfold Ref.comma;rw [if_neg hk0],rfl⟩
   case rest=>
    obtain ⟨rfl,hwc⟩:=hcut
    rw [hwc]
    clear hwc
    have y1:=Ref.zW op
    have y2:=Ref.zW key
    obtain ⟨o1,ho1⟩:∃x,Ref.comma o k=x:=⟨_,rfl⟩
    rw [ho1] at HNX1 hsb hcz hoz ⊢
    have a0:wr.drew.cell? ⟨gb,k*4,none⟩=some (.string op):=p0
    have a1:wr.drew.cell? ⟨gb,k*4+1,none⟩=some (.string key):=p1
    have a2:wr.drew.cell? ⟨gb,k*4+2,none⟩=some (.slice la vl lc):=p2
    have a3:wr.drew.cell? ⟨gb,k*4+3,none⟩=some (.bool no):=p3
    have bA:Below wr.heap.size wr wr.drew:=(Below.refl _ wr).drew
    clear ho1
    go_upto_region 7 with fail
    go_cut [3] from 5 to 55 (fun s wx=>s = .string (o1++⟨#[123,34,111,112,34,58]⟩++Ref.zy op++⟨#[44,34,107,101,121,34,58]⟩++Ref.zy key)∧Below wr.heap.size wr wx)
    case first=>
     have f0:∀X:Grown wr,X.w.cell? ⟨gb,k*4,none⟩=some (.string op):=fun X=>cell_later X.b p0
     have f1:∀X:Grown wr,X.w.cell? ⟨gb,k*4+1,none⟩=some (.string key):=fun X=>cell_later X.b p1
     have HQ:Hid (∀(s:ByteArray) (X:Grown wr),s.size≤12000→Calls Tryz.prog 64 #[.string s] X.w fun e w''=>e = .returned (.string (Ref.zy s))∧∃Y:Grown wr,w''=Y.w):=
      hid (fun s X hs=>(YB s X.w hs).mono (fun e w'' ⟨he,hb⟩=>⟨he,⟨w'',Below.on X.b hb (Nat.le_refl _)⟩,rfl⟩))
     clear a0 a1 a2 a3
     have NE:Nonempty (Grown wr):=⟨⟨wr,Below.refl _ _⟩⟩
     refine wp_region_quiet (C:=fun W'=>∃X:Grown wr,W'=X.w) (by kernel_rfl) (by kernel_rfl) ⟨⟨_,bA⟩,rfl⟩ ?_
     simp only
     repeat (go_big_quiet_step (first|exact HQ.out _ _ s1|exact HQ.out _ _ s2))
     refine wpQuiet_nil ?_
     intro w' hw'
     obtain ⟨X,rfl⟩:=hw'
     go_wp2_with fail
     go_meet
     case rel=>exact ⟨rfl,X.b⟩
    case rest=>
     obtain ⟨rfl,hbc⟩:=hcut
     have r0:=cell_later hbc p0
     have r2:=cell_later hbc p2
     have r3:=cell_later hbc p3
     have HBC:Hid (Below w.heap.size w wc):=HBEL.out.trans (hbc.mono HBEL.out.size)
     have HCL:=hid (CL.out wc HBC.out)
     obtain ⟨Hd,hHd⟩:∃x,(o1++⟨#[123,34,111,112,34,58]⟩++Ref.zy op++⟨#[44,34,107,101,121,34,58]⟩++Ref.zy key:ByteArray)=x:=⟨_,rfl⟩
     have hzH:Hd.size≤20000000:=by
      have h8:=hsb.1
      unfold Ref.jr at h8
      rw [hHd] at h8
      omega
     have hnx:=HNX1.out
     unfold Ref.YL Ref.Ux Ref.uu Ref.jr at hnx
     simp only at hnx
     rw [hHd] at hnx
     have HF:=hid hnx
     obtain ⟨LB,hLB⟩:∃x,Ref.xe vals=x:=⟨_,rfl⟩
     rw [hLB] at lz HCL HF
     rw [hHd]
     clear hbc p0 p1 p2 p3 a0 a1 a2 a3 bA CL hsb hcz hoz hHd hnx HNX1 y1 y2 hLB z s1 s2 s3 s4
     by_cases hab:Ref.zV op=true
     ·have e1:(op.toList==[97,98,115,101,110,116])=true:=hab
      have e2:(op.toList != [97,98,115,101,110,116])=false:=by unfold bne;rw [e1];rfl
      have hF:=HF.out
      rw [if_pos hab] at hF
      have HF2:=hid hF
      clear hF HF hab
      cases no with
      | true=>
       have hF:=HF2.out
       rw [if_pos rfl] at hF
       have HF3:=hid hF
       clear hF HF2
       go_wp2_with fail
       go_roundw
       case rel=>exact ⟨k+1,by omega,by go_num,by rw [HF3.out],HBC.out⟩
       case measure=>simp [intOf];omega
      | false=>
       have hF:=HF2.out
       rw [if_neg (by simp)] at hF
       have HF3:=hid hF
       clear hF HF2
       go_wp2_with fail
       go_roundw
       case rel=>exact ⟨k+1,by omega,by go_num,by rw [HF3.out],HBC.out⟩
       case measure=>simp [intOf];omega
     ·have hab':Ref.zV op=false:=by simpa using hab
      have e1:(op.toList==[97,98,115,101,110,116])=false:=hab'
      have e2:(op.toList != [97,98,115,101,110,116])=true:=by unfold bne;rw [e1];rfl
      have hF:=HF.out
      rw [if_neg hab] at hF
      have HF2:=hid hF
      clear hF HF hab hab'
      cases no with
      | true=>
       have hF:=HF2.out
       rw [if_pos rfl] at hF
       have HF3:=hid hF
       clear hF HF2
       go_wp2_with (go_at_call 119;refine HCL.out.mono ?_;rintro e w5 ⟨rfl,hb5⟩;have t3:=cell_later hb5 r3;have HB5:=hid (Below.on HBC.out hb5 (Nat.le_refl _));clear hb5)
       go_roundw
       case rel=>exact ⟨k+1,by omega,by go_num,by rw [HF3.out],HB5.out⟩
       case measure=>simp [intOf];omega
      | false=>
       have hF:=HF2.out
       rw [if_neg (by simp)] at hF
       have HF3:=hid hF
       clear hF HF2
       go_wp2_with (go_at_call 119;refine HCL.out.mono ?_;rintro e w5 ⟨rfl,hb5⟩;have t3:=cell_later hb5 r3;have HB5:=hid (Below.on HBC.out hb5 (Nat.le_refl _));clear hb5)
       go_roundw
       case rel=>exact ⟨k+1,by omega,by go_num,by rw [HF3.out],HB5.out⟩
       case measure=>simp [intOf];omega
  ·have hkn:k=n:=by omega
   subst hkn
   have hro:=HRO.out
   subst hro
   go_wp2
   go_ret
   exact ⟨rfl,HBEL.out⟩
theorem zfz (rs:List Rd.qN) (k:Nat) (r:Rd.qN) (h:rs[k]?=some r):Ref.jJ rs (k+1)=Ref.YQ (Ref.comma (Ref.jJ rs k) k) r:=by
 rw [Ref.jJ,List.getD_eq_getElem?_getD,h];rfl
theorem yB.slice {w:World} {base:Nat} {lv:Value} {rs:List Rd.qN} (h:yB w base lv rs):∃a c,lv = .slice a rs.length c:=by
 obtain ⟨xs,h,_⟩:=h
 rcases h.2 with ⟨rfl,h0⟩|⟨g,c,cur,rfl,_⟩
 ·exact ⟨_,_,by rw [h0]⟩
 ·exact ⟨_,_,rfl⟩
theorem zaB (rs:List Rd.qN) (lv:Value) (base:Nat) (w:World) (h:yB w base lv rs) (hn:rs.length≤10) (hS:∀r ∈ rs,Ref.uS r) :
  Calls Tryz.prog 36 #[lv] w fun e w'=>e = .returned (.string (Ref.XG rs))∧Below w.heap.size w w':=by
 obtain ⟨a,cc,rfl⟩:=h.slice
 obtain ⟨xs,hx,hc⟩:=h
 obtain ⟨n,hnn⟩:∃n,rs.length=n:=⟨_,rfl⟩
 have hcell:∀(k:Nat) (x:Rd.qN),rs[k]?=some x→∃gb l1 l2 l3 lc,a=some ⟨gb,0,none⟩∧(w.cell? ⟨gb,k*8,none⟩=some (.string x.eff)∧w.cell? ⟨gb,k*8+1,none⟩=some (.bool x.who.1)∧w.cell? ⟨gb,k*8+2,none⟩=some l1∧w.cell? ⟨gb,k*8+3,none⟩=some (.bool x.act.1)∧w.cell? ⟨gb,k*8+4,none⟩=some l2∧w.cell? ⟨gb,k*8+5,none⟩=some (.bool x.on.1)∧w.cell? ⟨gb,k*8+6,none⟩=some l3∧w.cell? ⟨gb,k*8+7,none⟩=some lc)∧Qz w base l1 l2 l3 lc x:=by
  intro k x hxk
  have hk:k<rs.length:=(List.getElem?_eq_some_iff.1 hxk).1
  have hl:xs.length=rs.length*8:=hx.1
  rcases hx.2 with ⟨e,h0⟩|⟨gb,cap,cur,e,_⟩
  ·omega
  ·have hcc:∀i,i<rs.length*8→w.cell? ⟨gb,i,none⟩=xs[i]?:=fun i hi=>World.ownsRow.cellAt (g:=gb) (cap:=cap) (by rw [← e];exact hx) i (by omega)
   injection e with e1 e2 e3
   obtain ⟨l1,l2,l3,lc,h0,h1,h2,h3,h4,h5,h6,h7,hR⟩:=hc k hk
   have hxe:rs[k]=x:=(List.getElem?_eq_some_iff.1 hxk).2
   rw [hxe] at h0 h1 h3 h5 hR
   exact ⟨gb,l1,l2,l3,lc,e1,⟨(hcc _ (by omega)).trans h0,(hcc _ (by omega)).trans h1,(hcc _ (by omega)).trans h2,(hcc _ (by omega)).trans h3,(hcc _ (by omega)).trans h4,(hcc _ (by omega)).trans h5,(hcc _ (by omega)).trans h6,(hcc _ (by omega)).trans h7⟩,hR⟩
 obtain ⟨R,hR⟩:∃R,Ref.XG rs=R:=⟨_,rfl⟩
 rw [hR]
 obtain ⟨O,hO⟩:∃O:Nat→ByteArray,Ref.jJ rs=O:=⟨_,rfl⟩
 have hsz:∀k,k≤n→(O k).size≤11000000*k+20:=fun k hk=>by rw [← hO];exact Ref.YO rs hS k (by rw [hnn];exact hk)
 have hnext:∀k c,rs[k]?=some c→O (k+1)=Ref.YQ (Ref.comma (O k) k) c:=fun k c hkc=>by rw [← hO];exact zfz rs k c hkc
 have hRO:R=O n++⟨#[93,125]⟩:=by rw [← hR,← hO,← hnn];rfl
 have O0:O 0=⟨#[123,34,115,116,97,116,101,109,101,110,116,34,58,91]⟩:=by rw [← hO];rfl
 rw [hnn] at hn
 have HC:=hid hcell
 have HN:=hid hnn
 have HZ:=hid hsz
 have HNX:=hid hnext
 have HRO:=hid hRO
 have HO0:=hid O0
 have HS:=hid hS
 rw [hnn]
 clear hcell hnn hx hc hsz hnext hRO O0 hR hO hS
 go_enter Tryz.func36,Tryz.ntmps36
 go_wp2
 go_loopw [3,4] (fun ov iv wr=>∃k:Nat,k≤n∧iv = .int .i64 k∧ov = .string (O k)∧Below w.heap.size w wr) (fun _ iv _=>n-(intOf iv).toNat)
 case atStart=>exact ⟨0,Nat.zero_le _,rfl,by rw [HO0.out],Below.refl _ _⟩
 case round=>
  obtain ⟨k,hk,rfl,rfl,hbel⟩:=hrel
  have HBEL:=hid hbel
  have z:=HZ.out k hk
  have hkm:11000000*k≤11000000*10:=Nat.mul_le_mul_left _ (by omega)
  clear hbel HO0
  by_cases hlt:k<n
  ·have hkl:k<rs.length:=by rw [HN.out];exact hlt
   have hck:=List.getElem?_eq_getElem hkl
   obtain ⟨gb,l1,l2,l3,lc,rfl,⟨q0,q1,q2,q3,q4,q5,q6,q7⟩,oR⟩:=HC.out k _ hck
   have hnx:=HNX.out k _ hck
   have hsm:=HS.out _ (List.getElem_mem hkl)
   obtain ⟨c,hcc⟩:∃c,rs[k]=c:=⟨_,rfl⟩
   rw [hcc] at q0 q1 q3 q5 oR hnx hsm
   obtain ⟨eff,⟨N1,L1⟩,⟨N2,L2⟩,⟨N3,L3⟩,cs,csh,cpt⟩:=c
   obtain ⟨o1R,o2R,o3R,o4R⟩:=oR
   obtain ⟨s0,s1,s2,s3,s4,s5⟩:=hsm
   simp only at q0 q1 q3 q5 o1R o2R o3R o4R hnx s0 s1 s2 s3 s4 s5
   obtain ⟨la1,lc1,rfl⟩:=qm o1R
   obtain ⟨la2,lc2,rfl⟩:=qm o2R
   obtain ⟨la3,lc3,rfl⟩:=qm o3R
   obtain ⟨la4,lc4,rfl⟩:=o4R.slice
   have p0:=cell_later HBEL.out q0
   have p1:=cell_later HBEL.out q1
   have p2:=cell_later HBEL.out q2
   have p3:=cell_later HBEL.out q3
   have p4:=cell_later HBEL.out q4
   have p5:=cell_later HBEL.out q5
   have p6:=cell_later HBEL.out q6
   have p7:=cell_later HBEL.out q7
   have CQ:=hid (fun W=>YB eff W (show eff.size≤12000 by omega))
   have CA:=hid (fun W (hb:Below w.heap.size w W)=>Yf N1 L1 _ base W (ownsRow_below o1R hb) s1.1 s1.2)
   have CB:=hid (fun W (hb:Below w.heap.size w W)=>Yf N2 L2 _ base W (ownsRow_below o2R hb) s2.1 s2.2)
   have CC:=hid (fun W (hb:Below w.heap.size w W)=>Yf N3 L3 _ base W (ownsRow_below o3R hb) s3.1 s3.2)
   have CD:=hid (fun W (hb:Below w.heap.size w W)=>JR cs _ base W (o4R.kept (fun i _ hl=>hb.block i hl)) s4 s5)
   have y0:(Ref.zy eff).size≤100000:=by have:=Ref.zW eff;omega
   have y1:(Ref.chosenB N1 L1).size≤900020:=Ref.qC (c:=(N1,L1)) s1
   have y2:(Ref.chosenB N2 L2).size≤900020:=Ref.qC (c:=(N2,L2)) s2
   have y3:(Ref.chosenB N3 L3).size≤900020:=Ref.qC (c:=(N3,L3)) s3
   have y4:(Ref.Qd cs).size≤6500000:=by
    have h2:=Ref.um cs s5 cs.length (Nat.le_refl _)
    unfold Ref.Qd
    omega
   have hcz:=Ref.Qg (O k) k
   obtain ⟨o,ho⟩:∃o,O k=o:=⟨_,rfl⟩
   rw [ho] at hnx hcz z ⊢
   have hoz:(Ref.comma o k).size≤120000000:=by omega
   have hozo:o.size≤120000000:=by omega
   unfold Ref.YQ Ref.V3 Ref.Ze at hnx
   simp only at hnx
   have hp1:Ref.yS (N1,L1)=Ref.chosenB N1 L1:=rfl
   have hp2:Ref.yS (N2,L2)=Ref.chosenB N2 L2:=rfl
   have hp3:Ref.yS (N3,L3)=Ref.chosenB N3 L3:=rfl
   rw [hp1,hp2,hp3] at hnx
   obtain ⟨QE,hQE⟩:∃x,Ref.zy eff=x:=⟨_,rfl⟩
   obtain ⟨G1,hG1⟩:∃x,Ref.chosenB N1 L1=x:=⟨_,rfl⟩
   obtain ⟨G2,hG2⟩:∃x,Ref.chosenB N2 L2=x:=⟨_,rfl⟩
   obtain ⟨G3,hG3⟩:∃x,Ref.chosenB N3 L3=x:=⟨_,rfl⟩
   obtain ⟨G4,hG4⟩:∃x,Ref.Qd cs=x:=⟨_,rfl⟩
   rw [hQE,hG1,hG2,hG3,hG4] at hnx
   rw [hQE] at y0
   rw [hG1] at y1
   rw [hG2] at y2
   rw [hG3] at y3
   rw [hG4] at y4
   simp only [hQE] at CQ
   simp only [hG1] at CA
   simp only [hG2] at CB
   simp only [hG3] at CC
   simp only [hG4] at CD
   obtain ⟨n1,hn1⟩:∃v,L1.length=v:=⟨_,rfl⟩
   obtain ⟨n2,hn2⟩:∃v,L2.length=v:=⟨_,rfl⟩
   obtain ⟨n3,hn3⟩:∃v,L3.length=v:=⟨_,rfl⟩
   obtain ⟨n4,hn4⟩:∃v,cs.length=v:=⟨_,rfl⟩
   rw [hn1] at p2 CA
   rw [hn2] at p4 CB
   rw [hn3] at p6 CC
   rw [hn4] at p7 CD hnx s4
   have HNX1:=hid hnx
   have k0:(0:Int)≤(k:Int):=Int.natCast_nonneg _
   have k1:(k:Int)<(n:Int):=by omega
   clear q0 q1 q2 q3 q4 q5 q6 q7 o1R o2R o3R o4R hck hcc HC HNX HZ HRO HN HS ho hnx hQE hG1 hG2 hG3 hG4 hn1 hn2 hn3 hn4 hp1 hp2 hp3 s0 s1 s2 s3 s5 z hcz
   go_upto_if 13 with fail
   go_cut [3] from 6 to 53 (fun s wx=>s = .string (Ref.comma o k)∧wx=wr)
   case first=>
    by_cases hk0:0<k
    ·have hkb:decide (0<k)=true:=decide_eq_true hk0
     rw [hkb]
     go_wp2_with fail
     go_meet
     case rel=>exact ⟨by unfold Ref.comma;rw [if_pos hk0],rfl⟩
    ·have hkb:decide (0<k)=false:=decide_eq_false hk0
     rw [hkb]
     go_wp2_with fail
     go_meet
     case rel=>exact ⟨by unfold Ref.comma;rw [if_neg hk0],rfl⟩
   case rest=>
    obtain ⟨rfl,hwc⟩:=hcut
    rw [hwc]
    clear hwc
    obtain ⟨o1,ho1⟩:∃x,Ref.comma o k=x:=⟨_,rfl⟩
    rw [ho1] at HNX1 hoz ⊢
    clear ho1
    obtain ⟨A,hA⟩:∃A,wr.alloc (.cells #[.string eff, .bool N1, .slice la1 n1 lc1, .bool N2, .slice la2 n2 lc2, .bool N3, .slice la3 n3 lc3, .slice la4 n4 lc4] 160)=A:=⟨_,rfl⟩
    have bl:=heap_alloc_new wr (.cells #[.string eff, .bool N1, .slice la1 n1 lc1, .bool N2, .slice la2 n2 lc2, .bool N3, .slice la3 n3 lc3, .slice la4 n4 lc4] 160)
    have bwA:Below w.heap.size w A:=by rw [← hA];exact HBEL.out.alloc HBEL.out.size _
    rw [hA] at bl
    have hltA:wr.heap.size<A.heap.size:=lt_of_block bl
    have f0:∀X:Grown A,X.w.cell? ⟨wr.heap.size,0,none⟩=some (.string eff):=fun X=>cell_later X.b (cells_of_block bl 0).1
    have f1:∀X:Grown A,X.w.cell? ⟨wr.heap.size,1,none⟩=some (.bool N1):=fun X=>cell_later X.b (cells_of_block bl 1).1
    have f2:∀X:Grown A,X.w.cell? ⟨wr.heap.size,2,none⟩=some (.slice la1 n1 lc1):=fun X=>cell_later X.b (cells_of_block bl 2).1
    have f3:∀X:Grown A,X.w.cell? ⟨wr.heap.size,3,none⟩=some (.bool N2):=fun X=>cell_later X.b (cells_of_block bl 3).1
    have f4:∀X:Grown A,X.w.cell? ⟨wr.heap.size,4,none⟩=some (.slice la2 n2 lc2):=fun X=>cell_later X.b (cells_of_block bl 4).1
    have f5:∀X:Grown A,X.w.cell? ⟨wr.heap.size,5,none⟩=some (.bool N3):=fun X=>cell_later X.b (cells_of_block bl 5).1
    have f6:∀X:Grown A,X.w.cell? ⟨wr.heap.size,6,none⟩=some (.slice la3 n3 lc3):=fun X=>cell_later X.b (cells_of_block bl 6).1
    have f7:∀X:Grown A,X.w.cell? ⟨wr.heap.size,7,none⟩=some (.slice la4 n4 lc4):=fun X=>cell_later X.b (cells_of_block bl 7).1
    have upA:∀X:Grown A,Below w.heap.size w X.w:=fun X=>bwA.trans (X.b.mono bwA.size)
    have HQ:Hid (∀X:Grown A,Calls Tryz.prog 64 #[.string eff] X.w fun e w''=>e = .returned (.string QE)∧∃Y:Grown A,w''=Y.w):=hid (fun X=>(CQ.out X.w).mono (fun e w'' ⟨he,hb⟩=>⟨he,⟨w'',Below.on X.b hb (Nat.le_refl _)⟩,rfl⟩))
    have H1:Hid (∀X:Grown A,Calls Tryz.prog 65 #[.agg #[.bool N1, .slice la1 n1 lc1]] X.w fun e w''=>e = .returned (.string G1)∧∃Y:Grown A,w''=Y.w):=hid (fun X=>(CA.out X.w (upA X)).mono (fun e w'' ⟨he,hb⟩=>⟨he,⟨w'',Below.on X.b hb (Nat.le_refl _)⟩,rfl⟩))
    have H2:Hid (∀X:Grown A,Calls Tryz.prog 65 #[.agg #[.bool N2, .slice la2 n2 lc2]] X.w fun e w''=>e = .returned (.string G2)∧∃Y:Grown A,w''=Y.w):=hid (fun X=>(CB.out X.w (upA X)).mono (fun e w'' ⟨he,hb⟩=>⟨he,⟨w'',Below.on X.b hb (Nat.le_refl _)⟩,rfl⟩))
    have H3:Hid (∀X:Grown A,Calls Tryz.prog 65 #[.agg #[.bool N3, .slice la3 n3 lc3]] X.w fun e w''=>e = .returned (.string G3)∧∃Y:Grown A,w''=Y.w):=hid (fun X=>(CC.out X.w (upA X)).mono (fun e w'' ⟨he,hb⟩=>⟨he,⟨w'',Below.on X.b hb (Nat.le_refl _)⟩,rfl⟩))
    have NE:Nonempty (Grown A):=⟨⟨A,Below.refl _ _⟩⟩
    have bA:Below A.heap.size A A.drew:=(Below.refl _ A).drew
    have UP:=hid upA
    clear bl upA CQ CA CB CC
    go_upto_region 8 with fail
    clear p0 p1 p2 p3 p4 p5 p6 p7
    go_cut [3] from 6 to 53 (fun s wx=>s = .string (o1++⟨#[123,34,101,102,102,101,99,116,34,58]⟩++QE++⟨#[44,34,119,104,111,34,58]⟩++G1++⟨#[44,34,100,111,34,58]⟩++G2++⟨#[44,34,111,110,34,58]⟩++G3)∧Below A.heap.size A wx)
    case first=>
     refine wp_region_quiet (C:=fun W'=>∃X:Grown A,W'=X.w) (by kernel_rfl) (by kernel_rfl) ⟨⟨_,bA⟩,rfl⟩ ?_
     simp only
     iterate 5 (go_big_quiet_step (exact HQ.out _))
     iterate 5 (go_big_quiet_step (exact H1.out _))
     iterate 5 (go_big_quiet_step (exact H2.out _))
     iterate 7 (go_big_quiet_step (exact H3.out _))
     refine wpQuiet_nil ?_
     intro w' hw'
     obtain ⟨X,rfl⟩:=hw'
     go_wp2_with fail
     go_meet
     case rel=>exact ⟨rfl,X.b⟩
    case rest=>
     obtain ⟨rfl,hbc⟩:=hcut
     have r7:wc.cell? ⟨wr.heap.size,7,none⟩=some (.slice la4 n4 lc4):=f7 ⟨wc,hbc⟩
     have HBC:Hid (Below w.heap.size w wc):=UP.out ⟨wc,hbc⟩
     have HCD:=hid (CD.out wc HBC.out)
     obtain ⟨Hd,hHd⟩:∃x,(o1++⟨#[123,34,101,102,102,101,99,116,34,58]⟩++QE++⟨#[44,34,119,104,111,34,58]⟩++G1++⟨#[44,34,100,111,34,58]⟩++G2++⟨#[44,34,111,110,34,58]⟩++G3:ByteArray)=x:=⟨_,rfl⟩
     have hzH:Hd.size≤140000000:=by
      have z1:(⟨#[123,34,101,102,102,101,99,116,34,58]⟩:ByteArray).size=10:=rfl
      have z2:(⟨#[44,34,119,104,111,34,58]⟩:ByteArray).size=7:=rfl
      have z3:(⟨#[44,34,100,111,34,58]⟩:ByteArray).size=6:=rfl
      have z4:(⟨#[44,34,111,110,34,58]⟩:ByteArray).size=6:=rfl
      rw [← hHd]
      simp only [ByteArray.size_append]
      omega
     have hnx:=HNX1.out
     rw [hHd] at hnx
     have HF:=hid hnx
     rw [hHd]
     clear hbc f0 f1 f2 f3 f4 f5 f6 f7 HQ H1 H2 H3 bA UP CD hoz hozo hHd hnx HNX1 y0 y1 y2 y3 hA bwA hltA
     by_cases hn0:0<n4
     ·have dn:decide (0<(n4:Int))=true:=by simp;omega
      have dn2:decide (0<n4)=true:=decide_eq_true hn0
      have hF:=HF.out
      rw [if_pos hn0] at hF
      have HF2:=hid hF
      clear hF HF
      go_wp2_with (go_at_call 66;refine HCD.out.mono ?_;rintro e w5 ⟨rfl,hb5⟩;have HB5:=hid (Below.on HBC.out hb5 (Nat.le_refl _));clear hb5)
      go_roundw
      case rel=>exact ⟨k+1,by omega,by go_num,by rw [HF2.out],HB5.out⟩
      case measure=>simp [intOf];omega
     ·have dn:decide (0<(n4:Int))=false:=by simp;omega
      have dn2:decide (0<n4)=false:=decide_eq_false hn0
      have hF:=HF.out
      rw [if_neg hn0] at hF
      have HF2:=hid hF
      clear hF HF
      go_wp2_with fail
      go_roundw
      case rel=>exact ⟨k+1,by omega,by go_num,by rw [HF2.out],HBC.out⟩
      case measure=>simp [intOf];omega
  ·have hkn:k=n:=by omega
   subst hkn
   have hro:=HRO.out
   have hz:(O k).size≤120000000:=by omega
   subst hro
   obtain ⟨o,ho⟩:∃o,O k=o:=⟨_,rfl⟩
   rw [ho] at hz ⊢
   have HOk:=hid ho
   clear ho
   go_wp2
   go_ret
   exact ⟨by rw [HOk.out];rfl,HBEL.out⟩
theorem zcd {ns:List Ref.Node} {k:Nat} {v:Rd.V} (h:Rd.Rep ns k v) (hd:(Rd.zan v).1=0):JB ns k=(uG (stX v)).map Rd.jC:=by
 obtain ⟨r,hr⟩:=Rd.Jz h
 unfold JB
 rw [hr]
 simp only
 match v,h with
 | .str s,_=>simp [Rd.zan] at hd
 | .word b,_=>simp [Rd.zan] at hd
 | .list l,_=>simp [Rd.zan] at hd
 | .obj ms,h=>
  simp only [Rd.zan] at hd
  have hg:=Rd.vZ h hr Rd.zN
  rcases hg with ⟨hg,_⟩|⟨x,kk,hg,hk,hx⟩
  ·rw [hg] at hd;simp at hd
  ·rw [hk]
   simp only [Int.toNat_natCast]
   rw [hg] at hd
   match x,hx with
   | .str s,_=>simp at hd
   | .word b,_=>simp at hd
   | .obj l,_=>simp at hd
   | .list vs,hx=>
    have hv:uG (stX (.obj ms))=vs:=by simp [uG,stX,hg]
    rw [hv]
    cases hx with
    | list _ n _ g1 g2 g3 g4 g5 g6=>
     rw [g1]
     exact Rd.Yr ns vs n.kids g4 g6
theorem zct (text:ByteArray) (h:(Rd.qU text).1=0):Jb text=yV text:=by
 unfold Jb yV
 obtain ⟨R,hR⟩:∃R,xP text=R:=⟨_,rfl⟩
 rw [hR]
 unfold xP at hR
 unfold Rd.qU at h
 by_cases h1:4000<text.size
 ·rw [if_pos h1] at h;simp at h
 rw [if_neg h1] at h hR
 rw [if_neg h1]
 have ha:=Rd.VC text.data.toList
 obtain ⟨Q,hQ⟩:∃Q,Ref.run Ref.init text.data.toList 0=Q:=⟨_,rfl⟩
 rw [hQ] at hR
 cases hm:Rd.vK text.data.toList with
 | ok v p=>
  rw [hm] at ha h
  simp only at ha h ⊢
  obtain ⟨m,hv,hs,ho,hr,hrep⟩:=ha
  unfold Rd.verdict at hv
  rw [List.drop_zero,hQ] at hv
  by_cases c1:Q.1≠0
  ·rw [if_pos c1] at hv;rw [hv] at c1;exact absurd rfl c1
  rw [if_neg c1] at hv hR
  by_cases c2:Q.2.2.state≠6∨Q.2.2.opn≠[]
  ·rw [if_pos c2] at hv;simp at hv
  rw [if_neg c2] at hv hR
  subst hR
  simp only [hv,hr]
  exact zcd hrep h
 | err e q=>
  rw [hm] at h
  have hc:=Rd.Xq hm
  unfold Rd.Code at hc
  simp only at h
  omega
end Go.Proofs.YtdakgnaojakldaaGreatDoor
