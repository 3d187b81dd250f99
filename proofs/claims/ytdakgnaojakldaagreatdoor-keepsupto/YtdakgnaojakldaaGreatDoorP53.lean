/- P -/
import Derived.Test.YtdakgnaojakldaaGreatDoorP52
set_option maxRecDepth 100000
set_option maxHeartbeats 8000000
namespace Go.Proofs.YtdakgnaojakldaaGreatDoor
open Go.RowKit
structure OpD where
 kind:Int
 a:Int
 layer:Int
 name:ByteArray
 text:ByteArray
 who:ByteArray
 act:ByteArray
 on:ByteArray
 ma:Option Addr
 mn:Nat
 mc:Nat
def zna (o:OpD):Value:=J9 o.kind o.a o.layer o.name o.text o.who o.act o.on o.ma o.mn o.mc
def JS (W:World) (gb q:Nat) (o:OpD):Prop:=
 W.cell? ⟨gb,q,none⟩=some (.int .i64 o.kind)∧W.cell? ⟨gb,q+1,none⟩=some (.int .i64 o.a)∧W.cell? ⟨gb,q+2,none⟩=some (.int .i64 o.layer)∧W.cell? ⟨gb,q+3,none⟩=some (.string o.name)∧W.cell? ⟨gb,q+4,none⟩=some (.string o.text) ∧
 W.cell? ⟨gb,q+5,none⟩=some (.string o.who)∧W.cell? ⟨gb,q+6,none⟩=some (.string o.act)∧W.cell? ⟨gb,q+7,none⟩=some (.string o.on)∧W.cell? ⟨gb,q+8,none⟩=some (.slice o.ma o.mn o.mc)
def zfT (W:World) (v:Value) (ops:List OpD):Prop:=
 ∃a c,v = .slice a ops.length c∧∀(k:Nat) (o:OpD),ops[k]?=some o→∃gb q,a=some ⟨gb,q,none⟩∧JS W gb (q+k*9) o
theorem JS.below {W W':World} {gb q:Nat} {o:OpD} (h:JS W gb q o) (hb:Below W.heap.size W W'):JS W' gb q o:=
 ⟨cell_later hb h.1,cell_later hb h.2.1,cell_later hb h.2.2.1,cell_later hb h.2.2.2.1,cell_later hb h.2.2.2.2.1,cell_later hb h.2.2.2.2.2.1,cell_later hb h.2.2.2.2.2.2.1,cell_later hb h.2.2.2.2.2.2.2.1,cell_later hb h.2.2.2.2.2.2.2.2⟩
def inK (l:List Int) (k:Int):Bool:=l.any (fun x=>k==x)
theorem zkC {l:List Int} {j:Nat} {x k:Int} (h:l[j]?=some x):inK (l.take (j+1)) k=(inK (l.take j) k||(k==x)):=by
 unfold inK
 rw [List.take_add_one,h]
 simp
def zaJ:ByteArray:=⟨#[102,105,114,115,116]⟩
def zkZ:ByteArray:=⟨#[123,34,115,116,97,116,101,109,101,110,116,34,58,91,123,34,101,102,102,101,99,116,34,58,34,97,108,108,111,119,34,44,34,119,104,111,34,58,34,42,34,44,34,100,111,34,58,34,42,34,44,34,111,110,34,58,34,42,34,125,93,125]⟩
def Vz:Array Value:=#[.int .i64 1, .int .i64 0, .int .i64 0, .string ⟨#[]⟩, .string ⟨#[]⟩, .string ⟨#[]⟩, .string ⟨#[]⟩, .string ⟨#[]⟩, .slice none 0 0, .int .i64 2, .int .i64 0, .int .i64 2, .string zaJ, .string zkZ, .string ⟨#[]⟩, .string ⟨#[]⟩, .string ⟨#[]⟩, .slice none 0 0, .int .i64 3, .int .i64 0, .int .i64 2, .string zaJ, .string ⟨#[]⟩, .string ⟨#[]⟩, .string ⟨#[]⟩, .string ⟨#[]⟩, .slice none 0 0]
theorem JL:zaJ.size≤maxLen:=by decide
theorem zff:zkZ.size≤maxLen:=by decide
theorem xw.start (w:World) (O:Obj):xw w (fun b=>if b=w.heap.size then 1 else 0) ((w.alloc (.cells #[.slice none 0 0, .slice none 0 0] 89)).alloc O) w.heap.size (.slice none 0 0) (.slice none 0 0) [] 0:=by
 refine ⟨((Below.refl _ w).alloc (Nat.le_refl _) _).alloc (by simp) _,fun b hb=>?_,?_,by simp,World.ownsRow_nil _ _ _ _,(fun g hg=>by cases hg),⟨[],World.ownsRow_nil _ _ _ _,(fun i v hv=>by simp at hv)⟩,(fun g hg=>by cases hg),(fun i p hp=>by simp at hp),fun i p hp=>by simp at hp⟩
 ·by_cases e:b=w.heap.size
  ·subst e
   exact ⟨Nat.le_refl _,by simp;omega⟩
  ·simp [e] at hb
 ·exact (((Below.refl _ _).alloc (Nat.le_refl _) O).block w.heap.size (by simp)).trans (heap_alloc_new w _)
def zd9 (w:World) (i:Nat) (wr:World):Prop:=∃L psv bkv ps m,xw w L wr w.heap.size psv bkv ps m∧xK ps∧0<ps.length∧ps.length≤3+i∧m≤3+i
def XF (w:World) (j:Nat) (wr:World):Prop:=∃L psv bkv ps m,xw w L wr w.heap.size psv bkv ps m∧xK ps∧(0<j→0<ps.length)∧ps.length≤j∧m≤j∧L (w.heap.size+1)=0∧wr.heap[w.heap.size+1]?=some (.cells Vz 91)
theorem XF.next {w:World} {j:Nat} {wr w2:World} {L:Nat→Nat} {n m:Nat} {e:Ending} (hw:L (w.heap.size+1)=0) (hc:wr.heap[w.heap.size+1]?=some (.cells Vz 91)) (hn:n≤j) (hm:m≤j) (h:Zb w L wr w.heap.size n m e w2):e = .returned (.bool true)∧XF w (j+1) w2:=by
 obtain ⟨L',psv,bkv,ps,m',he,hs,hp,ha,h1,h2,h3,h4⟩:=h
 exact ⟨he,L',psv,bkv,ps,m',hp,ha,fun _=>h4,by omega,by omega,(hs.old _ (lt_of_block hc)).trans hw,(hs.keep _ (lt_of_block hc) hw).trans hc⟩
theorem XF.start (w:World):XF w 0 ((w.alloc (.cells #[.slice none 0 0, .slice none 0 0] 89)).alloc (.cells Vz 91)):=by
 refine ⟨_,_,_,_,_,xw.start w _,fun i p hp=>by simp at hp,fun e=>by omega,Nat.le_refl _,Nat.le_refl _,by simp,?_⟩
 have:=heap_alloc_new (w.alloc (.cells #[.slice none 0 0, .slice none 0 0] 89)) (.cells Vz 91)
 rw [show (w.alloc (.cells #[.slice none 0 0, .slice none 0 0] 89)).heap.size=w.heap.size+1 by simp] at this
 exact this
abbrev zeN (w:World) (o:OpD):Prop:=∀(L:Nat→Nat) (W:World) (psv bkv:Value) (ps:List yZ) (m:Nat),xw w L W w.heap.size psv bkv ps m→xK ps→0<ps.length→ps.length≤100000000→m≤100000000 →
 Calls Tryz.prog 37 #[.pointer (some ⟨w.heap.size,0,none⟩),zna o] W (Zb w L W w.heap.size ps.length m)
theorem zk3 (w:World) (aL:Addr) (hC:ziV w aL) (sv:Value) (ops:List OpD) (hS:zfT w sv ops) (hlen:ops.length≤10000000) (kb kc:Nat) (kinds:List Int) (hK:∀(j:Nat) (x:Int),kinds[j]?=some x→w.cell? ⟨kb,j,none⟩=some (.int .i64 x)) (hkl:kinds.length≤100) (hstep:∀o ∈ ops,inK kinds o.kind=true→zeN w o) :
  Calls Tryz.prog 17 #[sv, .slice (some ⟨kb,0,none⟩) kinds.length kc] w fun e w'=>e = .returned (.bool true)∧Below w.heap.size w w':=by
 obtain ⟨sa,sc,rfl,hcells⟩:=hS
 obtain ⟨n,hn⟩:∃x,ops.length=x:=⟨_,rfl⟩
 obtain ⟨kn,hkn⟩:∃x,kinds.length=x:=⟨_,rfl⟩
 rw [hn] at hlen ⊢
 rw [hkn] at hkl ⊢
 have HN:=hid hn
 have HKN:=hid hkn
 have HCELL:=hid hcells
 have HK:=hid hK
 have HSTEP:=hid hstep
 clear hn hkn hcells hK hstep
 go_enter Tryz.func17,Tryz.ntmps17
 go_wp2_with fail
 go_loopw [7,8] (fun jv _ wr=>∃j:Nat,j≤3∧jv = .int .i64 j∧XF w j wr) (fun jv _ _=>3-(intOf jv).toNat)
 case atStart=>exact ⟨0,Nat.zero_le _,rfl,XF.start w⟩
 case round=>
  obtain ⟨j,hj,rfl,hin⟩:=hrel
  by_cases hlj:j<3
  ·obtain ⟨L,psv,bkv,ps,m,hp,ha,h0,hpl,hml,hL,hc⟩:=hin
   have hcc:=fun k=>(cells_of_block hc k).1
   have HP:=hid hp
   have HA:=hid ha
   have HL:=hid hL
   have HC:=hid hc
   clear hp ha hL hc
   rcases (show j=0∨j=1∨j=2 by omega) with rfl|rfl|rfl
   ·have q0:=hcc 0
    have q1:=hcc 1
    have q2:=hcc 2
    have q3:=hcc 3
    have q4:=hcc 4
    have q5:=hcc 5
    have q6:=hcc 6
    have q7:=hcc 7
    have q8:=hcc 8
    simp [Vz] at q0 q1 q2 q3 q4 q5 q6 q7 q8
    clear hcc
    go_wp2_with (go_at_call 37;refine (zeu w L wr w.heap.size psv bkv ps m HP.out HA.out (by omega) 0 0 ⟨#[]⟩ ⟨#[]⟩ ⟨#[]⟩ ⟨#[]⟩ ⟨#[]⟩ none 0 0).mono ?_;rintro e w2 he;obtain ⟨rfl,h2⟩:=XF.next HL.out HC.out hpl hml he;have H2:=hid h2;clear he h2)
    go_roundw
    case rel=>exact ⟨1,by omega,rfl,H2.out⟩
    case measure=>simp [intOf]
   ·have h0':=h0 (by omega)
    have q0:=hcc 9
    have q1:=hcc 10
    have q2:=hcc 11
    have q3:=hcc 12
    have q4:=hcc 13
    have q5:=hcc 14
    have q6:=hcc 15
    have q7:=hcc 16
    have q8:=hcc 17
    simp [Vz] at q0 q1 q2 q3 q4 q5 q6 q7 q8
    clear hcc
    go_wp2_with (go_at_call 37;refine (zeF w aL hC L wr w.heap.size psv bkv ps m HP.out HA.out h0' (by omega) 0 2 zaJ zkZ ⟨#[]⟩ ⟨#[]⟩ ⟨#[]⟩ none 0 0 (by unfold I64;decide) JL zff).mono ?_;rintro e w2 he;obtain ⟨rfl,h2⟩:=XF.next HL.out HC.out hpl hml he;have H2:=hid h2;clear he h2)
    go_roundw
    case rel=>exact ⟨2,by omega,rfl,H2.out⟩
    case measure=>simp [intOf]
   ·have h0':=h0 (by omega)
    have q0:=hcc 18
    have q1:=hcc 19
    have q2:=hcc 20
    have q3:=hcc 21
    have q4:=hcc 22
    have q5:=hcc 23
    have q6:=hcc 24
    have q7:=hcc 25
    have q8:=hcc 26
    simp [Vz] at q0 q1 q2 q3 q4 q5 q6 q7 q8
    clear hcc
    go_wp2_with (go_at_call 37;refine (za2 w L wr w.heap.size psv bkv ps m HP.out HA.out h0' (by omega) 0 2 zaJ ⟨#[]⟩ ⟨#[]⟩ ⟨#[]⟩ ⟨#[]⟩ none 0 0 (by unfold I64;decide) JL).mono ?_;rintro e w2 he;obtain ⟨rfl,h2⟩:=XF.next HL.out HC.out hpl hml he;have H2:=hid h2;clear he h2)
    go_roundw
    case rel=>exact ⟨3,by omega,rfl,H2.out⟩
    case measure=>simp [intOf]
  ·have hj3:j=3:=by omega
   subst hj3
   have hmain:zd9 w 0 wr:=by
    obtain ⟨L,psv,bkv,ps,m,hp,ha,h0,hpl,hml,_,_⟩:=hin
    exact ⟨L,psv,bkv,ps,m,hp,ha,h0 (by omega),hpl,hml⟩
   have HM0:=hid hmain
   clear hmain hin
   obtain ⟨wh,rfl⟩:∃x,x=wr:=⟨_,rfl⟩
   go_wp2_with fail
   go_loopw [9,10,11,12] (fun iv _ _ _ wr=>∃i:Nat,i≤n∧iv = .int .i64 i∧zd9 w i wr) (fun iv _ _ _ _=>n-(intOf iv).toNat)
   case atStart=>exact ⟨0,Nat.zero_le _,rfl,HM0.out⟩
   case round=>
    obtain ⟨i,hi,rfl,hin⟩:=hrel
    clear HM0
    by_cases hlt:i<n
    ·obtain ⟨L,psv,bkv,ps,m,hp,ha,h0,hpl,hml⟩:=hin
     have hio:i<ops.length:=by rw [HN.out];exact hlt
     obtain ⟨o,ho⟩:∃o,ops[i]?=some o:=⟨_,List.getElem?_eq_getElem hio⟩
     obtain ⟨gb,q,rfl,hoc⟩:=HCELL.out i o ho
     have HOC:=hid hoc
     have hkc:=hoc.1
     have HP:=hid hp
     have HA:=hid ha
     have HO:=hid ho
     have i0:(0:Int)≤(i:Int):=Int.natCast_nonneg _
     have i1:(i:Int)<(n:Int):=by omega
     obtain ⟨wi,rfl⟩:∃x,x=wr:=⟨_,rfl⟩
     clear hp ha hoc ho hio
     go_wp2_with fail
     go_loopw [10,11] (fun inv jv wr=>∃j:Nat,j≤kn∧jv = .int .i64 j∧inv = .bool (inK (kinds.take j) o.kind)∧Below wi.heap.size wi wr) (fun _ jv _=>kn-(intOf jv).toNat)
     case atStart=>exact ⟨0,Nat.zero_le _,rfl,rfl,Below.refl _ _⟩
     case round=>
      obtain ⟨j,hj,rfl,rfl,hb⟩:=hrel
      by_cases hlj:j<kn
      ·have hjk:j<kinds.length:=by rw [HKN.out];exact hlj
       obtain ⟨x,hx⟩:∃x,kinds[j]?=some x:=⟨_,List.getElem?_eq_getElem hjk⟩
       have kk:=cell_later hb (cell_later HP.out.low (HK.out j x hx))
       have kq:=cell_later hb (cell_later HP.out.low hkc)
       have hnx:=zkC (k:=o.kind) hx
       have j0:(0:Int)≤(j:Int):=Int.natCast_nonneg _
       have j1:(j:Int)<(kn:Int):=by omega
       have HB:=hid hb
       clear hb hx hjk hkc
       cases hB:inK (kinds.take j) o.kind with
       | true=>
        rw [hB] at hnx
        have HNX:=hid hnx
        clear hnx hB
        go_wp2_with fail
        go_quiet (fail)
        go_wp2
        go_roundw
        case rel=>exact ⟨j+1,by omega,by go_num,by rw [HNX.out];rfl,below_drewN HB.out nq⟩
        case measure=>simp [intOf];omega
       | false=>
        rw [hB] at hnx
        cases hd:(o.kind==x) with
        | true=>
         rw [hd] at hnx
         have HNX:=hid hnx
         clear hnx hB
         go_wp2_with fail
         go_quiet (fail)
         go_wp2
         go_roundw
         case rel=>exact ⟨j+1,by omega,by go_num,by rw [HNX.out];rfl,below_drewN HB.out nq⟩
         case measure=>simp [intOf];omega
        | false=>
         rw [hd] at hnx
         have HNX:=hid hnx
         clear hnx hB
         go_wp2_with fail
         go_quiet (fail)
         go_wp2
         go_roundw
         case rel=>exact ⟨j+1,by omega,by go_num,by rw [HNX.out];rfl,below_drewN HB.out nq⟩
         case measure=>simp [intOf];omega
      ·have hfull:kinds.take j=kinds:=List.take_of_length_le (by rw [HKN.out];omega)
       rw [hfull]
       have hp2:=HP.out.below hb
       have hoc2:=(HOC.out.below HP.out.low).below hb
       clear hfull
       cases hB:inK kinds o.kind with
       | false=>
        have H2:Hid (zd9 w (i+1) wr):=hid ⟨L,psv,bkv,ps,m,hp2,HA.out,h0,by omega,by omega⟩
        clear hB hp2 hoc2 hkc hb
        go_wp2_with fail
        go_roundw
        case rel=>exact ⟨i+1,by omega,by go_num,H2.out⟩
        case measure=>simp [intOf];omega
       | true=>
        obtain ⟨c0,c1,c2,c3,c4,c5,c6,c7,c8⟩:=hoc2
        have hst:=HSTEP.out o (List.mem_of_getElem? HO.out) hB L wr psv bkv ps m hp2 HA.out h0 (by omega) (by omega)
        have HST:=hid hst
        clear hB hp2 hst hkc hb
        go_wp2_with (first
         | (go_at_call 37;refine HST.out.mono ?_;rintro e w2 he;obtain ⟨L2,psv2,bkv2,ps2,m2,rfl,s2,p2,a2,n1,n2,n3,n4⟩:=he;have y1:=(cells_of_block p2.play 1).1;simp at y1;have P2:=hid p2;have A2:=hid a2;clear s2 p2 a2)
         | (go_at_call 38;refine (zk2 (Lm L2) w2 w.heap.size m2 bkv2 y1 P2.out.book (by omega)).mono ?_;rintro e w3 ⟨rfl,e3⟩;rw [e3];clear e3))
        have H3:zd9 w (i+1) w2:=⟨L2,psv2,bkv2,ps2,m2,P2.out,A2.out,n4,by omega,by omega⟩
        refine ⟨?_,?measure⟩
        ·(repeat apply Exists.intro)
         refine ⟨?rel,rfl⟩
         exact ⟨i+1,by omega,by go_num,H3⟩
        ·simp [intOf];omega
    ·obtain ⟨L,psv,bkv,ps,m,hp,_⟩:=hin
     have HLOW:=hid hp.low
     clear hp
     go_wp2_with fail
     go_ret
     exact ⟨rfl,HLOW.out⟩
def zaE (o:OpD):Prop:=I64 o.kind∧I64 o.a∧I64 o.layer∧o.name.size≤maxLen∧o.text.size≤maxLen
theorem zhP {k:Int} (h:inK [1,2,3,4,5] k=true):k=1∨k=2∨k=3∨k=4∨k=5:=by
 unfold inK at h
 simpa using h
theorem zkA {w:World} {aL:Addr} (hC:ziV w aL) {o:OpD} (hf:zaE o) (hk:inK [1,2,3,4,5] o.kind=true):zeN w o:=by
 obtain ⟨kind,a,layer,name,text,who,act,on,ma,mn,mc⟩:=o
 obtain ⟨_,ha,_,hn,ht⟩:=hf
 intro L W psv bkv ps m hp hag h0 h1 h2
 rcases zhP hk with rfl|rfl|rfl|rfl|rfl
 ·exact zeu w L W w.heap.size psv bkv ps m hp hag h1 a layer name text who act on ma mn mc
 ·exact zeF w aL hC L W w.heap.size psv bkv ps m hp hag h0 h1 a layer name text who act on ma mn mc ha hn ht
 ·exact za2 w L W w.heap.size psv bkv ps m hp hag h0 h1 a layer name text who act on ma mn mc ha hn
 ·exact zix w L W w.heap.size psv bkv ps m hp hag h0 h1 a layer name text who act on ma mn mc ha hn
 ·exact zf1 w L W w.heap.size psv bkv ps m hp hag h0 h1 h2 a layer name text who act on ma mn mc ha
theorem zfT.below {W W':World} {v:Value} {ops:List OpD} (h:zfT W v ops) (hb:Below W.heap.size W W'):zfT W' v ops:=by
 obtain ⟨a,c,rfl,h⟩:=h
 refine ⟨a,c,rfl,fun k o ho=>?_⟩
 obtain ⟨gb,q,e,hc⟩:=h k o ho
 exact ⟨gb,q,e,hc.below hb⟩
theorem zb0 (w:World) (aL:Addr) (hC:ziV w aL) (sv:Value) (ops:List OpD) (hS:zfT w sv ops) (hf:∀o ∈ ops,zaE o) (hlen:ops.length≤10000000) :
  Calls Tryz.prog 5 #[sv] w fun e w'=>e = .returned (.bool true)∧Below w.heap.size w w':=by
 obtain ⟨W1,hW1⟩:∃W,w.alloc (.cells #[.int .i64 1, .int .i64 2, .int .i64 3, .int .i64 4, .int .i64 5] 3)=W:=⟨_,rfl⟩
 have b1:Below w.heap.size w W1:=by rw [← hW1];exact (Below.refl _ w).alloc (Nat.le_refl _) _
 have hbx:W1.heap[w.heap.size]?=some (.cells #[.int .i64 1, .int .i64 2, .int .i64 3, .int .i64 4, .int .i64 5] 3):=by rw [← hW1];exact heap_alloc_new w _
 have cp:=zk3 W1 aL (hC.below b1) sv ops (hS.below b1) hlen w.heap.size 5 [1,2,3,4,5] (fun j x hx=>by
  rw [(cells_of_block hbx j).1]
  match j,hx with
  | 0,hx=>simp at hx;subst hx;rfl
  | 1,hx=>simp at hx;subst hx;rfl
  | 2,hx=>simp at hx;subst hx;rfl
  | 3,hx=>simp at hx;subst hx;rfl
  | 4,hx=>simp at hx;subst hx;rfl
  | j+5,hx=>simp at hx) (by simp) (fun o ho hk=>zkA (hC.below b1) (hf o ho) hk)
 have CP:=hid cp
 have HW1:=hid hW1
 have HB1:=hid b1
 clear cp hW1 b1 hbx hf
 go_enter Tryz.func5,Tryz.ntmps5
 go_wp2_with (go_at_call 17;rw [HW1.out];refine CP.out.mono ?_;rintro e w2 ⟨rfl,b2⟩;have B2:=hid b2;clear b2)
 go_ret
 exact ⟨rfl,HB1.out.trans (B2.out.mono HB1.out.size)⟩
end Go.Proofs.YtdakgnaojakldaaGreatDoor
