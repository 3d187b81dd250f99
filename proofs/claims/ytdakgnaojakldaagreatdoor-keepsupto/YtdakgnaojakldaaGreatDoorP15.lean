/- P -/
import Derived.Test.YtdakgnaojakldaaGreatDoorP14
import Derived.Deep.DeepCutAuto
set_option maxRecDepth 100000
set_option maxHeartbeats 1000000
namespace Go.Proofs.YtdakgnaojakldaaGreatDoor
open Go.RowKit
def opN:Nat→ByteArray
 | 0=>⟨#[108,105,107,101]⟩
 | 1=>⟨#[115,97,109,101]⟩
 | 2=>⟨#[98,101,108,111,119]⟩
 | 3=>⟨#[117,110,100,101,114]⟩
 | _=>⟨#[97,98,115,101,110,116]⟩
def opL:Nat→Nat
 | 0=>320
 | 1=>322
 | 2=>324
 | 3=>326
 | _=>328
def opT:Nat→Nat
 | 0=>321
 | 1=>323
 | 2=>325
 | 3=>327
 | _=>329
def Ya:List Value:=[.string (opN 0), .func (.func (opL 0)) #[] #[], .func (.func (opT 0)) #[] #[], .string (opN 1), .func (.func (opL 1)) #[] #[], .func (.func (opT 1)) #[] #[], .string (opN 2), .func (.func (opL 2)) #[] #[], .func (.func (opT 2)) #[] #[],
 .string (opN 3), .func (.func (opL 3)) #[] #[], .func (.func (opT 3)) #[] #[], .string (opN 4), .func (.func (opL 4)) #[] #[], .func (.func (opT 4)) #[] #[]]
def VI (w:World):Prop:=∃t fr,w.heap[(6:Nat)]?=some (.cells Ya.toArray t fr)
theorem VI.below {w w':World} (h:VI w) (hb:Below w.heap.size w w'):VI w':=by
 obtain ⟨t,fr,h⟩:=h
 exact ⟨t,fr,(hb.block _ (Array.getElem?_eq_some_iff.1 h).1).trans h⟩
theorem zki:(Tryz.prog.info? 402).map (·.size)=some Ya.toArray.size:=by kernel_rfl
theorem lt5 {k:Nat} (h:k<5):k=0∨k=1∨k=2∨k=3∨k=4:=by omega
theorem zmk (W:World) (k:Nat) (hk:k<5):(Instr.index 402 (.agg Ya.toArray) (.int .i64 (k:Int))).run Tryz.prog W = .ok (.agg #[.string (opN k), .func (.func (opL k)) #[] #[], .func (.func (opT k)) #[] #[]]) W:=by
 rcases lt5 hk with rfl|rfl|rfl|rfl|rfl
 ·kernel_rfl
 ·kernel_rfl
 ·kernel_rfl
 ·kernel_rfl
 ·kernel_rfl
theorem jG {w:World} {b:Nat} {o0 o1 o2:Value} (x0 x1 x2:Value) (h0:w.cell? ⟨b,0,none⟩=some o0) (h1:w.cell? ⟨b,1,none⟩=some o1) (h2:w.cell? ⟨b,2,none⟩=some o2) :
  (((w.setCell ⟨b,0,none⟩ x0).setCell ⟨b,1,none⟩ x1).setCell ⟨b,2,none⟩ x2).cell? ⟨b,0,none⟩=some x0∧(((w.setCell ⟨b,0,none⟩ x0).setCell ⟨b,1,none⟩ x1).setCell ⟨b,2,none⟩ x2).cell? ⟨b,1,none⟩=some x1∧(((w.setCell ⟨b,0,none⟩ x0).setCell ⟨b,1,none⟩ x1).setCell ⟨b,2,none⟩ x2).cell? ⟨b,2,none⟩=some x2:=by
 refine ⟨?_,?_,?_⟩
 ·rw [World.cell?_setCell_other _ _ _ _ (by simp),World.cell?_setCell_other _ _ _ _ (by simp),World.cell?_setCell_same _ _ _ h0]
 ·rw [World.cell?_setCell_other _ _ _ _ (by simp)]
  exact World.cell?_setCell_same _ _ _ ((World.cell?_setCell_other _ _ _ _ (by simp)).trans h1)
 ·exact World.cell?_setCell_same _ _ _ ((World.cell?_setCell_other _ _ _ _ (by simp)).trans ((World.cell?_setCell_other _ _ _ _ (by simp)).trans h2))
def ZK (name:ByteArray):Option Nat:=zB (fun k=>(opN k).toList==name.toList) 5
def opV:Option Nat→Value
 | some k => .agg #[.string (opN k), .func (.func (opL k)) #[] #[], .func (.func (opT k)) #[] #[]]
 | none => .agg #[.string ⟨#[]⟩, .nilFunc, .nilFunc]
theorem zbp (name:ByteArray) (w:World) (hO:VI w) :
  Calls Tryz.prog 232 #[.string name] w fun e w'=>e = .returned (.tuple #[opV (ZK name), .bool (ZK name).isSome])∧Below w.heap.size w w':=by
 have hb0:=(Below.refl _ w).alloc (Nat.le_refl _) (.cells #[.string ⟨#[]⟩, .nilFunc, .nilFunc] 342)
 obtain ⟨tt,fr,hh⟩:=hO.below hb0
 have hrow:=fun W k hk=>zmk W k hk
 have sf:=fun W a g m=>run_store Tryz.prog W a (.func (.func g) #[] #[]) m rfl
 have sn:=fun W a m=>run_store Tryz.prog W a .nilFunc m rfl
 have hsz:=zki
 obtain ⟨A,hA⟩:∃A,Ya.toArray=A:=⟨_,rfl⟩
 rw [hA] at hh hsz
 simp only [hA] at hrow
 obtain ⟨F,hF⟩:∃F,ZK name=F:=⟨_,rfl⟩
 rw [hF]
 unfold ZK at hF
 have HF:=hid hF
 clear hA hO hF
 go_enter Tryz.func232,Tryz.ntmps232
 go_wp2_with (refine wpList_load_row rfl 402 _ rfl 6 rfl tt A fr _ hh Tryz.underlying402 rfl hsz ?_)
 clear hh hsz
 go_loopw [7] (fun iv wr=>∃k:Nat,k≤5∧iv = .int .i64 k∧(∀j,j<k→((opN j).toList==name.toList)=false)∧Below (w.alloc (.cells #[.string ⟨#[]⟩, .nilFunc, .nilFunc] 342)).heap.size (w.alloc (.cells #[.string ⟨#[]⟩, .nilFunc, .nilFunc] 342)) wr) (fun iv _=>5-(intOf iv).toNat)
 case atStart=>exact ⟨0,by omega,rfl,fun j hj=>by omega,Below.refl _ _⟩
 case round=>
  obtain ⟨k,hk,rfl,hno,hbr⟩:=hrel
  have HNO:=hid hno
  have bk:=zQ hbr
  have r0:=(cells_of_block bk 0).1
  have r1:=(cells_of_block bk 1).1
  have r2:=(cells_of_block bk 2).1
  have f0:=(cells_of_block bk 0).2
  have f1:=(cells_of_block bk 1).2
  have f2:=(cells_of_block bk 2).2
  have hz:w.heap.size<wr.heap.size:=by have h1:=hbr.size;simp at h1;omega
  simp at r0 r1 r2
  clear hno bk
  by_cases hlt:k<5
  ·have hr:=fun W=>hrow W k hlt
   obtain ⟨N,hN⟩:∃N,opN k=N:=⟨_,rfl⟩
   obtain ⟨fl,hfl⟩:∃N,opL k=N:=⟨_,rfl⟩
   obtain ⟨ft,hft⟩:∃N,opT k=N:=⟨_,rfl⟩
   simp only [hN,hfl,hft] at hr
   clear hrow
   have hne:w.heap.size≠wr.heap.size:=by omega
   cases heq:(N.toList==name.toList) with
   | false=>
    have HNX:Hid (∀j,j<k+1→((opN j).toList==name.toList)=false):=fun j hj=>by
     by_cases e:j=k
     ·subst e;rw [hN];exact heq
     ·exact HNO.out j (by omega)
    clear hN hfl hft
    go_wp2
    go_roundw
    case rel=>exact ⟨k+1,by omega,by go_num,HNX.out,hbr.alloc hbr.size _⟩
    case measure=>simp [intOf];omega
   | true=>
    have e:=uh (fun k=>(opN k).toList==name.toList) 5 k hlt HNO.out (by show ((opN k).toList==name.toList)=true;rw [hN];exact heq)
    rw [HF.out] at e
    have hV:opV F = .agg #[.string N, .func (.func fl) #[] #[], .func (.func ft) #[] #[]]:=by rw [e];simp only [opV,hN,hfl,hft]
    have hS:F.isSome=true:=by rw [e];rfl
    have HV:=hid hV
    have HS:=hid hS
    clear hN hfl hft e hV hS
    obtain ⟨s0,s1,s2⟩:=jG (.string N) (.func (.func fl) #[] #[]) (.func (.func ft) #[] #[]) r0 r1 r2
    have q0:=fun O=>zi s0 O
    have q1:=fun O=>zi s1 O
    have q2:=fun O=>zi s2 O
    clear s0 s1 s2
    go_wp2
    exact bodyPost_ret (v := .tuple #[.agg #[.string N, .func (.func fl) #[] #[], .func (.func ft) #[] #[]], .bool true]) (by simp [results,Tryz.results232,go_sem,q0,q1,q2]) rfl ⟨by rw [HV.out,HS.out],((((hb0.trans (hbr.mono (by simp))).setCell (Nat.le_refl _) _).setCell (Nat.le_refl _) _).setCell (Nat.le_refl _) _).alloc (by simp [World.setCell];omega) _⟩
  ·have e:=jW (fun k=>(opN k).toList==name.toList) 5 (fun j hj=>HNO.out j (by omega))
   rw [HF.out] at e
   subst e
   go_wp2
   exact bodyPost_ret (v := .tuple #[.agg #[.string ⟨#[]⟩, .nilFunc, .nilFunc], .bool false]) (by simp [results,Tryz.results232,go_sem,r0,r1,r2]) rfl ⟨rfl,(((hb0.trans (hbr.mono (by simp))).setCell (Nat.le_refl _) _).setCell (Nat.le_refl _) _).setCell (Nat.le_refl _) _⟩
def ziZ:Option Rd.V→Option Nat
 | some (.str s)=>ZK s
 | _=>none
def zg7 (w:World) (x:Option Rd.V) (e:Ending) (w':World):Prop:=∃u,e = .returned (.tuple #[opV (ziZ x),u])∧FV (if (ziZ x).isSome then 0 else 1) u∧Below w.heap.size w w'
theorem zhM:ZK ⟨#[]⟩=none:=by kernel_rfl
theorem zf5 {w:World} {x:Option Rd.V} {u:Value} (h:OAt w x u) (hx:∀s,x≠some (.str s)) (W:World):(Instr.typeAssert u 114 270 true).run Tryz.prog W = .ok (.tuple #[.string ⟨#[]⟩, .bool false]) W:=by
 cases x with
 | none=>
  have hu:u = .nilIface:=h
  subst hu
  exact Yz W
 | some v=>
  have hv:ValAt w (fun b=>b<w.heap.size) v u:=h
  cases hv with
  | str s=>exact absurd rfl (hx s)
  | word b=>exact Q3 _ W
  | list vs=>exact QQ _ W
  | obj ms=>exact Yo _ W
theorem zeE (x:Option Rd.V) (hx:∀s,x≠some (.str s)):ziZ x=none:=by
 match x with
 | none=>rfl
 | some (.str s)=>exact absurd rfl (hx s)
 | some (.word b)=>rfl
 | some (.list vs)=>rfl
 | some (.obj ms)=>rfl
theorem JZ (s:ByteArray) (isS:Bool) (u:Value) (w:World) (hO:VI w) (hu:u = .nilIface∨∃T y,u = .iface T y) (ta:∀W,(Instr.typeAssert u 114 270 true).run Tryz.prog W = .ok (.tuple #[.string s, .bool isS]) W) (hn:ZK s=none) :
  Calls Tryz.prog 200 #[u] w fun e w'=>∃p,e = .returned (.tuple #[.agg #[.string ⟨#[]⟩, .nilFunc, .nilFunc], .iface 125 (.agg #[.string p])])∧Below w.heap.size w w':=by
 have hb0:=(Below.refl _ w).alloc (Nat.le_refl _) (.cells #[.string ⟨#[]⟩, .nilFunc, .nilFunc] 342)
 have c:=zbp s _ (hO.below hb0)
 rw [hn] at c
 unfold opV at c
 simp only [Option.isSome_none] at c
 have sn:=fun W a m=>run_store Tryz.prog W a .nilFunc m rfl
 clear hO hn
 cases isS with
 | true=>
  rcases hu with rfl|⟨T,y,rfl⟩
  ·go_enter Tryz.func200,Tryz.ntmps200
   go_wp2_with (go_at_call 232;refine c.mono ?_;rintro e w1 ⟨rfl,hb1⟩;have bk:=zQ hb1;have r0:=(cells_of_block bk 0).1;have r1:=(cells_of_block bk 1).1;have r2:=(cells_of_block bk 2).1;have f0:=(cells_of_block bk 0).2;have f1:=(cells_of_block bk 1).2;have f2:=(cells_of_block bk 2).2;simp at r0 r1 r2;have hz:w.heap.size<w1.heap.size:=(by have h1:=hb1.size;simp at h1;omega);have hne:w.heap.size≠w1.heap.size:=(by omega);obtain ⟨s0,s1,s2⟩:=jG (.string ⟨#[]⟩) .nilFunc .nilFunc r0 r1 r2;have q0:=fun O=>zi s0 O;have q1:=fun O=>zi s1 O;have q2:=fun O=>zi s2 O)
   exact bodyPost_ret (v := .tuple #[.agg #[.string ⟨#[]⟩, .nilFunc, .nilFunc], .iface 125 (.agg #[.string ⟨#[111,112]⟩])]) (by simp [results,Tryz.results200,go_sem,q0,q1,q2]) rfl ⟨_,rfl,((((hb0.trans (hb1.mono (by simp))).setCell (Nat.le_refl _) _).setCell (Nat.le_refl _) _).setCell (Nat.le_refl _) _).alloc (by simp [World.setCell];omega) _⟩
  ·go_enter Tryz.func200,Tryz.ntmps200
   go_wp2_with (go_at_call 232;refine c.mono ?_;rintro e w1 ⟨rfl,hb1⟩;have bk:=zQ hb1;have r0:=(cells_of_block bk 0).1;have r1:=(cells_of_block bk 1).1;have r2:=(cells_of_block bk 2).1;have f0:=(cells_of_block bk 0).2;have f1:=(cells_of_block bk 1).2;have f2:=(cells_of_block bk 2).2;simp at r0 r1 r2;have hz:w.heap.size<w1.heap.size:=(by have h1:=hb1.size;simp at h1;omega);have hne:w.heap.size≠w1.heap.size:=(by omega);obtain ⟨s0,s1,s2⟩:=jG (.string ⟨#[]⟩) .nilFunc .nilFunc r0 r1 r2;have q0:=fun O=>zi s0 O;have q1:=fun O=>zi s1 O;have q2:=fun O=>zi s2 O)
   exact bodyPost_ret (v := .tuple #[.agg #[.string ⟨#[]⟩, .nilFunc, .nilFunc], .iface 125 (.agg #[.string ⟨#[111,112]⟩])]) (by simp [results,Tryz.results200,go_sem,q0,q1,q2]) rfl ⟨_,rfl,((((hb0.trans (hb1.mono (by simp))).setCell (Nat.le_refl _) _).setCell (Nat.le_refl _) _).setCell (Nat.le_refl _) _).alloc (by simp [World.setCell];omega) _⟩
 | false=>
  rcases hu with rfl|⟨T,y,rfl⟩
  ·go_enter Tryz.func200,Tryz.ntmps200
   go_wp2_with (go_at_call 232;refine c.mono ?_;rintro e w1 ⟨rfl,hb1⟩;have bk:=zQ hb1;have r0:=(cells_of_block bk 0).1;have r1:=(cells_of_block bk 1).1;have r2:=(cells_of_block bk 2).1;have f0:=(cells_of_block bk 0).2;have f1:=(cells_of_block bk 1).2;have f2:=(cells_of_block bk 2).2;simp at r0 r1 r2;have hz:w.heap.size<w1.heap.size:=(by have h1:=hb1.size;simp at h1;omega);have hne:w.heap.size≠w1.heap.size:=(by omega);obtain ⟨s0,s1,s2⟩:=jG (.string ⟨#[]⟩) .nilFunc .nilFunc r0 r1 r2;have q0:=fun O=>zi s0 O;have q1:=fun O=>zi s1 O;have q2:=fun O=>zi s2 O)
   exact bodyPost_ret (v := .tuple #[.agg #[.string ⟨#[]⟩, .nilFunc, .nilFunc], .iface 125 (.agg #[.string ⟨#[111,112]⟩])]) (by simp [results,Tryz.results200,go_sem,q0,q1,q2]) rfl ⟨_,rfl,((((hb0.trans (hb1.mono (by simp))).setCell (Nat.le_refl _) _).setCell (Nat.le_refl _) _).setCell (Nat.le_refl _) _).alloc (by simp [World.setCell];omega) _⟩
  ·go_enter Tryz.func200,Tryz.ntmps200
   go_wp2_with (go_at_call 232;refine c.mono ?_;rintro e w1 ⟨rfl,hb1⟩;have bk:=zQ hb1;have r0:=(cells_of_block bk 0).1;have r1:=(cells_of_block bk 1).1;have r2:=(cells_of_block bk 2).1;have f0:=(cells_of_block bk 0).2;have f1:=(cells_of_block bk 1).2;have f2:=(cells_of_block bk 2).2;simp at r0 r1 r2;have hz:w.heap.size<w1.heap.size:=(by have h1:=hb1.size;simp at h1;omega);have hne:w.heap.size≠w1.heap.size:=(by omega);obtain ⟨s0,s1,s2⟩:=jG (.string ⟨#[]⟩) .nilFunc .nilFunc r0 r1 r2;have q0:=fun O=>zi s0 O;have q1:=fun O=>zi s1 O;have q2:=fun O=>zi s2 O)
   exact bodyPost_ret (v := .tuple #[.agg #[.string ⟨#[]⟩, .nilFunc, .nilFunc], .iface 125 (.agg #[.string ⟨#[111,112]⟩])]) (by simp [results,Tryz.results200,go_sem,q0,q1,q2]) rfl ⟨_,rfl,((((hb0.trans (hb1.mono (by simp))).setCell (Nat.le_refl _) _).setCell (Nat.le_refl _) _).setCell (Nat.le_refl _) _).alloc (by simp [World.setCell];omega) _⟩
theorem zcX (s:ByteArray) (k:Nat) (w:World) (hO:VI w) (hn:ZK s=some k) :
  Calls Tryz.prog 200 #[.iface 270 (.string s)] w fun e w'=>e = .returned (.tuple #[opV (some k), .nilIface])∧Below w.heap.size w w':=by
 have hb0:=(Below.refl _ w).alloc (Nat.le_refl _) (.cells #[.string ⟨#[]⟩, .nilFunc, .nilFunc] 342)
 have c:=zbp s _ (hO.below hb0)
 rw [hn] at c
 unfold opV at c ⊢
 simp only [Option.isSome_some] at c ⊢
 generalize opN k=N at c ⊢
 generalize opL k=fl at c ⊢
 generalize opT k=ft at c ⊢
 have ta:=kY
 have sf:=fun W a g m=>run_store Tryz.prog W a (.func (.func g) #[] #[]) m rfl
 clear hO hn
 go_enter Tryz.func200,Tryz.ntmps200
 go_wp2_with (go_at_call 232;refine c.mono ?_;rintro e w1 ⟨rfl,hb1⟩;have bk:=zQ hb1;have r0:=(cells_of_block bk 0).1;have r1:=(cells_of_block bk 1).1;have r2:=(cells_of_block bk 2).1;have f0:=(cells_of_block bk 0).2;have f1:=(cells_of_block bk 1).2;have f2:=(cells_of_block bk 2).2;simp at r0 r1 r2;have hz:w.heap.size<w1.heap.size:=(by have h1:=hb1.size;simp at h1;omega);have hne:w.heap.size≠w1.heap.size:=(by omega);obtain ⟨s0,s1,s2⟩:=jG (.string N) (.func (.func fl) #[] #[]) (.func (.func ft) #[] #[]) r0 r1 r2;have q0:=fun O=>zi s0 O;have q1:=fun O=>zi s1 O;have q2:=fun O=>zi s2 O)
 exact bodyPost_ret (v := .tuple #[.agg #[.string N, .func (.func fl) #[] #[], .func (.func ft) #[] #[]], .nilIface]) (by simp [results,Tryz.results200,go_sem,q0,q1,q2]) rfl ⟨rfl,((((hb0.trans (hb1.mono (by simp))).setCell (Nat.le_refl _) _).setCell (Nat.le_refl _) _).setCell (Nat.le_refl _) _).alloc (by simp [World.setCell];omega) _⟩
theorem zjd (x:Option Rd.V) (u:Value) (w:World) (hO:VI w) (hx:OAt w x u):Calls Tryz.prog 200 #[u] w (zg7 w x):=by
 by_cases h:∃s,x=some (.str s)
 ·obtain ⟨s,rfl⟩:=h
  have hv:ValAt w (fun b=>b<w.heap.size) (.str s) u:=hx
  cases hv with
  | str _=>
   cases hn:ZK s with
   | none=>
    refine (JZ s true _ w hO (.inr ⟨_,_,rfl⟩) (fun W=>kY _ W) hn).mono ?_
    rintro e w' ⟨p,rfl,hb⟩
    refine ⟨.iface 125 (.agg #[.string p]),?_,?_,hb⟩
    ·show _=Ending.returned (.tuple #[opV (ZK s),_]);rw [hn];rfl
    ·show FV (if (ZK s).isSome then 0 else 1) _;rw [hn];exact .inr (.inl ⟨rfl,p,rfl⟩)
   | some k=>
    refine (zcX s k w hO hn).mono ?_
    rintro e w' ⟨rfl,hb⟩
    refine ⟨.nilIface,?_,?_,hb⟩
    ·show _=Ending.returned (.tuple #[opV (ZK s),_]);rw [hn]
    ·show FV (if (ZK s).isSome then 0 else 1) _;rw [hn];exact .inl ⟨rfl,rfl⟩
 ·have hno:∀s,x≠some (.str s):=fun s e=>h ⟨s,e⟩
  refine (JZ ⟨#[]⟩ false u w hO hx.form (fun W=>zf5 hx hno W) zhM).mono ?_
  rintro e w' ⟨p,rfl,hb⟩
  refine ⟨.iface 125 (.agg #[.string p]),?_,?_,hb⟩
  ·rw [zeE x hno];rfl
  ·rw [zeE x hno];exact .inr (.inl ⟨rfl,p,rfl⟩)
theorem zkx {w:World} (hE:zdY w) (k:Nat) (hk:k<5):Looks (opL k) (Rd.ZB (opN k)) (Rd.jY (opN k)) w:=by
 rcases lt5 hk with rfl|rfl|rfl|rfl|rfl
 ·have e1:Ref.xR (opN 0)=true:=by kernel_rfl
  have a1:Rd.ZB (opN 0)=Rd.ZE Rd.strOf:=by funext x;unfold Rd.ZB;rw [e1];rfl
  have a2:Rd.jY (opN 0)=Rd.Zu Rd.VH:=by funext x;unfold Rd.jY;rw [e1];rfl
  rw [a1,a2];exact zl5 hE
 ·have e1:Ref.xR (opN 1)=false:=by kernel_rfl
  have e2:Rd.kJ (opN 1)=true:=by kernel_rfl
  have a1:Rd.ZB (opN 1)=Rd.ZE (Rd.qO Rd.short):=by funext x;unfold Rd.ZB;rw [e1,e2];rfl
  have a2:Rd.jY (opN 1)=Rd.Zu (Rd.zT Rd.short):=by funext x;unfold Rd.jY;rw [e1,e2];rfl
  rw [a1,a2];exact zmm hE
 ·have e1:Ref.xR (opN 2)=false:=by kernel_rfl
  have e2:Rd.kJ (opN 2)=false:=by kernel_rfl
  have e3:Rd.jZ (opN 2)=true:=by kernel_rfl
  have a1:Rd.ZB (opN 2)=Rd.ZE (Rd.qO Ref.ZA):=by funext x;unfold Rd.ZB;rw [e1,e2,e3];rfl
  have a2:Rd.jY (opN 2)=Rd.Zu (Rd.zT Ref.ZA):=by funext x;unfold Rd.jY;rw [e1,e2,e3];rfl
  rw [a1,a2];exact zlD hE
 ·have e1:Ref.xR (opN 3)=false:=by kernel_rfl
  have e2:Rd.kJ (opN 3)=false:=by kernel_rfl
  have e3:Rd.jZ (opN 3)=false:=by kernel_rfl
  have e4:Rd.vT (opN 3)=true:=by kernel_rfl
  have a1:Rd.ZB (opN 3)=Rd.ZE (Rd.qO Rd.filled):=by funext x;unfold Rd.ZB;rw [e1,e2,e3,e4];rfl
  have a2:Rd.jY (opN 3)=Rd.Zu (Rd.zT Rd.filled):=by funext x;unfold Rd.jY;rw [e1,e2,e3,e4];rfl
  rw [a1,a2];exact zlq hE
 ·have e1:Ref.xR (opN 4)=false:=by kernel_rfl
  have e2:Rd.kJ (opN 4)=false:=by kernel_rfl
  have e3:Rd.jZ (opN 4)=false:=by kernel_rfl
  have e4:Rd.vT (opN 4)=false:=by kernel_rfl
  have a1:Rd.ZB (opN 4)=fun _=>[]:=by funext x;unfold Rd.ZB;rw [e1,e2,e3,e4];rfl
  have a2:Rd.jY (opN 4)=fun x=>if x.isNone then 0 else 1:=by funext x;unfold Rd.jY;rw [e1,e2,e3,e4];rfl
  rw [a1,a2];exact zkc
theorem X8 {s:ByteArray} {k:Nat} (h:ZK s=some k):k<5∧opN k=s∧(Ref.zec s||Ref.zV s)=true:=by
 obtain ⟨h1,h2,_⟩:=uq h
 have e:opN k=s:=by
  have:(opN k).toList=s.toList:=by simpa using h2
  rw [ByteArray.toList_eq,ByteArray.toList_eq] at this
  exact ByteArray.ext (Array.toList_inj.1 this)
 refine ⟨h1,e,?_⟩
 rw [← e]
 rcases lt5 h1 with rfl|rfl|rfl|rfl|rfl
 ·kernel_rfl
 ·kernel_rfl
 ·kernel_rfl
 ·kernel_rfl
 ·kernel_rfl
theorem zfX {s:ByteArray} (h:ZK s=none):(Ref.zec s||Ref.zV s)=false:=by
 have h0:=jT h
 have e0:=h0 0 (by decide)
 have e1:=h0 1 (by decide)
 have e2:=h0 2 (by decide)
 have e3:=h0 3 (by decide)
 have e4:=h0 4 (by decide)
 unfold Ref.zec Ref.zV
 simp only [opN] at e0 e1 e2 e3 e4
 rw [ByteArray.toList_eq] at e0 e1 e2 e3 e4
 rw [Bool.beq_comm] at e0 e1 e2 e3 e4
 rw [e1,e3,e2,e0,e4]
 rfl
structure jg where
 op:ByteArray
 key:ByteArray
 vals:List ByteArray
 no:Bool
def Vt:jg:=⟨⟨#[]⟩,⟨#[]⟩,[],false⟩
def QK:Rd.V→jg
 | .obj ms=>if Rd.qX ms [Ref.bOp,Ref.x9,Ref.zt,Ref.bNo] then (match ziZ (Rd.zK ms Ref.bOp) with
  | some k=>⟨opN k,Rd.qO Ref.zY (Rd.zK ms Ref.x9),Rd.ZB (opN k) (Rd.zK ms Ref.zt),Rd.zgB (Rd.zK ms Ref.bNo)⟩
  | none=>Vt) else Vt
 | _=>Vt
theorem zak (ms:List (ByteArray×Rd.V)):Rd.condC (.obj ms)=if Rd.qX ms [Ref.bOp,Ref.x9,Ref.zt,Ref.bNo] then (match ziZ (Rd.zK ms Ref.bOp) with
  | some k=>Rd.Zc [Rd.zT Ref.zY (Rd.zK ms Ref.x9),Rd.jY (opN k) (Rd.zK ms Ref.zt),Rd.cls (Rd.jV (Rd.zK ms Ref.bNo)) false]
  | none=>1) else 1:=by
 simp only [Rd.condC]
 cases Rd.qX ms [Ref.bOp,Ref.x9,Ref.zt,Ref.bNo] with
 | false=>rfl
 | true=>
  simp only [if_true]
  match Rd.zK ms Ref.bOp with
  | none=>rfl
  | some (.word b)=>rfl
  | some (.list vs)=>rfl
  | some (.obj ms)=>rfl
  | some (.str s)=>
   simp only [Rd.opV,ziZ]
   cases h:ZK s with
   | none=>rw [zfX h];rfl
   | some k=>
    obtain ⟨_,e,h2⟩:=X8 h
    simp only [h2,if_true,e]
def Xw (w:World) (v:Rd.V) (e:Ending) (w':World):Prop:=
 ∃lv u,e = .returned (.tuple #[.agg #[.string (QK v).op, .string (QK v).key,lv, .bool (QK v).no],u])∧FV (Rd.condC v) u∧Below w.heap.size w w'∧w'.ownsRow w.heap.size 9 1 lv (QK v).vals.length ((QK v).vals.map Value.string)
structure zi2 (w:World):Prop where
 d:zdY w
 ops:VI w
theorem zi2.below {w w':World} (h:zi2 w) (hb:Below w.heap.size w w'):zi2 w':=⟨h.d.below hb,h.ops.below hb⟩
theorem Ky (w:World):zd3 82 #[] Ref.zY 4000 w:=fun W s hs _=>zdQ s W (by unfold maxLen;omega)
def Xc:Obj := .cells #[.string ⟨#[]⟩, .string ⟨#[]⟩, .slice none 0 0, .bool false] 241
def yG:Obj := .cells #[.string Ref.bOp, .string Ref.x9, .string Ref.zt, .string Ref.bNo] 9
theorem Yn {w:World} {b:Nat} {o0 o1 o2 o3:Value} (x0 x1 x2 x3:Value) (h0:w.cell? ⟨b,0,none⟩=some o0) (h1:w.cell? ⟨b,1,none⟩=some o1) (h2:w.cell? ⟨b,2,none⟩=some o2) (h3:w.cell? ⟨b,3,none⟩=some o3) :
  ((((w.setCell ⟨b,0,none⟩ x0).setCell ⟨b,1,none⟩ x1).setCell ⟨b,2,none⟩ x2).setCell ⟨b,3,none⟩ x3).cell? ⟨b,0,none⟩=some x0∧((((w.setCell ⟨b,0,none⟩ x0).setCell ⟨b,1,none⟩ x1).setCell ⟨b,2,none⟩ x2).setCell ⟨b,3,none⟩ x3).cell? ⟨b,1,none⟩=some x1 ∧
  ((((w.setCell ⟨b,0,none⟩ x0).setCell ⟨b,1,none⟩ x1).setCell ⟨b,2,none⟩ x2).setCell ⟨b,3,none⟩ x3).cell? ⟨b,2,none⟩=some x2∧((((w.setCell ⟨b,0,none⟩ x0).setCell ⟨b,1,none⟩ x1).setCell ⟨b,2,none⟩ x2).setCell ⟨b,3,none⟩ x3).cell? ⟨b,3,none⟩=some x3:=by
 obtain ⟨s0,s1,s2⟩:=jG x0 x1 x2 h0 h1 h2
 refine ⟨?_,?_,?_,?_⟩
 ·rw [World.cell?_setCell_other _ _ _ _ (by simp)];exact s0
 ·rw [World.cell?_setCell_other _ _ _ _ (by simp)];exact s1
 ·rw [World.cell?_setCell_other _ _ _ _ (by simp)];exact s2
 ·exact World.cell?_setCell_same _ _ _ ((World.cell?_setCell_other _ _ _ _ (by simp)).trans ((World.cell?_setCell_other _ _ _ _ (by simp)).trans ((World.cell?_setCell_other _ _ _ _ (by simp)).trans h3)))
theorem za8 (w:World) (a b c d:ByteArray) (t:TypeId):Zn (w.alloc (.cells #[.string a, .string b, .string c, .string d] t)) (some ⟨w.heap.size,0,none⟩) [a,b,c,d]:=by
 have h:=heap_alloc_new w (.cells #[.string a, .string b, .string c, .string d] t)
 refine .inr ⟨w.heap.size,0,rfl,fun j hj=>?_⟩
 simp only [List.length_cons,List.length_nil] at hj
 rw [Nat.zero_add,(cells_of_block h j).1]
 have:j=0∨j=1∨j=2∨j=3:=by omega
 rcases this with rfl|rfl|rfl|rfl<;>rfl
theorem zb2 (x:Rd.V) (u:Value) (w:World) (hx:OAt w (some x) u) (hG:Rd.Good 4000 x) (hbad:∀ms,x = .obj ms→Rd.qX ms [Ref.bOp,Ref.x9,Ref.zt,Ref.bNo]=false) :
  Calls Tryz.prog 154 #[u] w (Xw w x):=by
 have hS:QK x=Vt:=by
  match x with
  | .str s=>rfl
  | .word b=>rfl
  | .list vs=>rfl
  | .obj ms=>simp only [QK];rw [hbad ms rfl];rfl
 have hC:Rd.condC x=1:=by
  match x with
  | .str s=>rfl
  | .word b=>rfl
  | .list vs=>rfl
  | .obj ms=>rw [zak,hbad ms rfl];rfl
 unfold Xw
 rw [hS,hC]
 have hb0:=(Below.refl _ w).alloc (Nat.le_refl _) Xc
 have hb1:=hb0.alloc (by simp) yG
 have cR:Calls Tryz.prog 97 #[u, .slice (some ⟨w.heap.size+1,0,none⟩) 4 4] ((w.alloc Xc).alloc yG) (zdS ((w.alloc Xc).alloc yG)):=by
  by_cases h:∃ms,x = .obj ms
  ·obtain ⟨ms,rfl⟩:=h
   obtain ⟨us,ao,cap,rfl,hO⟩:=Uj hx
   have hml:ms.length≤4000:=by cases hG with|obj _ h=>exact h
   have hr:=za8 (w.alloc Xc) Ref.bOp Ref.x9 Ref.zt Ref.bNo 9
   rw [World.size_alloc] at hr
   have:=jb ms us ao cap [Ref.bOp,Ref.x9,Ref.zt,Ref.bNo] (some ⟨w.heap.size+1,0,none⟩) 4 ((w.alloc Xc).alloc yG) (by simp) hml hr (hO.below hb1) false (hbad ms rfl)
   simpa using this
  ·exact QG (some x) u 4 _ 4 _ (hx.below hb1) (fun ms e=>h ⟨ms,by simpa using e⟩)
 obtain ⟨T,y,rfl⟩:=ValAt.iface (show ValAt w (fun b=>b<w.heap.size) x u from hx)
 clear hx hG hbad hS hC
 unfold yG Xc Ref.bOp Ref.x9 Ref.zt Ref.bNo at cR
 unfold Xc at hb0
 unfold yG Xc Ref.bOp Ref.x9 Ref.zt Ref.bNo at hb1
 go_enter Tryz.func154,Tryz.ntmps154
 go_wp2_with (go_at_call 97;refine cR.mono ?_;rintro e w1 ⟨p,rfl,hb2⟩;have bw1:Below w.heap.size w w1:=hb1.trans (hb2.mono (by simp;omega));have bk:=zQ (((Below.refl _ (w.alloc (.cells #[.string ⟨#[]⟩, .string ⟨#[]⟩, .slice none 0 0, .bool false] 241))).alloc (Nat.le_refl _) _).trans (hb2.mono (by simp)));have r0:=(cells_of_block bk 0).1;have r1:=(cells_of_block bk 1).1;have r2:=(cells_of_block bk 2).1;have r3:=(cells_of_block bk 3).1;have f0:=(cells_of_block bk 0).2;have f1:=(cells_of_block bk 1).2;have f2:=(cells_of_block bk 2).2;have f3:=(cells_of_block bk 3).2;simp at r0 r1 r2 r3;obtain ⟨s0,s1,s2,s3⟩:=Yn (.string ⟨#[]⟩) (.string ⟨#[]⟩) (.slice none 0 0) (.bool false) r0 r1 r2 r3)
 exact bodyPost_ret (v := .tuple #[.agg #[.string ⟨#[]⟩, .string ⟨#[]⟩, .slice none 0 0, .bool false], .iface 125 (.agg #[.string p])]) (by simp [results,Tryz.results154,go_sem,s0,s1,s2,s3]) rfl
  ⟨_,_,rfl, .inr (.inl ⟨rfl,_,rfl⟩),(((bw1.setCell (Nat.le_refl _) _).setCell (Nat.le_refl _) _).setCell (Nat.le_refl _) _).setCell (Nat.le_refl _) _,World.ownsRow_nil _ _ _ _⟩
end Go.Proofs.YtdakgnaojakldaaGreatDoor
