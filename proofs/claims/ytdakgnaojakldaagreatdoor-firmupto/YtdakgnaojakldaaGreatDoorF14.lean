/- P -/
import Derived.Test.YtdakgnaojakldaaGreatDoorF13
import Derived.Deep.DeepCutAuto
open Go.Proofs.Tryz
set_option maxRecDepth 100000
set_option maxHeartbeats 1000000
namespace Go.Proofs.YtdakgnaojakldaaGreatDoor
open Go.RowKit
def opN:Nat->BA
 | 0=>⟨#[108,105,107,101]⟩
 | 1=>⟨#[115,97,109,101]⟩
 | 2=>⟨#[98,101,108,111,119]⟩
 | 3=>⟨#[117,110,100,101,114]⟩
 | _=>⟨#[97,98,115,101,110,116]⟩
def opL:Nat->Nat
 | 0=>320
 | 1=>322
 | 2=>324
 | 3=>326
 | _=>328
def opT:Nat->Nat
 | 0=>321
 | 1=>323
 | 2=>325
 | 3=>327
 | _=>329
def Yd:List Value:=[.string (opN 0),.func (.func (opL 0)) #[] #[],.func (.func (opT 0)) #[] #[],.string (opN 1),.func (.func (opL 1)) #[] #[],.func (.func (opT 1)) #[] #[],.string (opN 2),.func (.func (opL 2)) #[] #[],.func (.func (opT 2)) #[] #[],
 .string (opN 3),.func (.func (opL 3)) #[] #[],.func (.func (opT 3)) #[] #[],.string (opN 4),.func (.func (opL 4)) #[] #[],.func (.func (opT 4)) #[] #[]]
def Zt(w:World):Prop:=∃t fr,w.heap[(6:Nat)]?=some (.cells Yd.toArray t fr)
theorem Zt.below{w a:World}(h:Zt w)(hb:Below w.heap.size w a):Zt a:=by
 obtain⟨t,fr,h⟩:=h;exact⟨t,fr,(hb.block _ (Array.getElem?_eq_some_iff.1 h).1).trans h⟩
theorem Mm:(prog.info? 402).map (·.size)=some Yd.toArray.size:=by kernel_rfl
theorem lt5{k:Nat}(h:k<5):k=0\/k=1\/k=2\/k=3\/k=4:=by omega
theorem Mf(W:World)(k:Nat)(a:k<5):(Instr.index 402 (.agg Yd.toArray) (.int .i64 (k:Int))).run prog W = .ok (.agg #[.string (opN k),.func (.func (opL k)) #[] #[],.func (.func (opT k)) #[] #[]]) W:=by
 rcases lt5 a with rfl|rfl|rfl|rfl|rfl
 ·kernel_rfl
 ·kernel_rfl
 ·kernel_rfl
 ·kernel_rfl
 ·kernel_rfl
theorem Xu{w:World}{b:Nat}{h i j:Value}(a c d:Value)(e:w.cell? ⟨b,0,none⟩=some h)(f:w.cell? ⟨b,1,none⟩=some i)(g:w.cell? ⟨b,2,none⟩=some j) :
  (((w.setCell ⟨b,0,none⟩ a).setCell ⟨b,1,none⟩ c).setCell ⟨b,2,none⟩ d).cell? ⟨b,0,none⟩=some a/\(((w.setCell ⟨b,0,none⟩ a).setCell ⟨b,1,none⟩ c).setCell ⟨b,2,none⟩ d).cell? ⟨b,1,none⟩=some c/\(((w.setCell ⟨b,0,none⟩ a).setCell ⟨b,1,none⟩ c).setCell ⟨b,2,none⟩ d).cell? ⟨b,2,none⟩=some d:=by
 refine⟨?_,?_,?_⟩
 ·rw[World.cell?_setCell_other _ _ _ _ (by simp),World.cell?_setCell_other _ _ _ _ (by simp),World.cell?_setCell_same _ _ _ e]
 ·rw[World.cell?_setCell_other _ _ _ _ (by simp)];exact World.cell?_setCell_same _ _ _ ((World.cell?_setCell_other _ _ _ _ (by simp)).trans f)
 ·exact World.cell?_setCell_same _ _ _ ((World.cell?_setCell_other _ _ _ _ (by simp)).trans ((World.cell?_setCell_other _ _ _ _ (by simp)).trans g))
def yH(name:BA):Option Nat:=zn (λk=>(opN k).toList==name.toList) 5
def opV:Option Nat->Value
 | some k => .agg #[.string (opN k),.func (.func (opL k)) #[] #[],.func (.func (opT k)) #[] #[]]
 | none => .agg #[.string ⟨#[]⟩,.nilFunc,.nilFunc]
theorem KF(name:BA)(w:World)(C:Zt w) :
  Calls prog 232 #[.string name] w λe U=>e = .returned (.tuple #[opV (yH name),.bool (yH name).isSome])/\Below w.heap.size w U:=by
 have l:=nB w (.cells #[.string ⟨#[]⟩,.nilFunc,.nilFunc] 342);obtain⟨T,fr,u⟩:=C.below l;have c:=λW k H=>Mf W k H;have Y:=λW a g m=>run_store prog W a (.func (.func g) #[] #[]) m rfl;have Z:=λW a m=>run_store prog W a .nilFunc m rfl;have n:=Mm;obtain⟨A,t⟩:=Nm Yd.toArray;rw[t] at u n;simp only[t] at c;obtain⟨F,hF⟩:=Nm (yH name);rw[hF];unfold yH at hF;have B:=hid hF;clear t C hF;go_enter func232,ntmps232
 go_wp2_with (refine wpList_load_row rfl 402 _ rfl 6 rfl T A fr _ u underlying402 rfl n ?_)
 clear u n
 go_loopw [7] (λx wr=>∃k:Nat,k<=5/\x = .int .i64 k/\(∀j,j<k->((opN j).toList==name.toList)=false)/\Below (w.alloc (.cells #[.string ⟨#[]⟩,.nilFunc,.nilFunc] 342)).heap.size (w.alloc (.cells #[.string ⟨#[]⟩,.nilFunc,.nilFunc] 342)) wr) (λx _=>5-(intOf x).toNat)
 case atStart=>exact⟨0,by omega,rfl,λj G=>by omega,Below.refl _ _⟩
 case round=>
  obtain⟨k,H,rfl,p,b⟩:=hrel;have h:=hid p;have i:=xY b;have r0:=(za i 0).1;have y:=(za i 1).1;have z:=(za i 2).1;have V:=(za i 0).2;have f1:=(za i 1).2;have f2:=(za i 2).2;have X:w.heap.size<wr.heap.size:=by have h1:=b.size;simp at h1;omega
  simp at r0 y z;clear p i
  by_cases hlt:k<5
  ·have Q:=λW=>c W k hlt;obtain⟨N,o⟩:=Nm (opN k);obtain⟨r,d⟩:∃N,opL k=N:=⟨_,rfl⟩;obtain⟨s,f⟩:∃N,opT k=N:=⟨_,rfl⟩;simp only[o,d,f] at Q;clear c;have P:w.heap.size≠wr.heap.size:=by omega
   cases heq:(N.toList==name.toList) with
   | false=>
    have q:Hid (∀j,j<k+1->((opN j).toList==name.toList)=false):=λj G=>by
     by_cases e:j=k
     ·subst e;rw[o];exact heq
     ·exact h.out j (by omega)
    clear o d f
    go_wp2
    go_roundw
    case rel=>exact⟨k+1,by omega,by go_num,q.out,b.alloc b.size _⟩
    case measure=>simp[intOf];omega
   | true=>
    have e:=kW (λk=>(opN k).toList==name.toList) 5 k hlt h.out (by show ((opN k).toList==name.toList)=true;rw[o];exact heq);rw[B.out] at e;have E:opV F = .agg #[.string N,.func (.func r) #[] #[],.func (.func s) #[] #[]]:=by rw[e];simp only[opV,o,d,f]
    have D:F.isSome=true:=by rw[e];rfl
    have M:=hid E;have L:=hid D;clear o d f e E D;obtain⟨I,J,K⟩:=Xu (.string N) (.func (.func r) #[] #[]) (.func (.func s) #[] #[]) r0 y z;have R:=λO=>zB I O;have S:=λO=>zB J O;have q2:=λO=>zB K O;clear I J K
    go_wp2
    exact bodyPost_ret (v := .tuple #[.agg #[.string N,.func (.func r) #[] #[],.func (.func s) #[] #[]],.bool true]) (by simp[results,results232,go_sem,R,S,q2]) rfl ⟨by rw[M.out,L.out],((((l.trans (b.mono (by simp))).setCell (Nat.le_refl _) _).setCell (Nat.le_refl _) _).setCell (Nat.le_refl _) _).alloc (by simp[World.setCell];omega) _⟩
  ·have e:=kX (λk=>(opN k).toList==name.toList) 5 (λj G=>h.out j (by omega));rw[B.out] at e;subst e
   go_wp2
   exact bodyPost_ret (v := .tuple #[.agg #[.string ⟨#[]⟩,.nilFunc,.nilFunc],.bool false]) (by simp[results,results232,go_sem,r0,y,z]) rfl ⟨rfl,(((l.trans (b.mono (by simp))).setCell (Nat.le_refl _) _).setCell (Nat.le_refl _) _).setCell (Nat.le_refl _) _⟩
def ko:Option Rd.V->Option Nat
 | some (.str s)=>yH s
 | _=>none
def VZ(w:World)(x:Option Rd.V)(e:Ending)(a:World):Prop:=∃u,e = .returned (.tuple #[opV (ko x),u])/\FV (if (ko x).isSome then 0 else 1) u/\Below w.heap.size w a
theorem LW:yH ⟨#[]⟩=none:=by kernel_rfl
theorem RL{w:World}{x:Option Rd.V}{u:Value}(h:OAt w x u)(d:∀s,x≠some (.str s))(W:World):(Instr.typeAssert u 114 270 true).run prog W = .ok (.tuple #[.string ⟨#[]⟩,.bool false]) W:=by
 cases x with
 | none=>
  have a:u = .nilIface:=h;subst a;exact aC W
 | some v=>
  have c:ValAt w (λb=>b<w.heap.size) v u:=h
  cases c with
  | str s=>exact absurd rfl (d s)
  | word b=>exact aF _ W
  | list e=>exact aB _ W
  | obj ms=>exact aD _ W
theorem lS(x:Option Rd.V)(a:∀s,x≠some (.str s)):ko x=none:=by
 match x with
 | none=>rfl
 | some (.str s)=>exact absurd rfl (a s)
 | some (.word b)=>rfl
 | some (.list vs)=>rfl
 | some (.obj ms)=>rfl
theorem nA(s:BA)(r:Bool)(u:Value)(w:World)(z:Zt w)(B:u = .nilIface\/∃T y,u = .iface T y)(E:∀W,(Instr.typeAssert u 114 270 true).run prog W = .ok (.tuple #[.string s,.bool r]) W)(A:yH s=none) :
  Calls prog 200 #[u] w λe C=>∃p,e = .returned (.tuple #[.agg #[.string ⟨#[]⟩,.nilFunc,.nilFunc],.iface 125 (.agg #[.string p])])/\Below w.heap.size w C:=by
 have f:=nB w (.cells #[.string ⟨#[]⟩,.nilFunc,.nilFunc] 342);have c:=KF s _ (z.below f);rw[A] at c;unfold opV at c;simp only[Option.isSome_none] at c;have D:=λW a m=>run_store prog W a .nilFunc m rfl;clear z A
 cases r with
 | true=>
  rcases B with rfl|⟨T,y,rfl⟩
  ·go_enter func200,ntmps200
   go_wp2_with (go_at_call 232;refine c.mono ?_;rintro e i ⟨rfl,b⟩;have d:=xY b;have r0:=(za d 0).1;have g:=(za d 1).1;have h:=(za d 2).1;have t:=(za d 0).2;have f1:=(za d 1).2;have f2:=(za d 2).2;simp at r0 g h;have x:w.heap.size<i.heap.size:=(by have h1:=b.size;simp at h1;omega);have j:w.heap.size≠i.heap.size:=(by omega);obtain⟨n,o,q⟩:=Xu (.string ⟨#[]⟩) .nilFunc .nilFunc r0 g h;have k:=λO=>zB n O;have l:=λO=>zB o O;have q2:=λO=>zB q O)
   exact bodyPost_ret (v := .tuple #[.agg #[.string ⟨#[]⟩,.nilFunc,.nilFunc],.iface 125 (.agg #[.string ⟨#[111,112]⟩])]) (by simp[results,results200,go_sem,k,l,q2]) rfl ⟨_,rfl,((((f.trans (b.mono (by simp))).setCell (Nat.le_refl _) _).setCell (Nat.le_refl _) _).setCell (Nat.le_refl _) _).alloc (by simp[World.setCell];omega) _⟩
  ·go_enter func200,ntmps200
   go_wp2_with (go_at_call 232;refine c.mono ?_;rintro e i ⟨rfl,b⟩;have d:=xY b;have r0:=(za d 0).1;have g:=(za d 1).1;have h:=(za d 2).1;have t:=(za d 0).2;have f1:=(za d 1).2;have f2:=(za d 2).2;simp at r0 g h;have x:w.heap.size<i.heap.size:=(by have h1:=b.size;simp at h1;omega);have j:w.heap.size≠i.heap.size:=(by omega);obtain⟨n,o,q⟩:=Xu (.string ⟨#[]⟩) .nilFunc .nilFunc r0 g h;have k:=λO=>zB n O;have l:=λO=>zB o O;have q2:=λO=>zB q O)
   exact bodyPost_ret (v := .tuple #[.agg #[.string ⟨#[]⟩,.nilFunc,.nilFunc],.iface 125 (.agg #[.string ⟨#[111,112]⟩])]) (by simp[results,results200,go_sem,k,l,q2]) rfl ⟨_,rfl,((((f.trans (b.mono (by simp))).setCell (Nat.le_refl _) _).setCell (Nat.le_refl _) _).setCell (Nat.le_refl _) _).alloc (by simp[World.setCell];omega) _⟩
 | false=>
  rcases B with rfl|⟨T,y,rfl⟩
  ·go_enter func200,ntmps200
   go_wp2_with (go_at_call 232;refine c.mono ?_;rintro e i ⟨rfl,b⟩;have d:=xY b;have r0:=(za d 0).1;have g:=(za d 1).1;have h:=(za d 2).1;have t:=(za d 0).2;have f1:=(za d 1).2;have f2:=(za d 2).2;simp at r0 g h;have x:w.heap.size<i.heap.size:=(by have h1:=b.size;simp at h1;omega);have j:w.heap.size≠i.heap.size:=(by omega);obtain⟨n,o,q⟩:=Xu (.string ⟨#[]⟩) .nilFunc .nilFunc r0 g h;have k:=λO=>zB n O;have l:=λO=>zB o O;have q2:=λO=>zB q O)
   exact bodyPost_ret (v := .tuple #[.agg #[.string ⟨#[]⟩,.nilFunc,.nilFunc],.iface 125 (.agg #[.string ⟨#[111,112]⟩])]) (by simp[results,results200,go_sem,k,l,q2]) rfl ⟨_,rfl,((((f.trans (b.mono (by simp))).setCell (Nat.le_refl _) _).setCell (Nat.le_refl _) _).setCell (Nat.le_refl _) _).alloc (by simp[World.setCell];omega) _⟩
  ·go_enter func200,ntmps200
   go_wp2_with (go_at_call 232;refine c.mono ?_;rintro e i ⟨rfl,b⟩;have d:=xY b;have r0:=(za d 0).1;have g:=(za d 1).1;have h:=(za d 2).1;have t:=(za d 0).2;have f1:=(za d 1).2;have f2:=(za d 2).2;simp at r0 g h;have x:w.heap.size<i.heap.size:=(by have h1:=b.size;simp at h1;omega);have j:w.heap.size≠i.heap.size:=(by omega);obtain⟨n,o,q⟩:=Xu (.string ⟨#[]⟩) .nilFunc .nilFunc r0 g h;have k:=λO=>zB n O;have l:=λO=>zB o O;have q2:=λO=>zB q O)
   exact bodyPost_ret (v := .tuple #[.agg #[.string ⟨#[]⟩,.nilFunc,.nilFunc],.iface 125 (.agg #[.string ⟨#[111,112]⟩])]) (by simp[results,results200,go_sem,k,l,q2]) rfl ⟨_,rfl,((((f.trans (b.mono (by simp))).setCell (Nat.le_refl _) _).setCell (Nat.le_refl _) _).setCell (Nat.le_refl _) _).alloc (by simp[World.setCell];omega) _⟩
theorem Ny(s:BA)(k:Nat)(w:World)(h:Zt w)(i:yH s=some k) :
  Calls prog 200 #[.iface 270 (.string s)] w λe x=>e = .returned (.tuple #[opV (some k),.nilIface])/\Below w.heap.size w x:=by
 have f:=nB w (.cells #[.string ⟨#[]⟩,.nilFunc,.nilFunc] 342);have c:=KF s _ (h.below f);rw[i] at c;unfold opV at c |-;simp only[Option.isSome_some] at c |-;generalize opN k=N at c |-;generalize opL k=fl at c |-;generalize opT k=ft at c |-;have B:=Jo;have A:=λW a g m=>run_store prog W a (.func (.func g) #[] #[]) m rfl;clear h i;go_enter func200,ntmps200
 go_wp2_with (go_at_call 232;refine c.mono ?_;rintro e n ⟨rfl,b⟩;have d:=xY b;have r0:=(za d 0).1;have j:=(za d 1).1;have l:=(za d 2).1;have y:=(za d 0).2;have f1:=(za d 1).2;have f2:=(za d 2).2;simp at r0 j l;have z:w.heap.size<n.heap.size:=(by have h1:=b.size;simp at h1;omega);have o:w.heap.size≠n.heap.size:=(by omega);obtain⟨r,t,u⟩:=Xu (.string N) (.func (.func fl) #[] #[]) (.func (.func ft) #[] #[]) r0 j l;have p:=λO=>zB r O;have q:=λO=>zB t O;have q2:=λO=>zB u O)
 exact bodyPost_ret (v := .tuple #[.agg #[.string N,.func (.func fl) #[] #[],.func (.func ft) #[] #[]],.nilIface]) (by simp[results,results200,go_sem,p,q,q2]) rfl ⟨rfl,((((f.trans (b.mono (by simp))).setCell (Nat.le_refl _) _).setCell (Nat.le_refl _) _).setCell (Nat.le_refl _) _).alloc (by simp[World.setCell];omega) _⟩
theorem Nw(x:Option Rd.V)(u:Value)(w:World)(c:Zt w)(d:OAt w x u):Calls prog 200 #[u] w (VZ w x):=by
 by_cases h:∃s,x=some (.str s)
 ·obtain⟨s,rfl⟩:=h;have g:ValAt w (λb=>b<w.heap.size) (.str s) u:=d
  cases g with
  | str _=>
   cases hn:yH s with
   | none=>
    refine (nA s true _ w c (.inr ⟨_,_,rfl⟩) (λW=>Jo _ W) hn).mono ?_;rintro e f ⟨p,rfl,hb⟩;refine⟨.iface 125 (.agg #[.string p]),?_,?_,hb⟩
    ·show _=Ending.returned (.tuple #[opV (yH s),_]);rw[hn];rfl
    ·show FV (if (yH s).isSome then 0 else 1) _;rw[hn];exact .inr (.inl ⟨rfl,p,rfl⟩)
   | some k=>
    refine (Ny s k w c hn).mono ?_;rintro e f ⟨rfl,hb⟩;refine⟨.nilIface,?_,?_,hb⟩
    ·show _=Ending.returned (.tuple #[opV (yH s),_]);rw[hn]
    ·show FV (if (yH s).isSome then 0 else 1) _;rw[hn];exact .inl ⟨rfl,rfl⟩
 ·have a:∀s,x≠some (.str s):=λs e=>h ⟨s,e⟩;refine (nA ⟨#[]⟩ false u w c d.form (λW=>RL d a W) LW).mono ?_;rintro e f ⟨p,rfl,hb⟩;refine⟨.iface 125 (.agg #[.string p]),?_,?_,hb⟩
  ·rw[lS x a];rfl
  ·rw[lS x a];exact .inr (.inl ⟨rfl,p,rfl⟩)
theorem Me{w:World}(g:vK w)(k:Nat)(h:k<5):Looks (opL k) (Rd.qG (opN k)) (Rd.zS (opN k)) w:=by
 rcases lt5 h with rfl|rfl|rfl|rfl|rfl
 ·have a:Ref.qE (opN 0)=true:=by kernel_rfl
  have c:Rd.qG (opN 0)=Rd.qg Rd.strOf:=by funext x;unfold Rd.qG;rw[a];rfl
  have d:Rd.zS (opN 0)=Rd.qc Rd.xD:=by funext x;unfold Rd.zS;rw[a];rfl
  rw[c,d];exact Hw g
 ·have a:Ref.qE (opN 1)=false:=by kernel_rfl
  have b:Rd.xL (opN 1)=true:=by kernel_rfl
  have c:Rd.qG (opN 1)=Rd.qg (Rd.qh Rd.short):=by funext x;unfold Rd.qG;rw[a,b];rfl
  have d:Rd.zS (opN 1)=Rd.qc (Rd.zL Rd.short):=by funext x;unfold Rd.zS;rw[a,b];rfl
  rw[c,d];exact Ol g
 ·have a:Ref.qE (opN 2)=false:=by kernel_rfl
  have b:Rd.xL (opN 2)=false:=by kernel_rfl
  have e:Rd.yD (opN 2)=true:=by kernel_rfl
  have c:Rd.qG (opN 2)=Rd.qg (Rd.qh Ref.qF):=by funext x;unfold Rd.qG;rw[a,b,e];rfl
  have d:Rd.zS (opN 2)=Rd.qc (Rd.zL Ref.qF):=by funext x;unfold Rd.zS;rw[a,b,e];rfl
  rw[c,d];exact wz g
 ·have a:Ref.qE (opN 3)=false:=by kernel_rfl
  have b:Rd.xL (opN 3)=false:=by kernel_rfl
  have e:Rd.yD (opN 3)=false:=by kernel_rfl
  have f:Rd.uy (opN 3)=true:=by kernel_rfl
  have c:Rd.qG (opN 3)=Rd.qg (Rd.qh Rd.filled):=by funext x;unfold Rd.qG;rw[a,b,e,f];rfl
  have d:Rd.zS (opN 3)=Rd.qc (Rd.zL Rd.filled):=by funext x;unfold Rd.zS;rw[a,b,e,f];rfl
  rw[c,d];exact Sn g
 ·have a:Ref.qE (opN 4)=false:=by kernel_rfl
  have b:Rd.xL (opN 4)=false:=by kernel_rfl
  have e:Rd.yD (opN 4)=false:=by kernel_rfl
  have f:Rd.uy (opN 4)=false:=by kernel_rfl
  have c:Rd.qG (opN 4)=λ_=>[]:=by funext x;unfold Rd.qG;rw[a,b,e,f];rfl
  have d:Rd.zS (opN 4)=λx=>if x.isNone then 0 else 1:=by funext x;unfold Rd.zS;rw[a,b,e,f];rfl
  rw[c,d];exact rH
theorem KE{s:BA}{k:Nat}(h:yH s=some k):k<5/\opN k=s/\(Ref.jQ s||Ref.qZ s)=true:=by
 obtain⟨a,b,_⟩:=JZ h
 have e:opN k=s:=by
  have:(opN k).toList=s.toList:=by simpa using b
  rw[ByteArray.toList_eq,ByteArray.toList_eq] at this;exact ByteArray.ext (Array.toList_inj.1 this)
 refine⟨a,e,?_⟩;rw[<- e]
 rcases lt5 a with rfl|rfl|rfl|rfl|rfl
 ·kernel_rfl
 ·kernel_rfl
 ·kernel_rfl
 ·kernel_rfl
 ·kernel_rfl
theorem LX{s:BA}(h:yH s=none):(Ref.jQ s||Ref.qZ s)=false:=by
 have a:=YT h;have b:=a 0 (by decide);have c:=a 1 (by decide);have d:=a 2 (by decide);have e:=a 3 (by decide);have f:=a 4 (by decide);unfold Ref.jQ Ref.qZ;simp only[opN] at b c d e f;rw[ByteArray.toList_eq] at b c d e f;rw[Bool.beq_comm] at b c d e f;rw[c,e,d,b,f]
 rfl
structure zW where
 op:BA
 key:BA
 vals:List BA
 no:Bool
def Zb:zW:=⟨⟨#[]⟩,⟨#[]⟩,[],false⟩
def yN:Rd.V->zW
 | .obj ms=>if Rd.zJ ms [Ref.bOp,Ref.zo,Ref.zt,Ref.bNo] then (match ko (Rd.zf ms Ref.bOp) with
  | some k=>⟨opN k,Rd.qh Ref.zI (Rd.zf ms Ref.zo),Rd.qG (opN k) (Rd.zf ms Ref.zt),Rd.uz (Rd.zf ms Ref.bNo)⟩
  | none=>Zb) else Zb
 | _=>Zb
theorem JM(ms:List (BA×Rd.V)):Rd.condC (.obj ms)=if Rd.zJ ms [Ref.bOp,Ref.zo,Ref.zt,Ref.bNo] then (match ko (Rd.zf ms Ref.bOp) with
  | some k=>Rd.zR [Rd.zL Ref.zI (Rd.zf ms Ref.zo),Rd.zS (opN k) (Rd.zf ms Ref.zt),Rd.cls (Rd.yF (Rd.zf ms Ref.bNo)) false]
  | none=>1) else 1:=by
 simp only[Rd.condC]
 cases Rd.zJ ms [Ref.bOp,Ref.zo,Ref.zt,Ref.bNo] with
 | false=>rfl
 | true=>
  simp only[if_true]
  match Rd.zf ms Ref.bOp with
  | none=>rfl
  | some (.word b)=>rfl
  | some (.list vs)=>rfl
  | some (.obj ms)=>rfl
  | some (.str s)=>
   simp only[Rd.opV,ko]
   cases h:yH s with
   | none=>rw[LX h];rfl
   | some k=>
    obtain⟨_,e,a⟩:=KE h;simp only[a,if_true,e]
def Yv(w:World)(v:Rd.V)(e:Ending)(b:World):Prop:=
 ∃a u,e = .returned (.tuple #[.agg #[.string (yN v).op,.string (yN v).key,a,.bool (yN v).no],u])/\FV (Rd.condC v) u/\Below w.heap.size w b/\b.ownsRow w.heap.size 9 1 a (yN v).vals.length ((yN v).vals.map Value.string)
structure qP (w:World):Prop where
 d:vK w
 ops:Zt w
theorem qP.below{w a:World}(h:qP w)(hb:Below w.heap.size w a):qP a:=⟨h.d.below hb,h.ops.below hb⟩
theorem FB(w:World):Jy 82 #[] Ref.zI 4000 w:=λW s a _=>J9 s W (by unfold maxLen;omega)
def ug:Obj := .cells #[.string ⟨#[]⟩,.string ⟨#[]⟩,.slice none 0 0,.bool false] 241
def Zy:Obj := .cells #[.string Ref.bOp,.string Ref.zo,.string Ref.zt,.string Ref.bNo] 9
theorem K5{w:World}{b:Nat}{j k l m:Value}(a c d e:Value)(f:w.cell? ⟨b,0,none⟩=some j)(g:w.cell? ⟨b,1,none⟩=some k)(h:w.cell? ⟨b,2,none⟩=some l)(i:w.cell? ⟨b,3,none⟩=some m) :
  ((((w.setCell ⟨b,0,none⟩ a).setCell ⟨b,1,none⟩ c).setCell ⟨b,2,none⟩ d).setCell ⟨b,3,none⟩ e).cell? ⟨b,0,none⟩=some a/\((((w.setCell ⟨b,0,none⟩ a).setCell ⟨b,1,none⟩ c).setCell ⟨b,2,none⟩ d).setCell ⟨b,3,none⟩ e).cell? ⟨b,1,none⟩=some c /\
  ((((w.setCell ⟨b,0,none⟩ a).setCell ⟨b,1,none⟩ c).setCell ⟨b,2,none⟩ d).setCell ⟨b,3,none⟩ e).cell? ⟨b,2,none⟩=some d/\((((w.setCell ⟨b,0,none⟩ a).setCell ⟨b,1,none⟩ c).setCell ⟨b,2,none⟩ d).setCell ⟨b,3,none⟩ e).cell? ⟨b,3,none⟩=some e:=by
 obtain⟨n,o,p⟩:=Xu a c d f g h;refine⟨?_,?_,?_,?_⟩
 ·rw[World.cell?_setCell_other _ _ _ _ (by simp)];exact n
 ·rw[World.cell?_setCell_other _ _ _ _ (by simp)];exact o
 ·rw[World.cell?_setCell_other _ _ _ _ (by simp)];exact p
 ·exact World.cell?_setCell_same _ _ _ ((World.cell?_setCell_other _ _ _ _ (by simp)).trans ((World.cell?_setCell_other _ _ _ _ (by simp)).trans ((World.cell?_setCell_other _ _ _ _ (by simp)).trans i)))
theorem iM(w:World)(a b c d:BA)(t:TypeId):vJ (w.alloc (.cells #[.string a,.string b,.string c,.string d] t)) (some ⟨w.heap.size,0,none⟩) [a,b,c,d]:=by
 have h:=heap_alloc_new w (.cells #[.string a,.string b,.string c,.string d] t);refine .inr ⟨w.heap.size,0,rfl,λj e=>?_⟩;simp only[List.length_cons,List.length_nil] at e;rw[Nat.zero_add,(za h j).1]
 have:j=0\/j=1\/j=2\/j=3:=by omega
 rcases this with rfl|rfl|rfl|rfl<;>rfl
theorem Np(x:Rd.V)(u:Value)(w:World)(i:OAt w (some x) u)(n:Rd.Good 4000 x)(a:∀ms,x = .obj ms->Rd.zJ ms [Ref.bOp,Ref.zo,Ref.zt,Ref.bNo]=false) :
  Calls prog 154 #[u] w (Yv w x):=by
 have o:yN x=Zb:=by
  match x with
  | .str s=>rfl
  | .word b=>rfl
  | .list G=>rfl
  | .obj ms=>simp only[yN];rw[a ms rfl];rfl
 have m:Rd.condC x=1:=by
  match x with
  | .str s=>rfl
  | .word b=>rfl
  | .list G=>rfl
  | .obj ms=>rw[JM,a ms rfl];rfl
 unfold Yv;rw[o,m];have f:=nB w ug;have c:=f.alloc (by simp) Zy
 have l:Calls prog 97 #[u,.slice (some ⟨w.heap.size+1,0,none⟩) 4 4] ((w.alloc ug).alloc Zy) (Js ((w.alloc ug).alloc Zy)):=by
  by_cases h:∃ms,x = .obj ms
  ·obtain⟨ms,rfl⟩:=h;obtain⟨F,ao,cap,rfl,A⟩:=Ya i;have k:ms.length<=4000:=by cases n with|obj _ h=>exact h
   have q:=iM (w.alloc ug) Ref.bOp Ref.zo Ref.zt Ref.bNo 9;rw[World.size_alloc] at q
   have:=Jf ms F ao cap [Ref.bOp,Ref.zo,Ref.zt,Ref.bNo] (some ⟨w.heap.size+1,0,none⟩) 4 ((w.alloc ug).alloc Zy) (by simp) k q (A.below c) false (a ms rfl)
   simpa using this
  ·exact nz (some x) u 4 _ 4 _ (i.below c) (λms e=>h ⟨ms,by simpa using e⟩)
 obtain⟨T,y,rfl⟩:=ValAt.iface (show ValAt w (λb=>b<w.heap.size) x u from i)
 clear i n a o m;unfold Zy ug Ref.bOp Ref.zo Ref.zt Ref.bNo at l;unfold ug at f;unfold Zy ug Ref.bOp Ref.zo Ref.zt Ref.bNo at c;go_enter func154,ntmps154
 go_wp2_with (go_at_call 97;refine l.mono ?_;rintro e H ⟨p,rfl,g⟩;have j:Below w.heap.size w H:=c.trans (g.mono (by simp;omega));have d:=xY (((Below.refl _ (w.alloc (.cells #[.string ⟨#[]⟩,.string ⟨#[]⟩,.slice none 0 0,.bool false] 241))).alloc (Nat.le_refl _) _).trans (g.mono (by simp)));have r0:=(za d 0).1;have r:=(za d 1).1;have t:=(za d 2).1;have z:=(za d 3).1;have I:=(za d 0).2;have f1:=(za d 1).2;have f2:=(za d 2).2;have J:=(za d 3).2;simp at r0 r t z;obtain⟨B,C,D,E⟩:=K5 (.string ⟨#[]⟩) (.string ⟨#[]⟩) (.slice none 0 0) (.bool false) r0 r t z)
 exact bodyPost_ret (v := .tuple #[.agg #[.string ⟨#[]⟩,.string ⟨#[]⟩,.slice none 0 0,.bool false],.iface 125 (.agg #[.string p])]) (by simp[results,results154,go_sem,B,C,D,E]) rfl
  ⟨_,_,rfl,.inr (.inl ⟨rfl,_,rfl⟩),(((j.setCell (Nat.le_refl _) _).setCell (Nat.le_refl _) _).setCell (Nat.le_refl _) _).setCell (Nat.le_refl _) _,World.ownsRow_nil _ _ _ _⟩
end Go.Proofs.YtdakgnaojakldaaGreatDoor
