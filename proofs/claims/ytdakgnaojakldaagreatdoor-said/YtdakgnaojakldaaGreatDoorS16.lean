/- P -/
import Derived.Test.YtdakgnaojakldaaGreatDoorS15
import Derived.Deep.DeepCutAuto
open Go.Proofs.Tryz
set_option maxRecDepth 100000
set_option maxHeartbeats 1000000
namespace Go.Proofs.YtdakgnaojakldaaGreatDoor
open Go.RowKit
def opN:Nat->BY
 | 0=>⟨#[108,105,107,101]⟩
 | 1=>⟨#[115,97,109,101]⟩
 | 2=>⟨#[98,101,108,111,119]⟩
 | 3=>⟨#[117,110,100,101,114]⟩
 | _=>⟨#[97,98,115,101,110,116]⟩
def opL:Nat->Nat
 | 0=>320
 | 1=>322
 | 2=>324
 | 3=>326
 | _=>328
def opT:Nat->Nat
 | 0=>321
 | 1=>323
 | 2=>325
 | 3=>327
 | _=>329
def Xa:List Value:=[.string (opN 0),.func (.func (opL 0)) #[] #[],.func (.func (opT 0)) #[] #[],.string (opN 1),.func (.func (opL 1)) #[] #[],.func (.func (opT 1)) #[] #[],.string (opN 2),.func (.func (opL 2)) #[] #[],.func (.func (opT 2)) #[] #[],
 .string (opN 3),.func (.func (opL 3)) #[] #[],.func (.func (opT 3)) #[] #[],.string (opN 4),.func (.func (opL 4)) #[] #[],.func (.func (opT 4)) #[] #[]]
def uT(w:World):Prop:=∃t a,w.heap[(6:Nat)]?=some (.cells Xa.toArray t a)
theorem uT.below{w a:World}(h:uT w)(hb:Below w.heap.size w a):uT a:=by
 obtain⟨t,b,h⟩:=h;exact⟨t,b,(hb.block _ (Array.getElem?_eq_some_iff.1 h).1).trans h⟩
theorem EO:(prog.info? 402).map (·.size)=some Xa.toArray.size:=by kernel_rfl
theorem lt5{k:Nat}(h:k<5):k=0\/k=1\/k=2\/k=3\/k=4:=by omega
theorem EM(W:World)(k:Nat)(a:k<5):(Instr.index 402 (.agg Xa.toArray) (.int .i64 (k:Int))).run prog W = .ok (.agg #[.string (opN k),.func (.func (opL k)) #[] #[],.func (.func (opT k)) #[] #[]]) W:=by
 rcases lt5 a with rfl|rfl|rfl|rfl|rfl
 ·kernel_rfl
 ·kernel_rfl
 ·kernel_rfl
 ·kernel_rfl
 ·kernel_rfl
theorem Qx{w:World}{b:Nat}{h i j:Value}(a c d:Value)(e:w.cell? ⟨b,0,none⟩=some h)(f:w.cell? ⟨b,1,none⟩=some i)(g:w.cell? ⟨b,2,none⟩=some j) :
  (((w.setCell ⟨b,0,none⟩ a).setCell ⟨b,1,none⟩ c).setCell ⟨b,2,none⟩ d).cell? ⟨b,0,none⟩=some a/\(((w.setCell ⟨b,0,none⟩ a).setCell ⟨b,1,none⟩ c).setCell ⟨b,2,none⟩ d).cell? ⟨b,1,none⟩=some c/\(((w.setCell ⟨b,0,none⟩ a).setCell ⟨b,1,none⟩ c).setCell ⟨b,2,none⟩ d).cell? ⟨b,2,none⟩=some d:=by
 refine⟨?_,?_,?_⟩
 ·rw[World.cell?_setCell_other _ _ _ _ (by simp),World.cell?_setCell_other _ _ _ _ (by simp),World.cell?_setCell_same _ _ _ e]
 ·rw[World.cell?_setCell_other _ _ _ _ (by simp)];exact World.cell?_setCell_same _ _ _ ((World.cell?_setCell_other _ _ _ _ (by simp)).trans f)
 ·exact World.cell?_setCell_same _ _ _ ((World.cell?_setCell_other _ _ _ _ (by simp)).trans ((World.cell?_setCell_other _ _ _ _ (by simp)).trans g))
def x8(name:BY):Option Nat:=zl (λk=>(opN k).toList==name.toList) 5
def opV:Option Nat->Value
 | some k => .agg #[.string (opN k),.func (.func (opL k)) #[] #[],.func (.func (opT k)) #[] #[]]
 | none => .agg #[.string ⟨#[]⟩,.nilFunc,.nilFunc]
theorem VO(name:BY)(w:World)(C:uT w) :
  Calls prog 232 #[.string name] w λe V=>e = .returned (.tuple #[opV (x8 name),.bool (x8 name).isSome])/\Below w.heap.size w V:=by
 have l:=nb w (.cells #[.string ⟨#[]⟩,.nilFunc,.nilFunc] 342);obtain⟨U,P,u⟩:=C.below l;have c:=λW k H=>EM W k H;have Z:=λW a g m=>run_store prog W a (.func (.func g) #[] #[]) m rfl;have sn:=λW a m=>run_store prog W a .nilFunc m rfl;have n:=EO;obtain⟨A,t⟩:=Nm Xa.toArray;rw[t] at u n;simp only[t] at c;obtain⟨F,hF⟩:=Nm (x8 name);rw[hF];unfold x8 at hF;have B:=hid hF;clear t C hF;go_enter func232,ntmps232
 go_wp2_with (refine wpList_load_row rfl 402 _ rfl 6 rfl U A P _ u underlying402 rfl n ?_)
 clear u n
 go_loopw [7] (λx wr=>∃k:Nat,k<=5/\x = .int .i64 k/\(∀j,j<k->((opN j).toList==name.toList)=false)/\Below (w.alloc (.cells #[.string ⟨#[]⟩,.nilFunc,.nilFunc] 342)).heap.size (w.alloc (.cells #[.string ⟨#[]⟩,.nilFunc,.nilFunc] 342)) wr) (λx _=>5-(intOf x).toNat)
 case atStart=>exact⟨0,by omega,rfl,λj G=>by omega,Below.refl _ _⟩
 case round=>
  obtain⟨k,H,rfl,p,b⟩:=hrel;have h:=hid p;have i:=xG b;have r0:=(ze i 0).1;have y:=(ze i 1).1;have z:=(ze i 2).1;have X:=(ze i 0).2;have f1:=(ze i 1).2;have f2:=(ze i 2).2;have Y:w.heap.size<wr.heap.size:=by have h1:=b.size;simp at h1;omega
  simp at r0 y z;clear p i
  by_cases hlt:k<5
  ·have R:=λW=>c W k hlt;obtain⟨N,o⟩:=Nm (opN k);obtain⟨r,d⟩:∃N,opL k=N:=⟨_,rfl⟩;obtain⟨s,f⟩:∃N,opT k=N:=⟨_,rfl⟩;simp only[o,d,f] at R;clear c;have Q:w.heap.size≠wr.heap.size:=by omega
   cases heq:(N.toList==name.toList) with
   | false=>
    have q:Hid (∀j,j<k+1->((opN j).toList==name.toList)=false):=λj G=>by
     by_cases e:j=k
     ·subst e;rw[o];exact heq
     ·exact h.out j (by omega)
    clear o d f
    go_wp2
    go_roundw
    case rel=>exact⟨k+1,by omega,by go_num,q.out,b.alloc b.size _⟩
    case measure=>simp[intOf];omega
   | true=>
    have e:=um (λk=>(opN k).toList==name.toList) 5 k hlt h.out (by show ((opN k).toList==name.toList)=true;rw[o];exact heq);rw[B.out] at e;have E:opV F = .agg #[.string N,.func (.func r) #[] #[],.func (.func s) #[] #[]]:=by rw[e];simp only[opV,o,d,f]
    have D:F.isSome=true:=by rw[e];rfl
    have M:=hid E;have L:=hid D;clear o d f e E D;obtain⟨I,J,K⟩:=Qx (.string N) (.func (.func r) #[] #[]) (.func (.func s) #[] #[]) r0 y z;have S:=λO=>zB I O;have T:=λO=>zB J O;have q2:=λO=>zB K O;clear I J K
    go_wp2
    exact bodyPost_ret (v := .tuple #[.agg #[.string N,.func (.func r) #[] #[],.func (.func s) #[] #[]],.bool true]) (by simp[results,results232,go_sem,S,T,q2]) rfl ⟨by rw[M.out,L.out],((((l.trans (b.mono (by simp))).setCell (Nat.le_refl _) _).setCell (Nat.le_refl _) _).setCell (Nat.le_refl _) _).alloc (by simp[World.setCell];omega) _⟩
  ·have e:=uo (λk=>(opN k).toList==name.toList) 5 (λj G=>h.out j (by omega));rw[B.out] at e;subst e
   go_wp2
   exact bodyPost_ret (v := .tuple #[.agg #[.string ⟨#[]⟩,.nilFunc,.nilFunc],.bool false]) (by simp[results,results232,go_sem,r0,y,z]) rfl ⟨rfl,(((l.trans (b.mono (by simp))).setCell (Nat.le_refl _) _).setCell (Nat.le_refl _) _).setCell (Nat.le_refl _) _⟩
def vT:Option Rd.V->Option Nat
 | some (.str s)=>x8 s
 | _=>none
def Ju(w:World)(x:Option Rd.V)(e:Ending)(a:World):Prop:=∃u,e = .returned (.tuple #[opV (vT x),u])/\FV (if (vT x).isSome then 0 else 1) u/\Below w.heap.size w a
theorem Ex:x8 ⟨#[]⟩=none:=by kernel_rfl
theorem LA{w:World}{x:Option Rd.V}{u:Value}(h:OAt w x u)(d:∀s,x≠some (.str s))(W:World):(Instr.typeAssert u 114 270 true).run prog W = .ok (.tuple #[.string ⟨#[]⟩,.bool false]) W:=by
 cases x with
 | none=>
  have a:u = .nilIface:=h;subst a;exact Ur W
 | some v=>
  have c:ValAt w (λb=>b<w.heap.size) v u:=h
  cases c with
  | str s=>exact absurd rfl (d s)
  | word b=>exact Ut _ W
  | list e=>exact Uq _ W
  | obj ms=>exact Us _ W
theorem dS(x:Option Rd.V)(a:∀s,x≠some (.str s)):vT x=none:=by
 match x with
 | none=>rfl
 | some (.str s)=>exact absurd rfl (a s)
 | some (.word b)=>rfl
 | some (.list vs)=>rfl
 | some (.obj ms)=>rfl
theorem fI(s:BY)(r:Bool)(u:Value)(w:World)(z:uT w)(B:u = .nilIface\/∃T y,u = .iface T y)(E:∀W,(Instr.typeAssert u 114 270 true).run prog W = .ok (.tuple #[.string s,.bool r]) W)(A:x8 s=none) :
  Calls prog 200 #[u] w λe C=>∃p,e = .returned (.tuple #[.agg #[.string ⟨#[]⟩,.nilFunc,.nilFunc],.iface 125 (.agg #[.string p])])/\Below w.heap.size w C:=by
 have f:=nb w (.cells #[.string ⟨#[]⟩,.nilFunc,.nilFunc] 342);have c:=VO s _ (z.below f);rw[A] at c;unfold opV at c;simp only[Option.isSome_none] at c;have D:=λW a m=>run_store prog W a .nilFunc m rfl;clear z A
 cases r with
 | true=>
  rcases B with rfl|⟨T,y,rfl⟩
  ·go_enter func200,ntmps200
   go_wp2_with (go_at_call 232;refine c.mono ?_;rintro e i ⟨rfl,b⟩;have d:=xG b;have r0:=(ze d 0).1;have g:=(ze d 1).1;have h:=(ze d 2).1;have t:=(ze d 0).2;have f1:=(ze d 1).2;have f2:=(ze d 2).2;simp at r0 g h;have x:w.heap.size<i.heap.size:=(by have h1:=b.size;simp at h1;omega);have j:w.heap.size≠i.heap.size:=(by omega);obtain⟨n,o,q⟩:=Qx (.string ⟨#[]⟩) .nilFunc .nilFunc r0 g h;have k:=λO=>zB n O;have l:=λO=>zB o O;have q2:=λO=>zB q O)
   exact bodyPost_ret (v := .tuple #[.agg #[.string ⟨#[]⟩,.nilFunc,.nilFunc],.iface 125 (.agg #[.string ⟨#[111,112]⟩])]) (by simp[results,results200,go_sem,k,l,q2]) rfl ⟨_,rfl,((((f.trans (b.mono (by simp))).setCell (Nat.le_refl _) _).setCell (Nat.le_refl _) _).setCell (Nat.le_refl _) _).alloc (by simp[World.setCell];omega) _⟩
  ·go_enter func200,ntmps200
   go_wp2_with (go_at_call 232;refine c.mono ?_;rintro e i ⟨rfl,b⟩;have d:=xG b;have r0:=(ze d 0).1;have g:=(ze d 1).1;have h:=(ze d 2).1;have t:=(ze d 0).2;have f1:=(ze d 1).2;have f2:=(ze d 2).2;simp at r0 g h;have x:w.heap.size<i.heap.size:=(by have h1:=b.size;simp at h1;omega);have j:w.heap.size≠i.heap.size:=(by omega);obtain⟨n,o,q⟩:=Qx (.string ⟨#[]⟩) .nilFunc .nilFunc r0 g h;have k:=λO=>zB n O;have l:=λO=>zB o O;have q2:=λO=>zB q O)
   exact bodyPost_ret (v := .tuple #[.agg #[.string ⟨#[]⟩,.nilFunc,.nilFunc],.iface 125 (.agg #[.string ⟨#[111,112]⟩])]) (by simp[results,results200,go_sem,k,l,q2]) rfl ⟨_,rfl,((((f.trans (b.mono (by simp))).setCell (Nat.le_refl _) _).setCell (Nat.le_refl _) _).setCell (Nat.le_refl _) _).alloc (by simp[World.setCell];omega) _⟩
 | false=>
  rcases B with rfl|⟨T,y,rfl⟩
  ·go_enter func200,ntmps200
   go_wp2_with (go_at_call 232;refine c.mono ?_;rintro e i ⟨rfl,b⟩;have d:=xG b;have r0:=(ze d 0).1;have g:=(ze d 1).1;have h:=(ze d 2).1;have t:=(ze d 0).2;have f1:=(ze d 1).2;have f2:=(ze d 2).2;simp at r0 g h;have x:w.heap.size<i.heap.size:=(by have h1:=b.size;simp at h1;omega);have j:w.heap.size≠i.heap.size:=(by omega);obtain⟨n,o,q⟩:=Qx (.string ⟨#[]⟩) .nilFunc .nilFunc r0 g h;have k:=λO=>zB n O;have l:=λO=>zB o O;have q2:=λO=>zB q O)
   exact bodyPost_ret (v := .tuple #[.agg #[.string ⟨#[]⟩,.nilFunc,.nilFunc],.iface 125 (.agg #[.string ⟨#[111,112]⟩])]) (by simp[results,results200,go_sem,k,l,q2]) rfl ⟨_,rfl,((((f.trans (b.mono (by simp))).setCell (Nat.le_refl _) _).setCell (Nat.le_refl _) _).setCell (Nat.le_refl _) _).alloc (by simp[World.setCell];omega) _⟩
  ·go_enter func200,ntmps200
   go_wp2_with (go_at_call 232;refine c.mono ?_;rintro e i ⟨rfl,b⟩;have d:=xG b;have r0:=(ze d 0).1;have g:=(ze d 1).1;have h:=(ze d 2).1;have t:=(ze d 0).2;have f1:=(ze d 1).2;have f2:=(ze d 2).2;simp at r0 g h;have x:w.heap.size<i.heap.size:=(by have h1:=b.size;simp at h1;omega);have j:w.heap.size≠i.heap.size:=(by omega);obtain⟨n,o,q⟩:=Qx (.string ⟨#[]⟩) .nilFunc .nilFunc r0 g h;have k:=λO=>zB n O;have l:=λO=>zB o O;have q2:=λO=>zB q O)
   exact bodyPost_ret (v := .tuple #[.agg #[.string ⟨#[]⟩,.nilFunc,.nilFunc],.iface 125 (.agg #[.string ⟨#[111,112]⟩])]) (by simp[results,results200,go_sem,k,l,q2]) rfl ⟨_,rfl,((((f.trans (b.mono (by simp))).setCell (Nat.le_refl _) _).setCell (Nat.le_refl _) _).setCell (Nat.le_refl _) _).alloc (by simp[World.setCell];omega) _⟩
theorem FY(s:BY)(k:Nat)(w:World)(h:uT w)(i:x8 s=some k) :
  Calls prog 200 #[.iface 270 (.string s)] w λe x=>e = .returned (.tuple #[opV (some k),.nilIface])/\Below w.heap.size w x:=by
 have f:=nb w (.cells #[.string ⟨#[]⟩,.nilFunc,.nilFunc] 342);have c:=VO s _ (h.below f);rw[i] at c;unfold opV at c |-;simp only[Option.isSome_some] at c |-;generalize opN k=N at c |-;generalize opL k=fl at c |-;generalize opT k=ft at c |-;have B:=Yj;have A:=λW a g m=>run_store prog W a (.func (.func g) #[] #[]) m rfl;clear h i;go_enter func200,ntmps200
 go_wp2_with (go_at_call 232;refine c.mono ?_;rintro e n ⟨rfl,b⟩;have d:=xG b;have r0:=(ze d 0).1;have j:=(ze d 1).1;have l:=(ze d 2).1;have y:=(ze d 0).2;have f1:=(ze d 1).2;have f2:=(ze d 2).2;simp at r0 j l;have z:w.heap.size<n.heap.size:=(by have h1:=b.size;simp at h1;omega);have o:w.heap.size≠n.heap.size:=(by omega);obtain⟨r,t,u⟩:=Qx (.string N) (.func (.func fl) #[] #[]) (.func (.func ft) #[] #[]) r0 j l;have p:=λO=>zB r O;have q:=λO=>zB t O;have q2:=λO=>zB u O)
 exact bodyPost_ret (v := .tuple #[.agg #[.string N,.func (.func fl) #[] #[],.func (.func ft) #[] #[]],.nilIface]) (by simp[results,results200,go_sem,p,q,q2]) rfl ⟨rfl,((((f.trans (b.mono (by simp))).setCell (Nat.le_refl _) _).setCell (Nat.le_refl _) _).setCell (Nat.le_refl _) _).alloc (by simp[World.setCell];omega) _⟩
theorem FX(x:Option Rd.V)(u:Value)(w:World)(c:uT w)(d:OAt w x u):Calls prog 200 #[u] w (Ju w x):=by
 by_cases h:∃s,x=some (.str s)
 ·obtain⟨s,rfl⟩:=h;have g:ValAt w (λb=>b<w.heap.size) (.str s) u:=d
  cases g with
  | str _=>
   cases hn:x8 s with
   | none=>
    refine (fI s true _ w c (.inr ⟨_,_,rfl⟩) (λW=>Yj _ W) hn).mono ?_;rintro e f ⟨p,rfl,hb⟩;refine⟨.iface 125 (.agg #[.string p]),?_,?_,hb⟩
    ·show _=Ending.returned (.tuple #[opV (x8 s),_]);rw[hn];rfl
    ·show FV (if (x8 s).isSome then 0 else 1) _;rw[hn];exact .inr (.inl ⟨rfl,p,rfl⟩)
   | some k=>
    refine (FY s k w c hn).mono ?_;rintro e f ⟨rfl,hb⟩;refine⟨.nilIface,?_,?_,hb⟩
    ·show _=Ending.returned (.tuple #[opV (x8 s),_]);rw[hn]
    ·show FV (if (x8 s).isSome then 0 else 1) _;rw[hn];exact .inl ⟨rfl,rfl⟩
 ·have a:∀s,x≠some (.str s):=λs e=>h ⟨s,e⟩;refine (fI ⟨#[]⟩ false u w c d.form (λW=>LA d a W) Ex).mono ?_;rintro e f ⟨p,rfl,hb⟩;refine⟨.iface 125 (.agg #[.string p]),?_,?_,hb⟩
  ·rw[dS x a];rfl
  ·rw[dS x a];exact .inr (.inl ⟨rfl,p,rfl⟩)
theorem EK{w:World}(g:jC w)(k:Nat)(h:k<5):Looks (opL k) (Rd.qx (opN k)) (Rd.zY (opN k)) w:=by
 rcases lt5 h with rfl|rfl|rfl|rfl|rfl
 ·have a:Ref.qp (opN 0)=true:=by kernel_rfl
  have c:Rd.qx (opN 0)=Rd.qc Rd.strOf:=by funext x;unfold Rd.qx;rw[a];rfl
  have d:Rd.zY (opN 0)=Rd.zZ Rd.qZ:=by funext x;unfold Rd.zY;rw[a];rfl
  rw[c,d];exact CQ g
 ·have a:Ref.qp (opN 1)=false:=by kernel_rfl
  have b:Rd.qW (opN 1)=true:=by kernel_rfl
  have c:Rd.qx (opN 1)=Rd.qc (Rd.qd Rd.short):=by funext x;unfold Rd.qx;rw[a,b];rfl
  have d:Rd.zY (opN 1)=Rd.zZ (Rd.zI Rd.short):=by funext x;unfold Rd.zY;rw[a,b];rfl
  rw[c,d];exact GK g
 ·have a:Ref.qp (opN 2)=false:=by kernel_rfl
  have b:Rd.qW (opN 2)=false:=by kernel_rfl
  have e:Rd.xX (opN 2)=true:=by kernel_rfl
  have c:Rd.qx (opN 2)=Rd.qc (Rd.qd Ref.qj):=by funext x;unfold Rd.qx;rw[a,b,e];rfl
  have d:Rd.zY (opN 2)=Rd.zZ (Rd.zI Ref.qj):=by funext x;unfold Rd.zY;rw[a,b,e];rfl
  rw[c,d];exact mR g
 ·have a:Ref.qp (opN 3)=false:=by kernel_rfl
  have b:Rd.qW (opN 3)=false:=by kernel_rfl
  have e:Rd.xX (opN 3)=false:=by kernel_rfl
  have f:Rd.vR (opN 3)=true:=by kernel_rfl
  have c:Rd.qx (opN 3)=Rd.qc (Rd.qd Rd.filled):=by funext x;unfold Rd.qx;rw[a,b,e,f];rfl
  have d:Rd.zY (opN 3)=Rd.zZ (Rd.zI Rd.filled):=by funext x;unfold Rd.zY;rw[a,b,e,f];rfl
  rw[c,d];exact Mi g
 ·have a:Ref.qp (opN 4)=false:=by kernel_rfl
  have b:Rd.qW (opN 4)=false:=by kernel_rfl
  have e:Rd.xX (opN 4)=false:=by kernel_rfl
  have f:Rd.vR (opN 4)=false:=by kernel_rfl
  have c:Rd.qx (opN 4)=λ_=>[]:=by funext x;unfold Rd.qx;rw[a,b,e,f];rfl
  have d:Rd.zY (opN 4)=λx=>if x.isNone then 0 else 1:=by funext x;unfold Rd.zY;rw[a,b,e,f];rfl
  rw[c,d];exact iU
theorem VN{s:BY}{k:Nat}(h:x8 s=some k):k<5/\opN k=s/\(Ref.jO s||Ref.zX s)=true:=by
 obtain⟨a,b,_⟩:=YM h
 have e:opN k=s:=by
  have:(opN k).toList=s.toList:=by simpa using b
  rw[ByteArray.toList_eq,ByteArray.toList_eq] at this;exact ByteArray.ext (Array.toList_inj.1 this)
 refine⟨a,e,?_⟩;rw[<- e]
 rcases lt5 a with rfl|rfl|rfl|rfl|rfl
 ·kernel_rfl
 ·kernel_rfl
 ·kernel_rfl
 ·kernel_rfl
 ·kernel_rfl
theorem Ey{s:BY}(h:x8 s=none):(Ref.jO s||Ref.zX s)=false:=by
 have a:=XN h;have b:=a 0 (by decide);have c:=a 1 (by decide);have d:=a 2 (by decide);have e:=a 3 (by decide);have f:=a 4 (by decide);unfold Ref.jO Ref.zX;simp only[opN] at b c d e f;rw[ByteArray.toList_eq] at b c d e f;rw[Bool.beq_comm] at b c d e f;rw[c,e,d,b,f]
 rfl
structure zQ where
 op:BY
 key:BY
 vals:List BY
 no:Bool
def kD:zQ:=⟨⟨#[]⟩,⟨#[]⟩,[],false⟩
def yj:Rd.V->zQ
 | .obj ms=>if Rd.zJ ms [Ref.bOp,Ref.zw,Ref.zq,Ref.bNo] then (match vT (Rd.zh ms Ref.bOp) with
  | some k=>⟨opN k,Rd.qd Ref.zH (Rd.zh ms Ref.zw),Rd.qx (opN k) (Rd.zh ms Ref.zq),Rd.vv (Rd.zh ms Ref.bNo)⟩
  | none=>kD) else kD
 | _=>kD
theorem YE(ms:List (BY×Rd.V)):Rd.condC (.obj ms)=if Rd.zJ ms [Ref.bOp,Ref.zw,Ref.zq,Ref.bNo] then (match vT (Rd.zh ms Ref.bOp) with
  | some k=>Rd.zN [Rd.zI Ref.zH (Rd.zh ms Ref.zw),Rd.zY (opN k) (Rd.zh ms Ref.zq),Rd.cls (Rd.yA (Rd.zh ms Ref.bNo)) false]
  | none=>1) else 1:=by
 simp only[Rd.condC]
 cases Rd.zJ ms [Ref.bOp,Ref.zw,Ref.zq,Ref.bNo] with
 | false=>rfl
 | true=>
  simp only[if_true]
  match Rd.zh ms Ref.bOp with
  | none=>rfl
  | some (.word b)=>rfl
  | some (.list vs)=>rfl
  | some (.obj ms)=>rfl
  | some (.str s)=>
   simp only[Rd.opV,vT]
   cases h:x8 s with
   | none=>rw[Ey h];rfl
   | some k=>
    obtain⟨_,e,a⟩:=VN h;simp only[a,if_true,e]
def Xn(w:World)(v:Rd.V)(e:Ending)(b:World):Prop:=
 ∃a u,e = .returned (.tuple #[.agg #[.string (yj v).op,.string (yj v).key,a,.bool (yj v).no],u])/\FV (Rd.condC v) u/\Below w.heap.size w b/\b.ownsRow w.heap.size 9 1 a (yj v).vals.length ((yj v).vals.map Value.string)
structure qD (w:World):Prop where
 d:jC w
 ops:uT w
theorem qD.below{w a:World}(h:qD w)(hb:Below w.heap.size w a):qD a:=⟨h.d.below hb,h.ops.below hb⟩
theorem Bi(w:World):Yq 82 #[] Ref.zH 4000 w:=λW s a _=>YT s W (by unfold maxLen;omega)
def jR:Obj := .cells #[.string ⟨#[]⟩,.string ⟨#[]⟩,.slice none 0 0,.bool false] 241
def uY:Obj := .cells #[.string Ref.bOp,.string Ref.zw,.string Ref.zq,.string Ref.bNo] 9
theorem V7{w:World}{b:Nat}{j k l m:Value}(a c d e:Value)(f:w.cell? ⟨b,0,none⟩=some j)(g:w.cell? ⟨b,1,none⟩=some k)(h:w.cell? ⟨b,2,none⟩=some l)(i:w.cell? ⟨b,3,none⟩=some m) :
  ((((w.setCell ⟨b,0,none⟩ a).setCell ⟨b,1,none⟩ c).setCell ⟨b,2,none⟩ d).setCell ⟨b,3,none⟩ e).cell? ⟨b,0,none⟩=some a/\((((w.setCell ⟨b,0,none⟩ a).setCell ⟨b,1,none⟩ c).setCell ⟨b,2,none⟩ d).setCell ⟨b,3,none⟩ e).cell? ⟨b,1,none⟩=some c /\
  ((((w.setCell ⟨b,0,none⟩ a).setCell ⟨b,1,none⟩ c).setCell ⟨b,2,none⟩ d).setCell ⟨b,3,none⟩ e).cell? ⟨b,2,none⟩=some d/\((((w.setCell ⟨b,0,none⟩ a).setCell ⟨b,1,none⟩ c).setCell ⟨b,2,none⟩ d).setCell ⟨b,3,none⟩ e).cell? ⟨b,3,none⟩=some e:=by
 obtain⟨n,o,p⟩:=Qx a c d f g h;refine⟨?_,?_,?_,?_⟩
 ·rw[World.cell?_setCell_other _ _ _ _ (by simp)];exact n
 ·rw[World.cell?_setCell_other _ _ _ _ (by simp)];exact o
 ·rw[World.cell?_setCell_other _ _ _ _ (by simp)];exact p
 ·exact World.cell?_setCell_same _ _ _ ((World.cell?_setCell_other _ _ _ _ (by simp)).trans ((World.cell?_setCell_other _ _ _ _ (by simp)).trans ((World.cell?_setCell_other _ _ _ _ (by simp)).trans i)))
theorem cB(w:World)(a b c d:BY)(t:TypeId):jB (w.alloc (.cells #[.string a,.string b,.string c,.string d] t)) (some ⟨w.heap.size,0,none⟩) [a,b,c,d]:=by
 have h:=heap_alloc_new w (.cells #[.string a,.string b,.string c,.string d] t);refine .inr ⟨w.heap.size,0,rfl,λj e=>?_⟩;simp only[List.length_cons,List.length_nil] at e;rw[Nat.zero_add,(ze h j).1]
 have:j=0\/j=1\/j=2\/j=3:=by omega
 rcases this with rfl|rfl|rfl|rfl<;>rfl
theorem FO(x:Rd.V)(u:Value)(w:World)(i:OAt w (some x) u)(n:Rd.Good 4000 x)(a:∀ms,x = .obj ms->Rd.zJ ms [Ref.bOp,Ref.zw,Ref.zq,Ref.bNo]=false) :
  Calls prog 154 #[u] w (Xn w x):=by
 have o:yj x=kD:=by
  match x with
  | .str s=>rfl
  | .word b=>rfl
  | .list G=>rfl
  | .obj ms=>simp only[yj];rw[a ms rfl];rfl
 have m:Rd.condC x=1:=by
  match x with
  | .str s=>rfl
  | .word b=>rfl
  | .list G=>rfl
  | .obj ms=>rw[YE,a ms rfl];rfl
 unfold Xn;rw[o,m];have f:=nb w jR;have c:=f.alloc (by simp) uY
 have l:Calls prog 97 #[u,.slice (some ⟨w.heap.size+1,0,none⟩) 4 4] ((w.alloc jR).alloc uY) (Yn ((w.alloc jR).alloc uY)):=by
  by_cases h:∃ms,x = .obj ms
  ·obtain⟨ms,rfl⟩:=h;obtain⟨F,ao,cap,rfl,A⟩:=Q6 i;have k:ms.length<=4000:=by cases n with|obj _ h=>exact h
   have q:=cB (w.alloc jR) Ref.bOp Ref.zw Ref.zq Ref.bNo 9;rw[World.size_alloc] at q
   have:=Yb ms F ao cap [Ref.bOp,Ref.zw,Ref.zq,Ref.bNo] (some ⟨w.heap.size+1,0,none⟩) 4 ((w.alloc jR).alloc uY) (by simp) k q (A.below c) false (a ms rfl)
   simpa using this
  ·exact fH (some x) u 4 _ 4 _ (i.below c) (λms e=>h ⟨ms,by simpa using e⟩)
 obtain⟨T,y,rfl⟩:=ValAt.iface (show ValAt w (λb=>b<w.heap.size) x u from i)
 clear i n a o m;unfold uY jR Ref.bOp Ref.zw Ref.zq Ref.bNo at l;unfold jR at f;unfold uY jR Ref.bOp Ref.zw Ref.zq Ref.bNo at c;go_enter func154,ntmps154
 go_wp2_with (go_at_call 97;refine l.mono ?_;rintro e H ⟨p,rfl,g⟩;have j:Below w.heap.size w H:=c.trans (g.mono (by simp;omega));have d:=xG (((Below.refl _ (w.alloc (.cells #[.string ⟨#[]⟩,.string ⟨#[]⟩,.slice none 0 0,.bool false] 241))).alloc (Nat.le_refl _) _).trans (g.mono (by simp)));have r0:=(ze d 0).1;have r:=(ze d 1).1;have t:=(ze d 2).1;have z:=(ze d 3).1;have I:=(ze d 0).2;have f1:=(ze d 1).2;have f2:=(ze d 2).2;have J:=(ze d 3).2;simp at r0 r t z;obtain⟨B,C,D,E⟩:=V7 (.string ⟨#[]⟩) (.string ⟨#[]⟩) (.slice none 0 0) (.bool false) r0 r t z)
 exact bodyPost_ret (v := .tuple #[.agg #[.string ⟨#[]⟩,.string ⟨#[]⟩,.slice none 0 0,.bool false],.iface 125 (.agg #[.string p])]) (by simp[results,results154,go_sem,B,C,D,E]) rfl
  ⟨_,_,rfl,.inr (.inl ⟨rfl,_,rfl⟩),(((j.setCell (Nat.le_refl _) _).setCell (Nat.le_refl _) _).setCell (Nat.le_refl _) _).setCell (Nat.le_refl _) _,World.ownsRow_nil _ _ _ _⟩
end Go.Proofs.YtdakgnaojakldaaGreatDoor
