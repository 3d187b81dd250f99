/- P -/
import Derived.Test.YtdakgnaojakldabGreatDoorT14
import Derived.Deep.DeepCutAuto
open Go.Proofs.Tryz
set_option maxRecDepth 100000
set_option maxHeartbeats 1000000
namespace Go.Proofs.YtdakgnaojakldabGreatDoor
open Go.RowKit
def opN:Nat->BA
 | 0=>⟨#[108,105,107,101]⟩
 | 1=>⟨#[115,97,109,101]⟩
 | 2=>⟨#[98,101,108,111,119]⟩
 | 3=>⟨#[117,110,100,101,114]⟩
 | _=>⟨#[97,98,115,101,110,116]⟩
def opL:Nat->Nat
 | 0=>209
 | 1=>211
 | 2=>213
 | 3=>215
 | _=>217
def opT:Nat->Nat
 | 0=>210
 | 1=>212
 | 2=>214
 | 3=>216
 | _=>218
def XO:List Value:=[.string (opN 0),.func (.func (opL 0)) #[] #[],.func (.func (opT 0)) #[] #[],.string (opN 1),.func (.func (opL 1)) #[] #[],.func (.func (opT 1)) #[] #[],.string (opN 2),.func (.func (opL 2)) #[] #[],.func (.func (opT 2)) #[] #[],
 .string (opN 3),.func (.func (opL 3)) #[] #[],.func (.func (opT 3)) #[] #[],.string (opN 4),.func (.func (opL 4)) #[] #[],.func (.func (opT 4)) #[] #[]]
def Zg(w:World):Prop:=∃t fr,w.heap[(6:Nat)]?=some (.cells XO.toArray t fr)
theorem Zg.below{w a:World}(h:Zg w)(b:Below w.heap.size w a):Zg a:=by
 obtain⟨t,fr,h⟩:=h;exact⟨t,fr,(b.block _ (Array.getElem?_eq_some_iff.1 h).1).trans h⟩
theorem II:(prog.info? 272).map (·.size)=some XO.toArray.size:=by kernel_rfl
theorem lt5{k:Nat}(h:k<5):k=0\/k=1\/k=2\/k=3\/k=4:=by omega
theorem Iz(W:World)(k:Nat)(a:k<5):(Instr.index 272 (.agg XO.toArray) (.int .i64 (k:Int))).run prog W = .ok (.agg #[.string (opN k),.func (.func (opL k)) #[] #[],.func (.func (opT k)) #[] #[]]) W:=by
 rcases lt5 a with rfl|rfl|rfl|rfl|rfl
 ·kernel_rfl
 ·kernel_rfl
 ·kernel_rfl
 ·kernel_rfl
 ·kernel_rfl
theorem Xc{w:World}{b:Nat}{h i j:Value}(a c d:Value)(e:w.cell? ⟨b,0,none⟩=some h)(f:w.cell? ⟨b,1,none⟩=some i)(g:w.cell? ⟨b,2,none⟩=some j) :
  (((w.setCell ⟨b,0,none⟩ a).setCell ⟨b,1,none⟩ c).setCell ⟨b,2,none⟩ d).cell? ⟨b,0,none⟩=some a/\(((w.setCell ⟨b,0,none⟩ a).setCell ⟨b,1,none⟩ c).setCell ⟨b,2,none⟩ d).cell? ⟨b,1,none⟩=some c/\(((w.setCell ⟨b,0,none⟩ a).setCell ⟨b,1,none⟩ c).setCell ⟨b,2,none⟩ d).cell? ⟨b,2,none⟩=some d:=by
 refine⟨?_,?_,?_⟩
 ·rw[World.cell?_setCell_other _ _ _ _ (by simp),World.cell?_setCell_other _ _ _ _ (by simp),World.cell?_setCell_same _ _ _ e]
 ·rw[World.cell?_setCell_other _ _ _ _ (by simp)];exact World.cell?_setCell_same _ _ _ ((World.cell?_setCell_other _ _ _ _ (by simp)).trans f)
 ·exact World.cell?_setCell_same _ _ _ ((World.cell?_setCell_other _ _ _ _ (by simp)).trans ((World.cell?_setCell_other _ _ _ _ (by simp)).trans g))
def yz(name:BA):Option Nat:=zm (λk=>(opN k).toList==name.toList) 5
def opV:Option Nat->Value
 | some k => .agg #[.string (opN k),.func (.func (opL k)) #[] #[],.func (.func (opT k)) #[] #[]]
 | none => .agg #[.string ⟨#[]⟩,.nilFunc,.nilFunc]
theorem UU(name:BA)(w:World)(C:Zg w) :
  Calls prog 127 #[.string name] w λe U=>e = .returned (.tuple #[opV (yz name),.bool (yz name).isSome])/\Below w.heap.size w U:=by
 have l:=nB w (.cells #[.string ⟨#[]⟩,.nilFunc,.nilFunc] 237);obtain⟨T,fr,u⟩:=C.below l;have c:=λW k H=>Iz W k H;have Y:=λW a g m=>run_store prog W a (.func (.func g) #[] #[]) m rfl;have Z:=λW a m=>run_store prog W a .nilFunc m rfl;have n:=II;obtain⟨A,t⟩:=Nm XO.toArray;rw[t] at u n;simp only[t] at c;obtain⟨F,hF⟩:=Nm (yz name);rw[hF];unfold yz at hF;have B:=hid hF;clear t C hF;go_enter func127,ntmps127
 go_wp2_with (refine wpList_load_row rfl 272 _ rfl 6 rfl T A fr _ u underlying272 rfl n ?_)
 clear u n
 go_loopw [7] (λx wr=>∃k:Nat,k<=5/\x = .int .i64 k/\(∀j,j<k->((opN j).toList==name.toList)=false)/\Below (w.alloc (.cells #[.string ⟨#[]⟩,.nilFunc,.nilFunc] 237)).heap.size (w.alloc (.cells #[.string ⟨#[]⟩,.nilFunc,.nilFunc] 237)) wr) (λx _=>5-(intOf x).toNat)
 case atStart=>exact⟨0,by omega,rfl,λj G=>by omega,Below.refl _ _⟩
 case round=>
  obtain⟨k,H,rfl,p,b⟩:=hrel;have h:=hid p;have i:=xU b;have r0:=(za i 0).1;have y:=(za i 1).1;have z:=(za i 2).1;have V:=(za i 0).2;have f1:=(za i 1).2;have f2:=(za i 2).2;have X:w.heap.size<wr.heap.size:=by have h1:=b.size;simp at h1;omega
  simp at r0 y z;clear p i
  by_cases hlt:k<5
  ·have Q:=λW=>c W k hlt;obtain⟨N,o⟩:=Nm (opN k);obtain⟨r,d⟩:∃N,opL k=N:=⟨_,rfl⟩;obtain⟨s,f⟩:∃N,opT k=N:=⟨_,rfl⟩;simp only[o,d,f] at Q;clear c;have P:w.heap.size≠wr.heap.size:=by omega
   cases heq:(N.toList==name.toList) with
   | false=>
    have q:Hid (∀j,j<k+1->((opN j).toList==name.toList)=false):=λj G=>by
     by_cases e:j=k
     ·subst e;rw[o];exact heq
     ·exact h.out j (by omega)
    clear o d f
    go_wp2
    go_roundw
    case rel=>exact⟨k+1,by omega,by go_num,q.out,b.alloc b.size _⟩
    case measure=>simp[intOf];omega
   | true=>
    have e:=kD (λk=>(opN k).toList==name.toList) 5 k hlt h.out (by show ((opN k).toList==name.toList)=true;rw[o];exact heq);rw[B.out] at e;have E:opV F = .agg #[.string N,.func (.func r) #[] #[],.func (.func s) #[] #[]]:=by rw[e];simp only[opV,o,d,f]
    have D:F.isSome=true:=by rw[e];rfl
    have M:=hid E;have L:=hid D;clear o d f e E D;obtain⟨I,J,K⟩:=Xc (.string N) (.func (.func r) #[] #[]) (.func (.func s) #[] #[]) r0 y z;have R:=λO=>zF I O;have S:=λO=>zF J O;have q2:=λO=>zF K O;clear I J K
    go_wp2
    exact bodyPost_ret (v := .tuple #[.agg #[.string N,.func (.func r) #[] #[],.func (.func s) #[] #[]],.bool true]) (by simp[results,results127,go_sem,R,S,q2]) rfl ⟨by rw[M.out,L.out],((((l.trans (b.mono (by simp))).setCell (Nat.le_refl _) _).setCell (Nat.le_refl _) _).setCell (Nat.le_refl _) _).alloc (by simp[World.setCell];omega) _⟩
  ·have e:=kE (λk=>(opN k).toList==name.toList) 5 (λj G=>h.out j (by omega));rw[B.out] at e;subst e
   go_wp2
   exact bodyPost_ret (v := .tuple #[.agg #[.string ⟨#[]⟩,.nilFunc,.nilFunc],.bool false]) (by simp[results,results127,go_sem,r0,y,z]) rfl ⟨rfl,(((l.trans (b.mono (by simp))).setCell (Nat.le_refl _) _).setCell (Nat.le_refl _) _).setCell (Nat.le_refl _) _⟩
def uQ:Option Rd.V->Option Nat
 | some (.str s)=>yz s
 | _=>none
def Vu(w:World)(x:Option Rd.V)(e:Ending)(a:World):Prop:=∃u,e = .returned (.tuple #[opV (uQ x),u])/\FV (if (uQ x).isSome then 0 else 1) u/\Below w.heap.size w a
theorem Im:yz ⟨#[]⟩=none:=by kernel_rfl
theorem PD{w:World}{x:Option Rd.V}{u:Value}(h:OAt w x u)(d:∀s,x≠some (.str s))(W:World):(Instr.typeAssert u 85 188 true).run prog W = .ok (.tuple #[.string ⟨#[]⟩,.bool false]) W:=by
 cases x with
 | none=>
  have a:u = .nilIface:=h;subst a;exact KD W
 | some v=>
  have c:ValAt w (λb=>b<w.heap.size) v u:=h
  cases c with
  | str s=>exact absurd rfl (d s)
  | word b=>exact KF _ W
  | list e=>exact KA _ W
  | obj ms=>exact KE _ W
theorem ib(x:Option Rd.V)(a:∀s,x≠some (.str s)):uQ x=none:=by
 match x with
 | none=>rfl
 | some (.str s)=>exact absurd rfl (a s)
 | some (.word b)=>rfl
 | some (.list vs)=>rfl
 | some (.obj ms)=>rfl
theorem lg(s:BA)(r:Bool)(u:Value)(w:World)(z:Zg w)(B:u = .nilIface\/∃T y,u = .iface T y)(E:∀W,(Instr.typeAssert u 85 188 true).run prog W = .ok (.tuple #[.string s,.bool r]) W)(A:yz s=none) :
  Calls prog 114 #[u] w λe C=>∃p,e = .returned (.tuple #[.agg #[.string ⟨#[]⟩,.nilFunc,.nilFunc],.iface 96 (.agg #[.string p])])/\Below w.heap.size w C:=by
 have f:=nB w (.cells #[.string ⟨#[]⟩,.nilFunc,.nilFunc] 237);have c:=UU s _ (z.below f);rw[A] at c;unfold opV at c;simp only[Option.isSome_none] at c;have D:=λW a m=>run_store prog W a .nilFunc m rfl;clear z A
 cases r with
 | true=>
  rcases B with rfl|⟨T,y,rfl⟩
  ·go_enter func114,ntmps114
   go_wp2_with (go_at_call 127;refine c.mono ?_;rintro e i ⟨rfl,b⟩;have d:=xU b;have r0:=(za d 0).1;have g:=(za d 1).1;have h:=(za d 2).1;have t:=(za d 0).2;have f1:=(za d 1).2;have f2:=(za d 2).2;simp at r0 g h;have x:w.heap.size<i.heap.size:=(by have h1:=b.size;simp at h1;omega);have j:w.heap.size≠i.heap.size:=(by omega);obtain⟨n,o,q⟩:=Xc (.string ⟨#[]⟩) .nilFunc .nilFunc r0 g h;have k:=λO=>zF n O;have l:=λO=>zF o O;have q2:=λO=>zF q O)
   exact bodyPost_ret (v := .tuple #[.agg #[.string ⟨#[]⟩,.nilFunc,.nilFunc],.iface 96 (.agg #[.string ⟨#[111,112]⟩])]) (by simp[results,results114,go_sem,k,l,q2]) rfl ⟨_,rfl,((((f.trans (b.mono (by simp))).setCell (Nat.le_refl _) _).setCell (Nat.le_refl _) _).setCell (Nat.le_refl _) _).alloc (by simp[World.setCell];omega) _⟩
  ·go_enter func114,ntmps114
   go_wp2_with (go_at_call 127;refine c.mono ?_;rintro e i ⟨rfl,b⟩;have d:=xU b;have r0:=(za d 0).1;have g:=(za d 1).1;have h:=(za d 2).1;have t:=(za d 0).2;have f1:=(za d 1).2;have f2:=(za d 2).2;simp at r0 g h;have x:w.heap.size<i.heap.size:=(by have h1:=b.size;simp at h1;omega);have j:w.heap.size≠i.heap.size:=(by omega);obtain⟨n,o,q⟩:=Xc (.string ⟨#[]⟩) .nilFunc .nilFunc r0 g h;have k:=λO=>zF n O;have l:=λO=>zF o O;have q2:=λO=>zF q O)
   exact bodyPost_ret (v := .tuple #[.agg #[.string ⟨#[]⟩,.nilFunc,.nilFunc],.iface 96 (.agg #[.string ⟨#[111,112]⟩])]) (by simp[results,results114,go_sem,k,l,q2]) rfl ⟨_,rfl,((((f.trans (b.mono (by simp))).setCell (Nat.le_refl _) _).setCell (Nat.le_refl _) _).setCell (Nat.le_refl _) _).alloc (by simp[World.setCell];omega) _⟩
 | false=>
  rcases B with rfl|⟨T,y,rfl⟩
  ·go_enter func114,ntmps114
   go_wp2_with (go_at_call 127;refine c.mono ?_;rintro e i ⟨rfl,b⟩;have d:=xU b;have r0:=(za d 0).1;have g:=(za d 1).1;have h:=(za d 2).1;have t:=(za d 0).2;have f1:=(za d 1).2;have f2:=(za d 2).2;simp at r0 g h;have x:w.heap.size<i.heap.size:=(by have h1:=b.size;simp at h1;omega);have j:w.heap.size≠i.heap.size:=(by omega);obtain⟨n,o,q⟩:=Xc (.string ⟨#[]⟩) .nilFunc .nilFunc r0 g h;have k:=λO=>zF n O;have l:=λO=>zF o O;have q2:=λO=>zF q O)
   exact bodyPost_ret (v := .tuple #[.agg #[.string ⟨#[]⟩,.nilFunc,.nilFunc],.iface 96 (.agg #[.string ⟨#[111,112]⟩])]) (by simp[results,results114,go_sem,k,l,q2]) rfl ⟨_,rfl,((((f.trans (b.mono (by simp))).setCell (Nat.le_refl _) _).setCell (Nat.le_refl _) _).setCell (Nat.le_refl _) _).alloc (by simp[World.setCell];omega) _⟩
  ·go_enter func114,ntmps114
   go_wp2_with (go_at_call 127;refine c.mono ?_;rintro e i ⟨rfl,b⟩;have d:=xU b;have r0:=(za d 0).1;have g:=(za d 1).1;have h:=(za d 2).1;have t:=(za d 0).2;have f1:=(za d 1).2;have f2:=(za d 2).2;simp at r0 g h;have x:w.heap.size<i.heap.size:=(by have h1:=b.size;simp at h1;omega);have j:w.heap.size≠i.heap.size:=(by omega);obtain⟨n,o,q⟩:=Xc (.string ⟨#[]⟩) .nilFunc .nilFunc r0 g h;have k:=λO=>zF n O;have l:=λO=>zF o O;have q2:=λO=>zF q O)
   exact bodyPost_ret (v := .tuple #[.agg #[.string ⟨#[]⟩,.nilFunc,.nilFunc],.iface 96 (.agg #[.string ⟨#[111,112]⟩])]) (by simp[results,results114,go_sem,k,l,q2]) rfl ⟨_,rfl,((((f.trans (b.mono (by simp))).setCell (Nat.le_refl _) _).setCell (Nat.le_refl _) _).setCell (Nat.le_refl _) _).alloc (by simp[World.setCell];omega) _⟩
theorem Mg(s:BA)(k:Nat)(w:World)(h:Zg w)(i:yz s=some k) :
  Calls prog 114 #[.iface 188 (.string s)] w λe x=>e = .returned (.tuple #[opV (some k),.nilIface])/\Below w.heap.size w x:=by
 have f:=nB w (.cells #[.string ⟨#[]⟩,.nilFunc,.nilFunc] 237);have c:=UU s _ (h.below f);rw[i] at c;unfold opV at c |-;simp only[Option.isSome_some] at c |-;generalize opN k=N at c |-;generalize opL k=fl at c |-;generalize opT k=ft at c |-;have B:=YU;have A:=λW a g m=>run_store prog W a (.func (.func g) #[] #[]) m rfl;clear h i;go_enter func114,ntmps114
 go_wp2_with (go_at_call 127;refine c.mono ?_;rintro e n ⟨rfl,b⟩;have d:=xU b;have r0:=(za d 0).1;have j:=(za d 1).1;have l:=(za d 2).1;have y:=(za d 0).2;have f1:=(za d 1).2;have f2:=(za d 2).2;simp at r0 j l;have z:w.heap.size<n.heap.size:=(by have h1:=b.size;simp at h1;omega);have o:w.heap.size≠n.heap.size:=(by omega);obtain⟨r,t,u⟩:=Xc (.string N) (.func (.func fl) #[] #[]) (.func (.func ft) #[] #[]) r0 j l;have p:=λO=>zF r O;have q:=λO=>zF t O;have q2:=λO=>zF u O)
 exact bodyPost_ret (v := .tuple #[.agg #[.string N,.func (.func fl) #[] #[],.func (.func ft) #[] #[]],.nilIface]) (by simp[results,results114,go_sem,p,q,q2]) rfl ⟨rfl,((((f.trans (b.mono (by simp))).setCell (Nat.le_refl _) _).setCell (Nat.le_refl _) _).setCell (Nat.le_refl _) _).alloc (by simp[World.setCell];omega) _⟩
theorem Mf(x:Option Rd.V)(u:Value)(w:World)(d:Zg w)(f:OAt w x u):Calls prog 114 #[u] w (Vu w x):=by
 by_cases h:∃s,x=some (.str s)
 ·obtain⟨s,rfl⟩:=h;have i:ValAt w (λb=>b<w.heap.size) (.str s) u:=f
  cases i with
  | str _=>
   cases hn:yz s with
   | none=>
    refine (lg s true _ w d (.inr ⟨_,_,rfl⟩) (λW=>YU _ W) hn).mono ?_;rintro e g ⟨p,rfl,c⟩;refine⟨.iface 96 (.agg #[.string p]),?_,?_,c⟩
    ·show _=Ending.returned (.tuple #[opV (yz s),_]);rw[hn];rfl
    ·show FV (if (yz s).isSome then 0 else 1) _;rw[hn];exact .inr (.inl ⟨rfl,p,rfl⟩)
   | some k=>
    refine (Mg s k w d hn).mono ?_;rintro e g ⟨rfl,c⟩;refine⟨.nilIface,?_,?_,c⟩
    ·show _=Ending.returned (.tuple #[opV (yz s),_]);rw[hn]
    ·show FV (if (yz s).isSome then 0 else 1) _;rw[hn];exact .inl ⟨rfl,rfl⟩
 ·have a:∀s,x≠some (.str s):=λs e=>h ⟨s,e⟩;refine (lg ⟨#[]⟩ false u w d f.form (λW=>PD f a W) Im).mono ?_;rintro e g ⟨p,rfl,c⟩;refine⟨.iface 96 (.agg #[.string p]),?_,?_,c⟩
  ·rw[ib x a];rfl
  ·rw[ib x a];exact .inr (.inl ⟨rfl,p,rfl⟩)
theorem Iy{w:World}(g:vv w)(k:Nat)(h:k<5):Looks (opL k) (Rd.qF (opN k)) (Rd.zU (opN k)) w:=by
 rcases lt5 h with rfl|rfl|rfl|rfl|rfl
 ·have a:Ref.qD (opN 0)=true:=by kernel_rfl
  have c:Rd.qF (opN 0)=Rd.qj Rd.strOf:=by funext x;unfold Rd.qF;rw[a];rfl
  have d:Rd.zU (opN 0)=Rd.qf Rd.xB:=by funext x;unfold Rd.zU;rw[a];rfl
  rw[c,d];exact FY g
 ·have a:Ref.qD (opN 1)=false:=by kernel_rfl
  have b:Rd.xJ (opN 1)=true:=by kernel_rfl
  have c:Rd.qF (opN 1)=Rd.qj (Rd.ql Rd.short):=by funext x;unfold Rd.qF;rw[a,b];rfl
  have d:Rd.zU (opN 1)=Rd.qf (Rd.zL Rd.short):=by funext x;unfold Rd.zU;rw[a,b];rfl
  rw[c,d];exact MZ g
 ·have a:Ref.qD (opN 2)=false:=by kernel_rfl
  have b:Rd.xJ (opN 2)=false:=by kernel_rfl
  have e:Rd.yu (opN 2)=true:=by kernel_rfl
  have c:Rd.qF (opN 2)=Rd.qj (Rd.ql Ref.qE):=by funext x;unfold Rd.qF;rw[a,b,e];rfl
  have d:Rd.zU (opN 2)=Rd.qf (Rd.zL Ref.qE):=by funext x;unfold Rd.zU;rw[a,b,e];rfl
  rw[c,d];exact rQ g
 ·have a:Ref.qD (opN 3)=false:=by kernel_rfl
  have b:Rd.xJ (opN 3)=false:=by kernel_rfl
  have e:Rd.yu (opN 3)=false:=by kernel_rfl
  have f:Rd.uf (opN 3)=true:=by kernel_rfl
  have c:Rd.qF (opN 3)=Rd.qj (Rd.ql Rd.filled):=by funext x;unfold Rd.qF;rw[a,b,e,f];rfl
  have d:Rd.zU (opN 3)=Rd.qf (Rd.zL Rd.filled):=by funext x;unfold Rd.zU;rw[a,b,e,f];rfl
  rw[c,d];exact Ri g
 ·have a:Ref.qD (opN 4)=false:=by kernel_rfl
  have b:Rd.xJ (opN 4)=false:=by kernel_rfl
  have e:Rd.yu (opN 4)=false:=by kernel_rfl
  have f:Rd.uf (opN 4)=false:=by kernel_rfl
  have c:Rd.qF (opN 4)=λ_=>[]:=by funext x;unfold Rd.qF;rw[a,b,e,f];rfl
  have d:Rd.zU (opN 4)=λx=>if x.isNone then 0 else 1:=by funext x;unfold Rd.zU;rw[a,b,e,f];rfl
  rw[c,d];exact om
theorem UT{s:BA}{k:Nat}(h:yz s=some k):k<5/\opN k=s/\(Ref.jK s||Ref.xI s)=true:=by
 obtain⟨a,b,_⟩:=Jq h
 have e:opN k=s:=by
  have:(opN k).toList=s.toList:=by simpa using b
  rw[ByteArray.toList_eq,ByteArray.toList_eq] at this;exact ByteArray.ext (Array.toList_inj.1 this)
 refine⟨a,e,?_⟩;rw[<- e]
 rcases lt5 a with rfl|rfl|rfl|rfl|rfl
 ·kernel_rfl
 ·kernel_rfl
 ·kernel_rfl
 ·kernel_rfl
 ·kernel_rfl
theorem Io{s:BA}(h:yz s=none):(Ref.jK s||Ref.xI s)=false:=by
 have a:=Yv h;have b:=a 0 (by decide);have c:=a 1 (by decide);have d:=a 2 (by decide);have e:=a 3 (by decide);have f:=a 4 (by decide);unfold Ref.jK Ref.xI;simp only[opN] at b c d e f;rw[ByteArray.toList_eq] at b c d e f;rw[Bool.beq_comm] at b c d e f;rw[c,e,d,b,f]
 rfl
structure zX where
 op:BA
 key:BA
 vals:List BA
 no:Bool
def kI:zX:=⟨⟨#[]⟩,⟨#[]⟩,[],false⟩
def yG:Rd.V->zX
 | .obj ms=>if Rd.zJ ms [Ref.bOp,Ref.zt,Ref.zy,Ref.bNo] then (match uQ (Rd.zf ms Ref.bOp) with
  | some k=>⟨opN k,Rd.ql Ref.zM (Rd.zf ms Ref.zt),Rd.qF (opN k) (Rd.zf ms Ref.zy),Rd.uh (Rd.zf ms Ref.bNo)⟩
  | none=>kI) else kI
 | _=>kI
theorem Jg(ms:List (BA×Rd.V)):Rd.condC (.obj ms)=if Rd.zJ ms [Ref.bOp,Ref.zt,Ref.zy,Ref.bNo] then (match uQ (Rd.zf ms Ref.bOp) with
  | some k=>Rd.zT [Rd.zL Ref.zM (Rd.zf ms Ref.zt),Rd.zU (opN k) (Rd.zf ms Ref.zy),Rd.cls (Rd.yx (Rd.zf ms Ref.bNo)) false]
  | none=>1) else 1:=by
 simp only[Rd.condC]
 cases Rd.zJ ms [Ref.bOp,Ref.zt,Ref.zy,Ref.bNo] with
 | false=>rfl
 | true=>
  simp only[if_true]
  match Rd.zf ms Ref.bOp with
  | none=>rfl
  | some (.word b)=>rfl
  | some (.list vs)=>rfl
  | some (.obj ms)=>rfl
  | some (.str s)=>
   simp only[Rd.opV,uQ]
   cases h:yz s with
   | none=>rw[Io h];rfl
   | some k=>
    obtain⟨_,e,a⟩:=UT h;simp only[a,if_true,e]
def X6(w:World)(v:Rd.V)(e:Ending)(b:World):Prop:=
 ∃a u,e = .returned (.tuple #[.agg #[.string (yG v).op,.string (yG v).key,a,.bool (yG v).no],u])/\FV (Rd.condC v) u/\Below w.heap.size w b/\b.ownsRow w.heap.size 9 1 a (yG v).vals.length ((yG v).vals.map Value.string)
structure qR (w:World):Prop where
 d:vv w
 ops:Zg w
theorem qR.below{w b:World}(h:qR w)(a:Below w.heap.size w b):qR b:=⟨h.d.below a,h.ops.below a⟩
theorem Er(w:World):Y2 29 #[] Ref.zM 4000 w:=λW s a _=>JC s W (by unfold maxLen;omega)
def vP:Obj := .cells #[.string ⟨#[]⟩,.string ⟨#[]⟩,.slice none 0 0,.bool false] 200
def Zk:Obj := .cells #[.string Ref.bOp,.string Ref.zt,.string Ref.zy,.string Ref.bNo] 9
theorem Kj{w:World}{b:Nat}{j k l m:Value}(a c d e:Value)(f:w.cell? ⟨b,0,none⟩=some j)(g:w.cell? ⟨b,1,none⟩=some k)(h:w.cell? ⟨b,2,none⟩=some l)(i:w.cell? ⟨b,3,none⟩=some m) :
  ((((w.setCell ⟨b,0,none⟩ a).setCell ⟨b,1,none⟩ c).setCell ⟨b,2,none⟩ d).setCell ⟨b,3,none⟩ e).cell? ⟨b,0,none⟩=some a/\((((w.setCell ⟨b,0,none⟩ a).setCell ⟨b,1,none⟩ c).setCell ⟨b,2,none⟩ d).setCell ⟨b,3,none⟩ e).cell? ⟨b,1,none⟩=some c /\
  ((((w.setCell ⟨b,0,none⟩ a).setCell ⟨b,1,none⟩ c).setCell ⟨b,2,none⟩ d).setCell ⟨b,3,none⟩ e).cell? ⟨b,2,none⟩=some d/\((((w.setCell ⟨b,0,none⟩ a).setCell ⟨b,1,none⟩ c).setCell ⟨b,2,none⟩ d).setCell ⟨b,3,none⟩ e).cell? ⟨b,3,none⟩=some e:=by
 obtain⟨n,o,p⟩:=Xc a c d f g h;refine⟨?_,?_,?_,?_⟩
 ·rw[World.cell?_setCell_other _ _ _ _ (by simp)];exact n
 ·rw[World.cell?_setCell_other _ _ _ _ (by simp)];exact o
 ·rw[World.cell?_setCell_other _ _ _ _ (by simp)];exact p
 ·exact World.cell?_setCell_same _ _ _ ((World.cell?_setCell_other _ _ _ _ (by simp)).trans ((World.cell?_setCell_other _ _ _ _ (by simp)).trans ((World.cell?_setCell_other _ _ _ _ (by simp)).trans i)))
theorem fZ(w:World)(a b c d:BA)(t:TypeId):vo (w.alloc (.cells #[.string a,.string b,.string c,.string d] t)) (some ⟨w.heap.size,0,none⟩) [a,b,c,d]:=by
 have h:=heap_alloc_new w (.cells #[.string a,.string b,.string c,.string d] t);refine .inr ⟨w.heap.size,0,rfl,λj e=>?_⟩;simp only[List.length_cons,List.length_nil] at e;rw[Nat.zero_add,(za h j).1]
 have:j=0\/j=1\/j=2\/j=3:=by omega
 rcases this with rfl|rfl|rfl|rfl<;>rfl
theorem LX(x:Rd.V)(u:Value)(w:World)(i:OAt w (some x) u)(n:Rd.Good 4000 x)(a:∀ms,x = .obj ms->Rd.zJ ms [Ref.bOp,Ref.zt,Ref.zy,Ref.bNo]=false) :
  Calls prog 93 #[u] w (X6 w x):=by
 have o:yG x=kI:=by
  match x with
  | .str s=>rfl
  | .word b=>rfl
  | .list G=>rfl
  | .obj ms=>simp only[yG];rw[a ms rfl];rfl
 have m:Rd.condC x=1:=by
  match x with
  | .str s=>rfl
  | .word b=>rfl
  | .list G=>rfl
  | .obj ms=>rw[Jg,a ms rfl];rfl
 unfold X6;rw[o,m];have f:=nB w vP;have c:=f.alloc (by simp) Zk
 have l:Calls prog 56 #[u,.slice (some ⟨w.heap.size+1,0,none⟩) 4 4] ((w.alloc vP).alloc Zk) (YZ ((w.alloc vP).alloc Zk)):=by
  by_cases h:∃ms,x = .obj ms
  ·obtain⟨ms,rfl⟩:=h;obtain⟨F,ao,cap,rfl,A⟩:=XL i;have k:ms.length<=4000:=by cases n with|obj _ h=>exact h
   have q:=fZ (w.alloc vP) Ref.bOp Ref.zt Ref.zy Ref.bNo 9;rw[World.size_alloc] at q
   have:=YO ms F ao cap [Ref.bOp,Ref.zt,Ref.zy,Ref.bNo] (some ⟨w.heap.size+1,0,none⟩) 4 ((w.alloc vP).alloc Zk) (by simp) k q (A.below c) false (a ms rfl)
   simpa using this
  ·exact iZ (some x) u 4 _ 4 _ (i.below c) (λms e=>h ⟨ms,by simpa using e⟩)
 obtain⟨T,y,rfl⟩:=ValAt.iface (show ValAt w (λb=>b<w.heap.size) x u from i)
 clear i n a o m;unfold Zk vP Ref.bOp Ref.zt Ref.zy Ref.bNo at l;unfold vP at f;unfold Zk vP Ref.bOp Ref.zt Ref.zy Ref.bNo at c;go_enter func93,ntmps93
 go_wp2_with (go_at_call 56;refine l.mono ?_;rintro e H ⟨p,rfl,g⟩;have j:Below w.heap.size w H:=c.trans (g.mono (by simp;omega));have d:=xU (((Below.refl _ (w.alloc (.cells #[.string ⟨#[]⟩,.string ⟨#[]⟩,.slice none 0 0,.bool false] 200))).alloc (Nat.le_refl _) _).trans (g.mono (by simp)));have r0:=(za d 0).1;have r:=(za d 1).1;have t:=(za d 2).1;have z:=(za d 3).1;have I:=(za d 0).2;have f1:=(za d 1).2;have f2:=(za d 2).2;have J:=(za d 3).2;simp at r0 r t z;obtain⟨B,C,D,E⟩:=Kj (.string ⟨#[]⟩) (.string ⟨#[]⟩) (.slice none 0 0) (.bool false) r0 r t z)
 exact bodyPost_ret (v := .tuple #[.agg #[.string ⟨#[]⟩,.string ⟨#[]⟩,.slice none 0 0,.bool false],.iface 96 (.agg #[.string p])]) (by simp[results,results93,go_sem,B,C,D,E]) rfl
  ⟨_,_,rfl,.inr (.inl ⟨rfl,_,rfl⟩),(((j.setCell (Nat.le_refl _) _).setCell (Nat.le_refl _) _).setCell (Nat.le_refl _) _).setCell (Nat.le_refl _) _,World.ownsRow_nil _ _ _ _⟩
end Go.Proofs.YtdakgnaojakldabGreatDoor
