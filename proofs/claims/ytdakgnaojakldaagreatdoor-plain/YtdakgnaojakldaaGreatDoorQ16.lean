/- P -/
import Derived.Test.YtdakgnaojakldaaGreatDoorQ15
import Derived.Deep.DeepCutAuto
open Go.Proofs.Tryz
set_option maxRecDepth 100000
set_option maxHeartbeats 1000000
namespace Go.Proofs.YtdakgnaojakldaaGreatDoor
open Go.RowKit
def opN:Nat->BA
 | 0=>⟨#[108,105,107,101]⟩
 | 1=>⟨#[115,97,109,101]⟩
 | 2=>⟨#[98,101,108,111,119]⟩
 | 3=>⟨#[117,110,100,101,114]⟩
 | _=>⟨#[97,98,115,101,110,116]⟩
def opL:Nat->Nat
 | 0=>320
 | 1=>322
 | 2=>324
 | 3=>326
 | _=>328
def opT:Nat->Nat
 | 0=>321
 | 1=>323
 | 2=>325
 | 3=>327
 | _=>329
def JH:List Value:=[.string (opN 0),.func (.func (opL 0)) #[] #[],.func (.func (opT 0)) #[] #[],.string (opN 1),.func (.func (opL 1)) #[] #[],.func (.func (opT 1)) #[] #[],.string (opN 2),.func (.func (opL 2)) #[] #[],.func (.func (opT 2)) #[] #[],
 .string (opN 3),.func (.func (opL 3)) #[] #[],.func (.func (opT 3)) #[] #[],.string (opN 4),.func (.func (opL 4)) #[] #[],.func (.func (opT 4)) #[] #[]]
def Qt(w:World):Prop:=∃t fr,w.heap[(6:Nat)]?=some (.cells JH.toArray t fr)
theorem Qt.below{w a:World}(h:Qt w)(hb:Below w.heap.size w a):Qt a:=by
 obtain⟨t,fr,h⟩:=h;exact⟨t,fr,(hb.block _ (YU.1 h).1).trans h⟩
theorem OT:(prog.info? 402).map (·.size)=some JH.toArray.size:=by kernel_rfl
theorem lt5{k:Nat}(h:k<5):k=0\/k=1\/k=2\/k=3\/k=4:=by omega
theorem OI(W:World)(k:Nat)(a:k<5):(Instr.index 402 (.agg JH.toArray) (.int .i64 (k:Int))).run prog W = .ok (.agg #[.string (opN k),.func (.func (opL k)) #[] #[],.func (.func (opT k)) #[] #[]]) W:=by
 rcases lt5 a with rfl|rfl|rfl|rfl|rfl
 ·kernel_rfl
 ·kernel_rfl
 ·kernel_rfl
 ·kernel_rfl
 ·kernel_rfl
theorem YN{w:World}{b:Nat}{h i j:Value}(a c d:Value)(e:w.cell? ⟨b,0,none⟩=some h)(f:w.cell? ⟨b,1,none⟩=some i)(g:w.cell? ⟨b,2,none⟩=some j) :
  (((w.setCell ⟨b,0,none⟩ a).setCell ⟨b,1,none⟩ c).setCell ⟨b,2,none⟩ d).cell? ⟨b,0,none⟩=some a/\(((w.setCell ⟨b,0,none⟩ a).setCell ⟨b,1,none⟩ c).setCell ⟨b,2,none⟩ d).cell? ⟨b,1,none⟩=some c/\(((w.setCell ⟨b,0,none⟩ a).setCell ⟨b,1,none⟩ c).setCell ⟨b,2,none⟩ d).cell? ⟨b,2,none⟩=some d:=by
 refine⟨?_,?_,?_⟩
 ·rw[xQ _ _ _ _ (by simp),xQ _ _ _ _ (by simp),kU _ _ _ e]
 ·rw[xQ _ _ _ _ (by simp)];exact kU _ _ _ ((xQ _ _ _ _ (by simp)).trans f)
 ·exact kU _ _ _ ((xQ _ _ _ _ (by simp)).trans ((xQ _ _ _ _ (by simp)).trans g))
def jA(name:BA):Option Nat:=zw (λk=>(opN k).toList==name.toList) 5
def opV:Option Nat->Value
 | some k => .agg #[.string (opN k),.func (.func (opL k)) #[] #[],.func (.func (opT k)) #[] #[]]
 | none => .agg #[.string ⟨#[]⟩,.nilFunc,.nilFunc]
theorem dI(name:BA)(w:World)(C:Qt w) :
  Calls prog 232 #[.string name] w λe U=>e = .returned (.tuple #[opV (jA name),.bool (jA name).isSome])/\Below w.heap.size w U:=by
 have l:=nB w (.cells #[.string ⟨#[]⟩,.nilFunc,.nilFunc] 342);obtain⟨T,fr,u⟩:=C.below l;have c:=λW k H=>OI W k H;have Y:=λW a g m=>kE prog W a (.func (.func g) #[] #[]) m rfl;have Z:=λW a m=>kE prog W a .nilFunc m rfl;have n:=OT;obtain⟨A,t⟩:=Nm JH.toArray;rw[t] at u n;simp only[t] at c;obtain⟨F,hF⟩:=Nm (jA name);rw[hF];unfold jA at hF;have B:=hid hF;clear t C hF;go_enter func232,ntmps232
 go_wp2_with (refine wpList_load_row rfl 402 _ rfl 6 rfl T A fr _ u underlying402 rfl n ?_)
 clear u n
 go_loopw [7] (λx wr=>∃k:Nat,k<=5/\x = .int .i64 k/\(∀j,j<k->((opN j).toList==name.toList)=false)/\Below (w.alloc (.cells #[.string ⟨#[]⟩,.nilFunc,.nilFunc] 342)).heap.size (w.alloc (.cells #[.string ⟨#[]⟩,.nilFunc,.nilFunc] 342)) wr) (λx _=>5-(intOf x).toNat)
 case atStart=>exact⟨0,by omega,rfl,λj G=>by omega,zh _ _⟩
 case round=>
  obtain⟨k,H,rfl,p,b⟩:=hrel;have h:=hid p;have i:=yV b;have r0:=(zf i 0).1;have y:=(zf i 1).1;have z:=(zf i 2).1;have V:=(zf i 0).2;have f1:=(zf i 1).2;have f2:=(zf i 2).2;have X:w.heap.size<wr.heap.size:=by have h1:=b.size;simp at h1;omega
  simp at r0 y z;clear p i
  by_cases hlt:k<5
  ·have Q:=λW=>c W k hlt;obtain⟨N,o⟩:=Nm (opN k);obtain⟨r,d⟩:∃N,opL k=N:=⟨_,rfl⟩;obtain⟨s,f⟩:∃N,opT k=N:=⟨_,rfl⟩;simp only[o,d,f] at Q;clear c;have P:w.heap.size≠wr.heap.size:=by omega
   cases heq:(N.toList==name.toList) with
   | false=>
    have q:Hid (∀j,j<k+1->((opN j).toList==name.toList)=false):=λj G=>by
     by_cases e:j=k
     ·subst e;rw[o];exact heq
     ·exact h.out j (by omega)
    clear o d f
    go_wp2
    go_roundw
    case rel=>exact⟨k+1,by omega,by go_num,q.out,b.alloc b.size _⟩
    case measure=>simp[intOf];omega
   | true=>
    have e:=ZY (λk=>(opN k).toList==name.toList) 5 k hlt h.out (by show ((opN k).toList==name.toList)=true;rw[o];exact heq);rw[B.out] at e;have E:opV F = .agg #[.string N,.func (.func r) #[] #[],.func (.func s) #[] #[]]:=by rw[e];simp only[opV,o,d,f]
    have D:F.isSome=true:=by rw[e];rfl
    have M:=hid E;have L:=hid D;clear o d f e E D;obtain⟨I,J,K⟩:=YN (.string N) (.func (.func r) #[] #[]) (.func (.func s) #[] #[]) r0 y z;have R:=λO=>zD I O;have S:=λO=>zD J O;have q2:=λO=>zD K O;clear I J K
    go_wp2
    exact zS (v := .tuple #[.agg #[.string N,.func (.func r) #[] #[],.func (.func s) #[] #[]],.bool true]) (by simp[results,results232,go_sem,R,S,q2]) rfl ⟨by rw[M.out,L.out],((((l.trans (b.mono (by simp))).setCell (ze _) _).setCell (ze _) _).setCell (ze _) _).alloc (by simp[World.setCell];omega) _⟩
  ·have e:=ZZ (λk=>(opN k).toList==name.toList) 5 (λj G=>h.out j (by omega));rw[B.out] at e;subst e
   go_wp2
   exact zS (v := .tuple #[.agg #[.string ⟨#[]⟩,.nilFunc,.nilFunc],.bool false]) (by simp[results,results232,go_sem,r0,y,z]) rfl ⟨rfl,(((l.trans (b.mono (by simp))).setCell (ze _) _).setCell (ze _) _).setCell (ze _) _⟩
def ZB:Option Rd.V->Option Nat
 | some (.str s)=>jA s
 | _=>none
def KX(w:World)(x:Option Rd.V)(e:Ending)(a:World):Prop:=∃u,e = .returned (.tuple #[opV (ZB x),u])/\FV (if (ZB x).isSome then 0 else 1) u/\Below w.heap.size w a
theorem Oz:jA ⟨#[]⟩=none:=by kernel_rfl
theorem WH{w:World}{x:Option Rd.V}{u:Value}(h:OAt w x u)(d:∀s,x≠some (.str s))(W:World):(Instr.typeAssert u 114 270 true).run prog W = .ok (.tuple #[.string ⟨#[]⟩,.bool false]) W:=by
 cases x with
 | none=>
  have a:u = .nilIface:=h;subst a;exact fV W
 | some v=>
  have c:ValAt w (λb=>b<w.heap.size) v u:=h
  cases c with
  | str s=>exact absurd rfl (d s)
  | word b=>exact gm _ W
  | list e=>exact fU _ W
  | obj ms=>exact fZ _ W
theorem rR(x:Option Rd.V)(a:∀s,x≠some (.str s)):ZB x=none:=by
 match x with
 | none=>rfl
 | some (.str s)=>exact absurd rfl (a s)
 | some (.word b)=>rfl
 | some (.list vs)=>rfl
 | some (.obj ms)=>rfl
theorem tK(s:BA)(r:Bool)(u:Value)(w:World)(z:Qt w)(B:u = .nilIface\/∃T y,u = .iface T y)(E:∀W,(Instr.typeAssert u 114 270 true).run prog W = .ok (.tuple #[.string s,.bool r]) W)(A:jA s=none) :
  Calls prog 200 #[u] w λe C=>∃p,e = .returned (.tuple #[.agg #[.string ⟨#[]⟩,.nilFunc,.nilFunc],.iface 125 (.agg #[.string p])])/\Below w.heap.size w C:=by
 have f:=nB w (.cells #[.string ⟨#[]⟩,.nilFunc,.nilFunc] 342);have c:=dI s _ (z.below f);rw[A] at c;unfold opV at c;simp only[kS] at c;have D:=λW a m=>kE prog W a .nilFunc m rfl;clear z A
 cases r with
 | true=>
  rcases B with rfl|⟨T,y,rfl⟩
  ·go_enter func200,ntmps200
   go_wp2_with (go_at_call 232;refine c.mono ?_;rintro e i ⟨rfl,b⟩;have d:=yV b;have r0:=(zf d 0).1;have g:=(zf d 1).1;have h:=(zf d 2).1;have t:=(zf d 0).2;have f1:=(zf d 1).2;have f2:=(zf d 2).2;simp at r0 g h;have x:w.heap.size<i.heap.size:=(by have h1:=b.size;simp at h1;omega);have j:w.heap.size≠i.heap.size:=(by omega);obtain⟨n,o,q⟩:=YN (.string ⟨#[]⟩) .nilFunc .nilFunc r0 g h;have k:=λO=>zD n O;have l:=λO=>zD o O;have q2:=λO=>zD q O)
   exact zS (v := .tuple #[.agg #[.string ⟨#[]⟩,.nilFunc,.nilFunc],.iface 125 (.agg #[.string ⟨#[111,112]⟩])]) (by simp[results,results200,go_sem,k,l,q2]) rfl ⟨_,rfl,((((f.trans (b.mono (by simp))).setCell (ze _) _).setCell (ze _) _).setCell (ze _) _).alloc (by simp[World.setCell];omega) _⟩
  ·go_enter func200,ntmps200
   go_wp2_with (go_at_call 232;refine c.mono ?_;rintro e i ⟨rfl,b⟩;have d:=yV b;have r0:=(zf d 0).1;have g:=(zf d 1).1;have h:=(zf d 2).1;have t:=(zf d 0).2;have f1:=(zf d 1).2;have f2:=(zf d 2).2;simp at r0 g h;have x:w.heap.size<i.heap.size:=(by have h1:=b.size;simp at h1;omega);have j:w.heap.size≠i.heap.size:=(by omega);obtain⟨n,o,q⟩:=YN (.string ⟨#[]⟩) .nilFunc .nilFunc r0 g h;have k:=λO=>zD n O;have l:=λO=>zD o O;have q2:=λO=>zD q O)
   exact zS (v := .tuple #[.agg #[.string ⟨#[]⟩,.nilFunc,.nilFunc],.iface 125 (.agg #[.string ⟨#[111,112]⟩])]) (by simp[results,results200,go_sem,k,l,q2]) rfl ⟨_,rfl,((((f.trans (b.mono (by simp))).setCell (ze _) _).setCell (ze _) _).setCell (ze _) _).alloc (by simp[World.setCell];omega) _⟩
 | false=>
  rcases B with rfl|⟨T,y,rfl⟩
  ·go_enter func200,ntmps200
   go_wp2_with (go_at_call 232;refine c.mono ?_;rintro e i ⟨rfl,b⟩;have d:=yV b;have r0:=(zf d 0).1;have g:=(zf d 1).1;have h:=(zf d 2).1;have t:=(zf d 0).2;have f1:=(zf d 1).2;have f2:=(zf d 2).2;simp at r0 g h;have x:w.heap.size<i.heap.size:=(by have h1:=b.size;simp at h1;omega);have j:w.heap.size≠i.heap.size:=(by omega);obtain⟨n,o,q⟩:=YN (.string ⟨#[]⟩) .nilFunc .nilFunc r0 g h;have k:=λO=>zD n O;have l:=λO=>zD o O;have q2:=λO=>zD q O)
   exact zS (v := .tuple #[.agg #[.string ⟨#[]⟩,.nilFunc,.nilFunc],.iface 125 (.agg #[.string ⟨#[111,112]⟩])]) (by simp[results,results200,go_sem,k,l,q2]) rfl ⟨_,rfl,((((f.trans (b.mono (by simp))).setCell (ze _) _).setCell (ze _) _).setCell (ze _) _).alloc (by simp[World.setCell];omega) _⟩
  ·go_enter func200,ntmps200
   go_wp2_with (go_at_call 232;refine c.mono ?_;rintro e i ⟨rfl,b⟩;have d:=yV b;have r0:=(zf d 0).1;have g:=(zf d 1).1;have h:=(zf d 2).1;have t:=(zf d 0).2;have f1:=(zf d 1).2;have f2:=(zf d 2).2;simp at r0 g h;have x:w.heap.size<i.heap.size:=(by have h1:=b.size;simp at h1;omega);have j:w.heap.size≠i.heap.size:=(by omega);obtain⟨n,o,q⟩:=YN (.string ⟨#[]⟩) .nilFunc .nilFunc r0 g h;have k:=λO=>zD n O;have l:=λO=>zD o O;have q2:=λO=>zD q O)
   exact zS (v := .tuple #[.agg #[.string ⟨#[]⟩,.nilFunc,.nilFunc],.iface 125 (.agg #[.string ⟨#[111,112]⟩])]) (by simp[results,results200,go_sem,k,l,q2]) rfl ⟨_,rfl,((((f.trans (b.mono (by simp))).setCell (ze _) _).setCell (ze _) _).setCell (ze _) _).alloc (by simp[World.setCell];omega) _⟩
theorem Rv(s:BA)(k:Nat)(w:World)(h:Qt w)(i:jA s=some k) :
  Calls prog 200 #[.iface 270 (.string s)] w λe x=>e = .returned (.tuple #[opV (some k),.nilIface])/\Below w.heap.size w x:=by
 have f:=nB w (.cells #[.string ⟨#[]⟩,.nilFunc,.nilFunc] 342);have c:=dI s _ (h.below f);rw[i] at c;unfold opV at c |-;simp only[vT] at c |-;generalize opN k=N at c |-;generalize opL k=fl at c |-;generalize opT k=ft at c |-;have B:=VS;have A:=λW a g m=>kE prog W a (.func (.func g) #[] #[]) m rfl;clear h i;go_enter func200,ntmps200
 go_wp2_with (go_at_call 232;refine c.mono ?_;rintro e n ⟨rfl,b⟩;have d:=yV b;have r0:=(zf d 0).1;have j:=(zf d 1).1;have l:=(zf d 2).1;have y:=(zf d 0).2;have f1:=(zf d 1).2;have f2:=(zf d 2).2;simp at r0 j l;have z:w.heap.size<n.heap.size:=(by have h1:=b.size;simp at h1;omega);have o:w.heap.size≠n.heap.size:=(by omega);obtain⟨r,t,u⟩:=YN (.string N) (.func (.func fl) #[] #[]) (.func (.func ft) #[] #[]) r0 j l;have p:=λO=>zD r O;have q:=λO=>zD t O;have q2:=λO=>zD u O)
 exact zS (v := .tuple #[.agg #[.string N,.func (.func fl) #[] #[],.func (.func ft) #[] #[]],.nilIface]) (by simp[results,results200,go_sem,p,q,q2]) rfl ⟨rfl,((((f.trans (b.mono (by simp))).setCell (ze _) _).setCell (ze _) _).setCell (ze _) _).alloc (by simp[World.setCell];omega) _⟩
theorem Ru(x:Option Rd.V)(u:Value)(w:World)(c:Qt w)(d:OAt w x u):Calls prog 200 #[u] w (KX w x):=by
 by_cases h:∃s,x=some (.str s)
 ·obtain⟨s,rfl⟩:=h;have g:ValAt w (λb=>b<w.heap.size) (.str s) u:=d
  cases g with
  | str _=>
   cases hn:jA s with
   | none=>
    refine (tK s true _ w c (.inr ⟨_,_,rfl⟩) (λW=>VS _ W) hn).mono ?_;rintro e f ⟨p,rfl,hb⟩;refine⟨.iface 125 (.agg #[.string p]),?_,?_,hb⟩
    ·show _=Ending.returned (.tuple #[opV (jA s),_]);rw[hn];rfl
    ·show FV (if (jA s).isSome then 0 else 1) _;rw[hn];exact .inr (.inl ⟨rfl,p,rfl⟩)
   | some k=>
    refine (Rv s k w c hn).mono ?_;rintro e f ⟨rfl,hb⟩;refine⟨.nilIface,?_,?_,hb⟩
    ·show _=Ending.returned (.tuple #[opV (jA s),_]);rw[hn]
    ·show FV (if (jA s).isSome then 0 else 1) _;rw[hn];exact .inl ⟨rfl,rfl⟩
 ·have a:∀s,x≠some (.str s):=λs e=>h ⟨s,e⟩;refine (tK ⟨#[]⟩ false u w c d.form (λW=>WH d a W) Oz).mono ?_;rintro e f ⟨p,rfl,hb⟩;refine⟨.iface 125 (.agg #[.string p]),?_,?_,hb⟩
  ·rw[rR x a];rfl
  ·rw[rR x a];exact .inr (.inl ⟨rfl,p,rfl⟩)
theorem OH{w:World}(g:uP w)(k:Nat)(h:k<5):Looks (opL k) (Rd.xg (opN k)) (Rd.qx (opN k)) w:=by
 rcases lt5 h with rfl|rfl|rfl|rfl|rfl
 ·have a:Ref.xw (opN 0)=true:=by kernel_rfl
  have c:Rd.xg (opN 0)=Rd.qL Rd.strOf:=by funext x;unfold Rd.xg;rw[a];rfl
  have d:Rd.qx (opN 0)=Rd.qG Rd.yg:=by funext x;unfold Rd.qx;rw[a];rfl
  rw[c,d];exact MM g
 ·have a:Ref.xw (opN 1)=false:=by kernel_rfl
  have b:Rd.yI (opN 1)=true:=by kernel_rfl
  have c:Rd.xg (opN 1)=Rd.qL (Rd.qM Rd.short):=by funext x;unfold Rd.xg;rw[a,b];rfl
  have d:Rd.qx (opN 1)=Rd.qG (Rd.qd Rd.short):=by funext x;unfold Rd.qx;rw[a,b];rfl
  rw[c,d];exact Sm g
 ·have a:Ref.xw (opN 2)=false:=by kernel_rfl
  have b:Rd.yI (opN 2)=false:=by kernel_rfl
  have e:Rd.jw (opN 2)=true:=by kernel_rfl
  have c:Rd.xg (opN 2)=Rd.qL (Rd.qM Ref.xe):=by funext x;unfold Rd.xg;rw[a,b,e];rfl
  have d:Rd.qx (opN 2)=Rd.qG (Rd.qd Ref.xe):=by funext x;unfold Rd.qx;rw[a,b,e];rfl
  rw[c,d];exact Dh g
 ·have a:Ref.xw (opN 3)=false:=by kernel_rfl
  have b:Rd.yI (opN 3)=false:=by kernel_rfl
  have e:Rd.jw (opN 3)=false:=by kernel_rfl
  have f:Rd.Ze (opN 3)=true:=by kernel_rfl
  have c:Rd.xg (opN 3)=Rd.qL (Rd.qM Rd.filled):=by funext x;unfold Rd.xg;rw[a,b,e,f];rfl
  have d:Rd.qx (opN 3)=Rd.qG (Rd.qd Rd.filled):=by funext x;unfold Rd.qx;rw[a,b,e,f];rfl
  rw[c,d];exact zad g
 ·have a:Ref.xw (opN 4)=false:=by kernel_rfl
  have b:Rd.yI (opN 4)=false:=by kernel_rfl
  have e:Rd.jw (opN 4)=false:=by kernel_rfl
  have f:Rd.Ze (opN 4)=false:=by kernel_rfl
  have c:Rd.xg (opN 4)=λ_=>[]:=by funext x;unfold Rd.xg;rw[a,b,e,f];rfl
  have d:Rd.qx (opN 4)=λx=>if x.isNone then 0 else 1:=by funext x;unfold Rd.qx;rw[a,b,e,f];rfl
  rw[c,d];exact Bp
theorem dH{s:BA}{k:Nat}(h:jA s=some k):k<5/\opN k=s/\(Ref.ui s||Ref.yf s)=true:=by
 obtain⟨a,b,_⟩:=UI h
 have e:opN k=s:=by
  have:(opN k).toList=s.toList:=by simpa using b
  rw[Qj,Qj] at this;exact jk (Xy.1 this)
 refine⟨a,e,?_⟩;rw[<- e]
 rcases lt5 a with rfl|rfl|rfl|rfl|rfl
 ·kernel_rfl
 ·kernel_rfl
 ·kernel_rfl
 ·kernel_rfl
 ·kernel_rfl
theorem OA{s:BA}(h:jA s=none):(Ref.ui s||Ref.yf s)=false:=by
 have a:=Vr h;have b:=a 0 (by decide);have c:=a 1 (by decide);have d:=a 2 (by decide);have e:=a 3 (by decide);have f:=a 4 (by decide);unfold Ref.ui Ref.yf;simp only[opN] at b c d e f;rw[Qj] at b c d e f;rw[Bool.beq_comm] at b c d e f;rw[c,e,d,b,f]
 rfl
structure zU where
 op:BA
 key:BA
 vals:List BA
 no:Bool
def Z6:zU:=⟨⟨#[]⟩,⟨#[]⟩,[],false⟩
def jc:Rd.V->zU
 | .obj ms=>if Rd.qc ms [Ref.bOp,Ref.zx,Ref.zz,Ref.bNo] then (match ZB (Rd.zk ms Ref.bOp) with
  | some k=>⟨opN k,Rd.qM Ref.qj (Rd.zk ms Ref.zx),Rd.xg (opN k) (Rd.zk ms Ref.zz),Rd.YI (Rd.zk ms Ref.bNo)⟩
  | none=>Z6) else Z6
 | _=>Z6
theorem Uv(ms:List (BA×Rd.V)):Rd.condC (.obj ms)=if Rd.qc ms [Ref.bOp,Ref.zx,Ref.zz,Ref.bNo] then (match ZB (Rd.zk ms Ref.bOp) with
  | some k=>Rd.qo [Rd.qd Ref.qj (Rd.zk ms Ref.zx),Rd.qx (opN k) (Rd.zk ms Ref.zz),Rd.cls (Rd.kC (Rd.zk ms Ref.bNo)) false]
  | none=>1) else 1:=by
 simp only[Rd.condC]
 cases Rd.qc ms [Ref.bOp,Ref.zx,Ref.zz,Ref.bNo] with
 | false=>rfl
 | true=>
  simp only[qh]
  match Rd.zk ms Ref.bOp with
  | none=>rfl
  | some (.word b)=>rfl
  | some (.list vs)=>rfl
  | some (.obj ms)=>rfl
  | some (.str s)=>
   simp only[Rd.opV,ZB]
   cases h:jA s with
   | none=>rw[OA h];rfl
   | some k=>
    obtain⟨_,e,a⟩:=dH h;simp only[a,qh,e]
def JY(w:World)(v:Rd.V)(e:Ending)(b:World):Prop:=
 ∃a u,e = .returned (.tuple #[.agg #[.string (jc v).op,.string (jc v).key,a,.bool (jc v).no],u])/\FV (Rd.condC v) u/\Below w.heap.size w b/\b.ownsRow w.heap.size 9 1 a (jc v).vals.length ((jc v).vals.map Value.string)
structure xH (w:World):Prop where
 d:uP w
 ops:Qt w
theorem xH.below{w a:World}(h:xH w)(hb:Below w.heap.size w a):xH a:=⟨h.d.below hb,h.ops.below hb⟩
theorem IY(w:World):Ua 82 #[] Ref.qj 4000 w:=λW s a _=>UO s W (by unfold maxLen;omega)
def kL:Obj := .cells #[.string ⟨#[]⟩,.string ⟨#[]⟩,.slice none 0 0,.bool false] 241
def QA:Obj := .cells #[.string Ref.bOp,.string Ref.zx,.string Ref.zz,.string Ref.bNo] 9
theorem fe{w:World}{b:Nat}{j k l m:Value}(a c d e:Value)(f:w.cell? ⟨b,0,none⟩=some j)(g:w.cell? ⟨b,1,none⟩=some k)(h:w.cell? ⟨b,2,none⟩=some l)(i:w.cell? ⟨b,3,none⟩=some m) :
  ((((w.setCell ⟨b,0,none⟩ a).setCell ⟨b,1,none⟩ c).setCell ⟨b,2,none⟩ d).setCell ⟨b,3,none⟩ e).cell? ⟨b,0,none⟩=some a/\((((w.setCell ⟨b,0,none⟩ a).setCell ⟨b,1,none⟩ c).setCell ⟨b,2,none⟩ d).setCell ⟨b,3,none⟩ e).cell? ⟨b,1,none⟩=some c /\
  ((((w.setCell ⟨b,0,none⟩ a).setCell ⟨b,1,none⟩ c).setCell ⟨b,2,none⟩ d).setCell ⟨b,3,none⟩ e).cell? ⟨b,2,none⟩=some d/\((((w.setCell ⟨b,0,none⟩ a).setCell ⟨b,1,none⟩ c).setCell ⟨b,2,none⟩ d).setCell ⟨b,3,none⟩ e).cell? ⟨b,3,none⟩=some e:=by
 obtain⟨n,o,p⟩:=YN a c d f g h;refine⟨?_,?_,?_,?_⟩
 ·rw[xQ _ _ _ _ (by simp)];exact n
 ·rw[xQ _ _ _ _ (by simp)];exact o
 ·rw[xQ _ _ _ _ (by simp)];exact p
 ·exact kU _ _ _ ((xQ _ _ _ _ (by simp)).trans ((xQ _ _ _ _ (by simp)).trans ((xQ _ _ _ _ (by simp)).trans i)))
theorem pJ(w:World)(a b c d:BA)(t:TypeId):uO (w.alloc (.cells #[.string a,.string b,.string c,.string d] t)) (some ⟨w.heap.size,0,none⟩) [a,b,c,d]:=by
 have h:=zM w (.cells #[.string a,.string b,.string c,.string d] t);refine .inr ⟨w.heap.size,0,rfl,λj e=>?_⟩;simp only[jl,uo] at e;rw[qO,(zf h j).1]
 have:j=0\/j=1\/j=2\/j=3:=by omega
 rcases this with rfl|rfl|rfl|rfl<;>rfl
theorem Rn(x:Rd.V)(u:Value)(w:World)(i:OAt w (some x) u)(n:Rd.Good 4000 x)(a:∀ms,x = .obj ms->Rd.qc ms [Ref.bOp,Ref.zx,Ref.zz,Ref.bNo]=false) :
  Calls prog 154 #[u] w (JY w x):=by
 have o:jc x=Z6:=by
  match x with
  | .str s=>rfl
  | .word b=>rfl
  | .list G=>rfl
  | .obj ms=>simp only[jc];rw[a ms rfl];rfl
 have m:Rd.condC x=1:=by
  match x with
  | .str s=>rfl
  | .word b=>rfl
  | .list G=>rfl
  | .obj ms=>rw[Uv,a ms rfl];rfl
 unfold JY;rw[o,m];have f:=nB w kL;have c:=f.alloc (by simp) QA
 have l:Calls prog 97 #[u,.slice (some ⟨w.heap.size+1,0,none⟩) 4 4] ((w.alloc kL).alloc QA) (V4 ((w.alloc kL).alloc QA)):=by
  by_cases h:∃ms,x = .obj ms
  ·obtain⟨ms,rfl⟩:=h;obtain⟨F,ao,cap,rfl,A⟩:=JE i;have k:ms.length<=4000:=by cases n with|obj _ h=>exact h
   have q:=pJ (w.alloc kL) Ref.bOp Ref.zx Ref.zz Ref.bNo 9;rw[Y9] at q
   have:=VN ms F ao cap [Ref.bOp,Ref.zx,Ref.zz,Ref.bNo] (some ⟨w.heap.size+1,0,none⟩) 4 ((w.alloc kL).alloc QA) (by simp) k q (A.below c) false (a ms rfl)
   simpa using this
  ·exact tJ (some x) u 4 _ 4 _ (i.below c) (λms e=>h ⟨ms,by simpa using e⟩)
 obtain⟨T,y,rfl⟩:=ValAt.iface (show ValAt w (λb=>b<w.heap.size) x u from i)
 clear i n a o m;unfold QA kL Ref.bOp Ref.zx Ref.zz Ref.bNo at l;unfold kL at f;unfold QA kL Ref.bOp Ref.zx Ref.zz Ref.bNo at c;go_enter func154,ntmps154
 go_wp2_with (go_at_call 97;refine l.mono ?_;rintro e H ⟨p,rfl,g⟩;have j:Below w.heap.size w H:=c.trans (g.mono (by simp;omega));have d:=yV (((zh _ (w.alloc (.cells #[.string ⟨#[]⟩,.string ⟨#[]⟩,.slice none 0 0,.bool false] 241))).alloc (ze _) _).trans (g.mono (by simp)));have r0:=(zf d 0).1;have r:=(zf d 1).1;have t:=(zf d 2).1;have z:=(zf d 3).1;have I:=(zf d 0).2;have f1:=(zf d 1).2;have f2:=(zf d 2).2;have J:=(zf d 3).2;simp at r0 r t z;obtain⟨B,C,D,E⟩:=fe (.string ⟨#[]⟩) (.string ⟨#[]⟩) (.slice none 0 0) (.bool false) r0 r t z)
 exact zS (v := .tuple #[.agg #[.string ⟨#[]⟩,.string ⟨#[]⟩,.slice none 0 0,.bool false],.iface 125 (.agg #[.string p])]) (by simp[results,results154,go_sem,B,C,D,E]) rfl
  ⟨_,_,rfl,.inr (.inl ⟨rfl,_,rfl⟩),(((j.setCell (ze _) _).setCell (ze _) _).setCell (ze _) _).setCell (ze _) _,uw _ _ _ _⟩
end Go.Proofs.YtdakgnaojakldaaGreatDoor
