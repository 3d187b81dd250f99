/- P -/
import Derived.Test.YtagnlbgbnfnapaaGreatDoorZ14
open Go.Proofs.Tryz
set_option maxRecDepth 100000
set_option maxHeartbeats 1000000
namespace Go.Proofs.YtagnlbgbnfnapaaGreatDoor
open Go.RowKit
def opN:Nat->BA
 | 0=>⟨#[108,105,107,101]⟩
 | 1=>⟨#[115,97,109,101]⟩
 | 2=>⟨#[98,101,108,111,119]⟩
 | 3=>⟨#[117,110,100,101,114]⟩
 | _=>⟨#[97,98,115,101,110,116]⟩
def opL:Nat->Nat
 | 0=>313
 | 1=>315
 | 2=>317
 | 3=>319
 | _=>321
def opT:Nat->Nat
 | 0=>314
 | 1=>316
 | 2=>318
 | 3=>320
 | _=>322
def Vf:List Value:=[.string (opN 0),.func (.func (opL 0)) #[] #[],.func (.func (opT 0)) #[] #[],.string (opN 1),.func (.func (opL 1)) #[] #[],.func (.func (opT 1)) #[] #[],.string (opN 2),.func (.func (opL 2)) #[] #[],.func (.func (opT 2)) #[] #[],
 .string (opN 3),.func (.func (opL 3)) #[] #[],.func (.func (opT 3)) #[] #[],.string (opN 4),.func (.func (opL 4)) #[] #[],.func (.func (opT 4)) #[] #[]]
def QZ(w:World):Prop:=∃t fr,w.heap[(6:Nat)]?=some (.cells Vf.toArray t fr)
theorem QZ.below{w a:World}(h:QZ w)(hb:Below w.heap.size w a):QZ a:=by
 obtain⟨t,fr,h⟩:=h;exact⟨t,fr,(hb.block _ (YI.1 h).1).trans h⟩
theorem PN:(prog.info? 402).map (·.size)=some Vf.toArray.size:=by kernel_rfl
theorem lt5{k:Nat}(h:k<5):k=0\/k=1\/k=2\/k=3\/k=4:=by omega
theorem PD(W:World)(k:Nat)(a:k<5):(Instr.index 402 (.agg Vf.toArray) (.int .i64 (k:Int))).run prog W = .ok (.agg #[.string (opN k),.func (.func (opL k)) #[] #[],.func (.func (opT k)) #[] #[]]) W:=by
 rcases lt5 a with rfl|rfl|rfl|rfl|rfl
 ·kernel_rfl
 ·kernel_rfl
 ·kernel_rfl
 ·kernel_rfl
 ·kernel_rfl
theorem Jf{w:World}{b:Nat}{h i j:Value}(a c d:Value)(e:w.cell? ⟨b,0,none⟩=some h)(f:w.cell? ⟨b,1,none⟩=some i)(g:w.cell? ⟨b,2,none⟩=some j) :
  (((w.setCell ⟨b,0,none⟩ a).setCell ⟨b,1,none⟩ c).setCell ⟨b,2,none⟩ d).cell? ⟨b,0,none⟩=some a/\(((w.setCell ⟨b,0,none⟩ a).setCell ⟨b,1,none⟩ c).setCell ⟨b,2,none⟩ d).cell? ⟨b,1,none⟩=some c/\(((w.setCell ⟨b,0,none⟩ a).setCell ⟨b,1,none⟩ c).setCell ⟨b,2,none⟩ d).cell? ⟨b,2,none⟩=some d:=by
 refine⟨?_,?_,?_⟩
 ·rw[xW _ _ _ _ (by simp),xW _ _ _ _ (by simp),Zx _ _ _ e]
 ·rw[xW _ _ _ _ (by simp)];exact Zx _ _ _ ((xW _ _ _ _ (by simp)).trans f)
 ·exact Zx _ _ _ ((xW _ _ _ _ (by simp)).trans ((xW _ _ _ _ (by simp)).trans g))
def jJ(name:BA):Option Nat:=zD (λk=>(opN k).toList==name.toList) 5
def opV:Option Nat->Value
 | some k => .agg #[.string (opN k),.func (.func (opL k)) #[] #[],.func (.func (opT k)) #[] #[]]
 | none => .agg #[.string ⟨#[]⟩,.nilFunc,.nilFunc]
theorem gB(name:BA)(w:World)(C:QZ w) :
  Calls prog 229 #[.string name] w λe U=>e = .returned (.tuple #[opV (jJ name),.bool (jJ name).isSome])/\Below w.heap.size w U:=by
 have l:=nB w (.cells #[.string ⟨#[]⟩,.nilFunc,.nilFunc] 350);obtain⟨T,fr,u⟩:=C.below l;have c:=λW k H=>PD W k H;have Y:=λW a g m=>Zk prog W a (.func (.func g) #[] #[]) m rfl;have Z:=λW a m=>Zk prog W a .nilFunc m rfl;have n:=PN;obtain⟨A,t⟩:=Nm Vf.toArray;rw[t] at u n;simp only[t] at c;obtain⟨F,hF⟩:=Nm (jJ name);rw[hF];unfold jJ at hF;have B:=hid hF;clear t C hF;go_enter func229,ntmps229
 go_wp2_with (refine wpList_load_row rfl 402 _ rfl 6 rfl T A fr _ u underlying402 rfl n ?_)
 clear u n
 go_loopw [7] (λx wr=>∃k:Nat,k<=5/\x = .int .i64 k/\(∀j,j<k->((opN j).toList==name.toList)=false)/\Below (w.alloc (.cells #[.string ⟨#[]⟩,.nilFunc,.nilFunc] 350)).heap.size (w.alloc (.cells #[.string ⟨#[]⟩,.nilFunc,.nilFunc] 350)) wr) (λx _=>5-(intOf x).toNat)
 case atStart=>exact⟨0,by omega,rfl,λj G=>by omega,zi _ _⟩
 case round=>
  obtain⟨k,H,rfl,p,b⟩:=hrel;have h:=hid p;have i:=ja b;have r0:=(zf i 0).1;have y:=(zf i 1).1;have z:=(zf i 2).1;have V:=(zf i 0).2;have f1:=(zf i 1).2;have f2:=(zf i 2).2;have X:w.heap.size<wr.heap.size:=by have h1:=b.size;simp at h1;omega
  simp at r0 y z;clear p i
  by_cases hlt:k<5
  ·have Q:=λW=>c W k hlt;obtain⟨N,o⟩:=Nm (opN k);obtain⟨r,d⟩:∃N,opL k=N:=⟨_,rfl⟩;obtain⟨s,f⟩:∃N,opT k=N:=⟨_,rfl⟩;simp only[o,d,f] at Q;clear c;have P:w.heap.size≠wr.heap.size:=by omega
   cases heq:(N.toList==name.toList) with
   | false=>
    have q:Hid (∀j,j<k+1->((opN j).toList==name.toList)=false):=λj G=>by
     by_cases e:j=k
     ·subst e;rw[o];exact heq
     ·exact h.out j (by omega)
    clear o d f
    go_wp2
    go_roundw
    case rel=>exact⟨k+1,by omega,by go_num,q.out,b.alloc b.size _⟩
    case measure=>simp[intOf];omega
   | true=>
    have e:=QA (λk=>(opN k).toList==name.toList) 5 k hlt h.out (by show ((opN k).toList==name.toList)=true;rw[o];exact heq);rw[B.out] at e;have E:opV F = .agg #[.string N,.func (.func r) #[] #[],.func (.func s) #[] #[]]:=by rw[e];simp only[opV,o,d,f]
    have D:F.isSome=true:=by rw[e];rfl
    have M:=hid E;have L:=hid D;clear o d f e E D;obtain⟨I,J,K⟩:=Jf (.string N) (.func (.func r) #[] #[]) (.func (.func s) #[] #[]) r0 y z;have R:=λO=>zM I O;have S:=λO=>zM J O;have q2:=λO=>zM K O;clear I J K
    go_wp2
    exact qa (v := .tuple #[.agg #[.string N,.func (.func r) #[] #[],.func (.func s) #[] #[]],.bool true]) (by simp[results,results229,go_sem,R,S,q2]) rfl ⟨by rw[M.out,L.out],((((l.trans (b.mono (by simp))).setCell (ze _) _).setCell (ze _) _).setCell (ze _) _).alloc (by simp[World.setCell];omega) _⟩
  ·have e:=QB (λk=>(opN k).toList==name.toList) 5 (λj G=>h.out j (by omega));rw[B.out] at e;subst e
   go_wp2
   exact qa (v := .tuple #[.agg #[.string ⟨#[]⟩,.nilFunc,.nilFunc],.bool false]) (by simp[results,results229,go_sem,r0,y,z]) rfl ⟨rfl,(((l.trans (b.mono (by simp))).setCell (ze _) _).setCell (ze _) _).setCell (ze _) _⟩
def Qa:Option Rd.V->Option Nat
 | some (.str s)=>jJ s
 | _=>none
def aG(w:World)(x:Option Rd.V)(e:Ending)(a:World):Prop:=∃u,e = .returned (.tuple #[opV (Qa x),u])/\FV (if (Qa x).isSome then 0 else 1) u/\Below w.heap.size w a
theorem Pq:jJ ⟨#[]⟩=none:=by kernel_rfl
theorem zao{w:World}{x:Option Rd.V}{u:Value}(h:OAt w x u)(d:∀s,x≠some (.str s))(W:World):(Instr.typeAssert u 118 274 true).run prog W = .ok (.tuple #[.string ⟨#[]⟩,.bool false]) W:=by
 cases x with
 | none=>
  have a:u = .nilIface:=h;subst a;exact iK W
 | some v=>
  have c:ValAt w (λb=>b<w.heap.size) v u:=h
  cases c with
  | str s=>exact absurd rfl (d s)
  | word b=>exact iM _ W
  | list e=>exact iJ _ W
  | obj ms=>exact iL _ W
theorem wU(x:Option Rd.V)(a:∀s,x≠some (.str s)):Qa x=none:=by
 match x with
 | none=>rfl
 | some (.str s)=>exact absurd rfl (a s)
 | some (.word b)=>rfl
 | some (.list vs)=>rfl
 | some (.obj ms)=>rfl
theorem AR(s:BA)(r:Bool)(u:Value)(w:World)(z:QZ w)(B:u = .nilIface\/∃T y,u = .iface T y)(E:∀W,(Instr.typeAssert u 118 274 true).run prog W = .ok (.tuple #[.string s,.bool r]) W)(A:jJ s=none) :
  Calls prog 193 #[u] w λe C=>∃p,e = .returned (.tuple #[.agg #[.string ⟨#[]⟩,.nilFunc,.nilFunc],.iface 129 (.agg #[.string p])])/\Below w.heap.size w C:=by
 have f:=nB w (.cells #[.string ⟨#[]⟩,.nilFunc,.nilFunc] 350);have c:=gB s _ (z.below f);rw[A] at c;unfold opV at c;simp only[kU] at c;have D:=λW a m=>Zk prog W a .nilFunc m rfl;clear z A
 cases r with
 | true=>
  rcases B with rfl|⟨T,y,rfl⟩
  ·go_enter func193,ntmps193
   go_wp2_with (go_at_call 229;refine c.mono ?_;rintro e i ⟨rfl,b⟩;have d:=ja b;have r0:=(zf d 0).1;have g:=(zf d 1).1;have h:=(zf d 2).1;have t:=(zf d 0).2;have f1:=(zf d 1).2;have f2:=(zf d 2).2;simp at r0 g h;have x:w.heap.size<i.heap.size:=(by have h1:=b.size;simp at h1;omega);have j:w.heap.size≠i.heap.size:=(by omega);obtain⟨n,o,q⟩:=Jf (.string ⟨#[]⟩) .nilFunc .nilFunc r0 g h;have k:=λO=>zM n O;have l:=λO=>zM o O;have q2:=λO=>zM q O)
   exact qa (v := .tuple #[.agg #[.string ⟨#[]⟩,.nilFunc,.nilFunc],.iface 129 (.agg #[.string ⟨#[111,112]⟩])]) (by simp[results,results193,go_sem,k,l,q2]) rfl ⟨_,rfl,((((f.trans (b.mono (by simp))).setCell (ze _) _).setCell (ze _) _).setCell (ze _) _).alloc (by simp[World.setCell];omega) _⟩
  ·go_enter func193,ntmps193
   go_wp2_with (go_at_call 229;refine c.mono ?_;rintro e i ⟨rfl,b⟩;have d:=ja b;have r0:=(zf d 0).1;have g:=(zf d 1).1;have h:=(zf d 2).1;have t:=(zf d 0).2;have f1:=(zf d 1).2;have f2:=(zf d 2).2;simp at r0 g h;have x:w.heap.size<i.heap.size:=(by have h1:=b.size;simp at h1;omega);have j:w.heap.size≠i.heap.size:=(by omega);obtain⟨n,o,q⟩:=Jf (.string ⟨#[]⟩) .nilFunc .nilFunc r0 g h;have k:=λO=>zM n O;have l:=λO=>zM o O;have q2:=λO=>zM q O)
   exact qa (v := .tuple #[.agg #[.string ⟨#[]⟩,.nilFunc,.nilFunc],.iface 129 (.agg #[.string ⟨#[111,112]⟩])]) (by simp[results,results193,go_sem,k,l,q2]) rfl ⟨_,rfl,((((f.trans (b.mono (by simp))).setCell (ze _) _).setCell (ze _) _).setCell (ze _) _).alloc (by simp[World.setCell];omega) _⟩
 | false=>
  rcases B with rfl|⟨T,y,rfl⟩
  ·go_enter func193,ntmps193
   go_wp2_with (go_at_call 229;refine c.mono ?_;rintro e i ⟨rfl,b⟩;have d:=ja b;have r0:=(zf d 0).1;have g:=(zf d 1).1;have h:=(zf d 2).1;have t:=(zf d 0).2;have f1:=(zf d 1).2;have f2:=(zf d 2).2;simp at r0 g h;have x:w.heap.size<i.heap.size:=(by have h1:=b.size;simp at h1;omega);have j:w.heap.size≠i.heap.size:=(by omega);obtain⟨n,o,q⟩:=Jf (.string ⟨#[]⟩) .nilFunc .nilFunc r0 g h;have k:=λO=>zM n O;have l:=λO=>zM o O;have q2:=λO=>zM q O)
   exact qa (v := .tuple #[.agg #[.string ⟨#[]⟩,.nilFunc,.nilFunc],.iface 129 (.agg #[.string ⟨#[111,112]⟩])]) (by simp[results,results193,go_sem,k,l,q2]) rfl ⟨_,rfl,((((f.trans (b.mono (by simp))).setCell (ze _) _).setCell (ze _) _).setCell (ze _) _).alloc (by simp[World.setCell];omega) _⟩
  ·go_enter func193,ntmps193
   go_wp2_with (go_at_call 229;refine c.mono ?_;rintro e i ⟨rfl,b⟩;have d:=ja b;have r0:=(zf d 0).1;have g:=(zf d 1).1;have h:=(zf d 2).1;have t:=(zf d 0).2;have f1:=(zf d 1).2;have f2:=(zf d 2).2;simp at r0 g h;have x:w.heap.size<i.heap.size:=(by have h1:=b.size;simp at h1;omega);have j:w.heap.size≠i.heap.size:=(by omega);obtain⟨n,o,q⟩:=Jf (.string ⟨#[]⟩) .nilFunc .nilFunc r0 g h;have k:=λO=>zM n O;have l:=λO=>zM o O;have q2:=λO=>zM q O)
   exact qa (v := .tuple #[.agg #[.string ⟨#[]⟩,.nilFunc,.nilFunc],.iface 129 (.agg #[.string ⟨#[111,112]⟩])]) (by simp[results,results193,go_sem,k,l,q2]) rfl ⟨_,rfl,((((f.trans (b.mono (by simp))).setCell (ze _) _).setCell (ze _) _).setCell (ze _) _).alloc (by simp[World.setCell];omega) _⟩
theorem Sa(s:BA)(k:Nat)(w:World)(h:QZ w)(i:jJ s=some k) :
  Calls prog 193 #[.iface 274 (.string s)] w λe x=>e = .returned (.tuple #[opV (some k),.nilIface])/\Below w.heap.size w x:=by
 have f:=nB w (.cells #[.string ⟨#[]⟩,.nilFunc,.nilFunc] 350);have c:=gB s _ (h.below f);rw[i] at c;unfold opV at c |-;simp only[uw] at c |-;generalize opN k=N at c |-;generalize opL k=fl at c |-;generalize opT k=ft at c |-;have B:=Ul;have A:=λW a g m=>Zk prog W a (.func (.func g) #[] #[]) m rfl;clear h i;go_enter func193,ntmps193
 go_wp2_with (go_at_call 229;refine c.mono ?_;rintro e n ⟨rfl,b⟩;have d:=ja b;have r0:=(zf d 0).1;have j:=(zf d 1).1;have l:=(zf d 2).1;have y:=(zf d 0).2;have f1:=(zf d 1).2;have f2:=(zf d 2).2;simp at r0 j l;have z:w.heap.size<n.heap.size:=(by have h1:=b.size;simp at h1;omega);have o:w.heap.size≠n.heap.size:=(by omega);obtain⟨r,t,u⟩:=Jf (.string N) (.func (.func fl) #[] #[]) (.func (.func ft) #[] #[]) r0 j l;have p:=λO=>zM r O;have q:=λO=>zM t O;have q2:=λO=>zM u O)
 exact qa (v := .tuple #[.agg #[.string N,.func (.func fl) #[] #[],.func (.func ft) #[] #[]],.nilIface]) (by simp[results,results193,go_sem,p,q,q2]) rfl ⟨rfl,((((f.trans (b.mono (by simp))).setCell (ze _) _).setCell (ze _) _).setCell (ze _) _).alloc (by simp[World.setCell];omega) _⟩
theorem RZ(x:Option Rd.V)(u:Value)(w:World)(c:QZ w)(d:OAt w x u):Calls prog 193 #[u] w (aG w x):=by
 by_cases h:∃s,x=some (.str s)
 ·obtain⟨s,rfl⟩:=h;have g:ValAt w (λb=>b<w.heap.size) (.str s) u:=d
  cases g with
  | str _=>
   cases hn:jJ s with
   | none=>
    refine (AR s true _ w c (.inr ⟨_,_,rfl⟩) (λW=>Ul _ W) hn).mono ?_;rintro e f ⟨p,rfl,hb⟩;refine⟨.iface 129 (.agg #[.string p]),?_,?_,hb⟩
    ·show _=Ending.returned (.tuple #[opV (jJ s),_]);rw[hn];rfl
    ·show FV (if (jJ s).isSome then 0 else 1) _;rw[hn];exact .inr (.inl ⟨rfl,p,rfl⟩)
   | some k=>
    refine (Sa s k w c hn).mono ?_;rintro e f ⟨rfl,hb⟩;refine⟨.nilIface,?_,?_,hb⟩
    ·show _=Ending.returned (.tuple #[opV (jJ s),_]);rw[hn]
    ·show FV (if (jJ s).isSome then 0 else 1) _;rw[hn];exact .inl ⟨rfl,rfl⟩
 ·have a:∀s,x≠some (.str s):=λs e=>h ⟨s,e⟩;refine (AR ⟨#[]⟩ false u w c d.form (λW=>zao d a W) Pq).mono ?_;rintro e f ⟨p,rfl,hb⟩;refine⟨.iface 129 (.agg #[.string p]),?_,?_,hb⟩
  ·rw[wU x a];rfl
  ·rw[wU x a];exact .inr (.inl ⟨rfl,p,rfl⟩)
theorem Pz{w:World}(g:kL w)(k:Nat)(h:k<5):Looks (opL k) (Rd.xC (opN k)) (Rd.qB (opN k)) w:=by
 rcases lt5 h with rfl|rfl|rfl|rfl|rfl
 ·have a:Ref.xH (opN 0)=true:=by kernel_rfl
  have c:Rd.xC (opN 0)=Rd.qW Rd.strOf:=by funext x;unfold Rd.xC;rw[a];rfl
  have d:Rd.qB (opN 0)=Rd.qP Rd.yM:=by funext x;unfold Rd.qB;rw[a];rfl
  rw[c,d];exact Nu g
 ·have a:Ref.xH (opN 1)=false:=by kernel_rfl
  have b:Rd.yQ (opN 1)=true:=by kernel_rfl
  have c:Rd.xC (opN 1)=Rd.qW (Rd.qZ Rd.short):=by funext x;unfold Rd.xC;rw[a,b];rfl
  have d:Rd.qB (opN 1)=Rd.qP (Rd.qf Rd.short):=by funext x;unfold Rd.qB;rw[a,b];rfl
  rw[c,d];exact Ta g
 ·have a:Ref.xH (opN 2)=false:=by kernel_rfl
  have b:Rd.yQ (opN 2)=false:=by kernel_rfl
  have e:Rd.jG (opN 2)=true:=by kernel_rfl
  have c:Rd.xC (opN 2)=Rd.qW (Rd.qZ Ref.xB):=by funext x;unfold Rd.xC;rw[a,b,e];rfl
  have d:Rd.qB (opN 2)=Rd.qP (Rd.qf Ref.xB):=by funext x;unfold Rd.qB;rw[a,b,e];rfl
  rw[c,d];exact Ez g
 ·have a:Ref.xH (opN 3)=false:=by kernel_rfl
  have b:Rd.yQ (opN 3)=false:=by kernel_rfl
  have e:Rd.jG (opN 3)=false:=by kernel_rfl
  have f:Rd.ZG (opN 3)=true:=by kernel_rfl
  have c:Rd.xC (opN 3)=Rd.qW (Rd.qZ Rd.filled):=by funext x;unfold Rd.xC;rw[a,b,e,f];rfl
  have d:Rd.qB (opN 3)=Rd.qP (Rd.qf Rd.filled):=by funext x;unfold Rd.qB;rw[a,b,e,f];rfl
  rw[c,d];exact zaM g
 ·have a:Ref.xH (opN 4)=false:=by kernel_rfl
  have b:Rd.yQ (opN 4)=false:=by kernel_rfl
  have e:Rd.jG (opN 4)=false:=by kernel_rfl
  have f:Rd.ZG (opN 4)=false:=by kernel_rfl
  have c:Rd.xC (opN 4)=λ_=>[]:=by funext x;unfold Rd.xC;rw[a,b,e,f];rfl
  have d:Rd.qB (opN 4)=λx=>if x.isNone then 0 else 1:=by funext x;unfold Rd.qB;rw[a,b,e,f];rfl
  rw[c,d];exact Dj
theorem gz{s:BA}{k:Nat}(h:jJ s=some k):k<5/\opN k=s/\(Ref.uJ s||Ref.jm s)=true:=by
 obtain⟨a,b,_⟩:=U5 h
 have e:opN k=s:=by
  have:(opN k).toList=s.toList:=by simpa using b
  rw[QQ,QQ] at this;exact uS (Jm.1 this)
 refine⟨a,e,?_⟩;rw[<- e]
 rcases lt5 a with rfl|rfl|rfl|rfl|rfl
 ·kernel_rfl
 ·kernel_rfl
 ·kernel_rfl
 ·kernel_rfl
 ·kernel_rfl
theorem Ps{s:BA}(h:jJ s=none):(Ref.uJ s||Ref.jm s)=false:=by
 have a:=VR h;have b:=a 0 (by decide);have c:=a 1 (by decide);have d:=a 2 (by decide);have e:=a 3 (by decide);have f:=a 4 (by decide);unfold Ref.uJ Ref.jm;simp only[opN] at b c d e f;rw[QQ] at b c d e f;rw[Bool.beq_comm] at b c d e f;rw[c,e,d,b,f]
 rfl
structure qF where
 op:BA
 key:BA
 vals:List BA
 no:Bool
def QF:qF:=⟨⟨#[]⟩,⟨#[]⟩,[],false⟩
def jS:Rd.V->qF
 | .obj ms=>if Rd.qh ms [Ref.bOp,Ref.zG,Ref.zJ,Ref.bNo] then (match Qa (Rd.zl ms Ref.bOp) with
  | some k=>⟨opN k,Rd.qZ Ref.qm (Rd.zl ms Ref.zG),Rd.xC (opN k) (Rd.zl ms Ref.zJ),Rd.Jc (Rd.zl ms Ref.bNo)⟩
  | none=>QF) else QF
 | _=>QF
theorem UW(ms:List (BA×Rd.V)):Rd.condC (.obj ms)=if Rd.qh ms [Ref.bOp,Ref.zG,Ref.zJ,Ref.bNo] then (match Qa (Rd.zl ms Ref.bOp) with
  | some k=>Rd.qA [Rd.qf Ref.qm (Rd.zl ms Ref.zG),Rd.qB (opN k) (Rd.zl ms Ref.zJ),Rd.cls (Rd.Zh (Rd.zl ms Ref.bNo)) false]
  | none=>1) else 1:=by
 simp only[Rd.condC]
 cases Rd.qh ms [Ref.bOp,Ref.zG,Ref.zJ,Ref.bNo] with
 | false=>rfl
 | true=>
  simp only[qO]
  match Rd.zl ms Ref.bOp with
  | none=>rfl
  | some (.word b)=>rfl
  | some (.list vs)=>rfl
  | some (.obj ms)=>rfl
  | some (.str s)=>
   simp only[Rd.opV,Qa]
   cases h:jJ s with
   | none=>rw[Ps h];rfl
   | some k=>
    obtain⟨_,e,a⟩:=gz h;simp only[a,qO,e]
def Vu(w:World)(v:Rd.V)(e:Ending)(b:World):Prop:=
 ∃a u,e = .returned (.tuple #[.agg #[.string (jS v).op,.string (jS v).key,a,.bool (jS v).no],u])/\FV (Rd.condC v) u/\Below w.heap.size w b/\b.ownsRow w.heap.size 9 1 a (jS v).vals.length ((jS v).vals.map Value.string)
structure xK (w:World):Prop where
 d:kL w
 ops:QZ w
theorem xK.below{w a:World}(h:xK w)(hb:Below w.heap.size w a):xK a:=⟨h.d.below hb,h.ops.below hb⟩
theorem ML(w:World):UG 51 #[] Ref.qm 4000 w:=λW s a _=>Kb s W (by unfold maxLen;omega)
def Zq:Obj := .cells #[.string ⟨#[]⟩,.string ⟨#[]⟩,.slice none 0 0,.bool false] 286
def Q8:Obj := .cells #[.string Ref.bOp,.string Ref.zG,.string Ref.zJ,.string Ref.bNo] 9
theorem ig{w:World}{b:Nat}{j k l m:Value}(a c d e:Value)(f:w.cell? ⟨b,0,none⟩=some j)(g:w.cell? ⟨b,1,none⟩=some k)(h:w.cell? ⟨b,2,none⟩=some l)(i:w.cell? ⟨b,3,none⟩=some m) :
  ((((w.setCell ⟨b,0,none⟩ a).setCell ⟨b,1,none⟩ c).setCell ⟨b,2,none⟩ d).setCell ⟨b,3,none⟩ e).cell? ⟨b,0,none⟩=some a/\((((w.setCell ⟨b,0,none⟩ a).setCell ⟨b,1,none⟩ c).setCell ⟨b,2,none⟩ d).setCell ⟨b,3,none⟩ e).cell? ⟨b,1,none⟩=some c /\
  ((((w.setCell ⟨b,0,none⟩ a).setCell ⟨b,1,none⟩ c).setCell ⟨b,2,none⟩ d).setCell ⟨b,3,none⟩ e).cell? ⟨b,2,none⟩=some d/\((((w.setCell ⟨b,0,none⟩ a).setCell ⟨b,1,none⟩ c).setCell ⟨b,2,none⟩ d).setCell ⟨b,3,none⟩ e).cell? ⟨b,3,none⟩=some e:=by
 obtain⟨n,o,p⟩:=Jf a c d f g h;refine⟨?_,?_,?_,?_⟩
 ·rw[xW _ _ _ _ (by simp)];exact n
 ·rw[xW _ _ _ _ (by simp)];exact o
 ·rw[xW _ _ _ _ (by simp)];exact p
 ·exact Zx _ _ _ ((xW _ _ _ _ (by simp)).trans ((xW _ _ _ _ (by simp)).trans ((xW _ _ _ _ (by simp)).trans i)))
theorem tH(w:World)(a b c d:BA)(t:TypeId):kI (w.alloc (.cells #[.string a,.string b,.string c,.string d] t)) (some ⟨w.heap.size,0,none⟩) [a,b,c,d]:=by
 have h:=zL w (.cells #[.string a,.string b,.string c,.string d] t);refine .inr ⟨w.heap.size,0,rfl,λj e=>?_⟩;simp only[uU,QW] at e;rw[qM,(zf h j).1]
 have:j=0\/j=1\/j=2\/j=3:=by omega
 rcases this with rfl|rfl|rfl|rfl<;>rfl
theorem RN(x:Rd.V)(u:Value)(w:World)(i:OAt w (some x) u)(n:Rd.Good 4000 x)(a:∀ms,x = .obj ms->Rd.qh ms [Ref.bOp,Ref.zG,Ref.zJ,Ref.bNo]=false) :
  Calls prog 151 #[u] w (Vu w x):=by
 have o:jS x=QF:=by
  match x with
  | .str s=>rfl
  | .word b=>rfl
  | .list G=>rfl
  | .obj ms=>simp only[jS];rw[a ms rfl];rfl
 have m:Rd.condC x=1:=by
  match x with
  | .str s=>rfl
  | .word b=>rfl
  | .list G=>rfl
  | .obj ms=>rw[UW,a ms rfl];rfl
 unfold Vu;rw[o,m];have f:=nB w Zq;have c:=f.alloc (by simp) Q8
 have l:Calls prog 96 #[u,.slice (some ⟨w.heap.size+1,0,none⟩) 4 4] ((w.alloc Zq).alloc Q8) (Uv ((w.alloc Zq).alloc Q8)):=by
  by_cases h:∃ms,x = .obj ms
  ·obtain⟨ms,rfl⟩:=h;obtain⟨F,ao,cap,rfl,A⟩:=Vb i;have k:ms.length<=4000:=by cases n with|obj _ h=>exact h
   have q:=tH (w.alloc Zq) Ref.bOp Ref.zG Ref.zJ Ref.bNo 9;rw[JG] at q
   have:=Ud ms F ao cap [Ref.bOp,Ref.zG,Ref.zJ,Ref.bNo] (some ⟨w.heap.size+1,0,none⟩) 4 ((w.alloc Zq).alloc Q8) (by simp) k q (A.below c) false (a ms rfl)
   simpa using this
  ·exact AQ (some x) u 4 _ 4 _ (i.below c) (λms e=>h ⟨ms,by simpa using e⟩)
 obtain⟨T,y,rfl⟩:=ValAt.iface (show ValAt w (λb=>b<w.heap.size) x u from i)
 clear i n a o m;unfold Q8 Zq Ref.bOp Ref.zG Ref.zJ Ref.bNo at l;unfold Zq at f;unfold Q8 Zq Ref.bOp Ref.zG Ref.zJ Ref.bNo at c;go_enter func151,ntmps151
 go_wp2_with (go_at_call 96;refine l.mono ?_;rintro e H ⟨p,rfl,g⟩;have j:Below w.heap.size w H:=c.trans (g.mono (by simp;omega));have d:=ja (((zi _ (w.alloc (.cells #[.string ⟨#[]⟩,.string ⟨#[]⟩,.slice none 0 0,.bool false] 286))).alloc (ze _) _).trans (g.mono (by simp)));have r0:=(zf d 0).1;have r:=(zf d 1).1;have t:=(zf d 2).1;have z:=(zf d 3).1;have I:=(zf d 0).2;have f1:=(zf d 1).2;have f2:=(zf d 2).2;have J:=(zf d 3).2;simp at r0 r t z;obtain⟨B,C,D,E⟩:=ig (.string ⟨#[]⟩) (.string ⟨#[]⟩) (.slice none 0 0) (.bool false) r0 r t z)
 exact qa (v := .tuple #[.agg #[.string ⟨#[]⟩,.string ⟨#[]⟩,.slice none 0 0,.bool false],.iface 129 (.agg #[.string p])]) (by simp[results,results151,go_sem,B,C,D,E]) rfl
  ⟨_,_,rfl,.inr (.inl ⟨rfl,_,rfl⟩),(((j.setCell (ze _) _).setCell (ze _) _).setCell (ze _) _).setCell (ze _) _,jR _ _ _ _⟩
end Go.Proofs.YtagnlbgbnfnapaaGreatDoor
