/- P -/
import Derived.Test.YtdakgnaojakldaaGreatDoorK14
import Derived.Deep.DeepCutAuto
open Go.Proofs.Tryz
set_option maxRecDepth 100000
set_option maxHeartbeats 1000000
namespace Go.Proofs.YtdakgnaojakldaaGreatDoor
open Go.RowKit
def opN:Nat->BY
 | 0=>⟨#[108,105,107,101]⟩
 | 1=>⟨#[115,97,109,101]⟩
 | 2=>⟨#[98,101,108,111,119]⟩
 | 3=>⟨#[117,110,100,101,114]⟩
 | _=>⟨#[97,98,115,101,110,116]⟩
def opL:Nat->Nat
 | 0=>320
 | 1=>322
 | 2=>324
 | 3=>326
 | _=>328
def opT:Nat->Nat
 | 0=>321
 | 1=>323
 | 2=>325
 | 3=>327
 | _=>329
def YX:List Value:=[.string (opN 0),.func (.func (opL 0)) #[] #[],.func (.func (opT 0)) #[] #[],.string (opN 1),.func (.func (opL 1)) #[] #[],.func (.func (opT 1)) #[] #[],.string (opN 2),.func (.func (opL 2)) #[] #[],.func (.func (opT 2)) #[] #[],
 .string (opN 3),.func (.func (opL 3)) #[] #[],.func (.func (opT 3)) #[] #[],.string (opN 4),.func (.func (opL 4)) #[] #[],.func (.func (opT 4)) #[] #[]]
def Qa(w:World):Prop:=∃t fr,w.heap[(6:Nat)]?=some (.cells YX.toArray t fr)
theorem Qa.below{w w':World}(h:Qa w)(hb:Below w.heap.size w w'):Qa w':=by
 obtain⟨t,fr,h⟩:=h;exact⟨t,fr,(hb.block _ (Xz.1 h).1).trans h⟩
theorem Mx:(prog.info? 402).map (·.size)=some YX.toArray.size:=by kernel_rfl
theorem lt5{k:Nat}(h:k<5):k=0\/k=1\/k=2\/k=3\/k=4:=by omega
theorem Mt(W:World)(k:Nat)(a:k<5):(Instr.index 402 (.agg YX.toArray) (.int .i64 (k:Int))).run prog W = .ok (.agg #[.string (opN k),.func (.func (opL k)) #[] #[],.func (.func (opT k)) #[] #[]]) W:=by
 rcases lt5 a with rfl|rfl|rfl|rfl|rfl
 ·kernel_rfl
 ·kernel_rfl
 ·kernel_rfl
 ·kernel_rfl
 ·kernel_rfl
theorem Ye{w:World}{b:Nat}{h i j:Value}(a c d:Value)(e:w.cell? ⟨b,0,none⟩=some h)(f:w.cell? ⟨b,1,none⟩=some i)(g:w.cell? ⟨b,2,none⟩=some j) :
  (((w.setCell ⟨b,0,none⟩ a).setCell ⟨b,1,none⟩ c).setCell ⟨b,2,none⟩ d).cell? ⟨b,0,none⟩=some a/\(((w.setCell ⟨b,0,none⟩ a).setCell ⟨b,1,none⟩ c).setCell ⟨b,2,none⟩ d).cell? ⟨b,1,none⟩=some c/\(((w.setCell ⟨b,0,none⟩ a).setCell ⟨b,1,none⟩ c).setCell ⟨b,2,none⟩ d).cell? ⟨b,2,none⟩=some d:=by
 refine⟨?_,?_,?_⟩
 ·rw[qK _ _ _ _ (by simp),qK _ _ _ _ (by simp),uH _ _ _ e]
 ·rw[qK _ _ _ _ (by simp)];exact uH _ _ _ ((qK _ _ _ _ (by simp)).trans f)
 ·exact uH _ _ _ ((qK _ _ _ _ (by simp)).trans ((qK _ _ _ _ (by simp)).trans g))
def vI(name:BY):Option Nat:=zW (λk=>(opN k).toList==name.toList) 5
def opV:Option Nat->Value
 | some k => .agg #[.string (opN k),.func (.func (opL k)) #[] #[],.func (.func (opT k)) #[] #[]]
 | none => .agg #[.string ⟨#[]⟩,.nilFunc,.nilFunc]
theorem nY(name:BY)(w:World)(D:Qa w) :
  Calls prog 232 #[.string name] w λe w'=>e = .returned (.tuple #[opV (vI name),.bool (vI name).isSome])/\Below w.heap.size w w':=by
 have l:=nbl w (.cells #[.string ⟨#[]⟩,.nilFunc,.nilFunc] 342);obtain⟨U,fr,u⟩:=D.below l;have c:=λW k I=>Mt W k I;have Y:=λW a g m=>Zt prog W a (.func (.func g) #[] #[]) m rfl;have Z:=λW a m=>Zt prog W a .nilFunc m rfl;have n:=Mx;obtain⟨A,t⟩:=Nm YX.toArray;rw[t] at u n;simp only[t] at c;obtain⟨F,hF⟩:=Nm (vI name);rw[hF];unfold vI at hF;have C:=hid hF;clear t D hF;go_enter func232,ntmps232
 go_wp2_with (refine wpList_load_row rfl 402 _ rfl 6 rfl U A fr _ u underlying402 rfl n ?_)
 clear u n
 go_loopw [7] (λx wr=>∃k:Nat,k<=5/\x = .int .i64 k/\(∀j,j<k->((opN j).toList==name.toList)=false)/\Below (w.alloc (.cells #[.string ⟨#[]⟩,.nilFunc,.nilFunc] 342)).heap.size (w.alloc (.cells #[.string ⟨#[]⟩,.nilFunc,.nilFunc] 342)) wr) (λx _=>5-(intOf x).toNat)
 case atStart=>exact⟨0,by omega,rfl,λj H=>by omega,zf _ _⟩
 case round=>
  obtain⟨k,I,rfl,p,b⟩:=hrel;have h:=hid p;have i:=yP b;have y:=(zg i 0).1;have z:=(zg i 1).1;have B:=(zg i 2).1;have V:=(zg i 0).2;have f1:=(zg i 1).2;have f2:=(zg i 2).2;have X:w.heap.size<wr.heap.size:=by have h1:=b.size;simp at h1;omega
  simp at y z B;clear p i
  by_cases hlt:k<5
  ·have R:=λW=>c W k hlt;obtain⟨N,o⟩:=Nm (opN k);obtain⟨r,d⟩:∃N,opL k=N:=⟨_,rfl⟩;obtain⟨s,f⟩:∃N,opT k=N:=⟨_,rfl⟩;simp only[o,d,f] at R;clear c;have Q:w.heap.size≠wr.heap.size:=by omega
   cases heq:(N.toList==name.toList) with
   | false=>
    have q:Hid (∀j,j<k+1->((opN j).toList==name.toList)=false):=λj H=>by
     by_cases e:j=k
     ·subst e;rw[o];exact heq
     ·exact h.out j (by omega)
    clear o d f
    go_wp2
    go_roundw
    case rel=>exact⟨k+1,by omega,by go_num,q.out,b.alloc b.size _⟩
    case measure=>simp[intOf];omega
   | true=>
    have e:=JG (λk=>(opN k).toList==name.toList) 5 k hlt h.out (by show ((opN k).toList==name.toList)=true;rw[o];exact heq);rw[C.out] at e;have G:opV F = .agg #[.string N,.func (.func r) #[] #[],.func (.func s) #[] #[]]:=by rw[e];simp only[opV,o,d,f]
    have E:F.isSome=true:=by rw[e];rfl
    have P:=hid G;have M:=hid E;clear o d f e G E;obtain⟨J,K,L⟩:=Ye (.string N) (.func (.func r) #[] #[]) (.func (.func s) #[] #[]) y z B;have S:=λO=>zQ J O;have T:=λO=>zQ K O;have q2:=λO=>zQ L O;clear J K L
    go_wp2
    exact zL (v := .tuple #[.agg #[.string N,.func (.func r) #[] #[],.func (.func s) #[] #[]],.bool true]) (by simp[results,results232,go_sem,S,T,q2]) rfl ⟨by rw[P.out,M.out],((((l.trans (b.mono (by simp))).setCell (ze _) _).setCell (ze _) _).setCell (ze _) _).alloc (by simp[World.setCell];omega) _⟩
  ·have e:=JH (λk=>(opN k).toList==name.toList) 5 (λj H=>h.out j (by omega));rw[C.out] at e;subst e
   go_wp2
   exact zL (v := .tuple #[.agg #[.string ⟨#[]⟩,.nilFunc,.nilFunc],.bool false]) (by simp[results,results232,go_sem,y,z,B]) rfl ⟨rfl,(((l.trans (b.mono (by simp))).setCell (ze _) _).setCell (ze _) _).setCell (ze _) _⟩
def Qo:Option Rd.V->Option Nat
 | some (.str s)=>vI s
 | _=>none
def Ke(w:World)(x:Option Rd.V)(e:Ending)(w':World):Prop:=∃u,e = .returned (.tuple #[opV (Qo x),u])/\FV (if (Qo x).isSome then 0 else 1) u/\Below w.heap.size w w'
theorem Mi:vI ⟨#[]⟩=none:=by kernel_rfl
theorem Rx{w:World}{x:Option Rd.V}{u:Value}(h:OAt w x u)(d:∀s,x≠some (.str s))(W:World):(Instr.typeAssert u 114 270 true).run prog W = .ok (.tuple #[.string ⟨#[]⟩,.bool false]) W:=by
 cases x with
 | none=>
  have a:u = .nilIface:=h;subst a;exact dI W
 | some v=>
  have c:ValAt w (λb=>b<w.heap.size) v u:=h
  cases c with
  | str s=>exact absurd rfl (d s)
  | word b=>exact dK _ W
  | list e=>exact dH _ W
  | obj ms=>exact dJ _ W
theorem nZ(x:Option Rd.V)(a:∀s,x≠some (.str s)):Qo x=none:=by
 match x with
 | none=>rfl
 | some (.str s)=>exact absurd rfl (a s)
 | some (.word b)=>rfl
 | some (.list vs)=>rfl
 | some (.obj ms)=>rfl
theorem pG(s:BY)(r:Bool)(u:Value)(w:World)(z:Qa w)(B:u = .nilIface\/∃T y,u = .iface T y)(D:∀W,(Instr.typeAssert u 114 270 true).run prog W = .ok (.tuple #[.string s,.bool r]) W)(A:vI s=none) :
  Calls prog 200 #[u] w λe w'=>∃p,e = .returned (.tuple #[.agg #[.string ⟨#[]⟩,.nilFunc,.nilFunc],.iface 125 (.agg #[.string p])])/\Below w.heap.size w w':=by
 have f:=nbl w (.cells #[.string ⟨#[]⟩,.nilFunc,.nilFunc] 342);have c:=nY s _ (z.below f);rw[A] at c;unfold opV at c;simp only[Kg] at c;have C:=λW a m=>Zt prog W a .nilFunc m rfl;clear z A
 cases r with
 | true=>
  rcases B with rfl|⟨T,y,rfl⟩
  ·go_enter func200,ntmps200
   go_wp2_with (go_at_call 232;refine c.mono ?_;rintro e w1 ⟨rfl,b⟩;have d:=yP b;have g:=(zg d 0).1;have h:=(zg d 1).1;have i:=(zg d 2).1;have t:=(zg d 0).2;have f1:=(zg d 1).2;have f2:=(zg d 2).2;simp at g h i;have x:w.heap.size<w1.heap.size:=(by have h1:=b.size;simp at h1;omega);have j:w.heap.size≠w1.heap.size:=(by omega);obtain⟨n,o,q⟩:=Ye (.string ⟨#[]⟩) .nilFunc .nilFunc g h i;have k:=λO=>zQ n O;have l:=λO=>zQ o O;have q2:=λO=>zQ q O)
   exact zL (v := .tuple #[.agg #[.string ⟨#[]⟩,.nilFunc,.nilFunc],.iface 125 (.agg #[.string ⟨#[111,112]⟩])]) (by simp[results,results200,go_sem,k,l,q2]) rfl ⟨_,rfl,((((f.trans (b.mono (by simp))).setCell (ze _) _).setCell (ze _) _).setCell (ze _) _).alloc (by simp[World.setCell];omega) _⟩
  ·go_enter func200,ntmps200
   go_wp2_with (go_at_call 232;refine c.mono ?_;rintro e w1 ⟨rfl,b⟩;have d:=yP b;have g:=(zg d 0).1;have h:=(zg d 1).1;have i:=(zg d 2).1;have t:=(zg d 0).2;have f1:=(zg d 1).2;have f2:=(zg d 2).2;simp at g h i;have x:w.heap.size<w1.heap.size:=(by have h1:=b.size;simp at h1;omega);have j:w.heap.size≠w1.heap.size:=(by omega);obtain⟨n,o,q⟩:=Ye (.string ⟨#[]⟩) .nilFunc .nilFunc g h i;have k:=λO=>zQ n O;have l:=λO=>zQ o O;have q2:=λO=>zQ q O)
   exact zL (v := .tuple #[.agg #[.string ⟨#[]⟩,.nilFunc,.nilFunc],.iface 125 (.agg #[.string ⟨#[111,112]⟩])]) (by simp[results,results200,go_sem,k,l,q2]) rfl ⟨_,rfl,((((f.trans (b.mono (by simp))).setCell (ze _) _).setCell (ze _) _).setCell (ze _) _).alloc (by simp[World.setCell];omega) _⟩
 | false=>
  rcases B with rfl|⟨T,y,rfl⟩
  ·go_enter func200,ntmps200
   go_wp2_with (go_at_call 232;refine c.mono ?_;rintro e w1 ⟨rfl,b⟩;have d:=yP b;have g:=(zg d 0).1;have h:=(zg d 1).1;have i:=(zg d 2).1;have t:=(zg d 0).2;have f1:=(zg d 1).2;have f2:=(zg d 2).2;simp at g h i;have x:w.heap.size<w1.heap.size:=(by have h1:=b.size;simp at h1;omega);have j:w.heap.size≠w1.heap.size:=(by omega);obtain⟨n,o,q⟩:=Ye (.string ⟨#[]⟩) .nilFunc .nilFunc g h i;have k:=λO=>zQ n O;have l:=λO=>zQ o O;have q2:=λO=>zQ q O)
   exact zL (v := .tuple #[.agg #[.string ⟨#[]⟩,.nilFunc,.nilFunc],.iface 125 (.agg #[.string ⟨#[111,112]⟩])]) (by simp[results,results200,go_sem,k,l,q2]) rfl ⟨_,rfl,((((f.trans (b.mono (by simp))).setCell (ze _) _).setCell (ze _) _).setCell (ze _) _).alloc (by simp[World.setCell];omega) _⟩
  ·go_enter func200,ntmps200
   go_wp2_with (go_at_call 232;refine c.mono ?_;rintro e w1 ⟨rfl,b⟩;have d:=yP b;have g:=(zg d 0).1;have h:=(zg d 1).1;have i:=(zg d 2).1;have t:=(zg d 0).2;have f1:=(zg d 1).2;have f2:=(zg d 2).2;simp at g h i;have x:w.heap.size<w1.heap.size:=(by have h1:=b.size;simp at h1;omega);have j:w.heap.size≠w1.heap.size:=(by omega);obtain⟨n,o,q⟩:=Ye (.string ⟨#[]⟩) .nilFunc .nilFunc g h i;have k:=λO=>zQ n O;have l:=λO=>zQ o O;have q2:=λO=>zQ q O)
   exact zL (v := .tuple #[.agg #[.string ⟨#[]⟩,.nilFunc,.nilFunc],.iface 125 (.agg #[.string ⟨#[111,112]⟩])]) (by simp[results,results200,go_sem,k,l,q2]) rfl ⟨_,rfl,((((f.trans (b.mono (by simp))).setCell (ze _) _).setCell (ze _) _).setCell (ze _) _).alloc (by simp[World.setCell];omega) _⟩
theorem NL(s:BY)(k:Nat)(w:World)(h:Qa w)(i:vI s=some k) :
  Calls prog 200 #[.iface 270 (.string s)] w λe w'=>e = .returned (.tuple #[opV (some k),.nilIface])/\Below w.heap.size w w':=by
 have f:=nbl w (.cells #[.string ⟨#[]⟩,.nilFunc,.nilFunc] 342);have c:=nY s _ (h.below f);rw[i] at c;unfold opV at c |-;simp only[Jr] at c |-;generalize opN k=N at c |-;generalize opL k=fl at c |-;generalize opT k=ft at c |-;have A:=Vd;have z:=λW a g m=>Zt prog W a (.func (.func g) #[] #[]) m rfl;clear h i;go_enter func200,ntmps200
 go_wp2_with (go_at_call 232;refine c.mono ?_;rintro e w1 ⟨rfl,b⟩;have d:=yP b;have j:=(zg d 0).1;have l:=(zg d 1).1;have n:=(zg d 2).1;have x:=(zg d 0).2;have f1:=(zg d 1).2;have f2:=(zg d 2).2;simp at j l n;have y:w.heap.size<w1.heap.size:=(by have h1:=b.size;simp at h1;omega);have o:w.heap.size≠w1.heap.size:=(by omega);obtain⟨r,t,u⟩:=Ye (.string N) (.func (.func fl) #[] #[]) (.func (.func ft) #[] #[]) j l n;have p:=λO=>zQ r O;have q:=λO=>zQ t O;have q2:=λO=>zQ u O)
 exact zL (v := .tuple #[.agg #[.string N,.func (.func fl) #[] #[],.func (.func ft) #[] #[]],.nilIface]) (by simp[results,results200,go_sem,p,q,q2]) rfl ⟨rfl,((((f.trans (b.mono (by simp))).setCell (ze _) _).setCell (ze _) _).setCell (ze _) _).alloc (by simp[World.setCell];omega) _⟩
theorem NK(x:Option Rd.V)(u:Value)(w:World)(c:Qa w)(d:OAt w x u):Calls prog 200 #[u] w (Ke w x):=by
 by_cases h:∃s,x=some (.str s)
 ·obtain⟨s,rfl⟩:=h;have f:ValAt w (λb=>b<w.heap.size) (.str s) u:=d
  cases f with
  | str _=>
   cases hn:vI s with
   | none=>
    refine (pG s true _ w c (.inr ⟨_,_,rfl⟩) (λW=>Vd _ W) hn).mono ?_;rintro e w' ⟨p,rfl,hb⟩;refine⟨.iface 125 (.agg #[.string p]),?_,?_,hb⟩
    ·show _=Ending.returned (.tuple #[opV (vI s),_]);rw[hn];rfl
    ·show FV (if (vI s).isSome then 0 else 1) _;rw[hn];exact .inr (.inl ⟨rfl,p,rfl⟩)
   | some k=>
    refine (NL s k w c hn).mono ?_;rintro e w' ⟨rfl,hb⟩;refine⟨.nilIface,?_,?_,hb⟩
    ·show _=Ending.returned (.tuple #[opV (vI s),_]);rw[hn]
    ·show FV (if (vI s).isSome then 0 else 1) _;rw[hn];exact .inl ⟨rfl,rfl⟩
 ·have a:∀s,x≠some (.str s):=λs e=>h ⟨s,e⟩;refine (pG ⟨#[]⟩ false u w c d.form (λW=>Rx d a W) Mi).mono ?_;rintro e w' ⟨p,rfl,hb⟩;refine⟨.iface 125 (.agg #[.string p]),?_,?_,hb⟩
  ·rw[nZ x a];rfl
  ·rw[nZ x a];exact .inr (.inl ⟨rfl,p,rfl⟩)
theorem Mq{w:World}(g:uz w)(k:Nat)(h:k<5):Looks (opL k) (Rd.jY (opN k)) (Rd.yj (opN k)) w:=by
 rcases lt5 h with rfl|rfl|rfl|rfl|rfl
 ·have a:Ref.x8 (opN 0)=true:=by kernel_rfl
  have c:Rd.jY (opN 0)=Rd.qM Rd.strOf:=by funext x;unfold Rd.jY;rw[a];rfl
  have d:Rd.yj (opN 0)=Rd.qH Rd.jf:=by funext x;unfold Rd.yj;rw[a];rfl
  rw[c,d];exact IC g
 ·have a:Ref.x8 (opN 1)=false:=by kernel_rfl
  have b:Rd.kI (opN 1)=true:=by kernel_rfl
  have c:Rd.jY (opN 1)=Rd.qM (Rd.qR Rd.short):=by funext x;unfold Rd.jY;rw[a,b];rfl
  have d:Rd.yj (opN 1)=Rd.qH (Rd.qa Rd.short):=by funext x;unfold Rd.yj;rw[a,b];rfl
  rw[c,d];exact Ol g
 ·have a:Ref.x8 (opN 2)=false:=by kernel_rfl
  have b:Rd.kI (opN 2)=false:=by kernel_rfl
  have e:Rd.Zn (opN 2)=true:=by kernel_rfl
  have c:Rd.jY (opN 2)=Rd.qM (Rd.qR Ref.jW):=by funext x;unfold Rd.jY;rw[a,b,e];rfl
  have d:Rd.yj (opN 2)=Rd.qH (Rd.qa Ref.jW):=by funext x;unfold Rd.yj;rw[a,b,e];rfl
  rw[c,d];exact Ai g
 ·have a:Ref.x8 (opN 3)=false:=by kernel_rfl
  have b:Rd.kI (opN 3)=false:=by kernel_rfl
  have e:Rd.Zn (opN 3)=false:=by kernel_rfl
  have f:Rd.ZL (opN 3)=true:=by kernel_rfl
  have c:Rd.jY (opN 3)=Rd.qM (Rd.qR Rd.filled):=by funext x;unfold Rd.jY;rw[a,b,e,f];rfl
  have d:Rd.yj (opN 3)=Rd.qH (Rd.qa Rd.filled):=by funext x;unfold Rd.yj;rw[a,b,e,f];rfl
  rw[c,d];exact Sc g
 ·have a:Ref.x8 (opN 4)=false:=by kernel_rfl
  have b:Rd.kI (opN 4)=false:=by kernel_rfl
  have e:Rd.Zn (opN 4)=false:=by kernel_rfl
  have f:Rd.ZL (opN 4)=false:=by kernel_rfl
  have c:Rd.jY (opN 4)=λ_=>[]:=by funext x;unfold Rd.jY;rw[a,b,e,f];rfl
  have d:Rd.yj (opN 4)=λx=>if x.isNone then 0 else 1:=by funext x;unfold Rd.yj;rw[a,b,e,f];rfl
  rw[c,d];exact tq
theorem bq{s:BY}{k:Nat}(h:vI s=some k):k<5/\opN k=s/\(Ref.uM s||Ref.xN s)=true:=by
 obtain⟨a,b,_⟩:=V3 h
 have e:opN k=s:=by
  have:(opN k).toList=s.toList:=by simpa using b
  rw[Q8,Q8] at this;exact ZY (Q7.1 this)
 refine⟨a,e,?_⟩;rw[<- e]
 rcases lt5 a with rfl|rfl|rfl|rfl|rfl
 ·kernel_rfl
 ·kernel_rfl
 ·kernel_rfl
 ·kernel_rfl
 ·kernel_rfl
theorem Mj{s:BY}(h:vI s=none):(Ref.uM s||Ref.xN s)=false:=by
 have a:=JI h;have b:=a 0 (by decide);have c:=a 1 (by decide);have d:=a 2 (by decide);have e:=a 3 (by decide);have f:=a 4 (by decide);unfold Ref.uM Ref.xN;simp only[opN] at b c d e f;rw[Q8] at b c d e f;rw[Bool.beq_comm] at b c d e f;rw[c,e,d,b,f]
 rfl
structure xD where
 op:BY
 key:BY
 vals:List BY
 no:Bool
def JX:xD:=⟨⟨#[]⟩,⟨#[]⟩,[],false⟩
def uj:Rd.V->xD
 | .obj ms=>if Rd.qd ms [Ref.bOp,Ref.zC,Ref.zA,Ref.bNo] then (match Qo (Rd.zl ms Ref.bOp) with
  | some k=>⟨opN k,Rd.qR Ref.qg (Rd.zl ms Ref.zC),Rd.jY (opN k) (Rd.zl ms Ref.zA),Rd.Zp (Rd.zl ms Ref.bNo)⟩
  | none=>JX) else JX
 | _=>JX
theorem KU(ms:List (BY×Rd.V)):Rd.condC (.obj ms)=if Rd.qd ms [Ref.bOp,Ref.zC,Ref.zA,Ref.bNo] then (match Qo (Rd.zl ms Ref.bOp) with
  | some k=>Rd.qD [Rd.qa Ref.qg (Rd.zl ms Ref.zC),Rd.yj (opN k) (Rd.zl ms Ref.zA),Rd.cls (Rd.vG (Rd.zl ms Ref.bNo)) false]
  | none=>1) else 1:=by
 simp only[Rd.condC]
 cases Rd.qd ms [Ref.bOp,Ref.zC,Ref.zA,Ref.bNo] with
 | false=>rfl
 | true=>
  simp only[xu]
  match Rd.zl ms Ref.bOp with
  | none=>rfl
  | some (.word b)=>rfl
  | some (.list vs)=>rfl
  | some (.obj ms)=>rfl
  | some (.str s)=>
   simp only[Rd.opV,Qo]
   cases h:vI s with
   | none=>rw[Mj h];rfl
   | some k=>
    obtain⟨_,e,a⟩:=bq h;simp only[a,xu,e]
def Jf(w:World)(v:Rd.V)(e:Ending)(w':World):Prop:=
 ∃lv u,e = .returned (.tuple #[.agg #[.string (uj v).op,.string (uj v).key,lv,.bool (uj v).no],u])/\FV (Rd.condC v) u/\Below w.heap.size w w'/\w'.ownsRow w.heap.size 9 1 lv (uj v).vals.length ((uj v).vals.map Value.string)
structure Qc (w:World):Prop where
 d:uz w
 ops:Qa w
theorem Qc.below{w w':World}(h:Qc w)(hb:Below w.heap.size w w'):Qc w':=⟨h.d.below hb,h.ops.below hb⟩
theorem Gh(w:World):VD 82 #[] Ref.qg 4000 w:=λW s a _=>aG s W (by unfold maxLen;omega)
def uS:Obj := .cells #[.string ⟨#[]⟩,.string ⟨#[]⟩,.slice none 0 0,.bool false] 241
def Qf:Obj := .cells #[.string Ref.bOp,.string Ref.zC,.string Ref.zA,.string Ref.bNo] 9
theorem cu{w:World}{b:Nat}{j k l m:Value}(a c d e:Value)(f:w.cell? ⟨b,0,none⟩=some j)(g:w.cell? ⟨b,1,none⟩=some k)(h:w.cell? ⟨b,2,none⟩=some l)(i:w.cell? ⟨b,3,none⟩=some m) :
  ((((w.setCell ⟨b,0,none⟩ a).setCell ⟨b,1,none⟩ c).setCell ⟨b,2,none⟩ d).setCell ⟨b,3,none⟩ e).cell? ⟨b,0,none⟩=some a/\((((w.setCell ⟨b,0,none⟩ a).setCell ⟨b,1,none⟩ c).setCell ⟨b,2,none⟩ d).setCell ⟨b,3,none⟩ e).cell? ⟨b,1,none⟩=some c /\
  ((((w.setCell ⟨b,0,none⟩ a).setCell ⟨b,1,none⟩ c).setCell ⟨b,2,none⟩ d).setCell ⟨b,3,none⟩ e).cell? ⟨b,2,none⟩=some d/\((((w.setCell ⟨b,0,none⟩ a).setCell ⟨b,1,none⟩ c).setCell ⟨b,2,none⟩ d).setCell ⟨b,3,none⟩ e).cell? ⟨b,3,none⟩=some e:=by
 obtain⟨n,o,p⟩:=Ye a c d f g h;refine⟨?_,?_,?_,?_⟩
 ·rw[qK _ _ _ _ (by simp)];exact n
 ·rw[qK _ _ _ _ (by simp)];exact o
 ·rw[qK _ _ _ _ (by simp)];exact p
 ·exact uH _ _ _ ((qK _ _ _ _ (by simp)).trans ((qK _ _ _ _ (by simp)).trans ((qK _ _ _ _ (by simp)).trans i)))
theorem nC(w:World)(a b c d:BY)(t:TypeId):Q3 (w.alloc (.cells #[.string a,.string b,.string c,.string d] t)) (some ⟨w.heap.size,0,none⟩) [a,b,c,d]:=by
 have h:=zO w (.cells #[.string a,.string b,.string c,.string d] t);refine .inr ⟨w.heap.size,0,rfl,λj e=>?_⟩;simp only[Zz,Yy] at e;rw[yJ,(zg h j).1]
 have:j=0\/j=1\/j=2\/j=3:=by omega
 rcases this with rfl|rfl|rfl|rfl<;>rfl
theorem ND(x:Rd.V)(u:Value)(w:World)(i:OAt w (some x) u)(n:Rd.Good 4000 x)(a:∀ms,x = .obj ms->Rd.qd ms [Ref.bOp,Ref.zC,Ref.zA,Ref.bNo]=false) :
  Calls prog 154 #[u] w (Jf w x):=by
 have o:uj x=JX:=by
  match x with
  | .str s=>rfl
  | .word b=>rfl
  | .list I=>rfl
  | .obj ms=>simp only[uj];rw[a ms rfl];rfl
 have m:Rd.condC x=1:=by
  match x with
  | .str s=>rfl
  | .word b=>rfl
  | .list I=>rfl
  | .obj ms=>rw[KU,a ms rfl];rfl
 unfold Jf;rw[o,m];have f:=nbl w uS;have c:=f.alloc (by simp) Qf
 have l:Calls prog 97 #[u,.slice (some ⟨w.heap.size+1,0,none⟩) 4 4] ((w.alloc uS).alloc Qf) (Vk ((w.alloc uS).alloc Qf)):=by
  by_cases h:∃ms,x = .obj ms
  ·obtain⟨ms,rfl⟩:=h;obtain⟨H,B,cap,rfl,C⟩:=YV i;have k:ms.length<=4000:=by cases n with|obj _ h=>exact h
   have q:=nC (w.alloc uS) Ref.bOp Ref.zC Ref.zA Ref.bNo 9;rw[jQ] at q
   have:=J6 ms H B cap [Ref.bOp,Ref.zC,Ref.zA,Ref.bNo] (some ⟨w.heap.size+1,0,none⟩) 4 ((w.alloc uS).alloc Qf) (by simp) k q (C.below c) false (a ms rfl)
   simpa using this
  ·exact pF (some x) u 4 _ 4 _ (i.below c) (λms e=>h ⟨ms,by simpa using e⟩)
 obtain⟨T,y,rfl⟩:=ValAt.iface (show ValAt w (λb=>b<w.heap.size) x u from i)
 clear i n a o m;unfold Qf uS Ref.bOp Ref.zC Ref.zA Ref.bNo at l;unfold uS at f;unfold Qf uS Ref.bOp Ref.zC Ref.zA Ref.bNo at c;go_enter func154,ntmps154
 go_wp2_with (go_at_call 97;refine l.mono ?_;rintro e w1 ⟨p,rfl,g⟩;have j:Below w.heap.size w w1:=c.trans (g.mono (by simp;omega));have d:=yP (((zf _ (w.alloc (.cells #[.string ⟨#[]⟩,.string ⟨#[]⟩,.slice none 0 0,.bool false] 241))).alloc (ze _) _).trans (g.mono (by simp)));have r:=(zg d 0).1;have t:=(zg d 1).1;have z:=(zg d 2).1;have A:=(zg d 3).1;have J:=(zg d 0).2;have f1:=(zg d 1).2;have f2:=(zg d 2).2;have K:=(zg d 3).2;simp at r t z A;obtain⟨D,E,F,G⟩:=cu (.string ⟨#[]⟩) (.string ⟨#[]⟩) (.slice none 0 0) (.bool false) r t z A)
 exact zL (v := .tuple #[.agg #[.string ⟨#[]⟩,.string ⟨#[]⟩,.slice none 0 0,.bool false],.iface 125 (.agg #[.string p])]) (by simp[results,results154,go_sem,D,E,F,G]) rfl
  ⟨_,_,rfl,.inr (.inl ⟨rfl,_,rfl⟩),(((j.setCell (ze _) _).setCell (ze _) _).setCell (ze _) _).setCell (ze _) _,qC _ _ _ _⟩
end Go.Proofs.YtdakgnaojakldaaGreatDoor
