/- P -/
import Derived.Test.YtagnlbgbnfnapaaGreatDoorK14
open Go.Proofs.Tryz
set_option maxRecDepth 100000
set_option maxHeartbeats 1000000
namespace Go.Proofs.YtagnlbgbnfnapaaGreatDoor
open Go.RowKit
def opN:Nat->BY
 | 0=>⟨#[108,105,107,101]⟩
 | 1=>⟨#[115,97,109,101]⟩
 | 2=>⟨#[98,101,108,111,119]⟩
 | 3=>⟨#[117,110,100,101,114]⟩
 | _=>⟨#[97,98,115,101,110,116]⟩
def opL:Nat->Nat
 | 0=>313
 | 1=>315
 | 2=>317
 | 3=>319
 | _=>321
def opT:Nat->Nat
 | 0=>314
 | 1=>316
 | 2=>318
 | 3=>320
 | _=>322
def Y2:List Value:=[.string (opN 0),.func (.func (opL 0)) #[] #[],.func (.func (opT 0)) #[] #[],.string (opN 1),.func (.func (opL 1)) #[] #[],.func (.func (opT 1)) #[] #[],.string (opN 2),.func (.func (opL 2)) #[] #[],.func (.func (opT 2)) #[] #[],
 .string (opN 3),.func (.func (opL 3)) #[] #[],.func (.func (opT 3)) #[] #[],.string (opN 4),.func (.func (opL 4)) #[] #[],.func (.func (opT 4)) #[] #[]]
def Qf(w:World):Prop:=∃t fr,w.heap[(6:Nat)]?=some (.cells Y2.toArray t fr)
theorem Qf.below{w w':World}(h:Qf w)(hb:Below w.heap.size w w'):Qf w':=by
 obtain⟨t,fr,h⟩:=h;exact⟨t,fr,(hb.block _ (XG.1 h).1).trans h⟩
theorem MU:(prog.info? 402).map (·.size)=some Y2.toArray.size:=by kernel_rfl
theorem lt5{k:Nat}(h:k<5):k=0\/k=1\/k=2\/k=3\/k=4:=by omega
theorem MQ(W:World)(k:Nat)(a:k<5):(Instr.index 402 (.agg Y2.toArray) (.int .i64 (k:Int))).run prog W = .ok (.agg #[.string (opN k),.func (.func (opL k)) #[] #[],.func (.func (opT k)) #[] #[]]) W:=by
 rcases lt5 a with rfl|rfl|rfl|rfl|rfl
 ·kernel_rfl
 ·kernel_rfl
 ·kernel_rfl
 ·kernel_rfl
 ·kernel_rfl
theorem Yi{w:World}{b:Nat}{h i j:Value}(a c d:Value)(e:w.cell? ⟨b,0,none⟩=some h)(f:w.cell? ⟨b,1,none⟩=some i)(g:w.cell? ⟨b,2,none⟩=some j) :
  (((w.setCell ⟨b,0,none⟩ a).setCell ⟨b,1,none⟩ c).setCell ⟨b,2,none⟩ d).cell? ⟨b,0,none⟩=some a/\(((w.setCell ⟨b,0,none⟩ a).setCell ⟨b,1,none⟩ c).setCell ⟨b,2,none⟩ d).cell? ⟨b,1,none⟩=some c/\(((w.setCell ⟨b,0,none⟩ a).setCell ⟨b,1,none⟩ c).setCell ⟨b,2,none⟩ d).cell? ⟨b,2,none⟩=some d:=by
 refine⟨?_,?_,?_⟩
 ·rw[qH _ _ _ _ (by simp),qH _ _ _ _ (by simp),uk _ _ _ e]
 ·rw[qH _ _ _ _ (by simp)];exact uk _ _ _ ((qH _ _ _ _ (by simp)).trans f)
 ·exact uk _ _ _ ((qH _ _ _ _ (by simp)).trans ((qH _ _ _ _ (by simp)).trans g))
def vK(name:BY):Option Nat:=zX (λk=>(opN k).toList==name.toList) 5
def opV:Option Nat->Value
 | some k => .agg #[.string (opN k),.func (.func (opL k)) #[] #[],.func (.func (opT k)) #[] #[]]
 | none => .agg #[.string ⟨#[]⟩,.nilFunc,.nilFunc]
theorem oL(name:BY)(w:World)(D:Qf w) :
  Calls prog 229 #[.string name] w λe w'=>e = .returned (.tuple #[opV (vK name),.bool (vK name).isSome])/\Below w.heap.size w w':=by
 have l:=nbl w (.cells #[.string ⟨#[]⟩,.nilFunc,.nilFunc] 350);obtain⟨U,fr,u⟩:=D.below l;have c:=λW k I=>MQ W k I;have Y:=λW a g m=>Zv prog W a (.func (.func g) #[] #[]) m rfl;have Z:=λW a m=>Zv prog W a .nilFunc m rfl;have n:=MU;obtain⟨A,t⟩:=Nm Y2.toArray;rw[t] at u n;simp only[t] at c;obtain⟨F,hF⟩:=Nm (vK name);rw[hF];unfold vK at hF;have C:=hid hF;clear t D hF;go_enter func229,ntmps229
 go_wp2_with (refine wpList_load_row rfl 402 _ rfl 6 rfl U A fr _ u underlying402 rfl n ?_)
 clear u n
 go_loopw [7] (λx wr=>∃k:Nat,k<=5/\x = .int .i64 k/\(∀j,j<k->((opN j).toList==name.toList)=false)/\Below (w.alloc (.cells #[.string ⟨#[]⟩,.nilFunc,.nilFunc] 350)).heap.size (w.alloc (.cells #[.string ⟨#[]⟩,.nilFunc,.nilFunc] 350)) wr) (λx _=>5-(intOf x).toNat)
 case atStart=>exact⟨0,by omega,rfl,λj H=>by omega,zf _ _⟩
 case round=>
  obtain⟨k,I,rfl,p,b⟩:=hrel;have h:=hid p;have i:=yT b;have y:=(zg i 0).1;have z:=(zg i 1).1;have B:=(zg i 2).1;have V:=(zg i 0).2;have f1:=(zg i 1).2;have f2:=(zg i 2).2;have X:w.heap.size<wr.heap.size:=by have h1:=b.size;simp at h1;omega
  simp at y z B;clear p i
  by_cases hlt:k<5
  ·have R:=λW=>c W k hlt;obtain⟨N,o⟩:=Nm (opN k);obtain⟨r,d⟩:∃N,opL k=N:=⟨_,rfl⟩;obtain⟨s,f⟩:∃N,opT k=N:=⟨_,rfl⟩;simp only[o,d,f] at R;clear c;have Q:w.heap.size≠wr.heap.size:=by omega
   cases heq:(N.toList==name.toList) with
   | false=>
    have q:Hid (∀j,j<k+1->((opN j).toList==name.toList)=false):=λj H=>by
     by_cases e:j=k
     ·subst e;rw[o];exact heq
     ·exact h.out j (by omega)
    clear o d f
    go_wp2
    go_roundw
    case rel=>exact⟨k+1,by omega,by go_num,q.out,b.alloc b.size _⟩
    case measure=>simp[intOf];omega
   | true=>
    have e:=JN (λk=>(opN k).toList==name.toList) 5 k hlt h.out (by show ((opN k).toList==name.toList)=true;rw[o];exact heq);rw[C.out] at e;have G:opV F = .agg #[.string N,.func (.func r) #[] #[],.func (.func s) #[] #[]]:=by rw[e];simp only[opV,o,d,f]
    have E:F.isSome=true:=by rw[e];rfl
    have P:=hid G;have M:=hid E;clear o d f e G E;obtain⟨J,K,L⟩:=Yi (.string N) (.func (.func r) #[] #[]) (.func (.func s) #[] #[]) y z B;have S:=λO=>zF J O;have T:=λO=>zF K O;have q2:=λO=>zF L O;clear J K L
    go_wp2
    exact zN (v := .tuple #[.agg #[.string N,.func (.func r) #[] #[],.func (.func s) #[] #[]],.bool true]) (by simp[results,results229,go_sem,S,T,q2]) rfl ⟨by rw[P.out,M.out],((((l.trans (b.mono (by simp))).setCell (ze _) _).setCell (ze _) _).setCell (ze _) _).alloc (by simp[World.setCell];omega) _⟩
  ·have e:=JO (λk=>(opN k).toList==name.toList) 5 (λj H=>h.out j (by omega));rw[C.out] at e;subst e
   go_wp2
   exact zN (v := .tuple #[.agg #[.string ⟨#[]⟩,.nilFunc,.nilFunc],.bool false]) (by simp[results,results229,go_sem,y,z,B]) rfl ⟨rfl,(((l.trans (b.mono (by simp))).setCell (ze _) _).setCell (ze _) _).setCell (ze _) _⟩
def Qt:Option Rd.V->Option Nat
 | some (.str s)=>vK s
 | _=>none
def Kt(w:World)(x:Option Rd.V)(e:Ending)(w':World):Prop:=∃u,e = .returned (.tuple #[opV (Qt x),u])/\FV (if (Qt x).isSome then 0 else 1) u/\Below w.heap.size w w'
theorem MH:vK ⟨#[]⟩=none:=by kernel_rfl
theorem Sb{w:World}{x:Option Rd.V}{u:Value}(h:OAt w x u)(d:∀s,x≠some (.str s))(W:World):(Instr.typeAssert u 118 274 true).run prog W = .ok (.tuple #[.string ⟨#[]⟩,.bool false]) W:=by
 cases x with
 | none=>
  have a:u = .nilIface:=h;subst a;exact dU W
 | some v=>
  have c:ValAt w (λb=>b<w.heap.size) v u:=h
  cases c with
  | str s=>exact absurd rfl (d s)
  | word b=>exact dW _ W
  | list e=>exact dS _ W
  | obj ms=>exact dV _ W
theorem oM(x:Option Rd.V)(a:∀s,x≠some (.str s)):Qt x=none:=by
 match x with
 | none=>rfl
 | some (.str s)=>exact absurd rfl (a s)
 | some (.word b)=>rfl
 | some (.list vs)=>rfl
 | some (.obj ms)=>rfl
theorem rC(s:BY)(r:Bool)(u:Value)(w:World)(z:Qf w)(B:u = .nilIface\/∃T y,u = .iface T y)(D:∀W,(Instr.typeAssert u 118 274 true).run prog W = .ok (.tuple #[.string s,.bool r]) W)(A:vK s=none) :
  Calls prog 193 #[u] w λe w'=>∃p,e = .returned (.tuple #[.agg #[.string ⟨#[]⟩,.nilFunc,.nilFunc],.iface 129 (.agg #[.string p])])/\Below w.heap.size w w':=by
 have f:=nbl w (.cells #[.string ⟨#[]⟩,.nilFunc,.nilFunc] 350);have c:=oL s _ (z.below f);rw[A] at c;unfold opV at c;simp only[Ku] at c;have C:=λW a m=>Zv prog W a .nilFunc m rfl;clear z A
 cases r with
 | true=>
  rcases B with rfl|⟨T,y,rfl⟩
  ·go_enter func193,ntmps193
   go_wp2_with (go_at_call 229;refine c.mono ?_;rintro e w1 ⟨rfl,b⟩;have d:=yT b;have g:=(zg d 0).1;have h:=(zg d 1).1;have i:=(zg d 2).1;have t:=(zg d 0).2;have f1:=(zg d 1).2;have f2:=(zg d 2).2;simp at g h i;have x:w.heap.size<w1.heap.size:=(by have h1:=b.size;simp at h1;omega);have j:w.heap.size≠w1.heap.size:=(by omega);obtain⟨n,o,q⟩:=Yi (.string ⟨#[]⟩) .nilFunc .nilFunc g h i;have k:=λO=>zF n O;have l:=λO=>zF o O;have q2:=λO=>zF q O)
   exact zN (v := .tuple #[.agg #[.string ⟨#[]⟩,.nilFunc,.nilFunc],.iface 129 (.agg #[.string ⟨#[111,112]⟩])]) (by simp[results,results193,go_sem,k,l,q2]) rfl ⟨_,rfl,((((f.trans (b.mono (by simp))).setCell (ze _) _).setCell (ze _) _).setCell (ze _) _).alloc (by simp[World.setCell];omega) _⟩
  ·go_enter func193,ntmps193
   go_wp2_with (go_at_call 229;refine c.mono ?_;rintro e w1 ⟨rfl,b⟩;have d:=yT b;have g:=(zg d 0).1;have h:=(zg d 1).1;have i:=(zg d 2).1;have t:=(zg d 0).2;have f1:=(zg d 1).2;have f2:=(zg d 2).2;simp at g h i;have x:w.heap.size<w1.heap.size:=(by have h1:=b.size;simp at h1;omega);have j:w.heap.size≠w1.heap.size:=(by omega);obtain⟨n,o,q⟩:=Yi (.string ⟨#[]⟩) .nilFunc .nilFunc g h i;have k:=λO=>zF n O;have l:=λO=>zF o O;have q2:=λO=>zF q O)
   exact zN (v := .tuple #[.agg #[.string ⟨#[]⟩,.nilFunc,.nilFunc],.iface 129 (.agg #[.string ⟨#[111,112]⟩])]) (by simp[results,results193,go_sem,k,l,q2]) rfl ⟨_,rfl,((((f.trans (b.mono (by simp))).setCell (ze _) _).setCell (ze _) _).setCell (ze _) _).alloc (by simp[World.setCell];omega) _⟩
 | false=>
  rcases B with rfl|⟨T,y,rfl⟩
  ·go_enter func193,ntmps193
   go_wp2_with (go_at_call 229;refine c.mono ?_;rintro e w1 ⟨rfl,b⟩;have d:=yT b;have g:=(zg d 0).1;have h:=(zg d 1).1;have i:=(zg d 2).1;have t:=(zg d 0).2;have f1:=(zg d 1).2;have f2:=(zg d 2).2;simp at g h i;have x:w.heap.size<w1.heap.size:=(by have h1:=b.size;simp at h1;omega);have j:w.heap.size≠w1.heap.size:=(by omega);obtain⟨n,o,q⟩:=Yi (.string ⟨#[]⟩) .nilFunc .nilFunc g h i;have k:=λO=>zF n O;have l:=λO=>zF o O;have q2:=λO=>zF q O)
   exact zN (v := .tuple #[.agg #[.string ⟨#[]⟩,.nilFunc,.nilFunc],.iface 129 (.agg #[.string ⟨#[111,112]⟩])]) (by simp[results,results193,go_sem,k,l,q2]) rfl ⟨_,rfl,((((f.trans (b.mono (by simp))).setCell (ze _) _).setCell (ze _) _).setCell (ze _) _).alloc (by simp[World.setCell];omega) _⟩
  ·go_enter func193,ntmps193
   go_wp2_with (go_at_call 229;refine c.mono ?_;rintro e w1 ⟨rfl,b⟩;have d:=yT b;have g:=(zg d 0).1;have h:=(zg d 1).1;have i:=(zg d 2).1;have t:=(zg d 0).2;have f1:=(zg d 1).2;have f2:=(zg d 2).2;simp at g h i;have x:w.heap.size<w1.heap.size:=(by have h1:=b.size;simp at h1;omega);have j:w.heap.size≠w1.heap.size:=(by omega);obtain⟨n,o,q⟩:=Yi (.string ⟨#[]⟩) .nilFunc .nilFunc g h i;have k:=λO=>zF n O;have l:=λO=>zF o O;have q2:=λO=>zF q O)
   exact zN (v := .tuple #[.agg #[.string ⟨#[]⟩,.nilFunc,.nilFunc],.iface 129 (.agg #[.string ⟨#[111,112]⟩])]) (by simp[results,results193,go_sem,k,l,q2]) rfl ⟨_,rfl,((((f.trans (b.mono (by simp))).setCell (ze _) _).setCell (ze _) _).setCell (ze _) _).alloc (by simp[World.setCell];omega) _⟩
theorem Oh(s:BY)(k:Nat)(w:World)(h:Qf w)(i:vK s=some k) :
  Calls prog 193 #[.iface 274 (.string s)] w λe w'=>e = .returned (.tuple #[opV (some k),.nilIface])/\Below w.heap.size w w':=by
 have f:=nbl w (.cells #[.string ⟨#[]⟩,.nilFunc,.nilFunc] 350);have c:=oL s _ (h.below f);rw[i] at c;unfold opV at c |-;simp only[Jy] at c |-;generalize opN k=N at c |-;generalize opL k=fl at c |-;generalize opT k=ft at c |-;have A:=Vk;have z:=λW a g m=>Zv prog W a (.func (.func g) #[] #[]) m rfl;clear h i;go_enter func193,ntmps193
 go_wp2_with (go_at_call 229;refine c.mono ?_;rintro e w1 ⟨rfl,b⟩;have d:=yT b;have j:=(zg d 0).1;have l:=(zg d 1).1;have n:=(zg d 2).1;have x:=(zg d 0).2;have f1:=(zg d 1).2;have f2:=(zg d 2).2;simp at j l n;have y:w.heap.size<w1.heap.size:=(by have h1:=b.size;simp at h1;omega);have o:w.heap.size≠w1.heap.size:=(by omega);obtain⟨r,t,u⟩:=Yi (.string N) (.func (.func fl) #[] #[]) (.func (.func ft) #[] #[]) j l n;have p:=λO=>zF r O;have q:=λO=>zF t O;have q2:=λO=>zF u O)
 exact zN (v := .tuple #[.agg #[.string N,.func (.func fl) #[] #[],.func (.func ft) #[] #[]],.nilIface]) (by simp[results,results193,go_sem,p,q,q2]) rfl ⟨rfl,((((f.trans (b.mono (by simp))).setCell (ze _) _).setCell (ze _) _).setCell (ze _) _).alloc (by simp[World.setCell];omega) _⟩
theorem Og(x:Option Rd.V)(u:Value)(w:World)(c:Qf w)(d:OAt w x u):Calls prog 193 #[u] w (Kt w x):=by
 by_cases h:∃s,x=some (.str s)
 ·obtain⟨s,rfl⟩:=h;have f:ValAt w (λb=>b<w.heap.size) (.str s) u:=d
  cases f with
  | str _=>
   cases hn:vK s with
   | none=>
    refine (rC s true _ w c (.inr ⟨_,_,rfl⟩) (λW=>Vk _ W) hn).mono ?_;rintro e w' ⟨p,rfl,hb⟩;refine⟨.iface 129 (.agg #[.string p]),?_,?_,hb⟩
    ·show _=Ending.returned (.tuple #[opV (vK s),_]);rw[hn];rfl
    ·show FV (if (vK s).isSome then 0 else 1) _;rw[hn];exact .inr (.inl ⟨rfl,p,rfl⟩)
   | some k=>
    refine (Oh s k w c hn).mono ?_;rintro e w' ⟨rfl,hb⟩;refine⟨.nilIface,?_,?_,hb⟩
    ·show _=Ending.returned (.tuple #[opV (vK s),_]);rw[hn]
    ·show FV (if (vK s).isSome then 0 else 1) _;rw[hn];exact .inl ⟨rfl,rfl⟩
 ·have a:∀s,x≠some (.str s):=λs e=>h ⟨s,e⟩;refine (rC ⟨#[]⟩ false u w c d.form (λW=>Sb d a W) MH).mono ?_;rintro e w' ⟨p,rfl,hb⟩;refine⟨.iface 129 (.agg #[.string p]),?_,?_,hb⟩
  ·rw[oM x a];rfl
  ·rw[oM x a];exact .inr (.inl ⟨rfl,p,rfl⟩)
theorem MN{w:World}(g:uB w)(k:Nat)(h:k<5):Looks (opL k) (Rd.j3 (opN k)) (Rd.yo (opN k)) w:=by
 rcases lt5 h with rfl|rfl|rfl|rfl|rfl
 ·have a:Ref.yc (opN 0)=true:=by kernel_rfl
  have c:Rd.j3 (opN 0)=Rd.qN Rd.strOf:=by funext x;unfold Rd.j3;rw[a];rfl
  have d:Rd.yo (opN 0)=Rd.qJ Rd.jl:=by funext x;unfold Rd.yo;rw[a];rfl
  rw[c,d];exact Lc g
 ·have a:Ref.yc (opN 1)=false:=by kernel_rfl
  have b:Rd.kM (opN 1)=true:=by kernel_rfl
  have c:Rd.j3 (opN 1)=Rd.qN (Rd.qV Rd.short):=by funext x;unfold Rd.j3;rw[a,b];rfl
  have d:Rd.yo (opN 1)=Rd.qJ (Rd.qb Rd.short):=by funext x;unfold Rd.yo;rw[a,b];rfl
  rw[c,d];exact OI g
 ·have a:Ref.yc (opN 2)=false:=by kernel_rfl
  have b:Rd.kM (opN 2)=false:=by kernel_rfl
  have e:Rd.Zp (opN 2)=true:=by kernel_rfl
  have c:Rd.j3 (opN 2)=Rd.qN (Rd.qV Ref.jY):=by funext x;unfold Rd.j3;rw[a,b,e];rfl
  have d:Rd.yo (opN 2)=Rd.qJ (Rd.qb Ref.jY):=by funext x;unfold Rd.yo;rw[a,b,e];rfl
  rw[c,d];exact AQ g
 ·have a:Ref.yc (opN 3)=false:=by kernel_rfl
  have b:Rd.kM (opN 3)=false:=by kernel_rfl
  have e:Rd.Zp (opN 3)=false:=by kernel_rfl
  have f:Rd.ZN (opN 3)=true:=by kernel_rfl
  have c:Rd.j3 (opN 3)=Rd.qN (Rd.qV Rd.filled):=by funext x;unfold Rd.j3;rw[a,b,e,f];rfl
  have d:Rd.yo (opN 3)=Rd.qJ (Rd.qb Rd.filled):=by funext x;unfold Rd.yo;rw[a,b,e,f];rfl
  rw[c,d];exact SC g
 ·have a:Ref.yc (opN 4)=false:=by kernel_rfl
  have b:Rd.kM (opN 4)=false:=by kernel_rfl
  have e:Rd.Zp (opN 4)=false:=by kernel_rfl
  have f:Rd.ZN (opN 4)=false:=by kernel_rfl
  have c:Rd.j3 (opN 4)=λ_=>[]:=by funext x;unfold Rd.j3;rw[a,b,e,f];rfl
  have d:Rd.yo (opN 4)=λx=>if x.isNone then 0 else 1:=by funext x;unfold Rd.yo;rw[a,b,e,f];rfl
  rw[c,d];exact wG
theorem bM{s:BY}{k:Nat}(h:vK s=some k):k<5/\opN k=s/\(Ref.uP s||Ref.xO s)=true:=by
 obtain⟨a,b,_⟩:=Ub h
 have e:opN k=s:=by
  have:(opN k).toList=s.toList:=by simpa using b
  rw[Xc,Xc] at this;exact Z4 (Xb.1 this)
 refine⟨a,e,?_⟩;rw[<- e]
 rcases lt5 a with rfl|rfl|rfl|rfl|rfl
 ·kernel_rfl
 ·kernel_rfl
 ·kernel_rfl
 ·kernel_rfl
 ·kernel_rfl
theorem MI{s:BY}(h:vK s=none):(Ref.uP s||Ref.xO s)=false:=by
 have a:=JP h;have b:=a 0 (by decide);have c:=a 1 (by decide);have d:=a 2 (by decide);have e:=a 3 (by decide);have f:=a 4 (by decide);unfold Ref.uP Ref.xO;simp only[opN] at b c d e f;rw[Xc] at b c d e f;rw[Bool.beq_comm] at b c d e f;rw[c,e,d,b,f]
 rfl
structure xG where
 op:BY
 key:BY
 vals:List BY
 no:Bool
def J6:xG:=⟨⟨#[]⟩,⟨#[]⟩,[],false⟩
def um:Rd.V->xG
 | .obj ms=>if Rd.qf ms [Ref.bOp,Ref.zD,Ref.zB,Ref.bNo] then (match Qt (Rd.zm ms Ref.bOp) with
  | some k=>⟨opN k,Rd.qV Ref.qh (Rd.zm ms Ref.zD),Rd.j3 (opN k) (Rd.zm ms Ref.zB),Rd.Zr (Rd.zm ms Ref.bNo)⟩
  | none=>J6) else J6
 | _=>J6
theorem aa(ms:List (BY×Rd.V)):Rd.condC (.obj ms)=if Rd.qf ms [Ref.bOp,Ref.zD,Ref.zB,Ref.bNo] then (match Qt (Rd.zm ms Ref.bOp) with
  | some k=>Rd.qE [Rd.qb Ref.qh (Rd.zm ms Ref.zD),Rd.yo (opN k) (Rd.zm ms Ref.zB),Rd.cls (Rd.vJ (Rd.zm ms Ref.bNo)) false]
  | none=>1) else 1:=by
 simp only[Rd.condC]
 cases Rd.qf ms [Ref.bOp,Ref.zD,Ref.zB,Ref.bNo] with
 | false=>rfl
 | true=>
  simp only[xy]
  match Rd.zm ms Ref.bOp with
  | none=>rfl
  | some (.word b)=>rfl
  | some (.list vs)=>rfl
  | some (.obj ms)=>rfl
  | some (.str s)=>
   simp only[Rd.opV,Qt]
   cases h:vK s with
   | none=>rw[MI h];rfl
   | some k=>
    obtain⟨_,e,a⟩:=bM h;simp only[a,xy,e]
def Jk(w:World)(v:Rd.V)(e:Ending)(w':World):Prop:=
 ∃lv u,e = .returned (.tuple #[.agg #[.string (um v).op,.string (um v).key,lv,.bool (um v).no],u])/\FV (Rd.condC v) u/\Below w.heap.size w w'/\w'.ownsRow w.heap.size 9 1 lv (um v).vals.length ((um v).vals.map Value.string)
structure Qh (w:World):Prop where
 d:uB w
 ops:Qf w
theorem Qh.below{w w':World}(h:Qh w)(hb:Below w.heap.size w w'):Qh w':=⟨h.d.below hb,h.ops.below hb⟩
theorem GG(w:World):VK 51 #[] Ref.qh 4000 w:=λW s a _=>aU s W (by unfold maxLen;omega)
def uW:Obj := .cells #[.string ⟨#[]⟩,.string ⟨#[]⟩,.slice none 0 0,.bool false] 286
def Qk:Obj := .cells #[.string Ref.bOp,.string Ref.zD,.string Ref.zB,.string Ref.bNo] 9
theorem dC{w:World}{b:Nat}{j k l m:Value}(a c d e:Value)(f:w.cell? ⟨b,0,none⟩=some j)(g:w.cell? ⟨b,1,none⟩=some k)(h:w.cell? ⟨b,2,none⟩=some l)(i:w.cell? ⟨b,3,none⟩=some m) :
  ((((w.setCell ⟨b,0,none⟩ a).setCell ⟨b,1,none⟩ c).setCell ⟨b,2,none⟩ d).setCell ⟨b,3,none⟩ e).cell? ⟨b,0,none⟩=some a/\((((w.setCell ⟨b,0,none⟩ a).setCell ⟨b,1,none⟩ c).setCell ⟨b,2,none⟩ d).setCell ⟨b,3,none⟩ e).cell? ⟨b,1,none⟩=some c /\
  ((((w.setCell ⟨b,0,none⟩ a).setCell ⟨b,1,none⟩ c).setCell ⟨b,2,none⟩ d).setCell ⟨b,3,none⟩ e).cell? ⟨b,2,none⟩=some d/\((((w.setCell ⟨b,0,none⟩ a).setCell ⟨b,1,none⟩ c).setCell ⟨b,2,none⟩ d).setCell ⟨b,3,none⟩ e).cell? ⟨b,3,none⟩=some e:=by
 obtain⟨n,o,p⟩:=Yi a c d f g h;refine⟨?_,?_,?_,?_⟩
 ·rw[qH _ _ _ _ (by simp)];exact n
 ·rw[qH _ _ _ _ (by simp)];exact o
 ·rw[qH _ _ _ _ (by simp)];exact p
 ·exact uk _ _ _ ((qH _ _ _ _ (by simp)).trans ((qH _ _ _ _ (by simp)).trans ((qH _ _ _ _ (by simp)).trans i)))
theorem nV(w:World)(a b c d:BY)(t:TypeId):Q8 (w.alloc (.cells #[.string a,.string b,.string c,.string d] t)) (some ⟨w.heap.size,0,none⟩) [a,b,c,d]:=by
 have h:=zQ w (.cells #[.string a,.string b,.string c,.string d] t);refine .inr ⟨w.heap.size,0,rfl,λj e=>?_⟩;simp only[ZB,YC] at e;rw[yO,(zg h j).1]
 have:j=0\/j=1\/j=2\/j=3:=by omega
 rcases this with rfl|rfl|rfl|rfl<;>rfl
theorem NZ(x:Rd.V)(u:Value)(w:World)(i:OAt w (some x) u)(n:Rd.Good 4000 x)(a:∀ms,x = .obj ms->Rd.qf ms [Ref.bOp,Ref.zD,Ref.zB,Ref.bNo]=false) :
  Calls prog 151 #[u] w (Jk w x):=by
 have o:um x=J6:=by
  match x with
  | .str s=>rfl
  | .word b=>rfl
  | .list I=>rfl
  | .obj ms=>simp only[um];rw[a ms rfl];rfl
 have m:Rd.condC x=1:=by
  match x with
  | .str s=>rfl
  | .word b=>rfl
  | .list I=>rfl
  | .obj ms=>rw[aa,a ms rfl];rfl
 unfold Jk;rw[o,m];have f:=nbl w uW;have c:=f.alloc (by simp) Qk
 have l:Calls prog 96 #[u,.slice (some ⟨w.heap.size+1,0,none⟩) 4 4] ((w.alloc uW).alloc Qk) (Vs ((w.alloc uW).alloc Qk)):=by
  by_cases h:∃ms,x = .obj ms
  ·obtain⟨ms,rfl⟩:=h;obtain⟨H,B,cap,rfl,C⟩:=Y0 i;have k:ms.length<=4000:=by cases n with|obj _ h=>exact h
   have q:=nV (w.alloc uW) Ref.bOp Ref.zD Ref.zB Ref.bNo 9;rw[jT] at q
   have:=Ve ms H B cap [Ref.bOp,Ref.zD,Ref.zB,Ref.bNo] (some ⟨w.heap.size+1,0,none⟩) 4 ((w.alloc uW).alloc Qk) (by simp) k q (C.below c) false (a ms rfl)
   simpa using this
  ·exact rA (some x) u 4 _ 4 _ (i.below c) (λms e=>h ⟨ms,by simpa using e⟩)
 obtain⟨T,y,rfl⟩:=ValAt.iface (show ValAt w (λb=>b<w.heap.size) x u from i)
 clear i n a o m;unfold Qk uW Ref.bOp Ref.zD Ref.zB Ref.bNo at l;unfold uW at f;unfold Qk uW Ref.bOp Ref.zD Ref.zB Ref.bNo at c;go_enter func151,ntmps151
 go_wp2_with (go_at_call 96;refine l.mono ?_;rintro e w1 ⟨p,rfl,g⟩;have j:Below w.heap.size w w1:=c.trans (g.mono (by simp;omega));have d:=yT (((zf _ (w.alloc (.cells #[.string ⟨#[]⟩,.string ⟨#[]⟩,.slice none 0 0,.bool false] 286))).alloc (ze _) _).trans (g.mono (by simp)));have r:=(zg d 0).1;have t:=(zg d 1).1;have z:=(zg d 2).1;have A:=(zg d 3).1;have J:=(zg d 0).2;have f1:=(zg d 1).2;have f2:=(zg d 2).2;have K:=(zg d 3).2;simp at r t z A;obtain⟨D,E,F,G⟩:=dC (.string ⟨#[]⟩) (.string ⟨#[]⟩) (.slice none 0 0) (.bool false) r t z A)
 exact zN (v := .tuple #[.agg #[.string ⟨#[]⟩,.string ⟨#[]⟩,.slice none 0 0,.bool false],.iface 129 (.agg #[.string p])]) (by simp[results,results151,go_sem,D,E,F,G]) rfl
  ⟨_,_,rfl,.inr (.inl ⟨rfl,_,rfl⟩),(((j.setCell (ze _) _).setCell (ze _) _).setCell (ze _) _).setCell (ze _) _,qD _ _ _ _⟩
end Go.Proofs.YtagnlbgbnfnapaaGreatDoor
