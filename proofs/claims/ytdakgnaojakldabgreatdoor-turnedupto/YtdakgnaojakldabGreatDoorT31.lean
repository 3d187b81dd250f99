/- P -/
import Derived.Test.YtdakgnaojakldabGreatDoorT30
open Go.Proofs.Tryz
set_option maxRecDepth 100000
set_option maxHeartbeats 4000000
namespace Go.Proofs.YtdakgnaojakldabGreatDoor
open Go.RowKit
end Go.Proofs.YtdakgnaojakldabGreatDoor
namespace Go.Proofs.YtdakgnaojakldabGreatDoor
open laws Go.ChangeShapes Go.WideShapes Go.ChangeAt Go.RowKit Go.Joins Go.Deep
theorem wf_i64{n:Int}(h:(Lit.int .i64 n).wf=true):I64 n:=by
 have a:(decide (IntKind.min .i64<=n)&&decide (n<=IntKind.max .i64))=true:=h;rw[Bool.and_eq_true,decide_eq_true_eq,decide_eq_true_eq] at a;exact a
instance:Inhabited Kp.zg:=⟨Kp.qI⟩
section
variable {H:Type} {enc:TypeId×Value->H} {w:World} {spare:Nat->Bool} {held:Bool}
theorem plain_of_cell{w:World}{a:Addr}{v:Value}(h:w.cell? (a.add 0)=some v):∃b o,a=⟨b,o,none⟩:=by
 obtain⟨b,o,s⟩:=a;have c:w.cell? ⟨b,o,s⟩=some v:=h
 cases s with
 | none=>exact⟨b,o,rfl⟩
 | some x=>
  unfold World.cell? at c
  split at c
  ·simp at c
  ·cases c
theorem Jz{fuel:Nat}{v:Value}{x:DataW H×List MemPlace}(h:DataW.trod enc prog w 0 spare held fuel 30 [v]=some x)(j:∀b,spare b=true):∃l:List Int,l.length<=maxLen/\IntsIn w v l:=by
 rcases open_ints underlying30 underlying3 (by kernel_rfl) h with ⟨e,_⟩|⟨a,len,cap,zs,e,_,hl,hmx,hzl,_,hcell,hwf⟩
 ·simp only[List.cons.injEq,and_true] at e;subst e;exact⟨[],by simp,Jy w⟩
 ·simp only[List.cons.injEq,and_true] at e;subst e;rw[j,if_pos rfl] at hzl;refine⟨zs.take len,by rw[List.length_take];omega,some a,cap,by rw[List.length_take,Nat.min_eq_left (by omega)],λk x c=>?_⟩;have i:k<(zs.take len).length:=(List.getElem?_eq_some_iff.1 c).1;rw[List.length_take] at i;have d:zs[k]?=some x:=by rw[List.getElem?_take] at c;split at c;exact c;cases c
  have f:x ∈ zs:=List.mem_of_getElem? d;obtain⟨b,o,rfl⟩:=plain_of_cell (hcell 0 (by omega));have g:=hcell k (by omega);rw[addr_add,List.getD_eq_getElem?_getD,d] at g;exact⟨wf_i64 (hwf x f),b,o,rfl,g⟩
theorem MQ{fuel:Nat}{cs:List Value}{x:DataW H×List MemPlace}(h:DataW.trod enc prog w 0 spare held fuel 32 cs=some x)(u:∀b,spare b=true) :
  ∃(r:Kp.zg) (v y z:Value),cs=[.bool r.deny,v,y,z,.int .i64 r.nt,.int .i64 r.iff,.int .i64 r.key,.int .i64 r.val,.bool r.no,.int .i64 r.style]/\ZH r/\r.who.length<=maxLen/\r.act.length<=maxLen/\r.on.length<=maxLen/\IntsIn w v r.who/\IntsIn w y r.act/\IntsIn w z r.on:=by
 obtain⟨xs,n,_,rfl,_,_,_⟩:=DataW.trod_struct underlying32 h;have c3:prog.cellsOf 3=1:=by kernel_rfl
 have c4:prog.cellsOf 4=1:=by kernel_rfl
 have d:prog.cellsOf 30=1:=by kernel_rfl
 obtain⟨Y,c⟩:=Vj underlying32 (λj f a=>by
  match j,a with
  | 0,a=>simp at a;subst a;exact⟨rfl,c4⟩
  | 1,a=>simp at a;subst a;exact⟨rfl,d⟩
  | 2,a=>simp at a;subst a;exact⟨rfl,d⟩
  | 3,a=>simp at a;subst a;exact⟨rfl,d⟩
  | 4,a=>simp at a;subst a;exact⟨rfl,c3⟩
  | 5,a=>simp at a;subst a;exact⟨rfl,c3⟩
  | 6,a=>simp at a;subst a;exact⟨rfl,c3⟩
  | 7,a=>simp at a;subst a;exact⟨rfl,c3⟩
  | 8,a=>simp at a;subst a;exact⟨rfl,c4⟩
  | 9,a=>simp at a;subst a;exact⟨rfl,c3⟩
  | j+10,a=>simp at a) (by kernel_rfl) h
 obtain⟨v0,d0,p0,n0,g,_,O⟩:=c 0 _ rfl;obtain⟨v,d1,p1,n1,i,_,P⟩:=c 1 _ rfl;obtain⟨y,d2,p2,n2,k,_,Q⟩:=c 2 _ rfl;obtain⟨z,d3,p3,n3,l,_,R⟩:=c 3 _ rfl;obtain⟨v4,d4,p4,n4,m,_,S⟩:=c 4 _ rfl;obtain⟨v5,d5,p5,n5,o,_,T⟩:=c 5 _ rfl;obtain⟨v6,d6,p6,n6,p,_,U⟩:=c 6 _ rfl;obtain⟨v7,d7,p7,n7,q,_,V⟩:=c 7 _ rfl;obtain⟨v8,d8,p8,n8,s,_,W⟩:=c 8 _ rfl;obtain⟨v9,d9,p9,n9,t,_,X⟩:=c 9 _ rfl;have e:cs.length=10:=Y
 match cs,e with
 | [u0,u1,u2,u3,u4,u5,u6,u7,u8,u9],_=>
  simp only[List.getElem?_cons_zero,List.getElem?_cons_succ,Option.some.injEq] at g i k l m o p q s t;subst g i k l m o p q s t;obtain⟨b0,A,_⟩:=DataW.trod_bool underlying4 O;obtain⟨l1,m1,Z⟩:=Jz P u;obtain⟨l2,m2,i2⟩:=Jz Q u;obtain⟨l3,m3,i3⟩:=Jz R u;obtain⟨k4,B,_,J⟩:=DataW.trod_int underlying3 S;obtain⟨k5,C,_,K⟩:=DataW.trod_int underlying3 T;obtain⟨k6,D,_,L⟩:=DataW.trod_int underlying3 U;obtain⟨k7,E,_,M⟩:=DataW.trod_int underlying3 V;obtain⟨I,F,_⟩:=DataW.trod_bool underlying4 W;obtain⟨k9,G,_,N⟩:=DataW.trod_int underlying3 X;simp only[List.cons.injEq,and_true] at A B C D E F G;subst A B C D E F G;exact⟨⟨b0,l1,l2,l3,k4,k5,k6,k7,I,k9⟩,u1,u2,u3,rfl,⟨wf_i64 J,wf_i64 K,wf_i64 L,wf_i64 M,wf_i64 N⟩,m1,m2,m3,Z,i2,i3⟩
theorem MR{fuel:Nat}{v:Value}{x:DataW H×List MemPlace}(h:DataW.trod enc prog w 0 spare held fuel 27 [v]=some x)(z:∀b,spare b=true):∃l:List Kp.zg,l.length<=maxLen/\uY w v l:=by
 have I:prog.cellsOf 32=10:=by kernel_rfl
 rcases open_slice underlying27 h with ⟨e,_⟩|⟨a,len,cap,m,n,D,Pl,e,_,hl,hmx,hmm,_,hcell⟩
 ·simp only[List.cons.injEq,and_true] at e;subst e;exact⟨[],by simp,none,0,rfl,λk r d=>by simp at d⟩
 ·simp only[List.cons.injEq,and_true] at e;subst e;rw[z,if_pos rfl] at hmm;rw[I] at hcell
  have each:∀i,i<len->∃r:Kp.zg,ZH r/\r.who.length<=maxLen/\r.act.length<=maxLen/\r.on.length<=maxLen /\
   ∃c o g p q,some a=some ⟨c,o,none⟩/\(w.cell? ⟨c,o+i*10,none⟩=some (.bool r.deny)/\w.cell? ⟨c,o+i*10+1,none⟩=some g/\w.cell? ⟨c,o+i*10+2,none⟩=some p/\w.cell? ⟨c,o+i*10+3,none⟩=some q /\
    w.cell? ⟨c,o+i*10+4,none⟩=some (.int .i64 r.nt)/\w.cell? ⟨c,o+i*10+5,none⟩=some (.int .i64 r.iff)/\w.cell? ⟨c,o+i*10+6,none⟩=some (.int .i64 r.key)/\w.cell? ⟨c,o+i*10+7,none⟩=some (.int .i64 r.val) /\
    w.cell? ⟨c,o+i*10+8,none⟩=some (.bool r.no)/\w.cell? ⟨c,o+i*10+9,none⟩=some (.int .i64 r.style))/\IntsIn w g r.who/\IntsIn w p r.act/\IntsIn w q r.on:=by
   intro i R
   have u:∃b o,a=⟨b,o,none⟩:=by
    obtain⟨B,C,S⟩:=hcell 0 (by omega);obtain⟨_,K,s⟩:=World.cells?_some C
    have:=s 0 (by omega)
    rw[add_add,Nat.zero_mul,Nat.add_zero,List.getElem?_eq_getElem (by omega)] at this;exact plain_of_cell this
   obtain⟨c,o,rfl⟩:=u;obtain⟨A,E,G⟩:=hcell i (by omega);obtain⟨r,g,p,q,rfl,f,O,P,Q,L,M,N⟩:=MQ G z;obtain⟨_,_,t⟩:=World.cells?_some E
   have cell:∀j,j<10->w.cell? ⟨c,o+i*10+j,none⟩=[Value.bool r.deny,g,p,q,.int .i64 r.nt,.int .i64 r.iff,.int .i64 r.key,.int .i64 r.val,.bool r.no,.int .i64 r.style][j]?:=by
    intro j J
    have:=t j J
    rw[add_add,addr_add,<- Nat.add_assoc] at this;exact this
   exact⟨r,f,O,P,Q,c,o,g,p,q,rfl,⟨cell 0 (by omega),cell 1 (by omega),cell 2 (by omega),cell 3 (by omega),cell 4 (by omega),cell 5 (by omega),cell 6 (by omega),cell 7 (by omega),cell 8 (by omega),cell 9 (by omega)⟩,L,M,N⟩
  obtain⟨F,hF⟩:=choose_lt each;refine⟨(List.range len).map F,by rw[List.length_map,List.length_range];omega,some a,cap,by rw[List.length_map,List.length_range],λk r d=>?_⟩
  have y:k<len:=by
   have:=(List.getElem?_eq_some_iff.1 d).1
   rw[List.length_map,List.length_range] at this;exact this
  rw[List.getElem?_map,List.getElem?_range y] at d;simp only[Option.map_some,Option.some.injEq] at d;subst d;exact hF k y
end
end Go.Proofs.YtdakgnaojakldabGreatDoor
namespace Go.Proofs.YtdakgnaojakldabGreatDoor
open Go.RowKit
namespace Kp
def xe(raw:List Int)(i:Nat):BA:=words.getD (zk (raw.getD (i % raw.length) 0) 14) ⟨#[]⟩
def qM(raw:List Int):Ref.Req:=
 if raw.length=0 then ⟨⟨#[97,110,110]⟩,⟨#[114,101,97,100]⟩,⟨#[98,111,120,47,49]⟩,[]⟩
 else ⟨xe raw 0,xe raw 1,xe raw 2,(if 3<raw.length then [(⟨#[116,97,103]⟩,xe raw 3)] else [])++(if 4<raw.length then [(⟨#[97,103,101]⟩,xe raw 4)] else [])⟩
end Kp
theorem nJ(raw:List Int)(D:Value)(i:Nat)(w:World)(h:IntsIn w D raw)(y:0<raw.length)(K:i<=1000) :
  Calls prog 16 #[D,.int .i64 ((i:Nat):Int)] w λe H=>e = .returned (.string (Kp.xe raw i))/\Below w.heap.size w H:=by
 obtain⟨a,c,rfl,z⟩:=h;have b:i % raw.length<raw.length:=Nat.mod_lt _ y;obtain⟨q,J,o,rfl,r⟩:=z (i % raw.length) _ (List.getElem?_eq_getElem b);have j:raw.getD (i % raw.length) 0=raw[i % raw.length]:=by rw[List.getD_eq_getElem?_getD,List.getElem?_eq_getElem b];rfl
 unfold Kp.xe;rw[j];have l:Below w.heap.size w (w.alloc (.cells (Kp.words.map Value.string).toArray 9)):=nB w _;obtain⟨x,k⟩:=Nm (raw[i % raw.length]);rw[k] at q r |-;have B:=Kp.qO x 14 (by omega);have u:=nK w;have t:=λW=>vL x 14 W q (by omega) (by omega);have q2:=Z4 w Kp.words (Kp.zk x 14) B;have E:=zb l r;obtain⟨p,g⟩:=Nm (Kp.zk x 14);rw[g] at B t q2 |-;obtain⟨s,C⟩:=Nm (Kp.words.getD p ⟨#[]⟩);rw[C] at q2 |-;obtain⟨I,f⟩:∃W,w.alloc (.cells (Kp.words.map Value.string).toArray 9)=W:=⟨_,rfl⟩;rw[f] at u q2 E l;obtain⟨m,d⟩:=Nm (i % raw.length);have v:((i:Nat):Int) % ((raw.length:Nat):Int)=((m:Nat):Int):=by rw[<- d];omega
 have G:Int.tmod ((i:Nat):Int) ((raw.length:Nat):Int)=((m:Nat):Int):=by rw[Int.tmod_eq_emod_of_nonneg (by omega)];exact v
 rw[d] at b E;obtain⟨n,A⟩:=Nm raw.length;rw[A] at y b v G |-;have L:((n:Int)==0)=false:=by simp;omega
 have M:(0:Int)<=(m:Int):=Int.natCast_nonneg _;have N:(m:Int)<(n:Int):=by omega
 have O:(0:Int)<=(p:Int):=Int.natCast_nonneg _;have P:(p:Int)<14:=by omega
 have F:=hid l;clear z k g C f d A r j l q;go_enter func16,ntmps16
 go_upto_region 2 with (go_at_call 27;refine u.mono ?_;rintro e Q ⟨rfl,hw1⟩;obtain rfl:=hw1.symm)
 go_wp2_with (go_at_call 5;refine (t _).mono ?_;rintro e R ⟨rfl,hw2⟩;obtain rfl:=hw2.symm)
 go_ret;exact⟨rfl,F.out⟩
theorem Vq:∀k,k<14->Ref.yQ (Kp.words.getD k ⟨#[]⟩)=true:=by decide +kernel
theorem KU(raw:List Int)(i:Nat):Ref.yQ (Kp.xe raw i)=true:=Vq _ (Kp.qO _ 14 (by omega))
theorem mQ{s:BA}(h:Ref.yQ s=true):Ref.uP (⟨#[116,97,103]⟩,s)=true/\Ref.uP (⟨#[97,103,101]⟩,s)=true:=by
 unfold Ref.uP;simp only[h];exact⟨by decide +kernel,by decide +kernel⟩
theorem Y8(raw:List Int):Ref.xO (Kp.qM raw)=true:=by
 unfold Kp.qM
 split
 ·decide +kernel
 ·unfold Ref.xO;simp only[KU,Bool.true_and,Bool.and_eq_true,decide_eq_true_eq];obtain⟨a,_⟩:=mQ (KU raw 3);obtain⟨_,b⟩:=mQ (KU raw 4)
  constructor
  ·split<;>split<;>simp
  ·split<;>split<;>simp[a,b]
namespace Kp
def QV:List BA:=[⟨#[97]⟩,⟨#[98]⟩,⟨#[116,97,103]⟩,⟨#[97,103,101]⟩,⟨#[100,111,99]⟩,⟨#[122,122,122,122,122,122,122,122,122,122,122,122]⟩]
end Kp
theorem He(w:World) :
  Calls prog 11 #[] w λe a=>e = .returned (.slice (some ⟨w.heap.size,0,none⟩) 6 6)/\a=w.alloc (.cells (Kp.QV.map Value.string).toArray 9):=by
 go_enter func11,ntmps11
 go_wp2
 go_ret;exact⟨rfl,rfl⟩
theorem Ak:∀k,k<6->Ref.zM (Kp.QV.getD k ⟨#[]⟩)=true:=by decide +kernel
theorem au{raw:List Int}(h:raw.length<=3):(Kp.qM raw).marks=[]:=by
 unfold Kp.qM
 split
 ·rfl
 ·simp only;rw[if_neg (by omega),if_neg (by omega)]
  rfl
theorem pQ(w:World)(c:Nat)(a:Option Addr) :
  Calls prog 8 #[.slice a 0 c] w λe d=>e = .returned (Ref.qo (Kp.qM []) none 0)/\Below w.heap.size w d:=by
 have b:=λO:Obj=>nB w O;go_enter func8,ntmps8;go_wp2_with fail;exact bodyPost_ret (v:=Ref.qo (Kp.qM []) none 0) (by simp[results,results8,go_sem,Ref.qo,Kp.qM]) rfl ⟨rfl,b _⟩
def yK(a b c d:Value):Obj := .cells #[a,b,c,d] 42
theorem Kb{W:World}{b:Nat}{f g i j:Value}(h:W.heap[b]?=some (yK f g i j))(a c d e:Value) :
  ((((W.setCell ⟨b,0,none⟩ a).setCell ⟨b,1,none⟩ c).setCell ⟨b,2,none⟩ d).setCell ⟨b,3,none⟩ e).heap[b]?=some (yK a c d e):=by
 have k:=heap_setCell_same W b 0 _ _ a h;have l:=heap_setCell_same _ b 1 _ _ c k;have m:=heap_setCell_same _ b 2 _ _ d l;exact heap_setCell_same _ b 3 _ _ e m
theorem ME{W:World}{b:Nat}{g i j k:Value}(h:W.heap[b]?=some (yK g i j k))(a c d e:Value)(O:Obj) :
  (((((W.setCell ⟨b,0,none⟩ a).setCell ⟨b,1,none⟩ c).setCell ⟨b,2,none⟩ d).setCell ⟨b,3,none⟩ e).alloc O).heap[b]?=some (yK a c d e):=by
 have f:=Kb h a c d e;exact ((nB _ O).block b (lt_of_block f)).trans f
theorem pR(raw:List Int)(C:Value)(w:World)(h:IntsIn w C raw)(H:0<raw.length)(I:raw.length<=3) :
  Calls prog 8 #[C] w λe w'=>e = .returned (Ref.qo (Kp.qM raw) none 0)/\Below w.heap.size w w':=by
 have o:=λ(i:Nat) (V:i<=1000) (W:World) (U:Below w.heap.size w W)=>nJ raw C i W (h.below U) H V;have c0:=o 0 (by omega);have c1:=o 1 (by omega);have c2:=o 2 (by omega)
 have K:Ref.qo (Kp.qM raw) none 0 = .agg #[.string (Kp.xe raw 0),.string (Kp.xe raw 1),.string (Kp.xe raw 2),.slice none 0 0]:=by
  unfold Ref.qo;rw[au I];unfold Kp.qM;rw[if_neg (by omega)]
  rfl
 rw[K];obtain⟨q,j⟩:∃s,Kp.xe raw 0=s:=⟨_,rfl⟩;obtain⟨r,k⟩:∃s,Kp.xe raw 1=s:=⟨_,rfl⟩;obtain⟨t,l⟩:∃s,Kp.xe raw 2=s:=⟨_,rfl⟩;rw[j] at c0 |-;rw[k] at c1 |-;rw[l] at c2 |-;obtain⟨a,c,rfl,_⟩:=h;obtain⟨m,d⟩:∃W,w.alloc (yK (.string ⟨#[]⟩) (.string ⟨#[]⟩) (.string ⟨#[]⟩) (.slice none 0 0))=W:=⟨_,rfl⟩;have G:Below w.heap.size w m:=by rw[<- d];exact nB w _
 have L:m.heap[w.heap.size]?=some (yK (.string ⟨#[]⟩) (.string ⟨#[]⟩) (.string ⟨#[]⟩) (.slice none 0 0)):=by rw[<- d];exact heap_alloc_new w _
 have T:Hid (w.alloc (.cells #[.string ⟨#[]⟩,.string ⟨#[]⟩,.string ⟨#[]⟩,.slice none 0 0] 42)=m):=hid d;obtain⟨n,J⟩:=Nm raw.length;rw[J] at H I c0 c1 c2 |-;have k0:((n:Int)==0)=false:=by simp;omega
 have k3:decide ((3:Int)<(n:Int))=false:=decide_eq_false (by omega);have k4:decide ((4:Int)<(n:Int))=false:=decide_eq_false (by omega);have Q:=hid c0;have R:=hid c1;have S:=hid c2;have u:=hid G;have D:=hid L;clear o c0 c1 c2 K j k l d G L J;go_enter func8,ntmps8
 go_upto_region 1 with fail
 rw[T.out]
 go_upto_region 4 with (first
  | (go_at_call 16;refine (S.out w3 y.out).mono ?_;rintro e w4 ⟨rfl,B⟩;have P:=hid (y.out.trans (B.mono y.out.size));have b:=hid ((B.block _ (lt_of_block F.out)).trans F.out);clear B)
  | (go_at_call 16;refine (R.out w2 x.out).mono ?_;rintro e w3 ⟨rfl,A⟩;have y:=hid (x.out.trans (A.mono x.out.size));have F:=hid ((A.block _ (lt_of_block E.out)).trans E.out);clear A)
  | (go_at_call 16;refine (Q.out m u.out).mono ?_;rintro e w2 ⟨rfl,z⟩;have x:=hid (u.out.trans (z.mono u.out.size));have E:=hid ((z.block _ (lt_of_block D.out)).trans D.out);clear z))
 have X:w.heap.size<w4.heap.size:=lt_of_block b.out;have y0:=(za b.out 0).1;have y1:=(za b.out 1).1;have y2:=(za b.out 2).1;have y3:=(za b.out 3).1;have Y:=(za b.out 0).2;have Z:=(za b.out 1).2;have t2:=(za b.out 2).2;have t3:=(za b.out 3).2;simp at y0 y1 y2 y3 Y Z t2 t3;have g:=ME b.out (.string q) (.string r) (.string t) (.slice none 0 0) (.cells #[.string q,.string r,.string t,.slice none 0 0] 42);have r0:=(za g 0).1;have M:=(za g 1).1;have N:=(za g 2).1;have O:=(za g 3).1;simp at r0 M N O;have f:=hid ((((P.out.setCell (p:=⟨w.heap.size,0,none⟩) (Nat.le_refl _) (.string q)).setCell (p:=⟨w.heap.size,1,none⟩) (Nat.le_refl _) (.string r)).setCell (p:=⟨w.heap.size,2,none⟩) (Nat.le_refl _) (.string t)).setCell (p:=⟨w.heap.size,3,none⟩) (Nat.le_refl _) (.slice none 0 0));clear g;go_wp2_with fail;exact bodyPost_ret (v := .agg #[.string q,.string r,.string t,.slice none 0 0]) (by simp[results,results8,go_sem,r0,M,N,O]) rfl ⟨rfl,f.out.alloc f.out.size _⟩
end Go.Proofs.YtdakgnaojakldabGreatDoor
