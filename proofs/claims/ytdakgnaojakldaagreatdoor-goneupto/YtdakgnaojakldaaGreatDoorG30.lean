/- P -/
import Derived.Test.YtdakgnaojakldaaGreatDoorG29
import Derived.Deep.AppendLies
open Go.Proofs.Tryz
set_option maxRecDepth 100000
set_option maxHeartbeats 4000000
namespace Go.Proofs.YtdakgnaojakldaaGreatDoor
open Go.RowKit
end Go.Proofs.YtdakgnaojakldaaGreatDoor
namespace Go.Proofs.YtdakgnaojakldaaGreatDoor
open laws Go.ChangeShapes Go.WideShapes Go.ChangeAt Go.RowKit Go.Joins Go.Deep
theorem wf_i64{n:Int}(h:(Lit.int .i64 n).wf=true):I64 n:=by
 have a:(decide (IntKind.min .i64<=n)&&decide (n<=IntKind.max .i64))=true:=h;rw[Bool.and_eq_true,decide_eq_true_eq,decide_eq_true_eq] at a;exact a
instance:Inhabited Kp.zl:=⟨Kp.xu⟩
section
variable {H:Type} {enc:TypeId×Value->H} {w:World} {spare:Nat->Bool} {held:Bool}
theorem plain_of_cell{w:World}{a:Addr}{v:Value}(h:w.cell? (a.add 0)=some v):∃b o,a=⟨b,o,none⟩:=by
 obtain⟨b,o,s⟩:=a;have c:w.cell? ⟨b,o,s⟩=some v:=h
 cases s with
 | none=>exact⟨b,o,rfl⟩
 | some x=>
  unfold World.cell? at c
  split at c
  ·simp at c
  ·cases c
theorem Vt{fuel:Nat}{v:Value}{x:DataW H×List MemPlace}(h:DataW.trod enc prog w 0 spare held fuel 30 [v]=some x)(j:∀b,spare b=true):∃l:List Int,l.length<=maxLen/\IntsIn w v l:=by
 rcases open_ints underlying30 underlying3 (by kernel_rfl) h with ⟨e,_⟩|⟨a,len,cap,zs,e,_,hl,hmx,hzl,_,hcell,hwf⟩
 ·simp only[List.cons.injEq,and_true] at e;subst e;exact⟨[],by simp,Vs w⟩
 ·simp only[List.cons.injEq,and_true] at e;subst e;rw[j,if_pos rfl] at hzl;refine⟨zs.take len,by rw[List.length_take];omega,some a,cap,by rw[List.length_take,Nat.min_eq_left (by omega)],λk x c=>?_⟩;have i:k<(zs.take len).length:=(List.getElem?_eq_some_iff.1 c).1;rw[List.length_take] at i;have d:zs[k]?=some x:=by rw[List.getElem?_take] at c;split at c;exact c;cases c
  have f:x ∈ zs:=List.mem_of_getElem? d;obtain⟨b,o,rfl⟩:=plain_of_cell (hcell 0 (by omega));have g:=hcell k (by omega);rw[addr_add,List.getD_eq_getElem?_getD,d] at g;exact⟨wf_i64 (hwf x f),b,o,rfl,g⟩
theorem Pm{fuel:Nat}{cs:List Value}{x:DataW H×List MemPlace}(h:DataW.trod enc prog w 0 spare held fuel 66 cs=some x)(u:∀b,spare b=true) :
  ∃(r:Kp.zl) (v y z:Value),cs=[.bool r.deny,v,y,z,.int .i64 r.nt,.int .i64 r.iff,.int .i64 r.key,.int .i64 r.val,.bool r.no,.int .i64 r.style]/\XT r/\r.who.length<=maxLen/\r.act.length<=maxLen/\r.on.length<=maxLen/\IntsIn w v r.who/\IntsIn w y r.act/\IntsIn w z r.on:=by
 obtain⟨xs,n,_,rfl,_,_,_⟩:=DataW.trod_struct underlying66 h;have c3:prog.cellsOf 3=1:=by kernel_rfl
 have c4:prog.cellsOf 4=1:=by kernel_rfl
 have d:prog.cellsOf 30=1:=by kernel_rfl
 obtain⟨Y,c⟩:=V9 underlying66 (λj f a=>by
  match j,a with
  | 0,a=>simp at a;subst a;exact⟨rfl,c4⟩
  | 1,a=>simp at a;subst a;exact⟨rfl,d⟩
  | 2,a=>simp at a;subst a;exact⟨rfl,d⟩
  | 3,a=>simp at a;subst a;exact⟨rfl,d⟩
  | 4,a=>simp at a;subst a;exact⟨rfl,c3⟩
  | 5,a=>simp at a;subst a;exact⟨rfl,c3⟩
  | 6,a=>simp at a;subst a;exact⟨rfl,c3⟩
  | 7,a=>simp at a;subst a;exact⟨rfl,c3⟩
  | 8,a=>simp at a;subst a;exact⟨rfl,c4⟩
  | 9,a=>simp at a;subst a;exact⟨rfl,c3⟩
  | j+10,a=>simp at a) (by kernel_rfl) h
 obtain⟨v0,d0,p0,n0,g,_,O⟩:=c 0 _ rfl;obtain⟨v,d1,p1,n1,i,_,P⟩:=c 1 _ rfl;obtain⟨y,d2,p2,n2,k,_,Q⟩:=c 2 _ rfl;obtain⟨z,d3,p3,n3,l,_,R⟩:=c 3 _ rfl;obtain⟨v4,d4,p4,n4,m,_,S⟩:=c 4 _ rfl;obtain⟨v5,d5,p5,n5,o,_,T⟩:=c 5 _ rfl;obtain⟨v6,d6,p6,n6,p,_,U⟩:=c 6 _ rfl;obtain⟨v7,d7,p7,n7,q,_,V⟩:=c 7 _ rfl;obtain⟨v8,d8,p8,n8,s,_,W⟩:=c 8 _ rfl;obtain⟨v9,d9,p9,n9,t,_,X⟩:=c 9 _ rfl;have e:cs.length=10:=Y
 match cs,e with
 | [u0,u1,u2,u3,u4,u5,u6,u7,u8,u9],_=>
  simp only[List.getElem?_cons_zero,List.getElem?_cons_succ,Option.some.injEq] at g i k l m o p q s t;subst g i k l m o p q s t;obtain⟨b0,A,_⟩:=DataW.trod_bool underlying4 O;obtain⟨l1,m1,Z⟩:=Vt P u;obtain⟨l2,m2,i2⟩:=Vt Q u;obtain⟨l3,m3,i3⟩:=Vt R u;obtain⟨k4,B,_,J⟩:=DataW.trod_int underlying3 S;obtain⟨k5,C,_,K⟩:=DataW.trod_int underlying3 T;obtain⟨k6,D,_,L⟩:=DataW.trod_int underlying3 U;obtain⟨k7,E,_,M⟩:=DataW.trod_int underlying3 V;obtain⟨I,F,_⟩:=DataW.trod_bool underlying4 W;obtain⟨k9,G,_,N⟩:=DataW.trod_int underlying3 X;simp only[List.cons.injEq,and_true] at A B C D E F G;subst A B C D E F G;exact⟨⟨b0,l1,l2,l3,k4,k5,k6,k7,I,k9⟩,u1,u2,u3,rfl,⟨wf_i64 J,wf_i64 K,wf_i64 L,wf_i64 M,wf_i64 N⟩,m1,m2,m3,Z,i2,i3⟩
theorem oO{fuel:Nat}{v:Value}{x:DataW H×List MemPlace}(h:DataW.trod enc prog w 0 spare held fuel 32 [v]=some x)(z:∀b,spare b=true):∃l:List Kp.zl,l.length<=maxLen/\kH w v l:=by
 have I:prog.cellsOf 66=10:=by kernel_rfl
 rcases open_slice underlying32 h with ⟨e,_⟩|⟨a,len,cap,m,n,D,Pl,e,_,hl,hmx,hmm,_,hcell⟩
 ·simp only[List.cons.injEq,and_true] at e;subst e;exact⟨[],by simp,none,0,rfl,λk r d=>by simp at d⟩
 ·simp only[List.cons.injEq,and_true] at e;subst e;rw[z,if_pos rfl] at hmm;rw[I] at hcell
  have each:∀i,i<len->∃r:Kp.zl,XT r/\r.who.length<=maxLen/\r.act.length<=maxLen/\r.on.length<=maxLen /\
   ∃c o g p q,some a=some ⟨c,o,none⟩/\(w.cell? ⟨c,o+i*10,none⟩=some (.bool r.deny)/\w.cell? ⟨c,o+i*10+1,none⟩=some g/\w.cell? ⟨c,o+i*10+2,none⟩=some p/\w.cell? ⟨c,o+i*10+3,none⟩=some q /\
    w.cell? ⟨c,o+i*10+4,none⟩=some (.int .i64 r.nt)/\w.cell? ⟨c,o+i*10+5,none⟩=some (.int .i64 r.iff)/\w.cell? ⟨c,o+i*10+6,none⟩=some (.int .i64 r.key)/\w.cell? ⟨c,o+i*10+7,none⟩=some (.int .i64 r.val) /\
    w.cell? ⟨c,o+i*10+8,none⟩=some (.bool r.no)/\w.cell? ⟨c,o+i*10+9,none⟩=some (.int .i64 r.style))/\IntsIn w g r.who/\IntsIn w p r.act/\IntsIn w q r.on:=by
   intro i hi
   have u:∃b o,a=⟨b,o,none⟩:=by
    obtain⟨B,C,R⟩:=hcell 0 (by omega);obtain⟨_,K,s⟩:=World.cells?_some C
    have:=s 0 (by omega)
    rw[add_add,Nat.zero_mul,Nat.add_zero,List.getElem?_eq_getElem (by omega)] at this;exact plain_of_cell this
   obtain⟨c,o,rfl⟩:=u;obtain⟨A,E,G⟩:=hcell i (by omega);obtain⟨r,g,p,q,rfl,f,O,P,Q,L,M,N⟩:=Pm G z;obtain⟨_,_,t⟩:=World.cells?_some E
   have cell:∀j,j<10->w.cell? ⟨c,o+i*10+j,none⟩=[Value.bool r.deny,g,p,q,.int .i64 r.nt,.int .i64 r.iff,.int .i64 r.key,.int .i64 r.val,.bool r.no,.int .i64 r.style][j]?:=by
    intro j J
    have:=t j J
    rw[add_add,addr_add,<- Nat.add_assoc] at this;exact this
   exact⟨r,f,O,P,Q,c,o,g,p,q,rfl,⟨cell 0 (by omega),cell 1 (by omega),cell 2 (by omega),cell 3 (by omega),cell 4 (by omega),cell 5 (by omega),cell 6 (by omega),cell 7 (by omega),cell 8 (by omega),cell 9 (by omega)⟩,L,M,N⟩
  obtain⟨F,hF⟩:=choose_lt each;refine⟨(List.range len).map F,by rw[List.length_map,List.length_range];omega,some a,cap,by rw[List.length_map,List.length_range],λk r d=>?_⟩
  have y:k<len:=by
   have:=(List.getElem?_eq_some_iff.1 d).1
   rw[List.length_map,List.length_range] at this;exact this
  rw[List.getElem?_map,List.getElem?_range y] at d;simp only[Option.map_some,Option.some.injEq] at d;subst d;exact hF k y
end
end Go.Proofs.YtdakgnaojakldaaGreatDoor
namespace Go.Proofs.YtdakgnaojakldaaGreatDoor
open Go.RowKit
namespace Kp
def xx(raw:List Int)(i:Nat):BA:=words.getD (zk (raw.getD (i % raw.length) 0) 14) ⟨#[]⟩
def qy(raw:List Int):Ref.Req:=
 if raw.length=0 then ⟨⟨#[97,110,110]⟩,⟨#[114,101,97,100]⟩,⟨#[98,111,120,47,49]⟩,[]⟩
 else ⟨xx raw 0,xx raw 1,xx raw 2,(if 3<raw.length then [(⟨#[116,97,103]⟩,xx raw 3)] else [])++(if 4<raw.length then [(⟨#[97,103,101]⟩,xx raw 4)] else [])⟩
end Kp
theorem sI(raw:List Int)(lv:Value)(i:Nat)(w:World)(h:IntsIn w lv raw)(y:0<raw.length)(hi:i<=1000) :
  Calls prog 47 #[lv,.int .i64 ((i:Nat):Int)] w λe G=>e = .returned (.string (Kp.xx raw i))/\Below w.heap.size w G:=by
 obtain⟨a,c,rfl,z⟩:=h;have b:i % raw.length<raw.length:=Nat.mod_lt _ y;obtain⟨q,I,o,rfl,r⟩:=z (i % raw.length) _ (List.getElem?_eq_getElem b);have j:raw.getD (i % raw.length) 0=raw[i % raw.length]:=by rw[List.getD_eq_getElem?_getD,List.getElem?_eq_getElem b];rfl
 unfold Kp.xx;rw[j];have l:Below w.heap.size w (w.alloc (.cells (Kp.words.map Value.string).toArray 9)):=nB w _;obtain⟨x,k⟩:=Nm (raw[i % raw.length]);rw[k] at q r |-;have B:=Kp.qP x 14 (by omega);have u:=sJ w;have t:=λW=>uf x 14 W q (by omega) (by omega);have q2:=Qo w Kp.words (Kp.zk x 14) B;have D:=zb l r;obtain⟨p,g⟩:=Nm (Kp.zk x 14);rw[g] at B t q2 |-;obtain⟨s,C⟩:=Nm (Kp.words.getD p ⟨#[]⟩);rw[C] at q2 |-;obtain⟨H,f⟩:∃W,w.alloc (.cells (Kp.words.map Value.string).toArray 9)=W:=⟨_,rfl⟩;rw[f] at u q2 D l;obtain⟨m,d⟩:=Nm (i % raw.length);have v:((i:Nat):Int) % ((raw.length:Nat):Int)=((m:Nat):Int):=by rw[<- d];omega
 have F:Int.tmod ((i:Nat):Int) ((raw.length:Nat):Int)=((m:Nat):Int):=by rw[Int.tmod_eq_emod_of_nonneg (by omega)];exact v
 rw[d] at b D;obtain⟨n,A⟩:=Nm raw.length;rw[A] at y b v F |-;have J:((n:Int)==0)=false:=by simp;omega
 have K:(0:Int)<=(m:Int):=Int.natCast_nonneg _;have L:(m:Int)<(n:Int):=by omega
 have M:(0:Int)<=(p:Int):=Int.natCast_nonneg _;have N:(p:Int)<14:=by omega
 have E:=hid l;clear z k g C f d A r j l q;go_enter func47,ntmps47
 go_upto_region 2 with (go_at_call 91;refine u.mono ?_;rintro e O ⟨rfl,hw1⟩;obtain rfl:=hw1.symm)
 go_wp2_with (go_at_call 19;refine (t _).mono ?_;rintro e P ⟨rfl,hw2⟩;obtain rfl:=hw2.symm)
 go_ret;exact⟨rfl,E.out⟩
theorem Uf:∀k,k<14->Ref.je (Kp.words.getD k ⟨#[]⟩)=true:=by decide +kernel
theorem bU(raw:List Int)(i:Nat):Ref.je (Kp.xx raw i)=true:=Uf _ (Kp.qP _ 14 (by omega))
theorem rO{s:BA}(h:Ref.je s=true):Ref.ku (⟨#[116,97,103]⟩,s)=true/\Ref.ku (⟨#[97,103,101]⟩,s)=true:=by
 unfold Ref.ku;simp only[h];exact⟨by decide +kernel,by decide +kernel⟩
theorem JV(raw:List Int):Ref.xY (Kp.qy raw)=true:=by
 unfold Kp.qy
 split
 ·decide +kernel
 ·unfold Ref.xY;simp only[bU,Bool.true_and,Bool.and_eq_true,decide_eq_true_eq];obtain⟨a,_⟩:=rO (bU raw 3);obtain⟨_,b⟩:=rO (bU raw 4)
  constructor
  ·split<;>split<;>simp
  ·split<;>split<;>simp[a,b]
namespace Kp
def Qf:List BA:=[⟨#[97]⟩,⟨#[98]⟩,⟨#[116,97,103]⟩,⟨#[97,103,101]⟩,⟨#[100,111,99]⟩,⟨#[122,122,122,122,122,122,122,122,122,122,122,122]⟩]
end Kp
theorem lX(w:World) :
  Calls prog 28 #[] w λe a=>e = .returned (.slice (some ⟨w.heap.size,0,none⟩) 6 6)/\a=w.alloc (.cells (Kp.Qf.map Value.string).toArray 9):=by
 go_enter func28,ntmps28
 go_wp2
 go_ret;exact⟨rfl,rfl⟩
theorem Df:∀k,k<6->Ref.zO (Kp.Qf.getD k ⟨#[]⟩)=true:=by decide +kernel
theorem dG{raw:List Int}(h:raw.length<=3):(Kp.qy raw).marks=[]:=by
 unfold Kp.qy
 split
 ·rfl
 ·simp only;rw[if_neg (by omega),if_neg (by omega)]
  rfl
theorem wV(w:World)(c:Nat)(a:Option Addr) :
  Calls prog 26 #[.slice a 0 c] w λe d=>e = .returned (Ref.qi (Kp.qy []) none 0)/\Below w.heap.size w d:=by
 have b:=λO:Obj=>nB w O;go_enter func26,ntmps26;go_wp2_with fail;exact bodyPost_ret (v:=Ref.qi (Kp.qy []) none 0) (by simp[results,results26,go_sem,Ref.qi,Kp.qy]) rfl ⟨rfl,b _⟩
def y9(a b c d:Value):Obj := .cells #[a,b,c,d] 53
theorem aG{W:World}{b:Nat}{f g i j:Value}(h:W.heap[b]?=some (y9 f g i j))(a c d e:Value) :
  ((((W.setCell ⟨b,0,none⟩ a).setCell ⟨b,1,none⟩ c).setCell ⟨b,2,none⟩ d).setCell ⟨b,3,none⟩ e).heap[b]?=some (y9 a c d e):=by
 have k:=heap_setCell_same W b 0 _ _ a h;have l:=heap_setCell_same _ b 1 _ _ c k;have m:=heap_setCell_same _ b 2 _ _ d l;exact heap_setCell_same _ b 3 _ _ e m
theorem OZ{W:World}{b:Nat}{g i j k:Value}(h:W.heap[b]?=some (y9 g i j k))(a c d e:Value)(O:Obj) :
  (((((W.setCell ⟨b,0,none⟩ a).setCell ⟨b,1,none⟩ c).setCell ⟨b,2,none⟩ d).setCell ⟨b,3,none⟩ e).alloc O).heap[b]?=some (y9 a c d e):=by
 have f:=aG h a c d e;exact ((nB _ O).block b (lt_of_block f)).trans f
theorem wW(raw:List Int)(lv:Value)(w:World)(h:IntsIn w lv raw)(G:0<raw.length)(H:raw.length<=3) :
  Calls prog 26 #[lv] w λe Z=>e = .returned (Ref.qi (Kp.qy raw) none 0)/\Below w.heap.size w Z:=by
 have o:=λ(i:Nat) (hi:i<=1000) (W:World) (hb:Below w.heap.size w W)=>sI raw lv i W (h.below hb) G hi;have c0:=o 0 (by omega);have c1:=o 1 (by omega);have c2:=o 2 (by omega)
 have J:Ref.qi (Kp.qy raw) none 0 = .agg #[.string (Kp.xx raw 0),.string (Kp.xx raw 1),.string (Kp.xx raw 2),.slice none 0 0]:=by
  unfold Ref.qi;rw[dG H];unfold Kp.qy;rw[if_neg (by omega)]
  rfl
 rw[J];obtain⟨q,j⟩:∃s,Kp.xx raw 0=s:=⟨_,rfl⟩;obtain⟨r,k⟩:∃s,Kp.xx raw 1=s:=⟨_,rfl⟩;obtain⟨t,l⟩:∃s,Kp.xx raw 2=s:=⟨_,rfl⟩;rw[j] at c0 |-;rw[k] at c1 |-;rw[l] at c2 |-;obtain⟨a,c,rfl,_⟩:=h;obtain⟨m,d⟩:∃W,w.alloc (y9 (.string ⟨#[]⟩) (.string ⟨#[]⟩) (.string ⟨#[]⟩) (.slice none 0 0))=W:=⟨_,rfl⟩;have F:Below w.heap.size w m:=by rw[<- d];exact nB w _
 have K:m.heap[w.heap.size]?=some (y9 (.string ⟨#[]⟩) (.string ⟨#[]⟩) (.string ⟨#[]⟩) (.slice none 0 0)):=by rw[<- d];exact heap_alloc_new w _
 have S:Hid (w.alloc (.cells #[.string ⟨#[]⟩,.string ⟨#[]⟩,.string ⟨#[]⟩,.slice none 0 0] 53)=m):=hid d;obtain⟨n,I⟩:=Nm raw.length;rw[I] at G H c0 c1 c2 |-;have k0:((n:Int)==0)=false:=by simp;omega
 have k3:decide ((3:Int)<(n:Int))=false:=decide_eq_false (by omega);have k4:decide ((4:Int)<(n:Int))=false:=decide_eq_false (by omega);have P:=hid c0;have Q:=hid c1;have R:=hid c2;have u:=hid F;have C:=hid K;clear o c0 c1 c2 J j k l d F K I;go_enter func26,ntmps26
 go_upto_region 1 with fail
 rw[S.out]
 go_upto_region 4 with (first
  | (go_at_call 47;refine (R.out w3 y.out).mono ?_;rintro e w4 ⟨rfl,B⟩;have O:=hid (y.out.trans (B.mono y.out.size));have b:=hid ((B.block _ (lt_of_block E.out)).trans E.out);clear B)
  | (go_at_call 47;refine (Q.out w2 x.out).mono ?_;rintro e w3 ⟨rfl,A⟩;have y:=hid (x.out.trans (A.mono x.out.size));have E:=hid ((A.block _ (lt_of_block D.out)).trans D.out);clear A)
  | (go_at_call 47;refine (P.out m u.out).mono ?_;rintro e w2 ⟨rfl,z⟩;have x:=hid (u.out.trans (z.mono u.out.size));have D:=hid ((z.block _ (lt_of_block C.out)).trans C.out);clear z))
 have T:w.heap.size<w4.heap.size:=lt_of_block b.out;have y0:=(za b.out 0).1;have y1:=(za b.out 1).1;have y2:=(za b.out 2).1;have y3:=(za b.out 3).1;have U:=(za b.out 0).2;have V:=(za b.out 1).2;have X:=(za b.out 2).2;have Y:=(za b.out 3).2;simp at y0 y1 y2 y3 U V X Y;have g:=OZ b.out (.string q) (.string r) (.string t) (.slice none 0 0) (.cells #[.string q,.string r,.string t,.slice none 0 0] 53);have r0:=(za g 0).1;have L:=(za g 1).1;have M:=(za g 2).1;have N:=(za g 3).1;simp at r0 L M N;have f:=hid ((((O.out.setCell (p:=⟨w.heap.size,0,none⟩) (Nat.le_refl _) (.string q)).setCell (p:=⟨w.heap.size,1,none⟩) (Nat.le_refl _) (.string r)).setCell (p:=⟨w.heap.size,2,none⟩) (Nat.le_refl _) (.string t)).setCell (p:=⟨w.heap.size,3,none⟩) (Nat.le_refl _) (.slice none 0 0));clear g;go_wp2_with fail;exact bodyPost_ret (v := .agg #[.string q,.string r,.string t,.slice none 0 0]) (by simp[results,results26,go_sem,r0,L,M,N]) rfl ⟨rfl,f.out.alloc f.out.size _⟩
def cK(w:World)(r:Ref.Req)(e:Ending)(a:World):Prop:=∃ao cap,e = .returned (Ref.qi r ao cap)/\xB a ao r.marks/\Below w.heap.size w a
theorem LA{W:World}{B g cap:Nat}{n s:BA}(h:W.ownsRow B 62 2 (.slice (some ⟨g,0,none⟩) 1 cap) 1 [.string n,.string s]):xB W (some ⟨g,0,none⟩) [(n,s)]:=by
 have c0:=World.ownsRow.cellAt h 0 (by omega);have c1:=World.ownsRow.cellAt h 1 (by omega);refine .inr ⟨g,0,rfl,λj b=>?_⟩;have a:j=0:=by simp at b;exact b
 subst a;exact⟨c0,c1⟩
theorem LB{W:World}{B g cap:Nat}{n s b c:BA}(h:W.ownsRow B 62 2 (.slice (some ⟨g,0,none⟩) 2 cap) 2 [.string n,.string s,.string b,.string c]):xB W (some ⟨g,0,none⟩) [(n,s),(b,c)]:=by
 have c0:=World.ownsRow.cellAt h 0 (by omega);have c1:=World.ownsRow.cellAt h 1 (by omega);have c2:=World.ownsRow.cellAt h 2 (by omega);have c3:=World.ownsRow.cellAt h 3 (by omega);refine .inr ⟨g,0,rfl,λj d=>?_⟩;have a:j=0\/j=1:=by simp at d;omega
 rcases a with rfl|rfl
 ·exact⟨c0,c1⟩
 ·exact⟨c2,c3⟩
theorem Lu:(prog.info? 62).map (λi=>(i.zero,i.size,i.bytes))=some (some (.agg #[.string ⟨#[]⟩,.string ⟨#[]⟩]),2,32):=by kernel_rfl
theorem wU(raw:List Int)(lv:Value)(w:World)(h:IntsIn w lv raw)(h4:3<raw.length) :
  Calls prog 26 #[lv] w (cK w (Kp.qy raw)):=by
 have h0:0<raw.length:=by omega
 have X:=λ(i:Nat) (hi:i<=1000) (W:World) (hb:Below w.heap.size w W)=>sI raw lv i W (h.below hb) h0 hi;have c0:=X 0 (by omega);have c1:=X 1 (by omega);have c2:=X 2 (by omega);have c3:=X 3 (by omega);have c4:=X 4 (by omega)
 have hv:Kp.qy raw=⟨Kp.xx raw 0,Kp.xx raw 1,Kp.xx raw 2,(⟨#[116,97,103]⟩,Kp.xx raw 3)::(if 4<raw.length then [(⟨#[97,103,101]⟩,Kp.xx raw 4)] else [])⟩:=by
  unfold Kp.qy;rw[if_neg (by omega),if_pos h4]
  rfl
 rw[hv];obtain⟨r,b0⟩:∃s,Kp.xx raw 0=s:=⟨_,rfl⟩;obtain⟨u,b6⟩:∃s,Kp.xx raw 1=s:=⟨_,rfl⟩;obtain⟨y,b8⟩:∃s,Kp.xx raw 2=s:=⟨_,rfl⟩;obtain⟨s3,b9⟩:∃s,Kp.xx raw 3=s:=⟨_,rfl⟩;obtain⟨s4,c5⟩:∃s,Kp.xx raw 4=s:=⟨_,rfl⟩;rw[b0] at c0 |-;rw[b6] at c1 |-;rw[b8] at c2 |-;rw[b9] at c3 |-;rw[c5] at c4 |-;obtain⟨a,c,rfl,_⟩:=h;obtain⟨W1,G⟩:∃W,w.alloc (y9 (.string ⟨#[]⟩) (.string ⟨#[]⟩) (.string ⟨#[]⟩) (.slice none 0 0))=W:=⟨_,rfl⟩;have b1:Below w.heap.size w W1:=by rw[<- G];exact nB w _
 have n1:W1.heap[w.heap.size]?=some (y9 (.string ⟨#[]⟩) (.string ⟨#[]⟩) (.string ⟨#[]⟩) (.slice none 0 0)):=by rw[<- G];exact heap_alloc_new w _
 have HW:Hid (w.alloc (.cells #[.string ⟨#[]⟩,.string ⟨#[]⟩,.string ⟨#[]⟩,.slice none 0 0] 53)=W1):=hid G;obtain⟨n,hn⟩:=Nm raw.length;rw[hn] at h0 h4 c0 c1 c2 c3 c4 |-;have k0:((n:Int)==0)=false:=by simp;omega
 have k3:decide ((3:Int)<(n:Int))=true:=decide_eq_true (by omega);have C0:=hid c0;have C1:=hid c1;have C2:=hid c2;have C3:=hid c3;have C4:=hid c4;have B1:=hid b1;have N1:=hid n1;obtain⟨i0,hi,c6,c7,c8⟩:=info_parts Lu;obtain⟨Ms,l⟩:∃M,(if 4<n then [((⟨#[97,103,101]⟩:BA),s4)] else [])=M:=⟨_,rfl⟩
 rw[l];have a1:=hid l;clear l;clear X c0 c1 c2 c3 c4 hv b0 b6 b8 b9 c5 G b1 n1 hn;go_enter func26,ntmps26
 go_upto_region 1 with fail
 rw[HW.out]
 go_upto_region 4 with (first
  | (go_at_call 47;refine (C2.out w3 B3.out).mono ?_;rintro e Z ⟨rfl,b4⟩;have B4:=hid (B3.out.trans (b4.mono B3.out.size));have N4:=hid ((b4.block _ (lt_of_block N3.out)).trans N3.out);clear b4)
  | (go_at_call 47;refine (C1.out w2 B2.out).mono ?_;rintro e w3 ⟨rfl,b3⟩;have B3:=hid (B2.out.trans (b3.mono B2.out.size));have N3:=hid ((b3.block _ (lt_of_block N2.out)).trans N2.out);clear b3)
  | (go_at_call 47;refine (C0.out W1 B1.out).mono ?_;rintro e w2 ⟨rfl,b2⟩;have B2:=hid (B1.out.trans (b2.mono B1.out.size));have N2:=hid ((b2.block _ (lt_of_block N1.out)).trans N1.out);clear b2))
 obtain⟨V,hV⟩:=Nm (Z.alloc (.cells #[.string r,.string u,.string y,.slice none 0 0] 53));rw[hV]
 go_upto_region 5 with fail
 have Y:V.heap[Z.heap.size]?=some (y9 (.string r) (.string u) (.string y) (.slice none 0 0)):=by rw[<- hV];exact heap_alloc_new Z _
 have bV:Below w.heap.size w V:=by rw[<- hV];exact B4.out.alloc B4.out.size _
 have a3:V.heap[w.heap.size]?=some (y9 (.string ⟨#[]⟩) (.string ⟨#[]⟩) (.string ⟨#[]⟩) (.slice none 0 0)):=by
  rw[<- hV];exact ((nB Z _).block _ (lt_of_block N4.out)).trans N4.out
 have zV:=lt_of_block Y;have S:w.heap.size<Z.heap.size:=lt_of_block N4.out;obtain⟨f,a9⟩:∃x,Z.heap.size=x:=⟨_,rfl⟩;rw[a9] at Y zV S |-;have B:=(za Y 3).1;have K:=(za Y 3).2;simp at B K;have NV:=hid Y;have U:=hid bV;have NW:=hid a3;clear hV Y bV a3 a9 N4 B4
 go_cut [] (λwc=>∃g cap,wc.heap[f]?=some (y9 (.string r) (.string u) (.string y) (.slice (some ⟨g,0,none⟩) 1 cap))/\wc.ownsRow (f+1) 62 2 (.slice (some ⟨g,0,none⟩) 1 cap) 1 [.string ⟨#[116,97,103]⟩,.string s3]/\Below w.heap.size w wc/\wc.heap[w.heap.size]?=some (y9 (.string ⟨#[]⟩) (.string ⟨#[]⟩) (.string ⟨#[]⟩) (.slice none 0 0)))
 case first=>
  go_region_law (first
   | (go_simp;go_at_call 47;refine (C3.out _ (by first|exact U.out.drew|exact U.out|exact U.out.drew.drew)).mono ?_;rintro e o ⟨rfl,z⟩;have Q:o.heap[f]?=some (y9 (.string r) (.string u) (.string y) (.slice none 0 0)):=(z.block f zV).trans NV.out;have D:=(z.block w.heap.size (Nat.lt_trans S zV)).trans NW.out;have F:=lt_of_block Q;have g5:=zb z B;have f5:=(z.frozen (p:=⟨f,3,none⟩) zV).trans K;have N:=λO:Obj=>zb (nB o O) g5;have L:=λO:Obj=>((nB o O).frozen (p:=⟨f,3,none⟩) F).trans f5;have B5:Hid (Below w.heap.size w o):=hid (U.out.drew.trans (z.mono U.out.size));have N5:=hid Q;have A:=hid D;clear z Q D)
   | (refine step_append_lies _ (by rfl) _ _ _ (by rfl) (f+1) 62 i0 _ 2 32 underlying51 hi c6 c7 c8 rfl (by omega) (.slice none 0 0) 0 [] (by rfl) (World.ownsRow_nil _ _ _ _) ⟨o.heap.size,0,none⟩ 1 1 [.string ⟨#[116,97,103]⟩,.string s3] (by rfl) (by rfl) (World.news_of_block (cs:=#[.string ⟨#[116,97,103]⟩,.string s3]) (t:=62) (fr:=(0,0)) (heap_alloc_new o _)) (by simp[Value.oneCell']) (by omega) (by unfold maxLen;omega) (by omega) (by simp;omega) (o.heap.size+1) (by simp) ?_;intro P cap E j b a6 a8;have g6:E.cell? ⟨f,3,none⟩=some (.slice none 0 0):=(b.cell_far _ (by simp;omega) (by simp[Value.ownBlock])).trans (by simp[N]);have f6:E.frozen? ⟨f,3,none⟩=false:=(b.frozen_far _ (by simp;omega) (by simp[Value.ownBlock])).trans (by simp[L])))
  all_goals
   go_wp2_with fail
   go_meet
   case rel=>
    have hz:f+1<=P:=(World.ownsRow.lt j P (by rfl)).1;have n6:E.heap[f]?=some (y9 (.string r) (.string u) (.string y) (.slice none 0 0)):=(b.block f (by simp;omega) (by simp[Value.ownBlock])).trans (((nB o _).block f F).trans N5.out);have R:=(b.block w.heap.size (by simp;omega) (by simp[Value.ownBlock])).trans (((nB o _).block w.heap.size (lt_of_block A.out)).trans A.out);refine⟨P,cap,heap_setCell_same E f 3 _ _ _ n6,ownsRow_setCell_other j (a:=⟨f,3,none⟩) (by simp only[Value.ownBlock];intro e;injection e with e;omega) _,?_,(Below.heap_setCell E ⟨f,3,none⟩ _ w.heap.size (by simp;omega)).trans R⟩
    exact (Below.grown (B5.out.alloc B5.out.size _) b (by simp;omega) (λk hk=>by simp[Value.ownBlock] at hk)).setCell (by simp;omega) _
 case rest=>
  obtain⟨g,cap,q,H,J,d⟩:=hcut;obtain⟨wo,rfl⟩:∃x,x=wc:=⟨_,rfl⟩;clear NV U NW C3 B K;have hg:=World.ownsRow.lt H g (by rfl)
  by_cases h5:4<n
  ·have l:=a1.out;rw[if_pos h5] at l;subst l;have k4:decide ((4:Int)<(n:Int))=true:=decide_eq_true (by omega);have zr:=lt_of_block q;have B:=(za q 3).1;have K:=(za q 3).2;simp at B K;have N7:=hid q;have T:=hid J;have O7:=hid H;have a2:=hid d
   have nb:(Value.slice (some ⟨g,0,none⟩) 1 cap).ownBlock≠some f:=λe=>by
    simp only[Value.ownBlock] at e;injection e with e
    omega
   have c9:(Value.slice (some ⟨g,0,none⟩) 1 cap).ownBlock≠some w.heap.size:=λe=>by
    simp only[Value.ownBlock] at e;injection e with e
    omega
   clear q J H d
   go_upto_region 7 with fail
   go_cut [] (λwc=>∃g cap,wc.heap[f]?=some (y9 (.string r) (.string u) (.string y) (.slice (some ⟨g,0,none⟩) 2 cap))/\wc.ownsRow (f+1) 62 2 (.slice (some ⟨g,0,none⟩) 2 cap) 2 [.string ⟨#[116,97,103]⟩,.string s3,.string ⟨#[97,103,101]⟩,.string s4]/\Below w.heap.size w wc/\wc.heap[w.heap.size]?=some (y9 (.string ⟨#[]⟩) (.string ⟨#[]⟩) (.string ⟨#[]⟩) (.slice none 0 0)))
   case first=>
    go_region_law (first
     | (go_simp;go_at_call 47;refine (C4.out _ (by first|exact T.out.drew|exact T.out|exact T.out.drew.drew)).mono ?_;rintro e o ⟨rfl,z⟩;have Q:o.heap[f]?=some (y9 (.string r) (.string u) (.string y) (.slice (some ⟨g,0,none⟩) 1 cap)):=(z.block f zr).trans N7.out;have D:=(z.block w.heap.size (Nat.lt_trans S zr)).trans a2.out;have F:=lt_of_block Q;have g5:=zb z B;have f5:=(z.frozen (p:=⟨f,3,none⟩) zr).trans K;have N:=λO:Obj=>zb (nB o O) g5;have L:=λO:Obj=>((nB o O).frozen (p:=⟨f,3,none⟩) F).trans f5;have o5:=ownsRow_below (World.ownsRow.drew O7.out) z;have B5:Hid (Below w.heap.size w o):=hid (T.out.drew.trans (z.mono T.out.size));have N5:=hid Q;have A:=hid D;clear z Q D)
     | (refine step_append_lies _ (by rfl) _ _ _ (by rfl) (f+1) 62 i0 _ 2 32 underlying51 hi c6 c7 c8 rfl (by omega) (.slice (some ⟨g,0,none⟩) 1 cap) 1 [.string ⟨#[116,97,103]⟩,.string s3] (by rfl) (World.ownsRow.alloc o5 _) ⟨o.heap.size,0,none⟩ 1 1 [.string ⟨#[97,103,101]⟩,.string s4] (by rfl) (by rfl) (World.news_of_block (cs:=#[.string ⟨#[97,103,101]⟩,.string s4]) (t:=62) (fr:=(0,0)) (heap_alloc_new o _)) (by simp[Value.oneCell']) (by omega) (by unfold maxLen;omega) (by omega) (by simp;omega) (o.heap.size+1) (by simp) ?_;intro P a4 E j b a6 a8;have g6:E.cell? ⟨f,3,none⟩=some (.slice (some ⟨g,0,none⟩) 1 cap):=(b.cell_far _ (by simp;omega) (Ne.symm nb)).trans (by simp[N]);have f6:E.frozen? ⟨f,3,none⟩=false:=(b.frozen_far _ (by simp;omega) (Ne.symm nb)).trans (by simp[L])))
    all_goals
     go_wp2_with fail
     go_meet
     case rel=>
      have hz:f+1<=P:=(World.ownsRow.lt j P (by rfl)).1;have n6:E.heap[f]?=some (y9 (.string r) (.string u) (.string y) (.slice (some ⟨g,0,none⟩) 1 cap)):=(b.block f (by simp;omega) (Ne.symm nb)).trans (((nB o _).block f F).trans N5.out);have R:=(b.block w.heap.size (by simp;omega) (Ne.symm c9)).trans (((nB o _).block w.heap.size (lt_of_block A.out)).trans A.out);refine⟨P,a4,heap_setCell_same E f 3 _ _ _ n6,ownsRow_setCell_other j (a:=⟨f,3,none⟩) (by simp only[Value.ownBlock];intro e;injection e with e;omega) _,?_,(Below.heap_setCell E ⟨f,3,none⟩ _ w.heap.size (by simp;omega)).trans R⟩
      exact (Below.grown (B5.out.alloc B5.out.size _) b (by simp;omega) (λk hk=>by simp only[Value.ownBlock] at hk;injection hk with hk;omega)).setCell (by simp;omega) _
   case rest=>
    clear hg nb c9 B K zr N7 T O7 a2;obtain⟨g,cap,q,H,J,d⟩:=hcut;have hg:=World.ownsRow.lt H g (by rfl);have g0:=(za q 0).1;have g1:=(za q 1).1;have g2:=(za q 2).1;have B:=(za q 3).1;have y0:=(za d 0).1;have y1:=(za d 1).1;have y2:=(za d 2).1;have y3:=(za d 3).1;have t0:=(za d 0).2;have t1:=(za d 1).2;have t2:=(za d 2).2;have t3:=(za d 3).2;simp at g0 g1 g2 B y0 y1 y2 y3 t0 t1 t2 t3;have C:=aG d (.string r) (.string u) (.string y) (.slice (some ⟨g,0,none⟩) 2 cap);have r0:=(za C 0).1;have r1:=(za C 1).1;have r2:=(za C 2).1;have r3:=(za C 3).1;simp at r0 r1 r2 r3
    have m:∀k:Nat,(Value.slice (some ⟨g,0,none⟩) 2 cap).ownBlock≠some (⟨w.heap.size,k,none⟩:Addr).block:=λk e=>by
     simp only[Value.ownBlock] at e;injection e with e
     omega
    have HO:=hid (ownsRow_setCell_other (ownsRow_setCell_other (ownsRow_setCell_other (ownsRow_setCell_other H (m 0) (.string r)) (m 1) (.string u)) (m 2) (.string y)) (m 3) (.slice (some ⟨g,0,none⟩) 2 cap));have I:=hid ((((J.setCell (p:=⟨w.heap.size,0,none⟩) (Nat.le_refl _) (.string r)).setCell (p:=⟨w.heap.size,1,none⟩) (Nat.le_refl _) (.string u)).setCell (p:=⟨w.heap.size,2,none⟩) (Nat.le_refl _) (.string y)).setCell (p:=⟨w.heap.size,3,none⟩) (Nat.le_refl _) (.slice (some ⟨g,0,none⟩) 2 cap));clear C H J q d;go_wp2_with fail;exact bodyPost_ret (v := .agg #[.string r,.string u,.string y,.slice (some ⟨g,0,none⟩) 2 cap]) (by simp[results,results26,go_sem,r0,r1,r2,r3]) rfl ⟨some ⟨g,0,none⟩,cap,rfl,LB HO.out,I.out⟩
  ·have l:=a1.out;rw[if_neg h5] at l;subst l;have k4:decide ((4:Int)<(n:Int))=false:=decide_eq_false (by omega);have g0:=(za q 0).1;have g1:=(za q 1).1;have g2:=(za q 2).1;have B:=(za q 3).1;have y0:=(za d 0).1;have y1:=(za d 1).1;have y2:=(za d 2).1;have y3:=(za d 3).1;have t0:=(za d 0).2;have t1:=(za d 1).2;have t2:=(za d 2).2;have t3:=(za d 3).2;simp at g0 g1 g2 B y0 y1 y2 y3 t0 t1 t2 t3;have C:=aG d (.string r) (.string u) (.string y) (.slice (some ⟨g,0,none⟩) 1 cap);have r0:=(za C 0).1;have r1:=(za C 1).1;have r2:=(za C 2).1;have r3:=(za C 3).1;simp at r0 r1 r2 r3
   have m:∀k:Nat,(Value.slice (some ⟨g,0,none⟩) 1 cap).ownBlock≠some (⟨w.heap.size,k,none⟩:Addr).block:=λk e=>by
    simp only[Value.ownBlock] at e;injection e with e
    omega
   have HO:=hid (ownsRow_setCell_other (ownsRow_setCell_other (ownsRow_setCell_other (ownsRow_setCell_other H (m 0) (.string r)) (m 1) (.string u)) (m 2) (.string y)) (m 3) (.slice (some ⟨g,0,none⟩) 1 cap));have I:=hid ((((J.setCell (p:=⟨w.heap.size,0,none⟩) (Nat.le_refl _) (.string r)).setCell (p:=⟨w.heap.size,1,none⟩) (Nat.le_refl _) (.string u)).setCell (p:=⟨w.heap.size,2,none⟩) (Nat.le_refl _) (.string y)).setCell (p:=⟨w.heap.size,3,none⟩) (Nat.le_refl _) (.slice (some ⟨g,0,none⟩) 1 cap));clear C H J q d;go_wp2_with fail;exact bodyPost_ret (v := .agg #[.string r,.string u,.string y,.slice (some ⟨g,0,none⟩) 1 cap]) (by simp[results,results26,go_sem,r0,r1,r2,r3]) rfl ⟨some ⟨g,0,none⟩,cap,rfl,LA HO.out,I.out⟩
theorem JX(raw:List Int)(lv:Value)(w:World)(h:IntsIn w lv raw) :
  Calls prog 26 #[lv] w (cK w (Kp.qy raw)):=by
 by_cases h0:raw.length=0
 ·obtain⟨a,c,rfl,_⟩:=h;have b:raw=[]:=List.length_eq_zero_iff.1 h0;subst b;refine (wV w c a).mono ?_;rintro e d ⟨rfl,hb⟩;exact⟨none,0,rfl,.inl rfl,hb⟩
 ·by_cases h3:raw.length<=3
  ·refine (wW raw lv w h (by omega) h3).mono ?_;rintro e d ⟨rfl,hb⟩;exact⟨none,0,rfl,.inl (dG h3),hb⟩
  ·exact wU raw lv w h (by omega)
end Go.Proofs.YtdakgnaojakldaaGreatDoor
