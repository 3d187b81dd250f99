/- P -/
import Derived.Test.YtagnlbgbnfnapaaGreatDoorZ30
open Go.Proofs.Tryz
set_option maxRecDepth 100000
set_option maxHeartbeats 4000000
namespace Go.Proofs.YtagnlbgbnfnapaaGreatDoor
open Go.RowKit
end Go.Proofs.YtagnlbgbnfnapaaGreatDoor
namespace Go.Proofs.YtagnlbgbnfnapaaGreatDoor
open laws Go.ChangeShapes Go.WideShapes Go.ChangeAt Go.RowKit Go.Joins Go.Deep
theorem wf_i64{n:Int}(h:(Lit.int .i64 n).wf=true):I64 n:=by
 have a:(decide (IntKind.min .i64<=n)&&decide (n<=IntKind.max .i64))=true:=h;rw[uo,jk,jk] at a;exact a
instance:Inhabited Kp.zm:=⟨Kp.xu⟩
section
variable {H:Type} {enc:TypeId×Value->H} {w:World} {spare:Nat->Bool} {held:Bool}
theorem plain_of_cell{w:World}{a:Addr}{v:Value}(h:w.cell? (a.add 0)=some v):∃b o,a=⟨b,o,none⟩:=by
 obtain⟨b,o,s⟩:=a;have c:w.cell? ⟨b,o,s⟩=some v:=h
 cases s with
 | none=>exact⟨b,o,rfl⟩
 | some x=>
  unfold World.cell? at c
  split at c
  ·simp at c
  ·cases c
theorem VW{fuel:Nat}{v:Value}{x:DataW H×List MemPlace}(h:DataW.trod enc prog w 0 spare held fuel 24 [v]=some x)(j:∀b,spare b=true):∃l:List Int,l.length<=maxLen/\IntsIn w v l:=by
 rcases open_ints underlying24 underlying3 (by kernel_rfl) h with ⟨e,_⟩|⟨a,len,cap,zs,e,_,hl,hmx,hzl,_,hcell,hwf⟩
 ·simp only[List.cons.injEq,Qs] at e;subst e;exact⟨[],by simp,U9 w⟩
 ·simp only[List.cons.injEq,Qs] at e;subst e;rw[j,zb rfl] at hzl;refine⟨zs.take len,by rw[xE];omega,some a,cap,by rw[xE,Nat.min_eq_left (by omega)],λk x c=>?_⟩;have i:k<(zs.take len).length:=(xw.1 c).1;rw[xE] at i;have d:zs[k]?=some x:=by rw[Qk] at c;split at c;exact c;cases c
  have f:x ∈ zs:=Qm d;obtain⟨b,o,rfl⟩:=plain_of_cell (hcell 0 (by omega));have g:=hcell k (by omega);rw[addr_add,zQ,d] at g;exact⟨wf_i64 (hwf x f),b,o,rfl,g⟩
theorem SN{fuel:Nat}{cs:List Value}{x:DataW H×List MemPlace}(h:DataW.trod enc prog w 0 spare held fuel 42 cs=some x)(u:∀b,spare b=true) :
  ∃(r:Kp.zm) (v1 v2 v3:Value),cs=[.bool r.deny,v1,v2,v3,.int .i64 r.nt,.int .i64 r.iff,.int .i64 r.key,.int .i64 r.val,.bool r.no,.int .i64 r.style]/\Qo r/\r.who.length<=maxLen/\r.act.length<=maxLen/\r.on.length<=maxLen/\IntsIn w v1 r.who/\IntsIn w v2 r.act/\IntsIn w v3 r.on:=by
 obtain⟨xs,n,_,rfl,_,_,_⟩:=DataW.trod_struct underlying42 h;have c3:prog.cellsOf 3=1:=by kernel_rfl
 have c4:prog.cellsOf 4=1:=by kernel_rfl
 have d:prog.cellsOf 24=1:=by kernel_rfl
 obtain⟨W,c⟩:=KU underlying42 (λj f a=>by
  match j,a with
  | 0,a=>simp at a;subst a;exact⟨rfl,c4⟩
  | 1,a=>simp at a;subst a;exact⟨rfl,d⟩
  | 2,a=>simp at a;subst a;exact⟨rfl,d⟩
  | 3,a=>simp at a;subst a;exact⟨rfl,d⟩
  | 4,a=>simp at a;subst a;exact⟨rfl,c3⟩
  | 5,a=>simp at a;subst a;exact⟨rfl,c3⟩
  | 6,a=>simp at a;subst a;exact⟨rfl,c3⟩
  | 7,a=>simp at a;subst a;exact⟨rfl,c3⟩
  | 8,a=>simp at a;subst a;exact⟨rfl,c4⟩
  | 9,a=>simp at a;subst a;exact⟨rfl,c3⟩
  | j+10,a=>simp at a) (by kernel_rfl) h
 obtain⟨v0,d0,p0,n0,g,_,M⟩:=c 0 _ rfl;obtain⟨v1,d1,p1,n1,i,_,N⟩:=c 1 _ rfl;obtain⟨v2,d2,p2,n2,k,_,O⟩:=c 2 _ rfl;obtain⟨v3,d3,p3,n3,l,_,P⟩:=c 3 _ rfl;obtain⟨v4,d4,p4,n4,m,_,Q⟩:=c 4 _ rfl;obtain⟨v5,d5,p5,n5,o,_,R⟩:=c 5 _ rfl;obtain⟨v6,d6,p6,n6,p,_,S⟩:=c 6 _ rfl;obtain⟨v7,d7,p7,n7,q,_,T⟩:=c 7 _ rfl;obtain⟨v8,d8,p8,n8,s,_,U⟩:=c 8 _ rfl;obtain⟨v9,d9,p9,n9,t,_,V⟩:=c 9 _ rfl;have e:cs.length=10:=W
 match cs,e with
 | [u0,u1,u2,u3,u4,u5,u6,u7,u8,u9],_=>
  simp only[kS,Xx,Option.some.injEq] at g i k l m o p q s t;subst g i k l m o p q s t;obtain⟨E,v,_⟩:=DataW.trod_bool underlying4 M;obtain⟨l1,m1,X⟩:=VW N u;obtain⟨l2,m2,Y⟩:=VW O u;obtain⟨l3,m3,Z⟩:=VW P u;obtain⟨k4,y,_,G⟩:=YN underlying3 Q;obtain⟨k5,z,_,I⟩:=YN underlying3 R;obtain⟨k6,A,_,J⟩:=YN underlying3 S;obtain⟨k7,B,_,K⟩:=YN underlying3 T;obtain⟨F,C,_⟩:=DataW.trod_bool underlying4 U;obtain⟨k9,D,_,L⟩:=YN underlying3 V;simp only[List.cons.injEq,Qs] at v y z A B C D;subst v y z A B C D;exact⟨⟨E,l1,l2,l3,k4,k5,k6,k7,F,k9⟩,u1,u2,u3,rfl,⟨wf_i64 G,wf_i64 I,wf_i64 J,wf_i64 K,wf_i64 L⟩,m1,m2,m3,X,Y,Z⟩
theorem Bf{fuel:Nat}{v:Value}{x:DataW H×List MemPlace}(h:DataW.trod enc prog w 0 spare held fuel 27 [v]=some x)(t:∀b,spare b=true):∃l:List Kp.zm,l.length<=maxLen/\uY w v l:=by
 have C:prog.cellsOf 42=10:=by kernel_rfl
 rcases open_slice underlying27 h with ⟨e,_⟩|⟨a,len,cap,m,n,D,Pl,e,_,hl,hmx,hmm,_,hcell⟩
 ·simp only[List.cons.injEq,Qs] at e;subst e;exact⟨[],by simp,none,0,rfl,λk r d=>by simp at d⟩
 ·simp only[List.cons.injEq,Qs] at e;subst e;rw[t,zb rfl] at hmm;rw[C] at hcell
  have each:∀i,i<len->∃r:Kp.zm,Qo r/\r.who.length<=maxLen/\r.act.length<=maxLen/\r.on.length<=maxLen /\
   ∃c o v1 v2 v3,some a=some ⟨c,o,none⟩/\(w.cell? ⟨c,o+i*10,none⟩=some (.bool r.deny)/\w.cell? ⟨c,o+i*10+1,none⟩=some v1/\w.cell? ⟨c,o+i*10+2,none⟩=some v2/\w.cell? ⟨c,o+i*10+3,none⟩=some v3 /\
    w.cell? ⟨c,o+i*10+4,none⟩=some (.int .i64 r.nt)/\w.cell? ⟨c,o+i*10+5,none⟩=some (.int .i64 r.iff)/\w.cell? ⟨c,o+i*10+6,none⟩=some (.int .i64 r.key)/\w.cell? ⟨c,o+i*10+7,none⟩=some (.int .i64 r.val) /\
    w.cell? ⟨c,o+i*10+8,none⟩=some (.bool r.no)/\w.cell? ⟨c,o+i*10+9,none⟩=some (.int .i64 r.style))/\IntsIn w v1 r.who/\IntsIn w v2 r.act/\IntsIn w v3 r.on:=by
   intro i hi
   have q:∃b o,a=⟨b,o,none⟩:=by
    obtain⟨y,z,O⟩:=hcell 0 (by omega);obtain⟨_,G,g⟩:=World.cells?_some z
    have:=g 0 (by omega)
    rw[add_add,Nat.zero_mul,ut,zt (by omega)] at this;exact plain_of_cell this
   obtain⟨c,o,rfl⟩:=q;obtain⟨u,A,B⟩:=hcell i (by omega);obtain⟨r,v1,v2,v3,rfl,f,L,M,N,I,J,K⟩:=SN B t;obtain⟨_,_,p⟩:=World.cells?_some A
   have cell:∀j,j<10->w.cell? ⟨c,o+i*10+j,none⟩=[Value.bool r.deny,v1,v2,v3,.int .i64 r.nt,.int .i64 r.iff,.int .i64 r.key,.int .i64 r.val,.bool r.no,.int .i64 r.style][j]?:=by
    intro j E
    have:=p j E
    rw[add_add,addr_add,<- aD] at this;exact this
   exact⟨r,f,L,M,N,c,o,v1,v2,v3,rfl,⟨cell 0 (by omega),cell 1 (by omega),cell 2 (by omega),cell 3 (by omega),cell 4 (by omega),cell 5 (by omega),cell 6 (by omega),cell 7 (by omega),cell 8 (by omega),cell 9 (by omega)⟩,I,J,K⟩
  obtain⟨F,hF⟩:=choose_lt each;refine⟨(List.range len).map F,by rw[qg,jM];omega,some a,cap,by rw[qg,jM],λk r d=>?_⟩
  have s:k<len:=by
   have:=(xw.1 d).1
   rw[qg,jM] at this;exact this
  rw[vv,VA s] at d;simp only[Q3,Option.some.injEq] at d;subst d;exact hF k s
end
end Go.Proofs.YtagnlbgbnfnapaaGreatDoor
namespace Go.Proofs.YtagnlbgbnfnapaaGreatDoor
open Go.RowKit
namespace Kp
def ym(raw:List Int)(i:Nat):BA:=words.getD (zy (raw.getD (i % raw.length) 0) 14) ⟨#[]⟩
def xe(raw:List Int):Ref.Req:=
 if raw.length=0 then ⟨⟨#[97,110,110]⟩,⟨#[114,101,97,100]⟩,⟨#[98,111,120,47,49]⟩,[]⟩
 else ⟨ym raw 0,ym raw 1,ym raw 2,(if 3<raw.length then [(⟨#[116,97,103]⟩,ym raw 3)] else [])++(if 4<raw.length then [(⟨#[97,103,101]⟩,ym raw 4)] else [])⟩
end Kp
theorem Cr(raw:List Int)(D:Value)(i:Nat)(w:World)(h:IntsIn w D raw)(y:0<raw.length)(hi:i<=1000) :
  Calls prog 21 #[D,.int .i64 ((i:Nat):Int)] w λe H=>e = .returned (.string (Kp.ym raw i))/\Below w.heap.size w H:=by
 obtain⟨a,c,rfl,z⟩:=h;have b:i % raw.length<raw.length:=Nat.mod_lt _ y;obtain⟨q,J,o,rfl,r⟩:=z (i % raw.length) _ (zt b);have j:raw.getD (i % raw.length) 0=raw[i % raw.length]:=by rw[zQ,zt b];rfl
 unfold Kp.ym;rw[j];have l:Below w.heap.size w (w.alloc (.cells (Kp.words.map Value.string).toArray 9)):=nB w _;obtain⟨x,k⟩:=Nm (raw[i % raw.length]);rw[k] at q r |-;have B:=Kp.xI x 14 (by omega);have u:=Cs w;have t:=λW=>uh x 14 W q (by omega) (by omega);have q2:=XT w Kp.words (Kp.zy x 14) B;have E:=zh l r;obtain⟨p,g⟩:=Nm (Kp.zy x 14);rw[g] at B t q2 |-;obtain⟨s,C⟩:=Nm (Kp.words.getD p ⟨#[]⟩);rw[C] at q2 |-;obtain⟨I,f⟩:∃W,w.alloc (.cells (Kp.words.map Value.string).toArray 9)=W:=⟨_,rfl⟩;rw[f] at u q2 E l;obtain⟨m,d⟩:=Nm (i % raw.length);have v:((i:Nat):Int) % ((raw.length:Nat):Int)=((m:Nat):Int):=by rw[<- d];omega
 have G:Int.tmod ((i:Nat):Int) ((raw.length:Nat):Int)=((m:Nat):Int):=by rw[Int.tmod_eq_emod_of_nonneg (by omega)];exact v
 rw[d] at b E;obtain⟨n,A⟩:=Nm raw.length;rw[A] at y b v G |-;have K:((n:Int)==0)=false:=by simp;omega
 have L:(0:Int)<=(m:Int):=jL _;have M:(m:Int)<(n:Int):=by omega
 have N:(0:Int)<=(p:Int):=jL _;have O:(p:Int)<14:=by omega
 have F:=hid l;clear z k g C f d A r j l q;go_enter func21,ntmps21
 go_upto_region 2 with (go_at_call 45;refine u.mono ?_;rintro e P ⟨rfl,hw1⟩;obtain rfl:=hw1.symm)
 go_wp2_with (go_at_call 11;refine (t _).mono ?_;rintro e Q ⟨rfl,hw2⟩;obtain rfl:=hw2.symm)
 go_ret;exact⟨rfl,F.out⟩
theorem K5:∀k,k<14->Ref.vg (Kp.words.getD k ⟨#[]⟩)=true:=by decide +kernel
theorem lu(raw:List Int)(i:Nat):Ref.vg (Kp.ym raw i)=true:=K5 _ (Kp.xI _ 14 (by omega))
theorem BR{s:BA}(h:Ref.vg s=true):Ref.Z8 (⟨#[116,97,103]⟩,s)=true/\Ref.Z8 (⟨#[97,103,101]⟩,s)=true:=by
 unfold Ref.Z8;simp only[h];exact⟨by decide +kernel,by decide +kernel⟩
theorem JH(raw:List Int):Ref.yT (Kp.xe raw)=true:=by
 unfold Kp.xe
 split
 ·decide +kernel
 ·unfold Ref.yT;simp only[lu,Qg,uo,jk];obtain⟨a,_⟩:=BR (lu raw 3);obtain⟨_,b⟩:=BR (lu raw 4)
  constructor
  ·split<;>split<;>simp
  ·split<;>split<;>simp[a,b]
namespace Kp
def Xb:List BA:=[⟨#[97]⟩,⟨#[98]⟩,⟨#[116,97,103]⟩,⟨#[97,103,101]⟩,⟨#[100,111,99]⟩,⟨#[122,122,122,122,122,122,122,122,122,122,122,122]⟩]
end Kp
theorem tF(w:World) :
  Calls prog 17 #[] w λe a=>e = .returned (.slice (some ⟨w.heap.size,0,none⟩) 6 6)/\a=w.alloc (.cells (Kp.Xb.map Value.string).toArray 9):=by
 go_enter func17,ntmps17
 go_wp2
 go_ret;exact⟨rfl,rfl⟩
theorem Gw:∀k,k<6->Ref.qm (Kp.Xb.getD k ⟨#[]⟩)=true:=by decide +kernel
theorem mJ{raw:List Int}(h:raw.length<=3):(Kp.xe raw).marks=[]:=by
 unfold Kp.xe
 split
 ·rfl
 ·simp only;rw[za (by omega),za (by omega)]
  rfl
theorem Ed(w:World)(c:Nat)(a:Option Addr) :
  Calls prog 9 #[.slice a 0 c] w λe d=>e = .returned (Ref.qY (Kp.xe []) none 0)/\Below w.heap.size w d:=by
 have b:=λO:Obj=>nB w O;go_enter func9,ntmps9;go_wp2_with fail;exact qa (v:=Ref.qY (Kp.xe []) none 0) (by simp[results,results9,go_sem,Ref.qY,Kp.xe]) rfl ⟨rfl,b _⟩
def jc(a b c d:Value):Obj := .cells #[a,b,c,d] 34
theorem gX{W:World}{b:Nat}{f g i j:Value}(h:W.heap[b]?=some (jc f g i j))(a c d e:Value) :
  ((((W.setCell ⟨b,0,none⟩ a).setCell ⟨b,1,none⟩ c).setCell ⟨b,2,none⟩ d).setCell ⟨b,3,none⟩ e).heap[b]?=some (jc a c d e):=by
 have k:=uC W b 0 _ _ a h;have l:=uC _ b 1 _ _ c k;have m:=uC _ b 2 _ _ d l;exact uC _ b 3 _ _ e m
theorem Sy{W:World}{b:Nat}{g i j k:Value}(h:W.heap[b]?=some (jc g i j k))(a c d e:Value)(O:Obj) :
  (((((W.setCell ⟨b,0,none⟩ a).setCell ⟨b,1,none⟩ c).setCell ⟨b,2,none⟩ d).setCell ⟨b,3,none⟩ e).alloc O).heap[b]?=some (jc a c d e):=by
 have f:=gX h a c d e;exact ((nB _ O).block b (zY f)).trans f
theorem Ee(raw:List Int)(C:Value)(w:World)(h:IntsIn w C raw)(H:0<raw.length)(I:raw.length<=3) :
  Calls prog 9 #[C] w λe w'=>e = .returned (Ref.qY (Kp.xe raw) none 0)/\Below w.heap.size w w':=by
 have o:=λ(i:Nat) (hi:i<=1000) (W:World) (hb:Below w.heap.size w W)=>Cr raw C i W (h.below hb) H hi;have c0:=o 0 (by omega);have c1:=o 1 (by omega);have c2:=o 2 (by omega)
 have K:Ref.qY (Kp.xe raw) none 0 = .agg #[.string (Kp.ym raw 0),.string (Kp.ym raw 1),.string (Kp.ym raw 2),.slice none 0 0]:=by
  unfold Ref.qY;rw[mJ I];unfold Kp.xe;rw[za (by omega)]
  rfl
 rw[K];obtain⟨q,j⟩:∃s,Kp.ym raw 0=s:=⟨_,rfl⟩;obtain⟨r,k⟩:∃s,Kp.ym raw 1=s:=⟨_,rfl⟩;obtain⟨t,l⟩:∃s,Kp.ym raw 2=s:=⟨_,rfl⟩;rw[j] at c0 |-;rw[k] at c1 |-;rw[l] at c2 |-;obtain⟨a,c,rfl,_⟩:=h;obtain⟨m,d⟩:∃W,w.alloc (jc (.string ⟨#[]⟩) (.string ⟨#[]⟩) (.string ⟨#[]⟩) (.slice none 0 0))=W:=⟨_,rfl⟩;have G:Below w.heap.size w m:=by rw[<- d];exact nB w _
 have L:m.heap[w.heap.size]?=some (jc (.string ⟨#[]⟩) (.string ⟨#[]⟩) (.string ⟨#[]⟩) (.slice none 0 0)):=by rw[<- d];exact zL w _
 have T:Hid (w.alloc (.cells #[.string ⟨#[]⟩,.string ⟨#[]⟩,.string ⟨#[]⟩,.slice none 0 0] 34)=m):=hid d;obtain⟨n,J⟩:=Nm raw.length;rw[J] at H I c0 c1 c2 |-;have k0:((n:Int)==0)=false:=by simp;omega
 have k3:decide ((3:Int)<(n:Int))=false:=zH (by omega);have k4:decide ((4:Int)<(n:Int))=false:=zH (by omega);have Q:=hid c0;have R:=hid c1;have S:=hid c2;have u:=hid G;have D:=hid L;clear o c0 c1 c2 K j k l d G L J;go_enter func9,ntmps9
 go_upto_region 1 with fail
 rw[T.out]
 go_upto_region 4 with (first
  | (go_at_call 21;refine (S.out w3 y.out).mono ?_;rintro e w4 ⟨rfl,B⟩;have P:=hid (y.out.trans (B.mono y.out.size));have b:=hid ((B.block _ (zY F.out)).trans F.out);clear B)
  | (go_at_call 21;refine (R.out w2 x.out).mono ?_;rintro e w3 ⟨rfl,A⟩;have y:=hid (x.out.trans (A.mono x.out.size));have F:=hid ((A.block _ (zY E.out)).trans E.out);clear A)
  | (go_at_call 21;refine (Q.out m u.out).mono ?_;rintro e w2 ⟨rfl,z⟩;have x:=hid (u.out.trans (z.mono u.out.size));have E:=hid ((z.block _ (zY D.out)).trans D.out);clear z))
 have U:w.heap.size<w4.heap.size:=zY b.out;have y0:=(zf b.out 0).1;have y1:=(zf b.out 1).1;have y2:=(zf b.out 2).1;have y3:=(zf b.out 3).1;have V:=(zf b.out 0).2;have X:=(zf b.out 1).2;have Y:=(zf b.out 2).2;have Z:=(zf b.out 3).2;simp at y0 y1 y2 y3 V X Y Z;have g:=Sy b.out (.string q) (.string r) (.string t) (.slice none 0 0) (.cells #[.string q,.string r,.string t,.slice none 0 0] 34);have r0:=(zf g 0).1;have M:=(zf g 1).1;have N:=(zf g 2).1;have O:=(zf g 3).1;simp at r0 M N O;have f:=hid ((((P.out.setCell (p:=⟨w.heap.size,0,none⟩) (ze _) (.string q)).setCell (p:=⟨w.heap.size,1,none⟩) (ze _) (.string r)).setCell (p:=⟨w.heap.size,2,none⟩) (ze _) (.string t)).setCell (p:=⟨w.heap.size,3,none⟩) (ze _) (.slice none 0 0));clear g;go_wp2_with fail;exact qa (v := .agg #[.string q,.string r,.string t,.slice none 0 0]) (by simp[results,results9,go_sem,r0,M,N,O]) rfl ⟨rfl,f.out.alloc f.out.size _⟩
def lG(w:World)(r:Ref.Req)(e:Ending)(a:World):Prop:=∃ao cap,e = .returned (Ref.qY r ao cap)/\xD a ao r.marks/\Below w.heap.size w a
theorem NT{W:World}{B g cap:Nat}{n s:BA}(h:W.ownsRow B 74 2 (.slice (some ⟨g,0,none⟩) 1 cap) 1 [.string n,.string s]):xD W (some ⟨g,0,none⟩) [(n,s)]:=by
 have c0:=World.ownsRow.cellAt h 0 (by omega);have c1:=World.ownsRow.cellAt h 1 (by omega);refine .inr ⟨g,0,rfl,λj b=>?_⟩;have a:j=0:=by simp at b;exact b
 subst a;exact⟨c0,c1⟩
theorem NU{W:World}{B g cap:Nat}{n s b c:BA}(h:W.ownsRow B 74 2 (.slice (some ⟨g,0,none⟩) 2 cap) 2 [.string n,.string s,.string b,.string c]):xD W (some ⟨g,0,none⟩) [(n,s),(b,c)]:=by
 have c0:=World.ownsRow.cellAt h 0 (by omega);have c1:=World.ownsRow.cellAt h 1 (by omega);have c2:=World.ownsRow.cellAt h 2 (by omega);have c3:=World.ownsRow.cellAt h 3 (by omega);refine .inr ⟨g,0,rfl,λj d=>?_⟩;have a:j=0\/j=1:=by simp at d;omega
 rcases a with rfl|rfl
 ·exact⟨c0,c1⟩
 ·exact⟨c2,c3⟩
theorem NP:(prog.info? 74).map (λi=>(i.zero,i.size,i.bytes))=some (some (.agg #[.string ⟨#[]⟩,.string ⟨#[]⟩]),2,32):=by kernel_rfl
theorem Ec(raw:List Int)(lv:Value)(w:World)(h:IntsIn w lv raw)(h4:3<raw.length) :
  Calls prog 9 #[lv] w (lG w (Kp.xe raw)):=by
 have h0:0<raw.length:=by omega
 have X:=λ(i:Nat) (hi:i<=1000) (W:World) (hb:Below w.heap.size w W)=>Cr raw lv i W (h.below hb) h0 hi;have c0:=X 0 (by omega);have c1:=X 1 (by omega);have c2:=X 2 (by omega);have c3:=X 3 (by omega);have c4:=X 4 (by omega)
 have hv:Kp.xe raw=⟨Kp.ym raw 0,Kp.ym raw 1,Kp.ym raw 2,(⟨#[116,97,103]⟩,Kp.ym raw 3)::(if 4<raw.length then [(⟨#[97,103,101]⟩,Kp.ym raw 4)] else [])⟩:=by
  unfold Kp.xe;rw[za (by omega),zb h4]
  rfl
 rw[hv];obtain⟨r,b0⟩:∃s,Kp.ym raw 0=s:=⟨_,rfl⟩;obtain⟨u,b6⟩:∃s,Kp.ym raw 1=s:=⟨_,rfl⟩;obtain⟨y,b8⟩:∃s,Kp.ym raw 2=s:=⟨_,rfl⟩;obtain⟨s3,b9⟩:∃s,Kp.ym raw 3=s:=⟨_,rfl⟩;obtain⟨s4,c5⟩:∃s,Kp.ym raw 4=s:=⟨_,rfl⟩;rw[b0] at c0 |-;rw[b6] at c1 |-;rw[b8] at c2 |-;rw[b9] at c3 |-;rw[c5] at c4 |-;obtain⟨a,c,rfl,_⟩:=h;obtain⟨W1,G⟩:∃W,w.alloc (jc (.string ⟨#[]⟩) (.string ⟨#[]⟩) (.string ⟨#[]⟩) (.slice none 0 0))=W:=⟨_,rfl⟩;have b1:Below w.heap.size w W1:=by rw[<- G];exact nB w _
 have n1:W1.heap[w.heap.size]?=some (jc (.string ⟨#[]⟩) (.string ⟨#[]⟩) (.string ⟨#[]⟩) (.slice none 0 0)):=by rw[<- G];exact zL w _
 have HW:Hid (w.alloc (.cells #[.string ⟨#[]⟩,.string ⟨#[]⟩,.string ⟨#[]⟩,.slice none 0 0] 34)=W1):=hid G;obtain⟨n,hn⟩:=Nm raw.length;rw[hn] at h0 h4 c0 c1 c2 c3 c4 |-;have k0:((n:Int)==0)=false:=by simp;omega
 have k3:decide ((3:Int)<(n:Int))=true:=zF (by omega);have C0:=hid c0;have C1:=hid c1;have C2:=hid c2;have C3:=hid c3;have C4:=hid c4;have B1:=hid b1;have N1:=hid n1;obtain⟨i0,hi,c6,c7,c8⟩:=jl NP;obtain⟨Ms,l⟩:∃M,(if 4<n then [((⟨#[97,103,101]⟩:BA),s4)] else [])=M:=⟨_,rfl⟩
 rw[l];have a1:=hid l;clear l;clear X c0 c1 c2 c3 c4 hv b0 b6 b8 b9 c5 G b1 n1 hn;go_enter func9,ntmps9
 go_upto_region 1 with fail
 rw[HW.out]
 go_upto_region 4 with (first
  | (go_at_call 21;refine (C2.out w3 B3.out).mono ?_;rintro e Z ⟨rfl,b4⟩;have B4:=hid (B3.out.trans (b4.mono B3.out.size));have N4:=hid ((b4.block _ (zY N3.out)).trans N3.out);clear b4)
  | (go_at_call 21;refine (C1.out w2 B2.out).mono ?_;rintro e w3 ⟨rfl,b3⟩;have B3:=hid (B2.out.trans (b3.mono B2.out.size));have N3:=hid ((b3.block _ (zY N2.out)).trans N2.out);clear b3)
  | (go_at_call 21;refine (C0.out W1 B1.out).mono ?_;rintro e w2 ⟨rfl,b2⟩;have B2:=hid (B1.out.trans (b2.mono B1.out.size));have N2:=hid ((b2.block _ (zY N1.out)).trans N1.out);clear b2))
 obtain⟨V,hV⟩:=Nm (Z.alloc (.cells #[.string r,.string u,.string y,.slice none 0 0] 34));rw[hV]
 go_upto_region 5 with fail
 have Y:V.heap[Z.heap.size]?=some (jc (.string r) (.string u) (.string y) (.slice none 0 0)):=by rw[<- hV];exact zL Z _
 have bV:Below w.heap.size w V:=by rw[<- hV];exact B4.out.alloc B4.out.size _
 have a3:V.heap[w.heap.size]?=some (jc (.string ⟨#[]⟩) (.string ⟨#[]⟩) (.string ⟨#[]⟩) (.slice none 0 0)):=by
  rw[<- hV];exact ((nB Z _).block _ (zY N4.out)).trans N4.out
 have zV:=zY Y;have S:w.heap.size<Z.heap.size:=zY N4.out;obtain⟨f,a9⟩:∃x,Z.heap.size=x:=⟨_,rfl⟩;rw[a9] at Y zV S |-;have B:=(zf Y 3).1;have K:=(zf Y 3).2;simp at B K;have NV:=hid Y;have U:=hid bV;have NW:=hid a3;clear hV Y bV a3 a9 N4 B4
 go_cut [] (λwc=>∃g cap,wc.heap[f]?=some (jc (.string r) (.string u) (.string y) (.slice (some ⟨g,0,none⟩) 1 cap))/\wc.ownsRow (f+1) 74 2 (.slice (some ⟨g,0,none⟩) 1 cap) 1 [.string ⟨#[116,97,103]⟩,.string s3]/\Below w.heap.size w wc/\wc.heap[w.heap.size]?=some (jc (.string ⟨#[]⟩) (.string ⟨#[]⟩) (.string ⟨#[]⟩) (.slice none 0 0)))
 case first=>
  go_region_law (first
   | (go_simp;go_at_call 21;refine (C3.out _ (by first|exact U.out.drew|exact U.out|exact U.out.drew.drew)).mono ?_;rintro e o ⟨rfl,z⟩;have Q:o.heap[f]?=some (jc (.string r) (.string u) (.string y) (.slice none 0 0)):=(z.block f zV).trans NV.out;have D:=(z.block w.heap.size (Nat.lt_trans S zV)).trans NW.out;have F:=zY Q;have g5:=zh z B;have f5:=(z.frozen (p:=⟨f,3,none⟩) zV).trans K;have N:=λO:Obj=>zh (nB o O) g5;have L:=λO:Obj=>((nB o O).frozen (p:=⟨f,3,none⟩) F).trans f5;have B5:Hid (Below w.heap.size w o):=hid (U.out.drew.trans (z.mono U.out.size));have N5:=hid Q;have A:=hid D;clear z Q D)
   | (refine step_append_lies _ (by rfl) _ _ _ (by rfl) (f+1) 74 i0 _ 2 32 underlying32 hi c6 c7 c8 rfl (by omega) (.slice none 0 0) 0 [] (by rfl) (jR _ _ _ _) ⟨o.heap.size,0,none⟩ 1 1 [.string ⟨#[116,97,103]⟩,.string s3] (by rfl) (by rfl) (JF (cs:=#[.string ⟨#[116,97,103]⟩,.string s3]) (t:=74) (fr:=(0,0)) (zL o _)) (by simp[Value.oneCell']) (by omega) (by unfold maxLen;omega) (by omega) (by simp;omega) (o.heap.size+1) (by simp) ?_;intro P cap E j b a6 a8;have g6:E.cell? ⟨f,3,none⟩=some (.slice none 0 0):=(b.cell_far _ (by simp;omega) (by simp[Value.ownBlock])).trans (by simp[N]);have f6:E.frozen? ⟨f,3,none⟩=false:=(b.frozen_far _ (by simp;omega) (by simp[Value.ownBlock])).trans (by simp[L])))
  all_goals
   go_wp2_with fail
   go_meet
   case rel=>
    have hz:f+1<=P:=(World.ownsRow.lt j P (by rfl)).1;have n6:E.heap[f]?=some (jc (.string r) (.string u) (.string y) (.slice none 0 0)):=(b.block f (by simp;omega) (by simp[Value.ownBlock])).trans (((nB o _).block f F).trans N5.out);have R:=(b.block w.heap.size (by simp;omega) (by simp[Value.ownBlock])).trans (((nB o _).block w.heap.size (zY A.out)).trans A.out);refine⟨P,cap,uC E f 3 _ _ _ n6,yh j (a:=⟨f,3,none⟩) (by simp only[Value.ownBlock];intro e;injection e with e;omega) _,?_,(X7 E ⟨f,3,none⟩ _ w.heap.size (by simp;omega)).trans R⟩
    exact (Below.grown (B5.out.alloc B5.out.size _) b (by simp;omega) (λk hk=>by simp[Value.ownBlock] at hk)).setCell (by simp;omega) _
 case rest=>
  obtain⟨g,cap,q,H,J,d⟩:=hcut;obtain⟨wo,rfl⟩:∃x,x=wc:=⟨_,rfl⟩;clear NV U NW C3 B K;have hg:=World.ownsRow.lt H g (by rfl)
  by_cases h5:4<n
  ·have l:=a1.out;rw[zb h5] at l;subst l;have k4:decide ((4:Int)<(n:Int))=true:=zF (by omega);have zr:=zY q;have B:=(zf q 3).1;have K:=(zf q 3).2;simp at B K;have N7:=hid q;have T:=hid J;have O7:=hid H;have a2:=hid d
   have nb:(Value.slice (some ⟨g,0,none⟩) 1 cap).ownBlock≠some f:=λe=>by
    simp only[Value.ownBlock] at e;injection e with e
    omega
   have c9:(Value.slice (some ⟨g,0,none⟩) 1 cap).ownBlock≠some w.heap.size:=λe=>by
    simp only[Value.ownBlock] at e;injection e with e
    omega
   clear q J H d
   go_upto_region 7 with fail
   go_cut [] (λwc=>∃g cap,wc.heap[f]?=some (jc (.string r) (.string u) (.string y) (.slice (some ⟨g,0,none⟩) 2 cap))/\wc.ownsRow (f+1) 74 2 (.slice (some ⟨g,0,none⟩) 2 cap) 2 [.string ⟨#[116,97,103]⟩,.string s3,.string ⟨#[97,103,101]⟩,.string s4]/\Below w.heap.size w wc/\wc.heap[w.heap.size]?=some (jc (.string ⟨#[]⟩) (.string ⟨#[]⟩) (.string ⟨#[]⟩) (.slice none 0 0)))
   case first=>
    go_region_law (first
     | (go_simp;go_at_call 21;refine (C4.out _ (by first|exact T.out.drew|exact T.out|exact T.out.drew.drew)).mono ?_;rintro e o ⟨rfl,z⟩;have Q:o.heap[f]?=some (jc (.string r) (.string u) (.string y) (.slice (some ⟨g,0,none⟩) 1 cap)):=(z.block f zr).trans N7.out;have D:=(z.block w.heap.size (Nat.lt_trans S zr)).trans a2.out;have F:=zY Q;have g5:=zh z B;have f5:=(z.frozen (p:=⟨f,3,none⟩) zr).trans K;have N:=λO:Obj=>zh (nB o O) g5;have L:=λO:Obj=>((nB o O).frozen (p:=⟨f,3,none⟩) F).trans f5;have o5:=ownsRow_below (World.ownsRow.drew O7.out) z;have B5:Hid (Below w.heap.size w o):=hid (T.out.drew.trans (z.mono T.out.size));have N5:=hid Q;have A:=hid D;clear z Q D)
     | (refine step_append_lies _ (by rfl) _ _ _ (by rfl) (f+1) 74 i0 _ 2 32 underlying32 hi c6 c7 c8 rfl (by omega) (.slice (some ⟨g,0,none⟩) 1 cap) 1 [.string ⟨#[116,97,103]⟩,.string s3] (by rfl) (World.ownsRow.alloc o5 _) ⟨o.heap.size,0,none⟩ 1 1 [.string ⟨#[97,103,101]⟩,.string s4] (by rfl) (by rfl) (JF (cs:=#[.string ⟨#[97,103,101]⟩,.string s4]) (t:=74) (fr:=(0,0)) (zL o _)) (by simp[Value.oneCell']) (by omega) (by unfold maxLen;omega) (by omega) (by simp;omega) (o.heap.size+1) (by simp) ?_;intro P a4 E j b a6 a8;have g6:E.cell? ⟨f,3,none⟩=some (.slice (some ⟨g,0,none⟩) 1 cap):=(b.cell_far _ (by simp;omega) (Ne.symm nb)).trans (by simp[N]);have f6:E.frozen? ⟨f,3,none⟩=false:=(b.frozen_far _ (by simp;omega) (Ne.symm nb)).trans (by simp[L])))
    all_goals
     go_wp2_with fail
     go_meet
     case rel=>
      have hz:f+1<=P:=(World.ownsRow.lt j P (by rfl)).1;have n6:E.heap[f]?=some (jc (.string r) (.string u) (.string y) (.slice (some ⟨g,0,none⟩) 1 cap)):=(b.block f (by simp;omega) (Ne.symm nb)).trans (((nB o _).block f F).trans N5.out);have R:=(b.block w.heap.size (by simp;omega) (Ne.symm c9)).trans (((nB o _).block w.heap.size (zY A.out)).trans A.out);refine⟨P,a4,uC E f 3 _ _ _ n6,yh j (a:=⟨f,3,none⟩) (by simp only[Value.ownBlock];intro e;injection e with e;omega) _,?_,(X7 E ⟨f,3,none⟩ _ w.heap.size (by simp;omega)).trans R⟩
      exact (Below.grown (B5.out.alloc B5.out.size _) b (by simp;omega) (λk hk=>by simp only[Value.ownBlock] at hk;injection hk with hk;omega)).setCell (by simp;omega) _
   case rest=>
    clear hg nb c9 B K zr N7 T O7 a2;obtain⟨g,cap,q,H,J,d⟩:=hcut;have hg:=World.ownsRow.lt H g (by rfl);have g0:=(zf q 0).1;have g1:=(zf q 1).1;have g2:=(zf q 2).1;have B:=(zf q 3).1;have y0:=(zf d 0).1;have y1:=(zf d 1).1;have y2:=(zf d 2).1;have y3:=(zf d 3).1;have t0:=(zf d 0).2;have t1:=(zf d 1).2;have t2:=(zf d 2).2;have t3:=(zf d 3).2;simp at g0 g1 g2 B y0 y1 y2 y3 t0 t1 t2 t3;have C:=gX d (.string r) (.string u) (.string y) (.slice (some ⟨g,0,none⟩) 2 cap);have r0:=(zf C 0).1;have r1:=(zf C 1).1;have r2:=(zf C 2).1;have r3:=(zf C 3).1;simp at r0 r1 r2 r3
    have m:∀k:Nat,(Value.slice (some ⟨g,0,none⟩) 2 cap).ownBlock≠some (⟨w.heap.size,k,none⟩:Addr).block:=λk e=>by
     simp only[Value.ownBlock] at e;injection e with e
     omega
    have HO:=hid (yh (yh (yh (yh H (m 0) (.string r)) (m 1) (.string u)) (m 2) (.string y)) (m 3) (.slice (some ⟨g,0,none⟩) 2 cap));have I:=hid ((((J.setCell (p:=⟨w.heap.size,0,none⟩) (ze _) (.string r)).setCell (p:=⟨w.heap.size,1,none⟩) (ze _) (.string u)).setCell (p:=⟨w.heap.size,2,none⟩) (ze _) (.string y)).setCell (p:=⟨w.heap.size,3,none⟩) (ze _) (.slice (some ⟨g,0,none⟩) 2 cap));clear C H J q d;go_wp2_with fail;exact qa (v := .agg #[.string r,.string u,.string y,.slice (some ⟨g,0,none⟩) 2 cap]) (by simp[results,results9,go_sem,r0,r1,r2,r3]) rfl ⟨some ⟨g,0,none⟩,cap,rfl,NU HO.out,I.out⟩
  ·have l:=a1.out;rw[za h5] at l;subst l;have k4:decide ((4:Int)<(n:Int))=false:=zH (by omega);have g0:=(zf q 0).1;have g1:=(zf q 1).1;have g2:=(zf q 2).1;have B:=(zf q 3).1;have y0:=(zf d 0).1;have y1:=(zf d 1).1;have y2:=(zf d 2).1;have y3:=(zf d 3).1;have t0:=(zf d 0).2;have t1:=(zf d 1).2;have t2:=(zf d 2).2;have t3:=(zf d 3).2;simp at g0 g1 g2 B y0 y1 y2 y3 t0 t1 t2 t3;have C:=gX d (.string r) (.string u) (.string y) (.slice (some ⟨g,0,none⟩) 1 cap);have r0:=(zf C 0).1;have r1:=(zf C 1).1;have r2:=(zf C 2).1;have r3:=(zf C 3).1;simp at r0 r1 r2 r3
   have m:∀k:Nat,(Value.slice (some ⟨g,0,none⟩) 1 cap).ownBlock≠some (⟨w.heap.size,k,none⟩:Addr).block:=λk e=>by
    simp only[Value.ownBlock] at e;injection e with e
    omega
   have HO:=hid (yh (yh (yh (yh H (m 0) (.string r)) (m 1) (.string u)) (m 2) (.string y)) (m 3) (.slice (some ⟨g,0,none⟩) 1 cap));have I:=hid ((((J.setCell (p:=⟨w.heap.size,0,none⟩) (ze _) (.string r)).setCell (p:=⟨w.heap.size,1,none⟩) (ze _) (.string u)).setCell (p:=⟨w.heap.size,2,none⟩) (ze _) (.string y)).setCell (p:=⟨w.heap.size,3,none⟩) (ze _) (.slice (some ⟨g,0,none⟩) 1 cap));clear C H J q d;go_wp2_with fail;exact qa (v := .agg #[.string r,.string u,.string y,.slice (some ⟨g,0,none⟩) 1 cap]) (by simp[results,results9,go_sem,r0,r1,r2,r3]) rfl ⟨some ⟨g,0,none⟩,cap,rfl,NT HO.out,I.out⟩
theorem mO(raw:List Int)(b:Value)(w:World)(h:IntsIn w b raw) :
  Calls prog 9 #[b] w (lG w (Kp.xe raw)):=by
 by_cases h0:raw.length=0
 ·obtain⟨a,c,rfl,_⟩:=h;have d:raw=[]:=uW.1 h0;subst d;refine (Ed w c a).mono ?_;rintro e f ⟨rfl,hb⟩;exact⟨none,0,rfl,.inl rfl,hb⟩
 ·by_cases h3:raw.length<=3
  ·refine (Ee raw b w h (by omega) h3).mono ?_;rintro e f ⟨rfl,hb⟩;exact⟨none,0,rfl,.inl (mJ h3),hb⟩
  ·exact Ec raw b w h (by omega)
end Go.Proofs.YtagnlbgbnfnapaaGreatDoor
