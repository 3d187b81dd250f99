/- P -/
import Derived.Test.YtagnlbgbnfnapaaGreatDoorK39
open Go.Proofs.Tryz
set_option maxRecDepth 100000
set_option maxHeartbeats 2000000
namespace Go.Proofs.YtagnlbgbnfnapaaGreatDoor
open Go.RowKit
theorem ZV{w w':World}{base:Nat}{e:TypeId}{size:Nat}{v:Value}{n:Nat}{xs:List Value}(h:w.ownsRow base e size v n xs)(c:∀i,base<=i->i<w.heap.size->w'.heap[i]?=w.heap[i]?):w'.ownsRow base e size v n xs:=by
 obtain⟨b,a⟩:=h;refine⟨b,?_⟩
 rcases a with a|⟨g,cap,cur,hv,hg,hh,h3⟩
 ·exact .inl a
 ·exact .inr ⟨g,cap,cur,hv,hg,by rw[c g hg (zy hh)];exact hh,h3⟩
theorem aC(a b c:Bool):a=true\/(a=false/\b=false)\/(a=false/\b=true/\c=true)\/(a=false/\b=true/\c=false):=by
 cases a<;>cases b<;>cases c<;>simp
theorem Sq{h:World}{base b c cap:Nat}{ns:List Ref.Node}(f:uH h base b c cap ns)(k:Int)(d:0<=k)(e:k<(ns.length:Int)):(Ref.textOf ns k).size<=12000:=by
 obtain⟨j,x,_,g,_,a⟩:=Ref.oh d e;rw[a];exact (f.small j x g).2.2
theorem Ce(i:Nat)(M:World)(base b gg cap:Nat)(ns:List Ref.Node)(n:Ref.Node)(m:Nat)(sh pt:Bool)(w:World)(T:vv M base b gg cap ns w)(hi:ns[i]?=some n)(X:M.heap.size<=m)(hf:qd w m sh pt)
  (j:¬(Ref.zq n Ref.bOp<0\/Ref.zq n Ref.zD<0\/Ref.kindOf ns (Ref.zq n Ref.bOp)≠3\/Ref.kindOf ns (Ref.zq n Ref.zD)≠3)) :
  Calls prog 212 #[.pointer (some ⟨b,0,none⟩),.int .i64 (i:Int),.pointer (some ⟨m,0,none⟩)] w (Jl w m sh pt (Ref.kI ns n)):=by
 have c:m<w.heap.size:=zy hf;obtain⟨⟨v1,v2⟩,⟨na,nc,o2⟩,⟨ka,kc,o3⟩,V,cH,cO⟩:=JV T hi;simp only at o2 o3;subst o2;subst o3;have v7:i<ns.length:=(zR.1 hi).1;have h8:=T.at.slice;have hlen:=T.rd.len;have oB:=Ref.jC T.rd.ev hi Ref.bOp;have kB:=Ref.jC T.rd.ev hi Ref.zD;have nB:=Ref.jC T.rd.ev hi Ref.bNo;have vB:=Ref.jC T.rd.ev hi Ref.zB;obtain⟨a1,a2,a3,a4⟩:=V w T.bel;simp only at a3 a4;obtain⟨nl,h6⟩:=Nm ns.length;have u:=hid h6;rw[h6] at h8 v7 hlen oB kB nB vB;unfold ZR at cH cO;simp only at cH cO;obtain⟨kind,H⟩:∃k,n.kind=k:=⟨_,rfl⟩;obtain⟨text,I⟩:∃k,n.text=k:=⟨_,rfl⟩;obtain⟨nn,h7⟩:∃k,n.names.length=k:=⟨_,rfl⟩;obtain⟨nk,h5⟩:∃k,n.kids.length=k:=⟨_,rfl⟩;rw[H] at a1;rw[I] at a2;rw[h7] at a3;rw[h5] at a4;simp only[H,I,h7,h5] at cH cO;have ST:=xm.start hf #[.int .i64 kind,.string text,.slice na nn nc,.slice ka nk kc] #[.string ⟨#[]⟩,.string ⟨#[]⟩,.slice none 0 0,.bool false];have e5:∀wx,xm w m #[.int .i64 kind,.string text,.slice na nn nc,.slice ka nk kc] #[.string ⟨#[]⟩,.string ⟨#[]⟩,.slice none 0 0,.bool false] sh pt wx->Below M.heap.size M wx:=λwx h=>(T.grown h.g X).bel;obtain⟨OP,U⟩:∃x,Ref.zq n Ref.bOp=x:=⟨_,rfl⟩;obtain⟨s2,A⟩:∃x,Ref.zq n Ref.zD=x:=⟨_,rfl⟩;obtain⟨D,d4⟩:∃x,Ref.zq n Ref.bNo=x:=⟨_,rfl⟩;obtain⟨K,d5⟩:∃x,Ref.zq n Ref.zB=x:=⟨_,rfl⟩;have c6:=λW h=>cH W Ref.bOp h;have c7:=λW h=>cH W Ref.zD h;have c8:=λW h=>cH W Ref.bNo h;have c9:=λW h=>cH W Ref.zB h;simp only[U] at c6;simp only[A] at c7;simp only[d4] at c8;simp only[d5] at c9;unfold Ref.bOp at c6;unfold Ref.zD at c7;unfold Ref.bNo at c8;unfold Ref.zB at c9;rw[U] at oB;rw[A] at kB;rw[d4] at nB;rw[d5] at vB;obtain⟨R,hR⟩:=Nm (Ref.kI ns n);rw[hR];unfold Ref.kI at hR;rw[za j] at hR;rw[U,A] at j;rw[U,A,d4,d5] at hR;have HR:=hid hR;have CO:=hid cO;have t:=hid T;have r:=hid e5;have i0:(0:Int)<=(i:Int):=zZ _;have i1:(i:Int)<(nl:Int):=by omega
 clear T cH hf V U A d4 d5 H I h7 h5 e5 cO h6 hR;have s1:=λO:Obj=>zi (nbl w O) h8;have b1:=λO:Obj=>zi (nbl w O) a1;have b2:=λO:Obj=>zi (nbl w O) a2;have b3:=λO:Obj=>zi (nbl w O) a3;have b4:=λO:Obj=>zi (nbl w O) a4;go_enter func212,ntmps212
 go_upto_region 8 with (first
  | (go_at_call 126;refine (c9 w3 (r.out w3 C3)).mono ?_;rintro e w4 ⟨rfl,m8⟩;have C4:=C3.below m8)
  | (go_at_call 126;refine (c8 w2 (r.out w2 C2)).mono ?_;rintro e w3 ⟨rfl,m6⟩;have C3:=C2.below m6;obtain⟨⟨z6,z7,z8,z9⟩,_,_,_⟩:=C3.cells)
  | (go_at_call 126;refine (c7 w1 (r.out w1 C)).mono ?_;rintro e w2 ⟨rfl,m0⟩;have C2:=C.below m0;obtain⟨⟨y8,y9,z4,z5⟩,_,_,_⟩:=C2.cells)
  | (go_at_call 126;refine (c6 _ (r.out _ ST)).mono ?_;rintro e w1 ⟨rfl,l9⟩;have C:=ST.below l9;obtain⟨⟨y4,y5,y6,y7⟩,_,_,_⟩:=C.cells))
 have d6:=zQ w4 (.cells #[.string ⟨#[111,112]⟩,.string ⟨#[107,101,121]⟩,.string ⟨#[110,111]⟩,.string ⟨#[118,97,108,117,101]⟩] 9);have C5:=C4.below (nbl w4 (.cells #[.string ⟨#[111,112]⟩,.string ⟨#[107,101,121]⟩,.string ⟨#[110,111]⟩,.string ⟨#[118,97,108,117,101]⟩] 9));obtain⟨w5,o4⟩:∃x,w4.alloc (.cells #[.string ⟨#[111,112]⟩,.string ⟨#[107,101,121]⟩,.string ⟨#[110,111]⟩,.string ⟨#[118,97,108,117,101]⟩] 9)=x:=⟨_,rfl⟩;rw[o4] at C5 d6 |-;obtain⟨g4,h4⟩:∃x,w4.heap.size=x:=⟨_,rfl⟩;rw[h4] at d6 |-;have n6:w.heap.size+3<=g4:=by rw[<- h4];exact C4.size
 have c5:=r.out w5 C5
 have p2:w5.cell? ⟨b,2,none⟩=some (.slice (some ⟨gg,0,none⟩) nl cap):=by
  have:=(t.out.rd.below c5).slice
  rwa [u.out] at this
 clear y4 y5 y6 y7 y8 y9 z4 z5 z6 z7 z8 z9 s1 b1 b2 b3 b4 a1 a2 a3 a4 h8 i0 i1 l9 m0 m6 m8 C C2 C3 C4 ST c6 c7 c8 c9 o4 h4;obtain⟨jo,rfl,o1⟩:=Yf t.out OP (by omega) (by rw[u.out];exact oB.2);obtain⟨jk,rfl,n8⟩:=Yf t.out s2 (by omega) (by rw[u.out];exact kB.2);have x1:(0:Int)<=(jo:Int):=zZ _;have x2:(jo:Int)<(nl:Int):=oB.2;have o6:(0:Int)<=(jk:Int):=zZ _;have o7:(jk:Int)<(nl:Int):=kB.2
 have k3:Ref.kindOf ns (jo:Int)=3:=by
  by_cases e:Ref.kindOf ns (jo:Int)=3
  ·exact e
  ·exact absurd (.inr (.inr (.inl e))) j
 have k4:Ref.kindOf ns (jk:Int)=3:=by
  by_cases e:Ref.kindOf ns (jk:Int)=3
  ·exact e
  ·exact absurd (.inr (.inr (.inr e))) j
 obtain⟨m1,m2⟩:=o1 w5 c5;obtain⟨m3,m4⟩:=n8 w5 c5;rw[k3] at m1;rw[k4] at m3;obtain⟨opT,Z⟩:∃x,Ref.textOf ns (jo:Int)=x:=⟨_,rfl⟩;obtain⟨a,o⟩:∃x,Ref.textOf ns (jk:Int)=x:=⟨_,rfl⟩;have g7:=HR.out;rw[Z,o] at g7;rw[Z] at m2;rw[o] at m4;have c4:=hid g7;have d1:decide ((jo:Int)<0)=false:=zO (by omega);have d2:decide ((jk:Int)<0)=false:=zO (by omega);obtain⟨_,⟨c0,c1,c2,c3⟩,⟨g0,g1,g2,g3⟩,⟨h0,_,h2,_⟩⟩:=C5.cells;have P1:=C5.put c 0 (.string opT) #[.string opT,.string ⟨#[]⟩,.slice none 0 0,.bool false] rfl;obtain⟨_,⟨_,t4,_,_⟩,⟨_,v0,_,_⟩,_⟩:=P1.cells;have C6:=P1.put c 1 (.string a) #[.string opT,.string a,.slice none 0 0,.bool false] rfl
 have p3:(w5.setCell ⟨w.heap.size+2,0,none⟩ (.string opT)).cell? ⟨b,2,none⟩=some (.slice (some ⟨gg,0,none⟩) nl cap):=by
  rw[qH _ _ _ _ (by have:=t.out.at.lt.1;simp only[ne_eq,Addr.mk.injEq];omega)];exact p2
 have x5:(w5.setCell ⟨w.heap.size+2,0,none⟩ (.string opT)).cell? ⟨gg,jk*4+1,none⟩=some (.string a):=by
  rw[qH _ _ _ _ (by have:=t.out.at.lt.2;simp only[ne_eq,Addr.mk.injEq];omega)];exact m4
 have d7:((w5.setCell ⟨w.heap.size+2,0,none⟩ (.string opT)).setCell ⟨w.heap.size+2,1,none⟩ (.string a)).heap[g4]?=some (.cells #[.string ⟨#[111,112]⟩,.string ⟨#[107,101,121]⟩,.string ⟨#[110,111]⟩,.string ⟨#[118,97,108,117,101]⟩] 9):=by
  rw[qc _ _ _ _ (by simp only;omega),qc _ _ _ _ (by simp only;omega)];exact d6
 have v8:a.size<=maxLen:=by
  rw[<- o];exact qZ (Sq t.out.rd _ o6 (by rw[u.out];exact o7)) (by decide)
 clear HR g7 Z o o1 n8 k3 k4 j
 go_upto_if 86 with fail
 obtain⟨w6,o5⟩:∃x,(w5.setCell ⟨w.heap.size+2,0,none⟩ (.string opT)).setCell ⟨w.heap.size+2,1,none⟩ (.string a)=x:=⟨_,rfl⟩;rw[o5] at C6 d7 |-;have f8:Below M.heap.size M w6:=(t.out.grown C6.g X).bel;have D6:b≠w.heap.size+2:=by have:=t.out.at.lt.1;omega
 have D7:gg≠w.heap.size+2:=by have:=t.out.at.lt.2;omega
 have p4:w6.cell? ⟨b,2,none⟩=some (.slice (some ⟨gg,0,none⟩) nl cap):=by
  have:=(t.out.rd.below f8).slice
  rwa [u.out] at this
 clear o5 p2 p3 m1 m2 m3 m4 x5 d6 c0 c1 c2 c3 g0 g1 g2 g3 h0 h2 t4 v0 P1 C5 c5 d1 d2 x1 x2 o6 o7
 go_cut [] (λwx=>xm w m #[.int .i64 kind,.string text,.slice na nn nc,.slice ka nk kc] #[.string opT,.string a,.slice none 0 0,.bool (Ref.noT ns D)] (sh||Ref.vW ns D) pt wx/\wx.heap[g4]?=some (.cells #[.string ⟨#[111,112]⟩,.string ⟨#[107,101,121]⟩,.string ⟨#[110,111]⟩,.string ⟨#[118,97,108,117,101]⟩] 9))
 case first=>
  by_cases hno:0<=D
  ·obtain⟨jn,rfl,o0⟩:=Yf t.out D hno (by rw[u.out];exact nB.2);have x0:(0:Int)<=(jn:Int):=zZ _;have E5:(jn:Int)<(nl:Int):=nB.2;have dn:decide ((0:Int)<=(jn:Int))=true:=zC x0;have e1:Ref.noT ns (jn:Int)=(Ref.kindOf ns (jn:Int)==4):=by unfold Ref.noT;rw[dn,Z0]
   have e2:Ref.vW ns (jn:Int)=(!(Ref.kindOf ns (jn:Int)==4) && !(Ref.kindOf ns (jn:Int)==5)):=by unfold Ref.vW;rw[dn,Z0]
   obtain⟨m5,_⟩:=o0 w6 f8;obtain⟨S,l7⟩:∃x,Ref.kindOf ns (jn:Int)=x:=⟨_,rfl⟩;rw[l7] at e1 e2 m5;have E1:=hid e1;have E2:=hid e2;obtain⟨_,⟨c0,c1,c2,c3⟩,⟨g0,g1,g2,g3⟩,⟨h0,_,h2,_⟩⟩:=C6.cells;have P3:=C6.put c 3 (.bool (S==4)) #[.string opT,.string a,.slice none 0 0,.bool (S==4)] rfl;obtain⟨_,_,_,⟨f0,_,f2,_⟩⟩:=P3.cells
   have E8:(w6.setCell ⟨w.heap.size+2,3,none⟩ (.bool (S==4))).cell? ⟨b,2,none⟩=some (.slice (some ⟨gg,0,none⟩) nl cap):=by
    rw[qH _ _ _ _ (by simp only[ne_eq,Addr.mk.injEq];omega)];exact p4
   have m7:(w6.setCell ⟨w.heap.size+2,3,none⟩ (.bool (S==4))).cell? ⟨gg,jn*4,none⟩=some (.int .i64 S):=by
    rw[qH _ _ _ _ (by simp only[ne_eq,Addr.mk.injEq];omega)];exact m5
   have a8:∀x,((w6.setCell ⟨w.heap.size+2,3,none⟩ (.bool (S==4))).setCell ⟨m,0,none⟩ x).heap[g4]?=some (.cells #[.string ⟨#[111,112]⟩,.string ⟨#[107,101,121]⟩,.string ⟨#[110,111]⟩,.string ⟨#[118,97,108,117,101]⟩] 9):=λx=>by
    rw[qc _ _ _ _ (by simp only;omega),qc _ _ _ _ (by simp only;omega)];exact d7
   have PT:=P3.shape c true;have PF:=P3.shape c false;have HP:=hid (uA PT PF);clear e1 e2 o0 l7 P3 PT PF C6 c4 CO
   cases sh with
   | true=>
    go_wp2_with fail
    go_meet
    case rel=>exact⟨by rw[E1.out,Bool.true_or];exact HP.out.1,a8 _⟩
   | false=>
    by_cases k4:S=4
    ·subst k4;go_wp2_with fail
     go_meet
     case rel=>exact⟨by rw[E1.out,E2.out,show (false||(!((4:Int)==4) && !((4:Int)==5)))=false from by decide];exact HP.out.2,a8 _⟩
    ·have q4:(S != 4)=true:=by simp[k4]
     have o9:(S==4)=false:=by simp[k4]
     by_cases k5:S=5
     ·subst k5;go_wp2_with fail
      go_meet
      case rel=>exact⟨by rw[E1.out,E2.out,show (false||(!((5:Int)==4) && !((5:Int)==5)))=false from by decide];exact HP.out.2,a8 _⟩
     ·have q5:(S != 5)=true:=by simp[k5]
      have p0:(S==5)=false:=by simp[k5]
      have Q4:=hid o9;have Q5:=hid p0;clear o9 p0;go_wp2_with fail
      go_meet
      case rel=>exact⟨by rw[E1.out,E2.out,Q4.out,Q5.out];first|exact HP.out.1|(have h:=HP.out.1;rw[Q4.out] at h;exact h),by first|exact a8 _|(have h:=a8 (.bool true);rw[Q4.out] at h;exact h)⟩
  ·have dn:decide ((0:Int)<=D)=false:=zO hno;have e1:Ref.noT ns D=false:=by unfold Ref.noT;rw[dn,Yt]
   have e2:Ref.vW ns D=false:=by unfold Ref.vW;rw[dn,Yt]
   have s0:=hid C6;have E1:=hid e1;have E2:=hid e2;clear e1 e2 c4 CO C6;have D8:D<0:=by omega
   go_wp2_with fail
   go_meet
   case rel=>exact⟨by rw[E1.out,E2.out,Zb];exact s0.out,d7⟩
 case rest=>
  obtain⟨C7,o8⟩:=hcut;obtain⟨⟨n0,n1,n2,n3⟩,⟨c0,c1,c2,c3⟩,⟨g0,g1,g2,g3⟩,⟨h0,h1,h2,h3⟩⟩:=C7.cells
  go_upto_if 131 with (go_at_call 124;refine (aV a _ v8).mono ?_;rintro e wN ⟨rfl,rfl⟩)
  have l2:Below M.heap.size M wN:=(t.out.grown C7.g X).bel;have cS:∀W,Below M.heap.size M W->Calls prog 238 #[.pointer (some ⟨b,0,none⟩),.int .i64 K] W (VN W (Ref.qK ns K)):=λW hb=>sS K base b gg cap ns W (t.out.rd.below hb) (by rw[u.out];exact vB.2) vB.1;have cP:∀W sh pt,Below M.heap.size M W->qd W m sh pt->Calls prog 211 #[.pointer (some ⟨b,0,none⟩),.int .i64 K,.pointer (some ⟨m,0,none⟩)] W (VJ W m sh pt (Ref.qK ns K)):=λW sh pt hb hf=>pJ K base b gg cap ns m sh pt W (t.out.rd.below hb) (by rw[u.out];exact vB.2) vB.1 hf
  have q:∀s ∈ (Ref.qK ns K).getD [],s.size<=12000:=by
   cases e:Ref.qK ns K with
   | none=>simp
   | some l=>exact Ref.sQ ns 12000 (λi n hi=>(t.out.rd.small i n hi).2.2) K l e
  have hlen:((Ref.qK ns K).getD []).length<=10:=by
   cases e:Ref.qK ns K with
   | none=>simp
   | some l=>exact Ref.sP ns K l e
  unfold VN at cS;unfold VJ at cP;obtain⟨SO,g9⟩:∃x,(Ref.qK ns K).isSome=x:=⟨_,rfl⟩;obtain⟨L,hL⟩:∃x,(Ref.qK ns K).getD []=x:=⟨_,rfl⟩;obtain⟨FI,g5⟩:∃x,Ref.Zn opT L=x:=⟨_,rfl⟩;have g8:=c4.out;rw[g9,hL,g5] at g8;simp only[g9,hL] at cS cP;rw[hL] at q hlen;have cV:=λ(lv:Value) (W:World) (bs:Nat) h=>SX opT L lv bs W h hlen q;rw[g5] at cV;have G:=hid g8;have CS:=hid cS;have CP:=hid cP;have CV:=hid cV;have f6:=hid l2;have P:=hid o8;have F6:=C7.size;have F:=hid C7;clear g8 cS cP cV l2 c4 g9 hL g5 q hlen o8 C7 p4 f8 C6 d7;obtain⟨J,a0⟩:∃x,(sh||Ref.vW ns D)=x:=⟨_,rfl⟩;rw[a0] at h0 F;obtain⟨Q,l8⟩:∃x,Ref.noT ns D=x:=⟨_,rfl⟩;rw[l8] at c3 F G;have d9:=hid a0;clear a0 l8;obtain⟨IS,l6⟩:∃x,Ref.qh a=x:=⟨_,rfl⟩;rw[l6] at G |-;clear l6
  go_cut [13] (λs wx=>∃(ts:List BY) (lv:Value) (vals:List BY) (x p:Bool),ts.length<=4000/\xm w m #[.int .i64 kind,.string text,.slice na nn nc,.slice ka nk kc] #[.string opT,.string a,lv,.bool Q] (J||x) (pt||p) wx/\wx.ownsRow w.heap.size 9 1 s ts.length (Ref.strCells ts)/\wx.ownsRow (w.heap.size+3) 9 1 lv vals.length (Ref.strCells vals)/\R=⟨opT,a,vals,Q,Ref.vW ns D||x || !IS || !Ref.yB n ts,p⟩)
  case first=>
   by_cases hab:Ref.xO opT=true
   ·have s5:Hid (∃(ts:List BY) (lv:Value) (vals:List BY) (x p:Bool),ts.length<=4000/\xm w m #[.int .i64 kind,.string text,.slice na nn nc,.slice ka nk kc] #[.string opT,.string a,lv,.bool Q] (J||x) (pt||p) wN/\wN.ownsRow w.heap.size 9 1 (.slice (some ⟨g4,0,none⟩) 3 4) ts.length (Ref.strCells ts)/\wN.ownsRow (w.heap.size+3) 9 1 lv vals.length (Ref.strCells vals)/\R=⟨opT,a,vals,Q,Ref.vW ns D||x || !IS || !Ref.yB n ts,p⟩):=
     ⟨[Ref.bOp,Ref.zD,Ref.bNo],.slice none 0 0,[],false,false,by decide,by rw[Zb,Zb];exact F.out,(nT P.out (by omega)).2,qD _ _ _ _,by rw[<- G.out,zb hab,Zb]⟩
    unfold Ref.xO at hab;clear G F P;rw[hab];go_wp2_with fail
    go_meet
    case rel=>exact s5.out
   ·have hr:=G.out;rw[za hab] at hr;have l1:=hid hr;have e8:(opT.toList==[97,98,115,101,110,116])=false:=by unfold Ref.xO at hab;simpa using hab
    clear hr G hab
    have k9:Hid (∀(wS wy:World) (la:Option Addr) (lc:Nat) (p y:Bool),Below wN.heap.size wN wS->wS.ownsRow wN.heap.size 9 1 (.slice la L.length lc) L.length (Ref.strCells L)->(∀i,w.heap.size+3<=i->i<wS.heap.size->wy.heap[i]?=wS.heap[i]?)->(Ref.yc opT && !L.all Ref.qF)=p->(J||(!SO || !FI))=y ->
      xm w m #[.int .i64 kind,.string text,.slice na nn nc,.slice ka nk kc] #[.string opT,.string a,.slice none 0 0,.bool Q] y (pt||p) wy ->
      ∃(ts:List BY) (lv:Value) (vals:List BY) (x p:Bool),ts.length<=4000/\xm w m #[.int .i64 kind,.string text,.slice na nn nc,.slice ka nk kc] #[.string opT,.string a,lv,.bool Q] (J||x) (pt||p) (wy.setCell ⟨w.heap.size+2,2,none⟩ (.slice la L.length lc))/\(wy.setCell ⟨w.heap.size+2,2,none⟩ (.slice la L.length lc)).ownsRow w.heap.size 9 1 (.slice (some ⟨g4,0,none⟩) 4 4) ts.length (Ref.strCells ts)/\(wy.setCell ⟨w.heap.size+2,2,none⟩ (.slice la L.length lc)).ownsRow (w.heap.size+3) 9 1 lv vals.length (Ref.strCells vals)/\R=⟨opT,a,vals,Q,Ref.vW ns D||x || !IS || !Ref.yB n ts,p⟩):=by
     intro wS wy la lc p y B d hk hp hy hC;subst hp;subst hy;have n5:g4<wN.heap.size:=zy P.out;have E0:=B.size;refine⟨[Ref.bOp,Ref.zD,Ref.bNo,Ref.zB],.slice la L.length lc,L,(!SO || !FI),_,by decide,hC.put c 2 _ _ rfl,(nT ?_ (by omega)).1,?_,l1.out.symm⟩
     ·rw[qc _ _ _ _ (by simp only;omega),hk g4 n6 (by omega),B.block g4 n5];exact P.out
     ·refine ZV (xA d (by omega)) (λi h1 h2=>?_);rw[qc _ _ _ _ (by simp only;omega)];exact hk i h1 h2
    clear l1 P;rw[e8];clear e8
    by_cases hlk:Ref.yc opT=true
    ·have n9:(opT.toList==[108,105,107,101])=true:=by unfold Ref.yc at hlk;exact hlk
     rcases aC J SO FI with rfl|⟨rfl,rfl⟩|⟨rfl,rfl,rfl⟩|⟨rfl,rfl,rfl⟩
     all_goals
      go_wp2_with (first
       | (go_at_call 238;refine (CS.out wN f6.out).mono ?_;rintro e wS ⟨lv,rfl,B,d⟩;obtain⟨la,lc,rfl⟩:=yt d;have C:=F.out.below B;obtain⟨_,⟨d0,_,d2,_⟩,⟨_,_,e2,_⟩,⟨f0,f1,f2,_⟩⟩:=C.cells;have k0:=λx=>(C.shape c x).cells.2.1.1)
       | (go_at_call 239;refine (CV.out _ _ _ d).mono ?_;rintro e wV ⟨rfl,rfl⟩)
       | (go_at_call 211;refine (CP.out _ _ _ (t.out.grown (C.shape c _).g X).bel (C.shape c _).f).mono ?_;rintro e wP ⟨lp,rfl,n7,v6,_⟩;have C2:=(C.shape c _).grown c n7 v6;obtain⟨_,⟨_,_,D1,_⟩,⟨_,_,D3,_⟩,_⟩:=C2.cells))
      go_meet
      case rel=>exact k9.out _ _ _ _ (!L.all Ref.qF) _ B d (λi h1 h2=>(n7.block i (by simp[World.setCell];omega) (by simp;omega)).trans (qc _ _ _ _ (by simp only;omega))) (by rw[hlk,Z0]) rfl C2
    ·have Y:Ref.yc opT=false:=by simpa using hlk
     have n9:(opT.toList==[108,105,107,101])=false:=by unfold Ref.yc at Y;exact Y
     clear hlk
     rcases aC J SO FI with rfl|⟨rfl,rfl⟩|⟨rfl,rfl,rfl⟩|⟨rfl,rfl,rfl⟩
     all_goals
      go_wp2_with (first
       | (go_at_call 238;refine (CS.out wN f6.out).mono ?_;rintro e wS ⟨lv,rfl,B,d⟩;obtain⟨la,lc,rfl⟩:=yt d;have C:=F.out.below B;obtain⟨_,⟨d0,_,d2,_⟩,⟨_,_,e2,_⟩,⟨f0,f1,f2,_⟩⟩:=C.cells;have k0:=λx=>(C.shape c x).cells.2.1.1;have k2:=λx=>(C.shape c x).cells.2.1.2.2.1;have k3:=λx=>(C.shape c x).cells.2.2.1.2.2.1)
       | (go_at_call 239;refine (CV.out _ _ _ d).mono ?_;rintro e wV ⟨rfl,rfl⟩))
      go_meet
      case rel=>exact k9.out _ _ _ _ false _ B d (λi h1 _=>qc _ _ _ _ (by simp only;omega)) (by rw[Y,Yt]) rfl (by rw[Zb];exact C.shape c _)
  case rest=>
   obtain⟨ts,lv,vals,x,p,w7,C8,oT,oV,v5⟩:=hcut;clear G F P CS CP CV f6;subst v5;obtain⟨a6,a7,rfl⟩:=yt oV;obtain⟨ta,tc,rfl⟩:=yt oT;have l3:Below M.heap.size M wc:=(t.out.grown C8.g X).bel;obtain⟨ON,g6⟩:∃z,Ref.yB n ts=z:=⟨_,rfl⟩;have cO:=CO.out wc ts (.slice ta ts.length tc) w.heap.size l3 oT w7;rw[g6] at cO;obtain⟨p1,a5⟩:∃z,(J||x)=z:=⟨_,rfl⟩;rw[a5] at C8
   have FF:Hid (∀(w9:World) (y:Bool),Below wc.heap.size wc w9->(p1 || !IS || !ON)=y ->
     Jl w m sh pt ⟨opT,a,vals,Q,Ref.vW ns D||x || !IS || !Ref.yB n ts,p⟩ (.returned (.agg #[.string opT,.string a,.slice a6 vals.length a7,.bool Q])) (((((w9.setCell ⟨m,0,none⟩ (.bool y)).setCell ⟨w.heap.size,0,none⟩ (.string opT)).setCell ⟨w.heap.size,1,none⟩ (.string a)).setCell ⟨w.heap.size,2,none⟩ (.slice a6 vals.length a7)).setCell ⟨w.heap.size,3,none⟩ (.bool Q))):=by
    intro w9 y hb hy;have e9:=((C8.below hb).shape c y).fin c (.string opT) (.string a) (.slice a6 vals.length a7) (.bool Q);refine⟨_,rfl,e9.1,?_,?_⟩
    ·have e1:(sh||(Ref.vW ns D||x || !IS || !Ref.yB n ts))=y:=by rw[<- hy,<- a5,<- d9.out,g6];simp only[Yu]
     show qd _ m (sh||(Ref.vW ns D||x || !IS || !Ref.yB n ts)) (pt||p);rw[e1];exact e9.2
    ·refine xA (ZV (ownsRow_below oV hb) (λi h1 h2=>?_)) (by omega);rw[qc _ _ _ _ (by simp only;omega),qc _ _ _ _ (by simp only;omega),qc _ _ _ _ (by simp only;omega),qc _ _ _ _ (by simp only;omega),qc _ _ _ _ (by simp only;omega)]
   obtain⟨⟨q0,q1,q2,q3⟩,_,_,_⟩:=C8.cells;clear g6 a5 d9 oT oV l3 CO
   rcases aC p1 IS ON with rfl|⟨rfl,rfl⟩|⟨rfl,rfl,rfl⟩|⟨rfl,rfl,rfl⟩
   all_goals
    go_wp2_with (go_at_call 168;refine cO.mono ?_;rintro e w9 ⟨rfl,m9⟩;have N:=C8.below m9;obtain⟨_,_,_,⟨f0,f1,f2,_⟩⟩:=N.cells;have y0:=λx=>(N.shape c x).cells.2.1.1;have y1:=λx=>(N.shape c x).cells.2.1.2.1;have y2:=λx=>(N.shape c x).cells.2.1.2.2.1;have y3:=λx=>(N.shape c x).cells.2.1.2.2.2;have t0:=λx=>(N.shape c x).res.1.1;have t1:=λx=>(N.shape c x).res.1.2.1;have t2:=λx=>(N.shape c x).res.1.2.2.1;have t3:=λx=>(N.shape c x).res.1.2.2.2;have z0:=λx=>(N.shape c x).res.2.1;have z1:=λx=>(N.shape c x).res.2.2.1;have z2:=λx=>(N.shape c x).res.2.2.2.1;have z3:=λx=>(N.shape c x).res.2.2.2.2;have E:=λx=>rW (.string opT) (.string a) (.slice a6 vals.length a7) (.bool Q) (t0 x) (t1 x) (t2 x) (t3 x);have e0:=λx=>(E x).1;have e1:=λx=>(E x).2.1;have e2:=λx=>(E x).2.2.1;have e3:=λx=>(E x).2.2.2;clear E)
    exact zN (v := .agg #[.string opT,.string a,.slice a6 vals.length a7,.bool Q]) (by simp[results,results212,go_sem,e0,e1,e2,e3]) rfl (FF.out _ _ m9 rfl)
theorem Cb(i:Nat)(d:World)(base b f cap:Nat)(ns:List Ref.Node)(n:Ref.Node)(a:Nat)(sh pt:Bool)(w:World)(g:vv d base b f cap ns w)(hi:ns[i]?=some n)(c:d.heap.size<=a)(j:qd w a sh pt) :
  Calls prog 212 #[.pointer (some ⟨b,0,none⟩),.int .i64 (i:Int),.pointer (some ⟨a,0,none⟩)] w (Jl w a sh pt (Ref.kI ns n)):=by
 by_cases h:Ref.zq n Ref.bOp<0\/Ref.zq n Ref.zD<0\/Ref.kindOf ns (Ref.zq n Ref.bOp)≠3\/Ref.kindOf ns (Ref.zq n Ref.zD)≠3
 ·have e:Ref.kI ns n=Ref.yf:=by unfold Ref.kI;rw[zb h]
  rw[e];exact Cc i d base b f cap ns n a sh pt w g hi c j h
 ·exact Ce i d base b f cap ns n a sh pt w g hi c j h
theorem Ol(text:BY):((qC text).1=0->Rd.JK (qC text).2.2.nodes (qC text).2.2.root.toNat=Rd.xe text)/\((qC text).1≠0->((qC text).1,(qC text).2.1)=Rd.xe text):=by
 obtain⟨R,a⟩:=Nm (qC text);rw[a];unfold qC at a;unfold Rd.xe
 by_cases h1:4000<text.size
 ·rw[zb h1] at a |-;subst a;exact⟨λe=>by simp at e,λ_=>rfl⟩
 rw[za h1] at a |-;have f:=Rd.rE text.data.toList;have hlen:text.data.toList.length=text.size:=Ref.zA text;obtain⟨Q,i⟩:=Nm (Ref.run Ref.init text.data.toList 0);rw[i] at a
 cases hm:Rd.yC text.data.toList with
 | ok v p=>
  rw[hm] at f;simp only at f;obtain⟨m,c,r,o,k,g⟩:=f;unfold Rd.verdict at c;rw[List.drop_zero,i] at c
  by_cases c1:Q.1≠0
  ·rw[zb c1] at c;rw[c] at c1;exact absurd rfl c1
  rw[za c1] at c a
  by_cases c2:Q.2.2.state≠6\/Q.2.2.opn≠[]
  ·rw[zb c2] at c;simp at c
  rw[za c2] at c a;subst a;refine⟨λ_=>?_,λe=>absurd rfl e⟩;simp only[c,k];exact Rd.Dw g
 | err e q=>
  rw[hm] at f;simp only at f;obtain⟨b,d⟩:=f;have j:=Rd.UH hm;have n:e≠0:=by unfold Rd.Code at j;omega
  unfold Rd.verdict at b d;rw[List.drop_zero,i] at b d;simp only
  by_cases c1:Q.1≠0
  ·rw[zb c1] at b d a;subst a;exact⟨λh=>absurd h c1,λ_=>by rw[b,d]⟩
  rw[za c1] at b d a
  by_cases c2:Q.2.2.state≠6\/Q.2.2.opn≠[]
  ·rw[zb c2] at b d a;subst a;refine⟨λh=>by simp at h,λ_=>?_⟩;simp only at b d |-;rw[<- b,<- d,hlen]
  ·rw[za c2] at b;exact absurd b.symm (λl=>c1 (by omega))
end Go.Proofs.YtagnlbgbnfnapaaGreatDoor
