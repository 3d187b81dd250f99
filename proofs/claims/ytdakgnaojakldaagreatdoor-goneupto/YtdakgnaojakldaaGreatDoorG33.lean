/- P -/
import Derived.Test.YtdakgnaojakldaaGreatDoorG32
import Derived.Deep.AppendLies
open Go.Proofs.Tryz
set_option maxRecDepth 100000
set_option maxHeartbeats 4000000
namespace Go.Proofs.YtdakgnaojakldaaGreatDoor
open Go.RowKit
namespace Kp
open Rd Ref
theorem UT(nt:Bool)(raw:List Int):YN (nt,qg raw):=⟨(ZB raw).1,by have:=(ZB raw).2;simp only;omega,λp a=>VK p (QF a)⟩
theorem Li{l:List BA}(a:1<=l.length)(b:l.length<=10)(h:∀s ∈ l,xg s=true)(st:Int):zX XV (some (zP l st))=0/\qI XV (some (zP l st))=l:=by
 unfold zX qI;rw[if_pos (by kernel_rfl),if_pos (by kernel_rfl)];exact⟨ZL st a b (λs c=>Jv (h s c)),Jm strOf st a b (λs _=>rfl)⟩
theorem aH{f:BA->Bool}{s:BA}(h:f s=true):qo f (some (.str s))=s:=by
 show (if f s then s else ⟨#[]⟩)=s
 rw[h];rfl
theorem Lj{l:List BA}(b:1<=l.length)(c:l.length<=10)(h:∀s ∈ l,short s=true)(st:Int):zX Z8 (some (zP l st))=0/\qI Z8 (some (zP l st))=l:=by
 unfold zX qI;rw[show qG Z8=false by kernel_rfl,show xV Z8=true by kernel_rfl];exact⟨ZL st b c (λs a=>Zf (h s a)),Jm _ st b c (λs a=>aH (h s a))⟩
theorem Lh{l:List BA}(b:1<=l.length)(c:l.length<=10)(h:∀s ∈ l,qH s=true)(st:Int):zX uS (some (zP l st))=0/\qI uS (some (zP l st))=l:=by
 unfold zX qI;rw[show qG uS=false by kernel_rfl,show xV uS=false by kernel_rfl,show yN uS=true by kernel_rfl];exact⟨ZL st b c (λs a=>Zf (h s a)),Jm _ st b c (λs a=>aH (h s a))⟩
theorem Ll{l:List BA}(b:1<=l.length)(c:l.length<=10)(h:∀s ∈ l,filled s=true)(st:Int):zX vR (some (zP l st))=0/\qI vR (some (zP l st))=l:=by
 unfold zX qI;rw[show qG vR=false by kernel_rfl,show xV vR=false by kernel_rfl,show yN vR=false by kernel_rfl,show uA vR=true by kernel_rfl];exact⟨ZL st b c (λs a=>Zf (h s a)),Jm _ st b c (λs a=>aH (h s a))⟩
theorem lI:zX jy none=0/\qI jy none=[]:=⟨by kernel_rfl,by kernel_rfl⟩
theorem EO{op key:BA}{l:List BA}{no:Bool}(b:∃k,k<5/\op=opN k)(a:zO key=true)(d:1<=l.length)(h:∀st,zX op (some (zP l st))=0/\qI op (some (zP l st))=l):YM ⟨op,key,l,no⟩:=
 ⟨b,a,λ_=>by have:=h 0;rw[lq] at this;exact this,λc=>by simp only at c;omega⟩
theorem UY(r:zl)(h:Qk r=true):jY r = .obj ([(zm,.str (keyOf r)),(bOp,.str jy)]++jC r)/\yJ r=⟨jy,keyOf r,[],r.no⟩
  \/ ∃op l,jY r=Qc r op l/\yJ r=⟨op,keyOf r,l,r.no⟩/\(∃k,k<5/\op=opN k)/\1<=l.length/\l.length<=2/\(∀s ∈ l,Pl s/\s.size<=8)/\∀st,zX op (some (zP l st))=0/\qI op (some (zP l st))=l:=by
 have h:=of_decide_eq_true h;unfold xm at h;unfold jY yJ
 revert h
 generalize zk r.iff 8=j;intro h
 split
 ·exact .inl ⟨rfl,rfl⟩
 ·refine .inr ⟨XV,_,rfl,rfl,⟨0,by decide,rfl⟩,by simp,by simp,?_,Li (by simp) (by simp) ?_⟩
  ·intro s a
   rcases List.mem_cons.1 a with rfl|a
   ·have:=ve (l:=patterns) (qP r.val 14 (by decide))
    exact⟨Yu _ this,Jw _ this⟩
   ·rw[List.mem_singleton] at a;subst a;exact⟨Ze _ rfl,by decide⟩
  ·intro s a
   rcases List.mem_cons.1 a with rfl|a
   ·exact VK _ (ve (qP r.val 14 (by decide)))
   ·rw[List.mem_singleton] at a;subst a;kernel_rfl
 ·have:=ve (l:=words) (qP r.val 14 (by decide))
  exact .inr ⟨Z8,_,rfl,rfl,⟨1,by decide,rfl⟩,by simp,by simp,λs a=>by rw[List.mem_singleton] at a;subst a;exact⟨sK _ this,Ug _ this⟩,Lj (by simp) (by simp) (λs a=>by rw[List.mem_singleton] at a;subst a;exact Uf _ this)⟩
 ·have:=ve (l:=nums) (qP r.val 4 (by decide))
  exact .inr ⟨uS,_,rfl,rfl,⟨2,by decide,rfl⟩,by simp,by simp,λs a=>by rw[List.mem_singleton] at a;subst a;exact⟨mU _ this,KT _ this⟩,Lh (by simp) (by simp) (λs a=>by rw[List.mem_singleton] at a;subst a;exact mR _ this)⟩
 ·have:=ve (l:=Zk) (qP r.val 3 (by decide))
  exact .inr ⟨vR,_,rfl,rfl,⟨3,by decide,rfl⟩,by simp,by simp,λs a=>by rw[List.mem_singleton] at a;subst a;exact⟨si _ this,bS _ this⟩,Ll (by simp) (by simp) (λs a=>by rw[List.mem_singleton] at a;subst a;exact rZ _ this)⟩
 ·rename_i b c d e f;exfalso;apply h
  split
  all_goals first|rfl|(exfalso;first|exact b rfl|exact c rfl|exact d rfl|exact e rfl|exact f rfl)
theorem iP(r:zl):zO (keyOf r)=true:=KD _ (Yg r)
theorem fq(r:zl)(h:Qk r=true):YM (yJ r):=by
 rcases UY r h with ⟨_,e⟩|⟨op,l,_,e,ho,h0,_,_,hl⟩
 ·rw[e];exact⟨⟨4,by decide,rfl⟩,iP r,λh=>by simp at h,λ_=>lI⟩
 ·rw[e];exact EO ho (iP r) h0 hl
theorem BJ(r:zl)(h:Qk r=true):yx (jY r)=yJ r/\condC (jY r)=0:=by
 have a:=fq r h
 rcases UY r h with ⟨e,e2⟩|⟨op,l,e,e2,_,h0,_,_,hl⟩
 ·rw[e2] at a |-;rw[e];unfold jC;refine Ve a none lI ?_ ?_ ?_ ?_ ?_
  all_goals (cases r.no<;>kernel_rfl)
 ·rw[e2] at a |-;rw[e];unfold Qc jC;refine Ve a (some (zP l r.style)) (hl _) ?_ ?_ ?_ ?_ ?_
  all_goals (cases r.no<;>kernel_rfl)
theorem DC(r:zl):xL (uw r)=true:=by unfold uw;cases r.deny<;>kernel_rfl
theorem aP(r:zl):Ui (stK r):=by
 refine⟨DC r,UT _ _,UT _ _,UT _ _,?_,?_⟩
 ·unfold stK;simp only;split<;>simp
 ·intro c a;unfold stK at a;simp only at a
  split at a
  ·rename_i h;rw[List.mem_singleton] at a;subst a;exact fq r h
  ·simp at a
theorem UK(raw:List Int)(nt:Bool)(st:Int):chS (some (jh raw nt st))=(nt,qg raw)/\chC (some (jh raw nt st))=0:=by
 refine⟨?_,J7 raw nt st⟩
 have:=eu (c:=(nt,qg raw)) st (ZB raw).1 (by have:=(ZB raw).2;simp only;omega)
 exact this
theorem rC(r:zl):xk (ZQ r)=stK r:=by
 have c:=aP r;have c1:=UK r.who (decide (zk r.nt 16=2)) r.style;have c2:=UK r.act (decide (zk r.nt 16=3)) r.style;have c3:=UK r.on (decide (zk r.nt 16=1)) r.style;unfold ZQ Xq
 by_cases hz:(xm r).size=0
 ·rw[if_pos hz];have a:Qk r=false:=decide_eq_false (λh=>h hz);have hi:(stK r).ifs=[]:=by unfold stK;simp only;rw[a];rfl
  exact (V3 c _ _ _ none c1 c2 c3 ⟨by rw[hi];rfl,rfl⟩ (by kernel_rfl) (by kernel_rfl) (by kernel_rfl) (by kernel_rfl) (by kernel_rfl) (by kernel_rfl)).1
 ·rw[if_neg hz];have a:Qk r=true:=decide_eq_true hz;have hi:(stK r).ifs=[yJ r]:=by unfold stK;simp only;rw[a];rfl
  have b:=BJ r a;refine (V3 c _ _ _ (some (.list [jY r])) c1 c2 c3 ⟨?_,?_⟩ (by kernel_rfl) (by kernel_rfl) (by kernel_rfl) (by kernel_rfl) (by kernel_rfl) (by kernel_rfl)).1
  ·rw[hi];show [yx (jY r)]=[yJ r];rw[b.1]
  ·show zW [condC (jY r)]=0;rw[b.2];rfl
theorem rW(l:List zl):xP (qp l)=qU l:=by
 unfold xP;have b:=nH l;have a:=aa l;unfold bl at a;rw[if_neg (by omega),a];simp only
 have:stX (X4 l)=some (.list (uH l)):=by unfold X4 stX;kernel_rfl
 rw[this];show (uH l).map xk=qU l;unfold uH qU XA
 split
 ·simp only[List.map_cons,List.map_nil,rC]
 ·rw[List.map_map];exact List.map_congr_left λr _=>rC r
theorem VE:∀k,k<5->Pl (opN k)/\(opN k).size<=6:=λk a=>by
 have:k=0\/k=1\/k=2\/k=3\/k=4:=by omega
 rcases this with rfl|rfl|rfl|rfl|rfl<;>exact⟨Ze _ (by decide),by decide⟩
theorem fu(r:zl)(h:Qk r=true):Pl (yJ r).op/\(yJ r).op.size<=6/\Pl (yJ r).key/\(yJ r).key.size<=3/\(yJ r).vals.length<=2/\∀p ∈ (yJ r).vals,Pl p/\p.size<=8:=by
 have b:=IA _ (Yg r);have c:=KE _ (Yg r)
 rcases UY r h with ⟨_,e⟩|⟨op,l,_,e,⟨k,h5,rfl⟩,_,h2,a,_⟩
 ·rw[e];exact⟨(VE 4 (by decide)).1,(VE 4 (by decide)).2,b,c,by simp,λp a=>by simp at a⟩
 ·rw[e];exact⟨(VE k h5).1,(VE k h5).2,b,c,h2,a⟩
theorem UQ(raw:List Int):qg raw≠[]/\∀p ∈ qg raw,Pl p:=⟨UO raw,λp a=>Yu p (QF a)⟩
theorem pG(r:zl):∀c ∈ (stK r).ifs,Qk r=true/\c=yJ r:=by
 intro c a;unfold stK at a;simp only at a
 split at a
 ·rename_i h;exact⟨h,List.mem_singleton.1 a⟩
 ·simp at a
theorem pI(r:zl):PlS (stK r):=by
 refine⟨?_,UQ _,UQ _,UQ _,λc a=>?_⟩
 ·show Pl (uw r);unfold uw
  split<;>exact Ze _ (by decide)
 ·obtain⟨h,rfl⟩:=pG r c a
  have:=fu r h
  exact⟨this.1,this.2.2.1,λp b=>(this.2.2.2.2.2 p b).1⟩
theorem iL{B:Nat}:∀ts:List (List UInt8),(∀t ∈ ts,t.length<=B)->(xW [44] ts).length<=(B+1)*ts.length
 | [],_=>by simp[xW]
 | [t],h=>by have:=h t (by simp);simp[xW];omega
 | t::u::ts,h=>by
  have b:=iL (u::ts) (λx a=>h x (by simp[a]))
  have:=h t (by simp)
  show (t++[44]++xW [44] (u::ts)).length<=_;simp only[List.length_append,List.length_cons,List.length_nil] at b |-;rw[Nat.mul_succ];omega
theorem KJ{B:Nat}(l:List BA)(h:∀s ∈ l,s.size<=B):(qX l).size<=(B+1)*l.length+2:=by
 rw[<- QD,ll]
 have:=iL (B:=B) (l.map bl) (λt a=>by obtain⟨s,hs,rfl⟩:=List.mem_map.1 a;rw[QD];exact h s hs)
 simp only[List.length_append,List.length_cons,List.length_nil,List.length_map] at this |-;omega
theorem VQ{s:BA}(h:Pl s):(Ref.zG s).size=s.size+2:=by
 rw[<- QD,oq h];simp only[List.length_append,List.length_cons,List.length_nil,QD];omega
theorem rM{B:Nat}(l:List BA)(h:∀s ∈ l,Pl s/\s.size<=B):(qX (l.map Ref.zG)).size<=(B+3)*l.length+2:=by
 have:=KJ (B:=B+2) (l.map Ref.zG) (λt a=>by obtain⟨s,hs,rfl⟩:=List.mem_map.1 a;rw[VQ (h s hs).1];have:=(h s hs).2;omega)
 rw[List.length_map] at this;omega
theorem UU(nt:Bool)(raw:List Int):(yg (nt,qg raw)).size<=54:=by
 have h:=rM (B:=8) (qg raw) (λp a=>⟨Yu p (QF a),Jw p (QF a)⟩);have b:=(ZB raw).2;have c:(⟨#[123,34,110,111,116,34,58]⟩:BA).size=7:=rfl;have d:(⟨#[125]⟩:BA).size=1:=rfl;unfold yg
 cases nt with
 | true=>simp only[if_true,ByteArray.size_append];omega
 | false=>simp only[Bool.false_eq_true,if_false];omega
theorem BD(r:zl)(h:Qk r=true):(xK (yJ r)).size<=70:=by
 obtain⟨a,d,b,e,f,c⟩:=fu r h;have g:=rM (B:=8) (yJ r).vals c;have i:=VQ a;have q2:=VQ b;have j:(⟨#[123,34,111,112,34,58]⟩:BA).size=6:=rfl;have k:(⟨#[44,34,107,101,121,34,58]⟩:BA).size=7:=rfl
 have l:(if 0<(yJ r).vals.length then ⟨#[44,34,118,97,108,117,101,34,58]⟩++qX ((yJ r).vals.map Ref.zG) else ⟨#[]⟩:BA).size<=33:=by
  have z:(⟨#[44,34,118,97,108,117,101,34,58]⟩:BA).size=9:=rfl
  split
  ·rw[ByteArray.size_append];omega
  ·exact Nat.zero_le _
 have m:(if (yJ r).no then ⟨#[44,34,110,111,34,58,116,114,117,101]⟩ else ⟨#[]⟩:BA).size<=10:=by split<;>decide
 have n:(⟨#[125]⟩:BA).size=1:=rfl;rw[fA];simp only[ByteArray.size_append];omega
theorem Sb(r:zl):(xh (stK r)).size<=300:=by
 have c1:=UU (decide (zk r.nt 16=2)) r.who;have c2:=UU (decide (zk r.nt 16=3)) r.act;have c3:=UU (decide (zk r.nt 16=1)) r.on
 have f:(Ref.zG (stK r).eff).size<=7:=by
  rw[VQ (pI r).eff];show (uw r).size+2<=7;unfold uw
  split<;>decide
 have g:(⟨#[123,34,101,102,102,101,99,116,34,58]⟩:BA).size=10:=rfl;have i:(⟨#[44,34,119,104,111,34,58]⟩:BA).size=7:=rfl;have j:(⟨#[44,34,100,111,34,58]⟩:BA).size=6:=rfl;have k:(⟨#[44,34,111,110,34,58]⟩:BA).size=6:=rfl
 have l:(if 0<(stK r).ifs.length then ⟨#[44,34,105,102,34,58]⟩++uU (stK r).ifs else ⟨#[]⟩:BA).size<=80:=by
  have z:(⟨#[44,34,105,102,34,58]⟩:BA).size=6:=rfl
  split
  ·have b:=KJ (B:=70) ((stK r).ifs.map xK) (λt d=>by
    obtain⟨c,a,rfl⟩:=List.mem_map.1 d;obtain⟨h,rfl⟩:=pG r c a;exact BD r h)
   have e:(stK r).ifs.length<=1:=by unfold stK;simp only;split<;>simp
   rw[List.length_map] at b;rw[ByteArray.size_append];unfold uU;omega
  ·exact Nat.zero_le _
 have m:(⟨#[125]⟩:BA).size=1:=rfl;rw[ry];simp only[ByteArray.size_append];show 10+(Ref.zG (stK r).eff).size+(7+(yg (decide (zk r.nt 16=2),qg r.who)).size)+(6+(yg (decide (zk r.nt 16=3),qg r.act)).size)+(6+(yg (decide (zk r.nt 16=1),qg r.on)).size)+_+1<=300;omega
theorem aJ(l:List zl):1<=(XA l).length/\(XA l).length<=4:=by
 unfold XA
 split
 ·simp
 ·rw[List.length_take];omega
theorem fV(l:List zl):(yA (qU l)).size<=1300:=by
 have d:=KJ (B:=300) ((qU l).map xh) (λt b=>by
  obtain⟨s,a,rfl⟩:=List.mem_map.1 b;obtain⟨r,_,rfl⟩:=List.mem_map.1 a;exact Sb r)
 have c:=(aJ l).2;have e:((qU l).map xh).length=(XA l).length:=by unfold qU;rw[List.length_map,List.length_map]
 have f:(⟨#[123,34,115,116,97,116,101,109,101,110,116,34,58]⟩:BA).size=13:=rfl;have g:(⟨#[125]⟩:BA).size=1:=rfl;unfold yA;rw[ByteArray.size_append,ByteArray.size_append];omega
theorem Dc(l:List zl):qU l≠[]:=by
 intro e
 have:=congrArg List.length e
 have h:=(aJ l).1;unfold qU at this;rw[List.length_map,List.length_nil] at this;omega
theorem Db(l:List zl):1<=(qU l).length/\(qU l).length<=4:=by unfold qU;rw[List.length_map];exact aJ l
theorem U5{l:List zl}{s:zw}(h:s ∈ qU l):∃r ∈ XA l,stK r=s:=List.mem_map.1 h
theorem nT(l:List zl):xD (yA (qU l)).data.toList = .ok (dcV (qU l)) (bl (yA (qU l))).length:=
 Oa _ (Dc l) (λs a=>by obtain⟨r,_,rfl⟩:=U5 a;exact pI r)
theorem fJ(L:List zw):stX (dcV L)=some (.list (L.map stV)):=by unfold dcV stX;kernel_rfl
theorem NU(l:List zl):xS (yA (qU l))=(0,0):=by
 have d:=fV l;have b:=nT l;have h:=Db l;unfold xS;rw[if_neg (by omega),b];simp only;rw[fZ];have a:qd (stX (dcV (qU l)))=(qU l).map stV:=by rw[fJ];rfl
 have g:Qr (dcV (qU l))=1:=rfl;rw[a,g,List.length_map,if_neg (by omega)];have f:=Yz b;rw[Vm (L:=(yA (qU l)).data.toList.length) _ 0 (by have:=bT f;rw[a] at this;exact this)];refine Vn _ 0 (λc e=>?_);obtain⟨v,a,rfl⟩:=List.mem_map.1 e;obtain⟨s,d,rfl⟩:=List.mem_map.1 a;obtain⟨r,_,rfl⟩:=U5 d;exact (pJ (aP r)).2
theorem Tz(l:List zl):xP (yA (qU l))=qU l:=by
 have a:=fV l;unfold xP;rw[if_neg (by omega),nT];simp only;rw[fJ];show ((qU l).map stV).map xk=qU l;rw[List.map_map];refine (List.map_congr_left (g:=id) (λs a=>?_)).trans (by simp);obtain⟨r,_,rfl⟩:=U5 a;exact (pJ (aP r)).1
end Kp
def Ye(k:Nat):UInt8:=(#[48,49,50,51,52,53,54,55,56,57,97,98,99,100,101,102]:Array UInt8).getD k 0
def Y7(b:UInt8):BA:=
 if b.toNat=34\/b.toNat=92 then ⟨#[92,b]⟩ else if b.toNat=10 then ⟨#[92,110]⟩ else if b.toNat=9 then ⟨#[92,116]⟩
 else if b.toNat<32 then ⟨#[92,117,48,48,Ye (b.toNat / 16),Ye (b.toNat % 16)]⟩ else ⟨#[b]⟩
theorem Xg{w:World}{B:Nat}{a:Value}{t u:BA}{n:Nat}{news:List Value}(b:u.size=n)(c:Rd.xI u=news)(h:w.ownsRow B 5 1 a (t.size+n) (Rd.xI t++news)):yF w B a (t++u):=by
 unfold yF;rw[Rd.J4,c,show (t++u).size=t.size+n by simp[b]];exact h
theorem kW(w:World)(cs:Array Value)(t:TypeId):∀(j:Nat) (u:Value),cs.toList[j]?=some u->(w.alloc (.cells cs t)).cell? ((⟨w.heap.size,0,none⟩:Addr).add j)=some u:=by
 intro j u a;have h:=(za (heap_alloc_new w (.cells cs t)) j).1;rw[addr_add];simp only[Nat.zero_add];rw[h]
 simpa using a
theorem Lf(w:World)(cs:Array Value)(t:TypeId):∀(j:Nat) (u:Value),cs.toList[j]?=some u->(w.alloc (.cells cs t)).drew.cell? ((⟨w.heap.size,0,none⟩:Addr).add j)=some u:=kW w cs t
theorem wN(t:BA)(v:Value)(B:Nat)(b:UInt8)(w:World)(h:yF w B v t)(K:B<=w.heap.size)(ht:t.size<=1000000) :
  Calls prog 170 #[v,.int .u8 (b.toNat:Int)] w λe y=>∃o,e = .returned o/\yF y B o (t++Y7 b)/\Below B w y:=by
 obtain⟨a,c,rfl⟩:=qJ h;obtain⟨q,hi,l,m,n⟩:=info_parts J5;have p:=hid h;have x:∀k,(Value.slice a t.size c).ownBlock=some k->B<=k:=λk E=>(World.ownsRow.lt h k E).1;have j:=hid x;obtain⟨U,g⟩:=Nm (Y7 b);rw[g];unfold Y7 at g;have D:b.toNat<256:=UInt8.toNat_lt b;clear h x;have fin:∀(w1:World) (O:Obj),Below B w (w.alloc O):=λ_ O=>(Below.refl _ w).alloc K O
 by_cases c1:b.toNat=34\/b.toNat=92
 ·rw[if_pos c1] at g;subst g
  rcases c1 with c1|c1
  ·have A:((b.toNat:Int)==34)=true:=by simp;omega
   clear c1;go_enter func170,ntmps170
   go_wp2_with (at_builtin;refine wpList_append_own _ rfl _ _ 256 rfl B 5 q (.int .u8 0) 1 1 underlying256 hi l m n rfl (by decide) _ t.size (Rd.xI t) rfl (World.ownsRow.alloc p.out _) ⟨w.heap.size,0,none⟩ 2 2 [.int .u8 92,.int .u8 (b.toNat:Int)] rfl rfl ?_ ?_ ?_ ?_ ?_ ?_)
   ·exact kW _ _ _
   ·intro u i;simp at i;rcases i with rfl|rfl<;>rfl
   ·unfold maxLen;omega
   ·omega
   ·simp;omega
   ·intro o z f d _
    go_wp2
    go_ret;exact⟨_,rfl,Xg (u:=⟨#[92,b]⟩) rfl rfl f,(fin w _).grown d (by simp;omega) j.out⟩
  ·have e0:((b.toNat:Int)==34)=false:=by simp;omega
   have A:((b.toNat:Int)==92)=true:=by simp;omega
   clear c1;go_enter func170,ntmps170
   go_wp2_with (at_builtin;refine wpList_append_own _ rfl _ _ 256 rfl B 5 q (.int .u8 0) 1 1 underlying256 hi l m n rfl (by decide) _ t.size (Rd.xI t) rfl (World.ownsRow.alloc p.out _) ⟨w.heap.size,0,none⟩ 2 2 [.int .u8 92,.int .u8 (b.toNat:Int)] rfl rfl ?_ ?_ ?_ ?_ ?_ ?_)
   ·exact kW _ _ _
   ·intro u i;simp at i;rcases i with rfl|rfl<;>rfl
   ·unfold maxLen;omega
   ·omega
   ·simp;omega
   ·intro o z f d _
    go_wp2
    go_ret;exact⟨_,rfl,Xg (u:=⟨#[92,b]⟩) rfl rfl f,(fin w _).grown d (by simp;omega) j.out⟩
 rw[if_neg c1] at g;have A:((b.toNat:Int)==34)=false:=by simp;omega
 have I:((b.toNat:Int)==92)=false:=by simp;omega
 by_cases c2:b.toNat=10
 ·rw[if_pos c2] at g;subst g;have G:((b.toNat:Int)==10)=true:=by simp;omega
  clear c1 c2;go_enter func170,ntmps170
  go_wp2_with (at_builtin;refine wpList_append_own _ rfl _ _ 256 rfl B 5 q (.int .u8 0) 1 1 underlying256 hi l m n rfl (by decide) _ t.size (Rd.xI t) rfl (World.ownsRow.alloc p.out _) ⟨w.heap.size,0,none⟩ 2 2 [.int .u8 92,.int .u8 110] rfl rfl ?_ ?_ ?_ ?_ ?_ ?_)
  ·exact kW _ _ _
  ·intro u i;simp at i;rcases i with rfl|rfl<;>rfl
  ·unfold maxLen;omega
  ·omega
  ·simp;omega
  ·intro o z f d _
   go_wp2
   go_ret;exact⟨_,rfl,Xg (u:=⟨#[92,110]⟩) rfl rfl f,(fin w _).grown d (by simp;omega) j.out⟩
 rw[if_neg c2] at g;have G:((b.toNat:Int)==10)=false:=by simp;omega
 by_cases c3:b.toNat=9
 ·rw[if_pos c3] at g;subst g;have H:((b.toNat:Int)==9)=true:=by simp;omega
  clear c1 c2 c3;go_enter func170,ntmps170
  go_wp2_with (at_builtin;refine wpList_append_own _ rfl _ _ 256 rfl B 5 q (.int .u8 0) 1 1 underlying256 hi l m n rfl (by decide) _ t.size (Rd.xI t) rfl (World.ownsRow.alloc p.out _) ⟨w.heap.size,0,none⟩ 2 2 [.int .u8 92,.int .u8 116] rfl rfl ?_ ?_ ?_ ?_ ?_ ?_)
  ·exact kW _ _ _
  ·intro u i;simp at i;rcases i with rfl|rfl<;>rfl
  ·unfold maxLen;omega
  ·omega
  ·simp;omega
  ·intro o z f d _
   go_wp2
   go_ret;exact⟨_,rfl,Xg (u:=⟨#[92,116]⟩) rfl rfl f,(fin w _).grown d (by simp;omega) j.out⟩
 rw[if_neg c3] at g;have H:((b.toNat:Int)==9)=false:=by simp;omega
 by_cases c4:b.toNat<32
 ·rw[if_pos c4] at g;subst g
  have r:∀k:Nat,k<32->k≠9->k≠10->b.toNat=k->Calls prog 170 #[Value.slice a t.size c,.int .u8 (b.toNat:Int)] w λe y=>∃o,e = .returned o/\yF y B o (t++⟨#[92,117,48,48,Ye (b.toNat / 16),Ye (b.toNat % 16)]⟩)/\Below B w y:=by
   intro k E J C s;rw[s];clear A I G H c1 c2 c3 c4 s;have F:k=0\/k=1\/k=2\/k=3\/k=4\/k=5\/k=6\/k=7\/k=8\/k=11\/k=12\/k=13\/k=14\/k=15\/k=16\/k=17\/k=18\/k=19\/k=20\/k=21\/k=22\/k=23\/k=24\/k=25\/k=26\/k=27\/k=28\/k=29\/k=30\/k=31:=by omega
   clear E J C;have q0:bits BinOp.and IntKind.u8 0 15=0:=by decide +kernel
   have q1:bits BinOp.and IntKind.u8 1 15=1:=by decide +kernel
   have q2:bits BinOp.and IntKind.u8 2 15=2:=by decide +kernel
   have q3:bits BinOp.and IntKind.u8 3 15=3:=by decide +kernel
   have q4:bits BinOp.and IntKind.u8 4 15=4:=by decide +kernel
   have q5:bits BinOp.and IntKind.u8 5 15=5:=by decide +kernel
   have q6:bits BinOp.and IntKind.u8 6 15=6:=by decide +kernel
   have q7:bits BinOp.and IntKind.u8 7 15=7:=by decide +kernel
   have q8:bits BinOp.and IntKind.u8 8 15=8:=by decide +kernel
   have N:bits BinOp.and IntKind.u8 11 15=11:=by decide +kernel
   have P:bits BinOp.and IntKind.u8 12 15=12:=by decide +kernel
   have Q:bits BinOp.and IntKind.u8 13 15=13:=by decide +kernel
   have R:bits BinOp.and IntKind.u8 14 15=14:=by decide +kernel
   have S:bits BinOp.and IntKind.u8 15 15=15:=by decide +kernel
   have T:bits BinOp.and IntKind.u8 16 15=0:=by decide +kernel
   have V:bits BinOp.and IntKind.u8 17 15=1:=by decide +kernel
   have W:bits BinOp.and IntKind.u8 18 15=2:=by decide +kernel
   have X:bits BinOp.and IntKind.u8 19 15=3:=by decide +kernel
   have Y:bits BinOp.and IntKind.u8 20 15=4:=by decide +kernel
   have Z:bits BinOp.and IntKind.u8 21 15=5:=by decide +kernel
   have a0:bits BinOp.and IntKind.u8 22 15=6:=by decide +kernel
   have a1:bits BinOp.and IntKind.u8 23 15=7:=by decide +kernel
   have a2:bits BinOp.and IntKind.u8 24 15=8:=by decide +kernel
   have a3:bits BinOp.and IntKind.u8 25 15=9:=by decide +kernel
   have a4:bits BinOp.and IntKind.u8 26 15=10:=by decide +kernel
   have a5:bits BinOp.and IntKind.u8 27 15=11:=by decide +kernel
   have a6:bits BinOp.and IntKind.u8 28 15=12:=by decide +kernel
   have a7:bits BinOp.and IntKind.u8 29 15=13:=by decide +kernel
   have a8:bits BinOp.and IntKind.u8 30 15=14:=by decide +kernel
   have a9:bits BinOp.and IntKind.u8 31 15=15:=by decide +kernel
   rcases F with rfl|rfl|rfl|rfl|rfl|rfl|rfl|rfl|rfl|rfl|rfl|rfl|rfl|rfl|rfl|rfl|rfl|rfl|rfl|rfl|rfl|rfl|rfl|rfl|rfl|rfl|rfl|rfl|rfl|rfl
   all_goals
    go_enter func170,ntmps170;go_wp2_with fail
    go_region_law ((refine step_append_lies _ (by rfl) _ _ _ (by rfl) B 5 q (.int .u8 0) 1 1 underlying256 hi l m n rfl (by omega) (.slice a t.size c) t.size (Rd.xI t) (by rfl) (World.ownsRow.drew (World.ownsRow.alloc p.out _)) ⟨w.heap.size,0,none⟩ 6 6 _ (by rfl) ?_ (Lf _ _ _) (by simp[Value.oneCell']) (by omega) (by unfold maxLen;omega) (by omega) (by simp;omega) (w.heap.size+1) (by simp) ?_;rfl;intro gg cap z f d L M))
    all_goals
     go_wp2_with fail;go_ret;exact⟨_,rfl,Xg (u:=⟨#[92,117,48,48,_,_]⟩) rfl rfl f,((fin w _).drew).grown d (by simp;omega) j.out⟩
  exact r b.toNat c4 c3 c2 rfl
 ·rw[if_neg c4] at g;subst g;have e5:decide ((b.toNat:Int)<32)=false:=by simp;omega
  go_enter func170,ntmps170
  go_wp2_with (at_builtin;refine wpList_append_own _ rfl _ _ 256 rfl B 5 q (.int .u8 0) 1 1 underlying256 hi l m n rfl (by decide) _ t.size (Rd.xI t) rfl (World.ownsRow.alloc p.out _) ⟨w.heap.size,0,none⟩ 1 1 [.int .u8 (b.toNat:Int)] rfl rfl ?_ ?_ ?_ ?_ ?_ ?_)
  ·exact kW _ _ _
  ·intro u i;simp at i;rcases i with rfl;rfl
  ·unfold maxLen;omega
  ·omega
  ·simp;omega
  ·intro o z f d _
   go_wp2
   go_ret;exact⟨_,rfl,Xg (u:=⟨#[b]⟩) rfl rfl f,(fin w _).grown d (by simp;omega) j.out⟩
theorem gM(t:BA)(k:Nat)(h:k<t.size):t.extract k (k+1)=⟨#[t[k]]⟩:=by
 apply ByteArray.ext;apply Array.toList_inj.1;have a:k<t.data.toList.length:=by rw[Ref.zz];exact h
 simp only[ByteArray.data_extract,Array.toList_extract,List.extract_eq_take_drop];rw[show k+1-k=1 by omega,List.drop_eq_getElem_cons a]
 rfl
theorem iE(k:Nat)(h:k<16):Ref.hexDigits.extract k (k+1)=⟨#[Ye k]⟩:=by
 rw[gM _ _ h]
 have:∀k:Fin 16,(Ref.hexDigits[k.val]'k.isLt)=Ye k.val:=by decide +kernel
 rw[this ⟨k,h⟩]
theorem Ol(s:BA)(k:Nat)(h:k<s.size):Ref.y8 s (k+1)=Ref.y8 s k++Y7 s[k]:=by
 rw[Ref.Om s k h];generalize Ref.y8 s k=o;have g:=gM s k h;unfold Ref.X9 Y7;rw[g];generalize s[k]=b;have d:∀a b c:BA,a++b++c=a++(b++c):=λa b c=>by apply ByteArray.ext;simp[ByteArray.data_append]
 by_cases c1:b.toNat=34\/b.toNat=92
 ·rw[if_pos (by omega),if_pos c1,d];rfl
 rw[if_neg (by omega),if_neg c1]
 by_cases c2:b.toNat=10
 ·rw[if_pos (by omega),if_pos c2]
 rw[if_neg (by omega),if_neg c2]
 by_cases c3:b.toNat=9
 ·rw[if_pos (by omega),if_pos c3]
 rw[if_neg (by omega),if_neg c3]
 by_cases c4:b.toNat<32
 ·rw[if_pos (by omega),if_pos c4];have e:((b.toNat:Int) / 16).toNat=b.toNat / 16:=by omega
  have f:((b.toNat:Int) % 16).toNat=b.toNat % 16:=by omega
  rw[e,f,iE _ (by omega),iE _ (by omega),d,d]
  rfl
 ·rw[if_neg (by omega),if_neg c4]
theorem az(s:BA)(w:World)(K:s.size<=100000) :
  Calls prog 115 #[.string s] w λe I=>e = .returned (.string (Ref.zG s))/\Below w.heap.size w I:=by
 obtain⟨G,hi,o,p,q⟩:=info_parts J5;have v:yF (w.alloc (.cells #[.int .u8 34] 5)) w.heap.size (.slice (some ⟨w.heap.size,0,none⟩) 1 1) (Ref.y8 s 0):=World.ownsRow_lit (base:=w.heap.size) (e:=5) (size:=1) w #[.int .u8 34] 1 (Nat.le_refl _) (by decide) rfl;have t:=hid v;clear v;go_enter func115,ntmps115;go_wp2_with fail
 go_loopw [3,4,8] (λH L r wr=>∃(k:Nat),k<=s.size/\r = .int .i64 k/\yF wr w.heap.size H (Ref.y8 s k)/\Below w.heap.size w wr) (λ_ _ r _=>s.size-(intOf r).toNat)
 case atStart=>exact⟨0,Nat.zero_le _,rfl,t.out,nB _ _⟩
 case round=>
  obtain⟨k,x,rfl,hb,f⟩:=hrel;have j:=hid hb;have a:=hid f;clear hb f t
  by_cases hlt:k<s.size
  ·have y:=Ref.VR s k;have m:=wN (Ref.y8 s k) _ w.heap.size s[k] wr j.out a.out.size (by omega);rw[<- Ol s k hlt] at m;have C:=hid m;clear m y
   go_wp2_with (go_at_call 170;refine C.out.mono ?_;rintro e M ⟨A,rfl,i,b⟩;have l:=hid i;have g:=hid b;clear i b)
   go_roundw
   case rel=>exact⟨k+1,by omega,by go_num,l.out,a.out.trans g.out⟩
   case measure=>simp[intOf];omega
  ·have n:k=s.size:=by omega
   subst n;have y:=Ref.VR s s.size;have F:=a.out.size
   go_wp2_with (at_builtin;refine wpList_append_own _ rfl _ _ 256 rfl w.heap.size 5 G (.int .u8 0) 1 1 underlying256 hi o p q rfl (by decide) _ (Ref.y8 s s.size).size (Rd.xI (Ref.y8 s s.size)) rfl (World.ownsRow.alloc j.out _) ⟨wr.heap.size,0,none⟩ 1 1 [.int .u8 34] rfl rfl ?_ ?_ ?_ ?_ ?_ ?_)
   ·exact kW _ _ _
   ·intro u z;simp at z;rcases z with rfl;rfl
   ·unfold maxLen;omega
   ·omega
   ·simp;omega
   ·intro A B d c _;have h:yF B w.heap.size A (Ref.zG s):=Xg (u:=⟨#[34]⟩) rfl rfl d;have E:=dU h;have D:Hid (Below w.heap.size w B):=(a.out.alloc F _).grown c (by simp;omega) (λk x=>(World.ownsRow.lt j.out k x).1);obtain⟨J,c3,rfl⟩:=qJ h;clear h d c
    go_wp2
    go_ret;exact⟨rfl,D.out⟩
end Go.Proofs.YtdakgnaojakldaaGreatDoor
