/- P -/
import Derived.Test.YtdakgnaojakldaaGreatDoorQ34
import Derived.Deep.AppendLies
open Go.Proofs.Tryz
set_option maxRecDepth 100000
set_option maxHeartbeats 4000000
namespace Go.Proofs.YtdakgnaojakldaaGreatDoor
open Go.RowKit
namespace Kp
open Rd Ref
theorem aK(nt:Bool)(raw:List Int):J4 (nt,qE raw):=⟨(Qz raw).1,by have:=(Qz raw).2;simp only;omega,λp a=>U6 p (XP a)⟩
theorem MX{l:List BA}(a:1<=l.length)(b:l.length<=10)(h:∀s ∈ l,xV s=true)(st:Int):qx Ja (some (qb l st))=0/\xg Ja (some (qb l st))=l:=by
 unfold qx xg;rw[zb (by kernel_rfl),zb (by kernel_rfl)];exact⟨QI st a b (λs c=>VJ (h s c)),VC strOf st a b (λs _=>rfl)⟩
theorem eT{f:BA->Bool}{s:BA}(h:f s=true):qM f (some (.str s))=s:=by
 show (if f s then s else ⟨#[]⟩)=s
 rw[h];rfl
theorem MZ{l:List BA}(b:1<=l.length)(c:l.length<=10)(h:∀s ∈ l,short s=true)(st:Int):qx Xc (some (qb l st))=0/\xg Xc (some (qb l st))=l:=by
 unfold qx xg;rw[show xw Xc=false by kernel_rfl,show yI Xc=true by kernel_rfl];exact⟨QI st b c (λs a=>Qb (h s a)),VC _ st b c (λs a=>eT (h s a))⟩
theorem MW{l:List BA}(b:1<=l.length)(c:l.length<=10)(h:∀s ∈ l,xe s=true)(st:Int):qx Zp (some (qb l st))=0/\xg Zp (some (qb l st))=l:=by
 unfold qx xg;rw[show xw Zp=false by kernel_rfl,show yI Zp=false by kernel_rfl,show jw Zp=true by kernel_rfl];exact⟨QI st b c (λs a=>Qb (h s a)),VC _ st b c (λs a=>eT (h s a))⟩
theorem Na{l:List BA}(b:1<=l.length)(c:l.length<=10)(h:∀s ∈ l,filled s=true)(st:Int):qx uZ (some (qb l st))=0/\xg uZ (some (qb l st))=l:=by
 unfold qx xg;rw[show xw uZ=false by kernel_rfl,show yI uZ=false by kernel_rfl,show jw uZ=false by kernel_rfl,show Ze uZ=true by kernel_rfl];exact⟨QI st b c (λs a=>Qb (h s a)),VC _ st b c (λs a=>eT (h s a))⟩
theorem pg:qx vv none=0/\xg vv none=[]:=⟨by kernel_rfl,by kernel_rfl⟩
theorem GM{op key:BA}{l:List BA}{no:Bool}(b:∃k,k<5/\op=opN k)(a:qj key=true)(d:1<=l.length)(h:∀st,qx op (some (qb l st))=0/\xg op (some (qb l st))=l):J3 ⟨op,key,l,no⟩:=
 ⟨b,a,λ_=>by have:=h 0;rw[oN] at this;exact this,λc=>by simp only at c;omega⟩
theorem aO(r:zt)(h:Xk r=true):uz r = .obj ([(zx,.str (keyOf r)),(bOp,.str vv)]++vB r)/\jo r=⟨vv,keyOf r,[],r.no⟩
  \/ ∃op l,uz r=Xf r op l/\jo r=⟨op,keyOf r,l,r.no⟩/\(∃k,k<5/\op=opN k)/\1<=l.length/\l.length<=2/\(∀s ∈ l,Pl s/\s.size<=8)/\∀st,qx op (some (qb l st))=0/\xg op (some (qb l st))=l:=by
 have h:=of_decide_eq_true h;unfold xR at h;unfold uz jo
 revert h
 generalize zo r.iff 8=j;intro h
 split
 ·exact .inl ⟨rfl,rfl⟩
 ·refine .inr ⟨Ja,_,rfl,rfl,⟨0,by decide,rfl⟩,by simp,by simp,?_,MX (by simp) (by simp) ?_⟩
  ·intro s a
   rcases x8.1 a with rfl|a
   ·have:=uB (l:=patterns) (xK r.val 14 (by decide))
    exact⟨JJ _ this,VK _ this⟩
   ·rw[xE] at a;subst a;exact⟨Qa _ rfl,by decide⟩
  ·intro s a
   rcases x8.1 a with rfl|a
   ·exact U6 _ (uB (xK r.val 14 (by decide)))
   ·rw[xE] at a;subst a;kernel_rfl
 ·have:=uB (l:=words) (xK r.val 14 (by decide))
  exact .inr ⟨Xc,_,rfl,rfl,⟨1,by decide,rfl⟩,by simp,by simp,λs a=>by rw[xE] at a;subst a;exact⟨AY _ this,KH _ this⟩,MZ (by simp) (by simp) (λs a=>by rw[xE] at a;subst a;exact KG _ this)⟩
 ·have:=uB (l:=nums) (xK r.val 4 (by decide))
  exact .inr ⟨Zp,_,rfl,rfl,⟨2,by decide,rfl⟩,by simp,by simp,λs a=>by rw[xE] at a;subst a;exact⟨rC _ this,dC _ this⟩,MW (by simp) (by simp) (λs a=>by rw[xE] at a;subst a;exact rA _ this)⟩
 ·have:=uB (l:=Qg) (xK r.val 3 (by decide))
  exact .inr ⟨uZ,_,rfl,rfl,⟨3,by decide,rfl⟩,by simp,by simp,λs a=>by rw[xE] at a;subst a;exact⟨AA _ this,gB _ this⟩,Na (by simp) (by simp) (λs a=>by rw[xE] at a;subst a;exact Az _ this)⟩
 ·rename_i b c d e f;exfalso;apply h
  split
  all_goals first|rfl|(exfalso;first|exact b rfl|exact c rfl|exact d rfl|exact e rfl|exact f rfl)
theorem ow(r:zt):qj (keyOf r)=true:=bX _ (Jv r)
theorem lL(r:zt)(h:Xk r=true):J3 (jo r):=by
 rcases aO r h with ⟨_,e⟩|⟨op,l,_,e,ho,h0,_,_,hl⟩
 ·rw[e];exact⟨⟨4,by decide,rfl⟩,ow r,λh=>by simp at h,λ_=>pg⟩
 ·rw[e];exact GM ho (ow r) h0 hl
theorem Eh(r:zt)(h:Xk r=true):jc (uz r)=jo r/\condC (uz r)=0:=by
 have a:=lL r h
 rcases aO r h with ⟨e,e2⟩|⟨op,l,e,e2,_,h0,_,_,hl⟩
 ·rw[e2] at a |-;rw[e];unfold vB;refine Ux a none pg ?_ ?_ ?_ ?_ ?_
  all_goals (cases r.no<;>kernel_rfl)
 ·rw[e2] at a |-;rw[e];unfold Xf vB;refine Ux a (some (qb l r.style)) (hl _) ?_ ?_ ?_ ?_ ?_
  all_goals (cases r.no<;>kernel_rfl)
theorem FD(r:zt):yz (Zb r)=true:=by unfold Zb;cases r.deny<;>kernel_rfl
theorem fu(r:zt):KM (stK r):=by
 refine⟨FD r,aK _ _,aK _ _,aK _ _,?_,?_⟩
 ·unfold stK;simp only;split<;>simp
 ·intro c a;unfold stK at a;simp only at a
  split at a
  ·rename_i h;rw[xE] at a;subst a;exact lL r h
  ·simp at a
theorem aC(raw:List Int)(nt:Bool)(st:Int):chS (some (jR raw nt st))=(nt,qE raw)/\chC (some (jR raw nt st))=0:=by
 refine⟨?_,Uq raw nt st⟩
 have:=lg (c:=(nt,qE raw)) st (Qz raw).1 (by have:=(Qz raw).2;simp only;omega)
 exact this
theorem Af(r:zt):xO (QN r)=stK r:=by
 have c:=fu r;have c1:=aC r.who (decide (zo r.nt 16=2)) r.style;have c2:=aC r.act (decide (zo r.nt 16=3)) r.style;have c3:=aC r.on (decide (zo r.nt 16=1)) r.style;unfold QN YE
 by_cases hz:(xR r).size=0
 ·rw[zb hz];have a:Xk r=false:=zH (λh=>h hz);have hi:(stK r).ifs=[]:=by unfold stK;simp only;rw[a];rfl
  exact (Kn c _ _ _ none c1 c2 c3 ⟨by rw[hi];rfl,rfl⟩ (by kernel_rfl) (by kernel_rfl) (by kernel_rfl) (by kernel_rfl) (by kernel_rfl) (by kernel_rfl)).1
 ·rw[za hz];have a:Xk r=true:=zF hz;have hi:(stK r).ifs=[jo r]:=by unfold stK;simp only;rw[a];rfl
  have b:=Eh r a;refine (Kn c _ _ _ (some (.list [uz r])) c1 c2 c3 ⟨?_,?_⟩ (by kernel_rfl) (by kernel_rfl) (by kernel_rfl) (by kernel_rfl) (by kernel_rfl) (by kernel_rfl)).1
  ·rw[hi];show [jc (uz r)]=[jo r];rw[b.1]
  ·show qo [condC (uz r)]=0;rw[b.2];rfl
theorem Au(l:List zt):xP (jh l)=qK l:=by
 unfold xP;have b:=rW l;have a:=dO l;unfold bl at a;rw[za (by omega),a];simp only
 have:stX (Jj l)=some (.list (Zi l)):=by unfold Jj stX;kernel_rfl
 rw[this];show (Zi l).map xO=qK l;unfold Zi qK YM
 split
 ·simp only[yn,vg,Af]
 ·rw[xD];exact XE λr _=>Af r
theorem UZ:∀k,k<5->Pl (opN k)/\(opN k).size<=6:=λk a=>by
 have:k=0\/k=1\/k=2\/k=3\/k=4:=by omega
 rcases this with rfl|rfl|rfl|rfl|rfl<;>exact⟨Qa _ (by decide),by decide⟩
theorem lM(r:zt)(h:Xk r=true):Pl (jo r).op/\(jo r).op.size<=6/\Pl (jo r).key/\(jo r).key.size<=3/\(jo r).vals.length<=2/\∀p ∈ (jo r).vals,Pl p/\p.size<=8:=by
 have b:=Mq _ (Jv r);have c:=bY _ (Jv r)
 rcases aO r h with ⟨_,e⟩|⟨op,l,_,e,⟨k,h5,rfl⟩,_,h2,a,_⟩
 ·rw[e];exact⟨(UZ 4 (by decide)).1,(UZ 4 (by decide)).2,b,c,by simp,λp a=>by simp at a⟩
 ·rw[e];exact⟨(UZ k h5).1,(UZ k h5).2,b,c,h2,a⟩
theorem aI(raw:List Int):qE raw≠[]/\∀p ∈ qE raw,Pl p:=⟨aH raw,λp a=>JJ p (XP a)⟩
theorem wL(r:zt):∀c ∈ (stK r).ifs,Xk r=true/\c=jo r:=by
 intro c a;unfold stK at a;simp only at a
 split at a
 ·rename_i h;exact⟨h,xE.1 a⟩
 ·simp at a
theorem wM(r:zt):PlS (stK r):=by
 refine⟨?_,aI _,aI _,aI _,λc a=>?_⟩
 ·show Pl (Zb r);unfold Zb
  split<;>exact Qa _ (by decide)
 ·obtain⟨h,rfl⟩:=wL r c a
  have:=lM r h
  exact⟨this.1,this.2.2.1,λp b=>(this.2.2.2.2.2 p b).1⟩
theorem om{B:Nat}:∀ts:List (List UInt8),(∀t ∈ ts,t.length<=B)->(yJ [44] ts).length<=(B+1)*ts.length
 | [],_=>by simp[yJ]
 | [t],h=>by have:=h t (by simp);simp[yJ];omega
 | t::u::ts,h=>by
  have b:=om (u::ts) (λx a=>h x (by simp[a]))
  have:=h t (by simp)
  show (t++[44]++yJ [44] (u::ts)).length<=_;simp only[xm,jl,uo] at b |-;rw[Nat.mul_succ];omega
theorem cZ{B:Nat}(l:List BA)(h:∀s ∈ l,s.size<=B):(xI l).size<=(B+1)*l.length+2:=by
 rw[<- XN,oL]
 have:=om (B:=B) (l.map bl) (λt a=>by obtain⟨s,hs,rfl⟩:=ql.1 a;rw[XN];exact h s hs)
 simp only[xm,jl,uo,zN] at this |-;omega
theorem Kc{s:BA}(h:Pl s):(Ref.zQ s).size=s.size+2:=by
 rw[<- XN,tu h];simp only[xm,jl,uo,XN];omega
theorem Ak{B:Nat}(l:List BA)(h:∀s ∈ l,Pl s/\s.size<=B):(xI (l.map Ref.zQ)).size<=(B+3)*l.length+2:=by
 have:=cZ (B:=B+2) (l.map Ref.zQ) (λt a=>by obtain⟨s,hs,rfl⟩:=ql.1 a;rw[Kc (h s hs).1];have:=(h s hs).2;omega)
 rw[zN] at this;omega
theorem aM(nt:Bool)(raw:List Int):(yS (nt,qE raw)).size<=54:=by
 have h:=Ak (B:=8) (qE raw) (λp a=>⟨JJ p (XP a),VK p (XP a)⟩);have b:=(Qz raw).2;have c:(⟨#[123,34,110,111,116,34,58]⟩:BA).size=7:=rfl;have d:(⟨#[125]⟩:BA).size=1:=rfl;unfold yS
 cases nt with
 | true=>simp only[qh,zI];omega
 | false=>simp only[xz,qW];omega
theorem Ec(r:zt)(h:Xk r=true):(yx (jo r)).size<=70:=by
 obtain⟨a,d,b,e,f,c⟩:=lM r h;have g:=Ak (B:=8) (jo r).vals c;have i:=Kc a;have q2:=Kc b;have j:(⟨#[123,34,111,112,34,58]⟩:BA).size=6:=rfl;have k:(⟨#[44,34,107,101,121,34,58]⟩:BA).size=7:=rfl
 have l:(if 0<(jo r).vals.length then ⟨#[44,34,118,97,108,117,101,34,58]⟩++xI ((jo r).vals.map Ref.zQ) else ⟨#[]⟩:BA).size<=33:=by
  have z:(⟨#[44,34,118,97,108,117,101,34,58]⟩:BA).size=9:=rfl
  split
  ·rw[zI];omega
  ·exact zO _
 have m:(if (jo r).no then ⟨#[44,34,110,111,34,58,116,114,117,101]⟩ else ⟨#[]⟩:BA).size<=10:=by split<;>decide
 have n:(⟨#[125]⟩:BA).size=1:=rfl;rw[lQ];simp only[zI];omega
theorem TR(r:zt):(xN (stK r)).size<=300:=by
 have c1:=aM (decide (zo r.nt 16=2)) r.who;have c2:=aM (decide (zo r.nt 16=3)) r.act;have c3:=aM (decide (zo r.nt 16=1)) r.on
 have f:(Ref.zQ (stK r).eff).size<=7:=by
  rw[Kc (wM r).eff];show (Zb r).size+2<=7;unfold Zb
  split<;>decide
 have g:(⟨#[123,34,101,102,102,101,99,116,34,58]⟩:BA).size=10:=rfl;have i:(⟨#[44,34,119,104,111,34,58]⟩:BA).size=7:=rfl;have j:(⟨#[44,34,100,111,34,58]⟩:BA).size=6:=rfl;have k:(⟨#[44,34,111,110,34,58]⟩:BA).size=6:=rfl
 have l:(if 0<(stK r).ifs.length then ⟨#[44,34,105,102,34,58]⟩++Zr (stK r).ifs else ⟨#[]⟩:BA).size<=80:=by
  have z:(⟨#[44,34,105,102,34,58]⟩:BA).size=6:=rfl
  split
  ·have b:=cZ (B:=70) ((stK r).ifs.map yx) (λt d=>by
    obtain⟨c,a,rfl⟩:=ql.1 d;obtain⟨h,rfl⟩:=wL r c a;exact Ec r h)
   have e:(stK r).ifs.length<=1:=by unfold stK;simp only;split<;>simp
   rw[zN] at b;rw[zI];unfold Zr;omega
  ·exact zO _
 have m:(⟨#[125]⟩:BA).size=1:=rfl;rw[Ac];simp only[zI];show 10+(Ref.zQ (stK r).eff).size+(7+(yS (decide (zo r.nt 16=2),qE r.who)).size)+(6+(yS (decide (zo r.nt 16=3),qE r.act)).size)+(6+(yS (decide (zo r.nt 16=1),qE r.on)).size)+_+1<=300;omega
theorem eX(l:List zt):1<=(YM l).length/\(YM l).length<=4:=by
 unfold YM
 split
 ·simp
 ·rw[xC];omega
theorem aW(l:List zt):(xu (qK l)).size<=1300:=by
 have d:=cZ (B:=300) ((qK l).map xN) (λt b=>by
  obtain⟨s,a,rfl⟩:=ql.1 b;obtain⟨r,_,rfl⟩:=ql.1 a;exact TR r)
 have c:=(eX l).2;have e:((qK l).map xN).length=(YM l).length:=by unfold qK;rw[zN,zN]
 have f:(⟨#[123,34,115,116,97,116,101,109,101,110,116,34,58]⟩:BA).size=13:=rfl;have g:(⟨#[125]⟩:BA).size=1:=rfl;unfold xu;rw[zI,zI];omega
theorem EZ(l:List zt):qK l≠[]:=by
 intro e
 have:=congrArg List.length e
 have h:=(eX l).1;unfold qK at this;rw[zN,uo] at this;omega
theorem EY(l:List zt):1<=(qK l).length/\(qK l).length<=4:=by unfold qK;rw[zN];exact eX l
theorem aV{l:List zt}{s:zB}(h:s ∈ qK l):∃r ∈ YM l,stK r=s:=ql.1 h
theorem sK(l:List zt):yh (xu (qK l)).data.toList = .ok (dcV (qK l)) (bl (xu (qK l))).length:=
 PS _ (EZ l) (λs a=>by obtain⟨r,_,rfl⟩:=aV a;exact wM r)
theorem lY(L:List zB):stX (dcV L)=some (.list (L.map stV)):=by unfold dcV stX;kernel_rfl
theorem dW(l:List zt):x9 (xu (qK l))=(0,0):=by
 have d:=aW l;have b:=sK l;have h:=EY l;unfold x9;rw[za (by omega),b];simp only;rw[mF];have a:qC (stX (dcV (qK l)))=(qK l).map stV:=by rw[lY];rfl
 have g:Xr (dcV (qK l))=1:=rfl;rw[a,g,zN,za (by omega)];have f:=JO b;rw[UG (L:=(xu (qK l)).data.toList.length) _ 0 (by have:=gD f;rw[a] at this;exact this)];refine UH _ 0 (λc e=>?_);obtain⟨v,a,rfl⟩:=ql.1 e;obtain⟨s,d,rfl⟩:=ql.1 a;obtain⟨r,_,rfl⟩:=aV d;exact (wN (fu r)).2
theorem Av(l:List zt):xP (xu (qK l))=qK l:=by
 have a:=aW l;unfold xP;rw[za (by omega),sK];simp only;rw[lY];show ((qK l).map stV).map xO=qK l;rw[xD];refine (XE (g:=id) (λs a=>?_)).trans (by simp);obtain⟨r,_,rfl⟩:=aV a;exact (wN (fu r)).1
end Kp
def Jt(k:Nat):UInt8:=(#[48,49,50,51,52,53,54,55,56,57,97,98,99,100,101,102]:Array UInt8).getD k 0
def Vq(b:UInt8):BA:=
 if b.toNat=34\/b.toNat=92 then ⟨#[92,b]⟩ else if b.toNat=10 then ⟨#[92,110]⟩ else if b.toNat=9 then ⟨#[92,116]⟩
 else if b.toNat<32 then ⟨#[92,117,48,48,Jt (b.toNat / 16),Jt (b.toNat % 16)]⟩ else ⟨#[b]⟩
theorem Yv{w:World}{B:Nat}{a:Value}{t u:BA}{n:Nat}{news:List Value}(b:u.size=n)(c:Rd.yu u=news)(h:w.ownsRow B 5 1 a (t.size+n) (Rd.yu t++news)):ji w B a (t++u):=by
 unfold ji;rw[Rd.Um,c,show (t++u).size=t.size+n by simp[b]];exact h
theorem Zz(w:World)(cs:Array Value)(t:TypeId):∀(j:Nat) (u:Value),cs.toList[j]?=some u->(w.alloc (.cells cs t)).cell? ((⟨w.heap.size,0,none⟩:Addr).add j)=some u:=by
 intro j u a;have h:=(zf (zM w (.cells cs t)) j).1;rw[addr_add];simp only[qO];rw[h]
 simpa using a
theorem MU(w:World)(cs:Array Value)(t:TypeId):∀(j:Nat) (u:Value),cs.toList[j]?=some u->(w.alloc (.cells cs t)).drew.cell? ((⟨w.heap.size,0,none⟩:Addr).add j)=some u:=Zz w cs t
theorem BZ(t:BA)(v:Value)(B:Nat)(b:UInt8)(w:World)(h:ji w B v t)(K:B<=w.heap.size)(ht:t.size<=1000000) :
  Calls prog 170 #[v,.int .u8 (b.toNat:Int)] w λe y=>∃o,e = .returned o/\ji y B o (t++Vq b)/\Below B w y:=by
 obtain⟨a,c,rfl⟩:=xh h;obtain⟨q,hi,l,m,n⟩:=yU Un;have p:=hid h;have x:∀k,(Value.slice a t.size c).ownBlock=some k->B<=k:=λk E=>(World.ownsRow.lt h k E).1;have j:=hid x;obtain⟨U,g⟩:=Nm (Vq b);rw[g];unfold Vq at g;have D:b.toNat<256:=UInt8.toNat_lt b;clear h x;have fin:∀(w1:World) (O:Obj),Below B w (w.alloc O):=λ_ O=>(zh _ w).alloc K O
 by_cases c1:b.toNat=34\/b.toNat=92
 ·rw[zb c1] at g;subst g
  rcases c1 with c1|c1
  ·have A:((b.toNat:Int)==34)=true:=by simp;omega
   clear c1;go_enter func170,ntmps170
   go_wp2_with (at_builtin;refine vL _ rfl _ _ 256 rfl B 5 q (.int .u8 0) 1 1 underlying256 hi l m n rfl (by decide) _ t.size (Rd.yu t) rfl (World.ownsRow.alloc p.out _) ⟨w.heap.size,0,none⟩ 2 2 [.int .u8 92,.int .u8 (b.toNat:Int)] rfl rfl ?_ ?_ ?_ ?_ ?_ ?_)
   ·exact Zz _ _ _
   ·intro u i;simp at i;rcases i with rfl|rfl<;>rfl
   ·unfold maxLen;omega
   ·omega
   ·simp;omega
   ·intro o z f d _
    go_wp2
    go_ret;exact⟨_,rfl,Yv (u:=⟨#[92,b]⟩) rfl rfl f,(fin w _).grown d (by simp;omega) j.out⟩
  ·have e0:((b.toNat:Int)==34)=false:=by simp;omega
   have A:((b.toNat:Int)==92)=true:=by simp;omega
   clear c1;go_enter func170,ntmps170
   go_wp2_with (at_builtin;refine vL _ rfl _ _ 256 rfl B 5 q (.int .u8 0) 1 1 underlying256 hi l m n rfl (by decide) _ t.size (Rd.yu t) rfl (World.ownsRow.alloc p.out _) ⟨w.heap.size,0,none⟩ 2 2 [.int .u8 92,.int .u8 (b.toNat:Int)] rfl rfl ?_ ?_ ?_ ?_ ?_ ?_)
   ·exact Zz _ _ _
   ·intro u i;simp at i;rcases i with rfl|rfl<;>rfl
   ·unfold maxLen;omega
   ·omega
   ·simp;omega
   ·intro o z f d _
    go_wp2
    go_ret;exact⟨_,rfl,Yv (u:=⟨#[92,b]⟩) rfl rfl f,(fin w _).grown d (by simp;omega) j.out⟩
 rw[za c1] at g;have A:((b.toNat:Int)==34)=false:=by simp;omega
 have I:((b.toNat:Int)==92)=false:=by simp;omega
 by_cases c2:b.toNat=10
 ·rw[zb c2] at g;subst g;have G:((b.toNat:Int)==10)=true:=by simp;omega
  clear c1 c2;go_enter func170,ntmps170
  go_wp2_with (at_builtin;refine vL _ rfl _ _ 256 rfl B 5 q (.int .u8 0) 1 1 underlying256 hi l m n rfl (by decide) _ t.size (Rd.yu t) rfl (World.ownsRow.alloc p.out _) ⟨w.heap.size,0,none⟩ 2 2 [.int .u8 92,.int .u8 110] rfl rfl ?_ ?_ ?_ ?_ ?_ ?_)
  ·exact Zz _ _ _
  ·intro u i;simp at i;rcases i with rfl|rfl<;>rfl
  ·unfold maxLen;omega
  ·omega
  ·simp;omega
  ·intro o z f d _
   go_wp2
   go_ret;exact⟨_,rfl,Yv (u:=⟨#[92,110]⟩) rfl rfl f,(fin w _).grown d (by simp;omega) j.out⟩
 rw[za c2] at g;have G:((b.toNat:Int)==10)=false:=by simp;omega
 by_cases c3:b.toNat=9
 ·rw[zb c3] at g;subst g;have H:((b.toNat:Int)==9)=true:=by simp;omega
  clear c1 c2 c3;go_enter func170,ntmps170
  go_wp2_with (at_builtin;refine vL _ rfl _ _ 256 rfl B 5 q (.int .u8 0) 1 1 underlying256 hi l m n rfl (by decide) _ t.size (Rd.yu t) rfl (World.ownsRow.alloc p.out _) ⟨w.heap.size,0,none⟩ 2 2 [.int .u8 92,.int .u8 116] rfl rfl ?_ ?_ ?_ ?_ ?_ ?_)
  ·exact Zz _ _ _
  ·intro u i;simp at i;rcases i with rfl|rfl<;>rfl
  ·unfold maxLen;omega
  ·omega
  ·simp;omega
  ·intro o z f d _
   go_wp2
   go_ret;exact⟨_,rfl,Yv (u:=⟨#[92,116]⟩) rfl rfl f,(fin w _).grown d (by simp;omega) j.out⟩
 rw[za c3] at g;have H:((b.toNat:Int)==9)=false:=by simp;omega
 by_cases c4:b.toNat<32
 ·rw[zb c4] at g;subst g
  have r:∀k:Nat,k<32->k≠9->k≠10->b.toNat=k->Calls prog 170 #[Value.slice a t.size c,.int .u8 (b.toNat:Int)] w λe y=>∃o,e = .returned o/\ji y B o (t++⟨#[92,117,48,48,Jt (b.toNat / 16),Jt (b.toNat % 16)]⟩)/\Below B w y:=by
   intro k E J C s;rw[s];clear A I G H c1 c2 c3 c4 s;have F:k=0\/k=1\/k=2\/k=3\/k=4\/k=5\/k=6\/k=7\/k=8\/k=11\/k=12\/k=13\/k=14\/k=15\/k=16\/k=17\/k=18\/k=19\/k=20\/k=21\/k=22\/k=23\/k=24\/k=25\/k=26\/k=27\/k=28\/k=29\/k=30\/k=31:=by omega
   clear E J C;have q0:bits BinOp.and IntKind.u8 0 15=0:=by decide +kernel
   have q1:bits BinOp.and IntKind.u8 1 15=1:=by decide +kernel
   have q2:bits BinOp.and IntKind.u8 2 15=2:=by decide +kernel
   have q3:bits BinOp.and IntKind.u8 3 15=3:=by decide +kernel
   have q4:bits BinOp.and IntKind.u8 4 15=4:=by decide +kernel
   have q5:bits BinOp.and IntKind.u8 5 15=5:=by decide +kernel
   have q6:bits BinOp.and IntKind.u8 6 15=6:=by decide +kernel
   have q7:bits BinOp.and IntKind.u8 7 15=7:=by decide +kernel
   have q8:bits BinOp.and IntKind.u8 8 15=8:=by decide +kernel
   have N:bits BinOp.and IntKind.u8 11 15=11:=by decide +kernel
   have P:bits BinOp.and IntKind.u8 12 15=12:=by decide +kernel
   have Q:bits BinOp.and IntKind.u8 13 15=13:=by decide +kernel
   have R:bits BinOp.and IntKind.u8 14 15=14:=by decide +kernel
   have S:bits BinOp.and IntKind.u8 15 15=15:=by decide +kernel
   have T:bits BinOp.and IntKind.u8 16 15=0:=by decide +kernel
   have V:bits BinOp.and IntKind.u8 17 15=1:=by decide +kernel
   have W:bits BinOp.and IntKind.u8 18 15=2:=by decide +kernel
   have X:bits BinOp.and IntKind.u8 19 15=3:=by decide +kernel
   have Y:bits BinOp.and IntKind.u8 20 15=4:=by decide +kernel
   have Z:bits BinOp.and IntKind.u8 21 15=5:=by decide +kernel
   have a0:bits BinOp.and IntKind.u8 22 15=6:=by decide +kernel
   have a1:bits BinOp.and IntKind.u8 23 15=7:=by decide +kernel
   have a2:bits BinOp.and IntKind.u8 24 15=8:=by decide +kernel
   have a3:bits BinOp.and IntKind.u8 25 15=9:=by decide +kernel
   have a4:bits BinOp.and IntKind.u8 26 15=10:=by decide +kernel
   have a5:bits BinOp.and IntKind.u8 27 15=11:=by decide +kernel
   have a6:bits BinOp.and IntKind.u8 28 15=12:=by decide +kernel
   have a7:bits BinOp.and IntKind.u8 29 15=13:=by decide +kernel
   have a8:bits BinOp.and IntKind.u8 30 15=14:=by decide +kernel
   have a9:bits BinOp.and IntKind.u8 31 15=15:=by decide +kernel
   rcases F with rfl|rfl|rfl|rfl|rfl|rfl|rfl|rfl|rfl|rfl|rfl|rfl|rfl|rfl|rfl|rfl|rfl|rfl|rfl|rfl|rfl|rfl|rfl|rfl|rfl|rfl|rfl|rfl|rfl|rfl
   all_goals
    go_enter func170,ntmps170;go_wp2_with fail
    go_region_law ((refine step_append_lies _ (by rfl) _ _ _ (by rfl) B 5 q (.int .u8 0) 1 1 underlying256 hi l m n rfl (by omega) (.slice a t.size c) t.size (Rd.yu t) (by rfl) (World.ownsRow.drew (World.ownsRow.alloc p.out _)) ⟨w.heap.size,0,none⟩ 6 6 _ (by rfl) ?_ (MU _ _ _) (by simp[Value.oneCell']) (by omega) (by unfold maxLen;omega) (by omega) (by simp;omega) (w.heap.size+1) (by simp) ?_;rfl;intro gg cap z f d L M))
    all_goals
     go_wp2_with fail;go_ret;exact⟨_,rfl,Yv (u:=⟨#[92,117,48,48,_,_]⟩) rfl rfl f,((fin w _).drew).grown d (by simp;omega) j.out⟩
  exact r b.toNat c4 c3 c2 rfl
 ·rw[za c4] at g;subst g;have e5:decide ((b.toNat:Int)<32)=false:=by simp;omega
  go_enter func170,ntmps170
  go_wp2_with (at_builtin;refine vL _ rfl _ _ 256 rfl B 5 q (.int .u8 0) 1 1 underlying256 hi l m n rfl (by decide) _ t.size (Rd.yu t) rfl (World.ownsRow.alloc p.out _) ⟨w.heap.size,0,none⟩ 1 1 [.int .u8 (b.toNat:Int)] rfl rfl ?_ ?_ ?_ ?_ ?_ ?_)
  ·exact Zz _ _ _
  ·intro u i;simp at i;rcases i with rfl;rfl
  ·unfold maxLen;omega
  ·omega
  ·simp;omega
  ·intro o z f d _
   go_wp2
   go_ret;exact⟨_,rfl,Yv (u:=⟨#[b]⟩) rfl rfl f,(fin w _).grown d (by simp;omega) j.out⟩
theorem nu(t:BA)(k:Nat)(h:k<t.size):t.extract k (k+1)=⟨#[t[k]]⟩:=by
 apply jk;apply Xy.1;have a:k<t.data.toList.length:=by rw[Ref.zG];exact h
 simp only[XB,YV,J8];rw[show k+1-k=1 by omega,uS a]
 rfl
theorem nW(k:Nat)(h:k<16):Ref.hexDigits.extract k (k+1)=⟨#[Jt k]⟩:=by
 rw[nu _ _ h]
 have:∀k:Fin 16,(Ref.hexDigits[k.val]'k.isLt)=Jt k.val:=by decide +kernel
 rw[this ⟨k,h⟩]
theorem Rf(s:BA)(k:Nat)(h:k<s.size):Ref.jG s (k+1)=Ref.jG s k++Vq s[k]:=by
 rw[Ref.Rh s k h];generalize Ref.jG s k=o;have g:=nu s k h;unfold Ref.Jo Vq;rw[g];generalize s[k]=b;have d:∀a b c:BA,a++b++c=a++(b++c):=λa b c=>by apply jk;simp[ByteArray.data_append]
 by_cases c1:b.toNat=34\/b.toNat=92
 ·rw[zb (by omega),zb c1,d];rfl
 rw[za (by omega),za c1]
 by_cases c2:b.toNat=10
 ·rw[zb (by omega),zb c2]
 rw[za (by omega),za c2]
 by_cases c3:b.toNat=9
 ·rw[zb (by omega),zb c3]
 rw[za (by omega),za c3]
 by_cases c4:b.toNat<32
 ·rw[zb (by omega),zb c4];have e:((b.toNat:Int) / 16).toNat=b.toNat / 16:=by omega
  have f:((b.toNat:Int) % 16).toNat=b.toNat % 16:=by omega
  rw[e,f,nW _ (by omega),nW _ (by omega),d,d]
  rfl
 ·rw[za (by omega),za c4]
theorem eD(s:BA)(w:World)(K:s.size<=100000) :
  Calls prog 115 #[.string s] w λe I=>e = .returned (.string (Ref.zQ s))/\Below w.heap.size w I:=by
 obtain⟨G,hi,o,p,q⟩:=yU Un;have v:ji (w.alloc (.cells #[.int .u8 34] 5)) w.heap.size (.slice (some ⟨w.heap.size,0,none⟩) 1 1) (Ref.jG s 0):=World.ownsRow_lit (base:=w.heap.size) (e:=5) (size:=1) w #[.int .u8 34] 1 (ze _) (by decide) rfl;have t:=hid v;clear v;go_enter func115,ntmps115;go_wp2_with fail
 go_loopw [3,4,8] (λH L r wr=>∃(k:Nat),k<=s.size/\r = .int .i64 k/\ji wr w.heap.size H (Ref.jG s k)/\Below w.heap.size w wr) (λ_ _ r _=>s.size-(intOf r).toNat)
 case atStart=>exact⟨0,zO _,rfl,t.out,nB _ _⟩
 case round=>
  obtain⟨k,x,rfl,hb,f⟩:=hrel;have j:=hid hb;have a:=hid f;clear hb f t
  by_cases hlt:k<s.size
  ·have y:=Ref.Ke s k;have m:=BZ (Ref.jG s k) _ w.heap.size s[k] wr j.out a.out.size (by omega);rw[<- Rf s k hlt] at m;have C:=hid m;clear m y
   go_wp2_with (go_at_call 170;refine C.out.mono ?_;rintro e M ⟨A,rfl,i,b⟩;have l:=hid i;have g:=hid b;clear i b)
   go_roundw
   case rel=>exact⟨k+1,by omega,by go_num,l.out,a.out.trans g.out⟩
   case measure=>simp[intOf];omega
  ·have n:k=s.size:=by omega
   subst n;have y:=Ref.Ke s s.size;have F:=a.out.size
   go_wp2_with (at_builtin;refine vL _ rfl _ _ 256 rfl w.heap.size 5 G (.int .u8 0) 1 1 underlying256 hi o p q rfl (by decide) _ (Ref.jG s s.size).size (Rd.yu (Ref.jG s s.size)) rfl (World.ownsRow.alloc j.out _) ⟨wr.heap.size,0,none⟩ 1 1 [.int .u8 34] rfl rfl ?_ ?_ ?_ ?_ ?_ ?_)
   ·exact Zz _ _ _
   ·intro u z;simp at z;rcases z with rfl;rfl
   ·unfold maxLen;omega
   ·omega
   ·simp;omega
   ·intro A B d c _;have h:ji B w.heap.size A (Ref.zQ s):=Yv (u:=⟨#[34]⟩) rfl rfl d;have E:=iR h;have D:Hid (Below w.heap.size w B):=(a.out.alloc F _).grown c (by simp;omega) (λk x=>(World.ownsRow.lt j.out k x).1);obtain⟨J,c3,rfl⟩:=xh h;clear h d c
    go_wp2
    go_ret;exact⟨rfl,D.out⟩
end Go.Proofs.YtdakgnaojakldaaGreatDoor
