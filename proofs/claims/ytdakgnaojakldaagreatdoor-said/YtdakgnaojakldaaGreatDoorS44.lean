/- P -/
import Derived.Test.YtdakgnaojakldaaGreatDoorS43
open Go.Proofs.Tryz
set_option maxRecDepth 100000
set_option maxHeartbeats 2000000
namespace Go.Proofs.YtdakgnaojakldaaGreatDoor
namespace De
def uq(c:zQ)(r:Ref.Req):Bool:=((Ref.zX c.op&&(Ref.says r c.key).isNone)||ZB c.op c.vals r (Ref.says r c.key)) != c.no
def uf(s:zz)(r:Ref.Req):Bool:=xK s.who r.who r&&xK s.act r.act r&&xK s.on r.on r&&s.ifs.all λc=>uq c r
def qE(eff:BY)(r:Ref.Req)(s:zz):Bool:=(s.eff.toList==eff.toList)&&uf s r
def vO(eff:BY)(r:Ref.Req)(a:List zz):Option Nat:=a.findIdx? (qE eff r)
def yx(eff:BY)(r:Ref.Req):List zm->Option (BY×Nat)
 | []=>none
 | x::L=>match vO eff r x.2 with
  | some k=>some (x.1,k+1)
  | none=>yx eff r L
def xD(a:Nat->List zm)(eff:BY)(r:Ref.Req):List Nat->Option (Nat×BY×Nat)
 | []=>none
 | i::is=>match yx eff r (a i) with
  | some (n,k)=>some (i,n,k)
  | none=>xD a eff r is
def xm:BY:=⟨#[97,108,108,111,119]⟩
def yu:BY:=⟨#[100,101,110,121]⟩
structure Dec where
 verdict:Nat
 layer:Nat
 doc:BY
 stmt:Nat
def silent:Dec:=⟨3,0,⟨#[]⟩,0⟩
def DX:Dec:=⟨0,0,⟨#[]⟩,0⟩
def ji(a:Nat->List zm)(r:Ref.Req)(i:Nat):Bool:=(a i).isEmpty||(yx xm r (a i)).isSome
def xC(a:Nat->List zm)(r:Ref.Req):Dec:=match xD a yu r [0,1,2,3] with
 | some (i,n,k)=>⟨2,i,n,k⟩
 | none=>if (ji a r 0&&ji a r 1)=false then silent else match xD a xm r [2,3] with
  | some (i,n,k)=>⟨1,i,n,k⟩
  | none=>silent
def YG(a:Nat->List zm)(r:Ref.Req):Dec×Int:=if Ref.xe r then (xC a r,0) else (DX,11)
end De
end Go.Proofs.YtdakgnaojakldaaGreatDoor
namespace Go.Proofs.YtdakgnaojakldaaGreatDoor
open Go.RowKit
def ug(w:World)(v:Value)(cs:List zQ):Prop:=
 ∃a cap,v = .slice a cs.length cap/\(cs=[]\/∃b o,a=some ⟨b,o,none⟩/\∀j,(h:j<cs.length)->∃c,w.cell? ⟨b,o+j*4,none⟩=some (.string cs[j].op)/\w.cell? ⟨b,o+j*4+1,none⟩=some (.string cs[j].key)/\w.cell? ⟨b,o+j*4+2,none⟩=some c/\w.cell? ⟨b,o+j*4+3,none⟩=some (.bool cs[j].no)/\yO w c cs[j].vals)
theorem ug.below{w c:World}{v:Value}{cs:List zQ}(h:ug w v cs)(hb:Below w.heap.size w c):ug c v cs:=by
 obtain⟨a,cap,e,h⟩:=h;refine⟨a,cap,e,?_⟩
 rcases h with h|⟨b,o,ha,hc⟩
 ·exact .inl h
 ·refine .inr ⟨b,o,ha,λj l=>?_⟩;obtain⟨m,d,f,g,i,k⟩:=hc j l;exact⟨m,zg hb d,zg hb f,zg hb g,zg hb i,Zw k hb⟩
structure ZW (w:World) (l1 l2 l3 lc:Value) (s:zz):Prop where
 who:yO w l1 s.who.2
 act:yO w l2 s.act.2
 on:yO w l3 s.on.2
 ifs:ug w lc s.ifs
theorem ZW.below{w e:World}{a b c d:Value}{s:zz}(h:ZW w a b c d s)(hb:Below w.heap.size w e):ZW e a b c d s:=
 ⟨Zw h.who hb,Zw h.act hb,Zw h.on hb,h.ifs.below hb⟩
def ZX(w:World)(v:Value)(c:List zz):Prop:=
 ∃a cap,v = .slice a c.length cap/\(c=[]\/∃b o,a=some ⟨b,o,none⟩/\∀j,(h:j<c.length)->∃d e f g,w.cell? ⟨b,o+j*8,none⟩=some (.string c[j].eff)/\w.cell? ⟨b,o+j*8+1,none⟩=some (.bool c[j].who.1)/\w.cell? ⟨b,o+j*8+2,none⟩=some d/\w.cell? ⟨b,o+j*8+3,none⟩=some (.bool c[j].act.1)/\w.cell? ⟨b,o+j*8+4,none⟩=some e/\w.cell? ⟨b,o+j*8+5,none⟩=some (.bool c[j].on.1)/\w.cell? ⟨b,o+j*8+6,none⟩=some f/\w.cell? ⟨b,o+j*8+7,none⟩=some g/\ZW w d e f g c[j])
theorem ZX.below{w d:World}{v:Value}{c:List zz}(h:ZX w v c)(hb:Below w.heap.size w d):ZX d v c:=by
 obtain⟨a,cap,e,h⟩:=h;refine⟨a,cap,e,?_⟩
 rcases h with h|⟨b,o,ha,hc⟩
 ·exact .inl h
 ·refine .inr ⟨b,o,ha,λj r=>?_⟩;obtain⟨s,t,u,x,f,g,i,k,l,m,n,p,q⟩:=hc j r;exact⟨s,t,u,x,zg hb f,zg hb g,zg hb i,zg hb k,zg hb l,zg hb m,zg hb n,zg hb p,q.below hb⟩
theorem fU{w:World}{base n a:Nat}{e:TypeId}{v:Value}{xs:List Value}(h:w.ownsRow base e a v n xs):(n=0/\v = .slice none 0 0)\/∃g cap,v = .slice (some ⟨g,0,none⟩) n cap/\∀i,i<xs.length->w.cell? ⟨g,i,none⟩=xs[i]?:=by
 rcases h.2 with ⟨e0,h0⟩|⟨g,cap,cur,ev,_⟩
 ·exact .inl ⟨h0,e0⟩
 ·exact .inr ⟨g,cap,ev,λi hi=>World.ownsRow.cellAt (g:=g) (cap:=cap) (by rw[<- ev];exact h) i (by rw[<- h.1];exact hi)⟩
theorem nT{w:World}{base:Nat}{e:TypeId}{v:Value}{xs:List Value}{cs:List zQ}(h:w.ownsRow base e 4 v cs.length xs)
  (l:∀j,(c:j<cs.length)->∃a,xs[j*4]?=some (.string cs[j].op)/\xs[j*4+1]?=some (.string cs[j].key)/\xs[j*4+2]?=some a/\xs[j*4+3]?=some (.bool cs[j].no)/\yO w a cs[j].vals):ug w v cs:=by
 have m:xs.length=cs.length*4:=h.1
 rcases fU h with ⟨b,rfl⟩|⟨g,cap,rfl,hcell⟩
 ·have:cs=[]:=List.length_eq_zero_iff.1 b
  subst this;exact⟨none,0,rfl,.inl rfl⟩
 ·refine⟨_,cap,rfl,.inr ⟨g,0,rfl,λj c=>?_⟩⟩;obtain⟨a,b,d,f,i,k⟩:=l j c;rw[Nat.zero_add];exact⟨a,(hcell _ (by omega)).trans b,(hcell _ (by omega)).trans d,(hcell _ (by omega)).trans f,(hcell _ (by omega)).trans i,k⟩
theorem IU{w:World}{base:Nat}{e:TypeId}{v:Value}{xs:List Value}{a:List zz}(h:w.ownsRow base e 8 v a.length xs)
  (t:∀j,(k:j<a.length)->∃b c d f,xs[j*8]?=some (.string a[j].eff)/\xs[j*8+1]?=some (.bool a[j].who.1)/\xs[j*8+2]?=some b/\xs[j*8+3]?=some (.bool a[j].act.1)/\xs[j*8+4]?=some c/\xs[j*8+5]?=some (.bool a[j].on.1)/\xs[j*8+6]?=some d/\xs[j*8+7]?=some f/\ZW w b c d f a[j]):ZX w v a:=by
 have u:xs.length=a.length*8:=h.1
 rcases fU h with ⟨i,rfl⟩|⟨g,cap,rfl,hcell⟩
 ·have:a=[]:=List.length_eq_zero_iff.1 i
  subst this;exact⟨none,0,rfl,.inl rfl⟩
 ·refine⟨_,cap,rfl,.inr ⟨g,0,rfl,λj k=>?_⟩⟩;obtain⟨b,c,d,f,i,l,m,n,o,p,q,r,s⟩:=t j k;rw[Nat.zero_add];exact⟨b,c,d,f,(hcell _ (by omega)).trans i,(hcell _ (by omega)).trans l,(hcell _ (by omega)).trans m,(hcell _ (by omega)).trans n,(hcell _ (by omega)).trans o,(hcell _ (by omega)).trans p,(hcell _ (by omega)).trans q,(hcell _ (by omega)).trans r,s⟩
theorem nU{w:World}{base:Nat}{v:Value}{cs:List zQ}(h:qA w base v cs):ug w v cs:=by
 obtain⟨xs,f,g⟩:=h;refine nT f λj i=>?_;obtain⟨k,a,b,c,d,e⟩:=g j i;exact⟨k,a,b,c,d,Jl rfl e⟩
theorem IV{w:World}{base:Nat}{v:Value}{c:List zz}(h:yc w base v c):ZX w v c:=by
 obtain⟨xs,a,b⟩:=h;refine IU a λj p=>?_;obtain⟨q,r,s,t,i,a,b,k,l,m,n,o,d,e,f,g⟩:=b j p;exact⟨q,r,s,t,i,a,b,k,l,m,n,o,⟨Jl rfl d,Jl rfl e,Jl rfl f,nU g⟩⟩
theorem gT{M:Nat->Prop}{w:World}{v:Value}{a:List zz}(h:xx M w v a):ZX w v a:=by
 obtain⟨base,h⟩:=h.at;exact IV h
theorem Yh{w:World}{v:Value}{l:List BY}(h:yO w v l):∃a c,v = .slice a l.length c/\yO w (.slice a l.length c) l:=by
 obtain⟨a,c,rfl,h⟩:=h;exact⟨a,c,rfl,a,c,rfl,h⟩
theorem nV{w:World}{v:Value}{l:List zQ}(h:ug w v l):∃a c,v = .slice a l.length c/\ug w (.slice a l.length c) l:=by
 obtain⟨a,c,rfl,h⟩:=h;exact⟨a,c,rfl,a,c,rfl,h⟩
def ZZ(op:BY)(vals:List BY)(r:Ref.Req)(S:Option BY):Bool:=(Ref.zX op&&S.isNone)||De.ZB op vals r S
theorem X3{op:BY}{l:List UInt8}(h:op.toList=l):x8 op=zl (λk=>(opN k).toList==l) 5:=by
 unfold x8;rw[h]
theorem X4(k:Nat):(opN k).toList=(opN k).data.toList:=ByteArray.toList_eq _
theorem Ay:zl (λk=>(opN k).toList==[108,105,107,101]) 5=some 0:=by simp only[X4];decide
theorem Az:zl (λk=>(opN k).toList==[115,97,109,101]) 5=some 1:=by simp only[X4];decide
theorem Aw:zl (λk=>(opN k).toList==[98,101,108,111,119]) 5=some 2:=by simp only[X4];decide
theorem AA:zl (λk=>(opN k).toList==[117,110,100,101,114]) 5=some 3:=by simp only[X4];decide
theorem Av:zl (λk=>(opN k).toList==[97,98,115,101,110,116]) 5=some 4:=by simp only[X4];decide
theorem EH(k:Nat)(a:k<5):∀args w,(callFunc (opT k) args).run prog w = .ok (.enter (opT k) args) w:=by
 rcases lt5 a with rfl|rfl|rfl|rfl|rfl
 ·exact enters_of func321 (by kernel_rfl) rfl
 ·exact enters_of func323 (by kernel_rfl) rfl
 ·exact enters_of func325 (by kernel_rfl) rfl
 ·exact enters_of func327 (by kernel_rfl) rfl
 ·exact enters_of func329 (by kernel_rfl) rfl
theorem LW(c:zQ)(o:Value)(S:Option BY)(r:Ref.Req)(ao:Option Addr)(cap B:Nat)(w:World)(m:yO w o c.vals)(y:QF c)(p:c.vals.length<=1000)(q:∀v ∈ c.vals,v.size<=100000)(z:∀x,S=some x->x.size<=100/\(Ref.chars x).isSome=true)(u:jF w r ao cap B)(t:qD w) :
  ∃k,k<5/\x8 c.op=some k/\Calls prog (opT k) #[jX S B,o] w λe A=>e = .returned (.bool (ZZ c.op c.vals r S))/\Below w.heap.size w A:=by
 obtain⟨op,key,vals,no⟩:=c;simp only at m p q |-
 rcases y with ⟨ha,n⟩|⟨ha,hfit,hlike⟩
 ·simp only at ha n;subst n;have b:op.toList=[97,98,115,101,110,116]:=eq_of_beq ha;refine⟨4,by omega,(X3 b).trans Av,?_⟩
  have e:ZZ op [] r S=S.isNone:=by
   unfold ZZ;rw[ha]
   cases S<;>rfl
  rw[e];exact AY S o B w
 ·simp only at ha hfit hlike;obtain⟨a,c,rfl,d⟩:=m;have m:yO w (.slice a vals.length c) vals:=⟨a,c,rfl,d⟩;have i:jB w a vals:=d;have s:ZZ op vals r S=De.ZB op vals r S:=by unfold ZZ;rw[ha];rfl
  rw[s];unfold Ref.Zk at hfit;rw[Bool.and_eq_true] at hfit;obtain⟨j,f⟩:=hfit;unfold Ref.jO at f;simp only[Bool.or_eq_true] at f
  rcases f with ((h|h)|h)|h
  ·have b:=eq_of_beq h;refine⟨1,by omega,(X3 b).trans Az,?_⟩
   have e:De.ZB op vals r S=(ja S λx=>vals.any λv=>x.toList==v.toList):=by
    cases S with
    | none=>rfl
    | some x=>
     refine XA _ _ _ λv _=>?_;unfold De.jr Ref.qp De.qW;rw[b]
     rfl
   rw[e];exact Bl S vals a c B w (by omega) i
  ·have b:=eq_of_beq h;refine⟨3,by omega,(X3 b).trans AA,?_⟩
   have e:De.ZB op vals r S=(ja S λx=>vals.any λv=>De.yG x v):=by
    cases S with
    | none=>rfl
    | some x=>
     refine XA _ _ _ λv _=>?_;unfold De.jr Ref.qp De.qW De.xX;rw[b]
     rfl
   rw[e];exact Bo S vals a c B w (by omega) q i
  ·have b:=eq_of_beq h;refine⟨2,by omega,(X3 b).trans Aw,?_⟩
   have l:∀v ∈ vals,Ref.qj v=true:=λv n=>by
    have:=List.all_eq_true.1 j v n
    unfold Ref.kI at this;rw[b] at this
    simpa using this
   have e:De.ZB op vals r S=(ja S λx=>Ref.qj x&&vals.any λv=>De.Zu x v):=by
    cases S with
    | none=>rfl
    | some x=>
     have g:(vals.any λv=>De.jr op x v r)=vals.any λv=>(Ref.qj x&&De.Zu x v):=by
      refine XA _ _ _ λv _=>?_;unfold De.jr Ref.qp De.qW De.xX;rw[b]
      rfl
     show (vals.any λv=>De.jr op x v r)=(Ref.qj x&&vals.any λv=>De.Zu x v);rw[g]
     cases Ref.qj x with
     | true=>rfl
     | false=>simp
   rw[e];exact AZ S vals _ B w l p m
  ·have b:=eq_of_beq h;refine⟨0,by omega,(X3 b).trans Ay,?_⟩
   have e:De.ZB op vals r S=(ja S λx=>vals.any λv=>Ref.qJ v x r):=by
    cases S with
    | none=>rfl
    | some x=>
     refine XA _ _ _ λv _=>?_;unfold De.jr Ref.qp;rw[b]
     rfl
   rw[e];exact Bg S vals r ao a cap c B w z (hlike h) (by omega) i u t
theorem Au(c:zQ)(K:Value)(r:Ref.Req)(ao:Option Addr)(cap B:Nat)(w:World)(hm:yO w K c.vals)(hf:QF c)(hn:c.vals.length<=1000)(hz:∀v ∈ c.vals,v.size<=100000)(J:jF w r ao cap B)(P:qD w) :
  Calls prog 248 #[.agg #[.string c.op,.string c.key,K,.bool c.no],qQ B] w λe u=>e = .returned (.bool (De.uq c r))/\Below w.heap.size w u:=by
 have Q:=λ(W:World) (hb:Below w.heap.size w W)=>LW c K (Ref.says r c.key) r ao cap B W (Zw hm hb) hf hn hz (gp J.ok c.key) (J.below hb) (P.below hb);obtain⟨k,hk,i,_⟩:=Q w (Below.refl _ _)
 have b:∀(W:World),Below w.heap.size w W->Calls prog (opT k) #[jX (Ref.says r c.key) B,K] W λe u=>e = .returned (.bool (ZZ c.op c.vals r (Ref.says r c.key)))/\Below W.heap.size W u:=by
  intro W hb;obtain⟨k',_,I,h3⟩:=Q W hb;rw[i] at I;injection I with I
  rw[I];exact h3
 have h:De.uq c r=(ZZ c.op c.vals r (Ref.says r c.key) != c.no):=rfl;rw[h];have p:=λ(W:World) (hb:Below w.heap.size w W)=>VO c.op W (P.below hb).ops;have C:=λ(W:World) (hb:Below w.heap.size w W)=>J.call W c.key hb;rw[i] at p;have eg:=EH k hk;have es:=gm;obtain⟨a,R,rfl,_⟩:=hm;obtain⟨op,key,vals,no⟩:=c;simp only at b p C |-;obtain⟨S,q⟩:=Nm (Ref.says r key);simp only[q] at b C;rw[q];obtain⟨T,s⟩:=Nm (ZZ op vals r S);simp only[s] at b;rw[s];unfold jX qQ at b;unfold opV at p;unfold qQ;simp only[Option.isSome_some] at p;obtain⟨H,t⟩:∃g,opT k=g:=⟨_,rfl⟩;obtain⟨fl,F⟩:∃g,opL k=g:=⟨_,rfl⟩;obtain⟨ON,D⟩:∃g,opN k=g:=⟨_,rfl⟩;rw[t] at b eg;simp only[t,F,D] at p;obtain⟨X,hX⟩:=Nm (S.getD ⟨#[]⟩);obtain⟨TH,E⟩:∃X,S.isSome=X:=⟨_,rfl⟩;simp only[hX,E] at b C;have HT:=hid b;have CO:=hid p;have CS:=hid C;obtain⟨y,f⟩:∃W,w.alloc (.cells #[.string op,.string key,.slice a vals.length R,.bool no] 241)=W:=⟨_,rfl⟩;have M:Hid (Below w.heap.size w y):=hid (by rw[<- f];exact nb w _);have U:y.cell? ⟨w.heap.size,0,none⟩=some (.string op):=by rw[<- f];simp
 have V:y.cell? ⟨w.heap.size,1,none⟩=some (.string key):=by rw[<- f];simp
 have Y:y.cell? ⟨w.heap.size,2,none⟩=some (.slice a vals.length R):=by rw[<- f];simp
 have Z:y.cell? ⟨w.heap.size,3,none⟩=some (.bool no):=by rw[<- f];simp
 have O:=hid f;have sf:=λW a g m=>run_store prog W a (.func (.func g) #[] #[]) m rfl;clear Q b p C q s t F D hX E f i h hf hn hz J P hk;go_enter func248,ntmps248
 go_upto_region 1 with fail
 rw[O.out]
 go_upto_region 2 with (go_at_call 232;refine (CO.out y M.out).mono ?_;rintro e x ⟨rfl,d⟩;have k0:=zg d U;have k1:=zg d V;have k2:=zg d Y;have k3:=zg d Z;have l:Hid (Below w.heap.size w x):=M.out.trans (d.mono M.out.size);clear d)
 obtain⟨L,j⟩:∃W,x.alloc (.cells #[.string ON,.func (.func fl) #[] #[],.func (.func H) #[] #[]] 342)=W:=⟨_,rfl⟩;have f2:L.cell? ⟨x.heap.size,2,none⟩=some (.func (.func H) #[] #[]):=by rw[<- j];simp
 have A:Below x.heap.size x L:=by rw[<- j];exact nb x _
 have j1:=zg A k1;have j2:=zg A k2;have j3:=zg A k3;have n:Hid (Below w.heap.size w L):=hid (l.out.trans (A.mono l.out.size));rw[j];clear j A k0 k1 k2 k3 l U V Y Z
 go_upto_region 3 with (go_at_fn 215;refine (CS.out L n.out).mono ?_;rintro e G ⟨rfl,d⟩;have f3:=zg d f2;have l2:=zg d j2;have l3:=zg d j3;have o:Hid (Below w.heap.size w G):=n.out.trans (d.mono n.out.size);clear d)
 go_region_held3 (λu=>u.cell? ⟨x.heap.size,2,none⟩=some (.func (.func H) #[] #[])/\u.cell? ⟨w.heap.size,2,none⟩=some (.slice a vals.length R)/\u.cell? ⟨w.heap.size,3,none⟩=some (.bool no)) (go_keep) (first
  | ((go_at_fn H);refine (HT.out G.drew o.out.drew).mono ?_;rintro e w4 ⟨rfl,d⟩;have z:Below G.heap.size G w4:=(Below.refl _ G).drew.trans d;have f4:=zg z f3;have m2:=zg z l2;have m3:=zg z l3;have N:Hid (Below w.heap.size w w4):=o.out.trans (z.mono o.out.size);clear d z))
 all_goals
  go_wp2_with fail;go_ret;exact⟨rfl,N.out⟩
end Go.Proofs.YtdakgnaojakldaaGreatDoor
