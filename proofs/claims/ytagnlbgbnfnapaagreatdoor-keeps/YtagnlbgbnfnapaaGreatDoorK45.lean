/- P -/
import Derived.Test.YtagnlbgbnfnapaaGreatDoorK32
import Derived.Test.YtagnlbgbnfnapaaGreatDoorK44
open Go.Proofs.Tryz
set_option maxRecDepth 100000
set_option maxHeartbeats 8000000
namespace Go.Proofs.YtagnlbgbnfnapaaGreatDoor
open Go.RowKit
theorem KM(a b:List UInt8):∀(k:Nat),k<=a.length->k<=b.length->a.take k=b.take k->Lib.compareBytes a b=Lib.compareBytes (a.drop k) (b.drop k)
 | 0,_,_,_=>rfl
 | k+1,ha,hb,h=>by
  match a,b,ha,hb with
  | x::a,y::b,ha,hb=>
   simp only[List.take_succ_cons,List.cons.injEq] at h;obtain⟨rfl,h⟩:=h;have c:=KM a b k (by simpa using ha) (by simpa using hb) h;rw[List.drop_succ_cons,List.drop_succ_cons,<- c,Lib.compareBytes,za (Kz x),za (Kz x)]
theorem IX(a b:BY)(k:Nat)(m:k<a.size)(hb:k<b.size)(h:a.data.toList.take k=b.data.toList.take k)(l:a[k].toNat≠b[k].toNat):decide (ql a b<0)=decide (a[k].toNat<b[k].toNat):=by
 unfold ql;have n:a.data.toList.length=a.size:=by simp
 have o:b.data.toList.length=b.size:=by simp
 have f:k<a.data.toList.length:=by omega
 have g:k<b.data.toList.length:=by omega
 rw[KM _ _ k (by omega) (by omega) h,vw f,vw g];have i:a.data.toList[k]'f=a[k]:=rfl;have j:b.data.toList[k]'g=b[k]:=rfl;rw[i,j,Lib.compareBytes]
 by_cases c:a[k]<b[k]
 ·have e:a[k].toNat<b[k].toNat:=c;rw[zb c,zC e];rfl
 ·have e:¬a[k].toNat<b[k].toNat:=c;have d:b[k]<a[k]:=by show b[k].toNat<a[k].toNat;omega
  rw[za c,zb d,zO e];rfl
theorem IY(a b:BY)(k:Nat)(g:k<=a.size)(hb:k<=b.size)(h:a.data.toList.take k=b.data.toList.take k)(i:k=a.size\/k=b.size):decide (ql a b<0)=decide (a.size<b.size):=by
 unfold ql;have e:a.data.toList.length=a.size:=by simp
 have f:b.data.toList.length=b.size:=by simp
 rw[KM _ _ k (by omega) (by omega) h];have c:(a.data.toList.drop k).length=a.size-k:=by rw[jw,e]
 have d:(b.data.toList.drop k).length=b.size-k:=by rw[jw,f]
 generalize a.data.toList.drop k=x at c;generalize b.data.toList.drop k=y at d
 match x,y,c,d with
 | [],[],c,d=>
  have:¬a.size<b.size:=by simp at c d;omega
  rw[zO this];rfl
 | [],_::_,c,d=>
  have:a.size<b.size:=by simp at c d;omega
  rw[zC this];rfl
 | _::_,[],c,d=>
  have:¬a.size<b.size:=by simp at c d;omega
  rw[zO this];rfl
 | _::_,_::_,c,d=>simp at c d;omega
theorem Sk(a b:BY)(k:Nat)(i:k<a.size)(hb:k<b.size)(h:a.data.toList.take k=b.data.toList.take k)(g:a[k].toNat=b[k].toNat):a.data.toList.take (k+1)=b.data.toList.take (k+1):=by
 have j:a.data.toList.length=a.size:=by simp
 have l:b.data.toList.length=b.size:=by simp
 have c:k<a.data.toList.length:=by omega
 have d:k<b.data.toList.length:=by omega
 rw[Js c,Js d,h];have e:a.data.toList[k]'c=a[k]:=rfl;have f:b.data.toList[k]'d=b[k]:=rfl;rw[e,f,UInt8.toNat_inj.1 g]
theorem IZ(a b:BY)(w:World)(C:a.size<=maxLen) :
  Calls prog 128 #[.string a,.string b] w λe w'=>e = .returned (.bool (decide (ql a b<0)))/\Below w.heap.size w w':=by
 have v:=IX a b;have x:=IY a b;have y:=Sk a b;unfold maxLen at C;have i:=hid v;have j:=hid x;have l:=hid y;clear v x y;go_enter func128,ntmps128
 go_wp2
 go_loopw [5] (λt wr=>∃k:Nat,k<=a.size/\k<=b.size/\t = .int .i64 k/\a.data.toList.take k=b.data.toList.take k/\Below w.heap.size w wr) (λt _=>a.size-(intOf t).toNat)
 case atStart=>exact⟨0,zG _,zG _,rfl,rfl,zf _ _⟩
 case round=>
  obtain⟨k,r,s,rfl,f,c⟩:=hrel;have n:=hid f;have m:=hid c;clear f c
  by_cases hlt:k<a.size/\k<b.size
  ·obtain⟨g,h⟩:=hlt;have D:(0:Int)<=(k:Int):=zZ _;have E:(k:Int)<(a.size:Int):=by omega
   have F:(k:Int)<(b.size:Int):=by omega
   have p:=i.out k g h n.out;have q:=l.out k g h n.out
   by_cases hne:a[k].toNat=b[k].toNat
   ·have o:=hid (q hne);have d:((a[k].toNat:Int)==(b[k].toNat:Int))=true:=by simp[hne]
    have A:((a[k].toNat:Int) != (b[k].toNat:Int))=false:=by simp[hne]
    clear p q i j l hne;go_wp2_with fail
    go_quiet (fail)
    go_wp2
    go_roundw
    case rel=>exact⟨k+1,by omega,by omega,by go_num,o.out,below_drewN m.out nq⟩
    case measure=>simp[intOf];omega
   ·have o:=hid (p hne);have d:((a[k].toNat:Int)==(b[k].toNat:Int))=false:=by simp;omega
    have A:((a[k].toNat:Int) != (b[k].toNat:Int))=true:=by simp;omega
    clear p q i j l;go_wp2_with fail
    go_quiet (fail)
    go_wp2_with fail
    go_quiet (fail)
    go_wp2
    go_ret;exact⟨by rw[o.out];rfl,below_drewN (below_drewN m.out _) _⟩
  ·have z:=j.out k r s n.out (by omega);have u:=hid z;clear z i j l n
   by_cases g:k<a.size
   ·have B:decide ((k:Int)<(b.size:Int))=false:=by simp;omega
    go_wp2_with fail;go_ret;exact⟨by rw[u.out];simp,m.out⟩
   ·have B:decide ((k:Int)<(a.size:Int))=false:=by simp;omega
    go_wp2_with fail;go_ret;exact⟨by rw[u.out];simp,m.out⟩
theorem bG(l:Int)(name:BY)(w:World)(g:name.size<=maxLen) :
  Calls prog 77 #[.int .i64 l,.string name] w λe w'=>e = .returned (.int .i64 (qw l name))/\w'=w:=by
 have c2:=λW=>aV name W g;unfold qw jh;obtain⟨b,hb⟩:∃x,Ref.qh name=x:=⟨_,rfl⟩;simp only[hb] at c2;simp only[hb];have f:=hid c2;clear c2 hb
 by_cases h1:l<0
 ·have a:decide (0<=l)=false:=by simp;omega
  rw[a];go_enter func77,ntmps77;go_wp2_with fail;go_ret;exact⟨rfl,rfl⟩
 ·have a:decide (0<=l)=true:=by simp;omega
  by_cases h2:4<=l
  ·have c:decide (l<4)=false:=by simp;omega
   rw[a,c];go_enter func77,ntmps77;go_wp2_with fail;go_ret;exact⟨rfl,rfl⟩
  ·have c:decide (l<4)=true:=by simp;omega
   rw[a,c]
   cases b
   all_goals
    go_enter func77,ntmps77
    go_wp2_with (go_at_call 124;refine (f.out _).mono ?_;rintro e h ⟨rfl,d⟩;rw[d];clear d)
    go_ret;exact⟨rfl,rfl⟩
def jK(M:Nat->Prop)(W:World)(c:Value)(rs:List Rd.qa):Prop:=
 ∃base a,yQ a base c rs/\a.heap.size<=W.heap.size/\∀b,base<=b->b<a.heap.size->¬M b/\W.heap[b]?=a.heap[b]?
theorem jK.at{M:Nat->Prop}{W:World}{a:Value}{c:List Rd.qa}(h:jK M W a c):∃base,yQ W base a c:=by
 obtain⟨base,g,d,_,e⟩:=h;exact⟨base,d.kept (λb hb f=>(e b hb f).2)⟩
theorem jK.turn{M:Nat->Prop}{W W':World}{d:Value}{f:List Rd.qa}(h:jK M W d f)(k:zw M W W'):jK M W' d f:=by
 obtain⟨base,g,i,e,c⟩:=h;exact⟨base,g,i,qZ e k.size,λb hb a=>⟨(c b hb a).1,(k.block b (xM a e) (c b hb a).1).trans (c b hb a).2⟩⟩
theorem jK.of{M:Nat->Prop}{W:World}{a:Value}{c:List Rd.qa}{base:Nat}(h:yQ W base a c)(d:∀b,M b->b<base):jK M W a c:=
 ⟨base,W,h,ze _,λb hb _=>⟨λe=>absurd (d b e) (by omega),rfl⟩⟩
theorem jK.more{M M':Nat->Prop}{W:World}{a:Value}{e:List Rd.qa}(h:jK M W a e)(j:∀b,M' b->M b\/W.heap.size<=b):jK M' W a e:=by
 obtain⟨base,f,g,i,c⟩:=h;refine⟨base,f,g,i,λb hb d=>⟨λk=>?_,(c b hb d).2⟩⟩
 rcases j b k with h|h
 ·exact (c b hb d).1 h
 ·omega
structure zx where
 layer:Int
 name:BY
 rs:List Rd.qa
def xu(M:Nat->Prop)(W:World)(xs:List Value)(ks:List zx):Prop:=
 xs.length=ks.length*3/\∀(k:Nat) (x:zx),ks[k]?=some x->∃a c b,xs[k*3]?=some (.int .i64 x.layer)/\xs[k*3+1]?=some (.string x.name)/\xs[k*3+2]?=some (.slice a c b)/\jK M W (.slice a c b) x.rs
theorem xu.turn{M:Nat->Prop}{W W':World}{xs:List Value}{L:List zx}(h:xu M W xs L)(k:zw M W W'):xu M W' xs L:=
 ⟨h.1,λj x i=>by obtain⟨a,c,b,d,e,f,g⟩:=h.2 j x i;exact⟨a,c,b,d,e,f,g.turn k⟩⟩
theorem xu.more{M M':Nat->Prop}{W:World}{xs:List Value}{L:List zx}(h:xu M W xs L)(k:∀b,M' b->M b\/W.heap.size<=b):xu M' W xs L:=
 ⟨h.1,λj x l=>by obtain⟨a,d,c,e,f,g,i⟩:=h.2 j x l;exact⟨a,d,c,e,f,g,i.more k⟩⟩
theorem xu.nil{M:Nat->Prop}{W:World}:xu M W [] []:=⟨rfl,λk x a=>by simp at a⟩
theorem xu.one{M:Nat->Prop}{W:World}{b:Option Addr}{d c:Nat}{x:zx}(h:jK M W (.slice b d c) x.rs):xu M W [.int .i64 x.layer,.string x.name,.slice b d c] [x]:=by
 refine⟨rfl,λk y a=>?_⟩
 match k,a with
 | 0,a=>
  simp only[jr,Option.some.injEq] at a;subst a;exact⟨b,d,c,rfl,rfl,rfl,h⟩
 | k+1,a=>simp at a
theorem xu.take{M:Nat->Prop}{W:World}{xs:List Value}{L:List zx}(h:xu M W xs L)(p:Nat):xu M W (xs.take (p*3)) (L.take p):=by
 refine⟨by rw[yZ,yZ,h.1];omega,λk x a=>?_⟩;rw[kr] at a
 split at a
 ·rename_i j;obtain⟨b,d,c,e,f,g,i⟩:=h.2 k x a;exact⟨b,d,c,by rw[kr,zb (by omega)];exact e,by rw[kr,zb (by omega)];exact f,by rw[kr,zb (by omega)];exact g,i⟩
 ·cases a
theorem xu.drop{M:Nat->Prop}{W:World}{xs:List Value}{L:List zx}(h:xu M W xs L)(p:Nat):xu M W (xs.drop (p*3)) (L.drop p):=by
 refine⟨by rw[jw,jw,h.1];omega,λk x a=>?_⟩;rw[Zy] at a;obtain⟨b,d,c,e,f,g,i⟩:=h.2 (p+k) x a;exact⟨b,d,c,by rw[Zy,show p*3+k*3=(p+k)*3 by omega];exact e,by rw[Zy,show p*3+(k*3+1)=(p+k)*3+1 by omega];exact f,by rw[Zy,show p*3+(k*3+2)=(p+k)*3+2 by omega];exact g,i⟩
theorem xu.app{M:Nat->Prop}{W:World}{xs l:List Value}{L N:List zx}(h:xu M W xs L)(g:xu M W l N):xu M W (xs++l) (L++N):=by
 refine⟨by rw[qA,qA,h.1,g.1];omega,λk x a=>?_⟩
 by_cases hk:k<L.length
 ·rw[xK hk] at a;obtain⟨b,d,c,e,f,i,j⟩:=h.2 k x a;exact⟨b,d,c,by rw[xK (by rw[h.1];omega)];exact e,by rw[xK (by rw[h.1];omega)];exact f,by rw[xK (by rw[h.1];omega)];exact i,j⟩
 ·rw[xZ (by omega)] at a;obtain⟨b,d,c,e,f,i,j⟩:=g.2 (k-L.length) x a;exact⟨b,d,c,by rw[xZ (by rw[h.1];omega),h.1,show k*3-L.length*3=(k-L.length)*3 by omega];exact e,by rw[xZ (by rw[h.1];omega),h.1,show k*3+1-L.length*3=(k-L.length)*3+1 by omega];exact f,by rw[xZ (by rw[h.1];omega),h.1,show k*3+2-L.length*3=(k-L.length)*3+2 by omega];exact i,j⟩
structure xq (M:Nat->Prop) (W:World) (cb:Nat) (lv:Value) (ks:List zx):Prop where
 mine:M cb
 cell:W.heap[cb]?=some (.cells #[lv] 98)
 rows:∃xs,W.ownsRow 0 172 3 lv ks.length xs/\xu M W xs ks
 own:∀g,lv.ownBlock=some g->M g/\g≠cb
theorem xq.below{M:Nat->Prop}{W W':World}{cb:Nat}{lv:Value}{ks:List zx}(h:xq M W cb lv ks)(hb:Below W.heap.size W W'):xq M W' cb lv ks:=by
 obtain⟨xs,a,b⟩:=h.rows;exact⟨h.mine,(hb.block cb (zy h.cell)).trans h.cell,⟨xs,ownsRow_below a hb,b.turn (zw.of hb)⟩,h.own⟩
theorem xq.cells{M:Nat->Prop}{W:World}{cb:Nat}{lv:Value}{ks:List zx}(h:xq M W cb lv ks):∃a c,lv = .slice a ks.length c/\∀(k:Nat) (x:zx),ks[k]?=some x->∃j b f d,a=some ⟨j,0,none⟩/\W.cell? ⟨j,k*3,none⟩=some (.int .i64 x.layer)/\W.cell? ⟨j,k*3+1,none⟩=some (.string x.name)/\W.cell? ⟨j,k*3+2,none⟩=some (.slice b f d)/\jK M W (.slice b f d) x.rs:=by
 obtain⟨xs,n,t⟩:=h.rows
 rcases n.2 with ⟨e,h0⟩|⟨g,cap,cur,e,_⟩
 ·have o:ks=[]:=YB.1 h0;subst o;exact⟨none,0,e,λk x l=>by simp at l⟩
 ·refine⟨some ⟨g,0,none⟩,cap,e,λk x l=>?_⟩;have o:k<ks.length:=(zR.1 l).1;obtain⟨b,f,d,p,q,r,s⟩:=t.2 k x l;have m:∀i,i<ks.length*3->W.cell? ⟨g,i,none⟩=xs[i]?:=λi hi=>World.ownsRow.cellAt (g:=g) (cap:=cap) (by rw[<- e];exact n) i (by omega);exact⟨g,b,f,d,rfl,by rw[m _ (by omega)];exact p,by rw[m _ (by omega)];exact q,by rw[m _ (by omega)];exact r,s⟩
def isR(l:Int)(name:BY)(x:zx):Bool:=(x.layer==l)&&(x.name.toList==name.toList)
def X9(ks:List zx)(l:Int)(name:BY):Int:=match ks.findIdx? (isR l name) with
 | some k=>(k:Int)
 | none=>-1
theorem lL{α:Type}(p:α->Bool):∀(l:List α) (k:Nat) (x:α),l[k]?=some x->p x=true->(∀(j:Nat) (y:α),j<k->l[j]?=some y->p y=false)->l.findIdx? p=some k
 | [],_,_,h,_,_=>by simp at h
 | a::l,0,x,h,hp,_=>by
  simp only[jr,Option.some.injEq] at h;subst h;rw[List.findIdx?_cons,hp];rfl
 | a::l,k+1,x,h,hp,hn=>by
  have b:=hn 0 a (Nat.succ_pos _) rfl
  have:=lL p l k x (by simpa using h) hp (λj y d c=>hn (j+1) y (by omega) (by simpa using c))
  rw[List.findIdx?_cons,b,this];rfl
theorem ER{α:Type}(p:α->Bool)(l:List α)(h:∀(j:Nat) (y:α),l[j]?=some y->p y=false):l.findIdx? p=none:=by
 rw[List.findIdx?_eq_none_iff];intro x b;obtain⟨j,a⟩:=ZA b;exact h j x a
theorem Ua(cb:Nat)(lv:Value)(ks:List zx)(l:Int)(name:BY)(M:Nat->Prop)(w:World)(h:xq M w cb lv ks)(P:ks.length<=maxLen) :
  Calls prog 79 #[.pointer (some ⟨cb,0,none⟩),.int .i64 l,.string name] w λe w'=>e = .returned (.int .i64 (X9 ks l name))/\w'=w:=by
 obtain⟨a,c,rfl,b⟩:=h.cells;have L:=(zg h.cell 0).1;simp at L;obtain⟨n,q⟩:=Nm ks.length;rw[q] at P L;unfold maxLen at P;have o:=lL (isR l name) ks;have g:=ER (isR l name) ks;obtain⟨R,m⟩:=Nm (X9 ks l name);rw[m];unfold X9 at m;have i:=hid m;clear m;have D:=hid b;have K:=hid q;have E:=hid o;have F:=hid g;clear b q o g h;go_enter func79,ntmps79
 go_wp2
 go_loopw [7] (λI wr=>∃k:Nat,k<=n/\I = .int .i64 k/\(∀(j:Nat) (y:zx),j<k->ks[j]?=some y->isR l name y=false)/\wr=w) (λI _=>n-(intOf I).toNat)
 case atStart=>exact⟨0,zG _,rfl,λj y O=>by omega,rfl⟩
 case round=>
  obtain⟨k,X,rfl,u,v⟩:=hrel;rw[v];have f:=hid u;clear v u
  by_cases hlt:k<n
  ·have H:k<ks.length:=by rw[K.out];exact hlt
   have C:=zn H;obtain⟨W,T,V,U,rfl,Q,S,_,_⟩:=D.out k _ C;obtain⟨x,z⟩:=Nm (ks[k]);rw[z] at Q S C;have G:=hid C;obtain⟨A,B,J⟩:=x;simp only at Q S;have Y:(0:Int)<=(k:Int):=zZ _;have Z:(k:Int)<(n:Int):=by omega
   have N:isR l name ⟨A,B,J⟩=((A==l)&&(B.toList==name.toList)):=rfl;have s:=hid N;clear C z N D
   cases hb1:(A==l) with
   | false=>
    have p:Hid (isR l name ⟨A,B,J⟩=false):=hid (by rw[s.out,hb1];rfl);clear s;go_wp2_with fail
    go_roundw
    case rel=>
     refine⟨k+1,by omega,by go_num,λj y O d=>?_,by trivial⟩
     by_cases hjk:j<k
     ·exact f.out j y hjk d
     ·have:j=k:=by omega
      subst this;rw[G.out] at d;injection d with d
      rw[<- d];exact p.out
    case measure=>simp[intOf];omega
   | true=>
    cases hb2:(B.toList==name.toList) with
    | false=>
     have p:Hid (isR l name ⟨A,B,J⟩=false):=hid (by rw[s.out,hb1,hb2];rfl);clear s;go_wp2_with fail
     go_roundw
     case rel=>
      refine⟨k+1,by omega,by go_num,λj y O d=>?_,by trivial⟩
      by_cases hjk:j<k
      ·exact f.out j y hjk d
      ·have:j=k:=by omega
       subst this;rw[G.out] at d;injection d with d
       rw[<- d];exact p.out
     case measure=>simp[intOf];omega
    | true=>
     have t:=E.out k _ G.out (by rw[s.out,hb1,hb2];rfl) f.out;have r:=i.out;rw[t] at r;have p:Hid (R=(k:Int)):=hid r.symm;clear s t E F f r i;go_wp2_with fail;go_ret;exact⟨by rw[p.out];rfl,rfl⟩
  ·have t:=F.out (λj y d=>f.out j y (by have:=(zR.1 d).1;rw[K.out] at this;omega) d);have r:=i.out;rw[t] at r;have p:Hid (R = -1):=hid r.symm;clear t E F f D r i;go_wp2_with fail;go_ret;exact⟨by rw[p.out];rfl,rfl⟩
def nameAt(ks:List zx)(i:Nat):BY:=match ks[i]? with
 | some x=>x.name
 | none=>⟨#[]⟩
def J3(ks:List zx)(l:Int)(i:Nat):Bool:=match ks[i]? with
 | some x=>x.layer==l
 | none=>false
def vU(ks:List zx)(l:Int)(ts:List Bool)(i:Nat):Bool:=J3 ks l i && !(ts.getD i false)
def Zg(ks:List zx)(l:Int)(ts:List Bool):Nat->Option Nat
 | 0=>none
 | i+1=>if vU ks l ts i then (match Zg ks l ts i with
  | none=>some i
  | some b=>if ql (nameAt ks i) (nameAt ks b)<0 then some i else some b) else Zg ks l ts i
def JF:Option Nat->Int
 | none=>-1
 | some b=>(b:Int)
theorem JE(ks:List zx)(l:Int)(ts:List Bool):∀n,(Zg ks l ts n=none->∀i,i<n->vU ks l ts i=false)/\(∀b,Zg ks l ts n=some b->b<n/\vU ks l ts b=true/\∀i,i<n->vU ks l ts i=true->¬ql (nameAt ks i) (nameAt ks b)<0)
 | 0=>⟨λ_ i hi=>by omega,λb h=>by simp[Zg] at h⟩
 | n+1=>by
  obtain⟨f,g⟩:=JE ks l ts n;rw[Zg]
  cases hc:vU ks l ts n with
  | false=>
   simp only[vo,jN];refine⟨λh i hi=>?_,λb h=>?_⟩
   ·by_cases e:i=n
    ·subst e;exact hc
    ·exact f h i (by omega)
   ·obtain⟨k,d,c⟩:=g b h;refine⟨by omega,d,λi hi a=>?_⟩
    by_cases e:i=n
    ·subst e;rw[hc] at a;cases a
    ·exact c i (by omega) a
  | true=>
   simp only[xy]
   cases hb:Zg ks l ts n with
   | none=>
    refine⟨(λh=>by cases h),λb h=>?_⟩;simp only[Option.some.injEq] at h;subst h;refine⟨by omega,hc,λi hi a=>?_⟩
    by_cases e:i=n
    ·subst e;rw[Xl];omega
    ·rw[f hb i (by omega)] at a;cases a
   | some b0=>
    obtain⟨k,d,c⟩:=g b0 hb;simp only
    by_cases hlt:ql (nameAt ks n) (nameAt ks b0)<0
    ·rw[zb hlt];refine⟨(λh=>by cases h),λb h=>?_⟩;simp only[Option.some.injEq] at h;subst h;refine⟨by omega,hc,λi hi a j=>?_⟩
     by_cases e:i=n
     ·subst e;rw[Xl] at j;omega
     ·exact c i (by omega) a (JJ j hlt)
    ·rw[za hlt];refine⟨(λh=>by cases h),λb h=>?_⟩;simp only[Option.some.injEq] at h;subst h;refine⟨by omega,d,λi hi a=>?_⟩
     by_cases e:i=n
     ·subst e;exact hlt
     ·exact c i (by omega) a
def Zt(ks:List zx)(a:List Nat):List zx:=a.filterMap λp=>ks[p]?
structure Taken (ks:List zx) (l:Int) (ps:List Nat) (ts:List Bool):Prop where
 len:ts.length=ks.length
 nodup:ps.Nodup
 mem:∀i,i<ks.length->(ts.getD i false=true↔i ∈ ps)
 ok:∀p ∈ ps,p<ks.length/\J3 ks l p=true
 sorted:ps.Pairwise λa b=>¬ql (nameAt ks b) (nameAt ks a)<0
 ahead:∀p ∈ ps,∀i,i<ks.length->vU ks l ts i=true->¬ql (nameAt ks i) (nameAt ks p)<0
theorem Taken.start(ks:List zx)(l:Int):Taken ks l [] (List.replicate ks.length false):=
 ⟨by simp,List.nodup_nil,λi hi=>by simp[List.getD_eq_getElem?_getD,hi],λp a=>by simp at a,Kb,λp a=>by simp at a⟩
theorem Bc{ks:List zx}{l:Int}{ts:List Bool}{b i:Nat}(h:vU ks l (ts.set b true) i=true):vU ks l ts i=true/\i≠b\/vU ks l ts i=true/\ts.length<=b:=by
 unfold vU at h |-;rw[Jh] at h |-;obtain⟨c,a⟩:=h;rw[zY,zt] at a
 by_cases e:b=i
 ·subst e
  by_cases hb:b<ts.length
  ·rw[zb rfl,zb hb] at a;simp at a
  ·exact .inr ⟨⟨c,by rw[zY,VB (by omega)];rfl⟩,by omega⟩
 ·rw[za e] at a;exact .inl ⟨⟨c,by rw[zY];exact a⟩,λx=>e x.symm⟩
theorem Taken.next{ks:List zx}{l:Int}{k:List Nat}{ts:List Bool}(h:Taken ks l k ts){b:Nat}(hb:Zg ks l ts ks.length=some b):Taken ks l (k++[b]) (ts.set b true):=by
 obtain⟨g,c,m⟩:=(JE ks l ts ks.length).2 b hb
 have d:b ∉ k:=by
  intro o
  have:=(h.mem b g).2 o
  unfold vU at c;rw[this] at c;simp at c
 refine⟨by rw[uD];exact h.len,?_,λi hi=>?_,λp a=>?_,?_,λp a i hi n=>?_⟩
 ·rw[List.nodup_append];exact⟨h.nodup,by simp,λx j y f=>by simp at f;subst f;intro e;subst e;exact d j⟩
 ·rw[zY,zt]
  by_cases e:b=i
  ·subst e;rw[zb rfl,zb (by rw[h.len];exact hi)]
   simp
  ·rw[za e,<- zY,h.mem i hi];simp only[jy,xL];exact⟨λx => .inl x,λx=>x.elim id (λy=>absurd y.symm e)⟩
 ·rcases jy.1 a with a|a
  ·exact h.ok p a
  ·rw[xL] at a;subst a;refine⟨g,?_⟩;unfold vU at c;rw[Jh] at c;exact c.1
 ·rw[fG];refine⟨h.sorted,by simp,λx j y f=>?_⟩;rw[xL] at f;subst f;exact h.ahead x j y g c
 ·rcases Bc n with ⟨hc1,_⟩|⟨hc1,_⟩
  ·rcases jy.1 a with a|a
   ·exact h.ahead p a i hi hc1
   ·rw[xL] at a;subst a;exact m i hi hc1
  ·rcases jy.1 a with a|a
   ·exact h.ahead p a i hi hc1
   ·rw[xL] at a;subst a;exact m i hi hc1
theorem Taken.small{ks:List zx}{l:Int}{a:List Nat}{ts:List Bool}(h:Taken ks l a ts):a.length<=ks.length:=by
 have:=h.nodup.length_le_of_subset (l₂:=List.range ks.length) (λp b=>ku.2 (h.ok p b).1)
 simpa using this
theorem Taken.room{ks:List zx}{l:Int}{a:List Nat}{ts:List Bool}(h:Taken ks l a ts){b:Nat}(hb:Zg ks l ts ks.length=some b):a.length<ks.length:=by
 have:=(h.next hb).small
 rw[qA,vQ] at this;omega
theorem oN{ks:List zx}{a:List Nat}(h:∀p ∈ a,p<ks.length):(Zt ks a).length=a.length:=by
 unfold Zt
 induction a with
 | nil=>rfl
 | cons p a c=>
  rw[List.filterMap_cons,zn (h p (by simp))];simp[c (λq b=>h q (by simp[b]))]
theorem MW(ks:List zx)(a:List Nat){b:Nat}{x:zx}(h:ks[b]?=some x):Zt ks (a++[b])=Zt ks a++[x]:=by
 unfold Zt;rw[List.filterMap_append];simp[h]
def Yv(ks:List zx)(l:Int)(out:List zx):Prop:=∃c:List Nat,c.Nodup/\(∀p,p ∈ c↔p<ks.length/\J3 ks l p=true)/\(c.Pairwise λa b=>¬ql (nameAt ks b) (nameAt ks a)<0)/\out=Zt ks c
theorem Taken.done{ks:List zx}{l:Int}{b:List Nat}{ts:List Bool}(h:Taken ks l b ts)(hb:Zg ks l ts ks.length=none):Yv ks l (Zt ks b):=by
 have c:=(JE ks l ts ks.length).1 hb;refine⟨b,h.nodup,λp=>⟨λa=>h.ok p a,λ⟨a,d⟩=>?_⟩,h.sorted,rfl⟩
 have:=c p a
 unfold vU at this;rw[d,Z0] at this;exact (h.mem p a).1 (by simpa using this)
def bE:Value->Nat
 | .slice _ n _=>n
 | _=>0
theorem Gm:(prog.info? 4).map (λi=>(i.zero,i.size,i.bytes))=some (some (.bool false),1,1):=by kernel_rfl
theorem Ud:(prog.info? 172).map (λi=>(i.zero,i.size,i.bytes))=some (some (.agg #[.int .i64 0,.string ⟨#[]⟩,.slice none 0 0]),3,48):=by kernel_rfl
theorem bn{ks:List zx}{l:Int}{i:Nat}{x:zx}(h:ks[i]?=some x):J3 ks l i=(x.layer==l):=by unfold J3;rw[h]
theorem Ur{ks:List zx}{i:Nat}{x:zx}(h:ks[i]?=some x):nameAt ks i=x.name:=by unfold nameAt;rw[h]
structure YF (M:Nat->Prop) (w wr:World) (tb n:Nat) (ks:List zx) (ps:List Nat) (ts:List Bool) (ov:Value):Prop where
 took:wr.ownsRow w.heap.size 4 1 (.slice (some ⟨tb,0,none⟩) n n) n (ts.map Value.bool)
 out:∃xs,wr.ownsRow w.heap.size 172 3 ov ps.length xs/\xu M w xs (Zt ks ps)
 bel:Below w.heap.size w wr
theorem YF.below{M:Nat->Prop}{w wr a:World}{d n:Nat}{ks:List zx}{c:List Nat}{ts:List Bool}{b:Value}(h:YF M w wr d n ks c ts b)(hb:Below wr.heap.size wr a):YF M w a d n ks c ts b:=by
 obtain⟨xs,e,f⟩:=h.out;exact⟨ownsRow_below h.took hb,⟨xs,ownsRow_below e hb,f⟩,h.bel.trans (hb.mono h.bel.size)⟩
structure XL (A:World) where
 w:World
 b:Below A.heap.size A w
theorem mH(cb:Nat)(lv:Value)(ks:List zx)(l:Int)(M:Nat->Prop)(w:World)(h:xq M w cb lv ks)(hn:ks.length<=1000000000)(hN:∀x ∈ ks,x.name.size<=maxLen)(hM:∀b,M b->b<w.heap.size) :
  Calls prog 80 #[.pointer (some ⟨cb,0,none⟩),.int .i64 l] w λe w'=>∃v xs out,e = .returned v/\Yv ks l out/\w'.ownsRow w.heap.size 172 3 v out.length xs/\xu M w' xs out/\Below w.heap.size w w':=by
 obtain⟨i0,hi,h7,h8,h9⟩:=qP Gm;obtain⟨i1,hj,h4,h5,h6⟩:=qP Ud;obtain⟨a,c,rfl,E⟩:=h.cells;have c0:=(zg h.cell 0).1;simp at c0;obtain⟨n,c4⟩:=Nm ks.length;rw[c4] at hn c0;have HC:=hid E;have HN:=hid c4;have b5:=hid hN;have HM:=hid hM;clear E c4 h hN hM;go_enter func80,ntmps80
 go_wp2_with (at_make;refine Jf _ rfl _ _ 254 rfl w.heap.size 4 i0 (.bool false) 1 underlying254 hi h7 h8 _ _ _ _ n rfl rfl ?_ ?_ ?_ ?_ ?_ ?_)
 ·omega
 ·omega
 ·rw[h9];omega
 ·unfold maxLen;omega
 ·omega
 intro w1 b2 K
 have f6:w1.ownsRow w.heap.size 4 1 (.slice (some ⟨w.heap.size,0,none⟩) n n) n ((List.replicate n false).map Value.bool):=by
  rw[List.map_replicate,<- UY];exact b2
 have b0:Below w.heap.size w w1:=(zf _ w).grown K (ze _) (λk hk=>by cases hk);have HS:Hid (YF M w w1 w.heap.size n ks [] (List.replicate n false) (.slice none 0 0)):=⟨f6,⟨[],qD _ _ _ _,xu.nil⟩,b0⟩;have HT:Hid (Taken ks l [] (List.replicate n false)):=hid (by rw[<- HN.out];exact Taken.start ks l);clear b2 K f6 b0;go_wp2_with fail
 go_loopw [5,7,8,9] (λov _ _ _ wr=>∃D ts,Taken ks l D ts/\YF M w wr w.heap.size n ks D ts ov/\bE ov=D.length) (λov _ _ _ _=>n-bE ov)
 case atStart=>exact⟨[],List.replicate n false,HT.out,HS.out,rfl⟩
 case round=>
  obtain⟨D,ts,q,e8,hlen⟩:=hrel;obtain⟨wo,rfl⟩:∃x,x=wr:=⟨_,rfl⟩;have r:=hid q;have b7:=hid e8;clear q e8 HS HT;have d8:=λi=>(JE ks l ts i).2;have a1:=hid d8;obtain⟨H,a3⟩:∃f:Nat->Option Nat,Zg ks l ts=f:=⟨_,rfl⟩;have d5:H 0=none:=by rw[<- a3];rfl
  have d6:∀i,H (i+1)=if vU ks l ts i then (match H i with
   | none=>some i
   | some b=>if ql (nameAt ks i) (nameAt ks b)<0 then some i else some b) else H i:=λi=>by subst a3;rfl
  have c9:=hid d5;have a0:=hid d6;have a2:=hid a3;clear d5 d6 a3 d8;have g4:=hid (zi b7.out.bel c0);go_wp2_with fail
  go_loopw [7,8,9] (λbv iv _ wi=>∃i:Nat,i<=n/\iv = .int .i64 i/\bv = .int .i64 (JF (H i))/\Below wo.heap.size wo wi) (λ_ iv _ _=>n-(intOf iv).toNat)
  case atStart=>exact⟨0,zG _,rfl,by rw[c9.out];rfl,zf _ _⟩
  case round=>
   obtain⟨i,l8,rfl,rfl,L⟩:=hrel;have F:=hid L;have j:=hid (b7.out.below L);have d0:=zi L g4.out;clear L c9
   by_cases hlt:i<n
   ·have e4:i<ks.length:=by rw[HN.out];exact hlt
    have hx:=zn e4;obtain⟨gb,da,dn,dc,rfl,q0,q1,_,_⟩:=HC.out i _ hx;obtain⟨x,W⟩:=Nm (ks[i]);rw[W] at q0 q1 hx;have p0:=zi j.out.bel q0;have p1:=zi j.out.bel q1;have T:i<ts.length:=by rw[r.out.len];exact e4
    have t0:wr.cell? ⟨w.heap.size,i,none⟩=some (.bool (ts.getD i false)):=by
     rw[j.out.took.cellAt i (by omega),vz,zn T,zY,zn T];rfl
    have d:=a0.out i;have N:vU ks l ts i=((x.layer==l) && !(ts.getD i false)):=by unfold vU;rw[bn hx]
    have R:=Ur hx;rw[N] at d;obtain⟨tk,q⟩:∃t,ts.getD i false=t:=⟨_,rfl⟩;rw[q] at t0 d;have k0:(0:Int)<=(i:Int):=zZ _;have k1:(i:Int)<(n:Int):=by omega
    cases hb1:(x.layer==l) with
    | false=>
     rw[hb1] at d;have m:Hid (H (i+1)=H i):=hid (by rw[d];rfl);have i3:(x.layer != l)=true:=by simp only[bne,hb1,Vt]
     clear d N R W hx q q0 q1;go_wp2_with fail
     go_roundw
     case rel=>exact⟨i+1,by omega,by go_num,by rw[m.out],F.out⟩
     case measure=>simp[intOf];omega
    | true=>
     have i3:(x.layer != l)=false:=by simp only[bne,hb1,Vu]
     cases tk with
     | true=>
      rw[hb1] at d;have m:Hid (H (i+1)=H i):=hid (by rw[d];rfl);clear d N R W hx q q0 q1;go_wp2_with fail
      go_roundw
      case rel=>exact⟨i+1,by omega,by go_num,by rw[m.out],F.out⟩
      case measure=>simp[intOf];omega
     | false=>
      rw[hb1] at d;simp only[Vt,Yr,xy] at d
      cases hbi2:H i with
      | none=>
       rw[hbi2] at d;have m:=hid d;have s:JF none = -1:=rfl;rw[s];clear d N R W hx q q0 q1;go_wp2_with fail
       go_roundw
       case rel=>exact⟨i+1,by omega,by go_num,by rw[m.out];rfl,F.out⟩
       case measure=>simp[intOf];omega
      | some b=>
       rw[hbi2] at d;simp only at d;have a5:=a1.out i b (by rw[a2.out];exact hbi2);obtain⟨j2,c2,_⟩:=a5;have h2:b<ks.length:=by omega
       have hy:=zn h2;obtain⟨l4,k9,l1,l0,e2,_,r1,_,_⟩:=HC.out b _ hy;injection e2 with e2
       injection e2 with e2
       subst e2;obtain⟨y,Z⟩:=Nm (ks[b]);rw[Z] at r1 hy;have p2:=zi j.out.bel r1;rw[R,Ur hy] at d
       have HQ:Hid (∀X:XL wr,Calls prog 128 #[.string x.name,.string y.name] X.w λe c6=>e = .returned (.bool (decide (ql x.name y.name<0)))/\∃Y:XL wr,c6=Y.w):=
        hid (λX=>(IZ x.name y.name X.w (b5.out x (qL hx))).mono (λe c6 ⟨he,hb⟩=>⟨he,⟨c6,X.b.trans (hb.mono X.b.size)⟩,rfl⟩))
       have s:JF (some b)=(b:Int):=rfl;rw[s];have k2:(0:Int)<=(b:Int):=zZ _;have k3:(b:Int)<(n:Int):=by omega
       obtain⟨xn,f4⟩:∃z,x.name=z:=⟨_,rfl⟩;obtain⟨yn,f5⟩:∃z,y.name=z:=⟨_,rfl⟩;rw[f4] at p1 HQ d;rw[f5] at p2 HQ d;have m:=hid d;clear d N R W hx q q0 q1 r1 hy Z c2 f4 f5 a1 a0
       go_upto_region 10 with fail
       have f0:∀X:XL wr,X.w.cell? ⟨cb,0,none⟩=some (.slice (some ⟨gb,0,none⟩) n c):=λX=>zi X.b d0;have f1:∀X:XL wr,X.w.cell? ⟨gb,i*3+1,none⟩=some (.string xn):=λX=>zi X.b p1;have f2:∀X:XL wr,X.w.cell? ⟨gb,b*3+1,none⟩=some (.string yn):=λX=>zi X.b p2;have NE:Nonempty (XL wr):=⟨⟨wr,zf _ _⟩⟩;refine wp_region_quiet (C:=λW'=>∃X:XL wr,W'=X.w) (by kernel_rfl) (by kernel_rfl) ⟨⟨_,(zf _ wr).drew⟩,rfl⟩ ?_;simp only
       repeat (go_big_quiet_step (fail))
       go_big_quiet_step (exact HQ.out _)
       repeat (go_big_quiet_step (fail))
       refine wpQuiet_nil ?_;intro w' h3;obtain⟨X,rfl⟩:=h3;have d9:=F.out.trans (X.b.mono F.out.size);have d1:=hid d9;clear d9
       by_cases hls:ql xn yn<0
       ·have dl:decide (ql xn yn<0)=true:=zC hls;have d:=m.out;rw[zb hls] at d;have J:=hid d;clear d m;rw[dl];go_wp2_with fail
        go_roundw
        case rel=>exact⟨i+1,by omega,by go_num,by rw[J.out];rfl,d1.out⟩
        case measure=>simp[intOf];omega
       ·have dl:decide (ql xn yn<0)=false:=zO hls;have d:=m.out;rw[za hls] at d;have J:=hid d;clear d m;rw[dl];go_wp2_with fail
        go_roundw
        case rel=>exact⟨i+1,by omega,by go_num,by rw[J.out];rfl,d1.out⟩
        case measure=>simp[intOf];omega
   ·have e3:i=n:=by omega
    subst e3;have a6:=a2.out
    cases hb:H i with
    | none=>
     have P:=r.out.done (by rw[HN.out,a6];exact hb);have s:JF none = -1:=rfl;rw[s];have g5:=hid P;obtain⟨xs,o,V⟩:=j.out.out;have e7:(Zt ks D).length=D.length:=oN (λp hp=>(r.out.ok p hp).1);rw[<- e7] at o;have g6:=hid o;have b8:=hid V;have I:=hid j.out.bel;clear P o V e7 a6 a2 a1 a0 HC HM b5;go_wp2_with fail;go_ret;exact⟨_,xs,Zt ks D,rfl,g5.out,g6.out,b8.out.turn (zw.of I.out),I.out⟩
    | some b=>
     have a4:Zg ks l ts ks.length=some b:=by rw[HN.out,a6];exact hb
     obtain⟨G,c2,_⟩:=(JE ks l ts ks.length).2 b a4;have Q:=r.out.next a4;have B:=r.out.room a4;have hy:=zn G;obtain⟨gb,da,dn,dc,rfl,r0,r1,r2,O⟩:=HC.out b _ hy;obtain⟨y,Z⟩:=Nm (ks[b]);rw[Z] at r0 r1 hy O;have s:JF (some b)=(b:Int):=rfl;rw[s];have T:b<ts.length:=by rw[r.out.len];exact G
     have u0:=(j.out.took.cellAt b (by rw[HN.out] at G;omega));rw[vz,zn T] at u0;have u1:=j.out.took.frozenAt b;have e9:=(j.out.took.stored b (.bool true)).1;obtain⟨xs,o,V⟩:=j.out.out;have S:=QX j.out.took o (by decide) ((j.out.took.stored b (.bool true)).2);have m3:=j.out.bel.size;have d7:=j.out.bel.setCell (p:=⟨w.heap.size,b,none⟩) (ze _) (.bool true);have e0:=zi j.out.bel r0;have e1:=zi j.out.bel r1;have e2:=zi j.out.bel r2;have l7:gb<w.heap.size:=XX _ _ r0;have l5:cb<w.heap.size:=XX _ _ c0;have a9:=V.app (xu.one (x:=y) O);rw[<- MW ks D hy] at a9;obtain⟨yl,yn,yr⟩:=y;simp only at e0 e1 e2 a9;simp only[Xg] at u0;have m:=hid Q;have d4:=hid e9;have b6:=hid S;have b8:=hid a9;have I:=hid d7;obtain⟨tv,f3⟩:∃t,ts[b]=t:=⟨_,rfl⟩;rw[f3] at u0;have e6:(ts.map Value.bool).set b (.bool true)=(ts.set b true).map Value.bool:=by rw[List.map_set]
     rw[e6] at d4;have n1:gb≠w.heap.size:=by omega
     have n2:cb≠w.heap.size:=by omega
     have n3:w.heap.size≠gb:=by omega
     have n4:w.heap.size≠cb:=by omega
     have L:b<i:=by rw[HN.out] at G;exact G
     have k2:(0:Int)<=(b:Int):=zZ _;have k3:(b:Int)<(i:Int):=by omega
     have m2:D.length<i:=by rw[HN.out] at B;exact B
     clear Q e9 S a9 d7 o V e6 f3 B G c2 a4 a6 Z hy r0 r1 r2 O a1 a0 a2 HC b5 HM j F b7 r T
     go_wp2_with (at_builtin;refine yK _ rfl _ _ 96 rfl w.heap.size 172 i1 (.agg #[.int .i64 0,.string ⟨#[]⟩,.slice none 0 0]) 3 48 underlying96 hj h4 h5 h6 rfl (by decide) _ D.length xs rfl (World.ownsRow.alloc b6.out _) ⟨wr.heap.size,0,none⟩ 1 1 [.int .i64 yl,.string yn,.slice da dn dc] rfl rfl ?_ ?_ ?_ ?_ ?_ ?_)
     ·exact⟨rfl,rfl,rfl⟩
     ·unfold maxLen;omega
     ·omega
     ·omega
     ·intro v' w3 A u _;have hA:=World.ownsRow.alloc b6.out (.cells #[.int .i64 yl,.string yn,.slice da dn dc] 172);have hB:=World.ownsRow.alloc d4.out (.cells #[.int .i64 yl,.string yn,.slice da dn dc] 172);have U:=QX hA hB (by decide) u;have b1:Below w.heap.size w w3:=(I.out.alloc I.out.size _).grown u (by simp;omega) (λk hk=>(World.ownsRow.lt b6.out k hk).1);have c3:(D++[b]).length=D.length+1:=by simp
      have g8:Hid (YF M w w3 w.heap.size i ks (D++[b]) (ts.set b true) v'):=⟨U,⟨_,by rw[c3];exact A,b8.out⟩,b1⟩
      have e5:bE v'=(D++[b]).length:=by
       rcases A.2 with ⟨rfl,h0⟩|⟨g,cap,cur,rfl,_⟩
       ·omega
       ·rw[c3];rfl
      have d3:=hid e5;clear hA hB U b1 A u e5 c3;go_wp2_with fail
      go_roundw
      case rel=>exact⟨D++[b],ts.set b true,m.out,g8.out,d3.out⟩
      case measure=>rw[d3.out,hlen];simp;omega
end Go.Proofs.YtagnlbgbnfnapaaGreatDoor
