/- P -/
import Derived.Test.YtdakgnaojakldaaGreatDoorP32
open Go.Proofs.Tryz
set_option maxRecDepth 100000
set_option maxHeartbeats 1000000
namespace Go.Proofs.YtdakgnaojakldaaGreatDoor
open Go.RowKit
def QX(n:Ref.Node)(v:Value×Value):Value := .agg #[.int .i64 n.kind,.string n.text,v.1,v.2]
theorem vw{w:World}{base:Nat}{e:TypeId}{v:Value}{n:Nat}{xs:List Value}(h:w.ownsRow base e 1 v n xs):∃a c,v = .slice a n c/\∀k,k<n->∃g,a=some ⟨g,0,none⟩/\w.cell? ⟨g,k,none⟩=xs[k]?:=by
 rcases h.2 with ⟨rfl,rfl⟩|⟨g,c,cur,rfl,_⟩
 ·exact⟨_,_,rfl,λk b=>by omega⟩
 ·exact⟨_,_,rfl,λk b=>⟨g,rfl,h.cellAt k (by omega)⟩⟩
def vC(w wr:World)(cs:Array Value)(t:TypeId):Prop:=wr.heap[w.heap.size]?=some (.cells cs t (0,0))/\Below w.heap.size w wr
theorem vC.start(w:World)(cs:Array Value)(t:TypeId):vC w (w.alloc (.cells cs t)) cs t:=⟨zB w _,nbl _ _⟩
theorem vC.drew{w wr:World}{cs:Array Value}{t:TypeId}(h:vC w wr cs t):vC w wr.drew cs t:=⟨h.1,h.2.drew⟩
theorem vC.cell{w wr:World}{cs:Array Value}{t:TypeId}(h:vC w wr cs t)(k:Nat):wr.cell? ⟨w.heap.size,k,none⟩=cs[k]?:=(zg h.1 k).1
theorem vC.old{w wr:World}{cs:Array Value}{t:TypeId}(h:vC w wr cs t){p:Addr}{v:Value}(a:w.cell? p=some v):wr.cell? p=some v:=zh h.2 a
theorem Ob(n:Ref.Node)(v:Value×Value)(name:BY)(base:Nat)(w:World)(B:w.ownsRow base 9 1 v.1 n.names.length (Ref.strCells n.names))(A:w.ownsRow base 3 1 v.2 n.kids.length (yt n.kids))
  (C:n.names.length<=n.kids.length)(G:n.kids.length<=4000) :
  Calls prog 60 #[QX n v,.string name] w λe w'=>e = .returned (.int .i64 (Ref.zn n name))/\Below w.heap.size w w':=by
 obtain⟨P,o⟩:=Nm (Ref.zn n name);rw[o];obtain⟨kind,text,d,ks⟩:=n;unfold Ref.zn at o;simp only at o B A C G;obtain⟨M,N,p,z⟩:=vw B;obtain⟨H,I,q,y⟩:=vw A;unfold QX;rw[p,q];simp only;obtain⟨r,c⟩:∃k,d.length=k:=⟨_,rfl⟩;obtain⟨J,b⟩:∃k,ks.length=k:=⟨_,rfl⟩;rw[c] at z C;rw[b] at y C G;rw[c,b];have S:=hid o;have Q:=hid z;have O:=hid y;have m:=hid c;have x:=hid b;clear o B A p q z y c b;go_enter func60,ntmps60;go_wp2_with fail
 go_loopw [5] (λi wr=>∃k:Nat,k<=r/\i = .int .i64 k/\P=Ref.jZ (d.drop k) (ks.drop k) name/\vC w wr #[.int .i64 kind,.string text,.slice M r N,.slice H J I] 152) (λi _=>r-(intOf i).toNat)
 case atStart=>exact⟨0,zH _,rfl,by rw[<- S.out];rfl,vC.start _ _ _⟩
 case round=>
  obtain⟨k,U,rfl,hb,a⟩:=hrel;have u:=hid hb;have c2:wr.cell? ⟨w.heap.size,2,none⟩=some (.slice M r N):=a.cell 2;have c3:wr.cell? ⟨w.heap.size,3,none⟩=some (.slice H J I):=a.cell 3;have l:=hid a;clear hb a
  by_cases hlt:k<r
  ·obtain⟨g,rfl,t⟩:=Q.out k hlt;obtain⟨T,rfl,q2⟩:=O.out k (by omega);have K:k<d.length:=by rw[m.out];exact hlt
   have L:k<ks.length:=by rw[x.out];omega
   rw[Ref.JE d k K] at t;rw[yt,Ref.UC ks k L] at q2;obtain⟨s,h⟩:=Nm (d[k]);obtain⟨j,f⟩:∃s,ks[k]=s:=⟨_,rfl⟩;rw[h] at t;rw[f] at q2;have D:=hid h;have R:=hid f;have E:=hid K;have F:=hid L;have V:=l.out.old t;have W:=l.out.old q2;clear h f t q2
   cases heq:(s.toList==name.toList) with
   | true=>
    have e:=Ref.NY d ks name k E.out F.out (by rw[D.out];exact heq);rw[<- u.out,R.out] at e;subst e
    go_wp2
    go_ret;exact⟨rfl,l.out.2⟩
   | false=>
    have e:=Ref.NZ d ks name k E.out F.out (by rw[D.out];exact heq)
    go_wp2
    go_roundw
    case rel=>exact⟨k+1,by omega,by go_num,u.out.trans e,l.out⟩
    case measure=>simp[intOf];omega
  ·have e:=Ref.NW d ks name k (by rw[m.out];exact hlt);rw[<- u.out] at e;subst e
   go_wp2
   go_ret;exact⟨rfl,l.out.2⟩
theorem Az(n:Ref.Node)(v:Value×Value)(ts:List BY)(X:Value)(base l:Nat)(w:World)(I:w.ownsRow base 9 1 v.1 n.names.length (Ref.strCells n.names))(S:w.ownsRow l 9 1 X ts.length (Ref.strCells ts))
  (T:n.names.length<=4000)(hs:ts.length<=4000) :
  Calls prog 110 #[QX n v,X] w λe w'=>e = .returned (.bool (Ref.yR n ts))/\Below w.heap.size w w':=by
 obtain⟨P,u⟩:=Nm (Ref.yR n ts);rw[u];obtain⟨kind,text,h,ks⟩:=n;unfold Ref.yR at u;simp only at u I T;obtain⟨W,D,z,G⟩:=vw I;obtain⟨ta,tc,A,H⟩:=vw S;unfold QX;rw[z,A];simp only;obtain⟨Y,f⟩:∃x,v.2=x:=⟨_,rfl⟩;rw[f];obtain⟨p,c⟩:∃k,h.length=k:=⟨_,rfl⟩;obtain⟨L,d⟩:∃k,ts.length=k:=⟨_,rfl⟩;rw[c] at G T;rw[d] at H hs;rw[c,d];have N:=hid u;have Z:=hid G;have CT:=hid H;have q:=hid c;have r:=hid d;clear u I S z A f G H c d;go_enter func110,ntmps110;go_wp2_with fail
 go_loopw [5] (λi wr=>∃k:Nat,k<=p/\i = .int .i64 k/\((h.take k).all (λs=>ts.any λt=>t.toList==s.toList))=true/\vC w wr #[.int .i64 kind,.string text,.slice W p D,Y] 152) (λi _=>p-(intOf i).toNat)
 case atStart=>exact⟨0,zH _,rfl,by simp,vC.start _ _ _⟩
 case round=>
  obtain⟨k,hk,rfl,hb,a⟩:=hrel;have M:=hid hb;have c2:wr.cell? ⟨w.heap.size,2,none⟩=some (.slice W p D):=a.cell 2;have c0:wr.cell? ⟨w.heap.size,0,none⟩=some (.int .i64 kind):=a.cell 0;have E:=hid a;clear hb a
  by_cases hlt:k<p
  ·obtain⟨g,rfl,B⟩:=Z.out k hlt;have V:k<h.length:=by rw[q.out];exact hlt
   rw[Ref.JE h k V] at B;obtain⟨s,m⟩:=Nm (h[k]);rw[m] at B;have O:=hid m;have R:=hid V;have q3:=E.out.old B;have Q1:=hid B;clear m B;go_wp2_with fail
   go_loopw [6,7] (λfv J wx=>∃(j:Nat) (x:Bool),j<=L/\J = .int .i64 j/\fv = .bool x/\(x=(ts.take j).any λt=>t.toList==s.toList)/\vC w wx #[.int .i64 kind,.string text,.slice (some ⟨g,0,none⟩) p D,Y] 152) (λ_ J _=>L-(intOf J).toNat)
   case atStart=>exact⟨0,false,zH _,rfl,rfl,by simp,E.out⟩
   case round=>
    obtain⟨j,x,hj,rfl,rfl,U,a⟩:=hrel;have F:=hid U;have b:=hid a;have q5:=b.out.old Q1.out;have d2:wr.cell? ⟨w.heap.size,2,none⟩=some (.slice (some ⟨g,0,none⟩) p D):=a.cell 2;clear U c2 c0 q3 a
    by_cases hjt:j<L
    ·obtain⟨g2,rfl,q2⟩:=CT.out j hjt;have K:j<ts.length:=by rw[r.out];exact hjt
     rw[Ref.JE ts j K] at q2;obtain⟨t,o⟩:∃s,ts[j]=s:=⟨_,rfl⟩;rw[o] at q2;have Q:=hid o;have q4:=b.out.old q2;clear o q2
     cases heq:(t.toList==s.toList) with
     | true=>
      have e:=hid (Ref.mR ts s j K x F.out true (by rw[Q.out];exact heq))
      cases x with
      | true=>
       go_wp2_with fail
       go_region
       all_goals
        go_wp2
        go_roundw
        case rel=>exact⟨j+1,true,by omega,by go_num,rfl,e.out,b.out.drew⟩
        case measure=>simp[intOf];omega
      | false=>
       go_wp2_with fail
       go_region
       all_goals
        go_wp2
        go_roundw
        case rel=>exact⟨j+1,true,by omega,by go_num,rfl,e.out,b.out.drew⟩
        case measure=>simp[intOf];omega
     | false=>
      have e:=hid (Ref.mR ts s j K x F.out false (by rw[Q.out];exact heq))
      cases x with
      | true=>
       go_wp2_with fail
       go_region
       all_goals
        go_wp2
        go_roundw
        case rel=>exact⟨j+1,true,by omega,by go_num,rfl,e.out,b.out.drew⟩
        case measure=>simp[intOf];omega
      | false=>
       go_wp2_with fail
       go_region
       all_goals
        go_wp2
        go_roundw
        case rel=>exact⟨j+1,false,by omega,by go_num,rfl,e.out,b.out.drew⟩
        case measure=>simp[intOf];omega
    ·have e:=hid (Ref.EG ts s j (by rw[r.out];exact hjt) x F.out)
     cases x with
     | true=>
      have C:=hid (Ref.mJ h (λs=>ts.any λt=>t.toList==s.toList) k R.out M.out (by rw[O.out];exact e.out))
      go_wp2
      go_roundw
      case rel=>exact⟨k+1,by omega,by go_num,C.out,b.out⟩
      case measure=>simp[intOf];omega
     | false=>
      have C:=Ref.mM h (λs=>ts.any λt=>t.toList==s.toList) k R.out (by rw[O.out];exact e.out);have y:=N.out;rw[C,uJ] at y;subst y;clear C
      go_wp2
      go_ret;exact⟨rfl,b.out.2⟩
  ·have e:=Ref.mH h (λs=>ts.any λt=>t.toList==s.toList) k (by rw[q.out];exact hlt) M.out;have y:=N.out;rw[e,jC] at y;subst y;clear e
   go_wp2
   go_ret;exact⟨rfl,E.out.2⟩
structure Zo (w:World) (base b gg cap:Nat) (ns:List Ref.Node):Prop where
 lt:b<w.heap.size/\gg<w.heap.size
 slice:w.cell? ⟨b,2,none⟩=some (.slice (some ⟨gg,0,none⟩) ns.length cap)
 node:∀(i:Nat) (n:Ref.Node),ns[i]?=some n->∃v:Value×Value,w.cell? ⟨gg,i*4,none⟩=some (.int .i64 n.kind)/\w.cell? ⟨gg,i*4+1,none⟩=some (.string n.text)/\w.cell? ⟨gg,i*4+2,none⟩=some v.1/\w.cell? ⟨gg,i*4+3,none⟩=some v.2 /\
  w.ownsRow base 9 1 v.1 n.names.length (Ref.strCells n.names)/\w.ownsRow base 3 1 v.2 n.kids.length (yt n.kids)
 ev:Ref.Ev ns
 len:ns.length<=4000
 small:∀(i:Nat) (n:Ref.Node),ns[i]?=some n->n.kids.length<=4000/\n.names.length<=4000/\n.text.size<=12000
theorem Zo.below{w w':World}{base b a cap:Nat}{c:List Ref.Node}(h:Zo w base b a cap c)(hb:Below w.heap.size w w'):Zo w' base b a cap c:=by
 have l:=hb.size;refine⟨⟨by have:=h.lt.1;omega,by have:=h.lt.2;omega⟩,zh hb h.slice,λi n hi=>?_,h.ev,h.len,h.small⟩;obtain⟨v,d,e,f,g,j,k⟩:=h.node i n hi;exact⟨v,zh hb d,zh hb e,zh hb f,zh hb g,ownsRow_below j hb,ownsRow_below k hb⟩
theorem Zo.kid{w:World}{base b c cap:Nat}{a:List Ref.Node}(h:Zo w base b c cap a){i:Nat}{n:Ref.Node}(hi:a[i]?=some n)(j:Nat)(d:j<n.kids.length):n.kids[j]<a.length:=(h.ev i n hi).1 _ (qA d)
theorem vC.grown2{w wr w1:World}{cs:Array Value}{t e:TypeId}{size n:Nat}{v:Value}{xs:List Value}(h:vC w wr cs t)(c:wr.ownsRow (w.heap.size+1) e size v n xs)(a b:Obj)(f:((wr.alloc a).alloc b).drew.grownBy w1 v.ownBlock):vC w w1 cs t:=by
 have i:w.heap.size<wr.heap.size:=zt h.1;have d:Below (w.heap.size+1) wr w1:=(((ze _ wr).alloc (by omega) a).alloc (by simp;omega) b).drew.grown f (by simp;omega) (λk g=>(c.lt k g).1);exact⟨(d.block _ (by omega)).trans h.1,h.2.trans (d.mono (by omega))⟩
theorem BR(w:World)(O:Obj)(t:TypeId)(s:BY):((w.alloc O).alloc (.cells #[.string s] t)).ownsRow w.heap.size t 1 (.slice (some ⟨w.heap.size+1,0,none⟩) 1 1) 1 [.string s]:=by
 have h:=df (base:=w.heap.size) (e:=t) (size:=1) (w.alloc O) #[.string s] 1 (by simp) (by decide) rfl;rw[vW] at h;exact h
theorem FU(w:World)(O:Obj)(t:TypeId)(s:BY):∀(j:Nat) (u:Value),[Value.string s][j]?=some u->((w.alloc O).alloc (.cells #[.string s] t)).drew.cell? ((⟨w.heap.size+1,0,none⟩:Addr).add j)=some u:=
 λj u h=>(BR w O t s).cells (g:=w.heap.size+1) rfl j u h
def Km(w:World)(R:Option (List BY))(e:Ending)(w':World):Prop:=
 ∃lv,e = .returned (.tuple #[lv,.bool R.isSome])/\Below w.heap.size w w'/\w'.ownsRow w.heap.size 9 1 lv (R.getD []).length (Ref.strCells (R.getD []))
theorem Dj(k:Int)(base b gg cap:Nat)(p:List Ref.Node)(w:World)(h:Zo w base b gg cap p)(hk:k<p.length)(d1:-1<=k) :
  Calls prog 207 #[.pointer (some ⟨b,0,none⟩),.int .i64 k] w (Km w (Ref.qM p k)):=by
 obtain⟨R,q⟩:=Nm (Ref.qM p k);rw[q];unfold Ref.qM at q
 by_cases hneg:k<0
 ·rw[zb hneg] at q;subst q;go_enter func207,ntmps207
  go_wp2
  go_ret2;exact⟨_,rfl,ze _ _,ql _ _ _ _⟩
 rw[za hneg] at q;obtain⟨i,rfl⟩:∃i:Nat,k=i:=⟨k.toNat,by omega⟩;have y:i<p.length:=by omega
 simp only[jU,zm y] at q;have P:=zm y;obtain⟨v,a1,a2,a3,X,K,L⟩:=h.node i _ P;have D:=h.small i _ P;obtain⟨n,Q⟩:=Nm (p[i]);rw[Q] at q P a1 a2 K L D;obtain⟨v1,v2⟩:=v;simp only at a3 X K L;have S:=h.slice;obtain⟨nl,A⟩:=Nm p.length;have hlen:=h.len;rw[A] at S y hk hlen;obtain⟨kind,text,ss,ks⟩:=n;simp only at q a1 a2 a3 X K L D;obtain⟨ka,kc,E,cK⟩:=vw L;obtain⟨na,nc,rfl,_⟩:=vw K;obtain⟨l,z⟩:=Nm ks.length;rw[z] at E cK D q;rw[E] at X;have CK:=hid cK;have HH:=hid h;have F:=hid q;have G:=hid z;have HN:=hid P;have H:=hid A;have i0:(0:Int)<=(i:Int):=qz _;have i1:(i:Int)<(nl:Int):=by omega
 clear h q Q P A z K L cK d1 hk E;go_enter func207,ntmps207
 by_cases h3:kind=3
 ·have o:=F.out;rw[zb h3] at o;subst o;subst h3
  go_wp2
  go_ret2;exact⟨_,rfl,(nbl _ _).alloc (by simp) _,BR _ _ _ _⟩
 have f4:(kind==3)=false:=by simp[h3]
 have o:=F.out;rw[za h3] at o
 by_cases h2:kind≠2
 ·rw[zb (.inl h2)] at o;subst o;have f3:(kind != 2)=true:=by simp[h2]
  clear F
  go_wp2
  go_ret2;exact⟨_,rfl,nbl _ _,ql _ _ _ _⟩
 rw[Ne,U6] at h2;subst h2
 by_cases hk1:l<1
 ·rw[zb (.inr (.inl hk1))] at o;subst o;have N:decide ((l:Int)<1)=true:=by simp;omega
  clear F
  go_wp2
  go_ret2;exact⟨_,rfl,nbl _ _,ql _ _ _ _⟩
 by_cases hk10:10<l
 ·rw[zb (.inr (.inr hk10))] at o;subst o;have N:decide ((l:Int)<1)=false:=by simp;omega
  have d2:decide (10<(l:Int))=true:=by simp;omega
  clear F
  go_wp2
  go_ret2;exact⟨_,rfl,nbl _ _,ql _ _ _ _⟩
 rw[za (by omega)] at o;have I:=hid o;have N:decide ((l:Int)<1)=false:=by simp;omega
 have d2:decide (10<(l:Int))=false:=by simp;omega
 clear o F;obtain⟨i0,hi,d4,d5,d6⟩:=xA Tryz.infoStr;go_wp2_with fail
 go_loopw [7,8] (λlv jv wr=>∃(j:Nat) (done:List BY),j<=l/\jv = .int .i64 j/\done.length=j/\R=(Ref.uo p (ks.drop j)).map (λb=>done++b)/\wr.ownsRow (w.heap.size+1) 9 1 lv done.length (Ref.strCells done) /\
   vC w wr #[.int .i64 2,.string text,.slice na ss.length nc,.slice ka l kc] 152) (λ_ jv _=>l-(intOf jv).toNat)
 case atStart=>exact⟨0,[],by omega,rfl,rfl,by rw[<- I.out];simp,ql _ _ _ _,vC.start _ _ _⟩
 case round=>
  obtain⟨j,done,hj,rfl,d0,M,f,a⟩:=hrel;have m:=hid M;have c3:wr.cell? ⟨w.heap.size,3,none⟩=some (.slice ka l kc):=a.cell 3;have C:=HH.out.below a.2;have J:=hid C;have W:=hid a;have f5:w.heap.size<wr.heap.size:=zt a.1;have s2:=C.slice;rw[H.out] at s2;clear M a C I a1 a2 a3 X S
  by_cases hlt:j<l
  ·obtain⟨g,rfl,q1⟩:=CK.out j hlt;have U:j<ks.length:=by rw[G.out];exact hlt
   rw[yt,Ref.UC ks j U] at q1;have d:=J.out.kid HN.out j U;simp only at d;obtain⟨c,hc⟩:=Nm (ks[j]);rw[hc] at q1 d;have q2:=W.out.old q1;have hx:=zm d;obtain⟨⟨v1,v2⟩,Y,Z,b3,b4,b5,b6⟩:=J.out.node c _ hx;obtain⟨x,T⟩:=Nm (p[c]);rw[T] at hx Y Z b5 b6;simp only at b3 b4 b5 b6;obtain⟨g0,g2,rfl,_⟩:=vw b5;obtain⟨f7,f8,rfl,_⟩:=vw b6;obtain⟨xk,V,xs,e2⟩:=x;simp only at Y Z b3 b4;rw[H.out] at d;have k0:(0:Int)<=(c:Int):=qz _;have k1:(c:Int)<(nl:Int):=by omega
   have HX:Hid (p[ks[j]]?=some ⟨xk,V,xs,e2⟩):=by rw[hc];exact hx
   have L1:=hid U;clear q1 hx T hc b5 b6;have d8:=λO:Obj=>zh (nbl wr O) q2;have e0:=λO:Obj=>zh (nbl wr O) s2;have c7:=λO:Obj=>zh (nbl wr O) c3;have c2:=λO:Obj=>zh (nbl wr O) Y;have c4:=λO:Obj=>zh (nbl wr O) Z;have c5:=λO:Obj=>zh (nbl wr O) b3;have c6:=λO:Obj=>zh (nbl wr O) b4
   by_cases hx3:xk=3
   ·subst hx3;have e:=hid (Ref.zcb p ks j U _ HX.out rfl done R m.out);clear m;go_wp2_with fail
    go_region
    go_wp2_with (at_builtin;refine vS _ rfl _ _ 42 rfl (w.heap.size+1) 9 i0 (.string ⟨#[]⟩) 1 16 underlying42 hi d4 d5 d6 rfl (by decide) _ done.length (Ref.strCells done) rfl ((f.alloc _).alloc _) ⟨wr.heap.size+1,0,none⟩ 1 1 [.string V] rfl rfl ?_ ?_ ?_ ?_ ?_ ?_)
    ·exact FU _ _ _ _
    ·intro u hu;simp at hu;subst hu;rfl
    ·unfold maxLen;omega
    ·omega
    ·simp;omega
    ·intro v' w1 t s _;have d3:=hid (W.out.grown2 f _ _ s);have B:w1.ownsRow (w.heap.size+1) 9 1 v' (done++[V]).length (Ref.strCells (done++[V])):=by rw[Ref.CZ,qB,d0];exact t
     clear t s f d8 e0 c7 c2 c4 c5 c6 q2 s2 c3 Y Z b3 b4
     go_wp2
     go_roundw
     case rel=>exact⟨j+1,done++[V],by omega,by go_num,by simp;omega,e.out,B,d3.out⟩
     case measure=>simp[intOf];omega
   ·have r:=Ref.zcc p ks j U _ HX.out hx3 done R m.out;subst r;have f6:(xk != 3)=true:=by simp[hx3]
    clear m;go_wp2_with fail
    go_region
    all_goals
     go_wp2
     go_ret2;exact⟨_,rfl,(W.out.2.alloc (by omega) _).drew,ql _ _ _ _⟩
  ·have r:=Ref.zca p ks j (by rw[G.out];exact hlt) done R m.out;subst r;clear m
   go_wp2
   go_ret2;exact⟨_,rfl,W.out.2,xC f (by omega)⟩
def qf(w:World)(a:Nat)(sh pt:Bool):Prop:=w.heap[a]?=some (.cells #[.bool sh,.bool pt] 162 (0,0))
theorem qf.cell{w:World}{a:Nat}{sh pt:Bool}(h:qf w a sh pt):w.cell? ⟨a,0,none⟩=some (.bool sh)/\w.cell? ⟨a,1,none⟩=some (.bool pt)/\w.frozen? ⟨a,0,none⟩=false/\w.frozen? ⟨a,1,none⟩=false:=
 ⟨(zg h 0).1,(zg h 1).1,(zg h 0).2,(zg h 1).2⟩
theorem qf.shape{w:World}{a:Nat}{sh pt:Bool}(h:qf w a sh pt)(x:Bool):qf (w.setCell ⟨a,0,none⟩ (.bool x)) a x pt:=yF w a 0 _ _ _ h
theorem qf.pat{w:World}{a:Nat}{sh pt:Bool}(h:qf w a sh pt)(x:Bool):qf (w.setCell ⟨a,1,none⟩ (.bool x)) a sh x:=yF w a 1 _ _ _ h
theorem qf.below{w w':World}{a:Nat}{sh pt:Bool}(h:qf w a sh pt)(hb:Below w.heap.size w w'):qf w' a sh pt:=(hb.block a (zt h)).trans h
theorem But.trans{a b c:World}{r:Option Nat}(h:a.grownBy b r)(k:b.grownBy c r):a.grownBy c r:=
 ⟨k.os.trans h.os,k.tape.trans h.tape,k.output.trans h.output,xu h.size k.size,λi hi d=>(k.block i (xS hi h.size) d).trans (h.block i hi d)⟩
theorem But.of{a b:World}(r:Option Nat)(h:Below a.heap.size a b):a.grownBy b r:=⟨h.os,h.tape,h.output,h.size,λi hi _=>h.block i hi⟩
theorem But.set(a:World)(b o:Nat)(u:Value):a.grownBy (a.setCell ⟨b,o,none⟩ u) (some b):=
 ⟨rfl,rfl,rfl,by simp[World.setCell],λi _ c=>qd _ _ _ _ (λe=>c (by simp only at e;rw[e]))⟩
theorem But.below{a b:World}{c B:Nat}(h:a.grownBy b (some c))(d:B<=a.heap.size)(f:B<=c):Below B a b:=
 ⟨h.os,h.tape,h.output,h.size,λi hi=>h.block i (by omega) (λe=>by simp only[Option.some.injEq] at e;omega)⟩
theorem WB(s:BY)(w:World)(a:s.size<=maxLen)(h:60<s.size) :
  Calls prog 176 #[.string s] w λe w'=>e = .returned (.tuple #[.slice none 0 0,.bool false])/\w'=w:=by
 unfold maxLen at a;go_enter func176,ntmps176
 go_wp2
 go_ret2;exact⟨rfl,rfl⟩
theorem ax(s:BY)(w:World)(c:s.size<=12000)(x:Bool)(b:Ref.qi s=x) :
  Calls prog 176 #[.string s] w λe w'=>∃v,e = .returned (.tuple #[v,.bool x])/\Below w.heap.size w w':=by
 subst b;unfold Ref.qi
 by_cases h:60<s.size
 ·have a:(Ref.parts s).isSome=false:=by unfold Ref.parts;rw[zb h];rfl
  rw[a];refine (WB s w (by unfold maxLen;omega) h).mono ?_;rintro e w' ⟨rfl,rfl⟩;exact⟨_,rfl,ze _ _⟩
 ·refine (Bd s w (by omega)).mono ?_;rintro e w' ⟨v,rfl,hb,_⟩;exact⟨v,rfl,hb⟩
def Kj(w:World)(a:Nat)(sh pt:Bool)(R:Option (List BY))(e:Ending)(w':World):Prop:=
 ∃lv,e = .returned lv/\w.grownBy w' (some a)/\qf w' a (sh || !R.isSome) (pt || !((R.getD []).all Ref.qi))/\w'.ownsRow w.heap.size 9 1 lv (R.getD []).length (Ref.strCells (R.getD []))
theorem jR{w:World}{base:Nat}{lv:Value}{l:List BY}(h:w.ownsRow base 9 1 lv l.length (Ref.strCells l)):∃a c,lv = .slice a l.length c:=by
 obtain⟨a,c,e,_⟩:=vw h;exact⟨a,c,e⟩
theorem Bi(k:Int)(base b X cap:Nat)(t:List Ref.Node)(m:Nat)(sh pt:Bool)(w:World)(h:Zo w base b X cap t)(hk:k<t.length)(a0:-1<=k)(Z:qf w m sh pt) :
  Calls prog 165 #[.pointer (some ⟨b,0,none⟩),.int .i64 k,.pointer (some ⟨m,0,none⟩)] w (Kj w m sh pt (Ref.qM t k)):=by
 have f:∀s ∈ (Ref.qM t k).getD [],s.size<=12000:=by
  cases e:Ref.qM t k with
  | none=>simp
  | some l=>exact Ref.Di t 12000 (λi n hi=>(h.small i n hi).2.2) k l e
 have hlen:((Ref.qM t k).getD []).length<=10:=by
  cases e:Ref.qM t k with
  | none=>simp
  | some l=>exact Ref.Dh t k l e
 obtain⟨R,Y⟩:=Nm (Ref.qM t k)
 have HS:Hid (∀w,Zo w base b X cap t->Calls prog 207 #[.pointer (some ⟨b,0,none⟩),.int .i64 k] w (Km w R)):=by
  intro w h;rw[<- Y];exact Dj k base b X cap t w h hk a0
 rw[Y] at f hlen |-;have HH:=hid h;have HF:=hid Z;have N:=hid f;have K:m<w.heap.size:=zt Z;clear h Z Y f;go_enter func165,ntmps165;go_wp2_with fail;refine (HS.out _ HH.out).mono ?_;rintro e w1 ⟨lv,rfl,J,d⟩;have f1:=HF.out.below J;obtain⟨c0,c1,c2,c3⟩:=f1.cell;have F1:=hid f1;have B1:=hid J;obtain⟨l,hl⟩:=Nm (R.getD []);rw[hl] at d hlen;obtain⟨V,W,rfl⟩:=jR d;have r:=hid hl;have Q:=hid d;obtain⟨x,hx⟩:=Nm R.isSome;have O:=hid hx;rw[hx];clear f1 J hl d hx HS HH
 cases x with
 | true=>
  obtain⟨H,o⟩:∃y,(sh || !true)=y:=⟨_,rfl⟩
  have a:Hid (qf w1 m H pt/\w.grownBy w1 (some m)/\w1.ownsRow w.heap.size 9 1 (.slice V l.length W) l.length (Ref.strCells l)):=by
   refine⟨?_,But.of _ B1.out,Q.out⟩;rw[<- o];simpa using F1.out
  have D:=hid o;clear o;go_wp2_with fail
  go_loopw [9] (λM wr=>∃(j:Nat),j<=l.length/\M = .int .i64 j/\qf wr m H (pt || !((l.take j).all Ref.qi))/\w.grownBy wr (some m)/\wr.ownsRow w.heap.size 9 1 (.slice V l.length W) l.length (Ref.strCells l)) (λM _=>l.length-(intOf M).toNat)
  case atStart=>exact⟨0,zH _,rfl,by simpa using a.out.1,a.out.2.1,a.out.2.2⟩
  case round=>
   obtain⟨j,hj,rfl,rf,T,U⟩:=hrel;obtain⟨P,I⟩:=Nm ((pt || !((l.take j).all Ref.qi)));rw[I] at rf;obtain⟨a6,a7,a8,a9⟩:=rf.cell;have A:=hid rf;have G:=hid T;have B:=hid U;have u:=hid I;clear rf T U I a
   by_cases hlt:j<l.length
   ·obtain⟨a3,a4,z,p⟩:=vw B.out;simp only[Value.slice.injEq,Q8] at z;obtain⟨rfl,rfl⟩:=z;obtain⟨g,rfl,S⟩:=p j hlt;rw[Ref.JE l j hlt] at S;have q:=N.out l[j] (by rw[r.out];exact qA hlt);have e:=Ref.Bh l pt j hlt;rw[u.out] at e;obtain⟨s,L⟩:=Nm (l[j]);rw[L] at S q e
    cases hy:Ref.qi s with
    | true=>
     rw[hy] at e;simp only[U4,Zl] at e;have E:=hid e;have F:=hid hy;clear p L e hy
     go_wp2_with (go_at_call 176;refine (ax s _ q true F.out).mono ?_;rintro e w2 ⟨pv,rfl,c⟩)
     go_roundw
     case rel=>exact⟨j+1,by omega,by go_num,by rw[E.out];exact A.out.below c,But.trans G.out (But.of _ c),ownsRow_below B.out c⟩
     case measure=>simp[intOf];omega
    | false=>
     rw[hy] at e;simp only[U3,Bool.or_true] at e;have E:=hid e;have F:=hid hy;clear p L e hy
     go_wp2_with (go_at_call 176;refine (ax s _ q false F.out).mono ?_;rintro e w2 ⟨pv,rfl,c⟩;obtain⟨b0,b1,b2,b3⟩:=(A.out.below c).cell)
     go_roundw
     case rel=>exact⟨j+1,by omega,by go_num,by rw[E.out];exact (A.out.below c).pat true,But.trans (But.trans G.out (But.of _ c)) (But.set _ _ _ _),au (ownsRow_below B.out c) K _⟩
     case measure=>simp[intOf];omega
   ·have e:=Ref.Bg l pt j hlt;rw[u.out] at e;have v:(qf wr m H (pt || !((R.getD []).all Ref.qi))):=by rw[r.out,<- e];exact A.out
    have C:=hid v;clear e v
    go_wp2
    go_ret;exact⟨_,rfl,G.out,by rw[O.out,D.out];exact C.out,by rw[r.out];exact B.out⟩
 | false=>
  obtain⟨H,o⟩:∃y,(sh || !false)=y:=⟨_,rfl⟩
  have a:Hid (qf (w1.setCell ⟨m,0,none⟩ (.bool true)) m H pt/\w.grownBy (w1.setCell ⟨m,0,none⟩ (.bool true)) (some m)/\(w1.setCell ⟨m,0,none⟩ (.bool true)).ownsRow w.heap.size 9 1 (.slice V l.length W) l.length (Ref.strCells l)):=by
   refine⟨?_,But.trans (But.of _ B1.out) (But.set _ _ _ _),au Q.out K _⟩;rw[<- o];simpa using F1.out.shape true
  have D:=hid o;clear o;go_wp2_with fail
  go_loopw [9] (λM wr=>∃(j:Nat),j<=l.length/\M = .int .i64 j/\qf wr m H (pt || !((l.take j).all Ref.qi))/\w.grownBy wr (some m)/\wr.ownsRow w.heap.size 9 1 (.slice V l.length W) l.length (Ref.strCells l)) (λM _=>l.length-(intOf M).toNat)
  case atStart=>exact⟨0,zH _,rfl,by simpa using a.out.1,a.out.2.1,a.out.2.2⟩
  case round=>
   obtain⟨j,hj,rfl,rf,T,U⟩:=hrel;obtain⟨P,I⟩:=Nm ((pt || !((l.take j).all Ref.qi)));rw[I] at rf;obtain⟨a6,a7,a8,a9⟩:=rf.cell;have A:=hid rf;have G:=hid T;have B:=hid U;have u:=hid I;clear rf T U I a
   by_cases hlt:j<l.length
   ·obtain⟨a3,a4,z,p⟩:=vw B.out;simp only[Value.slice.injEq,Q8] at z;obtain⟨rfl,rfl⟩:=z;obtain⟨g,rfl,S⟩:=p j hlt;rw[Ref.JE l j hlt] at S;have q:=N.out l[j] (by rw[r.out];exact qA hlt);have e:=Ref.Bh l pt j hlt;rw[u.out] at e;obtain⟨s,L⟩:=Nm (l[j]);rw[L] at S q e
    cases hy:Ref.qi s with
    | true=>
     rw[hy] at e;simp only[U4,Zl] at e;have E:=hid e;have F:=hid hy;clear p L e hy
     go_wp2_with (go_at_call 176;refine (ax s _ q true F.out).mono ?_;rintro e w2 ⟨pv,rfl,c⟩)
     go_roundw
     case rel=>exact⟨j+1,by omega,by go_num,by rw[E.out];exact A.out.below c,But.trans G.out (But.of _ c),ownsRow_below B.out c⟩
     case measure=>simp[intOf];omega
    | false=>
     rw[hy] at e;simp only[U3,Bool.or_true] at e;have E:=hid e;have F:=hid hy;clear p L e hy
     go_wp2_with (go_at_call 176;refine (ax s _ q false F.out).mono ?_;rintro e w2 ⟨pv,rfl,c⟩;obtain⟨b0,b1,b2,b3⟩:=(A.out.below c).cell)
     go_roundw
     case rel=>exact⟨j+1,by omega,by go_num,by rw[E.out];exact (A.out.below c).pat true,But.trans (But.trans G.out (But.of _ c)) (But.set _ _ _ _),au (ownsRow_below B.out c) K _⟩
     case measure=>simp[intOf];omega
   ·have e:=Ref.Bg l pt j hlt;rw[u.out] at e;have v:(qf wr m H (pt || !((R.getD []).all Ref.qi))):=by rw[r.out,<- e];exact A.out
    have C:=hid v;clear e v
    go_wp2
    go_ret;exact⟨_,rfl,G.out,by rw[O.out,D.out];exact C.out,by rw[r.out];exact B.out⟩
end Go.Proofs.YtdakgnaojakldaaGreatDoor
