/- P -/
import Derived.Test.YtagnlbgbnfnapaaGreatDoorK36
open Go.Proofs.Tryz
set_option maxRecDepth 100000
set_option maxHeartbeats 1000000
namespace Go.Proofs.YtagnlbgbnfnapaaGreatDoor
open Go.RowKit
def ZR(n:Ref.Node)(v:Value×Value):Value := .agg #[.int .i64 n.kind,.string n.text,v.1,v.2]
theorem yU{w:World}{base:Nat}{e:TypeId}{v:Value}{n:Nat}{xs:List Value}(h:w.ownsRow base e 1 v n xs):∃a c,v = .slice a n c/\∀k,k<n->∃g,a=some ⟨g,0,none⟩/\w.cell? ⟨g,k,none⟩=xs[k]?:=by
 rcases h.2 with ⟨rfl,rfl⟩|⟨g,c,cur,rfl,_⟩
 ·exact⟨_,_,rfl,λk b=>by omega⟩
 ·exact⟨_,_,rfl,λk b=>⟨g,rfl,h.cellAt k (by omega)⟩⟩
def jJ(w wr:World)(cs:Array Value)(t:TypeId):Prop:=wr.heap[w.heap.size]?=some (.cells cs t (0,0))/\Below w.heap.size w wr
theorem jJ.start(w:World)(cs:Array Value)(t:TypeId):jJ w (w.alloc (.cells cs t)) cs t:=⟨zQ w _,nbl _ _⟩
theorem jJ.drew{w wr:World}{cs:Array Value}{t:TypeId}(h:jJ w wr cs t):jJ w wr.drew cs t:=⟨h.1,h.2.drew⟩
theorem jJ.cell{w wr:World}{cs:Array Value}{t:TypeId}(h:jJ w wr cs t)(k:Nat):wr.cell? ⟨w.heap.size,k,none⟩=cs[k]?:=(zg h.1 k).1
theorem jJ.old{w wr:World}{cs:Array Value}{t:TypeId}(h:jJ w wr cs t){p:Addr}{v:Value}(a:w.cell? p=some v):wr.cell? p=some v:=zi h.2 a
theorem FW(n:Ref.Node)(v:Value×Value)(name:BY)(base:Nat)(w:World)(B:w.ownsRow base 9 1 v.1 n.names.length (Ref.strCells n.names))(A:w.ownsRow base 3 1 v.2 n.kids.length (xY n.kids))
  (C:n.names.length<=n.kids.length)(G:n.kids.length<=4000) :
  Calls prog 126 #[ZR n v,.string name] w λe w'=>e = .returned (.int .i64 (Ref.zq n name))/\Below w.heap.size w w':=by
 obtain⟨P,o⟩:=Nm (Ref.zq n name);rw[o];obtain⟨kind,text,d,ks⟩:=n;unfold Ref.zq at o;simp only at o B A C G;obtain⟨M,N,p,z⟩:=yU B;obtain⟨H,I,q,y⟩:=yU A;unfold ZR;rw[p,q];simp only;obtain⟨r,c⟩:∃k,d.length=k:=⟨_,rfl⟩;obtain⟨J,b⟩:∃k,ks.length=k:=⟨_,rfl⟩;rw[c] at z C;rw[b] at y C G;rw[c,b];have S:=hid o;have Q:=hid z;have O:=hid y;have m:=hid c;have x:=hid b;clear o B A p q z y c b;go_enter func126,ntmps126;go_wp2_with fail
 go_loopw [5] (λi wr=>∃k:Nat,k<=r/\i = .int .i64 k/\P=Ref.jB (d.drop k) (ks.drop k) name/\jJ w wr #[.int .i64 kind,.string text,.slice M r N,.slice H J I] 241) (λi _=>r-(intOf i).toNat)
 case atStart=>exact⟨0,zG _,rfl,by rw[<- S.out];rfl,jJ.start _ _ _⟩
 case round=>
  obtain⟨k,U,rfl,hb,a⟩:=hrel;have u:=hid hb;have c2:wr.cell? ⟨w.heap.size,2,none⟩=some (.slice M r N):=a.cell 2;have c3:wr.cell? ⟨w.heap.size,3,none⟩=some (.slice H J I):=a.cell 3;have l:=hid a;clear hb a
  by_cases hlt:k<r
  ·obtain⟨g,rfl,t⟩:=Q.out k hlt;obtain⟨T,rfl,q2⟩:=O.out k (by omega);have K:k<d.length:=by rw[m.out];exact hlt
   have L:k<ks.length:=by rw[x.out];omega
   rw[Ref.XD d k K] at t;rw[xY,Ref.J5 ks k L] at q2;obtain⟨s,h⟩:=Nm (d[k]);obtain⟨j,f⟩:∃s,ks[k]=s:=⟨_,rfl⟩;rw[h] at t;rw[f] at q2;have D:=hid h;have R:=hid f;have E:=hid K;have F:=hid L;have V:=l.out.old t;have W:=l.out.old q2;clear h f t q2
   cases heq:(s.toList==name.toList) with
   | true=>
    have e:=Ref.FQ d ks name k E.out F.out (by rw[D.out];exact heq);rw[<- u.out,R.out] at e;subst e
    go_wp2
    go_ret;exact⟨rfl,l.out.2⟩
   | false=>
    have e:=Ref.FR d ks name k E.out F.out (by rw[D.out];exact heq)
    go_wp2
    go_roundw
    case rel=>exact⟨k+1,by omega,by go_num,u.out.trans e,l.out⟩
    case measure=>simp[intOf];omega
  ·have e:=Ref.FP d ks name k (by rw[m.out];exact hlt);rw[<- u.out] at e;subst e
   go_wp2
   go_ret;exact⟨rfl,l.out.2⟩
theorem oH(n:Ref.Node)(v:Value×Value)(ts:List BY)(X:Value)(base l:Nat)(w:World)(I:w.ownsRow base 9 1 v.1 n.names.length (Ref.strCells n.names))(S:w.ownsRow l 9 1 X ts.length (Ref.strCells ts))
  (T:n.names.length<=4000)(hs:ts.length<=4000) :
  Calls prog 168 #[ZR n v,X] w λe w'=>e = .returned (.bool (Ref.yB n ts))/\Below w.heap.size w w':=by
 obtain⟨P,u⟩:=Nm (Ref.yB n ts);rw[u];obtain⟨kind,text,h,ks⟩:=n;unfold Ref.yB at u;simp only at u I T;obtain⟨W,D,z,G⟩:=yU I;obtain⟨ta,tc,A,H⟩:=yU S;unfold ZR;rw[z,A];simp only;obtain⟨Y,f⟩:∃x,v.2=x:=⟨_,rfl⟩;rw[f];obtain⟨p,c⟩:∃k,h.length=k:=⟨_,rfl⟩;obtain⟨L,d⟩:∃k,ts.length=k:=⟨_,rfl⟩;rw[c] at G T;rw[d] at H hs;rw[c,d];have N:=hid u;have Z:=hid G;have CT:=hid H;have q:=hid c;have r:=hid d;clear u I S z A f G H c d;go_enter func168,ntmps168;go_wp2_with fail
 go_loopw [5] (λi wr=>∃k:Nat,k<=p/\i = .int .i64 k/\((h.take k).all (λs=>ts.any λt=>t.toList==s.toList))=true/\jJ w wr #[.int .i64 kind,.string text,.slice W p D,Y] 241) (λi _=>p-(intOf i).toNat)
 case atStart=>exact⟨0,zG _,rfl,by simp,jJ.start _ _ _⟩
 case round=>
  obtain⟨k,hk,rfl,hb,a⟩:=hrel;have M:=hid hb;have c2:wr.cell? ⟨w.heap.size,2,none⟩=some (.slice W p D):=a.cell 2;have c0:wr.cell? ⟨w.heap.size,0,none⟩=some (.int .i64 kind):=a.cell 0;have E:=hid a;clear hb a
  by_cases hlt:k<p
  ·obtain⟨g,rfl,B⟩:=Z.out k hlt;have V:k<h.length:=by rw[q.out];exact hlt
   rw[Ref.XD h k V] at B;obtain⟨s,m⟩:=Nm (h[k]);rw[m] at B;have O:=hid m;have R:=hid V;have q3:=E.out.old B;have Q1:=hid B;clear m B;go_wp2_with fail
   go_loopw [6,7] (λfv J wx=>∃(j:Nat) (x:Bool),j<=L/\J = .int .i64 j/\fv = .bool x/\(x=(ts.take j).any λt=>t.toList==s.toList)/\jJ w wx #[.int .i64 kind,.string text,.slice (some ⟨g,0,none⟩) p D,Y] 241) (λ_ J _=>L-(intOf J).toNat)
   case atStart=>exact⟨0,false,zG _,rfl,rfl,by simp,E.out⟩
   case round=>
    obtain⟨j,x,hj,rfl,rfl,U,a⟩:=hrel;have F:=hid U;have b:=hid a;have q5:=b.out.old Q1.out;have d2:wr.cell? ⟨w.heap.size,2,none⟩=some (.slice (some ⟨g,0,none⟩) p D):=a.cell 2;clear U c2 c0 q3 a
    by_cases hjt:j<L
    ·obtain⟨g2,rfl,q2⟩:=CT.out j hjt;have K:j<ts.length:=by rw[r.out];exact hjt
     rw[Ref.XD ts j K] at q2;obtain⟨t,o⟩:∃s,ts[j]=s:=⟨_,rfl⟩;rw[o] at q2;have Q:=hid o;have q4:=b.out.old q2;clear o q2
     cases heq:(t.toList==s.toList) with
     | true=>
      have e:=hid (Ref.gy ts s j K x F.out true (by rw[Q.out];exact heq))
      cases x with
      | true=>
       go_wp2_with fail
       go_region
       all_goals
        go_wp2
        go_roundw
        case rel=>exact⟨j+1,true,by omega,by go_num,rfl,e.out,b.out.drew⟩
        case measure=>simp[intOf];omega
      | false=>
       go_wp2_with fail
       go_region
       all_goals
        go_wp2
        go_roundw
        case rel=>exact⟨j+1,true,by omega,by go_num,rfl,e.out,b.out.drew⟩
        case measure=>simp[intOf];omega
     | false=>
      have e:=hid (Ref.gy ts s j K x F.out false (by rw[Q.out];exact heq))
      cases x with
      | true=>
       go_wp2_with fail
       go_region
       all_goals
        go_wp2
        go_roundw
        case rel=>exact⟨j+1,true,by omega,by go_num,rfl,e.out,b.out.drew⟩
        case measure=>simp[intOf];omega
      | false=>
       go_wp2_with fail
       go_region
       all_goals
        go_wp2
        go_roundw
        case rel=>exact⟨j+1,false,by omega,by go_num,rfl,e.out,b.out.drew⟩
        case measure=>simp[intOf];omega
    ·have e:=hid (Ref.wX ts s j (by rw[r.out];exact hjt) x F.out)
     cases x with
     | true=>
      have C:=hid (Ref.gp h (λs=>ts.any λt=>t.toList==s.toList) k R.out M.out (by rw[O.out];exact e.out))
      go_wp2
      go_roundw
      case rel=>exact⟨k+1,by omega,by go_num,C.out,b.out⟩
      case measure=>simp[intOf];omega
     | false=>
      have C:=Ref.gq h (λs=>ts.any λt=>t.toList==s.toList) k R.out (by rw[O.out];exact e.out);have y:=N.out;rw[C,Yt] at y;subst y;clear C
      go_wp2
      go_ret;exact⟨rfl,b.out.2⟩
  ·have e:=Ref.gm h (λs=>ts.any λt=>t.toList==s.toList) k (by rw[q.out];exact hlt) M.out;have y:=N.out;rw[e,Z0] at y;subst y;clear e
   go_wp2
   go_ret;exact⟨rfl,E.out.2⟩
structure uH (w:World) (base b gg cap:Nat) (ns:List Ref.Node):Prop where
 lt:b<w.heap.size/\gg<w.heap.size
 slice:w.cell? ⟨b,2,none⟩=some (.slice (some ⟨gg,0,none⟩) ns.length cap)
 node:∀(i:Nat) (n:Ref.Node),ns[i]?=some n->∃v:Value×Value,w.cell? ⟨gg,i*4,none⟩=some (.int .i64 n.kind)/\w.cell? ⟨gg,i*4+1,none⟩=some (.string n.text)/\w.cell? ⟨gg,i*4+2,none⟩=some v.1/\w.cell? ⟨gg,i*4+3,none⟩=some v.2 /\
  w.ownsRow base 9 1 v.1 n.names.length (Ref.strCells n.names)/\w.ownsRow base 3 1 v.2 n.kids.length (xY n.kids)
 ev:Ref.Ev ns
 len:ns.length<=4000
 small:∀(i:Nat) (n:Ref.Node),ns[i]?=some n->n.kids.length<=4000/\n.names.length<=4000/\n.text.size<=12000
theorem uH.below{w w':World}{base b a cap:Nat}{ns:List Ref.Node}(h:uH w base b a cap ns)(hb:Below w.heap.size w w'):uH w' base b a cap ns:=by
 have k:=hb.size;refine⟨⟨by have:=h.lt.1;omega,by have:=h.lt.2;omega⟩,zi hb h.slice,λi n hi=>?_,h.ev,h.len,h.small⟩;obtain⟨v,c,d,e,f,g,j⟩:=h.node i n hi;exact⟨v,zi hb c,zi hb d,zi hb e,zi hb f,ownsRow_below g hb,ownsRow_below j hb⟩
theorem uH.kid{w:World}{base b a cap:Nat}{ns:List Ref.Node}(h:uH w base b a cap ns){i:Nat}{n:Ref.Node}(hi:ns[i]?=some n)(j:Nat)(c:j<n.kids.length):n.kids[j]<ns.length:=(h.ev i n hi).1 _ (xB c)
theorem jJ.grown2{w wr w1:World}{cs:Array Value}{t e:TypeId}{size n:Nat}{v:Value}{xs:List Value}(h:jJ w wr cs t)(c:wr.ownsRow (w.heap.size+1) e size v n xs)(a b:Obj)(f:((wr.alloc a).alloc b).drew.grownBy w1 v.ownBlock):jJ w w1 cs t:=by
 have i:w.heap.size<wr.heap.size:=zy h.1;have d:Below (w.heap.size+1) wr w1:=(((zf _ wr).alloc (by omega) a).alloc (by simp;omega) b).drew.grown f (by simp;omega) (λk g=>(c.lt k g).1);exact⟨(d.block _ (by omega)).trans h.1,h.2.trans (d.mono (by omega))⟩
theorem rJ(w:World)(O:Obj)(t:TypeId)(s:BY):((w.alloc O).alloc (.cells #[.string s] t)).ownsRow w.heap.size t 1 (.slice (some ⟨w.heap.size+1,0,none⟩) 1 1) 1 [.string s]:=by
 have h:=VP (base:=w.heap.size) (e:=t) (size:=1) (w.alloc O) #[.string s] 1 (by simp) (by decide) rfl;rw[jT] at h;exact h
theorem Bd(w:World)(O:Obj)(t:TypeId)(s:BY):∀(j:Nat) (u:Value),[Value.string s][j]?=some u->((w.alloc O).alloc (.cells #[.string s] t)).drew.cell? ((⟨w.heap.size+1,0,none⟩:Addr).add j)=some u:=
 λj u h=>(rJ w O t s).cells (g:=w.heap.size+1) rfl j u h
def VN(w:World)(R:Option (List BY))(e:Ending)(w':World):Prop:=
 ∃lv,e = .returned (.tuple #[lv,.bool R.isSome])/\Below w.heap.size w w'/\w'.ownsRow w.heap.size 9 1 lv (R.getD []).length (Ref.strCells (R.getD []))
theorem sS(k:Int)(base b gg cap:Nat)(ns:List Ref.Node)(w:World)(h:uH w base b gg cap ns)(hk:k<ns.length)(d0:-1<=k) :
  Calls prog 238 #[.pointer (some ⟨b,0,none⟩),.int .i64 k] w (VN w (Ref.qK ns k)):=by
 obtain⟨R,p⟩:=Nm (Ref.qK ns k);rw[p];unfold Ref.qK at p
 by_cases hneg:k<0
 ·rw[zb hneg] at p;subst p;go_enter func238,ntmps238
  go_wp2
  go_ret2;exact⟨_,rfl,zf _ _,qD _ _ _ _⟩
 rw[za hneg] at p;obtain⟨i,rfl⟩:∃i:Nat,k=i:=⟨k.toNat,by omega⟩;have t:i<ns.length:=by omega
 simp only[xQ,zn t] at p;have N:=zn t;obtain⟨v,a1,a2,a3,W,J,K⟩:=h.node i _ N;have C:=h.small i _ N;obtain⟨n,P⟩:=Nm (ns[i]);rw[P] at p N a1 a2 J K C;obtain⟨v1,v2⟩:=v;simp only at a3 W J K;have Q:=h.slice;obtain⟨nl,z⟩:=Nm ns.length;have hlen:=h.len;rw[z] at Q t hk hlen;obtain⟨kind,text,ss,ks⟩:=n;simp only at p a1 a2 a3 W J K C;obtain⟨ka,kc,D,cK⟩:=yU K;obtain⟨na,nc,rfl,_⟩:=yU J;obtain⟨l,y⟩:=Nm ks.length;rw[y] at D cK C p;rw[D] at W;have CK:=hid cK;have HH:=hid h;have E:=hid p;have F:=hid y;have HN:=hid N;have G:=hid z;have i0:(0:Int)<=(i:Int):=zZ _;have i1:(i:Int)<(nl:Int):=by omega
 clear h p P N z y J K cK d0 hk D;go_enter func238,ntmps238
 by_cases h3:kind=3
 ·have o:=E.out;rw[zb h3] at o;subst o;subst h3
  go_wp2
  go_ret2;exact⟨_,rfl,(nbl _ _).alloc (by simp) _,rJ _ _ _ _⟩
 have f3:(kind==3)=false:=by simp[h3]
 have o:=E.out;rw[za h3] at o
 by_cases h2:kind≠2
 ·rw[zb (.inl h2)] at o;subst o;have f2:(kind != 2)=true:=by simp[h2]
  clear E
  go_wp2
  go_ret2;exact⟨_,rfl,nbl _ _,qD _ _ _ _⟩
 rw[Ne,Vw] at h2;subst h2
 by_cases hk1:l<1
 ·rw[zb (.inr (.inl hk1))] at o;subst o;have M:decide ((l:Int)<1)=true:=by simp;omega
  clear E
  go_wp2
  go_ret2;exact⟨_,rfl,nbl _ _,qD _ _ _ _⟩
 by_cases hk10:10<l
 ·rw[zb (.inr (.inr hk10))] at o;subst o;have M:decide ((l:Int)<1)=false:=by simp;omega
  have d1:decide (10<(l:Int))=true:=by simp;omega
  clear E
  go_wp2
  go_ret2;exact⟨_,rfl,nbl _ _,qD _ _ _ _⟩
 rw[za (by omega)] at o;have H:=hid o;have M:decide ((l:Int)<1)=false:=by simp;omega
 have d1:decide (10<(l:Int))=false:=by simp;omega
 clear o E;obtain⟨i0,hi,d3,d4,d5⟩:=qP Tryz.infoStr;go_wp2_with fail
 go_loopw [7,8] (λlv jv wr=>∃(j:Nat) (done:List BY),j<=l/\jv = .int .i64 j/\done.length=j/\R=(Ref.vg ns (ks.drop j)).map (λb=>done++b)/\wr.ownsRow (w.heap.size+1) 9 1 lv done.length (Ref.strCells done) /\
   jJ w wr #[.int .i64 2,.string text,.slice na ss.length nc,.slice ka l kc] 241) (λ_ jv _=>l-(intOf jv).toNat)
 case atStart=>exact⟨0,[],by omega,rfl,rfl,by rw[<- H.out];simp,qD _ _ _ _,jJ.start _ _ _⟩
 case round=>
  obtain⟨j,done,hj,rfl,c9,L,f,a⟩:=hrel;have m:=hid L;have c3:wr.cell? ⟨w.heap.size,3,none⟩=some (.slice ka l kc):=a.cell 3;have B:=HH.out.below a.2;have I:=hid B;have V:=hid a;have f4:w.heap.size<wr.heap.size:=zy a.1;have s2:=B.slice;rw[G.out] at s2;clear L a B H a1 a2 a3 W Q
  by_cases hlt:j<l
  ·obtain⟨g,rfl,q1⟩:=CK.out j hlt;have T:j<ks.length:=by rw[F.out];exact hlt
   rw[xY,Ref.J5 ks j T] at q1;have d:=I.out.kid HN.out j T;simp only at d;obtain⟨c,hc⟩:=Nm (ks[j]);rw[hc] at q1 d;have q2:=V.out.old q1;have hx:=zn d;obtain⟨⟨v1,v2⟩,X,Y,Z,b4,b5,b6⟩:=I.out.node c _ hx;obtain⟨x,S⟩:=Nm (ns[c]);rw[S] at hx X Y b5 b6;simp only at Z b4 b5 b6;obtain⟨f9,g1,rfl,_⟩:=yU b5;obtain⟨f6,f7,rfl,_⟩:=yU b6;obtain⟨xk,U,xs,e1⟩:=x;simp only at X Y Z b4;rw[G.out] at d;have k0:(0:Int)<=(c:Int):=zZ _;have k1:(c:Int)<(nl:Int):=by omega
   have HX:Hid (ns[ks[j]]?=some ⟨xk,U,xs,e1⟩):=by rw[hc];exact hx
   have L1:=hid T;clear q1 hx S hc b5 b6;have d7:=λO:Obj=>zi (nbl wr O) q2;have d9:=λO:Obj=>zi (nbl wr O) s2;have c6:=λO:Obj=>zi (nbl wr O) c3;have c1:=λO:Obj=>zi (nbl wr O) X;have c2:=λO:Obj=>zi (nbl wr O) Y;have c4:=λO:Obj=>zi (nbl wr O) Z;have c5:=λO:Obj=>zi (nbl wr O) b4
   by_cases hx3:xk=3
   ·subst hx3;have e:=hid (Ref.RI ns ks j T _ HX.out rfl done R m.out);clear m;go_wp2_with fail
    go_region
    go_wp2_with (at_builtin;refine yK _ rfl _ _ 48 rfl (w.heap.size+1) 9 i0 (.string ⟨#[]⟩) 1 16 underlying48 hi d3 d4 d5 rfl (by decide) _ done.length (Ref.strCells done) rfl ((f.alloc _).alloc _) ⟨wr.heap.size+1,0,none⟩ 1 1 [.string U] rfl rfl ?_ ?_ ?_ ?_ ?_ ?_)
    ·exact Bd _ _ _ _
    ·intro u hu;simp at hu;subst hu;rfl
    ·unfold maxLen;omega
    ·omega
    ·simp;omega
    ·intro v' w1 s r _;have d2:=hid (V.out.grown2 f _ _ r);have A:w1.ownsRow (w.heap.size+1) 9 1 v' (done++[U]).length (Ref.strCells (done++[U])):=by rw[Ref.Rt,qA,c9];exact s
     clear s r f d7 d9 c6 c1 c2 c4 c5 q2 s2 c3 X Y Z b4
     go_wp2
     go_roundw
     case rel=>exact⟨j+1,done++[U],by omega,by go_num,by simp;omega,e.out,A,d2.out⟩
     case measure=>simp[intOf];omega
   ·have q:=Ref.RJ ns ks j T _ HX.out hx3 done R m.out;subst q;have f5:(xk != 3)=true:=by simp[hx3]
    clear m;go_wp2_with fail
    go_region
    all_goals
     go_wp2
     go_ret2;exact⟨_,rfl,(V.out.2.alloc (by omega) _).drew,qD _ _ _ _⟩
  ·have q:=Ref.RH ns ks j (by rw[F.out];exact hlt) done R m.out;subst q;clear m
   go_wp2
   go_ret2;exact⟨_,rfl,V.out.2,xA f (by omega)⟩
def qd(w:World)(a:Nat)(sh pt:Bool):Prop:=w.heap[a]?=some (.cells #[.bool sh,.bool pt] 251 (0,0))
theorem qd.cell{w:World}{a:Nat}{sh pt:Bool}(h:qd w a sh pt):w.cell? ⟨a,0,none⟩=some (.bool sh)/\w.cell? ⟨a,1,none⟩=some (.bool pt)/\w.frozen? ⟨a,0,none⟩=false/\w.frozen? ⟨a,1,none⟩=false:=
 ⟨(zg h 0).1,(zg h 1).1,(zg h 0).2,(zg h 1).2⟩
theorem qd.shape{w:World}{a:Nat}{sh pt:Bool}(h:qd w a sh pt)(x:Bool):qd (w.setCell ⟨a,0,none⟩ (.bool x)) a x pt:=yz w a 0 _ _ _ h
theorem qd.pat{w:World}{a:Nat}{sh pt:Bool}(h:qd w a sh pt)(x:Bool):qd (w.setCell ⟨a,1,none⟩ (.bool x)) a sh x:=yz w a 1 _ _ _ h
theorem qd.below{w w':World}{a:Nat}{sh pt:Bool}(h:qd w a sh pt)(hb:Below w.heap.size w w'):qd w' a sh pt:=(hb.block a (zy h)).trans h
theorem But.trans{a b c:World}{r:Option Nat}(h:a.grownBy b r)(k:b.grownBy c r):a.grownBy c r:=
 ⟨k.os.trans h.os,k.tape.trans h.tape,k.output.trans h.output,qZ h.size k.size,λi hi d=>(k.block i (xM hi h.size) d).trans (h.block i hi d)⟩
theorem But.of{a b:World}(r:Option Nat)(h:Below a.heap.size a b):a.grownBy b r:=⟨h.os,h.tape,h.output,h.size,λi hi _=>h.block i hi⟩
theorem But.set(a:World)(b o:Nat)(u:Value):a.grownBy (a.setCell ⟨b,o,none⟩ u) (some b):=
 ⟨rfl,rfl,rfl,by simp[World.setCell],λi _ c=>qc _ _ _ _ (λe=>c (by simp only at e;rw[e]))⟩
theorem But.below{a b:World}{c B:Nat}(h:a.grownBy b (some c))(d:B<=a.heap.size)(f:B<=c):Below B a b:=
 ⟨h.os,h.tape,h.output,h.size,λi hi=>h.block i (by omega) (λe=>by simp only[Option.some.injEq] at e;omega)⟩
theorem Np(s:BY)(w:World)(a:s.size<=maxLen)(h:60<s.size) :
  Calls prog 120 #[.string s] w λe w'=>e = .returned (.tuple #[.slice none 0 0,.bool false])/\w'=w:=by
 unfold maxLen at a;go_enter func120,ntmps120
 go_wp2
 go_ret2;exact⟨rfl,rfl⟩
theorem UA(s:BY)(w:World)(c:s.size<=12000)(x:Bool)(b:Ref.qF s=x) :
  Calls prog 120 #[.string s] w λe w'=>∃v,e = .returned (.tuple #[v,.bool x])/\Below w.heap.size w w':=by
 subst b;unfold Ref.qF
 by_cases h:60<s.size
 ·have a:(Ref.parts s).isSome=false:=by unfold Ref.parts;rw[zb h];rfl
  rw[a];refine (Np s w (by unfold maxLen;omega) h).mono ?_;rintro e w' ⟨rfl,rfl⟩;exact⟨_,rfl,zf _ _⟩
 ·refine (Nn s w (by omega)).mono ?_;rintro e w' ⟨v,rfl,hb,_⟩;exact⟨v,rfl,hb⟩
def VJ(w:World)(a:Nat)(sh pt:Bool)(R:Option (List BY))(e:Ending)(w':World):Prop:=
 ∃lv,e = .returned lv/\w.grownBy w' (some a)/\qd w' a (sh || !R.isSome) (pt || !((R.getD []).all Ref.qF))/\w'.ownsRow w.heap.size 9 1 lv (R.getD []).length (Ref.strCells (R.getD []))
theorem yt{w:World}{base:Nat}{lv:Value}{l:List BY}(h:w.ownsRow base 9 1 lv l.length (Ref.strCells l)):∃a c,lv = .slice a l.length c:=by
 obtain⟨a,c,e,_⟩:=yU h;exact⟨a,c,e⟩
theorem pJ(k:Int)(base b W cap:Nat)(ns:List Ref.Node)(m:Nat)(sh pt:Bool)(w:World)(h:uH w base b W cap ns)(hk:k<ns.length)(Z:-1<=k)(Y:qd w m sh pt) :
  Calls prog 211 #[.pointer (some ⟨b,0,none⟩),.int .i64 k,.pointer (some ⟨m,0,none⟩)] w (VJ w m sh pt (Ref.qK ns k)):=by
 have f:∀s ∈ (Ref.qK ns k).getD [],s.size<=12000:=by
  cases e:Ref.qK ns k with
  | none=>simp
  | some l=>exact Ref.sQ ns 12000 (λi n hi=>(h.small i n hi).2.2) k l e
 have hlen:((Ref.qK ns k).getD []).length<=10:=by
  cases e:Ref.qK ns k with
  | none=>simp
  | some l=>exact Ref.sP ns k l e
 obtain⟨R,X⟩:=Nm (Ref.qK ns k)
 have HS:Hid (∀w,uH w base b W cap ns->Calls prog 238 #[.pointer (some ⟨b,0,none⟩),.int .i64 k] w (VN w R)):=by
  intro w h;rw[<- X];exact sS k base b W cap ns w h hk Z
 rw[X] at f hlen |-;have HH:=hid h;have HF:=hid Y;have M:=hid f;have J:m<w.heap.size:=zy Y;clear h Y X f;go_enter func211,ntmps211;go_wp2_with fail;refine (HS.out _ HH.out).mono ?_;rintro e w1 ⟨lv,rfl,I,d⟩;have f1:=HF.out.below I;obtain⟨b9,c0,c1,c2⟩:=f1.cell;have F1:=hid f1;have B1:=hid I;obtain⟨l,hl⟩:=Nm (R.getD []);rw[hl] at d hlen;obtain⟨U,V,rfl⟩:=yt d;have r:=hid hl;have O:=hid d;obtain⟨x,hx⟩:=Nm R.isSome;have N:=hid hx;rw[hx];clear f1 I hl d hx HS HH
 cases x with
 | true=>
  obtain⟨G,o⟩:∃y,(sh || !true)=y:=⟨_,rfl⟩
  have a:Hid (qd w1 m G pt/\w.grownBy w1 (some m)/\w1.ownsRow w.heap.size 9 1 (.slice U l.length V) l.length (Ref.strCells l)):=by
   refine⟨?_,But.of _ B1.out,O.out⟩;rw[<- o];simpa using F1.out
  have C:=hid o;clear o;go_wp2_with fail
  go_loopw [9] (λL wr=>∃(j:Nat),j<=l.length/\L = .int .i64 j/\qd wr m G (pt || !((l.take j).all Ref.qF))/\w.grownBy wr (some m)/\wr.ownsRow w.heap.size 9 1 (.slice U l.length V) l.length (Ref.strCells l)) (λL _=>l.length-(intOf L).toNat)
  case atStart=>exact⟨0,zG _,rfl,by simpa using a.out.1,a.out.2.1,a.out.2.2⟩
  case round=>
   obtain⟨j,hj,rfl,rf,S,T⟩:=hrel;obtain⟨P,H⟩:=Nm ((pt || !((l.take j).all Ref.qF)));rw[H] at rf;obtain⟨a5,a6,a7,a8⟩:=rf.cell;have z:=hid rf;have F:=hid S;have A:=hid T;have t:=hid H;clear rf S T H a
   by_cases hlt:j<l.length
   ·obtain⟨a2,a3,v,p⟩:=yU A.out;simp only[Value.slice.injEq,true_and] at v;obtain⟨rfl,rfl⟩:=v;obtain⟨g,rfl,Q⟩:=p j hlt;rw[Ref.XD l j hlt] at Q;have q:=M.out l[j] (by rw[r.out];exact xB hlt);have e:=Ref.pI l pt j hlt;rw[t.out] at e;obtain⟨s,K⟩:=Nm (l[j]);rw[K] at Q q e
    cases hy:Ref.qF s with
    | true=>
     rw[hy] at e;simp only[Vu,Zb] at e;have E:=hid e;have D:=hid hy;clear p K e hy
     go_wp2_with (go_at_call 120;refine (UA s _ q true D.out).mono ?_;rintro e w2 ⟨pv,rfl,c⟩)
     go_roundw
     case rel=>exact⟨j+1,by omega,by go_num,by rw[E.out];exact z.out.below c,But.trans F.out (But.of _ c),ownsRow_below A.out c⟩
     case measure=>simp[intOf];omega
    | false=>
     rw[hy] at e;simp only[Vt,Bool.or_true] at e;have E:=hid e;have D:=hid hy;clear p K e hy
     go_wp2_with (go_at_call 120;refine (UA s _ q false D.out).mono ?_;rintro e w2 ⟨pv,rfl,c⟩;obtain⟨a9,b0,b1,b2⟩:=(z.out.below c).cell)
     go_roundw
     case rel=>exact⟨j+1,by omega,by go_num,by rw[E.out];exact (z.out.below c).pat true,But.trans (But.trans F.out (But.of _ c)) (But.set _ _ _ _),Ux (ownsRow_below A.out c) J _⟩
     case measure=>simp[intOf];omega
   ·have e:=Ref.pG l pt j hlt;rw[t.out] at e;have u:(qd wr m G (pt || !((R.getD []).all Ref.qF))):=by rw[r.out,<- e];exact z.out
    have B:=hid u;clear e u
    go_wp2
    go_ret;exact⟨_,rfl,F.out,by rw[N.out,C.out];exact B.out,by rw[r.out];exact A.out⟩
 | false=>
  obtain⟨G,o⟩:∃y,(sh || !false)=y:=⟨_,rfl⟩
  have a:Hid (qd (w1.setCell ⟨m,0,none⟩ (.bool true)) m G pt/\w.grownBy (w1.setCell ⟨m,0,none⟩ (.bool true)) (some m)/\(w1.setCell ⟨m,0,none⟩ (.bool true)).ownsRow w.heap.size 9 1 (.slice U l.length V) l.length (Ref.strCells l)):=by
   refine⟨?_,But.trans (But.of _ B1.out) (But.set _ _ _ _),Ux O.out J _⟩;rw[<- o];simpa using F1.out.shape true
  have C:=hid o;clear o;go_wp2_with fail
  go_loopw [9] (λL wr=>∃(j:Nat),j<=l.length/\L = .int .i64 j/\qd wr m G (pt || !((l.take j).all Ref.qF))/\w.grownBy wr (some m)/\wr.ownsRow w.heap.size 9 1 (.slice U l.length V) l.length (Ref.strCells l)) (λL _=>l.length-(intOf L).toNat)
  case atStart=>exact⟨0,zG _,rfl,by simpa using a.out.1,a.out.2.1,a.out.2.2⟩
  case round=>
   obtain⟨j,hj,rfl,rf,S,T⟩:=hrel;obtain⟨P,H⟩:=Nm ((pt || !((l.take j).all Ref.qF)));rw[H] at rf;obtain⟨a5,a6,a7,a8⟩:=rf.cell;have z:=hid rf;have F:=hid S;have A:=hid T;have t:=hid H;clear rf S T H a
   by_cases hlt:j<l.length
   ·obtain⟨a2,a3,v,p⟩:=yU A.out;simp only[Value.slice.injEq,true_and] at v;obtain⟨rfl,rfl⟩:=v;obtain⟨g,rfl,Q⟩:=p j hlt;rw[Ref.XD l j hlt] at Q;have q:=M.out l[j] (by rw[r.out];exact xB hlt);have e:=Ref.pI l pt j hlt;rw[t.out] at e;obtain⟨s,K⟩:=Nm (l[j]);rw[K] at Q q e
    cases hy:Ref.qF s with
    | true=>
     rw[hy] at e;simp only[Vu,Zb] at e;have E:=hid e;have D:=hid hy;clear p K e hy
     go_wp2_with (go_at_call 120;refine (UA s _ q true D.out).mono ?_;rintro e w2 ⟨pv,rfl,c⟩)
     go_roundw
     case rel=>exact⟨j+1,by omega,by go_num,by rw[E.out];exact z.out.below c,But.trans F.out (But.of _ c),ownsRow_below A.out c⟩
     case measure=>simp[intOf];omega
    | false=>
     rw[hy] at e;simp only[Vt,Bool.or_true] at e;have E:=hid e;have D:=hid hy;clear p K e hy
     go_wp2_with (go_at_call 120;refine (UA s _ q false D.out).mono ?_;rintro e w2 ⟨pv,rfl,c⟩;obtain⟨a9,b0,b1,b2⟩:=(z.out.below c).cell)
     go_roundw
     case rel=>exact⟨j+1,by omega,by go_num,by rw[E.out];exact (z.out.below c).pat true,But.trans (But.trans F.out (But.of _ c)) (But.set _ _ _ _),Ux (ownsRow_below A.out c) J _⟩
     case measure=>simp[intOf];omega
   ·have e:=Ref.pG l pt j hlt;rw[t.out] at e;have u:(qd wr m G (pt || !((R.getD []).all Ref.qF))):=by rw[r.out,<- e];exact z.out
    have B:=hid u;clear e u
    go_wp2
    go_ret;exact⟨_,rfl,F.out,by rw[N.out,C.out];exact B.out,by rw[r.out];exact A.out⟩
end Go.Proofs.YtagnlbgbnfnapaaGreatDoor
