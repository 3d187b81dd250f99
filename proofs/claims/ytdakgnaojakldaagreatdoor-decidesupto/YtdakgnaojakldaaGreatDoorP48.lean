/- P -/
import Derived.Test.YtdakgnaojakldaaGreatDoorP47
open Go.Proofs.Tryz
set_option maxRecDepth 100000
set_option maxHeartbeats 2000000
namespace Go.Proofs.YtdakgnaojakldaaGreatDoor
open Go.RowKit
theorem wD(pattern word:BY)(r:Ref.Req)(ao:Option Addr)(cap:Nat)(w:World)(O:qQ w ao r.marks)(hp:pattern.size<=60)(hw:word.size<=100)(J:r.marks.length<=10)
  (u:∀n v,Ref.says r n=some v->v.size<=100) :
  Calls prog 179 #[.string pattern,.string word,Ref.zY r ao cap] w λe w'=>e = .returned (.bool (Ref.jy pattern word r))/\Below w.heap.size w w':=by
 obtain⟨P,D⟩:=Nm (Ref.jy pattern word r);rw[D];unfold Ref.jy at D;have K:=Ref.Bf pattern;have a0:=Ref.Ue word;have G:=hid D;have R:=hid O;have T:=hid u;clear D O u;generalize L:Ref.zY r ao cap=rv;have M:rv = .agg #[.string r.who,.string r.act,.string r.on,.slice ao r.marks.length cap]:=L.symm;subst M;have S:=hid L;clear L;go_enter func179,ntmps179;go_wp2_with fail;refine (Bd pattern _ hp).mono ?_;rintro e w1 ⟨lv,rfl,g,_,a⟩;have f:jm w1 w.heap.size r ao cap:=Zt (by simp[jm]) g;have H:Below w.heap.size w w1:=(nbl w _).trans (g.mono (by simp));have x:=AU rfl a;clear g a;go_wp2_with fail;refine (dP word _ (by omega)).mono ?_;rintro e w2 ⟨V,rfl,d,b⟩;have o:=Zt f d;have C:Below w.heap.size w w2:=H.trans (d.mono H.size);have y:=gW x d;have A:=XG rfl b;have s:=xB R.out C;obtain⟨W,X,Y,Z⟩:=o;have j:=hid y;have l:=hid A;have i:=hid s;clear d b f x y A s H;go_wp2_with fail;rw[<- S.out];refine (Rv r _ lv ao cap _ i.out j.out K J T.out).mono ?_;rintro e w3 ⟨qv,rfl,h,c,t⟩;have I:Below w.heap.size w w3:=C.trans (h.mono C.size);have B:=uI l.out h;have z:=AU rfl c;have m:=hid B;have k:=hid z;clear h c B z W X Y Z j l i C
 cases hld:Ref.laid r ((Ref.parts pattern).getD []) with
 | none=>
  have E:P=false:=by rw[<- G.out,hld]
  subst E
  go_wp2
  go_ret;exact⟨rfl,I⟩
 | some q=>
  have E:Ref.covers q ((Ref.chars word).getD [])=P:=by rw[<- G.out,hld]
  have F:=k.out;rw[hld] at F t;simp only[yB] at F t;have Q:=hid E;have N:=hid F;clear E F k G;go_wp2_with fail;refine (Ik q _ qv V _ N.out m.out (by omega) (by omega)).mono ?_;rw[Q.out];rintro e w4 ⟨rfl,p⟩;have U:Below w.heap.size w w4:=I.trans (p.mono I.size);clear p N m
  go_wp2
  go_ret;exact⟨rfl,U⟩
theorem mU{α:Type}(l:List α)(f:α->Bool)(k:Nat)(h:k<l.length):(l.take (k+1)).any f=((l.take k).any f||f l[k]):=by
 rw[Yw,zm h,List.any_append]
 simp
theorem lu(i:Bool×List BY)(word:BY)(r:Ref.Req)(ao:Option Addr)(cap:Nat)(lv:Value)(w:World)(A:∀p ∈ i.2,Ref.qi p=true)(Q:i.2.length<=100000)(H:xW w lv i.2)(m:qQ w ao r.marks)(g:Ref.xP r=true)(R:word.size<=100) :
  Calls prog 243 #[.agg #[.bool i.1,lv],.string word,Ref.zY r ao cap] w λe w'=>e = .returned (.bool (De.Z6 i word r))/\Below w.heap.size w w':=by
 obtain⟨I,a⟩:=i;simp only at A Q H;have G:=λ(W:World) (hb:Below w.heap.size w W) (p:BY) (s:p ∈ a)=>wD p word r ao cap W (xB m hb) (Ref.gX p (A p s)) R (aJ g) (λn v h=>(UN g n v h).1);unfold De.Z6;simp only;obtain⟨f,y⟩:∃f:BY->Bool,(λp=>Ref.jy p word r)=f:=⟨_,rfl⟩
 have t:∀(W:World) (hb:Below w.heap.size w W) (p:BY) (s:p ∈ a),Calls prog 179 #[.string p,.string word,Ref.zY r ao cap] W λe w'=>e = .returned (.bool (f p))/\Below W.heap.size W w':=by
  rw[<- y];exact G
 rw[y];clear G y A;obtain⟨who,act,on,ms⟩:=r;unfold Ref.zY at t |-;simp only at t |-;obtain⟨K,B,rfl,d⟩:=H;have D:Below w.heap.size w ((w.alloc (.cells #[.bool I,.slice K a.length B] 157)).alloc (.cells #[.string who,.string act,.string on,.slice ao ms.length cap] 53)):=(nbl w _).alloc (by simp) _;have L:=hid t;have M:=hid d;have C:=hid D;clear t d D m g;go_enter func243,ntmps243
 go_wp2
 go_loopw [7,8] (λyv kv wr=>∃k:Nat,k<=a.length/\kv = .int .i64 k/\yv = .bool ((a.take k).any f)/\Below w.heap.size w wr/\(wr.cell? ⟨w.heap.size,0,none⟩=some (.bool I)/\wr.cell? ⟨w.heap.size,1,none⟩=some (.slice K a.length B))/\wr.cell? ⟨w.heap.size+1,0,none⟩=some (.string who)/\wr.cell? ⟨w.heap.size+1,1,none⟩=some (.string act)/\wr.cell? ⟨w.heap.size+1,2,none⟩=some (.string on)/\wr.cell? ⟨w.heap.size+1,3,none⟩=some (.slice ao ms.length cap)) (λ_ kv _=>a.length-(intOf kv).toNat)
 case atStart=>exact⟨0,zH _,rfl,by simp,C.out,⟨by simp,by simp⟩,by simp,by simp,by simp,by simp⟩
 case round=>
  obtain⟨k,hk,rfl,rfl,hb,⟨O,P⟩,S,T,q2,U⟩:=hrel;have l:=hid hb;clear hb C
  by_cases hlt:k<a.length
  ·rcases M.out with e|⟨gb,o,rfl,hc⟩
   ·subst e;simp at hlt
   have J:=zh l.out (hc k hlt);have u:=hid (L.out wr.drew l.out.drew a[k] (qA hlt));have b:=hid (mU a f k hlt);obtain⟨p,q⟩:=Nm (a[k]);rw[q] at J u b;obtain⟨F,hF⟩:=Nm (f p);rw[hF] at u b;obtain⟨Y,j⟩:=Nm ((a.take k).any f);rw[j] at b |-;clear hc q hF j
   cases Y
   all_goals
    go_wp2_with fail
    go_region_held3 (λw'=>w'.cell? ⟨w.heap.size,1,none⟩=some (.slice (some ⟨gb,o,none⟩) a.length B)/\w'.cell? ⟨gb,o+k,none⟩=some (.string p)/\w'.cell? ⟨w.heap.size+1,0,none⟩=some (.string who)/\w'.cell? ⟨w.heap.size+1,1,none⟩=some (.string act)/\w'.cell? ⟨w.heap.size+1,2,none⟩=some (.string on)/\w'.cell? ⟨w.heap.size+1,3,none⟩=some (.slice ao ms.length cap)) (go_keep) (first
     | ((go_at_call 179);refine u.out.mono ?_;rintro e w1 ⟨rfl,E⟩;have c:Below wr.heap.size wr w1:=((ze _ wr).drew.trans E);have V:=zh c O;have X:=zh c P;have Z:=zh c S;have r3:=zh c T;have r4:=zh c q2;have r5:=zh c U;have r6:=zh c J;have x:Hid (Below w.heap.size w w1):=l.out.trans (c.mono l.out.size);clear E c))
    all_goals
     go_wp2_with fail
     go_roundw
     case rel=>exact⟨k+1,by omega,by go_num,by rw[b.out];rfl,x.out,⟨V,X⟩,Z,r3,r4,r5⟩
     case measure=>simp[intOf];omega
  ·have z:k=a.length:=by omega
   subst z;rw[VW];obtain⟨Y,j⟩:=Nm (a.any f);rw[j];have N:=hid j;clear j
   go_wp2
   go_ret;exact⟨by rw[N.out];rfl,l.out⟩
theorem Aj{t:BY}(h:De.Qr t=true)(b:0<t.size):((t[0].toNat:Int)==45)=false:=by
 have a:=(De.Yh h).2.2.2.2;rw[Ref.X8 t b] at a
 simp
 omega
theorem Co(a b:BY)(w:World)(c:De.Qr a=true)(hb:De.Qr b=true) :
  Calls prog 263 #[.string a,.string b] w λe w'=>e = .returned (.bool (De.Vz a b))/\Below w.heap.size w w':=by
 have f:0<a.size:=by have:=(De.Yh c).2.1;omega
 have g:0<b.size:=by have:=(De.Yh hb).2.1;omega
 have f1:=Aj c f;have f2:=Aj hb g;have h:=λW=>tN a b W (by have:=(De.Yh c).2.2.1;unfold maxLen;omega);have j:=hid h;unfold De.Vz;clear h c hb
 by_cases e:a.size=b.size
 ·have d:((a.size:Int) != (b.size:Int))=false:=by simp[e]
  rw[zb e];clear e;go_enter func263,ntmps263
  go_wp2_with (go_at_call 181;refine (j.out _).mono ?_;rintro e w1 ⟨rfl,l⟩)
  go_ret;exact⟨rfl,l⟩
 ·have d:((a.size:Int) != (b.size:Int))=true:=by simp;omega
  rw[za e];have i:decide ((a.size:Int)<(b.size:Int))=decide (a.size<b.size):=by simp
  have k:=hid i;clear e i;go_enter func263,ntmps263;go_wp2_with fail;go_ret;exact⟨by rw[<- k.out];rfl,ze _ _⟩
theorem Vn{s:BY}{b:Bool}(h:De.yo s=b)(a:0<s.size):((s[0].toNat:Int)==45)=b:=by
 unfold De.yo at h;rw[Ref.X8 s a,zy a,jC] at h;rw[<- h];rw[kL]
 simp
 omega
theorem sK{s:BY}(h:Ref.qF s=true):0<s.size/\s.size<=19:=by
 obtain⟨b,_⟩:=De.Vh h;have a:=De.Yh b;unfold De.uA at a
 cases hn:De.yo s with
 | true=>
  rw[hn,zb rfl,yz] at a;omega
 | false=>
  rw[hn] at a;simp only[yu,xV] at a;omega
theorem zbr(a b:BY)(w:World)(f:Ref.qF a=true)(hb:Ref.qF b=true) :
  Calls prog 263 #[.string a,.string b] w λe w'=>e = .returned (.bool (De.XD a b))/\Below w.heap.size w w':=by
 obtain⟨h,_⟩:=sK f;obtain⟨b0,_⟩:=sK hb;obtain⟨c,_⟩:=De.Vh f;obtain⟨d,_⟩:=De.Vh hb;unfold De.XD;unfold De.uA at c d |-
 cases ea:De.yo a with
 | false=>
  cases eb:De.yo b with
  | false=>
   rw[ea] at c;rw[eb] at d;simp only[yu,xV,qJ] at c d |-;exact Co a b w c d
  | true=>
   have f1:=Vn ea h;have f2:=Vn eb b0;simp only[yu,xV];clear c d ea eb f hb;go_enter func263,ntmps263;go_wp2_with fail;go_ret;exact⟨rfl,ze _ _⟩
 | true=>
  cases eb:De.yo b with
  | false=>
   have f1:=Vn ea h;have f2:=Vn eb b0;simp only[Bool.true_eq_false,xV];clear c d ea eb f hb;go_enter func263,ntmps263;go_wp2_with fail;go_ret;exact⟨rfl,ze _ _⟩
  | true=>
   rw[ea] at c;rw[eb] at d;simp only[qJ] at c d |-;have f1:=Vn ea h;have f2:=Vn eb b0;have k:(1:Int)<=(a.size:Int):=by omega
   have l:(1:Int)<=(b.size:Int):=by omega
   have j:=hid (Co (b.extract 1 b.size) (a.extract 1 a.size) w.drew d c);clear c d ea eb f hb;go_enter func263,ntmps263;go_wp2_with fail
   go_region_held3 (λ_=>True) (trivial) (first|((go_at_call 263);refine j.out.mono ?_;rintro e w1 ⟨rfl,i⟩;have g:Hid (Below w.heap.size w w1):=((ze _ w).drew.trans i);clear i))
   all_goals
    go_wp2_with fail;go_ret;exact⟨rfl,g.out⟩
theorem zcL(x v:BY)(h:v.size<x.size):De.Zk x v=((x.toList==v.toList)||(((x.extract 0 v.size).toList==v.toList)&&(((x[v.size]'h).toNat:Int)==47))):=by
 unfold De.Zk;rw[zy h,jC]
 have a:(x.extract 0 v.size).toList=x.data.toList.take v.size:=by
  rw[ut]
  simp
 have b:v.toList=v.data.toList:=ut v
 have c:x.data.toList.getD v.size 0=x[v.size]'h:=by
  rw[zQ,zm (by simpa using h)]
  rfl
 rw[a,c,<- b];congr 2;rw[kL]
 simp
 omega
theorem zcO(x v:BY)(h:¬v.size<x.size):De.Zk x v=(x.toList==v.toList):=by
 unfold De.Zk;rw[zJ h]
 simp
def lN(op v:BY):Prop:=(Ref.qX op=true->Ref.qi v=true)/\(De.jN op=true->Ref.qF v=true)
theorem TJ(op x v:BY)(r:Ref.Req)(ao:Option Addr)(cap:Nat)(w:World)(c:qQ w ao r.marks)(b:Ref.xP r=true)(B:x.size<=100)(z:lN op v) :
  Calls prog 256 #[.string op,.string x,.string v,Ref.zY r ao cap] w λe w'=>e = .returned (.bool (De.Xx op x v r))/\Below w.heap.size w w':=by
 have g:Below w.heap.size w (w.alloc (.cells #[.string r.who,.string r.act,.string r.on,.slice ao r.marks.length cap] 53)):=nbl w _;have i:=λ(y:Ref.qi v=true)=>wD v x r ao cap (w.alloc (.cells #[.string r.who,.string r.act,.string r.on,.slice ao r.marks.length cap] 53)) (xB c g) (Ref.gX v y) B (aJ b) (λn v h=>(UN b n v h).1);unfold De.Xx;obtain⟨who,act,on,ms⟩:=r;unfold Ref.zY at i |-;simp only at i g |-;obtain⟨d,f⟩:=z
 cases h1:Ref.qX op with
 | true=>
  have o:=hid (i (d h1));unfold Ref.qX at h1;rw[zb rfl];have a:=hid g;clear i d f c b g;generalize Ref.jy v x ⟨who,act,on,ms⟩=A at o;go_enter func256,ntmps256
  go_wp2_with (go_at_call 179;refine o.out.mono ?_;rintro e w1 ⟨rfl,q⟩)
  go_ret;exact⟨rfl,a.out.trans (q.mono a.out.size)⟩
 | false=>
  unfold Ref.qX at h1;rw[za (by simp)]
  cases h2:De.jO op with
  | true=>
   unfold De.jO at h2;rw[zb rfl];have a:=hid g;clear i d f c b g;go_enter func256,ntmps256;go_wp2_with fail;go_ret;exact⟨rfl,a.out⟩
  | false=>
   unfold De.jO at h2;rw[za (by simp)]
   cases h3:De.jN op with
   | true=>
    have j:=f h3;unfold De.jN at h3;rw[zb rfl];have k:=λW=>sM x W (by omega);have l:=λW (m:Ref.qF x=true)=>zbr x v W m j;have a:=hid g;clear i d f c b g j
    cases hn:Ref.qF x with
    | true=>
     rw[jC];simp only[hn] at k;have p:=hid (λW=>l W hn);clear l;go_enter func256,ntmps256
     go_wp2_with (first
      | (go_at_call 263;refine (p.out _).mono ?_;rintro e D ⟨rfl,s⟩)
      | (go_at_call 233;refine (k _).mono ?_;rintro e w1 ⟨rfl,rfl⟩))
     go_ret;exact⟨rfl,a.out.trans (s.mono a.out.size)⟩
    | false=>
     rw[uJ];simp only[hn] at k;clear l;go_enter func256,ntmps256
     go_wp2_with (go_at_call 233;refine (k _).mono ?_;rintro e w1 ⟨rfl,rfl⟩)
     go_ret;exact⟨rfl,a.out⟩
   | false=>
    unfold De.jN at h3;rw[za (by simp)];have a:=hid g;clear i d f c b g
    by_cases hl:v.size<x.size
    ·rw[zcL x v hl];have t:decide ((v.size:Int)<(x.size:Int))=true:=zy (by omega);have u:decide ((x.size:Int)>(v.size:Int))=true:=zy (by omega);have C:(v.size:Int)<=(x.size:Int):=by omega
     cases h4:(x.toList==v.toList) with
     | true=>
      go_enter func256,ntmps256;go_wp2_with fail;go_ret;exact⟨rfl,a.out⟩
     | false=>
      rw[Xa]
      cases h5:((x.extract 0 v.size).toList==v.toList) with
      | true=>
       rw[jC];go_enter func256,ntmps256;go_wp2_with fail;go_ret;exact⟨rfl,a.out⟩
      | false=>
       rw[uJ];go_enter func256,ntmps256;go_wp2_with fail;go_ret;exact⟨rfl,a.out⟩
    ·rw[zcO x v hl];have t:decide ((v.size:Int)<(x.size:Int))=false:=zJ (by omega)
     cases h4:(x.toList==v.toList) with
     | true=>
      go_enter func256,ntmps256;go_wp2_with fail;go_ret;exact⟨rfl,a.out⟩
     | false=>
      go_enter func256,ntmps256;go_wp2_with fail;go_ret;exact⟨rfl,a.out⟩
theorem XM.fit{c:qj}(h:XM c):∀v ∈ c.vals,lN c.op v:=by
 intro v a
 rcases h with ⟨_,h⟩|⟨_,h2,h3⟩
 ·rw[h] at a;simp at a
 ·refine⟨λb=>h3 b v a,λhb=>?_⟩;unfold Ref.Zv at h2;rw[kJ] at h2
  have:=ZM.1 h2.1 v a
  unfold De.jN at hb;unfold Ref.uq at this;rw[vJ] at hb;rw[hb] at this
  simpa using this
def di(vals:List BY)(f:BY->BY->Bool):Option BY->Bool
 | none=>false
 | some x=>vals.any (f x)
theorem Oq(c:qj)(lv:Value)(r:Ref.Req)(ao:Option Addr)(cap:Nat)(w:World)(hm:xW w lv c.vals)(hf:XM c)(hn:c.vals.length<=100000)(y:qQ w ao r.marks)(n:Ref.xP r=true) :
  Calls prog 244 #[.agg #[.string c.op,.string c.key,lv,.bool c.no],Ref.zY r ao cap] w λe w'=>e = .returned (.bool (De.Xr c r))/\Below w.heap.size w w':=by
 have j:=hf.fit;obtain⟨op,key,vals,no⟩:=c;simp only at hm hn j |-;have l:=UN n key;have cO:=λ(W:World) (hb:Below w.heap.size w W) (x:BY) (I:x.size<=100) (v:BY) (M:v ∈ vals)=>TJ op x v r ao cap W (xB y hb) n I (j v M);have E:=λ(W:World) (hb:Below w.heap.size w W)=>Cb r key ao cap W (by have:=aJ n;omega) (xB y hb);unfold De.Xr;simp only;obtain⟨S,G⟩:=Nm (Ref.says r key);rw[G] at l |-;simp only[G] at E;obtain⟨f,hF⟩:∃f:BY->BY->Bool,(λx v=>De.Xx op x v r)=f:=⟨_,rfl⟩
 have L:∀(W:World) (hb:Below w.heap.size w W) (x:BY) (I:x.size<=100) (v:BY) (M:v ∈ vals),Calls prog 256 #[.string op,.string x,.string v,Ref.zY r ao cap] W λe w'=>e = .returned (.bool (f x v))/\Below W.heap.size W w':=by
  rw[<- hF];exact cO
 have a:De.YC op vals r S=di vals f S:=by
  rw[<- hF]
  cases S<;>rfl
 rw[a];clear cO hF a hf j;obtain⟨who,act,on,ms⟩:=r;unfold Ref.zY at L E |-;simp only at L E |-;obtain⟨Q,J,rfl,s⟩:=hm;have b2:Below w.heap.size w ((w.alloc (.cells #[.string op,.string key,.slice Q vals.length J,.bool no] 244)).alloc (.cells #[.string who,.string act,.string on,.slice ao ms.length cap] 53)):=(nbl w _).alloc (by simp) _;have CF:=hid L;have HR:=hid s;have z:=hid (E _ b2);have t:=hid b2;obtain⟨q,i⟩:∃W,(w.alloc (.cells #[.string op,.string key,.slice Q vals.length J,.bool no] 244)).alloc (.cells #[.string who,.string act,.string on,.slice ao ms.length cap] 53)=W:=⟨_,rfl⟩;have a1:q.cell? ⟨w.heap.size,0,none⟩=some (.string op)/\q.cell? ⟨w.heap.size,1,none⟩=some (.string key)/\q.cell? ⟨w.heap.size,2,none⟩=some (.slice Q vals.length J)/\q.cell? ⟨w.heap.size,3,none⟩=some (.bool no):=by rw[<- i];exact⟨by simp,by simp,by simp,by simp⟩
 have a2:q.cell? ⟨w.heap.size+1,0,none⟩=some (.string who)/\q.cell? ⟨w.heap.size+1,1,none⟩=some (.string act)/\q.cell? ⟨w.heap.size+1,2,none⟩=some (.string on)/\q.cell? ⟨w.heap.size+1,3,none⟩=some (.slice ao ms.length cap):=by rw[<- i];exact⟨by simp,by simp,by simp,by simp⟩
 have u:=hid i;rw[i] at z t;obtain⟨O,x1,x2,P⟩:=a1;obtain⟨y0,y1,y2,y3⟩:=a2;clear L s b2 y n E i
 cases S with
 | none=>
  simp only[di,QF,kS,Option.isNone_none,Y0,Zl] at z |-
  cases ha:Ref.xJ op with
  | true=>
   unfold Ref.xJ at ha;go_enter func244,ntmps244
   go_upto_region 1 with fail
   rw[u.out]
   go_wp2_with (go_at_call 242;refine z.out.mono ?_;rintro e w1 ⟨rfl,d⟩;have B:=zh d O;have C:=zh d P;have h:Hid (Below w.heap.size w w1):=t.out.trans (d.mono t.out.size);clear d)
   go_loopw [7,8] (λK kv wr=>kv = .int .i64 0/\K = .bool true/\wr=w1) (λ_ _ _=>0)
   case atStart=>exact⟨rfl,rfl,rfl⟩
   case round=>
    obtain⟨rfl,rfl,rfl⟩:=hrel;go_wp2_with fail;go_ret;exact⟨by cases no<;>rfl,h.out⟩
  | false=>
   unfold Ref.xJ at ha;go_enter func244,ntmps244
   go_upto_region 1 with fail
   rw[u.out]
   go_wp2_with (go_at_call 242;refine z.out.mono ?_;rintro e w1 ⟨rfl,d⟩;have B:=zh d O;have C:=zh d P;have h:Hid (Below w.heap.size w w1):=t.out.trans (d.mono t.out.size);clear d)
   go_loopw [7,8] (λK kv wr=>kv = .int .i64 0/\K = .bool false/\wr=w1) (λ_ _ _=>0)
   case atStart=>exact⟨rfl,rfl,rfl⟩
   case round=>
    obtain⟨rfl,rfl,rfl⟩:=hrel;go_wp2_with fail;go_ret;exact⟨by cases no<;>rfl,h.out⟩
 | some x=>
  have I:=(l x rfl).1;simp only[di,yB,uw,Option.isNone_some,Bool.and_false,Xa] at z |-;have CX:=hid (λ(W:World) (hb:Below w.heap.size w W) (v:BY) (M:v ∈ vals)=>CF.out W hb x I v M);obtain⟨g,hg⟩:∃g:BY->Bool,f x=g:=⟨_,rfl⟩;rw[hg] at CX |-;obtain⟨ab,c5⟩:∃b,(op.toList==[97,98,115,101,110,116])=b:=⟨_,rfl⟩;clear CF l I hg
  cases ab
  all_goals
   go_enter func244,ntmps244
   go_upto_region 1 with fail
   rw[u.out]
   go_wp2_with (go_at_call 242;refine z.out.mono ?_;rintro e w1 ⟨rfl,d⟩;have B:=zh d O;have N:=zh d x2;have C:=zh d P;have R:=zh d y0;have T:=zh d y1;have U:=zh d y2;have V:=zh d y3;have h:Hid (Below w.heap.size w w1):=t.out.trans (d.mono t.out.size);clear d)
   go_loopw [7,8] (λK kv wr=>∃k:Nat,k<=vals.length/\kv = .int .i64 k/\K = .bool ((vals.take k).any g)/\Below w.heap.size w wr/\(wr.cell? ⟨w.heap.size,0,none⟩=some (.string op)/\wr.cell? ⟨w.heap.size,2,none⟩=some (.slice Q vals.length J)/\wr.cell? ⟨w.heap.size,3,none⟩=some (.bool no))/\wr.cell? ⟨w.heap.size+1,0,none⟩=some (.string who)/\wr.cell? ⟨w.heap.size+1,1,none⟩=some (.string act)/\wr.cell? ⟨w.heap.size+1,2,none⟩=some (.string on)/\wr.cell? ⟨w.heap.size+1,3,none⟩=some (.slice ao ms.length cap)) (λ_ kv _=>vals.length-(intOf kv).toNat)
   case atStart=>exact⟨0,zH _,rfl,by simp,h.out,⟨B,N,C⟩,R,T,U,V⟩
   case round=>
    obtain⟨k,hk,rfl,rfl,hb,⟨g0,g2,g3⟩,q0,q1,q2,q3⟩:=hrel;have D:=hid hb;clear hb h B N C R T U V O x1 x2 P y0 y1 y2 y3
    by_cases hlt:k<vals.length
    ·rcases HR.out with e|⟨gb,o,rfl,hc⟩
     ·subst e;simp at hlt
     have p0:=zh D.out (hc k hlt);have X:=hid (CX.out wr.drew D.out.drew vals[k] (qA hlt));have a:=hid (mU vals g k hlt);obtain⟨p,H⟩:=Nm (vals[k]);rw[H] at p0 X a;obtain⟨F,hF⟩:=Nm (g p);rw[hF] at X a;obtain⟨Y,A⟩:=Nm ((vals.take k).any g);rw[A] at a |-;clear hc H hF A
     cases Y
     all_goals
      go_wp2_with fail
      go_region_held3 (λw'=>w'.cell? ⟨w.heap.size,0,none⟩=some (.string op)/\w'.cell? ⟨w.heap.size,2,none⟩=some (.slice (some ⟨gb,o,none⟩) vals.length J)/\w'.cell? ⟨gb,o+k,none⟩=some (.string p)/\w'.cell? ⟨w.heap.size+1,0,none⟩=some (.string who)/\w'.cell? ⟨w.heap.size+1,1,none⟩=some (.string act)/\w'.cell? ⟨w.heap.size+1,2,none⟩=some (.string on)/\w'.cell? ⟨w.heap.size+1,3,none⟩=some (.slice ao ms.length cap)) (go_keep) (first
       | ((go_at_call 256);refine X.out.mono ?_;rintro e w2 ⟨rfl,d⟩;have m:Below wr.heap.size wr w2:=((ze _ wr).drew.trans d);have B:=zh m g0;have N:=zh m g2;have C:=zh m g3;have R:=zh m q0;have T:=zh m q1;have U:=zh m q2;have V:=zh m q3;have r6:=zh m p0;have Z:Hid (Below w.heap.size w w2):=D.out.trans (m.mono D.out.size);clear d m))
      all_goals
       go_wp2_with fail
       go_roundw
       case rel=>exact⟨k+1,by omega,by go_num,by rw[a.out];rfl,Z.out,⟨B,N,C⟩,R,T,U,V⟩
       case measure=>simp[intOf];omega
    ·have a3:k=vals.length:=by omega
     subst a3;rw[VW];obtain⟨Y,A⟩:=Nm (vals.any g);rw[A];have HY:=hid A;clear A
     go_wp2
     go_ret;exact⟨by rw[HY.out];rfl,D.out⟩
theorem Ez{α:Type}(l:List α)(f:α->Bool)(k:Nat)(h:k<l.length):(l.take (k+1)).all f=((l.take k).all f&&f l[k]):=by
 rw[Yw,zm h,JM]
 simp
structure Y3 (s:zS):Prop where
 who:s.who.2.length<=100000
 act:s.act.2.length<=100000
 on:s.on.2.length<=100000
 ifs:s.ifs.length<=100000
 vals:∀c ∈ s.ifs,c.vals.length<=100000/\∀v ∈ c.vals,v.size<=100000
theorem Y3.of{s:zS}(h:cz s):Y3 s:=
 ⟨by have:=h.who.1;omega,by have:=h.act.1;omega,by have:=h.on.1;omega,by have:=h.len;omega,λc a=>⟨by have:=(h.cs c a).2.2.1;omega,λv b=>by have:=(h.cs c a).2.2.2 v b;omega⟩⟩
def J3(W:World)(b:Nat)(a e c f d g h u0 u1 u2 u3:Value):Prop:=
 W.cell? ⟨b,1,none⟩=some a/\W.cell? ⟨b,2,none⟩=some e/\W.cell? ⟨b,3,none⟩=some c/\W.cell? ⟨b,4,none⟩=some f/\W.cell? ⟨b,5,none⟩=some d/\W.cell? ⟨b,6,none⟩=some g/\W.cell? ⟨b,7,none⟩=some h/\W.cell? ⟨b+1,0,none⟩=some u0/\W.cell? ⟨b+1,1,none⟩=some u1/\W.cell? ⟨b+1,2,none⟩=some u2/\W.cell? ⟨b+1,3,none⟩=some u3
theorem J3.below{W W':World}{b:Nat}{a e c f d g i u0 u1 u2 u3:Value}(h:J3 W b a e c f d g i u0 u1 u2 u3)(hb:Below W.heap.size W W'):J3 W' b a e c f d g i u0 u1 u2 u3:=by
 obtain⟨n,o,p,q,r,s,t,j,k,l,m⟩:=h;exact⟨zh hb n,zh hb o,zh hb p,zh hb q,zh hb r,zh hb s,zh hb t,zh hb j,zh hb k,zh hb l,zh hb m⟩
theorem EO(s:zS)(l1 l2 l3 lc:Value)(r:Ref.Req)(ao:Option Addr)(cap:Nat)(w:World)(q:XE w l1 l2 l3 lc s)(hf:Y4 s)(O:Y3 s)(h:qQ w ao r.marks)(d:Ref.xP r=true) :
  Calls prog 222 #[.agg #[.string s.eff,.bool s.who.1,l1,.bool s.act.1,l2,.bool s.on.1,l3,lc],Ref.zY r ao cap] w λe w'=>e = .returned (.bool (De.YD s r))/\Below w.heap.size w w':=by
 obtain⟨k1,k2,k3⟩:=iA d;have c1:=λ(W:World) (hb:Below w.heap.size w W)=>lu s.who r.who r ao cap l1 W hf.who O.who (uI q.who hb) (xB h hb) d (XI k1).1;have c2:=λ(W:World) (hb:Below w.heap.size w W)=>lu s.act r.act r ao cap l2 W hf.act O.act (uI q.act hb) (xB h hb) d (XI k2).1;have c3:=λ(W:World) (hb:Below w.heap.size w W)=>lu s.on r.on r ao cap l3 W hf.on O.on (uI q.on hb) (xB h hb) d (XI k3).1;have c4:=λ(W:World) (hb:Below w.heap.size w W) (c:qj) (N:c ∈ s.ifs) (lv:Value) (hl:xW W lv c.vals)=>Oq c lv r ao cap W hl (hf.ifs c N) (O.vals c N).1 (xB h hb) d;have Z:=q.ifs;obtain⟨a1,y1,e1,_⟩:=q.who;obtain⟨a2,y2,e2,_⟩:=q.act;obtain⟨a3,y3,e3,_⟩:=q.on;have d8:=O.ifs;unfold De.YD;obtain⟨A,hA⟩:=Nm (De.Z6 s.who r.who r);obtain⟨B,hB⟩:∃A,De.Z6 s.act r.act r=A:=⟨_,rfl⟩;obtain⟨C,hC⟩:∃A,De.Z6 s.on r.on r=A:=⟨_,rfl⟩;obtain⟨f,hF⟩:∃f:qj->Bool,(λc=>De.Xr c r)=f:=⟨_,rfl⟩
 have cF:∀(W:World) (hb:Below w.heap.size w W) (c:qj) (N:c ∈ s.ifs) (lv:Value) (hl:xW W lv c.vals),Calls prog 244 #[.agg #[.string c.op,.string c.key,lv,.bool c.no],Ref.zY r ao cap] W λe w'=>e = .returned (.bool (f c))/\Below W.heap.size W w':=by
  rw[<- hF];exact c4
 rw[hA] at c1;rw[hB] at c2;rw[hC] at c3;rw[hA,hB,hC,hF];clear hA hB hC hF c4 hf O q k1 k2 k3;obtain⟨who,act,on,ms⟩:=r;obtain⟨eff,⟨n1,s1⟩,⟨n2,s2⟩,⟨n3,s3⟩,cs⟩:=s;unfold Ref.zY at c1 c2 c3 cF |-;simp only at c1 c2 c3 cF Z d8 e1 e2 e3 |-;subst e1 e2 e3;obtain⟨xo,xc,rfl,t⟩:=Z;obtain⟨z1,a5⟩:∃n,s1.length=n:=⟨_,rfl⟩;obtain⟨z2,a6⟩:∃n,s2.length=n:=⟨_,rfl⟩;obtain⟨z3,a7⟩:∃n,s3.length=n:=⟨_,rfl⟩;rw[a5] at c1 |-;rw[a6] at c2 |-;rw[a7] at c3 |-;clear a5 a6 a7;obtain⟨W2,p⟩:∃W,(w.alloc (.cells #[.string eff,.bool n1,.slice a1 z1 y1,.bool n2,.slice a2 z2 y2,.bool n3,.slice a3 z3 y3,.slice xo cs.length xc] 160)).alloc (.cells #[.string who,.string act,.string on,.slice ao ms.length cap] 53)=W:=⟨_,rfl⟩;have b2:Below w.heap.size w W2:=by rw[<- p];exact (nbl w _).alloc (by simp) _
 have U:J3 W2 w.heap.size (.bool n1) (.slice a1 z1 y1) (.bool n2) (.slice a2 z2 y2) (.bool n3) (.slice a3 z3 y3) (.slice xo cs.length xc) (.string who) (.string act) (.string on) (.slice ao ms.length cap):=by
  rw[<- p];exact⟨by simp,by simp,by simp,by simp,by simp,by simp,by simp,by simp,by simp,by simp,by simp⟩
 have S:=hid p;have AI:=hid U;have B2:=hid b2;have C1:=hid c1;have C2:=hid c2;have C3:=hid c3;have CF:=hid cF;have HR:=hid t;obtain⟨z,D,E,G,H,I,J,K,L,q2,M⟩:=U;clear p b2 c1 c2 c3 cF t h d;go_enter func222,ntmps222
 go_upto_region 1 with fail
 rw[S.out]
 go_upto_region 2 with (go_at_call 243;refine (C1.out W2 B2.out).mono ?_;rintro e w3 ⟨rfl,a⟩;have j:Hid (Below w.heap.size w w3):=B2.out.trans (a.mono B2.out.size);have u:=hid (AI.out.below a);clear a)
 clear z D E G H I J K L q2 M AI B2 S;obtain⟨z,D,E,G,H,I,J,K,L,q2,M⟩:=u.out
 go_upto_region 3 with (go_at_call 243;refine (C2.out w3 j.out).mono ?_;rintro e w4 ⟨rfl,a⟩;have l:Hid (Below w.heap.size w w4):=j.out.trans (a.mono j.out.size);have x:=hid (u.out.below a);clear a)
 clear z D E G H I J K L q2 M u j;obtain⟨z,D,E,G,H,I,J,K,L,q2,M⟩:=x.out
 go_upto_region 4 with (go_at_call 243;refine (C3.out w4 l.out).mono ?_;rintro e w5 ⟨rfl,a⟩;have R:Hid (Below w.heap.size w w5):=l.out.trans (a.mono l.out.size);have P:=hid (x.out.below a);clear a)
 clear z D E G H I J K L q2 M x l
 go_cut [8] (λv wx=>v = .bool (A&&B&&C)/\wx=w5)
 case first=>
  cases A<;>cases B
  all_goals
   go_wp2_with fail
   go_meet
   case rel=>exact⟨by simp,rfl⟩
 case rest=>
  obtain⟨rfl,rfl⟩:=hcut;obtain⟨T,hT⟩:=Nm ((A&&B&&C));have HT:=hid hT;rw[hT];clear hT;go_wp2_with fail
  go_loopw [8,9] (λyv kv wr=>∃k:Nat,k<=cs.length/\kv = .int .i64 k/\yv = .bool (T&&(cs.take k).all f)/\Below w.heap.size w wr/\J3 wr w.heap.size (.bool n1) (.slice a1 z1 y1) (.bool n2) (.slice a2 z2 y2) (.bool n3) (.slice a3 z3 y3) (.slice xo cs.length xc) (.string who) (.string act) (.string on) (.slice ao ms.length cap)) (λ_ kv _=>cs.length-(intOf kv).toNat)
  case atStart=>exact⟨0,zH _,rfl,by simp,R.out,P.out⟩
  case round=>
   obtain⟨k,hk,rfl,rfl,hb,V⟩:=hrel;have i:=hid hb;have b6:=hid V;obtain⟨z,D,E,G,H,I,J,K,L,q2,M⟩:=V;clear hb z D E G H I P R
   by_cases hlt:k<cs.length
   ·rcases HR.out with e|⟨gb,o,rfl,N⟩
    ·subst e;simp at hlt
    obtain⟨lv,d0,d1,d2,d3,d4⟩:=N k hlt;obtain⟨la,lc,rfl,_⟩:=Yp d4;have t0:=zh i.out d0;have t1:=zh i.out d1;have t2:=zh i.out d2;have t3:=zh i.out d3;have Q:=hid (CF.out wr.drew i.out.drew cs[k] (qA hlt) _ (uI d4 i.out.drew));have b:=hid (Ez cs f k hlt);obtain⟨c,X⟩:=Nm (cs[k]);rw[X] at t0 t1 t2 t3 Q b;obtain⟨F,hF⟩:=Nm (f c);rw[hF] at Q b;obtain⟨Y,y⟩:=Nm ((T&&(cs.take k).all f));have d6:Hid ((T&&(cs.take (k+1)).all f)=(Y&&F)):=hid (by rw[b.out,<- Bool.and_assoc,y]);rw[y];obtain⟨op,key,vals,no⟩:=c;simp only at t0 t1 t2 t3 Q;obtain⟨m,a4⟩:=Nm vals.length;rw[a4] at t2 Q;clear N X hF y d0 d1 d2 d3 d4 b a4
    cases Y
    all_goals
     go_wp2_with fail
     go_region_held3 (λw'=>w'.cell? ⟨w.heap.size,7,none⟩=some (.slice (some ⟨gb,o,none⟩) cs.length xc)/\w'.cell? ⟨gb,o+k*4,none⟩=some (.string op)/\w'.cell? ⟨gb,o+k*4+1,none⟩=some (.string key)/\w'.cell? ⟨gb,o+k*4+2,none⟩=some (.slice la m lc)/\w'.cell? ⟨gb,o+k*4+3,none⟩=some (.bool no)/\w'.cell? ⟨w.heap.size+1,0,none⟩=some (.string who)/\w'.cell? ⟨w.heap.size+1,1,none⟩=some (.string act)/\w'.cell? ⟨w.heap.size+1,2,none⟩=some (.string on)/\w'.cell? ⟨w.heap.size+1,3,none⟩=some (.slice ao ms.length cap)) (go_keep) (first
      | ((go_at_call 244);refine Q.out.mono ?_;rintro e w6 ⟨rfl,a⟩;have g:Below wr.heap.size wr w6:=((ze _ wr).drew.trans a);have r7:=zh g J;have s0:=zh g t0;have s1:=zh g t1;have s2:=zh g t2;have s3:=zh g t3;have r0:=zh g K;have r1:=zh g L;have r2:=zh g q2;have r3:=zh g M;have b5:=hid (b6.out.below g);have b7:Hid (Below w.heap.size w w6):=i.out.trans (g.mono i.out.size);clear a g))
     all_goals
      go_wp2_with fail
      go_roundw
      case rel=>exact⟨k+1,by omega,by go_num,by rw[d6.out];rfl,b7.out,b5.out⟩
      case measure=>simp[intOf];omega
   ·have d7:k=cs.length:=by omega
    subst d7;rw[VW];obtain⟨Y,y⟩:=Nm ((T&&cs.all f));rw[y];have HY:=hid y;clear y
    go_wp2
    go_ret;exact⟨by rw[HT.out,HY.out];rfl,i.out⟩
end Go.Proofs.YtdakgnaojakldaaGreatDoor
