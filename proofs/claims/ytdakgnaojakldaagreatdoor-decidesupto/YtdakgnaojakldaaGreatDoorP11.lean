/- P -/
import Derived.Test.YtdakgnaojakldaaGreatDoorP01
import Derived.Deep.RegionWith
import Derived.Deep.Light
open Go.Proofs.Tryz
set_option maxRecDepth 100000
set_option maxHeartbeats 1000000
namespace Go.Proofs.YtdakgnaojakldaaGreatDoor
open Go.RowKit
theorem Tryz.infoString:(prog.info? 9).map (λi=>(i.zero,i.size,i.bytes))=some (some (.string ⟨#[]⟩),1,16):=by kernel_rfl
theorem dP(s:BY)(w:World)(N:s.size*16<=140737488355328) :
  Calls prog 219 #[.string s] w λe w'=>∃v,e = .returned (.tuple #[v,.bool (Ref.chars s).isSome])/\Below w.heap.size w w' /\
   w'.ownsRow w.heap.size 9 1 v ((Ref.chars s).getD []).length (Ref.strCells ((Ref.chars s).getD [])):=by
 obtain⟨L,hi,A,B,C⟩:=xA Tryz.infoString;have F:Ref.chars s=(Ref.jq (s.size+1) s).map λr=>[]++r:=by unfold Ref.chars;simp
 generalize p:Ref.chars s=P at *;clear p;have E:=hid F;clear F;go_enter func219,ntmps219
 go_wp2
 go_loopw [0,4] (λD lv wr=>∃(t:BY) (f:Nat) (done:List BY),D = .string t/\done.length+t.size<=s.size/\t.size<f/\P=((Ref.jq f t).map λr=>done++r) /\
   wr.ownsRow w.heap.size 9 1 lv done.length (Ref.strCells done)/\Below w.heap.size w wr) (λD _ _=>Ref.JF D)
 case atStart=>exact⟨s,s.size+1,[],rfl,by simp,by omega,E.out,ql _ _ _ _,ze _ _⟩
 case round=>
  obtain⟨t,f,done,rfl,J,y,l,b,a⟩:=hrel;have d:=hid l;clear l E;have K:=a.size
  by_cases hp:0<t.size
  ·have x:=Ref.YF t hp
   cases hok:Ref.vY t with
   | false=>
    have n:=hid hok;have g:=Ref.Gs P f t done hp y d.out hok;subst g;clear hok d
    go_wp2_with (go_at_call 217;refine (YG t _ false _ (by unfold maxLen;omega) hp rfl n.out).mono ?_;rintro e w' ⟨rfl,rfl⟩)
    go_ret2;exact⟨_,rfl,a,ql _ _ _ _⟩
   | true=>
    obtain⟨c,m⟩:=Nm (Ref.zZ t);rw[m] at x;obtain⟨I,z,k⟩:=Ref.Gr P f t done hp y d.out c m hok;have o:=hid k;have H:=hid m;have n:=hid hok;clear k m hok d
    go_wp2_with (first
     | (go_at_call 217;refine (YG t c true _ (by unfold maxLen;omega) hp H.out n.out).mono ?_;rintro e w' ⟨rfl,rfl⟩)
     | (at_builtin;refine vS _ rfl _ _ 42 rfl w.heap.size 9 L (.string ⟨#[]⟩) 1 16 underlying42 hi A B C rfl (by decide) _ done.length (Ref.strCells done) rfl (b.alloc _) ⟨w'.heap.size,0,none⟩ 1 1 [.string c] rfl rfl ?_ ?_ ?_ ?_ ?_ ?_))
    ·exact cell_one_new _ _ _
    ·intro u G;simp at G;subst G;rfl
    ·unfold maxLen;omega
    ·omega
    ·simp;omega
    ·intro M w1 i h _;have q:=nH a b _ h;have j:w1.ownsRow w.heap.size 9 1 M (done++[c]).length (Ref.strCells (done++[c])):=by rw[Ref.CZ,qB];exact i
     clear i h b
     go_wp2
     go_roundw
     case rel=>exact⟨_,I,_,rfl,by simp;omega,z,o.out,j,q⟩
     case measure=>simp[Ref.JF];omega
  ·have g:=Ref.Gq P f t done hp y d.out;subst g;clear d
   go_wp2
   go_ret2;exact⟨_,rfl,a,b⟩
theorem zdb(s:BY)(w:World)(f:s.size*16<=140737488355328) :
  Calls prog 178 #[.string s] w λe w'=>e = .returned (.bool (Ref.yT s))/\Below w.heap.size w w':=by
 have d:Ref.yT s=((Ref.chars s).isSome&&decide ((s.size:Int)<=100)):=by unfold Ref.yT;congr 1;rw[decide_eq_decide];omega
 have c:=hid d;clear d;go_enter func178,ntmps178
 go_wp2_with (go_at_call 219;refine (dP s _ f).mono ?_;rintro e w1 ⟨v,rfl,a,_⟩)
 ·have b:(Ref.chars s).isSome=true:=by assumption
  go_ret;exact⟨ZB (by rw[c.out,b,jC]),a⟩
 ·have b:¬(Ref.chars s).isSome=true:=by assumption
  go_ret;exact⟨ZB (by rw[c.out,Bool.eq_false_iff.2 b,uJ]),a⟩
namespace Ref
structure Req where
 who:BY
 act:BY
 on:BY
 marks:List (BY×BY)
def zY(r:Req)(ao:Option Addr)(cap:Nat):Value := .agg #[.string r.who,.string r.act,.string r.on,.slice ao r.marks.length cap]
def Vl(ms:List (BY×BY))(name:BY):Option BY:=(ms.find? λm=>m.1.toList==name.toList).map Prod.snd
def says(r:Req)(name:BY):Option BY:=
 if name.toList==[119,104,111] then some r.who else if name.toList==[100,111] then some r.act else if name.toList==[111,110] then some r.on else Vl r.marks name
theorem wz(ms:List (BY×BY))(name:BY)(k:Nat)(b:k<ms.length)(hb:∀j (h:j<k),(ms[j].1.toList==name.toList)=false)(h:(ms[k].1.toList==name.toList)=true) :
  Vl ms name=some ms[k].2:=by
 unfold Vl;have e:(ms.find? λm=>m.1.toList==name.toList)=some ms[k]:=List.find?_eq_some_iff_getElem.2 ⟨h,k,b,rfl,λj a=>by simpa using hb j a⟩;rw[e];rfl
theorem wC(ms:List (BY×BY))(name:BY)(k:Nat)(c:¬k<ms.length)(hb:∀j (_:j<k) (_:j<ms.length),(ms[j].1.toList==name.toList)=false) :
  Vl ms name=none:=by
 unfold Vl;rw[Option.map_eq_none_iff,Yv];intro x b;obtain⟨j,a,rfl⟩:=Qb b
 simpa using hb j (by omega) a
end Ref
def qQ(w:World)(ao:Option Addr)(ms:List (BY×BY)):Prop:=
 ms=[]\/∃b o,ao=some ⟨b,o,none⟩/\∀j,(h:j<ms.length)->w.cell? ⟨b,o+j*2,none⟩=some (.string ms[j].1)/\w.cell? ⟨b,o+j*2+1,none⟩=some (.string ms[j].2)
theorem Cb(r:Ref.Req)(name:BY)(ao:Option Addr)(cap:Nat)(w:World)(v:r.marks.length<=100000000000)(q:qQ w ao r.marks) :
  Calls prog 242 #[Ref.zY r ao cap,.string name] w λe w'=>
   e = .returned (.tuple #[.string ((Ref.says r name).getD ⟨#[]⟩),.bool (Ref.says r name).isSome])/\Below w.heap.size w w':=by
 obtain⟨who,act,on,ms⟩:=r;generalize a:Ref.says ⟨who,act,on,ms⟩ name=P at *;unfold Ref.says at a;simp only at a v q;unfold Ref.zY;simp only
 cases c1:name.toList==[119,104,111] with
 | true=>
  rw[zb c1] at a;subst a;go_enter func242,ntmps242
  go_wp2
  go_ret2;exact⟨rfl,nbl _ _⟩
 | false=>
 rw[za (by simp[c1])] at a
 cases c2:name.toList==[100,111] with
 | true=>
  rw[zb c2] at a;subst a;go_enter func242,ntmps242
  go_wp2
  go_ret2;exact⟨rfl,nbl _ _⟩
 | false=>
 rw[za (by simp[c2])] at a
 cases c3:name.toList==[111,110] with
 | true=>
  rw[zb c3] at a;subst a;go_enter func242,ntmps242
  go_wp2
  go_ret2;exact⟨rfl,nbl _ _⟩
 | false=>
 rw[za (by simp[c3])] at a;have p:=hid a;clear a;go_enter func242,ntmps242
 go_wp2
 go_loop [6] (λi=>∃k:Nat,k<=ms.length/\i = .int .i64 k/\∀j (_:j<k) (_:j<ms.length),(ms[j].1.toList==name.toList)=false) (λi=>ms.length-(intOf i).toNat)
 case atStart=>exact⟨0,zH _,rfl,λj h=>by omega⟩
 case round=>
  obtain⟨k,x,rfl,hb⟩:=hrel;have f:=hid hb;clear hb
  by_cases hlt:k<ms.length
  ·rcases q with rfl|⟨b,o,rfl,hc⟩
   ·simp at hlt
   obtain⟨s,c⟩:∃n,ms[k].1=n:=⟨_,rfl⟩;obtain⟨A,d⟩:∃n,ms[k].2=n:=⟨_,rfl⟩;obtain⟨l,q2⟩:=hc k hlt;rw[c] at l;rw[d] at q2;have m:=hid c;have t:=hid d;have y:=λO:Obj=>zh (nbl w O) l;have z:=λO:Obj=>zh (nbl w O) q2;clear c d hc l q2
   go_wp2
   ·have g:(s.toList==name.toList)=true:=by assumption
    have e:=Ref.wz ms name k hlt (λj h=>f.out j h (by omega)) (by rw[m.out];exact g);rw[t.out,p.out] at e;subst e;go_ret2;exact⟨rfl,nbl _ _⟩
   ·have g:(s.toList==name.toList)=false:=by assumption
    refine⟨⟨k+1,by omega,by go_num,λj h u=>?_⟩,by simp[intOf];omega⟩
    by_cases hj:j=k
    ·subst hj;rw[m.out];exact g
    ·exact f.out j (by omega) u
  ·have e:=Ref.wC ms name k hlt f.out;rw[p.out] at e;subst e
   go_wp2
   go_ret2;exact⟨rfl,nbl _ _⟩
theorem Cc(r:Ref.Req)(name:BY)(ao:Option Addr)(cap:Nat)(w:World)(c:r.marks.length<=100000000000)(b:qQ w ao r.marks)(P:Option BY)(a:Ref.says r name=P) :
  Calls prog 242 #[Ref.zY r ao cap,.string name] w λe w'=>
   e = .returned (.tuple #[.string (P.getD ⟨#[]⟩),.bool P.isSome])/\Below w.heap.size w w':=by
 subst a;exact Cb r name ao cap w c b
namespace Ref
def jP(m:BY×BY):Bool:=zX m.1&&yT m.2 && !(m.1.toList==[119,104,111]) && !(m.1.toList==[100,111]) && !(m.1.toList==[111,110])
def xP(r:Req):Bool:=yT r.who&&yT r.act&&yT r.on&&decide (r.marks.length<=10)&&r.marks.all jP
def aI(r:Req):Prop:=r.who.size*16<=140737488355328/\r.act.size*16<=140737488355328/\r.on.size*16<=140737488355328/\r.marks.length<=100000000000 /\
 ∀m ∈ r.marks,m.1.size*16<=140737488355328/\m.2.size*16<=140737488355328
theorem Ey(ms:List (BY×BY))(k:Nat)(h:k<ms.length):(ms.take (k+1)).all jP=((ms.take k).all jP&&jP ms[k]):=by
 rw[QD h,JM];simp
theorem El(ms:List (BY×BY))(k:Nat)(h:k<ms.length)(hb:jP ms[k]=false):ms.all jP=false:=by
 rw[List.all_eq_false];exact⟨ms[k],qA h,by simp[hb]⟩
end Ref
theorem xB{w w':World}{ao:Option Addr}{ms:List (BY×BY)}(h:qQ w ao ms)(hb:Below w.heap.size w w'):qQ w' ao ms:=by
 rcases h with h|⟨b,o,ha,hc⟩
 ·exact .inl h
 ·exact .inr ⟨b,o,ha,λj a=>⟨zh hb (hc j a).1,zh hb (hc j a).2⟩⟩
theorem bn(s:BY)(b:Bool)(w:World)(a:s.size*16<=140737488355328)(hb:Ref.yT s=b) :
  Calls prog 178 #[.string s] w λe w'=>e = .returned (.bool b)/\Below w.heap.size w w':=by
 subst hb;exact zdb s w a
theorem Ph(s:BY)(b:Bool)(w:World)(a:s.size<=maxLen)(hb:Ref.zX s=b) :
  Calls prog 180 #[.string s] w λe w'=>e = .returned (.bool b)/\w'=w:=by
 subst hb;exact KU s w a
theorem zax(r:Ref.Req)(ao:Option Addr)(cap:Nat)(w:World)(hr:Ref.aI r)(N:qQ w ao r.marks) :
  Calls prog 177 #[Ref.zY r ao cap] w λe w'=>e = .returned (.bool (Ref.xP r))/\Below w.heap.size w w':=by
 obtain⟨who,act,on,ms⟩:=r;obtain⟨z1,z2,z3,z4,T⟩:=hr;simp only at z1 z2 z3 z4 T N;obtain⟨P,B⟩:=Nm (Ref.xP ⟨who,act,on,ms⟩);rw[B];unfold Ref.xP at B;simp only at B;unfold Ref.zY;simp only;obtain⟨a,M⟩:=Nm (Ref.yT who);obtain⟨b,hb⟩:∃a,Ref.yT act=a:=⟨_,rfl⟩;obtain⟨c,x⟩:∃a,Ref.yT on=a:=⟨_,rfl⟩;rw[M,hb,x] at B;have A:=hid B;have HA:=hid M;have HB:=hid hb;have HC:=hid x;have U:=hid N;have Z5:=hid T;clear B M hb x N T;go_enter func177,ntmps177;go_wp2_with fail;refine (bn who a _ z1 HA.out).mono ?_;rintro e w1 ⟨rfl,g⟩;have x1:w1.cell? ⟨w.heap.size,1,none⟩=some (.string act):=zh g (by simp);have x2:w1.cell? ⟨w.heap.size,2,none⟩=some (.string on):=zh g (by simp);have x3:w1.cell? ⟨w.heap.size,3,none⟩=some (.slice ao ms.length cap):=zh g (by simp);have K:Below w.heap.size w w1:=(nbl w _).trans (g.mono (by simp));clear g;go_wp2_with fail;refine (bn act b _ z2 HB.out).mono ?_;rintro e R ⟨rfl,l⟩;have y2:R.cell? ⟨w.heap.size,2,none⟩=some (.string on):=zh l x2;have y3:R.cell? ⟨w.heap.size,3,none⟩=some (.slice ao ms.length cap):=zh l x3;have L:Below w.heap.size w R:=K.trans (l.mono K.size);clear l x1 x2 x3;go_wp2_with fail;refine (bn on c _ z3 HC.out).mono ?_;rintro e S ⟨rfl,v⟩;have u3:S.cell? ⟨w.heap.size,3,none⟩=some (.slice ao ms.length cap):=zh v y3;have u:Below w.heap.size w S:=L.trans (v.mono L.size);have G:qQ S ao ms:=xB U.out u;have D:=hid G;clear v y2 y3 K L G U
 cases a with
 | false=>
  have h:P=false:=by rw[<- A.out];simp
  subst h
  go_wp2
  go_ret;exact⟨rfl,u⟩
 | true=>
 cases b with
 | false=>
  have h:P=false:=by rw[<- A.out];simp
  subst h
  go_wp2
  go_ret;exact⟨rfl,u⟩
 | true=>
 cases c with
 | false=>
  have h:P=false:=by rw[<- A.out];simp
  subst h
  go_wp2
  go_ret;exact⟨rfl,u⟩
 | true=>
 by_cases hl:10<ms.length
 ·have h:P=false:=by rw[<- A.out];simp;omega
  subst h
  go_wp2
  go_ret;exact⟨rfl,u⟩
 have b8:decide (10<(ms.length:Int))=false:=by simp;omega
 have t:Hid (ms.all Ref.jP=P):=by
  have:=A.out
  rw[show decide (ms.length<=10)=true by simp;omega] at this;exact (by simpa using this:ms.all Ref.jP=P)
 clear A
 go_wp2
 go_loopw [6] (λi wr=>∃k:Nat,k<=ms.length/\i = .int .i64 k/\(ms.take k).all Ref.jP=true/\Below w.heap.size w wr/\wr.cell? ⟨w.heap.size,3,none⟩=some (.slice ao ms.length cap)/\qQ wr ao ms) (λi _=>ms.length-(intOf i).toNat)
 case atStart=>exact⟨0,zH _,rfl,rfl,u,u3,D.out⟩
 case round=>
  obtain⟨k,hk,rfl,s,d,F,Q⟩:=hrel;clear u3 u D;have f:=hid s;clear s
  by_cases hlt:k<ms.length
  ·rcases Q with rfl|⟨bb,o,rfl,x⟩
   ·simp at hlt
   have H:=Z5.out ms[k] (qA hlt);obtain⟨J,p⟩:∃n,ms[k].1=n:=⟨_,rfl⟩;obtain⟨Z,q⟩:∃n,ms[k].2=n:=⟨_,rfl⟩;obtain⟨Y,q2⟩:=x k hlt;obtain⟨W,y⟩:∃n,Ref.zX J=n:=⟨_,rfl⟩;obtain⟨X,z⟩:∃n,Ref.yT Z=n:=⟨_,rfl⟩;have I:Ref.jP ms[k]=(W&&X && !(J.toList==[119,104,111]) && !(J.toList==[100,111]) && !(J.toList==[111,110])):=by unfold Ref.jP;rw[p,q,y,z]
   rw[p] at Y;rw[q] at q2;rw[p,q] at H;obtain⟨m1,m2⟩:=H;have HN:=hid y;have HV:=hid z;have C:=hid x;have E:=hid I;clear p q x y z I;go_wp2_with fail;refine (Ph J W _ (by unfold maxLen;omega) HN.out).mono ?_;rintro e w4 ⟨rfl,rfl⟩;go_wp2_with fail;refine (bn Z X _ m2 HV.out).mono ?_;rintro e w5 ⟨rfl,m⟩;have t3:=zh m F;have V:Below w.heap.size w w5:=d.trans (m.mono d.size);have O:Hid (qQ w5 (some ⟨bb,o,none⟩) ms):=xB (.inr ⟨bb,o,rfl,C.out⟩) m;clear m F d C Y q2
   go_wp2
   case roundEnd=>
    have j:Ref.jP ms[k]=true:=by
     have hh:=E.out
     go_light
     simp_all
    refine⟨⟨k+1,by omega,by go_num,?_,V,t3,O.out⟩,by simp[intOf];omega⟩;rw[Ref.Ey ms k hlt,f.out,j];rfl
   all_goals
    have j:Ref.jP ms[k]=false:=by
     have hh:=E.out
     go_light
     simp_all
    have h:P=false:=by rw[<- t.out,Ref.El ms k hlt j]
    subst h;go_ret;exact⟨rfl,V⟩
  ·have h:P=true:=by rw[<- t.out,<- f.out,ZO (by omega)]
   subst h;clear t f
   go_wp2
   go_ret;exact⟨rfl,d⟩
namespace Ref
def Zy(r:Req)(p:Int×BY):Option (List (Int×BY)):=
 if p.1=4 then (says r p.2).map λv=>((chars v).getD []).map λc=>((1:Int),c) else some [p]
def laid(r:Req):List (Int×BY)->Option (List (Int×BY))
 | []=>some []
 | p::ps=>match Zy r p with
  | none=>none
  | some a=>(laid r ps).map λb=>a++b
theorem Gp(f:Nat)(s:BY)(l:List BY)(h:jq f s=some l):l.length<=s.size:=by
 induction f generalizing s l with
 | zero=>simp[jq] at h
 | succ f b=>
  rw[jq] at h
  split at h
  ·simp at h;subst h;simp
  split at h
  ·simp at h
  ·rename_i d _;obtain⟨r,a,rfl⟩:=vU.1 h
   have:=b _ _ a
   have c:=YF s (by omega);rw[yz] at this
   simp;omega
theorem Ue(s:BY):((chars s).getD []).length<=s.size:=by
 cases h:chars s with
 | none=>simp
 | some l=>exact Gp _ _ _ h
theorem KY(r:Req)(c:List (Int×BY))(k:Nat)(e:k<c.length)(done:List (Int×BY))(P:Option (List (Int×BY)))
  (h:P=(laid r (c.drop k)).map λb=>done++b)(a:List (Int×BY))(d:Zy r c[k]=some a):P=(laid r (c.drop (k+1))).map λb=>(done++a)++b:=by
 rw[h,jf e,laid,d];simp[Option.map_map,Function.comp_def]
theorem tu(r:Req)(a:List (Int×BY))(k:Nat)(d:k<a.length)(done:List (Int×BY))(P:Option (List (Int×BY)))
  (h:P=(laid r (a.drop k)).map λb=>done++b)(c:Zy r a[k]=none):P=none:=by
 rw[h,jf d,laid,c];rfl
theorem tq(r:Req)(a:List (Int×BY))(k:Nat)(c:¬k<a.length)(done:List (Int×BY))(P:Option (List (Int×BY)))
  (h:P=(laid r (a.drop k)).map λb=>done++b):P=some done:=by
 rw[h,XT (by omega),laid];simp
theorem gU(a:List (Int×BY))(j:Nat)(h:j<a.length):(qK a)[j*2]?=some (.int .i64 a[j].1)/\(qK a)[j*2+1]?=some (.string a[j].2):=by
 induction a generalizing j with
 | nil=>simp at h
 | cons p a b=>
  have e:qK (p::a) = .int .i64 p.1 :: .string p.2::qK a:=by simp[qK]
  rw[e]
  cases j with
  | zero=>simp
  | succ j=>
   have:=b j (by simpa using h)
   rw[show (j+1)*2=(j*2)+1+1 by omega,show (j*2)+1+1+1=(j*2+1)+1+1 by omega]
   simpa using this
theorem zb2(l:List BY)(j:Nat)(h:j<l.length):(strCells l)[j]?=some (.string l[j]):=by
 simp[strCells,h]
def xO(cs:List BY):List (Int×BY)->Nat->Bool
 | [],k=>k==0
 | p::ps,k=>if p.1=3 then (List.range (k+1)).any (xO cs ps) else if k=0 then false else if p.1=2 then xO cs ps (k-1) else xO cs ps (k-1)&&(p.2.toList==(cs.getD (k-1) ⟨#[]⟩).toList)
def covers(a:List (Int×BY))(cs:List BY):Bool:=xO cs a.reverse cs.length
def jc(f:Nat->Bool)(n:Nat):List Value:=(List.range n).map λj => .bool (f j)
theorem UM(f:Nat->Bool)(n j:Nat)(h:j<n):(jc f n)[j]?=some (.bool (f j)):=by
 unfold jc;rw[uO,Kb h];rfl
def upTo(f:Nat->Bool)(k j:Nat):Bool:=decide (j<k)&&f j
theorem BM(f:Nat->Bool)(n k:Nat)(b:Bool)(hb:f k=b):(jc (upTo f k) n).set k (.bool b)=jc (upTo f (k+1)) n:=by
 apply VR;intro j;unfold jc upTo;rw[zq]
 by_cases hj:j<n
 ·by_cases hk:k=j
  ·subst hk;simp[hj,hb]
  ·simp[hj,hk]
   have:(j<k)↔(j<k+1):=by omega
   simp[this]
 ·by_cases hk:k=j
  ·subst hk;simp[hj]
  ·simp[hj,hk]
theorem zaG(f:Nat->Bool)(n k:Nat)(hb:f k=false):jc (upTo f k) n=jc (upTo f (k+1)) n:=by
 unfold jc;apply Y8;intro j _;unfold upTo
 by_cases hk:k=j
 ·subst hk;simp[hb]
 ·have:(j<k)↔(j<k+1):=by omega
  simp[this]
theorem zaF(f:Nat->Bool)(n k:Nat)(b:n<=k):jc (upTo f k) n=jc f n:=by
 unfold jc;apply Y8;intro j a
 have:=jW.1 a
 unfold upTo
 simp;omega
theorem BL(f:Nat->Bool)(n:Nat):jc (upTo f 0) n=List.replicate n (.bool false):=by
 apply VR;intro j;unfold jc upTo
 by_cases hj:j<n<;>simp[hj]
theorem Ih(cs:List BY)(n:Nat):(List.replicate (n+1) (Value.bool false)).set 0 (.bool true)=jc (xO cs []) (n+1):=by
 have h:=BM (xO cs []) (n+1) 0 true rfl;rw[BL] at h;rw[h];unfold jc;apply Y8;intro j _;unfold upTo xO
 by_cases hj:j=0
 ·subst hj;rfl
 ·have:¬j<1:=by omega
  simp[this,hj]
theorem Ii(cs:List BY)(p:Int×BY)(a:List (Int×BY))(h:p.1=3)(k:Nat)(b:0<k):xO cs (p::a) k=(xO cs a k||xO cs (p::a) (k-1)):=by
 obtain⟨m,rfl⟩:∃m,k=m+1:=⟨k-1,by omega⟩;simp only[xO,h,qJ,JV];rw[JR (n:=m+1),List.any_append];simp[Bool.or_comm]
theorem Ij(cs:List BY)(p:Int×BY)(a:List (Int×BY))(h:p.1=3):xO cs (p::a) 0=xO cs a 0:=by
 simp[xO,h]
theorem oP(cs:List BY)(p:Int×BY)(a:List (Int×BY))(h:p.1≠3):xO cs (p::a) 0=false:=by
 simp[xO,h]
theorem oN(cs:List BY)(p:Int×BY)(a:List (Int×BY))(h:p.1=2)(k:Nat)(b:0<k):xO cs (p::a) k=xO cs a (k-1):=by
 simp only[xO];rw[za (by omega),za (by omega),zb h]
theorem oO(cs:List BY)(p:Int×BY)(a:List (Int×BY))(c:p.1≠3)(b:p.1≠2)(k:Nat)(e:0<k)(d:k-1<cs.length) :
  xO cs (p::a) k=(xO cs a (k-1)&&(p.2.toList==cs[k-1].toList)):=by
 simp only[xO];rw[za c,za (by omega),za b,zQ,zm d];rfl
theorem zcy(a:List (Int×BY))(i:Nat)(h:i<a.length):(a.take (i+1)).reverse=a[i]::(a.take i).reverse:=by
 rw[QD h,List.reverse_append];rfl
def jy(pattern word:BY)(r:Req):Bool:=
 match laid r ((parts pattern).getD []) with
 | none=>false
 | some q=>covers q ((chars word).getD [])
theorem Wy(f:Nat)(s:BY)(l:List (Int×BY))(h:jA f s=some l):l.length<=s.size:=by
 induction f generalizing s l with
 | zero=>simp[jA] at h
 | succ f c=>
  rw[jA] at h
  split at h
  ·simp at h;subst h;simp
  split at h
  ·simp at h
  ·rename_i e k t n b;obtain⟨r,a,rfl⟩:=vU.1 h
   have:=c _ _ a
   have d:=gV s (by omega) k t n b;rw[yz] at this
   simp;omega
theorem Bf(s:BY):((parts s).getD []).length<=60:=by
 cases h:parts s with
 | none=>simp
 | some l=>
  unfold parts at h
  split at h
  ·simp at h
  ·have:=Wy _ _ _ h
   simp;omega
theorem gX(s:BY)(h:(parts s).isSome=true):s.size<=60:=by
 unfold parts at h
 split at h
 ·simp at h
 ·omega
end Ref
end Go.Proofs.YtdakgnaojakldaaGreatDoor
