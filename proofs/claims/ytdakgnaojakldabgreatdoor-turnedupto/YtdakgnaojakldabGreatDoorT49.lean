/- P -/
import Derived.Test.YtdakgnaojakldabGreatDoorT48
open Go.Proofs.Tryz
set_option maxRecDepth 100000
set_option maxHeartbeats 4000000
namespace Go.Proofs.YtdakgnaojakldabGreatDoor
open Go.RowKit
def Vw(D a:List zD):Prop:=∀eff q,D.any (De.yH eff q)=a.any (De.yH eff q)
inductive qU:List zl->List zl->Prop
 | nil:qU [] []
 | cons {n:BA} {D D':List zD} {L L':List zl}:Vw D D'->qU L L'->qU ((n,D)::L) ((n,D')::L')
def Qf(b a:StO):Prop:=∀i,qU (b i) (a i)
theorem qU.append{A a B b:List zl}(h:qU A a)(k:qU B b):qU (A++B) (a++b):=by
 induction h with
 | nil=>exact k
 | cons hd _ c=>exact .cons hd c
theorem qU.take{A a:List zl}(h:qU A a):∀n,qU (A.take n) (a.take n):=by
 induction h with
 | nil=>intro n;simpa using qU.nil
 | cons hd _ b=>
  intro n
  cases n with
  | zero=>exact .nil
  | succ n=>exact .cons hd (b n)
theorem qU.drop{A a:List zl}(h:qU A a):∀n,qU (A.drop n) (a.drop n):=by
 induction h with
 | nil=>intro n;simpa using qU.nil
 | cons hd b c=>
  intro n
  cases n with
  | zero=>exact .cons hd b
  | succ n=>exact c n
theorem qU.length{A a:List zl}(h:qU A a):A.length=a.length:=by
 induction h with
 | nil=>rfl
 | cons _ _ b=>simp[b]
theorem qU.pos{A a:List zl}(h:qU A a)(name:BA):qy A name=qy a name:=by
 unfold qy
 induction h with
 | nil=>rfl
 | @cons n D b L d _ _ c=>
  have e:ltN name (n,D)=ltN name (n,b):=rfl;rw[List.takeWhile_cons,List.takeWhile_cons,e]
  split
  ·simp[c]
  ·rfl
theorem qU.get{A a:List zl}(h:qU A a):∀k:Nat,(A[k]?).map Prod.fst=(a[k]?).map Prod.fst:=by
 induction h with
 | nil=>intro k;rfl
 | cons _ _ b=>
  intro k
  cases k with
  | zero=>rfl
  | succ k=>simpa using b k
theorem qU.has{A b:List zl}(h:qU A b)(name:BA):zu A name=zu b name:=by
 have c:=h.pos name;have a:=h.get (qy A name);unfold zu;rw[<- c]
 cases e:A[qy A name]? with
 | none=>
  rw[e] at a
  cases e':b[qy A name]? with
  | none=>rfl
  | some y=>rw[e'] at a;cases a
 | some x=>
  rw[e] at a
  cases e':b[qy A name]? with
  | none=>rw[e'] at a;cases a
  | some y=>
   rw[e'] at a
   have:x.1=y.1:=by simpa using a
   simp only[this]
theorem qU.with{A a:List zl}(h:qU A a)(name:BA){D b:List zD}(hd:Vw D b):qU (yh A name D) (yh a name b):=by
 unfold yh;rw[<- h.pos name,<- h.has name];exact ((h.take _).append (.cons hd .nil)).append (h.drop _)
namespace De
theorem Js{A b:List zl}(h:qU A b)(eff:BA)(q:Ref.Req):(xH eff q A).map Prod.fst=(xH eff q b).map Prod.fst:=by
 induction h with
 | nil=>rfl
 | @cons n D a L d hd _ c=>
  have e:(jU eff q D).isSome=(jU eff q a).isSome:=by rw[dC,dC,hd eff q]
  rw[xH,xH];simp only
  cases e1:jU eff q D with
  | none=>
   rw[e1] at e
   cases e2:jU eff q a with
   | none=>exact c
   | some k=>rw[e2] at e;cases e
  | some k=>
   rw[e1] at e
   cases e2:jU eff q a with
   | none=>rw[e2] at e;cases e
   | some f=>rfl
theorem Ui{c b:StO}(h:Qf c b)(eff:BA)(q:Ref.Req):∀is:List Nat,(qA c eff q is).map (λx=>(x.1,x.2.1))=(qA b eff q is).map (λx=>(x.1,x.2.1))
 | []=>rfl
 | i::is=>by
  have e:=Js (h i) eff q;have d:=Ui h eff q is;rw[qA,qA]
  cases e1:xH eff q (c i) with
  | none=>
   rw[e1] at e
   cases e2:xH eff q (b i) with
   | none=>exact d
   | some k=>rw[e2] at e;cases e
  | some k=>
   rw[e1] at e
   cases e2:xH eff q (b i) with
   | none=>rw[e2] at e;cases e
   | some f=>
    rw[e2] at e;obtain⟨n,a⟩:=k;obtain⟨g,j⟩:=f
    have:n=g:=by simpa using e
    subst this
    rfl
theorem fB{b a:StO}(h:Qf b a)(q:Ref.Req)(i:Nat):uM b q i=uM a q i:=by
 have e:=Js (h i) xE q;have f:=(h i).length;unfold uM
 have c:(xH xE q (b i)).isSome=(xH xE q (a i)).isSome:=by
  have:=congrArg Option.isSome e
  simpa using this
 have d:(b i).isEmpty=(a i).isEmpty:=by
  cases h1:b i<;>cases h2:a i<;>simp[h1,h2] at f |-
 rw[c,d]
theorem Ab{d a:StO}(h:Qf d a)(q:Ref.Req):(uB d q).verdict=(uB a q).verdict/\(uB d q).layer=(uB a q).layer/\(uB d q).doc=(uB a q).doc:=by
 have b:=Ui h jE q [0,1,2,3];have c:=Ui h xE q [2,3];have e:=fB h q 0;have f:=fB h q 1;unfold uB
 cases h1:qA d jE q [0,1,2,3] with
 | some x=>
  rw[h1] at b
  cases h2:qA a jE q [0,1,2,3] with
  | none=>rw[h2] at b;cases b
  | some y=>
   rw[h2] at b;obtain⟨i,n,k⟩:=x;obtain⟨g,l,j⟩:=y;simp at b;obtain⟨rfl,rfl⟩:=b;exact⟨rfl,rfl,rfl⟩
 | none=>
  rw[h1] at b
  cases h2:qA a jE q [0,1,2,3] with
  | some y=>rw[h2] at b;cases b
  | none=>
   simp only;rw[<- e,<- f]
   split
   ·exact⟨rfl,rfl,rfl⟩
   ·cases h3:qA d xE q [2,3] with
    | some x=>
     rw[h3] at c
     cases h4:qA a xE q [2,3] with
     | none=>rw[h4] at c;cases c
     | some y=>
      rw[h4] at c;obtain⟨i,n,k⟩:=x;obtain⟨g,l,j⟩:=y;simp at c;obtain⟨rfl,rfl⟩:=c;exact⟨rfl,rfl,rfl⟩
    | none=>
     rw[h3] at c
     cases h4:qA a xE q [2,3] with
     | some y=>rw[h4] at c;cases c
     | none=>exact⟨rfl,rfl,rfl⟩
end De
namespace Kp
theorem lC{α:Type}(L:List α)(p:Nat)(d x:α):x ∈ (List.range L.length).map (λk=>L.getD ((k+p) % L.length) d)↔x ∈ L:=by
 by_cases h0:L.length=0
 ·have:L=[]:=List.length_eq_zero_iff.1 h0
  subst this
  simp
 ·constructor
  ·intro h;obtain⟨k,_,rfl⟩:=List.mem_map.1 h;have f:(k+p) % L.length<L.length:=Nat.mod_lt _ (by omega);rw[List.getD_eq_getElem?_getD,List.getElem?_eq_getElem f];exact List.getElem_mem _
  ·intro h;obtain⟨j,a,rfl⟩:=List.getElem_of_mem h;refine List.mem_map.2 ⟨(j+(L.length-p % L.length)) % L.length,List.mem_range.2 (Nat.mod_lt _ (by omega)),?_⟩;have g:p % L.length<L.length:=Nat.mod_lt _ (by omega)
   have e:((j+(L.length-p % L.length)) % L.length+p) % L.length=j:=by
    rw[Nat.mod_add_mod]
    have b:j+(L.length-p % L.length)+p=j+L.length+(p-p % L.length):=by
     have:=Nat.mod_le p L.length
     omega
    have c:p-p % L.length=L.length*(p / L.length):=by
     have:=Nat.div_add_mod p L.length
     omega
    rw[b,c,Nat.add_mul_mod_self_left,Nat.add_mod_right];exact Nat.mod_eq_of_lt a
   rw[e,List.getD_eq_getElem?_getD,List.getElem?_eq_getElem a]
   rfl
def jM(l:List Int)(b:Int):List Int:=(List.range (l.take 4).length).map (λi=>(l.take 4).getD ((i+zk b (l.take 4).length) % (l.take 4).length) 0)
def zN(l:List Int)(b:Int):List Int:=if 0<(jM l b).length/\(jM l b).length<4 then jM l b++[(jM l b).getD 0 0] else jM l b
theorem MH(l:List Int)(b:Int):(jM l b).length=(l.take 4).length:=by unfold jM;rw[List.length_map,List.length_range]
theorem Vm(l:List Int)(b:Int):(zN l b).length<=4/\((zN l b).length=0↔l.length=0):=by
 have h:=MH l b;rw[List.length_take] at h;unfold zN
 split
 ·rw[List.length_append,List.length_singleton];omega
 ·omega
theorem KO(l:List Int)(b x:Int):x ∈ zN l b↔x ∈ l.take 4:=by
 have h:=lC (l.take 4) (zk b (l.take 4).length) 0 x;have a:x ∈ jM l b↔x ∈ l.take 4:=h;unfold zN
 split
 ·rename_i c;rw[List.mem_append,List.mem_singleton,<- a]
  constructor
  ·rintro (h|rfl)
   ·exact h
   ·rw[List.getD_eq_getElem?_getD,List.getElem?_eq_getElem c.1];exact List.getElem_mem _
  ·exact .inl
 ·exact a
def vO(b style:Int)(r:zg):zg:=⟨r.deny,zN r.who b,zN r.act b,zN r.on b,r.nt,r.iff,r.key,r.val,r.no,style⟩
def uT(b style:Int)(l:List zg):List zg:=(List.range (l.take 4).length).map (λk=>vO b style ((l.take 4).getD ((k+zk b (l.take 4).length) % (l.take 4).length) qI))
theorem mY(b style:Int)(l:List zg):(uT b style l).length=(l.take 4).length:=by unfold uT;rw[List.length_map,List.length_range]
theorem dU(r:zg):uJ r=(zk r.iff 8==1||zk r.iff 8==6||zk r.iff 8==2||zk r.iff 8==3||zk r.iff 8==4):=by
 have a:∀x:BA,(⟨#[123]⟩++x:BA).size≠0:=λx=>by rw[ByteArray.size_append];show 1+_≠0;omega
 unfold uJ qV;generalize zk r.iff 8=j
 split
 ·rw[decide_eq_true (by simp only[ByteArray.append_assoc];exact a _)];rfl
 ·unfold vW;rw[decide_eq_true (by simp only[ByteArray.append_assoc];exact a _)];rfl
 ·unfold vW;rw[decide_eq_true (by simp only[ByteArray.append_assoc];exact a _)];rfl
 ·unfold vW;rw[decide_eq_true (by simp only[ByteArray.append_assoc];exact a _)];rfl
 ·unfold vW;rw[decide_eq_true (by simp only[ByteArray.append_assoc];exact a _)];rfl
 ·rename_i b c d f g;have e:decide ((⟨#[]⟩:BA).size≠0)=false:=by decide
  rw[e];symm;simp only[Bool.or_eq_false_iff,beq_eq_false_iff_ne];exact⟨⟨⟨⟨λe=>b e,λe=>c e⟩,λe=>d e⟩,λe=>f e⟩,λe=>g e⟩
end Kp
theorem pF{α:Type}{L c:List α}(h:∀x,x ∈ L↔x ∈ c)(f:α->Bool):L.any f=c.any f:=by
 rw[Bool.eq_iff_iff,List.any_eq_true,List.any_eq_true];exact⟨λ⟨x,b,a⟩=>⟨x,(h x).1 b,a⟩,λ⟨x,b,a⟩=>⟨x,(h x).2 b,a⟩⟩
namespace Kp
theorem lU(raw:List Int)(s:BA):s ∈ yg raw↔∃x ∈ raw.take 4,patterns.getD (zk x 14) ⟨#[]⟩=s:=by
 unfold yg;rw[List.mem_map]
theorem lT(raw:List Int):(yg raw).length=(raw.take 4).length:=by unfold yg;rw[List.length_map]
theorem tq(l:List Int)(b:Int)(s:BA):s ∈ qg (zN l b)↔s ∈ qg l:=by
 obtain⟨g,c⟩:=Vm l b;have d:(zN l b).take 4=zN l b:=List.take_of_length_le g;unfold qg;rw[lT,lT,d]
 by_cases e:l.length=0
 ·rw[if_pos (c.2 e),if_pos (by rw[List.length_take];omega)]
 ·rw[if_neg (λf=>e (c.1 f)),if_neg (by rw[List.length_take];omega),lU,lU,d]
  constructor
  ·rintro ⟨x,a,e⟩;exact⟨x,(KO l b x).1 a,e⟩
  ·rintro ⟨x,a,e⟩;exact⟨x,(KO l b x).2 a,e⟩
theorem KH(nt:Bool)(l:List Int)(b:Int)(w:BA)(q:Ref.Req):De.jr (nt,qg (zN l b)) w q=De.jr (nt,qg l) w q:=by
 unfold De.jr;rw[pF (tq l b)]
theorem Dz(b style:Int)(r:zg):uJ (vO b style r)=uJ r:=by rw[dU,dU];rfl
theorem eB(b style:Int)(r:zg)(eff:BA)(q:Ref.Req):De.yH eff q (stK (vO b style r))=De.yH eff q (stK r):=by
 have e:(stK (vO b style r)).eff=(stK r).eff:=rfl
 have f:(stK (vO b style r)).ifs=(stK r).ifs:=by
  show (if uJ (vO b style r) then [Zj (vO b style r)] else [])=(if uJ r then [Zj r] else [])
  rw[Dz]
  rfl
 have a:De.jr (stK (vO b style r)).who q.who q=De.jr (stK r).who q.who q:=KH _ r.who b _ _;have c:De.jr (stK (vO b style r)).act q.act q=De.jr (stK r).act q.act q:=KH _ r.act b _ _;have d:De.jr (stK (vO b style r)).on q.on q=De.jr (stK r).on q.on q:=KH _ r.on b _ _;unfold De.yH De.Yi;rw[e,f,a,c,d]
theorem mZ(b style:Int)(l:List zg)(x:zg):x ∈ uT b style l↔∃r ∈ l.take 4,vO b style r=x:=by
 have h:=lC (l.take 4) (zk b (l.take 4).length) qI;unfold uT;rw[List.mem_map]
 constructor
 ·rintro ⟨k,a,e⟩;exact⟨_,(h _).1 (List.mem_map.2 ⟨k,a,rfl⟩),e⟩
 ·rintro ⟨r,d,e⟩;obtain⟨k,a,c⟩:=List.mem_map.1 ((h r).2 d);exact⟨k,a,by rw[<- e,<- c]⟩
theorem Aw(b style:Int)(l:List zg):Vw (Qn l) (Qn (uT b style l)):=by
 intro eff q
 by_cases e:l.length=0
 ·have:l=[]:=List.length_eq_zero_iff.1 e
  subst this
  rfl
 ·have f:=mY b style l;rw[List.length_take] at f;unfold Qn Kg;rw[if_neg e,if_neg (by omega),List.take_of_length_le (l:=uT b style l) (by omega)];rw[Bool.eq_iff_iff,List.any_eq_true,List.any_eq_true]
  constructor
  ·rintro ⟨s,d,a⟩;obtain⟨r,c,rfl⟩:=List.mem_map.1 d;exact⟨_,List.mem_map.2 ⟨_,(mZ b style l _).2 ⟨r,c,rfl⟩,rfl⟩,by rw[eB];exact a⟩
  ·rintro ⟨s,d,a⟩;obtain⟨x,g,rfl⟩:=List.mem_map.1 d;obtain⟨r,c,rfl⟩:=(mZ b style l x).1 g;rw[eB] at a;exact⟨_,List.mem_map.2 ⟨r,c,rfl⟩,a⟩
def jw(b style:Int)(p:zY):zY:=⟨p.layer,p.name,uT b style p.rules⟩
theorem Ox{c a:StO}(h:Qf c a)(b style:Int)(p:zY):Qf (ja c p) (ja a (jw b style p)):=by
 have d:=(Xb c (XD p) (Q7 p) (xh p.rules) (Xa p.rules)).2;have f:=(Xb a (XD p) (Q7 p) (xh (uT b style p.rules)) (Xa _)).2;have g:ja c p=y9 c (p.lay:Int) (qi p.num) (xh p.rules):=rfl;have j:ja a (jw b style p)=y9 a (p.lay:Int) (qi p.num) (xh (uT b style p.rules)):=rfl;rw[g,j,d,f,<- (h p.lay).has,<- (h p.lay).length,Vn,Vn]
 split
 ·intro i
  by_cases e:i=p.lay
  ·subst e;rw[QD,QD];exact (h _).with _ (Aw b style p.rules)
  ·rw[X0 _ e,X0 _ e];exact h i
 ·exact h
theorem dG(b style:Int):∀(l:List zY) {c a:StO},Qf c a->Qf (l.foldl ja c) ((l.map (jw b style)).foldl ja a)
 | [],_,_,h=>h
 | p::l,_,_,h=>dG b style l (Ox h b style p)
theorem IE(b style:Int)(l:List zY):Qf (ui l) (ui (l.map (jw b style))):=dG b style l (λ_ => .nil)
theorem oP(b style:Int)(l:List zY)(raw:List Int):(De.yn (ui l) (qM raw)).1.verdict=(De.yn (ui (l.map (jw b style))) (qM raw)).1.verdict/\(De.yn (ui l) (qM raw)).1.layer=(De.yn (ui (l.map (jw b style))) (qM raw)).1.layer/\(De.yn (ui l) (qM raw)).1.doc=(De.yn (ui (l.map (jw b style))) (qM raw)).1.doc:=by
 unfold De.yn;rw[if_pos (Y8 raw),if_pos (Y8 raw)];exact De.Ab (IE b style l) _
end Kp
theorem Ed:(prog.info? 3).map (λi=>(i.zero,i.size,i.bytes))=some (some (.int .i64 0),1,8):=by kernel_rfl
namespace Kp
def uS(l:List Int)(b:Int)(k:Nat):List Int:=(List.range k).map (λi=>(l.take 4).getD ((i+zk b (l.take 4).length) % (l.take 4).length) 0)
theorem MJ(l:List Int)(b:Int)(k:Nat):uS l b (k+1)=uS l b k++[(l.take 4).getD ((k+zk b (l.take 4).length) % (l.take 4).length) 0]:=by
 unfold uS;rw[List.range_succ,List.map_append,List.map_singleton]
theorem MI(l:List Int)(b:Int)(k:Nat):(uS l b k).length=k:=by unfold uS;rw[List.length_map,List.length_range]
end Kp
theorem XP{w:World}{B:Nat}{t:TypeId}{s n:Nat}{v:Value}{xs:List Value}(h:w.ownsRow B t s v n xs):∃a c,v = .slice a n c:=by
 rcases h.2 with ⟨e,h0⟩|⟨gb,cap,cur,e,_⟩
 ·exact⟨none,0,by rw[e,h0]⟩
 ·exact⟨_,_,e⟩
def Y4(w:World)(l:List Int)(b:Int)(e:Ending)(c:World):Prop:=∃a,e = .returned a/\Below w.heap.size w c/\c.ownsRow w.heap.size 3 1 a (Kp.zN l b).length ((Kp.zN l b).map (Value.int .i64))
theorem KP(l:List Int)(b:Int)(lv:Value)(w:World)(h:IntsIn w lv l)(hm:l.length<=maxLen)(hb:I64 b) :
  Calls prog 6 #[lv,.int .i64 b] w (Y4 w l b):=by
 obtain⟨a,b4,rfl,z⟩:=h;obtain⟨L,hL⟩:∃n,l.length=n:=⟨_,rfl⟩;have hn:=List.length_take (i:=4) (l:=l);obtain⟨n,H⟩:=Nm ((l.take 4).length);rw[H,hL] at hn;have hp:=λ(m:0<n)=>Kp.qO b n m;have cp:=λ(W:World) (m:0<n)=>vL b n W hb m (by omega);obtain⟨p,J⟩:=Nm (Kp.zk b n);simp only[J] at hp cp;rw[hL] at hm |-;unfold maxLen at hm;have b6:min ((L:Nat):Int) 4=((n:Nat):Int):=by omega
 have a9:(if ((L:Nat):Int)<=4 then ((L:Nat):Int) else 4)=((n:Nat):Int):=by split<;>omega
 have b0:min 4 ((L:Nat):Int)=((n:Nat):Int):=by omega
 have d7:n<=4:=by omega
 have d8:n<=L:=by omega
 have Q:Hid (n=L\/n=4):=hid (by omega);clear hn;obtain⟨i0,R,U,V,Y⟩:=info_parts Ed;have HC:=hid z;have HL:=hid hL;have HN:=hid H;have HP:=hid J;have CP:=hid cp;clear z hL H J cp;go_enter func6,ntmps6
 go_upto_region 3 with fail
 go_loopw [5,6] (λov iv wr=>∃k:Nat,k<=n/\iv = .int .i64 k/\Below w.heap.size w wr/\wr.ownsRow w.heap.size 3 1 ov k ((Kp.uS l b k).map (Value.int .i64))) (λ_ iv _=>n-(intOf iv).toNat)
 case atStart=>exact⟨0,Nat.zero_le _,rfl,Below.refl _ _,World.ownsRow_nil _ _ _ _⟩
 case round=>
  obtain⟨k,hk,rfl,y,I⟩:=hrel
  by_cases hkn:k<n
  ·have m:0<n:=by omega
   have d9:=hp m;have T:(k+p) % n<n:=Nat.mod_lt _ m;obtain⟨j,hj⟩:=Nm ((k+p) % n);have S:j<l.length:=by rw[HL.out];omega
   obtain⟨hx,O,o,ea,q⟩:=HC.out j _ (List.getElem?_eq_getElem S);subst ea;have q':=zb y q;have A:=Kp.MJ l b k;rw[HN.out,HP.out,hj] at A
   have C:(l.take 4).getD j 0=l[j]:=by
    rw[List.getD_eq_getElem?_getD,List.getElem?_take,if_pos (by omega),List.getElem?_eq_getElem S]
    rfl
   rw[C] at A;obtain⟨x,g⟩:=Nm (l[j]);rw[g] at A q';have B:(Kp.uS l b (k+1)).map (Value.int .i64)=(Kp.uS l b k).map (Value.int .i64)++[.int .i64 x]:=by rw[A,List.map_append,List.map_singleton]
   obtain⟨X,P⟩:=Nm ((Kp.uS l b k).map (Value.int .i64));rw[P] at I B;rw[hj] at T;have e2:((k:Int)+(p:Int)) % (n:Int)=(j:Int):=by rw[<- hj,Int.natCast_emod,Int.natCast_add]
   have e1:Int.tmod ((k:Int)+(p:Int)) (n:Int)=(j:Int):=by rw[Int.tmod_eq_emod_of_nonneg (by omega)];exact e2
   have z0:((n:Int)==0)=false:=by simp;omega
   have d1:decide ((k:Int)<(L:Int))=true:=decide_eq_true (by omega);have d2:decide ((k:Int)<4)=true:=decide_eq_true (by omega);have j0:(0:Int)<=(j:Int):=Int.natCast_nonneg _;have j1:(j:Int)<(L:Int):=by omega
   have NX:=hid B;have v:=hid I;have r:=hid y;have CC:=hid (λW=>CP.out W m);have zw:=r.out.size;clear A B I y P g C hx q hj
   go_upto_region 6 with fail
   go_wp2_with (first
    | (go_at_call 5;refine (CC.out wr).mono ?_;rintro e w2 ⟨rfl,e2⟩;rw[e2];clear e2)
    | (at_builtin;refine wpList_append_own_at _ rfl _ _ 30 rfl w.heap.size 3 i0 (.int .i64 0) 1 8 underlying30 R U V Y rfl (by decide) _ k X rfl (World.ownsRow.alloc v.out _) ⟨wr.heap.size,0,none⟩ 1 1 [.int .i64 x] rfl rfl ?_ ?_ ?_ ?_ ?_ ?_))
   ·exact World.news_of_block (cs:=#[.int .i64 x]) (t:=3) (fr:=(0,0)) (heap_alloc_new wr _)
   ·intro u hu;simp at hu;subst hu;rfl
   ·unfold maxLen;omega
   ·omega
   ·simp;omega
   ·intro v' w8 d c _ _;have E:=hid ((r.out.alloc r.out.size (.cells #[.int .i64 x] 3)).grown c (by have:=r.out.size;simp;omega) (λk hk=>(World.ownsRow.lt v.out k hk).1));have F:Hid (w8.ownsRow w.heap.size 3 1 v' (k+1) ((Kp.uS l b (k+1)).map (Value.int .i64))):=by rw[NX.out];exact hid d
    clear d c
    go_wp2
    go_roundw
    case rel=>exact⟨k+1,by omega,by go_num,E.out,F.out⟩
    case measure=>simp[intOf];omega
  ·have a8:k=n:=by omega
   subst a8;have G:=Q.out;clear Q;have D:Kp.uS l b k=Kp.jM l b:=by unfold Kp.uS Kp.jM;rw[HN.out]
   have hlen:=Kp.MI l b k;rw[D] at I hlen;obtain⟨va,vc,rfl⟩:=XP I;have v:=hid I;have r:=hid y;have M:Hid (Kp.zN l b=if 0<k/\k<4 then Kp.jM l b++[(Kp.jM l b).getD 0 0] else Kp.jM l b):=hid (by unfold Kp.zN;rw[hlen])
   have f:=hid hlen;clear I y D hlen
   by_cases m:0<k
   ·by_cases h4:k<4
    ·have d1:decide ((k:Int)<(L:Int))=false:=decide_eq_false (by omega);have t1:decide (0<k)=true:=decide_eq_true m;have Z:decide ((0:Int)<(k:Int))=true:=decide_eq_true (by omega);have t2:decide ((k:Int)<4)=true:=decide_eq_true (by omega);have s:=M.out;rw[if_pos ⟨m,h4⟩] at s;have K:0<(Kp.jM l b).length:=by rw[f.out];exact m
     obtain⟨x,g⟩:=Nm ((Kp.jM l b).getD 0 0);rw[g] at s
     obtain⟨O,a0,b1⟩:∃O a0,Value.slice va k vc = .slice (some ⟨O,0,none⟩) k a0:=by
      rcases v.out.2 with ⟨_,e0⟩|⟨O,cap,cur,e,_⟩
      ·omega
      ·exact⟨O,cap,e⟩
     injection b1 with hva1 _ hva2
     subst hva1;subst hva2
     have q0:wr.cell? ⟨O,0,none⟩=some (.int .i64 x):=by
      have hc:=World.ownsRow.cellAt v.out 0 (by omega);rw[hc,List.getElem?_map,List.getElem?_eq_getElem K,Option.map_some];rw[List.getD_eq_getElem?_getD,List.getElem?_eq_getElem K] at g;rw[<- g]
      rfl
     have k0:(0:Int)<(k:Int):=by omega
     have zw:=r.out.size;clear G;obtain⟨X,P⟩:=Nm ((Kp.jM l b).map (Value.int .i64));have HX:=hid P;have N:=hid s;rw[P] at v;clear s g P M K
     go_wp2_with (at_builtin;refine wpList_append_own_at _ rfl _ _ 30 rfl w.heap.size 3 i0 (.int .i64 0) 1 8 underlying30 R U V Y rfl (by decide) _ k X rfl (World.ownsRow.alloc v.out _) ⟨wr.heap.size,0,none⟩ 1 1 [.int .i64 x] rfl rfl ?_ ?_ ?_ ?_ ?_ ?_)
     ·rfl
     ·unfold maxLen;omega
     ·omega
     ·omega
     ·intro v' w8 d c _ _;have E:=hid ((r.out.alloc r.out.size (.cells #[.int .i64 x] 3)).grown c (by have:=r.out.size;simp;omega) (λk hk=>(World.ownsRow.lt v.out k hk).1));have F:=hid d;clear d c
      go_wp2
      go_ret;refine⟨_,rfl,E.out,?_⟩;rw[N.out,List.length_append,List.length_singleton,f.out,List.map_append,List.map_singleton,HX.out];exact F.out
    ·have a7:k=4:=by omega
     have s:=M.out;rw[if_neg (λh=>h4 h.2)] at s;have t1:decide (0<k)=true:=decide_eq_true m;have Z:decide ((0:Int)<(k:Int))=true:=decide_eq_true (by omega);have t2:decide ((k:Int)<4)=false:=decide_eq_false (by omega);have N:=hid s;clear s M a7 G
     by_cases hkL:k<L
     ·have d1:decide ((k:Int)<(L:Int))=true:=decide_eq_true (by omega);go_wp2_with fail;go_ret;refine⟨_,rfl,r.out,?_⟩;rw[N.out,f.out];exact v.out
     ·have d1:decide ((k:Int)<(L:Int))=false:=decide_eq_false (by omega);go_wp2_with fail;go_ret;refine⟨_,rfl,r.out,?_⟩;rw[N.out,f.out];exact v.out
   ·have s:=M.out;rw[if_neg (λh=>m h.1)] at s;have d1:decide ((k:Int)<(L:Int))=false:=decide_eq_false (by omega);have t1:decide (0<k)=false:=decide_eq_false m;have Z:decide ((0:Int)<(k:Int))=false:=decide_eq_false (by omega);have N:=hid s;clear s M G;go_wp2_with fail;go_ret;refine⟨_,rfl,r.out,?_⟩;rw[N.out,f.out];exact v.out
end Go.Proofs.YtdakgnaojakldabGreatDoor
