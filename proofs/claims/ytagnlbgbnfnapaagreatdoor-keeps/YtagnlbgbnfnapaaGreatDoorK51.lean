/- P -/
import Derived.Test.YtagnlbgbnfnapaaGreatDoorK50
open Go.Proofs.Tryz
set_option maxRecDepth 100000
set_option maxHeartbeats 8000000
namespace Go.Proofs.YtagnlbgbnfnapaaGreatDoor
open Go.RowKit
structure OpD where
 kind:Int
 a:Int
 layer:Int
 name:BY
 text:BY
 who:BY
 act:BY
 on:BY
 ma:Option Addr
 mn:Nat
 mc:Nat
def MK(o:OpD):Value:=ZU o.kind o.a o.layer o.name o.text o.who o.act o.on o.ma o.mn o.mc
def Jv(W:World)(b q:Nat)(o:OpD):Prop:=
 W.cell? ⟨b,q,none⟩=some (.int .i64 o.kind)/\W.cell? ⟨b,q+1,none⟩=some (.int .i64 o.a)/\W.cell? ⟨b,q+2,none⟩=some (.int .i64 o.layer)/\W.cell? ⟨b,q+3,none⟩=some (.string o.name)/\W.cell? ⟨b,q+4,none⟩=some (.string o.text) /\
 W.cell? ⟨b,q+5,none⟩=some (.string o.who)/\W.cell? ⟨b,q+6,none⟩=some (.string o.act)/\W.cell? ⟨b,q+7,none⟩=some (.string o.on)/\W.cell? ⟨b,q+8,none⟩=some (.slice o.ma o.mn o.mc)
def YE(W:World)(v:Value)(ops:List OpD):Prop:=
 ∃a c,v = .slice a ops.length c/\∀(k:Nat) (o:OpD),ops[k]?=some o->∃b q,a=some ⟨b,q,none⟩/\Jv W b (q+k*9) o
theorem Jv.below{W W':World}{a q:Nat}{o:OpD}(h:Jv W a q o)(hb:Below W.heap.size W W'):Jv W' a q o:=
 ⟨zi hb h.1,zi hb h.2.1,zi hb h.2.2.1,zi hb h.2.2.2.1,zi hb h.2.2.2.2.1,zi hb h.2.2.2.2.2.1,zi hb h.2.2.2.2.2.2.1,zi hb h.2.2.2.2.2.2.2.1,zi hb h.2.2.2.2.2.2.2.2⟩
def inK(l:List Int)(k:Int):Bool:=l.any (λx=>k==x)
theorem Gj{l:List Int}{j:Nat}{x k:Int}(h:l[j]?=some x):inK (l.take (j+1)) k=(inK (l.take j) k||(k==x)):=by
 unfold inK;rw[Xe,h]
 simp
def JM:BY:=⟨#[102,105,114,115,116]⟩
def aK:BY:=⟨#[123,34,115,116,97,116,101,109,101,110,116,34,58,91,123,34,101,102,102,101,99,116,34,58,34,97,108,108,111,119,34,44,34,119,104,111,34,58,34,42,34,44,34,100,111,34,58,34,42,34,44,34,111,110,34,58,34,42,34,125,93,125]⟩
def X7:Array Value:=#[.int .i64 1,.int .i64 0,.int .i64 0,.string ⟨#[]⟩,.string ⟨#[]⟩,.string ⟨#[]⟩,.string ⟨#[]⟩,.string ⟨#[]⟩,.slice none 0 0,.int .i64 2,.int .i64 0,.int .i64 2,.string JM,.string aK,.string ⟨#[]⟩,.string ⟨#[]⟩,.string ⟨#[]⟩,.slice none 0 0,.int .i64 3,.int .i64 0,.int .i64 2,.string JM,.string ⟨#[]⟩,.string ⟨#[]⟩,.string ⟨#[]⟩,.string ⟨#[]⟩,.slice none 0 0]
theorem lM:JM.size<=maxLen:=by decide
theorem FY:aK.size<=maxLen:=by decide
theorem xD.start(w:World)(O:Obj):xD w (λb=>if b=w.heap.size then 1 else 0) ((w.alloc (.cells #[.slice none 0 0,.slice none 0 0] 65)).alloc O) w.heap.size (.slice none 0 0) (.slice none 0 0) [] 0:=by
 refine⟨(nbl w _).alloc (by simp) _,λb hb=>?_,?_,by simp,qD _ _ _ _,(λg a=>by cases a),⟨[],qD _ _ _ _,(λi v d=>by simp at d)⟩,(λg a=>by cases a),(λi p c=>by simp at c),λi p c=>by simp at c⟩
 ·by_cases e:b=w.heap.size
  ·subst e;exact⟨ze _,by simp;omega⟩
  ·simp[e] at hb
 ·exact ((nbl _ O).block w.heap.size (by simp)).trans (zQ w _)
def VI(w:World)(i:Nat)(wr:World):Prop:=∃L c b a m,xD w L wr w.heap.size c b a m/\vO a/\0<a.length/\a.length<=3+i/\m<=3+i
def Qz(w:World)(j:Nat)(wr:World):Prop:=∃L c b a m,xD w L wr w.heap.size c b a m/\vO a/\(0<j->0<a.length)/\a.length<=j/\m<=j/\L (w.heap.size+1)=0/\wr.heap[w.heap.size+1]?=some (.cells X7 67)
theorem Qz.next{w:World}{j:Nat}{wr g:World}{L:Nat->Nat}{n m:Nat}{e:Ending}(f:L (w.heap.size+1)=0)(b:wr.heap[w.heap.size+1]?=some (.cells X7 67))(u:n<=j)(t:m<=j)(h:XT w L wr w.heap.size n m e g):e = .returned (.bool true)/\Qz w (j+1) g:=by
 obtain⟨L',c,a,p,m',l,d,o,k,q,r,s,i⟩:=h;exact⟨l,L',c,a,p,m',o,k,λ_=>i,by omega,by omega,(d.old _ (zy b)).trans f,(d.keep _ (zy b) f).trans b⟩
theorem Qz.start(w:World):Qz w 0 ((w.alloc (.cells #[.slice none 0 0,.slice none 0 0] 65)).alloc (.cells X7 67)):=by
 refine⟨_,_,_,_,_,xD.start w _,λi p a=>by simp at a,λe=>by omega,ze _,ze _,by simp,?_⟩
 have:=zQ (w.alloc (.cells #[.slice none 0 0,.slice none 0 0] 65)) (.cells X7 67)
 rw[show (w.alloc (.cells #[.slice none 0 0,.slice none 0 0] 65)).heap.size=w.heap.size+1 by simp] at this;exact this
abbrev fM (w:World) (o:OpD):Prop:=∀(L:Nat->Nat) (W:World) (psv bkv:Value) (ps:List xC) (m:Nat),xD w L W w.heap.size psv bkv ps m->vO ps->0<ps.length->ps.length<=5000000000000->m<=5000000000000 ->
 Calls prog 19 #[.pointer (some ⟨w.heap.size,0,none⟩),MK o] W (XT w L W w.heap.size ps.length m)
theorem NK(w:World)(aL:Addr)(hC:Z5 w aL)(sv:Value)(ops:List OpD)(hS:YE w sv ops)(hlen:ops.length<=2000000000000)(kb kc:Nat)(kinds:List Int)(hK:∀(j:Nat) (x:Int),kinds[j]?=some x->w.cell? ⟨kb,j,none⟩=some (.int .i64 x))(b5:kinds.length<=100)(t:∀o ∈ ops,inK kinds o.kind=true->fM w o) :
  Calls prog 6 #[sv,.slice (some ⟨kb,0,none⟩) kinds.length kc] w λe w'=>e = .returned (.bool true)/\Below w.heap.size w w':=by
 obtain⟨sa,sc,rfl,f⟩:=hS;obtain⟨n,hn⟩:∃x,ops.length=x:=⟨_,rfl⟩;obtain⟨kn,M⟩:∃x,kinds.length=x:=⟨_,rfl⟩;rw[hn] at hlen |-;rw[M] at b5 |-;have HN:=hid hn;have Q:=hid M;have G:=hid f;have HK:=hid hK;have H:=hid t;clear hn M f hK t;go_enter func6,ntmps6;go_wp2_with fail
 go_loopw [7,8] (λO _ wr=>∃j:Nat,j<=3/\O = .int .i64 j/\Qz w j wr) (λO _ _=>3-(intOf O).toNat)
 case atStart=>exact⟨0,zG _,rfl,Qz.start w⟩
 case round=>
  obtain⟨j,hj,rfl,g⟩:=hrel
  by_cases hlj:j<3
  ·obtain⟨L,d,c,A,m,v,K,I,l,h,hL,hc⟩:=g;have a:=λk=>(zg hc k).1;have B:=hid v;have P:=hid K;have HL:=hid hL;have HC:=hid hc;clear v K hL hc
   rcases (show j=0\/j=1\/j=2 by omega) with rfl|rfl|rfl
   ·have X:=a 0;have Y:=a 1;have q2:=a 2;have Z:=a 3;have q4:=a 4;have q5:=a 5;have q6:=a 6;have q7:=a 7;have q8:=a 8;simp[X7] at X Y q2 Z q4 q5 q6 q7 q8;clear a
    go_wp2_with (go_at_call 19;refine (sD w L wr w.heap.size d c A m B.out P.out (by omega) 0 0 ⟨#[]⟩ ⟨#[]⟩ ⟨#[]⟩ ⟨#[]⟩ ⟨#[]⟩ none 0 0).mono ?_;rintro e w2 u;obtain⟨rfl,D⟩:=Qz.next HL.out HC.out l h u;have F:=hid D;clear u D)
    go_roundw
    case rel=>exact⟨1,by omega,rfl,F.out⟩
    case measure=>simp[intOf]
   ·have J:=I (by omega);have X:=a 9;have Y:=a 10;have q2:=a 11;have Z:=a 12;have q4:=a 13;have q5:=a 14;have q6:=a 15;have q7:=a 16;have q8:=a 17;simp[X7] at X Y q2 Z q4 q5 q6 q7 q8;clear a
    go_wp2_with (go_at_call 19;refine (sF w aL hC L wr w.heap.size d c A m B.out P.out J (by omega) 0 2 JM aK ⟨#[]⟩ ⟨#[]⟩ ⟨#[]⟩ none 0 0 (by unfold I64;decide) lM FY).mono ?_;rintro e w2 u;obtain⟨rfl,D⟩:=Qz.next HL.out HC.out l h u;have F:=hid D;clear u D)
    go_roundw
    case rel=>exact⟨2,by omega,rfl,F.out⟩
    case measure=>simp[intOf]
   ·have J:=I (by omega);have X:=a 18;have Y:=a 19;have q2:=a 20;have Z:=a 21;have q4:=a 22;have q5:=a 23;have q6:=a 24;have q7:=a 25;have q8:=a 26;simp[X7] at X Y q2 Z q4 q5 q6 q7 q8;clear a
    go_wp2_with (go_at_call 19;refine (sw w L wr w.heap.size d c A m B.out P.out J (by omega) 0 2 JM ⟨#[]⟩ ⟨#[]⟩ ⟨#[]⟩ ⟨#[]⟩ none 0 0 (by unfold I64;decide) lM).mono ?_;rintro e w2 u;obtain⟨rfl,D⟩:=Qz.next HL.out HC.out l h u;have F:=hid D;clear u D)
    go_roundw
    case rel=>exact⟨3,by omega,rfl,F.out⟩
    case measure=>simp[intOf]
  ·have b4:j=3:=by omega
   subst b4
   have s:VI w 0 wr:=by
    obtain⟨L,d,c,A,m,v,K,I,l,h,_,_⟩:=g;exact⟨L,d,c,A,m,v,K,I (by omega),l,h⟩
   have S:=hid s;clear s g;obtain⟨wh,rfl⟩:∃x,x=wr:=⟨_,rfl⟩;go_wp2_with fail
   go_loopw [9,10,11,12] (λiv _ _ _ wr=>∃i:Nat,i<=n/\iv = .int .i64 i/\VI w i wr) (λiv _ _ _ _=>n-(intOf iv).toNat)
   case atStart=>exact⟨0,zG _,rfl,S.out⟩
   case round=>
    obtain⟨i,hi,rfl,g⟩:=hrel;clear S
    by_cases hlt:i<n
    ·obtain⟨L,d,c,A,m,v,K,I,l,h⟩:=g;have T:i<ops.length:=by rw[HN.out];exact hlt
     obtain⟨o,ho⟩:∃o,ops[i]?=some o:=⟨_,zn T⟩;obtain⟨gb,q,rfl,N⟩:=G.out i o ho;have b1:=hid N;have y:=N.1;have B:=hid v;have P:=hid K;have HO:=hid ho;have i0:(0:Int)<=(i:Int):=zZ _;have i1:(i:Int)<(n:Int):=by omega
     obtain⟨wi,rfl⟩:∃x,x=wr:=⟨_,rfl⟩;clear v K N ho T;go_wp2_with fail
     go_loopw [10,11] (λinv O wr=>∃j:Nat,j<=kn/\O = .int .i64 j/\inv = .bool (inK (kinds.take j) o.kind)/\Below wi.heap.size wi wr) (λ_ O _=>kn-(intOf O).toNat)
     case atStart=>exact⟨0,zG _,rfl,rfl,zf _ _⟩
     case round=>
      obtain⟨j,hj,rfl,rfl,hb⟩:=hrel
      by_cases hlj:j<kn
      ·have U:j<kinds.length:=by rw[Q.out];exact hlj
       obtain⟨x,hx⟩:∃x,kinds[j]?=some x:=⟨_,zn U⟩;have kk:=zi hb (zi B.out.low (HK.out j x hx));have kq:=zi hb (zi B.out.low y);have b:=Gj (k:=o.kind) hx;have j0:(0:Int)<=(j:Int):=zZ _;have j1:(j:Int)<(kn:Int):=by omega
       have HB:=hid hb;clear hb hx U y
       cases hB:inK (kinds.take j) o.kind with
       | true=>
        rw[hB] at b;have p:=hid b;clear b hB;go_wp2_with fail
        go_quiet (fail)
        go_wp2
        go_roundw
        case rel=>exact⟨j+1,by omega,by go_num,by rw[p.out];rfl,below_drewN HB.out nq⟩
        case measure=>simp[intOf];omega
       | false=>
        rw[hB] at b
        cases hd:(o.kind==x) with
        | true=>
         rw[hd] at b;have p:=hid b;clear b hB;go_wp2_with fail
         go_quiet (fail)
         go_wp2
         go_roundw
         case rel=>exact⟨j+1,by omega,by go_num,by rw[p.out];rfl,below_drewN HB.out nq⟩
         case measure=>simp[intOf];omega
        | false=>
         rw[hd] at b;have p:=hid b;clear b hB;go_wp2_with fail
         go_quiet (fail)
         go_wp2
         go_roundw
         case rel=>exact⟨j+1,by omega,by go_num,by rw[p.out];rfl,below_drewN HB.out nq⟩
         case measure=>simp[intOf];omega
      ·have r:kinds.take j=kinds:=Zd (by rw[Q.out];omega);rw[r];have z:=B.out.below hb;have E:=(b1.out.below B.out.low).below hb;clear r
       cases hB:inK kinds o.kind with
       | false=>
        have F:Hid (VI w (i+1) wr):=hid ⟨L,d,c,A,m,z,P.out,I,by omega,by omega⟩;clear hB z E y hb;go_wp2_with fail
        go_roundw
        case rel=>exact⟨i+1,by omega,by go_num,F.out⟩
        case measure=>simp[intOf];omega
       | true=>
        obtain⟨c0,c1,c2,c3,c4,c5,c6,c7,c8⟩:=E;have V:=H.out o (qL HO.out) hB L wr d c A m z P.out I (by omega) (by omega);have b2:=hid V;clear hB z V y hb
        go_wp2_with (first
         | (go_at_call 19;refine b2.out.mono ?_;rintro e w2 u;obtain⟨L2,W,C,d0,m2,rfl,s2,p2,a2,n1,n2,n3,n4⟩:=u;have y1:=(zg p2.play 1).1;simp at y1;have P2:=hid p2;have A2:=hid a2;clear s2 p2 a2)
         | (go_at_call 20;refine (Tg (Lm L2) w2 w.heap.size m2 C y1 P2.out.book (by omega)).mono ?_;rintro e w3 ⟨rfl,e3⟩;rw[e3];clear e3))
        have H3:VI w (i+1) w2:=⟨L2,W,C,d0,m2,P2.out,A2.out,n4,by omega,by omega⟩;refine⟨?_,?measure⟩
        ·(repeat apply Exists.intro)
         refine⟨?rel,rfl⟩;exact⟨i+1,by omega,by go_num,H3⟩
        ·simp[intOf];omega
    ·obtain⟨L,d,c,A,m,v,_⟩:=g;have R:=hid v.low;clear v;go_wp2_with fail;go_ret;exact⟨rfl,R.out⟩
def Jw(o:OpD):Prop:=I64 o.kind/\I64 o.a/\I64 o.layer/\o.name.size<=maxLen/\o.text.size<=maxLen
theorem Iy{k:Int}(h:inK [1,2,3,4,5] k=true):k=1\/k=2\/k=3\/k=4\/k=5:=by
 unfold inK at h
 simpa using h
theorem Iz{w:World}{k:Addr}(n:Z5 w k){o:OpD}(p:Jw o)(q:inK [1,2,3,4,5] o.kind=true):fM w o:=by
 obtain⟨kind,a,layer,name,text,who,act,on,ma,mn,mc⟩:=o;obtain⟨_,i,_,j,r⟩:=p;intro L W d b g m f c h e l
 rcases Iy q with rfl|rfl|rfl|rfl|rfl
 ·exact sD w L W w.heap.size d b g m f c e a layer name text who act on ma mn mc
 ·exact sF w k n L W w.heap.size d b g m f c h e a layer name text who act on ma mn mc i j r
 ·exact sw w L W w.heap.size d b g m f c h e a layer name text who act on ma mn mc i j
 ·exact PV w L W w.heap.size d b g m f c h e a layer name text who act on ma mn mc i j
 ·exact PS w L W w.heap.size d b g m f c h e l a layer name text who act on ma mn mc i
theorem YE.below{W W':World}{v:Value}{ops:List OpD}(h:YE W v ops)(hb:Below W.heap.size W W'):YE W' v ops:=by
 obtain⟨a,c,rfl,h⟩:=h;refine⟨a,c,rfl,λk o f=>?_⟩;obtain⟨b,q,e,d⟩:=h k o f;exact⟨b,q,e,d.below hb⟩
theorem IA(w:World)(k:Addr)(n:Z5 w k)(i:Value)(ops:List OpD)(s:YE w i ops)(p:∀o ∈ ops,Jw o)(hlen:ops.length<=2000000000000) :
  Calls prog 3 #[i] w λe w'=>e = .returned (.bool true)/\Below w.heap.size w w':=by
 obtain⟨h,b⟩:∃W,w.alloc (.cells #[.int .i64 1,.int .i64 2,.int .i64 3,.int .i64 4,.int .i64 5] 3)=W:=⟨_,rfl⟩;have d:Below w.heap.size w h:=by rw[<- b];exact nbl w _
 have f:h.heap[w.heap.size]?=some (.cells #[.int .i64 1,.int .i64 2,.int .i64 3,.int .i64 4,.int .i64 5] 3):=by rw[<- b];exact zQ w _
 have m:=NK h k (n.below d) i ops (s.below d) hlen w.heap.size 5 [1,2,3,4,5] (λj x a=>by
  rw[(zg f j).1]
  match j,a with
  | 0,a=>simp at a;subst a;rfl
  | 1,a=>simp at a;subst a;rfl
  | 2,a=>simp at a;subst a;rfl
  | 3,a=>simp at a;subst a;rfl
  | 4,a=>simp at a;subst a;rfl
  | j+5,a=>simp at a) (by simp) (λo u t=>Iz (n.below d) (p o u) t)
 have r:=hid m;have g:=hid b;have c:=hid d;clear m b d f p;go_enter func3,ntmps3
 go_wp2_with (go_at_call 6;rw[g.out];refine r.out.mono ?_;rintro e v ⟨rfl,l⟩;have q:=hid l;clear l)
 go_ret;exact⟨rfl,c.out.trans (q.out.mono c.out.size)⟩
end Go.Proofs.YtagnlbgbnfnapaaGreatDoor
