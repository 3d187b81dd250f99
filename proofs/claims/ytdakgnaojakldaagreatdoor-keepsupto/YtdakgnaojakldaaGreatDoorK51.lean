/- P -/
import Derived.Test.YtdakgnaojakldaaGreatDoorK50
open Go.Proofs.Tryz hiding parts
set_option maxRecDepth 100000
set_option maxHeartbeats 8000000
namespace Go.Proofs.YtdakgnaojakldaaGreatDoor
open Go.RowKit
structure OpD where
 kind:Int
 a:Int
 layer:Int
 name:BY
 text:BY
 who:BY
 act:BY
 on:BY
 ma:Option Addr
 mn:Nat
 mc:Nat
def Ml(o:OpD):Value:=ZR o.kind o.a o.layer o.name o.text o.who o.act o.on o.ma o.mn o.mc
def Jp(W:World)(b q:Nat)(o:OpD):Prop:=
 W.cell? ⟨b,q,none⟩=some (.int .i64 o.kind)/\W.cell? ⟨b,q+1,none⟩=some (.int .i64 o.a)/\W.cell? ⟨b,q+2,none⟩=some (.int .i64 o.layer)/\W.cell? ⟨b,q+3,none⟩=some (.string o.name)/\W.cell? ⟨b,q+4,none⟩=some (.string o.text) /\
 W.cell? ⟨b,q+5,none⟩=some (.string o.who)/\W.cell? ⟨b,q+6,none⟩=some (.string o.act)/\W.cell? ⟨b,q+7,none⟩=some (.string o.on)/\W.cell? ⟨b,q+8,none⟩=some (.slice o.ma o.mn o.mc)
def YB(W:World)(v:Value)(ops:List OpD):Prop:=
 ∃a c,v = .slice a ops.length c/\∀(k:Nat) (o:OpD),ops[k]?=some o->∃b q,a=some ⟨b,q,none⟩/\Jp W b (q+k*9) o
theorem Jp.below{W W':World}{a q:Nat}{o:OpD}(h:Jp W a q o)(hb:Below W.heap.size W W'):Jp W' a q o:=
 ⟨zh hb h.1,zh hb h.2.1,zh hb h.2.2.1,zh hb h.2.2.2.1,zh hb h.2.2.2.2.1,zh hb h.2.2.2.2.2.1,zh hb h.2.2.2.2.2.2.1,zh hb h.2.2.2.2.2.2.2.1,zh hb h.2.2.2.2.2.2.2.2⟩
def inK(l:List Int)(k:Int):Bool:=l.any (λx=>k==x)
theorem FN{l:List Int}{j:Nat}{x k:Int}(h:l[j]?=some x):inK (l.take (j+1)) k=(inK (l.take j) k||(k==x)):=by
 unfold inK;rw[Xa,h]
 simp
def JF:BY:=⟨#[102,105,114,115,116]⟩
def ax:BY:=⟨#[123,34,115,116,97,116,101,109,101,110,116,34,58,91,123,34,101,102,102,101,99,116,34,58,34,97,108,108,111,119,34,44,34,119,104,111,34,58,34,42,34,44,34,100,111,34,58,34,42,34,44,34,111,110,34,58,34,42,34,125,93,125]⟩
def X3:Array Value:=#[.int .i64 1,.int .i64 0,.int .i64 0,.string ⟨#[]⟩,.string ⟨#[]⟩,.string ⟨#[]⟩,.string ⟨#[]⟩,.string ⟨#[]⟩,.slice none 0 0,.int .i64 2,.int .i64 0,.int .i64 2,.string JF,.string ax,.string ⟨#[]⟩,.string ⟨#[]⟩,.string ⟨#[]⟩,.slice none 0 0,.int .i64 3,.int .i64 0,.int .i64 2,.string JF,.string ⟨#[]⟩,.string ⟨#[]⟩,.string ⟨#[]⟩,.string ⟨#[]⟩,.slice none 0 0]
theorem iY:JF.size<=maxLen:=by decide
theorem Fy:ax.size<=maxLen:=by decide
theorem xA.start(w:World)(O:Obj):xA w (λb=>if b=w.heap.size then 1 else 0) ((w.alloc (.cells #[.slice none 0 0,.slice none 0 0] 89)).alloc O) w.heap.size (.slice none 0 0) (.slice none 0 0) [] 0:=by
 refine⟨(nbl w _).alloc (by simp) _,λb hb=>?_,?_,by simp,qC _ _ _ _,(λg a=>by cases a),⟨[],qC _ _ _ _,(λi v d=>by simp at d)⟩,(λg a=>by cases a),(λi p c=>by simp at c),λi p c=>by simp at c⟩
 ·by_cases e:b=w.heap.size
  ·subst e;exact⟨ze _,by simp;omega⟩
  ·simp[e] at hb
 ·exact ((nbl _ O).block w.heap.size (by simp)).trans (zO w _)
def Vz(w:World)(i:Nat)(wr:World):Prop:=∃L c b a m,xA w L wr w.heap.size c b a m/\vM a/\0<a.length/\a.length<=3+i/\m<=3+i
def Qv(w:World)(j:Nat)(wr:World):Prop:=∃L c b a m,xA w L wr w.heap.size c b a m/\vM a/\(0<j->0<a.length)/\a.length<=j/\m<=j/\L (w.heap.size+1)=0/\wr.heap[w.heap.size+1]?=some (.cells X3 91)
theorem Qv.next{w:World}{j:Nat}{wr g:World}{L:Nat->Nat}{n m:Nat}{e:Ending}(f:L (w.heap.size+1)=0)(b:wr.heap[w.heap.size+1]?=some (.cells X3 91))(u:n<=j)(t:m<=j)(h:XJ w L wr w.heap.size n m e g):e = .returned (.bool true)/\Qv w (j+1) g:=by
 obtain⟨L',c,a,p,m',l,d,o,k,q,r,s,i⟩:=h;exact⟨l,L',c,a,p,m',o,k,λ_=>i,by omega,by omega,(d.old _ (zx b)).trans f,(d.keep _ (zx b) f).trans b⟩
theorem Qv.start(w:World):Qv w 0 ((w.alloc (.cells #[.slice none 0 0,.slice none 0 0] 89)).alloc (.cells X3 91)):=by
 refine⟨_,_,_,_,_,xA.start w _,λi p a=>by simp at a,λe=>by omega,ze _,ze _,by simp,?_⟩
 have:=zO (w.alloc (.cells #[.slice none 0 0,.slice none 0 0] 89)) (.cells X3 91)
 rw[show (w.alloc (.cells #[.slice none 0 0,.slice none 0 0] 89)).heap.size=w.heap.size+1 by simp] at this;exact this
abbrev eU (w:World) (o:OpD):Prop:=∀(L:Nat->Nat) (W:World) (psv bkv:Value) (ps:List xz) (m:Nat),xA w L W w.heap.size psv bkv ps m->vM ps->0<ps.length->ps.length<=100000000->m<=100000000 ->
 Calls prog 37 #[.pointer (some ⟨w.heap.size,0,none⟩),Ml o] W (XJ w L W w.heap.size ps.length m)
theorem Np(w:World)(aL:Addr)(hC:ZZ w aL)(sv:Value)(ops:List OpD)(hS:YB w sv ops)(hlen:ops.length<=10000000)(kb kc:Nat)(kinds:List Int)(hK:∀(j:Nat) (x:Int),kinds[j]?=some x->w.cell? ⟨kb,j,none⟩=some (.int .i64 x))(b5:kinds.length<=100)(t:∀o ∈ ops,inK kinds o.kind=true->eU w o) :
  Calls prog 17 #[sv,.slice (some ⟨kb,0,none⟩) kinds.length kc] w λe w'=>e = .returned (.bool true)/\Below w.heap.size w w':=by
 obtain⟨sa,sc,rfl,f⟩:=hS;obtain⟨n,hn⟩:∃x,ops.length=x:=⟨_,rfl⟩;obtain⟨kn,M⟩:∃x,kinds.length=x:=⟨_,rfl⟩;rw[hn] at hlen |-;rw[M] at b5 |-;have HN:=hid hn;have Q:=hid M;have G:=hid f;have HK:=hid hK;have H:=hid t;clear hn M f hK t;go_enter func17,ntmps17;go_wp2_with fail
 go_loopw [7,8] (λO _ wr=>∃j:Nat,j<=3/\O = .int .i64 j/\Qv w j wr) (λO _ _=>3-(intOf O).toNat)
 case atStart=>exact⟨0,zD _,rfl,Qv.start w⟩
 case round=>
  obtain⟨j,hj,rfl,g⟩:=hrel
  by_cases hlj:j<3
  ·obtain⟨L,d,c,A,m,v,K,I,l,h,hL,hc⟩:=g;have a:=λk=>(zg hc k).1;have B:=hid v;have P:=hid K;have HL:=hid hL;have HC:=hid hc;clear v K hL hc
   rcases (show j=0\/j=1\/j=2 by omega) with rfl|rfl|rfl
   ·have X:=a 0;have Y:=a 1;have q2:=a 2;have Z:=a 3;have q4:=a 4;have q5:=a 5;have q6:=a 6;have q7:=a 7;have q8:=a 8;simp[X3] at X Y q2 Z q4 q5 q6 q7 q8;clear a
    go_wp2_with (go_at_call 37;refine (rF w L wr w.heap.size d c A m B.out P.out (by omega) 0 0 ⟨#[]⟩ ⟨#[]⟩ ⟨#[]⟩ ⟨#[]⟩ ⟨#[]⟩ none 0 0).mono ?_;rintro e w2 u;obtain⟨rfl,D⟩:=Qv.next HL.out HC.out l h u;have F:=hid D;clear u D)
    go_roundw
    case rel=>exact⟨1,by omega,rfl,F.out⟩
    case measure=>simp[intOf]
   ·have J:=I (by omega);have X:=a 9;have Y:=a 10;have q2:=a 11;have Z:=a 12;have q4:=a 13;have q5:=a 14;have q6:=a 15;have q7:=a 16;have q8:=a 17;simp[X3] at X Y q2 Z q4 q5 q6 q7 q8;clear a
    go_wp2_with (go_at_call 37;refine (rG w aL hC L wr w.heap.size d c A m B.out P.out J (by omega) 0 2 JF ax ⟨#[]⟩ ⟨#[]⟩ ⟨#[]⟩ none 0 0 (by unfold I64;decide) iY Fy).mono ?_;rintro e w2 u;obtain⟨rfl,D⟩:=Qv.next HL.out HC.out l h u;have F:=hid D;clear u D)
    go_roundw
    case rel=>exact⟨2,by omega,rfl,F.out⟩
    case measure=>simp[intOf]
   ·have J:=I (by omega);have X:=a 18;have Y:=a 19;have q2:=a 20;have Z:=a 21;have q4:=a 22;have q5:=a 23;have q6:=a 24;have q7:=a 25;have q8:=a 26;simp[X3] at X Y q2 Z q4 q5 q6 q7 q8;clear a
    go_wp2_with (go_at_call 37;refine (rE w L wr w.heap.size d c A m B.out P.out J (by omega) 0 2 JF ⟨#[]⟩ ⟨#[]⟩ ⟨#[]⟩ ⟨#[]⟩ none 0 0 (by unfold I64;decide) iY).mono ?_;rintro e w2 u;obtain⟨rfl,D⟩:=Qv.next HL.out HC.out l h u;have F:=hid D;clear u D)
    go_roundw
    case rel=>exact⟨3,by omega,rfl,F.out⟩
    case measure=>simp[intOf]
  ·have b4:j=3:=by omega
   subst b4
   have s:Vz w 0 wr:=by
    obtain⟨L,d,c,A,m,v,K,I,l,h,_,_⟩:=g;exact⟨L,d,c,A,m,v,K,I (by omega),l,h⟩
   have S:=hid s;clear s g;obtain⟨wh,rfl⟩:∃x,x=wr:=⟨_,rfl⟩;go_wp2_with fail
   go_loopw [9,10,11,12] (λiv _ _ _ wr=>∃i:Nat,i<=n/\iv = .int .i64 i/\Vz w i wr) (λiv _ _ _ _=>n-(intOf iv).toNat)
   case atStart=>exact⟨0,zD _,rfl,S.out⟩
   case round=>
    obtain⟨i,hi,rfl,g⟩:=hrel;clear S
    by_cases hlt:i<n
    ·obtain⟨L,d,c,A,m,v,K,I,l,h⟩:=g;have T:i<ops.length:=by rw[HN.out];exact hlt
     obtain⟨o,ho⟩:∃o,ops[i]?=some o:=⟨_,zm T⟩;obtain⟨gb,q,rfl,N⟩:=G.out i o ho;have b1:=hid N;have y:=N.1;have B:=hid v;have P:=hid K;have HO:=hid ho;have i0:(0:Int)<=(i:Int):=zY _;have i1:(i:Int)<(n:Int):=by omega
     obtain⟨wi,rfl⟩:∃x,x=wr:=⟨_,rfl⟩;clear v K N ho T;go_wp2_with fail
     go_loopw [10,11] (λinv O wr=>∃j:Nat,j<=kn/\O = .int .i64 j/\inv = .bool (inK (kinds.take j) o.kind)/\Below wi.heap.size wi wr) (λ_ O _=>kn-(intOf O).toNat)
     case atStart=>exact⟨0,zD _,rfl,rfl,zf _ _⟩
     case round=>
      obtain⟨j,hj,rfl,rfl,hb⟩:=hrel
      by_cases hlj:j<kn
      ·have U:j<kinds.length:=by rw[Q.out];exact hlj
       obtain⟨x,hx⟩:∃x,kinds[j]?=some x:=⟨_,zm U⟩;have kk:=zh hb (zh B.out.low (HK.out j x hx));have kq:=zh hb (zh B.out.low y);have b:=FN (k:=o.kind) hx;have j0:(0:Int)<=(j:Int):=zY _;have j1:(j:Int)<(kn:Int):=by omega
       have HB:=hid hb;clear hb hx U y
       cases hB:inK (kinds.take j) o.kind with
       | true=>
        rw[hB] at b;have p:=hid b;clear b hB;go_wp2_with fail
        go_quiet (fail)
        go_wp2
        go_roundw
        case rel=>exact⟨j+1,by omega,by go_num,by rw[p.out];rfl,below_drewN HB.out nq⟩
        case measure=>simp[intOf];omega
       | false=>
        rw[hB] at b
        cases hd:(o.kind==x) with
        | true=>
         rw[hd] at b;have p:=hid b;clear b hB;go_wp2_with fail
         go_quiet (fail)
         go_wp2
         go_roundw
         case rel=>exact⟨j+1,by omega,by go_num,by rw[p.out];rfl,below_drewN HB.out nq⟩
         case measure=>simp[intOf];omega
        | false=>
         rw[hd] at b;have p:=hid b;clear b hB;go_wp2_with fail
         go_quiet (fail)
         go_wp2
         go_roundw
         case rel=>exact⟨j+1,by omega,by go_num,by rw[p.out];rfl,below_drewN HB.out nq⟩
         case measure=>simp[intOf];omega
      ·have r:kinds.take j=kinds:=Zb (by rw[Q.out];omega);rw[r];have z:=B.out.below hb;have E:=(b1.out.below B.out.low).below hb;clear r
       cases hB:inK kinds o.kind with
       | false=>
        have F:Hid (Vz w (i+1) wr):=hid ⟨L,d,c,A,m,z,P.out,I,by omega,by omega⟩;clear hB z E y hb;go_wp2_with fail
        go_roundw
        case rel=>exact⟨i+1,by omega,by go_num,F.out⟩
        case measure=>simp[intOf];omega
       | true=>
        obtain⟨c0,c1,c2,c3,c4,c5,c6,c7,c8⟩:=E;have V:=H.out o (qJ HO.out) hB L wr d c A m z P.out I (by omega) (by omega);have b2:=hid V;clear hB z V y hb
        go_wp2_with (first
         | (go_at_call 37;refine b2.out.mono ?_;rintro e w2 u;obtain⟨L2,W,C,d0,m2,rfl,s2,p2,a2,n1,n2,n3,n4⟩:=u;have y1:=(zg p2.play 1).1;simp at y1;have P2:=hid p2;have A2:=hid a2;clear s2 p2 a2)
         | (go_at_call 38;refine (SB (Lm L2) w2 w.heap.size m2 C y1 P2.out.book (by omega)).mono ?_;rintro e w3 ⟨rfl,e3⟩;rw[e3];clear e3))
        have H3:Vz w (i+1) w2:=⟨L2,W,C,d0,m2,P2.out,A2.out,n4,by omega,by omega⟩;refine⟨?_,?measure⟩
        ·(repeat apply Exists.intro)
         refine⟨?rel,rfl⟩;exact⟨i+1,by omega,by go_num,H3⟩
        ·simp[intOf];omega
    ·obtain⟨L,d,c,A,m,v,_⟩:=g;have R:=hid v.low;clear v;go_wp2_with fail;go_ret;exact⟨rfl,R.out⟩
def Jq(o:OpD):Prop:=I64 o.kind/\I64 o.a/\I64 o.layer/\o.name.size<=maxLen/\o.text.size<=maxLen
theorem Hy{k:Int}(h:inK [1,2,3,4,5] k=true):k=1\/k=2\/k=3\/k=4\/k=5:=by
 unfold inK at h
 simpa using h
theorem Hz{w:World}{k:Addr}(n:ZZ w k){o:OpD}(p:Jq o)(q:inK [1,2,3,4,5] o.kind=true):eU w o:=by
 obtain⟨kind,a,layer,name,text,who,act,on,ma,mn,mc⟩:=o;obtain⟨_,i,_,j,r⟩:=p;intro L W d b g m f c h e l
 rcases Hy q with rfl|rfl|rfl|rfl|rfl
 ·exact rF w L W w.heap.size d b g m f c e a layer name text who act on ma mn mc
 ·exact rG w k n L W w.heap.size d b g m f c h e a layer name text who act on ma mn mc i j r
 ·exact rE w L W w.heap.size d b g m f c h e a layer name text who act on ma mn mc i j
 ·exact Px w L W w.heap.size d b g m f c h e a layer name text who act on ma mn mc i j
 ·exact Pv w L W w.heap.size d b g m f c h e l a layer name text who act on ma mn mc i
theorem YB.below{W W':World}{v:Value}{ops:List OpD}(h:YB W v ops)(hb:Below W.heap.size W W'):YB W' v ops:=by
 obtain⟨a,c,rfl,h⟩:=h;refine⟨a,c,rfl,λk o f=>?_⟩;obtain⟨b,q,e,d⟩:=h k o f;exact⟨b,q,e,d.below hb⟩
theorem Ia(w:World)(k:Addr)(n:ZZ w k)(i:Value)(ops:List OpD)(s:YB w i ops)(p:∀o ∈ ops,Jq o)(hlen:ops.length<=10000000) :
  Calls prog 5 #[i] w λe w'=>e = .returned (.bool true)/\Below w.heap.size w w':=by
 obtain⟨h,b⟩:∃W,w.alloc (.cells #[.int .i64 1,.int .i64 2,.int .i64 3,.int .i64 4,.int .i64 5] 3)=W:=⟨_,rfl⟩;have d:Below w.heap.size w h:=by rw[<- b];exact nbl w _
 have f:h.heap[w.heap.size]?=some (.cells #[.int .i64 1,.int .i64 2,.int .i64 3,.int .i64 4,.int .i64 5] 3):=by rw[<- b];exact zO w _
 have m:=Np h k (n.below d) i ops (s.below d) hlen w.heap.size 5 [1,2,3,4,5] (λj x a=>by
  rw[(zg f j).1]
  match j,a with
  | 0,a=>simp at a;subst a;rfl
  | 1,a=>simp at a;subst a;rfl
  | 2,a=>simp at a;subst a;rfl
  | 3,a=>simp at a;subst a;rfl
  | 4,a=>simp at a;subst a;rfl
  | j+5,a=>simp at a) (by simp) (λo u t=>Hz (n.below d) (p o u) t)
 have r:=hid m;have g:=hid b;have c:=hid d;clear m b d f p;go_enter func5,ntmps5
 go_wp2_with (go_at_call 17;rw[g.out];refine r.out.mono ?_;rintro e v ⟨rfl,l⟩;have q:=hid l;clear l)
 go_ret;exact⟨rfl,c.out.trans (q.out.mono c.out.size)⟩
end Go.Proofs.YtdakgnaojakldaaGreatDoor
namespace Go.Proofs.YtdakgnaojakldaaGreatDoor
open laws Go.ChangeShapes Go.WideShapes Go.ChangeAt Go.RowKit Go.Joins Go.Deep
theorem bz{n:Int}(h:(Lit.int .i64 n).wf=true):I64 n:=by
 have a:(decide (IntKind.min .i64<=n)&&decide (n<=IntKind.max .i64))=true:=h;rw[Jc,Zh,Zh] at a;exact a
theorem Ms{w:World}{a:Addr}{v:Value}(h:w.cell? (a.add 0)=some v):∃b o,a=⟨b,o,none⟩:=by
 obtain⟨b,o,s⟩:=a;have c:w.cell? ⟨b,o,s⟩=some v:=h
 cases s with
 | none=>exact⟨b,o,rfl⟩
 | some x=>
  unfold World.cell? at c
  split at c
  ·simp at c
  ·cases c
instance:Inhabited OpD:=⟨⟨0,0,0,⟨#[]⟩,⟨#[]⟩,⟨#[]⟩,⟨#[]⟩,⟨#[]⟩,none,0,0⟩⟩
section
variable {H:Type} {enc:TypeId×Value->H} {w:World} {spare:Nat->Bool} {held:Bool}
theorem si{P:Program}{base fuel:Nat}{t:TypeId}{b:Array Field}{cs:List Value}{x:DataW H×List MemPlace}(l:P.underlying t=some (.struct b))(h:DataW.trod enc P w base spare held fuel t cs=some x) :
  cs.length=P.cellsOf t/\∀(i:Nat) (f:Field),b[i]?=some f->∀(u:TypeId) (o c:Nat),f.type=u->f.offset=o->P.cellsOf u=c->∃n y,DataW.trod enc P w base spare held n u ((cs.drop o).take c)=some y:=by
 obtain⟨xs,n,_,_,g,p,a⟩:=DataW.trod_struct l h;refine⟨g,λi f hi u o c m k e=>?_⟩;have j:i<b.size:=(Xz.1 hi).1;have d:=a i f hi;subst m;rw[k,e,zm (by omega)] at d;exact⟨n,_,d⟩
theorem Al{H:Type}(d:DataW H):1<=Rows.uptoBulk d:=by
 cases d with
 | lit l=>cases l<;>simp[Rows.uptoBulk]
 | nil=>simp[Rows.uptoBulk]
 | ptr d=>simp[Rows.uptoBulk]
 | slice elems spare=>simp[Rows.uptoBulk]
 | agg parts=>simp[Rows.uptoBulk]
 | iface t d=>simp[Rows.uptoBulk]
 | map entries=>simp[Rows.uptoBulk]
 | held h=>simp[Rows.uptoBulk]
theorem Ak{H:Type}(l:List (DataW H)):l.length<=Rows.uptoBulkAll l:=by
 induction l with
 | nil=>simp[Rows.uptoBulkAll]
 | cons x r a=>have:=Al x;simp only[Rows.uptoBulkAll,Zz];omega
theorem Mr{fuel:Nat}{cs:List Value}{x:DataW H×List MemPlace}(h:DataW.trod enc prog w 0 spare held fuel 91 cs=some x) :
  ∃o:OpD,cs=[.int .i64 o.kind,.int .i64 o.a,.int .i64 o.layer,.string o.name,.string o.text,.string o.who,.string o.act,.string o.on,.slice o.ma o.mn o.mc]/\Jq o:=by
 have c3:prog.cellsOf 3=1:=by kernel_rfl
 have f:prog.cellsOf 9=1:=by kernel_rfl
 have t:prog.cellsOf 53=4:=by kernel_rfl
 have r:prog.cellsOf 51=1:=by kernel_rfl
 have s:prog.cellsOf 91=9:=by kernel_rfl
 obtain⟨g,b⟩:=si underlying91 h;rw[s] at g
 match cs,g with
 | [u0,u1,u2,u3,u4,u5,u6,u7,u8],_=>
  obtain⟨W,y0,z⟩:=b 0 _ rfl _ 0 1 rfl rfl c3;obtain⟨X,y1,A⟩:=b 1 _ rfl _ 1 1 rfl rfl c3;obtain⟨Y,y2,B⟩:=b 2 _ rfl _ 2 1 rfl rfl c3;obtain⟨Z,y3,C⟩:=b 3 _ rfl _ 3 1 rfl rfl f;obtain⟨n4,y4,D⟩:=b 4 _ rfl _ 4 1 rfl rfl f;obtain⟨n5,y5,E⟩:=b 5 _ rfl _ 5 4 rfl rfl t;obtain⟨_,d⟩:=si underlying53 E;obtain⟨n6,y6,F⟩:=d 0 _ rfl _ 0 1 rfl rfl f;obtain⟨n7,y7,G⟩:=d 1 _ rfl _ 1 1 rfl rfl f;obtain⟨n8,y8,I⟩:=d 2 _ rfl _ 2 1 rfl rfl f;obtain⟨n9,y9,J⟩:=d 3 _ rfl _ 3 1 rfl rfl r;obtain⟨K,i,_,u⟩:=DataW.trod_int underlying3 z;obtain⟨L,j,_,f1⟩:=DataW.trod_int underlying3 A;obtain⟨M,q2,_,f2⟩:=DataW.trod_int underlying3 B;obtain⟨O,k,_,v⟩:=Ji underlying9 C;obtain⟨P,l,_,y⟩:=Ji underlying9 D;obtain⟨Q,m,_,T⟩:=Ji underlying9 F;obtain⟨R,p,_,U⟩:=Ji underlying9 G;obtain⟨S,q,_,V⟩:=Ji underlying9 I
  have N:∃a n c,u8 = .slice a n c:=by
   rcases open_slice underlying51 J with ⟨e,_⟩|⟨a,len,cap,_,_,_,_,e,_⟩
   ·exact⟨none,0,0,by simpa using e⟩
   ·exact⟨some a,len,cap,by simpa using e⟩
  obtain⟨ma,mn,mc,rfl⟩:=N;simp at i j q2 k l m p q;subst i j q2 k l m p q;exact⟨⟨K,L,M,O,P,Q,R,S,ma,mn,mc⟩,rfl,bz u,bz f1,bz f2,v,y⟩
theorem Mw{fuel:Nat}{v:Value}{x:DataW H×List MemPlace}(h:DataW.trod enc prog w 0 spare held fuel 28 [v]=some x)(I:∀b,spare b=true):∃ops:List OpD,ops.length<=Rows.uptoBulk x.1/\YB w v ops/\∀o ∈ ops,Jq o:=by
 have B:prog.cellsOf 91=9:=by kernel_rfl
 rcases open_slice underlying28 h with ⟨e,_⟩|⟨a,len,cap,m,n,D,Pl,e,_,hl,hmx,hmm,rfl,hcell⟩
 ·simp only[List.cons.injEq,and_true] at e;subst e;exact⟨[],by simp,⟨none,0,rfl,λk r G=>by simp at G⟩,λo c=>by simp at c⟩
 ·simp only[List.cons.injEq,and_true] at e;subst e;rw[I,zb rfl] at hmm;rw[B] at hcell
  have each:∀i,i<len->∃o:OpD,Jq o/\∃d q,some a=some ⟨d,q,none⟩/\Jp w d (q+i*9) o:=by
   intro i hi
   have p:∃b o,a=⟨b,o,none⟩:=by
    obtain⟨u,y,J⟩:=hcell 0 (by omega);obtain⟨_,E,g⟩:=World.cells?_some y
    have:=g 0 (by omega)
    rw[add_add,Nat.zero_mul,Zc,zm (by omega)] at this;exact Ms this
   obtain⟨d,q,rfl⟩:=p;obtain⟨t,z,A⟩:=hcell i (by omega);obtain⟨o,rfl,f⟩:=Mr A;obtain⟨_,_,l⟩:=World.cells?_some z
   have cell:∀j,j<9->w.cell? ⟨d,q+i*9+j,none⟩=[Value.int .i64 o.kind,.int .i64 o.a,.int .i64 o.layer,.string o.name,.string o.text,.string o.who,.string o.act,.string o.on,.slice o.ma o.mn o.mc][j]?:=by
    intro j C
    have:=l j C
    rw[add_add,addr_add,<- Nat.add_assoc] at this;exact this
   exact⟨o,f,d,q,rfl,cell 0 (by omega),cell 1 (by omega),cell 2 (by omega),cell 3 (by omega),cell 4 (by omega),cell 5 (by omega),cell 6 (by omega),cell 7 (by omega),cell 8 (by omega)⟩
  obtain⟨F,hF⟩:=choose_lt each;have hb:=Ak ((List.range len).map D);rw[qB,Qy] at hb;refine⟨(List.range len).map F,?_,⟨some a,cap,by rw[qB,Qy],λk o c=>?_⟩,λo c=>?_⟩
  ·rw[qB,Qy];simp only[Rows.uptoBulk];omega
  ·have s:k<len:=by
    have:=(zP.1 c).1
    rw[qB,Qy] at this;exact this
   rw[vv,U6 s] at c;simp only[Xc,Option.some.injEq] at c;subst c;exact (hF k s).2
  ·obtain⟨i,hi,rfl⟩:=xQ.1 c;exact (hF i (uZ.1 hi)).1
end
end Go.Proofs.YtdakgnaojakldaaGreatDoor
namespace Go.Proofs.YtdakgnaojakldaaGreatDoor.keeps
theorem Hu:(Rows.keepsUptoRow.wf (OpenSpec.ofChange (Rows.OpenSpec.upto Rows.keepsSpec).bare))=true:=by kernel_rfl
theorem GR:(Tryz.f5.params.all (prog.readableRec ·))=true:=by kernel_rfl
theorem GM:(namedTie prog Rows.keepsUptoRow.named (Rows.OpenSpec.upto Rows.keepsSpec).bare.vars)=true:=by kernel_rfl
theorem GZ:((Rows.keepsUptoRow.stops==[]))=true:=by kernel_rfl
theorem He:((Rows.keepsUptoRow.knobs==[]))=true:=by kernel_rfl
theorem Gv:((Rows.keepsUptoRow.inPlace==prog.inPlace 5))=true:=by kernel_rfl
theorem Hm:((Rows.keepsUptoRow.unfollowed==prog.unfollowed 5))=true:=by kernel_rfl
theorem GY:((Rows.keepsUptoRow.recurses==prog.recurses 5))=true:=by kernel_rfl
theorem Ht:((Rows.keepsUptoRow.named==prog.varsNamed 5))=true:=by kernel_rfl
theorem Gz:((Rows.keepsUptoRow.maps==(Tryz.f5.params.toList++(Rows.OpenSpec.upto Rows.keepsSpec).bare.plain.varTypes prog).any (prog.mapsRec ·)))=true:=by kernel_rfl
theorem GA:((Rows.keepsUptoRow.ifaces==(Tryz.f5.params.toList++(Rows.OpenSpec.upto Rows.keepsSpec).bare.plain.varTypes prog).any (prog.ifacesRec ·)))=true:=by kernel_rfl
theorem GD:((Rows.keepsUptoRow.mapsOut==prog.mapsAmong Tryz.f5.resultTypes.toList))=true:=by kernel_rfl
theorem GG:((Rows.keepsUptoRow.loops==(Tryz.f5.params.toList++(Rows.OpenSpec.upto Rows.keepsSpec).bare.plain.varTypes prog).any (prog.loopsFrom ·)))=true:=by kernel_rfl
theorem GH:((Rows.keepsUptoRow.wideKeys==(Tryz.f5.params.toList++(Rows.OpenSpec.upto Rows.keepsSpec).bare.plain.varTypes prog++Tryz.f5.resultTypes.toList).any (prog.wideKeysFrom ·)))=true:=by kernel_rfl
theorem Ho:((Rows.OpenSpec.upto Rows.keepsSpec).bare.vars.all (prog.varReadable ·))=true:=by kernel_rfl
theorem GU:(Tryz.f5.resultTypes.all (λt=>prog.readableRec t&&decide (t<prog.types.size)))=true:=by kernel_rfl
theorem GV:((Rows.keepsUptoRow.ifacesOut==Tryz.f5.resultTypes.toList.any (prog.ifacesRec ·)))=true:=by kernel_rfl
theorem GX:((Rows.keepsUptoRow.loopsOut==Tryz.f5.resultTypes.toList.any (prog.loopsFrom ·)))=true:=by kernel_rfl
theorem GQ:((Rows.keepsUptoRow.plainKeys==prog.plainKeys))=true:=by kernel_rfl
theorem Hl:(Rows.keepsUptoRow.shortTexts.isNone)=true:=by kernel_rfl
theorem Gx:((Rows.keepsUptoRow.lifted==prog.liftsFinal))=true:=by kernel_rfl
theorem GJ:((prog.make==some Rows.keepsUptoRow.make))=true:=by kernel_rfl
theorem Gw:((Rows.keepsUptoRow.kinds==(if Rows.keepsUptoRow.domain.isEmpty then [] else Tryz.f5.params.toList.map λt=>match prog.underlying t with|some (.int k)=>some k|_=>none)))=true:=by kernel_rfl
theorem GN:((Rows.keepsUptoRow.pinned==Rows.keepsUptoRow.pinnedBy))=true:=by kernel_rfl
theorem Hq:((Rows.keepsUptoRow.veiled==(Tryz.f5.params.toList++(Rows.OpenSpec.upto Rows.keepsSpec).bare.plain.varTypes prog++Tryz.f5.resultTypes.toList).any (prog.veiledRec ·)))=true:=by kernel_rfl
theorem Hr:(Rows.keepsUptoRow.veiledFits prog Tryz.f5.params.toList (Tryz.f5.params.toList++(Rows.OpenSpec.upto Rows.keepsSpec).bare.plain.varTypes prog++Tryz.f5.resultTypes.toList))=true:=by kernel_rfl
theorem Gu:Tryz.f5.isInstance prog Rows.keepsUptoRow.origin Rows.keepsUptoRow.targs:=of_decide_eq_true (by kernel_rfl)
theorem Hw:Tryz.f5.isWrapper prog Rows.keepsUptoRow.wrapper Rows.keepsUptoRow.mainSum:=by unfold Func.isWrapper;first|(rw[zb (by decide +kernel)];kernel_rfl)|(rw[za (by decide +kernel)];exact⟨rfl,rfl⟩)
theorem GL:prog.funcNamed Rows.keepsUptoRow.func=some 5:=by kernel_rfl
end Go.Proofs.YtdakgnaojakldaaGreatDoor.keeps
namespace Go.Proofs.YtdakgnaojakldaaGreatDoor.laws
theorem Gy:(laidOutB prog)=true:=by kernel_rfl
theorem GK:(mapsRowed prog)=true:=by kernel_rfl
theorem Ha:((prog.stops==[]))=true:=by kernel_rfl
theorem Hf:((prog.stopKnobs==[]))=true:=by kernel_rfl
theorem Hg:(prog.stopsHeard)=true:=by kernel_rfl
theorem GI:(prog.mayEnter)=true:=by kernel_rfl
theorem xw{a b:Bool}(h:a=true)(k:b=true):(a&&b)=true:=by rw[h,k];rfl
end Go.Proofs.YtdakgnaojakldaaGreatDoor.laws
