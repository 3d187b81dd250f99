/- P -/
import Derived.Test.YtdakgnaojakldaaGreatDoorS33
import Derived.Test.YtdakgnaojakldaaGreatDoorS36
import Derived.Test.YtdakgnaojakldaaGreatDoorS29
open Go.Proofs.Tryz
set_option maxRecDepth 100000
set_option maxHeartbeats 4000000
namespace Go.Proofs.YtdakgnaojakldaaGreatDoor
open Go.RowKit
def jD(M:Nat->Prop)(W:World)(c:Value)(rs:List Rd.qm):Prop:=
 ∃base a,jV a base c rs/\a.heap.size<=W.heap.size/\∀b,base<=b->b<a.heap.size->¬M b/\W.heap[b]?=a.heap[b]?
theorem jD.at{M:Nat->Prop}{W:World}{a:Value}{c:List Rd.qm}(h:jD M W a c):∃base,jV W base a c:=by
 obtain⟨base,g,d,_,e⟩:=h;exact⟨base,d.kept (λb hb f=>(e b hb f).2)⟩
theorem jD.turn{M:Nat->Prop}{W d:World}{e:Value}{g:List Rd.qm}(h:jD M W e g)(k:zy M W d):jD M d e g:=by
 obtain⟨base,i,j,f,c⟩:=h;exact⟨base,i,j,Nat.le_trans f k.size,λb hb a=>⟨(c b hb a).1,(k.block b (Nat.lt_of_lt_of_le a f) (c b hb a).1).trans (c b hb a).2⟩⟩
theorem jD.of{M:Nat->Prop}{W:World}{a:Value}{c:List Rd.qm}{base:Nat}(h:jV W base a c)(d:∀b,M b->b<base):jD M W a c:=
 ⟨base,W,h,Nat.le_refl _,λb hb _=>⟨λe=>absurd (d b e) (by omega),rfl⟩⟩
theorem jD.more{M a:Nat->Prop}{W:World}{c:Value}{f:List Rd.qm}(h:jD M W c f)(k:∀b,a b->M b\/W.heap.size<=b):jD a W c f:=by
 obtain⟨base,g,i,j,d⟩:=h;refine⟨base,g,i,j,λb hb e=>⟨λl=>?_,(d b hb e).2⟩⟩
 rcases k b l with h|h
 ·exact (d b hb e).1 h
 ·omega
structure zG where
 layer:Int
 name:BY
 rs:List Rd.qm
def qM(M:Nat->Prop)(W:World)(xs:List Value)(d:List zG):Prop:=
 xs.length=d.length*3/\∀(k:Nat) (x:zG),d[k]?=some x->∃a c b,xs[k*3]?=some (.int .i64 x.layer)/\xs[k*3+1]?=some (.string x.name)/\xs[k*3+2]?=some (.slice a c b)/\jD M W (.slice a c b) x.rs
theorem qM.turn{M:Nat->Prop}{W a:World}{xs:List Value}{L:List zG}(h:qM M W xs L)(k:zy M W a):qM M a xs L:=
 ⟨h.1,λj x l=>by obtain⟨b,d,c,e,f,g,i⟩:=h.2 j x l;exact⟨b,d,c,e,f,g,i.turn k⟩⟩
theorem qM.more{M a:Nat->Prop}{W:World}{xs:List Value}{L:List zG}(h:qM M W xs L)(l:∀b,a b->M b\/W.heap.size<=b):qM a W xs L:=
 ⟨h.1,λj x m=>by obtain⟨c,e,d,f,g,i,k⟩:=h.2 j x m;exact⟨c,e,d,f,g,i,k.more l⟩⟩
theorem qM.nil{M:Nat->Prop}{W:World}:qM M W [] []:=⟨rfl,λk x a=>by simp at a⟩
theorem qM.one{M:Nat->Prop}{W:World}{b:Option Addr}{d c:Nat}{x:zG}(h:jD M W (.slice b d c) x.rs):qM M W [.int .i64 x.layer,.string x.name,.slice b d c] [x]:=by
 refine⟨rfl,λk y a=>?_⟩
 match k,a with
 | 0,a=>
  simp only[List.getElem?_cons_zero,Option.some.injEq] at a;subst a;exact⟨b,d,c,rfl,rfl,rfl,h⟩
 | k+1,a=>simp at a
theorem qM.take{M:Nat->Prop}{W:World}{xs:List Value}{L:List zG}(h:qM M W xs L)(p:Nat):qM M W (xs.take (p*3)) (L.take p):=by
 refine⟨by rw[List.length_take,List.length_take,h.1];omega,λk x a=>?_⟩;rw[List.getElem?_take] at a
 split at a
 ·rename_i j;obtain⟨b,d,c,e,f,g,i⟩:=h.2 k x a;exact⟨b,d,c,by rw[List.getElem?_take,if_pos (by omega)];exact e,by rw[List.getElem?_take,if_pos (by omega)];exact f,by rw[List.getElem?_take,if_pos (by omega)];exact g,i⟩
 ·cases a
theorem qM.drop{M:Nat->Prop}{W:World}{xs:List Value}{L:List zG}(h:qM M W xs L)(p:Nat):qM M W (xs.drop (p*3)) (L.drop p):=by
 refine⟨by rw[List.length_drop,List.length_drop,h.1];omega,λk x a=>?_⟩;rw[List.getElem?_drop] at a;obtain⟨b,d,c,e,f,g,i⟩:=h.2 (p+k) x a;exact⟨b,d,c,by rw[List.getElem?_drop,show p*3+k*3=(p+k)*3 by omega];exact e,by rw[List.getElem?_drop,show p*3+(k*3+1)=(p+k)*3+1 by omega];exact f,by rw[List.getElem?_drop,show p*3+(k*3+2)=(p+k)*3+2 by omega];exact g,i⟩
theorem qM.app{M:Nat->Prop}{W:World}{xs l:List Value}{L N:List zG}(h:qM M W xs L)(g:qM M W l N):qM M W (xs++l) (L++N):=by
 refine⟨by rw[List.length_append,List.length_append,h.1,g.1];omega,λk x a=>?_⟩
 by_cases hk:k<L.length
 ·rw[List.getElem?_append_left hk] at a;obtain⟨b,d,c,e,f,i,j⟩:=h.2 k x a;exact⟨b,d,c,by rw[List.getElem?_append_left (by rw[h.1];omega)];exact e,by rw[List.getElem?_append_left (by rw[h.1];omega)];exact f,by rw[List.getElem?_append_left (by rw[h.1];omega)];exact i,j⟩
 ·rw[List.getElem?_append_right (by omega)] at a;obtain⟨b,d,c,e,f,i,j⟩:=g.2 (k-L.length) x a;exact⟨b,d,c,by rw[List.getElem?_append_right (by rw[h.1];omega),h.1,show k*3-L.length*3=(k-L.length)*3 by omega];exact e,by rw[List.getElem?_append_right (by rw[h.1];omega),h.1,show k*3+1-L.length*3=(k-L.length)*3+1 by omega];exact f,by rw[List.getElem?_append_right (by rw[h.1];omega),h.1,show k*3+2-L.length*3=(k-L.length)*3+2 by omega];exact i,j⟩
structure Zz (M:Nat->Prop) (W:World) (cb:Nat) (lv:Value) (ks:List zG):Prop where
 mine:M cb
 cell:W.heap[cb]?=some (.cells #[lv] 173)
 rows:∃xs,W.ownsRow 0 251 3 lv ks.length xs/\qM M W xs ks
 own:∀g,lv.ownBlock=some g->M g/\g≠cb
theorem Zz.below{M:Nat->Prop}{W b:World}{a:Nat}{d:Value}{c:List zG}(h:Zz M W a d c)(hb:Below W.heap.size W b):Zz M b a d c:=by
 obtain⟨xs,e,f⟩:=h.rows;exact⟨h.mine,(hb.block a (lt_of_block h.cell)).trans h.cell,⟨xs,ownsRow_below e hb,f.turn (zy.of hb)⟩,h.own⟩
theorem Zz.cells{M:Nat->Prop}{W:World}{r:Nat}{q:Value}{b:List zG}(h:Zz M W r q b):∃a c,q = .slice a b.length c/\∀(k:Nat) (x:zG),b[k]?=some x->∃l d j f,a=some ⟨l,0,none⟩/\W.cell? ⟨l,k*3,none⟩=some (.int .i64 x.layer)/\W.cell? ⟨l,k*3+1,none⟩=some (.string x.name)/\W.cell? ⟨l,k*3+2,none⟩=some (.slice d j f)/\jD M W (.slice d j f) x.rs:=by
 obtain⟨xs,o,w⟩:=h.rows
 rcases o.2 with ⟨e,h0⟩|⟨g,cap,cur,e,_⟩
 ·have p:b=[]:=List.length_eq_zero_iff.1 h0;subst p;exact⟨none,0,e,λk x m=>by simp at m⟩
 ·refine⟨some ⟨g,0,none⟩,cap,e,λk x m=>?_⟩;have p:k<b.length:=(List.getElem?_eq_some_iff.1 m).1;obtain⟨d,j,f,s,t,u,v⟩:=w.2 k x m;have n:∀i,i<b.length*3->W.cell? ⟨g,i,none⟩=xs[i]?:=λi hi=>World.ownsRow.cellAt (g:=g) (cap:=cap) (by rw[<- e];exact o) i (by omega);exact⟨g,d,j,f,rfl,by rw[n _ (by omega)];exact s,by rw[n _ (by omega)];exact t,by rw[n _ (by omega)];exact u,v⟩
def isR(l:Int)(name:BY)(x:zG):Bool:=(x.layer==l)&&(x.name.toList==name.toList)
def nameAt(a:List zG)(i:Nat):BY:=match a[i]? with
 | some x=>x.name
 | none=>⟨#[]⟩
def XV(a:List zG)(l:Int)(i:Nat):Bool:=match a[i]? with
 | some x=>x.layer==l
 | none=>false
def jY(a:List zG)(l:Int)(ts:List Bool)(i:Nat):Bool:=XV a l i && !(ts.getD i false)
def Ze(a:List zG)(l:Int)(ts:List Bool):Nat->Option Nat
 | 0=>none
 | i+1=>if jY a l ts i then (match Ze a l ts i with
  | none=>some i
  | some b=>if qh (nameAt a i) (nameAt a b)<0 then some i else some b) else Ze a l ts i
theorem JK(c:List zG)(l:Int)(ts:List Bool):∀n,(Ze c l ts n=none->∀i,i<n->jY c l ts i=false)/\(∀b,Ze c l ts n=some b->b<n/\jY c l ts b=true/\∀i,i<n->jY c l ts i=true->¬qh (nameAt c i) (nameAt c b)<0)
 | 0=>⟨λ_ i hi=>by omega,λb h=>by simp[Ze] at h⟩
 | n+1=>by
  obtain⟨g,j⟩:=JK c l ts n;rw[Ze]
  cases hc:jY c l ts n with
  | false=>
   simp only[Bool.false_eq_true,if_false];refine⟨λh i hi=>?_,λb h=>?_⟩
   ·by_cases e:i=n
    ·subst e;exact hc
    ·exact g h i (by omega)
   ·obtain⟨m,f,d⟩:=j b h;refine⟨by omega,f,λi hi a=>?_⟩
    by_cases e:i=n
    ·subst e;rw[hc] at a;cases a
    ·exact d i (by omega) a
  | true=>
   simp only[if_true]
   cases hb:Ze c l ts n with
   | none=>
    refine⟨(λh=>by cases h),λb h=>?_⟩;simp only[Option.some.injEq] at h;subst h;refine⟨by omega,hc,λi hi a=>?_⟩
    by_cases e:i=n
    ·subst e;rw[ZH];omega
    ·rw[g hb i (by omega)] at a;cases a
   | some b0=>
    obtain⟨m,f,d⟩:=j b0 hb;simp only
    by_cases hlt:qh (nameAt c n) (nameAt c b0)<0
    ·rw[if_pos hlt];refine⟨(λh=>by cases h),λb h=>?_⟩;simp only[Option.some.injEq] at h;subst h;refine⟨by omega,hc,λi hi a k=>?_⟩
     by_cases e:i=n
     ·subst e;rw[ZH] at k;omega
     ·exact d i (by omega) a (XH k hlt)
    ·rw[if_neg hlt];refine⟨(λh=>by cases h),λb h=>?_⟩;simp only[Option.some.injEq] at h;subst h;refine⟨by omega,f,λi hi a=>?_⟩
     by_cases e:i=n
     ·subst e;exact hlt
     ·exact d i (by omega) a
def X6(a:List zG)(b:List Nat):List zG:=b.filterMap λp=>a[p]?
structure Taken (ks:List zG) (l:Int) (ps:List Nat) (ts:List Bool):Prop where
 len:ts.length=ks.length
 nodup:ps.Nodup
 mem:∀i,i<ks.length->(ts.getD i false=true↔i ∈ ps)
 ok:∀p ∈ ps,p<ks.length/\XV ks l p=true
 sorted:ps.Pairwise λa b=>¬qh (nameAt ks b) (nameAt ks a)<0
 ahead:∀p ∈ ps,∀i,i<ks.length->jY ks l ts i=true->¬qh (nameAt ks i) (nameAt ks p)<0
theorem Taken.start(b:List zG)(l:Int):Taken b l [] (List.replicate b.length false):=
 ⟨by simp,List.nodup_nil,λi hi=>by simp[List.getD_eq_getElem?_getD,hi],λp a=>by simp at a,List.Pairwise.nil,λp a=>by simp at a⟩
theorem nk{c:List zG}{l:Int}{ts:List Bool}{b i:Nat}(h:jY c l (ts.set b true) i=true):jY c l ts i=true/\i≠b\/jY c l ts i=true/\ts.length<=b:=by
 unfold jY at h |-;rw[Bool.and_eq_true] at h |-;obtain⟨d,a⟩:=h;rw[List.getD_eq_getElem?_getD,List.getElem?_set] at a
 by_cases e:b=i
 ·subst e
  by_cases hb:b<ts.length
  ·rw[if_pos rfl,if_pos hb] at a;simp at a
  ·exact .inr ⟨⟨d,by rw[List.getD_eq_getElem?_getD,List.getElem?_eq_none (by omega)];rfl⟩,by omega⟩
 ·rw[if_neg e] at a;exact .inl ⟨⟨d,by rw[List.getD_eq_getElem?_getD];exact a⟩,λx=>e x.symm⟩
theorem Taken.next{d:List zG}{l:Int}{m:List Nat}{ts:List Bool}(h:Taken d l m ts){b:Nat}(hb:Ze d l ts d.length=some b):Taken d l (m++[b]) (ts.set b true):=by
 obtain⟨j,c,n⟩:=(JK d l ts d.length).2 b hb
 have f:b ∉ m:=by
  intro q
  have:=(h.mem b j).2 q
  unfold jY at c;rw[this] at c;simp at c
 refine⟨by rw[List.length_set];exact h.len,?_,λi hi=>?_,λp a=>?_,?_,λp a i hi o=>?_⟩
 ·rw[List.nodup_append];exact⟨h.nodup,by simp,λx k y g=>by simp at g;subst g;intro e;subst e;exact f k⟩
 ·rw[List.getD_eq_getElem?_getD,List.getElem?_set]
  by_cases e:b=i
  ·subst e;rw[if_pos rfl,if_pos (by rw[h.len];exact hi)]
   simp
  ·rw[if_neg e,<- List.getD_eq_getElem?_getD,h.mem i hi];simp only[List.mem_append,List.mem_singleton];exact⟨λx => .inl x,λx=>x.elim id (λy=>absurd y.symm e)⟩
 ·rcases List.mem_append.1 a with a|a
  ·exact h.ok p a
  ·rw[List.mem_singleton] at a;subst a;refine⟨j,?_⟩;unfold jY at c;rw[Bool.and_eq_true] at c;exact c.1
 ·rw[List.pairwise_append];refine⟨h.sorted,by simp,λx k y g=>?_⟩;rw[List.mem_singleton] at g;subst g;exact h.ahead x k y j c
 ·rcases nk o with ⟨hc1,_⟩|⟨hc1,_⟩
  ·rcases List.mem_append.1 a with a|a
   ·exact h.ahead p a i hi hc1
   ·rw[List.mem_singleton] at a;subst a;exact n i hi hc1
  ·rcases List.mem_append.1 a with a|a
   ·exact h.ahead p a i hi hc1
   ·rw[List.mem_singleton] at a;subst a;exact n i hi hc1
theorem Taken.small{a:List zG}{l:Int}{b:List Nat}{ts:List Bool}(h:Taken a l b ts):b.length<=a.length:=by
 have:=h.nodup.length_le_of_subset (l₂:=List.range a.length) (λp c=>List.mem_range.2 (h.ok p c).1)
 simpa using this
def UM(c:List zG)(l:Int)(out:List zG):Prop:=∃d:List Nat,d.Nodup/\(∀p,p ∈ d↔p<c.length/\XV c l p=true)/\(d.Pairwise λa b=>¬qh (nameAt c b) (nameAt c a)<0)/\out=X6 c d
theorem Taken.done{a:List zG}{l:Int}{c:List Nat}{ts:List Bool}(h:Taken a l c ts)(hb:Ze a l ts a.length=none):UM a l (X6 a c):=by
 have d:=(JK a l ts a.length).1 hb;refine⟨c,h.nodup,λp=>⟨λb=>h.ok p b,λ⟨b,e⟩=>?_⟩,h.sorted,rfl⟩
 have:=d p b
 unfold jY at this;rw[e,Bool.true_and] at this;exact (h.mem p b).1 (by simpa using this)
theorem bz{a:List zG}{l:Int}{i:Nat}{x:zG}(h:a[i]?=some x):XV a l i=(x.layer==l):=by unfold XV;rw[h]
theorem cz{a:List zG}{i:Nat}{x:zG}(h:a[i]?=some x):nameAt a i=x.name:=by unfold nameAt;rw[h]
structure Jw (M:Nat->Prop) (w wr:World) (tb n:Nat) (ks:List zG) (ps:List Nat) (ts:List Bool) (ov:Value):Prop where
 took:wr.ownsRow w.heap.size 4 1 (.slice (some ⟨tb,0,none⟩) n n) n (ts.map Value.bool)
 out:∃xs,wr.ownsRow w.heap.size 251 3 ov ps.length xs/\qM M w xs (X6 ks ps)
 bel:Below w.heap.size w wr
theorem Jw.below{M:Nat->Prop}{w wr a:World}{e n:Nat}{b:List zG}{d:List Nat}{ts:List Bool}{c:Value}(h:Jw M w wr e n b d ts c)(hb:Below wr.heap.size wr a):Jw M w a e n b d ts c:=by
 obtain⟨xs,f,g⟩:=h.out;exact⟨ownsRow_below h.took hb,⟨xs,ownsRow_below f hb,g⟩,h.bel.trans (hb.mono h.bel.size)⟩
theorem Mh(x v:BY)(h:v.size<x.size):De.yG x v=((x.toList==v.toList)||(((x.extract 0 v.size).toList==v.toList)&&(((x[v.size]'h).toNat:Int)==47))):=by
 unfold De.yG;rw[decide_eq_true h,Bool.true_and]
 have a:(x.extract 0 v.size).toList=x.data.toList.take v.size:=by
  rw[ByteArray.toList_eq]
  simp
 have b:v.toList=v.data.toList:=ByteArray.toList_eq v
 have c:x.data.toList.getD v.size 0=x[v.size]'h:=by
  rw[List.getD_eq_getElem?_getD,List.getElem?_eq_getElem (by simpa using h)]
  rfl
 rw[a,c,<- b];congr 2;rw[Bool.eq_iff_iff]
 simp
 omega
theorem Mk(x v:BY)(h:¬v.size<x.size):De.yG x v=(x.toList==v.toList):=by
 unfold De.yG;rw[decide_eq_false h]
 simp
namespace Sd
def y8(s:BY):Int×Bool:=if s.toList==[55] then (7,true) else if s.toList==[49,56] then (18,true) else if s.toList==[45,51] then (-3,true) else (0,false)
def kJ(k:Nat)(x:BY)(there:Bool)(v:BY):Bool:=
 match k with
 | 0=>!there
 | 1=>there&&(x.toList==v.toList)
 | 2=>there&&(x.toList==v.toList)
 | 3=>there&&(y8 x).2&&decide ((y8 x).1<(y8 v).1)
 | _=>there&&De.yG x v
end Sd
theorem FD(w:World) :
  Calls prog 30 #[] w λe a=>e = .returned (.slice (some ⟨w.heap.size,0,none⟩) 9 9)/\a=w.alloc (.cells (Sd.zA.map Value.string).toArray 9):=by
 go_enter func30,ntmps30
 go_wp2
 go_ret;exact⟨rfl,rfl⟩
theorem Ed(s:BY)(w:World) :
  Calls prog 49 #[.string s] w λe a=>e = .returned (.tuple #[.int .i64 (Sd.y8 s).1,.bool (Sd.y8 s).2])/\a=w:=by
 unfold Sd.y8
 cases h1:(s.toList==[55]) with
 | true=>
  go_enter func49,ntmps49
  go_wp2
  go_ret2;exact⟨rfl,rfl⟩
 | false=>
  cases h2:(s.toList==[49,56]) with
  | true=>
   go_enter func49,ntmps49
   go_wp2
   go_ret2;exact⟨rfl,rfl⟩
  | false=>
   cases h3:(s.toList==[45,51]) with
   | true=>
    go_enter func49,ntmps49
    go_wp2
    go_ret2;exact⟨rfl,rfl⟩
   | false=>
    go_enter func49,ntmps49
    go_wp2
    go_ret2;exact⟨rfl,rfl⟩
theorem MU(k:Nat)(h:k<5)(x v:BY)(there:Bool)(w:World) :
  Calls prog 31 #[.int .i64 (k:Int),.string x,.bool there,.string v] w λe f=>e = .returned (.bool (Sd.kJ k x there v))/\f=w:=by
 have:k=0\/k=1\/k=2\/k=3\/k=4:=by omega
 rcases this with rfl|rfl|rfl|rfl|rfl
 ·unfold Sd.kJ;go_enter func31,ntmps31
  go_wp2
  go_ret;exact⟨rfl,rfl⟩
 ·unfold Sd.kJ
  cases there with
  | false=>
   go_enter func31,ntmps31
   go_wp2
   go_ret;exact⟨rfl,rfl⟩
  | true=>
   go_enter func31,ntmps31
   go_wp2
   go_ret;exact⟨rfl,rfl⟩
 ·unfold Sd.kJ
  cases there with
  | false=>
   go_enter func31,ntmps31
   go_wp2
   go_ret;exact⟨rfl,rfl⟩
  | true=>
   go_enter func31,ntmps31
   go_wp2
   go_ret;exact⟨rfl,rfl⟩
 ·unfold Sd.kJ;have C:=hid (λs=>Ed s w)
  cases there with
  | false=>
   go_enter func31,ntmps31
   go_wp2_with (go_at_call 49;refine (C.out _).mono ?_;rintro e b ⟨rfl,a⟩;rw[a];clear a)
   go_ret;exact⟨rfl,rfl⟩
  | true=>
   cases hi:(Sd.y8 x).2 with
   | false=>
    go_enter func31,ntmps31
    go_wp2_with (go_at_call 49;refine (C.out _).mono ?_;rintro e b ⟨rfl,a⟩;rw[a];clear a)
    go_ret;exact⟨rfl,rfl⟩
   | true=>
    go_enter func31,ntmps31
    go_wp2_with (go_at_call 49;refine (C.out _).mono ?_;rintro e b ⟨rfl,a⟩;rw[a];clear a)
    go_ret;exact⟨rfl,rfl⟩
 ·unfold Sd.kJ
  cases there with
  | false=>
   go_enter func31,ntmps31
   go_wp2
   go_ret;exact⟨rfl,rfl⟩
  | true=>
   rw[Bool.true_and]
   by_cases hl:v.size<x.size
   ·rw[Mh x v hl];have c:decide ((v.size:Int)<(x.size:Int))=true:=decide_eq_true (by omega);have d:decide ((x.size:Int)>(v.size:Int))=true:=decide_eq_true (by omega);have g:(v.size:Int)<=(x.size:Int):=by omega
    cases h4:(x.toList==v.toList) with
    | true=>
     go_enter func31,ntmps31;go_wp2_with fail;go_ret;exact⟨rfl,rfl⟩
    | false=>
     rw[Bool.false_or]
     cases h5:((x.extract 0 v.size).toList==v.toList) with
     | true=>
      rw[Bool.true_and];go_enter func31,ntmps31;go_wp2_with fail;go_ret;exact⟨rfl,rfl⟩
     | false=>
      rw[Bool.false_and];go_enter func31,ntmps31;go_wp2_with fail;go_ret;exact⟨rfl,rfl⟩
   ·rw[Mk x v hl];have c:decide ((v.size:Int)<(x.size:Int))=false:=decide_eq_false (by omega)
    cases h4:(x.toList==v.toList) with
    | true=>
     go_enter func31,ntmps31;go_wp2_with fail;go_ret;exact⟨rfl,rfl⟩
    | false=>
     go_enter func31,ntmps31;go_wp2_with fail;go_ret;exact⟨rfl,rfl⟩
namespace Kp
end Kp
theorem LH{s:BY}(h:Ref.yH s=true):Ref.vo (⟨#[116,97,103]⟩,s)=true/\Ref.vo (⟨#[97,103,101]⟩,s)=true:=by
 unfold Ref.vo;simp only[h];exact⟨by decide +kernel,by decide +kernel⟩
namespace Kp
def pF:List BY:=[⟨#[97]⟩,⟨#[98]⟩,⟨#[116,97,103]⟩,⟨#[97,103,101]⟩,⟨#[100,111,99]⟩,⟨#[122,122,122,122,122,122,122,122,122,122,122,122]⟩]
end Kp
def Qw(a b c d:Value):Obj := .cells #[a,b,c,d] 53
theorem Gu{W:World}{b:Nat}{f g i j:Value}(h:W.heap[b]?=some (Qw f g i j))(a c d e:Value) :
  ((((W.setCell ⟨b,0,none⟩ a).setCell ⟨b,1,none⟩ c).setCell ⟨b,2,none⟩ d).setCell ⟨b,3,none⟩ e).heap[b]?=some (Qw a c d e):=by
 have k:=heap_setCell_same W b 0 _ _ a h;have l:=heap_setCell_same _ b 1 _ _ c k;have m:=heap_setCell_same _ b 2 _ _ d l;exact heap_setCell_same _ b 3 _ _ e m
namespace Kp
open Rd Ref
end Kp
end Go.Proofs.YtdakgnaojakldaaGreatDoor
