/- P -/
import Derived.Test.YtagnlbgbnfnapaaGreatDoorK25
open Go.Proofs.Tryz
set_option maxRecDepth 100000
set_option maxHeartbeats 4000000
namespace Go.Proofs.YtagnlbgbnfnapaaGreatDoor
open Go.RowKit
def YV(k:Nat):UInt8:=(#[48,49,50,51,52,53,54,55,56,57,97,98,99,100,101,102]:Array UInt8).getD k 0
def JL(b:UInt8):BY:=
 if b.toNat=34\/b.toNat=92 then ⟨#[92,b]⟩ else if b.toNat=10 then ⟨#[92,110]⟩ else if b.toNat=9 then ⟨#[92,116]⟩
 else if b.toNat<32 then ⟨#[92,117,48,48,YV (b.toNat / 16),YV (b.toNat % 16)]⟩ else ⟨#[b]⟩
theorem XZ{w:World}{B:Nat}{a:Value}{t u:BY}{n:Nat}{news:List Value}(b:u.size=n)(c:Rd.yw u=news)(h:w.ownsRow B 5 1 a (t.size+n) (Rd.yw t++news)):jq w B a (t++u):=by
 unfold jq;rw[Rd.VV,c,show (t++u).size=t.size+n by simp[b]];exact h
theorem vG(w:World)(cs:Array Value)(t:TypeId):∀(j:Nat) (u:Value),cs.toList[j]?=some u->(w.alloc (.cells cs t)).cell? ((⟨w.heap.size,0,none⟩:Addr).add j)=some u:=by
 intro j u a;have h:=(zg (zQ w (.cells cs t)) j).1;rw[addr_add];simp only[yO];rw[h]
 simpa using a
theorem Ll(w:World)(cs:Array Value)(t:TypeId):∀(j:Nat) (u:Value),cs.toList[j]?=some u->(w.alloc (.cells cs t)).drew.cell? ((⟨w.heap.size,0,none⟩:Addr).add j)=some u:=vG w cs t
theorem Ac(t:BY)(v:Value)(B:Nat)(b:UInt8)(w:World)(h:jq w B v t)(J:B<=w.heap.size)(ht:t.size<=1000000) :
  Calls prog 216 #[v,.int .u8 (b.toNat:Int)] w λe w'=>∃o,e = .returned o/\jq w' B o (t++JL b)/\Below B w w':=by
 obtain⟨a,c,rfl⟩:=qG h;obtain⟨q,hi,l,m,n⟩:=qP VW;have p:=hid h;have x:∀k,(Value.slice a t.size c).ownBlock=some k->B<=k:=λk D=>(World.ownsRow.lt h k D).1;have j:=hid x;obtain⟨U,g⟩:=Nm (JL b);rw[g];unfold JL at g;have C:b.toNat<256:=VO b;clear h x;have fin:∀(w1:World) (O:Obj),Below B w (w.alloc O):=λ_ O=>(zf _ w).alloc J O
 by_cases c1:b.toNat=34\/b.toNat=92
 ·rw[zb c1] at g;subst g
  rcases c1 with c1|c1
  ·have z:((b.toNat:Int)==34)=true:=by simp;omega
   clear c1;go_enter func216,ntmps216
   go_wp2_with (at_builtin;refine yK _ rfl _ _ 181 rfl B 5 q (.int .u8 0) 1 1 underlying181 hi l m n rfl (by decide) _ t.size (Rd.yw t) rfl (World.ownsRow.alloc p.out _) ⟨w.heap.size,0,none⟩ 2 2 [.int .u8 92,.int .u8 (b.toNat:Int)] rfl rfl ?_ ?_ ?_ ?_ ?_ ?_)
   ·exact vG _ _ _
   ·intro u i;simp at i;rcases i with rfl|rfl<;>rfl
   ·unfold maxLen;omega
   ·omega
   ·simp;omega
   ·intro o y f d _
    go_wp2
    go_ret;exact⟨_,rfl,XZ (u:=⟨#[92,b]⟩) rfl rfl f,(fin w _).grown d (by simp;omega) j.out⟩
  ·have e0:((b.toNat:Int)==34)=false:=by simp;omega
   have z:((b.toNat:Int)==92)=true:=by simp;omega
   clear c1;go_enter func216,ntmps216
   go_wp2_with (at_builtin;refine yK _ rfl _ _ 181 rfl B 5 q (.int .u8 0) 1 1 underlying181 hi l m n rfl (by decide) _ t.size (Rd.yw t) rfl (World.ownsRow.alloc p.out _) ⟨w.heap.size,0,none⟩ 2 2 [.int .u8 92,.int .u8 (b.toNat:Int)] rfl rfl ?_ ?_ ?_ ?_ ?_ ?_)
   ·exact vG _ _ _
   ·intro u i;simp at i;rcases i with rfl|rfl<;>rfl
   ·unfold maxLen;omega
   ·omega
   ·simp;omega
   ·intro o y f d _
    go_wp2
    go_ret;exact⟨_,rfl,XZ (u:=⟨#[92,b]⟩) rfl rfl f,(fin w _).grown d (by simp;omega) j.out⟩
 rw[za c1] at g;have z:((b.toNat:Int)==34)=false:=by simp;omega
 have H:((b.toNat:Int)==92)=false:=by simp;omega
 by_cases c2:b.toNat=10
 ·rw[zb c2] at g;subst g;have F:((b.toNat:Int)==10)=true:=by simp;omega
  clear c1 c2;go_enter func216,ntmps216
  go_wp2_with (at_builtin;refine yK _ rfl _ _ 181 rfl B 5 q (.int .u8 0) 1 1 underlying181 hi l m n rfl (by decide) _ t.size (Rd.yw t) rfl (World.ownsRow.alloc p.out _) ⟨w.heap.size,0,none⟩ 2 2 [.int .u8 92,.int .u8 110] rfl rfl ?_ ?_ ?_ ?_ ?_ ?_)
  ·exact vG _ _ _
  ·intro u i;simp at i;rcases i with rfl|rfl<;>rfl
  ·unfold maxLen;omega
  ·omega
  ·simp;omega
  ·intro o y f d _
   go_wp2
   go_ret;exact⟨_,rfl,XZ (u:=⟨#[92,110]⟩) rfl rfl f,(fin w _).grown d (by simp;omega) j.out⟩
 rw[za c2] at g;have F:((b.toNat:Int)==10)=false:=by simp;omega
 by_cases c3:b.toNat=9
 ·rw[zb c3] at g;subst g;have G:((b.toNat:Int)==9)=true:=by simp;omega
  clear c1 c2 c3;go_enter func216,ntmps216
  go_wp2_with (at_builtin;refine yK _ rfl _ _ 181 rfl B 5 q (.int .u8 0) 1 1 underlying181 hi l m n rfl (by decide) _ t.size (Rd.yw t) rfl (World.ownsRow.alloc p.out _) ⟨w.heap.size,0,none⟩ 2 2 [.int .u8 92,.int .u8 116] rfl rfl ?_ ?_ ?_ ?_ ?_ ?_)
  ·exact vG _ _ _
  ·intro u i;simp at i;rcases i with rfl|rfl<;>rfl
  ·unfold maxLen;omega
  ·omega
  ·simp;omega
  ·intro o y f d _
   go_wp2
   go_ret;exact⟨_,rfl,XZ (u:=⟨#[92,116]⟩) rfl rfl f,(fin w _).grown d (by simp;omega) j.out⟩
 rw[za c3] at g;have G:((b.toNat:Int)==9)=false:=by simp;omega
 by_cases c4:b.toNat<32
 ·rw[zb c4] at g;subst g
  have r:∀k:Nat,k<32->k≠9->k≠10->b.toNat=k->Calls prog 216 #[Value.slice a t.size c,.int .u8 (b.toNat:Int)] w λe w'=>∃o,e = .returned o/\jq w' B o (t++⟨#[92,117,48,48,YV (b.toNat / 16),YV (b.toNat % 16)]⟩)/\Below B w w':=by
   intro k D I A s;rw[s];clear z H F G c1 c2 c3 c4 s;have E:k=0\/k=1\/k=2\/k=3\/k=4\/k=5\/k=6\/k=7\/k=8\/k=11\/k=12\/k=13\/k=14\/k=15\/k=16\/k=17\/k=18\/k=19\/k=20\/k=21\/k=22\/k=23\/k=24\/k=25\/k=26\/k=27\/k=28\/k=29\/k=30\/k=31:=by omega
   clear D I A;have q0:bits BinOp.and IntKind.u8 0 15=0:=by decide +kernel
   have q1:bits BinOp.and IntKind.u8 1 15=1:=by decide +kernel
   have q2:bits BinOp.and IntKind.u8 2 15=2:=by decide +kernel
   have q3:bits BinOp.and IntKind.u8 3 15=3:=by decide +kernel
   have q4:bits BinOp.and IntKind.u8 4 15=4:=by decide +kernel
   have q5:bits BinOp.and IntKind.u8 5 15=5:=by decide +kernel
   have q6:bits BinOp.and IntKind.u8 6 15=6:=by decide +kernel
   have q7:bits BinOp.and IntKind.u8 7 15=7:=by decide +kernel
   have q8:bits BinOp.and IntKind.u8 8 15=8:=by decide +kernel
   have M:bits BinOp.and IntKind.u8 11 15=11:=by decide +kernel
   have N:bits BinOp.and IntKind.u8 12 15=12:=by decide +kernel
   have P:bits BinOp.and IntKind.u8 13 15=13:=by decide +kernel
   have Q:bits BinOp.and IntKind.u8 14 15=14:=by decide +kernel
   have R:bits BinOp.and IntKind.u8 15 15=15:=by decide +kernel
   have S:bits BinOp.and IntKind.u8 16 15=0:=by decide +kernel
   have T:bits BinOp.and IntKind.u8 17 15=1:=by decide +kernel
   have V:bits BinOp.and IntKind.u8 18 15=2:=by decide +kernel
   have W:bits BinOp.and IntKind.u8 19 15=3:=by decide +kernel
   have X:bits BinOp.and IntKind.u8 20 15=4:=by decide +kernel
   have Y:bits BinOp.and IntKind.u8 21 15=5:=by decide +kernel
   have Z:bits BinOp.and IntKind.u8 22 15=6:=by decide +kernel
   have a0:bits BinOp.and IntKind.u8 23 15=7:=by decide +kernel
   have a1:bits BinOp.and IntKind.u8 24 15=8:=by decide +kernel
   have a2:bits BinOp.and IntKind.u8 25 15=9:=by decide +kernel
   have a3:bits BinOp.and IntKind.u8 26 15=10:=by decide +kernel
   have a4:bits BinOp.and IntKind.u8 27 15=11:=by decide +kernel
   have a5:bits BinOp.and IntKind.u8 28 15=12:=by decide +kernel
   have a6:bits BinOp.and IntKind.u8 29 15=13:=by decide +kernel
   have a7:bits BinOp.and IntKind.u8 30 15=14:=by decide +kernel
   have a8:bits BinOp.and IntKind.u8 31 15=15:=by decide +kernel
   rcases E with rfl|rfl|rfl|rfl|rfl|rfl|rfl|rfl|rfl|rfl|rfl|rfl|rfl|rfl|rfl|rfl|rfl|rfl|rfl|rfl|rfl|rfl|rfl|rfl|rfl|rfl|rfl|rfl|rfl|rfl
   all_goals
    go_enter func216,ntmps216;go_wp2_with fail
    go_region_law ((refine UU _ (by rfl) _ _ _ (by rfl) B 5 q (.int .u8 0) 1 1 underlying181 hi l m n rfl (by omega) (.slice a t.size c) t.size (Rd.yw t) (by rfl) (World.ownsRow.drew (World.ownsRow.alloc p.out _)) ⟨w.heap.size,0,none⟩ 6 6 _ (by rfl) ?_ (Ll _ _ _) (by simp[Value.oneCell']) (by omega) (by unfold maxLen;omega) (by omega) (by simp;omega) (w.heap.size+1) (by simp) ?_;rfl;intro gg cap y f d K L))
    all_goals
     go_wp2_with fail;go_ret;exact⟨_,rfl,XZ (u:=⟨#[92,117,48,48,_,_]⟩) rfl rfl f,((fin w _).drew).grown d (by simp;omega) j.out⟩
  exact r b.toNat c4 c3 c2 rfl
 ·rw[za c4] at g;subst g;have e5:decide ((b.toNat:Int)<32)=false:=by simp;omega
  go_enter func216,ntmps216
  go_wp2_with (at_builtin;refine yK _ rfl _ _ 181 rfl B 5 q (.int .u8 0) 1 1 underlying181 hi l m n rfl (by decide) _ t.size (Rd.yw t) rfl (World.ownsRow.alloc p.out _) ⟨w.heap.size,0,none⟩ 1 1 [.int .u8 (b.toNat:Int)] rfl rfl ?_ ?_ ?_ ?_ ?_ ?_)
  ·exact vG _ _ _
  ·intro u i;simp at i;rcases i with rfl;rfl
  ·unfold maxLen;omega
  ·omega
  ·simp;omega
  ·intro o y f d _
   go_wp2
   go_ret;exact⟨_,rfl,XZ (u:=⟨#[b]⟩) rfl rfl f,(fin w _).grown d (by simp;omega) j.out⟩
theorem lK(t:BY)(k:Nat)(h:k<t.size):t.extract k (k+1)=⟨#[t[k]]⟩:=by
 apply Z4;apply Xb.1;have a:k<t.data.toList.length:=by rw[Ref.zA];exact h
 simp only[Jj,U1,fw];rw[show k+1-k=1 by omega,vw a]
 rfl
theorem mG(k:Nat)(h:k<16):Ref.hexDigits.extract k (k+1)=⟨#[YV k]⟩:=by
 rw[lK _ _ h]
 have:∀k:Fin 16,(Ref.hexDigits[k.val]'k.isLt)=YV k.val:=by decide +kernel
 rw[this ⟨k,h⟩]
theorem NS(s:BY)(k:Nat)(h:k<s.size):Ref.j5 s (k+1)=Ref.j5 s k++JL s[k]:=by
 rw[Ref.ry s k h];generalize Ref.j5 s k=o;have g:=lK s k h;unfold Ref.Xt JL;rw[g];generalize s[k]=b;have d:∀a b c:BY,a++b++c=a++(b++c):=λa b c=>by apply Z4;simp[ByteArray.data_append]
 by_cases c1:b.toNat=34\/b.toNat=92
 ·rw[zb (by omega),zb c1,d];rfl
 rw[za (by omega),za c1]
 by_cases c2:b.toNat=10
 ·rw[zb (by omega),zb c2]
 rw[za (by omega),za c2]
 by_cases c3:b.toNat=9
 ·rw[zb (by omega),zb c3]
 rw[za (by omega),za c3]
 by_cases c4:b.toNat<32
 ·rw[zb (by omega),zb c4];have e:((b.toNat:Int) / 16).toNat=b.toNat / 16:=by omega
  have f:((b.toNat:Int) % 16).toNat=b.toNat % 16:=by omega
  rw[e,f,mG _ (by omega),mG _ (by omega),d,d]
  rfl
 ·rw[za (by omega),za c4]
theorem cz(s:BY)(w:World)(I:s.size<=100000) :
  Calls prog 173 #[.string s] w λe w'=>e = .returned (.string (Ref.zV s))/\Below w.heap.size w w':=by
 obtain⟨F,hi,o,p,q⟩:=qP VW;have t:jq (w.alloc (.cells #[.int .u8 34] 5)) w.heap.size (.slice (some ⟨w.heap.size,0,none⟩) 1 1) (Ref.j5 s 0):=VP (base:=w.heap.size) (e:=5) (size:=1) w #[.int .u8 34] 1 (ze _) (by decide) rfl;have r:=hid t;clear t;go_enter func173,ntmps173;go_wp2_with fail
 go_loopw [3,4,8] (λG J kv wr=>∃(k:Nat),k<=s.size/\kv = .int .i64 k/\jq wr w.heap.size G (Ref.j5 s k)/\Below w.heap.size w wr) (λ_ _ kv _=>s.size-(intOf kv).toNat)
 case atStart=>exact⟨0,zG _,rfl,r.out,nbl _ _⟩
 case round=>
  obtain⟨k,v,rfl,hb,f⟩:=hrel;have j:=hid hb;have a:=hid f;clear hb f r
  by_cases hlt:k<s.size
  ·have x:=Ref.Vd s k;have m:=Ac (Ref.j5 s k) _ w.heap.size s[k] wr j.out a.out.size (by omega);rw[<- NS s k hlt] at m;have B:=hid m;clear m x
   go_wp2_with (go_at_call 216;refine B.out.mono ?_;rintro e K ⟨z,rfl,i,b⟩;have l:=hid i;have g:=hid b;clear i b)
   go_roundw
   case rel=>exact⟨k+1,by omega,by go_num,l.out,a.out.trans g.out⟩
   case measure=>simp[intOf];omega
  ·have n:k=s.size:=by omega
   subst n;have x:=Ref.Vd s s.size;have E:=a.out.size
   go_wp2_with (at_builtin;refine yK _ rfl _ _ 181 rfl w.heap.size 5 F (.int .u8 0) 1 1 underlying181 hi o p q rfl (by decide) _ (Ref.j5 s s.size).size (Rd.yw (Ref.j5 s s.size)) rfl (World.ownsRow.alloc j.out _) ⟨wr.heap.size,0,none⟩ 1 1 [.int .u8 34] rfl rfl ?_ ?_ ?_ ?_ ?_ ?_)
   ·exact vG _ _ _
   ·intro u y;simp at y;rcases y with rfl;rfl
   ·unfold maxLen;omega
   ·omega
   ·simp;omega
   ·intro z A d c _;have h:jq A w.heap.size z (Ref.zV s):=XZ (u:=⟨#[34]⟩) rfl rfl d;have D:=gP h;have C:Hid (Below w.heap.size w A):=(a.out.alloc E _).grown c (by simp;omega) (λk v=>(World.ownsRow.lt j.out k v).1);obtain⟨H,c3,rfl⟩:=qG h;clear h d c
    go_wp2
    go_ret;exact⟨rfl,C.out⟩
end Go.Proofs.YtagnlbgbnfnapaaGreatDoor
