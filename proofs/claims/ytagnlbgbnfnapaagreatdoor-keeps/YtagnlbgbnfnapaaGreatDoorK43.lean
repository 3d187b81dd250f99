/- P -/
import Derived.Test.YtagnlbgbnfnapaaGreatDoorK38
import Derived.Test.YtagnlbgbnfnapaaGreatDoorK25
open Go.Proofs.Tryz
set_option maxRecDepth 100000
set_option maxHeartbeats 1000000
namespace Go.Proofs.YtagnlbgbnfnapaaGreatDoor
open Go.RowKit
theorem cZ(s:BY)(w:World)(F:s.size<=12000) :
  Calls prog 131 #[.string s] w λe w'=>e = .returned (.string (Ref.zV s))/\Below w.heap.size w w':=by
 obtain⟨R,j⟩:=Nm (Ref.zV s);rw[j];have i:=hid j;clear j;go_enter func131,ntmps131
 go_wp2
 obtain⟨O,g⟩:∃O:Nat->BY,Ref.j5 s=O:=⟨_,rfl⟩;have d:∀k,(O k).size<=1+6*k:=λk=>by rw[<- g];exact Ref.Vd s k
 have f:=hid g;have b:=hid d;have p:Hid (O 0=⟨#[34]⟩):=by rw[<- g];rfl
 clear g d
 go_loopw [4,5] (λB l wr=>∃k:Nat,k<=s.size/\l = .int .i64 k/\B = .string (O k)/\Below w.heap.size w wr) (λ_ l _=>s.size-(intOf l).toNat)
 case atStart=>exact⟨0,zG _,rfl,by rw[p.out],zf _ _⟩
 case round=>
  obtain⟨k,E,rfl,rfl,a⟩:=hrel;have z:=b.out k;obtain⟨o,c⟩:=Nm (O k);rw[c] at z |-
  by_cases hlt:k<s.size
  ·have m:Hid (O (k+1)=Ref.Xt s o k (s[k].toNat:Int)):=by rw[<- c,<- f.out];exact Ref.ry s k hlt
   have b0:(0:Int)<=(s[k].toNat:Int):=Ref.b0 _;have C:(s[k].toNat:Int)<=255:=Ref.KI _;clear c f b p i
   by_cases h:32<=(s[k].toNat:Int)\/(s[k].toNat:Int)=10\/(s[k].toNat:Int)=9
   ·have r:=hid h;clear h
    go_wp2
    all_goals first
     | (exfalso;have h:=r.out;simp only[kH,qI,ne_eq] at *;omega)
     | (go_roundw
        case rel=>
         refine⟨k+1,by omega,by go_num,?_,a⟩;rw[m.out]
         try simp only[kH,qI,ne_eq] at *
         unfold Ref.Xt
         first
          | rw[zb (by omega)]
          | rw[za (by omega),zb (by omega)]
          | rw[za (by omega),za (by omega),zb (by omega)]
          | rw[za (by omega),za (by omega),za (by omega),za (by omega)]
        case measure=>simp[intOf];omega)
   ·have y:((s[k].toNat:Int)==34)=false:=by simp;omega
    have A:((s[k].toNat:Int)==92)=false:=by simp;omega
    have v:((s[k].toNat:Int)==10)=false:=by simp;omega
    have D:((s[k].toNat:Int)==9)=false:=by simp;omega
    have x:decide ((s[k].toNat:Int)<32)=true:=by simp;omega
    have n:Hid (O (k+1)=o++⟨#[92,117,48,48]⟩++Ref.hexDigits.extract ((s[k].toNat:Int) / 16).toNat (((s[k].toNat:Int) / 16).toNat+1)++Ref.hexDigits.extract ((s[k].toNat:Int) % 16).toNat (((s[k].toNat:Int) % 16).toNat+1)):=by
     rw[m.out];unfold Ref.Xt;rw[za (by omega),za (by omega),za (by omega),zb (by omega)];rfl
    clear m h;go_wp2_with fail
    go_region
    all_goals
     go_wp2
     go_roundw
     case rel=>
      have t:((s[k].toNat:Int) / 16).toNat=s[k].toNat / 16:=by omega
      have u:((s[k].toNat:Int) % 16).toNat=s[k].toNat % 16:=by omega
      have q:=n.out;rw[t,u] at q;exact⟨k+1,by omega,by go_num,by rw[q];rfl,a.drew⟩
     case measure=>simp[intOf];omega
  ·have e:R=o++⟨#[34]⟩:=by rw[<- i.out,<- c,<- f.out,Ref.zV,show k=s.size by omega]
   subst e;clear i f c
   go_wp2
   go_ret;exact⟨rfl,a⟩
theorem rz(s q:BY)(w:World)(b:s.size<=12000)(a:Ref.zV s=q) :
  Calls prog 131 #[.string s] w λe w'=>e = .returned (.string q)/\Below w.heap.size w w':=by
 subst a;exact cZ s w b
theorem nJ(l:List BY)(lv:Value)(base:Nat)(w:World)(h:w.ownsRow base 9 1 lv l.length (Ref.strCells l))(L:l.length<=10)(m:∀s ∈ l,s.size<=12000) :
  Calls prog 177 #[lv] w λe w'=>e = .returned (.string (Ref.yI l))/\Below w.heap.size w w':=by
 obtain⟨R,u⟩:=Nm (Ref.yI l);rw[u];obtain⟨M,N,rfl,F⟩:=yU h;have t:=hid u;have H:=hid F;have f:=hid m;clear u F m h;obtain⟨O,p⟩:∃O:Nat->BY,Ref.jE l=O:=⟨_,rfl⟩;have c:∀k,(O k).size<=1+80000*k:=λk=>by rw[<- p];exact Ref.Yb l f.out k
 have n:=hid p;have C:=hid c;have E:Hid (O 0=⟨#[91]⟩):=by rw[<- p];rfl
 clear p c;go_enter func177,ntmps177
 go_wp2
 go_loopw [3,4] (λI y wr=>∃k:Nat,k<=l.length/\y = .int .i64 k/\I = .string (O k)/\Below w.heap.size w wr) (λ_ y _=>l.length-(intOf y).toNat)
 case atStart=>exact⟨0,zG _,rfl,by rw[E.out],zf _ _⟩
 case round=>
  obtain⟨k,K,rfl,rfl,a⟩:=hrel;have z:=C.out k;obtain⟨o,i⟩:=Nm (O k);rw[i] at z |-
  by_cases hlt:k<l.length
  ·obtain⟨g,rfl,A⟩:=H.out k hlt;rw[Ref.XD l k hlt] at A;have q2:=zi a A;have b:=f.out l[k] (xB hlt);have r:O (k+1)=(if 0<k then o++⟨#[44]⟩ else o)++Ref.zV l[k]:=by rw[<- i,<- n.out];exact Ref.Lj l k hlt
   have j:=Ref.ut l[k];obtain⟨s,G⟩:=Nm (l[k]);rw[G] at q2 b r j;obtain⟨q,x⟩:=Nm (Ref.zV s);rw[x] at r j;have D:=hid r;have B:=hid x;clear i n C E t r x A G
   by_cases hk0:0<k
   ·have v:decide (0<(k:Int))=true:=zC (by omega)
    go_wp2_with (go_at_call 131;refine (rz s q _ b B.out).mono ?_;rintro e J ⟨rfl,d⟩)
    go_roundw
    case rel=>exact⟨k+1,by omega,by go_num,by rw[D.out,zb hk0],a.trans (d.mono a.size)⟩
    case measure=>simp[intOf];omega
   ·have v:decide (0<(k:Int))=false:=zO (by omega)
    go_wp2_with (go_at_call 131;refine (rz s q _ b B.out).mono ?_;rintro e J ⟨rfl,d⟩)
    go_roundw
    case rel=>exact⟨k+1,by omega,by go_num,by rw[D.out,za hk0],a.trans (d.mono a.size)⟩
    case measure=>simp[intOf];omega
  ·have e:R=o++⟨#[93]⟩:=by rw[<- t.out,<- i,<- n.out,Ref.yI,show k=l.length by omega]
   subst e;clear t n i
   go_wp2
   go_ret;exact⟨rfl,a⟩
def Ref.chosenB(a:Bool)(l:List BY):BY:=if a then ⟨#[123,34,110,111,116,34,58]⟩++Ref.yI l++⟨#[125]⟩ else Ref.yI l
theorem Ref.nI(l:List BY)(a:l.length<=10)(h:∀s ∈ l,s.size<=12000):(Ref.yI l).size<=900000:=by
 have:=Ref.Yb l h l.length
 have z:(⟨#[93]⟩:BY).size=1:=rfl;rw[Ref.yI,zJ];omega
theorem K6(g:Bool)(l:List BY)(lv:Value)(base:Nat)(w:World)(h:w.ownsRow base 9 1 lv l.length (Ref.strCells l))(j:l.length<=10)(b:∀s ∈ l,s.size<=12000) :
  Calls prog 132 #[.agg #[.bool g,lv]] w λe w'=>e = .returned (.string (Ref.chosenB g l))/\Below w.heap.size w w':=by
 have m:=Ref.nI l j b;have f:∀O:Obj,Below w.heap.size w (w.alloc O):=λO=>nbl _ O
 have d:Hid (∀O:Obj,Calls prog 177 #[lv] (w.alloc O) λe w'=>e = .returned (.string (Ref.yI l))/\Below (w.alloc O).heap.size (w.alloc O) w'):=
  λO=>nJ l lv base _ (ownsRow_below h (f O)) j b
 have i:=hid f;obtain⟨q,k⟩:=Nm (Ref.yI l);unfold Ref.chosenB;rw[k] at d m |-;obtain⟨o,p,rfl,_⟩:=yU h;clear h k b f
 cases g with
 | true=>
  rw[zb rfl];go_enter func132,ntmps132;go_wp2_with fail;refine (d.out _).mono ?_;rintro e n ⟨rfl,a⟩;have c:=hid ((i.out _).trans (a.mono (by simp)));clear a
  go_wp2
  go_ret;exact⟨rfl,c.out⟩
 | false=>
  rw[za (by simp)];go_enter func132,ntmps132;go_wp2_with fail;refine (d.out _).mono ?_;rintro e n ⟨rfl,a⟩;have c:=hid ((i.out _).trans (a.mono (by simp)));clear a
  go_wp2
  go_ret;exact⟨rfl,c.out⟩
end Go.Proofs.YtagnlbgbnfnapaaGreatDoor
