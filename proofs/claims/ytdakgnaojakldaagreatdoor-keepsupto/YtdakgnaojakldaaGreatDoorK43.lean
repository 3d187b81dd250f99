/- P -/
import Derived.Test.YtdakgnaojakldaaGreatDoorK38
import Derived.Test.YtdakgnaojakldaaGreatDoorK25
open Go.Proofs.Tryz
set_option maxRecDepth 100000
set_option maxHeartbeats 1000000
namespace Go.Proofs.YtdakgnaojakldaaGreatDoor
open Go.RowKit
theorem bO(s:BY)(w:World)(F:s.size<=12000) :
  Calls prog 64 #[.string s] w λe w'=>e = .returned (.string (Ref.zV s))/\Below w.heap.size w w':=by
 obtain⟨R,j⟩:=Nm (Ref.zV s);rw[j];have i:=hid j;clear j;go_enter func64,ntmps64
 go_wp2
 obtain⟨O,g⟩:∃O:Nat->BY,Ref.j3 s=O:=⟨_,rfl⟩;have d:∀k,(O k).size<=1+6*k:=λk=>by rw[<- g];exact Ref.J5 s k
 have f:=hid g;have b:=hid d;have p:Hid (O 0=⟨#[34]⟩):=by rw[<- g];rfl
 clear g d
 go_loopw [4,5] (λB l wr=>∃k:Nat,k<=s.size/\l = .int .i64 k/\B = .string (O k)/\Below w.heap.size w wr) (λ_ l _=>s.size-(intOf l).toNat)
 case atStart=>exact⟨0,zD _,rfl,by rw[p.out],zf _ _⟩
 case round=>
  obtain⟨k,E,rfl,rfl,a⟩:=hrel;have z:=b.out k;obtain⟨o,c⟩:=Nm (O k);rw[c] at z |-
  by_cases hlt:k<s.size
  ·have m:Hid (O (k+1)=Ref.Xm s o k (s[k].toNat:Int)):=by rw[<- c,<- f.out];exact Ref.pu s k hlt
   have b0:(0:Int)<=(s[k].toNat:Int):=Ref.b0 _;have C:(s[k].toNat:Int)<=255:=Ref.Kt _;clear c f b p i
   by_cases h:32<=(s[k].toNat:Int)\/(s[k].toNat:Int)=10\/(s[k].toNat:Int)=9
   ·have r:=hid h;clear h
    go_wp2
    all_goals first
     | (exfalso;have h:=r.out;simp only[ku,qG,ne_eq] at *;omega)
     | (go_roundw
        case rel=>
         refine⟨k+1,by omega,by go_num,?_,a⟩;rw[m.out]
         try simp only[ku,qG,ne_eq] at *
         unfold Ref.Xm
         first
          | rw[zb (by omega)]
          | rw[za (by omega),zb (by omega)]
          | rw[za (by omega),za (by omega),zb (by omega)]
          | rw[za (by omega),za (by omega),za (by omega),za (by omega)]
        case measure=>simp[intOf];omega)
   ·have y:((s[k].toNat:Int)==34)=false:=by simp;omega
    have A:((s[k].toNat:Int)==92)=false:=by simp;omega
    have v:((s[k].toNat:Int)==10)=false:=by simp;omega
    have D:((s[k].toNat:Int)==9)=false:=by simp;omega
    have x:decide ((s[k].toNat:Int)<32)=true:=by simp;omega
    have n:Hid (O (k+1)=o++⟨#[92,117,48,48]⟩++Ref.hexDigits.extract ((s[k].toNat:Int) / 16).toNat (((s[k].toNat:Int) / 16).toNat+1)++Ref.hexDigits.extract ((s[k].toNat:Int) % 16).toNat (((s[k].toNat:Int) % 16).toNat+1)):=by
     rw[m.out];unfold Ref.Xm;rw[za (by omega),za (by omega),za (by omega),zb (by omega)];rfl
    clear m h;go_wp2_with fail
    go_region
    all_goals
     go_wp2
     go_roundw
     case rel=>
      have t:((s[k].toNat:Int) / 16).toNat=s[k].toNat / 16:=by omega
      have u:((s[k].toNat:Int) % 16).toNat=s[k].toNat % 16:=by omega
      have q:=n.out;rw[t,u] at q;exact⟨k+1,by omega,by go_num,by rw[q];rfl,a.drew⟩
     case measure=>simp[intOf];omega
  ·have e:R=o++⟨#[34]⟩:=by rw[<- i.out,<- c,<- f.out,Ref.zV,show k=s.size by omega]
   subst e;clear i f c
   go_wp2
   go_ret;exact⟨rfl,a⟩
theorem pz(s q:BY)(w:World)(b:s.size<=12000)(a:Ref.zV s=q) :
  Calls prog 64 #[.string s] w λe w'=>e = .returned (.string q)/\Below w.heap.size w w':=by
 subst a;exact bO s w b
theorem mR(l:List BY)(lv:Value)(base:Nat)(w:World)(h:w.ownsRow base 9 1 lv l.length (Ref.strCells l))(L:l.length<=10)(m:∀s ∈ l,s.size<=12000) :
  Calls prog 119 #[lv] w λe w'=>e = .returned (.string (Ref.yF l))/\Below w.heap.size w w':=by
 obtain⟨R,u⟩:=Nm (Ref.yF l);rw[u];obtain⟨M,N,rfl,F⟩:=yQ h;have t:=hid u;have H:=hid F;have f:=hid m;clear u F m h;obtain⟨O,p⟩:∃O:Nat->BY,Ref.jB l=O:=⟨_,rfl⟩;have c:∀k,(O k).size<=1+80000*k:=λk=>by rw[<- p];exact Ref.X7 l f.out k
 have n:=hid p;have C:=hid c;have E:Hid (O 0=⟨#[91]⟩):=by rw[<- p];rfl
 clear p c;go_enter func119,ntmps119
 go_wp2
 go_loopw [3,4] (λI y wr=>∃k:Nat,k<=l.length/\y = .int .i64 k/\I = .string (O k)/\Below w.heap.size w wr) (λ_ y _=>l.length-(intOf y).toNat)
 case atStart=>exact⟨0,zD _,rfl,by rw[E.out],zf _ _⟩
 case round=>
  obtain⟨k,K,rfl,rfl,a⟩:=hrel;have z:=C.out k;obtain⟨o,i⟩:=Nm (O k);rw[i] at z |-
  by_cases hlt:k<l.length
  ·obtain⟨g,rfl,A⟩:=H.out k hlt;rw[Ref.Xx l k hlt] at A;have q2:=zh a A;have b:=f.out l[k] (xy hlt);have r:O (k+1)=(if 0<k then o++⟨#[44]⟩ else o)++Ref.zV l[k]:=by rw[<- i,<- n.out];exact Ref.IM l k hlt
   have j:=Ref.um l[k];obtain⟨s,G⟩:=Nm (l[k]);rw[G] at q2 b r j;obtain⟨q,x⟩:=Nm (Ref.zV s);rw[x] at r j;have D:=hid r;have B:=hid x;clear i n C E t r x A G
   by_cases hk0:0<k
   ·have v:decide (0<(k:Int))=true:=zB (by omega)
    go_wp2_with (go_at_call 64;refine (pz s q _ b B.out).mono ?_;rintro e J ⟨rfl,d⟩)
    go_roundw
    case rel=>exact⟨k+1,by omega,by go_num,by rw[D.out,zb hk0],a.trans (d.mono a.size)⟩
    case measure=>simp[intOf];omega
   ·have v:decide (0<(k:Int))=false:=zM (by omega)
    go_wp2_with (go_at_call 64;refine (pz s q _ b B.out).mono ?_;rintro e J ⟨rfl,d⟩)
    go_roundw
    case rel=>exact⟨k+1,by omega,by go_num,by rw[D.out,za hk0],a.trans (d.mono a.size)⟩
    case measure=>simp[intOf];omega
  ·have e:R=o++⟨#[93]⟩:=by rw[<- t.out,<- i,<- n.out,Ref.yF,show k=l.length by omega]
   subst e;clear t n i
   go_wp2
   go_ret;exact⟨rfl,a⟩
def Ref.chosenB(a:Bool)(l:List BY):BY:=if a then ⟨#[123,34,110,111,116,34,58]⟩++Ref.yF l++⟨#[125]⟩ else Ref.yF l
theorem Ref.mQ(l:List BY)(a:l.length<=10)(h:∀s ∈ l,s.size<=12000):(Ref.yF l).size<=900000:=by
 have:=Ref.X7 l h l.length
 have z:(⟨#[93]⟩:BY).size=1:=rfl;rw[Ref.yF,zH];omega
theorem KP(g:Bool)(l:List BY)(lv:Value)(base:Nat)(w:World)(h:w.ownsRow base 9 1 lv l.length (Ref.strCells l))(j:l.length<=10)(b:∀s ∈ l,s.size<=12000) :
  Calls prog 65 #[.agg #[.bool g,lv]] w λe w'=>e = .returned (.string (Ref.chosenB g l))/\Below w.heap.size w w':=by
 have m:=Ref.mQ l j b;have f:∀O:Obj,Below w.heap.size w (w.alloc O):=λO=>nbl _ O
 have d:Hid (∀O:Obj,Calls prog 119 #[lv] (w.alloc O) λe w'=>e = .returned (.string (Ref.yF l))/\Below (w.alloc O).heap.size (w.alloc O) w'):=
  λO=>mR l lv base _ (ownsRow_below h (f O)) j b
 have i:=hid f;obtain⟨q,k⟩:=Nm (Ref.yF l);unfold Ref.chosenB;rw[k] at d m |-;obtain⟨o,p,rfl,_⟩:=yQ h;clear h k b f
 cases g with
 | true=>
  rw[zb rfl];go_enter func65,ntmps65;go_wp2_with fail;refine (d.out _).mono ?_;rintro e n ⟨rfl,a⟩;have c:=hid ((i.out _).trans (a.mono (by simp)));clear a
  go_wp2
  go_ret;exact⟨rfl,c.out⟩
 | false=>
  rw[za (by simp)];go_enter func65,ntmps65;go_wp2_with fail;refine (d.out _).mono ?_;rintro e n ⟨rfl,a⟩;have c:=hid ((i.out _).trans (a.mono (by simp)));clear a
  go_wp2
  go_ret;exact⟨rfl,c.out⟩
end Go.Proofs.YtdakgnaojakldaaGreatDoor
