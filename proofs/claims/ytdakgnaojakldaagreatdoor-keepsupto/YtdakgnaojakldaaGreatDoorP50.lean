/- P -/
import Derived.Test.YtdakgnaojakldaaGreatDoorP48
import Derived.Test.YtdakgnaojakldaaGreatDoorP49
import Derived.Lib.AppendZeros
set_option maxRecDepth 100000
set_option maxHeartbeats 4000000
namespace Go.Proofs.YtdakgnaojakldaaGreatDoor
open Go.RowKit
def zly (k:Nat):ByteArray:=(⟨#[48,49,50,51,52,53,54,55,56,57]⟩:ByteArray).extract k (k+1)
def zka:Nat→Nat→ByteArray→ByteArray
 | 0,_,s=>s
 | f+1,i,s=>if i / 10=0 then s++zly (i % 10) else zka f (i / 10) (s++zly (i % 10))
def zdz (i:Nat):ByteArray:=zka (i+1) i ⟨#[40,109,105,110,101,32]⟩
theorem zgP {k:Nat} (h:k<10):(zly k).size=1:=by
 unfold zly
 rw [ByteArray.size_extract]
 show min (k+1) 10-k=1
 omega
theorem zkK (i:Nat) (w:World) (hi:i≤1000000000) :
  Calls Tryz.prog 76 #[.int .i64 (i:Int)] w fun e w'=>e = .returned (.string (zdz i))∧w'=w:=by
 obtain ⟨R,hR⟩:∃R,zdz i=R:=⟨_,rfl⟩
 rw [hR]
 unfold zdz at hR
 have HR:=hid hR
 clear hR
 go_enter Tryz.func76,Tryz.ntmps76
 go_wp2
 go_loopw [0,3] (fun iv sv wr=>∃(k f:Nat) (s:ByteArray),iv = .int .i64 (k:Int)∧sv = .string s∧k<f∧zka f k s=R∧s.size+k≤6+i∧k≤i∧wr=w) (fun iv _ _=>(intOf iv).toNat)
 case atStart=>exact ⟨i,i+1,_,rfl,rfl,by omega,HR.out,by show 6+i≤6+i;omega,Nat.le_refl _,rfl⟩
 case round=>
  obtain ⟨k,f,s,rfl,rfl,hkf,hm,hsz,hki,hwr⟩:=hrel
  rw [hwr]
  clear hwr
  obtain ⟨g,rfl⟩:∃g,f=g+1:=⟨f-1,by omega⟩
  rw [zka] at hm
  have hdz:=zgP (k:=k % 10) (by omega)
  have hdg:zly (k % 10)=(⟨#[48,49,50,51,52,53,54,55,56,57]⟩:ByteArray).extract (k % 10) (k % 10+1):=rfl
  have k0:(0:Int)≤(k:Int):=Int.natCast_nonneg _
  go_upto_if 15 with fail
  rw [← hdg]
  have hsd:(s++zly (k % 10)).size=s.size+1:=by rw [ByteArray.size_append,hdz]
  obtain ⟨S,hS⟩:∃S,s++zly (k % 10)=S:=⟨_,rfl⟩
  rw [hS] at hm hsd ⊢
  have hq:((k:Int) / 10)=((k / 10:Nat):Int):=rfl
  by_cases hz:k / 10=0
  ·rw [if_pos hz] at hm
   have d:((k:Int) / 10==0)=true:=by rw [hq,hz];rfl
   rw [d]
   have HM:=hid hm
   clear hm hS hdg hdz HR
   go_wp2_with fail
   go_ret
   exact ⟨by rw [← HM.out];rfl,rfl⟩
  ·rw [if_neg hz] at hm
   have d:((k:Int) / 10==0)=false:=by rw [hq];simp;omega
   rw [d]
   have HM:=hid hm
   clear hm hS hdg hdz HR
   go_wp2_with fail
   go_roundw
   case rel=>exact ⟨k / 10,g,S,by rw [hq],rfl,by omega,HM.out,by omega,by omega,by trivial⟩
   case measure=>simp [intOf];omega
theorem zcg (A:List ByteArray) (va vb:Value) (ba bb:Nat) (w:World) (ha:zh w ba va A) (hb:zh w bb vb A) (hn:A.length≤1000000000) :
  Calls Tryz.prog 73 #[va,vb] w fun e w'=>e = .returned (.bool true)∧Below w.heap.size w w':=by
 have cell:∀{v:Value} {base:Nat},zh w base v A→∃a c,v = .slice a A.length c∧∀(k:Nat) (x:ByteArray),A[k]?=some x→∃gb,a=some ⟨gb,0,none⟩∧w.cell? ⟨gb,k,none⟩=some (.string x):=by
  intro v base h
  obtain ⟨a,c,rfl⟩:=zq h
  refine ⟨a,c,rfl,fun k x hx=>?_⟩
  have hk:k<A.length:=(List.getElem?_eq_some_iff.1 hx).1
  rcases h.2 with ⟨e,h0⟩|⟨gb,cap,cur,e,_⟩
  ·omega
  ·have hc:=World.ownsRow.cellAt (g:=gb) (cap:=cap) (by rw [← e];exact h) k (by omega)
   injection e with e1 e2 e3
   exact ⟨gb,e1,by rw [hc];simp [List.getElem?_map,hx]⟩
 obtain ⟨a1,c1,rfl,k1⟩:=cell ha
 obtain ⟨a2,c2,rfl,k2⟩:=cell hb
 obtain ⟨n,hnn⟩:∃n,A.length=n:=⟨_,rfl⟩
 rw [hnn] at hn ⊢
 have K1:=hid k1
 have K2:=hid k2
 have HN:=hid hnn
 have hne:((n:Int) != (n:Int))=false:=by simp
 clear cell k1 k2 hnn ha hb
 go_enter Tryz.func73,Tryz.ntmps73
 go_wp2
 go_loopw [5] (fun iv wr=>∃k:Nat,k≤n∧iv = .int .i64 k∧Below w.heap.size w wr) (fun iv _=>n-(intOf iv).toNat)
 case atStart=>exact ⟨0,Nat.zero_le _,rfl,Below.refl _ _⟩
 case round=>
  obtain ⟨k,hk,rfl,hbel⟩:=hrel
  have HB:=hid hbel
  clear hbel
  by_cases hlt:k<n
  ·have hkl:k<A.length:=by rw [HN.out];exact hlt
   obtain ⟨g1,rfl,q1⟩:=K1.out k _ (List.getElem?_eq_getElem hkl)
   obtain ⟨g2,rfl,q2⟩:=K2.out k _ (List.getElem?_eq_getElem hkl)
   have p1:=cell_later HB.out q1
   have p2:=cell_later HB.out q2
   obtain ⟨x,hx⟩:∃x,A[k]=x:=⟨_,rfl⟩
   rw [hx] at p1 p2
   have k0:(0:Int)≤(k:Int):=Int.natCast_nonneg _
   have k3:(k:Int)<(n:Int):=by omega
   have d:(x.toList==x.toList)=true:=by simp
   have d2:(x.toList != x.toList)=false:=by simp
   clear q1 q2 hx K1 K2
   go_wp2_with fail
   go_quiet (fail)
   go_wp2
   go_roundw
   case rel=>exact ⟨k+1,by omega,by go_num,below_drewN HB.out nq⟩
   case measure=>simp [intOf];omega
  ·clear K1 K2
   go_wp2
   go_ret
   exact ⟨rfl,HB.out⟩
theorem Ku (c:Int) (n:Nat) (w:World) (hc:I64 c) (hn:0<n) (hm:n≤1000000000) :
  Calls Tryz.prog 68 #[.int .i64 c, .int .i64 (n:Int)] w fun e w'=>e = .returned (.int .i64 (Kp.Z5 c n:Int))∧w'=w:=by
 obtain ⟨h1,h2⟩:=hc
 by_cases h0:c<0
 ·have e:=hid (zh3 c n h0)
  go_enter Tryz.func68,Tryz.ntmps68
  go_wp2
  go_ret
  exact ⟨by rw [← e.out];rfl,rfl⟩
 ·have e:=hid (ziv c n (by omega))
  go_enter Tryz.func68,Tryz.ntmps68
  go_wp2
  go_ret
  exact ⟨by rw [← e.out];rfl,rfl⟩
def J6 (M:Nat→Prop) (W:World) (v:Value) (z:ByteArray):Prop:=
 ∃a n c,v = .slice a n c∧n≤1000000000∧∀j,j<n→∃gb,a=some ⟨gb,0,none⟩∧¬M gb∧W.cell? ⟨gb,j,none⟩=some (.string z)
def ZT (M:Nat→Prop) (W:World) (v:Value) (z:ByteArray):Prop:=
 ∃gi c,∃vs:Nat→Value,v = .slice (some ⟨gi,0,none⟩) 4 c∧¬M gi∧∀k,k<4→W.cell? ⟨gi,k,none⟩=some (vs k)∧J6 M W (vs k) z
def Ug (M:Nat→Prop) (W:World) (bkv:Value) (m:Nat):Prop:=
 ∃ys,W.ownsRow 0 183 1 bkv m ys∧∀(i:Nat) (v:Value),ys[i]?=some v→ZT M W v (zdz i)
theorem J6.turn {M:Nat→Prop} {W W':World} {v:Value} {z:ByteArray} (h:J6 M W v z) (k:zF M W W'):J6 M W' v z:=by
 obtain ⟨a,n,c,e,hn,h1⟩:=h
 exact ⟨a,n,c,e,hn,fun j hj=>by obtain ⟨gb,e,hm,hc⟩:=h1 j hj;exact ⟨gb,e,hm,k.cell hm hc⟩⟩
theorem ZT.turn {M:Nat→Prop} {W W':World} {v:Value} {z:ByteArray} (h:ZT M W v z) (k:zF M W W'):ZT M W' v z:=by
 obtain ⟨gi,c,vs,e,hm,h1⟩:=h
 exact ⟨gi,c,vs,e,hm,fun j hj=>⟨k.cell hm (h1 j hj).1,(h1 j hj).2.turn k⟩⟩
theorem J6.more {M M':Nat→Prop} {W:World} {v:Value} {z:ByteArray} (h:J6 M W v z) (hM:∀b,M' b→M b∨W.heap.size≤b):J6 M' W v z:=by
 obtain ⟨a,n,c,e,hn,h1⟩:=h
 refine ⟨a,n,c,e,hn,fun j hj=>?_⟩
 obtain ⟨gb,e,hm,hc⟩:=h1 j hj
 have hl:gb<W.heap.size:=World.block_lt_of_cell? _ _ hc
 exact ⟨gb,e,fun hm'=>(hM gb hm').elim hm (fun x=>by omega),hc⟩
theorem ZT.more {M M':Nat→Prop} {W:World} {v:Value} {z:ByteArray} (h:ZT M W v z) (hM:∀b,M' b→M b∨W.heap.size≤b):ZT M' W v z:=by
 obtain ⟨gi,c,vs,e,hm,h1⟩:=h
 have hl:gi<W.heap.size:=World.block_lt_of_cell? _ _ (h1 0 (by omega)).1
 exact ⟨gi,c,vs,e,fun hm'=>(hM gi hm').elim hm (fun x=>by omega),fun j hj=>⟨(h1 j hj).1,(h1 j hj).2.more hM⟩⟩
theorem zk2 (M:Nat→Prop) (w:World) (yb m:Nat) (bkv:Value) (hc:w.cell? ⟨yb,1,none⟩=some bkv) (h:Ug M w bkv m) (hm:m≤1000000000) :
  Calls Tryz.prog 38 #[.pointer (some ⟨yb,1,none⟩)] w fun e w'=>e = .returned (.bool true)∧w'=w:=by
 obtain ⟨ys,hown,hys⟩:=h
 obtain ⟨a,c,rfl⟩:=zq hown
 have hcell:∀i,i<m→∃gb v,a=some ⟨gb,0,none⟩∧w.cell? ⟨gb,i,none⟩=some v∧ZT M w v (zdz i):=by
  intro i hi
  have hl:=hown.1
  rcases hown.2 with ⟨e,h0⟩|⟨gb,cap,cur,e,_⟩
  ·omega
  ·have hcc:=World.ownsRow.cellAt (g:=gb) (cap:=cap) (by rw [← e];exact hown) i (by omega)
   injection e with e1 e2 e3
   have hy:=List.getElem?_eq_getElem (l:=ys) (i:=i) (by omega)
   exact ⟨gb,_,e1,hcc.trans hy,hys i _ hy⟩
 have cm:=fun i (hi:i≤m) W=>zkK i W (Nat.le_trans hi hm)
 have HC:=hid hcell
 have CM:=hid cm
 clear hcell hown hys cm
 go_enter Tryz.func38,Tryz.ntmps38
 go_wp2
 go_loopw [3,4,5,6] (fun iv _ _ _ wr=>∃i:Nat,i≤m∧iv = .int .i64 i∧wr=w) (fun iv _ _ _ _=>m-(intOf iv).toNat)
 case atStart=>exact ⟨0,Nat.zero_le _,rfl,rfl⟩
 case round=>
  obtain ⟨i,hi,rfl,hwr⟩:=hrel
  rw [hwr]
  clear hwr
  by_cases hlt:i<m
  ·obtain ⟨gb,v,rfl,q0,gi,lc,vs,rfl,_,hvs⟩:=HC.out i hlt
   have cmi:=CM.out i hi
   obtain ⟨z,hz⟩:∃z,zdz i=z:=⟨_,rfl⟩
   simp only [hz] at cmi hvs
   have CMI:=hid cmi
   have HV:=hid hvs
   have i0:(0:Int)≤(i:Int):=Int.natCast_nonneg _
   have i1:(i:Int)<(m:Int):=by omega
   clear cmi hvs hz HC CM
   go_wp2_with (go_at_call 76;refine (CMI.out _).mono ?_;rintro e w2 ⟨rfl,e2⟩;rw [e2];clear e2)
   go_loopw [5,6] (fun kv _ wr=>∃k:Nat,k≤4∧kv = .int .i64 k∧wr=w) (fun kv _ _=>4-(intOf kv).toNat)
   case atStart=>exact ⟨0,Nat.zero_le _,rfl,rfl⟩
   case round=>
    obtain ⟨k,hk,rfl,hwr⟩:=hrel
    rw [hwr]
    clear hwr
    by_cases hlk:k<4
    ·obtain ⟨q1,a2,n2,c2,hv2,hn2,hcc⟩:=HV.out k hlk
     rw [hv2] at q1
     have HCC:=hid hcc
     have k0:(0:Int)≤(k:Int):=Int.natCast_nonneg _
     have k1:(k:Int)<4:=by omega
     clear hcc hv2
     go_wp2_with fail
     go_loopw [6] (fun jv wr=>∃j:Nat,j≤n2∧jv = .int .i64 j∧wr=w) (fun jv _=>n2-(intOf jv).toNat)
     case atStart=>exact ⟨0,Nat.zero_le _,rfl,rfl⟩
     case round=>
      obtain ⟨j,hj,rfl,hwr⟩:=hrel
      rw [hwr]
      clear hwr
      by_cases hlj:j<n2
      ·obtain ⟨g2,rfl,_,q2⟩:=HCC.out j hlj
       have j0:(0:Int)≤(j:Int):=Int.natCast_nonneg _
       have j1:(j:Int)<(n2:Int):=by omega
       have d:(z.toList==z.toList)=true:=by simp
       have d2:(z.toList != z.toList)=false:=by simp
       clear HCC
       go_wp2_with fail
       go_roundw
       case rel=>exact ⟨j+1,by omega,by go_num,by trivial⟩
       case measure=>simp [intOf];omega
      ·go_wp2_with fail
       go_roundw
       case rel=>exact ⟨k+1,by omega,by go_num,by trivial⟩
       case measure=>simp [intOf];omega
    ·go_wp2_with fail
     go_roundw
     case rel=>exact ⟨i+1,by omega,by go_num,by trivial⟩
     case measure=>simp [intOf];omega
  ·go_wp2_with fail
   go_ret
   exact ⟨rfl,rfl⟩
theorem X5 (w:World) (ty:TypeId) (base:Nat) (v:Value) (n:Nat) (xs:List Value) (hown:w.ownsRow base 9 1 v n xs) (ad:Addr) (m c:Nat) (news:List Value) (hl:news.length=m) (hnews:∀j u,news[j]?=some u→w.cell? (ad.add j)=some u) (h1:∀u ∈ news,u.oneCell'=true) (hm:0<m) (hb:n+m≤2000000000) (hbase:base≤w.heap.size) :
  ∃v' w',(Builtin.append_ #[42,42] ty #[v, .slice (some ad) m c]).run Tryz.prog w = .ok v' w'∧w'.ownsRow base 9 1 v' (n+m) (xs++news)∧w'.ownsRow base 9 1 v n xs∧w.grownBy w' v.ownBlock ∧
   ((∃g cap,v = .slice (some ⟨g,0,none⟩) n cap∧v' = .slice (some ⟨g,0,none⟩) (n+m) cap∧n+m≤cap)∨(Below w.heap.size w w'∧∃g',v'.ownBlock=some g'∧w.heap.size≤g')):=by
 obtain ⟨i0,hi,hz0,hz1,hz2⟩:=info_parts Qo
 obtain ⟨v',w',hr,h2,h3,h4,h5⟩:=run_append_own_at (P:=Tryz.prog) w base 42 ty 9 i0 (.string ⟨#[]⟩) 1 16 Tryz.underlying42 hi hz0 hz1 hz2 rfl (by decide) v n xs hown ad m c news (by omega) hnews h1 (by unfold maxLen;omega) (by omega) hbase
 refine ⟨v',w',hr,h2,?_⟩
 have hx:=hown.1
 rcases hown.2 with ⟨rfl,h0⟩|⟨g,cap,cur,rfl,hbg,hg,hnc,hcm,hcs,htake⟩
 ·have hbel:Below w.heap.size w w':=(Below.refl _ w).grown h3 (Nat.le_refl _) (fun k hk=>by cases hk)
  refine ⟨ownsRow_below hown hbel,h3, .inr ⟨hbel,?_⟩⟩
  rcases h5 with e|e
  ·rcases h2.2 with ⟨e2,h02⟩|⟨g2,cap2,cur2,e2,hb2,_⟩
   ·omega
   ·rw [e2] at e
    simp [Value.ownBlock] at e
  ·exact ⟨_,e,Nat.le_refl _⟩
 ·by_cases hroom:n+m≤cap
  ·have hrr:=run_append_room (P:=Tryz.prog) w 42 ty 9 i0 Tryz.underlying42 hi g n cap cur hg ad m c news (by rw [hz1];omega) hnews h1 hroom (by rw [hz1];omega)
   rw [hr] at hrr
   injection hrr with e1 e2
   refine ⟨⟨hx, .inr ⟨g,cap,_,rfl,hbg,by rw [e2];exact setRow_heap w g cur _ _ _ hg,hnc,hcm,?_,?_⟩⟩,h3, .inl ⟨g,cap,rfl,e1,hroom⟩⟩
   ·simp only [List.size_toArray,List.length_append,List.length_take,List.length_drop,Array.length_toList,hz1]
    omega
   ·have ht:(cur.toList.take (n*i0.size))=xs:=by rw [hz1];exact htake
    rw [ht]
    simp only [List.append_assoc]
    rw [show n*1=xs.length by omega]
    exact List.take_left
  ·have holds:∀j u,xs[j]?=some u→w.cell? ((⟨g,0,none⟩:Addr).add j)=some u:=hown.cells (g:=g) rfl
   have hrr:=run_append_grow (P:=Tryz.prog) w 42 ty 9 i0 (.string ⟨#[]⟩) Tryz.underlying42 hi hz0 ⟨g,0,none⟩ n cap xs (by rw [hz1];omega) holds ad m c news (by rw [hz1];omega) hnews (by omega) (by omega) (growslice_fits (by omega) (by rw [hz2];omega))
   rw [hr] at hrr
   injection hrr with e1 e2
   have hbel:Below w.heap.size w w':=by
    rw [e2]
    exact ((Below.refl _ w).drew).alloc (Nat.le_refl _) _
   exact ⟨ownsRow_below hown hbel,h3, .inr ⟨hbel,w.heap.size,by rw [e1];rfl,Nat.le_refl _⟩⟩
theorem Qb {N:Nat→Prop} {W W':World} {base:Nat} {e:TypeId} {size:Nat} {v:Value} {n:Nat} {xs:List Value} (h:W.ownsRow base e size v n xs) (k:zF N W W') (hn:∀g,v.ownBlock=some g→¬N g):W'.ownsRow base e size v n xs:=by
 obtain ⟨h1,h2⟩:=h
 refine ⟨h1,?_⟩
 rcases h2 with h2|⟨g,cap,cur,hv,hg,hh,h3⟩
 ·exact .inl h2
 ·exact .inr ⟨g,cap,cur,hv,hg,(k.block g (lt_of_block hh) (hn g (by rw [hv];rfl))).trans hh,h3⟩
def Sh (N:Nat→Prop) (W:World) (v:Value) (n:Nat):Prop:=
 ∃a c,v = .slice a n c∧(0<n→∃g cur,a=some ⟨g,0,none⟩∧N g∧W.heap[g]?=some (.cells cur 9 (0,0))∧n≤cur.size)
theorem Sh.of {W:World} {base:Nat} {v:Value} {n:Nat} {xs:List Value} (h:W.ownsRow base 9 1 v n xs) {N:Nat→Prop} (hN:∀g,v.ownBlock=some g→N g):Sh N W v n:=by
 rcases h.2 with ⟨rfl,h0⟩|⟨g,cap,cur,rfl,_,hg,hnc,_,hcs,_⟩
 ·exact ⟨none,0,by rw [h0],fun e=>by omega⟩
 ·exact ⟨_,_,rfl,fun _=>⟨g,cur,rfl,hN g rfl,hg,by omega⟩⟩
theorem Sh.below {N:Nat→Prop} {W W':World} {v:Value} {n:Nat} (h:Sh N W v n) (hb:Below W.heap.size W W'):Sh N W' v n:=by
 obtain ⟨a,c,e,h⟩:=h
 refine ⟨a,c,e,fun h0=>?_⟩
 obtain ⟨g,cur,ea,hn,hg,hl⟩:=h h0
 exact ⟨g,cur,ea,hn,(hb.block g (lt_of_block hg)).trans hg,hl⟩
theorem Sh.grown {N:Nat→Prop} {W W':World} {v:Value} {n:Nat} (h:Sh N W v n) {r:Option Nat} (hb:W.grownBy W' r) (hne:∀g,v.ownBlock=some g→some g≠r):Sh N W' v n:=by
 obtain ⟨a,c,e,h⟩:=h
 refine ⟨a,c,e,fun h0=>?_⟩
 obtain ⟨g,cur,ea,hn,hg,hl⟩:=h h0
 exact ⟨g,cur,ea,hn,(hb.block g (lt_of_block hg) (hne g (by rw [e,ea];rfl))).trans hg,hl⟩
theorem Sh.set {N:Nat→Prop} {W:World} {v:Value} {n:Nat} (h:Sh N W v n) (g0 j:Nat) (u:Value):Sh N (W.setCell ⟨g0,j,none⟩ u) v n:=by
 obtain ⟨a,c,e,h⟩:=h
 refine ⟨a,c,e,fun h0=>?_⟩
 obtain ⟨g,cur,ea,hn,hg,hl⟩:=h h0
 by_cases eg:g=g0
 ·subst eg
  exact ⟨g,_,ea,hn,heap_setCell_same W g j _ _ u hg,by simp;exact hl⟩
 ·exact ⟨g,cur,ea,hn,(Below.heap_setCell _ _ _ _ eg).trans hg,hl⟩
structure Wrote (N:Nat→Prop) (W4 wr:World) (vs:Nat→Value) (ns:Nat→Nat) (z:ByteArray) (K J:Nat):Prop where
 turn:zF N W4 wr
 sh:∀k,k<4→Sh N wr (vs k) (ns k)
 done:∀k j,k<4→j<ns k→(k<K∨(k=K∧j<J))→∃g,(vs k).ownBlock=some g∧wr.cell? ⟨g,j,none⟩=some (.string z)
theorem Wrote.start {N:Nat→Prop} {W:World} {vs:Nat→Value} {ns:Nat→Nat} {z:ByteArray} (h:∀k,k<4→Sh N W (vs k) (ns k)):Wrote N W W vs ns z 0 0:=
 ⟨zF.refl _ _,h,fun k j _ _ e=>by omega⟩
theorem Wrote.row {N:Nat→Prop} {W4 wr:World} {vs:Nat→Value} {ns:Nat→Nat} {z:ByteArray} {K J:Nat} (h:Wrote N W4 wr vs ns z K J) (hJ:ns K≤J):Wrote N W4 wr vs ns z (K+1) 0:=
 ⟨h.turn,h.sh,fun k j hk hj e=>h.done k j hk hj (by
  rcases e with e|⟨_,e⟩
  ·by_cases ek:k=K
   ·subst ek;exact .inr ⟨rfl,by omega⟩
   ·exact .inl (by omega)
  ·omega)⟩
theorem Ud (W:World) (g j g' j':Nat) (z:ByteArray) (cur:Array Value) (t:TypeId) (hg:W.heap[g]?=some (.cells cur t (0,0))) (hj:j<cur.size) (hc:W.cell? ⟨g',j',none⟩=some (.string z)∨(g'=g∧j'=j)):(W.setCell ⟨g,j,none⟩ (.string z)).cell? ⟨g',j',none⟩=some (.string z):=by
 by_cases eg:g'=g
 ·subst eg
  have h1:=(cells_of_block (heap_setCell_same W g' j _ _ (.string z) hg) j').1
  rw [h1,Array.getElem?_setIfInBounds]
  by_cases ej:j=j'
  ·rw [if_pos ej,if_pos (by omega)]
  ·rw [if_neg ej]
   rcases hc with hc|⟨_,e⟩
   ·rw [← hc,(cells_of_block hg j').1]
   ·exact absurd e.symm ej
 ·rcases hc with hc|⟨e,_⟩
  ·have hb:=Below.heap_setCell W ⟨g,j,none⟩ (.string z) g' (by exact eg)
   unfold World.cell? at hc ⊢
   rw [hb]
   exact hc
  ·exact absurd e eg
theorem Wrote.next {N:Nat→Prop} {W4 wr:World} {vs:Nat→Value} {ns:Nat→Nat} {z:ByteArray} {K J:Nat} (h:Wrote N W4 wr vs ns z K J) (hK:K<4) (hJ:J<ns K) {g:Nat} {cur:Array Value} (hg:wr.heap[g]?=some (.cells cur 9 (0,0))) (hj:J<cur.size) (ho:(vs K).ownBlock=some g) (hN:N g):Wrote N W4 (wr.setCell ⟨g,J,none⟩ (.string z)) vs ns z K (J+1):=by
 refine ⟨h.turn.trans (zF.set wr hN J _),fun k hk=>(h.sh k hk).set g J _,fun k j hk hj2 e=>?_⟩
 by_cases e2:k=K∧j=J
 ·obtain ⟨rfl,rfl⟩:=e2
  exact ⟨g,ho,Ud wr g j g j z cur _ hg hj (.inr ⟨rfl,rfl⟩)⟩
 ·obtain ⟨g',ho',hc⟩:=h.done k j hk hj2 (by omega)
  exact ⟨g',ho',Ud wr g J g' j z cur _ hg hj (.inl hc)⟩
def zbR (M:Nat→Prop) (w0:World) (yb m:Nat) (psv bkv:Value) (e:Ending) (w':World):Prop:=
 ∃bkv' r,e = .returned r∧zF (fun b=>b=yb∨bkv.ownBlock=some b) w0 w'∧w'.heap[yb]?=some (.cells #[psv,bkv'] 89)∧Ug (xx M bkv') w' bkv' (m+1)∧(∀g,bkv'.ownBlock=some g→bkv.ownBlock=some g∨w0.heap.size≤g)
theorem zge:(Tryz.prog.info? 183).map (fun i=>(i.zero,i.size,i.bytes))=some (some (.slice none 0 0),1,24):=by kernel_rfl
theorem Kw {wa w' wE:World} {base:Nat} {v v':Value} {n m:Nat} {xs ys:List Value} (o:w'.ownsRow base 9 1 v' (n+m) ys) (lE:wE.ownsRow base 9 1 v n xs)
  (k:(∃g cap,v = .slice (some ⟨g,0,none⟩) n cap∧v' = .slice (some ⟨g,0,none⟩) (n+m) cap∧n+m≤cap)∨(Below wa.heap.size wa w'∧∃g',v'.ownBlock=some g'∧wa.heap.size≤g')) (hT:w'.grownBy wE v.ownBlock) (hv:∀g,v.ownBlock=some g→g<wa.heap.size) :
  Sh (fun g=>base≤g∧g<wE.heap.size) wE v' (n+m):=by
 rcases k with ⟨g,cap,rfl,rfl,hr⟩|⟨_,g',e',hg'⟩
 ·rcases lE.2 with ⟨e,_⟩|⟨g2,cap2,cur,e,hbg,hg,hnc,hcm,hcs,_⟩
  ·cases e
  ·cases e
   exact ⟨_,_,rfl,fun _=>⟨g,cur,rfl,⟨hbg,lt_of_block hg⟩,hg,by omega⟩⟩
 ·refine (Sh.of o (N:=fun g=>base≤g∧g<wE.heap.size) (fun g hg=>?_)).grown hT (fun g hg e=>?_)
  ·rcases o.2 with ⟨rfl,_⟩|⟨g2,cap2,cur,rfl,hbg,hg2,_⟩
   ·cases hg
   ·have:g2=g:=by simpa [Value.ownBlock] using hg
    subst this
    exact ⟨hbg,Nat.lt_of_lt_of_le (lt_of_block hg2) hT.size⟩
  ·have:=hv g e.symm
   rw [hg] at e'
   injection e' with e'
   omega
theorem zlT {wE:World} {base:Nat} {v:Value} {n:Nat} {xs:List Value} (lE:wE.ownsRow base 9 1 v n xs):Sh (fun g=>base≤g∧g<wE.heap.size) wE v n:=
 Sh.of lE (fun g hg=>by
  rcases lE.2 with ⟨rfl,_⟩|⟨g2,cap2,cur,rfl,hbg,hg2,_⟩
  ·cases hg
  ·have:g2=g:=by simpa [Value.ownBlock] using hg
   subst this
   exact ⟨hbg,lt_of_block hg2⟩)
theorem zmc {w:World} {base:Nat} {t:TypeId} {v:Value} {n:Nat} {xs:List Value} (h:w.ownsRow base t 1 v n xs):∀g,v.ownBlock=some g→g<w.heap.size∧base≤g:=fun g hg=>by
 rcases h.2 with ⟨rfl,_⟩|⟨g2,cap2,cur,rfl,hbg,hg2,_⟩
 ·cases hg
 ·have:g2=g:=by simpa [Value.ownBlock] using hg
  subst this
  exact ⟨lt_of_block hg2,hbg⟩
def four (a b c d:Value) (k:Nat):Value:=if k=0 then a else if k=1 then b else if k=2 then c else d
theorem zlH (M:Nat→Prop) (w0 w:World) (yb m:Nat) (psv bkv l:Value) (nsl:List ByteArray) (hM:∀b,M b→b<w0.heap.size) (hyb:M yb) (hcell:w0.heap[yb]?=some (.cells #[psv,bkv] 89)) (hbk:Ug M w0 bkv m) (hown:∀g,bkv.ownBlock=some g→M g∧g≠yb) (h0:Below w0.heap.size w0 w) (hl:zh w w0.heap.size l nsl) (hn:nsl.length≤1000) (hm:m≤100000000) :
  Calls Tryz.prog 74 #[.pointer (some ⟨yb,1,none⟩),l] w (zbR M w0 yb m psv bkv):=by
 obtain ⟨i1,hj,hy0,hy1,hy2⟩:=info_parts zge
 obtain ⟨ys,hbrow,hys⟩:=hbk
 obtain ⟨ba,bc,rfl⟩:=zq hbrow
 have hcw:=(h0.block yb (hM yb hyb)).trans hcell
 have c1:=(cells_of_block hcw 1).1
 simp at c1
 have cm:=fun W=>zkK m W (by omega)
 obtain ⟨z,hz⟩:∃z,zdz m=z:=⟨_,rfl⟩
 simp only [hz] at cm
 have CM:=hid cm
 have HZ:=hid hz
 obtain ⟨n,hnn⟩:∃n,nsl.length=n:=⟨_,rfl⟩
 have hl':w.ownsRow w0.heap.size 9 1 l n (nsl.map Value.string):=by rw [← hnn];exact hl
 rw [hnn] at hn
 obtain ⟨la,lc,hlv⟩:=zq hl'
 have hz1:=h0.size
 have A1:=X5 (w.alloc (.cells #[.string z] 9)) 42 w0.heap.size l n _ (hl'.alloc _) ⟨w.heap.size,0,none⟩ 1 1 [.string z] rfl (qM _ _ _) (by simp [Value.oneCell']) (by omega) (by omega) (by simp;omega)
 obtain ⟨v1,w1,r1,o1,l1,g1,k1⟩:=A1
 have z1:w.heap.size+1≤w1.heap.size:=by have:=g1.size;simpa using this
 have A2:=X5 (w1.alloc (.cells #[.string z, .string z] 9)) 42 w0.heap.size l n _ (l1.alloc _) ⟨w1.heap.size,0,none⟩ 2 2 [.string z, .string z] rfl (qM _ _ _) (by simp [Value.oneCell']) (by omega) (by omega) (by simp;omega)
 obtain ⟨v2,w2,r2,o2,l2,g2,k2⟩:=A2
 have z2:w1.heap.size+1≤w2.heap.size:=by have:=g2.size;simpa using this
 have A3:=X5 (w2.alloc (.cells #[.string z, .string z, .string z] 9)) 42 w0.heap.size l n _ (l2.alloc _) ⟨w2.heap.size,0,none⟩ 3 3 [.string z, .string z, .string z] rfl (qM _ _ _) (by simp [Value.oneCell']) (by omega) (by omega) (by simp;omega)
 obtain ⟨v3,w3,r3,o3,l3,g3,k3⟩:=A3
 have z3:w2.heap.size+1≤w3.heap.size:=by have:=g3.size;simpa using this
 have hlb:=zmc hl'
 have G23:w1.grownBy w3 l.ownBlock:=((World.grownBy_alloc w1 _ _).trans g2).trans ((World.grownBy_alloc w2 _ _).trans g3)
 have G3:w2.grownBy w3 l.ownBlock:=(World.grownBy_alloc w2 _ _).trans g3
 have S1:=Kw o1 l3 k1 G23 (fun g hg=>by have:=hlb g hg;simp;omega)
 have S2:=Kw o2 l3 k2 G3 (fun g hg=>by have:=hlb g hg;simp;omega)
 have S3:=Kw o3 l3 k3 ⟨rfl,rfl,rfl,Nat.le_refl _,fun _ _ _=>rfl⟩ (fun g hg=>by have:=hlb g hg;simp;omega)
 have S0:=zlT l3
 have hBE:Below w0.heap.size w0 w3:=(((((h0.alloc (by omega) _).grown g1 (by simp;omega) (fun k hk=>(hlb k hk).2)).alloc (by omega) _).grown g2 (by simp;omega) (fun k hk=>(hlb k hk).2)).alloc (by omega) _).grown g3 (by simp;omega) (fun k hk=>(hlb k hk).2)
 obtain ⟨a1,c1',e1⟩:=zq o1
 obtain ⟨a2,c2',e2⟩:=zq o2
 obtain ⟨a3,c3',e3⟩:=zq o3
 obtain ⟨N,hN⟩:∃N,N=fun g=>w0.heap.size≤g∧g<w3.heap.size:=⟨_,rfl⟩
 rw [← hN] at S0 S1 S2 S3
 obtain ⟨W4,hW4⟩:∃W,w3.alloc (.cells #[l,v1,v2,v3] 42)=W:=⟨_,rfl⟩
 have b34:Below w3.heap.size w3 W4:=by rw [← hW4];exact (Below.refl _ w3).alloc (Nat.le_refl _) _
 have hgi:W4.heap[w3.heap.size]?=some (.cells #[l,v1,v2,v3] 42):=by rw [← hW4];exact heap_alloc_new w3 _
 have hst:∀k,k<4→Sh N W4 (four l v1 v2 v3 k) (n+k):=fun k hk=>by
  rcases (show k=0∨k=1∨k=2∨k=3 by omega) with rfl|rfl|rfl|rfl
  ·exact S0.below b34
  ·exact S1.below b34
  ·exact S2.below b34
  ·exact S3.below b34
 have hfc:∀k,k<4→(#[l,v1,v2,v3]:Array Value)[k]?=some (four l v1 v2 v3 k):=fun k hk=>by
  rcases (show k=0∨k=1∨k=2∨k=3 by omega) with rfl|rfl|rfl|rfl<;>rfl
 have hB4:Below w0.heap.size w0 W4:=hBE.trans (b34.mono (hBE.size))
 have hNgi:¬N w3.heap.size:=by rw [hN];exact fun h=>by omega
 have hcl:∀wr K J,Wrote N W4 wr (four l v1 v2 v3) (fun k=>n+k) z K J→∀k,k<4→wr.cell? ⟨w3.heap.size,k,none⟩=some (four l v1 v2 v3 k):=fun wr K J h k hk=>by
  rw [(cells_of_block ((h.turn.block _ (lt_of_block hgi) hNgi).trans hgi) k).1]
  exact hfc k hk
 have HST:=hid (Wrote.start (z:=z) (ns:=fun k=>n+k) hst)
 obtain ⟨vs,hvs⟩:∃vs,four l v1 v2 v3=vs:=⟨_,rfl⟩
 rw [hvs] at HST hcl hst
 have HCL:=hid hcl
 have HN:=hid hN
 have HB4:=hid hB4
 have HW4:=hid hW4
 have HB:=hid (And.intro hbrow hys)
 have HW:=hid hown
 have HH:=hid (And.intro hM (And.intro hyb hcell))
 have HGI:=hid hgi
 have R1:=hid r1
 have R2:=hid r2
 have R3:=hid r3
 have mk1:Hid (0=0):=hid rfl
 have mk2:Hid (0=0):=hid rfl
 have mk3:Hid (0=0):=hid rfl
 have z34:w3.heap.size<W4.heap.size:=lt_of_block hgi
 clear cm hz r1 r2 r3 o1 o2 o3 l1 l2 l3 g1 g2 g3 k1 k2 k3 hbrow hys hown hl' hl hM hyb hcell hgi hW4 hB4 hN hcl hst hfc hvs hNgi b34 hBE S0 S1 S2 S3 G23 G3 hlb hcw
 subst hlv
 subst e1
 subst e2
 subst e3
 go_enter Tryz.func74,Tryz.ntmps74
 go_upto_region 1 with (go_at_call 76;refine (CM.out _).mono ?_;rintro e wm ⟨rfl,em⟩;rw [em];clear em)
 go_wp2_with (first
  | (at_builtin;clear mk1;refine Lib.wpList_append_run _ rfl _ _ _ _ rfl _ _ rfl rfl _ _ R1.out ?_)
  | (at_builtin;clear mk2;refine Lib.wpList_append_run _ rfl _ _ _ _ rfl _ _ rfl rfl _ _ R2.out ?_)
  | (at_builtin;clear mk3;refine Lib.wpList_append_run _ rfl _ _ _ _ rfl _ _ rfl rfl _ _ R3.out ?_))
 rw [HW4.out]
 clear HW4 R1 R2 R3
 go_loopw [6,7] (fun kv _ wr=>∃k:Nat,k≤4∧kv = .int .i64 k∧Wrote N W4 wr vs (fun k=>n+k) z k 0) (fun kv _ _=>4-(intOf kv).toNat)
 case atStart=>exact ⟨0,Nat.zero_le _,rfl,HST.out⟩
 case round=>
  obtain ⟨k,hk,rfl,HWR⟩:=hrel
  have HWR:=hid HWR
  obtain ⟨wo,rfl⟩:∃x,x=wr:=⟨_,rfl⟩
  by_cases hlk:k<4
  ·have k0:(0:Int)≤(k:Int):=Int.natCast_nonneg _
   have k1:(k:Int)<4:=by omega
   have hnk:n+k≤2000:=by omega
   have HK:=hid hlk
   go_wp2_with fail
   go_loopw [7] (fun jv wr=>∃j:Nat,j≤n+k∧jv = .int .i64 j∧Wrote N W4 wr vs (fun k=>n+k) z k j) (fun jv _=>n+k-(intOf jv).toNat)
   case atStart=>exact ⟨0,Nat.zero_le _,rfl,HWR.out⟩
   case round=>
    obtain ⟨j,hj,rfl,HWJ⟩:=hrel
    obtain ⟨a,c,hv,hsh⟩:=HWJ.sh k HK.out
    have q1:=HCL.out wr k j HWJ k HK.out
    rw [hv] at q1
    have HV:=hid hv
    have HWJ:=hid HWJ
    obtain ⟨nk,hnk2⟩:∃x,n+k=x:=⟨_,rfl⟩
    have HNK:=hid hnk2
    simp only [hnk2] at q1 hsh hj hnk
    clear hv hnk2
    by_cases hlj:j<nk
    ·obtain ⟨g,cur,rfl,hNg,hg,hcs⟩:=hsh (by omega)
     have hjc:j<cur.size:=by omega
     have q2:=(cells_of_block hg j).1
     have f2:=(cells_of_block hg j).2
     rw [Array.getElem?_eq_getElem hjc] at q2
     obtain ⟨u,hu⟩:∃u,cur[j]=u:=⟨_,rfl⟩
     rw [hu] at q2
     have HG:=hid hg
     have j0:(0:Int)≤(j:Int):=Int.natCast_nonneg _
     have j1:(j:Int)<(nk:Int):=by omega
     clear hg hsh hu
     go_wp2_with fail
     go_roundw
     case rel=>exact ⟨j+1,by have:=HNK.out;omega,by go_num,HWJ.out.next HK.out (by rw [HNK.out];exact hlj) HG.out hjc (by rw [HV.out];rfl) hNg⟩
     case measure=>have:=HNK.out;simp [intOf];omega
    ·clear hsh
     go_wp2_with fail
     go_roundw
     case rel=>exact ⟨k+1,by have:=HK.out;omega,by go_num,HWJ.out.row (by rw [HNK.out];omega)⟩
     case measure=>have:=HK.out;simp [intOf];omega
  ·have hk4:k=4:=by omega
   subst hk4
   obtain ⟨hM,hyb,hcell⟩:=HH.out
   have hybl:=hM yb hyb
   have hBW:Below w0.heap.size w0 wo:=HB4.out.trans (HWR.out.turn.below (fun k hk=>by rw [HN.out];exact fun h=>by omega) (HB4.out.size))
   have hcw:=(hBW.block yb hybl).trans hcell
   have c2:=(cells_of_block hcw 1).1
   have f2:=(cells_of_block hcw 1).2
   simp at c2
   have BR:=hid (ownsRow_below HB.out.1 hBW)
   have HBW:=hid hBW
   have HCW:=hid hcw
   have hbs:=hBW.size
   have hws:w3.heap.size<wo.heap.size:=Nat.lt_of_lt_of_le z34 HWR.out.turn.size
   clear hBW hcw hM hyb hcell
   go_wp2_with (at_builtin;refine wpList_append_own_at _ rfl _ _ 85 rfl 0 183 i1 (.slice none 0 0) 1 24 Tryz.underlying85 hj hy0 hy1 hy2 rfl (by decide) (.slice ba m bc) m ys rfl (World.ownsRow.alloc BR.out _) ⟨wo.heap.size,0,none⟩ 1 1 [.slice (some ⟨w3.heap.size,0,none⟩) 4 4] rfl rfl (qM _ _ _) (by simp [Value.oneCell']) (by unfold maxLen;omega) (by omega) (Nat.zero_le _) ?_;intro v5 w5 own5 grow5 _ at5;obtain ⟨a5,c5,e5⟩:=zq own5;subst e5;have hc5:=(grow5.block yb (by simp;omega) (fun e=>(HW.out yb e.symm).2 rfl)).trans ((((Below.refl _ wo).alloc (Nat.le_refl _) _).block yb (by omega)).trans HCW.out);have q5:=(cells_of_block hc5 1).1;have f5:=(cells_of_block hc5 1).2;simp at q5;have OWN5:=hid own5;have GROW5:=hid grow5;have AT5:=hid at5;have HC5:=hid hc5;clear own5 grow5 at5 hc5)
   go_end0
   obtain ⟨hM,hyb,hcell⟩:=HH.out
   obtain ⟨hbrow,hys⟩:=HB.out
   have hcl:=HCL.out wo 4 0 HWR.out
   have hNE:=HN.out
   have hZZ:=HZ.out
   obtain ⟨W,hW⟩:∃W,w5.setCell ⟨yb,1,none⟩ (.slice a5 (m+1) c5)=W:=⟨_,rfl⟩
   rw [hW]
   have tS:zF (fun b=>b=yb∨(Value.slice ba m bc).ownBlock=some b) wo W:=by
    rw [← hW]
    exact ((zF.of ((Below.refl _ wo).alloc (Nat.le_refl _) _)).trans ⟨GROW5.out.os,GROW5.out.tape,GROW5.out.output,GROW5.out.size,fun k hk hne=>GROW5.out.block k hk (fun e=>hne (.inr e.symm))⟩).trans (zF.set w5 (.inl rfl) 1 _)
   have tA:zF (fun b=>b=yb∨(Value.slice ba m bc).ownBlock=some b) w0 W:=(zF.of HBW.out).trans tS
   have h5:∀g,(Value.slice a5 (m+1) c5).ownBlock=some g→(Value.slice ba m bc).ownBlock=some g∨wo.heap.size≤g:=fun g hg=>by
    rcases AT5.out with e|e
    ·exact .inl (by rw [← e];exact hg)
    ·rw [hg] at e
     injection e with e
     exact .inr (by rw [e];simp)
   have hnew:∀b,xx M (.slice a5 (m+1) c5) b→M b∨wo.heap.size≤b:=fun b hb=>hb.elim .inl (fun e=>(h5 b e).imp (fun e=>(HW.out b e).1) id)
   have hfar:∀g,w0.heap.size≤g→g<wo.heap.size→¬xx M (.slice a5 (m+1) c5) g∧¬(g=yb∨(Value.slice ba m bc).ownBlock=some g):=fun g h1 h2=>
    ⟨fun h=>by
     rcases hnew g h with h|h
     ·have:=hM g h;omega
     ·omega,fun h=>by
     rcases h with h|h
     ·omega
     ·have:=hM g (HW.out g h).1;omega⟩
   have hlen:ys.length=m:=by have:=hbrow.1;omega
   refine ⟨_,_,rfl,tA,?_,⟨ys++[.slice (some ⟨w3.heap.size,0,none⟩) 4 4],?_,?_⟩,fun g hg=>(h5 g hg).imp id (fun e=>by omega)⟩
   ·rw [← hW]
    exact heap_setCell_same w5 yb 1 _ _ _ HC5.out
   ·rw [← hW]
    exact ownsRow_setCell_other OWN5.out (a:=⟨yb,1,none⟩) (fun e=>by
     rcases h5 yb e with e|e
     ·exact (HW.out yb e).2 rfl
     ·omega) _
   ·intro i v hv
    by_cases hi:i<m
    ·rw [List.getElem?_append_left (by omega)] at hv
     exact ((hys i v hv).more (fun b hb=>(hnew b hb).imp id (fun e=>by omega))).turn (tA.wide (fun k _ e => .inl (by
      rcases e with e|e
      ·rw [e];exact hyb
      ·exact (HW.out k e).1)))
    ·have him:i=m:=by
      have:=(List.getElem?_eq_some_iff.1 hv).1
      simp at this
      omega
     subst him
     rw [List.getElem?_append_right (by omega),hlen] at hv
     simp at hv
     subst hv
     have hg0:=hfar w3.heap.size (by omega) hws
     refine ⟨_,_,vs,rfl,hg0.1,fun k hk=>⟨tS.cell hg0.2 (hcl k hk),?_⟩⟩
     obtain ⟨a,c,hv,hsh⟩:=HWR.out.sh k hk
     refine ⟨a,n+k,c,hv,by omega,fun j hj=>?_⟩
     obtain ⟨g,cur,ea,hNg,hg,_⟩:=hsh (by omega)
     obtain ⟨g',eg,hcz⟩:=HWR.out.done k j hk hj (.inl hk)
     have e2:g'=g:=by
      rw [hv,ea] at eg
      simpa [Value.ownBlock] using eg.symm
     subst e2
     rw [hNE] at hNg
     have hf:=hfar g' hNg.1 (by omega)
     exact ⟨g',ea,hf.1,by rw [hZZ];exact tS.cell hf.2 hcz⟩
end Go.Proofs.YtdakgnaojakldaaGreatDoor
