/- P -/
import Derived.Test.YtdakgnaojakldaaGreatDoorP41
set_option maxRecDepth 100000
namespace Go.Proofs.YtdakgnaojakldaaGreatDoor
open Go.RowKit
theorem zah (i:Nat) (w0:World) (base b gg cap:Nat) (ns:List Ref.Node) (n:Ref.Node) (fb:Nat) (sh pt:Bool) (w:World) (hE:jR w0 base b gg cap ns w) (hi:ns[i]?=some n) (hfb:w0.heap.size≤fb) (hf:qW w fb sh pt) :
  Calls Tryz.prog 166 #[.pointer (some ⟨b,0,none⟩), .int .i64 (i:Int), .pointer (some ⟨fb,0,none⟩)] w (XI w fb sh pt (Ref.Yy ns n)):=by
 by_cases h:Ref.zX n Ref.bOp<0∨Ref.zX n Ref.x9<0∨Ref.kindOf ns (Ref.zX n Ref.bOp)≠3∨Ref.kindOf ns (Ref.zX n Ref.x9)≠3
 ·have e:Ref.Yy ns n=Ref.xQ:=by unfold Ref.Yy;rw [if_pos h]
  rw [e]
  exact UI i w0 base b gg cap ns n fb sh pt w hE hi hfb hf h
 ·exact zbX i w0 base b gg cap ns n fb sh pt w hE hi hfb hf h
theorem zgH (text:ByteArray):((xP text).1=0→Rd.zmj (xP text).2.2.nodes (xP text).2.2.root.toNat=Rd.qU text)∧((xP text).1≠0→((xP text).1,(xP text).2.1)=Rd.qU text):=by
 obtain ⟨R,hR⟩:∃R,xP text=R:=⟨_,rfl⟩
 rw [hR]
 unfold xP at hR
 unfold Rd.qU
 by_cases h1:4000<text.size
 ·rw [if_pos h1] at hR ⊢
  subst hR
  exact ⟨fun e=>by simp at e,fun _=>rfl⟩
 rw [if_neg h1] at hR ⊢
 have ha:=Rd.VC text.data.toList
 have hlen:text.data.toList.length=text.size:=Ref.zg text
 obtain ⟨Q,hQ⟩:∃Q,Ref.run Ref.init text.data.toList 0=Q:=⟨_,rfl⟩
 rw [hQ] at hR
 cases hm:Rd.vK text.data.toList with
 | ok v p=>
  rw [hm] at ha
  simp only at ha
  obtain ⟨m,hv,hs,ho,hr,hrep⟩:=ha
  unfold Rd.verdict at hv
  rw [List.drop_zero,hQ] at hv
  by_cases c1:Q.1≠0
  ·rw [if_pos c1] at hv;rw [hv] at c1;exact absurd rfl c1
  rw [if_neg c1] at hv hR
  by_cases c2:Q.2.2.state≠6∨Q.2.2.opn≠[]
  ·rw [if_pos c2] at hv;simp at hv
  rw [if_neg c2] at hv hR
  subst hR
  refine ⟨fun _=>?_,fun e=>absurd rfl e⟩
  simp only [hv,hr]
  exact Rd.zkP hrep
 | err e q=>
  rw [hm] at ha
  simp only at ha
  obtain ⟨h2,h3⟩:=ha
  have hc:=Rd.Xq hm
  have he:e≠0:=by unfold Rd.Code at hc;omega
  unfold Rd.verdict at h2 h3
  rw [List.drop_zero,hQ] at h2 h3
  simp only
  by_cases c1:Q.1≠0
  ·rw [if_pos c1] at h2 h3 hR
   subst hR
   exact ⟨fun e0=>absurd e0 c1,fun _=>by rw [h2,h3]⟩
  rw [if_neg c1] at h2 h3 hR
  by_cases c2:Q.2.2.state≠6∨Q.2.2.opn≠[]
  ·rw [if_pos c2] at h2 h3 hR
   subst hR
   refine ⟨fun e0=>by simp at e0,fun _=>?_⟩
   simp only at h2 h3 ⊢
   rw [← h2,← h3,hlen]
  ·rw [if_neg c2] at h2
   exact absurd h2.symm (fun h0=>c1 (by omega))
end Go.Proofs.YtdakgnaojakldaaGreatDoor
