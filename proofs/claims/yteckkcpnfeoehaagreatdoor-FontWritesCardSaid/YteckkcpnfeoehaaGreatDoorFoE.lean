/-
  Layer 9: FontBack walked.
-/
import Derived.Test.YteckkcpnfeoehaaGreatDoorMpQ
import Derived.Test.YteckkcpnfeoehaaGreatDoorMpS
import Derived.Test.YteckkcpnfeoehaaGreatDoorMpR
namespace Go.Proofs.YteckkcpnfeoehaaGreatDoor
set_option maxRecDepth 100000
open Go.RowKit Go.ChangeShapes Go.WideShapes Go.Deep
set_option linter.unusedVariables false
set_option linter.unusedSimpArgs false

theorem fb_none (x : Fh) (F : Fn9) (C : Array Value) (hC : CV x F C) (w : World) (hT : Tabs w) (hR : FnR w w.heap.size x F) (hG : NoGr F) (hW : FnW F) (hgc : F.GG.length ≤ x.cg) (hr : ¬ right9 F) :
    Calls Tryz.prog 8 #[.agg C] w fun e w' => ∃ A c, e = .returned (.tuple #[.slice A 0 c, .int .i64 4]) ∧ Since w w' := by
  refine (fn_write x F _ hC w hT hR hG hW hgc).mono ?_
  rintro e w' ⟨v, rfl, hO, hS⟩
  unfold file9 at hO
  rw [if_neg (by rw [right9_no hr]; simp)] at hO
  obtain ⟨A, c, rfl, _, _⟩ := OwnG.rd (by omega) byL_len hO
  exact ⟨A, c, by rw [if_neg (by rw [right9_no hr]; simp)]; rfl, hS⟩
theorem in_great {w : World} {x : Fh} {F : Fn9} {C : Array Value} (hI : InF w x F) (hC : C = fnV x F) (w2 : World) (h2 : Since w w2) : Calls Tryz.prog 6 #[.agg C] w2 (GreatP9 F w2) :=
  rf_great9 x F C hC w2 (hI.rd.on h2) hI.tl hI.td hI.ml hI.gl hI.gd
theorem nogr_copy {F : Fn9} (h : NoGr F) : F.TT.length ≤ 100000 ∧ (∀ T, T ∈ F.TT → T.data.length ≤ 1000000) ∧ F.MM.length ≤ 100000 ∧ F.GG.length ≤ 100000 ∧ ∀ L, L ∈ F.GG → L.length ≤ 1000000 :=
  ⟨by have := h.tabs; omega, fun T hT => by have := (h.dats T hT).1; omega, by have := h.mets; omega, by have := h.glys; omega, fun L hL => by have := h.gly L hL; omega⟩
theorem FnO.at {w : World} {base : Nat} {y : Fh} {F : Fn9} (h : FnO w base y F) : ∃ g, base ≤ g ∧ (0 < F.TT.length → y.At = some ⟨g, 0, none⟩) := by
  rcases Nat.eq_zero_or_pos F.TT.length with h0 | h0
  · exact ⟨base, Nat.le_refl _, fun h => by omega⟩
  · obtain ⟨q, c, e⟩ := OwnT.some h.t h0
    injection e with e1 _ _
    have ht := h.t
    rw [e1] at ht
    obtain ⟨hs, hl, ho, _⟩ := ht
    exact ⟨q, (heap_of ho).2, fun _ => e1⟩
theorem FnR.nigh {w w' : World} {B q : Nat} {x : Fh} {F : Fn9} (h : FnR w B x F) (k : Nigh q w w') (hB : B ≤ w.heap.size) (hq : B ≤ q) : FnR w' w'.heap.size x F := by
  have hk : ∀ b o, b < B → w'.cell? ⟨b, o, none⟩ = w.cell? ⟨b, o, none⟩ := fun b o hb => by
    have := k.1.2 b (by omega) (by omega)
    simp only [World.cell?, this]
  have hs : B ≤ w'.heap.size := Nat.le_trans hB k.1.1
  exact ⟨(h.tabs.keep hk).more hs, (h.mets.keep hk).more hs, (h.glys.keep hk).more hs⟩
theorem same9_cv (x y : Fh) (F : Fn9) (C D : Array Value) (hC : CV x F C) (hD : CV y F D) (w : World) (hR : FnR w w.heap.size x F) (hQ : FnR w w.heap.size y F) (ht : F.TT.length ≤ maxLen) (hm : F.MM.length ≤ maxLen) (hg : F.GG.length ≤ maxLen) :
    Calls Tryz.prog 14 #[.agg C, .agg D] w fun e w' => e = .returned (.bool true) ∧ Since w w' := rf_same9 x y F C D hC hD w hR hQ ht hm hg
attribute [-go_sem] loadVar
end Go.Proofs.YteckkcpnfeoehaaGreatDoor
