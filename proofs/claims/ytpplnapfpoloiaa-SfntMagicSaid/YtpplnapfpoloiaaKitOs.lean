/-
  Layer 4: rows of bytes that a call has made, by their shape.
-/
import Derived.Test.YtpplnapfpoloiaaMgS
namespace Go.Proofs.Ytpplnapfpoloiaa
open Go.RowKit Go.ChangeShapes Go.WideShapes Go.Deep
set_option linter.unusedVariables false

theorem ownB_rdv {w : World} {base n c : Nat} {A : Option Addr} {L : List Int} (h : OwnB w base (.slice A n c) L) : RdB w w.heap.size A L ∧ n = L.length ∧ n ≤ c := by
  obtain ⟨A', c', e, hc, hr⟩ := h.rd (by omega) byL_len
  injection e with e1 e2 e3
  subst e1 e2 e3
  exact ⟨hr, rfl, hc⟩
theorem own_some {w : World} {base : Nat} {v : Value} {L : List Int} (h : OwnB w base v L) (h0 : 0 < L.length) : ∃ q c, v = .slice (some ⟨q, 0, none⟩) L.length c ∧ base ≤ q ∧ q < w.heap.size ∧ L.length ≤ c := by
  obtain ⟨A, c, rfl, hc, hr⟩ := h.rd (by omega) byL_len
  obtain ⟨b, o, rfl, _, _⟩ := rdb_rd hr h0
  obtain rfl := own_off h
  exact ⟨b, c, rfl, (h.lt (g := b) rfl).1, (h.lt (g := b) rfl).2, hc⟩
theorem ownT_none {w : World} {base : Nat} {v : Value} (h : OwnT w base v []) : ∃ A c, v = .slice A 0 c := by
  obtain ⟨A, c, rfl, _⟩ := h.rd
  exact ⟨A, c, rfl⟩
end Go.Proofs.Ytpplnapfpoloiaa
