/-
  Layer 12: the program's visits at any depth; Of.
-/
import Derived.Test.YtcjjcjpkmjbfkaaExI
namespace Go.Proofs.Ytcjjcjpkmjbfkaa
open Go.RowKit Go.ChangeShapes Go.WideShapes Go.Deep
set_option linter.unusedVariables false
set_option linter.unusedSimpArgs false

theorem visp_no {q : Nat} {A : Option Addr} {N c : Nat} {R : St12} {w w' : World} {V x : Int} (hx : x ≠ 0) (hR : R.e = x) (hB : BoxX w' q (RdrF A N c V (errF 0 x))) (hN : Nigh q w w') : VisP q A N c R w (.returned (.slice none 0 0)) w' :=
  ⟨_, V, rfl, by rw [hR]; exact hB, hN, fun h => absurd (hR.symm.trans h) hx⟩
theorem ex_visit (q : Nat) (A : Option Addr) (N c : Nat) (G : List (List Int)) (hbG : ∀ b, b ∈ G → Bytes b) (hlG : ∀ b, b ∈ G → b.length ≤ 140737488355328) (hN : N = G.length) (hN63 : N ≤ 9223372036854775807) :
    ∀ (f : Nat) (d : Int), f ≤ 17 → d = 17 - (f : Int) → ∀ (id : Int) (v : Nat) (w : World), v ≤ 4096 → BoxX w q (RdrF A N c (v : Int) 0) → RdBL w q A G → Calls Try.prog 21 #[.pointer (some ⟨q, 0, none⟩), .int .i64 id, .int .i64 d] w (VisP q A N c (vis12 G f id v) w) := by
  intro f
  have hwr : ∀ v : Nat, v ≤ 4096 → IntKind.i64.wrap ((v : Int) + 1) = ((v + 1 : Nat) : Int) := fun v hv => by rw [IntKind.wrap_i64]; omega
  have hef : ∀ x : Int, errF 0 x = x := fun x => by unfold errF; rw [if_pos rfl]
  induction f with
  | zero =>
    intro d hf hd id v w hv hB hG
    have h1 : first12 N id d ((v + 1 : Nat) : Int) = 10 := by unfold first12; rw [if_pos (by omega)]
    have h2 := ex_visit_no q A N c (v : Int) ((v + 1 : Nat) : Int) 0 id d w hB (hwr v hv) hN63 (by rw [hef, h1]; omega)
    rw [h1] at h2
    refine h2.mono ?_
    rintro e w' ⟨rfl, a2, a3⟩
    exact visp_no (x := 10) (by omega) rfl a2 a3
  | succ f ih =>
    intro d hf hd id v w hv hB hG
    by_cases hid : id < 0 ∨ (N : Int) ≤ id
    · have h1 : first12 N id d ((v + 1 : Nat) : Int) = 8 := by unfold first12; rw [if_neg (by omega), if_pos hid]
      have h2 := ex_visit_no q A N c (v : Int) ((v + 1 : Nat) : Int) 0 id d w hB (hwr v hv) hN63 (by rw [hef, h1]; omega)
      rw [h1] at h2
      refine h2.mono ?_
      rintro e w' ⟨rfl, a2, a3⟩
      exact visp_no (x := 8) (by omega) (by unfold vis12; rw [if_pos (by rw [← hN]; exact hid)]) a2 a3
    · by_cases hvm : 4096 < v + 1
      · have h1 : first12 N id d ((v + 1 : Nat) : Int) = 7 := by unfold first12; rw [if_neg (by omega), if_neg hid, if_pos (by omega)]
        have h2 := ex_visit_no q A N c (v : Int) ((v + 1 : Nat) : Int) 0 id d w hB (hwr v hv) hN63 (by rw [hef, h1]; omega)
        rw [h1] at h2
        refine h2.mono ?_
        rintro e w' ⟨rfl, a2, a3⟩
        exact visp_no (x := 7) (by omega) (by unfold vis12; rw [if_neg (by rw [← hN]; exact hid), if_pos hvm]) a2 a3
      · have h3 := ex_visit_in q A N c G f d (by omega) (by omega) hbG hlG hN hN63 (fun id v w2 a b c' => ih (d + 1) (by omega) (by omega) id v w2 a b c') id v w hB hG (by omega) (by omega) (by omega)
        have e : vis12 G (f + 1) id v = fin12 (body12 (vis12 G f) (G.getD id.toNat []) (v + 1)) := by rw [vis12, if_neg (by rw [← hN]; exact hid), if_neg hvm]
        rw [e]
        exact h3
/-- A glyph's outline, or why there is none. -/
def OfP (G : List (List Int)) (id : Int) (w : World) (e : Ending) (w' : World) : Prop :=
  ∃ u, e = .returned (.tuple #[u, .int .i64 (vis12 G 17 id 0).e]) ∧ OwnO w' w.heap.size u (if (vis12 G 17 id 0).e = 0 then (vis12 G 17 id 0).LL else []) ∧ Since w w'
set_option maxRecDepth 100000 in
set_option maxHeartbeats 8000000 in
theorem ex_of (A : Option Addr) (N c : Nat) (G : List (List Int)) (id : Int) (w : World) (hG : RdBL w w.heap.size A G) (hbG : ∀ b, b ∈ G → Bytes b) (hlG : ∀ b, b ∈ G → b.length ≤ 140737488355328) (hN : N = G.length) (hN63 : N ≤ 9223372036854775807) :
    Calls Try.prog 10 #[.slice A N c, .int .i64 id] w (OfP G id w) := by
  have HV := Lib.hid (fun (ty : TypeId) => ex_visit w.heap.size A N c G hbG hlG hN hN63 17 0 (Nat.le_refl _) (by omega) id 0 (w.alloc (.cells #[.slice A N c, .int .i64 0, .int .i64 0] ty)) (by omega) (boxx_new w _ rfl _ A N c) (hG.keep (fun b o h => ((Since.refl w).alloc _).1 b o h)))
  unfold VisP at HV
  unfold OfP
  obtain ⟨R, hR⟩ : ∃ R, R = vis12 G 17 id 0 := ⟨_, rfl⟩
  rw [← hR] at HV ⊢
  clear hG hbG hlG hN hR
  by_cases h0 : R.e = 0
  · rw [if_pos h0]
    have H0 := Lib.hid h0
    rw [h0] at HV
    have HVJ := Lib.hid (fun (ty : TypeId) => (HV.out ty).mono (show ∀ e w', _ → ∃ u, e = .returned u ∧ BoxX w' w.heap.size (RdrF A N c (R.v : Int) 0) ∧ Since w w' ∧ OwnO w' w.heap.size u R.LL from fun e w' ⟨u, V, a1, a2, a3, a4⟩ => by
      obtain ⟨a5, a6⟩ := a4 rfl
      rw [a5] at a2
      exact ⟨u, a1, a2, a3.2 w ((Since.refl w).alloc _) (Nat.le_refl _), a6.lowO (by simp)⟩))
    rw [h0]
    clear HV h0
    go_enter Try.func10, Try.ntmps10
    go_wp2_with (go_at_call 21; (with_reducible refine (HVJ.out _).mono ?_); rintro e w3 ⟨u, rfl, hB3, hS3, hO3⟩; obtain ⟨k0, k1, k2, k3, k4, k5⟩ := rdr_cells hB3.row)
    refine bodyPost_ret (by simp only [results, Try.results10]; go_simp) rfl ⟨_, rfl, hO3, hS3⟩
  · rw [if_neg h0]
    have dE : (R.e == 0) = false := by simpa using h0
    have HVJ := Lib.hid (fun (ty : TypeId) => (HV.out ty).mono (show ∀ e w', _ → ∃ u V, e = .returned u ∧ BoxX w' w.heap.size (RdrF A N c V R.e) ∧ Since w w' from fun e w' ⟨u, V, a1, a2, a3, a4⟩ => ⟨u, V, a1, a2, a3.2 w ((Since.refl w).alloc _) (Nat.le_refl _)⟩))
    generalize R.e = EE at *
    clear HV
    go_enter Try.func10, Try.ntmps10
    go_upto_region 4 with (go_at_call 21; (with_reducible refine (HVJ.out _).mono ?_); rintro e w3 ⟨u, V, rfl, hB3, hS3⟩; obtain ⟨k0, k1, k2, k3, k4, k5⟩ := rdr_cells hB3.row)
    go_quiet (fail)
    go_wp2_with fail
    refine bodyPost_ret (by simp only [results, Try.results10]; go_simp) rfl ⟨_, rfl, OwnO.nil _ _, by first | exact hS3 | exact hS3.drewN _⟩
end Go.Proofs.Ytcjjcjpkmjbfkaa
