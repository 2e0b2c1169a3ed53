/-
  Layer 7: the reference's reader, walked (as CoG's, of layer 8).
-/
import Derived.Test.YtpplnapfpoloiaaSiE
import Derived.Deep.QuietTactic
import Derived.BigQuiet
import Derived.Test.YtpplnapfpoloiaaKitBut
namespace Go.Proofs.Ytpplnapfpoloiaa
open Go.RowKit Go.ChangeShapes Go.WideShapes Go.Deep
set_option linter.unusedVariables false
set_option linter.unusedSimpArgs false

/-- All blocks but q stand, and what was new stays new. -/
def Near (q : Nat) (w w' : World) : Prop := KeepBut q w w' ∧ ∀ w0, Since w0 w → w0.heap.size ≤ q → Since w0 w'
theorem Near.refl (q : Nat) (w : World) : Near q w w := ⟨KeepBut.refl q w, fun _ h _ => h⟩
theorem Near.trans {q : Nat} {a b c : World} (h : Near q a b) (k : Near q b c) : Near q a c := ⟨h.1.trans k.1, fun w0 h0 hq => k.2 w0 (h.2 w0 h0 hq) hq⟩
theorem Near.drew {q : Nat} {a b : World} (h : Near q a b) : Near q a b.drew := ⟨⟨h.1.1, h.1.2⟩, fun w0 h0 hq => (h.2 w0 h0 hq).drew⟩
theorem Near.drewN {q : Nat} {a b : World} (h : Near q a b) (k : Nat) : Near q a (b.drewN k) := ⟨⟨h.1.1, h.1.2⟩, fun w0 h0 hq => (h.2 w0 h0 hq).drewN k⟩
theorem Near.set {q : Nat} {a b : World} (h : Near q a b) (o : Nat) (v : Value) : Near q a (b.setCell ⟨q, o, none⟩ v) := ⟨h.1.set o v, fun w0 h0 hq => (h.2 w0 h0 hq).setCell hq v⟩
theorem Row.near {w w' : World} {q b n : Nat} {F : Nat → Value} (h : Row w b n F) (k : Near q w w') (hb : b ≠ q) : Row w' b n F := by
  have e := k.1.2 b h.2.2 hb
  refine ⟨fun j hj => ?_, fun j => ?_, Nat.lt_of_lt_of_le h.2.2 k.1.1⟩
  · rw [← h.1 j hj]; simp only [World.cell?, e]
  · rw [← h.2.1 j]; simp only [World.frozen?, e]
theorem OwnG.near {α : Type} {enc : α → List Value} {t : TypeId} {k base q : Nat} {w w' : World} {v : Value} {L : List α} (h : OwnG t k enc w base v L) (hk : Near q w w') (hq : v.ownBlock ≠ some q) : OwnG t k enc w' base v L := by
  refine ⟨h.1, ?_⟩
  rcases h.2 with h0 | ⟨g, cap, cur, rfl, hb, hh, r⟩
  · exact .inl h0
  · refine .inr ⟨g, cap, cur, rfl, hb, ?_, r⟩
    have hlt : g < w.heap.size := by
      rcases Nat.lt_or_ge g w.heap.size with hlt | hge
      · exact hlt
      · rw [Array.getElem?_eq_none hge] at hh; cases hh
    rw [hk.1.2 g hlt (fun e => hq (by rw [← e]; rfl))]; exact hh
def RdrF (A : Option Addr) (n c : Nat) (p e : Int) (j : Nat) : Value := if j = 0 then .slice A n c else if j = 1 then .int .i64 p else .int .i64 e
theorem rdr_new (w : World) (b : Nat) (hb : b = w.heap.size) (t : TypeId) (A : Option Addr) (n c : Nat) : Row (w.alloc (.cells #[.slice A n c, .int .i64 0, .int .i64 0] t)) b 3 (RdrF A n c 0 0) := by
  subst hb
  refine Row.of_cells fun j hj => ?_
  have h : j = 0 ∨ j = 1 ∨ j = 2 := by omega
  rcases h with rfl | rfl | rfl <;> rfl
theorem rdr_cells {w : World} {q n c : Nat} {A : Option Addr} {p e : Int} (h : Row w q 3 (RdrF A n c p e)) : w.cell? ⟨q, 0, none⟩ = some (.slice A n c) ∧ w.cell? ⟨q, 1, none⟩ = some (.int .i64 p) ∧ w.cell? ⟨q, 2, none⟩ = some (.int .i64 e) ∧ w.frozen? ⟨q, 1, none⟩ = false ∧ w.frozen? ⟨q, 2, none⟩ = false ∧ q < w.heap.size :=
  ⟨h.1 0 (by omega), h.1 1 (by omega), h.1 2 (by omega), h.2.1 1, h.2.1 2, h.2.2⟩
theorem rdr_at {w : World} {q n c : Nat} {A : Option Addr} {p e : Int} (h : Row w q 3 (RdrF A n c p e)) (x : Int) : Row (w.setCell ⟨q, 1, none⟩ (.int .i64 x)) q 3 (RdrF A n c x e) := by
  refine (h.set 1 _).congr fun j hj => ?_
  have hh : j = 0 ∨ j = 1 ∨ j = 2 := by omega
  rcases hh with rfl | rfl | rfl <;> rfl
theorem rdr_e {w : World} {q n c : Nat} {A : Option Addr} {p e : Int} (h : Row w q 3 (RdrF A n c p e)) (x : Int) : Row (w.setCell ⟨q, 2, none⟩ (.int .i64 x)) q 3 (RdrF A n c p x) := by
  refine (h.set 2 _).congr fun j hj => ?_
  have hh : j = 0 ∨ j = 1 ∨ j = 2 := by omega
  rcases hh with rfl | rfl | rfl <;> rfl
/-- Where a reader stands: it has failed, or has read just up to x. -/
def StR (n x : Nat) (E0 p E : Int) : Prop := (E = E0 ∧ E0 ≠ 0 ∧ (E0 = 3 → n < x)) ∨ (E = 0 ∧ E0 = 3 ∧ p = (x : Int) ∧ x ≤ n)
/-- What 'u' leaves. -/
def RuPost7 (q : Nat) (A : Option Addr) (n c : Nat) (f : Nat → Int) (x m : Nat) (E0 : Int) (w : World) (e : Ending) (w' : World) : Prop :=
  ∃ v p E, e = .returned (.int .i64 v) ∧ Row w' q 3 (RdrF A n c p E) ∧ Near q w w' ∧ StR n (x + m) E0 p E ∧ (E = 0 → v = numAt f x m) ∧ (E ≠ 0 → v = 0)
set_option maxRecDepth 100000 in
set_option maxHeartbeats 8000000 in
theorem rf_u7 (q : Nat) (A : Option Addr) (n c : Nat) (f : Nat → Int) (x m : Nat) (y E0 p E : Int) (w : World) (hR : Row w q 3 (RdrF A n c p E)) (h : Rd w w.heap.size A n (U8 f)) (hf : ∀ j, j < n → 0 ≤ f j ∧ f j ≤ 255) (hy : y = m) (hm : 1 ≤ m ∧ m ≤ 4) (hx : x ≤ 140737488455328) (hn : n ≤ 140737488355328) (hst : StR n x E0 p E) :
    Calls Try.prog 78 #[.pointer (some ⟨q, 0, none⟩), .int .i64 y] w (RuPost7 q A n c f x m E0 w) := by
  subst hy
  obtain ⟨c0, c1, c2, f1, f2, hq⟩ := rdr_cells hR
  have hm1 : (m : Int) ≤ 4 := by omega
  have hm0 : (1 : Int) ≤ m := by omega
  rcases hst with ⟨rfl, h0, h3⟩ | ⟨rfl, rfl, rfl, hxn⟩
  · have d0 : (E == 0) = false := by simpa using h0
    have H1 : RuPost7 q A n c f x m E w (.returned (.int .i64 0)) w := ⟨0, p, E, rfl, hR, Near.refl _ _, .inl ⟨rfl, h0, fun e => by have := h3 e; omega⟩, fun e => absurd e h0, fun _ => rfl⟩
    have HH := Lib.hid H1
    clear H1 h h3 hf hR
    go_enter Try.func78, Try.ntmps78
    go_wp2_with fail
    go_ret
    exact HH.out
  · have hxi : (x : Int) ≤ 140737488455328 := by omega
    have hx0 : (0 : Int) ≤ x := by omega
    by_cases hfit : x + m ≤ n
    · have hC := fun w2 h2 => ru_in A n c f x m x m w2 h2 hf rfl rfl hm hfit (by omega)
      have H1 : ∀ k, RuPost7 q A n c f x m 3 w (.returned (.int .i64 (numAt f x m))) ((w.drewN k).setCell ⟨q, 1, none⟩ (.int .i64 ((x : Int) + m))) := fun k => ⟨_, _, 0, rfl, rdr_at (hR.drewN k) _, ((Near.refl q w).drewN k).set _ _, .inr ⟨rfl, rfl, by omega, hfit⟩, fun _ => rfl, fun e => absurd rfl e⟩
      generalize hv : numAt f x m = v at *
      have HH := Lib.hid H1
      have HC := Lib.hid hC
      clear H1 hf hR hv hC
      go_enter Try.func78, Try.ntmps78
      go_wp2_with fail
      go_quiet ((go_at_call 101; exact Calls.quiet_of_same (HC.out _ (h.drewN _))))
      go_wp2_with fail
      go_ret
      exact HH.out nq
    · have hC := fun w2 h2 => ru_out A n c f x m x m w2 h2 hf rfl rfl hm (by omega) (by omega) (by omega)
      have H1 : ∀ k, RuPost7 q A n c f x m 3 w (.returned (.int .i64 0)) ((w.drewN k).setCell ⟨q, 2, none⟩ (.int .i64 3)) := fun k => ⟨_, _, 3, rfl, rdr_e (hR.drewN k) _, ((Near.refl q w).drewN k).set _ _, .inl ⟨rfl, by omega, fun _ => by omega⟩, fun e => absurd e (by omega), fun _ => rfl⟩
      have HH := Lib.hid H1
      have HC := Lib.hid hC
      clear H1 hf hR hC
      go_enter Try.func78, Try.ntmps78
      go_wp2_with fail
      go_quiet ((go_at_call 101; exact Calls.quiet_of_same (HC.out _ (h.drewN _))))
      go_wp2_with fail
      go_ret
      exact HH.out nq
/-- What 's' leaves. -/
def RsPost7 (q : Nat) (A : Option Addr) (n c : Nat) (f : Nat → Int) (x : Nat) (E0 : Int) (w : World) (e : Ending) (w' : World) : Prop :=
  ∃ v p E, e = .returned (.int .i64 v) ∧ Row w' q 3 (RdrF A n c p E) ∧ Near q w w' ∧ StR n (x + 2) E0 p E ∧ (E = 0 → v = sgn 2 (numAt f x 2)) ∧ (-32768 ≤ v ∧ v ≤ 32767) ∧ (E ≠ 0 → v = 0)
set_option maxRecDepth 100000 in
set_option maxHeartbeats 8000000 in
theorem rf_s7 (q : Nat) (A : Option Addr) (n c : Nat) (f : Nat → Int) (x : Nat) (E0 p E : Int) (w : World) (hR : Row w q 3 (RdrF A n c p E)) (h : Rd w w.heap.size A n (U8 f)) (hf : ∀ j, j < n → 0 ≤ f j ∧ f j ≤ 255) (hx : x ≤ 140737488455328) (hn : n ≤ 140737488355328) (hst : StR n x E0 p E) :
    Calls Try.prog 77 #[.pointer (some ⟨q, 0, none⟩)] w (RsPost7 q A n c f x E0 w) := by
  have hC := rf_u7 q A n c f x 2 2 E0 p E w hR h hf rfl (by omega) hx hn hst
  have hrange : x + 2 ≤ n → 0 ≤ numAt f x 2 ∧ numAt f x 2 < 65536 := fun hx2 => by
    have := numAt_range (f := f) (p := x) (k := 2) (fun j hj => hf j (by omega))
    simpa using this
  have K : ∀ v p' E' w', Row w' q 3 (RdrF A n c p' E') → Near q w w' → StR n (x + 2) E0 p' E' → (E' = 0 → v = numAt f x 2) → (E' ≠ 0 → v = 0) → (0 ≤ v ∧ v < 65536) ∧ (32768 ≤ v → RsPost7 q A n c f x E0 w (.returned (.int .i64 (v - 65536))) w') ∧ (¬ 32768 ≤ v → RsPost7 q A n c f x E0 w (.returned (.int .i64 v)) w') := by
    intro v p' E' w' k1 k2 k3 k4 k5
    by_cases e : E' = 0
    · have hfit : x + 2 ≤ n := by
        rcases k3 with ⟨a, b, _⟩ | ⟨_, _, _, b⟩
        · exact absurd (a.symm.trans e) b
        · exact b
      have hr := hrange hfit
      have hv := k4 e
      have hs : sgn 2 (numAt f x 2) = if 65536 ≤ 2 * numAt f x 2 then numAt f x 2 - 65536 else numAt f x 2 := by unfold sgn; simp only [Int.reducePow]
      rw [← hv] at hs hr
      refine ⟨hr, fun hg => ?_, fun hg => ?_⟩
      · rw [if_pos (by omega)] at hs
        exact ⟨_, p', E', rfl, k1, k2, k3, fun _ => by rw [← hv]; exact hs.symm, by omega, fun h => absurd e h⟩
      · rw [if_neg (by omega)] at hs
        exact ⟨_, p', E', rfl, k1, k2, k3, fun _ => by rw [← hv]; exact hs.symm, by omega, fun h => absurd e h⟩
    · have hv := k5 e
      exact ⟨by omega, fun h => absurd h (by omega), fun _ => ⟨_, p', E', rfl, k1, k2, k3, fun h => absurd h e, by omega, fun _ => hv⟩⟩
  have HK := Lib.hid K
  clear hR h hf hst K hrange
  go_enter Try.func77, Try.ntmps77
  go_wp2_with (go_at_call 78; (with_reducible refine hC.mono ?_); rintro e w2 ⟨v, p', E', rfl, k1, k2, k3, k4, k5⟩; obtain ⟨hvr, hv1, hv2⟩ := HK.out v p' E' w2 k1 k2 k3 k4 k5; have HV1 := Lib.hid hv1; have HV2 := Lib.hid hv2; clear hv1 hv2 k1 k2 k3 k4 k5)
  all_goals go_ret
  · exact HV1.out (by assumption)
  · exact HV2.out (by omega)
end Go.Proofs.Ytpplnapfpoloiaa
