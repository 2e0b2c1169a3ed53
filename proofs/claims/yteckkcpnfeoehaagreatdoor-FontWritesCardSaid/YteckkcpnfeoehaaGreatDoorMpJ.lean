/-
  Texts of this seat, put together: each with its own head.
-/
import Derived.Test.YteckkcpnfeoehaaGreatDoorMnAd
import Derived.Test.YteckkcpnfeoehaaGreatDoorMnAb
import Derived.Shelf.Abstract

/-
  Layer 6: 'Ints', 'all' and its conditions, walked.
-/
namespace Go.Proofs.YteckkcpnfeoehaaGreatDoor
set_option maxRecDepth 100000
open Go.RowKit
set_option linter.unusedVariables false

def I64L (f : Nat → Int) : Nat → Value := IntRow .i64 f
set_option maxHeartbeats 4000000 in
/-- 'Ints' of the same numbers. -/
theorem ref_ints (A B : Option Addr) (n c d : Nat) (f : Nat → Int) (w : World) (h1 : Rd w w.heap.size A n (I64L f)) (h2 : Rd w w.heap.size B n (I64L f)) (hn : n ≤ maxLen) :
    Calls Tryz.prog 11 #[.slice A n c, .slice B n d] w fun e w' => e = .returned (.bool true) ∧ Since w w' := by
  have hn' : (n : Int) ≤ 9223372036854775807 := by simp only [maxLen] at hn; omega
  go_enter Tryz.func11, Tryz.ntmps11
  go_wp2
  go_loopw [13] (fun y wr => ∃ j : Nat, j ≤ n ∧ y = .int .i64 (j : Int) ∧ Since w wr) (fun y _ => n - (intOf y).toNat)
  case atStart => exact ⟨0, by omega, rfl, Since.refl _⟩
  case round =>
    obtain ⟨j, hj, rfl, hSr⟩ := hrel
    by_cases hjn : j < n
    · have hjn' : (j : Int) < n := by omega
      obtain ⟨b, o, rfl, hb, hc⟩ := h1 (by omega)
      obtain ⟨b', o', rfl, hb', hc'⟩ := h2 (by omega)
      have c1 : wr.cell? ⟨b, o + j, none⟩ = some (.int .i64 (f j)) := (hSr.1 _ _ hb).trans (hc j hjn)
      have e1 : wr.cell? ⟨b', o' + j, none⟩ = some (.int .i64 (f j)) := (hSr.1 _ _ hb').trans (hc' j hjn)
      have hj0 : (0 : Int) ≤ j := by omega
      generalize f j = x at *
      clear hc hc' h1 h2
      go_wp2_with fail
      go_quiet (fail)
      go_wp2
      refine ⟨⟨j + 1, by omega, by simp, by (repeat (first | with_reducible (exact Since.refl _) | with_reducible assumption | with_reducible (refine Since.drew ?_) | with_reducible (refine Since.drewN ?_ _) | with_reducible (refine Since.alloc ?_ _) | (with_reducible (refine Since.setCell ?_ ?_ _); rotate_left; focus (first | (simp; done) | (simp; omega) | omega)) | (with_reducible (refine Since.trans ?_ (by with_reducible assumption)))))⟩, by simp [intOf]; omega⟩
    · obtain rfl : j = n := by omega
      clear h1 h2
      go_wp2
      go_ret
      exact ⟨rfl, hSr⟩

/-- Does a condition hold of all numbers below n? -/
def allB (p : Nat → Bool) : Nat → Bool
  | 0 => true
  | n + 1 => allB p n && p n
theorem allB_no {p : Nat → Bool} {j : Nat} (h : p j = false) : ∀ {n : Nat}, j < n → allB p n = false
  | n + 1, hj => by
    unfold allB
    rcases Nat.lt_or_ge j n with h' | h'
    · rw [allB_no h h']; rfl
    · obtain rfl : j = n := by omega
      rw [h]; simp
theorem allB_iff {p : Nat → Bool} : ∀ {n : Nat}, allB p n = true ↔ ∀ j, j < n → p j = true
  | 0 => by simp [allB]
  | n + 1 => by
    unfold allB
    rw [Bool.and_eq_true, allB_iff]
    refine ⟨fun ⟨h1, h2⟩ j hj => ?_, fun h => ⟨fun j hj => h j (by omega), h n (by omega)⟩⟩
    rcases Nat.lt_or_ge j n with h' | h'
    · exact h1 j h'
    · obtain rfl : j = n := by omega
      exact h2
theorem allB_congr {p q : Nat → Bool} {n : Nat} (h : ∀ j, j < n → p j = q j) : allB p n = allB q n := by
  rw [Bool.eq_iff_iff, allB_iff, allB_iff]
  exact ⟨fun k j hj => (h j hj) ▸ k j hj, fun k j hj => (h j hj).symm ▸ k j hj⟩

set_option maxHeartbeats 4000000 in
theorem lo_all (k : Nat) (cap : Array Value) (n : Nat) (p : Nat → Bool) (w : World) (hn : n ≤ maxLen) (hE : ∀ args w, (callFunc k args).run Tryz.prog w = .ok (.enter k args) w)
    (hF : ∀ (i : Nat) (w1 : World), i < n → Since w w1 → Calls Tryz.prog k (#[.int .i64 i] ++ cap) w1 fun e w2 => e = .returned (.bool (p i)) ∧ Since w1 w2) :
    Calls Tryz.prog 105 #[.int .i64 n, .func (.func k) #[] cap] w fun e w' => e = .returned (.bool (allB p n)) ∧ Since w w' := by
  have hn' : (n : Int) ≤ 9223372036854775807 := by simp only [maxLen] at hn; omega
  go_enter Tryz.func105, Tryz.ntmps105
  go_wp2
  go_loopw [5, 7] (fun _ y wr => ∃ j : Nat, j ≤ n ∧ y = .int .i64 (j : Int) ∧ Since w wr ∧ allB p j = true) (fun _ y _ => n - (intOf y).toNat)
  case atStart => exact ⟨0, by omega, rfl, Since.refl _, rfl⟩
  case round =>
    obtain ⟨j, hj, rfl, hSr, hall⟩ := hrel
    have HA := Lib.hid hall
    clear hall
    by_cases hjn : j < n
    · have hjn' : (j : Int) < n := by omega
      have hc := hF j wr hjn hSr
      cases hp : p j with
      | true =>
        have HP := Lib.hid hp
        rw [hp] at hc
        clear hF hp
        go_wp2_with (refine (Calls.mono hc ?_); rintro e w1 ⟨rfl, hS1⟩)
        refine ⟨⟨j + 1, by omega, by simp, hSr.trans hS1, ?_⟩, by simp [intOf]; omega⟩
        unfold allB; rw [HA.out, HP.out]; rfl
      | false =>
        have HP := Lib.hid (allB_no hp hjn)
        rw [hp] at hc
        clear hF hp
        go_wp2_with (refine (Calls.mono hc ?_); rintro e w1 ⟨rfl, hS1⟩)
        go_ret
        exact ⟨by rw [HP.out]; rfl, hSr.trans hS1⟩
    · obtain rfl : j = n := by omega
      clear hF
      go_wp2
      go_ret
      exact ⟨by rw [HA.out]; rfl, hSr⟩
end Go.Proofs.YteckkcpnfeoehaaGreatDoor

/-
  Layer 6: 'ascending', 'layout', 'Read' of the program, walked.
-/
namespace Go.Proofs.YteckkcpnfeoehaaGreatDoor
set_option maxRecDepth 100000
open Go.RowKit
set_option linter.unusedVariables false

def ascB (f : Nat → Int) (i : Nat) : Bool := decide (i = 0 ∨ f (i - 1) ≤ f i)
theorem asc_zero (f : Nat → Int) : ascB f 0 = true := by simp [ascB]
theorem asc_next (f : Nat → Int) (i : Nat) : ascB f (i + 1) = decide (f i ≤ f (i + 1)) := by simp [ascB]
set_option maxHeartbeats 4000000 in
theorem lo_asc1 (i : Nat) (q : Nat) (A : Option Addr) (n c : Nat) (f : Nat → Int) (w : World) (hi : i < n) (hn : n ≤ maxLen) (hq : w.cell? ⟨q, 0, none⟩ = some (.slice A n c)) (h : Rd w w.heap.size A n (I64L f)) :
    Calls Tryz.prog 126 #[.int .i64 i, .pointer (some ⟨q, 0, none⟩)] w fun e w' => e = .returned (.bool (ascB f i)) ∧ Since w w' := by
  have hn' : (n : Int) ≤ 9223372036854775807 := by simp only [maxLen] at hn; omega
  obtain ⟨b, o, rfl, hb, hc⟩ := h (by omega)
  rcases i with _ | i
  · rw [asc_zero]
    clear hc h
    go_enter Tryz.func126, Tryz.ntmps126
    go_wp2_with fail
    go_quiet (fail)
    go_wp2
    go_ret
    exact ⟨rfl, by (repeat (first | with_reducible (exact Since.refl _) | with_reducible assumption | with_reducible (refine Since.drew ?_) | with_reducible (refine Since.drewN ?_ _) | with_reducible (refine Since.alloc ?_ _) | (with_reducible (refine Since.setCell ?_ ?_ _); rotate_left; focus (first | (simp; done) | (simp; omega) | omega)) | (with_reducible (refine Since.trans ?_ (by with_reducible assumption)))))⟩
  · rw [asc_next]
    have c0 : w.cell? ⟨b, o + i, none⟩ = some (.int .i64 (f i)) := hc i (by omega)
    have c1 : w.cell? ⟨b, o + (i + 1), none⟩ = some (.int .i64 (f (i + 1))) := hc (i + 1) hi
    generalize f i = x at *
    generalize f (i + 1) = y at *
    obtain ⟨k, hk⟩ : ∃ k, i + 1 = k := ⟨_, rfl⟩
    rw [hk] at c1 hi ⊢
    have e0 : ((k : Int) == 0) = false := by simp; omega
    have e1 : decide ((k : Int) = 0) = false := by simp; omega
    have e2 : IntKind.i64.wrap ((k : Int) - 1) = (i : Int) := by rw [IntWalk.i64_in _ (by omega)]; omega
    have i0 : (i : Int) < n := by omega
    have i1 : (k : Int) < n := by omega
    have i2 : (0 : Int) ≤ i := by omega
    have i3 : (0 : Int) ≤ k := by omega
    have i4 : ¬ k = 0 := by omega
    clear hc h hk
    go_enter Tryz.func126, Tryz.ntmps126
    go_wp2_with fail
    go_quiet (fail)
    go_wp2
    go_ret
    exact ⟨rfl, by (repeat (first | with_reducible (exact Since.refl _) | with_reducible assumption | with_reducible (refine Since.drew ?_) | with_reducible (refine Since.drewN ?_ _) | with_reducible (refine Since.alloc ?_ _) | (with_reducible (refine Since.setCell ?_ ?_ _); rotate_left; focus (first | (simp; done) | (simp; omega) | omega)) | (with_reducible (refine Since.trans ?_ (by with_reducible assumption)))))⟩

theorem enters38 : ∀ args w, (callFunc 126 args).run Tryz.prog w = .ok (.enter 126 args) w := enters_of Tryz.func126 (by kernel_rfl) rfl
theorem cell_box (w : World) (v : Value) (t : TypeId) : (w.alloc (.cells #[v] t)).cell? ⟨w.heap.size, 0, none⟩ = some v := by rw [World.cell?_alloc_new]; rfl
set_option maxHeartbeats 4000000 in
theorem lo_asc (A : Option Addr) (n c : Nat) (f : Nat → Int) (w : World) (hn : n ≤ maxLen) (h : Rd w w.heap.size A n (I64L f)) :
    Calls Tryz.prog 115 #[.slice A n c] w fun e w' => e = .returned (.bool (allB (ascB f) n)) ∧ Since w w' := by
  have hmf : ∀ (fn : Fn) (first cap : Array Value) (w : World), (Instr.makeFunc fn first cap).run Tryz.prog w = .ok (.func fn first cap) w := fun _ _ _ _ => rfl
  have hA := fun (t : TypeId) => lo_all 126 #[.pointer (some ⟨w.heap.size, 0, none⟩)] n (ascB f) (w.alloc (.cells #[.slice A n c] t)) hn enters38 (fun i w1 hi hS => lo_asc1 i w.heap.size A n c f w1 hi hn ((hS.1 _ _ (by simp)).trans (cell_box w _ t)) (((h.alloc (Nat.le_refl _) _).more (by simp)).on hS))
  have H := Lib.hid hA
  clear hA h
  go_enter Tryz.func115, Tryz.ntmps115
  go_wp2_with (go_at_call 105; refine (Calls.mono (H.out _) ?_); rintro e w1 ⟨rfl, hS1⟩)
  go_ret
  exact ⟨rfl, by (repeat (first | with_reducible (exact Since.refl _) | with_reducible assumption | with_reducible (refine Since.drew ?_) | with_reducible (refine Since.drewN ?_ _) | with_reducible (refine Since.alloc ?_ _) | (with_reducible (refine Since.setCell ?_ ?_ _); rotate_left; focus (first | (simp; done) | (simp; omega) | omega)) | (with_reducible (refine Since.trans ?_ (by with_reducible assumption)))))⟩
end Go.Proofs.YteckkcpnfeoehaaGreatDoor

/-
  Layer 6: 'layout', 'Read', walked, program and reference.
-/
namespace Go.Proofs.YteckkcpnfeoehaaGreatDoor
set_option maxRecDepth 100000
open Go.RowKit
set_option linter.unusedVariables false

theorem Tryz.info_i64 : (Tryz.prog.info? 3).map (fun i => (i.zero, i.size, i.bytes)) = some (some (.int .i64 0), 1, 8) := by kernel_rfl
theorem u_inL (A : Option Addr) (n c : Nat) (f : Nat → Int) (p m : Nat) (x y : Int) (w : World) (h : Rd w w.heap.size A n (U8 f)) (hf : ∀ j, j < n → 0 ≤ f j ∧ f j ≤ 255) (hx : x = p) (hy : y = m) (hm : 1 ≤ m ∧ m ≤ 4) (hp : p + m ≤ n) (hn : n ≤ 140737488355328) :
    Calls Tryz.prog 97 #[.slice A n c, .int .i64 x, .int .i64 y] w fun e w' => e = .returned (.tuple #[.int .i64 (numAt f p m), .int .i64 0]) ∧ w' = w := by
  subst hx; subst hy
  have h' := be_u A n c f p m w h hf (by unfold In64; omega) (by unfold In64; omega) hn
  unfold uAns at h'
  rw [if_neg (by omega), if_pos (by unfold Fits; omega)] at h'
  simpa using h'
def wide4 (l : Bool) : Nat := if l then 4 else 2
def times1 (l : Bool) : Int := if l then 1 else 2
theorem lo_layout (l : Bool) (w : World) : Calls Tryz.prog 104 #[.bool l] w fun e w' => e = .returned (.tuple #[.int .i64 (wide4 l), .int .i64 (times1 l)]) ∧ w' = w := by
  cases l
  · go_enter Tryz.func104, Tryz.ntmps104
    go_wp2
    go_ret2
    exact ⟨rfl, rfl⟩
  · go_enter Tryz.func104, Tryz.ntmps104
    go_wp2
    go_ret2
    exact ⟨rfl, rfl⟩
/-- Where glyph i begins. -/
def lcV (f : Nat → Int) (l : Bool) (i : Nat) : Int := times1 l * numAt f (wide4 l * i) (wide4 l)
theorem lcV_range {f : Nat → Int} {l : Bool} {i n : Nat} (hf : ∀ j, j < n → 0 ≤ f j ∧ f j ≤ 255) (h : wide4 l * i + wide4 l ≤ n) : 0 ≤ numAt f (wide4 l * i) (wide4 l) ∧ numAt f (wide4 l * i) (wide4 l) ≤ 4294967295 ∧ 0 ≤ lcV f l i ∧ lcV f l i ≤ 4294967295 := by
  have h1 := numAt_small (f := f) (p := wide4 l * i) (j := wide4 l) (by unfold wide4; split <;> omega) (fun j hj => hf j (by omega))
  unfold lcV
  cases l
  · simp only [wide4, times1] at *
    simp at *
    omega
  · simp only [wide4, times1] at *
    simp at *
    omega
def rdE (f : Nat → Int) (n : Nat) (l : Bool) (g : Int) : Int := if g < 0 ∨ 1024 < g then 2 else if (n : Int) < wide4 l * (g + 1) then 3 else if allB (ascB (lcV f l)) (g.toNat + 1) then 0 else 12
def rdN (f : Nat → Int) (n : Nat) (l : Bool) (g : Int) : Nat := if rdE f n l g = 0 then g.toNat + 1 else 0
/-- What 'Read' leaves. -/
def RdPost (f : Nat → Int) (n : Nat) (l : Bool) (g : Int) (w : World) (e : Ending) (w' : World) : Prop := ∃ A' c, e = .returned (.tuple #[.slice A' (rdN f n l g) c, .int .i64 (rdE f n l g)]) ∧ rdN f n l g ≤ c ∧ Rd w' w'.heap.size A' (rdN f n l g) (I64L (lcV f l)) ∧ Since w w'
theorem rd_post {f : Nat → Int} {n : Nat} {l : Bool} {g E : Int} {M c : Nat} {A' : Option Addr} {w w' : World} (hE : rdE f n l g = E) (hM : M = if E = 0 then g.toNat + 1 else 0) (hc : M ≤ c) (h : Rd w' w'.heap.size A' M (I64L (lcV f l))) (hS : Since w w') :
    RdPost f n l g w (.returned (.tuple #[.slice A' M c, .int .i64 E])) w' := by
  subst hE
  have e : rdN f n l g = M := hM.symm
  unfold RdPost
  rw [e]
  exact ⟨A', c, rfl, hc, h, hS⟩


theorem lo_layout2 (w : World) : Calls Tryz.prog 104 #[.bool false] w fun e w' => e = .returned (.tuple #[.int .i64 2, .int .i64 2]) ∧ w' = w := lo_layout false w
set_option maxHeartbeats 8000000 in
theorem lo_read2 (A : Option Addr) (n c : Nat) (f : Nat → Int) (g : Int) (w : World) (h : Rd w w.heap.size A n (U8 f)) (hf : ∀ j, j < n → 0 ≤ f j ∧ f j ≤ 255) (hg : In64 g) (hn : n ≤ 140737488355328) :
    Calls Tryz.prog 102 #[.slice A n c, .bool false, .int .i64 g] w (RdPost f n false g w) := by
  obtain ⟨i0, hi0, hz0, hz1, hz2⟩ := info_parts Tryz.info_i64
  by_cases h1 : g < 0
  · have d1 : decide (g < 0) = true := by simpa using h1
    have e : rdE f n false g = 2 := by unfold rdE; rw [if_pos (.inl h1)]
    have E := Lib.hid e; clear e h h1
    go_enter Tryz.func102, Tryz.ntmps102
    go_wp2
    go_ret2
    exact rd_post E.out rfl (Nat.le_refl _) Rd.zero (Since.refl _)
  have d1 : decide (g < 0) = false := by simpa using h1
  by_cases h2 : 1024 < g
  · have d2 : decide (1024 < g) = true := by simpa using h2
    have e : rdE f n false g = 2 := by unfold rdE; rw [if_pos (.inr h2)]
    have E := Lib.hid e; clear e h h1 h2
    go_enter Tryz.func102, Tryz.ntmps102
    go_wp2
    go_ret2
    exact rd_post E.out rfl (Nat.le_refl _) Rd.zero (Since.refl _)
  have d2 : decide (1024 < g) = false := by simpa using h2
  obtain ⟨G, rfl⟩ : ∃ G : Nat, g = G := ⟨g.toNat, by omega⟩
  have hG : G ≤ 1024 := by omega
  by_cases h3 : (n : Int) < 2 * ((G : Int) + 1)
  · have e : rdE f n false G = 3 := by unfold rdE; rw [if_neg (by omega)]; exact if_pos h3
    have E := Lib.hid e; clear e h h1 h2
    go_enter Tryz.func102, Tryz.ntmps102
    go_wp2_with (go_at_call 104; (with_reducible refine (lo_layout2 _).mono ?_); rintro e w1 ⟨rfl, rfl⟩)
    go_ret2
    exact rd_post E.out rfl (Nat.le_refl _) Rd.zero (Since.refl _)
  · have e : rdE f n false G = if allB (ascB (lcV f false)) (G + 1) then 0 else 12 := by unfold rdE; rw [if_neg (by omega)]; exact if_neg h3
    have E := Lib.hid e; clear e h1 h2
    have hG1 : (G : Int) ≤ 1024 := by omega
    have b1 : 8 * (G + 1) ≤ 281474976710656 := by omega
    have b2 : G + 1 ≤ maxLen := by simp only [maxLen]; omega
    have hN : ((G : Int) + 1) = ((G + 1 : Nat) : Int) := rfl
    have HN := Lib.hid hN; clear hN
    go_enter Tryz.func102, Tryz.ntmps102
    go_wp2_with (first | (go_at_call 104; (with_reducible refine (lo_layout2 _).mono ?_); rintro e w0 ⟨rfl, rfl⟩) | (at_make; refine wpList_make_tab _ (by rfl) _ _ _ (by rfl) 3 i0 .i64 8 Tryz.underlying39 hi0 hz0 hz1 hz2 .i64 .i64 (G + 1) (by rfl) (by rfl) b1 b2 ?_; intro w1 hown1 hS1))
    have hrow := row_of_own hown1
    clear hown1
    go_loopw [37] (fun y wr => ∃ j : Nat, j ≤ G + 1 ∧ y = .int .i64 (j : Int) ∧ Since w0 wr ∧ Row wr w0.heap.size (G + 1) (I64L (fun q => if q < j then lcV f false q else 0))) (fun y _ => G + 1 - (intOf y).toNat)
    case atStart => exact ⟨0, by omega, rfl, hS1, hrow.congr (fun q hq => by simp only [I64L, IntRow]; rw [if_neg (by omega)])⟩
    case round =>
      obtain ⟨j, hj, rfl, hSr, hR⟩ := hrel
      by_cases hjm : j < G + 1
      · have hjm' : (j : Int) < (G : Int) + 1 := by omega
        have hcell := hR.1 j hjm
        have hfr := hR.2.1 j
        have hU := u_inL A n c f (2 * j) 2 (2 * (j : Int)) 2 wr (h.on hSr) hf (by simp) rfl (by omega) (by omega) (by omega)
        have hv := lcV_range (f := f) (l := false) (i := j) (n := n) hf (by simp only [wide4]; simp; omega)
        have hvd : lcV f false j = 2 * numAt f (2 * j) 2 := rfl
        rw [show wide4 false = 2 from rfl] at hv
        have HVD := Lib.hid hvd; clear hvd
        generalize numAt f (2 * j) 2 = x at *
        obtain ⟨v1, v2, v3, v4⟩ := hv
        clear v3 v4
        go_wp2_with (go_at_call 97; (with_reducible refine hU.mono ?_); rintro e w2 ⟨rfl, rfl⟩)
        refine ⟨⟨j + 1, by omega, by simp, hSr.setCell (Nat.le_refl _) _, (hR.set j _).congr (fun t ht => ?_)⟩, by simp [intOf]; omega⟩
        simp only [I64L, IntRow]
        by_cases hq : t = j
        · subst hq
          rw [if_pos rfl, if_pos (by omega), HVD.out]; first | done | (congr 1; omega)
        · rw [if_neg hq]
          by_cases ht2 : t < j
          · rw [if_pos ht2, if_pos (by omega)]
          · rw [if_neg ht2, if_neg (by omega)]
      · obtain rfl : j = G + 1 := by omega
        have hR' := hR.congr (g := I64L (lcV f false)) (fun q hq => by simp only [I64L, IntRow]; rw [if_pos hq])
        clear hR hrow h
        have hA := lo_asc (some ⟨w0.heap.size, 0, none⟩) (G + 1) (G + 1) (lcV f false) wr (by simp only [maxLen]; omega) (Rd.of_row hR')
        cases hb : allB (ascB (lcV f false)) (G + 1) with
        | true =>
          rw [hb] at hA
          have E2 := Lib.hid (show rdE f n false G = 0 from by rw [E.out, hb]; rfl); clear E hb
          go_wp2_with (go_at_call 115; (with_reducible refine hA.mono ?_); rintro e w2 ⟨rfl, hS2⟩)
          go_ret2
          exact rd_post E2.out rfl (Nat.le_refl _) (Rd.of_row (hR'.since hS2)) (hSr.trans hS2)
        | false =>
          rw [hb] at hA
          have E2 := Lib.hid (show rdE f n false G = 12 from by rw [E.out, hb]; rfl); clear E hb
          go_wp2_with (go_at_call 115; (with_reducible refine hA.mono ?_); rintro e w2 ⟨rfl, hS2⟩)
          go_ret2
          exact rd_post E2.out rfl (Nat.le_refl _) Rd.zero (hSr.trans hS2)

theorem lo_layout4 (w : World) : Calls Tryz.prog 104 #[.bool true] w fun e w' => e = .returned (.tuple #[.int .i64 4, .int .i64 1]) ∧ w' = w := lo_layout true w
set_option maxHeartbeats 8000000 in
theorem lo_read4 (A : Option Addr) (n c : Nat) (f : Nat → Int) (g : Int) (w : World) (h : Rd w w.heap.size A n (U8 f)) (hf : ∀ j, j < n → 0 ≤ f j ∧ f j ≤ 255) (hg : In64 g) (hn : n ≤ 140737488355328) :
    Calls Tryz.prog 102 #[.slice A n c, .bool true, .int .i64 g] w (RdPost f n true g w) := by
  obtain ⟨i0, hi0, hz0, hz1, hz2⟩ := info_parts Tryz.info_i64
  by_cases h1 : g < 0
  · have d1 : decide (g < 0) = true := by simpa using h1
    have e : rdE f n true g = 2 := by unfold rdE; rw [if_pos (.inl h1)]
    have E := Lib.hid e; clear e h h1
    go_enter Tryz.func102, Tryz.ntmps102
    go_wp2
    go_ret2
    exact rd_post E.out rfl (Nat.le_refl _) Rd.zero (Since.refl _)
  have d1 : decide (g < 0) = false := by simpa using h1
  by_cases h2 : 1024 < g
  · have d2 : decide (1024 < g) = true := by simpa using h2
    have e : rdE f n true g = 2 := by unfold rdE; rw [if_pos (.inr h2)]
    have E := Lib.hid e; clear e h h1 h2
    go_enter Tryz.func102, Tryz.ntmps102
    go_wp2
    go_ret2
    exact rd_post E.out rfl (Nat.le_refl _) Rd.zero (Since.refl _)
  have d2 : decide (1024 < g) = false := by simpa using h2
  obtain ⟨G, rfl⟩ : ∃ G : Nat, g = G := ⟨g.toNat, by omega⟩
  have hG : G ≤ 1024 := by omega
  by_cases h3 : (n : Int) < 4 * ((G : Int) + 1)
  · have e : rdE f n true G = 3 := by unfold rdE; rw [if_neg (by omega)]; exact if_pos h3
    have E := Lib.hid e; clear e h h1 h2
    go_enter Tryz.func102, Tryz.ntmps102
    go_wp2_with (go_at_call 104; (with_reducible refine (lo_layout4 _).mono ?_); rintro e w1 ⟨rfl, rfl⟩)
    go_ret2
    exact rd_post E.out rfl (Nat.le_refl _) Rd.zero (Since.refl _)
  · have e : rdE f n true G = if allB (ascB (lcV f true)) (G + 1) then 0 else 12 := by unfold rdE; rw [if_neg (by omega)]; exact if_neg h3
    have E := Lib.hid e; clear e h1 h2
    have hG1 : (G : Int) ≤ 1024 := by omega
    have b1 : 8 * (G + 1) ≤ 281474976710656 := by omega
    have b2 : G + 1 ≤ maxLen := by simp only [maxLen]; omega
    have hN : ((G : Int) + 1) = ((G + 1 : Nat) : Int) := rfl
    have HN := Lib.hid hN; clear hN
    go_enter Tryz.func102, Tryz.ntmps102
    go_wp2_with (first | (go_at_call 104; (with_reducible refine (lo_layout4 _).mono ?_); rintro e w0 ⟨rfl, rfl⟩) | (at_make; refine wpList_make_tab _ (by rfl) _ _ _ (by rfl) 3 i0 .i64 8 Tryz.underlying39 hi0 hz0 hz1 hz2 .i64 .i64 (G + 1) (by rfl) (by rfl) b1 b2 ?_; intro w1 hown1 hS1))
    have hrow := row_of_own hown1
    clear hown1
    go_loopw [37] (fun y wr => ∃ j : Nat, j ≤ G + 1 ∧ y = .int .i64 (j : Int) ∧ Since w0 wr ∧ Row wr w0.heap.size (G + 1) (I64L (fun q => if q < j then lcV f true q else 0))) (fun y _ => G + 1 - (intOf y).toNat)
    case atStart => exact ⟨0, by omega, rfl, hS1, hrow.congr (fun q hq => by simp only [I64L, IntRow]; rw [if_neg (by omega)])⟩
    case round =>
      obtain ⟨j, hj, rfl, hSr, hR⟩ := hrel
      by_cases hjm : j < G + 1
      · have hjm' : (j : Int) < (G : Int) + 1 := by omega
        have hcell := hR.1 j hjm
        have hfr := hR.2.1 j
        have hU := u_inL A n c f (4 * j) 4 (4 * (j : Int)) 4 wr (h.on hSr) hf (by simp) rfl (by omega) (by omega) (by omega)
        have hv := lcV_range (f := f) (l := true) (i := j) (n := n) hf (by simp only [wide4]; simp; omega)
        have hvd : lcV f true j = 1 * numAt f (4 * j) 4 := rfl
        rw [show wide4 true = 4 from rfl] at hv
        have HVD := Lib.hid hvd; clear hvd
        generalize numAt f (4 * j) 4 = x at *
        obtain ⟨v1, v2, v3, v4⟩ := hv
        clear v3 v4
        go_wp2_with (go_at_call 97; (with_reducible refine hU.mono ?_); rintro e w2 ⟨rfl, rfl⟩)
        refine ⟨⟨j + 1, by omega, by simp, hSr.setCell (Nat.le_refl _) _, (hR.set j _).congr (fun t ht => ?_)⟩, by simp [intOf]; omega⟩
        simp only [I64L, IntRow]
        by_cases hq : t = j
        · subst hq
          rw [if_pos rfl, if_pos (by omega), HVD.out]; first | done | (congr 1; omega)
        · rw [if_neg hq]
          by_cases ht2 : t < j
          · rw [if_pos ht2, if_pos (by omega)]
          · rw [if_neg ht2, if_neg (by omega)]
      · obtain rfl : j = G + 1 := by omega
        have hR' := hR.congr (g := I64L (lcV f true)) (fun q hq => by simp only [I64L, IntRow]; rw [if_pos hq])
        clear hR hrow h
        have hA := lo_asc (some ⟨w0.heap.size, 0, none⟩) (G + 1) (G + 1) (lcV f true) wr (by simp only [maxLen]; omega) (Rd.of_row hR')
        cases hb : allB (ascB (lcV f true)) (G + 1) with
        | true =>
          rw [hb] at hA
          have E2 := Lib.hid (show rdE f n true G = 0 from by rw [E.out, hb]; rfl); clear E hb
          go_wp2_with (go_at_call 115; (with_reducible refine hA.mono ?_); rintro e w2 ⟨rfl, hS2⟩)
          go_ret2
          exact rd_post E2.out rfl (Nat.le_refl _) (Rd.of_row (hR'.since hS2)) (hSr.trans hS2)
        | false =>
          rw [hb] at hA
          have E2 := Lib.hid (show rdE f n true G = 12 from by rw [E.out, hb]; rfl); clear E hb
          go_wp2_with (go_at_call 115; (with_reducible refine hA.mono ?_); rintro e w2 ⟨rfl, hS2⟩)
          go_ret2
          exact rd_post E2.out rfl (Nat.le_refl _) Rd.zero (hSr.trans hS2)


theorem allB_next {p : Nat → Bool} {j : Nat} (h : allB p j = true) (h' : p j = true) : allB p (j + 1) = true := by
  unfold allB; rw [h, h']; rfl

end Go.Proofs.YteckkcpnfeoehaaGreatDoor

/-
  Layer 6: 'check', 'Long', walked.
-/
namespace Go.Proofs.YteckkcpnfeoehaaGreatDoor
set_option maxRecDepth 100000
open Go.RowKit
set_option linter.unusedVariables false

def fitB (l : Bool) (f : Nat → Int) (i : Nat) : Bool := if l then decide (f i ≤ 4294967295) else (decide (f i ≤ 131070) && decide (f i % 2 = 0))
def okB (f : Nat → Int) (i : Nat) : Bool := decide (0 ≤ f i) && ascB f i
theorem ok_nonneg {f : Nat → Int} {n : Nat} (h : allB (okB f) n = true) {j : Nat} (hj : j < n) : 0 ≤ f j := by
  have := allB_iff.1 h j hj
  unfold okB at this
  simp only [Bool.and_eq_true, decide_eq_true_eq] at this
  exact this.1
theorem ok_asc {f : Nat → Int} {n : Nat} (h : allB (okB f) n = true) : allB (ascB f) n = true := by
  rw [allB_iff] at h ⊢
  intro j hj
  have := h j hj
  unfold okB at this
  simp only [Bool.and_eq_true] at this
  exact this.2
theorem asc_up {f : Nat → Int} : ∀ {n : Nat}, allB (ascB f) n = true → ∀ j, j < n → f 0 ≤ f j
  | n, h, 0, _ => Int.le_refl _
  | n, h, j + 1, hj => by
    have h1 := asc_up h j (by omega)
    have h2 := allB_iff.1 h (j + 1) hj
    rw [asc_next] at h2
    simp only [decide_eq_true_eq] at h2
    omega
theorem ok_of {f : Nat → Int} {n : Nat} (h : allB (ascB f) n = true) (h0 : n = 0 ∨ 0 ≤ f 0) : allB (okB f) n = true := by
  rw [allB_iff]
  intro j hj
  have h1 := asc_up h j hj
  have h2 := allB_iff.1 h j hj
  unfold okB
  rw [h2, Bool.and_true, decide_eq_true_eq]
  omega
theorem ok_no {f : Nat → Int} {n : Nat} (h : allB (ascB f) n = false) : allB (okB f) n = false := by
  cases hb : allB (okB f) n with
  | false => rfl
  | true => rw [ok_asc hb] at h; cases h
theorem ok_no0 {f : Nat → Int} {n : Nat} (hn : 0 < n) (h : f 0 < 0) : allB (okB f) n = false := by
  cases hb : allB (okB f) n with
  | false => rfl
  | true => have := ok_nonneg hb hn; omega
/-- The error of writing. -/
def wrE (l : Bool) (f : Nat → Int) (n : Nat) : Int := if allB (okB f) n then (if allB (fitB l f) n then 0 else 6) else 12

set_option maxHeartbeats 4000000 in
theorem lo_fit1 (i : Nat) (q : Nat) (A : Option Addr) (n c : Nat) (f : Nat → Int) (w : World) (hi : i < n) (hn : n ≤ maxLen) (hf : 0 ≤ f i) (hq : w.cell? ⟨q, 0, none⟩ = some (.slice A n c)) (h : Rd w w.heap.size A n (I64L f)) :
    Calls Tryz.prog 116 #[.int .i64 i, .pointer (some ⟨q, 0, none⟩)] w fun e w' => e = .returned (.bool (fitB false f i)) ∧ Since w w' := by
  have hn' : (n : Int) ≤ 9223372036854775807 := by simp only [maxLen] at hn; omega
  obtain ⟨b, o, rfl, hb, hc⟩ := h (by omega)
  have c1 : w.cell? ⟨b, o + i, none⟩ = some (.int .i64 (f i)) := hc i hi
  have i1 : (i : Int) < n := by omega
  have hv : fitB false f i = (decide (f i ≤ 131070) && decide (f i % 2 = 0)) := rfl
  have HV := Lib.hid hv
  clear hv
  generalize hx : f i = x at *
  clear hc h hx
  by_cases h1 : x ≤ 131070
  · have d1 : decide (x ≤ 131070) = true := by simpa using h1
    have HV2 := Lib.hid (show fitB false f i = decide (x % 2 = 0) by rw [HV.out, d1, Bool.true_and])
    clear HV
    go_enter Tryz.func116, Tryz.ntmps116
    go_wp2
    go_ret
    exact ⟨by rw [HV2.out]; rfl, by (repeat (first | with_reducible (exact Since.refl _) | with_reducible assumption | with_reducible (refine Since.drew ?_) | with_reducible (refine Since.drewN ?_ _) | with_reducible (refine Since.alloc ?_ _) | (with_reducible (refine Since.setCell ?_ ?_ _); rotate_left; focus (first | (simp; done) | (simp; omega) | omega)) | (with_reducible (refine Since.trans ?_ (by with_reducible assumption)))))⟩
  · have d1 : decide (x ≤ 131070) = false := by simpa using h1
    have HV2 := Lib.hid (show fitB false f i = false by rw [HV.out, d1, Bool.false_and])
    clear HV
    go_enter Tryz.func116, Tryz.ntmps116
    go_wp2
    go_ret
    exact ⟨by rw [HV2.out]; rfl, by (repeat (first | with_reducible (exact Since.refl _) | with_reducible assumption | with_reducible (refine Since.drew ?_) | with_reducible (refine Since.drewN ?_ _) | with_reducible (refine Since.alloc ?_ _) | (with_reducible (refine Since.setCell ?_ ?_ _); rotate_left; focus (first | (simp; done) | (simp; omega) | omega)) | (with_reducible (refine Since.trans ?_ (by with_reducible assumption)))))⟩
set_option maxHeartbeats 4000000 in
theorem lo_fit2 (i : Nat) (q : Nat) (A : Option Addr) (n c : Nat) (f : Nat → Int) (w : World) (hi : i < n) (hn : n ≤ maxLen) (hq : w.cell? ⟨q, 0, none⟩ = some (.slice A n c)) (h : Rd w w.heap.size A n (I64L f)) :
    Calls Tryz.prog 117 #[.int .i64 i, .pointer (some ⟨q, 0, none⟩)] w fun e w' => e = .returned (.bool (fitB true f i)) ∧ Since w w' := by
  have hn' : (n : Int) ≤ 9223372036854775807 := by simp only [maxLen] at hn; omega
  obtain ⟨b, o, rfl, hb, hc⟩ := h (by omega)
  have c1 : w.cell? ⟨b, o + i, none⟩ = some (.int .i64 (f i)) := hc i hi
  have i1 : (i : Int) < n := by omega
  have hv : fitB true f i = decide (f i ≤ 4294967295) := rfl
  have HV := Lib.hid hv
  clear hv
  generalize hx : f i = x at *
  clear hc h hx
  go_enter Tryz.func117, Tryz.ntmps117
  go_wp2
  go_ret
  exact ⟨by rw [HV.out]; rfl, by (repeat (first | with_reducible (exact Since.refl _) | with_reducible assumption | with_reducible (refine Since.drew ?_) | with_reducible (refine Since.drewN ?_ _) | with_reducible (refine Since.alloc ?_ _) | (with_reducible (refine Since.setCell ?_ ?_ _); rotate_left; focus (first | (simp; done) | (simp; omega) | omega)) | (with_reducible (refine Since.trans ?_ (by with_reducible assumption)))))⟩
theorem enters40 : ∀ args w, (callFunc 116 args).run Tryz.prog w = .ok (.enter 116 args) w := enters_of Tryz.func116 (by kernel_rfl) rfl
theorem enters41 : ∀ args w, (callFunc 117 args).run Tryz.prog w = .ok (.enter 117 args) w := enters_of Tryz.func117 (by kernel_rfl) rfl


set_option maxHeartbeats 8000000 in
theorem lo_check_false (A : Option Addr) (n c : Nat) (f : Nat → Int) (w : World) (hn : n ≤ maxLen) (h : Rd w w.heap.size A n (I64L f)) :
    Calls Tryz.prog 87 #[.slice A n c, .bool false] w fun e w' => e = .returned (.int .i64 (wrE false f n)) ∧ Since w w' := by
  have hmf : ∀ (fn : Fn) (first cap : Array Value) (w : World), (Instr.makeFunc fn first cap).run Tryz.prog w = .ok (.func fn first cap) w := fun _ _ _ _ => rfl
  have hn' : (n : Int) ≤ 9223372036854775807 := by simp only [maxLen] at hn; omega
  have h1 := (h.alloc (Nat.le_refl _) (.cells #[.slice A n c] 39)).more (B' := (w.alloc (.cells #[.slice A n c] 39)).heap.size) (by simp)
  have hA := lo_asc A n c f _ hn h1
  cases ha : allB (ascB f) n with
  | false =>
    have E := Lib.hid (show wrE false f n = 12 by unfold wrE; rw [ok_no ha]; rfl)
    rw [ha] at hA
    clear ha h h1
    go_enter Tryz.func87, Tryz.ntmps87
    go_wp2_with (go_at_call 115; (with_reducible refine hA.mono ?_); rintro e w1 ⟨rfl, hS1⟩)
    go_ret
    exact ⟨by rw [E.out]; rfl, by (repeat (first | with_reducible (exact Since.refl _) | with_reducible assumption | with_reducible (refine Since.drew ?_) | with_reducible (refine Since.drewN ?_ _) | with_reducible (refine Since.alloc ?_ _) | (with_reducible (refine Since.setCell ?_ ?_ _); rotate_left; focus (first | (simp; done) | (simp; omega) | omega)) | (with_reducible (refine Since.trans ?_ (by with_reducible assumption)))))⟩
  | true =>
    rw [ha] at hA
    by_cases h0 : n = 0 ∨ 0 ≤ f 0
    · have hok := ok_of ha h0
      have hW : ∀ w1, Since (w.alloc (.cells #[.slice A n c] 39)) w1 → Calls Tryz.prog 105 #[.int .i64 n, .func (.func 116) #[] #[.pointer (some ⟨w.heap.size, 0, none⟩)]] w1 fun e w' => e = .returned (.bool (allB (fitB false f) n)) ∧ Since w1 w' := fun w1 hS =>
        lo_all 116 #[.pointer (some ⟨w.heap.size, 0, none⟩)] n (fitB false f) w1 hn enters40 (fun i w2 hi hS2 => by
          have hc : w2.cell? ⟨w.heap.size, 0, none⟩ = some (.slice A n c) := ((hS.trans hS2).1 _ _ (by simp)).trans (cell_box w _ _)
          have hr := h1.on (hS.trans hS2)
          first
          | exact lo_fit1 i w.heap.size A n c f w2 hi hn hc hr
          | exact lo_fit1 i w.heap.size A n c f w2 hi hn (ok_nonneg hok hi) hc hr)
      have HW := Lib.hid hW
      have hcase : n = 0 ∨ 0 < n ∧ 0 ≤ f 0 := by omega
      clear hW h0 ha
      cases hb : allB (fitB false f) n with
      | true =>
        have E := Lib.hid (show wrE false f n = 0 by unfold wrE; rw [hok, hb]; rfl)
        have HB := Lib.hid hb
        clear hb hok
        rcases hcase with h00 | ⟨hp, h0⟩
        · have hp : ¬ 0 < n := by omega
          have hp' : ¬ (0 : Int) < n := by omega
          clear h h1 h00
          go_enter Tryz.func87, Tryz.ntmps87
          go_wp2_with (first | (go_at_call 115; (with_reducible refine hA.mono ?_); rintro e w1 ⟨rfl, hS1⟩; have hW1 := HW.out w1 hS1; rw [HB.out] at hW1; have hc1 : w1.cell? ⟨w.heap.size, 0, none⟩ = some (.slice A n c) := (hS1.1 _ _ (by simp)).trans (cell_box w _ _)) | (go_at_call 105; refine (hW1.mono ?_); rintro e w3 ⟨rfl, hS3⟩))
          go_ret
          exact ⟨by rw [E.out]; rfl, by (repeat (first | with_reducible (exact Since.refl _) | with_reducible assumption | with_reducible (refine Since.drew ?_) | with_reducible (refine Since.drewN ?_ _) | with_reducible (refine Since.alloc ?_ _) | (with_reducible (refine Since.setCell ?_ ?_ _); rotate_left; focus (first | (simp; done) | (simp; omega) | omega)) | (with_reducible (refine Since.trans ?_ (by with_reducible assumption)))))⟩
        · obtain ⟨b, o, rfl, hbl, hcc⟩ := h1 hp
          have hc0 := hcc 0 hp
          rw [Nat.add_zero] at hc0
          have hp' : (0 : Int) < n := by omega
          simp only [I64L, IntRow] at hc0
          generalize f 0 = x at *
          clear h h1 hcc
          go_enter Tryz.func87, Tryz.ntmps87
          go_wp2_with (first | (go_at_call 115; (with_reducible refine hA.mono ?_); rintro e w1 ⟨rfl, hS1⟩; have hW1 := HW.out w1 hS1; rw [HB.out] at hW1; have hc1 : w1.cell? ⟨w.heap.size, 0, none⟩ = some (.slice (some ⟨b, o, none⟩) n c) := (hS1.1 _ _ (by simp)).trans (cell_box w _ _); have hc2 : w1.cell? ⟨b, o, none⟩ = some (.int .i64 x) := (hS1.1 _ _ hbl).trans hc0) | (go_at_call 105; refine (hW1.mono ?_); rintro e w3 ⟨rfl, hS3⟩))
          go_ret
          exact ⟨by rw [E.out]; rfl, by (repeat (first | with_reducible (exact Since.refl _) | with_reducible assumption | with_reducible (refine Since.drew ?_) | with_reducible (refine Since.drewN ?_ _) | with_reducible (refine Since.alloc ?_ _) | (with_reducible (refine Since.setCell ?_ ?_ _); rotate_left; focus (first | (simp; done) | (simp; omega) | omega)) | (with_reducible (refine Since.trans ?_ (by with_reducible assumption)))))⟩
      | false =>
        have E := Lib.hid (show wrE false f n = 6 by unfold wrE; rw [hok, hb]; rfl)
        have HB := Lib.hid hb
        clear hb hok
        rcases hcase with h00 | ⟨hp, h0⟩
        · have hp : ¬ 0 < n := by omega
          have hp' : ¬ (0 : Int) < n := by omega
          clear h h1 h00
          go_enter Tryz.func87, Tryz.ntmps87
          go_wp2_with (first | (go_at_call 115; (with_reducible refine hA.mono ?_); rintro e w1 ⟨rfl, hS1⟩; have hW1 := HW.out w1 hS1; rw [HB.out] at hW1; have hc1 : w1.cell? ⟨w.heap.size, 0, none⟩ = some (.slice A n c) := (hS1.1 _ _ (by simp)).trans (cell_box w _ _)) | (go_at_call 105; refine (hW1.mono ?_); rintro e w3 ⟨rfl, hS3⟩))
          go_ret
          exact ⟨by rw [E.out]; rfl, by (repeat (first | with_reducible (exact Since.refl _) | with_reducible assumption | with_reducible (refine Since.drew ?_) | with_reducible (refine Since.drewN ?_ _) | with_reducible (refine Since.alloc ?_ _) | (with_reducible (refine Since.setCell ?_ ?_ _); rotate_left; focus (first | (simp; done) | (simp; omega) | omega)) | (with_reducible (refine Since.trans ?_ (by with_reducible assumption)))))⟩
        · obtain ⟨b, o, rfl, hbl, hcc⟩ := h1 hp
          have hc0 := hcc 0 hp
          rw [Nat.add_zero] at hc0
          have hp' : (0 : Int) < n := by omega
          simp only [I64L, IntRow] at hc0
          generalize f 0 = x at *
          clear h h1 hcc
          go_enter Tryz.func87, Tryz.ntmps87
          go_wp2_with (first | (go_at_call 115; (with_reducible refine hA.mono ?_); rintro e w1 ⟨rfl, hS1⟩; have hW1 := HW.out w1 hS1; rw [HB.out] at hW1; have hc1 : w1.cell? ⟨w.heap.size, 0, none⟩ = some (.slice (some ⟨b, o, none⟩) n c) := (hS1.1 _ _ (by simp)).trans (cell_box w _ _); have hc2 : w1.cell? ⟨b, o, none⟩ = some (.int .i64 x) := (hS1.1 _ _ hbl).trans hc0) | (go_at_call 105; refine (hW1.mono ?_); rintro e w3 ⟨rfl, hS3⟩))
          go_ret
          exact ⟨by rw [E.out]; rfl, by (repeat (first | with_reducible (exact Since.refl _) | with_reducible assumption | with_reducible (refine Since.drew ?_) | with_reducible (refine Since.drewN ?_ _) | with_reducible (refine Since.alloc ?_ _) | (with_reducible (refine Since.setCell ?_ ?_ _); rotate_left; focus (first | (simp; done) | (simp; omega) | omega)) | (with_reducible (refine Since.trans ?_ (by with_reducible assumption)))))⟩
    · have hp : 0 < n := by omega
      have h0 : f 0 < 0 := by omega
      have E := Lib.hid (show wrE false f n = 12 by unfold wrE; rw [ok_no0 hp h0]; rfl)
      obtain ⟨b, o, rfl, hbl, hcc⟩ := h1 hp
      have hc0 := hcc 0 hp
      rw [Nat.add_zero] at hc0
      have hp' : (0 : Int) < n := by omega
      simp only [I64L, IntRow] at hc0
      generalize f 0 = x at *
      clear h h1 hcc ha
      go_enter Tryz.func87, Tryz.ntmps87
      go_wp2_with (go_at_call 115; (with_reducible refine hA.mono ?_); rintro e w1 ⟨rfl, hS1⟩; have hc1 : w1.cell? ⟨w.heap.size, 0, none⟩ = some (.slice (some ⟨b, o, none⟩) n c) := (hS1.1 _ _ (by simp)).trans (cell_box w _ _); have hc2 : w1.cell? ⟨b, o, none⟩ = some (.int .i64 x) := (hS1.1 _ _ hbl).trans hc0)
      go_ret
      exact ⟨by rw [E.out]; rfl, by (repeat (first | with_reducible (exact Since.refl _) | with_reducible assumption | with_reducible (refine Since.drew ?_) | with_reducible (refine Since.drewN ?_ _) | with_reducible (refine Since.alloc ?_ _) | (with_reducible (refine Since.setCell ?_ ?_ _); rotate_left; focus (first | (simp; done) | (simp; omega) | omega)) | (with_reducible (refine Since.trans ?_ (by with_reducible assumption)))))⟩

set_option maxHeartbeats 8000000 in
theorem lo_check_true (A : Option Addr) (n c : Nat) (f : Nat → Int) (w : World) (hn : n ≤ maxLen) (h : Rd w w.heap.size A n (I64L f)) :
    Calls Tryz.prog 87 #[.slice A n c, .bool true] w fun e w' => e = .returned (.int .i64 (wrE true f n)) ∧ Since w w' := by
  have hmf : ∀ (fn : Fn) (first cap : Array Value) (w : World), (Instr.makeFunc fn first cap).run Tryz.prog w = .ok (.func fn first cap) w := fun _ _ _ _ => rfl
  have hn' : (n : Int) ≤ 9223372036854775807 := by simp only [maxLen] at hn; omega
  have h1 := (h.alloc (Nat.le_refl _) (.cells #[.slice A n c] 39)).more (B' := (w.alloc (.cells #[.slice A n c] 39)).heap.size) (by simp)
  have hA := lo_asc A n c f _ hn h1
  cases ha : allB (ascB f) n with
  | false =>
    have E := Lib.hid (show wrE true f n = 12 by unfold wrE; rw [ok_no ha]; rfl)
    rw [ha] at hA
    clear ha h h1
    go_enter Tryz.func87, Tryz.ntmps87
    go_wp2_with (go_at_call 115; (with_reducible refine hA.mono ?_); rintro e w1 ⟨rfl, hS1⟩)
    go_ret
    exact ⟨by rw [E.out]; rfl, by (repeat (first | with_reducible (exact Since.refl _) | with_reducible assumption | with_reducible (refine Since.drew ?_) | with_reducible (refine Since.drewN ?_ _) | with_reducible (refine Since.alloc ?_ _) | (with_reducible (refine Since.setCell ?_ ?_ _); rotate_left; focus (first | (simp; done) | (simp; omega) | omega)) | (with_reducible (refine Since.trans ?_ (by with_reducible assumption)))))⟩
  | true =>
    rw [ha] at hA
    by_cases h0 : n = 0 ∨ 0 ≤ f 0
    · have hok := ok_of ha h0
      have hW : ∀ w1, Since (w.alloc (.cells #[.slice A n c] 39)) w1 → Calls Tryz.prog 105 #[.int .i64 n, .func (.func 117) #[] #[.pointer (some ⟨w.heap.size, 0, none⟩)]] w1 fun e w' => e = .returned (.bool (allB (fitB true f) n)) ∧ Since w1 w' := fun w1 hS =>
        lo_all 117 #[.pointer (some ⟨w.heap.size, 0, none⟩)] n (fitB true f) w1 hn enters41 (fun i w2 hi hS2 => by
          have hc : w2.cell? ⟨w.heap.size, 0, none⟩ = some (.slice A n c) := ((hS.trans hS2).1 _ _ (by simp)).trans (cell_box w _ _)
          have hr := h1.on (hS.trans hS2)
          first
          | exact lo_fit2 i w.heap.size A n c f w2 hi hn hc hr
          | exact lo_fit2 i w.heap.size A n c f w2 hi hn (ok_nonneg hok hi) hc hr)
      have HW := Lib.hid hW
      have hcase : n = 0 ∨ 0 < n ∧ 0 ≤ f 0 := by omega
      clear hW h0 ha
      cases hb : allB (fitB true f) n with
      | true =>
        have E := Lib.hid (show wrE true f n = 0 by unfold wrE; rw [hok, hb]; rfl)
        have HB := Lib.hid hb
        clear hb hok
        rcases hcase with h00 | ⟨hp, h0⟩
        · have hp : ¬ 0 < n := by omega
          have hp' : ¬ (0 : Int) < n := by omega
          clear h h1 h00
          go_enter Tryz.func87, Tryz.ntmps87
          go_wp2_with (first | (go_at_call 115; (with_reducible refine hA.mono ?_); rintro e w1 ⟨rfl, hS1⟩; have hW1 := HW.out w1 hS1; rw [HB.out] at hW1; have hc1 : w1.cell? ⟨w.heap.size, 0, none⟩ = some (.slice A n c) := (hS1.1 _ _ (by simp)).trans (cell_box w _ _)) | (go_at_call 105; refine (hW1.mono ?_); rintro e w3 ⟨rfl, hS3⟩))
          go_ret
          exact ⟨by rw [E.out]; rfl, by (repeat (first | with_reducible (exact Since.refl _) | with_reducible assumption | with_reducible (refine Since.drew ?_) | with_reducible (refine Since.drewN ?_ _) | with_reducible (refine Since.alloc ?_ _) | (with_reducible (refine Since.setCell ?_ ?_ _); rotate_left; focus (first | (simp; done) | (simp; omega) | omega)) | (with_reducible (refine Since.trans ?_ (by with_reducible assumption)))))⟩
        · obtain ⟨b, o, rfl, hbl, hcc⟩ := h1 hp
          have hc0 := hcc 0 hp
          rw [Nat.add_zero] at hc0
          have hp' : (0 : Int) < n := by omega
          simp only [I64L, IntRow] at hc0
          generalize f 0 = x at *
          clear h h1 hcc
          go_enter Tryz.func87, Tryz.ntmps87
          go_wp2_with (first | (go_at_call 115; (with_reducible refine hA.mono ?_); rintro e w1 ⟨rfl, hS1⟩; have hW1 := HW.out w1 hS1; rw [HB.out] at hW1; have hc1 : w1.cell? ⟨w.heap.size, 0, none⟩ = some (.slice (some ⟨b, o, none⟩) n c) := (hS1.1 _ _ (by simp)).trans (cell_box w _ _); have hc2 : w1.cell? ⟨b, o, none⟩ = some (.int .i64 x) := (hS1.1 _ _ hbl).trans hc0) | (go_at_call 105; refine (hW1.mono ?_); rintro e w3 ⟨rfl, hS3⟩))
          go_ret
          exact ⟨by rw [E.out]; rfl, by (repeat (first | with_reducible (exact Since.refl _) | with_reducible assumption | with_reducible (refine Since.drew ?_) | with_reducible (refine Since.drewN ?_ _) | with_reducible (refine Since.alloc ?_ _) | (with_reducible (refine Since.setCell ?_ ?_ _); rotate_left; focus (first | (simp; done) | (simp; omega) | omega)) | (with_reducible (refine Since.trans ?_ (by with_reducible assumption)))))⟩
      | false =>
        have E := Lib.hid (show wrE true f n = 6 by unfold wrE; rw [hok, hb]; rfl)
        have HB := Lib.hid hb
        clear hb hok
        rcases hcase with h00 | ⟨hp, h0⟩
        · have hp : ¬ 0 < n := by omega
          have hp' : ¬ (0 : Int) < n := by omega
          clear h h1 h00
          go_enter Tryz.func87, Tryz.ntmps87
          go_wp2_with (first | (go_at_call 115; (with_reducible refine hA.mono ?_); rintro e w1 ⟨rfl, hS1⟩; have hW1 := HW.out w1 hS1; rw [HB.out] at hW1; have hc1 : w1.cell? ⟨w.heap.size, 0, none⟩ = some (.slice A n c) := (hS1.1 _ _ (by simp)).trans (cell_box w _ _)) | (go_at_call 105; refine (hW1.mono ?_); rintro e w3 ⟨rfl, hS3⟩))
          go_ret
          exact ⟨by rw [E.out]; rfl, by (repeat (first | with_reducible (exact Since.refl _) | with_reducible assumption | with_reducible (refine Since.drew ?_) | with_reducible (refine Since.drewN ?_ _) | with_reducible (refine Since.alloc ?_ _) | (with_reducible (refine Since.setCell ?_ ?_ _); rotate_left; focus (first | (simp; done) | (simp; omega) | omega)) | (with_reducible (refine Since.trans ?_ (by with_reducible assumption)))))⟩
        · obtain ⟨b, o, rfl, hbl, hcc⟩ := h1 hp
          have hc0 := hcc 0 hp
          rw [Nat.add_zero] at hc0
          have hp' : (0 : Int) < n := by omega
          simp only [I64L, IntRow] at hc0
          generalize f 0 = x at *
          clear h h1 hcc
          go_enter Tryz.func87, Tryz.ntmps87
          go_wp2_with (first | (go_at_call 115; (with_reducible refine hA.mono ?_); rintro e w1 ⟨rfl, hS1⟩; have hW1 := HW.out w1 hS1; rw [HB.out] at hW1; have hc1 : w1.cell? ⟨w.heap.size, 0, none⟩ = some (.slice (some ⟨b, o, none⟩) n c) := (hS1.1 _ _ (by simp)).trans (cell_box w _ _); have hc2 : w1.cell? ⟨b, o, none⟩ = some (.int .i64 x) := (hS1.1 _ _ hbl).trans hc0) | (go_at_call 105; refine (hW1.mono ?_); rintro e w3 ⟨rfl, hS3⟩))
          go_ret
          exact ⟨by rw [E.out]; rfl, by (repeat (first | with_reducible (exact Since.refl _) | with_reducible assumption | with_reducible (refine Since.drew ?_) | with_reducible (refine Since.drewN ?_ _) | with_reducible (refine Since.alloc ?_ _) | (with_reducible (refine Since.setCell ?_ ?_ _); rotate_left; focus (first | (simp; done) | (simp; omega) | omega)) | (with_reducible (refine Since.trans ?_ (by with_reducible assumption)))))⟩
    · have hp : 0 < n := by omega
      have h0 : f 0 < 0 := by omega
      have E := Lib.hid (show wrE true f n = 12 by unfold wrE; rw [ok_no0 hp h0]; rfl)
      obtain ⟨b, o, rfl, hbl, hcc⟩ := h1 hp
      have hc0 := hcc 0 hp
      rw [Nat.add_zero] at hc0
      have hp' : (0 : Int) < n := by omega
      simp only [I64L, IntRow] at hc0
      generalize f 0 = x at *
      clear h h1 hcc ha
      go_enter Tryz.func87, Tryz.ntmps87
      go_wp2_with (go_at_call 115; (with_reducible refine hA.mono ?_); rintro e w1 ⟨rfl, hS1⟩; have hc1 : w1.cell? ⟨w.heap.size, 0, none⟩ = some (.slice (some ⟨b, o, none⟩) n c) := (hS1.1 _ _ (by simp)).trans (cell_box w _ _); have hc2 : w1.cell? ⟨b, o, none⟩ = some (.int .i64 x) := (hS1.1 _ _ hbl).trans hc0)
      go_ret
      exact ⟨by rw [E.out]; rfl, by (repeat (first | with_reducible (exact Since.refl _) | with_reducible assumption | with_reducible (refine Since.drew ?_) | with_reducible (refine Since.drewN ?_ _) | with_reducible (refine Since.alloc ?_ _) | (with_reducible (refine Since.setCell ?_ ?_ _); rotate_left; focus (first | (simp; done) | (simp; omega) | omega)) | (with_reducible (refine Since.trans ?_ (by with_reducible assumption)))))⟩


end Go.Proofs.YteckkcpnfeoehaaGreatDoor

/-
  Layer 6: 'Write', walked, program and reference.
-/
namespace Go.Proofs.YteckkcpnfeoehaaGreatDoor
set_option maxRecDepth 100000
open Go.RowKit
set_option linter.unusedVariables false

theorem wrE_cases (l : Bool) (f : Nat → Int) (n : Nat) : wrE l f n = 0 ∨ wrE l f n = 6 ∨ wrE l f n = 12 := by unfold wrE; split <;> (try split) <;> simp
theorem wr_ok {l : Bool} {f : Nat → Int} {n : Nat} (h : wrE l f n = 0) : allB (okB f) n = true ∧ allB (fitB l f) n = true := by
  unfold wrE at h
  split at h
  · split at h
    · exact ⟨by assumption, by assumption⟩
    · cases h
  · cases h
def wrF (l : Bool) (f : Nat → Int) (q : Nat) : Int := byteOf (f (q / wide4 l) / times1 l) (wide4 l) (q % wide4 l)
def wrN (l : Bool) (f : Nat → Int) (n : Nat) : Nat := if wrE l f n = 0 then wide4 l * n else 0
theorem own_low {w : World} {B B' n k : Nat} {e : TypeId} {v : Value} {xs : List Value} (h : w.ownsRow B e k v n xs) (hB : B' ≤ B) : w.ownsRow B' e k v n xs := by
  refine ⟨h.1, ?_⟩
  rcases h.2 with h0 | ⟨g, cap, cur, e1, hb, r⟩
  · exact .inl h0
  · exact .inr ⟨g, cap, cur, e1, Nat.le_trans hB hb, r⟩
theorem own_rd {w : World} {base n c : Nat} {e : TypeId} {A : Option Addr} {V : Nat → Value} (h : w.ownsRow base e 1 (.slice A n c) n (tab n V)) : n ≤ c ∧ Rd w w.heap.size A n V ∧ (∀ k, (Value.slice A n c).ownBlock = some k → base ≤ k) := by
  obtain ⟨A', c', e', hc, hr, hb⟩ := own_any h
  injection e' with e1 _ e3
  subst e1; subst e3
  exact ⟨hc, hr, hb⟩
/-- What 'Write' leaves. -/
def WrPost (l : Bool) (f : Nat → Int) (n : Nat) (w : World) (e : Ending) (w' : World) : Prop := ∃ A' c, e = .returned (.tuple #[.slice A' (wrN l f n) c, .int .i64 (wrE l f n)]) ∧ w'.ownsRow w.heap.size 5 1 (.slice A' (wrN l f n) c) (wrN l f n) (tab (wrN l f n) (U8 (wrF l f))) ∧ Since w w'
theorem wr_post {f : Nat → Int} {n B : Nat} {l : Bool} {E : Int} {M c : Nat} {A' : Option Addr} {w w' : World} (hE : wrE l f n = E) (hM : M = if E = 0 then wide4 l * n else 0) (ho : w'.ownsRow B 5 1 (.slice A' M c) M (tab M (U8 (wrF l f)))) (hB : w.heap.size ≤ B) (hS : Since w w') :
    WrPost l f n w (.returned (.tuple #[.slice A' M c, .int .i64 E])) w' := by
  subst hE
  have e : wrN l f n = M := hM.symm
  unfold WrPost
  rw [e]
  exact ⟨A', c, rfl, own_low ho hB, hS⟩
theorem put_inL (m : Nat) (x y : Int) (w : World) (hx : In64 x) (hy : y = m) (hm : m ≤ 8) : Calls Tryz.prog 64 #[.int .i64 x, .int .i64 y] w fun e w' => ∃ g, e = .returned (.slice (some ⟨g, 0, none⟩) m m) ∧ w.heap.size ≤ g ∧ Row w' g m (U8 (byteOf x m)) ∧ Since w w' := by
  subst hy
  have hc : clampW m = m := by unfold clampW; split <;> (try split) <;> omega
  have h := be_put x m w hx (by unfold In64; omega)
  rw [hc] at h
  exact h
theorem rput_inL (m : Nat) (x y : Int) (w : World) (hx : In64 x) (hy : y = m) (hm : m ≤ 8) : Calls Tryz.prog 83 #[.int .i64 x, .int .i64 y] w fun e w' => ∃ g, e = .returned (.slice (some ⟨g, 0, none⟩) m m) ∧ w.heap.size ≤ g ∧ Row w' g m (U8 (byteOf x m)) ∧ Since w w' := by
  subst hy
  have hc : clampW m = m := by unfold clampW; split <;> (try split) <;> omega
  have h := ref_put x m w hx (by unfold In64; omega)
  rw [hc] at h
  exact h

theorem wr_next2 (j : Nat) (f : Nat → Int) (x : Int) (hx : x = f j / 2) : tab (2 * j) (U8 (wrF false f)) ++ tab 2 (U8 (byteOf x 2)) = tab (2 * (j + 1)) (U8 (wrF false f)) := by
  rw [tab_append, show 2 * (j + 1) = 2 * j + 2 by omega]
  refine tab_congr fun t ht => ?_
  by_cases htn : t < 2 * j
  · rw [if_pos htn]
  · rw [if_neg htn]
    have e1 : t / 2 = j := by omega
    have e2 : t % 2 = t - 2 * j := by omega
    subst hx
    simp only [U8, IntRow, wrF]
    rw [show wide4 false = 2 from rfl, e1, e2]
    rfl
set_option maxHeartbeats 8000000 in
theorem lo_write2 (A : Option Addr) (n c : Nat) (f : Nat → Int) (w : World) (hn : n * 8 ≤ 140737488355328) (hf : ∀ j, j < n → In64 (f j)) (h : Rd w w.heap.size A n (I64L f)) :
    Calls Tryz.prog 59 #[.slice A n c, .bool false] w (WrPost false f n w) := by
  obtain ⟨i0, hi0, hz0, hz1, hz2⟩ := info_parts Tryz.info_u8
  have hC := lo_check_false A n c f w (by simp only [maxLen]; omega) h
  have hr := wrE_cases false f n
  obtain ⟨E, hE⟩ : ∃ E, wrE false f n = E := ⟨_, rfl⟩
  rw [hE] at hC hr
  have HE := Lib.hid hE
  clear hE
  rcases hr with rfl | rfl | rfl
  · have hok := wr_ok HE.out
    have HK := Lib.hid hok.1
    clear hok
    have hn' : (n : Int) ≤ 17592186044416 := by omega
    have hcap : (2 : Int) * (n : Int) = ((2 * n : Nat) : Int) := by simp
    have b2 : i0.bytes * (2 * n) ≤ 281474976710656 := by rw [hz2]; omega
    have b3 : 2 * n ≤ maxLen := by simp only [maxLen]; omega
    have HC := Lib.hid hcap; clear hcap
    go_enter Tryz.func59, Tryz.ntmps59
    go_wp2_with (first | (go_at_call 87; (with_reducible refine hC.mono ?_); rintro e w1 ⟨rfl, hS1⟩) | (go_at_call 104; (with_reducible refine (lo_layout2 _).mono ?_); rintro e w1 ⟨rfl, rfl⟩) | (at_make; refine wpList_make_own _ (by rfl) _ _ _ (by rfl) w1.heap.size 5 i0 _ 1 Tryz.underlying34 hi0 hz0 hz1 .i64 .i64 _ (2 * n) (by rfl) (by rfl) HC.out b2 b3 (Nat.le_refl _) ?_; intro w2 hown2 hgr2; have hS2 := since_grown (Since.refl w1) hgr2 (fun k hk => by cases hk)))
    have hL := h.on hS1
    clear hgr2 h
    go_loopw [9, 30] (fun v y wr => ∃ j : Nat, j ≤ n ∧ y = .int .i64 (j : Int) ∧ Since w1 wr ∧ wr.ownsRow w1.heap.size 5 1 v (2 * j) (tab (2 * j) (U8 (wrF false f)))) (fun _ y _ => n - (intOf y).toNat)
    case atStart => exact ⟨0, by omega, rfl, hS2, hown2⟩
    case round =>
      obtain ⟨j, hj, rfl, hSr, hown⟩ := hrel
      clear hown2
      obtain ⟨vA, vc, rfl, hvc, hvr, hvb⟩ := own_any hown
      by_cases hjn : j < n
      · have hjn' : (j : Int) < n := by omega
        obtain ⟨b, o, rfl, hb, hc⟩ := hL (by omega)
        have hx : wr.cell? ⟨b, o + j, none⟩ = some (.int .i64 (f j)) := (hSr.1 _ _ hb).trans (hc j hjn)
        have hx0 : 0 ≤ f j := ok_nonneg HK.out hjn
        have hx1 := (hf j hjn).2
        have HX := Lib.hid (show f j = f j from rfl)
        obtain ⟨x, hxx⟩ : ∃ x, f j = x := ⟨_, rfl⟩
        have HXX := Lib.hid (show x = f j from hxx.symm)
        rw [hxx] at hx hx0 hx1
        have q3 : (2 * j + 2) * 1 ≤ 140737488355328 := by omega
        have q4 : 2 * j + 2 ≤ maxLen := by simp only [maxLen]; omega
        clear hxx hc hL HX hC
        go_wp2_with (first | (go_at_call 64; refine (put_inL 2 _ _ _ (by unfold In64; omega) (by rfl) (by omega)).mono ?_; rintro e w4 ⟨g, rfl, hg, hR4, hS4⟩; have hown4 := own_since hown hS4; clear hvr hown; have hq := Rd.of_row hR4; have hS14 := hSr.trans hS4; have hq5 : w1.heap.size ≤ w4.heap.size := hS14.below.size) | (at_builtin; refine wpList_append_any _ (by rfl) _ _ _ (by rfl) w1.heap.size 5 i0 _ 1 Tryz.underlying34 hi0 hz0 hz1 hz2 (by rfl) _ (2 * j) _ (by rfl) hown4 w4.heap.size _ 2 2 _ (by rfl) hq tab_ones q3 q4 hq5 ?_; intro v' w5 hown5 hgr5; have hS5 := since_grown hS14 hgr5 hvb))
        refine ⟨⟨j + 1, by omega, by simp, hS5, ?_⟩, by simp [intOf]; omega⟩
        rw [wr_next2 j f _ (by simp [HXX.out])] at hown5
        exact hown5
      · obtain rfl : j = n := by omega
        clear hL hC
        go_wp2
        go_ret2
        exact wr_post HE.out rfl hown hS1.below.size (hS1.trans hSr)
  all_goals
    clear h
    go_enter Tryz.func59, Tryz.ntmps59
    go_wp2_with (go_at_call 87; (with_reducible refine hC.mono ?_); rintro e w1 ⟨rfl, hS1⟩)
    go_ret2
    exact wr_post HE.out rfl (World.ownsRow_nil _ _ _ _) (Nat.le_refl _) hS1

theorem wr_next4 (j : Nat) (f : Nat → Int) (x : Int) (hx : x = f j / 1) : tab (4 * j) (U8 (wrF true f)) ++ tab 4 (U8 (byteOf x 4)) = tab (4 * (j + 1)) (U8 (wrF true f)) := by
  rw [tab_append, show 4 * (j + 1) = 4 * j + 4 by omega]
  refine tab_congr fun t ht => ?_
  by_cases htn : t < 4 * j
  · rw [if_pos htn]
  · rw [if_neg htn]
    have e1 : t / 4 = j := by omega
    have e2 : t % 4 = t - 4 * j := by omega
    subst hx
    simp only [U8, IntRow, wrF]
    rw [show wide4 true = 4 from rfl, e1, e2]
    rfl
set_option maxHeartbeats 8000000 in
theorem lo_write4 (A : Option Addr) (n c : Nat) (f : Nat → Int) (w : World) (hn : n * 8 ≤ 140737488355328) (hf : ∀ j, j < n → In64 (f j)) (h : Rd w w.heap.size A n (I64L f)) :
    Calls Tryz.prog 59 #[.slice A n c, .bool true] w (WrPost true f n w) := by
  obtain ⟨i0, hi0, hz0, hz1, hz2⟩ := info_parts Tryz.info_u8
  have hC := lo_check_true A n c f w (by simp only [maxLen]; omega) h
  have hr := wrE_cases true f n
  obtain ⟨E, hE⟩ : ∃ E, wrE true f n = E := ⟨_, rfl⟩
  rw [hE] at hC hr
  have HE := Lib.hid hE
  clear hE
  rcases hr with rfl | rfl | rfl
  · have hok := wr_ok HE.out
    have HK := Lib.hid hok.1
    clear hok
    have hn' : (n : Int) ≤ 17592186044416 := by omega
    have hcap : (4 : Int) * (n : Int) = ((4 * n : Nat) : Int) := by simp
    have b2 : i0.bytes * (4 * n) ≤ 281474976710656 := by rw [hz2]; omega
    have b3 : 4 * n ≤ maxLen := by simp only [maxLen]; omega
    have HC := Lib.hid hcap; clear hcap
    go_enter Tryz.func59, Tryz.ntmps59
    go_wp2_with (first | (go_at_call 87; (with_reducible refine hC.mono ?_); rintro e w1 ⟨rfl, hS1⟩) | (go_at_call 104; (with_reducible refine (lo_layout4 _).mono ?_); rintro e w1 ⟨rfl, rfl⟩) | (at_make; refine wpList_make_own _ (by rfl) _ _ _ (by rfl) w1.heap.size 5 i0 _ 1 Tryz.underlying34 hi0 hz0 hz1 .i64 .i64 _ (4 * n) (by rfl) (by rfl) HC.out b2 b3 (Nat.le_refl _) ?_; intro w2 hown2 hgr2; have hS2 := since_grown (Since.refl w1) hgr2 (fun k hk => by cases hk)))
    have hL := h.on hS1
    clear hgr2 h
    go_loopw [9, 30] (fun v y wr => ∃ j : Nat, j ≤ n ∧ y = .int .i64 (j : Int) ∧ Since w1 wr ∧ wr.ownsRow w1.heap.size 5 1 v (4 * j) (tab (4 * j) (U8 (wrF true f)))) (fun _ y _ => n - (intOf y).toNat)
    case atStart => exact ⟨0, by omega, rfl, hS2, hown2⟩
    case round =>
      obtain ⟨j, hj, rfl, hSr, hown⟩ := hrel
      clear hown2
      obtain ⟨vA, vc, rfl, hvc, hvr, hvb⟩ := own_any hown
      by_cases hjn : j < n
      · have hjn' : (j : Int) < n := by omega
        obtain ⟨b, o, rfl, hb, hc⟩ := hL (by omega)
        have hx : wr.cell? ⟨b, o + j, none⟩ = some (.int .i64 (f j)) := (hSr.1 _ _ hb).trans (hc j hjn)
        have hx0 : 0 ≤ f j := ok_nonneg HK.out hjn
        have hx1 := (hf j hjn).2
        have HX := Lib.hid (show f j = f j from rfl)
        obtain ⟨x, hxx⟩ : ∃ x, f j = x := ⟨_, rfl⟩
        have HXX := Lib.hid (show x = f j from hxx.symm)
        rw [hxx] at hx hx0 hx1
        have q3 : (4 * j + 4) * 1 ≤ 140737488355328 := by omega
        have q4 : 4 * j + 4 ≤ maxLen := by simp only [maxLen]; omega
        clear hxx hc hL HX hC
        go_wp2_with (first | (go_at_call 64; refine (put_inL 4 _ _ _ (by unfold In64; omega) (by rfl) (by omega)).mono ?_; rintro e w4 ⟨g, rfl, hg, hR4, hS4⟩; have hown4 := own_since hown hS4; clear hvr hown; have hq := Rd.of_row hR4; have hS14 := hSr.trans hS4; have hq5 : w1.heap.size ≤ w4.heap.size := hS14.below.size) | (at_builtin; refine wpList_append_any _ (by rfl) _ _ _ (by rfl) w1.heap.size 5 i0 _ 1 Tryz.underlying34 hi0 hz0 hz1 hz2 (by rfl) _ (4 * j) _ (by rfl) hown4 w4.heap.size _ 4 4 _ (by rfl) hq tab_ones q3 q4 hq5 ?_; intro v' w5 hown5 hgr5; have hS5 := since_grown hS14 hgr5 hvb))
        refine ⟨⟨j + 1, by omega, by simp, hS5, ?_⟩, by simp [intOf]; omega⟩
        rw [wr_next4 j f _ (by simp [HXX.out])] at hown5
        exact hown5
      · obtain rfl : j = n := by omega
        clear hL hC
        go_wp2
        go_ret2
        exact wr_post HE.out rfl hown hS1.below.size (hS1.trans hSr)
  all_goals
    clear h
    go_enter Tryz.func59, Tryz.ntmps59
    go_wp2_with (go_at_call 87; (with_reducible refine hC.mono ?_); rintro e w1 ⟨rfl, hS1⟩)
    go_ret2
    exact wr_post HE.out rfl (World.ownsRow_nil _ _ _ _) (Nat.le_refl _) hS1


theorem fit_is2 (f : Nat → Int) (j : Nat) : fitB false f j = (if false then decide (f j ≤ 4294967295) else (decide (f j ≤ 131070) && decide (f j % 2 = 0))) := rfl
set_option maxHeartbeats 8000000 in
theorem ref_write2 (A : Option Addr) (n c : Nat) (f : Nat → Int) (w : World) (hn : n * 8 ≤ 140737488355328) (hf : ∀ j, j < n → In64 (f j)) (h : Rd w w.heap.size A n (I64L f)) :
    Calls Tryz.prog 72 #[.slice A n c, .bool false] w (WrPost false f n w) := by
  obtain ⟨i0, hi0, hz0, hz1, hz2⟩ := info_parts Tryz.info_u8
  have hn' : (n : Int) ≤ 17592186044416 := by omega
  go_enter Tryz.func72, Tryz.ntmps72
  go_wp2
  go_loopw [13] (fun y wr => ∃ j : Nat, j ≤ n ∧ y = .int .i64 (j : Int) ∧ w = wr ∧ allB (okB f) j = true) (fun y _ => n - (intOf y).toNat)
  case atStart => exact ⟨0, by omega, rfl, rfl, rfl⟩
  case round =>
    obtain ⟨j, hj, rfl, rfl, hall⟩ := hrel
    have HA := Lib.hid hall; clear hall
    by_cases hjn : j < n
    · have hjn' : (j : Int) < n := by omega
      obtain ⟨b, o, rfl, hb, hc⟩ := h (by omega)
      have hx : w.cell? ⟨b, o + j, none⟩ = some (.int .i64 (f j)) := hc j hjn
      obtain ⟨x, hxx⟩ : ∃ x, f j = x := ⟨_, rfl⟩
      by_cases hx0 : x < 0
      · have hno : okB f j = false := by unfold okB; rw [hxx, decide_eq_false (by omega), Bool.false_and]
        have E := Lib.hid (show wrE false f n = 12 by unfold wrE; rw [allB_no hno hjn]; rfl)
        rw [hxx] at hx
        clear hc hxx hno h
        go_wp2
        go_ret2
        exact wr_post E.out rfl (World.ownsRow_nil _ _ _ _) (Nat.le_refl _) (Since.refl _)
      · by_cases hj0 : j = 0
        · have HB := Lib.hid (show okB f j = true by unfold okB; rw [hxx, decide_eq_true (by omega), hj0, asc_zero]; rfl)
          have hj0' : ¬ (0 : Int) < j := by omega
          rw [hxx] at hx
          clear hc hxx h hj0
          go_wp2
          refine ⟨⟨j + 1, by omega, by simp, by first | rfl | trivial, allB_next HA.out HB.out⟩, by simp [intOf]; omega⟩
        · have hy : w.cell? ⟨b, o + (j - 1), none⟩ = some (.int .i64 (f (j - 1))) := hc (j - 1) (by omega)
          obtain ⟨i, hi⟩ : ∃ i, j = i + 1 := ⟨j - 1, by omega⟩
          have hB := asc_next f i
          rw [← hi, hxx, show i = j - 1 by omega] at hB
          obtain ⟨y, hyy⟩ : ∃ y, f (j - 1) = y := ⟨_, rfl⟩
          rw [hyy] at hy hB
          rw [hxx] at hx
          have hj0' : (0 : Int) < j := by omega
          have hj1' : (1 : Int) ≤ j := by omega
          clear hyy hi hc h hj0 i
          by_cases hlt : y ≤ x
          · have HB := Lib.hid (show okB f j = true by unfold okB; rw [hxx, hB, decide_eq_true (by omega), decide_eq_true hlt]; rfl)
            clear hB hxx
            go_wp2
            refine ⟨⟨j + 1, by omega, by simp, by first | rfl | trivial, allB_next HA.out HB.out⟩, by simp [intOf]; omega⟩
          · have hno : okB f j = false := by unfold okB; rw [hB, decide_eq_false hlt, Bool.and_false]
            have E := Lib.hid (show wrE false f n = 12 by unfold wrE; rw [allB_no hno hjn]; rfl)
            clear hB hxx hno
            go_wp2
            go_ret2
            exact wr_post E.out rfl (World.ownsRow_nil _ _ _ _) (Nat.le_refl _) (Since.refl _)
    · obtain rfl : j = n := by omega
      go_wp2
      go_loopw [8, 36] (fun v y wr => ∃ i : Nat, i ≤ j ∧ y = .int .i64 (i : Int) ∧ Since w wr ∧ wr.ownsRow w.heap.size 5 1 v (2 * i) (tab (2 * i) (U8 (wrF false f))) ∧ allB (fitB false f) i = true) (fun _ y _ => j - (intOf y).toNat)
      case atStart => exact ⟨0, by omega, rfl, Since.refl _, World.ownsRow_nil _ _ _ _, rfl⟩
      case round =>
        obtain ⟨i, hi, rfl, hSr, hown, hall⟩ := hrel
        have HF := Lib.hid hall; clear hall
        obtain ⟨vA, vc, rfl, hvc, hvr, hvb⟩ := own_any hown
        by_cases hin : i < j
        · have hin' : (i : Int) < j := by omega
          obtain ⟨b, o, rfl, hb, hc⟩ := h (by omega)
          have hx : wr.cell? ⟨b, o + i, none⟩ = some (.int .i64 (f i)) := (hSr.1 _ _ hb).trans (hc i hin)
          have hx0 : 0 ≤ f i := ok_nonneg HA.out hin
          have hx1 := (hf i hin).2
          obtain ⟨x, hxx⟩ : ∃ x, f i = x := ⟨_, rfl⟩
          have HXX := Lib.hid (show x = f i from hxx.symm)
          have hfit := fit_is2 f i
          rw [hxx] at hx hx0 hx1 hfit
          clear hxx hc h hf
          by_cases hle : x ≤ 131070
          · by_cases hev : false = true ∨ x % 2 = 0
            rotate_left
            · first
              | exact absurd (Or.inl rfl) hev
              | (have hev3 : ¬ x % 2 = 0 := fun h => hev (.inr h)
                 have hno : fitB false f i = false := by rw [hfit]; simp; omega
                 have E := Lib.hid (show wrE false f j = 6 by unfold wrE; rw [HA.out, allB_no hno hin]; rfl)
                 have hev' : (x % 2 != 0) = true := by simp; omega
                 have hev2 : decide (x % 2 = 0) = false := by simp; omega
                 clear hfit hno hev hev3
                 go_wp2
                 go_ret2
                 exact wr_post E.out rfl (World.ownsRow_nil _ _ _ _) (Nat.le_refl _) hSr)
            try (have hev2 : (x % 2 != 0) = false := by (rcases hev with h | h; · cases h); simp [h])
            try (have hev3 : decide (x % 2 = 0) = true := by (rcases hev with h | h; · cases h); simp [h])
            have HB := Lib.hid (show fitB false f i = true by rw [hfit]; simp at hev ⊢ <;> omega)
            have q3 : (2 * i + 2) * 1 ≤ 140737488355328 := by omega
            have q4 : 2 * i + 2 ≤ maxLen := by simp only [maxLen]; omega
            clear hfit
            go_wp2_with (first | (go_at_call 83; refine (rput_inL 2 _ _ _ (by unfold In64; omega) (by rfl) (by omega)).mono ?_; rintro e w4 ⟨g, rfl, hg, hR4, hS4⟩; have hown4 := own_since hown hS4; clear hvr hown; have hq := Rd.of_row hR4; have hS14 := hSr.trans hS4; have hq5 : w.heap.size ≤ w4.heap.size := hS14.below.size) | (at_builtin; refine wpList_append_any _ (by rfl) _ _ _ (by rfl) w.heap.size 5 i0 _ 1 Tryz.underlying34 hi0 hz0 hz1 hz2 (by rfl) _ (2 * i) _ (by rfl) hown4 w4.heap.size _ 2 2 _ (by rfl) hq tab_ones q3 q4 hq5 ?_; intro v' w5 hown5 hgr5; have hS5 := since_grown hS14 hgr5 hvb))
            refine ⟨⟨i + 1, by omega, by simp, hS5, ?_, allB_next HF.out HB.out⟩, by simp [intOf]; omega⟩
            rw [wr_next2 i f _ (by simp [HXX.out])] at hown5
            exact hown5
          · have hno : fitB false f i = false := by rw [hfit]; simp; omega
            have E := Lib.hid (show wrE false f j = 6 by unfold wrE; rw [HA.out, allB_no hno hin]; rfl)
            clear hfit hno
            go_wp2
            all_goals
              go_ret2
              exact wr_post E.out rfl (World.ownsRow_nil _ _ _ _) (Nat.le_refl _) hSr
        · obtain rfl : i = j := by omega
          have E := Lib.hid (show wrE false f i = 0 by unfold wrE; rw [HA.out, HF.out]; rfl)
          clear h hf
          go_wp2
          go_ret2
          exact wr_post E.out rfl hown (Nat.le_refl _) hSr

theorem fit_is4 (f : Nat → Int) (j : Nat) : fitB true f j = (if true then decide (f j ≤ 4294967295) else (decide (f j ≤ 131070) && decide (f j % 2 = 0))) := rfl
set_option maxHeartbeats 8000000 in
theorem ref_write4 (A : Option Addr) (n c : Nat) (f : Nat → Int) (w : World) (hn : n * 8 ≤ 140737488355328) (hf : ∀ j, j < n → In64 (f j)) (h : Rd w w.heap.size A n (I64L f)) :
    Calls Tryz.prog 72 #[.slice A n c, .bool true] w (WrPost true f n w) := by
  obtain ⟨i0, hi0, hz0, hz1, hz2⟩ := info_parts Tryz.info_u8
  have hn' : (n : Int) ≤ 17592186044416 := by omega
  go_enter Tryz.func72, Tryz.ntmps72
  go_wp2
  go_loopw [13] (fun y wr => ∃ j : Nat, j ≤ n ∧ y = .int .i64 (j : Int) ∧ w = wr ∧ allB (okB f) j = true) (fun y _ => n - (intOf y).toNat)
  case atStart => exact ⟨0, by omega, rfl, rfl, rfl⟩
  case round =>
    obtain ⟨j, hj, rfl, rfl, hall⟩ := hrel
    have HA := Lib.hid hall; clear hall
    by_cases hjn : j < n
    · have hjn' : (j : Int) < n := by omega
      obtain ⟨b, o, rfl, hb, hc⟩ := h (by omega)
      have hx : w.cell? ⟨b, o + j, none⟩ = some (.int .i64 (f j)) := hc j hjn
      obtain ⟨x, hxx⟩ : ∃ x, f j = x := ⟨_, rfl⟩
      by_cases hx0 : x < 0
      · have hno : okB f j = false := by unfold okB; rw [hxx, decide_eq_false (by omega), Bool.false_and]
        have E := Lib.hid (show wrE true f n = 12 by unfold wrE; rw [allB_no hno hjn]; rfl)
        rw [hxx] at hx
        clear hc hxx hno h
        go_wp2
        go_ret2
        exact wr_post E.out rfl (World.ownsRow_nil _ _ _ _) (Nat.le_refl _) (Since.refl _)
      · by_cases hj0 : j = 0
        · have HB := Lib.hid (show okB f j = true by unfold okB; rw [hxx, decide_eq_true (by omega), hj0, asc_zero]; rfl)
          have hj0' : ¬ (0 : Int) < j := by omega
          rw [hxx] at hx
          clear hc hxx h hj0
          go_wp2
          refine ⟨⟨j + 1, by omega, by simp, by first | rfl | trivial, allB_next HA.out HB.out⟩, by simp [intOf]; omega⟩
        · have hy : w.cell? ⟨b, o + (j - 1), none⟩ = some (.int .i64 (f (j - 1))) := hc (j - 1) (by omega)
          obtain ⟨i, hi⟩ : ∃ i, j = i + 1 := ⟨j - 1, by omega⟩
          have hB := asc_next f i
          rw [← hi, hxx, show i = j - 1 by omega] at hB
          obtain ⟨y, hyy⟩ : ∃ y, f (j - 1) = y := ⟨_, rfl⟩
          rw [hyy] at hy hB
          rw [hxx] at hx
          have hj0' : (0 : Int) < j := by omega
          have hj1' : (1 : Int) ≤ j := by omega
          clear hyy hi hc h hj0 i
          by_cases hlt : y ≤ x
          · have HB := Lib.hid (show okB f j = true by unfold okB; rw [hxx, hB, decide_eq_true (by omega), decide_eq_true hlt]; rfl)
            clear hB hxx
            go_wp2
            refine ⟨⟨j + 1, by omega, by simp, by first | rfl | trivial, allB_next HA.out HB.out⟩, by simp [intOf]; omega⟩
          · have hno : okB f j = false := by unfold okB; rw [hB, decide_eq_false hlt, Bool.and_false]
            have E := Lib.hid (show wrE true f n = 12 by unfold wrE; rw [allB_no hno hjn]; rfl)
            clear hB hxx hno
            go_wp2
            go_ret2
            exact wr_post E.out rfl (World.ownsRow_nil _ _ _ _) (Nat.le_refl _) (Since.refl _)
    · obtain rfl : j = n := by omega
      go_wp2
      go_loopw [8, 36] (fun v y wr => ∃ i : Nat, i ≤ j ∧ y = .int .i64 (i : Int) ∧ Since w wr ∧ wr.ownsRow w.heap.size 5 1 v (4 * i) (tab (4 * i) (U8 (wrF true f))) ∧ allB (fitB true f) i = true) (fun _ y _ => j - (intOf y).toNat)
      case atStart => exact ⟨0, by omega, rfl, Since.refl _, World.ownsRow_nil _ _ _ _, rfl⟩
      case round =>
        obtain ⟨i, hi, rfl, hSr, hown, hall⟩ := hrel
        have HF := Lib.hid hall; clear hall
        obtain ⟨vA, vc, rfl, hvc, hvr, hvb⟩ := own_any hown
        by_cases hin : i < j
        · have hin' : (i : Int) < j := by omega
          obtain ⟨b, o, rfl, hb, hc⟩ := h (by omega)
          have hx : wr.cell? ⟨b, o + i, none⟩ = some (.int .i64 (f i)) := (hSr.1 _ _ hb).trans (hc i hin)
          have hx0 : 0 ≤ f i := ok_nonneg HA.out hin
          have hx1 := (hf i hin).2
          obtain ⟨x, hxx⟩ : ∃ x, f i = x := ⟨_, rfl⟩
          have HXX := Lib.hid (show x = f i from hxx.symm)
          have hfit := fit_is4 f i
          rw [hxx] at hx hx0 hx1 hfit
          clear hxx hc h hf
          by_cases hle : x ≤ 4294967295
          · by_cases hev : true = true ∨ x % 2 = 0
            rotate_left
            · first
              | exact absurd (Or.inl rfl) hev
              | (have hev3 : ¬ x % 2 = 0 := fun h => hev (.inr h)
                 have hno : fitB true f i = false := by rw [hfit]; simp; omega
                 have E := Lib.hid (show wrE true f j = 6 by unfold wrE; rw [HA.out, allB_no hno hin]; rfl)
                 have hev' : (x % 2 != 0) = true := by simp; omega
                 have hev2 : decide (x % 2 = 0) = false := by simp; omega
                 clear hfit hno hev hev3
                 go_wp2
                 go_ret2
                 exact wr_post E.out rfl (World.ownsRow_nil _ _ _ _) (Nat.le_refl _) hSr)
            try (have hev2 : (x % 2 != 0) = false := by (rcases hev with h | h; · cases h); simp [h])
            try (have hev3 : decide (x % 2 = 0) = true := by (rcases hev with h | h; · cases h); simp [h])
            have HB := Lib.hid (show fitB true f i = true by rw [hfit]; simp at hev ⊢ <;> omega)
            have q3 : (4 * i + 4) * 1 ≤ 140737488355328 := by omega
            have q4 : 4 * i + 4 ≤ maxLen := by simp only [maxLen]; omega
            clear hfit
            go_wp2_with (first | (go_at_call 83; refine (rput_inL 4 _ _ _ (by unfold In64; omega) (by rfl) (by omega)).mono ?_; rintro e w4 ⟨g, rfl, hg, hR4, hS4⟩; have hown4 := own_since hown hS4; clear hvr hown; have hq := Rd.of_row hR4; have hS14 := hSr.trans hS4; have hq5 : w.heap.size ≤ w4.heap.size := hS14.below.size) | (at_builtin; refine wpList_append_any _ (by rfl) _ _ _ (by rfl) w.heap.size 5 i0 _ 1 Tryz.underlying34 hi0 hz0 hz1 hz2 (by rfl) _ (4 * i) _ (by rfl) hown4 w4.heap.size _ 4 4 _ (by rfl) hq tab_ones q3 q4 hq5 ?_; intro v' w5 hown5 hgr5; have hS5 := since_grown hS14 hgr5 hvb))
            refine ⟨⟨i + 1, by omega, by simp, hS5, ?_, allB_next HF.out HB.out⟩, by simp [intOf]; omega⟩
            rw [wr_next4 i f _ (by simp [HXX.out])] at hown5
            exact hown5
          · have hno : fitB true f i = false := by rw [hfit]; simp; omega
            have E := Lib.hid (show wrE true f j = 6 by unfold wrE; rw [HA.out, allB_no hno hin]; rfl)
            clear hfit hno
            go_wp2
            all_goals
              go_ret2
              exact wr_post E.out rfl (World.ownsRow_nil _ _ _ _) (Nat.le_refl _) hSr
        · obtain rfl : i = j := by omega
          have E := Lib.hid (show wrE true f i = 0 by unfold wrE; rw [HA.out, HF.out]; rfl)
          clear h hf
          go_wp2
          go_ret2
          exact wr_post E.out rfl hown (Nat.le_refl _) hSr


end Go.Proofs.YteckkcpnfeoehaaGreatDoor

/-
  Layer 6: 'Metrics', walked, program and reference.
-/
namespace Go.Proofs.YteckkcpnfeoehaaGreatDoor
set_option maxRecDepth 100000
open Go.RowKit
set_option linter.unusedVariables false


theorem s_inL (A : Option Addr) (n c : Nat) (f : Nat → Int) (p m : Nat) (x y : Int) (w : World) (h : Rd w w.heap.size A n (U8 f)) (hf : ∀ j, j < n → 0 ≤ f j ∧ f j ≤ 255) (hx : x = p) (hy : y = m) (hm : 1 ≤ m ∧ m ≤ 4) (hp : p + m ≤ n) (hn : n ≤ 140737488355328) :
    Calls Tryz.prog 103 #[.slice A n c, .int .i64 x, .int .i64 y] w fun e w' => e = .returned (.tuple #[.int .i64 (sgn m (numAt f p m)), .int .i64 0]) ∧ w' = w := by
  subst hx; subst hy
  have h' := be_s A n c f p m w h hf (by unfold In64; omega) (by unfold In64; omega) hn
  unfold sAns at h'
  rw [if_neg (by omega), if_pos (by unfold Fits; omega)] at h'
  simpa using h'

def mtA (f : Nat → Int) (C i : Nat) : Int := if i < C then numAt f (4 * i) 2 else numAt f (4 * (C - 1)) 2
def mtB (f : Nat → Int) (C i : Nat) : Int := if i < C then sgn 2 (numAt f (4 * i + 2) 2) else sgn 2 (numAt f (4 * C + 2 * (i - C)) 2)
def MtV (X Y : Nat → Int) (j : Nat) : Value := .int .i64 (if j % 2 = 0 then X (j / 2) else Y (j / 2))
theorem mtv_even (X Y : Nat → Int) (j : Nat) : MtV X Y (j * 2) = .int .i64 (X j) := by
  unfold MtV; rw [if_pos (by omega), show j * 2 / 2 = j by omega]
theorem mtv_odd (X Y : Nat → Int) (j : Nat) : MtV X Y (j * 2 + 1) = .int .i64 (Y j) := by
  unfold MtV; rw [if_neg (by omega), show (j * 2 + 1) / 2 = j by omega]
def mtE (n : Nat) (c g : Int) : Int := if g < 1 ∨ 1024 < g ∨ c < 1 ∨ g < c then 2 else if (n : Int) < 4 * c + 2 * (g - c) then 3 else 0
def mtN (n : Nat) (c g : Int) : Nat := if mtE n c g = 0 then g.toNat else 0
theorem Tryz.info_mt : (Tryz.prog.info? 89).map (fun i => (i.zero, i.size, i.bytes)) = some (some (.agg #[.int .i64 0, .int .i64 0]), 2, 16) := by kernel_rfl
theorem zero_mt (j : Nat) : (Value.agg #[.int .i64 0, .int .i64 0]).cells[j % (Value.agg #[.int .i64 0, .int .i64 0]).cells.size]! = (fun _ => Value.int .i64 0) j := by
  have h : j % 2 = 0 ∨ j % 2 = 1 := by omega
  show #[Value.int .i64 0, .int .i64 0][j % 2]! = _
  rcases h with h | h <;> rw [h] <;> rfl
def mtPart (X Y : Nat → Int) (k j : Nat) : Value := if j < k then MtV X Y j else .int .i64 0
theorem mtPart_two (X Y : Nat → Int) (j t : Nat) (x y : Int) (hx : X j = x) (hy : Y j = y) : (if t = j * 2 + 1 then Value.int .i64 y else if t = j * 2 then Value.int .i64 x else mtPart X Y (j * 2) t) = mtPart X Y ((j + 1) * 2) t := by
  subst hx; subst hy
  by_cases h1 : t = j * 2 + 1
  · subst h1; rw [if_pos rfl]; unfold mtPart; rw [if_pos (by omega), mtv_odd]
  · rw [if_neg h1]
    by_cases h2 : t = j * 2
    · subst h2; rw [if_pos rfl]; unfold mtPart; rw [if_pos (by omega), mtv_even]
    · rw [if_neg h2]; unfold mtPart
      by_cases h3 : t < j * 2
      · rw [if_pos h3, if_pos (by omega)]
      · rw [if_neg h3, if_neg (by omega)]
theorem mt_bad {c g : Int} (h : g < 1 ∨ 1024 < g ∨ c < 1 ∨ g < c) : g < 1 ∨ (1 ≤ g ∧ 1024 < g) ∨ (1 ≤ g ∧ g ≤ 1024 ∧ c < 1) ∨ (1 ≤ g ∧ g ≤ 1024 ∧ 1 ≤ c ∧ g < c) := by omega

end Go.Proofs.YteckkcpnfeoehaaGreatDoor
