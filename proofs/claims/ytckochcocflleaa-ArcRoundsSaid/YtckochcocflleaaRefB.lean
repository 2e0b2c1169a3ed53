/-
  The document's numbers of eight digits, walked: made of two words; negated; taken away; their sign and order.
-/
import Derived.Test.YtckochcocflleaaEqNum
import Derived.Test.YtckochcocflleaaWideB
namespace Go.Proofs.Ytckochcocflleaa
open Go.RowKit
set_option linter.unusedVariables false

def ofv (N : Int) (k j : Nat) : Int := if j < k ∨ (4 ≤ j ∧ j < k + 4) then dg N j else 0
theorem ofv_step {w : World} {b k : Nat} {N v1 v2 : Int} (hk : k < 4) (h : Row w b 8 (fun j => .int .u32 (ofv N k j))) (e1 : v1 = dg N k) (e2 : v2 = dg N (k + 4)) :
    Row ((w.setCell ⟨b, k, none⟩ (.int .u32 v1)).setCell ⟨b, k + 4, none⟩ (.int .u32 v2)) b 8 (fun j => .int .u32 (ofv N (k + 1) j)) := by
  refine ((h.set k _).set (k + 4) _).congr fun j hj => ?_
  unfold ofv
  by_cases h1 : j = k + 4
  · subst h1; simp [e2]
  · by_cases h2 : j = k
    · subst h2; simp [e1]
    · simp only [h1, h2, if_false]
      congr 1
      by_cases h3 : j < k ∨ (4 ≤ j ∧ j < k + 4)
      · rw [if_pos h3, if_pos (by omega)]
      · rw [if_neg h3, if_neg (by omega)]
theorem dg_low (h l : Int) (k : Nat) (hk : k < 4) (l0 : 0 ≤ l) (l1 : l < 18446744073709551616) : dg (h * 18446744073709551616 + l) k = l / B k % 65536 := by
  have : k = 0 ∨ k = 1 ∨ k = 2 ∨ k = 3 := by omega
  unfold dg B
  rcases this with rfl | rfl | rfl | rfl <;> simp only [Int.reducePow] <;> omega
theorem dg_high (h l : Int) (k : Nat) (hk : k < 4) (l0 : 0 ≤ l) (l1 : l < 18446744073709551616) : dg (h * 18446744073709551616 + l) (k + 4) = IntKind.u64.wrap h / B k % 65536 := by
  have : k = 0 ∨ k = 1 ∨ k = 2 ∨ k = 3 := by omega
  rw [IntKind.wrap_u64]
  unfold dg B
  rcases this with rfl | rfl | rfl | rfl <;> simp only [Int.reducePow, Nat.reduceAdd] <;> omega
theorem div_B (x : Int) (k : Nat) : x / B k / 65536 = x / B (k + 1) := by rw [B_succ, Int.ediv_ediv_of_nonneg (Int.le_of_lt (B_pos k))]
theorem div_B_bd {x : Int} (k : Nat) (h0 : 0 ≤ x) (h1 : x < 18446744073709551616) : 0 ≤ x / B k ∧ x / B k < 18446744073709551616 :=
  ⟨Int.ediv_nonneg h0 (Int.le_of_lt (B_pos k)), Int.lt_of_le_of_lt (Int.ediv_le_self _ h0) h1⟩

theorem ref_of (h l : Int) (l0 : 0 ≤ l) (l1 : l < 18446744073709551616) (w : World) :
    Calls Try.prog 78 #[.int .i64 h, .int .u64 l] w fun e w' => e = .returned (D (h * 18446744073709551616 + l)) ∧ Since w w' := by
  obtain ⟨u0, u1⟩ := u64_bd h
  go_enter Try.func78, Try.ntmps78
  go_wp2
  go_loopw [1, 6, 7] (fun lo hh i wr => ∃ k : Nat, k ≤ 4 ∧ i = .int .i64 k ∧ lo = .int .u64 (l / B k) ∧ hh = .int .u64 (IntKind.u64.wrap h / B k) ∧ Since w wr ∧ Row wr w.heap.size 8 (fun j => .int .u32 0) ∧ Row wr (w.heap.size + 1) 8 (fun j => .int .u32 (ofv (h * 18446744073709551616 + l) k j))) (fun _ _ i _ => 4 - (intOf i).toNat)
  case atStart =>
    refine ⟨0, by omega, rfl, by simp [B], by simp [B], by (repeat (first | with_reducible (exact Since.refl _) | with_reducible assumption | with_reducible (refine Since.drew ?_) | with_reducible (refine Since.drewN ?_ _) | with_reducible (refine Since.alloc ?_ _) | (with_reducible (refine Since.setCell ?_ ?_ _); rotate_left; focus (first | (simp; done) | (simp; omega) | omega)) | (with_reducible (refine Since.trans ?_ (by with_reducible assumption))))), ?_, ?_⟩
    · exact (row8 _ _ rfl _ (fun _ => 0)).alloc _
    · exact (row8 _ _ (by simp) _ (fun _ => 0)).congr fun j hj => by simp [ofv]; omega
  case round =>
    obtain ⟨k, hk, rfl, rfl, rfl, hS, hC, hN⟩ := hrel
    obtain ⟨a1, a2⟩ := div_B_bd k l0 l1; obtain ⟨b1, b2⟩ := div_B_bd k u0 u1
    obtain ⟨hC1, hC2, hC3⟩ := id hC; obtain ⟨hN1, hN2, hN3⟩ := id hN
    by_cases hlt : k < 4
    · have h8 : k < 8 := by omega
      have h48 : k + 4 < 8 := by omega
      go_wp2
      refine ⟨⟨k + 1, by omega, by go_num, by rw [div_B], by rw [div_B], by (repeat (first | with_reducible (exact Since.refl _) | with_reducible assumption | with_reducible (refine Since.drew ?_) | with_reducible (refine Since.drewN ?_ _) | with_reducible (refine Since.alloc ?_ _) | (with_reducible (refine Since.setCell ?_ ?_ _); rotate_left; focus (first | (simp; done) | (simp; omega) | omega)) | (with_reducible (refine Since.trans ?_ (by with_reducible assumption))))), by (repeat (first | with_reducible assumption | with_reducible (refine Row.drewN ?_ _) | with_reducible (refine Row.drew ?_) | with_reducible (refine Row.alloc ?_ _) | (with_reducible (refine Row.far ?_ ?_ _ _); rotate_left; focus (first | (simp; done) | (simp; omega) | omega)) | with_reducible (refine Row.since ?_ (by with_reducible assumption)))), ofv_step hlt hN (dg_low h l k hlt l0 l1).symm (dg_high h l k hlt l0 l1).symm⟩, by simp [intOf]; omega⟩
    · obtain rfl : k = 4 := by omega
      have hu : ∀ j, j < 8 → ofv (h * 18446744073709551616 + l) 4 j = dg (h * 18446744073709551616 + l) j := fun j hj => by unfold ofv; rw [if_pos (by omega)]
      go_wp2
      refine bodyPost_ret (by simp only [results, Try.results78]; go_simp) rfl ⟨rfl, ?_⟩
      (repeat (first | with_reducible (exact Since.refl _) | with_reducible assumption | with_reducible (refine Since.drew ?_) | with_reducible (refine Since.drewN ?_ _) | with_reducible (refine Since.alloc ?_ _) | (with_reducible (refine Since.setCell ?_ ?_ _); rotate_left; focus (first | (simp; done) | (simp; omega) | omega)) | (with_reducible (refine Since.trans ?_ (by with_reducible assumption)))))

theorem ref_small (n : Int) (hn : InW n) (w : World) :
    Calls Try.prog 49 #[.int .i64 n] w fun e w' => e = .returned (D n) ∧ Since w w' := by
  unfold InW at hn
  obtain ⟨u0, u1⟩ := u64_bd n
  by_cases h : n < 0
  · have e : -1 * 18446744073709551616 + IntKind.u64.wrap n = n := by rw [IntKind.wrap_u64]; omega
    have c := fun W' => ref_of (-1) (IntKind.u64.wrap n) u0 u1 W'
    rw [e] at c
    have C := Lib.hid c; clear c e
    have h' : decide (n < 0) = true := by simpa using h
    go_enter Try.func49, Try.ntmps49
    go_wp2_with (go_at_call 78; refine (C.out _).mono ?_; rintro e w1 ⟨rfl, hS1⟩; obtain ⟨hc1, hf1, hz1, hb1⟩ := id hS1)
    refine bodyPost_ret (by simp only [results, Try.results49]; go_simp) rfl ⟨rfl, ?_⟩
    (repeat (first | with_reducible (exact Since.refl _) | with_reducible assumption | with_reducible (refine Since.drew ?_) | with_reducible (refine Since.drewN ?_ _) | with_reducible (refine Since.alloc ?_ _) | (with_reducible (refine Since.setCell ?_ ?_ _); rotate_left; focus (first | (simp; done) | (simp; omega) | omega)) | (with_reducible (refine Since.trans ?_ (by with_reducible assumption)))))
  · have e : 0 * 18446744073709551616 + IntKind.u64.wrap n = n := by rw [IntKind.wrap_u64]; omega
    have c := fun W' => ref_of 0 (IntKind.u64.wrap n) u0 u1 W'
    rw [e] at c
    have C := Lib.hid c
    have e' : IntKind.u64.wrap n = n := by rw [IntKind.wrap_u64]; omega
    clear c e
    rw [e'] at C
    clear e'
    have h' : decide (n < 0) = false := by simpa using h
    go_enter Try.func49, Try.ntmps49
    go_wp2_with (go_at_call 78; refine (C.out _).mono ?_; rintro e w1 ⟨rfl, hS1⟩; obtain ⟨hc1, hf1, hz1, hb1⟩ := id hS1)
    refine bodyPost_ret (by simp only [results, Try.results49]; go_simp) rfl ⟨rfl, ?_⟩
    (repeat (first | with_reducible (exact Since.refl _) | with_reducible assumption | with_reducible (refine Since.drew ?_) | with_reducible (refine Since.drewN ?_ _) | with_reducible (refine Since.alloc ?_ _) | (with_reducible (refine Since.setCell ?_ ?_ _); rotate_left; focus (first | (simp; done) | (simp; omega) | omega)) | (with_reducible (refine Since.trans ?_ (by with_reducible assumption)))))

theorem D_one : Value.agg #[.int .u32 1, .int .u32 0, .int .u32 0, .int .u32 0, .int .u32 0, .int .u32 0, .int .u32 0, .int .u32 0] = D 1 := by
  unfold D dg B; simp only [Int.reducePow]; rfl
theorem D_zero : Value.agg #[.int .u32 0, .int .u32 0, .int .u32 0, .int .u32 0, .int .u32 0, .int .u32 0, .int .u32 0, .int .u32 0] = D 0 := by
  unfold D dg B; simp only [Int.reducePow]; rfl
theorem dg_comp (a : Int) (i : Nat) : 65535 - dg a i = dg (-1 - a) i := by
  have h1 := Int.mul_ediv_add_emod a (B i)
  have h2 := low_bd a i
  have hb := B_pos i
  have e : (-1 - a) / B i = -1 - a / B i := by
    have e1 : -1 - a = (B i - 1 - a % B i) + B i * (-1 - a / B i) := by rw [Int.mul_sub]; omega
    conv => lhs; rw [e1]
    rw [Int.add_mul_ediv_left _ _ (by omega), Int.ediv_eq_zero_of_lt (by omega) (by omega)]; omega
  unfold dg
  rw [e]; omega

theorem ref_neg (a : Int) (w : World) :
    Calls Try.prog 137 #[D a] w fun e w' => e = .returned (D (-a)) ∧ Since w w' := by
  have c := fun W' => ref_add (-1 - a) 1 W'
  rw [show -1 - a + 1 = -a by omega, ← D_one] at c
  have C := Lib.hid c; clear c
  go_enter Try.func137, Try.ntmps137
  go_wp2
  go_loopw [4] (fun i wr => ∃ k : Nat, k ≤ 8 ∧ i = .int .i64 k ∧ Since w wr ∧ Row wr w.heap.size 8 (fun j => .int .u32 (dg a j)) ∧ Row wr (w.heap.size + 1) 8 (fun j => .int .u32 0) ∧ Row wr (w.heap.size + 1 + 1) 8 (fun j => .int .u32 (upTo (dg (-1 - a)) k j))) (fun i _ => 8 - (intOf i).toNat)
  case atStart =>
    refine ⟨0, by omega, rfl, by (repeat (first | with_reducible (exact Since.refl _) | with_reducible assumption | with_reducible (refine Since.drew ?_) | with_reducible (refine Since.drewN ?_ _) | with_reducible (refine Since.alloc ?_ _) | (with_reducible (refine Since.setCell ?_ ?_ _); rotate_left; focus (first | (simp; done) | (simp; omega) | omega)) | (with_reducible (refine Since.trans ?_ (by with_reducible assumption))))), ?_, ?_, ?_⟩
    · exact ((row8 _ _ rfl _ (dg a)).alloc _).alloc _
    · exact (row8 _ _ (by simp) _ (fun _ => 0)).alloc _
    · exact (row8 _ _ (by simp) _ (fun _ => 0)).congr fun j hj => by simp [upTo]
  case round =>
    obtain ⟨k, hk, rfl, hS, hA, hB, hN⟩ := hrel
    obtain ⟨a1, a2⟩ := dg_bd a k
    obtain ⟨hA1, hA2, hA3⟩ := id hA; obtain ⟨hB1, hB2, hB3⟩ := id hB; obtain ⟨hN1, hN2, hN3⟩ := id hN
    by_cases hlt : k < 8
    · go_wp2
      refine ⟨⟨k + 1, by omega, by go_num, by (repeat (first | with_reducible (exact Since.refl _) | with_reducible assumption | with_reducible (refine Since.drew ?_) | with_reducible (refine Since.drewN ?_ _) | with_reducible (refine Since.alloc ?_ _) | (with_reducible (refine Since.setCell ?_ ?_ _); rotate_left; focus (first | (simp; done) | (simp; omega) | omega)) | (with_reducible (refine Since.trans ?_ (by with_reducible assumption))))), by (repeat (first | with_reducible assumption | with_reducible (refine Row.drewN ?_ _) | with_reducible (refine Row.drew ?_) | with_reducible (refine Row.alloc ?_ _) | (with_reducible (refine Row.far ?_ ?_ _ _); rotate_left; focus (first | (simp; done) | (simp; omega) | omega)) | with_reducible (refine Row.since ?_ (by with_reducible assumption)))), by (repeat (first | with_reducible assumption | with_reducible (refine Row.drewN ?_ _) | with_reducible (refine Row.drew ?_) | with_reducible (refine Row.alloc ?_ _) | (with_reducible (refine Row.far ?_ ?_ _ _); rotate_left; focus (first | (simp; done) | (simp; omega) | omega)) | with_reducible (refine Row.since ?_ (by with_reducible assumption)))), upTo_row hN _ (dg_comp a k)⟩, by simp [intOf]; omega⟩
    · obtain rfl : k = 8 := by omega
      have hu := fun j (hj : j < 8) => upTo_lt (f := dg (-1 - a)) hj
      go_wp2_with (go_at_call 147; refine (C.out _).mono ?_; rintro e w1 ⟨rfl, hS1⟩; obtain ⟨hc1, hf1, hz1, hb1⟩ := id hS1)
      refine bodyPost_ret (by simp only [results, Try.results137]; go_simp) rfl ⟨rfl, ?_⟩
      (repeat (first | with_reducible (exact Since.refl _) | with_reducible assumption | with_reducible (refine Since.drew ?_) | with_reducible (refine Since.drewN ?_ _) | with_reducible (refine Since.alloc ?_ _) | (with_reducible (refine Since.setCell ?_ ?_ _); rotate_left; focus (first | (simp; done) | (simp; omega) | omega)) | (with_reducible (refine Since.trans ?_ (by with_reducible assumption)))))

theorem ref_sub (a b : Int) (w : World) :
    Calls Try.prog 136 #[D a, D b] w fun e w' => e = .returned (D (a - b)) ∧ Since w w' := by
  rw [show a - b = a + -b by omega]
  go_enter Try.func136, Try.ntmps136
  go_wp2_with fail
  (refine wp_named fun wr1 hwr1 => ?_; go_region_held3 (fun w' => (∀ b o, b < (w.heap.size + 1 + 1) → w'.cell? ⟨b, o, none⟩ = wr1.cell? ⟨b, o, none⟩) ∧ (∀ b o, b < wr1.heap.size → w'.frozen? ⟨b, o, none⟩ = wr1.frozen? ⟨b, o, none⟩) ∧ (∀ k, k < wr1.heap.size → k < w'.heap.size) ∧ Below ((w.heap.size + 1 + 1)) wr1 w' ∧ (∀ o, o < 8 → w'.cell? ⟨(w.heap.size + 1 + 1), o, none⟩ = some (cellD w' ((w.heap.size + 1 + 1)) o))) ((subst hwr1; (repeat with_reducible (refine sr_set ?_ _ _)); first | assumption | (refine sr_step (by first | assumption | omega | (simp; done) | (simp; omega)) (by assumption) ?_; first | assumption | (repeat (first | with_reducible (exact Since.refl _) | with_reducible assumption | with_reducible (refine Since.drew ?_) | with_reducible (refine Since.drewN ?_ _) | with_reducible (refine Since.alloc ?_ _) | (with_reducible (refine Since.setCell ?_ ?_ _); rotate_left; focus (first | (simp; done) | (simp; omega) | omega))))) | (refine sr_step (by first | assumption | omega | (simp; done) | (simp; omega)) (sr_start (fun o ho => by (have ho' : o = 0 ∨ o = 1 ∨ o = 2 ∨ o = 3 ∨ o = 4 ∨ o = 5 ∨ o = 6 ∨ o = 7 := by omega); rcases ho' with rfl | rfl | rfl | rfl | rfl | rfl | rfl | rfl <;> (first | (simp [go_sem]; done) | simp_all))) ?_; first | assumption | (repeat (first | with_reducible (exact Since.refl _) | with_reducible assumption | with_reducible (refine Since.drew ?_) | with_reducible (refine Since.drewN ?_ _) | with_reducible (refine Since.alloc ?_ _) | (with_reducible (refine Since.setCell ?_ ?_ _); rotate_left; focus (first | (simp; done) | (simp; omega) | omega))))))) (first | (go_at_call 137; refine (ref_neg b _).mono ?_; rintro e w1 ⟨rfl, hS⟩; have hZ := hS.below.size; (try simp at hZ)) | (go_at_call 147; refine (ref_add a (-b) _).mono ?_; rintro e w1 ⟨rfl, hS⟩; have hZ := hS.below.size; (try simp at hZ))); all_goals (rename_i hHeld; obtain ⟨hcR1, hfR1, hzR1, hbR1, hoR1⟩ := hHeld; have hiR := fun o ho => there_of (hoR1 o ho); (try simp only [there_set] at hiR); clear hoR1; subst hwr1; have hR1 : Since w _ := sr_out hbR1 (by (repeat (first | with_reducible (exact Since.refl _) | with_reducible assumption | with_reducible (refine Since.drew ?_) | with_reducible (refine Since.drewN ?_ _) | with_reducible (refine Since.alloc ?_ _) | (with_reducible (refine Since.setCell ?_ ?_ _); rotate_left; focus (first | (simp; done) | (simp; omega) | omega)) | (with_reducible (refine Since.trans ?_ (by with_reducible assumption)))))) (by first | (simp; done) | (simp; omega) | omega)))
  go_wp2
  refine bodyPost_ret (by simp only [results, Try.results136]; go_simp) rfl ⟨rfl, ?_⟩
  (repeat (first | with_reducible (exact Since.refl _) | with_reducible assumption | with_reducible (refine Since.drew ?_) | with_reducible (refine Since.drewN ?_ _) | with_reducible (refine Since.alloc ?_ _) | (with_reducible (refine Since.setCell ?_ ?_ _); rotate_left; focus (first | (simp; done) | (simp; omega) | omega)) | (with_reducible (refine Since.trans ?_ (by with_reducible assumption)))))

theorem dg7 {a : Int} (ha : In128 a) : (32768 ≤ dg a 7) ↔ a < 0 := by
  unfold In128 at ha; unfold dg B; simp only [Int.reducePow]; omega
theorem D_inj {a b : Int} (ha : In128 a) (hb : In128 b) (h : ∀ i, i < 8 → dg a i = dg b i) : a = b := by
  have h0 := h 0 (by omega); have h1 := h 1 (by omega); have h2 := h 2 (by omega); have h3 := h 3 (by omega)
  have h4 := h 4 (by omega); have h5 := h 5 (by omega); have h6 := h 6 (by omega); have h7 := h 7 (by omega)
  unfold In128 at ha hb; unfold dg B at *; simp only [Int.reducePow] at *; omega

theorem ref_sign (a : Int) (ha : In128 a) (w : World) :
    Calls Try.prog 135 #[D a] w fun e w' => e = .returned (.int .i64 (signI a)) ∧ Since w w' := by
  rcases Int.lt_trichotomy a 0 with h | h | h
  · have E : signI a = -1 := by unfold signI cmpI; rw [if_pos h]
    rw [E]; clear E
    have h7 : decide (32768 ≤ dg a 7) = true := by simpa using (dg7 ha).2 h
    go_enter Try.func135, Try.ntmps135
    go_wp2
    go_ret
    exact ⟨rfl, by (repeat (first | with_reducible (exact Since.refl _) | with_reducible assumption | with_reducible (refine Since.drew ?_) | with_reducible (refine Since.drewN ?_ _) | with_reducible (refine Since.alloc ?_ _) | (with_reducible (refine Since.setCell ?_ ?_ _); rotate_left; focus (first | (simp; done) | (simp; omega) | omega)) | (with_reducible (refine Since.trans ?_ (by with_reducible assumption)))))⟩
  · subst h
    have E : signI 0 = 0 := rfl
    rw [E]; clear E
    rw [← D_zero]
    go_enter Try.func135, Try.ntmps135
    go_wp2
    go_ret
    exact ⟨rfl, by (repeat (first | with_reducible (exact Since.refl _) | with_reducible assumption | with_reducible (refine Since.drew ?_) | with_reducible (refine Since.drewN ?_ _) | with_reducible (refine Since.alloc ?_ _) | (with_reducible (refine Since.setCell ?_ ?_ _); rotate_left; focus (first | (simp; done) | (simp; omega) | omega)) | (with_reducible (refine Since.trans ?_ (by with_reducible assumption)))))⟩
  · have E : signI a = 1 := by unfold signI cmpI; rw [if_neg (by omega), if_pos h]
    rw [E]; clear E
    have h7 : decide (32768 ≤ dg a 7) = false := by have := dg7 ha; simp; omega
    have h8 : (dg a 0 == 0 && (dg a 1 == 0 && (dg a 2 == 0 && (dg a 3 == 0 && (dg a 4 == 0 && (dg a 5 == 0 && (dg a 6 == 0 && dg a 7 == 0))))))) = false := by
      rw [Bool.eq_false_iff]
      intro hx
      simp only [Bool.and_eq_true, beq_iff_eq] at hx
      obtain ⟨x0, x1, x2, x3, x4, x5, x6, x7⟩ := hx
      have : a = 0 := D_inj ha (by unfold In128; omega) (fun i hi => by
        have hz : dg 0 i = 0 := by unfold dg; simp
        rw [hz]
        have hh : i = 0 ∨ i = 1 ∨ i = 2 ∨ i = 3 ∨ i = 4 ∨ i = 5 ∨ i = 6 ∨ i = 7 := by omega
        rcases hh with rfl | rfl | rfl | rfl | rfl | rfl | rfl | rfl <;> assumption)
      omega
    go_enter Try.func135, Try.ntmps135
    go_wp2
    go_ret
    exact ⟨rfl, by (repeat (first | with_reducible (exact Since.refl _) | with_reducible assumption | with_reducible (refine Since.drew ?_) | with_reducible (refine Since.drewN ?_ _) | with_reducible (refine Since.alloc ?_ _) | (with_reducible (refine Since.setCell ?_ ?_ _); rotate_left; focus (first | (simp; done) | (simp; omega) | omega)) | (with_reducible (refine Since.trans ?_ (by with_reducible assumption)))))⟩

theorem pos_of {a : Int} (ha : In128 a) : decide (32768 ≤ dg a 7) = decide (a < 0) := by rw [decide_eq_decide]; exact dg7 ha
theorem part_of (a : Int) (j : Nat) : a / B j = a / B (j + 1) * 65536 + dg a j := by rw [← div_B]; unfold dg; omega
theorem lt_of_part {a b : Int} {j : Nat} (h : a / B j < b / B j) : a < b := by
  rcases Int.lt_or_le a b with h1 | h1
  · exact h1
  · have := Int.ediv_le_ediv (B_pos j) h1; omega
theorem top_of {a b : Int} (ha : In128 a) (hb : In128 b) (h : decide (a < 0) = decide (b < 0)) : a / B 8 = b / B 8 := by
  rw [decide_eq_decide] at h
  unfold In128 at ha hb; unfold B; simp only [Int.reducePow]; omega

theorem ref_cmp_sign (a b : Int) (ha : In128 a) (hb : In128 b) (h : decide (a < 0) ≠ decide (b < 0)) (w : World) :
    Calls Try.prog 50 #[D a, D b] w fun e w' => e = .returned (.int .i64 (cmpI a b)) ∧ Since w w' := by
  have p1 := pos_of ha
  have p2 := pos_of hb
  by_cases ha0 : a < 0
  · have hb0 : ¬ b < 0 := by intro x; simp [ha0, x] at h
    have E : cmpI a b = -1 := by unfold cmpI; rw [if_pos (by omega)]
    rw [E]; clear E h ha hb
    have q1 : decide (a < 0) = true := by simpa using ha0
    have q2 : decide (b < 0) = false := by simpa using hb0
    rw [q1] at p1; rw [q2] at p2; clear q1 q2 ha0 hb0
    go_enter Try.func50, Try.ntmps50
    go_wp2
    go_quiet (fail)
    go_wp2
    go_ret
    exact ⟨rfl, by (repeat (first | with_reducible (exact Since.refl _) | with_reducible assumption | with_reducible (refine Since.drew ?_) | with_reducible (refine Since.drewN ?_ _) | with_reducible (refine Since.alloc ?_ _) | (with_reducible (refine Since.setCell ?_ ?_ _); rotate_left; focus (first | (simp; done) | (simp; omega) | omega)) | (with_reducible (refine Since.trans ?_ (by with_reducible assumption)))))⟩
  · have hb0 : b < 0 := by
      rcases Int.lt_or_le b 0 with x | x
      · exact x
      · exact absurd (by rw [decide_eq_decide]; omega) h
    have E : cmpI a b = 1 := by unfold cmpI; rw [if_neg (by omega), if_pos (by omega)]
    rw [E]; clear E h ha hb
    have q1 : decide (a < 0) = false := by simpa using ha0
    have q2 : decide (b < 0) = true := by simpa using hb0
    rw [q1] at p1; rw [q2] at p2; clear q1 q2 ha0 hb0
    go_enter Try.func50, Try.ntmps50
    go_wp2
    go_quiet (fail)
    go_wp2
    go_ret
    exact ⟨rfl, by (repeat (first | with_reducible (exact Since.refl _) | with_reducible assumption | with_reducible (refine Since.drew ?_) | with_reducible (refine Since.drewN ?_ _) | with_reducible (refine Since.alloc ?_ _) | (with_reducible (refine Since.setCell ?_ ?_ _); rotate_left; focus (first | (simp; done) | (simp; omega) | omega)) | (with_reducible (refine Since.trans ?_ (by with_reducible assumption)))))⟩

theorem ref_cmp_same (a b : Int) (ha : In128 a) (hb : In128 b) (h : decide (a < 0) = decide (b < 0)) (w : World) :
    Calls Try.prog 50 #[D a, D b] w fun e w' => e = .returned (.int .i64 (cmpI a b)) ∧ Since w w' := by
  have p1 := pos_of ha
  have p2 := pos_of hb
  have ht := Lib.hid (top_of ha hb h)
  rw [h] at p1
  have hp : decide (b < 0) = true ∨ decide (b < 0) = false := by cases decide (b < 0) <;> simp
  clear h ha hb
  rcases hp with hp | hp <;> (rw [hp] at p1 p2; clear hp)
  all_goals
    go_enter Try.func50, Try.ntmps50
    go_wp2
    go_quiet (fail)
    go_wp2
    go_loopw [7] (fun i wr => ∃ k : Nat, k ≤ 8 ∧ i = .int .i64 ((k : Int) - 1) ∧ Hid (a / B k = b / B k) ∧ Since w wr ∧ Row wr w.heap.size 8 (fun j => .int .u32 (dg a j)) ∧ Row wr (w.heap.size + 1) 8 (fun j => .int .u32 (dg b j))) (fun i _ => (intOf i + 1).toNat)
    case atStart =>
      refine ⟨8, by omega, rfl, ht, by (repeat (first | with_reducible (exact Since.refl _) | with_reducible assumption | with_reducible (refine Since.drew ?_) | with_reducible (refine Since.drewN ?_ _) | with_reducible (refine Since.alloc ?_ _) | (with_reducible (refine Since.setCell ?_ ?_ _); rotate_left; focus (first | (simp; done) | (simp; omega) | omega)) | (with_reducible (refine Since.trans ?_ (by with_reducible assumption))))), ?_, ?_⟩
      · exact ((row8 _ _ rfl _ (dg a)).alloc _).drewN _
      · exact ((row8 _ _ (by simp) _ (dg b))).drewN _
    case round =>
      clear ht p1 p2
      obtain ⟨k, hk, rfl, hE, hS, hA, hB⟩ := hrel
      obtain ⟨hA1, hA2, hA3⟩ := id hA; obtain ⟨hB1, hB2, hB3⟩ := id hB
      rcases Nat.eq_zero_or_pos k with rfl | hpos
      · have E : cmpI a b = 0 := by
          have e := hE.out
          have e1 : B 0 = 1 := rfl
          rw [e1, Int.ediv_one, Int.ediv_one] at e
          unfold cmpI; rw [e]; simp
        replace E := Lib.hid E
        go_wp2
        go_ret
        exact ⟨by rw [E.out]; rfl, by (repeat (first | with_reducible (exact Since.refl _) | with_reducible assumption | with_reducible (refine Since.drew ?_) | with_reducible (refine Since.drewN ?_ _) | with_reducible (refine Since.alloc ?_ _) | (with_reducible (refine Since.setCell ?_ ?_ _); rotate_left; focus (first | (simp; done) | (simp; omega) | omega)) | (with_reducible (refine Since.trans ?_ (by with_reducible assumption)))))⟩
      · obtain ⟨j, rfl⟩ : ∃ j, k = j + 1 := ⟨k - 1, by omega⟩
        rw [show ((j + 1 : Nat) : Int) - 1 = (j : Int) by omega]
        have hj : j < 8 := by omega
        clear hk hpos
        have pa := part_of a j; have pb := part_of b j
        rw [hE.out] at pa
        rcases Int.lt_trichotomy (dg a j) (dg b j) with hc | hc | hc
        · have E : cmpI a b = -1 := by unfold cmpI; rw [if_pos (lt_of_part (j := j) (by omega))]
          replace E := Lib.hid E; clear pa pb
          have c1 : decide (dg b j < dg a j) = false := by simp; omega
          go_wp2
          go_quiet (fail)
          go_wp2
          go_quiet (fail)
          go_wp2
          go_ret
          exact ⟨by rw [E.out]; rfl, by (repeat (first | with_reducible (exact Since.refl _) | with_reducible assumption | with_reducible (refine Since.drew ?_) | with_reducible (refine Since.drewN ?_ _) | with_reducible (refine Since.alloc ?_ _) | (with_reducible (refine Since.setCell ?_ ?_ _); rotate_left; focus (first | (simp; done) | (simp; omega) | omega)) | (with_reducible (refine Since.trans ?_ (by with_reducible assumption)))))⟩
        · have hE2 : Hid (a / B j = b / B j) := by show a / B j = b / B j; rw [pa, pb, hc]
          have c1 : decide (dg b j < dg a j) = false := by simp; omega
          have c2 : decide (dg a j < dg b j) = false := by simp; omega
          clear pa pb hc hE
          go_wp2
          go_quiet (fail)
          go_wp2
          go_quiet (fail)
          go_wp2
          refine ⟨⟨j, by omega, rfl, hE2, by (repeat (first | with_reducible (exact Since.refl _) | with_reducible assumption | with_reducible (refine Since.drew ?_) | with_reducible (refine Since.drewN ?_ _) | with_reducible (refine Since.alloc ?_ _) | (with_reducible (refine Since.setCell ?_ ?_ _); rotate_left; focus (first | (simp; done) | (simp; omega) | omega)) | (with_reducible (refine Since.trans ?_ (by with_reducible assumption))))), by (repeat (first | with_reducible assumption | with_reducible (refine Row.drewN ?_ _) | with_reducible (refine Row.drew ?_) | with_reducible (refine Row.alloc ?_ _) | (with_reducible (refine Row.far ?_ ?_ _ _); rotate_left; focus (first | (simp; done) | (simp; omega) | omega)) | with_reducible (refine Row.since ?_ (by with_reducible assumption)))), by (repeat (first | with_reducible assumption | with_reducible (refine Row.drewN ?_ _) | with_reducible (refine Row.drew ?_) | with_reducible (refine Row.alloc ?_ _) | (with_reducible (refine Row.far ?_ ?_ _ _); rotate_left; focus (first | (simp; done) | (simp; omega) | omega)) | with_reducible (refine Row.since ?_ (by with_reducible assumption))))⟩, by simp [intOf] <;> omega⟩
        · have E : cmpI a b = 1 := by
            have := lt_of_part (a := b) (b := a) (j := j) (by omega)
            unfold cmpI; rw [if_neg (by omega), if_pos this]
          replace E := Lib.hid E; clear pa pb
          have c1 : decide (dg b j < dg a j) = true := by simp; omega
          go_wp2
          go_quiet (fail)
          go_wp2
          go_ret
          exact ⟨by rw [E.out]; rfl, by (repeat (first | with_reducible (exact Since.refl _) | with_reducible assumption | with_reducible (refine Since.drew ?_) | with_reducible (refine Since.drewN ?_ _) | with_reducible (refine Since.alloc ?_ _) | (with_reducible (refine Since.setCell ?_ ?_ _); rotate_left; focus (first | (simp; done) | (simp; omega) | omega)) | (with_reducible (refine Since.trans ?_ (by with_reducible assumption)))))⟩

theorem ref_cmp (a b : Int) (ha : In128 a) (hb : In128 b) (w : World) :
    Calls Try.prog 50 #[D a, D b] w fun e w' => e = .returned (.int .i64 (cmpI a b)) ∧ Since w w' := by
  by_cases h : decide (a < 0) = decide (b < 0)
  · exact ref_cmp_same a b ha hb h w
  · exact ref_cmp_sign a b ha hb h w
end Go.Proofs.Ytckochcocflleaa
