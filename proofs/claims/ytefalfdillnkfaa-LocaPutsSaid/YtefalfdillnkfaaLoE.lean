/-
  Layer 6: 'Write', walked, program and reference.
-/
import Derived.Test.YtefalfdillnkfaaLoD
namespace Go.Proofs.Ytefalfdillnkfaa
open Go.RowKit
set_option linter.unusedVariables false

theorem wrE_cases (l : Bool) (f : Nat → Int) (n : Nat) : wrE l f n = 0 ∨ wrE l f n = 6 ∨ wrE l f n = 12 := by unfold wrE; split <;> (try split) <;> simp
theorem wr_ok {l : Bool} {f : Nat → Int} {n : Nat} (h : wrE l f n = 0) : allB (okB f) n = true ∧ allB (fitB l f) n = true := by
  unfold wrE at h
  split at h
  · split at h
    · exact ⟨by assumption, by assumption⟩
    · cases h
  · cases h
def wrF (l : Bool) (f : Nat → Int) (q : Nat) : Int := byteOf (f (q / wide4 l) / times1 l) (wide4 l) (q % wide4 l)
def wrN (l : Bool) (f : Nat → Int) (n : Nat) : Nat := if wrE l f n = 0 then wide4 l * n else 0
theorem own_low {w : World} {B B' n k : Nat} {e : TypeId} {v : Value} {xs : List Value} (h : w.ownsRow B e k v n xs) (hB : B' ≤ B) : w.ownsRow B' e k v n xs := by
  refine ⟨h.1, ?_⟩
  rcases h.2 with h0 | ⟨g, cap, cur, e1, hb, r⟩
  · exact .inl h0
  · exact .inr ⟨g, cap, cur, e1, Nat.le_trans hB hb, r⟩
theorem own_rd {w : World} {base n c : Nat} {e : TypeId} {A : Option Addr} {V : Nat → Value} (h : w.ownsRow base e 1 (.slice A n c) n (tab n V)) : n ≤ c ∧ Rd w w.heap.size A n V ∧ (∀ k, (Value.slice A n c).ownBlock = some k → base ≤ k) := by
  obtain ⟨A', c', e', hc, hr, hb⟩ := own_any h
  injection e' with e1 _ e3
  subst e1; subst e3
  exact ⟨hc, hr, hb⟩
/-- What 'Write' leaves. -/
def WrPost (l : Bool) (f : Nat → Int) (n : Nat) (w : World) (e : Ending) (w' : World) : Prop := ∃ A' c, e = .returned (.tuple #[.slice A' (wrN l f n) c, .int .i64 (wrE l f n)]) ∧ w'.ownsRow w.heap.size 5 1 (.slice A' (wrN l f n) c) (wrN l f n) (tab (wrN l f n) (U8 (wrF l f))) ∧ Since w w'
theorem wr_post {f : Nat → Int} {n B : Nat} {l : Bool} {E : Int} {M c : Nat} {A' : Option Addr} {w w' : World} (hE : wrE l f n = E) (hM : M = if E = 0 then wide4 l * n else 0) (ho : w'.ownsRow B 5 1 (.slice A' M c) M (tab M (U8 (wrF l f)))) (hB : w.heap.size ≤ B) (hS : Since w w') :
    WrPost l f n w (.returned (.tuple #[.slice A' M c, .int .i64 E])) w' := by
  subst hE
  have e : wrN l f n = M := hM.symm
  unfold WrPost
  rw [e]
  exact ⟨A', c, rfl, own_low ho hB, hS⟩
theorem put_in (m : Nat) (x y : Int) (w : World) (hx : In64 x) (hy : y = m) (hm : m ≤ 8) : Calls Try.prog 29 #[.int .i64 x, .int .i64 y] w fun e w' => ∃ g, e = .returned (.slice (some ⟨g, 0, none⟩) m m) ∧ w.heap.size ≤ g ∧ Row w' g m (U8 (byteOf x m)) ∧ Since w w' := by
  subst hy
  have hc : clampW m = m := by unfold clampW; split <;> (try split) <;> omega
  have h := be_put x m w hx (by unfold In64; omega)
  rw [hc] at h
  exact h
theorem rput_in (m : Nat) (x y : Int) (w : World) (hx : In64 x) (hy : y = m) (hm : m ≤ 8) : Calls Try.prog 30 #[.int .i64 x, .int .i64 y] w fun e w' => ∃ g, e = .returned (.slice (some ⟨g, 0, none⟩) m m) ∧ w.heap.size ≤ g ∧ Row w' g m (U8 (byteOf x m)) ∧ Since w w' := by
  subst hy
  have hc : clampW m = m := by unfold clampW; split <;> (try split) <;> omega
  have h := ref_put x m w hx (by unfold In64; omega)
  rw [hc] at h
  exact h

theorem wr_next2 (j : Nat) (f : Nat → Int) (x : Int) (hx : x = f j / 2) : tab (2 * j) (U8 (wrF false f)) ++ tab 2 (U8 (byteOf x 2)) = tab (2 * (j + 1)) (U8 (wrF false f)) := by
  rw [tab_append, show 2 * (j + 1) = 2 * j + 2 by omega]
  refine tab_congr fun t ht => ?_
  by_cases htn : t < 2 * j
  · rw [if_pos htn]
  · rw [if_neg htn]
    have e1 : t / 2 = j := by omega
    have e2 : t % 2 = t - 2 * j := by omega
    subst hx
    simp only [U8, IntRow, wrF]
    rw [show wide4 false = 2 from rfl, e1, e2]
    rfl
set_option maxHeartbeats 8000000 in
theorem lo_write2 (A : Option Addr) (n c : Nat) (f : Nat → Int) (w : World) (hn : n * 8 ≤ 140737488355328) (hf : ∀ j, j < n → In64 (f j)) (h : Rd w w.heap.size A n (I64 f)) :
    Calls Try.prog 15 #[.slice A n c, .bool false] w (WrPost false f n w) := by
  obtain ⟨i0, hi0, hz0, hz1, hz2⟩ := info_parts Try.info_u8
  have hC := lo_check_false A n c f w (by simp only [maxLen]; omega) h
  have hr := wrE_cases false f n
  obtain ⟨E, hE⟩ : ∃ E, wrE false f n = E := ⟨_, rfl⟩
  rw [hE] at hC hr
  have HE := Lib.hid hE
  clear hE
  rcases hr with rfl | rfl | rfl
  · have hok := wr_ok HE.out
    have HK := Lib.hid hok.1
    clear hok
    have hn' : (n : Int) ≤ 17592186044416 := by omega
    have hcap : (2 : Int) * (n : Int) = ((2 * n : Nat) : Int) := by simp
    have b2 : i0.bytes * (2 * n) ≤ 281474976710656 := by rw [hz2]; omega
    have b3 : 2 * n ≤ maxLen := by simp only [maxLen]; omega
    have HC := Lib.hid hcap; clear hcap
    go_enter Try.func15, Try.ntmps15
    go_wp2_with (first | (go_at_call 28; (with_reducible refine hC.mono ?_); rintro e w1 ⟨rfl, hS1⟩) | (go_at_call 24; (with_reducible refine (lo_layout2 _).mono ?_); rintro e w1 ⟨rfl, rfl⟩) | (at_make; refine wpList_make_own _ (by rfl) _ _ _ (by rfl) w1.heap.size 5 i0 _ 1 Try.underlying22 hi0 hz0 hz1 .i64 .i64 _ (2 * n) (by rfl) (by rfl) HC.out b2 b3 (Nat.le_refl _) ?_; intro w2 hown2 hgr2; have hS2 := since_grown (Since.refl w1) hgr2 (fun k hk => by cases hk)))
    have hL := h.on hS1
    clear hgr2 h
    go_loopw [9, 30] (fun v y wr => ∃ j : Nat, j ≤ n ∧ y = .int .i64 (j : Int) ∧ Since w1 wr ∧ wr.ownsRow w1.heap.size 5 1 v (2 * j) (tab (2 * j) (U8 (wrF false f)))) (fun _ y _ => n - (intOf y).toNat)
    case atStart => exact ⟨0, by omega, rfl, hS2, hown2⟩
    case round =>
      obtain ⟨j, hj, rfl, hSr, hown⟩ := hrel
      clear hown2
      obtain ⟨vA, vc, rfl, hvc, hvr, hvb⟩ := own_any hown
      by_cases hjn : j < n
      · have hjn' : (j : Int) < n := by omega
        obtain ⟨b, o, rfl, hb, hc⟩ := hL (by omega)
        have hx : wr.cell? ⟨b, o + j, none⟩ = some (.int .i64 (f j)) := (hSr.1 _ _ hb).trans (hc j hjn)
        have hx0 : 0 ≤ f j := ok_nonneg HK.out hjn
        have hx1 := (hf j hjn).2
        have HX := Lib.hid (show f j = f j from rfl)
        obtain ⟨x, hxx⟩ : ∃ x, f j = x := ⟨_, rfl⟩
        have HXX := Lib.hid (show x = f j from hxx.symm)
        rw [hxx] at hx hx0 hx1
        have q3 : (2 * j + 2) * 1 ≤ 140737488355328 := by omega
        have q4 : 2 * j + 2 ≤ maxLen := by simp only [maxLen]; omega
        clear hxx hc hL HX hC
        go_wp2_with (first | (go_at_call 29; refine (put_in 2 _ _ _ (by unfold In64; omega) (by rfl) (by omega)).mono ?_; rintro e w4 ⟨g, rfl, hg, hR4, hS4⟩; have hown4 := own_since hown hS4; clear hvr hown; have hq := Rd.of_row hR4; have hS14 := hSr.trans hS4; have hq5 : w1.heap.size ≤ w4.heap.size := hS14.below.size) | (at_builtin; refine wpList_append_any _ (by rfl) _ _ _ (by rfl) w1.heap.size 5 i0 _ 1 Try.underlying22 hi0 hz0 hz1 hz2 (by rfl) _ (2 * j) _ (by rfl) hown4 w4.heap.size _ 2 2 _ (by rfl) hq tab_ones q3 q4 hq5 ?_; intro v' w5 hown5 hgr5; have hS5 := since_grown hS14 hgr5 hvb))
        refine ⟨⟨j + 1, by omega, by simp, hS5, ?_⟩, by simp [intOf]; omega⟩
        rw [wr_next2 j f _ (by simp [HXX.out])] at hown5
        exact hown5
      · obtain rfl : j = n := by omega
        clear hL hC
        go_wp2
        go_ret2
        exact wr_post HE.out rfl hown hS1.below.size (hS1.trans hSr)
  all_goals
    clear h
    go_enter Try.func15, Try.ntmps15
    go_wp2_with (go_at_call 28; (with_reducible refine hC.mono ?_); rintro e w1 ⟨rfl, hS1⟩)
    go_ret2
    exact wr_post HE.out rfl (World.ownsRow_nil _ _ _ _) (Nat.le_refl _) hS1

theorem wr_next4 (j : Nat) (f : Nat → Int) (x : Int) (hx : x = f j / 1) : tab (4 * j) (U8 (wrF true f)) ++ tab 4 (U8 (byteOf x 4)) = tab (4 * (j + 1)) (U8 (wrF true f)) := by
  rw [tab_append, show 4 * (j + 1) = 4 * j + 4 by omega]
  refine tab_congr fun t ht => ?_
  by_cases htn : t < 4 * j
  · rw [if_pos htn]
  · rw [if_neg htn]
    have e1 : t / 4 = j := by omega
    have e2 : t % 4 = t - 4 * j := by omega
    subst hx
    simp only [U8, IntRow, wrF]
    rw [show wide4 true = 4 from rfl, e1, e2]
    rfl
set_option maxHeartbeats 8000000 in
theorem lo_write4 (A : Option Addr) (n c : Nat) (f : Nat → Int) (w : World) (hn : n * 8 ≤ 140737488355328) (hf : ∀ j, j < n → In64 (f j)) (h : Rd w w.heap.size A n (I64 f)) :
    Calls Try.prog 15 #[.slice A n c, .bool true] w (WrPost true f n w) := by
  obtain ⟨i0, hi0, hz0, hz1, hz2⟩ := info_parts Try.info_u8
  have hC := lo_check_true A n c f w (by simp only [maxLen]; omega) h
  have hr := wrE_cases true f n
  obtain ⟨E, hE⟩ : ∃ E, wrE true f n = E := ⟨_, rfl⟩
  rw [hE] at hC hr
  have HE := Lib.hid hE
  clear hE
  rcases hr with rfl | rfl | rfl
  · have hok := wr_ok HE.out
    have HK := Lib.hid hok.1
    clear hok
    have hn' : (n : Int) ≤ 17592186044416 := by omega
    have hcap : (4 : Int) * (n : Int) = ((4 * n : Nat) : Int) := by simp
    have b2 : i0.bytes * (4 * n) ≤ 281474976710656 := by rw [hz2]; omega
    have b3 : 4 * n ≤ maxLen := by simp only [maxLen]; omega
    have HC := Lib.hid hcap; clear hcap
    go_enter Try.func15, Try.ntmps15
    go_wp2_with (first | (go_at_call 28; (with_reducible refine hC.mono ?_); rintro e w1 ⟨rfl, hS1⟩) | (go_at_call 24; (with_reducible refine (lo_layout4 _).mono ?_); rintro e w1 ⟨rfl, rfl⟩) | (at_make; refine wpList_make_own _ (by rfl) _ _ _ (by rfl) w1.heap.size 5 i0 _ 1 Try.underlying22 hi0 hz0 hz1 .i64 .i64 _ (4 * n) (by rfl) (by rfl) HC.out b2 b3 (Nat.le_refl _) ?_; intro w2 hown2 hgr2; have hS2 := since_grown (Since.refl w1) hgr2 (fun k hk => by cases hk)))
    have hL := h.on hS1
    clear hgr2 h
    go_loopw [9, 30] (fun v y wr => ∃ j : Nat, j ≤ n ∧ y = .int .i64 (j : Int) ∧ Since w1 wr ∧ wr.ownsRow w1.heap.size 5 1 v (4 * j) (tab (4 * j) (U8 (wrF true f)))) (fun _ y _ => n - (intOf y).toNat)
    case atStart => exact ⟨0, by omega, rfl, hS2, hown2⟩
    case round =>
      obtain ⟨j, hj, rfl, hSr, hown⟩ := hrel
      clear hown2
      obtain ⟨vA, vc, rfl, hvc, hvr, hvb⟩ := own_any hown
      by_cases hjn : j < n
      · have hjn' : (j : Int) < n := by omega
        obtain ⟨b, o, rfl, hb, hc⟩ := hL (by omega)
        have hx : wr.cell? ⟨b, o + j, none⟩ = some (.int .i64 (f j)) := (hSr.1 _ _ hb).trans (hc j hjn)
        have hx0 : 0 ≤ f j := ok_nonneg HK.out hjn
        have hx1 := (hf j hjn).2
        have HX := Lib.hid (show f j = f j from rfl)
        obtain ⟨x, hxx⟩ : ∃ x, f j = x := ⟨_, rfl⟩
        have HXX := Lib.hid (show x = f j from hxx.symm)
        rw [hxx] at hx hx0 hx1
        have q3 : (4 * j + 4) * 1 ≤ 140737488355328 := by omega
        have q4 : 4 * j + 4 ≤ maxLen := by simp only [maxLen]; omega
        clear hxx hc hL HX hC
        go_wp2_with (first | (go_at_call 29; refine (put_in 4 _ _ _ (by unfold In64; omega) (by rfl) (by omega)).mono ?_; rintro e w4 ⟨g, rfl, hg, hR4, hS4⟩; have hown4 := own_since hown hS4; clear hvr hown; have hq := Rd.of_row hR4; have hS14 := hSr.trans hS4; have hq5 : w1.heap.size ≤ w4.heap.size := hS14.below.size) | (at_builtin; refine wpList_append_any _ (by rfl) _ _ _ (by rfl) w1.heap.size 5 i0 _ 1 Try.underlying22 hi0 hz0 hz1 hz2 (by rfl) _ (4 * j) _ (by rfl) hown4 w4.heap.size _ 4 4 _ (by rfl) hq tab_ones q3 q4 hq5 ?_; intro v' w5 hown5 hgr5; have hS5 := since_grown hS14 hgr5 hvb))
        refine ⟨⟨j + 1, by omega, by simp, hS5, ?_⟩, by simp [intOf]; omega⟩
        rw [wr_next4 j f _ (by simp [HXX.out])] at hown5
        exact hown5
      · obtain rfl : j = n := by omega
        clear hL hC
        go_wp2
        go_ret2
        exact wr_post HE.out rfl hown hS1.below.size (hS1.trans hSr)
  all_goals
    clear h
    go_enter Try.func15, Try.ntmps15
    go_wp2_with (go_at_call 28; (with_reducible refine hC.mono ?_); rintro e w1 ⟨rfl, hS1⟩)
    go_ret2
    exact wr_post HE.out rfl (World.ownsRow_nil _ _ _ _) (Nat.le_refl _) hS1


theorem fit_is2 (f : Nat → Int) (j : Nat) : fitB false f j = (if false then decide (f j ≤ 4294967295) else (decide (f j ≤ 131070) && decide (f j % 2 = 0))) := rfl
set_option maxHeartbeats 8000000 in
theorem ref_write2 (A : Option Addr) (n c : Nat) (f : Nat → Int) (w : World) (hn : n * 8 ≤ 140737488355328) (hf : ∀ j, j < n → In64 (f j)) (h : Rd w w.heap.size A n (I64 f)) :
    Calls Try.prog 16 #[.slice A n c, .bool false] w (WrPost false f n w) := by
  obtain ⟨i0, hi0, hz0, hz1, hz2⟩ := info_parts Try.info_u8
  have hn' : (n : Int) ≤ 17592186044416 := by omega
  go_enter Try.func16, Try.ntmps16
  go_wp2
  go_loopw [13] (fun y wr => ∃ j : Nat, j ≤ n ∧ y = .int .i64 (j : Int) ∧ w = wr ∧ allB (okB f) j = true) (fun y _ => n - (intOf y).toNat)
  case atStart => exact ⟨0, by omega, rfl, rfl, rfl⟩
  case round =>
    obtain ⟨j, hj, rfl, rfl, hall⟩ := hrel
    have HA := Lib.hid hall; clear hall
    by_cases hjn : j < n
    · have hjn' : (j : Int) < n := by omega
      obtain ⟨b, o, rfl, hb, hc⟩ := h (by omega)
      have hx : w.cell? ⟨b, o + j, none⟩ = some (.int .i64 (f j)) := hc j hjn
      obtain ⟨x, hxx⟩ : ∃ x, f j = x := ⟨_, rfl⟩
      by_cases hx0 : x < 0
      · have hno : okB f j = false := by unfold okB; rw [hxx, decide_eq_false (by omega), Bool.false_and]
        have E := Lib.hid (show wrE false f n = 12 by unfold wrE; rw [allB_no hno hjn]; rfl)
        rw [hxx] at hx
        clear hc hxx hno h
        go_wp2
        go_ret2
        exact wr_post E.out rfl (World.ownsRow_nil _ _ _ _) (Nat.le_refl _) (Since.refl _)
      · by_cases hj0 : j = 0
        · have HB := Lib.hid (show okB f j = true by unfold okB; rw [hxx, decide_eq_true (by omega), hj0, asc_zero]; rfl)
          have hj0' : ¬ (0 : Int) < j := by omega
          rw [hxx] at hx
          clear hc hxx h hj0
          go_wp2
          refine ⟨⟨j + 1, by omega, by simp, by first | rfl | trivial, allB_next HA.out HB.out⟩, by simp [intOf]; omega⟩
        · have hy : w.cell? ⟨b, o + (j - 1), none⟩ = some (.int .i64 (f (j - 1))) := hc (j - 1) (by omega)
          obtain ⟨i, hi⟩ : ∃ i, j = i + 1 := ⟨j - 1, by omega⟩
          have hB := asc_next f i
          rw [← hi, hxx, show i = j - 1 by omega] at hB
          obtain ⟨y, hyy⟩ : ∃ y, f (j - 1) = y := ⟨_, rfl⟩
          rw [hyy] at hy hB
          rw [hxx] at hx
          have hj0' : (0 : Int) < j := by omega
          have hj1' : (1 : Int) ≤ j := by omega
          clear hyy hi hc h hj0 i
          by_cases hlt : y ≤ x
          · have HB := Lib.hid (show okB f j = true by unfold okB; rw [hxx, hB, decide_eq_true (by omega), decide_eq_true hlt]; rfl)
            clear hB hxx
            go_wp2
            refine ⟨⟨j + 1, by omega, by simp, by first | rfl | trivial, allB_next HA.out HB.out⟩, by simp [intOf]; omega⟩
          · have hno : okB f j = false := by unfold okB; rw [hB, decide_eq_false hlt, Bool.and_false]
            have E := Lib.hid (show wrE false f n = 12 by unfold wrE; rw [allB_no hno hjn]; rfl)
            clear hB hxx hno
            go_wp2
            go_ret2
            exact wr_post E.out rfl (World.ownsRow_nil _ _ _ _) (Nat.le_refl _) (Since.refl _)
    · obtain rfl : j = n := by omega
      go_wp2
      go_loopw [8, 36] (fun v y wr => ∃ i : Nat, i ≤ j ∧ y = .int .i64 (i : Int) ∧ Since w wr ∧ wr.ownsRow w.heap.size 5 1 v (2 * i) (tab (2 * i) (U8 (wrF false f))) ∧ allB (fitB false f) i = true) (fun _ y _ => j - (intOf y).toNat)
      case atStart => exact ⟨0, by omega, rfl, Since.refl _, World.ownsRow_nil _ _ _ _, rfl⟩
      case round =>
        obtain ⟨i, hi, rfl, hSr, hown, hall⟩ := hrel
        have HF := Lib.hid hall; clear hall
        obtain ⟨vA, vc, rfl, hvc, hvr, hvb⟩ := own_any hown
        by_cases hin : i < j
        · have hin' : (i : Int) < j := by omega
          obtain ⟨b, o, rfl, hb, hc⟩ := h (by omega)
          have hx : wr.cell? ⟨b, o + i, none⟩ = some (.int .i64 (f i)) := (hSr.1 _ _ hb).trans (hc i hin)
          have hx0 : 0 ≤ f i := ok_nonneg HA.out hin
          have hx1 := (hf i hin).2
          obtain ⟨x, hxx⟩ : ∃ x, f i = x := ⟨_, rfl⟩
          have HXX := Lib.hid (show x = f i from hxx.symm)
          have hfit := fit_is2 f i
          rw [hxx] at hx hx0 hx1 hfit
          clear hxx hc h hf
          by_cases hle : x ≤ 131070
          · by_cases hev : false = true ∨ x % 2 = 0
            rotate_left
            · first
              | exact absurd (Or.inl rfl) hev
              | (have hev3 : ¬ x % 2 = 0 := fun h => hev (.inr h)
                 have hno : fitB false f i = false := by rw [hfit]; simp; omega
                 have E := Lib.hid (show wrE false f j = 6 by unfold wrE; rw [HA.out, allB_no hno hin]; rfl)
                 have hev' : (x % 2 != 0) = true := by simp; omega
                 have hev2 : decide (x % 2 = 0) = false := by simp; omega
                 clear hfit hno hev hev3
                 go_wp2
                 go_ret2
                 exact wr_post E.out rfl (World.ownsRow_nil _ _ _ _) (Nat.le_refl _) hSr)
            try (have hev2 : (x % 2 != 0) = false := by (rcases hev with h | h; · cases h); simp [h])
            try (have hev3 : decide (x % 2 = 0) = true := by (rcases hev with h | h; · cases h); simp [h])
            have HB := Lib.hid (show fitB false f i = true by rw [hfit]; simp at hev ⊢ <;> omega)
            have q3 : (2 * i + 2) * 1 ≤ 140737488355328 := by omega
            have q4 : 2 * i + 2 ≤ maxLen := by simp only [maxLen]; omega
            clear hfit
            go_wp2_with (first | (go_at_call 30; refine (rput_in 2 _ _ _ (by unfold In64; omega) (by rfl) (by omega)).mono ?_; rintro e w4 ⟨g, rfl, hg, hR4, hS4⟩; have hown4 := own_since hown hS4; clear hvr hown; have hq := Rd.of_row hR4; have hS14 := hSr.trans hS4; have hq5 : w.heap.size ≤ w4.heap.size := hS14.below.size) | (at_builtin; refine wpList_append_any _ (by rfl) _ _ _ (by rfl) w.heap.size 5 i0 _ 1 Try.underlying22 hi0 hz0 hz1 hz2 (by rfl) _ (2 * i) _ (by rfl) hown4 w4.heap.size _ 2 2 _ (by rfl) hq tab_ones q3 q4 hq5 ?_; intro v' w5 hown5 hgr5; have hS5 := since_grown hS14 hgr5 hvb))
            refine ⟨⟨i + 1, by omega, by simp, hS5, ?_, allB_next HF.out HB.out⟩, by simp [intOf]; omega⟩
            rw [wr_next2 i f _ (by simp [HXX.out])] at hown5
            exact hown5
          · have hno : fitB false f i = false := by rw [hfit]; simp; omega
            have E := Lib.hid (show wrE false f j = 6 by unfold wrE; rw [HA.out, allB_no hno hin]; rfl)
            clear hfit hno
            go_wp2
            all_goals
              go_ret2
              exact wr_post E.out rfl (World.ownsRow_nil _ _ _ _) (Nat.le_refl _) hSr
        · obtain rfl : i = j := by omega
          have E := Lib.hid (show wrE false f i = 0 by unfold wrE; rw [HA.out, HF.out]; rfl)
          clear h hf
          go_wp2
          go_ret2
          exact wr_post E.out rfl hown (Nat.le_refl _) hSr

theorem fit_is4 (f : Nat → Int) (j : Nat) : fitB true f j = (if true then decide (f j ≤ 4294967295) else (decide (f j ≤ 131070) && decide (f j % 2 = 0))) := rfl
set_option maxHeartbeats 8000000 in
theorem ref_write4 (A : Option Addr) (n c : Nat) (f : Nat → Int) (w : World) (hn : n * 8 ≤ 140737488355328) (hf : ∀ j, j < n → In64 (f j)) (h : Rd w w.heap.size A n (I64 f)) :
    Calls Try.prog 16 #[.slice A n c, .bool true] w (WrPost true f n w) := by
  obtain ⟨i0, hi0, hz0, hz1, hz2⟩ := info_parts Try.info_u8
  have hn' : (n : Int) ≤ 17592186044416 := by omega
  go_enter Try.func16, Try.ntmps16
  go_wp2
  go_loopw [13] (fun y wr => ∃ j : Nat, j ≤ n ∧ y = .int .i64 (j : Int) ∧ w = wr ∧ allB (okB f) j = true) (fun y _ => n - (intOf y).toNat)
  case atStart => exact ⟨0, by omega, rfl, rfl, rfl⟩
  case round =>
    obtain ⟨j, hj, rfl, rfl, hall⟩ := hrel
    have HA := Lib.hid hall; clear hall
    by_cases hjn : j < n
    · have hjn' : (j : Int) < n := by omega
      obtain ⟨b, o, rfl, hb, hc⟩ := h (by omega)
      have hx : w.cell? ⟨b, o + j, none⟩ = some (.int .i64 (f j)) := hc j hjn
      obtain ⟨x, hxx⟩ : ∃ x, f j = x := ⟨_, rfl⟩
      by_cases hx0 : x < 0
      · have hno : okB f j = false := by unfold okB; rw [hxx, decide_eq_false (by omega), Bool.false_and]
        have E := Lib.hid (show wrE true f n = 12 by unfold wrE; rw [allB_no hno hjn]; rfl)
        rw [hxx] at hx
        clear hc hxx hno h
        go_wp2
        go_ret2
        exact wr_post E.out rfl (World.ownsRow_nil _ _ _ _) (Nat.le_refl _) (Since.refl _)
      · by_cases hj0 : j = 0
        · have HB := Lib.hid (show okB f j = true by unfold okB; rw [hxx, decide_eq_true (by omega), hj0, asc_zero]; rfl)
          have hj0' : ¬ (0 : Int) < j := by omega
          rw [hxx] at hx
          clear hc hxx h hj0
          go_wp2
          refine ⟨⟨j + 1, by omega, by simp, by first | rfl | trivial, allB_next HA.out HB.out⟩, by simp [intOf]; omega⟩
        · have hy : w.cell? ⟨b, o + (j - 1), none⟩ = some (.int .i64 (f (j - 1))) := hc (j - 1) (by omega)
          obtain ⟨i, hi⟩ : ∃ i, j = i + 1 := ⟨j - 1, by omega⟩
          have hB := asc_next f i
          rw [← hi, hxx, show i = j - 1 by omega] at hB
          obtain ⟨y, hyy⟩ : ∃ y, f (j - 1) = y := ⟨_, rfl⟩
          rw [hyy] at hy hB
          rw [hxx] at hx
          have hj0' : (0 : Int) < j := by omega
          have hj1' : (1 : Int) ≤ j := by omega
          clear hyy hi hc h hj0 i
          by_cases hlt : y ≤ x
          · have HB := Lib.hid (show okB f j = true by unfold okB; rw [hxx, hB, decide_eq_true (by omega), decide_eq_true hlt]; rfl)
            clear hB hxx
            go_wp2
            refine ⟨⟨j + 1, by omega, by simp, by first | rfl | trivial, allB_next HA.out HB.out⟩, by simp [intOf]; omega⟩
          · have hno : okB f j = false := by unfold okB; rw [hB, decide_eq_false hlt, Bool.and_false]
            have E := Lib.hid (show wrE true f n = 12 by unfold wrE; rw [allB_no hno hjn]; rfl)
            clear hB hxx hno
            go_wp2
            go_ret2
            exact wr_post E.out rfl (World.ownsRow_nil _ _ _ _) (Nat.le_refl _) (Since.refl _)
    · obtain rfl : j = n := by omega
      go_wp2
      go_loopw [8, 36] (fun v y wr => ∃ i : Nat, i ≤ j ∧ y = .int .i64 (i : Int) ∧ Since w wr ∧ wr.ownsRow w.heap.size 5 1 v (4 * i) (tab (4 * i) (U8 (wrF true f))) ∧ allB (fitB true f) i = true) (fun _ y _ => j - (intOf y).toNat)
      case atStart => exact ⟨0, by omega, rfl, Since.refl _, World.ownsRow_nil _ _ _ _, rfl⟩
      case round =>
        obtain ⟨i, hi, rfl, hSr, hown, hall⟩ := hrel
        have HF := Lib.hid hall; clear hall
        obtain ⟨vA, vc, rfl, hvc, hvr, hvb⟩ := own_any hown
        by_cases hin : i < j
        · have hin' : (i : Int) < j := by omega
          obtain ⟨b, o, rfl, hb, hc⟩ := h (by omega)
          have hx : wr.cell? ⟨b, o + i, none⟩ = some (.int .i64 (f i)) := (hSr.1 _ _ hb).trans (hc i hin)
          have hx0 : 0 ≤ f i := ok_nonneg HA.out hin
          have hx1 := (hf i hin).2
          obtain ⟨x, hxx⟩ : ∃ x, f i = x := ⟨_, rfl⟩
          have HXX := Lib.hid (show x = f i from hxx.symm)
          have hfit := fit_is4 f i
          rw [hxx] at hx hx0 hx1 hfit
          clear hxx hc h hf
          by_cases hle : x ≤ 4294967295
          · by_cases hev : true = true ∨ x % 2 = 0
            rotate_left
            · first
              | exact absurd (Or.inl rfl) hev
              | (have hev3 : ¬ x % 2 = 0 := fun h => hev (.inr h)
                 have hno : fitB true f i = false := by rw [hfit]; simp; omega
                 have E := Lib.hid (show wrE true f j = 6 by unfold wrE; rw [HA.out, allB_no hno hin]; rfl)
                 have hev' : (x % 2 != 0) = true := by simp; omega
                 have hev2 : decide (x % 2 = 0) = false := by simp; omega
                 clear hfit hno hev hev3
                 go_wp2
                 go_ret2
                 exact wr_post E.out rfl (World.ownsRow_nil _ _ _ _) (Nat.le_refl _) hSr)
            try (have hev2 : (x % 2 != 0) = false := by (rcases hev with h | h; · cases h); simp [h])
            try (have hev3 : decide (x % 2 = 0) = true := by (rcases hev with h | h; · cases h); simp [h])
            have HB := Lib.hid (show fitB true f i = true by rw [hfit]; simp at hev ⊢ <;> omega)
            have q3 : (4 * i + 4) * 1 ≤ 140737488355328 := by omega
            have q4 : 4 * i + 4 ≤ maxLen := by simp only [maxLen]; omega
            clear hfit
            go_wp2_with (first | (go_at_call 30; refine (rput_in 4 _ _ _ (by unfold In64; omega) (by rfl) (by omega)).mono ?_; rintro e w4 ⟨g, rfl, hg, hR4, hS4⟩; have hown4 := own_since hown hS4; clear hvr hown; have hq := Rd.of_row hR4; have hS14 := hSr.trans hS4; have hq5 : w.heap.size ≤ w4.heap.size := hS14.below.size) | (at_builtin; refine wpList_append_any _ (by rfl) _ _ _ (by rfl) w.heap.size 5 i0 _ 1 Try.underlying22 hi0 hz0 hz1 hz2 (by rfl) _ (4 * i) _ (by rfl) hown4 w4.heap.size _ 4 4 _ (by rfl) hq tab_ones q3 q4 hq5 ?_; intro v' w5 hown5 hgr5; have hS5 := since_grown hS14 hgr5 hvb))
            refine ⟨⟨i + 1, by omega, by simp, hS5, ?_, allB_next HF.out HB.out⟩, by simp [intOf]; omega⟩
            rw [wr_next4 i f _ (by simp [HXX.out])] at hown5
            exact hown5
          · have hno : fitB true f i = false := by rw [hfit]; simp; omega
            have E := Lib.hid (show wrE true f j = 6 by unfold wrE; rw [HA.out, allB_no hno hin]; rfl)
            clear hfit hno
            go_wp2
            all_goals
              go_ret2
              exact wr_post E.out rfl (World.ownsRow_nil _ _ _ _) (Nat.le_refl _) hSr
        · obtain rfl : i = j := by omega
          have E := Lib.hid (show wrE true f i = 0 by unfold wrE; rw [HA.out, HF.out]; rfl)
          clear h hf
          go_wp2
          go_ret2
          exact wr_post E.out rfl hown (Nat.le_refl _) hSr


set_option maxHeartbeats 4000000 in
theorem ref_long (A : Option Addr) (n c : Nat) (f : Nat → Int) (w : World) (hn : n * 8 ≤ 140737488355328) (hf : ∀ j, j < n → In64 (f j)) (h : Rd w w.heap.size A n (I64 f)) :
    Calls Try.prog 18 #[.slice A n c] w fun e w' => e = .returned (.bool (wrE false f n != 0)) ∧ Since w w' := by
  have hC := ref_write2 A n c f w hn hf h
  clear h
  unfold WrPost at hC
  have hr := wrE_cases false f n
  generalize wrE false f n = E at *
  generalize wrN false f n = N at *
  rcases hr with rfl | rfl | rfl
  all_goals
    go_enter Try.func18, Try.ntmps18
    go_wp2_with (go_at_call 16; (with_reducible refine hC.mono ?_); rintro e w1 ⟨A1, c1, rfl, hown, hS1⟩)
    go_ret
    exact ⟨rfl, hS1⟩
end Go.Proofs.Ytefalfdillnkfaa
