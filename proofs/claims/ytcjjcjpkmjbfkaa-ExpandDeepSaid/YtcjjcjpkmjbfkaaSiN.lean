/-
  Layer 7: readKnots, walked.
-/
import Derived.Test.YtcjjcjpkmjbfkaaMhC
import Derived.Test.YtcjjcjpkmjbfkaaSiJ
namespace Go.Proofs.Ytcjjcjpkmjbfkaa
open Go.RowKit Go.ChangeShapes Go.WideShapes Go.Deep
set_option linter.unusedVariables false
set_option linter.unusedSimpArgs false

theorem fl_le (f : Nat → Int) (n : Nat) (hf : ∀ j, j < n → 0 ≤ f j ∧ f j ≤ 255) : ∀ (k m p : Nat), p ≤ n → (flGo f n k m p).e = 0 → (flGo f n k m p).p ≤ n ∧ Bytes (flGo f n k m p).L := by
  intro k
  induction k with
  | zero => intro m p hp _; exact ⟨hp, fun v hv => by cases hv⟩
  | succ k ih =>
    intro m p hp h
    cases m with
    | zero => exact ⟨hp, fun v hv => by cases hv⟩
    | succ m =>
      rw [fl_cons] at h ⊢
      by_cases h1 : n < p + 1
      · rw [if_pos h1] at h; cases h
      · rw [if_neg h1] at h ⊢
        have hb := hf p (by omega)
        by_cases h8 : Has8 (f p) 8
        · rw [if_pos h8] at h ⊢
          by_cases h2 : n < p + 2
          · rw [if_pos h2] at h; cases h
          · rw [if_neg h2] at h ⊢
            by_cases h3 : (m : Int) < f (p + 1)
            · rw [if_pos h3] at h; cases h
            · rw [if_neg h3] at h ⊢
              by_cases h4 : (flGo f n k (m - (f (p + 1)).toNat) (p + 2)).e ≠ 0
              · rw [if_pos h4] at h; exact absurd h h4
              · rw [if_neg h4]
                obtain ⟨i1, i2⟩ := ih (m - (f (p + 1)).toNat) (p + 2) (by omega) (Decidable.not_not.1 h4)
                refine ⟨i1, bytes_app (fun v hv => ?_) i2⟩
                rw [List.eq_of_mem_replicate hv]; exact hb
        · rw [if_neg h8] at h ⊢
          by_cases h4 : (flGo f n k m (p + 1)).e ≠ 0
          · rw [if_pos h4] at h; exact absurd h h4
          · rw [if_neg h4]
            obtain ⟨i1, i2⟩ := ih m (p + 1) (by omega) (Decidable.not_not.1 h4)
            refine ⟨i1, fun v hv => ?_⟩
            rcases List.mem_cons.1 hv with rfl | hv
            · exact hb
            · exact i2 v hv
theorem pl_le (f : Nat → Int) (n : Nat) (is sm : Int) : ∀ (gs : List Int) (v : Int) (p : Nat), p ≤ n → (plGo f n is sm gs v p).e = 0 → (plGo f n is sm gs v p).p ≤ n := by
  intro gs
  induction gs with
  | nil => intro v p hp _; exact hp
  | cons g r ih =>
    intro v p hp h
    obtain ⟨h1, _, h3, _, h5⟩ := pl_step h
    rw [h5]
    exact ih _ _ h1 h3
theorem OwnG.row {α : Type} {t : TypeId} {k : Nat} {enc : α → List Value} {w : World} {base g n c : Nat} {L : List α} (hk0 : 0 < k) (hk : ∀ a, (enc a).length = k) (h : OwnG t k enc w base (.slice (some ⟨g, 0, none⟩) n c) L) : Row w g (L.length * k) (fun j => (cellsG enc L).getD j undef) := by
  have hn : n = L.length := by
    rcases h.2 with ⟨h0, _⟩ | ⟨g', cap, cur, h0, _⟩
    · cases h0
    · injection h0
  subst hn
  unfold OwnG at h
  rw [cellsG_tab hk] at h
  exact row_of_own_k hk0 h
theorem and7_1 {x : Int} (h0 : 0 ≤ x) (h1 : x ≤ 255) : ∃ s, andB x 1 s := by
  have h := and_pow x 0 h0 (by omega) (by omega)
  simp only [Int.reducePow] at h
  refine ⟨decide (Has8 x 1), rfl, ?_⟩
  rw [h]; unfold Has8
  by_cases e : x / 1 % 2 = 1 <;> simp [e]
def K07 : Kt := ⟨0, 0, false⟩
/-- The cells of knots of which the first j are laid. -/
def KF (X Y : Nat → Int) (O : Nat → Bool) (j t : Nat) : Value := if t / 3 < j then (if t % 3 = 0 then .int .i64 (X (t / 3)) else if t % 3 = 1 then .int .i64 (Y (t / 3)) else .bool (O (t / 3))) else if t % 3 = 2 then .bool false else .int .i64 0
theorem kf_step (X Y : Nat → Int) (O : Nat → Bool) (j t : Nat) : (if t = j * 3 + 2 then Value.bool (O j) else if t = j * 3 + 1 then .int .i64 (Y j) else if t = j * 3 then .int .i64 (X j) else KF X Y O j t) = KF X Y O (j + 1) t := by
  by_cases h : t / 3 = j
  · have h3 : t % 3 = 0 ∨ t % 3 = 1 ∨ t % 3 = 2 := by omega
    unfold KF
    rw [if_pos (show t / 3 < j + 1 by omega), h]
    rcases h3 with e | e | e
    · rw [if_neg (by omega), if_neg (by omega), if_pos (by omega), if_pos e]
    · rw [if_neg (by omega), if_pos (by omega), if_neg (by omega), if_pos e]
    · rw [if_pos (by omega), if_neg (by omega), if_neg (by omega)]
  · rw [if_neg (by omega), if_neg (by omega), if_neg (by omega)]
    unfold KF
    by_cases h2 : t / 3 < j
    · rw [if_pos h2, if_pos (show t / 3 < j + 1 by omega)]
    · rw [if_neg h2, if_neg (show ¬ t / 3 < j + 1 by omega)]
theorem kf_zero (n t : Nat) (ht : t < n * 3) (X Y : Nat → Int) (O : Nat → Bool) : (cellsG knL (List.replicate n K07)).getD t undef = KF X Y O 0 t := by
  have h1 : t / 3 < n := by omega
  have h := cellsG_get knL_len (List.replicate n K07) (t / 3) K07 (by rw [List.getElem?_replicate, if_pos h1]) (t % 3) (by omega)
  rw [show t / 3 * 3 + t % 3 = t by omega] at h
  rw [List.getD_eq_getElem?_getD, h]
  unfold KF
  rw [if_neg (by omega)]
  have h3 : t % 3 = 0 ∨ t % 3 = 1 ∨ t % 3 = 2 := by omega
  rcases h3 with e | e | e <;> rw [e] <;> rfl
theorem kf_rd {w : World} {g m : Nat} {X Y : Nat → Int} {O : Nat → Bool} (h : Row w g (m * 3) (KF X Y O m)) : RdK w w.heap.size (some ⟨g, 0, none⟩) m X Y O := fun hm => by
  refine ⟨g, 0, rfl, h.2.2, fun j hj => ⟨?_, ?_, ?_⟩⟩
  · rw [Nat.zero_add, h.1 _ (by omega)]; unfold KF; rw [if_pos (by omega), if_pos (by omega), show j * 3 / 3 = j by omega]
  · rw [Nat.zero_add, h.1 _ (by omega)]; unfold KF; rw [if_pos (by omega), if_neg (by omega), if_pos (by omega), show (j * 3 + 1) / 3 = j by omega]
  · rw [Nat.zero_add, h.1 _ (by omega)]; unfold KF; rw [if_pos (by omega), if_neg (by omega), if_neg (by omega), show (j * 3 + 2) / 3 = j by omega]
/-- What 'readKnots' leaves. -/
def KnPost7 (T : Kn7) (m : Nat) (w : World) (e : Ending) (w' : World) : Prop :=
  Since w w' ∧ ((T.e ≠ 0 ∧ e = .returned (.tuple #[.slice none 0 0, .int .i64 T.e])) ∨ (T.e = 0 ∧ ∃ b, e = .returned (.tuple #[.slice (some ⟨b, 0, none⟩) m m, .int .i64 0]) ∧ RdKl w' w'.heap.size (some ⟨b, 0, none⟩) (ktL m (fnL T.X) (fnL T.Y) (fun j => decide (Has8 (fnL T.G j) 1)))))
theorem knpost_no {T : Kn7} {m : Nat} {w w' : World} {x : Int} (hT : T.e = x) (hx : x ≠ 0) (hS : Since w w') : KnPost7 T m w (.returned (.tuple #[.slice none 0 0, .int .i64 x])) w' := by
  subst hT; exact ⟨hS, .inl ⟨hx, rfl⟩⟩
set_option maxRecDepth 100000 in
set_option maxHeartbeats 16000000 in
theorem si_knots (A : Option Addr) (n c : Nat) (f : Nat → Int) (p m : Nat) (x : Int) (w : World) (h : Rd w w.heap.size A n (U8 f)) (hf : ∀ j, j < n → 0 ≤ f j ∧ f j ≤ 255) (hx : x = (m : Int)) (hpn : p ≤ n) (hn : n ≤ 140737488355328) (hm : m ≤ 4096) :
    Calls Try.prog 57 #[.slice A n c, .int .i64 p, .int .i64 x] w (KnPost7 (knGo f n m p) m w) := by
  subst hx
  have hC := si_flags A n c f p m w h hf hpn hn hm
  obtain ⟨F, hF⟩ : ∃ F, F = flGo f n m m p := ⟨_, rfl⟩
  rw [← hF] at hC
  have hFl := fl_len f n (fun j hj => (hf j hj).1) m m p (Nat.le_refl _)
  have hFb := fl_le f n hf m m p hpn
  rw [← hF] at hFl hFb
  by_cases hFe : F.e = 0
  · have hFL := hFl hFe
    obtain ⟨hFp, hFB⟩ := hFb hFe
    obtain ⟨PX, hPX⟩ : ∃ PX, PX = plGo f n 2 16 F.L 0 F.p := ⟨_, rfl⟩
    obtain ⟨PY, hPY⟩ : ∃ PY, PY = plGo f n 4 32 F.L 0 PX.p := ⟨_, rfl⟩
    by_cases hXe : PX.e = 0
    · have hXp := pl_le f n 2 16 F.L 0 F.p hFp (by rw [← hPX]; exact hXe)
      rw [← hPX] at hXp
      have HX := Lib.hid (fun (B : Option Addr) (d : Nat) (w2 : World) (h2 : Since w w2) (hr : Rd w2 w2.heap.size B m (I64 (fnL F.L))) => si_places2 A n c f F.p B m d F.L w2 (h.on h2) hf hr hFL.symm hFB hFp hn hm (by rw [← hPX]; exact hXe))
      rw [← hPX] at HX
      by_cases hYe : PY.e = 0
      · have HY := Lib.hid (fun (B : Option Addr) (d : Nat) (w2 : World) (h2 : Since w w2) (hr : Rd w2 w2.heap.size B m (I64 (fnL F.L))) => si_places4 A n c f PX.p B m d F.L w2 (h.on h2) hf hr hFL.symm hFB hXp hn hm (by rw [← hPY]; exact hYe))
        rw [← hPY] at HY
        have EK := Lib.hid (show knGo f n m p = ⟨0, F.L, PX.L, PY.L⟩ by unfold knGo; rw [← hF, if_neg (by simp [hFe]), ← hPX, if_neg (by simp [hXe]), ← hPY, if_neg (by simp [hYe])])
        unfold FlPost7 at hC
        rw [hFe] at hC
        obtain ⟨FL, hFL0⟩ : ∃ FL, FL = F.L := ⟨_, rfl⟩
        obtain ⟨XL, hXL0⟩ : ∃ XL, XL = PX.L := ⟨_, rfl⟩
        obtain ⟨YL, hYL0⟩ : ∃ YL, YL = PY.L := ⟨_, rfl⟩
        obtain ⟨fp, hfp⟩ : ∃ fp, fp = F.p := ⟨_, rfl⟩
        obtain ⟨xp, hxp⟩ : ∃ xp, xp = PX.p := ⟨_, rfl⟩
        obtain ⟨yp, hyp⟩ : ∃ yp, yp = PY.p := ⟨_, rfl⟩
        rw [← hFL0] at hC HX HY EK hFL hFB
        rw [← hXL0] at HX EK
        rw [← hYL0] at HY EK
        rw [← hfp] at hC HX
        rw [← hxp] at HX HY
        rw [← hyp] at HY
        have hbm : 24 * m ≤ 281474976710656 := by omega
        have hmx : m ≤ maxLen := by simp only [maxLen]; omega
        have hmI : (m : Int) ≤ 4096 := by omega
        have tokX : True := trivial
        have tokY : True := trivial
        have HFB := Lib.hid hFB
        clear h hf hF hFl hFb hFe hFp hPX hPY hXe hYe hXp hFL0 hXL0 hYL0 hfp hxp hyp hFB
        go_enter Try.func57, Try.ntmps57
        go_wp2_with (first | (go_at_call 67; (with_reducible refine hC.mono ?_); rintro e w2 ⟨v, rfl, hO, hS2⟩; obtain ⟨Av, cv, rfl, hcv, hrv⟩ := hO.rd (by omega) inL_len; have hB2 := rdi_rd' hrv (rfl : FL.length = FL.length); rw [hFL] at hB2 hcv hO ⊢; clear hrv hO) | (go_at_call 68; have _t := tokX; (with_reducible refine (HX.out _ _ _ hS2 hB2).mono ?_); rintro e w3 ⟨bx, rfl, hbx, hX3, hS3⟩; have hT3 := hS2.trans hS3; have hB3 := hB2.on hS3; clear tokX hB2 hbx) | (go_at_call 68; have _t := tokY; (with_reducible refine (HY.out _ _ _ hT3 hB3).mono ?_); rintro e w4 ⟨by_, rfl, hby, hY4, hS4⟩; have hT4 := hT3.trans hS4; have hB4 := hB3.on hS4; have hX4 := hX3.on hS4; have hz4 := hT4.below.size; clear tokY hB3 hX3 hby) | (at_make; refine wpList_make_g rfl _ _ 63 62 rfl (by omega) knL_len 24 K07 Try.underlying63 infoKn2 m rfl rfl hbm hmx w.heap.size hz4 ?_; intro w5 hO5 hg5; have hS5 : Since w4 w5 := since_grown (Since.refl w4) hg5 (fun q hq => by cases hq)))
        obtain ⟨g, hg⟩ : ∃ g, g = w4.heap.size := ⟨_, rfl⟩
        rw [← hg] at hO5 ⊢
        have hgw : w.heap.size ≤ g := by omega
        have hR5 : Row w5 g (m * 3) (KF (fnL XL) (fnL YL) (fun j => decide (Has8 (fnL FL j) 1)) 0) := by
          have h1 := hO5.row (by omega) knL_len
          rw [List.length_replicate] at h1
          exact h1.congr (fun t ht => kf_zero m t ht _ _ _)
        have hg1 : w4.heap.size ≤ g := by omega
        clear hO5 hg5 hg
        go_loopw [52] (fun y wr => ∃ (j : Nat), j ≤ m ∧ y = .int .i64 (j : Int) ∧ Since w4 wr ∧ Row wr g (m * 3) (KF (fnL XL) (fnL YL) (fun j => decide (Has8 (fnL FL j) 1)) j)) (fun y _ => m - (intOf y).toNat)
        case atStart => exact ⟨0, by omega, rfl, hS5, hR5⟩
        case round =>
          obtain ⟨j, hj, rfl, hSr, hR⟩ := hrel
          clear hR5 hS5
          have hT := hT4.trans hSr
          by_cases hjm : j < m
          · have hjm' : (j : Int) < (m : Int) := by omega
            obtain ⟨b1, o1, rfl, hb1, hc1⟩ := hB4 (by omega)
            obtain ⟨b2, o2, e2, hb2, hc2⟩ := hX4 (by omega)
            obtain ⟨b3, o3, e3, hb3, hc3⟩ := hY4 (by omega)
            have hl1 := (hSr.1 _ _ hb1).trans (hc1 j hjm)
            have hl2 := (hSr.1 _ _ hb2).trans (hc2 j hjm)
            have hl3 := (hSr.1 _ _ hb3).trans (hc3 j hjm)
            injection e2 with e2
            injection e2 with e2 e2'
            subst e2 e2'
            injection e3 with e3
            injection e3 with e3 e3'
            subst e3 e3'
            simp only [I64, IntRow, Nat.zero_add] at hl1 hl2 hl3
            have p1 := hR.1 (j * 3) (by omega)
            have p2 := hR.1 (j * 3 + 1) (by omega)
            have p3 := hR.1 (j * 3 + 2) (by omega)
            have f1 := hR.2.1 (j * 3)
            have f2 := hR.2.1 (j * 3 + 1)
            have f3 := hR.2.1 (j * 3 + 2)
            have hgz := hR.2.2
            have n1 : b1 ≠ g := by omega
            have n2 : bx ≠ g := by omega
            have n3 : by_ ≠ g := by omega
            have n4 : g ≠ b1 := by omega
            have n5 : g ≠ bx := by omega
            have n6 : g ≠ by_ := by omega
            have hgr := HFB.out (fnL FL j) (List.mem_of_getElem? (fnL_get (by omega)))
            obtain ⟨s, hs, hb⟩ := and7_1 hgr.1 hgr.2
            have HS := Lib.hid hs
            have HRR := Lib.hid hR
            have HST := Lib.hid (fun t => kf_step (fnL XL) (fnL YL) (fun j => decide (Has8 (fnL FL j) 1)) j t)
            rw [hs] at HST
            clear hs hgr hR hc1 hc2 hc3
            generalize KF (fnL XL) (fnL YL) (fun j => decide (Has8 (fnL FL j) 1)) (j * 3) = q1 at *
            generalize KF (fnL XL) (fnL YL) (fun j => decide (Has8 (fnL FL j) 1)) (j * 3 + 1) = q2 at *
            generalize KF (fnL XL) (fnL YL) (fun j => decide (Has8 (fnL FL j) 1)) (j * 3 + 2) = q3 at *
            generalize fnL FL j = v1 at *
            generalize fnL XL j = v2 at *
            generalize fnL YL j = v3 at *
            cases s
            all_goals
              simp only [if_true, if_false, Bool.false_eq_true] at hb
              go_upto_region 14 with fail
              go_region
              all_goals go_wp2_with fail
              all_goals go_roundw
              all_goals first | (simp [intOf]; omega) | exact ⟨j + 1, by omega, by first | rfl | go_num, ((((hSr.setCell (show w4.heap.size ≤ (Addr.mk g (j * 3) none).block from hg1) _).setCell (show w4.heap.size ≤ (Addr.mk g (j * 3 + 1) none).block from hg1) _).setCell (show w4.heap.size ≤ (Addr.mk g (j * 3 + 2) none).block from hg1) _)).drew, Row.drew ((((HRR.out.set _ _).set _ _).set _ _).congr (fun t ht => HST.out t))⟩
          · obtain rfl : j = m := by omega
            have hRD := (kf_rd hR).list
            clear hR hB4 hX4 hY4
            go_wp2_with fail
            go_ret2
            refine ⟨hT, .inr ?_⟩
            rw [EK.out]
            exact ⟨rfl, g, by first | rfl | simp, hRD⟩
      · have hYN := Lib.hid (fun (B : Option Addr) (d : Nat) (w2 : World) (h2 : Since w w2) (hr : Rd w2 w2.heap.size B m (I64 (fnL F.L))) => si_places_no4 A n c f PX.p B m d F.L w2 (h.on h2) hf hr hFL.symm hFB hXp hn hm PY.e hYe (by rw [← hPY]))
        have E := Lib.hid (show (knGo f n m p).e = PY.e by unfold knGo; rw [← hF, if_neg (by simp [hFe]), ← hPX, if_neg (by simp [hXe]), ← hPY, if_pos hYe])
        unfold FlPost7 at hC
        rw [hFe] at hC
        have d0 : (PY.e == 0) = false := by simpa using hYe
        obtain ⟨FL, hFL0⟩ : ∃ FL, FL = F.L := ⟨_, rfl⟩
        obtain ⟨fp, hfp⟩ : ∃ fp, fp = F.p := ⟨_, rfl⟩
        obtain ⟨xp, hxp⟩ : ∃ xp, xp = PX.p := ⟨_, rfl⟩
        obtain ⟨ye, hye⟩ : ∃ ye, ye = PY.e := ⟨_, rfl⟩
        rw [← hFL0] at hC HX hYN hFL
        rw [← hfp] at hC HX
        rw [← hxp] at HX hYN
        rw [← hye] at hYN E d0 hYe
        have tokX : True := trivial
        have tokY : True := trivial
        clear h hf hF hFl hFb hFe hFp hPX hPY hXe hXp hFL0 hfp hxp hye hFB
        go_enter Try.func57, Try.ntmps57
        go_wp2_with (first | (go_at_call 67; (with_reducible refine hC.mono ?_); rintro e w2 ⟨v, rfl, hO, hS2⟩; obtain ⟨Av, cv, rfl, hcv, hrv⟩ := hO.rd (by omega) inL_len; have hB2 := rdi_rd' hrv (rfl : FL.length = FL.length); rw [hFL] at hB2 hcv hO ⊢; clear hrv hO) | (go_at_call 68; have _t := tokX; (with_reducible refine (HX.out _ _ _ hS2 hB2).mono ?_); rintro e w3 ⟨bx, rfl, hbx, hX3, hS3⟩; have hT3 := hS2.trans hS3; have hB3 := hB2.on hS3; clear tokX hB2 hbx) | (go_at_call 68; have _t := tokY; (with_reducible refine (hYN.out _ _ _ hT3 hB3).mono ?_); rintro e w4 ⟨rfl, hS4⟩; have hT4 := hT3.trans hS4; clear tokY))
        go_ret2
        exact knpost_no E.out hYe hT4
    · have E := Lib.hid (show (knGo f n m p).e = PX.e by unfold knGo; rw [← hF, if_neg (by simp [hFe]), ← hPX, if_pos hXe])
      have hXN := Lib.hid (fun (B : Option Addr) (d : Nat) (w2 : World) (h2 : Since w w2) (hr : Rd w2 w2.heap.size B m (I64 (fnL F.L))) => si_places_no2 A n c f F.p B m d F.L w2 (h.on h2) hf hr hFL.symm hFB hFp hn hm PX.e hXe (by rw [← hPX]))
      unfold FlPost7 at hC
      rw [hFe] at hC
      have d0 : (PX.e == 0) = false := by simpa using hXe
      obtain ⟨FL, hFL0⟩ : ∃ FL, FL = F.L := ⟨_, rfl⟩
      obtain ⟨fp, hfp⟩ : ∃ fp, fp = F.p := ⟨_, rfl⟩
      obtain ⟨xe, hxe⟩ : ∃ xe, xe = PX.e := ⟨_, rfl⟩
      rw [← hFL0] at hC hXN hFL
      rw [← hfp] at hC hXN
      rw [← hxe] at hXN E d0 hXe
      clear h hf hF hFl hFb hFe hFp hPX hPY hFL0 hfp hxe hFB
      go_enter Try.func57, Try.ntmps57
      go_wp2_with (first | (go_at_call 67; (with_reducible refine hC.mono ?_); rintro e w2 ⟨v, rfl, hO, hS2⟩; obtain ⟨Av, cv, rfl, hcv, hrv⟩ := hO.rd (by omega) inL_len; have hB2 := rdi_rd' hrv (rfl : FL.length = FL.length); rw [hFL] at hB2 hcv hO ⊢; clear hrv hO) | (go_at_call 68; (with_reducible refine (hXN.out _ _ _ hS2 hB2).mono ?_); rintro e w3 ⟨rfl, hS3⟩; have hT3 := hS2.trans hS3))
      go_ret2
      exact knpost_no E.out hXe hT3
  · have E := Lib.hid (show (knGo f n m p).e = F.e by unfold knGo; rw [← hF, if_pos hFe])
    have hFL := fl_no f n m m p (by rw [← hF]; exact hFe)
    rw [← hF] at hFL
    unfold FlPost7 at hC
    rw [hFL.2] at hC
    have d0 : (F.e == 0) = false := by simpa using hFe
    obtain ⟨FE, hFE⟩ : ∃ FE, FE = F.e := ⟨_, rfl⟩
    rw [← hFE] at hC d0 E hFe
    clear h hf hF hFl hFb hFL hFE
    go_enter Try.func57, Try.ntmps57
    go_wp2_with (first | (go_at_call 67; (with_reducible refine hC.mono ?_); rintro e w2 ⟨v, rfl, hO, hS2⟩))
    go_ret2
    exact knpost_no E.out hFe hS2
end Go.Proofs.Ytcjjcjpkmjbfkaa
