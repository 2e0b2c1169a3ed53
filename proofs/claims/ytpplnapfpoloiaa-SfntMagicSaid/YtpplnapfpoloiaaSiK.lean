/-
  Layer 7: readFlags, walked (a goto inside a loop's round).
-/
import Derived.Test.YtpplnapfpoloiaaSiI
import Derived.WalkMore
import Derived.ScopeJumps
namespace Go.Proofs.Ytpplnapfpoloiaa
open Go.RowKit Go.ChangeShapes Go.WideShapes Go.Deep
set_option linter.unusedVariables false
set_option linter.unusedSimpArgs false

theorem and7_8 {x : Int} (h0 : 0 ≤ x) (h1 : x ≤ 255) : bits .and .i64 x 8 = if Has8 x 8 then 8 else 0 := by
  have h := and_pow x 3 h0 (by omega) (by omega)
  simp only [Int.reducePow] at h
  rw [h]; unfold Has8; rfl
/-- What 'readFlags' leaves. -/
def FlPost7 (T : Fl7) (w : World) (e : Ending) (w' : World) : Prop := ∃ v, e = .returned (.tuple #[v, .int .i64 (T.p : Int), .int .i64 T.e]) ∧ OwnI w' w.heap.size v T.L ∧ Since w w'
theorem fl_no (f : Nat → Int) (n : Nat) : ∀ (k m p : Nat), (flGo f n k m p).e ≠ 0 → (flGo f n k m p).L = [] ∧ (flGo f n k m p).p = 0 := by
  intro k
  cases k with
  | zero => intro m p h; exact absurd rfl h
  | succ k =>
    intro m p h
    cases m with
    | zero => exact absurd rfl h
    | succ m =>
      rw [fl_cons] at h ⊢
      split at h
      · rw [if_pos (by assumption)]; exact ⟨rfl, rfl⟩
      · rw [if_neg (by assumption)]
        repeat' split
        all_goals first | exact ⟨rfl, rfl⟩ | skip
        all_goals simp_all
theorem flpost_no {f : Nat → Int} {n k m p : Nat} {T : Fl7} {w w' : World} {x : Int} (hT : T = flGo f n k m p) (he : T.e = x) (hx : x ≠ 0) (hS : Since w w') : FlPost7 T w (.returned (.tuple #[.slice none 0 0, .int .i64 0, .int .i64 x])) w' := by
  have h := fl_no f n k m p (by rw [← hT, he]; exact hx)
  rw [← hT] at h
  exact ⟨_, by rw [he, h.2]; rfl, by rw [h.1]; exact OwnG.nil _ _ _ _ _, hS⟩
def len7 (v : Value) : Nat := match v with
  | .slice _ n _ => n
  | _ => 0
def K7 (A : Option Addr) (n c : Nat) (x : Int) (m K : Nat) (g : Int) (L0 : List Int) (w0 : World) (a : Act) (w' : World) : Prop :=
  ∃ (k : Nat) (v : Value) (u6 u7 u8 u11 u15 u16 u17 u18 u19 u20 u21 u22 u23 u24 u25 u26 u27 u28 u29 u30 u31 u32 u33 u34 u35 u36 u37 u38 u39 u40 u41 u42 u43 u44 u45 u46 u47 u48 u49 u50 u51 u52 u53 u54 u55 u56 u57 u58 : Value), a = { tmps := #[.slice A n c, .int .i64 x, .int .i64 (m : Int), undef, undef, undef, u6, u7, u8, v, .int .i64 g, u11, .int .i64 (k : Int), .int .i64 (m : Int), .slice (some ⟨w0.heap.size, 0, none⟩) 0 m, u15, u16, u17, u18, u19, u20, u21, u22, u23, u24, u25, u26, u27, u28, u29, u30, u31, u32, u33, u34, u35, u36, u37, u38, u39, u40, u41, u42, u43, u44, u45, u46, u47, u48, u49, u50, u51, u52, u53, u54, u55, u56, u57, u58, undef, undef], defers := [] } ∧ OwnI w' w0.heap.size v (L0 ++ List.replicate (K - k) g) ∧ k < K ∧ Since w0 w'
def mu7 (a : Act) (_ : World) : Nat := (intOf (a.tmps.getD 12 undef)).toNat
theorem rep_more (L : List Int) (g : Int) (j : Nat) : (L ++ List.replicate j g) ++ [g] = L ++ List.replicate (j + 1) g := by
  rw [List.append_assoc, List.replicate_succ']
theorem k7_in {A : Option Addr} {n c m K k : Nat} {x : Int} {g : Int} {L0 M : List Int} {w0 w' : World} {v : Value} (hM : M = L0 ++ List.replicate (K - k) g) (hO : OwnI w' w0.heap.size v M) (hk : k < K) (hS : Since w0 w') (u6 u7 u8 u11 u15 u16 u17 u18 u19 u20 u21 u22 u23 u24 u25 u26 u27 u28 u29 u30 u31 u32 u33 u34 u35 u36 u37 u38 u39 u40 u41 u42 u43 u44 u45 u46 u47 u48 u49 u50 u51 u52 u53 u54 u55 u56 u57 u58 : Value) :
    K7 A n c x m K g L0 w0 { tmps := #[.slice A n c, .int .i64 x, .int .i64 (m : Int), undef, undef, undef, u6, u7, u8, v, .int .i64 g, u11, .int .i64 (k : Int), .int .i64 (m : Int), .slice (some ⟨w0.heap.size, 0, none⟩) 0 m, u15, u16, u17, u18, u19, u20, u21, u22, u23, u24, u25, u26, u27, u28, u29, u30, u31, u32, u33, u34, u35, u36, u37, u38, u39, u40, u41, u42, u43, u44, u45, u46, u47, u48, u49, u50, u51, u52, u53, u54, u55, u56, u57, u58, undef, undef], defers := [] } w' := by
  subst hM
  exact ⟨k, v, u6, u7, u8, u11, u15, u16, u17, u18, u19, u20, u21, u22, u23, u24, u25, u26, u27, u28, u29, u30, u31, u32, u33, u34, u35, u36, u37, u38, u39, u40, u41, u42, u43, u44, u45, u46, u47, u48, u49, u50, u51, u52, u53, u54, u55, u56, u57, u58, rfl, hO, hk, hS⟩
set_option maxRecDepth 100000 in
set_option maxHeartbeats 16000000 in
theorem si_flags (A : Option Addr) (n c : Nat) (f : Nat → Int) (p m : Nat) (w : World) (h : Rd w w.heap.size A n (U8 f)) (hf : ∀ j, j < n → 0 ≤ f j ∧ f j ≤ 255) (hpn : p ≤ n) (hn : n ≤ 140737488355328) (hm : m ≤ 4096) :
    Calls Try.prog 99 #[.slice A n c, .int .i64 p, .int .i64 m] w (FlPost7 (flGo f n m m p) w) := by
  have hm5 : (m : Int) ≤ 4096 := by omega
  obtain ⟨T, hT⟩ : ∃ T, T = flGo f n m m p := ⟨_, rfl⟩
  rw [← hT]
  have H0 := Lib.hid (show (flGo f n (m - 0) (m - 0) p).e = T.e ∧ (T.e = 0 → T.L = [] ++ (flGo f n (m - 0) (m - 0) p).L ∧ T.p = (flGo f n (m - 0) (m - 0) p).p) by rw [Nat.sub_zero, ← hT]; exact ⟨rfl, fun _ => ⟨rfl, rfl⟩⟩)
  have HT := Lib.hid hT
  have HF := Lib.hid hf
  clear hT hf
  obtain ⟨i0, hi0, hz0, hz1, hz2⟩ := info_parts infoIn0
  have b2 : i0.bytes * m ≤ 281474976710656 := by rw [hz2]; omega
  have b3 : m ≤ maxLen := by simp only [maxLen]; omega
  go_enter Try.func99, Try.ntmps99
  go_wp2_with (at_make; refine wpList_make_own _ (by rfl) _ _ _ (by rfl) w.heap.size 3 i0 _ 1 Try.underlying103 hi0 hz0 hz1 .i64 .i64 _ m (by rfl) (by rfl) rfl b2 b3 (Nat.le_refl _) ?_; intro w1 hown1 hgr1; have hS1 := since_grown (Since.refl w) hgr1 (fun k hk => by cases hk))
  have hO1 : OwnI w1 w.heap.size (.slice (some ⟨w.heap.size, 0, none⟩) 0 m) [] := hown1
  clear hgr1 hown1
  go_loopw [1, 9] (fun y v wr => ∃ (l : List Int) (q : Nat), l.length ≤ m ∧ y = .int .i64 (q : Int) ∧ OwnI wr w.heap.size v l ∧ q ≤ n ∧ Since w wr ∧ Hid ((flGo f n (m - l.length) (m - l.length) q).e = T.e ∧ (T.e = 0 → T.L = l ++ (flGo f n (m - l.length) (m - l.length) q).L ∧ T.p = (flGo f n (m - l.length) (m - l.length) q).p))) (fun _ v _ => m - len7 v)
  case atStart => exact ⟨[], p, by simp, rfl, hO1, hpn, hS1, H0⟩
  case round =>
    obtain ⟨l, q, hl, rfl, hO, hq, hSr, hR⟩ := hrel
    clear hO1 hS1
    obtain ⟨Av, cv, rfl, hcv, hrv⟩ := hO.rd (by omega) inL_len
    clear hrv
    obtain ⟨r1, r2⟩ := hR.out
    have hqi : (q : Int) ≤ 140737488355328 := by omega
    have hRD := h.on hSr
    by_cases hlm : l.length = m
    · have e0 : flGo f n (m - l.length) (m - l.length) q = ⟨0, [], q⟩ := by rw [hlm, Nat.sub_self]; rfl
      rw [e0] at r1 r2
      have HE := Lib.hid (show T.e = 0 from r1.symm)
      obtain ⟨r3, r4⟩ := r2 r1.symm
      rw [List.append_nil] at r3
      have HL := Lib.hid r3
      have HP := Lib.hid r4
      clear r1 r2 r3 r4 e0 hR
      have hlm' : (l.length : Int) = (m : Int) := by omega
      go_wp2_with fail
      go_ret3
      have hO' : OwnI wr w.heap.size (.slice Av m cv) l := by rw [← hlm]; exact hO
      exact ⟨_, by rw [HE.out, HP.out]; first | rfl | simp, by rw [HL.out]; exact hO', hSr⟩
    · have hlm' : (l.length : Int) < (m : Int) := by omega
      obtain ⟨k, hk⟩ : ∃ k, m - l.length = k + 1 := ⟨m - l.length - 1, by omega⟩
      rw [hk] at r1 r2
      have HR := Lib.hid r1
      have HR2 := Lib.hid r2
      clear r1 r2 hR
      rcases fl_step (f := f) (n := n) (m := k) (p := q) (fun j hj => (HF.out j hj).1) with ⟨s1, s2⟩ | ⟨s1, s2, s3, s4⟩ | ⟨s1, s2, s3, s4⟩ | ⟨s1, s2, s3, s4⟩ | ⟨j, s1, s2, s3, s4, s5, s6⟩
      · -- no flag is there
        have E := Lib.hid (show T.e = 3 by rw [← HR.out]; exact s2)
        have hC := u_out A n c f q 1 q 1 wr hRD HF.out rfl rfl (by omega) s1 (by omega) hn
        clear s2 hRD h
        go_wp2
        refine wp_scope_jumps 0 (fun _ _ => False) mu7 rfl ?_ ?_
        rotate_left
        · intro a w' hh; exact hh.elim
        go_wp2_with (go_at_call 62; (with_reducible refine hC.mono ?_); rintro e w2 ⟨rfl, rfl⟩)
        try simp only [Exit.jump]
        go_ret3
        exact flpost_no HT.out E.out (by omega) hSr
      · -- one flag, for one point
        have hr := HF.out q (by omega)
        have hC := u_in A n c f q 1 q 1 wr hRD HF.out rfl rfl (by omega) s1 hn
        rw [num_one] at hC
        have hb := and7_8 hr.1 hr.2
        rw [if_neg s2] at hb
        obtain ⟨g, hg⟩ : ∃ g, g = f q := ⟨_, rfl⟩
        have E := Lib.hid (show (flGo f n k k (q + 1)).e = T.e ∧ (T.e = 0 → T.L = (l ++ [g]) ++ (flGo f n k k (q + 1)).L ∧ T.p = (flGo f n k k (q + 1)).p) by
          refine ⟨by rw [← s3]; exact HR.out, fun h0 => ?_⟩
          obtain ⟨t1, t2⟩ := HR2.out h0
          obtain ⟨t3, t4⟩ := s4 (by rw [← s3, HR.out]; exact h0)
          exact ⟨by rw [t1, t3, List.append_assoc, hg]; rfl, by rw [t2, t4]⟩)
        rw [← hg] at hC hb
        have hl3 : l.length ≤ 3000000 := by omega
        have hq1 : IntKind.i64.wrap ((q : Int) + 1) = ((q + 1 : Nat) : Int) := by rw [IntKind.wrap_i64]; omega
        have hq2 : (Value.int IntKind.i64 ((q : Int) + 1)) = .int .i64 ((q + 1 : Nat) : Int) := by congr 1
        have HQ := Lib.hid hq2
        clear hq2
        have hl1 : ¬ (m : Int) < (l.length : Int) + 1 := by omega
        have hl1' : decide ((m : Int) < (l.length : Int) + 1 + 0) = false := by simp; omega
        have hKK := Lib.hid hk
        have hlen5 : (l ++ [g]).length ≤ m := by simp; omega
        have hlen6 : m - (l ++ [g]).length = k := by simp; omega
        clear s2 s3 s4 hr hg hRD h hk HR HR2
        go_wp2
        refine wp_scope_jumps 0 (fun _ _ => False) mu7 rfl ?_ ?_
        rotate_left
        · intro a w' hh; exact hh.elim
        go_wp2_with (first | (go_at_call 62; (with_reducible refine hC.mono ?_); rintro e w2 ⟨rfl, rfl⟩))
        go_step3
        go_wp2_with (first | (at_builtin; refine wpList_append_i rfl _ _ rfl _ hSr (.slice Av l.length cv) l rfl hO _ _ g rfl rfl hl3 ?_; intro v5 w5 hO5 hg5 hb5 hS5; obtain ⟨A5, c5, rfl, hc5, hr5⟩ := hO5.rd (by omega) inL_len; clear hg5 hb5 hr5))
        simp only [Exit.jump]
        have e6 : (l ++ [g]).length = l.length + 1 := by simp
        have hO6 := hO5
        rw [e6] at hO6
        go_roundw
        case measure => show m - (l.length + 1) < m - l.length; omega
        refine ⟨_, _, _, _, _, _, _, _, _, _, _, _, _, _, _, _, _, _, _, _, _, _, _, _, _, _, _, _, _, _, _, _, _, _, _, _, _, _, _, _, _, _, _, _, _, _, _, _, _, _, _, _, ⟨l ++ [g], q + 1, hlen5, HQ.out, hO6, s1, hS5, ?_⟩, rfl⟩
        rw [hlen6]
        exact E
      · -- the number of points lacks
        have hr := HF.out q (by omega)
        have hC := u_in A n c f q 1 q 1 wr hRD HF.out rfl rfl (by omega) s1 hn
        rw [num_one] at hC
        have hD := u_out A n c f (q + 1) 1 ((q : Int) + 1) 1 wr hRD HF.out (by omega) rfl (by omega) (by omega) (by omega) hn
        have hb := and7_8 hr.1 hr.2
        rw [if_pos s3] at hb
        obtain ⟨g, hg⟩ : ∃ g, g = f q := ⟨_, rfl⟩
        rw [← hg] at hC hb
        have hq1 : IntKind.i64.wrap ((q : Int) + 1) = (q : Int) + 1 := by rw [IntKind.wrap_i64]; omega
        have E := Lib.hid (show T.e = 3 by rw [← HR.out]; exact s4)
        clear s1 s2 s3 s4 hr hg hRD h hk HR HR2
        go_wp2
        refine wp_scope_jumps 0 (fun _ _ => False) mu7 rfl ?_ ?_
        rotate_left
        · intro a w' hh; exact hh.elim
        go_wp2_with (first | (go_at_call 62; first | ((with_reducible refine hC.mono ?_); rintro e w2 ⟨rfl, hw2⟩; have hw3 := hw2.symm; subst hw3; clear hw2) | ((with_reducible refine hD.mono ?_); rintro e w2 ⟨rfl, hw2⟩; have hw3 := hw2.symm; subst hw3; clear hw2)))
        try simp only [Exit.jump]
        go_ret3
        exact flpost_no HT.out E.out (by omega) hSr
      · -- more points than there are
        have hr := HF.out q (by omega)
        have hr1 := HF.out (q + 1) (by omega)
        have hC := u_in A n c f q 1 q 1 wr hRD HF.out rfl rfl (by omega) (by omega) hn
        rw [num_one] at hC
        have hD := u_in A n c f (q + 1) 1 ((q : Int) + 1) 1 wr hRD HF.out (by omega) rfl (by omega) (by omega) hn
        rw [num_one] at hD
        have hb := and7_8 hr.1 hr.2
        rw [if_pos s2] at hb
        obtain ⟨g, hg⟩ : ∃ g, g = f q := ⟨_, rfl⟩
        obtain ⟨x, hx⟩ : ∃ x, x = f (q + 1) := ⟨_, rfl⟩
        rw [← hg] at hC hb
        rw [← hx] at hD s3 hr1
        have hq1 : IntKind.i64.wrap ((q : Int) + 1) = (q : Int) + 1 := by rw [IntKind.wrap_i64]; omega
        have hq2 : IntKind.i64.wrap ((q : Int) + 1 + 1) = (q : Int) + 1 + 1 := by rw [IntKind.wrap_i64]; omega
        have hl1 : IntKind.i64.wrap ((l.length : Int) + 1 + x) = (l.length : Int) + 1 + x := by rw [IntKind.wrap_i64]; omega
        have hl2 : (m : Int) < (l.length : Int) + 1 + x := by omega
        have E := Lib.hid (show T.e = 4 by rw [← HR.out]; exact s4)
        clear s1 s2 s3 s4 hr hg hx hRD h hk HR HR2
        go_wp2
        refine wp_scope_jumps 0 (fun _ _ => False) mu7 rfl ?_ ?_
        rotate_left
        · intro a w' hh; exact hh.elim
        go_wp2_with (first | (go_at_call 62; first | ((with_reducible refine hC.mono ?_); rintro e w2 ⟨rfl, hw2⟩; have hw3 := hw2.symm; subst hw3; clear hw2) | ((with_reducible refine hD.mono ?_); rintro e w2 ⟨rfl, hw2⟩; have hw3 := hw2.symm; subst hw3; clear hw2)))
        try simp only [Exit.jump]
        go_ret3
        exact flpost_no HT.out E.out (by omega) hSr
      · -- one flag, for some points
        have hr := HF.out q (by omega)
        have hC := u_in A n c f q 1 q 1 wr hRD HF.out rfl rfl (by omega) (by omega) hn
        rw [num_one] at hC
        have hD := u_in A n c f (q + 1) 1 ((q : Int) + 1) 1 wr hRD HF.out (by omega) rfl (by omega) (by omega) hn
        rw [num_one, s3] at hD
        have hb := and7_8 hr.1 hr.2
        rw [if_pos s2] at hb
        obtain ⟨g, hg⟩ : ∃ g, g = f q := ⟨_, rfl⟩
        have E := Lib.hid (show (flGo f n (k - j) (k - j) (q + 2)).e = T.e ∧ (T.e = 0 → T.L = (l ++ List.replicate (j + 1) g) ++ (flGo f n (k - j) (k - j) (q + 2)).L ∧ T.p = (flGo f n (k - j) (k - j) (q + 2)).p) by
          refine ⟨by rw [← s5]; exact HR.out, fun h0 => ?_⟩
          obtain ⟨t1, t2⟩ := HR2.out h0
          obtain ⟨t3, t4⟩ := s6 (by rw [← s5, HR.out]; exact h0)
          exact ⟨by rw [t1, t3, List.append_assoc, hg], by rw [t2, t4]⟩)
        rw [← hg] at hC hb
        have hl3 : l.length ≤ 3000000 := by omega
        have hq1 : IntKind.i64.wrap ((q : Int) + 1) = (q : Int) + 1 := by rw [IntKind.wrap_i64]; omega
        have hq2 : IntKind.i64.wrap ((q : Int) + 1 + 1) = (q : Int) + 2 := by rw [IntKind.wrap_i64]; omega
        have HQ := Lib.hid (show (Value.int IntKind.i64 ((q : Int) + 2)) = .int .i64 ((q + 2 : Nat) : Int) from by congr 1)
        have hl1 : IntKind.i64.wrap ((l.length : Int) + 1 + (j : Int)) = (l.length : Int) + 1 + (j : Int) := by rw [IntKind.wrap_i64]; omega
        have hl2 : ¬ (m : Int) < (l.length : Int) + 1 + (j : Int) := by omega
        have hlj : l.length + j + 1 ≤ m := by omega
        have hlk : m - (l.length + (j + 1)) = k - j := by omega
        have hlen9 : ∀ i, (l ++ List.replicate i g).length = l.length + i := fun i => by simp
        have hm9 : m ≤ 4096 := hm
        have hjm : j ≤ 4096 := by omega
        clear s2 s3 s4 s5 s6 hr hg hRD h hk HR HR2
        go_wp2
        refine wp_scope_jumps 0 (K7 A n c ((q : Int) + 2) m j g l w) mu7 rfl ?_ ?_
        rotate_left
        · rintro a wp ⟨k', v, u6, u7, u8, u11, u15, u16, u17, u18, u19, u20, u21, u22, u23, u24, u25, u26, u27, u28, u29, u30, u31, u32, u33, u34, u35, u36, u37, u38, u39, u40, u41, u42, u43, u44, u45, u46, u47, u48, u49, u50, u51, u52, u53, u54, u55, u56, u57, u58, rfl, hOp, hkK, hSp⟩
          have hlp : (l ++ List.replicate (j - k') g).length ≤ 3000000 := by rw [hlen9]; omega
          have hkm : (k' : Int) ≤ 4096 := by omega
          clear hC hD hO hSr hb
          by_cases hk0 : 0 < k'
          · have hk0' : (0 : Int) < (k' : Int) := by omega
            have e9 : (l ++ List.replicate (j - k') g ++ [g]).length = l.length + (j - k' + 1) := by rw [List.length_append, hlen9]; rfl
            have hkx : IntKind.i64.wrap ((k' : Int) - 1) = ((k' - 1 : Nat) : Int) := by rw [IntKind.wrap_i64]; omega
            go_wp2_with (first | (at_builtin; refine wpList_append_i rfl _ _ rfl _ hSp v _ rfl hOp _ _ g rfl rfl hlp ?_; intro v5 w5 hO5 hg5 hb5 hS5; obtain ⟨A5, c5, rfl, hc5, hr5⟩ := hO5.rd (by omega) inL_len; clear hg5 hb5 hr5))
            go_step3
            rw [e9] at hO5
            exact ⟨rfl, k7_in (k := k' - 1) (by rw [rep_more, show j - k' + 1 = j - (k' - 1) by omega]) hO5 (by omega) hS5 _ _ _ _ _ _ _ _ _ _ _ _ _ _ _ _ _ _ _ _ _ _ _ _ _ _ _ _ _ _ _ _ _ _ _ _ _ _ _ _ _ _ _ _ _ _ _ _, by show (intOf (.int .i64 _)).toNat < (intOf (.int .i64 _)).toNat; simp [intOf]; omega⟩
          · obtain rfl : k' = 0 := by omega
            rw [Nat.sub_zero] at hlp
            have hOq : OwnI wp w.heap.size v (l ++ List.replicate j g) := hOp
            clear hOp
            go_wp2_with (first | (at_builtin; refine wpList_append_i rfl _ _ rfl _ hSp v _ rfl hOq _ _ g rfl rfl hlp ?_; intro v5 w5 hO5 hg5 hb5 hS5; obtain ⟨A5, c5, rfl, hc5, hr5⟩ := hO5.rd (by omega) inL_len; clear hg5 hb5 hr5))
            simp only [Exit.jump]
            have e7 : (l ++ List.replicate j g ++ [g]).length = l.length + (j + 1) := by rw [rep_more, hlen9 (j + 1)]
            have hO6 := hO5
            rw [e7, rep_more] at hO6
            have e8 : (l ++ List.replicate j g).length = l.length + j := hlen9 j
            go_roundw
            case measure => show m - (l.length + (j + 1)) < m - l.length; omega
            refine ⟨_, _, _, _, _, _, _, _, _, _, _, _, _, _, _, _, _, _, _, _, _, _, _, _, _, _, _, _, _, _, _, _, _, _, _, _, _, _, _, _, _, _, _, _, _, _, _, _, _, _, _, _, ⟨l ++ List.replicate (j + 1) g, q + 2, by rw [hlen9]; omega, HQ.out, ?_, s1, hS5, ?_⟩, rfl⟩
            · exact hO6
            · rw [hlen9, hlk]; exact E
        · go_wp2_with (first | (go_at_call 62; first | ((with_reducible refine hC.mono ?_); rintro e w2 ⟨rfl, hw2⟩; have hw3 := hw2.symm; subst hw3; clear hw2) | ((with_reducible refine hD.mono ?_); rintro e w2 ⟨rfl, hw2⟩; have hw3 := hw2.symm; subst hw3; clear hw2)))
          go_step3
          clear hC hD
          have e6 : (l ++ [g]).length = l.length + 1 := by simp
          by_cases hj0 : 0 < j
          · have hj0' : (0 : Int) < (j : Int) := by omega
            have hjx : IntKind.i64.wrap ((j : Int) - 1) = ((j - 1 : Nat) : Int) := by rw [IntKind.wrap_i64]; omega
            go_wp2_with (first | (at_builtin; refine wpList_append_i rfl _ _ rfl _ hSr (.slice Av l.length cv) l rfl hO _ _ g rfl rfl hl3 ?_; intro v5 w5 hO5 hg5 hb5 hS5; obtain ⟨A5, c5, rfl, hc5, hr5⟩ := hO5.rd (by omega) inL_len; clear hg5 hb5 hr5))
            go_step3
            rw [e6] at hO5
            exact ⟨rfl, k7_in (k := j - 1) (by rw [show j - (j - 1) = 1 by omega]; rfl) hO5 (by omega) hS5 _ _ _ _ _ _ _ _ _ _ _ _ _ _ _ _ _ _ _ _ _ _ _ _ _ _ _ _ _ _ _ _ _ _ _ _ _ _ _ _ _ _ _ _ _ _ _ _⟩
          · obtain rfl : j = 0 := by omega
            go_wp2_with (first | (at_builtin; refine wpList_append_i rfl _ _ rfl _ hSr (.slice Av l.length cv) l rfl hO _ _ g rfl rfl hl3 ?_; intro v5 w5 hO5 hg5 hb5 hS5; obtain ⟨A5, c5, rfl, hc5, hr5⟩ := hO5.rd (by omega) inL_len; clear hg5 hb5 hr5))
            simp only [Exit.jump]
            have hO6 := hO5
            rw [e6] at hO6
            go_roundw
            case measure => show m - (l.length + 1) < m - l.length; omega
            refine ⟨_, _, _, _, _, _, _, _, _, _, _, _, _, _, _, _, _, _, _, _, _, _, _, _, _, _, _, _, _, _, _, _, _, _, _, _, _, _, _, _, _, _, _, _, _, _, _, _, _, _, _, _, ⟨l ++ [g], q + 2, by rw [e6]; omega, HQ.out, hO6, s1, hS5, ?_⟩, rfl⟩
            rw [e6, hlk]; exact E
end Go.Proofs.Ytpplnapfpoloiaa
