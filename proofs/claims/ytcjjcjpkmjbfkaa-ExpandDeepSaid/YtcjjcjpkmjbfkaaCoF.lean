/-
  Layer 8: Read, walked.
-/
import Derived.Test.YtcjjcjpkmjbfkaaCoE
import Derived.WalkMore
import Derived.ScopeJumps
namespace Go.Proofs.Ytcjjcjpkmjbfkaa
open Go.RowKit Go.ChangeShapes Go.WideShapes Go.Deep
set_option linter.unusedVariables false

theorem ptV_len (p : Pt8) : (ptV p).length = 7 := rfl
theorem ptV_one (p : Pt8) : ∀ u ∈ ptV p, u.oneCell' = true := by
  intro u hu
  simp only [ptV, List.mem_cons, List.not_mem_nil, or_false] at hu
  rcases hu with rfl | rfl | rfl | rfl | rfl | rfl | rfl <;> rfl
theorem infoPt0 : (Try.prog.info? 44).map (fun i => (i.zero, i.size, i.bytes)) = some (some (.agg #[.int .i64 0, .int .i64 0, .int .i64 0, .int .i64 0, .int .i64 0, .int .i64 0, .int .i64 0]), 7, 56) := by kernel_rfl
theorem infoPt : ∃ i z, Try.prog.info? 44 = some i ∧ i.zero = some z ∧ i.size = 7 ∧ i.bytes = 56 ∧ z.cells.size = 7 := by
  obtain ⟨i0, hi, hz0, hz1, hz2⟩ := info_parts infoPt0
  exact ⟨i0, _, hi, hz0, hz1, hz2, rfl⟩
abbrev OwnP8 (w : World) (base : Nat) (v : Value) (L : List Pt8) : Prop := OwnG 44 7 ptV w base v L
abbrev RdP8 (w : World) (B : Nat) (A : Option Addr) (L : List Pt8) : Prop := RdG 7 ptV w B A L

def preR (l : List Pt8) (r : Rd8) : Rd8 := if r.e ≠ 0 then ⟨r.e, [], 0, 0⟩ else ⟨0, l ++ r.L, r.p, r.fl⟩
theorem preR_nil (f : Nat → Int) (n k p : Nat) : preR [] (rdGo f n k p) = rdGo f n k p := by
  unfold preR
  by_cases h : (rdGo f n k p).e ≠ 0
  · rw [if_pos h]
    cases k <;> (unfold rdGo at h ⊢; split <;> (try split) <;> (try split) <;> simp_all)
  · rw [if_neg h]
    have h0 : (rdGo f n k p).e = 0 := by omega
    cases hr : rdGo f n k p
    rw [hr] at h0
    simp only at h0 ⊢
    subst h0
    rfl
theorem preR_pre (l m : List Pt8) (r : Rd8) : preR l (preR m r) = preR (l ++ m) r := by
  unfold preR
  by_cases h : r.e ≠ 0
  · rw [if_pos h, if_pos h, if_pos h]
  · rw [if_neg h, if_neg h, if_neg (by simp), List.append_assoc]
theorem go_bad {f : Nat → Int} {n p : Nat} (k : Nat) (h : pe8 f n p ≠ 0) (l : List Pt8) : preR l (rdGo f n k p) = ⟨pe8 f n p, [], 0, 0⟩ := by
  have e : rdGo f n k p = ⟨pe8 f n p, [], 0, 0⟩ := by cases k <;> (unfold rdGo; rw [if_pos h])
  rw [e]; unfold preR; rw [if_pos h]
theorem go_last {f : Nat → Int} {n p : Nat} (k : Nat) (h : pe8 f n p = 0) (h32 : ¬ Has8 (fl8 f p) 32) (l : List Pt8) : preR l (rdGo f n k p) = ⟨0, l ++ [pt8 f p], p + sz8 (fl8 f p), fl8 f p⟩ := by
  have e : rdGo f n k p = ⟨0, [pt8 f p], p + sz8 (fl8 f p), fl8 f p⟩ := by cases k <;> (unfold rdGo; rw [if_neg (by simp [h]), if_neg h32])
  rw [e]; unfold preR; rw [if_neg (by simp)]
theorem go_full {f : Nat → Int} {n p : Nat} (h : pe8 f n p = 0) (h32 : Has8 (fl8 f p) 32) (l : List Pt8) : preR l (rdGo f n 0 p) = ⟨7, [], 0, 0⟩ := by
  have e : rdGo f n 0 p = ⟨7, [], 0, 0⟩ := by unfold rdGo; rw [if_neg (by simp [h]), if_pos h32]
  rw [e]; unfold preR; rw [if_pos (by simp)]
theorem go_next {f : Nat → Int} {n p : Nat} (k : Nat) (h : pe8 f n p = 0) (h32 : Has8 (fl8 f p) 32) (l : List Pt8) : preR l (rdGo f n (k + 1) p) = preR (l ++ [pt8 f p]) (rdGo f n k (p + sz8 (fl8 f p))) := by
  rw [← preR_pre]
  have e : rdGo f n (k + 1) p = preR [pt8 f p] (rdGo f n k (p + sz8 (fl8 f p))) := by
    conv => lhs; unfold rdGo
    rw [if_neg (by simp [h]), if_pos h32]
    unfold preR
    simp only [List.singleton_append]
  rw [e]
/-- What 'Read' leaves. -/
def RdPost8 (f : Nat → Int) (n : Nat) (w : World) (e : Ending) (w' : World) : Prop := ∃ A1 c1 A2 c2, e = .returned (.tuple #[.slice A1 (rdAns8 f n).L.length c1, .slice A2 (rdAns8 f n).m c2, .int .i64 (rdAns8 f n).e]) ∧ RdP8 w' w'.heap.size A1 (rdAns8 f n).L ∧ (rdAns8 f n).m ≤ c2 ∧ Nw w' w.heap.size A2 (rdAns8 f n).m (U8 (fun j => f ((rdAns8 f n).s + j))) ∧ Since w w'
theorem rdpost8 {f : Nat → Int} {n : Nat} {w w' : World} {E : Int} {L : List Pt8} {s m N c1 c2 : Nat} {A1 A2 : Option Addr} (h : rdAns8 f n = ⟨E, L, s, m⟩) (hN : N = L.length) (h1 : RdP8 w' w'.heap.size A1 L) (h2 : m ≤ c2) (h3 : Nw w' w.heap.size A2 m (U8 (fun j => f (s + j)))) (hS : Since w w') :
    RdPost8 f n w (.returned (.tuple #[.slice A1 N c1, .slice A2 m c2, .int .i64 E])) w' := by
  subst hN
  unfold RdPost8
  rw [h]
  exact ⟨A1, c1, A2, c2, rfl, h1, h2, h3, hS⟩
def len8 (v : Value) : Nat := match v with
  | .slice _ n _ => n
  | _ => 0
theorem part_one (w : World) (b : Nat) (hb : b = w.heap.size) (ty : TypeId) (g0 x0 y0 a0 a1 a2 a3 : Int) : RdP8 (w.alloc (.cells #[.int .i64 g0, .int .i64 x0, .int .i64 y0, .int .i64 a0, .int .i64 a1, .int .i64 a2, .int .i64 a3] ty)) (w.alloc (.cells #[.int .i64 g0, .int .i64 x0, .int .i64 y0, .int .i64 a0, .int .i64 a1, .int .i64 a2, .int .i64 a3] ty)).heap.size (some ⟨b, 0, none⟩) [⟨g0, x0, y0, a0, a1, a2, a3⟩] :=
  rdG_one hb _ (fun i hi => by
    have h : i = 0 ∨ i = 1 ∨ i = 2 ∨ i = 3 ∨ i = 4 ∨ i = 5 ∨ i = 6 := by omega
    rcases h with rfl | rfl | rfl | rfl | rfl | rfl | rfl <;> rfl)
theorem pe8_sz {f : Nat → Int} {n p : Nat} (h : pe8 f n p = 0) : p + sz8 (fl8 f p) ≤ n := by
  unfold pe8 at h
  split at h
  · omega
  · split at h
    · omega
    · split at h <;> omega
theorem co_part_is (A : Option Addr) (n c : Nat) (f : Nat → Int) (p : Nat) (x : Int) (w : World) (h : Rd w w.heap.size A n (U8 f)) (hf : ∀ j, j < n → 0 ≤ f j ∧ f j ≤ 255) (hx : x = p) (hn : n ≤ 140737488355328) (hnc : n ≤ c) (he : pe8 f n p = 0) (P : Pt8) (hP : pt8 f p = P) :
    Calls Try.prog 59 #[.slice A n c, .int .i64 x] w fun e w' => e = .returned (.tuple #[.agg #[.int .i64 P.g, .int .i64 P.x, .int .i64 P.y, .int .i64 P.m0, .int .i64 P.m1, .int .i64 P.m2, .int .i64 P.m3], .int .i64 (fl8 f p), .int .i64 (sz8 (fl8 f p)), .int .i64 0]) ∧ Since w w' := by
  subst hP
  exact co_part_yes A n c f p x w h hf hx hn hnc he
def J8 (A : Option Addr) (n c : Nat) (f : Nat → Int) (w : World) (a : Act) (w' : World) : Prop :=
  ∃ (l : List Pt8) (p : Nat) (v : Value) (u1 u2 u3 u4 u5 u6 u9 u10 u11 u12 u13 u14 u15 u16 u17 u18 u19 u20 u21 u22 u23 u24 u25 u26 u27 u28 u29 u30 u31 u32 u33 u34 u35 u36 u37 u38 u39 u40 u41 u42 u43 u44 u45 u46 u47 u48 u49 u50 u51 u52 u53 u54 u55 u56 u57 u58 u59 u60 u61 u62 : Value), a = { tmps := #[.slice A n c, u1, u2, u3, u4, u5, u6, v, .int .i64 (p : Int), u9, u10, u11, u12, u13, u14, u15, u16, u17, u18, u19, u20, u21, u22, u23, u24, u25, u26, u27, u28, u29, u30, u31, u32, u33, u34, u35, u36, u37, u38, u39, u40, u41, u42, u43, u44, u45, u46, u47, u48, u49, u50, u51, u52, u53, u54, u55, u56, u57, u58, u59, u60, u61, u62], defers := [] } ∧ OwnP8 w' w.heap.size v l ∧ l.length ≤ 63 ∧ p ≤ n ∧ Since w w' ∧ rdGo f n 63 10 = preR l (rdGo f n (63 - l.length) p)
def mu8 (a : Act) (_ : World) : Nat := 64 - len8 (a.tmps.getD 7 undef)
set_option maxRecDepth 100000 in
set_option maxHeartbeats 8000000 in
theorem co_read (A : Option Addr) (n c : Nat) (f : Nat → Int) (w : World) (h : Rd w w.heap.size A n (U8 f)) (hf : ∀ j, j < n → 0 ≤ f j ∧ f j ≤ 255) (hn : n ≤ 140737488355328) (hnc : n ≤ c) :
    Calls Try.prog 43 #[.slice A n c] w (RdPost8 f n w) := by
  by_cases h10 : n < 10
  · have E := Lib.hid (show rdAns8 f n = ⟨3, [], 0, 0⟩ by unfold rdAns8; rw [if_pos h10])
    have h10' : (n : Int) < 10 := by omega
    clear h
    go_enter Try.func43, Try.ntmps43
    go_wp2
    go_step3
    go_wp2
    rw [Exit.noGoto_ret]
    go_ret3
    exact rdpost8 E.out (by first | rfl | simp) RdG.nil (Nat.le_refl _) Nw.zero (Since.refl _)
  have hS0 := s_in A n c f 0 2 0 2 w h hf rfl rfl (by omega) (by omega) (by omega)
  have e0 : sgn 2 (numAt f 0 2) = s2 f 0 := rfl
  rw [e0] at hS0
  have h10' : (10 : Int) ≤ n := by omega
  by_cases hk : 0 ≤ s2 f 0
  · have E := Lib.hid (show rdAns8 f n = ⟨11, [], 0, 0⟩ by unfold rdAns8; rw [if_neg h10, if_pos hk])
    generalize s2 f 0 = k at *
    clear h e0
    go_enter Try.func43, Try.ntmps43
    go_wp2
    go_step3
    go_wp2_with (go_at_call 53; (with_reducible refine hS0.mono ?_); rintro e w2 ⟨rfl, rfl⟩)
    rw [Exit.noGoto_ret]
    go_ret3
    exact rdpost8 E.out (by first | rfl | simp) RdG.nil (Nat.le_refl _) Nw.zero (Since.refl _)
  have E := Lib.hid (show rdAns8 f n = fin8 f n (rdGo f n 63 10) by unfold rdAns8; rw [if_neg h10, if_neg hk])
  generalize s2 f 0 = k at *
  have hG0 := (preR_nil f n 63 10).symm
  clear e0
  go_enter Try.func43, Try.ntmps43
  go_wp2
  refine wp_scope_jumps 0 (J8 A n c f w) mu8 rfl ?_ ?_
  rotate_left
  · rintro a w' ⟨l, p, v, u1, u2, u3, u4, u5, u6, u9, u10, u11, u12, u13, u14, u15, u16, u17, u18, u19, u20, u21, u22, u23, u24, u25, u26, u27, u28, u29, u30, u31, u32, u33, u34, u35, u36, u37, u38, u39, u40, u41, u42, u43, u44, u45, u46, u47, u48, u49, u50, u51, u52, u53, u54, u55, u56, u57, u58, u59, u60, u61, u62, rfl, hO, hl, hp, hS, hG⟩
    clear hG0 hS0
    obtain ⟨Av, cv, rfl, hcv, hrv⟩ := hO.rd (by omega) ptV_len
    clear hrv
    have hpi : (p : Int) ≤ 140737488355328 := by omega
    have hSA := h.on hS
    have hLEN : l.length ≤ 63 := by simpa using hl
    by_cases hpe : pe8 f n p = 0
    · have hrange := numAt_range (f := f) (p := p) (k := 2) (fun j hj => hf j (by unfold pe8 at hpe; split at hpe <;> omega))
      have hrange : 0 ≤ fl8 f p ∧ fl8 f p < 65536 := hrange
      have hsz := pe8_sz hpe
      have hC := co_part_is A n c f p _ w' hSA hf rfl hn hnc hpe _ rfl
      have hlast := fun k h => go_last (l := l) (f := f) (n := n) k hpe h
      have hfull := fun h => go_full (l := l) (f := f) (n := n) hpe h
      have hnext := fun k h => go_next (l := l) (f := f) (n := n) k hpe h
      have b32 := and_b32 hrange.1 (show fl8 f p < 4294967296 by omega)
      have b256 := and_b256 hrange.1 (show fl8 f p < 4294967296 by omega)
      obtain ⟨q, hq⟩ : ∃ q, q = p + sz8 (fl8 f p) := ⟨_, rfl⟩
      rw [← hq] at hlast hnext hsz
      have hqi : (p : Int) + (sz8 (fl8 f p) : Int) = (q : Int) := by omega
      have hqb : (q : Int) ≤ 140737488355328 := by omega
      generalize sz8 (fl8 f p) = z at *
      generalize hP : pt8 f p = P at *
      generalize fl8 f p = fl at *
      obtain ⟨g0, x0, y0, a0, a1, a2, a3⟩ := P
      simp only at hC
      have HL := Lib.hid hlast
      have HF := Lib.hid hfull
      have HN := Lib.hid hnext
      have HG := Lib.hid hG
      clear hlast hfull hnext hG hP hrange hq hpe
      by_cases c32 : Has8 fl 32
      · have d32 := b32.1 c32
        by_cases hl63 : l.length = 63
        · have hG2 := HG.out
          rw [hl63, HF.out c32] at hG2
          have E2 := Lib.hid (show rdAns8 f n = ⟨7, [], 0, 0⟩ by rw [E.out, hG2]; unfold fin8; rw [if_pos (by simp)])
          have hl64 : (l.length : Int) + 1 = 64 := by omega
          clear b32 b256 hl hG2 hl63
          go_wp2_with (first | (go_at_call 59; (with_reducible refine hC.mono ?_); rintro e w2 ⟨rfl, hS2⟩; have hT2 := hS.trans hS2; have hO2 := hO.since hS2) | (at_builtin; refine wpList_append_g rfl _ _ 59 44 rfl (by omega) ptV_len ptV_one 56 Try.underlying59 infoPt w.heap.size (.slice Av l.length cv) l rfl ((hO2.alloc _).alloc _) _ _ _ [⟨g0, x0, y0, a0, a1, a2, a3⟩] rfl (part_one _ _ (by simp) _ _ _ _ _ _ _ _) (by simp only [List.length_cons, List.length_nil]; omega) (by simp only [List.length_cons, List.length_nil, maxLen]; omega) (by have := hT2.below.size; simp; omega) ?_; intro v5 w5 hO5 hg5 hb5; have hS5 : Since w w5 := (since_grown ((hT2.alloc _).alloc _) hg5 (fun q hq => (hb5 q hq).1)); obtain ⟨A5, c5, rfl, hc5, hr5⟩ := hO5.rd (by omega) ptV_len; have hN5 : (l ++ [(⟨g0, x0, y0, a0, a1, a2, a3⟩ : Pt8)]).length = l.length + 1 := (by simp); rw [hN5] at hO5 hc5 ⊢; clear hg5 hb5 hO2))
          try rw [Exit.noGoto_ret]
          try simp only [Exit.jump]
          go_ret3
          exact rdpost8 E2.out (by first | rfl | simp) RdG.nil (Nat.le_refl _) Nw.zero hS5
        · have hl64 : ¬ (l.length : Int) + 1 = 64 := by omega
          obtain ⟨k, hk⟩ : ∃ k, 63 - l.length = k + 1 := ⟨63 - l.length - 1, by omega⟩
          have hG2 := HG.out
          rw [hk, HN.out k c32] at hG2
          have HG2 := Lib.hid hG2
          have HK := Lib.hid hk
          clear b32 b256 hl hG2 hk
          go_wp2_with (first | (go_at_call 59; (with_reducible refine hC.mono ?_); rintro e w2 ⟨rfl, hS2⟩; have hT2 := hS.trans hS2; have hO2 := hO.since hS2) | (at_builtin; refine wpList_append_g rfl _ _ 59 44 rfl (by omega) ptV_len ptV_one 56 Try.underlying59 infoPt w.heap.size (.slice Av l.length cv) l rfl ((hO2.alloc _).alloc _) _ _ _ [⟨g0, x0, y0, a0, a1, a2, a3⟩] rfl (part_one _ _ (by simp) _ _ _ _ _ _ _ _) (by simp only [List.length_cons, List.length_nil]; omega) (by simp only [List.length_cons, List.length_nil, maxLen]; omega) (by have := hT2.below.size; simp; omega) ?_; intro v5 w5 hO5 hg5 hb5; have hS5 : Since w w5 := (since_grown ((hT2.alloc _).alloc _) hg5 (fun q hq => (hb5 q hq).1)); obtain ⟨A5, c5, rfl, hc5, hr5⟩ := hO5.rd (by omega) ptV_len; have hN5 : (l ++ [(⟨g0, x0, y0, a0, a1, a2, a3⟩ : Pt8)]).length = l.length + 1 := (by simp); rw [hN5] at hO5 hc5 ⊢; clear hg5 hb5 hO2))
          go_step3
          have hl9 : (l ++ [(⟨g0, x0, y0, a0, a1, a2, a3⟩ : Pt8)]).length ≤ 63 := by rw [hN5]; omega
          have hG9 : rdGo f n 63 10 = preR (l ++ [⟨g0, x0, y0, a0, a1, a2, a3⟩]) (rdGo f n (63 - (l ++ [(⟨g0, x0, y0, a0, a1, a2, a3⟩ : Pt8)]).length) q) := by
            rw [hN5, HG2.out, show 63 - (l.length + 1) = k by have := HK.out; omega]
          exact ⟨rfl, ⟨_, q, _, _, _, _, _, _, _, _, _, _, _, _, _, _, _, _, _, _, _, _, _, _, _, _, _, _, _, _, _, _, _, _, _, _, _, _, _, _, _, _, _, _, _, _, _, _, _, _, _, _, _, _, _, _, _, _, _, _, _, _, _, rfl, hO5, hl9, hsz, hS5, hG9⟩, by show 64 - (l.length + 1) < 64 - l.length; omega⟩
      · have d32 := b32.2 c32
        have hG2 := HG.out
        rw [HL.out _ c32] at hG2
        by_cases c256 : Has8 fl 256
        · have d256 := b256.1 c256
          by_cases hcd : cdE f n q = 3
          · have E2 := Lib.hid (show rdAns8 f n = ⟨3, [], 0, 0⟩ by rw [E.out, hG2]; unfold fin8; rw [if_neg (by simp), if_neg (by simp [c256])]; unfold cdE at hcd; split at hcd; (rw [if_pos (by assumption)]); (split at hcd; (rw [if_neg (by assumption), if_pos (by assumption)]); omega))
            have HCC : ∀ w2, Since w w2 → Calls Try.prog 60 #[.slice A n c, .int .i64 (q : Int)] w2 fun e w' => ∃ A' cap, e = .returned (.tuple #[.slice A' 0 cap, .int .i64 3]) ∧ Since w2 w' := fun w2 h2 => co_code_no A n c f q _ w2 (h.on h2) hf rfl hn hsz hnc hcd
            have HC2 := Lib.hid HCC
            clear b32 b256 hl hG2 HCC hcd
            go_wp2_with (first | (go_at_call 59; (with_reducible refine hC.mono ?_); rintro e w2 ⟨rfl, hS2⟩; have hT2 := hS.trans hS2; have hO2 := hO.since hS2) | (at_builtin; refine wpList_append_g rfl _ _ 59 44 rfl (by omega) ptV_len ptV_one 56 Try.underlying59 infoPt w.heap.size (.slice Av l.length cv) l rfl ((hO2.alloc _).alloc _) _ _ _ [⟨g0, x0, y0, a0, a1, a2, a3⟩] rfl (part_one _ _ (by simp) _ _ _ _ _ _ _ _) (by simp only [List.length_cons, List.length_nil]; omega) (by simp only [List.length_cons, List.length_nil, maxLen]; omega) (by have := hT2.below.size; simp; omega) ?_; intro v5 w5 hO5 hg5 hb5; have hS5 : Since w w5 := (since_grown ((hT2.alloc _).alloc _) hg5 (fun q hq => (hb5 q hq).1)); obtain ⟨A5, c5, rfl, hc5, hr5⟩ := hO5.rd (by omega) ptV_len; have hN5 : (l ++ [(⟨g0, x0, y0, a0, a1, a2, a3⟩ : Pt8)]).length = l.length + 1 := (by simp); rw [hN5] at hO5 hc5 ⊢; clear hg5 hb5 hO2) | (go_at_call 60; (with_reducible refine (HC2.out _ hS5).mono ?_); rintro e w6 ⟨A6, c6, rfl, hS6⟩))
            try rw [Exit.noGoto_ret]
            try simp only [Exit.jump]
            go_ret3
            exact rdpost8 E2.out (by first | rfl | simp) RdG.nil (Nat.le_refl _) Nw.zero (hS5.trans hS6)
          · have hr2 : q + 2 ≤ n ∧ 0 ≤ fl8 f q ∧ (q : Int) + 2 + fl8 f q ≤ n := by
              unfold cdE at hcd
              have h1 : ¬ n < q + 2 := fun e => by rw [if_pos e] at hcd; omega
              rw [if_neg h1] at hcd
              have h2 : ¬ (n : Int) < q + 2 + fl8 f q := fun e => by rw [if_pos e] at hcd; omega
              have h3 := (numAt_range (f := f) (p := q) (k := 2) (fun j hj => hf j (by omega))).1
              exact ⟨by omega, h3, by omega⟩
            obtain ⟨m, hm⟩ : ∃ m : Nat, fl8 f q = m := ⟨(fl8 f q).toNat, by omega⟩
            have E2 := Lib.hid (show rdAns8 f n = ⟨0, l ++ [⟨g0, x0, y0, a0, a1, a2, a3⟩], q + 2, m⟩ by rw [E.out, hG2]; unfold fin8; rw [if_neg (by simp), if_neg (by simp [c256]), if_neg (by simp only; omega), if_neg (by simp only; omega)]; simp [hm])
            have HCC : ∀ w2, Since w w2 → Calls Try.prog 60 #[.slice A n c, .int .i64 (q : Int)] w2 fun e w' => ∃ A' cap, e = .returned (.tuple #[.slice A' m cap, .int .i64 0]) ∧ m ≤ cap ∧ Nw w' w2.heap.size A' m (U8 (fun j => f (q + 2 + j))) ∧ Since w2 w' := fun w2 h2 => co_code_yes A n c f q m _ w2 (h.on h2) hf rfl hn hnc hr2.1 hm (by omega)
            have HC2 := Lib.hid HCC
            clear b32 b256 hl hG2 HCC hcd hr2 hm
            go_wp2_with (first | (go_at_call 59; (with_reducible refine hC.mono ?_); rintro e w2 ⟨rfl, hS2⟩; have hT2 := hS.trans hS2; have hO2 := hO.since hS2) | (at_builtin; refine wpList_append_g rfl _ _ 59 44 rfl (by omega) ptV_len ptV_one 56 Try.underlying59 infoPt w.heap.size (.slice Av l.length cv) l rfl ((hO2.alloc _).alloc _) _ _ _ [⟨g0, x0, y0, a0, a1, a2, a3⟩] rfl (part_one _ _ (by simp) _ _ _ _ _ _ _ _) (by simp only [List.length_cons, List.length_nil]; omega) (by simp only [List.length_cons, List.length_nil, maxLen]; omega) (by have := hT2.below.size; simp; omega) ?_; intro v5 w5 hO5 hg5 hb5; have hS5 : Since w w5 := (since_grown ((hT2.alloc _).alloc _) hg5 (fun q hq => (hb5 q hq).1)); obtain ⟨A5, c5, rfl, hc5, hr5⟩ := hO5.rd (by omega) ptV_len; have hN5 : (l ++ [(⟨g0, x0, y0, a0, a1, a2, a3⟩ : Pt8)]).length = l.length + 1 := (by simp); rw [hN5] at hO5 hc5 ⊢; clear hg5 hb5 hO2) | (go_at_call 60; (with_reducible refine (HC2.out _ hS5).mono ?_); rintro e w6 ⟨A6, c6, rfl, hm6, hN6, hS6⟩; have hr6 := hr5.on hS6))
            try rw [Exit.noGoto_ret]
            try simp only [Exit.jump]
            go_ret3
            exact rdpost8 E2.out hN5.symm hr6 hm6 (hN6.low hS5.below.size) (hS5.trans hS6)
        · have d256 := b256.2 c256
          have E2 := Lib.hid (show rdAns8 f n = ⟨0, l ++ [⟨g0, x0, y0, a0, a1, a2, a3⟩], 0, 0⟩ by rw [E.out, hG2]; unfold fin8; rw [if_neg (by simp), if_pos c256])
          clear b32 b256 hl hG2
          go_wp2_with (first | (go_at_call 59; (with_reducible refine hC.mono ?_); rintro e w2 ⟨rfl, hS2⟩; have hT2 := hS.trans hS2; have hO2 := hO.since hS2) | (at_builtin; refine wpList_append_g rfl _ _ 59 44 rfl (by omega) ptV_len ptV_one 56 Try.underlying59 infoPt w.heap.size (.slice Av l.length cv) l rfl ((hO2.alloc _).alloc _) _ _ _ [⟨g0, x0, y0, a0, a1, a2, a3⟩] rfl (part_one _ _ (by simp) _ _ _ _ _ _ _ _) (by simp only [List.length_cons, List.length_nil]; omega) (by simp only [List.length_cons, List.length_nil, maxLen]; omega) (by have := hT2.below.size; simp; omega) ?_; intro v5 w5 hO5 hg5 hb5; have hS5 : Since w w5 := (since_grown ((hT2.alloc _).alloc _) hg5 (fun q hq => (hb5 q hq).1)); obtain ⟨A5, c5, rfl, hc5, hr5⟩ := hO5.rd (by omega) ptV_len; have hN5 : (l ++ [(⟨g0, x0, y0, a0, a1, a2, a3⟩ : Pt8)]).length = l.length + 1 := (by simp); rw [hN5] at hO5 hc5 ⊢; clear hg5 hb5 hO2))
          try rw [Exit.noGoto_ret]
          try simp only [Exit.jump]
          go_ret3
          exact rdpost8 E2.out hN5.symm hr5 (Nat.zero_le _) Nw.zero hS5
    · have hC := co_part_no A n c f p _ _ w' hSA hf rfl (by omega) hn hnc rfl hpe
      have hG2 := hG
      rw [go_bad _ hpe] at hG2
      have E2 := Lib.hid (show rdAns8 f n = ⟨pe8 f n p, [], 0, 0⟩ by rw [E.out, hG2]; unfold fin8; rw [if_pos hpe])
      generalize pe8 f n p = e8 at *
      have hpe' : (e8 == 0) = false := by simpa using hpe
      simp only [zPt, ptV] at hC
      clear hG hG2
      go_wp2_with (first | (go_at_call 59; (with_reducible refine hC.mono ?_); rintro e w2 ⟨rfl, hS2⟩; have hT2 := hS.trans hS2; have hO2 := hO.since hS2))
      try rw [Exit.noGoto_ret]
      try simp only [Exit.jump]
      go_ret3
      exact rdpost8 E2.out (by first | rfl | simp) RdG.nil (Nat.le_refl _) Nw.zero (by (repeat (first | with_reducible (exact Since.refl _) | with_reducible assumption | with_reducible (refine Since.drew ?_) | with_reducible (refine Since.drewN ?_ _) | with_reducible (refine Since.alloc ?_ _) | (with_reducible (refine Since.setCell ?_ ?_ _); rotate_left; focus (first | (simp; done) | (simp; omega) | omega)) | (with_reducible (refine Since.trans ?_ (by with_reducible assumption))))))
  · go_wp2_with (go_at_call 53; (with_reducible refine hS0.mono ?_); rintro e w2 ⟨rfl, hw2⟩; have hw3 := hw2.symm; subst hw3; clear hw2)
    go_step3
    have hS := Since.refl w
    have hO : OwnP8 w w.heap.size (.slice none 0 0) [] := OwnG.nil _ _ _ _ _
    have hl : (0 : Nat) ≤ 63 := by omega
    have hp : 10 ≤ n := by omega
    have hG : rdGo f n 63 10 = preR [] (rdGo f n (63 - ([] : List Pt8).length) 10) := hG0
    clear hG0
    have hpi : True := trivial
    have hk0 := hk
    have hSA := h.on hS
    have hLEN : ([] : List Pt8).length ≤ 63 := hl
    by_cases hpe : pe8 f n 10 = 0
    · have hrange := numAt_range (f := f) (p := 10) (k := 2) (fun j hj => hf j (by unfold pe8 at hpe; split at hpe <;> omega))
      have hrange : 0 ≤ fl8 f 10 ∧ fl8 f 10 < 65536 := hrange
      have hsz := pe8_sz hpe
      have hC := co_part_is A n c f 10 10 w hSA hf rfl hn hnc hpe _ rfl
      have hlast := fun k h => go_last (l := ([] : List Pt8)) (f := f) (n := n) k hpe h
      have hfull := fun h => go_full (l := ([] : List Pt8)) (f := f) (n := n) hpe h
      have hnext := fun k h => go_next (l := ([] : List Pt8)) (f := f) (n := n) k hpe h
      have b32 := and_b32 hrange.1 (show fl8 f 10 < 4294967296 by omega)
      have b256 := and_b256 hrange.1 (show fl8 f 10 < 4294967296 by omega)
      obtain ⟨q, hq⟩ : ∃ q, q = 10 + sz8 (fl8 f 10) := ⟨_, rfl⟩
      rw [← hq] at hlast hnext hsz
      have hqi : (10 : Int) + (sz8 (fl8 f 10) : Int) = (q : Int) := by omega
      have hqb : (q : Int) ≤ 140737488355328 := by omega
      generalize sz8 (fl8 f 10) = z at *
      generalize hP : pt8 f 10 = P at *
      generalize fl8 f 10 = fl at *
      obtain ⟨g0, x0, y0, a0, a1, a2, a3⟩ := P
      simp only at hC
      have HL := Lib.hid hlast
      have HF := Lib.hid hfull
      have HN := Lib.hid hnext
      have HG := Lib.hid hG
      clear hlast hfull hnext hG hP hrange hq hpe
      by_cases c32 : Has8 fl 32
      · have d32 := b32.1 c32
        by_cases hl63 : ([] : List Pt8).length = 63
        · exact absurd hl63 (by simp)
        · have hl64 : ¬ (([] : List Pt8).length : Int) + 1 = 64 := by omega
          obtain ⟨k, hk⟩ : ∃ k, 63 - ([] : List Pt8).length = k + 1 := ⟨63 - ([] : List Pt8).length - 1, by omega⟩
          have hG2 := HG.out
          rw [hk, HN.out k c32] at hG2
          have HG2 := Lib.hid hG2
          have HK := Lib.hid hk
          clear b32 b256 hl hG2 hk
          go_wp2_with (first | (go_at_call 59; (with_reducible refine hC.mono ?_); rintro e w2 ⟨rfl, hS2⟩; have hT2 := hS.trans hS2; have hO2 := hO.since hS2) | (at_builtin; refine wpList_append_g rfl _ _ 59 44 rfl (by omega) ptV_len ptV_one 56 Try.underlying59 infoPt w.heap.size (.slice none 0 0) ([] : List Pt8) rfl ((hO2.alloc _).alloc _) _ _ _ [⟨g0, x0, y0, a0, a1, a2, a3⟩] rfl (part_one _ _ (by simp) _ _ _ _ _ _ _ _) (by simp only [List.length_cons, List.length_nil]; omega) (by simp only [List.length_cons, List.length_nil, maxLen]; omega) (by have := hT2.below.size; simp; omega) ?_; intro v5 w5 hO5 hg5 hb5; have hS5 : Since w w5 := (since_grown ((hT2.alloc _).alloc _) hg5 (fun q hq => (hb5 q hq).1)); obtain ⟨A5, c5, rfl, hc5, hr5⟩ := hO5.rd (by omega) ptV_len; have hN5 : (([] : List Pt8) ++ [(⟨g0, x0, y0, a0, a1, a2, a3⟩ : Pt8)]).length = ([] : List Pt8).length + 1 := (by simp); rw [hN5] at hO5 hc5 ⊢; clear hg5 hb5 hO2))
          go_step3
          have hl9 : (([] : List Pt8) ++ [(⟨g0, x0, y0, a0, a1, a2, a3⟩ : Pt8)]).length ≤ 63 := by rw [hN5]; omega
          have hG9 : rdGo f n 63 10 = preR (([] : List Pt8) ++ [⟨g0, x0, y0, a0, a1, a2, a3⟩]) (rdGo f n (63 - (([] : List Pt8) ++ [(⟨g0, x0, y0, a0, a1, a2, a3⟩ : Pt8)]).length) q) := by
            rw [hN5, HG2.out, show 63 - (([] : List Pt8).length + 1) = k by have := HK.out; omega]
          exact ⟨rfl, ⟨_, q, _, _, _, _, _, _, _, _, _, _, _, _, _, _, _, _, _, _, _, _, _, _, _, _, _, _, _, _, _, _, _, _, _, _, _, _, _, _, _, _, _, _, _, _, _, _, _, _, _, _, _, _, _, _, _, _, _, _, _, _, _, rfl, hO5, hl9, hsz, hS5, hG9⟩⟩
      · have d32 := b32.2 c32
        have hG2 := HG.out
        rw [HL.out _ c32] at hG2
        by_cases c256 : Has8 fl 256
        · have d256 := b256.1 c256
          by_cases hcd : cdE f n q = 3
          · have E2 := Lib.hid (show rdAns8 f n = ⟨3, [], 0, 0⟩ by rw [E.out, hG2]; unfold fin8; rw [if_neg (by simp), if_neg (by simp [c256])]; unfold cdE at hcd; split at hcd; (rw [if_pos (by assumption)]); (split at hcd; (rw [if_neg (by assumption), if_pos (by assumption)]); omega))
            have HCC : ∀ w2, Since w w2 → Calls Try.prog 60 #[.slice A n c, .int .i64 (q : Int)] w2 fun e w' => ∃ A' cap, e = .returned (.tuple #[.slice A' 0 cap, .int .i64 3]) ∧ Since w2 w' := fun w2 h2 => co_code_no A n c f q _ w2 (h.on h2) hf rfl hn hsz hnc hcd
            have HC2 := Lib.hid HCC
            clear b32 b256 hl hG2 HCC hcd
            go_wp2_with (first | (go_at_call 59; (with_reducible refine hC.mono ?_); rintro e w2 ⟨rfl, hS2⟩; have hT2 := hS.trans hS2; have hO2 := hO.since hS2) | (at_builtin; refine wpList_append_g rfl _ _ 59 44 rfl (by omega) ptV_len ptV_one 56 Try.underlying59 infoPt w.heap.size (.slice none 0 0) ([] : List Pt8) rfl ((hO2.alloc _).alloc _) _ _ _ [⟨g0, x0, y0, a0, a1, a2, a3⟩] rfl (part_one _ _ (by simp) _ _ _ _ _ _ _ _) (by simp only [List.length_cons, List.length_nil]; omega) (by simp only [List.length_cons, List.length_nil, maxLen]; omega) (by have := hT2.below.size; simp; omega) ?_; intro v5 w5 hO5 hg5 hb5; have hS5 : Since w w5 := (since_grown ((hT2.alloc _).alloc _) hg5 (fun q hq => (hb5 q hq).1)); obtain ⟨A5, c5, rfl, hc5, hr5⟩ := hO5.rd (by omega) ptV_len; have hN5 : (([] : List Pt8) ++ [(⟨g0, x0, y0, a0, a1, a2, a3⟩ : Pt8)]).length = ([] : List Pt8).length + 1 := (by simp); rw [hN5] at hO5 hc5 ⊢; clear hg5 hb5 hO2) | (go_at_call 60; (with_reducible refine (HC2.out _ hS5).mono ?_); rintro e w6 ⟨A6, c6, rfl, hS6⟩))
            try rw [Exit.noGoto_ret]
            try simp only [Exit.jump]
            go_ret3
            exact rdpost8 E2.out (by first | rfl | simp) RdG.nil (Nat.le_refl _) Nw.zero (hS5.trans hS6)
          · have hr2 : q + 2 ≤ n ∧ 0 ≤ fl8 f q ∧ (q : Int) + 2 + fl8 f q ≤ n := by
              unfold cdE at hcd
              have h1 : ¬ n < q + 2 := fun e => by rw [if_pos e] at hcd; omega
              rw [if_neg h1] at hcd
              have h2 : ¬ (n : Int) < q + 2 + fl8 f q := fun e => by rw [if_pos e] at hcd; omega
              have h3 := (numAt_range (f := f) (p := q) (k := 2) (fun j hj => hf j (by omega))).1
              exact ⟨by omega, h3, by omega⟩
            obtain ⟨m, hm⟩ : ∃ m : Nat, fl8 f q = m := ⟨(fl8 f q).toNat, by omega⟩
            have E2 := Lib.hid (show rdAns8 f n = ⟨0, ([] : List Pt8) ++ [⟨g0, x0, y0, a0, a1, a2, a3⟩], q + 2, m⟩ by rw [E.out, hG2]; unfold fin8; rw [if_neg (by simp), if_neg (by simp [c256]), if_neg (by simp only; omega), if_neg (by simp only; omega)]; simp [hm])
            have HCC : ∀ w2, Since w w2 → Calls Try.prog 60 #[.slice A n c, .int .i64 (q : Int)] w2 fun e w' => ∃ A' cap, e = .returned (.tuple #[.slice A' m cap, .int .i64 0]) ∧ m ≤ cap ∧ Nw w' w2.heap.size A' m (U8 (fun j => f (q + 2 + j))) ∧ Since w2 w' := fun w2 h2 => co_code_yes A n c f q m _ w2 (h.on h2) hf rfl hn hnc hr2.1 hm (by omega)
            have HC2 := Lib.hid HCC
            clear b32 b256 hl hG2 HCC hcd hr2 hm
            go_wp2_with (first | (go_at_call 59; (with_reducible refine hC.mono ?_); rintro e w2 ⟨rfl, hS2⟩; have hT2 := hS.trans hS2; have hO2 := hO.since hS2) | (at_builtin; refine wpList_append_g rfl _ _ 59 44 rfl (by omega) ptV_len ptV_one 56 Try.underlying59 infoPt w.heap.size (.slice none 0 0) ([] : List Pt8) rfl ((hO2.alloc _).alloc _) _ _ _ [⟨g0, x0, y0, a0, a1, a2, a3⟩] rfl (part_one _ _ (by simp) _ _ _ _ _ _ _ _) (by simp only [List.length_cons, List.length_nil]; omega) (by simp only [List.length_cons, List.length_nil, maxLen]; omega) (by have := hT2.below.size; simp; omega) ?_; intro v5 w5 hO5 hg5 hb5; have hS5 : Since w w5 := (since_grown ((hT2.alloc _).alloc _) hg5 (fun q hq => (hb5 q hq).1)); obtain ⟨A5, c5, rfl, hc5, hr5⟩ := hO5.rd (by omega) ptV_len; have hN5 : (([] : List Pt8) ++ [(⟨g0, x0, y0, a0, a1, a2, a3⟩ : Pt8)]).length = ([] : List Pt8).length + 1 := (by simp); rw [hN5] at hO5 hc5 ⊢; clear hg5 hb5 hO2) | (go_at_call 60; (with_reducible refine (HC2.out _ hS5).mono ?_); rintro e w6 ⟨A6, c6, rfl, hm6, hN6, hS6⟩; have hr6 := hr5.on hS6))
            try rw [Exit.noGoto_ret]
            try simp only [Exit.jump]
            go_ret3
            exact rdpost8 E2.out hN5.symm hr6 hm6 (hN6.low hS5.below.size) (hS5.trans hS6)
        · have d256 := b256.2 c256
          have E2 := Lib.hid (show rdAns8 f n = ⟨0, ([] : List Pt8) ++ [⟨g0, x0, y0, a0, a1, a2, a3⟩], 0, 0⟩ by rw [E.out, hG2]; unfold fin8; rw [if_neg (by simp), if_pos c256])
          clear b32 b256 hl hG2
          go_wp2_with (first | (go_at_call 59; (with_reducible refine hC.mono ?_); rintro e w2 ⟨rfl, hS2⟩; have hT2 := hS.trans hS2; have hO2 := hO.since hS2) | (at_builtin; refine wpList_append_g rfl _ _ 59 44 rfl (by omega) ptV_len ptV_one 56 Try.underlying59 infoPt w.heap.size (.slice none 0 0) ([] : List Pt8) rfl ((hO2.alloc _).alloc _) _ _ _ [⟨g0, x0, y0, a0, a1, a2, a3⟩] rfl (part_one _ _ (by simp) _ _ _ _ _ _ _ _) (by simp only [List.length_cons, List.length_nil]; omega) (by simp only [List.length_cons, List.length_nil, maxLen]; omega) (by have := hT2.below.size; simp; omega) ?_; intro v5 w5 hO5 hg5 hb5; have hS5 : Since w w5 := (since_grown ((hT2.alloc _).alloc _) hg5 (fun q hq => (hb5 q hq).1)); obtain ⟨A5, c5, rfl, hc5, hr5⟩ := hO5.rd (by omega) ptV_len; have hN5 : (([] : List Pt8) ++ [(⟨g0, x0, y0, a0, a1, a2, a3⟩ : Pt8)]).length = ([] : List Pt8).length + 1 := (by simp); rw [hN5] at hO5 hc5 ⊢; clear hg5 hb5 hO2))
          try rw [Exit.noGoto_ret]
          try simp only [Exit.jump]
          go_ret3
          exact rdpost8 E2.out hN5.symm hr5 (Nat.zero_le _) Nw.zero hS5
    · have hC := co_part_no A n c f 10 10 _ w hSA hf rfl (by omega) hn hnc rfl hpe
      have hG2 := hG
      rw [go_bad _ hpe] at hG2
      have E2 := Lib.hid (show rdAns8 f n = ⟨pe8 f n 10, [], 0, 0⟩ by rw [E.out, hG2]; unfold fin8; rw [if_pos hpe])
      generalize pe8 f n 10 = e8 at *
      have hpe' : (e8 == 0) = false := by simpa using hpe
      simp only [zPt, ptV] at hC
      clear hG hG2
      go_wp2_with (first | (go_at_call 59; (with_reducible refine hC.mono ?_); rintro e w2 ⟨rfl, hS2⟩; have hT2 := hS.trans hS2; have hO2 := hO.since hS2))
      try rw [Exit.noGoto_ret]
      try simp only [Exit.jump]
      go_ret3
      exact rdpost8 E2.out (by first | rfl | simp) RdG.nil (Nat.le_refl _) Nw.zero (by (repeat (first | with_reducible (exact Since.refl _) | with_reducible assumption | with_reducible (refine Since.drew ?_) | with_reducible (refine Since.drewN ?_ _) | with_reducible (refine Since.alloc ?_ _) | (with_reducible (refine Since.setCell ?_ ?_ _); rotate_left; focus (first | (simp; done) | (simp; omega) | omega)) | (with_reducible (refine Since.trans ?_ (by with_reducible assumption))))))
end Go.Proofs.Ytcjjcjpkmjbfkaa
