/-
  Layer 9: the document's example of a font.
-/
import Derived.Test.YteckkcpnfeoehaaDoorFnO
import Derived.Test.YteckkcpnfeoehaaDoorFnM
import Derived.Test.YteckkcpnfeoehaaDoorMpO
namespace Go.Proofs.YteckkcpnfeoehaaDoor
set_option maxRecDepth 100000
open Go.RowKit Go.ChangeShapes Go.WideShapes Go.Deep
set_option linter.unusedVariables false
set_option linter.unusedSimpArgs false

def e54 : List Int := [0, 0, 0, 0, 0, 0, 0, 0, 0, 0, 0, 0, 95, 15, 60, 245, 0, 0, 3, 232, 0, 0, 0, 0, 0, 0, 0, 0, 0, 0, 0, 0, 0, 0, 0, 0, 0, 0, 0, 0, 0, 0, 0, 0, 0, 0, 0, 0, 0, 0, 0, 0, 0, 0]
def e32 : List Int := [0, 1, 0, 0, 0, 1, 0, 0, 0, 0, 0, 0, 0, 0, 0, 0, 0, 0, 0, 0, 0, 0, 0, 0, 0, 0, 0, 0, 0, 0, 0, 0]
def e36 : List Int := [0, 0, 0, 0, 0, 0, 0, 0, 0, 0, 0, 0, 0, 0, 0, 0, 0, 0, 0, 0, 0, 0, 0, 0, 0, 0, 0, 0, 0, 0, 0, 0, 0, 0, 0, 1]
/-- The example. -/
def ex9 : Fn9 := ⟨[⟨tgHead, e54⟩, ⟨tgHhea, e36⟩, ⟨tgMaxp, e32⟩], ⟨1000, 0, 0, 0, 0, false⟩, ⟨1, 0, 0, 0, 0, 0, 0⟩, [(500, 0)], 1, [[]]⟩
theorem e54_row {w : World} {g : Nat} {s : ByteArray} (hs : s.data.toList = [95, 15, 60, 245]) (h : Row w g 54 (overV 12 (s.data.toList.map fun x => Value.int .u8 (x.toNat : Int)) (IntRow .u8 (fun _ => 0)))) : Row ((w.setCell ⟨g, 18, none⟩ (.int .u8 3)).setCell ⟨g, 19, none⟩ (.int .u8 232)) g 54 (U8 (fnL e54)) := by
  refine ((h.set 18 _).set 19 _).congr (fun j hj => ?_)
  rw [hs]
  have key : ∀ j, j < 54 → (if j = 19 then Value.int .u8 232 else if j = 18 then Value.int .u8 3 else overV 12 ([95, 15, 60, 245].map fun x : UInt8 => Value.int .u8 (x.toNat : Int)) (IntRow .u8 (fun _ => 0)) j) = U8 (fnL e54) j := by
    intro j hj
    unfold overV
    by_cases h1 : 12 ≤ j ∧ j < 20
    · have hc : j = 12 ∨ j = 13 ∨ j = 14 ∨ j = 15 ∨ j = 16 ∨ j = 17 ∨ j = 18 ∨ j = 19 := by omega
      rcases hc with rfl | rfl | rfl | rfl | rfl | rfl | rfl | rfl <;> rfl
    · rw [if_neg (by omega), if_neg (by omega), if_neg (by simp; omega)]
      have hz : fnL e54 j = 0 := by
        have hall : ∀ i : Fin 54, ¬ (12 ≤ i.1 ∧ i.1 < 20) → fnL e54 i.1 = 0 := by decide +kernel
        exact hall ⟨j, hj⟩ h1
      simp only [U8, IntRow, hz]
  exact key j hj
theorem e32_row {w : World} {g : Nat} (h : Row w g 32 (IntRow .u8 (fun _ => 0))) : Row ((w.setCell ⟨g, 1, none⟩ (.int .u8 1)).setCell ⟨g, 5, none⟩ (.int .u8 1)) g 32 (U8 (fnL e32)) := by
  refine ((h.set 1 _).set 5 _).congr (fun j hj => ?_)
  have hall : ∀ i : Fin 32, (if i.1 = 5 then (1 : Int) else if i.1 = 1 then 1 else 0) = fnL e32 i.1 := by decide +kernel
  have := hall ⟨j, hj⟩
  simp only at this
  show _ = Value.int .u8 (fnL e32 j)
  rw [← this]
  by_cases h5 : j = 5
  · rw [if_pos h5, if_pos h5]
  · rw [if_neg h5, if_neg h5]
    by_cases h1 : j = 1
    · rw [if_pos h1, if_pos h1]
    · rw [if_neg h1, if_neg h1]; rfl
theorem e36_row {w : World} {g : Nat} (h : Row w g 36 (IntRow .u8 (fun _ => 0))) : Row (w.setCell ⟨g, 35, none⟩ (.int .u8 1)) g 36 (U8 (fnL e36)) := by
  refine (h.set 35 _).congr (fun j hj => ?_)
  have hall : ∀ i : Fin 36, (if i.1 = 35 then (1 : Int) else 0) = fnL e36 i.1 := by decide +kernel
  have := hall ⟨j, hj⟩
  simp only at this
  show _ = Value.int .u8 (fnL e36 j)
  rw [← this]
  by_cases h5 : j = 35
  · rw [if_pos h5, if_pos h5]
  · rw [if_neg h5, if_neg h5]; rfl
/-- What the example's call leaves. -/
def Ex9P (w : World) (e : Ending) (w' : World) : Prop := ∃ x, e = .returned (.agg (fnV x ex9)) ∧ FnR w' w'.heap.size x ex9 ∧ ex9.GG.length ≤ x.cg ∧ Since w w'
theorem ex9_post {wA w' : World} {q q1 q2 q3 : Nat} (hq : q = wA.heap.size) (h1 : Row wA q1 54 (U8 (fnL e54))) (h2 : Row wA q2 32 (U8 (fnL e32))) (h3 : Row wA q3 36 (U8 (fnL e36))) (t1 t2 t3 : TypeId) (z : Nat) (hz : z < q)
    (hN : Nigh z (((wA.alloc (.cells #[.string tgHead, .slice (some ⟨q1, 0, none⟩) 54 54, .string tgHhea, .slice (some ⟨q3, 0, none⟩) 36 36, .string tgMaxp, .slice (some ⟨q2, 0, none⟩) 32 32] t1)).alloc (.cells #[.int .i64 500, .int .i64 0] t2)).alloc (.cells #[.slice none 0 0] t3)) w')
    (hz1 : z ≠ q1) (hz2 : z ≠ q2) (hz3 : z ≠ q3) : FnR w' w'.heap.size ⟨some ⟨q, 0, none⟩, 3, some ⟨q + 1, 0, none⟩, 1, some ⟨q + 2, 0, none⟩, 1⟩ ex9 := by
  obtain ⟨wB, hB⟩ : ∃ x, x = wA.alloc (.cells #[.string tgHead, .slice (some ⟨q1, 0, none⟩) 54 54, .string tgHhea, .slice (some ⟨q3, 0, none⟩) 36 36, .string tgMaxp, .slice (some ⟨q2, 0, none⟩) 32 32] t1) := ⟨_, rfl⟩
  obtain ⟨wC, hC⟩ : ∃ x, x = wB.alloc (.cells #[.int .i64 500, .int .i64 0] t2) := ⟨_, rfl⟩
  obtain ⟨wD, hD⟩ : ∃ x, x = wC.alloc (.cells #[.slice none 0 0] t3) := ⟨_, rfl⟩
  rw [← hB, ← hC, ← hD] at hN
  have b1 : BoxL wB q [.string tgHead, .slice (some ⟨q1, 0, none⟩) 54 54, .string tgHhea, .slice (some ⟨q3, 0, none⟩) 36 36, .string tgMaxp, .slice (some ⟨q2, 0, none⟩) 32 32] := by rw [hB]; exact BoxL.new wA q hq t1 _
  have s1 : wB.heap.size = q + 1 := by rw [hB, hq]; simp
  have s2 : wC.heap.size = q + 2 := by rw [hC]; simp [s1]
  have s3 : wD.heap.size = q + 3 := by rw [hD]; simp [s2]
  have b2 : BoxL wC (q + 1) [.int .i64 500, .int .i64 0] := by rw [hC]; exact BoxL.new wB (q + 1) s1.symm t2 _
  have b3 : BoxL wD (q + 2) [.slice none 0 0] := by rw [hD]; exact BoxL.new wC (q + 2) s2.symm t3 _
  have kAB : Since wA wB := by rw [hB]; exact (Since.refl wA).alloc _
  have kBC : Since wB wC := by rw [hC]; exact (Since.refl wB).alloc _
  have kCD : Since wC wD := by rw [hD]; exact (Since.refl wC).alloc _
  have kBD := kBC.trans kCD
  have kAD := kAB.trans kBD
  have c1 := (b1.since kBD).nigh hN (by omega)
  have c2 := (b2.since kCD).nigh hN (by omega)
  have c3 := b3.nigh hN (by omega)
  have key : ∀ {g n : Nat} {L : List Int}, Row wA g n (U8 (fnL L)) → n = L.length → z ≠ g → RdB w' w'.heap.size (some ⟨g, 0, none⟩) L := fun {g n L} hr hn hg => by
    have hr2 := hr.since kAD
    refine rdb_of (Rd.of_row ⟨fun j hj => ?_, fun j => ?_, ?_⟩) hn (fun _ _ => rfl)
    · rw [← hr2.1 j hj]; have := hN.1.2 g hr2.2.2 (Ne.symm hg); simp only [World.cell?, this]
    · rw [← hr2.2.1 j]; have := hN.1.2 g hr2.2.2 (Ne.symm hg); simp only [World.frozen?, this]
    · exact Nat.lt_of_lt_of_le hr2.2.2 hN.1.1
  have lt : q + 2 < w'.heap.size := c3.lt
  refine ⟨?_, ?_, ?_⟩
  · refine ⟨[⟨tgHead, some ⟨q1, 0, none⟩, 54, 54⟩, ⟨tgHhea, some ⟨q3, 0, none⟩, 36, 36⟩, ⟨tgMaxp, some ⟨q2, 0, none⟩, 32, 32⟩], rfl, fun _ => ⟨q, 0, rfl, by omega, ?_⟩, ?_⟩
    · intro j s hs i hi
      rcases j with _ | _ | _ | j
      · injection hs with hs; subst hs
        rcases i with _ | _ | i
        · exact c1.cell 0 rfl
        · exact c1.cell 1 rfl
        · omega
      · injection hs with hs; subst hs
        rcases i with _ | _ | i
        · exact c1.cell 2 rfl
        · exact c1.cell 3 rfl
        · omega
      · injection hs with hs; subst hs
        rcases i with _ | _ | i
        · exact c1.cell 4 rfl
        · exact c1.cell 5 rfl
        · omega
      · cases hs
    · intro j h T h4 h5
      rcases j with _ | _ | _ | j
      · injection h4 with h4; injection h5 with h5; subst h4 h5; exact ⟨rfl, rfl, key h1 rfl hz1⟩
      · injection h4 with h4; injection h5 with h5; subst h4 h5; exact ⟨rfl, rfl, key h3 rfl hz3⟩
      · injection h4 with h4; injection h5 with h5; subst h4 h5; exact ⟨rfl, rfl, key h2 rfl hz2⟩
      · cases h4
  · intro _
    refine ⟨q + 1, 0, rfl, by omega, fun j hj => ?_⟩
    rcases j with _ | _ | j
    · exact c2.cell 0 rfl
    · exact c2.cell 1 rfl
    · exact absurd hj (by show ¬ j + 2 < 2; omega)
  · refine ⟨[⟨none, 0, 0⟩], rfl, fun _ => ⟨q + 2, 0, rfl, lt, ?_⟩, ?_⟩
    · intro j s hs i hi
      rcases j with _ | j
      · injection hs with hs; subst hs
        obtain rfl : i = 0 := by omega
        exact c3.cell 0 rfl
      · cases hs
    · intro j h L h4 h5
      rcases j with _ | j
      · injection h4 with h4; injection h5 with h5; subst h4 h5
        exact ⟨rfl, Nat.le_refl _, fun h0 => absurd h0 (by simp)⟩
      · cases h4
set_option maxRecDepth 1000000 in
set_option maxHeartbeats 64000000 in
theorem fn_example (w : World) : Calls Tryd.prog 21 #[] w (Ex9P w) := by
  obtain ⟨i0, hi0, hz0, hz1, hz2⟩ := info_parts Tryd.info_u8
  have b1 : 1 * 54 ≤ 281474976710656 := by omega
  have b2 : 54 ≤ maxLen := by simp only [maxLen]; omega
  have b3 : 1 * 36 ≤ 281474976710656 := by omega
  have b4 : 36 ≤ maxLen := by simp only [maxLen]; omega
  have b5 : 1 * 32 ≤ 281474976710656 := by omega
  have b6 : 32 ≤ maxLen := by simp only [maxLen]; omega
  go_enter Tryd.func21, Tryd.ntmps21
  go_upto_region 1 with fail
  refine wp_named fun w0 hw0 => ?_
  have hS0 : Since w w0 := by subst hw0; (repeat (first | with_reducible (exact Since.refl _) | with_reducible assumption | with_reducible (refine Since.drew ?_) | with_reducible (refine Since.drewN ?_ _) | with_reducible (refine Since.alloc ?_ _) | (with_reducible (refine Since.setCell ?_ ?_ _); rotate_left; focus (first | (simp; done) | (simp; omega) | omega)) | (with_reducible (refine Since.trans ?_ (by with_reducible assumption)))))
  have hb0 : BoxL w0 w.heap.size (fnC zX 0 zH zM 0 0 0) := by subst hw0; exact new_fn w _ rfl _
  clear hw0
  have hl0 := hb0.lt
  go_upto_region 4 with (first | (at_make; refine wpList_make_tab _ (by rfl) _ _ _ (by rfl) 5 i0 .u8 1 Tryd.underlying33 hi0 hz0 hz1 hz2 .i64 .i64 54 (by rfl) (by rfl) b1 b2 ?_; intro w1 hown1 hS1; have hr1 := row_of_own hown1; clear hown1) | (refine wpList_copy_str (by rfl) _ _ _ _ (by rfl) 5 Tryd.underlying33 Tryd.size_u8' w0.heap.size 12 _ _ 54 _ _ (by rfl) (by rfl) hr1 (by decide) (by decide) w0 hS1 (Nat.le_refl _) ?_; intro w2 hr2 hS2; have hc18 := hr2.1 18 (by omega); have hc19 := hr2.1 19 (by omega); have hf18 := hr2.2.1 18; have hf19 := hr2.2.1 19))
  have hrA := e54_row (by rfl) hr2
  have hSA := (hS2.setCell (p := ⟨w0.heap.size, 18, none⟩) (Nat.le_refl _) (.int .u8 3)).setCell (p := ⟨w0.heap.size, 19, none⟩) (Nat.le_refl _) (.int .u8 232)
  refine wp_named fun w3 hw3 => ?_
  have hr3 : Row w3 w0.heap.size 54 (U8 (fnL e54)) := by subst hw3; exact hrA
  have hS3 : Since w0 w3 := by subst hw3; exact hSA
  clear hw3 hrA hSA hS1 hr1 hr2 hS2 hc18 hc19 hf18 hf19
  have hb3 := hb0.since hS3
  obtain ⟨p1, hp1⟩ : ∃ p, p = w0.heap.size := ⟨_, rfl⟩
  rw [← hp1] at hr3 hl0 ⊢
  have hS3w := hS0.trans hS3
  clear hS3 hb0 hS0 hp1
  have hl3 := hr3.2.2
  go_upto_region 6 with (first | (at_make; refine wpList_make_tab _ (by rfl) _ _ _ (by rfl) 5 i0 .u8 1 Tryd.underlying33 hi0 hz0 hz1 hz2 .i64 .i64 32 (by rfl) (by rfl) b5 b6 ?_; intro w4 hown4 hS4; have hr4 := row_of_own hown4; clear hown4; have hc1 := hr4.1 1 (by omega); have hc5 := hr4.1 5 (by omega); have hf1 := hr4.2.1 1; have hf5 := hr4.2.1 5))
  have hrB := e32_row hr4
  have hSB := (hS4.setCell (p := ⟨w3.heap.size, 1, none⟩) (Nat.le_refl _) (.int .u8 1)).setCell (p := ⟨w3.heap.size, 5, none⟩) (Nat.le_refl _) (.int .u8 1)
  refine wp_named fun w5 hw5 => ?_
  have hr5 : Row w5 w3.heap.size 32 (U8 (fnL e32)) := by subst hw5; exact hrB
  have hS5 : Since w3 w5 := by subst hw5; exact hSB
  clear hw5 hrB hSB hS4 hr4 hc1 hc5 hf1 hf5
  have hb5 := hb3.since hS5
  have hr35 := hr3.since hS5
  obtain ⟨p2, hp2⟩ : ∃ p, p = w3.heap.size := ⟨_, rfl⟩
  rw [← hp2] at hr5 hl3 ⊢
  have hS5w := hS3w.trans hS5
  clear hS5 hb3 hr3 hp2 hS3w
  have hl5 := hr5.2.2
  go_upto_region 8 with (first | (at_make; refine wpList_make_tab _ (by rfl) _ _ _ (by rfl) 5 i0 .u8 1 Tryd.underlying33 hi0 hz0 hz1 hz2 .i64 .i64 36 (by rfl) (by rfl) b3 b4 ?_; intro w6 hown6 hS6; have hr6 := row_of_own hown6; clear hown6; have hc35 := hr6.1 35 (by omega); have hf35 := hr6.2.1 35))
  have hrC := e36_row hr6
  have hSC := hS6.setCell (p := ⟨w5.heap.size, 35, none⟩) (Nat.le_refl _) (.int .u8 1)
  refine wp_named fun wA hwA => ?_
  have hr7 : Row wA w5.heap.size 36 (U8 (fnL e36)) := by subst hwA; exact hrC
  have hS7 : Since w5 wA := by subst hwA; exact hSC
  clear hwA hrC hSC hS6 hr6 hc35 hf35
  have hb7 := hb5.since hS7
  have hr37 := hr35.since hS7
  have hr57 := hr5.since hS7
  obtain ⟨p3, hp3⟩ : ∃ p, p = w5.heap.size := ⟨_, rfl⟩
  rw [← hp3] at hr7 hl5 ⊢
  have hS7w := hS5w.trans hS7
  clear hS7 hb5 hr35 hr5 hp3 hS5w
  have hl7 := hr7.2.2
  have HX := Lib.hid (fun t1 t2 t3 w' (hN : Nigh w.heap.size _ w') => ex9_post (z := w.heap.size) (q := wA.heap.size) rfl hr37 hr57 hr7 t1 t2 t3 (by omega) hN (by omega) (by omega) (by omega))
  have hSX := Lib.hid (fun o1 o2 o3 => ((hS7w.alloc o1).alloc o2).alloc o3)
  clear hr37 hr57 hr7 i0 hi0 hz0 hz1 hz2 b1 b2 b3 b4 b5 b6
  go_wp2_with (refine wp_fn_store rfl _ _ rfl (by rfl) (by with_reducible exact ((hb7.alloc _).alloc _).alloc _) ⟨some ⟨wA.heap.size, 0, none⟩, 3, some ⟨wA.heap.size + 1, 0, none⟩, 1, some ⟨wA.heap.size + 2, 0, none⟩, 1⟩ 3 ex9.h ex9.m 1 1 1 (by rfl) ?_; intro wz hz hNz)
  refine ret_agg (P := Tryd.prog) Tryd.results21 (by rfl) hz.1 Tryd.underlying30 rfl infoFn rfl ⟨⟨some ⟨wA.heap.size, 0, none⟩, 3, some ⟨wA.heap.size + 1, 0, none⟩, 1, some ⟨wA.heap.size + 2, 0, none⟩, 1⟩, rfl, HX.out _ _ _ _ hNz, Nat.le_refl _, hNz.2 w (hSX.out _ _ _) (Nat.le_refl _)⟩
end Go.Proofs.YteckkcpnfeoehaaDoor
