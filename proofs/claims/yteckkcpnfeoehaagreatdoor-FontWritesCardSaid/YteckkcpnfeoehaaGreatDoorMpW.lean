/-
  Texts of this seat, put together: each with its own head.
-/
import Derived.Test.YteckkcpnfeoehaaGreatDoorMpV
import Derived.Test.YteckkcpnfeoehaaGreatDoorFnM
import Derived.Test.YteckkcpnfeoehaaGreatDoorMpO
import Derived.Test.YteckkcpnfeoehaaGreatDoorFnI
import Derived.Test.YteckkcpnfeoehaaGreatDoorFnH
import Derived.Deep.RegionHeld3

/-
  Layer 9: the document's example of a font.
-/
namespace Go.Proofs.YteckkcpnfeoehaaGreatDoor
set_option maxRecDepth 100000
open Go.RowKit Go.ChangeShapes Go.WideShapes Go.Deep
set_option linter.unusedVariables false
set_option linter.unusedSimpArgs false

def e54 : List Int := [0, 0, 0, 0, 0, 0, 0, 0, 0, 0, 0, 0, 95, 15, 60, 245, 0, 0, 3, 232, 0, 0, 0, 0, 0, 0, 0, 0, 0, 0, 0, 0, 0, 0, 0, 0, 0, 0, 0, 0, 0, 0, 0, 0, 0, 0, 0, 0, 0, 0, 0, 0, 0, 0]
def e32 : List Int := [0, 1, 0, 0, 0, 1, 0, 0, 0, 0, 0, 0, 0, 0, 0, 0, 0, 0, 0, 0, 0, 0, 0, 0, 0, 0, 0, 0, 0, 0, 0, 0]
def e36 : List Int := [0, 0, 0, 0, 0, 0, 0, 0, 0, 0, 0, 0, 0, 0, 0, 0, 0, 0, 0, 0, 0, 0, 0, 0, 0, 0, 0, 0, 0, 0, 0, 0, 0, 0, 0, 1]
/-- The example. -/
def ex9 : Fn9 := ⟨[⟨tgHead, e54⟩, ⟨tgHhea, e36⟩, ⟨tgMaxp, e32⟩], ⟨1000, 0, 0, 0, 0, false⟩, ⟨1, 0, 0, 0, 0, 0, 0⟩, [(500, 0)], 1, [[]]⟩
theorem e54_row {w : World} {g : Nat} {s : ByteArray} (hs : s.data.toList = [95, 15, 60, 245]) (h : Row w g 54 (overV 12 (s.data.toList.map fun x => Value.int .u8 (x.toNat : Int)) (IntRow .u8 (fun _ => 0)))) : Row ((w.setCell ⟨g, 18, none⟩ (.int .u8 3)).setCell ⟨g, 19, none⟩ (.int .u8 232)) g 54 (U8 (fnL e54)) := by
  refine ((h.set 18 _).set 19 _).congr (fun j hj => ?_)
  rw [hs]
  have key : ∀ j, j < 54 → (if j = 19 then Value.int .u8 232 else if j = 18 then Value.int .u8 3 else overV 12 ([95, 15, 60, 245].map fun x : UInt8 => Value.int .u8 (x.toNat : Int)) (IntRow .u8 (fun _ => 0)) j) = U8 (fnL e54) j := by
    intro j hj
    unfold overV
    by_cases h1 : 12 ≤ j ∧ j < 20
    · have hc : j = 12 ∨ j = 13 ∨ j = 14 ∨ j = 15 ∨ j = 16 ∨ j = 17 ∨ j = 18 ∨ j = 19 := by omega
      rcases hc with rfl | rfl | rfl | rfl | rfl | rfl | rfl | rfl <;> rfl
    · rw [if_neg (by omega), if_neg (by omega), if_neg (by simp; omega)]
      have hz : fnL e54 j = 0 := by
        have hall : ∀ i : Fin 54, ¬ (12 ≤ i.1 ∧ i.1 < 20) → fnL e54 i.1 = 0 := by decide +kernel
        exact hall ⟨j, hj⟩ h1
      simp only [U8, IntRow, hz]
  exact key j hj
theorem e32_row {w : World} {g : Nat} (h : Row w g 32 (IntRow .u8 (fun _ => 0))) : Row ((w.setCell ⟨g, 1, none⟩ (.int .u8 1)).setCell ⟨g, 5, none⟩ (.int .u8 1)) g 32 (U8 (fnL e32)) := by
  refine ((h.set 1 _).set 5 _).congr (fun j hj => ?_)
  have hall : ∀ i : Fin 32, (if i.1 = 5 then (1 : Int) else if i.1 = 1 then 1 else 0) = fnL e32 i.1 := by decide +kernel
  have := hall ⟨j, hj⟩
  simp only at this
  show _ = Value.int .u8 (fnL e32 j)
  rw [← this]
  by_cases h5 : j = 5
  · rw [if_pos h5, if_pos h5]
  · rw [if_neg h5, if_neg h5]
    by_cases h1 : j = 1
    · rw [if_pos h1, if_pos h1]
    · rw [if_neg h1, if_neg h1]; rfl
theorem e36_row {w : World} {g : Nat} (h : Row w g 36 (IntRow .u8 (fun _ => 0))) : Row (w.setCell ⟨g, 35, none⟩ (.int .u8 1)) g 36 (U8 (fnL e36)) := by
  refine (h.set 35 _).congr (fun j hj => ?_)
  have hall : ∀ i : Fin 36, (if i.1 = 35 then (1 : Int) else 0) = fnL e36 i.1 := by decide +kernel
  have := hall ⟨j, hj⟩
  simp only at this
  show _ = Value.int .u8 (fnL e36 j)
  rw [← this]
  by_cases h5 : j = 35
  · rw [if_pos h5, if_pos h5]
  · rw [if_neg h5, if_neg h5]; rfl
/-- What the example's call leaves. -/
def Ex9P (w : World) (e : Ending) (w' : World) : Prop := ∃ x, e = .returned (.agg (fnV x ex9)) ∧ FnR w' w'.heap.size x ex9 ∧ ex9.GG.length ≤ x.cg ∧ Since w w'
theorem ex9_post {wA w' : World} {q q1 q2 q3 : Nat} (hq : q = wA.heap.size) (h1 : Row wA q1 54 (U8 (fnL e54))) (h2 : Row wA q2 32 (U8 (fnL e32))) (h3 : Row wA q3 36 (U8 (fnL e36))) (t1 t2 t3 : TypeId) (z : Nat) (hz : z < q)
    (hN : Nigh z (((wA.alloc (.cells #[.string tgHead, .slice (some ⟨q1, 0, none⟩) 54 54, .string tgHhea, .slice (some ⟨q3, 0, none⟩) 36 36, .string tgMaxp, .slice (some ⟨q2, 0, none⟩) 32 32] t1)).alloc (.cells #[.int .i64 500, .int .i64 0] t2)).alloc (.cells #[.slice none 0 0] t3)) w')
    (hz1 : z ≠ q1) (hz2 : z ≠ q2) (hz3 : z ≠ q3) : FnR w' w'.heap.size ⟨some ⟨q, 0, none⟩, 3, some ⟨q + 1, 0, none⟩, 1, some ⟨q + 2, 0, none⟩, 1⟩ ex9 := by
  obtain ⟨wB, hB⟩ : ∃ x, x = wA.alloc (.cells #[.string tgHead, .slice (some ⟨q1, 0, none⟩) 54 54, .string tgHhea, .slice (some ⟨q3, 0, none⟩) 36 36, .string tgMaxp, .slice (some ⟨q2, 0, none⟩) 32 32] t1) := ⟨_, rfl⟩
  obtain ⟨wC, hC⟩ : ∃ x, x = wB.alloc (.cells #[.int .i64 500, .int .i64 0] t2) := ⟨_, rfl⟩
  obtain ⟨wD, hD⟩ : ∃ x, x = wC.alloc (.cells #[.slice none 0 0] t3) := ⟨_, rfl⟩
  rw [← hB, ← hC, ← hD] at hN
  have b1 : BoxL wB q [.string tgHead, .slice (some ⟨q1, 0, none⟩) 54 54, .string tgHhea, .slice (some ⟨q3, 0, none⟩) 36 36, .string tgMaxp, .slice (some ⟨q2, 0, none⟩) 32 32] := by rw [hB]; exact BoxL.new wA q hq t1 _
  have s1 : wB.heap.size = q + 1 := by rw [hB, hq]; simp
  have s2 : wC.heap.size = q + 2 := by rw [hC]; simp [s1]
  have s3 : wD.heap.size = q + 3 := by rw [hD]; simp [s2]
  have b2 : BoxL wC (q + 1) [.int .i64 500, .int .i64 0] := by rw [hC]; exact BoxL.new wB (q + 1) s1.symm t2 _
  have b3 : BoxL wD (q + 2) [.slice none 0 0] := by rw [hD]; exact BoxL.new wC (q + 2) s2.symm t3 _
  have kAB : Since wA wB := by rw [hB]; exact (Since.refl wA).alloc _
  have kBC : Since wB wC := by rw [hC]; exact (Since.refl wB).alloc _
  have kCD : Since wC wD := by rw [hD]; exact (Since.refl wC).alloc _
  have kBD := kBC.trans kCD
  have kAD := kAB.trans kBD
  have c1 := (b1.since kBD).nigh hN (by omega)
  have c2 := (b2.since kCD).nigh hN (by omega)
  have c3 := b3.nigh hN (by omega)
  have key : ∀ {g n : Nat} {L : List Int}, Row wA g n (U8 (fnL L)) → n = L.length → z ≠ g → RdB w' w'.heap.size (some ⟨g, 0, none⟩) L := fun {g n L} hr hn hg => by
    have hr2 := hr.since kAD
    refine rdb_of (Rd.of_row ⟨fun j hj => ?_, fun j => ?_, ?_⟩) hn (fun _ _ => rfl)
    · rw [← hr2.1 j hj]; have := hN.1.2 g hr2.2.2 (Ne.symm hg); simp only [World.cell?, this]
    · rw [← hr2.2.1 j]; have := hN.1.2 g hr2.2.2 (Ne.symm hg); simp only [World.frozen?, this]
    · exact Nat.lt_of_lt_of_le hr2.2.2 hN.1.1
  have lt : q + 2 < w'.heap.size := c3.lt
  refine ⟨?_, ?_, ?_⟩
  · refine ⟨[⟨tgHead, some ⟨q1, 0, none⟩, 54, 54⟩, ⟨tgHhea, some ⟨q3, 0, none⟩, 36, 36⟩, ⟨tgMaxp, some ⟨q2, 0, none⟩, 32, 32⟩], rfl, fun _ => ⟨q, 0, rfl, by omega, ?_⟩, ?_⟩
    · intro j s hs i hi
      rcases j with _ | _ | _ | j
      · injection hs with hs; subst hs
        rcases i with _ | _ | i
        · exact c1.cell 0 rfl
        · exact c1.cell 1 rfl
        · omega
      · injection hs with hs; subst hs
        rcases i with _ | _ | i
        · exact c1.cell 2 rfl
        · exact c1.cell 3 rfl
        · omega
      · injection hs with hs; subst hs
        rcases i with _ | _ | i
        · exact c1.cell 4 rfl
        · exact c1.cell 5 rfl
        · omega
      · cases hs
    · intro j h T h4 h5
      rcases j with _ | _ | _ | j
      · injection h4 with h4; injection h5 with h5; subst h4 h5; exact ⟨rfl, rfl, key h1 rfl hz1⟩
      · injection h4 with h4; injection h5 with h5; subst h4 h5; exact ⟨rfl, rfl, key h3 rfl hz3⟩
      · injection h4 with h4; injection h5 with h5; subst h4 h5; exact ⟨rfl, rfl, key h2 rfl hz2⟩
      · cases h4
  · intro _
    refine ⟨q + 1, 0, rfl, by omega, fun j hj => ?_⟩
    rcases j with _ | _ | j
    · exact c2.cell 0 rfl
    · exact c2.cell 1 rfl
    · exact absurd hj (by show ¬ j + 2 < 2; omega)
  · refine ⟨[⟨none, 0, 0⟩], rfl, fun _ => ⟨q + 2, 0, rfl, lt, ?_⟩, ?_⟩
    · intro j s hs i hi
      rcases j with _ | j
      · injection hs with hs; subst hs
        obtain rfl : i = 0 := by omega
        exact c3.cell 0 rfl
      · cases hs
    · intro j h L h4 h5
      rcases j with _ | j
      · injection h4 with h4; injection h5 with h5; subst h4 h5
        exact ⟨rfl, Nat.le_refl _, fun h0 => absurd h0 (by simp)⟩
      · cases h4
set_option maxRecDepth 1000000 in
set_option maxHeartbeats 64000000 in
theorem fn_example (w : World) : Calls Tryz.prog 19 #[] w (Ex9P w) := by
  obtain ⟨i0, hi0, hz0, hz1, hz2⟩ := info_parts Tryz.info_u8
  have b1 : 1 * 54 ≤ 281474976710656 := by omega
  have b2 : 54 ≤ maxLen := by simp only [maxLen]; omega
  have b3 : 1 * 36 ≤ 281474976710656 := by omega
  have b4 : 36 ≤ maxLen := by simp only [maxLen]; omega
  have b5 : 1 * 32 ≤ 281474976710656 := by omega
  have b6 : 32 ≤ maxLen := by simp only [maxLen]; omega
  go_enter Tryz.func19, Tryz.ntmps19
  go_upto_region 1 with fail
  refine wp_named fun w0 hw0 => ?_
  have hS0 : Since w w0 := by subst hw0; (repeat (first | with_reducible (exact Since.refl _) | with_reducible assumption | with_reducible (refine Since.drew ?_) | with_reducible (refine Since.drewN ?_ _) | with_reducible (refine Since.alloc ?_ _) | (with_reducible (refine Since.setCell ?_ ?_ _); rotate_left; focus (first | (simp; done) | (simp; omega) | omega)) | (with_reducible (refine Since.trans ?_ (by with_reducible assumption)))))
  have hb0 : BoxL w0 w.heap.size (fnC zX 0 zH zM 0 0 0) := by subst hw0; exact new_fn w _ rfl _
  clear hw0
  have hl0 := hb0.lt
  go_upto_region 4 with (first | (at_make; refine wpList_make_tab _ (by rfl) _ _ _ (by rfl) 5 i0 .u8 1 Tryz.underlying34 hi0 hz0 hz1 hz2 .i64 .i64 54 (by rfl) (by rfl) b1 b2 ?_; intro w1 hown1 hS1; have hr1 := row_of_own hown1; clear hown1) | (refine wpList_copy_str (by rfl) _ _ _ _ (by rfl) 5 Tryz.underlying34 Tryz.size_u8' w0.heap.size 12 _ _ 54 _ _ (by rfl) (by rfl) hr1 (by decide) (by decide) w0 hS1 (Nat.le_refl _) ?_; intro w2 hr2 hS2; have hc18 := hr2.1 18 (by omega); have hc19 := hr2.1 19 (by omega); have hf18 := hr2.2.1 18; have hf19 := hr2.2.1 19))
  have hrA := e54_row (by rfl) hr2
  have hSA := (hS2.setCell (p := ⟨w0.heap.size, 18, none⟩) (Nat.le_refl _) (.int .u8 3)).setCell (p := ⟨w0.heap.size, 19, none⟩) (Nat.le_refl _) (.int .u8 232)
  refine wp_named fun w3 hw3 => ?_
  have hr3 : Row w3 w0.heap.size 54 (U8 (fnL e54)) := by subst hw3; exact hrA
  have hS3 : Since w0 w3 := by subst hw3; exact hSA
  clear hw3 hrA hSA hS1 hr1 hr2 hS2 hc18 hc19 hf18 hf19
  have hb3 := hb0.since hS3
  obtain ⟨p1, hp1⟩ : ∃ p, p = w0.heap.size := ⟨_, rfl⟩
  rw [← hp1] at hr3 hl0 ⊢
  have hS3w := hS0.trans hS3
  clear hS3 hb0 hS0 hp1
  have hl3 := hr3.2.2
  go_upto_region 6 with (first | (at_make; refine wpList_make_tab _ (by rfl) _ _ _ (by rfl) 5 i0 .u8 1 Tryz.underlying34 hi0 hz0 hz1 hz2 .i64 .i64 32 (by rfl) (by rfl) b5 b6 ?_; intro w4 hown4 hS4; have hr4 := row_of_own hown4; clear hown4; have hc1 := hr4.1 1 (by omega); have hc5 := hr4.1 5 (by omega); have hf1 := hr4.2.1 1; have hf5 := hr4.2.1 5))
  have hrB := e32_row hr4
  have hSB := (hS4.setCell (p := ⟨w3.heap.size, 1, none⟩) (Nat.le_refl _) (.int .u8 1)).setCell (p := ⟨w3.heap.size, 5, none⟩) (Nat.le_refl _) (.int .u8 1)
  refine wp_named fun w5 hw5 => ?_
  have hr5 : Row w5 w3.heap.size 32 (U8 (fnL e32)) := by subst hw5; exact hrB
  have hS5 : Since w3 w5 := by subst hw5; exact hSB
  clear hw5 hrB hSB hS4 hr4 hc1 hc5 hf1 hf5
  have hb5 := hb3.since hS5
  have hr35 := hr3.since hS5
  obtain ⟨p2, hp2⟩ : ∃ p, p = w3.heap.size := ⟨_, rfl⟩
  rw [← hp2] at hr5 hl3 ⊢
  have hS5w := hS3w.trans hS5
  clear hS5 hb3 hr3 hp2 hS3w
  have hl5 := hr5.2.2
  go_upto_region 8 with (first | (at_make; refine wpList_make_tab _ (by rfl) _ _ _ (by rfl) 5 i0 .u8 1 Tryz.underlying34 hi0 hz0 hz1 hz2 .i64 .i64 36 (by rfl) (by rfl) b3 b4 ?_; intro w6 hown6 hS6; have hr6 := row_of_own hown6; clear hown6; have hc35 := hr6.1 35 (by omega); have hf35 := hr6.2.1 35))
  have hrC := e36_row hr6
  have hSC := hS6.setCell (p := ⟨w5.heap.size, 35, none⟩) (Nat.le_refl _) (.int .u8 1)
  refine wp_named fun wA hwA => ?_
  have hr7 : Row wA w5.heap.size 36 (U8 (fnL e36)) := by subst hwA; exact hrC
  have hS7 : Since w5 wA := by subst hwA; exact hSC
  clear hwA hrC hSC hS6 hr6 hc35 hf35
  have hb7 := hb5.since hS7
  have hr37 := hr35.since hS7
  have hr57 := hr5.since hS7
  obtain ⟨p3, hp3⟩ : ∃ p, p = w5.heap.size := ⟨_, rfl⟩
  rw [← hp3] at hr7 hl5 ⊢
  have hS7w := hS5w.trans hS7
  clear hS7 hb5 hr35 hr5 hp3 hS5w
  have hl7 := hr7.2.2
  have HX := Lib.hid (fun t1 t2 t3 w' (hN : Nigh w.heap.size _ w') => ex9_post (z := w.heap.size) (q := wA.heap.size) rfl hr37 hr57 hr7 t1 t2 t3 (by omega) hN (by omega) (by omega) (by omega))
  have hSX := Lib.hid (fun o1 o2 o3 => ((hS7w.alloc o1).alloc o2).alloc o3)
  clear hr37 hr57 hr7 i0 hi0 hz0 hz1 hz2 b1 b2 b3 b4 b5 b6
  go_wp2_with (refine wp_fn_store rfl _ _ rfl (by rfl) (by with_reducible exact ((hb7.alloc _).alloc _).alloc _) ⟨some ⟨wA.heap.size, 0, none⟩, 3, some ⟨wA.heap.size + 1, 0, none⟩, 1, some ⟨wA.heap.size + 2, 0, none⟩, 1⟩ 3 ex9.h ex9.m 1 1 1 (by rfl) ?_; intro wz hz hNz)
  refine ret_agg (P := Tryz.prog) Tryz.results19 (by rfl) hz.1 Tryz.underlying30 rfl infoFn rfl ⟨⟨some ⟨wA.heap.size, 0, none⟩, 3, some ⟨wA.heap.size + 1, 0, none⟩, 1, some ⟨wA.heap.size + 2, 0, none⟩, 1⟩, rfl, HX.out _ _ _ _ hNz, Nat.le_refl _, hNz.2 w (hSX.out _ _ _) (Nat.le_refl _)⟩
end Go.Proofs.YteckkcpnfeoehaaGreatDoor

/-
  Layer 9: the example is written and read; FontKinds.
-/
namespace Go.Proofs.YteckkcpnfeoehaaGreatDoor
set_option maxRecDepth 100000
open Go.RowKit Go.ChangeShapes Go.WideShapes Go.Deep
set_option linter.unusedVariables false
set_option linter.unusedSimpArgs false

def ex9T : List Tb := [⟨tgGlyf, []⟩, ⟨tgHead, e54⟩, ⟨tgHhea, e36⟩, ⟨tgHmtx, [1, 244, 0, 0]⟩, ⟨tgLoca, [0, 0, 0, 0]⟩, ⟨tgMaxp, e32⟩]
theorem ex9_all : all9 ex9 = ex9T := by kernel_rfl
theorem ex9_pre : pre9 ex9 := by decide +kernel
theorem ex9_allE : allE ex9 = 0 := by decide +kernel
theorem ex9_size : size4 ex9T = 240 := by decide +kernel
theorem ex9_right4 : right4 ex9T := by
  refine ⟨by decide, by decide, by rw [ex9_size]; omega, ?_, ?_⟩
  · intro j T hT
    have key : ∀ T, T ∈ ex9T → T.tag.size = 4 ∧ ∀ i : Fin 4, 32 ≤ ((T.tag.data.toList.getD i.1 0).toNat : Int) ∧ ((T.tag.data.toList.getD i.1 0).toNat : Int) ≤ 126 := by decide +kernel
    obtain ⟨h1, h2⟩ := key T (List.mem_of_getElem? hT)
    refine ⟨h1, fun i hi => ?_⟩
    have := h2 ⟨i, by omega⟩
    have e : T.tag[i] = T.tag.data.toList.getD i 0 := by
      rw [List.getD_eq_getElem?_getD]
      have hi2 : i < T.tag.data.toList.length := by simpa using hi
      rw [List.getElem?_eq_getElem hi2]
      rfl
    rw [e]; exact this
  · intro j T U hT hU
    have key : ∀ i : Fin 5, ∃ T U, ex9T[i.1]? = some T ∧ ex9T[i.1 + 1]? = some U ∧ Op.bytesLess T.tag.toList U.tag.toList = true := fun i => by
      obtain ⟨i, hi⟩ := i
      rcases i with _ | _ | _ | _ | _ | i
      · exact ⟨_, _, rfl, rfl, by kernel_rfl⟩
      · exact ⟨_, _, rfl, rfl, by kernel_rfl⟩
      · exact ⟨_, _, rfl, rfl, by kernel_rfl⟩
      · exact ⟨_, _, rfl, rfl, by kernel_rfl⟩
      · exact ⟨_, _, rfl, rfl, by kernel_rfl⟩
      · omega
    have hj : j + 1 < 6 := by
      rcases Nat.lt_or_ge (j + 1) 6 with h | h
      · exact h
      · rw [List.getElem?_eq_none (by show 6 ≤ j + 1; exact h)] at hU; cases hU
    obtain ⟨T2, U2, h1, h2, h3⟩ := key ⟨j, by omega⟩
    simp only at h1 h2
    rw [hT] at h1
    rw [hU] at h2
    injection h1 with h1
    injection h2 with h2
    subst h1 h2
    exact h3
theorem ex9_right : right9 ex9 := ⟨ex9_pre, ex9_allE, by rw [ex9_all]; exact ex9_right4⟩
theorem ex9_blank : blank9 ex9 = ex9 := by kernel_rfl
theorem ex9_few : NoGr ex9 := ⟨by decide, by decide +kernel, by decide +kernel, by decide, by decide, by decide, by decide⟩
theorem ex9_num : FnW ex9 := by
  refine ⟨?_, ?_, ?_, ?_, ?_, ?_⟩
  · intro T hT
    have key : ∀ T, T ∈ ex9.TT → ∀ v, v ∈ T.data → 0 ≤ v ∧ v ≤ 255 := by decide +kernel
    exact key T hT
  · intro L hL v hv
    have key : ∀ L, L ∈ ex9.GG → ∀ v, v ∈ L → 0 ≤ v ∧ v ≤ 255 := by decide +kernel
    exact key L hL v hv
  · intro j hj
    obtain rfl : j = 0 := by have : j < 1 := hj; omega
    exact ⟨by show In64 500; unfold In64; omega, by show In64 0; unfold In64; omega⟩
  · show In64 1; unfold In64; omega
  · refine ⟨?_, ?_, ?_, ?_, ?_⟩
    · show In64 1000; unfold In64; omega
    all_goals show In64 0; unfold In64; omega
  · refine ⟨?_, ?_, ?_, ?_, ?_, ?_, ?_⟩
    · show In64 1; unfold In64; omega
    all_goals show In64 0; unfold In64; omega
/-- Its file. -/
def ex9F : List Int := file4 ex9T
theorem ex9F_len : ex9F.length = 240 := by unfold ex9F; rw [file4_len ex9_right4, ex9_size]
theorem ex9_file : file9 ex9 = ex9F := by unfold file9 ex9F; rw [if_pos (right9_yes ex9_right), ex9_all]
theorem ex9F_rd : rd9 ex9F = (0, ex9) := by
  have := rd9_file ex9_right
  rw [ex9_all, ex9_blank] at this
  exact this
theorem bytes_file9 {TT : List Tb} (h : ∀ T, T ∈ TT → Bytes T.data) : Bytes (file4 TT) := by
  have hr := bytes_raw h
  unfold file4
  split
  · exact hr
  · unfold layL
    exact bytes_app (fun v hv => hr v (List.mem_of_mem_take hv)) (bytes_app (bytes_put _ _) (fun v hv => hr v (List.mem_of_mem_drop hv)))
theorem ex9F_bytes : Bytes ex9F := by
  have := bytes_file9 (all9_bytes ex9_num)
  rw [ex9_all] at this
  exact this
/-- What the program does with it. -/
def ExV (x : Fh) (C : Array Value) : Prop := C = fnV x ex9
theorem ex_example (w : World) : Calls Tryz.prog 19 #[] w fun e w' => ∃ x C, e = .returned (.agg C) ∧ ExV x C ∧ FnR w' w'.heap.size x ex9 ∧ ex9.GG.length ≤ x.cg ∧ Since w w' := by
  refine (fn_example w).mono ?_
  rintro e w' ⟨x, rfl, h1, h2, h3⟩
  exact ⟨x, _, rfl, rfl, h1, h2, h3⟩
theorem ex_write (x : Fh) (C : Array Value) (hC : ExV x C) (w : World) (hT : Tabs w) (hR : FnR w w.heap.size x ex9) (hgc : ex9.GG.length ≤ x.cg) :
    Calls Tryz.prog 8 #[.agg C] w fun e w' => ∃ A c, e = .returned (.tuple #[.slice A 240 c, .int .i64 0]) ∧ RdB w' w'.heap.size A ex9F ∧ 240 ≤ c ∧ Since w w' := by
  refine (fn_write x ex9 _ hC w hT hR ex9_few ex9_num hgc).mono ?_
  rintro e w' ⟨v, rfl, hO, hS⟩
  rw [ex9_file] at hO
  obtain ⟨A, c, rfl, hc, hr⟩ := OwnG.rd (by omega) byL_len hO
  rw [ex9F_len] at hc ⊢
  exact ⟨A, c, by rw [if_pos (right9_yes ex9_right)], hr, hc, hS⟩
theorem ex_read (A : Option Addr) (c : Nat) (w : World) (hT : Tabs w) (h : RdB w w.heap.size A ex9F) (hc : 240 ≤ c) :
    Calls Tryz.prog 20 #[.slice A 240 c] w fun e w' => ∃ x C, e = .returned (.tuple #[.agg C, .int .i64 0]) ∧ ExV x C ∧ FnR w' w'.heap.size x ex9 ∧ Since w w' := by
  refine (fn_read A 240 c ex9F w hT h ex9F_len.symm ex9F_bytes (by omega) hc).mono ?_
  rintro e w' ⟨x, rfl, hF, _, hS⟩
  rw [ex9F_rd] at hF ⊢
  exact ⟨x, _, rfl, rfl, hF, hS⟩
theorem ex_right (x : Fh) (C : Array Value) (hC : ExV x C) (w : World) (hT : Tabs w) (hR : FnR w w.heap.size x ex9) (hgc : ex9.GG.length ≤ x.cg) :
    Calls Tryz.prog 10 #[.agg C] w fun e w' => e = .returned (.bool true) ∧ Since w w' := by
  refine (fn_right x ex9 _ hC w hT hR ex9_few ex9_num hgc).mono ?_
  rintro e w' ⟨rfl, hS⟩
  exact ⟨by rw [right9_yes ex9_right], hS⟩
theorem ex_same (x y : Fh) (C D : Array Value) (hC : ExV x C) (hD : ExV y D) (w : World) (hR : FnR w w.heap.size x ex9) (hQ : FnR w w.heap.size y ex9) :
    Calls Tryz.prog 14 #[.agg C, .agg D] w fun e w' => e = .returned (.bool true) ∧ Since w w' :=
  rf_same9 x y ex9 _ _ hC hD w hR hQ (by show 3 ≤ maxLen; simp only [maxLen]; omega) (by show 1 ≤ maxLen; simp only [maxLen]; omega) (by show 1 ≤ maxLen; simp only [maxLen]; omega)
def ExB (w : World) (b : Nat) (x : Fh) : Prop := BoxL w b (fnC x ex9.TT.length ex9.h ex9.m ex9.MM.length ex9.ct ex9.GG.length)
theorem fnl_var {w : World} {b : Nat} {x : Fh} {C : Array Value} (hC : ExV x C) (hB : ExB w b x) : (loadVar 30 ⟨b, 0, none⟩).run Tryz.prog w = .ok (.agg C) w := by
  rw [hC]
  exact run_loadVar_mid w b 0 30 _ _ hB.1 Tryz.underlying30 rfl infoFn
theorem ExB.since {w w' : World} {b : Nat} {x : Fh} (h : ExB w b x) (k : Since w w') : ExB w' b x := BoxL.since h k
theorem ex_kind (b : Nat) (w : World) (hb : BoxL w b [.int .u8 255, .int .u8 255]) : Calls Tryz.prog 21 #[.slice (some ⟨b, 0, none⟩) 2 2] w fun e w' => e = .returned (.int .i64 2) ∧ Since w w' := by
  refine (ft_kind (some ⟨b, 0, none⟩) 2 2 [255, 255] w (fun _ => ⟨b, 0, rfl, hb.lt, fun j s hs i hi => ?_⟩) rfl (by omega)).mono ?_
  · obtain rfl : i = 0 := by omega
    rcases j with _ | _ | j
    · injection hs with hs; subst hs; exact hb.cell 0 rfl
    · injection hs with hs; subst hs; exact hb.cell 1 rfl
    · cases hs
  · rintro e w' ⟨rfl, hS⟩
    exact ⟨rfl, hS⟩
theorem ex_stored {w : World} {b : Nat} {y : Fh} {C : Array Value} {ops : Array Oper} {rest : List Oper} {op : Oper} {a : Act} {Q : Exit → Act → World → Prop} (hgd : op.guard = none) (x z : Operand) (ho : op.op = .store 30 x z) (hx : a.eval x = .pointer (some ⟨b, 0, none⟩)) (hB : BoxL w b (fnC zX 0 zH zM 0 0 0)) (hC : ExV y C) (hz : a.eval z = .agg C) (hk : ∀ w', ExB w' b y → Nigh b w w' → wpList Tryz.prog ops Q rest (a.put op.dst undef) w') : wpList Tryz.prog ops Q (op :: rest) a w :=
  wp_fn_store hgd x z ho hx hB y ex9.TT.length ex9.h ex9.m ex9.MM.length ex9.ct ex9.GG.length (hz.trans (congrArg Value.agg hC)) hk
attribute [-go_sem] loadVar
set_option maxRecDepth 1000000 in
set_option maxHeartbeats 64000000 in
theorem alive09 (w : World) (hT : Tabs w) : Calls Tryz.prog 5 #[] w fun e w' => e = .returned (.bool true) ∧ Since w w' := by
  have HT := Lib.hid (fun (w2 : World) (h : Since w w2) => hT.since h)
  clear hT
  go_enter Tryz.func5, Tryz.ntmps5
  go_upto_region 3 with (first | (go_at_call 19; (with_reducible refine (ex_example _).mono ?_); rintro e w1 ⟨x, C1, rfl, hC1, hR1, hg1, hS1⟩) | (go_at_call 8; (with_reducible refine (ex_write x C1 hC1 _ (HT.out _ hS1) hR1 hg1).mono ?_); rintro e w2 ⟨A, c, rfl, hr2, hc2, hS2⟩; have hS2w := hS1.trans hS2) | (go_at_call 20; (with_reducible refine (ex_read A c _ (HT.out _ hS2w) hr2 hc2).mono ?_); rintro e w3 ⟨y, C3, rfl, hC3, hR3, hS3⟩; have hS3w := hS2w.trans hS3) | (refine ex_stored rfl _ _ rfl (by rfl) (by with_reducible exact new_fn w3 w3.heap.size rfl _) hC3 (by rfl) ?_; intro w4 hb4 hN4; have hS34 := hN4.2 w3 ((Since.refl w3).alloc _) (Nat.le_refl _)))
  have hS4w := hS3w.trans hS34
  have HB4 := Lib.hid hb4
  have HR3 := Lib.hid (hR3.on hS34)
  have HC3 := Lib.hid hC3
  clear hb4 hN4 hS34 hr2 hR1 hR3 hg1 hc2 hC1 hC3 hS3w hS2w hS1 hS2 hS3
  have HK := Lib.hid (fun w' (h : Since w4 w') => (⟨fnl_var HC3.out (HB4.out.since h), h⟩ : (loadVar 30 ⟨w3.heap.size, 0, none⟩).run Tryz.prog w' = .ok (.agg C3) w' ∧ Since w4 w'))
  have hkk := HK.out w4 (Since.refl w4)
  go_region_held3 (fun w' => (loadVar 30 ⟨w3.heap.size, 0, none⟩).run Tryz.prog w' = .ok (.agg C3) w' ∧ Since w4 w') ((refine HK.out _ ?_; (repeat (first | with_reducible (exact Since.refl _) | with_reducible assumption | with_reducible (refine Since.drew ?_) | with_reducible (refine Since.drewN ?_ _) | with_reducible (refine Since.alloc ?_ _) | (with_reducible (refine Since.setCell ?_ ?_ _); rotate_left; focus (first | (simp; done) | (simp; omega) | omega)) | (with_reducible (refine Since.trans ?_ (by with_reducible assumption))))))) ((first | (go_at_call 19; have _t := hS46; (with_reducible refine (ex_example _).mono ?_); rintro e w7 ⟨x7, C7, rfl, hC7, hR7, _, hS7⟩; have hS47 := hS46.trans hS7) | (go_at_call 19; (with_reducible refine (ex_example _).mono ?_); rintro e w5 ⟨x5, C5, rfl, hC5, hR5, hg5, hS5⟩; have hS45 : Since w4 w5 := (by first | exact hS5 | exact (((Since.refl w4).drew).trans hS5) | exact (((Since.refl w4).drewN _).trans hS5)); have hS5w := hS4w.trans hS45) | (go_at_call 10; (with_reducible refine (ex_right x5 C5 hC5 _ (HT.out _ hS5w) hR5 hg5).mono ?_); rintro e w6 ⟨rfl, hS6⟩; have hS46 := hS45.trans hS6) | (go_at_call 14; (with_reducible refine (ex_same y x7 C3 C7 HC3.out hC7 _ (HR3.out.on hS47) hR7).mono ?_); rintro e w8 ⟨rfl, hS8⟩; have hS48 := hS47.trans hS8) | (go_at_call 21; (with_reducible refine (ex_kind _ _ (by exact BoxL.new _ _ rfl _ _)).mono ?_); rintro e w9 ⟨rfl, hS9⟩; have hS59 : Since w4 w9 := ((hS48.alloc _).trans hS9); have hS49 : Since w w9 := hS4w.trans hS59)))
  all_goals go_wp2_with fail
  all_goals go_ret
  all_goals exact ⟨by first | rfl | simp, by first | exact hS49 | exact hS49.drew | exact hS49.drewN _⟩
end Go.Proofs.YteckkcpnfeoehaaGreatDoor
