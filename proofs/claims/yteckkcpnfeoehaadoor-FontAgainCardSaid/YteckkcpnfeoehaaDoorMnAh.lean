/-
  Texts of this seat, put together: each with its own head.
-/
import Derived.Test.YteckkcpnfeoehaaDoorMnAg
import Derived.Test.YteckkcpnfeoehaaDoorMnAa
import Derived.StillTailTactics
import Derived.Test.YteckkcpnfeoehaaDoorMnAd

/-
  Layer 3: the document's examples; the laws TabsumIs, TabsumPads, TabsumTurns, walked.
-/
namespace Go.Proofs.YteckkcpnfeoehaaDoor
open Go.RowKit
set_option linter.unusedVariables false

theorem accu_from {s : Int} {f : Nat → Int} (hs : 0 ≤ s ∧ s < 4294967296) : ∀ n, accu s f n = (s + accu 0 f n) % 4294967296
  | 0 => by simp only [accu]; omega
  | n + 1 => by
    have h := accu_from (f := f) hs n
    have h0 := accu_range (s := 0) (f := f) (by omega) n
    simp only [accu]
    rw [h]
    generalize f n * wgt n = x
    generalize accu 0 f n = y at *
    omega
theorem accu_congr {s : Int} {f g : Nat → Int} : ∀ {n : Nat}, (∀ j, j < n → f j = g j) → accu s f n = accu s g n
  | 0, _ => rfl
  | n + 1, h => by simp only [accu]; rw [accu_congr (n := n) (fun j hj => h j (by omega)), h n (by omega)]
theorem accu_pad {s : Int} {f : Nat → Int} (hs : 0 ≤ s ∧ s < 4294967296) {n : Nat} : ∀ {m : Nat}, (∀ j, n ≤ j → j < n + m → f j = 0) → accu s f (n + m) = accu s f n
  | 0, _ => rfl
  | m + 1, h => by
    have h1 := accu_pad hs (m := m) (fun j h1 h2 => h j h1 (by omega))
    have h2 := accu_range (f := f) hs (n + m)
    show accu s f (n + m + 1) = _
    simp only [accu]
    rw [h (n + m) (by omega) (by omega), Int.zero_mul, Int.add_zero, ← h1]
    omega
theorem wgt_range (j : Nat) : wgt j = 1 ∨ wgt j = 256 ∨ wgt j = 65536 ∨ wgt j = 16777216 := by
  have hh : j % 4 = 0 ∨ j % 4 = 1 ∨ j % 4 = 2 ∨ j % 4 = 3 := by omega
  unfold wgt
  rcases hh with h | h | h | h <;> rw [h] <;> simp
theorem accu_turn {f g : Nat → Int} {i : Nat} (h : ∀ j, j ≠ i → g j = f j) : ∀ n, accu 0 g n = (accu 0 f n + (if i < n then (g i - f i) * wgt i else 0)) % 4294967296
  | 0 => by simp [accu]
  | n + 1 => by
    have h1 := accu_turn h n
    simp only [accu]
    rw [h1]
    by_cases hi : i < n
    · rw [if_pos hi, if_pos (by omega), h n (by omega)]
      generalize f n * wgt n = x
      generalize (g i - f i) * wgt i = y
      omega
    · rw [if_neg hi]
      by_cases hin : i = n
      · subst hin
        rw [if_pos (by omega), Int.sub_mul]
        generalize f i * wgt i = x
        generalize g i * wgt i = y
        omega
      · rw [if_neg (by omega), h n (fun e => hin e.symm)]
        omega
theorem accu_differs {f g : Nat → Int} {i n : Nat} {v : Int} (h : ∀ j, j ≠ i → g j = f j) (hi : i < n) (hf : 0 ≤ f i ∧ f i ≤ 255) (hv : 1 ≤ v ∧ v ≤ 255) (hg : g i = (f i + v) % 256) : accu 0 g n ≠ accu 0 f n := by
  have h1 := accu_turn h n
  have h0 := accu_range (s := 0) (f := f) (by omega) n
  rw [if_pos hi] at h1
  have hw := wgt_range i
  rw [h1, hg]
  generalize accu 0 f n = x at *
  generalize f i = y at *
  rcases hw with e | e | e | e <;> rw [e] <;> omega

theorem five (w : World) (t : TypeId) : Calls Tryd.prog 57 #[.slice (some ⟨w.heap.size, 0, none⟩) 5 5] (w.alloc (.cells #[.int .u8 0, .int .u8 0, .int .u8 0, .int .u8 1, .int .u8 2] t)) fun e w' => e = .returned (.int .u32 33554433) ∧ w' = w.alloc (.cells #[.int .u8 0, .int .u8 0, .int .u8 0, .int .u8 1, .int .u8 2] t) := by
  have hc : ∀ j, j < 5 → j = 0 ∨ j = 1 ∨ j = 2 ∨ j = 3 ∨ j = 4 := fun j hj => by omega
  have h := ts_sum (some ⟨w.heap.size, 0, none⟩) 5 5 (fun j => [0, 0, 0, 1, 2].getD j 0) (w.alloc (.cells #[.int .u8 0, .int .u8 0, .int .u8 0, .int .u8 1, .int .u8 2] t)) (fun _ => ⟨w.heap.size, 0, rfl, by simp, fun j hj => by
      rw [World.cell?_alloc_new, Nat.zero_add]; rcases hc j hj with rfl | rfl | rfl | rfl | rfl <;> rfl⟩)
    (fun j hj => by rcases hc j hj with rfl | rfl | rfl | rfl | rfl <;> decide) (by omega)
  rw [show accu 0 (fun j => [0, 0, 0, 1, 2].getD j 0) 5 = 33554433 by decide +kernel] at h
  exact h
end Go.Proofs.YteckkcpnfeoehaaDoor

/-
  append(s, make([]T, n)...): the compiler lets it make no slice: noughts are laid behind a row of the call's own.
-/
namespace Go.Proofs.YteckkcpnfeoehaaDoor
open Go.RowKit
set_option linter.unusedVariables false
set_option linter.unusedSimpArgs false
section
variable {P : Program} (w : World)
theorem zeros_list (z : Value) (hz : z.cells = #[z]) (m : Nat) : (Builtin.zeroCells z.cells m).toList = List.replicate m z := by
  rw [hz]
  apply List.ext_getElem?
  intro j
  by_cases hj : j < m
  · simp [Builtin.zeroCells, List.getElem?_replicate, hj, Nat.mod_one]
  · simp [Builtin.zeroCells, List.getElem?_replicate, hj]
set_option maxRecDepth 100000 in
theorem run_append_zeros (base : Nat) (t k ty e : TypeId) (i : TypeInfo) (z : Value) (bytes : Nat) (ht : P.underlying t = some (.slice e)) (hk : P.underlying k = some (.int .i64)) (hi : P.info? e = some i) (hz : i.zero = some z)
    (hsize : i.size = 1) (hby : i.bytes = bytes) (hzs : z.cells = #[z]) (h1 : z.oneCell' = true) (g cap n m : Nat) (xs : List Value) (hown : w.ownsRow base e 1 (.slice (some ⟨g, 0, none⟩) n cap) n xs)
    (hbytes : (n + m) * bytes ≤ 140737488355328) (h63 : n + m ≤ maxLen) (hbase : base ≤ w.heap.size) :
    ∃ g' cap' w', (Builtin.append_ #[t, k] ty #[.slice (some ⟨g, 0, none⟩) n cap, .int .i64 m]).run P w = .ok (.slice (some ⟨g', 0, none⟩) (n + m) cap') w' ∧ w'.ownsRow base e 1 (.slice (some ⟨g', 0, none⟩) (n + m) cap') (n + m) (xs ++ List.replicate m z) ∧ w.grownBy w' (some g) ∧ (g' = g ∨ g' = w.heap.size) := by
  have hmb : m * bytes ≤ 140737488355328 := Nat.le_trans (Nat.mul_le_mul_right _ (by omega)) hbytes
  have hm63 : (m : Int) ≤ 9223372036854775807 := by simp only [maxLen] at h63; omega
  have hn63 : ((n + m : Nat) : Int) ≤ 9223372036854775807 := by simp only [maxLen] at h63; omega
  have hwr : IntKind.i64.wrap (m : Int) = m := IntWalk.i64_in _ (by omega)
  have hneg : ¬ (m : Int) < 0 := by omega
  have hfits : ¬ ((m : Int) * (bytes : Int) > 281474976710656) := by
    have hq : ∀ q : Nat, q ≤ 140737488355328 → (q : Int) ≤ 140737488355328 := fun q h => by omega
    have := hq _ hmb
    rw [Int.natCast_mul] at this
    omega
  have hlx := hown.1
  rw [Nat.mul_one] at hlx
  rcases hown.2 with ⟨e1, _⟩ | ⟨g', cap', cur, e1, hbg, hg, hnc, hcm, hcs, htake⟩
  · cases e1
  injection e1 with e1 _ e2
  injection e1 with e1
  injection e1 with e1
  subst e1; subst e2
  subst hby
  by_cases hroom : n + m ≤ cap
  · refine ⟨g, cap, w.setRow g (cur.toList.take n ++ List.replicate m z ++ cur.toList.drop (n + m)).toArray, ?_, ⟨?_, .inr ⟨g, cap, _, rfl, hbg, setRow_heap w g cur _ e _ hg, hroom, hcm, ?_, ?_⟩⟩, ⟨rfl, rfl, rfl, by simp, fun k hk' hne => setRow_other w g k _ (fun e => hne (by simp [e]))⟩, .inl rfl⟩
    · by_cases hm0 : m = 0
      · subst hm0
        have hst := run_storeCells_at P g n e [] 0 cur w hg (by simp; omega) (by simp)
        simp only [Nat.add_zero, List.length_nil] at hst hroom
        have hw0 : IntKind.i64.wrap 0 = 0 := rfl
        simp [Builtin.append_, run_underlying ht, run_underlying hk, sizeOf, typeInfo, hi, hsize, hroom, Addr.add_lit, hst, asInt, asIntOf, hw0]
      · have hst := run_storeCells_at P g n e (List.replicate m z) 0 cur w hg (by simp; omega) (fun u hu => by rw [(List.mem_replicate.1 hu).2]; exact h1)
        simp only [Nat.add_zero, List.length_replicate] at hst
        have hz2 := zeros_list z hzs m
        simp [Builtin.append_, run_underlying ht, run_underlying hk, sizeOf, typeInfo, hi, hz, hsize, hroom, Addr.add_lit, asInt, asIntOf, hwr, hneg, hfits, zeroValue, hm0, hz2, hst]
    · simp [hlx]
    · simp; omega
    · rw [Nat.mul_one] at htake
      rw [Nat.mul_one, htake, List.take_append_of_le_length (by simp [hlx]), List.take_of_length_le (by simp [hlx])]
  · have hg1 : cap < n + m := by omega
    have hge := grownCap_ge w (n + m) cap e
    have hcm' : grownCap w (n + m) cap e ≤ maxLen := grownCap_le_maxLen w (n + m) cap e h63
    have hfit := growslice_fits (old := cap) (by omega) hbytes
    have hm0 : m ≠ 0 := by omega
    refine ⟨w.heap.size, grownCap w (n + m) cap e, w.drew.alloc (.cells (xs.toArray ++ (List.replicate m z).toArray ++ Builtin.zeroCells z.cells (grownCap w (n + m) cap e - (n + m))) e), ?_, ⟨?_, .inr ⟨w.heap.size, _, _, rfl, hbase, heap_alloc_new w.drew _, hge, hcm', ?_, ?_⟩⟩, ⟨rfl, rfl, rfl, by simp, fun k hk' _ => by first | exact heap_alloc_old w.drew _ hk' | exact Go.heap_alloc_old w.drew _ k hk'⟩, .inr rfl⟩
    · have holds : ∀ j u, xs[j]? = some u → w.cell? ((⟨g, 0, none⟩ : Addr).add j) = some u := hown.cells (g := g) rfl
      have hnr : ¬ (n + m ≤ cap) := by omega
      have h63' : ¬ (9223372036854775807 < ((n : Int) + (m : Int))) := by omega
      have h48' : ¬ (281474976710656 < Builtin.nextslicecap (n + m) cap * i.bytes) := by omega
      have hfo := run_firstCells_some (P := P) w.drew 1 n ⟨g, 0, none⟩ n cap xs (by rw [hlx, Nat.mul_one]) (by simpa using holds)
      have hz2 : Builtin.zeroCells z.cells m = (List.replicate m z).toArray := by rw [← zeros_list z hzs m]
      simp [Builtin.append_, run_underlying ht, run_underlying hk, sizeOf, typeInfo, zeroValue, hi, hz, hsize, hnr, h63', h48', asInt, asIntOf, hwr, hneg, hfits, Question.forced, hfo, hm0, hz2, newRow, grownCap]
      try (apply Array.ext'; simp [List.append_assoc])
    · simp [hlx]
    · simp [size_zeroCells, hzs, hlx]; omega
    · rw [Nat.mul_one]
      simp only [Array.toList_append, List.append_assoc]
      rw [← List.append_assoc]
      have hl : (xs ++ List.replicate m z).length = n + m := by simp [hlx]
      rw [← hl]
      exact List.take_left
theorem wpList_append_zeros {ops : Array Oper} {rest : List Oper} {o : Oper} {a : Act} {Q : Exit → Act → World → Prop} (hgd : o.guard = none) (s x : Operand) (t k : TypeId)
    (ho : o.op = .call { callee := .builtin .append, args := #[s, x], argTypes := #[t, k] })
    (base : Nat) (e : TypeId) (i : TypeInfo) (q : IntKind) (bytes : Nat) (ht : P.underlying t = some (.slice e)) (hk : P.underlying k = some (.int .i64)) (hi : P.info? e = some i) (hz : i.zero = some (.int q 0))
    (hsize : i.size = 1) (hby : i.bytes = bytes) (g cap n m : Nat) (V : Nat → Value) (hs : a.eval s = .slice (some ⟨g, 0, none⟩) n cap) (hx : a.eval x = .int .i64 m) (hown : w.ownsRow base e 1 (.slice (some ⟨g, 0, none⟩) n cap) n (tab n V))
    (hbytes : (n + m) * bytes ≤ 140737488355328) (h63 : n + m ≤ maxLen) (hbase : base ≤ w.heap.size)
    (h : ∀ g' cap' w', w'.ownsRow base e 1 (.slice (some ⟨g', 0, none⟩) (n + m) cap') (n + m) (tab n V ++ tab m (IntRow q (fun _ => 0))) → w.grownBy w' (some g) → (g' = g ∨ g' = w.heap.size) → wpList P ops Q rest (a.put o.dst (.slice (some ⟨g', 0, none⟩) (n + m) cap')) w') :
    wpList P ops Q (o :: rest) a w := by
  refine wpList_plain hgd fun K hK => ?_
  obtain ⟨g', cap', w', hr, h2, h3, h4⟩ := run_append_zeros (P := P) w base t k o.type e i (.int q 0) bytes ht hk hi hz hsize hby rfl rfl g cap n m _ hown hbytes h63 hbase
  unfold Oper.wp execOp
  simp only [ho, resolve, invoke, builtin, Sem.run_bind, Sem.run_pure, Result.andThen_ok, List.map_toArray, List.map_cons, List.map_nil, hs, hx, hr]
  rw [tab_rep] at h2
  exact hK _ _ (h g' cap' w' h2 h3 h4)
end
end Go.Proofs.YteckkcpnfeoehaaDoor

/-
  Layer 3: the laws TabsumPads and TabsumTurns, walked.
-/
namespace Go.Proofs.YteckkcpnfeoehaaDoor
open Go.RowKit
set_option linter.unusedVariables false

def catG (n : Nat) (f o : Nat → Int) (j : Nat) : Int := if j < n then f j else o (j - n)
theorem own_catG {w : World} {B g cap n m : Nat} {f o : Nat → Int} (h : w.ownsRow B 5 1 (.slice (some ⟨g, 0, none⟩) (n + m) cap) (n + m) (tab n (U8 f) ++ tab m (U8 o))) : Own w B g cap (n + m) (catG n f o) := by
  rw [tab_append] at h
  have e : (fun j => if j < n then U8 f j else U8 o (j - n)) = U8 (catG n f o) := by
    funext j
    simp only [U8, IntRow, catG]
    split <;> rfl
  rw [e] at h
  exact h
theorem catG_range {n m : Nat} {f o : Nat → Int} (hf : ∀ j, j < n → 0 ≤ f j ∧ f j ≤ 255) (ho : ∀ j, j < m → 0 ≤ o j ∧ o j ≤ 255) : ∀ j, j < n + m → 0 ≤ catG n f o j ∧ catG n f o j ≤ 255 := fun j hj => by
  unfold catG
  split
  · exact hf j (by assumption)
  · exact ho _ (by omega)

def setG (i : Nat) (v : Int) (f : Nat → Int) (j : Nat) : Int := if j = i then v else f j
end Go.Proofs.YteckkcpnfeoehaaDoor

/-
  Layer 3: the law TabsumAdjusts, walked.
-/
namespace Go.Proofs.YteckkcpnfeoehaaDoor
open Go.RowKit
set_option linter.unusedVariables false

theorem wgt_add {n : Nat} (h : n % 4 = 0) (j : Nat) : wgt (n + j) = wgt j := by unfold wgt; rw [show (n + j) % 4 = j % 4 by omega]
theorem accu_cat {s : Int} {n : Nat} {f g : Nat → Int} (h : n % 4 = 0) : ∀ m, accu s (catG n f g) (n + m) = accu (accu s f n) g m
  | 0 => accu_congr fun j hj => by unfold catG; rw [if_pos (by omega)]
  | m + 1 => by
    show accu s (catG n f g) (n + m + 1) = _
    simp only [accu]
    rw [accu_cat h m, wgt_add h]
    congr 2
    unfold catG
    rw [if_neg (by omega), show n + m - n = m by omega]
theorem accu_word {a : Int} (h : 0 ≤ a ∧ a < 4294967296) : accu 0 (byteOf a 4) 4 = a := by
  simp only [accu, byteOf, wgt]
  simp only [Nat.reduceSub, Nat.reduceMul, Int.reducePow, Nat.reduceMod]
  omega
/-- The bytes with a word of noughts; with the adjustment. -/
def mid (q : Nat) (f : Nat → Int) (z : Nat → Int) (o : Nat → Int) : Nat → Int := catG (q * 4 + 4) (catG (q * 4) f z) o
theorem accu_mid {q m : Nat} {f z o : Nat → Int} : accu 0 (mid q f z o) (q * 4 + 4 + m) = ((accu 0 f (q * 4) + accu 0 z 4) % 4294967296 + accu 0 o m) % 4294967296 := by
  have h0 := accu_range (s := 0) (f := f) (by omega) (q * 4)
  unfold mid
  rw [accu_cat (by omega), accu_cat (by omega)]
  have h1 := accu_range (f := z) h0 4
  rw [accu_from h1 m, accu_from h0 4]
theorem adjusted {q m : Nat} {f o : Nat → Int} : accu 0 (mid q f (byteOf ((2981146554 - accu 0 (mid q f (fun _ => 0) o) (q * 4 + 4 + m)) % 4294967296) 4) o) (q * 4 + 4 + m) = 2981146554 := by
  rw [accu_mid, accu_mid]
  have hz : accu 0 (fun _ => (0 : Int)) 4 = 0 := by simp [accu]
  rw [hz, accu_word (by omega)]
  generalize accu 0 f (q * 4) = x
  generalize accu 0 o m = y
  omega
theorem rd_four (w : World) (b : Nat) (hb : b = w.heap.size) : Rd (w.alloc (.cells #[.int .u8 0, .int .u8 0, .int .u8 0, .int .u8 0] 5)) (w.heap.size + 1) (some ⟨b, 0, none⟩) 4 (U8 (fun _ => 0)) := fun _ => by
  subst hb
  refine ⟨w.heap.size, 0, rfl, by simp, fun j hj => ?_⟩
  have h : j = 0 ∨ j = 1 ∨ j = 2 ∨ j = 3 := by omega
  rw [World.cell?_alloc_new, Nat.zero_add]
  rcases h with rfl | rfl | rfl | rfl <;> rfl
/-- So far the adjustment is laid. -/
def part (a : Int) (i j : Nat) : Int := if j < i then byteOf a 4 j else 0
def laid (q : Nat) (f o : Nat → Int) (a : Int) (i : Nat) : Nat → Int := mid q f (part a i) o
theorem laid_0 (q : Nat) (f o : Nat → Int) (a : Int) : laid q f o a 0 = mid q f (fun _ => 0) o := by unfold laid; congr 1
theorem laid_4 (q : Nat) (f o : Nat → Int) (a : Int) : ∀ j, laid q f o a 4 j = mid q f (byteOf a 4) o j := fun j => by
  unfold laid mid catG
  by_cases h : j < q * 4 + 4
  · rw [if_pos h, if_pos h]
    by_cases h2 : j < q * 4
    · rw [if_pos h2, if_pos h2]
    · rw [if_neg h2, if_neg h2, part, if_pos (by omega)]
  · rw [if_neg h, if_neg h]
theorem laid_next {q : Nat} {f o : Nat → Int} {a : Int} {i : Nat} (hi : i < 4) (j : Nat) : (if j = q * 4 + i then byteOf a 4 i else laid q f o a i j) = laid q f o a (i + 1) j := by
  unfold laid mid catG
  by_cases e : j = q * 4 + i
  · subst e
    rw [if_pos rfl, if_pos (by omega), if_neg (by omega), show q * 4 + i - q * 4 = i by omega, part, if_pos (by omega)]
  · rw [if_neg e]
    by_cases h : j < q * 4 + 4
    · rw [if_pos h, if_pos h]
      by_cases h2 : j < q * 4
      · rw [if_pos h2, if_pos h2]
      · rw [if_neg h2, if_neg h2]
        unfold part
        by_cases h3 : j - q * 4 < i
        · rw [if_pos h3, if_pos (by omega)]
        · rw [if_neg h3, if_neg (by omega)]
    · rw [if_neg h, if_neg h]
theorem laid_range {q m : Nat} {f o : Nat → Int} {a : Int} {i : Nat} (hf : ∀ j, j < q * 4 → 0 ≤ f j ∧ f j ≤ 255) (ho : ∀ j, j < m → 0 ≤ o j ∧ o j ≤ 255) : ∀ j, j < q * 4 + 4 + m → 0 ≤ laid q f o a i j ∧ laid q f o a i j ≤ 255 := by
  unfold laid mid
  refine catG_range (catG_range hf (fun j _ => ?_)) ho
  unfold part
  split
  · unfold byteOf
    have h1 := Int.emod_nonneg (a / 2 ^ (8 * (4 - 1 - j))) (show (256 : Int) ≠ 0 by decide)
    have h2 := Int.emod_lt_of_pos (a / 2 ^ (8 * (4 - 1 - j))) (show (0 : Int) < 256 by decide)
    omega
  · omega
end Go.Proofs.YteckkcpnfeoehaaDoor
