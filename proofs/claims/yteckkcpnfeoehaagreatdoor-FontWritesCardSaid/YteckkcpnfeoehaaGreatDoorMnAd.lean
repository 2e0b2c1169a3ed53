/-
  Texts of this seat, put together: each with its own head.
-/
import Derived.Test.YteckkcpnfeoehaaGreatDoorMnAc
import Derived.Test.YteckkcpnfeoehaaGreatDoorMnAa

/-
  Layer 2: the reference's 'Put', walked.
-/
namespace Go.Proofs.YteckkcpnfeoehaaGreatDoor
set_option maxRecDepth 100000
open Go.RowKit
set_option linter.unusedVariables false


def low64 (n : Int) : Int := n % 18446744073709551616
def at256 (n : Int) (j : Nat) : Int := low64 n / 256 ^ j
theorem at256_bd (n : Int) (j : Nat) : 0 ≤ at256 n j ∧ at256 n j < 18446744073709551616 := by
  have h0 : 0 ≤ low64 n := by unfold low64; omega
  have h1 : low64 n < 18446744073709551616 := by unfold low64; omega
  unfold at256
  have hp : (0 : Int) < 256 ^ j := Int.pow_pos (by decide)
  exact ⟨Int.ediv_nonneg h0 (by omega), Int.lt_of_le_of_lt (Int.ediv_le_self _ h0) h1⟩
theorem at256_next (n : Int) (j : Nat) : at256 n j / 256 = at256 n (j + 1) := by
  unfold at256
  rw [Int.ediv_ediv_of_nonneg (Int.le_of_lt (Int.pow_pos (by decide))), Int.pow_succ]
theorem at256_byte (n : Int) {m j : Nat} (hj : j < m) (hm : m ≤ 8) : at256 n j % 256 = byteOf n m (m - 1 - j) := by
  unfold byteOf
  rw [show m - 1 - (m - 1 - j) = j by omega]
  have hh : j = 0 ∨ j = 1 ∨ j = 2 ∨ j = 3 ∨ j = 4 ∨ j = 5 ∨ j = 6 ∨ j = 7 := by omega
  unfold at256 low64
  rcases hh with rfl | rfl | rfl | rfl | rfl | rfl | rfl | rfl <;> (simp only [Int.reducePow, Nat.reduceMul]; omega)

set_option maxRecDepth 100000 in
set_option maxHeartbeats 4000000 in
theorem ref_put (n k : Int) (w : World) (hn : In64 n) (hk : In64 k) :
    Calls Tryz.prog 83 #[.int .i64 n, .int .i64 k] w fun e w' => ∃ g, e = .returned (.slice (some ⟨g, 0, none⟩) (clampW k) (clampW k)) ∧ w.heap.size ≤ g ∧ Row w' g (clampW k) (U8 (byteOf n (clampW k))) ∧ Since w w' := by
  obtain ⟨i0, hi0, hz0, hz1, hz2⟩ := info_parts Tryz.info_u8
  by_cases h1 : 1 ≤ k ∧ k ≤ 8
  · obtain ⟨m, rfl⟩ : ∃ m : Nat, k = m := ⟨k.toNat, by omega⟩
    obtain ⟨h1, h2⟩ := h1
    have hm : m ≤ 8 := by omega
    have hm0 : 0 < m := by omega
    have hc : clampW m = m := by unfold clampW; rw [if_neg (by omega), if_neg (by omega)]; rfl
    rw [hc]
    have b1 : 1 * m ≤ 281474976710656 := by omega
    have b2 : m ≤ maxLen := by simp only [maxLen]; omega
    clear hc
    go_enter Tryz.func83, Tryz.ntmps83
    go_wp2_with (at_make; refine wpList_make_tab _ (by rfl) (.tmp 12) (.tmp 12) _ (by rfl) 5 i0 .u8 1 Tryz.underlying34 hi0 hz0 hz1 hz2 .i64 .i64 m (by rfl) (by rfl) b1 b2 ?_; intro w1 hown1 hS1)
    have hrow := row_of_own hown1
    clear hown1
    go_loopw [7, 8] (fun x y wr => ∃ j : Nat, j ≤ m ∧ x = .int .u64 (at256 n j) ∧ y = .int .i64 ((m : Nat) - 1 - (j : Int)) ∧ Since w wr ∧ Row wr w.heap.size m (U8 (fun q => if m ≤ q + j then byteOf n m q else 0))) (fun _ y _ => (intOf y + 1).toNat)
    case atStart => exact ⟨0, by omega, by simp [at256, low64, IntKind.wrap_u64], by simp, hS1, hrow.congr (fun q hq => by simp only [U8, IntRow]; rw [if_neg (by omega)])⟩
    case round =>
      obtain ⟨j, hj, rfl, rfl, hSr, hR⟩ := hrel
      by_cases hjm : j < m
      · obtain ⟨q, hq⟩ : ∃ q : Nat, q + 1 + j = m := ⟨m - 1 - j, by omega⟩
        have hqi : ((m : Nat) : Int) - 1 - (j : Int) = (q : Int) := by omega
        have hqm : (q : Int) < m := by omega
        have hcell := hR.1 q (by omega)
        have hfr := hR.2.1 q
        have hx := at256_bd n j
        have hnx := at256_next n j
        have hby := at256_byte n hjm (by omega)
        rw [show m - 1 - j = q by omega] at hby
        rw [hqi]
        go_wp2
        rw [hnx]
        refine ⟨⟨j + 1, by omega, rfl, by congr 1 <;> omega, hSr.setCell (Nat.le_refl _) _, (hR.set q _).congr (fun t ht => ?_)⟩, by simp [intOf] <;> omega⟩
        by_cases hqt : t = q
        · subst hqt
          simp only [U8, IntRow]
          rw [if_pos trivial, if_pos (by omega)]
        · simp only [U8, IntRow]
          rw [if_neg hqt]
          by_cases ht2 : m ≤ t + j
          · rw [if_pos ht2, if_pos (by omega)]
          · rw [if_neg ht2, if_neg (by omega)]
      · obtain rfl : m = j := by omega
        have hR' := hR.congr (g := U8 (byteOf n m)) (fun q hq => by simp only [U8, IntRow]; rw [if_pos (by omega)])
        clear hR
        go_wp2
        go_ret
        exact ⟨_, rfl, Nat.le_refl _, hR', hSr⟩
  by_cases h2 : k ≤ 0
  · have hc : clampW k = 0 := by unfold clampW; split <;> (try split) <;> omega
    rw [hc]
    have b1 : 1 * 0 ≤ 281474976710656 := by omega
    have b2 : 0 ≤ maxLen := by simp only [maxLen]; omega
    clear hc
    go_enter Tryz.func83, Tryz.ntmps83
    go_wp2_with (at_make; refine wpList_make_tab _ (by rfl) (.tmp 12) (.tmp 12) _ (by rfl) 5 i0 .u8 1 Tryz.underlying34 hi0 hz0 hz1 hz2 .i64 .i64 0 (by rfl) (by rfl) b1 b2 ?_; intro w1 hown1 hS1)
    have hrow := row_of_own hown1
    clear hown1
    go_loopw [7, 8] (fun x y wr => ∃ j : Nat, j ≤ 0 ∧ x = .int .u64 (at256 n j) ∧ y = .int .i64 ((0 : Nat) - 1 - (j : Int)) ∧ Since w wr ∧ Row wr w.heap.size 0 (U8 (fun q => if 0 ≤ q + j then byteOf n 0 q else 0))) (fun _ y _ => (intOf y + 1).toNat)
    case atStart => exact ⟨0, by omega, by simp [at256, low64, IntKind.wrap_u64], by simp, hS1, hrow.congr (fun q hq => by simp only [U8, IntRow]; rw [if_neg (by omega)])⟩
    case round =>
      obtain ⟨j, hj, rfl, rfl, hSr, hR⟩ := hrel
      by_cases hjm : j < 0
      · exact absurd hjm (by omega)
      · obtain rfl : 0 = j := by omega
        have hR' := hR.congr (g := U8 (byteOf n 0)) (fun q hq => by simp only [U8, IntRow]; rw [if_pos (by omega)])
        clear hR
        go_wp2
        go_ret
        exact ⟨_, rfl, Nat.le_refl _, hR', hSr⟩
  · have h2' : 8 < k := by omega
    have hc : clampW k = 8 := by unfold clampW; rw [if_neg (by omega), if_pos (by omega)]
    rw [hc]
    have b1 : 1 * 8 ≤ 281474976710656 := by omega
    have b2 : 8 ≤ maxLen := by simp only [maxLen]; omega
    clear hc
    go_enter Tryz.func83, Tryz.ntmps83
    go_wp2_with (at_make; refine wpList_make_tab _ (by rfl) (.tmp 12) (.tmp 12) _ (by rfl) 5 i0 .u8 1 Tryz.underlying34 hi0 hz0 hz1 hz2 .i64 .i64 8 (by rfl) (by rfl) b1 b2 ?_; intro w1 hown1 hS1)
    have hrow := row_of_own hown1
    clear hown1
    go_loopw [7, 8] (fun x y wr => ∃ j : Nat, j ≤ 8 ∧ x = .int .u64 (at256 n j) ∧ y = .int .i64 ((8 : Nat) - 1 - (j : Int)) ∧ Since w wr ∧ Row wr w.heap.size 8 (U8 (fun q => if 8 ≤ q + j then byteOf n 8 q else 0))) (fun _ y _ => (intOf y + 1).toNat)
    case atStart => exact ⟨0, by omega, by simp [at256, low64, IntKind.wrap_u64], by simp, hS1, hrow.congr (fun q hq => by simp only [U8, IntRow]; rw [if_neg (by omega)])⟩
    case round =>
      obtain ⟨j, hj, rfl, rfl, hSr, hR⟩ := hrel
      by_cases hjm : j < 8
      · obtain ⟨q, hq⟩ : ∃ q : Nat, q + 1 + j = 8 := ⟨8 - 1 - j, by omega⟩
        have hqi : ((8 : Nat) : Int) - 1 - (j : Int) = (q : Int) := by omega
        have hqm : (q : Int) < 8 := by omega
        have hcell := hR.1 q (by omega)
        have hfr := hR.2.1 q
        have hx := at256_bd n j
        have hnx := at256_next n j
        have hby := at256_byte n hjm (by omega)
        rw [show 8 - 1 - j = q by omega] at hby
        rw [hqi]
        go_wp2
        rw [hnx]
        refine ⟨⟨j + 1, by omega, rfl, by congr 1 <;> omega, hSr.setCell (Nat.le_refl _) _, (hR.set q _).congr (fun t ht => ?_)⟩, by simp [intOf] <;> omega⟩
        by_cases hqt : t = q
        · subst hqt
          simp only [U8, IntRow]
          rw [if_pos trivial, if_pos (by omega)]
        · simp only [U8, IntRow]
          rw [if_neg hqt]
          by_cases ht2 : 8 ≤ t + j
          · rw [if_pos ht2, if_pos (by omega)]
          · rw [if_neg ht2, if_neg (by omega)]
      · obtain rfl : 8 = j := by omega
        have hR' := hR.congr (g := U8 (byteOf n 8)) (fun q hq => by simp only [U8, IntRow]; rw [if_pos (by omega)])
        clear hR
        go_wp2
        go_ret
        exact ⟨_, rfl, Nat.le_refl _, hR', hSr⟩
end Go.Proofs.YteckkcpnfeoehaaGreatDoor

/-
  Blocks that are known whole, as a function of the place: 'All'; copy into such a block.
-/
namespace Go.Proofs.YteckkcpnfeoehaaGreatDoor
set_option maxRecDepth 100000
open Go.RowKit

/-- Block g is just n cells of type e that read as V; none is frozen. -/
def All (w : World) (g : Nat) (e : TypeId) (n : Nat) (V : Nat → Value) : Prop := w.heap[g]? = some (.cells (tab n V).toArray e (0, 0))
section
variable {w w' : World} {g n : Nat} {e : TypeId} {V U : Nat → Value}
theorem All.lt (h : All w g e n V) : g < w.heap.size := by
  rcases Nat.lt_or_ge g w.heap.size with hlt | hge
  · exact hlt
  · unfold All at h; rw [Array.getElem?_eq_none hge] at h; cases h
theorem All.congr (h : All w g e n V) (k : ∀ j, j < n → V j = U j) : All w g e n U := by unfold All at h ⊢; rw [← tab_congr k]; exact h
theorem All.since (h : All w g e n V) (k : Since w w') : All w' g e n V := (k.below.block g h.lt).trans h
theorem All.row (h : All w g e n V) : Row w g n V := by
  refine ⟨fun j hj => ?_, fun j => ?_, h.lt⟩
  · unfold All at h
    simp [World.cell?, h, tab_get, hj]
  · unfold All at h
    simp [World.frozen?, h]
theorem All.of_own {base : Nat} (h : w.ownsRow base e 1 (.slice (some ⟨g, 0, none⟩) n n) n (tab n V)) : All w g e n V := by
  rcases h.2 with ⟨e1, _⟩ | ⟨g', cap, cur, e1, hb, hh, hnc, hcm, hcs, ht⟩
  · cases e1
  · injection e1 with e1 _ e2
    injection e1 with e1
    injection e1 with e1
    subst e1; subst e2
    unfold All
    rw [hh, ← ht, Nat.mul_one]
    have : cur.toList.take n = cur.toList := List.take_of_length_le (by simp [hcs])
    rw [this]
end
section
variable {P : Program} {w : World}
/-- copy into a block that is known whole. -/
theorem wpList_copy_all {ops : Array Oper} {rest : List Oper} {o : Oper} {a : Act} {Q : Exit → Act → World → Prop} (hgd : o.guard = none) (d s : Operand) (dT sT : TypeId)
    (ho : o.op = .call { callee := .builtin .copy, args := #[d, s], argTypes := #[dT, sT] }) (elem : TypeId) (hu : P.underlying dT = some (.slice elem)) (hsz : (P.info? elem).map (·.size) = some 1)
    (dp sp : Option Addr) (dLen dCap sLen sCap : Nat) (hd : a.eval d = .slice dp dLen dCap) (hs : a.eval s = .slice sp sLen sCap)
    (g off n m : Nat) (e : TypeId) (V U : Nat → Value) (hg : All w g e n V) (B : Nat) (hr : Rd w B sp sLen U) (hm : m = Nat.min sLen dLen) (hdp : 0 < m → dp = some ⟨g, off, none⟩) (hfit : off + m ≤ n) (h1 : ∀ u ∈ tab m U, u.oneCell' = true)
    (w0 : World) (hS : Since w0 w) (hB : w0.heap.size ≤ g)
    (h : ∀ w', All w' g e n (fun j => if off ≤ j ∧ j < off + m then U (j - off) else V j) → Since w0 w' → wpList P ops Q rest (a.put o.dst (goInt m)) w') :
    wpList P ops Q (o :: rest) a w := by
  refine wpList_copy_splice hgd d s dT sT ho elem hu hsz dp sp dLen dCap sLen sCap hd hs g off (tab n V) e hg (tab m U) (by rw [tab_len, hm]) (fun hp => ?_) (by rw [tab_len, tab_len]; exact hfit) h1 w0.heap.size w0 hS.below hB (fun w' hw hb => ?_)
  · rw [tab_len] at hp
    have hms : m ≤ sLen := by rw [hm]; exact Nat.min_le_left _ _
    obtain ⟨b, o', rfl, _, hc⟩ := hr (by omega)
    refine ⟨hdp hp, _, rfl, fun j v hj => ?_⟩
    rw [tab_get] at hj
    split at hj
    · rename_i hjm
      injection hj with hj; subst hj
      rw [← hc j (by omega)]
      unfold Addr.add; split <;> simp_all
    · cases hj
  · rw [show (tab m U).length = m from tab_len m U]
    refine h w' ?_ (since_of hb)
    have hw2 : w'.heap[g]? = some (.cells (splice (tab n V) off (tab m U)).toArray e (0, 0)) := hw
    unfold All
    rw [hw2]
    congr 3
    apply List.ext_getElem?
    intro j
    unfold splice
    rw [List.getElem?_append, List.getElem?_append, List.length_take, tab_len, tab_len, List.getElem?_take, tab_get, tab_get, tab_get, List.getElem?_drop, tab_get]
    by_cases hj : j < off
    · rw [if_pos (by omega), if_pos hj, if_pos (by omega), if_pos (by omega), if_neg (by omega)]
    · rw [if_neg (by omega)]
      by_cases hj2 : j < off + m
      · rw [if_pos (by omega), if_pos (by omega), if_pos (by omega), if_pos ⟨by omega, hj2⟩]
        congr 2; omega
      · rw [if_neg (by omega)]
        by_cases hj3 : j < n
        · rw [if_pos (by omega), if_pos hj3, if_neg (by omega)]
          congr 2; omega
        · rw [if_neg (by omega), if_neg hj3]
end
end Go.Proofs.YteckkcpnfeoehaaGreatDoor

/-
  Layer 2: 'Lay', walked, program and reference; a slice that is new, to be written.
-/
namespace Go.Proofs.YteckkcpnfeoehaaGreatDoor
set_option maxRecDepth 100000
open Go.RowKit
set_option linter.unusedVariables false

/-- A slice that is new since B, to be written: its n elements read as V. -/
def Nw (w : World) (B : Nat) (A : Option Addr) (n : Nat) (V : Nat → Value) : Prop := 0 < n → ∃ g, A = some ⟨g, 0, none⟩ ∧ B ≤ g ∧ Row w g n V
section
variable {w w' : World} {B n : Nat} {A : Option Addr} {V U : Nat → Value}
theorem Nw.zero : Nw w B A 0 V := fun h => absurd h (by omega)
theorem Nw.rd (h : Nw w B A n V) : Rd w w.heap.size A n V := fun hn => by
  obtain ⟨g, rfl, hb, hr⟩ := h hn
  exact Rd.of_row hr hn
theorem Nw.since (h : Nw w B A n V) (k : Since w w') : Nw w' B A n V := fun hn => by
  obtain ⟨g, rfl, hb, hr⟩ := h hn
  exact ⟨g, rfl, hb, hr.since k⟩
theorem Nw.congr (h : Nw w B A n V) (e : ∀ j, j < n → V j = U j) : Nw w B A n U := fun hn => by
  obtain ⟨g, rfl, hb, hr⟩ := h hn
  exact ⟨g, rfl, hb, hr.congr e⟩
end
theorem Tryz.size_u8' : (Tryz.prog.info? 5).map (·.size) = some 1 := by kernel_rfl
theorem Own.cap {w : World} {B g cap n : Nat} {f : Nat → Int} (h : Own w B g cap n f) : n ≤ cap := by
  rcases h.2 with ⟨e1, _⟩ | ⟨_, _, _, e1, _, _, hnc, _⟩
  · cases e1
  · injection e1 with _ _ e3; omega
def layE (n m : Nat) (i : Int) : Int := if Fits n i m then 0 else 3
def layN (n m : Nat) (i : Int) : Nat := if Fits n i m then n else 0
def layF (f o : Nat → Int) (m : Nat) (i : Int) (j : Nat) : Int := if i.toNat ≤ j ∧ j < i.toNat + m then o (j - i.toNat) else f j
theorem lay_no {n m : Nat} {i : Int} (h : ¬ Fits n i m) : layE n m i = 3 ∧ layN n m i = 0 := by simp [layE, layN, h]
theorem lay_yes {n m : Nat} {i : Int} (h : Fits n i m) : layE n m i = 0 ∧ layN n m i = n := by simp [layE, layN, h]
/-- What 'Lay' leaves. -/
def LayPost (f o : Nat → Int) (n m : Nat) (i : Int) (w : World) (e : Ending) (w' : World) : Prop := ∃ A' l cap, e = .returned (.tuple #[.slice A' l cap, .int .i64 (layE n m i)]) ∧ l = layN n m i ∧ l ≤ cap ∧ Nw w' w.heap.size A' l (U8 (layF f o m i)) ∧ Since w w'

set_option maxRecDepth 100000 in
set_option maxHeartbeats 4000000 in
theorem ref_lay (A B : Option Addr) (n c m d : Nat) (f o : Nat → Int) (i : Int) (w : World) (h : Rd w w.heap.size A n (U8 f)) (hB : Rd w w.heap.size B m (U8 o)) (hi : In64 i) (hn : n ≤ 140737488355328) (hm : m ≤ 140737488355328) :
    Calls Tryz.prog 82 #[.slice A n c, .int .i64 i, .slice B m d] w (LayPost f o n m i w) := by
  have hk : In64 (m : Int) := by unfold In64; omega
  by_cases h3 : Fits n i m
  · have d3 : decide (0 ≤ (m : Int) ∧ Fits n i m) = true := by simp [h3]
    obtain ⟨p, rfl⟩ : ∃ p : Nat, i = p := ⟨i.toNat, by have := h3.1; omega⟩
    have d4 : decide (Fits n (p : Int) (m : Int)) = true := by simpa using h3
    have h4 : p + m ≤ n := by have := h3.2.2; omega
    obtain ⟨e1, e2⟩ := lay_yes (n := n) (i := p) (m := m) h3
    have E1 := Lib.hid e1; have E2 := Lib.hid e2; clear e1 e2
    clear h3
    go_enter Tryz.func82, Tryz.ntmps82
    go_wp2_with (first | (go_at_call 114; refine (ref_there _ n c p m w hi hk hn).mono ?_; rintro e w2 ⟨rfl, rfl⟩) | (go_at_call 24; refine (ref_copy _ n _ f w2 h (by omega)).mono ?_; rintro e w3 ⟨g, cap, rfl, hown, hS⟩))
    have hB1 := hB.since (Nat.le_refl _) hS
    have hcap := hown.cap
    have hg := hown.base
    have hR0 := hown.row
    clear hown h hB
    go_loopw [9, 20] (fun _ y wr => ∃ j : Nat, j ≤ m ∧ y = .int .i64 j ∧ Since w2 wr ∧ Row wr g n (U8 (layF f o j p))) (fun _ y _ => m - (intOf y).toNat)
    case atStart => exact ⟨0, by omega, rfl, hS, hR0.congr (fun q hq => by simp only [U8, IntRow, layF]; rw [if_neg (by omega)])⟩
    case round =>
      obtain ⟨j, hj, rfl, hSr, hR⟩ := hrel
      by_cases hjm : j < m
      · have hjm' : (j : Int) < m := by omega
        obtain ⟨b, ob, rfl, hb, hc⟩ := hB1 (by omega)
        have hx : wr.cell? ⟨b, ob + j, none⟩ = some (.int .u8 (o j)) := by rw [hSr.1 b _ hb, ← hS.1 b _ hb]; exact hc j hjm
        have hcell := hR.1 (p + j) (by omega)
        have hfr := hR.2.1 (p + j)
        have hpj : (p : Int) + j < n := by omega
        clear hc hR0 hB1
        go_wp2
        refine ⟨⟨j + 1, by omega, by simp, hSr.setCell hg _, (hR.set (p + j) _).congr (fun t ht => ?_)⟩, by simp [intOf]; omega⟩
        simp only [U8, IntRow, layF, Int.toNat_natCast]
        by_cases e : t = p + j
        · subst e
          rw [if_pos rfl, if_pos (by omega), show p + j - p = j by omega]
        · rw [if_neg e]
          by_cases e2 : p ≤ t ∧ t < p + j
          · rw [if_pos e2, if_pos (by omega)]
          · rw [if_neg e2, if_neg (by omega)]
      · obtain rfl : m = j := by omega
        clear hB1 hR0
        go_wp2
        go_ret2
        exact ⟨_, _, _, by rw [E1.out]; rfl, E2.out.symm, hcap, fun _ => ⟨_, rfl, hg, hR⟩, hSr⟩
  · have d3 : decide (0 ≤ (m : Int) ∧ Fits n i m) = false := by simp [h3]
    have d4 : decide (Fits n i m) = false := by simpa using h3
    obtain ⟨e1, e2⟩ := lay_no h3
    have E1 := Lib.hid e1; have E2 := Lib.hid e2; clear e1 e2 h h3
    go_enter Tryz.func82, Tryz.ntmps82
    go_wp2_with (go_at_call 114; refine (ref_there _ n c i m w hi hk hn).mono ?_; rintro e w2 ⟨rfl, rfl⟩)
    go_ret2
    exact ⟨none, 0, 0, by rw [E1.out]; rfl, E2.out.symm, Nat.le_refl _, Nw.zero, Since.refl _⟩
end Go.Proofs.YteckkcpnfeoehaaGreatDoor

/-
  Layer 2: reading and putting inside of the bytes; numbers laid over.
-/
namespace Go.Proofs.YteckkcpnfeoehaaGreatDoor
set_option maxRecDepth 100000
open Go.RowKit
set_option linter.unusedVariables false


theorem u_in (A : Option Addr) (n c : Nat) (f : Nat → Int) (p m : Nat) (x y : Int) (w : World) (h : Rd w w.heap.size A n (U8 f)) (hf : ∀ j, j < n → 0 ≤ f j ∧ f j ≤ 255) (hx : x = p) (hy : y = m) (hm : 1 ≤ m ∧ m ≤ 4) (hp : p + m ≤ n) (hn : n ≤ 140737488355328) :
    Calls Tryz.prog 97 #[.slice A n c, .int .i64 x, .int .i64 y] w fun e w' => e = .returned (.tuple #[.int .i64 (numAt f p m), .int .i64 0]) ∧ w' = w := by
  subst hx; subst hy
  have h' := be_u A n c f p m w h hf (by unfold In64; omega) (by unfold In64; omega) hn
  unfold uAns at h'
  rw [if_neg (by omega), if_pos (by unfold Fits; omega)] at h'
  simpa using h'

theorem ru_in (A : Option Addr) (n c : Nat) (f : Nat → Int) (p m : Nat) (x y : Int) (w : World) (h : Rd w w.heap.size A n (U8 f)) (hf : ∀ j, j < n → 0 ≤ f j ∧ f j ≤ 255) (hx : x = p) (hy : y = m) (hm : 1 ≤ m ∧ m ≤ 4) (hp : p + m ≤ n) (hn : n ≤ 140737488355328) :
    Calls Tryz.prog 112 #[.slice A n c, .int .i64 x, .int .i64 y] w fun e w' => e = .returned (.tuple #[.int .i64 (numAt f p m), .int .i64 0]) ∧ w' = w := by
  subst hx; subst hy
  have h' := ref_u A n c f p m w h hf (by unfold In64; omega) (by unfold In64; omega) hn
  unfold uAns at h'
  rw [if_neg (by omega), if_pos (by unfold Fits; omega)] at h'
  simpa using h'


theorem s_in (A : Option Addr) (n c : Nat) (f : Nat → Int) (p m : Nat) (x y : Int) (w : World) (h : Rd w w.heap.size A n (U8 f)) (hf : ∀ j, j < n → 0 ≤ f j ∧ f j ≤ 255) (hx : x = p) (hy : y = m) (hm : 1 ≤ m ∧ m ≤ 4) (hp : p + m ≤ n) (hn : n ≤ 140737488355328) :
    Calls Tryz.prog 103 #[.slice A n c, .int .i64 x, .int .i64 y] w fun e w' => e = .returned (.tuple #[.int .i64 (sgn m (numAt f p m)), .int .i64 0]) ∧ w' = w := by
  subst hx; subst hy
  have h' := be_s A n c f p m w h hf (by unfold In64; omega) (by unfold In64; omega) hn
  unfold sAns at h'
  rw [if_neg (by omega), if_pos (by unfold Fits; omega)] at h'
  simpa using h'

theorem rs_in (A : Option Addr) (n c : Nat) (f : Nat → Int) (p m : Nat) (x y : Int) (w : World) (h : Rd w w.heap.size A n (U8 f)) (hf : ∀ j, j < n → 0 ≤ f j ∧ f j ≤ 255) (hx : x = p) (hy : y = m) (hm : 1 ≤ m ∧ m ≤ 4) (hp : p + m ≤ n) (hn : n ≤ 140737488355328) :
    Calls Tryz.prog 113 #[.slice A n c, .int .i64 x, .int .i64 y] w fun e w' => e = .returned (.tuple #[.int .i64 (sgn m (numAt f p m)), .int .i64 0]) ∧ w' = w := by
  subst hx; subst hy
  have h' := ref_s A n c f p m w h hf (by unfold In64; omega) (by unfold In64; omega) hn
  unfold sAns at h'
  rw [if_neg (by omega), if_pos (by unfold Fits; omega)] at h'
  simpa using h'


theorem Nw.low {w : World} {B B' n : Nat} {A : Option Addr} {V : Nat → Value} (h : Nw w B A n V) (hB : B' ≤ B) : Nw w B' A n V := fun hn => by
  obtain ⟨g, rfl, hb, hr⟩ := h hn
  exact ⟨g, rfl, Nat.le_trans hB hb, hr⟩
theorem byte_range (n : Int) (m j : Nat) : 0 ≤ byteOf n m j ∧ byteOf n m j ≤ 255 := by
  unfold byteOf
  have h1 := Int.emod_nonneg (n / 2 ^ (8 * (m - 1 - j))) (show (256 : Int) ≠ 0 by decide)
  have h2 := Int.emod_lt_of_pos (n / 2 ^ (8 * (m - 1 - j))) (show (0 : Int) < 256 by decide)
  omega
theorem num_four (f : Nat → Int) (p : Nat) : numAt f p 4 = 65536 * numAt f p 2 + numAt f (p + 2) 2 := by
  simp only [numAt, Nat.add_zero]
  rw [show p + 2 + 1 = p + 3 by omega]
  omega
end Go.Proofs.YteckkcpnfeoehaaGreatDoor
