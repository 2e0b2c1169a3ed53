/-
  Texts of this seat, put together: each with its own head.
-/
import Derived.Test.YtpplnapfpoloiaaMgS
import Derived.Test.YtpplnapfpoloiaaKitOs
import Derived.Shelf.Abstract
import Derived.Test.YtpplnapfpoloiaaKitR
import Derived.Lib.Overlaps
import Derived.Laws.Externs

/-
  Layer 4: the first table that meets a condition; Find of the program and of the document; a table with data of its own.
-/
namespace Go.Proofs.Ytpplnapfpoloiaa
open Go.RowKit Go.ChangeShapes Go.WideShapes Go.Deep
set_option linter.unusedVariables false
set_option linter.unusedSimpArgs false

/-- The place of the first table that meets a condition; -1. -/
def ixF (p : Tb → Bool) : Nat → List Tb → Int
  | _, [] => -1
  | i, T :: r => if p T = true then (i : Int) else ixF p (i + 1) r
theorem ixF_none {p : Tb → Bool} : ∀ (TT : List Tb) (i : Nat), (∀ T, T ∈ TT → p T = false) → ixF p i TT = -1 := by
  intro TT
  induction TT with
  | nil => intro i _; rfl
  | cons U r ih => intro i h; unfold ixF; rw [h U (by simp), if_neg (by simp)]; exact ih _ (fun T hT => h T (by simp [hT]))
theorem ixF_some {p : Tb → Bool} : ∀ (TT : List Tb) (i j : Nat) (T : Tb), TT[j]? = some T → p T = true → (∀ U, U ∈ TT.take j → p U = false) → ixF p i TT = ((i + j : Nat) : Int) := by
  intro TT
  induction TT with
  | nil => intro i j T h; simp at h
  | cons U r ih =>
    intro i j T h hp hl
    unfold ixF
    cases j with
    | zero =>
      simp only [List.getElem?_cons_zero, Option.some.injEq] at h
      subst h
      rw [if_pos hp]; rfl
    | succ j =>
      rw [List.getElem?_cons_succ] at h
      rw [hl U (by simp), if_neg (by simp), ih (i + 1) j T h hp (fun V hV => hl V (by simp [hV]))]
      congr 1; omega
theorem ixF_cases (p : Tb → Bool) : ∀ (TT : List Tb) (i : Nat), (ixF p i TT = -1 ∧ ∀ T, T ∈ TT → p T = false) ∨ ∃ (j : Nat) (T : Tb), ixF p i TT = ((i + j : Nat) : Int) ∧ TT[j]? = some T ∧ p T = true ∧ ∀ U, U ∈ TT.take j → p U = false := by
  intro TT
  induction TT with
  | nil => intro i; exact .inl ⟨rfl, fun T hT => by cases hT⟩
  | cons U r ih =>
    intro i
    unfold ixF
    cases hU : p U
    · rw [if_neg (by simp)]
      rcases ih (i + 1) with ⟨h1, h2⟩ | ⟨j, T, h1, h2, h3, h4⟩
      · exact .inl ⟨h1, fun T hT => by
          rcases List.mem_cons.1 hT with rfl | h
          · exact hU
          · exact h2 T h⟩
      · refine .inr ⟨j + 1, T, by rw [h1]; congr 1; omega, by rw [List.getElem?_cons_succ]; exact h2, h3, fun V hV => ?_⟩
        rw [List.take_succ_cons] at hV
        rcases List.mem_cons.1 hV with rfl | h
        · exact hU
        · exact h4 V h
    · rw [if_pos rfl]
      exact .inr ⟨0, U, rfl, rfl, hU, fun V hV => by simp at hV⟩
theorem take_none {p : Tb → Bool} {TT : List Tb} {j : Nat} (h : ∀ U, U ∈ TT.take j → p U = false) {T : Tb} (hT : TT[j]? = some T) (hp : p T = false) : ∀ U, U ∈ TT.take (j + 1) → p U = false := by
  have hl : j < TT.length := by
    rcases Nat.lt_or_ge j TT.length with h | h
    · exact h
    · rw [List.getElem?_eq_none h] at hT; cases hT
  have e : TT[j] = T := by rw [List.getElem?_eq_getElem hl] at hT; exact Option.some.inj hT
  rw [List.take_succ_eq_append_getElem hl, e]
  intro U hU
  rw [List.mem_append, List.mem_singleton] at hU
  rcases hU with h1 | rfl
  · exact h U h1
  · exact hp
/-- The same tag? -/
def eqT (s : ByteArray) (T : Tb) : Bool := T.tag.toList == s.toList
/-- A greater tag? -/
def gtT (s : ByteArray) (T : Tb) : Bool := Op.bytesLess s.toList T.tag.toList
set_option maxHeartbeats 4000000 in
theorem cl_find (s t : ByteArray) (v : Value) (b : Nat) (w : World) (h : w.cell? ⟨b, 0, none⟩ = some (.string t)) (hb : b < w.heap.size) :
    Calls Try.prog 69 #[.agg #[.string s, v], .pointer (some ⟨b, 0, none⟩)] w fun e w' => e = .returned (.bool (s.toList == t.toList)) ∧ Since w w' := by
  have hne : ¬ b = w.heap.size := by omega
  cases hq : s.toList == t.toList
  · have h2 : ¬ s.toList = t.toList := by simpa using hq
    go_enter Try.func69, Try.ntmps69
    go_wp2_with fail
    go_ret
    exact ⟨by first | rfl | simp [h2], by (repeat (first | with_reducible (exact Since.refl _) | with_reducible assumption | with_reducible (refine Since.drew ?_) | with_reducible (refine Since.drewN ?_ _) | with_reducible (refine Since.alloc ?_ _) | (with_reducible (refine Since.setCell ?_ ?_ _); rotate_left; focus (first | (simp; done) | (simp; omega) | omega)) | (with_reducible (refine Since.trans ?_ (by with_reducible assumption)))))⟩
  · have h2 : s.toList = t.toList := by simpa using hq
    go_enter Try.func69, Try.ntmps69
    go_wp2_with fail
    go_ret
    exact ⟨by first | rfl | simp [h2], by (repeat (first | with_reducible (exact Since.refl _) | with_reducible assumption | with_reducible (refine Since.drew ?_) | with_reducible (refine Since.drewN ?_ _) | with_reducible (refine Since.alloc ?_ _) | (with_reducible (refine Since.setCell ?_ ?_ _); rotate_left; focus (first | (simp; done) | (simp; omega) | omega)) | (with_reducible (refine Since.trans ?_ (by with_reducible assumption)))))⟩
set_option maxHeartbeats 4000000 in
theorem cl_with1 (s t : ByteArray) (v : Value) (b : Nat) (w : World) (h : w.cell? ⟨b, 0, none⟩ = some (.string t)) (hb : b < w.heap.size) :
    Calls Try.prog 66 #[.agg #[.string s, v], .pointer (some ⟨b, 0, none⟩)] w fun e w' => e = .returned (.bool (s.toList == t.toList)) ∧ Since w w' := by
  have hne : ¬ b = w.heap.size := by omega
  cases hq : s.toList == t.toList
  · have h2 : ¬ s.toList = t.toList := by simpa using hq
    go_enter Try.func66, Try.ntmps66
    go_wp2_with fail
    go_ret
    exact ⟨by first | rfl | simp [h2], by (repeat (first | with_reducible (exact Since.refl _) | with_reducible assumption | with_reducible (refine Since.drew ?_) | with_reducible (refine Since.drewN ?_ _) | with_reducible (refine Since.alloc ?_ _) | (with_reducible (refine Since.setCell ?_ ?_ _); rotate_left; focus (first | (simp; done) | (simp; omega) | omega)) | (with_reducible (refine Since.trans ?_ (by with_reducible assumption)))))⟩
  · have h2 : s.toList = t.toList := by simpa using hq
    go_enter Try.func66, Try.ntmps66
    go_wp2_with fail
    go_ret
    exact ⟨by first | rfl | simp [h2], by (repeat (first | with_reducible (exact Since.refl _) | with_reducible assumption | with_reducible (refine Since.drew ?_) | with_reducible (refine Since.drewN ?_ _) | with_reducible (refine Since.alloc ?_ _) | (with_reducible (refine Since.setCell ?_ ?_ _); rotate_left; focus (first | (simp; done) | (simp; omega) | omega)) | (with_reducible (refine Since.trans ?_ (by with_reducible assumption)))))⟩
theorem gt_tri (x y : List UInt8) : (!Op.bytesLess x y && !(x == y)) = Op.bytesLess y x := by
  have h := less_tri x y
  by_cases e : x = y
  · subst e
    cases hb : Op.bytesLess x x
    · simp
    · rw [hb] at h; simp at h
  · have e1 : (x == y) = false := by simpa using e
    have e2 : (y == x) = false := by simpa using fun k => e k.symm
    rw [h, e1, e2]; simp
set_option maxHeartbeats 4000000 in
theorem cl_with2 (s t : ByteArray) (v : Value) (b : Nat) (w : World) (h : w.cell? ⟨b, 0, none⟩ = some (.string t)) (hb : b < w.heap.size) :
    Calls Try.prog 67 #[.agg #[.string s, v], .pointer (some ⟨b, 0, none⟩)] w fun e w' => e = .returned (.bool (Op.bytesLess t.toList s.toList)) ∧ Since w w' := by
  have hne : ¬ b = w.heap.size := by omega
  go_enter Try.func67, Try.ntmps67
  go_wp2_with fail
  go_ret
  exact ⟨by first | rfl | (simp; exact gt_tri _ _) | (rw [← gt_tri]; rfl), by (repeat (first | with_reducible (exact Since.refl _) | with_reducible assumption | with_reducible (refine Since.drew ?_) | with_reducible (refine Since.drewN ?_ _) | with_reducible (refine Since.alloc ?_ _) | (with_reducible (refine Since.setCell ?_ ?_ _); rotate_left; focus (first | (simp; done) | (simp; omega) | omega)) | (with_reducible (refine Since.trans ?_ (by with_reducible assumption)))))⟩
theorem enters_find : ∀ args w, (callFunc 69 args).run Try.prog w = .ok (.enter 69 args) w := enters_of Try.func69 (by kernel_rfl) rfl
theorem enters_with1 : ∀ args w, (callFunc 66 args).run Try.prog w = .ok (.enter 66 args) w := enters_of Try.func66 (by kernel_rfl) rfl
theorem enters_with2 : ∀ args w, (callFunc 67 args).run Try.prog w = .ok (.enter 67 args) w := enters_of Try.func67 (by kernel_rfl) rfl
set_option maxRecDepth 100000 in
set_option maxHeartbeats 4000000 in
theorem sf_index (k : Nat) (cap : Array Value) (p : Tb → Bool) (A : Option Addr) (n c : Nat) (TT : List Tb) (w : World) (h : RdTL w w.heap.size A TT) (hL : n = TT.length) (hn : n ≤ maxLen) (hE : ∀ args w, (callFunc k args).run Try.prog w = .ok (.enter k args) w)
    (hF : ∀ (T : Tb) (v : Value) (w1 : World), T ∈ TT → Since w w1 → Calls Try.prog k (#[.agg #[.string T.tag, v]] ++ cap) w1 fun e w2 => e = .returned (.bool (p T)) ∧ Since w1 w2) :
    Calls Try.prog 65 #[.slice A n c, .func (.func k) #[] cap] w fun e w' => e = .returned (.int .i64 (ixF p 0 TT)) ∧ Since w w' := by
  have hn' : (n : Int) ≤ 9223372036854775807 := by simp only [maxLen] at hn; omega
  have HL := Lib.hid hL
  obtain ⟨R, hR⟩ : ∃ R, R = ixF p 0 TT := ⟨_, rfl⟩
  rw [← hR]
  have HR := Lib.hid hR
  clear hL hR
  go_enter Try.func65, Try.ntmps65
  go_wp2
  go_loopw [8] (fun y wr => ∃ j : Nat, j ≤ n ∧ y = .int .i64 (j : Int) ∧ Hid (∀ U, U ∈ TT.take j → p U = false) ∧ Since w wr) (fun y _ => n - (intOf y).toNat)
  case atStart => exact ⟨0, by omega, rfl, Lib.hid (by simp), Since.refl _⟩
  case round =>
    obtain ⟨j, hj, rfl, HA, hS⟩ := hrel
    by_cases hjn : j < n
    · have hjn' : (j : Int) < n := by omega
      have hjL : j < TT.length := by rw [← HL.out]; exact hjn
      have hT : TT[j]? = some TT[j] := List.getElem?_eq_getElem hjL
      have hm : TT[j] ∈ TT := List.getElem_mem hjL
      obtain ⟨b, o, A', c', rfl, hb, hc1, hc2, _⟩ := h.row hT
      have hc := hF TT[j] (.slice A' TT[j].data.length c') wr hm hS
      generalize TT[j] = T at *
      have c1 := (hS.1 _ _ hb).trans hc1
      have c2 := (hS.1 _ _ hb).trans hc2
      have HT := Lib.hid hT
      generalize T.data.length = l at *
      clear h hT hm hjL hF hc1 hc2
      cases hp : p T with
      | true =>
        rw [hp] at hc
        have HP := Lib.hid hp
        clear hp
        generalize hs : T.tag = s at *
        go_wp2_with (refine (Calls.mono hc ?_); rintro e w1 ⟨rfl, hS1⟩)
        go_ret
        exact ⟨by rw [HR.out, ixF_some TT 0 j T HT.out HP.out HA.out, Nat.zero_add]; rfl, hS.trans hS1⟩
      | false =>
        rw [hp] at hc
        have HP := Lib.hid hp
        clear hp
        generalize hs : T.tag = s at *
        go_wp2_with (refine (Calls.mono hc ?_); rintro e w1 ⟨rfl, hS1⟩)
        go_roundw
        case rel => exact ⟨j + 1, by omega, by go_num, Lib.hid (take_none HA.out HT.out HP.out), hS.trans hS1⟩
        case measure => simp [intOf]; omega
    · obtain rfl : j = n := by omega
      clear h hF
      go_wp2
      go_ret
      exact ⟨by rw [HR.out, ixF_none TT 0 (by have := HA.out; rw [HL.out, List.take_length] at this; exact this)]; rfl, hS⟩
end Go.Proofs.Ytpplnapfpoloiaa

/-
  Layer 4: Find of the program and of the document; a table with data of its own.
-/
namespace Go.Proofs.Ytpplnapfpoloiaa
open Go.RowKit Go.ChangeShapes Go.WideShapes Go.Deep
set_option linter.unusedVariables false
set_option linter.unusedSimpArgs false

theorem box_cell (w : World) (v : Value) (t : TypeId) : (w.alloc (.cells #[v] t)).cell? ⟨w.heap.size, 0, none⟩ = some v := by rw [World.cell?_alloc_new]; rfl
theorem mem_eqT {s : ByteArray} {T : Tb} : (T.tag.toList == s.toList) = eqT s T := rfl
/-- IndexFunc with Find's closure, whose variable lies in a box. -/
theorem sf_index_find (s : ByteArray) (A : Option Addr) (n c : Nat) (TT : List Tb) (b : Nat) (w : World) (h : RdTL w w.heap.size A TT) (hL : n = TT.length) (hn : n ≤ maxLen) (hb : w.cell? ⟨b, 0, none⟩ = some (.string s)) (hbw : b < w.heap.size) :
    Calls Try.prog 65 #[.slice A n c, .func (.func 69) #[] #[.pointer (some ⟨b, 0, none⟩)]] w fun e w' => e = .returned (.int .i64 (ixF (eqT s) 0 TT)) ∧ Since w w' :=
  sf_index 69 #[.pointer (some ⟨b, 0, none⟩)] (eqT s) A n c TT w h hL hn enters_find (fun T v w1 _ hS => cl_find T.tag s v b w1 ((hS.1 _ _ hbw).trans hb) (hS.2.2.1 _ hbw))
theorem sf_index_with1 (s : ByteArray) (A : Option Addr) (n c : Nat) (TT : List Tb) (b : Nat) (w : World) (h : RdTL w w.heap.size A TT) (hL : n = TT.length) (hn : n ≤ maxLen) (hb : w.cell? ⟨b, 0, none⟩ = some (.string s)) (hbw : b < w.heap.size) :
    Calls Try.prog 65 #[.slice A n c, .func (.func 66) #[] #[.pointer (some ⟨b, 0, none⟩)]] w fun e w' => e = .returned (.int .i64 (ixF (eqT s) 0 TT)) ∧ Since w w' :=
  sf_index 66 #[.pointer (some ⟨b, 0, none⟩)] (eqT s) A n c TT w h hL hn enters_with1 (fun T v w1 _ hS => cl_with1 T.tag s v b w1 ((hS.1 _ _ hbw).trans hb) (hS.2.2.1 _ hbw))
theorem sf_index_with2 (s : ByteArray) (A : Option Addr) (n c : Nat) (TT : List Tb) (b : Nat) (w : World) (h : RdTL w w.heap.size A TT) (hL : n = TT.length) (hn : n ≤ maxLen) (hb : w.cell? ⟨b, 0, none⟩ = some (.string s)) (hbw : b < w.heap.size) :
    Calls Try.prog 65 #[.slice A n c, .func (.func 67) #[] #[.pointer (some ⟨b, 0, none⟩)]] w fun e w' => e = .returned (.int .i64 (ixF (gtT s) 0 TT)) ∧ Since w w' :=
  sf_index 67 #[.pointer (some ⟨b, 0, none⟩)] (gtT s) A n c TT w h hL hn enters_with2 (fun T v w1 _ hS => cl_with2 T.tag s v b w1 ((hS.1 _ _ hbw).trans hb) (hS.2.2.1 _ hbw))
set_option maxRecDepth 100000 in
set_option maxHeartbeats 4000000 in
theorem sf_find_no (s : ByteArray) (A : Option Addr) (n c : Nat) (TT : List Tb) (w : World) (h : RdTL w w.heap.size A TT) (hL : n = TT.length) (hn : n ≤ maxLen) (hno : ∀ T, T ∈ TT → eqT s T = false) :
    Calls Try.prog 29 #[.slice A n c, .string s] w fun e w' => e = .returned (.tuple #[.slice none 0 0, .bool false]) ∧ Since w w' := by
  have hmf : ∀ (fn : Fn) (first cap : Array Value) (w : World), (Instr.makeFunc fn first cap).run Try.prog w = .ok (.func fn first cap) w := fun _ _ _ _ => rfl
  have HI := Lib.hid (fun (ty : TypeId) => sf_index_find s A n c TT w.heap.size (w.alloc (.cells #[.string s] ty)) (h.on ((Since.refl w).alloc _)) hL hn (box_cell _ _ _) (by simp))
  rw [ixF_none TT 0 hno] at HI
  clear h hL hno
  go_enter Try.func29, Try.ntmps29
  go_wp2_with (go_at_call 65; (with_reducible refine (HI.out _).mono ?_); rintro e w2 ⟨rfl, hS2⟩; have hX2 := ((Since.refl w).alloc _).trans hS2)
  refine bodyPost_ret (by simp only [results, Try.results29]; go_simp) rfl ⟨rfl, hX2⟩
set_option maxRecDepth 100000 in
set_option maxHeartbeats 4000000 in
theorem sf_find_yes (s : ByteArray) (A : Option Addr) (n c : Nat) (TT : List Tb) (w : World) (h : RdTL w w.heap.size A TT) (hL : n = TT.length) (hn : n ≤ maxLen) (j : Nat) (T : Tb) (hT : TT[j]? = some T) (heq : eqT s T = true) (hf : ∀ U, U ∈ TT.take j → eqT s U = false) (hm : T.data.length ≤ 140737488355328) :
    Calls Try.prog 29 #[.slice A n c, .string s] w fun e w' => ∃ v, e = .returned (.tuple #[v, .bool true]) ∧ OwnB w' w.heap.size v T.data ∧ Since w w' := by
  have hmf : ∀ (fn : Fn) (first cap : Array Value) (w : World), (Instr.makeFunc fn first cap).run Try.prog w = .ok (.func fn first cap) w := fun _ _ _ _ => rfl
  have HI := Lib.hid (fun (ty : TypeId) => sf_index_find s A n c TT w.heap.size (w.alloc (.cells #[.string s] ty)) (h.on ((Since.refl w).alloc _)) hL hn (box_cell _ _ _) (by simp))
  rw [ixF_some TT 0 j T hT heq hf, Nat.zero_add] at HI
  have hjl : j < n := by
    rw [hL]
    rcases Nat.lt_or_ge j TT.length with h2 | h2
    · exact h2
    · rw [List.getElem?_eq_none h2] at hT; cases hT
  have hjn : (j : Int) < (n : Int) := by omega
  have hj0 : ¬ (j : Int) < 0 := by omega
  have hnI : (n : Int) ≤ 9223372036854775807 := by simp only [maxLen] at hn; omega
  obtain ⟨b, o, A', c', rfl, hb, hc1, hc2, hK⟩ := h.row hT
  obtain ⟨l, hl⟩ : ∃ l, l = T.data.length := ⟨_, rfl⟩
  rw [← hl] at hc2 hm
  have HC := Lib.hid (fun (w2 : World) (h2 : Since w w2) => bt_clone A' l c' T.data w2 ((hK.since (Nat.le_refl _) h2).more h2.below.size) hl (by omega))
  have HK := Lib.hid (fun (w2 : World) (h2 : Since w w2) => (h2.1 _ _ hb).trans hc2)
  have HB := Lib.hid hb
  clear h hL hf hT heq hK hc1 hc2 hl hb
  go_enter Try.func29, Try.ntmps29
  go_wp2_with (first | (go_at_call 65; (with_reducible refine (HI.out _).mono ?_); rintro e w2 ⟨rfl, hS2⟩; have hX2 := ((Since.refl w).alloc _).trans hS2; have hk2 := HK.out _ hX2; have hbw := hX2.2.2.1 _ HB.out) | (go_at_call 70; (with_reducible refine (HC.out _ hX2).mono ?_); rintro e w3 ⟨v3, rfl, hO3, hS3⟩; have hX3 := hX2.trans hS3; have hO3 := OwnG.low hO3 hX2.below.size))
  refine bodyPost_ret (by simp only [results, Try.results29]; go_simp) rfl ⟨_, rfl, hO3, hX3⟩
set_option maxRecDepth 100000 in
set_option maxHeartbeats 8000000 in
theorem rf_find (s : ByteArray) (A : Option Addr) (n c : Nat) (TT : List Tb) (w : World) (h : RdTL w w.heap.size A TT) (hL : n = TT.length) (hn : n ≤ maxLen) :
    Calls Try.prog 30 #[.slice A n c, .string s] w fun e w' => e = .returned (.int .i64 (ixF (eqT s) 0 TT)) ∧ Since w w' := by
  have hn' : (n : Int) ≤ 9223372036854775807 := by simp only [maxLen] at hn; omega
  have HL := Lib.hid hL
  obtain ⟨R, hR⟩ : ∃ R, R = ixF (eqT s) 0 TT := ⟨_, rfl⟩
  rw [← hR]
  have HR := Lib.hid hR
  clear hL hR
  go_enter Try.func30, Try.ntmps30
  go_wp2_with fail
  go_loopw [9] (fun y wr => ∃ j : Nat, j ≤ n ∧ y = .int .i64 (j : Int) ∧ Hid (∀ U, U ∈ TT.take j → eqT s U = false) ∧ Since w wr) (fun y _ => n - (intOf y).toNat)
  case atStart => exact ⟨0, by omega, rfl, Lib.hid (by simp), Since.refl _⟩
  case round =>
    obtain ⟨j, hj, rfl, HA, hS⟩ := hrel
    by_cases hjn : j < n
    · have hjn' : (j : Int) < n := by omega
      have hjL : j < TT.length := by rw [← HL.out]; exact hjn
      have hT : TT[j]? = some TT[j] := List.getElem?_eq_getElem hjL
      obtain ⟨b, o, A', c', rfl, hb, hc1, hc2, _⟩ := h.row hT
      generalize TT[j] = T at *
      have c1 := (hS.1 _ _ hb).trans hc1
      have c2 := (hS.1 _ _ hb).trans hc2
      have hbw := hS.2.2.1 _ hb
      have HT := Lib.hid hT
      generalize T.data.length = l at *
      clear h hT hjL hc1 hc2
      cases hp : eqT s T with
      | true =>
        have HP := Lib.hid hp
        unfold eqT at hp
        generalize hs : T.tag = t at *
        have h2 : t.toList = s.toList := by simpa using hp
        clear hp
        go_wp2_with fail
        go_ret
        exact ⟨by rw [HR.out, ixF_some TT 0 j T HT.out HP.out HA.out, Nat.zero_add]; rfl, by (repeat (first | with_reducible (exact Since.refl _) | with_reducible assumption | with_reducible (refine Since.drew ?_) | with_reducible (refine Since.drewN ?_ _) | with_reducible (refine Since.alloc ?_ _) | (with_reducible (refine Since.setCell ?_ ?_ _); rotate_left; focus (first | (simp; done) | (simp; omega) | omega)) | (with_reducible (refine Since.trans ?_ (by with_reducible assumption)))))⟩
      | false =>
        have HP := Lib.hid hp
        unfold eqT at hp
        generalize hs : T.tag = t at *
        have h2 : (t.toList == s.toList) = false := hp
        clear hp
        go_wp2_with fail
        refine ⟨⟨j + 1, by omega, by first | rfl | go_num | simp, Lib.hid (take_none HA.out HT.out HP.out), by (repeat (first | with_reducible (exact Since.refl _) | with_reducible assumption | with_reducible (refine Since.drew ?_) | with_reducible (refine Since.drewN ?_ _) | with_reducible (refine Since.alloc ?_ _) | (with_reducible (refine Since.setCell ?_ ?_ _); rotate_left; focus (first | (simp; done) | (simp; omega) | omega)) | (with_reducible (refine Since.trans ?_ (by with_reducible assumption)))))⟩, by simp [intOf]; omega⟩
    · obtain rfl : j = n := by omega
      have hjn' : ¬ (j : Int) < (j : Int) := by omega
      clear h
      go_wp2_with fail
      go_ret
      exact ⟨by rw [HR.out, ixF_none TT 0 (by have := HA.out; rw [HL.out, List.take_length] at this; exact this)]; rfl, hS⟩
set_option maxRecDepth 100000 in
set_option maxHeartbeats 8000000 in
/-- A table with data of its own. -/
theorem sf_fresh (s : ByteArray) (A : Option Addr) (n c : Nat) (L : List Int) (w : World) (h : RdB w w.heap.size A L) (hn : n = L.length) (hL : L.length ≤ 140737488355328) :
    Calls Try.prog 64 #[.agg #[.string s, .slice A n c]] w fun e w' => ∃ A' c', e = .returned (.agg #[.string s, .slice A' n c']) ∧ OwnB w' w.heap.size (.slice A' n c') L ∧ Since w w' := by
  have HC : Hid (∀ (w2 : World) (h2 : Since w w2), Calls Try.prog 70 #[.slice A n c] w2 fun e w' => ∃ A' c', e = .returned (.slice A' n c') ∧ OwnB w' w2.heap.size (.slice A' n c') L ∧ Since w w' ∧ Since w2 w') := Lib.hid (fun (w2 : World) (h2 : Since w w2) => (bt_clone A n c L w2 (h.on h2) hn hL).mono (by
    rintro e w3 ⟨v3, rfl, hO3, hS3⟩
    obtain ⟨A3, c3, rfl, _, _⟩ := hO3.rd (by omega) byL_len
    rw [← hn] at hO3 ⊢
    exact ⟨_, _, rfl, hO3, h2.trans hS3, hS3⟩))
  clear h hL hn
  go_enter Try.func64, Try.ntmps64
  go_upto_region 1 with fail
  refine wp_named fun w1 hw1 => ?_
  have hS1 : Since w w1 := by subst hw1; (repeat (first | with_reducible (exact Since.refl _) | with_reducible assumption | with_reducible (refine Since.drew ?_) | with_reducible (refine Since.drewN ?_ _) | with_reducible (refine Since.alloc ?_ _) | (with_reducible (refine Since.setCell ?_ ?_ _); rotate_left; focus (first | (simp; done) | (simp; omega) | omega)) | (with_reducible (refine Since.trans ?_ (by with_reducible assumption)))))
  have k1 : Two w1 w.heap.size (.string s) (.slice A n c) := by
    subst hw1
    exact (two_new w _ rfl _ _ _).since ((Since.refl _).alloc _)
  have k2 : Two w1 (w.heap.size + 1) (.string { data := #[] }) (.slice none 0 0) := by
    subst hw1
    exact two_new _ _ (by simp) _ _ _
  clear hw1
  generalize hg1 : w.heap.size + 1 = g1 at k2 ⊢
  generalize hg0 : w.heap.size = g0 at k1 ⊢
  have hq0 : w.heap.size ≤ g1 := by omega
  have hne : ¬ g0 = g1 := by omega
  have hne2 : ¬ g1 = g0 := by omega
  have HQ := Lib.hid hq0
  clear hg0 hg1 hq0
  have HD := Lib.hid (fun (w2 : World) (h2 : Since w1 w2) => (HC.out w2 (hS1.trans h2)).mono (show ∀ e w', _ → ∃ A' c', e = .returned (.slice A' n c') ∧ OwnB w' w1.heap.size (.slice A' n c') L ∧ Since w1 w' from fun e w' ⟨A', c', a1, a2, _, a4⟩ => ⟨A', c', a1, OwnG.low a2 h2.below.size, h2.trans a4⟩))
  clear HC
  obtain ⟨p1, p2, p3, p4, p5⟩ := id k1
  obtain ⟨q1, q2, q3, q4, q5⟩ := id k2
  go_region_with (go_at_call 70; (with_reducible refine (HD.out _ (by (repeat (first | with_reducible (exact Since.refl _) | with_reducible assumption | with_reducible (refine Since.drew ?_) | with_reducible (refine Since.drewN ?_ _) | with_reducible (refine Since.alloc ?_ _) | (with_reducible (refine Since.setCell ?_ ?_ _); rotate_left; focus (first | (simp; done) | (simp; omega) | omega)) | (with_reducible (refine Since.trans ?_ (by with_reducible assumption))))))).mono ?_); rintro e w3 ⟨A3, c3, rfl, hO3, hS3⟩; obtain ⟨r1, r2, r3, r4, r5⟩ := k1.since hS3; obtain ⟨s1, s2, s3, s4, s5⟩ := k2.since hS3)
  all_goals have hO4 := own_setlow (own_setlow hO3 q5 0 (.string s)) q5 1 (.slice A3 n c3)
  all_goals have hS4 := ((hS1.trans hS3).setCell (p := ⟨g1, 0, none⟩) HQ.out (.string s)).setCell (p := ⟨g1, 1, none⟩) HQ.out (.slice A3 n c3)
  all_goals go_wp2_with fail
  all_goals refine bodyPost_ret (by simp only [results, Try.results64]; go_simp) rfl ⟨A3, c3, rfl, OwnG.low hO4 hS1.below.size, hS4⟩
end Go.Proofs.Ytpplnapfpoloiaa

/-
  Layer 4: own rows of tables with room: append and copy in place; slices.Insert.
-/
namespace Go.Proofs.Ytpplnapfpoloiaa
open Go.RowKit Go.ChangeShapes Go.WideShapes Go.Deep
set_option linter.unusedVariables false
set_option linter.unusedSimpArgs false

theorem take_lay {A : List Value} {cs : List Value} {p m n : Nat} (hA : p * 2 ≤ A.length) (hc : cs.length = m * 2) (hp : p ≤ n) (h : p + m ≤ n ∨ n ≤ p + m) (hn : n * 2 ≤ A.length) (hpm : (p + m) * 2 ≤ A.length) :
    (A.take (p * 2) ++ cs ++ A.drop (p * 2 + cs.length)).take ((max n (p + m)) * 2) = (A.take (n * 2)).take (p * 2) ++ cs ++ (A.take (n * 2)).drop ((p + m) * 2) := by
  have hl : (A.take (p * 2) ++ cs).length = (p + m) * 2 := by rw [List.length_append, List.length_take, hc]; omega
  have e1 : (A.take (n * 2)).take (p * 2) = A.take (p * 2) := by rw [List.take_take, Nat.min_eq_left (by omega)]
  rw [e1]
  by_cases hle : p + m ≤ n
  · rw [Nat.max_eq_left hle, List.take_append, hl, List.take_of_length_le (by rw [hl]; omega), hc, List.drop_take]
    congr 2
    all_goals first | (congr 1; omega) | omega
  · rw [Nat.max_eq_right (by omega), List.take_append_of_le_length (by rw [hl]; omega), List.take_of_length_le (by rw [hl]; omega), List.drop_eq_nil_of_le (by rw [List.length_take]; omega), List.append_nil]
section
variable {P : Program}
theorem row_copy {w : World} {base g n cap : Nat} {t : TypeId} {xs : List Value} (h : w.ownsRow base t 2 (.slice (some ⟨g, 0, none⟩) n cap) n xs) (dT : TypeId) (i : TypeInfo) (hu : P.underlying dT = some (.slice t)) (hq : P.info? t = some i) (hi : i.size = 2)
    (m p dLen sLen : Nat) (a : Addr) (cs : List Value) (hcs : cs.length = m * 2) (hm : Nat.min sLen dLen = m) (hsrc : ∀ j v, cs[j]? = some v → w.cell? (a.add j) = some v) (h1 : ∀ v ∈ cs, v.oneCell' = true) (hp : p ≤ n) (hcap : p + m ≤ cap) :
    ∃ W, (∀ ty dc sc, (Builtin.copy_ #[dT, dT] ty #[.slice (some ⟨g, p * 2, none⟩) dLen dc, .slice (some a) sLen sc]).run P w = .ok (goInt m) W) ∧
      W.ownsRow base t 2 (.slice (some ⟨g, 0, none⟩) (max n (p + m)) cap) (max n (p + m)) (xs.take (p * 2) ++ cs ++ xs.drop ((p + m) * 2)) ∧ w.grownBy W (some g) := by
  rcases h.2 with ⟨h0, _⟩ | ⟨g', cap', cur, h0, hb, hg, hnc, hcm, hsz, htk⟩
  · cases h0
  · injection h0 with h0 _ h2
    injection h0 with h0
    injection h0 with h0 _
    subst h0 h2
    have hlc : cur.toList.length = cap * 2 := by rw [Array.length_toList, hsz]
    refine ⟨w.setRow g (cur.toList.take (p * 2) ++ cs ++ cur.toList.drop (p * 2 + cs.length)).toArray, fun ty dc sc => ?_, ⟨?_, .inr ⟨g, cap, (cur.toList.take (p * 2) ++ cs ++ cur.toList.drop (p * 2 + cs.length)).toArray, rfl, hb, setRow_heap w g cur _ _ _ hg, by omega, hcm, ?_, ?_⟩⟩, ⟨rfl, rfl, rfl, by simp, fun k _ hk => setRow_other w g k _ (fun e => hk (by simp [e]))⟩⟩
    · have h9 := run_copy_rowk (P := P) w dT dT ty t g (p * 2) dLen dc a sLen sc 2 cur t cs i hu hq hi hg (by rw [hm, hcs]) hsrc (by rw [hcs, hsz]; omega) h1
      rw [hm] at h9
      exact h9
    · have hxl := h.1
      simp only [List.length_append, List.length_take, List.length_drop, hcs, hxl]
      rcases Nat.le_total n (p + m) with h3 | h3
      · rw [Nat.max_eq_right h3]; omega
      · rw [Nat.max_eq_left h3]; omega
    · simp only [List.size_toArray, List.length_append, List.length_take, List.length_drop, hcs, hlc]
      omega
    · have h8 := take_lay (A := cur.toList) (cs := cs) (p := p) (m := m) (n := n) (by omega) hcs hp (by omega) (by omega) (by omega)
      rw [htk] at h8
      exact h8
theorem row_append {w : World} {base g n cap : Nat} {t : TypeId} {xs : List Value} (h : w.ownsRow base t 2 (.slice (some ⟨g, 0, none⟩) n cap) n xs) (dT : TypeId) (i : TypeInfo) (hu : P.underlying dT = some (.slice t)) (hq : P.info? t = some i) (hi : i.size = 2)
    (a : Addr) (cs : List Value) (hcs : cs.length = 2) (hsrc : ∀ j v, cs[j]? = some v → w.cell? (a.add j) = some v) (h1 : ∀ v ∈ cs, v.oneCell' = true) (hcap : n + 1 ≤ cap) :
    ∃ W, (∀ ty c, (Builtin.append_ #[dT, dT] ty #[.slice (some ⟨g, 0, none⟩) n cap, .slice (some a) 1 c]).run P w = .ok (.slice (some ⟨g, 0, none⟩) (n + 1) cap) W) ∧
      W.ownsRow base t 2 (.slice (some ⟨g, 0, none⟩) (n + 1) cap) (n + 1) (xs ++ cs) ∧ w.grownBy W (some g) := by
  rcases h.2 with ⟨h0, _⟩ | ⟨g', cap', cur, h0, hb, hg, hnc, hcm, hsz, htk⟩
  · cases h0
  · injection h0 with h0 _ h2
    injection h0 with h0
    injection h0 with h0 _
    subst h0 h2
    have hlc : cur.toList.length = cap * 2 := by rw [Array.length_toList, hsz]
    have hxl := h.1
    refine ⟨w.setRow g (cur.toList.take (n * 2) ++ cs ++ cur.toList.drop (n * 2 + cs.length)).toArray, fun ty c => ?_, ⟨by rw [List.length_append, hxl, hcs]; omega, .inr ⟨g, cap, (cur.toList.take (n * 2) ++ cs ++ cur.toList.drop (n * 2 + cs.length)).toArray, rfl, hb, setRow_heap w g cur _ _ _ hg, by omega, hcm, ?_, ?_⟩⟩, ⟨rfl, rfl, rfl, by simp, fun k _ hk => setRow_other w g k _ (fun e => hk (by simp [e]))⟩⟩
    · have h9 := run_append_room (P := P) w dT ty t i hu hq g n cap cur hg a 1 c cs (by rw [hi, hcs]) hsrc h1 (by omega) (by rw [hi, hcs, hsz]; omega)
      rw [hi] at h9
      exact h9
    · simp only [List.size_toArray, List.length_append, List.length_take, List.length_drop, hcs, hlc]
      omega
    · show List.take ((n + 1) * 2) (List.take (n * 2) cur.toList ++ cs ++ List.drop (n * 2 + cs.length) cur.toList) = _
      rw [htk, List.take_append_of_le_length (by rw [List.length_append, hxl, hcs]; omega), List.take_of_length_le (by rw [List.length_append, hxl, hcs]; omega)]
end
theorem cellsTh_len (hs : List Th) : (cellsG thL hs).length = hs.length * 2 := cellsG_len thL_len hs
theorem cellsTh_take : ∀ (hs : List Th) (i : Nat), (cellsG thL hs).take (i * 2) = cellsG thL (hs.take i) := by
  intro hs
  induction hs with
  | nil => intro i; simp [cellsG]
  | cons x r ih =>
    intro i
    cases i with
    | zero => simp [cellsG]
    | succ i =>
      rw [List.take_succ_cons, show (i + 1) * 2 = i * 2 + 1 + 1 by omega]
      show Value.string x.tag :: Value.slice x.A x.n x.c :: (cellsG thL r).take (i * 2) = Value.string x.tag :: Value.slice x.A x.n x.c :: cellsG thL (r.take i)
      rw [ih]
theorem cellsTh_drop : ∀ (hs : List Th) (i : Nat), (cellsG thL hs).drop (i * 2) = cellsG thL (hs.drop i) := by
  intro hs
  induction hs with
  | nil => intro i; simp [cellsG]
  | cons x r ih =>
    intro i
    cases i with
    | zero => simp
    | succ i =>
      rw [List.drop_succ_cons, show (i + 1) * 2 = i * 2 + 1 + 1 by omega]
      show (cellsG thL r).drop (i * 2) = cellsG thL (r.drop i)
      exact ih i
/-- Tables behind a change of their row alone. -/
theorem OwnT.make {w w' : World} {base : Nat} {v v' : Value} {hs hs' : List Th} {TT' : List Tb} (ho : OwnG 36 2 thL w base v hs) (hl : hs'.length = TT'.length) (h9 : OwnG 36 2 thL w' base v' hs') (hg : w.grownBy w' v.ownBlock)
    (hK : ∀ (j : Nat) h T, hs'[j]? = some h → TT'[j]? = some T → h.tag = T.tag ∧ OwnB w base (.slice h.A h.n h.c) T.data) : OwnT w' base v' TT' := by
  have hne : 36 ≠ 5 := by decide
  exact ⟨hs', hl, h9, fun j x T h1 h2 => ⟨(hK j x T h1 h2).1, OwnG.grown (hK j x T h1 h2).2 hg (fun q hq e => own_apart ho (hK j x T h1 h2).2 hne e hq)⟩⟩
/-- append of one table to an own row with room. -/
theorem wpList_append_tr {w : World} {ops : Array Oper} {rest : List Oper} {o : Oper} {a : Act} {Q : Exit → Act → World → Prop} (hgd : o.guard = none) (s x : Operand)
    (ho : o.op = .call { callee := .builtin .append, args := #[s, x], argTypes := #[22, 22] }) (base g n cap : Nat) (TT : List Tb) (hs : a.eval s = .slice (some ⟨g, 0, none⟩) n cap) (hown : OwnT w base (.slice (some ⟨g, 0, none⟩) n cap) TT) (hcap : n + 1 ≤ cap)
    (b c : Nat) (T : ByteArray) (A' : Option Addr) (n' c' : Nat) (L : List Int) (hx : a.eval x = .slice (some ⟨b, 0, none⟩) 1 c) (h0 : w.cell? ⟨b, 0, none⟩ = some (.string T)) (h1 : w.cell? ⟨b, 1, none⟩ = some (.slice A' n' c')) (hrow : OwnB w base (.slice A' n' c') L)
    (h : ∀ w', OwnT w' base (.slice (some ⟨g, 0, none⟩) (n + 1) cap) (TT ++ [⟨T, L⟩]) → w.grownBy w' (some g) → wpList Try.prog ops Q rest (a.put o.dst (.slice (some ⟨g, 0, none⟩) (n + 1) cap)) w') :
    wpList Try.prog ops Q (o :: rest) a w := by
  obtain ⟨hh, hl, ho', hK⟩ := hown
  have hn : n = hh.length := by
    obtain ⟨A2, c2, e, _, _⟩ := ho'.rd (by omega) thL_len
    injection e
  obtain ⟨i, z, hi, hz, hsz, hby, _⟩ := infoTb
  have ho2 := ho'
  unfold OwnG at ho2
  rw [← hn] at ho2
  obtain ⟨W, hr, hW, hg⟩ := row_append (P := Try.prog) ho2 22 i Try.underlying22 hi hsz ⟨b, 0, none⟩ [.string T, .slice A' n' c'] rfl (fun j v hj => by
    rw [add_plain]
    rcases j with _ | _ | j
    · simp only [List.getElem?_cons_zero, Option.some.injEq] at hj; subst hj; exact h0
    · simp only [Nat.zero_add, List.getElem?_cons_succ, List.getElem?_cons_zero, Option.some.injEq] at hj; subst hj; exact h1
    · simp at hj) (by intro v hv; simp only [List.mem_cons, List.not_mem_nil, or_false] at hv; rcases hv with rfl | rfl <;> rfl) hcap
  have hW' : OwnG 36 2 thL W base (.slice (some ⟨g, 0, none⟩) (n + 1) cap) (hh ++ [⟨T, A', n', c'⟩]) := by
    unfold OwnG
    rw [cellsG_append, List.length_append, ← hn]
    exact hW
  refine wpList_plain hgd fun K hK' => ?_
  unfold Oper.wp execOp
  simp only [ho, resolve, invoke, builtin, Sem.run_bind, Sem.run_pure, Result.andThen_ok, List.map_toArray, List.map_cons, List.map_nil, hs, hx, hr]
  exact hK' _ _ (h _ (OwnT.snoc hrow hl ho' hK hW' hg) hg)
end Go.Proofs.Ytpplnapfpoloiaa

/-
  Layer 4: slices.Insert of one table into an own row with room.
-/
namespace Go.Proofs.Ytpplnapfpoloiaa
open Go.RowKit Go.ChangeShapes Go.WideShapes Go.Deep
set_option linter.unusedVariables false
set_option linter.unusedSimpArgs false

theorem oper_copy_run {w : World} {o : Oper} {a : Act} {K : Act → World → Prop} {Q : Exit → Act → World → Prop} (d s : Operand) (t t' : TypeId)
    (ho : o.op = .call { callee := .builtin .copy, args := #[d, s], argTypes := #[t, t'] }) (v u : Value) (hd : a.eval d = v) (hs : a.eval s = u) {v' : Value} {w' : World}
    (hr : (Builtin.copy_ #[t, t'] o.type #[v, u]).run Try.prog w = .ok v' w') (h : K (a.put o.dst v') w') : Oper.wp Try.prog o a w K Q := by
  unfold Oper.wp execOp
  simp only [ho, resolve, invoke, builtin, Sem.run_bind, Sem.run_pure, Result.andThen_ok, List.map_toArray, List.map_cons, List.map_nil, hd, hs, hr]
  exact h
theorem wpList_copy_run {w : World} {ops : Array Oper} {rest : List Oper} {o : Oper} {a : Act} {Q : Exit → Act → World → Prop} (hgd : o.guard = none) (d s : Operand) (t t' : TypeId)
    (ho : o.op = .call { callee := .builtin .copy, args := #[d, s], argTypes := #[t, t'] }) (v u : Value) (hd : a.eval d = v) (hs : a.eval s = u) {v' : Value} {w' : World}
    (hr : (Builtin.copy_ #[t, t'] o.type #[v, u]).run Try.prog w = .ok v' w') (h : wpList Try.prog ops Q rest (a.put o.dst v') w') : wpList Try.prog ops Q (o :: rest) a w :=
  wpList_plain hgd fun _ hK => oper_copy_run d s t t' ho v u hd hs hr (hK _ _ h)
theorem wanted_plain {ops : Array Oper} {o : Oper} {a : Act} {w : World} {K : Act → World → Prop} {Q : Exit → Act → World → Prop} {E : Prop} (hg : o.guard = none) (h : Oper.wp Try.prog o a w K Q) : if Region.wanted o (yielded ops a.tmps) = true then Oper.wp Try.prog o a w K Q else E := by
  have hw : Region.wanted o (yielded ops a.tmps) = true := by simp [Region.wanted, hg]
  rw [if_pos hw]
  exact h
theorem tb_overlaps {w : World} {b g off la ca lb cb : Nat} {tA tB : TypeId} {cA cB : Array Value} (hne : b ≠ g) (hA : w.heap[b]? = some (.cells cA tA (0, 0))) (hB : w.heap[g]? = some (.cells cB tB (0, 0))) (hk : cB.size ≠ 0) :
    (callFunc 97 #[.slice (some ⟨b, 0, none⟩) la ca, .slice (some ⟨g, off, none⟩) lb cb]).run Try.prog w = .ok (.value (.bool false)) w := by
  obtain ⟨i, z, hi, hz, hsz, _, _⟩ := infoTb
  rw [run_callFunc_extern Try.func97 (by kernel_rfl) (by kernel_rfl) (by kernel_rfl) (e := Extern.SlicesOverlaps.overlaps #[22, 22] #[4]) (by kernel_rfl),
    Lib.run_overlaps_apart w 22 4 36 Try.underlying22 2 (fun w => by simp [sizeOf, typeInfo, hi, hsz]) ⟨b, 0, none⟩ ⟨g, off, none⟩ la ca lb cb hne tA tB cA.size cB.size (by simp [World.shape?, hA]) (by simp [World.shape?, hB]) hk (by simp [World.frozen?, hA]) (by simp [World.frozen?, hA])]
  rfl
theorem set_take_ins {α : Type} (L : List α) (i : Nat) (x : α) (h : i < L.length) : (L.take (i + 1) ++ L.drop i).take i ++ [x] ++ (L.take (i + 1) ++ L.drop i).drop (i + 1) = L.take i ++ x :: L.drop i := by
  have h1 : (L.take (i + 1)).length = i + 1 := by rw [List.length_take]; omega
  rw [List.take_append_of_le_length (by omega), List.take_take, Nat.min_eq_left (by omega), List.drop_append, List.drop_eq_nil_of_le (by omega), List.nil_append, h1]
  simp
theorem ins_rows {w : World} {base : Nat} {hs : List Th} {TT : List Tb} (hl : hs.length = TT.length) {i : Nat} (hi : i ≤ TT.length) {s : ByteArray} {A' : Option Addr} {n' c' : Nat} {L : List Int} (hrow : OwnB w base (.slice A' n' c') L)
    (hK : ∀ (j : Nat) h T, hs[j]? = some h → TT[j]? = some T → h.tag = T.tag ∧ OwnB w base (.slice h.A h.n h.c) T.data) :
    ∀ (j : Nat) h T, (hs.take i ++ (⟨s, A', n', c'⟩ : Th) :: hs.drop i)[j]? = some h → (TT.take i ++ (⟨s, L⟩ : Tb) :: TT.drop i)[j]? = some T → h.tag = T.tag ∧ OwnB w base (.slice h.A h.n h.c) T.data := by
  intro j h T h1 h2
  have hl1 : (hs.take i).length = i := by rw [List.length_take]; omega
  have hl2 : (TT.take i).length = i := by rw [List.length_take]; omega
  rcases Nat.lt_trichotomy j i with hj | rfl | hj
  · rw [List.getElem?_append_left (by omega), List.getElem?_take_of_lt hj] at h1 h2
    exact hK j h T h1 h2
  · rw [List.getElem?_append_right (by omega), hl1, Nat.sub_self] at h1
    rw [List.getElem?_append_right (by omega), hl2, Nat.sub_self] at h2
    simp only [List.getElem?_cons_zero, Option.some.injEq] at h1 h2
    subst h1 h2
    exact ⟨rfl, hrow⟩
  · obtain ⟨d, rfl⟩ : ∃ d, j = i + (d + 1) := ⟨j - i - 1, by omega⟩
    rw [List.getElem?_append_right (by omega), hl1, show i + (d + 1) - i = d + 1 by omega, List.getElem?_cons_succ, List.getElem?_drop] at h1
    rw [List.getElem?_append_right (by omega), hl2, show i + (d + 1) - i = d + 1 by omega, List.getElem?_cons_succ, List.getElem?_drop] at h2
    exact hK _ h T h1 h2
theorem cellsTh_one (hs : List Th) : ∀ v ∈ cellsG thL hs, v.oneCell' = true := by
  intro u hu
  unfold cellsG at hu
  rw [List.mem_flatMap] at hu
  obtain ⟨x, _, hx⟩ := hu
  exact thL_one x u hx
set_option maxRecDepth 1000000 in
set_option maxHeartbeats 16000000 in
theorem sf_insert {w : World} (base g N cap i : Nat) (TT : List Tb) (s : ByteArray) (A' : Option Addr) (n' c' : Nat) (L : List Int) (b c : Nat) (ty : TypeId) (hO : OwnT w base (.slice (some ⟨g, 0, none⟩) N cap) TT) (hN : N = TT.length) (hi : i ≤ N) (hcap : N + 1 ≤ cap) (hcm : cap ≤ 1000000)
    (hb : w.heap[b]? = some (.cells #[.string s, .slice A' n' c'] ty (0, 0))) (hne : b ≠ g) (hrow : OwnB w base (.slice A' n' c') L) :
    Calls Try.prog 68 #[.slice (some ⟨g, 0, none⟩) N cap, .int .i64 (i : Int), .slice (some ⟨b, 0, none⟩) 1 c] w fun e w' => e = .returned (.slice (some ⟨g, 0, none⟩) (N + 1) cap) ∧ OwnT w' base (.slice (some ⟨g, 0, none⟩) (N + 1) cap) (TT.take i ++ ⟨s, L⟩ :: TT.drop i) ∧ w.grownBy w' (some g) := by
  have b0 : w.cell? ⟨b, 0, none⟩ = some (.string s) := by simp [World.cell?, hb]
  have b1 : w.cell? ⟨b, 1, none⟩ = some (.slice A' n' c') := by simp [World.cell?, hb]
  have hcI : (cap : Int) ≤ 1000000 := by omega
  have hNc : (N : Int) + 1 ≤ (cap : Int) := by omega
  have m1 : IntKind.i64.wrap ((N : Int) + 1) = (N : Int) + 1 := by rw [IntKind.wrap_i64]; omega
  by_cases hiN : i = N
  · subst hiN
    have HO := Lib.hid hO
    have HR := Lib.hid hrow
    have HN := Lib.hid hN
    clear hO hrow hN hb
    go_enter Try.func68, Try.ntmps68
    go_wp2_with (at_builtin; refine wpList_append_tr rfl _ _ rfl base g i cap TT rfl HO.out hcap b c s A' n' c' L rfl b0 b1 HR.out ?_; intro w2 hO2 hg2)
    go_ret
    refine ⟨by first | rfl | simp, ?_, hg2⟩
    rw [HN.out, List.take_length, List.drop_length]
    rw [HN.out] at hO2
    exact hO2
  · have hin : i < N := by omega
    have hinI : ¬ (i : Int) = (N : Int) := by omega
    have hiI : (i : Int) < (N : Int) := by omega
    have m2 : IntKind.i64.wrap ((i : Int) + 1) = (i : Int) + 1 := by rw [IntKind.wrap_i64]; omega
    obtain ⟨hh, hl, ho, hK⟩ := hO
    obtain ⟨inf, z, hinf, hz, hsz, hby, _⟩ := infoTb
    have ho2 : w.drew.ownsRow base 36 2 (.slice (some ⟨g, 0, none⟩) N cap) N (cellsG thL hh) := by
      have := ho
      unfold OwnG at this
      rw [hl, ← hN] at this
      exact this
    obtain ⟨W1, hr1, hW1, hg1⟩ := row_copy (P := Try.prog) ho2 22 inf Try.underlying22 hinf hsz (N - i) (i + 1) (N - i) (N + 1 - i) ⟨g, i * 2, none⟩ ((cellsG thL hh).drop (i * 2)) (by rw [List.length_drop, cellsTh_len]; omega) (by
        exact Nat.min_eq_right (by omega)) (fun j v hj => by
        rw [List.getElem?_drop] at hj
        have h9 := World.ownsRow.cells ho2 (g := g) rfl _ _ hj
        rw [add_plain] at h9 ⊢
        rw [Nat.zero_add] at h9
        exact h9) (fun v hv => cellsTh_one hh v (List.mem_of_mem_drop hv)) (by omega) (by omega)
    have e1 : max N (i + 1 + (N - i)) = N + 1 := by rw [Nat.max_eq_right (by omega)]; omega
    have e2 : (cellsG thL hh).drop ((i + 1 + (N - i)) * 2) = [] := List.drop_eq_nil_of_le (by rw [cellsTh_len]; omega)
    have hhl : (hh.take (i + 1) ++ hh.drop i).length = N + 1 := by rw [List.length_append, List.length_take, List.length_drop]; omega
    rw [e1, e2, List.append_nil, cellsTh_take, cellsTh_drop, ← cellsG_append] at hW1
    have hne1 : ∀ o, W1.cell? ⟨b, o, none⟩ = w.cell? ⟨b, o, none⟩ := fun o => by
      have h9 := hg1.block b (by rw [show w.drew.heap.size = w.heap.size from rfl]; exact (Array.getElem?_eq_some_iff.1 hb).1) (by simpa using hne)
      simp only [World.cell?, h9]
      rfl
    obtain ⟨W2, hr2, hW2, hg2⟩ := row_copy (P := Try.prog) hW1 22 inf Try.underlying22 hinf hsz 1 i (N + 1 - i) 1 ⟨b, 0, none⟩ [.string s, .slice A' n' c'] rfl (Nat.min_eq_left (by omega)) (fun j v hj => by
        rw [add_plain, hne1]
        rcases j with _ | _ | j
        · simp only [List.getElem?_cons_zero, Option.some.injEq] at hj; subst hj; exact b0
        · simp only [Nat.zero_add, List.getElem?_cons_succ, List.getElem?_cons_zero, Option.some.injEq] at hj; subst hj; exact b1
        · simp at hj) (by intro v hv; simp only [List.mem_cons, List.not_mem_nil, or_false] at hv; rcases hv with rfl | rfl <;> rfl) (by omega) (by omega)
    have hG2 : OwnG 36 2 thL W2 base (.slice (some ⟨g, 0, none⟩) (N + 1) cap) (hh.take i ++ (⟨s, A', n', c'⟩ : Th) :: hh.drop i) := by
      rw [Nat.max_eq_left (by omega), cellsTh_take, cellsTh_drop, show [Value.string s, .slice A' n' c'] = cellsG thL [(⟨s, A', n', c'⟩ : Th)] from rfl, ← cellsG_append, ← cellsG_append, set_take_ins hh i _ (by omega)] at hW2
      unfold OwnG
      rw [show (hh.take i ++ (⟨s, A', n', c'⟩ : Th) :: hh.drop i).length = N + 1 by rw [List.length_append, List.length_cons, List.length_take, List.length_drop]; omega]
      exact hW2
    have hgA : w.grownBy W2 (some g) := ⟨hg2.os.trans hg1.os, hg2.tape.trans hg1.tape, hg2.output.trans hg1.output, Nat.le_trans hg1.size hg2.size, fun k hk hkg => (hg2.block k (Nat.lt_of_lt_of_le hk hg1.size) hkg).trans (hg1.block k hk hkg)⟩
    have HE := Lib.hid (OwnT.make ho (TT' := TT.take i ++ (⟨s, L⟩ : Tb) :: TT.drop i) (by simp only [List.length_append, List.length_cons, List.length_take, List.length_drop]; omega) hG2 hgA (ins_rows hl (by omega) hrow hK))
    have HGA := Lib.hid hgA
    obtain ⟨cB, hcB⟩ : ∃ cB, w.heap[g]? = some (.cells cB 36 (0, 0)) ∧ cB.size ≠ 0 := by
      rcases ho2.2 with ⟨h0, _⟩ | ⟨g', cap', cur, h0, _, hgg, _, _, hs2, _⟩
      · cases h0
      · injection h0 with h0 _ h2
        injection h0 with h0
        injection h0 with h0 _
        subst h0 h2
        exact ⟨cur, hgg, by omega⟩
    have hov : ∀ off la ca lb cb, (callFunc 97 #[.slice (some ⟨b, 0, none⟩) la ca, .slice (some ⟨g, off, none⟩) lb cb]).run Try.prog w = .ok (.value (.bool false)) w := fun off la ca lb cb => tb_overlaps hne hb hcB.1 hcB.2
    clear hG2 hgA hW1 hW2 hg1 hg2 ho ho2 hK hrow hne1 hl hhl e1 e2 hcB hb hinf hz hsz hby hN
    have hb1 : (0 : Int) ≤ (i : Int) + 1 := by omega
    have htn : ((i : Int) + 1).toNat = i + 1 := by omega
    have hin2 : i ≤ N := by omega
    have hc1 : ¬ cap = i + 1 := by omega
    have hc2 : ¬ cap = i := by omega
    have hc3 : (i : Int) + 1 ≤ (N : Int) + 1 := by omega
    have hc4 : (i : Int) ≤ (N : Int) + 1 := by omega
    have hc5 : (N : Int) + 1 ≤ (cap : Int) := by omega
    have hc6 : ¬ (cap : Int) < (N : Int) + 1 := by omega
    go_enter Try.func68, Try.ntmps68
    go_wp2_with (simp only [hov])
    go_region_law (refine wanted_plain rfl (oper_copy_run (.tmp 73) (.tmp 76) 22 22 rfl _ _ (by simp [Act.eval, Act.put]) (by simp [Act.eval, Act.put]) (hr1 _ _ _) ?_))
    go_wp2_with (at_builtin; refine wpList_copy_run rfl _ _ 22 22 rfl _ _ rfl rfl (hr2 _ _ _) ?_)
    go_ret
    exact ⟨by first | rfl | simp, HE.out, HGA.out⟩
end Go.Proofs.Ytpplnapfpoloiaa

/-
  Layer 4: With, walked.
-/
namespace Go.Proofs.Ytpplnapfpoloiaa
open Go.RowKit Go.ChangeShapes Go.WideShapes Go.Deep
set_option linter.unusedVariables false
set_option linter.unusedSimpArgs false

/-- Tables with one more, or another one in its place. -/
def withT (TT : List Tb) (T : Tb) : List Tb :=
  if 0 ≤ ixF (eqT T.tag) 0 TT then TT.set (ixF (eqT T.tag) 0 TT).toNat T
  else if 0 ≤ ixF (gtT T.tag) 0 TT then TT.take (ixF (gtT T.tag) 0 TT).toNat ++ T :: TT.drop (ixF (gtT T.tag) 0 TT).toNat
  else TT ++ [T]
theorem ixF_range (p : Tb → Bool) (TT : List Tb) : ixF p 0 TT = -1 ∨ ∃ j : Nat, ixF p 0 TT = (j : Int) ∧ j < TT.length := by
  rcases ixF_cases p TT 0 with ⟨h, _⟩ | ⟨j, T, h1, h2, _, _⟩
  · exact .inl h
  · refine .inr ⟨j, by rw [h1, Nat.zero_add], ?_⟩
    rcases Nat.lt_or_ge j TT.length with h | h
    · exact h
    · rw [List.getElem?_eq_none h] at h2; cases h2
theorem withT_at {TT : List Tb} {T : Tb} {j : Nat} (h : ixF (eqT T.tag) 0 TT = (j : Int)) : withT TT T = TT.set j T := by
  unfold withT; rw [if_pos (by omega), h, Int.toNat_natCast]
theorem withT_ins {TT : List Tb} {T : Tb} {j : Nat} (h : ixF (eqT T.tag) 0 TT = -1) (h2 : ixF (gtT T.tag) 0 TT = (j : Int)) : withT TT T = TT.take j ++ T :: TT.drop j := by
  unfold withT; rw [if_neg (by omega), if_pos (by omega), h2, Int.toNat_natCast]
theorem withT_end {TT : List Tb} {T : Tb} (h : ixF (eqT T.tag) 0 TT = -1) (h2 : ixF (gtT T.tag) 0 TT = -1) : withT TT T = TT.take TT.length ++ T :: TT.drop TT.length := by
  unfold withT; rw [if_neg (by omega), if_neg (by omega), List.take_length, List.drop_length]
/-- One table of an own row is another one. -/
theorem OwnT.put {w : World} {base g n c : Nat} {TT : List Tb} (h : OwnT w base (.slice (some ⟨g, 0, none⟩) n c) TT) {j : Nat} (hj : j < TT.length) {s : ByteArray} {A' : Option Addr} {n' c' : Nat} {L : List Int} (hrow : OwnB w base (.slice A' n' c') L) :
    OwnT ((w.setCell ⟨g, j * 2, none⟩ (.string s)).setCell ⟨g, j * 2 + 1, none⟩ (.slice A' n' c')) base (.slice (some ⟨g, 0, none⟩) n c) (TT.set j ⟨s, L⟩) := by
  obtain ⟨hs, hl, ho, hK⟩ := h
  have hg : w.grownBy ((w.setCell ⟨g, j * 2, none⟩ (.string s)).setCell ⟨g, j * 2 + 1, none⟩ (.slice A' n' c')) (some g) := by
    refine ⟨rfl, rfl, rfl, by simp, fun k _ hk => ?_⟩
    rw [heap_setCell_other _ ⟨g, j * 2 + 1, none⟩ k _ (fun e => hk (by simp [e])), heap_setCell_other _ ⟨g, j * 2, none⟩ k _ (fun e => hk (by simp [e]))]
  refine OwnT.make ho (by rw [List.length_set, List.length_set]; exact hl) (own_thset ho (by omega) ⟨s, A', n', c'⟩) hg (fun i x T h1 h2 => ?_)
  by_cases hij : j = i
  · subst hij
    rw [List.getElem?_set_self (by omega)] at h1 h2
    injection h1 with h1
    injection h2 with h2
    subst h1 h2
    exact ⟨rfl, hrow⟩
  · rw [List.getElem?_set_ne hij] at h1 h2
    exact hK i x T h1 h2
theorem OwnT.len {w : World} {base n c : Nat} {A : Option Addr} {TT : List Tb} (h : OwnT w base (.slice A n c) TT) : n = TT.length := by
  obtain ⟨A', c', e, _, _⟩ := h.rd
  injection e
theorem OwnT.lt {w : World} {base g n c : Nat} {TT : List Tb} (h : OwnT w base (.slice (some ⟨g, 0, none⟩) n c) TT) : base ≤ g ∧ g < w.heap.size := by
  obtain ⟨hs, _, ho, _⟩ := h
  exact ho.lt (g := g) rfl
theorem Two.c0 {w : World} {b : Nat} {u v : Value} (h : Two w b u v) : w.cell? ⟨b, 0, none⟩ = some u := by obtain ⟨h1, _⟩ := h; exact h1
theorem Two.blt {w : World} {b : Nat} {u v : Value} (h : Two w b u v) : b < w.heap.size := by obtain ⟨_, _, _, _, h1⟩ := h; exact h1
theorem tb_cells {w : World} {base g n c : Nat} {TT : List Tb} (h : OwnT w base (.slice (some ⟨g, 0, none⟩) n c) TT) {j : Nat} (hj : j < TT.length) : (∃ x, w.cell? ⟨g, j * 2, none⟩ = some (.string x)) ∧ (∃ A m k, w.cell? ⟨g, j * 2 + 1, none⟩ = some (.slice A m k)) ∧ w.frozen? ⟨g, j * 2, none⟩ = false ∧ w.frozen? ⟨g, j * 2 + 1, none⟩ = false ∧ g < w.heap.size := by
  obtain ⟨hs, hl, ho, _⟩ := h
  exact own_thcell ho (by omega)
theorem two_grown {w w' : World} {b : Nat} {u v : Value} {row : Option Nat} (h : Two w b u v) (hg : w.grownBy w' row) (hb : row ≠ some b) : Two w' b u v := by
  have e := hg.block b h.2.2.2.2 (fun x => hb x.symm)
  have hc : ∀ o, w'.cell? ⟨b, o, none⟩ = w.cell? ⟨b, o, none⟩ := fun o => by simp only [World.cell?, e]
  have hf : ∀ o, w'.frozen? ⟨b, o, none⟩ = w.frozen? ⟨b, o, none⟩ := fun o => by simp only [World.frozen?, e]
  exact ⟨(hc 0).trans h.1, (hc 1).trans h.2.1, (hf 0).trans h.2.2.1, (hf 1).trans h.2.2.2.1, Nat.lt_of_lt_of_le h.2.2.2.2 hg.size⟩
set_option maxRecDepth 1000000 in
set_option maxHeartbeats 16000000 in
theorem sf_with (A : Option Addr) (N c : Nat) (TT : List Tb) (s : ByteArray) (D : Option Addr) (n d : Nat) (L : List Int) (w : World) (h : RdTL w w.heap.size A TT) (hN : N = TT.length) (hf : FewT TT) (hL : N ≤ 100000) (hr : RdB w w.heap.size D L) (hn : n = L.length) (hn2 : L.length ≤ 1000000) :
    Calls Try.prog 26 #[.slice A N c, .agg #[.string s, .slice D n d]] w fun e w' => ∃ v, e = .returned v ∧ OwnT w' w.heap.size v (withT TT ⟨s, L⟩) ∧ Since w w' := by
  have hmf : ∀ (fn : Fn) (first cap : Array Value) (w : World), (Instr.makeFunc fn first cap).run Try.prog w = .ok (.func fn first cap) w := fun _ _ _ _ => rfl
  obtain ⟨R, hR⟩ : ∃ R, R = withT TT ⟨s, L⟩ := ⟨_, rfl⟩
  rw [← hR]
  have HR := Lib.hid hR
  have HN := Lib.hid hN
  have HF := Lib.hid hf
  have hNI : (N : Int) ≤ 100000 := by omega
  have hRT := Lib.hid (fun (w2 : World) (h2 : Since w w2) => h.on h2)
  have HFR := Lib.hid (fun (w2 : World) (h2 : Since w w2) => sf_fresh s D n d L w2 (hr.on h2) hn (by omega))
  have HI1 := Lib.hid (fun (b : Nat) (w2 : World) (h2 : Since w w2) (hb : w2.cell? ⟨b, 0, none⟩ = some (.string s)) (hbw : b < w2.heap.size) => sf_index_with1 s A N c TT b w2 (h.on h2) hN (by simp only [maxLen]; omega) hb hbw)
  have HI2 := Lib.hid (fun (b : Nat) (w2 : World) (h2 : Since w w2) (hb : w2.cell? ⟨b, 0, none⟩ = some (.string s)) (hbw : b < w2.heap.size) => sf_index_with2 s A N c TT b w2 (h.on h2) hN (by simp only [maxLen]; omega) hb hbw)
  have m1 : IntKind.i64.wrap ((N : Int) + 1) = ((N + 1 : Nat) : Int) := by rw [IntKind.wrap_i64]; omega
  obtain ⟨inf, z, hinf, hz, hsz, hby, _⟩ := infoTb
  clear h hr hn hR hN hf hn2
  go_enter Try.func26, Try.ntmps26
  go_wp2_with (at_make; refine wpList_make_own _ rfl _ _ _ rfl w.heap.size 36 inf z 2 Try.underlying22 hinf hz hsz .i64 .i64 _ (N + 1) rfl rfl rfl (by rw [hby]; omega) (by simp only [maxLen]; omega) (by simp) ?_; intro w1 hO1 hg1)
  have hS0 : Since (w.alloc (.cells #[.string s, .slice D n d] 36)) w1 := since_grown (Since.refl _) hg1 (fun q hq => by cases hq)
  have hT1 := (two_new w w.heap.size rfl (.string s) (.slice D n d) 36).since hS0
  have hS1 : Since w w1 := ((Since.refl w).alloc _).trans hS0
  have hO2 : OwnT w1 w.heap.size (.slice (some ⟨(w.alloc (.cells #[.string s, .slice D n d] 36)).heap.size, 0, none⟩) 0 (N + 1)) (TT.take 0) := ⟨[], rfl, hO1, fun j x T h1 _ => by simp at h1⟩
  rw [show (w.alloc (.cells #[.string s, .slice D n d] 36)).heap.size = w.heap.size + 1 by simp] at hO2
  obtain ⟨g, hg⟩ : ∃ g, g = w.heap.size + 1 := ⟨_, rfl⟩
  have hgw : w.heap.size ≤ g := by omega
  obtain ⟨b0, hb0⟩ : ∃ b0, b0 = w.heap.size := ⟨_, rfl⟩
  have hgb : b0 < g := by omega
  rw [← hg] at hO2 ⊢
  rw [← hb0] at hT1 ⊢
  have HGW := Lib.hid hgw
  clear hO1 hg1 hS0 hg hb0 hgw hinf hz hsz hby
  go_loopw [5, 16] (fun v y wr => ∃ (j : Nat), j ≤ N ∧ y = .int .i64 (j : Int) ∧ v = .slice (some ⟨g, 0, none⟩) j (N + 1) ∧ OwnT wr w.heap.size (.slice (some ⟨g, 0, none⟩) j (N + 1)) (TT.take j) ∧ Two wr b0 (.string s) (.slice D n d) ∧ Since w wr) (fun _ y _ => N - (intOf y).toNat)
  case atStart => exact ⟨0, by omega, rfl, rfl, hO2, hT1, hS1⟩
  case round =>
    obtain ⟨j, hj, rfl, rfl, hO, hT, hS⟩ := hrel
    clear hO2 hT1 hS1
    by_cases hjn : j < N
    · have hjn' : (j : Int) < N := by omega
      have hjL : j < TT.length := by rw [← HN.out]; exact hjn
      have hTj : TT[j]? = some TT[j] := List.getElem?_eq_getElem hjL
      have hml := (HF.out.2 _ (List.mem_of_getElem? hTj)).1
      have HTK := Lib.hid (show TT.take (j + 1) = TT.take j ++ [TT[j]] from List.take_succ_eq_append_getElem hjL)
      obtain ⟨b, o, A', c', rfl, hb, hc1, hc2, hK⟩ := (hRT.out wr hS).row hTj
      have HFJ := Lib.hid (fun (w2 : World) (h2 : Since wr w2) => sf_fresh TT[j].tag A' TT[j].data.length c' TT[j].data w2 (hK.on h2) rfl (by omega))
      generalize TT[j] = T at *
      obtain ⟨u, M⟩ := T
      simp only at hc1 hc2 HTK HFJ
      generalize TT.take j = LJ at *
      obtain ⟨l, hl⟩ : ∃ l, l = M.length := ⟨_, rfl⟩
      rw [← hl] at hc2 HFJ
      clear hTj hK hjL hml hl
      go_wp2_with (first | (go_at_call 64; (with_reducible refine (HFJ.out _ ((Since.refl wr).alloc _)).mono ?_); rintro e w4 ⟨A4, c4, rfl, hO4, hS4⟩; have hX4 : Since wr w4 := ((Since.refl wr).alloc _).trans hS4; have hO5 := hO.since hX4; have hO6 := OwnG.low (base' := w.heap.size) hO4 (by have := hS.below.size; simp; omega); have hT4 := hT.since hX4; have hS5 := hS.trans hX4) | (at_builtin; refine wpList_append_tr rfl _ _ rfl w.heap.size g j (N + 1) LJ rfl (hO5.since ((Since.refl w4).alloc _)) (by omega) _ _ u A4 l c4 M rfl (by rw [World.cell?_alloc_new]; rfl) (by rw [World.cell?_alloc_new]; rfl) (OwnG.alloc hO6 _) ?_; intro w6 hO7 hg7))
      have hne : ¬ some b0 = some g := by simpa using (by omega : ¬ b0 = g)
      have hT7 : Two w6 b0 (.string s) (.slice D n d) := two_grown (hT4.since ((Since.refl w4).alloc _)) hg7 (fun e => hne e.symm)
      have hS7 : Since w w6 := since_grown (hS5.alloc _) hg7 (fun q hq => by injection hq with hq; subst hq; exact HGW.out)
      go_roundw
      case rel => exact ⟨j + 1, by omega, by first | rfl | go_num | simp, by rfl, by rw [HTK.out]; exact hO7, hT7, hS7⟩
      case measure => simp [intOf]; omega
    · obtain rfl : N = j := by omega
      have hjn' : ¬ (N : Int) < (N : Int) := by omega
      have e : TT.take N = TT := by rw [HN.out]; exact List.take_length
      rw [e] at hO
      clear e
      have hgl := hO.lt.2
      rcases ixF_range (eqT s) TT with h1 | ⟨k, h1, hk⟩
      · rcases ixF_range (gtT s) TT with h2 | ⟨k, h2, hk⟩

        · have HE := Lib.hid (show R = TT.take N ++ ⟨s, L⟩ :: TT.drop N by rw [HR.out]; first | exact withT_ins (T := ⟨s, L⟩) h1 h2 | (rw [HN.out]; exact withT_end (T := ⟨s, L⟩) h1 h2))
          have hkN : N ≤ N := by have := HN.out; omega
          have d1 : ¬ (0 : Int) ≤ -1 := by omega
          have d2 : ¬ (N : Int) < 0 := by omega
          rw [h1] at HI1
          rw [h2] at HI2
          have HII := Lib.hid (fun (w2 : World) (b : Nat) (A4 : Option Addr) (c4 : Nat) (hO : OwnT w2 w.heap.size (.slice (some ⟨g, 0, none⟩) N (N + 1)) TT) (hb : w2.heap[b]? = some (.cells #[.string s, .slice A4 n c4] 36 (0, 0))) (hne : b ≠ g) (hrow : OwnB w2 w.heap.size (.slice A4 n c4) L) => sf_insert w.heap.size g N (N + 1) N TT s A4 n c4 L b 1 36 hO HN.out hkN (by omega) (by omega) hb hne hrow)
          clear h1 h2 hkN
          try clear hk
          go_wp2_with (first | (go_at_call 65; (with_reducible refine (HI1.out b0 wr hS hT.c0 hT.blt).mono ?_); rintro e w2 ⟨rfl, hS2⟩; have hX2 := hS.trans hS2; have hT2 := hT.since hS2; have hO2 := hO.since hS2) | (go_at_call 65; (with_reducible refine (HI2.out b0 _ hX2 hT2.c0 hT2.blt).mono ?_); rintro e w3 ⟨rfl, hS3⟩; have hX3 := hX2.trans hS3; have hT3 := hT2.since hS3; have hO3 := hO2.since hS3; obtain ⟨q1, q2, q3, q4, q5⟩ := id hT3) | (go_at_call 64; (with_reducible refine (HFR.out _ hX3).mono ?_); rintro e w4 ⟨A4, c4, rfl, hO4, hS4⟩; have hX4 := hX3.trans hS4; have hO5 := hO3.since hS4; have hO6 := OwnG.low (base' := w.heap.size) hO4 hX3.below.size) | (go_at_call 68; (with_reducible refine (HII.out _ _ A4 c4 (hO5.since ((Since.refl w4).alloc _)) (heap_alloc_new w4 _) (by have := hO5.lt; omega) (OwnG.alloc hO6 _)).mono ?_); rintro e w5 ⟨rfl, hO7, hg7⟩; have hX7 := since_grown (hX4.alloc _) hg7 (fun q hq => by injection hq with hq; subst hq; exact HGW.out)))
          go_ret
          rw [HE.out]
          exact ⟨_, rfl, hO7, hX7⟩

        · have HE := Lib.hid (show R = TT.take k ++ ⟨s, L⟩ :: TT.drop k by rw [HR.out]; first | exact withT_ins (T := ⟨s, L⟩) h1 h2 | (rw [HN.out]; exact withT_end (T := ⟨s, L⟩) h1 h2))
          have hkN : k ≤ N := by have := HN.out; omega
          have d1 : ¬ (0 : Int) ≤ -1 := by omega
          have d2 : ¬ (k : Int) < 0 := by omega
          rw [h1] at HI1
          rw [h2] at HI2
          have HII := Lib.hid (fun (w2 : World) (b : Nat) (A4 : Option Addr) (c4 : Nat) (hO : OwnT w2 w.heap.size (.slice (some ⟨g, 0, none⟩) N (N + 1)) TT) (hb : w2.heap[b]? = some (.cells #[.string s, .slice A4 n c4] 36 (0, 0))) (hne : b ≠ g) (hrow : OwnB w2 w.heap.size (.slice A4 n c4) L) => sf_insert w.heap.size g N (N + 1) k TT s A4 n c4 L b 1 36 hO HN.out hkN (by omega) (by omega) hb hne hrow)
          clear h1 h2 hkN
          try clear hk
          go_wp2_with (first | (go_at_call 65; (with_reducible refine (HI1.out b0 wr hS hT.c0 hT.blt).mono ?_); rintro e w2 ⟨rfl, hS2⟩; have hX2 := hS.trans hS2; have hT2 := hT.since hS2; have hO2 := hO.since hS2) | (go_at_call 65; (with_reducible refine (HI2.out b0 _ hX2 hT2.c0 hT2.blt).mono ?_); rintro e w3 ⟨rfl, hS3⟩; have hX3 := hX2.trans hS3; have hT3 := hT2.since hS3; have hO3 := hO2.since hS3; obtain ⟨q1, q2, q3, q4, q5⟩ := id hT3) | (go_at_call 64; (with_reducible refine (HFR.out _ hX3).mono ?_); rintro e w4 ⟨A4, c4, rfl, hO4, hS4⟩; have hX4 := hX3.trans hS4; have hO5 := hO3.since hS4; have hO6 := OwnG.low (base' := w.heap.size) hO4 hX3.below.size) | (go_at_call 68; (with_reducible refine (HII.out _ _ A4 c4 (hO5.since ((Since.refl w4).alloc _)) (heap_alloc_new w4 _) (by have := hO5.lt; omega) (OwnG.alloc hO6 _)).mono ?_); rintro e w5 ⟨rfl, hO7, hg7⟩; have hX7 := since_grown (hX4.alloc _) hg7 (fun q hq => by injection hq with hq; subst hq; exact HGW.out)))
          go_ret
          rw [HE.out]
          exact ⟨_, rfl, hO7, hX7⟩

      · have HE := Lib.hid (show R = TT.set k ⟨s, L⟩ by rw [HR.out]; exact withT_at (T := ⟨s, L⟩) h1)
        have hkN : (k : Int) < (N : Int) := by have := HN.out; omega
        have d1 : (0 : Int) ≤ (k : Int) := by omega
        have HK := Lib.hid hk
        rw [h1] at HI1
        clear h1 hk
        go_upto_region 9 with (go_at_call 65; (with_reducible refine (HI1.out b0 wr hS hT.c0 hT.blt).mono ?_); rintro e w2 ⟨rfl, hS2⟩; have hX2 := hS.trans hS2; have hT2 := hT.since hS2; have hO2 := hO.since hS2)
        obtain ⟨q1, q2, q3, q4, q5⟩ := id hT2
        have HC := Lib.hid (fun (w3 : World) (h3 : OwnT w3 w.heap.size (.slice (some ⟨g, 0, none⟩) N (N + 1)) TT) => tb_cells h3 HK.out)
        go_wp2_with (go_at_call 64; (with_reducible refine (HFR.out _ hX2).mono ?_); rintro e w4 ⟨A4, c4, rfl, hO4, hS4⟩; have hX4 := hX2.trans hS4; have hO5 := hO2.since hS4; have hO6 := OwnG.low (base' := w.heap.size) hO4 hX2.below.size; obtain ⟨⟨x1, r1⟩, ⟨y1, y2, y3, r2⟩, r3, r4, r5⟩ := HC.out _ hO5)
        go_ret
        rw [HE.out]
        exact ⟨_, rfl, hO5.put HK.out hO6, (hX4.setCell (p := ⟨g, k * 2, none⟩) HGW.out _).setCell (p := ⟨g, k * 2 + 1, none⟩) HGW.out _⟩
end Go.Proofs.Ytpplnapfpoloiaa

/-
  Layer 4: a file in one of whose tables a byte is another one isn't read.
-/
namespace Go.Proofs.Ytpplnapfpoloiaa
open Go.RowKit Go.ChangeShapes Go.WideShapes Go.Deep
set_option linter.unusedVariables false
set_option linter.unusedSimpArgs false

theorem cutL_set_out (L : List Int) (q p m : Nat) (y : Int) (h : q < p ∨ p + m ≤ q) : cutL (L.set q y) p m = cutL L p m := by
  unfold cutL
  apply List.ext_getElem?
  intro j
  rcases Nat.lt_or_ge j m with hj | hj
  · rw [List.getElem?_take_of_lt hj, List.getElem?_take_of_lt hj, List.getElem?_drop, List.getElem?_drop, List.getElem?_set_ne (by omega)]
  · rw [List.getElem?_eq_none (by rw [List.length_take]; omega), List.getElem?_eq_none (by rw [List.length_take]; omega)]
theorem cutL_set_in (L : List Int) (p m n : Nat) (y : Int) (h : n < m) : cutL (L.set (p + n) y) p m = (cutL L p m).set n y := by
  unfold cutL
  rw [List.drop_set, if_neg (by omega), show p + n - p = n by omega, List.take_set]
theorem rd1_congr {L M : List Int} {a : Nat} {last : ByteArray} (hl : L.length = M.length) (h16 : cutL L a 16 = cutL M a 16)
    (hd : cutL L (if (numAt (fnL M) (a + 12) 4).toNat = 0 then 0 else (numAt (fnL M) (a + 8) 4).toNat) (numAt (fnL M) (a + 12) 4).toNat = cutL M (if (numAt (fnL M) (a + 12) 4).toNat = 0 then 0 else (numAt (fnL M) (a + 8) 4).toNat) (numAt (fnL M) (a + 12) 4).toNat) : rd1 L a last = rd1 M a last := by
  have e0 : cutL L a 4 = cutL M a 4 := by
    have h1 := cutL_cut L a 16 0 4 (by omega)
    have h2 := cutL_cut M a 16 0 4 (by omega)
    rw [Nat.add_zero] at h1 h2
    rw [← h1, ← h2, h16]
  have e : ∀ k, k + 4 ≤ 16 → numAt (fnL L) (a + k) 4 = numAt (fnL M) (a + k) 4 := fun k hk => by
    rw [numAt_cut L, numAt_cut M, ← cutL_cut L a 16 k 4 hk, ← cutL_cut M a 16 k 4 hk, h16]
  unfold rd1
  rw [e0, e 4 (by omega), e 8 (by omega), e 12 (by omega), hl]
  simp only
  rw [hd]
theorem blank_set {s : ByteArray} {L : List Int} {n : Nat} {y : Int} (hn : n < L.length) (h : ¬ (adjT ⟨s, L⟩ = true ∧ 8 ≤ n ∧ n < 12)) :
    blank4 ⟨s, L.set n y⟩ = (blank4 ⟨s, L⟩).set n y ∧ fnL (blank4 ⟨s, L⟩) n = fnL L n := by
  have ha : adjT ⟨s, L.set n y⟩ = adjT ⟨s, L⟩ := adjT_len (List.length_set ..)
  by_cases hA : adjT ⟨s, L⟩ = true
  · have h12 := adjT_12 hA
    have hb : ∀ M, adjT ⟨s, M⟩ = true → blank4 ⟨s, M⟩ = M.take 8 ++ ([0, 0, 0, 0] ++ M.drop 12) := fun M hM => by unfold blank4; rw [if_pos hM]
    rw [hb _ (ha.trans hA), hb _ hA]
    simp only at h12
    rcases Nat.lt_or_ge n 8 with h8 | h8
    · constructor
      · rw [List.take_set, List.drop_set, if_pos (by omega), List.set_append_left _ _ (by rw [List.length_take]; omega)]
      · unfold fnL
        rw [List.getD_eq_getElem?_getD, List.getD_eq_getElem?_getD, List.getElem?_append_left (by rw [List.length_take]; omega), List.getElem?_take_of_lt h8]
    · have h12' : 12 ≤ n := by
        rcases Nat.lt_or_ge n 12 with h3 | h3
        · exact absurd ⟨hA, h8, h3⟩ h
        · exact h3
      have hlt : (L.take 8).length = 8 := by rw [List.length_take]; omega
      constructor
      · rw [List.take_set, List.set_eq_of_length_le (by rw [hlt]; omega), List.drop_set, if_neg (by omega), List.set_append_right _ _ (by rw [hlt]; omega), hlt,
          List.set_append_right _ _ (by simp only [List.length_cons, List.length_nil]; omega)]
        simp only [List.length_cons, List.length_nil]
        congr 3
      · unfold fnL
        rw [List.getD_eq_getElem?_getD, List.getD_eq_getElem?_getD, List.getElem?_append_right (by rw [hlt]; omega), hlt, List.getElem?_append_right (by simp only [List.length_cons, List.length_nil]; omega)]
        simp only [List.length_cons, List.length_nil]
        rw [List.getElem?_drop]
        congr 2
        omega
  · have hb : ∀ M, adjT ⟨s, M⟩ ≠ true → blank4 ⟨s, M⟩ = M := fun M hM => by unfold blank4; rw [if_neg hM]
    rw [hb _ (by rw [ha]; exact hA), hb _ hA]
    exact ⟨rfl, rfl⟩
/-- A byte of a table is another one. -/
def turn4 (TT : List Tb) (k : Nat) (v : Int) : List Int := (file4 TT).set k ((fnL (file4 TT) k + v) % 256)
theorem file4_nums {TT : List Tb} (h : right4 TT) {j : Nat} {T : Tb} (hj : TT[j]? = some T) : cutL (file4 TT) (12 + 16 * j) 4 = tagB T.tag ∧ numAt (fnL (file4 TT)) (12 + 16 * j + 4) 4 = sumI (blank4 T) ∧ numAt (fnL (file4 TT)) (12 + 16 * j + 8) 4 = (end4 (12 + 16 * TT.length) (TT.take j) : Int) ∧ numAt (fnL (file4 TT)) (12 + 16 * j + 12) 4 = (T.data.length : Int) := by
  have hen := file4_entry h hj
  have hT := h.2.2.2.1 j T hj
  obtain ⟨p0, p1, p2, p3⟩ := ent4_parts T (end4 (12 + 16 * TT.length) (TT.take j)) hT.1
  rw [← hen] at p0 p1 p2 p3
  rw [cutL_cut _ _ _ _ _ (by omega)] at p0 p1 p2 p3
  rw [Nat.add_zero] at p0
  have hst := end4_step (12 + 16 * TT.length) hj
  have hp := pad4_le T.data.length
  have hm := end4_take_le TT (12 + 16 * TT.length) (j + 1)
  have hsz := file4_len h
  have hs3 := h.2.2.1
  have hsum := sumI_range (blank4 T)
  unfold size4 at hsz hs3
  exact ⟨p0, by rw [numAt_cut, p1, num4_put]; omega, by rw [numAt_cut, p2, num4_put]; omega, by rw [numAt_cut, p3, num4_put]; omega⟩
/-- An entry ahead of the one whose table was turned. -/
theorem rd1_ahead {TT : List Tb} (h : right4 TT) {i j n : Nat} {T : Tb} {v : Int} (hj : TT[j]? = some T) (hij : j < i) {last : ByteArray} (hlast : Op.bytesLess last.toList T.tag.toList = true) (hil : i < TT.length) :
    rd1 (turn4 TT (end4 (12 + 16 * TT.length) (TT.take i) + n) v) (12 + 16 * j) last = (0, blankT T) := by
  rw [← rd1_file h hj hlast]
  obtain ⟨p0, p1, p2, p3⟩ := file4_nums h hj
  have hg := end4_ge (12 + 16 * TT.length) (TT.take i)
  have hst := end4_step (12 + 16 * TT.length) hj
  have hmo := end4_mono (12 + 16 * TT.length) TT (j + 1) i hij
  have hp := pad4_le T.data.length
  unfold turn4
  refine rd1_congr (List.length_set ..) (cutL_set_out _ _ _ _ _ (.inr (by omega))) ?_
  rw [p2, p3, Int.toNat_natCast, Int.toNat_natCast]
  refine cutL_set_out _ _ _ _ _ (.inr ?_)
  split <;> omega
/-- The entry of the table that was turned. -/
theorem rd1_turned {TT : List Tb} (h : right4 TT) (hb : ∀ T, T ∈ TT → Bytes T.data) (hbf : Bytes (file4 TT)) {i n : Nat} {T : Tb} {v : Int} (hi : TT[i]? = some T) (hn : n < T.data.length) (ha : ¬ (adjT T = true ∧ 8 ≤ n ∧ n < 12)) (hv : 1 ≤ v ∧ v ≤ 255) {last : ByteArray} (hlast : Op.bytesLess last.toList T.tag.toList = true) :
    (rd1 (turn4 TT (end4 (12 + 16 * TT.length) (TT.take i) + n) v) (12 + 16 * i) last).1 = 5 := by
  obtain ⟨p0, p1, p2, p3⟩ := file4_nums h hi
  have hT := h.2.2.2.1 i T hi
  have hg := end4_ge (12 + 16 * TT.length) (TT.take i)
  have hil : i < TT.length := by
    rcases Nat.lt_or_ge i TT.length with h2 | h2
    · exact h2
    · rw [List.getElem?_eq_none h2] at hi; cases hi
  have hst := end4_step (12 + 16 * TT.length) hi
  have hp := pad4_le T.data.length
  have hm := end4_take_le TT (12 + 16 * TT.length) (i + 1)
  have hsz := file4_len h
  unfold size4 at hsz
  have hdat := file4_data h hi
  generalize hP : end4 (12 + 16 * TT.length) (TT.take i) = P at *
  have hcl : (cutL (file4 TT) P T.data.length).length = T.data.length := cutL_len (by omega)
  have ha2 : adjT ⟨T.tag, cutL (file4 TT) P T.data.length⟩ = adjT T := adjT_len (s := T.tag) hcl
  have hbs := blank_set (s := T.tag) (L := cutL (file4 TT) P T.data.length) (n := n) (y := (fnL (file4 TT) (P + n) + v) % 256) (by omega) (by rw [ha2]; exact ha)
  have hG : cutL (turn4 TT (P + n) v) P T.data.length = (cutL (file4 TT) P T.data.length).set n ((fnL (file4 TT) (P + n) + v) % 256) := cutL_set_in _ _ _ _ _ hn
  have hfn : fnL (cutL (file4 TT) P T.data.length) n = fnL (file4 TT) (P + n) := cutL_get hn
  have hbl : (blank4 T).length = T.data.length := blank4_len T
  have e4 : ∀ k, k + 4 ≤ 16 → numAt (fnL (turn4 TT (P + n) v)) (12 + 16 * i + k) 4 = numAt (fnL (file4 TT)) (12 + 16 * i + k) 4 := fun k hk => by
    rw [numAt_cut, numAt_cut (file4 TT)]
    unfold turn4
    rw [cutL_set_out _ _ _ _ _ (.inr (by omega))]
  have e0 : cutL (turn4 TT (P + n) v) (12 + 16 * i) 4 = tagB T.tag := by
    unfold turn4
    rw [cutL_set_out _ _ _ _ _ (.inr (by omega)), p0]
  have hlen : (turn4 TT (P + n) v).length = (file4 TT).length := List.length_set ..
  have hne : sumI ((blank4 T).set n ((fnL (blank4 T) n + v) % 256)) ≠ sumI (blank4 T) := by
    unfold sumI
    rw [List.length_set]
    have hby := bytes_fn (bytes_blank (hb T (List.mem_of_getElem? hi))) n (by omega)
    refine accu_differs (i := n) (v := v) (fun j hj => ?_) (by omega) hby hv ?_
    · unfold fnL
      rw [List.getD_eq_getElem?_getD, List.getElem?_set_ne (by omega), List.getD_eq_getElem?_getD]
    · unfold fnL
      rw [List.getD_eq_getElem?_getD, List.getElem?_set_self (by omega)]
      rfl
  rw [hdat] at hbs
  rw [hfn] at hbs
  unfold rd1
  rw [e0, e4 4 (by omega), e4 8 (by omega), e4 12 (by omega), p1, p2, p3, hlen, strOf_tag]
  rw [if_neg (by rw [hlast, show TagG T.tag = true from decide_eq_true hT]; simp)]
  simp only [Int.toNat_natCast]
  rw [if_neg (show ¬ T.data.length = 0 by omega), if_neg (by omega), hG, hbs.1, ← hbs.2, if_neg hne]
theorem rd4_turned_go {TT : List Tb} (h : right4 TT) (hb : ∀ T, T ∈ TT → Bytes T.data) (hbf : Bytes (file4 TT)) {i n : Nat} {T : Tb} {v : Int} (hi : TT[i]? = some T) (hn : n < T.data.length) (ha : ¬ (adjT T = true ∧ 8 ≤ n ∧ n < 12)) (hv : 1 ≤ v ∧ v ≤ 255) :
    ∀ (k j : Nat) (last : ByteArray), j + k = TT.length → j ≤ i → (∀ T, TT[j]? = some T → Op.bytesLess last.toList T.tag.toList = true) → rd4Go (turn4 TT (end4 (12 + 16 * TT.length) (TT.take i) + n) v) k j last = (5, []) := by
  have hil : i < TT.length := by
    rcases Nat.lt_or_ge i TT.length with h2 | h2
    · exact h2
    · rw [List.getElem?_eq_none h2] at hi; cases hi
  intro k
  induction k with
  | zero => intro j last hjk hji _; omega
  | succ k ih =>
    intro j last hjk hji hl
    have hjl : j < TT.length := by omega
    have hj : TT[j]? = some TT[j] := List.getElem?_eq_getElem hjl
    rcases Nat.lt_or_ge j i with hlt | hge
    · have h1 := rd1_ahead (n := n) (v := v) h hj hlt (hl _ hj) hil
      have h2 := ih (j + 1) TT[j].tag (by omega) (by omega) (fun U hU => h.2.2.2.2 j _ U hj hU)
      have h3 : contR (rd4Go (turn4 TT (end4 (12 + 16 * TT.length) (TT.take i) + n) v) (k + 1) j last) [] = _ := rd4_next (by rw [h1])
      rw [h1] at h3
      have h4 : (blankT TT[j]).tag = TT[j].tag := rfl
      simp only [h4, h2] at h3
      rw [rd4_start, h3]
      rfl
    · obtain rfl : j = i := by omega
      have h1 := rd1_turned h hb hbf hi hn ha hv (hl _ hi)
      have h3 : contR (rd4Go (turn4 TT (end4 (12 + 16 * TT.length) (TT.take j) + n) v) (k + 1) j last) [] = _ := rd4_stop (by rw [h1]; omega)
      rw [rd4_start, h3, h1]
theorem file4_head {TT : List Tb} (h : right4 TT) : numAt (fnL (file4 TT)) 0 4 = 65536 ∧ numAt (fnL (file4 TT)) 4 2 = (TT.length : Int) := by
  have hN2 := h.2.1
  have ha := adj4_ok TT (-1) (12 + 16 * TT.length)
  have hd : cutL (file4 TT) 0 12 = dir4 TT.length := by
    rw [file4_cut h 0 12 (by omega)]
    unfold raw4
    rw [cutL_app_left (by rw [List.length_append, dir4_len]; omega), cutL_app_left (by rw [dir4_len]; omega), ← dir4_len TT.length, cutL_all]
  have h4 := putL_len 65536 4
  have h2 := putL_len (TT.length : Int) 2
  have q1 : cutL (file4 TT) 0 4 = putL 65536 4 := by
    have := cutL_cut (file4 TT) 0 12 0 4 (by omega)
    rw [← this, hd]
    unfold dir4
    generalize putL 65536 4 = A at *
    rw [cutL_app_left (by omega), ← h4, cutL_all]
  have q2 : cutL (file4 TT) 4 2 = putL (TT.length : Int) 2 := by
    have := cutL_cut (file4 TT) 0 12 4 2 (by omega)
    rw [Nat.zero_add] at this
    rw [← this, hd]
    unfold dir4
    generalize putL 65536 4 = A at *
    generalize putL (TT.length : Int) 2 = B at *
    rw [show 4 = A.length + 0 by omega, cutL_app_right, cutL_app_left (by omega), ← h2, cutL_all]
  exact ⟨by rw [numAt_cut, q1, num4_put]; rfl, by rw [numAt_cut, q2, num2_put]; omega⟩
theorem empty_less {s : ByteArray} (h : s.size = 4) : Op.bytesLess ByteArray.empty.toList s.toList = true := by
  cases hb : s.toList with
  | nil =>
    exfalso
    have hx : s.data.toList = s.toList := (ByteArray.toList_eq _).symm
    have : s.data.toList.length = 4 := by rw [Array.length_toList]; exact h
    rw [hx, hb] at this
    cases this
  | cons a l => rw [ByteArray.toList_eq]; rfl
theorem bytes_filez {TT : List Tb} (h : ∀ T, T ∈ TT → Bytes T.data) : Bytes (file4 TT) := by
  have hr := bytes_raw h
  unfold file4
  split
  · exact hr
  · unfold layL
    exact bytes_app (fun v hv => hr v (List.mem_of_mem_take hv)) (bytes_app (bytes_put _ _) (fun v hv => hr v (List.mem_of_mem_drop hv)))
/-- A byte of a table turned: ErrSum. -/
theorem rd4_turned {TT : List Tb} (h : right4 TT) (hb : ∀ T, T ∈ TT → Bytes T.data) (hbf : Bytes (file4 TT)) {i n : Nat} {T : Tb} {v : Int} (hi : TT[i]? = some T) (hn : n < T.data.length) (ha : ¬ (adjT T = true ∧ 8 ≤ n ∧ n < 12)) (hv : 1 ≤ v ∧ v ≤ 255) :
    rd4 (turn4 TT (end4 (12 + 16 * TT.length) (TT.take i) + n) v) = (5, []) := by
  have hsz := file4_len h
  have hs3 := h.2.2.1
  have hN1 := h.1
  have hN2 := h.2.1
  have hg : 12 + 16 * TT.length ≤ size4 TT := end4_ge _ _
  have hgi := end4_ge (12 + 16 * TT.length) (TT.take i)
  have hfr := rd4_file h
  have hlen : (turn4 TT (end4 (12 + 16 * TT.length) (TT.take i) + n) v).length = (file4 TT).length := List.length_set ..
  have e4 : ∀ p k, p + k ≤ 12 → numAt (fnL (turn4 TT (end4 (12 + 16 * TT.length) (TT.take i) + n) v)) p k = numAt (fnL (file4 TT)) p k := fun p k hk => by
    rw [numAt_cut, numAt_cut (file4 TT)]
    unfold turn4
    rw [cutL_set_out _ _ _ _ _ (.inr (by omega))]
  obtain ⟨n1, n2⟩ := file4_head h
  have hT0 := rd4_turned_go h hb hbf hi hn ha hv TT.length 0 ByteArray.empty (by omega) (by omega) (fun T hT => empty_less (h.2.2.2.1 0 T hT).1)
  unfold rd4
  rw [hlen, if_neg (by omega), if_neg (by omega), e4 0 4 (by omega), e4 4 2 (by omega), n1, n2, if_neg (by omega), Int.toNat_natCast, if_neg (by omega), hT0]
end Go.Proofs.Ytpplnapfpoloiaa

/-
  Layer 4: a whole file's sum; the law SfntMagic, walked.
-/
namespace Go.Proofs.Ytpplnapfpoloiaa
open Go.RowKit Go.ChangeShapes Go.WideShapes Go.Deep
set_option linter.unusedVariables false
set_option linter.unusedSimpArgs false

theorem withT_lenK (TT : List Tb) (T : Tb) : 1 ≤ (withT TT T).length ∧ (withT TT T).length ≤ TT.length + 1 := by
  unfold withT
  split
  · rcases ixF_range (eqT T.tag) TT with h | ⟨j, h, hj⟩
    · omega
    · rw [List.length_set]; omega
  · split <;> simp only [List.length_append, List.length_cons, List.length_take, List.length_drop, List.length_nil] <;> omega
theorem mem_withK {TT : List Tb} {T U : Tb} (h : U ∈ withT TT T) : U ∈ TT ∨ U = T := by
  unfold withT at h
  split at h
  · rcases List.mem_or_eq_of_mem_set h with h1 | h1
    · exact .inl h1
    · exact .inr h1
  · split at h
    · rw [List.mem_append, List.mem_cons] at h
      rcases h with h1 | h1 | h1
      · exact .inl (List.mem_of_mem_take h1)
      · exact .inr h1
      · exact .inl (List.mem_of_mem_drop h1)
    · rw [List.mem_append, List.mem_singleton] at h
      exact h
theorem withT_has (TT : List Tb) (T : Tb) : T ∈ withT TT T := by
  unfold withT
  split
  · rcases ixF_range (eqT T.tag) TT with h | ⟨j, h, hj⟩
    · omega
    · rw [h, Int.toNat_natCast]
      exact List.mem_iff_getElem?.2 ⟨j, List.getElem?_set_self hj⟩
  · split <;> simp
theorem end4_mod (TT : List Tb) (a : Nat) (h : a % 4 = 0) : end4 a TT % 4 = 0 := by
  induction TT generalizing a with
  | nil => simpa [end4] using h
  | cons T r ih =>
    have e : end4 a (T :: r) = end4 (a + pad4 T.data.length) r := by unfold end4; rw [List.map_cons, List.sum_cons, Nat.add_assoc]
    rw [e]
    have := pad4_le T.data.length
    exact ih _ (by omega)
theorem adj4_ge : ∀ (TT : List Tb) (x : Int) (a : Nat), (0 ≤ x ∨ ∃ T, T ∈ TT ∧ adjT T = true) → 0 ≤ adj4 x a TT := by
  intro TT
  induction TT with
  | nil =>
    intro x a h
    rcases h with h | ⟨T, hT, _⟩
    · exact h
    · cases hT
  | cons U r ih =>
    intro x a h
    unfold adj4
    apply ih
    by_cases hU : adjT U = true
    · rw [if_pos hU]; left; omega
    · rw [if_neg hU]
      rcases h with h | ⟨T, hT, hA⟩
      · exact .inl h
      · right
        rcases List.mem_cons.1 hT with rfl | h1
        · exact absurd hA hU
        · exact ⟨T, h1, hA⟩
theorem file4_words {TT : List Tb} (h : right4 TT) : (file4 TT).length % 4 = 0 := by
  rw [file4_len h]; exact end4_mod TT _ (by omega)
theorem mid_at {R : List Int} {q m : Nat} {z : Nat → Int} (hR : R.length = q * 4 + 4 + m) {F : Nat → Int} (h : ∀ j, j < R.length → F j = if j < q * 4 then fnL R j else if j < q * 4 + 4 then z (j - q * 4) else fnL R j) : accu 0 F R.length = accu 0 (mid q (fnL R) z (fun j => fnL R (q * 4 + 4 + j))) (q * 4 + 4 + m) := by
  rw [← hR]
  refine accu_congr (fun j hj => ?_)
  rw [h j hj]
  unfold mid catG
  by_cases h1 : j < q * 4
  · rw [if_pos h1, if_pos (by omega), if_pos h1]
  · rw [if_neg h1]
    by_cases h2 : j < q * 4 + 4
    · rw [if_pos h2, if_pos h2, if_neg h1]
    · rw [if_neg h2, if_neg h2]
      congr 1; omega
/-- A file with an adjustment: its sum. -/
theorem file4_magic {TT : List Tb} (h : right4 TT) (hA : ∃ T, T ∈ TT ∧ adjT T = true) : sumI (file4 TT) = 2981146554 := by
  have hs : ∀ T, T ∈ TT → T.tag.size = 4 := fun T hT => by
    obtain ⟨j, hj⟩ := List.mem_iff_getElem?.1 hT
    exact (h.2.2.2.1 j T hj).1
  have hl := raw4_len hs
  have hge := adj4_ge TT (-1) (12 + 16 * TT.length) (.inr hA)
  have hok := adj4_ok TT (-1) (12 + 16 * TT.length)
  rcases adj4_at TT (-1) (12 + 16 * TT.length) with ha | ⟨k, T, hk, hT, ha⟩
  · omega
  · have hmod := end4_mod (TT.take k) (12 + 16 * TT.length) (by omega)
    have hst := end4_step (12 + 16 * TT.length) hk
    have hp := pad4_le T.data.length
    have h12 := adjT_12 hT
    have hm := end4_take_le TT (12 + 16 * TT.length) (k + 1)
    have hdat := raw4_data h hk
    unfold size4 at hl
    have hf : file4 TT = layL (raw4 TT) (adj4 (-1) (12 + 16 * TT.length) TT).toNat (putL ((2981146554 - sumI (raw4 TT)) % 4294967296) 4) := by unfold file4; rw [if_neg (by omega)]
    rw [hf, ha]
    generalize hE : end4 (12 + 16 * TT.length) (TT.take k) = E at *
    obtain ⟨q, hq⟩ : ∃ q, E + 8 = q * 4 := ⟨(E + 8) / 4, by omega⟩
    have hpq : ((E : Int) + 8).toNat = q * 4 := by omega
    rw [hpq]
    obtain ⟨m, hm2⟩ : ∃ m, (raw4 TT).length = q * 4 + 4 + m := ⟨(raw4 TT).length - (q * 4 + 4), by omega⟩
    have hz : ∀ j, q * 4 ≤ j → j < q * 4 + 4 → fnL (raw4 TT) j = 0 := fun j h1 h2 => by
      obtain ⟨i, rfl⟩ : ∃ i, j = E + (8 + i) := ⟨j - E - 8, by omega⟩
      have h3 : fnL (cutL (raw4 TT) E T.data.length) (8 + i) = fnL (raw4 TT) (E + (8 + i)) := cutL_get (by omega)
      rw [← h3, hdat]
      unfold blank4
      rw [if_pos hT]
      have h8 : (T.data.take 8).length = 8 := by rw [List.length_take]; omega
      unfold fnL
      rw [List.getD_eq_getElem?_getD, List.getElem?_append_right (by omega), h8, show 8 + i - 8 = i by omega]
      have hi : i = 0 ∨ i = 1 ∨ i = 2 ∨ i = 3 := by omega
      rcases hi with rfl | rfl | rfl | rfl <;> rfl
    generalize raw4 TT = R at *
    have e1 : sumI R = accu 0 (mid q (fnL R) (fun _ => 0) (fun j => fnL R (q * 4 + 4 + j))) (q * 4 + 4 + m) := mid_at hm2 (fun j hj => by
      by_cases h1 : j < q * 4
      · rw [if_pos h1]
      · rw [if_neg h1]
        by_cases h2 : j < q * 4 + 4
        · rw [if_pos h2, hz j (by omega) h2]
        · rw [if_neg h2])
    obtain ⟨X, hX⟩ : ∃ X, X = (2981146554 - sumI R) % 4294967296 := ⟨_, rfl⟩
    rw [← hX]
    have hpl := putL_len X 4
    have hll : (layL R (q * 4) (putL X 4)).length = R.length := layL_len R _ _ (by omega)
    have e2 : sumI (layL R (q * 4) (putL X 4)) = accu 0 (mid q (fnL R) (byteOf X 4) (fun j => fnL R (q * 4 + 4 + j))) (q * 4 + 4 + m) := by
      unfold sumI
      rw [hll]
      refine mid_at hm2 (fun j hj => ?_)
      have ht : (R.take (q * 4)).length = q * 4 := by rw [List.length_take]; omega
      unfold layL fnL
      rw [List.getD_eq_getElem?_getD]
      by_cases h1 : j < q * 4
      · rw [if_pos h1, List.getElem?_append_left (by omega), List.getElem?_take_of_lt h1, List.getD_eq_getElem?_getD]
      · rw [if_neg h1, List.getElem?_append_right (by omega), ht]
        by_cases h2 : j < q * 4 + 4
        · rw [if_pos h2, List.getElem?_append_left (by omega)]
          unfold putL
          rw [List.getElem?_map, List.getElem?_range (by omega)]
          rfl
        · rw [if_neg h2, List.getElem?_append_right (by omega), hpl, List.getElem?_drop, List.getD_eq_getElem?_getD]
          congr 2
          omega
    rw [e2, hX, e1]
    exact adjusted
end Go.Proofs.Ytpplnapfpoloiaa

/-
  Layer 4: the law SfntMagic, walked.
-/
namespace Go.Proofs.Ytpplnapfpoloiaa
open Go.RowKit Go.ChangeShapes Go.WideShapes Go.Deep
set_option linter.unusedVariables false
set_option linter.unusedSimpArgs false

theorem adjT_head {L : List Int} (h : 12 ≤ L.length) : adjT ⟨(⟨#[104, 101, 97, 100]⟩ : ByteArray), L⟩ = true := by
  unfold adjT
  simp only
  rw [Bool.and_eq_true]
  exact ⟨by rw [ByteArray.toList_eq]; rfl, decide_eq_true h⟩
set_option maxRecDepth 1000000 in
set_option maxHeartbeats 32000000 in
theorem walk_sfntmagic (A : Option Addr) (c : Nat) (TT : List Tb) (D : Option Addr) (n d : Nat) (L : List Int) (w : World) (h : RdTL w w.heap.size A TT) (hn : TT.length ≤ maxLen) (hm : ∀ T, T ∈ TT → T.data.length ≤ maxLen ∧ T.tag.size ≤ maxLen) (hb : ∀ T, T ∈ TT → Bytes T.data) (hr : RdB w w.heap.size D L) (hL : n = L.length) (hn2 : L.length ≤ maxLen) (hbL : Bytes L) :
    Calls Try.prog 5 #[.slice A TT.length c, .slice D n d] w fun e w' => e = .returned (.bool true) ∧ Since w w' := by
  have HG := Lib.hid (fun (w2 : World) (h2 : Since w w2) => rf_greatT A c TT w2 (h.on h2) hn hm)
  have hnI : (n : Int) ≤ 9223372036854775807 := by simp only [maxLen] at hn2; omega
  unfold GreatTP at HG
  obtain ⟨N, hN⟩ : ∃ N, N = TT.length := ⟨_, rfl⟩
  rw [← hN] at HG ⊢
  by_cases hbig : 10000 < n
  · have d1 : decide ((10000 : Int) < (n : Int)) = true := by simp; omega
    clear h hn hm hr hL hn2 hbig hN hb hbL
    go_enter Try.func5, Try.ntmps5
    go_upto_region 5 with (first | (go_at_call 15; (with_reducible refine (alive04 _).mono ?_); rintro e w1 ⟨rfl, hA1⟩) | (go_at_call 16; (with_reducible refine (HG.out _ hA1).mono ?_); rintro e w2 ⟨g, rfl, hg, hS2⟩; have hA2 := hA1.trans hS2; clear hg HG; cases g))
    all_goals go_wp2_with fail
    all_goals go_ret
    all_goals exact ⟨by first | rfl | simp, hA2⟩
  have d1 : decide ((10000 : Int) < (n : Int)) = false := by simp; omega
  by_cases hsm : n < 12
  · have d2 : decide ((n : Int) < (12 : Int)) = true := by simp; omega
    clear h hn hm hr hL hn2 hbig hN hb hbL hsm
    go_enter Try.func5, Try.ntmps5
    go_upto_region 5 with (first | (go_at_call 15; (with_reducible refine (alive04 _).mono ?_); rintro e w1 ⟨rfl, hA1⟩) | (go_at_call 16; (with_reducible refine (HG.out _ hA1).mono ?_); rintro e w2 ⟨g, rfl, hg, hS2⟩; have hA2 := hA1.trans hS2; clear hg HG; cases g))
    all_goals go_wp2_with fail
    all_goals go_ret
    all_goals exact ⟨by first | rfl | simp, hA2⟩
  have d2 : decide ((n : Int) < (12 : Int)) = false := by simp; omega
  have hWP := Lib.hid (fun (w2 : World) (h2 : Since w w2) (hf : FewT TT) => sf_with A N c TT (⟨#[104, 101, 97, 100]⟩ : ByteArray) D n d L w2 (h.on h2) hN hf (by have := hf.1; omega) (hr.on h2) hL (by omega))
  have hwl := withT_lenK TT ⟨(⟨#[104, 101, 97, 100]⟩ : ByteArray), L⟩
  have hhas := withT_has TT ⟨(⟨#[104, 101, 97, 100]⟩ : ByteArray), L⟩
  have hFW := Lib.hid (fun (hg : NotGreatT false TT) => show FewT (withT TT ⟨(⟨#[104, 101, 97, 100]⟩ : ByteArray), L⟩) from by
    obtain ⟨g1, g2, _⟩ := hg rfl
    refine ⟨by omega, fun T hT => ?_⟩
    rcases mem_withK hT with h1 | rfl
    · have := g2 T h1; exact ⟨by omega, by have := this.2; simp only [maxLen]; omega⟩
    · exact ⟨by show L.length ≤ 1000000; omega, by show (⟨#[104, 101, 97, 100]⟩ : ByteArray).size ≤ maxLen; rw [show (⟨#[104, 101, 97, 100]⟩ : ByteArray).size = 4 from rfl]; simp only [maxLen]; omega⟩)
  have hBW : ∀ T, T ∈ withT TT ⟨(⟨#[104, 101, 97, 100]⟩ : ByteArray), L⟩ → Bytes T.data := fun T hT => by
    rcases mem_withK hT with h1 | rfl
    · exact hb T h1
    · exact hbL
  have hadj : ∃ T, T ∈ withT TT ⟨(⟨#[104, 101, 97, 100]⟩ : ByteArray), L⟩ ∧ adjT T = true := ⟨_, hhas, adjT_head (by omega)⟩
  generalize withT TT ⟨(⟨#[104, 101, 97, 100]⟩ : ByteArray), L⟩ = WT at *
  obtain ⟨NW, hNW⟩ : ∃ NW, NW = WT.length := ⟨_, rfl⟩
  have HWR := Lib.hid (fun (A5 : Option Addr) (c5 : Nat) (w2 : World) (h2 : RdTL w2 w2.heap.size A5 WT) (hf : FewT WT) => sf_write A5 NW c5 WT w2 h2 hNW hf hBW)
  have HNW := Lib.hid hNW
  by_cases hR : right4 WT
  · have hG := rightG_yes hR
    rw [hG] at HWR
    simp only [if_true, reduceIte] at HWR
    have hwords := file4_words hR
    have hmag := file4_magic hR hadj
    have hbf := bytes_filez hBW
    have hfl : (file4 WT).length ≤ 1048576 := by rw [file4_len hR]; exact hR.2.2.1
    have HSM := Lib.hid (fun (A6 : Option Addr) (c6 : Nat) (w2 : World) (h2 : RdB w2 w2.heap.size A6 (file4 WT)) => ref_sum A6 (file4 WT).length c6 (fnL (file4 WT)) w2 (rdb_rd h2) (bytes_fn hbf) (by omega))
    rw [show accu 0 (fnL (file4 WT)) (file4 WT).length = 2981146554 from hmag] at HSM
    obtain ⟨Z, hZ⟩ : ∃ Z, Z = (file4 WT).length := ⟨_, rfl⟩
    rw [← hZ] at HSM hwords hfl
    have HZ := Lib.hid hZ
    have hZI : (Z : Int) ≤ 1048576 := by omega
    have hz4 : Int.tmod (Z : Int) 4 = 0 := by
      have e : ((Z : Nat) : Int).tmod 4 = ((Z % 4 : Nat) : Int) := by rw [Int.tmod_eq_emod_of_nonneg (by omega)]; rfl
      rw [e, hwords]; rfl
    clear h hn hm hr hL hn2 hbig hsm hN hb hbL hwl hhas hBW hadj hNW hR hG hwords hmag hbf hfl hZ
    go_enter Try.func5, Try.ntmps5
    go_upto_region 5 with (first | (go_at_call 15; (with_reducible refine (alive04 _).mono ?_); rintro e w1 ⟨rfl, hA1⟩) | (go_at_call 16; (with_reducible refine (HG.out _ hA1).mono ?_); rintro e w2 ⟨g, rfl, hg, hS2⟩; have hA2 := hA1.trans hS2; have HNG := Lib.hid hg; clear hg HG; cases g))
    · have HF := Lib.hid (few_of HNG.out)
      have HF2 := Lib.hid (hFW.out HNG.out)
      clear HNG
      go_wp2_with (first | (go_at_call 26; (with_reducible refine (hWP.out _ hA2 HF.out).mono ?_); rintro e w3 ⟨v3, rfl, hO3, hS3⟩; have hA3 := hA2.trans hS3; obtain ⟨A3, c3, rfl, _, hr3⟩ := hO3.rd; rw [← HNW.out]) | (go_at_call 18; (with_reducible refine (HWR.out A3 c3 _ hr3 HF2.out).mono ?_); rintro e w4 ⟨v4, rfl, hO4, hS4⟩; have hA4 := hA3.trans hS4; obtain ⟨A4, c4, rfl, hc4, hr4⟩ := hO4.rd (by omega) byL_len; rw [← HZ.out]) | (go_at_call 27; (with_reducible refine (HSM.out A4 c4 _ hr4).mono ?_); rintro e w5 ⟨rfl, hw5⟩; have hw6 := hw5.symm; subst hw6; clear hw5))
      go_ret
      exact ⟨by first | rfl | simp, hA4⟩
    · go_wp2_with fail
      go_ret
      exact ⟨by first | rfl | simp, hA2⟩
  · have hG := rightG_no hR
    rw [hG] at HWR
    simp only [Bool.false_eq_true, if_false, reduceIte] at HWR
    clear h hn hm hr hL hn2 hbig hsm hN hb hbL hwl hhas hBW hadj hNW hR hG
    go_enter Try.func5, Try.ntmps5
    go_upto_region 5 with (first | (go_at_call 15; (with_reducible refine (alive04 _).mono ?_); rintro e w1 ⟨rfl, hA1⟩) | (go_at_call 16; (with_reducible refine (HG.out _ hA1).mono ?_); rintro e w2 ⟨g, rfl, hg, hS2⟩; have hA2 := hA1.trans hS2; have HNG := Lib.hid hg; clear hg HG; cases g))
    · have HF := Lib.hid (few_of HNG.out)
      have HF2 := Lib.hid (hFW.out HNG.out)
      clear HNG
      go_wp2_with (first | (go_at_call 26; (with_reducible refine (hWP.out _ hA2 HF.out).mono ?_); rintro e w3 ⟨v3, rfl, hO3, hS3⟩; have hA3 := hA2.trans hS3; obtain ⟨A3, c3, rfl, _, hr3⟩ := hO3.rd; rw [← HNW.out]) | (go_at_call 18; (with_reducible refine (HWR.out A3 c3 _ hr3 HF2.out).mono ?_); rintro e w4 ⟨v4, rfl, hO4, hS4⟩; have hA4 := hA3.trans hS4))
      go_ret
      exact ⟨by first | rfl | simp, hA4⟩
    · go_wp2_with fail
      go_ret
      exact ⟨by first | rfl | simp, hA2⟩
end Go.Proofs.Ytpplnapfpoloiaa
