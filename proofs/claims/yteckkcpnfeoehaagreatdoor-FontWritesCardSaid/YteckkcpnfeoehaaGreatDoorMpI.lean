/-
  Texts of this seat, put together: each with its own head.
-/
import Derived.Test.YteckkcpnfeoehaaGreatDoorMpG
import Derived.Shelf.Abstract
import Derived.Test.YteckkcpnfeoehaaGreatDoorMnAg
import Derived.Laws.CopyOwn
import Derived.Lib.Overlaps
import Derived.Laws.Externs

/-
  Layer 4: rows of bytes that a call has made, by their shape.
-/
namespace Go.Proofs.YteckkcpnfeoehaaGreatDoor
set_option maxRecDepth 100000
open Go.RowKit Go.ChangeShapes Go.WideShapes Go.Deep
set_option linter.unusedVariables false

end Go.Proofs.YteckkcpnfeoehaaGreatDoor

/-
  Layer 4: the first table that meets a condition; Find of the program and of the document; a table with data of its own.
-/
namespace Go.Proofs.YteckkcpnfeoehaaGreatDoor
set_option maxRecDepth 100000
open Go.RowKit Go.ChangeShapes Go.WideShapes Go.Deep
set_option linter.unusedVariables false
set_option linter.unusedSimpArgs false

/-- The place of the first table that meets a condition; -1. -/
def ixF (p : Tb → Bool) : Nat → List Tb → Int
  | _, [] => -1
  | i, T :: r => if p T = true then (i : Int) else ixF p (i + 1) r
theorem ixF_none {p : Tb → Bool} : ∀ (TT : List Tb) (i : Nat), (∀ T, T ∈ TT → p T = false) → ixF p i TT = -1 := by
  intro TT
  induction TT with
  | nil => intro i _; rfl
  | cons U r ih => intro i h; unfold ixF; rw [h U (by simp), if_neg (by simp)]; exact ih _ (fun T hT => h T (by simp [hT]))
theorem ixF_some {p : Tb → Bool} : ∀ (TT : List Tb) (i j : Nat) (T : Tb), TT[j]? = some T → p T = true → (∀ U, U ∈ TT.take j → p U = false) → ixF p i TT = ((i + j : Nat) : Int) := by
  intro TT
  induction TT with
  | nil => intro i j T h; simp at h
  | cons U r ih =>
    intro i j T h hp hl
    unfold ixF
    cases j with
    | zero =>
      simp only [List.getElem?_cons_zero, Option.some.injEq] at h
      subst h
      rw [if_pos hp]; rfl
    | succ j =>
      rw [List.getElem?_cons_succ] at h
      rw [hl U (by simp), if_neg (by simp), ih (i + 1) j T h hp (fun V hV => hl V (by simp [hV]))]
      congr 1; omega
theorem ixF_cases (p : Tb → Bool) : ∀ (TT : List Tb) (i : Nat), (ixF p i TT = -1 ∧ ∀ T, T ∈ TT → p T = false) ∨ ∃ (j : Nat) (T : Tb), ixF p i TT = ((i + j : Nat) : Int) ∧ TT[j]? = some T ∧ p T = true ∧ ∀ U, U ∈ TT.take j → p U = false := by
  intro TT
  induction TT with
  | nil => intro i; exact .inl ⟨rfl, fun T hT => by cases hT⟩
  | cons U r ih =>
    intro i
    unfold ixF
    cases hU : p U
    · rw [if_neg (by simp)]
      rcases ih (i + 1) with ⟨h1, h2⟩ | ⟨j, T, h1, h2, h3, h4⟩
      · exact .inl ⟨h1, fun T hT => by
          rcases List.mem_cons.1 hT with rfl | h
          · exact hU
          · exact h2 T h⟩
      · refine .inr ⟨j + 1, T, by rw [h1]; congr 1; omega, by rw [List.getElem?_cons_succ]; exact h2, h3, fun V hV => ?_⟩
        rw [List.take_succ_cons] at hV
        rcases List.mem_cons.1 hV with rfl | h
        · exact hU
        · exact h4 V h
    · rw [if_pos rfl]
      exact .inr ⟨0, U, rfl, rfl, hU, fun V hV => by simp at hV⟩
theorem take_none {p : Tb → Bool} {TT : List Tb} {j : Nat} (h : ∀ U, U ∈ TT.take j → p U = false) {T : Tb} (hT : TT[j]? = some T) (hp : p T = false) : ∀ U, U ∈ TT.take (j + 1) → p U = false := by
  have hl : j < TT.length := by
    rcases Nat.lt_or_ge j TT.length with h | h
    · exact h
    · rw [List.getElem?_eq_none h] at hT; cases hT
  have e : TT[j] = T := by rw [List.getElem?_eq_getElem hl] at hT; exact Option.some.inj hT
  rw [List.take_succ_eq_append_getElem hl, e]
  intro U hU
  rw [List.mem_append, List.mem_singleton] at hU
  rcases hU with h1 | rfl
  · exact h U h1
  · exact hp
/-- The same tag? -/
def eqT (s : ByteArray) (T : Tb) : Bool := T.tag.toList == s.toList
/-- A greater tag? -/
def gtT (s : ByteArray) (T : Tb) : Bool := Op.bytesLess s.toList T.tag.toList
set_option maxHeartbeats 4000000 in
theorem cl_find (s t : ByteArray) (v : Value) (b : Nat) (w : World) (h : w.cell? ⟨b, 0, none⟩ = some (.string t)) (hb : b < w.heap.size) :
    Calls Tryz.prog 118 #[.agg #[.string s, v], .pointer (some ⟨b, 0, none⟩)] w fun e w' => e = .returned (.bool (s.toList == t.toList)) ∧ Since w w' := by
  have hne : ¬ b = w.heap.size := by omega
  cases hq : s.toList == t.toList
  · have h2 : ¬ s.toList = t.toList := by simpa using hq
    go_enter Tryz.func118, Tryz.ntmps118
    go_wp2_with fail
    go_ret
    exact ⟨by first | rfl | simp [h2], by (repeat (first | with_reducible (exact Since.refl _) | with_reducible assumption | with_reducible (refine Since.drew ?_) | with_reducible (refine Since.drewN ?_ _) | with_reducible (refine Since.alloc ?_ _) | (with_reducible (refine Since.setCell ?_ ?_ _); rotate_left; focus (first | (simp; done) | (simp; omega) | omega)) | (with_reducible (refine Since.trans ?_ (by with_reducible assumption)))))⟩
  · have h2 : s.toList = t.toList := by simpa using hq
    go_enter Tryz.func118, Tryz.ntmps118
    go_wp2_with fail
    go_ret
    exact ⟨by first | rfl | simp [h2], by (repeat (first | with_reducible (exact Since.refl _) | with_reducible assumption | with_reducible (refine Since.drew ?_) | with_reducible (refine Since.drewN ?_ _) | with_reducible (refine Since.alloc ?_ _) | (with_reducible (refine Since.setCell ?_ ?_ _); rotate_left; focus (first | (simp; done) | (simp; omega) | omega)) | (with_reducible (refine Since.trans ?_ (by with_reducible assumption)))))⟩
set_option maxHeartbeats 4000000 in
theorem cl_with1 (s t : ByteArray) (v : Value) (b : Nat) (w : World) (h : w.cell? ⟨b, 0, none⟩ = some (.string t)) (hb : b < w.heap.size) :
    Calls Tryz.prog 92 #[.agg #[.string s, v], .pointer (some ⟨b, 0, none⟩)] w fun e w' => e = .returned (.bool (s.toList == t.toList)) ∧ Since w w' := by
  have hne : ¬ b = w.heap.size := by omega
  cases hq : s.toList == t.toList
  · have h2 : ¬ s.toList = t.toList := by simpa using hq
    go_enter Tryz.func92, Tryz.ntmps92
    go_wp2_with fail
    go_ret
    exact ⟨by first | rfl | simp [h2], by (repeat (first | with_reducible (exact Since.refl _) | with_reducible assumption | with_reducible (refine Since.drew ?_) | with_reducible (refine Since.drewN ?_ _) | with_reducible (refine Since.alloc ?_ _) | (with_reducible (refine Since.setCell ?_ ?_ _); rotate_left; focus (first | (simp; done) | (simp; omega) | omega)) | (with_reducible (refine Since.trans ?_ (by with_reducible assumption)))))⟩
  · have h2 : s.toList = t.toList := by simpa using hq
    go_enter Tryz.func92, Tryz.ntmps92
    go_wp2_with fail
    go_ret
    exact ⟨by first | rfl | simp [h2], by (repeat (first | with_reducible (exact Since.refl _) | with_reducible assumption | with_reducible (refine Since.drew ?_) | with_reducible (refine Since.drewN ?_ _) | with_reducible (refine Since.alloc ?_ _) | (with_reducible (refine Since.setCell ?_ ?_ _); rotate_left; focus (first | (simp; done) | (simp; omega) | omega)) | (with_reducible (refine Since.trans ?_ (by with_reducible assumption)))))⟩
theorem gt_tri (x y : List UInt8) : (!Op.bytesLess x y && !(x == y)) = Op.bytesLess y x := by
  have h := less_tri x y
  by_cases e : x = y
  · subst e
    cases hb : Op.bytesLess x x
    · simp
    · rw [hb] at h; simp at h
  · have e1 : (x == y) = false := by simpa using e
    have e2 : (y == x) = false := by simpa using fun k => e k.symm
    rw [h, e1, e2]; simp
set_option maxHeartbeats 4000000 in
theorem cl_with2 (s t : ByteArray) (v : Value) (b : Nat) (w : World) (h : w.cell? ⟨b, 0, none⟩ = some (.string t)) (hb : b < w.heap.size) :
    Calls Tryz.prog 93 #[.agg #[.string s, v], .pointer (some ⟨b, 0, none⟩)] w fun e w' => e = .returned (.bool (Op.bytesLess t.toList s.toList)) ∧ Since w w' := by
  have hne : ¬ b = w.heap.size := by omega
  go_enter Tryz.func93, Tryz.ntmps93
  go_wp2_with fail
  go_ret
  exact ⟨by first | rfl | (simp; exact gt_tri _ _) | (rw [← gt_tri]; rfl), by (repeat (first | with_reducible (exact Since.refl _) | with_reducible assumption | with_reducible (refine Since.drew ?_) | with_reducible (refine Since.drewN ?_ _) | with_reducible (refine Since.alloc ?_ _) | (with_reducible (refine Since.setCell ?_ ?_ _); rotate_left; focus (first | (simp; done) | (simp; omega) | omega)) | (with_reducible (refine Since.trans ?_ (by with_reducible assumption)))))⟩
theorem enters_find : ∀ args w, (callFunc 118 args).run Tryz.prog w = .ok (.enter 118 args) w := enters_of Tryz.func118 (by kernel_rfl) rfl
theorem enters_with1 : ∀ args w, (callFunc 92 args).run Tryz.prog w = .ok (.enter 92 args) w := enters_of Tryz.func92 (by kernel_rfl) rfl
theorem enters_with2 : ∀ args w, (callFunc 93 args).run Tryz.prog w = .ok (.enter 93 args) w := enters_of Tryz.func93 (by kernel_rfl) rfl
set_option maxRecDepth 100000 in
set_option maxHeartbeats 4000000 in
theorem sf_index (k : Nat) (cap : Array Value) (p : Tb → Bool) (A : Option Addr) (n c : Nat) (TT : List Tb) (w : World) (h : RdTL w w.heap.size A TT) (hL : n = TT.length) (hn : n ≤ maxLen) (hE : ∀ args w, (callFunc k args).run Tryz.prog w = .ok (.enter k args) w)
    (hF : ∀ (T : Tb) (v : Value) (w1 : World), T ∈ TT → Since w w1 → Calls Tryz.prog k (#[.agg #[.string T.tag, v]] ++ cap) w1 fun e w2 => e = .returned (.bool (p T)) ∧ Since w1 w2) :
    Calls Tryz.prog 75 #[.slice A n c, .func (.func k) #[] cap] w fun e w' => e = .returned (.int .i64 (ixF p 0 TT)) ∧ Since w w' := by
  have hn' : (n : Int) ≤ 9223372036854775807 := by simp only [maxLen] at hn; omega
  have HL := Lib.hid hL
  obtain ⟨R, hR⟩ : ∃ R, R = ixF p 0 TT := ⟨_, rfl⟩
  rw [← hR]
  have HR := Lib.hid hR
  clear hL hR
  go_enter Tryz.func75, Tryz.ntmps75
  go_wp2
  go_loopw [8] (fun y wr => ∃ j : Nat, j ≤ n ∧ y = .int .i64 (j : Int) ∧ Hid (∀ U, U ∈ TT.take j → p U = false) ∧ Since w wr) (fun y _ => n - (intOf y).toNat)
  case atStart => exact ⟨0, by omega, rfl, Lib.hid (by simp), Since.refl _⟩
  case round =>
    obtain ⟨j, hj, rfl, HA, hS⟩ := hrel
    by_cases hjn : j < n
    · have hjn' : (j : Int) < n := by omega
      have hjL : j < TT.length := by rw [← HL.out]; exact hjn
      have hT : TT[j]? = some TT[j] := List.getElem?_eq_getElem hjL
      have hm : TT[j] ∈ TT := List.getElem_mem hjL
      obtain ⟨b, o, A', c', rfl, hb, hc1, hc2, _⟩ := h.row hT
      have hc := hF TT[j] (.slice A' TT[j].data.length c') wr hm hS
      generalize TT[j] = T at *
      have c1 := (hS.1 _ _ hb).trans hc1
      have c2 := (hS.1 _ _ hb).trans hc2
      have HT := Lib.hid hT
      generalize T.data.length = l at *
      clear h hT hm hjL hF hc1 hc2
      cases hp : p T with
      | true =>
        rw [hp] at hc
        have HP := Lib.hid hp
        clear hp
        generalize hs : T.tag = s at *
        go_wp2_with (refine (Calls.mono hc ?_); rintro e w1 ⟨rfl, hS1⟩)
        go_ret
        exact ⟨by rw [HR.out, ixF_some TT 0 j T HT.out HP.out HA.out, Nat.zero_add]; rfl, hS.trans hS1⟩
      | false =>
        rw [hp] at hc
        have HP := Lib.hid hp
        clear hp
        generalize hs : T.tag = s at *
        go_wp2_with (refine (Calls.mono hc ?_); rintro e w1 ⟨rfl, hS1⟩)
        go_roundw
        case rel => exact ⟨j + 1, by omega, by go_num, Lib.hid (take_none HA.out HT.out HP.out), hS.trans hS1⟩
        case measure => simp [intOf]; omega
    · obtain rfl : j = n := by omega
      clear h hF
      go_wp2
      go_ret
      exact ⟨by rw [HR.out, ixF_none TT 0 (by have := HA.out; rw [HL.out, List.take_length] at this; exact this)]; rfl, hS⟩
end Go.Proofs.YteckkcpnfeoehaaGreatDoor

/-
  Layer 4: Find of the program and of the document; a table with data of its own.
-/
namespace Go.Proofs.YteckkcpnfeoehaaGreatDoor
set_option maxRecDepth 100000
open Go.RowKit Go.ChangeShapes Go.WideShapes Go.Deep
set_option linter.unusedVariables false
set_option linter.unusedSimpArgs false

theorem box_cell (w : World) (v : Value) (t : TypeId) : (w.alloc (.cells #[v] t)).cell? ⟨w.heap.size, 0, none⟩ = some v := by rw [World.cell?_alloc_new]; rfl
/-- IndexFunc with Find's closure, whose variable lies in a box. -/
theorem sf_index_find (s : ByteArray) (A : Option Addr) (n c : Nat) (TT : List Tb) (b : Nat) (w : World) (h : RdTL w w.heap.size A TT) (hL : n = TT.length) (hn : n ≤ maxLen) (hb : w.cell? ⟨b, 0, none⟩ = some (.string s)) (hbw : b < w.heap.size) :
    Calls Tryz.prog 75 #[.slice A n c, .func (.func 118) #[] #[.pointer (some ⟨b, 0, none⟩)]] w fun e w' => e = .returned (.int .i64 (ixF (eqT s) 0 TT)) ∧ Since w w' :=
  sf_index 118 #[.pointer (some ⟨b, 0, none⟩)] (eqT s) A n c TT w h hL hn enters_find (fun T v w1 _ hS => cl_find T.tag s v b w1 ((hS.1 _ _ hbw).trans hb) (hS.2.2.1 _ hbw))
theorem sf_index_with1 (s : ByteArray) (A : Option Addr) (n c : Nat) (TT : List Tb) (b : Nat) (w : World) (h : RdTL w w.heap.size A TT) (hL : n = TT.length) (hn : n ≤ maxLen) (hb : w.cell? ⟨b, 0, none⟩ = some (.string s)) (hbw : b < w.heap.size) :
    Calls Tryz.prog 75 #[.slice A n c, .func (.func 92) #[] #[.pointer (some ⟨b, 0, none⟩)]] w fun e w' => e = .returned (.int .i64 (ixF (eqT s) 0 TT)) ∧ Since w w' :=
  sf_index 92 #[.pointer (some ⟨b, 0, none⟩)] (eqT s) A n c TT w h hL hn enters_with1 (fun T v w1 _ hS => cl_with1 T.tag s v b w1 ((hS.1 _ _ hbw).trans hb) (hS.2.2.1 _ hbw))
theorem sf_index_with2 (s : ByteArray) (A : Option Addr) (n c : Nat) (TT : List Tb) (b : Nat) (w : World) (h : RdTL w w.heap.size A TT) (hL : n = TT.length) (hn : n ≤ maxLen) (hb : w.cell? ⟨b, 0, none⟩ = some (.string s)) (hbw : b < w.heap.size) :
    Calls Tryz.prog 75 #[.slice A n c, .func (.func 93) #[] #[.pointer (some ⟨b, 0, none⟩)]] w fun e w' => e = .returned (.int .i64 (ixF (gtT s) 0 TT)) ∧ Since w w' :=
  sf_index 93 #[.pointer (some ⟨b, 0, none⟩)] (gtT s) A n c TT w h hL hn enters_with2 (fun T v w1 _ hS => cl_with2 T.tag s v b w1 ((hS.1 _ _ hbw).trans hb) (hS.2.2.1 _ hbw))
set_option maxRecDepth 100000 in
set_option maxHeartbeats 4000000 in
theorem sf_find_no (s : ByteArray) (A : Option Addr) (n c : Nat) (TT : List Tb) (w : World) (h : RdTL w w.heap.size A TT) (hL : n = TT.length) (hn : n ≤ maxLen) (hno : ∀ T, T ∈ TT → eqT s T = false) :
    Calls Tryz.prog 89 #[.slice A n c, .string s] w fun e w' => e = .returned (.tuple #[.slice none 0 0, .bool false]) ∧ Since w w' := by
  have hmf : ∀ (fn : Fn) (first cap : Array Value) (w : World), (Instr.makeFunc fn first cap).run Tryz.prog w = .ok (.func fn first cap) w := fun _ _ _ _ => rfl
  have HI := Lib.hid (fun (ty : TypeId) => sf_index_find s A n c TT w.heap.size (w.alloc (.cells #[.string s] ty)) (h.on ((Since.refl w).alloc _)) hL hn (box_cell _ _ _) (by simp))
  rw [ixF_none TT 0 hno] at HI
  clear h hL hno
  go_enter Tryz.func89, Tryz.ntmps89
  go_wp2_with (go_at_call 75; (with_reducible refine (HI.out _).mono ?_); rintro e w2 ⟨rfl, hS2⟩; have hX2 := ((Since.refl w).alloc _).trans hS2)
  refine bodyPost_ret (by simp only [results, Tryz.results89]; go_simp) rfl ⟨rfl, hX2⟩
set_option maxRecDepth 100000 in
set_option maxHeartbeats 4000000 in
theorem sf_find_yes (s : ByteArray) (A : Option Addr) (n c : Nat) (TT : List Tb) (w : World) (h : RdTL w w.heap.size A TT) (hL : n = TT.length) (hn : n ≤ maxLen) (j : Nat) (T : Tb) (hT : TT[j]? = some T) (heq : eqT s T = true) (hf : ∀ U, U ∈ TT.take j → eqT s U = false) (hm : T.data.length ≤ 140737488355328) :
    Calls Tryz.prog 89 #[.slice A n c, .string s] w fun e w' => ∃ v, e = .returned (.tuple #[v, .bool true]) ∧ OwnB w' w.heap.size v T.data ∧ Since w w' := by
  have hmf : ∀ (fn : Fn) (first cap : Array Value) (w : World), (Instr.makeFunc fn first cap).run Tryz.prog w = .ok (.func fn first cap) w := fun _ _ _ _ => rfl
  have HI := Lib.hid (fun (ty : TypeId) => sf_index_find s A n c TT w.heap.size (w.alloc (.cells #[.string s] ty)) (h.on ((Since.refl w).alloc _)) hL hn (box_cell _ _ _) (by simp))
  rw [ixF_some TT 0 j T hT heq hf, Nat.zero_add] at HI
  have hjl : j < n := by
    rw [hL]
    rcases Nat.lt_or_ge j TT.length with h2 | h2
    · exact h2
    · rw [List.getElem?_eq_none h2] at hT; cases hT
  have hjn : (j : Int) < (n : Int) := by omega
  have hj0 : ¬ (j : Int) < 0 := by omega
  have hnI : (n : Int) ≤ 9223372036854775807 := by simp only [maxLen] at hn; omega
  obtain ⟨b, o, A', c', rfl, hb, hc1, hc2, hK⟩ := h.row hT
  obtain ⟨l, hl⟩ : ∃ l, l = T.data.length := ⟨_, rfl⟩
  rw [← hl] at hc2 hm
  have HC := Lib.hid (fun (w2 : World) (h2 : Since w w2) => bt_clone A' l c' T.data w2 ((hK.since (Nat.le_refl _) h2).more h2.below.size) hl (by omega))
  have HK := Lib.hid (fun (w2 : World) (h2 : Since w w2) => (h2.1 _ _ hb).trans hc2)
  have HB := Lib.hid hb
  clear h hL hf hT heq hK hc1 hc2 hl hb
  go_enter Tryz.func89, Tryz.ntmps89
  go_wp2_with (first | (go_at_call 75; (with_reducible refine (HI.out _).mono ?_); rintro e w2 ⟨rfl, hS2⟩; have hX2 := ((Since.refl w).alloc _).trans hS2; have hk2 := HK.out _ hX2; have hbw := hX2.2.2.1 _ HB.out) | (go_at_call 85; (with_reducible refine (HC.out _ hX2).mono ?_); rintro e w3 ⟨v3, rfl, hO3, hS3⟩; have hX3 := hX2.trans hS3; have hO3 := OwnG.low hO3 hX2.below.size))
  refine bodyPost_ret (by simp only [results, Tryz.results89]; go_simp) rfl ⟨_, rfl, hO3, hX3⟩
set_option maxRecDepth 100000 in
set_option maxHeartbeats 8000000 in
theorem rf_find (s : ByteArray) (A : Option Addr) (n c : Nat) (TT : List Tb) (w : World) (h : RdTL w w.heap.size A TT) (hL : n = TT.length) (hn : n ≤ maxLen) :
    Calls Tryz.prog 27 #[.slice A n c, .string s] w fun e w' => e = .returned (.int .i64 (ixF (eqT s) 0 TT)) ∧ Since w w' := by
  have hn' : (n : Int) ≤ 9223372036854775807 := by simp only [maxLen] at hn; omega
  have HL := Lib.hid hL
  obtain ⟨R, hR⟩ : ∃ R, R = ixF (eqT s) 0 TT := ⟨_, rfl⟩
  rw [← hR]
  have HR := Lib.hid hR
  clear hL hR
  go_enter Tryz.func27, Tryz.ntmps27
  go_wp2_with fail
  go_loopw [9] (fun y wr => ∃ j : Nat, j ≤ n ∧ y = .int .i64 (j : Int) ∧ Hid (∀ U, U ∈ TT.take j → eqT s U = false) ∧ Since w wr) (fun y _ => n - (intOf y).toNat)
  case atStart => exact ⟨0, by omega, rfl, Lib.hid (by simp), Since.refl _⟩
  case round =>
    obtain ⟨j, hj, rfl, HA, hS⟩ := hrel
    by_cases hjn : j < n
    · have hjn' : (j : Int) < n := by omega
      have hjL : j < TT.length := by rw [← HL.out]; exact hjn
      have hT : TT[j]? = some TT[j] := List.getElem?_eq_getElem hjL
      obtain ⟨b, o, A', c', rfl, hb, hc1, hc2, _⟩ := h.row hT
      generalize TT[j] = T at *
      have c1 := (hS.1 _ _ hb).trans hc1
      have c2 := (hS.1 _ _ hb).trans hc2
      have hbw := hS.2.2.1 _ hb
      have HT := Lib.hid hT
      generalize T.data.length = l at *
      clear h hT hjL hc1 hc2
      cases hp : eqT s T with
      | true =>
        have HP := Lib.hid hp
        unfold eqT at hp
        generalize hs : T.tag = t at *
        have h2 : t.toList = s.toList := by simpa using hp
        clear hp
        go_wp2_with fail
        go_ret
        exact ⟨by rw [HR.out, ixF_some TT 0 j T HT.out HP.out HA.out, Nat.zero_add]; rfl, by (repeat (first | with_reducible (exact Since.refl _) | with_reducible assumption | with_reducible (refine Since.drew ?_) | with_reducible (refine Since.drewN ?_ _) | with_reducible (refine Since.alloc ?_ _) | (with_reducible (refine Since.setCell ?_ ?_ _); rotate_left; focus (first | (simp; done) | (simp; omega) | omega)) | (with_reducible (refine Since.trans ?_ (by with_reducible assumption)))))⟩
      | false =>
        have HP := Lib.hid hp
        unfold eqT at hp
        generalize hs : T.tag = t at *
        have h2 : (t.toList == s.toList) = false := hp
        clear hp
        go_wp2_with fail
        refine ⟨⟨j + 1, by omega, by first | rfl | go_num | simp, Lib.hid (take_none HA.out HT.out HP.out), by (repeat (first | with_reducible (exact Since.refl _) | with_reducible assumption | with_reducible (refine Since.drew ?_) | with_reducible (refine Since.drewN ?_ _) | with_reducible (refine Since.alloc ?_ _) | (with_reducible (refine Since.setCell ?_ ?_ _); rotate_left; focus (first | (simp; done) | (simp; omega) | omega)) | (with_reducible (refine Since.trans ?_ (by with_reducible assumption)))))⟩, by simp [intOf]; omega⟩
    · obtain rfl : j = n := by omega
      have hjn' : ¬ (j : Int) < (j : Int) := by omega
      clear h
      go_wp2_with fail
      go_ret
      exact ⟨by rw [HR.out, ixF_none TT 0 (by have := HA.out; rw [HL.out, List.take_length] at this; exact this)]; rfl, hS⟩
set_option maxRecDepth 100000 in
set_option maxHeartbeats 8000000 in
/-- A table with data of its own. -/
theorem sf_fresh (s : ByteArray) (A : Option Addr) (n c : Nat) (L : List Int) (w : World) (h : RdB w w.heap.size A L) (hn : n = L.length) (hL : L.length ≤ 140737488355328) :
    Calls Tryz.prog 91 #[.agg #[.string s, .slice A n c]] w fun e w' => ∃ A' c', e = .returned (.agg #[.string s, .slice A' n c']) ∧ OwnB w' w.heap.size (.slice A' n c') L ∧ Since w w' := by
  have HC : Hid (∀ (w2 : World) (h2 : Since w w2), Calls Tryz.prog 85 #[.slice A n c] w2 fun e w' => ∃ A' c', e = .returned (.slice A' n c') ∧ OwnB w' w2.heap.size (.slice A' n c') L ∧ Since w w' ∧ Since w2 w') := Lib.hid (fun (w2 : World) (h2 : Since w w2) => (bt_clone A n c L w2 (h.on h2) hn hL).mono (by
    rintro e w3 ⟨v3, rfl, hO3, hS3⟩
    obtain ⟨A3, c3, rfl, _, _⟩ := hO3.rd (by omega) byL_len
    rw [← hn] at hO3 ⊢
    exact ⟨_, _, rfl, hO3, h2.trans hS3, hS3⟩))
  clear h hL hn
  go_enter Tryz.func91, Tryz.ntmps91
  go_upto_region 1 with fail
  refine wp_named fun w1 hw1 => ?_
  have hS1 : Since w w1 := by subst hw1; (repeat (first | with_reducible (exact Since.refl _) | with_reducible assumption | with_reducible (refine Since.drew ?_) | with_reducible (refine Since.drewN ?_ _) | with_reducible (refine Since.alloc ?_ _) | (with_reducible (refine Since.setCell ?_ ?_ _); rotate_left; focus (first | (simp; done) | (simp; omega) | omega)) | (with_reducible (refine Since.trans ?_ (by with_reducible assumption)))))
  have k1 : Two w1 w.heap.size (.string s) (.slice A n c) := by
    subst hw1
    exact (two_new w _ rfl _ _ _).since ((Since.refl _).alloc _)
  have k2 : Two w1 (w.heap.size + 1) (.string { data := #[] }) (.slice none 0 0) := by
    subst hw1
    exact two_new _ _ (by simp) _ _ _
  clear hw1
  generalize hg1 : w.heap.size + 1 = g1 at k2 ⊢
  generalize hg0 : w.heap.size = g0 at k1 ⊢
  have hq0 : w.heap.size ≤ g1 := by omega
  have hne : ¬ g0 = g1 := by omega
  have hne2 : ¬ g1 = g0 := by omega
  have HQ := Lib.hid hq0
  clear hg0 hg1 hq0
  have HD := Lib.hid (fun (w2 : World) (h2 : Since w1 w2) => (HC.out w2 (hS1.trans h2)).mono (show ∀ e w', _ → ∃ A' c', e = .returned (.slice A' n c') ∧ OwnB w' w1.heap.size (.slice A' n c') L ∧ Since w1 w' from fun e w' ⟨A', c', a1, a2, _, a4⟩ => ⟨A', c', a1, OwnG.low a2 h2.below.size, h2.trans a4⟩))
  clear HC
  obtain ⟨p1, p2, p3, p4, p5⟩ := id k1
  obtain ⟨q1, q2, q3, q4, q5⟩ := id k2
  go_region_with (go_at_call 85; (with_reducible refine (HD.out _ (by (repeat (first | with_reducible (exact Since.refl _) | with_reducible assumption | with_reducible (refine Since.drew ?_) | with_reducible (refine Since.drewN ?_ _) | with_reducible (refine Since.alloc ?_ _) | (with_reducible (refine Since.setCell ?_ ?_ _); rotate_left; focus (first | (simp; done) | (simp; omega) | omega)) | (with_reducible (refine Since.trans ?_ (by with_reducible assumption))))))).mono ?_); rintro e w3 ⟨A3, c3, rfl, hO3, hS3⟩; obtain ⟨r1, r2, r3, r4, r5⟩ := k1.since hS3; obtain ⟨s1, s2, s3, s4, s5⟩ := k2.since hS3)
  all_goals have hO4 := own_setlow (own_setlow hO3 q5 0 (.string s)) q5 1 (.slice A3 n c3)
  all_goals have hS4 := ((hS1.trans hS3).setCell (p := ⟨g1, 0, none⟩) HQ.out (.string s)).setCell (p := ⟨g1, 1, none⟩) HQ.out (.slice A3 n c3)
  all_goals go_wp2_with fail
  all_goals refine bodyPost_ret (by simp only [results, Tryz.results91]; go_simp) rfl ⟨A3, c3, rfl, OwnG.low hO4 hS1.below.size, hS4⟩
end Go.Proofs.YteckkcpnfeoehaaGreatDoor

/-
  'copy' of knots into an own row; slices.Reverse of an own row of knots.
-/
namespace Go.Proofs.YteckkcpnfeoehaaGreatDoor
set_option maxRecDepth 100000
open Go.RowKit Go.ChangeShapes Go.WideShapes Go.Deep
set_option linter.unusedVariables false

section
variable {P : Program}
theorem run_copy_rowk (w : World) (dT sT ty elem : TypeId) (g o dLen dCap : Nat) (a : Addr) (sLen sCap k : Nat) (cur : Array Value) (t : TypeId) (cs : List Value) (i : TypeInfo)
    (hu : P.underlying dT = some (.slice elem)) (hq : P.info? elem = some i) (hi : i.size = k)
    (hg : w.heap[g]? = some (.cells cur t (0, 0))) (hn : cs.length = Nat.min sLen dLen * k)
    (hsrc : ∀ j v, cs[j]? = some v → w.cell? (a.add j) = some v) (hfit : o + cs.length ≤ cur.size) (h1 : ∀ v ∈ cs, v.oneCell' = true) :
    (Builtin.copy_ #[dT, sT] ty #[.slice (some ⟨g, o, none⟩) dLen dCap, .slice (some a) sLen sCap]).run P w =
      .ok (goInt (Nat.min sLen dLen)) (w.setRow g (cur.toList.take o ++ cs ++ cur.toList.drop (o + cs.length)).toArray) := by
  have hl := run_loadCells_list (P := P) w a cs hsrc
  have hst := run_storeCells_at P g o t cs 0 cur w hg (by simpa using hfit) h1
  simp [Builtin.copy_, run_underlying hu, Builtin.lenOf, Builtin.firstCells, sizeOf, typeInfo, hq, hi, ← hn, hl, hst]
end
end Go.Proofs.YteckkcpnfeoehaaGreatDoor

/-
  Layer 4: own rows of tables with room: append and copy in place; slices.Insert.
-/
namespace Go.Proofs.YteckkcpnfeoehaaGreatDoor
set_option maxRecDepth 100000
open Go.RowKit Go.ChangeShapes Go.WideShapes Go.Deep
set_option linter.unusedVariables false
set_option linter.unusedSimpArgs false

theorem take_lay {A : List Value} {cs : List Value} {p m n : Nat} (hA : p * 2 ≤ A.length) (hc : cs.length = m * 2) (hp : p ≤ n) (h : p + m ≤ n ∨ n ≤ p + m) (hn : n * 2 ≤ A.length) (hpm : (p + m) * 2 ≤ A.length) :
    (A.take (p * 2) ++ cs ++ A.drop (p * 2 + cs.length)).take ((max n (p + m)) * 2) = (A.take (n * 2)).take (p * 2) ++ cs ++ (A.take (n * 2)).drop ((p + m) * 2) := by
  have hl : (A.take (p * 2) ++ cs).length = (p + m) * 2 := by rw [List.length_append, List.length_take, hc]; omega
  have e1 : (A.take (n * 2)).take (p * 2) = A.take (p * 2) := by rw [List.take_take, Nat.min_eq_left (by omega)]
  rw [e1]
  by_cases hle : p + m ≤ n
  · rw [Nat.max_eq_left hle, List.take_append, hl, List.take_of_length_le (by rw [hl]; omega), hc, List.drop_take]
    congr 2
    all_goals first | (congr 1; omega) | omega
  · rw [Nat.max_eq_right (by omega), List.take_append_of_le_length (by rw [hl]; omega), List.take_of_length_le (by rw [hl]; omega), List.drop_eq_nil_of_le (by rw [List.length_take]; omega), List.append_nil]
section
variable {P : Program}
theorem row_copy {w : World} {base g n cap : Nat} {t : TypeId} {xs : List Value} (h : w.ownsRow base t 2 (.slice (some ⟨g, 0, none⟩) n cap) n xs) (dT : TypeId) (i : TypeInfo) (hu : P.underlying dT = some (.slice t)) (hq : P.info? t = some i) (hi : i.size = 2)
    (m p dLen sLen : Nat) (a : Addr) (cs : List Value) (hcs : cs.length = m * 2) (hm : Nat.min sLen dLen = m) (hsrc : ∀ j v, cs[j]? = some v → w.cell? (a.add j) = some v) (h1 : ∀ v ∈ cs, v.oneCell' = true) (hp : p ≤ n) (hcap : p + m ≤ cap) :
    ∃ W, (∀ ty dc sc, (Builtin.copy_ #[dT, dT] ty #[.slice (some ⟨g, p * 2, none⟩) dLen dc, .slice (some a) sLen sc]).run P w = .ok (goInt m) W) ∧
      W.ownsRow base t 2 (.slice (some ⟨g, 0, none⟩) (max n (p + m)) cap) (max n (p + m)) (xs.take (p * 2) ++ cs ++ xs.drop ((p + m) * 2)) ∧ w.grownBy W (some g) := by
  rcases h.2 with ⟨h0, _⟩ | ⟨g', cap', cur, h0, hb, hg, hnc, hcm, hsz, htk⟩
  · cases h0
  · injection h0 with h0 _ h2
    injection h0 with h0
    injection h0 with h0 _
    subst h0 h2
    have hlc : cur.toList.length = cap * 2 := by rw [Array.length_toList, hsz]
    refine ⟨w.setRow g (cur.toList.take (p * 2) ++ cs ++ cur.toList.drop (p * 2 + cs.length)).toArray, fun ty dc sc => ?_, ⟨?_, .inr ⟨g, cap, (cur.toList.take (p * 2) ++ cs ++ cur.toList.drop (p * 2 + cs.length)).toArray, rfl, hb, setRow_heap w g cur _ _ _ hg, by omega, hcm, ?_, ?_⟩⟩, ⟨rfl, rfl, rfl, by simp, fun k _ hk => setRow_other w g k _ (fun e => hk (by simp [e]))⟩⟩
    · have h9 := run_copy_rowk (P := P) w dT dT ty t g (p * 2) dLen dc a sLen sc 2 cur t cs i hu hq hi hg (by rw [hm, hcs]) hsrc (by rw [hcs, hsz]; omega) h1
      rw [hm] at h9
      exact h9
    · have hxl := h.1
      simp only [List.length_append, List.length_take, List.length_drop, hcs, hxl]
      rcases Nat.le_total n (p + m) with h3 | h3
      · rw [Nat.max_eq_right h3]; omega
      · rw [Nat.max_eq_left h3]; omega
    · simp only [List.size_toArray, List.length_append, List.length_take, List.length_drop, hcs, hlc]
      omega
    · have h8 := take_lay (A := cur.toList) (cs := cs) (p := p) (m := m) (n := n) (by omega) hcs hp (by omega) (by omega) (by omega)
      rw [htk] at h8
      exact h8
theorem row_append {w : World} {base g n cap : Nat} {t : TypeId} {xs : List Value} (h : w.ownsRow base t 2 (.slice (some ⟨g, 0, none⟩) n cap) n xs) (dT : TypeId) (i : TypeInfo) (hu : P.underlying dT = some (.slice t)) (hq : P.info? t = some i) (hi : i.size = 2)
    (a : Addr) (cs : List Value) (hcs : cs.length = 2) (hsrc : ∀ j v, cs[j]? = some v → w.cell? (a.add j) = some v) (h1 : ∀ v ∈ cs, v.oneCell' = true) (hcap : n + 1 ≤ cap) :
    ∃ W, (∀ ty c, (Builtin.append_ #[dT, dT] ty #[.slice (some ⟨g, 0, none⟩) n cap, .slice (some a) 1 c]).run P w = .ok (.slice (some ⟨g, 0, none⟩) (n + 1) cap) W) ∧
      W.ownsRow base t 2 (.slice (some ⟨g, 0, none⟩) (n + 1) cap) (n + 1) (xs ++ cs) ∧ w.grownBy W (some g) := by
  rcases h.2 with ⟨h0, _⟩ | ⟨g', cap', cur, h0, hb, hg, hnc, hcm, hsz, htk⟩
  · cases h0
  · injection h0 with h0 _ h2
    injection h0 with h0
    injection h0 with h0 _
    subst h0 h2
    have hlc : cur.toList.length = cap * 2 := by rw [Array.length_toList, hsz]
    have hxl := h.1
    refine ⟨w.setRow g (cur.toList.take (n * 2) ++ cs ++ cur.toList.drop (n * 2 + cs.length)).toArray, fun ty c => ?_, ⟨by rw [List.length_append, hxl, hcs]; omega, .inr ⟨g, cap, (cur.toList.take (n * 2) ++ cs ++ cur.toList.drop (n * 2 + cs.length)).toArray, rfl, hb, setRow_heap w g cur _ _ _ hg, by omega, hcm, ?_, ?_⟩⟩, ⟨rfl, rfl, rfl, by simp, fun k _ hk => setRow_other w g k _ (fun e => hk (by simp [e]))⟩⟩
    · have h9 := run_append_room (P := P) w dT ty t i hu hq g n cap cur hg a 1 c cs (by rw [hi, hcs]) hsrc h1 (by omega) (by rw [hi, hcs, hsz]; omega)
      rw [hi] at h9
      exact h9
    · simp only [List.size_toArray, List.length_append, List.length_take, List.length_drop, hcs, hlc]
      omega
    · show List.take ((n + 1) * 2) (List.take (n * 2) cur.toList ++ cs ++ List.drop (n * 2 + cs.length) cur.toList) = _
      rw [htk, List.take_append_of_le_length (by rw [List.length_append, hxl, hcs]; omega), List.take_of_length_le (by rw [List.length_append, hxl, hcs]; omega)]
end
theorem cellsTh_len (hs : List Th) : (cellsG thL hs).length = hs.length * 2 := cellsG_len thL_len hs
theorem cellsTh_take : ∀ (hs : List Th) (i : Nat), (cellsG thL hs).take (i * 2) = cellsG thL (hs.take i) := by
  intro hs
  induction hs with
  | nil => intro i; simp [cellsG]
  | cons x r ih =>
    intro i
    cases i with
    | zero => simp [cellsG]
    | succ i =>
      rw [List.take_succ_cons, show (i + 1) * 2 = i * 2 + 1 + 1 by omega]
      show Value.string x.tag :: Value.slice x.A x.n x.c :: (cellsG thL r).take (i * 2) = Value.string x.tag :: Value.slice x.A x.n x.c :: cellsG thL (r.take i)
      rw [ih]
theorem cellsTh_drop : ∀ (hs : List Th) (i : Nat), (cellsG thL hs).drop (i * 2) = cellsG thL (hs.drop i) := by
  intro hs
  induction hs with
  | nil => intro i; simp [cellsG]
  | cons x r ih =>
    intro i
    cases i with
    | zero => simp
    | succ i =>
      rw [List.drop_succ_cons, show (i + 1) * 2 = i * 2 + 1 + 1 by omega]
      show (cellsG thL r).drop (i * 2) = cellsG thL (r.drop i)
      exact ih i
/-- Tables behind a change of their row alone. -/
theorem OwnT.make {w w' : World} {base : Nat} {v v' : Value} {hs hs' : List Th} {TT' : List Tb} (ho : OwnG 49 2 thL w base v hs) (hl : hs'.length = TT'.length) (h9 : OwnG 49 2 thL w' base v' hs') (hg : w.grownBy w' v.ownBlock)
    (hK : ∀ (j : Nat) h T, hs'[j]? = some h → TT'[j]? = some T → h.tag = T.tag ∧ OwnB w base (.slice h.A h.n h.c) T.data) : OwnT w' base v' TT' := by
  have hne : 49 ≠ 5 := by decide
  exact ⟨hs', hl, h9, fun j x T h1 h2 => ⟨(hK j x T h1 h2).1, OwnG.grown (hK j x T h1 h2).2 hg (fun q hq e => own_apart ho (hK j x T h1 h2).2 hne e hq)⟩⟩
/-- append of one table to an own row with room. -/
theorem wpList_append_tr {w : World} {ops : Array Oper} {rest : List Oper} {o : Oper} {a : Act} {Q : Exit → Act → World → Prop} (hgd : o.guard = none) (s x : Operand)
    (ho : o.op = .call { callee := .builtin .append, args := #[s, x], argTypes := #[22, 22] }) (base g n cap : Nat) (TT : List Tb) (hs : a.eval s = .slice (some ⟨g, 0, none⟩) n cap) (hown : OwnT w base (.slice (some ⟨g, 0, none⟩) n cap) TT) (hcap : n + 1 ≤ cap)
    (b c : Nat) (T : ByteArray) (A' : Option Addr) (n' c' : Nat) (L : List Int) (hx : a.eval x = .slice (some ⟨b, 0, none⟩) 1 c) (h0 : w.cell? ⟨b, 0, none⟩ = some (.string T)) (h1 : w.cell? ⟨b, 1, none⟩ = some (.slice A' n' c')) (hrow : OwnB w base (.slice A' n' c') L)
    (h : ∀ w', OwnT w' base (.slice (some ⟨g, 0, none⟩) (n + 1) cap) (TT ++ [⟨T, L⟩]) → w.grownBy w' (some g) → wpList Tryz.prog ops Q rest (a.put o.dst (.slice (some ⟨g, 0, none⟩) (n + 1) cap)) w') :
    wpList Tryz.prog ops Q (o :: rest) a w := by
  obtain ⟨hh, hl, ho', hK⟩ := hown
  have hn : n = hh.length := by
    obtain ⟨A2, c2, e, _, _⟩ := ho'.rd (by omega) thL_len
    injection e
  obtain ⟨i, z, hi, hz, hsz, hby, _⟩ := infoTb
  have ho2 := ho'
  unfold OwnG at ho2
  rw [← hn] at ho2
  obtain ⟨W, hr, hW, hg⟩ := row_append (P := Tryz.prog) ho2 22 i Tryz.underlying22 hi hsz ⟨b, 0, none⟩ [.string T, .slice A' n' c'] rfl (fun j v hj => by
    rw [add_plain]
    rcases j with _ | _ | j
    · simp only [List.getElem?_cons_zero, Option.some.injEq] at hj; subst hj; exact h0
    · simp only [Nat.zero_add, List.getElem?_cons_succ, List.getElem?_cons_zero, Option.some.injEq] at hj; subst hj; exact h1
    · simp at hj) (by intro v hv; simp only [List.mem_cons, List.not_mem_nil, or_false] at hv; rcases hv with rfl | rfl <;> rfl) hcap
  have hW' : OwnG 49 2 thL W base (.slice (some ⟨g, 0, none⟩) (n + 1) cap) (hh ++ [⟨T, A', n', c'⟩]) := by
    unfold OwnG
    rw [cellsG_append, List.length_append, ← hn]
    exact hW
  refine wpList_plain hgd fun K hK' => ?_
  unfold Oper.wp execOp
  simp only [ho, resolve, invoke, builtin, Sem.run_bind, Sem.run_pure, Result.andThen_ok, List.map_toArray, List.map_cons, List.map_nil, hs, hx, hr]
  exact hK' _ _ (h _ (OwnT.snoc hrow hl ho' hK hW' hg) hg)
end Go.Proofs.YteckkcpnfeoehaaGreatDoor

/-
  Layer 4: slices.Insert of one table into an own row with room.
-/
namespace Go.Proofs.YteckkcpnfeoehaaGreatDoor
set_option maxRecDepth 100000
open Go.RowKit Go.ChangeShapes Go.WideShapes Go.Deep
set_option linter.unusedVariables false
set_option linter.unusedSimpArgs false

theorem oper_copy_run {w : World} {o : Oper} {a : Act} {K : Act → World → Prop} {Q : Exit → Act → World → Prop} (d s : Operand) (t t' : TypeId)
    (ho : o.op = .call { callee := .builtin .copy, args := #[d, s], argTypes := #[t, t'] }) (v u : Value) (hd : a.eval d = v) (hs : a.eval s = u) {v' : Value} {w' : World}
    (hr : (Builtin.copy_ #[t, t'] o.type #[v, u]).run Tryz.prog w = .ok v' w') (h : K (a.put o.dst v') w') : Oper.wp Tryz.prog o a w K Q := by
  unfold Oper.wp execOp
  simp only [ho, resolve, invoke, builtin, Sem.run_bind, Sem.run_pure, Result.andThen_ok, List.map_toArray, List.map_cons, List.map_nil, hd, hs, hr]
  exact h
theorem wpList_copy_run {w : World} {ops : Array Oper} {rest : List Oper} {o : Oper} {a : Act} {Q : Exit → Act → World → Prop} (hgd : o.guard = none) (d s : Operand) (t t' : TypeId)
    (ho : o.op = .call { callee := .builtin .copy, args := #[d, s], argTypes := #[t, t'] }) (v u : Value) (hd : a.eval d = v) (hs : a.eval s = u) {v' : Value} {w' : World}
    (hr : (Builtin.copy_ #[t, t'] o.type #[v, u]).run Tryz.prog w = .ok v' w') (h : wpList Tryz.prog ops Q rest (a.put o.dst v') w') : wpList Tryz.prog ops Q (o :: rest) a w :=
  wpList_plain hgd fun _ hK => oper_copy_run d s t t' ho v u hd hs hr (hK _ _ h)
theorem wanted_plain {ops : Array Oper} {o : Oper} {a : Act} {w : World} {K : Act → World → Prop} {Q : Exit → Act → World → Prop} {E : Prop} (hg : o.guard = none) (h : Oper.wp Tryz.prog o a w K Q) : if Region.wanted o (yielded ops a.tmps) = true then Oper.wp Tryz.prog o a w K Q else E := by
  have hw : Region.wanted o (yielded ops a.tmps) = true := by simp [Region.wanted, hg]
  rw [if_pos hw]
  exact h
theorem tb_overlaps {w : World} {b g off la ca lb cb : Nat} {tA tB : TypeId} {cA cB : Array Value} (hne : b ≠ g) (hA : w.heap[b]? = some (.cells cA tA (0, 0))) (hB : w.heap[g]? = some (.cells cB tB (0, 0))) (hk : cB.size ≠ 0) :
    (callFunc 120 #[.slice (some ⟨b, 0, none⟩) la ca, .slice (some ⟨g, off, none⟩) lb cb]).run Tryz.prog w = .ok (.value (.bool false)) w := by
  obtain ⟨i, z, hi, hz, hsz, _, _⟩ := infoTb
  rw [run_callFunc_extern Tryz.func120 (by kernel_rfl) (by kernel_rfl) (by kernel_rfl) (e := Extern.SlicesOverlaps.overlaps #[22, 22] #[4]) (by kernel_rfl),
    Lib.run_overlaps_apart w 22 4 49 Tryz.underlying22 2 (fun w => by simp [sizeOf, typeInfo, hi, hsz]) ⟨b, 0, none⟩ ⟨g, off, none⟩ la ca lb cb hne tA tB cA.size cB.size (by simp [World.shape?, hA]) (by simp [World.shape?, hB]) hk (by simp [World.frozen?, hA]) (by simp [World.frozen?, hA])]
  rfl
theorem set_take_ins {α : Type} (L : List α) (i : Nat) (x : α) (h : i < L.length) : (L.take (i + 1) ++ L.drop i).take i ++ [x] ++ (L.take (i + 1) ++ L.drop i).drop (i + 1) = L.take i ++ x :: L.drop i := by
  have h1 : (L.take (i + 1)).length = i + 1 := by rw [List.length_take]; omega
  rw [List.take_append_of_le_length (by omega), List.take_take, Nat.min_eq_left (by omega), List.drop_append, List.drop_eq_nil_of_le (by omega), List.nil_append, h1]
  simp
theorem ins_rows {w : World} {base : Nat} {hs : List Th} {TT : List Tb} (hl : hs.length = TT.length) {i : Nat} (hi : i ≤ TT.length) {s : ByteArray} {A' : Option Addr} {n' c' : Nat} {L : List Int} (hrow : OwnB w base (.slice A' n' c') L)
    (hK : ∀ (j : Nat) h T, hs[j]? = some h → TT[j]? = some T → h.tag = T.tag ∧ OwnB w base (.slice h.A h.n h.c) T.data) :
    ∀ (j : Nat) h T, (hs.take i ++ (⟨s, A', n', c'⟩ : Th) :: hs.drop i)[j]? = some h → (TT.take i ++ (⟨s, L⟩ : Tb) :: TT.drop i)[j]? = some T → h.tag = T.tag ∧ OwnB w base (.slice h.A h.n h.c) T.data := by
  intro j h T h1 h2
  have hl1 : (hs.take i).length = i := by rw [List.length_take]; omega
  have hl2 : (TT.take i).length = i := by rw [List.length_take]; omega
  rcases Nat.lt_trichotomy j i with hj | rfl | hj
  · rw [List.getElem?_append_left (by omega), List.getElem?_take_of_lt hj] at h1 h2
    exact hK j h T h1 h2
  · rw [List.getElem?_append_right (by omega), hl1, Nat.sub_self] at h1
    rw [List.getElem?_append_right (by omega), hl2, Nat.sub_self] at h2
    simp only [List.getElem?_cons_zero, Option.some.injEq] at h1 h2
    subst h1 h2
    exact ⟨rfl, hrow⟩
  · obtain ⟨d, rfl⟩ : ∃ d, j = i + (d + 1) := ⟨j - i - 1, by omega⟩
    rw [List.getElem?_append_right (by omega), hl1, show i + (d + 1) - i = d + 1 by omega, List.getElem?_cons_succ, List.getElem?_drop] at h1
    rw [List.getElem?_append_right (by omega), hl2, show i + (d + 1) - i = d + 1 by omega, List.getElem?_cons_succ, List.getElem?_drop] at h2
    exact hK _ h T h1 h2
theorem cellsTh_one (hs : List Th) : ∀ v ∈ cellsG thL hs, v.oneCell' = true := by
  intro u hu
  unfold cellsG at hu
  rw [List.mem_flatMap] at hu
  obtain ⟨x, _, hx⟩ := hu
  exact thL_one x u hx
set_option maxRecDepth 1000000 in
set_option maxHeartbeats 16000000 in
theorem sf_insert {w : World} (base g N cap i : Nat) (TT : List Tb) (s : ByteArray) (A' : Option Addr) (n' c' : Nat) (L : List Int) (b c : Nat) (ty : TypeId) (hO : OwnT w base (.slice (some ⟨g, 0, none⟩) N cap) TT) (hN : N = TT.length) (hi : i ≤ N) (hcap : N + 1 ≤ cap) (hcm : cap ≤ 1000000)
    (hb : w.heap[b]? = some (.cells #[.string s, .slice A' n' c'] ty (0, 0))) (hne : b ≠ g) (hrow : OwnB w base (.slice A' n' c') L) :
    Calls Tryz.prog 94 #[.slice (some ⟨g, 0, none⟩) N cap, .int .i64 (i : Int), .slice (some ⟨b, 0, none⟩) 1 c] w fun e w' => e = .returned (.slice (some ⟨g, 0, none⟩) (N + 1) cap) ∧ OwnT w' base (.slice (some ⟨g, 0, none⟩) (N + 1) cap) (TT.take i ++ ⟨s, L⟩ :: TT.drop i) ∧ w.grownBy w' (some g) := by
  have b0 : w.cell? ⟨b, 0, none⟩ = some (.string s) := by simp [World.cell?, hb]
  have b1 : w.cell? ⟨b, 1, none⟩ = some (.slice A' n' c') := by simp [World.cell?, hb]
  have hcI : (cap : Int) ≤ 1000000 := by omega
  have hNc : (N : Int) + 1 ≤ (cap : Int) := by omega
  have m1 : IntKind.i64.wrap ((N : Int) + 1) = (N : Int) + 1 := by rw [IntKind.wrap_i64]; omega
  by_cases hiN : i = N
  · subst hiN
    have HO := Lib.hid hO
    have HR := Lib.hid hrow
    have HN := Lib.hid hN
    clear hO hrow hN hb
    go_enter Tryz.func94, Tryz.ntmps94
    go_wp2_with (at_builtin; refine wpList_append_tr rfl _ _ rfl base g i cap TT rfl HO.out hcap b c s A' n' c' L rfl b0 b1 HR.out ?_; intro w2 hO2 hg2)
    go_ret
    refine ⟨by first | rfl | simp, ?_, hg2⟩
    rw [HN.out, List.take_length, List.drop_length]
    rw [HN.out] at hO2
    exact hO2
  · have hin : i < N := by omega
    have hinI : ¬ (i : Int) = (N : Int) := by omega
    have hiI : (i : Int) < (N : Int) := by omega
    have m2 : IntKind.i64.wrap ((i : Int) + 1) = (i : Int) + 1 := by rw [IntKind.wrap_i64]; omega
    obtain ⟨hh, hl, ho, hK⟩ := hO
    obtain ⟨inf, z, hinf, hz, hsz, hby, _⟩ := infoTb
    have ho2 : w.drew.ownsRow base 49 2 (.slice (some ⟨g, 0, none⟩) N cap) N (cellsG thL hh) := by
      have := ho
      unfold OwnG at this
      rw [hl, ← hN] at this
      exact this
    obtain ⟨W1, hr1, hW1, hg1⟩ := row_copy (P := Tryz.prog) ho2 22 inf Tryz.underlying22 hinf hsz (N - i) (i + 1) (N - i) (N + 1 - i) ⟨g, i * 2, none⟩ ((cellsG thL hh).drop (i * 2)) (by rw [List.length_drop, cellsTh_len]; omega) (by
        exact Nat.min_eq_right (by omega)) (fun j v hj => by
        rw [List.getElem?_drop] at hj
        have h9 := World.ownsRow.cells ho2 (g := g) rfl _ _ hj
        rw [add_plain] at h9 ⊢
        rw [Nat.zero_add] at h9
        exact h9) (fun v hv => cellsTh_one hh v (List.mem_of_mem_drop hv)) (by omega) (by omega)
    have e1 : max N (i + 1 + (N - i)) = N + 1 := by rw [Nat.max_eq_right (by omega)]; omega
    have e2 : (cellsG thL hh).drop ((i + 1 + (N - i)) * 2) = [] := List.drop_eq_nil_of_le (by rw [cellsTh_len]; omega)
    have hhl : (hh.take (i + 1) ++ hh.drop i).length = N + 1 := by rw [List.length_append, List.length_take, List.length_drop]; omega
    rw [e1, e2, List.append_nil, cellsTh_take, cellsTh_drop, ← cellsG_append] at hW1
    have hne1 : ∀ o, W1.cell? ⟨b, o, none⟩ = w.cell? ⟨b, o, none⟩ := fun o => by
      have h9 := hg1.block b (by rw [show w.drew.heap.size = w.heap.size from rfl]; exact (Array.getElem?_eq_some_iff.1 hb).1) (by simpa using hne)
      simp only [World.cell?, h9]
      rfl
    obtain ⟨W2, hr2, hW2, hg2⟩ := row_copy (P := Tryz.prog) hW1 22 inf Tryz.underlying22 hinf hsz 1 i (N + 1 - i) 1 ⟨b, 0, none⟩ [.string s, .slice A' n' c'] rfl (Nat.min_eq_left (by omega)) (fun j v hj => by
        rw [add_plain, hne1]
        rcases j with _ | _ | j
        · simp only [List.getElem?_cons_zero, Option.some.injEq] at hj; subst hj; exact b0
        · simp only [Nat.zero_add, List.getElem?_cons_succ, List.getElem?_cons_zero, Option.some.injEq] at hj; subst hj; exact b1
        · simp at hj) (by intro v hv; simp only [List.mem_cons, List.not_mem_nil, or_false] at hv; rcases hv with rfl | rfl <;> rfl) (by omega) (by omega)
    have hG2 : OwnG 49 2 thL W2 base (.slice (some ⟨g, 0, none⟩) (N + 1) cap) (hh.take i ++ (⟨s, A', n', c'⟩ : Th) :: hh.drop i) := by
      rw [Nat.max_eq_left (by omega), cellsTh_take, cellsTh_drop, show [Value.string s, .slice A' n' c'] = cellsG thL [(⟨s, A', n', c'⟩ : Th)] from rfl, ← cellsG_append, ← cellsG_append, set_take_ins hh i _ (by omega)] at hW2
      unfold OwnG
      rw [show (hh.take i ++ (⟨s, A', n', c'⟩ : Th) :: hh.drop i).length = N + 1 by rw [List.length_append, List.length_cons, List.length_take, List.length_drop]; omega]
      exact hW2
    have hgA : w.grownBy W2 (some g) := ⟨hg2.os.trans hg1.os, hg2.tape.trans hg1.tape, hg2.output.trans hg1.output, Nat.le_trans hg1.size hg2.size, fun k hk hkg => (hg2.block k (Nat.lt_of_lt_of_le hk hg1.size) hkg).trans (hg1.block k hk hkg)⟩
    have HE := Lib.hid (OwnT.make ho (TT' := TT.take i ++ (⟨s, L⟩ : Tb) :: TT.drop i) (by simp only [List.length_append, List.length_cons, List.length_take, List.length_drop]; omega) hG2 hgA (ins_rows hl (by omega) hrow hK))
    have HGA := Lib.hid hgA
    obtain ⟨cB, hcB⟩ : ∃ cB, w.heap[g]? = some (.cells cB 49 (0, 0)) ∧ cB.size ≠ 0 := by
      rcases ho2.2 with ⟨h0, _⟩ | ⟨g', cap', cur, h0, _, hgg, _, _, hs2, _⟩
      · cases h0
      · injection h0 with h0 _ h2
        injection h0 with h0
        injection h0 with h0 _
        subst h0 h2
        exact ⟨cur, hgg, by omega⟩
    have hov : ∀ off la ca lb cb, (callFunc 120 #[.slice (some ⟨b, 0, none⟩) la ca, .slice (some ⟨g, off, none⟩) lb cb]).run Tryz.prog w = .ok (.value (.bool false)) w := fun off la ca lb cb => tb_overlaps hne hb hcB.1 hcB.2
    clear hG2 hgA hW1 hW2 hg1 hg2 ho ho2 hK hrow hne1 hl hhl e1 e2 hcB hb hinf hz hsz hby hN
    have hb1 : (0 : Int) ≤ (i : Int) + 1 := by omega
    have htn : ((i : Int) + 1).toNat = i + 1 := by omega
    have hin2 : i ≤ N := by omega
    have hc1 : ¬ cap = i + 1 := by omega
    have hc2 : ¬ cap = i := by omega
    have hc3 : (i : Int) + 1 ≤ (N : Int) + 1 := by omega
    have hc4 : (i : Int) ≤ (N : Int) + 1 := by omega
    have hc5 : (N : Int) + 1 ≤ (cap : Int) := by omega
    have hc6 : ¬ (cap : Int) < (N : Int) + 1 := by omega
    go_enter Tryz.func94, Tryz.ntmps94
    go_wp2_with (simp only [hov])
    go_region_law (refine wanted_plain rfl (oper_copy_run (.tmp 73) (.tmp 76) 22 22 rfl _ _ (by simp [Act.eval, Act.put]) (by simp [Act.eval, Act.put]) (hr1 _ _ _) ?_))
    go_wp2_with (at_builtin; refine wpList_copy_run rfl _ _ 22 22 rfl _ _ rfl rfl (hr2 _ _ _) ?_)
    go_ret
    exact ⟨by first | rfl | simp, HE.out, HGA.out⟩
end Go.Proofs.YteckkcpnfeoehaaGreatDoor

/-
  Layer 4: With, walked.
-/
namespace Go.Proofs.YteckkcpnfeoehaaGreatDoor
set_option maxRecDepth 100000
open Go.RowKit Go.ChangeShapes Go.WideShapes Go.Deep
set_option linter.unusedVariables false
set_option linter.unusedSimpArgs false

/-- Tables with one more, or another one in its place. -/
def withT (TT : List Tb) (T : Tb) : List Tb :=
  if 0 ≤ ixF (eqT T.tag) 0 TT then TT.set (ixF (eqT T.tag) 0 TT).toNat T
  else if 0 ≤ ixF (gtT T.tag) 0 TT then TT.take (ixF (gtT T.tag) 0 TT).toNat ++ T :: TT.drop (ixF (gtT T.tag) 0 TT).toNat
  else TT ++ [T]
theorem ixF_range (p : Tb → Bool) (TT : List Tb) : ixF p 0 TT = -1 ∨ ∃ j : Nat, ixF p 0 TT = (j : Int) ∧ j < TT.length := by
  rcases ixF_cases p TT 0 with ⟨h, _⟩ | ⟨j, T, h1, h2, _, _⟩
  · exact .inl h
  · refine .inr ⟨j, by rw [h1, Nat.zero_add], ?_⟩
    rcases Nat.lt_or_ge j TT.length with h | h
    · exact h
    · rw [List.getElem?_eq_none h] at h2; cases h2
theorem withT_at {TT : List Tb} {T : Tb} {j : Nat} (h : ixF (eqT T.tag) 0 TT = (j : Int)) : withT TT T = TT.set j T := by
  unfold withT; rw [if_pos (by omega), h, Int.toNat_natCast]
theorem withT_ins {TT : List Tb} {T : Tb} {j : Nat} (h : ixF (eqT T.tag) 0 TT = -1) (h2 : ixF (gtT T.tag) 0 TT = (j : Int)) : withT TT T = TT.take j ++ T :: TT.drop j := by
  unfold withT; rw [if_neg (by omega), if_pos (by omega), h2, Int.toNat_natCast]
theorem withT_end {TT : List Tb} {T : Tb} (h : ixF (eqT T.tag) 0 TT = -1) (h2 : ixF (gtT T.tag) 0 TT = -1) : withT TT T = TT.take TT.length ++ T :: TT.drop TT.length := by
  unfold withT; rw [if_neg (by omega), if_neg (by omega), List.take_length, List.drop_length]
/-- One table of an own row is another one. -/
theorem OwnT.put {w : World} {base g n c : Nat} {TT : List Tb} (h : OwnT w base (.slice (some ⟨g, 0, none⟩) n c) TT) {j : Nat} (hj : j < TT.length) {s : ByteArray} {A' : Option Addr} {n' c' : Nat} {L : List Int} (hrow : OwnB w base (.slice A' n' c') L) :
    OwnT ((w.setCell ⟨g, j * 2, none⟩ (.string s)).setCell ⟨g, j * 2 + 1, none⟩ (.slice A' n' c')) base (.slice (some ⟨g, 0, none⟩) n c) (TT.set j ⟨s, L⟩) := by
  obtain ⟨hs, hl, ho, hK⟩ := h
  have hg : w.grownBy ((w.setCell ⟨g, j * 2, none⟩ (.string s)).setCell ⟨g, j * 2 + 1, none⟩ (.slice A' n' c')) (some g) := by
    refine ⟨rfl, rfl, rfl, by simp, fun k _ hk => ?_⟩
    rw [heap_setCell_other _ ⟨g, j * 2 + 1, none⟩ k _ (fun e => hk (by simp [e])), heap_setCell_other _ ⟨g, j * 2, none⟩ k _ (fun e => hk (by simp [e]))]
  refine OwnT.make ho (by rw [List.length_set, List.length_set]; exact hl) (own_thset ho (by omega) ⟨s, A', n', c'⟩) hg (fun i x T h1 h2 => ?_)
  by_cases hij : j = i
  · subst hij
    rw [List.getElem?_set_self (by omega)] at h1 h2
    injection h1 with h1
    injection h2 with h2
    subst h1 h2
    exact ⟨rfl, hrow⟩
  · rw [List.getElem?_set_ne hij] at h1 h2
    exact hK i x T h1 h2
theorem OwnT.len {w : World} {base n c : Nat} {A : Option Addr} {TT : List Tb} (h : OwnT w base (.slice A n c) TT) : n = TT.length := by
  obtain ⟨A', c', e, _, _⟩ := h.rd
  injection e
theorem OwnT.lt {w : World} {base g n c : Nat} {TT : List Tb} (h : OwnT w base (.slice (some ⟨g, 0, none⟩) n c) TT) : base ≤ g ∧ g < w.heap.size := by
  obtain ⟨hs, _, ho, _⟩ := h
  exact ho.lt (g := g) rfl
theorem Two.c0 {w : World} {b : Nat} {u v : Value} (h : Two w b u v) : w.cell? ⟨b, 0, none⟩ = some u := by obtain ⟨h1, _⟩ := h; exact h1
theorem Two.blt {w : World} {b : Nat} {u v : Value} (h : Two w b u v) : b < w.heap.size := by obtain ⟨_, _, _, _, h1⟩ := h; exact h1
theorem tb_cells {w : World} {base g n c : Nat} {TT : List Tb} (h : OwnT w base (.slice (some ⟨g, 0, none⟩) n c) TT) {j : Nat} (hj : j < TT.length) : (∃ x, w.cell? ⟨g, j * 2, none⟩ = some (.string x)) ∧ (∃ A m k, w.cell? ⟨g, j * 2 + 1, none⟩ = some (.slice A m k)) ∧ w.frozen? ⟨g, j * 2, none⟩ = false ∧ w.frozen? ⟨g, j * 2 + 1, none⟩ = false ∧ g < w.heap.size := by
  obtain ⟨hs, hl, ho, _⟩ := h
  exact own_thcell ho (by omega)
theorem two_grown {w w' : World} {b : Nat} {u v : Value} {row : Option Nat} (h : Two w b u v) (hg : w.grownBy w' row) (hb : row ≠ some b) : Two w' b u v := by
  have e := hg.block b h.2.2.2.2 (fun x => hb x.symm)
  have hc : ∀ o, w'.cell? ⟨b, o, none⟩ = w.cell? ⟨b, o, none⟩ := fun o => by simp only [World.cell?, e]
  have hf : ∀ o, w'.frozen? ⟨b, o, none⟩ = w.frozen? ⟨b, o, none⟩ := fun o => by simp only [World.frozen?, e]
  exact ⟨(hc 0).trans h.1, (hc 1).trans h.2.1, (hf 0).trans h.2.2.1, (hf 1).trans h.2.2.2.1, Nat.lt_of_lt_of_le h.2.2.2.2 hg.size⟩
set_option maxRecDepth 1000000 in
set_option maxHeartbeats 16000000 in
theorem sf_with (A : Option Addr) (N c : Nat) (TT : List Tb) (s : ByteArray) (D : Option Addr) (n d : Nat) (L : List Int) (w : World) (h : RdTL w w.heap.size A TT) (hN : N = TT.length) (hf : FewT TT) (hL : N ≤ 100000) (hr : RdB w w.heap.size D L) (hn : n = L.length) (hn2 : L.length ≤ 1000000) :
    Calls Tryz.prog 48 #[.slice A N c, .agg #[.string s, .slice D n d]] w fun e w' => ∃ v, e = .returned v ∧ OwnT w' w.heap.size v (withT TT ⟨s, L⟩) ∧ Since w w' := by
  have hmf : ∀ (fn : Fn) (first cap : Array Value) (w : World), (Instr.makeFunc fn first cap).run Tryz.prog w = .ok (.func fn first cap) w := fun _ _ _ _ => rfl
  obtain ⟨R, hR⟩ : ∃ R, R = withT TT ⟨s, L⟩ := ⟨_, rfl⟩
  rw [← hR]
  have HR := Lib.hid hR
  have HN := Lib.hid hN
  have HF := Lib.hid hf
  have hNI : (N : Int) ≤ 100000 := by omega
  have hRT := Lib.hid (fun (w2 : World) (h2 : Since w w2) => h.on h2)
  have HFR := Lib.hid (fun (w2 : World) (h2 : Since w w2) => sf_fresh s D n d L w2 (hr.on h2) hn (by omega))
  have HI1 := Lib.hid (fun (b : Nat) (w2 : World) (h2 : Since w w2) (hb : w2.cell? ⟨b, 0, none⟩ = some (.string s)) (hbw : b < w2.heap.size) => sf_index_with1 s A N c TT b w2 (h.on h2) hN (by simp only [maxLen]; omega) hb hbw)
  have HI2 := Lib.hid (fun (b : Nat) (w2 : World) (h2 : Since w w2) (hb : w2.cell? ⟨b, 0, none⟩ = some (.string s)) (hbw : b < w2.heap.size) => sf_index_with2 s A N c TT b w2 (h.on h2) hN (by simp only [maxLen]; omega) hb hbw)
  have m1 : IntKind.i64.wrap ((N : Int) + 1) = ((N + 1 : Nat) : Int) := by rw [IntKind.wrap_i64]; omega
  obtain ⟨inf, z, hinf, hz, hsz, hby, _⟩ := infoTb
  clear h hr hn hR hN hf hn2
  go_enter Tryz.func48, Tryz.ntmps48
  go_wp2_with (at_make; refine wpList_make_own _ rfl _ _ _ rfl w.heap.size 49 inf z 2 Tryz.underlying22 hinf hz hsz .i64 .i64 _ (N + 1) rfl rfl rfl (by rw [hby]; omega) (by simp only [maxLen]; omega) (by simp) ?_; intro w1 hO1 hg1)
  have hS0 : Since (w.alloc (.cells #[.string s, .slice D n d] 49)) w1 := since_grown (Since.refl _) hg1 (fun q hq => by cases hq)
  have hT1 := (two_new w w.heap.size rfl (.string s) (.slice D n d) 49).since hS0
  have hS1 : Since w w1 := ((Since.refl w).alloc _).trans hS0
  have hO2 : OwnT w1 w.heap.size (.slice (some ⟨(w.alloc (.cells #[.string s, .slice D n d] 49)).heap.size, 0, none⟩) 0 (N + 1)) (TT.take 0) := ⟨[], rfl, hO1, fun j x T h1 _ => by simp at h1⟩
  rw [show (w.alloc (.cells #[.string s, .slice D n d] 49)).heap.size = w.heap.size + 1 by simp] at hO2
  obtain ⟨g, hg⟩ : ∃ g, g = w.heap.size + 1 := ⟨_, rfl⟩
  have hgw : w.heap.size ≤ g := by omega
  obtain ⟨b0, hb0⟩ : ∃ b0, b0 = w.heap.size := ⟨_, rfl⟩
  have hgb : b0 < g := by omega
  rw [← hg] at hO2 ⊢
  rw [← hb0] at hT1 ⊢
  have HGW := Lib.hid hgw
  clear hO1 hg1 hS0 hg hb0 hgw hinf hz hsz hby
  go_loopw [5, 16] (fun v y wr => ∃ (j : Nat), j ≤ N ∧ y = .int .i64 (j : Int) ∧ v = .slice (some ⟨g, 0, none⟩) j (N + 1) ∧ OwnT wr w.heap.size (.slice (some ⟨g, 0, none⟩) j (N + 1)) (TT.take j) ∧ Two wr b0 (.string s) (.slice D n d) ∧ Since w wr) (fun _ y _ => N - (intOf y).toNat)
  case atStart => exact ⟨0, by omega, rfl, rfl, hO2, hT1, hS1⟩
  case round =>
    obtain ⟨j, hj, rfl, rfl, hO, hT, hS⟩ := hrel
    clear hO2 hT1 hS1
    by_cases hjn : j < N
    · have hjn' : (j : Int) < N := by omega
      have hjL : j < TT.length := by rw [← HN.out]; exact hjn
      have hTj : TT[j]? = some TT[j] := List.getElem?_eq_getElem hjL
      have hml := (HF.out.2 _ (List.mem_of_getElem? hTj)).1
      have HTK := Lib.hid (show TT.take (j + 1) = TT.take j ++ [TT[j]] from List.take_succ_eq_append_getElem hjL)
      obtain ⟨b, o, A', c', rfl, hb, hc1, hc2, hK⟩ := (hRT.out wr hS).row hTj
      have HFJ := Lib.hid (fun (w2 : World) (h2 : Since wr w2) => sf_fresh TT[j].tag A' TT[j].data.length c' TT[j].data w2 (hK.on h2) rfl (by omega))
      generalize TT[j] = T at *
      obtain ⟨u, M⟩ := T
      simp only at hc1 hc2 HTK HFJ
      generalize TT.take j = LJ at *
      obtain ⟨l, hl⟩ : ∃ l, l = M.length := ⟨_, rfl⟩
      rw [← hl] at hc2 HFJ
      clear hTj hK hjL hml hl
      go_wp2_with (first | (go_at_call 91; (with_reducible refine (HFJ.out _ ((Since.refl wr).alloc _)).mono ?_); rintro e w4 ⟨A4, c4, rfl, hO4, hS4⟩; have hX4 : Since wr w4 := ((Since.refl wr).alloc _).trans hS4; have hO5 := hO.since hX4; have hO6 := OwnG.low (base' := w.heap.size) hO4 (by have := hS.below.size; simp; omega); have hT4 := hT.since hX4; have hS5 := hS.trans hX4) | (at_builtin; refine wpList_append_tr rfl _ _ rfl w.heap.size g j (N + 1) LJ rfl (hO5.since ((Since.refl w4).alloc _)) (by omega) _ _ u A4 l c4 M rfl (by rw [World.cell?_alloc_new]; rfl) (by rw [World.cell?_alloc_new]; rfl) (OwnG.alloc hO6 _) ?_; intro w6 hO7 hg7))
      have hne : ¬ some b0 = some g := by simpa using (by omega : ¬ b0 = g)
      have hT7 : Two w6 b0 (.string s) (.slice D n d) := two_grown (hT4.since ((Since.refl w4).alloc _)) hg7 (fun e => hne e.symm)
      have hS7 : Since w w6 := since_grown (hS5.alloc _) hg7 (fun q hq => by injection hq with hq; subst hq; exact HGW.out)
      go_roundw
      case rel => exact ⟨j + 1, by omega, by first | rfl | go_num | simp, by rfl, by rw [HTK.out]; exact hO7, hT7, hS7⟩
      case measure => simp [intOf]; omega
    · obtain rfl : N = j := by omega
      have hjn' : ¬ (N : Int) < (N : Int) := by omega
      have e : TT.take N = TT := by rw [HN.out]; exact List.take_length
      rw [e] at hO
      clear e
      have hgl := hO.lt.2
      rcases ixF_range (eqT s) TT with h1 | ⟨k, h1, hk⟩
      · rcases ixF_range (gtT s) TT with h2 | ⟨k, h2, hk⟩

        · have HE := Lib.hid (show R = TT.take N ++ ⟨s, L⟩ :: TT.drop N by rw [HR.out]; first | exact withT_ins (T := ⟨s, L⟩) h1 h2 | (rw [HN.out]; exact withT_end (T := ⟨s, L⟩) h1 h2))
          have hkN : N ≤ N := by have := HN.out; omega
          have d1 : ¬ (0 : Int) ≤ -1 := by omega
          have d2 : ¬ (N : Int) < 0 := by omega
          rw [h1] at HI1
          rw [h2] at HI2
          have HII := Lib.hid (fun (w2 : World) (b : Nat) (A4 : Option Addr) (c4 : Nat) (hO : OwnT w2 w.heap.size (.slice (some ⟨g, 0, none⟩) N (N + 1)) TT) (hb : w2.heap[b]? = some (.cells #[.string s, .slice A4 n c4] 49 (0, 0))) (hne : b ≠ g) (hrow : OwnB w2 w.heap.size (.slice A4 n c4) L) => sf_insert w.heap.size g N (N + 1) N TT s A4 n c4 L b 1 49 hO HN.out hkN (by omega) (by omega) hb hne hrow)
          clear h1 h2 hkN
          try clear hk
          go_wp2_with (first | (go_at_call 75; (with_reducible refine (HI1.out b0 wr hS hT.c0 hT.blt).mono ?_); rintro e w2 ⟨rfl, hS2⟩; have hX2 := hS.trans hS2; have hT2 := hT.since hS2; have hO2 := hO.since hS2) | (go_at_call 75; (with_reducible refine (HI2.out b0 _ hX2 hT2.c0 hT2.blt).mono ?_); rintro e w3 ⟨rfl, hS3⟩; have hX3 := hX2.trans hS3; have hT3 := hT2.since hS3; have hO3 := hO2.since hS3; obtain ⟨q1, q2, q3, q4, q5⟩ := id hT3) | (go_at_call 91; (with_reducible refine (HFR.out _ hX3).mono ?_); rintro e w4 ⟨A4, c4, rfl, hO4, hS4⟩; have hX4 := hX3.trans hS4; have hO5 := hO3.since hS4; have hO6 := OwnG.low (base' := w.heap.size) hO4 hX3.below.size) | (go_at_call 94; (with_reducible refine (HII.out _ _ A4 c4 (hO5.since ((Since.refl w4).alloc _)) (heap_alloc_new w4 _) (by have := hO5.lt; omega) (OwnG.alloc hO6 _)).mono ?_); rintro e w5 ⟨rfl, hO7, hg7⟩; have hX7 := since_grown (hX4.alloc _) hg7 (fun q hq => by injection hq with hq; subst hq; exact HGW.out)))
          go_ret
          rw [HE.out]
          exact ⟨_, rfl, hO7, hX7⟩

        · have HE := Lib.hid (show R = TT.take k ++ ⟨s, L⟩ :: TT.drop k by rw [HR.out]; first | exact withT_ins (T := ⟨s, L⟩) h1 h2 | (rw [HN.out]; exact withT_end (T := ⟨s, L⟩) h1 h2))
          have hkN : k ≤ N := by have := HN.out; omega
          have d1 : ¬ (0 : Int) ≤ -1 := by omega
          have d2 : ¬ (k : Int) < 0 := by omega
          rw [h1] at HI1
          rw [h2] at HI2
          have HII := Lib.hid (fun (w2 : World) (b : Nat) (A4 : Option Addr) (c4 : Nat) (hO : OwnT w2 w.heap.size (.slice (some ⟨g, 0, none⟩) N (N + 1)) TT) (hb : w2.heap[b]? = some (.cells #[.string s, .slice A4 n c4] 49 (0, 0))) (hne : b ≠ g) (hrow : OwnB w2 w.heap.size (.slice A4 n c4) L) => sf_insert w.heap.size g N (N + 1) k TT s A4 n c4 L b 1 49 hO HN.out hkN (by omega) (by omega) hb hne hrow)
          clear h1 h2 hkN
          try clear hk
          go_wp2_with (first | (go_at_call 75; (with_reducible refine (HI1.out b0 wr hS hT.c0 hT.blt).mono ?_); rintro e w2 ⟨rfl, hS2⟩; have hX2 := hS.trans hS2; have hT2 := hT.since hS2; have hO2 := hO.since hS2) | (go_at_call 75; (with_reducible refine (HI2.out b0 _ hX2 hT2.c0 hT2.blt).mono ?_); rintro e w3 ⟨rfl, hS3⟩; have hX3 := hX2.trans hS3; have hT3 := hT2.since hS3; have hO3 := hO2.since hS3; obtain ⟨q1, q2, q3, q4, q5⟩ := id hT3) | (go_at_call 91; (with_reducible refine (HFR.out _ hX3).mono ?_); rintro e w4 ⟨A4, c4, rfl, hO4, hS4⟩; have hX4 := hX3.trans hS4; have hO5 := hO3.since hS4; have hO6 := OwnG.low (base' := w.heap.size) hO4 hX3.below.size) | (go_at_call 94; (with_reducible refine (HII.out _ _ A4 c4 (hO5.since ((Since.refl w4).alloc _)) (heap_alloc_new w4 _) (by have := hO5.lt; omega) (OwnG.alloc hO6 _)).mono ?_); rintro e w5 ⟨rfl, hO7, hg7⟩; have hX7 := since_grown (hX4.alloc _) hg7 (fun q hq => by injection hq with hq; subst hq; exact HGW.out)))
          go_ret
          rw [HE.out]
          exact ⟨_, rfl, hO7, hX7⟩

      · have HE := Lib.hid (show R = TT.set k ⟨s, L⟩ by rw [HR.out]; exact withT_at (T := ⟨s, L⟩) h1)
        have hkN : (k : Int) < (N : Int) := by have := HN.out; omega
        have d1 : (0 : Int) ≤ (k : Int) := by omega
        have HK := Lib.hid hk
        rw [h1] at HI1
        clear h1 hk
        go_upto_region 9 with (go_at_call 75; (with_reducible refine (HI1.out b0 wr hS hT.c0 hT.blt).mono ?_); rintro e w2 ⟨rfl, hS2⟩; have hX2 := hS.trans hS2; have hT2 := hT.since hS2; have hO2 := hO.since hS2)
        obtain ⟨q1, q2, q3, q4, q5⟩ := id hT2
        have HC := Lib.hid (fun (w3 : World) (h3 : OwnT w3 w.heap.size (.slice (some ⟨g, 0, none⟩) N (N + 1)) TT) => tb_cells h3 HK.out)
        go_wp2_with (go_at_call 91; (with_reducible refine (HFR.out _ hX2).mono ?_); rintro e w4 ⟨A4, c4, rfl, hO4, hS4⟩; have hX4 := hX2.trans hS4; have hO5 := hO2.since hS4; have hO6 := OwnG.low (base' := w.heap.size) hO4 hX2.below.size; obtain ⟨⟨x1, r1⟩, ⟨y1, y2, y3, r2⟩, r3, r4, r5⟩ := HC.out _ hO5)
        go_ret
        rw [HE.out]
        exact ⟨_, rfl, hO5.put HK.out hO6, (hX4.setCell (p := ⟨g, k * 2, none⟩) HGW.out _).setCell (p := ⟨g, k * 2 + 1, none⟩) HGW.out _⟩
end Go.Proofs.YteckkcpnfeoehaaGreatDoor

/-
  Layer 4: the document's With: what holds while it makes its answer.
-/
namespace Go.Proofs.YteckkcpnfeoehaaGreatDoor
set_option maxRecDepth 100000
open Go.RowKit Go.ChangeShapes Go.WideShapes Go.Deep
set_option linter.unusedVariables false
set_option linter.unusedSimpArgs false

theorem wpList_append_tb {w : World} {ops : Array Oper} {rest : List Oper} {o : Oper} {a : Act} {Q : Exit → Act → World → Prop} (hgd : o.guard = none) (s x : Operand)
    (ho : o.op = .call { callee := .builtin .append, args := #[s, x], argTypes := #[22, 22] })
    (base : Nat) (v : Value) (TT : List Tb) (hs : a.eval s = v) (hown : OwnT w base v TT) (b c : Nat) (t : ByteArray) (A' : Option Addr) (n' c' : Nat) (L : List Int) (hx : a.eval x = .slice (some ⟨b, 0, none⟩) 1 c) (ty : TypeId) (hb : b = w.heap.size) (hrow : OwnB w base (.slice A' n' c') L) (hL : TT.length ≤ 1000000) (hbase : base ≤ w.heap.size)
    (h : ∀ v' w', OwnT w' base v' (TT ++ [⟨t, L⟩]) → (w.alloc (.cells #[.string t, .slice A' n' c'] ty)).grownBy w' v.ownBlock → wpList Tryz.prog ops Q rest (a.put o.dst v') w') :
    wpList Tryz.prog ops Q (o :: rest) a (w.alloc (.cells #[.string t, .slice A' n' c'] ty)) :=
  wpList_plain hgd fun K hK => oper_append_tb s x ho base v TT hs hown b c t A' n' c' L hx ty hb hrow hL hbase (fun v' w' h1 h2 _ => hK _ _ (h v' w' h1 h2))
/-- The answer so far; the table that comes in, in its box, with data of its own. -/
structure WS (w : World) (B1 b0 : Nat) (s : ByteArray) (D : Option Addr) (n c : Nat) (L : List Int) (v : Value) (OUT : List Tb) (wr : World) : Prop where
  own : OwnT wr B1 v OUT
  two : Two wr b0 (.string s) (.slice D n c)
  row : OwnB wr B1 (.slice D n c) L
  hS : Since w wr
  lo : w.heap.size ≤ b0
  hi : b0 < B1
  top : B1 ≤ wr.heap.size
section
variable {w wr w2 : World} {B1 b0 n c : Nat} {s : ByteArray} {D : Option Addr} {L : List Int} {v : Value} {OUT : List Tb}
theorem WS.since (h : WS w B1 b0 s D n c L v OUT wr) (k : Since wr w2) : WS w B1 b0 s D n c L v OUT w2 :=
  ⟨h.own.since k, h.two.since k, OwnG.since h.row k, h.hS.trans k, h.lo, h.hi, Nat.le_trans h.top k.below.size⟩
theorem WS.app (h : WS w B1 b0 s D n c L v OUT wr) {v' : Value} {OUT' : List Tb} (hO : OwnT w2 B1 v' OUT') (hg : wr.grownBy w2 v.ownBlock) : WS w B1 b0 s D n c L v' OUT' w2 := by
  have hne : 49 ≠ 5 := by decide
  obtain ⟨hs, _, ho, _⟩ := h.own
  refine ⟨hO, two_grown h.two hg (fun e => ?_), OwnG.grown h.row hg (fun q hq e => own_apart ho h.row hne e hq), since_grown h.hS hg (fun q hq => ?_), h.lo, h.hi, Nat.le_trans h.top hg.size⟩
  · have := (ho.lt e).1; have := h.hi; omega
  · have := (ho.lt hq).1; have := h.hi; have := h.lo; omega
end
theorem ws_apart {w wr : World} {B1 b0 n c : Nat} {s : ByteArray} {D : Option Addr} {L : List Int} {v : Value} {OUT : List Tb} (h : WS w B1 b0 s D n c L v OUT wr) : v.ownBlock ≠ some wr.heap.size := fun e => by
  obtain ⟨hs, _, ho, _⟩ := h.own
  have := (ho.lt e).2
  omega
/-- The answer behind j tables, where one is put in at a. -/
def outI (TT : List Tb) (a : Nat) (T : Tb) (j : Nat) : List Tb := if j ≤ a then TT.take j else TT.take a ++ T :: (TT.take j).drop a
/-- .. where it takes the a-th one's place. -/
def outR (TT : List Tb) (a : Nat) (T : Tb) (j : Nat) : List Tb := if j ≤ a then TT.take j else (TT.take j).set a T
theorem outI_len (TT : List Tb) (a : Nat) (T : Tb) (j : Nat) : (outI TT a T j).length ≤ TT.length + 1 := by
  unfold outI; split <;> simp only [List.length_take, List.length_append, List.length_cons, List.length_drop] <;> omega
theorem outR_len (TT : List Tb) (a : Nat) (T : Tb) (j : Nat) : (outR TT a T j).length ≤ TT.length + 1 := by
  unfold outR; split <;> simp only [List.length_take, List.length_set] <;> omega
theorem outI_step {TT : List Tb} {a j : Nat} {T X : Tb} (hX : TT[j]? = some X) (h : j ≠ a) : outI TT a T (j + 1) = outI TT a T j ++ [X] := by
  have hl : j < TT.length := by
    rcases Nat.lt_or_ge j TT.length with h | h
    · exact h
    · rw [List.getElem?_eq_none h] at hX; cases hX
  have e : TT[j] = X := by rw [List.getElem?_eq_getElem hl] at hX; exact Option.some.inj hX
  unfold outI
  rcases Nat.lt_or_ge j a with h1 | h1
  · rw [if_pos (by omega), if_pos (by omega), List.take_succ_eq_append_getElem hl, e]
  · rw [if_neg (by omega), if_neg (by omega), List.take_succ_eq_append_getElem hl, e, List.drop_append_of_le_length (by rw [List.length_take]; omega), List.append_assoc]; rfl
theorem outI_at {TT : List Tb} {a : Nat} {T X : Tb} (hX : TT[a]? = some X) : outI TT a T (a + 1) = (outI TT a T a ++ [T]) ++ [X] := by
  have hl : a < TT.length := by
    rcases Nat.lt_or_ge a TT.length with h | h
    · exact h
    · rw [List.getElem?_eq_none h] at hX; cases hX
  have e : TT[a] = X := by rw [List.getElem?_eq_getElem hl] at hX; exact Option.some.inj hX
  unfold outI
  rw [if_neg (by omega), if_pos (by omega), List.take_succ_eq_append_getElem hl, e, List.drop_append_of_le_length (by rw [List.length_take]; omega), List.drop_eq_nil_of_le (by rw [List.length_take]; omega), List.append_assoc]; rfl
theorem outR_step {TT : List Tb} {a j : Nat} {T X : Tb} (hX : TT[j]? = some X) (h : j ≠ a) : outR TT a T (j + 1) = outR TT a T j ++ [X] := by
  have hl : j < TT.length := by
    rcases Nat.lt_or_ge j TT.length with h | h
    · exact h
    · rw [List.getElem?_eq_none h] at hX; cases hX
  have e : TT[j] = X := by rw [List.getElem?_eq_getElem hl] at hX; exact Option.some.inj hX
  unfold outR
  rcases Nat.lt_or_ge j a with h1 | h1
  · rw [if_pos (by omega), if_pos (by omega), List.take_succ_eq_append_getElem hl, e]
  · rw [if_neg (by omega), if_neg (by omega), List.take_succ_eq_append_getElem hl, e, List.set_append_left _ _ (by rw [List.length_take]; omega)]
theorem outR_at {TT : List Tb} {a : Nat} {T X : Tb} (hX : TT[a]? = some X) : outR TT a T (a + 1) = outR TT a T a ++ [T] := by
  have hl : a < TT.length := by
    rcases Nat.lt_or_ge a TT.length with h | h
    · exact h
    · rw [List.getElem?_eq_none h] at hX; cases hX
  have hm : (TT.take a).length = a := by rw [List.length_take]; omega
  unfold outR
  rw [if_neg (by omega), if_pos (by omega), List.take_succ_eq_append_getElem hl, List.set_append_right _ _ (by omega), hm, Nat.sub_self]; rfl
theorem outI_end {TT : List Tb} {a : Nat} {T : Tb} (h : a < TT.length) : outI TT a T TT.length = TT.take a ++ T :: TT.drop a := by
  unfold outI; rw [if_neg (by omega), List.take_length]
theorem outI_last {TT : List Tb} {T : Tb} : outI TT TT.length T TT.length ++ [T] = TT.take TT.length ++ T :: TT.drop TT.length := by
  unfold outI; rw [if_pos (Nat.le_refl _), List.take_length, List.drop_length]
theorem outR_end {TT : List Tb} {a : Nat} {T : Tb} (h : a < TT.length) : outR TT a T TT.length = TT.set a T := by
  unfold outR; rw [if_neg (by omega), List.take_length]
theorem gt_none {TT : List Tb} {s : ByteArray} {a : Nat} (h : ∀ U, U ∈ TT.take a → gtT s U = false) {X : Tb} (hX : TT[a]? = some X) (hg : gtT s X = true) : ixF (gtT s) 0 TT = (a : Int) := by
  rw [ixF_some TT 0 a X hX hg h, Nat.zero_add]
theorem outR_zero (TT : List Tb) (a : Nat) (T : Tb) : outR TT a T 0 = [] := by unfold outR; rw [if_pos (by omega)]; rfl
theorem outI_zero (TT : List Tb) (a : Nat) (T : Tb) : outI TT a T 0 = [] := by unfold outI; rw [if_pos (by omega)]; rfl
theorem ws_start (w : World) (s : ByteArray) (D D' : Option Addr) (n d c' : Nat) (L : List Int) (wc : World) (hS : Since (w.alloc (.cells #[.string s, .slice D n d] 49)) wc) (hO : OwnB wc (w.heap.size + 1) (.slice D' n c') L) : WS w (w.heap.size + 1) w.heap.size s D' n c' L (.slice none 0 0) [] (wc.setCell ⟨w.heap.size, 1, none⟩ (.slice D' n c')) := by
  obtain ⟨q1, q2, q3, q4, q5⟩ := (two_new w w.heap.size rfl (.string s) (.slice D n d) 49).since hS
  refine ⟨OwnT.nil _ _, ⟨?_, ?_, (World.frozen?_setCell _ _ _ _).trans q3, (World.frozen?_setCell _ _ _ _).trans q4, by simpa [World.setCell] using q5⟩, own_setlow hO (by omega) _ _, (((Since.refl w).alloc _).trans hS).setCell (p := ⟨w.heap.size, 1, none⟩) (Nat.le_refl _) _, Nat.le_refl _, by omega, ?_⟩
  · rw [cell_set, if_neg (fun e => by simp at e)]; exact q1
  · rw [cell_set, if_pos ⟨rfl, rfl⟩, q2]; simp
  · have := hS.below.size; simp at this; simpa [World.setCell] using this
end Go.Proofs.YteckkcpnfeoehaaGreatDoor

/-
  Layer 4: the document's With, walked.
-/
namespace Go.Proofs.YteckkcpnfeoehaaGreatDoor
set_option maxRecDepth 100000
open Go.RowKit Go.ChangeShapes Go.WideShapes Go.Deep
set_option linter.unusedVariables false
set_option linter.unusedSimpArgs false

set_option maxRecDepth 1000000 in
set_option maxHeartbeats 32000000 in
theorem rf_with4 (A : Option Addr) (N c : Nat) (TT : List Tb) (s : ByteArray) (D : Option Addr) (n d : Nat) (L : List Int) (w : World) (h : RdTL w w.heap.size A TT) (hN : N = TT.length) (hf : FewT TT) (hr : RdB w w.heap.size D L) (hn : n = L.length) (hn2 : L.length ≤ 1000000) :
    Calls Tryz.prog 53 #[.slice A N c, .agg #[.string s, .slice D n d]] w fun e w' => ∃ v, e = .returned v ∧ OwnT w' w.heap.size v (withT TT ⟨s, L⟩) ∧ Since w w' := by
  obtain ⟨R, hR⟩ : ∃ R, R = withT TT ⟨s, L⟩ := ⟨_, rfl⟩
  rw [← hR]
  have HR := Lib.hid hR
  have HN := Lib.hid hN
  have HF := Lib.hid hf
  have hL := hf.1
  rw [← hN] at hL
  have hNI : (N : Int) ≤ 100000 := by omega
  have hRT := Lib.hid (fun (w2 : World) (h2 : Since w w2) => h.on h2)
  have HCP := Lib.hid (fun (w2 : World) (h2 : Since w w2) => copy_l D n d L w2 hn (hr.on h2) (by omega))
  have HFI := Lib.hid (fun (w2 : World) (h2 : Since w w2) => rf_find s A N c TT w2 (h.on h2) hN (by simp only [maxLen]; omega))
  clear h hr hn hR hN hf hn2
  rcases ixF_range (eqT s) TT with h1 | ⟨k, h1, hk⟩
  · rw [h1] at HFI
    have H1 := Lib.hid h1
    clear h1
    go_enter Tryz.func53, Tryz.ntmps53
    go_upto_if 20 with (first | (go_at_call 24; (with_reducible refine (HCP.out _ ((Since.refl w).alloc _)).mono ?_); rintro e w2 ⟨g2, c2, rfl, hc2, hg2, hO2, hr2, hS2⟩; obtain ⟨q1, q2, q3, q4, q5⟩ := (two_new w w.heap.size rfl (.string s) (.slice D n d) 49).since hS2; have hW := ws_start w s D (some ⟨g2, 0, none⟩) n d c2 L w2 hS2 (OwnG.low hO2 (by simp)); have hX2 := hW.hS) | (go_at_call 27; (with_reducible refine (HFI.out _ hX2).mono ?_); rintro e w3 ⟨rfl, hS3⟩; have hW3 := hW.since hS3))
    clear hX2 q1 q2 q3 q4 q5 hS2 hr2 hO2 hW hS3 HFI HCP
    obtain ⟨B1, hB1⟩ : ∃ B1, B1 = w.heap.size + 1 := ⟨_, rfl⟩
    obtain ⟨b0, hb0⟩ : ∃ b0, b0 = w.heap.size := ⟨_, rfl⟩
    rw [← hB1, ← hb0] at hW3
    rw [← hb0]
    clear hB1 hb0
    obtain ⟨q1, q2, q3, q4, q5⟩ := id hW3.two
    have HNE : Hid (∀ X, X ∈ TT → eqT s X = false) := Lib.hid (by
      rcases ixF_cases (eqT s) TT 0 with ⟨_, h⟩ | ⟨j, T, h, _⟩
      · exact h
      · have := H1.out; omega)
    go_cut [6] (fun v wx => ∃ a : Nat, a ≤ N ∧ v = .int .i64 (a : Int) ∧ Hid ((a = N ∧ ixF (gtT s) 0 TT = -1) ∨ (a < N ∧ ixF (gtT s) 0 TT = (a : Int))) ∧ Since w3 wx)
    case first =>
      go_wp2_with fail
      go_loopw [6] (fun y wr => ∃ a : Nat, a ≤ N ∧ y = .int .i64 (a : Int) ∧ Hid (∀ U, U ∈ TT.take a → gtT s U = false) ∧ Since w3 wr) (fun y _ => N - (intOf y).toNat)
      case atStart => exact ⟨0, by omega, by first | rfl | simp, Lib.hid (by simp), Since.refl _⟩
      case round =>
        obtain ⟨a, ha, rfl, HA, hS⟩ := hrel
        by_cases haN : a < N
        · have haI : (a : Int) < (N : Int) := by omega
          have d1 : decide ((a : Int) < (N : Int)) = true := by simp; omega
          have haL : a < TT.length := by rw [← HN.out]; exact haN
          have hT : TT[a]? = some TT[a] := List.getElem?_eq_getElem haL
          obtain ⟨b, o, A', c', rfl, hb, hc1, hc2, _⟩ := (hRT.out wr (hW3.hS.trans hS)).row hT
          have hne := HNE.out _ (List.mem_of_getElem? hT)
          have q1 := (hW3.two.since hS).c0
          have q5 := (hW3.two.since hS).blt
          generalize TT[a] = X at *
          have HT := Lib.hid hT
          generalize X.data.length = l at *
          have htri := less_tri X.tag.toList s.toList
          unfold eqT at hne
          have hne2 : (s.toList == X.tag.toList) = false := by
            have h1 : ¬ X.tag.toList = s.toList := by simpa using hne
            simpa using fun e => h1 e.symm
          rw [hne2, Bool.or_false] at htri
          cases hg : gtT s X
          · have HG := Lib.hid hg
            unfold gtT at hg
            rw [hg] at htri
            generalize hs : X.tag = u at *
            have e1 : Op.bytesLess u.toList s.toList = true := by simpa using htri
            clear htri hT haL
            go_upto_region 6 with fail
            go_quiet (fail)
            go_wp2_with fail
            exact ⟨⟨a + 1, by omega, by first | rfl | go_num | simp, Lib.hid (take_none HA.out HT.out HG.out), by (repeat (first | with_reducible (exact Since.refl _) | with_reducible assumption | with_reducible (refine Since.drew ?_) | with_reducible (refine Since.drewN ?_ _) | with_reducible (refine Since.alloc ?_ _) | (with_reducible (refine Since.setCell ?_ ?_ _); rotate_left; focus (first | (simp; done) | (simp; omega) | omega)) | (with_reducible (refine Since.trans ?_ (by with_reducible assumption)))))⟩, by simp [intOf]; omega⟩
          · have HG := Lib.hid (gt_none HA.out HT.out hg)
            unfold gtT at hg
            rw [hg] at htri
            generalize hs : X.tag = u at *
            have e1 : Op.bytesLess u.toList s.toList = false := by
              cases he : Op.bytesLess u.toList s.toList
              · rfl
              · rw [he] at htri; simp at htri
            clear htri hT haL
            go_upto_region 6 with fail
            go_quiet (fail)
            go_wp2_with fail
            go_meet
            exact ⟨a, by omega, by first | rfl | simp, Lib.hid (.inr ⟨by omega, HG.out⟩), by (repeat (first | with_reducible (exact Since.refl _) | with_reducible assumption | with_reducible (refine Since.drew ?_) | with_reducible (refine Since.drewN ?_ _) | with_reducible (refine Since.alloc ?_ _) | (with_reducible (refine Since.setCell ?_ ?_ _); rotate_left; focus (first | (simp; done) | (simp; omega) | omega)) | (with_reducible (refine Since.trans ?_ (by with_reducible assumption)))))⟩
        · obtain rfl : N = a := by omega
          have haI : ¬ (N : Int) < (N : Int) := by omega
          have d1 : decide ((N : Int) < (N : Int)) = false := by simp
          have HA2 := Lib.hid (ixF_none TT 0 (by have := HA.out; rw [HN.out, List.take_length] at this; exact this))
          go_upto_region 6 with fail
          go_quiet (fail)
          go_wp2_with fail
          go_meet
          exact ⟨N, by omega, by first | rfl | simp, Lib.hid (.inl ⟨rfl, HA2.out⟩), by (repeat (first | with_reducible (exact Since.refl _) | with_reducible assumption | with_reducible (refine Since.drew ?_) | with_reducible (refine Since.drewN ?_ _) | with_reducible (refine Since.alloc ?_ _) | (with_reducible (refine Since.setCell ?_ ?_ _); rotate_left; focus (first | (simp; done) | (simp; omega) | omega)) | (with_reducible (refine Since.trans ?_ (by with_reducible assumption)))))⟩
    obtain ⟨a, ha, rfl, HAA, hSc⟩ := hcut
    have hWc := hW3.since hSc
    clear hW3 hSc q1 q2 q3 q4 q5
    obtain ⟨q1, q2, q3, q4, q5⟩ := id hWc.two
    go_wp2_with fail
    go_loopw [7, 39] (fun v y wr => ∃ j : Nat, j ≤ N ∧ y = .int .i64 (j : Int) ∧ WS w B1 b0 s (some ⟨g2, 0, none⟩) n c2 L v (outI TT a ⟨s, L⟩ j) wr) (fun _ y _ => N - (intOf y).toNat)
    case atStart => exact ⟨0, by omega, by first | rfl | simp, by rw [outI_zero]; exact hWc⟩
    case round =>
      obtain ⟨j, hj, rfl, hW⟩ := hrel
      clear hWc q1 q2 q3 q4 q5
      by_cases hjn : j < N
      · have hjn' : (j : Int) < (N : Int) := by omega
        have hjL : j < TT.length := by rw [← HN.out]; exact hjn
        have hTj : TT[j]? = some TT[j] := List.getElem?_eq_getElem hjL
        have hml := (HF.out.2 _ (List.mem_of_getElem? hTj)).1
        have hlt0 : (outI TT a ⟨s, L⟩ j).length ≤ 1000000 := by have := outI_len TT a ⟨s, L⟩ j; have := HN.out; omega
        obtain ⟨b, o, A', c', rfl, hb, hc1, hc2, hK⟩ := (hRT.out w (Since.refl w)).row hTj
        have HC := Lib.hid (fun (w2 : World) (h2 : Since w w2) => copy_l A' TT[j].data.length c' TT[j].data w2 rfl (hK.on h2) (by omega))
        have HSN := Lib.hid (fun (h : j ≠ a) => outI_step (T := ⟨s, L⟩) hTj h)
        have HSE := Lib.hid (fun (h : TT[a]? = some TT[j]) => outI_at (T := ⟨s, L⟩) h)
        have HTj := Lib.hid hTj
        generalize TT[j] = X at *
        obtain ⟨u, M⟩ := X
        simp only at hc1 hc2 HC HSN HSE HTj hml
        generalize hLJ : outI TT a ⟨s, L⟩ j = LJ at *
        obtain ⟨l, hl⟩ : ∃ l, l = M.length := ⟨_, rfl⟩
        rw [← hl] at hc2 HC hml
        have c1 := (hW.hS.1 _ _ hb).trans hc1
        have c2' := (hW.hS.1 _ _ hb).trans hc2
        have hbw := hW.hS.2.2.1 _ hb
        have hjm : ¬ (j : Int) = -1 := by omega
        have hjm2 : ((j : Int) == -1) = false := by first | (simp; done) | (simp; omega)
        clear hTj hK hjL hc1 hc2 hl
        obtain ⟨q1, q2, q3, q4, q5⟩ := id hW.two
        by_cases hja : j = a
        · have hja' := hja.symm
          subst hja'
          clear hja
          have HST := Lib.hid (show outI TT a ⟨s, L⟩ (a + 1) = (LJ ++ [⟨s, L⟩]) ++ [⟨u, M⟩] by rw [← hLJ]; exact HSE.out HTj.out)
          have hLJ2 := Lib.hid hLJ
          clear hLJ HSN HSE
          go_upto_region 13 with fail
          refine wp_named fun w4 hw4 => ?_
          have hS4 : Since wr w4 := by subst hw4; (repeat (first | with_reducible (exact Since.refl _) | with_reducible assumption | with_reducible (refine Since.drew ?_) | with_reducible (refine Since.drewN ?_ _) | with_reducible (refine Since.alloc ?_ _) | (with_reducible (refine Since.setCell ?_ ?_ _); rotate_left; focus (first | (simp; done) | (simp; omega) | omega)) | (with_reducible (refine Since.trans ?_ (by with_reducible assumption)))))
          have hB4 : Two w4 wr.heap.size (.string u) (.slice A' l c') := by subst hw4; exact two_new wr _ rfl _ _ _
          have hW4 := hW.since hS4
          have hap := ws_apart hW
          obtain ⟨q1, q2, q3, q4, q5⟩ := id hW4.two
          generalize hgb : wr.heap.size = gb at hB4 hap ⊢
          clear hw4 hgb
          have hlt : (LJ ++ [(⟨s, L⟩ : Tb)]).length ≤ 1000000 := by
            have h1 := outI_len TT a ⟨s, L⟩ a
            rw [hLJ2.out] at h1
            have := HN.out
            simp only [List.length_append, List.length_cons, List.length_nil]
            omega
          go_upto_region 15 with (at_builtin; refine wpList_append_tb rfl _ _ rfl B1 _ LJ rfl hW4.own _ 1 s (some ⟨g2, 0, none⟩) n c2 L rfl _ rfl hW4.row hlt0 hW4.top ?_; intro v6 w6 hO6 hg6; have hW6 := (hW4.since ((Since.refl w4).alloc _)).app hO6 hg6; have hB6 : Two w6 gb (.string u) (.slice A' l c') := two_grown (hB4.since ((Since.refl w4).alloc _)) hg6 hap)
          have hSw := hW6.hS
          obtain ⟨p1, p2, p3, p4, p5⟩ := id hB6
          go_region_law (first | (refine wanted_plain rfl (oper_append_tb (.tmp 54) (.tmp 61) rfl B1 _ (LJ ++ [(⟨s, L⟩ : Tb)]) (by simp [Act.eval, Act.put]) hW5.own _ 1 u (some ⟨g4, 0, none⟩) l c4 M (by simp [Act.eval, Act.put]) _ rfl hR5 hlt hW5.top ?_); intro v7 w7 hO7 hg7 hb7; have hW7 := (hW5.since ((Since.refl _).alloc _)).app hO7 hg7) | (go_simp; go_wp2_with (go_at_call 24; (with_reducible refine (HC.out _ (by (repeat (first | with_reducible (exact Since.refl _) | with_reducible assumption | with_reducible (refine Since.drew ?_) | with_reducible (refine Since.drewN ?_ _) | with_reducible (refine Since.alloc ?_ _) | (with_reducible (refine Since.setCell ?_ ?_ _); rotate_left; focus (first | (simp; done) | (simp; omega) | omega)) | (with_reducible (refine Since.trans ?_ (by with_reducible assumption))))))).mono ?_); rintro e w5 ⟨g4, c4, rfl, hc4, hg4, hR4, hr5, hS5⟩; have hX5 : Since w6 w5 := (by (repeat (first | with_reducible (exact Since.refl _) | with_reducible assumption | with_reducible (refine Since.drew ?_) | with_reducible (refine Since.drewN ?_ _) | with_reducible (refine Since.alloc ?_ _) | (with_reducible (refine Since.setCell ?_ ?_ _); rotate_left; focus (first | (simp; done) | (simp; omega) | omega)) | (with_reducible (refine Since.trans ?_ (by with_reducible assumption)))))); have hW5 := hW6.since hX5; have hR5 := OwnG.low (base' := B1) hR4 (by have := hW6.top; (first | (simp; done) | (simp; omega) | omega)); obtain ⟨r1, r2, r3, r4, r5⟩ := hB6.since hX5)))
          all_goals go_wp2_with fail
          all_goals go_roundw
          all_goals first | (simp [intOf]; omega) | exact ⟨a + 1, by omega, by first | rfl | go_num | simp, by rw [HST.out]; exact hW7⟩
        · have hjaI : ¬ (j : Int) = (a : Int) := by omega
          have hja2 : ((j : Int) == (a : Int)) = false := by first | (simp; done) | (simp; omega)
          have HST := Lib.hid (HSN.out hja)
          have hlt := hlt0
          clear hLJ HSN HSE hlt0
          go_upto_region 15 with fail
          refine wp_named fun w4 hw4 => ?_
          have hS4 : Since wr w4 := by subst hw4; (repeat (first | with_reducible (exact Since.refl _) | with_reducible assumption | with_reducible (refine Since.drew ?_) | with_reducible (refine Since.drewN ?_ _) | with_reducible (refine Since.alloc ?_ _) | (with_reducible (refine Since.setCell ?_ ?_ _); rotate_left; focus (first | (simp; done) | (simp; omega) | omega)) | (with_reducible (refine Since.trans ?_ (by with_reducible assumption)))))
          have hB4 : Two w4 wr.heap.size (.string u) (.slice A' l c') := by subst hw4; exact two_new wr _ rfl _ _ _
          have hW4 := hW.since hS4
          generalize hgb : wr.heap.size = gb at hB4 ⊢
          have hSw := hW4.hS
          clear hw4 hgb q1 q2 q3 q4 q5
          obtain ⟨p1, p2, p3, p4, p5⟩ := id hB4
          go_region_law (first | (refine wanted_plain rfl (oper_append_tb (.tmp 54) (.tmp 61) rfl B1 _ LJ (by simp [Act.eval, Act.put]) hW5.own _ 1 u (some ⟨g4, 0, none⟩) l c4 M (by simp [Act.eval, Act.put]) _ rfl hR5 hlt hW5.top ?_); intro v7 w7 hO7 hg7 hb7; have hW7 := (hW5.since ((Since.refl _).alloc _)).app hO7 hg7) | (go_simp; go_wp2_with (go_at_call 24; (with_reducible refine (HC.out _ (by (repeat (first | with_reducible (exact Since.refl _) | with_reducible assumption | with_reducible (refine Since.drew ?_) | with_reducible (refine Since.drewN ?_ _) | with_reducible (refine Since.alloc ?_ _) | (with_reducible (refine Since.setCell ?_ ?_ _); rotate_left; focus (first | (simp; done) | (simp; omega) | omega)) | (with_reducible (refine Since.trans ?_ (by with_reducible assumption))))))).mono ?_); rintro e w5 ⟨g4, c4, rfl, hc4, hg4, hR4, hr5, hS5⟩; have hX5 : Since w4 w5 := (by (repeat (first | with_reducible (exact Since.refl _) | with_reducible assumption | with_reducible (refine Since.drew ?_) | with_reducible (refine Since.drewN ?_ _) | with_reducible (refine Since.alloc ?_ _) | (with_reducible (refine Since.setCell ?_ ?_ _); rotate_left; focus (first | (simp; done) | (simp; omega) | omega)) | (with_reducible (refine Since.trans ?_ (by with_reducible assumption)))))); have hW5 := hW4.since hX5; have hR5 := OwnG.low (base' := B1) hR4 (by have := hW4.top; (first | (simp; done) | (simp; omega) | omega)); obtain ⟨r1, r2, r3, r4, r5⟩ := hB4.since hX5)))
          all_goals go_wp2_with fail
          all_goals go_roundw
          all_goals first | (simp [intOf]; omega) | exact ⟨j + 1, by omega, by first | rfl | go_num | simp, by rw [HST.out]; exact hW7⟩
      · obtain rfl : N = j := by omega
        have hjn' : ¬ (N : Int) < (N : Int) := by omega
        rcases HAA.out with ⟨haN, hx⟩ | ⟨haN, hx⟩
        · subst haN
          have HE := Lib.hid (show outI TT a ⟨s, L⟩ a ++ [⟨s, L⟩] = R by rw [HR.out, withT_end (T := ⟨s, L⟩) H1.out hx, HN.out]; exact outI_last)
          have hlt0 : (outI TT a ⟨s, L⟩ a).length ≤ 1000000 := by have := outI_len TT a ⟨s, L⟩ a; have := HN.out; omega
          obtain ⟨q1, q2, q3, q4, q5⟩ := id hW.two
          generalize outI TT a ⟨s, L⟩ a = LJ at *
          go_wp2_with (at_builtin; refine wpList_append_tb rfl _ _ rfl B1 _ LJ rfl hW.own _ 1 s (some ⟨g2, 0, none⟩) n c2 L rfl _ rfl hW.row hlt0 hW.top ?_; intro v6 w6 hO6 hg6; have hW6 := (hW.since ((Since.refl wr).alloc _)).app hO6 hg6)
          go_ret
          rw [← HE.out]
          exact ⟨_, rfl, hW6.own.low (by have := hW6.lo; have := hW6.hi; omega), hW6.hS⟩
        · have HE := Lib.hid (show outI TT a ⟨s, L⟩ N = R by rw [HR.out, withT_ins (T := ⟨s, L⟩) H1.out hx, HN.out]; exact outI_end (by have := HN.out; omega))
          have haI : ¬ (a : Int) = (N : Int) := by omega
          generalize outI TT a ⟨s, L⟩ N = LJ at *
          go_wp2_with fail
          go_ret
          rw [← HE.out]
          exact ⟨_, rfl, hW.own.low (by have := hW.lo; have := hW.hi; omega), hW.hS⟩
  · obtain ⟨a, ha⟩ : ∃ a, a = k := ⟨_, rfl⟩
    rw [← ha] at h1 hk
    clear ha
    have haN : a < N := by have := HN.out; omega
    have hk0 : ¬ (a : Int) < 0 := by omega
    rw [h1] at HFI
    have H1 := Lib.hid h1
    clear h1 hk
    go_enter Tryz.func53, Tryz.ntmps53
    go_upto_if 20 with (first | (go_at_call 24; (with_reducible refine (HCP.out _ ((Since.refl w).alloc _)).mono ?_); rintro e w2 ⟨g2, c2, rfl, hc2, hg2, hO2, hr2, hS2⟩; obtain ⟨q1, q2, q3, q4, q5⟩ := (two_new w w.heap.size rfl (.string s) (.slice D n d) 49).since hS2; have hW := ws_start w s D (some ⟨g2, 0, none⟩) n d c2 L w2 hS2 (OwnG.low hO2 (by simp)); have hX2 := hW.hS) | (go_at_call 27; (with_reducible refine (HFI.out _ hX2).mono ?_); rintro e wc ⟨rfl, hS3⟩; have hWc := hW.since hS3))
    clear hX2 q1 q2 q3 q4 q5 hS2 hr2 hO2 hW hS3 HFI HCP
    obtain ⟨B1, hB1⟩ : ∃ B1, B1 = w.heap.size + 1 := ⟨_, rfl⟩
    obtain ⟨b0, hb0⟩ : ∃ b0, b0 = w.heap.size := ⟨_, rfl⟩
    rw [← hB1, ← hb0] at hWc
    rw [← hb0]
    clear hB1 hb0
    obtain ⟨q1, q2, q3, q4, q5⟩ := id hWc.two
    go_wp2_with fail
    go_loopw [7, 39] (fun v y wr => ∃ j : Nat, j ≤ N ∧ y = .int .i64 (j : Int) ∧ WS w B1 b0 s (some ⟨g2, 0, none⟩) n c2 L v (outR TT a ⟨s, L⟩ j) wr) (fun _ y _ => N - (intOf y).toNat)
    case atStart => exact ⟨0, by omega, by first | rfl | simp, by rw [outR_zero]; exact hWc⟩
    case round =>
      obtain ⟨j, hj, rfl, hW⟩ := hrel
      clear hWc q1 q2 q3 q4 q5
      by_cases hjn : j < N
      · have hjn' : (j : Int) < (N : Int) := by omega
        have hjL : j < TT.length := by rw [← HN.out]; exact hjn
        have hTj : TT[j]? = some TT[j] := List.getElem?_eq_getElem hjL
        have hml := (HF.out.2 _ (List.mem_of_getElem? hTj)).1
        have hlt0 : (outR TT a ⟨s, L⟩ j).length ≤ 1000000 := by have := outR_len TT a ⟨s, L⟩ j; have := HN.out; omega
        obtain ⟨b, o, A', c', rfl, hb, hc1, hc2, hK⟩ := (hRT.out w (Since.refl w)).row hTj
        have HC := Lib.hid (fun (w2 : World) (h2 : Since w w2) => copy_l A' TT[j].data.length c' TT[j].data w2 rfl (hK.on h2) (by omega))
        have HSN := Lib.hid (fun (h : j ≠ a) => outR_step (T := ⟨s, L⟩) hTj h)
        have HSE := Lib.hid (fun (h : TT[a]? = some TT[j]) => outR_at (T := ⟨s, L⟩) h)
        have HTj := Lib.hid hTj
        generalize TT[j] = X at *
        obtain ⟨u, M⟩ := X
        simp only at hc1 hc2 HC HSN HSE HTj hml
        generalize hLJ : outR TT a ⟨s, L⟩ j = LJ at *
        obtain ⟨l, hl⟩ : ∃ l, l = M.length := ⟨_, rfl⟩
        rw [← hl] at hc2 HC hml
        have c1 := (hW.hS.1 _ _ hb).trans hc1
        have c2' := (hW.hS.1 _ _ hb).trans hc2
        have hbw := hW.hS.2.2.1 _ hb
        have hjm : ¬ (j : Int) = -1 := by omega
        have hjm2 : ((j : Int) == -1) = false := by first | (simp; done) | (simp; omega)
        clear hTj hK hjL hc1 hc2 hl
        obtain ⟨q1, q2, q3, q4, q5⟩ := id hW.two
        by_cases hja : j = a
        · have hja' := hja.symm
          subst hja'
          clear hja
          have HST := Lib.hid (show outR TT a ⟨s, L⟩ (a + 1) = LJ ++ [⟨s, L⟩] by rw [← hLJ]; exact HSE.out HTj.out)
          have hLJ2 := Lib.hid hLJ
          clear hLJ HSN HSE
          go_upto_region 13 with fail
          refine wp_named fun w4 hw4 => ?_
          have hS4 : Since wr w4 := by subst hw4; (repeat (first | with_reducible (exact Since.refl _) | with_reducible assumption | with_reducible (refine Since.drew ?_) | with_reducible (refine Since.drewN ?_ _) | with_reducible (refine Since.alloc ?_ _) | (with_reducible (refine Since.setCell ?_ ?_ _); rotate_left; focus (first | (simp; done) | (simp; omega) | omega)) | (with_reducible (refine Since.trans ?_ (by with_reducible assumption)))))
          have hB4 : Two w4 wr.heap.size (.string u) (.slice A' l c') := by subst hw4; exact two_new wr _ rfl _ _ _
          have hW4 := hW.since hS4
          have hap := ws_apart hW
          obtain ⟨q1, q2, q3, q4, q5⟩ := id hW4.two
          generalize hgb : wr.heap.size = gb at hB4 hap ⊢
          clear hw4 hgb
          go_wp2_with (at_builtin; refine wpList_append_tb rfl _ _ rfl B1 _ LJ rfl hW4.own _ 1 s (some ⟨g2, 0, none⟩) n c2 L rfl _ rfl hW4.row hlt0 hW4.top ?_; intro v6 w6 hO6 hg6; have hW6 := (hW4.since ((Since.refl w4).alloc _)).app hO6 hg6; have hB6 : Two w6 gb (.string u) (.slice A' l c') := two_grown (hB4.since ((Since.refl w4).alloc _)) hg6 hap)
          go_roundw
          case rel => exact ⟨a + 1, by omega, by first | rfl | go_num | simp, by rw [HST.out]; exact hW6⟩
          case measure => simp [intOf]; omega
        · have hjaI : ¬ (j : Int) = (a : Int) := by omega
          have hja2 : ((j : Int) == (a : Int)) = false := by first | (simp; done) | (simp; omega)
          have HST := Lib.hid (HSN.out hja)
          have hlt := hlt0
          clear hLJ HSN HSE hlt0
          go_upto_region 15 with fail
          refine wp_named fun w4 hw4 => ?_
          have hS4 : Since wr w4 := by subst hw4; (repeat (first | with_reducible (exact Since.refl _) | with_reducible assumption | with_reducible (refine Since.drew ?_) | with_reducible (refine Since.drewN ?_ _) | with_reducible (refine Since.alloc ?_ _) | (with_reducible (refine Since.setCell ?_ ?_ _); rotate_left; focus (first | (simp; done) | (simp; omega) | omega)) | (with_reducible (refine Since.trans ?_ (by with_reducible assumption)))))
          have hB4 : Two w4 wr.heap.size (.string u) (.slice A' l c') := by subst hw4; exact two_new wr _ rfl _ _ _
          have hW4 := hW.since hS4
          generalize hgb : wr.heap.size = gb at hB4 ⊢
          have hSw := hW4.hS
          clear hw4 hgb q1 q2 q3 q4 q5
          obtain ⟨p1, p2, p3, p4, p5⟩ := id hB4
          go_region_law (first | (refine wanted_plain rfl (oper_append_tb (.tmp 54) (.tmp 61) rfl B1 _ LJ (by simp [Act.eval, Act.put]) hW5.own _ 1 u (some ⟨g4, 0, none⟩) l c4 M (by simp [Act.eval, Act.put]) _ rfl hR5 hlt hW5.top ?_); intro v7 w7 hO7 hg7 hb7; have hW7 := (hW5.since ((Since.refl _).alloc _)).app hO7 hg7) | (go_simp; go_wp2_with (go_at_call 24; (with_reducible refine (HC.out _ (by (repeat (first | with_reducible (exact Since.refl _) | with_reducible assumption | with_reducible (refine Since.drew ?_) | with_reducible (refine Since.drewN ?_ _) | with_reducible (refine Since.alloc ?_ _) | (with_reducible (refine Since.setCell ?_ ?_ _); rotate_left; focus (first | (simp; done) | (simp; omega) | omega)) | (with_reducible (refine Since.trans ?_ (by with_reducible assumption))))))).mono ?_); rintro e w5 ⟨g4, c4, rfl, hc4, hg4, hR4, hr5, hS5⟩; have hX5 : Since w4 w5 := (by (repeat (first | with_reducible (exact Since.refl _) | with_reducible assumption | with_reducible (refine Since.drew ?_) | with_reducible (refine Since.drewN ?_ _) | with_reducible (refine Since.alloc ?_ _) | (with_reducible (refine Since.setCell ?_ ?_ _); rotate_left; focus (first | (simp; done) | (simp; omega) | omega)) | (with_reducible (refine Since.trans ?_ (by with_reducible assumption)))))); have hW5 := hW4.since hX5; have hR5 := OwnG.low (base' := B1) hR4 (by have := hW4.top; (first | (simp; done) | (simp; omega) | omega)); obtain ⟨r1, r2, r3, r4, r5⟩ := hB4.since hX5)))
          all_goals go_wp2_with fail
          all_goals go_roundw
          all_goals first | (simp [intOf]; omega) | exact ⟨j + 1, by omega, by first | rfl | go_num | simp, by rw [HST.out]; exact hW7⟩
      · obtain rfl : N = j := by omega
        have hjn' : ¬ (N : Int) < (N : Int) := by omega
        have HE := Lib.hid (show outR TT a ⟨s, L⟩ N = R by rw [HR.out, withT_at (T := ⟨s, L⟩) H1.out, HN.out]; exact outR_end (by have := HN.out; omega))
        have haI : ¬ (a : Int) = (N : Int) := by omega
        generalize outR TT a ⟨s, L⟩ N = LJ at *
        go_wp2_with fail
        go_ret
        rw [← HE.out]
        exact ⟨_, rfl, hW.own.low (by have := hW.lo; have := hW.hi; omega), hW.hS⟩
end Go.Proofs.YteckkcpnfeoehaaGreatDoor
