/-
  Texts of this seat, put together: each with its own head.
-/
import Derived.Test.YtckochcocflleaaGreatRwC
import Derived.Test.YtckochcocflleaaGreatPxL
import Derived.Test.YtckochcocflleaaGreatPxR
import Derived.Test.YtckochcocflleaaGreatFaF
import Derived.Test.YtckochcocflleaaGreatMgG
import Derived.Deep.QuietTactic
import Derived.BigQuiet
import Derived.Test.YtckochcocflleaaGreatPxS

/-
  Layer 16's document: 'Hot' of the lines that the law asks for; equal lists of points and of lines.
-/
namespace Go.Proofs.YtckochcocflleaaGreat
open Go.RowKit Go.ChangeShapes Go.WideShapes Go.Deep
set_option linter.unusedVariables false

set_option maxRecDepth 100000 in
set_option maxHeartbeats 8000000 in
theorem rf_sameN (A B : Option Addr) (L : List Ln) (c d : Nat) (w : World) (h1 : RdG 4 lnE w w.heap.size A L) (h2 : RdG 4 lnE w w.heap.size B L) (hn : L.length ≤ maxLen) :
    Calls Tryz.prog 8 #[.slice A L.length c, .slice B L.length d] w fun e w' => e = .returned (.bool true) ∧ Since w w' := by
  have hn' : (L.length : Int) ≤ 9223372036854775807 := by simp only [maxLen] at hn; omega
  obtain ⟨n, hnn⟩ : ∃ n, n = L.length := ⟨_, rfl⟩
  rw [← hnn] at hn' ⊢
  have HN := Lib.hid hnn
  clear hnn
  go_enter Tryz.func8, Tryz.ntmps8
  go_wp2
  go_loopw [13] (fun y wr => ∃ j : Nat, j ≤ n ∧ y = .int .i64 (j : Int) ∧ Since w wr) (fun y _ => n - (intOf y).toNat)
  case atStart => exact ⟨0, by omega, rfl, Since.refl _⟩
  case round =>
    obtain ⟨j, hj, rfl, hSr⟩ := hrel
    by_cases hjn : j < n
    · have hjn' : (j : Int) < n := by omega
      have hnn := HN.out
      obtain ⟨b, o, rfl, hb, hc⟩ := h1 (by omega)
      obtain ⟨b', o', rfl, hb', hc'⟩ := h2 (by omega)
      obtain ⟨p, hp⟩ : ∃ p, L[j]? = some p := ⟨_, List.getElem?_eq_getElem (by omega)⟩
      obtain ⟨x, y, x', y'⟩ := p
      have c1 := (hSr.1 _ _ hb).trans (hc j _ hp 0 (by omega))
      have c2 := (hSr.1 _ _ hb).trans (hc j _ hp 1 (by omega))
      have c3 := (hSr.1 _ _ hb).trans (hc j _ hp 2 (by omega))
      have c4 := (hSr.1 _ _ hb).trans (hc j _ hp 3 (by omega))
      have e1 := (hSr.1 _ _ hb').trans (hc' j _ hp 0 (by omega))
      have e2 := (hSr.1 _ _ hb').trans (hc' j _ hp 1 (by omega))
      have e3 := (hSr.1 _ _ hb').trans (hc' j _ hp 2 (by omega))
      have e4 := (hSr.1 _ _ hb').trans (hc' j _ hp 3 (by omega))
      simp only [lnE, List.getD_cons_succ, List.getD_cons_zero, Nat.add_zero] at c1 c2 c3 c4 e1 e2 e3 e4
      have hj0 : (0 : Int) ≤ j := by omega
      clear hc hc' h1 h2 hnn hp
      go_wp2_with fail
      go_quiet (fail)
      go_wp2
      refine ⟨⟨j + 1, by omega, by simp, by (repeat (first | with_reducible (exact Since.refl _) | with_reducible assumption | with_reducible (refine Since.drew ?_) | with_reducible (refine Since.drewN ?_ _) | with_reducible (refine Since.alloc ?_ _) | (with_reducible (refine Since.setCell ?_ ?_ _); rotate_left; focus (first | (simp; done) | (simp; omega) | omega)) | (with_reducible (refine Since.trans ?_ (by with_reducible assumption)))))⟩, by simp [intOf]; omega⟩
    · obtain rfl : j = n := by omega
      clear h1 h2
      go_wp2
      go_ret
      exact ⟨rfl, hSr⟩
theorem rf_sameNm (A B : Option Addr) (L : List Ln) (n c d : Nat) (w : World) (hn : n = L.length) (h1 : RdG 4 lnE w w.heap.size A L) (h2 : RdG 4 lnE w w.heap.size B L) (hm : n ≤ maxLen) :
    Calls Tryz.prog 8 #[.slice A n c, .slice B n d] w fun e w' => e = .returned (.bool true) ∧ Since w w' := by
  subst hn
  exact rf_sameN A B L c d w h1 h2 hm
theorem rf_samePm (A B : Option Addr) (L : List Pq) (n c d : Nat) (w : World) (hn : n = L.length) (h1 : RdG 2 ptL w w.heap.size A L) (h2 : RdG 2 ptL w w.heap.size B L) (hm : n ≤ maxLen) :
    Calls Tryz.prog 7 #[.slice A n c, .slice B n d] w fun e w' => e = .returned (.bool true) ∧ Since w w' := by
  subst hn
  exact rf_sameP A B L c d w h1 h2 hm
theorem rf_same0 (w : World) : Calls Tryz.prog 7 #[.slice none 0 0, .slice none 0 0] w fun e w' => e = .returned (.bool true) ∧ Since w w' :=
  rf_sameP none none [] 0 0 w (fun h => by simp at h) (fun h => by simp at h) (by simp)
theorem rf_hot (A : Option Addr) (c : Nat) (L : List Ln) (w : World) (hr : RdG 4 lnE w w.heap.size A L) (hc : L.length ≤ c) (hL : L.length ≤ 120 ∨ 4096 < L.length) :
    Calls Tryz.prog 6 #[.slice A L.length c] w fun e w' => RHotOut L w e w' := by
  rcases hL with h | h
  · exact rf_hot_few A c L w hr hc h
  · exact rf_hot_many A c L w h
section
variable {P : Program} {α : Type} {enc : α → List Value} {k : Nat}
theorem wpList_append_gm {w : World} {ops : Array Oper} {rest : List Oper} {o : Oper} {a : Act} {Q : Exit → Act → World → Prop} (hgd : o.guard = none) (s x : Operand) (t e : TypeId)
    (ho : o.op = .call { callee := .builtin .append, args := #[s, x], argTypes := #[t, t] }) (hk0 : 0 < k) (hk : ∀ a, (enc a).length = k) (h1 : ∀ a, ∀ u ∈ enc a, u.oneCell' = true) (bytes : Nat)
    (ht : P.underlying t = some (.slice e)) (hinfo : ∃ i z, P.info? e = some i ∧ i.zero = some z ∧ i.size = k ∧ i.bytes = bytes ∧ z.cells.size = k)
    (w0 : World) (hS0 : Since w0 w) (v : Value) (hs : a.eval s = v) (hown : OwnG e k enc w w0.heap.size v []) (B : Nat) (A : Option Addr) (m c : Nat) (M : List α) (hm : m = M.length) (hx : a.eval x = .slice A m c) (hr : RdG k enc w B A M)
    (hbytes : m * bytes ≤ 140737488355328) (h63 : m ≤ maxLen)
    (h : ∀ A' c' w', RdG k enc w' w'.heap.size A' M → Since w0 w' → wpList P ops Q rest (a.put o.dst (.slice A' m c')) w') :
    wpList P ops Q (o :: rest) a w := by
  subst hm
  refine wpList_append_g hgd s x t e ho hk0 hk h1 bytes ht hinfo w0.heap.size v [] hs hown B A c M hx hr (by simpa using hbytes) (by simpa using h63) hS0.below.size ?_
  intro v' w' hO hg hb
  rw [List.nil_append] at hO
  obtain ⟨A', c', rfl, _, hR⟩ := hO.rd hk0 hk
  exact h A' c' w' hR (since_grown hS0 hg (fun k e => (hb k e).1))
end
end Go.Proofs.YtckochcocflleaaGreat

/-
  Layer 16: the law PixelHot, walked.
-/
namespace Go.Proofs.YtckochcocflleaaGreat
open Go.RowKit
set_option linter.unusedVariables false

theorem px_hot_said (A : Option Addr) (n c : Nat) (L : List Ln) (w : World) (hn : n = L.length) (hr : RdG 4 lnE w w.heap.size A L) (hwf : ∀ l ∈ L, l.wf) :
    Calls Tryz.prog 5 #[.slice A n c] w fun e w' => HotOut L w e w' := by
  subst hn
  exact px_hot A c L w hr hwf
theorem rf_hot_said (A : Option Addr) (n c : Nat) (L : List Ln) (w : World) (hn : n = L.length) (hr : RdG 4 lnE w w.heap.size A L) (hc : n ≤ c) (hL : n ≤ 120 ∨ 4096 < n) :
    Calls Tryz.prog 6 #[.slice A n c] w fun e w' => RHotOut L w e w' := by
  subst hn
  exact rf_hot A c L w hr hc hL
/-- What a call of either 'Hot' gives, in letters. -/
def Told (L : List Ln) (w : World) (e : Ending) (w' : World) : Prop := ∃ B m d H, e = .returned (.tuple #[.slice B m d, .int .i64 0]) ∧ Hid (m = H.length) ∧ m ≤ maxLen ∧ Hid (RdG 2 ptL w' w'.heap.size B H) ∧ Hid (HotL L H) ∧ Since w w'
theorem told_of {L : List Ln} {w w' : World} {base : Nat} {v : Value} {H : List Pq} (hS : Since w w') (hO : OwnG 34 2 ptL w' base v H) (hH : HotL L H) : Told L w (.returned (.tuple #[v, .int .i64 0])) w' := by
  have hd : H.length ≤ maxLen := by
    rcases hO.2 with ⟨_, h0⟩ | ⟨g, cap, cur, _, _, _, h1, h2, _⟩
    · have h0 : H.length = 0 := h0
      rw [h0]; exact Nat.zero_le _
    · exact Nat.le_trans h1 h2
  obtain ⟨B, d, rfl, _, hq⟩ := hO.rd (by omega) ptL_len
  exact ⟨B, H.length, d, H, rfl, Lib.hid rfl, hd, Lib.hid hq, Lib.hid hH, hS⟩
set_option maxRecDepth 1000000 in
set_option maxHeartbeats 16000000 in
theorem pixelhot_err (q : Int) (A : Option Addr) (n c : Nat) (L : List Ln) (w : World) (hn : n = L.length) (hr : RdG 4 lnE w w.heap.size A L) (hby : n * 32 ≤ 140737488355328) (hm : n ≤ maxLen) (hL : n ≤ 120 ∨ 4096 < n)
    (hP : ∀ A c w, RdG 4 lnE w w.heap.size A L → Calls Tryz.prog 5 #[.slice A n c] w fun e w' => e = .returned (.tuple #[.slice none 0 0, .int .i64 q]) ∧ Since w w')
    (hR : ∀ w, RdG 4 lnE w w.heap.size A L → Calls Tryz.prog 6 #[.slice A n c] w fun e w' => e = .returned (.tuple #[.slice none 0 0, .int .i64 q]) ∧ Since w w') :
    Calls Tryz.prog 3 #[.slice A n c] w fun e w' => e = .returned (.bool true) ∧ Since w w' := by
  have HA := Lib.hid (fun w => alive16 w)
  have HN := Lib.hid hn; have HL := Lib.hid hr; have HBY := Lib.hid hby; have HM := Lib.hid hm; have HP := Lib.hid hP; have HR := Lib.hid hR
  clear hn hr hby hP hR
  rcases hL with hL | hL
  · have g1 : ¬ (120 : Int) < n := by omega
    go_enter Tryz.func3, Tryz.ntmps3
    go_wp2_with (first | (go_at_call 4; (with_reducible refine (HA.out _).mono ?_); rintro e w1 ⟨rfl, hS1⟩) | (at_builtin; refine wpList_append_gm rfl _ _ 22 36 rfl (by omega) lnE_len lnE_one 32 Tryz.underlying22 infoLnE w1 ((Since.refl w1).alloc _) _ rfl (own_empty 36 4 lnE w1 w1.heap.size w1.heap.size (Nat.le_refl _) rfl) w1.heap.size _ _ _ L HN.out rfl ((HL.out.on hS1).since (Nat.le_refl _) ((Since.refl w1).alloc _)) HBY.out HM.out ?_; intro A7 c7 w7 hR7 hS7; have hT7 := hS1.trans hS7; have HR7 := Lib.hid hR7; clear hR7 hS7) | (go_at_call 5; (with_reducible refine (HP.out _ _ _ HR7.out).mono ?_); rintro e w2 ⟨rfl, hS2⟩) | (go_at_call 6; (with_reducible refine (HR.out _ ((HL.out.on hT7).on hS2)).mono ?_); rintro e w3 ⟨rfl, hS3⟩) | (go_at_call 7; (with_reducible refine (rf_same0 _).mono ?_); rintro e w4 ⟨rfl, hS4⟩) | (go_at_call 8; (with_reducible refine (rf_sameNm _ _ L _ _ _ _ HN.out ((HR7.out.on hS2).on (hS3.trans hS4)) ((HL.out.on hT7).on (hS2.trans (hS3.trans hS4))) HM.out).mono ?_); rintro e w5 ⟨rfl, hS5⟩))
    go_ret
    exact ⟨by first | rfl | simp, hT7.trans (hS2.trans (hS3.trans (hS4.trans hS5)))⟩
  · have g1 : (120 : Int) < n := by omega
    have g2 : ¬ (n : Int) ≤ 4096 := by omega
    go_enter Tryz.func3, Tryz.ntmps3
    go_wp2_with (first | (go_at_call 4; (with_reducible refine (HA.out _).mono ?_); rintro e w1 ⟨rfl, hS1⟩) | (at_builtin; refine wpList_append_gm rfl _ _ 22 36 rfl (by omega) lnE_len lnE_one 32 Tryz.underlying22 infoLnE w1 ((Since.refl w1).alloc _) _ rfl (own_empty 36 4 lnE w1 w1.heap.size w1.heap.size (Nat.le_refl _) rfl) w1.heap.size _ _ _ L HN.out rfl ((HL.out.on hS1).since (Nat.le_refl _) ((Since.refl w1).alloc _)) HBY.out HM.out ?_; intro A7 c7 w7 hR7 hS7; have hT7 := hS1.trans hS7; have HR7 := Lib.hid hR7; clear hR7 hS7) | (go_at_call 5; (with_reducible refine (HP.out _ _ _ HR7.out).mono ?_); rintro e w2 ⟨rfl, hS2⟩) | (go_at_call 6; (with_reducible refine (HR.out _ ((HL.out.on hT7).on hS2)).mono ?_); rintro e w3 ⟨rfl, hS3⟩) | (go_at_call 7; (with_reducible refine (rf_same0 _).mono ?_); rintro e w4 ⟨rfl, hS4⟩) | (go_at_call 8; (with_reducible refine (rf_sameNm _ _ L _ _ _ _ HN.out ((HR7.out.on hS2).on (hS3.trans hS4)) ((HL.out.on hT7).on (hS2.trans (hS3.trans hS4))) HM.out).mono ?_); rintro e w5 ⟨rfl, hS5⟩))
    go_ret
    exact ⟨by first | rfl | simp, hT7.trans (hS2.trans (hS3.trans (hS4.trans hS5)))⟩
set_option maxRecDepth 1000000 in
set_option maxHeartbeats 16000000 in
theorem pixelhot_good (A : Option Addr) (n c : Nat) (L : List Ln) (w : World) (hn : n = L.length) (hr : RdG 4 lnE w w.heap.size A L) (hby : n * 32 ≤ 140737488355328) (hm : n ≤ maxLen) (hL : n ≤ 120)
    (hP : ∀ A c w, RdG 4 lnE w w.heap.size A L → Calls Tryz.prog 5 #[.slice A n c] w fun e w' => Told L w e w')
    (hR : ∀ w, RdG 4 lnE w w.heap.size A L → Calls Tryz.prog 6 #[.slice A n c] w fun e w' => Told L w e w') :
    Calls Tryz.prog 3 #[.slice A n c] w fun e w' => e = .returned (.bool true) ∧ Since w w' := by
  have HA := Lib.hid (fun w => alive16 w)
  have HN := Lib.hid hn; have HL := Lib.hid hr; have HBY := Lib.hid hby; have HM := Lib.hid hm; have HP := Lib.hid hP; have HR := Lib.hid hR
  clear hn hr hby hP hR
  have g1 : ¬ (120 : Int) < n := by omega
  go_enter Tryz.func3, Tryz.ntmps3
  go_wp2_with (first | (go_at_call 4; (with_reducible refine (HA.out _).mono ?_); rintro e w1 ⟨rfl, hS1⟩) | (at_builtin; refine wpList_append_gm rfl _ _ 22 36 rfl (by omega) lnE_len lnE_one 32 Tryz.underlying22 infoLnE w1 ((Since.refl w1).alloc _) _ rfl (own_empty 36 4 lnE w1 w1.heap.size w1.heap.size (Nat.le_refl _) rfl) w1.heap.size _ _ _ L HN.out rfl ((HL.out.on hS1).since (Nat.le_refl _) ((Since.refl w1).alloc _)) HBY.out HM.out ?_; intro A7 c7 w7 hR7 hS7; have hT7 := hS1.trans hS7; have HR7 := Lib.hid hR7; clear hR7 hS7) | (go_at_call 5; (with_reducible refine (HP.out _ _ _ HR7.out).mono ?_); rintro e w2 ⟨B, m, d, H, rfl, HMM, hmm, HQ, HH, hS2⟩) | (go_at_call 6; (with_reducible refine (HR.out _ ((HL.out.on hT7).on hS2)).mono ?_); rintro e w3 ⟨B', m', d', H', rfl, HMM', hmm', HQ', HH', hS3⟩; obtain rfl : H' = H := hotL_same HH'.out HH.out; obtain rfl : m' = m := HMM'.out.trans HMM.out.symm) | (go_at_call 7; (with_reducible refine (rf_samePm _ _ _ _ _ _ _ HMM.out (HQ.out.on hS3) HQ'.out hmm).mono ?_); rintro e w4 ⟨rfl, hS4⟩) | (go_at_call 8; (with_reducible refine (rf_sameNm _ _ L _ _ _ _ HN.out ((HR7.out.on hS2).on (hS3.trans hS4)) ((HL.out.on hT7).on (hS2.trans (hS3.trans hS4))) HM.out).mono ?_); rintro e w5 ⟨rfl, hS5⟩))
  go_ret
  exact ⟨by first | rfl | simp, hT7.trans (hS2.trans (hS3.trans (hS4.trans hS5)))⟩
set_option maxRecDepth 1000000 in
set_option maxHeartbeats 16000000 in
theorem pixelhot_mid (A : Option Addr) (n c : Nat) (w : World) (h1 : 120 < n) (h2 : n ≤ 4096) :
    Calls Tryz.prog 3 #[.slice A n c] w fun e w' => e = .returned (.bool true) ∧ Since w w' := by
  have HA := Lib.hid (fun w => alive16 w)
  have g1 : (120 : Int) < n := by omega
  have g2 : (n : Int) ≤ 4096 := by omega
  go_enter Tryz.func3, Tryz.ntmps3
  go_wp2_with (go_at_call 4; (with_reducible refine (HA.out _).mono ?_); rintro e w1 ⟨rfl, hS1⟩)
  go_ret
  exact ⟨by first | rfl | simp, hS1⟩
theorem walk_pixelhot (A : Option Addr) (c : Nat) (L : List Ln) (w : World) (hr : RdG 4 lnE w w.heap.size A L) (hwf : ∀ l ∈ L, l.wf) (hc : L.length ≤ c) (hby : L.length * 32 ≤ 140737488355328) (hm : L.length ≤ maxLen) :
    Calls Tryz.prog 3 #[.slice A L.length c] w fun e w' => e = .returned (.bool true) ∧ Since w w' := by
  by_cases h4 : 4096 < L.length
  · refine pixelhot_err 7 A _ c L w rfl hr hby hm (.inr h4) (fun A c w h => ?_) (fun w h => ?_)
    · refine (px_hot_said A _ c L w rfl h hwf).mono ?_
      rintro e w' ⟨hS, (⟨-, rfl⟩ | ⟨hb, -⟩ | ⟨hb, -⟩)⟩
      · exact ⟨rfl, hS⟩
      · omega
      · omega
    · refine (rf_hot_said A _ c L w rfl h hc (.inr h4)).mono ?_
      rintro e w' ⟨hS, (⟨-, rfl⟩ | ⟨hb, -⟩ | ⟨hb, -⟩)⟩
      · exact ⟨rfl, hS⟩
      · omega
      · omega
  by_cases h1 : 120 < L.length
  · exact pixelhot_mid A _ c w h1 (by omega)
  by_cases hg : ∀ l ∈ L, lnG l = true
  · have no : ¬ ∃ l ∈ L, lnG l = false := fun ⟨l, h, e⟩ => by rw [hg l h] at e; cases e
    refine pixelhot_good A _ c L w rfl hr hby hm (by omega) (fun A c w h => ?_) (fun w h => ?_)
    · refine (px_hot_said A _ c L w rfl h hwf).mono ?_
      rintro e w' ⟨hS, (⟨hb, -⟩ | ⟨-, hb, -⟩ | ⟨-, -, v, H, rfl, hO, hH⟩)⟩
      · omega
      · exact (no hb).elim
      · exact told_of hS hO hH
    · refine (rf_hot_said A _ c L w rfl h hc (.inl (by omega))).mono ?_
      rintro e w' ⟨hS, (⟨hb, -⟩ | ⟨-, hb, -⟩ | ⟨-, -, v, H, rfl, hO, hH⟩)⟩
      · omega
      · exact (no hb).elim
      · exact told_of hS hO hH
  · refine pixelhot_err 6 A _ c L w rfl hr hby hm (.inl (by omega)) (fun A c w h => ?_) (fun w h => ?_)
    · refine (px_hot_said A _ c L w rfl h hwf).mono ?_
      rintro e w' ⟨hS, (⟨hb, -⟩ | ⟨-, -, rfl⟩ | ⟨-, hb, -⟩)⟩
      · omega
      · exact ⟨rfl, hS⟩
      · exact (hg hb).elim
    · refine (rf_hot_said A _ c L w rfl h hc (.inl (by omega))).mono ?_
      rintro e w' ⟨hS, (⟨hb, -⟩ | ⟨-, -, rfl⟩ | ⟨-, hb, -⟩)⟩
      · omega
      · exact ⟨rfl, hS⟩
      · exact (hg hb).elim
end Go.Proofs.YtckochcocflleaaGreat
