/-
  Layer 9: the example is written and read; FontKinds.
-/
import Derived.Test.YteckkcpnfeoehaaDoorFnP
import Derived.Test.YteckkcpnfeoehaaDoorFnI
import Derived.Test.YteckkcpnfeoehaaDoorFnH
import Derived.Deep.RegionHeld3
namespace Go.Proofs.YteckkcpnfeoehaaDoor
set_option maxRecDepth 100000
open Go.RowKit Go.ChangeShapes Go.WideShapes Go.Deep
set_option linter.unusedVariables false
set_option linter.unusedSimpArgs false

def ex9T : List Tb := [⟨tgGlyf, []⟩, ⟨tgHead, e54⟩, ⟨tgHhea, e36⟩, ⟨tgHmtx, [1, 244, 0, 0]⟩, ⟨tgLoca, [0, 0, 0, 0]⟩, ⟨tgMaxp, e32⟩]
theorem ex9_all : all9 ex9 = ex9T := by kernel_rfl
theorem ex9_pre : pre9 ex9 := by decide +kernel
theorem ex9_allE : allE ex9 = 0 := by decide +kernel
theorem ex9_size : size4 ex9T = 240 := by decide +kernel
theorem ex9_right4 : right4 ex9T := by
  refine ⟨by decide, by decide, by rw [ex9_size]; omega, ?_, ?_⟩
  · intro j T hT
    have key : ∀ T, T ∈ ex9T → T.tag.size = 4 ∧ ∀ i : Fin 4, 32 ≤ ((T.tag.data.toList.getD i.1 0).toNat : Int) ∧ ((T.tag.data.toList.getD i.1 0).toNat : Int) ≤ 126 := by decide +kernel
    obtain ⟨h1, h2⟩ := key T (List.mem_of_getElem? hT)
    refine ⟨h1, fun i hi => ?_⟩
    have := h2 ⟨i, by omega⟩
    have e : T.tag[i] = T.tag.data.toList.getD i 0 := by
      rw [List.getD_eq_getElem?_getD]
      have hi2 : i < T.tag.data.toList.length := by simpa using hi
      rw [List.getElem?_eq_getElem hi2]
      rfl
    rw [e]; exact this
  · intro j T U hT hU
    have key : ∀ i : Fin 5, ∃ T U, ex9T[i.1]? = some T ∧ ex9T[i.1 + 1]? = some U ∧ Op.bytesLess T.tag.toList U.tag.toList = true := fun i => by
      obtain ⟨i, hi⟩ := i
      rcases i with _ | _ | _ | _ | _ | i
      · exact ⟨_, _, rfl, rfl, by kernel_rfl⟩
      · exact ⟨_, _, rfl, rfl, by kernel_rfl⟩
      · exact ⟨_, _, rfl, rfl, by kernel_rfl⟩
      · exact ⟨_, _, rfl, rfl, by kernel_rfl⟩
      · exact ⟨_, _, rfl, rfl, by kernel_rfl⟩
      · omega
    have hj : j + 1 < 6 := by
      rcases Nat.lt_or_ge (j + 1) 6 with h | h
      · exact h
      · rw [List.getElem?_eq_none (by show 6 ≤ j + 1; exact h)] at hU; cases hU
    obtain ⟨T2, U2, h1, h2, h3⟩ := key ⟨j, by omega⟩
    simp only at h1 h2
    rw [hT] at h1
    rw [hU] at h2
    injection h1 with h1
    injection h2 with h2
    subst h1 h2
    exact h3
theorem ex9_right : right9 ex9 := ⟨ex9_pre, ex9_allE, by rw [ex9_all]; exact ex9_right4⟩
theorem ex9_blank : blank9 ex9 = ex9 := by kernel_rfl
theorem ex9_few : NoGr ex9 := ⟨by decide, by decide +kernel, by decide +kernel, by decide, by decide, by decide, by decide⟩
theorem ex9_num : FnW ex9 := by
  refine ⟨?_, ?_, ?_, ?_, ?_, ?_⟩
  · intro T hT
    have key : ∀ T, T ∈ ex9.TT → ∀ v, v ∈ T.data → 0 ≤ v ∧ v ≤ 255 := by decide +kernel
    exact key T hT
  · intro L hL v hv
    have key : ∀ L, L ∈ ex9.GG → ∀ v, v ∈ L → 0 ≤ v ∧ v ≤ 255 := by decide +kernel
    exact key L hL v hv
  · intro j hj
    obtain rfl : j = 0 := by have : j < 1 := hj; omega
    exact ⟨by show In64 500; unfold In64; omega, by show In64 0; unfold In64; omega⟩
  · show In64 1; unfold In64; omega
  · refine ⟨?_, ?_, ?_, ?_, ?_⟩
    · show In64 1000; unfold In64; omega
    all_goals show In64 0; unfold In64; omega
  · refine ⟨?_, ?_, ?_, ?_, ?_, ?_, ?_⟩
    · show In64 1; unfold In64; omega
    all_goals show In64 0; unfold In64; omega
/-- Its file. -/
def ex9F : List Int := file4 ex9T
theorem ex9F_len : ex9F.length = 240 := by unfold ex9F; rw [file4_len ex9_right4, ex9_size]
theorem ex9_file : file9 ex9 = ex9F := by unfold file9 ex9F; rw [if_pos (right9_yes ex9_right), ex9_all]
theorem ex9F_rd : rd9 ex9F = (0, ex9) := by
  have := rd9_file ex9_right
  rw [ex9_all, ex9_blank] at this
  exact this
theorem bytes_file9 {TT : List Tb} (h : ∀ T, T ∈ TT → Bytes T.data) : Bytes (file4 TT) := by
  have hr := bytes_raw h
  unfold file4
  split
  · exact hr
  · unfold layL
    exact bytes_app (fun v hv => hr v (List.mem_of_mem_take hv)) (bytes_app (bytes_put _ _) (fun v hv => hr v (List.mem_of_mem_drop hv)))
theorem ex9F_bytes : Bytes ex9F := by
  have := bytes_file9 (all9_bytes ex9_num)
  rw [ex9_all] at this
  exact this
/-- What the program does with it. -/
def ExV (x : Fh) (C : Array Value) : Prop := C = fnV x ex9
theorem ex_example (w : World) : Calls Tryd.prog 21 #[] w fun e w' => ∃ x C, e = .returned (.agg C) ∧ ExV x C ∧ FnR w' w'.heap.size x ex9 ∧ ex9.GG.length ≤ x.cg ∧ Since w w' := by
  refine (fn_example w).mono ?_
  rintro e w' ⟨x, rfl, h1, h2, h3⟩
  exact ⟨x, _, rfl, rfl, h1, h2, h3⟩
theorem ex_write (x : Fh) (C : Array Value) (hC : ExV x C) (w : World) (hT : Tabs w) (hR : FnR w w.heap.size x ex9) (hgc : ex9.GG.length ≤ x.cg) :
    Calls Tryd.prog 9 #[.agg C] w fun e w' => ∃ A c, e = .returned (.tuple #[.slice A 240 c, .int .i64 0]) ∧ RdB w' w'.heap.size A ex9F ∧ 240 ≤ c ∧ Since w w' := by
  refine (fn_write x ex9 _ hC w hT hR ex9_few ex9_num hgc).mono ?_
  rintro e w' ⟨v, rfl, hO, hS⟩
  rw [ex9_file] at hO
  obtain ⟨A, c, rfl, hc, hr⟩ := OwnG.rd (by omega) byL_len hO
  rw [ex9F_len] at hc ⊢
  exact ⟨A, c, by rw [if_pos (right9_yes ex9_right)], hr, hc, hS⟩
theorem ex_read (A : Option Addr) (c : Nat) (w : World) (hT : Tabs w) (h : RdB w w.heap.size A ex9F) (hc : 240 ≤ c) :
    Calls Tryd.prog 11 #[.slice A 240 c] w fun e w' => ∃ x C, e = .returned (.tuple #[.agg C, .int .i64 0]) ∧ ExV x C ∧ FnR w' w'.heap.size x ex9 ∧ Since w w' := by
  refine (fn_read A 240 c ex9F w hT h ex9F_len.symm ex9F_bytes (by omega) hc).mono ?_
  rintro e w' ⟨x, rfl, hF, _, hS⟩
  rw [ex9F_rd] at hF ⊢
  exact ⟨x, _, rfl, rfl, hF, hS⟩
theorem ex_right (x : Fh) (C : Array Value) (hC : ExV x C) (w : World) (hT : Tabs w) (hR : FnR w w.heap.size x ex9) (hgc : ex9.GG.length ≤ x.cg) :
    Calls Tryd.prog 10 #[.agg C] w fun e w' => e = .returned (.bool true) ∧ Since w w' := by
  refine (fn_right x ex9 _ hC w hT hR ex9_few ex9_num hgc).mono ?_
  rintro e w' ⟨rfl, hS⟩
  exact ⟨by rw [right9_yes ex9_right], hS⟩
theorem ex_same (x y : Fh) (C D : Array Value) (hC : ExV x C) (hD : ExV y D) (w : World) (hR : FnR w w.heap.size x ex9) (hQ : FnR w w.heap.size y ex9) :
    Calls Tryd.prog 14 #[.agg C, .agg D] w fun e w' => e = .returned (.bool true) ∧ Since w w' :=
  rf_same9 x y ex9 _ _ hC hD w hR hQ (by show 3 ≤ maxLen; simp only [maxLen]; omega) (by show 1 ≤ maxLen; simp only [maxLen]; omega) (by show 1 ≤ maxLen; simp only [maxLen]; omega)
def ExB (w : World) (b : Nat) (x : Fh) : Prop := BoxL w b (fnC x ex9.TT.length ex9.h ex9.m ex9.MM.length ex9.ct ex9.GG.length)
theorem fnl_var {w : World} {b : Nat} {x : Fh} {C : Array Value} (hC : ExV x C) (hB : ExB w b x) : (loadVar 30 ⟨b, 0, none⟩).run Tryd.prog w = .ok (.agg C) w := by
  rw [hC]
  exact run_loadVar_mid w b 0 30 _ _ hB.1 Tryd.underlying30 rfl infoFn
theorem ExB.since {w w' : World} {b : Nat} {x : Fh} (h : ExB w b x) (k : Since w w') : ExB w' b x := BoxL.since h k
theorem ex_kind (b : Nat) (w : World) (hb : BoxL w b [.int .u8 255, .int .u8 255]) : Calls Tryd.prog 19 #[.slice (some ⟨b, 0, none⟩) 2 2] w fun e w' => e = .returned (.int .i64 2) ∧ Since w w' := by
  refine (ft_kind (some ⟨b, 0, none⟩) 2 2 [255, 255] w (fun _ => ⟨b, 0, rfl, hb.lt, fun j s hs i hi => ?_⟩) rfl (by omega)).mono ?_
  · obtain rfl : i = 0 := by omega
    rcases j with _ | _ | j
    · injection hs with hs; subst hs; exact hb.cell 0 rfl
    · injection hs with hs; subst hs; exact hb.cell 1 rfl
    · cases hs
  · rintro e w' ⟨rfl, hS⟩
    exact ⟨rfl, hS⟩
theorem ex_stored {w : World} {b : Nat} {y : Fh} {C : Array Value} {ops : Array Oper} {rest : List Oper} {op : Oper} {a : Act} {Q : Exit → Act → World → Prop} (hgd : op.guard = none) (x z : Operand) (ho : op.op = .store 30 x z) (hx : a.eval x = .pointer (some ⟨b, 0, none⟩)) (hB : BoxL w b (fnC zX 0 zH zM 0 0 0)) (hC : ExV y C) (hz : a.eval z = .agg C) (hk : ∀ w', ExB w' b y → Nigh b w w' → wpList Tryd.prog ops Q rest (a.put op.dst undef) w') : wpList Tryd.prog ops Q (op :: rest) a w :=
  wp_fn_store hgd x z ho hx hB y ex9.TT.length ex9.h ex9.m ex9.MM.length ex9.ct ex9.GG.length (hz.trans (congrArg Value.agg hC)) hk
attribute [-go_sem] loadVar
set_option maxRecDepth 1000000 in
set_option maxHeartbeats 64000000 in
theorem alive09 (w : World) (hT : Tabs w) : Calls Tryd.prog 7 #[] w fun e w' => e = .returned (.bool true) ∧ Since w w' := by
  have HT := Lib.hid (fun (w2 : World) (h : Since w w2) => hT.since h)
  clear hT
  go_enter Tryd.func7, Tryd.ntmps7
  go_upto_region 3 with (first | (go_at_call 21; (with_reducible refine (ex_example _).mono ?_); rintro e w1 ⟨x, C1, rfl, hC1, hR1, hg1, hS1⟩) | (go_at_call 9; (with_reducible refine (ex_write x C1 hC1 _ (HT.out _ hS1) hR1 hg1).mono ?_); rintro e w2 ⟨A, c, rfl, hr2, hc2, hS2⟩; have hS2w := hS1.trans hS2) | (go_at_call 11; (with_reducible refine (ex_read A c _ (HT.out _ hS2w) hr2 hc2).mono ?_); rintro e w3 ⟨y, C3, rfl, hC3, hR3, hS3⟩; have hS3w := hS2w.trans hS3) | (refine ex_stored rfl _ _ rfl (by rfl) (by with_reducible exact new_fn w3 w3.heap.size rfl _) hC3 (by rfl) ?_; intro w4 hb4 hN4; have hS34 := hN4.2 w3 ((Since.refl w3).alloc _) (Nat.le_refl _)))
  have hS4w := hS3w.trans hS34
  have HB4 := Lib.hid hb4
  have HR3 := Lib.hid (hR3.on hS34)
  have HC3 := Lib.hid hC3
  clear hb4 hN4 hS34 hr2 hR1 hR3 hg1 hc2 hC1 hC3 hS3w hS2w hS1 hS2 hS3
  have HK := Lib.hid (fun w' (h : Since w4 w') => (⟨fnl_var HC3.out (HB4.out.since h), h⟩ : (loadVar 30 ⟨w3.heap.size, 0, none⟩).run Tryd.prog w' = .ok (.agg C3) w' ∧ Since w4 w'))
  have hkk := HK.out w4 (Since.refl w4)
  go_region_held3 (fun w' => (loadVar 30 ⟨w3.heap.size, 0, none⟩).run Tryd.prog w' = .ok (.agg C3) w' ∧ Since w4 w') ((refine HK.out _ ?_; (repeat (first | with_reducible (exact Since.refl _) | with_reducible assumption | with_reducible (refine Since.drew ?_) | with_reducible (refine Since.drewN ?_ _) | with_reducible (refine Since.alloc ?_ _) | (with_reducible (refine Since.setCell ?_ ?_ _); rotate_left; focus (first | (simp; done) | (simp; omega) | omega)) | (with_reducible (refine Since.trans ?_ (by with_reducible assumption))))))) ((first | (go_at_call 21; have _t := hS46; (with_reducible refine (ex_example _).mono ?_); rintro e w7 ⟨x7, C7, rfl, hC7, hR7, _, hS7⟩; have hS47 := hS46.trans hS7) | (go_at_call 21; (with_reducible refine (ex_example _).mono ?_); rintro e w5 ⟨x5, C5, rfl, hC5, hR5, hg5, hS5⟩; have hS45 : Since w4 w5 := (by first | exact hS5 | exact (((Since.refl w4).drew).trans hS5) | exact (((Since.refl w4).drewN _).trans hS5)); have hS5w := hS4w.trans hS45) | (go_at_call 10; (with_reducible refine (ex_right x5 C5 hC5 _ (HT.out _ hS5w) hR5 hg5).mono ?_); rintro e w6 ⟨rfl, hS6⟩; have hS46 := hS45.trans hS6) | (go_at_call 14; (with_reducible refine (ex_same y x7 C3 C7 HC3.out hC7 _ (HR3.out.on hS47) hR7).mono ?_); rintro e w8 ⟨rfl, hS8⟩; have hS48 := hS47.trans hS8) | (go_at_call 19; (with_reducible refine (ex_kind _ _ (by exact BoxL.new _ _ rfl _ _)).mono ?_); rintro e w9 ⟨rfl, hS9⟩; have hS59 : Since w4 w9 := ((hS48.alloc _).trans hS9); have hS49 : Since w w9 := hS4w.trans hS59)))
  all_goals go_wp2_with fail
  all_goals go_ret
  all_goals exact ⟨by first | rfl | simp, by first | exact hS49 | exact hS49.drew | exact hS49.drewN _⟩
end Go.Proofs.YteckkcpnfeoehaaDoor
