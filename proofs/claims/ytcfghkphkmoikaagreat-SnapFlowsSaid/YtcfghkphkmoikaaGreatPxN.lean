/-
  Layer 16: 'pairs', walked, whatever function it hands pairs to.
-/
import Derived.Test.YtcfghkphkmoikaaGreatPxL
import Derived.BigRegion
import Derived.Laws.EntriesVeiled
import Derived.Deep.CutBlock
import Derived.Deep.DeepCutAuto
namespace Go.Proofs.YtcfghkphkmoikaaGreat
set_option maxRecDepth 100000
open Go.RowKit Go.Sort
set_option linter.unusedVariables false

/-- Every block of cells stands. -/
def KC (w w' : World) : Prop := w.heap.size ≤ w'.heap.size ∧ ∀ (b : Nat) (cs : Array Value) (t : TypeId) (z : Nat × Nat), w.heap[b]? = some (Obj.cells cs t z) → w'.heap[b]? = some (Obj.cells cs t z)
theorem KC.refl (w : World) : KC w w := ⟨Nat.le_refl _, fun _ _ _ _ h => h⟩
theorem KC.trans {a b c : World} (h : KC a b) (k : KC b c) : KC a c := ⟨Nat.le_trans h.1 k.1, fun x cs t z hx => k.2 x cs t z (h.2 x cs t z hx)⟩
theorem KC.of_since {a b : World} (h : Since a b) : KC a b := ⟨h.below.size, fun x cs t z hx => by
  have hlt : x < a.heap.size := by
    rcases Nat.lt_or_ge x a.heap.size with k | k
    · exact k
    · rw [Array.getElem?_eq_none k] at hx; cases hx
  rw [h.below.block x hlt]; exact hx⟩
theorem KC.drew {a b : World} (h : KC a b) : KC a b.drew := h
theorem KC.alloc {a b : World} (h : KC a b) (o : Obj) : KC a (b.alloc o) := h.trans (KC.of_since ((Since.refl b).alloc o))
theorem KC.cell {a b : World} (h : KC a b) {x o : Nat} {v : Value} (hc : a.cell? ⟨x, o, none⟩ = some v) : b.cell? ⟨x, o, none⟩ = some v := by
  rw [← hc]
  simp only [World.cell?] at hc ⊢
  cases hx : a.heap[x]? with
  | none => rw [hx] at hc; cases hc
  | some ob =>
    rw [hx] at hc
    cases ob with
    | cells cs t z => rw [h.2 x cs t z hx]
    | _ => simp at hc
theorem KC.rd {α : Type} {k : Nat} {enc : α → List Value} {a b : World} (h : KC a b) {A : Option Addr} {L : List α} (hr : RdG k enc a a.heap.size A L) : RdG k enc b b.heap.size A L := fun hn => by
  obtain ⟨x, o, rfl, hb, hc⟩ := hr hn
  exact ⟨x, o, rfl, Nat.lt_of_lt_of_le hb h.1, fun j s hj i hi => h.cell (hc j s hj i hi)⟩
theorem KC.ln {a b : World} (h : KC a b) {x : Nat} {l : Ln} (k : LnAt a x l) : LnAt b x l := ⟨h.cell k.1, h.cell k.2.1, h.cell k.2.2.1, h.cell k.2.2.2.1, Nat.lt_of_lt_of_le k.2.2.2.2 h.1⟩

/-- Is a later line left far enough, and does it overlap in height? -/
def prL (s t : Ln) : Bool := decide (lo2 t.ax t.bx ≤ hi2 s.ax s.bx)
def prY (s t : Ln) : Bool := decide (lo2 s.ay s.bz ≤ hi2 t.ay t.bz) && decide (lo2 t.ay t.bz ≤ hi2 s.ay s.bz)
/-- The pairs of a line with those behind it. -/
def prAt (s : Ln) : List Ln → List (Ln × Ln)
  | [] => []
  | t :: r => if prL s t then (if prY s t then (s, t) :: prAt s r else prAt s r) else []
/-- All pairs that are passed on, from place i on. -/
def prsOf : List Ln → List (Ln × Ln)
  | [] => []
  | s :: r => prAt s r ++ prsOf r
/-- The pairs not yet passed on, seen from the end: what a run from place i passes on. -/
theorem prs_drop {L : List Ln} {i : Nat} {s : Ln} (h : L[i]? = some s) : prsOf (L.drop i) = prAt s (L.drop (i + 1)) ++ prsOf (L.drop (i + 1)) := by
  obtain ⟨hi, rfl⟩ := List.getElem?_eq_some_iff.1 h
  rw [List.drop_eq_getElem_cons hi]; rfl
theorem prAt_drop {R : List Ln} {s : Ln} {j : Nat} {t : Ln} (h : R[j]? = some t) : prAt s (R.drop j) = if prL s t then (if prY s t then (s, t) :: prAt s (R.drop (j + 1)) else prAt s (R.drop (j + 1))) else [] := by
  obtain ⟨hj, rfl⟩ := List.getElem?_eq_some_iff.1 h
  rw [List.drop_eq_getElem_cons hj]; rfl

theorem wrap_j {j m : Nat} (h : j < m) (h2 : m ≤ 4096) : wrap64 ((j : Int) + 1) = (j : Int) + 1 := by unfold wrap64; omega
theorem num_j {j m : Nat} (h : j < m) (h2 : m ≤ 4096) : Value.int IntKind.i64 (wrap64 ((j : Int) + 1)) = Value.int IntKind.i64 ((j + 1 : Nat) : Int) := by rw [wrap_j h h2]; rfl
theorem meas_j {j m : Nat} (h : j < m) (h2 : m ≤ 4096) : m - (intOf (Value.int IntKind.i64 (wrap64 ((j : Int) + 1)))).toNat < m - (intOf (Value.int IntKind.i64 (j : Int))).toNat := by rw [wrap_j h h2]; simp only [intOf]; omega
theorem prAt_len (s : Ln) : ∀ R : List Ln, (prAt s R).length ≤ R.length
  | [] => Nat.le_refl _
  | t :: r => by
    have := prAt_len s r
    unfold prAt
    split
    · split <;> simp only [List.length_cons] <;> omega
    · simp
theorem prs_len : ∀ (L : List Ln) (n : Nat), L.length ≤ n → (prsOf L).length ≤ L.length * n
  | [], _, _ => Nat.zero_le _
  | s :: r, n, h => by
    unfold prsOf
    simp only [List.length_cons] at h
    have h1 := prAt_len s r
    have h2 := prs_len r n (by omega)
    rw [List.length_append, List.length_cons, Nat.succ_mul]
    omega
theorem done_len {d a b : List (Ln × Ln)} {L : List Ln} {n : Nat} (h : d ++ a ++ b = prsOf L) (hn : L.length = n) (h4 : n ≤ 4096) : d.length ≤ 16777216 := by
  have e := congrArg List.length h
  have k := prs_len L 4096 (by omega)
  simp only [List.length_append] at e
  omega
def StepP (F : Nat) (cap : Array Value) (L : List Ln) (I : List (Ln × Ln) → World → Prop) : Prop :=
  ∀ done s t w1, done.length ≤ 16777216 → s ∈ L → t ∈ L → I done w1 → Calls Tryz.prog F (#[s.v, t.v] ++ cap) w1 fun e w2 => (∃ v, e = .returned v) ∧ I (done ++ [(s, t)]) w2 ∧ KC w1 w2
set_option maxRecDepth 1000000 in
set_option maxHeartbeats 16000000 in
theorem px_pairs (A : Option Addr) (c : Nat) (L : List Ln) (F : Nat) (cap : Array Value) (I : List (Ln × Ln) → World → Prop) (w : World) (hr : RdG 4 lnE w w.heap.size A L) (hL : L.length ≤ 4096) (hE : ∀ args w, (callFunc F args).run Tryz.prog w = .ok (.enter F args) w) (hI0 : I [] w) (hIs : ∀ d w1 w2, I d w1 → Since w1 w2 → I d w2) (hstep : StepP F cap L I) :
    Calls Tryz.prog 62 #[.slice A L.length c, .func (.func F) #[] cap] w fun e w' => (∃ v, e = .returned v) ∧ ∃ L', List.Perm L' L ∧ SortedL (Go.Proofs.ltOf cmpL) L' ∧ I (prsOf L') w' ∧ KC w w' := by
  have HR := Lib.hid hr; have HSTEP := Lib.hid hstep; have HIS := Lib.hid hIs
  have hLs : L.length < 4611686018427387904 := by omega
  have hmin := min2_run
  have hmax := max2_run
  clear hr hstep hIs
  obtain ⟨n, hn⟩ : ∃ n, n = L.length := ⟨_, rfl⟩
  have HN := Lib.hid hn
  rw [← hn] at hL ⊢
  clear hn
  go_enter Tryz.func62, Tryz.ntmps62
  go_upto_region 3 with (first | (go_at_call 92; have _h := (px_clone A c L _ (HR.out.on ((Since.refl w).alloc (.cells #[.func (.func 91) #[] #[]] 154))) (by rw [← HN.out]; omega)); rw [← HN.out] at _h; (with_reducible refine _h.mono ?_); rintro e w2 ⟨v2, rfl, hO2, hS2⟩; have hf2 : w2.cell? ⟨w.heap.size, 0, none⟩ = some (.func (.func 91) #[] #[]) := (hS2.1 _ _ (by simp)).trans (by rw [World.cell?_alloc_new]; rfl); have hz2 : w.heap.size < w2.heap.size := hS2.2.2.1 _ (by simp); have hne2 : v2.ownBlock ≠ some w.heap.size := (fun e => Nat.not_succ_le_self w.heap.size (by have h := (hO2.lt e).1; simpa using h))) | (go_at_call 93; have _h := px_sortl_any w w2 _ w.heap.size v2 L (((Since.refl w).alloc _).trans hS2) (by simp) hO2 hLs hf2 hz2 hne2; (with_reducible refine _h.mono ?_); rintro e w3 ⟨⟨u3, rfl⟩, L', hp, hs, hO3, hS3, hf3, hb3⟩))
  clear hO2 hS2 hf2 hz2 hne2 _h
  obtain ⟨A3, c3, rfl, hc3, hr3⟩ := hO3.rd (by omega) lnE_len
  have hI3 := HIS.out _ _ _ hI0 hS3
  have hln : L'.length = n := by rw [HN.out]; exact hp.length_eq
  have hmem : ∀ s ∈ L', s ∈ L := fun s h => hp.mem_iff.1 h
  have HLN := Lib.hid hln; have HMEM := Lib.hid hmem; have HP := Lib.hid hp; have HS := Lib.hid hs; have HS3 := Lib.hid hS3
  rw [hln] at hc3 ⊢
  have hc4 : (n : Int) ≤ (c3 : Int) := by omega
  clear hO3 hs hp hln hmem hI0 HR HN hLs _h
  go_wp2_with fail
  go_loopw [20] (fun y wr => ∃ i : Nat, i ≤ n ∧ y = .int .i64 (i : Int) ∧ (∃ d, d ++ prsOf (L'.drop i) = prsOf L' ∧ I d wr) ∧ KC w3 wr) (fun y _ => n - (intOf y).toNat)
  case atStart => exact ⟨0, by omega, rfl, ⟨[], rfl, hI3⟩, KC.refl _⟩
  case round =>
    obtain ⟨i, hi, rfl, ⟨d, hd, hI⟩, hK⟩ := hrel
    by_cases hin : i < n
    · have hin' : (i : Int) < n := by omega
      obtain ⟨b, o, rfl, hb, hcell⟩ := hr3 (by rw [HLN.out]; omega)
      obtain ⟨s, hs⟩ : ∃ s, L'[i]? = some s := ⟨_, List.getElem?_eq_getElem (by rw [HLN.out]; exact hin)⟩
      have s0 := hK.cell (hcell i s hs 0 (by omega))
      have s1 := hK.cell (hcell i s hs 1 (by omega))
      have s2 := hK.cell (hcell i s hs 2 (by omega))
      have s3 := hK.cell (hcell i s hs 3 (by omega))
      simp only [lnE, List.getD_cons_succ, List.getD_cons_zero, Nat.add_zero] at s0 s1 s2 s3
      have hbr : b < wr.heap.size := Nat.lt_of_lt_of_le hb hK.1
      have x6 : (0 : Int) ≤ (i : Int) := by omega
      have HD := Lib.hid hd; have HI := Lib.hid hI; have HCELL := Lib.hid hcell; have HSG := Lib.hid hs
      clear hd hI hcell hs hI3
      go_upto_block 1 with fail
      go_cut [] (fun wx => (∃ d', d' ++ prsOf (L'.drop (i + 1)) = prsOf L' ∧ I d' wx) ∧ KC w3 wx)
      case first =>
        go_upto_region 6 with fail
        refine wp_named fun wa hwa => ?_
        have hLn : LnAt wa wr.heap.size s := by subst hwa; exact ln_new wr _ rfl s _
        have hIa := HIS.out d wr wa HI.out (by subst hwa; exact (Since.refl _).alloc _)
        have hKa : KC w3 wa := by subst hwa; exact hK.alloc _
        clear hwa s0 s1 s2 s3
        obtain ⟨t0, t1, t2, t3, t4⟩ := id hLn
        go_cut [8, 9, 10] (fun x y z wx => x = .int .i64 (hi2 s.ax s.bx) ∧ y = .int .i64 (lo2 s.ay s.bz) ∧ z = .int .i64 (hi2 s.ay s.bz) ∧ wx = wa.drew)
        case first =>
          (refine wp_named fun wr6 hwr6 => ?_; go_region_held3 (fun w' => (∀ b o, b < wr6.heap.size → w'.cell? ⟨b, o, none⟩ = wr6.cell? ⟨b, o, none⟩) ∧ (∀ b o, b < wr6.heap.size → w'.frozen? ⟨b, o, none⟩ = wr6.frozen? ⟨b, o, none⟩) ∧ (∀ k, k < wr6.heap.size → k < w'.heap.size) ∧ Below wr6.heap.size wr6 w') ((subst hwr6; (repeat (with_reducible (refine since_put ?_ ?_ _); rotate_left; focus (first | (simp; done) | (simp; omega) | omega))); first | with_reducible assumption | (refine since_step (by with_reducible assumption) ?_; first | with_reducible assumption | ((repeat (first | with_reducible (exact Since.refl _) | with_reducible assumption | with_reducible (refine Since.drew ?_) | with_reducible (refine Since.drewN ?_ _) | with_reducible (refine Since.alloc ?_ _) | (with_reducible (refine Since.setCell ?_ ?_ _); rotate_left; focus (first | (simp; done) | (simp; omega) | omega)))); done)) | (refine since_step (Since.refl _) ?_; first | with_reducible assumption | ((repeat (first | with_reducible (exact Since.refl _) | with_reducible assumption | with_reducible (refine Since.drew ?_) | with_reducible (refine Since.drewN ?_ _) | with_reducible (refine Since.alloc ?_ _) | (with_reducible (refine Since.setCell ?_ ?_ _); rotate_left; focus (first | (simp; done) | (simp; omega) | omega)) | (with_reducible (refine Since.trans ?_ (by with_reducible assumption))))); done)))) (fail); all_goals (rename_i hHeld; have hR6 : Since wr6 _ := hHeld; obtain ⟨hcR6, hfR6, hzR6, hbR6⟩ := hHeld; subst hwr6))
          all_goals (go_wp2_with fail)
          all_goals go_meet
          all_goals exact ⟨rfl, rfl, rfl, rfl⟩
        obtain ⟨rfl, rfl, rfl, hwc⟩ := hcut
        clear t0 t1 t2 t3 t4
        have hLc : LnAt wc wr.heap.size s := by rw [hwc]; exact hLn
        have hKc : KC w3 wc := by rw [hwc]; exact hKa
        have hIc : I d wc := by rw [hwc]; exact HIS.out d wa _ hIa ((Since.refl _).drew)
        clear hwc hLn hKa hIa HI hK
        have y1 : IntKind.i64.wrap ((i : Int) + 1) = (i : Int) + 1 := IntWalk.i64_in _ (by omega)
        have y2 : (0 : Int) ≤ (i : Int) + 1 := by omega
        have y3 : (i : Int) + 1 ≤ (n : Int) := by omega
        have y4 : ((i : Int) + 1).toNat = i + 1 := by omega
        have hfc := hKc.cell hf3
        have hfz : w.heap.size < wc.heap.size := Nat.lt_of_lt_of_le hb3 hKc.1
        obtain ⟨m, hm⟩ : ∃ m, m = n - (i + 1) := ⟨_, rfl⟩
        have hmR : (L'.drop (i + 1)).length = m := by rw [List.length_drop, HLN.out, hm]
        have HMR := Lib.hid hmR
        have HM4 := Lib.hid (show m ≤ 4096 from by omega)
        clear hmR
        go_upto_region 7 with fail
        go_cut [49, 50, 51] (fun x y z wx => ∃ B c', x = .slice (some ⟨b, B, none⟩) m c' ∧ y = .int .i64 (m : Int) ∧ z = .int .i64 0 ∧ wx = wc ∧ (0 < m → B = o + (i + 1) * 4))
        case first =>
          by_cases hcc : c3 = i + 1
          · go_wp2_with fail
            go_meet
            exact ⟨_, _, by rw [hm], by rw [hm], rfl, rfl, fun h => by omega⟩
          · go_wp2_with fail
            go_meet
            exact ⟨_, _, by rw [hm], by rw [hm], rfl, rfl, fun h => rfl⟩
        obtain ⟨B, c4, rfl, rfl, rfl, rfl, hB⟩ := hcut
        have HB := Lib.hid hB
        clear hB hm
        clear hbr
        generalize wr.heap.size = sb at *
        go_wp2_with fail
        go_loopw [51] (fun y wk => ∃ j : Nat, j ≤ m ∧ y = .int .i64 (j : Int) ∧ (∃ d', d' ++ prAt s ((L'.drop (i + 1)).drop j) ++ prsOf (L'.drop (i + 1)) = prsOf L' ∧ I d' wk) ∧ KC wc wk) (fun y _ => m - (intOf y).toNat)
        case atStart => exact ⟨0, by omega, rfl, ⟨d, by rw [List.drop_zero, List.append_assoc, ← prs_drop HSG.out]; exact HD.out, hIc⟩, KC.refl _⟩
        case round =>
          obtain ⟨j, hj, rfl, ⟨d', hd', hI'⟩, hKk⟩ := hrel
          by_cases hjm : j < m
          · have hjm' : (j : Int) < m := by omega
            have x7 : (0 : Int) ≤ (j : Int) := by omega
            obtain ⟨t, ht⟩ : ∃ t, (L'.drop (i + 1))[j]? = some t := ⟨_, List.getElem?_eq_getElem (by rw [HMR.out]; exact hjm)⟩
            have ht2 := ht
            rw [List.getElem?_drop] at ht2
            have hBv : B = o + (i + 1) * 4 := HB.out (by omega)
            have hKj : KC w3 wr := hKc.trans hKk
            have eB : ∀ k, o + (i + 1 + j) * 4 + k = B + j * 4 + k := fun k => by rw [hBv]; omega
            have t0 := hKj.cell (HCELL.out (i + 1 + j) t ht2 0 (by omega))
            have t1 := hKj.cell (HCELL.out (i + 1 + j) t ht2 1 (by omega))
            have t2 := hKj.cell (HCELL.out (i + 1 + j) t ht2 2 (by omega))
            have t3 := hKj.cell (HCELL.out (i + 1 + j) t ht2 3 (by omega))
            rw [eB] at t0 t1 t2 t3
            simp only [lnE, List.getD_cons_succ, List.getD_cons_zero, Nat.add_zero] at t0 t1 t2 t3
            have hbk : b < wr.heap.size := Nat.lt_of_lt_of_le hb hKj.1
            have hpr := prAt_drop (s := s) ht
            have hsL := HMEM.out s (List.mem_of_getElem? HSG.out)
            have htL := HMEM.out t (List.mem_of_getElem? ht2)
            have hC := HSTEP.out d' s t
            have hdl := done_len hd' HLN.out hL
            have HPR := Lib.hid hpr; have HD' := Lib.hid hd'; have HI' := Lib.hid hI'
            have hLf := fun w => px_left t w
            have hgr := fun (w1 : World) (h : I d' w1) => hC w1 hdl hsL htL h
            unfold Ln.v at hLf hgr
            have HLF := Lib.hid hLf; have HGR := Lib.hid hgr
            clear hpr hd' hI' ht ht2 eB hBv hC hLf hgr hsL htL hdl
            go_upto_region 10 with fail
            refine wp_named fun we hwe => ?_
            have hTe : Since wr we := by subst hwe; exact (Since.refl _).alloc _
            have hTt : LnAt we wr.heap.size t := by subst hwe; exact ln_new wr _ rfl t _
            have hSs : LnAt we sb s := (hKk.ln hLc).since hTe
            have hIe := HIS.out d' wr we HI'.out hTe
            have hKe : KC wc we := hKk.trans (KC.of_since hTe)
            have hfe := hKe.cell hfc
            have hfl : w.heap.size < we.heap.size := Nat.lt_of_lt_of_le hfz hKe.1
            clear hwe t0 t1 t2 t3 hTe hfc hfz
            obtain ⟨t0, t1, t2, t3, t4⟩ := id hTt
            by_cases h1 : hi2 s.ax s.bx < lo2 t.ax t.bx
            · have d1 : decide (hi2 s.ax s.bx < lo2 t.ax t.bx) = true := by simp [h1]
              have e1 : prL s t = false := by unfold prL; simp; omega
              go_wp2_with (go_at_call 91; (with_reducible refine (HLF.out _).mono ?_); rintro e w5 ⟨rfl, hG5⟩; have hS5 := hG5.since)
              go_meet
              refine ⟨⟨d', ?_, HIS.out _ _ _ hIe hS5⟩, (hKc.trans hKe).trans (KC.of_since hS5)⟩
              have hd' := HD'.out
              rw [HPR.out, e1, if_neg (by simp), List.append_nil] at hd'
              exact hd'
            · have d1 : decide (hi2 s.ax s.bx < lo2 t.ax t.bx) = false := by simp; omega
              have e1 : prL s t = true := by unfold prL; simp; omega
              have hd' := HD'.out
              rw [HPR.out, e1, if_pos rfl] at hd'
              clear HPR HD' h1 e1
              by_cases c1 : lo2 s.ay s.bz ≤ hi2 t.ay t.bz
              · have d2 : decide (lo2 s.ay s.bz ≤ hi2 t.ay t.bz) = true := by simp [c1]
                by_cases c2 : lo2 t.ay t.bz ≤ hi2 s.ay s.bz
                · have d3 : decide (lo2 t.ay t.bz ≤ hi2 s.ay s.bz) = true := by simp [c2]
                  have e2 : prY s t = true := by unfold prY; rw [d2, d3]; rfl
                  rw [e2, if_pos rfl] at hd'
                  have HD' := Lib.hid hd'
                  clear hd' c1 c2 e2
                  go_wp2_with (first | (go_at_call 91; (with_reducible refine (HLF.out _).mono ?_); rintro e w5 ⟨rfl, hG5⟩; have hS5 := hG5.since; have hT5 := hTt.since hS5; have hU5 := hSs.since hS5; have hI5 := HIS.out _ _ _ hIe hS5; have hK5 := (hKe.trans (KC.of_since hS5)); clear t0 t1 t2 t3 t4; obtain ⟨t0, t1, t2, t3, t4⟩ := id hT5; obtain ⟨s0, s1, s2, s3, s4⟩ := id hU5) | (refine (Calls.mono (HGR.out _ hI5) ?_); rintro e w6 ⟨⟨v6, rfl⟩, hI6, hK6⟩))
                  go_roundw
                  case rel => exact ⟨j + 1, hjm, num_j hjm HM4.out, ⟨d' ++ [(s, t)], by rw [← HD'.out]; simp, hI6⟩, hK5.trans hK6⟩
                  case measure => exact meas_j hjm HM4.out
                · have d3 : decide (lo2 t.ay t.bz ≤ hi2 s.ay s.bz) = false := by simp; omega
                  have e2 : prY s t = false := by unfold prY; rw [d2, d3]; rfl
                  rw [e2, if_neg (by simp)] at hd'
                  have HD' := Lib.hid hd'
                  clear hd' c1 c2 e2
                  go_wp2_with (go_at_call 91; (with_reducible refine (HLF.out _).mono ?_); rintro e w5 ⟨rfl, hG5⟩; have hS5 := hG5.since; have hT5 := hTt.since hS5; have hU5 := hSs.since hS5; have hI5 := HIS.out _ _ _ hIe hS5; have hK5 := (hKe.trans (KC.of_since hS5)); clear t0 t1 t2 t3 t4; obtain ⟨t0, t1, t2, t3, t4⟩ := id hT5; obtain ⟨s0, s1, s2, s3, s4⟩ := id hU5)
                  go_roundw
                  case rel => exact ⟨j + 1, hjm, num_j hjm HM4.out, ⟨d', HD'.out, hI5⟩, hK5⟩
                  case measure => exact meas_j hjm HM4.out
              · have d2 : decide (lo2 s.ay s.bz ≤ hi2 t.ay t.bz) = false := by simp; omega
                have e2 : prY s t = false := by unfold prY; rw [d2]; rfl
                rw [e2, if_neg (by simp)] at hd'
                have HD' := Lib.hid hd'
                clear hd' c1 e2
                go_wp2_with (go_at_call 91; (with_reducible refine (HLF.out _).mono ?_); rintro e w5 ⟨rfl, hG5⟩; have hS5 := hG5.since; have hT5 := hTt.since hS5; have hU5 := hSs.since hS5; have hI5 := HIS.out _ _ _ hIe hS5; have hK5 := (hKe.trans (KC.of_since hS5)); clear t0 t1 t2 t3 t4; obtain ⟨t0, t1, t2, t3, t4⟩ := id hT5; obtain ⟨s0, s1, s2, s3, s4⟩ := id hU5)
                go_roundw
                case rel => exact ⟨j + 1, hjm, num_j hjm HM4.out, ⟨d', HD'.out, hI5⟩, hK5⟩
                case measure => exact meas_j hjm HM4.out
          · obtain rfl : j = m := by omega
            have hjm' : ¬ (j : Int) < j := by omega
            go_wp2_with fail
            go_meet
            refine ⟨⟨d', ?_, hI'⟩, hKc.trans hKk⟩
            rw [List.drop_eq_nil_of_le (by rw [HMR.out]; omega), prAt, List.append_nil] at hd'
            exact hd'
      obtain ⟨⟨d2, hd2, hI2⟩, hK2⟩ := hcut
      go_wp2_with fail
      go_roundw
      case rel => exact ⟨i + 1, by omega, by first | go_num | exact congrArg (Value.int IntKind.i64) (by omega), ⟨d2, hd2, hI2⟩, hK2⟩
      case measure => simp [intOf]; omega
    · obtain rfl : i = n := by omega
      have hin' : ¬ (i : Int) < i := by omega
      go_wp2_with fail
      go_end0
      refine ⟨⟨_, rfl⟩, L', HP.out, HS.out, ?_, (KC.of_since HS3.out).trans hK⟩
      rw [List.drop_eq_nil_of_le (by rw [HLN.out]; omega), prsOf, List.append_nil] at hd
      rw [← hd]; exact hI
end Go.Proofs.YtcfghkphkmoikaaGreat
