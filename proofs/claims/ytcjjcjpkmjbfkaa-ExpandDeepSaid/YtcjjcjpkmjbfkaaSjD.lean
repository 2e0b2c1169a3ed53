/-
  Layer 7: the reference's flags: what an append leaves beside a reader; a reader that had failed.
-/
import Derived.Test.YtcjjcjpkmjbfkaaMhE
import Derived.Test.YtcjjcjpkmjbfkaaMhA
import Derived.Test.YtcjjcjpkmjbfkaaMhC
import Derived.Test.YtcjjcjpkmjbfkaaMhF
namespace Go.Proofs.Ytcjjcjpkmjbfkaa
open Go.RowKit Go.ChangeShapes Go.WideShapes Go.Deep
set_option linter.unusedVariables false
set_option linter.unusedSimpArgs false

theorem Nigh.since {q : Nat} {a b c : World} (h : Nigh q a b) (k : Since b c) : Nigh q a c := ⟨h.1.since k, fun w0 h0 hq => (h.2 w0 h0 hq).trans k⟩
theorem Nigh.grown {q : Nat} {a b c : World} {row : Option Nat} (h : Nigh q a b) (hg : b.grownBy c row) (hr : ∀ k, row = some k → a.heap.size ≤ k) : Nigh q a c :=
  ⟨⟨Nat.le_trans h.1.1 hg.size, fun x hx hq => (hg.block x (Nat.lt_of_lt_of_le hx h.1.1) (fun e => by have := hr x e.symm; omega)).trans (h.1.2 x hx hq)⟩,
   fun w0 h0 hq => since_grown (h.2 w0 h0 hq) hg (fun k hk => Nat.le_trans h0.below.size (hr k hk))⟩
/-- append of one number, just built, to numbers of the call's own, beside a reader. -/
theorem wpList_append_near {w w0 : World} {ops : Array Oper} {rest : List Oper} {o : Oper} {a : Act} {Q : Exit → Act → World → Prop} (hgd : o.guard = none) (s x : Operand)
    (ho : o.op = .call { callee := .builtin .append, args := #[s, x], argTypes := #[72, 72] })
    (ty : TypeId) (q : Nat) (hq : q < w0.heap.size) (hN : Nigh q w0 w) (n : Nat) (F : Nat → Value) (hF : Row w q n F) (v : Value) (L : List Int) (hs : a.eval s = v) (hown : OwnI w w0.heap.size v L) (b c : Nat) (y : Int) (hx : a.eval x = .slice (some ⟨b, 0, none⟩) 1 c) (hb : b = w.heap.size)
    (hbytes : L.length ≤ 3000000)
    (h : ∀ v' w', OwnI w' w0.heap.size v' (L ++ [y]) → Nigh q w0 w' → Row w' q n F → wpList Try.prog ops Q rest (a.put o.dst v') w') :
    wpList Try.prog ops Q (o :: rest) a (w.alloc (.cells #[.int .i64 y] ty)) :=
  wpList_append_g hgd s x 72 3 ho (by omega) inL_len inL_one 8 Try.underlying72 infoIn w0.heap.size v L hs (hown.alloc _) _ _ c [y] hx (in_one w b hb ty y) (by simp only [List.length_cons, List.length_nil]; omega) (by simp only [List.length_cons, List.length_nil, maxLen]; omega) (by have := hN.1.1; simp; omega)
    (fun v' w' h9 hg hlt => h v' w' h9 (Nigh.grown (hN.since ((Since.refl w).alloc _)) hg (fun k hk => (hlt k hk).1))
      (Row.grownB (hF.alloc _) hg (fun e => by have := (hlt q e).1; omega)))
set_option maxRecDepth 100000 in
set_option maxHeartbeats 8000000 in
theorem rf_flags7_no (q : Nat) (A : Option Addr) (n c : Nat) (p E m : Int) (w : World) (hR : Row w q 3 (RdrF A n c p E)) (h0 : E ≠ 0) :
    Calls Try.prog 47 #[.pointer (some ⟨q, 0, none⟩), .int .i64 m] w fun e w' => e = .returned (.slice none 0 0) ∧ w' = w := by
  obtain ⟨c0, c1, c2, f1, f2, hq⟩ := rdr_cells hR
  have d0 : (E == 0) = false := by simpa using h0
  clear hR
  go_enter Try.func47, Try.ntmps47
  go_wp2_with fail
  go_loopw [5] (fun v wr => v = .slice none 0 0 ∧ Hid (wr = w)) (fun _ _ => 0)
  case atStart => exact ⟨rfl, Lib.hid rfl⟩
  case round =>
    obtain ⟨rfl, hw⟩ := hrel
    have hw' := hw.out
    subst hw'
    clear hw
    go_wp2_with fail
    go_ret
    exact ⟨rfl, rfl⟩
theorem Rd.near {w w' : World} {B q n : Nat} {A : Option Addr} {V : Nat → Value} (h : Rd w B A n V) (k : Nigh q w w') (hB : B ≤ q) (hq : q < w.heap.size) : Rd w' B A n V := h.keep fun b o hb => by
  have e := k.1.2 b (by omega) (by omega)
  simp only [World.cell?, e]
/-- What 'flags' leaves. -/
def RfFl (q : Nat) (A : Option Addr) (n c : Nat) (T : Fl7) (w : World) (e : Ending) (w' : World) : Prop :=
  ∃ v L p, e = .returned v ∧ OwnI w' w.heap.size v L ∧ Row w' q 3 (RdrF A n c p T.e) ∧ Nigh q w w' ∧ (T.e = 0 → L = T.L ∧ p = (T.p : Int)) ∧ L.length ≤ 4096
/-- Where the loop of 'flags' stands: L are read; the reader stands at p, or has failed as it must. -/
def FlHead (q : Nat) (A : Option Addr) (n c : Nat) (f : Nat → Int) (m : Nat) (T : Fl7) (L : List Int) (wr : World) : Prop :=
  (∃ p : Nat, Row wr q 3 (RdrF A n c (p : Int) 0) ∧ p ≤ n ∧ T.e = (flGo f n (m - L.length) (m - L.length) p).e ∧ (T.e = 0 → T.L = L ++ (flGo f n (m - L.length) (m - L.length) p).L ∧ T.p = (flGo f n (m - L.length) (m - L.length) p).p)) ∨
  (T.e ≠ 0 ∧ ∃ p : Int, Row wr q 3 (RdrF A n c p T.e))
theorem flHead_start (q : Nat) (A : Option Addr) (n c : Nat) (f : Nat → Int) (m p : Nat) (w : World) (hR : Row w q 3 (RdrF A n c (p : Int) 0)) (hp : p ≤ n) : FlHead q A n c f m (flGo f n m m p) [] w :=
  .inl ⟨p, hR, hp, rfl, fun _ => ⟨rfl, rfl⟩⟩
theorem flGo_zero (f : Nat → Int) (n p : Nat) : flGo f n 0 0 p = ⟨0, [], p⟩ := rfl
/-- At the end: all are read, or it has failed. -/
theorem flHead_end {q n c m : Nat} {A : Option Addr} {f : Nat → Int} {T : Fl7} {L : List Int} {wr : World} (h : FlHead q A n c f m T L wr) (hL : L.length = m) : ∃ p : Int, Row wr q 3 (RdrF A n c p T.e) ∧ (T.e = 0 → L = T.L ∧ p = (T.p : Int)) := by
  rcases h with ⟨p, hR, hp, he, hT⟩ | ⟨h0, p, hR⟩
  · rw [hL, Nat.sub_self, flGo_zero] at he hT
    simp only at he
    refine ⟨p, by rw [he]; exact hR, fun _ => ?_⟩
    obtain ⟨h1, h2⟩ := hT he
    rw [List.append_nil] at h1
    exact ⟨h1.symm, by rw [h2]⟩
  · exact ⟨p, hR, fun e => absurd e h0⟩
theorem rf_u1_in (q B : Nat) (A : Option Addr) (n c : Nat) (f : Nat → Int) (p : Nat) (w : World) (hR : Row w q 3 (RdrF A n c (p : Int) 0)) (h : Rd w B A n (U8 f)) (hB : B ≤ q) (hf : ∀ j, j < n → 0 ≤ f j ∧ f j ≤ 255) (hp : p + 1 ≤ n) (hn : n ≤ 140737488355328) :
    Calls Try.prog 46 #[.pointer (some ⟨q, 0, none⟩), .int .i64 1] w fun e w' => e = .returned (.int .i64 (f p)) ∧ Row w' q 3 (RdrF A n c ((p + 1 : Nat) : Int) 0) ∧ Nigh q w w' := by
  refine (rf_u7 q A n c f p 1 1 3 (p : Int) 0 w hR (h.more (by have := hR.2.2; omega)) hf rfl (by omega) (by omega) hn (.inr ⟨rfl, rfl, rfl, by omega⟩)).mono ?_
  rintro e w' ⟨v, p', E, rfl, hR', hN, hst, hv, hv0⟩
  rcases hst with ⟨rfl, _, h3⟩ | ⟨rfl, _, rfl, _⟩
  · have := h3 rfl; omega
  · exact ⟨by rw [hv rfl]; simp [numAt], hR', hN⟩
theorem rf_u1_out (q B : Nat) (A : Option Addr) (n c : Nat) (f : Nat → Int) (p : Nat) (w : World) (hR : Row w q 3 (RdrF A n c (p : Int) 0)) (h : Rd w B A n (U8 f)) (hB : B ≤ q) (hf : ∀ j, j < n → 0 ≤ f j ∧ f j ≤ 255) (hp : p ≤ n) (hp1 : n < p + 1) (hn : n ≤ 140737488355328) :
    Calls Try.prog 46 #[.pointer (some ⟨q, 0, none⟩), .int .i64 1] w fun e w' => e = .returned (.int .i64 0) ∧ (∃ p' : Int, Row w' q 3 (RdrF A n c p' 3)) ∧ Nigh q w w' := by
  refine (rf_u7 q A n c f p 1 1 3 (p : Int) 0 w hR (h.more (by have := hR.2.2; omega)) hf rfl (by omega) (by omega) hn (.inr ⟨rfl, rfl, rfl, hp⟩)).mono ?_
  rintro e w' ⟨v, p', E, rfl, hR', hN, hst, hv, hv0⟩
  rcases hst with ⟨rfl, h0, h3⟩ | ⟨rfl, _, rfl, h4⟩
  · exact ⟨by rw [hv0 h0], ⟨p', hR'⟩, hN⟩
  · omega
set_option maxRecDepth 100000 in
set_option maxHeartbeats 16000000 in
theorem rf_flags7 (q B : Nat) (A : Option Addr) (n c : Nat) (f : Nat → Int) (p m : Nat) (w : World) (hR : Row w q 3 (RdrF A n c (p : Int) 0)) (h : Rd w B A n (U8 f)) (hB : B ≤ q) (hf : ∀ j, j < n → 0 ≤ f j ∧ f j ≤ 255) (hp : p ≤ n) (hn : n ≤ 140737488355328) (hm : m ≤ 4096) :
    Calls Try.prog 47 #[.pointer (some ⟨q, 0, none⟩), .int .i64 (m : Int)] w (RfFl q A n c (flGo f n m m p) w) := by
  have hq := hR.2.2
  have H0 := Lib.hid (flHead_start q A n c f m p w hR hp)
  have hmI : (m : Int) ≤ 4096 := by omega
  have HF := Lib.hid hf
  obtain ⟨T, hT⟩ : ∃ T, T = flGo f n m m p := ⟨_, rfl⟩
  rw [← hT] at H0 ⊢
  clear hT hf hp hR
  go_enter Try.func47, Try.ntmps47
  go_wp2_with fail
  go_loopw [5] (fun v wr => ∃ L : List Int, L.length ≤ m ∧ OwnI wr w.heap.size v L ∧ Nigh q w wr ∧ Hid (FlHead q A n c f m T L wr)) (fun v _ => m - (match v with | .slice _ k _ => k | _ => 0))
  case atStart => exact ⟨[], by simp, OwnG.nil _ _ _ _ _, Nigh.refl q w, H0⟩
  case round =>
    obtain ⟨L, hL, hO, hN, HH⟩ := hrel
    obtain ⟨A5, c5, rfl, hc5, hr5⟩ := hO.rd (by omega) inL_len
    obtain ⟨k, hk⟩ : ∃ k, k = L.length := ⟨_, rfl⟩
    rw [← hk] at hL hO hc5 ⊢
    have HK := Lib.hid hk
    have hqr : q < wr.heap.size := Nat.lt_of_lt_of_le hq hN.1.1
    have hRb := h.near hN hB hq
    clear H0 hk
    by_cases hkm : k = m
    · obtain ⟨p1, hR1, hT1⟩ := flHead_end HH.out (by rw [← HK.out]; exact hkm)
      have hkm' : ¬ (k : Int) < (m : Int) := by omega
      have HT1 := Lib.hid hT1
      obtain ⟨c0, c1, c2, f1, f2, hq2⟩ := rdr_cells hR1
      clear hT1
      have HR1 := Lib.hid hR1
      obtain rfl : k = m := hkm
      clear hR1 HH
      go_wp2_with fail
      all_goals go_ret
      all_goals exact ⟨_, L, p1, rfl, hO, HR1.out, hN, HT1.out, by rw [← HK.out]; omega⟩
    · have hkm' : (k : Int) < (m : Int) := by omega
      rcases HH.out with ⟨p1, hR1, hp1, he, hTT⟩ | ⟨h0, p1, hR1⟩
      · rw [← HK.out, show m - k = (m - k - 1) + 1 by omega] at he hTT
        have hst := fl_step (f := f) (n := n) (m := m - k - 1) (p := p1) (fun j hj => (HF.out j hj).1)
        have HE := Lib.hid he
        have HTT := Lib.hid hTT
        obtain ⟨c0, c1, c2, f1, f2, hq2⟩ := rdr_cells hR1
        have HR1 := Lib.hid hR1
        clear hR1 he hTT HH
        rcases hst with ⟨s1, s2⟩ | ⟨s1, s2, s3, s4⟩ | ⟨s1, s2, s3, s4⟩ | ⟨s1, s2, s3, s4⟩ | ⟨j, s1, s2, s3, s4, s5⟩
        · have hTe := Lib.hid (HE.out.trans s2)
          go_upto_region 5 with (go_at_call 46; (with_reducible refine (rf_u1_out q B A n c f p1 _ HR1.out hRb hB HF.out hp1 s1 hn).mono ?_); rintro e w4 ⟨rfl, ⟨p4, hR4⟩, hN4⟩; have hNN := hN.trans hN4)
          have HFH := Lib.hid (show ∀ wi, Row wi q 3 (RdrF A n c p4 3) → FlHead q A n c f m T (L ++ List.replicate 1 0) wi from fun wi h => .inr ⟨by rw [hTe.out]; omega, p4, by rw [hTe.out]; exact h⟩)
          have HOz := Lib.hid (OwnG.near hO hN4 (fun e => by have := hO.lt e; omega))
          have hNz := hNN
          have hGz := hR4
          generalize RdrF A n c p4 3 = G at *
          go_wp2_with fail
          go_loopw [5, 8] (fun v y wi => ∃ (i : Nat), i ≤ 1 ∧ y = .int .i64 (i : Int) ∧ OwnI wi w.heap.size v (L ++ List.replicate i 0) ∧ Nigh q w wi ∧ Row wi q 3 G) (fun _ y _ => 1 - (intOf y).toNat)
          case atStart => exact ⟨0, by omega, rfl, by simpa using HOz.out, hNz, hGz⟩
          case round =>
            obtain ⟨i, hi, rfl, hOi, hNi, hGi⟩ := hrel
            by_cases hir : i < 1
            · have hir' : (i : Int) < (1 : Nat) := by omega
              try simp only [Int.natCast_one, Nat.cast_one, Int.cast_ofNat_Int] at hir'
              have hlen : (L ++ List.replicate i 0).length ≤ 3000000 := by rw [List.length_append, List.length_replicate, ← HK.out]; omega
              have u1 : IntKind.i64.wrap ((i : Int) + 1) = (i : Int) + 1 := IntWalk.i64_in _ (by omega)
              have HRS := Lib.hid (show L ++ List.replicate (i + 1) 0 = L ++ List.replicate i 0 ++ [0] by rw [List.replicate_succ', List.append_assoc])
              go_wp2_with (at_builtin; refine wpList_append_near rfl (.tmp 43) (.tmp 45) rfl _ q hq hNi 3 G hGi _ (L ++ List.replicate i 0) (by rfl) hOi _ _ 0 (by rfl) rfl hlen ?_; intro v7 w7 hO7 hN7 hR7)
              go_roundw
              case rel => exact ⟨i + 1, by omega, by first | rfl | go_num, by rw [HRS.out]; exact hO7, hN7, hR7⟩
              case measure => simp [intOf]; omega
            · obtain rfl : i = 1 := by omega
              obtain ⟨A7, c7, rfl, hc7, _⟩ := hOi.rd (by omega) inL_len
              go_wp2_with fail
              go_roundw
              case rel => exact ⟨L ++ List.replicate (1) 0, by rw [List.length_append, List.length_replicate, ← HK.out]; omega, hOi, hNi, Lib.hid (HFH.out _ hGi)⟩
              case measure => (simp only [List.length_append, List.length_replicate]; have := HK.out; omega)
        · obtain ⟨z, hz⟩ : ∃ z, z = f p1 := ⟨_, rfl⟩
          have hzf := HF.out p1 (by omega)
          rw [← hz] at hzf
          have e8 : IntKind.i64.wrap (z.tdiv 8) = z / 8 := by rw [Int.tdiv_eq_ediv_of_nonneg hzf.1, IntKind.wrap_i64]; omega
          have e2 : IntKind.i64.wrap ((z / 8).tmod 2) = z / 8 % 2 := by rw [Int.tmod_eq_emod_of_nonneg (by omega), IntKind.wrap_i64]; omega
          unfold Has8 at s2
          rw [← hz] at s2
          have d8 : (z / 8 % 2 == 1) = false := by simpa using s2
          have HU := Lib.hid (rf_u1_in q B A n c f p1 wr HR1.out hRb hB HF.out s1 hn)
          rw [← hz] at HU
          have S3 := Lib.hid s3
          have S4 := Lib.hid s4
          have HZ := Lib.hid hz
          clear s2 s3 s4 hz
          go_upto_region 5 with (go_at_call 46; (with_reducible refine HU.out.mono ?_); rintro e w4 ⟨rfl, hR4, hN4⟩; have hNN := hN.trans hN4)
          have HFH := Lib.hid (show ∀ wi, Row wi q 3 (RdrF A n c ((p1 + 1 : Nat) : Int) 0) → FlHead q A n c f m T (L ++ List.replicate 1 z) wi from fun wi h => by
            refine .inl ⟨p1 + 1, h, by omega, ?_, fun e => ?_⟩
            · rw [HE.out, S3.out, List.length_append, List.length_replicate, ← HK.out, Nat.sub_sub]
            · obtain ⟨t1, t2⟩ := HTT.out e
              obtain ⟨t3, t4⟩ := S4.out (by rw [← S3.out, ← HE.out]; exact e)
              rw [t1, t2, t3, t4, HZ.out, List.length_append, List.length_replicate, ← HK.out, Nat.sub_sub]
              exact ⟨by simp, rfl⟩)
          have HOz := Lib.hid (OwnG.near hO hN4 (fun e => by have := hO.lt e; omega))
          have hNz := hNN
          have hGz := hR4
          generalize RdrF A n c ((p1 + 1 : Nat) : Int) 0 = G at *
          go_wp2_with fail
          go_loopw [5, 8] (fun v y wi => ∃ (i : Nat), i ≤ 1 ∧ y = .int .i64 (i : Int) ∧ OwnI wi w.heap.size v (L ++ List.replicate i z) ∧ Nigh q w wi ∧ Row wi q 3 G) (fun _ y _ => 1 - (intOf y).toNat)
          case atStart => exact ⟨0, by omega, rfl, by simpa using HOz.out, hNz, hGz⟩
          case round =>
            obtain ⟨i, hi, rfl, hOi, hNi, hGi⟩ := hrel
            by_cases hir : i < 1
            · have hir' : (i : Int) < (1 : Nat) := by omega
              try simp only [Int.natCast_one, Nat.cast_one, Int.cast_ofNat_Int] at hir'
              have hlen : (L ++ List.replicate i z).length ≤ 3000000 := by rw [List.length_append, List.length_replicate, ← HK.out]; omega
              have u1 : IntKind.i64.wrap ((i : Int) + 1) = (i : Int) + 1 := IntWalk.i64_in _ (by omega)
              have HRS := Lib.hid (show L ++ List.replicate (i + 1) z = L ++ List.replicate i z ++ [z] by rw [List.replicate_succ', List.append_assoc])
              go_wp2_with (at_builtin; refine wpList_append_near rfl (.tmp 43) (.tmp 45) rfl _ q hq hNi 3 G hGi _ (L ++ List.replicate i z) (by rfl) hOi _ _ z (by rfl) rfl hlen ?_; intro v7 w7 hO7 hN7 hR7)
              go_roundw
              case rel => exact ⟨i + 1, by omega, by first | rfl | go_num, by rw [HRS.out]; exact hO7, hN7, hR7⟩
              case measure => simp [intOf]; omega
            · obtain rfl : i = 1 := by omega
              obtain ⟨A7, c7, rfl, hc7, _⟩ := hOi.rd (by omega) inL_len
              go_wp2_with fail
              go_roundw
              case rel => exact ⟨L ++ List.replicate (1) z, by rw [List.length_append, List.length_replicate, ← HK.out]; omega, hOi, hNi, Lib.hid (HFH.out _ hGi)⟩
              case measure => (simp only [List.length_append, List.length_replicate]; have := HK.out; omega)
        · obtain ⟨z, hz⟩ : ∃ z, z = f p1 := ⟨_, rfl⟩
          have hzf := HF.out p1 (by omega)
          rw [← hz] at hzf
          have e8 : IntKind.i64.wrap (z.tdiv 8) = z / 8 := by rw [Int.tdiv_eq_ediv_of_nonneg hzf.1, IntKind.wrap_i64]; omega
          have e2 : IntKind.i64.wrap ((z / 8).tmod 2) = z / 8 % 2 := by rw [Int.tmod_eq_emod_of_nonneg (by omega), IntKind.wrap_i64]; omega
          unfold Has8 at s3
          rw [← hz] at s3
          have d8 : (z / 8 % 2 == 1) = true := by simpa using s3
          have HU := Lib.hid (rf_u1_in q B A n c f p1 wr HR1.out hRb hB HF.out s1 hn)
          rw [← hz] at HU
          have HZ := Lib.hid hz
          have hTe := Lib.hid (HE.out.trans s4)
          have HV := Lib.hid (fun (w2 : World) (h2 : Row w2 q 3 (RdrF A n c ((p1 + 1 : Nat) : Int) 0)) (h3 : Rd w2 B A n (U8 f)) => rf_u1_out q B A n c f (p1 + 1) w2 h2 h3 hB HF.out s1 s2 hn)
          clear s2 s3 s4 hz
          go_upto_region 7 with (first | (go_at_call 46; (with_reducible refine HU.out.mono ?_); rintro e w4 ⟨rfl, hR4, hN4⟩; have hNN := hN.trans hN4; have hRb4 := hRb.near hN4 hB hqr) | (go_at_call 46; (with_reducible refine (HV.out _ hR4 hRb4).mono ?_); rintro e w5 ⟨rfl, ⟨p5, hR5⟩, hN5⟩; have hNN5 := hNN.trans hN5))
          have HFH := Lib.hid (show ∀ wi, Row wi q 3 (RdrF A n c p5 3) → FlHead q A n c f m T (L ++ List.replicate 1 z) wi from fun wi h => .inr ⟨by rw [hTe.out]; omega, p5, by rw [hTe.out]; exact h⟩)
          have HOz := Lib.hid (OwnG.near hO (hN4.trans hN5) (fun e => by have := hO.lt e; omega))
          have hNz := hNN5
          have hGz := hR5
          generalize RdrF A n c p5 3 = G at *
          go_wp2_with fail
          go_loopw [5, 8] (fun v y wi => ∃ (i : Nat), i ≤ 1 ∧ y = .int .i64 (i : Int) ∧ OwnI wi w.heap.size v (L ++ List.replicate i z) ∧ Nigh q w wi ∧ Row wi q 3 G) (fun _ y _ => 1 - (intOf y).toNat)
          case atStart => exact ⟨0, by omega, rfl, by simpa using HOz.out, hNz, hGz⟩
          case round =>
            obtain ⟨i, hi, rfl, hOi, hNi, hGi⟩ := hrel
            by_cases hir : i < 1
            · have hir' : (i : Int) < (1 : Nat) := by omega
              try simp only [Int.natCast_one, Nat.cast_one, Int.cast_ofNat_Int] at hir'
              have hlen : (L ++ List.replicate i z).length ≤ 3000000 := by rw [List.length_append, List.length_replicate, ← HK.out]; omega
              have u1 : IntKind.i64.wrap ((i : Int) + 1) = (i : Int) + 1 := IntWalk.i64_in _ (by omega)
              have HRS := Lib.hid (show L ++ List.replicate (i + 1) z = L ++ List.replicate i z ++ [z] by rw [List.replicate_succ', List.append_assoc])
              go_wp2_with (at_builtin; refine wpList_append_near rfl (.tmp 43) (.tmp 45) rfl _ q hq hNi 3 G hGi _ (L ++ List.replicate i z) (by rfl) hOi _ _ z (by rfl) rfl hlen ?_; intro v7 w7 hO7 hN7 hR7)
              go_roundw
              case rel => exact ⟨i + 1, by omega, by first | rfl | go_num, by rw [HRS.out]; exact hO7, hN7, hR7⟩
              case measure => simp [intOf]; omega
            · obtain rfl : i = 1 := by omega
              obtain ⟨A7, c7, rfl, hc7, _⟩ := hOi.rd (by omega) inL_len
              go_wp2_with fail
              go_roundw
              case rel => exact ⟨L ++ List.replicate (1) z, by rw [List.length_append, List.length_replicate, ← HK.out]; omega, hOi, hNi, Lib.hid (HFH.out _ hGi)⟩
              case measure => (simp only [List.length_append, List.length_replicate]; have := HK.out; omega)
        · obtain ⟨z, hz⟩ : ∃ z, z = f p1 := ⟨_, rfl⟩
          have hzf := HF.out p1 (by omega)
          rw [← hz] at hzf
          have e8 : IntKind.i64.wrap (z.tdiv 8) = z / 8 := by rw [Int.tdiv_eq_ediv_of_nonneg hzf.1, IntKind.wrap_i64]; omega
          have e2 : IntKind.i64.wrap ((z / 8).tmod 2) = z / 8 % 2 := by rw [Int.tmod_eq_emod_of_nonneg (by omega), IntKind.wrap_i64]; omega
          unfold Has8 at s2
          rw [← hz] at s2
          have d8 : (z / 8 % 2 == 1) = true := by simpa using s2
          have HU := Lib.hid (rf_u1_in q B A n c f p1 wr HR1.out hRb hB HF.out (by omega) hn)
          rw [← hz] at HU
          have HZ := Lib.hid hz
          have hTe := Lib.hid (HE.out.trans s4)
          have HV := Lib.hid (fun (w2 : World) (h2 : Row w2 q 3 (RdrF A n c ((p1 + 1 : Nat) : Int) 0)) (h3 : Rd w2 B A n (U8 f)) => rf_u1_in q B A n c f (p1 + 1) w2 h2 h3 hB HF.out (by omega) hn)
          have hyf := HF.out (p1 + 1) (by omega)
          have hyb : (m : Int) < (k : Int) + (1 + f (p1 + 1)) := by omega
          generalize f (p1 + 1) = y at *
          have u1 : IntKind.i64.wrap (1 + y) = 1 + y := by rw [IntKind.wrap_i64]; omega
          have u2 : IntKind.i64.wrap ((k : Int) + (1 + y)) = (k : Int) + (1 + y) := by rw [IntKind.wrap_i64]; omega
          clear s2 s3 s4 hz
          go_wp2_with (first | (go_at_call 46; (with_reducible refine HU.out.mono ?_); rintro e w4 ⟨rfl, hR4, hN4⟩; have hNN := hN.trans hN4; have hRb4 := hRb.near hN4 hB hqr) | (go_at_call 46; (with_reducible refine (HV.out _ hR4 hRb4).mono ?_); rintro e w5 ⟨rfl, hR5, hN5⟩; have hNN5 := hNN.trans hN5) | (go_at_call 63; (with_reducible refine (rf_fail7 q A n c _ 0 4 _ hR5).mono ?_); rintro e w6 ⟨rfl, hR6, hN6⟩; rw [if_pos rfl] at hR6; have hNN6 := hNN5.trans hN6))
          go_ret
          exact ⟨_, [], _, rfl, OwnG.nil _ _ _ _ _, by rw [hTe.out]; exact hR6, hNN6, fun e => by rw [hTe.out] at e; omega, by simp⟩
        · obtain ⟨z, hz⟩ : ∃ z, z = f p1 := ⟨_, rfl⟩
          have hzf := HF.out p1 (by omega)
          rw [← hz] at hzf
          have e8 : IntKind.i64.wrap (z.tdiv 8) = z / 8 := by rw [Int.tdiv_eq_ediv_of_nonneg hzf.1, IntKind.wrap_i64]; omega
          have e2 : IntKind.i64.wrap ((z / 8).tmod 2) = z / 8 % 2 := by rw [Int.tmod_eq_emod_of_nonneg (by omega), IntKind.wrap_i64]; omega
          unfold Has8 at s2
          rw [← hz] at s2
          have d8 : (z / 8 % 2 == 1) = true := by simpa using s2
          have HU := Lib.hid (rf_u1_in q B A n c f p1 wr HR1.out hRb hB HF.out (by omega) hn)
          rw [← hz] at HU
          have HZ := Lib.hid hz
          have HV := Lib.hid (fun (w2 : World) (h2 : Row w2 q 3 (RdrF A n c ((p1 + 1 : Nat) : Int) 0)) (h3 : Rd w2 B A n (U8 f)) => rf_u1_in q B A n c f (p1 + 1) w2 h2 h3 hB HF.out (by omega) hn)
          rw [s3] at HV
          have S5 := Lib.hid s5
          have u1 : IntKind.i64.wrap (1 + (j : Int)) = ((j + 1 : Nat) : Int) := by rw [IntKind.wrap_i64]; omega
          have u2 : IntKind.i64.wrap ((k : Int) + ((j + 1 : Nat) : Int)) = ((k + (j + 1) : Nat) : Int) := by rw [IntKind.wrap_i64]; omega
          have d9 : ¬ (m : Int) < ((k + (j + 1) : Nat) : Int) := by omega
          clear s2 s3 s5 hz
          go_upto_region 7 with (first | (go_at_call 46; (with_reducible refine HU.out.mono ?_); rintro e w4 ⟨rfl, hR4, hN4⟩; have hNN := hN.trans hN4; have hRb4 := hRb.near hN4 hB hqr) | (go_at_call 46; (with_reducible refine (HV.out _ hR4 hRb4).mono ?_); rintro e w5 ⟨rfl, hR5, hN5⟩; have hNN5 := hNN.trans hN5))
          have HFH := Lib.hid (show ∀ wi, Row wi q 3 (RdrF A n c ((p1 + 1 + 1 : Nat) : Int) 0) → FlHead q A n c f m T (L ++ List.replicate (j + 1) z) wi from fun wi h => by
            have e9 : m - (L ++ List.replicate (j + 1) z).length = m - k - 1 - j := by rw [List.length_append, List.length_replicate, ← HK.out]; omega
            refine .inl ⟨p1 + 1 + 1, h, by omega, ?_, fun e => ?_⟩
            · rw [e9, HE.out, S5.out.1]
            · obtain ⟨t1, t2⟩ := HTT.out e
              obtain ⟨t3, t4⟩ := S5.out.2 (by rw [← S5.out.1, ← HE.out]; exact e)
              rw [e9, t1, t2, t3, t4, HZ.out]
              exact ⟨by simp, rfl⟩)
          have HOz := Lib.hid (OwnG.near hO (hN4.trans hN5) (fun e => by have := hO.lt e; omega))
          have hNz := hNN5
          have hGz := hR5
          generalize RdrF A n c ((p1 + 1 + 1 : Nat) : Int) 0 = G at *
          go_wp2_with fail
          go_loopw [5, 8] (fun v y wi => ∃ (i : Nat), i ≤ j + 1 ∧ y = .int .i64 (i : Int) ∧ OwnI wi w.heap.size v (L ++ List.replicate i z) ∧ Nigh q w wi ∧ Row wi q 3 G) (fun _ y _ => j + 1 - (intOf y).toNat)
          case atStart => exact ⟨0, by omega, rfl, by simpa using HOz.out, hNz, hGz⟩
          case round =>
            obtain ⟨i, hi, rfl, hOi, hNi, hGi⟩ := hrel
            by_cases hir : i < j + 1
            · have hir' : (i : Int) < (j + 1 : Nat) := by omega
              try simp only [Int.natCast_one, Nat.cast_one, Int.cast_ofNat_Int] at hir'
              have hlen : (L ++ List.replicate i z).length ≤ 3000000 := by rw [List.length_append, List.length_replicate, ← HK.out]; omega
              have u1 : IntKind.i64.wrap ((i : Int) + 1) = (i : Int) + 1 := IntWalk.i64_in _ (by omega)
              have HRS := Lib.hid (show L ++ List.replicate (i + 1) z = L ++ List.replicate i z ++ [z] by rw [List.replicate_succ', List.append_assoc])
              go_wp2_with (at_builtin; refine wpList_append_near rfl (.tmp 43) (.tmp 45) rfl _ q hq hNi 3 G hGi _ (L ++ List.replicate i z) (by rfl) hOi _ _ z (by rfl) rfl hlen ?_; intro v7 w7 hO7 hN7 hR7)
              go_roundw
              case rel => exact ⟨i + 1, by omega, by first | rfl | go_num, by rw [HRS.out]; exact hO7, hN7, hR7⟩
              case measure => simp [intOf]; omega
            · obtain rfl : i = j + 1 := by omega
              obtain ⟨A7, c7, rfl, hc7, _⟩ := hOi.rd (by omega) inL_len
              go_wp2_with fail
              go_roundw
              case rel => exact ⟨L ++ List.replicate (j + 1) z, by rw [List.length_append, List.length_replicate, ← HK.out]; omega, hOi, hNi, Lib.hid (HFH.out _ hGi)⟩
              case measure => (simp only [List.length_append, List.length_replicate]; have := HK.out; omega)
      · have d0 : (T.e == 0) = false := by simpa using h0
        have HR1 := Lib.hid hR1
        obtain ⟨c0, c1, c2, f1, f2, hq2⟩ := rdr_cells hR1
        clear hR1 HH
        go_wp2_with fail
        go_ret
        exact ⟨_, L, p1, rfl, hO, HR1.out, hN, fun e => absurd e h0, by rw [← HK.out]; omega⟩
end Go.Proofs.Ytcjjcjpkmjbfkaa
