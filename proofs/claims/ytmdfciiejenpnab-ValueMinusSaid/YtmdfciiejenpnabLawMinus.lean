/- The walk of the statement ValueMinus: it answers true. (Written by mk_l.py.) -/
import Derived.Test.YtmdfciiejenpnabV9
import Derived.Laws.BitsAllLaws
namespace Go.Proofs.Ytmdfciiejenpnab.Ck
open Go.RowKit

theorem flip_bits (u : Nat) (hu : u < 18446744073709551616) : bits .xor .u64 (u : Int) 9223372036854775808 = ((flipU u : Nat) : Int) ∧ flipU u = (if u < 9223372036854775808 then u + 9223372036854775808 else u - 9223372036854775808) := by
  have h := u64_xor_nat u 9223372036854775808 hu (by decide)
  have e : bits .xor .u64 (u : Int) 9223372036854775808 = ((u ^^^ 9223372036854775808 : Nat) : Int) := h
  have f : flipU u = u ^^^ 9223372036854775808 := by
    unfold flipU
    rw [e]
    rfl
  refine ⟨by rw [e, f], ?_⟩
  rw [f]
  have h1 : (u ^^^ 9223372036854775808) % 2 ^ 63 = u % 2 ^ 63 ^^^ 9223372036854775808 % 2 ^ 63 := Nat.xor_mod_two_pow
  have h2 : (u ^^^ 9223372036854775808) / 2 ^ 63 = u / 2 ^ 63 ^^^ 9223372036854775808 / 2 ^ 63 := Nat.xor_div_two_pow
  rw [show 9223372036854775808 % 2 ^ 63 = 0 by decide, Nat.xor_zero] at h1
  rw [show 9223372036854775808 / 2 ^ 63 = 1 by decide] at h2
  have h3 := Nat.div_add_mod (u ^^^ 9223372036854775808) (2 ^ 63)
  rw [h1, h2] at h3
  by_cases hl : u < 9223372036854775808
  · rw [show u / 2 ^ 63 = 0 by omega] at h3
    rw [if_pos hl]
    have : (0 ^^^ 1 : Nat) = 1 := by decide
    omega
  · rw [show u / 2 ^ 63 = 1 by omega] at h3
    rw [if_neg hl]
    have : (1 ^^^ 1 : Nat) = 0 := by decide
    omega
theorem flip_nan {u : Nat} (hu : u < 18446744073709551616) : nanB (flipU u) = nanB u := by
  rw [(flip_bits u hu).2]
  unfold nanB
  congr 1
  rw [eq_iff_iff]
  split <;> omega
theorem flip_flip {u : Nat} (hu : u < 18446744073709551616) : flipU (flipU u) = u ∧ flipU u < 18446744073709551616 := by
  have h1 : flipU u < 18446744073709551616 := by rw [(flip_bits u hu).2]; split <;> omega
  refine ⟨?_, h1⟩
  rw [(flip_bits _ h1).2, (flip_bits u hu).2]
  split <;> split <;> omega
theorem un_neg_int (n : Int) : unF (⟨#[45]⟩ : ByteArray).toList 1 n 0 = (1, wrap64 (-n), 0, 0) := by
  rw [show (⟨#[45]⟩ : ByteArray).toList = [45] by decide +kernel]
  simp [unF, goodB, ofIntF]
theorem un_neg_float (u : Nat) : unF (⟨#[45]⟩ : ByteArray).toList 2 0 (u : Nat) = (2, 0, ((outU (flipU u) : Nat) : Int), 0) := by
  rw [show (⟨#[45]⟩ : ByteArray).toList = [45] by decide +kernel]
  simp [unF, goodB, ofFloatF]
theorem wr_neg {n : Int} (h : -9223372036854775808 ≤ n ∧ n ≤ 9223372036854775807) : wrap64 (-wrap64 (-n)) = n := by
  unfold wrap64
  omega
theorem self_neq (u : Nat) : (FloatKind.f64.format.order u u != some .eq) = nanB u := order_self u
theorem self_eq (u : Nat) : (FloatKind.f64.format.order u u == some .eq) = !nanB u := by
  have h := order_self u
  have h2 : (FloatKind.f64.format.order u u != some .eq) = !(FloatKind.f64.format.order u u == some .eq) := rfl
  rw [show Ieee.double.order u u = FloatKind.f64.format.order u u from rfl, h2] at h
  rw [← h, Bool.not_not]
set_option maxRecDepth 20000 in
set_option maxHeartbeats 2000000 in
theorem minus_walk (n : Int) (u C D : Nat) (hn : -9223372036854775808 ≤ n ∧ n ≤ 9223372036854775807) (hu : u < 18446744073709551616) (hC : C < 18446744073709551616) (e1 : unF (⟨#[45]⟩ : ByteArray).toList 2 0 (u : Nat) = (2, 0, ((C : Nat) : Int), 0)) (e2 : unF (⟨#[45]⟩ : ByteArray).toList 2 0 (C : Nat) = (2, 0, ((D : Nat) : Int), 0)) (hc : (nanB u = true ∧ D = 9221120237041090561) ∨ (nanB u = false ∧ D = u ∧ C = flipU u)) (w : World) : Calls Try.prog 4 #[.int .i64 n, .int .u64 (u : Nat)] w (Vb w (.bool true)) := by
  obtain ⟨N_, en⟩ : ∃ m, wrap64 (-n) = m := ⟨_, rfl⟩
  have H1 : ∀ w, Calls Try.prog 7 #[.string ⟨#[45]⟩, .agg #[.int .i64 1, .int .i64 n, .int .u64 0]] w (Vi4 w (1, N_, 0, 0)) := fun w => by
    have h := unary_any ⟨#[45]⟩ 1 n 0 (by first | decide | omega) w
    rw [show unF (⟨#[45]⟩ : ByteArray).toList 1 n 0 = (1, N_, 0, 0) from (un_neg_int n).trans (by rw [en])] at h
    exact h
  have H2 : ∀ w, Calls Try.prog 7 #[.string ⟨#[45]⟩, .agg #[.int .i64 1, .int .i64 N_, .int .u64 0]] w (Vi4 w (1, n, 0, 0)) := fun w => by
    have h := unary_any ⟨#[45]⟩ 1 N_ 0 (by first | decide | omega) w
    rw [show unF (⟨#[45]⟩ : ByteArray).toList 1 N_ 0 = (1, n, 0, 0) from (un_neg_int N_).trans (by rw [← en, wr_neg hn])] at h
    exact h
  have H3 : ∀ w, Calls Try.prog 7 #[.string ⟨#[45]⟩, .agg #[.int .i64 2, .int .i64 0, .int .u64 (u : Nat)]] w (Vi4 w (2, 0, ((C : Nat) : Int), 0)) := fun w => by
    have h := unary_any ⟨#[45]⟩ 2 0 (u : Nat) (by first | decide | omega) w
    rw [show unF (⟨#[45]⟩ : ByteArray).toList 2 0 (u : Nat) = (2, 0, ((C : Nat) : Int), 0) from e1] at h
    exact h
  have H4 : ∀ w, Calls Try.prog 7 #[.string ⟨#[45]⟩, .agg #[.int .i64 2, .int .i64 0, .int .u64 (C : Nat)]] w (Vi4 w (2, 0, ((D : Nat) : Int), 0)) := fun w => by
    have h := unary_any ⟨#[45]⟩ 2 0 (C : Nat) (by first | decide | omega) w
    rw [show unF (⟨#[45]⟩ : ByteArray).toList 2 0 (C : Nat) = (2, 0, ((D : Nat) : Int), 0) from e2] at h
    exact h
  have EV := eq_vv
  have NV := neq_vv
  have cf := callFrom
  have hx := (flip_bits u hu).1
  have sn := self_neq u
  have se := self_eq u
  have HC := hide hc
  clear en e1 e2 hn hc hC hu
  go_enter Try.func4, Try.ntmps4
  go_wp2_with fail
  refine (alive_any _).mono ?_
  rintro e w1 ⟨rfl, hb⟩
  have B : Hid (Below w.heap.size w w1) := hide (hb)
  clear hb
  go_wp2_with fail
  refine (int_any _ _).mono ?_
  rintro e w2 ⟨rfl, hb⟩
  replace B : Hid (Below w.heap.size w w2) := hide (bel_trans B.out hb)
  clear hb
  go_wp2_with fail
  refine (H1 _).mono ?_
  rintro e w3 ⟨rfl, hb⟩
  replace B : Hid (Below w.heap.size w w3) := hide (bel_trans B.out hb)
  clear hb
  go_wp2_with fail
  refine (H2 _).mono ?_
  rintro e w4 ⟨rfl, hb⟩
  have P := hide ((Val.new w3 1 N_ 0).al hb)
  replace B : Hid (Below w.heap.size w w4) := hide (bel_trans (bel_al B.out _) hb)
  clear hb
  go_wp2_with fail
  refine (H3 _).mono ?_
  rintro e w5 ⟨rfl, hb⟩
  replace P := hide (P.out.al (bel_trans (bel_al (bel_new _ _) _) hb))
  have Q := hide (((Val.new w4 1 n 0).al (bel_new _ _)).al hb)
  have q := (Val.new (w4.alloc (.cells #[.int .i64 1, .int .i64 n, .int .u64 0] 25)) 2 0 (u : Nat)).al hb
  rw [show (w4.alloc (.cells #[.int .i64 1, .int .i64 n, .int .u64 0] 25)).heap.size = w4.heap.size + 1 by simp] at q
  have V := hide q
  clear q
  replace B : Hid (Below w.heap.size w w5) := hide (bel_trans (bel_al (bel_al B.out _) _) hb)
  clear hb
  go_wp2_with fail
  refine (H4 _).mono ?_
  rintro e w6 ⟨rfl, hb⟩
  replace P := hide (P.out.al (bel_trans (bel_new _ _) hb))
  replace Q := hide (Q.out.al (bel_trans (bel_new _ _) hb))
  replace V := hide (V.out.al (bel_trans (bel_new _ _) hb))
  have X := hide ((Val.new w5 2 0 (C : Nat)).al hb)
  replace B : Hid (Below w.heap.size w w6) := hide (bel_trans (bel_al B.out _) hb)
  clear hb
  go_wp2_with fail
  have Y := hide (Val.new w6 2 0 (D : Nat))
  replace Q := hide (Q.out.al (bel_new w6 (.cells #[.int .i64 2, .int .i64 0, .int .u64 (D : Nat)] 25)))
  replace V := hide (V.out.al (bel_new w6 (.cells #[.int .i64 2, .int .i64 0, .int .u64 (D : Nat)] 25)))
  replace X := hide (X.out.al (bel_new w6 (.cells #[.int .i64 2, .int .i64 0, .int .u64 (D : Nat)] 25)))
  replace B := hide (bel_al B.out (.cells #[.int .i64 2, .int .i64 0, .int .u64 (D : Nat)] 25))
  clear P
  generalize w6.alloc (.cells #[.int .i64 2, .int .i64 0, .int .u64 (D : Nat)] 25) = w7 at *
  obtain ⟨q0, q1, q2⟩ := Q.out.all.2
  go_region_held3 (fun w' => w'.cell? ⟨w4.heap.size, 0, none⟩ = some (.int .i64 1) ∧ w'.cell? ⟨w4.heap.size, 1, none⟩ = some (.int .i64 n) ∧ w'.cell? ⟨w4.heap.size, 2, none⟩ = some (.int .u64 0)) (first | (exact ⟨by assumption, by assumption, by assumption⟩)) (first | (go_at_call 8; refine (int_any _ _).mono ?_; rintro e w8 ⟨rfl, hb⟩; replace hb : Below w7.heap.size w7 w8 := ⟨hb.os, hb.tape, hb.output, hb.size, hb.block⟩; replace Q := hide (Q.out.al hb); replace V := hide (V.out.al hb); replace X := hide (X.out.al hb); replace Y := hide (Y.out.al hb); replace B := hide (bel_trans B.out hb); obtain ⟨q0', q1', q2'⟩ := Q.out.all.2))
  clear q0 q1 q2 q0' q1' q2' H1 H2 H3 H4
  obtain ⟨v0, v1, v2⟩ := V.out.all.2
  obtain ⟨x0, x1, x2⟩ := X.out.all.2
  obtain ⟨y0, y1, y2⟩ := Y.out.all.2
  rcases HC.out with ⟨h1, rfl⟩ | ⟨h1, rfl, rfl⟩
  all_goals
    rw [h1] at sn se
    clear h1 HC
    go_wp2_with fail
    go_ret
    exact Vb.mk rfl B.out
theorem minus_main (n z : Int) (hn : -9223372036854775808 ≤ n ∧ n ≤ 9223372036854775807) (hz : 0 ≤ z ∧ z ≤ 18446744073709551615) (w : World) : Calls Try.prog 4 #[.int .i64 n, .int .u64 z] w (Vb w (.bool true)) := by
  obtain ⟨u, rfl⟩ : ∃ u : Nat, z = (u : Int) := ⟨z.toNat, by omega⟩
  have hu : u < 18446744073709551616 := by omega
  obtain ⟨ff, fl⟩ := flip_flip hu
  have e1 := un_neg_float u
  cases h : nanB u
  · have o1 : outU (flipU u) = flipU u := by rw [outU, flip_nan hu, h]; rfl
    have o2 : outU (flipU (flipU u)) = u := by rw [ff, outU, h]; rfl
    have e2 := un_neg_float (flipU u)
    rw [o1] at e1
    rw [o2] at e2
    exact minus_walk n u (flipU u) u hn hu fl e1 e2 (.inr ⟨h, rfl, rfl⟩) w
  · have o1 : outU (flipU u) = 9221120237041090561 := by rw [outU, flip_nan hu, h]; rfl
    have e2 := un_neg_float 9221120237041090561
    rw [o1] at e1
    rw [show outU (flipU 9221120237041090561) = 9221120237041090561 by decide +kernel] at e2
    exact minus_walk n u 9221120237041090561 9221120237041090561 hn hu (by decide) e1 e2 (.inl ⟨h, rfl⟩) w
end Go.Proofs.Ytmdfciiejenpnab.Ck
