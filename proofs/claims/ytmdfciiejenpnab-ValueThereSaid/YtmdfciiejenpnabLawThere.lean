/- The walk of the statement ValueThere: it answers true. (Written by mk_l.py.) -/
import Derived.Test.YtmdfciiejenpnabV9
namespace Go.Proofs.Ytmdfciiejenpnab.Ck
open Go.RowKit

theorem un_float (n : Int) : unF (⟨#[102, 108, 111, 97, 116]⟩ : ByteArray).toList 1 n 0 = (2, 0, ((floatOfInt .f64 n : Nat) : Int), 0) := by
  rw [show (⟨#[102, 108, 111, 97, 116]⟩ : ByteArray).toList = [102, 108, 111, 97, 116] by decide +kernel]
  simp [unF, goodB, ofIntF]
theorem un_int {u : Nat} (h : inB u = true) : unF (⟨#[105, 110, 116]⟩ : ByteArray).toList 2 0 (u : Nat) = (1, wholeN u, 0, 0) := by
  rw [show (⟨#[105, 110, 116]⟩ : ByteArray).toList = [105, 110, 116] by decide +kernel]
  simp [unF, goodB, ofFloatF, wholeR, h]
theorem in_small {u : Nat} (h : u % 9223372036854775808 < 4890909195324358656) : inB u = true := by
  have h1 : nanB u = false := by unfold nanB; apply decide_eq_false; omega
  have h2 : -4890909195324358656 ≤ srB u ∧ srB u < 4890909195324358656 := by
    unfold srB
    split <;> omega
  unfold inB
  rw [h1, decide_eq_true h2.1, decide_eq_true h2.2]
  rfl
theorem there_facts (n : Int) : ∃ u : Nat, u < 18446744073709551616 ∧ floatOfInt .f64 (n.tmod 9007199254740992) = u ∧ unF (⟨#[105, 110, 116]⟩ : ByteArray).toList 2 0 (u : Nat) = (1, n.tmod 9007199254740992, 0, 0) := by
  have hm : (n.tmod 9007199254740992).natAbs < 9007199254740992 := by
    have h1 := Int.natAbs_tmod n 9007199254740992
    rw [h1]
    exact Nat.mod_lt _ (by decide)
  obtain ⟨u, e, h1, h2, h3⟩ := ofInt_read _ hm
  refine ⟨u, h1, e, ?_⟩
  rw [un_int (in_small h2), wholeN, if_pos h2, h3]
set_option maxRecDepth 20000 in
set_option maxHeartbeats 2000000 in
theorem there_main (n : Int) (w : World) : Calls Try.prog 3 #[.int .i64 n] w (Vb w (.bool true)) := by
  obtain ⟨u, hu, eu, e1⟩ := there_facts n
  obtain ⟨m, em⟩ : ∃ m, n.tmod 9007199254740992 = m := ⟨_, rfl⟩
  rw [em] at eu e1
  have H1 : ∀ w, Calls Try.prog 7 #[.string ⟨#[102, 108, 111, 97, 116]⟩, .agg #[.int .i64 1, .int .i64 m, .int .u64 0]] w (Vi4 w (2, 0, ((u : Nat) : Int), 0)) := fun w => by
    have h := unary_any ⟨#[102, 108, 111, 97, 116]⟩ 1 m 0 (by first | decide | omega) w
    rw [show unF (⟨#[102, 108, 111, 97, 116]⟩ : ByteArray).toList 1 m 0 = (2, 0, ((u : Nat) : Int), 0) from (un_float m).trans (by rw [eu])] at h
    exact h
  have H2 : ∀ w, Calls Try.prog 7 #[.string ⟨#[105, 110, 116]⟩, .agg #[.int .i64 2, .int .i64 0, .int .u64 (u : Nat)]] w (Vi4 w (1, m, 0, 0)) := fun w => by
    have h := unary_any ⟨#[105, 110, 116]⟩ 2 0 (u : Nat) (by first | decide | omega) w
    rw [show unF (⟨#[105, 110, 116]⟩ : ByteArray).toList 2 0 (u : Nat) = (1, m, 0, 0) from e1] at h
    exact h
  have EV := eq_vv
  have hn0 := hide em
  clear eu e1 hu
  go_enter Try.func3, Try.ntmps3
  go_wp2_with fail
  refine (alive_any _).mono ?_
  rintro e w1 ⟨rfl, hb⟩
  have B : Hid (Below w.heap.size w w1) := hide (hb)
  clear hb
  go_wp2_with fail
  refine (int_any _ _).mono ?_
  rintro e w2 ⟨rfl, hb⟩
  replace B : Hid (Below w.heap.size w w2) := hide (bel_trans B.out hb)
  clear hb
  go_wp2_with fail
  refine (H1 _).mono ?_
  rintro e w3 ⟨rfl, hb⟩
  replace B : Hid (Below w.heap.size w w3) := hide (bel_trans B.out hb)
  clear hb
  go_wp2_with fail
  refine (H2 _).mono ?_
  rintro e w4 ⟨rfl, hb⟩
  have F := hide ((Val.new w3 2 0 (u : Nat)).al hb)
  replace B : Hid (Below w.heap.size w w4) := hide (bel_trans (bel_al B.out _) hb)
  clear hb
  go_wp2_with fail
  refine (H1 _).mono ?_
  rintro e w5 ⟨rfl, hb⟩
  replace F := hide (F.out.al (bel_trans (bel_new _ _) hb))
  have K := hide ((Val.new w4 1 m 0).al hb)
  replace B : Hid (Below w.heap.size w w5) := hide (bel_trans (bel_al B.out _) hb)
  clear hb
  go_wp2_with fail
  have G := hide (Val.new w5 2 0 (u : Nat))
  replace F := hide (F.out.al (bel_new w5 (.cells #[.int .i64 2, .int .i64 0, .int .u64 (u : Nat)] 25)))
  replace K := hide (K.out.al (bel_new w5 (.cells #[.int .i64 2, .int .i64 0, .int .u64 (u : Nat)] 25)))
  replace B := hide (bel_al B.out (.cells #[.int .i64 2, .int .i64 0, .int .u64 (u : Nat)] 25))
  generalize w5.alloc (.cells #[.int .i64 2, .int .i64 0, .int .u64 (u : Nat)] 25) = w6 at *
  obtain ⟨f0, f1, f2⟩ := F.out.all.2
  obtain ⟨k0, k1, k2⟩ := K.out.all.2
  obtain ⟨g0, g1, g2⟩ := G.out.all.2
  go_region_held3 (fun w' => (w'.cell? ⟨w3.heap.size, 0, none⟩ = some (.int .i64 2) ∧ w'.cell? ⟨w3.heap.size, 1, none⟩ = some (.int .i64 0) ∧ w'.cell? ⟨w3.heap.size, 2, none⟩ = some (.int .u64 (u : Nat))) ∧ (w'.cell? ⟨w4.heap.size, 0, none⟩ = some (.int .i64 1) ∧ w'.cell? ⟨w4.heap.size, 1, none⟩ = some (.int .i64 m) ∧ w'.cell? ⟨w4.heap.size, 2, none⟩ = some (.int .u64 0)) ∧ (w'.cell? ⟨w5.heap.size, 0, none⟩ = some (.int .i64 2) ∧ w'.cell? ⟨w5.heap.size, 1, none⟩ = some (.int .i64 0) ∧ w'.cell? ⟨w5.heap.size, 2, none⟩ = some (.int .u64 (u : Nat)))) (first | (exact ⟨⟨by assumption, by assumption, by assumption⟩, ⟨by assumption, by assumption, by assumption⟩, ⟨by assumption, by assumption, by assumption⟩⟩)) (first | (go_at_call 8; refine (int_any _ _).mono ?_; rintro e w7 ⟨rfl, hb⟩; replace hb : Below w6.heap.size w6 w7 := ⟨hb.os, hb.tape, hb.output, hb.size, hb.block⟩; replace F := hide (F.out.al hb); replace K := hide (K.out.al hb); replace G := hide (G.out.al hb); replace B := hide (bel_trans B.out hb); obtain ⟨f0', f1', f2'⟩ := F.out.all.2; obtain ⟨k0', k1', k2'⟩ := K.out.all.2; obtain ⟨g0', g1', g2'⟩ := G.out.all.2))
  go_wp2_with fail
  go_ret
  exact Vb.mk rfl B.out
end Go.Proofs.Ytmdfciiejenpnab.Ck
