/- The contracts of a stream's small functions: a number's row, a row's number, the last fair number. -/
import Derived.Test.YtflokfbdogofmaaDoorWd
import Derived.Laws.Cover3
namespace Go.Proofs.YtflokfbdogofmaaDoor.Ck
open Go.RowKit

theorem info8 : (Tryd.prog.info? 79).map (·.size) = some 8 := by kernel_rfl
theorem zero8 (w : World) : (Instr.alloc 79 true (.tuple #[])).run Tryd.prog w = .ok (.pointer (some ⟨w.heap.size, 0, none⟩)) (w.alloc (.cells (List.replicate 8 (.int .u8 0)).toArray 79)) := by kernel_rfl

set_option maxRecDepth 20000 in
set_option maxHeartbeats 1000000 in
theorem drow_any (n : Nat) (w : World) :
    Calls Tryd.prog 45 #[.int .u64 n] w fun e w' => e = .returned (.agg (bv (row8 n)).toArray) ∧ Below w.heap.size w w' := by
  go_enter Tryd.func45, Tryd.ntmps45
  go_wp2_with (first | (refine wpList_new 79 _ zero8 2 rfl rfl rfl ?_; intro w2 g2 e2 b2 hb2 s2) | (refine wpList_new 79 _ zero8 3 rfl rfl rfl ?_; intro w3 g3 e3 b3 hb3 s3))
  have hne : Hid (g2 ≠ g3 ∧ w.heap.size ≤ g3 ∧ w.heap.size ≤ g2) := by
    have := e2.out; have := e3.out; have := s2.out
    refine ⟨?_, ?_, ?_⟩ <;> omega
  have hb := bel_trans hb2 hb3
  have b2 := b2.bel hb3
  have b3 : Blk w3 g3 79 (fill8 n 0) := b3
  clear hb2 hb3 e2 e3 s2 s3
  go_loopw [5] (fun i wr => ∃ k : Nat, k ≤ 8 ∧ i = .int .i64 k ∧ Blk wr g2 79 (List.replicate 8 (.int .u8 0)) ∧ Blk wr g3 79 (fill8 n k) ∧ Below w.heap.size w wr) (fun i _ => 8 - (intOf i).toNat)
  case atStart => exact ⟨0, Nat.zero_le _, rfl, b2, b3, hb⟩
  case round =>
    obtain ⟨k, hk, rfl, c2, c3, hb⟩ := hrel
    by_cases hlt : k < 8
    · have q5 := c3.frozen k
      have i0 : (0 : Int) ≤ (k : Int) ∧ (k : Int) < 8 := by omega
      have q6 : ∃ v, wr.cell? ⟨g3, k, none⟩ = some v := by
        have := fill8_len n k (by omega)
        exact ⟨_, (c3.cell k).trans (List.getElem?_eq_getElem (by omega))⟩
      obtain ⟨v6, q6⟩ := q6
      have T := c3.set k (.int .u8 ((n : Int) / 2 ^ (56 - 8 * k) % 256))
      rw [fill8_set n k hlt] at T
      have T := hide T
      go_wp2_with fail
      go_roundw
      case rel => exact ⟨k + 1, by omega, by go_num, c2.tn T.out.2 hne.out.1, T.out.1, hb.trans (T.out.2.bel hne.out.2.1 hb.size)⟩
      case measure => simp [intOf]; omega
    · have e : k = 8 := by omega
      subst e
      have e8 : fill8 n 8 = bv (row8 n) := by simp [fill8, ← row8_len n]
      rw [e8] at c3
      have hsz : Hid ((Tryd.prog.info? 79).map (·.size) = some (bv (row8 n)).length) := by show _ = _; rw [bv_len, row8_len]; exact info8
      have hl0 : Hid ((List.replicate 8 (Value.int .u8 0)).length = (bv (row8 n)).length) := by show _ = _; rw [bv_len, row8_len]; rfl
      go_wp2_with (first | (refine wpList_load_mid rfl 79 (.tmp 3) rfl g3 0 rfl (bv (row8 n)) _ (c3.range 0 _ (fun j _ => by rw [Nat.zero_add])) Tryd.underlying79 rfl hsz.out ?_) | (refine wpList_lay 79 (.tmp 2) (.tmp 17) g2 79 _ (bv (row8 n)) c2 hl0.out hsz.out (bv_one _) rfl rfl rfl rfl ?_; intro w9 d2 t2 s2))
      refine ret_row g2 79 (bv (row8 n)) rfl rfl d2 Tryd.underlying79 rfl hsz.out rfl ⟨rfl, hb.trans (t2.bel hne.out.2.2 hb.size)⟩

set_option maxRecDepth 20000 in
set_option maxHeartbeats 1000000 in
theorem number_any (b : List Int) (hl : b.length = 8) (hf : Fit8 b) (w : World) :
    Calls Tryd.prog 36 #[.agg (bv b).toArray] w fun e w' => e = .returned (.int .u64 (num8 b)) ∧ Below w.heap.size w w' := by
  have HL := hide hl
  have hsz : Hid ((Tryd.prog.info? 79).map (·.size) = some (bv b).length) := by show _ = _; rw [bv_len, hl]; exact info8
  clear hl
  go_enter Tryd.func36, Tryd.ntmps36
  go_wp2_with (first | (refine wpList_box 79 (.tmp 0) (bv b) rfl rfl rfl ?_; intro w1 g1 e1 b1 hb1 s1) | (refine wpList_load_mid rfl 79 (.tmp 1) rfl g1 0 rfl (bv b) _ (b1.range 0 _ (fun j _ => by rw [Nat.zero_add])) Tryd.underlying79 rfl hsz.out ?_))
  go_loop [7, 3] (fun i u => ∃ k : Nat, k ≤ 8 ∧ i = .int .i64 k ∧ u = .int .u64 (numK b k)) (fun i _ => 8 - (intOf i).toNat)
  case atStart => exact ⟨0, Nat.zero_le _, rfl, rfl⟩
  case round =>
    obtain ⟨k, hk, rfl, rfl⟩ := hrel
    by_cases hlt : k < 8
    · have i0 : (0 : Int) ≤ (k : Int) ∧ (k : Int) < 8 := by omega
      have hx := fit8_at hf k
      have hN := numK_fit b k
      have EN : Hid (numK b (k + 1) = (256 * numK b k + b.getD k 0) % 18446744073709551616) := rfl
      have EO := or_low (numK b k) (b.getD k 0) hx
      have hix : ∀ w, (Instr.index 79 (.agg (bv b).toArray) (.int .i64 k)).run Tryd.prog w = .ok (.int .u8 (b.getD k 0)) w := fun w => by
        have := bv_at b k (by rw [HL.out]; exact hlt)
        simp [Instr.index, run_underlying Tryd.underlying79, asIntOf, i0.1, go_sem, this]
        omega
      generalize numK b k = u at *
      generalize b.getD k 0 = x at *
      go_wp2_with fail
      refine ⟨⟨k + 1, by omega, by go_num, ?_⟩, by simp [intOf]; omega⟩
      rw [EN.out, ← EO, show IntKind.u64.wrap (u * 256) = 256 * u % 18446744073709551616 by rw [IntKind.wrap_u64, Int.mul_comm]]
    · have e : k = 8 := by omega
      subst e
      go_wp2_with fail
      go_ret
      exact ⟨rfl, hb1⟩

set_option maxHeartbeats 400000 in
theorem lastFair_any (n : Int) (h : 1 ≤ n ∧ n < 18446744073709551616) (w : World) :
    Calls Tryd.prog 37 #[.int .u64 n] w fun e w' => e = .returned (.int .u64 (lastF n)) ∧ w = w' := by
  go_enter Tryd.func37, Tryd.ntmps37
  go_wp2_with fail
  go_ret
  refine ⟨ret_int ?_, rfl⟩
  unfold lastF
  have e : IntKind.u64.wrap (-n) = 18446744073709551616 - n := by rw [IntKind.wrap_u64]; omega
  have h1 := Int.emod_nonneg (18446744073709551616 - n) (show n ≠ 0 by omega)
  have h2 := Int.emod_lt_of_pos (18446744073709551616 - n) (show 0 < n by omega)
  rw [e, Int.tmod_eq_emod_of_nonneg (by omega), IntKind.wrap_u64]
  omega

end Go.Proofs.YtflokfbdogofmaaDoor.Ck
