/- TokenInts: every int in digits is one token of that int; with a nought ahead, or a letter behind, none. -/
import Derived.Test.YtpeebpnoldadjaaDoorTz
namespace Go.Proofs.YtpeebpnoldadjaaDoor.Ck
open Go.RowKit

theorem conv_one (w : World) (c : Int) : (convert 53 9 (.slice (some ⟨w.heap.size, 0, none⟩) 1 1)).run Tryd.prog (w.alloc (.cells #[.int .u8 c] 5)) = .ok (.string ⟨#[UInt8.ofNat c.toNat]⟩) (w.alloc (.cells #[.int .u8 c] 5)) := by
  rw [run_convert_bytes_string _ 53 9 5 _ _ _ Tryd.underlying53 Tryd.underlying5 Tryd.underlying9]
  have hk : (w.alloc (.cells #[.int .u8 c] 5)).heap[w.heap.size]? = some (.cells #[.int .u8 c] 5 (0, 0)) := Go.Deep.blk_alloc_new _ _
  have hl := run_loadCells_list (P := Tryd.prog) (w.alloc (.cells #[.int .u8 c] 5)) ⟨w.heap.size, 0, none⟩ [.int .u8 c] (fun j u hu => by
    have e2 : (Addr.mk w.heap.size 0 none).add j = ⟨w.heap.size, j, none⟩ := by unfold Addr.add; by_cases h : j = 0 <;> simp [h]
    rw [e2]
    exact blk_cell hk j u (by rw [← hu]; simp))
  exact run_bytesToString _ _ 1 1 [c] hl

theorem app_list (a b : ByteArray) : (a ++ b).data.toList = a.data.toList ++ b.data.toList := by rw [ByteArray.data_append, Array.toList_append]
theorem dec_gt (n : Nat) : ∀ acc : List UInt8, acc.length < (decT n acc).length := by
  induction n using Nat.strongRecOn with
  | ind n ih =>
    intro acc
    by_cases h : 9 < n
    · rw [dec_big n acc h]
      have := ih (n / 10) (by omega) (dig (n % 10) :: acc)
      simp at this
      omega
    · rw [dec_small n acc h]
      simp
theorem dec_short (n m : Nat) (s : ByteArray) (hn : n ≤ 9223372036854775807) (h : decT n [] = decT m s.data.toList) : s.size ≤ 20 := by
  have h1 := dec_len 19 n [] (by have : 10 ^ (19 + 1) = 100000000000000000000 := by decide
                                 omega)
  have h2 := dec_gt m s.data.toList
  have e : s.data.toList.length = s.size := rfl
  rw [h] at h1
  simp at h1
  omega

set_option maxHeartbeats 1000000 in
theorem decimal_any (n : Nat) (x : Int) (w : World) (hx : Hid (x = n)) (x0 : 0 ≤ x) (x1 : x ≤ 9223372036854775807) :
    Calls Tryd.prog 17 #[.int .i64 x] w fun e w' => (∃ s, e = .returned (.string s) ∧ Dec s n) ∧ Below w.heap.size w w' := by
  have hcv := conv_one
  go_enter Tryd.func17, Tryd.ntmps17
  go_wp2_with fail
  go_loopw [0, 3] (fun vn vs wr => ∃ (a : Int) (s : ByteArray), 0 ≤ a ∧ a ≤ 9223372036854775807 ∧ vn = .int .i64 a ∧ vs = .string s ∧ Hid (∃ m : Nat, a = m ∧ decT n [] = decT m s.data.toList ∧ Below w.heap.size w wr)) (fun vn _ _ => (intOf vn).toNat)
  case atStart => exact ⟨x, _, x0, x1, rfl, rfl, n, hx.out, rfl, Below.refl _ _⟩
  case round =>
    obtain ⟨a, s, a0, a1, rfl, rfl, I⟩ := hrel
    have hsz : s.size ≤ 20 := by
      obtain ⟨m, _, hd, _⟩ := I.out
      exact dec_short n m s (by have := hx.out; omega) hd
    by_cases h9 : 9 < a
    · go_wp2_with fail
      obtain ⟨m, rfl, hd, hb⟩ := I.out
      refine ⟨⟨(m : Int) / 10, _, by omega, by omega, rfl, rfl, m / 10, by omega, ?_, bel_al hb _⟩, by simp [intOf]; omega⟩
      rw [hd, dec_big m _ (by omega), app_list]
      unfold dig
      rw [show (48 + (m : Int) % 10).toNat = 48 + m % 10 by omega]
      rfl
    · go_wp2_with fail
      go_ret
      obtain ⟨m, rfl, hd, hb⟩ := I.out
      refine ⟨⟨_, rfl, ?_⟩, bel_al hb _⟩
      unfold Dec
      rw [hd, dec_small m _ (by omega), app_list]
      unfold dig
      rw [show (48 + (m : Int)).toNat = 48 + m by omega]
      rfl

theorem mask63 (n : Int) : bits .and .i64 n 9223372036854775807 = n % 9223372036854775808 := by
  have h63 : (BitVec.ofInt 64 9223372036854775807).toNat = 2 ^ 63 - 1 := by decide
  have key : (BitVec.ofInt 64 n &&& BitVec.ofInt 64 9223372036854775807).toNat = (n % ((2 ^ 64 : Nat) : Int)).toNat % 2 ^ 63 := by
    rw [BitVec.toNat_and, BitVec.toNat_ofInt, h63, Nat.and_two_pow_sub_one_eq_mod]
  show IntKind.i64.wrap ((BitVec.ofInt 64 n &&& BitVec.ofInt 64 9223372036854775807).toNat : Nat) = n % 9223372036854775808
  rw [key, IntKind.wrap_i64]
  omega

set_option maxHeartbeats 2000000 in
theorem ints_any (x : Int) (p : List Addr) (w : World) (he : Ev w p) :
    Calls Tryd.prog 6 #[.int .i64 x] w fun e w' => e = .returned (.bool true) ∧ Below w.heap.size w w' := by
  have hy0 : 0 ≤ bits .and .i64 x 9223372036854775807 := by rw [mask63]; omega
  have hy1 : bits .and .i64 x 9223372036854775807 ≤ 9223372036854775807 := by rw [mask63]; omega
  generalize hy : bits .and .i64 x 9223372036854775807 = y at *
  obtain ⟨n, hn⟩ : ∃ n : Nat, y = n := ⟨y.toNat, by omega⟩
  have hn2 : n ≤ 9223372036854775807 := by omega
  have HY := hide hn
  clear hn
  go_enter Tryd.func6, Tryd.ntmps6
  go_wp2_with fail
  refine (alive_any p w he).mono ?_
  rintro e w1 ⟨rfl, hb1⟩
  have e1 := he.bel hb1
  go_wp2_with fail
  refine (decimal_any n y w1 HY.out hy0 hy1).mono ?_
  rintro e w2 ⟨⟨s, rfl, hd⟩, hb2⟩
  have e2 := e1.bel hb2
  have B2 := bel_trans hb1 hb2
  have hz := hd.size hn2
  have rd1 := hd.read hn2
  have rd2 := hd.nought hn2 (t := ⟨#[48]⟩ ++ s) (by rw [app_list]; rfl)
  have rd3 := hd.behind hn2 (t := s ++ ⟨#[120]⟩) (by rw [app_list])
  have sz2 : ((⟨#[48]⟩ : ByteArray) ++ s).size = s.size + 1 := by rw [ByteArray.size_append]; show 1 + s.size = _; omega
  have sz3 : (s ++ (⟨#[120]⟩ : ByteArray)).size = s.size + 1 := by rw [ByteArray.size_append]; rfl
  clear hb1 hb2 e1
  go_wp2_with fail
  refine (tokens_any s p w2 e2.er e2.big (by omega)).mono ?_
  intro e w3 hp
  rw [rd1] at hp
  obtain ⟨v, rfl, ho, hb3⟩ := hp
  obtain ⟨g, cap, rfl, hg, _, hc1, hc2, hc⟩ := ho.at (by simp)
  have e3 := e2.bel hb3
  simp only [List.length_cons, List.length_nil, Nat.zero_add] at hc1
  unfold maxLen at hc2
  have a0 := hc 0 _ rfl
  have a1 := hc 1 _ rfl
  have a2 := hc 2 _ rfl
  have a3 := hc 3 _ rfl
  have a4 := hc 4 _ rfl
  simp only [List.length_cons, List.length_nil, Nat.zero_add]
  rw [← HY.out] at a2
  have A : Hid (∀ w', Below w3.heap.size w3 w' → w'.cell? ⟨g, 0, none⟩ = some (.int .i64 3) ∧ w'.cell? ⟨g, 1, none⟩ = some (.string s) ∧ w'.cell? ⟨g, 2, none⟩ = some (.int .i64 y) ∧ w'.cell? ⟨g, 3, none⟩ = some (.int .u64 0) ∧ w'.cell? ⟨g, 4, none⟩ = some (.int .i64 0)) := fun w' hb =>
    ⟨(hb.cell (p := ⟨g, 0, none⟩) hg).trans a0, (hb.cell (p := ⟨g, 1, none⟩) hg).trans a1, (hb.cell (p := ⟨g, 2, none⟩) hg).trans a2, (hb.cell (p := ⟨g, 3, none⟩) hg).trans a3, (hb.cell (p := ⟨g, 4, none⟩) hg).trans a4⟩
  clear hc ho a0 a1 a2 a3 a4 e2
  go_wp2_with fail
  have hb4 := bel_new w3 (.cells #[.nilIface, .int .i64 0] 27)
  have k4 : (w3.alloc (.cells #[.nilIface, .int .i64 0] 27)).heap[w3.heap.size]? = some (.cells #[.nilIface, .int .i64 0] 27 (0, 0)) := Go.Deep.blk_alloc_new _ _
  have e4 := e3.bel hb4
  have B4 := bel_trans (bel_trans B2 hb3) hb4
  clear B2 hb3 e3
  generalize w3.alloc (.cells #[.nilIface, .int .i64 0] 27) = w4 at *
  refine (tokens_any _ p w4 e4.er e4.big (by omega)).mono ?_
  intro e w5 hp
  rw [rd2] at hp
  obtain ⟨rfl, hb5⟩ := hp
  have e5 := e4.bel hb5
  go_wp2_with fail
  have hb6 := bel_new w5 (.cells #[errV p 1, .int .i64 1] 27)
  have k6 : (w5.alloc (.cells #[errV p 1, .int .i64 1] 27)).heap[w5.heap.size]? = some (.cells #[errV p 1, .int .i64 1] 27 (0, 0)) := Go.Deep.blk_alloc_new _ _
  have B56 := bel_trans hb5 hb6
  have e6 := e5.bel hb6
  have k46 := (B56.block _ (lt_of_blk k4)).trans k4
  have B6 := bel_trans B4 B56
  have B36 := bel_trans hb4 B56
  clear e4 e5 hb5 hb6 B4 k4 hb4 B56
  generalize w5.alloc (.cells #[errV p 1, .int .i64 1] 27) = w6 at *
  generalize w5.heap.size = n5 at *
  refine (tokens_any _ p w6 e6.er e6.big (by omega)).mono ?_
  intro e w7 hp
  rw [rd3] at hp
  obtain ⟨rfl, hb7⟩ := hp
  have hb8 := bel_new w7 (.cells #[errV p 1, .int .i64 s.size] 27)
  have k8 : (w7.alloc (.cells #[errV p 1, .int .i64 s.size] 27)).heap[w7.heap.size]? = some (.cells #[errV p 1, .int .i64 s.size] 27 (0, 0)) := Go.Deep.blk_alloc_new _ _
  have B78 := bel_trans hb7 hb8
  have e8 := e6.bel B78
  have k4' := (B78.block _ (lt_of_blk k46)).trans k46
  have k6' := (B78.block _ (lt_of_blk k6)).trans k6
  obtain ⟨a0, a1, a2, a3, a4⟩ := A.out _ (bel_trans B36 B78)
  have B8 := hide (bel_trans B6 B78)
  have E8 := hide e8.errs
  have c40 := blk_cell k4' 0 _ rfl
  have c60 := blk_cell k6' 0 _ rfl
  have c61 := blk_cell k6' 1 _ rfl
  have c80 := blk_cell k8 0 _ rfl
  have c81 := blk_cell k8 1 _ rfl
  have H6 : Hid (∀ w', Below (w7.alloc (.cells #[errV p 1, .int .i64 s.size] 27)).heap.size (w7.alloc (.cells #[errV p 1, .int .i64 s.size] 27)) w' → w'.cell? ⟨n5, 1, none⟩ = some (.int .i64 1) ∧ w'.cell? ⟨w7.heap.size, 0, none⟩ = some (errV p 1) ∧ w'.cell? ⟨w7.heap.size, 1, none⟩ = some (.int .i64 s.size)) := fun w' hb => ⟨(hb.cell (p := ⟨n5, 1, none⟩) (lt_of_blk k6')).trans c61, (hb.cell (p := ⟨w7.heap.size, 0, none⟩) (lt_of_blk k8)).trans c80, (hb.cell (p := ⟨w7.heap.size, 1, none⟩) (lt_of_blk k8)).trans c81⟩
  clear k4' k6' k8 hb7 hb8 B78 e8 e6 B36 B6 k46 k6 A rd1 rd2 rd3 c61 c81
  go_wp2_with (first | (go_at_call 11; refine (num_err p 1 _ E9.out (by omega)).mono ?_; rintro e w10 ⟨rfl, hb10⟩; have c10 := (hb10.cell (p := ⟨w7.heap.size, 1, none⟩) HL9.out).trans c92) | (go_at_call 11; refine (num_err p 1 _ E8.out (by omega)).mono ?_; rintro e w9 ⟨rfl, hb9⟩; obtain ⟨c90, c91, c92⟩ := H6.out _ hb9; have E9 := hide (E8.out.below (Nat.le_refl _) hb9); have HL9 := hide (World.block_lt_of_cell? w9 _ c92)))
  go_ret
  exact ⟨rfl, bel_trans (bel_trans B8.out hb9) hb10⟩

end Go.Proofs.YtpeebpnoldadjaaDoor.Ck
