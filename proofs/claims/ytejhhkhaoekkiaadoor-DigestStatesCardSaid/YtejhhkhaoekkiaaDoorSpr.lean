/- The contract of digest's spread: a block's words of the turns. -/
import Derived.Test.YtejhhkhaoekkiaaDoorRot
import Derived.Deep.RegionHeld3
import Derived.Deep.DrawnRows
namespace Go.Proofs.YtejhhkhaoekkiaaDoor.Ck
open Go.RowKit

def bv (B : List Int) : List Value := B.map (Value.int .u8)
def wv (L : List Int) : List Value := L.map (Value.int .u32)
def Fit8 (B : List Int) : Prop := ∀ z ∈ B, 0 ≤ z ∧ z < 256
theorem bv_len (B : List Int) : (bv B).length = B.length := by simp [bv]
theorem wv_len (B : List Int) : (wv B).length = B.length := by simp [wv]
theorem bv_one (B : List Int) : ∀ v ∈ bv B, v.oneCell' = true := fun u hu => by obtain ⟨z, _, rfl⟩ := List.mem_map.1 hu; rfl
theorem wv_one (B : List Int) : ∀ v ∈ wv B, v.oneCell' = true := fun u hu => by obtain ⟨z, _, rfl⟩ := List.mem_map.1 hu; rfl
theorem bv_at (B : List Int) (i : Nat) (h : i < B.length) : (bv B)[i]? = some (.int .u8 (B.getD i 0)) := by simp [bv, List.getD, h]
theorem wv_at (B : List Int) (i : Nat) (h : i < B.length) : (wv B)[i]? = some (.int .u32 (B.getD i 0)) := by simp [wv, List.getD, h]
theorem fit8_at {B : List Int} (h : Fit8 B) (i : Nat) : 0 ≤ B.getD i 0 ∧ B.getD i 0 < 256 := by
  by_cases hi : i < B.length
  · have : B.getD i 0 = B[i] := by simp [List.getD, hi]
    rw [this]; exact h _ (List.getElem_mem hi)
  · have : B.getD i 0 = 0 := by simp [List.getD, hi]
    rw [this]; decide

def fillW (B : List Int) (k : Nat) : List Value := wv (schedL B k) ++ List.replicate (64 - k) (.int .u32 0)
theorem fillW_len (B : List Int) (k : Nat) (h : k ≤ 64) : (fillW B k).length = 64 := by simp [fillW, wv_len, schedL_len]; omega
theorem fillW_at (B : List Int) (k i : Nat) (h : i < k) : (fillW B k)[i]? = some (.int .u32 (wS B i)) := by
  unfold fillW
  have hl := schedL_len B k
  rw [List.getElem?_append_left (by rw [wv_len]; omega), wv_at _ _ (by omega), schedL_at B i k h]
theorem schedL_snoc (B : List Int) (k : Nat) : schedL B (k + 1) = schedL B k ++ [wS B k] := by
  have hl := schedL_len B k
  have : wS B k = (schedL B (k + 1)).getD k 0 := rfl
  rw [this]
  simp only [schedL, List.getD]
  rw [List.getElem?_append_right (by omega), hl, Nat.sub_self]
  rfl
theorem fillW_set (B : List Int) (k : Nat) (h : k < 64) : (fillW B k).set k (.int .u32 (wS B k)) = fillW B (k + 1) := by
  have hl := schedL_len B k
  unfold fillW
  rw [List.set_append_right _ _ (by rw [wv_len]; omega), wv_len, hl, Nat.sub_self, schedL_snoc, show 64 - k = (64 - (k + 1)) + 1 by omega, List.replicate_succ]
  simp [wv]

set_option maxRecDepth 20000 in
set_option maxHeartbeats 1000000 in
theorem spread_any (B : List Int) (hB : B.length = 64) (hf : Fit8 B) (w : World) :
    Calls Tryd.prog 31 #[.agg (bv B).toArray] w fun e w' => e = .returned (.agg (wv (schedL B 64)).toArray) ∧ Below w.heap.size w w' := by
  have HB := hide hB
  clear hB
  go_enter Tryd.func31, Tryd.ntmps31
  go_wp2_with (first | (refine wpList_box 55 _ (bv B) rfl rfl rfl ?_; intro w1 g1 e1 b1 hb1 s1) | (refine wpList_new 67 _ zero69 2 rfl rfl rfl ?_; intro w2 g2 e2 b2 hb2 s2) | (refine wpList_new 67 _ zero69 3 rfl rfl rfl ?_; intro w3 g3 e3 b3 hb3 s3))
  have n12 : Hid (g1 ≠ g3 ∧ g2 ≠ g3 ∧ w.heap.size ≤ g3 ∧ w.heap.size ≤ g2) := by
    have := e1.out; have := e2.out; have := e3.out; have := s1.out; have := s2.out
    refine ⟨?_, ?_, ?_, ?_⟩ <;> omega
  have ne13 : g1 ≠ g3 := n12.out.1
  have ne31 : g3 ≠ g1 := fun h => n12.out.1 h.symm
  have hb13 : Below w.heap.size w w3 := bel_trans (bel_trans hb1 hb2) hb3
  have b13 := (b1.bel hb2).bel hb3
  have b23 := b2.bel hb3
  have b33 : Blk w3 g3 67 (fillW B 0) := b3
  clear hb1 hb2 hb3 b1 b2 b3 e1 e2 e3 s1 s2 s3 w1 w2
  go_loopw [8] (fun i wr => ∃ k : Nat, k ≤ 16 ∧ i = .int .i64 k ∧ Blk wr g1 55 (bv B) ∧ Blk wr g2 67 (List.replicate 64 (.int .u32 0)) ∧ Blk wr g3 67 (fillW B k) ∧ Below w.heap.size w wr) (fun i _ => 16 - (intOf i).toNat)
  case atStart => exact ⟨0, Nat.zero_le _, rfl, b13, b23, b33, hb13⟩
  case round =>
    obtain ⟨k, hk, rfl, c1, c2, c3, hb⟩ := hrel
    by_cases hlt : k < 16
    · have q0 := c1.cell (4 * k); have q1 := c1.cell (4 * k + 1); have q2 := c1.cell (4 * k + 2); have q3 := c1.cell (4 * k + 3)
      rw [bv_at B _ (by have := HB.out; omega)] at q0 q1 q2 q3
      have q5 := c3.frozen k
      have q6 : ∃ v, wr.cell? ⟨g3, k, none⟩ = some v := by
        have := fillW_len B k (by omega)
        exact ⟨_, (c3.cell k).trans (List.getElem?_eq_getElem (by omega))⟩
      obtain ⟨v6, q6⟩ := q6
      have W0 := fit8_at hf (4 * k); have W1 := fit8_at hf (4 * k + 1); have W2 := fit8_at hf (4 * k + 2); have W3 := fit8_at hf (4 * k + 3)
      have E : Hid (wS B k = wd (B.getD (4 * k) 0) (B.getD (4 * k + 1) 0) (B.getD (4 * k + 2) 0) (B.getD (4 * k + 3) 0)) := wS_lo B k hlt
      generalize B.getD (4 * k) 0 = x0 at *
      generalize B.getD (4 * k + 1) 0 = x1 at *
      generalize B.getD (4 * k + 2) 0 = x2 at *
      generalize B.getD (4 * k + 3) 0 = x3 at *
      have i0 : (0 : Int) ≤ (k : Int) := by omega
      have i1 : (k : Int) < 64 := by omega
      obtain ⟨m, em⟩ : ∃ m, m = 4 * k := ⟨_, rfl⟩
      obtain ⟨m1, em1⟩ : ∃ m1, m1 = 4 * k + 1 := ⟨_, rfl⟩
      obtain ⟨m2, em2⟩ : ∃ m2, m2 = 4 * k + 2 := ⟨_, rfl⟩
      obtain ⟨m3, em3⟩ : ∃ m3, m3 = 4 * k + 3 := ⟨_, rfl⟩
      rw [← em] at q0
      rw [← em1] at q1
      rw [← em2] at q2
      rw [← em3] at q3
      have j0 : IntKind.i64.wrap (4 * (k : Int)) = (m : Int) := by rw [IntKind.wrap_i64]; omega
      have j1 : IntKind.i64.wrap ((m : Int) + 1) = (m1 : Int) := by rw [IntKind.wrap_i64]; omega
      have j2 : IntKind.i64.wrap ((m : Int) + 2) = (m2 : Int) := by rw [IntKind.wrap_i64]; omega
      have j3 : IntKind.i64.wrap ((m : Int) + 3) = (m3 : Int) := by rw [IntKind.wrap_i64]; omega
      have k0 : (0 : Int) ≤ (m : Int) ∧ (m : Int) < 64 := by omega
      have k1 : (0 : Int) ≤ (m1 : Int) ∧ (m1 : Int) < 64 := by omega
      have k2 : (0 : Int) ≤ (m2 : Int) ∧ (m2 : Int) < 64 := by omega
      have k3 : (0 : Int) ≤ (m3 : Int) ∧ (m3 : Int) < 64 := by omega
      clear em em1 em2 em3
      go_wp2_with fail
      go_region_held3 (fun w' => w'.cell? ⟨g1, m, none⟩ = some (.int .u8 x0) ∧ w'.cell? ⟨g1, m1, none⟩ = some (.int .u8 x1) ∧ w'.cell? ⟨g1, m2, none⟩ = some (.int .u8 x2) ∧ w'.cell? ⟨g1, m3, none⟩ = some (.int .u8 x3)) (go_keep)
        (first | (go_at_call 35; refine (word_any x0 x1 x2 x3 _ W0 W1 W2 W3).mono ?_; rintro e w' ⟨rfl, rfl⟩))
      go_wp2_with fail
      go_roundw
      case rel =>
        have T := c3.set k (.int .u32 (wd x0 x1 x2 x3))
        refine ⟨k + 1, by omega, by go_num, (c1.tn T.2 ne13).drew, (c2.tn T.2 n12.out.2.1).drew, ?_, (hb.trans (T.2.bel n12.out.2.2.1 hb.size)).drew⟩
        have t1 := T.1
        have := fillW_set B k (by omega)
        rw [E.out] at this
        rw [this] at t1
        exact t1.drew
      case measure => simp [intOf]; omega
    · have e : k = 16 := by omega
      subst e
      clear b13 b23 b33 hb13 w3 hlt hk
      obtain ⟨w3, ew⟩ : ∃ w3, w3 = wr := ⟨_, rfl⟩
      rw [← ew] at c1 c2 c3 hb ⊢
      clear ew
      go_wp2_with fail
      go_loopw [5] (fun i wr => ∃ k : Nat, 16 ≤ k ∧ k ≤ 64 ∧ i = .int .i64 k ∧ Blk wr g2 67 (List.replicate 64 (.int .u32 0)) ∧ Blk wr g3 67 (fillW B k) ∧ Below w.heap.size w wr) (fun i _ => 64 - (intOf i).toNat)
      case atStart => exact ⟨16, Nat.le_refl _, by omega, rfl, c2, c3, hb⟩
      case round =>
        obtain ⟨k, hk0, hk, rfl, c2, c3, hb⟩ := hrel
        by_cases hlt : k < 64
        · have q0 := c3.cell (k - 16); have q1 := c3.cell (k - 7); have q2 := c3.cell (k - 15); have q3 := c3.cell (k - 2)
          rw [fillW_at B k _ (by omega)] at q0 q1 q2 q3
          have q5 := c3.frozen k
          have q6 : ∃ v, wr.cell? ⟨g3, k, none⟩ = some v := by
            have := fillW_len B k (by omega)
            exact ⟨_, (c3.cell k).trans (List.getElem?_eq_getElem (by omega))⟩
          obtain ⟨v6, q6⟩ := q6
          have E : Hid (wS B k = nextW (wS B (k - 16)) (wS B (k - 7)) (wS B (k - 15)) (wS B (k - 2))) := wS_hi B k hk0
          generalize wS B (k - 16) = x0 at *
          generalize wS B (k - 7) = x1 at *
          generalize wS B (k - 15) = x2 at *
          generalize wS B (k - 2) = x3 at *
          have i0 : (0 : Int) ≤ (k : Int) ∧ (k : Int) < 64 := by omega
          obtain ⟨m, em⟩ : ∃ m, m = k - 16 := ⟨_, rfl⟩
          obtain ⟨m1, em1⟩ : ∃ m1, m1 = k - 7 := ⟨_, rfl⟩
          obtain ⟨m2, em2⟩ : ∃ m2, m2 = k - 15 := ⟨_, rfl⟩
          obtain ⟨m3, em3⟩ : ∃ m3, m3 = k - 2 := ⟨_, rfl⟩
          rw [← em] at q0
          rw [← em1] at q1
          rw [← em2] at q2
          rw [← em3] at q3
          have j0 : IntKind.i64.wrap ((k : Int) - 16) = (m : Int) := by rw [IntKind.wrap_i64]; omega
          have j1 : IntKind.i64.wrap ((k : Int) - 7) = (m1 : Int) := by rw [IntKind.wrap_i64]; omega
          have j2 : IntKind.i64.wrap ((k : Int) - 15) = (m2 : Int) := by rw [IntKind.wrap_i64]; omega
          have j3 : IntKind.i64.wrap ((k : Int) - 2) = (m3 : Int) := by rw [IntKind.wrap_i64]; omega
          have k0 : (0 : Int) ≤ (m : Int) ∧ (m : Int) < 64 := by omega
          have k1 : (0 : Int) ≤ (m1 : Int) ∧ (m1 : Int) < 64 := by omega
          have k2 : (0 : Int) ≤ (m2 : Int) ∧ (m2 : Int) < 64 := by omega
          have k3 : (0 : Int) ≤ (m3 : Int) ∧ (m3 : Int) < 64 := by omega
          clear em em1 em2 em3
          go_wp2_with fail
          go_quiet (fail)
          go_wp2_with fail
          have q0 : (wr.drewN nq).cell? ⟨g3, m, none⟩ = some (.int .u32 x0) := q0
          have q1 : (wr.drewN nq).cell? ⟨g3, m1, none⟩ = some (.int .u32 x1) := q1
          have q5 : (wr.drewN nq).frozen? ⟨g3, k, none⟩ = false := q5
          have q6 : (wr.drewN nq).cell? ⟨g3, k, none⟩ = some v6 := q6
          have c2 := c2.drewN nq
          have c3 := c3.drewN nq
          have hb := below_drewN hb nq
          generalize wr.drewN nq = wq at *
          refine wp_quiet_tail 29 mixed (by kernel_rfl) ?_
          simp only [List.take_succ_cons, List.take_zero, List.drop_succ_cons, List.drop_zero]
          repeat (first | go_big_quiet_skip | (go_big_quiet_want; go_big_quiet_op; first | go_big_quiet_on | (refine ⟨_, right_any _ _ _ (by decide), ?_⟩; go_big_quiet_on)))
          refine wpQuiet_nil ?_
          go_wp2_with fail
          go_roundw
          case rel =>
            have T := c3.set k (.int .u32 (wS B k))
            rw [fillW_set B k (by omega)] at T
            have e2 : wS B k = nextW x0 x1 x2 x3 := E.out
            rw [e2] at T
            exact ⟨k + 1, by omega, by omega, by go_num, (c2.tn T.2 n12.out.2.1).drew, T.1.drew, (hb.trans (T.2.bel n12.out.2.2.1 hb.size)).drew⟩
          case measure => simp [intOf]; omega
        · have e : k = 64 := by omega
          subst e
          have e64 : fillW B 64 = wv (schedL B 64) := by simp [fillW]
          rw [e64] at c3
          go_wp2_with (first | (refine wpList_load_mid rfl 67 _ rfl g3 0 rfl (wv (schedL B 64)) _ (c3.range 0 _ (fun j _ => by rw [Nat.zero_add])) Tryd.underlying67 rfl (by rw [wv_len, schedL_len]; exact info69) ?_) | (refine wpList_lay 67 _ _ g2 67 _ (wv (schedL B 64)) c2 (by rw [wv_len, schedL_len, List.length_replicate]) (by rw [wv_len, schedL_len]; exact info69) (wv_one _) rfl rfl rfl rfl ?_; intro w9 d2 t2 s2))
          refine ret_row g2 67 (wv (schedL B 64)) rfl rfl d2 Tryd.underlying67 rfl (by rw [wv_len, schedL_len]; exact info69) rfl ⟨rfl, hb.trans (t2.bel n12.out.2.2.2 hb.size)⟩

end Go.Proofs.YtejhhkhaoekkiaaDoor.Ck
