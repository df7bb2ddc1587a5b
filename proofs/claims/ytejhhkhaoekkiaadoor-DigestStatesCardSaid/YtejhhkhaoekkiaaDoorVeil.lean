/- The contracts of a veiled pad, and of Equal. -/
import Derived.Test.YtejhhkhaoekkiaaDoorKey
namespace Go.Proofs.YtejhhkhaoekkiaaDoor.Ck
open Go.RowKit

def fillV (pad : List Int) (mask : Int) (k : Nat) : List Int := (veil pad mask).take k ++ pad.drop k
theorem fillV_len (pad : List Int) (mask : Int) (k : Nat) (h : k ≤ pad.length) : (fillV pad mask k).length = pad.length := by simp [fillV, veil_len]; omega
theorem fillV_at (pad : List Int) (mask : Int) (k : Nat) (h : k < pad.length) : (bv (fillV pad mask k))[k]? = some (.int .u8 (pad.getD k 0)) := by
  rw [bv_at _ _ (by rw [fillV_len _ _ _ (by omega)]; exact h)]
  unfold fillV
  have hl : ((veil pad mask).take k).length = k := by simp [veil_len]; omega
  simp only [List.getD]
  rw [List.getElem?_append_right (by omega), hl, Nat.sub_self]
  simp
theorem fillV_set (pad : List Int) (mask : Int) (k : Nat) (h : k < pad.length) : (bv (fillV pad mask k)).set k (.int .u8 (bits .xor .u8 (pad.getD k 0) mask)) = bv (fillV pad mask (k + 1)) := by
  have hl : ((veil pad mask).take k).length = k := by simp [veil_len]; omega
  have e : (veil pad mask).take (k + 1) = (veil pad mask).take k ++ [bits .xor .u8 (pad.getD k 0) mask] := by
    rw [List.take_add_one]
    unfold veil
    simp [List.getD, h]
  have e2 : pad.drop k = pad.getD k 0 :: pad.drop (k + 1) := by rw [List.drop_eq_getElem_cons h]; simp [List.getD, h]
  unfold fillV bv
  rw [e, e2, ← List.map_set, List.set_append_right _ _ (by omega), hl, Nat.sub_self]
  simp

set_option maxRecDepth 20000 in
set_option maxHeartbeats 1000000 in
theorem veiled_any (pad : List Int) (mask : Int) (hp : pad.length = 64) (w : World) (htab : Tab w) :
    Calls Tryd.prog 29 #[.agg (bv pad).toArray, .int .u8 mask] w fun e w' => ∃ g', e = .returned (.pointer (some ⟨g', 0, none⟩)) ∧ St w' g' (veil pad mask) ∧ w.heap.size ≤ g' ∧ Below w.heap.size w w' := by
  have HP := hide hp
  clear hp
  have h0 := htab.1
  go_enter Tryd.func29, Tryd.ntmps29
  go_wp2_with (first | (refine wpList_box 55 (.tmp 0) (bv pad) rfl rfl rfl ?_; intro w1 g1 e1 b1 hb1 s1))
  have hg1 : Hid (w.heap.size ≤ g1) := by show _ ≤ _; rw [e1.out]; exact Nat.le_refl _
  go_loopw [6] (fun i wr => ∃ k : Nat, k ≤ 64 ∧ i = .int .i64 k ∧ Blk wr g1 55 (bv (fillV pad mask k)) ∧ Below w.heap.size w wr) (fun i _ => 64 - (intOf i).toNat)
  case atStart => exact ⟨0, Nat.zero_le _, rfl, b1, hb1⟩
  case round =>
    obtain ⟨k, hk, rfl, c1, hb⟩ := hrel
    by_cases hlt : k < 64
    · have q0 := c1.cell k
      rw [fillV_at pad mask k (by rw [HP.out]; exact hlt)] at q0
      have q1 := c1.frozen k
      have T := c1.set k (.int .u8 (bits .xor .u8 (pad.getD k 0) mask))
      rw [fillV_set pad mask k (by rw [HP.out]; exact hlt)] at T
      have T := hide T
      have i0 : (0 : Int) ≤ (k : Int) ∧ (k : Int) < 64 := by omega
      generalize pad.getD k 0 = x at *
      go_wp2_with fail
      go_roundw
      case rel => exact ⟨k + 1, by omega, by go_num, T.out.1, hb.trans (T.out.2.bel hg1.out hb.size)⟩
      case measure => simp [intOf]; omega
    · have e : k = 64 := by omega
      subst e
      have ef : fillV pad mask 64 = veil pad mask := by
        unfold fillV
        rw [List.take_of_length_le (by rw [veil_len, HP.out]; decide), List.drop_of_length_le (by rw [HP.out]; decide), List.append_nil]
      rw [ef] at c1
      have hvl : Hid ((veil pad mask).length = 64) := by show _ = _; rw [veil_len]; exact HP.out
      have HSB : Hid (∀ w', Blk w' g1 55 (bv (veil pad mask)) → SB w' (.slice (some ⟨g1, 0, none⟩) 64 64) (veil pad mask)) := fun w' h => by
        have := SB.of_blk h (by rw [hvl.out]; unfold maxLen; omega) (veil_fit _ _)
        rw [hvl.out] at this
        exact this
      have hsz := hb.size
      have hg1lt := c1.lt
      clear ef
      go_wp2_with fail
      go_region_held3 (fun _ => True) (trivial)
        (first
          | (go_at_call 8; refine (new_any _).mono ?_; rintro e w2 ⟨rfl, hs2, hb2⟩)
          | (go_at_call 10; refine (take_any _ [] (veil pad mask) _ w2 hs2 (HSB.out w2 (c1.drew.bel hb2)) (fun a n c e _ => by cases e; exact Nat.ne_of_lt hg1lt) (htab.bel (bel_trans hb.drew hb2)) (by show wr.heap.size ≠ 0; omega) (by rw [hvl.out]; simp)).mono ?_; rintro e w3 ⟨rfl, hs3, t3⟩))
      all_goals
        go_wp2_with fail
        go_ret
        exact ⟨_, rfl, by rw [List.nil_append] at hs3; exact hs3, hsz, bel_tn (bel_trans hb.drew hb2) t3 hsz⟩

end Go.Proofs.YtejhhkhaoekkiaaDoor.Ck
