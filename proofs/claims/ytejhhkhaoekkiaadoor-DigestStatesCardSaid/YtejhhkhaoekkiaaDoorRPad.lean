/- The contract of the document's padded: a message and what stands behind it. -/
import Derived.Test.YtejhhkhaoekkiaaDoorRowEq
namespace Go.Proofs.YtejhhkhaoekkiaaDoor.Ck
open Go.RowKit

def tailL (n j : Nat) : List Int := List.replicate (8 - j) 0 ++ (len8 n).drop (8 - j)
theorem tailL_len (n j : Nat) (hj : j ≤ 8) : (tailL n j).length = 8 := by rw [tailL, List.length_append, List.length_replicate, List.length_drop, len8_len]; omega
theorem tailL_set (n j : Nat) (hj : j < 8) : (tailL n j).set (7 - j) (((8 * n / 2 ^ (8 * j) % 256 : Nat)) : Int) = tailL n (j + 1) := by
  have e := len8_at n (7 - j) (by omega)
  rw [show 56 - 8 * (7 - j) = 8 * j by omega] at e
  have hd : (len8 n).drop (8 - (j + 1)) = (((8 * n / 2 ^ (8 * j) % 256 : Nat)) : Int) :: (len8 n).drop (8 - j) := by
    rw [show 8 - (j + 1) = 7 - j by omega, List.drop_eq_getElem_cons (by rw [len8_len]; omega), show 7 - j + 1 = 8 - j by omega]
    congr 1
    rw [List.getElem?_eq_getElem (by rw [len8_len]; omega)] at e
    exact Option.some.inj e
  unfold tailL
  rw [hd, show 8 - j = (7 - j) + 1 by omega, List.replicate_succ', List.append_assoc, List.set_append_right _ _ (by simp), show 8 - (j + 1) = 7 - j by omega]
  simp

set_option maxRecDepth 20000 in
set_option maxHeartbeats 1000000 in
theorem rpad_any (v : Value) (m : List Int) (w : World) (hv : SB w v m) (hl : m.length ≤ 100000) :
    Calls Tryd.prog 26 #[v] w fun e w' => ∃ g cap, e = .returned (.slice (some ⟨g, 0, none⟩) (m ++ endL m.length).length cap) ∧ OwnB w' w.heap.size g cap (m ++ endL m.length) ∧ Below w.heap.size w w' := by
  obtain ⟨aa, ca, rfl, hca, hcm⟩ := hv.form
  unfold maxLen at hcm
  have hfit := hv.fits
  obtain ⟨n, en⟩ : ∃ n, n = m.length := ⟨_, rfl⟩
  have En := hide en
  rw [← en] at hv hca hl ⊢
  have hn6 : Hid (n ≤ 1000000) := by show _ ≤ _; omega
  have hn7 : Hid (n + 1 ≤ 2000000) := by show _ ≤ _; omega
  have hf128 : Hid (Fit8 [(128 : Int)]) := fun z hz => by simp at hz; subst hz; decide
  clear en
  go_enter Tryd.func26, Tryd.ntmps26
  go_wp2_with (first | (at_builtin; refine wpList_appG (.tmp 7) (.tmp 8) _ _ _ (fun ty => app_copyB ty En.out hv hn6.out) rfl rfl rfl rfl ?_; rintro v5 w5 ⟨⟨g5, c5, rfl, o5⟩, hb5⟩) | (at_builtin; refine wpList_appG (.tmp 9) (.tmp 10) _ _ _ (fun ty => pushB ty o5 En.out hf128.out hn7.out hb5.size) rfl rfl rfl rfl ?_; rintro v6 w6 ⟨⟨g6, c6, rfl, o6⟩, t6⟩))
  have hb6 : Below w.heap.size w w6 := bel_tn hb5 t6 o5.ge
  obtain ⟨z, ez⟩ : ∃ z, z = padZ n := ⟨_, rfl⟩
  have hz : z < 64 := by rw [ez]; exact Nat.mod_lt _ (by decide)
  have hzm : (n + 1 + z) % 64 = 56 := by rw [ez]; unfold padZ; omega
  have hzk : ∀ k, k < z → (n + 1 + k) % 64 ≠ 56 := fun k hk => by rw [ez] at hk; unfold padZ at hk; omega
  have Ez := hide ez
  clear o5 hb5 t6 ez
  go_loopw [3] (fun s wr => ∃ (k g cp : Nat), k ≤ z ∧ s = .slice (some ⟨g, 0, none⟩) (n + 1 + k) cp ∧ OwnB wr w.heap.size g cp ((m ++ [128]) ++ List.replicate k 0) ∧ Below w.heap.size w wr) (fun s _ => 2000000 - lenOf s)
  case atStart => exact ⟨0, g6, c6, Nat.zero_le _, rfl, by simpa using o6, hb6⟩
  case round =>
    obtain ⟨k, g, cp, hk, rfl, oo, hbr⟩ := hrel
    have hlen : Hid (n + 1 + k = ((m ++ [128]) ++ List.replicate k 0).length) := by show _ = _; rw [List.length_append, List.length_append, List.length_replicate, ← En.out]; rfl
    obtain ⟨L, eL⟩ : ∃ L, L = n + 1 + k := ⟨_, rfl⟩
    have hLm : L ≤ 1000000 := by omega
    rw [← eL] at hlen ⊢
    by_cases hkz : k < z
    · have hne := hzk k hkz
      rw [← eL] at hne
      obtain ⟨r, er⟩ : ∃ r, r = L % 64 := ⟨_, rfl⟩
      have hr : (L : Int) % 64 = (r : Int) := by omega
      have hr56 : ((r : Int) != 56) = true := by rw [bne_iff_ne]; omega
      have hf0 : Hid (Fit8 [(0 : Int)]) := fun z hz => by simp at hz; subst hz; decide
      have hl2 : Hid (L + 1 ≤ 2000000) := by show _ ≤ _; omega
      have hzr := hbr.size
      have EL := hide eL
      clear er hne eL
      go_wp2_with (first | (at_builtin; refine wpList_appG (.tmp 16) (.tmp 17) _ _ _ (fun ty => pushB ty oo hlen.out hf0.out hl2.out hzr) rfl rfl rfl rfl ?_; rintro v7 w7 ⟨⟨g7, c7, rfl, o7⟩, t7⟩))
      go_roundw
      case rel => exact ⟨k + 1, g7, c7, by omega, by rw [show L + 1 = n + 1 + (k + 1) by have := EL.out; omega], by rw [List.replicate_succ', ← List.append_assoc]; exact o7, bel_tn hbr t7 oo.ge⟩
      case measure => simp [lenOf]; omega
    · have ek : k = z := by omega
      subst ek
      have hr : (L : Int) % 64 = 56 := by omega
      have EL := hide eL
      have h8n : Hid (8 * n / 2 ^ (8 * 0) = 8 * n) := by show _ = _; simp
      obtain ⟨N, eN⟩ : ∃ N, N = 8 * n := ⟨_, rfl⟩
      have hN : (8 : Int) * (n : Int) = (N : Int) := by omega
      have EN := hide eN
      clear eN eL hzk
      go_wp2_with (first | (refine wpList_makeB (.const (.int .i64 8)) (.const (.int .i64 8)) 8 8 8 8 rfl rfl (Nat.le_refl _) (by decide) rfl rfl rfl rfl ?_; intro w8 gT e8 o8 hb8))
      have hgT : Hid (g ≠ gT ∧ w.heap.size ≤ gT) := ⟨by rw [e8.out]; exact Nat.ne_of_lt oo.lt, by rw [e8.out]; exact hbr.size⟩
      have oo8 := oo.below hb8
      have hbw8 := bel_trans hbr hb8
      have o8 : OwnB w8 w.heap.size gT 8 (tailL n 0) := o8.down hbr.size
      clear hb8 oo
      go_loopw [4, 6] (fun c i wx => ∃ j : Nat, j ≤ 8 ∧ i = .int .i64 (7 - (j : Int)) ∧ c = .int .u64 ((8 * n / 2 ^ (8 * j) : Nat) : Int) ∧ OwnB wx w.heap.size gT 8 (tailL n j) ∧ OwnB wx w.heap.size g cp ((m ++ [128]) ++ List.replicate k 0) ∧ Below w.heap.size w wx) (fun _ i _ => (intOf i + 1).toNat)
      case atStart => exact ⟨0, Nat.zero_le _, rfl, by rw [h8n.out, ← EN.out], o8, oo8, hbw8⟩
      case round =>
        obtain ⟨j, hj, rfl, rfl, oT, oM, hbx⟩ := hrel
        by_cases hj8 : j < 8
        · obtain ⟨i, ei⟩ : ∃ i, i = 7 - j := ⟨_, rfl⟩
          have hi : (7 : Int) - (j : Int) = (i : Int) := by omega
          have hi8 : (0 : Int) ≤ (i : Int) ∧ (i : Int) < 8 := by omega
          have q0 := oT.cell i (by rw [tailL_len _ _ hj]; omega)
          have q1 := oT.frozen i
          have T := oT.set i (((8 * n / 2 ^ (8 * j) % 256 : Nat)) : Int)
          rw [ei, tailL_set n j hj8, ← ei] at T
          rw [Int.natCast_emod] at T
          have HT := hide T
          have EX : Hid (8 * n / 2 ^ (8 * (j + 1)) = 8 * n / 2 ^ (8 * j) / 256) := by show _ = _; rw [Nat.div_div_eq_div_mul, Nat.mul_succ, Nat.pow_add]
          have hX : 8 * n / 2 ^ (8 * j) ≤ 1000000 := Nat.le_trans (Nat.div_le_self _ _) (by omega)
          generalize 8 * n / 2 ^ (8 * j) = X at *
          rw [hi]
          clear T ei
          go_wp2_with fail
          go_roundw
          case rel =>
            exact ⟨j + 1, by omega, congrArg (Value.int .i64) (by omega), by rw [EX.out, Int.natCast_ediv]; rfl, HT.out.1, oM.tn HT.out.2 hgT.out.1, hbx.trans (HT.out.2.bel hgT.out.2 hbx.size)⟩
          case measure => simp [intOf] <;> omega
        · have ej : j = 8 := by omega
          subst ej
          have e8l : tailL n 8 = len8 n := by simp [tailL]
          rw [e8l] at oT
          have hsT : SB wr (.slice (some ⟨gT, 0, none⟩) 8 8) (len8 n) := oT.sl (len8_fit n)
          have HR := hide (fun ty => app_tnB ty oM hsT (by rw [← hlen.out, len8_len]; omega) hbx.size)
          rw [← hlen.out, len8_len] at HR
          go_wp2_with (first | (at_builtin; refine wpList_appG (.tmp 35) (.tmp 36) _ _ _ HR.out rfl rfl rfl rfl ?_; rintro v9 w9 ⟨⟨g9, c9, rfl, o9⟩, t9⟩))
          go_ret
          have eL : ((m ++ [128]) ++ List.replicate k 0) ++ len8 n = m ++ endL n := by rw [Ez.out]; simp [endL]
          rw [eL] at o9
          have el : (m ++ endL n).length = L + 8 := by rw [← eL, List.length_append, ← hlen.out, len8_len]
          refine ⟨g9, c9, by rw [el]; rfl, o9, bel_tn hbx t9 oM.ge⟩

end Go.Proofs.YtejhhkhaoekkiaaDoor.Ck
