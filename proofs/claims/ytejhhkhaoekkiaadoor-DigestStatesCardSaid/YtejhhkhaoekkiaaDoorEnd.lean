/- The contracts of a state's end and Sum, and of Of. -/
import Derived.Test.YtejhhkhaoekkiaaDoorRow
namespace Go.Proofs.YtejhhkhaoekkiaaDoor.Ck
open Go.RowKit

theorem len8_len (n : Nat) : (len8 n).length = 8 := rfl
theorem len8_at (n k : Nat) (hk : k < 8) : (len8 n)[k]? = some ((((8 * n / 2 ^ (56 - 8 * k) % 256 : Nat)) : Int)) := by
  have : k = 0 ∨ k = 1 ∨ k = 2 ∨ k = 3 ∨ k = 4 ∨ k = 5 ∨ k = 6 ∨ k = 7 := by omega
  rcases this with h | h | h | h | h | h | h | h <;> subst h <;> rfl
theorem len8_fit (n : Nat) : Fit8 (len8 n) := fun z hz => by
  obtain ⟨s, _, rfl⟩ := List.mem_map.1 hz
  omega
theorem endL_len (n : Nat) : (endL n).length = 9 + padZ n := by simp [endL, len8_len]; omega
theorem endL_fit (n : Nat) : Fit8 (endL n) := fit8_app (fun z hz => by
  rcases List.mem_cons.1 hz with h | h
  · rw [h]; decide
  · rw [List.eq_of_mem_replicate h]; decide) (len8_fit n)

set_option maxRecDepth 20000 in
set_option maxHeartbeats 400000 in
theorem end_any (g : Nat) (m : List Int) (w : World) (hs : St w g m) (hl : m.length ≤ 1000000000) :
    Calls Tryd.prog 24 #[.pointer (some ⟨g, 0, none⟩)] w fun e w' => ∃ g' cap, e = .returned (.slice (some ⟨g', 0, none⟩) (9 + padZ m.length) cap) ∧ OwnB w' w.heap.size g' cap (endL m.length) ∧ Below w.heap.size w w' := by
  obtain ⟨Bf, hT, hB⟩ := hs
  have q0 := hB.cell 72
  rw [stc_taken _ _ _ (hashB_len _ _) hT.1] at q0
  have hlt := hB.lt
  obtain ⟨n, en⟩ : ∃ n, n = m.length := ⟨_, rfl⟩
  rw [← en] at q0 hl ⊢
  clear hB hT en
  obtain ⟨r, er⟩ : ∃ r, r = n % 64 := ⟨_, rfl⟩
  obtain ⟨z, ez⟩ : ∃ z, z = padZ n := ⟨_, rfl⟩
  have hr : (n : Int) % 64 = (r : Int) := by omega
  have hr64 : r < 64 := by omega
  have Ez := hide ez
  have hz : z = (119 - r) % 64 := by rw [ez, er]; rfl
  have ed : endL n = (128 :: List.replicate z 0) ++ len8 n := by rw [ez]; rfl
  have Ed := hide ed
  rw [← ez]
  clear ez er ed
  have hz64 : z < 64 := by omega
  have hcase : (∃ y : Int, 55 - (r : Int) = y ∧ y < 0 ∧ y + 64 = (z : Int)) ∨ (55 - (r : Int) = (z : Int)) := by
    by_cases h : r ≤ 55
    · right; omega
    · left; exact ⟨_, rfl, by omega, by omega⟩
  clear hz
  have hx1 : Hid ((1 : Int) + (z : Int) = ((1 + z : Nat) : Int)) := by show _ = _; omega
  have hx2 : Hid ((1 : Int) + (z : Int) + 8 = ((9 + z : Nat) : Int)) := by show _ = _; omega
  have hx3 : Hid (1 + z ≤ 9 + z ∧ 9 + z ≤ 1000000) := ⟨by omega, by omega⟩
  have hzd : decide ((z : Int) < 0) = false := by simp
  go_enter Tryd.func24, Tryd.ntmps24
  rcases hcase with ⟨y, hy, hy0, hyz⟩ | hyz
  all_goals
    go_wp2_with (first | (refine wpList_makeB (.tmp 21) (.tmp 24) _ _ (1 + z) (9 + z) hx1.out hx2.out hx3.out.1 hx3.out.2 rfl rfl rfl rfl ?_; intro w1 g1 e1 o1 hb1; have q1 := o1.cell 0 (by simp; omega); have q2 := o1.frozen 0; have q3 := (hb1.cell (p := ⟨g, 72, none⟩) hlt).trans q0; have ne1 : g ≠ g1 := (fun h => by rw [e1.out] at h; omega); have ne2 : g1 ≠ g := fun h => ne1 h.symm))
    have T := o1.set 0 128
    have e0 : (List.replicate (1 + z) (0 : Int)).set 0 128 = (128 :: List.replicate z 0) ++ (len8 n).take 0 := by rw [Nat.add_comm, List.replicate_succ]; simp
    rw [e0] at T
    have o2 := T.1
    have hb2 : Below w.heap.size w _ := bel_tn hb1 T.2 (by rw [e1.out]; exact Nat.le_refl _)
    have hg1 : Hid (w.heap.size ≤ g1) := by show _ ≤ _; rw [e1.out]; exact Nat.le_refl _
    clear T e0 q1 q2 q3 ne1 ne2 o1 hb1
    generalize w1.setCell ⟨g1, 0, none⟩ (.int .u8 128) = w2 at *
    go_loopw [5, 7] (fun e s wr => ∃ k : Nat, k ≤ 8 ∧ s = .int .i64 (56 - 8 * (k : Int)) ∧ e = .slice (some ⟨g1, 0, none⟩) (1 + z + k) (9 + z) ∧ OwnB wr w.heap.size g1 (9 + z) ((128 :: List.replicate z 0) ++ (len8 n).take k) ∧ Below w.heap.size w wr) (fun _ s _ => (intOf s + 8).toNat)
    case atStart => exact ⟨0, Nat.zero_le _, rfl, rfl, o2, hb2⟩
    case round =>
      obtain ⟨k, hk, rfl, rfl, oo, hb⟩ := hrel
      by_cases hk8 : k < 8
      · obtain ⟨sh, hsh⟩ : ∃ sh : Nat, sh = 56 - 8 * k := ⟨_, rfl⟩
        have hs1 : (56 : Int) - 8 * (k : Int) = (sh : Int) := by omega
        have hs2 : sh ≤ 56 := by omega
        have hlen : Hid (1 + z + k = ((128 :: List.replicate z 0) ++ (len8 n).take k).length) := by show _ = _; simp [len8_len]; omega
        have ev : Hid ((len8 n).take (k + 1) = (len8 n).take k ++ [(n : Int) * 8 / 2 ^ sh % 256]) := by
          show _ = _
          rw [List.take_add_one, len8_at n k hk8, ← hsh]
          simp only [Option.toList_some]
          congr 2
          rw [Int.natCast_emod, Int.natCast_ediv, Int.natCast_pow, Int.natCast_mul, Int.mul_comm]
          rfl
        have fx : Hid (Fit8 [(n : Int) * 8 / 2 ^ sh % 256]) := fun x hx => by simp at hx; subst hx; omega
        have hroom : Hid (1 + z + k + 1 ≤ 9 + z) := by show _ ≤ _; omega
        rw [hs1]
        clear hsh
        go_wp2_with (first | (at_builtin; refine wpList_appB (.tmp 37) (.tmp 42) _ _ _ (fun ty => push_fitsB ty oo hlen.out fx.out hroom.out) rfl rfl rfl rfl ?_; rintro v5 w5 ⟨rfl, o5, t5⟩))
        go_roundw
        case rel =>
          refine ⟨k + 1, by omega, ?_, rfl, ?_, hb.trans (t5.bel hg1.out hb.size)⟩
          · exact congrArg (Value.int .i64) (by omega)
          · rw [ev.out, ← List.append_assoc]; exact o5
        case measure => simp [intOf]; omega
      · have e : k = 8 := by omega
        subst e
        go_wp2_with fail
        go_ret
        have e8 : (len8 n).take 8 = len8 n := rfl
        rw [e8, ← Ed.out] at oo
        exact ⟨g1, 9 + z, by rw [show 1 + z + 8 = 9 + z by omega]; rfl, oo, hb⟩

theorem SB.len_le {w : World} {v : Value} {zs : List Int} (h : SB w v zs) : zs.length ≤ maxLen := by obtain ⟨_, _, _, h1, h2⟩ := h.form; omega

set_option maxRecDepth 20000 in
set_option maxHeartbeats 1000000 in
theorem sum_any (g : Nat) (m : List Int) (w : World) (hs : St w g m) (hl : m.length ≤ 900000000) (htab : Tab w) :
    Calls Tryd.prog 13 #[.pointer (some ⟨g, 0, none⟩)] w fun e w' => e = .returned (.agg (bv (sha m)).toArray) ∧ Below w.heap.size w w' := by
  have HL := hide hl
  have hlt := hs.lt
  clear hl
  go_enter Tryd.func13, Tryd.ntmps13
  go_wp2_with (first | (refine wpList_new 37 _ zero37 2 rfl rfl rfl ?_; intro w1 g1 e1 b1 hb1 s1))
  refine (copy_any g m w1 (hs.bel hb1)).mono ?_
  rintro e w2 ⟨g2, rfl, hs2, hg2, hb2⟩
  go_wp2_with fail
  refine (end_any g m w2 ((hs.bel hb1).bel hb2) (by have := HL.out; omega)).mono ?_
  rintro e w3 ⟨g3, c3, rfl, o3, hb3⟩
  go_wp2_with fail
  have hle : Hid (9 + padZ m.length = (endL m.length).length) := (endL_len _).symm
  have hsb : SB w3 (.slice (some ⟨g3, 0, none⟩) (9 + padZ m.length) c3) (endL m.length) := by rw [hle.out]; exact o3.sl (endL_fit _)
  have hg20 : g2 ≠ 0 := by have := hb1.size; have := htab.1; omega
  have hne23 : g3 ≠ g2 := by have := o3.ge; have := hs2.lt; omega
  have hb13 := bel_trans (bel_trans hb1 hb2) hb3
  have hpz : padZ m.length < 64 := Nat.mod_lt _ (by decide)
  refine (take_any g2 m (endL m.length) _ w3 (hs2.bel hb3) hsb (fun a n c e _ => by cases e; exact hne23) (htab.bel hb13) hg20 (by have := HL.out; rw [endL_len]; omega)).mono ?_
  rintro e w4 ⟨rfl, hs4, t4⟩
  have hw4 : Below w.heap.size w w4 := bel_tn hb13 t4 (by have := hb1.size; omega)
  obtain ⟨Bf, _, hB4⟩ := hs4
  have hdv : Hid ((m ++ endL m.length).length / 64 = (m.length + 72) / 64) := by
    show _ = _
    rw [List.length_append, endL_len]
    unfold padZ
    omega
  rw [hdv.out] at hB4
  go_wp2_with fail
  refine (row_any g2 57 (hashB (m ++ endL m.length) ((m.length + 72) / 64)) _ (hashB_len _ _) w4 hB4).mono ?_
  rintro e w5 ⟨rfl, hb5⟩
  have b1 := (((b1.bel hb2).bel hb3).tn t4 (by have := e1.out; have := s1.out; omega)).bel hb5
  have hsz : Hid ((Tryd.prog.info? 37).map (·.size) = some (bv (sha m)).length) := by show _ = _; rw [bv_len, sha_len]; exact info37
  have hl0 : Hid ((List.replicate 32 (Value.int .u8 0)).length = (bv (sha m)).length) := by show _ = _; rw [bv_len, sha_len]; rfl
  have hsh : rowB (hashB (m ++ endL m.length) ((m.length + 72) / 64)) = sha m := rfl
  rw [hsh]
  go_wp2_with (first | (refine wpList_lay 37 (.tmp 2) (.tmp 10) g1 37 _ (bv (sha m)) b1 hl0.out hsz.out (bv_one _) rfl rfl rfl rfl ?_; intro w9 d2 t2 s2))
  refine ret_row g1 37 (bv (sha m)) rfl rfl d2 Tryd.underlying37 rfl hsz.out rfl ⟨rfl, (bel_trans hw4 hb5).trans (t2.bel (by rw [e1.out]; exact Nat.le_refl _) (bel_trans hw4 hb5).size)⟩

set_option maxRecDepth 20000 in
set_option maxHeartbeats 1000000 in
theorem of_any (m : List Int) (v : Value) (w : World) (hv : SB w v m) (hl : m.length ≤ 900000000) (htab : Tab w) :
    Calls Tryd.prog 20 #[v] w fun e w' => e = .returned (.agg (bv (sha m)).toArray) ∧ Below w.heap.size w w' := by
  have HL := hide hl
  clear hl
  have h0 := htab.1
  go_enter Tryd.func20, Tryd.ntmps20
  go_wp2_with (first | (refine wpList_new 37 _ zero37 2 rfl rfl rfl ?_; intro w1 g1 e1 b1 hb1 s1))
  refine (new_any w1).mono ?_
  rintro e w2 ⟨rfl, hs2, hb2⟩
  have hb12 := bel_trans hb1 hb2
  go_wp2_with fail
  have hz := hb1.size
  have hg20 : w1.heap.size ≠ 0 := by omega
  have hoff : Hid (OffB w1.heap.size v) := hv.off hz
  refine (take_any w1.heap.size [] m v w2 hs2 (hv.bel hb12) hoff.out (htab.bel hb12) hg20 (by have := HL.out; simp; omega)).mono ?_
  rintro e w3 ⟨rfl, hs3, t3⟩
  rw [List.nil_append] at hs3
  have hb3 : Below w.heap.size w w3 := bel_tn hb12 t3 hz
  go_wp2_with fail
  refine (sum_any w1.heap.size m w3 hs3 HL.out (htab.bel hb3)).mono ?_
  rintro e w5 ⟨rfl, hb5⟩
  have b1 := ((b1.bel hb2).tn t3 (by have := e1.out; have := s1.out; omega)).bel hb5
  have hsz : Hid ((Tryd.prog.info? 37).map (·.size) = some (bv (sha m)).length) := by show _ = _; rw [bv_len, sha_len]; exact info37
  have hl0 : Hid ((List.replicate 32 (Value.int .u8 0)).length = (bv (sha m)).length) := by show _ = _; rw [bv_len, sha_len]; rfl
  go_wp2_with (first | (refine wpList_lay 37 (.tmp 2) (.tmp 6) g1 37 _ (bv (sha m)) b1 hl0.out hsz.out (bv_one _) rfl rfl rfl rfl ?_; intro w9 d2 t2 s2))
  refine ret_row g1 37 (bv (sha m)) rfl rfl d2 Tryd.underlying37 rfl hsz.out rfl ⟨rfl, (bel_trans hb3 hb5).trans (t2.bel (by rw [e1.out]; exact Nat.le_refl _) (bel_trans hb3 hb5).size)⟩

end Go.Proofs.YtejhhkhaoekkiaaDoor.Ck
