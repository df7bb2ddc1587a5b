/- TreeLevels: just so many brackets and signs may stand in one another. -/
import Derived.Test.YtogeblmppagabaaGreatDoorLvQ
import Derived.Test.YtogeblmppagabaaGreatDoorOpenQ
namespace Go.Proofs.YtogeblmppagabaaGreatDoor.Ck
open Go.RowKit

theorem lv_snoc (zs : List Int) (j : Nat) (hj : j < zs.length) (k : Nat) (hk : (bits .and .i64 (zs.getD j 0) 3) = (k : Int)) :
    ((zs.take (j + 1)).map (fun z => (bits .and .i64 z 3).toNat)).reverse = k :: ((zs.take j).map (fun z => (bits .and .i64 z 3).toNat)).reverse := by
  rw [List.take_add_one, List.getElem?_eq_getElem hj, List.map_append, List.reverse_append]
  rw [List.getD_eq_getElem?_getD, List.getElem?_eq_getElem hj] at hk
  simp only [Option.getD_some] at hk
  simp [hk]
theorem and3 (z : Int) : bits .and .i64 z 3 = z % 4 := by
  have h3 : (BitVec.ofInt 64 3).toNat = 2 ^ 2 - 1 := by decide
  have key : (BitVec.ofInt 64 z &&& BitVec.ofInt 64 3).toNat = (z % ((2 ^ 64 : Nat) : Int)).toNat % 2 ^ 2 := by
    rw [BitVec.toNat_and, BitVec.toNat_ofInt, h3, Nat.and_two_pow_sub_one_eq_mod]
  show IntKind.i64.wrap ((BitVec.ofInt 64 z &&& BitVec.ofInt 64 3).toNat : Nat) = z % 4
  rw [key, IntKind.wrap_i64]
  omega

set_option maxRecDepth 20000 in
set_option maxHeartbeats 2000000 in
theorem levels_any (v0 : Value) (zs : List Int) (p : List Addr) (w : World) (hv : Sl w v0 zs) (he : Ev w p) :
    Calls Tryz.prog 3 #[v0] w fun e w' => e = .returned (.bool true) ∧ Below w.heap.size w w' := by
  obtain ⟨a0, n0, c0, rfl, hn0⟩ := hv.slice
  have hcc : n0 ≤ c0 ∧ c0 ≤ 9223372036854775807 := by
    obtain ⟨_, a, cap, h1, h2, h3, _⟩ := hv
    cases h1
    unfold maxLen at h3
    omega
  go_enter Tryz.func3, Tryz.ntmps3
  go_wp2_with fail
  refine (alive_any p w he).mono ?_
  rintro e w1 ⟨rfl, hb1⟩
  by_cases hl : 100 < n0
  · have d1 : decide ((100 : Int) < (n0 : Int)) = true := decide_eq_true (by omega)
    go_wp2_with fail
    go_ret
    exact ⟨rfl, hb1⟩
  have d1 : decide ((100 : Int) < (n0 : Int)) = false := decide_eq_false (by omega)
  have V1 := hide (hv.below (Nat.le_refl _) hb1)
  have E1 := hide (he.bel hb1)
  have B1 := hide hb1
  have HN := hide hn0
  clear hv he hb1 hn0
  go_wp2_with fail
  go_loopw [3, 15] (fun vs vi wr => ∃ (j : Nat) (s : ByteArray), j ≤ n0 ∧ vi = .int .i64 j ∧ vs = .string s ∧ Hid (s.data.toList = spell (lvP ((zs.take j).map (fun z => (bits .and .i64 z 3).toNat)).reverse) ∧ wr = w1)) (fun _ vi _ => n0 - (intOf vi).toNat)
  case atStart => exact ⟨0, _, Nat.zero_le _, rfl, rfl, by simp [lvP, spell, Pc.bytes], rfl⟩
  case round =>
    obtain ⟨j, s, hj, rfl, rfl, I⟩ := hrel
    by_cases hjl : j < n0
    · have hj2 : (j : Int) < (n0 : Int) := by omega
      obtain ⟨b, off, rfl, hbl, hc⟩ := V1.out.at j hjl
      have hw := I.out.2
      subst hw
      have hsz : s.size ≤ 501 := by
        have e1 : s.data.toList.length = s.size := rfl
        have h2 := lvP_size (((zs.take j).map (fun z => (bits .and .i64 z 3).toNat)).reverse)
        rw [← I.out.1, e1] at h2
        simp at h2
        omega
      obtain ⟨x, hx⟩ : ∃ x, zs.getD j 0 = x := ⟨_, rfl⟩
      rw [hx] at hc
      have HX := hide hx
      clear hx
      have hq4 : x % 4 = 0 ∨ x % 4 = 1 ∨ x % 4 = 2 ∨ x % 4 = 3 := by omega
      rcases hq4 with hm | hm | hm | hm
      · have hq : bits .and .i64 x 3 = 0 := by rw [and3]; exact hm
        have HS := hide (lv_snoc zs j (by have := HN.out; omega) 0 (by rw [HX.out]; exact hq))
        clear hm
        go_wp2_with fail
        refine ⟨⟨j + 1, _, by omega, by go_num, rfl, ?_, trivial⟩, by simp [intOf]; omega⟩
        rw [HS.out]
        simp [lvP, spell, spell_app, Pc.bytes, I.out.1]
      · have hq : bits .and .i64 x 3 = 1 := by rw [and3]; exact hm
        have HS := hide (lv_snoc zs j (by have := HN.out; omega) 1 (by rw [HX.out]; exact hq))
        clear hm
        go_wp2_with fail
        refine ⟨⟨j + 1, _, by omega, by go_num, rfl, ?_, trivial⟩, by simp [intOf]; omega⟩
        rw [HS.out]
        simp [lvP, spell, Pc.bytes, I.out.1]
      · have hq : bits .and .i64 x 3 = 2 := by rw [and3]; exact hm
        have HS := hide (lv_snoc zs j (by have := HN.out; omega) 2 (by rw [HX.out]; exact hq))
        clear hm
        go_wp2_with fail
        refine ⟨⟨j + 1, _, by omega, by go_num, rfl, ?_, trivial⟩, by simp [intOf]; omega⟩
        rw [HS.out]
        simp [lvP, spell, spell_app, Pc.bytes, I.out.1]
      · have hq : bits .and .i64 x 3 = 3 := by rw [and3]; exact hm
        have HS := hide (lv_snoc zs j (by have := HN.out; omega) 3 (by rw [HX.out]; exact hq))
        clear hm
        go_wp2_with fail
        refine ⟨⟨j + 1, _, by omega, by go_num, rfl, ?_, trivial⟩, by simp [intOf]; omega⟩
        rw [HS.out]
        simp [lvP, spell, spell_app, Pc.bytes, I.out.1]
    · have hj2 : ¬ (j : Int) < (n0 : Int) := by omega
      have hjn : j = n0 := by omega
      have hw := I.out.2
      subst hw
      have hS : s.data.toList = spell (lvP ((zs.map (fun z => (bits .and .i64 z 3).toNat)).reverse)) := by
        have := I.out.1
        rwa [List.take_of_length_le (by have := HN.out; omega)] at this
      have hm := levels_model hS (by rw [List.length_reverse, List.length_map, ← HN.out]; omega)
      rw [List.length_reverse, List.length_map, ← HN.out] at hm
      have XX := hide (expr_ev s p wr E1.out)
      clear I hS
      rcases hm with ⟨hk, n, hx⟩ | ⟨hk, k, i, hx⟩
      · rw [hx] at XX
        have d2 : decide ((n0 : Int) ≤ 16) = true := decide_eq_true (by omega)
        go_wp2_with fail
        refine XX.out.mono ?_
        intro e w2 hp
        obtain ⟨v, rfl, hv, hb2⟩ := hp
        have B2 := hide (fun o1 o2 => bel_trans (bel_trans (bel_trans B1.out hb2) (bel_new w2 o1)) (bel_new _ o2))
        obtain ⟨kd, ps, nm, t, nz, z, ob, bi, ks⟩ := n
        unfold NodeV at hv
        obtain ⟨s', rfl, hk'⟩ := hv
        obtain ⟨a, len, ck, rfl⟩ := hk'.shape
        clear hk' XX hb2
        go_wp2_with fail
        go_ret
        exact ⟨rfl, B2.out _ _⟩
      · rw [hx] at XX
        have d2 : decide ((n0 : Int) ≤ 16) = false := decide_eq_false (by omega)
        go_wp2_with fail
        refine XX.out.mono ?_
        intro e w2 hp
        obtain ⟨rfl, hb2⟩ := hp
        have B2 := hide (fun o1 o2 => bel_trans (bel_trans (bel_trans B1.out hb2) (bel_new w2 o1)) (bel_new _ o2))
        unfold errV at *
        clear XX hb2
        go_wp2_with fail
        go_ret
        exact ⟨rfl, B2.out _ _⟩

end Go.Proofs.YtogeblmppagabaaGreatDoor.Ck
