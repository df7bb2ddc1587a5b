/- TokenFloats: every float64's bits, as 16 digits, are one token of these. -/
import Derived.Test.YtpeebpnoldadjaaDoorFz
import Derived.Test.YtpeebpnoldadjaaDoorLawInts
import Derived.Laws.Externs
import Derived.Laws.MathBits
namespace Go.Proofs.YtpeebpnoldadjaaDoor.Ck
open Go.RowKit

theorem slice_tab (r : Int) (h0 : 0 ≤ r) (h1 : r ≤ 15) (w : World) : (Instr.slice 9 (.string ⟨#[48, 49, 50, 51, 52, 53, 54, 55, 56, 57, 97, 98, 99, 100, 101, 102]⟩) (some (.int .u64 r)) (some (.int .u64 (r + 1))) none).run Tryd.prog w = .ok (.string ⟨#[hd r.toNat]⟩) w := by
  have : r = 0 ∨ r = 1 ∨ r = 2 ∨ r = 3 ∨ r = 4 ∨ r = 5 ∨ r = 6 ∨ r = 7 ∨ r = 8 ∨ r = 9 ∨ r = 10 ∨ r = 11 ∨ r = 12 ∨ r = 13 ∨ r = 14 ∨ r = 15 := by omega
  rcases this with h | h | h | h | h | h | h | h | h | h | h | h | h | h | h | h <;> subst h <;> clear h0 h1 <;> exact (show _ = _ by kernel_rfl)

set_option maxHeartbeats 2000000 in
theorem floats_any (x : Int) (p : List Addr) (w : World) (he : Ev w p) (hx : 0 ≤ x ∧ x ≤ 18446744073709551615) :
    Calls Tryd.prog 7 #[.int .u64 x] w fun e w' => e = .returned (.bool true) ∧ Below w.heap.size w w' := by
  obtain ⟨hx0, hx1⟩ := hx
  obtain ⟨u, hu⟩ : ∃ u : Nat, x = u := ⟨x.toNat, by omega⟩
  have HU := hide hu
  have hu2 : u < 18446744073709551616 := by omega
  clear hu
  go_enter Tryd.func7, Tryd.ntmps7
  go_wp2_with fail
  refine (alive_any p w he).mono ?_
  rintro e w1 ⟨rfl, hb1⟩
  have e1 := hide (he.bel hb1)
  go_wp2_with fail
  go_loopw [3, 4] (fun vs vi wr => ∃ (k : Nat) (z : Int) (s : ByteArray), k ≤ 16 ∧ vi = .int .i64 z ∧ vs = .string s ∧ s.size ≤ 20 ∧ -4 ≤ z ∧ z ≤ 60 ∧ Hid (z = 60 - 4 * k ∧ s.data.toList = 35 :: hxs u k ∧ ∃ n, wr = w1.drewN n)) (fun _ vi _ => (intOf vi + 4).toNat)
  case atStart => exact ⟨0, 60, _, by omega, rfl, rfl, by decide, by omega, by omega, rfl, rfl, 0, rfl⟩
  case round =>
    obtain ⟨k, z, s, hk, rfl, rfl, hsz, hz0, hz1, I⟩ := hrel
    by_cases hk2 : k < 16
    · have h1 : (0 : Int) ≤ z := by have := I.out.1; omega
      have h2 : z ≤ 64 := by omega
      obtain ⟨r, hr⟩ : ∃ r, bits .and .u64 (x / 2 ^ z.toNat) 15 = r := ⟨_, rfl⟩
      have HR : Hid (r = ((u / 16 ^ (15 - k) % 16 : Nat) : Int)) := by
        show _ = _
        rw [← hr, HU.out]
        have hz : z.toNat = 4 * (15 - k) := by have := I.out.1; omega
        have e0 : (2 : Int) ^ (4 * (15 - k)) = ((16 ^ (15 - k) : Nat) : Int) := by rw [show (16 : Nat) = 2 ^ 4 from rfl, ← Nat.pow_mul, Int.natCast_pow]; rfl
        rw [hz, e0, ← Int.natCast_ediv]
        have hlt : u / 16 ^ (15 - k) < 18446744073709551616 := Nat.lt_of_le_of_lt (Nat.div_le_self _ _) hu2
        generalize u / 16 ^ (15 - k) = q at *
        rw [u64_and _ 15 (by omega) (by omega) (by omega) (by omega)]
        have e : (q : Int).toNat &&& 15 = q % 16 := Nat.and_two_pow_sub_one_eq_mod _ 4
        rw [show (15 : Int).toNat = 15 by rfl, e]
      have hr0 : 0 ≤ r := by have := HR.out; omega
      have hr1 : r ≤ 15 := by have := HR.out; omega
      have hw : IntKind.u64.wrap (r + 1) = r + 1 := by rw [IntKind.wrap_u64]; omega
      have hsl := fun w => slice_tab r hr0 hr1 w
      go_wp2_with fail
      go_quiet (fail)
      go_wp2_with fail
      refine ⟨⟨k + 1, z - 4, _, by omega, rfl, rfl, ?_, by omega, by omega, ?_⟩, by simp [intOf]; omega⟩
      · rw [ByteArray.size_append]
        have e : s.data.toList.length = s.size := rfl
        rw [I.out.2.1] at e
        simp [hxs_len] at e
        show s.size + 1 ≤ 20
        omega
      · obtain ⟨i1, i2, n, i3⟩ := I.out
        refine ⟨by omega, ?_, n + nq, by rw [i3, World.drewN_drewN]⟩
        rw [app_list, i2, hxs_succ]
        have e : r.toNat = u / 16 ^ (15 - k) % 16 := by have := HR.out; omega
        rw [e]
        rfl
    · have hk3 : k = 16 := by omega
      subst hk3
      have hz2 : z < 0 := by have := I.out.1; omega
      obtain ⟨i1, i2, n, rfl⟩ := I.out
      have hd : Hid (Hx s u) := i2
      have e2 := hide (e1.out.bel (below_drewN (Below.refl _ _) n))
      have B2 := hide (bel_trans hb1 (below_drewN (Below.refl _ _) n))
      have hsz2 : s.size = 17 := hd.out.size
      have rd1 := hide (hd.out.read hu2)
      have hz16 : (s.extract 0 16).size = 16 := by rw [ByteArray.size_extract]; omega
      have rd2 := hide (hd.out.short (t := s.extract 0 16) (by rw [cut_list]; rfl))
      have h16 : (16 : Int) ≤ (s.size : Int) := by omega
      clear I i1 i2 e1 hb1 hk hsz
      generalize w1.drewN n = w2 at *
      go_wp2_with fail
      refine (tokens_any s p w2 e2.out.er e2.out.big (by omega)).mono ?_
      intro e w3 hp
      rw [rd1.out] at hp
      obtain ⟨v, rfl, ho, hb3⟩ := hp
      obtain ⟨g, cap, rfl, hg, _, hc1, hc2, hc⟩ := ho.at (by simp)
      have e3 := e2.out.bel hb3
      simp only [List.length_cons, List.length_nil, Nat.zero_add] at hc1
      unfold maxLen at hc2
      have a0 := hc 0 _ rfl
      have a1 := hc 1 _ rfl
      have a2 := hc 2 _ rfl
      have a3 := hc 3 _ rfl
      have a4 := hc 4 _ rfl
      simp only [List.length_cons, List.length_nil, Nat.zero_add]
      rw [← HU.out] at a3
      have A : Hid (∀ w', Below w3.heap.size w3 w' → w'.cell? ⟨g, 0, none⟩ = some (.int .i64 4) ∧ w'.cell? ⟨g, 1, none⟩ = some (.string s) ∧ w'.cell? ⟨g, 2, none⟩ = some (.int .i64 0) ∧ w'.cell? ⟨g, 3, none⟩ = some (.int .u64 x) ∧ w'.cell? ⟨g, 4, none⟩ = some (.int .i64 0)) := fun w' hb =>
        ⟨(hb.cell (p := ⟨g, 0, none⟩) hg).trans a0, (hb.cell (p := ⟨g, 1, none⟩) hg).trans a1, (hb.cell (p := ⟨g, 2, none⟩) hg).trans a2, (hb.cell (p := ⟨g, 3, none⟩) hg).trans a3, (hb.cell (p := ⟨g, 4, none⟩) hg).trans a4⟩
      clear hc ho a0 a1 a2 a3 a4
      go_wp2_with fail
      have hb4 := bel_new w3 (.cells #[.nilIface, .int .i64 0] 27)
      have k4 : (w3.alloc (.cells #[.nilIface, .int .i64 0] 27)).heap[w3.heap.size]? = some (.cells #[.nilIface, .int .i64 0] 27 (0, 0)) := Go.Deep.blk_alloc_new _ _
      have e4 := e3.bel hb4
      have B4 := bel_trans (bel_trans B2.out hb3) hb4
      clear hb3 e3
      generalize w3.alloc (.cells #[.nilIface, .int .i64 0] 27) = w4 at *
      refine (tokens_any _ p w4 e4.er e4.big (by omega)).mono ?_
      intro e w7 hp
      rw [rd2.out] at hp
      obtain ⟨rfl, hb7⟩ := hp
      have hb8 := bel_new w7 (.cells #[errV p 1, .int .i64 0] 27)
      have k8 : (w7.alloc (.cells #[errV p 1, .int .i64 0] 27)).heap[w7.heap.size]? = some (.cells #[errV p 1, .int .i64 0] 27 (0, 0)) := Go.Deep.blk_alloc_new _ _
      have B78 := bel_trans hb7 hb8
      have e8 := e4.bel B78
      have k4' := (B78.block _ (lt_of_blk k4)).trans k4
      obtain ⟨a0, a1, a2, a3, a4⟩ := A.out _ (bel_trans hb4 B78)
      have B8 := hide (bel_trans B4 B78)
      have E8 := hide e8.errs
      have c40 := blk_cell k4' 0 _ rfl
      have c80 := blk_cell k8 0 _ rfl
      have c81 := blk_cell k8 1 _ rfl
      have HL := hide (lt_of_blk k8)
      clear k4' k8 hb7 hb8 B78 e8 e4 B4 hb4 k4 A
      go_wp2_with (first | (go_at_call 11; refine (num_err p 1 _ E8.out (by omega)).mono ?_; rintro e w9 ⟨rfl, hb9⟩; have c9 := (hb9.cell (p := ⟨w7.heap.size, 1, none⟩) HL.out).trans c81))
      go_ret
      exact ⟨rfl, bel_trans B8.out hb9⟩

end Go.Proofs.YtpeebpnoldadjaaDoor.Ck
