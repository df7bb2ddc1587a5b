/- The contract of the library's reading of up to sixteen digits of base 16. -/
import Derived.Test.YtpeebpnoldadjaaDoorTj
import Derived.LoopTactic
namespace Go.Proofs.YtpeebpnoldadjaaDoor.Ck
open Go.RowKit

theorem lower_hex (c : Int) (hc : 97 ≤ c ∧ c ≤ 102) (w : World) : Calls Tryd.prog 75 #[.int .u8 c] w fun e w' => e = .returned (.int .u8 c) ∧ w = w' := by
  obtain ⟨h1, h2⟩ := hc
  have : c = 97 ∨ c = 98 ∨ c = 99 ∨ c = 100 ∨ c = 101 ∨ c = 102 := by omega
  rcases this with h | h | h | h | h | h <;> subst h <;>
  · go_enter Tryd.func75, Tryd.ntmps75
    go_wp2_with fail
    go_ret
    exact ⟨rfl, rfl⟩

theorem pow16 (k : Nat) (h : k < 16) : 16 ^ k ≤ 1152921504606846976 := by
  have := Nat.pow_le_pow_right (n := 16) (by omega) (show k ≤ 15 by omega)
  have e : 16 ^ 15 = 1152921504606846976 := by decide
  omega

set_option maxHeartbeats 4000000 in
set_option maxRecDepth 100000 in
theorem iparse_any (t : ByteArray) (w : World) (h1 : 1 ≤ t.size) (h16 : t.size ≤ 16) (hx : ∀ c ∈ t.data.toList, isHex (c.toNat : Int) = true) :
    Calls Tryd.prog 65 #[.string t, .int .i64 16, .int .i64 64] w fun e w' => e = .returned (.tuple #[.int .u64 (hexF t.data.toList), .nilIface]) ∧ Below w.heap.size w w' := by
  have hemp : t.toList.isEmpty = false := by
    rw [ByteArray.toList_eq]
    have e1 : t.data.toList.length = t.size := rfl
    cases e2 : t.data.toList with
    | nil => rw [e2] at e1; simp at e1; omega
    | cons x l => rfl
  have hcv := Lib.run_convert_string_bytes (P := Tryd.prog) w 9 53 5 t Tryd.underlying9 Tryd.underlying53 Tryd.underlying5
  have hB : ∀ j, j < t.size → (Lib.bytesWorld w 5 t).cell? ⟨w.heap.size, j, none⟩ = some (.int .u8 (t.data.toList.getD j 0).toNat) := fun j hj => Lib.bytesWorld_cell w 5 t j hj
  have HBW := hide (Lib.bytesWorld_below w 5 t)
  obtain ⟨W1, hW1⟩ : ∃ W1, W1 = Lib.bytesWorld w 5 t := ⟨_, rfl⟩
  rw [← hW1] at hcv hB HBW
  clear hW1
  obtain ⟨bs, hL⟩ : ∃ bs, bs = t.data.toList := ⟨_, rfl⟩
  have hLn : bs.length = t.size := by rw [hL]; rfl
  rw [← hL] at hB hx ⊢
  clear hL
  have HX := hide hx
  clear hx
  have hmv : IntKind.u64.wrap (IntKind.u64.wrap 18446744073709551616 - 1) = 18446744073709551615 := by
    rw [IntKind.wrap_u64, IntKind.wrap_u64]
    decide
  go_enter Tryd.func65, Tryd.ntmps65
  go_wp2_with fail
  go_loop [12, 13, 101] (fun vu vn vi => ∃ (k acc : Nat) (a : Int), vu = .bool false ∧ vn = .int .u64 a ∧ vi = .int .i64 k ∧ k ≤ t.size ∧ Hid (a = (acc : Int) ∧ acc < 16 ^ k ∧ hexF bs = (bs.drop k).foldl (fun a c => 16 * a + hexV c.toNat) acc))
    (fun _ _ vi => t.size - (intOf vi).toNat)
  case atStart => exact ⟨0, 0, 0, rfl, rfl, rfl, by omega, rfl, by decide, rfl⟩
  case round =>
    obtain ⟨k, acc, a, rfl, rfl, rfl, hk, hh⟩ := hrel
    obtain ⟨ha, hacc, hdec⟩ := hh.out
    clear hh
    have a0 : 0 ≤ a := by omega
    by_cases hkn : k < t.size
    · have hc := hB k hkn
      have hp := pow16 k (by omega)
      have hp2 : 16 ^ (k + 1) = 16 * 16 ^ k := by rw [Nat.pow_succ]; omega
      have hdrop : bs.drop k = bs[k]'(by omega) :: bs.drop (k + 1) := List.drop_eq_getElem_cons (by omega)
      have hget : bs.getD k 0 = bs[k]'(by omega) := by simp [List.getD, List.getElem?_eq_getElem (show k < bs.length by omega)]
      have hxc := HX.out _ (List.getElem_mem (show k < bs.length by omega))
      rw [hdrop] at hdec
      rw [hget] at hc
      generalize bs[k]'(by omega) = c at hc hdec hxc
      rw [List.foldl_cons] at hdec
      have hc256 : c.toNat < 256 := c.toNat_lt
      clear hB hdrop hget
      by_cases hdig : 48 ≤ c.toNat ∧ c.toNat ≤ 57
      · obtain ⟨hd0, hd1⟩ := hdig
        have hv : hexV c.toNat = c.toNat - 48 := by unfold hexV; rw [if_pos hd1]
        rw [hv] at hdec
        have HN : Hid (a * 16 + ((c.toNat : Int) - 48) = ((16 * acc + (c.toNat - 48) : Nat) : Int) ∧ 16 * acc + (c.toNat - 48) < 16 ^ (k + 1) ∧ hexF bs = (bs.drop (k + 1)).foldl (fun a c => 16 * a + hexV c.toNat) (16 * acc + (c.toNat - 48))) := ⟨by omega, by omega, hdec⟩
        have icut : a < 1152921504606846976 := by omega
        have iov : a * 16 + ((c.toNat : Int) - 48) < 18446744073709551616 := by omega
        clear hacc hdec ha hp hp2 hv hxc
        go_wp2_with fail
        refine ⟨⟨k + 1, 16 * acc + (c.toNat - 48), a * 16 + ((c.toNat : Int) - 48), rfl, (by first | rfl | (congr 1; omega)), (by first | rfl | (congr 1; omega)), by omega, HN⟩, by simp [intOf]; omega⟩
      · have hal : 97 ≤ c.toNat ∧ c.toNat ≤ 102 := by
          unfold isHex isDigit at hxc
          simp at hxc
          omega
        obtain ⟨hd0, hd1⟩ := hal
        have hv : hexV c.toNat = c.toNat - 87 := by unfold hexV; rw [if_neg (by omega)]
        rw [hv] at hdec
        have HN : Hid (a * 16 + ((c.toNat : Int) - 97 + 10) = ((16 * acc + (c.toNat - 87) : Nat) : Int) ∧ 16 * acc + (c.toNat - 87) < 16 ^ (k + 1) ∧ hexF bs = (bs.drop (k + 1)).foldl (fun a c => 16 * a + hexV c.toNat) (16 * acc + (c.toNat - 87))) := ⟨by omega, by omega, hdec⟩
        have icut : a < 1152921504606846976 := by omega
        have iov : a * 16 + ((c.toNat : Int) - 97 + 10) < 18446744073709551616 := by omega
        clear hacc hdec ha hp hp2 hv hxc hdig
        go_wp2_with (first | (go_at_call 75; refine (lower_hex _ (by omega) _).mono ?_; rintro e w' ⟨rfl, rfl⟩))
        refine ⟨⟨k + 1, 16 * acc + (c.toNat - 87), a * 16 + ((c.toNat : Int) - 97 + 10), rfl, (by first | rfl | (congr 1; omega)), (by first | rfl | (congr 1; omega)), by omega, HN⟩, by simp [intOf]; omega⟩
    · have hkk : k = t.size := by omega
      subst hkk
      rw [List.drop_eq_nil_of_le (by omega)] at hdec
      subst ha
      clear hacc a0
      go_wp2_with fail
      go_ret2
      exact ⟨rfl, HBW.out⟩

theorem parse_any (t : ByteArray) (w : World) (h1 : 1 ≤ t.size) (h16 : t.size ≤ 16) (hx : ∀ c ∈ t.data.toList, isHex (c.toNat : Int) = true) :
    Calls Tryd.prog 56 #[.string t, .int .i64 16, .int .i64 64] w fun e w' => e = .returned (.tuple #[.int .u64 (hexF t.data.toList), .nilIface]) ∧ Below w.heap.size w w' := by
  go_enter Tryd.func56, Tryd.ntmps56
  go_wp2_with fail
  refine (iparse_any t w h1 h16 hx).mono ?_
  rintro e w1 ⟨rfl, hb⟩
  go_wp2_with fail
  go_ret2
  exact ⟨rfl, hb⟩

end Go.Proofs.YtpeebpnoldadjaaDoor.Ck
