/- The contract of Equal. -/
import Derived.Test.YtejhhkhaoekkiaaDoorVeil
import Derived.Laws.BitsAllLaws
namespace Go.Proofs.YtejhhkhaoekkiaaDoor.Ck
open Go.RowKit

def eqB (a b : List Int) : Bool := decide (a = b)
theorem xor8_zero (x y : Int) (hx : 0 ≤ x ∧ x < 256) (hy : 0 ≤ y ∧ y < 256) : bits .xor .u8 x y = 0 ↔ x = y := by
  rw [u8_xor x y hx.1 (by omega) hy.1 (by omega)]
  constructor
  · intro h
    have h2 : x.toNat ^^^ y.toNat = 0 := by omega
    have h3 : x.toNat ^^^ (x.toNat ^^^ y.toNat) = x.toNat ^^^ 0 := by rw [h2]
    rw [← Nat.xor_assoc, Nat.xor_self, Nat.zero_xor, Nat.xor_zero] at h3
    omega
  · intro h
    subst h
    simp
theorem or8 (x y : Int) (hx : 0 ≤ x ∧ x < 256) (hy : 0 ≤ y ∧ y < 256) : (bits .or .u8 x y = 0 ↔ x = 0 ∧ y = 0) ∧ 0 ≤ bits .or .u8 x y ∧ bits .or .u8 x y < 256 := by
  refine ⟨?_, ?_⟩
  · rw [u8_or x y hx.1 (by omega) hy.1 (by omega)]
    constructor
    · intro h
      have h2 : x.toNat ||| y.toNat = 0 := by omega
      have := Nat.or_eq_zero_iff.1 h2
      omega
    · rintro ⟨h1, h2⟩
      subst h1 h2
      rfl
  · show 0 ≤ IntKind.u8.wrap _ ∧ IntKind.u8.wrap _ < 256
    simp [IntKind.wrap, IntKind.bits, IntKind.signed]
    omega

set_option maxRecDepth 10000 in
set_option maxHeartbeats 1000000 in
theorem equal_any (va vb : Value) (a b : List Int) (w : World) (ha : SB w va a) (hb : SB w vb b) :
    Calls Tryd.prog 21 #[va, vb] w fun e w' => e = .returned (.bool (eqB a b)) ∧ Below w.heap.size w w' := by
  obtain ⟨aa, ca, rfl, hca, hcm⟩ := ha.form
  obtain ⟨ab, cb, rfl, hcb, hcm2⟩ := hb.form
  unfold maxLen at hcm hcm2
  by_cases hl : a.length = b.length
  · obtain ⟨n, hn⟩ : ∃ n, n = a.length := ⟨_, rfl⟩
    have HN := hide hn
    have HM : Hid (n = b.length) := hn.trans hl
    rw [← hl, ← hn] at hb hcb ⊢
    rw [← hn] at ha hca
    clear hl hn
    go_enter Tryd.func21, Tryd.ntmps21
    go_wp2_with fail
    go_loopw [5, 14] (fun x i wr => ∃ (k : Nat) (d : Int), k ≤ n ∧ i = .int .i64 k ∧ x = .int .u8 d ∧ Hid ((0 ≤ d ∧ d < 256) ∧ (d = 0 ↔ ∀ j, j < k → a.getD j 0 = b.getD j 0)) ∧ Below w.heap.size w wr) (fun _ i _ => n - (intOf i).toNat)
    case atStart => exact ⟨0, 0, Nat.zero_le _, rfl, rfl, ⟨⟨by decide, by decide⟩, fun _ j hj => absurd hj (Nat.not_lt_zero _), fun _ => rfl⟩, Below.refl _ _⟩
    case round =>
      obtain ⟨k, d, hk, rfl, rfl, hd, hbel⟩ := hrel
      by_cases hlt : k < n
      · obtain ⟨b1, o1, rfl, hb1, hc1⟩ := ha.at k hlt
        obtain ⟨b2, o2, rfl, hb2, hc2⟩ := hb.at k hlt
        rw [← hbel.cell (p := ⟨b1, o1 + k, none⟩) hb1] at hc1
        rw [← hbel.cell (p := ⟨b2, o2 + k, none⟩) hb2] at hc2
        have h1 : (0 : Int) ≤ (k : Int) ∧ (k : Int) < (n : Int) := by omega
        have F1 := hide (fit8_at ha.fits k)
        have F2 := hide (fit8_at hb.fits k)
        have hstep : Hid (a.getD k 0 = b.getD k 0 → (∀ j, j < k → a.getD j 0 = b.getD j 0) → ∀ j, j < k + 1 → a.getD j 0 = b.getD j 0) := fun e h j hj => by
          by_cases ej : j = k
          · rw [ej]; exact e
          · exact h j (by omega)
        have hback : Hid ((∀ j, j < k + 1 → a.getD j 0 = b.getD j 0) → a.getD k 0 = b.getD k 0) := fun h => h k (by omega)
        generalize a.getD k 0 = x at *
        generalize b.getD k 0 = y at *
        go_wp2_with fail
        go_quiet (fail)
        go_wp2_with fail
        go_roundw
        case rel =>
          have X := xor8 x y
          have O := or8 d (bits .xor .u8 x y) hd.out.1 X
          refine ⟨k + 1, bits .or .u8 d (bits .xor .u8 x y), by omega, by go_num, rfl, ⟨O.2, ?_⟩, below_drewN hbel _⟩
          rw [O.1, xor8_zero x y F1.out F2.out, hd.out.2]
          exact ⟨fun h => hstep.out h.2 h.1, fun h => ⟨fun j hj => h j (by omega), hback.out h⟩⟩
        case measure => simp [intOf]; omega
      · have e : k = n := by omega
        subst e
        have hs : Hid (decide (d = 0) = eqB a b) := by
          show _ = decide (a = b)
          rw [decide_eq_decide, hd.out.2]
          constructor
          · intro h
            refine List.ext_getElem (HN.out.symm.trans HM.out) (fun i h1 h2 => ?_)
            have := h i (by have := HN.out; omega)
            simpa [List.getD, h1, h2] using this
          · intro h j _
            rw [h]
        clear hd
        go_wp2_with fail
        go_ret
        refine ⟨ret_bool ?_, hbel⟩
        rw [← hs.out]
        rfl
  · have hs : Hid (eqB a b = false) := decide_eq_false (fun e => hl (by rw [e]))
    have ht : ((a.length : Int) != (b.length : Int)) = true := by rw [bne_iff_ne]; omega
    generalize a.length = n1 at *
    generalize b.length = n2 at *
    go_enter Tryd.func21, Tryd.ntmps21
    go_wp2_with fail
    go_ret
    exact ⟨ret_bool hs.out.symm, Below.refl _ _⟩

end Go.Proofs.YtejhhkhaoekkiaaDoor.Ck
