/- The contracts of the document's draw: Word. -/
import Derived.Test.YtflokfbdogofmaaDoorROfE
import Derived.Test.YtflokfbdogofmaaDoorWs
namespace Go.Proofs.YtflokfbdogofmaaDoor.Ck
open Go.RowKit

theorem row8_snoc (q j : Nat) (h : j < 8) : (row8 q).take j ++ [(q : Int) / 2 ^ (56 - 8 * j) % 256] = (row8 q).take (j + 1) := by
  rw [List.take_add_one, row8_at q j h]; rfl
theorem cut8_at (D : List Int) (r i : Nat) (hi : i < 8) : (cut8 D r).getD i 0 = D.getD (8 * r + i) 0 := by
  unfold cut8
  simp only [List.getD, List.getElem?_take_of_lt hi, List.getElem?_drop]

set_option maxRecDepth 20000 in
set_option maxHeartbeats 2000000 in
theorem rword_any (gh gS cS gT cT : Nat) (v : Value) (S : List Int) (n : Nat) (w : World) (hh : Ha w gh gS cS gT cT) (hv : SB w v S) (hl : S.length = 32) (hn : n ≤ 4611686018427387904) :
    Calls Tryd.prog 25 #[.pointer (some ⟨gh, 0, none⟩), v, .int .i64 n] w fun e w' => e = .returned (.int .u64 (wordN S n)) ∧ Below w.heap.size w w' := by
  obtain ⟨a0, c0, rfl, hc0, hcm⟩ := hv.form
  unfold maxLen at hcm
  have HL := hide hl
  have HF := hide hv.fits
  rw [hl] at hc0 hv ⊢
  clear hl
  obtain ⟨nq, enq⟩ : ∃ nq, nq = n / 4 := ⟨_, rfl⟩
  obtain ⟨nr, enr⟩ : ∃ nr, nr = n % 4 := ⟨_, rfl⟩
  have hq : (n : Int) / 4 = (nq : Int) := by omega
  have hr : (n : Int) % 4 = (nr : Int) := by omega
  have iq : (0 : Int) ≤ (nq : Int) ∧ (nq : Int) < 4611686018427387904 := by omega
  have ir : (0 : Int) ≤ (nr : Int) ∧ (nr : Int) < 4 := by omega
  have hr4 : nr < 4 := by omega
  have EW : Hid (wordN S n = num8 (cut8 (blkN S nq) nr)) := by show _ = _; rw [enq, enr]; rfl
  clear enq enr
  go_enter Tryd.func25, Tryd.ntmps25
  go_wp2_with (first | (at_builtin; refine wpList_appG (.tmp 12) (.tmp 13) _ _ _ (fun ty => app_copyB ty HL.out.symm hv (by decide)) rfl rfl rfl rfl ?_; rintro v1 w1 ⟨⟨g1, c1, rfl, o1⟩, hb1⟩))
  go_loopw [8, 7] (fun z u wr => ∃ (j m g' c' : Nat) (y : Int), j ≤ 8 ∧ Hid (y = 7 - (j : Int)) ∧ Hid (m = 32 + j) ∧ z = .int .i64 y ∧ u = .slice (some ⟨g', 0, none⟩) m c' ∧ OwnB wr w.heap.size g' c' (S ++ (row8 nq).take j) ∧ Below w.heap.size w wr) (fun z _ _ => (intOf z + 1).toNat)
  case atStart => exact ⟨0, 32, g1, c1, 7, Nat.zero_le _, rfl, rfl, rfl, rfl, by simpa using o1, hb1⟩
  case round =>
    obtain ⟨j, m, g', c', y, hj, EY, EM, rfl, rfl, o, hb⟩ := hrel
    by_cases hj8 : j < 8
    · obtain ⟨i, rfl⟩ : ∃ i : Nat, y = (i : Int) := ⟨7 - j, by have := EY.out; omega⟩
      have hij : Hid (i + j = 7) := by show _ = _; have := EY.out; omega
      have ii : (0 : Int) ≤ (i : Int) ∧ (i : Int) ≤ 7 := by have := hij.out; omega
      have d0 : decide ((0 : Int) ≤ (i : Int)) = true := decide_eq_true ii.1
      have ES := row8_snoc nq j hj8
      rw [show 56 - 8 * j = 8 * i by have := hij.out; omega] at ES
      have HES : Hid ((S ++ (row8 nq).take j) ++ [(nq : Int) / 2 ^ (8 * i) % 256] = S ++ (row8 nq).take (j + 1)) := by show _ = _; rw [List.append_assoc, ES]
      have ELm : Hid (m = (S ++ (row8 nq).take j).length) := by show _ = _; rw [List.length_append, HL.out, List.length_take, row8_len, EM.out]; omega
      have hm7 : m + 1 ≤ 2000000 := by have := EM.out; omega
      have fb : Hid (Fit8 [(nq : Int) / 2 ^ (8 * i) % 256]) := fun z hz => by simp at hz; subst hz; omega
      have hbs := hb.size
      obtain ⟨i8, ei8⟩ : ∃ i8 : Nat, 8 * (i : Int) = (i8 : Int) := ⟨8 * i, by omega⟩
      have ei8n : Hid (8 * i = i8) := by show _ = _; omega
      have ii8 : (0 : Int) ≤ (i8 : Int) ∧ (i8 : Int) ≤ 56 := by omega
      rw [ei8n.out] at HES fb
      clear ES
      go_wp2_with (first | (at_builtin; refine wpList_appB (.tmp 19) (.tmp 27) _ _ _ (fun ty => pushB (x := (nq : Int) / 2 ^ i8 % 256) ty o ELm.out fb.out hm7 hbs) rfl rfl rfl rfl ?_; rintro v7 w7 ⟨⟨g7, c7, rfl, o7⟩, t7⟩))
      rw [HES.out] at o7
      have hb7 : Below w.heap.size w w7 := bel_tn hb t7 o.ge
      exact ⟨⟨j + 1, m + 1, g7, c7, (i : Int) - 1, by omega, by have := EY.out; show _ = _; omega, by have := EM.out; show _ = _; omega, rfl, rfl, o7, hb7⟩, by simp [intOf]⟩
    · have ej : j = 8 := by omega
      subst ej
      obtain rfl : y = -1 := by have := EY.out; omega
      obtain rfl : m = 40 := EM.out
      have e8 : (row8 nq).take 8 = row8 nq := List.take_of_length_le (by rw [row8_len]; exact Nat.le_refl _)
      rw [e8] at o
      have hl40 : Hid ((S ++ row8 nq).length = 40) := by show _ = _; rw [List.length_append, HL.out, row8_len]
      have sB : SB wr (.slice (some ⟨g', 0, none⟩) 40 c') (S ++ row8 nq) := by
        have := o.sl (fit8_app HF.out (row8_fit nq))
        rw [hl40.out] at this
        exact this
      clear e8
      go_wp2_with fail
      refine (rof_any gh gS cS gT cT _ (S ++ row8 nq) wr (hh.bel hb) sB (by rw [hl40.out]; decide)).mono ?_
      rintro e w4 ⟨g4, c4, rfl, o4, hb4⟩
      have hb4w := bel_trans hb hb4
      have EB : Hid (sha (S ++ row8 nq) = blkN S nq) := rfl
      rw [EB.out] at o4
      have hDl : Hid ((blkN S nq).length = 32) := blkN_len _ _
      have hDf : Hid (Fit8 (blkN S nq)) := sha_fit' _
      generalize blkN S nq = D at *
      have EU : Hid (num8 (cut8 D nr) = numK (cut8 D nr) 8) := rfl
      clear o sB hb hh hb4 EB
      go_wp2_with fail
      go_loop [11, 10] (fun z u => ∃ k : Nat, k ≤ 8 ∧ z = .int .i64 k ∧ u = .int .u64 (numK (cut8 D nr) k)) (fun z _ => 8 - (intOf z).toNat)
      case atStart => exact ⟨0, Nat.zero_le _, rfl, rfl⟩
      case round =>
        obtain ⟨k, hk, rfl, rfl⟩ := hrel
        by_cases hk8 : k < 8
        · have d0 : decide ((k : Int) < 8) = true := decide_eq_true (by omega)
          obtain ⟨x8, ex8⟩ : ∃ x8 : Nat, x8 = 8 * nr + k := ⟨_, rfl⟩
          have q0 := o4.cell x8 (by rw [hDl.out]; omega)
          have EN : Hid (numK (cut8 D nr) (k + 1) = (256 * numK (cut8 D nr) k + D.getD x8 0) % 18446744073709551616) := by
            show (256 * numK (cut8 D nr) k + (cut8 D nr).getD k 0) % 18446744073709551616 = _
            rw [cut8_at D nr k hk8, ← ex8]
          have hN := numK_fit (cut8 D nr) k
          have hx := fit8_at hDf.out x8
          generalize numK (cut8 D nr) k = u at *
          generalize D.getD x8 0 = x at *
          obtain ⟨r8, er8⟩ : ∃ r8 : Nat, 8 * (nr : Int) = (r8 : Int) := ⟨8 * nr, by omega⟩
          have ir8 : (0 : Int) ≤ (r8 : Int) ∧ (r8 : Int) ≤ 24 := by omega
          have hx8 : (r8 : Int) + (k : Int) = (x8 : Int) := by omega
          have ix8 : (0 : Int) ≤ (x8 : Int) ∧ (x8 : Int) < 32 := by omega
          clear ex8
          go_wp2_with fail
          refine ⟨⟨k + 1, by omega, by go_num, ?_⟩, by simp [intOf]; omega⟩
          rw [EN.out]
          simp only [IntKind.wrap_u64, Int.emod_add_emod]
        · have ek : k = 8 := by omega
          subst ek
          have d0 : decide (((8 : Nat) : Int) < 8) = false := by decide
          go_wp2_with fail
          go_ret
          refine ⟨ret_int ?_, hb4w⟩
          rw [EW.out, EU.out]

end Go.Proofs.YtflokfbdogofmaaDoor.Ck
