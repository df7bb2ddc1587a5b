/- The statement OrderChains. -/
import Derived.Test.YthioonahgjdahaaDoorOw
import Derived.Test.YthioonahgjdahaaDoorOx
import Derived.Test.YthioonahgjdahaaDoorOy
import Derived.Deep.QuietTactic
import Derived.BigQuiet
namespace Go.Proofs.YthioonahgjdahaaDoor.Ck
open Go.RowKit

theorem mod_nat (A : Int) {n : Nat} (h : 0 < n) (hn : n ≤ 1000) : ∃ a : Nat, a < n ∧ wrap64 ((IntKind.u64.wrap A).tmod n) = (a : Nat) := by
  have h0 : 0 ≤ IntKind.u64.wrap A := by rw [IntKind.wrap_u64]; omega
  rw [Int.tmod_eq_emod_of_nonneg h0]
  have h1 := Int.emod_nonneg (IntKind.u64.wrap A) (show (n : Int) ≠ 0 by omega)
  have h2 := Int.emod_lt_of_pos (IntKind.u64.wrap A) (show (0 : Int) < n by omega)
  generalize IntKind.u64.wrap A % (n : Int) = x at *
  refine ⟨x.toNat, by omega, ?_⟩
  unfold wrap64
  omega
set_option maxRecDepth 20000 in
set_option maxHeartbeats 8000000 in
theorem chains_main {w : World} {vT vR ev : Value} {T : List Ev} {R : List Int} {A B C : Int} (hE : Er w ev) (hT : SlE w vT T) (hR : Sl w vR R) (hW : ∀ k, k < T.length → wfI (T.getD k zE).o) : Calls Tryd.prog 4 #[.agg #[vT, vR, .int .i64 A, .int .i64 B], .int .i64 C] w (Vb w (.bool true)) := by
  obtain ⟨aT, cT, rfl, hcT, hcT2⟩ := hT.form
  obtain ⟨aR, cR, rfl, hcR, _⟩ := hR.form
  have B0 := hide (bel_new w (.cells #[.slice aT T.length cT, .slice aR R.length cR, .int .i64 A, .int .i64 B] 38))
  have V0 := hide (Go.Deep.blk_alloc_new w (.cells #[.slice aT T.length cT, .slice aR R.length cR, .int .i64 A, .int .i64 B] 38))
  have AL := hide (alive18_any (hE.bel B0.out))
  have HE := hide hE
  have HT := hide hT
  have HR := hide hR
  have HW := hide hW
  clear hE hT hR hW
  go_enter Tryd.func4, Tryd.ntmps4
  go_wp2_with fail
  generalize w.alloc (.cells #[.slice aT T.length cT, .slice aR R.length cR, .int .i64 A, .int .i64 B] 38) = w1 at *
  refine AL.out.mono ?_
  rintro e w2 ⟨rfl, b2⟩
  have B2 := hide (bel_trans B0.out b2)
  have V2 := hide ((b2.block _ (lt_of_blk V0.out)).trans V0.out)
  have v0 := blk_cell V2.out 0 _ rfl
  have v1 := blk_cell V2.out 1 _ rfl
  clear b2 V0 B0 AL
  by_cases h1 : T.length < 1
  · have h1' : (T.length : Int) < 1 := by omega
    go_wp2_with fail
    go_ret
    exact ⟨rfl, B2.out⟩
  have h1' : ¬ (T.length : Int) < 1 := by omega
  by_cases h2 : 100 < T.length
  · have h2' : (100 : Int) < (T.length : Int) := by omega
    go_wp2_with fail
    go_ret
    exact ⟨rfl, B2.out⟩
  have h2' : ¬ (100 : Int) < (T.length : Int) := by omega
  by_cases h3 : 100 < R.length
  · have h3' : (100 : Int) < (R.length : Int) := by omega
    go_wp2_with fail
    go_ret
    exact ⟨rfl, B2.out⟩
  have h3' : ¬ (100 : Int) < (R.length : Int) := by omega
  have FM := hide (rform18_any (HT.out.bel B2.out) (by omega))
  cases hF : formT T with
  | false =>
    rw [hF] at FM
    go_wp2_with (first | (go_at_call 8; refine FM.out.mono ?_; rintro e w3 ⟨rfl, b3⟩; have C3 := hide b3; clear b3))
    go_ret
    exact ⟨rfl, bel_trans B2.out C3.out⟩
  | true =>
    rw [hF] at FM
    have HF := hide hF
    clear hF
    go_upto_region 7 with (first | (go_at_call 8; refine FM.out.mono ?_; rintro e w3 ⟨rfl, b3⟩; have C3 := hide b3; clear b3))
    have V3 := hide ((C3.out.block _ (lt_of_blk V2.out)).trans V2.out)
    have B3 := hide (bel_trans B2.out C3.out)
    have u0 := blk_cell V3.out 0 _ rfl
    have u1 := blk_cell V3.out 1 _ rfl
    have u2 := blk_cell V3.out 2 _ rfl
    have u3 := blk_cell V3.out 3 _ rfl
    have hz : ((T.length : Int) == 0) = false := by rw [beq_eq_false_iff_ne]; omega
    clear v0 v1 FM V2 B2 C3
    go_quiet (fail)
    obtain ⟨a, ha, ea⟩ := mod_nat A (show 0 < T.length by omega) (by omega)
    obtain ⟨b, hb, eb⟩ := mod_nat B (show 0 < T.length by omega) (by omega)
    obtain ⟨c, hc, ec⟩ := mod_nat C (show 0 < T.length by omega) (by omega)
    rw [ea, eb, ec]
    have B4 := hide (below_drewN B3.out nq)
    have BF := hide (fun wz (hz : Below w.heap.size w wz) x y (hx : x < T.length) (hy : y < T.length) => before_any (HT.out.bel hz) (HR.out.bel hz) (HE.out.bel hz) HF.out HW.out (by omega) x y hx hy)
    have VV := hide (fun wz (hz : Below w3.heap.size w3 wz) => (show wz.cell? ⟨w.heap.size, 1, none⟩ = some (.slice aR R.length cR) from (hz.cell (p := ⟨w.heap.size, 1, none⟩) (lt_of_blk V3.out)).trans u1))
    have hA : (befM R T a b && befM R T b a) = false := by
      rw [bef_eq R T a b hb, bef_eq R T b a ha]
      by_cases h : a < b
      · rw [decide_eq_false (show ¬ b < a by omega), Bool.false_and, Bool.and_false]
      · rw [decide_eq_false h, Bool.false_and, Bool.false_and]
    have hB : befM R T a b = true → a < b := fun h => by
      rw [bef_eq R T a b hb] at h
      simp only [Bool.and_eq_true, decide_eq_true_eq] at h
      exact h.1
    have hC : befM R T a b = true → befM R T b c = true → befM R T a c = true := fun p q => bef_trans HF.out (by omega) hb hc p q
    have F1 := hide (fun wz hz => BF.out wz hz a b ha hb)
    have F2 := hide (fun wz hz => BF.out wz hz b a hb ha)
    have F3 := hide (fun wz hz => BF.out wz hz b c hb hc)
    have F4 := hide (fun wz hz => BF.out wz hz a c ha hc)
    generalize befM R T a b = p1 at *
    generalize befM R T b a = p2 at *
    generalize befM R T b c = p3 at *
    generalize befM R T a c = p4 at *
    have K := hide (And.intro hA (And.intro hB hC))
    have D4 := hide (show Below w3.heap.size w3 (w3.drewN nq) from below_drewN (Below.refl _ _) nq)
    have HN := hide (And.intro ha (And.intro hb hc))
    clear BF hA hB hC ea eb ec u0 u1 u2 u3 hz V3 ha hb hc
    generalize w3.drewN nq = w4 at *
    have x1 := VV.out _ D4.out
    go_wp2_with fail
    refine (F1.out _ B4.out).mono ?_
    rintro e w5 ⟨rfl, b5⟩
    have B5 := hide (bel_trans B4.out b5)
    have D5 := hide (D4.out.trans (b5.mono D4.out.size))
    have x5 := VV.out _ D5.out
    clear b5 x1 F1
    go_wp2_with fail
    refine (F2.out _ B5.out).mono ?_
    rintro e w6 ⟨rfl, b6⟩
    have B6 := hide (bel_trans B5.out b6)
    have D6 := hide (D5.out.trans (b6.mono D5.out.size))
    have x6 := VV.out _ D6.out
    clear b6 x5 F2
    go_wp2_with fail
    refine (F3.out _ B6.out).mono ?_
    rintro e w7 ⟨rfl, b7⟩
    have B7 := hide (bel_trans B6.out b7)
    have D7 := hide (D6.out.trans (b7.mono D6.out.size))
    have x7 := VV.out _ D7.out
    clear b7 x6 F3
    go_wp2_with fail
    refine (F4.out _ B7.out).mono ?_
    rintro e w8 ⟨rfl, b8⟩
    have B8 := hide (bel_trans B7.out b8)
    clear b8 x7 F4 VV
    have KK := K.out
    clear K
    cases p1 with
    | false =>
      clear KK
      go_wp2_with fail
      go_ret
      exact ⟨rfl, B8.out⟩
    | true =>
      obtain ⟨k1, k2, k3⟩ := KK
      have hab := k2 rfl
      have hab' : (a : Int) < (b : Int) := by omega
      cases p2 with
      | true => cases k1
      | false =>
        cases p3 with
        | false =>
          clear k1 k2 k3
          go_wp2_with fail
          go_ret
          exact ⟨rfl, B8.out⟩
        | true =>
          have e4 := k3 rfl rfl
          subst e4
          clear k1 k2 k3
          go_wp2_with fail
          go_ret
          exact ⟨rfl, B8.out⟩
end Go.Proofs.YthioonahgjdahaaDoor.Ck
