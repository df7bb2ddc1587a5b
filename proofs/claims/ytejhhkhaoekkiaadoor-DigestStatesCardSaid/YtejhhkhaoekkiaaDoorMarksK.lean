/- The contract of the statements' own Kept. -/
import Derived.Test.YtejhhkhaoekkiaaDoorMarksB
import Derived.Test.YtejhhkhaoekkiaaDoorStr
namespace Go.Proofs.YtejhhkhaoekkiaaDoor.Ck
open Go.RowKit

set_option maxRecDepth 10000 in
set_option maxHeartbeats 400000 in
theorem keptB_any (vw : Value) (a : List Int) (g B : Nat) (w : World) (ha : SB w vw a) (ho : OwnB w B g (a.length + 6) (a ++ marks6)) (hla : a.length ≤ 900000) :
    Calls Tryd.prog 11 #[.slice (some ⟨g, 0, none⟩) a.length (a.length + 6), vw] w fun e w' => e = .returned (.bool true) ∧ Below w.heap.size w w' := by
  obtain ⟨aa, ca, rfl, hca, hcm⟩ := ha.form
  unfold maxLen at hcm
  obtain ⟨n, en⟩ : ∃ n, n = a.length := ⟨_, rfl⟩
  have En := hide en
  have hfits := ha.fits
  rw [← en] at ha hca hla ho ⊢
  have hs : SB w (.slice (some ⟨g, 0, none⟩) n (n + 6)) a := by
    refine ⟨hfits, some ⟨g, 0, none⟩, n + 6, by rw [en], by omega, by unfold maxLen; omega, fun i hi => ⟨g, 0, rfl, ho.lt, ?_⟩⟩
    rw [Nat.zero_add, ho.cell i (by simp; omega)]
    simp only [List.getD, List.getElem?_append_left hi]
  have HC : Hid (∀ k, k < 6 → w.cell? ⟨g, n + k, none⟩ = some (.int .u8 (201 + k))) := fun k hk => by
    rw [ho.cell (n + k) (by simp [marks6]; omega), en, marks6_at a k hk]
  have k1 : ∀ j : Nat, (convert 29 9 (.slice (some ⟨g, 0, none⟩) n (n + 6))).run Tryd.prog (w.drewN j) = .ok (.string (strOf a)) (w.drewN j) := fun j => conv_str (w := w.drewN j) hs
  have k2 : ∀ j : Nat, (convert 29 9 (.slice aa n ca)).run Tryd.prog (w.drewN j) = .ok (.string (strOf a)) (w.drewN j) := fun j => conv_str (w := w.drewN j) ha
  have d1 : decide ((n : Int) + 6 < (n : Int) + 6) = false := by simp
  have i1 : (0 : Int) ≤ (n : Int) ∧ (n : Int) ≤ (n : Int) + 6 := by omega
  have hglt := ho.lt
  clear ho en hfits
  go_enter Tryd.func11, Tryd.ntmps11
  go_wp2_with fail
  go_quiet (fail)
  have hbq : Below w.heap.size w (w.drewN nq) := below_drewN (Below.refl _ _) nq
  have HC : Hid (∀ k, k < 6 → (w.drewN nq).cell? ⟨g, n + k, none⟩ = some (.int .u8 (201 + k))) := HC
  clear k1 k2
  generalize w.drewN nq = wq at *
  go_wp2_with fail
  go_loop [6] (fun i => ∃ k : Nat, k ≤ 6 ∧ i = .int .i64 k) (fun i => 6 - (intOf i).toNat)
  case atStart => exact ⟨0, Nat.zero_le _, rfl⟩
  case round =>
    obtain ⟨k, hk, rfl⟩ := hrel
    by_cases hk6 : k < 6
    · have hcell := HC.out k hk6
      have hx : ((201 + (k : Int)) != (201 + (k : Int))) = false := by simp
      have hj : (201 + (k : Int)) % 256 = 201 + (k : Int) := by omega
      have hi : (0 : Int) ≤ (n : Int) + (k : Int) ∧ (n : Int) + (k : Int) < (n : Int) + 6 := by omega
      go_wp2_with fail
      go_round
      case rel => exact ⟨k + 1, by omega, by go_num⟩
      case measure => simp [intOf]; omega
    · have e : k = 6 := by omega
      subst e
      go_wp2_with fail
      go_ret
      exact ⟨rfl, hbq⟩

end Go.Proofs.YtejhhkhaoekkiaaDoor.Ck
