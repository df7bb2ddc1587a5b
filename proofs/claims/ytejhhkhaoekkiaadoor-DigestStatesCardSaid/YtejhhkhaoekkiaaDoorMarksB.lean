/- The contracts of the statements' own Bytes (a copy with marked room behind) and Kept. -/
import Derived.Test.YtejhhkhaoekkiaaDoorRowEq
namespace Go.Proofs.YtejhhkhaoekkiaaDoor.Ck
open Go.RowKit

def marks6 : List Int := [201, 202, 203, 204, 205, 206]
theorem marks6_fit : Fit8 marks6 := by unfold Fit8 marks6; decide
theorem marks6_built (w : World) : SB (w.alloc (.cells #[.int .u8 201, .int .u8 202, .int .u8 203, .int .u8 204, .int .u8 205, .int .u8 206] 5)) (.slice (some ⟨w.heap.size, 0, none⟩) 6 6) marks6 :=
  SB.of_blk (zs := marks6) (Blk.new w (bv marks6) 5) (by decide) marks6_fit
theorem tn_of_grown {w w' : World} {g : Nat} (h : w.grownBy w' (some g)) : Tn g w w' := ⟨h.1, h.2, h.3, h.4, fun k hk hg => h.5 k hk (by simpa using hg)⟩

set_option maxRecDepth 10000 in
set_option maxHeartbeats 400000 in
theorem bytes_any (va : Value) (a : List Int) (w : World) (ha : SB w va a) (hla : a.length ≤ 900000) :
    Calls Tryd.prog 9 #[va] w fun e w' => ∃ g, e = .returned (.slice (some ⟨g, 0, none⟩) a.length (a.length + 6)) ∧ OwnB w' w.heap.size g (a.length + 6) (a ++ marks6) ∧ Below w.heap.size w w' := by
  obtain ⟨aa, ca, rfl, hca, hcm⟩ := ha.form
  unfold maxLen at hcm
  obtain ⟨n, en⟩ : ∃ n, n = a.length := ⟨_, rfl⟩
  have En := hide en
  rw [← en] at ha hca hla ⊢
  clear en
  have hx2 : Hid ((n : Int) + 6 = ((n + 6 : Nat) : Int)) := by show _ = _; omega
  have hx3 : Hid (0 ≤ n + 6 ∧ n + 6 ≤ 1000000) := ⟨by omega, by omega⟩
  have H1 : Hid (∀ (w1 : World) (g1 : Nat), OwnB w1 w.heap.size g1 (n + 6) [] → Below w.heap.size w w1 → ∀ ty, ∃ v' w', (Builtin.append_ #[29, 29] ty #[.slice (some ⟨g1, 0, none⟩) 0 (n + 6), .slice aa n ca]).run Tryd.prog w1 = .ok v' w' ∧ (v' = .slice (some ⟨g1, 0, none⟩) n (n + 6) ∧ OwnB w' w.heap.size g1 (n + 6) a ∧ Tn g1 w1 w')) := fun w1 g1 o1 hb1 ty => by
    obtain ⟨w', hr, ho, hg⟩ := app_fitsB ty o1 (ha.bel hb1) (by simp; have := En.out; omega)
    refine ⟨_, w', hr, by simp [← En.out], by simpa using ho, tn_of_grown hg⟩
  have H2 : Hid (∀ (w2 : World) (g1 : Nat), OwnB w2 w.heap.size g1 (n + 6) a → ∀ ty, ∃ v' w', (Builtin.append_ #[29, 29] ty #[.slice (some ⟨g1, 0, none⟩) n (n + 6), .slice (some ⟨w2.heap.size, 0, none⟩) 6 6]).run Tryd.prog (w2.alloc (.cells #[.int .u8 201, .int .u8 202, .int .u8 203, .int .u8 204, .int .u8 205, .int .u8 206] 5)) = .ok v' w' ∧ (v' = .slice (some ⟨g1, 0, none⟩) (n + 6) (n + 6) ∧ OwnB w' w.heap.size g1 (n + 6) (a ++ marks6) ∧ Tn g1 w2 w')) := fun w2 g1 o2 ty => by
    obtain ⟨w', hr, ho, hg⟩ := app_fitsB ty (o2.alloc _) (marks6_built w2) (by rw [← En.out]; exact Nat.le_refl _)
    rw [← En.out] at hr
    exact ⟨_, w', hr, rfl, ho, (Tn.of_bel (bel_new w2 _)).trans (tn_of_grown hg)⟩
  have i1 : (0 : Int) ≤ (n : Int) ∧ (n : Int) ≤ (n : Int) + 6 := by omega
  go_enter Tryd.func9, Tryd.ntmps9
  go_wp2_with (first | (refine wpList_makeB (.const (.int .i64 0)) (.tmp 6) 0 _ 0 (n + 6) rfl hx2.out hx3.out.1 hx3.out.2 rfl rfl rfl rfl ?_; intro w1 g1 e1 o1 hb1) | (at_builtin; refine wpList_appG (.tmp 7) (.tmp 8) _ _ _ (H1.out w1 g1 o1 hb1) rfl rfl rfl rfl ?_; rintro v2 w2 ⟨rfl, o2, t2⟩) | (at_builtin; refine wpList_appG (.tmp 9) (.tmp 10) _ _ _ (H2.out w2 g1 o2) rfl rfl rfl rfl ?_; rintro v3 w3 ⟨rfl, o3, t3⟩))
  go_ret
  exact ⟨g1, rfl, o3, bel_tn (bel_tn hb1 t2 o2.ge) t3 o3.ge⟩

theorem marks6_at (a : List Int) (k : Nat) (hk : k < 6) : (a ++ marks6).getD (a.length + k) 0 = 201 + k := by
  have : k = 0 ∨ k = 1 ∨ k = 2 ∨ k = 3 ∨ k = 4 ∨ k = 5 := by omega
  rcases this with h | h | h | h | h | h <;> subst h <;> simp [List.getD, marks6]

end Go.Proofs.YtejhhkhaoekkiaaDoor.Ck
