/- The contracts of pool's calls that only read: page, run, Size, Used, Share, Get. -/
import Derived.Test.YtndhgdjcbegjdaaDoorRd
import Derived.Test.YtndhgdjcbegjdaaDoorNum
namespace Go.Proofs.YtndhgdjcbegjdaaDoor.Ck
open Go.RowKit

theorem Upd.drewN (L : Lay) (w : World) (k : Nat) : Upd L w (w.drewN k) := ⟨fun _ _ _ => rfl, fun _ => rfl, fun _ _ _ => below_drewN (Below.refl _ _) k, rfl, fun _ _ _ => rfl⟩
theorem Ar.drewN {w : World} {L : Lay} {R V : Nat → Int} (h : Ar w L R V) (k : Nat) : Ar (w.drewN k) L R V := h.below (below_drewN (Below.refl _ _) k)

theorem page_out (L : Lay) (R V : Nat → Int) (at_ : Int) (w : World) (h : Ar w L R V) (ho : at_ < 0 ∨ 16 * (L.n : Int) ≤ at_) :
    Calls Tryd.prog 37 #[L.ptr, .int .i64 at_] w fun e w' => e = .returned (.tuple #[.int .i64 0, .bool false]) ∧ w = w' := by
  obtain ⟨ab, ao, pb, po, rb, n⟩ := L
  have hn := h.small
  have hr := h.pages
  simp only at hn hr ho ⊢
  clear h
  go_enter Tryd.func37, Tryd.ntmps37
  by_cases h0 : at_ < 0
  · go_wp2_with fail
    go_ret2
    exact ⟨rfl, rfl⟩
  · have h1 : (n : Int) * 16 ≤ at_ := by omega
    clear ho
    go_wp2_with fail
    go_ret2
    exact ⟨rfl, rfl⟩

theorem page_in (L : Lay) (R V : Nat → Int) (p r : Nat) (w : World) (h : Ar w L R V) (hp : p < L.n) (hr : r < 16) :
    Calls Tryd.prog 37 #[L.ptr, .int .i64 (16 * (p : Int) + r)] w fun e w' => e = .returned (.tuple #[.int .i64 p, .bool (R p != 0)]) ∧ ∃ k, w' = w.drewN k := by
  obtain ⟨ab, ao, pb, po, rb, n⟩ := L
  have hn := h.small
  have hpg := h.pages
  have hrn := h.runs
  have hc := h.run p hp
  simp only at hn hp hpg hrn hc ⊢
  clear h
  have hq : (16 * (p : Int) + r).tdiv 16 = p := by rw [Int.tdiv_eq_ediv_of_nonneg (by omega)]; omega
  generalize hat : 16 * (p : Int) + r = at_ at *
  have h1 : 0 ≤ at_ := by omega
  have h2 : at_ < (n : Int) * 16 := by omega
  clear hat
  generalize hz : R p = z at *
  go_enter Tryd.func37, Tryd.ntmps37
  go_wp2_with fail
  go_quiet (fail)
  go_wp2_with fail
  go_ret2
  exact ⟨rfl, _, rfl⟩

/-- is at a word of a run? -/
def InRun (R : Nat → Int) (n : Nat) (at_ : Int) : Prop := ∃ p r : Nat, at_ = 16 * (p : Int) + r ∧ p < n ∧ r < 16 ∧ R p ≠ 0

theorem page_not (L : Lay) (R V : Nat → Int) (at_ : Int) (w : World) (h : Ar w L R V) (ho : ¬ InRun R L.n at_) :
    Calls Tryd.prog 37 #[L.ptr, .int .i64 at_] w fun e w' => ∃ z, e = .returned (.tuple #[.int .i64 z, .bool false]) ∧ ∃ k, w' = w.drewN k := by
  by_cases h0 : at_ < 0 ∨ 16 * (L.n : Int) ≤ at_
  · exact (page_out L R V at_ w h h0).mono fun e w' ⟨h1, h2⟩ => ⟨0, h1, 0, by rw [← h2]; rfl⟩
  · obtain ⟨p, r, rfl, hp, hr⟩ : ∃ p r : Nat, at_ = 16 * (p : Int) + r ∧ p < L.n ∧ r < 16 := ⟨at_.toNat / 16, at_.toNat % 16, by omega, by omega, by omega⟩
    have hz : R p = 0 := by
      by_cases e : R p = 0
      · exact e
      · exact absurd ⟨p, r, rfl, hp, hr, e⟩ ho
    refine (page_in L R V p r w h hp hr).mono fun e w' ⟨h1, h2⟩ => ⟨(p : Int), ?_, h2⟩
    rw [hz] at h1
    exact h1

/-- the run that begins at page f ends ahead of page t -/
def IsEnd (R : Nat → Int) (n f t : Nat) : Prop := f < t ∧ t ≤ n ∧ (∀ k, f ≤ k → k < t → R k = (f : Int) + 1) ∧ (t < n → R t ≠ (f : Int) + 1)
/-- the pages f to t - 1 are the run of this address; none, if f = t = 0 -/
def RunOf (R : Nat → Int) (n : Nat) (at_ : Int) (f t : Nat) : Prop :=
  (at_ = 16 * (f : Int) ∧ IsEnd R n f t) ∨ (f = t ∧ t ≤ n ∧ ∀ f' : Nat, at_ = 16 * (f' : Int) → f' < n → R f' ≠ (f' : Int) + 1)

set_option maxHeartbeats 1000000 in
theorem run_any (L : Lay) (R V : Nat → Int) (at_ : Int) (w : World) (h : Ar w L R V) :
    Calls Tryd.prog 31 #[L.ptr, .int .i64 at_] w fun e w' => (∃ f t : Nat, e = .returned (.tuple #[.int .i64 f, .int .i64 t]) ∧ RunOf R L.n at_ f t) ∧ ∃ k, w' = w.drewN k := by
  by_cases hin : InRun R L.n at_
  · obtain ⟨p, r, rfl, hp, hr, hne⟩ := hin
    by_cases hr0 : r = 0
    · subst hr0
      have hm : (16 * (p : Int) + (0 : Nat)).tmod 16 = 0 := by rw [Int.tmod_eq_emod_of_nonneg (by omega)]; omega
      have hpc : Hid (Calls Tryd.prog 37 #[L.ptr, .int .i64 (16 * (p : Int) + (0 : Nat))] w fun e w' => e = .returned (.tuple #[.int .i64 p, .bool true]) ∧ ∃ k, w' = w.drewN k) := by
        have := page_in L R V p 0 w h hp (by omega)
        rw [show (R p != 0) = true from by simp [hne]] at this
        exact this
      have H : Hid (∀ k i, i < L.n → (w.drewN k).cell? ⟨L.rb, i, none⟩ = some (.int .i64 (R i))) := fun k => (h.drewN k).run
      have Hr : Hid (∀ k, (w.drewN k).cell? ⟨L.ab, L.ao + 1, none⟩ = some (.slice (some ⟨L.rb, 0, none⟩) L.n L.n)) := fun k => (h.drewN k).runs
      have hn := h.small
      obtain ⟨ab, ao, pb, po, rb, n⟩ := L
      simp only at hn hp hpc H Hr ⊢
      clear h hne
      have hat : Hid (16 * (p : Int) + (0 : Nat) = 16 * (p : Int)) := by show _ = _; omega
      generalize 16 * (p : Int) + (0 : Nat) = at_ at *
      go_enter Tryd.func31, Tryd.ntmps31
      go_wp2_with fail
      refine hpc.out.mono ?_
      rintro e w1 ⟨rfl, k1, rfl⟩
      have hrn := Hr.out k1
      clear hpc
      go_wp2_with fail
      go_loop [5] (fun i => ∃ t : Nat, t ≤ n ∧ p ≤ t ∧ i = .int .i64 t ∧ Hid (∀ k, p ≤ k → k < t → R k = (p : Int) + 1)) (fun i => n - (intOf i).toNat)
      case atStart => exact ⟨p, by omega, by omega, rfl, fun k h1 h2 => by omega⟩
      case round =>
        obtain ⟨t, ht, hpt, rfl, I⟩ := hrel
        by_cases htn : t < n
        · have hc := H.out k1 t htn
          by_cases e : R t = (p : Int) + 1
          · have I2 : Hid (∀ k, p ≤ k → k < t + 1 → R k = (p : Int) + 1) := fun k h1 h2 => by
              by_cases ek : k = t
              · rw [ek]; exact e
              · exact I.out k h1 (by omega)
            have e' : (((p : Int) + 1) == (p : Int) + 1) = true := by simp
            rw [e] at hc
            clear I e H Hr
            go_wp2_with fail
            go_round
            case rel => exact ⟨t + 1, by omega, by omega, by go_num, I2⟩
            case measure => simp [intOf]; omega
          · have e' : (R t == (p : Int) + 1) = false := by simp [e]
            have E : Hid (RunOf R n at_ p t) := by
              by_cases ep : p = t
              · exact .inr ⟨ep, ht, fun f' h1 _ => by have : f' = p := by have := hat.out; omega
                                                      subst this; rw [ep]; rw [ep] at e; exact e⟩
              · exact .inl ⟨hat.out, by omega, ht, I.out, fun _ => e⟩
            clear I e H Hr
            generalize R t = z at *
            go_wp2_with fail
            go_ret2
            exact ⟨⟨p, t, rfl, E.out⟩, _, rfl⟩
        · have et : t = n := by omega
          subst et
          have E : Hid (RunOf R t at_ p t) := .inl ⟨hat.out, by omega, Nat.le_refl _, I.out, fun h => by omega⟩
          clear I H Hr
          go_wp2_with fail
          go_ret2
          exact ⟨⟨p, t, rfl, E.out⟩, _, rfl⟩
    · have hm : (16 * (p : Int) + (r : Nat)).tmod 16 = r := by rw [Int.tmod_eq_emod_of_nonneg (by omega)]; omega
      have hm2 : ((r : Int) != 0) = true := by simp; omega
      have hpc := page_in L R V p r w h hp hr
      rw [show (R p != 0) = true from by simp [hne]] at hpc
      have E : Hid (RunOf R L.n (16 * (p : Int) + r) 0 0) := .inr ⟨rfl, by omega, fun f' h1 _ => by omega⟩
      have Hpc := hide hpc
      clear h hne hpc
      generalize 16 * (p : Int) + (r : Nat) = at_ at *
      go_enter Tryd.func31, Tryd.ntmps31
      go_wp2_with fail
      refine Hpc.out.mono ?_
      rintro e w1 ⟨rfl, k1, rfl⟩
      go_wp2_with fail
      go_ret2
      exact ⟨⟨0, 0, rfl, E.out⟩, _, rfl⟩
  · have Hpc := hide (page_not L R V at_ w h hin)
    have E : Hid (RunOf R L.n at_ 0 0) := .inr ⟨rfl, by omega, fun f' h1 h2 h3 => hin ⟨f', 0, by omega, h2, by omega, by omega⟩⟩
    clear h hin
    go_enter Tryd.func31, Tryd.ntmps31
    go_wp2_with fail
    refine Hpc.out.mono ?_
    rintro e w1 ⟨z, rfl, k1, rfl⟩
    go_wp2_with fail
    go_ret2
    exact ⟨⟨0, 0, rfl, E.out⟩, _, rfl⟩

end Go.Proofs.YtndhgdjcbegjdaaDoor.Ck
