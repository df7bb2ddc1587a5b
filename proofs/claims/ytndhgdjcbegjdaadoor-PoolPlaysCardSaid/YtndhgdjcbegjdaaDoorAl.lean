/- The contract of pool's Alloc. -/
import Derived.Test.YtndhgdjcbegjdaaDoorRel
namespace Go.Proofs.YtndhgdjcbegjdaaDoor.Ck
open Go.RowKit

/-- how many pages so many words need -/
def need (z : Int) : Nat := ((z - 1) / 16 + 1).toNat
/-- what Alloc answers, and the runs behind it -/
def AllocRes (R : Nat → Int) (n : Nat) (z : Int) (p : List Addr) (x : Int) (ev : Value) (R' : Nat → Int) : Prop :=
  (z < 1 ∧ x = 0 ∧ ev = errV p 0 ∧ R' = R) ∨ (1 ≤ z ∧ NoGap R n (need z) ∧ x = 0 ∧ ev = errV p 13 ∧ R' = R) ∨
  (1 ≤ z ∧ ∃ f : Nat, IsGap R n (need z) f ∧ x = 16 * (f : Int) ∧ ev = .nilIface ∧ R' = fun k => if f ≤ k ∧ k < f + need z then (f : Int) + 1 else R k)

theorem alloc_any (L : Lay) (R V : Nat → Int) (z : Int) (w : World) (p : List Addr) (h : Ar w L R V) (hp : Errs17 w p) (hz : z ≤ 9223372036854775807) :
    Calls Tryd.prog 21 #[L.ptr, .int .i64 z] w fun e w' => ∃ x ev R', e = .returned (.tuple #[.int .i64 x, ev]) ∧ AllocRes R L.n z p x ev R' ∧ Ar w' L R' V ∧ Upd L w w' := by
  have hn := h.small
  have he0 := eRange hp
  have he13 := eArena hp
  have A := hide h
  by_cases hz1 : z < 1
  · have E : Hid (AllocRes R L.n z p 0 (errV p 0) R) := .inl ⟨hz1, rfl, rfl, rfl⟩
    clear h hp he13
    generalize errV p 0 = ev at *
    go_enter Tryd.func21, Tryd.ntmps21
    go_wp2_with fail
    go_quiet (fail)
    go_wp2_with fail
    go_ret2
    exact ⟨_, _, R, rfl, E.out, A.out.drewN _, Upd.drewN _ _ _⟩
  · have hq : (z - 1).tdiv 16 + 1 = (need z : Nat) := by rw [Int.tdiv_eq_ediv_of_nonneg (by omega)]; unfold need; omega
    have hq2 : (z - 1).tdiv 16 = (need z : Int) - 1 := by omega
    have hc : 0 < need z := by unfold need; omega
    have hc2 : need z ≤ 1000000000000000000 := by unfold need; omega
    have HG := hide (gap_any L R V (need z) w h hc hc2)
    have E13 : Hid (NoGap R L.n (need z) → AllocRes R L.n z p 0 (errV p 13) R) := fun hg => .inr (.inl ⟨by omega, hg, rfl, rfl, rfl⟩)
    have E : Hid (∀ f, IsGap R L.n (need z) f → AllocRes R L.n z p (16 * (f : Int)) .nilIface (fun k => if f ≤ k ∧ k < f + need z then (f : Int) + 1 else R k)) := fun f hg => .inr (.inr ⟨by omega, f, hg, rfl, rfl, rfl⟩)
    clear h hp he0 hq
    generalize need z = c at *
    generalize errV p 13 = ev at *
    go_enter Tryd.func21, Tryd.ntmps21
    go_wp2_with fail
    have ec : (c : Int) - 1 + 1 = c := by omega
    try rw [ec]
    refine HG.out.mono ?_
    rintro e w1 ⟨⟨f, rfl, hg⟩ | ⟨rfl, hg⟩, rfl⟩
    · have hfc : f + c ≤ L.n := hg.1
      have E2 := hide (E.out f hg)
      clear HG E E13 he13 hg
      go_wp2_with fail
      go_loopw [9] (fun i wr => ∃ j : Nat, f ≤ j ∧ j ≤ f + c ∧ i = .int .i64 j ∧ Hid (Ar wr L (fun k => if f ≤ k ∧ k < j then (f : Int) + 1 else R k) V ∧ Upd L w wr)) (fun i _ => f + c - (intOf i).toNat)
      case atStart => exact ⟨f, by omega, by omega, rfl, A.out.congr (fun k _ => by rw [if_neg (by omega)]) (fun _ _ => rfl), Upd.refl _ _⟩
      case round =>
        obtain ⟨j, hj1, hj2, rfl, I⟩ := hrel
        by_cases hj : j < f + c
        · obtain ⟨h1, u1⟩ := I.out
          have hrn := h1.runs
          have hcell := h1.run j (by omega)
          have hfr := h1.runF j (by omega)
          have h2 := h1.setRun j (by omega) ((f : Int) + 1)
          have I2 : Hid (Ar (wr.setCell ⟨L.rb, j, none⟩ (.int .i64 ((f : Int) + 1))) L (fun k => if f ≤ k ∧ k < j + 1 then (f : Int) + 1 else R k) V ∧ Upd L w (wr.setCell ⟨L.rb, j, none⟩ (.int .i64 ((f : Int) + 1)))) :=
            ⟨h2.1.congr (fun k _ => by
              by_cases ek : k = j
              · rw [if_pos ek, if_pos (by omega)]
              · rw [if_neg ek]
                by_cases e3 : f ≤ k ∧ k < j
                · rw [if_pos e3, if_pos (by omega)]
                · rw [if_neg e3, if_neg (by omega)]) (fun _ _ => rfl), u1.trans h2.2⟩
          clear h1 u1 h2 I E2 A
          obtain ⟨ab, ao, pb, po, rb, n⟩ := L
          simp only at hrn hcell hfr hfc hn
          go_wp2_with fail
          go_roundw
          case rel => exact ⟨j + 1, by omega, by omega, by go_num, I2⟩
          case measure => simp [intOf]; omega
        · have e : j = f + c := by omega
          subst e
          clear A
          go_wp2_with fail
          go_ret2
          have e16 : (f : Int) * 16 = 16 * (f : Int) := by omega
          have E3 := E2.out
          rw [← e16] at E3
          exact ⟨_, _, _, rfl, E3, I.out⟩
    · have E2 := hide (E13.out hg)
      clear HG E E13 hg
      go_wp2_with fail
      go_quiet (fail)
      go_wp2_with fail
      go_ret2
      exact ⟨_, _, R, rfl, E2.out, A.out.drewN _, Upd.drewN _ _ _⟩

end Go.Proofs.YtndhgdjcbegjdaaDoor.Ck
