/- The contracts of pool's calls on an arena: Size, Used, Share, Get, Set, Alloc. -/
import Derived.Test.YtndhgdjcbegjdaaDoorRd2
namespace Go.Proofs.YtndhgdjcbegjdaaDoor.Ck
open Go.RowKit

theorem RunOf.le {R : Nat → Int} {n : Nat} {at_ : Int} {f t : Nat} (h : RunOf R n at_ f t) : f ≤ t ∧ t ≤ n := by
  rcases h with ⟨_, h1, h2, _⟩ | ⟨h1, h2, _⟩ <;> omega

theorem size_any (L : Lay) (R V : Nat → Int) (at_ : Int) (w : World) (h : Ar w L R V) :
    Calls Tryd.prog 17 #[L.ptr, .int .i64 at_] w fun e w' => (∃ f t : Nat, e = .returned (.int .i64 (((t : Int) - f) * 16)) ∧ RunOf R L.n at_ f t) ∧ ∃ k, w' = w.drewN k := by
  have hn := h.small
  have Hr := hide (run_any L R V at_ w h)
  clear h
  go_enter Tryd.func17, Tryd.ntmps17
  go_wp2_with fail
  refine Hr.out.mono ?_
  rintro e w1 ⟨⟨f, t, rfl, hr⟩, k1, rfl⟩
  have h1 := hr.le
  have hh := hide hr
  clear hr Hr
  go_wp2_with fail
  go_ret
  exact ⟨⟨f, t, rfl, hh.out⟩, _, rfl⟩

/-- how many of the first k pages are in runs -/
def uc (R : Nat → Int) : Nat → Nat
  | 0 => 0
  | k + 1 => uc R k + if R k = 0 then 0 else 1
theorem uc_le (R : Nat → Int) (k : Nat) : uc R k ≤ k := by
  induction k with
  | zero => exact Nat.le_refl _
  | succ k ih => rw [uc]; split <;> omega

theorem used_any (L : Lay) (R V : Nat → Int) (w : World) (h : Ar w L R V) :
    Calls Tryd.prog 14 #[L.ptr] w fun e w' => e = .returned (.int .i64 (uc R L.n)) ∧ w = w' := by
  obtain ⟨ab, ao, pb, po, rb, n⟩ := L
  have hn := h.small
  have hrn := h.runs
  have H : Hid (∀ i, i < n → w.cell? ⟨rb, i, none⟩ = some (.int .i64 (R i))) := h.run
  simp only at hn hrn ⊢
  clear h
  go_enter Tryd.func14, Tryd.ntmps14
  go_wp2_with fail
  go_loop [3, 11] (fun a i => ∃ k : Nat, k ≤ n ∧ i = .int .i64 k ∧ a = .int .i64 (uc R k)) (fun _ i => n - (intOf i).toNat)
  case atStart => exact ⟨0, Nat.zero_le _, rfl, rfl⟩
  case round =>
    obtain ⟨k, hk, rfl, rfl⟩ := hrel
    have hu := uc_le R k
    by_cases hkn : k < n
    · have hc := H.out k hkn
      by_cases hz : R k = 0
      · have e : Hid (uc R (k + 1) = uc R k) := by show _ = _; rw [uc, if_pos hz]; rfl
        rw [hz] at hc
        clear H hz
        go_wp2_with fail
        go_round
        case rel => exact ⟨k + 1, by omega, by go_num, by rw [e.out]⟩
        case measure => simp [intOf]; omega
      · have e : Hid (uc R (k + 1) = uc R k + 1) := by show _ = _; rw [uc, if_neg hz]
        have hne : (R k != 0) = true := by simp [hz]
        clear H hz
        generalize R k = z at *
        go_wp2_with fail
        go_round
        case rel => exact ⟨k + 1, by omega, by go_num, by rw [e.out]; go_num⟩
        case measure => simp [intOf]; omega
    · have e : k = n := by omega
      subst e
      clear H
      go_wp2_with fail
      go_ret
      exact ⟨rfl, rfl⟩

theorem share_any (L : Lay) (R V : Nat → Int) (w : World) (h : Ar w L R V) :
    Calls Tryd.prog 12 #[L.ptr] w fun e w' => e = .returned (.int .i64 L.n) ∧ w = w' := by
  obtain ⟨ab, ao, pb, po, rb, n⟩ := L
  have hn := h.small
  have hrn := h.pages
  simp only at hn hrn ⊢
  clear h
  go_enter Tryd.func12, Tryd.ntmps12
  go_wp2_with fail
  go_ret
  exact ⟨rfl, rfl⟩

theorem eRange {w : World} {p : List Addr} (h : Errs17 w p) : w.cell? ⟨0, 0, none⟩ = some (errV p 0) := h.cell 0 (by omega)
theorem eNone {w : World} {p : List Addr} (h : Errs17 w p) : w.cell? ⟨7, 0, none⟩ = some (errV p 7) := h.cell 7 (by omega)
theorem eArena {w : World} {p : List Addr} (h : Errs17 w p) : w.cell? ⟨13, 0, none⟩ = some (errV p 13) := h.cell 13 (by omega)

theorem still_drew {w w1 : World} (h : ∃ k, w1 = w.drewN k) (j : Nat) : ∃ k, w1.drewN j = w.drewN k := by
  obtain ⟨k, rfl⟩ := h
  exact ⟨k + j, by simp [World.drewN, Nat.add_assoc]⟩

theorem get_not (L : Lay) (R V : Nat → Int) (at_ : Int) (w : World) (p : List Addr) (h : Ar w L R V) (hp : Errs17 w p) (ho : ¬ InRun R L.n at_) :
    Calls Tryd.prog 29 #[L.ptr, .int .i64 at_] w fun e w' => e = .returned (.tuple #[.int .i64 0, errV p 0]) ∧ ∃ k, w' = w.drewN k := by
  have Hp := hide (page_not L R V at_ w h ho)
  have He : Hid (∀ k, (w.drewN k).cell? ⟨0, 0, none⟩ = some (errV p 0)) := fun k => (show w.cell? _ = _ from eRange hp)
  clear h hp ho
  generalize errV p 0 = ev at *
  go_enter Tryd.func29, Tryd.ntmps29
  go_wp2_with fail
  refine Hp.out.mono ?_
  rintro e w1 ⟨z, rfl, hk1⟩
  have he : w1.cell? ⟨0, 0, none⟩ = some ev := by
    obtain ⟨k1, rfl⟩ := hk1
    exact He.out k1
  have Hk := hide hk1
  clear Hp He hk1
  go_wp2_with fail
  go_quiet (fail)
  go_wp2_with fail
  go_ret2
  exact ⟨rfl, still_drew Hk.out _⟩

theorem get_in (L : Lay) (R V : Nat → Int) (q r : Nat) (w : World) (h : Ar w L R V) (hq : q < L.n) (hr : r < 16) (hne : R q ≠ 0) :
    Calls Tryd.prog 29 #[L.ptr, .int .i64 (16 * (q : Int) + r)] w fun e w' => e = .returned (.tuple #[.int .i64 (V (16 * q + r)), .nilIface]) ∧ ∃ k, w' = w.drewN k := by
  have Hp := page_in L R V q r w h hq hr
  rw [show (R q != 0) = true from by simp [hne]] at Hp
  have Hp := hide Hp
  have hm : (16 * (q : Int) + (r : Nat)).tmod 16 = r := by rw [Int.tmod_eq_emod_of_nonneg (by omega)]; omega
  have hw := h.word (16 * q + r) (by omega)
  have hw2 : Hid (∀ k, (w.drewN k).cell? ⟨L.pb, L.po + q * 16 + r, none⟩ = some (.int .i64 (V (16 * q + r)))) := fun k => by
    rw [show L.po + q * 16 + r = L.po + (16 * q + r) by omega]; exact hw
  have Hr : Hid (∀ k, (w.drewN k).cell? ⟨L.ab, L.ao, none⟩ = some (.slice (some ⟨L.pb, L.po, none⟩) L.n L.n)) := fun k => (h.drewN k).pages
  have hn := h.small
  obtain ⟨ab, ao, pb, po, rb, n⟩ := L
  simp only at hn hq hw2 Hp Hr ⊢
  clear h hne hw
  generalize V (16 * q + r) = z at *
  generalize 16 * (q : Int) + (r : Nat) = at_ at *
  go_enter Tryd.func29, Tryd.ntmps29
  go_wp2_with fail
  refine Hp.out.mono ?_
  rintro e w1 ⟨rfl, k1, rfl⟩
  have hc := hw2.out k1
  have hrn := Hr.out k1
  clear Hp hw2 Hr
  go_wp2_with fail
  go_ret2
  exact ⟨rfl, _, rfl⟩

theorem set_not (L : Lay) (R V : Nat → Int) (at_ v : Int) (w : World) (p : List Addr) (h : Ar w L R V) (hp : Errs17 w p) (ho : ¬ InRun R L.n at_) :
    Calls Tryd.prog 28 #[L.ptr, .int .i64 at_, .int .i64 v] w fun e w' => e = .returned (errV p 0) ∧ ∃ k, w' = w.drewN k := by
  have Hp := hide (page_not L R V at_ w h ho)
  have He : Hid (∀ k, (w.drewN k).cell? ⟨0, 0, none⟩ = some (errV p 0)) := fun k => (show w.cell? _ = _ from eRange hp)
  clear h hp ho
  generalize errV p 0 = ev at *
  go_enter Tryd.func28, Tryd.ntmps28
  go_wp2_with fail
  refine Hp.out.mono ?_
  rintro e w1 ⟨z, rfl, k1, rfl⟩
  have he := He.out k1
  clear Hp He
  go_wp2_with fail
  go_ret
  exact ⟨rfl, k1, rfl⟩

theorem set_in (L : Lay) (R V : Nat → Int) (q r : Nat) (v : Int) (w : World) (h : Ar w L R V) (hq : q < L.n) (hr : r < 16) (hne : R q ≠ 0) :
    Calls Tryd.prog 28 #[L.ptr, .int .i64 (16 * (q : Int) + r), .int .i64 v] w fun e w' => e = .returned .nilIface ∧ Ar w' L R (fun k => if k = 16 * q + r then v else V k) ∧ Upd L w w' := by
  have Hp := page_in L R V q r w h hq hr
  rw [show (R q != 0) = true from by simp [hne]] at Hp
  have Hp := hide Hp
  have hm : (16 * (q : Int) + (r : Nat)).tmod 16 = r := by rw [Int.tmod_eq_emod_of_nonneg (by omega)]; omega
  have hw2 : Hid (∀ k, (w.drewN k).cell? ⟨L.pb, L.po + q * 16 + r, none⟩ = some (.int .i64 (V (16 * q + r))) ∧ (w.drewN k).frozen? ⟨L.pb, L.po + q * 16 + r, none⟩ = false) := fun k => by
    rw [show L.po + q * 16 + r = L.po + (16 * q + r) by omega]; exact ⟨h.word (16 * q + r) (by omega), h.wordF (16 * q + r) (by omega)⟩
  have Hr : Hid (∀ k, (w.drewN k).cell? ⟨L.ab, L.ao, none⟩ = some (.slice (some ⟨L.pb, L.po, none⟩) L.n L.n)) := fun k => (h.drewN k).pages
  have hn := h.small
  have HA : Hid (∀ k, Ar ((w.drewN k).setCell ⟨L.pb, L.po + q * 16 + r, none⟩ (.int .i64 v)) L R (fun j => if j = 16 * q + r then v else V j) ∧ Upd L w ((w.drewN k).setCell ⟨L.pb, L.po + q * 16 + r, none⟩ (.int .i64 v))) := fun k => by
    rw [show L.po + q * 16 + r = L.po + (16 * q + r) by omega]
    have := (h.drewN k).setWord (16 * q + r) (by omega) v
    exact ⟨this.1, (Upd.drewN L w k).trans this.2⟩
  clear h hne
  obtain ⟨ab, ao, pb, po, rb, n⟩ := L
  simp only at hn hq hw2 Hp Hr ⊢
  generalize V (16 * q + r) = z at hw2
  generalize 16 * (q : Int) + (r : Nat) = at_ at hm Hp ⊢
  go_enter Tryd.func28, Tryd.ntmps28
  go_wp2_with fail
  refine Hp.out.mono ?_
  rintro e w1 ⟨rfl, k1, rfl⟩
  have hc := (hw2.out k1).1
  have hf := (hw2.out k1).2
  have hrn := Hr.out k1
  clear Hp hw2 Hr
  go_wp2_with fail
  go_ret
  exact ⟨rfl, HA.out k1⟩

end Go.Proofs.YtndhgdjcbegjdaaDoor.Ck
