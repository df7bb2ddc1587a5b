/- Facts on runs, as the statements ask them; the contract of 'alive'. -/
import Derived.Test.YtndhgdjcbegjdaaDoorSole
namespace Go.Proofs.YtndhgdjcbegjdaaDoor.Ck
open Go.RowKit

theorem size_u (L : Lay) (R V : Nat → Int) (at_ : Int) (w : World) (h : Ar w L R V) :
    Calls Tryd.prog 17 #[L.ptr, .int .i64 at_] w fun e w' => (∃ f t : Nat, e = .returned (.int .i64 (((t : Int) - f) * 16)) ∧ RunOf R L.n at_ f t) ∧ Ar w' L R V ∧ Upd L w w' :=
  (size_any L R V at_ w h).mono fun _ _ ⟨h1, k, h2⟩ => ⟨h1, by rw [h2]; exact h.drewN k, by rw [h2]; exact Upd.drewN L w k⟩
theorem get_not_u (L : Lay) (R V : Nat → Int) (at_ : Int) (w : World) (p : List Addr) (h : Ar w L R V) (hp : Errs17 w p) (ho : ¬ InRun R L.n at_) :
    Calls Tryd.prog 29 #[L.ptr, .int .i64 at_] w fun e w' => e = .returned (.tuple #[.int .i64 0, errV p 0]) ∧ Ar w' L R V ∧ Upd L w w' :=
  (get_not L R V at_ w p h hp ho).mono fun _ _ ⟨h1, k, h2⟩ => ⟨h1, by rw [h2]; exact h.drewN k, by rw [h2]; exact Upd.drewN L w k⟩
theorem get_in_u (L : Lay) (R V : Nat → Int) (at_ : Int) (q r : Nat) (w : World) (h : Ar w L R V) (ha : at_ = 16 * (q : Int) + r) (hq : q < L.n) (hr : r < 16) (hne : R q ≠ 0) :
    Calls Tryd.prog 29 #[L.ptr, .int .i64 at_] w fun e w' => e = .returned (.tuple #[.int .i64 (V (16 * q + r)), .nilIface]) ∧ Ar w' L R V ∧ Upd L w w' := by
  subst ha
  exact (get_in L R V q r w h hq hr hne).mono fun _ _ ⟨h1, k, h2⟩ => ⟨h1, by rw [h2]; exact h.drewN k, by rw [h2]; exact Upd.drewN L w k⟩
theorem set_not_u (L : Lay) (R V : Nat → Int) (at_ v : Int) (w : World) (p : List Addr) (h : Ar w L R V) (hp : Errs17 w p) (ho : ¬ InRun R L.n at_) :
    Calls Tryd.prog 28 #[L.ptr, .int .i64 at_, .int .i64 v] w fun e w' => e = .returned (errV p 0) ∧ Ar w' L R V ∧ Upd L w w' :=
  (set_not L R V at_ v w p h hp ho).mono fun _ _ ⟨h1, k, h2⟩ => ⟨h1, by rw [h2]; exact h.drewN k, by rw [h2]; exact Upd.drewN L w k⟩
theorem set_in_u (L : Lay) (R V : Nat → Int) (at_ : Int) (q r : Nat) (v : Int) (w : World) (h : Ar w L R V) (ha : at_ = 16 * (q : Int) + r) (hq : q < L.n) (hr : r < 16) (hne : R q ≠ 0) :
    Calls Tryd.prog 28 #[L.ptr, .int .i64 at_, .int .i64 v] w fun e w' => e = .returned .nilIface ∧ Ar w' L R (fun k => if k = 16 * q + r then v else V k) ∧ Upd L w w' := by
  subst ha
  exact set_in L R V q r v w h hq hr hne

theorem IsGap.uniq {R : Nat → Int} {n c f g : Nat} (h : IsGap R n c f) (k : IsGap R n c g) : f = g := by
  rcases Nat.lt_trichotomy f g with e | e | e
  · exact absurd h.2.1 (k.2.2 f e)
  · exact e
  · exact absurd k.2.1 (h.2.2 g e)
theorem AllocRes.ok {R R' : Nat → Int} {n : Nat} {z x : Int} {p : List Addr} {ev : Value} (h : AllocRes R n z p x ev R') (hz : 1 ≤ z) {f : Nat} (hg : IsGap R n (need z) f) :
    x = 16 * (f : Int) ∧ ev = .nilIface ∧ R' = fun k => if f ≤ k ∧ k < f + need z then (f : Int) + 1 else R k := by
  rcases h with ⟨h, _⟩ | ⟨_, h, _⟩ | ⟨_, g, h1, h2, h3, h4⟩
  · omega
  · exact absurd hg.2.1 (h f hg.1)
  · obtain rfl := h1.uniq hg
    exact ⟨h2, h3, h4⟩
theorem AllocRes.no {R R' : Nat → Int} {n : Nat} {z x : Int} {p : List Addr} {ev : Value} (h : AllocRes R n z p x ev R') (hz : 1 ≤ z) (hg : NoGap R n (need z)) : x = 0 ∧ ev = errV p 13 ∧ R' = R := by
  rcases h with ⟨h, _⟩ | ⟨_, h, h1, h2, h3⟩ | ⟨_, g, h1, _⟩
  · omega
  · exact ⟨h1, h2, h3⟩
  · exact absurd h1.2.1 (hg g h1.1)
theorem IsEnd.uniq {R : Nat → Int} {n f t u : Nat} (h : IsEnd R n f t) (k : IsEnd R n f u) : t = u := by
  obtain ⟨h1, h2, h3, h4⟩ := h
  obtain ⟨k1, k2, k3, k4⟩ := k
  rcases Nat.lt_trichotomy t u with e | e | e
  · exact absurd (k3 t (by omega) e) (h4 (by omega))
  · exact e
  · exact absurd (h3 u (by omega) e) (k4 (by omega))
theorem RunOf.ok {R : Nat → Int} {n : Nat} {at_ : Int} {f t f' t' : Nat} (h : RunOf R n at_ f t) (ha : at_ = 16 * (f' : Int)) (k : IsEnd R n f' t') : f = f' ∧ t = t' := by
  rcases h with ⟨h1, h2⟩ | ⟨h1, h2, h3⟩
  · obtain rfl : f = f' := by omega
    exact ⟨rfl, h2.uniq k⟩
  · have := k.1
    have := k.2.1
    exact absurd (k.2.2.1 f' (by omega) (by omega)) (h3 f' ha (by omega))
theorem RunOf.no {R : Nat → Int} {n : Nat} {at_ : Int} {f t : Nat} (h : RunOf R n at_ f t) (k : ∀ f' : Nat, at_ = 16 * (f' : Int) → f' < n → R f' ≠ (f' : Int) + 1) : f = t := by
  rcases h with ⟨h1, h2⟩ | ⟨h1, _⟩
  · have := h2.1
    have := h2.2.1
    exact absurd (h2.2.2.1 f (by omega) (by omega)) (k f h1 (by omega))
  · exact h1

theorem need17 : need 17 = 2 := by decide
theorem need1 : need 1 = 1 := by decide
theorem need16 : need 16 = 1 := by decide

def R1 (k : Nat) : Int := if k < 2 then 1 else 0
def R2 (k : Nat) : Int := if k < 2 then 1 else if k < 3 then 3 else 0
def R3 (k : Nat) : Int := if k < 2 then 0 else if k < 3 then 3 else 0

theorem gap_zero (n c : Nat) (h : c ≤ n) : IsGap (fun _ => 0) n c 0 := ⟨by omega, fun _ _ _ => rfl, fun f' h => by omega⟩
theorem gap_R1 : IsGap R1 3 (need 1) 2 := by
  rw [need1]
  refine ⟨by omega, fun k h1 h2 => by unfold R1; rw [if_neg (by omega)], fun f' h hf => ?_⟩
  have := hf f' (by omega) (by omega)
  unfold R1 at this
  rw [if_pos (by omega)] at this
  omega
theorem gap_R2 : NoGap R2 3 (need 1) := by
  rw [need1]
  intro f' h hf
  have := hf f' (by omega) (by omega)
  unfold R2 at this
  split at this
  · omega
  · rw [if_pos (by omega)] at this
    omega
theorem gap_R3 : IsGap R3 3 (need 16) 0 := by
  rw [need16]
  exact ⟨by omega, fun k h1 h2 => by unfold R3; rw [if_pos (by omega)], fun f' h => by omega⟩
theorem end_R2 : IsEnd R2 3 0 2 := ⟨by omega, by omega, fun k h1 h2 => by unfold R2; rw [if_pos (by omega)]; rfl, fun _ => by decide⟩

set_option maxHeartbeats 1000000 in
theorem alive_any (w : World) (p : List Addr) (hp : Errs17 w p) :
    Calls Tryd.prog 4 #[] w fun e w' => e = .returned (.bool true) ∧ Below w.heap.size w w' := by
  go_enter Tryd.func4, Tryd.ntmps4
  go_wp2_with fail
  refine (new_ok 8 [3, 2] _ _ (built2 w 3 2 (by omega) (by omega) (by omega) (by omega)) may_82).mono ?_
  rintro e w1 ⟨⟨x, rfl, pp, pb, qb, rb, rfl, hP⟩, hb1⟩
  have b1 := bel_trans (bel_new w _) hb1
  have HP := hide hP
  clear hP hb1
  go_wp2_with fail
  refine (arena_ok HP.out _ 0 rfl (by simp) (by simp)).mono ?_
  rintro e w2 ⟨rfl, rfl⟩
  have hA := HP.out.ar 0 (by simp)
  have hM := HP.out.mine 0 (by simp)
  have hsz : (w.alloc (.cells #[.int .i64 3, .int .i64 2] 3)).heap.size = w.heap.size + 1 := by simp
  have hM : Mine w.heap.size (lay qb pb [3, 2] rb 0) := by rw [hsz] at hM; exact ⟨by have := hM.1; omega, by have := hM.2; omega⟩
  have hn : (lay qb pb [3, 2] rb 0).n = 3 := by simp [lay, sh]
  clear HP hsz
  generalize lay qb pb [3, 2] rb 0 = L at *
  go_wp2_with fail
  refine (alloc_any L _ _ 17 _ p hA (hp.below (Nat.le_refl _) b1) (by omega)).mono ?_
  rintro e w3 ⟨x3, e3, R', rfl, hr3, hA3, u3⟩
  obtain ⟨rfl, rfl, rfl⟩ := hr3.ok (by omega) (f := 0) (by rw [hn, need17]; exact gap_zero 3 2 (by omega))
  have b3 := b1.trans (hM.bel u3)
  have hA3' : Ar w3 L R1 (fun _ => 0) := hA3.congr (fun k _ => by unfold R1; rw [need17]; by_cases h : k < 2 <;> simp [h]) (fun _ _ => rfl)
  clear hr3 hA3 u3 hA b1
  go_wp2_with fail
  refine (alloc_any L _ _ 1 _ p hA3' (hp.below (Nat.le_refl _) b3) (by omega)).mono ?_
  rintro e w4 ⟨x4, e4, R', rfl, hr4, hA4, u4⟩
  obtain ⟨rfl, rfl, rfl⟩ := hr4.ok (by omega) (f := 2) (by rw [hn]; exact gap_R1)
  have b4 := b3.trans (hM.bel u4)
  have hA4' : Ar w4 L R2 (fun _ => 0) := hA4.congr (fun k _ => by
    unfold R2 R1
    rw [need1]
    by_cases h : k < 2
    · rw [if_neg (by omega), if_pos h, if_pos h]
    · by_cases h2 : k < 3
      · rw [if_pos (by omega), if_neg h, if_pos h2]; rfl
      · rw [if_neg (by omega), if_neg h, if_neg h, if_neg h2]) (fun _ _ => rfl)
  clear hr4 hA4 u4 hA3' b3
  go_wp2_with fail
  refine (alloc_any L _ _ 1 _ p hA4' (hp.below (Nat.le_refl _) b4) (by omega)).mono ?_
  rintro e w5 ⟨x5, e5, R', rfl, hr5, hA5, u5⟩
  obtain ⟨rfl, rfl, rfl⟩ := hr5.no (by omega) (by rw [hn]; exact gap_R2)
  have b5 := b4.trans (hM.bel u5)
  clear hr5 u5 hA4' b4
  go_wp2_with fail
  refine (free_any L _ _ 0 _ p hA5 (hp.below (Nat.le_refl _) b5)).mono ?_
  rintro e w6 ⟨f6, t6, hr6, rfl, hA6, u6⟩
  obtain ⟨rfl, rfl⟩ := hr6.ok (f' := 0) (t' := 2) (by omega) (by rw [hn]; exact end_R2)
  have b6 := b5.trans (hM.bel u6)
  have hA6' : Ar w6 L R3 (fun _ => 0) := hA6.congr (fun k _ => by
    unfold R3 R2
    by_cases h : k < 2
    · rw [if_pos (by omega), if_pos h]
    · rw [if_neg (by omega), if_neg h, if_neg h]) (fun k _ => by split <;> rfl)
  have e6 : (if 0 < 2 then Value.nilIface else errV p 7) = .nilIface := by simp
  rw [e6]
  clear hr6 u6 hA6 hA5 b5 e6
  go_wp2_with fail
  refine (alloc_any L _ _ 16 _ p hA6' (hp.below (Nat.le_refl _) b6) (by omega)).mono ?_
  rintro e w7 ⟨x7, e7, R', rfl, hr7, hA7, u7⟩
  obtain ⟨rfl, rfl, rfl⟩ := hr7.ok (by omega) (f := 0) (by rw [hn]; exact gap_R3)
  have b7 := b6.trans (hM.bel u7)
  clear hr7 u7 hA7 hA6' b6
  go_wp2_with fail
  refine (num_err p 13 _ (hp.below (Nat.le_refl _) b7) (by omega)).mono ?_
  rintro e w8 ⟨rfl, hb8⟩
  have b8 := bel_trans b7 hb8
  clear hb8
  go_wp2_with fail
  go_ret
  exact ⟨rfl, b8⟩

end Go.Proofs.YtndhgdjcbegjdaaDoor.Ck
