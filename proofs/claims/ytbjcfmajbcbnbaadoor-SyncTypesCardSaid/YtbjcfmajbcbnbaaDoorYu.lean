/- The walk of the statement SyncLocks. (Written by mk_y.py.) -/
import Derived.Test.YtbjcfmajbcbnbaaDoorYt
namespace Go.Proofs.YtbjcfmajbcbnbaaDoor.Ck
open Go.RowKit

/-- a state of mutexes, and an array of bools beside it -/
def Lk (w wr : World) (g gl : Nat) (M L : List Bool) : Prop := ∃ F, Stt wr F g ⟨[], M, [], []⟩ ∧ (∀ k, F k → w.heap.size ≤ k) ∧ ¬ F gl ∧ wr.heap[gl]? = some (.cells (L.map Value.bool).toArray 66 (0, 0)) ∧ w.heap.size ≤ gl ∧ Below w.heap.size w wr
section
variable {w wr : World} {g gl : Nat} {M L : List Bool}
theorem Lk.cell (h : Lk w wr g gl M L) (m : Nat) (x : Bool) (hx : L[m]? = some x) : wr.cell? ⟨gl, m, none⟩ = some (.bool x) ∧ wr.frozen? ⟨gl, m, none⟩ = false := by
  obtain ⟨F, _, _, _, h1, _⟩ := h
  exact ⟨blk_cell h1 m _ (by simp [hx]), blk_frz h1 _⟩
theorem Lk.bel' (h : Lk w wr g gl M L) {w' : World} (hb : Below wr.heap.size wr w') : Lk w w' g gl M L := by
  obtain ⟨F, h1, h2, h3, h4, h5, h6⟩ := h
  exact ⟨F, h1.bel hb, h2, h3, (hb.block gl (lt_of_blk h4)).trans h4, h5, bel_trans h6 hb⟩
theorem Lk.set (h : Lk w wr g gl M L) (m : Nat) (y : Bool) : Lk w (wr.setCell ⟨gl, m, none⟩ (.bool y)) g gl M (L.set m y) := by
  obtain ⟨F, ⟨vP, vM, vC, vA, vs, h1⟩, h2, h3, h4, h5, h6⟩ := h
  refine ⟨F, ⟨_, _, _, _, _, h1.keep (fun k hk => Below.heap_setCell _ _ _ _ (fun e => h3 (by have e2 : k = gl := e; rw [← e2]; exact hk))) (by rw [size_setCell]; exact Nat.le_refl _)⟩, h2, h3, ?_, h5, h6.setCell (p := ⟨gl, m, none⟩) h5 _⟩
  rw [heap_setCell_same wr gl m _ _ _ h4]
  simp [List.map_set]
theorem Lk.step (F F' : Nat → Prop) {w' : World} {M' : List Bool} (h2 : ∀ k, F k → w.heap.size ≤ k) (h3 : ¬ F gl) (h4 : wr.heap[gl]? = some (.cells (L.map Value.bool).toArray 66 (0, 0))) (h5 : w.heap.size ≤ gl) (h6 : Below w.heap.size w wr) (hs : Stt w' F' g ⟨[], M', [], []⟩) (hc : Ch F F' wr w') : Lk w w' g gl M' L :=
  ⟨F', hs, hc.low h2 h6.size, fun e => by
    rcases hc.grow gl e with h | h
    · exact h3 h
    · have := lt_of_blk h4
      omega, (hc.blk gl (lt_of_blk h4) h3).trans h4, h5, h6.trans (hc.bel h2 h6.size)⟩
theorem Lk.lock (h : Lk w wr g gl M L) (m : Nat) (x : Bool) (hx : M[m]? = some x) : Calls Tryd.prog 26 #[.pointer (some ⟨g, 0, none⟩), .int .i64 (m : Nat)] wr fun e w' => e = .returned (.tuple #[.bool (!x), .nilIface]) ∧ Lk w w' g gl (M.set m true) L := by
  obtain ⟨F, h1, h2, h3, h4, h5, h6⟩ := h
  exact (Lock_in h1 m x hx).mono fun e w' ⟨he, F', hs, hc⟩ => ⟨he, Lk.step F F' h2 h3 h4 h5 h6 hs hc⟩
theorem Lk.unlock (h : Lk w wr g gl M L) (m : Nat) (x : Bool) (hx : M[m]? = some x) : Calls Tryd.prog 27 #[.pointer (some ⟨g, 0, none⟩), .int .i64 (m : Nat)] wr fun e w' => e = .returned (.tuple #[.bool x, .nilIface]) ∧ Lk w w' g gl (M.set m false) L := by
  obtain ⟨F, h1, h2, h3, h4, h5, h6⟩ := h
  exact (Unlock_in h1 m x hx).mono fun e w' ⟨he, F', hs, hc⟩ => ⟨he, Lk.step F F' h2 h3 h4 h5 h6 hs hc⟩
theorem Lk.locked (h : Lk w wr g gl M L) (m : Nat) (x : Bool) (hx : M[m]? = some x) : Calls Tryd.prog 16 #[.pointer (some ⟨g, 0, none⟩), .int .i64 (m : Nat)] wr fun e w' => e = .returned (.bool x) ∧ wr = w' := by
  obtain ⟨F, h1, _⟩ := h
  exact Locked_in h1 m x hx
end
theorem mod_small (y : Int) (n : Nat) (h0 : 0 < n) (h1 : n ≤ 1000) : ∃ m : Nat, m < n ∧ wrap64 ((IntKind.u64.wrap y).tmod n) = m := by
  have e : IntKind.u64.wrap y = y % 18446744073709551616 := rfl
  have e2 : (IntKind.u64.wrap y).tmod n = (y % 18446744073709551616) % (n : Int) := by rw [e]; exact Int.tmod_eq_emod_of_nonneg (by omega)
  rw [e2]
  have h2 : 0 ≤ (y % 18446744073709551616) % (n : Int) := Int.emod_nonneg _ (by omega)
  have h3 : (y % 18446744073709551616) % (n : Int) < n := Int.emod_lt_of_pos _ (by omega)
  obtain ⟨m, hm⟩ := Int.eq_ofNat_of_zero_le h2
  refine ⟨m, by omega, ?_⟩
  rw [hm]
  unfold wrap64
  omega
set_option maxRecDepth 20000 in
set_option maxHeartbeats 2000000 in
theorem locks_main (vS : Value) (zs : List Int) {w : World} {p : List Addr} (h17 : E2 w p) (hS : Sl w vS zs) : Calls Tryd.prog 5 #[vS] w (Vb w (.bool true)) := by
  obtain ⟨aS, n, cS, rfl, hn⟩ := hS.slice
  have HS := hide (fun i hi => hS.at i hi)
  have AL := hide (alive_any h17)
  clear hS h17 hn
  go_enter Tryd.func5, Tryd.ntmps5
  go_wp2_with fail
  refine AL.out.mono ?_
  rintro e w1 ⟨rfl, hb1⟩
  have NW := hide (new_ok (.slice none 0 0) (.slice none 0 0) [] [] 3 0 (Sl.nilS w1) (SlC.nilS w1) rfl)
  have B1 := hide hb1
  clear hb1 AL
  go_wp2_with fail
  refine NW.out.mono ?_
  rintro e w2 ⟨g, F, rfl, h2, hl, hb⟩
  have L0 : Hid (Lk w (w2.alloc (.cells #[.bool false, .bool false, .bool false] 66)) g w2.heap.size [false, false, false] [false, false, false]) := hide ⟨F, h2.bel (bel_new _ _), fun k hk => Nat.le_trans B1.out.size (hl k hk), fun e => by have := h2.fb _ e; omega, Go.Deep.blk_alloc_new _ _, Nat.le_trans B1.out.size hb.size, bel_al (bel_trans B1.out hb) _⟩
  clear h2 hl hb NW B1
  go_wp2_with fail
  generalize w2.alloc (.cells #[.bool false, .bool false, .bool false] 66) = w3 at *
  generalize w2.heap.size = gl at *
  go_loopw [6, 7, 8, 9, 10, 11, 12, 13, 29, 77] (fun x6 x7 x8 x9 x10 x11 x12 x13 i x77 wr => ∃ k : Nat, k ≤ n ∧ i = .int .i64 k ∧ Hid (∃ M, M.length = 3 ∧ Lk w wr g gl M M)) (fun x6 x7 x8 x9 x10 x11 x12 x13 i x77 _ => n - (intOf i).toNat)
  case atStart => exact ⟨0, Nat.zero_le _, rfl, _, rfl, L0.out⟩
  case round =>
    obtain ⟨k, hk, rfl, M1⟩ := hrel
    clear L0
    by_cases hlt : k < n
    · have hlt' : (k : Int) < (n : Int) := by omega
      obtain ⟨b1, o1, rfl, hb1, hc1⟩ := HS.out k hlt
      obtain ⟨M, hM, LK⟩ := M1.out
      have LB : Below w.heap.size w wr := by obtain ⟨F, _, _, _, _, _, h6⟩ := LK; exact h6
      have hcr := (LB.cell (p := ⟨b1, o1 + k, none⟩) hb1).trans hc1
      have LK1 := hide LK
      have HM := hide hM
      have LB1 := hide LB
      clear M1 hc1 LK LB hM
      generalize zs.getD k 0 = y at *
      by_cases h200 : 200 < k
      · have h200' : (200 : Int) < (k : Int) := by omega
        go_wp2_with fail
        go_ret
        exact Vb.mk rfl LB1.out
      · have h200' : (k : Int) ≤ 200 := by omega
        obtain ⟨m, hm3, hmd⟩ := mod_small y 3 (by omega) (by omega)
        obtain ⟨x, hx⟩ : ∃ x, M[m]? = some x := ⟨_, List.getElem?_eq_getElem (by have := HM.out; omega)⟩
        have hmd' : wrap64 ((IntKind.u64.wrap y).tmod 3) = (m : Int) := hmd
        clear hmd
        have HX := hide hx
        have hm0 : (m : Int) < 3 := by omega
        clear hx
        obtain ⟨b4, hb4⟩ : ∃ b, (bits .and .i64 y 4 == 0) = b := ⟨_, rfl⟩
        cases b4 with
        | true =>
          go_wp2_with fail
          refine (LK1.out.lock m x HX.out).mono ?_
          rintro e w5 ⟨rfl, h5⟩
          obtain ⟨d5, f5⟩ := h5.cell m x HX.out
          have L6 := hide (h5.set m true)
          have HM2 : Hid ((M.set m true).length = 3) := hide (by simp; exact HM.out)
          clear h5 LK1
          cases x
          all_goals
            go_wp2_with fail
            generalize w5.setCell ⟨gl, m, none⟩ (.bool true) = w6 at *
            generalize M.set m true = M' at *
            go_loopw [13, 77] (fun x13 j wq => ∃ t : Nat, t ≤ 3 ∧ j = .int .i64 t ∧ Hid (Lk w wq g gl M' M')) (fun x13 j _ => 3 - (intOf j).toNat)
            case atStart => exact ⟨0, Nat.zero_le _, rfl, L6⟩
            case round =>
              obtain ⟨t, ht, rfl, L7⟩ := hrel
              clear L6
              by_cases ht3 : t < 3
              · have ht' : (t : Int) < 3 := by omega
                obtain ⟨z, hz⟩ : ∃ z, M'[t]? = some z := ⟨_, List.getElem?_eq_getElem (by have := HM2.out; omega)⟩
                have LQ := hide (fun n => (L7.out.bel' (below_drewN (Below.refl _ _) n)).locked t z hz)
                obtain ⟨d7, f7⟩ := L7.out.cell t z hz
                clear hz
                cases z
                all_goals
                  go_wp2_with fail
                  go_quiet ((go_at_call 16; exact Calls.quiet_of_same ((LQ.out _).mono fun _ _ h => ⟨h.1, h.2.symm⟩)))
                  go_wp2_with fail
                  go_roundw
                  case rel => exact ⟨t + 1, by omega, by go_num, L7.out.bel' (below_drewN (Below.refl _ _) _)⟩
                  case measure => simp [intOf]; omega
              · obtain rfl : t = 3 := by omega
                go_wp2_with fail
                go_roundw
                case rel => exact ⟨k + 1, by omega, by go_num, M', HM2.out, L7.out⟩
                case measure => simp [intOf]; omega
        | false =>
          go_wp2_with fail
          refine (LK1.out.unlock m x HX.out).mono ?_
          rintro e w5 ⟨rfl, h5⟩
          obtain ⟨d5, f5⟩ := h5.cell m x HX.out
          have L6 := hide (h5.set m false)
          have HM2 : Hid ((M.set m false).length = 3) := hide (by simp; exact HM.out)
          clear h5 LK1
          cases x
          all_goals
            go_wp2_with fail
            generalize w5.setCell ⟨gl, m, none⟩ (.bool false) = w6 at *
            generalize M.set m false = M' at *
            go_loopw [13, 77] (fun x13 j wq => ∃ t : Nat, t ≤ 3 ∧ j = .int .i64 t ∧ Hid (Lk w wq g gl M' M')) (fun x13 j _ => 3 - (intOf j).toNat)
            case atStart => exact ⟨0, Nat.zero_le _, rfl, L6⟩
            case round =>
              obtain ⟨t, ht, rfl, L7⟩ := hrel
              clear L6
              by_cases ht3 : t < 3
              · have ht' : (t : Int) < 3 := by omega
                obtain ⟨z, hz⟩ : ∃ z, M'[t]? = some z := ⟨_, List.getElem?_eq_getElem (by have := HM2.out; omega)⟩
                have LQ := hide (fun n => (L7.out.bel' (below_drewN (Below.refl _ _) n)).locked t z hz)
                obtain ⟨d7, f7⟩ := L7.out.cell t z hz
                clear hz
                cases z
                all_goals
                  go_wp2_with fail
                  go_quiet ((go_at_call 16; exact Calls.quiet_of_same ((LQ.out _).mono fun _ _ h => ⟨h.1, h.2.symm⟩)))
                  go_wp2_with fail
                  go_roundw
                  case rel => exact ⟨t + 1, by omega, by go_num, L7.out.bel' (below_drewN (Below.refl _ _) _)⟩
                  case measure => simp [intOf]; omega
              · obtain rfl : t = 3 := by omega
                go_wp2_with fail
                go_roundw
                case rel => exact ⟨k + 1, by omega, by go_num, M', HM2.out, L7.out⟩
                case measure => simp [intOf]; omega
    · obtain rfl : k = n := by omega
      obtain ⟨M, hM, LK⟩ := M1.out
      have LB : Hid (Below w.heap.size w wr) := by obtain ⟨F, _, _, _, _, _, h6⟩ := LK; exact h6
      clear LK M1
      go_wp2_with fail
      go_ret
      exact Vb.mk rfl LB.out
end Go.Proofs.YtbjcfmajbcbnbaaDoor.Ck
