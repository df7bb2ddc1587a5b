/- Package order: a place's spot; which earlier access a race is told of (newSpot, finder.first). (Written by mk_o.py.) -/
import Derived.Test.YticgmebbnnmikaaDoorOf
namespace Go.Proofs.YticgmebbnnmikaaDoor.Ck
open Go.RowKit

/-- a place's spot -/
structure Sp where
  rd : Nat → Int
  wr : Nat → Int
  ra : Bool
def spV (s : Sp) : Value := .agg #[.int .i64 (s.rd 0), .int .i64 (s.rd 1), .int .i64 (s.rd 2), .int .i64 (s.rd 3), .int .i64 (s.rd 4), .int .i64 (s.rd 5), .int .i64 (s.rd 6), .int .i64 (s.rd 7), .int .i64 (s.wr 0), .int .i64 (s.wr 1), .int .i64 (s.wr 2), .int .i64 (s.wr 3), .int .i64 (s.wr 4), .int .i64 (s.wr 5), .int .i64 (s.wr 6), .int .i64 (s.wr 7), .bool s.ra]
def sp1 : Sp := ⟨fun _ => -1, fun _ => -1, false⟩
def spK (k : Nat) : Sp := ⟨fun i => if i < k then -1 else 0, fun i => if i < k then -1 else 0, false⟩
def spC (s : Sp) : Array Value := #[.int .i64 (s.rd 0), .int .i64 (s.rd 1), .int .i64 (s.rd 2), .int .i64 (s.rd 3), .int .i64 (s.rd 4), .int .i64 (s.rd 5), .int .i64 (s.rd 6), .int .i64 (s.rd 7), .int .i64 (s.wr 0), .int .i64 (s.wr 1), .int .i64 (s.wr 2), .int .i64 (s.wr 3), .int .i64 (s.wr 4), .int .i64 (s.wr 5), .int .i64 (s.wr 6), .int .i64 (s.wr 7), .bool s.ra]
theorem spK_step (k : Nat) (hk : k < 8) : ((spC (spK k)).setIfInBounds k (.int .i64 (-1))).setIfInBounds (8 + k) (.int .i64 (-1)) = spC (spK (k + 1)) := by
  rcases (by omega : k = 0 ∨ k = 1 ∨ k = 2 ∨ k = 3 ∨ k = 4 ∨ k = 5 ∨ k = 6 ∨ k = 7) with rfl | rfl | rfl | rfl | rfl | rfl | rfl | rfl <;> rfl
theorem spC_one (s : Sp) : (spC s).all (·.oneCell') = true := by simp [spC, Value.oneCell']
theorem spC_info (s : Sp) : (Tryd.prog.info? 115).map (·.size) = some (spC s).size := by
  rw [show (spC s).size = 17 from rfl]
  kernel_rfl
theorem spK_at (k : Nat) (hk : k < 8) : (spC (spK k))[k]? = some (.int .i64 0) ∧ (spC (spK k))[8 + k]? = some (.int .i64 0) := by
  rcases (by omega : k = 0 ∨ k = 1 ∨ k = 2 ∨ k = 3 ∨ k = 4 ∨ k = 5 ∨ k = 6 ∨ k = 7) with rfl | rfl | rfl | rfl | rfl | rfl | rfl | rfl <;> exact ⟨rfl, rfl⟩
def NS (w wr : World) (k : Nat) : Prop := Below w.heap.size w wr ∧ wr.heap[w.heap.size]? = some (.cells (spC (spK 0)) 115 (0, 0)) ∧ wr.heap[w.heap.size + 1]? = some (.cells (spC (spK k)) 115 (0, 0))
theorem NS.start (w : World) : NS w ((w.alloc (.cells (spC (spK 0)) 115)).alloc (.cells (spC (spK 0)) 115)) 0 := by
  refine ⟨bel_al (bel_new w _) _, ?_, ?_⟩
  · have b := bel_new (w.alloc (.cells (spC (spK 0)) 115)) (.cells (spC (spK 0)) 115)
    exact (b.block w.heap.size (by simp)).trans (Go.Deep.blk_alloc_new w _)
  · have := Go.Deep.blk_alloc_new (w.alloc (.cells (spC (spK 0)) 115)) (.cells (spC (spK 0)) 115)
    simpa using this
theorem NS.again {w wr : World} (h : NS w wr 0) : NS w (wr.setRow (w.heap.size + 1) (spC (spK 0))) 0 := by
  obtain ⟨h1, h2, h3⟩ := h
  exact ⟨⟨h1.os, h1.tape, h1.output, by rw [setRow_size]; exact h1.size, fun k hk => (setRow_other _ _ _ _ (by omega)).trans (h1.block k hk)⟩, (setRow_other _ _ _ _ (by omega)).trans h2, setRow_heap _ _ _ _ _ _ h3⟩
theorem NS.step {w wr : World} {k : Nat} (h : NS w wr k) (hk : k < 8) : NS w ((wr.setCell ⟨w.heap.size + 1, k, none⟩ (.int .i64 (-1))).setCell ⟨w.heap.size + 1, 8 + k, none⟩ (.int .i64 (-1))) (k + 1) := by
  obtain ⟨h1, h2, h3⟩ := h
  refine ⟨(h1.setCell (by show w.heap.size ≤ w.heap.size + 1; omega) _).setCell (by show w.heap.size ≤ w.heap.size + 1; omega) _, ?_, ?_⟩
  · rw [Below.heap_setCell _ _ _ _ (by show w.heap.size ≠ w.heap.size + 1; omega), Below.heap_setCell _ _ _ _ (by show w.heap.size ≠ w.heap.size + 1; omega)]
    exact h2
  · have e := heap_setCell_same _ (w.heap.size + 1) (8 + k) _ _ (.int .i64 (-1)) (heap_setCell_same wr (w.heap.size + 1) k _ _ (.int .i64 (-1)) h3)
    rw [spK_step k hk] at e
    exact e
set_option maxRecDepth 20000 in
set_option maxHeartbeats 2000000 in
theorem newSpot_any (w : World) : Calls Tryd.prog 53 #[] w (Vb w (spV sp1)) := by
  have N0 := hide (NS.start w)
  have zz := N0.out.2.2
  go_enter Tryd.func53, Tryd.ntmps53
  go_upto_region 1 with fail
  go_wp2_with (first | (refine wpList_store_row rfl 115 (.tmp 1) (.tmp 3) rfl (w.heap.size + 1) (spC (spK 0)) rfl rfl _ _ zz (spC_info _) rfl (spC_one _) ?_))
  go_loopw [4] (fun x4 wr => ∃ k : Nat, k ≤ 8 ∧ x4 = .int .i64 (k : Nat) ∧ Hid (NS w wr k)) (fun x4 _ => 8 - (intOf x4).toNat)
  case atStart => exact ⟨0, by omega, rfl, hide N0.out.again⟩
  case round =>
    obtain ⟨k, hk, rfl, hN⟩ := hrel
    by_cases hlt : k < 8
    · have hk' : (k : Int) < 8 := by omega
      have z := hN.out.2.2
      have c0 := blk_cell z k _ (spK_at k hlt).1
      have c1 := blk_cell z (8 + k) _ (spK_at k hlt).2
      have f0 := blk_frz z k
      have f1 := blk_frz z (8 + k)
      have N2 := hide (hN.out.step hlt)
      clear z hN N0
      go_wp2_with fail
      go_roundw
      case rel => exact ⟨k + 1, by omega, by go_num, N2⟩
      case measure => simp [intOf]; omega
    · obtain rfl : k = 8 := by omega
      have B := hide hN.out.1
      have z := hN.out.2.2
      have y := hN.out.2.1
      clear N0 hN
      go_wp2_with (first | (refine wpList_load_row rfl 115 (.tmp 1) rfl (w.heap.size + 1) rfl _ _ _ _ z Tryd.underlying115 rfl (spC_info _) ?_) | (refine wpList_store_row rfl 115 (.tmp 0) (.tmp 14) rfl w.heap.size (spC (spK 8)) rfl rfl _ _ y (spC_info _) rfl (spC_one _) ?_))
      refine ret_agg w.heap.size _ rfl rfl rfl (setRow_heap _ _ _ _ _ _ y) Tryd.underlying115 (spC_info _) rfl ⟨rfl, ?_⟩
      exact ⟨B.out.os, B.out.tape, B.out.output, by rw [setRow_size]; exact B.out.size, fun k hk => (setRow_other _ _ _ _ (by omega)).trans (B.out.block k hk)⟩

/-- where accesses stand that the trace has -/
def SpOk (s : Sp) (n : Nat) : Prop := ∀ i, i < 8 → (s.rd i = -1 ∨ 0 ≤ s.rd i ∧ s.rd i < n) ∧ (s.wr i = -1 ∨ 0 ≤ s.wr i ∧ s.wr i < n)
/-- of the first k writes the last one that an event doesn't know -/
def lastM (T : List Ev) (ps : List Sn) (s : Sp) (at_ : Nat) : Nat → Int
  | 0 => -1
  | k + 1 => if unkM T ps (s.wr k) at_ = true then max (lastM T ps s at_ k) (s.wr k) else lastM T ps s at_ k
/-- of r reads before the eighth the first one that an event doesn't know -/
def readF (T : List Ev) (ps : List Sn) (s : Sp) (at_ : Nat) : Nat → Int
  | 0 => -1
  | r + 1 => if unkM T ps (s.rd (8 - (r + 1))) at_ = true then s.rd (8 - (r + 1)) else readF T ps s at_ r
def firstM (T : List Ev) (ps : List Sn) (s : Sp) (at_ : Nat) : Int :=
  if lastM T ps s at_ 8 ≠ -1 ∨ (T.getD at_ zE).k = 1 then lastM T ps s at_ 8 else readF T ps s at_ 8
theorem lastM_at (T : List Ev) (ps : List Sn) (s : Sp) (at_ : Nat) (n : Nat) (h : SpOk s n) : ∀ k, k ≤ 8 → lastM T ps s at_ k = -1 ∨ 0 ≤ lastM T ps s at_ k ∧ lastM T ps s at_ k < n
  | 0, _ => .inl rfl
  | k + 1, hk => by
    have ih := lastM_at T ps s at_ n h k (by omega)
    have hw := (h k (by omega)).2
    unfold lastM
    split <;> omega

def i8 (f : Nat → Int) : List Value := [.int .i64 (f 0), .int .i64 (f 1), .int .i64 (f 2), .int .i64 (f 3), .int .i64 (f 4), .int .i64 (f 5), .int .i64 (f 6), .int .i64 (f 7)]
theorem range8 {w : World} {g o : Nat} {cs : Array Value} {T : TypeId} {f : Nat → Int} (h : w.heap[g]? = some (.cells cs T (0, 0))) (hf : ∀ i, i < 8 → cs[o + i]? = some (.int .i64 (f i))) : w.rangeAt g o (i8 f) := fun j v hv => by
  have hj : j < 8 := (List.getElem?_eq_some_iff.1 hv).1
  have e : v = .int .i64 (f j) := by
    rcases (by omega : j = 0 ∨ j = 1 ∨ j = 2 ∨ j = 3 ∨ j = 4 ∨ j = 5 ∨ j = 6 ∨ j = 7) with rfl | rfl | rfl | rfl | rfl | rfl | rfl | rfl <;> exact (Option.some.inj (show some _ = some v from hv)).symm
  rw [e]
  exact blk_cell h _ _ (hf j hj)
theorem spC_rd (s : Sp) (i : Nat) (hi : i < 8) : (spC s)[0 + i]? = some (.int .i64 (s.rd i)) := by
  rcases (by omega : i = 0 ∨ i = 1 ∨ i = 2 ∨ i = 3 ∨ i = 4 ∨ i = 5 ∨ i = 6 ∨ i = 7) with rfl | rfl | rfl | rfl | rfl | rfl | rfl | rfl <;> rfl
theorem spC_wr (s : Sp) (i : Nat) (hi : i < 8) : (spC s)[8 + i]? = some (.int .i64 (s.wr i)) := by
  rcases (by omega : i = 0 ∨ i = 1 ∨ i = 2 ∨ i = 3 ∨ i = 4 ∨ i = 5 ∨ i = 6 ∨ i = 7) with rfl | rfl | rfl | rfl | rfl | rfl | rfl | rfl <;> rfl
theorem index_i8 (f : Nat → Int) (k : Nat) (hk : k < 8) (w : World) : (Instr.index 57 (.agg (i8 f).toArray) (.int .i64 (k : Nat))).run Tryd.prog w = .ok (.int .i64 (f k)) w := by
  have := index8_any f k hk w
  exact this
theorem info8 (f : Nat → Int) : (Tryd.prog.info? 57).map (·.size) = some (i8 f).length := by
  rw [show (i8 f).length = 8 from rfl]
  kernel_rfl

set_option maxRecDepth 20000 in
set_option maxHeartbeats 2000000 in
theorem first_any {w : World} {bf : Nat} {vT vP : Value} {T : List Ev} {ps : List Sn} (h : Fi w bf vT vP T ps) (s : Sp) (at_ : Nat) (ha : at_ < T.length) (hs : SpOk s at_) : Calls Tryd.prog 54 #[.pointer (some ⟨bf, 0, none⟩), spV s, .int .i64 (at_ : Nat)] w (Vb w (.int .i64 (firstM T ps s at_))) := by
  have B0 := hide (bel_new w (.cells (spC s) 115))
  have H0 := hide h
  have HS := hide hs
  have zz := Go.Deep.blk_alloc_new w (.cells (spC s) 115)
  have UK := hide (fun wz (hz : Below w.heap.size w wz) (e : Int) (he : e = -1 ∨ 0 ≤ e ∧ e < at_) => unknown_any (h.bel hz) e (he.imp id (fun q => ⟨q.1, by omega⟩)) at_ ha)
  have HA := hide ha
  clear h hs
  unfold spV
  go_enter Tryd.func54, Tryd.ntmps54
  go_upto_region 2 with fail
  generalize hw1 : w.alloc (.cells #[.int .i64 (s.rd 0), .int .i64 (s.rd 1), .int .i64 (s.rd 2), .int .i64 (s.rd 3), .int .i64 (s.rd 4), .int .i64 (s.rd 5), .int .i64 (s.rd 6), .int .i64 (s.rd 7), .int .i64 (s.wr 0), .int .i64 (s.wr 1), .int .i64 (s.wr 2), .int .i64 (s.wr 3), .int .i64 (s.wr 4), .int .i64 (s.wr 5), .int .i64 (s.wr 6), .int .i64 (s.wr 7), .bool s.ra] 115) = w1 at *
  have zz' : w1.heap[w.heap.size]? = some (.cells (spC s) 115 (0, 0)) := by rw [← hw1]; exact zz
  have B1 : Hid (Below w.heap.size w w1) := by rw [← hw1]; exact B0
  have rW := range8 (o := 8) zz' (spC_wr s)
  have ZZ := hide zz'
  clear zz zz' B0 hw1
  go_wp2_with (first | (refine wpList_load_mid rfl 57 (.tmp 12) rfl w.heap.size 8 rfl (i8 s.wr) _ rW Tryd.underlying57 rfl (info8 _) ?_))
  go_loopw [7, 14] (fun x7 x14 wr => ∃ k : Nat, k ≤ 8 ∧ x7 = .int .i64 (lastM T ps s at_ k) ∧ x14 = .int .i64 (k : Nat) ∧ Hid (Below w.heap.size w wr ∧ Below w1.heap.size w1 wr)) (fun x7 x14 _ => 8 - (intOf x14).toNat)
  case atStart => exact ⟨0, by omega, rfl, rfl, hide ⟨B1.out, Below.refl _ _⟩⟩
  case round =>
    obtain ⟨k, hk, rfl, rfl, hI⟩ := hrel
    by_cases hlt : k < 8
    · have hk' : (k : Int) < 8 := by omega
      have IX := fun w => index_i8 s.wr k hlt w
      have U := hide (UK.out _ hI.out.1 (s.wr k) (HS.out k hlt).2)
      have LS : Hid (lastM T ps s at_ (k + 1) = if unkM T ps (s.wr k) at_ = true then max (lastM T ps s at_ k) (s.wr k) else lastM T ps s at_ k) := hide rfl
      have MS : Hid (8 - (k + 1) < 8 - k) := hide (by omega)
      have HI := hI
      generalize lastM T ps s at_ k = l at *
      generalize s.wr k = x at *
      clear UK hI rW ZZ H0 hk
      go_wp2_with fail
      refine U.out.mono ?_
      rintro e w3 ⟨rfl, b3⟩
      have N3 := hide (And.intro (bel_trans HI.out.1 b3) (bel_trans HI.out.2 b3))
      clear b3 U IX
      cases hu : unkM T ps x at_ with
      | false =>
        rw [hu] at LS
        have e9 : lastM T ps s at_ (k + 1) = l := LS.out
        go_wp2_with fail
        go_roundw
        case rel => exact ⟨k + 1, by omega, by rw [e9], by first | rfl | go_num, N3⟩
        case measure => simp [intOf]; omega
      | true =>
        rw [hu] at LS
        have e9 : lastM T ps s at_ (k + 1) = max l x := LS.out
        by_cases hm : l < x
        · have e8 : max l x = x := by omega
          go_wp2_with fail
          go_roundw
          case rel => exact ⟨k + 1, by omega, by rw [e9, e8], by first | rfl | go_num, N3⟩
          case measure => simp [intOf]; omega
        · have e8 : max l x = l := by omega
          go_wp2_with fail
          go_roundw
          case rel => exact ⟨k + 1, by omega, by rw [e9, e8], by first | rfl | go_num, N3⟩
          case measure => simp [intOf]; omega
    · obtain rfl : k = 8 := by omega
      have BW := hide hI.out.1
      have F := hide (H0.out.bel BW.out)
      obtain ⟨aT, cT, rfl, _, _⟩ := F.out.tr.form
      obtain ⟨bT, off, rfl, hbT, _, t1, _, _⟩ := F.out.tr.at at_ HA.out
      have f0 := F.out.f0
      have rR := range8 (o := 0) ((hI.out.2.block _ (lt_of_blk ZZ.out)).trans ZZ.out) (spC_rd s)
      have hat : (at_ : Int) < (T.length : Int) := by have := HA.out; omega
      obtain ⟨ke, hke⟩ : ∃ q, q = (T.getD at_ zE).k := ⟨_, rfl⟩
      have FM : Hid (firstM T ps s at_ = if lastM T ps s at_ 8 ≠ -1 ∨ ke = 1 then lastM T ps s at_ 8 else readF T ps s at_ 8) := hide (by rw [hke]; rfl)
      rw [← hke] at t1
      generalize lastM T ps s at_ 8 = l at *
      clear hI hk hke rW ZZ H0 hlt F
      by_cases hl : l = -1
      · subst hl
        by_cases hk1 : ke = 1
        · have e9 : firstM T ps s at_ = -1 := by rw [FM.out, if_pos (Or.inr hk1)]
          subst hk1
          rw [e9]
          clear rR
          go_wp2_with fail
          go_ret
          exact ⟨by first | rfl | (rw [e9]; rfl), BW.out⟩
        · have e9 : firstM T ps s at_ = readF T ps s at_ 8 := by rw [FM.out, if_neg (by simp [hk1])]
          have hk2 : (ke == 1) = false := by simpa using hk1
          rw [e9]
          go_wp2_with (first | (refine wpList_load_mid rfl 57 (.tmp 39) rfl w.heap.size 0 rfl (i8 s.rd) _ rR Tryd.underlying57 rfl (info8 _) ?_))
          go_loopw [41] (fun x41 wz => ∃ k : Nat, k ≤ 8 ∧ x41 = .int .i64 (k : Nat) ∧ Hid (Below w.heap.size w wz ∧ readF T ps s at_ 8 = readF T ps s at_ (8 - k))) (fun x41 _ => 8 - (intOf x41).toNat)
          case atStart => exact ⟨0, by omega, rfl, hide ⟨BW.out, rfl⟩⟩
          case round =>
            obtain ⟨k, hk, rfl, hI⟩ := hrel
            by_cases hlt : k < 8
            · have hk' : (k : Int) < 8 := by omega
              have IX := fun w => index_i8 s.rd k hlt w
              have U := hide (UK.out _ hI.out.1 (s.rd k) (HS.out k hlt).1)
              have LS : Hid (readF T ps s at_ 8 = if unkM T ps (s.rd k) at_ = true then s.rd k else readF T ps s at_ (8 - (k + 1))) := hide (by
                rw [hI.out.2, show 8 - k = (8 - (k + 1)) + 1 by omega]
                show (if unkM T ps (s.rd (8 - (8 - (k + 1) + 1))) at_ = true then s.rd (8 - (8 - (k + 1) + 1)) else _) = _
                rw [show 8 - (8 - (k + 1) + 1) = k by omega])
              have HB := hide hI.out.1
              generalize s.rd k = x at *
              generalize readF T ps s at_ 8 = r9 at *
              clear UK hI hk rR
              go_wp2_with fail
              refine U.out.mono ?_
              rintro e w3 ⟨rfl, b3⟩
              have N3 := hide (bel_trans HB.out b3)
              clear b3 U IX HB
              cases hu : unkM T ps x at_ with
              | false =>
                rw [hu] at LS
                go_wp2_with fail
                go_roundw
                case rel => exact ⟨k + 1, by omega, by first | rfl | go_num, hide ⟨N3.out, LS.out⟩⟩
                case measure => simp [intOf]; omega
              | true =>
                rw [hu] at LS
                have e7 : r9 = x := LS.out
                subst e7
                go_wp2_with fail
                go_ret
                exact ⟨by first | rfl | (rw [e9]; rfl), N3.out⟩
            · obtain rfl : k = 8 := by omega
              have e7 := hI.out.2
              have HB := hide hI.out.1
              rw [show readF T ps s at_ (8 - 8) = -1 from rfl] at e7
              clear hI UK rR
              go_wp2_with fail
              go_ret
              exact ⟨by first | rfl | (rw [e9, e7]; rfl), HB.out⟩
      · have e9 : firstM T ps s at_ = l := by rw [FM.out, if_pos (Or.inl hl)]
        have hl2 : (l != -1) = true := by simpa using hl
        rw [e9]
        clear rR
        go_wp2_with fail
        go_ret
        exact ⟨by first | rfl | (rw [e9]; rfl), BW.out⟩
end Go.Proofs.YticgmebbnnmikaaDoor.Ck
