/- The document's Before: a matrix in memory. -/
import Derived.Test.YticgmebbnnmikaaDoorOzp
import Derived.Test.YticgmebbnnmikaaDoorOzj
import Derived.StillTailTactics
import Derived.Deep.QuietTactic
import Derived.BigQuiet
namespace Go.Proofs.YticgmebbnnmikaaDoor.Ck
open Go.RowKit

theorem still_of_quiet {P : Program} {ops : Array Oper} {w : World} {Q : Act → Prop} : ∀ (l : List Oper) (a : Act), wpQuiet P ops (fun w' => w' = w) Q l a → wpStill P ops w Q l a
  | [], _, h => h
  | o :: rest, a, h => by
    unfold wpQuiet at h
    unfold wpStill
    split
    · rename_i hw
      rw [if_pos hw] at h
      obtain ⟨v, hv, hn⟩ := h
      have hv := hv w rfl
      have hn := still_of_quiet rest _ hn
      unfold Oper.quietAt at hv
      unfold Oper.still
      generalize (execOp a.eval o).run P w = r at *
      cases r with
      | ok n w' =>
        cases n <;> simp only [Oper.quietUpon, Oper.stillUpon] at hv ⊢
        case enter f args => exact ⟨hv.1, v, hv.2, hn⟩
        case value u => exact ⟨hv.1, by rw [hv.2]; exact hn⟩
        case skip => exact ⟨hv.1, by rw [← hv.2]; exact hn⟩
      | halt x w' => simp only [Oper.quietUpon] at hv
    · rename_i hw
      rw [if_neg hw] at h
      exact still_of_quiet rest _ h
/-- a region that draws its order, all but the end of which only reads, and whose end is forced -/
theorem wp_quiet_tail {P : Program} {id : Nat} {Q : Exit → Act → World → Prop} {a : Act} {w : World} {l : List Oper} (n : Nat) (hm : P.follows .mixedOrders = true) (hB : Region.lexTailB .any l.toArray n = true)
    (h : wpQuiet P l.toArray (fun w' => w' = w.drew) (fun a' => wpList P l.toArray Q (l.drop n) a' w.drew) (l.take n) a) : (Code.region id l.toArray true).wp P Q a w :=
  wp_region_still_tail n hm hB (still_of_quiet _ _ h)
/-- a matrix that is being made -/
structure Ma (w0 w : World) (q n : Nat) (B : Nat → Nat) (M : Nat → Nat → Bool) (k : Nat) : Prop where
  top : ∃ f : Nat → Value, w.rowIs q 41 n f ∧ ∀ j, j < k → f j = .slice (some ⟨B j, 0, none⟩) n n
  row : ∀ j, j < k → w.rowIs (B j) 4 n (fun i => .bool (M j i))
  lo : w0.heap.size ≤ q
  lob : ∀ j, j < k → q < B j
  inj : ∀ i j, i < j → j < k → B i < B j
  bel : Below w0.heap.size w0 w
section
variable {w0 w w' : World} {q n k : Nat} {B : Nat → Nat} {M M' : Nat → Nat → Bool}
theorem Ma.below (h : Ma w0 w q n B M k) (hb : Below w.heap.size w w') : Ma w0 w' q n B M k := by
  obtain ⟨f, h1, h2⟩ := h.top
  exact ⟨⟨f, h1.of_block (hb.block _ h1.lt), h2⟩, fun j hj => (h.row j hj).of_block (hb.block _ (h.row j hj).lt), h.lo, h.lob, h.inj, h.bel.trans (hb.mono h.bel.size)⟩
theorem Ma.congr (h : Ma w0 w q n B M k) (e : ∀ j, j < k → ∀ i, i < n → M j i = M' j i) : Ma w0 w q n B M' k :=
  ⟨h.top, fun j hj => (h.row j hj).congr fun i hi => by rw [e j hj i hi], h.lo, h.lob, h.inj, h.bel⟩
theorem Ma.start (hb : Below w0.heap.size w0 w) (n : Nat) (B : Nat → Nat) (M : Nat → Nat → Bool) : Ma w0 (w.alloc (.cells (madeCells #[.slice none 0 0] n) 41)) w.heap.size n B M 0 :=
  ⟨⟨_, World.rowIs_made w _ _ _, fun _ hj => absurd hj (Nat.not_lt_zero _)⟩, fun _ hj => absurd hj (Nat.not_lt_zero _), hb.size, fun _ hj => absurd hj (Nat.not_lt_zero _), fun _ _ _ hj => absurd hj (Nat.not_lt_zero _), bel_al hb _⟩
theorem Ma.newRow (h : Ma w0 w q n B M k) : Ma w0 ((w.alloc (.cells (madeCells #[.bool false] n) 4)).setCell ⟨q, k, none⟩ (.slice (some ⟨w.heap.size, 0, none⟩) n n)) q n (fun j => if j = k then w.heap.size else B j) (fun j => if j = k then fun _ => false else M j) (k + 1) := by
  obtain ⟨f, h1, h2⟩ := h.top
  have hl := h1.lt
  have hR : ∀ j, j < k → B j < w.heap.size := fun j hj => (h.row j hj).lt
  refine ⟨⟨_, (h1.alloc _).set k _, fun j hj => ?_⟩, fun j hj => ?_, h.lo, fun j hj => ?_, fun i j hij hj => ?_, (bel_al h.bel _).setCell (p := ⟨q, k, none⟩) h.lo _⟩
  · by_cases e : j = k
    · rw [if_pos e, if_pos e]
    · rw [if_neg e, if_neg e]
      exact h2 j (by omega)
  · by_cases e : j = k
    · simp only [if_pos e]
      exact (World.rowIs_made w _ _ _).setOther (by show w.heap.size ≠ q; omega) _
    · simp only [if_neg e]
      exact ((h.row j (by omega)).alloc _).setOther (by have := h.lob j (by omega); show B j ≠ q; omega) _
  · by_cases e : j = k
    · simp only [if_pos e]; exact hl
    · simp only [if_neg e]; exact h.lob j (by omega)
  · by_cases e : j = k
    · simp only [if_pos e, if_neg (show ¬ i = k by omega)]
      exact hR i (by omega)
    · simp only [if_neg e, if_neg (show ¬ i = k by omega)]
      exact h.inj i j hij (by omega)
theorem Ma.set (h : Ma w0 w q n B M k) (j i : Nat) (hj : j < k) (x : Bool) : Ma w0 (w.setCell ⟨B j, i, none⟩ (.bool x)) q n B (fun a => if a = j then fun b => if b = i then x else M j b else M a) k := by
  obtain ⟨f, h1, h2⟩ := h.top
  have hl := h.lob j hj
  refine ⟨⟨f, h1.setOther (by show q ≠ B j; omega) _, h2⟩, fun a ha => ?_, h.lo, h.lob, h.inj, h.bel.setCell (p := ⟨B j, i, none⟩) (by have := h.lo; show _ ≤ B j; omega) _⟩
  by_cases e : a = j
  · simp only [if_pos e]
    rw [e]
    refine ((h.row j hj).set i (.bool x)).congr fun b hb => ?_
    by_cases eb : b = i
    · rw [if_pos eb, if_pos eb]
    · rw [if_neg eb, if_neg eb]
  · simp only [if_neg e]
    refine (h.row a ha).setOther ?_ _
    show B a ≠ B j
    rcases Nat.lt_or_gt_of_ne e with g | g
    · have := h.inj a j g hj; omega
    · have := h.inj j a g ha; omega
theorem Ma.at (h : Ma w0 w q n B M k) (j : Nat) (hj : j < k) (hn : j < n) : w.cell? ⟨q, j, none⟩ = some (.slice (some ⟨B j, 0, none⟩) n n) := by
  obtain ⟨f, h1, h2⟩ := h.top
  rw [h1.cell hn, h2 j hj]
theorem Ma.cell (h : Ma w0 w q n B M k) (j : Nat) (hj : j < k) (i : Nat) (hi : i < n) : w.cell? ⟨B j, i, none⟩ = some (.bool (M j i)) := (h.row j hj).cell hi
theorem Ma.frz (h : Ma w0 w q n B M k) (j : Nat) (hj : j < k) (i : Nat) : w.frozen? ⟨B j, i, none⟩ = false := (h.row j hj).frozen i
theorem Ma.frzTop (h : Ma w0 w q n B M k) (i : Nat) : w.frozen? ⟨q, i, none⟩ = false := by
  obtain ⟨f, h1, h2⟩ := h.top
  exact h1.frozen i
theorem Ma.anyTop (h : Ma w0 w q n B M k) (i : Nat) (hi : i < n) : ∃ u, w.cell? ⟨q, i, none⟩ = some u := by
  obtain ⟨f, h1, h2⟩ := h.top
  exact ⟨_, h1.cell hi⟩
end
/-- a matrix in memory -/
structure SlM (w : World) (q n : Nat) (B : Nat → Nat) (M : Nat → Nat → Bool) : Prop where
  top : ∀ j, j < n → w.cell? ⟨q, j, none⟩ = some (.slice (some ⟨B j, 0, none⟩) n n)
  row : ∀ j, j < n → ∀ i, i < n → w.cell? ⟨B j, i, none⟩ = some (.bool (M j i))
theorem SlM.bel {w w' : World} {q n : Nat} {B : Nat → Nat} {M : Nat → Nat → Bool} (h : SlM w q n B M) (hb : Below w.heap.size w w') : SlM w' q n B M :=
  ⟨fun j hj => (hb.cell (p := ⟨q, j, none⟩) (World.block_lt_of_cell? w _ (h.top j hj))).trans (h.top j hj), fun j hj i hi => (hb.cell (p := ⟨B j, i, none⟩) (World.block_lt_of_cell? w _ (h.row j hj i hi))).trans (h.row j hj i hi)⟩
theorem Ma.done {w0 w : World} {q n : Nat} {B : Nat → Nat} {M : Nat → Nat → Bool} (h : Ma w0 w q n B M n) : SlM w q n B M :=
  ⟨fun j hj => h.at j hj hj, fun j hj i hi => h.cell j hj i hi⟩
/-- the matrix with a row that is being made -/
def mixM (T : List Ev) (R : List Int) (k : Nat) (r : Nat → Bool) : Nat → Nat → Bool := fun j => if j = k then r else matM T R k j
/-- a row while an earlier one is put in -/
def parR (cur old : Nat → Bool) (m s : Nat) : Nat → Bool := fun x => if x = m then true else if x < s then cur x || old x else cur x
theorem mxm_at (T : List Ev) (R : List Int) (k : Nat) (r : Nat → Bool) (i : Nat) : mixM T R k r k i = r i := by
  unfold mixM
  rw [if_pos rfl]
theorem mxm_low (T : List Ev) (R : List Int) (k : Nat) (r : Nat → Bool) (j i : Nat) (h : j < k) : mixM T R k r j i = matM T R k j i := by
  unfold mixM
  rw [if_neg (by omega)]
theorem mxm_all (T : List Ev) (R : List Int) (k : Nat) : mixM T R k (rowF T R (matM T R k) k k) = matM T R (k + 1) := rfl
theorem info_bools : (Tryd.prog.info? 41).map (fun i => (i.zero, i.size, i.bytes)) = some (some (.slice none 0 0), 1, 24) := by kernel_rfl
theorem info_bool : (Tryd.prog.info? 4).map (fun i => (i.zero, i.size, i.bytes)) = some (some (.bool false), 1, 1) := by kernel_rfl
set_option maxRecDepth 20000 in
set_option maxHeartbeats 8000000 in
theorem before_doc {w : World} {vT vR : Value} {T : List Ev} {R : List Int} (hT : SlE w vT T) (hR : Sl w vR R) (hn : T.length ≤ 100000) : Calls Tryd.prog 12 #[vT, vR] w (fun e w' => ∃ q B, e = .returned (.slice (some ⟨q, 0, none⟩) T.length T.length) ∧ Below w.heap.size w w' ∧ SlM w' q T.length B (hbM T R)) := by
  obtain ⟨aT, cT, rfl, hcT, _⟩ := hT.form
  have HT := hide hT
  have HR := hide hR
  have DI := hide (fun wz (hz : Below w.heap.size w wz) i j (hi : i < T.length) (hj : j < T.length) => direct_any (HT.out.bel hz) (HR.out.bel hz) hn i j hi hj)
  have hmk := run_make_row' (P := Tryd.prog) 37 41 (.slice none 0 0) 24 Tryd.underlying37 info_bools rfl .i64 .i64 T.length (by omega) (by omega)
  have hmk2 := run_make_row' (P := Tryd.prog) 41 4 (.bool false) 1 Tryd.underlying41 info_bool rfl .i64 .i64 T.length (by omega) (by omega)
  clear hT hR
  go_enter Tryd.func12, Tryd.ntmps12
  go_wp2_with fail
  have M0 := hide (Ma.start (Below.refl w.heap.size w) T.length (fun _ => 0) (matM T R 0))
  go_loopw [14] (fun x14 wr => ∃ (k : Nat) (B : Nat → Nat), k ≤ T.length ∧ x14 = .int .i64 (k : Nat) ∧ Hid (Ma w wr w.heap.size T.length B (matM T R k) k)) (fun x14 _ => T.length - (intOf x14).toNat)
  case atStart => exact ⟨0, _, Nat.zero_le _, rfl, M0⟩
  case round =>
    clear M0
    obtain ⟨k, B, hk, rfl, hM⟩ := hrel
    by_cases hlt : k < T.length
    · have hlt' : (k : Int) < (T.length : Int) := by omega
      have MB := hM.out.below (bel_new wr (.cells (madeCells #[.bool false] T.length) 4))
      obtain ⟨u, cu⟩ := MB.anyTop k hlt
      have fu := MB.frzTop k
      clear MB
      have M1 : Hid (Ma w _ _ _ _ (mixM T R k (rowF T R (matM T R k) k 0)) (k + 1)) := hide hM.out.newRow
      obtain ⟨B', hB'⟩ : ∃ B', B' = (fun j => if j = k then wr.heap.size else B j) := ⟨_, rfl⟩
      rw [← hB'] at M1
      clear hB'
      go_upto_region 6 with fail
      generalize ((wr.alloc (.cells (madeCells #[.bool false] T.length) 4)).setCell ⟨w.heap.size, k, none⟩ (.slice (some ⟨wr.heap.size, 0, none⟩) T.length T.length)) = w1 at *
      clear cu fu hM
      go_wp2_with fail
      go_loopw [7] (fun x7 wz => ∃ r : Nat, r ≤ k ∧ x7 = .int .i64 ((k : Int) - 1 - r) ∧ Hid (Ma w wz w.heap.size T.length B' (mixM T R k (rowF T R (matM T R k) k r)) (k + 1))) (fun x7 _ => (intOf x7 + 1).toNat)
      case atStart => exact ⟨0, Nat.zero_le _, by simp, M1⟩
      case round =>
        clear M1
        obtain ⟨r, hr, rfl, hZ⟩ := hrel
        by_cases hrk : r < k
        · obtain ⟨m, hm⟩ : ∃ m : Nat, m = k - (r + 1) := ⟨_, rfl⟩
          have em : (k : Int) - 1 - r = (m : Nat) := by omega
          rw [em]
          have HM := hide hm
          have STEP : Hid (rowF T R (matM T R k) k (r + 1) = if (rowF T R (matM T R k) k r m || !dirM T R m k) = true then rowF T R (matM T R k) k r else fun x => if x = m then true else rowF T R (matM T R k) k r x || (decide (x < m) && matM T R k m x)) := hide (by rw [hm]; rfl)
          have hmk : m < k := by omega
          have hmT : (m : Int) < (T.length : Int) := by omega
          have MS : Hid ((k : Int) - 1 - ((r + 1 : Nat) : Int) = (m : Int) - 1) := hide (by omega)
          clear hm em
          have a0 := hZ.out.at k (by omega) hlt
          have a1 := hZ.out.cell k (by omega) m (by omega)
          have f1 := hZ.out.frz k (by omega) m
          rw [mxm_at] at a1
          have D1 := hide (DI.out _ hZ.out.bel m k (by omega) hlt)
          cases hv : rowF T R (matM T R k) k r m with
          | true =>
            have E := hide (STEP.out.trans (if_pos (by rw [hv]; rfl)))
            have Z2 := hide hZ.out
            rw [← E.out] at Z2
            rw [hv] at a1
            clear hZ D1 STEP E
            go_wp2_with fail
            go_roundw
            case rel => exact ⟨r + 1, by omega, by rw [MS.out], Z2⟩
            case measure => simp [intOf]
          | false =>
            rw [hv] at a1
            cases hd : dirM T R m k with
            | false =>
              have E := hide (STEP.out.trans (if_pos (by rw [hv, hd]; rfl)))
              rw [hd] at D1
              clear STEP
              go_wp2_with (first | (go_at_call 26; refine D1.out.mono ?_; rintro e w5 ⟨rfl, b5⟩; have Z2 := hide (hZ.out.below b5); clear b5))
              rw [← E.out] at Z2
              go_roundw
              case rel => exact ⟨r + 1, by omega, by rw [MS.out], Z2⟩
              case measure => simp [intOf]
            | true =>
              have E := hide (STEP.out.trans (if_neg (by rw [hv, hd]; simp)))
              rw [hd] at D1
              clear STEP
              go_upto_region 10 with (first | (go_at_call 26; refine D1.out.mono ?_; rintro e w5 ⟨rfl, b5⟩; have Z2 := hide (hZ.out.below b5); clear b5))
              clear a0 a1 f1 D1 hZ
              have a0 := Z2.out.at k (by omega) hlt
              have a1 := Z2.out.cell k (by omega) m (by omega)
              have f1 := Z2.out.frz k (by omega) m
              have Z3 := hide ((Z2.out.set k m (by omega) true).congr (M' := mixM T R k (parR (rowF T R (matM T R k) k r) (matM T R k m) m 0)) (fun j hj i hi => by
                unfold mixM parR
                by_cases e : j = k
                · simp only [if_pos e, if_neg (Nat.not_lt_zero i), if_true]
                · simp only [if_neg e]))
              generalize rowF T R (matM T R k) k r = cur at *
              clear Z2
              go_upto_region 11 with fail
              generalize w5.setCell ⟨B' k, m, none⟩ (.bool true) = w6 at *
              clear a0 a1 f1
              go_wp2_with fail
              go_loopw [8] (fun x8 wy => ∃ s : Nat, s ≤ m ∧ x8 = .int .i64 (s : Nat) ∧ Hid (Ma w wy w.heap.size T.length B' (mixM T R k (parR cur (matM T R k m) m s)) (k + 1))) (fun x8 _ => m - (intOf x8).toNat)
              case atStart => exact ⟨0, Nat.zero_le _, rfl, Z3⟩
              case round =>
                clear Z3
                obtain ⟨s, hs, rfl, hY⟩ := hrel
                by_cases hsm : s < m
                · have hsm' : (s : Int) < (m : Int) := by omega
                  have hsT : (s : Int) < (T.length : Int) := by omega
                  have hs8 : s ≤ 100000 := by omega
                  have a0 := hY.out.at k (by omega) hlt
                  have a1 := hY.out.cell k (by omega) s (by omega)
                  have a2 := hY.out.at m (by omega) (by omega)
                  have a3 := hY.out.cell m (by omega) s (by omega)
                  have f1 := hY.out.frz k (by omega) s
                  rw [mxm_at] at a1
                  rw [mxm_low _ _ _ _ _ _ hmk] at a3
                  have e1 : parR cur (matM T R k m) m s s = cur s := by
                    unfold parR
                    rw [if_neg (by omega), if_neg (by omega)]
                  rw [e1] at a1
                  have Y2 := hide (hY.out.below (Below.refl wr.heap.size wr).drew)
                  have PAR : Hid (∀ (b : Bool), b = (cur s || matM T R k m s) → ∀ j i, (if j = k then fun b' => if b' = s then b else mixM T R k (parR cur (matM T R k m) m s) k b' else mixM T R k (parR cur (matM T R k m) m s) j) i = mixM T R k (parR cur (matM T R k m) m (s + 1)) j i) := hide (fun b hb j i => by
                    unfold mixM
                    by_cases e : j = k
                    · simp only [if_pos e, if_true]
                      unfold parR
                      by_cases ei : i = s
                      · rw [if_pos ei, ei, if_neg (by omega), if_pos (by omega)]
                        exact hb
                      · rw [if_neg ei]
                        by_cases em : i = m
                        · rw [if_pos em, if_pos em]
                        · rw [if_neg em, if_neg em]
                          by_cases es : i < s
                          · rw [if_pos es, if_pos (by omega)]
                          · rw [if_neg es, if_neg (by omega)]
                    · simp only [if_neg e])
                  clear hY e1
                  generalize hold : matM T R k m s = old at *
                  have HOLD := hide hold
                  clear hold
                  cases hc : cur s with
                  | true =>
                    rw [hc] at a1
                    have Y3 := hide ((Y2.out.set k s (by omega) true).congr (M' := mixM T R k (parR cur (matM T R k m) m (s + 1))) (fun j hj i hi => PAR.out true (by rw [hc]; rfl) j i))
                    go_upto_region 14 with fail
                    refine wp_quiet_tail 21 mixed (by kernel_rfl) ?_
                    simp only [List.take_succ_cons, List.take_zero, List.drop_succ_cons, List.drop_zero]
                    repeat (first | go_big_quiet_skip | (go_big_quiet_want; go_big_quiet_op; go_big_quiet_on))
                    refine wpQuiet_nil ?_
                    go_wp2_with fail
                    go_roundw
                    case rel => exact ⟨s + 1, by omega, by go_num, Y3⟩
                    case measure => simp [intOf]; omega
                  | false =>
                    rw [hc] at a1
                    have Y3 := hide ((Y2.out.set k s (by omega) old).congr (M' := mixM T R k (parR cur (matM T R k m) m (s + 1))) (fun j hj i hi => PAR.out old (by rw [hc]; rfl) j i))
                    go_upto_region 14 with fail
                    refine wp_quiet_tail 21 mixed (by kernel_rfl) ?_
                    simp only [List.take_succ_cons, List.take_zero, List.drop_succ_cons, List.drop_zero]
                    repeat (first | go_big_quiet_skip | (go_big_quiet_want; go_big_quiet_op; go_big_quiet_on))
                    refine wpQuiet_nil ?_
                    go_wp2_with fail
                    go_roundw
                    case rel => exact ⟨s + 1, by omega, by go_num, Y3⟩
                    case measure => simp [intOf]; omega
                · obtain rfl : s = m := by omega
                  have Z4 := hide hY.out
                  have e9 : parR cur (matM T R k s) s s = rowF T R (matM T R k) k (r + 1) := by
                    rw [E.out]
                    funext x
                    unfold parR
                    by_cases c1 : x = s
                    · rw [if_pos c1, if_pos c1]
                    · rw [if_neg c1, if_neg c1]
                      by_cases c2 : x < s
                      · rw [if_pos c2]; simp [c2]
                      · rw [if_neg c2]; simp [c2]
                  rw [e9] at Z4
                  clear hY E e9
                  go_wp2_with fail
                  go_roundw
                  case rel => exact ⟨r + 1, by omega, by rw [MS.out], Z4⟩
                  case measure => simp [intOf]
        · obtain rfl : r = k := by omega
          have Z2 := hide hZ.out
          rw [mxm_all] at Z2
          clear hZ
          go_wp2_with fail
          go_roundw
          case rel => exact ⟨r + 1, B', by omega, by go_num, Z2⟩
          case measure => simp [intOf]; omega
    · obtain rfl : k = T.length := by omega
      have D := hide hM.out.done
      have B1 := hide hM.out.bel
      clear hM
      go_wp2_with fail
      go_ret
      exact ⟨_, _, rfl, B1.out, D.out⟩
end Go.Proofs.YticgmebbnnmikaaDoor.Ck
