/- Package order's Clocks: each event's clock, in short form (clock.Short, merge, trim). -/
import Derived.Test.YticgmebbnnmikaaDoorOw
import Derived.Test.YticgmebbnnmikaaDoorOy
import Derived.Deep.OwnRows
namespace Go.Proofs.YticgmebbnnmikaaDoor.Ck
open Go.RowKit

/-- how long the list's first k places are without the zeros at their end -/
def tl (c : List Int) : Nat → Nat
  | 0 => 0
  | k + 1 => if c.getD k 0 = 0 then tl c k else k + 1
theorem tl_le (c : List Int) (k : Nat) : tl c k ≤ k := by
  induction k with
  | zero => simp [tl]
  | succ k ih => rw [tl]; split <;> omega
theorem tl_zero (c : List Int) (k : Nat) (h : c.getD k 0 = 0) : tl c (k + 1) = tl c k := by rw [tl, if_pos h]
theorem tl_stop (c : List Int) (k : Nat) (h : c.getD k 0 ≠ 0) : tl c (k + 1) = k + 1 := by rw [tl, if_neg h]
theorem trim_any (b off cap n : Nat) (zs : List Int) (w : World) (hlc : n ≤ cap) (hcm : cap ≤ 9223372036854775807)
    (hc : ∀ i, i < n → w.cell? ⟨b, off + i, none⟩ = some (.int .i64 (zs.getD i 0))) :
    Calls Tryd.prog 52 #[.slice (some ⟨b, off, none⟩) n cap] w fun e w' => e = .returned (.slice (some ⟨b, off, none⟩) (tl zs n) cap) ∧ w = w' := by
  go_enter Tryd.func52, Tryd.ntmps52
  go_wp2
  go_loop [3] (fun s => ∃ k : Nat, k ≤ n ∧ s = .int .i64 k ∧ Hid (tl zs k = tl zs n)) (fun s => (intOf s).toNat)
  case atStart => exact ⟨n, Nat.le_refl _, rfl, rfl⟩
  case round =>
    obtain ⟨k, hk, rfl, ht⟩ := hrel
    cases k with
    | zero =>
      go_wp2
      go_ret
      exact ⟨ret_slice ht.out, rfl⟩
    | succ k =>
      have hcell := hc k (by omega)
      go_wp2
      · have hz : (zs[k]?.getD 0 == 0) = true := by assumption
        have hz' : zs.getD k 0 = 0 := by simpa [List.getD] using hz
        go_round
        case rel => exact ⟨k, by omega, rfl, (tl_zero zs k hz').symm.trans ht.out⟩
        case measure => simp [intOf]
      · have hz : (zs[k]?.getD 0 == 0) = false := by assumption
        have hz' : zs.getD k 0 ≠ 0 := by simpa [List.getD] using hz
        go_ret
        exact ⟨ret_slice ((tl_stop zs k hz').symm.trans ht.out), rfl⟩
theorem get_nil (g : Nat) (hg : g < 8) (w : World) : Calls Tryd.prog 51 #[.slice none 0 0, .int .i64 (g : Nat)] w (fun e w' => e = .returned (.int .i64 0) ∧ w' = w) := by
  have hg' : ¬ (g : Int) < 0 := by omega
  have hg2 : (0 : Int) ≤ (g : Int) := by omega
  go_enter Tryd.func51, Tryd.ntmps51
  go_wp2_with fail
  go_ret
  exact ⟨rfl, rfl⟩
theorem short1_any (x y : Int) (w : World) : Calls Tryd.prog 32 #[.int .i64 x, .int .i64 y] w (fun e w' => e = .returned (.int .i64 x) ∧ w' = w) := by
  go_enter Tryd.func32, Tryd.ntmps32
  go_wp2_with fail
  go_ret
  exact ⟨rfl, rfl⟩
/-- a clock as a list -/
def shM (s : Sn) : List Int := (List.range 8).map fun i => max (s i) 0
def clM (s : Sn) : List Int := (shM s).take (tl (shM s) 8)
theorem shM_at (s : Sn) (i : Nat) (hi : i < 8) : (shM s).getD i 0 = max (s i) 0 := by simp [shM, List.getD, hi]
theorem clM_len (s : Sn) : (clM s).length = tl (shM s) 8 := by
  have := tl_le (shM s) 8
  have h8 : (shM s).length = 8 := by simp [shM]
  unfold clM
  rw [List.length_take]
  omega
/-- what the loop of merge has made after k rounds -/
def part (m : Nat → Int) (k : Nat) (j : Nat) : Value := .int .i64 (if j < k then m j else 0)
theorem part_zero (m : Nat → Int) (j : Nat) : part m 0 j = .int .i64 0 := by simp [part]
theorem part_step (m : Nat → Int) (k j : Nat) : (if j = k then Value.int .i64 (m k) else part m k j) = part m (k + 1) j := by
  unfold part
  by_cases h : j = k
  · subst h; simp
  · rw [if_neg h]
    by_cases h2 : j < k
    · rw [if_pos h2, if_pos (by omega)]
    · rw [if_neg h2, if_neg (by omega)]
set_option maxRecDepth 20000 in
set_option maxHeartbeats 1000000 in
theorem merge_any {w : World} {b o : Nat} {s : Sn} (h : Ar w b o s) (hs : ∀ i, i < 8 → s i ≤ 1000000) :
    Calls Tryd.prog 31 #[.slice (some ⟨b, o, none⟩) 8 8, .slice none 0 0, .func (.func 32) #[] #[]] w fun e w' => (∃ v, e = .returned v ∧ Sl w' v (clM s)) ∧ Below w.heap.size w w' := by
  have hmk := run_make_row' (P := Tryd.prog) 23 3 (.int .i64 0) 8 Tryd.underlying23 info3 rfl .i64 .i64 8 (by omega) (by omega)
  rw [show ((8 : Nat) : Int) = 8 from rfl] at hmk
  have GT := hide (fun wz (hz : Below w.heap.size w wz) g hg => get_any (h.bel hz) g hg)
  have HS := hide hs
  clear h hs
  go_enter Tryd.func31, Tryd.ntmps31
  go_wp2
  go_loopw [17] (fun i wr => ∃ k : Nat, k ≤ 8 ∧ i = .int .i64 k ∧ wr.rowIs w.heap.size 3 8 (part (fun i => max (s i) 0) k) ∧ Below w.heap.size w wr) (fun i _ => 8 - (intOf i).toNat)
  case atStart => exact ⟨0, Nat.zero_le _, rfl, (World.rowIs_made w _ _ _).congr (fun j _ => (part_zero _ j).symm), (Below.refl _ _).alloc (Nat.le_refl _) _⟩
  case round =>
    obtain ⟨k, hk, rfl, hrow, hbel⟩ := hrel
    by_cases hlt : k < 8
    · have hlt' : (k : Int) < 8 := by omega
      have G1 := hide (GT.out wr hbel k hlt)
      have hcell := hrow.cell hlt
      have hfr := hrow.frozen k
      have hrow2 := (hrow.set k (.int .i64 (max (s k) 0))).congr (fun j _ => part_step (fun i => max (s i) 0) k j)
      have hbel2 := hbel.setCell (p := ⟨w.heap.size, k, none⟩) (Nat.le_refl _) (.int .i64 (max (s k) 0))
      generalize max (s k) 0 = x at *
      clear hrow hbel
      go_wp2_with fail
      refine G1.out.mono ?_
      rintro e w' ⟨rfl, rfl⟩
      go_wp2_with fail
      refine (get_nil k hlt _).mono ?_
      rintro e w' ⟨rfl, rfl⟩
      go_wp2_with fail
      refine (short1_any _ _ _).mono ?_
      rintro e w' ⟨rfl, rfl⟩
      go_wp2_with fail
      go_roundw
      case rel => exact ⟨k + 1, by omega, by go_num, hrow2, hbel2⟩
      case measure => simp [intOf]; omega
    · have e : k = 8 := by omega
      subst e
      have hc : ∀ i, i < 8 → wr.cell? ⟨w.heap.size, 0 + i, none⟩ = some (.int .i64 ((shM s).getD i 0)) := fun i hi => by
        rw [Nat.zero_add, hrow.cell hi, shM_at s i hi]; simp [part, hi]
      have hS : Sl wr (.slice (some ⟨w.heap.size, 0, none⟩) (tl (shM s) 8) 8) (clM s) := by
        have hle := tl_le (shM s) 8
        have hl2 := clM_len s
        have h := Sl.of_row (zs := clM s) hrow (by omega) (by unfold maxLen; omega) (fun z hz => by
          have hz' := List.mem_of_mem_take hz
          simp only [shM, List.mem_map, List.mem_range] at hz'
          obtain ⟨i, hi, rfl⟩ := hz'
          have := HS.out i hi
          omega) (fun i hi => by
            rw [hl2] at hi
            have hik : i < 8 := by omega
            unfold part clM
            rw [if_pos hik, List.getD_eq_getElem?_getD, List.getElem?_take_of_lt hi, ← List.getD_eq_getElem?_getD, shM_at s i hik])
        rw [hl2] at h
        exact h
      clear hrow
      go_wp2_with fail
      refine (trim_any w.heap.size 0 8 8 (shM s) wr (Nat.le_refl _) (by omega) hc).mono ?_
      rintro e w' ⟨rfl, rfl⟩
      go_wp2_with fail
      go_ret
      exact ⟨⟨_, rfl, hS⟩, hbel⟩
theorem short_any {w : World} {b o : Nat} {s : Sn} (h : Ar w b o s) (hs : ∀ i, i < 8 → s i ≤ 1000000) :
    Calls Tryd.prog 21 #[.slice (some ⟨b, o, none⟩) 8 8] w fun e w' => ∃ v, e = .returned v ∧ Sl w' v (clM s) ∧ Below w.heap.size w w' := by
  have MG := hide (merge_any h hs)
  clear h hs
  go_enter Tryd.func21, Tryd.ntmps21
  go_wp2_with fail
  refine MG.out.mono ?_
  rintro e w' ⟨⟨v, rfl, hs⟩, hb⟩
  have X := hide (And.intro hs hb)
  clear hs hb
  go_wp2_with fail
  go_ret
  exact ⟨v, rfl, X.out.1, X.out.2⟩
/-- a slice of lists -/
def SlL (w : World) (v : Value) (L : List (List Int)) : Prop := ∃ a cap, v = .slice a L.length cap ∧ L.length ≤ cap ∧ cap ≤ maxLen ∧
    ∀ i, i < L.length → ∃ b off u, a = some ⟨b, off, none⟩ ∧ b < w.heap.size ∧ w.cell? ⟨b, off + i, none⟩ = some u ∧ Sl w u (L.getD i [])
theorem SlL.bel {w w' : World} {v : Value} {L : List (List Int)} (h : SlL w v L) (hb : Below w.heap.size w w') : SlL w' v L := by
  obtain ⟨a, cap, hv, h1, h2, h3⟩ := h
  refine ⟨a, cap, hv, h1, h2, fun i hi => ?_⟩
  obtain ⟨b, off, u, ha, hlt, hc, hd⟩ := h3 i hi
  exact ⟨b, off, u, ha, Nat.lt_of_lt_of_le hlt hb.size, (hb.cell (p := ⟨b, _, none⟩) hlt).trans hc, hd.bel hb⟩
theorem SlL.form {w : World} {v : Value} {L : List (List Int)} (h : SlL w v L) : ∃ a c, v = .slice a L.length c ∧ L.length ≤ c ∧ c ≤ maxLen := by
  obtain ⟨a, c, e, h1, h2, _⟩ := h
  exact ⟨a, c, e, h1, h2⟩
theorem SlL.at {w : World} {a : Option Addr} {n c : Nat} {L : List (List Int)} (h : SlL w (.slice a n c) L) (i : Nat) (hi : i < L.length) : ∃ b off u, a = some ⟨b, off, none⟩ ∧ b < w.heap.size ∧ w.cell? ⟨b, off + i, none⟩ = some u ∧ Sl w u (L.getD i []) := by
  obtain ⟨a', c', e, _, _, h3⟩ := h
  injection e with e1 _ _
  obtain ⟨b, off, u, ha, r⟩ := h3 i hi
  exact ⟨b, off, u, by rw [e1]; exact ha, r⟩
/-- the clocks of a row of what is known -/
def clkM (ps : List Sn) : List (List Int) := ps.map clM
/-- the loop of Clocks, when k clocks are laid -/
structure LoC (w0 w : World) (q : Nat) (ps : List Sn) (k : Nat) : Prop where
  blk : ∃ cs : Array Value, w.heap[q]? = some (.cells cs 23 (0, 0)) ∧ cs.size = ps.length ∧ (∀ (j : Nat) (u : Value), cs[j]? = some u → ∃ a n c, u = Value.slice a n c) ∧ ∀ j, j < k → ∃ u, cs[j]? = some u ∧ Sl w u (clM (ps.getD j sn0))
  lo : w0.heap.size ≤ q
  bel : Below w0.heap.size w0 w
theorem LoC.start {w0 w : World} (hb : Below w0.heap.size w0 w) (ps : List Sn) : LoC w0 (w.alloc (.cells (madeCells #[.slice none 0 0] ps.length) 23)) w.heap.size ps 0 :=
  ⟨⟨_, Go.Deep.blk_alloc_new _ _, by rw [size_madeCells], fun j u hu => ⟨none, 0, 0, by
    have h1 := (Array.getElem?_eq_some_iff.1 hu).2
    rw [← h1]
    simp [madeCells, Nat.mod_one]⟩, fun j hj => absurd hj (Nat.not_lt_zero _)⟩, hb.size, bel_al hb _⟩
theorem LoC.below {w0 w w' : World} {q : Nat} {ps : List Sn} {k : Nat} (h : LoC w0 w q ps k) (hb : Below w.heap.size w w') : LoC w0 w' q ps k := by
  obtain ⟨⟨cs, h1, h2, h6, h3⟩, h4, h5⟩ := h
  refine ⟨⟨cs, (hb.block _ (lt_of_blk h1)).trans h1, h2, h6, fun j hj => ?_⟩, h4, h5.trans (hb.mono h5.size)⟩
  obtain ⟨u, u1, u2⟩ := h3 j hj
  exact ⟨u, u1, u2.bel hb⟩
theorem Sl.apart {w : World} {v : Value} {l : List Int} (h : Sl w v l) {q : Nat} {cs : Array Value} (hq : w.heap[q]? = some (.cells cs 23 (0, 0))) (hc : ∀ (j : Nat) (u : Value), cs[j]? = some u → ∃ a n c, u = Value.slice a n c) (j : Nat) (u : Value) : Sl (w.setCell ⟨q, j, none⟩ u) v l := by
  obtain ⟨hf, a, cap, hv, h1, h2, h3⟩ := h
  refine ⟨hf, a, cap, hv, h1, h2, fun i hi => ?_⟩
  obtain ⟨b, off, ha, hlt, hcell⟩ := h3 i hi
  have hne : b ≠ q := fun e => by
    rw [e] at hcell
    simp [World.cell?, hq] at hcell
    obtain ⟨_, _, _, e9⟩ := hc _ _ hcell
    cases e9
  refine ⟨b, off, ha, by rw [size_setCell]; exact hlt, ?_⟩
  have := Below.heap_setCell w ⟨q, j, none⟩ u b hne
  unfold World.cell? at hcell ⊢
  rw [this]
  exact hcell
theorem LoC.set {w0 w : World} {q : Nat} {ps : List Sn} {k : Nat} (h : LoC w0 w q ps k) (hk : k < ps.length) {v : Value} (hv : Sl w v (clM (ps.getD k sn0))) : LoC w0 (w.setCell ⟨q, k, none⟩ v) q ps (k + 1) := by
  obtain ⟨⟨cs, h1, h2, h6, h3⟩, h4, h5⟩ := h
  refine ⟨⟨cs.setIfInBounds k v, heap_setCell_same w q k _ _ _ h1, by simpa using h2, fun j u hu => ?_, fun j hj => ?_⟩, h4, h5.setCell (p := ⟨q, k, none⟩) h4 v⟩
  · rw [Array.getElem?_setIfInBounds] at hu
    split at hu
    · split at hu
      · obtain ⟨a, n, c, e, _⟩ := hv.slice
        exact ⟨a, n, c, by rw [← Option.some.inj hu]; exact e⟩
      · cases hu
    · exact h6 j u hu
  · rw [Array.getElem?_setIfInBounds]
    by_cases e : k = j
    · subst e
      rw [if_pos rfl, if_pos (by omega)]
      exact ⟨v, rfl, hv.apart h1 h6 k v⟩
    · rw [if_neg e]
      obtain ⟨u, u1, u2⟩ := h3 j (by omega)
      exact ⟨u, u1, u2.apart h1 h6 k v⟩
theorem LoC.cell {w0 w : World} {q : Nat} {ps : List Sn} {k : Nat} (h : LoC w0 w q ps k) (j : Nat) (hj : j < ps.length) : (∃ u, w.cell? ⟨q, j, none⟩ = some u) ∧ w.frozen? ⟨q, j, none⟩ = false := by
  obtain ⟨⟨cs, h1, h2, h6, h3⟩, h4, h5⟩ := h
  exact ⟨⟨cs[j]'(by omega), blk_cell h1 j _ (Array.getElem?_eq_getElem _)⟩, blk_frz h1 j⟩
theorem LoC.done {w0 w : World} {q : Nat} {ps : List Sn} (h : LoC w0 w q ps ps.length) (hn : ps.length ≤ 100000) : SlL w (.slice (some ⟨q, 0, none⟩) ps.length ps.length) (clkM ps) := by
  obtain ⟨⟨cs, h1, h2, h6, h3⟩, h4, h5⟩ := h
  have hl : (clkM ps).length = ps.length := by simp [clkM]
  refine ⟨some ⟨q, 0, none⟩, ps.length, by rw [hl], by omega, by unfold maxLen; omega, fun i hi => ?_⟩
  obtain ⟨u, u1, u2⟩ := h3 i (by omega)
  refine ⟨q, 0, u, rfl, lt_of_blk h1, by rw [Nat.zero_add]; exact blk_cell h1 i u u1, ?_⟩
  have : (clkM ps).getD i [] = clM (ps.getD i sn0) := by
    have hi' : i < ps.length := by omega
    simp [clkM, List.getD, hi']
  rw [this]
  exact u2
theorem info_ints : (Tryd.prog.info? 23).map (fun i => (i.zero, i.size, i.bytes)) = some (some (.slice none 0 0), 1, 24) := by kernel_rfl
set_option maxRecDepth 20000 in
set_option maxHeartbeats 2000000 in
theorem clocks_any {w : World} {vT vR ev : Value} {T : List Ev} {R : List Int} (hT : SlE w vT T) (hR : Sl w vR R) (hE : Er w ev) (hF : formT T = true) (hW : ∀ k, k < T.length → wfI (T.getD k zE).o) (hn : T.length ≤ 100000) (hB : ∀ a, a < T.length → ∀ g, g < 8 → knowM R T a g ≤ 1000000) :
    Calls Tryd.prog 7 #[vT, vR] w (fun e w' => ∃ v, e = .returned (.tuple #[v, .nilIface]) ∧ Below w.heap.size w w' ∧ SlL w' v (clkM (pastsM R T))) := by
  have CK := hide (check_any hT hE hn)
  rw [hF, show erF ev true = .nilIface from rfl] at CK
  obtain ⟨ps, hps⟩ : ∃ ps, ps = pastsM R T := ⟨_, rfl⟩
  have HP := hide (fun wz (b : Below w.heap.size w wz) => show Calls Tryd.prog 20 #[vT, vR] wz (fun e w' => ∃ v, e = .returned v ∧ Below wz.heap.size wz w' ∧ SlS w' v ps) from by rw [hps]; exact pasts_any (hT.bel b) (hR.bel b) (fun k hk => formT_at hF k hk) hW hn)
  have PL := hide (show ps.length ≤ 100000 by rw [hps, pastsM_len]; exact hn)
  have BD : Hid (∀ i, i < ps.length → ∀ g, g < 8 → (ps.getD i sn0) g ≤ 1000000) := hide (by rw [hps]; intro i hi; exact hB i (by rw [pastsM_len] at hi; exact hi))
  have hmk := run_make_row' (P := Tryd.prog) 27 23 (.slice none 0 0) 24 Tryd.underlying27 info_ints rfl .i64 .i64 ps.length (by have := PL.out; omega) (by have := PL.out; omega)
  rw [← hps]
  clear hT hR hE hF hW hn hB hps
  go_enter Tryd.func7, Tryd.ntmps7
  go_wp2_with fail
  refine CK.out.mono ?_
  rintro e w1 ⟨rfl, b1⟩
  have B1 := hide b1
  have P1 := hide (HP.out w1 b1)
  clear b1 CK HP
  go_wp2_with fail
  refine P1.out.mono ?_
  rintro e w2 ⟨v, rfl, b2, hs⟩
  have B2 := hide (bel_trans B1.out b2)
  have HS := hide hs
  obtain ⟨aP, cP, rfl, _, _⟩ := hs.form
  clear b2 hs P1
  go_wp2_with fail
  have L0 := hide (LoC.start B2.out ps)
  have HB0 := hide (bel_new w2 (.cells (madeCells #[.slice none 0 0] ps.length) 23))
  generalize w2.alloc (.cells (madeCells #[.slice none 0 0] ps.length) 23) = w3 at *
  go_loopw [24] (fun i wr => ∃ k : Nat, k ≤ ps.length ∧ i = .int .i64 k ∧ Hid (LoC w wr w2.heap.size ps k ∧ Below w2.heap.size w2 wr)) (fun i _ => ps.length - (intOf i).toNat)
  case atStart => exact ⟨0, Nat.zero_le _, rfl, hide ⟨L0.out, HB0.out⟩⟩
  case round =>
    obtain ⟨k, hk, rfl, hI⟩ := hrel
    have H := hide hI.out.1
    have HB := hide hI.out.2
    have HS := hide (HS.out.bel hI.out.2)
    clear hI L0
    by_cases hlt : k < ps.length
    · have hlt' : (k : Int) < (ps.length : Int) := by omega
      have hk8 : k ≤ 100000 := by have := PL.out; omega
      obtain ⟨bp, eP, hA⟩ := HS.out.at k hlt
      subst eP
      have c0 := hA.cell 0 (by omega)
      have c1 := hA.cell 1 (by omega)
      have c2 := hA.cell 2 (by omega)
      have c3 := hA.cell 3 (by omega)
      have c4 := hA.cell 4 (by omega)
      have c5 := hA.cell 5 (by omega)
      have c6 := hA.cell 6 (by omega)
      have c7 := hA.cell 7 (by omega)
      rw [Nat.add_zero] at c0
      have BK := hide (BD.out k hlt)
      have SV := hide (fun v' (wz : World) (h' : LoC w wz w2.heap.size ps k) (hv : Sl wz v' (clM (ps.getD k sn0))) => h'.set hlt hv)
      obtain ⟨s, hs⟩ : ∃ s, s = ps.getD k sn0 := ⟨_, rfl⟩
      rw [← hs] at c0 c1 c2 c3 c4 c5 c6 c7 BK SV
      clear hA hs
      go_upto_region 9 with fail
      have B4 := hide (bel_new wr (.cells (snC s).toArray 58))
      have A4 : Hid (Ar (wr.alloc (.cells (snC s).toArray 58)) wr.heap.size 0 s) := hide ⟨_, _, Go.Deep.blk_alloc_new wr _, fun i hi => by
        rcases (by omega : i = 0 ∨ i = 1 ∨ i = 2 ∨ i = 3 ∨ i = 4 ∨ i = 5 ∨ i = 6 ∨ i = 7) with rfl | rfl | rfl | rfl | rfl | rfl | rfl | rfl <;> rfl⟩
      unfold snC at B4 A4
      generalize hw4 : wr.alloc (.cells #[.int .i64 (s 0), .int .i64 (s 1), .int .i64 (s 2), .int .i64 (s 3), .int .i64 (s 4), .int .i64 (s 5), .int .i64 (s 6), .int .i64 (s 7)] 58) = w4
      have B4 : Hid (Below wr.heap.size wr w4) := by rw [← hw4]; exact B4
      have A4 : Hid (Ar w4 wr.heap.size 0 s) := by rw [← hw4]; exact A4
      clear hw4 c0 c1 c2 c3 c4 c5 c6 c7
      have SH := hide (short_any A4.out BK.out)
      have L4 := hide (H.out.below B4.out)
      have HB4 := hide (HB.out.trans (B4.out.mono HB.out.size))
      go_wp2_with (first | (go_at_call 21; refine SH.out.mono ?_; rintro e w5 ⟨v, rfl, hs5, hb5⟩; obtain ⟨a9, c9, e9, _⟩ := hs5.form; subst e9; have HB5 := hide ((HB4.out.trans (hb5.mono HB4.out.size)).setCell (p := ⟨w2.heap.size, k, none⟩) (Nat.le_refl _) (.slice a9 (clM s).length c9)); have L5 := hide (SV.out _ _ (L4.out.below hb5) hs5); obtain ⟨⟨u, cu⟩, fu⟩ := (L4.out.below hb5).cell k hlt; clear hs5 hb5))
      go_roundw
      case rel => exact ⟨k + 1, by omega, by go_num, hide ⟨L5.out, HB5.out⟩⟩
      case measure => simp [intOf]; omega
    · obtain rfl : k = ps.length := by omega
      have D := hide (H.out.done PL.out)
      have B := hide H.out.bel
      go_wp2_with fail
      go_ret2
      exact ⟨_, rfl, B.out, D.out⟩
end Go.Proofs.YticgmebbnnmikaaDoor.Ck
