/- The contracts of Words, and of the statements' own alive. -/
import Derived.Test.YtflokfbdogofmaaDoorPk
import Derived.Test.YtflokfbdogofmaaDoorElD
namespace Go.Proofs.YtflokfbdogofmaaDoor.Ck
open Go.RowKit

/-- n words of the stream, from number f on -/
def wordsL (S : List Int) (f n : Nat) : List Int := (List.range n).map fun i => wordN S (f + i)
theorem wordsL_len (S : List Int) (f n : Nat) : (wordsL S f n).length = n := by simp [wordsL]
theorem wordsL_at (S : List Int) (f n i : Nat) (h : i < n) : (wordsL S f n).getD i 0 = wordN S (f + i) := by simp [wordsL, List.getD, h]
def fillD (S : List Int) (f n k : Nat) : List Int := wordsL S f k ++ List.replicate (n - k) 0
theorem fillD_len (S : List Int) (f n k : Nat) (h : k ≤ n) : (fillD S f n k).length = n := by simp [fillD, wordsL_len]; omega
theorem fillD_set (S : List Int) (f n k : Nat) (h : k < n) : (fillD S f n k).set k (wordN S (f + k)) = fillD S f n (k + 1) := by
  have hl := wordsL_len S f k
  have e : wordsL S f (k + 1) = wordsL S f k ++ [wordN S (f + k)] := by simp [wordsL, List.range_succ]
  unfold fillD
  rw [List.set_append_right _ _ (by omega), hl, Nat.sub_self, e, show n - k = (n - (k + 1)) + 1 by omega, List.replicate_succ]
  simp
theorem fillD_all (S : List Int) (f n : Nat) : fillD S f n n = wordsL S f n := by simp [fillD]

set_option maxRecDepth 20000 in
set_option maxHeartbeats 1000000 in
theorem words_ok (m : List Int) (v : Value) (f n : Nat) (w : World) (hv : SB w v m) (hl : m.length ≤ 900000000) (hf : f ≤ 1099511627776) (hn : n ≤ 4096) (htab : Tab w) :
    Calls Tryd.prog 23 #[v, .int .i64 f, .int .i64 n] w fun e w' => ∃ g, e = .returned (.tuple #[.slice (some ⟨g, 0, none⟩) n n, .nilIface]) ∧ OwnD w' w.heap.size g n (wordsL (sha m) f n) ∧ Below w.heap.size w w' := by
  have HL := hide hl
  clear hl
  have d1 : decide ((f : Int) < 0) = false := decide_eq_false (by omega)
  have d2 : decide ((1099511627776 : Int) < (f : Int)) = false := decide_eq_false (by omega)
  have d3 : decide ((n : Int) < 0) = false := decide_eq_false (by omega)
  have d4 : decide ((4096 : Int) < (n : Int)) = false := decide_eq_false (by omega)
  go_enter Tryd.func23, Tryd.ntmps23
  go_wp2_with fail
  refine (streamOf_any m v f w hv HL.out htab).mono ?_
  rintro e w1 ⟨rfl, hb1⟩
  have hsl : Hid ((sha m).length = 32) := sha_len m
  have hsf : Hid (Fit8 (sha m)) := sha_fit' m
  generalize eS : sha m = S at *
  have ES := hide eS
  clear eS
  have hsz : Hid ((Tryd.prog.info? 61).map (·.size) = some (bv S ++ [Value.int .i64 f]).length) := by show _ = _; rw [List.length_append, bv_len, hsl.out]; exact info33
  have hl0 : Hid (zero33.length = (bv S ++ [Value.int .i64 f]).length) := by show _ = _; rw [List.length_append, bv_len, hsl.out]; rfl
  go_wp2_with (first | (refine wpList_new 61 _ zero61 8 rfl rfl rfl ?_; intro w2 g2 e2 b2 hb2 s2) | (refine wpList_lay 61 (.tmp 8) (.tmp 28) g2 61 _ (bv S ++ [Value.int .i64 f]) b2 hl0.out hsz.out (one33 S f) rfl rfl rfl rfl ?_; intro w3 b3 t3 s3) | (refine wpList_makeD (.tmp 29) (.tmp 29) n n n n rfl rfl (Nat.le_refl _) (by omega) rfl rfl rfl rfl ?_; intro w4 g4 e4 o4 hb4))
  have hb12 := bel_trans hb1 hb2
  have hb3 : Below w.heap.size w w3 := bel_tn hb12 t3 (by rw [e2.out]; exact hb1.size)
  have hbw := bel_trans hb3 hb4
  have b4 := b3.bel hb4
  have hge : Hid (w.heap.size ≤ g2 ∧ w.heap.size ≤ g4 ∧ g2 ≠ g4 ∧ g2 ≠ 17) := by
    have h1 := e2.out
    have h2 := e4.out
    have h3 := b3.lt
    have h4 := hb1.size
    have h5 := hb3.size
    have h6 := htab.1
    refine ⟨?_, ?_, ?_, ?_⟩ <;> omega
  have o4 : OwnD w4 0 g4 n (fillD S f n 0) := by
    have := o4.down (Nat.zero_le _)
    simpa [fillD, wordsL] using this
  clear hb1 hb2 hb12 hb3 hb4 b2 b3 t3 e2 s2 s3 e4
  go_loopw [33] (fun i wr => ∃ k c : Nat, k ≤ n ∧ Hid (c = f + k) ∧ i = .int .i64 k ∧ OwnD wr 0 g4 n (fillD S f n k) ∧ Blk wr g2 61 (bv S ++ [Value.int .i64 c]) ∧ Below w.heap.size w wr) (fun i _ => n - (intOf i).toNat)
  case atStart => exact ⟨0, f, Nat.zero_le _, rfl, rfl, o4, b4, hbw⟩
  case round =>
    obtain ⟨k, c, hk, EC, rfl, o, b, hb⟩ := hrel
    by_cases hlt : k < n
    · have hc : c ≤ 4611686018427387904 := by have := EC.out; omega
      have d5 : decide ((k : Int) < (n : Int)) = true := decide_eq_true (by omega)
      have i5 : (0 : Int) ≤ (k : Int) ∧ (k : Int) < (n : Int) := by omega
      have ht := htab.bel hb
      go_wp2_with fail
      refine (next_any g2 61 S [] c wr b hsl.out hsf.out hc ht).mono ?_
      rintro e w6 ⟨rfl, b6, t6⟩
      have o6 := o.tn t6 (Ne.symm hge.out.2.2.1)
      have q6 : ∃ z, w6.cell? ⟨g4, k, none⟩ = some z := ⟨_, o6.cell k (by rw [fillD_len _ _ _ _ hk]; exact hlt)⟩
      obtain ⟨z6, q6⟩ := q6
      have f6 := o6.frozen k
      have T := o6.set k (wordN S c)
      rw [EC.out, fillD_set S f n k hlt, ← EC.out] at T
      have T := hide T
      have hb6 : Below w.heap.size w w6 := hb.trans (t6.bel hge.out.1 hb.size)
      generalize wordN S c = x at *
      go_wp2_with fail
      go_roundw
      case rel => exact ⟨k + 1, c + 1, by omega, by have := EC.out; show _ = _; omega, by go_num, T.out.1, b6.tn T.out.2 hge.out.2.2.1, hb6.trans (T.out.2.bel hge.out.2.1 hb6.size)⟩
      case measure => simp [intOf]; omega
    · have d5 : decide ((k : Int) < (n : Int)) = false := decide_eq_false (by omega)
      have ek : Hid (k = n) := by show _ = _; omega
      go_wp2_with fail
      go_ret2
      have e2 := fillD_all S f n
      rw [ek.out, e2] at o
      refine ⟨g4, rfl, ?_, hb⟩
      rw [ES.out]
      obtain ⟨cur, _, h2, h3, h4, h5, h6⟩ := o.parts
      exact OwnD.mk cur hge.out.2.1 h2 h3 h4 h5 h6

set_option maxHeartbeats 400000 in
theorem words_bad (v : Value) (f n : Int) (ev : Value) (w : World) (hb : f < 0 ∨ 1099511627776 < f ∨ n < 0 ∨ 4096 < n) (hE : w.cell? ⟨0, 0, none⟩ = some ev) :
    Calls Tryd.prog 23 #[v, .int .i64 f, .int .i64 n] w fun e w' => e = .returned (.tuple #[.slice none 0 0, ev]) ∧ Below w.heap.size w w' := by
  by_cases h1 : f < 0
  · have d1 : decide (f < 0) = true := decide_eq_true h1
    clear hb
    go_enter Tryd.func23, Tryd.ntmps23
    go_wp2_with fail
    go_quiet (fail)
    go_wp2_with fail
    go_ret2
    exact ⟨rfl, ⟨rfl, rfl, rfl, Nat.le_refl _, fun _ _ => rfl⟩⟩
  · have d1 : decide (f < 0) = false := decide_eq_false h1
    by_cases h2 : 1099511627776 < f
    · have d2 : decide (1099511627776 < f) = true := decide_eq_true h2
      clear hb
      go_enter Tryd.func23, Tryd.ntmps23
      go_wp2_with fail
      go_quiet (fail)
      go_wp2_with fail
      go_ret2
      exact ⟨rfl, ⟨rfl, rfl, rfl, Nat.le_refl _, fun _ _ => rfl⟩⟩
    · have d2 : decide (1099511627776 < f) = false := decide_eq_false h2
      by_cases h3 : n < 0
      · have d3 : decide (n < 0) = true := decide_eq_true h3
        clear hb
        go_enter Tryd.func23, Tryd.ntmps23
        go_wp2_with fail
        go_quiet (fail)
        go_wp2_with fail
        go_ret2
        exact ⟨rfl, ⟨rfl, rfl, rfl, Nat.le_refl _, fun _ _ => rfl⟩⟩
      · have d3 : decide (n < 0) = false := decide_eq_false h3
        have h4 : 4096 < n := by omega
        have d4 : decide (4096 < n) = true := decide_eq_true h4
        clear hb
        go_enter Tryd.func23, Tryd.ntmps23
        go_wp2_with fail
        go_quiet (fail)
        go_wp2_with fail
        go_ret2
        exact ⟨rfl, ⟨rfl, rfl, rfl, Nat.le_refl _, fun _ _ => rfl⟩⟩

end Go.Proofs.YtflokfbdogofmaaDoor.Ck
