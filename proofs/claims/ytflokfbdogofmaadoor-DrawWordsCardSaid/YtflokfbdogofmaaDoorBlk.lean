/- The contracts of a stream's block and of its next word. -/
import Derived.Test.YtflokfbdogofmaaDoorDr
import Derived.Test.YtflokfbdogofmaaDoorThere
namespace Go.Proofs.YtflokfbdogofmaaDoor.Ck
open Go.RowKit

theorem cut_in {w : World} {g : Nat} {t : TypeId} {S : List Int} {rest : List Value} (h : Blk w g t (bv S ++ rest)) (hl : S.length = 32) (hf : Fit8 S) : SB w (.slice (some ⟨g, 0, none⟩) 32 32) S :=
  ⟨hf, _, _, by rw [hl], by rw [hl]; decide, by unfold maxLen; omega, fun i hi => ⟨g, 0, rfl, h.lt, by rw [Nat.zero_add, h.cell, List.getElem?_append_left (by rw [bv_len]; exact hi), bv_at _ _ hi]⟩⟩

set_option maxRecDepth 20000 in
set_option maxHeartbeats 1000000 in
theorem block_any (g : Nat) (t : TypeId) (S : List Int) (rest : List Value) (n : Nat) (w : World) (hs : Blk w g t (bv S ++ rest)) (hl : S.length = 32) (hf : Fit8 S) (htab : Tab w) :
    Calls Tryd.prog 35 #[.pointer (some ⟨g, 0, none⟩), .int .u64 n] w fun e w' => e = .returned (.agg (bv (blkN S n)).toArray) ∧ Below w.heap.size w w' := by
  have HL := hide hl
  have HF := hide hf
  clear hl hf
  go_enter Tryd.func35, Tryd.ntmps35
  go_wp2_with (first | (refine wpList_new 59 _ zero37 4 rfl rfl rfl ?_; intro w1 g1 e1 b1 hb1 s1))
  refine (drow_any n w1).mono ?_
  rintro e w2 ⟨rfl, hb2⟩
  have hsz : Hid ((Tryd.prog.info? 79).map (·.size) = some (bv (row8 n)).length) := by show _ = _; rw [bv_len, row8_len]; exact info8
  have hl0 : Hid ((List.replicate 8 (Value.int .u8 0)).length = (bv (row8 n)).length) := by show _ = _; rw [bv_len, row8_len]; rfl
  go_wp2_with (first | (refine wpList_new 79 _ zero8 5 rfl rfl rfl ?_; intro w3 g3 e3 b3 hb3 s3) | (refine wpList_lay 79 (.tmp 5) (.tmp 7) g3 79 _ (bv (row8 n)) b3 hl0.out hsz.out (bv_one _) rfl rfl rfl rfl ?_; intro w4 b4 t4 s4))
  have hb12 := bel_trans hb1 hb2
  have hb3w := bel_trans hb12 hb3
  have hz1 := hb1.size
  have hz2 := hb2.size
  have hz3 := hb3.size
  have hsg := hs.lt
  have hb4 : Below w.heap.size w w4 := bel_tn hb3w t4 (by rw [e3.out]; exact hb12.size)
  have hs4 := hs.bel hb4
  have b14 : Blk w4 g1 59 (List.replicate 32 (.int .u8 0)) := ((b1.bel hb2).bel hb3).tn t4 (by rw [e3.out]; exact Nat.ne_of_lt (b1.bel hb2).lt)
  have ht4 := htab.bel hb4
  have hg1 : Hid (w.heap.size ≤ g1) := by show _ ≤ _; rw [e1.out]; exact Nat.le_refl _
  have h8 : Hid (∀ w', Blk w' g3 79 (bv (row8 n)) → SB w' (.slice (some ⟨g3, 0, none⟩) 8 8) (row8 n)) := fun w' h => by
    have := SB.of_blk h (by rw [row8_len]; unfold maxLen; omega) (row8_fit n)
    rw [row8_len] at this
    exact this
  have hz4 := t4.size
  have hlt3 := b4.lt
  have hlt1 := b14.lt
  have htl := ht4.1
  clear e1 s1 e3 s3 b1 hb1 hb2 hb3 b3 hb12 hb3w htab hs t4
  go_region_held3 (fun _ => True) (trivial)
    (first
      | (go_at_call 40; refine (new_any _).mono ?_; rintro e w5 ⟨rfl, hs5, hb5⟩; have hb5 : Below w4.heap.size w4 w5 := ⟨hb5.os, hb5.tape, hb5.output, hb5.size, hb5.block⟩)
      | (go_at_call 41; refine (take_any w4.heap.size S (row8 n) _ w6 hs6 (h8.out w6 ((b4.bel hb5).tn t6 (Nat.ne_of_lt hlt3))) (fun a n c e _ => by cases e; exact Nat.ne_of_lt hlt3) ((ht4.bel hb5).tn t6 (by omega)) (by omega) (by rw [HL.out, row8_len]; decide)).mono ?_; rintro e w7 ⟨rfl, hs7, t7⟩)
      | (go_at_call 41; refine (take_any w4.heap.size [] S _ w5 hs5 (cut_in (hs4.bel hb5) HL.out HF.out) (fun a n c e _ => by cases e; show g ≠ _; omega) (ht4.bel hb5) (by omega) (by rw [HL.out]; decide)).mono ?_; rintro e w6 ⟨rfl, hs6, t6⟩; rw [List.nil_append] at hs6)
      | (go_at_call 42; refine (sum_any w4.heap.size (S ++ row8 n) w7 hs7 (by rw [List.length_append, HL.out, row8_len]; decide) (((ht4.bel hb5).tn t6 (by omega)).tn t7 (by omega))).mono ?_; rintro e w8 ⟨rfl, hb8⟩; have b18 : Blk w8 g1 59 (List.replicate 32 (.int .u8 0)) := (((b14.bel hb5).tn t6 (by omega)).tn t7 (by omega)).bel hb8; have th8 : w8.there g1 0 (bv (sha (S ++ row8 n))).length := (by rw [bv_len, sha_len]; exact b18.there); have hi8 : (Tryd.prog.info? 59).map (·.size) = some (bv (sha (S ++ row8 n))).length := (by rw [bv_len, sha_len]; exact info37); have ho8 := bv_one (sha (S ++ row8 n))))
  have hr9 : (w8.setCells g1 0 (bv (sha (S ++ row8 n)))).rangeAt g1 0 (bv (sha (S ++ row8 n))) := World.rangeAt_setCells_same _ _ _ _ th8
  have t9 := (tn_setCells g1 (bv (sha (S ++ row8 n))) 0 w8).1
  go_wp2_with fail
  refine ret_range g1 (bv (sha (S ++ row8 n))) rfl rfl hr9 Tryd.underlying59 rfl hi8 rfl ⟨rfl, ?_⟩
  have hb8w : Below w4.heap.size w4 w8 := (bel_tn (bel_tn hb5 t6 (Nat.le_refl _)) t7 (Nat.le_refl _)).trans (hb8.mono (by have := hb5.size; have := t6.size; have := t7.size; omega))
  exact bel_tn (bel_trans hb4 hb8w) t9 hg1.out

theorem cut8_len (B : List Int) (k : Nat) (hB : B.length = 32) (hk : k < 4) : (cut8 B k).length = 8 := by simp [cut8, hB]; omega
theorem cut8_fit {B : List Int} (k : Nat) (hf : Fit8 B) : Fit8 (cut8 B k) := fit8_take (fit8_drop hf _) _
theorem cut8_range {w : World} {g : Nat} {t : TypeId} {B : List Int} (h : Blk w g t (bv B)) (k : Nat) (hB : B.length = 32) (hk : k < 4) : w.rangeAt g (8 * k) (bv (cut8 B k)) := h.range _ _ (fun j hj => by
  rw [bv_len, cut8_len B k hB hk] at hj
  unfold bv cut8
  rw [List.getElem?_map, List.getElem?_map, List.getElem?_take_of_lt hj, List.getElem?_drop])
theorem sha_fit' (m : List Int) : Fit8 (sha m) := fun z hz => by
  obtain ⟨i, _, rfl⟩ := List.mem_map.1 hz
  omega

theorem wpList_arrayAt {w : World} {ops : Array Oper} {rest : List Oper} {o : Oper} {a : Act} {Q : Exit → Act → World → Prop} (x : Operand) (ad : Option Addr) (len cap : Nat) (hgd : o.guard = none) (ho : o.op = .sliceToArrayPointer 79 x) (hx : a.eval x = .slice ad len cap) (hn : 8 ≤ len)
    (h : wpList Tryd.prog ops Q rest (a.put o.dst (.pointer ad)) w) : wpList Tryd.prog ops Q (o :: rest) a w :=
  wpList_val hgd (.pointer ad) w (by
    unfold execOp
    simp only [ho, hx, run_arrayAt w 79 5 8 ad len cap Tryd.underlying79 hn, Sem.run_bind, Sem.run_pure, Result.andThen_ok]) h

set_option maxRecDepth 20000 in
set_option maxHeartbeats 1000000 in
theorem next_any (g : Nat) (t : TypeId) (S : List Int) (rest : List Value) (n : Nat) (w : World) (hs : Blk w g t (bv S ++ .int .i64 n :: rest)) (hl : S.length = 32) (hf : Fit8 S) (hn : n ≤ 4611686018427387904) (htab : Tab w) :
    Calls Tryd.prog 28 #[.pointer (some ⟨g, 0, none⟩)] w fun e w' => e = .returned (.int .u64 (wordN S n)) ∧ Blk w' g t (bv S ++ .int .i64 ((n + 1 : Nat) : Int) :: rest) ∧ Tn g w w' := by
  have HL := hide hl
  have HF := hide hf
  clear hl hf
  have HQ : Hid (∀ w', Blk w' g t (bv S ++ .int .i64 n :: rest) → w'.cell? ⟨g, 32, none⟩ = some (.int .i64 n) ∧ w'.frozen? ⟨g, 32, none⟩ = false) := fun w' h => ⟨by
    rw [h.cell, List.getElem?_append_right (by rw [bv_len, HL.out]; decide), bv_len, HL.out]; rfl, h.frozen _⟩
  obtain ⟨q0, _⟩ := HQ.out w hs
  obtain ⟨nq, enq⟩ : ∃ nq, nq = n / 4 := ⟨_, rfl⟩
  obtain ⟨nr, enr⟩ : ∃ nr, nr = n % 4 := ⟨_, rfl⟩
  have hq : (n : Int) / 4 = (nq : Int) := by omega
  have hr : (n : Int) % 4 = (nr : Int) := by omega
  have hr4 : nr < 4 := by omega
  have ir : (0 : Int) ≤ (nr : Int) ∧ (nr : Int) < 4 := by omega
  have EW : Hid (wordN S n = num8 (cut8 (blkN S nq) nr)) := by show _ = _; rw [enq, enr]; rfl
  obtain ⟨p8, ep8⟩ : ∃ p8, p8 = 8 * nr := ⟨_, rfl⟩
  have hp8 : (nr : Int) * 8 = (p8 : Int) := by omega
  have ip8 : (0 : Int) ≤ (p8 : Int) ∧ (p8 : Int) ≤ 24 := by omega
  have np8 : ¬ 32 = p8 := by omega
  have jp8 : (p8 : Int) + 8 ≤ 32 := by omega
  have kp8 : (p8 : Int) ≤ (p8 : Int) + 8 := by omega
  have Ep8 := hide ep8
  clear enq enr ep8
  go_enter Tryd.func28, Tryd.ntmps28
  go_wp2_with fail
  refine (block_any g t S (.int .i64 n :: rest) nq w hs HL.out HF.out htab).mono ?_
  rintro e w1 ⟨rfl, hb1⟩
  have hBl : Hid ((blkN S nq).length = 32) := blkN_len _ _
  have hBf : Hid (Fit8 (blkN S nq)) := sha_fit' _
  generalize blkN S nq = B at *
  have hsz : Hid ((Tryd.prog.info? 59).map (·.size) = some (bv B).length) := by show _ = _; rw [bv_len, hBl.out]; exact info37
  have hl0 : Hid ((List.replicate 32 (Value.int .u8 0)).length = (bv B).length) := by show _ = _; rw [bv_len, hBl.out]; rfl
  have hs1 := hs.bel hb1
  have hc8 : Hid ((cut8 B nr).length = 8) := cut8_len B nr hBl.out hr4
  have hsz8 : Hid ((Tryd.prog.info? 79).map (·.size) = some (bv (cut8 B nr)).length) := by show _ = _; rw [bv_len, hc8.out]; exact info8
  have hgl := hs1.lt
  clear q0
  go_wp2_with (first | (refine wpList_new 59 _ zero37 3 rfl rfl rfl ?_; intro w2 g2 e2 b2 hb2 s2) | (refine wpList_lay 59 (.tmp 3) (.tmp 12) g2 59 _ (bv B) b2 hl0.out hsz.out (bv_one _) rfl rfl rfl rfl ?_; intro w3 b3 t3 s3; have hne : g ≠ g2 := (by rw [e2.out]; exact Nat.ne_of_lt hgl); have hs3 := (hs1.bel hb2).tn t3 hne; obtain ⟨q3, f3⟩ := HQ.out w3 hs3; have T := hide (hs3.set 32 (.int .i64 ((n : Int) + 1))); have hrg := cut8_range (b3.tn T.out.2 (Ne.symm hne)) nr hBl.out hr4; rw [← Ep8.out] at hrg) | (refine wpList_arrayAt (.tmp 29) (some ⟨g2, p8, none⟩) (p8 + 8 - p8) (32 - p8) rfl rfl rfl (by omega) ?_) | (refine wpList_load_mid rfl 79 (.tmp 30) rfl g2 p8 rfl (bv (cut8 B nr)) _ hrg Tryd.underlying79 rfl hsz8.out ?_))
  refine (number_any (cut8 B nr) hc8.out (cut8_fit nr hBf.out) _).mono ?_
  rintro e w5 ⟨rfl, hb5⟩
  have T1 := T.out
  rw [List.set_append_right _ _ (by rw [bv_len, HL.out]; decide), bv_len, HL.out] at T1
  have hset : (Value.int IntKind.i64 n :: rest).set (32 - 32) (.int .i64 ((n : Int) + 1)) = .int .i64 ((n + 1 : Nat) : Int) :: rest := by simp
  rw [hset] at T1
  have b5 := T1.1.bel hb5
  have t5 : Tn g w w5 := ((((Tn.of_bel hb1).trans (Tn.of_bel hb2)).later t3 (by rw [e2.out]; exact hb1.size)).trans T1.2).trans (Tn.of_bel hb5)
  clear T1 hset hb5 T q3 f3 hs3 hrg b3 t3
  generalize w3.setCell ⟨g, 32, none⟩ (.int .i64 ((n : Int) + 1)) = w4 at *
  go_wp2_with fail
  go_ret
  exact ⟨ret_int EW.out.symm, b5, t5⟩

end Go.Proofs.YtflokfbdogofmaaDoor.Ck
