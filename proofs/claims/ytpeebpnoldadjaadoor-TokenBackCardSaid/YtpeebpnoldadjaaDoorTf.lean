/- The contracts of the reader's mark and word. -/
import Derived.Test.YtpeebpnoldadjaaDoorTe
namespace Go.Proofs.YtpeebpnoldadjaaDoor.Ck
open Go.RowKit

/-- how a reading method ends -/
def Post (g : Nat) (s : ByteArray) (p : List Addr) (w : World) (e : Ending) (w' : World) : Got → Prop
  | .ok t j => e = .returned t.val ∧ Rdr w' g s j ∧ Tn g w w'
  | .bad k j => e = stop (errV p k) j ∧ Tn g w w'

theorem Tn.own {g n : Nat} {w a b : World} (h : Tn g w a) (k : Tn n a b) (hn : w.heap.size ≤ n) : Tn g w b :=
  ⟨k.os.trans h.os, k.tape.trans h.tape, k.output.trans h.output, Nat.le_trans h.size k.size, fun x hx hs => (k.blk x (Nat.lt_of_lt_of_le hx h.size) (by omega)).trans (h.blk x hx hs)⟩
theorem Rdr.tn {w w' : World} {g n : Nat} {s : ByteArray} {i : Nat} (h : Rdr w g s i) (t : Tn n w w') (hn : g ≠ n) : Rdr w' g s i := (t.blk g (lt_of_blk h) hn).trans h
theorem Tok.tn {w w' : World} {g n : Nat} {a b c d e : Value} (h : Tok w g a b c d e) (t : Tn n w w') (hn : g ≠ n) : Tok w' g a b c d e := (t.blk g (lt_of_blk h) hn).trans h
theorem Tok.bel {w w' : World} {g : Nat} {a b c d e : Value} (h : Tok w g a b c d e) (hb : Below w.heap.size w w') : Tok w' g a b c d e := (hb.block g (lt_of_blk h)).trans h
theorem bel_drew {w w' : World} (h : Below w.drew.heap.size w.drew w') : Below w.heap.size w w' := ⟨h.os, h.tape, h.output, h.size, h.block⟩

def tokZ : Obj := .cells #[.int .i64 0, .string ⟨#[]⟩, .int .i64 0, .int .u64 0, .int .i64 0] 37

set_option maxHeartbeats 1000000 in
theorem mark_any (g : Nat) (s : ByteArray) (i : Nat) (p : List Addr) (w : World) (h : Rdr w g s i) (he : Er w p) (hG : 23 ≤ g) (hs : s.size ≤ 9000) (hi : i < s.size) :
    Calls Tryd.prog 47 #[.pointer (some ⟨g, 0, none⟩)] w fun e w' => Post g s p w e w' (signF s i) := by
  have hb0 := hide (bel_new w tokZ)
  have hz0 : Hid (Tok (w.alloc tokZ) w.heap.size (.int .i64 0) (.string ⟨#[]⟩) (.int .i64 0) (.int .u64 0) (.int .i64 0)) := Go.Deep.blk_alloc_new _ _
  have H0 := hide (h.below hb0.out)
  have E0 := hide (he.bel hb0.out)
  have g1 := H0.out.src
  have g2 := H0.out.pos
  have g3 := H0.out.frz 1
  have hne : w.heap.size ≠ g := Nat.ne_of_gt (lt_of_blk h)
  have HM := hide (fun w => markLen_any s i w hs hi)
  have hm2 := markF_le2 s i
  have hme := markF_le s i (Nat.le_of_lt hi)
  have HS := hide (show signF s i = if markF s i = 0 then .bad 1 i else .ok ⟨5, cut s i (i + markF s i), 0, 0, i⟩ (i + markF s i) from rfl)
  clear h he
  unfold tokZ at *
  go_enter Tryd.func47, Tryd.ntmps47
  go_wp2_with fail
  generalize w.alloc (.cells #[.int .i64 0, .string ⟨#[]⟩, .int .i64 0, .int .u64 0, .int .i64 0] 37) = w0 at *
  refine wp_quiet_tail 14 mixed (by kernel_rfl) ?_
  simp only [List.take_succ_cons, List.take_zero, List.drop_succ_cons, List.drop_zero]
  repeat (first | go_big_quiet_skip | (go_big_quiet_want; go_big_quiet_op; first | go_big_quiet_on | (apply Exists.intro; refine ⟨?_, ?_⟩; exact (HM.out _).mono fun _ _ h => ⟨h.1, h.2.symm⟩; go_big_quiet_on)))
  refine wpQuiet_nil ?_
  by_cases hm : markF s i = 0
  · rw [if_pos hm] at HS
    obtain ⟨hr, ht⟩ := H0.out.set i (i : Int) rfl
    have x1 := (E0.out.tn ht hG).c1
    rw [hm]
    clear hme hm2
    have y2 := hr.pos
    go_wp2_with fail
    refine (refuse_any _ _ i _).mono ?_
    rintro e w1 ⟨rfl, rfl⟩
    refine ⟨rfl, ?_⟩
    rw [HS.out]
    exact ⟨rfl, ((Tn.of_bel hb0.out).trans ht).drewN 1⟩
  · rw [if_neg hm] at HS
    generalize markF s i = m at *
    obtain ⟨hr, ht⟩ := H0.out.set (i + m) ((i : Int) + (m : Int)) (by omega)
    have y1 := hr.src
    have y2 := hr.pos
    have Z1 := hide (hz0.out.tn ht hne)
    have R1 := hide hr
    have T1 := hide ((Tn.of_bel hb0.out).trans ht)
    clear hz0 H0 E0 HM ht hr hb0
    go_wp2_with fail
    refine (since_any g s i (i + m) 5 _ (R1.out.drewN 1) hs (by omega) (by omega)).mono ?_
    rintro e w2 ⟨rfl, hb2⟩
    have hb2 := bel_drew hb2
    have z2 := Z1.out.bel hb2
    have R2 := hide (R1.out.below hb2)
    have T2 := hide (T1.out.trans (Tn.of_bel hb2))
    have fz0 := blk_frz z2 0
    have fz1 := blk_frz z2 1
    have fz2 := blk_frz z2 2
    have fz3 := blk_frz z2 3
    have fz4 := blk_frz z2 4
    have cz0 := blk_cell z2 0 _ rfl
    have cz1 := blk_cell z2 1 _ rfl
    have cz2 := blk_cell z2 2 _ rfl
    have cz3 := blk_cell z2 3 _ rfl
    have cz4 := blk_cell z2 4 _ rfl
    obtain ⟨z3, t3⟩ := set5 z2 (.int .i64 5) (.string (cut s i (i + m))) (.int .i64 0) (.int .u64 0) (.int .i64 i)
    have Z3 := hide z3
    have T3 := hide t3
    clear hb2 R1 T1 Z1 z2 z3 t3 y1 y2
    go_wp2_with fail
    refine ret_tok w.heap.size rfl rfl Z3.out rfl ?_
    rw [HS.out]
    exact ⟨rfl, R2.out.tn T3.out (Ne.symm hne), T2.out.own T3.out (Nat.le_refl _)⟩

end Go.Proofs.YtpeebpnoldadjaaDoor.Ck
