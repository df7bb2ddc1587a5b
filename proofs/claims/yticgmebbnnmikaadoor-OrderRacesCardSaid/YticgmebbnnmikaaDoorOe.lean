/- Package order: what an event's count tells (clock.Get, Of, AtMost; of, holds), and a place's spot. -/
import Derived.Test.YticgmebbnnmikaaDoorOd
namespace Go.Proofs.YticgmebbnnmikaaDoor.Ck
open Go.RowKit

theorem max0 (x : Int) : max x 0 = if x < 0 then 0 else x := by split <;> omega
set_option maxRecDepth 20000 in
theorem get_any {w : World} {b o : Nat} {s : Sn} (h : Ar w b o s) (g : Nat) (hg : g < 8) : Calls Tryd.prog 51 #[.slice (some ⟨b, o, none⟩) 8 8, .int .i64 (g : Nat)] w (fun e w' => e = .returned (.int .i64 (max (s g) 0)) ∧ w' = w) := by
  have c := h.cell g hg
  have hb := h.lt
  have hg' : (g : Int) < 8 := by omega
  generalize s g = x at *
  rw [max0]
  clear h
  go_enter Tryd.func51, Tryd.ntmps51
  go_wp2_with fail
  · go_ret
    exact ⟨by first | rfl | (congr 2; split <;> omega), rfl⟩
  · go_ret
    exact ⟨by first | rfl | (congr 2; split <;> omega), rfl⟩
set_option maxRecDepth 20000 in
theorem clockOf_any {w : World} {b o : Nat} {s : Sn} (h : Ar w b o s) (g : Nat) (hg : g < 8) : Calls Tryd.prog 34 #[.slice (some ⟨b, o, none⟩) 8 8, .int .i64 (g : Nat)] w (Vb w (.agg #[.int .i64 (g : Nat), .int .i64 (max (s g) 0)])) := by
  have GT := hide (fun wz (hz : Below w.heap.size w wz) => get_any (h.bel hz) g hg)
  generalize max (s g) 0 = x at *
  clear h
  go_enter Tryd.func34, Tryd.ntmps34
  go_wp2_with fail
  refine (GT.out _ (bel_new w _)).mono ?_
  rintro e w1 ⟨rfl, rfl⟩
  go_wp2_with fail
  refine ret_agg w.heap.size _ rfl rfl rfl ?_ Tryd.underlying62 (by kernel_rfl) rfl ⟨rfl, bel_new w _⟩
  exact Go.Deep.blk_alloc_new w _
set_option maxRecDepth 20000 in
theorem atMost_any {w : World} {b o : Nat} {s : Sn} (h : Ar w b o s) (g : Nat) (hg : g < 8) (n : Int) : Calls Tryd.prog 33 #[.agg #[.int .i64 (g : Nat), .int .i64 n], .slice (some ⟨b, o, none⟩) 8 8] w (Vb w (.bool (decide (n ≤ max (s g) 0)))) := by
  have GT := hide (fun wz (hz : Below w.heap.size w wz) => get_any (h.bel hz) g hg)
  generalize max (s g) 0 = x at *
  have B0 := hide (bel_new w (.cells #[.int .i64 (g : Nat), .int .i64 n] 62))
  clear h
  go_enter Tryd.func33, Tryd.ntmps33
  go_wp2_with fail
  go_quiet ((go_at_call 51; exact Calls.quiet_of_same (GT.out _ (below_drewN B0.out _))))
  go_wp2_with fail
  go_ret
  exact ⟨rfl, below_drewN B0.out _⟩
set_option maxRecDepth 20000 in
theorem of_any {w : World} {b o : Nat} {s : Sn} (h : Ar w b o s) (g : Nat) (hg : g < 8) : Calls Tryd.prog 23 #[.pointer (some ⟨b, o, none⟩), .int .i64 (g : Nat)] w (Vb w (.agg #[.int .i64 (g : Nat), .int .i64 (max (s g) 0)])) := by
  have GT := hide (fun wz (hz : Below w.heap.size w wz) => clockOf_any (h.bel hz) g hg)
  have hb := h.lt
  have hc := h.cell 0 (by omega)
  generalize max (s g) 0 = x at *
  clear h
  go_enter Tryd.func23, Tryd.ntmps23
  go_wp2_with fail
  refine (GT.out _ (bel_new w _)).mono ?_
  rintro e w2 ⟨rfl, b2⟩
  have hz := (b2.block w.heap.size (lt_of_blk (Go.Deep.blk_alloc_new w _))).trans (Go.Deep.blk_alloc_new w (.cells #[.int .i64 0, .int .i64 0] 62))
  have c0 := blk_cell hz 0 _ rfl
  have c1 := blk_cell hz 1 _ rfl
  have f0 := blk_frz hz 0
  have f1 := blk_frz hz 1
  have HZ := hide hz
  have BB := hide (bel_trans (bel_new w (.cells #[.int .i64 0, .int .i64 0] 62)) b2)
  clear hz b2
  go_wp2_with fail
  have e0 := heap_setCell_same w2 w.heap.size 0 _ _ (.int .i64 (g : Nat)) HZ.out
  have e1 := heap_setCell_same _ w.heap.size 1 _ _ (.int .i64 x) e0
  refine ret_agg w.heap.size _ rfl rfl rfl e1 Tryd.underlying62 (by kernel_rfl) rfl ⟨rfl, ?_⟩
  exact (BB.out.setCell (Nat.le_refl _) _).setCell (Nat.le_refl _) _
set_option maxRecDepth 20000 in
theorem holds_any {w : World} {b o : Nat} {s : Sn} (h : Ar w b o s) (g : Nat) (hg : g < 8) (n : Int) : Calls Tryd.prog 22 #[.pointer (some ⟨b, o, none⟩), .agg #[.int .i64 (g : Nat), .int .i64 n]] w (Vb w (.bool (decide (n ≤ max (s g) 0)))) := by
  have GT := hide (fun wz (hz : Below w.heap.size w wz) => atMost_any (h.bel hz) g hg n)
  have hb := h.lt
  have hc := h.cell 0 (by omega)
  generalize max (s g) 0 = x at *
  have B0 := hide (bel_new w (.cells #[.int .i64 (g : Nat), .int .i64 n] 62))
  have hz := Go.Deep.blk_alloc_new w (.cells #[.int .i64 (g : Nat), .int .i64 n] 62)
  have c0 := blk_cell hz 0 _ rfl
  have c1 := blk_cell hz 1 _ rfl
  clear h hz
  go_enter Tryd.func22, Tryd.ntmps22
  go_wp2_with fail
  refine wp_region_T (S := fun wz => wz.cell? ⟨w.heap.size, 0, none⟩ = some (.int .i64 (g : Nat)) ∧ wz.cell? ⟨w.heap.size, 1, none⟩ = some (.int .i64 n)) (fun i => i != 4) mixed ⟨c0, c1⟩ (fun hH => ?_)
  refine Tl 0 (v := ?_) ?_ hH ?_
  rotate_left 1
  · (intro wy hSw; have q0 := hSw.1; have q1 := hSw.2; clear hSw; go_simp <;> with_reducible rfl)
  simp only [Act.put, SA]
  refine Tm 1 ?_
  simp only [Act.put, SA]
  refine Tm 2 ?_
  simp only [Act.put, SA]
  refine Tm 3 ?_
  simp only [Act.put, SA]
  refine Tr 4 (fun K1 hK1 => ?_)
  go_simp
  refine (GT.out _ B0.out.drew).mono ?_
  rintro e w2 ⟨rfl, b2⟩
  refine hK1.out _ _ (fun h => absurd h (by decide)) (fun _ => ?_)
  have BB := hide (bel_trans B0.out.drew b2)
  clear hK1 K1 hH b2 c0 c1
  refine Tm 5 ?_
  simp only [Act.put, SA]
  refine T_done (by kernel_rfl) ?_ _
  go_wp2_with fail
  go_ret
  exact ⟨rfl, BB.out⟩
end Go.Proofs.YticgmebbnnmikaaDoor.Ck
