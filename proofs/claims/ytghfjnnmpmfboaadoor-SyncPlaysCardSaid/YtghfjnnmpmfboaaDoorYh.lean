/- Package sync: writing a place. (Written by mk_y.py.) -/
import Derived.Test.YtghfjnnmpmfboaaDoorYg
import Derived.Deep.RegionHeld3
namespace Go.Proofs.YtghfjnnmpmfboaaDoor.Ck
open Go.RowKit

set_option maxRecDepth 20000 in
set_option maxHeartbeats 1000000 in
theorem Write_bad {w : World} {F : Nat → Prop} {g : Nat} {s : St} (h : Stt w F g s) {p : List Addr} (h17 : E2 w p) (i : Nat) (x : V3) (hx : s.P[i]? = some x) (t m z : Int) (hB : isB t m z x.1 = false) : Calls Tryd.prog 47 #[.pointer (some ⟨g, 0, none⟩), .int .i64 (i : Nat), .agg #[.int .i64 t, .int .i64 m, .int .u64 z]] w (Vb w (errV p 4)) := by
  obtain ⟨vP, vM, vC, vA, vs, h⟩ := h
  have hi : i < s.P.length := (List.getElem?_eq_some_iff.1 hx).1
  obtain ⟨b, c, e, hc, hm⟩ := own_some h.pl (by omega)
  have hsm := h.small
  obtain ⟨n, hn⟩ : ∃ n, n = s.P.length := ⟨_, rfl⟩
  rw [← hn] at e hi hc
  have hn32 : n ≤ 128 := by omega
  subst e
  have HN := hide hn
  have c1 := h.cells.1
  obtain ⟨x0, x1, x2⟩ := x
  obtain ⟨o, ho⟩ : ∃ o, o = 3 * i := ⟨_, rfl⟩
  have HO := hide ho
  have hgl := h.fb g h.fg
  have hbl := h.fb b (h.fP b rfl)
  simp only at hB
  have IS : ∀ wx, Calls Tryd.prog 77 #[.agg #[.int .i64 t, .int .i64 m, .int .u64 z], .int .i64 x0] wx (Vb wx (.bool false)) := fun wx => by
    have := isOf_any t m z x0 wx
    rw [hB] at this
    exact this
  have W1 := hide (And.intro (h.bel (bel_new w (.cells #[.int .i64 t, .int .i64 m, .int .u64 z] 41))) (And.intro (bel_new w (.cells #[.int .i64 t, .int .i64 m, .int .u64 z] 41)) (And.intro (Val.new w t m z) (h17.below (Nat.le_refl _) (bel_new w (.cells #[.int .i64 t, .int .i64 m, .int .u64 z] 41))))))
  have HX := hide hx
  have HGE := hide hbl
  clear h hsm hc hm hn h17 hB ho hx
  go_enter Tryd.func47, Tryd.ntmps47
  go_wp2_with fail
  refine (in_syncelementapiValue b n c i o _ hi HO).mono ?_
  rintro e w1 ⟨rfl, rfl⟩
  go_wp2_with fail
  generalize w.alloc (.cells #[.int .i64 t, .int .i64 m, .int .u64 z] 41) = w1 at *
  obtain ⟨h1, hb1, V1, x1'⟩ := W1.out
  obtain ⟨q0, q1, q2⟩ := vcs_at _ _ _ HX.out
  rw [← HO.out] at q0 q1 q2
  have d0 := (own_cell h1.pl _ _ q0).1
  obtain ⟨_, v0, v1, v2⟩ := V1.all
  simp only at d0
  have K1 := hide (And.intro h1 (And.intro hb1 (And.intro V1 x1')))
  clear W1 h1 hb1 V1 x1' q0 q1 q2 c1
  go_region_held3 (fun w' => (w'.cell? ⟨w.heap.size, 0, none⟩ = some (.int .i64 t) ∧ w'.cell? ⟨w.heap.size, 1, none⟩ = some (.int .i64 m) ∧ w'.cell? ⟨w.heap.size, 2, none⟩ = some (.int .u64 z)) ∧ w'.cell? ⟨b, o, none⟩ = some (.int .i64 x0)) (first | (exact ⟨⟨by assumption, by assumption, by assumption⟩, by assumption⟩)) (first | (go_at_call 77; refine (IS _).mono ?_; rintro e w2 ⟨rfl, hb⟩; replace hb : Below w1.heap.size w1 w2 := ⟨hb.os, hb.tape, hb.output, hb.size, hb.block⟩; have K2 := hide (And.intro (K1.out.1.bel hb) (And.intro (bel_trans K1.out.2.1 hb) (And.intro (K1.out.2.2.1.al hb) (K1.out.2.2.2.below (Nat.le_refl _) hb)))); obtain ⟨_, v0', v1', v2'⟩ := K2.out.2.2.1.all; have d0' : w2.cell? ⟨b, o, none⟩ = some (.int .i64 x0) := (hb.cell (p := ⟨b, o, none⟩) (K1.out.1.fb b (K1.out.1.fP b rfl))).trans d0))
  have x4 : w2.cell? ⟨4, 0, none⟩ = some (errV p 4) := K2.out.2.2.2.c4
  generalize errV p 4 = ev at *
  go_wp2_with fail
  go_ret
  exact Vb.mk rfl K2.out.2.1
set_option maxRecDepth 20000 in
set_option maxHeartbeats 1000000 in
theorem Write_in {w : World} {F : Nat → Prop} {g : Nat} {s : St} (h : Stt w F g s) {p : List Addr} (h17 : E2 w p) (i : Nat) (x : V3) (hx : s.P[i]? = some x) (t m z : Int) (hB : isB t m z x.1 = true) : Calls Tryd.prog 47 #[.pointer (some ⟨g, 0, none⟩), .int .i64 (i : Nat), .agg #[.int .i64 t, .int .i64 m, .int .u64 z]] w (Sp w F g { s with P := s.P.set i (t, m, z) } .nilIface) := by
  obtain ⟨vP, vM, vC, vA, vs, h⟩ := h
  have hi : i < s.P.length := (List.getElem?_eq_some_iff.1 hx).1
  obtain ⟨b, c, e, hc, hm⟩ := own_some h.pl (by omega)
  have hsm := h.small
  obtain ⟨n, hn⟩ : ∃ n, n = s.P.length := ⟨_, rfl⟩
  rw [← hn] at e hi hc
  have hn32 : n ≤ 128 := by omega
  subst e
  have HN := hide hn
  have c1 := h.cells.1
  obtain ⟨x0, x1, x2⟩ := x
  obtain ⟨o, ho⟩ : ∃ o, o = 3 * i := ⟨_, rfl⟩
  have HO := hide ho
  have hgl := h.fb g h.fg
  have hbl := h.fb b (h.fP b rfl)
  simp only at hB
  have IS : ∀ wx, Calls Tryd.prog 77 #[.agg #[.int .i64 t, .int .i64 m, .int .u64 z], .int .i64 x0] wx (Vb wx (.bool true)) := fun wx => by
    have := isOf_any t m z x0 wx
    rw [hB] at this
    exact this
  have W1 := hide (And.intro (h.bel (bel_new w (.cells #[.int .i64 t, .int .i64 m, .int .u64 z] 41))) (And.intro (bel_new w (.cells #[.int .i64 t, .int .i64 m, .int .u64 z] 41)) (And.intro (Val.new w t m z) (h17.below (Nat.le_refl _) (bel_new w (.cells #[.int .i64 t, .int .i64 m, .int .u64 z] 41))))))
  have HX := hide hx
  have HGE := hide hbl
  clear h hsm hc hm hn h17 hB ho hx
  go_enter Tryd.func47, Tryd.ntmps47
  go_wp2_with fail
  refine (in_syncelementapiValue b n c i o _ hi HO).mono ?_
  rintro e w1 ⟨rfl, rfl⟩
  go_wp2_with fail
  generalize w.alloc (.cells #[.int .i64 t, .int .i64 m, .int .u64 z] 41) = w1 at *
  obtain ⟨h1, hb1, V1, x1'⟩ := W1.out
  obtain ⟨q0, q1, q2⟩ := vcs_at _ _ _ HX.out
  rw [← HO.out] at q0 q1 q2
  have d0 := (own_cell h1.pl _ _ q0).1
  obtain ⟨_, v0, v1, v2⟩ := V1.all
  simp only at d0
  have K1 := hide (And.intro h1 (And.intro hb1 (And.intro V1 x1')))
  clear W1 h1 hb1 V1 x1' q0 q1 q2 c1
  go_region_held3 (fun w' => (w'.cell? ⟨w.heap.size, 0, none⟩ = some (.int .i64 t) ∧ w'.cell? ⟨w.heap.size, 1, none⟩ = some (.int .i64 m) ∧ w'.cell? ⟨w.heap.size, 2, none⟩ = some (.int .u64 z)) ∧ w'.cell? ⟨b, o, none⟩ = some (.int .i64 x0)) (first | (exact ⟨⟨by assumption, by assumption, by assumption⟩, by assumption⟩)) (first | (go_at_call 77; refine (IS _).mono ?_; rintro e w2 ⟨rfl, hb⟩; replace hb : Below w1.heap.size w1 w2 := ⟨hb.os, hb.tape, hb.output, hb.size, hb.block⟩; have K2 := hide (And.intro (K1.out.1.bel hb) (And.intro (bel_trans K1.out.2.1 hb) (And.intro (K1.out.2.2.1.al hb) (K1.out.2.2.2.below (Nat.le_refl _) hb)))); obtain ⟨_, v0', v1', v2'⟩ := K2.out.2.2.1.all; have d0' : w2.cell? ⟨b, o, none⟩ = some (.int .i64 x0) := (hb.cell (p := ⟨b, o, none⟩) (K1.out.1.fb b (K1.out.1.fP b rfl))).trans d0))
  obtain ⟨q0, q1, q2⟩ := vcs_at _ _ _ HX.out
  rw [← HO.out] at q0 q1 q2
  obtain ⟨e0, f0⟩ := own_cell K2.out.1.pl _ _ q0
  obtain ⟨e1, f1⟩ := own_cell K2.out.1.pl _ _ q1
  obtain ⟨e2, f2⟩ := own_cell K2.out.1.pl _ _ q2
  have SP := K2.out.1.setP HN.out i (t, m, z)
  rw [← HO.out] at SP
  have SP2 := hide SP
  clear SP q0 q1 q2
  go_wp2_with fail
  go_ret
  exact Sp.mk rfl ⟨_, _, _, _, _, SP2.out.1⟩ ((Ch.of_bel K2.out.2.1).trans SP2.out.2)
set_option maxRecDepth 20000 in
set_option maxHeartbeats 1000000 in
theorem Write_out {w : World} {F : Nat → Prop} {g : Nat} {s : St} (h : Stt w F g s) {p : List Addr} (h17 : E2 w p) (i : Int) (t m z : Int) (hi : i < 0 ∨ (s.P.length : Int) ≤ i) : Calls Tryd.prog 47 #[.pointer (some ⟨g, 0, none⟩), .int .i64 i, .agg #[.int .i64 t, .int .i64 m, .int .u64 z]] w (Vb w (errV p 0)) := by
  obtain ⟨vP, vM, vC, vA, vs, h⟩ := h
  obtain ⟨a, c, e, hc, hm⟩ := own_slice h.pl
  subst e
  obtain ⟨n, hn⟩ : ∃ n, n = s.P.length := ⟨_, rfl⟩
  rw [← hn] at hi
  have c1 := h.cells.1
  rw [← hn] at c1
  have EO := hide (fun w' (h17 : E2 w' p) => out_syncelementapiValue a n c i w' h17 hi)
  have H7 := hide h17
  unfold errV at *
  generalize adr p 0 = ad at *
  have HGL := hide (h.fb g h.fg)
  clear h hc hm hi hn h17
  have H7a := hide (H7.out.below (Nat.le_refl _) (bel_new w (.cells #[.int .i64 t, .int .i64 m, .int .u64 z] 41)))
  have hgl := HGL.out
  go_enter Tryd.func47, Tryd.ntmps47
  go_wp2_with fail
  refine (EO.out _ H7a.out).mono ?_
  rintro e w1 ⟨rfl, hb⟩
  go_wp2_with fail
  go_ret
  exact Vb.mk rfl (bel_trans (bel_new _ _) hb)
end Go.Proofs.YtghfjnnmpmfboaaDoor.Ck
