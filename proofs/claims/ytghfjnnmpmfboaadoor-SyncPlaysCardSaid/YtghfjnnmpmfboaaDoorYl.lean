/- Package sync: Send. (Written by mk_y.py.) -/
import Derived.Test.YtghfjnnmpmfboaaDoorYk
namespace Go.Proofs.YtghfjnnmpmfboaaDoor.Ck
open Go.RowKit

set_option maxRecDepth 20000 in
set_option maxHeartbeats 1000000 in
theorem Send_bad {w : World} {F : Nat → Prop} {g : Nat} {s : St} (h : Stt w F g s) {p : List Addr} (h17 : E2 w p) (i : Nat) (q : Qu) (hx : s.C[i]? = some q) (t m z : Int) (hB : isB t m z q.t = false) : Calls Tryd.prog 32 #[.pointer (some ⟨g, 0, none⟩), .int .i64 (i : Nat), .agg #[.int .i64 t, .int .i64 m, .int .u64 z]] w (Vb w (.tuple #[.bool false, errV p 4])) := by
  obtain ⟨vP, vM, vC, vA, vs, h⟩ := h
  have hi : i < s.C.length := (List.getElem?_eq_some_iff.1 hx).1
  obtain ⟨b, c, e, hc, hm⟩ := own_some h.ch (by omega)
  have hsm := h.small
  obtain ⟨n, hn⟩ : ∃ n, n = s.C.length := ⟨_, rfl⟩
  rw [← hn] at e hi hc
  have hn32 : n ≤ 32 := by omega
  subst e
  have HN := hide hn
  have c1 := h.cells.2.2.1
  obtain ⟨qt, qr, ql⟩ := q
  have hrm := h.rooms _ (List.mem_of_getElem? hx)
  simp only at hB hrm
  have hvi : i < vs.length := by rw [h.len]; omega
  obtain ⟨vq, hv⟩ : ∃ v, vs[i]? = some v := ⟨_, List.getElem?_eq_getElem hvi⟩
  obtain ⟨o, ho⟩ : ∃ o, o = 3 * i := ⟨_, rfl⟩
  have HO := hide ho
  have hgl := h.fb g h.fg
  have hbl := h.fb b (h.fC b rfl)
  have IS : ∀ wx, Calls Tryd.prog 77 #[.agg #[.int .i64 t, .int .i64 m, .int .u64 z], .int .i64 qt] wx (Vb wx (.bool false)) := fun wx => by
    have := isOf_any t m z qt wx
    rw [hB] at this
    exact this
  have W1 := hide (And.intro (h.bel (bel_new w (.cells #[.int .i64 t, .int .i64 m, .int .u64 z] 41))) (And.intro (bel_new w (.cells #[.int .i64 t, .int .i64 m, .int .u64 z] 41)) (And.intro (Val.new w t m z) (h17.below (Nat.le_refl _) (bel_new w (.cells #[.int .i64 t, .int .i64 m, .int .u64 z] 41))))))
  have HX := hide (And.intro hx hv)
  clear h hsm hc hm hn h17 hB ho hx hv hvi
  go_enter Tryd.func32, Tryd.ntmps32
  go_wp2_with fail
  refine (in_syncelementsyncqueue b n c i o _ hi HO).mono ?_
  rintro e w1 ⟨rfl, rfl⟩
  go_wp2_with fail
  generalize w.alloc (.cells #[.int .i64 t, .int .i64 m, .int .u64 z] 41) = w1 at *
  obtain ⟨h1, hb1, V1, x1'⟩ := W1.out
  obtain ⟨q0, q1, q2⟩ := qcs_at _ _ _ _ _ HX.out.1 HX.out.2
  rw [← HO.out] at q0 q1 q2
  have d0 := (own_cell h1.ch _ _ q0).1
  obtain ⟨_, v0, v1, v2⟩ := V1.all
  simp only at d0
  have K1 := hide (And.intro h1 (And.intro hb1 (And.intro V1 x1')))
  clear W1 h1 hb1 V1 x1' q0 q1 q2 c1
  go_region_held3 (fun w' => (w'.cell? ⟨w.heap.size, 0, none⟩ = some (.int .i64 t) ∧ w'.cell? ⟨w.heap.size, 1, none⟩ = some (.int .i64 m) ∧ w'.cell? ⟨w.heap.size, 2, none⟩ = some (.int .u64 z)) ∧ w'.cell? ⟨b, o, none⟩ = some (.int .i64 qt)) (first | (exact ⟨⟨by assumption, by assumption, by assumption⟩, by assumption⟩)) (first | (go_at_call 77; refine (IS _).mono ?_; rintro e w2 ⟨rfl, hb⟩; replace hb : Below w1.heap.size w1 w2 := ⟨hb.os, hb.tape, hb.output, hb.size, hb.block⟩; have K2 := hide (And.intro (K1.out.1.bel hb) (And.intro (bel_trans K1.out.2.1 hb) (And.intro (K1.out.2.2.1.al hb) (K1.out.2.2.2.below (Nat.le_refl _) hb)))); obtain ⟨_, v0', v1', v2'⟩ := K2.out.2.2.1.all; have d0' : w2.cell? ⟨b, o, none⟩ = some (.int .i64 qt) := (hb.cell (p := ⟨b, o, none⟩) (K1.out.1.fb b (K1.out.1.fC b rfl))).trans d0))
  have x4 : w2.cell? ⟨4, 0, none⟩ = some (errV p 4) := K2.out.2.2.2.c4
  generalize errV p 4 = ev at *
  go_wp2_with fail
  go_quiet (fail)
  go_wp2_with fail
  go_ret2
  exact Vb.mk rfl (below_drewN K2.out.2.1 _)
set_option maxRecDepth 20000 in
set_option maxHeartbeats 1000000 in
theorem Send_full {w : World} {F : Nat → Prop} {g : Nat} {s : St} (h : Stt w F g s) {p : List Addr} (h17 : E2 w p) (i : Nat) (q : Qu) (hx : s.C[i]? = some q) (t m z : Int) (hB : isB t m z q.t = true) (hr : q.room ≤ q.l.length) : Calls Tryd.prog 32 #[.pointer (some ⟨g, 0, none⟩), .int .i64 (i : Nat), .agg #[.int .i64 t, .int .i64 m, .int .u64 z]] w (Vb w (.tuple #[.bool false, .nilIface])) := by
  obtain ⟨vP, vM, vC, vA, vs, h⟩ := h
  have hi : i < s.C.length := (List.getElem?_eq_some_iff.1 hx).1
  obtain ⟨b, c, e, hc, hm⟩ := own_some h.ch (by omega)
  have hsm := h.small
  obtain ⟨n, hn⟩ : ∃ n, n = s.C.length := ⟨_, rfl⟩
  rw [← hn] at e hi hc
  have hn32 : n ≤ 32 := by omega
  subst e
  have HN := hide hn
  have c1 := h.cells.2.2.1
  obtain ⟨qt, qr, ql⟩ := q
  have hrm := h.rooms _ (List.mem_of_getElem? hx)
  simp only at hB hr hrm
  have hvi : i < vs.length := by rw [h.len]; omega
  obtain ⟨vq, hv⟩ : ∃ v, vs[i]? = some v := ⟨_, List.getElem?_eq_getElem hvi⟩
  obtain ⟨o, ho⟩ : ∃ o, o = 3 * i := ⟨_, rfl⟩
  have HO := hide ho
  have hgl := h.fb g h.fg
  have hbl := h.fb b (h.fC b rfl)
  have IS : ∀ wx, Calls Tryd.prog 77 #[.agg #[.int .i64 t, .int .i64 m, .int .u64 z], .int .i64 qt] wx (Vb wx (.bool true)) := fun wx => by
    have := isOf_any t m z qt wx
    rw [hB] at this
    exact this
  have W1 := hide (And.intro (h.bel (bel_new w (.cells #[.int .i64 t, .int .i64 m, .int .u64 z] 41))) (And.intro (bel_new w (.cells #[.int .i64 t, .int .i64 m, .int .u64 z] 41)) (And.intro (Val.new w t m z) (h17.below (Nat.le_refl _) (bel_new w (.cells #[.int .i64 t, .int .i64 m, .int .u64 z] 41))))))
  have HX := hide (And.intro hx hv)
  clear h hsm hc hm hn h17 hB ho hx hv hvi
  go_enter Tryd.func32, Tryd.ntmps32
  go_wp2_with fail
  refine (in_syncelementsyncqueue b n c i o _ hi HO).mono ?_
  rintro e w1 ⟨rfl, rfl⟩
  go_wp2_with fail
  generalize w.alloc (.cells #[.int .i64 t, .int .i64 m, .int .u64 z] 41) = w1 at *
  obtain ⟨h1, hb1, V1, x1'⟩ := W1.out
  obtain ⟨q0, q1, q2⟩ := qcs_at _ _ _ _ _ HX.out.1 HX.out.2
  rw [← HO.out] at q0 q1 q2
  have d0 := (own_cell h1.ch _ _ q0).1
  obtain ⟨_, v0, v1, v2⟩ := V1.all
  simp only at d0
  have K1 := hide (And.intro h1 (And.intro hb1 (And.intro V1 x1')))
  clear W1 h1 hb1 V1 x1' q0 q1 q2 c1
  go_region_held3 (fun w' => (w'.cell? ⟨w.heap.size, 0, none⟩ = some (.int .i64 t) ∧ w'.cell? ⟨w.heap.size, 1, none⟩ = some (.int .i64 m) ∧ w'.cell? ⟨w.heap.size, 2, none⟩ = some (.int .u64 z)) ∧ w'.cell? ⟨b, o, none⟩ = some (.int .i64 qt)) (first | (exact ⟨⟨by assumption, by assumption, by assumption⟩, by assumption⟩)) (first | (go_at_call 77; refine (IS _).mono ?_; rintro e w2 ⟨rfl, hb⟩; replace hb : Below w1.heap.size w1 w2 := ⟨hb.os, hb.tape, hb.output, hb.size, hb.block⟩; have K2 := hide (And.intro (K1.out.1.bel hb) (And.intro (bel_trans K1.out.2.1 hb) (And.intro (K1.out.2.2.1.al hb) (K1.out.2.2.2.below (Nat.le_refl _) hb)))); obtain ⟨_, v0', v1', v2'⟩ := K2.out.2.2.1.all; have d0' : w2.cell? ⟨b, o, none⟩ = some (.int .i64 qt) := (hb.cell (p := ⟨b, o, none⟩) (K1.out.1.fb b (K1.out.1.fC b rfl))).trans d0))
  obtain ⟨h2, hb2, V2, x2'⟩ := K2.out
  obtain ⟨q0, q1, q2⟩ := qcs_at _ _ _ _ _ HX.out.1 HX.out.2
  rw [← HO.out] at q0 q1 q2
  have e1 := (own_cell h2.ch _ _ q1).1
  have e2 := (own_cell h2.ch _ _ q2).1
  obtain ⟨_, _, cur, hcur⟩ := own_type h2.ch (k := b) rfl
  have oq := (h2.q i _ vq HX.out.1 HX.out.2).1
  have PF := hide (put_full b o cur hcur qr vq ql e1 e2 oq hr t m z)
  clear h2 hb2 V2 x2' q0 q1 q2 e1 e2 hcur oq hr hrm
  go_wp2_with fail
  refine PF.out.mono ?_
  rintro e w3 ⟨rfl, hb3⟩
  go_wp2_with fail
  go_ret2
  exact Vb.mk rfl (bel_trans K2.out.2.1 hb3)
set_option maxRecDepth 20000 in
set_option maxHeartbeats 1000000 in
theorem Send_room {w : World} {F : Nat → Prop} {g : Nat} {s : St} (h : Stt w F g s) {p : List Addr} (h17 : E2 w p) (i : Nat) (q : Qu) (hx : s.C[i]? = some q) (t m z : Int) (hB : isB t m z q.t = true) (hr : (q.l.length : Int) < q.room) : Calls Tryd.prog 32 #[.pointer (some ⟨g, 0, none⟩), .int .i64 (i : Nat), .agg #[.int .i64 t, .int .i64 m, .int .u64 z]] w (Sp w F g { s with C := s.C.set i { q with l := q.l ++ [(t, m, z)] } } (.tuple #[.bool true, .nilIface])) := by
  obtain ⟨vP, vM, vC, vA, vs, h⟩ := h
  have hi : i < s.C.length := (List.getElem?_eq_some_iff.1 hx).1
  obtain ⟨b, c, e, hc, hm⟩ := own_some h.ch (by omega)
  have hsm := h.small
  obtain ⟨n, hn⟩ : ∃ n, n = s.C.length := ⟨_, rfl⟩
  rw [← hn] at e hi hc
  have hn32 : n ≤ 32 := by omega
  subst e
  have HN := hide hn
  have c1 := h.cells.2.2.1
  obtain ⟨qt, qr, ql⟩ := q
  have hrm := h.rooms _ (List.mem_of_getElem? hx)
  simp only at hB hr hrm
  have hvi : i < vs.length := by rw [h.len]; omega
  obtain ⟨vq, hv⟩ : ∃ v, vs[i]? = some v := ⟨_, List.getElem?_eq_getElem hvi⟩
  obtain ⟨o, ho⟩ : ∃ o, o = 3 * i := ⟨_, rfl⟩
  have HO := hide ho
  have hgl := h.fb g h.fg
  have hbl := h.fb b (h.fC b rfl)
  have IS : ∀ wx, Calls Tryd.prog 77 #[.agg #[.int .i64 t, .int .i64 m, .int .u64 z], .int .i64 qt] wx (Vb wx (.bool true)) := fun wx => by
    have := isOf_any t m z qt wx
    rw [hB] at this
    exact this
  have W1 := hide (And.intro (h.bel (bel_new w (.cells #[.int .i64 t, .int .i64 m, .int .u64 z] 41))) (And.intro (bel_new w (.cells #[.int .i64 t, .int .i64 m, .int .u64 z] 41)) (And.intro (Val.new w t m z) (h17.below (Nat.le_refl _) (bel_new w (.cells #[.int .i64 t, .int .i64 m, .int .u64 z] 41))))))
  have HX := hide (And.intro hx hv)
  clear h hsm hc hm hn h17 hB ho hx hv hvi
  go_enter Tryd.func32, Tryd.ntmps32
  go_wp2_with fail
  refine (in_syncelementsyncqueue b n c i o _ hi HO).mono ?_
  rintro e w1 ⟨rfl, rfl⟩
  go_wp2_with fail
  generalize w.alloc (.cells #[.int .i64 t, .int .i64 m, .int .u64 z] 41) = w1 at *
  obtain ⟨h1, hb1, V1, x1'⟩ := W1.out
  obtain ⟨q0, q1, q2⟩ := qcs_at _ _ _ _ _ HX.out.1 HX.out.2
  rw [← HO.out] at q0 q1 q2
  have d0 := (own_cell h1.ch _ _ q0).1
  obtain ⟨_, v0, v1, v2⟩ := V1.all
  simp only at d0
  have K1 := hide (And.intro h1 (And.intro hb1 (And.intro V1 x1')))
  clear W1 h1 hb1 V1 x1' q0 q1 q2 c1
  go_region_held3 (fun w' => (w'.cell? ⟨w.heap.size, 0, none⟩ = some (.int .i64 t) ∧ w'.cell? ⟨w.heap.size, 1, none⟩ = some (.int .i64 m) ∧ w'.cell? ⟨w.heap.size, 2, none⟩ = some (.int .u64 z)) ∧ w'.cell? ⟨b, o, none⟩ = some (.int .i64 qt)) (first | (exact ⟨⟨by assumption, by assumption, by assumption⟩, by assumption⟩)) (first | (go_at_call 77; refine (IS _).mono ?_; rintro e w2 ⟨rfl, hb⟩; replace hb : Below w1.heap.size w1 w2 := ⟨hb.os, hb.tape, hb.output, hb.size, hb.block⟩; have K2 := hide (And.intro (K1.out.1.bel hb) (And.intro (bel_trans K1.out.2.1 hb) (And.intro (K1.out.2.2.1.al hb) (K1.out.2.2.2.below (Nat.le_refl _) hb)))); obtain ⟨_, v0', v1', v2'⟩ := K2.out.2.2.1.all; have d0' : w2.cell? ⟨b, o, none⟩ = some (.int .i64 qt) := (hb.cell (p := ⟨b, o, none⟩) (K1.out.1.fb b (K1.out.1.fC b rfl))).trans d0))
  obtain ⟨h2, hb2, V2, x2'⟩ := K2.out
  obtain ⟨q0, q1, q2⟩ := qcs_at _ _ _ _ _ HX.out.1 HX.out.2
  rw [← HO.out] at q0 q1 q2
  have e1 := (own_cell h2.ch _ _ q1).1
  have e2 := (own_cell h2.ch _ _ q2).1
  obtain ⟨_, _, cur, hcur⟩ := own_type h2.ch (k := b) rfl
  have oq := (h2.q i _ vq HX.out.1 HX.out.2).1
  have PF := hide (put_room b o cur hcur qr vq ql e1 e2 oq hr (by omega) t m z)
  have HR := hide hr
  clear h2 hb2 V2 x2' q0 q1 q2 e1 e2 hcur oq hr hrm
  go_wp2_with fail
  refine PF.out.mono ?_
  rintro e w3 ⟨rfl, v', w4, rfl, o4, g4, f4⟩
  obtain ⟨S4, C4⟩ := K2.out.1.chan HN.out i HX.out.1 HX.out.2 g4 o4 f4 (by have := HR.out; simp; omega)
  rw [← HO.out] at S4 C4
  have R4 := hide (And.intro S4 C4)
  clear S4 C4 o4 g4 f4
  generalize w4.setCell ⟨b, o + 2, none⟩ v' = w5 at *
  go_wp2_with fail
  go_ret2
  exact Sp.mk rfl ⟨_, _, _, _, _, R4.out.1⟩ ((Ch.of_bel K2.out.2.1).trans R4.out.2)
set_option maxRecDepth 20000 in
set_option maxHeartbeats 1000000 in
theorem Send_out {w : World} {F : Nat → Prop} {g : Nat} {s : St} (h : Stt w F g s) {p : List Addr} (h17 : E2 w p) (i : Int) (t m z : Int) (hi : i < 0 ∨ (s.C.length : Int) ≤ i) : Calls Tryd.prog 32 #[.pointer (some ⟨g, 0, none⟩), .int .i64 i, .agg #[.int .i64 t, .int .i64 m, .int .u64 z]] w (Vb w (.tuple #[.bool false, errV p 0])) := by
  obtain ⟨vP, vM, vC, vA, vs, h⟩ := h
  obtain ⟨a, c, e, hc, hm⟩ := own_slice h.ch
  subst e
  obtain ⟨n, hn⟩ : ∃ n, n = s.C.length := ⟨_, rfl⟩
  rw [← hn] at hi
  have c1 := h.cells.2.2.1
  rw [← hn] at c1
  have EO := hide (fun w' (h17 : E2 w' p) => out_syncelementsyncqueue a n c i w' h17 hi)
  have H7 := hide h17
  unfold errV at *
  generalize adr p 0 = ad at *
  have HGL := hide (h.fb g h.fg)
  clear h hc hm hi hn h17
  have H7a := hide (H7.out.below (Nat.le_refl _) (bel_new w (.cells #[.int .i64 t, .int .i64 m, .int .u64 z] 41)))
  have hgl := HGL.out
  go_enter Tryd.func32, Tryd.ntmps32
  go_wp2_with fail
  refine (EO.out _ H7a.out).mono ?_
  rintro e w1 ⟨rfl, hb⟩
  go_wp2_with fail
  go_ret2
  exact Vb.mk rfl (bel_trans (bel_new _ _) hb)
end Go.Proofs.YtghfjnnmpmfboaaDoor.Ck
