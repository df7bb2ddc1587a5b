/- Package sync: looking at channels. (Written by mk_y.py.) -/
import Derived.Test.YtghfjnnmpmfboaaDoorYe
namespace Go.Proofs.YtghfjnnmpmfboaaDoor.Ck
open Go.RowKit

set_option maxRecDepth 20000 in
set_option maxHeartbeats 1000000 in
theorem Len_in {w : World} {F : Nat → Prop} {g : Nat} {s : St} (h : Stt w F g s) (i : Nat) (q : Qu) (hx : s.C[i]? = some q) : Calls Tryd.prog 16 #[.pointer (some ⟨g, 0, none⟩), .int .i64 (i : Nat)] w fun e w' => e = .returned (.int .i64 (q.l.length : Nat)) ∧ w = w' := by
  obtain ⟨vP, vM, vC, vA, vs, h⟩ := h
  have hi : i < s.C.length := (List.getElem?_eq_some_iff.1 hx).1
  obtain ⟨b, c, e, hc, hm⟩ := own_some h.ch (by omega)
  have hsm := h.small
  obtain ⟨n, hn⟩ : ∃ n, n = s.C.length := ⟨_, rfl⟩
  rw [← hn] at e hi hc
  have hn32 : n ≤ 32 := by omega
  subst e
  have HN := hide hn
  have c1 := h.cells.2.2.1
  have hvi : i < vs.length := by rw [h.len]; omega
  obtain ⟨vq, hv⟩ : ∃ v, vs[i]? = some v := ⟨_, List.getElem?_eq_getElem hvi⟩
  obtain ⟨oq, fq⟩ := h.q i q vq hx hv
  obtain ⟨aq, cq, eq, hcq, hmq⟩ := own_slice oq
  obtain ⟨o, ho⟩ : ∃ o, o = 3 * i := ⟨_, rfl⟩
  obtain ⟨q0, q1, q2⟩ := qcs_at _ _ _ _ _ hx hv
  rw [← ho] at q0 q1 q2
  obtain ⟨d0, f0⟩ := own_cell h.ch _ _ q0
  obtain ⟨d1, f1⟩ := own_cell h.ch _ _ q1
  obtain ⟨d2, f2⟩ := own_cell h.ch _ _ q2
  have HO := hide ho
  have hl := h.fb b (h.fC b rfl)
  have hgl := h.fb g h.fg
  rw [eq] at d2
  clear h hsm hc hm hn eq oq fq hv hvi q0 q1 q2 ho
  go_enter Tryd.func16, Tryd.ntmps16
  go_wp2_with fail
  refine (in_syncelementsyncqueue b n c i o _ hi HO).mono ?_
  rintro e w1 ⟨rfl, rfl⟩
  go_wp2_with fail
  go_ret
  exact ⟨rfl, rfl⟩
set_option maxRecDepth 20000 in
set_option maxHeartbeats 1000000 in
theorem Len_out {w : World} {F : Nat → Prop} {g : Nat} {s : St} (h : Stt w F g s) {p : List Addr} (h17 : E2 w p) (i : Int) (hi : i < 0 ∨ (s.C.length : Int) ≤ i) : Calls Tryd.prog 16 #[.pointer (some ⟨g, 0, none⟩), .int .i64 i] w (Vb w (.int .i64 0)) := by
  obtain ⟨vP, vM, vC, vA, vs, h⟩ := h
  obtain ⟨a, c, e, hc, hm⟩ := own_slice h.ch
  subst e
  obtain ⟨n, hn⟩ : ∃ n, n = s.C.length := ⟨_, rfl⟩
  rw [← hn] at hi
  have c1 := h.cells.2.2.1
  rw [← hn] at c1
  have EO := hide (fun w' (h17 : E2 w' p) => out_syncelementsyncqueue a n c i w' h17 hi)
  have H7 := hide h17
  unfold errV at *
  generalize adr p 0 = ad at *
  clear h hc hm hi hn h17
  go_enter Tryd.func16, Tryd.ntmps16
  go_wp2_with fail
  refine (EO.out _ H7.out).mono ?_
  rintro e w1 ⟨rfl, hb⟩
  go_wp2_with fail
  go_ret
  exact Vb.mk rfl hb
set_option maxRecDepth 20000 in
set_option maxHeartbeats 1000000 in
theorem Room_in {w : World} {F : Nat → Prop} {g : Nat} {s : St} (h : Stt w F g s) (i : Nat) (q : Qu) (hx : s.C[i]? = some q) : Calls Tryd.prog 18 #[.pointer (some ⟨g, 0, none⟩), .int .i64 (i : Nat)] w fun e w' => e = .returned (.int .i64 q.room) ∧ w = w' := by
  obtain ⟨vP, vM, vC, vA, vs, h⟩ := h
  have hi : i < s.C.length := (List.getElem?_eq_some_iff.1 hx).1
  obtain ⟨b, c, e, hc, hm⟩ := own_some h.ch (by omega)
  have hsm := h.small
  obtain ⟨n, hn⟩ : ∃ n, n = s.C.length := ⟨_, rfl⟩
  rw [← hn] at e hi hc
  have hn32 : n ≤ 32 := by omega
  subst e
  have HN := hide hn
  have c1 := h.cells.2.2.1
  have hvi : i < vs.length := by rw [h.len]; omega
  obtain ⟨vq, hv⟩ : ∃ v, vs[i]? = some v := ⟨_, List.getElem?_eq_getElem hvi⟩
  obtain ⟨oq, fq⟩ := h.q i q vq hx hv
  obtain ⟨aq, cq, eq, hcq, hmq⟩ := own_slice oq
  obtain ⟨o, ho⟩ : ∃ o, o = 3 * i := ⟨_, rfl⟩
  obtain ⟨q0, q1, q2⟩ := qcs_at _ _ _ _ _ hx hv
  rw [← ho] at q0 q1 q2
  obtain ⟨d0, f0⟩ := own_cell h.ch _ _ q0
  obtain ⟨d1, f1⟩ := own_cell h.ch _ _ q1
  obtain ⟨d2, f2⟩ := own_cell h.ch _ _ q2
  have HO := hide ho
  have hl := h.fb b (h.fC b rfl)
  have hgl := h.fb g h.fg
  clear h hsm hc hm hn eq oq fq hv hvi q0 q1 q2 ho
  go_enter Tryd.func18, Tryd.ntmps18
  go_wp2_with fail
  refine (in_syncelementsyncqueue b n c i o _ hi HO).mono ?_
  rintro e w1 ⟨rfl, rfl⟩
  go_wp2_with fail
  go_ret
  exact ⟨rfl, rfl⟩
set_option maxRecDepth 20000 in
set_option maxHeartbeats 1000000 in
theorem Room_out {w : World} {F : Nat → Prop} {g : Nat} {s : St} (h : Stt w F g s) {p : List Addr} (h17 : E2 w p) (i : Int) (hi : i < 0 ∨ (s.C.length : Int) ≤ i) : Calls Tryd.prog 18 #[.pointer (some ⟨g, 0, none⟩), .int .i64 i] w (Vb w (.int .i64 0)) := by
  obtain ⟨vP, vM, vC, vA, vs, h⟩ := h
  obtain ⟨a, c, e, hc, hm⟩ := own_slice h.ch
  subst e
  obtain ⟨n, hn⟩ : ∃ n, n = s.C.length := ⟨_, rfl⟩
  rw [← hn] at hi
  have c1 := h.cells.2.2.1
  rw [← hn] at c1
  have EO := hide (fun w' (h17 : E2 w' p) => out_syncelementsyncqueue a n c i w' h17 hi)
  have H7 := hide h17
  unfold errV at *
  generalize adr p 0 = ad at *
  clear h hc hm hi hn h17
  go_enter Tryd.func18, Tryd.ntmps18
  go_wp2_with fail
  refine (EO.out _ H7.out).mono ?_
  rintro e w1 ⟨rfl, hb⟩
  go_wp2_with fail
  go_ret
  exact Vb.mk rfl hb
end Go.Proofs.YtghfjnnmpmfboaaDoor.Ck
