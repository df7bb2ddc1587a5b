/- Package sync: atomics. (Written by mk_y.py.) -/
import Derived.Test.YtghfjnnmpmfboaaDoorYd
namespace Go.Proofs.YtghfjnnmpmfboaaDoor.Ck
open Go.RowKit

set_option maxRecDepth 20000 in
set_option maxHeartbeats 1000000 in
theorem Get_in {w : World} {F : Nat → Prop} {g : Nat} {s : St} (h : Stt w F g s) (i : Nat) (x : Int) (hx : s.A[i]? = some x) : Calls Tryd.prog 54 #[.pointer (some ⟨g, 0, none⟩), .int .i64 (i : Nat)] w fun e w' => e = .returned (.tuple #[.int .i64 x, .nilIface]) ∧ w = w' := by
  obtain ⟨vP, vM, vC, vA, vs, h⟩ := h
  have hi : i < s.A.length := (List.getElem?_eq_some_iff.1 hx).1
  obtain ⟨b, c, e, hc, hm⟩ := own_some h.ato (by omega)
  have hsm := h.small
  obtain ⟨n, hn⟩ : ∃ n, n = s.A.length := ⟨_, rfl⟩
  rw [← hn] at e hi hc
  have hn32 : n ≤ 32 := by omega
  subst e
  have HN := hide hn
  have c1 := h.cells.2.2.2
  obtain ⟨d1, d2⟩ := own_cell h.ato i _ (nts_at hx)
  clear h hsm hc hm hn
  go_enter Tryd.func54, Tryd.ntmps54
  go_wp2_with fail
  refine (in_syncelementint b n c i _ hi).mono ?_
  rintro e w1 ⟨rfl, rfl⟩
  go_wp2_with fail
  go_ret2
  exact ⟨rfl, rfl⟩
set_option maxRecDepth 20000 in
set_option maxHeartbeats 1000000 in
theorem Get_out {w : World} {F : Nat → Prop} {g : Nat} {s : St} (h : Stt w F g s) {p : List Addr} (h17 : E2 w p) (i : Int) (hi : i < 0 ∨ (s.A.length : Int) ≤ i) : Calls Tryd.prog 54 #[.pointer (some ⟨g, 0, none⟩), .int .i64 i] w (Vb w (.tuple #[.int .i64 0, errV p 0])) := by
  obtain ⟨vP, vM, vC, vA, vs, h⟩ := h
  obtain ⟨a, c, e, hc, hm⟩ := own_slice h.ato
  subst e
  obtain ⟨n, hn⟩ : ∃ n, n = s.A.length := ⟨_, rfl⟩
  rw [← hn] at hi
  have c1 := h.cells.2.2.2
  rw [← hn] at c1
  have EO := hide (fun w' (h17 : E2 w' p) => out_syncelementint a n c i w' h17 hi)
  have H7 := hide h17
  unfold errV at *
  generalize adr p 0 = ad at *
  clear h hc hm hi hn h17
  go_enter Tryd.func54, Tryd.ntmps54
  go_wp2_with fail
  refine (EO.out _ H7.out).mono ?_
  rintro e w1 ⟨rfl, hb⟩
  go_wp2_with fail
  go_ret2
  exact Vb.mk rfl hb
set_option maxRecDepth 20000 in
set_option maxHeartbeats 1000000 in
theorem Put_in {w : World} {F : Nat → Prop} {g : Nat} {s : St} (h : Stt w F g s) (i : Nat) (x y : Int) (hx : s.A[i]? = some x) : Calls Tryd.prog 55 #[.pointer (some ⟨g, 0, none⟩), .int .i64 (i : Nat), .int .i64 y] w (Sp w F g { s with A := s.A.set i y } .nilIface) := by
  obtain ⟨vP, vM, vC, vA, vs, h⟩ := h
  have hi : i < s.A.length := (List.getElem?_eq_some_iff.1 hx).1
  obtain ⟨b, c, e, hc, hm⟩ := own_some h.ato (by omega)
  have hsm := h.small
  obtain ⟨n, hn⟩ : ∃ n, n = s.A.length := ⟨_, rfl⟩
  rw [← hn] at e hi hc
  have hn32 : n ≤ 32 := by omega
  subst e
  have HN := hide hn
  have c1 := h.cells.2.2.2
  obtain ⟨d1, d2⟩ := own_cell h.ato i _ (nts_at hx)
  have SM := hide (h.setA hn i y)
  have hl := (h.fb b (h.fA b rfl))
  clear h hsm hc hm hn
  go_enter Tryd.func55, Tryd.ntmps55
  go_wp2_with fail
  refine (in_syncelementint b n c i _ hi).mono ?_
  rintro e w1 ⟨rfl, rfl⟩
  go_wp2_with fail
  go_ret
  exact Sp.mk rfl ⟨_, _, _, _, _, SM.out.1⟩ SM.out.2
set_option maxRecDepth 20000 in
set_option maxHeartbeats 1000000 in
theorem Put_out {w : World} {F : Nat → Prop} {g : Nat} {s : St} (h : Stt w F g s) {p : List Addr} (h17 : E2 w p) (i : Int) (y : Int) (hi : i < 0 ∨ (s.A.length : Int) ≤ i) : Calls Tryd.prog 55 #[.pointer (some ⟨g, 0, none⟩), .int .i64 i, .int .i64 y] w (Vb w (errV p 0)) := by
  obtain ⟨vP, vM, vC, vA, vs, h⟩ := h
  obtain ⟨a, c, e, hc, hm⟩ := own_slice h.ato
  subst e
  obtain ⟨n, hn⟩ : ∃ n, n = s.A.length := ⟨_, rfl⟩
  rw [← hn] at hi
  have c1 := h.cells.2.2.2
  rw [← hn] at c1
  have EO := hide (fun w' (h17 : E2 w' p) => out_syncelementint a n c i w' h17 hi)
  have H7 := hide h17
  unfold errV at *
  generalize adr p 0 = ad at *
  clear h hc hm hi hn h17
  go_enter Tryd.func55, Tryd.ntmps55
  go_wp2_with fail
  refine (EO.out _ H7.out).mono ?_
  rintro e w1 ⟨rfl, hb⟩
  go_wp2_with fail
  go_ret
  exact Vb.mk rfl hb
set_option maxRecDepth 20000 in
set_option maxHeartbeats 1000000 in
theorem Add_in {w : World} {F : Nat → Prop} {g : Nat} {s : St} (h : Stt w F g s) (i : Nat) (x y : Int) (hx : s.A[i]? = some x) : Calls Tryd.prog 56 #[.pointer (some ⟨g, 0, none⟩), .int .i64 (i : Nat), .int .i64 y] w (Sp w F g { s with A := s.A.set i (wrap64 (x + y)) } .nilIface) := by
  obtain ⟨vP, vM, vC, vA, vs, h⟩ := h
  have hi : i < s.A.length := (List.getElem?_eq_some_iff.1 hx).1
  obtain ⟨b, c, e, hc, hm⟩ := own_some h.ato (by omega)
  have hsm := h.small
  obtain ⟨n, hn⟩ : ∃ n, n = s.A.length := ⟨_, rfl⟩
  rw [← hn] at e hi hc
  have hn32 : n ≤ 32 := by omega
  subst e
  have HN := hide hn
  have c1 := h.cells.2.2.2
  obtain ⟨d1, d2⟩ := own_cell h.ato i _ (nts_at hx)
  have SM := hide (h.setA hn i (wrap64 (x + y)))
  have hl := (h.fb b (h.fA b rfl))
  clear h hsm hc hm hn
  go_enter Tryd.func56, Tryd.ntmps56
  go_wp2_with fail
  refine (in_syncelementint b n c i _ hi).mono ?_
  rintro e w1 ⟨rfl, rfl⟩
  go_wp2_with fail
  go_ret
  exact Sp.mk rfl ⟨_, _, _, _, _, SM.out.1⟩ SM.out.2
set_option maxRecDepth 20000 in
set_option maxHeartbeats 1000000 in
theorem Add_out {w : World} {F : Nat → Prop} {g : Nat} {s : St} (h : Stt w F g s) {p : List Addr} (h17 : E2 w p) (i : Int) (y : Int) (hi : i < 0 ∨ (s.A.length : Int) ≤ i) : Calls Tryd.prog 56 #[.pointer (some ⟨g, 0, none⟩), .int .i64 i, .int .i64 y] w (Vb w (errV p 0)) := by
  obtain ⟨vP, vM, vC, vA, vs, h⟩ := h
  obtain ⟨a, c, e, hc, hm⟩ := own_slice h.ato
  subst e
  obtain ⟨n, hn⟩ : ∃ n, n = s.A.length := ⟨_, rfl⟩
  rw [← hn] at hi
  have c1 := h.cells.2.2.2
  rw [← hn] at c1
  have EO := hide (fun w' (h17 : E2 w' p) => out_syncelementint a n c i w' h17 hi)
  have H7 := hide h17
  unfold errV at *
  generalize adr p 0 = ad at *
  clear h hc hm hi hn h17
  go_enter Tryd.func56, Tryd.ntmps56
  go_wp2_with fail
  refine (EO.out _ H7.out).mono ?_
  rintro e w1 ⟨rfl, hb⟩
  go_wp2_with fail
  go_ret
  exact Vb.mk rfl hb
end Go.Proofs.YtghfjnnmpmfboaaDoor.Ck
