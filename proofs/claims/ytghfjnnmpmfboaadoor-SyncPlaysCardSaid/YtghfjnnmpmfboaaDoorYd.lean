/- Package sync: mutexes. (Written by mk_y.py.) -/
import Derived.Test.YtghfjnnmpmfboaaDoorYc
namespace Go.Proofs.YtghfjnnmpmfboaaDoor.Ck
open Go.RowKit

/-- a call on a state: what it answers, and the state behind it -/
def Sp (w : World) (F : Nat → Prop) (g : Nat) (s' : St) (v : Value) (e : Ending) (w' : World) : Prop := e = .returned v ∧ ∃ F', Stt w' F' g s' ∧ Ch F F' w w'
theorem Sp.mk {w w' : World} {F F' : Nat → Prop} {g : Nat} {s' : St} {v v' : Value} (hv : v = v') (h : Stt w' F' g s') (hc : Ch F F' w w') : Sp w F g s' v' (.returned v) w' := ⟨by rw [hv], F', h, hc⟩
theorem set_same {α : Type} : ∀ (l : List α) (i : Nat) (x : α), l[i]? = some x → l.set i x = l
  | [], i, x, h => by simp at h
  | y :: l, 0, x, h => by simp at h; simp [h]
  | y :: l, i + 1, x, h => by rw [List.set_cons_succ, set_same l i x (by simpa using h)]
theorem bls_at {l : List Bool} {i : Nat} {x : Bool} (h : l[i]? = some x) : (bls l)[i]? = some (.bool x) := by simp [bls, h]
theorem nts_at {l : List Int} {i : Nat} {x : Int} (h : l[i]? = some x) : (nts l)[i]? = some (.int .i64 x) := by simp [nts, h]
set_option maxRecDepth 20000 in
set_option maxHeartbeats 1000000 in
theorem turn_in {w : World} {F : Nat → Prop} {g : Nat} {s : St} (h : Stt w F g s) (i : Nat) (x y : Bool) (hx : s.M[i]? = some x) : Calls Tryd.prog 86 #[.pointer (some ⟨g, 0, none⟩), .int .i64 (i : Nat), .bool y] w (Sp w F g { s with M := s.M.set i y } (.tuple #[.bool (x != y), .nilIface])) := by
  obtain ⟨vP, vM, vC, vA, vs, h⟩ := h
  have hi : i < s.M.length := (List.getElem?_eq_some_iff.1 hx).1
  obtain ⟨b, c, e, hc, hm⟩ := own_some h.mu (by omega)
  have hsm := h.small
  obtain ⟨n, hn⟩ : ∃ n, n = s.M.length := ⟨_, rfl⟩
  rw [← hn] at e hi hc
  have hn32 : n ≤ 32 := by omega
  subst e
  have HN := hide hn
  have c1 := h.cells.2.1
  obtain ⟨d1, d2⟩ := own_cell h.mu i _ (bls_at hx)
  have SM := hide (h.setM hn i y)
  have S0 := hide h
  have hl := (h.fb b (h.fM b rfl))
  clear h hsm hc hm hn
  by_cases e : x = y
  · subst e
    have hse : Hid (s.M.set i x = s.M) := set_same _ _ _ hx
    go_enter Tryd.func86, Tryd.ntmps86
    go_wp2_with fail
    refine (in_syncelementbool b n c i _ hi).mono ?_
    rintro e w1 ⟨rfl, rfl⟩
    go_wp2_with fail
    go_ret2
    exact Sp.mk (by simp) ⟨_, _, _, _, _, by rw [hse.out]; exact S0.out⟩ (Ch.refl _ _)
  · have e2 : (x == y) = false := by simp [e]
    have E := hide e
    clear e
    go_enter Tryd.func86, Tryd.ntmps86
    go_wp2_with fail
    refine (in_syncelementbool b n c i _ hi).mono ?_
    rintro e w1 ⟨rfl, rfl⟩
    go_wp2_with fail
    go_ret2
    exact Sp.mk (by simp [bne, e2]) ⟨_, _, _, _, _, SM.out.1⟩ SM.out.2
set_option maxRecDepth 20000 in
set_option maxHeartbeats 1000000 in
theorem turn_out {w : World} {F : Nat → Prop} {g : Nat} {s : St} (h : Stt w F g s) {p : List Addr} (h17 : E2 w p) (i : Int) (y : Bool) (hi : i < 0 ∨ (s.M.length : Int) ≤ i) : Calls Tryd.prog 86 #[.pointer (some ⟨g, 0, none⟩), .int .i64 i, .bool y] w (Vb w (.tuple #[.bool false, errV p 0])) := by
  obtain ⟨vP, vM, vC, vA, vs, h⟩ := h
  obtain ⟨a, c, e, hc, hm⟩ := own_slice h.mu
  subst e
  obtain ⟨n, hn⟩ : ∃ n, n = s.M.length := ⟨_, rfl⟩
  rw [← hn] at hi
  have c1 := h.cells.2.1
  rw [← hn] at c1
  have EO := hide (fun w' (h17 : E2 w' p) => out_syncelementbool a n c i w' h17 hi)
  have H7 := hide h17
  unfold errV at *
  generalize adr p 0 = ad at *
  clear h hc hm hi hn h17
  go_enter Tryd.func86, Tryd.ntmps86
  go_wp2_with fail
  refine (EO.out _ H7.out).mono ?_
  rintro e w1 ⟨rfl, hb⟩
  go_wp2_with fail
  go_ret2
  exact Vb.mk rfl hb
set_option maxRecDepth 20000 in
set_option maxHeartbeats 1000000 in
theorem Lock_in {w : World} {F : Nat → Prop} {g : Nat} {s : St} (h : Stt w F g s) (i : Nat) (x : Bool) (hx : s.M[i]? = some x) : Calls Tryd.prog 50 #[.pointer (some ⟨g, 0, none⟩), .int .i64 (i : Nat)] w (Sp w F g { s with M := s.M.set i true } (.tuple #[.bool (!x), .nilIface])) := by
  have T := hide (turn_in h i x true hx)
  clear h hx
  go_enter Tryd.func50, Tryd.ntmps50
  go_wp2_with fail
  refine T.out.mono ?_
  rintro e w1 ⟨rfl, hs⟩
  go_wp2_with fail
  go_ret2
  exact ⟨rfl, hs⟩
theorem Lock_out {w : World} {F : Nat → Prop} {g : Nat} {s : St} (h : Stt w F g s) {p : List Addr} (h17 : E2 w p) (i : Int) (hi : i < 0 ∨ (s.M.length : Int) ≤ i) : Calls Tryd.prog 50 #[.pointer (some ⟨g, 0, none⟩), .int .i64 i] w (Vb w (.tuple #[.bool false, errV p 0])) := by
  have T := hide (turn_out h h17 i true hi)
  clear h hi h17
  unfold errV at *
  generalize adr p 0 = ad at *
  go_enter Tryd.func50, Tryd.ntmps50
  go_wp2_with fail
  refine T.out.mono ?_
  rintro e w1 ⟨rfl, hb⟩
  go_wp2_with fail
  go_ret2
  exact Vb.mk rfl hb
set_option maxRecDepth 20000 in
set_option maxHeartbeats 1000000 in
theorem Unlock_in {w : World} {F : Nat → Prop} {g : Nat} {s : St} (h : Stt w F g s) (i : Nat) (x : Bool) (hx : s.M[i]? = some x) : Calls Tryd.prog 51 #[.pointer (some ⟨g, 0, none⟩), .int .i64 (i : Nat)] w (Sp w F g { s with M := s.M.set i false } (.tuple #[.bool x, .nilIface])) := by
  have T := hide (turn_in h i x false hx)
  clear h hx
  go_enter Tryd.func51, Tryd.ntmps51
  go_wp2_with fail
  refine T.out.mono ?_
  rintro e w1 ⟨rfl, hs⟩
  go_wp2_with fail
  go_ret2
  exact ⟨rfl, hs⟩
theorem Unlock_out {w : World} {F : Nat → Prop} {g : Nat} {s : St} (h : Stt w F g s) {p : List Addr} (h17 : E2 w p) (i : Int) (hi : i < 0 ∨ (s.M.length : Int) ≤ i) : Calls Tryd.prog 51 #[.pointer (some ⟨g, 0, none⟩), .int .i64 i] w (Vb w (.tuple #[.bool false, errV p 0])) := by
  have T := hide (turn_out h h17 i false hi)
  clear h hi h17
  unfold errV at *
  generalize adr p 0 = ad at *
  go_enter Tryd.func51, Tryd.ntmps51
  go_wp2_with fail
  refine T.out.mono ?_
  rintro e w1 ⟨rfl, hb⟩
  go_wp2_with fail
  go_ret2
  exact Vb.mk rfl hb
set_option maxRecDepth 20000 in
set_option maxHeartbeats 1000000 in
theorem Locked_in {w : World} {F : Nat → Prop} {g : Nat} {s : St} (h : Stt w F g s) (i : Nat) (x : Bool) (hx : s.M[i]? = some x) : Calls Tryd.prog 15 #[.pointer (some ⟨g, 0, none⟩), .int .i64 (i : Nat)] w fun e w' => e = .returned (.bool x) ∧ w = w' := by
  obtain ⟨vP, vM, vC, vA, vs, h⟩ := h
  have hi : i < s.M.length := (List.getElem?_eq_some_iff.1 hx).1
  obtain ⟨b, c, e, hc, hm⟩ := own_some h.mu (by omega)
  have hsm := h.small
  obtain ⟨n, hn⟩ : ∃ n, n = s.M.length := ⟨_, rfl⟩
  rw [← hn] at e hi hc
  have hn32 : n ≤ 32 := by omega
  subst e
  have HN := hide hn
  have c1 := h.cells.2.1
  obtain ⟨d1, d2⟩ := own_cell h.mu i _ (bls_at hx)
  clear h hsm hc hm hn
  go_enter Tryd.func15, Tryd.ntmps15
  go_wp2_with fail
  refine (in_syncelementbool b n c i _ hi).mono ?_
  rintro e w1 ⟨rfl, rfl⟩
  go_wp2_with fail
  go_ret
  exact ⟨by simp, rfl⟩
set_option maxRecDepth 20000 in
set_option maxHeartbeats 1000000 in
theorem Locked_out {w : World} {F : Nat → Prop} {g : Nat} {s : St} (h : Stt w F g s) {p : List Addr} (h17 : E2 w p) (i : Int) (hi : i < 0 ∨ (s.M.length : Int) ≤ i) : Calls Tryd.prog 15 #[.pointer (some ⟨g, 0, none⟩), .int .i64 i] w (Vb w (.bool false)) := by
  obtain ⟨vP, vM, vC, vA, vs, h⟩ := h
  obtain ⟨a, c, e, hc, hm⟩ := own_slice h.mu
  subst e
  obtain ⟨n, hn⟩ : ∃ n, n = s.M.length := ⟨_, rfl⟩
  rw [← hn] at hi
  have c1 := h.cells.2.1
  rw [← hn] at c1
  have EO := hide (fun w' (h17 : E2 w' p) => out_syncelementbool a n c i w' h17 hi)
  have H7 := hide h17
  unfold errV at *
  generalize adr p 0 = ad at *
  clear h hc hm hi hn h17
  go_enter Tryd.func15, Tryd.ntmps15
  go_wp2_with fail
  refine (EO.out _ H7.out).mono ?_
  rintro e w1 ⟨rfl, hb⟩
  go_wp2_with fail
  go_ret
  exact Vb.mk rfl hb
end Go.Proofs.YtghfjnnmpmfboaaDoor.Ck
