/- A trace whose goroutines are set to one, event by event. No Go text is walked here. -/
import Derived.Test.YticgmebbnnmikaaDoorOzd
namespace Go.Proofs.YticgmebbnnmikaaDoor.Ck
open Go.RowKit

theorem flat_set : ∀ (l : List Ev) (i j : Nat) (y : Value) (e' : Ev), i < l.length → j < 4 → evC e' = (evC (l.getD i zE)).set j y → (l.flatMap evC).set (i * 4 + j) y = (l.set i e').flatMap evC
  | [], _, _, _, _, h, _, _ => absurd h (Nat.not_lt_zero _)
  | p :: l, 0, j, y, e', _, hj, he => by
    rw [List.flatMap_cons, Nat.zero_mul, Nat.zero_add, List.set_append_left _ _ (by rw [show (evC p).length = 4 from rfl]; omega), List.set_cons_zero, List.flatMap_cons, he]
    rfl
  | p :: l, i + 1, j, y, e', h, hj, he => by
    rw [List.flatMap_cons, List.set_append_right _ _ (by rw [show (evC p).length = 4 from rfl]; omega), show (i + 1) * 4 + j - (evC p).length = i * 4 + j by rw [show (evC p).length = 4 from rfl]; omega, flat_set l i j y e' (by simpa using h) hj he]
    rfl
/-- the trace with its first k events set -/
def mixT (T : List Ev) (k : Nat) : List Ev := (T.take k).map oneE ++ T.drop k
theorem mix_zero (T : List Ev) : mixT T 0 = T := by unfold mixT; simp
theorem mix_all (T : List Ev) : mixT T T.length = T.map oneE := by unfold mixT; simp
theorem mix_len (T : List Ev) (k : Nat) (hk : k ≤ T.length) : (mixT T k).length = T.length := by
  unfold mixT
  rw [List.length_append, List.length_map, List.length_take, List.length_drop]
  omega
theorem mix_at (T : List Ev) (k : Nat) (hk : k < T.length) : (mixT T k).getD k zE = T.getD k zE := by
  unfold mixT
  rw [List.getD_eq_getElem?_getD, List.getD_eq_getElem?_getD, List.getElem?_append_right (by rw [List.length_map, List.length_take]; omega), List.getElem?_drop, List.length_map, List.length_take]
  congr 2
  omega
theorem mix_step (T : List Ev) (k : Nat) (hk : k < T.length) : mixT T (k + 1) = (mixT T k).set k (oneE (T.getD k zE)) := by
  have hd : T.drop k = T.getD k zE :: T.drop (k + 1) := by
    rw [List.drop_eq_getElem_cons hk, List.getD_eq_getElem?_getD, List.getElem?_eq_getElem hk]
    rfl
  have hl : ((T.take k).map oneE).length = k := by rw [List.length_map, List.length_take]; omega
  unfold mixT
  rw [hd, List.set_append_right _ _ (by omega), hl, Nat.sub_self, List.set_cons_zero, take_one T k hk, List.map_append, List.append_assoc]
  rfl
/-- a row of one's own whose events are being set -/
structure MiM (w0 w : World) (b c : Nat) (T : List Ev) (l : List Ev) : Prop where
  row : w.ownsRow w0.heap.size 47 4 (.slice (some ⟨b, 0, none⟩) T.length c) T.length (l.flatMap evC)
  bel : Below w0.heap.size w0 w
theorem MiM.at {w0 w : World} {b c : Nat} {T l : List Ev} (h : MiM w0 w b c T l) (hl : l.length = T.length) (i : Nat) (hi : i < T.length) (j : Nat) (hj : j < 4) (u : Value) (hu : (evC (l.getD i zE))[j]? = some u) : w.cell? ⟨b, i * 4 + j, none⟩ = some u ∧ w.frozen? ⟨b, i * 4 + j, none⟩ = false :=
  own_cell h.row _ u ((flat_ev l i j (by omega) hj).trans hu)
theorem MiM.set {w0 w : World} {b c : Nat} {T l : List Ev} (h : MiM w0 w b c T l) (hl : l.length = T.length) (i : Nat) (hi : i < T.length) (j : Nat) (hj : j < 4) (y : Value) (e' : Ev) (he : evC e' = (evC (l.getD i zE)).set j y) : MiM w0 (w.setCell ⟨b, i * 4 + j, none⟩ y) b c T (l.set i e') := by
  have hb := (own_type h.row (k := b) rfl).1
  refine ⟨?_, h.bel.setCell hb _⟩
  rw [← flat_set l i j y e' (by omega) hj he]
  exact own_set h.row _ y
theorem append_zero (w : World) (b : Nat) (aT : Option Addr) (cT : Nat) (ty : TypeId) : (Builtin.append_ #[22, 22] ty #[.slice (some ⟨b, 0, none⟩) 0 0, .slice aT 0 cT]).run Tryd.prog w = .ok (.slice (some ⟨b, 0, none⟩) 0 0) w := by
  cases aT <;> kernel_rfl
theorem append_any {w0 w : World} {n : Nat} {vT : Value} {T : List Ev} (hT : SlE w vT T) (hb : Below w0.heap.size w0 w) (hv : w.ownsRow w0.heap.size 47 4 (.slice (some ⟨n, 0, none⟩) 0 0) 0 []) (hn : T.length ≤ 100000) (ty : TypeId) :
    ∃ v' w', (Builtin.append_ #[22, 22] ty #[.slice (some ⟨n, 0, none⟩) 0 0, vT]).run Tryd.prog w = .ok v' w' ∧ (∃ b c, v' = .slice (some ⟨b, 0, none⟩) T.length c ∧ MiM w0 w' b c T T) := by
  by_cases h0 : 0 < T.length
  · obtain ⟨v', w', hr, _, ho, hg⟩ := appT hT h0 hn hv hb.size ty
    obtain ⟨b, c, rfl, _⟩ := own_some ho h0
    refine ⟨_, w', hr, b, c, rfl, ho, ⟨hg.os.trans hb.os, hg.tape.trans hb.tape, hg.output.trans hb.output, Nat.le_trans hb.size hg.size, fun k hk => (hg.block k (Nat.lt_of_lt_of_le hk hb.size) (fun q => ?_)).trans (hb.block k hk)⟩⟩
    have := (own_type hv (k := k) q.symm).1
    omega
  · cases T with
    | cons e T => exact absurd (Nat.succ_pos _) h0
    | nil =>
      obtain ⟨a, c, rfl, _⟩ := hT.form
      exact ⟨_, w, append_zero w n a c ty, n, 0, rfl, hv, hb⟩
theorem ones_obj {T : List Ev} (hW : ∀ k, k < T.length → wfI (T.getD k zE).o) : ∀ k, k < (T.map oneE).length → wfI ((T.map oneE).getD k zE).o := fun k hk => by
  obtain ⟨x, hx, e⟩ := List.mem_map.1 (mem_getD hk)
  rw [← e]
  obtain ⟨i, hi, e⟩ := getD_mem hx
  have h := hW i hi
  rw [e] at h
  unfold oneE
  split <;> exact h
theorem set_at (l : List Ev) (k : Nat) (e : Ev) (hk : k < l.length) : (l.set k e).getD k zE = e := by
  rw [List.getD_eq_getElem?_getD, List.getElem?_set_self hk]
  rfl
end Go.Proofs.YticgmebbnnmikaaDoor.Ck
