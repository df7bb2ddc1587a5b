/- append on a slice of ints that the call itself made, from whatever list. -/
import Derived.Test.YtndhgdjcbegjdaaDoorBase
import Derived.Deep.AppendSrc
import Derived.OwnWalk
namespace Go.Proofs.YtndhgdjcbegjdaaDoor.Ck
open Go.RowKit

def ints (zs : List Int) : List Value := zs.map (Value.int .i64)
theorem ints_len (zs : List Int) : (ints zs).length = zs.length := by simp [ints]
theorem ints_app (zs ms : List Int) : ints zs ++ ints ms = ints (zs ++ ms) := by simp [ints]
theorem ints_one (zs : List Int) : ∀ u ∈ ints zs, u.oneCell' = true := fun u hu => by
  obtain ⟨z, _, rfl⟩ := List.mem_map.1 hu
  rfl
theorem ints_at (zs : List Int) (j : Nat) (u : Value) (h : (ints zs)[j]? = some u) : j < zs.length ∧ u = .int .i64 (zs.getD j 0) := by
  unfold ints at h
  rw [List.getElem?_map] at h
  cases hz : zs[j]? with
  | none => rw [hz] at h; cases h
  | some z =>
    rw [hz] at h
    have hl : j < zs.length := (List.getElem?_eq_some_iff.1 hz).1
    cases h
    exact ⟨hl, by simp [List.getD, hz]⟩

/-- the slice of block g, of the call's own, with room for cap, holds zs -/
def Own (w : World) (B g cap : Nat) (zs : List Int) : Prop := w.ownsRow B 3 1 (.slice (some ⟨g, 0, none⟩) zs.length cap) zs.length (ints zs)

theorem Own.parts {w : World} {B g cap : Nat} {zs : List Int} (h : Own w B g cap zs) :
    ∃ cur : Array Value, B ≤ g ∧ w.heap[g]? = some (.cells cur 3 (0, 0)) ∧ zs.length ≤ cap ∧ cap ≤ maxLen ∧ cur.size = cap ∧ cur.toList.take zs.length = ints zs := by
  rcases h.2 with ⟨h, _⟩ | ⟨g', cap', cur, h, hbg, hg, hnc, hcm, hcs, htake⟩
  · simp at h
  · simp only [Value.slice.injEq, Option.some.injEq, Addr.mk.injEq, and_true, true_and] at h
    obtain ⟨rfl, rfl⟩ := h
    exact ⟨cur, hbg, hg, hnc, hcm, by simpa using hcs, by simpa using htake⟩
theorem Own.mk {w : World} {B g cap : Nat} {zs : List Int} (cur : Array Value) (h1 : B ≤ g) (h2 : w.heap[g]? = some (.cells cur 3 (0, 0))) (h3 : zs.length ≤ cap) (h4 : cap ≤ maxLen) (h5 : cur.size = cap) (h6 : cur.toList.take zs.length = ints zs) : Own w B g cap zs :=
  ⟨by rw [ints_len]; simp, .inr ⟨g, cap, cur, rfl, h1, h2, h3, h4, by simpa using h5, by simpa using h6⟩⟩
theorem Own.cell {w : World} {B g cap : Nat} {zs : List Int} (h : Own w B g cap zs) (i : Nat) (hi : i < zs.length) : w.cell? ⟨g, i, none⟩ = some (.int .i64 (zs.getD i 0)) := by
  obtain ⟨cur, _, hg, hnc, _, hcs, ht⟩ := h.parts
  have e : (cur.toList.take zs.length)[i]? = (ints zs)[i]? := by rw [ht]
  rw [List.getElem?_take_of_lt hi] at e
  have e2 : (ints zs)[i]? = some (.int .i64 (zs.getD i 0)) := by simp [ints, List.getD, hi]
  rw [e2] at e
  simp only [World.cell?, hg]
  rw [← Array.getElem?_toList]
  exact e
theorem Own.sl {w : World} {B g cap : Nat} {zs : List Int} (h : Own w B g cap zs) (hf : Fits zs) : Sl w (.slice (some ⟨g, 0, none⟩) zs.length cap) zs := by
  obtain ⟨cur, _, hg, hnc, hcm, hcs, ht⟩ := h.parts
  refine ⟨hf, _, _, rfl, hnc, hcm, fun i hi => ⟨g, 0, rfl, (Array.getElem?_eq_some_iff.1 hg).1, by rw [Nat.zero_add]; exact h.cell i hi⟩⟩

theorem app_src {w : World} {vx : Value} {ms : List Int} (h : Sl w vx ms) :
    (∃ ad c, vx = .slice (some ad) ms.length c ∧ ∀ j u, (ints ms)[j]? = some u → w.cell? (ad.add j) = some u) ∨ (∃ c, vx = .slice none 0 c ∧ ms = []) := by
  obtain ⟨_, a, c, rfl, _, _, hc⟩ := h
  cases a with
  | none =>
    right
    cases ms with
    | nil => exact ⟨c, rfl, rfl⟩
    | cons m ms => obtain ⟨b, off, e, _⟩ := hc 0 (by simp); cases e
  | some ad =>
    left
    refine ⟨ad, c, rfl, fun j u hu => ?_⟩
    obtain ⟨hj, rfl⟩ := ints_at ms j u hu
    obtain ⟨b, off, e, _, hcell⟩ := hc j hj
    cases e
    have e2 : (Addr.mk b off none).add j = ⟨b, off + j, none⟩ := by unfold Addr.add; by_cases h : j = 0 <;> simp [h]
    rw [e2]
    exact hcell

theorem app_fits {w : World} {B g cap : Nat} {zs ms : List Int} {vx : Value} (ty : TypeId) (h : Own w B g cap zs) (hx : Sl w vx ms) (hroom : zs.length + ms.length ≤ cap) :
    ∃ w', (Builtin.append_ #[22, 22] ty #[.slice (some ⟨g, 0, none⟩) zs.length cap, vx]).run Tryd.prog w = .ok (.slice (some ⟨g, 0, none⟩) (zs.length + ms.length) cap) w' ∧ Own w' B g cap (zs ++ ms) ∧ w.grownBy w' (some g) := by
  obtain ⟨i, hi, hz0, hz1, hz2⟩ := info_parts info3
  rcases app_src hx with ⟨ad, c, rfl, hnews⟩ | ⟨c, rfl, rfl⟩
  · obtain ⟨w', hr, ho, hg⟩ := run_append_fits (P := Tryd.prog) w B 22 ty 3 i 1 Tryd.underlying22 hi hz1 g zs.length cap (ints zs) h ad ms.length c (ints ms) (by rw [ints_len]; simp) hnews (ints_one ms) hroom
    refine ⟨w', hr, ?_, hg⟩
    unfold Own
    rw [List.length_append, ← ints_app]
    exact ho
  · have hs := Src.ofNil (P := Tryd.prog) w (size := i.size) Tryd.underlying22 c
    have hr := run_append_room_src (P := Tryd.prog) w 22 22 ty 3 i Tryd.underlying22 hi g 0 zs.length cap (.slice none 0 c) 0 [] hs hroom (fun j hj => absurd hj (Nat.not_lt_zero _)) (fun j hj => absurd hj (Nat.not_lt_zero _))
    refine ⟨w, hr, by rw [List.append_nil]; exact h, ⟨rfl, rfl, rfl, Nat.le_refl _, fun _ _ _ => rfl⟩⟩

theorem app_own {w : World} {B g cap : Nat} {zs ms : List Int} {vx : Value} (ty : TypeId) (h : Own w B g cap zs) (hx : Sl w vx ms) (hlen : zs.length + ms.length ≤ 2000000) (hB : B ≤ w.heap.size) :
    ∃ v' w', (Builtin.append_ #[22, 22] ty #[.slice (some ⟨g, 0, none⟩) zs.length cap, vx]).run Tryd.prog w = .ok v' w' ∧ (∃ g' cap', v' = .slice (some ⟨g', 0, none⟩) (zs ++ ms).length cap' ∧ Own w' B g' cap' (zs ++ ms)) ∧ w.grownBy w' (some g) := by
  obtain ⟨i, hi, hz0, hz1, hz2⟩ := info_parts info3
  rcases app_src hx with ⟨ad, c, rfl, hnews⟩ | ⟨c, rfl, rfl⟩
  · obtain ⟨v', w', hr, ho, hg, hn⟩ := run_append_own (P := Tryd.prog) w B 22 ty 3 i (.int .i64 0) 1 8 Tryd.underlying22 hi hz0 hz1 hz2 rfl (by decide) _ zs.length (ints zs) h ad ms.length c (ints ms) (by rw [ints_len]; simp) hnews (ints_one ms) (by unfold maxLen; omega) (by omega) hB
    refine ⟨v', w', hr, ?_, hg⟩
    have ho2 := ho
    rcases ho.2 with ⟨h1, _⟩ | ⟨g', cap', cur, h1, _⟩
    · have := hn.1 h1
      simp at this
    · refine ⟨g', cap', by rw [h1, List.length_append], ?_⟩
      unfold Own
      rw [List.length_append, ← ints_app]
      rw [h1] at ho2
      exact ho2
  · obtain ⟨_, _, _, hnc, _⟩ := h.parts
    obtain ⟨w', hr, ho, hg⟩ := app_fits (ms := []) ty h hx (by simpa using hnc)
    exact ⟨_, w', hr, ⟨g, cap, by simp, ho⟩, hg⟩

/-- an append, by what its run gives -/
theorem wpList_app {w : World} {ops : Array Oper} {rest : List Oper} {o : Oper} {a : Act} {Q : Exit → Act → World → Prop} (hgd : o.guard = none) (s x : Operand)
    (ho : o.op = .call { callee := .builtin .append, args := #[s, x], argTypes := #[22, 22] }) (v vx : Value) (hs : a.eval s = v) (hx : a.eval x = vx) (R : Value → World → Prop)
    (hrun : ∃ v' w', (Builtin.append_ #[22, 22] o.type #[v, vx]).run Tryd.prog w = .ok v' w' ∧ R v' w')
    (h : ∀ v' w', R v' w' → wpList Tryd.prog ops Q rest (a.put o.dst v') w') : wpList Tryd.prog ops Q (o :: rest) a w :=
  wpList_plain hgd fun _ hK => by
    obtain ⟨v', w', hr, hR⟩ := hrun
    unfold Oper.wp execOp
    simp only [ho, resolve, invoke, builtin, Sem.run_bind, Sem.run_pure, Result.andThen_ok, List.map_toArray, List.map_cons, List.map_nil, hs, hx, hr]
    exact hK _ _ (h v' w' hR)

end Go.Proofs.YtndhgdjcbegjdaaDoor.Ck
