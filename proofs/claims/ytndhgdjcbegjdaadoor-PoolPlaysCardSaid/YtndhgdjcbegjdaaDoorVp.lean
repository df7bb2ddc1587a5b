/- Slices of pointers, of the call's own, by the values that they hold; append on them; no Go text is walked here. -/
import Derived.Test.YtndhgdjcbegjdaaDoorDw
import Derived.Maps.AppendAt
namespace Go.Proofs.YtndhgdjcbegjdaaDoor.Ck
open Go.RowKit

/-- the slice of block g, of the call's own, with room for cap, holds the values vs -/
def OwnV (TE : TypeId) (w : World) (B g cap : Nat) (vs : List Value) : Prop := w.ownsRow B TE 1 (.slice (some ⟨g, 0, none⟩) vs.length cap) vs.length vs

section
variable {TE : TypeId} {w w' : World} {B g cap : Nat} {vs : List Value}

theorem OwnV.parts (h : OwnV TE w B g cap vs) :
    ∃ cur : Array Value, B ≤ g ∧ w.heap[g]? = some (.cells cur TE (0, 0)) ∧ vs.length ≤ cap ∧ cap ≤ maxLen ∧ cur.size = cap ∧ cur.toList.take vs.length = vs := by
  rcases h.2 with ⟨h, _⟩ | ⟨g', cap', cur, h, hbg, hg, hnc, hcm, hcs, htake⟩
  · simp at h
  · simp only [Value.slice.injEq, Option.some.injEq, Addr.mk.injEq, and_true, true_and] at h
    obtain ⟨rfl, rfl⟩ := h
    exact ⟨cur, hbg, hg, hnc, hcm, by simpa using hcs, by simpa using htake⟩
theorem OwnV.mk (cur : Array Value) (h1 : B ≤ g) (h2 : w.heap[g]? = some (.cells cur TE (0, 0))) (h3 : vs.length ≤ cap) (h4 : cap ≤ maxLen) (h5 : cur.size = cap) (h6 : cur.toList.take vs.length = vs) : OwnV TE w B g cap vs :=
  ⟨by simp, .inr ⟨g, cap, cur, rfl, h1, h2, h3, h4, by simpa using h5, by simpa using h6⟩⟩
theorem OwnV.ge (h : OwnV TE w B g cap vs) : B ≤ g := by obtain ⟨_, h1, _⟩ := h.parts; exact h1
theorem OwnV.lt (h : OwnV TE w B g cap vs) : g < w.heap.size := by obtain ⟨_, _, h1, _⟩ := h.parts; exact (Array.getElem?_eq_some_iff.1 h1).1
theorem OwnV.room (h : OwnV TE w B g cap vs) : vs.length ≤ cap ∧ cap ≤ maxLen := by obtain ⟨_, _, _, h1, h2, _⟩ := h.parts; exact ⟨h1, h2⟩
theorem OwnV.cell (h : OwnV TE w B g cap vs) (i : Nat) (v : Value) (hv : vs[i]? = some v) : w.cell? ⟨g, i, none⟩ = some v := by
  obtain ⟨cur, _, hg, hnc, _, hcs, ht⟩ := h.parts
  have hi : i < vs.length := (List.getElem?_eq_some_iff.1 hv).1
  have e : (cur.toList.take vs.length)[i]? = vs[i]? := by rw [ht]
  rw [List.getElem?_take_of_lt hi, hv] at e
  simp only [World.cell?, hg]
  rw [← Array.getElem?_toList]
  exact e
theorem OwnV.keep (h : OwnV TE w B g cap vs) (hb : w'.heap[g]? = w.heap[g]?) : OwnV TE w' B g cap vs := by
  obtain ⟨cur, h1, hg, h3, h4, h5, h6⟩ := h.parts
  exact OwnV.mk cur h1 (hb.trans hg) h3 h4 h5 h6
theorem OwnV.below (h : OwnV TE w B g cap vs) (hb : Below w.heap.size w w') : OwnV TE w' B g cap vs := h.keep (hb.block g h.lt)
theorem OwnV.ef {S : List Nat} (h : OwnV TE w B g cap vs) (hb : Ef S w w') (hx : g ∉ S) : OwnV TE w' B g cap vs := h.keep (hb.blk g h.lt hx)
theorem OwnV.ed {L : Lay} {S : List Nat} (h : OwnV TE w B g cap vs) (hb : Ed L S w w') (h1 : g ≠ L.rb) (h2 : g ≠ L.pb) (hx : g ∉ S) : OwnV TE w' B g cap vs := h.keep (hb.blk g h.lt h1 h2 hx)
theorem OwnV.none_ (w : World) (hB : B ≤ w.heap.size) : OwnV TE (w.alloc (.cells #[] TE)) B w.heap.size 0 [] :=
  OwnV.mk _ hB (Go.Deep.blk_alloc_new _ _) (by simp) (by unfold maxLen; omega) (by simp) (by simp)

/-- one more -/
theorem pushV {TS : TypeId} {z : Value} {bytes : Nat} (hu : Tryd.prog.underlying TS = some (.slice TE)) (hinfo : (Tryd.prog.info? TE).map (fun i => (i.zero, i.size, i.bytes)) = some (some z, 1, bytes)) (hz : z.cells.size = 1) (hby : bytes ≤ 24)
    {gx n : Nat} {x : Value} (ty : TypeId) (h : OwnV TE w B g cap vs) (hn : n = vs.length) (hx : w.cell? ⟨gx, 0, none⟩ = some x) (h1 : x.oneCell' = true) (hlen : n + 1 ≤ 1000) (hB : B ≤ w.heap.size) :
    ∃ v' w', (Builtin.append_ #[TS, TS] ty #[.slice (some ⟨g, 0, none⟩) n cap, .slice (some ⟨gx, 0, none⟩) 1 1]).run Tryd.prog w = .ok v' w' ∧
      ((∃ g' cap', v' = .slice (some ⟨g', 0, none⟩) (n + 1) cap' ∧ OwnV TE w' B g' cap' (vs ++ [x]) ∧ (g' = g ∨ g' = w.heap.size)) ∧ Ef [g] w w') := by
  subst hn
  obtain ⟨i, hi, hz0, hz1, hz2⟩ := info_parts hinfo
  obtain ⟨v', w', hr, ho, hg, hnil, hbl⟩ := run_append_own_at (P := Tryd.prog) w B TS ty TE i z 1 bytes hu hi hz0 hz1 hz2 hz (by decide) (.slice (some ⟨g, 0, none⟩) vs.length cap) vs.length vs h ⟨gx, 0, none⟩ 1 1 [x] rfl
    (fun j q hq => by
      cases j with
      | zero =>
        simp only [List.getElem?_cons_zero, Option.some.injEq] at hq
        subst hq
        rw [Addr.add_mid, Nat.zero_add]
        exact hx
      | succ j => simp at hq) (fun u hu' => by simp at hu'; subst hu'; exact h1) (by unfold maxLen; omega) (by
        have : (vs.length + 1) * bytes ≤ 1000 * 24 := Nat.mul_le_mul hlen hby
        omega) hB
  have ht : Ef [g] w w' := ⟨hg.1, hg.2, hg.3, hg.4, fun k hk hgk => hg.5 k hk (by simp at hgk; simpa [Value.ownBlock] using hgk)⟩
  refine ⟨v', w', hr, ?_, ht⟩
  have ho2 := ho
  rcases ho.2 with ⟨h1', _⟩ | ⟨g', cap', cur, h1', _⟩
  · have := hnil.1 h1'
    simp at this
  · refine ⟨g', cap', h1', ?_, ?_⟩
    · unfold OwnV
      rw [List.length_append]
      rw [h1'] at ho2
      exact ho2
    · rw [h1'] at hbl
      rcases hbl with e | e
      · left
        simpa [Value.ownBlock] using e
      · right
        simpa [Value.ownBlock] using e
end

/-- an append, by what its run gives -/
theorem wpList_appV {TS : TypeId} {w : World} {ops : Array Oper} {rest : List Oper} {o : Oper} {a : Act} {Q : Exit → Act → World → Prop} (hgd : o.guard = none) (s x : Operand)
    (ho : o.op = .call { callee := .builtin .append, args := #[s, x], argTypes := #[TS, TS] }) (v vx : Value) (hs : a.eval s = v) (hx : a.eval x = vx) (R : Value → World → Prop)
    (hrun : ∃ v' w', (Builtin.append_ #[TS, TS] o.type #[v, vx]).run Tryd.prog w = .ok v' w' ∧ R v' w')
    (h : ∀ v' w', R v' w' → wpList Tryd.prog ops Q rest (a.put o.dst v') w') : wpList Tryd.prog ops Q (o :: rest) a w :=
  wpList_plain hgd fun _ hK => by
    obtain ⟨v', w', hr, hR⟩ := hrun
    unfold Oper.wp execOp
    simp only [ho, resolve, invoke, builtin, Sem.run_bind, Sem.run_pure, Result.andThen_ok, List.map_toArray, List.map_cons, List.map_nil, hs, hx, hr]
    exact hK _ _ (h v' w' hR)

end Go.Proofs.YtndhgdjcbegjdaaDoor.Ck
