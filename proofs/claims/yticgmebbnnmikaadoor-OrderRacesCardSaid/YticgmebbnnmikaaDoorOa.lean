/- Stage 18: what is generic: a map of ints to values, arrays of eight ints, a world that turned in some cells of one block. -/
import Derived.Test.YticgmebbnnmikaaDoorBase
import Derived.WalkLawsBesides
import Derived.StillTailTactics
import Derived.Deep.RegionHeld3
import Derived.Deep.QuietTactic
import Derived.Maps.OwnSet
import Derived.Maps.Views
namespace Go.Proofs.YticgmebbnnmikaaDoor.Ck
open Go.RowKit

theorem hide {p : Prop} (h : p) : Hid p := h
theorem mixed : Tryd.prog.follows .mixedOrders = true := by kernel_rfl
theorem lt_of_blk {w : World} {g : Nat} {o : Obj} (h : w.heap[g]? = some o) : g < w.heap.size := (Array.getElem?_eq_some_iff.1 h).1
theorem blk_cell {w : World} {g : Nat} {c : Array Value} {T : TypeId} {r : Nat × Nat} (h : w.heap[g]? = some (.cells c T r)) (i : Nat) (v : Value) (hv : c[i]? = some v) : w.cell? ⟨g, i, none⟩ = some v := by simp [World.cell?, h, hv]
theorem blk_frz {w : World} {g : Nat} {c : Array Value} {T : TypeId} (h : w.heap[g]? = some (.cells c T (0, 0))) (i : Nat) : w.frozen? ⟨g, i, none⟩ = false := frozen_of_row w g i _ T h
theorem size_setCell (w : World) (a : Addr) (v : Value) : (w.setCell a v).heap.size = w.heap.size := by
  unfold World.setCell
  split <;> simp
def Vb (w : World) (v : Value) (e : Ending) (w' : World) : Prop := e = .returned v ∧ Below w.heap.size w w'
theorem Sl.bel {w w' : World} {v : Value} {l : List Int} (h : Sl w v l) (hb : Below w.heap.size w w') : Sl w' v l := h.below (Nat.le_refl _) hb
theorem Sl.form {w : World} {v : Value} {l : List Int} (h : Sl w v l) : ∃ a c, v = .slice a l.length c ∧ l.length ≤ c ∧ c ≤ maxLen := by
  obtain ⟨_, a, c, e, h1, h2, _⟩ := h
  exact ⟨a, c, e, h1, h2⟩
def up {α : Type} (f : Int → α) (o : Int) (x : α) : Int → α := fun y => if y = o then x else f y
def wfI (x : Int) : Prop := -9223372036854775808 ≤ x ∧ x ≤ 9223372036854775807
theorem wfI.wf {x : Int} (h : wfI x) : (Lit.int .i64 x).wf = true := by
  unfold wfI at h
  simp [Lit.wf]
  exact ⟨h.1, h.2⟩
/-- how any value reads -/
def RV : Value → Option (DataW Value × List MemPlace) := fun v => some (.held v, [])
/-- block b is a map of ints to values that holds L; z: what isn't there -/
def VMap (w : World) (b n : Nat) (z : Value) (L : Int → Option Value) : Prop := ∃ D, w.ownsMap (H := Value) Tryd.prog 3 RV b n D ∧ ∀ x : Int, (Lit.int .i64 x).wf = true → D.atKey (.int .i64 x) (.held z) = .held ((L x).getD z) ∧ Maps.has D (.int .i64 x) = (L x).isSome
theorem VMap.made (w : World) (z : Value) : VMap (w.alloc (.map #[] 0)) w.heap.size 0 z (fun _ => none) := ⟨_, World.ownsMap_made w _ _ _, fun _ _ => ⟨rfl, rfl⟩⟩
section
variable {w w' : World} {b n : Nat} {z : Value} {L : Int → Option Value}
theorem VMap.blk (h : VMap w b n z L) : ∃ es c, w.heap[b]? = some (.map es c) := by
  obtain ⟨D, ⟨es, clock, h1, h2⟩, h3⟩ := h
  exact ⟨es, clock, h1⟩
theorem VMap.keep (h : VMap w b n z L) (hb : w'.heap[b]? = w.heap[b]?) : VMap w' b n z L := by
  obtain ⟨D, ⟨es, clock, h1, h2⟩, h3⟩ := h
  exact ⟨D, ⟨es, clock, hb.trans h1, h2⟩, h3⟩
theorem VMap.lt (h : VMap w b n z L) : b < w.heap.size := by
  obtain ⟨_, _, h1⟩ := h.blk
  exact lt_of_blk h1
theorem VMap.look (h : VMap w b n z L) {t e : TypeId} (ht : Tryd.prog.underlying t = some (.map 3 e)) (hz : (zeroValue e).run Tryd.prog w = .ok z w) {x : Int} (hx : wfI x) : (Instr.lookup t (.map (some b)) (.int .i64 x) false).run Tryd.prog w = .ok ((L x).getD z) w := by
  obtain ⟨D, ho, hD⟩ := h
  obtain ⟨v, ps, hrun, hv⟩ := ho.lookup (t := t) (e := e) (Go.Maps.int_keyed Tryd.underlying3) ht (z := z) hz (zd := .held z) (zp := []) rfl (Go.Maps.keyOf_int_mk Tryd.underlying3 hx.wf)
  rw [(hD x hx.wf).1] at hv
  have e : v = (L x).getD z := by
    have h9 := congrArg (fun o => o.map Prod.fst) hv
    exact DataW.held.inj (Option.some.inj h9)
  rw [e] at hrun
  exact hrun
theorem VMap.look_ok (h : VMap w b n z L) {t e : TypeId} (ht : Tryd.prog.underlying t = some (.map 3 e)) (hz : (zeroValue e).run Tryd.prog w = .ok z w) {x : Int} (hx : wfI x) : (Instr.lookup t (.map (some b)) (.int .i64 x) true).run Tryd.prog w = .ok (.tuple #[(L x).getD z, .bool (L x).isSome]) w := by
  obtain ⟨D, ho, hD⟩ := h
  obtain ⟨v, ps, hrun, hv⟩ := ho.look_ok (t := t) (e := e) (Go.Maps.int_keyed Tryd.underlying3) ht (z := z) hz (zd := .held z) (zp := []) rfl (Go.Maps.keyOf_int_mk Tryd.underlying3 hx.wf)
  rw [(hD x hx.wf).1] at hv
  rw [(hD x hx.wf).2] at hrun
  have e : v = (L x).getD z := by
    have h9 := congrArg (fun o => o.map Prod.fst) hv
    exact DataW.held.inj (Option.some.inj h9)
  rw [e] at hrun
  exact hrun
theorem VMap.put (h : VMap w b n z L) (hn : n < maxLen) {t e : TypeId} (ht : Tryd.prog.underlying t = some (.map 3 e)) {x : Int} (hx : wfI x) (v : Value) : ∃ w', (Instr.mapUpdate t (.map (some b)) (.int .i64 x) v).run Tryd.prog w = .ok () w' ∧ VMap w' b (n + 1) z (up L x (some v)) ∧ w.grownBy w' (some b) := by
  obtain ⟨D, ho, hD⟩ := h
  have hk := Go.Maps.keyOf_int_mk Tryd.underlying3 hx.wf
  have KK := Go.Maps.int_keyed Tryd.underlying3
  obtain ⟨w', r, o, g⟩ := ho.update KK ht hn hk (val := v) (d := .held v) (ps := []) rfl
  refine ⟨w', r, ⟨_, o, fun y hy => ?_⟩, g⟩
  unfold up
  by_cases e : y = x
  · rw [if_pos e, e]
    exact ⟨Go.Maps.atKey_put_same ho.isMap (KK.key hk) _ _, Go.Maps.has_put_same ho.isMap (KK.key hk) _⟩
  · rw [if_neg e]
    have hne : Lit.int .i64 y ≠ Lit.int .i64 x := fun h => e (by injection h)
    exact ⟨(Go.Maps.atKey_put_other hne _ _).trans (hD y hy).1, (Go.Maps.has_put_other hne _).trans (hD y hy).2⟩
end
/-- what is known of each of the eight goroutines -/
abbrev Sn := Nat → Int
def snC (s : Sn) : List Value := [.int .i64 (s 0), .int .i64 (s 1), .int .i64 (s 2), .int .i64 (s 3), .int .i64 (s 4), .int .i64 (s 5), .int .i64 (s 6), .int .i64 (s 7)]
def snV (s : Sn) : Value := .agg #[.int .i64 (s 0), .int .i64 (s 1), .int .i64 (s 2), .int .i64 (s 3), .int .i64 (s 4), .int .i64 (s 5), .int .i64 (s 6), .int .i64 (s 7)]
def sn0 : Sn := fun _ => 0
def jn (s t : Sn) : Sn := fun i => max (s i) (t i)
def jnK (s t : Sn) (k : Nat) : Sn := fun i => if i < k then max (s i) (t i) else s i
def setS (s : Sn) (g : Nat) (x : Int) : Sn := fun i => if i = g then x else s i
/-- eight ints from a cell on -/
def Ar (w : World) (b o : Nat) (s : Sn) : Prop := ∃ cs T, w.heap[b]? = some (.cells cs T (0, 0)) ∧ ∀ i, i < 8 → cs[o + i]? = some (.int .i64 (s i))
theorem Ar.lt {w : World} {b o : Nat} {s : Sn} (h : Ar w b o s) : b < w.heap.size := by
  obtain ⟨cs, T, h1, _⟩ := h
  exact lt_of_blk h1
theorem Ar.cell {w : World} {b o : Nat} {s : Sn} (h : Ar w b o s) (i : Nat) (hi : i < 8) : w.cell? ⟨b, o + i, none⟩ = some (.int .i64 (s i)) := by
  obtain ⟨cs, T, h1, h2⟩ := h
  exact blk_cell h1 _ _ (h2 i hi)
theorem Ar.frz {w : World} {b o : Nat} {s : Sn} (h : Ar w b o s) (i : Nat) : w.frozen? ⟨b, i, none⟩ = false := by
  obtain ⟨cs, T, h1, h2⟩ := h
  exact blk_frz h1 _
theorem Ar.bel {w w' : World} {b o : Nat} {s : Sn} (h : Ar w b o s) (hb : Below w.heap.size w w') : Ar w' b o s := by
  obtain ⟨cs, T, h1, h2⟩ := h
  exact ⟨cs, T, (hb.block b (lt_of_blk h1)).trans h1, h2⟩
theorem Ar.set {w : World} {b o : Nat} {s : Sn} (h : Ar w b o s) (k : Nat) (x : Int) : Ar (w.setCell ⟨b, o + k, none⟩ (.int .i64 x)) b o (setS s k x) := by
  obtain ⟨cs, T, h1, h2⟩ := h
  refine ⟨_, T, heap_setCell_same w b (o + k) _ T _ h1, fun i hi => ?_⟩
  have h3 := h2 i hi
  have h4 := (Array.getElem?_eq_some_iff.1 h3).1
  unfold setS
  rw [Array.getElem?_setIfInBounds]
  by_cases e : i = k
  · subst e
    rw [if_pos rfl, if_pos rfl, if_pos h4]
  · rw [if_neg (by omega), if_neg e]
    exact h3
theorem Ar.eq {w : World} {b o : Nat} {s t : Sn} (h : Ar w b o s) (e : ∀ i, i < 8 → s i = t i) : Ar w b o t := by
  obtain ⟨cs, T, h1, h2⟩ := h
  exact ⟨cs, T, h1, fun i hi => by rw [← e i hi]; exact h2 i hi⟩
/-- nothing that was there turned but some cells of one block -/
structure Tn (w w' : World) (b o n : Nat) : Prop where
  os : w'.os = w.os
  tape : w'.tape = w.tape
  out : w'.output = w.output
  size : w.heap.size ≤ w'.heap.size
  oth : ∀ k, k < w.heap.size → k ≠ b → w'.heap[k]? = w.heap[k]?
  blk : ∀ cs T, w.heap[b]? = some (.cells cs T (0, 0)) → ∃ cs', w'.heap[b]? = some (.cells cs' T (0, 0)) ∧ cs'.size = cs.size ∧ ∀ i, (i < o ∨ o + n ≤ i) → cs'[i]? = cs[i]?
theorem Tn.refl (w : World) (b o n : Nat) : Tn w w b o n := ⟨rfl, rfl, rfl, Nat.le_refl _, fun _ _ _ => rfl, fun cs _ h => ⟨cs, h, rfl, fun _ _ => rfl⟩⟩
theorem Tn.trans {w w1 w2 : World} {b o n : Nat} (h : Tn w w1 b o n) (h2 : Tn w1 w2 b o n) : Tn w w2 b o n := by
  refine ⟨h2.os.trans h.os, h2.tape.trans h.tape, h2.out.trans h.out, Nat.le_trans h.size h2.size, fun k hk hne => (h2.oth k (Nat.lt_of_lt_of_le hk h.size) hne).trans (h.oth k hk hne), fun cs T hc => ?_⟩
  obtain ⟨cs1, g1, g2, g3⟩ := h.blk cs T hc
  obtain ⟨cs2, f1, f2, f3⟩ := h2.blk cs1 T g1
  exact ⟨cs2, f1, f2.trans g2, fun i hi => (f3 i hi).trans (g3 i hi)⟩
theorem Tn.of_bel {w w' : World} {b o n : Nat} (hb : b < w.heap.size) (h : Below w.heap.size w w') : Tn w w' b o n :=
  ⟨h.os, h.tape, h.output, h.size, fun k hk _ => h.block k hk, fun cs _ hc => ⟨cs, (h.block b hb).trans hc, rfl, fun _ _ => rfl⟩⟩
theorem Tn.drew {w w' : World} {b o n : Nat} (h : Tn w w' b o n) : Tn w w'.drew b o n := ⟨h.os, h.tape, h.out, h.size, h.oth, h.blk⟩
theorem Tn.set {w : World} {b o n : Nat} (i : Nat) (h1 : o ≤ i) (h2 : i < o + n) (v : Value) : Tn w (w.setCell ⟨b, i, none⟩ v) b o n := by
  refine ⟨rfl, rfl, rfl, by rw [size_setCell]; exact Nat.le_refl _, fun k _ hne => Below.heap_setCell _ _ _ _ hne, fun cs T hc => ⟨cs.setIfInBounds i v, heap_setCell_same w b i _ T _ hc, by simp, fun j hj => ?_⟩⟩
  rw [Array.getElem?_setIfInBounds, if_neg (by omega)]
theorem Tn.mono {w w' : World} {b o n o' n' : Nat} (h : Tn w w' b o n) (h1 : o' ≤ o) (h2 : o + n ≤ o' + n') : Tn w w' b o' n' := by
  refine ⟨h.os, h.tape, h.out, h.size, h.oth, fun cs T hc => ?_⟩
  obtain ⟨cs1, g1, g2, g3⟩ := h.blk cs T hc
  exact ⟨cs1, g1, g2, fun i hi => g3 i (by omega)⟩
theorem Tn.below {w w' : World} {b o n B : Nat} (h : Tn w w' b o n) (hB : B ≤ b) (hs : B ≤ w.heap.size) : Below B w w' :=
  ⟨h.os, h.tape, h.out, h.size, fun k hk => h.oth k (by omega) (by omega)⟩
end Go.Proofs.YticgmebbnnmikaaDoor.Ck
