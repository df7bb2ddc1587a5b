/- Blocks that are known whole, what turns when one of them is written, and laws that take a whole array out of, or lay one into, such a block; no Go text is walked here. -/
import Derived.Test.YtejhhkhaoekkiaaDoorBase
import Derived.WalkKit
import Derived.Outline
import Derived.BigQuiet
import Derived.Deep.QuietTactic
import Derived.WalkSmall
import Derived.Deep.OwnRows
import Derived.WalkLawsBesides
import Derived.Deep.MidRow
import Derived.Laws.CopyOwn
import Derived.StillTailTactics
namespace Go.Proofs.YtejhhkhaoekkiaaDoor.Ck
open Go.RowKit

theorem hide {p : Prop} (h : p) : Hid p := h
theorem mixed : Tryd.prog.follows .mixedOrders = true := by kernel_rfl

/-- block g holds just these cells, and may be written -/
def Blk (w : World) (g : Nat) (t : TypeId) (cs : List Value) : Prop := w.heap[g]? = some (.cells cs.toArray t (0, 0))

/-- nothing but block g, and what is new, may have turned -/
structure Tn (g : Nat) (w w' : World) : Prop where
  os : w'.os = w.os
  tape : w'.tape = w.tape
  output : w'.output = w.output
  size : w.heap.size ≤ w'.heap.size
  blk : ∀ k, k < w.heap.size → k ≠ g → w'.heap[k]? = w.heap[k]?

theorem Tn.refl (g : Nat) (w : World) : Tn g w w := ⟨rfl, rfl, rfl, Nat.le_refl _, fun _ _ _ => rfl⟩
theorem Tn.trans {g : Nat} {a b c : World} (h : Tn g a b) (k : Tn g b c) : Tn g a c :=
  ⟨k.os.trans h.os, k.tape.trans h.tape, k.output.trans h.output, Nat.le_trans h.size k.size, fun i hi hg => (k.blk i (Nat.lt_of_lt_of_le hi h.size) hg).trans (h.blk i hi hg)⟩
theorem Tn.of_bel {g : Nat} {w w' : World} (h : Below w.heap.size w w') : Tn g w w' := ⟨h.os, h.tape, h.output, h.size, fun k hk _ => h.block k hk⟩
theorem Tn.bel {g B : Nat} {w w' : World} (h : Tn g w w') (hB : B ≤ g) (hw : B ≤ w.heap.size) : Below B w w' := ⟨h.os, h.tape, h.output, h.size, fun k hk => h.blk k (by omega) (by omega)⟩
theorem Tn.drew {g : Nat} {w w' : World} (h : Tn g w w') : Tn g w w'.drew := ⟨h.os, h.tape, h.output, h.size, h.blk⟩
theorem Tn.drewN {g : Nat} {w w' : World} (h : Tn g w w') (n : Nat) : Tn g w (w'.drewN n) := ⟨h.os, h.tape, h.output, h.size, h.blk⟩
/-- a block that came up later than w turned: of w nothing did -/
theorem Tn.later {g x : Nat} {w w1 w2 : World} (h : Tn g w w1) (k : Tn x w1 w2) (hx : w.heap.size ≤ x) : Tn g w w2 :=
  ⟨k.os.trans h.os, k.tape.trans h.tape, k.output.trans h.output, Nat.le_trans h.size k.size, fun i hi hg => (k.blk i (Nat.lt_of_lt_of_le hi h.size) (by omega)).trans (h.blk i hi hg)⟩
theorem bel_tn {g : Nat} {w w1 w2 : World} (h : Below w.heap.size w w1) (k : Tn g w1 w2) (hg : w.heap.size ≤ g) : Below w.heap.size w w2 := h.trans (k.bel hg h.size)

theorem Blk.lt {w : World} {g : Nat} {t : TypeId} {cs : List Value} (h : Blk w g t cs) : g < w.heap.size := (Array.getElem?_eq_some_iff.1 h).1
theorem Blk.tn {w w' : World} {g k : Nat} {t : TypeId} {cs : List Value} (h : Blk w k t cs) (ht : Tn g w w') (hk : k ≠ g) : Blk w' k t cs := (ht.blk k h.lt hk).trans h
theorem Blk.bel {w w' : World} {k : Nat} {t : TypeId} {cs : List Value} (h : Blk w k t cs) (hb : Below w.heap.size w w') : Blk w' k t cs := (hb.block k h.lt).trans h
theorem Blk.drew {w : World} {k : Nat} {t : TypeId} {cs : List Value} (h : Blk w k t cs) : Blk w.drew k t cs := h
theorem Blk.drewN {w : World} {k : Nat} {t : TypeId} {cs : List Value} (h : Blk w k t cs) (n : Nat) : Blk (w.drewN n) k t cs := h
theorem Blk.cell {w : World} {g : Nat} {t : TypeId} {cs : List Value} (h : Blk w g t cs) (i : Nat) : w.cell? ⟨g, i, none⟩ = cs[i]? := by
  rw [cell_of_row w g i _ t _ h]; simp
theorem Blk.frozen {w : World} {g : Nat} {t : TypeId} {cs : List Value} (h : Blk w g t cs) (i : Nat) : w.frozen? ⟨g, i, none⟩ = false := frozen_of_row w g i _ t h
theorem Blk.range {w : World} {g : Nat} {t : TypeId} {cs : List Value} (h : Blk w g t cs) (o : Nat) (ds : List Value) (hd : ∀ j, j < ds.length → ds[j]? = cs[o + j]?) : w.rangeAt g o ds := fun j v hv => by
  have hj : j < ds.length := (List.getElem?_eq_some_iff.1 hv).1
  rw [h.cell, ← hd j hj, hv]
theorem Blk.new (w : World) (cs : List Value) (t : TypeId) : Blk (w.alloc (.cells cs.toArray t)) w.heap.size t cs := Go.Deep.blk_alloc_new _ _

theorem size_setCell (w : World) (a : Addr) (v : Value) : (w.setCell a v).heap.size = w.heap.size := by
  simp only [World.setCell]
  split <;> simp
theorem Blk.set {w : World} {g : Nat} {t : TypeId} {cs : List Value} (h : Blk w g t cs) (i : Nat) (v : Value) : Blk (w.setCell ⟨g, i, none⟩ v) g t (cs.set i v) ∧ Tn g w (w.setCell ⟨g, i, none⟩ v) := by
  refine ⟨?_, rfl, rfl, rfl, by rw [size_setCell]; exact Nat.le_refl _, fun k _ hk => Below.heap_setCell _ _ _ _ hk⟩
  unfold Blk at *
  rw [heap_setCell_same w g i _ t v h]
  simp
theorem Blk.setRow {w : World} {g : Nat} {t : TypeId} {cs : List Value} (h : Blk w g t cs) (ds : List Value) : Blk (w.setRow g ds.toArray) g t ds ∧ Tn g w (w.setRow g ds.toArray) :=
  ⟨setRow_heap w g _ _ t _ h, rfl, rfl, rfl, by simp [World.setRow], fun k _ hk => setRow_other w g k _ hk⟩

/-- an operation, by what its run gives -/
theorem wpList_val {P : Program} {w : World} {ops : Array Oper} {rest : List Oper} {o : Oper} {a : Act} {Q : Exit → Act → World → Prop} (hgd : o.guard = none) (v : Value) (w1 : World)
    (hrun : (execOp a.eval o).run P w = .ok (.value v) w1) (h : wpList P ops Q rest (a.put o.dst v) w1) : wpList P ops Q (o :: rest) a w :=
  wpList_plain hgd fun _ hK => by
    unfold Oper.wp
    rw [hrun]
    exact hK _ _ h

/-- a new variable that is an array: zeroes -/
theorem wpList_new {w : World} {ops : Array Oper} {rest : List Oper} {o : Oper} {a : Act} {Q : Exit → Act → World → Prop} (T : TypeId) (zs : List Value)
    (hz : ∀ w, (Instr.alloc T true (.tuple #[])).run Tryd.prog w = .ok (.pointer (some ⟨w.heap.size, 0, none⟩)) (w.alloc (.cells zs.toArray T))) (d : Nat) (_hdst : o.dst = some d) (hgd : o.guard = none) (ho : o.op = .alloc T)
    (h : ∀ w1 g, Hid (g = w.heap.size) → Blk w1 g T zs → Below w.heap.size w w1 → Hid (w1.heap.size = g + 1) → wpList Tryd.prog ops Q rest (a.put o.dst (.pointer (some ⟨g, 0, none⟩))) w1) : wpList Tryd.prog ops Q (o :: rest) a w := by
  refine wpList_val hgd (.pointer (some ⟨w.heap.size, 0, none⟩)) (w.alloc (.cells zs.toArray T)) ?_ (h _ _ rfl (Blk.new w zs T) (bel_new w _) (by show _ = _; simp))
  unfold execOp
  simp only [ho, hz, Sem.run_bind, Result.andThen_ok, Sem.run_pure]

/-- a variable that holds an array which came as a value -/
theorem wpList_box {w : World} {ops : Array Oper} {rest : List Oper} {o : Oper} {a : Act} {Q : Exit → Act → World → Prop} (T : TypeId) (x : Operand) (cs : List Value)
    (hgd : o.guard = none) (ho : o.op = .box T x) (hx : a.eval x = .agg cs.toArray)
    (h : ∀ w1 g, Hid (g = w.heap.size) → Blk w1 g T cs → Below w.heap.size w w1 → Hid (w1.heap.size = g + 1) → wpList Tryd.prog ops Q rest (a.put o.dst (.pointer (some ⟨g, 0, none⟩))) w1) : wpList Tryd.prog ops Q (o :: rest) a w := by
  refine wpList_val hgd (.pointer (some ⟨w.heap.size, 0, none⟩)) (w.alloc (.cells cs.toArray T)) ?_ (h _ _ rfl (Blk.new w cs T) (bel_new w _) (by show _ = _; simp))
  unfold execOp
  simp only [ho, hx]
  rfl

/-- an array is laid whole into a block of its size -/
theorem wpList_lay {w : World} {ops : Array Oper} {rest : List Oper} {o : Oper} {a : Act} {Q : Exit → Act → World → Prop} (T : TypeId) (x y : Operand) (g : Nat) (t : TypeId) (old cs : List Value)
    (hb : Blk w g t old) (hl : old.length = cs.length) (hi : (Tryd.prog.info? T).map (·.size) = some cs.length) (h1 : ∀ v ∈ cs, v.oneCell' = true)
    (hgd : o.guard = none) (ho : o.op = .store T x y) (hx : a.eval x = .pointer (some ⟨g, 0, none⟩)) (hy : a.eval y = .agg cs.toArray)
    (h : ∀ w1, Blk w1 g t cs → Tn g w w1 → Hid (w1.heap.size = w.heap.size) → wpList Tryd.prog ops Q rest (a.put o.dst undef) w1) : wpList Tryd.prog ops Q (o :: rest) a w := by
  refine wpList_plain hgd fun _ hK => ?_
  have hr := run_storeVar_row (P := Tryd.prog) w g t T old.toArray cs.toArray hb (by simpa using hi) (by simpa using hl) (all_oneCell_toArray h1)
  unfold Oper.wp execOp
  simp only [ho, hx, hy, Instr.storeAt, Instr.sureAddr, Sem.run_bind, Sem.run_pure, Result.andThen_ok, hr]
  exact hK _ _ (h _ (hb.setRow cs).1 (hb.setRow cs).2 (by show _ = _; simp [World.setRow]))

/-- a result that lies in a block -/
theorem ret_row {fn : Func} {R : Ending → World → Prop} {a : Act} {w : World} {p : Tmp} {T : TypeId} (g : Nat) (t : TypeId) (cs : List Value) (hf : fn.results = #[.cell p T]) (hp : a.tmps.getD p undef = .pointer (some ⟨g, 0, none⟩))
    (hb : Blk w g t cs) {d : TypeDesc} (hu : Tryd.prog.underlying T = some d) (hd : d.isRow = true) (hi : (Tryd.prog.info? T).map (·.size) = some cs.length) (hdf : a.defers = []) (hR : R (.returned (.agg cs.toArray)) w) : bodyPost Tryd.prog fn R .ret a w :=
  bodyPost_ret (results_cell_row hf a.tmps w g t cs.toArray (0, 0) d hp hb hu (by cases d <;> simp_all [TypeDesc.isRow]) (by simpa using hi)) hdf hR

theorem still_of_quiet {P : Program} {ops : Array Oper} {w : World} {Q : Act → Prop} : ∀ (l : List Oper) (a : Act), wpQuiet P ops (fun w' => w' = w) Q l a → wpStill P ops w Q l a
  | [], _, h => h
  | o :: rest, a, h => by
    unfold wpQuiet at h
    unfold wpStill
    split
    · rename_i hw
      rw [if_pos hw] at h
      obtain ⟨v, hv, hn⟩ := h
      have hv := hv w rfl
      have hn := still_of_quiet rest _ hn
      unfold Oper.quietAt at hv
      unfold Oper.still
      generalize (execOp a.eval o).run P w = r at *
      cases r with
      | ok n w' =>
        cases n <;> simp only [Oper.quietUpon, Oper.stillUpon] at hv ⊢
        case enter f args => exact ⟨hv.1, v, hv.2, hn⟩
        case value u => exact ⟨hv.1, by rw [hv.2]; exact hn⟩
        case skip => exact ⟨hv.1, by rw [← hv.2]; exact hn⟩
      | halt x w' => simp only [Oper.quietUpon] at hv
    · rename_i hw
      rw [if_neg hw] at h
      exact still_of_quiet rest _ h

/-- a region that draws its order, all but the end of which only reads, and whose end is forced -/
theorem wp_quiet_tail {P : Program} {id : Nat} {Q : Exit → Act → World → Prop} {a : Act} {w : World} {l : List Oper} (n : Nat) (hm : P.follows .mixedOrders = true) (hB : Region.lexTailB .any l.toArray n = true)
    (h : wpQuiet P l.toArray (fun w' => w' = w.drew) (fun a' => wpList P l.toArray Q (l.drop n) a' w.drew) (l.take n) a) : (Code.region id l.toArray true).wp P Q a w :=
  wp_region_still_tail n hm hB (still_of_quiet _ _ h)

/-- a load of a whole array, in such a region -/
theorem quiet_load {P : Program} {op : Oper} {a : Act} {w : World} {K : Act → Prop} (ty : TypeId) (x : Operand) (b o : Nat) (cs : List Value) (d : TypeDesc) (hc : w.rangeAt b o cs)
    (hu : P.underlying ty = some d) (hd : d.isRow = true) (hi : (P.info? ty).map (·.size) = some cs.length) (ho : op.op = .load ty x) (hx : a.eval x = .pointer (some ⟨b, o, none⟩)) (hk : K (a.put op.dst (.agg cs.toArray))) : op.quiet P a (fun w' => w' = w) K :=
  ⟨_, fun w' hw => by
    subst hw
    unfold Oper.quietAt execOp
    simp only [ho, hx, Instr.loadAt, Instr.sureAddr, Sem.run_bind, Sem.run_pure, Result.andThen_ok, run_loadVar_mid w' b o ty cs d hc hu hd hi]
    exact ⟨rfl, rfl⟩, hk⟩

theorem info37 : (Tryd.prog.info? 37).map (·.size) = some 32 := by kernel_rfl
theorem info57 : (Tryd.prog.info? 55).map (·.size) = some 64 := by kernel_rfl
theorem info59 : (Tryd.prog.info? 57).map (·.size) = some 73 := by kernel_rfl
theorem info69 : (Tryd.prog.info? 67).map (·.size) = some 64 := by kernel_rfl
theorem zero37 (w : World) : (Instr.alloc 37 true (.tuple #[])).run Tryd.prog w = .ok (.pointer (some ⟨w.heap.size, 0, none⟩)) (w.alloc (.cells (List.replicate 32 (.int .u8 0)).toArray 37)) := by kernel_rfl
theorem zero57 (w : World) : (Instr.alloc 55 true (.tuple #[])).run Tryd.prog w = .ok (.pointer (some ⟨w.heap.size, 0, none⟩)) (w.alloc (.cells (List.replicate 64 (.int .u8 0)).toArray 55)) := by kernel_rfl
theorem zero69 (w : World) : (Instr.alloc 67 true (.tuple #[])).run Tryd.prog w = .ok (.pointer (some ⟨w.heap.size, 0, none⟩)) (w.alloc (.cells (List.replicate 64 (.int .u32 0)).toArray 67)) := by kernel_rfl
def zero73 : List Value := List.replicate 8 (.int .u32 0) ++ List.replicate 64 (.int .u8 0) ++ [.int .u64 0]
theorem zero59 (w : World) : (Instr.alloc 57 true (.tuple #[])).run Tryd.prog w = .ok (.pointer (some ⟨w.heap.size, 0, none⟩)) (w.alloc (.cells zero73.toArray 57)) := by kernel_rfl

end Go.Proofs.YtejhhkhaoekkiaaDoor.Ck
