/- Values (api.Value) in memory; package value's calls that package sync makes. (After wip/value's V0, V1, V2.) -/
import Derived.Test.YtghfjnnmpmfboaaDoorNum
import Derived.WalkKit
import Derived.WalkLawsBesides
import Derived.Outline
import Derived.BigQuiet
import Derived.Deep.QuietTactic
import Derived.WalkSmall
import Derived.Deep.OwnRows
import Derived.LaidEqlPtr
namespace Go.Proofs.YtghfjnnmpmfboaaDoor.Ck
open Go.RowKit

theorem hide {p : Prop} (h : p) : Hid p := h
theorem bel_drawn {n : Nat} {w w' : World} (h : Below n w w') : Below n w w'.drew := ⟨h.os, h.tape, h.output, h.size, h.block⟩
theorem mixed : Tryd.prog.follows .mixedOrders = true := by kernel_rfl
/-- the two errors that package sync answers are there -/
structure E2 (w : World) (p : List Addr) : Prop where
  l0 : 0 < w.heap.size
  l4 : 4 < w.heap.size
  c0 : w.cell? ⟨0, 0, none⟩ = some (errV p 0)
  c4 : w.cell? ⟨4, 0, none⟩ = some (errV p 4)
theorem E2.below {w w' : World} {p : List Addr} (h : E2 w p) {B : Nat} (hB : w.heap.size ≤ B) (hb : Below B w w') : E2 w' p :=
  ⟨Nat.lt_of_lt_of_le h.l0 hb.size, Nat.lt_of_lt_of_le h.l4 hb.size, (hb.cell (p := ⟨0, 0, none⟩) (Nat.lt_of_lt_of_le h.l0 hB)).trans h.c0, (hb.cell (p := ⟨4, 0, none⟩) (Nat.lt_of_lt_of_le h.l4 hB)).trans h.c4⟩
theorem Errs17.e2 {w : World} {p : List Addr} (h : Errs17 w p) : E2 w p := ⟨(h.sents.at 0 (by decide)).1, (h.sents.at 4 (by decide)).1, h.cell 0 (by omega), h.cell 4 (by omega)⟩
theorem blk_cell {w : World} {g : Nat} {c : Array Value} {T : TypeId} {r : Nat × Nat} (h : w.heap[g]? = some (.cells c T r)) (i : Nat) (v : Value) (hv : c[i]? = some v) : w.cell? ⟨g, i, none⟩ = some v := by simp [World.cell?, h, hv]
theorem vf0 (a b c : Value) (w : World) : (Instr.field 41 (.agg #[a, b, c]) 0).run Tryd.prog w = .ok a w := by kernel_rfl
theorem vf1 (a b c : Value) (w : World) : (Instr.field 41 (.agg #[a, b, c]) 1).run Tryd.prog w = .ok b w := by kernel_rfl
theorem vf2 (a b c : Value) (w : World) : (Instr.field 41 (.agg #[a, b, c]) 2).run Tryd.prog w = .ok c w := by kernel_rfl
theorem eqIn_vv (w : World) (a b c a' b' c' : Int) : (Op.equalIn 10000 41 (.agg #[.int .i64 a, .int .i64 b, .int .u64 c]) (.agg #[.int .i64 a', .int .i64 b', .int .u64 c'])).run Tryd.prog w = .ok (a == a' && (b == b' && c == c')) w := by
  have hi : ∀ (x y : Int) (w : World), (Op.equalIn 9999 3 (.int .i64 x) (.int .i64 y)).run Tryd.prog w = .ok (x == y) w := fun x y w => run_equalIn_int w 9998 3 .i64 .i64 x y Tryd.underlying3
  have hu : ∀ (x y : Int) (w : World), (Op.equalIn 9999 39 (.int .u64 x) (.int .u64 y)).run Tryd.prog w = .ok (x == y) w := fun x y w => run_equalIn_int w 9998 39 .u64 .u64 x y Tryd.underlying39
  have e : Tryd.prog.underlying 41 = some (.struct (Tryd.prog.fieldsOf 41)) := by kernel_rfl
  rw [show (10000 : Nat) = 9999 + 1 from rfl, run_equalIn_agg w 9999 41 _ _ e (by kernel_rfl)]
  have hf : (Tryd.prog.fieldsOf 41).toList.map (fun f => (f.name, f.type, f.offset)) = [("Type", 3, 0), ("N", 3, 1), ("Bits", 39, 2)] := by kernel_rfl
  generalize (Tryd.prog.fieldsOf 41).toList = l at hf
  obtain ⟨f1, l1, rfl, h1, hf⟩ := List.map_eq_cons_iff.1 hf
  obtain ⟨f2, l2, rfl, h2, hf⟩ := List.map_eq_cons_iff.1 hf
  obtain ⟨f3, l3, rfl, h3, hf⟩ := List.map_eq_cons_iff.1 hf
  obtain rfl := List.map_eq_nil_iff.1 hf
  simp only [Prod.mk.injEq] at h1 h2 h3
  simp [go_sem, Op.eqFields, h1, h2, h3, hi, hu]
  by_cases ha : a = a' <;> by_cases hb : b = b' <;> by_cases hc : c = c' <;> simp [ha, hb, hc]

theorem eq_vv (w : World) (a b c a' b' c' : Int) : (binOp .eql 41 (.agg #[.int .i64 a, .int .i64 b, .int .u64 c]) (.agg #[.int .i64 a', .int .i64 b', .int .u64 c'])).run Tryd.prog w = .ok (.bool (a == a' && (b == b' && c == c'))) w := by
  rw [run_eql_struct, eqIn_vv]
  rfl
theorem neq_vv (w : World) (a b c a' b' c' : Int) : (binOp .neq 41 (.agg #[.int .i64 a, .int .i64 b, .int .u64 c]) (.agg #[.int .i64 a', .int .i64 b', .int .u64 c'])).run Tryd.prog w = .ok (.bool (!(a == a' && (b == b' && c == c')))) w := by
  rw [run_neq_struct, eqIn_vv]
  rfl

/-- is a value in form? -/
def goodB (t n b : Int) : Bool := (t == 1 && b == 0) || (t == 2 && n == 0) || (t == 3 && (n == 0 || n == 1) && b == 0)
def Vb (w : World) (v : Value) (e : Ending) (w' : World) : Prop := e = .returned v ∧ Below w.heap.size w w'
theorem Vb.mk {w w' : World} {v v' : Value} (h : v = v') (hb : Below w.heap.size w w') : Vb w v' (.returned v) w' := ⟨by rw [h], hb⟩

set_option maxRecDepth 20000 in
set_option maxHeartbeats 1000000 in
theorem good_any (t n b : Int) (w : World) : Calls Tryd.prog 99 #[.agg #[.int .i64 t, .int .i64 n, .int .u64 b]] w (Vb w (.bool (goodB t n b))) := by
  have HB := hide (bel_new w (.cells #[.int .i64 t, .int .i64 n, .int .u64 b] 41))
  obtain ⟨g, hg⟩ : ∃ g, goodB t n b = g := ⟨_, rfl⟩
  rw [hg]
  have HG := hide hg
  clear hg
  by_cases h1 : t = 1
  · subst h1
    go_enter Tryd.func99, Tryd.ntmps99
    go_wp2_with fail
    all_goals
      go_ret
      exact Vb.mk (congrArg Value.bool (by rw [← HG.out]; simp [goodB])) HB.out
  by_cases h2 : t = 2
  · subst h2
    go_enter Tryd.func99, Tryd.ntmps99
    go_wp2_with fail
    all_goals
      go_ret
      exact Vb.mk (congrArg Value.bool (by rw [← HG.out]; simp [goodB])) HB.out
  by_cases h3 : t = 3
  · subst h3
    go_enter Tryd.func99, Tryd.ntmps99
    by_cases h4 : n = 0
    · subst h4
      go_wp2_with fail
      all_goals
        go_ret
        exact Vb.mk (congrArg Value.bool (by rw [← HG.out]; simp [goodB])) HB.out
    by_cases h5 : n = 1
    · subst h5
      go_wp2_with fail
      all_goals
        go_ret
        exact Vb.mk (congrArg Value.bool (by rw [← HG.out]; simp [goodB])) HB.out
    go_wp2_with fail
    all_goals
      go_ret
      exact Vb.mk (congrArg Value.bool (by rw [← HG.out]; simp [goodB, h4, h5])) HB.out
  go_enter Tryd.func99, Tryd.ntmps99
  go_wp2_with fail
  all_goals
    go_ret
    exact Vb.mk (congrArg Value.bool (by rw [← HG.out]; simp [goodB, h1, h2, h3])) HB.out
/-- a variable of a value's type, in block g -/
def Val (w : World) (g : Nat) (t n b : Int) : Prop := w.heap[g]? = some (.cells #[.int .i64 t, .int .i64 n, .int .u64 b] 41 (0, 0))
theorem Val.new (w : World) (t n b : Int) : Val (w.alloc (.cells #[.int .i64 t, .int .i64 n, .int .u64 b] 41)) w.heap.size t n b := Go.Deep.blk_alloc_new _ _
theorem Val.bel {w w' : World} {g N : Nat} {t n b : Int} (h : Val w g t n b) (hb : Below N w w') (hg : g < N) : Val w' g t n b := (hb.block g hg).trans h
theorem Val.lt {w : World} {g : Nat} {t n b : Int} (h : Val w g t n b) : g < w.heap.size := by
  unfold Val at h
  by_cases hg : g < w.heap.size
  · exact hg
  · rw [Array.getElem?_eq_none (by omega)] at h; cases h
theorem Val.al {w w' : World} {g : Nat} {t n b : Int} (h : Val w g t n b) (hb : Below w.heap.size w w') : Val w' g t n b := h.bel hb h.lt
theorem Val.drew {w : World} {g : Nat} {t n b : Int} (h : Val w g t n b) : Val w.drew g t n b := h
theorem Val.all {w : World} {g : Nat} {t n b : Int} (h : Val w g t n b) :
    (w.frozen? ⟨g, 0, none⟩ = false ∧ w.frozen? ⟨g, 1, none⟩ = false ∧ w.frozen? ⟨g, 2, none⟩ = false) ∧ w.cell? ⟨g, 0, none⟩ = some (.int .i64 t) ∧ w.cell? ⟨g, 1, none⟩ = some (.int .i64 n) ∧ w.cell? ⟨g, 2, none⟩ = some (.int .u64 b) := by
  unfold Val at h
  simp [World.frozen?, World.cell?, h]
theorem Val.set {w : World} {g : Nat} {t n b : Int} (h : Val w g t n b) (t' n' b' : Int) : Val (((w.setCell ⟨g, 0, none⟩ (.int .i64 t')).setCell ⟨g, 1, none⟩ (.int .i64 n')).setCell ⟨g, 2, none⟩ (.int .u64 b')) g t' n' b' :=
  heap_setCell_same _ _ _ _ _ _ (heap_setCell_same _ _ _ _ _ _ (heap_setCell_same _ _ _ _ _ _ h))
theorem bel_set {w w2 : World} {N g : Nat} (h : Below N w w2) (hg : N ≤ g) (x y z : Value) : Below N w (((w2.setCell ⟨g, 0, none⟩ x).setCell ⟨g, 1, none⟩ y).setCell ⟨g, 2, none⟩ z) :=
  ((h.setCell (p := ⟨g, 0, none⟩) hg x).setCell (p := ⟨g, 1, none⟩) hg y).setCell (p := ⟨g, 2, none⟩) hg z

theorem ret_v {fn : Func} {R : Ending → World → Prop} {a : Act} {w : World} {p : Tmp} (g : Nat) {t n b : Int} (hf : fn.results = #[.cell p 41]) (hp : a.tmps.getD p undef = .pointer (some ⟨g, 0, none⟩))
    (h : Val w g t n b) (hdf : a.defers = []) (hR : R (.returned (.agg #[.int .i64 t, .int .i64 n, .int .u64 b])) w) : bodyPost Tryd.prog fn R .ret a w :=
  bodyPost_ret (by
    have hp' : a.tmps[p]?.getD undef = .pointer (some ⟨g, 0, none⟩) := by simpa using hp
    obtain ⟨_, c0, c1, c2⟩ := h.all
    simp [results, hf, hp', go_sem, c0, c1, c2]) hdf hR
/-- a value that is answered -/
def Vv (w : World) (t n b : Int) (e : Ending) (w' : World) : Prop := e = .returned (.agg #[.int .i64 t, .int .i64 n, .int .u64 b]) ∧ Below w.heap.size w w'
theorem Vv.mk {w w' : World} {t n b t' n' b' : Int} (h : t = t' ∧ n = n' ∧ b = b') (hb : Below w.heap.size w w') : Vv w t' n' b' (.returned (.agg #[.int .i64 t, .int .i64 n, .int .u64 b])) w' := by
  obtain ⟨rfl, rfl, rfl⟩ := h; exact ⟨rfl, hb⟩
set_option maxRecDepth 20000 in
theorem int_any (n : Int) (w : World) : Calls Tryd.prog 33 #[.int .i64 n] w (Vv w 1 n 0) := by
  go_enter Tryd.func33, Tryd.ntmps33
  go_wp2_with fail
  exact ret_v w.heap.size rfl rfl (Val.new w _ _ _) rfl (Vv.mk ⟨rfl, rfl, rfl⟩ (bel_new _ _))
def zeroT (t : Int) : Int := if t = 1 ∨ t = 2 ∨ t = 3 then t else 0
set_option maxRecDepth 20000 in
theorem zero_any (t : Int) (w : World) : Calls Tryd.prog 40 #[.int .i64 t] w (Vv w (zeroT t) 0 0) := by
  obtain ⟨z, hz⟩ : ∃ z, zeroT t = z := ⟨_, rfl⟩
  rw [hz]
  have HZ := hide hz
  clear hz
  go_enter Tryd.func40, Tryd.ntmps40
  go_wp2_with fail
  all_goals
    refine ret_v w.heap.size rfl rfl (Val.new w _ _ _) rfl (Vv.mk ⟨?_, rfl, rfl⟩ (bel_new _ _))
    rw [← HZ.out]
    simp_all [zeroT]
set_option maxRecDepth 20000 in
theorem same_any (t n b t' n' b' : Int) (w : World) : Calls Tryd.prog 60 #[.agg #[.int .i64 t, .int .i64 n, .int .u64 b], .agg #[.int .i64 t', .int .i64 n', .int .u64 b']] w (Vb w (.bool (t == t' && (n == n' && b == b')))) := by
  have HB := hide (bel_al (bel_new w (.cells #[.int .i64 t, .int .i64 n, .int .u64 b] 41)) (.cells #[.int .i64 t', .int .i64 n', .int .u64 b'] 41))
  have HE := fun w => eq_vv w t n b t' n' b'
  go_enter Tryd.func60, Tryd.ntmps60
  go_wp2_with fail
  go_ret
  exact Vb.mk rfl HB.out
set_option maxRecDepth 20000 in
theorem noType_any (t : Int) (w : World) : Calls Tryd.prog 37 #[.int .i64 t] w (Vb w (.bool (zeroT t == 0))) := by
  have f0 := vf0
  go_enter Tryd.func37, Tryd.ntmps37
  go_wp2_with fail
  refine (zero_any _ _).mono ?_
  rintro e w1 ⟨rfl, hb⟩
  go_wp2_with fail
  go_ret
  exact Vb.mk rfl hb
set_option maxRecDepth 20000 in
theorem fits_any (n : Int) (w : World) : Calls Tryd.prog 35 #[.int .i64 n] w fun e w' => e = .returned (.bool (decide (0 ≤ n) && decide (n ≤ 32))) ∧ w = w' := by
  by_cases h0 : 0 ≤ n
  · by_cases h1 : n ≤ 32
    · have h2 : (decide (0 ≤ n) && decide (n ≤ 32)) = true := by simp [h0, h1]
      rw [h2]
      clear h2
      go_enter Tryd.func35, Tryd.ntmps35
      go_wp2_with fail
      go_ret
      exact ⟨rfl, rfl⟩
    · have h2 : (decide (0 ≤ n) && decide (n ≤ 32)) = false := by simp [h1]
      rw [h2]
      clear h2
      go_enter Tryd.func35, Tryd.ntmps35
      go_wp2_with fail
      go_ret
      exact ⟨rfl, rfl⟩
  · have h2 : (decide (0 ≤ n) && decide (n ≤ 32)) = false := by simp [h0]
    rw [h2]
    clear h2
    go_enter Tryd.func35, Tryd.ntmps35
    go_wp2_with fail
    go_ret
    exact ⟨rfl, rfl⟩
def chanB (t r : Int) : Bool := zeroT t == 0 || (decide (r < 0) || decide (8 < r))
set_option maxRecDepth 20000 in
theorem noChan_any (t r : Int) (w : World) : Calls Tryd.prog 39 #[.agg #[.int .i64 t, .int .i64 r]] w (Vb w (.bool (chanB t r))) := by
  have HB := hide (bel_new w (.cells #[.int .i64 t, .int .i64 r] 52))
  obtain ⟨z, hz⟩ : ∃ z, (zeroT t == 0) = z := ⟨_, rfl⟩
  have NT : ∀ w, Calls Tryd.prog 37 #[.int .i64 t] w (Vb w (.bool z)) := fun w => by
    have := noType_any t w
    rw [hz] at this
    exact this
  obtain ⟨g, hg⟩ : ∃ g, chanB t r = g := ⟨_, rfl⟩
  rw [hg]
  unfold chanB at hg
  rw [hz] at hg
  have HG := hide hg
  clear hg hz
  have c0 : (w.alloc (.cells #[.int .i64 t, .int .i64 r] 52)).cell? ⟨w.heap.size, 1, none⟩ = some (.int .i64 r) := blk_cell (Go.Deep.blk_alloc_new w _) 1 _ rfl
  cases z with
  | true =>
    go_enter Tryd.func39, Tryd.ntmps39
    go_wp2_with fail
    refine (NT _).mono ?_
    rintro e w1 ⟨rfl, hb⟩
    go_wp2_with fail
    go_ret
    exact Vb.mk (congrArg Value.bool (by rw [← HG.out]; rfl)) (bel_trans HB.out hb)
  | false =>
    by_cases h1 : r < 0
    · have E : g = true := by rw [← HG.out]; simp [h1]
      subst E
      clear HG
      go_enter Tryd.func39, Tryd.ntmps39
      go_wp2_with fail
      refine (NT _).mono ?_
      rintro e w1 ⟨rfl, hb⟩
      have c1 : w1.cell? ⟨w.heap.size, 1, none⟩ = some (.int .i64 r) := (hb.cell (p := ⟨w.heap.size, 1, none⟩) (by simp)).trans c0
      go_wp2_with fail
      go_ret
      exact Vb.mk rfl (bel_trans HB.out hb)
    · have E : g = decide (8 < r) := by rw [← HG.out]; simp [h1]
      subst E
      clear HG
      go_enter Tryd.func39, Tryd.ntmps39
      go_wp2_with fail
      refine (NT _).mono ?_
      rintro e w1 ⟨rfl, hb⟩
      have c1 : w1.cell? ⟨w.heap.size, 1, none⟩ = some (.int .i64 r) := (hb.cell (p := ⟨w.heap.size, 1, none⟩) (by simp)).trans c0
      go_wp2_with fail
      all_goals
        go_ret
        exact Vb.mk (by simp; try omega) (bel_trans HB.out hb)
def isB (t n b ty : Int) : Bool := goodB t n b && t == ty
set_option maxRecDepth 20000 in
theorem isOf_any (t n b ty : Int) (w : World) : Calls Tryd.prog 77 #[.agg #[.int .i64 t, .int .i64 n, .int .u64 b], .int .i64 ty] w (Vb w (.bool (isB t n b ty))) := by
  have HB := hide (bel_new w (.cells #[.int .i64 t, .int .i64 n, .int .u64 b] 41))
  have V0 := Val.new w t n b
  obtain ⟨z, hz⟩ : ∃ z, goodB t n b = z := ⟨_, rfl⟩
  have GA : ∀ w, Calls Tryd.prog 99 #[.agg #[.int .i64 t, .int .i64 n, .int .u64 b]] w (Vb w (.bool z)) := fun w => by
    have := good_any t n b w
    rw [hz] at this
    exact this
  obtain ⟨g, hg⟩ : ∃ g, isB t n b ty = g := ⟨_, rfl⟩
  rw [hg]
  unfold isB at hg
  rw [hz] at hg
  have HG := hide hg
  clear hg hz
  cases z with
  | true =>
    go_enter Tryd.func77, Tryd.ntmps77
    go_wp2_with fail
    refine (GA _).mono ?_
    rintro e w1 ⟨rfl, hb⟩
    obtain ⟨_, c0, _, _⟩ := (V0.al hb).all
    go_wp2_with fail
    go_ret
    exact Vb.mk (congrArg Value.bool (by rw [← HG.out]; simp)) (bel_trans HB.out hb)
  | false =>
    go_enter Tryd.func77, Tryd.ntmps77
    go_wp2_with fail
    refine (GA _).mono ?_
    rintro e w1 ⟨rfl, hb⟩
    go_wp2_with fail
    go_ret
    exact Vb.mk (congrArg Value.bool (by rw [← HG.out]; simp)) (bel_trans HB.out hb)
end Go.Proofs.YtghfjnnmpmfboaaDoor.Ck
