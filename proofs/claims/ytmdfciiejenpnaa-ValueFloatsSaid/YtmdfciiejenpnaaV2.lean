/- A result that is a value, or a value and an int, in memory. -/
import Derived.Test.YtmdfciiejenpnaaV1
namespace Go.Proofs.Ytmdfciiejenpnaa.Ck
open Go.RowKit

/-- a variable of a value's type, in block g -/
def Val (w : World) (g : Nat) (t n b : Int) : Prop := w.heap[g]? = some (.cells #[.int .i64 t, .int .i64 n, .int .u64 b] 24 (0, 0))
theorem Val.new (w : World) (t n b : Int) : Val (w.alloc (.cells #[.int .i64 t, .int .i64 n, .int .u64 b] 24)) w.heap.size t n b := Go.Deep.blk_alloc_new _ _
theorem Val.bel {w w' : World} {g N : Nat} {t n b : Int} (h : Val w g t n b) (hb : Below N w w') (hg : g < N) : Val w' g t n b := (hb.block g hg).trans h
theorem Val.lt {w : World} {g : Nat} {t n b : Int} (h : Val w g t n b) : g < w.heap.size := by
  unfold Val at h
  by_cases hg : g < w.heap.size
  · exact hg
  · rw [Array.getElem?_eq_none (by omega)] at h; cases h
theorem Val.al {w w' : World} {g : Nat} {t n b : Int} (h : Val w g t n b) (hb : Below w.heap.size w w') : Val w' g t n b := h.bel hb h.lt
theorem Val.drew {w : World} {g : Nat} {t n b : Int} (h : Val w g t n b) : Val w.drew g t n b := h
theorem Val.all {w : World} {g : Nat} {t n b : Int} (h : Val w g t n b) :
    (w.frozen? ⟨g, 0, none⟩ = false ∧ w.frozen? ⟨g, 1, none⟩ = false ∧ w.frozen? ⟨g, 2, none⟩ = false) ∧ w.cell? ⟨g, 0, none⟩ = some (.int .i64 t) ∧ w.cell? ⟨g, 1, none⟩ = some (.int .i64 n) ∧ w.cell? ⟨g, 2, none⟩ = some (.int .u64 b) := by
  unfold Val at h
  simp [World.frozen?, World.cell?, h]
theorem Val.set {w : World} {g : Nat} {t n b : Int} (h : Val w g t n b) (t' n' b' : Int) : Val (((w.setCell ⟨g, 0, none⟩ (.int .i64 t')).setCell ⟨g, 1, none⟩ (.int .i64 n')).setCell ⟨g, 2, none⟩ (.int .u64 b')) g t' n' b' :=
  heap_setCell_same _ _ _ _ _ _ (heap_setCell_same _ _ _ _ _ _ (heap_setCell_same _ _ _ _ _ _ h))
theorem bel_set {w w2 : World} {N g : Nat} (h : Below N w w2) (hg : N ≤ g) (x y z : Value) : Below N w (((w2.setCell ⟨g, 0, none⟩ x).setCell ⟨g, 1, none⟩ y).setCell ⟨g, 2, none⟩ z) :=
  ((h.setCell (p := ⟨g, 0, none⟩) hg x).setCell (p := ⟨g, 1, none⟩) hg y).setCell (p := ⟨g, 2, none⟩) hg z

theorem ret_v {fn : Func} {R : Ending → World → Prop} {a : Act} {w : World} {p : Tmp} (g : Nat) {t n b : Int} (hf : fn.results = #[.cell p 24]) (hp : a.tmps.getD p undef = .pointer (some ⟨g, 0, none⟩))
    (h : Val w g t n b) (hdf : a.defers = []) (hR : R (.returned (.agg #[.int .i64 t, .int .i64 n, .int .u64 b])) w) : bodyPost Try.prog fn R .ret a w :=
  bodyPost_ret (by
    have hp' : a.tmps[p]?.getD undef = .pointer (some ⟨g, 0, none⟩) := by simpa using hp
    obtain ⟨_, c0, c1, c2⟩ := h.all
    simp [results, hf, hp', go_sem, c0, c1, c2]) hdf hR
theorem ret_vi {fn : Func} {R : Ending → World → Prop} {a : Act} {w : World} {p q : Tmp} (g : Nat) {t n b k : Int} (hf : fn.results = #[.cell p 24, .tmp q]) (hp : a.tmps.getD p undef = .pointer (some ⟨g, 0, none⟩)) (hq : a.tmps.getD q undef = .int .i64 k)
    (h : Val w g t n b) (hdf : a.defers = []) (hR : R (.returned (.tuple #[.agg #[.int .i64 t, .int .i64 n, .int .u64 b], .int .i64 k])) w) : bodyPost Try.prog fn R .ret a w :=
  bodyPost_ret (by
    have hp' : a.tmps[p]?.getD undef = .pointer (some ⟨g, 0, none⟩) := by simpa using hp
    have hq' : a.tmps[q]?.getD undef = .int .i64 k := by simpa using hq
    obtain ⟨_, c0, c1, c2⟩ := h.all
    simp [results, hf, hp', hq', go_sem, c0, c1, c2]) hdf hR
/-- a value that is answered -/
def Vv (w : World) (t n b : Int) (e : Ending) (w' : World) : Prop := e = .returned (.agg #[.int .i64 t, .int .i64 n, .int .u64 b]) ∧ Below w.heap.size w w'
/-- a value and a number that are answered -/
def Vi (w : World) (t n b k : Int) (e : Ending) (w' : World) : Prop := e = .returned (.tuple #[.agg #[.int .i64 t, .int .i64 n, .int .u64 b], .int .i64 k]) ∧ Below w.heap.size w w'
theorem Vv.mk {w w' : World} {t n b t' n' b' : Int} (h : t = t' ∧ n = n' ∧ b = b') (hb : Below w.heap.size w w') : Vv w t' n' b' (.returned (.agg #[.int .i64 t, .int .i64 n, .int .u64 b])) w' := by
  obtain ⟨rfl, rfl, rfl⟩ := h; exact ⟨rfl, hb⟩
theorem Vi.mk {w w' : World} {t n b k t' n' b' k' : Int} (h : t = t' ∧ n = n' ∧ b = b' ∧ k = k') (hb : Below w.heap.size w w') : Vi w t' n' b' k' (.returned (.tuple #[.agg #[.int .i64 t, .int .i64 n, .int .u64 b], .int .i64 k])) w' := by
  obtain ⟨rfl, rfl, rfl, rfl⟩ := h; exact ⟨rfl, hb⟩

set_option maxRecDepth 20000 in
theorem int_any (n : Int) (w : World) : Calls Try.prog 17 #[.int .i64 n] w (Vv w 1 n 0) := by
  go_enter Try.func17, Try.ntmps17
  go_wp2_with fail
  exact ret_v w.heap.size rfl rfl (Val.new w _ _ _) rfl (Vv.mk ⟨rfl, rfl, rfl⟩ (bel_new _ _))
set_option maxRecDepth 20000 in
theorem bool_any (b : Bool) (w : World) : Calls Try.prog 19 #[.bool b] w (Vv w 3 b.toInt 0) := by
  cases b
  all_goals
    go_enter Try.func19, Try.ntmps19
    go_wp2_with fail
    exact ret_v w.heap.size rfl rfl (Val.new w _ _ _) rfl (Vv.mk ⟨rfl, rfl, rfl⟩ (bel_new _ _))
def zeroT (t : Int) : Int := if t = 1 ∨ t = 2 ∨ t = 3 then t else 0
set_option maxRecDepth 20000 in
theorem zero_any (t : Int) (w : World) : Calls Try.prog 18 #[.int .i64 t] w (Vv w (zeroT t) 0 0) := by
  obtain ⟨z, hz⟩ : ∃ z, zeroT t = z := ⟨_, rfl⟩
  rw [hz]
  have HZ := hide hz
  clear hz
  go_enter Try.func18, Try.ntmps18
  go_wp2_with fail
  all_goals
    refine ret_v w.heap.size rfl rfl (Val.new w _ _ _) rfl (Vv.mk ⟨?_, rfl, rfl⟩ (bel_new _ _))
    rw [← HZ.out]
    simp_all [zeroT]
set_option maxRecDepth 20000 in
theorem true_any (t n b : Int) (w : World) : Calls Try.prog 20 #[.agg #[.int .i64 t, .int .i64 n, .int .u64 b]] w (Vb w (.bool (t == 3 && n == 1))) := by
  have HB := hide (bel_new w (.cells #[.int .i64 t, .int .i64 n, .int .u64 b] 24))
  obtain ⟨g, hg⟩ : ∃ g, (t == 3 && n == 1) = g := ⟨_, rfl⟩
  rw [hg]
  have HG := hide hg
  clear hg
  by_cases h1 : t = 3
  · subst h1
    go_enter Try.func20, Try.ntmps20
    go_wp2_with fail
    all_goals
      go_ret
      exact Vb.mk (congrArg Value.bool (by rw [← HG.out]; simp)) HB.out
  go_enter Try.func20, Try.ntmps20
  go_wp2_with fail
  all_goals
    go_ret
    exact Vb.mk (congrArg Value.bool (by rw [← HG.out]; simp [h1])) HB.out
set_option maxRecDepth 20000 in
theorem same_any (t n b t' n' b' : Int) (w : World) : Calls Try.prog 21 #[.agg #[.int .i64 t, .int .i64 n, .int .u64 b], .agg #[.int .i64 t', .int .i64 n', .int .u64 b']] w (Vb w (.bool (t == t' && (n == n' && b == b')))) := by
  have HB := hide (bel_al (bel_new w (.cells #[.int .i64 t, .int .i64 n, .int .u64 b] 24)) (.cells #[.int .i64 t', .int .i64 n', .int .u64 b'] 24))
  have HE := fun w => eq_vv w t n b t' n' b'
  go_enter Try.func21, Try.ntmps21
  go_wp2_with fail
  go_ret
  exact Vb.mk rfl HB.out
set_option maxRecDepth 20000 in
theorem float_any (u : Nat) (w : World) : Calls Try.prog 22 #[.float .f64 u] w (Vv w 2 0 u) := by
  have h1 := callBits
  go_enter Try.func22, Try.ntmps22
  go_wp2_with fail
  exact ret_v w.heap.size rfl rfl (Val.new w _ _ _) rfl (Vv.mk ⟨rfl, rfl, rfl⟩ (bel_new _ _))
set_option maxRecDepth 20000 in
theorem isNaN_any (u : Nat) (w : World) : Calls Try.prog 43 #[.float .f64 u] w fun e w' => e = .returned (.bool (nanB u)) ∧ w = w' := by
  have E := hide (order_self u)
  go_enter Try.func43, Try.ntmps43
  go_wp2_with fail
  go_ret
  refine ⟨congrArg Ending.returned (congrArg Value.bool ?_), rfl⟩
  exact E.out
end Go.Proofs.Ytmdfciiejenpnaa.Ck
