/- The contract of pool's release: pages from f up to t are cleared, and so are their runs. -/
import Derived.Test.YtndhgdjcbegjdaaDoorWr
namespace Go.Proofs.YtndhgdjcbegjdaaDoor.Ck
open Go.RowKit

theorem Ar.clearWords {L : Lay} {R : Nat → Int} (m : Nat) : ∀ {w : World} {V : Nat → Int} (_ : Ar w L R V) (i : Nat) (_ : i + m ≤ 16 * L.n),
    Ar (w.setCells L.pb (L.po + i) (List.replicate m (.int .i64 0))) L R (fun k => if i ≤ k ∧ k < i + m then 0 else V k) ∧ Upd L w (w.setCells L.pb (L.po + i) (List.replicate m (.int .i64 0))) := by
  induction m with
  | zero => intro w V h i hi; exact ⟨h.congr (fun _ _ => rfl) (fun k hk => by rw [if_neg (by omega)]), Upd.refl _ _⟩
  | succ m ih =>
    intro w V h i hi
    obtain ⟨h1, u1⟩ := h.setWord i (by omega) 0
    obtain ⟨h2, u2⟩ := ih h1 (i + 1) (by omega)
    rw [List.replicate_succ, World.setCells]
    rw [← Nat.add_assoc] at h2 u2
    refine ⟨h2.congr (fun _ _ => rfl) (fun k hk => ?_), u1.trans u2⟩
    by_cases e : k = i
    · subst e
      simp
    · by_cases e2 : i ≤ k ∧ k < i + (m + 1)
      · rw [if_pos e2, if_pos (by omega)]
      · rw [if_neg e2, if_neg (by omega), if_neg e]

theorem Ar.clearRuns {L : Lay} {V : Nat → Int} (m : Nat) : ∀ {w : World} {R : Nat → Int} (_ : Ar w L R V) (i : Nat) (_ : i + m ≤ L.n),
    Ar (w.setCells L.rb i (List.replicate m (.int .i64 0))) L (fun k => if i ≤ k ∧ k < i + m then 0 else R k) V ∧ Upd L w (w.setCells L.rb i (List.replicate m (.int .i64 0))) := by
  induction m with
  | zero => intro w R h i hi; exact ⟨h.congr (fun k hk => by rw [if_neg (by omega)]) (fun _ _ => rfl), Upd.refl _ _⟩
  | succ m ih =>
    intro w R h i hi
    obtain ⟨h1, u1⟩ := h.setRun i (by omega) 0
    obtain ⟨h2, u2⟩ := ih h1 (i + 1) (by omega)
    rw [List.replicate_succ, World.setCells]
    refine ⟨h2.congr (fun k hk => ?_) (fun _ _ => rfl), u1.trans u2⟩
    by_cases e : k = i
    · subst e
      simp
    · by_cases e2 : i ≤ k ∧ k < i + (m + 1)
      · rw [if_pos e2, if_pos (by omega)]
      · rw [if_neg e2, if_neg (by omega), if_neg e]

theorem zero3 (w : World) : (zeroValue 3).run Tryd.prog w = .ok (.int .i64 0) w := by kernel_rfl
def zeros16 : Array Value := #[.int .i64 0, .int .i64 0, .int .i64 0, .int .i64 0, .int .i64 0, .int .i64 0, .int .i64 0, .int .i64 0, .int .i64 0, .int .i64 0, .int .i64 0, .int .i64 0, .int .i64 0, .int .i64 0, .int .i64 0, .int .i64 0]
theorem zeroPage (w : World) : (zeroValue 71).run Tryd.prog w = .ok (.agg zeros16) w := by kernel_rfl

theorem zeros_at (j : Nat) (h : j < 16) : zeros16[j]! = .int .i64 0 := by
  have : j = 0 ∨ j = 1 ∨ j = 2 ∨ j = 3 ∨ j = 4 ∨ j = 5 ∨ j = 6 ∨ j = 7 ∨ j = 8 ∨ j = 9 ∨ j = 10 ∨ j = 11 ∨ j = 12 ∨ j = 13 ∨ j = 14 ∨ j = 15 := by omega
  rcases this with h | h | h | h | h | h | h | h | h | h | h | h | h | h | h | h <;> subst h <;> rfl

theorem run_clearWords (w : World) (ty : TypeId) (b o m c : Nat) (hc : ∀ j, j < 16 * m → (w.cell? ⟨b, o + j, none⟩).isSome = true) (hf : ∀ j, j < 16 * m → w.frozen? ⟨b, o + j, none⟩ = false) :
    (Builtin.clear_ #[56] ty #[.slice (some ⟨b, o, none⟩) m c]).run Tryd.prog w = .ok (.tuple #[]) (w.setCells b o (List.replicate (16 * m) (.int .i64 0))) := by
  cases m with
  | zero => simp [Builtin.clear_, run_underlying Tryd.underlying56, World.setCells]
  | succ m =>
    have hzc : (Builtin.zeroCells (Value.agg zeros16).cells (m + 1)).toList = List.replicate (16 * (m + 1)) (.int .i64 0) := by
      have hs : (Value.agg zeros16).cells = zeros16 := rfl
      rw [hs]
      have h16 : zeros16.size = 16 := rfl
      unfold Builtin.zeroCells
      rw [h16]
      apply List.ext_getElem
      · simp; omega
      · intro i h1 h2
        simp only [Array.toList_map, List.getElem_map, List.getElem_replicate]
        exact zeros_at _ (Nat.mod_lt _ (by omega))
    have hst := run_storeCells_cells (P := Tryd.prog) b o (List.replicate (16 * (m + 1)) (.int .i64 0)) 0 w (by simpa using hc) (by simpa using hf) (by intro v hv'; rw [List.eq_of_mem_replicate hv']; rfl)
    simp only [Nat.add_zero] at hst
    unfold zeros16 at hzc
    simp [Builtin.clear_, run_underlying Tryd.underlying56, hzc, hst]

theorem run_clearRuns (w : World) (ty : TypeId) (b o m c : Nat) (hc : ∀ j, j < m → (w.cell? ⟨b, o + j, none⟩).isSome = true) (hf : ∀ j, j < m → w.frozen? ⟨b, o + j, none⟩ = false) :
    (Builtin.clear_ #[22] ty #[.slice (some ⟨b, o, none⟩) m c]).run Tryd.prog w = .ok (.tuple #[]) (w.setCells b o (List.replicate m (.int .i64 0))) := by
  cases m with
  | zero => simp [Builtin.clear_, run_underlying Tryd.underlying22, World.setCells]
  | succ m => exact Go.Lib.run_clear_slice w 22 3 ty (.int .i64 0) Tryd.underlying22 zero3 rfl rfl b o (m + 1) c (by omega) hc hf

/-- a clear, by what its run gives -/
theorem wpList_clear {w : World} {ops : Array Oper} {rest : List Oper} {o : Oper} {a : Act} {Q : Exit → Act → World → Prop} (hgd : o.guard = none) (s : Operand) (t : TypeId)
    (ho : o.op = .call { callee := .builtin .clear, args := #[s], argTypes := #[t] }) (v : Value) (hs : a.eval s = v) (w' : World) (u : Value)
    (hrun : (Builtin.clear_ #[t] o.type #[v]).run Tryd.prog w = .ok u w')
    (h : wpList Tryd.prog ops Q rest (a.put o.dst u) w') : wpList Tryd.prog ops Q (o :: rest) a w :=
  wpList_plain hgd fun _ hK => by
    unfold Oper.wp execOp
    simp only [ho, resolve, invoke, builtin, Sem.run_bind, Sem.run_pure, Result.andThen_ok, List.map_toArray, List.map_cons, List.map_nil, hs, hrun]
    exact hK _ _ h

set_option maxRecDepth 10000 in
theorem release_any (L : Lay) (R V : Nat → Int) (f t : Nat) (w : World) (h : Ar w L R V) (hft : f < t) (ht : t ≤ L.n) :
    Calls Tryd.prog 33 #[L.ptr, .int .i64 f, .int .i64 t] w fun e w' => e = .returned (.tuple #[]) ∧ Ar w' L (fun k => if f ≤ k ∧ k < t then 0 else R k) (fun k => if 16 * f ≤ k ∧ k < 16 * t then 0 else V k) ∧ Upd L w w' := by
  have hn := h.small
  have hpg := h.pages
  have h1 := h.clearWords (16 * (t - f)) (16 * f) (by omega)
  have h2 := h1.1.clearRuns (t - f) f (by omega)
  have hrn := h1.1.runs
  have c1 := fun ty => run_clearWords w ty L.pb (L.po + 16 * f) (t - f) (L.n - f) (fun j hj => by rw [Nat.add_assoc, h.word _ (by omega)]; rfl) (fun j hj => by rw [Nat.add_assoc, h.wordF _ (by omega)])
  have c2 := fun ty => run_clearRuns (w.setCells L.pb (L.po + 16 * f) (List.replicate (16 * (t - f)) (.int .i64 0))) ty L.rb f (t - f) (L.n - f) (fun j hj => by rw [h1.1.run _ (by omega)]; rfl) (fun j hj => by rw [h1.1.runF _ (by omega)])
  have E : Hid (Ar _ L (fun k => if f ≤ k ∧ k < t then 0 else R k) (fun k => if 16 * f ≤ k ∧ k < 16 * t then 0 else V k) ∧ Upd L w _) :=
    ⟨h2.1.congr (fun k _ => by congr 1; apply propext; constructor <;> (intro h; omega)) (fun k _ => by congr 1; apply propext; constructor <;> (intro h; omega)), h1.2.trans h2.2⟩
  generalize hw1 : w.setCells L.pb (L.po + 16 * f) (List.replicate (16 * (t - f)) (.int .i64 0)) = w1 at *
  generalize hw2 : w1.setCells L.rb f (List.replicate (t - f) (.int .i64 0)) = w2 at *
  clear h h1 h2 hw1 hw2
  obtain ⟨ab, ao, pb, po, rb, n⟩ := L
  simp only at hn ht hpg hrn c1 c2
  have hne : ¬ n = f := by omega
  go_enter Tryd.func33, Tryd.ntmps33
  rw [Nat.mul_comm 16 f] at c1
  go_wp2_with fail
  go_end0
  exact ⟨rfl, E.out⟩

set_option maxRecDepth 10000 in
theorem release_zero (L : Lay) (R V : Nat → Int) (w : World) (h : Ar w L R V) (hz : L.n = 0) :
    Calls Tryd.prog 33 #[L.ptr, .int .i64 0, .int .i64 0] w fun e w' => e = .returned (.tuple #[]) ∧ w = w' := by
  have hpg := h.pages
  have hrn := h.runs
  have c1 := fun ty => run_clearWords w ty L.pb L.po 0 0 (fun j hj => by omega) (fun j hj => by omega)
  have c2 := fun ty => run_clearRuns w ty L.rb 0 0 0 (fun j hj => by omega) (fun j hj => by omega)
  simp only [Nat.mul_zero, List.replicate_zero, World.setCells] at c1 c2
  rw [hz] at hpg hrn
  clear h hz
  obtain ⟨ab, ao, pb, po, rb, n⟩ := L
  simp only at hpg hrn c1 c2
  go_enter Tryd.func33, Tryd.ntmps33
  go_wp2_with fail
  go_end0
  exact ⟨rfl, rfl⟩

theorem free_any (L : Lay) (R V : Nat → Int) (at_ : Int) (w : World) (p : List Addr) (h : Ar w L R V) (hp : Errs17 w p) :
    Calls Tryd.prog 22 #[L.ptr, .int .i64 at_] w fun e w' => ∃ f t : Nat, RunOf R L.n at_ f t ∧ e = .returned (if f < t then .nilIface else errV p 7) ∧
      Ar w' L (fun k => if f ≤ k ∧ k < t then 0 else R k) (fun k => if 16 * f ≤ k ∧ k < 16 * t then 0 else V k) ∧ Upd L w w' := by
  have hn := h.small
  have Hr := hide (run_any L R V at_ w h)
  have HA := hide (fun k => h.drewN k)
  have He : Hid (∀ k, (w.drewN k).cell? ⟨7, 0, none⟩ = some (errV p 7)) := fun k => (show w.cell? _ = _ from eNone hp)
  clear h hp
  generalize errV p 7 = ev at *
  go_enter Tryd.func22, Tryd.ntmps22
  go_wp2_with fail
  refine Hr.out.mono ?_
  rintro e w1 ⟨⟨f, t, rfl, hr⟩, k1, rfl⟩
  have h1 := hr.le
  have hh := hide hr
  clear hr Hr
  by_cases hft : f < t
  · have e' : ((f : Int) == (t : Int)) = false := by simp; omega
    clear He
    go_wp2_with fail
    refine (release_any L R V f t _ (HA.out k1) hft h1.2).mono ?_
    rintro e w2 ⟨rfl, h2, u2⟩
    have E2 := hide (And.intro h2 u2)
    clear h2 u2 HA
    go_wp2_with fail
    go_ret
    exact ⟨f, t, hh.out, by rw [if_pos hft]; rfl, E2.out.1, (Upd.drewN L w k1).trans E2.out.2⟩
  · have e' : ((f : Int) == (t : Int)) = true := by simp; omega
    have he := He.out k1
    have E2 : Hid (Ar (w.drewN k1) L (fun k => if f ≤ k ∧ k < t then 0 else R k) (fun k => if 16 * f ≤ k ∧ k < 16 * t then 0 else V k)) := (HA.out k1).congr (fun k _ => by rw [if_neg (by omega)]) (fun k _ => by rw [if_neg (by omega)])
    clear He HA
    go_wp2_with fail
    go_ret
    exact ⟨f, t, hh.out, by rw [if_neg hft]; rfl, E2.out, Upd.drewN L w k1⟩

theorem clear_any (L : Lay) (R V : Nat → Int) (w : World) (h : Ar w L R V) :
    Calls Tryd.prog 30 #[L.ptr] w fun e w' => e = .returned (.tuple #[]) ∧ Ar w' L (fun _ => 0) (fun _ => 0) ∧ Upd L w w' := by
  have hpg := h.pages
  have hn := h.small
  by_cases hz : L.n = 0
  · have HR := release_zero L R V w h hz
    have E : Hid (Ar w L (fun _ => 0) (fun _ => 0)) := h.congr (fun i hi => by omega) (fun i hi => by omega)
    rw [hz] at hpg
    have HR := hide HR
    clear h hz
    go_enter Tryd.func30, Tryd.ntmps30
    go_wp2_with fail
    refine HR.out.mono ?_
    rintro e w1 ⟨rfl, rfl⟩
    go_wp2_with fail
    go_end0
    exact ⟨rfl, E.out, Upd.refl _ _⟩
  · have HR := hide (release_any L R V 0 L.n w h (by omega) (Nat.le_refl _))
    clear h hz
    go_enter Tryd.func30, Tryd.ntmps30
    go_wp2_with fail
    refine HR.out.mono ?_
    rintro e w1 ⟨rfl, h2, u2⟩
    have E : Hid (Ar w1 L (fun _ => 0) (fun _ => 0)) := h2.congr (fun i hi => by rw [if_pos (by omega)]) (fun i hi => by rw [if_pos (by omega)])
    have U := hide u2
    clear h2 u2 HR
    go_wp2_with fail
    go_end0
    exact ⟨rfl, E.out, U.out⟩

end Go.Proofs.YtndhgdjcbegjdaaDoor.Ck
