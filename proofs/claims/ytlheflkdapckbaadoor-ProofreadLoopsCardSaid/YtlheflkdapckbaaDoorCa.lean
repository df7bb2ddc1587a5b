/- Package code: what gives up, and what is asked of numbers. -/
import Derived.Test.YtlheflkdapckbaaDoorNum
import Derived.Test.YtlheflkdapckbaaDoorMa
import Derived.WalkLawsBesides
import Derived.LaidEqlPtr
import Derived.StillTailTactics
namespace Go.Proofs.YtlheflkdapckbaaDoor.Ck
open Go.RowKit

theorem hide {p : Prop} (h : p) : Hid p := h
theorem bel_drawn {n : Nat} {w w' : World} (h : Below n w w') : Below n w w'.drew := ⟨h.os, h.tape, h.output, h.size, h.block⟩
theorem mixed : Tryd.prog.follows .mixedOrders = true := by kernel_rfl
theorem lt_of_blk {w : World} {g : Nat} {o : Obj} (h : w.heap[g]? = some o) : g < w.heap.size := (Array.getElem?_eq_some_iff.1 h).1
theorem blk_cell {w : World} {g : Nat} {c : Array Value} {T : TypeId} {r : Nat × Nat} (h : w.heap[g]? = some (.cells c T r)) (i : Nat) (v : Value) (hv : c[i]? = some v) : w.cell? ⟨g, i, none⟩ = some v := by simp [World.cell?, h, hv]
theorem blk_frz {w : World} {g : Nat} {c : Array Value} {T : TypeId} (h : w.heap[g]? = some (.cells c T (0, 0))) (i : Nat) : w.frozen? ⟨g, i, none⟩ = false := frozen_of_row w g i _ T h
def Vb (w : World) (v : Value) (e : Ending) (w' : World) : Prop := e = .returned v ∧ Below w.heap.size w w'
theorem Vb.mk {w w' : World} {v v' : Value} (h : v = v') (hb : Below w.heap.size w w') : Vb w v' (.returned v) w' := ⟨by rw [h], hb⟩
theorem still_of_quiet {P : Program} {ops : Array Oper} {w : World} {Q : Act → Prop} : ∀ (l : List Oper) (a : Act), wpQuiet P ops (fun w' => w' = w) Q l a → wpStill P ops w Q l a
  | [], _, h => h
  | o :: rest, a, h => by
    unfold wpQuiet at h
    unfold wpStill
    split
    · rename_i hw
      rw [if_pos hw] at h
      obtain ⟨v, hv, hn⟩ := h
      have hv := hv w rfl
      have hn := still_of_quiet rest _ hn
      unfold Oper.quietAt at hv
      unfold Oper.still
      generalize (execOp a.eval o).run P w = r at *
      cases r with
      | ok n w' =>
        cases n <;> simp only [Oper.quietUpon, Oper.stillUpon] at hv ⊢
        case enter f args => exact ⟨hv.1, v, hv.2, hn⟩
        case value u => exact ⟨hv.1, by rw [hv.2]; exact hn⟩
        case skip => exact ⟨hv.1, by rw [← hv.2]; exact hn⟩
      | halt x w' => simp only [Oper.quietUpon] at hv
    · rename_i hw
      rw [if_neg hw] at h
      exact still_of_quiet rest _ h

/-- a region that draws its order, all but the end of which only reads, and whose end is forced -/
theorem wp_quiet_tail {P : Program} {id : Nat} {Q : Exit → Act → World → Prop} {a : Act} {w : World} {l : List Oper} (n : Nat) (hm : P.follows .mixedOrders = true) (hB : Region.lexTailB .any l.toArray n = true)
    (h : wpQuiet P l.toArray (fun w' => w' = w.drew) (fun a' => wpList P l.toArray Q (l.drop n) a' w.drew) (l.take n) a) : (Code.region id l.toArray true).wp P Q a w :=
  wp_region_still_tail n hm hB (still_of_quiet _ _ h)
/-- the error that package code gives up with -/
def Ec (w : World) (p : List Addr) : Prop := w.cell? ⟨8, 0, none⟩ = some (errV p 8)
theorem Ec.bel {w w' : World} {p : List Addr} (h : Ec w p) (hb : Below w.heap.size w w') : Ec w' p := (hb.cell (p := ⟨8, 0, none⟩) (World.block_lt_of_cell? w _ h)).trans h
def codeStop (p : List Addr) : Ending := .panicked [{ v := errV p 8, recovered := false }]
/-- a call that returns r, or gives up -/
def Gt (p : List Addr) (w : World) (ok : Bool) (r : Value) (e : Ending) (w' : World) : Prop := e = (if ok = true then .returned r else codeStop p) ∧ Below w.heap.size w w'
theorem Gt.both {p : List Addr} {w : World} {ok : Bool} {r : Value} {e : Ending} {w' : World} (h : Gt p w ok r e w') : (ok = true ∧ e = .returned r ∧ Below w.heap.size w w') ∨ (ok = false ∧ e = codeStop p ∧ Below w.heap.size w w') := by
  cases ok with
  | true => exact .inl ⟨rfl, h.1, h.2⟩
  | false => exact .inr ⟨rfl, h.1, h.2⟩
theorem Gt.yes {p : List Addr} {w : World} {ok : Bool} {r : Value} {w' : World} (h : ok = true) (hb : Below w.heap.size w w') : Gt p w ok r (.returned r) w' := ⟨by rw [if_pos h], hb⟩
theorem Gt.no {p : List Addr} {w : World} {ok : Bool} {r : Value} {w' : World} (h : ok = false) (hb : Below w.heap.size w w') : Gt p w ok r (codeStop p) w' := ⟨by rw [if_neg (by simp [h])], hb⟩
theorem must_yes (w : World) : Calls Tryd.prog 39 #[.bool true] w fun e w' => e = .returned (.tuple #[]) ∧ w = w' := by
  go_enter Tryd.func39, Tryd.ntmps39
  go_wp2_with fail
  go_end0
  exact ⟨rfl, rfl⟩
theorem must_no {w : World} {p : List Addr} (h : Ec w p) : Calls Tryd.prog 39 #[.bool false] w fun e w' => e = codeStop p ∧ w = w' := by
  unfold Ec errV at h
  go_enter Tryd.func39, Tryd.ntmps39
  go_wp2_with fail
  exact ⟨rfl, rfl, rfl⟩
/-- what is asked: yes, and nothing has turned; or no -/
def Mp (p : List Addr) (w : World) (b : Bool) (e : Ending) (w' : World) : Prop := (b = true ∧ e = .returned (.tuple #[]) ∨ b = false ∧ e = codeStop p) ∧ w = w'
theorem must_any {w : World} {p : List Addr} (h : Ec w p) (b : Bool) : Calls Tryd.prog 39 #[.bool b] w (Mp p w b) := by
  cases b with
  | true => exact (must_yes w).mono (fun e w' hh => ⟨.inl ⟨rfl, hh.1⟩, hh.2⟩)
  | false => exact (must_no h).mono (fun e w' hh => ⟨.inr ⟨rfl, hh.1⟩, hh.2⟩)
/-- a span -/
def hasB (x y n : Int) : Bool := decide (x ≤ n) && decide (n ≤ y)
theorem has_any (x y n : Int) (w : World) : Calls Tryd.prog 49 #[.agg #[.int .i64 x, .int .i64 y], .int .i64 n] w (Vb w (.bool (hasB x y n))) := by
  have HB := hide (bel_new w (.cells #[.int .i64 x, .int .i64 y] 99))
  obtain ⟨r, hr⟩ : ∃ r, hasB x y n = r := ⟨_, rfl⟩
  rw [hr]
  have HR := hide hr
  clear hr
  go_enter Tryd.func49, Tryd.ntmps49
  go_wp2_with fail
  all_goals
    go_ret
    exact Vb.mk (congrArg Value.bool (by rw [← HR.out]; first | (simp_all [hasB]; done) | (simp_all [hasB]; omega))) HB.out
/-- a variable of a struct's type, in block g, as a call's result -/
theorem ret_agg {fn : Func} {R : Ending → World → Prop} {a : Act} {w : World} {p : Tmp} {T : TypeId} (g : Nat) (cs : Array Value) {d : TypeDesc} (hf : fn.results = #[.cell p T]) (hp : a.tmps.getD p undef = .pointer (some ⟨g, 0, none⟩))
    (hd : (match d with | .struct _ | .array _ _ => true | _ => false) = true) (h : w.heap[g]? = some (.cells cs T (0, 0))) (hu : Tryd.prog.underlying T = some d) (hi : (Tryd.prog.info? T).map (·.size) = some cs.size) (hdf : a.defers = []) (hR : R (.returned (.agg cs)) w) : bodyPost Tryd.prog fn R .ret a w :=
  bodyPost_ret (results_cell_row hf a.tmps w g T cs (0, 0) d hp h hu (by cases d <;> first | rfl | cases hd) hi) hdf hR
theorem oneOf_any (n : Int) (w : World) (h1 : -9223372036854775807 ≤ n) (h2 : n ≤ 9223372036854775807) : Calls Tryd.prog 48 #[.int .i64 n] w (Vb w (.agg #[.int .i64 0, .int .i64 (n - 1)])) := by
  have HB := hide (bel_new w (.cells #[.int .i64 0, .int .i64 (n - 1)] 99))
  have h : wrap64 (n - 1) = n - 1 := by unfold wrap64; omega
  go_enter Tryd.func48, Tryd.ntmps48
  go_wp2_with fail
  exact ret_agg w.heap.size _ rfl rfl rfl (Go.Deep.blk_alloc_new _ _) Tryd.underlying99 (by kernel_rfl) rfl ⟨rfl, HB.out⟩
end Go.Proofs.YtlheflkdapckbaaDoor.Ck
