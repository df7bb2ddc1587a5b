/- The contracts of pool's Arena, of the statements' own 'sole' and 'alive'. -/
import Derived.Test.YtndhgdjcbegjdaaDoorNew2
namespace Go.Proofs.YtndhgdjcbegjdaaDoor.Ck
open Go.RowKit

theorem arena_ok {w : World} {B pp pb qb m pages : Nat} {s : List Int} {rb : Nat → Nat} {k : Nat} {R V : Nat → Nat → Int} (h : PoolIs w B pp pb qb m pages s rb k R V) (i : Int) (j : Nat) (hi : i = j) (hj : j < m) (_hm : m ≤ 8) :
    Calls Tryd.prog 11 #[.pointer (some ⟨pp, 0, none⟩), .int .i64 i] w fun e w' => e = .returned (.tuple #[(lay qb pb s rb j).ptr, .nilIface]) ∧ w = w' := by
  subst hi
  have hpa := h.pa
  clear h
  have e2 : (lay qb pb s rb j).ptr = .pointer (some ⟨qb, j * 2, none⟩) := by simp only [lay, Lay.ptr]; rw [Nat.mul_comm]
  rw [e2]
  go_enter Tryd.func11, Tryd.ntmps11
  go_wp2_with fail
  go_ret2
  exact ⟨rfl, rfl⟩

theorem arena_bad {w : World} {B pp pb qb m pages : Nat} {s : List Int} {rb : Nat → Nat} {k : Nat} {R V : Nat → Nat → Int} (h : PoolIs w B pp pb qb m pages s rb k R V) (i : Int) (p : List Addr) (hp : Errs17 w p) (hi : i < 0 ∨ (m : Int) ≤ i) (_hm : m ≤ 8) :
    Calls Tryd.prog 11 #[.pointer (some ⟨pp, 0, none⟩), .int .i64 i] w fun e w' => e = .returned (.tuple #[.pointer none, errV p 0]) ∧ ∃ k, w' = w.drewN k := by
  have hpa := h.pa
  have he := eRange hp
  clear h hp
  generalize errV p 0 = ev at *
  go_enter Tryd.func11, Tryd.ntmps11
  by_cases h0 : i < 0
  · go_wp2_with fail
    go_quiet (fail)
    go_wp2_with fail
    go_ret2
    exact ⟨rfl, _, rfl⟩
  · have h1 : (m : Int) ≤ i := by omega
    clear hi
    go_wp2_with fail
    go_quiet (fail)
    go_wp2_with fail
    go_ret2
    exact ⟨rfl, _, rfl⟩

theorem built1 (w : World) (x : Int) (hx : 0 ≤ x) (hx2 : x ≤ 1000) :
    Sl (w.alloc (.cells #[.int .i64 x] 3)) (.slice (some ⟨w.heap.size, 0, none⟩) 1 1) [x] :=
  Sl.built [x] (fun z hz => by simp at hz; omega) (by simp)
theorem built2 (w : World) (x y : Int) (hx : 0 ≤ x) (hx2 : x ≤ 100) (hy : 0 ≤ y) (hy2 : y ≤ 100) :
    Sl (w.alloc (.cells #[.int .i64 x, .int .i64 y] 3)) (.slice (some ⟨w.heap.size, 0, none⟩) 2 2) [x, y] :=
  Sl.built [x, y] (fun z hz => by simp at hz; omega) (by simp)

theorem may_one (n : Nat) (h1 : 1 ≤ n) (h2 : n ≤ 256) : May n [(n : Int)] :=
  ⟨h1, h2, by simp, fun j hj => by
    have : j = 0 := by simp at hj; omega
    subst this
    simp [pre]⟩
theorem may_82 : May 8 [3, 2] :=
  ⟨by omega, by omega, by simp, fun j hj => by
    have : j = 0 ∨ j = 1 := by simp at hj; omega
    rcases this with e | e <;> subst e <;> decide⟩

/-- an arena of its own, whose blocks are new -/
def Mine (B : Nat) (L : Lay) : Prop := B ≤ L.rb ∧ B ≤ L.pb

theorem PoolIs.mine {w : World} {B pp pb qb m pages : Nat} {s : List Int} {rb : Nat → Nat} {k : Nat} {R V : Nat → Nat → Int} (h : PoolIs w B pp pb qb m pages s rb k R V) (j : Nat) (hj : j < k) : Mine B (lay qb pb s rb j) :=
  ⟨(h.rbs j hj).1, h.own.2.1⟩
theorem Mine.bel {B : Nat} {L : Lay} {w w' : World} (h : Mine B L) (u : Upd L w w') : Below B w w' := u.bel B h.1 h.2


end Go.Proofs.YtndhgdjcbegjdaaDoor.Ck
