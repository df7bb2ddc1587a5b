/- The contracts of pool's Arena, of the statements' own 'sole' and 'alive'. -/
import Derived.Test.YtlkdfiiipheagaaDoorNew2
namespace Go.Proofs.YtlkdfiiipheagaaDoor.Ck
open Go.RowKit

theorem arena_ok {w : World} {B pp pb qb m pages : Nat} {s : List Int} {rb : Nat → Nat} {k : Nat} {R V : Nat → Nat → Int} (h : PoolIs w B pp pb qb m pages s rb k R V) (i : Int) (j : Nat) (hi : i = j) (hj : j < m) (_hm : m ≤ 8) :
    Calls Tryd.prog 16 #[.pointer (some ⟨pp, 0, none⟩), .int .i64 i] w fun e w' => e = .returned (.tuple #[(lay qb pb s rb j).ptr, .nilIface]) ∧ w = w' := by
  subst hi
  have hpa := h.pa
  clear h
  have e2 : (lay qb pb s rb j).ptr = .pointer (some ⟨qb, j * 2, none⟩) := by simp only [lay, Lay.ptr]; rw [Nat.mul_comm]
  rw [e2]
  go_enter Tryd.func16, Tryd.ntmps16
  go_wp2_with fail
  go_ret2
  exact ⟨rfl, rfl⟩

theorem arena_bad {w : World} {B pp pb qb m pages : Nat} {s : List Int} {rb : Nat → Nat} {k : Nat} {R V : Nat → Nat → Int} (h : PoolIs w B pp pb qb m pages s rb k R V) (i : Int) (p : List Addr) (hp : Errs17 w p) (hi : i < 0 ∨ (m : Int) ≤ i) (_hm : m ≤ 8) :
    Calls Tryd.prog 16 #[.pointer (some ⟨pp, 0, none⟩), .int .i64 i] w fun e w' => e = .returned (.tuple #[.pointer none, errV p 0]) ∧ ∃ k, w' = w.drewN k := by
  have hpa := h.pa
  have he := eRange hp
  clear h hp
  generalize errV p 0 = ev at *
  go_enter Tryd.func16, Tryd.ntmps16
  by_cases h0 : i < 0
  · go_wp2_with fail
    go_quiet (fail)
    go_wp2_with fail
    go_ret2
    exact ⟨rfl, _, rfl⟩
  · have h1 : (m : Int) ≤ i := by omega
    clear hi
    go_wp2_with fail
    go_quiet (fail)
    go_wp2_with fail
    go_ret2
    exact ⟨rfl, _, rfl⟩

theorem built1 (w : World) (x : Int) (hx : 0 ≤ x) (hx2 : x ≤ 1000) :
    Sl (w.alloc (.cells #[.int .i64 x] 3)) (.slice (some ⟨w.heap.size, 0, none⟩) 1 1) [x] :=
  Sl.built [x] (fun z hz => by simp at hz; omega) (by simp)
theorem built2 (w : World) (x y : Int) (hx : 0 ≤ x) (hx2 : x ≤ 100) (hy : 0 ≤ y) (hy2 : y ≤ 100) :
    Sl (w.alloc (.cells #[.int .i64 x, .int .i64 y] 3)) (.slice (some ⟨w.heap.size, 0, none⟩) 2 2) [x, y] :=
  Sl.built [x, y] (fun z hz => by simp at hz; omega) (by simp)

theorem may_one (n : Nat) (h1 : 1 ≤ n) (h2 : n ≤ 256) : May n [(n : Int)] :=
  ⟨h1, h2, by simp, fun j hj => by
    have : j = 0 := by simp at hj; omega
    subst this
    simp [pre]⟩
theorem may_82 : May 8 [3, 2] :=
  ⟨by omega, by omega, by simp, fun j hj => by
    have : j = 0 ∨ j = 1 := by simp at hj; omega
    rcases this with e | e <;> subst e <;> decide⟩

/-- an arena of its own, whose blocks are new -/
def Mine (B : Nat) (L : Lay) : Prop := B ≤ L.rb ∧ B ≤ L.pb

theorem PoolIs.mine {w : World} {B pp pb qb m pages : Nat} {s : List Int} {rb : Nat → Nat} {k : Nat} {R V : Nat → Nat → Int} (h : PoolIs w B pp pb qb m pages s rb k R V) (j : Nat) (hj : j < k) : Mine B (lay qb pb s rb j) :=
  ⟨(h.rbs j hj).1, h.own.2.1⟩
theorem Mine.bel {B : Nat} {L : Lay} {w w' : World} (h : Mine B L) (u : Upd L w w') : Below B w w' := u.bel B h.1 h.2

set_option maxHeartbeats 400000 in
theorem sole_any (n : Nat) (w : World) (h1 : 1 ≤ n) (h2 : n ≤ 256) :
    Calls Tryd.prog 32 #[.int .i64 n] w fun e w' => (∃ L : Lay, e = .returned L.ptr ∧ L.n = n ∧ Ar w' L (fun _ => 0) (fun _ => 0) ∧ Mine w.heap.size L) ∧ Below w.heap.size w w' := by
  go_enter Tryd.func32, Tryd.ntmps32
  go_wp2_with fail
  refine (new_ok n [(n : Int)] _ _ (built1 w n (by omega) (by omega)) (may_one n h1 h2)).mono ?_
  rintro e w1 ⟨⟨x, rfl, pp, pb, qb, rb, rfl, hP⟩, hb1⟩
  have b1 := bel_trans (bel_new w _) hb1
  have HP := hide hP
  clear hP hb1
  go_wp2_with fail
  refine (arena_ok HP.out _ 0 rfl (by simp) (by simp)).mono ?_
  rintro e w2 ⟨rfl, rfl⟩
  have hA := HP.out.ar 0 (by simp)
  have hM := HP.out.mine 0 (by simp)
  have hsz : (w.alloc (.cells #[.int .i64 (n : Int)] 3)).heap.size = w.heap.size + 1 := by simp
  have hn : (lay qb pb [(n : Int)] rb 0).n = n := by simp [lay, sh]
  have E : Hid (∃ L : Lay, (lay qb pb [(n : Int)] rb 0).ptr = L.ptr ∧ L.n = n ∧ Ar w1 L (fun _ => 0) (fun _ => 0) ∧ Mine w.heap.size L) :=
    ⟨_, rfl, hn, hA, by rw [hsz] at hM; exact ⟨by have := hM.1; omega, by have := hM.2; omega⟩⟩
  clear HP hA hM hn
  go_wp2_with fail
  go_ret
  obtain ⟨L, h1, h2, h3⟩ := E.out
  exact ⟨⟨L, by rw [← h1]; rfl, h2, h3⟩, b1⟩

end Go.Proofs.YtlkdfiiipheagaaDoor.Ck
