/- Many arenas of one pool: what is done to one leaves the others; the words of the whole pool. -/
import Derived.Test.YtndhgdjcbegjdaaDoorStep
namespace Go.Proofs.YtndhgdjcbegjdaaDoor.Ck
open Go.RowKit

theorem pre_mono (s : List Int) {i j : Nat} (h : i ≤ j) : pre s i ≤ pre s j := by
  induction j with
  | zero => obtain rfl : i = 0 := by omega
            exact Nat.le_refl _
  | succ j ih =>
    by_cases e : i = j + 1
    · rw [e]; exact Nat.le_refl _
    · exact Nat.le_trans (ih (by omega)) (Nat.le_add_right _ _)
theorem pre_step (s : List Int) {i j : Nat} (h : i < j) : pre s i + sh s i ≤ pre s j := pre_mono s (i := i + 1) h

section
variable {w : World} {B pp pb qb m pages : Nat} {s : List Int} {rb : Nat → Nat} {k : Nat} {R V : Nat → Nat → Int}

theorem PoolIs.apart (h : PoolIs w B pp pb qb m pages s rb k R V) {i j : Nat} (hi : i < k) (hj : j < k) (hij : i ≠ j) : Apart (lay qb pb s rb i) (lay qb pb s rb j) := by
  have hri := h.rbs i hi
  have hrj := h.rbs j hj
  refine ⟨?_, ?_, ?_, ?_, ?_, fun _ => ?_⟩
  · exact fun e => hri.2.2.2.2 e.symm
  · exact h.rbd j i hj hi (Ne.symm hij)
  · exact fun e => hri.2.2.2.1 e.symm
  · exact fun e => h.d3 e.symm
  · exact hrj.2.2.2.1
  · simp only [lay]
    by_cases e1 : sh s j = 0
    · exact .inr (.inr (.inl e1))
    · by_cases e2 : sh s i = 0
      · exact .inr (.inr (.inr e2))
      · rw [if_neg e1, if_neg e2]
        rcases Nat.lt_or_gt_of_ne hij with hlt | hlt
        · have := pre_step s hlt
          right; left; omega
        · have := pre_step s hlt
          left; omega

theorem PoolIs.grow (h : PoolIs w B pp pb qb m pages s rb k R V) {w' : World} (hb : Below w.heap.size w w') : PoolIs w' B pp pb qb m pages s rb k R V :=
  { ph := (hb.cell (p := ⟨pp, 0, none⟩) h.lt.1).trans h.ph,
    pa := (hb.cell (p := ⟨pp, 1, none⟩) h.lt.1).trans h.pa,
    row := by obtain ⟨g, hr⟩ := h.row; exact ⟨g, hr.of_block (hb.block qb hr.lt)⟩,
    ar := fun j hj => (h.ar j hj).below hb,
    word0 := fun i h1 h2 => (hb.cell (p := ⟨pb, i, none⟩) h.lt.2.1).trans (h.word0 i h1 h2),
    wordF := fun i h1 => (hb.frozen (p := ⟨pb, i, none⟩) h.lt.2.1).trans (h.wordF i h1),
    d1 := h.d1, d2 := h.d2, d3 := h.d3,
    rbs := fun j hj => by have := h.rbs j hj; have := hb.size; omega,
    rbd := h.rbd, own := h.own, lt := by have := h.lt; have := hb.size; omega, le := h.le }

theorem PoolIs.upd (h : PoolIs w B pp pb qb m pages s rb k R V) {w' : World} {j : Nat} (hj : j < k) {R' V' : Nat → Int} (hA : Ar w' (lay qb pb s rb j) R' V') (u : Upd (lay qb pb s rb j) w w') :
    PoolIs w' B pp pb qb m pages s rb k (fun i => if i = j then R' else R i) (fun i => if i = j then V' else V i) := by
  have hr := h.rbs j hj
  refine {
    ph := (u.cell ⟨pp, 0, none⟩ (fun e => hr.2.2.1 e.symm) (fun e => h.d1 e.1)).trans h.ph,
    pa := (u.cell ⟨pp, 1, none⟩ (fun e => hr.2.2.1 e.symm) (fun e => h.d1 e.1)).trans h.pa,
    row := by obtain ⟨g, hrow⟩ := h.row; exact ⟨g, hrow.of_block (u.blk qb (fun e => hr.2.2.2.2 e.symm) (fun e => h.d3 e.symm))⟩,
    ar := fun i hi => ?_,
    word0 := fun i h1 h2 => ?_,
    wordF := fun i h1 => (u.froz _).trans (h.wordF i h1),
    d1 := h.d1, d2 := h.d2, d3 := h.d3,
    rbs := fun i hi => by have := h.rbs i hi; have := u.size; omega,
    rbd := h.rbd, own := h.own, lt := by have := h.lt; have := u.size; omega, le := h.le }
  · by_cases e : i = j
    · simp only [if_pos e]
      rw [e]
      exact hA
    · simp only [if_neg e]
      exact (h.ar i hi).other (h.apart hj hi (Ne.symm e)) u
  · refine (u.cell ⟨pb, i, none⟩ (fun e => hr.2.2.2.1 e.symm) (fun e => ?_)).trans (h.word0 i h1 h2)
    obtain ⟨_, e1, e2⟩ := e
    simp only [lay] at e1 e2
    have hst := pre_step s hj
    by_cases ez : sh s j = 0
    · rw [ez] at e2
      simp only [if_pos] at e1 e2
      omega
    · rw [if_neg ez] at e1 e2
      omega

/-- the words of the pool, by the arenas' words -/
def pw (s : List Int) (V : Nat → Nat → Int) : Nat → Nat → Int
  | 0, _ => 0
  | k + 1, i => if 16 * pre s k ≤ i ∧ i < 16 * pre s (k + 1) then V k (i - 16 * pre s k) else pw s V k i

theorem pw_out (s : List Int) (V : Nat → Nat → Int) (k i : Nat) (h : 16 * pre s k ≤ i) : pw s V k i = 0 := by
  induction k with
  | zero => rfl
  | succ k ih =>
    have : pre s k ≤ pre s (k + 1) := pre_mono s (by omega)
    rw [pw, if_neg (by omega)]
    exact ih (by omega)
theorem pw_in (s : List Int) (V : Nat → Nat → Int) (k j i : Nat) (hj : j < k) (h1 : 16 * pre s j ≤ i) (h2 : i < 16 * (pre s j + sh s j)) : pw s V k i = V j (i - 16 * pre s j) := by
  induction k with
  | zero => omega
  | succ k ih =>
    rw [pw]
    by_cases e : j = k
    · subst e
      rw [if_pos ⟨h1, h2⟩]
    · have := pre_step s (show j < k by omega)
      rw [if_neg (by omega)]
      exact ih (by omega)

theorem PoolIs.words (h : PoolIs w B pp pb qb m pages s rb k R V) (i : Nat) (hi : i < 16 * pages) : w.cell? ⟨pb, i, none⟩ = some (.int .i64 (pw s V k i)) := by
  by_cases hk : 16 * pre s k ≤ i
  · rw [pw_out s V k i hk]
    exact h.word0 i hk hi
  · have : ∀ k', k' ≤ k → i < 16 * pre s k' → ∃ j, j < k' ∧ 16 * pre s j ≤ i ∧ i < 16 * (pre s j + sh s j) := by
      intro k'
      induction k' with
      | zero => intro _ h; simp [pre] at h
      | succ k' ih =>
        intro hk' hik
        by_cases e : 16 * pre s k' ≤ i
        · exact ⟨k', by omega, e, hik⟩
        · obtain ⟨j, h1, h2⟩ := ih (by omega) (by omega)
          exact ⟨j, by omega, h2⟩
    obtain ⟨j, hj, h1, h2⟩ := this k (Nat.le_refl _) (by omega)
    rw [pw_in s V k j i hj h1 h2]
    have hw := (h.ar j hj).word (i - 16 * pre s j) (by simp only [lay]; omega)
    simp only [lay] at hw
    rw [if_neg (by omega), show 16 * pre s j + (i - 16 * pre s j) = i by omega] at hw
    exact hw
end

end Go.Proofs.YtndhgdjcbegjdaaDoor.Ck
