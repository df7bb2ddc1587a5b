/- The contract of pool's New, where a pool may be made. -/
import Derived.Test.YtndhgdjcbegjdaaDoorMk
namespace Go.Proofs.YtndhgdjcbegjdaaDoor.Ck
open Go.RowKit

def sh (s : List Int) (j : Nat) : Nat := (s.getD j 0).toNat
/-- how many pages the first shares have together -/
def pre (s : List Int) : Nat → Nat
  | 0 => 0
  | j + 1 => pre s j + sh s j
/-- may a pool be of this? -/
def May (pages : Nat) (s : List Int) : Prop := 1 ≤ pages ∧ pages ≤ 256 ∧ s.length ≤ 8 ∧ ∀ j, j < s.length → 0 ≤ s.getD j 0 ∧ (pre s j : Int) + s.getD j 0 ≤ pages

def lay (qb pb : Nat) (s : List Int) (rb : Nat → Nat) (j : Nat) : Lay := ⟨qb, 2 * j, pb, if sh s j = 0 then 0 else 16 * pre s j, rb j, sh s j⟩

/-- the pool at block pp, of which the first k arenas are made -/
structure PoolIs (w : World) (B pp pb qb m pages : Nat) (s : List Int) (rb : Nat → Nat) (k : Nat) (R V : Nat → Nat → Int) : Prop where
  ph : w.cell? ⟨pp, 0, none⟩ = some (.slice (some ⟨pb, 0, none⟩) pages pages)
  pa : w.cell? ⟨pp, 1, none⟩ = some (.slice (some ⟨qb, 0, none⟩) m m)
  row : ∃ g, w.rowIs qb 61 (2 * m) g
  ar : ∀ j, j < k → Ar w (lay qb pb s rb j) (R j) (V j)
  word0 : ∀ i, 16 * pre s k ≤ i → i < 16 * pages → w.cell? ⟨pb, i, none⟩ = some (.int .i64 0)
  wordF : ∀ i, i < 16 * pages → w.frozen? ⟨pb, i, none⟩ = false
  d1 : pp ≠ pb
  d2 : pp ≠ qb
  d3 : pb ≠ qb
  rbs : ∀ j, j < k → B ≤ rb j ∧ rb j < w.heap.size ∧ rb j ≠ pp ∧ rb j ≠ pb ∧ rb j ≠ qb
  rbd : ∀ i j, i < k → j < k → i ≠ j → rb i ≠ rb j
  own : B ≤ pp ∧ B ≤ pb ∧ B ≤ qb
  lt : pp < w.heap.size ∧ pb < w.heap.size ∧ qb < w.heap.size
  le : pre s k ≤ pages

theorem made_at (z : Array Value) (n i : Nat) (h : i < n) : (madeCells z n)[i]? = some (z[i % z.size]!) := by
  unfold madeCells
  simp [h]

theorem infoPage : (Tryd.prog.info? 71).map (fun i => (i.zero, i.size, i.bytes)) = some (some (.agg zeros16), 16, 128) := by kernel_rfl
theorem infoArena : (Tryd.prog.info? 61).map (fun i => (i.zero, i.size, i.bytes)) = some (some (.agg #[.slice none 0 0, .slice none 0 0]), 2, 48) := by kernel_rfl

theorem run_makePages (n : Nat) (hc : n ≤ 1000) (w : World) :
    (Instr.makeSlice 56 (.int .i64 (n : Int)) (.int .i64 (n : Int))).run Tryd.prog w = .ok (.slice (some ⟨w.heap.size, 0, none⟩) n n) (w.alloc (.cells (madeCells zeros16 (n * 16)) 71)) := by
  obtain ⟨i, hi, hz0, hz1, hz2⟩ := info_parts infoPage
  have hr := run_make (P := Tryd.prog) w 56 71 i (.agg zeros16) Tryd.underlying56 hi hz0 .i64 .i64 n n (by omega) (by omega) (by rw [hz2]; omega) (by omega)
  simp only [Int.toNat_natCast, hz1] at hr
  exact hr
theorem run_makeArenas (n : Nat) (hc : n ≤ 1000) (w : World) :
    (Instr.makeSlice 57 (.int .i64 (n : Int)) (.int .i64 (n : Int))).run Tryd.prog w = .ok (.slice (some ⟨w.heap.size, 0, none⟩) n n) (w.alloc (.cells (madeCells #[.slice none 0 0, .slice none 0 0] (n * 2)) 61)) := by
  obtain ⟨i, hi, hz0, hz1, hz2⟩ := info_parts infoArena
  have hr := run_make (P := Tryd.prog) w 57 61 i (.agg #[.slice none 0 0, .slice none 0 0]) Tryd.underlying57 hi hz0 .i64 .i64 n n (by omega) (by omega) (by rw [hz2]; omega) (by omega)
  simp only [Int.toNat_natCast, hz1] at hr
  exact hr

theorem rowPages (w : World) (n : Nat) : (w.alloc (.cells (madeCells zeros16 (n * 16)) 71)).rowIs w.heap.size 71 (16 * n) (fun _ => .int .i64 0) := by
  have h := World.rowIs_alloc w (madeCells zeros16 (n * 16)) 71 (fun _ => .int .i64 0) (fun i hi => by
    rw [size_madeCells] at hi
    rw [made_at _ _ _ hi]
    exact congrArg some (zeros_at _ (Nat.mod_lt _ (by decide))))
  rw [size_madeCells] at h
  rw [← Nat.mul_comm n 16]
  exact h
theorem rowArenas (w : World) (n : Nat) : (w.alloc (.cells (madeCells #[.slice none 0 0, .slice none 0 0] (n * 2)) 61)).rowIs w.heap.size 61 (2 * n) (fun _ => .slice none 0 0) := by
  have h := World.rowIs_alloc w (madeCells #[.slice none 0 0, .slice none 0 0] (n * 2)) 61 (fun _ => .slice none 0 0) (fun i hi => by
    rw [size_madeCells] at hi
    rw [made_at _ _ _ hi]
    have : i % 2 = 0 ∨ i % 2 = 1 := by omega
    rcases this with e | e <;> simp [e])
  rw [size_madeCells] at h
  rw [← Nat.mul_comm n 2]
  exact h

/-- a pool of which no arena is made -/
theorem PoolIs.start {w : World} {B pp pb qb m pages : Nat} {s : List Int} {rb : Nat → Nat} {R V : Nat → Nat → Int} {f : Nat → Value}
    (h1 : w.cell? ⟨pp, 0, none⟩ = some (.slice (some ⟨pb, 0, none⟩) pages pages)) (h2 : w.cell? ⟨pp, 1, none⟩ = some (.slice (some ⟨qb, 0, none⟩) m m))
    (h3 : w.rowIs pb 71 (16 * pages) (fun _ => .int .i64 0)) (h4 : w.rowIs qb 61 (2 * m) f) (h5 : pp < w.heap.size)
    (h6 : pp ≠ pb ∧ pp ≠ qb ∧ pb ≠ qb) (h7 : B ≤ pp ∧ B ≤ pb ∧ B ≤ qb) : PoolIs w B pp pb qb m pages s rb 0 R V :=
  ⟨h1, h2, ⟨_, h4⟩, fun _ h => by omega, fun _ _ h => h3.cell h, fun i _ => h3.frozen i, h6.1, h6.2.1, h6.2.2, fun _ h => by omega, fun _ _ h => by omega, h7, ⟨h5, h3.lt, h4.lt⟩, Nat.zero_le _⟩

theorem cells2 (w : World) (a b : Value) (t : TypeId) (n : Nat) (hn : w.heap.size = n) :
    (w.alloc (.cells #[a, b] t)).drew.cell? ⟨n, 0, none⟩ = some a ∧ (w.alloc (.cells #[a, b] t)).drew.cell? ⟨n, 1, none⟩ = some b ∧ n < (w.alloc (.cells #[a, b] t)).drew.heap.size := by
  subst hn
  have h := World.rowIs_alloc w #[a, b] t (fun i => if i = 0 then a else b) (fun i hi => by
    have : i = 0 ∨ i = 1 := by simp at hi; omega
    rcases this with e | e <;> subst e <;> rfl)
  exact ⟨h.cell (i := 0) (by simp), h.cell (i := 1) (by simp), h.lt⟩

theorem start_any {w w' : World} {m pages : Nat} {s : List Int} (o : Bool)
    (hw : w' = (if o then ((w.alloc (.cells (madeCells zeros16 (pages * 16)) 71)).alloc (.cells (madeCells #[.slice none 0 0, .slice none 0 0] (m * 2)) 61)).alloc (.cells #[.slice (some ⟨w.heap.size, 0, none⟩) pages pages, .slice (some ⟨w.heap.size + 1, 0, none⟩) m m] 59)
      else ((w.alloc (.cells (madeCells #[.slice none 0 0, .slice none 0 0] (m * 2)) 61)).alloc (.cells (madeCells zeros16 (pages * 16)) 71)).alloc (.cells #[.slice (some ⟨w.heap.size + 1, 0, none⟩) pages pages, .slice (some ⟨w.heap.size, 0, none⟩) m m] 59)).drew) :
    (∃ pb qb, PoolIs w' w.heap.size (w.heap.size + 2) pb qb m pages s (fun _ => 0) 0 (fun _ _ => 0) (fun _ _ => 0)) ∧ Below w.heap.size w w' := by
  subst hw
  cases o with
  | true =>
    have e1 : (w.alloc (.cells (madeCells zeros16 (pages * 16)) 71)).heap.size = w.heap.size + 1 := by simp
    have r1 := ((rowPages w pages).alloc (.cells (madeCells #[.slice none 0 0, .slice none 0 0] (m * 2)) 61)).alloc (.cells #[.slice (some ⟨w.heap.size, 0, none⟩) pages pages, .slice (some ⟨w.heap.size + 1, 0, none⟩) m m] 59)
    have r2 := (rowArenas (w.alloc (.cells (madeCells zeros16 (pages * 16)) 71)) m).alloc (.cells #[.slice (some ⟨w.heap.size, 0, none⟩) pages pages, .slice (some ⟨w.heap.size + 1, 0, none⟩) m m] 59)
    rw [e1] at r2
    refine ⟨⟨w.heap.size, w.heap.size + 1, PoolIs.start (cells2 _ _ _ _ (w.heap.size + 2) (by simp)).1 (cells2 _ _ _ _ (w.heap.size + 2) (by simp)).2.1 r1 r2 (cells2 _ _ _ _ (w.heap.size + 2) (by simp)).2.2 (by omega) (by omega)⟩, (bel_al (bel_al (bel_new w _) _) _).drew⟩
  | false =>
    have e1 : (w.alloc (.cells (madeCells #[.slice none 0 0, .slice none 0 0] (m * 2)) 61)).heap.size = w.heap.size + 1 := by simp
    have r1 := (rowPages (w.alloc (.cells (madeCells #[.slice none 0 0, .slice none 0 0] (m * 2)) 61)) pages).alloc (.cells #[.slice (some ⟨w.heap.size + 1, 0, none⟩) pages pages, .slice (some ⟨w.heap.size, 0, none⟩) m m] 59)
    have r2 := ((rowArenas w m).alloc (.cells (madeCells zeros16 (pages * 16)) 71)).alloc (.cells #[.slice (some ⟨w.heap.size + 1, 0, none⟩) pages pages, .slice (some ⟨w.heap.size, 0, none⟩) m m] 59)
    rw [e1] at r1
    refine ⟨⟨w.heap.size + 1, w.heap.size, PoolIs.start (cells2 _ _ _ _ (w.heap.size + 2) (by simp)).1 (cells2 _ _ _ _ (w.heap.size + 2) (by simp)).2.1 r1 r2 (cells2 _ _ _ _ (w.heap.size + 2) (by simp)).2.2 (by omega) (by omega)⟩, (bel_al (bel_al (bel_new w _) _) _).drew⟩

end Go.Proofs.YtndhgdjcbegjdaaDoor.Ck
