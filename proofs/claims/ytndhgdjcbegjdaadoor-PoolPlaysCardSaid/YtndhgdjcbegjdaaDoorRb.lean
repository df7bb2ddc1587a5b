/- How the document's arena lies in memory: its share, its runs, their words; no Go text is walked here. -/
import Derived.Test.YtndhgdjcbegjdaaDoorRa
import Derived.Test.YtndhgdjcbegjdaaDoorAl
namespace Go.Proofs.YtndhgdjcbegjdaaDoor.Ck
open Go.RowKit

def rv : List Rn → List Value
  | [] => []
  | x :: H => .int .i64 x.f :: .int .i64 x.c :: x.words :: rv H
theorem rv_len (H : List Rn) : (rv H).length = H.length * 3 := by
  induction H with
  | nil => rfl
  | cons x H ih => simp only [rv, List.length_cons, ih]; omega
theorem rv_app (A B : List Rn) : rv (A ++ B) = rv A ++ rv B := by
  induction A with
  | nil => rfl
  | cons x A ih => simp only [List.cons_append, rv, ih]
theorem rv_one (H : List Rn) : ∀ u ∈ rv H, u.oneCell' = true := by
  induction H with
  | nil => intro u hu; cases hu
  | cons x H ih =>
    intro u hu
    simp only [rv, List.mem_cons] at hu
    rcases hu with rfl | rfl | rfl | hu
    · rfl
    · rfl
    · rfl
    · exact ih u hu
theorem rv_at (H : List Rn) (i : Nat) (x : Rn) (h : H[i]? = some x) : (rv H)[i * 3]? = some (.int .i64 x.f) ∧ (rv H)[i * 3 + 1]? = some (.int .i64 x.c) ∧ (rv H)[i * 3 + 2]? = some x.words := by
  induction H generalizing i with
  | nil => simp at h
  | cons y H ih =>
    cases i with
    | zero =>
      simp only [List.getElem?_cons_zero, Option.some.injEq] at h
      subst h
      exact ⟨rfl, rfl, rfl⟩
    | succ i =>
      rw [List.getElem?_cons_succ] at h
      have := ih i h
      rw [show (i + 1) * 3 = i * 3 + 1 + 1 + 1 by omega]
      exact this

/-- the words of a run -/
def wv (V : Nat → Int) (x : Rn) : Array Value := ((List.range (16 * x.c)).map fun i => Value.int .i64 (V (16 * x.f + i))).toArray
theorem wv_at (V : Nat → Int) (x : Rn) (i : Nat) (h : i < 16 * x.c) : (wv V x)[i]? = some (.int .i64 (V (16 * x.f + i))) := by simp [wv, h]

/-- the blocks of an arena of the document -/
def blks (gm : Nat) (v : Value) (H : List Rn) : List Nat := gm :: (v.ownBlock.toList ++ H.map Rn.b)

structure Rm (w : World) (gm n : Nat) (v : Value) (H : List Rn) (V : Nat → Int) : Prop where
  small : n ≤ 256
  st : w.heap[gm]? = some (.cells #[.int .i64 n, v] 43 (0, 0))
  own : w.ownsRow 0 50 3 v H.length (rv H)
  wd : ∀ x ∈ H, w.heap[x.b]? = some (.cells (wv V x) 3 (0, 0))
  nd : (blks gm v H).Nodup
  hl : H.length ≤ 256
  hb : ∀ x ∈ H, x.f + x.c ≤ n

/-- nothing but the blocks S turned -/
structure Ef (S : List Nat) (w w' : World) : Prop where
  os : w'.os = w.os
  tape : w'.tape = w.tape
  output : w'.output = w.output
  size : w.heap.size ≤ w'.heap.size
  blk : ∀ k, k < w.heap.size → k ∉ S → w'.heap[k]? = w.heap[k]?

theorem Ef.refl (S : List Nat) (w : World) : Ef S w w := ⟨rfl, rfl, rfl, Nat.le_refl _, fun _ _ _ => rfl⟩
theorem Ef.trans {S : List Nat} {a b c : World} (h : Ef S a b) (k : Ef S b c) : Ef S a c :=
  ⟨k.os.trans h.os, k.tape.trans h.tape, k.output.trans h.output, Nat.le_trans h.size k.size, fun x hx hs => (k.blk x (Nat.lt_of_lt_of_le hx h.size) hs).trans (h.blk x hx hs)⟩
theorem Ef.of_bel {S : List Nat} {w w' : World} (h : Below w.heap.size w w') : Ef S w w' := ⟨h.os, h.tape, h.output, h.size, fun k hk _ => h.block k hk⟩
theorem Ef.bel {S : List Nat} {w w' : World} (h : Ef S w w') {B : Nat} (hB : ∀ b ∈ S, B ≤ b) (hw : B ≤ w.heap.size) : Below B w w' :=
  ⟨h.os, h.tape, h.output, h.size, fun k hk => h.blk k (by omega) (fun hs => by have := hB k hs; omega)⟩
theorem Ef.mono {S T : List Nat} {w w' : World} (h : Ef S w w') (hs : ∀ b ∈ S, b ∈ T) : Ef T w w' := ⟨h.os, h.tape, h.output, h.size, fun k hk ht => h.blk k hk (fun hx => ht (hs k hx))⟩
/-- what lies outside of the blocks, and what was made since, may turn too -/
theorem Ef.later {S T : List Nat} {a b c : World} (h : Ef S a b) (k : Ef T b c) (hT : ∀ x ∈ T, x ∈ S ∨ a.heap.size ≤ x) : Ef S a c :=
  ⟨k.os.trans h.os, k.tape.trans h.tape, k.output.trans h.output, Nat.le_trans h.size k.size, fun x hx hs => (k.blk x (Nat.lt_of_lt_of_le hx h.size) (fun ht => by rcases hT x ht with h1 | h1; exact hs h1; omega)).trans (h.blk x hx hs)⟩
theorem Ef.set (w : World) (g i : Nat) (v : Value) : Ef [g] w (w.setCell ⟨g, i, none⟩ v) :=
  ⟨rfl, rfl, rfl, by rw [size_setCell]; exact Nat.le_refl _, fun k _ hk => Below.heap_setCell _ _ _ _ (by simpa using hk)⟩

theorem lt_of_blk {w : World} {g : Nat} {o : Obj} (h : w.heap[g]? = some o) : g < w.heap.size := (Array.getElem?_eq_some_iff.1 h).1

theorem own_keep {w w' : World} {e : TypeId} {size n : Nat} {v : Value} {xs : List Value} (h : w.ownsRow 0 e size v n xs) (hk : ∀ g, v.ownBlock = some g → w'.heap[g]? = w.heap[g]?) : w'.ownsRow 0 e size v n xs := by
  refine ⟨h.1, ?_⟩
  rcases h.2 with h1 | ⟨g, cap, cur, h1, h2, h3, h4⟩
  · exact .inl h1
  · exact .inr ⟨g, cap, cur, h1, h2, (hk g (by rw [h1]; rfl)).trans h3, h4⟩
theorem own_lt {w : World} {e : TypeId} {size n : Nat} {v : Value} {xs : List Value} (h : w.ownsRow 0 e size v n xs) (g : Nat) (hg : v.ownBlock = some g) : g < w.heap.size := by
  rcases h.2 with ⟨h1, _⟩ | ⟨g', cap, cur, h1, h2, h3, h4⟩
  · rw [h1] at hg; cases hg
  · rw [h1] at hg
    cases hg
    exact lt_of_blk h3

section
variable {w w' : World} {gm n : Nat} {v : Value} {H : List Rn} {V : Nat → Int}

theorem Rm.lt (h : Rm w gm n v H V) : ∀ b ∈ blks gm v H, b < w.heap.size := by
  intro b hb
  simp only [blks, List.mem_cons, List.mem_append, Option.mem_toList, List.mem_map] at hb
  rcases hb with rfl | hb | ⟨x, hx, rfl⟩
  · exact lt_of_blk h.st
  · exact own_lt h.own b hb
  · exact lt_of_blk (h.wd x hx)
/-- a model whose blocks stay stays -/
theorem Rm.keep (h : Rm w gm n v H V) (hk : ∀ b ∈ blks gm v H, w'.heap[b]? = w.heap[b]?) : Rm w' gm n v H V :=
  { h with
    st := (hk gm (by simp [blks])).trans h.st
    own := own_keep h.own (fun g hg => hk g (by simp [blks, hg]))
    wd := fun x hx => (hk x.b (by simp only [blks, List.mem_cons, List.mem_append, List.mem_map]; exact .inr (.inr ⟨x, hx, rfl⟩))).trans (h.wd x hx) }
theorem Rm.below (h : Rm w gm n v H V) (hb : Below w.heap.size w w') : Rm w' gm n v H V := h.keep fun b hb' => hb.block b (h.lt b hb')
theorem Rm.other {S : List Nat} (h : Rm w gm n v H V) (hS : ∀ b ∈ blks gm v H, b ∉ S) (e : Ef S w w') : Rm w' gm n v H V := h.keep fun b hb => e.blk b (h.lt b hb) (hS b hb)
theorem Rm.congr (h : Rm w gm n v H V) {V' : Nat → Int} (hV : ∀ x ∈ H, ∀ i, 16 * x.f ≤ i → i < 16 * (x.f + x.c) → V' i = V i) : Rm w gm n v H V' :=
  have e : ∀ x ∈ H, wv V x = wv V' x := fun x hx => by
    unfold wv
    congr 1
    apply List.map_congr_left
    intro i hi
    rw [hV x hx (16 * x.f + i) (by omega) (by have := List.mem_range.1 hi; omega)]
  { h with wd := fun x hx => (e x hx) ▸ h.wd x hx }

theorem Rm.shareC (h : Rm w gm n v H V) : w.cell? ⟨gm, 0, none⟩ = some (.int .i64 n) := by simp [World.cell?, h.st]
theorem Rm.runsC (h : Rm w gm n v H V) : w.cell? ⟨gm, 1, none⟩ = some v := by simp [World.cell?, h.st]
def rat (H : List Rn) (i : Nat) : Rn := H.getD i ⟨0, 0, 0⟩
theorem rat_at (H : List Rn) (i : Nat) (h : i < H.length) : H[i]? = some (rat H i) := by simp [rat, List.getD, h]
theorem Rm.slice (h : Rm w gm n v H V) : ∃ a cap, v = .slice a H.length cap ∧ H.length ≤ cap ∧ cap ≤ maxLen ∧ RunsAt w a H.length (rat H) := by
  rcases h.own.2 with ⟨h1, h2⟩ | ⟨g, cap, cur, h1, _, h3, h4, h5, h6, h7⟩
  · exact ⟨none, 0, by rw [h1, h2], by omega, by unfold maxLen; omega, fun i hi => by omega⟩
  · refine ⟨_, cap, h1, h4, h5, fun i hi => ?_⟩
    have hx := rat_at H i hi
    have hm : rat H i ∈ H := List.mem_of_getElem? hx
    have hb := h.hb _ hm
    have hn := h.small
    have hc : ∀ j u, (rv H)[j]? = some u → w.cell? ⟨g, j, none⟩ = some u := fun j u hu => by
      have hj : j < H.length * 3 := by rw [← rv_len]; exact (List.getElem?_eq_some_iff.1 hu).1
      rw [← h7, List.getElem?_take_of_lt hj, Array.getElem?_toList] at hu
      simp only [World.cell?, h3]
      exact hu
    obtain ⟨r0, r1, r2⟩ := rv_at H i _ hx
    exact ⟨⟨by omega, by omega⟩, g, rfl, lt_of_blk h3, hc _ _ r0, hc _ _ r1, hc _ _ r2⟩
end

end Go.Proofs.YtndhgdjcbegjdaaDoor.Ck
