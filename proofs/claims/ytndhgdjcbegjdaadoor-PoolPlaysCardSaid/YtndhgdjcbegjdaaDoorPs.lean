/- The statement's state: a pool, its arenas' list, and a model for each; no Go text is walked here. -/
import Derived.Test.YtndhgdjcbegjdaaDoorVp
namespace Go.Proofs.YtndhgdjcbegjdaaDoor.Ck
open Go.RowKit

/-- the numbers of the state -/
structure Cn where
  pages : Nat
  s : List Int
  B : Nat
  U : Nat
  pp : Nat
  pb : Nat
  qb : Nat
  rb : Nat → Nat

abbrev Cn.lay (c : Cn) (j : Nat) : Lay := Ck.lay c.qb c.pb c.s c.rb j
def Cn.ptrs (c : Cn) (k : Nat) : List Value := (List.range k).map fun j => (c.lay j).ptr
def mods (gm : Nat → Nat) (k : Nat) : List Value := (List.range k).map fun j => .pointer (some ⟨gm j, 0, none⟩)

theorem PoolIs.blks_ {w w' : World} {B pp pb qb m pages : Nat} {s : List Int} {rb : Nat → Nat} {k : Nat} {R V : Nat → Nat → Int} (h : PoolIs w B pp pb qb m pages s rb k R V) (hz : w.heap.size ≤ w'.heap.size)
    (h1 : w'.heap[pp]? = w.heap[pp]?) (h2 : w'.heap[pb]? = w.heap[pb]?) (h3 : w'.heap[qb]? = w.heap[qb]?) (h4 : ∀ j, j < k → w'.heap[rb j]? = w.heap[rb j]?) : PoolIs w' B pp pb qb m pages s rb k R V :=
  { ph := (World.cell?_of_block (w := w) (a := ⟨pp, 0, none⟩) h1).trans h.ph,
    pa := (World.cell?_of_block (w := w) (a := ⟨pp, 1, none⟩) h1).trans h.pa,
    row := by obtain ⟨g, hrow⟩ := h.row; exact ⟨g, hrow.of_block h3⟩,
    ar := fun i hi => by
      have a := h.ar i hi
      exact { small := a.small, ne1 := a.ne1, ne2 := a.ne2, ne3 := a.ne3,
              pages := (World.cell?_of_block (w := w) (a := ⟨qb, 2 * i, none⟩) h3).trans a.pages,
              runs := (World.cell?_of_block (w := w) (a := ⟨qb, 2 * i + 1, none⟩) h3).trans a.runs,
              run := fun j hj => (World.cell?_of_block (w := w) (a := ⟨rb i, j, none⟩) (h4 i hi)).trans (a.run j hj),
              runF := fun j hj => (World.frozen?_of_block (w := w) (a := ⟨rb i, j, none⟩) (h4 i hi)).trans (a.runF j hj),
              word := fun j hj => (World.cell?_of_block (w := w) (a := ⟨pb, _, none⟩) h2).trans (a.word j hj),
              wordF := fun j hj => (World.frozen?_of_block (w := w) (a := ⟨pb, _, none⟩) h2).trans (a.wordF j hj),
              lt1 := Nat.lt_of_lt_of_le a.lt1 hz, lt2 := Nat.lt_of_lt_of_le a.lt2 hz, lt3 := Nat.lt_of_lt_of_le a.lt3 hz },
    word0 := fun i a b => (World.cell?_of_block (w := w) (a := ⟨pb, i, none⟩) h2).trans (h.word0 i a b),
    wordF := fun i a => (World.frozen?_of_block (w := w) (a := ⟨pb, i, none⟩) h2).trans (h.wordF i a),
    d1 := h.d1, d2 := h.d2, d3 := h.d3,
    rbs := fun j hj => by have := h.rbs j hj; omega,
    rbd := h.rbd, own := h.own, lt := by have := h.lt; omega, le := h.le }

structure PS (w wr : World) (c : Cn) (gl cl gq cq k : Nat) (gm : Nat → Nat) (R V : Nat → Nat → Int) (vv : Nat → Value) (H : Nat → List Rn) : Prop where
  is : PoolIs wr c.B c.pp c.pb c.qb c.s.length c.pages c.s c.rb c.s.length R V
  kl : k ≤ c.s.length
  s8 : c.s.length ≤ 8
  bel : Below w.heap.size w wr
  low : w.heap.size ≤ c.B ∧ c.B ≤ c.U ∧ c.U ≤ wr.heap.size
  up : c.pp < c.U ∧ c.pb < c.U ∧ c.qb < c.U ∧ ∀ j, j < c.s.length → c.rb j < c.U
  rm : ∀ j, j < k → Rm wr (gm j) (sh c.s j) (vv j) (H j) (V j)
  wrs : ∀ j, j < k → WR (sh c.s j) (H j) (R j) (V j)
  fits : ∀ j i, fit (V j i)
  big : ∀ j, j < k → ∀ b ∈ blks (gm j) (vv j) (H j), c.U ≤ b
  dis : ∀ i j, i < k → j < k → i ≠ j → ∀ b ∈ blks (gm i) (vv i) (H i), b ∉ blks (gm j) (vv j) (H j)
  l : OwnV 37 wr c.U gl cl (c.ptrs k)
  q : OwnV 40 wr c.U gq cq (mods gm k)
  lq : gl ≠ gq
  ln : ∀ j, j < k → gl ∉ blks (gm j) (vv j) (H j) ∧ gq ∉ blks (gm j) (vv j) (H j)

section
variable {w wr w' : World} {c : Cn} {gl cl gq cq k : Nat} {gm : Nat → Nat} {R V : Nat → Nat → Int} {vv : Nat → Value} {H : Nat → List Rn}

theorem PS.below (h : PS w wr c gl cl gq cq k gm R V vv H) (hb : Below wr.heap.size wr w') : PS w w' c gl cl gq cq k gm R V vv H :=
  { h with
    is := h.is.grow hb, bel := bel_trans h.bel hb, low := ⟨h.low.1, h.low.2.1, Nat.le_trans h.low.2.2 hb.size⟩,
    rm := fun j hj => (h.rm j hj).below hb, l := h.l.below hb, q := h.q.below hb }

theorem PS.pr (h : PS w wr c gl cl gq cq k gm R V vv H) {j : Nat} (hj : j < k) : Pr wr (c.lay j) (R j) (V j) (gm j) (vv j) (H j) :=
  ⟨h.is.ar j (Nat.lt_of_lt_of_le hj h.kl), h.rm j hj, h.wrs j hj, fun b hb => by
    have h1 := h.big j hj b hb
    have h2 := h.up
    have h3 := h2.2.2.2 j (Nat.lt_of_lt_of_le hj h.kl)
    show b ≠ c.qb ∧ b ≠ c.rb j ∧ b ≠ c.pb
    omega, h.fits j⟩
theorem PS.ed_bel (h : PS w wr c gl cl gq cq k gm R V vv H) {j : Nat} (hj : j < k) (u : Ed (c.lay j) (blks (gm j) (vv j) (H j)) wr w') : Below w.heap.size wr w' := by
  have h2 := h.low
  have h3 := h.is.own
  have h4 := (h.is.rbs j (Nat.lt_of_lt_of_le hj h.kl)).1
  refine u.bel (B := w.heap.size) ?_ ?_ (fun b hb => ?_) ?_
  · show w.heap.size ≤ c.rb j
    omega
  · show w.heap.size ≤ c.pb
    omega
  · have := h.big j hj b hb
    omega
  · omega

/-- a call on an arena and its model -/
theorem PS.kept (h : PS w wr c gl cl gq cq k gm R V vv H) {j : Nat} (hj : j < k) (hK : Kept (c.lay j) (gm j) (blks (gm j) (vv j) (H j)) wr w') :
    ∃ R' V' vv' H', PS w w' c gl cl gq cq k gm R' V' vv' H' := by
  obtain ⟨⟨R1, V1, v1, H1, P1, hB⟩, u⟩ := hK
  have hjs := Nat.lt_of_lt_of_le hj h.kl
  have hbel := h.ed_bel hj u
  have hS : c.pp ∉ blks (gm j) (vv j) (H j) ∧ c.pb ∉ blks (gm j) (vv j) (H j) ∧ c.qb ∉ blks (gm j) (vv j) (H j) ∧ ∀ i, i < c.s.length → c.rb i ∉ blks (gm j) (vv j) (H j) := by
    have hu := h.up
    refine ⟨fun hb => ?_, fun hb => ?_, fun hb => ?_, fun i hi hb => ?_⟩
    · have := h.big j hj _ hb; omega
    · have := h.big j hj _ hb; omega
    · have := h.big j hj _ hb; omega
    · have := h.big j hj _ hb; have := hu.2.2.2 i hi; omega
  have hne : ∀ i, i < k → i ≠ j → ∀ b ∈ blks (gm i) (vv i) (H i), b ≠ (c.lay j).rb ∧ b ≠ (c.lay j).pb ∧ b ∉ blks (gm j) (vv j) (H j) := fun i hi hij b hb => by
    have h1 := h.big i hi b hb
    have h2 := h.up
    have h3 := h2.2.2.2 j hjs
    refine ⟨?_, ?_, h.dis i j hi hj hij b hb⟩
    · show b ≠ c.rb j
      omega
    · show b ≠ c.pb
      omega
  have hlow := h.low
  have hnew : ∀ b ∈ blks (gm j) v1 H1, b ∈ blks (gm j) (vv j) (H j) ∨ wr.heap.size ≤ b := hB
  have h3 := h.up.2.2.2 j hjs
  have h4 := h.up
  have hl := h.l.ge
  have hq := h.q.ge
  have hl2 := h.l.lt
  have hq2 := h.q.lt
  refine ⟨fun i => if i = j then R1 else R i, fun i => if i = j then V1 else V i, fun i => if i = j then v1 else vv i, fun i => if i = j then H1 else H i, {
    is := h.is.ed hjs P1.ar hS u, kl := h.kl, s8 := h.s8, bel := h.bel.trans hbel, low := ⟨hlow.1, hlow.2.1, Nat.le_trans hlow.2.2 u.size⟩, up := h.up,
    rm := fun i hi => ?_, wrs := fun i hi => ?_, fits := fun i n => ?_, big := fun i hi b hb => ?_, dis := fun i i' hi hi' hii b hb => ?_,
    l := h.l.ed (L := c.lay j) u (by show gl ≠ c.rb j; omega) (by show gl ≠ c.pb; omega) (h.ln j hj).1, q := h.q.ed (L := c.lay j) u (by show gq ≠ c.rb j; omega) (by show gq ≠ c.pb; omega) (h.ln j hj).2, lq := h.lq, ln := fun i hi => ?_ }⟩
  · by_cases e : i = j
    · subst e
      simp only [if_pos]
      exact P1.rm
    · simp only [if_neg e]
      exact (h.rm i hi).ed (hne i hi e) u
  · by_cases e : i = j
    · subst e
      simp only [if_pos]
      exact P1.wr
    · simp only [if_neg e]
      exact h.wrs i hi
  · by_cases e : i = j
    · simp only [if_pos e]
      exact P1.fits n
    · simp only [if_neg e]
      exact h.fits i n
  · by_cases e : i = j
    · subst e
      simp only [if_pos] at hb
      rcases hnew b hb with h1 | h1
      · exact h.big i hi b h1
      · omega
    · simp only [if_neg e] at hb
      exact h.big i hi b hb
  · by_cases e : i = j
    · subst e
      have e2 : ¬ i' = i := Ne.symm hii
      simp only [if_pos] at hb
      simp only [if_neg e2]
      rcases hnew b hb with h1 | h1
      · exact h.dis i i' hi hi' hii b h1
      · exact fun hb' => by have := (h.rm i' hi').lt b hb'; omega
    · simp only [if_neg e] at hb
      by_cases e2 : i' = j
      · subst e2
        simp only [if_pos]
        intro hb'
        rcases hnew b hb' with h1 | h1
        · exact h.dis i i' hi hi' hii b hb h1
        · have := (h.rm i hi).lt b hb
          omega
      · simp only [if_neg e2]
        exact h.dis i i' hi hi' hii b hb
  · by_cases e : i = j
    · subst e
      simp only [if_pos]
      refine ⟨fun hb => ?_, fun hb => ?_⟩
      · rcases hnew _ hb with h1 | h1
        · exact (h.ln i hi).1 h1
        · omega
      · rcases hnew _ hb with h1 | h1
        · exact (h.ln i hi).2 h1
        · omega
    · simp only [if_neg e]
      exact h.ln i hi

theorem ptrs_len (c : Cn) (k : Nat) : (c.ptrs k).length = k := by simp [Cn.ptrs]
theorem mods_len (gm : Nat → Nat) (k : Nat) : (mods gm k).length = k := by simp [mods]
theorem ptrs_succ (c : Cn) (k : Nat) : c.ptrs (k + 1) = c.ptrs k ++ [(c.lay k).ptr] := by simp [Cn.ptrs, List.range_succ]
theorem mods_succ (gm : Nat → Nat) (k : Nat) : mods gm (k + 1) = mods gm k ++ [.pointer (some ⟨gm k, 0, none⟩)] := by simp [mods, List.range_succ]
theorem mods_congr {gm gm' : Nat → Nat} {k : Nat} (h : ∀ j, j < k → gm j = gm' j) : mods gm k = mods gm' k := by
  unfold mods
  apply List.map_congr_left
  intro j hj
  rw [h j (List.mem_range.1 hj)]
theorem PS.lcell (h : PS w wr c gl cl gq cq k gm R V vv H) {j : Nat} (hj : j < k) : wr.cell? ⟨gl, j, none⟩ = some (c.lay j).ptr := h.l.cell j (c.lay j).ptr (by simp [Cn.ptrs, hj])
theorem PS.qcell (h : PS w wr c gl cl gq cq k gm R V vv H) {j : Nat} (hj : j < k) : wr.cell? ⟨gq, j, none⟩ = some (.pointer (some ⟨gm j, 0, none⟩)) := h.q.cell j (.pointer (some ⟨gm j, 0, none⟩)) (by simp [mods, hj])
end

end Go.Proofs.YtndhgdjcbegjdaaDoor.Ck
