/- How an arena lies in memory: its two slices, its pages' words and its runs; no Go text is walked here. -/
import Derived.Test.YtndhgdjcbegjdaaDoorBase
import Derived.Lib.SliceRun
namespace Go.Proofs.YtndhgdjcbegjdaaDoor.Ck
open Go.RowKit

theorem hide {p : Prop} (h : p) : Hid p := h

/-- an arena's struct lies in block ab from ao on, its words in block pb from po on, its runs in block rb; it has n pages -/
structure Lay where
  ab : Nat
  ao : Nat
  pb : Nat
  po : Nat
  rb : Nat
  n : Nat

abbrev Lay.ptr (L : Lay) : Value := .pointer (some ⟨L.ab, L.ao, none⟩)

structure Ar (w : World) (L : Lay) (R V : Nat → Int) : Prop where
  small : L.n ≤ 256
  pages : w.cell? ⟨L.ab, L.ao, none⟩ = some (.slice (some ⟨L.pb, L.po, none⟩) L.n L.n)
  runs : w.cell? ⟨L.ab, L.ao + 1, none⟩ = some (.slice (some ⟨L.rb, 0, none⟩) L.n L.n)
  run : ∀ i, i < L.n → w.cell? ⟨L.rb, i, none⟩ = some (.int .i64 (R i))
  runF : ∀ i, i < L.n → w.frozen? ⟨L.rb, i, none⟩ = false
  word : ∀ i, i < 16 * L.n → w.cell? ⟨L.pb, L.po + i, none⟩ = some (.int .i64 (V i))
  wordF : ∀ i, i < 16 * L.n → w.frozen? ⟨L.pb, L.po + i, none⟩ = false
  ne1 : L.ab ≠ L.rb
  ne2 : L.ab ≠ L.pb
  ne3 : L.rb ≠ L.pb
  lt1 : L.ab < w.heap.size
  lt2 : L.rb < w.heap.size
  lt3 : L.pb < w.heap.size

/-- nothing but the arena's own runs and words turned -/
structure Upd (L : Lay) (w w' : World) : Prop where
  cell : ∀ x : Addr, x.block ≠ L.rb → ¬ (x.block = L.pb ∧ L.po ≤ x.off ∧ x.off < L.po + 16 * L.n) → w'.cell? x = w.cell? x
  froz : ∀ x : Addr, w'.frozen? x = w.frozen? x
  bel : ∀ B, B ≤ L.rb → B ≤ L.pb → Below B w w'
  size : w'.heap.size = w.heap.size
  blk : ∀ b, b ≠ L.rb → b ≠ L.pb → w'.heap[b]? = w.heap[b]?

theorem Upd.refl (L : Lay) (w : World) : Upd L w w := ⟨fun _ _ _ => rfl, fun _ => rfl, fun _ _ _ => Below.refl _ _, rfl, fun _ _ _ => rfl⟩
theorem Upd.trans {L : Lay} {a b c : World} (h : Upd L a b) (k : Upd L b c) : Upd L a c :=
  ⟨fun x h1 h2 => (k.cell x h1 h2).trans (h.cell x h1 h2), fun x => (k.froz x).trans (h.froz x), fun B h1 h2 => (h.bel B h1 h2).trans (k.bel B h1 h2), k.size.trans h.size, fun b h1 h2 => (k.blk b h1 h2).trans (h.blk b h1 h2)⟩

theorem size_setCell (w : World) (a : Addr) (v : Value) : (w.setCell a v).heap.size = w.heap.size := by
  simp only [World.setCell]
  split <;> simp

theorem Ar.congr {w : World} {L : Lay} {R V R' V' : Nat → Int} (h : Ar w L R V) (h1 : ∀ i, i < L.n → R i = R' i) (h2 : ∀ i, i < 16 * L.n → V i = V' i) : Ar w L R' V' :=
  { h with run := fun i hi => by rw [← h1 i hi]; exact h.run i hi, word := fun i hi => by rw [← h2 i hi]; exact h.word i hi }

theorem Ar.below {w w' : World} {L : Lay} {R V : Nat → Int} (h : Ar w L R V) (hb : Below w.heap.size w w') : Ar w' L R V :=
  { small := h.small, ne1 := h.ne1, ne2 := h.ne2, ne3 := h.ne3,
    pages := (hb.cell (p := ⟨L.ab, L.ao, none⟩) h.lt1).trans h.pages,
    runs := (hb.cell (p := ⟨L.ab, L.ao + 1, none⟩) h.lt1).trans h.runs,
    run := fun i hi => (hb.cell (p := ⟨L.rb, i, none⟩) h.lt2).trans (h.run i hi),
    runF := fun i hi => (hb.frozen (p := ⟨L.rb, i, none⟩) h.lt2).trans (h.runF i hi),
    word := fun i hi => (hb.cell (p := ⟨L.pb, L.po + i, none⟩) h.lt3).trans (h.word i hi),
    wordF := fun i hi => (hb.frozen (p := ⟨L.pb, L.po + i, none⟩) h.lt3).trans (h.wordF i hi),
    lt1 := Nat.lt_of_lt_of_le h.lt1 hb.size, lt2 := Nat.lt_of_lt_of_le h.lt2 hb.size, lt3 := Nat.lt_of_lt_of_le h.lt3 hb.size }

theorem Ar.belowB {w w' : World} {L : Lay} {R V : Nat → Int} (h : Ar w L R V) {B : Nat} (hb : Below B w w') (h1 : L.ab < B) (h2 : L.rb < B) (h3 : L.pb < B) : Ar w' L R V :=
  { small := h.small, ne1 := h.ne1, ne2 := h.ne2, ne3 := h.ne3,
    pages := (hb.cell (p := ⟨L.ab, L.ao, none⟩) h1).trans h.pages,
    runs := (hb.cell (p := ⟨L.ab, L.ao + 1, none⟩) h1).trans h.runs,
    run := fun i hi => (hb.cell (p := ⟨L.rb, i, none⟩) h2).trans (h.run i hi),
    runF := fun i hi => (hb.frozen (p := ⟨L.rb, i, none⟩) h2).trans (h.runF i hi),
    word := fun i hi => (hb.cell (p := ⟨L.pb, L.po + i, none⟩) h3).trans (h.word i hi),
    wordF := fun i hi => (hb.frozen (p := ⟨L.pb, L.po + i, none⟩) h3).trans (h.wordF i hi),
    lt1 := Nat.lt_of_lt_of_le h.lt1 hb.size, lt2 := Nat.lt_of_lt_of_le h.lt2 hb.size, lt3 := Nat.lt_of_lt_of_le h.lt3 hb.size }

/-- one arena's calls leave another one, that shares nothing with it -/
structure Apart (L M : Lay) : Prop where
  r1 : M.ab ≠ L.rb
  r2 : M.rb ≠ L.rb
  r3 : M.pb ≠ L.rb
  p1 : M.ab ≠ L.pb
  p2 : M.rb ≠ L.pb
  p3 : M.pb = L.pb → M.po + 16 * M.n ≤ L.po ∨ L.po + 16 * L.n ≤ M.po ∨ M.n = 0 ∨ L.n = 0

theorem Ar.other {w w' : World} {L M : Lay} {R V : Nat → Int} (h : Ar w M R V) (ha : Apart L M) (u : Upd L w w') : Ar w' M R V :=
  { small := h.small, ne1 := h.ne1, ne2 := h.ne2, ne3 := h.ne3,
    pages := (u.cell _ ha.r1 (fun h => ha.p1 h.1)).trans h.pages,
    runs := (u.cell _ ha.r1 (fun h => ha.p1 h.1)).trans h.runs,
    run := fun i hi => (u.cell _ ha.r2 (fun h => ha.p2 h.1)).trans (h.run i hi),
    runF := fun i hi => (u.froz _).trans (h.runF i hi),
    word := fun i hi => (u.cell _ ha.r3 (fun h => by have := ha.p3 h.1; simp at h; omega)).trans (h.word i hi),
    wordF := fun i hi => (u.froz _).trans (h.wordF i hi),
    lt1 := u.size.symm ▸ h.lt1, lt2 := u.size.symm ▸ h.lt2, lt3 := u.size.symm ▸ h.lt3 }

/-- a page's run is set -/
theorem Ar.setRun {w : World} {L : Lay} {R V : Nat → Int} (h : Ar w L R V) (i : Nat) (hi : i < L.n) (z : Int) :
    Ar (w.setCell ⟨L.rb, i, none⟩ (.int .i64 z)) L (fun k => if k = i then z else R k) V ∧ Upd L w (w.setCell ⟨L.rb, i, none⟩ (.int .i64 z)) := by
  have hd := h.run i hi
  have hsz := size_setCell w ⟨L.rb, i, none⟩ (.int .i64 z)
  have oth : ∀ x : Addr, x ≠ ⟨L.rb, i, none⟩ → (w.setCell ⟨L.rb, i, none⟩ (.int .i64 z)).cell? x = w.cell? x := fun x hx => by rw [World.cell?_setCell_other]; exact Ne.symm hx
  refine ⟨{ h with
    pages := (oth _ (fun e => h.ne1 (congrArg Addr.block e))).trans h.pages,
    runs := (oth _ (fun e => h.ne1 (congrArg Addr.block e))).trans h.runs,
    run := fun k hk => ?_,
    runF := fun k hk => by rw [World.frozen?_setCell]; exact h.runF k hk,
    word := fun k hk => (oth _ (fun e => h.ne3 (congrArg Addr.block e).symm)).trans (h.word k hk),
    wordF := fun k hk => by rw [World.frozen?_setCell]; exact h.wordF k hk,
    lt1 := hsz.symm ▸ h.lt1, lt2 := hsz.symm ▸ h.lt2, lt3 := hsz.symm ▸ h.lt3 }, ?_⟩
  · by_cases e : k = i
    · subst e
      rw [if_pos rfl]
      exact World.cell?_setCell_same' _ _ _ (by rw [hd]; rfl)
    · rw [if_neg e]
      exact (oth _ (fun e' => e (by simpa using congrArg Addr.off e'))).trans (h.run k hk)
  · exact ⟨fun x h1 _ => oth x (fun e => h1 (congrArg Addr.block e)), fun x => World.frozen?_setCell _ _ _ _, fun B h1 _ => (Below.refl _ _).setCell (p := ⟨L.rb, i, none⟩) h1 _, hsz, fun b h1 _ => Below.heap_setCell _ _ _ _ h1⟩

/-- a word is set -/
theorem Ar.setWord {w : World} {L : Lay} {R V : Nat → Int} (h : Ar w L R V) (i : Nat) (hi : i < 16 * L.n) (z : Int) :
    Ar (w.setCell ⟨L.pb, L.po + i, none⟩ (.int .i64 z)) L R (fun k => if k = i then z else V k) ∧ Upd L w (w.setCell ⟨L.pb, L.po + i, none⟩ (.int .i64 z)) := by
  have hd := h.word i hi
  have hsz := size_setCell w ⟨L.pb, L.po + i, none⟩ (.int .i64 z)
  have oth : ∀ x : Addr, x ≠ ⟨L.pb, L.po + i, none⟩ → (w.setCell ⟨L.pb, L.po + i, none⟩ (.int .i64 z)).cell? x = w.cell? x := fun x hx => by rw [World.cell?_setCell_other]; exact Ne.symm hx
  refine ⟨{ h with
    pages := (oth _ (fun e => h.ne2 (congrArg Addr.block e))).trans h.pages,
    runs := (oth _ (fun e => h.ne2 (congrArg Addr.block e))).trans h.runs,
    run := fun k hk => (oth _ (fun e => h.ne3 (congrArg Addr.block e))).trans (h.run k hk),
    runF := fun k hk => by rw [World.frozen?_setCell]; exact h.runF k hk,
    word := fun k hk => ?_,
    wordF := fun k hk => by rw [World.frozen?_setCell]; exact h.wordF k hk,
    lt1 := hsz.symm ▸ h.lt1, lt2 := hsz.symm ▸ h.lt2, lt3 := hsz.symm ▸ h.lt3 }, ?_⟩
  · by_cases e : k = i
    · subst e
      rw [if_pos rfl]
      exact World.cell?_setCell_same' _ _ _ (by rw [hd]; rfl)
    · rw [if_neg e]
      exact (oth _ (fun e' => e (by simpa using congrArg Addr.off e'))).trans (h.word k hk)
  · exact ⟨fun x _ h2 => oth x (fun e => h2 ⟨congrArg Addr.block e, by have := congrArg Addr.off e; simp at this; omega⟩), fun x => World.frozen?_setCell _ _ _ _, fun B _ h2 => (Below.refl _ _).setCell (p := ⟨L.pb, L.po + i, none⟩) h2 _, hsz, fun b _ h2 => Below.heap_setCell _ _ _ _ h2⟩

end Go.Proofs.YtndhgdjcbegjdaaDoor.Ck
