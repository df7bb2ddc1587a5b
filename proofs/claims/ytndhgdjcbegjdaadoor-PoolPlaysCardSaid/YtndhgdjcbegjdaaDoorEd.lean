/- What a call on an arena and on its model may turn; no Go text is walked here. -/
import Derived.Test.YtndhgdjcbegjdaaDoorRh
import Derived.Test.YtndhgdjcbegjdaaDoorTwo
namespace Go.Proofs.YtndhgdjcbegjdaaDoor.Ck
open Go.RowKit

/-- nothing turned but the arena L's runs and words, and the blocks S -/
structure Ed (L : Lay) (S : List Nat) (w w' : World) : Prop where
  os : w'.os = w.os
  tape : w'.tape = w.tape
  output : w'.output = w.output
  size : w.heap.size ≤ w'.heap.size
  cell : ∀ x : Addr, x.block < w.heap.size → x.block ≠ L.rb → x.block ∉ S → ¬ (x.block = L.pb ∧ L.po ≤ x.off ∧ x.off < L.po + 16 * L.n) → w'.cell? x = w.cell? x
  froz : ∀ x : Addr, x.block < w.heap.size → x.block ∉ S → w'.frozen? x = w.frozen? x
  blk : ∀ b, b < w.heap.size → b ≠ L.rb → b ≠ L.pb → b ∉ S → w'.heap[b]? = w.heap[b]?

theorem Ed.of_bel {L : Lay} {S : List Nat} {w w' : World} (h : Below w.heap.size w w') : Ed L S w w' :=
  ⟨h.os, h.tape, h.output, h.size, fun _ hx _ _ _ => h.cell hx, fun _ hx _ => h.frozen hx, fun b hb _ _ _ => h.block b hb⟩
theorem Ed.of_ef {L : Lay} {S : List Nat} {w w' : World} (h : Ef S w w') : Ed L S w w' :=
  ⟨h.os, h.tape, h.output, h.size, fun x hx _ hs _ => World.cell?_of_block (w := w) (h.blk x.block hx hs), fun x hx hs => World.frozen?_of_block (w := w) (h.blk x.block hx hs), fun b hb _ _ hs => h.blk b hb hs⟩
theorem Ed.of_upd {L : Lay} {S : List Nat} {w w' : World} (u : Upd L w w') : Ed L S w w' :=
  have b := u.bel 0 (Nat.zero_le _) (Nat.zero_le _)
  ⟨b.os, b.tape, b.output, by rw [u.size]; exact Nat.le_refl _, fun x _ h1 _ h2 => u.cell x h1 h2, fun x _ _ => u.froz x, fun b _ h1 h2 _ => u.blk b h1 h2⟩
theorem Ed.trans {L : Lay} {S : List Nat} {a b c : World} (h : Ed L S a b) (k : Ed L S b c) : Ed L S a c :=
  ⟨k.os.trans h.os, k.tape.trans h.tape, k.output.trans h.output, Nat.le_trans h.size k.size,
    fun x hx h1 h2 h3 => (k.cell x (Nat.lt_of_lt_of_le hx h.size) h1 h2 h3).trans (h.cell x hx h1 h2 h3),
    fun x hx h1 => (k.froz x (Nat.lt_of_lt_of_le hx h.size) h1).trans (h.froz x hx h1),
    fun x hx h1 h2 h3 => (k.blk x (Nat.lt_of_lt_of_le hx h.size) h1 h2 h3).trans (h.blk x hx h1 h2 h3)⟩
theorem Ed.bel {L : Lay} {S : List Nat} {w w' : World} (h : Ed L S w w') {B : Nat} (h1 : B ≤ L.rb) (h2 : B ≤ L.pb) (hS : ∀ b ∈ S, B ≤ b) (hB : B ≤ w.heap.size) : Below B w w' :=
  ⟨h.os, h.tape, h.output, h.size, fun k hk => h.blk k (by omega) (by omega) (by omega) (fun hs => by have := hS k hs; omega)⟩
/-- another arena stays -/
theorem Ar.ed {w w' : World} {L M : Lay} {S : List Nat} {R V : Nat → Int} (h : Ar w M R V) (ha : Apart L M) (hS : M.ab ∉ S ∧ M.rb ∉ S ∧ M.pb ∉ S) (u : Ed L S w w') : Ar w' M R V :=
  { small := h.small, ne1 := h.ne1, ne2 := h.ne2, ne3 := h.ne3,
    pages := (u.cell _ h.lt1 ha.r1 hS.1 (fun h => ha.p1 h.1)).trans h.pages,
    runs := (u.cell _ h.lt1 ha.r1 hS.1 (fun h => ha.p1 h.1)).trans h.runs,
    run := fun i hi => (u.cell _ h.lt2 ha.r2 hS.2.1 (fun h => ha.p2 h.1)).trans (h.run i hi),
    runF := fun i hi => (u.froz _ h.lt2 hS.2.1).trans (h.runF i hi),
    word := fun i hi => (u.cell _ h.lt3 ha.r3 hS.2.2 (fun h => by have := ha.p3 h.1; simp at h; omega)).trans (h.word i hi),
    wordF := fun i hi => (u.froz _ h.lt3 hS.2.2).trans (h.wordF i hi),
    lt1 := Nat.lt_of_lt_of_le h.lt1 u.size, lt2 := Nat.lt_of_lt_of_le h.lt2 u.size, lt3 := Nat.lt_of_lt_of_le h.lt3 u.size }
/-- another model stays -/
theorem Rm.ed {w w' : World} {L : Lay} {S : List Nat} {gm n : Nat} {v : Value} {H : List Rn} {V : Nat → Int} (h : Rm w gm n v H V) (hL : ∀ b ∈ blks gm v H, b ≠ L.rb ∧ b ≠ L.pb ∧ b ∉ S) (u : Ed L S w w') : Rm w' gm n v H V :=
  h.keep fun b hb => u.blk b (h.lt b hb) (hL b hb).1 (hL b hb).2.1 (hL b hb).2.2

/-- an arena and its model, alike -/
structure Pr (w : World) (L : Lay) (R V : Nat → Int) (gm : Nat) (v : Value) (H : List Rn) : Prop where
  ar : Ar w L R V
  rm : Rm w gm L.n v H V
  wr : WR L.n H R V
  sep : ∀ b ∈ blks gm v H, b ≠ L.ab ∧ b ≠ L.rb ∧ b ≠ L.pb
  fits : ∀ i, fit (V i)

end Go.Proofs.YtndhgdjcbegjdaaDoor.Ck
