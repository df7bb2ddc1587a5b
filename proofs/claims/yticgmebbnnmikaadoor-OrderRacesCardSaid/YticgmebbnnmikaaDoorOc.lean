/- Package order's walk as plain functions; no Go text is walked here. -/
import Derived.Test.YticgmebbnnmikaaDoorOb
namespace Go.Proofs.YticgmebbnnmikaaDoor.Ck
open Go.RowKit

/-- an event -/
structure Ev where
  g : Int
  k : Int
  o : Int
  a : Int
def zE : Ev := ⟨0, 0, 0, 0⟩
def evV (e : Ev) : Value := .agg #[.int .i64 e.g, .int .i64 e.k, .int .i64 e.o, .int .i64 e.a]
def evC (e : Ev) : List Value := [.int .i64 e.g, .int .i64 e.k, .int .i64 e.o, .int .i64 e.a]
/-- a slice of events -/
def SlE (w : World) (v : Value) (T : List Ev) : Prop := ∃ a cap, v = .slice a T.length cap ∧ T.length ≤ cap ∧ cap ≤ maxLen ∧
    ∀ i, i < T.length → ∃ b off, a = some ⟨b, off, none⟩ ∧ b < w.heap.size ∧ w.cell? ⟨b, off + i * 4, none⟩ = some (.int .i64 (T.getD i zE).g) ∧ w.cell? ⟨b, off + i * 4 + 1, none⟩ = some (.int .i64 (T.getD i zE).k) ∧ w.cell? ⟨b, off + i * 4 + 2, none⟩ = some (.int .i64 (T.getD i zE).o) ∧ w.cell? ⟨b, off + i * 4 + 3, none⟩ = some (.int .i64 (T.getD i zE).a)
theorem SlE.bel {w w' : World} {v : Value} {l : List Ev} (h : SlE w v l) (hb : Below w.heap.size w w') : SlE w' v l := by
  obtain ⟨a, cap, hv, h1, h2, h3⟩ := h
  refine ⟨a, cap, hv, h1, h2, fun i hi => ?_⟩
  obtain ⟨b, off, ha, hlt, hc, hd, he, hf⟩ := h3 i hi
  exact ⟨b, off, ha, Nat.lt_of_lt_of_le hlt hb.size, (hb.cell (p := ⟨b, _, none⟩) hlt).trans hc, (hb.cell (p := ⟨b, _, none⟩) hlt).trans hd, (hb.cell (p := ⟨b, _, none⟩) hlt).trans he, (hb.cell (p := ⟨b, _, none⟩) hlt).trans hf⟩
theorem SlE.nilS (w : World) : SlE w (.slice none 0 0) [] := ⟨none, 0, rfl, Nat.le_refl _, Nat.zero_le _, fun _ h => absurd h (Nat.not_lt_zero _)⟩
theorem SlE.form {w : World} {v : Value} {l : List Ev} (h : SlE w v l) : ∃ a c, v = .slice a l.length c ∧ l.length ≤ c ∧ c ≤ maxLen := by
  obtain ⟨a, c, e, h1, h2, _⟩ := h
  exact ⟨a, c, e, h1, h2⟩
theorem SlE.at {w : World} {a : Option Addr} {n c : Nat} {l : List Ev} (h : SlE w (.slice a n c) l) (i : Nat) (hi : i < l.length) : ∃ b off, a = some ⟨b, off, none⟩ ∧ b < w.heap.size ∧ w.cell? ⟨b, off + i * 4, none⟩ = some (.int .i64 (l.getD i zE).g) ∧ w.cell? ⟨b, off + i * 4 + 1, none⟩ = some (.int .i64 (l.getD i zE).k) ∧ w.cell? ⟨b, off + i * 4 + 2, none⟩ = some (.int .i64 (l.getD i zE).o) ∧ w.cell? ⟨b, off + i * 4 + 3, none⟩ = some (.int .i64 (l.getD i zE).a) := by
  obtain ⟨a', c', e, _, _, h3⟩ := h
  injection e with e1 _ _
  obtain ⟨b, off, ha, r⟩ := h3 i hi
  exact ⟨b, off, by rw [e1]; exact ha, r⟩
/-- is an event in form? -/
def evB (e : Ev) : Bool := (decide (0 ≤ e.g) && decide (e.g < 8)) && (decide (1 ≤ e.k) && decide (e.k ≤ 12)) && (!(e.k == 10) || (decide (0 ≤ e.o) && decide (e.o < 8)))
def EvW (e : Ev) : Prop := wfI e.g ∧ wfI e.k ∧ wfI e.o ∧ wfI e.a
theorem evB_out {e : Ev} (h : evB e = true) : 0 ≤ e.g ∧ e.g < 8 ∧ 1 ≤ e.k ∧ e.k ≤ 12 ∧ (e.k = 10 → 0 ≤ e.o ∧ e.o < 8) := by
  unfold evB at h
  simp only [Bool.and_eq_true, Bool.or_eq_true, Bool.not_eq_true', decide_eq_true_eq, beq_eq_false_iff_ne] at h
  obtain ⟨⟨⟨h1, h2⟩, h3, h4⟩, h5⟩ := h
  exact ⟨h1, h2, h3, h4, fun e => h5.resolve_left (fun h => h e)⟩
/-- the walk's state -/
structure Wk where
  gos : Nat → Sn
  mu : Int → Sn
  at_ : Int → Sn
  ss : Int → List Int
  rs : Int → List Int
  past : List Sn
def wk0 : Wk := ⟨fun _ => sn0, fun _ => sn0, fun _ => sn0, fun _ => [], fun _ => [], []⟩
def upd {α : Type} (f : Nat → α) (g : Nat) (x : α) : Nat → α := fun i => if i = g then x else f i
def roomM (R : List Int) (o : Int) : Int := if o < 0 ∨ (R.length : Int) ≤ o then 0 else max (R.getD o.toNat 0) 0
def pastAt (W : Wk) (k : Int) : Sn := W.past.getD k.toNat sn0
def learnS (R : List Int) (W : Wk) (s : Sn) (o : Int) : Sn :=
  if roomM R o = 0 then s else
  if 0 ≤ ((W.ss o).length : Int) - roomM R o ∧ ((W.ss o).length : Int) - roomM R o < (W.rs o).length then jn s (pastAt W ((W.rs o).getD (((W.ss o).length : Int) - roomM R o).toNat 0)) else s
def learnR (W : Wk) (s : Sn) (o : Int) : Sn := if (W.rs o).length < (W.ss o).length then jn s (pastAt W ((W.ss o).getD (W.rs o).length 0)) else s
def learnM (R : List Int) (W : Wk) (s : Sn) (e : Ev) : Sn :=
  if e.k = 3 then jn s (W.mu e.o) else
  if e.k = 7 ∨ e.k = 8 ∨ e.k = 9 then jn s (W.at_ e.o) else
  if e.k = 5 then learnS R W s e.o else
  if e.k = 6 then learnR W s e.o else s
def tellQ (T : List Ev) (W : Wk) (o : Int) : Nat := (T.getD ((W.ss o).getD (W.rs o).length 0).toNat zE).g.toNat
def tellR (R : List Int) (T : List Ev) (W : Wk) (m : Sn) (o i : Int) : Wk :=
  { W with gos := if roomM R o = 0 ∧ (W.rs o).length < (W.ss o).length then upd W.gos (tellQ T W o) (jn (W.gos (tellQ T W o)) m) else W.gos, rs := up W.rs o (W.rs o ++ [i]) }
def tellM (R : List Int) (T : List Ev) (W : Wk) (m : Sn) (e : Ev) (i : Int) : Wk :=
  if e.k = 10 then { W with gos := upd W.gos e.o.toNat (jn (W.gos e.o.toNat) m) } else
  if e.k = 4 then { W with mu := up W.mu e.o (jn (W.mu e.o) m) } else
  if e.k = 7 ∨ e.k = 8 ∨ e.k = 9 then { W with at_ := up W.at_ e.o m } else
  if e.k = 5 then { W with ss := up W.ss e.o (W.ss e.o ++ [i]) } else
  if e.k = 6 then tellR R T W m e.o i else W
/-- what the goroutine of the event knows behind it -/
def mineM (R : List Int) (W : Wk) (e : Ev) : Sn := setS (learnM R W (W.gos e.g.toNat) e) e.g.toNat (wrap64 (learnM R W (W.gos e.g.toNat) e e.g.toNat + 1))
def stepM (R : List Int) (T : List Ev) (W : Wk) (e : Ev) (i : Int) : Wk := tellM R T { W with gos := upd W.gos e.g.toNat (mineM R W e), past := W.past ++ [mineM R W e] } (mineM R W e) e i
/-- the walk behind the first n events -/
def walkM (R : List Int) (T : List Ev) : Nat → Wk
  | 0 => wk0
  | n + 1 => stepM R T (walkM R T n) (T.getD n zE) n
/-- what keeps the walk from going wrong -/
structure WkOk (W : Wk) (n : Nat) : Prop where
  past : W.past.length = n
  ss : ∀ o, ∀ x ∈ W.ss o, 0 ≤ x ∧ x < n
  rs : ∀ o, ∀ x ∈ W.rs o, 0 ≤ x ∧ x < n
  ls : ∀ o, (W.ss o).length ≤ n
  lr : ∀ o, (W.rs o).length ≤ n
theorem wk0_ok : WkOk wk0 0 := ⟨rfl, fun _ _ h => (by cases h), fun _ _ h => (by cases h), fun _ => Nat.le_refl _, fun _ => Nat.le_refl _⟩
theorem up_same {α : Type} (f : Int → α) (o : Int) (x : α) : up f o x o = x := if_pos rfl
theorem up_ne {α : Type} (f : Int → α) {o y : Int} (x : α) (h : y ≠ o) : up f o x y = f y := if_neg h
theorem WkOk.more {W : Wk} {n : Nat} (h : WkOk W n) (f : Nat → Sn) (m : Sn) : WkOk { W with gos := f, past := W.past ++ [m] } (n + 1) := by
  refine ⟨by simp [h.past], fun o x hx => ?_, fun o x hx => ?_, fun o => ?_, fun o => ?_⟩
  · have := h.ss o x hx; omega
  · have := h.rs o x hx; omega
  · have := h.ls o; show (W.ss o).length ≤ n + 1; omega
  · have := h.lr o; show (W.rs o).length ≤ n + 1; omega
theorem WkOk.gos {W : Wk} {n : Nat} (h : WkOk W n) (f : Nat → Sn) : WkOk { W with gos := f } n := ⟨h.past, h.ss, h.rs, h.ls, h.lr⟩
theorem WkOk.tell {R : List Int} {T : List Ev} {W : Wk} {n : Nat} {m : Sn} {e : Ev} (h : WkOk W (n + 1)) (hl : ∀ o, (W.ss o).length ≤ n) (hr : ∀ o, (W.rs o).length ≤ n) : WkOk (tellM R T W m e n) (n + 1) := by
  have key : ∀ (f : Int → List Int) (o : Int), (∀ o, ∀ x ∈ f o, 0 ≤ x ∧ x < ((n + 1 : Nat) : Int)) → (∀ o, (f o).length ≤ n) → (∀ y, ∀ x ∈ up f o (f o ++ [(n : Int)]) y, 0 ≤ x ∧ x < ((n + 1 : Nat) : Int)) ∧ ∀ y, (up f o (f o ++ [(n : Int)]) y).length ≤ n + 1 := fun f o h1 h2 => by
    refine ⟨fun y x hx => ?_, fun y => ?_⟩
    · unfold up at hx
      split at hx
      · rw [List.mem_append, List.mem_singleton] at hx
        rcases hx with hx | rfl
        · exact h1 o x hx
        · omega
      · exact h1 y x hx
    · unfold up
      split
      · have := h2 o; simp; omega
      · have := h2 y; omega
  unfold tellM
  split
  · exact h.gos _
  split
  · exact ⟨h.past, h.ss, h.rs, h.ls, h.lr⟩
  split
  · exact ⟨h.past, h.ss, h.rs, h.ls, h.lr⟩
  split
  · exact ⟨h.past, (key W.ss e.o h.ss hl).1, h.rs, (key W.ss e.o h.ss hl).2, h.lr⟩
  split
  · exact ⟨h.past, h.ss, (key W.rs e.o h.rs hr).1, h.ls, (key W.rs e.o h.rs hr).2⟩
  · exact h
theorem WkOk.step {R : List Int} {T : List Ev} {W : Wk} {n : Nat} {e : Ev} (h : WkOk W n) : WkOk (stepM R T W e n) (n + 1) := by
  unfold stepM
  exact (h.more _ _).tell h.ls h.lr
theorem walk_ok (R : List Int) (T : List Ev) : ∀ n, WkOk (walkM R T n) n
  | 0 => wk0_ok
  | n + 1 => (walk_ok R T n).step
end Go.Proofs.YticgmebbnnmikaaDoor.Ck
