/- Texts of this proof, packed: contracts of the program's functions, and the plain model that they are held against. -/
import Derived.Test.YtogeblmppagabaaGreatDoorQaf
/- The contract of read. -/
namespace Go.Proofs.YtogeblmppagabaaGreatDoor.Ck
open Go.RowKit

theorem results_read {tmps : Array Value} {bT bB : Nat} {w : World} {v z0 z1 : Value} (h2 : tmps.getD 2 undef = .pointer (some ⟨bT, 0, none⟩)) (h3 : tmps.getD 3 undef = .pointer (some ⟨bB, 0, none⟩))
    (hT : w.heap[bT]? = some (.cells #[v] 42 (0, 0))) (hB : w.heap[bB]? = some (.cells #[z0, z1] 31 (0, 0))) :
    (results Tryz.f47 tmps).run Tryz.prog w = .ok (.tuple #[v, .agg #[z0, z1]]) w := by
  have h2' : tmps[2]?.getD undef = .pointer (some ⟨bT, 0, none⟩) := by simpa using h2
  have h3' : tmps[3]?.getD undef = .pointer (some ⟨bB, 0, none⟩) := by simpa using h3
  have c0 := blk_cell hT 0 _ rfl
  have c1 := blk_cell hB 0 _ rfl
  have c2 := blk_cell hB 1 _ rfl
  simp [results, Tryz.results47, h2', h3', go_sem, c0, c1, c2]

theorem door_stop {R : Ending → World → Prop} {tmps : Array Value} {bT bB : Nat} {w : World} {v0 z0 z1 : Value} {te : TypeId} {pe : Value} {i : Nat} (h2 : tmps.getD 2 undef = .pointer (some ⟨bT, 0, none⟩)) (h3 : tmps.getD 3 undef = .pointer (some ⟨bB, 0, none⟩))
    (hT : w.heap[bT]? = some (.cells #[v0] 42 (0, 0))) (hB : w.heap[bB]? = some (.cells #[z0, z1] 31 (0, 0))) (hne : bT ≠ bB)
    (hR : ∀ w', (∀ B, B ≤ bT → B ≤ bB → Below B w w') → R (.returned (.tuple #[.slice none 0 0, .agg #[.iface te pe, .int .i64 i]])) w') :
    Leaves Tryz.prog Tryz.f47 tmps R [{ target := .fn (.func 76) #[.pointer (some ⟨bT, 0, none⟩), .pointer (some ⟨bB, 0, none⟩)], args := #[] }] (.panicking [{ v := badV (.iface te pe) i, recovered := false }]) w := by
  refine leaves_cons (f := 76) (args := #[.pointer (some ⟨bT, 0, none⟩), .pointer (some ⟨bB, 0, none⟩)]) (by simp) (by simp [go_sem]) ?_
  refine (catch_stop bT bB v0 z0 z1 te pe i w hT hB hne).mono ?_
  rintro e u' w' ⟨rfl, rfl, k1, k2, hb⟩
  exact ⟨_, results_read h2 h3 k1 k2, hR w' hb⟩
theorem door_end {R : Ending → World → Prop} {tmps : Array Value} {bT bB : Nat} {w : World} {v z0 z1 : Value} (h2 : tmps.getD 2 undef = .pointer (some ⟨bT, 0, none⟩)) (h3 : tmps.getD 3 undef = .pointer (some ⟨bB, 0, none⟩))
    (hT : w.heap[bT]? = some (.cells #[v] 42 (0, 0))) (hB : w.heap[bB]? = some (.cells #[z0, z1] 31 (0, 0)))
    (hR : R (.returned (.tuple #[v, .agg #[z0, z1]])) w) :
    Leaves Tryz.prog Tryz.f47 tmps R [{ target := .fn (.func 76) #[.pointer (some ⟨bT, 0, none⟩), .pointer (some ⟨bB, 0, none⟩)], args := #[] }] .returning w := by
  refine leaves_cons (f := 76) (args := #[.pointer (some ⟨bT, 0, none⟩), .pointer (some ⟨bB, 0, none⟩)]) (by simp) (by simp [go_sem]) ?_
  refine (catch_idle _ _ w).mono ?_
  rintro e u' w' ⟨rfl, rfl, rfl⟩
  exact ⟨_, results_read h2 h3 hT hB, hR⟩

def toks (ts : List Tk) : List Value := ts.flatMap Tk.cells
theorem toks_len (ts : List Tk) : (toks ts).length = ts.length * 5 := by
  induction ts with
  | nil => rfl
  | cons t ts ih =>
    unfold toks at *
    rw [List.flatMap_cons, List.length_append, ih, List.length_cons]
    simp [Tk.cells]
    omega
theorem toks_app (a b : List Tk) : toks (a ++ b) = toks a ++ toks b := by unfold toks; simp
theorem toks_one (ts : List Tk) : ∀ u ∈ toks ts, u.oneCell' = true := fun u hu => by
  obtain ⟨t, _, h⟩ := List.mem_flatMap.1 hu
  simp [Tk.cells] at h
  rcases h with rfl | rfl | rfl | rfl | rfl <;> rfl
/-- a slice of tokens of the call's own, from block B on -/
def OwnT (w : World) (B : Nat) (v : Value) (ts : List Tk) : Prop := w.ownsRow B 67 5 v ts.length (toks ts)
theorem info_tok : (Tryz.prog.info? 67).map (fun i => (i.zero, i.size, i.bytes)) = some (some (.agg #[.int .i64 0, .string ⟨#[]⟩, .int .i64 0, .int .u64 0, .int .i64 0]), 5, 48) := by kernel_rfl
theorem OwnT.nil (w : World) (B : Nat) : OwnT w B (.slice none 0 0) [] := ⟨rfl, .inl ⟨rfl, rfl⟩⟩
theorem OwnT.len {w : World} {B : Nat} {v : Value} {ts : List Tk} (h : OwnT w B v ts) : ∃ a c, v = .slice a ts.length c := by
  rcases h.2 with ⟨rfl, h0⟩ | ⟨g, cap, _, rfl, _⟩
  · exact ⟨none, 0, by rw [h0]⟩
  · exact ⟨_, _, rfl⟩

theorem OwnT.tn {w w' : World} {B n : Nat} {v : Value} {ts : List Tk} (h : OwnT w B v ts) (t : Tn n w w') (hn : n < B) : OwnT w' B v ts := by
  refine ⟨h.1, ?_⟩
  rcases h.2 with h0 | ⟨g, cap, cur, hv, hg, hb, hr⟩
  · exact .inl h0
  · exact .inr ⟨g, cap, cur, hv, hg, (t.blk g (lt_of_blk hb) (by omega)).trans hb, hr⟩
theorem OwnT.below {w w' : World} {B : Nat} {v : Value} {ts : List Tk} (h : OwnT w B v ts) (hb : Below w.heap.size w w') : OwnT w' B v ts := by
  refine ⟨h.1, ?_⟩
  rcases h.2 with h0 | ⟨g, cap, cur, hv, hg, hk, hr⟩
  · exact .inl h0
  · exact .inr ⟨g, cap, cur, hv, hg, (hb.block g (lt_of_blk hk)).trans hk, hr⟩

/-- where read stands: the tokens' variable holds v, of which the tokens are ts -/
structure Rs (w wr : World) (p : List Addr) (s : ByteArray) (i : Nat) (v : Value) (ts : List Tk) : Prop where
  rd : Rdr wr (w.heap.size + 1 + 1) s i
  tv : wr.heap[w.heap.size]? = some (.cells #[v] 42 (0, 0))
  bd : wr.heap[w.heap.size + 1]? = some (.cells #[.nilIface, .int .i64 0] 31 (0, 0))
  own : OwnT wr (w.heap.size + 1 + 1 + 1) v ts
  er : Er wr p
  bel : Below w.heap.size w wr
theorem Rs.tn {w wr wr' : World} {p : List Addr} {s : ByteArray} {i j : Nat} {v : Value} {ts : List Tk} (h : Rs w wr p s i v ts) (hG : 23 ≤ w.heap.size) (t : Tn (w.heap.size + 1 + 1) wr wr') (r : Rdr wr' (w.heap.size + 1 + 1) s j) : Rs w wr' p s j v ts :=
  ⟨r, (t.blk _ (lt_of_blk h.tv) (by omega)).trans h.tv, (t.blk _ (lt_of_blk h.bd) (by omega)).trans h.bd, h.own.tn t (by omega), h.er.tn t (by omega), h.bel.trans (t.bel (by omega) h.bel.size)⟩
theorem Rs.tnb {w wr wr' : World} {p : List Addr} {s : ByteArray} {i : Nat} {v : Value} {ts : List Tk} (h : Rs w wr p s i v ts) (t : Tn (w.heap.size + 1 + 1) wr wr') :
    wr'.heap[w.heap.size]? = some (.cells #[v] 42 (0, 0)) ∧ wr'.heap[w.heap.size + 1]? = some (.cells #[.nilIface, .int .i64 0] 31 (0, 0)) ∧ Below w.heap.size w wr' :=
  ⟨(t.blk _ (lt_of_blk h.tv) (by omega)).trans h.tv, (t.blk _ (lt_of_blk h.bd) (by omega)).trans h.bd, h.bel.trans (t.bel (by omega) h.bel.size)⟩
theorem Rs.below {w wr wr' : World} {p : List Addr} {s : ByteArray} {i : Nat} {v : Value} {ts : List Tk} (h : Rs w wr p s i v ts) (hb : Below wr.heap.size wr wr') : Rs w wr' p s i v ts :=
  ⟨h.rd.below hb, (hb.block _ (lt_of_blk h.tv)).trans h.tv, (hb.block _ (lt_of_blk h.bd)).trans h.bd, h.own.below hb, h.er.bel hb, h.bel.trans (hb.mono h.bel.size)⟩
theorem Rs.drewN {w wr : World} {p : List Addr} {s : ByteArray} {i : Nat} {v : Value} {ts : List Tk} (h : Rs w wr p s i v ts) (k : Nat) : Rs w (wr.drewN k) p s i v ts := h.below (below_drewN (Below.refl _ _) k)
theorem Rs.start (w : World) (p : List Addr) (s : ByteArray) (he : Er w p) :
    Rs w (((w.alloc (.cells #[.slice none 0 0] 42)).alloc (.cells #[.nilIface, .int .i64 0] 31)).alloc (.cells #[.string s, .int .i64 0] 96)) p s 0 (.slice none 0 0) [] := by
  have b1 := bel_new w (.cells #[.slice none 0 0] 42)
  have k1 : (w.alloc (.cells #[.slice none 0 0] 42)).heap[w.heap.size]? = some (.cells #[.slice none 0 0] 42 (0, 0)) := Go.Deep.blk_alloc_new _ _
  have s1 : (w.alloc (.cells #[.slice none 0 0] 42)).heap.size = w.heap.size + 1 := by simp
  generalize w.alloc (.cells #[.slice none 0 0] 42) = w1 at *
  have b2 := bel_new w1 (.cells #[.nilIface, .int .i64 0] 31)
  have k2 : (w1.alloc (.cells #[.nilIface, .int .i64 0] 31)).heap[w1.heap.size]? = some (.cells #[.nilIface, .int .i64 0] 31 (0, 0)) := Go.Deep.blk_alloc_new _ _
  have s2 : (w1.alloc (.cells #[.nilIface, .int .i64 0] 31)).heap.size = w1.heap.size + 1 := by simp
  generalize w1.alloc (.cells #[.nilIface, .int .i64 0] 31) = w2 at *
  have b3 := bel_new w2 (.cells #[.string s, .int .i64 0] 96)
  have k3 : (w2.alloc (.cells #[.string s, .int .i64 0] 96)).heap[w2.heap.size]? = some (.cells #[.string s, .int .i64 0] 96 (0, 0)) := Go.Deep.blk_alloc_new _ _
  generalize w2.alloc (.cells #[.string s, .int .i64 0] 96) = w3 at *
  rw [s2, s1] at k3
  rw [s1] at k2
  exact ⟨k3, (b3.block _ (by omega)).trans ((b2.block _ (by omega)).trans k1), (b3.block _ (by omega)).trans k2, OwnT.nil _ _, ((he.bel b1).bel b2).bel b3, bel_trans (bel_trans b1 b2) b3⟩

/-- a token more -/
theorem Rs.push {w wr : World} {p : List Addr} {s : ByteArray} {i : Nat} {v : Value} {ts : List Tk} (h : Rs w wr p s i v ts) (hG : 23 ≤ w.heap.size) (t : Tk) (b c : Nat) (hb : wr.heap[b]? = some (.cells #[.int .i64 t.kind, .string t.text, .int .i64 t.n, .int .u64 t.bits, .int .i64 t.pos] 67 (0, 0))) (hl : ts.length ≤ 2000) (ty : TypeId) :
    ∃ v' w', (Builtin.append_ #[42, 42] ty #[v, .slice (some ⟨b, 0, none⟩) 1 c]).run Tryz.prog wr = .ok v' w' ∧
      (w'.cell? ⟨w.heap.size, 0, none⟩ = some v ∧ w'.frozen? ⟨w.heap.size, 0, none⟩ = false ∧ Rs w (w'.setCell ⟨w.heap.size, 0, none⟩ v') p s i v' (ts ++ [t])) := by
  obtain ⟨ie, hi, hz0, hz1, hz2⟩ := info_parts info_tok
  have hn : ∀ j u, (Tk.cells t)[j]? = some u → wr.cell? ((⟨b, 0, none⟩ : Addr).add j) = some u := fun j u hu => by
    have e2 : (Addr.mk b 0 none).add j = ⟨b, j, none⟩ := by unfold Addr.add; by_cases h : j = 0 <;> simp [h]
    rw [e2]
    exact blk_cell hb j u (by rw [← hu]; unfold Tk.cells; simp)
  obtain ⟨v', w', hr, ho, hg, _⟩ := run_append_own (P := Tryz.prog) wr (w.heap.size + 1 + 1 + 1) 42 ty 67 ie (.agg #[.int .i64 0, .string ⟨#[]⟩, .int .i64 0, .int .u64 0, .int .i64 0]) 5 48 Tryz.underlying42 hi hz0 hz1 hz2 rfl (by decide) v ts.length (toks ts) h.own ⟨b, 0, none⟩ 1 c (Tk.cells t) rfl hn (fun u hu => toks_one [t] u (by unfold toks; simpa using hu)) (by unfold maxLen; omega) (by omega) (Nat.succ_le_of_lt (lt_of_blk h.rd))
  have hown : ∀ k, v.ownBlock = some k → w.heap.size + 1 + 1 + 1 ≤ k := fun k hk => by
    rcases h.own.2 with ⟨rfl, _⟩ | ⟨g, cap, cur, rfl, hge, _⟩
    · cases hk
    · cases hk; exact hge
  have hblk : ∀ k, k ≤ w.heap.size + 1 + 1 → k < wr.heap.size → w'.heap[k]? = wr.heap[k]? := fun k hk hk2 => hg.block k hk2 (fun e => by have := hown k e.symm; omega)
  have htv := (hblk _ (by omega) (lt_of_blk h.tv)).trans h.tv
  obtain ⟨k1, t1⟩ := set1 htv 0 v'
  have hb0 : Below w.heap.size wr w' := ⟨hg.os, hg.tape, hg.output, hg.size, fun k hk => hblk k (by omega) (Nat.lt_of_lt_of_le hk h.bel.size)⟩
  have her : Er w' p := by
    obtain ⟨te, pe, hs⟩ := h.er.cs
    have hc : ∀ {k : Nat} {u : Value}, k < 23 → wr.cell? ⟨k, 0, none⟩ = some u → w'.cell? ⟨k, 0, none⟩ = some u := fun hk hu => (hb0.cell (p := ⟨_, 0, none⟩) (Nat.lt_of_lt_of_le hk hG)).trans hu
    exact ⟨hc (by omega) h.er.c0, hc (by omega) h.er.c1, hc (by omega) h.er.c5, te, pe, hc (by omega) hs⟩
  have ho2 : OwnT w' (w.heap.size + 1 + 1 + 1) v' (ts ++ [t]) := by
    unfold OwnT
    rw [List.length_append, toks_app]
    exact ho
  refine ⟨v', w', hr, blk_cell htv 0 _ rfl, blk_frz htv 0, ?_⟩
  exact ⟨(t1.blk _ (Nat.lt_of_lt_of_le (lt_of_blk h.rd) hg.size) (by omega)).trans ((hblk _ (Nat.le_refl _) (lt_of_blk h.rd)).trans h.rd), k1, (t1.blk _ (Nat.lt_of_lt_of_le (lt_of_blk h.bd) hg.size) (by omega)).trans ((hblk _ (by omega) (lt_of_blk h.bd)).trans h.bd), ho2.tn t1 (by omega), her.tn t1 hG, (h.bel.trans hb0).trans (t1.bel (Nat.le_refl _) (Nat.le_trans h.bel.size hg.size))⟩

end Go.Proofs.YtogeblmppagabaaGreatDoor.Ck
