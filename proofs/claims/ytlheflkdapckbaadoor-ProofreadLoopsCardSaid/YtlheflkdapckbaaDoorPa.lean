/- Rows of a call's own, and what turns where; no Go text is walked here. -/
import Derived.Test.YtlheflkdapckbaaDoorTn
import Derived.Deep.AppendSrc
import Derived.Maps.AppendAt
namespace Go.Proofs.YtlheflkdapckbaaDoor.Ck
open Go.RowKit

theorem size_setCell (w : World) (a : Addr) (v : Value) : (w.setCell a v).heap.size = w.heap.size := by
  simp only [World.setCell]
  split <;> simp
section
variable {w w' : World} {B : Nat} {T : TypeId} {n : Nat} {v : Value} {len : Nat} {xs : List Value}
theorem own_type (h : w.ownsRow B T n v len xs) {k : Nat} (hk : v.ownBlock = some k) : B ≤ k ∧ k < w.heap.size ∧ ∃ c, w.heap[k]? = some (.cells c T (0, 0)) := by
  obtain ⟨hl, h0 | ⟨gb, cap, cur, rfl, hB, hg, r⟩⟩ := h
  · rw [h0.1] at hk
    cases hk
  · have e : gb = k := Option.some.inj hk
    subst e
    exact ⟨hB, lt_of_blk hg, cur, hg⟩
theorem own_keep (h : w.ownsRow B T n v len xs) (hb : ∀ k, v.ownBlock = some k → w'.heap[k]? = w.heap[k]?) : w'.ownsRow B T n v len xs := by
  obtain ⟨hl, h0 | ⟨gb, cap, cur, rfl, hB, hg, r⟩⟩ := h
  · exact ⟨hl, .inl h0⟩
  · exact ⟨hl, .inr ⟨gb, cap, cur, rfl, hB, (hb gb rfl).trans hg, r⟩⟩
theorem own_form (h : w.ownsRow B T n v len xs) : (v = .slice none 0 0 ∧ len = 0) ∨ ∃ b c, v = .slice (some ⟨b, 0, none⟩) len c ∧ len ≤ c ∧ c ≤ maxLen := by
  obtain ⟨hl, h0 | ⟨gb, cap, cur, rfl, hB, hg, h1, h2, r⟩⟩ := h
  · exact .inl h0
  · exact .inr ⟨_, _, rfl, h1, h2⟩
theorem own_slice (h : w.ownsRow B T n v len xs) : ∃ a c, v = .slice a len c ∧ len ≤ c ∧ c ≤ maxLen := by
  rcases own_form h with ⟨rfl, rfl⟩ | ⟨b, c, rfl, h1, h2⟩
  · exact ⟨_, _, rfl, by omega, by unfold maxLen; omega⟩
  · exact ⟨_, _, rfl, h1, h2⟩
theorem own_some (h : w.ownsRow B T n v len xs) (hl : 0 < len) : ∃ b c, v = .slice (some ⟨b, 0, none⟩) len c ∧ len ≤ c ∧ c ≤ maxLen := by
  rcases own_form h with ⟨_, e⟩ | h
  · omega
  · exact h
theorem own_cell {b m c : Nat} (h : w.ownsRow B T n (.slice (some ⟨b, 0, none⟩) m c) len xs) (j : Nat) (u : Value) (hu : xs[j]? = some u) : w.cell? ⟨b, j, none⟩ = some u ∧ w.frozen? ⟨b, j, none⟩ = false := by
  obtain ⟨hl, ⟨h0, _⟩ | ⟨gb, cap, cur, e, hB, hg, h1, h2, h3, h4⟩⟩ := h
  · cases h0
  · simp only [Value.slice.injEq, Option.some.injEq, Addr.mk.injEq, and_true] at e
    obtain ⟨rfl, rfl, rfl⟩ := e
    refine ⟨?_, blk_frz hg j⟩
    have hj : j < xs.length := (List.getElem?_eq_some_iff.1 hu).1
    have e2 : (cur.toList.take (m * n))[j]? = xs[j]? := by rw [h4]
    rw [List.getElem?_take_of_lt (by omega), hu] at e2
    exact blk_cell hg j u (by rw [← Array.getElem?_toList]; exact e2)
theorem own_set {b m c : Nat} (h : w.ownsRow B T n (.slice (some ⟨b, 0, none⟩) m c) len xs) (j : Nat) (u : Value) : (w.setCell ⟨b, j, none⟩ u).ownsRow B T n (.slice (some ⟨b, 0, none⟩) m c) len (xs.set j u) := by
  obtain ⟨hl, ⟨h0, _⟩ | ⟨gb, cap, cur, e, hB, hg, h1, h2, h3, h4⟩⟩ := h
  · cases h0
  · simp only [Value.slice.injEq, Option.some.injEq, Addr.mk.injEq, and_true] at e
    obtain ⟨rfl, rfl, rfl⟩ := e
    refine ⟨by simpa using hl, .inr ⟨b, c, cur.setIfInBounds j u, rfl, hB, heap_setCell_same w b j _ T _ hg, h1, h2, by simpa using h3, ?_⟩⟩
    rw [Array.toList_setIfInBounds, List.take_set, h4]
end
theorem own_apart {w : World} {B B' : Nat} {T T' : TypeId} {n n' : Nat} {v v' : Value} {len len' : Nat} {xs xs' : List Value} (h : w.ownsRow B T n v len xs) (h' : w.ownsRow B' T' n' v' len' xs') (hT : T ≠ T') : ∀ k, v.ownBlock = some k → v'.ownBlock ≠ some k := fun k hk hk' => by
  obtain ⟨_, _, c, hc⟩ := own_type h hk
  obtain ⟨_, _, c', hc'⟩ := own_type h' hk'
  rw [hc] at hc'
  have := Option.some.inj hc'
  injection this with _ h2 _
  exact hT h2
theorem own_at {w : World} {B : Nat} {T T' : TypeId} {n : Nat} {v : Value} {len : Nat} {xs : List Value} (h : w.ownsRow B T n v len xs) {g : Nat} {c : Array Value} (hg : w.heap[g]? = some (.cells c T' (0, 0))) (hT : T ≠ T') : v.ownBlock ≠ some g := fun e => by
  obtain ⟨_, _, c', hc⟩ := own_type h e
  rw [hg] at hc
  have := Option.some.inj hc
  injection this with _ h2 _
  exact hT h2.symm

/-- from w to w' only blocks of F, and what is new, have turned; F' has none but of F and new ones -/
structure Ch (F F' : Nat → Prop) (w w' : World) : Prop where
  os : w'.os = w.os
  tape : w'.tape = w.tape
  output : w'.output = w.output
  size : w.heap.size ≤ w'.heap.size
  blk : ∀ k, k < w.heap.size → ¬ F k → w'.heap[k]? = w.heap[k]?
  grow : ∀ k, F' k → F k ∨ w.heap.size ≤ k
theorem Ch.refl (F : Nat → Prop) (w : World) : Ch F F w w := ⟨rfl, rfl, rfl, Nat.le_refl _, fun _ _ _ => rfl, fun _ h => .inl h⟩
theorem Ch.trans {F F' F'' : Nat → Prop} {a b c : World} (h : Ch F F' a b) (k : Ch F' F'' b c) : Ch F F'' a c :=
  ⟨k.os.trans h.os, k.tape.trans h.tape, k.output.trans h.output, Nat.le_trans h.size k.size, fun i hi hF => (k.blk i (Nat.lt_of_lt_of_le hi h.size) (fun hF' => by
    rcases h.grow i hF' with h1 | h1
    · exact hF h1
    · omega)).trans (h.blk i hi hF), fun i hi => by
    rcases k.grow i hi with h1 | h1
    · exact h.grow i h1
    · exact .inr (Nat.le_trans h.size h1)⟩
theorem Ch.of_bel {F : Nat → Prop} {w w' : World} (h : Below w.heap.size w w') : Ch F F w w' := ⟨h.os, h.tape, h.output, h.size, fun k hk _ => h.block k hk, fun _ h => .inl h⟩
theorem Ch.bel {F F' : Nat → Prop} {w w' : World} {B : Nat} (h : Ch F F' w w') (hF : ∀ k, F k → B ≤ k) (hB : B ≤ w.heap.size) : Below B w w' :=
  ⟨h.os, h.tape, h.output, h.size, fun k hk => h.blk k (by omega) (fun e => by have := hF k e; omega)⟩
theorem Ch.drew {F F' : Nat → Prop} {w w' : World} (h : Ch F F' w w') : Ch F F' w w'.drew := ⟨h.os, h.tape, h.output, h.size, h.blk, h.grow⟩
theorem Ch.below {F F' : Nat → Prop} {w wa wb : World} (h : Ch F F' w wa) (k : Below w.heap.size wa wb) : Ch F F' w wb :=
  ⟨k.os.trans h.os, k.tape.trans h.tape, k.output.trans h.output, Nat.le_trans h.size k.size, fun i hi hF => (k.block i hi).trans (h.blk i hi hF), h.grow⟩
theorem Ch.low {F F' : Nat → Prop} {w w' : World} {B : Nat} (h : Ch F F' w w') (hF : ∀ k, F k → B ≤ k) (hB : B ≤ w.heap.size) : ∀ k, F' k → B ≤ k := fun k hk => by
  rcases h.grow k hk with h1 | h1
  · exact hF k h1
  · omega

theorem own_cut {w : World} {B : Nat} {T : TypeId} {a : Option Addr} {un cU : Nat} {xs : List Value} (h : w.ownsRow B T 1 (.slice a un cU) un xs) {keep : Nat} (hk : keep ≤ un) : w.ownsRow B T 1 (.slice a keep cU) keep (xs.take keep) := by
  obtain ⟨hl, ⟨h0, h1⟩ | ⟨gb, cap, cur, hv, hB, hg, h2, h3, h4, h5⟩⟩ := h
  · obtain rfl : keep = 0 := by omega
    injection h0 with e1 e2 e3
    subst e1 e3
    exact ⟨by simp, .inl ⟨rfl, rfl⟩⟩
  · injection hv with e1 e2 e3
    subst e1 e3
    refine ⟨by rw [List.length_take]; omega, .inr ⟨gb, cU, cur, rfl, hB, hg, by omega, h3, h4, ?_⟩⟩
    rw [← h5, List.take_take]
    congr 1
    omega
theorem Ch.wide {F F' G G' : Nat → Prop} {w w' : World} (c : Ch F F' w w') (h1 : ∀ k, F k → G k) (h2 : ∀ k, G' k → G k ∨ w.heap.size ≤ k) : Ch G G' w w' :=
  ⟨c.os, c.tape, c.output, c.size, fun k hk hG => c.blk k hk (fun hF => hG (h1 k hF)), h2⟩
theorem Ch.keepB {G G' : Nat → Prop} {w w' : World} {b : Nat} (c : Ch G G' w w') (hn : ¬ G b) (hl : b < w.heap.size) : w'.heap[b]? = w.heap[b]? ∧ ¬ G' b ∧ b < w'.heap.size :=
  ⟨c.blk b hl hn, fun h => by
    rcases c.grow b h with h1 | h1
    · exact hn h1
    · omega, Nat.lt_of_lt_of_le hl c.size⟩
theorem Ch.of_tn {g : Nat} {w w' : World} (t : Tn g w w') : Ch (fun k => k = g) (fun k => k = g) w w' := ⟨t.os, t.tape, t.output, t.size, fun k hk hn => t.blk k hk hn, fun _ h => .inl h⟩
def nts (l : List Int) : List Value := l.map (Value.int .i64)
theorem nts_at {l : List Int} {i : Nat} {x : Int} (h : l[i]? = some x) : (nts l)[i]? = some (.int .i64 x) := by simp [nts, h]
theorem nts_len (l : List Int) : (nts l).length = l.length := by simp [nts]
/-- one int more -/
theorem push_any {TS : TypeId} (hu : Tryd.prog.underlying TS = some (.slice 3)) {w : World} {B : Nat} {v : Value} {l : List Int} {n : Nat} (hn : n = l.length) (hl : l.length ≤ 100000) (ho : w.ownsRow B 3 1 v n (nts l)) (hB : B ≤ w.heap.size) (x : Int) (ty : TypeId) :
    ∃ v' w', (Builtin.append_ #[TS, TS] ty #[v, .slice (some ⟨w.heap.size, 0, none⟩) 1 1]).run Tryd.prog (w.alloc (.cells #[.int .i64 x] 3)) = .ok v' w' ∧ ((∃ a c, v' = .slice a (n + 1) c) ∧ w'.ownsRow B 3 1 v' (n + 1) (nts (l ++ [x])) ∧ w.grownBy w' v.ownBlock ∧ (∀ k, v'.ownBlock = some k → v.ownBlock = some k ∨ w.heap.size ≤ k)) := by
  obtain ⟨ie, hi, hz0, hz1, hz2⟩ := info_parts info3
  have hb := bel_new w (.cells #[.int .i64 x] 3)
  have o1 := own_keep ho (fun k hk => hb.block k (own_type ho hk).2.1)
  have hc : ∀ (j : Nat) (u : Value), (nts [x])[j]? = some u → (w.alloc (.cells #[.int .i64 x] 3)).cell? ((⟨w.heap.size, 0, none⟩ : Addr).add j) = some u := fun j u hu => by
    rw [show (⟨w.heap.size, 0, none⟩ : Addr).add j = ⟨w.heap.size, j, none⟩ by unfold Addr.add; by_cases h : j = 0 <;> simp [h]]
    exact blk_cell (Go.Deep.blk_alloc_new w _) j u (by simpa [nts] using hu)
  obtain ⟨v', w', hr, ho', hg, _, hat⟩ := run_append_own_at (P := Tryd.prog) (w.alloc (.cells #[.int .i64 x] 3)) B TS ty 3 ie _ 1 8 hu hi hz0 hz1 hz2 rfl (by decide) v n (nts l) o1 ⟨w.heap.size, 0, none⟩ 1 1 (nts [x]) rfl hc (fun u hu => by simp [nts] at hu; subst hu; rfl) (by unfold maxLen; omega) (by omega) (Nat.le_trans hB hb.size)
  obtain ⟨a9, c9, e9, _⟩ := own_slice ho'
  refine ⟨v', w', hr, ⟨_, _, e9⟩, by rw [show nts (l ++ [x]) = nts l ++ nts [x] by simp [nts]]; exact ho', ⟨hg.os, hg.tape, hg.output, Nat.le_trans hb.size hg.size, fun k hk hne => (hg.block k (Nat.lt_of_lt_of_le hk hb.size) hne).trans (hb.block k hk)⟩, fun k hk => ?_⟩
  rcases hat with e | e
  · exact .inl (e.symm.trans hk)
  · rw [e] at hk
    right
    have := Option.some.inj hk
    have h9 := hb.size
    omega
theorem wpList_appV {TS : TypeId} {w : World} {ops : Array Oper} {rest : List Oper} {o : Oper} {a : Act} {Q : Exit → Act → World → Prop} (hgd : o.guard = none) (s x : Operand)
    (ho : o.op = .call { callee := .builtin .append, args := #[s, x], argTypes := #[TS, TS] }) (v vx : Value) (hs : a.eval s = v) (hx : a.eval x = vx) (R : Value → World → Prop)
    (hrun : ∃ v' w', (Builtin.append_ #[TS, TS] o.type #[v, vx]).run Tryd.prog w = .ok v' w' ∧ R v' w')
    (h : ∀ v' w', R v' w' → wpList Tryd.prog ops Q rest (a.put o.dst v') w') : wpList Tryd.prog ops Q (o :: rest) a w :=
  wpList_plain hgd fun _ hK => by
    obtain ⟨v', w', hr, hR⟩ := hrun
    unfold Oper.wp execOp
    simp only [ho, resolve, invoke, builtin, Sem.run_bind, Sem.run_pure, Result.andThen_ok, List.map_toArray, List.map_cons, List.map_nil, hs, hx, hr]
    exact hK _ _ (h v' w' hR)
end Go.Proofs.YtlheflkdapckbaaDoor.Ck
