/- Rows of a call's own: ints, what events know, events, races; one more (as in proofread's Pa). No Go text is walked here. -/
import Derived.Test.YticgmebbnnmikaaDoorOi
import Derived.Deep.AppendSrc
import Derived.Maps.AppendAt
namespace Go.Proofs.YticgmebbnnmikaaDoor.Ck
open Go.RowKit

section
variable {w w' : World} {B : Nat} {T : TypeId} {n : Nat} {v : Value} {len : Nat} {xs : List Value}
theorem own_type (h : w.ownsRow B T n v len xs) {k : Nat} (hk : v.ownBlock = some k) : B ≤ k ∧ k < w.heap.size ∧ ∃ c, w.heap[k]? = some (.cells c T (0, 0)) := by
  obtain ⟨hl, h0 | ⟨gb, cap, cur, rfl, hB, hg, r⟩⟩ := h
  · rw [h0.1] at hk
    cases hk
  · have e : gb = k := Option.some.inj hk
    subst e
    exact ⟨hB, lt_of_blk hg, cur, hg⟩
theorem own_keep (h : w.ownsRow B T n v len xs) (hb : ∀ k, v.ownBlock = some k → w'.heap[k]? = w.heap[k]?) : w'.ownsRow B T n v len xs := by
  obtain ⟨hl, h0 | ⟨gb, cap, cur, rfl, hB, hg, r⟩⟩ := h
  · exact ⟨hl, .inl h0⟩
  · exact ⟨hl, .inr ⟨gb, cap, cur, rfl, hB, (hb gb rfl).trans hg, r⟩⟩
theorem own_form (h : w.ownsRow B T n v len xs) : (v = .slice none 0 0 ∧ len = 0) ∨ ∃ b c, v = .slice (some ⟨b, 0, none⟩) len c ∧ len ≤ c ∧ c ≤ maxLen := by
  obtain ⟨hl, h0 | ⟨gb, cap, cur, rfl, hB, hg, h1, h2, r⟩⟩ := h
  · exact .inl h0
  · exact .inr ⟨_, _, rfl, h1, h2⟩
theorem own_slice (h : w.ownsRow B T n v len xs) : ∃ a c, v = .slice a len c ∧ len ≤ c ∧ c ≤ maxLen := by
  rcases own_form h with ⟨rfl, rfl⟩ | ⟨b, c, rfl, h1, h2⟩
  · exact ⟨_, _, rfl, by omega, by unfold maxLen; omega⟩
  · exact ⟨_, _, rfl, h1, h2⟩
theorem own_some (h : w.ownsRow B T n v len xs) (hl : 0 < len) : ∃ b c, v = .slice (some ⟨b, 0, none⟩) len c ∧ len ≤ c ∧ c ≤ maxLen := by
  rcases own_form h with ⟨_, e⟩ | h
  · omega
  · exact h
theorem own_cell {b m c : Nat} (h : w.ownsRow B T n (.slice (some ⟨b, 0, none⟩) m c) len xs) (j : Nat) (u : Value) (hu : xs[j]? = some u) : w.cell? ⟨b, j, none⟩ = some u ∧ w.frozen? ⟨b, j, none⟩ = false := by
  obtain ⟨hl, ⟨h0, _⟩ | ⟨gb, cap, cur, e, hB, hg, h1, h2, h3, h4⟩⟩ := h
  · cases h0
  · simp only [Value.slice.injEq, Option.some.injEq, Addr.mk.injEq, and_true] at e
    obtain ⟨rfl, rfl, rfl⟩ := e
    refine ⟨?_, blk_frz hg j⟩
    have hj : j < xs.length := (List.getElem?_eq_some_iff.1 hu).1
    have e2 : (cur.toList.take (m * n))[j]? = xs[j]? := by rw [h4]
    rw [List.getElem?_take_of_lt (by omega), hu] at e2
    exact blk_cell hg j u (by rw [← Array.getElem?_toList]; exact e2)
theorem own_set {b m c : Nat} (h : w.ownsRow B T n (.slice (some ⟨b, 0, none⟩) m c) len xs) (j : Nat) (u : Value) : (w.setCell ⟨b, j, none⟩ u).ownsRow B T n (.slice (some ⟨b, 0, none⟩) m c) len (xs.set j u) := by
  obtain ⟨hl, ⟨h0, _⟩ | ⟨gb, cap, cur, e, hB, hg, h1, h2, h3, h4⟩⟩ := h
  · cases h0
  · simp only [Value.slice.injEq, Option.some.injEq, Addr.mk.injEq, and_true] at e
    obtain ⟨rfl, rfl, rfl⟩ := e
    refine ⟨by simpa using hl, .inr ⟨b, c, cur.setIfInBounds j u, rfl, hB, heap_setCell_same w b j _ T _ hg, h1, h2, by simpa using h3, ?_⟩⟩
    rw [Array.toList_setIfInBounds, List.take_set, h4]
end
theorem own_apart {w : World} {B B' : Nat} {T T' : TypeId} {n n' : Nat} {v v' : Value} {len len' : Nat} {xs xs' : List Value} (h : w.ownsRow B T n v len xs) (h' : w.ownsRow B' T' n' v' len' xs') (hT : T ≠ T') : ∀ k, v.ownBlock = some k → v'.ownBlock ≠ some k := fun k hk hk' => by
  obtain ⟨_, _, c, hc⟩ := own_type h hk
  obtain ⟨_, _, c', hc'⟩ := own_type h' hk'
  rw [hc] at hc'
  have := Option.some.inj hc'
  injection this with _ h2 _
  exact hT h2
theorem own_at {w : World} {B : Nat} {T T' : TypeId} {n : Nat} {v : Value} {len : Nat} {xs : List Value} (h : w.ownsRow B T n v len xs) {g : Nat} {c : Array Value} (hg : w.heap[g]? = some (.cells c T' (0, 0))) (hT : T ≠ T') : v.ownBlock ≠ some g := fun e => by
  obtain ⟨_, _, c', hc⟩ := own_type h e
  rw [hg] at hc
  have := Option.some.inj hc
  injection this with _ h2 _
  exact hT h2.symm

def nts (l : List Int) : List Value := l.map (Value.int .i64)
theorem nts_at {l : List Int} {i : Nat} {x : Int} (h : l[i]? = some x) : (nts l)[i]? = some (.int .i64 x) := by simp [nts, h]
theorem nts_len (l : List Int) : (nts l).length = l.length := by simp [nts]
/-- one int more -/
theorem push_any {TS : TypeId} (hu : Tryd.prog.underlying TS = some (.slice 3)) {w : World} {B : Nat} {v : Value} {l : List Int} {n : Nat} (hn : n = l.length) (hl : l.length ≤ 100000) (ho : w.ownsRow B 3 1 v n (nts l)) (hB : B ≤ w.heap.size) (x : Int) (ty : TypeId) :
    ∃ v' w', (Builtin.append_ #[TS, TS] ty #[v, .slice (some ⟨w.heap.size, 0, none⟩) 1 1]).run Tryd.prog (w.alloc (.cells #[.int .i64 x] 3)) = .ok v' w' ∧ ((∃ a c, v' = .slice a (n + 1) c) ∧ w'.ownsRow B 3 1 v' (n + 1) (nts (l ++ [x])) ∧ w.grownBy w' v.ownBlock ∧ (∀ k, v'.ownBlock = some k → v.ownBlock = some k ∨ w.heap.size ≤ k)) := by
  obtain ⟨ie, hi, hz0, hz1, hz2⟩ := info_parts info3
  have hb := bel_new w (.cells #[.int .i64 x] 3)
  have o1 := own_keep ho (fun k hk => hb.block k (own_type ho hk).2.1)
  have hc : ∀ (j : Nat) (u : Value), (nts [x])[j]? = some u → (w.alloc (.cells #[.int .i64 x] 3)).cell? ((⟨w.heap.size, 0, none⟩ : Addr).add j) = some u := fun j u hu => by
    rw [show (⟨w.heap.size, 0, none⟩ : Addr).add j = ⟨w.heap.size, j, none⟩ by unfold Addr.add; by_cases h : j = 0 <;> simp [h]]
    exact blk_cell (Go.Deep.blk_alloc_new w _) j u (by simpa [nts] using hu)
  obtain ⟨v', w', hr, ho', hg, _, hat⟩ := run_append_own_at (P := Tryd.prog) (w.alloc (.cells #[.int .i64 x] 3)) B TS ty 3 ie _ 1 8 hu hi hz0 hz1 hz2 rfl (by decide) v n (nts l) o1 ⟨w.heap.size, 0, none⟩ 1 1 (nts [x]) rfl hc (fun u hu => by simp [nts] at hu; subst hu; rfl) (by unfold maxLen; omega) (by omega) (Nat.le_trans hB hb.size)
  obtain ⟨a9, c9, e9, _⟩ := own_slice ho'
  refine ⟨v', w', hr, ⟨_, _, e9⟩, by rw [show nts (l ++ [x]) = nts l ++ nts [x] by simp [nts]]; exact ho', ⟨hg.os, hg.tape, hg.output, Nat.le_trans hb.size hg.size, fun k hk hne => (hg.block k (Nat.lt_of_lt_of_le hk hb.size) hne).trans (hb.block k hk)⟩, fun k hk => ?_⟩
  rcases hat with e | e
  · exact .inl (e.symm.trans hk)
  · rw [e] at hk
    right
    have := Option.some.inj hk
    have h9 := hb.size
    omega
theorem info_seen : (Tryd.prog.info? 58).map (fun i => (i.zero, i.size, i.bytes)) = some (some (snV sn0), 8, 64) := by kernel_rfl
theorem info_ev : (Tryd.prog.info? 47).map (fun i => (i.zero, i.size, i.bytes)) = some (some (evV zE), 4, 32) := by kernel_rfl
theorem info_race : (Tryd.prog.info? 54).map (fun i => (i.zero, i.size, i.bytes)) = some (some (rcV ⟨0, 0, 0, false, false⟩), 5, 32) := by kernel_rfl
/-- one element more, of any cells -/
theorem pushE {TS TE : TypeId} {z : Value} {k bytes : Nat} (hu : Tryd.prog.underlying TS = some (.slice TE)) (hinfo : (Tryd.prog.info? TE).map (fun i => (i.zero, i.size, i.bytes)) = some (some z, k, bytes)) (hz : z.cells.size = k) (hk : 0 < k ∧ k ≤ 64) (hby : bytes ≤ 600) {w : World} {B : Nat} {v : Value} {xs : List Value} {n : Nat} (hl : n ≤ 100000) (ho : w.ownsRow B TE k v n xs) (hB : B ≤ w.heap.size) (c : List Value) (hc1 : c.length = k) (hc2 : ∀ u ∈ c, u.oneCell' = true) (ty : TypeId) :
    ∃ v' w', (Builtin.append_ #[TS, TS] ty #[v, .slice (some ⟨w.heap.size, 0, none⟩) 1 1]).run Tryd.prog (w.alloc (.cells c.toArray TE)) = .ok v' w' ∧ ((∃ a cc, v' = .slice a (n + 1) cc) ∧ w'.ownsRow B TE k v' (n + 1) (xs ++ c) ∧ w.grownBy w' v.ownBlock ∧ (∀ b, v'.ownBlock = some b → v.ownBlock = some b ∨ w.heap.size ≤ b)) := by
  obtain ⟨ie, hi, hz0, hz1, hz2⟩ := info_parts hinfo
  have hb := bel_new w (.cells c.toArray TE)
  have o1 := own_keep ho (fun k hk => hb.block k (own_type ho hk).2.1)
  have hc : ∀ (j : Nat) (u : Value), c[j]? = some u → (w.alloc (.cells c.toArray TE)).cell? ((⟨w.heap.size, 0, none⟩ : Addr).add j) = some u := fun j u hu => by
    rw [show (⟨w.heap.size, 0, none⟩ : Addr).add j = ⟨w.heap.size, j, none⟩ by unfold Addr.add; by_cases h : j = 0 <;> simp [h]]
    exact blk_cell (Go.Deep.blk_alloc_new w _) j u (by simpa using hu)
  obtain ⟨v', w', hr, ho', hg, _, hat⟩ := run_append_own_at (P := Tryd.prog) (w.alloc (.cells c.toArray TE)) B TS ty TE ie _ k bytes hu hi hz0 hz1 hz2 hz (by omega) v n xs o1 ⟨w.heap.size, 0, none⟩ 1 1 c (by omega) hc hc2 (by unfold maxLen; omega) (Nat.le_trans (Nat.mul_le_mul (show n + 1 ≤ 100001 by omega) hby) (by decide)) (Nat.le_trans hB hb.size)
  obtain ⟨a9, c9, e9, _⟩ := own_slice ho'
  refine ⟨v', w', hr, ⟨_, _, e9⟩, ho', ⟨hg.os, hg.tape, hg.output, Nat.le_trans hb.size hg.size, fun k hk hne => (hg.block k (Nat.lt_of_lt_of_le hk hb.size) hne).trans (hb.block k hk)⟩, fun k hk => ?_⟩
  rcases hat with e | e
  · exact .inl (e.symm.trans hk)
  · rw [e] at hk
    right
    have := Option.some.inj hk
    have h9 := hb.size
    omega
end Go.Proofs.YticgmebbnnmikaaDoor.Ck
