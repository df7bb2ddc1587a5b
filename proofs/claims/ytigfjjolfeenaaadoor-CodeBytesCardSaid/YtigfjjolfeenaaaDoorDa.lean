/- Bytes of the call's own; a writer in memory; no Go text is walked here. -/
import Derived.Test.YtigfjjolfeenaaaDoorCp
import Derived.Test.YtigfjjolfeenaaaDoorHold
import Derived.Deep.RegionHeld
namespace Go.Proofs.YtigfjjolfeenaaaDoor.Ck
open Go.RowKit

/-- what a call turned: F what it may write, F' what it may write then -/
structure Ch (F F' : Nat → Prop) (w w' : World) : Prop where
  os : w'.os = w.os
  tape : w'.tape = w.tape
  output : w'.output = w.output
  size : w.heap.size ≤ w'.heap.size
  blk : ∀ k, k < w.heap.size → ¬ F k → w'.heap[k]? = w.heap[k]?
  grow : ∀ k, F' k → F k ∨ w.heap.size ≤ k
theorem Ch.refl (F : Nat → Prop) (w : World) : Ch F F w w := ⟨rfl, rfl, rfl, Nat.le_refl _, fun _ _ _ => rfl, fun _ h => .inl h⟩
theorem Ch.trans {F F' F'' : Nat → Prop} {a b c : World} (h : Ch F F' a b) (k : Ch F' F'' b c) : Ch F F'' a c :=
  ⟨k.os.trans h.os, k.tape.trans h.tape, k.output.trans h.output, Nat.le_trans h.size k.size, fun i hi hF => (k.blk i (Nat.lt_of_lt_of_le hi h.size) (fun hF' => by
    rcases h.grow i hF' with h1 | h1
    · exact hF h1
    · omega)).trans (h.blk i hi hF), fun i hi => by
    rcases k.grow i hi with h1 | h1
    · exact h.grow i h1
    · exact .inr (Nat.le_trans h.size h1)⟩
theorem Ch.of_bel {F : Nat → Prop} {w w' : World} (h : Below w.heap.size w w') : Ch F F w w' := ⟨h.os, h.tape, h.output, h.size, fun k hk _ => h.block k hk, fun _ h => .inl h⟩
theorem Ch.bel {F F' : Nat → Prop} {w w' : World} {B : Nat} (h : Ch F F' w w') (hF : ∀ k, F k → B ≤ k) (hB : B ≤ w.heap.size) : Below B w w' :=
  ⟨h.os, h.tape, h.output, h.size, fun k hk => h.blk k (by omega) (fun e => by have := hF k e; omega)⟩
theorem Ch.drew {F F' : Nat → Prop} {w w' : World} (h : Ch F F' w w') : Ch F F' w w'.drew := ⟨h.os, h.tape, h.output, h.size, h.blk, h.grow⟩
theorem Ch.below {F F' : Nat → Prop} {w wa wb : World} (h : Ch F F' w wa) (k : Below w.heap.size wa wb) : Ch F F' w wb :=
  ⟨k.os.trans h.os, k.tape.trans h.tape, k.output.trans h.output, Nat.le_trans h.size k.size, fun i hi hF => (k.block i hi).trans (h.blk i hi hF), h.grow⟩
theorem Ch.low {F F' : Nat → Prop} {w w' : World} {B : Nat} (h : Ch F F' w w') (hF : ∀ k, F k → B ≤ k) (hB : B ≤ w.heap.size) : ∀ k, F' k → B ≤ k := fun k hk => by
  rcases h.grow k hk with h1 | h1
  · exact hF k h1
  · omega

section
variable {w w' : World} {B : Nat} {T : TypeId} {n : Nat} {v : Value} {len : Nat} {xs : List Value}
theorem own_type (h : w.ownsRow B T n v len xs) {k : Nat} (hk : v.ownBlock = some k) : B ≤ k ∧ k < w.heap.size ∧ ∃ c, w.heap[k]? = some (.cells c T (0, 0)) := by
  obtain ⟨hl, h0 | ⟨gb, cap, cur, rfl, hB, hg, r⟩⟩ := h
  · rw [h0.1] at hk
    cases hk
  · have e : gb = k := Option.some.inj hk
    subst e
    exact ⟨hB, lt_of_blk hg, cur, hg⟩
theorem own_keep (h : w.ownsRow B T n v len xs) (hb : ∀ k, v.ownBlock = some k → w'.heap[k]? = w.heap[k]?) : w'.ownsRow B T n v len xs := by
  obtain ⟨hl, h0 | ⟨gb, cap, cur, rfl, hB, hg, r⟩⟩ := h
  · exact ⟨hl, .inl h0⟩
  · exact ⟨hl, .inr ⟨gb, cap, cur, rfl, hB, (hb gb rfl).trans hg, r⟩⟩
end
section
variable {w : World} {B : Nat} {T : TypeId} {n : Nat} {v : Value} {len : Nat} {xs : List Value}
theorem own_slice (h : w.ownsRow B T n v len xs) : ∃ a c, v = .slice a len c ∧ len ≤ c ∧ c ≤ maxLen := by
  rcases h.2 with ⟨rfl, rfl⟩ | ⟨b, c, cur, rfl, _, _, h1, h2, _⟩
  · exact ⟨_, _, rfl, Nat.le_refl _, by unfold maxLen; omega⟩
  · exact ⟨_, _, rfl, h1, h2⟩
end
theorem step_appV {TS : TypeId} {w : World} {ops : Array Oper} {o : Oper} {a : Act} {K : Act → World → Prop} {Q : Exit → Act → World → Prop} {E : Prop} (s x : Operand) (v vx : Value) (R : Value → World → Prop)
    (hrun : ∀ ty, ∃ v' w', (Builtin.append_ #[TS, TS] ty #[v, vx]).run Tryd.prog w = .ok v' w' ∧ R v' w') (hw : Region.wanted o (yielded ops a.tmps) = true)
    (ho : o.op = .call { callee := .builtin .append, args := #[s, x], argTypes := #[TS, TS] }) (hs : a.eval s = v) (hx : a.eval x = vx)
    (h : ∀ v' w', R v' w' → K (a.put o.dst v') w') : if Region.wanted o (yielded ops a.tmps) = true then Oper.wp Tryd.prog o a w K Q else E := by
  rw [if_pos hw]
  obtain ⟨v', w', hr, hR⟩ := hrun o.type
  unfold Oper.wp execOp
  simp only [ho, resolve, invoke, builtin, Sem.run_bind, Sem.run_pure, Result.andThen_ok, List.map_toArray, List.map_cons, List.map_nil, hs, hx, hr]
  exact h v' w' hR


def yys (l : List Int) : List Value := l.map (Value.int .u8)
theorem info_u8 : (Tryd.prog.info? 5).map (fun i => (i.zero, i.size, i.bytes)) = some (some (.int .u8 0), 1, 1) := by kernel_rfl
theorem pushY {w : World} {v : Value} {l : List Int} {n gx : Nat} (hn : n = l.length) (hl : n ≤ 1000000) (ho : w.ownsRow 0 5 1 v n (yys l)) (x : Int) (hx : w.cell? ⟨gx, 0, none⟩ = some (.int .u8 x)) (ty : TypeId) :
    ∃ v' w', (Builtin.append_ #[33, 33] ty #[v, .slice (some ⟨gx, 0, none⟩) 1 1]).run Tryd.prog w = .ok v' w' ∧ ((∃ a c, v' = .slice a (n + 1) c) ∧ w'.ownsRow 0 5 1 v' (n + 1) (yys (l ++ [x])) ∧ w.grownBy w' v.ownBlock ∧ (∀ k, v'.ownBlock = some k → v.ownBlock = some k ∨ w.heap.size ≤ k)) := by
  obtain ⟨ie, hi, hz0, hz1, hz2⟩ := info_parts info_u8
  have hc : ∀ (j : Nat) (u : Value), (yys [x])[j]? = some u → w.cell? ((⟨gx, 0, none⟩ : Addr).add j) = some u := fun j u hu => by
    cases j with
    | zero =>
      simp [yys] at hu
      subst hu
      exact hx
    | succ j => simp [yys] at hu
  obtain ⟨v', w', hr, ho', hg, _, hat⟩ := run_append_own_at (P := Tryd.prog) w 0 33 ty 5 ie _ 1 1 Tryd.underlying33 hi hz0 hz1 hz2 rfl (by decide) v n (yys l) ho ⟨gx, 0, none⟩ 1 1 (yys [x]) rfl hc (fun u hu => by simp [yys] at hu; subst hu; rfl) (by unfold maxLen; omega) (by omega) (Nat.zero_le _)
  obtain ⟨a9, c9, e9, _⟩ := own_slice ho'
  refine ⟨v', w', hr, ⟨_, _, e9⟩, by rw [show yys (l ++ [x]) = yys l ++ yys [x] by simp [yys]]; exact ho', hg, fun k hk => ?_⟩
  rcases hat with e | e
  · exact .inl (e.symm.trans hk)
  · rw [e] at hk
    right
    have := Option.some.inj hk
    omega

/-- a writer, in block g: the bytes l; G what it may write -/
structure Wv (w : World) (g : Nat) (G : Nat → Prop) (v : Value) (l : List Int) : Prop where
  at_ : w.heap[g]? = some (.cells #[v] 61 (0, 0))
  own : w.ownsRow 0 5 1 v l.length (yys l)
  ne : v.ownBlock ≠ some g
  gg : ∀ k, G k ↔ k = g ∨ v.ownBlock = some k
def Wr (w : World) (g : Nat) (G : Nat → Prop) (l : List Int) : Prop := ∃ v, Wv w g G v l
theorem Wv.keep {w w' : World} {g : Nat} {G : Nat → Prop} {v : Value} {l : List Int} (h : Wv w g G v l) (hb : ∀ k, G k → k < w.heap.size → w'.heap[k]? = w.heap[k]?) : Wv w' g G v l :=
  ⟨(hb g ((h.gg g).2 (.inl rfl)) (lt_of_blk h.at_)).trans h.at_, own_keep h.own (fun k hk => hb k ((h.gg k).2 (.inr hk)) (own_type h.own hk).2.1), h.ne, h.gg⟩
theorem Wr.bel {w w' : World} {g : Nat} {G : Nat → Prop} {l : List Int} (h : Wr w g G l) (hb : Below w.heap.size w w') : Wr w' g G l := by
  obtain ⟨v, h⟩ := h
  exact ⟨v, h.keep (fun k _ hk => hb.block k hk)⟩
theorem Wv.lt {w : World} {g : Nat} {G : Nat → Prop} {v : Value} {l : List Int} (h : Wv w g G v l) {k : Nat} (hk : G k) : k < w.heap.size := by
  rcases (h.gg k).1 hk with rfl | hk
  · exact lt_of_blk h.at_
  · exact (own_type h.own hk).2.1
/-- a byte more: the row has grown, and is put in -/
theorem Wv.put {w w' : World} {g : Nat} {G : Nat → Prop} {v v' : Value} {l : List Int} {x : Int} (h : Wv w g G v l) (ho : w'.ownsRow 0 5 1 v' (l.length + 1) (yys (l ++ [x]))) (hg : w.grownBy w' v.ownBlock) (hk : ∀ k, v'.ownBlock = some k → v.ownBlock = some k ∨ w.heap.size ≤ k) :
    w'.heap[g]? = some (.cells #[v] 61 (0, 0)) ∧ ∃ G', Wv (w'.setCell ⟨g, 0, none⟩ v') g G' v' (l ++ [x]) ∧ Ch G G' w (w'.setCell ⟨g, 0, none⟩ v') := by
  have hgg : g < w.heap.size := lt_of_blk h.at_
  have ha := (hg.block g hgg (fun e => h.ne e.symm)).trans h.at_
  obtain ⟨k1, t1⟩ := set1 ha 0 v'
  have hne : v'.ownBlock ≠ some g := fun e => by
    rcases hk g e with h1 | h1
    · exact h.ne h1
    · omega
  refine ⟨ha, fun k => k = g ∨ v'.ownBlock = some k, ⟨k1, ?_, hne, fun k => Iff.rfl⟩, ?_⟩
  · rw [List.length_append, List.length_singleton]
    exact own_keep ho (fun k e => t1.blk k (own_type ho e).2.1 (fun e2 => hne (by rw [e, e2])))
  · refine ⟨t1.os.trans hg.os, t1.tape.trans hg.tape, t1.output.trans hg.output, Nat.le_trans hg.size t1.size, fun k hk2 hG => ?_, fun k hk2 => ?_⟩
    · have h1 : k ≠ g := fun e => hG ((h.gg k).2 (.inl e))
      have h2 : some k ≠ v.ownBlock := fun e => hG ((h.gg k).2 (.inr e.symm))
      exact (t1.blk k (Nat.lt_of_lt_of_le hk2 hg.size) h1).trans (hg.block k hk2 h2)
    · rcases hk2 with e | e
      · exact .inl ((h.gg k).2 (.inl e))
      · exact (hk k e).imp (fun q => (h.gg k).2 (.inr q)) id
theorem big_step (n m : Nat) (u : Nat) (h : m < n) : bigL (n - (m + 1)) ((u : Int) / 2 ^ (8 * (m + 1))) ++ [(u : Int) / 2 ^ (8 * m) % 256] = bigL (n - m) ((u : Int) / 2 ^ (8 * m)) := by
  obtain ⟨k, hk⟩ : ∃ k, n - m = k + 1 := ⟨n - m - 1, by omega⟩
  rw [hk, show n - (m + 1) = k by omega]
  simp only [bigL]
  congr 2
  rw [show 8 * (m + 1) = 8 * m + 8 by omega, Int.pow_add, Int.ediv_ediv_of_nonneg (by exact Int.pow_nonneg (by decide))]
  rfl
end Go.Proofs.YtigfjjolfeenaaaDoor.Ck
