/- The states of a script and what they took, in two slices; what a call turns; no Go text is walked here. -/
import Derived.Test.YtejhhkhaoekkiaaDoorVs
namespace Go.Proofs.YtejhhkhaoekkiaaDoor.Ck
open Go.RowKit

def ptrs (G : Nat → Nat) (q : Nat) : List Value := (List.range q).map fun i => .pointer (some ⟨G i, 0, none⟩)
def vals (V : Nat → Value) (q : Nat) : List Value := (List.range q).map V
theorem ptrs_len (G : Nat → Nat) (q : Nat) : (ptrs G q).length = q := by simp [ptrs]
theorem vals_len (V : Nat → Value) (q : Nat) : (vals V q).length = q := by simp [vals]
theorem ptrs_at (G : Nat → Nat) (q i : Nat) (h : i < q) : (ptrs G q)[i]? = some (.pointer (some ⟨G i, 0, none⟩)) := by simp [ptrs, h]
theorem vals_at (V : Nat → Value) (q i : Nat) (h : i < q) : (vals V q)[i]? = some (V i) := by simp [vals, h]
/-- f, but x at k -/
def upd {α : Type} (f : Nat → α) (k : Nat) (x : α) : Nat → α := fun i => if i = k then x else f i
theorem upd_same {α : Type} (f : Nat → α) (k : Nat) (x : α) : upd f k x k = x := by simp [upd]
theorem upd_other {α : Type} (f : Nat → α) (k : Nat) (x : α) (i : Nat) (h : i ≠ k) : upd f k x i = f i := by simp [upd, h]
theorem ptrs_snoc (G : Nat → Nat) (q g : Nat) : ptrs G q ++ [.pointer (some ⟨g, 0, none⟩)] = ptrs (upd G q g) (q + 1) := by
  unfold ptrs
  rw [List.range_succ, List.map_append, List.map_singleton, upd_same]
  congr 1
  apply List.map_congr_left
  intro i hi
  rw [upd_other _ _ _ _ (by have := List.mem_range.1 hi; omega)]
theorem vals_snoc (V : Nat → Value) (q : Nat) (v : Value) : vals V q ++ [v] = vals (upd V q v) (q + 1) := by
  unfold vals
  rw [List.range_succ, List.map_append, List.map_singleton, upd_same]
  congr 1
  apply List.map_congr_left
  intro i hi
  rw [upd_other _ _ _ _ (by have := List.mem_range.1 hi; omega)]
theorem vals_set (V : Nat → Value) (q k : Nat) (v : Value) : (vals V q).set k v = vals (upd V k v) q := by
  apply List.ext_getElem?
  intro i
  rw [List.getElem?_set]
  by_cases hi : i < q
  · rw [vals_at _ _ _ hi, vals_at _ _ _ hi]
    by_cases e : k = i
    · subst e
      rw [if_pos rfl, if_pos (by rw [vals_len]; exact hi), upd_same]
    · rw [if_neg e, upd_other _ _ _ _ (Ne.symm e)]
  · rw [List.getElem?_eq_none (by rw [vals_len]; omega), List.getElem?_eq_none (by rw [vals_len]; omega)]
    by_cases e : k = i
    · rw [if_pos e, if_neg (by rw [vals_len]; omega)]
    · rw [if_neg e]

theorem SB.one {w : World} {v : Value} {m : List Int} (h : SB w v m) : v.oneCell' = true := by
  obtain ⟨_, a, c, rfl, _⟩ := h
  rfl

/-- q states G i that took M i, their pointers in the slice of block gl; slices V i that hold N i, in the slice of block gt; all of it apart -/
structure Sts (w wr : World) (B gl cl gt ct q : Nat) (G : Nat → Nat) (V : Nat → Value) (M N : Nat → List Int) : Prop where
  l : OwnV 26 wr B gl cl (ptrs G q)
  t : OwnV 29 wr B gt ct (vals V q)
  lt : gl ≠ gt
  st : ∀ i, i < q → St wr (G i) (M i) ∧ B ≤ G i ∧ G i ≠ gl ∧ G i ≠ gt
  dj : ∀ i j, i < q → j < q → i ≠ j → G i ≠ G j
  sb : ∀ i, i < q → SB wr (V i) (N i)
  off : ∀ i, i < q → OffB gl (V i) ∧ OffB gt (V i) ∧ ∀ j, j < q → OffB (G j) (V i)
  bel : Below B w wr
  big : B ≤ wr.heap.size

theorem Sts.grow {w wr w' : World} {B gl cl gt ct q : Nat} {G : Nat → Nat} {V : Nat → Value} {M N : Nat → List Int} (h : Sts w wr B gl cl gt ct q G V M N) (hb : Below wr.heap.size wr w') : Sts w w' B gl cl gt ct q G V M N :=
  ⟨h.l.below hb, h.t.below hb, h.lt, fun i hi => ⟨(h.st i hi).1.bel hb, (h.st i hi).2⟩, h.dj, fun i hi => (h.sb i hi).bel hb, h.off, h.bel.trans (hb.mono h.big), Nat.le_trans h.big hb.size⟩
theorem Sts.drew {w wr : World} {B gl cl gt ct q : Nat} {G : Nat → Nat} {V : Nat → Value} {M N : Nat → List Int} (h : Sts w wr B gl cl gt ct q G V M N) : Sts w wr.drew B gl cl gt ct q G V M N :=
  h.grow ⟨rfl, rfl, rfl, Nat.le_refl _, fun _ _ => rfl⟩
/-- state k takes bytes -/
theorem Sts.take {w wr w' : World} {B gl cl gt ct q : Nat} {G : Nat → Nat} {V : Nat → Value} {M N : Nat → List Int} (h : Sts w wr B gl cl gt ct q G V M N) {k : Nat} (hk : k < q) {x : List Int} (hs : St w' (G k) x) (ht : Tn (G k) wr w') : Sts w w' B gl cl gt ct q G V (upd M k x) N :=
  ⟨h.l.tn ht (Ne.symm (h.st k hk).2.2.1), h.t.tn ht (Ne.symm (h.st k hk).2.2.2), h.lt, fun i hi => by
    refine ⟨?_, (h.st i hi).2⟩
    by_cases e : i = k
    · subst e; rw [upd_same]; exact hs
    · rw [upd_other _ _ _ _ e]; exact (h.st i hi).1.tn ht (h.dj i k hi hk e), h.dj, fun i hi => (h.sb i hi).tn ((h.off i hi).2.2 k hk) ht, h.off, h.bel.trans (ht.bel (h.st k hk).2.1 h.big), Nat.le_trans h.big ht.size⟩
/-- what state k took is told anew, by a slice that is new -/
theorem Sts.told {w wr : World} {B gl cl gt ct q : Nat} {G : Nat → Nat} {V : Nat → Value} {M N : Nat → List Int} (h : Sts w wr B gl cl gt ct q G V M N) {k : Nat} {v : Value} {x : List Int} (hv : SB wr v x) (h1 : OffB gl v) (h2 : OffB gt v) (h3 : ∀ j, j < q → OffB (G j) v) :
    Sts w (wr.setCell ⟨gt, k, none⟩ v) B gl cl gt ct q G (upd V k v) M (upd N k x) := by
  have T := h.t.set k v
  rw [vals_set] at T
  refine ⟨h.l.tn T.2 h.lt, T.1, h.lt, fun i hi => ⟨(h.st i hi).1.tn T.2 (h.st i hi).2.2.2, (h.st i hi).2⟩, h.dj, fun i hi => ?_, fun i hi => ?_, h.bel.trans (T.2.bel h.t.ge h.big), Nat.le_trans h.big T.2.size⟩
  · by_cases e : i = k
    · subst e; rw [upd_same, upd_same]; exact hv.tn h2 T.2
    · rw [upd_other _ _ _ _ e, upd_other _ _ _ _ e]; exact (h.sb i hi).tn (h.off i hi).2.1 T.2
  · by_cases e : i = k
    · subst e; rw [upd_same]; exact ⟨h1, h2, h3⟩
    · rw [upd_other _ _ _ _ e]; exact h.off i hi

/-- the list of states has one more, which is new, and so has the list of what was told -/
theorem Sts.copied {w wr wl wt : World} {B gl cl gt ct q : Nat} {G : Nat → Nat} {V : Nat → Value} {M N : Nat → List Int} (h : Sts w wr B gl cl gt ct q G V M N) {k g gl' cl' gt' ct' : Nat} (hk : k < q)
    (hs : St wt g (M k)) (hg : B ≤ g) (hgV : ∀ i, i < q → G i ≠ g ∧ OffB g (V i)) (hgl : g ≠ gl' ∧ g ≠ gt')
    (ol : OwnV 26 wt B gl' cl' (ptrs G q ++ [.pointer (some ⟨g, 0, none⟩)])) (ot : OwnV 29 wt B gt' ct' (vals V q ++ [V k])) (hlt : gl' ≠ gt') (t1 : Tn gl wr wl) (t2 : Tn gt wl wt)
    (nl : ∀ i, i < q → G i ≠ gl' ∧ OffB gl' (V i)) (nt : ∀ i, i < q → G i ≠ gt' ∧ OffB gt' (V i)) : Sts w wt B gl' cl' gt' ct' (q + 1) (upd G q g) (upd V q (V k)) (upd M q (M k)) (upd N q (N k)) := by
  rw [ptrs_snoc] at ol
  rw [vals_snoc] at ot
  have keyS : ∀ i, i < q → St wt (G i) (M i) := fun i hi => ((h.st i hi).1.tn t1 (h.st i hi).2.2.1).tn t2 (h.st i hi).2.2.2
  have keyV : ∀ i, i < q → SB wt (V i) (N i) := fun i hi => ((h.sb i hi).tn (h.off i hi).1 t1).tn (h.off i hi).2.1 t2
  refine ⟨ol, ot, hlt, fun i hi => ?_, fun i j hi hj hij => ?_, fun i hi => ?_, fun i hi => ?_, ?_, Nat.le_trans h.big (Nat.le_trans t1.size t2.size)⟩
  · by_cases e : i = q
    · subst e; rw [upd_same, upd_same]; exact ⟨hs, hg, hgl.1, hgl.2⟩
    · have hi' : i < q := by omega
      rw [upd_other _ _ _ _ e, upd_other _ _ _ _ e]
      exact ⟨keyS i hi', (h.st i hi').2.1, (nl i hi').1, (nt i hi').1⟩
  · by_cases e : i = q
    · subst e
      rw [upd_same, upd_other _ _ _ _ (Ne.symm hij)]
      exact Ne.symm (hgV j (by omega)).1
    · by_cases e2 : j = q
      · subst e2
        rw [upd_same, upd_other _ _ _ _ e]
        exact (hgV i (by omega)).1
      · rw [upd_other _ _ _ _ e, upd_other _ _ _ _ e2]
        exact h.dj i j (by omega) (by omega) hij
  · by_cases e : i = q
    · subst e; rw [upd_same, upd_same]; exact keyV k hk
    · rw [upd_other _ _ _ _ e, upd_other _ _ _ _ e]; exact keyV i (by omega)
  · have key : ∀ i', i' < q → OffB gl' (V i') ∧ OffB gt' (V i') ∧ ∀ j, j < q + 1 → OffB (upd G q g j) (V i') := fun i' hi' => by
      refine ⟨(nl i' hi').2, (nt i' hi').2, fun j hj => ?_⟩
      by_cases e : j = q
      · subst e; rw [upd_same]; exact (hgV i' hi').2
      · rw [upd_other _ _ _ _ e]; exact (h.off i' hi').2.2 j (by omega)
    by_cases e : i = q
    · subst e; rw [upd_same]; exact key k hk
    · rw [upd_other _ _ _ _ e]; exact key i (by omega)
  · exact (h.bel.trans (t1.bel h.l.ge h.big)).trans (t2.bel h.t.ge (Nat.le_trans h.big t1.size))

end Go.Proofs.YtejhhkhaoekkiaaDoor.Ck
