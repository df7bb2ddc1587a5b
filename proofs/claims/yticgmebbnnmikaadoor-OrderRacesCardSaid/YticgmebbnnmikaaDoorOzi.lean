/- Package order's walk knows just what the document calls happening before. No Go text is walked here. -/
import Derived.Test.YticgmebbnnmikaaDoorOzh
namespace Go.Proofs.YticgmebbnnmikaaDoor.Ck
open Go.RowKit

/-- the places of the first n events of a kind and an object -/
def Lst (T : List Ev) (kd o : Int) (n : Nat) (l : List Int) : Prop := l.length = cntE T kd o n ∧ ∀ m, m < l.length → ∃ i : Nat, i < n ∧ l.getD m 0 = i ∧ (kOf T i = kd ∧ oOf T i = o) ∧ cntE T kd o i = m
theorem Lst.skip {T : List Ev} {kd o : Int} {n : Nat} {l : List Int} (h : Lst T kd o n l) (hk : ¬ (kOf T n = kd ∧ oOf T n = o)) : Lst T kd o (n + 1) l := by
  refine ⟨?_, fun m hm => ?_⟩
  · rw [h.1]
    show _ = if kOf T n = kd ∧ oOf T n = o then _ else _
    rw [if_neg hk]
  · obtain ⟨i, h1, h2⟩ := h.2 m hm
    exact ⟨i, by omega, h2⟩
theorem Lst.more {T : List Ev} {kd o : Int} {n : Nat} {l : List Int} (h : Lst T kd o n l) (hk : kOf T n = kd ∧ oOf T n = o) : Lst T kd o (n + 1) (l ++ [(n : Int)]) := by
  refine ⟨?_, fun m hm => ?_⟩
  · rw [List.length_append, h.1]
    show _ = if kOf T n = kd ∧ oOf T n = o then _ else _
    rw [if_pos hk]
    rfl
  · rw [List.length_append, List.length_singleton] at hm
    by_cases e : m = l.length
    · refine ⟨n, Nat.lt_succ_self _, ?_, hk, by rw [e, h.1]⟩
      rw [e, List.getD_eq_getElem?_getD, List.getElem?_append_right (Nat.le_refl _)]
      simp
    · obtain ⟨i, h1, h2, h3⟩ := h.2 m (by omega)
      refine ⟨i, by omega, ?_, h3⟩
      rw [← h2, List.getD_eq_getElem?_getD, List.getD_eq_getElem?_getD, List.getElem?_append_left (by omega)]
/-- the event that stands at a place of such a list, by its count -/
theorem Lst.at {T : List Ev} {kd o : Int} {n : Nat} {l : List Int} (h : Lst T kd o n l) {i : Nat} (hi : i < n) (hk : kOf T i = kd ∧ oOf T i = o) : cntE T kd o i < l.length ∧ l.getD (cntE T kd o i) 0 = i := by
  have h1 : cntE T kd o i < l.length := by rw [h.1]; exact cntE_lt T kd o hi hk
  refine ⟨h1, ?_⟩
  obtain ⟨j, _, h2, h3, h4⟩ := h.2 _ h1
  rw [h2, cntE_inj T kd o h3 hk h4]
/-- does the next event of a goroutine know an event, whatever it does? -/
def toG (T : List Ev) (R : List Int) (k g : Nat) : Prop :=
  gOf T k = g ∨ (kOf T k = 10 ∧ (oOf T k).toNat = g) ∨ (kOf T k = 6 ∧ roomM R (oOf T k) = 0 ∧ ∃ s, s < k ∧ (kOf T s = 5 ∧ oOf T s = oOf T k) ∧ cntE T 5 (oOf T k) s = cntE T 6 (oOf T k) k ∧ gOf T s = g)
theorem gOf_cast {T : List Ev} (hF : formT T = true) {i : Nat} (hi : i < T.length) : (T.getD i zE).g = (gOf T i : Nat) := by
  have := evB_out (formT_at hF i hi)
  unfold gOf
  omega
theorem back_iff {T : List Ev} (hF : formT T = true) {i j : Nat} (hi : i < T.length) (hj : j < T.length) (hk : kOf T i = 6) : backB T i (T.getD j zE).g = true ↔ ∃ s, s < i ∧ (kOf T s = 5 ∧ oOf T s = oOf T i) ∧ cntE T 5 (oOf T i) s = cntE T 6 (oOf T i) i ∧ gOf T s = gOf T j := by
  unfold backB
  have hw : whM T i = cntE T 6 (oOf T i) i := by unfold whM; rw [hk]
  rw [hw, gOf_cast hF hj]
  simp only [Bool.and_eq_true, decide_eq_true_eq]
  rcases nthF_out T 5 (oOf T i) (cntE T 6 (oOf T i) i) T.length (Nat.le_refl _) with ⟨h1, h2⟩ | ⟨q, q1, q2, q3, q4⟩
  · have h1' : nthM T 5 (oOf T i) (cntE T 6 (oOf T i) i) = -1 := h1
    rw [h1']
    refine ⟨fun ⟨⟨a, _⟩, _⟩ => by omega, fun ⟨s, s1, s2, s3, s4⟩ => absurd ⟨s2, s3⟩ (h2 s (by omega) (by omega))⟩
  · have q2' : nthM T 5 (oOf T i) (cntE T 6 (oOf T i) i) = (q : Nat) := q2
    rw [q2']
    refine ⟨fun ⟨⟨_, a⟩, b⟩ => ⟨q, by omega, q3, q4, ?_⟩, fun ⟨s, s1, s2, s3, s4⟩ => ?_⟩
    · rw [Int.toNat_natCast, gOf_cast hF q1] at b
      omega
    · obtain rfl : s = q := cntE_inj T 5 (oOf T i) s2 q3 (by omega)
      refine ⟨⟨by omega, by omega⟩, ?_⟩
      rw [Int.toNat_natCast, gOf_cast hF q1]
      omega
/-- the four ways by an object -/
def byO (T : List Ev) (R : List Int) (i j : Nat) : Prop :=
  oOf T i = oOf T j ∧ ((kOf T i = 4 ∧ kOf T j = 3) ∨ (atB (kOf T i) = true ∧ atB (kOf T j) = true) ∨ (kOf T i = 5 ∧ kOf T j = 6 ∧ cntE T 5 (oOf T i) i = cntE T 6 (oOf T j) j) ∨
    (kOf T i = 6 ∧ kOf T j = 5 ∧ 0 < roomM R (oOf T i) ∧ roomM R (oOf T i) ≤ cntE T 5 (oOf T j) j ∧ (cntE T 5 (oOf T j) j : Int) - roomM R (oOf T i) = cntE T 6 (oOf T i) i))
theorem dir_iff {T : List Ev} {R : List Int} (hF : formT T = true) {i j : Nat} (hi : i < T.length) (hj : j < T.length) : dirM T R i j = true ↔ toG T R i (gOf T j) ∨ byO T R i j := by
  have hi' := evB_out (formT_at hF i hi)
  unfold dirM toG byO
  simp only [Bool.or_eq_true, Bool.and_eq_true, decide_eq_true_eq]
  rw [gOf_cast hF hi]
  have hO : kOf T i = 10 → (oOf T i = ((T.getD j zE).g) ↔ (oOf T i).toNat = gOf T j) := fun e => by
    have := hi'.2.2.2.2 e
    rw [gOf_cast hF hj]
    unfold oOf
    omega
  have hB : kOf T i = 6 → (backB T i (T.getD j zE).g = true ↔ _) := fun e => back_iff hF hi hj e
  rw [gOf_cast hF hj]
  rw [gOf_cast hF hj] at hB hO
  unfold whM
  constructor
  · rintro (((h | ⟨h1, h2⟩) | ⟨⟨h1, h2⟩, h3⟩) | ⟨h0, ((⟨h1, h2⟩ | ⟨h1, h2⟩) | ⟨⟨h1, h2⟩, h3⟩) | ⟨⟨⟨⟨h1, h2⟩, h3⟩, h4⟩, h5⟩⟩)
    · exact .inl (.inl (by omega))
    · exact .inl (.inr (.inl ⟨h1, (hO h1).1 h2⟩))
    · exact .inl (.inr (.inr ⟨h1, h2, (hB h1).1 h3⟩))
    · exact .inr ⟨h0, .inl ⟨h1, h2⟩⟩
    · exact .inr ⟨h0, .inr (.inl ⟨h1, h2⟩)⟩
    · rw [h1, h2] at h3
      exact .inr ⟨h0, .inr (.inr (.inl ⟨h1, h2, h3⟩))⟩
    · rw [h2] at h4 h5
      rw [h1] at h5
      exact .inr ⟨h0, .inr (.inr (.inr ⟨h1, h2, h3, h4, h5⟩))⟩
  · rintro ((h | ⟨h1, h2⟩ | ⟨h1, h2, h3⟩) | ⟨h0, ⟨h1, h2⟩ | ⟨h1, h2⟩ | ⟨h1, h2, h3⟩ | ⟨h1, h2, h3, h4, h5⟩⟩)
    · exact .inl (.inl (.inl (by omega)))
    · exact .inl (.inl (.inr ⟨h1, (hO h1).2 h2⟩))
    · exact .inl (.inr ⟨⟨h1, h2⟩, (hB h1).2 h3⟩)
    · exact .inr ⟨h0, .inl (.inl (.inl ⟨h1, h2⟩))⟩
    · exact .inr ⟨h0, .inl (.inl (.inr ⟨h1, h2⟩))⟩
    · exact .inr ⟨h0, .inl (.inr ⟨⟨h1, h2⟩, by rw [h1, h2]; exact h3⟩)⟩
    · exact .inr ⟨h0, .inr ⟨⟨⟨⟨h1, h2⟩, h3⟩, by rw [h2]; exact h4⟩, by rw [h1, h2]; exact h5⟩⟩
/-- what the walk knows, by the document's order -/
structure Wv (T : List Ev) (R : List Int) (W : Wk) (n : Nat) : Prop where
  len : W.past.length = n
  past : ∀ j, j < n → Rp T (W.past.getD j sn0) (Dn T R j)
  gos : ∀ g, g < 8 → Rp T (W.gos g) (fun i => ∃ k, k < n ∧ toG T R k g ∧ Dn T R k i)
  mu : ∀ o, Rp T (W.mu o) (fun i => ∃ k, k < n ∧ (kOf T k = 4 ∧ oOf T k = o) ∧ Dn T R k i)
  at_ : ∀ o, Rp T (W.at_ o) (fun i => ∃ k, k < n ∧ (atB (kOf T k) = true ∧ oOf T k = o) ∧ Dn T R k i)
  ss : ∀ o, Lst T 5 o n (W.ss o)
  rs : ∀ o, Lst T 6 o n (W.rs o)
theorem wv_zero (T : List Ev) (R : List Int) : Wv T R wk0 0 :=
  ⟨rfl, fun j h => by omega, fun g _ => (Rp.nil T).iff fun i => ⟨fun h => h.elim, fun ⟨k, h, _⟩ => by omega⟩, fun o => (Rp.nil T).iff fun i => ⟨fun h => h.elim, fun ⟨k, h, _⟩ => by omega⟩, fun o => (Rp.nil T).iff fun i => ⟨fun h => h.elim, fun ⟨k, h, _⟩ => by omega⟩, fun o => ⟨rfl, fun m h => absurd h (Nat.not_lt_zero _)⟩, fun o => ⟨rfl, fun m h => absurd h (Nat.not_lt_zero _)⟩⟩
theorem at_iff (k : Int) : atB k = true ↔ k = 7 ∨ k = 8 ∨ k = 9 := by
  unfold atB
  simp only [Bool.or_eq_true, beq_iff_eq]
  omega
/-- what an event learns -/
theorem Wv.learn {T : List Ev} {R : List Int} {W : Wk} {n : Nat} (hF : formT T = true) (hn : n < T.length) (h : Wv T R W n) : Rp T (learnM R W (W.gos (gOf T n)) (T.getD n zE)) (fun i => ∃ k, k < n ∧ dirM T R k n = true ∧ Dn T R k i) := by
  have hg : gOf T n < 8 := gOf_lt hF n
  have G := h.gos _ hg
  have DI : ∀ k, k < n → (dirM T R k n = true ↔ toG T R k (gOf T n) ∨ byO T R k n) := fun k hk => dir_iff hF (by omega) hn
  -- where nothing is learnt by way of the object
  have none : (∀ k, k < n → ¬ byO T R k n) → Rp T (W.gos (gOf T n)) (fun i => ∃ k, k < n ∧ dirM T R k n = true ∧ Dn T R k i) := fun hb => G.iff fun i =>
    ⟨fun ⟨k, h1, h2, h3⟩ => ⟨k, h1, (DI k h1).2 (.inl h2), h3⟩, fun ⟨k, h1, h2, h3⟩ => ⟨k, h1, ((DI k h1).1 h2).resolve_right (hb k h1), h3⟩⟩
  -- where something is
  have some_ : ∀ (t : Sn) (E : Nat → Prop), Rp T t (fun i => ∃ k, k < n ∧ E k ∧ Dn T R k i) → (∀ k, k < n → (byO T R k n ↔ E k)) → Rp T (Ck.jn (W.gos (gOf T n)) t) (fun i => ∃ k, k < n ∧ dirM T R k n = true ∧ Dn T R k i) := fun t E ht hE => (G.jn ht).iff fun i =>
    ⟨fun hx => by
      rcases hx with ⟨k, h1, h2, h3⟩ | ⟨k, h1, h2, h3⟩
      · exact ⟨k, h1, (DI k h1).2 (.inl h2), h3⟩
      · exact ⟨k, h1, (DI k h1).2 (.inr ((hE k h1).2 h2)), h3⟩, fun ⟨k, h1, h2, h3⟩ => by
      rcases (DI k h1).1 h2 with h4 | h4
      · exact .inl ⟨k, h1, h4, h3⟩
      · exact .inr ⟨k, h1, (hE k h1).1 h4, h3⟩⟩
  have one : ∀ q, q < n → Rp T (W.past.getD q sn0) (fun i => ∃ k, k < n ∧ k = q ∧ Dn T R k i) := fun q hq => (h.past q hq).iff fun i =>
    ⟨fun h1 => ⟨q, hq, rfl, h1⟩, fun ⟨k, _, h2, h3⟩ => by rw [← h2]; exact h3⟩
  have ek : (T.getD n zE).k = kOf T n := rfl
  have eo : (T.getD n zE).o = oOf T n := rfl
  unfold learnM
  rw [ek, eo]
  split
  · rename_i c
    refine some_ _ _ (h.mu _) fun k hk => ?_
    unfold byO
    rw [c]
    have : atB 3 = false := rfl
    rw [this]
    constructor
    · rintro ⟨h0, ⟨h1, _⟩ | ⟨_, h1⟩ | ⟨_, h1, _⟩ | ⟨_, h1, _⟩⟩
      · exact ⟨h1, h0⟩
      · cases h1
      · omega
      · omega
    · exact fun ⟨h1, h0⟩ => ⟨h0, .inl ⟨h1, rfl⟩⟩
  split
  · rename_i c
    refine some_ _ _ (h.at_ _) fun k hk => ?_
    have hat := (at_iff (kOf T n)).2 c
    unfold byO
    rw [hat]
    constructor
    · rintro ⟨h0, ⟨_, h1⟩ | ⟨h1, _⟩ | ⟨_, h1, _⟩ | ⟨_, h1, _⟩⟩
      · omega
      · exact ⟨h1, h0⟩
      · omega
      · omega
    · exact fun ⟨h1, h0⟩ => ⟨h0, .inr (.inl ⟨h1, rfl⟩)⟩
  have na : ∀ {k : Nat}, kOf T k = 5 ∨ kOf T k = 6 → atB (kOf T k) ≠ true := fun hc hx => by
    have := (at_iff _).1 hx
    omega
  split
  · rename_i c
    have ls := (h.ss (oOf T n)).1
    have lr := (h.rs (oOf T n)).1
    have hna : atB (kOf T n) ≠ true := na (.inl c)
    unfold learnS
    split
    · rename_i hr
      refine none fun k hk hb => ?_
      obtain ⟨h0, ⟨_, h1⟩ | ⟨_, h1⟩ | ⟨_, h1, _⟩ | ⟨_, _, h1, _⟩⟩ := hb
      · omega
      · exact hna h1
      · omega
      · rw [h0] at h1; omega
    rename_i hr
    have hr0 : 0 ≤ roomM R (oOf T n) := by unfold roomM; split <;> omega
    split
    · rename_i hc
      obtain ⟨m, hm⟩ : ∃ m : Nat, ((W.ss (oOf T n)).length : Int) - roomM R (oOf T n) = m := ⟨(((W.ss (oOf T n)).length : Int) - roomM R (oOf T n)).toNat, by omega⟩
      rw [hm] at hc ⊢
      rw [Int.toNat_natCast]
      obtain ⟨q, q1, q2, q3, q4⟩ := (h.rs (oOf T n)).2 m (by omega)
      rw [q2]
      unfold pastAt
      rw [Int.toNat_natCast]
      refine some_ _ _ (one q q1) fun k hk => ?_
      constructor
      · rintro ⟨h0, ⟨_, h1⟩ | ⟨_, h1⟩ | ⟨_, h1, _⟩ | ⟨h1, _, h2, h3, h4⟩⟩
        · omega
        · exact absurd h1 hna
        · omega
        · rw [h0] at h2 h3 h4
          exact cntE_inj T 6 (oOf T n) ⟨h1, h0⟩ q3 (by omega)
      · rintro rfl
        refine ⟨q3.2, .inr (.inr (.inr ⟨q3.1, c, ?_, ?_, ?_⟩))⟩ <;> rw [q3.2] <;> omega
    · rename_i hc
      refine none fun k hk hb => ?_
      obtain ⟨h0, ⟨_, h1⟩ | ⟨_, h1⟩ | ⟨_, h1, _⟩ | ⟨h1, _, h2, h3, h4⟩⟩ := hb
      · omega
      · exact hna h1
      · omega
      · rw [h0] at h2 h3 h4
        have := cntE_lt T 6 (oOf T n) hk ⟨h1, h0⟩
        omega
  split
  · rename_i c
    have ls := (h.ss (oOf T n)).1
    have lr := (h.rs (oOf T n)).1
    have hna : atB (kOf T n) ≠ true := na (.inr c)
    unfold learnR
    split
    · rename_i hc
      obtain ⟨q, q1, q2, q3, q4⟩ := (h.ss (oOf T n)).2 _ hc
      rw [q2]
      unfold pastAt
      rw [Int.toNat_natCast]
      refine some_ _ _ (one q q1) fun k hk => ?_
      constructor
      · rintro ⟨h0, ⟨_, h1⟩ | ⟨_, h1⟩ | ⟨h1, _, h2⟩ | ⟨_, h1, _⟩⟩
        · omega
        · exact absurd h1 hna
        · rw [h0] at h2
          exact cntE_inj T 5 (oOf T n) ⟨h1, h0⟩ q3 (by omega)
        · omega
      · rintro rfl
        refine ⟨q3.2, .inr (.inr (.inl ⟨q3.1, c, ?_⟩))⟩
        rw [q3.2]
        omega
    · rename_i hc
      refine none fun k hk hb => ?_
      obtain ⟨h0, ⟨_, h1⟩ | ⟨_, h1⟩ | ⟨h1, _, h2⟩ | ⟨_, h1, _⟩⟩ := hb
      · omega
      · exact hna h1
      · rw [h0] at h2
        have := cntE_lt T 5 (oOf T n) hk ⟨h1, h0⟩
        omega
      · omega
  · rename_i c1 c2 c3 c4
    refine none fun k hk hb => ?_
    obtain ⟨h0, ⟨_, h1⟩ | ⟨_, h1⟩ | ⟨_, h1, _⟩ | ⟨_, h1, _⟩⟩ := hb
    · omega
    · exact c2 ((at_iff _).1 h1)
    · omega
    · omega
/-- what an event knows -/
theorem Wv.mine {T : List Ev} {R : List Int} {W : Wk} {n : Nat} (hF : formT T = true) (hn : n < T.length) (hb : n ≤ 1000000) (h : Wv T R W n) : Rp T (mineM R W (T.getD n zE)) (Dn T R n) := by
  have L := h.learn hF hn
  have hg : gOf T n < 8 := gOf_lt hF n
  unfold mineM
  show Rp T (setS (learnM R W (W.gos (gOf T n)) (T.getD n zE)) (gOf T n) (wrap64 (learnM R W (W.gos (gOf T n)) (T.getD n zE) (gOf T n) + 1))) (Dn T R n)
  obtain ⟨s, hs⟩ : ∃ s, s = learnM R W (W.gos (gOf T n)) (T.getD n zE) := ⟨_, rfl⟩
  rw [← hs] at L ⊢
  have hc := gcnt_self T (gOf T n) n
  have sg : s (gOf T n) = gcnt T (gOf T n) n := by
    have up1 : s (gOf T n) ≤ gcnt T (gOf T n) n := by
      rcases L.dn _ hg with e | ⟨i, ⟨k, k1, _, k3⟩, g1, e⟩
      · omega
      · have := Dn_le (by omega) k3
        have := cM_lt (show i < n by omega) g1
        unfold cM at this e
        omega
    rcases gcnt_last T (gOf T n) n with e | ⟨i, i1, i2, i3⟩
    · rcases L.dn _ hg with e | ⟨i, ⟨k, k1, _, k3⟩, g1, e⟩
      · omega
      · have := cM_pos T i
        omega
    · have := L.up i ⟨i, i1, (dir_iff hF (by omega) hn).2 (.inl (.inl i2)), .inl rfl⟩
      rw [i2] at this
      omega
  have hw : wrap64 (s (gOf T n) + 1) = cM T n := by
    unfold cM wrap64
    omega
  rw [hw]
  refine ⟨fun i hi => ?_, fun g hgg => ?_⟩
  · unfold setS
    rcases (Dn_step hn i).1 hi with e | hx
    · rw [e, if_pos rfl]
      exact Int.le_refl _
    · have := L.up i hx
      split
      · rename_i e
        rw [e, sg] at this
        unfold cM at this ⊢
        omega
      · exact this
  · unfold setS
    by_cases e : g = gOf T n
    · rw [if_pos e]
      exact .inr ⟨n, .inl rfl, e.symm, rfl⟩
    · rw [if_neg e]
      exact (L.dn g hgg).imp_right fun ⟨i, h1, h2⟩ => ⟨i, (Dn_step hn i).2 (.inr h1), h2⟩
theorem ex_succ {p : Nat → Prop} {n : Nat} : (∃ k, k < n + 1 ∧ p k) ↔ (∃ k, k < n ∧ p k) ∨ p n :=
  ⟨fun ⟨k, h1, h2⟩ => by
    by_cases e : k = n
    · exact .inr (e ▸ h2)
    · exact .inl ⟨k, by omega, h2⟩, fun h => by
    rcases h with ⟨k, h1, h2⟩ | h
    · exact ⟨k, by omega, h2⟩
    · exact ⟨n, Nat.lt_succ_self _, h⟩⟩
theorem Wv.step {T : List Ev} {R : List Int} {W : Wk} {n : Nat} (hF : formT T = true) (hn : n < T.length) (hb : n ≤ 1000000) (h : Wv T R W n) : Wv T R (stepM R T W (T.getD n zE) n) (n + 1) := by
  have M := h.mine hF hn hb
  have hf := evB_out (formT_at hF n hn)
  have hg : gOf T n < 8 := gOf_lt hF n
  have DI : ∀ k, k < n → (dirM T R k n = true ↔ toG T R k (gOf T n) ∨ byO T R k n) := fun k hk => dir_iff hF (by omega) hn
  have ek : (T.getD n zE).k = kOf T n := rfl
  have eo : (T.getD n zE).o = oOf T n := rfl
  have eg : (T.getD n zE).g.toNat = gOf T n := rfl
  obtain ⟨m, hm⟩ : ∃ m, m = mineM R W (T.getD n zE) := ⟨_, rfl⟩
  rw [← hm] at M
  -- what the event's own goroutine knows then
  have own : Rp T m (fun i => ∃ k, k < n + 1 ∧ toG T R k (gOf T n) ∧ Dn T R k i) := M.iff fun i =>
    ⟨fun h1 => ⟨n, Nat.lt_succ_self _, .inl rfl, h1⟩, fun ⟨k, h1, h2, h3⟩ => by
      by_cases e : k = n
      · rw [← e]; exact h3
      · exact (Dn_step hn i).2 (.inr ⟨k, by omega, (DI k (by omega)).2 (.inl h2), h3⟩)⟩
  have ps : ∀ j, j < n + 1 → Rp T ((W.past ++ [m]).getD j sn0) (Dn T R j) := fun j hj => by
    rw [getD_snoc, h.len]
    by_cases e : j = n
    · rw [if_pos e, e]; exact M
    · rw [if_neg e]; exact h.past j (by omega)
  have pl : (W.past ++ [m]).length = n + 1 := by rw [List.length_append, h.len]; rfl
  -- goroutines, where the event is told to q, or to none
  have gosQ : ∀ q, (∀ g, toG T R n g ↔ g = gOf T n ∨ g = q) → ∀ g, g < 8 → Rp T (upd (upd W.gos (gOf T n) m) q (Ck.jn (upd W.gos (gOf T n) m q) m) g) (fun i => ∃ k, k < n + 1 ∧ toG T R k g ∧ Dn T R k i) := fun q hq g hgg => by
    have base : Rp T (upd W.gos (gOf T n) m g) (fun i => (∃ k, k < n ∧ toG T R k g ∧ Dn T R k i) ∨ (g = gOf T n ∧ Dn T R n i)) := by
      unfold upd
      by_cases e : g = gOf T n
      · rw [if_pos e, e]
        exact own.iff fun i => ex_succ.trans ⟨fun hx => hx.imp_right fun hy => ⟨rfl, hy.2⟩, fun hx => hx.imp_right fun hy => ⟨.inl rfl, hy.2⟩⟩
      · rw [if_neg e]
        exact (h.gos g hgg).iff fun i => ⟨fun hx => .inl hx, fun hx => hx.resolve_right fun hy => e hy.1⟩
    show Rp T (if g = q then Ck.jn (upd W.gos (gOf T n) m q) m else upd W.gos (gOf T n) m g) _
    by_cases e : g = q
    · rw [if_pos e, ← e]
      refine (base.jn M).iff fun i => ?_
      rw [ex_succ]
      constructor
      · rintro ((hx | ⟨hx, hy⟩) | hy)
        · exact .inl hx
        · exact .inr ⟨(hq g).2 (.inl hx), hy⟩
        · exact .inr ⟨(hq g).2 (.inr e), hy⟩
      · rintro (hx | ⟨hx, hy⟩)
        · exact .inl (.inl hx)
        · exact .inr hy
    · rw [if_neg e]
      refine base.iff fun i => ?_
      rw [ex_succ]
      refine ⟨fun hx => hx.imp_right fun ⟨h1, h2⟩ => ⟨(hq g).2 (.inl h1), h2⟩, fun hx => hx.imp_right fun ⟨h1, h2⟩ => ⟨((hq g).1 h1).resolve_right e, h2⟩⟩
  have gos0 : (∀ g, toG T R n g ↔ g = gOf T n) → ∀ g, g < 8 → Rp T (upd W.gos (gOf T n) m g) (fun i => ∃ k, k < n + 1 ∧ toG T R k g ∧ Dn T R k i) := fun hq g hgg => by
    unfold upd
    by_cases e : g = gOf T n
    · rw [if_pos e, e]
      exact own
    · rw [if_neg e]
      refine (h.gos g hgg).iff fun i => ?_
      rw [ex_succ]
      exact ⟨fun hx => .inl hx, fun hx => hx.resolve_right fun hy => e ((hq g).1 hy.1)⟩
  have mu0 : kOf T n ≠ 4 → ∀ o, Rp T (W.mu o) (fun i => ∃ k, k < n + 1 ∧ (kOf T k = 4 ∧ oOf T k = o) ∧ Dn T R k i) := fun hc o => (h.mu o).iff fun i => by
    rw [ex_succ]
    exact ⟨fun hx => .inl hx, fun hx => hx.resolve_right fun hy => hc hy.1.1⟩
  have at0 : atB (kOf T n) ≠ true → ∀ o, Rp T (W.at_ o) (fun i => ∃ k, k < n + 1 ∧ (atB (kOf T k) = true ∧ oOf T k = o) ∧ Dn T R k i) := fun hc o => (h.at_ o).iff fun i => by
    rw [ex_succ]
    exact ⟨fun hx => .inl hx, fun hx => hx.resolve_right fun hy => hc hy.1.1⟩
  have ss0 : kOf T n ≠ 5 → ∀ o, Lst T 5 o (n + 1) (W.ss o) := fun hc o => (h.ss o).skip fun hx => hc hx.1
  have rs0 : kOf T n ≠ 6 → ∀ o, Lst T 6 o (n + 1) (W.rs o) := fun hc o => (h.rs o).skip fun hx => hc hx.1
  have na : ∀ {k : Int}, (k ≠ 7 ∧ k ≠ 8 ∧ k ≠ 9) → atB k ≠ true := fun hc hx => by
    have := (at_iff _).1 hx
    omega
  have tg0 : kOf T n ≠ 10 → kOf T n ≠ 6 → ∀ g, toG T R n g ↔ g = gOf T n := fun h1 h2 g =>
    ⟨fun hx => by
      rcases hx with e | ⟨e, _⟩ | ⟨e, _⟩
      · exact e.symm
      · exact absurd e h1
      · exact absurd e h2, fun e => .inl e.symm⟩
  unfold stepM
  rw [eg, ← hm]
  unfold tellM
  rw [ek, eo]
  split
  · rename_i c
    refine ⟨pl, ps, gosQ _ fun g => ?_, mu0 (by omega), at0 (na (by omega)), ss0 (by omega), rs0 (by omega)⟩
    constructor
    · rintro (e | ⟨_, e⟩ | ⟨e, _⟩)
      · exact .inl e.symm
      · exact .inr e.symm
      · omega
    · rintro (e | e)
      · exact .inl e.symm
      · exact .inr (.inl ⟨c, e.symm⟩)
  split
  · rename_i c
    refine ⟨pl, ps, gos0 (tg0 (by omega) (by omega)), fun o => ?_, at0 (na (by omega)), ss0 (by omega), rs0 (by omega)⟩
    show Rp T (up W.mu (oOf T n) (Ck.jn (W.mu (oOf T n)) m) o) _
    unfold up
    by_cases e : o = oOf T n
    · rw [if_pos e, e]
      refine ((h.mu _).jn M).iff fun i => ?_
      rw [ex_succ]
      exact ⟨fun hx => hx.imp_right fun hy => ⟨⟨c, rfl⟩, hy⟩, fun hx => hx.imp_right fun hy => hy.2⟩
    · rw [if_neg e]
      refine (h.mu o).iff fun i => ?_
      rw [ex_succ]
      exact ⟨fun hx => .inl hx, fun hx => hx.resolve_right fun hy => e hy.1.2.symm⟩
  split
  · rename_i c
    have hat := (at_iff _).2 c
    refine ⟨pl, ps, gos0 (tg0 (by omega) (by omega)), mu0 (by omega), fun o => ?_, ss0 (by omega), rs0 (by omega)⟩
    show Rp T (up W.at_ (oOf T n) m o) _
    unfold up
    by_cases e : o = oOf T n
    · rw [if_pos e, e]
      refine M.iff fun i => ?_
      rw [ex_succ]
      refine ⟨fun hx => .inr ⟨⟨hat, rfl⟩, hx⟩, fun hx => ?_⟩
      rcases hx with ⟨k, h1, ⟨h2, h3⟩, h4⟩ | hy
      · exact (Dn_step hn i).2 (.inr ⟨k, h1, (DI k h1).2 (.inr ⟨h3, .inr (.inl ⟨h2, hat⟩)⟩), h4⟩)
      · exact hy.2
    · rw [if_neg e]
      refine (h.at_ o).iff fun i => ?_
      rw [ex_succ]
      exact ⟨fun hx => .inl hx, fun hx => hx.resolve_right fun hy => e hy.1.2.symm⟩
  split
  · rename_i c
    refine ⟨pl, ps, gos0 (tg0 (by omega) (by omega)), mu0 (by omega), at0 (na (by omega)), fun o => ?_, rs0 (by omega)⟩
    show Lst T 5 o (n + 1) (up W.ss (oOf T n) (W.ss (oOf T n) ++ [(n : Int)]) o)
    unfold up
    by_cases e : o = oOf T n
    · rw [if_pos e, e]
      exact (h.ss _).more ⟨c, rfl⟩
    · rw [if_neg e]
      exact (h.ss o).skip fun hx => e hx.2.symm
  split
  · rename_i c
    have rsx : ∀ o, Lst T 6 o (n + 1) (up W.rs (oOf T n) (W.rs (oOf T n) ++ [(n : Int)]) o) := fun o => by
      unfold up
      by_cases e : o = oOf T n
      · rw [if_pos e, e]
        exact (h.rs _).more ⟨c, rfl⟩
      · rw [if_neg e]
        exact (h.rs o).skip fun hx => e hx.2.symm
    have ls := (h.ss (oOf T n)).1
    have lr := (h.rs (oOf T n)).1
    unfold tellR
    refine ⟨pl, ps, ?_, mu0 (by omega), at0 (na (by omega)), ss0 (by omega), rsx⟩
    show ∀ g, g < 8 → Rp T ((if roomM R (oOf T n) = 0 ∧ (W.rs (oOf T n)).length < (W.ss (oOf T n)).length then _ else _ : Nat → Sn) g) _
    split
    · rename_i hc
      obtain ⟨q, q1, q2, q3, q4⟩ := (h.ss (oOf T n)).2 _ hc.2
      have eq : tellQ T { W with gos := upd W.gos (gOf T n) m, past := W.past ++ [m] } (oOf T n) = gOf T q := by
        show (T.getD ((W.ss (oOf T n)).getD (W.rs (oOf T n)).length 0).toNat zE).g.toNat = _
        rw [q2, Int.toNat_natCast]
        rfl
      rw [eq]
      refine gosQ _ fun g => ?_
      constructor
      · rintro (e | ⟨e, _⟩ | ⟨_, _, s, s1, s2, s3, s4⟩)
        · exact .inl e.symm
        · omega
        · obtain rfl : s = q := cntE_inj T 5 (oOf T n) s2 q3 (by omega)
          exact .inr s4.symm
      · rintro (e | e)
        · exact .inl e.symm
        · exact .inr (.inr ⟨c, hc.1, q, q1, q3, by omega, e.symm⟩)
    · rename_i hc
      refine gos0 fun g => ⟨fun hx => ?_, fun e => .inl e.symm⟩
      rcases hx with e | ⟨e, _⟩ | ⟨_, h1, s, s1, s2, s3, s4⟩
      · exact e.symm
      · omega
      · exact absurd ⟨h1, by have := cntE_lt T 5 (oOf T n) s1 s2; omega⟩ hc
  · rename_i c1 c2 c3 c4 c5
    exact ⟨pl, ps, gos0 (tg0 c1 c5), mu0 c2, at0 (fun hx => c3 ((at_iff _).1 hx)), ss0 c4, rs0 c5⟩
theorem walk_wv {T : List Ev} {R : List Int} (hF : formT T = true) (hb : T.length ≤ 1000000) : ∀ n, n ≤ T.length → Wv T R (walkM R T n) n
  | 0, _ => wv_zero T R
  | n + 1, h => (walk_wv hF hb n (by omega)).step hF (by omega) (by omega)
theorem know_rp {T : List Ev} (R : List Int) (hF : formT T = true) (hb : T.length ≤ 1000000) {j : Nat} (hj : j < T.length) : Rp T (knowM R T j) (Dn T R j) := (walk_wv hF hb T.length (Nat.le_refl _)).past j hj
theorem know_self {T : List Ev} (R : List Int) (hF : formT T = true) (hb : T.length ≤ 1000000) {j : Nat} (hj : j < T.length) : knowM R T j (gOf T j) = cM T j := by
  have K := know_rp R hF hb hj
  have h1 := K.up j (.inl rfl)
  have := cM_pos T j
  rcases K.dn _ (gOf_lt hF j) with e | ⟨i, d, g, e⟩
  · omega
  · have hle := Dn_le hj d
    by_cases ei : i = j
    · rw [e, ei]
    · have := cM_lt (show i < j by omega) g
      omega
/-- the events of one goroutine -/
theorem Dn_down {T : List Ev} {R : List Int} (hF : formT T = true) {j m i : Nat} (hj : j < T.length) (hm : Dn T R j m) (hi : i ≤ m) (e : gOf T i = gOf T m) : Dn T R j i := by
  by_cases h : i = m
  · rw [h]; exact hm
  · have hle := Dn_le hj hm
    have d1 : hbM T R m i = true := ((mat_ch T R T.length) m (by omega) i).2 ⟨i, by omega, (dir_iff hF (by omega) (by omega)).2 (.inl (.inl e)), .inl rfl⟩
    rcases hm with h1 | h1
    · rw [← h1]; exact .inr d1
    · exact .inr ((mat_ch T R T.length).trans j hj m i h1 d1)
/-- package order's answer is the document's -/
theorem bef_hb {T : List Ev} (R : List Int) (hF : formT T = true) (hb : T.length ≤ 1000000) {a b : Nat} (ha : a < T.length) (hb' : b < T.length) : befM R T a b = hbM T R b a := by
  rw [bef_eq R T a b hb']
  have Ka := know_self R hF hb ha
  have Kb := know_rp R hF hb hb'
  have ca := cM_pos T a
  rw [Ka]
  apply Bool.eq_iff_iff.2
  simp only [Bool.and_eq_true, decide_eq_true_eq]
  constructor
  · rintro ⟨h1, h2⟩
    rcases Kb.dn _ (gOf_lt hF a) with e | ⟨i, d, g, e⟩
    · omega
    · have hai : a ≤ i := by
        rcases Nat.lt_or_ge i a with h | h
        · have := cM_lt h g
          omega
        · exact h
      have := Dn_down hF hb' d hai g.symm
      rcases this with e1 | e1
      · omega
      · exact e1
  · intro h
    have h1 := (mat_ch T R T.length).lt b hb' a h
    have h2 := Kb.up a (.inr h)
    exact ⟨h1, by omega⟩
/-- a clock's counts, as the document counts them -/
def clkF (T : List Ev) (R : List Int) (j g : Nat) : Nat → Nat
  | 0 => 0
  | k + 1 => if (k = j ∨ hbM T R j k = true) ∧ gOf T k = g then clkF T R j g k + 1 else clkF T R j g k
theorem clk_upto {T : List Ev} {R : List Int} {j g m : Nat} (h : ∀ i, i ≤ j → (Dn T R j i ∧ gOf T i = g ↔ i < m ∧ gOf T i = g)) : ∀ k, k ≤ j + 1 → clkF T R j g k = gcnt T g (min k m)
  | 0, _ => by simp [clkF, gcnt]
  | k + 1, hk => by
    have ih := clk_upto h k (by omega)
    have hx := h k (by omega)
    unfold Dn at hx
    unfold clkF
    rw [ih]
    by_cases c : (k = j ∨ hbM T R j k = true) ∧ gOf T k = g
    · rw [if_pos c]
      have := hx.1 c
      rw [show min (k + 1) m = k + 1 by omega, show min k m = k by omega, gcnt_succ T c.2]
    · rw [if_neg c]
      by_cases hm : k < m
      · have hg : ¬ gOf T k = g := fun e => c (hx.2 ⟨hm, e⟩)
        rw [show min (k + 1) m = k + 1 by omega, show min k m = k by omega]
        show _ = if gOf T k = g then _ else _
        rw [if_neg hg]
      · rw [show min (k + 1) m = min k m by omega]
theorem clk_know {T : List Ev} (R : List Int) (hF : formT T = true) (hb : T.length ≤ 1000000) {j g : Nat} (hj : j < T.length) (hg : g < 8) : (clkF T R j g (j + 1) : Int) = knowM R T j g := by
  have K := know_rp R hF hb hj
  rcases K.dn g hg with e | ⟨m, d, gm, e⟩
  · rw [clk_upto (m := 0) (fun i hi => ⟨fun ⟨h1, h2⟩ => by
      have h3 := K.up i h1
      have := cM_pos T i
      rw [h2] at h3
      omega, fun ⟨h1, _⟩ => by omega⟩) (j + 1) (Nat.le_refl _), e]
    simp [gcnt]
  · have hm := Dn_le hj d
    have key : ∀ i, i ≤ j → (Dn T R j i ∧ gOf T i = g ↔ i < m + 1 ∧ gOf T i = g) := fun i hi => by
      constructor
      · rintro ⟨h1, h2⟩
        refine ⟨?_, h2⟩
        rcases Nat.lt_or_ge m i with h3 | h3
        · have h4 := cM_lt h3 (by rw [h2, gm])
          have h5 := K.up i h1
          rw [h2] at h5
          omega
        · omega
      · rintro ⟨h1, h2⟩
        exact ⟨Dn_down hF hj d (by omega) (by rw [h2, gm]), h2⟩
    rw [clk_upto key (j + 1) (Nat.le_refl _), show min (j + 1) (m + 1) = m + 1 by omega, gcnt_succ T gm, e]
    unfold cM
    rw [gm]
    omega
end Go.Proofs.YticgmebbnnmikaaDoor.Ck
