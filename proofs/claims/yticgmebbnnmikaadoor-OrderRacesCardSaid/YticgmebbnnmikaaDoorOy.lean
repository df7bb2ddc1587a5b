/- Package order's walk: happening before is an order. No Go text is walked here. -/
import Derived.Test.YticgmebbnnmikaaDoorOt
namespace Go.Proofs.YticgmebbnnmikaaDoor.Ck
open Go.RowKit

def gOf (T : List Ev) (i : Nat) : Nat := (T.getD i zE).g.toNat
/-- what is known stands on what those know of whom it knows: P what events know, d what goroutines know of themselves -/
structure Gd (T : List Ev) (P : List Sn) (d : Nat → Int) (n : Nat) (s : Sn) : Prop where
  c : ∀ i, i < n → (P.getD i sn0) (gOf T i) ≤ s (gOf T i) → ∀ g, g < 8 → (P.getD i sn0) g ≤ s g
  nn : ∀ g, 0 ≤ s g
  le : ∀ g, g < 8 → s g ≤ d g
theorem Gd.jn {T : List Ev} {P : List Sn} {d : Nat → Int} {n : Nat} {s t : Sn} (h : Gd T P d n s) (k : Gd T P d n t) : Gd T P d n (jn s t) := by
  refine ⟨fun i hi hc g hg => ?_, fun g => ?_, fun g hg => ?_⟩
  · unfold Ck.jn at hc ⊢
    by_cases e : (P.getD i sn0) (gOf T i) ≤ s (gOf T i)
    · have := h.c i hi e g hg; omega
    · have := k.c i hi (by omega) g hg; omega
  · unfold Ck.jn; have := h.nn g; have := k.nn g; omega
  · unfold Ck.jn; have := h.le g hg; have := k.le g hg; omega
structure Iv (T : List Ev) (W : Wk) (n : Nat) : Prop where
  gos : ∀ g, g < 8 → Gd T W.past (fun g => W.gos g g) n (W.gos g)
  mu : ∀ o, Gd T W.past (fun g => W.gos g g) n (W.mu o)
  at_ : ∀ o, Gd T W.past (fun g => W.gos g g) n (W.at_ o)
  past : ∀ i, i < n → Gd T W.past (fun g => W.gos g g) n (W.past.getD i sn0)
  own : ∀ i, i < n → 1 ≤ (W.past.getD i sn0) (gOf T i)
  bd : ∀ g, g < 8 → W.gos g g ≤ n
theorem Iv.zero {T : List Ev} {W : Wk} {n : Nat} (h : Iv T W n) : Gd T W.past (fun g => W.gos g g) n sn0 := by
  refine ⟨fun i hi hc => ?_, fun _ => Int.le_refl _, fun g hg => (h.gos g hg).nn g⟩
  have := h.own i hi
  have hc' : (W.past.getD i sn0) (gOf T i) ≤ 0 := hc
  omega
theorem iv_zero (T : List Ev) : Iv T wk0 0 := by
  have k : Gd T wk0.past (fun g => wk0.gos g g) 0 sn0 := ⟨fun i hi => absurd hi (Nat.not_lt_zero _), fun _ => Int.le_refl _, fun _ _ => Int.le_refl _⟩
  exact ⟨fun _ _ => k, fun _ => k, fun _ => k, fun i hi => absurd hi (Nat.not_lt_zero _), fun i hi => absurd hi (Nat.not_lt_zero _), fun _ _ => Int.le_refl _⟩
theorem Iv.pastAt {T : List Ev} {W : Wk} {n : Nat} (h : Iv T W n) (hl : W.past.length = n) (k : Int) : Gd T W.past (fun g => W.gos g g) n (pastAt W k) := by
  unfold Ck.pastAt
  by_cases e : k.toNat < n
  · exact h.past _ e
  · rw [List.getD_eq_getElem?_getD, List.getElem?_eq_none (by omega)]
    exact h.zero
/-- what an event learns -/
theorem Iv.learn {R : List Int} {T : List Ev} {W : Wk} {n : Nat} (h : Iv T W n) (hl : W.past.length = n) (e : Ev) {g : Nat} (hg : g < 8) : Gd T W.past (fun g => W.gos g g) n (learnM R W (W.gos g) e) ∧ ∀ q, W.gos g q ≤ learnM R W (W.gos g) e q := by
  have hs := h.gos g hg
  have key : ∀ t, Gd T W.past (fun g => W.gos g g) n t → Gd T W.past (fun g => W.gos g g) n (Ck.jn (W.gos g) t) ∧ ∀ q, W.gos g q ≤ Ck.jn (W.gos g) t q := fun t ht => ⟨hs.jn ht, fun q => by unfold Ck.jn; omega⟩
  have me : Gd T W.past (fun g => W.gos g g) n (W.gos g) ∧ ∀ q, W.gos g q ≤ W.gos g q := ⟨hs, fun _ => Int.le_refl _⟩
  unfold learnM
  split
  · exact key _ (h.mu _)
  split
  · exact key _ (h.at_ _)
  split
  · unfold learnS
    split
    · exact me
    split
    · exact key _ (h.pastAt hl _)
    · exact me
  split
  · unfold learnR
    split
    · exact key _ (h.pastAt hl _)
    · exact me
  · exact me
theorem getD_snoc (P : List Sn) (m : Sn) (i : Nat) : (P ++ [m]).getD i sn0 = if i = P.length then m else P.getD i sn0 := by
  rw [List.getD_eq_getElem?_getD, List.getD_eq_getElem?_getD]
  by_cases e : i = P.length
  · subst e; simp
  · rw [if_neg e]
    by_cases h : i < P.length
    · rw [List.getElem?_append_left h]
    · rw [List.getElem?_eq_none (l := P ++ [m]) (by simp; omega), List.getElem?_eq_none (l := P) (by omega)]
theorem Iv.step {R : List Int} {T : List Ev} {W : Wk} {n : Nat} (h : Iv T W n) (hl : W.past.length = n) (hn : n ≤ 1000000) (hf : evB (T.getD n zE) = true) (hA : ∀ k, gOf T k < 8) : Iv T (stepM R T W (T.getD n zE) n) (n + 1) := by
  obtain ⟨e, he⟩ : ∃ e, e = T.getD n zE := ⟨_, rfl⟩
  rw [← he] at hf ⊢
  have hb := evB_out hf
  have hg : e.g.toNat < 8 := by omega
  obtain ⟨g, hgq⟩ : ∃ g, g = e.g.toNat := ⟨_, rfl⟩
  have hgT : gOf T n = g := by unfold gOf; rw [← he, hgq]
  rw [← hgq] at hg
  obtain ⟨L1, L2⟩ := h.learn (R := R) hl e hg
  obtain ⟨s, hs⟩ : ∃ s, s = learnM R W (W.gos g) e := ⟨_, rfl⟩
  rw [← hs] at L1 L2
  have sg : s g = W.gos g g := by have a := L1.le g hg; have b := L2 g; omega
  have hbd := h.bd g hg
  have hnn := L1.nn g
  obtain ⟨m, hm⟩ : ∃ m, m = setS s g (s g + 1) := ⟨_, rfl⟩
  have hmm : mineM R W e = m := by
    unfold mineM
    rw [← hgq, ← hs, hm]
    congr 1
    unfold wrap64
    omega
  have mg : m g = W.gos g g + 1 := by rw [hm, ← sg]; unfold setS; rw [if_pos rfl]
  have mo : ∀ q, q ≠ g → m q = s q := fun q hq => by rw [hm]; unfold setS; rw [if_neg hq]
  have ms : ∀ q, s q ≤ m q := fun q => by
    by_cases e : q = g
    · rw [e, mg, sg]; omega
    · rw [mo q e]; omega
  -- with the event behind all others
  have up1 : ∀ t, Gd T W.past (fun g => W.gos g g) n t → Gd T (W.past ++ [m]) (fun q => upd W.gos g m q q) (n + 1) t := fun t ht => by
    refine ⟨fun i hi hc q hq => ?_, ht.nn, fun q hq => ?_⟩
    · rw [getD_snoc] at hc ⊢
      by_cases ei : i = W.past.length
      · rw [if_pos ei] at hc
        rw [ei, hl, hgT, mg] at hc
        have := ht.le g hg
        omega
      · rw [if_neg ei] at hc ⊢
        exact ht.c i (by omega) hc q hq
    · unfold upd
      by_cases eq : q = g
      · rw [if_pos eq, eq, mg]
        have := ht.le g hg
        omega
      · rw [if_neg eq]
        exact ht.le q hq
  have mG : Gd T (W.past ++ [m]) (fun q => upd W.gos g m q q) (n + 1) m := by
    refine ⟨fun i hi hc q hq => ?_, fun q => Int.le_trans (L1.nn q) (ms q), fun q hq => ?_⟩
    · rw [getD_snoc] at hc ⊢
      by_cases ei : i = W.past.length
      · rw [if_pos ei]
        exact Int.le_refl _
      · rw [if_neg ei] at hc ⊢
        refine Int.le_trans (L1.c i (by omega) ?_ q hq) (ms q)
        by_cases eg : gOf T i = g
        · rw [eg]
          have := (h.past i (by omega)).le g hg
          omega
        · rw [mo _ eg] at hc
          exact hc
    · unfold upd
      by_cases eq : q = g
      · rw [if_pos eq, eq]; exact Int.le_refl _
      · rw [if_neg eq, mo q eq]
        exact L1.le q hq
  have I1 : Iv T { W with gos := upd W.gos g m, past := W.past ++ [m] } (n + 1) := by
    refine ⟨fun q hq => ?_, fun o => up1 _ (h.mu o), fun o => up1 _ (h.at_ o), fun i hi => ?_, fun i hi => ?_, fun q hq => ?_⟩
    · show Gd T (W.past ++ [m]) (fun q => upd W.gos g m q q) (n + 1) (upd W.gos g m q)
      by_cases eq : q = g
      · have e1 : upd W.gos g m q = m := by unfold upd; rw [if_pos eq]
        rw [e1]
        exact mG
      · have e1 : upd W.gos g m q = W.gos q := by unfold upd; rw [if_neg eq]
        rw [e1]
        exact up1 _ (h.gos q hq)
    · show Gd T (W.past ++ [m]) (fun q => upd W.gos g m q q) (n + 1) ((W.past ++ [m]).getD i sn0)
      rw [getD_snoc]
      split
      · exact mG
      · exact up1 _ (h.past i (by omega))
    · show 1 ≤ ((W.past ++ [m]).getD i sn0) (gOf T i)
      rw [getD_snoc]
      split
      · rename_i ei
        rw [ei, hl, hgT, mg]
        have := (h.gos g hg).nn g
        omega
      · exact h.own i (by omega)
    · show upd W.gos g m q q ≤ ((n + 1 : Nat) : Int)
      unfold upd
      split
      · rename_i eq
        rw [eq, mg]
        omega
      · have := h.bd q hq
        omega
  have W1 : ∀ q, Gd T (W.past ++ [m]) (fun q => upd W.gos g m q q) (n + 1) q → True := fun _ _ => trivial
  -- what the event leaves
  have gosU : ∀ q, q < 8 → Iv T { W with gos := upd (upd W.gos g m) q (Ck.jn (upd W.gos g m q) m), past := W.past ++ [m] } (n + 1) := fun q hq => by
    have dg : ∀ r, upd (upd W.gos g m) q (Ck.jn (upd W.gos g m q) m) r r = upd W.gos g m r r := fun r => by
      by_cases er : r = q
      · subst er
        have e1 : upd (upd W.gos g m) r (Ck.jn (upd W.gos g m r) m) r = Ck.jn (upd W.gos g m r) m := by
          show (if r = r then _ else _) = _
          rw [if_pos rfl]
        rw [e1]
        unfold Ck.jn
        have := mG.le r hq
        omega
      · show (if r = q then _ else upd W.gos g m r) r = _
        rw [if_neg er]
    have df : (fun r => upd (upd W.gos g m) q (Ck.jn (upd W.gos g m q) m) r r) = fun r => upd W.gos g m r r := funext dg
    refine ⟨fun r hr => ?_, fun o => ?_, fun o => ?_, fun i hi => ?_, I1.own, fun r hr => ?_⟩
    · show Gd T (W.past ++ [m]) (fun r => upd (upd W.gos g m) q (Ck.jn (upd W.gos g m q) m) r r) (n + 1) (upd (upd W.gos g m) q (Ck.jn (upd W.gos g m q) m) r)
      rw [df]
      by_cases er : r = q
      · have e1 : upd (upd W.gos g m) q (Ck.jn (upd W.gos g m q) m) r = Ck.jn (upd W.gos g m q) m := by
          show (if r = q then _ else _) = _
          rw [if_pos er]
        rw [e1]
        exact (I1.gos q hq).jn mG
      · have e1 : upd (upd W.gos g m) q (Ck.jn (upd W.gos g m q) m) r = upd W.gos g m r := by
          show (if r = q then _ else _) = _
          rw [if_neg er]
        rw [e1]
        exact I1.gos r hr
    · show Gd T (W.past ++ [m]) (fun r => upd (upd W.gos g m) q (Ck.jn (upd W.gos g m q) m) r r) (n + 1) (W.mu o)
      rw [df]; exact I1.mu o
    · show Gd T (W.past ++ [m]) (fun r => upd (upd W.gos g m) q (Ck.jn (upd W.gos g m q) m) r r) (n + 1) (W.at_ o)
      rw [df]; exact I1.at_ o
    · show Gd T (W.past ++ [m]) (fun r => upd (upd W.gos g m) q (Ck.jn (upd W.gos g m q) m) r r) (n + 1) ((W.past ++ [m]).getD i sn0)
      rw [df]; exact I1.past i hi
    · have := I1.bd r hr
      show upd (upd W.gos g m) q (Ck.jn (upd W.gos g m q) m) r r ≤ _
      rw [dg r]
      exact this
  unfold stepM
  rw [← hgq, hmm]
  clear W1
  unfold tellM
  split
  · exact gosU _ (by have := hb.2.2.2.2 (by assumption); omega)
  split
  · refine ⟨I1.gos, fun o => ?_, I1.at_, I1.past, I1.own, I1.bd⟩
    show Gd T (W.past ++ [m]) (fun q => upd W.gos g m q q) (n + 1) (up W.mu e.o (Ck.jn (W.mu e.o) m) o)
    unfold up
    split
    · exact (I1.mu e.o).jn mG
    · exact I1.mu o
  split
  · refine ⟨I1.gos, I1.mu, fun o => ?_, I1.past, I1.own, I1.bd⟩
    show Gd T (W.past ++ [m]) (fun q => upd W.gos g m q q) (n + 1) (up W.at_ e.o m o)
    unfold up
    split
    · exact mG
    · exact I1.at_ o
  split
  · exact ⟨I1.gos, I1.mu, I1.at_, I1.past, I1.own, I1.bd⟩
  split
  · unfold tellR
    split
    · have k := gosU (tellQ T { W with gos := upd W.gos g m, past := W.past ++ [m] } e.o) (hA _)
      exact ⟨k.gos, k.mu, k.at_, k.past, k.own, k.bd⟩
    · exact ⟨I1.gos, I1.mu, I1.at_, I1.past, I1.own, I1.bd⟩
  · exact I1
theorem gOf_lt {T : List Ev} (hF : formT T = true) (k : Nat) : gOf T k < 8 := by
  unfold gOf
  by_cases h : k < T.length
  · have := evB_out (formT_at hF k h)
    omega
  · rw [List.getD_eq_getElem?_getD, List.getElem?_eq_none (by omega)]
    decide
theorem walk_iv {R : List Int} {T : List Ev} (hF : formT T = true) (hn : T.length ≤ 1000000) : ∀ n, n ≤ T.length → Iv T (walkM R T n) n
  | 0, _ => iv_zero T
  | n + 1, h => (walk_iv hF hn n (by omega)).step (walk_ok R T n).past (by omega) (formT_at hF n (by omega)) (gOf_lt hF)
/-- the walk through a trace's beginning is the beginning of the walk -/
theorem tell_take {R : List Int} {T : List Ev} {k : Nat} {W : Wk} {n : Nat} {m : Sn} {e : Ev} {i : Int} (h : WkOk W n) (hn : n ≤ k) : tellM R (T.take k) W m e i = tellM R T W m e i := by
  unfold tellM
  split
  · rfl
  split
  · rfl
  split
  · rfl
  split
  · rfl
  split
  · unfold tellR
    split
    · rename_i hc
      have e1 : tellQ (T.take k) W e.o = tellQ T W e.o := by
        unfold tellQ
        have hx := h.ss e.o ((W.ss e.o).getD (W.rs e.o).length 0) (by rw [List.getD_eq_getElem?_getD, List.getElem?_eq_getElem hc.2]; exact List.getElem_mem _)
        rw [takeE T k _ (by omega)]
      rw [e1]
    · rfl
  · rfl
theorem walk_take (R : List Int) (T : List Ev) (k : Nat) : ∀ n, n ≤ k → walkM R (T.take k) n = walkM R T n
  | 0, _ => rfl
  | n + 1, h => by
    show stepM R (T.take k) (walkM R (T.take k) n) ((T.take k).getD n zE) n = stepM R T (walkM R T n) (T.getD n zE) n
    rw [walk_take R T k n (by omega), takeE T k n (by omega)]
    unfold stepM
    exact tell_take ((walk_ok R T n).more _ _) (by omega)
theorem step_past (R : List Int) (T : List Ev) (W : Wk) (e : Ev) (i : Int) : (stepM R T W e i).past = W.past ++ [mineM R W e] := by
  unfold stepM tellM
  split
  · rfl
  split
  · rfl
  split
  · rfl
  split
  · rfl
  split
  · rfl
  · rfl
theorem past_getD (R : List Int) (T : List Ev) (a : Nat) : ∀ n j, a < n → n ≤ j → (walkM R T j).past.getD a sn0 = (walkM R T n).past.getD a sn0
  | n, 0, h1, h2 => absurd h1 (by omega)
  | n, j + 1, h1, h2 => by
    by_cases e : n = j + 1
    · rw [e]
    · have ih := past_getD R T a n j h1 (by omega)
      have hp : (walkM R T (j + 1)).past = (walkM R T j).past ++ [mineM R (walkM R T j) (T.getD j zE)] := step_past R T _ _ _
      rw [hp, getD_snoc, if_neg (by rw [(walk_ok R T j).past]; omega)]
      exact ih
/-- what an event knows, of the whole trace -/
def knowM (R : List Int) (T : List Ev) (a : Nat) : Sn := (walkM R T T.length).past.getD a sn0
theorem pasts_take (R : List Int) (T : List Ev) (a b : Nat) (hab : a ≤ b) (hb : b < T.length) : (pastsM R (T.take (b + 1))).getD a sn0 = knowM R T a := by
  unfold pastsM knowM
  have hl : (T.take (b + 1)).length = b + 1 := by rw [List.length_take]; omega
  rw [hl, walk_take R T (b + 1) (b + 1) (Nat.le_refl _)]
  exact (past_getD R T a (b + 1) T.length (by omega) (by omega)).symm
theorem bef_eq (R : List Int) (T : List Ev) (a b : Nat) (hb : b < T.length) : befM R T a b = (decide (a < b) && decide (max (knowM R T a (gOf T a)) 0 ≤ max (knowM R T b (gOf T a)) 0)) := by
  unfold befM
  by_cases hab : a < b
  · rw [pasts_take R T a b (by omega) hb, pasts_take R T b b (Nat.le_refl _) hb]
    rfl
  · rw [decide_eq_false hab, Bool.false_and, Bool.false_and]
/-- happening before is an order -/
theorem bef_trans {R : List Int} {T : List Ev} (hF : formT T = true) (hn : T.length ≤ 1000000) {a b c : Nat} (hb : b < T.length) (hc : c < T.length) (h1 : befM R T a b = true) (h2 : befM R T b c = true) : befM R T a c = true := by
  rw [bef_eq R T a b hb] at h1
  rw [bef_eq R T b c hc] at h2
  rw [bef_eq R T a c hc]
  simp only [Bool.and_eq_true, decide_eq_true_eq] at h1 h2 ⊢
  have I := walk_iv (R := R) hF hn T.length (Nat.le_refl _)
  have ga := gOf_lt hF a
  have Kb := I.past b hb
  have Kc := I.past c hc
  have ob := I.own b hb
  have nb := Kb.nn (gOf T b)
  have nc := Kc.nn (gOf T b)
  have q := Kc.c b hb (by
    have := h2.2
    unfold knowM at this
    omega) (gOf T a) ga
  refine ⟨by omega, ?_⟩
  have := h1.2
  unfold knowM at this ⊢
  omega
end Go.Proofs.YticgmebbnnmikaaDoor.Ck
