/- The document's races as plain functions, held against package order's. No Go text is walked here. -/
import Derived.Test.YticgmebbnnmikaaDoorOzi
import Derived.Test.YticgmebbnnmikaaDoorOw
namespace Go.Proofs.YticgmebbnnmikaaDoor.Ck
open Go.RowKit

/-- the last of the first n events of a kind, an object and a goroutine -/
def lstA (T : List Ev) (kd o : Int) (g : Nat) : Nat → Int
  | 0 => -1
  | n + 1 => if (kOf T n = kd ∧ oOf T n = o) ∧ gOf T n = g then (n : Int) else lstA T kd o g n
theorem lstA_spec (T : List Ev) (kd o : Int) (g : Nat) : ∀ n, (lstA T kd o g n = -1 ∧ ∀ i, i < n → ¬ ((kOf T i = kd ∧ oOf T i = o) ∧ gOf T i = g)) ∨ ∃ f : Nat, f < n ∧ lstA T kd o g n = f ∧ ((kOf T f = kd ∧ oOf T f = o) ∧ gOf T f = g) ∧ ∀ i, i < n → ((kOf T i = kd ∧ oOf T i = o) ∧ gOf T i = g) → i ≤ f
  | 0 => .inl ⟨rfl, fun i h => by omega⟩
  | n + 1 => by
    unfold lstA
    by_cases c : (kOf T n = kd ∧ oOf T n = o) ∧ gOf T n = g
    · rw [if_pos c]
      exact .inr ⟨n, by omega, rfl, c, fun i h _ => by omega⟩
    · rw [if_neg c]
      rcases lstA_spec T kd o g n with ⟨h1, h2⟩ | ⟨f, h1, h2, h3, h4⟩
      · refine .inl ⟨h1, fun i hi h => ?_⟩
        by_cases e : i = n
        · exact c (e ▸ h)
        · exact h2 i (by omega) h
      · refine .inr ⟨f, by omega, h2, h3, fun i hi h => ?_⟩
        by_cases e : i = n
        · exact absurd (e ▸ h) c
        · exact h4 i (by omega) h
/-- may an earlier event be told as the first of a race? -/
def cand (T : List Ev) (M : Nat → Nat → Bool) (j i : Nat) : Bool := accB (T.getD i zE) && decide (oOf T i = oOf T j) && !decide ((T.getD i zE).g = (T.getD j zE).g) && !(decide (kOf T i = 1) && decide (kOf T j = 1)) && !M j i
/-- the document's first -/
def fstD (T : List Ev) (M : Nat → Nat → Bool) (j : Nat) : Nat → Int
  | 0 => -1
  | i + 1 => if cand T M j i = true ∧ (fstD T M j i < 0 ∨ kOf T i = 2 ∨ (kOf T (fstD T M j i).toNat = 1 ∧ (T.getD i zE).g ≤ (T.getD (fstD T M j i).toNat zE).g)) then (i : Int) else fstD T M j i
/-- which of the first n candidates it is -/
def FstS (T : List Ev) (M : Nat → Nat → Bool) (j n : Nat) (x : Int) : Prop :=
  (x = -1 ∧ ∀ i, i < n → cand T M j i = false) ∨ ∃ f : Nat, x = f ∧ f < n ∧ cand T M j f = true ∧
    ((kOf T f = 2 ∧ ∀ i, i < n → cand T M j i = true → kOf T i = 2 → i ≤ f) ∨
     (kOf T f = 1 ∧ ∀ i, i < n → cand T M j i = true → kOf T i = 1 ∧ (T.getD f zE).g ≤ (T.getD i zE).g ∧ ((T.getD i zE).g = (T.getD f zE).g → i ≤ f)))
theorem FstS.one {T : List Ev} {M : Nat → Nat → Bool} {j n : Nat} {x y : Int} (h : FstS T M j n x) (k : FstS T M j n y) : x = y := by
  rcases h with ⟨h1, h2⟩ | ⟨f, h1, h2, h3, h4⟩ <;> rcases k with ⟨k1, k2⟩ | ⟨e, k1, k2, k3, k4⟩
  · omega
  · rw [h2 e k2] at k3; cases k3
  · rw [k2 f h2] at h3; cases h3
  · rw [h1, k1]
    rcases h4 with ⟨a1, a2⟩ | ⟨a1, a2⟩ <;> rcases k4 with ⟨b1, b2⟩ | ⟨b1, b2⟩
    · have := a2 e k2 k3 b1
      have := b2 f h2 h3 a1
      omega
    · have := (b2 f h2 h3).1
      omega
    · have := (a2 e k2 k3).1
      omega
    · have p := a2 e k2 k3
      have q := b2 f h2 h3
      have g : (T.getD e zE).g = (T.getD f zE).g := by omega
      have := p.2.2 g
      have := q.2.2 g.symm
      omega
theorem cand_out {T : List Ev} {M : Nat → Nat → Bool} {j i : Nat} : cand T M j i = true ↔ (kOf T i = 1 ∨ kOf T i = 2) ∧ oOf T i = oOf T j ∧ (T.getD i zE).g ≠ (T.getD j zE).g ∧ ¬ (kOf T i = 1 ∧ kOf T j = 1) ∧ M j i = false := by
  unfold cand accB
  rw [show (T.getD i zE).k = kOf T i from rfl]
  simp only [Bool.and_eq_true, Bool.or_eq_true, beq_iff_eq, decide_eq_true_eq, Bool.not_eq_true', decide_eq_false_iff_not, Bool.and_eq_false_iff]
  constructor
  · rintro ⟨⟨⟨⟨h1, h2⟩, h3⟩, h4⟩, h5⟩
    exact ⟨h1, h2, h3, fun ⟨a, b⟩ => h4.elim (fun h => h a) (fun h => h b), h5⟩
  · rintro ⟨h1, h2, h3, h4, h5⟩
    refine ⟨⟨⟨⟨h1, h2⟩, h3⟩, ?_⟩, h5⟩
    by_cases c : kOf T i = 1
    · exact .inr (fun e => h4 ⟨c, e⟩)
    · exact .inl c
theorem fstD_spec (T : List Ev) (M : Nat → Nat → Bool) (j : Nat) : ∀ n, FstS T M j n (fstD T M j n)
  | 0 => .inl ⟨rfl, fun i h => by omega⟩
  | n + 1 => by
    have ih := fstD_spec T M j n
    unfold fstD
    cases hc : cand T M j n with
    | false =>
      rw [if_neg (fun h => by cases h.1)]
      rcases ih with ⟨h1, h2⟩ | ⟨f, h1, h2, h3, h4⟩
      · refine .inl ⟨h1, fun i hi => ?_⟩
        by_cases e : i = n
        · rw [e]; exact hc
        · exact h2 i (by omega)
      · refine .inr ⟨f, h1, by omega, h3, ?_⟩
        rcases h4 with ⟨a1, a2⟩ | ⟨a1, a2⟩
        · refine .inl ⟨a1, fun i hi hi2 => ?_⟩
          by_cases e : i = n
          · rw [e, hc] at hi2; cases hi2
          · exact a2 i (by omega) hi2
        · refine .inr ⟨a1, fun i hi hi2 => ?_⟩
          by_cases e : i = n
          · rw [e, hc] at hi2; cases hi2
          · exact a2 i (by omega) hi2
    | true =>
      have kn := (cand_out.1 hc).1
      rcases ih with ⟨h1, h2⟩ | ⟨f, h1, h2, h3, h4⟩
      · rw [if_pos ⟨rfl, .inl (by omega)⟩]
        refine .inr ⟨n, rfl, by omega, hc, ?_⟩
        rcases kn with k1 | k2
        · refine .inr ⟨k1, fun i hi hi2 => ?_⟩
          by_cases e : i = n
          · rw [e]; exact ⟨k1, by omega, fun _ => by omega⟩
          · rw [h2 i (by omega)] at hi2; cases hi2
        · exact .inl ⟨k2, fun i hi _ _ => by omega⟩
      · rw [h1, Int.toNat_natCast]
        rcases kn with k1 | k2
        · rcases h4 with ⟨a1, a2⟩ | ⟨a1, a2⟩
          · rw [if_neg (fun h => by omega)]
            refine .inr ⟨f, rfl, by omega, h3, .inl ⟨a1, fun i hi hi2 hi3 => ?_⟩⟩
            by_cases e : i = n
            · rw [e] at hi3; omega
            · exact a2 i (by omega) hi2 hi3
          · by_cases hg : (T.getD n zE).g ≤ (T.getD f zE).g
            · rw [if_pos ⟨rfl, .inr (.inr ⟨a1, hg⟩)⟩]
              refine .inr ⟨n, rfl, by omega, hc, .inr ⟨k1, fun i hi hi2 => ?_⟩⟩
              by_cases e : i = n
              · rw [e]; exact ⟨k1, by omega, fun _ => by omega⟩
              · have := a2 i (by omega) hi2
                exact ⟨this.1, by omega, fun _ => by omega⟩
            · rw [if_neg (fun h => by omega)]
              refine .inr ⟨f, rfl, by omega, h3, .inr ⟨a1, fun i hi hi2 => ?_⟩⟩
              by_cases e : i = n
              · rw [e]; exact ⟨k1, by omega, fun _ => by omega⟩
              · exact a2 i (by omega) hi2
        · rw [if_pos ⟨rfl, .inr (.inl k2)⟩]
          exact .inr ⟨n, rfl, by omega, hc, .inl ⟨k2, fun i hi _ _ => by omega⟩⟩
/-- what package order asks of an earlier access is whether it happens before -/
theorem unk_hb {T : List Ev} (R : List Int) (hF : formT T = true) (hb : T.length ≤ 1000000) {i j : Nat} (hi : i < j) (hj : j < T.length) : unkM T (pastsM R T) (i : Nat) j = !hbM T R j i := by
  have e1 := bef_hb R hF hb (show i < T.length by omega) hj
  rw [bef_eq R T i j hj, decide_eq_true hi, Bool.true_and] at e1
  unfold unkM
  rw [Int.toNat_natCast, ← e1]
  have : ((i : Int) != -1) = true := by rw [bne_iff_ne]; omega
  rw [this, Bool.true_and]
  rfl
theorem lastM_spec (T : List Ev) (ps : List Sn) (s : Sp) (j : Nat) (hs : SpOk s j) : ∀ k, k ≤ 8 → (lastM T ps s j k = -1 ∧ ∀ g, g < k → unkM T ps (s.wr g) j = false) ∨ ∃ g, g < k ∧ lastM T ps s j k = s.wr g ∧ unkM T ps (s.wr g) j = true ∧ ∀ q, q < k → unkM T ps (s.wr q) j = true → s.wr q ≤ s.wr g
  | 0, _ => .inl ⟨rfl, fun g h => by omega⟩
  | k + 1, hk => by
    have ih := lastM_spec T ps s j hs k (by omega)
    have hw := (hs k (by omega)).2
    unfold lastM
    cases hu : unkM T ps (s.wr k) j with
    | false =>
      rw [if_neg (fun h => by cases h)]
      rcases ih with ⟨h1, h2⟩ | ⟨g, h1, h2, h3, h4⟩
      · refine .inl ⟨h1, fun g hg => ?_⟩
        by_cases e : g = k
        · rw [e]; exact hu
        · exact h2 g (by omega)
      · refine .inr ⟨g, by omega, h2, h3, fun q hq hq2 => ?_⟩
        by_cases e : q = k
        · rw [e, hu] at hq2; cases hq2
        · exact h4 q (by omega) hq2
    | true =>
      rw [if_pos rfl]
      rcases ih with ⟨h1, h2⟩ | ⟨g, h1, h2, h3, h4⟩
      · refine .inr ⟨k, by omega, by omega, hu, fun q hq hq2 => ?_⟩
        by_cases e : q = k
        · rw [e]; omega
        · rw [h2 q (by omega)] at hq2; cases hq2
      · by_cases c : s.wr g ≤ s.wr k
        · refine .inr ⟨k, by omega, by omega, hu, fun q hq hq2 => ?_⟩
          by_cases e : q = k
          · rw [e]; omega
          · have := h4 q (by omega) hq2
            omega
        · refine .inr ⟨g, by omega, by omega, h3, fun q hq hq2 => ?_⟩
          by_cases e : q = k
          · rw [e]; omega
          · exact h4 q (by omega) hq2
theorem readF_spec (T : List Ev) (ps : List Sn) (s : Sp) (j : Nat) : ∀ r, r ≤ 8 → (readF T ps s j r = -1 ∧ ∀ g, 8 - r ≤ g → g < 8 → unkM T ps (s.rd g) j = false) ∨ ∃ g, 8 - r ≤ g ∧ g < 8 ∧ readF T ps s j r = s.rd g ∧ unkM T ps (s.rd g) j = true ∧ ∀ q, 8 - r ≤ q → q < g → unkM T ps (s.rd q) j = false
  | 0, _ => .inl ⟨rfl, fun g h h2 => by omega⟩
  | r + 1, hr => by
    have ih := readF_spec T ps s j r (by omega)
    unfold readF
    cases hu : unkM T ps (s.rd (8 - (r + 1))) j with
    | true =>
      rw [if_pos rfl]
      exact .inr ⟨8 - (r + 1), by omega, by omega, rfl, hu, fun q h1 h2 => by omega⟩
    | false =>
      rw [if_neg (fun h => by cases h)]
      rcases ih with ⟨h1, h2⟩ | ⟨g, h1, h2, h3, h4, h5⟩
      · refine .inl ⟨h1, fun g hg hg2 => ?_⟩
        by_cases e : g = 8 - (r + 1)
        · rw [e]; exact hu
        · exact h2 g (by omega) hg2
      · refine .inr ⟨g, by omega, h2, h3, h4, fun q hq hq2 => ?_⟩
        by_cases e : q = 8 - (r + 1)
        · rw [e]; exact hu
        · exact h5 q (by omega) hq2
/-- a place's spot holds each goroutine's last accesses -/
def SpI (T : List Ev) (o : Int) (s : Sp) (n : Nat) : Prop := ∀ g, g < 8 → s.wr g = lstA T 2 o g n ∧ s.rd g = lstA T 1 o g n
theorem SpI.ok {T : List Ev} {o : Int} {s : Sp} {n : Nat} (h : SpI T o s n) : SpOk s n := fun g hg => by
  obtain ⟨h1, h2⟩ := h g hg
  rw [h1, h2]
  constructor
  · rcases lstA_spec T 1 o g n with ⟨e, _⟩ | ⟨f, h, e, _⟩
    · exact .inl e
    · exact .inr (by omega)
  · rcases lstA_spec T 2 o g n with ⟨e, _⟩ | ⟨f, h, e, _⟩
    · exact .inl e
    · exact .inr (by omega)
theorem first_doc {T : List Ev} (R : List Int) (hF : formT T = true) (hb : T.length ≤ 1000000) {j : Nat} (hj : j < T.length) (ha : accB (T.getD j zE) = true) {s : Sp} (hs : SpI T (oOf T j) s j) : firstM T (pastsM R T) s j = fstD T (hbM T R) j j := by
  refine FstS.one (T := T) (M := hbM T R) (j := j) (n := j) ?_ (fstD_spec T _ j j)
  have kj : kOf T j = 1 ∨ kOf T j = 2 := by
    unfold accB at ha
    rw [show (T.getD j zE).k = kOf T j from rfl] at ha
    simpa using ha
  have gc : ∀ i, i < T.length → (T.getD i zE).g = (gOf T i : Nat) := fun i hi => gOf_cast hF hi
  -- an event that is not known is of another goroutine
  have other : ∀ i, i < j → hbM T R j i = false → gOf T i ≠ gOf T j := fun i hi hn e => by
    have := Dn_down hF hj (show Dn T R j j from .inl rfl) (Nat.le_of_lt hi) e
    rcases this with h | h
    · omega
    · rw [hn] at h; cases h
  -- a later one of the goroutine isn't known either
  have later : ∀ i f, i < j → f < j → i ≤ f → gOf T i = gOf T f → hbM T R j i = false → hbM T R j f = false := fun i f hi hf hif hg hn => by
    cases h : hbM T R j f with
    | false => rfl
    | true =>
      have := Dn_down hF hj (show Dn T R j f from .inr h) hif hg
      rcases this with h | h
      · omega
      · rw [hn] at h; cases h
  have unk : ∀ i : Nat, i < j → unkM T (pastsM R T) (i : Nat) j = !hbM T R j i := fun i hi => unk_hb R hF hb hi hj
  have noneU : unkM T (pastsM R T) (-1) j = false := rfl
  -- a candidate's goroutine has a spot that isn't known
  have wUp : ∀ i, i < j → cand T (hbM T R) j i = true → kOf T i = 2 → ∃ f : Nat, i ≤ f ∧ s.wr (gOf T i) = f ∧ unkM T (pastsM R T) (s.wr (gOf T i)) j = true := fun i hi hc hk => by
    obtain ⟨_, c2, c3, _, c5⟩ := cand_out.1 hc
    rcases lstA_spec T 2 (oOf T j) (gOf T i) j with ⟨_, h2⟩ | ⟨f, h1, h2, h3, h4⟩
    · exact absurd ⟨⟨hk, c2⟩, rfl⟩ (h2 i hi)
    · have hif := h4 i hi ⟨⟨hk, c2⟩, rfl⟩
      have e := (hs _ (gOf_lt hF i)).1.trans h2
      refine ⟨f, hif, e, ?_⟩
      rw [e, unk f h1, later i f hi h1 hif h3.2.symm c5]
      rfl
  have rUp : ∀ i, i < j → cand T (hbM T R) j i = true → kOf T i = 1 → ∃ f : Nat, i ≤ f ∧ s.rd (gOf T i) = f ∧ unkM T (pastsM R T) (s.rd (gOf T i)) j = true := fun i hi hc hk => by
    obtain ⟨_, c2, c3, _, c5⟩ := cand_out.1 hc
    rcases lstA_spec T 1 (oOf T j) (gOf T i) j with ⟨_, h2⟩ | ⟨f, h1, h2, h3, h4⟩
    · exact absurd ⟨⟨hk, c2⟩, rfl⟩ (h2 i hi)
    · have hif := h4 i hi ⟨⟨hk, c2⟩, rfl⟩
      have e := (hs _ (gOf_lt hF i)).2.trans h2
      refine ⟨f, hif, e, ?_⟩
      rw [e, unk f h1, later i f hi h1 hif h3.2.symm c5]
      rfl
  have mk : ∀ (kd : Int) (g f : Nat), kd = 1 ∨ kd = 2 → ¬ (kd = 1 ∧ kOf T j = 1) → lstA T kd (oOf T j) g j = f → unkM T (pastsM R T) (f : Nat) j = true → f < j ∧ cand T (hbM T R) j f = true ∧ kOf T f = kd ∧ gOf T f = g := fun kd g f hkd hrr hl hu => by
    rcases lstA_spec T kd (oOf T j) g j with ⟨h1, _⟩ | ⟨f', h1, h2, h3, _⟩
    · omega
    · obtain rfl : f = f' := by omega
      rw [unk f h1] at hu
      have hn : hbM T R j f = false := by simpa using hu
      refine ⟨h1, cand_out.2 ⟨?_, h3.1.2, fun e => other f h1 hn ?_, ?_, hn⟩, h3.1.1, h3.2⟩
      · rw [h3.1.1]; exact hkd
      · rw [gc f (by omega), gc j hj] at e; omega
      · rw [h3.1.1]; exact hrr
  unfold firstM
  rcases lastM_spec T (pastsM R T) s j hs.ok 8 (Nat.le_refl _) with ⟨h1, h2⟩ | ⟨g, h1, h2, h3, h4⟩
  · have noW : ∀ i, i < j → cand T (hbM T R) j i = true → kOf T i = 1 := fun i hi hc => by
      rcases (cand_out.1 hc).1 with k | k
      · exact k
      · obtain ⟨f, _, _, hu⟩ := wUp i hi hc k
        rw [h2 _ (gOf_lt hF i)] at hu
        cases hu
    rw [h1]
    rcases kj with k1 | k2
    · rw [if_pos (.inr k1)]
      refine .inl ⟨rfl, fun i hi => ?_⟩
      cases hc : cand T (hbM T R) j i with
      | false => rfl
      | true => exact absurd ⟨noW i hi hc, k1⟩ (cand_out.1 hc).2.2.2.1
    · rw [if_neg (fun h => by
        rcases h with h | h
        · exact h rfl
        · rw [show (T.getD j zE).k = kOf T j from rfl] at h; omega)]
      rcases readF_spec T (pastsM R T) s j 8 (Nat.le_refl _) with ⟨r1, r2⟩ | ⟨g, r1, r2, r3, r4, r5⟩
      · rw [r1]
        refine .inl ⟨rfl, fun i hi => ?_⟩
        cases hc : cand T (hbM T R) j i with
        | false => rfl
        | true =>
          obtain ⟨f, _, _, hu⟩ := rUp i hi hc (noW i hi hc)
          rw [r2 _ (by omega) (gOf_lt hF i)] at hu
          cases hu
      · have ne : s.rd g ≠ -1 := fun e => by rw [e, noneU] at r4; cases r4
        have hsg := hs.ok g r2
        obtain ⟨f, hf⟩ : ∃ f : Nat, s.rd g = f := ⟨(s.rd g).toNat, by omega⟩
        obtain ⟨m1, m2, m3, m4⟩ := mk 1 g f (.inl rfl) (fun h => by omega) (by rw [← (hs g r2).2, hf]) (by rw [← hf]; exact r4)
        rw [r3, hf]
        refine .inr ⟨f, rfl, m1, m2, .inr ⟨m3, fun i hi hc => ⟨noW i hi hc, ?_, fun e => ?_⟩⟩⟩
        · rw [gc f (by omega), gc i (by omega), m4]
          obtain ⟨_, _, _, hu⟩ := rUp i hi hc (noW i hi hc)
          rcases Nat.lt_or_ge (gOf T i) g with h | h
          · rw [r5 _ (by omega) h] at hu; cases hu
          · omega
        · rw [gc f (by omega), gc i (by omega), m4] at e
          obtain ⟨f', h5, h6, _⟩ := rUp i hi hc (noW i hi hc)
          rw [show gOf T i = g by omega, hf] at h6
          omega
  · have ne : s.wr g ≠ -1 := fun e => by rw [e, noneU] at h3; cases h3
    have hsg := hs.ok g h1
    obtain ⟨f, hf⟩ : ∃ f : Nat, s.wr g = f := ⟨(s.wr g).toNat, by omega⟩
    obtain ⟨m1, m2, m3, m4⟩ := mk 2 g f (.inr rfl) (fun h => by omega) (by rw [← (hs g h1).1, hf]) (by rw [← hf]; exact h3)
    rw [h2, hf, if_pos (.inl (by omega))]
    refine .inr ⟨f, rfl, m1, m2, .inl ⟨m3, fun i hi hc hk => ?_⟩⟩
    obtain ⟨f', h5, h6, h7⟩ := wUp i hi hc hk
    have := h4 _ (gOf_lt hF i) h7
    omega
end Go.Proofs.YticgmebbnnmikaaDoor.Ck
