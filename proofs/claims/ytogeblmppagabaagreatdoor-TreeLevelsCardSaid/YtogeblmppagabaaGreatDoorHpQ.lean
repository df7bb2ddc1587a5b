/- Brackets around a text: what is read. No Go text is walked here. -/
import Derived.Test.YtogeblmppagabaaGreatDoorHnQ
namespace Go.Proofs.YtogeblmppagabaaGreatDoor.Ck
open Go.RowKit

theorem tk_in {ts r : List Tk} {i : Nat} (h : i < ts.length) : tkAt (ts ++ r) i = ts[i] := by
  unfold tkAt
  rw [List.getD_eq_getElem?_getD, List.getElem?_append_left h, List.getElem?_eq_getElem h]
  rfl
theorem tk_out {ts r : List Tk} {i : Nat} (h : ts.length ≤ i) : tkAt (ts ++ r) i = tkAt r (i - ts.length) := by
  unfold tkAt
  rw [List.getD_eq_getElem?_getD, List.getElem?_append_right h, List.getD_eq_getElem?_getD]
theorem tk_cons {t : Tk} {r : List Tk} {i : Nat} : tkAt (t :: r) (i + 1) = tkAt r i := by
  unfold tkAt
  simp [List.getD_eq_getElem?_getD]
theorem tk_nil (i : Nat) : tkAt [] i = noTk := by
  unfold tkAt
  simp [List.getD_eq_getElem?_getD]
theorem tk_one (t : Tk) (i : Nat) : tkAt [t] i = t ∨ tkAt [t] i = noTk := by
  cases i with
  | zero => exact .inl rfl
  | succ i => rw [tk_cons, tk_nil]; exact .inr rfl
theorem mv_of (ts : List Tk) (n N : Nat) (b : Bool) (q : Nat) : Mv (ts ++ [endTk n]) ((opnTk :: (ts.map (Tk.move 1) ++ if b then [shtTk q] else [])) ++ [endTk N]) ts.length := by
  have hm : (ts.map (Tk.move 1)).length = ts.length := by simp
  refine ⟨fun i hi => ?_, fun i hi => ?_, fun i hi => ?_⟩
  · rw [List.cons_append, tk_cons, List.append_assoc, tk_in (by omega), tk_in hi]
    simp
  · rw [tk_out hi]
    rcases tk_one (endTk n) (i - ts.length) with e | e <;> rw [e] <;> exact ⟨rfl, rfl⟩
  · rw [List.cons_append, tk_cons, List.append_assoc, tk_out (by omega)]
    generalize i - (ts.map (Tk.move 1)).length = k
    cases b with
    | false =>
      rcases tk_one (endTk N) k with e | e
      · exact .inr (by show (tkAt [endTk N] k).text = _; rw [e]; rfl)
      · exact .inr (by show (tkAt [endTk N] k).text = _; rw [e]; rfl)
    | true =>
      cases k with
      | zero => exact .inl rfl
      | succ k =>
        have e0 : tkAt ((if true = true then [shtTk q] else []) ++ [endTk N]) (k + 1) = tkAt [endTk N] k := tk_cons (t := shtTk q) (r := [endTk N])
        rw [e0]
        rcases tk_one (endTk N) k with e | e
        · exact .inr (by rw [e]; rfl)
        · exact .inr (by rw [e]; rfl)
theorem tokF_kind {s : ByteArray} {i : Nat} {t : Tk} {e : Nat} (h : tokF s i = .ok t e) : t.kind ≠ 0 := by
  unfold tokF at h
  split at h
  · unfold wordF at h
    split at h
    · cases h
    · cases h
      dsimp only
      split <;> decide
  · split at h
    · unfold intF at h
      split at h
      · split at h
        · cases h
        · cases h
          exact Nat.succ_ne_zero _
      · cases h
    · split at h
      · unfold floatF at h
        split at h
        · split at h
          · cases h
          · cases h
            exact Nat.succ_ne_zero _
        · cases h
      · unfold signF at h
        split at h
        · cases h
        · cases h
          exact Nat.succ_ne_zero _
theorem rdF_kind {s : ByteArray} : ∀ {i : Nat} {acc ts : List Tk}, rdF s i acc = .ok ts → (∀ t ∈ acc, t.kind ≠ 0) → ∀ t ∈ ts, t.kind ≠ 0 := fun {i acc ts} h ha => by
  by_cases h1 : i < s.size
  · by_cases h2 : acc.length = 2000
    · rw [rdF_full h1 h2] at h
      cases h
    · cases hq : tokF s i with
      | bad k' j' =>
        rw [rdF_bad h1 h2 hq] at h
        cases h
      | ok t e =>
        have h3 := tokF_ok h1 hq
        have h4 := blF_ge s e
        rw [rdF_step h1 h2 hq] at h
        refine rdF_kind h (fun x hx => ?_)
        rcases List.mem_append.1 hx with hx | hx
        · exact ha x hx
        · simp at hx
          rw [hx]
          exact tokF_kind hq
  · rw [rdF_end h1] at h
    cases h
    exact ha
termination_by i => s.size - i
theorem row_stop {M : List Tk} {rule : Nat → Out} {zs : List ByteArray} {n : Nd} {q f i : Nat} (hr : rule i = .ok n q) (hh : ¬ has M q zs = true) (hf : 0 < f) : rowO rule zs M f i = .ok n q := by
  obtain ⟨f', rfl⟩ : ∃ f', f = f' + 1 := ⟨f - 1, by omega⟩
  unfold rowO
  rw [hr]
  dsimp only
  unfold rowF
  rw [if_neg hh]
theorem row_bad {M : List Tk} {rule : Nat → Out} {zs : List ByteArray} {k q f i : Nat} (hr : rule i = .bad k q) : rowO rule zs M f i = .bad k q := by
  unfold rowO
  rw [hr]
/-- what a bracket at the row's beginning comes to -/
theorem ex_wrap {M : List Tk} (h0 : tkAt M 0 = opnTk) (hl : 0 < M.length) (hops : ∀ n q, pz M (8 * M.length) 0 1 1 = .ok n q → has M q [bShut] = true → ∀ zs : List ByteArray, (∀ z ∈ zs, z.size ≠ 0 ∧ z ≠ ⟨#[41]⟩) → ¬ has M (q + 1) zs = true) :
    ∀ o, exD M 0 0 = o → (∃ k q, o = .bad k q) ∨ ∃ n q, pz M (8 * M.length) 0 1 1 = .ok n q ∧ has M q [bShut] = true ∧ o = .ok n (q + 1) := by
  intro o ho
  unfold exD at ho
  rw [show 8 * M.length + 7 = 8 * M.length + 1 + 1 + 1 + 1 + 1 + 1 + 1 from rfl] at ho
  have hh0 : ∀ zs : List ByteArray, has M 0 zs = Lib.containsS zs ⟨#[40]⟩ := fun zs => by
    unfold has tx
    rw [h0]
    rfl
  have e6 : pz M (8 * M.length + 1) 6 0 0 = wrapO M 0 0 bOpen bShut (pz M (8 * M.length) 0 1 1) := by
    rw [show pz M (8 * M.length + 1) 6 0 0 = _ from pz6 M (8 * M.length) 0 0 0]
    unfold primO
    rw [h0]
    rw [if_neg (by decide), if_neg (by decide), if_neg (by decide), if_neg (by rw [hh0]; decide), if_neg (by rw [hh0]; decide), if_neg (by rw [hh0]; decide)]
  have hun : ¬ has M 0 unT = true := by rw [hh0]; decide
  have e5 : pz M (8 * M.length + 1 + 1) 5 0 0 = pz M (8 * M.length + 1) 6 0 0 := by rw [pz5, if_neg hun]
  have hb : has M 0 [bOpen] = true := by rw [hh0]; decide
  unfold wrapO at e6
  rw [if_pos hb, if_neg (by decide)] at e6
  cases hq : pz M (8 * M.length) 0 1 1 with
  | bad k q =>
    rw [hq] at e6
    rw [e6] at e5
    have e4 := row_bad (M := M) (zs := prodT) (f := M.length) e5
    have e3 := row_bad (M := M) (zs := sumT) (f := M.length) (rule := pz M (8 * M.length + 1 + 1 + 1) 4 0) (i := 0) (by rw [pz4]; exact e4)
    have e2 : cmpO (pz M (8 * M.length + 1 + 1 + 1 + 1) 3 0) M 0 = .bad k q := by
      unfold cmpO
      rw [pz3, e3]
    have e1 := row_bad (M := M) (zs := andT) (f := M.length) (rule := pz M (8 * M.length + 1 + 1 + 1 + 1 + 1) 2 0) (i := 0) (by rw [pz2]; exact e2)
    rw [pz0, row_bad (k := k) (q := q) (by rw [pz1]; exact e1)] at ho
    exact .inl ⟨k, q, ho.symm⟩
  | ok n q =>
    rw [hq] at e6
    dsimp only at e6
    by_cases hs : has M q [bShut] = true
    · rw [if_pos hs] at e6
      rw [e6] at e5
      have hn := hops n q hq hs
      have e4 := row_stop (M := M) (zs := prodT) (f := M.length) e5 (hn _ (by decide)) hl
      have e3 := row_stop (M := M) (zs := sumT) (f := M.length) (rule := pz M (8 * M.length + 1 + 1 + 1) 4 0) (i := 0) (by rw [pz4]; exact e4) (hn _ (by decide)) hl
      have e2 : cmpO (pz M (8 * M.length + 1 + 1 + 1 + 1) 3 0) M 0 = .ok n (q + 1) := by
        unfold cmpO
        rw [pz3, e3]
        dsimp only
        rw [if_neg (hn _ (by decide))]
      have e1 := row_stop (M := M) (zs := andT) (f := M.length) (rule := pz M (8 * M.length + 1 + 1 + 1 + 1 + 1) 2 0) (i := 0) (by rw [pz2]; exact e2) (hn _ (by decide)) hl
      rw [pz0, row_stop (n := n) (q := q + 1) (by rw [pz1]; exact e1) (hn _ (by decide)) hl] at ho
      exact .inr ⟨n, q, rfl, hs, ho.symm⟩
    · rw [if_neg hs] at e6
      rw [e6] at e5
      have e4 := row_bad (M := M) (zs := prodT) (f := M.length) e5
      have e3 := row_bad (M := M) (zs := sumT) (f := M.length) (rule := pz M (8 * M.length + 1 + 1 + 1) 4 0) (i := 0) (by rw [pz4]; exact e4)
      have e2 : cmpO (pz M (8 * M.length + 1 + 1 + 1 + 1) 3 0) M 0 = .bad 1 q := by
        unfold cmpO
        rw [pz3, e3]
      have e1 := row_bad (M := M) (zs := andT) (f := M.length) (rule := pz M (8 * M.length + 1 + 1 + 1 + 1 + 1) 2 0) (i := 0) (by rw [pz2]; exact e2)
      rw [pz0, row_bad (k := 1) (q := q) (by rw [pz1]; exact e1)] at ho
      exact .inl ⟨1, q, ho.symm⟩

theorem ex_wrap' {M : List Tk} (h0 : tkAt M 0 = opnTk) (hl : 0 < M.length) {k q : Nat} (h : pz M (8 * M.length) 0 1 1 = .bad k q) : ∃ k q, exD M 0 0 = .bad k q := by
  rcases ex_wrap h0 hl (fun n q2 h2 => by rw [h] at h2; cases h2) _ rfl with h3 | ⟨n, q2, h2, _⟩
  · exact h3
  · rw [h] at h2
    cases h2
theorem ex_wrap'' {M : List Tk} (h0 : tkAt M 0 = opnTk) (hl : 0 < M.length) {n : Nd} {q : Nat} (hops : has M q [bShut] = true → ∀ zs : List ByteArray, (∀ z ∈ zs, z.size ≠ 0 ∧ z ≠ ⟨#[41]⟩) → ¬ has M (q + 1) zs = true) (h : pz M (8 * M.length) 0 1 1 = .ok n q) {n2 : Nd} {i : Nat} (ho : exD M 0 0 = .ok n2 i) : n2 = n := by
  rcases ex_wrap h0 hl (fun n q2 h2 => by rw [h] at h2; cases h2; exact hops) _ ho with ⟨k, q2, h3⟩ | ⟨n3, q2, h2, _, h4⟩
  · cases h3
  · rw [h] at h2
    cases h2
    cases h4
    rfl

end Go.Proofs.YtogeblmppagabaaGreatDoor.Ck
