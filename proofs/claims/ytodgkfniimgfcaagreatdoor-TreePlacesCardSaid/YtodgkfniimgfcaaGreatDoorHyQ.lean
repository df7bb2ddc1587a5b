/- Places of a program's nodes: at beginnings of tokens of its text. No Go text is walked here. -/
import Derived.Test.YtodgkfniimgfcaaGreatDoorHxQ
import Derived.Test.YtodgkfniimgfcaaGreatDoorQbm
namespace Go.Proofs.YtodgkfniimgfcaaGreatDoor.Ck
open Go.RowKit

/-- tokens in order, none behind e -/
def Ord (ts : List Tk) (e : Nat) : Prop := (∀ a b, a ≤ b → b < ts.length → (tkAt ts a).pos ≤ (tkAt ts b).pos) ∧ ∀ a, a < ts.length → (tkAt ts a).pos ≤ e
theorem ord_nil (e : Nat) : Ord [] e := ⟨fun _ _ _ h => by simp at h, fun _ h => by simp at h⟩
theorem ord_snoc {ts : List Tk} {e e' : Nat} {t : Tk} (h : Ord ts e) (h1 : e ≤ t.pos) (h2 : t.pos ≤ e') : Ord (ts ++ [t]) e' := by
  have at1 : ∀ a, a < ts.length → tkAt (ts ++ [t]) a = tkAt ts a := fun a ha => by
    unfold tkAt
    rw [List.getD_eq_getElem?_getD, List.getD_eq_getElem?_getD, List.getElem?_append_left ha]
  have at2 : tkAt (ts ++ [t]) ts.length = t := by
    unfold tkAt
    rw [List.getD_eq_getElem?_getD, List.getElem?_append_right (Nat.le_refl _)]
    simp
  refine ⟨fun a b hab hb => ?_, fun a ha => ?_⟩
  · rw [List.length_append, List.length_singleton] at hb
    by_cases e1 : b = ts.length
    · subst e1
      by_cases e2 : a = ts.length
      · subst e2; exact Nat.le_refl _
      · rw [at2, at1 a (by omega)]
        have := h.2 a (by omega)
        omega
    · rw [at1 b (by omega), at1 a (by omega)]
      exact h.1 a b hab (by omega)
  · rw [List.length_append, List.length_singleton] at ha
    by_cases e2 : a = ts.length
    · subst e2; rw [at2]; exact h2
    · rw [at1 a (by omega)]
      have := h.2 a (by omega)
      omega
theorem rdF_ord {s : ByteArray} {i : Nat} {acc ts : List Tk} (hi : i ≤ s.size) (ha : Ord acc i) (h : rdF s i acc = .ok ts) : Ord ts s.size := by
  by_cases h1 : i < s.size
  · by_cases h2 : acc.length = 2000
    · rw [rdF_full h1 h2] at h
      cases h
    · cases hq : tokF s i with
      | bad k' j' =>
        rw [rdF_bad h1 h2 hq] at h
        cases h
      | ok t e =>
        have h3 := tokF_ok h1 hq
        have h4 := blF_ge s e
        have h5 := blF_le s e h3.2
        have h6 := (tokF_pos hq).1
        rw [rdF_step h1 h2 hq] at h
        exact rdF_ord h5 (ord_snoc ha (by omega) (by omega)) h
  · rw [rdF_end h1] at h
    cases h
    exact ⟨ha.1, fun a h => Nat.le_trans (ha.2 a h) hi⟩
termination_by s.size - i
theorem rdF_badpos {s : ByteArray} {i : Nat} {acc : List Tk} {k j : Nat} (hi : i ≤ s.size) (h : rdF s i acc = .bad k j) : j ≤ s.size := by
  by_cases h1 : i < s.size
  · by_cases h2 : acc.length = 2000
    · rw [rdF_full h1 h2] at h
      cases h
      exact hi
    · cases hq : tokF s i with
      | bad k' j' =>
        rw [rdF_bad h1 h2 hq] at h
        cases h
        exact (tokF_bad h1 hq).2
      | ok t e =>
        have h3 := tokF_ok h1 hq
        have h4 := blF_ge s e
        rw [rdF_step h1 h2 hq] at h
        exact rdF_badpos (blF_le s e h3.2) h
  · rw [rdF_end h1] at h
    cases h
termination_by s.size - i
theorem toksF_ord {s : ByteArray} {ts : List Tk} (h : toksF s = .ok ts) : Ord ts s.size := by
  unfold toksF at h
  split at h
  · exact rdF_ord (blF_le s 0 (Nat.zero_le _)) (ord_nil _) h
  · cases h
theorem toksF_badpos {s : ByteArray} {k j : Nat} (h : toksF s = .bad k j) : j ≤ s.size := by
  unfold toksF at h
  split at h
  · exact rdF_badpos (blF_le s 0 (Nat.zero_le _)) h
  · cases h
    exact Nat.zero_le _
theorem srt_toks {ts : List Tk} {n : Nat} (h : Ord ts n) : Srt (ts ++ [endTk n]) ∧ ∀ a, a < (ts ++ [endTk n]).length → (tkAt (ts ++ [endTk n]) a).pos ≤ n := by
  have g := ord_snoc (t := endTk n) (e' := n) h (Nat.le_refl _) (Nat.le_refl _)
  exact ⟨fun a b hab hb => Int.ofNat_le.2 (g.1 a b hab hb), g.2⟩
/-- where a program's reading ends, and where its nodes stand -/
def Placed (s : ByteArray) : Read → Prop
  | .bad _ i => i ≤ s.size
  | .ok n => ∃ ts, toksF s = .ok ts ∧ Pl (ts ++ [endTk s.size]) n
theorem places_model (s : ByteArray) : Placed s (readO prD s) := by
  unfold readO
  cases hq : toksF s with
  | bad k i => exact toksF_badpos hq
  | ok ts =>
    obtain ⟨hS, hle⟩ := srt_toks (toksF_ord hq)
    have g := prD_go hS (ends_toks ts s.size) (by simp)
    dsimp only
    cases hp : prD (ts ++ [endTk s.size]) with
    | bad k j =>
      rw [hp] at g
      exact hle j g
    | ok n j =>
      rw [hp] at g
      dsimp only
      split
      · exact ⟨ts, hq, g.2.2.2.2⟩
      · exact hle j g.2.1

end Go.Proofs.YtodgkfniimgfcaaGreatDoor.Ck
