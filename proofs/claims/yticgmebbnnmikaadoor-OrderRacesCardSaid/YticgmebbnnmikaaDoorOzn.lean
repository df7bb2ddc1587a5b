/- The document's list of races is package order's, sorted. No Go text is walked here. -/
import Derived.Test.YticgmebbnnmikaaDoorOzm
namespace Go.Proofs.YticgmebbnnmikaaDoor.Ck
open Go.RowKit

def zR : Rc := ⟨0, 0, 0, false, false⟩
/-- where among the first k races a place belongs -/
def insK (l : List Rc) (p : Int) : Nat → Nat
  | 0 => 0
  | k + 1 => if p < (l.getD k zR).p then insK l p k else k + 1
theorem insK_spec (l : List Rc) (p : Int) : ∀ k, insK l p k ≤ k ∧ (∀ i, insK l p k ≤ i → i < k → p < (l.getD i zR).p) ∧ (insK l p k = 0 ∨ (l.getD (insK l p k - 1) zR).p ≤ p)
  | 0 => ⟨Nat.le_refl _, fun i h1 h2 => by omega, .inl rfl⟩
  | k + 1 => by
    obtain ⟨h1, h2, h3⟩ := insK_spec l p k
    unfold insK
    by_cases c : p < (l.getD k zR).p
    · rw [if_pos c]
      refine ⟨by omega, fun i hi hi2 => ?_, h3⟩
      by_cases e : i = k
      · rw [e]; exact c
      · exact h2 i hi (by omega)
    · rw [if_neg c]
      exact ⟨Nat.le_refl _, fun i hi hi2 => by omega, .inr (by rw [Nat.add_sub_cancel]; omega)⟩
/-- a race put in by its place -/
def insR (r : Rc) (l : List Rc) : List Rc := l.take (insK l r.p l.length) ++ r :: l.drop (insK l r.p l.length)
theorem insR_perm (r : Rc) (l : List Rc) : (insR r l).Perm (r :: l) := by
  unfold insR
  have h := List.perm_middle (a := r) (l₁ := l.take (insK l r.p l.length)) (l₂ := l.drop (insK l r.p l.length))
  rw [List.take_append_drop] at h
  exact h
def Up (l : List Rc) : Prop := l.Pairwise (fun a b => a.p < b.p)
theorem getR (l : List Rc) (i : Nat) (h : i < l.length) : l.getD i zR = l[i] := by simp [List.getD, h]
theorem insR_up {r : Rc} {l : List Rc} (h : Up l) (hr : ∀ x ∈ l, x.p ≠ r.p) : Up (insR r l) := by
  obtain ⟨h1, h2, h3⟩ := insK_spec l r.p l.length
  have hg := List.pairwise_iff_getElem.1 h
  unfold insR Up
  generalize insK l r.p l.length = K at *
  have lo : ∀ a ∈ l.take K, a.p < r.p := fun a ha => by
    obtain ⟨i, hi, rfl⟩ := List.mem_iff_getElem.1 ha
    rw [List.length_take] at hi
    rw [List.getElem_take]
    have hn := hr l[i] (List.getElem_mem _)
    rcases h3 with h3 | h3
    · omega
    · rw [getR l _ (by omega)] at h3
      by_cases e : i = K - 1
      · subst e; omega
      · have := hg i (K - 1) (by omega) (by omega) (by omega)
        omega
  have hi : ∀ b ∈ l.drop K, r.p < b.p := fun b hb => by
    obtain ⟨i, hi, rfl⟩ := List.mem_iff_getElem.1 hb
    rw [List.length_drop] at hi
    rw [List.getElem_drop]
    have := h2 (K + i) (by omega) (by omega)
    rw [getR l _ (by omega)] at this
    exact this
  refine List.pairwise_append.2 ⟨h.sublist (List.take_sublist _ _), List.pairwise_cons.2 ⟨hi, h.sublist (List.drop_sublist _ _)⟩, fun a ha b hb => ?_⟩
  rcases List.mem_cons.1 hb with e | e
  · rw [e]; exact lo a ha
  · have := lo a ha
    have := hi b e
    omega
/-- a row by rising places of the same races is the same row -/
theorem up_one : ∀ (d l : List Rc), Up d → l.Pairwise (fun a b => a.p ≤ b.p) → l.Perm d → l = d
  | [], l, _, _, h => h.eq_nil
  | x :: d, [], _, _, h => by
    have := h.length_eq
    simp at this
  | x :: d, y :: l, hd, hl, h => by
    have hd' := List.pairwise_cons.1 hd
    have hl' := List.pairwise_cons.1 hl
    have e : y = x := by
      rcases List.mem_cons.1 (h.mem_iff.1 (List.mem_cons_self (a := y) (l := l))) with e | e
      · exact e
      · have h1 := hd'.1 y e
        rcases List.mem_cons.1 (h.mem_iff.2 (List.mem_cons_self (a := x) (l := d))) with e2 | e2
        · exact e2.symm
        · have h2 := hl'.1 x e2
          omega
    subst e
    rw [up_one d l hd'.2 hl'.2 h.cons_inv]
/-- the document's races, behind k events -/
def docF (T : List Ev) (M : Nat → Nat → Bool) : Nat → List Rc
  | 0 => []
  | k + 1 => if accB (T.getD k zE) = true ∧ (docF T M k).any (fun r => r.p == oOf T k) = false ∧ fstD T M k k ≠ -1 then insR (raceM (T.getD (fstD T M k k).toNat zE) (T.getD k zE)) (docF T M k) else docF T M k
/-- what a walk over a trace keeps -/
structure Ri (T : List Ev) (l : List Rc) (F : Int → Option Sp) (k : Nat) : Prop where
  ra : ∀ o, ((F o).getD sp1).ra = true ↔ ∃ r ∈ l, r.p = o
  sp : ∀ o, ((F o).getD sp1).ra = false → SpI T o ((F o).getD sp1) k
theorem lstA_skip {T : List Ev} {kd o : Int} {g n : Nat} (h : ¬ ((kOf T n = kd ∧ oOf T n = o) ∧ gOf T n = g)) : lstA T kd o g (n + 1) = lstA T kd o g n := by
  rw [lstA, if_neg h]
theorem lstA_more {T : List Ev} {kd o : Int} {g n : Nat} (h : (kOf T n = kd ∧ oOf T n = o) ∧ gOf T n = g) : lstA T kd o g (n + 1) = n := by
  rw [lstA, if_pos h]
theorem acc_kind {T : List Ev} {k : Nat} : accB (T.getD k zE) = true ↔ kOf T k = 1 ∨ kOf T k = 2 := by
  unfold accB
  rw [show (T.getD k zE).k = kOf T k from rfl]
  simp
theorem race_doc {T : List Ev} (R : List Int) (hF : formT T = true) (hb : T.length ≤ 1000000) : ∀ k, k ≤ T.length →
    Ri T (raceF T (pastsM R T) k).1 (raceF T (pastsM R T) k).2 k ∧ (docF T (hbM T R) k).Perm (raceF T (pastsM R T) k).1 ∧ Up (docF T (hbM T R) k)
  | 0, _ => ⟨⟨fun o => ⟨fun h => (by cases h), fun ⟨r, h, _⟩ => (by cases h)⟩, fun o _ g hg => ⟨rfl, rfl⟩⟩, List.Perm.refl _, List.Pairwise.nil⟩
  | k + 1, hk => by
    obtain ⟨I, P, U⟩ := race_doc R hF hb k (by omega)
    unfold raceF docF
    generalize raceF T (pastsM R T) k = lF at *
    obtain ⟨l, F⟩ := lF
    generalize docF T (hbM T R) k = d at *
    have any : d.any (fun r => r.p == oOf T k) = true ↔ ∃ r ∈ l, r.p = oOf T k := by
      rw [List.any_eq_true]
      constructor
      · rintro ⟨r, h1, h2⟩
        exact ⟨r, P.mem_iff.1 h1, by simpa using h2⟩
      · rintro ⟨r, h1, h2⟩
        exact ⟨r, P.mem_iff.2 h1, by simpa using h2⟩
    cases ha : accB (T.getD k zE) with
    | false =>
      rw [if_neg (fun h => by cases h), if_neg (fun h => by cases h.1)]
      have hn : ¬ (kOf T k = 1 ∨ kOf T k = 2) := fun h => by rw [acc_kind.2 h] at ha; cases ha
      exact ⟨⟨I.ra, fun o ho g hg => by
        rw [lstA_skip (fun h => hn (.inr h.1.1)), lstA_skip (fun h => hn (.inl h.1.1))]
        exact I.sp o ho g hg⟩, P, U⟩
    | true =>
      rw [if_pos rfl]
      have hkd := acc_kind.1 ha
      have other : ∀ o, o ≠ oOf T k → ∀ kd g, lstA T kd o g (k + 1) = lstA T kd o g k := fun o ho kd g => lstA_skip (fun h => ho h.1.2.symm)
      cases hr : ((F (T.getD k zE).o).getD sp1).ra with
      | true =>
        have e : takeM T (pastsM R T) F k = (-1, F) := by unfold takeM; rw [if_pos hr]
        have h2 : d.any (fun r => r.p == oOf T k) = true := any.2 ((I.ra _).1 hr)
        rw [e, if_neg (fun h => h rfl), if_neg (fun h => by rw [h2] at h; cases h.2.1)]
        refine ⟨⟨I.ra, fun o ho g hg => ?_⟩, P, U⟩
        have hne : o ≠ oOf T k := fun e => by
          rw [e] at ho
          rw [show oOf T k = (T.getD k zE).o from rfl, hr] at ho
          cases ho
        rw [other o hne, other o hne]
        exact I.sp o ho g hg
      | false =>
        have hsp := I.sp _ hr
        have hx := first_doc R hF hb (show k < T.length by omega) ha hsp
        have e : takeM T (pastsM R T) F k = (fstD T (hbM T R) k k, up F (T.getD k zE).o (some (putS (T.getD k zE) k { (F (T.getD k zE).o).getD sp1 with ra := fstD T (hbM T R) k k != -1 }))) := by
          unfold takeM
          rw [if_neg (by rw [hr]; simp), hx]
        have h2 : d.any (fun r => r.p == oOf T k) = false := by
          cases h : d.any (fun r => r.p == oOf T k) with
          | false => rfl
          | true => rw [show (T.getD k zE).o = oOf T k from rfl, (I.ra _).2 (any.1 h)] at hr; cases hr
        have nl : ∀ r ∈ l, r.p ≠ oOf T k := fun r hr1 hr2 => by
          rw [show (T.getD k zE).o = oOf T k from rfl, (I.ra _).2 ⟨r, hr1, hr2⟩] at hr
          cases hr
        rw [e, h2]
        generalize fstD T (hbM T R) k k = x at *
        obtain ⟨s, hs⟩ : ∃ s, s = (F (T.getD k zE).o).getD sp1 := ⟨_, rfl⟩
        rw [← hs] at hsp ⊢
        have upE : ∀ o (S : Sp), ((up F (T.getD k zE).o (some S) o).getD sp1) = if o = oOf T k then S else (F o).getD sp1 := fun o S => by
          unfold up
          rw [show (T.getD k zE).o = oOf T k from rfl]
          split <;> rfl
        have raP : ∀ b, (putS (T.getD k zE) k { s with ra := b }).ra = b := fun b => by
          unfold putS
          split <;> rfl
        have spP : ∀ b, SpI T (oOf T k) (putS (T.getD k zE) k { s with ra := b }) (k + 1) := fun b g hg => by
          obtain ⟨q1, q2⟩ := hsp g hg
          change s.wr g = lstA T 2 (oOf T k) g k at q1
          change s.rd g = lstA T 1 (oOf T k) g k at q2
          unfold putS
          rw [show (T.getD k zE).k = kOf T k from rfl, show (T.getD k zE).g.toNat = gOf T k from rfl]
          rcases hkd with k1 | k2
          · rw [if_neg (by omega), lstA_skip (fun h => by omega)]
            refine ⟨q1, ?_⟩
            show setS s.rd (gOf T k) k g = _
            unfold setS
            by_cases eg : g = gOf T k
            · rw [if_pos eg, lstA_more ⟨⟨k1, rfl⟩, eg.symm⟩]
            · rw [if_neg eg, lstA_skip (fun h => eg h.2.symm)]
              exact q2
          · rw [if_pos k2, lstA_skip (kd := 1) (fun h => by omega)]
            refine ⟨?_, q2⟩
            show setS s.wr (gOf T k) k g = _
            unfold setS
            by_cases eg : g = gOf T k
            · rw [if_pos eg, lstA_more ⟨⟨k2, rfl⟩, eg.symm⟩]
            · rw [if_neg eg, lstA_skip (fun h => eg h.2.symm)]
              exact q1
        have spA : ∀ b o, ((up F (T.getD k zE).o (some (putS (T.getD k zE) k { s with ra := b })) o).getD sp1).ra = false → SpI T o ((up F (T.getD k zE).o (some (putS (T.getD k zE) k { s with ra := b })) o).getD sp1) (k + 1) := fun b o ho => by
          rw [upE] at ho ⊢
          by_cases eo : o = oOf T k
          · rw [if_pos eo, eo]
            exact spP b
          · rw [if_neg eo] at ho ⊢
            intro g hg
            rw [other o eo, other o eo]
            exact I.sp o ho g hg
        by_cases cx : x = -1
        · rw [if_neg (fun h => h cx), if_neg (fun h => h.2.2 cx), cx]
          refine ⟨⟨fun o => ?_, spA _⟩, P, U⟩
          rw [upE]
          by_cases eo : o = oOf T k
          · rw [if_pos eo, raP, eo]
            exact ⟨fun h => (by cases h), fun ⟨r, h1, h2⟩ => absurd h2 (nl r h1)⟩
          · rw [if_neg eo]
            exact I.ra o
        · rw [if_pos cx, if_pos ⟨rfl, rfl, cx⟩]
          have bx : (x != -1) = true := by simpa using cx
          rw [bx]
          have rp : (raceM (T.getD x.toNat zE) (T.getD k zE)).p = oOf T k := rfl
          generalize raceM (T.getD x.toNat zE) (T.getD k zE) = r at *
          refine ⟨⟨fun o => ?_, spA _⟩, ?_, insR_up U (fun y hy => by rw [rp]; exact nl y (P.mem_iff.1 hy))⟩
          · rw [upE]
            by_cases eo : o = oOf T k
            · rw [if_pos eo, raP, eo]
              exact ⟨fun _ => ⟨r, by simp, rp⟩, fun _ => rfl⟩
            · rw [if_neg eo]
              rw [I.ra o]
              constructor
              · rintro ⟨q, h1, h2⟩
                exact ⟨q, by simp [h1], h2⟩
              · rintro ⟨q, h1, h2⟩
                rcases List.mem_append.1 h1 with h | h
                · exact ⟨q, h, h2⟩
                · rw [List.mem_singleton.1 h, rp] at h2
                  exact absurd h2.symm eo
          · exact (insR_perm r d).trans ((P.cons r).trans (List.perm_append_singleton r l).symm)
/-- package order's races, sorted, are the document's -/
theorem races_doc {T : List Ev} (R : List Int) (hF : formT T = true) (hb : T.length ≤ 1000000) {l : List Rc} (hp : l.Perm (racesM R T)) (hr : ∀ i j : Nat, i < j → j < l.length → ∀ z, (l.getD i z).p ≤ (l.getD j z).p) : l = docF T (hbM T R) T.length := by
  obtain ⟨_, P, U⟩ := race_doc R hF hb T.length (Nat.le_refl _)
  refine up_one _ l U (List.pairwise_iff_getElem.2 fun i j hi hj hij => ?_) (hp.trans P.symm)
  have := hr i j hij hj zR
  rw [getR l i hi, getR l j hj] at this
  exact this
end Go.Proofs.YticgmebbnnmikaaDoor.Ck
