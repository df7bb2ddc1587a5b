/- Package order's races: where each access knows all that went before it, there are none; so it is with one goroutine, and with accesses under one mutex. No Go text is walked here. -/
import Derived.Test.YticgmebbnnmikaaDoorOza
namespace Go.Proofs.YticgmebbnnmikaaDoor.Ck
open Go.RowKit

/-- each access knows all events ahead of it -/
def Kn (R : List Int) (T : List Ev) : Prop := ∀ n, n < T.length → accB (T.getD n zE) = true → ∀ j, j < n → (pastsM R T).getD j sn0 (gOf T j) ≤ (pastsM R T).getD n sn0 (gOf T j)
def NoR (F : Int → Option Sp) : Prop := ∀ o s, F o = some s → s.ra = false
theorem race_known {R : List Int} {T : List Ev} (hK : Kn R T) : ∀ k, k ≤ T.length → (raceF T (pastsM R T) k).1 = [] ∧ NoR (raceF T (pastsM R T) k).2
  | 0, _ => ⟨rfl, fun _ _ h => by cases h⟩
  | k + 1, hk => by
    obtain ⟨h1, h2⟩ := race_known hK k (by omega)
    have hOk := race_ok T (pastsM R T) k
    unfold raceF
    split
    · rename_i ha
      obtain ⟨s, hs⟩ : ∃ s, s = ((raceF T (pastsM R T) k).2 (T.getD k zE).o).getD sp1 := ⟨_, rfl⟩
      have hg : s.ra = false ∧ SpOk s k := by
        rw [hs]
        cases e : (raceF T (pastsM R T) k).2 (T.getD k zE).o with
        | none => exact ⟨rfl, sp1_ok k⟩
        | some t => exact ⟨h2 _ t e, hOk _ t e⟩
      have key : ∀ x : Int, (x = -1 ∨ 0 ≤ x ∧ x < k) → unkM T (pastsM R T) x k = false := fun x hx => by
        rcases hx with hx | hx
        · exact unk_none hx
        · have q := hK k (by omega) ha x.toNat (by omega)
          unfold unkM
          rw [Bool.and_eq_false_iff]
          right
          rw [Bool.not_eq_false', decide_eq_true_eq]
          unfold gOf at q
          omega
      have hf : firstM T (pastsM R T) s k = -1 := by
        unfold firstM
        rw [lastM_none (fun i hi => key _ (hg.2 i hi).2) 8 (by omega), readF_none (fun i hi => key _ (hg.2 i hi).1) 8 (by omega)]
        split <;> rfl
      have ht : takeM T (pastsM R T) (raceF T (pastsM R T) k).2 k = (-1, up (raceF T (pastsM R T) k).2 (T.getD k zE).o (some (putS (T.getD k zE) k { s with ra := false }))) := by
        unfold takeM
        rw [← hs, hg.1, if_neg (by decide), hf]
        rfl
      rw [ht]
      refine ⟨by simp [h1], fun o t hs => ?_⟩
      simp only [up] at hs
      split at hs
      · injection hs with hs
        subst hs
        unfold putS
        split <;> rfl
      · exact h2 o t hs
    · exact ⟨h1, h2⟩
theorem races_known {R : List Int} {T : List Ev} (hK : Kn R T) : racesM R T = [] := (race_known hK _ (Nat.le_refl _)).1
/-- one goroutine has no races -/
theorem kn_one {R : List Int} {T : List Ev} (hF : formT T = true) (hn : T.length ≤ 100000) (g : Int) (hg : ∀ e ∈ T, e.g = g) : Kn R T := fun n hn' _ j hj =>
  know_own hF hn hj hn' (by
    unfold gOf
    rw [hg _ (mem_getD (show j < T.length by omega)), hg _ (mem_getD hn')])
/-- what an event knows is no less than what it learns -/
theorem mine_ge {R : List Int} {T : List Ev} {W : Wk} {n : Nat} (h : Iv T W n) (hl : W.past.length = n) (hn : n ≤ 1000000) (e : Ev) (hg : e.g.toNat < 8) (q : Nat) : learnM R W (W.gos e.g.toNat) e q ≤ mineM R W e q := by
  obtain ⟨L1, L2⟩ := h.learn (R := R) hl e hg
  have a := L1.le e.g.toNat hg
  have nn := L1.nn e.g.toNat
  have bd := h.bd e.g.toNat hg
  unfold mineM setS
  split
  · rename_i e
    subst e
    unfold wrap64
    omega
  · exact Int.le_refl _
/-- accesses under one mutex: a trace, and who holds it at its end -/
inductive Lk (mu : Int) : List Ev → Int → Prop
  | none : Lk mu [] (-1)
  | acc {L : List Ev} {h : Int} {e : Ev} : Lk mu L h → 0 ≤ e.g → e.g < 8 → (e.k = 1 ∨ e.k = 2) → h = e.g → Lk mu (L ++ [e]) h
  | lock {L : List Ev} {h : Int} {e : Ev} : Lk mu L h → h < 0 → 0 ≤ e.g → e.g < 8 → e.k = 3 → e.o = mu → Lk mu (L ++ [e]) e.g
  | unlock {L : List Ev} {h : Int} {e : Ev} : Lk mu L h → 0 ≤ e.g → e.g < 8 → e.k = 4 → e.o = mu → h = e.g → Lk mu (L ++ [e]) (-1)
def heldM (W : Wk) (mu h : Int) : Sn := if h < 0 then W.mu mu else W.gos h.toNat
theorem form_snoc {L : List Ev} {e : Ev} (h : formT L = true) (g0 : 0 ≤ e.g) (g8 : e.g < 8) (k1 : 1 ≤ e.k) (k4 : e.k ≤ 4) : formT (L ++ [e]) = true :=
  form_mem.2 fun x hx => by
    rcases List.mem_append.1 hx with hx | hx
    · exact form_mem.1 h x hx
    · rw [List.mem_singleton] at hx
      subst hx
      have e1 : (x.k == 10) = false := by rw [beq_eq_false_iff_ne]; omega
      unfold evB
      simp only [e1, Bool.not_false, Bool.true_or, Bool.and_true, Bool.and_eq_true, decide_eq_true_eq]
      omega
theorem walk_snoc (R : List Int) (L : List Ev) (e : Ev) : walkM R (L ++ [e]) L.length = walkM R L L.length := by
  have := walk_take R (L ++ [e]) L.length L.length (Nat.le_refl _)
  rw [List.take_left] at this
  exact this.symm
theorem getD_end (L : List Ev) (e : Ev) : (L ++ [e]).getD L.length zE = e := by
  rw [List.getD_eq_getElem?_getD, List.getElem?_append_right (Nat.le_refl _)]
  simp
theorem getD_low (L : List Ev) (e : Ev) (j : Nat) (h : j < L.length) : (L ++ [e]).getD j zE = L.getD j zE := by
  rw [List.getD_eq_getElem?_getD, List.getD_eq_getElem?_getD, List.getElem?_append_left h]
/-- the step from a trace to one event more -/
theorem kn_snoc {R : List Int} {L : List Ev} {e : Ev} {m : Sn} (hK : Kn R L) (hm : m = mineM R (walkM R L L.length) e) (ha : accB e = true → ∀ j, j < L.length → ∀ q, q < 8 → (pastsM R L).getD j sn0 q ≤ m q) (hF : formT L = true) : Kn R (L ++ [e]) := by
  have hp : pastsM R (L ++ [e]) = pastsM R L ++ [m] := by
    unfold pastsM
    rw [List.length_append, List.length_singleton]
    show (stepM R (L ++ [e]) (walkM R (L ++ [e]) L.length) ((L ++ [e]).getD L.length zE) L.length).past = _
    rw [step_past, walk_snoc, getD_end, hm]
  have hl := pastsM_len R L
  intro n hn hacc j hj
  rw [List.length_append, List.length_singleton] at hn
  have gj : gOf (L ++ [e]) j = gOf L j := by unfold gOf; rw [getD_low L e j (by omega)]
  rw [hp, getD_snoc, getD_snoc, hl, if_neg (show ¬ j = L.length by omega), gj]
  by_cases en : n = L.length
  · subst en
    rw [if_pos rfl]
    rw [getD_end] at hacc
    exact ha hacc j hj _ (gOf_lt hF j)
  · rw [if_neg en]
    rw [getD_low L e n (by omega)] at hacc
    exact hK n (by omega) hacc j hj
theorem locks_kn {R : List Int} {mu : Int} : ∀ {L : List Ev} {h : Int}, Lk mu L h → L.length ≤ 100000 → formT L = true ∧ Kn R L ∧ h < 8 ∧ ∀ j, j < L.length → ∀ q, q < 8 → (pastsM R L).getD j sn0 q ≤ heldM (walkM R L L.length) mu h q := by
  intro L h hL
  have step : ∀ (L : List Ev) (e : Ev), (walkM R (L ++ [e]) (L ++ [e]).length) = stepM R (L ++ [e]) (walkM R L L.length) e L.length := fun L e => by
    rw [List.length_append, List.length_singleton]
    show stepM R (L ++ [e]) (walkM R (L ++ [e]) L.length) ((L ++ [e]).getD L.length zE) L.length = _
    rw [walk_snoc, getD_end]
  have past : ∀ (L : List Ev) (e : Ev), pastsM R (L ++ [e]) = pastsM R L ++ [mineM R (walkM R L L.length) e] := fun L e => by
    unfold pastsM
    rw [step, step_past]
  induction hL with
  | none => exact fun _ => ⟨rfl, fun n hn => absurd hn (Nat.not_lt_zero _), by omega, fun j hj => absurd hj (Nat.not_lt_zero _)⟩
  | @acc L h e hL g0 g8 hk he ih =>
    intro hn
    rw [List.length_append, List.length_singleton] at hn
    obtain ⟨i1, i2, i3, i4⟩ := ih (by omega)
    have I := walk_iv (R := R) i1 (by omega) L.length (Nat.le_refl _)
    have ok := (walk_ok R L L.length).past
    have lm : ∀ s, learnM R (walkM R L L.length) s e = s := fun s => by
      unfold learnM
      rw [if_neg (by omega), if_neg (by omega), if_neg (by omega), if_neg (by omega)]
    have ge : ∀ j, j < L.length → ∀ q, q < 8 → (pastsM R L).getD j sn0 q ≤ mineM R (walkM R L L.length) e q := fun j hj q hq => by
      have a := i4 j hj q hq
      have b := mine_ge (R := R) I ok (by omega) e (by omega) q
      rw [lm] at b
      unfold heldM at a
      rw [if_neg (by omega), he] at a
      omega
    refine ⟨form_snoc i1 g0 g8 (by omega) (by omega), kn_snoc i2 rfl (fun _ => ge) i1, i3, fun j hj q hq => ?_⟩
    rw [List.length_append, List.length_singleton] at hj
    have hs : heldM (walkM R (L ++ [e]) (L ++ [e]).length) mu h = mineM R (walkM R L L.length) e := by
      rw [step]
      unfold heldM stepM tellM
      rw [if_neg (by omega), if_neg (by omega), if_neg (by omega), if_neg (by omega), if_neg (by omega), if_neg (by omega), he]
      show upd _ _ _ _ = _
      unfold upd
      exact if_pos rfl
    rw [hs, past, getD_snoc, pastsM_len]
    split
    · exact Int.le_refl _
    · exact ge j (by omega) q hq
  | @lock L h e hL hh g0 g8 hk ho ih =>
    intro hn
    rw [List.length_append, List.length_singleton] at hn
    obtain ⟨i1, i2, i3, i4⟩ := ih (by omega)
    have I := walk_iv (R := R) i1 (by omega) L.length (Nat.le_refl _)
    have ok := (walk_ok R L L.length).past
    have lm : ∀ s, learnM R (walkM R L L.length) s e = jn s ((walkM R L L.length).mu mu) := fun s => by
      unfold learnM
      rw [if_pos hk, ho]
    have ge : ∀ j, j < L.length → ∀ q, q < 8 → (pastsM R L).getD j sn0 q ≤ mineM R (walkM R L L.length) e q := fun j hj q hq => by
      have a := i4 j hj q hq
      have b := mine_ge (R := R) I ok (by omega) e (by omega) q
      rw [lm] at b
      unfold heldM at a
      rw [if_pos hh] at a
      unfold jn at b
      omega
    refine ⟨form_snoc i1 g0 g8 (by omega) (by omega), kn_snoc i2 rfl (fun _ => ge) i1, g8, fun j hj q hq => ?_⟩
    rw [List.length_append, List.length_singleton] at hj
    have hs : heldM (walkM R (L ++ [e]) (L ++ [e]).length) mu e.g = mineM R (walkM R L L.length) e := by
      rw [step]
      unfold heldM stepM tellM
      rw [if_neg (by omega), if_neg (by omega), if_neg (by omega), if_neg (by omega), if_neg (by omega), if_neg (by omega)]
      show upd _ _ _ _ = _
      unfold upd
      exact if_pos rfl
    rw [hs, past, getD_snoc, pastsM_len]
    split
    · exact Int.le_refl _
    · exact ge j (by omega) q hq
  | @unlock L h e hL g0 g8 hk ho he ih =>
    intro hn
    rw [List.length_append, List.length_singleton] at hn
    obtain ⟨i1, i2, i3, i4⟩ := ih (by omega)
    have I := walk_iv (R := R) i1 (by omega) L.length (Nat.le_refl _)
    have ok := (walk_ok R L L.length).past
    have lm : ∀ s, learnM R (walkM R L L.length) s e = s := fun s => by
      unfold learnM
      rw [if_neg (by omega), if_neg (by omega), if_neg (by omega), if_neg (by omega)]
    have ge : ∀ j, j < L.length → ∀ q, q < 8 → (pastsM R L).getD j sn0 q ≤ mineM R (walkM R L L.length) e q := fun j hj q hq => by
      have a := i4 j hj q hq
      have b := mine_ge (R := R) I ok (by omega) e (by omega) q
      rw [lm] at b
      unfold heldM at a
      rw [if_neg (by omega), he] at a
      omega
    refine ⟨form_snoc i1 g0 g8 (by omega) (by omega), kn_snoc i2 rfl (fun _ => ge) i1, by omega, fun j hj q hq => ?_⟩
    rw [List.length_append, List.length_singleton] at hj
    have hs : ∀ q, mineM R (walkM R L L.length) e q ≤ heldM (walkM R (L ++ [e]) (L ++ [e]).length) mu (-1) q := fun q => by
      rw [step]
      unfold heldM stepM tellM
      rw [if_pos (by omega), if_neg (by omega), if_pos hk, ho]
      show _ ≤ (up (walkM R L L.length).mu mu (jn ((walkM R L L.length).mu mu) (mineM R (walkM R L L.length) e))) mu q
      rw [up_same]
      unfold jn
      omega
    rw [past, getD_snoc, pastsM_len]
    split
    · exact hs q
    · exact Int.le_trans (ge j (by omega) q hq) (hs q)
theorem locks_none {R : List Int} {mu : Int} {L : List Ev} {h : Int} (hL : Lk mu L h) (hn : L.length ≤ 100000) : racesM R L = [] := races_known (locks_kn (R := R) hL hn).2.1
/-- one goroutine in the place of all -/
def oneE (e : Ev) : Ev := if e.k = 10 ∨ e.k < 1 ∨ 12 < e.k then { e with g := 0, k := 11 } else { e with g := 0 }
theorem ones_none (R : List Int) (T : List Ev) (hn : T.length ≤ 100000) : formT (T.map oneE) = true ∧ racesM R (T.map oneE) = [] := by
  have hg : ∀ e ∈ T.map oneE, e.g = 0 := fun e he => by
    obtain ⟨x, _, rfl⟩ := List.mem_map.1 he
    unfold oneE
    split <;> rfl
  have hF : formT (T.map oneE) = true := form_mem.2 fun e he => by
    obtain ⟨x, _, rfl⟩ := List.mem_map.1 he
    unfold oneE
    split
    · rfl
    · rename_i h
      have e1 : (x.k == 10) = false := by rw [beq_eq_false_iff_ne]; omega
      unfold evB
      simp only [e1, Bool.not_false, Bool.true_or, Bool.and_true, Bool.and_eq_true, decide_eq_true_eq]
      omega
  exact ⟨hF, races_known (kn_one hF (by rw [List.length_map]; exact hn) 0 hg)⟩
end Go.Proofs.YticgmebbnnmikaaDoor.Ck
