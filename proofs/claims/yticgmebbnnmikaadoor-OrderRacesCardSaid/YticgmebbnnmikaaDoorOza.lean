/- Package order's races: where a trace writes nothing, or each goroutine keeps to places of its own, there are none. No Go text is walked here. -/
import Derived.Test.YticgmebbnnmikaaDoorOy
import Derived.Test.YticgmebbnnmikaaDoorOw
namespace Go.Proofs.YticgmebbnnmikaaDoor.Ck
open Go.RowKit

theorem lastM_none {T : List Ev} {ps : List Sn} {s : Sp} {n : Nat} (h : ∀ i, i < 8 → unkM T ps (s.wr i) n = false) : ∀ k, k ≤ 8 → lastM T ps s n k = -1
  | 0, _ => rfl
  | k + 1, hk => by
    unfold lastM
    rw [h k (by omega), if_neg (by decide)]
    exact lastM_none h k (by omega)
theorem readF_none {T : List Ev} {ps : List Sn} {s : Sp} {n : Nat} (h : ∀ i, i < 8 → unkM T ps (s.rd i) n = false) : ∀ r, r ≤ 8 → readF T ps s n r = -1
  | 0, _ => rfl
  | r + 1, hr => by
    unfold readF
    rw [h _ (by omega), if_neg (by decide)]
    exact readF_none h r (by omega)
theorem unk_none {T : List Ev} {ps : List Sn} {x : Int} {n : Nat} (h : x = -1) : unkM T ps x n = false := by
  subst h
  rfl
/-- no place has been written -/
def NoW (F : Int → Option Sp) : Prop := ∀ o s, F o = some s → s.ra = false ∧ ∀ i, i < 8 → s.wr i = -1
theorem NoW.get {F : Int → Option Sp} (h : NoW F) (o : Int) : ((F o).getD sp1).ra = false ∧ ∀ i, i < 8 → ((F o).getD sp1).wr i = -1 := by
  cases e : F o with
  | none => exact ⟨rfl, fun _ _ => rfl⟩
  | some s => exact h o s e
theorem race_reads {T : List Ev} {ps : List Sn} (hT : ∀ k, k < T.length → (T.getD k zE).k ≠ 2) : ∀ k, k ≤ T.length → (raceF T ps k).1 = [] ∧ NoW (raceF T ps k).2
  | 0, _ => ⟨rfl, fun _ _ h => by cases h⟩
  | k + 1, hk => by
    obtain ⟨h1, h2⟩ := race_reads (ps := ps) hT k (by omega)
    unfold raceF
    split
    · rename_i ha
      have hk2 := hT k (by omega)
      have hk1 : (T.getD k zE).k = 1 := by
        unfold accB at ha
        simp only [Bool.or_eq_true, beq_iff_eq] at ha
        omega
      have hg := h2.get (T.getD k zE).o
      have hf : firstM T ps (((raceF T ps k).2 (T.getD k zE).o).getD sp1) k = -1 := by
        unfold firstM
        rw [lastM_none (fun i hi => unk_none (hg.2 i hi)) 8 (by omega), if_pos (.inr hk1)]
      have ht : takeM T ps (raceF T ps k).2 k = (-1, up (raceF T ps k).2 (T.getD k zE).o (some (putS (T.getD k zE) k { ((raceF T ps k).2 (T.getD k zE).o).getD sp1 with ra := false }))) := by
        unfold takeM
        rw [hg.1, if_neg (by decide), hf]
        rfl
      rw [ht]
      refine ⟨by simp [h1], fun o s hs => ?_⟩
      simp only [up] at hs
      split at hs
      · injection hs with hs
        subst hs
        unfold putS
        rw [if_neg hk2]
        exact ⟨rfl, hg.2⟩
      · exact h2 o s hs
    · exact ⟨h1, h2⟩
/-- an event knows of its own goroutine all that went before it -/
theorem know_own {R : List Int} {T : List Ev} (hF : formT T = true) (hn : T.length ≤ 100000) {j n : Nat} (hj : j < n) (hk : n < T.length) (hg : gOf T j = gOf T n) : (pastsM R T).getD j sn0 (gOf T j) ≤ (pastsM R T).getD n sn0 (gOf T j) := by
  have I := walk_iv (R := R) hF (by omega) n (by omega)
  have hl := (walk_ok R T n).past
  have e1 : (pastsM R T).getD j sn0 = (walkM R T n).past.getD j sn0 := past_getD R T j n T.length hj (by omega)
  have e2 : (pastsM R T).getD n sn0 = (walkM R T (n + 1)).past.getD n sn0 := past_getD R T n (n + 1) T.length (by omega) (by omega)
  have e3 : (walkM R T (n + 1)).past = (walkM R T n).past ++ [mineM R (walkM R T n) (T.getD n zE)] := step_past R T _ _ _
  have g8 := gOf_lt hF n
  have lj := (I.past j hj).le (gOf T n) g8
  have bd := I.bd (gOf T n) g8
  obtain ⟨L1, L2⟩ := I.learn (R := R) hl (T.getD n zE) g8
  have a := L2 (gOf T n)
  have b := L1.le (gOf T n) g8
  have nn := L1.nn (gOf T n)
  rw [e1, e2, e3, getD_snoc, if_pos hl.symm, hg]
  have hm : mineM R (walkM R T n) (T.getD n zE) (gOf T n) = wrap64 (learnM R (walkM R T n) ((walkM R T n).gos (gOf T n)) (T.getD n zE) (gOf T n) + 1) := by
    unfold mineM setS
    exact if_pos rfl
  rw [hm]
  unfold wrap64
  omega
/-- the goroutine of a place's accesses is the place itself -/
def OwF (T : List Ev) (F : Int → Option Sp) (n : Nat) : Prop := ∀ o s, F o = some s → s.ra = false ∧ ∀ i, i < 8 → (s.wr i = -1 ∨ ∃ j : Nat, j < n ∧ s.wr i = j ∧ gOf T j = o.toNat) ∧ (s.rd i = -1 ∨ ∃ j : Nat, j < n ∧ s.rd i = j ∧ gOf T j = o.toNat)
theorem OwF.get {T : List Ev} {F : Int → Option Sp} {n : Nat} (h : OwF T F n) (o : Int) : ((F o).getD sp1).ra = false ∧ ∀ i, i < 8 → (((F o).getD sp1).wr i = -1 ∨ ∃ j : Nat, j < n ∧ ((F o).getD sp1).wr i = j ∧ gOf T j = o.toNat) ∧ (((F o).getD sp1).rd i = -1 ∨ ∃ j : Nat, j < n ∧ ((F o).getD sp1).rd i = j ∧ gOf T j = o.toNat) := by
  cases e : F o with
  | none => exact ⟨rfl, fun _ _ => ⟨.inl rfl, .inl rfl⟩⟩
  | some s => exact h o s e
theorem own_more {T : List Ev} {n : Nat} {x : Int} {o : Nat} (h : x = -1 ∨ ∃ j : Nat, j < n ∧ x = j ∧ gOf T j = o) : x = -1 ∨ ∃ j : Nat, j < n + 1 ∧ x = j ∧ gOf T j = o := by
  rcases h with h | ⟨j, h1, h2, h3⟩
  · exact .inl h
  · exact .inr ⟨j, by omega, h2, h3⟩
theorem race_owns {R : List Int} {T : List Ev} (hF : formT T = true) (hn : T.length ≤ 100000) (hT : ∀ k, k < T.length → accB (T.getD k zE) = true → (T.getD k zE).o = (T.getD k zE).g) : ∀ k, k ≤ T.length → (raceF T (pastsM R T) k).1 = [] ∧ OwF T (raceF T (pastsM R T) k).2 k
  | 0, _ => ⟨rfl, fun _ _ h => by cases h⟩
  | k + 1, hk => by
    obtain ⟨h1, h2⟩ := race_owns (R := R) hF hn hT k (by omega)
    unfold raceF
    split
    · rename_i ha
      have ho := hT k (by omega) ha
      have hgo : gOf T k = (T.getD k zE).o.toNat := by unfold gOf; rw [ho]
      have hg := h2.get (T.getD k zE).o
      have key : ∀ x : Int, (x = -1 ∨ ∃ j : Nat, j < k ∧ x = j ∧ gOf T j = (T.getD k zE).o.toNat) → unkM T (pastsM R T) x k = false := fun x hx => by
        rcases hx with hx | ⟨j, q1, q2, q3⟩
        · exact unk_none hx
        · subst q2
          have q := know_own (R := R) hF hn q1 (by omega) (by rw [q3, hgo])
          unfold unkM
          rw [Int.toNat_natCast, Bool.and_eq_false_iff]
          right
          rw [Bool.not_eq_false', decide_eq_true_eq]
          unfold gOf at q
          omega
      have hf : firstM T (pastsM R T) (((raceF T (pastsM R T) k).2 (T.getD k zE).o).getD sp1) k = -1 := by
        unfold firstM
        rw [lastM_none (fun i hi => key _ (hg.2 i hi).1) 8 (by omega), readF_none (fun i hi => key _ (hg.2 i hi).2) 8 (by omega)]
        split <;> rfl
      have ht : takeM T (pastsM R T) (raceF T (pastsM R T) k).2 k = (-1, up (raceF T (pastsM R T) k).2 (T.getD k zE).o (some (putS (T.getD k zE) k { ((raceF T (pastsM R T) k).2 (T.getD k zE).o).getD sp1 with ra := false }))) := by
        unfold takeM
        rw [hg.1, if_neg (by decide), hf]
        rfl
      rw [ht]
      refine ⟨by simp [h1], fun o s hs => ?_⟩
      simp only [up] at hs
      split at hs
      · rename_i eo
        subst eo
        injection hs with hs
        subst hs
        unfold putS
        split
        · refine ⟨rfl, fun i hi => ⟨?_, own_more (hg.2 i hi).2⟩⟩
          simp only [setS]
          split
          · exact .inr ⟨k, by omega, rfl, hgo⟩
          · exact own_more (hg.2 i hi).1
        · refine ⟨rfl, fun i hi => ⟨own_more (hg.2 i hi).1, ?_⟩⟩
          simp only [setS]
          split
          · exact .inr ⟨k, by omega, rfl, hgo⟩
          · exact own_more (hg.2 i hi).2
      · have q := h2 o s hs
        exact ⟨q.1, fun i hi => ⟨own_more (q.2 i hi).1, own_more (q.2 i hi).2⟩⟩
    · exact ⟨h1, fun o s hs => ⟨(h2 o s hs).1, fun i hi => ⟨own_more ((h2 o s hs).2 i hi).1, own_more ((h2 o s hs).2 i hi).2⟩⟩⟩
/-- an event as a goroutine's own place has it -/
def ownE (e : Ev) : Ev := if e.k = 2 ∨ e.k = 1 then { e with o := e.g } else e
/-- the trace without its writes, and with each access at a place of its own goroutine -/
def readsT (T : List Ev) (k : Nat) : List Ev := (T.take k).filter (fun e => e.k != 2)
def ownsT (T : List Ev) (k : Nat) : List Ev := (T.take k).map ownE
theorem take_one (T : List Ev) (k : Nat) (hk : k < T.length) : T.take (k + 1) = T.take k ++ [T.getD k zE] := by
  rw [List.take_succ_eq_append_getElem hk, List.getD_eq_getElem?_getD, List.getElem?_eq_getElem hk]
  rfl
theorem reads_step (T : List Ev) (k : Nat) (hk : k < T.length) : readsT T (k + 1) = if (T.getD k zE).k = 2 then readsT T k else readsT T k ++ [T.getD k zE] := by
  unfold readsT
  rw [take_one T k hk, List.filter_append]
  split
  · rename_i h
    have hb : ((T.getD k zE).k != 2) = false := by simpa using h
    rw [List.filter_cons, hb]
    simp
  · rename_i h
    have hb : ((T.getD k zE).k != 2) = true := by simpa using h
    rw [List.filter_cons, hb]
    simp
theorem owns_step (T : List Ev) (k : Nat) (hk : k < T.length) : ownsT T (k + 1) = ownsT T k ++ [ownE (T.getD k zE)] := by
  unfold ownsT
  rw [take_one T k hk, List.map_append]
  rfl
theorem mem_getD {l : List Ev} {k : Nat} (hk : k < l.length) : l.getD k zE ∈ l := by
  rw [List.getD_eq_getElem?_getD, List.getElem?_eq_getElem hk]
  exact List.getElem_mem _
theorem form_mem {T : List Ev} : formT T = true ↔ ∀ e ∈ T, evB e = true := by unfold formT; exact List.all_eq_true
theorem getD_mem {T : List Ev} {e : Ev} (h : e ∈ T) : ∃ k, k < T.length ∧ T.getD k zE = e := by
  obtain ⟨i, hi, rfl⟩ := List.mem_iff_getElem.1 h
  exact ⟨i, hi, by rw [List.getD_eq_getElem?_getD, List.getElem?_eq_getElem hi]; rfl⟩
theorem readsT_len (T : List Ev) (k : Nat) : (readsT T k).length ≤ k := by
  unfold readsT
  refine Nat.le_trans (List.length_filter_le _ _) ?_
  rw [List.length_take]
  omega
theorem ownsT_len (T : List Ev) (k : Nat) : (ownsT T k).length ≤ k := by
  unfold ownsT
  rw [List.length_map, List.length_take]
  omega
theorem readsT_form {T : List Ev} (hF : formT T = true) (k : Nat) : formT (readsT T k) = true :=
  form_mem.2 fun e he => form_mem.1 hF e (List.mem_of_mem_take (List.mem_filter.1 he).1)
theorem evB_own {e : Ev} (h : evB e = true) : evB (ownE e) = true := by
  unfold ownE
  split
  · rename_i hk
    have hb := evB_out h
    have e1 : (e.k == 10) = false := by rw [beq_eq_false_iff_ne]; omega
    unfold evB at h ⊢
    simp only [e1, Bool.not_false, Bool.true_or, Bool.and_true] at h ⊢
    exact h
  · exact h
theorem ownsT_form {T : List Ev} (hF : formT T = true) (k : Nat) : formT (ownsT T k) = true :=
  form_mem.2 fun e he => by
    obtain ⟨x, hx, rfl⟩ := List.mem_map.1 he
    exact evB_own (form_mem.1 hF x (List.mem_of_mem_take hx))
theorem readsT_none (R : List Int) (T : List Ev) (k : Nat) : racesM R (readsT T k) = [] :=
  (race_reads (fun i hi => by
    have := (List.mem_filter.1 (mem_getD hi)).2
    intro e
    change ((readsT T k).getD i zE).k != 2 at this
    rw [e] at this
    cases this) _ (Nat.le_refl _)).1
theorem ownsT_none (R : List Int) {T : List Ev} (hF : formT T = true) (k : Nat) (hk : k ≤ 100000) : racesM R (ownsT T k) = [] :=
  (race_owns (ownsT_form hF k) (Nat.le_trans (ownsT_len T k) hk) (fun i hi ha => by
    obtain ⟨x, _, hx⟩ := List.mem_map.1 (mem_getD hi)
    change ownE x = (ownsT T k).getD i zE at hx
    rw [← hx] at ha ⊢
    unfold ownE at ha ⊢
    split
    · rfl
    · rename_i hn
      rw [if_neg hn] at ha
      unfold accB at ha
      simp only [Bool.or_eq_true, beq_iff_eq] at ha
      omega) _ (Nat.le_refl _)).1
theorem readsT_obj {T : List Ev} (hW : ∀ k, k < T.length → wfI (T.getD k zE).o) (n : Nat) : ∀ k, k < (readsT T n).length → wfI ((readsT T n).getD k zE).o := fun k hk => by
  obtain ⟨i, hi, e⟩ := getD_mem (List.mem_of_mem_take (List.mem_filter.1 (mem_getD hk)).1)
  unfold readsT
  rw [← e]
  exact hW i hi
theorem ownsT_obj {T : List Ev} (hF : formT T = true) (hW : ∀ k, k < T.length → wfI (T.getD k zE).o) (n : Nat) : ∀ k, k < (ownsT T n).length → wfI ((ownsT T n).getD k zE).o := fun k hk => by
  obtain ⟨x, hx, e⟩ := List.mem_map.1 (mem_getD hk)
  unfold ownsT
  rw [← e]
  obtain ⟨i, hi, e⟩ := getD_mem (List.mem_of_mem_take hx)
  unfold ownE
  split
  · have := evB_out (formT_at hF i hi)
    rw [e] at this
    show wfI x.g
    unfold wfI
    omega
  · rw [← e]; exact hW i hi
end Go.Proofs.YticgmebbnnmikaaDoor.Ck
