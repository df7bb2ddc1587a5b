/- Texts of this proof, packed. -/
import Derived.Test.YticgmebbnnmikaaDoorOs
import Derived.Test.YticgmebbnnmikaaDoorOy
import Derived.Test.YticgmebbnnmikaaDoorOw
import Derived.Carry
import Derived.Test.YticgmebbnnmikaaDoorOzu
import Derived.Test.YticgmebbnnmikaaDoorNum
import Derived.Test.YticgmebbnnmikaaDoorLaid
import Derived.WalkKit
import Derived.ProofKit
import Derived.OpenShut
import Derived.ChangeOld
import Derived.Below
import Derived.Deep.Slices
import Derived.Lib.SmallJoins
import Derived.ChangeArms
import Derived.Test.YticgmebbnnmikaaDoorOc
/- The document's package of layer 18: is a trace in form (Form). -/
namespace Go.Proofs.YticgmebbnnmikaaDoor.Ck
open Go.RowKit

set_option maxRecDepth 20000 in
set_option maxHeartbeats 4000000 in
theorem rform18_any {w : World} {vT : Value} {T : List Ev} (hT : SlE w vT T) (hn : T.length ≤ 100000) : Calls Tryd.prog 10 #[vT] w (Vb w (.bool (formT T))) := by
  obtain ⟨aT, cT, rfl, hcT, _⟩ := hT.form
  have HT := hide hT
  have HN := hide hn
  clear hT hn
  go_enter Tryd.func10, Tryd.ntmps10
  go_wp2_with fail
  go_loopw [7] (fun x7 wr => ∃ k : Nat, k ≤ T.length ∧ x7 = .int .i64 (k : Nat) ∧ Hid (Below w.heap.size w wr ∧ ∀ j, j < k → evB (T.getD j zE) = true)) (fun x7 _ => T.length - (intOf x7).toNat)
  case atStart => exact ⟨0, Nat.zero_le _, rfl, hide ⟨Below.refl _ _, fun j hj => absurd hj (Nat.not_lt_zero _)⟩⟩
  case round =>
    obtain ⟨k, hk, rfl, hI⟩ := hrel
    by_cases hlt : k < T.length
    · have hlt' : (k : Int) < (T.length : Int) := by omega
      have BW := hide hI.out.1
      have PV := hide hI.out.2
      obtain ⟨bT, off, rfl, hbT, t0, t1, t2, t3⟩ := (HT.out.bel BW.out).at k hlt
      obtain ⟨e, he⟩ : ∃ q, q = T.getD k zE := ⟨_, rfl⟩
      have FN : Hid (evB e = false → formT T = false) := hide (fun h => formT_not hlt (by rw [← he]; exact h))
      have FY : Hid (evB e = true → ∀ j, j < k + 1 → evB (T.getD j zE) = true) := hide (fun h j hj => by
        by_cases q : j = k
        · subst q
          rw [← he]
          exact h
        · exact PV.out j (by omega))
      rw [← he] at t0 t1 t2 t3
      have hk8 : k ≤ 100000 := by have := HN.out; omega
      obtain ⟨eg, ek, eo, ea⟩ := e
      simp only at t0 t1 t2 t3
      have B3 := hide (bel_al BW.out (.cells #[.int .i64 eg, .int .i64 ek, .int .i64 eo, .int .i64 ea] 47))
      have NO : Hid ((eg < 0 ∨ 7 < eg ∨ ek < 1 ∨ 12 < ek ∨ (ek = 10 ∧ (eo < 0 ∨ 7 < eo))) → formT T = false) := hide (fun h => FN.out (by
        cases hb : evB ⟨eg, ek, eo, ea⟩ with
        | false => rfl
        | true =>
          have := evB_out hb
          simp only at this
          omega))
      have YES : Hid (¬ (eg < 0 ∨ 7 < eg ∨ ek < 1 ∨ 12 < ek ∨ (ek = 10 ∧ (eo < 0 ∨ 7 < eo))) → ∀ j, j < k + 1 → evB (T.getD j zE) = true) := hide (fun h => FY.out (by
        unfold evB
        simp only [Bool.and_eq_true, Bool.or_eq_true, Bool.not_eq_true', decide_eq_true_eq, beq_eq_false_iff_ne]
        omega))
      clear hI he HT PV hk FN FY
      by_cases c1 : eg < 0
      · have Y := hide (NO.out (by omega))
        go_wp2_with fail
        go_ret
        rw [Y.out]
        exact ⟨rfl, B3.out⟩
      by_cases c2 : 7 < eg
      · have Y := hide (NO.out (by omega))
        go_wp2_with fail
        go_ret
        rw [Y.out]
        exact ⟨rfl, B3.out⟩
      by_cases c3 : ek < 1
      · have Y := hide (NO.out (by omega))
        go_wp2_with fail
        go_ret
        rw [Y.out]
        exact ⟨rfl, B3.out⟩
      by_cases c4 : 12 < ek
      · have Y := hide (NO.out (by omega))
        go_wp2_with fail
        go_ret
        rw [Y.out]
        exact ⟨rfl, B3.out⟩
      by_cases c5 : ek = 10
      · subst c5
        by_cases c6 : eo < 0
        · have Y := hide (NO.out (by omega))
          go_wp2_with fail
          go_ret
          rw [Y.out]
          exact ⟨rfl, B3.out⟩
        by_cases c7 : 7 < eo
        · have Y := hide (NO.out (by omega))
          go_wp2_with fail
          go_ret
          rw [Y.out]
          exact ⟨rfl, B3.out⟩
        have Y := hide (YES.out (by omega))
        clear NO YES
        go_wp2_with fail
        go_roundw
        case rel => exact ⟨k + 1, by omega, by first | rfl | go_num, hide ⟨B3.out, Y.out⟩⟩
        case measure => simp [intOf]; omega
      · have c5' : (ek == 10) = false := by simpa using c5
        have Y := hide (YES.out (by omega))
        clear NO YES
        go_wp2_with fail
        go_roundw
        case rel => exact ⟨k + 1, by omega, by first | rfl | go_num, hide ⟨B3.out, Y.out⟩⟩
        case measure => simp [intOf]; omega
    · obtain rfl : k = T.length := by omega
      have BW := hide hI.out.1
      have Y := hide (formT_all hI.out.2)
      clear hI HT
      go_wp2_with fail
      go_ret
      rw [Y.out]
      exact ⟨rfl, BW.out⟩
end Go.Proofs.YticgmebbnnmikaaDoor.Ck

/- Package order's races: where a trace writes nothing, or each goroutine keeps to places of its own, there are none. No Go text is walked here. -/
namespace Go.Proofs.YticgmebbnnmikaaDoor.Ck
open Go.RowKit

theorem lastM_none {T : List Ev} {ps : List Sn} {s : Sp} {n : Nat} (h : ∀ i, i < 8 → unkM T ps (s.wr i) n = false) : ∀ k, k ≤ 8 → lastM T ps s n k = -1
  | 0, _ => rfl
  | k + 1, hk => by
    unfold lastM
    rw [h k (by omega), if_neg (by decide)]
    exact lastM_none h k (by omega)
theorem readF_none {T : List Ev} {ps : List Sn} {s : Sp} {n : Nat} (h : ∀ i, i < 8 → unkM T ps (s.rd i) n = false) : ∀ r, r ≤ 8 → readF T ps s n r = -1
  | 0, _ => rfl
  | r + 1, hr => by
    unfold readF
    rw [h _ (by omega), if_neg (by decide)]
    exact readF_none h r (by omega)
theorem unk_none {T : List Ev} {ps : List Sn} {x : Int} {n : Nat} (h : x = -1) : unkM T ps x n = false := by
  subst h
  rfl
/-- no place has been written -/
def NoW (F : Int → Option Sp) : Prop := ∀ o s, F o = some s → s.ra = false ∧ ∀ i, i < 8 → s.wr i = -1
theorem NoW.get {F : Int → Option Sp} (h : NoW F) (o : Int) : ((F o).getD sp1).ra = false ∧ ∀ i, i < 8 → ((F o).getD sp1).wr i = -1 := by
  cases e : F o with
  | none => exact ⟨rfl, fun _ _ => rfl⟩
  | some s => exact h o s e
theorem race_reads {T : List Ev} {ps : List Sn} (hT : ∀ k, k < T.length → (T.getD k zE).k ≠ 2) : ∀ k, k ≤ T.length → (raceF T ps k).1 = [] ∧ NoW (raceF T ps k).2
  | 0, _ => ⟨rfl, fun _ _ h => by cases h⟩
  | k + 1, hk => by
    obtain ⟨h1, h2⟩ := race_reads (ps := ps) hT k (by omega)
    unfold raceF
    split
    · rename_i ha
      have hk2 := hT k (by omega)
      have hk1 : (T.getD k zE).k = 1 := by
        unfold accB at ha
        simp only [Bool.or_eq_true, beq_iff_eq] at ha
        omega
      have hg := h2.get (T.getD k zE).o
      have hf : firstM T ps (((raceF T ps k).2 (T.getD k zE).o).getD sp1) k = -1 := by
        unfold firstM
        rw [lastM_none (fun i hi => unk_none (hg.2 i hi)) 8 (by omega), if_pos (.inr hk1)]
      have ht : takeM T ps (raceF T ps k).2 k = (-1, up (raceF T ps k).2 (T.getD k zE).o (some (putS (T.getD k zE) k { ((raceF T ps k).2 (T.getD k zE).o).getD sp1 with ra := false }))) := by
        unfold takeM
        rw [hg.1, if_neg (by decide), hf]
        rfl
      rw [ht]
      refine ⟨by simp [h1], fun o s hs => ?_⟩
      simp only [up] at hs
      split at hs
      · injection hs with hs
        subst hs
        unfold putS
        rw [if_neg hk2]
        exact ⟨rfl, hg.2⟩
      · exact h2 o s hs
    · exact ⟨h1, h2⟩
/-- an event knows of its own goroutine all that went before it -/
theorem know_own {R : List Int} {T : List Ev} (hF : formT T = true) (hn : T.length ≤ 100000) {j n : Nat} (hj : j < n) (hk : n < T.length) (hg : gOf T j = gOf T n) : (pastsM R T).getD j sn0 (gOf T j) ≤ (pastsM R T).getD n sn0 (gOf T j) := by
  have I := walk_iv (R := R) hF (by omega) n (by omega)
  have hl := (walk_ok R T n).past
  have e1 : (pastsM R T).getD j sn0 = (walkM R T n).past.getD j sn0 := past_getD R T j n T.length hj (by omega)
  have e2 : (pastsM R T).getD n sn0 = (walkM R T (n + 1)).past.getD n sn0 := past_getD R T n (n + 1) T.length (by omega) (by omega)
  have e3 : (walkM R T (n + 1)).past = (walkM R T n).past ++ [mineM R (walkM R T n) (T.getD n zE)] := step_past R T _ _ _
  have g8 := gOf_lt hF n
  have lj := (I.past j hj).le (gOf T n) g8
  have bd := I.bd (gOf T n) g8
  obtain ⟨L1, L2⟩ := I.learn (R := R) hl (T.getD n zE) g8
  have a := L2 (gOf T n)
  have b := L1.le (gOf T n) g8
  have nn := L1.nn (gOf T n)
  rw [e1, e2, e3, getD_snoc, if_pos hl.symm, hg]
  have hm : mineM R (walkM R T n) (T.getD n zE) (gOf T n) = wrap64 (learnM R (walkM R T n) ((walkM R T n).gos (gOf T n)) (T.getD n zE) (gOf T n) + 1) := by
    unfold mineM setS
    exact if_pos rfl
  rw [hm]
  unfold wrap64
  omega
/-- the goroutine of a place's accesses is the place itself -/
def OwF (T : List Ev) (F : Int → Option Sp) (n : Nat) : Prop := ∀ o s, F o = some s → s.ra = false ∧ ∀ i, i < 8 → (s.wr i = -1 ∨ ∃ j : Nat, j < n ∧ s.wr i = j ∧ gOf T j = o.toNat) ∧ (s.rd i = -1 ∨ ∃ j : Nat, j < n ∧ s.rd i = j ∧ gOf T j = o.toNat)
theorem OwF.get {T : List Ev} {F : Int → Option Sp} {n : Nat} (h : OwF T F n) (o : Int) : ((F o).getD sp1).ra = false ∧ ∀ i, i < 8 → (((F o).getD sp1).wr i = -1 ∨ ∃ j : Nat, j < n ∧ ((F o).getD sp1).wr i = j ∧ gOf T j = o.toNat) ∧ (((F o).getD sp1).rd i = -1 ∨ ∃ j : Nat, j < n ∧ ((F o).getD sp1).rd i = j ∧ gOf T j = o.toNat) := by
  cases e : F o with
  | none => exact ⟨rfl, fun _ _ => ⟨.inl rfl, .inl rfl⟩⟩
  | some s => exact h o s e
theorem own_more {T : List Ev} {n : Nat} {x : Int} {o : Nat} (h : x = -1 ∨ ∃ j : Nat, j < n ∧ x = j ∧ gOf T j = o) : x = -1 ∨ ∃ j : Nat, j < n + 1 ∧ x = j ∧ gOf T j = o := by
  rcases h with h | ⟨j, h1, h2, h3⟩
  · exact .inl h
  · exact .inr ⟨j, by omega, h2, h3⟩
theorem race_owns {R : List Int} {T : List Ev} (hF : formT T = true) (hn : T.length ≤ 100000) (hT : ∀ k, k < T.length → accB (T.getD k zE) = true → (T.getD k zE).o = (T.getD k zE).g) : ∀ k, k ≤ T.length → (raceF T (pastsM R T) k).1 = [] ∧ OwF T (raceF T (pastsM R T) k).2 k
  | 0, _ => ⟨rfl, fun _ _ h => by cases h⟩
  | k + 1, hk => by
    obtain ⟨h1, h2⟩ := race_owns (R := R) hF hn hT k (by omega)
    unfold raceF
    split
    · rename_i ha
      have ho := hT k (by omega) ha
      have hgo : gOf T k = (T.getD k zE).o.toNat := by unfold gOf; rw [ho]
      have hg := h2.get (T.getD k zE).o
      have key : ∀ x : Int, (x = -1 ∨ ∃ j : Nat, j < k ∧ x = j ∧ gOf T j = (T.getD k zE).o.toNat) → unkM T (pastsM R T) x k = false := fun x hx => by
        rcases hx with hx | ⟨j, q1, q2, q3⟩
        · exact unk_none hx
        · subst q2
          have q := know_own (R := R) hF hn q1 (by omega) (by rw [q3, hgo])
          unfold unkM
          rw [Int.toNat_natCast, Bool.and_eq_false_iff]
          right
          rw [Bool.not_eq_false', decide_eq_true_eq]
          unfold gOf at q
          omega
      have hf : firstM T (pastsM R T) (((raceF T (pastsM R T) k).2 (T.getD k zE).o).getD sp1) k = -1 := by
        unfold firstM
        rw [lastM_none (fun i hi => key _ (hg.2 i hi).1) 8 (by omega), readF_none (fun i hi => key _ (hg.2 i hi).2) 8 (by omega)]
        split <;> rfl
      have ht : takeM T (pastsM R T) (raceF T (pastsM R T) k).2 k = (-1, up (raceF T (pastsM R T) k).2 (T.getD k zE).o (some (putS (T.getD k zE) k { ((raceF T (pastsM R T) k).2 (T.getD k zE).o).getD sp1 with ra := false }))) := by
        unfold takeM
        rw [hg.1, if_neg (by decide), hf]
        rfl
      rw [ht]
      refine ⟨by simp [h1], fun o s hs => ?_⟩
      simp only [up] at hs
      split at hs
      · rename_i eo
        subst eo
        injection hs with hs
        subst hs
        unfold putS
        split
        · refine ⟨rfl, fun i hi => ⟨?_, own_more (hg.2 i hi).2⟩⟩
          simp only [setS]
          split
          · exact .inr ⟨k, by omega, rfl, hgo⟩
          · exact own_more (hg.2 i hi).1
        · refine ⟨rfl, fun i hi => ⟨own_more (hg.2 i hi).1, ?_⟩⟩
          simp only [setS]
          split
          · exact .inr ⟨k, by omega, rfl, hgo⟩
          · exact own_more (hg.2 i hi).2
      · have q := h2 o s hs
        exact ⟨q.1, fun i hi => ⟨own_more (q.2 i hi).1, own_more (q.2 i hi).2⟩⟩
    · exact ⟨h1, fun o s hs => ⟨(h2 o s hs).1, fun i hi => ⟨own_more ((h2 o s hs).2 i hi).1, own_more ((h2 o s hs).2 i hi).2⟩⟩⟩
/-- an event as a goroutine's own place has it -/
def ownE (e : Ev) : Ev := if e.k = 2 ∨ e.k = 1 then { e with o := e.g } else e
/-- the trace without its writes, and with each access at a place of its own goroutine -/
def readsT (T : List Ev) (k : Nat) : List Ev := (T.take k).filter (fun e => e.k != 2)
def ownsT (T : List Ev) (k : Nat) : List Ev := (T.take k).map ownE
theorem take_one (T : List Ev) (k : Nat) (hk : k < T.length) : T.take (k + 1) = T.take k ++ [T.getD k zE] := by
  rw [List.take_succ_eq_append_getElem hk, List.getD_eq_getElem?_getD, List.getElem?_eq_getElem hk]
  rfl
theorem reads_step (T : List Ev) (k : Nat) (hk : k < T.length) : readsT T (k + 1) = if (T.getD k zE).k = 2 then readsT T k else readsT T k ++ [T.getD k zE] := by
  unfold readsT
  rw [take_one T k hk, List.filter_append]
  split
  · rename_i h
    have hb : ((T.getD k zE).k != 2) = false := by simpa using h
    rw [List.filter_cons, hb]
    simp
  · rename_i h
    have hb : ((T.getD k zE).k != 2) = true := by simpa using h
    rw [List.filter_cons, hb]
    simp
theorem owns_step (T : List Ev) (k : Nat) (hk : k < T.length) : ownsT T (k + 1) = ownsT T k ++ [ownE (T.getD k zE)] := by
  unfold ownsT
  rw [take_one T k hk, List.map_append]
  rfl
theorem mem_getD {l : List Ev} {k : Nat} (hk : k < l.length) : l.getD k zE ∈ l := by
  rw [List.getD_eq_getElem?_getD, List.getElem?_eq_getElem hk]
  exact List.getElem_mem _
theorem form_mem {T : List Ev} : formT T = true ↔ ∀ e ∈ T, evB e = true := by unfold formT; exact List.all_eq_true
theorem getD_mem {T : List Ev} {e : Ev} (h : e ∈ T) : ∃ k, k < T.length ∧ T.getD k zE = e := by
  obtain ⟨i, hi, rfl⟩ := List.mem_iff_getElem.1 h
  exact ⟨i, hi, by rw [List.getD_eq_getElem?_getD, List.getElem?_eq_getElem hi]; rfl⟩
theorem readsT_len (T : List Ev) (k : Nat) : (readsT T k).length ≤ k := by
  unfold readsT
  refine Nat.le_trans (List.length_filter_le _ _) ?_
  rw [List.length_take]
  omega
theorem ownsT_len (T : List Ev) (k : Nat) : (ownsT T k).length ≤ k := by
  unfold ownsT
  rw [List.length_map, List.length_take]
  omega
theorem readsT_form {T : List Ev} (hF : formT T = true) (k : Nat) : formT (readsT T k) = true :=
  form_mem.2 fun e he => form_mem.1 hF e (List.mem_of_mem_take (List.mem_filter.1 he).1)
theorem evB_own {e : Ev} (h : evB e = true) : evB (ownE e) = true := by
  unfold ownE
  split
  · rename_i hk
    have hb := evB_out h
    have e1 : (e.k == 10) = false := by rw [beq_eq_false_iff_ne]; omega
    unfold evB at h ⊢
    simp only [e1, Bool.not_false, Bool.true_or, Bool.and_true] at h ⊢
    exact h
  · exact h
theorem ownsT_form {T : List Ev} (hF : formT T = true) (k : Nat) : formT (ownsT T k) = true :=
  form_mem.2 fun e he => by
    obtain ⟨x, hx, rfl⟩ := List.mem_map.1 he
    exact evB_own (form_mem.1 hF x (List.mem_of_mem_take hx))
theorem readsT_none (R : List Int) (T : List Ev) (k : Nat) : racesM R (readsT T k) = [] :=
  (race_reads (fun i hi => by
    have := (List.mem_filter.1 (mem_getD hi)).2
    intro e
    change ((readsT T k).getD i zE).k != 2 at this
    rw [e] at this
    cases this) _ (Nat.le_refl _)).1
theorem ownsT_none (R : List Int) {T : List Ev} (hF : formT T = true) (k : Nat) (hk : k ≤ 100000) : racesM R (ownsT T k) = [] :=
  (race_owns (ownsT_form hF k) (Nat.le_trans (ownsT_len T k) hk) (fun i hi ha => by
    obtain ⟨x, _, hx⟩ := List.mem_map.1 (mem_getD hi)
    change ownE x = (ownsT T k).getD i zE at hx
    rw [← hx] at ha ⊢
    unfold ownE at ha ⊢
    split
    · rfl
    · rename_i hn
      rw [if_neg hn] at ha
      unfold accB at ha
      simp only [Bool.or_eq_true, beq_iff_eq] at ha
      omega) _ (Nat.le_refl _)).1
theorem readsT_obj {T : List Ev} (hW : ∀ k, k < T.length → wfI (T.getD k zE).o) (n : Nat) : ∀ k, k < (readsT T n).length → wfI ((readsT T n).getD k zE).o := fun k hk => by
  obtain ⟨i, hi, e⟩ := getD_mem (List.mem_of_mem_take (List.mem_filter.1 (mem_getD hk)).1)
  unfold readsT
  rw [← e]
  exact hW i hi
theorem ownsT_obj {T : List Ev} (hF : formT T = true) (hW : ∀ k, k < T.length → wfI (T.getD k zE).o) (n : Nat) : ∀ k, k < (ownsT T n).length → wfI ((ownsT T n).getD k zE).o := fun k hk => by
  obtain ⟨x, hx, e⟩ := List.mem_map.1 (mem_getD hk)
  unfold ownsT
  rw [← e]
  obtain ⟨i, hi, e⟩ := getD_mem (List.mem_of_mem_take hx)
  unfold ownE
  split
  · have := evB_out (formT_at hF i hi)
    rw [e] at this
    show wfI x.g
    unfold wfI
    omega
  · rw [← e]; exact hW i hi
end Go.Proofs.YticgmebbnnmikaaDoor.Ck

/- Package order's races: where each access knows all that went before it, there are none; so it is with one goroutine, and with accesses under one mutex. No Go text is walked here. -/
namespace Go.Proofs.YticgmebbnnmikaaDoor.Ck
open Go.RowKit

/-- each access knows all events ahead of it -/
def Kn (R : List Int) (T : List Ev) : Prop := ∀ n, n < T.length → accB (T.getD n zE) = true → ∀ j, j < n → (pastsM R T).getD j sn0 (gOf T j) ≤ (pastsM R T).getD n sn0 (gOf T j)
def NoR (F : Int → Option Sp) : Prop := ∀ o s, F o = some s → s.ra = false
theorem race_known {R : List Int} {T : List Ev} (hK : Kn R T) : ∀ k, k ≤ T.length → (raceF T (pastsM R T) k).1 = [] ∧ NoR (raceF T (pastsM R T) k).2
  | 0, _ => ⟨rfl, fun _ _ h => by cases h⟩
  | k + 1, hk => by
    obtain ⟨h1, h2⟩ := race_known hK k (by omega)
    have hOk := race_ok T (pastsM R T) k
    unfold raceF
    split
    · rename_i ha
      obtain ⟨s, hs⟩ : ∃ s, s = ((raceF T (pastsM R T) k).2 (T.getD k zE).o).getD sp1 := ⟨_, rfl⟩
      have hg : s.ra = false ∧ SpOk s k := by
        rw [hs]
        cases e : (raceF T (pastsM R T) k).2 (T.getD k zE).o with
        | none => exact ⟨rfl, sp1_ok k⟩
        | some t => exact ⟨h2 _ t e, hOk _ t e⟩
      have key : ∀ x : Int, (x = -1 ∨ 0 ≤ x ∧ x < k) → unkM T (pastsM R T) x k = false := fun x hx => by
        rcases hx with hx | hx
        · exact unk_none hx
        · have q := hK k (by omega) ha x.toNat (by omega)
          unfold unkM
          rw [Bool.and_eq_false_iff]
          right
          rw [Bool.not_eq_false', decide_eq_true_eq]
          unfold gOf at q
          omega
      have hf : firstM T (pastsM R T) s k = -1 := by
        unfold firstM
        rw [lastM_none (fun i hi => key _ (hg.2 i hi).2) 8 (by omega), readF_none (fun i hi => key _ (hg.2 i hi).1) 8 (by omega)]
        split <;> rfl
      have ht : takeM T (pastsM R T) (raceF T (pastsM R T) k).2 k = (-1, up (raceF T (pastsM R T) k).2 (T.getD k zE).o (some (putS (T.getD k zE) k { s with ra := false }))) := by
        unfold takeM
        rw [← hs, hg.1, if_neg (by decide), hf]
        rfl
      rw [ht]
      refine ⟨by simp [h1], fun o t hs => ?_⟩
      simp only [up] at hs
      split at hs
      · injection hs with hs
        subst hs
        unfold putS
        split <;> rfl
      · exact h2 o t hs
    · exact ⟨h1, h2⟩
theorem races_known {R : List Int} {T : List Ev} (hK : Kn R T) : racesM R T = [] := (race_known hK _ (Nat.le_refl _)).1
/-- one goroutine has no races -/
theorem kn_one {R : List Int} {T : List Ev} (hF : formT T = true) (hn : T.length ≤ 100000) (g : Int) (hg : ∀ e ∈ T, e.g = g) : Kn R T := fun n hn' _ j hj =>
  know_own hF hn hj hn' (by
    unfold gOf
    rw [hg _ (mem_getD (show j < T.length by omega)), hg _ (mem_getD hn')])
/-- what an event knows is no less than what it learns -/
theorem mine_ge {R : List Int} {T : List Ev} {W : Wk} {n : Nat} (h : Iv T W n) (hl : W.past.length = n) (hn : n ≤ 1000000) (e : Ev) (hg : e.g.toNat < 8) (q : Nat) : learnM R W (W.gos e.g.toNat) e q ≤ mineM R W e q := by
  obtain ⟨L1, L2⟩ := h.learn (R := R) hl e hg
  have a := L1.le e.g.toNat hg
  have nn := L1.nn e.g.toNat
  have bd := h.bd e.g.toNat hg
  unfold mineM setS
  split
  · rename_i e
    subst e
    unfold wrap64
    omega
  · exact Int.le_refl _
/-- accesses under one mutex: a trace, and who holds it at its end -/
inductive Lk (mu : Int) : List Ev → Int → Prop
  | none : Lk mu [] (-1)
  | acc {L : List Ev} {h : Int} {e : Ev} : Lk mu L h → 0 ≤ e.g → e.g < 8 → (e.k = 1 ∨ e.k = 2) → h = e.g → Lk mu (L ++ [e]) h
  | lock {L : List Ev} {h : Int} {e : Ev} : Lk mu L h → h < 0 → 0 ≤ e.g → e.g < 8 → e.k = 3 → e.o = mu → Lk mu (L ++ [e]) e.g
  | unlock {L : List Ev} {h : Int} {e : Ev} : Lk mu L h → 0 ≤ e.g → e.g < 8 → e.k = 4 → e.o = mu → h = e.g → Lk mu (L ++ [e]) (-1)
def heldM (W : Wk) (mu h : Int) : Sn := if h < 0 then W.mu mu else W.gos h.toNat
theorem form_snoc {L : List Ev} {e : Ev} (h : formT L = true) (g0 : 0 ≤ e.g) (g8 : e.g < 8) (k1 : 1 ≤ e.k) (k4 : e.k ≤ 4) : formT (L ++ [e]) = true :=
  form_mem.2 fun x hx => by
    rcases List.mem_append.1 hx with hx | hx
    · exact form_mem.1 h x hx
    · rw [List.mem_singleton] at hx
      subst hx
      have e1 : (x.k == 10) = false := by rw [beq_eq_false_iff_ne]; omega
      unfold evB
      simp only [e1, Bool.not_false, Bool.true_or, Bool.and_true, Bool.and_eq_true, decide_eq_true_eq]
      omega
theorem walk_snoc (R : List Int) (L : List Ev) (e : Ev) : walkM R (L ++ [e]) L.length = walkM R L L.length := by
  have := walk_take R (L ++ [e]) L.length L.length (Nat.le_refl _)
  rw [List.take_left] at this
  exact this.symm
theorem getD_end (L : List Ev) (e : Ev) : (L ++ [e]).getD L.length zE = e := by
  rw [List.getD_eq_getElem?_getD, List.getElem?_append_right (Nat.le_refl _)]
  simp
theorem getD_low (L : List Ev) (e : Ev) (j : Nat) (h : j < L.length) : (L ++ [e]).getD j zE = L.getD j zE := by
  rw [List.getD_eq_getElem?_getD, List.getD_eq_getElem?_getD, List.getElem?_append_left h]
/-- the step from a trace to one event more -/
theorem kn_snoc {R : List Int} {L : List Ev} {e : Ev} {m : Sn} (hK : Kn R L) (hm : m = mineM R (walkM R L L.length) e) (ha : accB e = true → ∀ j, j < L.length → ∀ q, q < 8 → (pastsM R L).getD j sn0 q ≤ m q) (hF : formT L = true) : Kn R (L ++ [e]) := by
  have hp : pastsM R (L ++ [e]) = pastsM R L ++ [m] := by
    unfold pastsM
    rw [List.length_append, List.length_singleton]
    show (stepM R (L ++ [e]) (walkM R (L ++ [e]) L.length) ((L ++ [e]).getD L.length zE) L.length).past = _
    rw [step_past, walk_snoc, getD_end, hm]
  have hl := pastsM_len R L
  intro n hn hacc j hj
  rw [List.length_append, List.length_singleton] at hn
  have gj : gOf (L ++ [e]) j = gOf L j := by unfold gOf; rw [getD_low L e j (by omega)]
  rw [hp, getD_snoc, getD_snoc, hl, if_neg (show ¬ j = L.length by omega), gj]
  by_cases en : n = L.length
  · subst en
    rw [if_pos rfl]
    rw [getD_end] at hacc
    exact ha hacc j hj _ (gOf_lt hF j)
  · rw [if_neg en]
    rw [getD_low L e n (by omega)] at hacc
    exact hK n (by omega) hacc j hj
theorem locks_kn {R : List Int} {mu : Int} : ∀ {L : List Ev} {h : Int}, Lk mu L h → L.length ≤ 100000 → formT L = true ∧ Kn R L ∧ h < 8 ∧ ∀ j, j < L.length → ∀ q, q < 8 → (pastsM R L).getD j sn0 q ≤ heldM (walkM R L L.length) mu h q := by
  intro L h hL
  have step : ∀ (L : List Ev) (e : Ev), (walkM R (L ++ [e]) (L ++ [e]).length) = stepM R (L ++ [e]) (walkM R L L.length) e L.length := fun L e => by
    rw [List.length_append, List.length_singleton]
    show stepM R (L ++ [e]) (walkM R (L ++ [e]) L.length) ((L ++ [e]).getD L.length zE) L.length = _
    rw [walk_snoc, getD_end]
  have past : ∀ (L : List Ev) (e : Ev), pastsM R (L ++ [e]) = pastsM R L ++ [mineM R (walkM R L L.length) e] := fun L e => by
    unfold pastsM
    rw [step, step_past]
  induction hL with
  | none => exact fun _ => ⟨rfl, fun n hn => absurd hn (Nat.not_lt_zero _), by omega, fun j hj => absurd hj (Nat.not_lt_zero _)⟩
  | @acc L h e hL g0 g8 hk he ih =>
    intro hn
    rw [List.length_append, List.length_singleton] at hn
    obtain ⟨i1, i2, i3, i4⟩ := ih (by omega)
    have I := walk_iv (R := R) i1 (by omega) L.length (Nat.le_refl _)
    have ok := (walk_ok R L L.length).past
    have lm : ∀ s, learnM R (walkM R L L.length) s e = s := fun s => by
      unfold learnM
      rw [if_neg (by omega), if_neg (by omega), if_neg (by omega), if_neg (by omega)]
    have ge : ∀ j, j < L.length → ∀ q, q < 8 → (pastsM R L).getD j sn0 q ≤ mineM R (walkM R L L.length) e q := fun j hj q hq => by
      have a := i4 j hj q hq
      have b := mine_ge (R := R) I ok (by omega) e (by omega) q
      rw [lm] at b
      unfold heldM at a
      rw [if_neg (by omega), he] at a
      omega
    refine ⟨form_snoc i1 g0 g8 (by omega) (by omega), kn_snoc i2 rfl (fun _ => ge) i1, i3, fun j hj q hq => ?_⟩
    rw [List.length_append, List.length_singleton] at hj
    have hs : heldM (walkM R (L ++ [e]) (L ++ [e]).length) mu h = mineM R (walkM R L L.length) e := by
      rw [step]
      unfold heldM stepM tellM
      rw [if_neg (by omega), if_neg (by omega), if_neg (by omega), if_neg (by omega), if_neg (by omega), if_neg (by omega), he]
      show upd _ _ _ _ = _
      unfold upd
      exact if_pos rfl
    rw [hs, past, getD_snoc, pastsM_len]
    split
    · exact Int.le_refl _
    · exact ge j (by omega) q hq
  | @lock L h e hL hh g0 g8 hk ho ih =>
    intro hn
    rw [List.length_append, List.length_singleton] at hn
    obtain ⟨i1, i2, i3, i4⟩ := ih (by omega)
    have I := walk_iv (R := R) i1 (by omega) L.length (Nat.le_refl _)
    have ok := (walk_ok R L L.length).past
    have lm : ∀ s, learnM R (walkM R L L.length) s e = jn s ((walkM R L L.length).mu mu) := fun s => by
      unfold learnM
      rw [if_pos hk, ho]
    have ge : ∀ j, j < L.length → ∀ q, q < 8 → (pastsM R L).getD j sn0 q ≤ mineM R (walkM R L L.length) e q := fun j hj q hq => by
      have a := i4 j hj q hq
      have b := mine_ge (R := R) I ok (by omega) e (by omega) q
      rw [lm] at b
      unfold heldM at a
      rw [if_pos hh] at a
      unfold jn at b
      omega
    refine ⟨form_snoc i1 g0 g8 (by omega) (by omega), kn_snoc i2 rfl (fun _ => ge) i1, g8, fun j hj q hq => ?_⟩
    rw [List.length_append, List.length_singleton] at hj
    have hs : heldM (walkM R (L ++ [e]) (L ++ [e]).length) mu e.g = mineM R (walkM R L L.length) e := by
      rw [step]
      unfold heldM stepM tellM
      rw [if_neg (by omega), if_neg (by omega), if_neg (by omega), if_neg (by omega), if_neg (by omega), if_neg (by omega)]
      show upd _ _ _ _ = _
      unfold upd
      exact if_pos rfl
    rw [hs, past, getD_snoc, pastsM_len]
    split
    · exact Int.le_refl _
    · exact ge j (by omega) q hq
  | @unlock L h e hL g0 g8 hk ho he ih =>
    intro hn
    rw [List.length_append, List.length_singleton] at hn
    obtain ⟨i1, i2, i3, i4⟩ := ih (by omega)
    have I := walk_iv (R := R) i1 (by omega) L.length (Nat.le_refl _)
    have ok := (walk_ok R L L.length).past
    have lm : ∀ s, learnM R (walkM R L L.length) s e = s := fun s => by
      unfold learnM
      rw [if_neg (by omega), if_neg (by omega), if_neg (by omega), if_neg (by omega)]
    have ge : ∀ j, j < L.length → ∀ q, q < 8 → (pastsM R L).getD j sn0 q ≤ mineM R (walkM R L L.length) e q := fun j hj q hq => by
      have a := i4 j hj q hq
      have b := mine_ge (R := R) I ok (by omega) e (by omega) q
      rw [lm] at b
      unfold heldM at a
      rw [if_neg (by omega), he] at a
      omega
    refine ⟨form_snoc i1 g0 g8 (by omega) (by omega), kn_snoc i2 rfl (fun _ => ge) i1, by omega, fun j hj q hq => ?_⟩
    rw [List.length_append, List.length_singleton] at hj
    have hs : ∀ q, mineM R (walkM R L L.length) e q ≤ heldM (walkM R (L ++ [e]) (L ++ [e]).length) mu (-1) q := fun q => by
      rw [step]
      unfold heldM stepM tellM
      rw [if_pos (by omega), if_neg (by omega), if_pos hk, ho]
      show _ ≤ (up (walkM R L L.length).mu mu (jn ((walkM R L L.length).mu mu) (mineM R (walkM R L L.length) e))) mu q
      rw [up_same]
      unfold jn
      omega
    rw [past, getD_snoc, pastsM_len]
    split
    · exact hs q
    · exact Int.le_trans (ge j (by omega) q hq) (hs q)
theorem locks_none {R : List Int} {mu : Int} {L : List Ev} {h : Int} (hL : Lk mu L h) (hn : L.length ≤ 100000) : racesM R L = [] := races_known (locks_kn (R := R) hL hn).2.1
/-- one goroutine in the place of all -/
def oneE (e : Ev) : Ev := if e.k = 10 ∨ e.k < 1 ∨ 12 < e.k then { e with g := 0, k := 11 } else { e with g := 0 }
theorem ones_none (R : List Int) (T : List Ev) (hn : T.length ≤ 100000) : formT (T.map oneE) = true ∧ racesM R (T.map oneE) = [] := by
  have hg : ∀ e ∈ T.map oneE, e.g = 0 := fun e he => by
    obtain ⟨x, _, rfl⟩ := List.mem_map.1 he
    unfold oneE
    split <;> rfl
  have hF : formT (T.map oneE) = true := form_mem.2 fun e he => by
    obtain ⟨x, _, rfl⟩ := List.mem_map.1 he
    unfold oneE
    split
    · rfl
    · rename_i h
      have e1 : (x.k == 10) = false := by rw [beq_eq_false_iff_ne]; omega
      unfold evB
      simp only [e1, Bool.not_false, Bool.true_or, Bool.and_true, Bool.and_eq_true, decide_eq_true_eq]
      omega
  exact ⟨hF, races_known (kn_one hF (by rw [List.length_map]; exact hn) 0 hg)⟩
end Go.Proofs.YticgmebbnnmikaaDoor.Ck

/- Rows of events of the call's own, and a boxed event. No Go text is walked here. -/
namespace Go.Proofs.YticgmebbnnmikaaDoor.Ck
open Go.RowKit

theorem flat_ev : ∀ (ps : List Ev) (i j : Nat), i < ps.length → j < 4 → (ps.flatMap evC)[i * 4 + j]? = (evC (ps.getD i zE))[j]?
  | [], _, _, h, _ => absurd h (Nat.not_lt_zero _)
  | p :: ps, 0, j, _, hj => by
    rw [List.flatMap_cons, List.getElem?_append_left (by rw [show (evC p).length = 4 from rfl]; omega), Nat.zero_mul, Nat.zero_add]
    rfl
  | p :: ps, i + 1, j, h, hj => by
    rw [List.flatMap_cons, List.getElem?_append_right (by rw [show (evC p).length = 4 from rfl]; omega), show (i + 1) * 4 + j - (evC p).length = i * 4 + j by rw [show (evC p).length = 4 from rfl]; omega]
    exact flat_ev ps i j (by simpa using h) hj
theorem SlE.own {w : World} {B : Nat} {v : Value} {l : List Ev} (h : w.ownsRow B 47 4 v l.length (l.flatMap evC)) : SlE w v l := by
  obtain ⟨a, c, rfl, h1, h2⟩ := own_slice h
  refine ⟨a, c, rfl, h1, h2, fun i hi => ?_⟩
  obtain ⟨b, c', e, _⟩ := own_some h (by omega)
  injection e with e _ _
  subst e
  have q := fun j hj u hu => (own_cell h (i * 4 + j) u ((flat_ev l i j hi hj).trans hu)).1
  exact ⟨b, 0, rfl, (own_type h (k := b) rfl).2.1, by have := q 0 (by omega) _ rfl; simpa using this, by have := q 1 (by omega) _ rfl; simpa [Nat.add_assoc] using this, by have := q 2 (by omega) _ rfl; simpa [Nat.add_assoc] using this, by have := q 3 (by omega) _ rfl; simpa [Nat.add_assoc] using this⟩
theorem evC_one (e : Ev) : ∀ u ∈ evC e, u.oneCell' = true := fun u hu => by
  simp [evC] at hu
  rcases hu with rfl | rfl | rfl | rfl <;> rfl
/-- two rows of events of the call's own -/
structure RoM (w0 w : World) (v u : Value) (l m : List Ev) : Prop where
  rd : w.ownsRow w0.heap.size 47 4 v l.length (l.flatMap evC)
  ow : w.ownsRow w0.heap.size 47 4 u m.length (m.flatMap evC)
  ap : ∀ k, v.ownBlock = some k → u.ownBlock ≠ some k
  bel : Below w0.heap.size w0 w
/-- and a variable of an event -/
structure RoX (w0 w : World) (x : Nat) (e : Ev) (v u : Value) (l m : List Ev) : Prop where
  mm : RoM w0 w v u l m
  xx : w.heap[x]? = some (.cells (evC e).toArray 47 (0, 0))
  xl : w0.heap.size ≤ x
  xv : v.ownBlock ≠ some x
  xu : u.ownBlock ≠ some x
section
variable {w0 w w' : World} {x : Nat} {e : Ev} {v u : Value} {l m : List Ev}
theorem RoM.below (h : RoM w0 w v u l m) (hb : Below w.heap.size w w') : RoM w0 w' v u l m :=
  ⟨own_keep h.rd (fun k hk => hb.block k (own_type h.rd hk).2.1), own_keep h.ow (fun k hk => hb.block k (own_type h.ow hk).2.1), h.ap, h.bel.trans (hb.mono h.bel.size)⟩
theorem RoX.below (h : RoX w0 w x e v u l m) (hb : Below w.heap.size w w') : RoX w0 w' x e v u l m :=
  ⟨h.mm.below hb, (hb.block _ (lt_of_blk h.xx)).trans h.xx, h.xl, h.xv, h.xu⟩
theorem RoM.box (h : RoM w0 w v u l m) (e : Ev) : RoX w0 (w.alloc (.cells (evC e).toArray 47)) w.heap.size e v u l m :=
  ⟨h.below (bel_new w _), Go.Deep.blk_alloc_new w _, h.bel.size, fun q => by have := (own_type h.rd q).2.1; omega, fun q => by have := (own_type h.ow q).2.1; omega⟩
theorem RoX.put (h : RoX w0 w x e v u l m) : RoX w0 (w.setCell ⟨x, 2, none⟩ (.int .i64 e.g)) x { e with o := e.g } v u l m := by
  have hx : ∀ k, k ≠ x → (w.setCell ⟨x, 2, none⟩ (.int .i64 e.g)).heap[k]? = w.heap[k]? := fun k hk => Below.heap_setCell _ _ _ _ hk
  refine ⟨⟨own_keep h.mm.rd (fun k hk => hx k (fun q => h.xv (q ▸ hk))), own_keep h.mm.ow (fun k hk => hx k (fun q => h.xu (q ▸ hk))), h.mm.ap, h.mm.bel.setCell h.xl _⟩, ?_, h.xl, h.xv, h.xu⟩
  exact heap_setCell_same w x 2 _ _ _ h.xx
theorem RoM.grewR {v' : Value} {l' : List Ev} (h : RoM w0 w v u l m) (hg : w.grownBy w' v.ownBlock) (ho : w'.ownsRow w0.heap.size 47 4 v' l'.length (l'.flatMap evC)) (hat : ∀ b, v'.ownBlock = some b → v.ownBlock = some b ∨ w.heap.size ≤ b) : RoM w0 w' v' u l' m := by
  refine ⟨ho, own_keep h.ow (fun k hk => hg.block k (own_type h.ow hk).2.1 (fun q => h.ap k q.symm hk)), fun k hk hk' => ?_, ⟨hg.os.trans h.bel.os, hg.tape.trans h.bel.tape, hg.output.trans h.bel.output, Nat.le_trans h.bel.size hg.size, fun k hk => (hg.block k (Nat.lt_of_lt_of_le hk h.bel.size) (fun q => ?_)).trans (h.bel.block k hk)⟩⟩
  · rcases hat k hk with q | q
    · exact h.ap k q hk'
    · have := (own_type h.ow hk').2.1
      omega
  · have := (own_type h.rd q.symm).1
    omega
theorem RoM.flip (h : RoM w0 w v u l m) : RoM w0 w u v m l := ⟨h.ow, h.rd, fun k hk hk' => h.ap k hk' hk, h.bel⟩
theorem RoX.flip (h : RoX w0 w x e v u l m) : RoX w0 w x e u v m l := ⟨h.mm.flip, h.xx, h.xl, h.xu, h.xv⟩
theorem RoX.push (h : RoX w0 w x e v u l m) (hl : l.length ≤ 100000) (ty : TypeId) : ∃ v' w', (Builtin.append_ #[22, 22] ty #[v, .slice (some ⟨w.heap.size, 0, none⟩) 1 1]).run Tryd.prog (w.alloc (.cells (evC e).toArray 47)) = .ok v' w' ∧ ((∃ a cc, v' = .slice a (l.length + 1) cc) ∧ RoX w0 w' x e v' u (l ++ [e]) m) := by
  obtain ⟨v', w', hr, hs, ho, hg, hat⟩ := pushE (w := w) (TS := 22) Tryd.underlying22 info_ev rfl (by omega) (by omega) hl h.mm.rd h.mm.bel.size (evC e) rfl (evC_one e) ty
  have ho' : w'.ownsRow w0.heap.size 47 4 v' (l ++ [e]).length ((l ++ [e]).flatMap evC) := by rw [List.length_append, List.flatMap_append]; simpa using ho
  have hM := h.mm.grewR hg ho' hat
  refine ⟨v', w', hr, hs, hM, (hg.block x (lt_of_blk h.xx) (fun q => h.xv q.symm)).trans h.xx, h.xl, fun q => ?_, h.xu⟩
  rcases hat x q with q | q
  · exact h.xv q
  · have := lt_of_blk h.xx
    omega
theorem RoX.pushO (h : RoX w0 w x e v u l m) (hl : m.length ≤ 100000) (ty : TypeId) : ∃ v' w', (Builtin.append_ #[22, 22] ty #[u, .slice (some ⟨w.heap.size, 0, none⟩) 1 1]).run Tryd.prog (w.alloc (.cells (evC e).toArray 47)) = .ok v' w' ∧ ((∃ a cc, v' = .slice a (m.length + 1) cc) ∧ RoX w0 w' x e v v' l (m ++ [e])) := by
  obtain ⟨v', w', hr, hs, hX⟩ := h.flip.push hl ty
  exact ⟨v', w', hr, hs, hX.flip⟩
end
theorem rom_start (w0 : World) {w : World} (hb : Below w0.heap.size w0 w) : RoM w0 ((w.alloc (.cells #[] 47)).alloc (.cells #[] 47)) (.slice (some ⟨w.heap.size, 0, none⟩) 0 0) (.slice (some ⟨w.heap.size + 1, 0, none⟩) 0 0) [] [] := by
  have b1 := bel_new w (.cells #[] 47)
  have b2 := bel_new (w.alloc (.cells #[] 47)) (.cells #[] 47)
  have n1 : ((w.alloc (.cells #[] 47)).alloc (.cells #[] 47)).heap[w.heap.size]? = some (.cells #[] 47 (0, 0)) := (b2.block w.heap.size (by simp)).trans (Go.Deep.blk_alloc_new w _)
  have n2 : ((w.alloc (.cells #[] 47)).alloc (.cells #[] 47)).heap[w.heap.size + 1]? = some (.cells #[] 47 (0, 0)) := by
    have := Go.Deep.blk_alloc_new (w.alloc (.cells #[] 47)) (.cells #[] 47)
    simpa using this
  refine ⟨⟨rfl, .inr ⟨w.heap.size, 0, #[], rfl, hb.size, n1, Nat.le_refl _, Nat.zero_le _, by simp, by simp⟩⟩, ⟨rfl, .inr ⟨w.heap.size + 1, 0, #[], rfl, by have := hb.size; omega, n2, Nat.le_refl _, Nat.zero_le _, by simp, by simp⟩⟩, fun k hk hk' => ?_, bel_trans hb (b1.trans (b2.mono b1.size))⟩
  have e1 : w.heap.size = k := Option.some.inj hk
  have e2 : w.heap.size + 1 = k := Option.some.inj hk'
  omega
theorem SlN (w : World) : Sl w (.slice none 0 0) [] := Sl.nilS w
end Go.Proofs.YticgmebbnnmikaaDoor.Ck

/- A whole trace appended to a row of the call's own; an event of such a row set anew. No Go text is walked here. -/
namespace Go.Proofs.YticgmebbnnmikaaDoor.Ck
open Go.RowKit

theorem flat_elen : ∀ l : List Ev, (l.flatMap evC).length = l.length * 4
  | [] => rfl
  | p :: l => by
    rw [List.flatMap_cons, List.length_append, flat_elen l, List.length_cons, show (evC p).length = 4 from rfl]
    omega
theorem evs_one (T : List Ev) : ∀ u ∈ T.flatMap evC, u.oneCell' = true := fun u hu => by
  obtain ⟨e, _, he⟩ := List.mem_flatMap.1 hu
  simp [evC] at he
  rcases he with rfl | rfl | rfl | rfl <;> rfl
/-- a trace that isn't empty, appended to an empty row -/
theorem appT {w : World} {B : Nat} {v vT : Value} {T : List Ev} (hT : SlE w vT T) (h0 : 0 < T.length) (hn : T.length ≤ 100000) (ho : w.ownsRow B 47 4 v 0 []) (hB : B ≤ w.heap.size) (ty : TypeId) :
    ∃ v' w', (Builtin.append_ #[22, 22] ty #[v, vT]).run Tryd.prog w = .ok v' w' ∧ ((∃ a cc, v' = .slice a T.length cc) ∧ w'.ownsRow B 47 4 v' T.length (T.flatMap evC) ∧ w.grownBy w' v.ownBlock) := by
  obtain ⟨ie, hi, hz0, hz1, hz2⟩ := info_parts info_ev
  obtain ⟨a, cap, rfl, h1, h2, h3⟩ := hT
  obtain ⟨b, off, rfl, hb, _⟩ := h3 0 h0
  have hc : ∀ (j : Nat) (u : Value), (T.flatMap evC)[j]? = some u → w.cell? ((⟨b, off, none⟩ : Addr).add j) = some u := fun j u hu => by
    have hj : j < T.length * 4 := by
      have := (List.getElem?_eq_some_iff.1 hu).1
      rw [flat_elen] at this
      exact this
    have hi : j / 4 < T.length := by omega
    rw [show (⟨b, off, none⟩ : Addr).add j = ⟨b, off + j, none⟩ by unfold Addr.add; by_cases h : j = 0 <;> simp [h]]
    obtain ⟨q, hq⟩ : ∃ q, q = j / 4 := ⟨_, rfl⟩
    obtain ⟨r, hr⟩ : ∃ r, r = j % 4 := ⟨_, rfl⟩
    have hjq : j = q * 4 + r := by omega
    have hr4 : r < 4 := by omega
    rw [← hq] at hi
    clear hq hr
    subst hjq
    rw [flat_ev T _ _ hi hr4] at hu
    obtain ⟨b', off', e, _, c0, c1, c2, c3⟩ := h3 _ hi
    simp only [Option.some.injEq, Addr.mk.injEq, and_true] at e
    obtain ⟨rfl, rfl⟩ := e
    have key : ∀ x : Value, (evC (T.getD q zE))[r]? = some x → x = u := fun x hx => Option.some.inj (hx.symm.trans hu)
    rcases (by omega : r = 0 ∨ r = 1 ∨ r = 2 ∨ r = 3) with rfl | rfl | rfl | rfl
    · rw [← key _ rfl]; exact c0
    · rw [← key _ rfl, ← Nat.add_assoc]; exact c1
    · rw [← key _ rfl, ← Nat.add_assoc]; exact c2
    · rw [← key _ rfl, ← Nat.add_assoc]; exact c3
  obtain ⟨v', w', hr, ho', hg, _, _⟩ := run_append_own_at (P := Tryd.prog) w B 22 ty 47 ie _ 4 32 Tryd.underlying22 hi hz0 hz1 hz2 rfl (by omega) v 0 [] ho ⟨b, off, none⟩ T.length cap (T.flatMap evC) (by rw [flat_elen]) hc (evs_one T) (by unfold maxLen; omega) (Nat.le_trans (Nat.mul_le_mul (show 0 + T.length ≤ 100001 by omega) (show 32 ≤ 600 by omega)) (by decide)) hB
  rw [Nat.zero_add, List.nil_append] at ho'
  obtain ⟨a9, c9, e9, _⟩ := own_slice ho'
  exact ⟨v', w', hr, ⟨_, _, e9⟩, ho', hg⟩
/-- who holds the mutex -/
theorem Lk.low {mu : Int} {L : List Ev} {h : Int} (hL : Lk mu L h) : -1 ≤ h ∧ h < 8 := by
  induction hL with
  | none => omega
  | acc _ _ _ _ _ ih => exact ih
  | lock _ _ h0 h8 _ _ _ => omega
  | unlock _ _ _ _ _ _ _ => omega
end Go.Proofs.YticgmebbnnmikaaDoor.Ck

/- A trace whose goroutines are set to one, event by event. No Go text is walked here. -/
namespace Go.Proofs.YticgmebbnnmikaaDoor.Ck
open Go.RowKit

theorem flat_set : ∀ (l : List Ev) (i j : Nat) (y : Value) (e' : Ev), i < l.length → j < 4 → evC e' = (evC (l.getD i zE)).set j y → (l.flatMap evC).set (i * 4 + j) y = (l.set i e').flatMap evC
  | [], _, _, _, _, h, _, _ => absurd h (Nat.not_lt_zero _)
  | p :: l, 0, j, y, e', _, hj, he => by
    rw [List.flatMap_cons, Nat.zero_mul, Nat.zero_add, List.set_append_left _ _ (by rw [show (evC p).length = 4 from rfl]; omega), List.set_cons_zero, List.flatMap_cons, he]
    rfl
  | p :: l, i + 1, j, y, e', h, hj, he => by
    rw [List.flatMap_cons, List.set_append_right _ _ (by rw [show (evC p).length = 4 from rfl]; omega), show (i + 1) * 4 + j - (evC p).length = i * 4 + j by rw [show (evC p).length = 4 from rfl]; omega, flat_set l i j y e' (by simpa using h) hj he]
    rfl
/-- the trace with its first k events set -/
def mixT (T : List Ev) (k : Nat) : List Ev := (T.take k).map oneE ++ T.drop k
theorem mix_zero (T : List Ev) : mixT T 0 = T := by unfold mixT; simp
theorem mix_all (T : List Ev) : mixT T T.length = T.map oneE := by unfold mixT; simp
theorem mix_len (T : List Ev) (k : Nat) (hk : k ≤ T.length) : (mixT T k).length = T.length := by
  unfold mixT
  rw [List.length_append, List.length_map, List.length_take, List.length_drop]
  omega
theorem mix_at (T : List Ev) (k : Nat) (hk : k < T.length) : (mixT T k).getD k zE = T.getD k zE := by
  unfold mixT
  rw [List.getD_eq_getElem?_getD, List.getD_eq_getElem?_getD, List.getElem?_append_right (by rw [List.length_map, List.length_take]; omega), List.getElem?_drop, List.length_map, List.length_take]
  congr 2
  omega
theorem mix_step (T : List Ev) (k : Nat) (hk : k < T.length) : mixT T (k + 1) = (mixT T k).set k (oneE (T.getD k zE)) := by
  have hd : T.drop k = T.getD k zE :: T.drop (k + 1) := by
    rw [List.drop_eq_getElem_cons hk, List.getD_eq_getElem?_getD, List.getElem?_eq_getElem hk]
    rfl
  have hl : ((T.take k).map oneE).length = k := by rw [List.length_map, List.length_take]; omega
  unfold mixT
  rw [hd, List.set_append_right _ _ (by omega), hl, Nat.sub_self, List.set_cons_zero, take_one T k hk, List.map_append, List.append_assoc]
  rfl
/-- a row of one's own whose events are being set -/
structure MiM (w0 w : World) (b c : Nat) (T : List Ev) (l : List Ev) : Prop where
  row : w.ownsRow w0.heap.size 47 4 (.slice (some ⟨b, 0, none⟩) T.length c) T.length (l.flatMap evC)
  bel : Below w0.heap.size w0 w
theorem MiM.at {w0 w : World} {b c : Nat} {T l : List Ev} (h : MiM w0 w b c T l) (hl : l.length = T.length) (i : Nat) (hi : i < T.length) (j : Nat) (hj : j < 4) (u : Value) (hu : (evC (l.getD i zE))[j]? = some u) : w.cell? ⟨b, i * 4 + j, none⟩ = some u ∧ w.frozen? ⟨b, i * 4 + j, none⟩ = false :=
  own_cell h.row _ u ((flat_ev l i j (by omega) hj).trans hu)
theorem MiM.set {w0 w : World} {b c : Nat} {T l : List Ev} (h : MiM w0 w b c T l) (hl : l.length = T.length) (i : Nat) (hi : i < T.length) (j : Nat) (hj : j < 4) (y : Value) (e' : Ev) (he : evC e' = (evC (l.getD i zE)).set j y) : MiM w0 (w.setCell ⟨b, i * 4 + j, none⟩ y) b c T (l.set i e') := by
  have hb := (own_type h.row (k := b) rfl).1
  refine ⟨?_, h.bel.setCell hb _⟩
  rw [← flat_set l i j y e' (by omega) hj he]
  exact own_set h.row _ y
theorem append_zero (w : World) (b : Nat) (aT : Option Addr) (cT : Nat) (ty : TypeId) : (Builtin.append_ #[22, 22] ty #[.slice (some ⟨b, 0, none⟩) 0 0, .slice aT 0 cT]).run Tryd.prog w = .ok (.slice (some ⟨b, 0, none⟩) 0 0) w := by
  cases aT <;> kernel_rfl
theorem append_any {w0 w : World} {n : Nat} {vT : Value} {T : List Ev} (hT : SlE w vT T) (hb : Below w0.heap.size w0 w) (hv : w.ownsRow w0.heap.size 47 4 (.slice (some ⟨n, 0, none⟩) 0 0) 0 []) (hn : T.length ≤ 100000) (ty : TypeId) :
    ∃ v' w', (Builtin.append_ #[22, 22] ty #[.slice (some ⟨n, 0, none⟩) 0 0, vT]).run Tryd.prog w = .ok v' w' ∧ (∃ b c, v' = .slice (some ⟨b, 0, none⟩) T.length c ∧ MiM w0 w' b c T T) := by
  by_cases h0 : 0 < T.length
  · obtain ⟨v', w', hr, _, ho, hg⟩ := appT hT h0 hn hv hb.size ty
    obtain ⟨b, c, rfl, _⟩ := own_some ho h0
    refine ⟨_, w', hr, b, c, rfl, ho, ⟨hg.os.trans hb.os, hg.tape.trans hb.tape, hg.output.trans hb.output, Nat.le_trans hb.size hg.size, fun k hk => (hg.block k (Nat.lt_of_lt_of_le hk hb.size) (fun q => ?_)).trans (hb.block k hk)⟩⟩
    have := (own_type hv (k := k) q.symm).1
    omega
  · cases T with
    | cons e T => exact absurd (Nat.succ_pos _) h0
    | nil =>
      obtain ⟨a, c, rfl, _⟩ := hT.form
      exact ⟨_, w, append_zero w n a c ty, n, 0, rfl, hv, hb⟩
theorem ones_obj {T : List Ev} (hW : ∀ k, k < T.length → wfI (T.getD k zE).o) : ∀ k, k < (T.map oneE).length → wfI ((T.map oneE).getD k zE).o := fun k hk => by
  obtain ⟨x, hx, e⟩ := List.mem_map.1 (mem_getD hk)
  rw [← e]
  obtain ⟨i, hi, e⟩ := getD_mem hx
  have h := hW i hi
  rw [e] at h
  unfold oneE
  split <;> exact h
theorem set_at (l : List Ev) (k : Nat) (e : Ev) (hk : k < l.length) : (l.set k e).getD k zE = e := by
  rw [List.getD_eq_getElem?_getD, List.getElem?_set_self hk]
  rfl
end Go.Proofs.YticgmebbnnmikaaDoor.Ck

/- The statement OrderRaces. -/
namespace Go.Proofs.YticgmebbnnmikaaDoor.Ck
open Go.RowKit

set_option maxRecDepth 20000 in
set_option maxHeartbeats 2000000 in
theorem same_ref18Same {w : World} {v u : Value} {l : List Rc} (hv : SlR w v l) (hu : SlR w u l) (hn : l.length ≤ 100000) : Calls Tryd.prog 17 #[v, u] w (Vb w (.bool true)) := by
  obtain ⟨a, c, rfl, _⟩ := hv.form
  obtain ⟨a', c', rfl, _⟩ := hu.form
  have HV := hide hv
  have HU := hide hu
  clear hv hu
  go_enter Tryd.func17, Tryd.ntmps17
  go_wp2_with fail
  go_loopw [13] (fun x13 wr => ∃ k : Nat, k ≤ l.length ∧ x13 = .int .i64 (k : Nat) ∧ Hid (Below w.heap.size w wr)) (fun x13 _ => l.length - (intOf x13).toNat)
  case atStart => exact ⟨0, Nat.zero_le _, rfl, hide (Below.refl _ _)⟩
  case round =>
    obtain ⟨k, hk, rfl, hI⟩ := hrel
    by_cases hlt : k < l.length
    · have hlt' : (k : Int) < (l.length : Int) := by omega
      obtain ⟨b, o, rfl, _, s0, s1, s2, s3, s4⟩ := (HV.out.bel hI.out).at k hlt
      obtain ⟨b', o', rfl, _, t0, t1, t2, t3, t4⟩ := (HU.out.bel hI.out).at k hlt
      generalize l.getD k ⟨0, 0, 0, false, false⟩ = x at *
      obtain ⟨xp, xf, xs, xfw, xsw⟩ := x
      simp only at s0 s1 s2 s3 s4 t0 t1 t2 t3 t4
      have EQ : ∀ w, (binOp .neq 54 (.agg #[.int .i64 xp, .int .i64 xf, .int .i64 xs, .bool xfw, .bool xsw]) (.agg #[.int .i64 xp, .int .i64 xf, .int .i64 xs, .bool xfw, .bool xsw])).run Tryd.prog w = .ok (.bool false) w := fun w => by
        rw [neq_rc]
        simp
      go_upto_region 6 with fail
      go_quiet (fail)
      have B2 := hide (below_drewN hI.out nq)
      go_wp2_with fail
      go_roundw
      case rel => exact ⟨k + 1, by omega, by go_num, B2⟩
      case measure => simp [intOf]; omega
    · obtain rfl : k = l.length := by omega
      have B2 := hide hI.out
      clear hI
      go_wp2_with fail
      go_ret
      exact ⟨rfl, B2.out⟩
set_option maxRecDepth 20000 in
set_option maxHeartbeats 2000000 in
theorem same_slicesEqualapiRaceapiRace {w : World} {v u : Value} {l : List Rc} (hv : SlR w v l) (hu : SlR w u l) (hn : l.length ≤ 100000) : Calls Tryd.prog 28 #[v, u] w (Vb w (.bool true)) := by
  obtain ⟨a, c, rfl, _⟩ := hv.form
  obtain ⟨a', c', rfl, _⟩ := hu.form
  have HV := hide hv
  have HU := hide hu
  clear hv hu
  go_enter Tryd.func28, Tryd.ntmps28
  go_wp2_with fail
  go_loopw [13] (fun x13 wr => ∃ k : Nat, k ≤ l.length ∧ x13 = .int .i64 (k : Nat) ∧ Hid (Below w.heap.size w wr)) (fun x13 _ => l.length - (intOf x13).toNat)
  case atStart => exact ⟨0, Nat.zero_le _, rfl, hide (Below.refl _ _)⟩
  case round =>
    obtain ⟨k, hk, rfl, hI⟩ := hrel
    by_cases hlt : k < l.length
    · have hlt' : (k : Int) < (l.length : Int) := by omega
      obtain ⟨b, o, rfl, _, s0, s1, s2, s3, s4⟩ := (HV.out.bel hI.out).at k hlt
      obtain ⟨b', o', rfl, _, t0, t1, t2, t3, t4⟩ := (HU.out.bel hI.out).at k hlt
      generalize l.getD k ⟨0, 0, 0, false, false⟩ = x at *
      obtain ⟨xp, xf, xs, xfw, xsw⟩ := x
      simp only at s0 s1 s2 s3 s4 t0 t1 t2 t3 t4
      have EQ : ∀ w, (binOp .neq 54 (.agg #[.int .i64 xp, .int .i64 xf, .int .i64 xs, .bool xfw, .bool xsw]) (.agg #[.int .i64 xp, .int .i64 xf, .int .i64 xs, .bool xfw, .bool xsw])).run Tryd.prog w = .ok (.bool false) w := fun w => by
        rw [neq_rc]
        simp
      go_upto_region 6 with fail
      go_quiet (fail)
      have B2 := hide (below_drewN hI.out nq)
      go_wp2_with fail
      go_roundw
      case rel => exact ⟨k + 1, by omega, by go_num, B2⟩
      case measure => simp [intOf]; omega
    · obtain rfl : k = l.length := by omega
      have B2 := hide hI.out
      clear hI
      go_wp2_with fail
      go_ret
      exact ⟨rfl, B2.out⟩
theorem orderSame_any {w : World} {v u : Value} {l : List Rc} (hv : SlR w v l) (hu : SlR w u l) (hn : l.length ≤ 100000) : Calls Tryd.prog 18 #[v, u] w (Vb w (.bool true)) := by
  have S := hide (same_slicesEqualapiRaceapiRace hv hu hn)
  clear hv hu
  go_enter Tryd.func18, Tryd.ntmps18
  go_wp2_with fail
  refine S.out.mono ?_
  rintro e w1 ⟨rfl, b1⟩
  have B1 := hide b1
  clear b1 S
  go_wp2_with fail
  go_ret
  exact ⟨rfl, B1.out⟩
set_option maxRecDepth 20000 in
set_option maxHeartbeats 2000000 in
theorem races_bad {w : World} {vT vR x : Value} {t : TypeId} {T : List Ev} (hT : SlE w vT T) (hE : Er w (.iface t x)) (hF : formT T = false) (hn : T.length ≤ 100000) : Calls Tryd.prog 15 #[vT, vR] w (Vb w (.tuple #[.slice none 0 0, .iface t x])) := by
  have CK := hide (check_any hT hE hn)
  rw [hF, show erF (.iface t x) false = .iface t x from rfl] at CK
  clear hT hE hF
  go_enter Tryd.func15, Tryd.ntmps15
  go_wp2_with fail
  refine CK.out.mono ?_
  rintro e w1 ⟨rfl, b1⟩
  have B1 := hide b1
  clear b1 CK
  go_wp2_with fail
  go_ret2
  exact ⟨rfl, B1.out⟩
theorem own_nil (w0 w : World) (hb : Below w0.heap.size w0 w) : Below w0.heap.size w0 (w.alloc (.cells #[] 47)) ∧ (w.alloc (.cells #[] 47)).ownsRow w0.heap.size 47 4 (.slice (some ⟨w.heap.size, 0, none⟩) 0 0) 0 [] :=
  ⟨bel_al hb _, rfl, .inr ⟨w.heap.size, 0, #[], rfl, hb.size, Go.Deep.blk_alloc_new w _, Nat.le_refl _, by unfold maxLen; omega, rfl, rfl⟩⟩
set_option maxRecDepth 20000 in
set_option maxHeartbeats 8000000 in
theorem races_main {w : World} {vT vR : Value} {p : List Addr} {T : List Ev} {R : List Int} (h17 : Errs17 w p) (hT : SlE w vT T) (hR : Sl w vR R) (hW : ∀ k, k < T.length → wfI (T.getD k zE).o) : Calls Tryd.prog 4 #[vT, vR] w (Vb w (.bool true)) := by
  obtain ⟨aT, cT, rfl, hcT, hcT2⟩ := hT.form
  obtain ⟨aR, cR, rfl, hcR, _⟩ := hR.form
  have hE : Er w (errV p 0) := h17.cell 0 (by omega)
  have AL := hide (alive18_any hE)
  have HE := hide hE
  have H17 := hide h17
  have HT := hide hT
  have HR := hide hR
  have HW := hide hW
  clear hE hT hR hW h17
  go_enter Tryd.func4, Tryd.ntmps4
  go_wp2_with fail
  refine AL.out.mono ?_
  rintro e w3 ⟨rfl, b3⟩
  have B3 := hide b3
  clear b3 AL
  by_cases h2 : 60 < T.length
  · have h2' : (60 : Int) < (T.length : Int) := by omega
    go_wp2_with fail
    go_ret
    exact ⟨rfl, B3.out⟩
  have h2' : ¬ (60 : Int) < (T.length : Int) := by omega
  by_cases h3 : 100 < R.length
  · have h3' : (100 : Int) < (R.length : Int) := by omega
    go_wp2_with fail
    go_ret
    exact ⟨rfl, B3.out⟩
  have h3' : ¬ (100 : Int) < (R.length : Int) := by omega
  go_upto_region 5 with fail
  have RN := hide (own_nil w w3 B3.out)
  have AP := hide (fun ty => append_any (HT.out.bel RN.out.1) RN.out.1 RN.out.2 (by omega) ty)
  clear RN
  go_upto_region 6 with (first | (at_builtin; refine wpList_appG (TS := 22) (.tmp 20) (.tmp 21) _ _ _ AP.out rfl rfl rfl rfl ?_; rintro u w4 ⟨bU, cU, rfl, m4⟩; have M4 := hide m4; clear m4 AP))
  have TI := hide (SlE.own M4.out.row)
  have B4 := hide M4.out.bel
  clear M4 B3
  cases hF : formT T with
  | false =>
    have CB := hide (races_bad (vR := .slice aR R.length cR) TI.out (HE.out.bel B4.out) hF (by omega))
    go_wp2_with (first | (go_at_call 15; refine CB.out.mono ?_; rintro e w5 ⟨rfl, b5⟩; have B45 := hide b5; have B5 := hide (bel_trans B4.out b5); clear b5 CB))
    go_loopw [31] (fun x31 wr => ∃ k : Nat, k ≤ T.length ∧ x31 = .int .i64 (k : Nat) ∧ Hid (Below w5.heap.size w5 wr)) (fun x31 _ => T.length - (intOf x31).toNat)
    case atStart => exact ⟨0, Nat.zero_le _, rfl, hide (Below.refl _ _)⟩
    case round =>
      obtain ⟨k, hk, rfl, hI⟩ := hrel
      by_cases hlt : k < T.length
      · have hlt' : (k : Int) < (T.length : Int) := by omega
        obtain ⟨b, o, eU, _, s0, s1, s2, s3⟩ := (TI.out.bel (bel_trans B45.out hI.out)).at k hlt
        injection eU with eU
        injection eU with eU1 eU2 _
        subst eU1 eU2
        obtain ⟨b', o', rfl, _, t0, t1, t2, t3⟩ := (HT.out.bel (bel_trans B5.out hI.out)).at k hlt
        generalize T.getD k zE = x at *
        obtain ⟨xg, xk, xo, xa⟩ := x
        simp only [Nat.zero_add] at s0 s1 s2 s3 t0 t1 t2 t3
        have EQ : ∀ w, (binOp .neq 47 (.agg #[.int .i64 xg, .int .i64 xk, .int .i64 xo, .int .i64 xa]) (.agg #[.int .i64 xg, .int .i64 xk, .int .i64 xo, .int .i64 xa])).run Tryd.prog w = .ok (.bool false) w := fun w => by
          rw [neq_ev]
          simp
        go_upto_region 10 with fail
        go_quiet (fail)
        have B2 := hide (below_drewN hI.out nq)
        go_wp2_with fail
        go_roundw
        case rel => exact ⟨k + 1, by omega, by go_num, B2⟩
        case measure => simp [intOf]; omega
      · obtain rfl : k = T.length := by omega
        have B6 := hide (bel_trans B5.out hI.out)
        have FM := hide (rform18_any (HT.out.bel B6.out) (by omega))
        rw [hF] at FM
        have NM := hide (fun wz (hz : Below w.heap.size w wz) => num_err p 0 wz (H17.out.below (Nat.le_refl _) hz) (by omega))
        rw [show (((0 : Nat) : Int) + 1) = 1 from rfl] at NM
        clear hI
        go_wp2_with (first | (go_at_call 10; refine FM.out.mono ?_; rintro e w7 ⟨rfl, b7⟩; have B7 := hide (bel_trans B6.out b7); clear b7))
        refine (NM.out _ B7.out).mono ?_
        rintro e w8 ⟨rfl, b8⟩
        have B8 := hide (bel_trans B7.out b8)
        clear b8
        go_wp2_with fail
        go_ret
        exact ⟨rfl, B8.out⟩
  | true =>
    have CB := hide (races_any TI.out (HR.out.bel B4.out) (HE.out.bel B4.out) hF HW.out (by omega))
    have RL := hide (race_len T (pastsM R T) T.length)
    rw [show (raceF T (pastsM R T) T.length).1 = racesM R T from rfl] at RL
    go_wp2_with (first | (go_at_call 15; refine CB.out.mono ?_; rintro e w5 ⟨v5, rfl, b5, l5, ⟨p5, r5⟩, o5⟩; obtain ⟨a5, c5, rfl, _⟩ := own_slice o5; have S5 := hide (SlR.own o5); have L5 := hide (races_doc R hF (by omega) p5 r5); have N5 := hide p5.length_eq; have B45 := hide b5; have B5 := hide (bel_trans B4.out b5); clear b5 CB p5 r5 o5))
    go_loopw [31] (fun x31 wr => ∃ k : Nat, k ≤ T.length ∧ x31 = .int .i64 (k : Nat) ∧ Hid (Below w5.heap.size w5 wr)) (fun x31 _ => T.length - (intOf x31).toNat)
    case atStart => exact ⟨0, Nat.zero_le _, rfl, hide (Below.refl _ _)⟩
    case round =>
      obtain ⟨k, hk, rfl, hI⟩ := hrel
      by_cases hlt : k < T.length
      · have hlt' : (k : Int) < (T.length : Int) := by omega
        obtain ⟨b, o, eU, _, s0, s1, s2, s3⟩ := (TI.out.bel (bel_trans B45.out hI.out)).at k hlt
        injection eU with eU
        injection eU with eU1 eU2 _
        subst eU1 eU2
        obtain ⟨b', o', rfl, _, t0, t1, t2, t3⟩ := (HT.out.bel (bel_trans B5.out hI.out)).at k hlt
        generalize T.getD k zE = x at *
        obtain ⟨xg, xk, xo, xa⟩ := x
        simp only [Nat.zero_add] at s0 s1 s2 s3 t0 t1 t2 t3
        have EQ : ∀ w, (binOp .neq 47 (.agg #[.int .i64 xg, .int .i64 xk, .int .i64 xo, .int .i64 xa]) (.agg #[.int .i64 xg, .int .i64 xk, .int .i64 xo, .int .i64 xa])).run Tryd.prog w = .ok (.bool false) w := fun w => by
          rw [neq_ev]
          simp
        go_upto_region 10 with fail
        go_quiet (fail)
        have B2 := hide (below_drewN hI.out nq)
        go_wp2_with fail
        go_roundw
        case rel => exact ⟨k + 1, by omega, by go_num, B2⟩
        case measure => simp [intOf]; omega
      · obtain rfl : k = T.length := by omega
        have B6 := hide (bel_trans B5.out hI.out)
        have S6 := hide (S5.out.bel hI.out)
        have FM := hide (rform18_any (HT.out.bel B6.out) (by omega))
        rw [hF] at FM
        have BD := hide (fun wz (hz : Below w.heap.size w wz) => before_doc (HT.out.bel hz) (HR.out.bel hz) (by omega))
        have l8 : l5.length ≤ 100000 := by
          have h1 := N5.out
          have h2 := RL.out
          omega
        clear hI S5
        go_wp2_with (first | (go_at_call 10; refine FM.out.mono ?_; rintro e w7 ⟨rfl, b7⟩; have B7 := hide (bel_trans B6.out b7); have S7 := hide (S6.out.bel b7); clear b7) | (go_at_call 12; refine (BD.out _ B7.out).mono ?_; rintro e w8 ⟨q, BB, rfl, b8, m8⟩; have B8 := hide (bel_trans B7.out b8); have S8 := hide (S7.out.bel b8); have M8 := hide m8; clear b8 m8) | (go_at_call 16; refine (rraces_any (HT.out.bel B8.out) M8.out HW.out (by omega)).mono ?_; rintro e w9 ⟨v9, rfl, b9, s9⟩; obtain ⟨a9, c9, e9, _⟩ := s9.form; rw [← L5.out] at e9 s9; subst e9; have B9 := hide (bel_trans B8.out b9); have S9 := hide (S8.out.bel b9); have X9 := hide s9; clear b9 s9) | (go_at_call 17; refine (same_ref18Same S9.out X9.out l8).mono ?_; rintro e w10 ⟨rfl, b10⟩; have B10 := hide (bel_trans B9.out b10); have S10 := hide (S9.out.bel b10); have X10 := hide (X9.out.bel b10); clear b10) | (go_at_call 18; refine (orderSame_any S10.out X10.out l8).mono ?_; rintro e w11 ⟨rfl, b11⟩; have B11 := hide (bel_trans B10.out b11); clear b11))
        go_ret
        exact ⟨rfl, B11.out⟩
end Go.Proofs.YticgmebbnnmikaaDoor.Ck

/- From an argument's reading to the list that it holds. -/
namespace Go.Proofs.YticgmebbnnmikaaDoor.Ck
open Go.ChangeShapes Go.WideShapes Go.ChangeAt Go.RowKit

theorem block_lt {W : World} {a : Addr} {v : Value} (hc : W.cell? a = some v) : a.block < W.heap.size := by
  rcases Nat.lt_or_ge a.block W.heap.size with h' | h'
  · exact h'
  · simp [World.cell?, Array.getElem?_eq_none h'] at hc
theorem wf_i64 {z : Int} (h : (Lit.int .i64 z).wf = true) : -9223372036854775808 ≤ z ∧ z ≤ 9223372036854775807 := by
  have := bounds_i64 h
  omega

theorem add_plain (b off i : Nat) : (Addr.mk b off none).add i = ⟨b, off + i, none⟩ := by
  unfold Addr.add
  by_cases h : i = 0 <;> simp [h]

theorem sl_open {H : Type} {enc : TypeId × Value → H} {W : World} {a : Option Addr} {len cap : Nat} {d : DataW H} {p : List MemPlace}
    (h : DataW.Trod enc Tryd.prog W 0 (fun _ => true) true 23 (.slice a len cap) d p) : ∃ zs, Sl W (.slice a len cap) zs := by
  obtain ⟨fuel, hf⟩ := h
  rcases open_ints Tryd.underlying23 Tryd.underlying3 (by kernel_rfl) hf with ⟨hcs, _⟩ | ⟨x, l, c, zs, hcs, _, hl, hm, hz, _, hcell, hwz⟩
  · simp [Value.cells] at hcs
    obtain ⟨rfl, rfl, rfl⟩ := hcs
    exact ⟨[], Sl.nilS W⟩
  · simp [Value.cells] at hcs
    obtain ⟨rfl, rfl, rfl⟩ := hcs
    have hz' : zs.length = cap := by simpa using hz
    have hlen : (zs.take len).length = len := by simp; omega
    refine ⟨zs.take len, fun z hm' => wf_i64 (hwz z (List.mem_of_mem_take hm')), some x, cap, by rw [hlen], by omega, hm, fun i hi => ?_⟩
    rw [hlen] at hi
    have hc := hcell i (by omega)
    obtain ⟨b, off, spot⟩ := x
    have hspot : spot = none := by simpa [Addr.add] using World.cell?_spot (hcell 0 (by omega))
    subst hspot
    rw [add_plain] at hc
    refine ⟨b, off, rfl, block_lt hc, ?_⟩
    have e : (zs.take len).getD i 0 = zs.getD i 0 := by simp [List.getD, hi]
    rw [e]
    exact hc

end Go.Proofs.YticgmebbnnmikaaDoor.Ck

/- A slice that is handed in, as a list of what its elements are. -/
namespace Go.Proofs.YticgmebbnnmikaaDoor.Ck
open Go.ChangeShapes Go.WideShapes Go.ChangeAt Go.RowKit

theorem cells_at {W : World} {ad : Addr} {n : Nat} {cs : List Value} (h : W.cells? 0 ad n = some cs) (i : Nat) (hi : i < n) : W.cell? (ad.add i) = cs[i]? := by
  unfold World.cells? at h
  rw [if_pos (Nat.zero_le _)] at h
  exact mapM_some_get h i i (by rw [List.getElem?_range hi])
theorem cells_len {W : World} {ad : Addr} {n : Nat} {cs : List Value} (h : W.cells? 0 ad n = some cs) : cs.length = n := by
  unfold World.cells? at h
  rw [if_pos (Nat.zero_le _)] at h
  simpa using mapM_some_length h
set_option maxRecDepth 100000 in
theorem rows_of {α : Type} (d0 : α) {H : Type} {enc : TypeId × Value → H} {W : World} {TS T : TypeId} {n fuel : Nat} {v : Value} {x : DataW H × List MemPlace} (hu : Tryd.prog.underlying TS = some (.slice T)) (hc : Tryd.prog.cellsOf T = n) (hn : 0 < n) (Q : α → List Value → Prop)
    (hP : ∀ (f : Nat) (cs : List Value) (y : DataW H × List MemPlace), f < fuel → DataW.trod enc Tryd.prog W 0 (fun _ => true) true f T cs = some y → ∃ x, Q x cs) (h : DataW.trod enc Tryd.prog W 0 (fun _ => true) true fuel TS [v] = some x) :
    ∃ (a : Option Addr) (cap : Nat) (l : List α), v = .slice a l.length cap ∧ l.length ≤ cap ∧ cap ≤ maxLen ∧ ∀ (i : Nat) (y : α), l[i]? = some y → ∃ (b o : Nat) (cs : List Value), a = some ⟨b, o, none⟩ ∧ b < W.heap.size ∧ Q y cs ∧ cs.length = n ∧ ∀ (j : Nat) (u : Value), cs[j]? = some u → W.cell? ⟨b, o + i * n + j, none⟩ = some u := by
  rcases DataW.trod_slice hu h with ⟨e, _⟩ | ⟨a, len, cap, elems, rest, m, hm, e, _, _, hl1, hl2, hl3, hel, _⟩
  · simp at e
    subst e
    exact ⟨none, 0, [], rfl, Nat.le_refl _, Nat.zero_le _, fun i y hy => by simp at hy⟩
  · simp at e
    subst e
    have key : ∀ i, i < len → ∃ (y : α) (b o : Nat) (cs : List Value), some a = some ⟨b, o, none⟩ ∧ b < W.heap.size ∧ Q y cs ∧ cs.length = n ∧ ∀ (j : Nat) (u : Value), cs[j]? = some u → W.cell? ⟨b, o + i * n + j, none⟩ = some u := fun i hi => by
      have h9 := hel i hi
      rw [List.getElem?_eq_getElem (show i < elems.length by omega), hc] at h9
      cases hcs : W.cells? 0 (a.add (i * n)) n with
      | none => rw [hcs] at h9; cases h9
      | some cs =>
        rw [hcs] at h9
        obtain ⟨y, hy⟩ := hP m cs _ (by omega) h9
        have hlen := cells_len hcs
        have hcell : ∀ k, k < n → W.cell? (a.add (i * n + k)) = cs[k]? := fun k hk => by
          rw [← cells_at hcs k hk, Go.Deep.add_add]
        obtain ⟨c0, hc0⟩ : ∃ c, cs[0]? = some c := ⟨_, List.getElem?_eq_getElem (by omega)⟩
        obtain ⟨b, off, spot⟩ := a
        have hspot : spot = none := by
          have h8 := hel 0 (by omega)
          rw [List.getElem?_eq_getElem (show 0 < elems.length by omega), hc] at h8
          cases hz : W.cells? 0 ((Addr.mk b off spot).add (0 * n)) n with
          | none => rw [hz] at h8; cases h8
          | some zs =>
            have h7 := cells_at hz 0 hn
            rw [List.getElem?_eq_getElem (show 0 < zs.length by rw [cells_len hz]; exact hn)] at h7
            simpa [Addr.add] using World.cell?_spot h7
        subst hspot
        have h0 := (hcell 0 hn).trans hc0
        rw [add_plain] at h0
        refine ⟨y, b, off, cs, rfl, block_lt h0, hy, hlen, fun j u hu => ?_⟩
        have hj := (List.getElem?_eq_some_iff.1 hu).1
        have := (hcell j (by omega)).trans hu
        rw [add_plain] at this
        rw [Nat.add_assoc]
        exact this
    have hch : ∃ fn : Nat → α, ∀ i, i < len → ∃ (b o : Nat) (cs : List Value), some a = some ⟨b, o, none⟩ ∧ b < W.heap.size ∧ Q (fn i) cs ∧ cs.length = n ∧ ∀ (j : Nat) (u : Value), cs[j]? = some u → W.cell? ⟨b, o + i * n + j, none⟩ = some u :=
      ⟨fun i => if h : i < len then Classical.choose (key i h) else d0, fun i hi => by dsimp only; rw [dif_pos hi]; exact Classical.choose_spec (key i hi)⟩
    obtain ⟨fn, hfn⟩ := hch
    refine ⟨some a, cap, (List.range len).map fn, by simp, by simpa using hl1, hl2, fun i y hy => ?_⟩
    obtain ⟨hj1, hj2⟩ := List.getElem?_eq_some_iff.1 hy
    simp at hj1 hj2
    rw [← hj2]
    exact hfn i hj1
theorem sl_of {H : Type} {enc : TypeId × Value → H} {W : World} {fuel : Nat} {v : Value} {x : DataW H × List MemPlace} (h : DataW.trod enc Tryd.prog W 0 (fun _ => true) true fuel 23 [v] = some x) : ∃ zs, Sl W v zs := by
  rcases DataW.trod_slice Tryd.underlying23 h with ⟨e, _⟩ | ⟨a, len, cap, elems, rest, m, hm, e, _⟩
  · simp at e
    subst e
    exact ⟨[], Sl.nilS W⟩
  · simp at e
    subst e
    exact sl_open (d := x.1) (p := x.2) ⟨fuel, h⟩
end Go.Proofs.YticgmebbnnmikaaDoor.Ck

/- Traces that are handed in. -/
namespace Go.Proofs.YticgmebbnnmikaaDoor.Ck
open Go.ChangeShapes Go.WideShapes Go.ChangeAt Go.RowKit

section
variable {H : Type} {enc : TypeId × Value → H} {W : World} {fuel : Nat} {v : Value} {cs : List Value} {x : DataW H × List MemPlace}
set_option maxRecDepth 100000 in
theorem ev_of (h : DataW.trod enc Tryd.prog W 0 (fun _ => true) true fuel 47 cs = some x) : ∃ c : Ev, cs = evC c ∧ EvW c := by
  obtain ⟨xs, f, hfu, _, hl, hlen, hf⟩ := DataW.trod_struct Tryd.underlying47 h
  rw [show Tryd.prog.cellsOf 47 = 4 by kernel_rfl] at hl
  clear h
  have hx : xs.length = 4 := hlen
  match cs, hl with
  | [c0, c1, c2, c3], _ =>
    have h0 : DataW.trod enc Tryd.prog W 0 (fun _ => true) true f 3 (([c0, c1, c2, c3].drop 0).take (Tryd.prog.cellsOf 3)) = xs[0]? := hf 0 _ rfl
    have h1 : DataW.trod enc Tryd.prog W 0 (fun _ => true) true f 3 (([c0, c1, c2, c3].drop 1).take (Tryd.prog.cellsOf 3)) = xs[1]? := hf 1 _ rfl
    have h2 : DataW.trod enc Tryd.prog W 0 (fun _ => true) true f 3 (([c0, c1, c2, c3].drop 2).take (Tryd.prog.cellsOf 3)) = xs[2]? := hf 2 _ rfl
    have h3 : DataW.trod enc Tryd.prog W 0 (fun _ => true) true f 3 (([c0, c1, c2, c3].drop 3).take (Tryd.prog.cellsOf 3)) = xs[3]? := hf 3 _ rfl
    clear hf
    simp only [show Tryd.prog.cellsOf 3 = 1 by kernel_rfl, List.drop_zero, List.drop_succ_cons, List.take_succ_cons, List.take_zero] at h0 h1 h2 h3
    rw [List.getElem?_eq_getElem (by omega)] at h0 h1 h2 h3
    obtain ⟨z0, q0, _, s0⟩ := DataW.trod_int Tryd.underlying3 h0
    obtain ⟨z1, q1, _, s1⟩ := DataW.trod_int Tryd.underlying3 h1
    obtain ⟨z2, q2, _, s2⟩ := DataW.trod_int Tryd.underlying3 h2
    obtain ⟨z3, q3, _, s3⟩ := DataW.trod_int Tryd.underlying3 h3
    simp at q0 q1 q2 q3
    subst q0 q1 q2 q3
    exact ⟨⟨z0, z1, z2, z3⟩, rfl, wf_i64 s0, wf_i64 s1, wf_i64 s2, wf_i64 s3⟩
theorem evs_of (h : DataW.trod enc Tryd.prog W 0 (fun _ => true) true fuel 22 [v] = some x) : ∃ T, SlE W v T ∧ ∀ e ∈ T, EvW e := by
  obtain ⟨a, cap, l, e, h1, h2, h3⟩ := rows_of zE Tryd.underlying22 (show Tryd.prog.cellsOf 47 = 4 by kernel_rfl) (by omega) (fun (c : Ev) cs => cs = evC c ∧ EvW c) (fun f cs y _ hy => ev_of hy) h
  refine ⟨l, ⟨a, cap, e, h1, h2, fun i hi => ?_⟩, fun y hy => ?_⟩
  · obtain ⟨b, o, cs, ea, hb, ⟨rfl, _⟩, _, hc⟩ := h3 i _ (List.getElem?_eq_getElem hi)
    have e2 : l.getD i zE = l[i] := by simp [List.getD, hi]
    rw [e2]
    exact ⟨b, o, ea, hb, hc 0 _ rfl, hc 1 _ rfl, hc 2 _ rfl, hc 3 _ rfl⟩
  · obtain ⟨i, hi, rfl⟩ := List.mem_iff_getElem.1 hy
    obtain ⟨b, o, cs, ea, hb, ⟨_, hr⟩, _⟩ := h3 i _ (List.getElem?_eq_getElem hi)
    exact hr
theorem objs_of {T : List Ev} (h : ∀ e ∈ T, EvW e) (k : Nat) (hk : k < T.length) : wfI (T.getD k zE).o := by
  have := h (T.getD k zE) (by rw [List.getD_eq_getElem?_getD, List.getElem?_eq_getElem hk]; exact List.getElem_mem _)
  exact this.2.2.1
set_option maxRecDepth 100000 in
theorem ask_of (h : DataW.trod enc Tryd.prog W 0 (fun _ => true) true fuel 25 cs = some x) : ∃ vT vR T R A B, cs = [vT, vR, .int .i64 A, .int .i64 B] ∧ SlE W vT T ∧ Sl W vR R ∧ ∀ k, k < T.length → wfI (T.getD k zE).o := by
  obtain ⟨xs, f, hfu, _, hl, hlen, hf⟩ := DataW.trod_struct Tryd.underlying25 h
  rw [show Tryd.prog.cellsOf 25 = 4 by kernel_rfl] at hl
  clear h
  have hx : xs.length = 4 := hlen
  match cs, hl with
  | [c0, c1, c2, c3], _ =>
    have h0 : DataW.trod enc Tryd.prog W 0 (fun _ => true) true f 22 (([c0, c1, c2, c3].drop 0).take (Tryd.prog.cellsOf 22)) = xs[0]? := hf 0 _ rfl
    have h1 : DataW.trod enc Tryd.prog W 0 (fun _ => true) true f 23 (([c0, c1, c2, c3].drop 1).take (Tryd.prog.cellsOf 23)) = xs[1]? := hf 1 _ rfl
    have h2 : DataW.trod enc Tryd.prog W 0 (fun _ => true) true f 3 (([c0, c1, c2, c3].drop 2).take (Tryd.prog.cellsOf 3)) = xs[2]? := hf 2 _ rfl
    have h3 : DataW.trod enc Tryd.prog W 0 (fun _ => true) true f 3 (([c0, c1, c2, c3].drop 3).take (Tryd.prog.cellsOf 3)) = xs[3]? := hf 3 _ rfl
    clear hf
    simp only [show Tryd.prog.cellsOf 3 = 1 by kernel_rfl, show Tryd.prog.cellsOf 23 = 1 by kernel_rfl, show Tryd.prog.cellsOf 22 = 1 by kernel_rfl, List.drop_zero, List.drop_succ_cons, List.take_succ_cons, List.take_zero] at h0 h1 h2 h3
    rw [List.getElem?_eq_getElem (by omega)] at h0 h1 h2 h3
    obtain ⟨z2, q2, _⟩ := DataW.trod_int Tryd.underlying3 h2
    obtain ⟨z3, q3, _⟩ := DataW.trod_int Tryd.underlying3 h3
    simp at q2 q3
    subst q2 q3
    obtain ⟨T, hT, wT⟩ := evs_of h0
    obtain ⟨R, hR⟩ := sl_of h1
    exact ⟨c0, c1, T, R, z2, z3, rfl, hT, hR, objs_of wT⟩
end
theorem ask_open {H : Type} {enc : TypeId × Value → H} {W : World} {a : Array Value} {d : DataW H} {p : List MemPlace} (h : DataW.Trod enc Tryd.prog W 0 (fun _ => true) true 25 (.agg a) d p) :
    ∃ vT vR T R A B, Value.agg a = .agg #[vT, vR, .int .i64 A, .int .i64 B] ∧ SlE W vT T ∧ Sl W vR R ∧ ∀ k, k < T.length → wfI (T.getD k zE).o := by
  obtain ⟨fuel, h⟩ := h
  obtain ⟨vT, vR, T, R, A, B, e, h1⟩ := ask_of h
  refine ⟨vT, vR, T, R, A, B, ?_, h1⟩
  congr 1
  have e' : a.toList = [vT, vR, .int .i64 A, .int .i64 B] := e
  rw [← Array.toArray_toList (xs := a), e']
theorem evs_open {H : Type} {enc : TypeId × Value → H} {W : World} {v : Value} {d : DataW H} {p : List MemPlace} (hv : ∃ a l c, v = .slice a l c) (h : DataW.Trod enc Tryd.prog W 0 (fun _ => true) true 22 v d p) : ∃ T, SlE W v T ∧ ∀ k, k < T.length → wfI (T.getD k zE).o := by
  obtain ⟨fuel, h⟩ := h
  obtain ⟨a, l, c, rfl⟩ := hv
  obtain ⟨T, hT, wT⟩ := evs_of (v := .slice a l c) (by simpa [Value.cells] using h)
  exact ⟨T, hT, objs_of wT⟩
end Go.Proofs.YticgmebbnnmikaaDoor.Ck
