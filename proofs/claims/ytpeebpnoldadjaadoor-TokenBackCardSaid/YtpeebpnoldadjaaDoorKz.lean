/- Tokens read again: no Go text is walked here. -/
import Derived.Test.YtpeebpnoldadjaaDoorBz
import Derived.Test.YtpeebpnoldadjaaDoorLawInts
import Derived.Test.YtpeebpnoldadjaaDoorFz
namespace Go.Proofs.YtpeebpnoldadjaaDoor.Ck
open Go.RowKit

theorem overF_stops (p : Int → Bool) (s : ByteArray) (i : Nat) (h : i ≤ s.size) : overF p s i = s.size ∨ p (byte s (overF p s i)) = false := by
  by_cases hi : i < s.size
  · by_cases hp : p (byte s i) = true
    · rw [overF_pos p s i hi hp]
      exact overF_stops p s (i + 1) hi
    · have hp : p (byte s i) = false := by simpa using hp
      rw [overF_stop p s i hp]
      exact .inr hp
  · rw [overF_end p s i hi]
    exact .inl (by omega)
termination_by s.size - i

/-- d is s's bytes from a on, up to c -/
structure Cu (s d : ByteArray) (a c : Nat) : Prop where
  byt : ∀ k, k < c - a → byte d k = byte s (a + k)
  siz : d.size = c - a
  le : a ≤ c
  top : c ≤ s.size
theorem Cu.mk' {s : ByteArray} {a c : Nat} (h1 : a ≤ c) (h2 : c ≤ s.size) : Cu s (s.extract a c) a c := by
  have hz : (s.extract a c).size = c - a := by rw [ByteArray.size_extract]; omega
  refine ⟨fun k hk => ?_, hz, h1, h2⟩
  have e1 : s.data.toList.length = s.size := rfl
  have e2 : (s.extract a c).data.toList.length = (s.extract a c).size := rfl
  rw [byte_list _ k (by omega), byte_list s (a + k) (by omega)]
  simp only [cut_list]
  rw [List.getElem_take, List.getElem_drop]
theorem Cu.overF {s d : ByteArray} {a c : Nat} (h : Cu s d a c) (p : Int → Bool) (i : Nat) (hi : a + i ≤ c) (hc : overF p s (a + i) ≤ c) : overF p d i = overF p s (a + i) - a := by
  have hge := overF_ge p s (a + i)
  have hz := h.siz
  have ht := h.top
  refine overF_eq (by omega) (by omega) (fun k h1 h2 => ?_) ?_
  · rw [h.byt k (by omega)]
    exact overF_all p s (a + i) (a + k) (by omega) (by omega)
  · by_cases he : Ck.overF p s (a + i) = c
    · exact .inl (by omega)
    · right
      rw [h.byt _ (by omega), show a + (Ck.overF p s (a + i) - a) = Ck.overF p s (a + i) by omega]
      rcases overF_stops p s (a + i) (by omega) with h1 | h1
      · omega
      · exact h1
theorem comm_two {s : ByteArray} {x : Nat} (h : comm s x = true) : x + 2 ≤ Ck.overF notNl s x := by
  have hl := comm_lt h
  unfold comm at h
  simp only [Bool.and_eq_true, beq_iff_eq] at h
  rw [overF_pos notNl s x (by omega) (by rw [h.2.1]; decide)]
  exact overF_lt notNl s (x + 1) (by omega) (by rw [h.2.2]; decide)
theorem Cu.skipC {s d : ByteArray} {a c : Nat} (h : Cu s d a c) (x : Nat) (hx : a ≤ x) (hc : skipC s x = c) : skipC d (x - a) = c - a := by
  have hz := h.siz
  by_cases hm : comm s x = true
  · have h1 := pastC_gt hm
    have h2 := comm_lt hm
    have h3 := comm_two hm
    rw [skipC_yes hm] at hc
    have h4 := skipC_ge s (pastC s x)
    have h5 : Ck.overF notNl s x ≤ pastC s x := overF_ge _ _ _
    have hm2 : comm d (x - a) = true := by
      have hm' := hm
      unfold comm at hm' ⊢
      simp only [Bool.and_eq_true, beq_iff_eq] at hm' ⊢
      refine ⟨decide_eq_true (by omega), ?_, ?_⟩
      · rw [h.byt _ (by omega), show a + (x - a) = x by omega]; exact hm'.2.1
      · rw [h.byt _ (by omega), show a + (x - a + 1) = x + 1 by omega]; exact hm'.2.2
    have e1 : Ck.overF notNl d (x - a) = Ck.overF notNl s x - a := by
      have := h.overF notNl (x - a) (by omega) (by rw [show a + (x - a) = x by omega]; omega)
      rw [show a + (x - a) = x by omega] at this
      exact this
    have e2 : pastC d (x - a) = pastC s x - a := by
      have := h.overF isBlank (Ck.overF notNl s x - a) (by omega) (by rw [show a + (Ck.overF notNl s x - a) = Ck.overF notNl s x by omega]; exact (show pastC s x ≤ c by omega))
      rw [show a + (Ck.overF notNl s x - a) = Ck.overF notNl s x by omega] at this
      unfold pastC
      rw [e1, this]
    rw [skipC_yes hm2, e2]
    exact h.skipC (pastC s x) (by omega) hc
  · have hm : comm s x = false := by simpa using hm
    rw [skipC_no hm] at hc
    subst hc
    refine skipC_no ?_
    unfold comm
    rw [decide_eq_false (by omega)]
    rfl
termination_by s.size - x
/-- what stands between two tokens is none -/
theorem between {s : ByteArray} {a : Nat} (ha : a ≤ s.size) : readF (s.extract a (blF s a)) = .ok [] := by
  have hC : Cu s (s.extract a (blF s a)) a (blF s a) := Cu.mk' (blF_ge s a) (blF_le s a ha)
  have h1 : Ck.overF isBlank s a ≤ blF s a := skipC_ge _ _
  have h2 := overF_ge isBlank s a
  have e1 := hC.overF isBlank 0 (by have := blF_ge s a; omega) (by simpa using h1)
  have e2 := hC.skipC (Ck.overF isBlank s a) h2 rfl
  rw [Nat.add_zero] at e1
  have e3 : blF (s.extract a (blF s a)) 0 = (s.extract a (blF s a)).size := by
    show Ck.skipC _ (Ck.overF isBlank (s.extract a (blF s a)) 0) = _
    rw [e1, e2, hC.siz]
  unfold readF
  rw [e3, rdF_end (Nat.lt_irrefl _)]

/-- a token stands behind blanks from byte a on -/
structure Link (s : ByteArray) (a : Nat) (t : Tk) (e : Nat) : Prop where
  pos : t.pos = blF s a
  le : a ≤ t.pos
  lt : t.pos < s.size
  tok : tokF s t.pos = .ok t e
  fin : e = t.pos + t.text.size
  text : t.text = s.extract t.pos e
  gt : t.pos < e
  top : e ≤ s.size
inductive Chain (s : ByteArray) : Nat → List Tk → Prop
  | nil (a : Nat) : Chain s a []
  | cons {a : Nat} {t : Tk} {e : Nat} {r : List Tk} (h : Link s a t e) (hr : Chain s e r) : Chain s a (t :: r)
theorem link_of {s : ByteArray} {a : Nat} {t : Tk} {e : Nat} (h : blF s a < s.size) (ht : tokF s (blF s a) = .ok t e) : Link s a t e := by
  obtain ⟨hp, hx⟩ := tokF_pos ht
  have h1 := tokF_ok h ht
  have hz : t.text.size = e - blF s a := by rw [hx, cut_size h1.2]
  refine ⟨hp, by rw [hp]; exact blF_ge s a, by rw [hp]; exact h, by rw [hp]; exact ht, by rw [hz, hp]; omega, by rw [hp]; exact hx, by rw [hp]; exact h1.1, h1.2⟩
theorem rdF_chain {s : ByteArray} {a : Nat} {acc ts : List Tk} (h : rdF s (blF s a) acc = .ok ts) : ∃ us, ts = acc ++ us ∧ Chain s a us ∧ (acc.length ≤ 2000 → ts.length ≤ 2000) := by
  by_cases h1 : blF s a < s.size
  · by_cases h2 : acc.length = 2000
    · rw [rdF_full h1 h2] at h
      cases h
    · cases hq : tokF s (blF s a) with
      | bad k' j' =>
        rw [rdF_bad h1 h2 hq] at h
        cases h
      | ok t e =>
        have hL := link_of h1 hq
        have h3 := hL.gt
        have h5 := hL.le
        have h6 := hL.top
        rw [rdF_step h1 h2 hq] at h
        obtain ⟨us, e1, e2, e3⟩ := rdF_chain h
        refine ⟨t :: us, by rw [e1, List.append_assoc]; rfl, .cons hL e2, fun hl => e3 (by rw [List.length_append, List.length_singleton]; omega)⟩
  · rw [rdF_end h1] at h
    cases h
    exact ⟨[], by simp, .nil a, fun h => h⟩
termination_by s.size - a
theorem readF_chain {s : ByteArray} {ts : List Tk} (h : readF s = .ok ts) : Chain s 0 ts ∧ ts.length ≤ 2000 := by
  obtain ⟨us, e1, e2, e3⟩ := rdF_chain h
  rw [List.nil_append] at e1
  rw [e1] at e3 ⊢
  exact ⟨e2, e3 (Nat.zero_le _)⟩

/-- where the next token is looked for -/
def endOf (ts : List Tk) : Nat → Nat
  | 0 => 0
  | j + 1 => (ts.getD j noTk).pos + (ts.getD j noTk).text.size
theorem Chain.at : ∀ {s : ByteArray} {a : Nat} {ts : List Tk} (_ : Chain s a ts) (j : Nat), j < ts.length → ∃ e, Link s (if j = 0 then a else endOf ts j) (ts.getD j noTk) e
  | _, _, [], _, _, h => absurd h (Nat.not_lt_zero _)
  | _, _, t :: r, .cons hL hr, 0, _ => ⟨_, hL⟩
  | _, _, t :: r, .cons hL hr, j + 1, h => by
    obtain ⟨e, he⟩ := hr.at j (by simpa using h)
    refine ⟨e, ?_⟩
    have e1 : (t :: r).getD (j + 1) noTk = r.getD j noTk := by simp
    rw [e1]
    cases j with
    | zero =>
      simp only [if_true] at he
      simp only [Nat.succ_ne_zero, if_false]
      rw [show endOf (t :: r) 1 = t.pos + t.text.size from rfl, ← hL.fin]
      exact he
    | succ j =>
      simp only [Nat.succ_ne_zero, if_false] at he ⊢
      exact he

theorem not_word32 : isWord 32 = false := by decide
/-- a token is read again wherever its text stands apart -/
theorem retok {s T : ByteArray} {i e o : Nat} {t : Tk} (hi : i < s.size) (ht : tokF s i = .ok t e) (hb : ∀ k, k < e - i → byte T (o + k) = byte s (i + k)) (ho : o + (e - i) ≤ T.size)
    (hs : o + (e - i) = T.size ∨ byte T (o + (e - i)) = 32) (hx : cut T o (o + (e - i)) = t.text) (hx1 : cut T (o + 1) (o + (e - i)) = cut s (i + 1) e) : tokF T o = .ok ⟨t.kind, t.text, t.n, t.bits, o⟩ (o + (e - i)) := by
  have hge := tokF_ok hi ht
  have hb0 : byte T o = byte s i := by have := hb 0 (by omega); simpa using this
  have htight : tight T (o + (e - i)) = false := by
    unfold tight
    rcases hs with h | h
    · rw [decide_eq_false (by omega)]; rfl
    · rw [h, not_word32, Bool.and_false]
  unfold tokF at ht ⊢
  rw [hb0]
  split at ht
  · rename_i h1
    rw [if_pos h1]
    have hstop : o + (e - i) = T.size ∨ isWord (byte T (o + (e - i))) = false := hs.imp (fun h => h) (fun h => by rw [h]; exact not_word32)
    unfold wordF at ht
    split at ht
    · cases ht
    · rename_i h24
      injection ht with h2 h3
      subst h3
      have eo : overF isWord T o = o + (overF isWord s i - i) := overF_eq (by omega) ho (fun k h4 h5 => by
        have := hb (k - o) (by omega)
        rw [show o + (k - o) = k by omega] at this
        rw [this]
        exact overF_all isWord s i (i + (k - o)) (by omega) (by omega)) hstop
      unfold wordF
      rw [eo, show o + (overF isWord s i - i) - o = overF isWord s i - i by omega, if_neg h24, hx, ← h2]
  · rename_i h1
    rw [if_neg h1]
    split at ht
    · rename_i hd
      rw [if_pos hd]
      have hstop : o + (e - i) = T.size ∨ isDigit (byte T (o + (e - i))) = false := hs.imp (fun h => h) (fun h => by rw [h]; decide)
      rw [intF_rest] at ht ⊢
      have hr := ht
      unfold rest at hr
      cases hA : Lib.atoiAll (cut s i (endI s i)).data.toList with
      | «syntax» => rw [hA] at hr; cases hr
      | range => rw [hA] at hr; cases hr
      | ok v =>
        rw [hA] at hr
        simp only at hr
        split at hr
        · cases hr
        · injection hr with h2 h3
          subst h3
          have eo : endI T o = o + (endI s i - i) := by
            unfold endI at hge hs ho hb hstop ⊢
            rw [hb0]
            by_cases h48 : byte s i = 48
            · rw [if_pos h48, if_pos h48]; omega
            · rw [if_neg h48] at hge hs ho hb hstop ⊢
              rw [if_neg h48]
              exact overF_eq (by omega) ho (fun k h4 h5 => by
                have := hb (k - o) (by omega)
                rw [show o + (k - o) = k by omega] at this
                rw [this]
                exact overF_all isDigit s i (i + (k - o)) (by omega) (by omega)) hstop
          have hxt : cut s i (endI s i) = t.text := by rw [← h2]
          unfold rest
          rw [eo, hx, ← hxt, hA]
          simp only
          rw [htight, if_neg (by simp), ← h2]
    · rename_i hd
      rw [if_neg hd]
      split at ht
      · rename_i h35
        rw [if_pos h35]
        unfold floatF at ht
        split at ht
        · rename_i h17
          split at ht
          · cases ht
          · injection ht with h2 h3
            subst h3
            have eo : overH T o (o + 1) = o + (overH s i (i + 1) - i) := overH_eq (by omega) ho (fun k h4 h5 => by
              have := hb (k - o) (by omega)
              rw [show o + (k - o) = k by omega] at this
              refine ⟨?_, by omega⟩
              rw [this]
              exact overH_all s i (i + 1) (i + (k - o)) (by omega) (by omega)) (.inr (by omega))
            unfold floatF
            rw [eo, show o + (overH s i (i + 1) - i) - o = overH s i (i + 1) - i by omega, if_pos h17, htight, if_neg (by simp), hx, hx1, ← h2]
        · cases ht
      · rename_i h35
        rw [if_neg h35]
        unfold signF at ht
        split at ht
        · cases ht
        · rename_i hm0
          injection ht with h2 h3
          subst h3
          have hm2 := markF_le2 s i
          have eo : markF T o = markF s i := by
            have em : i + markF s i - i = markF s i := by omega
            rw [em] at hs ho hb
            by_cases h22 : markF s i = 2
            · rw [h22] at hs ho hb ⊢
              have hh := h22
              unfold markF at hh
              split at hh
              · rename_i hc
                unfold markF
                rw [if_pos ⟨by omega, by rw [hb0, hb 1 (by omega)]; exact hc.2⟩]
              · split at hh <;> omega
            · have h11 : markF s i = 1 := by omega
              rw [h11] at hs ho hb ⊢
              have hh := h11
              unfold markF at hh
              split at hh
              · omega
              · split at hh
                · rename_i hc
                  unfold markF
                  rw [if_neg (fun h => ?_), if_pos ⟨by omega, by rw [hb0]; exact hc.2⟩]
                  rcases hs with h4 | h4
                  · omega
                  · have h5 := h.2
                    rw [h4] at h5
                    unfold two at h5
                    simp at h5
                · omega
          unfold signF
          rw [eo, if_neg hm0, show o + markF s i = o + (i + markF s i - i) by omega, hx, ← h2]

theorem tok_first {s : ByteArray} {i e : Nat} {t : Tk} (ht : tokF s i = .ok t e) : isBlank (byte s i) = false ∧ (byte s i = 47 → e = i + 1) := by
  unfold tokF at ht
  split at ht
  · rename_i h1
    unfold isLetter at h1
    unfold isBlank
    simp at h1 ⊢
    omega
  · split at ht
    · rename_i h1
      unfold isDigit at h1
      unfold isBlank
      simp at h1 ⊢
      omega
    · split at ht
      · rename_i h1
        rw [h1]
        exact ⟨by decide, fun h => by omega⟩
      · unfold signF at ht
        split at ht
        · cases ht
        · rename_i hm
          injection ht with h2 h3
          subst h3
          unfold markF at hm ⊢
          by_cases hc : i + 1 < s.size ∧ two (byte s i) (byte s (i + 1)) = true
          · rw [if_pos hc]
            have h4 := hc.2
            unfold two at h4
            unfold isBlank
            simp at h4 ⊢
            omega
          · rw [if_neg hc] at hm ⊢
            by_cases h5 : i < s.size ∧ byte s i ∈ oneTab
            · rw [if_pos h5]
              have h6 := h5.2
              unfold oneTab at h6
              unfold isBlank
              simp at h6 ⊢
              omega
            · rw [if_neg h5] at hm
              exact absurd rfl hm
theorem cut_tail (s : ByteArray) (i j : Nat) : (cut s (i + 1) j).data.toList = (cut s i j).data.toList.drop 1 := by
  unfold cut
  rw [cut_list, cut_list, List.drop_take, List.drop_drop]
  congr 1
def flat (ts : List Tk) : List UInt8 := ts.flatMap (fun t => 32 :: t.text.data.toList)
theorem flat_cons (t : Tk) (ts : List Tk) : flat (t :: ts) = 32 :: (t.text.data.toList ++ flat ts) := by unfold flat; rw [List.flatMap_cons]; rfl
def Good (t : Tk) : Prop := ∃ (s : ByteArray) (i e : Nat), i < s.size ∧ tokF s i = .ok t e
def bare (t : Tk) : Nat × ByteArray × Int × Nat := (t.kind, t.text, t.n, t.bits)
theorem byte_at (T : ByteArray) (k : Nat) (c : UInt8) (h : T.data.toList[k]? = some c) : byte T k = (c.toNat : Int) := by
  obtain ⟨h1, h2⟩ := List.getElem?_eq_some_iff.1 h
  rw [byte_list T k h1, h2]
theorem again (T : ByteArray) : ∀ (us : List Tk) (pre : List UInt8) (acc : List Tk), (∀ u ∈ us, Good u) → T.data.toList = pre ++ flat us → acc.length + us.length ≤ 2000 →
    ∃ vs, rdF T (blF T pre.length) acc = .ok (acc ++ vs) ∧ vs.map bare = us.map bare
  | [], pre, acc, _, hT, _ => by
    have hz : T.size = pre.length := by
      have e1 : T.data.toList.length = T.size := rfl
      rw [hT] at e1
      simp [flat] at e1
      omega
    exact ⟨[], by rw [blF_all (by omega), rdF_end (by omega), List.append_nil], rfl⟩
  | u :: us, pre, acc, hg, hT, hl => by
    obtain ⟨s, i, e, hi, ht⟩ := hg u (by simp)
    have hok := tokF_ok hi ht
    obtain ⟨_, hux⟩ := tokF_pos ht
    have hsz : u.text.size = e - i := by rw [hux, cut_size hok.2]
    have e0 : u.text.data.toList.length = u.text.size := rfl
    rw [flat_cons] at hT
    have hz : T.size = pre.length + (1 + (u.text.size + (flat us).length)) := by
      have e1 : T.data.toList.length = T.size := rfl
      rw [hT] at e1
      simp at e1
      omega
    have hP : byte T pre.length = 32 := byte_at T _ 32 (by rw [hT, List.getElem?_append_right (Nat.le_refl _)]; simp)
    have hb : ∀ k, k < e - i → byte T (pre.length + 1 + k) = byte s (i + k) := fun k hk => by
      have h1 : u.text.data.toList[k]? = some (b8 s (i + k)) := by
        rw [hux]
        unfold cut
        have e2 : s.data.toList.length = s.size := rfl
        rw [cut_list, List.getElem?_take_of_lt (by omega), List.getElem?_drop, List.getElem?_eq_getElem (by omega)]
        rw [← b8_list s (i + k) (by omega)]
      rw [byte_b8]
      refine byte_at T _ _ ?_
      rw [hT, List.getElem?_append_right (by omega), show pre.length + 1 + k - pre.length = k + 1 by omega, List.getElem?_cons_succ, List.getElem?_append_left (by omega)]
      exact h1
    have hs : pre.length + 1 + (e - i) = T.size ∨ byte T (pre.length + 1 + (e - i)) = 32 := by
      cases us with
      | nil => left; simp [flat] at hz; omega
      | cons u2 us2 =>
        right
        refine byte_at T _ 32 ?_
        rw [hT, List.getElem?_append_right (by omega), show pre.length + 1 + (e - i) - pre.length = (e - i) + 1 by omega, List.getElem?_cons_succ, List.getElem?_append_right (by omega), flat_cons]
        rw [show e - i - u.text.data.toList.length = 0 by omega]
        rfl
    have hx : cut T (pre.length + 1) (pre.length + 1 + (e - i)) = u.text := cut_same (by
      rw [hT, List.drop_append, show pre.length + 1 - pre.length = 1 by omega, List.drop_of_length_le (show pre.length ≤ pre.length + 1 by omega), List.nil_append, List.drop_succ_cons, List.drop_zero, show pre.length + 1 + (e - i) - (pre.length + 1) = u.text.data.toList.length by omega, List.take_left])
    have hx1 : cut T (pre.length + 1 + 1) (pre.length + 1 + (e - i)) = cut s (i + 1) e := ba_ext (by rw [cut_tail T (pre.length + 1), hx, cut_tail s i e, ← hux])
    have hre := retok hi ht hb (by omega) hs hx hx1
    obtain ⟨f1, f2⟩ := tok_first ht
    have hb0 : byte T (pre.length + 1) = byte s i := by have := hb 0 (by omega); simpa using this
    have hbl : blF T pre.length = pre.length + 1 := by
      have h1 : overF isBlank T pre.length = pre.length + 1 := overF_eq (by omega) (by omega) (fun k h1 h2 => by rw [show k = pre.length by omega, hP]; decide) (.inr (by rw [hb0]; exact f1))
      unfold blF
      rw [h1]
      refine skipC_no ?_
      unfold comm
      rw [hb0]
      by_cases h47 : byte s i = 47
      · have := f2 h47
        rcases hs with h | h
        · rw [decide_eq_false (by omega)]; rfl
        · rw [show pre.length + 1 + 1 = pre.length + 1 + (e - i) by omega, h]
          simp
      · simp [h47]
    obtain ⟨vs, h1, h2⟩ := again T us (pre ++ (32 :: u.text.data.toList)) (acc ++ [⟨u.kind, u.text, u.n, u.bits, pre.length + 1⟩]) (fun x hx => hg x (by simp [hx])) (by rw [hT]; simp) (by simp at hl ⊢; omega)
    refine ⟨⟨u.kind, u.text, u.n, u.bits, pre.length + 1⟩ :: vs, ?_, by rw [List.map_cons, List.map_cons, h2]; rfl⟩
    rw [hbl, rdF_step (by omega) (by simp at hl; omega) hre]
    have hlen : (pre ++ (32 :: u.text.data.toList)).length = pre.length + 1 + (e - i) := by simp; omega
    rw [hlen] at h1
    rw [h1, List.append_assoc]
    rfl
theorem Chain.good : ∀ {s : ByteArray} {a : Nat} {ts : List Tk} (_ : Chain s a ts), ∀ u ∈ ts, Good u
  | _, _, [], _, _, h => by cases h
  | _, _, t :: r, .cons hL hr, u, h => by
    rcases List.mem_cons.1 h with rfl | h
    · exact ⟨_, _, _, hL.lt, hL.tok⟩
    · exact hr.good u h
/-- the tokens' texts with blanks between give the same tokens again -/
theorem read_again {s T : ByteArray} {ts : List Tk} (h : readF s = .ok ts) (hT : T.data.toList = flat ts) : ∃ vs, readF T = .ok vs ∧ vs.map bare = ts.map bare := by
  obtain ⟨h1, h2⟩ := readF_chain h
  obtain ⟨vs, h3, h4⟩ := again T ts [] [] h1.good hT (by simpa using h2)
  exact ⟨vs, h3, h4⟩

end Go.Proofs.YtpeebpnoldadjaaDoor.Ck
