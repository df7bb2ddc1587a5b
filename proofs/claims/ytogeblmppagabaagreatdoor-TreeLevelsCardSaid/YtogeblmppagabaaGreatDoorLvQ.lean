/- Brackets and signs in one another: just 16 of them are read. No Go text is walked here. -/
import Derived.Test.YtogeblmppagabaaGreatDoorLxQ
import Derived.Test.YtogeblmppagabaaGreatDoorHpQ
namespace Go.Proofs.YtogeblmppagabaaGreatDoor.Ck
open Go.RowKit

theorem spell_app : ∀ (a b : List (Pc × List UInt8)), spell (a ++ b) = spell a ++ spell b
  | [], _ => rfl
  | (p, sp) :: a, b => by simp [spell, spell_app a b]
/-- the tokens stand in the row M from place i on -/
def Tat (M : List Tk) (i : Nat) (l : List (Pc × List UInt8)) : Prop := ∀ j p, l[j]? = some p → ∃ q, tkAt M (i + j) = p.1.tok q
theorem Tat.head {M : List Tk} {i : Nat} {p : Pc × List UInt8} {l : List (Pc × List UInt8)} (h : Tat M i (p :: l)) : (∃ q, tkAt M i = p.1.tok q) ∧ Tat M (i + 1) l :=
  ⟨h 0 p rfl, fun j q hj => by
    have := h (j + 1) q (by simpa using hj)
    rwa [show i + (j + 1) = i + 1 + j by omega] at this⟩
theorem Tat.app {M : List Tk} {i : Nat} {a b : List (Pc × List UInt8)} (h : Tat M i (a ++ b)) : Tat M i a ∧ Tat M (i + a.length) b :=
  ⟨fun j q hj => h j q (by rw [List.getElem?_append_left (List.getElem?_eq_some_iff.1 hj).1]; exact hj), fun j q hj => by
    have := h (a.length + j) q (by rw [List.getElem?_append_right (by omega), Nat.add_sub_cancel_left]; exact hj)
    rwa [show i + (a.length + j) = i + a.length + j by omega] at this⟩
theorem toks_at : ∀ (l : List (Pc × List UInt8)) (o j : Nat) (p : Pc × List UInt8), l[j]? = some p → ∃ q, (toksOf o l)[j]? = some (p.1.tok q)
  | [], _, _, _, h => by simp at h
  | (a, sp) :: l, o, 0, p, h => by
    simp at h
    subst h
    exact ⟨o, rfl⟩
  | (a, sp) :: l, o, j + 1, p, h => by
    obtain ⟨q, hq⟩ := toks_at l (o + a.bytes.length + sp.length) j p (by simpa using h)
    exact ⟨q, by simpa [toksOf] using hq⟩
theorem tat_of (l : List (Pc × List UInt8)) (o : Nat) (r : List Tk) : Tat (toksOf o l ++ r) 0 l := fun j p hj => by
  obtain ⟨q, hq⟩ := toks_at l o j p hj
  obtain ⟨h1, h2⟩ := List.getElem?_eq_some_iff.1 hq
  exact ⟨q, by rw [Nat.zero_add, tk_in h1, h2]⟩

/-- no operator of two, no bracket that opens, stands here -/
def noOp (M : List Tk) (j : Nat) : Prop := ¬ has M j orT = true ∧ ¬ has M j andT = true ∧ ¬ has M j cmpT = true ∧ ¬ has M j sumT = true ∧ ¬ has M j prodT = true ∧ ¬ has M j [bOpn] = true
theorem noOp_of {M : List Tk} {j : Nat} {t : ByteArray} (h : (tkAt M j).text = t) (ht : t = ⟨#[41]⟩ ∨ t = ⟨#[93]⟩ ∨ t = ⟨#[]⟩) : noOp M j := by
  have hh : ∀ zs : List ByteArray, has M j zs = Lib.containsS zs t := fun zs => by unfold has tx; rw [h]
  unfold noOp
  rw [hh, hh, hh, hh, hh, hh]
  rcases ht with rfl | rfl | rfl <;> decide
theorem up_ok {M : List Tk} {f l i : Nat} {n : Nd} {j : Nat} (hl : 0 < M.length) (hn : noOp M j) (h : pz M f 5 l i = .ok n j) : pz M (f + 5) 0 l i = .ok n j := by
  obtain ⟨n1, n2, n3, n4, n5, _⟩ := hn
  have e4 : pz M (f + 1) 4 l i = .ok n j := by rw [pz4]; exact row_stop h n5 hl
  have e3 : pz M (f + 2) 3 l i = .ok n j := by rw [pz3]; exact row_stop e4 n4 hl
  have e2 : pz M (f + 3) 2 l i = .ok n j := by
    rw [pz2]
    unfold cmpO
    rw [e3]
    dsimp only
    rw [if_neg n3]
  have e1 : pz M (f + 4) 1 l i = .ok n j := by rw [pz1]; exact row_stop e2 n2 hl
  rw [pz0]
  exact row_stop e1 n1 hl
theorem up_bad {M : List Tk} {f l i k q : Nat} (h : pz M f 5 l i = .bad k q) : pz M (f + 5) 0 l i = .bad k q := by
  have e4 : pz M (f + 1) 4 l i = .bad k q := by rw [pz4]; exact row_bad h
  have e3 : pz M (f + 2) 3 l i = .bad k q := by rw [pz3]; exact row_bad e4
  have e2 : pz M (f + 3) 2 l i = .bad k q := by
    rw [pz2]
    unfold cmpO
    rw [e3]
  have e1 : pz M (f + 4) 1 l i = .bad k q := by rw [pz1]; exact row_bad e2
  rw [pz0]
  exact row_bad e1

/-- what is wrapped around the x, the outermost first -/
def lvP : List Nat → List (Pc × List UInt8)
  | [] => [(.word [120], [])]
  | 0 :: ks => (.mark [40], []) :: (lvP ks ++ [(.mark [41], [])])
  | 1 :: ks => (.mark [45], []) :: lvP ks
  | 2 :: ks => (.word [97], []) :: (.mark [91], []) :: (lvP ks ++ [(.mark [93], [])])
  | _ :: ks => (.word [105, 110, 116], []) :: (.mark [40], []) :: (lvP ks ++ [(.mark [41], [])])
theorem lvP_len : ∀ (ks : List Nat), ks.length < (lvP ks).length ∧ (lvP ks).length ≤ 1 + 3 * ks.length
  | [] => by decide
  | 0 :: ks => by have := lvP_len ks; simp [lvP]; omega
  | 1 :: ks => by have := lvP_len ks; simp [lvP]; omega
  | 2 :: ks => by have := lvP_len ks; simp [lvP]; omega
  | (_ + 3) :: ks => by have := lvP_len ks; simp [lvP]; omega
theorem lvP_size : ∀ (ks : List Nat), (spell (lvP ks)).length ≤ 1 + 5 * ks.length
  | [] => by decide
  | 0 :: ks => by have := lvP_size ks; simp [lvP, spell, spell_app, Pc.bytes]; omega
  | 1 :: ks => by have := lvP_size ks; simp [lvP, spell, Pc.bytes]; omega
  | 2 :: ks => by have := lvP_size ks; simp [lvP, spell, spell_app, Pc.bytes]; omega
  | (_ + 3) :: ks => by have := lvP_size ks; simp [lvP, spell, spell_app, Pc.bytes]; omega
theorem mark_ok {c : UInt8} (h : c = 40 ∨ c = 41 ∨ c = 45 ∨ c = 91 ∨ c = 93) : (Pc.mark [c]).Ok := by
  left
  rcases h with rfl | rfl | rfl | rfl | rfl <;> exact ⟨_, rfl, by decide⟩
theorem mark_fit {c : UInt8} (h : c = 40 ∨ c = 41 ∨ c = 45 ∨ c = 91 ∨ c = 93) (r : List UInt8) : (Pc.mark [c]).Fit r := by
  show fit1 c r
  cases r with
  | nil => trivial
  | cons d r =>
    unfold fit1
    rcases h with rfl | rfl | rfl | rfl | rfl <;> exact ⟨by unfold two; simp, fun e => absurd e.1 (by decide)⟩
theorem fits_cons {p : Pc} {l : List (Pc × List UInt8)} (h1 : p.Ok) (h2 : p.Fit (spell l)) (h3 : Sits l) : Sits ((p, []) :: l) := ⟨h1, h2, (fun _ h => by cases h), h3⟩
theorem wd_x : Wd [120] := ⟨120, [], rfl, by decide, (fun _ h => by cases h), by decide⟩
theorem wd_a : Wd [97] := ⟨97, [], rfl, by decide, (fun _ h => by cases h), by decide⟩
theorem wd_int : Wd [105, 110, 116] := ⟨105, [110, 116], rfl, by decide, by decide, by decide⟩
theorem fits_lv : ∀ (ks : List Nat) (suf : List (Pc × List UInt8)), Sits suf → stops isWord (spell suf) → Sits (lvP ks ++ suf)
  | [], suf, h1, h2 => fits_cons wd_x h2 h1
  | 0 :: ks, suf, h1, h2 => by
    have h3 := fits_lv ks ((.mark [41], []) :: suf) (fits_cons (mark_ok (by decide)) (mark_fit (by decide) _) h1) (by show isWord _ = false; decide)
    have e : lvP (0 :: ks) ++ suf = (.mark [40], []) :: (lvP ks ++ (.mark [41], []) :: suf) := by simp [lvP]
    rw [e]
    exact fits_cons (mark_ok (by decide)) (mark_fit (by decide) _) h3
  | 1 :: ks, suf, h1, h2 => fits_cons (mark_ok (by decide)) (mark_fit (by decide) _) (fits_lv ks suf h1 h2)
  | 2 :: ks, suf, h1, h2 => by
    have h3 := fits_lv ks ((.mark [93], []) :: suf) (fits_cons (mark_ok (by decide)) (mark_fit (by decide) _) h1) (by show isWord _ = false; decide)
    have e : lvP (2 :: ks) ++ suf = (.word [97], []) :: (.mark [91], []) :: (lvP ks ++ (.mark [93], []) :: suf) := by simp [lvP]
    rw [e]
    exact fits_cons wd_a (by show isWord _ = false; decide) (fits_cons (mark_ok (by decide)) (mark_fit (by decide) _) h3)
  | (_ + 3) :: ks, suf, h1, h2 => by
    have h3 := fits_lv ks ((.mark [41], []) :: suf) (fits_cons (mark_ok (by decide)) (mark_fit (by decide) _) h1) (by show isWord _ = false; decide)
    have e : ∀ k, lvP ((k + 3) :: ks) ++ suf = (.word [105, 110, 116], []) :: (.mark [40], []) :: (lvP ks ++ (.mark [41], []) :: suf) := fun k => by simp [lvP]
    rw [e]
    exact fits_cons wd_int (by show isWord _ = false; decide) (fits_cons (mark_ok (by decide)) (mark_fit (by decide) _) h3)

theorem has_mark {M : List Tk} {i q : Nat} {m : List UInt8} (h : tkAt M i = (Pc.mark m).tok q) (zs : List ByteArray) : has M i zs = Lib.containsS zs ⟨m.toArray⟩ := by
  unfold has tx
  rw [h]
  rfl
theorem has_wordP {M : List Tk} {i q : Nat} {m : List UInt8} (h : tkAt M i = (Pc.word m).tok q) (zs : List ByteArray) : has M i zs = Lib.containsS zs ⟨m.toArray⟩ := by
  unfold has tx
  rw [h]
  rfl
/-- what a wrapped row comes to -/
theorem wrap_ok {M : List Tk} {l i : Nat} {op sh : ByteArray} {n : Nd} {j : Nat} (h1 : has M i [op] = true) (h2 : has M j [sh] = true) (hl : ¬ l = 16) : wrapO M l i op sh (.ok n j) = .ok n (j + 1) := by
  unfold wrapO
  rw [if_pos h1, if_neg hl]
  dsimp only
  rw [if_pos h2]
theorem wrap_bad {M : List Tk} {l i : Nat} {op sh : ByteArray} {r : Out} (h : l = 16 ∨ ∃ k q, r = .bad k q) : ∃ k q, wrapO M l i op sh r = .bad k q := by
  unfold wrapO
  by_cases h1 : has M i [op] = true
  · rw [if_pos h1]
    by_cases h2 : l = 16
    · rw [if_pos h2]
      exact ⟨_, _, rfl⟩
    · rw [if_neg h2]
      rcases h with h | ⟨k, q, rfl⟩
      · exact absurd h h2
      · exact ⟨k, q, rfl⟩
  · rw [if_neg h1]
    exact ⟨_, _, rfl⟩
theorem kind_x (q : Nat) : ((Pc.word [120]).tok q).kind = 1 := by
  kernel_rfl
theorem kind_a (q : Nat) : ((Pc.word [97]).tok q).kind = 1 := by
  kernel_rfl
theorem kind_int (q : Nat) : ((Pc.word [105, 110, 116]).tok q).kind = 2 := by
  kernel_rfl
theorem kind_mark (q : Nat) (m : List UInt8) : ((Pc.mark m).tok q).kind = 5 := rfl
theorem lv_read {M : List Tk} (hM : 0 < M.length) : ∀ (ks : List Nat) (l i f : Nat), Tat M i (lvP ks) → noOp M (i + (lvP ks).length) → 8 * ks.length + 2 ≤ f → l ≤ 16 →
    (l + ks.length ≤ 16 → ∃ n, pz M f 5 l i = .ok n (i + (lvP ks).length)) ∧ (16 < l + ks.length → ∃ k q, pz M f 5 l i = .bad k q)
  | [], l, i, f, h, hn, hf, hl => by
    obtain ⟨⟨q, h0⟩, _⟩ := Tat.head (l := []) h
    have h0 : tkAt M i = Pc.tok q (.word [120]) := h0
    have hn : noOp M (i + 1) := hn
    have k0 : (tkAt M i).kind = 1 := by rw [h0]; exact kind_x q
    obtain ⟨f, rfl⟩ : ∃ g, f = g + 2 := ⟨f - 2, by omega⟩
    refine ⟨fun _ => ?_, fun h => by simp at h; omega⟩
    rw [pz5, if_neg (by rw [has_wordP h0]; decide), pz6 M f 0 l i]
    unfold primO
    rw [if_neg (by omega), if_neg (by omega), if_pos k0]
    unfold targetO
    rw [if_pos k0, if_neg hn.2.2.2.2.2]
    exact ⟨_, rfl⟩
  | 0 :: ks, l, i, f, h, hn, hf, hl => by
    obtain ⟨⟨q, h0⟩, h1⟩ := Tat.head (l := lvP ks ++ [(.mark [41], [])]) h
    have h0 : tkAt M i = Pc.tok q (.mark [40]) := h0
    have k0 : (tkAt M i).kind = 5 := by rw [h0]; rfl
    obtain ⟨h2, h3⟩ := h1.app
    obtain ⟨⟨q3, h3⟩, _⟩ := Tat.head (l := []) h3
    have h3 : tkAt M (i + 1 + (lvP ks).length) = Pc.tok q3 (.mark [41]) := h3
    rw [List.length_cons] at hf
    obtain ⟨f, rfl⟩ : ∃ g, f = g + 5 + 1 + 1 := ⟨f - 7, by omega⟩
    have hno : noOp M (i + 1 + (lvP ks).length) := noOp_of (t := ⟨#[41]⟩) (by rw [h3]; rfl) (.inl rfl)
    have hL : i + (lvP (0 :: ks)).length = i + 1 + (lvP ks).length + 1 := by simp [lvP]; omega
    have e6 : pz M (f + 5 + 1 + 1) 5 l i = wrapO M l i bOpen bShut (pz M (f + 5) 0 (l + 1) (i + 1)) := by
      rw [pz5, if_neg (by rw [has_mark h0]; decide), pz6 M (f + 5) 0 l i]
      unfold primO
      rw [if_neg (by omega), if_neg (by omega), if_neg (by omega), if_neg (by rw [has_mark h0]; decide), if_neg (by rw [has_mark h0]; decide), if_neg (by rw [has_mark h0]; decide)]
    rw [e6, hL, List.length_cons]
    refine ⟨fun hk => ?_, fun hk => ?_⟩
    · obtain ⟨n, e⟩ := (lv_read hM ks (l + 1) (i + 1) f h2 hno (by omega) (by omega)).1 (by omega)
      rw [up_ok hM hno e, wrap_ok (by rw [has_mark h0]; decide) (by rw [has_mark h3]; decide) (by omega)]
      exact ⟨_, rfl⟩
    · by_cases h16 : l = 16
      · exact wrap_bad (.inl h16)
      · obtain ⟨k, q, e⟩ := (lv_read hM ks (l + 1) (i + 1) f h2 hno (by omega) (by omega)).2 (by omega)
        exact wrap_bad (.inr ⟨k, q, up_bad e⟩)
  | 1 :: ks, l, i, f, h, hn, hf, hl => by
    obtain ⟨⟨q, h0⟩, h1⟩ := Tat.head (l := lvP ks) h
    have h0 : tkAt M i = Pc.tok q (.mark [45]) := h0
    rw [List.length_cons] at hf
    obtain ⟨f, rfl⟩ : ∃ g, f = g + 1 := ⟨f - 1, by omega⟩
    have hL : i + (lvP (1 :: ks)).length = i + 1 + (lvP ks).length := by simp [lvP]; omega
    rw [hL] at hn
    rw [pz5, if_pos (by rw [has_mark h0]; decide), hL, List.length_cons]
    unfold unO
    refine ⟨fun hk => ?_, fun hk => ?_⟩
    · obtain ⟨n, e⟩ := (lv_read hM ks (l + 1) (i + 1) f h1 hn (by omega) (by omega)).1 (by omega)
      rw [if_neg (by omega), e]
      exact ⟨_, rfl⟩
    · by_cases h16 : l = 16
      · rw [if_pos h16]
        exact ⟨_, _, rfl⟩
      · obtain ⟨k, q, e⟩ := (lv_read hM ks (l + 1) (i + 1) f h1 hn (by omega) (by omega)).2 (by omega)
        rw [if_neg h16, e]
        exact ⟨_, _, rfl⟩
  | 2 :: ks, l, i, f, h, hn, hf, hl => by
    obtain ⟨⟨q, h0⟩, h1⟩ := Tat.head (l := (.mark [91], []) :: (lvP ks ++ [(.mark [93], [])])) h
    obtain ⟨⟨q1, h1⟩, h2⟩ := Tat.head (l := lvP ks ++ [(.mark [93], [])]) h1
    have h0 : tkAt M i = Pc.tok q (.word [97]) := h0
    have h1 : tkAt M (i + 1) = Pc.tok q1 (.mark [91]) := h1
    have k0 : (tkAt M i).kind = 1 := by rw [h0]; exact kind_a q
    obtain ⟨h2, h3⟩ := h2.app
    obtain ⟨⟨q3, h3⟩, _⟩ := Tat.head (l := []) h3
    have h3 : tkAt M (i + 1 + 1 + (lvP ks).length) = Pc.tok q3 (.mark [93]) := h3
    rw [List.length_cons] at hf
    obtain ⟨f, rfl⟩ : ∃ g, f = g + 5 + 1 + 1 := ⟨f - 7, by omega⟩
    have hno : noOp M (i + 1 + 1 + (lvP ks).length) := noOp_of (t := ⟨#[93]⟩) (by rw [h3]; rfl) (.inr (.inl rfl))
    have hL : i + (lvP (2 :: ks)).length = i + 1 + 1 + (lvP ks).length + 1 := by simp [lvP]; omega
    have e6 : pz M (f + 5 + 1 + 1) 5 l i = targetO M l i (pz M (f + 5) 0 (l + 1) (i + 1 + 1)) := by
      rw [pz5, if_neg (by rw [has_wordP h0]; decide), pz6 M (f + 5) 0 l i]
      unfold primO
      rw [if_neg (by omega), if_neg (by omega), if_pos k0]
    rw [e6, hL, List.length_cons]
    unfold targetO
    rw [if_pos k0, if_pos (by rw [has_mark h1]; decide)]
    refine ⟨fun hk => ?_, fun hk => ?_⟩
    · obtain ⟨n, e⟩ := (lv_read hM ks (l + 1) (i + 1 + 1) f h2 hno (by omega) (by omega)).1 (by omega)
      rw [up_ok hM hno e, wrap_ok (by rw [has_mark h1]; decide) (by rw [has_mark h3]; decide) (by omega)]
      exact ⟨_, rfl⟩
    · have hb : ∃ k q, wrapO M l (i + 1) bOpn bSht (pz M (f + 5) 0 (l + 1) (i + 1 + 1)) = .bad k q := by
        by_cases h16 : l = 16
        · exact wrap_bad (.inl h16)
        · obtain ⟨k, q, e⟩ := (lv_read hM ks (l + 1) (i + 1 + 1) f h2 hno (by omega) (by omega)).2 (by omega)
          exact wrap_bad (.inr ⟨k, q, up_bad e⟩)
      obtain ⟨k, q, e⟩ := hb
      rw [e]
      exact ⟨_, _, rfl⟩
  | (x + 3) :: ks, l, i, f, h, hn, hf, hl => by
    obtain ⟨⟨q, h0⟩, h1⟩ := Tat.head (l := (.mark [40], []) :: (lvP ks ++ [(.mark [41], [])])) h
    obtain ⟨⟨q1, h1⟩, h2⟩ := Tat.head (l := lvP ks ++ [(.mark [41], [])]) h1
    have h0 : tkAt M i = Pc.tok q (.word [105, 110, 116]) := h0
    have h1 : tkAt M (i + 1) = Pc.tok q1 (.mark [40]) := h1
    have k0 : (tkAt M i).kind = 2 := by rw [h0]; exact kind_int q
    obtain ⟨h2, h3⟩ := h2.app
    obtain ⟨⟨q3, h3⟩, _⟩ := Tat.head (l := []) h3
    have h3 : tkAt M (i + 1 + 1 + (lvP ks).length) = Pc.tok q3 (.mark [41]) := h3
    rw [List.length_cons] at hf
    obtain ⟨f, rfl⟩ : ∃ g, f = g + 5 + 1 + 1 := ⟨f - 7, by omega⟩
    have hno : noOp M (i + 1 + 1 + (lvP ks).length) := noOp_of (t := ⟨#[41]⟩) (by rw [h3]; rfl) (.inl rfl)
    have hL : i + (lvP ((x + 3) :: ks)).length = i + 1 + 1 + (lvP ks).length + 1 := by simp [lvP]; omega
    have e6 : pz M (f + 5 + 1 + 1) 5 l i = convO M l i (pz M (f + 5) 0 (l + 1) (i + 1 + 1)) := by
      rw [pz5, if_neg (by rw [has_wordP h0]; decide), pz6 M (f + 5) 0 l i]
      unfold primO
      rw [if_neg (by omega), if_neg (by omega), if_neg (by omega), if_neg (by rw [has_wordP h0]; decide), if_neg (by rw [has_wordP h0]; decide), if_pos (by rw [has_wordP h0]; decide)]
    rw [e6, hL, List.length_cons]
    unfold convO
    refine ⟨fun hk => ?_, fun hk => ?_⟩
    · obtain ⟨n, e⟩ := (lv_read hM ks (l + 1) (i + 1 + 1) f h2 hno (by omega) (by omega)).1 (by omega)
      rw [up_ok hM hno e, wrap_ok (by rw [has_mark h1]; decide) (by rw [has_mark h3]; decide) (by omega)]
      exact ⟨_, rfl⟩
    · have hb : ∃ k q, wrapO M l (i + 1) bOpen bShut (pz M (f + 5) 0 (l + 1) (i + 1 + 1)) = .bad k q := by
        by_cases h16 : l = 16
        · exact wrap_bad (.inl h16)
        · obtain ⟨k, q, e⟩ := (lv_read hM ks (l + 1) (i + 1 + 1) f h2 hno (by omega) (by omega)).2 (by omega)
          exact wrap_bad (.inr ⟨k, q, up_bad e⟩)
      obtain ⟨k, q, e⟩ := hb
      rw [e]
      exact ⟨_, _, rfl⟩
theorem levels_model {s : ByteArray} {ks : List Nat} (h : s.data.toList = spell (lvP ks)) (hk : ks.length ≤ 100) :
    (ks.length ≤ 16 ∧ ∃ n, exprF s = .ok n) ∨ (16 < ks.length ∧ ∃ k i, exprF s = .bad k i) := by
  have hl := lvP_len ks
  have hz := lvP_size ks
  have e1 : s.data.toList.length = s.size := rfl
  have hf := fits_lv ks [] trivial trivial
  rw [List.append_nil] at hf
  have hr := read_spell h hf (by omega)
  have ht := tat_of (lvP ks) 0 [endTk s.size]
  have hlen : (toksOf 0 (lvP ks)).length = (lvP ks).length := toksOf_len _ _
  have hend : tkAt (toksOf 0 (lvP ks) ++ [endTk s.size]) (0 + (lvP ks).length) = endTk s.size := by
    rw [tk_out (by omega), hlen, Nat.zero_add, Nat.sub_self]
    rfl
  have hM : 0 < (toksOf 0 (lvP ks) ++ [endTk s.size]).length := by simp
  have hML : (toksOf 0 (lvP ks) ++ [endTk s.size]).length = (lvP ks).length + 1 := by simp [hlen]
  have hno : noOp (toksOf 0 (lvP ks) ++ [endTk s.size]) (0 + (lvP ks).length) := noOp_of (t := ⟨#[]⟩) (by rw [hend]; rfl) (.inr (.inr rfl))
  have hx : exprF s = match exD (toksOf 0 (lvP ks) ++ [endTk s.size]) 0 0 with | .bad k j => .bad k (tkAt (toksOf 0 (lvP ks) ++ [endTk s.size]) j).pos | .ok n j => if (tkAt (toksOf 0 (lvP ks) ++ [endTk s.size]) j).kind = 0 then .ok n else .bad 1 (tkAt (toksOf 0 (lvP ks) ++ [endTk s.size]) j).pos := by
    unfold exprF readO toksF
    rw [if_pos (by rw [← e1, h]; omega), hr]
    rfl
  generalize toksOf 0 (lvP ks) ++ [endTk s.size] = M at *
  have key := lv_read hM ks 0 0 (8 * M.length + 2) ht hno (by omega) (by omega)
  have e0 : exD M 0 0 = pz M (8 * M.length + 2 + 5) 0 0 0 := rfl
  rw [hx, e0]
  by_cases h16 : ks.length ≤ 16
  · left
    obtain ⟨n, e⟩ := key.1 (by omega)
    rw [up_ok hM hno e]
    dsimp only
    rw [hend, if_pos (show (endTk s.size).kind = 0 from rfl)]
    exact ⟨h16, n, rfl⟩
  · right
    obtain ⟨k, q, e⟩ := key.2 (by omega)
    rw [up_bad e]
    exact ⟨by omega, _, _, rfl⟩

end Go.Proofs.YtogeblmppagabaaGreatDoor.Ck
