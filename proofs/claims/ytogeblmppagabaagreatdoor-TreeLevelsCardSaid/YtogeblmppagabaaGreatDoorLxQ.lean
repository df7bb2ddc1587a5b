/- Reading a text that is written token by token. No Go text is walked here. -/
import Derived.Test.YtogeblmppagabaaGreatDoorFzQ
import Derived.Test.YtogeblmppagabaaGreatDoorQaj
namespace Go.Proofs.YtogeblmppagabaaGreatDoor.Ck
open Go.RowKit

/-- from byte i on the text T is r -/
def From (T : ByteArray) (i : Nat) (r : List UInt8) : Prop := i ≤ T.size ∧ T.data.toList.drop i = r
theorem From.len {T : ByteArray} {i : Nat} {r : List UInt8} (h : From T i r) : i + r.length = T.size := by
  have e : T.data.toList.length = T.size := rfl
  have h2 := congrArg List.length h.2
  rw [List.length_drop] at h2
  have := h.1
  omega
theorem From.nil {T : ByteArray} {i : Nat} (h : From T i []) : i = T.size := h.len
theorem From.app {T : ByteArray} {i : Nat} {a r : List UInt8} (h : From T i (a ++ r)) : From T (i + a.length) r := by
  have hl := h.len
  rw [List.length_append] at hl
  refine ⟨by omega, ?_⟩
  rw [← List.drop_drop, h.2, List.drop_left]
theorem byte_some (T : ByteArray) (k : Nat) (c : UInt8) (h : T.data.toList[k]? = some c) : byte T k = (c.toNat : Int) := by
  obtain ⟨h1, h2⟩ := List.getElem?_eq_some_iff.1 h
  rw [byte_list T k h1, h2]
theorem From.byte {T : ByteArray} {i : Nat} {a : List UInt8} (h : From T i a) (k : Nat) (hk : k < a.length) : byte T (i + k) = (a[k].toNat : Int) := by
  refine byte_some T _ _ ?_
  rw [← List.getElem?_drop, h.2, List.getElem?_eq_getElem hk]
theorem From.head {T : ByteArray} {i : Nat} {c : UInt8} {r : List UInt8} (h : From T i (c :: r)) : i < T.size ∧ Ck.byte T i = (c.toNat : Int) ∧ From T (i + 1) r := by
  have hl := h.len
  rw [List.length_cons] at hl
  exact ⟨by omega, h.byte 0 (by simp), (show From T i ([c] ++ r) from h).app⟩
def stops (p : Int → Bool) : List UInt8 → Prop
  | [] => True
  | c :: _ => p (c.toNat : Int) = false
theorem From.stop {T : ByteArray} {i : Nat} {r : List UInt8} {p : Int → Bool} (h : From T i r) (hs : stops p r) : i = T.size ∨ p (Ck.byte T i) = false := by
  cases r with
  | nil => exact .inl h.nil
  | cons c r => right; rw [h.head.2.1]; exact hs
theorem From.over {T : ByteArray} {p : Int → Bool} {r : List UInt8} (hs : stops p r) : ∀ {a : List UInt8} {i : Nat}, From T i (a ++ r) → (∀ c ∈ a, p (c.toNat : Int) = true) → overF p T i = i + a.length
  | [], i, h, _ => by
    rcases From.stop (r := r) h hs with e | e
    · rw [overF_end _ _ _ (by omega)]; rfl
    · rw [overF_stop _ _ _ e]; rfl
  | c :: a, i, h, ha => by
    have h1 := From.head (r := a ++ r) h
    rw [overF_pos _ _ _ h1.1 (by rw [h1.2.1]; exact ha c (by simp)), From.over hs h1.2.2 (fun d hd => ha d (by simp [hd])), List.length_cons]
    omega
theorem From.cut {T : ByteArray} {i : Nat} {a r : List UInt8} (h : From T i (a ++ r)) : Ck.cut T i (i + a.length) = ⟨a.toArray⟩ := cut_same (by rw [h.2, Nat.add_sub_cancel_left, List.take_left])

/-- a token as it is written -/
inductive Pc where
  | word (w : List UInt8)
  | int (n : Nat)
  | flo (u : Nat)
  | mark (m : List UInt8)
def Pc.bytes : Pc → List UInt8
  | .word w => w
  | .int n => decT n []
  | .flo u => 35 :: hxs u 16
  | .mark m => m
def Pc.tok (i : Nat) : Pc → Tk
  | .word w => ⟨if isKey ⟨w.toArray⟩ = true then 2 else 1, ⟨w.toArray⟩, 0, 0, i⟩
  | .int n => ⟨3, ⟨(decT n []).toArray⟩, n, 0, i⟩
  | .flo u => ⟨4, ⟨(35 :: hxs u 16).toArray⟩, 0, u, i⟩
  | .mark m => ⟨5, ⟨m.toArray⟩, 0, 0, i⟩
def Wd (w : List UInt8) : Prop := ∃ c r, w = c :: r ∧ isLetter (c.toNat : Int) = true ∧ (∀ d ∈ r, isWord (d.toNat : Int) = true) ∧ r.length < 24
def Pc.Ok : Pc → Prop
  | .word w => Wd w
  | .int n => n ≤ 9223372036854775807
  | .flo u => u < 18446744073709551616
  | .mark m => (∃ c : UInt8, m = [c] ∧ (c.toNat : Int) ∈ oneTab) ∨ ∃ c d : UInt8, m = [c, d] ∧ two c.toNat d.toNat = true
def fit1 (c : UInt8) : List UInt8 → Prop
  | [] => True
  | d :: _ => two c.toNat d.toNat = false ∧ ¬ (c = 47 ∧ d = 47)
def Pc.Fit : Pc → List UInt8 → Prop
  | .mark [c], r => fit1 c r
  | .mark _, _ => True
  | _, r => stops isWord r
theorem word_stop {r : List UInt8} (h : stops isWord r) : stops isDigit r := by
  cases r with
  | nil => trivial
  | cons c r =>
    have h' : isWord (c.toNat : Int) = false := h
    unfold isWord at h'
    simp only [Bool.or_eq_false_iff] at h'
    exact h'.2
theorem From.tight {T : ByteArray} {e : Nat} {r : List UInt8} (h : From T e r) (hs : stops isWord r) : tight T e = false := by
  unfold Ck.tight
  rcases h.stop hs with h1 | h1
  · rw [decide_eq_false (by omega), Bool.false_and]
  · rw [h1, Bool.and_false]
theorem one_first : ∀ c ∈ oneTab, isLetter c = false ∧ isDigit c = false ∧ ¬ c = 35 ∧ isBlank c = false := by decide
theorem two_first {a b : Int} (h : two a b = true) : isLetter a = false ∧ isDigit a = false ∧ ¬ a = 35 ∧ isBlank a = false ∧ ¬ a = 47 := by
  have h2 : a = 58 ∨ a = 61 ∨ a = 33 ∨ a = 60 ∨ a = 62 ∨ a = 38 ∨ a = 124 := by
    unfold two at h
    simp at h
    omega
  rcases h2 with rfl | rfl | rfl | rfl | rfl | rfl | rfl <;> decide
theorem Pc.lex {T : ByteArray} {i : Nat} {p : Pc} {r : List UInt8} (h : From T i (p.bytes ++ r)) (ho : p.Ok) (hf : p.Fit r) : tokF T i = .ok (p.tok i) (i + p.bytes.length) := by
  cases p with
  | word w =>
    obtain ⟨c, l, rfl, hc, hl, hn⟩ := ho
    have h1 := From.head (r := l ++ r) h
    have hov : overF isWord T i = i + (c :: l).length := From.over (a := c :: l) hf h (fun d hd => by
      rcases List.mem_cons.1 hd with rfl | hd
      · unfold isWord; rw [hc]; rfl
      · exact hl d hd)
    have hcut : Ck.cut T i (i + (c :: l).length) = ⟨(c :: l).toArray⟩ := From.cut (a := c :: l) h
    unfold tokF
    rw [h1.2.1, if_pos hc]
    unfold wordF
    rw [hov, if_neg (by rw [List.length_cons]; omega), hcut]
    rfl
  | int n =>
    have hD : Dec ⟨(decT n []).toArray⟩ n := by unfold Dec; rfl
    have hz := hD.size ho
    have hz2 : (⟨(decT n []).toArray⟩ : ByteArray).size = (decT n []).length := by show (decT n []).toArray.size = _; simp
    have hdig := digs_dec n [] (fun _ h => by cases h)
    have hv := hD.val ho
    have h' : From T i (decT n [] ++ r) := h
    have hcut : Ck.cut T i (i + (decT n []).length) = ⟨(decT n []).toArray⟩ := h'.cut
    have hdg : ∀ c ∈ decT n [], isDigit (c.toNat : Int) = true := fun c hc => by
      have := hdig c hc
      unfold isDigit
      simp
      omega
    have hov : overF isDigit T i = i + (decT n []).length := From.over (word_stop hf) h' hdg
    have hti := h'.app.tight hf
    have hE : endI T i = i + (decT n []).length ∧ isDigit (Ck.byte T i) = true := by
      unfold endI
      by_cases h0 : n = 0
      · subst h0
        rw [dec_zero] at h' ⊢
        rw [(From.head (r := r) h').2.1]
        exact ⟨rfl, by decide⟩
      · obtain ⟨c, q, hc, hc2⟩ := dec_head n [] (by omega)
        have hb : Ck.byte T i = (c.toNat : Int) := by
          rw [hc] at h'
          exact (From.head (r := q ++ r) h').2.1
        rw [if_neg (by rw [hb]; omega)]
        exact ⟨hov, by rw [hb]; exact hdg c (by rw [hc]; simp)⟩
    rw [tokF_digit hE.2]
    unfold intF
    rw [hE.1, hcut, hv]
    dsimp only
    rw [hti]
    rfl
  | flo u =>
    have h1 := From.head (r := hxs u 16 ++ r) h
    have hlen : (hxs u 16).length = 16 := hxs_len u 16
    have hsz := h1.2.2.len
    rw [List.length_append] at hsz
    have hH : overH T i (i + 1) = i + 17 := overH_eq (by omega) (by omega) (fun k h2 h3 => by
      have hb := h1.2.2.byte (k - (i + 1)) (by rw [List.length_append]; omega)
      rw [List.getElem_append_left (by omega), show i + 1 + (k - (i + 1)) = k by omega] at hb
      exact ⟨by rw [hb]; exact hxs_all u 16 _ (List.getElem_mem _), by omega⟩) (.inr (by omega))
    have hti := h1.2.2.app.tight hf
    rw [hlen, show i + 1 + 16 = i + 17 by omega] at hti
    have hcut : Ck.cut T i (i + 17) = ⟨(35 :: hxs u 16).toArray⟩ := by
      have := From.cut (a := 35 :: hxs u 16) h
      rw [List.length_cons, hlen] at this
      exact this
    have hcut2 : Ck.cut T (i + 1) (i + 17) = ⟨(hxs u 16).toArray⟩ := by
      have := From.cut (a := hxs u 16) h1.2.2
      rw [hlen, show i + 1 + 16 = i + 17 by omega] at this
      exact this
    have hval : hexF (hxs u 16) = u := by rw [hxs_val u 16 ho (by omega)]; simp
    unfold tokF
    rw [h1.2.1, if_neg (by decide), if_neg (by decide), if_pos (by decide)]
    unfold floatF
    rw [hH, if_pos (by omega), hti, hcut, hcut2]
    simp only [Pc.tok, Pc.bytes, List.length_cons, hlen, hval]
    rfl
  | mark m =>
    rcases ho with ⟨c, rfl, hc⟩ | ⟨c, d, rfl, hcd⟩
    · have h1 := From.head (r := r) h
      obtain ⟨a1, a2, a3, _⟩ := one_first _ hc
      have hcut : Ck.cut T i (i + 1) = ⟨#[c]⟩ := From.cut (a := [c]) h
      have hm : markF T i = 1 := by
        unfold markF
        rw [h1.2.1, if_neg (fun h2 => ?_), if_pos ⟨h1.1, hc⟩]
        cases r with
        | nil =>
          have := h1.2.2.nil
          omega
        | cons d r =>
          have hf' : fit1 c (d :: r) := hf
          rw [h1.2.2.head.2.1, hf'.1] at h2
          exact absurd h2.2 (by decide)
      unfold tokF
      rw [h1.2.1, a1, a2, if_neg (by decide), if_neg (by decide), if_neg a3]
      unfold signF
      rw [hm, if_neg (by decide), hcut]
      rfl
    · have h1 := From.head (r := d :: r) h
      have h2 := h1.2.2.head
      obtain ⟨a1, a2, a3, _⟩ := two_first hcd
      have hcut : Ck.cut T i (i + 2) = ⟨#[c, d]⟩ := From.cut (a := [c, d]) h
      have hm : markF T i = 2 := by
        unfold markF
        rw [h1.2.1, h2.2.1, if_pos ⟨h2.1, hcd⟩]
      unfold tokF
      rw [h1.2.1, a1, a2, if_neg (by decide), if_neg (by decide), if_neg a3]
      unfold signF
      rw [hm, if_neg (by decide), hcut]
      rfl

/-- no blank and no remark stands here -/
def starts : List UInt8 → Prop
  | [] => True
  | [c] => isBlank (c.toNat : Int) = false
  | c :: d :: _ => isBlank (c.toNat : Int) = false ∧ ¬ (c = 47 ∧ d = 47)
theorem starts_of {c : UInt8} {r : List UInt8} (h1 : isBlank (c.toNat : Int) = false) (h2 : ¬ c = 47) : starts (c :: r) := by
  cases r with
  | nil => exact h1
  | cons d r => exact ⟨h1, fun h => h2 h.1⟩
theorem starts_blank {r : List UInt8} (h : starts r) : stops isBlank r := by
  match r, h with
  | [], _ => trivial
  | [c], h => exact h
  | c :: d :: r, h => exact h.1
theorem u8_47 {c : UInt8} (h : (c.toNat : Int) = 47) : c = 47 := by
  apply UInt8.toNat_inj.1
  show c.toNat = 47
  omega
theorem From.blF {T : ByteArray} {i : Nat} {sp r : List UInt8} (h : From T i (sp ++ r)) (hb : ∀ c ∈ sp, isBlank (c.toNat : Int) = true) (hs : starts r) : Ck.blF T i = i + sp.length := by
  unfold Ck.blF
  rw [From.over (starts_blank hs) h hb]
  refine skipC_no ?_
  have h1 := h.app
  unfold Ck.comm
  match r, hs, h1 with
  | [], _, h1 =>
    have := h1.nil
    rw [decide_eq_false (by omega), Bool.false_and]
  | [c], _, h1 =>
    have := h1.len
    simp at this
    rw [decide_eq_false (by omega), Bool.false_and]
  | c :: d :: r, hs, h1 =>
    rw [h1.head.2.1, h1.head.2.2.head.2.1]
    cases hx : ((c.toNat : Int) == 47 && (d.toNat : Int) == 47) with
    | false => rw [Bool.and_false]
    | true =>
      simp at hx
      exact absurd ⟨u8_47 (by omega), u8_47 (by omega)⟩ hs.2
theorem letter_first {c : UInt8} (h : isLetter (c.toNat : Int) = true) : isBlank (c.toNat : Int) = false ∧ ¬ c = 47 := by
  unfold isLetter at h
  simp at h
  constructor
  · unfold isBlank
    simp
    omega
  · rintro rfl
    revert h
    decide
theorem Pc.begins {p : Pc} {r : List UInt8} (ho : p.Ok) (hf : p.Fit r) : starts (p.bytes ++ r) := by
  cases p with
  | word w =>
    obtain ⟨c, l, rfl, hc, hl, hn⟩ := ho
    have := letter_first hc
    exact starts_of (r := l ++ r) this.1 this.2
  | int n =>
    have hdig := digs_dec n [] (fun _ h => by cases h)
    show starts (decT n [] ++ r)
    cases hd : decT n [] with
    | nil =>
      have hD : Dec ⟨(decT n []).toArray⟩ n := by unfold Dec; rfl
      have hz := hD.size ho
      have hz2 : (⟨(decT n []).toArray⟩ : ByteArray).size = (decT n []).length := by show (decT n []).toArray.size = _; simp
      rw [hz2, hd] at hz
      simp at hz
    | cons c q =>
      have hc := hdig c (by rw [hd]; simp)
      refine starts_of (r := q ++ r) ?_ ?_
      · unfold isBlank
        simp
        omega
      · rintro rfl
        revert hc
        decide
  | flo u => exact starts_of (r := hxs u 16 ++ r) (by decide) (by decide)
  | mark m =>
    rcases ho with ⟨c, rfl, hc⟩ | ⟨c, d, rfl, hcd⟩
    · obtain ⟨_, _, _, a4⟩ := one_first _ hc
      cases r with
      | nil => exact a4
      | cons d r =>
        have hf' : fit1 c (d :: r) := hf
        exact ⟨a4, hf'.2⟩
    · obtain ⟨_, _, _, a4, a5⟩ := two_first hcd
      exact ⟨a4, fun h => a5 (by rw [h.1]; rfl)⟩

/-- tokens, each with blanks behind it, as they are written -/
def spell : List (Pc × List UInt8) → List UInt8
  | [] => []
  | (p, sp) :: l => p.bytes ++ (sp ++ spell l)
def Sits : List (Pc × List UInt8) → Prop
  | [] => True
  | (p, sp) :: l => p.Ok ∧ p.Fit (sp ++ spell l) ∧ (∀ c ∈ sp, isBlank (c.toNat : Int) = true) ∧ Sits l
def toksOf : Nat → List (Pc × List UInt8) → List Tk
  | _, [] => []
  | i, (p, sp) :: l => p.tok i :: toksOf (i + p.bytes.length + sp.length) l
theorem Sits.begins : ∀ {l : List (Pc × List UInt8)}, Sits l → starts (spell l)
  | [], _ => trivial
  | (_, _) :: _, h => Pc.begins h.1 h.2.1
theorem Pc.ne {p : Pc} (ho : p.Ok) : 0 < p.bytes.length := by
  cases p with
  | word w =>
    obtain ⟨c, l, rfl, hc, hl, hn⟩ := ho
    exact Nat.succ_pos _
  | int n =>
    have hD : Dec ⟨(decT n []).toArray⟩ n := by unfold Dec; rfl
    have hz := hD.size ho
    have hz2 : (⟨(decT n []).toArray⟩ : ByteArray).size = (decT n []).length := by show (decT n []).toArray.size = _; simp
    show 0 < (decT n []).length
    omega
  | flo u => exact Nat.succ_pos _
  | mark m =>
    rcases ho with ⟨c, rfl, hc⟩ | ⟨c, d, rfl, hcd⟩ <;> exact Nat.succ_pos _
theorem rd_spell {T : ByteArray} : ∀ (l : List (Pc × List UInt8)) (i : Nat) (acc : List Tk), From T i (spell l) → Sits l → acc.length + l.length ≤ 2000 → rdF T i acc = .ok (acc ++ toksOf i l)
  | [], i, acc, h, _, _ => by
    have := h.nil
    rw [rdF_end (by omega)]
    simp [toksOf]
  | (p, sp) :: l, i, acc, h, hf, hn => by
    have h' : From T i (p.bytes ++ (sp ++ spell l)) := h
    have hlt : i < T.size := by
      have h1 := h'.len
      have h2 := p.ne hf.1
      rw [List.length_append] at h1
      omega
    rw [List.length_cons] at hn
    rw [rdF_step hlt (by omega) (Pc.lex h' hf.1 hf.2.1), h'.app.blF hf.2.2.1 hf.2.2.2.begins, rd_spell l _ _ h'.app.app hf.2.2.2 (by rw [List.length_append]; simp; omega)]
    simp [toksOf]
theorem rd_long {T : ByteArray} : ∀ (l : List (Pc × List UInt8)) (i : Nat) (acc : List Tk), From T i (spell l) → Sits l → acc.length ≤ 2000 → 2000 < acc.length + l.length → ∃ k q, rdF T i acc = .bad k q
  | [], i, acc, h, _, h1, h2 => by
    simp at h2
    omega
  | (p, sp) :: l, i, acc, h, hf, h1, h2 => by
    have h' : From T i (p.bytes ++ (sp ++ spell l)) := h
    have hlt : i < T.size := by
      have h1 := h'.len
      have h2 := p.ne hf.1
      rw [List.length_append] at h1
      omega
    by_cases ha : acc.length = 2000
    · exact ⟨_, _, rdF_full hlt ha⟩
    · rw [List.length_cons] at h2
      rw [rdF_step hlt ha (Pc.lex h' hf.1 hf.2.1), h'.app.blF hf.2.2.1 hf.2.2.2.begins]
      exact rd_long l _ _ h'.app.app hf.2.2.2 (by rw [List.length_append]; simp; omega) (by rw [List.length_append]; simp; omega)
theorem from_zero (T : ByteArray) : From T 0 T.data.toList := ⟨Nat.zero_le _, by simp⟩
theorem read_spell {T : ByteArray} {l : List (Pc × List UInt8)} (h : T.data.toList = spell l) (hf : Sits l) (hn : l.length ≤ 2000) : readF T = .ok (toksOf 0 l) := by
  have h0 := from_zero T
  rw [h] at h0
  have hb : Ck.blF T 0 = 0 := From.blF (sp := []) h0 (fun _ h => by cases h) hf.begins
  unfold readF
  rw [hb, rd_spell l 0 [] h0 hf (by simp; omega)]
  rfl
theorem read_long {T : ByteArray} {l : List (Pc × List UInt8)} (h : T.data.toList = spell l) (hf : Sits l) (hn : 2000 < l.length) : ∃ k q, readF T = .bad k q := by
  have h0 := from_zero T
  rw [h] at h0
  have hb : Ck.blF T 0 = 0 := From.blF (sp := []) h0 (fun _ h => by cases h) hf.begins
  unfold readF
  rw [hb]
  exact rd_long l 0 [] h0 hf (by simp) (by simp; omega)
theorem toksOf_len : ∀ (l : List (Pc × List UInt8)) (i : Nat), (toksOf i l).length = l.length
  | [], _ => rfl
  | (_, _) :: l, i => by simp [toksOf, toksOf_len l]

end Go.Proofs.YtogeblmppagabaaGreatDoor.Ck
