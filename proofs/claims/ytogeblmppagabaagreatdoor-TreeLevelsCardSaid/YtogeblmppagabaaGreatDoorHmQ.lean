/- Brackets around a text: the rows of tokens. No Go text is walked here. -/
import Derived.Test.YtogeblmppagabaaGreatDoorHlQ
namespace Go.Proofs.YtogeblmppagabaaGreatDoor.Ck
open Go.RowKit

def opnTk : Tk := ⟨5, ⟨#[40]⟩, 0, 0, 0⟩
def shtTk (n : Nat) : Tk := ⟨5, ⟨#[41]⟩, 0, 0, n⟩
/-- T is a bracket, s, and a bracket -/
structure Br (s U T : ByteArray) : Prop where
  bk : Bk s U
  sh : Sh U T 1
  hd : byte T 0 = 40
  c0 : cut T 0 1 = ⟨#[40]⟩
  ce : cut T (1 + s.size) (1 + s.size + 1) = ⟨#[41]⟩
theorem tok_mark {T : ByteArray} {i : Nat} {c : Int} (hi : i < T.size) (hc : byte T i = c) (h : c = 40 ∨ c = 41) : tokF T i = .ok ⟨5, cut T i (i + 1), 0, 0, i⟩ (i + 1) := by
  have hm : markF T i = 1 := by
    unfold markF
    rw [hc, if_neg (fun h2 => ?_), if_pos ⟨hi, by rcases h with rfl | rfl <;> decide⟩]
    have h3 := h2.2
    unfold two at h3
    rcases h with rfl | rfl <;> simp at h3
  unfold tokF
  rw [hc]
  rw [if_neg (by rcases h with rfl | rfl <;> decide), if_neg (by rcases h with rfl | rfl <;> decide), if_neg (by rcases h with rfl | rfl <;> decide)]
  unfold signF
  rw [hm, if_neg (by decide)]
/-- what the tokens of the text between brackets are -/
def Among (r : Ended) (A B : List Tk) : Prop := (∃ k q, r = .bad k q) ∨ r = .ok A ∨ r = .ok B
theorem Br.rdF {s U T : ByteArray} (h : Br s U T) : ∀ {i I : Nat} {acc ts : List Tk}, rdF s i acc = .ok ts → i ≤ s.size → (I = 1 + i ∨ (i = s.size ∧ I = T.size)) →
    Among (rdF T I (opnTk :: acc.map (Tk.move 1))) (opnTk :: (ts.map (Tk.move 1) ++ [shtTk (1 + s.size)])) (opnTk :: ts.map (Tk.move 1)) := fun {i I acc ts} hr hi hI => by
  have z1 := h.bk.siz
  have z2 := h.sh.siz
  by_cases h1 : i < s.size
  · have hI : I = 1 + i := by omega
    subst hI
    by_cases h2 : acc.length = 2000
    · rw [rdF_full h1 h2] at hr
      cases hr
    · cases hq : Ck.tokF s i with
      | bad k j =>
        rw [rdF_bad h1 h2 hq] at hr
        cases hr
      | ok t e =>
        have ho := tokF_ok h1 hq
        have hg := blF_ge s e
        rw [rdF_step h1 h2 hq] at hr
        have hT : Ck.tokF T (1 + i) = .ok (t.move 1) (1 + e) := by rw [h.sh.tokF, h.bk.tokF i h1, hq]; rfl
        by_cases h3 : (opnTk :: acc.map (Tk.move 1)).length = 2000
        · rw [rdF_full (show 1 + i < T.size by omega) h3]
          exact .inl ⟨_, _, rfl⟩
        · rw [rdF_step (show 1 + i < T.size by omega) h3 hT]
          have e2 : opnTk :: acc.map (Tk.move 1) ++ [t.move 1] = opnTk :: (acc ++ [t]).map (Tk.move 1) := by simp
          rw [e2, h.sh.blF]
          refine h.rdF hr (blF_le s e ho.2) ?_
          rcases h.bk.blF e ho.2 with e3 | ⟨e3, e4⟩
          · rw [e3]
            exact .inl rfl
          · rw [e4]
            exact .inr ⟨e3, by omega⟩
  · rw [rdF_end h1] at hr
    cases hr
    have e : i = s.size := by omega
    subst e
    rcases hI with rfl | ⟨_, rfl⟩
    · have hb : byte T (1 + s.size) = 41 := by rw [h.sh.byt, h.bk.end_]
      have hT := tok_mark (show 1 + s.size < T.size by omega) hb (.inr rfl)
      by_cases h3 : (opnTk :: acc.map (Tk.move 1)).length = 2000
      · rw [rdF_full (show 1 + s.size < T.size by omega) h3]
        exact .inl ⟨_, _, rfl⟩
      · rw [rdF_step (show 1 + s.size < T.size by omega) h3 hT]
        have hb2 : Ck.blF T (1 + s.size + 1) = T.size := by
          have e5 : 1 + s.size + 1 = T.size := by omega
          rw [e5]
          unfold Ck.blF
          rw [overF_end _ T _ (by omega)]
          exact skipC_no (by unfold Ck.comm; rw [decide_eq_false (by omega), Bool.false_and])
        rw [hb2, rdF_end (by omega), h.ce]
        exact .inr (.inl (by simp [shtTk]))
    · rw [rdF_end (by omega)]
      exact .inr (.inr rfl)
termination_by i => s.size - i
theorem Br.readF {s U T : ByteArray} (h : Br s U T) {ts : List Tk} (hr : readF s = .ok ts) : Among (readF T) (opnTk :: (ts.map (Tk.move 1) ++ [shtTk (1 + s.size)])) (opnTk :: ts.map (Tk.move 1)) := by
  have z1 := h.bk.siz
  have z2 := h.sh.siz
  have hb0 : Ck.blF T 0 = 0 := by
    unfold Ck.blF
    rw [overF_stop _ T 0 (by rw [h.hd]; decide)]
    exact skipC_no (by unfold Ck.comm; rw [h.hd]; simp)
  unfold Ck.readF at hr ⊢
  rw [hb0, rdF_step (show 0 < T.size by omega) (by simp) (tok_mark (show 0 < T.size by omega) h.hd (.inl rfl)), h.c0]
  rw [show (0 + 1 : Nat) = 1 + 0 from rfl, h.sh.blF]
  refine h.rdF hr (blF_le s 0 (Nat.zero_le _)) ?_
  rcases h.bk.blF 0 (Nat.zero_le _) with e3 | ⟨e3, e4⟩
  · rw [e3]
    exact .inl rfl
  · rw [e4]
    exact .inr ⟨e3, by omega⟩
theorem Br.of (s : ByteArray) : Br s (s ++ ⟨#[41]⟩) (⟨#[40]⟩ ++ s ++ ⟨#[41]⟩) := by
  have e1 : (s ++ ⟨#[41]⟩).data.toList = s.data.toList ++ [41] := app_list _ _
  have e2 : (⟨#[40]⟩ ++ s ++ ⟨#[41]⟩ : ByteArray).data.toList = [40] ++ (s ++ ⟨#[41]⟩).data.toList := by rw [app_list, app_list, e1, List.append_assoc]
  have hb := Bk.of e1
  have hs : Sh (s ++ ⟨#[41]⟩) (⟨#[40]⟩ ++ s ++ ⟨#[41]⟩) 1 := Sh.mk' (b := ⟨#[40]⟩) e2
  have e3 : s.data.toList.length = s.size := rfl
  have z := hs.siz
  have z1 := hb.siz
  refine ⟨hb, hs, ?_, ?_, ?_⟩
  · rw [byte_list _ 0 (by rw [e2]; simp)]
    simp only [e2]
    rfl
  · apply ba_ext
    unfold cut
    rw [cut_list, e2]
    rfl
  · apply ba_ext
    unfold cut
    rw [cut_list, e2, e1, show 1 + s.size + 1 - (1 + s.size) = 1 by omega]
    rw [show (1 + s.size) = ([40] ++ s.data.toList).length by simp [e3]; omega, ← List.append_assoc, List.drop_left]
    rfl

end Go.Proofs.YtogeblmppagabaaGreatDoor.Ck
