/- Brackets around a text: its tree. No Go text is walked here. -/
import Derived.Test.YtogeblmppagabaaGreatDoorHmQ
namespace Go.Proofs.YtogeblmppagabaaGreatDoor.Ck
open Go.RowKit

mutual
/-- a tree one byte further on -/
def mvN : Nd → Nd
  | .mk k p nm t n z o b ks => .mk k (p + 1) nm t n z o b (mvK ks)
def mvK : List Nd → List Nd
  | [] => []
  | n :: ks => mvN n :: mvK ks
end
structure Mv (L M : List Tk) (m : Nat) : Prop where
  at_ : ∀ i, i < m → tkAt M (i + 1) = (tkAt L i).move 1
  endL : ∀ i, m ≤ i → (tkAt L i).text = ⟨#[]⟩ ∧ (tkAt L i).kind = 0
  endM : ∀ i, m ≤ i → (tkAt M (i + 1)).text = ⟨#[41]⟩ ∨ (tkAt M (i + 1)).text = ⟨#[]⟩
theorem has_text {L : List Tk} {i : Nat} {zs : List ByteArray} (h : has L i zs = true) : (tkAt L i).text ∈ zs := (Lib.containsS_iff _ _).1 h
theorem has_of {L : List Tk} {i : Nat} {zs : List ByteArray} (h : (tkAt L i).text ∈ zs) : has L i zs = true := (Lib.containsS_iff _ _).2 h
theorem Mv.same {L M : List Tk} {m : Nat} (h : Mv L M m) {i : Nat} (hi : i < m) (zs : List ByteArray) : has M (i + 1) zs = has L i zs := by
  unfold has tx
  rw [h.at_ i hi]
  rfl
theorem Mv.yes {L M : List Tk} {m : Nat} (h : Mv L M m) {i : Nat} {zs : List ByteArray} (hz : ∀ z ∈ zs, z.size ≠ 0) (hh : has L i zs = true) : i < m ∧ has M (i + 1) zs = true := by
  have hi : i < m := Nat.lt_of_not_le (fun hle => by
    have h1 := has_text hh
    rw [(h.endL i hle).1] at h1
    exact hz _ h1 rfl)
  exact ⟨hi, by rw [h.same hi]; exact hh⟩
theorem Mv.no {L M : List Tk} {m : Nat} (h : Mv L M m) {i : Nat} {zs : List ByteArray} (hz : ∀ z ∈ zs, z.size ≠ 0 ∧ z ≠ ⟨#[41]⟩) (hh : ¬ has L i zs = true) : ¬ has M (i + 1) zs = true := by
  by_cases hi : i < m
  · rw [h.same hi]
    exact hh
  · intro h2
    have h1 := has_text h2
    rcases h.endM i (by omega) with e | e
    · rw [e] at h1
      exact (hz _ h1).2 rfl
    · rw [e] at h1
      exact (hz _ h1).1 rfl
/-- what comes out one byte and one level further on -/
def Sim (o o' : Out) : Prop := ∀ n j, o = .ok n j → (∃ k q, o' = .bad k q) ∨ o' = .ok (mvN n) (j + 1)
theorem mv_pos (n : Nd) : (mvN n).pos = n.pos + 1 := by cases n; rfl
theorem mv_bin (n m : Nd) (op : ByteArray) : binN (mvN n) op (mvN m) = mvN (binN n op m) := by
  unfold binN nd
  rw [mv_pos]
  rfl
theorem rowF_sim {L M : List Tk} {m : Nat} (h : Mv L M m) {rule rule' : Nat → Out} (hr : ∀ q, Sim (rule q) (rule' (q + 1))) {zs : List ByteArray} (hz : ∀ z ∈ zs, z.size ≠ 0 ∧ z ≠ ⟨#[41]⟩) : ∀ (f f' : Nat), f ≤ f' → ∀ (j : Nat) (n : Nd), Sim (rowF rule zs L f j n) (rowF rule' zs M f' (j + 1) (mvN n))
  | 0, _, _, _, _ => fun a b hh => by unfold rowF at hh; cases hh
  | f + 1, 0, hf, _, _ => by omega
  | f + 1, f' + 1, hf, j, n => fun a b hh => by
    unfold rowF at hh ⊢
    by_cases hc : has L j zs = true
    · obtain ⟨hi, hc2⟩ := h.yes (fun z hzz => (hz z hzz).1) hc
      rw [if_pos hc] at hh
      rw [if_pos hc2]
      cases hq : rule (j + 1) with
      | bad k q => rw [hq] at hh; cases hh
      | ok m2 q =>
        rw [hq] at hh
        rcases hr (j + 1) m2 q hq with ⟨k, q2, e⟩ | e
        · rw [e]
          exact .inl ⟨k, q2, rfl⟩
        · rw [e]
          dsimp only at hh ⊢
          have e2 : tx M (j + 1) = tx L j := by unfold tx; rw [h.at_ j hi]; rfl
          rw [e2, mv_bin]
          exact rowF_sim h hr hz f f' (by omega) q _ a b hh
    · rw [if_neg hc] at hh
      rw [if_neg (h.no hz hc)]
      cases hh
      exact .inr rfl
theorem rowO_sim {L M : List Tk} {m : Nat} (h : Mv L M m) {rule rule' : Nat → Out} (hr : ∀ q, Sim (rule q) (rule' (q + 1))) {zs : List ByteArray} (hz : ∀ z ∈ zs, z.size ≠ 0 ∧ z ≠ ⟨#[41]⟩) {f f' : Nat} (hf : f ≤ f') (i : Nat) : Sim (rowO rule zs L f i) (rowO rule' zs M f' (i + 1)) := fun a b hh => by
  unfold rowO at hh ⊢
  cases hq : rule i with
  | bad k q => rw [hq] at hh; cases hh
  | ok n q =>
    rw [hq] at hh
    rcases hr i n q hq with ⟨k, q2, e⟩ | e
    · rw [e]
      exact .inl ⟨k, q2, rfl⟩
    · rw [e]
      exact rowF_sim h hr hz f f' hf q n a b hh
theorem cmpO_sim {L M : List Tk} {m : Nat} (h : Mv L M m) {rule rule' : Nat → Out} (hr : ∀ q, Sim (rule q) (rule' (q + 1))) (i : Nat) : Sim (cmpO rule L i) (cmpO rule' M (i + 1)) := fun a b hh => by
  have hz : ∀ z ∈ cmpT, z.size ≠ 0 ∧ z ≠ ⟨#[41]⟩ := by decide
  unfold cmpO at hh ⊢
  cases hq : rule i with
  | bad k q => rw [hq] at hh; cases hh
  | ok n q =>
    rw [hq] at hh
    rcases hr i n q hq with ⟨k, q2, e⟩ | e
    · rw [e]
      exact .inl ⟨k, q2, rfl⟩
    · rw [e]
      dsimp only at hh ⊢
      by_cases hc : has L q cmpT = true
      · obtain ⟨hi, hc2⟩ := h.yes (fun z hzz => (hz z hzz).1) hc
        rw [if_pos hc] at hh
        rw [if_pos hc2]
        cases hq2 : rule (q + 1) with
        | bad k q => rw [hq2] at hh; cases hh
        | ok m2 q3 =>
          rw [hq2] at hh
          rcases hr (q + 1) m2 q3 hq2 with ⟨k, q2, e⟩ | e
          · rw [e]
            exact .inl ⟨k, q2, rfl⟩
          · rw [e]
            unfold binO at hh ⊢
            have e2 : tx M (q + 1) = tx L q := by unfold tx; rw [h.at_ q hi]; rfl
            cases hh
            exact .inr (by rw [e2]; dsimp only; rw [mv_bin])
      · rw [if_neg hc] at hh
        rw [if_neg (h.no hz hc)]
        cases hh
        exact .inr rfl
theorem wrapO_sim {L M : List Tk} {m : Nat} (h : Mv L M m) {r r' : Out} (hr : Sim r r') (l i : Nat) {op sh : ByteArray} (ho : op.size ≠ 0) (hs : sh.size ≠ 0) : Sim (wrapO L l i op sh r) (wrapO M (l + 1) (i + 1) op sh r') := fun a b hh => by
  unfold wrapO at hh ⊢
  split at hh
  · rename_i hc
    obtain ⟨hi, hc2⟩ := h.yes (by simpa using ho) hc
    rw [if_pos hc2]
    split at hh
    · cases hh
    · by_cases h16 : l + 1 = 16
      · rw [if_pos h16]
        exact .inl ⟨_, _, rfl⟩
      · rw [if_neg h16]
        cases r with
        | bad k q => cases hh
        | ok n q =>
          rcases hr n q rfl with ⟨k, q2, e⟩ | e
          · rw [e]
            exact .inl ⟨k, q2, rfl⟩
          · rw [e]
            dsimp only at hh ⊢
            split at hh
            · rename_i hc3
              rw [if_pos (h.yes (by simpa using hs) hc3).2]
              cases hh
              exact .inr rfl
            · cases hh
  · cases hh
theorem primO_sim {L M : List Tk} {m : Nat} (h : Mv L M m) {r1 r1' r2 r2' : Out} (h1 : Sim r1 r1') (h2 : Sim r2 r2') (l i : Nat) : Sim (primO L l i r1 r2) (primO M (l + 1) (i + 1) r1' r2') := fun a b hh => by
  by_cases hi : i < m
  · have e := h.at_ i hi
    have hk : (tkAt M (i + 1)).kind = (tkAt L i).kind := by rw [e]; rfl
    have hp : ((tkAt M (i + 1)).pos : Int) = (tkAt L i).pos + 1 := by rw [e]; rfl
    have hx : tx M (i + 1) = tx L i := by unfold tx; rw [e]; rfl
    have hn : (tkAt M (i + 1)).n = (tkAt L i).n := by rw [e]; rfl
    have hb : (tkAt M (i + 1)).bits = (tkAt L i).bits := by rw [e]; rfl
    unfold primO at hh ⊢
    rw [hk, hp, hn, hb, h.same hi, h.same hi, h.same hi]
    by_cases k3 : (tkAt L i).kind = 3
    · rw [if_pos k3] at hh ⊢
      cases hh
      exact .inr rfl
    rw [if_neg k3] at hh ⊢
    by_cases k4 : (tkAt L i).kind = 4
    · rw [if_pos k4] at hh ⊢
      cases hh
      exact .inr rfl
    rw [if_neg k4] at hh ⊢
    by_cases k1 : (tkAt L i).kind = 1
    · rw [if_pos k1] at hh ⊢
      unfold targetO at hh ⊢
      rw [hk, hp, hx]
      rw [if_pos k1] at hh ⊢
      by_cases hc : has L (i + 1) [bOpn] = true
      · rw [if_pos hc] at hh
        rw [if_pos (h.yes (by decide) hc).2]
        cases hq : wrapO L l (i + 1) bOpn bSht r2 with
        | bad k q => rw [hq] at hh; cases hh
        | ok n q =>
          rw [hq] at hh
          rcases wrapO_sim h h2 l (i + 1) (by decide) (by decide) n q hq with ⟨k, q2, e⟩ | e
          · rw [e]
            exact .inl ⟨k, q2, rfl⟩
          · rw [e]
            cases hh
            exact .inr rfl
      · rw [if_neg hc] at hh
        rw [if_neg (h.no (by decide) hc)]
        cases hh
        exact .inr rfl
    rw [if_neg k1] at hh ⊢
    by_cases t1 : has L i [⟨#[116, 114, 117, 101]⟩] = true
    · rw [if_pos t1] at hh ⊢
      cases hh
      exact .inr rfl
    rw [if_neg t1] at hh ⊢
    by_cases t2 : has L i [⟨#[102, 97, 108, 115, 101]⟩] = true
    · rw [if_pos t2] at hh ⊢
      cases hh
      exact .inr rfl
    rw [if_neg t2] at hh ⊢
    by_cases t3 : has L i [⟨#[105, 110, 116]⟩, ⟨#[102, 108, 111, 97, 116]⟩] = true
    · rw [if_pos t3] at hh ⊢
      unfold convO at hh ⊢
      rw [hp, hx]
      cases hq : wrapO L l (i + 1) bOpen bShut r2 with
      | bad k q => rw [hq] at hh; cases hh
      | ok n q =>
        rw [hq] at hh
        rcases wrapO_sim h h2 l (i + 1) (by decide) (by decide) n q hq with ⟨k, q2, e⟩ | e
        · rw [e]
          exact .inl ⟨k, q2, rfl⟩
        · rw [e]
          cases hh
          exact .inr rfl
    rw [if_neg t3] at hh ⊢
    exact wrapO_sim h h1 l i (by decide) (by decide) a b hh
  · exfalso
    obtain ⟨e1, e2⟩ := h.endL i (by omega)
    have hno : ∀ zs : List ByteArray, (∀ z ∈ zs, z.size ≠ 0) → ¬ has L i zs = true := fun zs hz hh => by
      have h1 := has_text hh
      rw [e1] at h1
      exact hz _ h1 rfl
    unfold primO at hh
    rw [if_neg (by omega), if_neg (by omega), if_neg (by omega), if_neg (hno _ (by decide)), if_neg (hno _ (by decide)), if_neg (hno _ (by decide))] at hh
    unfold wrapO at hh
    rw [if_neg (hno _ (by decide))] at hh
    cases hh
theorem pz_sim {L M : List Tk} {m : Nat} (h : Mv L M m) (hlen : L.length ≤ M.length) : ∀ (f F : Nat), f ≤ F → ∀ (rk l i : Nat), Sim (pz L f rk l i) (pz M F rk (l + 1) (i + 1))
  | 0, _, _, _, _, _ => fun a b hh => by unfold pz at hh; cases hh
  | f + 1, 0, hf, _, _, _ => by omega
  | f + 1, F + 1, hf, 0, l, i => by
    rw [pz0, pz0]
    exact rowO_sim h (fun q => pz_sim h hlen f F (by omega) 1 l q) (by decide) hlen i
  | f + 1, F + 1, hf, 1, l, i => by
    rw [pz1, pz1]
    exact rowO_sim h (fun q => pz_sim h hlen f F (by omega) 2 l q) (by decide) hlen i
  | f + 1, F + 1, hf, 2, l, i => by
    rw [pz2, pz2]
    exact cmpO_sim h (fun q => pz_sim h hlen f F (by omega) 3 l q) i
  | f + 1, F + 1, hf, 3, l, i => by
    rw [pz3, pz3]
    exact rowO_sim h (fun q => pz_sim h hlen f F (by omega) 4 l q) (by decide) hlen i
  | f + 1, F + 1, hf, 4, l, i => by
    rw [pz4, pz4]
    exact rowO_sim h (fun q => pz_sim h hlen f F (by omega) 5 l q) (by decide) hlen i
  | f + 1, F + 1, hf, 5, l, i => fun a b hh => by
    rw [pz5] at hh ⊢
    by_cases hc : has L i unT = true
    · obtain ⟨hi, hc2⟩ := h.yes (by decide) hc
      rw [if_pos hc] at hh
      rw [if_pos hc2]
      unfold unO at hh ⊢
      split at hh
      · cases hh
      · by_cases h16 : l + 1 = 16
        · rw [if_pos h16]
          exact .inl ⟨_, _, rfl⟩
        · rw [if_neg h16]
          cases hq : pz L f 5 (l + 1) (i + 1) with
          | bad k q => rw [hq] at hh; cases hh
          | ok n q =>
            rw [hq] at hh
            rcases pz_sim h hlen f F (by omega) 5 (l + 1) (i + 1) n q hq with ⟨k, q2, e⟩ | e
            · rw [e]
              exact .inl ⟨k, q2, rfl⟩
            · rw [e]
              have hp : ((tkAt M (i + 1)).pos : Int) = (tkAt L i).pos + 1 := by rw [h.at_ i hi]; rfl
              have hx : tx M (i + 1) = tx L i := by unfold tx; rw [h.at_ i hi]; rfl
              cases hh
              dsimp only
              rw [hp, hx]
              exact .inr rfl
    · rw [if_neg hc] at hh
      rw [if_neg (h.no (by decide) hc)]
      exact pz_sim h hlen f F (by omega) 6 l i a b hh
  | f + 1, F + 1, hf, rk + 6, l, i => by
    rw [pz6, pz6]
    exact primO_sim h (pz_sim h hlen f F (by omega) 0 (l + 1) (i + 1)) (pz_sim h hlen f F (by omega) 0 (l + 1) (i + 1 + 1)) l i

end Go.Proofs.YtogeblmppagabaaGreatDoor.Ck
