/- Brackets around a text: the same tree, one byte further on. No Go text is walked here. -/
import Derived.Test.YtodgkfniimgfcaaGreatDoorHpQ
namespace Go.Proofs.YtodgkfniimgfcaaGreatDoor.Ck
open Go.RowKit

mutual
theorem same_mv : ∀ (n : Nd), sameN n (mvN n) = true
  | .mk k p nm t n z o b ks => by
    simp [sameN, mvN, same_mvK ks]
theorem same_mvK : ∀ (ks : List Nd), sameK ks (mvK ks) = true
  | [] => by simp [sameK, mvK]
  | n :: ks => by simp [sameK, mvK, same_mv n, same_mvK ks]
end
mutual
theorem cnt_mv : ∀ (n : Nd), cntW (mvN n) = cntW n
  | .mk k p nm t n z o b ks => by simp [cntW, mvN, cnt_mvK ks]
theorem cnt_mvK : ∀ (ks : List Nd) (c : Int), cntK (mvK ks) c = cntK ks c
  | [], c => by simp [mvK]
  | n :: ks, c => by simp [cntK, mvK, cnt_mv n, cnt_mvK ks]
end
mutual
theorem dep_mv : ∀ (n : Nd), depW (mvN n) = depW n
  | .mk k p nm t n z o b ks => by simp [depW, mvN, dep_mvK ks]
theorem dep_mvK : ∀ (ks : List Nd) (c : Int), depK (mvK ks) c = depK ks c
  | [], c => by simp [mvK]
  | n :: ks, c => by simp [depK, mvK, dep_mv n, dep_mvK ks]
end
/-- a tree's place is a token's -/
def Plc (L : List Tk) (o : Out) : Prop := ∀ n j, o = .ok n j → ∃ q, n.pos = ((tkAt L q).pos : Int)
theorem rowF_plc {L : List Tk} {rule : Nat → Out} {zs : List ByteArray} : ∀ (f j : Nat) (n : Nd), (∃ q, n.pos = ((tkAt L q).pos : Int)) → Plc L (rowF rule zs L f j n)
  | 0, _, _, _ => fun a b hh => by unfold rowF at hh; cases hh
  | f + 1, j, n, hn => fun a b hh => by
    unfold rowF at hh
    split at hh
    · cases hq : rule (j + 1) with
      | bad k q => rw [hq] at hh; cases hh
      | ok m q =>
        rw [hq] at hh
        exact rowF_plc f q (binN n (tx L j) m) hn a b hh
    · cases hh
      exact hn
theorem rowO_plc {L : List Tk} {rule : Nat → Out} (hr : ∀ q, Plc L (rule q)) {zs : List ByteArray} (f i : Nat) : Plc L (rowO rule zs L f i) := fun a b hh => by
  unfold rowO at hh
  cases hq : rule i with
  | bad k q => rw [hq] at hh; cases hh
  | ok n q =>
    rw [hq] at hh
    exact rowF_plc f q n (hr i n q hq) a b hh
theorem wrapO_plc {L : List Tk} {r : Out} (hr : Plc L r) (l i : Nat) (op sh : ByteArray) : Plc L (wrapO L l i op sh r) := fun a b hh => by
  unfold wrapO at hh
  split at hh
  · split at hh
    · cases hh
    · cases r with
      | bad k q => cases hh
      | ok n q =>
        dsimp only at hh
        split at hh
        · cases hh
          exact hr _ _ rfl
        · cases hh
  · cases hh
theorem pz_plc (L : List Tk) : ∀ (f rk l i : Nat), Plc L (pz L f rk l i)
  | 0, _, _, _ => fun a b hh => by unfold pz at hh; cases hh
  | f + 1, 0, l, i => by rw [pz0]; exact rowO_plc (fun q => pz_plc L f 1 l q) _ i
  | f + 1, 1, l, i => by rw [pz1]; exact rowO_plc (fun q => pz_plc L f 2 l q) _ i
  | f + 1, 2, l, i => fun a b hh => by
    rw [pz2] at hh
    unfold cmpO at hh
    cases hq : pz L f 3 l i with
    | bad k q => rw [hq] at hh; cases hh
    | ok n q =>
      rw [hq] at hh
      dsimp only at hh
      have hn := pz_plc L f 3 l i n q hq
      split at hh
      · cases hq2 : pz L f 3 l (q + 1) with
        | bad k q => rw [hq2] at hh; cases hh
        | ok m q3 =>
          rw [hq2] at hh
          cases hh
          exact hn
      · cases hh
        exact hn
  | f + 1, 3, l, i => by rw [pz3]; exact rowO_plc (fun q => pz_plc L f 4 l q) _ i
  | f + 1, 4, l, i => by rw [pz4]; exact rowO_plc (fun q => pz_plc L f 5 l q) _ i
  | f + 1, 5, l, i => fun a b hh => by
    rw [pz5] at hh
    split at hh
    · unfold unO at hh
      split at hh
      · cases hh
      · cases hq : pz L f 5 (l + 1) (i + 1) with
        | bad k q => rw [hq] at hh; cases hh
        | ok n q =>
          rw [hq] at hh
          cases hh
          exact ⟨i, rfl⟩
    · exact pz_plc L f 6 l i a b hh
  | f + 1, rk + 6, l, i => fun a b hh => by
    have h1 := pz_plc L f 0 (l + 1) (i + 1)
    rw [pz6] at hh
    unfold primO at hh
    split at hh
    · cases hh; exact ⟨i, rfl⟩
    split at hh
    · cases hh; exact ⟨i, rfl⟩
    split at hh
    · unfold targetO at hh
      rename_i k1
      rw [if_pos k1] at hh
      by_cases hc : has L (i + 1) [bOpn] = true
      · rw [if_pos hc] at hh
        cases hq : wrapO L l (i + 1) bOpn bSht (pz L f 0 (l + 1) (i + 1 + 1)) with
        | bad k q => rw [hq] at hh; cases hh
        | ok n q => rw [hq] at hh; cases hh; exact ⟨i, rfl⟩
      · rw [if_neg hc] at hh
        cases hh
        exact ⟨i, rfl⟩
    split at hh
    · cases hh; exact ⟨i, rfl⟩
    split at hh
    · cases hh; exact ⟨i, rfl⟩
    split at hh
    · unfold convO at hh
      cases hq : wrapO L l (i + 1) bOpen bShut (pz L f 0 (l + 1) (i + 1 + 1)) with
      | bad k q => rw [hq] at hh; cases hh
      | ok n q => rw [hq] at hh; cases hh; exact ⟨i, rfl⟩
    · exact wrapO_plc h1 l i _ _ a b hh
theorem tk_pos {ts : List Tk} {n B : Nat} (h : ∀ t ∈ ts, t.pos ≤ B) (hn : n ≤ B) (q : Nat) : (tkAt (ts ++ [endTk n]) q).pos ≤ B := by
  by_cases hq : q < ts.length
  · rw [tk_in hq]
    exact h _ (List.getElem_mem hq)
  · rw [tk_out (by omega)]
    rcases tk_one (endTk n) (q - ts.length) with e | e <;> rw [e]
    · exact hn
    · exact Nat.zero_le _
/-- what is read of a text that is an expression -/
theorem exprF_ok {s : ByteArray} {a : Nd} (h : exprF s = .ok a) : ∃ ts j, s.size ≤ 8192 ∧ readF s = .ok ts ∧ exD (ts ++ [endTk s.size]) 0 0 = .ok a j ∧ (tkAt (ts ++ [endTk s.size]) j).kind = 0 := by
  unfold exprF readO toksF at h
  split at h
  · cases h
  · rename_i ts hts
    split at hts
    · rename_i hs
      split at h
      · cases h
      · rename_i n j hq
        split at h
        · rename_i hk
          cases h
          exact ⟨ts, j, hs, hts, hq, hk⟩
        · cases h
    · cases hts
theorem exprF_pos {s : ByteArray} {a : Nd} (h : exprF s = .ok a) : 0 ≤ a.pos ∧ a.pos ≤ 8192 := by
  obtain ⟨ts, j, hs, hts, hq, _⟩ := exprF_ok h
  obtain ⟨q, hp⟩ := pz_plc _ _ _ _ _ a j hq
  have := tk_pos (B := 8192) (fun t ht => Nat.le_trans (readF_pos hts t ht) hs) hs q
  rw [hp]
  omega
theorem brackets_model {s : ByteArray} {a : Nd} (hs : s.size ≤ 8190) (h : exprF s = .ok a) :
    (∃ k i, exprF (⟨#[40]⟩ ++ s ++ ⟨#[41]⟩) = .bad k i) ∨ exprF (⟨#[40]⟩ ++ s ++ ⟨#[41]⟩) = .ok (mvN a) := by
  obtain ⟨ts, j, _, hts, hq, hk⟩ := exprF_ok h
  have hB := Br.of s
  have z1 := hB.bk.siz
  have z2 := hB.sh.siz
  generalize (⟨#[40]⟩ ++ s ++ ⟨#[41]⟩ : ByteArray) = T at *
  have hkn := rdF_kind hts (fun _ hx => by cases hx)
  have hjm : ts.length ≤ j := Nat.le_of_not_lt (fun hlt => by
    rw [tk_in hlt] at hk
    exact hkn _ (List.getElem_mem hlt) hk)
  have key : ∀ (b : Bool) (q : Nat), readF T = .ok (opnTk :: (ts.map (Tk.move 1) ++ if b then [shtTk q] else [])) → (∃ k i, exprF T = .bad k i) ∨ exprF T = .ok (mvN a) := fun b q hr => by
    have hM := mv_of ts s.size T.size b q
    generalize hMM : (opnTk :: (ts.map (Tk.move 1) ++ if b then [shtTk q] else [])) ++ [endTk T.size] = M at hM
    have hML : (ts ++ [endTk s.size]).length + 1 ≤ M.length := by
      rw [← hMM]
      cases b <;> simp
    have h0 : tkAt M 0 = opnTk := by rw [← hMM]; rfl
    have e : exprF T = readO (fun L => exD L 0 0) T := rfl
    have et : toksF T = .ok (opnTk :: (ts.map (Tk.move 1) ++ if b then [shtTk q] else [])) := by unfold toksF; rw [if_pos (by omega)]; exact hr
    unfold readO at e
    rw [et] at e
    dsimp only at e
    rw [hMM] at e
    have hops : ∀ x, 0 < x → has M x [bShut] = true → ts.length < x → ∀ zs : List ByteArray, (∀ z ∈ zs, z.size ≠ 0 ∧ z ≠ ⟨#[41]⟩) → ¬ has M (x + 1) zs = true := fun x _ _ hx zs hz hh => by
      have h1 := has_text hh
      rcases hM.endM x (by omega) with e2 | e2
      · rw [e2] at h1
        exact (hz _ h1).2 rfl
      · rw [e2] at h1
        exact (hz _ h1).1 rfl
    have hsim := pz_sim hM (by omega) (8 * (ts ++ [endTk s.size]).length + 7) (8 * M.length) (by omega) 0 0 0 a j hq
    cases ho : exD M 0 0 with
    | bad k i =>
      rw [ho] at e
      exact .inl ⟨_, _, e⟩
    | ok n i =>
      rw [ho] at e
      dsimp only at e
      have hw : n = mvN a := by
        rcases hsim with ⟨k, x, e3⟩ | e3
        · rcases ex_wrap' h0 (by omega) e3 with ⟨k2, x2, e4⟩
          rw [e4] at ho
          cases ho
        · exact ex_wrap'' h0 (by omega) (fun hs2 => hops (j + 1) (by omega) hs2 (by omega)) e3 ho
      subst hw
      split at e
      · exact .inr e
      · exact .inl ⟨_, _, e⟩
  rcases hB.readF hts with ⟨k, q, e⟩ | e | e
  · left
    refine ⟨k, q, ?_⟩
    unfold exprF readO toksF
    rw [if_pos (by omega), e]
  · exact key true (1 + s.size) e
  · exact key false 0 (by rw [e]; simp)

end Go.Proofs.YtodgkfniimgfcaaGreatDoor.Ck
