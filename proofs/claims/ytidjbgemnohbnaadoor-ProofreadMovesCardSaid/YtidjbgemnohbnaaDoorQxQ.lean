/- A code with a Turn put ahead of all, and jumps moved, is right as the code is; no Go text is walked here. -/
import Derived.Test.YtidjbgemnohbnaaDoorGq12
namespace Go.Proofs.YtidjbgemnohbnaaDoor.Ck
open Go.RowKit

def i24 : In5 := ⟨24, 0, 0, 0, 0⟩
def movI (x : In5) : In5 := if 12 ≤ x.op ∧ x.op ≤ 14 then { x with a := x.a + 1 } else x
def movF (f : Fn3) : Fn3 := { f with st := f.st + 1 }
def movC (c : Cd) : Cd := { c with B := i24 :: c.B.map movI, F := match c.F with | [] => [] | f :: l => f :: l.map movF }
theorem movI_op (x : In5) : (movI x).op = x.op := by unfold movI; split <;> rfl
theorem movI_zI : movI zI = zI := rfl
theorem movB_at (c : Cd) (i : Nat) : (movC c).B.getD (i + 1) zI = movI (c.B.getD i zI) := by
  show (i24 :: c.B.map movI).getD (i + 1) zI = _
  simp only [List.getD_eq_getElem?_getD, List.getElem?_cons_succ, List.getElem?_map]
  cases c.B[i]? <;> rfl
theorem movF_at (c : Cd) (i : Nat) : ((movC c).F.getD i zF).pa = (c.F.getD i zF).pa ∧ ((movC c).F.getD i zF).lo = (c.F.getD i zF).lo := by
  unfold movC
  cases c.F with
  | nil => exact ⟨rfl, rfl⟩
  | cons f l =>
    cases i with
    | zero => exact ⟨rfl, rfl⟩
    | succ i =>
      simp only [List.getD_eq_getElem?_getD, List.getElem?_cons_succ, List.getElem?_map]
      cases l[i]? <;> exact ⟨rfl, rfl⟩
theorem movF_len (c : Cd) : (movC c).F.length = c.F.length := by
  unfold movC
  cases c.F <;> simp
theorem mov_step (c : Cd) (lo : List Int) (x : In5) (s : List Int) : stepD (movC c) lo (movI x) s = stepD c lo x s := by
  have hp : ∀ a, parT (movC c) a = parT c a := fun a => by
    unfold parT
    rw [(movF_at c a.toNat).1, (movF_at c a.toNat).2]
  by_cases h : 12 ≤ x.op ∧ x.op ≤ 14
  · have e : movI x = { x with a := x.a + 1 } := by unfold movI; rw [if_pos h]
    rw [e]
    rcases (by omega : x.op = 12 ∨ x.op = 13 ∨ x.op = 14) with h9 | h9 | h9 <;> simp [stepD, h9]
  · have e : movI x = x := by unfold movI; rw [if_neg h]
    rw [e]
    unfold stepD
    rw [hp, (movF_at c x.a.toNat).1]
    rfl
def sucUp (L : List (Int × List Int)) : List (Int × List Int) := L.map fun p => (p.1 + 1, p.2)
theorem mov_jmp {c : Cd} {i : Nat} (hj : isJ (c.B.getD i zI) = true) (h0 : 0 ≤ (c.B.getD i zI).a) : jmpD (movC c) (i + 1) = jmpD c i := by
  have ha : (movI (c.B.getD i zI)).a = (c.B.getD i zI).a + 1 := by
    unfold isJ at hj
    have := of_decide_eq_true hj
    unfold movI
    rw [if_pos (by omega)]
  obtain ⟨k, hk⟩ : ∃ k : Nat, (c.B.getD i zI).a = k := ⟨_, (Int.toNat_of_nonneg h0).symm⟩
  unfold jmpD
  rw [movB_at, ha, hk, show ((k : Int) + 1).toNat = k + 1 by omega, movB_at, movI_op, Int.toNat_natCast]
  congr 1
  apply decide_eq_decide.2
  omega
theorem mov_suc {c : Cd} (lo : List Int) (i : Nat) (s : List Int) (h0 : isJ (c.B.getD i zI) = true → 0 ≤ (c.B.getD i zI).a) : sucD (movC c) lo (i + 1) s = (sucD c lo i s).map sucUp := by
  unfold sucD
  rw [movB_at, mov_step, movI_op]
  have hj : isJ (movI (c.B.getD i zI)) = isJ (c.B.getD i zI) := by unfold isJ; rw [movI_op]
  rw [hj]
  cases stepD c lo (c.B.getD i zI) s with
  | none => rfl
  | some t =>
    simp only [Option.bind_some]
    by_cases hJ : isJ (c.B.getD i zI) = true
    · rw [mov_jmp hJ (h0 hJ)]
      have ha : (movI (c.B.getD i zI)).a = (c.B.getD i zI).a + 1 := by
        unfold isJ at hJ
        have := of_decide_eq_true hJ
        unfold movI
        rw [if_pos (by omega)]
      rw [ha]
      by_cases hb : isJ (c.B.getD i zI) = true ∧ jmpD c i = false
      · rw [if_pos hb, if_pos hb]
        rfl
      · rw [if_neg hb, if_neg hb]
        simp only [Option.map_some, Option.some.injEq, sucUp, List.map_append]
        congr 1
        · split <;> rfl
        congr 1
        · split <;> rfl
        · split
          · simp
          · rfl
    · have n1 : ¬ (isJ (c.B.getD i zI) = true ∧ jmpD (movC c) (i + 1) = false) := fun e => hJ e.1
      have n2 : ¬ (isJ (c.B.getD i zI) = true ∧ jmpD c i = false) := fun e => hJ e.1
      rw [if_neg n1, if_neg n2]
      have h9 : ¬ ((c.B.getD i zI).op = 12 ∨ (c.B.getD i zI).op = 13 ∨ (c.B.getD i zI).op = 14) := fun e => hJ (by unfold isJ; exact decide_eq_true e)
      have e12 : ¬ (c.B.getD i zI).op = 12 := fun e => h9 (.inl e)
      have e13 : ¬ (c.B.getD i zI).op = 13 := fun e => h9 (.inr (.inl e))
      have e14 : ¬ (c.B.getD i zI).op = 14 := fun e => h9 (.inr (.inr e))
      rw [if_neg (show ¬ ((c.B.getD i zI).op = 12 ∨ (c.B.getD i zI).op = 13) by omega), if_neg e14, if_neg (show ¬ ((c.B.getD i zI).op = 12 ∨ (c.B.getD i zI).op = 13) by omega), if_neg e14]
      by_cases hc : (c.B.getD i zI).op ≠ 12 ∧ (c.B.getD i zI).op ≠ 25 ∧ (c.B.getD i zI).op ≠ 26
      · rw [if_pos hc, if_pos hc]
        simp [sucUp]
      · rw [if_neg hc, if_neg hc]
        rfl
/-- what is come to in a function that begins behind the first one -/
theorem mov_rch {S S' : Suc} (hS : ∀ i s, S' (i + 1) s = (S i s).map sucUp) (hN : ∀ i s L, S i s = some L → ∀ p ∈ L, 0 ≤ p.1) {lo : Nat} : (∀ {i s}, Rch S lo i s → Rch S' (lo + 1) (i + 1) s) ∧ (∀ {j s}, Rch S' (lo + 1) j s → ∃ i, j = i + 1 ∧ Rch S lo i s) := by
  refine ⟨fun {i s} r => ?_, fun {j s} r => ?_⟩
  · induction r with
    | zero => exact Rch.zero
    | @next i j s t L r h1 h2 ih =>
      refine ih.next (L := sucUp L) (by rw [hS, h1]; rfl) ?_
      show (((j + 1 : Nat) : Int), t) ∈ sucUp L
      unfold sucUp
      rw [List.mem_map]
      exact ⟨_, h2, by simp⟩
  · induction r with
    | zero => exact ⟨lo, rfl, Rch.zero⟩
    | @next i j s t L r h1 h2 ih =>
      obtain ⟨i0, rfl, r0⟩ := ih
      rw [hS] at h1
      obtain ⟨L0, h3, rfl⟩ := Option.map_eq_some_iff.1 h1
      unfold sucUp at h2
      rw [List.mem_map] at h2
      obtain ⟨p, hp, e⟩ := h2
      injection e with e1 e2
      have hn := hN _ _ _ h3 p hp
      obtain ⟨k, hk⟩ : ∃ k : Nat, p.1 = k := ⟨p.1.toNat, by omega⟩
      obtain ⟨p1, p2⟩ := p
      simp only at e1 e2 hk
      subst hk e2
      exact ⟨k, by omega, r0.next h3 hp⟩
end Go.Proofs.YtidjbgemnohbnaaDoor.Ck
