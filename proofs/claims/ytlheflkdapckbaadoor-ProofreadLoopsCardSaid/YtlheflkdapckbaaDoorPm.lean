/- What package proofread does, as plain functions; no Go text is walked here. -/
import Derived.Test.YtlheflkdapckbaaDoorCb
namespace Go.Proofs.YtlheflkdapckbaaDoor.Ck
open Go.RowKit

/-- types that have to be the top ones go -/
def takeM (ts s : List Int) : Option (List Int) := if ts.length ≤ s.length ∧ s.drop (s.length - ts.length) = ts then some (s.take (s.length - ts.length)) else none
def unM (a t : Int) : Option Int := if a = 1 ∧ t ≠ 3 then some t else if a = 2 ∧ t = 3 then some 3 else if a = 3 ∧ t = 2 then some 1 else if a = 4 ∧ t = 1 then some 2 else none
def binM (a f s : Int) : Option Int := if f ≠ s then none else if a = 6 ∨ a = 7 then some 3 else if 8 ≤ a then (if f = 3 then none else some 3) else if a = 5 then (if f = 1 then some f else none) else (if f = 3 then none else some f)
/-- the top one, and what is beneath -/
def popM (s : List Int) : Option (Int × List Int) := match s.getLast? with
  | some t => some (t, s.dropLast)
  | none => none
def unS (a : Int) (s : List Int) : Option (List Int) := (popM s).bind fun p => (unM a p.1).map fun r => p.2 ++ [r]
def binS (a : Int) (s : List Int) : Option (List Int) := (popM s).bind fun p => (popM p.2).bind fun q => (binM a q.1 p.1).map fun r => q.2 ++ [r]
def chanT (c : Cd) (a : Int) : Int := (c.C.getD a.toNat z2).1
def parT (c : Cd) (a : Int) : List Int := (c.F.getD a.toNat zF).lo.take (c.F.getD a.toNat zF).pa.toNat
/-- what an instruction makes of a stack, of which the one behind alone is next -/
def changeM (c : Cd) (lo : List Int) (x : In5) (s : List Int) : Option (List Int) :=
  if x.op = 1 ∨ x.op = 19 then some (s ++ [1])
  else if x.op = 2 then some (s ++ [2])
  else if x.op = 3 then some (s ++ [3])
  else if x.op = 4 then (if x.a < lo.length then some (s ++ [lo.getD x.a.toNat 0]) else none)
  else if x.op = 5 then (if x.a < lo.length then takeM [lo.getD x.a.toNat 0] s else none)
  else if x.op = 6 then some (s ++ [c.P.getD x.a.toNat 0])
  else if x.op = 7 then takeM [c.P.getD x.a.toNat 0] s
  else if x.op = 8 then (takeM [1] s).map fun s' => s' ++ [c.P.getD x.a.toNat 0]
  else if x.op = 9 then takeM [1, c.P.getD x.a.toNat 0] s
  else if x.op = 10 then unS x.a s
  else if x.op = 11 then binS x.a s
  else if x.op = 17 then takeM [chanT c x.a] s
  else if x.op = 18 then some (s ++ [chanT c x.a])
  else if x.op = 20 ∨ x.op = 21 then takeM [1] s
  else if x.op = 22 ∨ x.op = 23 then takeM (parT c x.a) s
  else some s
/-- what is gone through: which were come to, their stacks, those that are left -/
structure Rw16 where
  met : List Bool
  st : List (List Int)
  left : List Nat
def comeM (lo hi : Int) (m : Rw16) (q : Int) (t : List Int) : Option Rw16 :=
  if lo ≤ q ∧ q < hi then
    (if t.length ≤ 64 then
      (if m.met.getD q.toNat false = true then (if m.st.getD q.toNat [] = t then some m else none)
      else some ⟨m.met.set q.toNat true, m.st.set q.toNat t, m.left ++ [q.toNat]⟩)
    else none)
  else none
def jumpM (c : Cd) (lo hi : Int) (m : Rw16) (i : Nat) (s : List Int) : Option Rw16 :=
  if (c.B.getD i zI).a > i ∨ (c.B.getD (c.B.getD i zI).a.toNat zI).op = 24 then comeM lo hi m (c.B.getD i zI).a s else none
def stepM (c : Cd) (f : Fn3) (hi : Int) (m : Rw16) (i : Nat) : Option Rw16 :=
  let s := m.st.getD i []
  let x := c.B.getD i zI
  if x.op = 12 then jumpM c f.st hi m i s
  else if x.op = 13 then (takeM [3] s).bind fun s' => (jumpM c f.st hi m i s').bind fun m' => comeM f.st hi m' (i + 1) s'
  else if x.op = 14 then (jumpM c f.st hi m i s).bind fun m' => (takeM [3] s).bind fun s' => comeM f.st hi m' (i + 1) s'
  else if x.op = 25 then (if s = [] then some m else none)
  else if x.op = 26 then (takeM [1] s).map fun _ => m
  else (changeM c f.lo x s).bind fun s' => comeM f.st hi m (i + 1) s'
theorem takeM_len {ts s s' : List Int} (h : takeM ts s = some s') : s'.length ≤ s.length := by
  unfold takeM at h
  split at h
  · cases h
    rw [List.length_take]
    omega
  · cases h
/-- take, from the last type on: k types are to come -/
theorem takeM_no {ts s : List Int} {k m : Nat} (hk : k + 1 ≤ ts.length) (hm : m + (ts.length - (k + 1)) = s.length) (h : m = 0 ∨ s.getD (m - 1) 0 ≠ ts.getD k 0) : takeM ts s = none := by
  unfold takeM
  rw [if_neg]
  rintro ⟨h1, h2⟩
  rcases h with h | h
  · omega
  · apply h
    have h3 := congrArg (fun l => l.getD k 0) h2
    simp only [List.getD_eq_getElem?_getD, List.getElem?_drop] at h3
    rw [show s.length - ts.length + k = m - 1 by omega] at h3
    simpa [List.getD_eq_getElem?_getD] using h3
theorem takeM_yes {ts s : List Int} {m : Nat} (hm : m + ts.length = s.length) (h : ∀ j, j < ts.length → s.getD (m + j) 0 = ts.getD j 0) : takeM ts s = some (s.take m) := by
  unfold takeM
  rw [if_pos, show s.length - ts.length = m by omega]
  refine ⟨by omega, ?_⟩
  rw [show s.length - ts.length = m by omega]
  apply List.ext_getElem?
  intro j
  rw [List.getElem?_drop]
  by_cases hj : j < ts.length
  · have h1 := h j hj
    simp only [List.getD_eq_getElem?_getD] at h1
    rw [List.getElem?_eq_getElem (show m + j < s.length by omega), List.getElem?_eq_getElem hj] at h1 ⊢
    simpa using h1
  · rw [List.getElem?_eq_none (by omega), List.getElem?_eq_none (by omega)]
theorem popM_snoc (s : List Int) (t : Int) : popM (s ++ [t]) = some (t, s) := by simp [popM]
end Go.Proofs.YtlheflkdapckbaaDoor.Ck
