/- A code (api.Code) in memory; no Go text is walked here. -/
import Derived.Test.YtlheflkdapckbaaDoorCa
namespace Go.Proofs.YtlheflkdapckbaaDoor.Ck
open Go.RowKit

def z2 : Int × Int := (0, 0)
def zF : Fn3 := ⟨0, 0, []⟩
def zI : In5 := ⟨0, 0, 0, 0, 0⟩
/-- a slice of channels -/
def SlC (w : World) (v : Value) (cs : List (Int × Int)) : Prop := ∃ a cap, v = .slice a cs.length cap ∧ cs.length ≤ cap ∧ cap ≤ maxLen ∧
    ∀ i, i < cs.length → ∃ b off, a = some ⟨b, off, none⟩ ∧ b < w.heap.size ∧ w.cell? ⟨b, off + i * 2, none⟩ = some (.int .i64 (cs.getD i z2).1) ∧ w.cell? ⟨b, off + i * 2 + 1, none⟩ = some (.int .i64 (cs.getD i z2).2)
/-- of functions -/
def SlF (w : World) (v : Value) (F : List Fn3) : Prop := ∃ a cap, v = .slice a F.length cap ∧ F.length ≤ cap ∧ cap ≤ maxLen ∧
    ∀ i, i < F.length → ∃ b off vl, a = some ⟨b, off, none⟩ ∧ b < w.heap.size ∧ w.cell? ⟨b, off + i * 3, none⟩ = some (.int .i64 (F.getD i zF).st) ∧ w.cell? ⟨b, off + i * 3 + 1, none⟩ = some (.int .i64 (F.getD i zF).pa) ∧ w.cell? ⟨b, off + i * 3 + 2, none⟩ = some vl ∧ Sl w vl (F.getD i zF).lo
/-- of instructions -/
def SlB (w : World) (v : Value) (B : List In5) : Prop := ∃ a cap, v = .slice a B.length cap ∧ B.length ≤ cap ∧ cap ≤ maxLen ∧
    ∀ i, i < B.length → ∃ b off, a = some ⟨b, off, none⟩ ∧ b < w.heap.size ∧ w.cell? ⟨b, off + i * 5, none⟩ = some (.int .i64 (B.getD i zI).op) ∧ w.cell? ⟨b, off + i * 5 + 1, none⟩ = some (.int .i64 (B.getD i zI).a) ∧ w.cell? ⟨b, off + i * 5 + 2, none⟩ = some (.int .i64 (B.getD i zI).b) ∧ w.cell? ⟨b, off + i * 5 + 3, none⟩ = some (.int .u64 (B.getD i zI).bits) ∧ w.cell? ⟨b, off + i * 5 + 4, none⟩ = some (.int .i64 (B.getD i zI).at_)
section
variable {w w' : World} {v : Value}
theorem Sl.bel {l : List Int} (h : Sl w v l) (hb : Below w.heap.size w w') : Sl w' v l := h.below (Nat.le_refl _) hb
theorem SlC.bel {l : List (Int × Int)} (h : SlC w v l) (hb : Below w.heap.size w w') : SlC w' v l := by
  obtain ⟨a, cap, hv, h1, h2, h3⟩ := h
  refine ⟨a, cap, hv, h1, h2, fun i hi => ?_⟩
  obtain ⟨b, off, ha, hlt, hc, hd⟩ := h3 i hi
  exact ⟨b, off, ha, Nat.lt_of_lt_of_le hlt hb.size, (hb.cell (p := ⟨b, _, none⟩) hlt).trans hc, (hb.cell (p := ⟨b, _, none⟩) hlt).trans hd⟩
theorem SlF.bel {l : List Fn3} (h : SlF w v l) (hb : Below w.heap.size w w') : SlF w' v l := by
  obtain ⟨a, cap, hv, h1, h2, h3⟩ := h
  refine ⟨a, cap, hv, h1, h2, fun i hi => ?_⟩
  obtain ⟨b, off, vl, ha, hlt, hc, hd, he, hs⟩ := h3 i hi
  exact ⟨b, off, vl, ha, Nat.lt_of_lt_of_le hlt hb.size, (hb.cell (p := ⟨b, _, none⟩) hlt).trans hc, (hb.cell (p := ⟨b, _, none⟩) hlt).trans hd, (hb.cell (p := ⟨b, _, none⟩) hlt).trans he, hs.bel hb⟩
theorem SlB.bel {l : List In5} (h : SlB w v l) (hb : Below w.heap.size w w') : SlB w' v l := by
  obtain ⟨a, cap, hv, h1, h2, h3⟩ := h
  refine ⟨a, cap, hv, h1, h2, fun i hi => ?_⟩
  obtain ⟨b, off, ha, hlt, hc, hd, he, hf, hg⟩ := h3 i hi
  exact ⟨b, off, ha, Nat.lt_of_lt_of_le hlt hb.size, (hb.cell (p := ⟨b, _, none⟩) hlt).trans hc, (hb.cell (p := ⟨b, _, none⟩) hlt).trans hd, (hb.cell (p := ⟨b, _, none⟩) hlt).trans he, (hb.cell (p := ⟨b, _, none⟩) hlt).trans hf, (hb.cell (p := ⟨b, _, none⟩) hlt).trans hg⟩
theorem SlC.nilS (w : World) : SlC w (.slice none 0 0) [] := ⟨none, 0, rfl, Nat.le_refl _, Nat.zero_le _, fun _ h => absurd h (Nat.not_lt_zero _)⟩
theorem SlF.nilS (w : World) : SlF w (.slice none 0 0) [] := ⟨none, 0, rfl, Nat.le_refl _, Nat.zero_le _, fun _ h => absurd h (Nat.not_lt_zero _)⟩
theorem SlB.nilS (w : World) : SlB w (.slice none 0 0) [] := ⟨none, 0, rfl, Nat.le_refl _, Nat.zero_le _, fun _ h => absurd h (Nat.not_lt_zero _)⟩
theorem Sl.form {l : List Int} (h : Sl w v l) : ∃ a c, v = .slice a l.length c ∧ l.length ≤ c ∧ c ≤ maxLen := by
  obtain ⟨_, a, c, e, h1, h2, _⟩ := h
  exact ⟨a, c, e, h1, h2⟩
theorem SlC.form {l : List (Int × Int)} (h : SlC w v l) : ∃ a c, v = .slice a l.length c ∧ l.length ≤ c ∧ c ≤ maxLen := by
  obtain ⟨a, c, e, h1, h2, _⟩ := h
  exact ⟨a, c, e, h1, h2⟩
theorem SlF.form {l : List Fn3} (h : SlF w v l) : ∃ a c, v = .slice a l.length c ∧ l.length ≤ c ∧ c ≤ maxLen := by
  obtain ⟨a, c, e, h1, h2, _⟩ := h
  exact ⟨a, c, e, h1, h2⟩
theorem SlB.form {l : List In5} (h : SlB w v l) : ∃ a c, v = .slice a l.length c ∧ l.length ≤ c ∧ c ≤ maxLen := by
  obtain ⟨a, c, e, h1, h2, _⟩ := h
  exact ⟨a, c, e, h1, h2⟩
end
/-- what an instruction's words hold for being ints and a uint64 -/
def InX (x : In5) : Prop := InW x ∧ -9223372036854775808 ≤ x.op ∧ x.op ≤ 9223372036854775807
structure Cl (c : Cd) : Prop where
  P : c.P.length ≤ 140737488351232
  C : c.C.length ≤ 140737488351232
  F : c.F.length ≤ 140737488351232
  B : c.B.length ≤ 140737488351232
  L : ∀ f ∈ c.F, f.lo.length ≤ 140737488351232
  I : ∀ x ∈ c.B, InX x
  K : ∀ h ∈ c.C, -9223372036854775808 ≤ h.1 ∧ h.1 ≤ 9223372036854775807
/-- a code's four lists in memory -/
structure Cv (w : World) (vP vC vF vB : Value) (c : Cd) : Prop where
  L : Cl c
  P : Sl w vP c.P
  C : SlC w vC c.C
  F : SlF w vF c.F
  B : SlB w vB c.B
theorem Cv.bel {w w' : World} {vP vC vF vB : Value} {c : Cd} (h : Cv w vP vC vF vB c) (hb : Below w.heap.size w w') : Cv w' vP vC vF vB c := ⟨h.L, h.P.bel hb, h.C.bel hb, h.F.bel hb, h.B.bel hb⟩
theorem all_not {α : Type} {l : List α} {f : α → Bool} {d : α} (k : Nat) (hk : k < l.length) (h : f (l.getD k d) = false) : l.all f = false := by
  rw [List.all_eq_false]
  rw [List.getD_eq_getElem?_getD, List.getElem?_eq_getElem hk] at h
  exact ⟨l[k], List.getElem_mem hk, by simpa using h⟩
theorem all_yes {α : Type} {l : List α} {f : α → Bool} {d : α} (h : ∀ j, j < l.length → f (l.getD j d) = true) : l.all f = true := by
  rw [List.all_eq_true]
  intro x hx
  obtain ⟨i, hi, rfl⟩ := List.mem_iff_getElem.1 hx
  have := h i hi
  rw [List.getD_eq_getElem?_getD, List.getElem?_eq_getElem hi] at this
  simpa using this
end Go.Proofs.YtlheflkdapckbaaDoor.Ck
