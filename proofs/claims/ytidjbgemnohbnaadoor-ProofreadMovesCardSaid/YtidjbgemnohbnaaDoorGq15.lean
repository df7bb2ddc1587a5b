/- Texts of this proof, packed. -/
import Derived.Test.YtidjbgemnohbnaaDoorRmaQ
import Derived.Test.YtidjbgemnohbnaaDoorQgQ
/- The code with a Turn ahead of all, in memory. No Go text is walked here. -/
namespace Go.Proofs.YtidjbgemnohbnaaDoor.Ck
open Go.RowKit

theorem fm_len {c : Cd} (h : formB c = true) : c.B.length ≤ 8192 := by
  unfold formB at h
  simp only [Bool.and_eq_true, decide_eq_true_eq] at h
  exact h.1.1.2
theorem movB_eq (c : Cd) : (movC c).B = i24 :: c.B.map movI := rfl
/-- the moved code as it lies in memory, when its body and its functions do -/
theorem mov_cv {w w' : World} {vP vC vF vB vF' vB' : Value} {c : Cd} (h : Cv w vP vC vF vB c) (hf : formB c = true) (hb : Below w.heap.size w w') (hF : SlF w' vF' (movC c).F) (hB : SlB w' vB' (movC c).B) : Cv w' vP vC vF' vB' (movC c) := by
  have hL := h.L
  refine ⟨⟨hL.P, hL.C, by rw [movF_len]; exact hL.F, by rw [movB_len]; have := fm_len hf; omega, fun f hm => ?_, fun x hx => ?_, hL.K⟩, h.P.bel hb, h.C.bel hb, hF, hB⟩
  · unfold movC at hm
    cases hc : c.F with
    | nil => rw [hc] at hm; cases hm
    | cons g l =>
      rw [hc] at hm
      simp only [List.mem_cons, List.mem_map] at hm
      rcases hm with rfl | ⟨g', hg', rfl⟩
      · exact hL.L f (by rw [hc]; simp)
      · exact hL.L g' (by rw [hc]; simp [hg'])
  · rw [movB_eq, List.mem_cons, List.mem_map] at hx
    rcases hx with rfl | ⟨y, hy, rfl⟩
    · exact inX_of (by decide) (by decide) (by decide)
    · have h1 := hL.I y hy
      unfold movI
      split
      · rename_i hj
        have hi := body_of hf y hy
        obtain ⟨_, _, _, _, _, j12, j13, _⟩ := insB_at (show insB c ⟨y.op, y.a, y.b, y.bits, y.at_⟩ = true from hi)
        obtain ⟨kt, hkt, hkl⟩ : ∃ kt : Nat, y.a = kt ∧ kt < c.B.length := by
          by_cases e : y.op = 12
          · exact in_of (j12 e)
          · exact in_of (j13 (by omega))
        have hl := fm_len hf
        unfold InX InW at h1 ⊢
        simp only
        omega
      · exact h1
/-- the moved code while it is made: dz its block -/
structure MG (w4 wr : World) (dz : Nat) (a0 a1 a2 a3 a4 a5 v : Value) (L : List In5) : Prop where
  at_ : wr.heap[dz]? = some (.cells #[a0, a1, a2, a3, a4, a5, v] 27 (0, 0))
  own : OwnB wr (dz + 1) v L
  bel : Below w4.heap.size w4 wr
  eq : dz = w4.heap.size
theorem MG.push {w4 wr wz : World} {dz : Nat} {a0 a1 a2 a3 a4 a5 v v' : Value} {L L' : List In5} (h : MG w4 wr dz a0 a1 a2 a3 a4 a5 v L) (ho : OwnB wz (dz + 1) v' L') (hb : Below (dz + 1) wr wz) : MG w4 (wz.setCell ⟨dz, 6, none⟩ v') dz a0 a1 a2 a3 a4 a5 v' L' := by
  have hs := lt_of_blk h.at_
  have k2 := (hb.block _ (by omega)).trans h.at_
  have he := h.eq
  refine ⟨?_, ?_, ?_, he⟩
  · have := heap_setCell_same wz dz 6 _ _ v' k2
    simpa using this
  · exact own_keep ho fun k hk => Below.heap_setCell _ _ _ _ (fun e => by have h1 := (own_type ho hk).1; have e' : k = dz := e; omega)
  · refine ⟨hb.os.trans h.bel.os, hb.tape.trans h.bel.tape, hb.output.trans h.bel.output, ?_, fun k hk => ?_⟩
    · rw [size_setCell]
      exact Nat.le_trans h.bel.size hb.size
    · exact (Below.heap_setCell _ _ _ _ (show k ≠ dz by omega)).trans ((hb.block k (by omega)).trans (h.bel.block k hk))
theorem form_of_read {c : Cd} {st : List (List Int)} (h : readM c = some st) : formB c = true := by
  unfold readM at h
  split at h
  · assumption
  · cases h
theorem own_lenB {w : World} {B : Nat} {v : Value} {L : List In5} (h : OwnB w B v L) : ∃ a c, v = .slice a L.length c ∧ True := by
  obtain ⟨hl, ⟨h0, h1⟩ | ⟨gb, cap, cur, hv, _⟩⟩ := h
  · exact ⟨none, 0, by rw [h0, h1], trivial⟩
  · exact ⟨_, _, hv, trivial⟩
theorem MG.first {w4 w5 : World} {a0 a1 a2 a3 a4 a5 a6 : Value} (hat : w5.heap[w4.heap.size]? = some (.cells #[a0, a1, a2, a3, a4, a5, a6] 27 (0, 0))) (hb : Below w4.heap.size w4 w5) (hs : w5.heap.size = w4.heap.size + 1) : MG w4 ((w5.setCell ⟨w4.heap.size, 6, none⟩ (.slice (some ⟨w4.heap.size + 1, 0, none⟩) 1 1)).alloc (.cells #[.int .i64 24, .int .i64 0, .int .i64 0, .int .u64 0, .int .i64 0] 44)) w4.heap.size a0 a1 a2 a3 a4 a5 (.slice (some ⟨w4.heap.size + 1, 0, none⟩) 1 1) [i24] := by
  have h1 := heap_setCell_same w5 w4.heap.size 6 _ _ (.slice (some ⟨w4.heap.size + 1, 0, none⟩) 1 1) hat
  have hz : (w5.setCell ⟨w4.heap.size, 6, none⟩ (.slice (some ⟨w4.heap.size + 1, 0, none⟩) 1 1)).heap.size = w4.heap.size + 1 := by rw [size_setCell, hs]
  have b2 := bel_new (w5.setCell ⟨w4.heap.size, 6, none⟩ (.slice (some ⟨w4.heap.size + 1, 0, none⟩) 1 1)) (.cells #[.int .i64 24, .int .i64 0, .int .i64 0, .int .u64 0, .int .i64 0] 44)
  have v2 := Go.Deep.blk_alloc_new (w5.setCell ⟨w4.heap.size, 6, none⟩ (.slice (some ⟨w4.heap.size + 1, 0, none⟩) 1 1)) (.cells #[.int .i64 24, .int .i64 0, .int .i64 0, .int .u64 0, .int .i64 0] 44)
  rw [hz] at b2 v2
  refine ⟨(b2.block _ (by omega)).trans (by simpa using h1), ⟨rfl, .inr ⟨w4.heap.size + 1, 1, _, rfl, Nat.le_refl _, v2, Nat.le_refl _, by unfold maxLen; omega, rfl, rfl⟩⟩, ?_, rfl⟩
  have b1 : Below w4.heap.size w4 (w5.setCell ⟨w4.heap.size, 6, none⟩ (.slice (some ⟨w4.heap.size + 1, 0, none⟩) 1 1)) := ⟨hb.os, hb.tape, hb.output, by rw [size_setCell]; exact hb.size, fun k hk => (Below.heap_setCell _ _ _ _ (show k ≠ w4.heap.size by omega)).trans (hb.block k hk)⟩
  exact b1.trans (b2.mono (by omega))
theorem MG.app {w4 wr wz : World} {dz : Nat} {a0 a1 a2 a3 a4 a5 v : Value} {L : List In5} (h : MG w4 wr dz a0 a1 a2 a3 a4 a5 v L) (hb : Below wr.heap.size wr wz) (x : In5) (hl : L.length ≤ 10000) (ty : TypeId) :
    ∃ v' w', (Builtin.append_ #[25, 25] ty #[v, .slice (some ⟨wz.heap.size, 0, none⟩) 1 1]).run Tryd.prog (wz.alloc (.cells #[.int .i64 x.op, .int .i64 x.a, .int .i64 x.b, .int .u64 x.bits, .int .i64 x.at_] 44)) = .ok v' w' ∧ ((∃ a n c, v' = .slice a n c) ∧ MG w4 (w'.setCell ⟨dz, 6, none⟩ v') dz a0 a1 a2 a3 a4 a5 v' (L ++ [x]) ∧ w'.cell? ⟨dz, 6, none⟩ = some v ∧ w'.frozen? ⟨dz, 6, none⟩ = false) := by
  have hlt := lt_of_blk h.at_
  have b2 := bel_trans hb (bel_new wz (.cells #[.int .i64 x.op, .int .i64 x.a, .int .i64 x.b, .int .u64 x.bits, .int .i64 x.at_] 44))
  have o2 : OwnB (wz.alloc (.cells #[.int .i64 x.op, .int .i64 x.a, .int .i64 x.b, .int .u64 x.bits, .int .i64 x.at_] 44)) (dz + 1) v L := own_keep h.own fun k hk => b2.block k (own_type h.own hk).2.1
  obtain ⟨v', w', hr, ho, hb'⟩ := pushL o2 (n := 1) (xs := [x]) rfl wz.heap.size 1 (Go.Deep.blk_alloc_new wz _) (by simp; omega) (Nat.le_trans hlt b2.size) ty
  have hbb : Below (dz + 1) wr w' := (b2.mono hlt).trans hb'
  obtain ⟨a9, c9, e9, _⟩ := own_lenB ho
  have k6 := (hbb.block dz (by omega)).trans h.at_
  exact ⟨v', w', hr, ⟨_, _, _, e9⟩, h.push ho hbb, blk_cell k6 6 _ rfl, blk_frz k6 6⟩
/-- its functions are put in -/
theorem MG.fns {w4 wr wz : World} {dz : Nat} {a0 a1 a2 a3 a4 a5 v x : Value} {L : List In5} (h : MG w4 wr dz a0 a1 a2 a3 a4 a5 v L) (hb : Below wr.heap.size wr wz) : MG w4 (wz.setCell ⟨dz, 4, none⟩ x) dz a0 a1 a2 a3 x a5 v L := by
  have hs := lt_of_blk h.at_
  have k2 := (hb.block _ hs).trans h.at_
  have he := h.eq
  refine ⟨?_, ?_, ?_, he⟩
  · have := heap_setCell_same wz dz 4 _ _ x k2
    simpa using this
  · exact own_keep h.own fun k hk => (Below.heap_setCell _ _ _ _ (fun e => by have h1 := (own_type h.own hk).1; have e' : k = dz := e; omega)).trans (hb.block k (own_type h.own hk).2.1)
  · refine ⟨hb.os.trans h.bel.os, hb.tape.trans h.bel.tape, hb.output.trans h.bel.output, ?_, fun k hk => ?_⟩
    · rw [size_setCell]
      exact Nat.le_trans h.bel.size hb.size
    · exact (Below.heap_setCell _ _ _ _ (show k ≠ dz by omega)).trans ((hb.block k (by have := h.bel.size; omega)).trans (h.bel.block k hk))
/-- a Start turns in a row behind -/
theorem MG.turn {w4 wr : World} {dz : Nat} {a0 a1 a2 a3 a4 a5 v : Value} {L : List In5} (h : MG w4 wr dz a0 a1 a2 a3 a4 a5 v L) {b : Nat} {T : TypeId} {cc : Array Value} (hat : wr.heap[b]? = some (.cells cc T (0, 0))) (hT : T = 46) (hb : dz ≤ b) (i : Nat) (x : Value) : MG w4 (wr.setCell ⟨b, i, none⟩ x) dz a0 a1 a2 a3 a4 a5 v L := by
  subst hT
  have hne : b ≠ dz := fun e => by
    have h1 := h.at_
    rw [← e, hat] at h1
    injection h1 with h1
    injection h1 with _ h2 _
    exact absurd h2 (by decide)
  have he := h.eq
  refine ⟨(Below.heap_setCell _ _ _ _ (fun e => hne e.symm)).trans h.at_, own_keep h.own fun k hk => Below.heap_setCell _ _ _ _ (fun e => ?_), ?_, he⟩
  · obtain ⟨_, _, c1, q1⟩ := own_type h.own hk
    have e' : k = b := e
    rw [e', hat] at q1
    injection q1 with q1
    injection q1 with _ h2 _
    exact absurd h2 (by decide)
  · refine ⟨h.bel.os, h.bel.tape, h.bel.output, by rw [size_setCell]; exact h.bel.size, fun k hk => (Below.heap_setCell _ _ _ _ (show k ≠ b by omega)).trans (h.bel.block k hk)⟩
end Go.Proofs.YtidjbgemnohbnaaDoor.Ck

/- The functions' Starts, turned one after another. No Go text is walked here. -/
namespace Go.Proofs.YtidjbgemnohbnaaDoor.Ck
open Go.RowKit

/-- k functions were gone over -/
def movK (F : List Fn3) : Nat → List Fn3
  | 0 => F
  | k + 1 => if k = 0 then movK F k else (movK F k).set k { (movK F k).getD k zF with st := ((movK F k).getD k zF).st + 1 }
theorem movK_succ (F : List Fn3) {k : Nat} (h : k ≠ 0) : movK F (k + 1) = (movK F k).set k { (movK F k).getD k zF with st := ((movK F k).getD k zF).st + 1 } := by
  show (if k = 0 then movK F k else _) = _
  rw [if_neg h]
theorem movK_len (F : List Fn3) : ∀ k, (movK F k).length = F.length
  | 0 => rfl
  | k + 1 => by
    unfold movK
    split
    · exact movK_len F k
    · rw [List.length_set]
      exact movK_len F k
theorem movK_at (F : List Fn3) : ∀ k, k ≤ F.length → ∀ i, (movK F k).getD i zF = if 0 < i ∧ i < k then movF (F.getD i zF) else F.getD i zF
  | 0, _, i => by
    rw [if_neg (by omega)]
    rfl
  | k + 1, hk, i => by
    have ih := movK_at F k (by omega)
    unfold movK
    by_cases h0 : k = 0
    · subst h0
      rw [if_pos rfl, ih i, if_neg (by omega), if_neg (by omega)]
    · rw [if_neg h0, getD_set, movK_len]
      by_cases hi : k = i
      · subst hi
        rw [if_pos ⟨rfl, by omega⟩, if_pos (by omega), ih k, if_neg (by omega)]
        rfl
      · rw [if_neg (fun e => hi e.1), ih i]
        by_cases h1 : 0 < i ∧ i < k
        · rw [if_pos h1, if_pos (by omega)]
        · rw [if_neg h1, if_neg (by omega)]
theorem movK_all (c : Cd) : movK c.F c.F.length = (movC c).F := by
  apply List.ext_getElem (by rw [movK_len, movF_len])
  intro i h1 h2
  have h3 := movK_at c.F c.F.length (Nat.le_refl _) i
  rw [movK_len] at h1
  have e1 : (movK c.F c.F.length).getD i zF = (movK c.F c.F.length)[i] := by rw [List.getD_eq_getElem?_getD, List.getElem?_eq_getElem (by rw [movK_len]; exact h1)]; rfl
  have e2 : (movC c).F.getD i zF = (movC c).F[i] := by rw [List.getD_eq_getElem?_getD, List.getElem?_eq_getElem h2]; rfl
  rw [← e1, ← e2, h3]
  unfold movC
  cases hF : c.F with
  | nil => rw [hF] at h1; cases h1
  | cons f l =>
    rw [hF] at h1
    cases i with
    | zero => rfl
    | succ i =>
      have hi : i < l.length := by simpa using h1
      rw [if_pos ⟨by omega, by simp; omega⟩]
      simp [List.getD_eq_getElem?_getD, hi]
end Go.Proofs.YtidjbgemnohbnaaDoor.Ck
