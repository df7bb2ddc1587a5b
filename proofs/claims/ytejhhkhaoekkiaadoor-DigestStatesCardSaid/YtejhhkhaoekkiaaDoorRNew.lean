/- The contract of the document's New: the words, by the primes. -/
import Derived.Test.YtejhhkhaoekkiaaDoorPrm
import Derived.Maps.AppendAt
namespace Go.Proofs.YtejhhkhaoekkiaaDoor.Ck
open Go.RowKit

/-- a slice of words of the call's own, nil while it is empty -/
def Nw (w : World) (B : Nat) (v : Value) (zs : List Int) : Prop := w.ownsRow B 51 1 v zs.length (wv zs)
theorem Nw.nilS (w : World) (B : Nat) : Nw w B (.slice none 0 0) [] := ⟨rfl, .inl ⟨rfl, rfl⟩⟩
theorem Nw.form {w : World} {B : Nat} {v : Value} {zs : List Int} (h : Nw w B v zs) : ∃ a c, v = .slice a zs.length c ∧ ∀ k, v.ownBlock = some k → B ≤ k ∧ k < w.heap.size := by
  rcases h.2 with ⟨h1, h2⟩ | ⟨g, cap, cur, h1, h2, h3, _⟩
  · exact ⟨none, 0, by rw [h1, h2], fun k hk => by rw [h1] at hk; cases hk⟩
  · refine ⟨some ⟨g, 0, none⟩, cap, h1, fun k hk => ?_⟩
    rw [h1] at hk
    cases hk
    exact ⟨h2, (Array.getElem?_eq_some_iff.1 h3).1⟩
theorem Nw.keep {w w' : World} {B : Nat} {v : Value} {zs : List Int} (h : Nw w B v zs) (hk : ∀ k, k < w.heap.size → v.ownBlock = some k → w'.heap[k]? = w.heap[k]?) : Nw w' B v zs := by
  refine ⟨h.1, ?_⟩
  rcases h.2 with h1 | ⟨g, cap, cur, h1, h2, h3, h4⟩
  · exact .inl h1
  · exact .inr ⟨g, cap, cur, h1, h2, (hk g (Array.getElem?_eq_some_iff.1 h3).1 (by rw [h1]; rfl)).trans h3, h4⟩
def Dj (u v : Value) : Prop := ∀ k, u.ownBlock = some k → v.ownBlock ≠ some k

theorem Nw.push {w : World} {B : Nat} {v u : Value} {zs ys : List Int} {x : Int} (ty : TypeId) (h : Nw w B v zs) (hu : Nw w B u ys) (hd : Dj v u) (hlen : zs.length + 1 ≤ 1000) (hB : B ≤ w.heap.size) :
    ∃ v' w', (Builtin.append_ #[47, 47] ty #[v, .slice (some ⟨w.heap.size, 0, none⟩) 1 1]).run Tryd.prog (w.alloc (.cells #[.int .u32 x] 51)) = .ok v' w' ∧
      (Nw w' B v' (zs ++ [x]) ∧ Nw w' B u ys ∧ Dj v' u ∧ Below B w w') := by
  obtain ⟨i, hi, hz0, hz1, hz2⟩ := info_parts infoW
  have h0 : Nw (w.alloc (.cells #[.int .u32 x] 51)) B v zs := h.keep (fun k hk _ => (bel_new w _).block k hk)
  have hu0 : Nw (w.alloc (.cells #[.int .u32 x] 51)) B u ys := hu.keep (fun k hk _ => (bel_new w _).block k hk)
  have hb := Blk.new w (wv [x]) 51
  obtain ⟨v', w', hr, ho, hg, _, hbl⟩ := run_append_own_at (P := Tryd.prog) (w.alloc (.cells #[.int .u32 x] 51)) B 47 ty 51 i (.int .u32 0) 1 4 Tryd.underlying47 hi hz0 hz1 hz2 rfl (by decide) v zs.length (wv zs) h0 ⟨w.heap.size, 0, none⟩ 1 1 (wv [x]) rfl
    (fun j q hq => by rw [Addr.add_mid, Nat.zero_add]; exact (hb.cell j).trans hq) (wv_one _) (by unfold maxLen; omega) (by omega) (by simp; omega)
  obtain ⟨_, _, _, hvk⟩ := h.form
  obtain ⟨_, _, _, huk⟩ := hu.form
  refine ⟨v', w', hr, ?_, ?_, ?_, ?_⟩
  · unfold Nw
    rw [List.length_append, ← wv_app]
    exact ho
  · refine hu0.keep (fun k hk hub => hg.block k hk (fun e => ?_))
    exact hd k e.symm hub
  · intro k hk hku
    rcases hbl with e | e
    · rw [e] at hk; exact hd k hk hku
    · rw [e] at hk
      have h5 := (huk k hku).2
      have h6 : (w.alloc (.cells #[.int .u32 x] 51)).heap.size = k := by simpa using hk
      simp at h6
      omega
  · have hb1 : Below B w (w.alloc (.cells #[.int .u32 x] 51)) := (Below.refl _ _).alloc hB _
    refine hb1.trans ⟨hg.os, hg.tape, hg.output, hg.size, fun k hk => hg.block k (by simp; omega) (fun e => ?_)⟩
    have := (hvk k e.symm).1
    omega

theorem wpList_appW' {w : World} {ops : Array Oper} {rest : List Oper} {o : Oper} {a : Act} {Q : Exit → Act → World → Prop} (s x : Operand) (v vx : Value) (R : Value → World → Prop)
    (hrun : ∀ ty, ∃ v' w', (Builtin.append_ #[47, 47] ty #[v, vx]).run Tryd.prog w = .ok v' w' ∧ R v' w') (hw : Region.wanted o (yielded ops a.tmps) = true)
    (ho : o.op = .call { callee := .builtin .append, args := #[s, x], argTypes := #[47, 47] }) (hs : a.eval s = v) (hx : a.eval x = vx)
    (h : ∀ v' w', R v' w' → wpList Tryd.prog ops Q rest (a.put o.dst v') w') : wpList Tryd.prog ops Q (o :: rest) a w :=
  wpList_step fun _ hK => by
    rw [if_pos hw]
    obtain ⟨v', w', hr, hR⟩ := hrun o.type
    unfold Oper.wp execOp
    simp only [ho, resolve, invoke, builtin, Sem.run_bind, Sem.run_pure, Result.andThen_ok, List.map_toArray, List.map_cons, List.map_nil, hs, hx, hr]
    exact hK _ _ (h v' w' hR)

/-- what New's loop keeps -/
structure Hs (w wr : World) (gh : Nat) (vS vT : Value) (S T : List Int) : Prop where
  blk : Blk wr gh 49 [vS, vT]
  s : Nw wr (gh + 1) vS S
  t : Nw wr (gh + 1) vT T
  dj : Dj vS vT
  bel : Below w.heap.size w wr

theorem Hs.drew {w wr : World} {gh : Nat} {vS vT : Value} {S T : List Int} (h : Hs w wr gh vS vT S T) : Hs w wr.drew gh vS vT S T := ⟨h.blk, h.s, h.t, h.dj, h.bel.drew⟩
theorem Dj.symm {u v : Value} (h : Dj u v) : Dj v u := fun k h1 h2 => h k h2 h1
theorem Hs.set0 {w wr w' : World} {gh : Nat} {vS vT v' : Value} {S T S' : List Int} (h : Hs w wr gh vS vT S T) (hg : w.heap.size ≤ gh) (h1 : Nw w' (gh + 1) v' S') (h2 : Nw w' (gh + 1) vT T) (h3 : Dj v' vT) (h4 : Below (gh + 1) wr w') :
    Hs w (w'.setCell ⟨gh, 0, none⟩ v') gh v' vT S' T := by
  have hb : Blk w' gh 49 [vS, vT] := (h4.block gh (by omega)).trans h.blk
  have T1 := hb.set 0 v'
  have kp : ∀ {u : Value} {ys : List Int}, Nw w' (gh + 1) u ys → Nw (w'.setCell ⟨gh, 0, none⟩ v') (gh + 1) u ys := fun hu => hu.keep (fun k hk hk2 => by
    obtain ⟨_, _, _, huk⟩ := hu.form
    have := (huk k hk2).1
    exact T1.2.blk k hk (by omega))
  exact ⟨T1.1, kp h1, kp h2, h3, (h.bel.trans (h4.mono (by omega))).trans (T1.2.bel hg (Nat.le_trans h.bel.size h4.size))⟩
theorem Hs.set1 {w wr w' : World} {gh : Nat} {vS vT v' : Value} {S T T' : List Int} (h : Hs w wr gh vS vT S T) (hg : w.heap.size ≤ gh) (h1 : Nw w' (gh + 1) v' T') (h2 : Nw w' (gh + 1) vS S) (h3 : Dj v' vS) (h4 : Below (gh + 1) wr w') :
    Hs w (w'.setCell ⟨gh, 1, none⟩ v') gh vS v' S T' := by
  have hb : Blk w' gh 49 [vS, vT] := (h4.block gh (by omega)).trans h.blk
  have T1 := hb.set 1 v'
  have kp : ∀ {u : Value} {ys : List Int}, Nw w' (gh + 1) u ys → Nw (w'.setCell ⟨gh, 1, none⟩ v') (gh + 1) u ys := fun hu => hu.keep (fun k hk hk2 => by
    obtain ⟨_, _, _, huk⟩ := hu.form
    have := (huk k hk2).1
    exact T1.2.blk k hk (by omega))
  exact ⟨T1.1, kp h2, kp h1, h3.symm, (h.bel.trans (h4.mono (by omega))).trans (T1.2.bel hg (Nat.le_trans h.bel.size h4.size))⟩
theorem startL_succ (P : Nat) (hP : 2 ≤ P) (hp : isP P = true) : startL (P + 1) = if (startL P).length < 8 then startL P ++ [fracP (P : Int) 2] else startL P := by
  unfold startL
  rw [primesB_succ P hP, if_pos hp]
  by_cases h : (primesB P).length < 8
  · rw [if_pos (by simp; omega), List.take_of_length_le (by simp; omega), List.take_of_length_le (by omega)]
    simp
  · rw [if_neg (by simp; omega), List.take_append_of_le_length (by omega)]
theorem turnsL_succ (P : Nat) (hP : 2 ≤ P) (hp : isP P = true) : turnsL (P + 1) = turnsL P ++ [fracP (P : Int) 3] := by
  unfold turnsL
  rw [primesB_succ P hP, if_pos hp]
  simp
theorem same_succ (P : Nat) (hP : 2 ≤ P) (hp : isP P = false) : startL (P + 1) = startL P ∧ turnsL (P + 1) = turnsL P := by
  unfold startL turnsL
  rw [primesB_succ P hP, if_neg (by rw [hp]; decide)]
  exact ⟨rfl, rfl⟩

end Go.Proofs.YtejhhkhaoekkiaaDoor.Ck
