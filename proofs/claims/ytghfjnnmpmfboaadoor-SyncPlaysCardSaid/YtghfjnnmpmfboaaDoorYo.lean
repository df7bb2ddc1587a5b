/- A place or a channel more in a state; no Go text is walked here. -/
import Derived.Test.YtghfjnnmpmfboaaDoorYn
namespace Go.Proofs.YtghfjnnmpmfboaaDoor.Ck
open Go.RowKit

section
variable {w w2 : World} {F : Nat → Prop} {g : Nat} {s : St} {vP vM vC vA v' : Value} {vs : List Value}
theorem Sv.placeA (h : Sv w F g s vP vM vC vA vs) (x : V3) (hg : w.grownBy w2 vP.ownBlock) (ho : w2.ownsRow 0 41 3 v' (s.P ++ [x]).length (vcs (s.P ++ [x]))) (hb : ∀ k, v'.ownBlock = some k → vP.ownBlock = some k ∨ w.heap.size ≤ k) (hl : s.P.length < 128) :
    Sv (w2.setCell ⟨g, 0, none⟩ v') (fun k => F k ∨ v'.ownBlock = some k) g { s with P := s.P ++ [x] } v' vM vC vA vs ∧ Ch F (fun k => F k ∨ v'.ownBlock = some k) w (w2.setCell ⟨g, 0, none⟩ v') := by
  have hsz : (w2.setCell ⟨g, 0, none⟩ v').heap.size = w2.heap.size := size_setCell _ _ _
  have ho2 : ∀ k, k ≠ g → (w2.setCell ⟨g, 0, none⟩ v').heap[k]? = w2.heap[k]? := fun k hk => Below.heap_setCell _ _ _ _ hk
  have gP : vP.ownBlock ≠ some g := own_at h.pl h.at_ (by decide)
  have gv : v'.ownBlock ≠ some g := fun e => by
    rcases hb g e with h1 | h1
    · exact gP h1
    · have := lt_of_blk h.at_
      omega
  have hg2 : w2.heap[g]? = some (.cells #[vP, vM, vC, vA] 96 (0, 0)) := (hg.block g (lt_of_blk h.at_) (fun e => gP e.symm)).trans h.at_
  have hk3 : ∀ {T : TypeId} {n : Nat} {v : Value} {len : Nat} {xs : List Value}, w.ownsRow 0 T n v len xs → (∀ k, v.ownBlock = some k → vP.ownBlock ≠ some k) → T ≠ 96 → (w2.setCell ⟨g, 0, none⟩ v').ownsRow 0 T n v len xs := fun hr hne hT =>
    own_keep hr fun k hk => (ho2 k (fun e => own_at hr h.at_ hT (e ▸ hk))).trans (hg.block k (own_type hr hk).2.1 (fun e => hne k hk e.symm))
  refine ⟨?_, ⟨hg.os, hg.tape, hg.output, by rw [hsz]; exact hg.size, fun k hk hF => (ho2 k (fun e => hF (e ▸ h.fg))).trans (hg.block k hk (fun e => hF (h.fP k e.symm))), fun k hk => ?_⟩⟩
  · exact { h with
      at_ := by
        rw [heap_setCell_same w2 g 0 _ _ _ hg2]
        rfl
      pl := own_keep ho fun k hk => ho2 k (fun e => gv (e ▸ hk))
      mu := hk3 h.mu (fun k hk => own_apart h.mu h.pl (by decide) k hk) (by decide)
      ch := hk3 h.ch (fun k hk => own_apart h.ch h.pl (by decide) k hk) (by decide)
      ato := hk3 h.ato (fun k hk => own_apart h.ato h.pl (by decide) k hk) (by decide)
      q := fun i q v hq hv => by
        obtain ⟨o1, o2⟩ := h.q i q v hq hv
        refine ⟨hk3 o1 (fun k hk => (o2 k hk).2) (by decide), fun k hk => ⟨.inl (o2 k hk).1, fun e => ?_⟩⟩
        rcases hb k e with h1 | h1
        · exact (o2 k hk).2 h1
        · have := (own_type o1 hk).2.1
          omega
      fg := .inl h.fg
      fP := fun k hk => .inr hk
      fM := fun k hk => .inl (h.fM k hk)
      fC := fun k hk => .inl (h.fC k hk)
      fA := fun k hk => .inl (h.fA k hk)
      fb := fun k hk => by
        rw [hsz]
        rcases hk with hk | hk
        · exact Nat.lt_of_lt_of_le (h.fb k hk) hg.size
        · exact (own_type ho hk).2.1
      small := by
        have := h.small
        simp
        omega }
  · rcases hk with hk | hk
    · exact .inl hk
    · rcases hb k hk with h1 | h1
      · exact .inl (h.fP k h1)
      · exact .inr h1
theorem Sv.chanA (h : Sv w F g s vP vM vC vA vs) (q : Qu) {vq : Value} (oq : w.ownsRow 0 41 3 vq q.l.length (vcs q.l)) (fq : ∀ k, vq.ownBlock = some k → ¬ F k) (hg : w.grownBy w2 vC.ownBlock)
    (ho : w2.ownsRow 0 98 3 v' (s.C.length + 1) (qcs s.C vs ++ [.int .i64 q.t, .int .i64 q.room, vq])) (hb : ∀ k, v'.ownBlock = some k → vC.ownBlock = some k ∨ w.heap.size ≤ k) (hl : s.C.length < 32) (hr : 0 ≤ q.room ∧ q.room ≤ 8 ∧ (q.l.length : Int) ≤ q.room) :
    Sv (w2.setCell ⟨g, 2, none⟩ v') (fun k => F k ∨ v'.ownBlock = some k ∨ vq.ownBlock = some k) g { s with C := s.C ++ [q] } vP vM v' vA (vs ++ [vq]) ∧ Ch F (fun _ => False) w (w2.setCell ⟨g, 2, none⟩ v') := by
  have hsz : (w2.setCell ⟨g, 2, none⟩ v').heap.size = w2.heap.size := size_setCell _ _ _
  have ho2 : ∀ k, k ≠ g → (w2.setCell ⟨g, 2, none⟩ v').heap[k]? = w2.heap[k]? := fun k hk => Below.heap_setCell _ _ _ _ hk
  have gC : vC.ownBlock ≠ some g := own_at h.ch h.at_ (by decide)
  have gv : v'.ownBlock ≠ some g := fun e => by
    rcases hb g e with h1 | h1
    · exact gC h1
    · have := lt_of_blk h.at_
      omega
  have hg2 : w2.heap[g]? = some (.cells #[vP, vM, vC, vA] 96 (0, 0)) := (hg.block g (lt_of_blk h.at_) (fun e => gC e.symm)).trans h.at_
  have hk3 : ∀ {T : TypeId} {n : Nat} {v : Value} {len : Nat} {xs : List Value}, w.ownsRow 0 T n v len xs → T ≠ 98 → T ≠ 96 → (w2.setCell ⟨g, 2, none⟩ v').ownsRow 0 T n v len xs := fun hr hne hT =>
    own_keep hr fun k hk => (ho2 k (fun e => own_at hr h.at_ hT (e ▸ hk))).trans (hg.block k (own_type hr hk).2.1 (fun e => own_apart hr h.ch hne k hk e.symm))
  refine ⟨?_, ⟨hg.os, hg.tape, hg.output, by rw [hsz]; exact hg.size, fun k hk hF => (ho2 k (fun e => hF (e ▸ h.fg))).trans (hg.block k hk (fun e => hF (h.fC k e.symm))), fun k hk => hk.elim⟩⟩
  exact { h with
      at_ := by
        rw [heap_setCell_same w2 g 2 _ _ _ hg2]
        rfl
      pl := hk3 h.pl (by decide) (by decide)
      mu := hk3 h.mu (by decide) (by decide)
      ch := by
        have h1 := own_keep (w' := w2.setCell ⟨g, 2, none⟩ v') ho fun k hk => ho2 k (fun e => gv (e ▸ hk))
        rw [← qcs_app s.C vs q vq h.len] at h1
        simpa using h1
      ato := hk3 h.ato (by decide) (by decide)
      len := by simp [h.len]
      q := fun i q' v hq hv => by
        by_cases e : i < s.C.length
        · rw [List.getElem?_append_left e] at hq
          rw [List.getElem?_append_left (by rw [h.len]; exact e)] at hv
          obtain ⟨o1, o2⟩ := h.q i q' v hq hv
          exact ⟨hk3 o1 (by decide) (by decide), fun k hk => ⟨.inl (o2 k hk).1, (o2 k hk).2⟩⟩
        · rw [List.getElem?_append_right (by omega)] at hq
          rw [List.getElem?_append_right (by rw [h.len]; omega)] at hv
          have e0 : i - s.C.length = 0 := by
            rcases Nat.eq_zero_or_pos (i - s.C.length) with h0 | h0
            · exact h0
            · rw [List.getElem?_eq_none (by simp; omega)] at hq
              cases hq
          rw [h.len, e0] at hv
          rw [e0] at hq
          simp at hq hv
          subst hq hv
          exact ⟨hk3 oq (by decide) (by decide), fun k hk => ⟨.inr (.inr hk), fun e => fq k hk (h.fP k e)⟩⟩
      ne := fun a c x y k hac hx hy hk => by
        have last : ∀ i u, (vs ++ [vq])[i]? = some u → ¬ i < vs.length → i = vs.length ∧ u = vq := fun i u hu hi => by
          rw [List.getElem?_append_right (by omega)] at hu
          have e0 : i - vs.length = 0 := by
            rcases Nat.eq_zero_or_pos (i - vs.length) with h0 | h0
            · exact h0
            · rw [List.getElem?_eq_none (by simp; omega)] at hu
              cases hu
          rw [e0] at hu
          simp at hu
          exact ⟨by omega, hu.symm⟩
        have old : ∀ (j : Nat) (u : Value), vs[j]? = some u → ∀ k, u.ownBlock = some k → vq.ownBlock ≠ some k := fun j u hu k hk e => by
          have hj : j < s.C.length := by rw [← h.len]; exact (List.getElem?_eq_some_iff.1 hu).1
          exact fq k e ((h.q j s.C[j] u (List.getElem?_eq_getElem hj) hu).2 k hk).1
        by_cases e1 : a < vs.length
        · rw [List.getElem?_append_left e1] at hx
          by_cases e2 : c < vs.length
          · rw [List.getElem?_append_left e2] at hy
            exact h.ne a c x y k hac hx hy hk
          · obtain ⟨_, rfl⟩ := last c y hy e2
            exact old a x hx k hk
        · obtain ⟨ea, rfl⟩ := last a x hx e1
          have e2 : c < vs.length := by
            rcases Nat.lt_or_ge c vs.length with h2 | h2
            · exact h2
            · obtain ⟨ec, _⟩ := last c y hy (by omega)
              omega
          rw [List.getElem?_append_left e2] at hy
          exact fun e3 => old c y hy k e3 hk
      fg := .inl h.fg
      fP := fun k hk => .inl (h.fP k hk)
      fM := fun k hk => .inl (h.fM k hk)
      fC := fun k hk => .inr (.inl hk)
      fA := fun k hk => .inl (h.fA k hk)
      fb := fun k hk => by
        rw [hsz]
        rcases hk with hk | hk | hk
        · exact Nat.lt_of_lt_of_le (h.fb k hk) hg.size
        · exact (own_type ho hk).2.1
        · exact Nat.lt_of_lt_of_le (own_type oq hk).2.1 hg.size
      small := by
        have := h.small
        simp
        omega
      rooms := fun q' hq' => by
        rcases List.mem_append.1 hq' with h1 | h1
        · exact h.rooms q' h1
        · simp at h1
          subst h1
          exact hr }
end
end Go.Proofs.YtghfjnnmpmfboaaDoor.Ck
