/- A place or a channel more in the document's state; no Go text is walked here. -/
import Derived.Test.YtghfjnnmpmfboaaDoorZe
namespace Go.Proofs.YtghfjnnmpmfboaaDoor.Ck
open Go.RowKit

section
variable {w w2 : World} {F R : Nat → Prop} {B g : Nat} {s : St} {vP vL vC vS vT vA v' : Value} {ss : List Value} {tk : List Int}
theorem Rv.placeA (h : Rv w F R B g s vP vL vC vS vT vA ss tk) (x : V3) (hg : w.grownBy w2 vP.ownBlock) (ho : w2.ownsRow 0 41 3 v' (s.P ++ [x]).length (vcs (s.P ++ [x]))) (hb : ∀ k, v'.ownBlock = some k → vP.ownBlock = some k ∨ w.heap.size ≤ k) (hl : s.P.length < 128) :
    Rv (w2.setCell ⟨g, 0, none⟩ v') (fun k => F k ∨ v'.ownBlock = some k) R B g { s with P := s.P ++ [x] } v' vL vC vS vT vA ss tk ∧ Ch F (fun k => F k ∨ v'.ownBlock = some k) w (w2.setCell ⟨g, 0, none⟩ v') := by
  have hsz : (w2.setCell ⟨g, 0, none⟩ v').heap.size = w2.heap.size := size_setCell _ _ _
  have ho2 : ∀ k, k ≠ g → (w2.setCell ⟨g, 0, none⟩ v').heap[k]? = w2.heap[k]? := fun k hk => Below.heap_setCell _ _ _ _ hk
  have gP : vP.ownBlock ≠ some g := own_at h.pl h.at_ (by decide)
  have gv : v'.ownBlock ≠ some g := fun e => by
    rcases hb g e with h1 | h1
    · exact gP h1
    · have := lt_of_blk h.at_
      omega
  have hg2 : w2.heap[g]? = some (.cells #[vP, vL, vC, vS, vT, vA] 50 (0, 0)) := (hg.block g (lt_of_blk h.at_) (fun e => gP e.symm)).trans h.at_
  have hk3 : ∀ {T : TypeId} {n : Nat} {v : Value} {len : Nat} {xs : List Value}, w.ownsRow 0 T n v len xs → (∀ k, v.ownBlock = some k → vP.ownBlock ≠ some k) → T ≠ 50 → (w2.setCell ⟨g, 0, none⟩ v').ownsRow 0 T n v len xs := fun hr hne hT =>
    own_keep hr fun k hk => (ho2 k (fun e => own_at hr h.at_ hT (e ▸ hk))).trans (hg.block k (own_type hr hk).2.1 (fun e => hne k hk e.symm))
  refine ⟨?_, ⟨hg.os, hg.tape, hg.output, by rw [hsz]; exact hg.size, fun k hk hF => (ho2 k (fun e => hF (e ▸ h.fg))).trans (hg.block k hk (fun e => hF (h.fP k e.symm))), fun k hk => ?_⟩⟩
  · exact { h with
      at_ := by
        rw [heap_setCell_same w2 g 0 _ _ _ hg2]
        rfl
      pl := own_keep ho fun k hk => ho2 k (fun e => gv (e ▸ hk))
      lo := hk3 h.lo (fun k hk => own_apart h.lo h.pl (by decide) k hk) (by decide)
      ch := hk3 h.ch (fun k hk => own_apart h.ch h.pl (by decide) k hk) (by decide)
      se := hk3 h.se (fun k hk => own_apart h.se h.pl (by decide) k hk) (by decide)
      ta := hk3 h.ta (fun k hk => own_apart h.ta h.pl (by decide) k hk) (by decide)
      ato := hk3 h.ato (fun k hk => own_apart h.ato h.pl (by decide) k hk) (by decide)
      q := fun i q v t hq hv ht => by
        obtain ⟨f, n, h1, h2, h3, h4, h5, h6⟩ := h.q i q v t hq hv ht
        exact ⟨f, n, h1, h2, h3, h4, hk3 h5 (fun k hk e => h.fr k (h6 k hk) (h.fP k e)) (by decide), h6⟩
      fg := .inl h.fg
      fP := fun k hk => .inr hk
      fL := fun k hk => .inl (h.fL k hk)
      fC := fun k hk => .inl (h.fC k hk)
      fS := fun k hk => .inl (h.fS k hk)
      fT := fun k hk => .inl (h.fT k hk)
      fA := fun k hk => .inl (h.fA k hk)
      fb := fun k hk => by
        rw [hsz]
        rcases hk with hk | hk
        · exact Nat.lt_of_lt_of_le (h.fb k hk) hg.size
        · exact (own_type ho hk).2.1
      rb := fun k hk => by rw [hsz]; exact Nat.lt_of_lt_of_le (h.rb k hk) hg.size
      fr := fun k hk e => by
        rcases e with e | e
        · exact h.fr k hk e
        · rcases hb k e with h1 | h1
          · exact h.fr k hk (h.fP k h1)
          · have := h.rb k hk
            omega
      small := by
        have := h.small
        simp
        omega }
  · rcases hk with hk | hk
    · exact .inl hk
    · rcases hb k hk with h1 | h1
      · exact .inl (h.fP k h1)
      · exact .inr h1
theorem Rv.pushP (h : Rv w F R B g s vP vL vC vS vT vA ss tk) (x : V3) (hl : s.P.length < 128) (ty : TypeId) :
    ∃ v' w', (Builtin.append_ #[46, 46] ty #[vP, .slice (some ⟨w.heap.size, 0, none⟩) 1 1]).run Tryd.prog (w.alloc (.cells #[.int .i64 x.1, .int .i64 x.2.1, .int .u64 x.2.2] 41)) = .ok v' w' ∧
      ((∃ a l c, v' = .slice a l c) ∧ w'.frozen? ⟨g, 0, none⟩ = false ∧ w'.cell? ⟨g, 0, none⟩ = some vP ∧ Rv (w'.setCell ⟨g, 0, none⟩ v') (fun k => F k ∨ v'.ownBlock = some k) R B g { s with P := s.P ++ [x] } v' vL vC vS vT vA ss tk ∧ Ch F (fun k => F k ∨ v'.ownBlock = some k) w (w'.setCell ⟨g, 0, none⟩ v')) := by
  obtain ⟨v', w', hr, ho, hg, hf⟩ := push_v rfl h.pl (by have := h.small; omega) x.1 x.2.1 x.2.2 ty
  have hgb := (hg.block g (lt_of_blk h.at_) (fun e => own_at h.pl h.at_ (by decide) e.symm)).trans h.at_
  obtain ⟨a, c, e, _⟩ := own_slice ho
  have e1 : s.P.length + 1 = (s.P ++ [x]).length := by simp
  rw [e1] at ho
  exact ⟨v', w', hr, ⟨_, _, _, e⟩, blk_frz hgb _, blk_cell hgb 0 _ rfl, h.placeA x hg ho hf hl⟩
end
/-- what the row with the three appends leaves -/
theorem Rv.chanA {W0 w : World} {F R : Nat → Prop} {B g n : Nat} {s : St} {vP vL vC vS vT vA uC uS uT : Value} {ss : List Value} {tk : List Int} (h : Rv W0 F R B g s vP vL vC vS vT vA ss tk) (y1 y2 : Int) (hn : n = s.C.length) (hl : n < 32) (hr : 0 ≤ y2 ∧ y2 ≤ 8)
    (hB : NBase W0 g vP vL vC vS vT vA w) (nC : NRow W0 w 52 2 uC (n + 1) (ccs s.C ++ [.int .i64 y1, .int .i64 y2]) vC) (nS : NRow W0 w 46 1 uS (n + 1) (ss ++ [.slice none 0 0]) vS) (nT : NRow W0 w 3 1 uT (n + 1) (nts tk ++ [.int .i64 0]) vT)
    (cC : w.cell? ⟨g, 2, none⟩ = some uC) (cS : w.cell? ⟨g, 3, none⟩ = some uS) (cT : w.cell? ⟨g, 4, none⟩ = some uT) (hst : ∀ k, vT.ownBlock = some k → vA.ownBlock ≠ some k) :
    ∃ F', Rv w F' R B g { s with C := s.C ++ [⟨y1, y2, []⟩] } vP vL uC uS uT vA (ss ++ [.slice none 0 0]) (tk ++ [0]) ∧ Ch F F' W0 w ∧ ∀ k, uT.ownBlock = some k → vA.ownBlock ≠ some k := by
  subst hn
  obtain ⟨⟨c2, c3, c4, hg⟩, ⟨a1, a2, a3, a4⟩, hfr⟩ := hB
  have e2 : c2 = uC := Option.some.inj ((blk_cell hg 2 _ rfl).symm.trans cC)
  have e3 : c3 = uS := Option.some.inj ((blk_cell hg 3 _ rfl).symm.trans cS)
  have e4 : c4 = uT := Option.some.inj ((blk_cell hg 4 _ rfl).symm.trans cT)
  subst e2 e3 e4
  have keep : ∀ {T : TypeId} {m : Nat} {v : Value} {len : Nat} {xs : List Value}, W0.ownsRow 0 T m v len xs → T ≠ 50 → (∀ k, v.ownBlock = some k → vC.ownBlock ≠ some k ∧ vS.ownBlock ≠ some k ∧ vT.ownBlock ≠ some k) → w.ownsRow 0 T m v len xs := fun hr hT hne =>
    own_keep hr fun k hk => hfr k (own_type hr hk).2.1 (fun e => own_at hr h.at_ hT (e ▸ hk)) (hne k hk).1 (hne k hk).2.1 (hne k hk).2.2
  have apart : ∀ {T : TypeId} {m : Nat} {v : Value} {len : Nat} {xs : List Value}, W0.ownsRow 0 T m v len xs → T ≠ 52 → T ≠ 46 → T ≠ 3 → ∀ k, v.ownBlock = some k → vC.ownBlock ≠ some k ∧ vS.ownBlock ≠ some k ∧ vT.ownBlock ≠ some k := fun hr t1 t2 t3 k hk =>
    ⟨own_apart hr h.ch t1 k hk, own_apart hr h.se t2 k hk, own_apart hr h.ta t3 k hk⟩
  have hsA : ∀ k, c4.ownBlock = some k → vA.ownBlock ≠ some k := fun k hk e => by
    rcases nT.2.2 k hk with h1 | h1
    · exact hst k h1 e
    · have := (own_type h.ato e).2.1
      omega
  have hsl := h.sl
  have htl := h.tl
  have inner : ∀ {v : Value} {len : Nat} {xs : List Value}, W0.ownsRow 0 41 3 v len xs → w.ownsRow 0 41 3 v len xs := fun hr => keep hr (by decide) (apart hr (by decide) (by decide) (by decide))
  refine ⟨fun k => F k ∨ c2.ownBlock = some k ∨ c3.ownBlock = some k ∨ c4.ownBlock = some k, ?_, ⟨a1, a2, a3, a4, fun k hk hF => hfr k hk (fun e => hF (e ▸ h.fg)) (fun e => hF (h.fC k e)) (fun e => hF (h.fS k e)) (fun e => hF (h.fT k e)), fun k hk => ?_⟩, hsA⟩
  · exact { h with
      at_ := hg
      pl := inner h.pl
      lo := keep h.lo (by decide) (apart h.lo (by decide) (by decide) (by decide))
      ch := by
        rw [ccs_app]
        simpa using nC.2.1
      se := by simpa using nS.2.1
      ta := by
        have := nT.2.1
        unfold nts at this ⊢
        rw [List.map_append]
        simpa using this
      ato := keep h.ato (by decide) (fun k hk => ⟨own_apart h.ato h.ch (by decide) k hk, own_apart h.ato h.se (by decide) k hk, fun e => hst k e hk⟩)
      q := fun i q v t hq hv ht => by
        by_cases e : i < s.C.length
        · rw [List.getElem?_append_left e] at hq
          rw [List.getElem?_append_left (by omega)] at hv ht
          obtain ⟨f, m, h1, h2, h3, h4, h5, h6⟩ := h.q i q v t hq hv ht
          exact ⟨f, m, h1, h2, h3, h4, inner h5, h6⟩
        · rw [List.getElem?_append_right (by omega)] at hq hv ht
          have e0 : i - s.C.length = 0 := by
            rcases Nat.eq_zero_or_pos (i - s.C.length) with h0 | h0
            · exact h0
            · rw [List.getElem?_eq_none (by simp; omega)] at hq
              cases hq
          rw [hsl, e0] at hv
          rw [htl, e0] at ht
          rw [e0] at hq
          simp at hq hv ht
          subst hq hv ht
          exact ⟨[], 0, rfl, Nat.zero_le _, rfl, Nat.zero_le _, own_nil _ _ _, fun k hk => by cases hk⟩
      ne := fun k h1 h2 => absurd h2 (hsA k h1)
      fg := .inl h.fg
      fP := fun k hk => .inl (h.fP k hk)
      fL := fun k hk => .inl (h.fL k hk)
      fC := fun k hk => .inr (.inl hk)
      fS := fun k hk => .inr (.inr (.inl hk))
      fT := fun k hk => .inr (.inr (.inr hk))
      fA := fun k hk => .inl (h.fA k hk)
      fb := fun k hk => by
        rcases hk with hk | hk | hk | hk
        · exact Nat.lt_of_lt_of_le (h.fb k hk) a4
        · exact (own_type nC.2.1 hk).2.1
        · exact (own_type nS.2.1 hk).2.1
        · exact (own_type nT.2.1 hk).2.1
      rb := fun k hk => Nat.lt_of_lt_of_le (h.rb k hk) a4
      fr := fun k hk e => by
        have hlt := h.rb k hk
        rcases e with e | e | e | e
        · exact h.fr k hk e
        · rcases nC.2.2 k e with h1 | h1
          · exact h.fr k hk (h.fC k h1)
          · omega
        · rcases nS.2.2 k e with h1 | h1
          · exact h.fr k hk (h.fS k h1)
          · omega
        · rcases nT.2.2 k e with h1 | h1
          · exact h.fr k hk (h.fT k h1)
          · omega
      small := by
        have := h.small
        simp
        omega
      rooms := fun q' hq' => by
        rcases List.mem_append.1 hq' with h1 | h1
        · exact h.rooms q' h1
        · simp at h1
          subst h1
          exact ⟨hr.1, hr.2, by simp; exact hr.1⟩ }
  · rcases hk with hk | hk | hk | hk
    · exact .inl hk
    · rcases nC.2.2 k hk with h1 | h1
      · exact .inl (h.fC k h1)
      · exact .inr h1
    · rcases nS.2.2 k hk with h1 | h1
      · exact .inl (h.fS k h1)
      · exact .inr h1
    · rcases nT.2.2 k hk with h1 | h1
      · exact .inl (h.fT k h1)
      · exact .inr h1
/-- the document's state that is being made -/
def RMk (w wc : World) (g : Nat) (s : St) : Prop := ∃ F vP vL vC vS vT vA ss tk, Rv wc F (fun _ => False) 0 g s vP vL vC vS vT vA ss tk ∧ (∀ k, F k → w.heap.size ≤ k) ∧ Below w.heap.size w wc ∧ ∀ k, vT.ownBlock = some k → vA.ownBlock ≠ some k
def RNewP (w : World) (ok : Bool) (s : St) (e : Ending) (w' : World) : Prop := (ok = false ∧ e = .returned (.tuple #[.pointer none, .bool false]) ∧ Below w.heap.size w w') ∨
  (ok = true ∧ ∃ g F, e = .returned (.tuple #[.pointer (some ⟨g, 0, none⟩), .bool true]) ∧ Rt w' F (fun _ => False) 0 g s ∧ (∀ k, F k → w.heap.size ≤ k) ∧ Below w.heap.size w w')
theorem rmk_new {w W : World} {gb' gi gs mn an : Nat} (hm : mn ≤ 32) (ha : an ≤ 32) {vb vi : Value} (hvb : vb = .slice (some ⟨gb', 0, none⟩) mn mn) (hvi : vi = .slice (some ⟨gi, 0, none⟩) an an) (ob : W.ownsRow 0 4 1 vb mn (List.replicate mn (.bool false))) (oi : W.ownsRow 0 3 1 vi an (List.replicate an (.int .i64 0)))
    (hg : W.heap[gs]? = some (.cells #[.slice none 0 0, vb, .slice none 0 0, .slice none 0 0, .slice none 0 0, vi] 50 (0, 0))) (hb : w.heap.size ≤ gb' ∧ w.heap.size ≤ gi ∧ w.heap.size ≤ gs) (hB : Below w.heap.size w W) : RMk w W gs ⟨[], List.replicate mn false, [], List.replicate an 0⟩ := by
  refine ⟨fun k => k = gb' ∨ k = gi ∨ k = gs, .slice none 0 0, vb, .slice none 0 0, .slice none 0 0, .slice none 0 0, vi, [], [], { at_ := hg, pl := own_nil _ _ _, lo := (by simpa [bls] using ob), ch := own_nil _ _ _, se := own_nil _ _ _, ta := own_nil _ _ _, ato := (by simpa [nts] using oi), q := fun i q v t h _ _ => (by simp at h), ne := fun k h => (by cases h), fg := .inr (.inr rfl), fP := fun k h => (by cases h), fL := fun k h => ?_, fC := fun k h => (by cases h), fS := fun k h => (by cases h), fT := fun k h => (by cases h), fA := fun k h => ?_, fb := fun k h => ?_, rb := fun k h => h.elim, fr := fun k h => h.elim, small := (by simp; omega), rooms := fun q h => (by cases h) }, fun k h => by omega, hB, fun k h => by cases h⟩
  · subst hvb
    cases h
    exact .inl rfl
  · subst hvi
    cases h
    exact .inr (.inl rfl)
  · rcases h with rfl | rfl | rfl
    · exact (own_type ob (by rw [hvb]; rfl)).2.1
    · exact (own_type oi (by rw [hvi]; rfl)).2.1
    · exact lt_of_blk hg
end Go.Proofs.YtghfjnnmpmfboaaDoor.Ck
