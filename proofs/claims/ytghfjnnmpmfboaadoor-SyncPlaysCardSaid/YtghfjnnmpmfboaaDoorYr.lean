/- Package sync: a place or a channel more, by append. (Written by mk_y.py.) -/
import Derived.Test.YtghfjnnmpmfboaaDoorYq
namespace Go.Proofs.YtghfjnnmpmfboaaDoor.Ck
open Go.RowKit

section
variable {w : World} {F : Nat → Prop} {g : Nat} {s : St} {vP vM vC vA : Value} {vs : List Value}
theorem Sv.pushP (h : Sv w F g s vP vM vC vA vs) (x : V3) (hl : s.P.length < 128) (ty : TypeId) :
    ∃ v' w', (Builtin.append_ #[46, 46] ty #[vP, .slice (some ⟨w.heap.size, 0, none⟩) 1 1]).run Tryd.prog (w.alloc (.cells #[.int .i64 x.1, .int .i64 x.2.1, .int .u64 x.2.2] 41)) = .ok v' w' ∧
      ((∃ a l c, v' = .slice a l c) ∧ w'.frozen? ⟨g, 0, none⟩ = false ∧ w'.cell? ⟨g, 0, none⟩ = some vP ∧ Sv (w'.setCell ⟨g, 0, none⟩ v') (fun k => F k ∨ v'.ownBlock = some k) g { s with P := s.P ++ [x] } v' vM vC vA vs ∧ Ch F (fun k => F k ∨ v'.ownBlock = some k) w (w'.setCell ⟨g, 0, none⟩ v')) := by
  obtain ⟨v', w', hr, ho, hg, hf⟩ := push_v rfl h.pl (by omega) x.1 x.2.1 x.2.2 ty
  have hgb := (hg.block g (lt_of_blk h.at_) (fun e => own_at h.pl h.at_ (by decide) e.symm)).trans h.at_
  obtain ⟨a, c, e, _⟩ := own_slice ho
  have e1 : s.P.length + 1 = (s.P ++ [x]).length := by simp
  rw [e1] at ho
  exact ⟨v', w', hr, ⟨_, _, _, e⟩, blk_frz hgb _, blk_cell hgb 0 _ rfl, h.placeA x hg ho hf hl⟩
theorem info_que : (Tryd.prog.info? 98).map (fun i => (i.zero, i.size, i.bytes)) = some (some (.agg #[.int .i64 0, .int .i64 0, .slice none 0 0]), 3, 40) := by kernel_rfl
theorem Sv.pushC (h : Sv w F g s vP vM vC vA vs) (q : Qu) {a : Option Addr} {l c : Nat} (oq : w.ownsRow 0 41 3 (.slice a l c) q.l.length (vcs q.l)) (fq : ∀ k, (Value.slice a l c).ownBlock = some k → ¬ F k) (hl : s.C.length < 32) (hr : 0 ≤ q.room ∧ q.room ≤ 8 ∧ (q.l.length : Int) ≤ q.room) (ty : TypeId) :
    ∃ v' w', (Builtin.append_ #[94, 94] ty #[vC, .slice (some ⟨w.heap.size, 0, none⟩) 1 1]).run Tryd.prog (w.alloc (.cells #[.int .i64 q.t, .int .i64 q.room, .slice a l c] 98)) = .ok v' w' ∧
      ((∃ a l c, v' = .slice a l c) ∧ w'.frozen? ⟨g, 2, none⟩ = false ∧ w'.cell? ⟨g, 2, none⟩ = some vC ∧ (∀ k, v'.ownBlock = some k → vC.ownBlock = some k ∨ w.heap.size ≤ k) ∧ Sv (w'.setCell ⟨g, 2, none⟩ v') (fun k => F k ∨ v'.ownBlock = some k ∨ (Value.slice a l c).ownBlock = some k) g { s with C := s.C ++ [q] } vP vM v' vA (vs ++ [.slice a l c]) ∧ Ch F (fun _ => False) w (w'.setCell ⟨g, 2, none⟩ v')) := by
  obtain ⟨ie, hi, hz0, hz1, hz2⟩ := info_parts info_que
  have hb := bel_new w (.cells #[.int .i64 q.t, .int .i64 q.room, .slice a l c] 98)
  have o1 := own_keep h.ch (fun k hk => hb.block k (own_type h.ch hk).2.1)
  have hc : ∀ (j : Nat) (u : Value), ([.int .i64 q.t, .int .i64 q.room, .slice a l c] : List Value)[j]? = some u → (w.alloc (.cells #[.int .i64 q.t, .int .i64 q.room, .slice a l c] 98)).cell? ((⟨w.heap.size, 0, none⟩ : Addr).add j) = some u := fun j u hu => by
    rw [show (⟨w.heap.size, 0, none⟩ : Addr).add j = ⟨w.heap.size, j, none⟩ by unfold Addr.add; by_cases h : j = 0 <;> simp [h]]
    exact blk_cell (Go.Deep.blk_alloc_new w _) j u (by simpa using hu)
  obtain ⟨v', w', hrun, ho, hg, _, hat⟩ := run_append_own_at (P := Tryd.prog) (w.alloc (.cells #[.int .i64 q.t, .int .i64 q.room, .slice a l c] 98)) 0 94 ty 98 ie _ 3 40 Tryd.underlying94 hi hz0 hz1 hz2 rfl (by decide) vC s.C.length (qcs s.C vs) o1 ⟨w.heap.size, 0, none⟩ 1 1 [.int .i64 q.t, .int .i64 q.room, .slice a l c] rfl hc (by intro u hu; simp at hu; rcases hu with rfl | rfl | rfl <;> rfl) (by unfold maxLen; omega) (by omega) (Nat.zero_le _)
  have hg' : w.grownBy w' vC.ownBlock := ⟨hg.os, hg.tape, hg.output, Nat.le_trans hb.size hg.size, fun k hk hne => (hg.block k (Nat.lt_of_lt_of_le hk hb.size) hne).trans (hb.block k hk)⟩
  have hf : ∀ k, v'.ownBlock = some k → vC.ownBlock = some k ∨ w.heap.size ≤ k := fun k hk => by
    rcases hat with e | e
    · exact .inl (e.symm.trans hk)
    · rw [e] at hk
      right
      have := Option.some.inj hk
      simp at this
      omega
  have hgb := (hg'.block g (lt_of_blk h.at_) (fun e => own_at h.ch h.at_ (by decide) e.symm)).trans h.at_
  obtain ⟨a', c', e, _⟩ := own_slice ho
  exact ⟨v', w', hrun, ⟨_, _, _, e⟩, blk_frz hgb _, blk_cell hgb 2 _ rfl, hf, h.chanA q oq fq hg' ho hf hl hr⟩
end
theorem zeroT_of {t : Int} (h : badT t = false) : zeroT t = t := by
  unfold badT zeroT at *
  split
  · rfl
  · rename_i h1
    rw [if_neg h1] at h
    simp at h
def zz (ps : List Int) : List V3 := ps.map fun t => (t, 0, 0)
def cz (cs : List (Int × Int)) : List Qu := cs.map fun c => ⟨c.1, c.2, []⟩
theorem take_snoc {α : Type} (l : List α) (k : Nat) (d : α) (h : k < l.length) : l.take (k + 1) = l.take k ++ [l.getD k d] := by
  rw [List.take_add_one, List.getElem?_eq_getElem h, List.getD_eq_getElem?_getD, List.getElem?_eq_getElem h]
  rfl
theorem any_at {α : Type} {l : List α} {f : α → Bool} (h : l.any f = false) (k : Nat) (d : α) (hk : k < l.length) : f (l.getD k d) = false := by
  rw [List.any_eq_false] at h
  rw [List.getD_eq_getElem?_getD, List.getElem?_eq_getElem hk]
  simpa using h l[k] (List.getElem_mem hk)
theorem Mk.of {w wc : World} {g : Nat} {s : St} {F F' : Nat → Prop} {wd : World} (hF : ∀ k, F k → w.heap.size ≤ k) (hb : Below w.heap.size w wc) (h : Stt wd F' g s) (c : Ch F F' wc wd) : Mk w wd g s :=
  ⟨F', h, c.low hF hb.size, hb.trans (c.bel hF hb.size)⟩
end Go.Proofs.YtghfjnnmpmfboaaDoor.Ck
