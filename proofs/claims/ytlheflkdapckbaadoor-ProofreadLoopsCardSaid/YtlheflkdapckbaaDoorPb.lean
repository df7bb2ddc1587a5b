/- Package proofread: what is asked; a stack: pop, push. -/
import Derived.Test.YtlheflkdapckbaaDoorPh
namespace Go.Proofs.YtlheflkdapckbaaDoor.Ck
open Go.RowKit

theorem pmust_yes (w : World) : Calls Tryd.prog 42 #[.bool true] w fun e w' => e = .returned (.tuple #[]) ∧ w = w' := by
  go_enter Tryd.func42, Tryd.ntmps42
  go_wp2_with fail
  go_end0
  exact ⟨rfl, rfl⟩
theorem pmust_no {w : World} {p : List Addr} (h : Ec w p) : Calls Tryd.prog 42 #[.bool false] w fun e w' => e = codeStop p ∧ w = w' := by
  unfold Ec errV at h
  go_enter Tryd.func42, Tryd.ntmps42
  go_wp2_with fail
  exact ⟨rfl, rfl, rfl⟩
theorem pmust_any {w : World} {p : List Addr} (h : Ec w p) (b : Bool) : Calls Tryd.prog 42 #[.bool b] w (Mp p w b) := by
  cases b with
  | true => exact (pmust_yes w).mono (fun e w' hh => ⟨.inl ⟨rfl, hh.1⟩, hh.2⟩)
  | false => exact (pmust_no h).mono (fun e w' hh => ⟨.inr ⟨rfl, hh.1⟩, hh.2⟩)
/-- a stack in memory: its variable in block b, its types in a row of its own from block B on -/
structure Sk (w : World) (b B : Nat) (v : Value) (s : List Int) : Prop where
  at_ : w.heap[b]? = some (.cells #[v] 54 (0, 0))
  row : w.ownsRow B 3 1 v s.length (nts s)
  hb : B ≤ b
  n : s.length ≤ 1000
section
variable {w w' : World} {b B : Nat} {v : Value} {s : List Int}
theorem Sk.ne (h : Sk w b B v s) : v.ownBlock ≠ some b := own_at h.row h.at_ (by decide)
theorem Sk.bel (h : Sk w b B v s) (hb : Below w.heap.size w w') : Sk w' b B v s := ⟨(hb.block b (lt_of_blk h.at_)).trans h.at_, own_keep h.row (fun k hk => hb.block k (own_type h.row hk).2.1), h.hb, h.n⟩
theorem Sk.ch {F F' : Nat → Prop} (h : Sk w b B v s) (c : Ch F F' w w') (h1 : ¬ F b) (h2 : ∀ k, v.ownBlock = some k → ¬ F k) : Sk w' b B v s := ⟨(c.blk b (lt_of_blk h.at_) h1).trans h.at_, own_keep h.row (fun k hk => c.blk k (own_type h.row hk).2.1 (h2 k hk)), h.hb, h.n⟩
/-- the row within the stack's variable is put in another row's place -/
theorem Sk.put (hat : w.heap[b]? = some (.cells #[v] 54 (0, 0))) {v' : Value} (hr : w.ownsRow B 3 1 v' s.length (nts s)) (hb : B ≤ b) (hn : s.length ≤ 1000) : Sk (w.setCell ⟨b, 0, none⟩ v') b B v' s ∧ Tn b w (w.setCell ⟨b, 0, none⟩ v') := by
  obtain ⟨k1, t1⟩ := set1 hat 0 v'
  exact ⟨⟨k1, own_keep hr (fun k hk => t1.blk k (own_type hr hk).2.1 (fun e => own_at hr hat (by decide) (by rw [hk, e]))), hb, hn⟩, t1⟩
end
set_option maxRecDepth 20000 in
set_option maxHeartbeats 1000000 in
theorem pop_some {w : World} {b B : Nat} {v : Value} {s : List Int} {t : Int} (h : Sk w b B v (s ++ [t])) : Calls Tryd.prog 53 #[.pointer (some ⟨b, 0, none⟩)] w fun e w' => e = .returned (.int .i64 t) ∧ (∃ v', Sk w' b B v' s) ∧ Tn b w w' := by
  have hl : (s ++ [t]).length = s.length + 1 := by simp
  have hn := h.n
  have hr := h.row
  rw [hl] at hn hr
  obtain ⟨r, c, rfl, h1, h2⟩ := own_some hr (by omega)
  have x0 := blk_cell h.at_ 0 _ rfl
  have f0 := blk_frz h.at_ 0
  have x1 := (own_cell hr s.length (.int .i64 t) (by simp [nts])).1
  obtain ⟨n, hn0⟩ : ∃ n, n = s.length := ⟨_, rfl⟩
  obtain ⟨m, hm⟩ : ∃ m, m = s.length + 1 := ⟨_, rfl⟩
  have HC : Hid (w.ownsRow B 3 1 (.slice (some ⟨r, 0, none⟩) n c) n (nts s)) := hide (by
    have := own_cut hr (keep := s.length) (by omega)
    rw [hn0]
    rw [show (nts (s ++ [t])).take s.length = nts s by simp [nts]] at this
    exact this)
  have HA := hide (And.intro h.at_ (And.intro h.hb hn0))
  have HN : Hid (s.length ≤ 1000) := hide (by omega)
  rw [← hm] at hn h1 x0 HA
  rw [← hn0] at x1 hm
  have hw : wrap64 ((m : Int) - 1) = (n : Int) := by unfold wrap64; omega
  have hm0 : decide (0 < m) = true := decide_eq_true (by omega)
  have hnm : (n : Int) < (m : Int) := by omega
  have hnc : n ≤ c := by omega
  clear h hr hl hn hn0 h1 h2 hm
  go_enter Tryd.func53, Tryd.ntmps53
  go_wp2_with fail
  refine (pmust_yes _).mono ?_
  rintro e w1 ⟨rfl, rfl⟩
  go_wp2_with fail
  go_ret
  obtain ⟨k1, t1⟩ := Sk.put HA.out.1 (v' := .slice (some ⟨r, 0, none⟩) n c) (s := s) (by rw [← HA.out.2.2]; exact HC.out) HA.out.2.1 HN.out
  exact ⟨rfl, ⟨_, k1⟩, t1⟩
set_option maxRecDepth 20000 in
set_option maxHeartbeats 1000000 in
theorem pop_none {w : World} {p : List Addr} {b B : Nat} {v : Value} (hc : Ec w p) (h : Sk w b B v []) : Calls Tryd.prog 53 #[.pointer (some ⟨b, 0, none⟩)] w fun e w' => e = codeStop p ∧ w = w' := by
  obtain ⟨a, c, rfl, _⟩ := own_slice h.row
  have x0 := blk_cell h.at_ 0 _ rfl
  have MN := hide (pmust_no hc)
  simp only [List.length_nil] at x0
  clear h hc
  go_enter Tryd.func53, Tryd.ntmps53
  go_wp2_with fail
  refine MN.out.mono ?_
  rintro e w1 ⟨rfl, rfl⟩
  exact ⟨rfl, rfl, rfl⟩
set_option maxRecDepth 20000 in
set_option maxHeartbeats 1000000 in
theorem push_stk {w : World} {b B : Nat} {v : Value} {s : List Int} (h : Sk w b B v s) (t : Int) (hs : s.length ≤ 900) : Calls Tryd.prog 54 #[.pointer (some ⟨b, 0, none⟩), .int .i64 t] w fun e w' => e = .returned (.tuple #[]) ∧ (∃ v', Sk w' b B v' (s ++ [t])) ∧ Below B w w' := by
  obtain ⟨a, c, rfl, _⟩ := own_slice h.row
  have x0 := blk_cell h.at_ 0 _ rfl
  have hbs : B ≤ w.heap.size := by have := lt_of_blk h.at_; have := h.hb; omega
  have PU := hide (fun ty => push_any (TS := 54) Tryd.underlying54 (n := s.length) (l := s) rfl (by omega) h.row hbs t ty)
  have H := hide h
  have HS := hide (And.intro hs hbs)
  obtain ⟨n, hn⟩ : ∃ n, n = s.length := ⟨_, rfl⟩
  have HN := hide hn
  rw [← hn] at PU x0 H
  clear h hs hbs hn
  go_enter Tryd.func54, Tryd.ntmps54
  go_wp2_with (first | (at_builtin; refine wpList_appV (TS := 54) rfl (.tmp 7) (.tmp 9) rfl _ _ rfl rfl _ (PU.out _) ?_; rintro v9 w9 ⟨⟨a9, c9, rfl⟩, o9, g9, b9⟩; have hat := (g9.block b (lt_of_blk H.out.at_) (fun e => H.out.ne e.symm)).trans H.out.at_; have x9 := blk_cell hat 0 _ rfl; have f9 := blk_frz hat 0; have R9 := hide (And.intro hat (And.intro o9 g9)); clear o9 g9 b9 hat))
  go_end0
  obtain ⟨k1, t1⟩ := Sk.put R9.out.1 (s := s ++ [t]) (v' := .slice a9 (n + 1) c9) (by rw [List.length_append, List.length_singleton, ← HN.out]; exact R9.out.2.1) H.out.hb (by rw [List.length_append, List.length_singleton]; have := HS.out.1; omega)
  refine ⟨rfl, ⟨_, k1⟩, ?_⟩
  have g9 := R9.out.2.2
  have b1 : Below B w w9 := ⟨g9.os, g9.tape, g9.output, g9.size, fun k hk => g9.block k (by have := HS.out.2; omega) (fun e => by have := (own_type H.out.row e.symm).1; omega)⟩
  exact b1.trans (t1.bel H.out.hb (Nat.le_trans HS.out.2 g9.size))
end Go.Proofs.YtlheflkdapckbaaDoor.Ck
