/- The document's state: small calls. (Written by mk_y.py.) -/
import Derived.Test.YtghfjnnmpmfboaaDoorZa
namespace Go.Proofs.YtghfjnnmpmfboaaDoor.Ck
open Go.RowKit

set_option maxRecDepth 20000 in
set_option maxHeartbeats 1000000 in
theorem form_any (t n b : Int) (w : World) : Calls Tryd.prog 85 #[.agg #[.int .i64 t, .int .i64 n, .int .u64 b]] w (Vb w (.bool (goodB t n b))) := by
  have HB := hide (bel_new w (.cells #[.int .i64 t, .int .i64 n, .int .u64 b] 41))
  obtain ⟨g, hg⟩ : ∃ g, goodB t n b = g := ⟨_, rfl⟩
  rw [hg]
  have HG := hide hg
  clear hg
  by_cases h1 : t = 1
  · subst h1
    by_cases h2 : b = 0
    · subst h2
      go_enter Tryd.func85, Tryd.ntmps85
      go_wp2_with fail
      go_ret
      exact Vb.mk (congrArg Value.bool (by rw [← HG.out]; simp [goodB])) HB.out
    go_enter Tryd.func85, Tryd.ntmps85
    go_wp2_with fail
    go_ret
    exact Vb.mk (congrArg Value.bool (by rw [← HG.out]; simp [goodB] <;> omega)) HB.out
  by_cases h2 : t = 2
  · subst h2
    by_cases h3 : n = 0
    · subst h3
      go_enter Tryd.func85, Tryd.ntmps85
      go_wp2_with fail
      go_ret
      exact Vb.mk (congrArg Value.bool (by rw [← HG.out]; simp [goodB])) HB.out
    go_enter Tryd.func85, Tryd.ntmps85
    go_wp2_with fail
    go_ret
    exact Vb.mk (congrArg Value.bool (by rw [← HG.out]; simp [goodB] <;> omega)) HB.out
  by_cases h3 : t = 3
  · subst h3
    by_cases h4 : b = 0
    · subst h4
      by_cases h5 : n < 0
      · go_enter Tryd.func85, Tryd.ntmps85
        go_wp2_with fail
        go_ret
        exact Vb.mk (congrArg Value.bool (by rw [← HG.out]; simp [goodB]; omega)) HB.out
      by_cases h6 : 1 < n
      · have d6 : decide (n ≤ 1) = false := decide_eq_false (by omega)
        have d7 : goodB 3 n 0 = false := by simp [goodB]; omega
        rw [d7] at HG
        go_enter Tryd.func85, Tryd.ntmps85
        go_wp2_with fail
        go_ret
        exact Vb.mk (congrArg Value.bool (by rw [← HG.out])) HB.out
      have h7 : n = 0 ∨ n = 1 := by omega
      rcases h7 with rfl | rfl
      all_goals
        go_enter Tryd.func85, Tryd.ntmps85
        go_wp2_with fail
        go_ret
        exact Vb.mk (congrArg Value.bool (by rw [← HG.out]; simp [goodB])) HB.out
    go_enter Tryd.func85, Tryd.ntmps85
    go_wp2_with fail
    go_ret
    exact Vb.mk (congrArg Value.bool (by rw [← HG.out]; simp [goodB, h4])) HB.out
  go_enter Tryd.func85, Tryd.ntmps85
  go_wp2_with fail
  all_goals
    go_ret
    exact Vb.mk (congrArg Value.bool (by rw [← HG.out]; simp [goodB, h1, h2, h3])) HB.out

set_option maxRecDepth 20000 in
set_option maxHeartbeats 1000000 in
theorem in_yes (i n : Nat) (w : World) (hi : i < n) : Calls Tryd.prog 14 #[.int .i64 (i : Nat), .int .i64 (n : Nat)] w fun e w' => e = .returned (.bool true) ∧ w = w' := by
  go_enter Tryd.func14, Tryd.ntmps14
  go_wp2_with fail
  go_ret
  exact ⟨by simp, rfl⟩
set_option maxRecDepth 20000 in
set_option maxHeartbeats 1000000 in
theorem in_no (i : Int) (n : Nat) (w : World) (hi : i < 0 ∨ (n : Int) ≤ i) : Calls Tryd.prog 14 #[.int .i64 i, .int .i64 (n : Nat)] w fun e w' => e = .returned (.bool false) ∧ w = w' := by
  by_cases h0 : i < 0
  · clear hi
    go_enter Tryd.func14, Tryd.ntmps14
    go_wp2_with fail
    go_ret
    exact ⟨by simp, rfl⟩
  · have h1 : (n : Int) ≤ i := by omega
    have h2 : 0 ≤ i := by omega
    have h3 : decide (i < (n : Int)) = false := decide_eq_false (by omega)
    clear hi h0
    go_enter Tryd.func14, Tryd.ntmps14
    go_wp2_with fail
    go_ret
    exact ⟨by simp, rfl⟩
/-- a call on the document's state: what it answers, and the state behind it -/
def Rp (w : World) (F R : Nat → Prop) (B g : Nat) (s' : St) (v : Value) (e : Ending) (w' : World) : Prop := e = .returned v ∧ ∃ F' R', Rt w' F' R' B g s' ∧ Ch F F' w w' ∧ (∀ k, R k → R' k) ∧ ∀ k, R' k → R k ∨ w.heap.size ≤ k
theorem Rp.mk {w w' : World} {F F' R : Nat → Prop} {B g : Nat} {s' : St} {v v' : Value} (hv : v = v') (h : Rt w' F' R B g s') (hc : Ch F F' w w') : Rp w F R B g s' v' (.returned v) w' := ⟨by rw [hv], F', R, h, hc, fun _ h => h, fun _ h => .inl h⟩
set_option maxRecDepth 20000 in
set_option maxHeartbeats 1000000 in
theorem rTurn_out {w : World} {F R : Nat → Prop} {B g : Nat} {s : St} (h : Rt w F R B g s) (i : Int) (y : Bool) (hi : i < 0 ∨ (s.M.length : Int) ≤ i) : Calls Tryd.prog 49 #[.pointer (some ⟨g, 0, none⟩), .int .i64 i, .bool y] w fun e w' => e = .returned (.tuple #[.bool false, .int .i64 1]) ∧ w = w' := by
  obtain ⟨vP, vL, vC, vS, vT, vA, ss, tk, h⟩ := h
  obtain ⟨a, c, e, hc, hm⟩ := own_slice h.lo
  subst e
  obtain ⟨n, hn⟩ : ∃ n, n = s.M.length := ⟨_, rfl⟩
  rw [← hn] at hi
  have c1 := h.cells.2.1
  rw [← hn] at c1
  have hgl := h.fb g h.fg
  have Iq := hide (fun w' => in_no i n w' hi)
  clear h hc hm hi hn
  go_enter Tryd.func49, Tryd.ntmps49
  go_wp2_with fail
  refine (Iq.out _).mono ?_
  rintro e w1 ⟨rfl, rfl⟩
  go_wp2_with fail
  go_ret2
  exact ⟨rfl, rfl⟩
set_option maxRecDepth 20000 in
set_option maxHeartbeats 1000000 in
theorem rTurn_in {w : World} {F R : Nat → Prop} {B g : Nat} {s : St} (h : Rt w F R B g s) (i : Nat) (x y : Bool) (hx : s.M[i]? = some x) : Calls Tryd.prog 49 #[.pointer (some ⟨g, 0, none⟩), .int .i64 (i : Nat), .bool y] w (Rp w F R B g { s with M := s.M.set i y } (.tuple #[.bool (x != y), .int .i64 0])) := by
  obtain ⟨vP, vL, vC, vS, vT, vA, ss, tk, h⟩ := h
  have hi : i < s.M.length := (List.getElem?_eq_some_iff.1 hx).1
  obtain ⟨b, c, e, hc, hm⟩ := own_some h.lo (by omega)
  have hsm := h.small
  obtain ⟨n, hn⟩ : ∃ n, n = s.M.length := ⟨_, rfl⟩
  rw [← hn] at e hi hc
  have hn128 : n ≤ 128 := by omega
  subst e
  have HN := hide hn
  have c1 := h.cells.2.1
  have hgl := h.fb g h.fg
  have hbl : b < w.heap.size := (own_type h.lo (k := b) rfl).2.1
  obtain ⟨d1, d2⟩ := own_cell h.lo i _ (bls_at hx)
  have SM := hide (h.setL hn i y)
  have S0 := hide h
  clear h hsm hc hm hn
  by_cases e : x = y
  · subst e
    have hse : Hid (s.M.set i x = s.M) := set_same _ _ _ hx
    go_enter Tryd.func49, Tryd.ntmps49
    go_wp2_with fail
    refine (in_yes i n _ hi).mono ?_
    rintro e w1 ⟨rfl, rfl⟩
    go_wp2_with fail
    go_ret2
    exact Rp.mk (by simp) ⟨_, _, _, _, _, _, _, _, by rw [hse.out]; exact S0.out⟩ (Ch.refl _ _)
  · have e2 : (x == y) = false := by simp [e]
    have E := hide e
    clear e
    go_enter Tryd.func49, Tryd.ntmps49
    go_wp2_with fail
    refine (in_yes i n _ hi).mono ?_
    rintro e w1 ⟨rfl, rfl⟩
    go_wp2_with fail
    go_ret2
    exact Rp.mk (by simp [bne, e2]) ⟨_, _, _, _, _, _, _, _, SM.out.1⟩ SM.out.2
set_option maxRecDepth 20000 in
set_option maxHeartbeats 1000000 in
theorem rHeld_out {w : World} {F R : Nat → Prop} {B g : Nat} {s : St} (h : Rt w F R B g s) (i : Int) (hi : i < 0 ∨ (s.C.length : Int) ≤ i) : Calls Tryd.prog 17 #[.pointer (some ⟨g, 0, none⟩), .int .i64 i] w fun e w' => e = .returned (.int .i64 0) ∧ w = w' := by
  obtain ⟨vP, vL, vC, vS, vT, vA, ss, tk, h⟩ := h
  obtain ⟨a, c, e, hc, hm⟩ := own_slice h.ch
  subst e
  obtain ⟨n, hn⟩ : ∃ n, n = s.C.length := ⟨_, rfl⟩
  rw [← hn] at hi
  have c1 := h.cells.2.2.1
  rw [← hn] at c1
  have hgl := h.fb g h.fg
  have Iq := hide (fun w' => in_no i n w' hi)
  clear h hc hm hi hn
  go_enter Tryd.func17, Tryd.ntmps17
  go_wp2_with fail
  refine (Iq.out _).mono ?_
  rintro e w1 ⟨rfl, rfl⟩
  go_wp2_with fail
  go_ret
  exact ⟨rfl, rfl⟩
set_option maxRecDepth 20000 in
set_option maxHeartbeats 1000000 in
theorem rHeld_q {w : World} {F R : Nat → Prop} {B g : Nat} {s : St} (h : Rt w F R B g s) (hB : B ≤ 1000000) (i : Nat) (q : Qu) (hx : s.C[i]? = some q) : Calls Tryd.prog 17 #[.pointer (some ⟨g, 0, none⟩), .int .i64 (i : Nat)] w fun e w' => e = .returned (.int .i64 (q.l.length : Nat)) ∧ ∃ k, w' = w.drewN k := by
  obtain ⟨vP, vL, vC, vS, vT, vA, ss, tk, h⟩ := h
  have hi : i < s.C.length := (List.getElem?_eq_some_iff.1 hx).1
  obtain ⟨b, c, e, hc, hm⟩ := own_some h.ch (by omega)
  have hsm := h.small
  obtain ⟨n, hn⟩ : ∃ n, n = s.C.length := ⟨_, rfl⟩
  rw [← hn] at e hi hc
  have hn128 : n ≤ 128 := by omega
  subst e
  have HN := hide hn
  have c1 := h.cells.2.2.1
  have hgl := h.fb g h.fg
  have hbl : b < w.heap.size := (own_type h.ch (k := b) rfl).2.1
  have hsl := h.sl
  have htl := h.tl
  obtain ⟨vq, hv⟩ : ∃ v, ss[i]? = some v := ⟨_, List.getElem?_eq_getElem (by omega)⟩
  obtain ⟨t0, ht⟩ : ∃ t, tk[i]? = some t := ⟨_, List.getElem?_eq_getElem (by omega)⟩
  obtain ⟨f, tn, e1, hle, hdr, hfB, oq, rq⟩ := h.q i q vq t0 hx hv ht
  subst e1
  obtain ⟨aq, cq, eq, hcq, hmq⟩ := own_slice oq
  subst eq
  obtain ⟨bS, cS, eS, _⟩ := own_some h.se (by omega)
  obtain ⟨bT, cT, eT, _⟩ := own_some h.ta (by omega)
  rw [← hn] at eS eT
  subst eS eT
  have hfl : f.length - tn = q.l.length := by rw [← hdr, List.length_drop]
  have c3 := h.cells.2.2.2.1
  have c4 := h.cells.2.2.2.2.1
  have dS := (own_cell h.se i _ hv).1
  have dT := (own_cell h.ta i _ (nts_at ht)).1
  obtain ⟨fl, hfl1⟩ : ∃ fl, fl = f.length := ⟨_, rfl⟩
  rw [← hfl1] at dS
  have hb1 : fl ≤ 1000000 := by omega
  have hb2 : tn ≤ fl := by omega
  have E : Hid ((fl : Int) - (tn : Int) = (q.l.length : Nat)) := hide (by omega)
  clear h hsm hc hm hn hv ht oq rq hfl hdr hle hfB hcq hmq hsl htl hfl1 hB
  go_enter Tryd.func17, Tryd.ntmps17
  go_wp2_with fail
  refine (in_yes i n _ hi).mono ?_
  rintro e w1 ⟨rfl, rfl⟩
  go_wp2_with fail
  go_quiet (fail)
  go_wp2_with fail
  go_ret
  exact ⟨by rw [← E.out]; rfl, _, rfl⟩
end Go.Proofs.YtghfjnnmpmfboaaDoor.Ck
