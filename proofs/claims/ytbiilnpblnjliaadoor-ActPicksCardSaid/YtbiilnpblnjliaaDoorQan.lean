/- Texts of this proof, packed: contracts of the program's functions, and the plain model that they are held against. -/
import Derived.Test.YtbiilnpblnjliaaDoorQam
/- Package act: has a state this mutex? (Written by mk_a.py.) -/
namespace Go.Proofs.YtbiilnpblnjliaaDoor.Ck
open Go.RowKit

set_option maxRecDepth 20000 in
set_option maxHeartbeats 1000000 in
theorem outq_bool (a : Option Addr) (n c : Nat) (i : Int) (w : World) {p : List Addr} (h17 : E2 w p) (hi : i < 0 ∨ (n : Int) ≤ i) : Calls Tryd.prog 56 #[.slice a n c, .int .i64 i] w fun e w' => e = .returned (.tuple #[.pointer none, errV p 0]) ∧ ∃ k, w' = w.drewN k := by
  have x0 : w.cell? ⟨0, 0, none⟩ = some (errV p 0) := h17.c0
  clear h17
  generalize errV p 0 = ev at *
  by_cases h0 : i < 0
  · clear hi
    go_enter Tryd.func56, Tryd.ntmps56
    go_wp2_with fail
    go_quiet (fail)
    go_wp2_with fail
    go_ret2
    exact ⟨rfl, _, rfl⟩
  · have h1 : (n : Int) ≤ i := by omega
    have h2 : 0 ≤ i := by omega
    clear hi h0
    go_enter Tryd.func56, Tryd.ntmps56
    go_wp2_with fail
    go_quiet (fail)
    go_wp2_with fail
    go_ret2
    exact ⟨rfl, _, rfl⟩
set_option maxRecDepth 20000 in
set_option maxHeartbeats 1000000 in
theorem lockedq {w : World} {F : Nat → Prop} {g : Nat} {s : St} (h : Stt w F g s) {p : List Addr} (h17 : E2 w p) (i : Int) (hi : i < 0 ∨ (s.M.length : Int) ≤ i) : Calls Tryd.prog 15 #[.pointer (some ⟨g, 0, none⟩), .int .i64 i] w fun e w' => e = .returned (.bool false) ∧ ∃ k, w' = w.drewN k := by
  obtain ⟨vP, vM, vC, vA, vs, h⟩ := h
  obtain ⟨a, c, e, hc, hm⟩ := own_slice h.mu
  subst e
  obtain ⟨n, hn⟩ : ∃ n, n = s.M.length := ⟨_, rfl⟩
  rw [← hn] at hi
  have c1 := h.cells.2.1
  rw [← hn] at c1
  have EO := hide (fun w' (h17 : E2 w' p) => outq_bool a n c i w' h17 hi)
  have H7 := hide h17
  unfold errV at *
  generalize adr p 0 = ad at *
  clear h hc hm hi hn h17
  go_enter Tryd.func15, Tryd.ntmps15
  go_wp2_with fail
  refine (EO.out _ H7.out).mono ?_
  rintro e w1 ⟨rfl, k, rfl⟩
  go_wp2_with fail
  go_ret
  exact ⟨rfl, _, rfl⟩
set_option maxRecDepth 20000 in
set_option maxHeartbeats 1000000 in
theorem turnq {w : World} {F : Nat → Prop} {g : Nat} {s : St} (h : Stt w F g s) {p : List Addr} (h17 : E2 w p) (i : Int) (hi : i < 0 ∨ (s.M.length : Int) ≤ i) : Calls Tryd.prog 85 #[.pointer (some ⟨g, 0, none⟩), .int .i64 i, .bool false] w fun e w' => e = .returned (.tuple #[.bool false, errV p 0]) ∧ ∃ k, w' = w.drewN k := by
  obtain ⟨vP, vM, vC, vA, vs, h⟩ := h
  obtain ⟨a, c, e, hc, hm⟩ := own_slice h.mu
  subst e
  obtain ⟨n, hn⟩ : ∃ n, n = s.M.length := ⟨_, rfl⟩
  rw [← hn] at hi
  have c1 := h.cells.2.1
  rw [← hn] at c1
  have EO := hide (fun w' (h17 : E2 w' p) => outq_bool a n c i w' h17 hi)
  have H7 := hide h17
  unfold errV at *
  generalize adr p 0 = ad at *
  clear h hc hm hi hn h17
  go_enter Tryd.func85, Tryd.ntmps85
  go_wp2_with fail
  refine (EO.out _ H7.out).mono ?_
  rintro e w1 ⟨rfl, k, rfl⟩
  go_wp2_with fail
  go_ret2
  exact ⟨rfl, _, rfl⟩
set_option maxRecDepth 20000 in
set_option maxHeartbeats 1000000 in
theorem unlockq {w : World} {F : Nat → Prop} {g : Nat} {s : St} (h : Stt w F g s) {p : List Addr} (h17 : E2 w p) (i : Int) (hi : i < 0 ∨ (s.M.length : Int) ≤ i) : Calls Tryd.prog 50 #[.pointer (some ⟨g, 0, none⟩), .int .i64 i] w fun e w' => e = .returned (.tuple #[.bool false, errV p 0]) ∧ ∃ k, w' = w.drewN k := by
  have T := hide (turnq h h17 i hi)
  clear h hi h17
  unfold errV at *
  generalize adr p 0 = ad at *
  go_enter Tryd.func50, Tryd.ntmps50
  go_wp2_with fail
  refine T.out.mono ?_
  rintro e w1 ⟨rfl, k, rfl⟩
  go_wp2_with fail
  go_ret2
  exact ⟨rfl, _, rfl⟩
/-- whether a mutex is locked, asked of a world that only drew -/
theorem Locked_q {w : World} {F : Nat → Prop} {g : Nat} {s : St} {p : List Addr} (h : Stt w F g s) (h17 : E2 w p) (i : Int) : Calls Tryd.prog 15 #[.pointer (some ⟨g, 0, none⟩), .int .i64 i] w fun e w' => e = .returned (.bool ((lk s.M i).getD false)) ∧ ∃ k, w' = w.drewN k := by
  cases hl : lk s.M i with
  | some b =>
    obtain ⟨k, rfl, hk⟩ := lk_some hl
    exact (Locked_in h k b hk).mono fun e w' ⟨he, hw⟩ => ⟨he, 0, hw ▸ rfl⟩
  | none => exact lockedq h h17 i (lk_none hl)
set_option maxRecDepth 20000 in
set_option maxHeartbeats 1000000 in
theorem hasMutex_q {w : World} {F : Nat → Prop} {g : Nat} {s : St} {p : List Addr} (h : Stt w F g s) (h17 : E2 w p) (i : Int) : Calls Tryd.prog 103 #[.pointer (some ⟨g, 0, none⟩), .int .i64 i] w fun e w' => e = .returned (.bool (lk s.M i).isSome) ∧ ∃ k, w' = w.drewN k := by
  have L := hide (Locked_q h h17 i)
  have hgl := h.lt
  cases hl : lk s.M i with
  | some b =>
    cases b with
    | true =>
      rw [hl] at L
      clear h h17 hl
      go_enter Tryd.func103, Tryd.ntmps103
      go_wp2_with fail
      refine L.out.mono ?_
      rintro e w1 ⟨rfl, n, rfl⟩
      go_wp2_with fail
      go_ret
      exact ⟨rfl, _, rfl⟩
    | false =>
      rw [hl] at L
      obtain ⟨k, rfl, hk⟩ := lk_some hl
      have U := hide (fun (n : Nat) => Unlock_same (w := w.drewN n) (h.bel (below_drewN (Below.refl _ _) n)) k hk)
      clear h h17 hl hk
      go_enter Tryd.func103, Tryd.ntmps103
      go_wp2_with fail
      refine L.out.mono ?_
      rintro e w1 ⟨rfl, n, rfl⟩
      go_wp2_with fail
      refine (U.out n).mono ?_
      rintro e w2 ⟨rfl, rfl⟩
      go_wp2_with fail
      go_ret
      exact ⟨rfl, _, rfl⟩
  | none =>
    rw [hl] at L
    have U := hide (fun (n : Nat) => unlockq (w := w.drewN n) (h.bel (below_drewN (Below.refl _ _) n)) (h17.below (Nat.le_refl _) (below_drewN (Below.refl _ _) n)) i (lk_none hl))
    clear h h17 hl
    unfold errV at *
    generalize adr p 0 = ad at *
    go_enter Tryd.func103, Tryd.ntmps103
    go_wp2_with fail
    refine L.out.mono ?_
    rintro e w1 ⟨rfl, n, rfl⟩
    go_wp2_with fail
    refine (U.out n).mono ?_
    rintro e w2 ⟨rfl, m, rfl⟩
    go_wp2_with fail
    go_ret
    exact ⟨rfl, n + m, by simp⟩
end Go.Proofs.YtbiilnpblnjliaaDoor.Ck

/- Package act: can a goroutine run? (1 to 4) (Written by mk_a.py.) -/
namespace Go.Proofs.YtbiilnpblnjliaaDoor.Ck
open Go.RowKit

set_option maxRecDepth 20000 in
set_option maxHeartbeats 1000000 in
theorem can_1 {w : World} {G : Nat → Prop} {g : Nat} {S : List (List Wt)} {r : Rm} {p : List Addr} (h : Rn w G g S r) (h17 : E2 w p) (i : Nat) (x : Gr) (hx : r.gs[i]? = some x) (hk : x.w.k = 1) : Calls Tryd.prog 94 #[.pointer (some ⟨g, 0, none⟩), .int .i64 (i : Nat)] w (Vb w (.bool (canW r x.w))) := by
  have HR := hide h
  obtain ⟨Fs, Fo, R, gs, vC, vB, vG, vE, ps, ts, h, hG⟩ := h
  obtain ⟨bG, cG, b, t, va, eG, _, _, _, _, _, hA, ⟨s1, s2, s3⟩, s4⟩ := h.see hx
  subst eG
  obtain ⟨aa, na, ca, rfl⟩ := hA.form
  clear hA
  have hi : i < r.gs.length := (List.getElem?_eq_some_iff.1 hx).1
  have hn8 := h.n8
  obtain ⟨⟨c0, c1, c2, c3, c4⟩, c5, c6, c7, c8, c9⟩ := h.cells
  have hgl := h.fb g h.fg
  obtain ⟨rest, ⟨k, o, a, v0, v1, v2⟩⟩ := x
  simp only at s4
  have b1 := blk_cell s4 1 _ rfl
  have b2 := blk_cell s4 2 _ rfl
  have b3 := blk_cell s4 3 _ rfl
  have b4 := blk_cell s4 4 _ rfl
  have b5 := blk_cell s4 5 _ rfl
  have b6 := blk_cell s4 6 _ rfl
  have b7 := blk_cell s4 7 _ rfl
  obtain ⟨n, hn⟩ : ∃ n, n = r.gs.length := ⟨_, rfl⟩
  rw [← hn] at hi hn8 c3
  have HN := hide hn
  have hi1 : (i : Int) < (n : Int) := by omega
  have hi0 : (0 : Int) ≤ (i : Int) := by omega
  have hd0 : decide ((i : Int) < 0) = false := by simp
  have hd1 : decide ((n : Int) ≤ (i : Int)) = false := by simp; omega
  clear hn
  have HS := hide h.st
  have hsl := h.st.lt
  have H7 := hide h17
  clear h hG h17
  simp only at hk
  subst hk
  have B0 := hide (bel_new w (.cells #[.int .i64 1, .int .i64 o, .int .i64 a, .int .i64 v0, .int .i64 v1, .int .u64 v2, .slice aa na ca] 133))
  have V0 := hide (Wv.new w 1 o a v0 v1 v2 (.slice aa na ca))
  have u0 := hide ((B0.out.cell (p := ⟨g, 0, none⟩) hgl).trans c0)
  obtain ⟨z, hz⟩ : ∃ z, canW r ⟨1, o, a, (v0, v1, v2)⟩ = z := ⟨_, rfl⟩
  rw [hz]
  have HZ := hide hz
  clear hz
  have CA := hide (canAccess_any ((HS.out.bel B0.out).bel (below_drewN (Below.refl _ _) 1)) ((H7.out.below (Nat.le_refl _) B0.out).below (Nat.le_refl _) (below_drewN (Below.refl _ _) 1)) 1 o a v0 v1 v2 (.slice aa na ca))
  clear HS H7 HR
  go_enter Tryd.func94, Tryd.ntmps94
  go_wp2_with fail
  generalize w.alloc (.cells #[.int .i64 1, .int .i64 o, .int .i64 a, .int .i64 v0, .int .i64 v1, .int .u64 v2, .slice aa na ca] 133) = w1 at *
  obtain ⟨q0, q1, q2, q3, q4, q5, q6⟩ := V0.out.all
  have u0 := u0.out
  refine wp_quiet_tail 5 mixed (by kernel_rfl) ?_
  simp only [List.take_succ_cons, List.take_zero, List.drop_succ_cons, List.drop_zero]
  repeat (first | go_big_quiet_skip | (go_big_quiet_want; go_big_quiet_op; go_big_quiet_on))
  refine wpQuiet_nil ?_
  go_wp2_with fail
  refine (CA.out).mono ?_
  rintro e w2 ⟨rfl, hb⟩
  replace hb : Below w1.heap.size w1 w2 := ⟨hb.os, hb.tape, hb.output, hb.size, hb.block⟩
  have B2 := hide (bel_trans B0.out hb)
  clear hb
  go_wp2_with fail
  go_ret
  exact Vb.mk (by rw [← HZ.out]; rfl) B2.out
set_option maxRecDepth 20000 in
set_option maxHeartbeats 1000000 in
theorem can_2 {w : World} {G : Nat → Prop} {g : Nat} {S : List (List Wt)} {r : Rm} {p : List Addr} (h : Rn w G g S r) (h17 : E2 w p) (i : Nat) (x : Gr) (hx : r.gs[i]? = some x) (hk : x.w.k = 2) : Calls Tryd.prog 94 #[.pointer (some ⟨g, 0, none⟩), .int .i64 (i : Nat)] w (Vb w (.bool (canW r x.w))) := by
  have HR := hide h
  obtain ⟨Fs, Fo, R, gs, vC, vB, vG, vE, ps, ts, h, hG⟩ := h
  obtain ⟨bG, cG, b, t, va, eG, _, _, _, _, _, hA, ⟨s1, s2, s3⟩, s4⟩ := h.see hx
  subst eG
  obtain ⟨aa, na, ca, rfl⟩ := hA.form
  clear hA
  have hi : i < r.gs.length := (List.getElem?_eq_some_iff.1 hx).1
  have hn8 := h.n8
  obtain ⟨⟨c0, c1, c2, c3, c4⟩, c5, c6, c7, c8, c9⟩ := h.cells
  have hgl := h.fb g h.fg
  obtain ⟨rest, ⟨k, o, a, v0, v1, v2⟩⟩ := x
  simp only at s4
  have b1 := blk_cell s4 1 _ rfl
  have b2 := blk_cell s4 2 _ rfl
  have b3 := blk_cell s4 3 _ rfl
  have b4 := blk_cell s4 4 _ rfl
  have b5 := blk_cell s4 5 _ rfl
  have b6 := blk_cell s4 6 _ rfl
  have b7 := blk_cell s4 7 _ rfl
  obtain ⟨n, hn⟩ : ∃ n, n = r.gs.length := ⟨_, rfl⟩
  rw [← hn] at hi hn8 c3
  have HN := hide hn
  have hi1 : (i : Int) < (n : Int) := by omega
  have hi0 : (0 : Int) ≤ (i : Int) := by omega
  have hd0 : decide ((i : Int) < 0) = false := by simp
  have hd1 : decide ((n : Int) ≤ (i : Int)) = false := by simp; omega
  clear hn
  have HS := hide h.st
  have hsl := h.st.lt
  have H7 := hide h17
  clear h hG h17
  simp only at hk
  subst hk
  have B0 := hide (bel_new w (.cells #[.int .i64 2, .int .i64 o, .int .i64 a, .int .i64 v0, .int .i64 v1, .int .u64 v2, .slice aa na ca] 133))
  have V0 := hide (Wv.new w 2 o a v0 v1 v2 (.slice aa na ca))
  have u0 := hide ((B0.out.cell (p := ⟨g, 0, none⟩) hgl).trans c0)
  obtain ⟨z, hz⟩ : ∃ z, canW r ⟨2, o, a, (v0, v1, v2)⟩ = z := ⟨_, rfl⟩
  rw [hz]
  have HZ := hide hz
  clear hz
  have CA := hide (canAccess_any ((HS.out.bel B0.out).bel (below_drewN (Below.refl _ _) 1)) ((H7.out.below (Nat.le_refl _) B0.out).below (Nat.le_refl _) (below_drewN (Below.refl _ _) 1)) 2 o a v0 v1 v2 (.slice aa na ca))
  clear HS H7 HR
  go_enter Tryd.func94, Tryd.ntmps94
  go_wp2_with fail
  generalize w.alloc (.cells #[.int .i64 2, .int .i64 o, .int .i64 a, .int .i64 v0, .int .i64 v1, .int .u64 v2, .slice aa na ca] 133) = w1 at *
  obtain ⟨q0, q1, q2, q3, q4, q5, q6⟩ := V0.out.all
  have u0 := u0.out
  refine wp_quiet_tail 5 mixed (by kernel_rfl) ?_
  simp only [List.take_succ_cons, List.take_zero, List.drop_succ_cons, List.drop_zero]
  repeat (first | go_big_quiet_skip | (go_big_quiet_want; go_big_quiet_op; go_big_quiet_on))
  refine wpQuiet_nil ?_
  go_wp2_with fail
  refine (CA.out).mono ?_
  rintro e w2 ⟨rfl, hb⟩
  replace hb : Below w1.heap.size w1 w2 := ⟨hb.os, hb.tape, hb.output, hb.size, hb.block⟩
  have B2 := hide (bel_trans B0.out hb)
  clear hb
  go_wp2_with fail
  go_ret
  exact Vb.mk (by rw [← HZ.out]; rfl) B2.out
set_option maxRecDepth 20000 in
set_option maxHeartbeats 1000000 in
theorem can_3 {w : World} {G : Nat → Prop} {g : Nat} {S : List (List Wt)} {r : Rm} {p : List Addr} (h : Rn w G g S r) (h17 : E2 w p) (i : Nat) (x : Gr) (hx : r.gs[i]? = some x) (hk : x.w.k = 3) : Calls Tryd.prog 94 #[.pointer (some ⟨g, 0, none⟩), .int .i64 (i : Nat)] w (Vb w (.bool (canW r x.w))) := by
  have HR := hide h
  obtain ⟨Fs, Fo, R, gs, vC, vB, vG, vE, ps, ts, h, hG⟩ := h
  obtain ⟨bG, cG, b, t, va, eG, _, _, _, _, _, hA, ⟨s1, s2, s3⟩, s4⟩ := h.see hx
  subst eG
  obtain ⟨aa, na, ca, rfl⟩ := hA.form
  clear hA
  have hi : i < r.gs.length := (List.getElem?_eq_some_iff.1 hx).1
  have hn8 := h.n8
  obtain ⟨⟨c0, c1, c2, c3, c4⟩, c5, c6, c7, c8, c9⟩ := h.cells
  have hgl := h.fb g h.fg
  obtain ⟨rest, ⟨k, o, a, v0, v1, v2⟩⟩ := x
  simp only at s4
  have b1 := blk_cell s4 1 _ rfl
  have b2 := blk_cell s4 2 _ rfl
  have b3 := blk_cell s4 3 _ rfl
  have b4 := blk_cell s4 4 _ rfl
  have b5 := blk_cell s4 5 _ rfl
  have b6 := blk_cell s4 6 _ rfl
  have b7 := blk_cell s4 7 _ rfl
  obtain ⟨n, hn⟩ : ∃ n, n = r.gs.length := ⟨_, rfl⟩
  rw [← hn] at hi hn8 c3
  have HN := hide hn
  have hi1 : (i : Int) < (n : Int) := by omega
  have hi0 : (0 : Int) ≤ (i : Int) := by omega
  have hd0 : decide ((i : Int) < 0) = false := by simp
  have hd1 : decide ((n : Int) ≤ (i : Int)) = false := by simp; omega
  clear hn
  have HS := hide h.st
  have hsl := h.st.lt
  have H7 := hide h17
  clear h hG h17
  simp only at hk
  subst hk
  have B0 := hide (bel_new w (.cells #[.int .i64 3, .int .i64 o, .int .i64 a, .int .i64 v0, .int .i64 v1, .int .u64 v2, .slice aa na ca] 133))
  have V0 := hide (Wv.new w 3 o a v0 v1 v2 (.slice aa na ca))
  have u0 := hide ((B0.out.cell (p := ⟨g, 0, none⟩) hgl).trans c0)
  obtain ⟨z, hz⟩ : ∃ z, canW r ⟨3, o, a, (v0, v1, v2)⟩ = z := ⟨_, rfl⟩
  rw [hz]
  have HZ := hide hz
  clear hz
  have HM := hide (fun n => hasMutex_q ((HS.out.bel B0.out).bel (below_drewN (Below.refl _ _) n)) ((H7.out.below (Nat.le_refl _) B0.out).below (Nat.le_refl _) (below_drewN (Below.refl _ _) n)) o)
  have LO := hide (fun n => Locked_q ((HS.out.bel B0.out).bel (below_drewN (Below.refl _ _) n)) ((H7.out.below (Nat.le_refl _) B0.out).below (Nat.le_refl _) (below_drewN (Below.refl _ _) n)) o)
  obtain ⟨hm, ehm⟩ : ∃ hm, (lk r.s.M o).isSome = hm := ⟨_, rfl⟩
  obtain ⟨lo, elo⟩ : ∃ lo, (lk r.s.M o).getD false = lo := ⟨_, rfl⟩
  have HZ2 : Hid (z = (hm && !lo)) := by
    rw [← HZ.out, ← ehm, ← elo]
    show canL r.s _ = _
    unfold canL
    cases lk r.s.M o <;> simp
  rw [ehm] at HM
  rw [elo] at LO
  clear ehm elo HZ HS H7 HR
  cases hm with
  | true =>
    go_enter Tryd.func94, Tryd.ntmps94
    go_wp2_with fail
    generalize w.alloc (.cells #[.int .i64 3, .int .i64 o, .int .i64 a, .int .i64 v0, .int .i64 v1, .int .u64 v2, .slice aa na ca] 133) = w1 at *
    obtain ⟨q0, q1, q2, q3, q4, q5, q6⟩ := V0.out.all
    have u0 := u0.out
    go_quiet (first | (go_at_call 103; exact Calls.quiet_of (HM.out _)) | (go_at_call 15; exact Calls.quiet_of (LO.out _)))
    go_wp2_with fail
    go_ret
    exact Vb.mk (by rw [HZ2.out]; simp) (below_drewN B0.out _)
  | false =>
    go_enter Tryd.func94, Tryd.ntmps94
    go_wp2_with fail
    generalize w.alloc (.cells #[.int .i64 3, .int .i64 o, .int .i64 a, .int .i64 v0, .int .i64 v1, .int .u64 v2, .slice aa na ca] 133) = w1 at *
    obtain ⟨q0, q1, q2, q3, q4, q5, q6⟩ := V0.out.all
    have u0 := u0.out
    go_quiet (first | (go_at_call 103; exact Calls.quiet_of (HM.out _)))
    go_wp2_with fail
    go_ret
    exact Vb.mk (by rw [HZ2.out]; simp) (below_drewN B0.out _)
set_option maxRecDepth 20000 in
set_option maxHeartbeats 1000000 in
theorem can_4 {w : World} {G : Nat → Prop} {g : Nat} {S : List (List Wt)} {r : Rm} {p : List Addr} (h : Rn w G g S r) (h17 : E2 w p) (i : Nat) (x : Gr) (hx : r.gs[i]? = some x) (hk : x.w.k = 4) : Calls Tryd.prog 94 #[.pointer (some ⟨g, 0, none⟩), .int .i64 (i : Nat)] w (Vb w (.bool (canW r x.w))) := by
  have HR := hide h
  obtain ⟨Fs, Fo, R, gs, vC, vB, vG, vE, ps, ts, h, hG⟩ := h
  obtain ⟨bG, cG, b, t, va, eG, _, _, _, _, _, hA, ⟨s1, s2, s3⟩, s4⟩ := h.see hx
  subst eG
  obtain ⟨aa, na, ca, rfl⟩ := hA.form
  clear hA
  have hi : i < r.gs.length := (List.getElem?_eq_some_iff.1 hx).1
  have hn8 := h.n8
  obtain ⟨⟨c0, c1, c2, c3, c4⟩, c5, c6, c7, c8, c9⟩ := h.cells
  have hgl := h.fb g h.fg
  obtain ⟨rest, ⟨k, o, a, v0, v1, v2⟩⟩ := x
  simp only at s4
  have b1 := blk_cell s4 1 _ rfl
  have b2 := blk_cell s4 2 _ rfl
  have b3 := blk_cell s4 3 _ rfl
  have b4 := blk_cell s4 4 _ rfl
  have b5 := blk_cell s4 5 _ rfl
  have b6 := blk_cell s4 6 _ rfl
  have b7 := blk_cell s4 7 _ rfl
  obtain ⟨n, hn⟩ : ∃ n, n = r.gs.length := ⟨_, rfl⟩
  rw [← hn] at hi hn8 c3
  have HN := hide hn
  have hi1 : (i : Int) < (n : Int) := by omega
  have hi0 : (0 : Int) ≤ (i : Int) := by omega
  have hd0 : decide ((i : Int) < 0) = false := by simp
  have hd1 : decide ((n : Int) ≤ (i : Int)) = false := by simp; omega
  clear hn
  have HS := hide h.st
  have hsl := h.st.lt
  have H7 := hide h17
  clear h hG h17
  simp only at hk
  subst hk
  have B0 := hide (bel_new w (.cells #[.int .i64 4, .int .i64 o, .int .i64 a, .int .i64 v0, .int .i64 v1, .int .u64 v2, .slice aa na ca] 133))
  have V0 := hide (Wv.new w 4 o a v0 v1 v2 (.slice aa na ca))
  have u0 := hide ((B0.out.cell (p := ⟨g, 0, none⟩) hgl).trans c0)
  obtain ⟨z, hz⟩ : ∃ z, canW r ⟨4, o, a, (v0, v1, v2)⟩ = z := ⟨_, rfl⟩
  rw [hz]
  have HZ := hide hz
  clear hz
  have CA := hide (hasMutex_any ((HS.out.bel B0.out).bel (below_drewN (Below.refl _ _) 1)) ((H7.out.below (Nat.le_refl _) B0.out).below (Nat.le_refl _) (below_drewN (Below.refl _ _) 1)) o)
  clear HS H7 HR
  go_enter Tryd.func94, Tryd.ntmps94
  go_wp2_with fail
  generalize w.alloc (.cells #[.int .i64 4, .int .i64 o, .int .i64 a, .int .i64 v0, .int .i64 v1, .int .u64 v2, .slice aa na ca] 133) = w1 at *
  obtain ⟨q0, q1, q2, q3, q4, q5, q6⟩ := V0.out.all
  have u0 := u0.out
  refine wp_quiet_tail 6 mixed (by kernel_rfl) ?_
  simp only [List.take_succ_cons, List.take_zero, List.drop_succ_cons, List.drop_zero]
  repeat (first | go_big_quiet_skip | (go_big_quiet_want; go_big_quiet_op; go_big_quiet_on))
  refine wpQuiet_nil ?_
  go_wp2_with fail
  refine (CA.out).mono ?_
  rintro e w2 ⟨rfl, hb⟩
  replace hb : Below w1.heap.size w1 w2 := ⟨hb.os, hb.tape, hb.output, hb.size, hb.block⟩
  have B2 := hide (bel_trans B0.out hb)
  clear hb
  go_wp2_with fail
  go_ret
  exact Vb.mk (by rw [← HZ.out]; rfl) B2.out
end Go.Proofs.YtbiilnpblnjliaaDoor.Ck

/- Package act: can a goroutine run? (5 to 9) (Written by mk_a.py.) -/
namespace Go.Proofs.YtbiilnpblnjliaaDoor.Ck
open Go.RowKit

theorem recvI_some (gs : List Gr) (c : Int) : decide (0 ≤ recvI gs c) = (recvR gs c).isSome := by
  unfold recvI
  cases recvR gs c with
  | none => rfl
  | some t => simp
theorem canSend_any {w : World} {G : Nat → Prop} {g : Nat} {S : List (List Wt)} {r : Rm} (h : Rn w G g S r) (k o a v0 v1 v2 : Int) (va : Value) :
    Calls Tryd.prog 104 #[.pointer (some ⟨g, 0, none⟩), .agg #[.int .i64 k, .int .i64 o, .int .i64 a, .int .i64 v0, .int .i64 v1, .int .u64 v2, va]] w (Vb w (.bool (canS r ⟨k, o, a, (v0, v1, v2)⟩))) := by
  unfold canS
  simp only
  cases hl : lk r.s.C o with
  | none => exact canSend_out h k o a v0 v1 v2 va (lk_none hl)
  | some q =>
    obtain ⟨i, rfl, hi⟩ := lk_some hl
    have := canSend_in h k a v0 v1 v2 va i q hi
    rw [recvI_some] at this
    exact this
set_option maxRecDepth 20000 in
set_option maxHeartbeats 1000000 in
theorem can_5 {w : World} {G : Nat → Prop} {g : Nat} {S : List (List Wt)} {r : Rm} {p : List Addr} (h : Rn w G g S r) (h17 : E2 w p) (i : Nat) (x : Gr) (hx : r.gs[i]? = some x) (hk : x.w.k = 5) : Calls Tryd.prog 94 #[.pointer (some ⟨g, 0, none⟩), .int .i64 (i : Nat)] w (Vb w (.bool (canW r x.w))) := by
  have HR := hide h
  obtain ⟨Fs, Fo, R, gs, vC, vB, vG, vE, ps, ts, h, hG⟩ := h
  obtain ⟨bG, cG, b, t, va, eG, _, _, _, _, _, hA, ⟨s1, s2, s3⟩, s4⟩ := h.see hx
  subst eG
  obtain ⟨aa, na, ca, rfl⟩ := hA.form
  clear hA
  have hi : i < r.gs.length := (List.getElem?_eq_some_iff.1 hx).1
  have hn8 := h.n8
  obtain ⟨⟨c0, c1, c2, c3, c4⟩, c5, c6, c7, c8, c9⟩ := h.cells
  have hgl := h.fb g h.fg
  obtain ⟨rest, ⟨k, o, a, v0, v1, v2⟩⟩ := x
  simp only at s4
  have b1 := blk_cell s4 1 _ rfl
  have b2 := blk_cell s4 2 _ rfl
  have b3 := blk_cell s4 3 _ rfl
  have b4 := blk_cell s4 4 _ rfl
  have b5 := blk_cell s4 5 _ rfl
  have b6 := blk_cell s4 6 _ rfl
  have b7 := blk_cell s4 7 _ rfl
  obtain ⟨n, hn⟩ : ∃ n, n = r.gs.length := ⟨_, rfl⟩
  rw [← hn] at hi hn8 c3
  have HN := hide hn
  have hi1 : (i : Int) < (n : Int) := by omega
  have hi0 : (0 : Int) ≤ (i : Int) := by omega
  have hd0 : decide ((i : Int) < 0) = false := by simp
  have hd1 : decide ((n : Int) ≤ (i : Int)) = false := by simp; omega
  clear hn
  have HS := hide h.st
  have hsl := h.st.lt
  have H7 := hide h17
  clear h hG h17
  simp only at hk
  subst hk
  have B0 := hide (bel_new w (.cells #[.int .i64 5, .int .i64 o, .int .i64 a, .int .i64 v0, .int .i64 v1, .int .u64 v2, .slice aa na ca] 133))
  have V0 := hide (Wv.new w 5 o a v0 v1 v2 (.slice aa na ca))
  obtain ⟨z, hz⟩ : ∃ z, canW r ⟨5, o, a, (v0, v1, v2)⟩ = z := ⟨_, rfl⟩
  rw [hz]
  have HZ := hide hz
  clear hz
  have CA := hide (canSend_any (HR.out.bel B0.out) 5 o a v0 v1 v2 (.slice aa na ca))
  clear HS H7 HR
  go_enter Tryd.func94, Tryd.ntmps94
  go_wp2_with fail
  refine (CA.out).mono ?_
  rintro e w2 ⟨rfl, hb⟩
  have B2 := hide (bel_trans B0.out hb)
  clear hb
  go_wp2_with fail
  go_ret
  exact Vb.mk (by rw [← HZ.out]; rfl) B2.out
set_option maxRecDepth 20000 in
set_option maxHeartbeats 1000000 in
theorem can_6 {w : World} {G : Nat → Prop} {g : Nat} {S : List (List Wt)} {r : Rm} {p : List Addr} (h : Rn w G g S r) (h17 : E2 w p) (i : Nat) (x : Gr) (hx : r.gs[i]? = some x) (hk : x.w.k = 6) : Calls Tryd.prog 94 #[.pointer (some ⟨g, 0, none⟩), .int .i64 (i : Nat)] w (Vb w (.bool (canW r x.w))) := by
  have HR := hide h
  obtain ⟨Fs, Fo, R, gs, vC, vB, vG, vE, ps, ts, h, hG⟩ := h
  obtain ⟨bG, cG, b, t, va, eG, _, _, _, _, _, hA, ⟨s1, s2, s3⟩, s4⟩ := h.see hx
  subst eG
  obtain ⟨aa, na, ca, rfl⟩ := hA.form
  clear hA
  have hi : i < r.gs.length := (List.getElem?_eq_some_iff.1 hx).1
  have hn8 := h.n8
  obtain ⟨⟨c0, c1, c2, c3, c4⟩, c5, c6, c7, c8, c9⟩ := h.cells
  have hgl := h.fb g h.fg
  obtain ⟨rest, ⟨k, o, a, v0, v1, v2⟩⟩ := x
  simp only at s4
  have b1 := blk_cell s4 1 _ rfl
  have b2 := blk_cell s4 2 _ rfl
  have b3 := blk_cell s4 3 _ rfl
  have b4 := blk_cell s4 4 _ rfl
  have b5 := blk_cell s4 5 _ rfl
  have b6 := blk_cell s4 6 _ rfl
  have b7 := blk_cell s4 7 _ rfl
  obtain ⟨n, hn⟩ : ∃ n, n = r.gs.length := ⟨_, rfl⟩
  rw [← hn] at hi hn8 c3
  have HN := hide hn
  have hi1 : (i : Int) < (n : Int) := by omega
  have hi0 : (0 : Int) ≤ (i : Int) := by omega
  have hd0 : decide ((i : Int) < 0) = false := by simp
  have hd1 : decide ((n : Int) ≤ (i : Int)) = false := by simp; omega
  clear hn
  have HS := hide h.st
  have hsl := h.st.lt
  have H7 := hide h17
  clear h hG h17
  simp only at hk
  subst hk
  have B0 := hide (bel_new w (.cells #[.int .i64 6, .int .i64 o, .int .i64 a, .int .i64 v0, .int .i64 v1, .int .u64 v2, .slice aa na ca] 133))
  have V0 := hide (Wv.new w 6 o a v0 v1 v2 (.slice aa na ca))
  have u0 := hide ((B0.out.cell (p := ⟨g, 0, none⟩) hgl).trans c0)
  obtain ⟨z, hz⟩ : ∃ z, canW r ⟨6, o, a, (v0, v1, v2)⟩ = z := ⟨_, rfl⟩
  rw [hz]
  have HZ := hide hz
  clear hz
  have CA := hide (Len_any ((HS.out.bel B0.out).bel (below_drewN (Below.refl _ _) 1)) ((H7.out.below (Nat.le_refl _) B0.out).below (Nat.le_refl _) (below_drewN (Below.refl _ _) 1)) o)
  obtain ⟨m, hm⟩ : ∃ m, lenC r.s o = m := ⟨_, rfl⟩
  have HZ2 : Hid (z = decide (0 < m)) := by
    rw [← HZ.out, ← hm]
    show canR r.s _ = _
    unfold canR lenC
    cases lk r.s.C o <;> simp
  rw [hm] at CA
  clear HS H7 HR HZ hm
  go_enter Tryd.func94, Tryd.ntmps94
  go_wp2_with fail
  generalize w.alloc (.cells #[.int .i64 6, .int .i64 o, .int .i64 a, .int .i64 v0, .int .i64 v1, .int .u64 v2, .slice aa na ca] 133) = w1 at *
  obtain ⟨q0, q1, q2, q3, q4, q5, q6⟩ := V0.out.all
  have u0 := u0.out
  refine wp_quiet_tail 6 mixed (by kernel_rfl) ?_
  simp only [List.take_succ_cons, List.take_zero, List.drop_succ_cons, List.drop_zero]
  repeat (first | go_big_quiet_skip | (go_big_quiet_want; go_big_quiet_op; go_big_quiet_on))
  refine wpQuiet_nil ?_
  go_wp2_with fail
  refine (CA.out).mono ?_
  rintro e w2 ⟨rfl, hb⟩
  replace hb : Below w1.heap.size w1 w2 := ⟨hb.os, hb.tape, hb.output, hb.size, hb.block⟩
  have B2 := hide (bel_trans B0.out hb)
  clear hb
  go_wp2_with fail
  go_ret
  exact Vb.mk (by rw [HZ2.out]; rfl) B2.out
set_option maxRecDepth 20000 in
set_option maxHeartbeats 1000000 in
theorem can_7 {w : World} {G : Nat → Prop} {g : Nat} {S : List (List Wt)} {r : Rm} {p : List Addr} (h : Rn w G g S r) (h17 : E2 w p) (i : Nat) (x : Gr) (hx : r.gs[i]? = some x) (hk : x.w.k = 7) : Calls Tryd.prog 94 #[.pointer (some ⟨g, 0, none⟩), .int .i64 (i : Nat)] w (Vb w (.bool (canW r x.w))) := by
  have HR := hide h
  obtain ⟨Fs, Fo, R, gs, vC, vB, vG, vE, ps, ts, h, hG⟩ := h
  obtain ⟨bG, cG, b, t, va, eG, _, _, _, _, _, hA, ⟨s1, s2, s3⟩, s4⟩ := h.see hx
  subst eG
  obtain ⟨aa, na, ca, rfl⟩ := hA.form
  clear hA
  have hi : i < r.gs.length := (List.getElem?_eq_some_iff.1 hx).1
  have hn8 := h.n8
  obtain ⟨⟨c0, c1, c2, c3, c4⟩, c5, c6, c7, c8, c9⟩ := h.cells
  have hgl := h.fb g h.fg
  obtain ⟨rest, ⟨k, o, a, v0, v1, v2⟩⟩ := x
  simp only at s4
  have b1 := blk_cell s4 1 _ rfl
  have b2 := blk_cell s4 2 _ rfl
  have b3 := blk_cell s4 3 _ rfl
  have b4 := blk_cell s4 4 _ rfl
  have b5 := blk_cell s4 5 _ rfl
  have b6 := blk_cell s4 6 _ rfl
  have b7 := blk_cell s4 7 _ rfl
  obtain ⟨n, hn⟩ : ∃ n, n = r.gs.length := ⟨_, rfl⟩
  rw [← hn] at hi hn8 c3
  have HN := hide hn
  have hi1 : (i : Int) < (n : Int) := by omega
  have hi0 : (0 : Int) ≤ (i : Int) := by omega
  have hd0 : decide ((i : Int) < 0) = false := by simp
  have hd1 : decide ((n : Int) ≤ (i : Int)) = false := by simp; omega
  clear hn
  have HS := hide h.st
  have hsl := h.st.lt
  have H7 := hide h17
  clear h hG h17
  simp only at hk
  subst hk
  have B0 := hide (bel_new w (.cells #[.int .i64 7, .int .i64 o, .int .i64 a, .int .i64 v0, .int .i64 v1, .int .u64 v2, .slice aa na ca] 133))
  have V0 := hide (Wv.new w 7 o a v0 v1 v2 (.slice aa na ca))
  have u0 := hide ((B0.out.cell (p := ⟨g, 0, none⟩) hgl).trans c0)
  obtain ⟨z, hz⟩ : ∃ z, canW r ⟨7, o, a, (v0, v1, v2)⟩ = z := ⟨_, rfl⟩
  rw [hz]
  have HZ := hide hz
  clear hz
  have CA := hide (canCount_any ((HS.out.bel B0.out).bel (below_drewN (Below.refl _ _) 1)) ((H7.out.below (Nat.le_refl _) B0.out).below (Nat.le_refl _) (below_drewN (Below.refl _ _) 1)) 7 o a v0 v1 v2 (.slice aa na ca))
  clear HS H7 HR
  go_enter Tryd.func94, Tryd.ntmps94
  go_wp2_with fail
  generalize w.alloc (.cells #[.int .i64 7, .int .i64 o, .int .i64 a, .int .i64 v0, .int .i64 v1, .int .u64 v2, .slice aa na ca] 133) = w1 at *
  obtain ⟨q0, q1, q2, q3, q4, q5, q6⟩ := V0.out.all
  have u0 := u0.out
  refine wp_quiet_tail 5 mixed (by kernel_rfl) ?_
  simp only [List.take_succ_cons, List.take_zero, List.drop_succ_cons, List.drop_zero]
  repeat (first | go_big_quiet_skip | (go_big_quiet_want; go_big_quiet_op; go_big_quiet_on))
  refine wpQuiet_nil ?_
  go_wp2_with fail
  refine (CA.out).mono ?_
  rintro e w2 ⟨rfl, hb⟩
  replace hb : Below w1.heap.size w1 w2 := ⟨hb.os, hb.tape, hb.output, hb.size, hb.block⟩
  have B2 := hide (bel_trans B0.out hb)
  clear hb
  go_wp2_with fail
  go_ret
  exact Vb.mk (by rw [← HZ.out]; rfl) B2.out
set_option maxRecDepth 20000 in
set_option maxHeartbeats 1000000 in
theorem can_8 {w : World} {G : Nat → Prop} {g : Nat} {S : List (List Wt)} {r : Rm} {p : List Addr} (h : Rn w G g S r) (h17 : E2 w p) (i : Nat) (x : Gr) (hx : r.gs[i]? = some x) (hk : x.w.k = 8) : Calls Tryd.prog 94 #[.pointer (some ⟨g, 0, none⟩), .int .i64 (i : Nat)] w (Vb w (.bool (canW r x.w))) := by
  have HR := hide h
  obtain ⟨Fs, Fo, R, gs, vC, vB, vG, vE, ps, ts, h, hG⟩ := h
  obtain ⟨bG, cG, b, t, va, eG, _, _, _, _, _, hA, ⟨s1, s2, s3⟩, s4⟩ := h.see hx
  subst eG
  obtain ⟨aa, na, ca, rfl⟩ := hA.form
  clear hA
  have hi : i < r.gs.length := (List.getElem?_eq_some_iff.1 hx).1
  have hn8 := h.n8
  obtain ⟨⟨c0, c1, c2, c3, c4⟩, c5, c6, c7, c8, c9⟩ := h.cells
  have hgl := h.fb g h.fg
  obtain ⟨rest, ⟨k, o, a, v0, v1, v2⟩⟩ := x
  simp only at s4
  have b1 := blk_cell s4 1 _ rfl
  have b2 := blk_cell s4 2 _ rfl
  have b3 := blk_cell s4 3 _ rfl
  have b4 := blk_cell s4 4 _ rfl
  have b5 := blk_cell s4 5 _ rfl
  have b6 := blk_cell s4 6 _ rfl
  have b7 := blk_cell s4 7 _ rfl
  obtain ⟨n, hn⟩ : ∃ n, n = r.gs.length := ⟨_, rfl⟩
  rw [← hn] at hi hn8 c3
  have HN := hide hn
  have hi1 : (i : Int) < (n : Int) := by omega
  have hi0 : (0 : Int) ≤ (i : Int) := by omega
  have hd0 : decide ((i : Int) < 0) = false := by simp
  have hd1 : decide ((n : Int) ≤ (i : Int)) = false := by simp; omega
  clear hn
  have HS := hide h.st
  have hsl := h.st.lt
  have H7 := hide h17
  clear h hG h17
  simp only at hk
  subst hk
  have B0 := hide (bel_new w (.cells #[.int .i64 8, .int .i64 o, .int .i64 a, .int .i64 v0, .int .i64 v1, .int .u64 v2, .slice aa na ca] 133))
  have V0 := hide (Wv.new w 8 o a v0 v1 v2 (.slice aa na ca))
  have u0 := hide ((B0.out.cell (p := ⟨g, 0, none⟩) hgl).trans c0)
  obtain ⟨z, hz⟩ : ∃ z, canW r ⟨8, o, a, (v0, v1, v2)⟩ = z := ⟨_, rfl⟩
  rw [hz]
  have HZ := hide hz
  clear hz
  have CA := hide (canCount_any ((HS.out.bel B0.out).bel (below_drewN (Below.refl _ _) 1)) ((H7.out.below (Nat.le_refl _) B0.out).below (Nat.le_refl _) (below_drewN (Below.refl _ _) 1)) 8 o a v0 v1 v2 (.slice aa na ca))
  clear HS H7 HR
  go_enter Tryd.func94, Tryd.ntmps94
  go_wp2_with fail
  generalize w.alloc (.cells #[.int .i64 8, .int .i64 o, .int .i64 a, .int .i64 v0, .int .i64 v1, .int .u64 v2, .slice aa na ca] 133) = w1 at *
  obtain ⟨q0, q1, q2, q3, q4, q5, q6⟩ := V0.out.all
  have u0 := u0.out
  refine wp_quiet_tail 5 mixed (by kernel_rfl) ?_
  simp only [List.take_succ_cons, List.take_zero, List.drop_succ_cons, List.drop_zero]
  repeat (first | go_big_quiet_skip | (go_big_quiet_want; go_big_quiet_op; go_big_quiet_on))
  refine wpQuiet_nil ?_
  go_wp2_with fail
  refine (CA.out).mono ?_
  rintro e w2 ⟨rfl, hb⟩
  replace hb : Below w1.heap.size w1 w2 := ⟨hb.os, hb.tape, hb.output, hb.size, hb.block⟩
  have B2 := hide (bel_trans B0.out hb)
  clear hb
  go_wp2_with fail
  go_ret
  exact Vb.mk (by rw [← HZ.out]; rfl) B2.out
set_option maxRecDepth 20000 in
set_option maxHeartbeats 1000000 in
theorem can_9 {w : World} {G : Nat → Prop} {g : Nat} {S : List (List Wt)} {r : Rm} {p : List Addr} (h : Rn w G g S r) (h17 : E2 w p) (i : Nat) (x : Gr) (hx : r.gs[i]? = some x) (hk : x.w.k = 9) : Calls Tryd.prog 94 #[.pointer (some ⟨g, 0, none⟩), .int .i64 (i : Nat)] w (Vb w (.bool (canW r x.w))) := by
  have HR := hide h
  obtain ⟨Fs, Fo, R, gs, vC, vB, vG, vE, ps, ts, h, hG⟩ := h
  obtain ⟨bG, cG, b, t, va, eG, _, _, _, _, _, hA, ⟨s1, s2, s3⟩, s4⟩ := h.see hx
  subst eG
  obtain ⟨aa, na, ca, rfl⟩ := hA.form
  clear hA
  have hi : i < r.gs.length := (List.getElem?_eq_some_iff.1 hx).1
  have hn8 := h.n8
  obtain ⟨⟨c0, c1, c2, c3, c4⟩, c5, c6, c7, c8, c9⟩ := h.cells
  have hgl := h.fb g h.fg
  obtain ⟨rest, ⟨k, o, a, v0, v1, v2⟩⟩ := x
  simp only at s4
  have b1 := blk_cell s4 1 _ rfl
  have b2 := blk_cell s4 2 _ rfl
  have b3 := blk_cell s4 3 _ rfl
  have b4 := blk_cell s4 4 _ rfl
  have b5 := blk_cell s4 5 _ rfl
  have b6 := blk_cell s4 6 _ rfl
  have b7 := blk_cell s4 7 _ rfl
  obtain ⟨n, hn⟩ : ∃ n, n = r.gs.length := ⟨_, rfl⟩
  rw [← hn] at hi hn8 c3
  have HN := hide hn
  have hi1 : (i : Int) < (n : Int) := by omega
  have hi0 : (0 : Int) ≤ (i : Int) := by omega
  have hd0 : decide ((i : Int) < 0) = false := by simp
  have hd1 : decide ((n : Int) ≤ (i : Int)) = false := by simp; omega
  clear hn
  have HS := hide h.st
  have hsl := h.st.lt
  have H7 := hide h17
  clear h hG h17
  simp only at hk
  subst hk
  have B0 := hide (bel_new w (.cells #[.int .i64 9, .int .i64 o, .int .i64 a, .int .i64 v0, .int .i64 v1, .int .u64 v2, .slice aa na ca] 133))
  have V0 := hide (Wv.new w 9 o a v0 v1 v2 (.slice aa na ca))
  have u0 := hide ((B0.out.cell (p := ⟨g, 0, none⟩) hgl).trans c0)
  obtain ⟨z, hz⟩ : ∃ z, canW r ⟨9, o, a, (v0, v1, v2)⟩ = z := ⟨_, rfl⟩
  rw [hz]
  have HZ := hide hz
  clear hz
  have CA := hide (canCount_any ((HS.out.bel B0.out).bel (below_drewN (Below.refl _ _) 1)) ((H7.out.below (Nat.le_refl _) B0.out).below (Nat.le_refl _) (below_drewN (Below.refl _ _) 1)) 9 o a v0 v1 v2 (.slice aa na ca))
  clear HS H7 HR
  go_enter Tryd.func94, Tryd.ntmps94
  go_wp2_with fail
  generalize w.alloc (.cells #[.int .i64 9, .int .i64 o, .int .i64 a, .int .i64 v0, .int .i64 v1, .int .u64 v2, .slice aa na ca] 133) = w1 at *
  obtain ⟨q0, q1, q2, q3, q4, q5, q6⟩ := V0.out.all
  have u0 := u0.out
  refine wp_quiet_tail 5 mixed (by kernel_rfl) ?_
  simp only [List.take_succ_cons, List.take_zero, List.drop_succ_cons, List.drop_zero]
  repeat (first | go_big_quiet_skip | (go_big_quiet_want; go_big_quiet_op; go_big_quiet_on))
  refine wpQuiet_nil ?_
  go_wp2_with fail
  refine (CA.out).mono ?_
  rintro e w2 ⟨rfl, hb⟩
  replace hb : Below w1.heap.size w1 w2 := ⟨hb.os, hb.tape, hb.output, hb.size, hb.block⟩
  have B2 := hide (bel_trans B0.out hb)
  clear hb
  go_wp2_with fail
  go_ret
  exact Vb.mk (by rw [← HZ.out]; rfl) B2.out
end Go.Proofs.YtbiilnpblnjliaaDoor.Ck

/- Package act: can a goroutine run? (the rest) (Written by mk_a.py.) -/
namespace Go.Proofs.YtbiilnpblnjliaaDoor.Ck
open Go.RowKit

set_option maxRecDepth 20000 in
set_option maxHeartbeats 1000000 in
theorem can_10 {w : World} {G : Nat → Prop} {g : Nat} {S : List (List Wt)} {r : Rm} {p : List Addr} (h : Rn w G g S r) (h17 : E2 w p) (i : Nat) (x : Gr) (hx : r.gs[i]? = some x) (hk : x.w.k = 10) : Calls Tryd.prog 94 #[.pointer (some ⟨g, 0, none⟩), .int .i64 (i : Nat)] w (Vb w (.bool (canW r x.w))) := by
  have HR := hide h
  obtain ⟨Fs, Fo, R, gs, vC, vB, vG, vE, ps, ts, h, hG⟩ := h
  obtain ⟨bG, cG, b, t, va, eG, _, _, _, _, _, hA, ⟨s1, s2, s3⟩, s4⟩ := h.see hx
  subst eG
  obtain ⟨aa, na, ca, rfl⟩ := hA.form
  clear hA
  have hi : i < r.gs.length := (List.getElem?_eq_some_iff.1 hx).1
  have hn8 := h.n8
  obtain ⟨⟨c0, c1, c2, c3, c4⟩, c5, c6, c7, c8, c9⟩ := h.cells
  have hgl := h.fb g h.fg
  obtain ⟨rest, ⟨k, o, a, v0, v1, v2⟩⟩ := x
  simp only at s4
  have b1 := blk_cell s4 1 _ rfl
  have b2 := blk_cell s4 2 _ rfl
  have b3 := blk_cell s4 3 _ rfl
  have b4 := blk_cell s4 4 _ rfl
  have b5 := blk_cell s4 5 _ rfl
  have b6 := blk_cell s4 6 _ rfl
  have b7 := blk_cell s4 7 _ rfl
  obtain ⟨n, hn⟩ : ∃ n, n = r.gs.length := ⟨_, rfl⟩
  rw [← hn] at hi hn8 c3
  have HN := hide hn
  have hi1 : (i : Int) < (n : Int) := by omega
  have hi0 : (0 : Int) ≤ (i : Int) := by omega
  have hd0 : decide ((i : Int) < 0) = false := by simp
  have hd1 : decide ((n : Int) ≤ (i : Int)) = false := by simp; omega
  clear hn
  have HS := hide h.st
  have hsl := h.st.lt
  have H7 := hide h17
  clear h hG h17
  simp only at hk
  subst hk
  have B0 := hide (bel_new w (.cells #[.int .i64 10, .int .i64 o, .int .i64 a, .int .i64 v0, .int .i64 v1, .int .u64 v2, .slice aa na ca] 133))
  have V0 := hide (Wv.new w 10 o a v0 v1 v2 (.slice aa na ca))
  obtain ⟨z, hz⟩ : ∃ z, canW r ⟨10, o, a, (v0, v1, v2)⟩ = z := ⟨_, rfl⟩
  rw [hz]
  have HZ := hide hz
  clear hz
  clear HS H7 HR
  go_enter Tryd.func94, Tryd.ntmps94
  go_wp2_with fail
  go_ret
  exact Vb.mk (by rw [← HZ.out]; rfl) B0.out
set_option maxRecDepth 20000 in
set_option maxHeartbeats 1000000 in
theorem can_11 {w : World} {G : Nat → Prop} {g : Nat} {S : List (List Wt)} {r : Rm} {p : List Addr} (h : Rn w G g S r) (h17 : E2 w p) (i : Nat) (x : Gr) (hx : r.gs[i]? = some x) (hk : x.w.k = 11) : Calls Tryd.prog 94 #[.pointer (some ⟨g, 0, none⟩), .int .i64 (i : Nat)] w (Vb w (.bool (canW r x.w))) := by
  have HR := hide h
  obtain ⟨Fs, Fo, R, gs, vC, vB, vG, vE, ps, ts, h, hG⟩ := h
  obtain ⟨bG, cG, b, t, va, eG, _, _, _, _, _, hA, ⟨s1, s2, s3⟩, s4⟩ := h.see hx
  subst eG
  obtain ⟨aa, na, ca, rfl⟩ := hA.form
  clear hA
  have hi : i < r.gs.length := (List.getElem?_eq_some_iff.1 hx).1
  have hn8 := h.n8
  obtain ⟨⟨c0, c1, c2, c3, c4⟩, c5, c6, c7, c8, c9⟩ := h.cells
  have hgl := h.fb g h.fg
  obtain ⟨rest, ⟨k, o, a, v0, v1, v2⟩⟩ := x
  simp only at s4
  have b1 := blk_cell s4 1 _ rfl
  have b2 := blk_cell s4 2 _ rfl
  have b3 := blk_cell s4 3 _ rfl
  have b4 := blk_cell s4 4 _ rfl
  have b5 := blk_cell s4 5 _ rfl
  have b6 := blk_cell s4 6 _ rfl
  have b7 := blk_cell s4 7 _ rfl
  obtain ⟨n, hn⟩ : ∃ n, n = r.gs.length := ⟨_, rfl⟩
  rw [← hn] at hi hn8 c3
  have HN := hide hn
  have hi1 : (i : Int) < (n : Int) := by omega
  have hi0 : (0 : Int) ≤ (i : Int) := by omega
  have hd0 : decide ((i : Int) < 0) = false := by simp
  have hd1 : decide ((n : Int) ≤ (i : Int)) = false := by simp; omega
  clear hn
  have HS := hide h.st
  have hsl := h.st.lt
  have H7 := hide h17
  clear h hG h17
  simp only at hk
  subst hk
  have B0 := hide (bel_new w (.cells #[.int .i64 11, .int .i64 o, .int .i64 a, .int .i64 v0, .int .i64 v1, .int .u64 v2, .slice aa na ca] 133))
  have V0 := hide (Wv.new w 11 o a v0 v1 v2 (.slice aa na ca))
  obtain ⟨z, hz⟩ : ∃ z, canW r ⟨11, o, a, (v0, v1, v2)⟩ = z := ⟨_, rfl⟩
  rw [hz]
  have HZ := hide hz
  clear hz
  clear HS H7 HR
  go_enter Tryd.func94, Tryd.ntmps94
  go_wp2_with fail
  go_ret
  exact Vb.mk (by rw [← HZ.out]; rfl) B0.out
set_option maxRecDepth 20000 in
set_option maxHeartbeats 1000000 in
theorem can_12 {w : World} {G : Nat → Prop} {g : Nat} {S : List (List Wt)} {r : Rm} {p : List Addr} (h : Rn w G g S r) (h17 : E2 w p) (i : Nat) (x : Gr) (hx : r.gs[i]? = some x) (hk : x.w.k = 12) : Calls Tryd.prog 94 #[.pointer (some ⟨g, 0, none⟩), .int .i64 (i : Nat)] w (Vb w (.bool (canW r x.w))) := by
  have HR := hide h
  obtain ⟨Fs, Fo, R, gs, vC, vB, vG, vE, ps, ts, h, hG⟩ := h
  obtain ⟨bG, cG, b, t, va, eG, _, _, _, _, _, hA, ⟨s1, s2, s3⟩, s4⟩ := h.see hx
  subst eG
  obtain ⟨aa, na, ca, rfl⟩ := hA.form
  clear hA
  have hi : i < r.gs.length := (List.getElem?_eq_some_iff.1 hx).1
  have hn8 := h.n8
  obtain ⟨⟨c0, c1, c2, c3, c4⟩, c5, c6, c7, c8, c9⟩ := h.cells
  have hgl := h.fb g h.fg
  obtain ⟨rest, ⟨k, o, a, v0, v1, v2⟩⟩ := x
  simp only at s4
  have b1 := blk_cell s4 1 _ rfl
  have b2 := blk_cell s4 2 _ rfl
  have b3 := blk_cell s4 3 _ rfl
  have b4 := blk_cell s4 4 _ rfl
  have b5 := blk_cell s4 5 _ rfl
  have b6 := blk_cell s4 6 _ rfl
  have b7 := blk_cell s4 7 _ rfl
  obtain ⟨n, hn⟩ : ∃ n, n = r.gs.length := ⟨_, rfl⟩
  rw [← hn] at hi hn8 c3
  have HN := hide hn
  have hi1 : (i : Int) < (n : Int) := by omega
  have hi0 : (0 : Int) ≤ (i : Int) := by omega
  have hd0 : decide ((i : Int) < 0) = false := by simp
  have hd1 : decide ((n : Int) ≤ (i : Int)) = false := by simp; omega
  clear hn
  have HS := hide h.st
  have hsl := h.st.lt
  have H7 := hide h17
  clear h hG h17
  simp only at hk
  subst hk
  have B0 := hide (bel_new w (.cells #[.int .i64 12, .int .i64 o, .int .i64 a, .int .i64 v0, .int .i64 v1, .int .u64 v2, .slice aa na ca] 133))
  have V0 := hide (Wv.new w 12 o a v0 v1 v2 (.slice aa na ca))
  obtain ⟨z, hz⟩ : ∃ z, canW r ⟨12, o, a, (v0, v1, v2)⟩ = z := ⟨_, rfl⟩
  rw [hz]
  have HZ := hide hz
  clear hz
  clear HS H7 HR
  go_enter Tryd.func94, Tryd.ntmps94
  go_wp2_with fail
  go_ret
  exact Vb.mk (by rw [← HZ.out]; rfl) B0.out
set_option maxRecDepth 20000 in
set_option maxHeartbeats 1000000 in
theorem can_none {w : World} {G : Nat → Prop} {g : Nat} {S : List (List Wt)} {r : Rm} {p : List Addr} (h : Rn w G g S r) (h17 : E2 w p) (i : Nat) (x : Gr) (hx : r.gs[i]? = some x) (hk : x.w.k < 1 ∨ 12 < x.w.k) : Calls Tryd.prog 94 #[.pointer (some ⟨g, 0, none⟩), .int .i64 (i : Nat)] w (Vb w (.bool (canW r x.w))) := by
  have HR := hide h
  obtain ⟨Fs, Fo, R, gs, vC, vB, vG, vE, ps, ts, h, hG⟩ := h
  obtain ⟨bG, cG, b, t, va, eG, _, _, _, _, _, hA, ⟨s1, s2, s3⟩, s4⟩ := h.see hx
  subst eG
  obtain ⟨aa, na, ca, rfl⟩ := hA.form
  clear hA
  have hi : i < r.gs.length := (List.getElem?_eq_some_iff.1 hx).1
  have hn8 := h.n8
  obtain ⟨⟨c0, c1, c2, c3, c4⟩, c5, c6, c7, c8, c9⟩ := h.cells
  have hgl := h.fb g h.fg
  obtain ⟨rest, ⟨k, o, a, v0, v1, v2⟩⟩ := x
  simp only at s4
  have b1 := blk_cell s4 1 _ rfl
  have b2 := blk_cell s4 2 _ rfl
  have b3 := blk_cell s4 3 _ rfl
  have b4 := blk_cell s4 4 _ rfl
  have b5 := blk_cell s4 5 _ rfl
  have b6 := blk_cell s4 6 _ rfl
  have b7 := blk_cell s4 7 _ rfl
  obtain ⟨n, hn⟩ : ∃ n, n = r.gs.length := ⟨_, rfl⟩
  rw [← hn] at hi hn8 c3
  have HN := hide hn
  have hi1 : (i : Int) < (n : Int) := by omega
  have hi0 : (0 : Int) ≤ (i : Int) := by omega
  have hd0 : decide ((i : Int) < 0) = false := by simp
  have hd1 : decide ((n : Int) ≤ (i : Int)) = false := by simp; omega
  clear hn
  have HS := hide h.st
  have hsl := h.st.lt
  have H7 := hide h17
  clear h hG h17
  have B0 := hide (bel_new w (.cells #[.int .i64 k, .int .i64 o, .int .i64 a, .int .i64 v0, .int .i64 v1, .int .u64 v2, .slice aa na ca] 133))
  have V0 := hide (Wv.new w k o a v0 v1 v2 (.slice aa na ca))
  simp only at hk
  obtain ⟨z, hz⟩ : ∃ z, canW r ⟨k, o, a, (v0, v1, v2)⟩ = z := ⟨_, rfl⟩
  rw [hz]
  have HZ := hide hz
  clear hz
  have hk1 : (k == 1) = false := by simp; omega
  have hk2 : (k == 2) = false := by simp; omega
  have hk3 : (k == 3) = false := by simp; omega
  have hk4 : (k == 4) = false := by simp; omega
  have hk5 : (k == 5) = false := by simp; omega
  have hk6 : (k == 6) = false := by simp; omega
  have hk7 : (k == 7) = false := by simp; omega
  have hk8 : (k == 8) = false := by simp; omega
  have hk9 : (k == 9) = false := by simp; omega
  have hk10 : (k == 10) = false := by simp; omega
  have hk11 : (k == 11) = false := by simp; omega
  have hk12 : (k == 12) = false := by simp; omega
  have hz2 : z = false := by
    rw [← HZ.out]
    simp only [canW, beq_eq_false_iff_ne] at *
    simp [*]
  have HZ2 := hide hz2
  clear hz2
  clear HS H7 HR HZ hk
  go_enter Tryd.func94, Tryd.ntmps94
  go_wp2_with fail
  go_ret
  exact Vb.mk (by rw [HZ2.out]; rfl) B0.out
set_option maxRecDepth 20000 in
set_option maxHeartbeats 1000000 in
theorem can_out {w : World} {G : Nat → Prop} {g : Nat} {S : List (List Wt)} {r : Rm} (h : Rn w G g S r) (i : Int) (hi : i < 0 ∨ (r.gs.length : Int) ≤ i) : Calls Tryd.prog 94 #[.pointer (some ⟨g, 0, none⟩), .int .i64 i] w (Vb w (.bool false)) := by
  obtain ⟨Fs, Fo, R, gs, vC, vB, vG, vE, ps, ts, h, hG⟩ := h
  have c3 := h.cells.1.2.2.2.1
  obtain ⟨a, cG, e, _⟩ := own_slice h.go
  subst e
  have hgl := h.fb g h.fg
  obtain ⟨n, hn⟩ : ∃ n, n = r.gs.length := ⟨_, rfl⟩
  rw [← hn] at c3 hi
  clear h hn hG
  by_cases h0 : i < 0
  · have hd0 : decide (i < 0) = true := by simp [h0]
    clear hi
    go_enter Tryd.func94, Tryd.ntmps94
    go_wp2_with fail
    go_ret
    exact Vb.mk rfl (Below.refl _ _)
  · have h1 : (n : Int) ≤ i := by omega
    have h2 : 0 ≤ i := by omega
    have hd0 : decide (i < 0) = false := by simp; omega
    have hd1 : decide ((n : Int) ≤ i) = true := by simp [h1]
    clear hi h0
    go_enter Tryd.func94, Tryd.ntmps94
    go_wp2_with fail
    go_ret
    exact Vb.mk rfl (Below.refl _ _)
end Go.Proofs.YtbiilnpblnjliaaDoor.Ck

/- Package act: can a goroutine run? (Written by mk_a.py.) -/
namespace Go.Proofs.YtbiilnpblnjliaaDoor.Ck
open Go.RowKit

theorem canRun_any {w : World} {G : Nat → Prop} {g : Nat} {S : List (List Wt)} {r : Rm} {p : List Addr} (h : Rn w G g S r) (h17 : E2 w p) (i : Int) : Calls Tryd.prog 94 #[.pointer (some ⟨g, 0, none⟩), .int .i64 i] w (Vb w (.bool (can r i))) := by
  unfold can
  cases hl : lk r.gs i with
  | none => exact can_out h i (lk_none hl)
  | some x =>
    obtain ⟨i, rfl, hx⟩ := lk_some hl
    simp only
    by_cases h0 : x.w.k < 1 ∨ 12 < x.w.k
    · exact can_none h h17 i x hx h0
    have hk : x.w.k = 1 ∨ x.w.k = 2 ∨ x.w.k = 3 ∨ x.w.k = 4 ∨ x.w.k = 5 ∨ x.w.k = 6 ∨ x.w.k = 7 ∨ x.w.k = 8 ∨ x.w.k = 9 ∨ x.w.k = 10 ∨ x.w.k = 11 ∨ x.w.k = 12 := by omega
    rcases hk with hk | hk | hk | hk | hk | hk | hk | hk | hk | hk | hk | hk
    · exact can_1 h h17 i x hx hk
    · exact can_2 h h17 i x hx hk
    · exact can_3 h h17 i x hx hk
    · exact can_4 h h17 i x hx hk
    · exact can_5 h h17 i x hx hk
    · exact can_6 h h17 i x hx hk
    · exact can_7 h h17 i x hx hk
    · exact can_8 h h17 i x hx hk
    · exact can_9 h h17 i x hx hk
    · exact can_10 h h17 i x hx hk
    · exact can_11 h h17 i x hx hk
    · exact can_12 h h17 i x hx hk
end Go.Proofs.YtbiilnpblnjliaaDoor.Ck

/- Package act: how a run ended. (Written by mk_a.py.) -/
namespace Go.Proofs.YtbiilnpblnjliaaDoor.Ck
open Go.RowKit

theorem outR_run {r : Rm} {k : Nat} {x : Gr} (hx : r.gs[k]? = some x) (hc : canW r x.w = true) : outR r = 0 := by
  unfold outR
  rw [if_pos]
  rw [List.any_eq_true]
  exact ⟨x, List.mem_of_getElem? hx, hc⟩
theorem outR_end {r : Rm} (h : ∀ (j : Nat) (x : Gr), r.gs[j]? = some x → canW r x.w = false) : outR r = if r.gs.any (fun x => x.w.k != 0) then 2 else 1 := by
  unfold outR
  rw [if_neg]
  rw [List.any_eq_true]
  rintro ⟨x, hx, hc⟩
  obtain ⟨j, hj, rfl⟩ := List.mem_iff_getElem.1 hx
  have := h j _ (List.getElem?_eq_getElem hj)
  rw [this] at hc
  cases hc
theorem can_at {r : Rm} {k : Nat} {x : Gr} (hx : r.gs[k]? = some x) : can r (k : Int) = canW r x.w := by
  unfold can
  rw [lk_nat, hx]
def kd (gs : List Gr) (k : Nat) : Int := if (gs.take k).any (fun x => x.w.k != 0) then 2 else 1
theorem kd_yes {gs : List Gr} {k : Nat} {x : Gr} (hx : gs[k]? = some x) (h : x.w.k ≠ 0) : kd gs (k + 1) = 2 := by
  unfold kd
  rw [List.take_add_one, hx, List.any_append]
  simp [h]
theorem kd_no {gs : List Gr} {k : Nat} {x : Gr} (hx : gs[k]? = some x) (h : x.w.k = 0) : kd gs (k + 1) = kd gs k := by
  unfold kd
  rw [List.take_add_one, hx, List.any_append]
  simp [h]
set_option maxRecDepth 20000 in
set_option maxHeartbeats 1000000 in
theorem outcome_any {w : World} {G : Nat → Prop} {g : Nat} {S : List (List Wt)} {r : Rm} {p : List Addr} (h : Rn w G g S r) (h17 : E2 w p) : Calls Tryd.prog 75 #[.pointer (some ⟨g, 0, none⟩)] w (Vb w (.int .i64 (outR r))) := by
  have HR := hide h
  have H7 := hide h17
  obtain ⟨Fs, Fo, R, gs, vC, vB, vG, vE, ps, ts, h, hG⟩ := h
  obtain ⟨a, cG, e, _⟩ := own_slice h.go
  subst e
  have hac : Hid (∀ (i : Nat) (x : Gr), r.gs[i]? = some x → ∃ bG b, a = some ⟨bG, 0, none⟩ ∧ bG < w.heap.size ∧ b < w.heap.size ∧ w.cell? ⟨bG, i, none⟩ = some (.pointer (some ⟨b, 0, none⟩)) ∧ w.cell? ⟨b, 1, none⟩ = some (.int .i64 x.w.k)) := hide fun i x hx => by
    obtain ⟨bG, c', b, t, va, e1, _, _, _, _, _, _, ⟨q1, q2, q3⟩, q4⟩ := h.see hx
    cases e1
    exact ⟨bG, b, rfl, q2, q3, q1, blk_cell q4 1 _ rfl⟩
  have c3 := h.cells.1.2.2.2.1
  have hgl := h.fb g h.fg
  have hn8 := h.n8
  obtain ⟨n, hn⟩ : ∃ n, n = r.gs.length := ⟨_, rfl⟩
  rw [← hn] at c3 hn8
  have HN := hide hn
  obtain ⟨ou, hou⟩ : ∃ ou, outR r = ou := ⟨_, rfl⟩
  rw [hou]
  have HO := hide hou
  clear h h17 hG hn hou
  go_enter Tryd.func75, Tryd.ntmps75
  go_wp2_with fail
  go_loopw [3, 4, 5, 11] (fun x3 x4 x5 i wr => ∃ (k : Nat) (m : Int), k ≤ n ∧ i = .int .i64 k ∧ x3 = .int .i64 m ∧ Hid (m = kd r.gs k) ∧ Hid (∀ j x, j < k → r.gs[j]? = some x → canW r x.w = false) ∧ Hid (Below w.heap.size w wr)) (fun x3 x4 x5 i _ => n - (intOf i).toNat)
  case atStart => exact ⟨0, 1, Nat.zero_le _, rfl, rfl, hide rfl, fun j x hj => absurd hj (Nat.not_lt_zero _), Below.refl _ _⟩
  case round =>
    obtain ⟨k, m, hk, rfl, rfl, hm, hall, hbel⟩ := hrel
    by_cases hlt : k < n
    · obtain ⟨x, hx⟩ : ∃ x, r.gs[k]? = some x := ⟨_, List.getElem?_eq_getElem (by rw [← HN.out]; exact hlt)⟩
      obtain ⟨bG, b, rfl, hbG, hb, hc1, hc2⟩ := hac.out k x hx
      rw [← hbel.out.cell (p := ⟨bG, k, none⟩) hbG] at hc1
      have h1 : (k : Int) < (n : Int) := by omega
      have CR := hide (canRun_any (HR.out.bel hbel.out) (H7.out.below (Nat.le_refl _) hbel.out) (k : Int))
      rw [can_at hx] at CR
      have hrun := hide (fun hc => outR_run hx hc)
      have hstep : Hid (canW r x.w = false → ∀ j y, j < k + 1 → r.gs[j]? = some y → canW r y.w = false) := fun e j y hj hy => by
        by_cases ej : j = k
        · subst ej
          rw [hx] at hy
          cases hy
          exact e
        · exact hall.out j y (by omega) hy
      have hy := hide (fun h => kd_yes hx h)
      have hno := hide (fun h => kd_no hx h)
      have HC2 := hide hc2
      have HB := hide hb
      clear hall hc2 hac hb
      obtain ⟨rest, ⟨xk, xo, xa, xv⟩⟩ := x
      simp only at HC2 hy hno
      generalize canW r ⟨xk, xo, xa, xv⟩ = z at *
      go_wp2_with fail
      refine CR.out.mono ?_
      rintro e w1 ⟨rfl, hb1⟩
      have hbel2 := hide (bel_trans hbel.out hb1)
      have hc2 := (hbel2.out.cell (p := ⟨b, 1, none⟩) HB.out).trans HC2.out
      clear hb1 CR
      cases z with
      | true =>
        have hr := hide (hrun.out rfl)
        clear hstep hrun
        go_wp2_with fail
        go_ret
        exact Vb.mk (by rw [← HO.out, hr.out]; rfl) hbel2.out
      | false =>
        have hr := hide (hstep.out rfl)
        clear hstep hrun
        by_cases h0 : xk = 0
        · subst h0
          have hno2 := hide (hno.out rfl)
          clear hno hy
          go_wp2_with fail
          go_roundw
          case rel => exact ⟨k + 1, m, by omega, by go_num, rfl, hide (hm.out.trans hno2.out.symm), hr, hbel2⟩
          case measure => simp [intOf]; omega
        · have hkb : (xk == 0) = false := by simp [h0]
          have hy2 := hide (hy.out h0)
          clear hno hy
          go_wp2_with fail
          go_roundw
          case rel => exact ⟨k + 1, 2, by omega, by go_num, rfl, hide hy2.out.symm, hr, hbel2⟩
          case measure => simp [intOf]; omega
    · have e : k = n := by omega
      subst e
      have he := hide (outR_end (r := r) fun j x hx => hall.out j x (by rw [HN.out]; exact (List.getElem?_eq_some_iff.1 hx).1) hx)
      clear hac hall
      go_wp2_with fail
      go_ret
      exact Vb.mk (by
        rw [← HO.out, he.out]
        have := hm.out
        unfold kd at this
        rw [HN.out, List.take_length] at this
        rw [← this]
        rfl) hbel.out
def EnV (e : En) : Value := .agg #[.int .i64 e.o, .int .i64 e.f, .int .i64 e.g, .int .i64 e.n, .int .i64 e.a]
theorem ret_en {fn : Func} {R : Ending → World → Prop} {a : Act} {w : World} {p : Tmp} (b : Nat) {e0 e1 e2 e3 e4 : Int} (hf : fn.results = #[.cell p 67]) (hp : a.tmps.getD p undef = .pointer (some ⟨b, 0, none⟩))
    (h : w.heap[b]? = some (.cells #[.int .i64 e0, .int .i64 e1, .int .i64 e2, .int .i64 e3, .int .i64 e4] 67 (0, 0))) (hdf : a.defers = []) (hR : R (.returned (.agg #[.int .i64 e0, .int .i64 e1, .int .i64 e2, .int .i64 e3, .int .i64 e4])) w) : bodyPost Tryd.prog fn R .ret a w :=
  bodyPost_ret (by
    have hp' : a.tmps[p]?.getD undef = .pointer (some ⟨b, 0, none⟩) := by simpa using hp
    have q0 := blk_cell h 0 _ rfl
    have q1 := blk_cell h 1 _ rfl
    have q2 := blk_cell h 2 _ rfl
    have q3 := blk_cell h 3 _ rfl
    have q4 := blk_cell h 4 _ rfl
    simp [results, hf, hp', go_sem, q0, q1, q2, q3, q4]) hdf hR
theorem set5 {w : World} {b : Nat} {T : TypeId} {y0 y1 y2 y3 y4 : Value} (h : w.heap[b]? = some (.cells #[y0, y1, y2, y3, y4] T (0, 0))) (x0 x1 x2 x3 x4 : Value) :
    (((((w.setCell ⟨b, 0, none⟩ x0).setCell ⟨b, 1, none⟩ x1).setCell ⟨b, 2, none⟩ x2).setCell ⟨b, 3, none⟩ x3).setCell ⟨b, 4, none⟩ x4).heap[b]? = some (.cells #[x0, x1, x2, x3, x4] T (0, 0)) :=
  heap_setCell_same _ _ _ _ _ _ (heap_setCell_same _ _ _ _ _ _ (heap_setCell_same _ _ _ _ _ _ (heap_setCell_same _ _ _ _ _ _ (heap_setCell_same _ _ _ _ _ _ h))))
theorem bel_set5 {w w2 : World} {N b : Nat} (h : Below N w w2) (hb : N ≤ b) (x0 x1 x2 x3 x4 : Value) : Below N w (((((w2.setCell ⟨b, 0, none⟩ x0).setCell ⟨b, 1, none⟩ x1).setCell ⟨b, 2, none⟩ x2).setCell ⟨b, 3, none⟩ x3).setCell ⟨b, 4, none⟩ x4) :=
  ((((h.setCell (p := ⟨b, 0, none⟩) hb x0).setCell (p := ⟨b, 1, none⟩) hb x1).setCell (p := ⟨b, 2, none⟩) hb x2).setCell (p := ⟨b, 3, none⟩) hb x3).setCell (p := ⟨b, 4, none⟩) hb x4
set_option maxRecDepth 20000 in
set_option maxHeartbeats 1000000 in
theorem End_any {w : World} {G : Nat → Prop} {g : Nat} {S : List (List Wt)} {r : Rm} {p : List Addr} (h : Rn w G g S r) (h17 : E2 w p) : Calls Tryd.prog 29 #[.pointer (some ⟨g, 0, none⟩)] w (Vb w (EnV (endR r))) := by
  have B0 := hide (bel_new w (.cells #[.int .i64 0, .int .i64 0, .int .i64 0, .int .i64 0, .int .i64 0] 67))
  have V0 := hide (Go.Deep.blk_alloc_new w (.cells #[.int .i64 0, .int .i64 0, .int .i64 0, .int .i64 0, .int .i64 0] 67))
  have OU := hide (outcome_any (h.bel B0.out) (h17.below (Nat.le_refl _) B0.out))
  obtain ⟨Fs, Fo, R, gs, vC, vB, vG, vE, ps, ts, h, hG⟩ := h
  obtain ⟨_, c5, c6, c7, c8, c9⟩ := h.cells
  have hgl := h.fb g h.fg
  unfold endR EnV
  by_cases h0 : r.e.o = 0
  · rw [if_pos h0]
    rw [h0] at c5
    simp only
    clear h h17 hG h0 c6 c7 c8 c9
    go_enter Tryd.func29, Tryd.ntmps29
    go_wp2_with fail
    refine OU.out.mono ?_
    rintro e w1 ⟨rfl, hb⟩
    have X1 : Hid (w1.heap[w.heap.size]? = some (.cells #[.int .i64 0, .int .i64 0, .int .i64 0, .int .i64 0, .int .i64 0] 67 (0, 0))) := hide ((hb.block _ (lt_of_blk V0.out)).trans V0.out)
    have q0 := blk_cell X1.out 0 _ rfl
    have q1 := blk_cell X1.out 1 _ rfl
    have q2 := blk_cell X1.out 2 _ rfl
    have q3 := blk_cell X1.out 3 _ rfl
    have q4 := blk_cell X1.out 4 _ rfl
    have f0 := blk_frz X1.out 0
    have f1 := blk_frz X1.out 1
    have f2 := blk_frz X1.out 2
    have f3 := blk_frz X1.out 3
    have f4 := blk_frz X1.out 4
    have B1 := hide (bel_trans B0.out hb)
    clear hb OU
    go_wp2_with fail
    exact ret_en w.heap.size rfl rfl (set5 X1.out _ _ _ _ _) rfl (Vb.mk rfl (bel_set5 B1.out (Nat.le_refl _) _ _ _ _ _))
  · rw [if_neg h0]
    have hb0 : (r.e.o == 0) = false := by simp [h0]
    clear h h17 hG h0 OU
    obtain ⟨s_, gs_, ev_, ⟨e0, e1, e2, e3, e4⟩⟩ := r
    simp only at *
    go_enter Tryd.func29, Tryd.ntmps29
    go_wp2_with fail
    exact ret_en w.heap.size rfl rfl (Go.Deep.blk_alloc_new w _) rfl (Vb.mk rfl (bel_new _ _))
theorem enf0 (a b c d e : Value) (w : World) : (Instr.field 67 (.agg #[a, b, c, d, e]) 0).run Tryd.prog w = .ok a w := by kernel_rfl
set_option maxRecDepth 20000 in
set_option maxHeartbeats 1000000 in
theorem ended_any {w : World} {G : Nat → Prop} {g : Nat} {S : List (List Wt)} {r : Rm} {p : List Addr} (h : Rn w G g S r) (h17 : E2 w p) : Calls Tryd.prog 71 #[.pointer (some ⟨g, 0, none⟩)] w (Vb w (.bool (!runs r))) := by
  have E := hide (End_any h h17)
  have hf := enf0
  obtain ⟨z, hz⟩ : ∃ z, endR r = z := ⟨_, rfl⟩
  have hr : runs r = (z.o == 0) := by unfold runs; rw [hz]
  rw [hz] at E
  rw [hr]
  obtain ⟨e0, e1, e2, e3, e4⟩ := z
  unfold EnV at E
  simp only at *
  clear h h17 hz hr
  go_enter Tryd.func71, Tryd.ntmps71
  go_wp2_with fail
  refine E.out.mono ?_
  rintro e w1 ⟨rfl, hb⟩
  go_wp2_with fail
  go_ret
  exact Vb.mk rfl hb
set_option maxRecDepth 20000 in
set_option maxHeartbeats 1000000 in
theorem Count_any {w : World} {G : Nat → Prop} {g : Nat} {S : List (List Wt)} {r : Rm} (h : Rn w G g S r) : Calls Tryd.prog 69 #[.pointer (some ⟨g, 0, none⟩)] w fun e w' => e = .returned (.int .i64 (r.ev.length : Nat)) ∧ w = w' := by
  obtain ⟨Fs, Fo, R, gs, vC, vB, vG, vE, ps, ts, h, hG⟩ := h
  have c4 := h.cells.1.2.2.2.2
  obtain ⟨a, cE, e, _⟩ := own_slice h.ev
  subst e
  have hgl := h.fb g h.fg
  generalize r.ev.length = n at *
  clear h hG
  go_enter Tryd.func69, Tryd.ntmps69
  go_wp2_with fail
  go_ret
  exact ⟨rfl, rfl⟩
end Go.Proofs.YtbiilnpblnjliaaDoor.Ck
