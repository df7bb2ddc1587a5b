/- Texts of this proof, packed: contracts of the program's functions, and the plain model that they are held against. -/
import Derived.Test.YtfojninaginnoaaGreatDoorVae
set_option maxRecDepth 20000
set_option maxHeartbeats 4000000
namespace Go.Proofs.YtfojninaginnoaaGreatDoor.Ck
open Go.RowKit
theorem outq_bool (a : Option Addr) (n c : Nat) (i : Int) (w : World) {p : List Addr} (h17 : E2 w p) (hi : i < 0 ∨ (n : Int) <= i) : Calls Tryz.prog 89 #[.slice a n c, I_ i] w fun e w' => e = .returned (.tuple #[.pointer none, errV p 0]) /\ ∃ k, w' = w.drewN k := by
 have x0 : w.cell? ⟨1, 0, none⟩ = some (errV p 0) := h17.c0
 clear h17
 generalize errV p 0 = ev at *
 by_cases h0 : i < 0
 · clear hi
   go_enter Tryz.func89, Tryz.ntmps89
   go_wp2_with fail
   go_quiet (fail)
   go_wp2_with fail
   go_ret2
   exact ⟨rfl, _, rfl⟩
 · have h1 : (n : Int) <= i := by omega
   have h2 : 0 <= i := by omega
   clear hi h0
   go_enter Tryz.func89, Tryz.ntmps89
   go_wp2_with fail
   go_quiet (fail)
   go_wp2_with fail
   go_ret2
   exact ⟨rfl, _, rfl⟩
theorem lockedq {w : World} {F : Nat -> Prop} {g : Nat} {s : St} (h : Stt w F g s) {p : List Addr} (h17 : E2 w p) (i : Int) (hi : i < 0 ∨ (s.M.length : Int) <= i) : Calls Tryz.prog 64 #[P_ g, I_ i] w fun e w' => e = .returned (.bool false) /\ ∃ k, w' = w.drewN k := by
 obtain ⟨vP, vM, vC, vA, vs, h⟩ := h
 obtain ⟨a, c, e, hc, hm⟩ := Zl h.mu
 subst e
 obtain ⟨n, hn⟩ : ∃ n, n = s.M.length := ⟨_, rfl⟩
 rw [← hn] at hi
 have c1 := h.cells.2.1
 rw [← hn] at c1
 have EO := Za (fun w' (h17 : E2 w' p) => outq_bool a n c i w' h17 hi)
 have H7 := Za h17
 unfold errV at *
 generalize adr p 0 = ad at *
 clear h hc hm hi hn h17
 go_enter Tryz.func64, Tryz.ntmps64
 go_wp2_with fail
 refine (EO.out _ H7.out).mono ?_
 rintro e w1 ⟨rfl, k, rfl⟩
 go_wp2_with fail
 go_ret
 exact ⟨rfl, _, rfl⟩
theorem turnq {w : World} {F : Nat -> Prop} {g : Nat} {s : St} (h : Stt w F g s) {p : List Addr} (h17 : E2 w p) (i : Int) (hi : i < 0 ∨ (s.M.length : Int) <= i) : Calls Tryz.prog 104 #[P_ g, I_ i, .bool false] w fun e w' => e = .returned (.tuple #[.bool false, errV p 0]) /\ ∃ k, w' = w.drewN k := by
 obtain ⟨vP, vM, vC, vA, vs, h⟩ := h
 obtain ⟨a, c, e, hc, hm⟩ := Zl h.mu
 subst e
 obtain ⟨n, hn⟩ : ∃ n, n = s.M.length := ⟨_, rfl⟩
 rw [← hn] at hi
 have c1 := h.cells.2.1
 rw [← hn] at c1
 have EO := Za (fun w' (h17 : E2 w' p) => outq_bool a n c i w' h17 hi)
 have H7 := Za h17
 unfold errV at *
 generalize adr p 0 = ad at *
 clear h hc hm hi hn h17
 go_enter Tryz.func104, Tryz.ntmps104
 go_wp2_with fail
 refine (EO.out _ H7.out).mono ?_
 rintro e w1 ⟨rfl, k, rfl⟩
 go_wp2_with fail
 go_ret2
 exact ⟨rfl, _, rfl⟩
theorem unlockq {w : World} {F : Nat -> Prop} {g : Nat} {s : St} (h : Stt w F g s) {p : List Addr} (h17 : E2 w p) (i : Int) (hi : i < 0 ∨ (s.M.length : Int) <= i) : Calls Tryz.prog 88 #[P_ g, I_ i] w fun e w' => e = .returned (.tuple #[.bool false, errV p 0]) /\ ∃ k, w' = w.drewN k := by
 have T := Za (turnq h h17 i hi)
 clear h hi h17
 unfold errV at *
 generalize adr p 0 = ad at *
 go_enter Tryz.func88, Tryz.ntmps88
 go_wp2_with fail
 refine T.out.mono ?_
 rintro e w1 ⟨rfl, k, rfl⟩
 go_wp2_with fail
 go_ret2
 exact ⟨rfl, _, rfl⟩
theorem Locked_q {w : World} {F : Nat -> Prop} {g : Nat} {s : St} {p : List Addr} (h : Stt w F g s) (h17 : E2 w p) (i : Int) : Calls Tryz.prog 64 #[P_ g, I_ i] w fun e w' => e = .returned (.bool ((lk s.M i).getD false)) /\ ∃ k, w' = w.drewN k := by
 cases hl : lk s.M i with
 | some b =>
  obtain ⟨k, rfl, hk⟩ := ZC hl
  exact (Locked_in h k b hk).mono fun e w' ⟨he, hw⟩ => ⟨he, 0, hw ▸ rfl⟩
 | none => exact lockedq h h17 i (YE hl)
theorem hasMutex_q {w : World} {F : Nat -> Prop} {g : Nat} {s : St} {p : List Addr} (h : Stt w F g s) (h17 : E2 w p) (i : Int) : Calls Tryz.prog 63 #[P_ g, I_ i] w fun e w' => e = .returned (.bool (lk s.M i).isSome) /\ ∃ k, w' = w.drewN k := by
 have L := Za (Locked_q h h17 i)
 have hgl := h.lt
 cases hl : lk s.M i with
 | some b =>
  cases b with
  | true =>
   rw [hl] at L
   clear h h17 hl
   go_enter Tryz.func63, Tryz.ntmps63
   go_wp2_with fail
   refine L.out.mono ?_
   rintro e w1 ⟨rfl, n, rfl⟩
   go_wp2_with fail
   go_ret
   exact ⟨rfl, _, rfl⟩
  | false =>
   rw [hl] at L
   obtain ⟨k, rfl, hk⟩ := ZC hl
   have U := Za (fun (n : Nat) => Unlock_same (w := w.drewN n) (h.bel (below_drewN (Below.refl _ _) n)) k hk)
   clear h h17 hl hk
   go_enter Tryz.func63, Tryz.ntmps63
   go_wp2_with fail
   refine L.out.mono ?_
   rintro e w1 ⟨rfl, n, rfl⟩
   go_wp2_with fail
   refine (U.out n).mono ?_
   rintro e w2 ⟨rfl, rfl⟩
   go_wp2_with fail
   go_ret
   exact ⟨rfl, _, rfl⟩
 | none =>
  rw [hl] at L
  have U := Za (fun (n : Nat) => unlockq (w := w.drewN n) (h.bel (below_drewN (Below.refl _ _) n)) (h17.below (Nat.le_refl _) (below_drewN (Below.refl _ _) n)) i (YE hl))
  clear h h17 hl
  unfold errV at *
  generalize adr p 0 = ad at *
  go_enter Tryz.func63, Tryz.ntmps63
  go_wp2_with fail
  refine L.out.mono ?_
  rintro e w1 ⟨rfl, n, rfl⟩
  go_wp2_with fail
  refine (U.out n).mono ?_
  rintro e w2 ⟨rfl, m, rfl⟩
  go_wp2_with fail
  go_ret
  exact ⟨rfl, n + m, by simp⟩
theorem can_1 {w : World} {G : Nat -> Prop} {g : Nat} {S : List (List Wt)} {r : Rm} {p : List Addr} (h : Rn w G g S r) (h17 : E2 w p) (i : Nat) (x : Gr) (hx : r.gs[i]? = some x) (hk : x.w.k = 1) : Calls Tryz.prog 30 #[P_ g, I_ (i : Nat)] w (Vb w (.bool (Ya r x.w))) := by
 have HR := Za h
 obtain ⟨Fs, Fo, R, gs, vC, vB, vG, vE, ps, ts, h, hG⟩ := h
 obtain ⟨bG, cG, b, t, va, eG, _, _, _, _, _, hA, ⟨s1, s2, s3⟩, s4⟩ := h.see hx
 subst eG
 obtain ⟨aa, na, ca, rfl⟩ := hA.form
 clear hA
 have hi : i < r.gs.length := (G_ hx)
 have hn8 := h.n8
 obtain ⟨⟨c0, c1, c2, c3, c4⟩, c5, c6, c7, c8, c9⟩ := h.cells
 have hgl := h.fb g h.fg
 obtain ⟨rest, ⟨k, o, a, v0, v1, v2⟩⟩ := x
 simp only at s4
 have b1 := Zb s4 1 _ rfl
 have b2 := Zb s4 2 _ rfl
 have b3 := Zb s4 3 _ rfl
 have b4 := Zb s4 4 _ rfl
 have b5 := Zb s4 5 _ rfl
 have b6 := Zb s4 6 _ rfl
 have b7 := Zb s4 7 _ rfl
 obtain ⟨n, hn⟩ : ∃ n, n = r.gs.length := ⟨_, rfl⟩
 rw [← hn] at hi hn8 c3
 have HN := Za hn
 have hi1 : (i : Int) < (n : Int) := by omega
 have hi0 : (0 : Int) <= (i : Int) := by omega
 have hd0 : decide ((i : Int) < 0) = false := by simp
 have hd1 : decide ((n : Int) <= (i : Int)) = false := by simp; omega
 clear hn
 have HS := Za h.st
 have hsl := h.st.lt
 have H7 := Za h17
 clear h hG h17
 simp only at hk
 subst hk
 have B0 := Za (Zd w (.cells #[I_ 1, I_ o, I_ a, I_ v0, I_ v1, .int .u64 v2, .slice aa na ca] 67))
 have V0 := Za (Wv.new w 1 o a v0 v1 v2 (.slice aa na ca))
 have u0 := Za ((B0.out.cell (p := ⟨g, 0, none⟩) hgl).trans c0)
 obtain ⟨z, hz⟩ : ∃ z, Ya r ⟨1, o, a, (v0, v1, v2)⟩ = z := ⟨_, rfl⟩
 rw [hz]
 have HZ := Za hz
 clear hz
 have CA := Za (canAccess_any ((HS.out.bel B0.out).bel (below_drewN (Below.refl _ _) 1)) ((H7.out.below (Nat.le_refl _) B0.out).below (Nat.le_refl _) (below_drewN (Below.refl _ _) 1)) 1 o a v0 v1 v2 (.slice aa na ca))
 clear HS H7 HR
 go_enter Tryz.func30, Tryz.ntmps30
 go_wp2_with fail
 generalize w.alloc _ = w1 at *
 obtain ⟨q0, q1, q2, q3, q4, q5, q6⟩ := V0.out.all
 have u0 := u0.out
 refine ZU 5 ZJ (by kernel_rfl) ?_
 simp only [List.take_succ_cons, List.take_zero, List.drop_succ_cons, List.drop_zero]
 repeat (first | go_big_quiet_skip | (go_big_quiet_want; go_big_quiet_op; go_big_quiet_on))
 refine wpQuiet_nil ?_
 go_wp2_with fail
 refine (CA.out).mono ?_
 rintro e w2 ⟨rfl, hb⟩
 replace hb : Below w1.heap.size w1 w2 := ⟨hb.os, hb.tape, hb.output, hb.size, hb.block⟩
 have B2 := Za (Zg B0.out hb)
 clear hb
 go_wp2_with fail
 go_ret
 exact Vb.mk (by rw [← HZ.out]; rfl) B2.out
theorem can_2 {w : World} {G : Nat -> Prop} {g : Nat} {S : List (List Wt)} {r : Rm} {p : List Addr} (h : Rn w G g S r) (h17 : E2 w p) (i : Nat) (x : Gr) (hx : r.gs[i]? = some x) (hk : x.w.k = 2) : Calls Tryz.prog 30 #[P_ g, I_ (i : Nat)] w (Vb w (.bool (Ya r x.w))) := by
 have HR := Za h
 obtain ⟨Fs, Fo, R, gs, vC, vB, vG, vE, ps, ts, h, hG⟩ := h
 obtain ⟨bG, cG, b, t, va, eG, _, _, _, _, _, hA, ⟨s1, s2, s3⟩, s4⟩ := h.see hx
 subst eG
 obtain ⟨aa, na, ca, rfl⟩ := hA.form
 clear hA
 have hi : i < r.gs.length := (G_ hx)
 have hn8 := h.n8
 obtain ⟨⟨c0, c1, c2, c3, c4⟩, c5, c6, c7, c8, c9⟩ := h.cells
 have hgl := h.fb g h.fg
 obtain ⟨rest, ⟨k, o, a, v0, v1, v2⟩⟩ := x
 simp only at s4
 have b1 := Zb s4 1 _ rfl
 have b2 := Zb s4 2 _ rfl
 have b3 := Zb s4 3 _ rfl
 have b4 := Zb s4 4 _ rfl
 have b5 := Zb s4 5 _ rfl
 have b6 := Zb s4 6 _ rfl
 have b7 := Zb s4 7 _ rfl
 obtain ⟨n, hn⟩ : ∃ n, n = r.gs.length := ⟨_, rfl⟩
 rw [← hn] at hi hn8 c3
 have HN := Za hn
 have hi1 : (i : Int) < (n : Int) := by omega
 have hi0 : (0 : Int) <= (i : Int) := by omega
 have hd0 : decide ((i : Int) < 0) = false := by simp
 have hd1 : decide ((n : Int) <= (i : Int)) = false := by simp; omega
 clear hn
 have HS := Za h.st
 have hsl := h.st.lt
 have H7 := Za h17
 clear h hG h17
 simp only at hk
 subst hk
 have B0 := Za (Zd w (.cells #[I_ 2, I_ o, I_ a, I_ v0, I_ v1, .int .u64 v2, .slice aa na ca] 67))
 have V0 := Za (Wv.new w 2 o a v0 v1 v2 (.slice aa na ca))
 have u0 := Za ((B0.out.cell (p := ⟨g, 0, none⟩) hgl).trans c0)
 obtain ⟨z, hz⟩ : ∃ z, Ya r ⟨2, o, a, (v0, v1, v2)⟩ = z := ⟨_, rfl⟩
 rw [hz]
 have HZ := Za hz
 clear hz
 have CA := Za (canAccess_any ((HS.out.bel B0.out).bel (below_drewN (Below.refl _ _) 1)) ((H7.out.below (Nat.le_refl _) B0.out).below (Nat.le_refl _) (below_drewN (Below.refl _ _) 1)) 2 o a v0 v1 v2 (.slice aa na ca))
 clear HS H7 HR
 go_enter Tryz.func30, Tryz.ntmps30
 go_wp2_with fail
 generalize w.alloc _ = w1 at *
 obtain ⟨q0, q1, q2, q3, q4, q5, q6⟩ := V0.out.all
 have u0 := u0.out
 refine ZU 5 ZJ (by kernel_rfl) ?_
 simp only [List.take_succ_cons, List.take_zero, List.drop_succ_cons, List.drop_zero]
 repeat (first | go_big_quiet_skip | (go_big_quiet_want; go_big_quiet_op; go_big_quiet_on))
 refine wpQuiet_nil ?_
 go_wp2_with fail
 refine (CA.out).mono ?_
 rintro e w2 ⟨rfl, hb⟩
 replace hb : Below w1.heap.size w1 w2 := ⟨hb.os, hb.tape, hb.output, hb.size, hb.block⟩
 have B2 := Za (Zg B0.out hb)
 clear hb
 go_wp2_with fail
 go_ret
 exact Vb.mk (by rw [← HZ.out]; rfl) B2.out
theorem can_3 {w : World} {G : Nat -> Prop} {g : Nat} {S : List (List Wt)} {r : Rm} {p : List Addr} (h : Rn w G g S r) (h17 : E2 w p) (i : Nat) (x : Gr) (hx : r.gs[i]? = some x) (hk : x.w.k = 3) : Calls Tryz.prog 30 #[P_ g, I_ (i : Nat)] w (Vb w (.bool (Ya r x.w))) := by
 have HR := Za h
 obtain ⟨Fs, Fo, R, gs, vC, vB, vG, vE, ps, ts, h, hG⟩ := h
 obtain ⟨bG, cG, b, t, va, eG, _, _, _, _, _, hA, ⟨s1, s2, s3⟩, s4⟩ := h.see hx
 subst eG
 obtain ⟨aa, na, ca, rfl⟩ := hA.form
 clear hA
 have hi : i < r.gs.length := (G_ hx)
 have hn8 := h.n8
 obtain ⟨⟨c0, c1, c2, c3, c4⟩, c5, c6, c7, c8, c9⟩ := h.cells
 have hgl := h.fb g h.fg
 obtain ⟨rest, ⟨k, o, a, v0, v1, v2⟩⟩ := x
 simp only at s4
 have b1 := Zb s4 1 _ rfl
 have b2 := Zb s4 2 _ rfl
 have b3 := Zb s4 3 _ rfl
 have b4 := Zb s4 4 _ rfl
 have b5 := Zb s4 5 _ rfl
 have b6 := Zb s4 6 _ rfl
 have b7 := Zb s4 7 _ rfl
 obtain ⟨n, hn⟩ : ∃ n, n = r.gs.length := ⟨_, rfl⟩
 rw [← hn] at hi hn8 c3
 have HN := Za hn
 have hi1 : (i : Int) < (n : Int) := by omega
 have hi0 : (0 : Int) <= (i : Int) := by omega
 have hd0 : decide ((i : Int) < 0) = false := by simp
 have hd1 : decide ((n : Int) <= (i : Int)) = false := by simp; omega
 clear hn
 have HS := Za h.st
 have hsl := h.st.lt
 have H7 := Za h17
 clear h hG h17
 simp only at hk
 subst hk
 have B0 := Za (Zd w (.cells #[I_ 3, I_ o, I_ a, I_ v0, I_ v1, .int .u64 v2, .slice aa na ca] 67))
 have V0 := Za (Wv.new w 3 o a v0 v1 v2 (.slice aa na ca))
 have u0 := Za ((B0.out.cell (p := ⟨g, 0, none⟩) hgl).trans c0)
 obtain ⟨z, hz⟩ : ∃ z, Ya r ⟨3, o, a, (v0, v1, v2)⟩ = z := ⟨_, rfl⟩
 rw [hz]
 have HZ := Za hz
 clear hz
 have HM := Za (fun n => hasMutex_q ((HS.out.bel B0.out).bel (below_drewN (Below.refl _ _) n)) ((H7.out.below (Nat.le_refl _) B0.out).below (Nat.le_refl _) (below_drewN (Below.refl _ _) n)) o)
 have LO := Za (fun n => Locked_q ((HS.out.bel B0.out).bel (below_drewN (Below.refl _ _) n)) ((H7.out.below (Nat.le_refl _) B0.out).below (Nat.le_refl _) (below_drewN (Below.refl _ _) n)) o)
 obtain ⟨hm, ehm⟩ : ∃ hm, (lk r.s.M o).isSome = hm := ⟨_, rfl⟩
 obtain ⟨lo, elo⟩ : ∃ lo, (lk r.s.M o).getD false = lo := ⟨_, rfl⟩
 have HZ2 : Hid (z = (hm && !lo)) := by
  rw [← HZ.out, ← ehm, ← elo]
  show canL r.s _ = _
  unfold canL
  cases lk r.s.M o <;> simp
 rw [ehm] at HM
 rw [elo] at LO
 clear ehm elo HZ HS H7 HR
 cases hm with
 | true =>
  go_enter Tryz.func30, Tryz.ntmps30
  go_wp2_with fail
  generalize w.alloc _ = w1 at *
  obtain ⟨q0, q1, q2, q3, q4, q5, q6⟩ := V0.out.all
  have u0 := u0.out
  go_quiet (first | (go_at_call 63; exact Calls.quiet_of (HM.out _)) | (go_at_call 64; exact Calls.quiet_of (LO.out _)))
  go_wp2_with fail
  go_ret
  exact Vb.mk (by rw [HZ2.out]; simp) (below_drewN B0.out _)
 | false =>
  go_enter Tryz.func30, Tryz.ntmps30
  go_wp2_with fail
  generalize w.alloc _ = w1 at *
  obtain ⟨q0, q1, q2, q3, q4, q5, q6⟩ := V0.out.all
  have u0 := u0.out
  go_quiet (first | (go_at_call 63; exact Calls.quiet_of (HM.out _)))
  go_wp2_with fail
  go_ret
  exact Vb.mk (by rw [HZ2.out]; simp) (below_drewN B0.out _)
theorem can_4 {w : World} {G : Nat -> Prop} {g : Nat} {S : List (List Wt)} {r : Rm} {p : List Addr} (h : Rn w G g S r) (h17 : E2 w p) (i : Nat) (x : Gr) (hx : r.gs[i]? = some x) (hk : x.w.k = 4) : Calls Tryz.prog 30 #[P_ g, I_ (i : Nat)] w (Vb w (.bool (Ya r x.w))) := by
 have HR := Za h
 obtain ⟨Fs, Fo, R, gs, vC, vB, vG, vE, ps, ts, h, hG⟩ := h
 obtain ⟨bG, cG, b, t, va, eG, _, _, _, _, _, hA, ⟨s1, s2, s3⟩, s4⟩ := h.see hx
 subst eG
 obtain ⟨aa, na, ca, rfl⟩ := hA.form
 clear hA
 have hi : i < r.gs.length := (G_ hx)
 have hn8 := h.n8
 obtain ⟨⟨c0, c1, c2, c3, c4⟩, c5, c6, c7, c8, c9⟩ := h.cells
 have hgl := h.fb g h.fg
 obtain ⟨rest, ⟨k, o, a, v0, v1, v2⟩⟩ := x
 simp only at s4
 have b1 := Zb s4 1 _ rfl
 have b2 := Zb s4 2 _ rfl
 have b3 := Zb s4 3 _ rfl
 have b4 := Zb s4 4 _ rfl
 have b5 := Zb s4 5 _ rfl
 have b6 := Zb s4 6 _ rfl
 have b7 := Zb s4 7 _ rfl
 obtain ⟨n, hn⟩ : ∃ n, n = r.gs.length := ⟨_, rfl⟩
 rw [← hn] at hi hn8 c3
 have HN := Za hn
 have hi1 : (i : Int) < (n : Int) := by omega
 have hi0 : (0 : Int) <= (i : Int) := by omega
 have hd0 : decide ((i : Int) < 0) = false := by simp
 have hd1 : decide ((n : Int) <= (i : Int)) = false := by simp; omega
 clear hn
 have HS := Za h.st
 have hsl := h.st.lt
 have H7 := Za h17
 clear h hG h17
 simp only at hk
 subst hk
 have B0 := Za (Zd w (.cells #[I_ 4, I_ o, I_ a, I_ v0, I_ v1, .int .u64 v2, .slice aa na ca] 67))
 have V0 := Za (Wv.new w 4 o a v0 v1 v2 (.slice aa na ca))
 have u0 := Za ((B0.out.cell (p := ⟨g, 0, none⟩) hgl).trans c0)
 obtain ⟨z, hz⟩ : ∃ z, Ya r ⟨4, o, a, (v0, v1, v2)⟩ = z := ⟨_, rfl⟩
 rw [hz]
 have HZ := Za hz
 clear hz
 have CA := Za (hasMutex_any ((HS.out.bel B0.out).bel (below_drewN (Below.refl _ _) 1)) ((H7.out.below (Nat.le_refl _) B0.out).below (Nat.le_refl _) (below_drewN (Below.refl _ _) 1)) o)
 clear HS H7 HR
 go_enter Tryz.func30, Tryz.ntmps30
 go_wp2_with fail
 generalize w.alloc _ = w1 at *
 obtain ⟨q0, q1, q2, q3, q4, q5, q6⟩ := V0.out.all
 have u0 := u0.out
 refine ZU 6 ZJ (by kernel_rfl) ?_
 simp only [List.take_succ_cons, List.take_zero, List.drop_succ_cons, List.drop_zero]
 repeat (first | go_big_quiet_skip | (go_big_quiet_want; go_big_quiet_op; go_big_quiet_on))
 refine wpQuiet_nil ?_
 go_wp2_with fail
 refine (CA.out).mono ?_
 rintro e w2 ⟨rfl, hb⟩
 replace hb : Below w1.heap.size w1 w2 := ⟨hb.os, hb.tape, hb.output, hb.size, hb.block⟩
 have B2 := Za (Zg B0.out hb)
 clear hb
 go_wp2_with fail
 go_ret
 exact Vb.mk (by rw [← HZ.out]; rfl) B2.out
theorem recvI_some (gs : List Gr) (c : Int) : decide (0 <= recvI gs c) = (recvR gs c).isSome := by
 unfold recvI
 cases recvR gs c with
 | none => rfl
 | some t => simp
theorem canSend_any {w : World} {G : Nat -> Prop} {g : Nat} {S : List (List Wt)} {r : Rm} (h : Rn w G g S r) (k o a v0 v1 v2 : Int) (va : Value) :
 Calls Tryz.prog 65 #[P_ g, .agg #[I_ k, I_ o, I_ a, I_ v0, I_ v1, .int .u64 v2, va]] w (Vb w (.bool (canS r ⟨k, o, a, (v0, v1, v2)⟩))) := by
 unfold canS
 simp only
 cases hl : lk r.s.C o with
 | none => exact canSend_out h k o a v0 v1 v2 va (YE hl)
 | some q =>
  obtain ⟨i, rfl, hi⟩ := ZC hl
  have := canSend_in h k a v0 v1 v2 va i q hi
  rw [recvI_some] at this
  exact this
theorem can_5 {w : World} {G : Nat -> Prop} {g : Nat} {S : List (List Wt)} {r : Rm} {p : List Addr} (h : Rn w G g S r) (h17 : E2 w p) (i : Nat) (x : Gr) (hx : r.gs[i]? = some x) (hk : x.w.k = 5) : Calls Tryz.prog 30 #[P_ g, I_ (i : Nat)] w (Vb w (.bool (Ya r x.w))) := by
 have HR := Za h
 obtain ⟨Fs, Fo, R, gs, vC, vB, vG, vE, ps, ts, h, hG⟩ := h
 obtain ⟨bG, cG, b, t, va, eG, _, _, _, _, _, hA, ⟨s1, s2, s3⟩, s4⟩ := h.see hx
 subst eG
 obtain ⟨aa, na, ca, rfl⟩ := hA.form
 clear hA
 have hi : i < r.gs.length := (G_ hx)
 have hn8 := h.n8
 obtain ⟨⟨c0, c1, c2, c3, c4⟩, c5, c6, c7, c8, c9⟩ := h.cells
 have hgl := h.fb g h.fg
 obtain ⟨rest, ⟨k, o, a, v0, v1, v2⟩⟩ := x
 simp only at s4
 have b1 := Zb s4 1 _ rfl
 have b2 := Zb s4 2 _ rfl
 have b3 := Zb s4 3 _ rfl
 have b4 := Zb s4 4 _ rfl
 have b5 := Zb s4 5 _ rfl
 have b6 := Zb s4 6 _ rfl
 have b7 := Zb s4 7 _ rfl
 obtain ⟨n, hn⟩ : ∃ n, n = r.gs.length := ⟨_, rfl⟩
 rw [← hn] at hi hn8 c3
 have HN := Za hn
 have hi1 : (i : Int) < (n : Int) := by omega
 have hi0 : (0 : Int) <= (i : Int) := by omega
 have hd0 : decide ((i : Int) < 0) = false := by simp
 have hd1 : decide ((n : Int) <= (i : Int)) = false := by simp; omega
 clear hn
 have HS := Za h.st
 have hsl := h.st.lt
 have H7 := Za h17
 clear h hG h17
 simp only at hk
 subst hk
 have B0 := Za (Zd w (.cells #[I_ 5, I_ o, I_ a, I_ v0, I_ v1, .int .u64 v2, .slice aa na ca] 67))
 have V0 := Za (Wv.new w 5 o a v0 v1 v2 (.slice aa na ca))
 obtain ⟨z, hz⟩ : ∃ z, Ya r ⟨5, o, a, (v0, v1, v2)⟩ = z := ⟨_, rfl⟩
 rw [hz]
 have HZ := Za hz
 clear hz
 have CA := Za (canSend_any (HR.out.bel B0.out) 5 o a v0 v1 v2 (.slice aa na ca))
 clear HS H7 HR
 go_enter Tryz.func30, Tryz.ntmps30
 go_wp2_with fail
 refine (CA.out).mono ?_
 rintro e w2 ⟨rfl, hb⟩
 have B2 := Za (Zg B0.out hb)
 clear hb
 go_wp2_with fail
 go_ret
 exact Vb.mk (by rw [← HZ.out]; rfl) B2.out
theorem can_6 {w : World} {G : Nat -> Prop} {g : Nat} {S : List (List Wt)} {r : Rm} {p : List Addr} (h : Rn w G g S r) (h17 : E2 w p) (i : Nat) (x : Gr) (hx : r.gs[i]? = some x) (hk : x.w.k = 6) : Calls Tryz.prog 30 #[P_ g, I_ (i : Nat)] w (Vb w (.bool (Ya r x.w))) := by
 have HR := Za h
 obtain ⟨Fs, Fo, R, gs, vC, vB, vG, vE, ps, ts, h, hG⟩ := h
 obtain ⟨bG, cG, b, t, va, eG, _, _, _, _, _, hA, ⟨s1, s2, s3⟩, s4⟩ := h.see hx
 subst eG
 obtain ⟨aa, na, ca, rfl⟩ := hA.form
 clear hA
 have hi : i < r.gs.length := (G_ hx)
 have hn8 := h.n8
 obtain ⟨⟨c0, c1, c2, c3, c4⟩, c5, c6, c7, c8, c9⟩ := h.cells
 have hgl := h.fb g h.fg
 obtain ⟨rest, ⟨k, o, a, v0, v1, v2⟩⟩ := x
 simp only at s4
 have b1 := Zb s4 1 _ rfl
 have b2 := Zb s4 2 _ rfl
 have b3 := Zb s4 3 _ rfl
 have b4 := Zb s4 4 _ rfl
 have b5 := Zb s4 5 _ rfl
 have b6 := Zb s4 6 _ rfl
 have b7 := Zb s4 7 _ rfl
 obtain ⟨n, hn⟩ : ∃ n, n = r.gs.length := ⟨_, rfl⟩
 rw [← hn] at hi hn8 c3
 have HN := Za hn
 have hi1 : (i : Int) < (n : Int) := by omega
 have hi0 : (0 : Int) <= (i : Int) := by omega
 have hd0 : decide ((i : Int) < 0) = false := by simp
 have hd1 : decide ((n : Int) <= (i : Int)) = false := by simp; omega
 clear hn
 have HS := Za h.st
 have hsl := h.st.lt
 have H7 := Za h17
 clear h hG h17
 simp only at hk
 subst hk
 have B0 := Za (Zd w (.cells #[I_ 6, I_ o, I_ a, I_ v0, I_ v1, .int .u64 v2, .slice aa na ca] 67))
 have V0 := Za (Wv.new w 6 o a v0 v1 v2 (.slice aa na ca))
 have u0 := Za ((B0.out.cell (p := ⟨g, 0, none⟩) hgl).trans c0)
 obtain ⟨z, hz⟩ : ∃ z, Ya r ⟨6, o, a, (v0, v1, v2)⟩ = z := ⟨_, rfl⟩
 rw [hz]
 have HZ := Za hz
 clear hz
 have CA := Za (Len_any ((HS.out.bel B0.out).bel (below_drewN (Below.refl _ _) 1)) ((H7.out.below (Nat.le_refl _) B0.out).below (Nat.le_refl _) (below_drewN (Below.refl _ _) 1)) o)
 obtain ⟨m, hm⟩ : ∃ m, lenC r.s o = m := ⟨_, rfl⟩
 have HZ2 : Hid (z = decide (0 < m)) := by
  rw [← HZ.out, ← hm]
  show canR r.s _ = _
  unfold canR lenC
  cases lk r.s.C o <;> simp
 rw [hm] at CA
 clear HS H7 HR HZ hm
 go_enter Tryz.func30, Tryz.ntmps30
 go_wp2_with fail
 generalize w.alloc _ = w1 at *
 obtain ⟨q0, q1, q2, q3, q4, q5, q6⟩ := V0.out.all
 have u0 := u0.out
 refine ZU 6 ZJ (by kernel_rfl) ?_
 simp only [List.take_succ_cons, List.take_zero, List.drop_succ_cons, List.drop_zero]
 repeat (first | go_big_quiet_skip | (go_big_quiet_want; go_big_quiet_op; go_big_quiet_on))
 refine wpQuiet_nil ?_
 go_wp2_with fail
 refine (CA.out).mono ?_
 rintro e w2 ⟨rfl, hb⟩
 replace hb : Below w1.heap.size w1 w2 := ⟨hb.os, hb.tape, hb.output, hb.size, hb.block⟩
 have B2 := Za (Zg B0.out hb)
 clear hb
 go_wp2_with fail
 go_ret
 exact Vb.mk (by rw [HZ2.out]; rfl) B2.out
theorem can_7 {w : World} {G : Nat -> Prop} {g : Nat} {S : List (List Wt)} {r : Rm} {p : List Addr} (h : Rn w G g S r) (h17 : E2 w p) (i : Nat) (x : Gr) (hx : r.gs[i]? = some x) (hk : x.w.k = 7) : Calls Tryz.prog 30 #[P_ g, I_ (i : Nat)] w (Vb w (.bool (Ya r x.w))) := by
 have HR := Za h
 obtain ⟨Fs, Fo, R, gs, vC, vB, vG, vE, ps, ts, h, hG⟩ := h
 obtain ⟨bG, cG, b, t, va, eG, _, _, _, _, _, hA, ⟨s1, s2, s3⟩, s4⟩ := h.see hx
 subst eG
 obtain ⟨aa, na, ca, rfl⟩ := hA.form
 clear hA
 have hi : i < r.gs.length := (G_ hx)
 have hn8 := h.n8
 obtain ⟨⟨c0, c1, c2, c3, c4⟩, c5, c6, c7, c8, c9⟩ := h.cells
 have hgl := h.fb g h.fg
 obtain ⟨rest, ⟨k, o, a, v0, v1, v2⟩⟩ := x
 simp only at s4
 have b1 := Zb s4 1 _ rfl
 have b2 := Zb s4 2 _ rfl
 have b3 := Zb s4 3 _ rfl
 have b4 := Zb s4 4 _ rfl
 have b5 := Zb s4 5 _ rfl
 have b6 := Zb s4 6 _ rfl
 have b7 := Zb s4 7 _ rfl
 obtain ⟨n, hn⟩ : ∃ n, n = r.gs.length := ⟨_, rfl⟩
 rw [← hn] at hi hn8 c3
 have HN := Za hn
 have hi1 : (i : Int) < (n : Int) := by omega
 have hi0 : (0 : Int) <= (i : Int) := by omega
 have hd0 : decide ((i : Int) < 0) = false := by simp
 have hd1 : decide ((n : Int) <= (i : Int)) = false := by simp; omega
 clear hn
 have HS := Za h.st
 have hsl := h.st.lt
 have H7 := Za h17
 clear h hG h17
 simp only at hk
 subst hk
 have B0 := Za (Zd w (.cells #[I_ 7, I_ o, I_ a, I_ v0, I_ v1, .int .u64 v2, .slice aa na ca] 67))
 have V0 := Za (Wv.new w 7 o a v0 v1 v2 (.slice aa na ca))
 have u0 := Za ((B0.out.cell (p := ⟨g, 0, none⟩) hgl).trans c0)
 obtain ⟨z, hz⟩ : ∃ z, Ya r ⟨7, o, a, (v0, v1, v2)⟩ = z := ⟨_, rfl⟩
 rw [hz]
 have HZ := Za hz
 clear hz
 have CA := Za (canCount_any ((HS.out.bel B0.out).bel (below_drewN (Below.refl _ _) 1)) ((H7.out.below (Nat.le_refl _) B0.out).below (Nat.le_refl _) (below_drewN (Below.refl _ _) 1)) 7 o a v0 v1 v2 (.slice aa na ca))
 clear HS H7 HR
 go_enter Tryz.func30, Tryz.ntmps30
 go_wp2_with fail
 generalize w.alloc _ = w1 at *
 obtain ⟨q0, q1, q2, q3, q4, q5, q6⟩ := V0.out.all
 have u0 := u0.out
 refine ZU 5 ZJ (by kernel_rfl) ?_
 simp only [List.take_succ_cons, List.take_zero, List.drop_succ_cons, List.drop_zero]
 repeat (first | go_big_quiet_skip | (go_big_quiet_want; go_big_quiet_op; go_big_quiet_on))
 refine wpQuiet_nil ?_
 go_wp2_with fail
 refine (CA.out).mono ?_
 rintro e w2 ⟨rfl, hb⟩
 replace hb : Below w1.heap.size w1 w2 := ⟨hb.os, hb.tape, hb.output, hb.size, hb.block⟩
 have B2 := Za (Zg B0.out hb)
 clear hb
 go_wp2_with fail
 go_ret
 exact Vb.mk (by rw [← HZ.out]; rfl) B2.out
theorem can_8 {w : World} {G : Nat -> Prop} {g : Nat} {S : List (List Wt)} {r : Rm} {p : List Addr} (h : Rn w G g S r) (h17 : E2 w p) (i : Nat) (x : Gr) (hx : r.gs[i]? = some x) (hk : x.w.k = 8) : Calls Tryz.prog 30 #[P_ g, I_ (i : Nat)] w (Vb w (.bool (Ya r x.w))) := by
 have HR := Za h
 obtain ⟨Fs, Fo, R, gs, vC, vB, vG, vE, ps, ts, h, hG⟩ := h
 obtain ⟨bG, cG, b, t, va, eG, _, _, _, _, _, hA, ⟨s1, s2, s3⟩, s4⟩ := h.see hx
 subst eG
 obtain ⟨aa, na, ca, rfl⟩ := hA.form
 clear hA
 have hi : i < r.gs.length := (G_ hx)
 have hn8 := h.n8
 obtain ⟨⟨c0, c1, c2, c3, c4⟩, c5, c6, c7, c8, c9⟩ := h.cells
 have hgl := h.fb g h.fg
 obtain ⟨rest, ⟨k, o, a, v0, v1, v2⟩⟩ := x
 simp only at s4
 have b1 := Zb s4 1 _ rfl
 have b2 := Zb s4 2 _ rfl
 have b3 := Zb s4 3 _ rfl
 have b4 := Zb s4 4 _ rfl
 have b5 := Zb s4 5 _ rfl
 have b6 := Zb s4 6 _ rfl
 have b7 := Zb s4 7 _ rfl
 obtain ⟨n, hn⟩ : ∃ n, n = r.gs.length := ⟨_, rfl⟩
 rw [← hn] at hi hn8 c3
 have HN := Za hn
 have hi1 : (i : Int) < (n : Int) := by omega
 have hi0 : (0 : Int) <= (i : Int) := by omega
 have hd0 : decide ((i : Int) < 0) = false := by simp
 have hd1 : decide ((n : Int) <= (i : Int)) = false := by simp; omega
 clear hn
 have HS := Za h.st
 have hsl := h.st.lt
 have H7 := Za h17
 clear h hG h17
 simp only at hk
 subst hk
 have B0 := Za (Zd w (.cells #[I_ 8, I_ o, I_ a, I_ v0, I_ v1, .int .u64 v2, .slice aa na ca] 67))
 have V0 := Za (Wv.new w 8 o a v0 v1 v2 (.slice aa na ca))
 have u0 := Za ((B0.out.cell (p := ⟨g, 0, none⟩) hgl).trans c0)
 obtain ⟨z, hz⟩ : ∃ z, Ya r ⟨8, o, a, (v0, v1, v2)⟩ = z := ⟨_, rfl⟩
 rw [hz]
 have HZ := Za hz
 clear hz
 have CA := Za (canCount_any ((HS.out.bel B0.out).bel (below_drewN (Below.refl _ _) 1)) ((H7.out.below (Nat.le_refl _) B0.out).below (Nat.le_refl _) (below_drewN (Below.refl _ _) 1)) 8 o a v0 v1 v2 (.slice aa na ca))
 clear HS H7 HR
 go_enter Tryz.func30, Tryz.ntmps30
 go_wp2_with fail
 generalize w.alloc _ = w1 at *
 obtain ⟨q0, q1, q2, q3, q4, q5, q6⟩ := V0.out.all
 have u0 := u0.out
 refine ZU 5 ZJ (by kernel_rfl) ?_
 simp only [List.take_succ_cons, List.take_zero, List.drop_succ_cons, List.drop_zero]
 repeat (first | go_big_quiet_skip | (go_big_quiet_want; go_big_quiet_op; go_big_quiet_on))
 refine wpQuiet_nil ?_
 go_wp2_with fail
 refine (CA.out).mono ?_
 rintro e w2 ⟨rfl, hb⟩
 replace hb : Below w1.heap.size w1 w2 := ⟨hb.os, hb.tape, hb.output, hb.size, hb.block⟩
 have B2 := Za (Zg B0.out hb)
 clear hb
 go_wp2_with fail
 go_ret
 exact Vb.mk (by rw [← HZ.out]; rfl) B2.out
theorem can_9 {w : World} {G : Nat -> Prop} {g : Nat} {S : List (List Wt)} {r : Rm} {p : List Addr} (h : Rn w G g S r) (h17 : E2 w p) (i : Nat) (x : Gr) (hx : r.gs[i]? = some x) (hk : x.w.k = 9) : Calls Tryz.prog 30 #[P_ g, I_ (i : Nat)] w (Vb w (.bool (Ya r x.w))) := by
 have HR := Za h
 obtain ⟨Fs, Fo, R, gs, vC, vB, vG, vE, ps, ts, h, hG⟩ := h
 obtain ⟨bG, cG, b, t, va, eG, _, _, _, _, _, hA, ⟨s1, s2, s3⟩, s4⟩ := h.see hx
 subst eG
 obtain ⟨aa, na, ca, rfl⟩ := hA.form
 clear hA
 have hi : i < r.gs.length := (G_ hx)
 have hn8 := h.n8
 obtain ⟨⟨c0, c1, c2, c3, c4⟩, c5, c6, c7, c8, c9⟩ := h.cells
 have hgl := h.fb g h.fg
 obtain ⟨rest, ⟨k, o, a, v0, v1, v2⟩⟩ := x
 simp only at s4
 have b1 := Zb s4 1 _ rfl
 have b2 := Zb s4 2 _ rfl
 have b3 := Zb s4 3 _ rfl
 have b4 := Zb s4 4 _ rfl
 have b5 := Zb s4 5 _ rfl
 have b6 := Zb s4 6 _ rfl
 have b7 := Zb s4 7 _ rfl
 obtain ⟨n, hn⟩ : ∃ n, n = r.gs.length := ⟨_, rfl⟩
 rw [← hn] at hi hn8 c3
 have HN := Za hn
 have hi1 : (i : Int) < (n : Int) := by omega
 have hi0 : (0 : Int) <= (i : Int) := by omega
 have hd0 : decide ((i : Int) < 0) = false := by simp
 have hd1 : decide ((n : Int) <= (i : Int)) = false := by simp; omega
 clear hn
 have HS := Za h.st
 have hsl := h.st.lt
 have H7 := Za h17
 clear h hG h17
 simp only at hk
 subst hk
 have B0 := Za (Zd w (.cells #[I_ 9, I_ o, I_ a, I_ v0, I_ v1, .int .u64 v2, .slice aa na ca] 67))
 have V0 := Za (Wv.new w 9 o a v0 v1 v2 (.slice aa na ca))
 have u0 := Za ((B0.out.cell (p := ⟨g, 0, none⟩) hgl).trans c0)
 obtain ⟨z, hz⟩ : ∃ z, Ya r ⟨9, o, a, (v0, v1, v2)⟩ = z := ⟨_, rfl⟩
 rw [hz]
 have HZ := Za hz
 clear hz
 have CA := Za (canCount_any ((HS.out.bel B0.out).bel (below_drewN (Below.refl _ _) 1)) ((H7.out.below (Nat.le_refl _) B0.out).below (Nat.le_refl _) (below_drewN (Below.refl _ _) 1)) 9 o a v0 v1 v2 (.slice aa na ca))
 clear HS H7 HR
 go_enter Tryz.func30, Tryz.ntmps30
 go_wp2_with fail
 generalize w.alloc _ = w1 at *
 obtain ⟨q0, q1, q2, q3, q4, q5, q6⟩ := V0.out.all
 have u0 := u0.out
 refine ZU 5 ZJ (by kernel_rfl) ?_
 simp only [List.take_succ_cons, List.take_zero, List.drop_succ_cons, List.drop_zero]
 repeat (first | go_big_quiet_skip | (go_big_quiet_want; go_big_quiet_op; go_big_quiet_on))
 refine wpQuiet_nil ?_
 go_wp2_with fail
 refine (CA.out).mono ?_
 rintro e w2 ⟨rfl, hb⟩
 replace hb : Below w1.heap.size w1 w2 := ⟨hb.os, hb.tape, hb.output, hb.size, hb.block⟩
 have B2 := Za (Zg B0.out hb)
 clear hb
 go_wp2_with fail
 go_ret
 exact Vb.mk (by rw [← HZ.out]; rfl) B2.out
theorem can_10 {w : World} {G : Nat -> Prop} {g : Nat} {S : List (List Wt)} {r : Rm} {p : List Addr} (h : Rn w G g S r) (h17 : E2 w p) (i : Nat) (x : Gr) (hx : r.gs[i]? = some x) (hk : x.w.k = 10) : Calls Tryz.prog 30 #[P_ g, I_ (i : Nat)] w (Vb w (.bool (Ya r x.w))) := by
 have HR := Za h
 obtain ⟨Fs, Fo, R, gs, vC, vB, vG, vE, ps, ts, h, hG⟩ := h
 obtain ⟨bG, cG, b, t, va, eG, _, _, _, _, _, hA, ⟨s1, s2, s3⟩, s4⟩ := h.see hx
 subst eG
 obtain ⟨aa, na, ca, rfl⟩ := hA.form
 clear hA
 have hi : i < r.gs.length := (G_ hx)
 have hn8 := h.n8
 obtain ⟨⟨c0, c1, c2, c3, c4⟩, c5, c6, c7, c8, c9⟩ := h.cells
 have hgl := h.fb g h.fg
 obtain ⟨rest, ⟨k, o, a, v0, v1, v2⟩⟩ := x
 simp only at s4
 have b1 := Zb s4 1 _ rfl
 have b2 := Zb s4 2 _ rfl
 have b3 := Zb s4 3 _ rfl
 have b4 := Zb s4 4 _ rfl
 have b5 := Zb s4 5 _ rfl
 have b6 := Zb s4 6 _ rfl
 have b7 := Zb s4 7 _ rfl
 obtain ⟨n, hn⟩ : ∃ n, n = r.gs.length := ⟨_, rfl⟩
 rw [← hn] at hi hn8 c3
 have HN := Za hn
 have hi1 : (i : Int) < (n : Int) := by omega
 have hi0 : (0 : Int) <= (i : Int) := by omega
 have hd0 : decide ((i : Int) < 0) = false := by simp
 have hd1 : decide ((n : Int) <= (i : Int)) = false := by simp; omega
 clear hn
 have HS := Za h.st
 have hsl := h.st.lt
 have H7 := Za h17
 clear h hG h17
 simp only at hk
 subst hk
 have B0 := Za (Zd w (.cells #[I_ 10, I_ o, I_ a, I_ v0, I_ v1, .int .u64 v2, .slice aa na ca] 67))
 have V0 := Za (Wv.new w 10 o a v0 v1 v2 (.slice aa na ca))
 obtain ⟨z, hz⟩ : ∃ z, Ya r ⟨10, o, a, (v0, v1, v2)⟩ = z := ⟨_, rfl⟩
 rw [hz]
 have HZ := Za hz
 clear hz
 clear HS H7 HR
 go_enter Tryz.func30, Tryz.ntmps30
 go_wp2_with fail
 go_ret
 exact Vb.mk (by rw [← HZ.out]; rfl) B0.out
theorem can_11 {w : World} {G : Nat -> Prop} {g : Nat} {S : List (List Wt)} {r : Rm} {p : List Addr} (h : Rn w G g S r) (h17 : E2 w p) (i : Nat) (x : Gr) (hx : r.gs[i]? = some x) (hk : x.w.k = 11) : Calls Tryz.prog 30 #[P_ g, I_ (i : Nat)] w (Vb w (.bool (Ya r x.w))) := by
 have HR := Za h
 obtain ⟨Fs, Fo, R, gs, vC, vB, vG, vE, ps, ts, h, hG⟩ := h
 obtain ⟨bG, cG, b, t, va, eG, _, _, _, _, _, hA, ⟨s1, s2, s3⟩, s4⟩ := h.see hx
 subst eG
 obtain ⟨aa, na, ca, rfl⟩ := hA.form
 clear hA
 have hi : i < r.gs.length := (G_ hx)
 have hn8 := h.n8
 obtain ⟨⟨c0, c1, c2, c3, c4⟩, c5, c6, c7, c8, c9⟩ := h.cells
 have hgl := h.fb g h.fg
 obtain ⟨rest, ⟨k, o, a, v0, v1, v2⟩⟩ := x
 simp only at s4
 have b1 := Zb s4 1 _ rfl
 have b2 := Zb s4 2 _ rfl
 have b3 := Zb s4 3 _ rfl
 have b4 := Zb s4 4 _ rfl
 have b5 := Zb s4 5 _ rfl
 have b6 := Zb s4 6 _ rfl
 have b7 := Zb s4 7 _ rfl
 obtain ⟨n, hn⟩ : ∃ n, n = r.gs.length := ⟨_, rfl⟩
 rw [← hn] at hi hn8 c3
 have HN := Za hn
 have hi1 : (i : Int) < (n : Int) := by omega
 have hi0 : (0 : Int) <= (i : Int) := by omega
 have hd0 : decide ((i : Int) < 0) = false := by simp
 have hd1 : decide ((n : Int) <= (i : Int)) = false := by simp; omega
 clear hn
 have HS := Za h.st
 have hsl := h.st.lt
 have H7 := Za h17
 clear h hG h17
 simp only at hk
 subst hk
 have B0 := Za (Zd w (.cells #[I_ 11, I_ o, I_ a, I_ v0, I_ v1, .int .u64 v2, .slice aa na ca] 67))
 have V0 := Za (Wv.new w 11 o a v0 v1 v2 (.slice aa na ca))
 obtain ⟨z, hz⟩ : ∃ z, Ya r ⟨11, o, a, (v0, v1, v2)⟩ = z := ⟨_, rfl⟩
 rw [hz]
 have HZ := Za hz
 clear hz
 clear HS H7 HR
 go_enter Tryz.func30, Tryz.ntmps30
 go_wp2_with fail
 go_ret
 exact Vb.mk (by rw [← HZ.out]; rfl) B0.out
theorem can_12 {w : World} {G : Nat -> Prop} {g : Nat} {S : List (List Wt)} {r : Rm} {p : List Addr} (h : Rn w G g S r) (h17 : E2 w p) (i : Nat) (x : Gr) (hx : r.gs[i]? = some x) (hk : x.w.k = 12) : Calls Tryz.prog 30 #[P_ g, I_ (i : Nat)] w (Vb w (.bool (Ya r x.w))) := by
 have HR := Za h
 obtain ⟨Fs, Fo, R, gs, vC, vB, vG, vE, ps, ts, h, hG⟩ := h
 obtain ⟨bG, cG, b, t, va, eG, _, _, _, _, _, hA, ⟨s1, s2, s3⟩, s4⟩ := h.see hx
 subst eG
 obtain ⟨aa, na, ca, rfl⟩ := hA.form
 clear hA
 have hi : i < r.gs.length := (G_ hx)
 have hn8 := h.n8
 obtain ⟨⟨c0, c1, c2, c3, c4⟩, c5, c6, c7, c8, c9⟩ := h.cells
 have hgl := h.fb g h.fg
 obtain ⟨rest, ⟨k, o, a, v0, v1, v2⟩⟩ := x
 simp only at s4
 have b1 := Zb s4 1 _ rfl
 have b2 := Zb s4 2 _ rfl
 have b3 := Zb s4 3 _ rfl
 have b4 := Zb s4 4 _ rfl
 have b5 := Zb s4 5 _ rfl
 have b6 := Zb s4 6 _ rfl
 have b7 := Zb s4 7 _ rfl
 obtain ⟨n, hn⟩ : ∃ n, n = r.gs.length := ⟨_, rfl⟩
 rw [← hn] at hi hn8 c3
 have HN := Za hn
 have hi1 : (i : Int) < (n : Int) := by omega
 have hi0 : (0 : Int) <= (i : Int) := by omega
 have hd0 : decide ((i : Int) < 0) = false := by simp
 have hd1 : decide ((n : Int) <= (i : Int)) = false := by simp; omega
 clear hn
 have HS := Za h.st
 have hsl := h.st.lt
 have H7 := Za h17
 clear h hG h17
 simp only at hk
 subst hk
 have B0 := Za (Zd w (.cells #[I_ 12, I_ o, I_ a, I_ v0, I_ v1, .int .u64 v2, .slice aa na ca] 67))
 have V0 := Za (Wv.new w 12 o a v0 v1 v2 (.slice aa na ca))
 obtain ⟨z, hz⟩ : ∃ z, Ya r ⟨12, o, a, (v0, v1, v2)⟩ = z := ⟨_, rfl⟩
 rw [hz]
 have HZ := Za hz
 clear hz
 clear HS H7 HR
 go_enter Tryz.func30, Tryz.ntmps30
 go_wp2_with fail
 go_ret
 exact Vb.mk (by rw [← HZ.out]; rfl) B0.out
theorem can_none {w : World} {G : Nat -> Prop} {g : Nat} {S : List (List Wt)} {r : Rm} {p : List Addr} (h : Rn w G g S r) (h17 : E2 w p) (i : Nat) (x : Gr) (hx : r.gs[i]? = some x) (hk : x.w.k < 1 ∨ 12 < x.w.k) : Calls Tryz.prog 30 #[P_ g, I_ (i : Nat)] w (Vb w (.bool (Ya r x.w))) := by
 have HR := Za h
 obtain ⟨Fs, Fo, R, gs, vC, vB, vG, vE, ps, ts, h, hG⟩ := h
 obtain ⟨bG, cG, b, t, va, eG, _, _, _, _, _, hA, ⟨s1, s2, s3⟩, s4⟩ := h.see hx
 subst eG
 obtain ⟨aa, na, ca, rfl⟩ := hA.form
 clear hA
 have hi : i < r.gs.length := (G_ hx)
 have hn8 := h.n8
 obtain ⟨⟨c0, c1, c2, c3, c4⟩, c5, c6, c7, c8, c9⟩ := h.cells
 have hgl := h.fb g h.fg
 obtain ⟨rest, ⟨k, o, a, v0, v1, v2⟩⟩ := x
 simp only at s4
 have b1 := Zb s4 1 _ rfl
 have b2 := Zb s4 2 _ rfl
 have b3 := Zb s4 3 _ rfl
 have b4 := Zb s4 4 _ rfl
 have b5 := Zb s4 5 _ rfl
 have b6 := Zb s4 6 _ rfl
 have b7 := Zb s4 7 _ rfl
 obtain ⟨n, hn⟩ : ∃ n, n = r.gs.length := ⟨_, rfl⟩
 rw [← hn] at hi hn8 c3
 have HN := Za hn
 have hi1 : (i : Int) < (n : Int) := by omega
 have hi0 : (0 : Int) <= (i : Int) := by omega
 have hd0 : decide ((i : Int) < 0) = false := by simp
 have hd1 : decide ((n : Int) <= (i : Int)) = false := by simp; omega
 clear hn
 have HS := Za h.st
 have hsl := h.st.lt
 have H7 := Za h17
 clear h hG h17
 have B0 := Za (Zd w (.cells #[I_ k, I_ o, I_ a, I_ v0, I_ v1, .int .u64 v2, .slice aa na ca] 67))
 have V0 := Za (Wv.new w k o a v0 v1 v2 (.slice aa na ca))
 simp only at hk
 obtain ⟨z, hz⟩ : ∃ z, Ya r ⟨k, o, a, (v0, v1, v2)⟩ = z := ⟨_, rfl⟩
 rw [hz]
 have HZ := Za hz
 clear hz
 have hk1 : (k == 1) = false := by simp; omega
 have hk2 : (k == 2) = false := by simp; omega
 have hk3 : (k == 3) = false := by simp; omega
 have hk4 : (k == 4) = false := by simp; omega
 have hk5 : (k == 5) = false := by simp; omega
 have hk6 : (k == 6) = false := by simp; omega
 have hk7 : (k == 7) = false := by simp; omega
 have hk8 : (k == 8) = false := by simp; omega
 have hk9 : (k == 9) = false := by simp; omega
 have hk10 : (k == 10) = false := by simp; omega
 have hk11 : (k == 11) = false := by simp; omega
 have hk12 : (k == 12) = false := by simp; omega
 have hz2 : z = false := by
  rw [← HZ.out]
  simp only [Ya, beq_eq_false_iff_ne] at *
  simp [*]
 have HZ2 := Za hz2
 clear hz2
 clear HS H7 HR HZ hk
 go_enter Tryz.func30, Tryz.ntmps30
 go_wp2_with fail
 go_ret
 exact Vb.mk (by rw [HZ2.out]; rfl) B0.out
theorem can_out {w : World} {G : Nat -> Prop} {g : Nat} {S : List (List Wt)} {r : Rm} (h : Rn w G g S r) (i : Int) (hi : i < 0 ∨ (r.gs.length : Int) <= i) : Calls Tryz.prog 30 #[P_ g, I_ i] w (Vb w (.bool false)) := by
 obtain ⟨Fs, Fo, R, gs, vC, vB, vG, vE, ps, ts, h, hG⟩ := h
 have c3 := h.cells.1.2.2.2.1
 obtain ⟨a, cG, e, _⟩ := Zl h.go
 subst e
 have hgl := h.fb g h.fg
 obtain ⟨n, hn⟩ : ∃ n, n = r.gs.length := ⟨_, rfl⟩
 rw [← hn] at c3 hi
 clear h hn hG
 by_cases h0 : i < 0
 · have hd0 : decide (i < 0) = true := by simp [h0]
   clear hi
   go_enter Tryz.func30, Tryz.ntmps30
   go_wp2_with fail
   go_ret
   exact Vb.mk rfl (Below.refl _ _)
 · have h1 : (n : Int) <= i := by omega
   have h2 : 0 <= i := by omega
   have hd0 : decide (i < 0) = false := by simp; omega
   have hd1 : decide ((n : Int) <= i) = true := by simp [h1]
   clear hi h0
   go_enter Tryz.func30, Tryz.ntmps30
   go_wp2_with fail
   go_ret
   exact Vb.mk rfl (Below.refl _ _)
theorem canRun_any {w : World} {G : Nat -> Prop} {g : Nat} {S : List (List Wt)} {r : Rm} {p : List Addr} (h : Rn w G g S r) (h17 : E2 w p) (i : Int) : Calls Tryz.prog 30 #[P_ g, I_ i] w (Vb w (.bool (can r i))) := by
 unfold can
 cases hl : lk r.gs i with
 | none => exact can_out h i (YE hl)
 | some x =>
  obtain ⟨i, rfl, hx⟩ := ZC hl
  simp only
  by_cases h0 : x.w.k < 1 ∨ 12 < x.w.k
  · exact can_none h h17 i x hx h0
  have hk : x.w.k = 1 ∨ x.w.k = 2 ∨ x.w.k = 3 ∨ x.w.k = 4 ∨ x.w.k = 5 ∨ x.w.k = 6 ∨ x.w.k = 7 ∨ x.w.k = 8 ∨ x.w.k = 9 ∨ x.w.k = 10 ∨ x.w.k = 11 ∨ x.w.k = 12 := by omega
  rcases hk with hk | hk | hk | hk | hk | hk | hk | hk | hk | hk | hk | hk
  · exact can_1 h h17 i x hx hk
  · exact can_2 h h17 i x hx hk
  · exact can_3 h h17 i x hx hk
  · exact can_4 h h17 i x hx hk
  · exact can_5 h h17 i x hx hk
  · exact can_6 h h17 i x hx hk
  · exact can_7 h h17 i x hx hk
  · exact can_8 h h17 i x hx hk
  · exact can_9 h h17 i x hx hk
  · exact can_10 h h17 i x hx hk
  · exact can_11 h h17 i x hx hk
  · exact can_12 h h17 i x hx hk
theorem outR_run {r : Rm} {k : Nat} {x : Gr} (hx : r.gs[k]? = some x) (hc : Ya r x.w = true) : outR r = 0 := by
 unfold outR
 rw [if_pos]
 rw [List.any_eq_true]
 exact ⟨x, List.mem_of_getElem? hx, hc⟩
theorem outR_end {r : Rm} (h : ∀ (j : Nat) (x : Gr), r.gs[j]? = some x -> Ya r x.w = false) : outR r = if r.gs.any (fun x => x.w.k != 0) then 2 else 1 := by
 unfold outR
 rw [if_neg]
 rw [List.any_eq_true]
 rintro ⟨x, hx, hc⟩
 obtain ⟨j, hj, rfl⟩ := List.mem_iff_getElem.1 hx
 have := h j _ (List.getElem?_eq_getElem hj)
 rw [this] at hc
 cases hc
theorem can_at {r : Rm} {k : Nat} {x : Gr} (hx : r.gs[k]? = some x) : can r (k : Int) = Ya r x.w := by
 unfold can
 rw [lk_nat, hx]
def kd (gs : List Gr) (k : Nat) : Int := if (gs.take k).any (fun x => x.w.k != 0) then 2 else 1
theorem kd_yes {gs : List Gr} {k : Nat} {x : Gr} (hx : gs[k]? = some x) (h : x.w.k ≠ 0) : kd gs (k + 1) = 2 := by
 unfold kd
 rw [List.take_add_one, hx, List.any_append]
 simp [h]
theorem kd_no {gs : List Gr} {k : Nat} {x : Gr} (hx : gs[k]? = some x) (h : x.w.k = 0) : kd gs (k + 1) = kd gs k := by
 unfold kd
 rw [List.take_add_one, hx, List.any_append]
 simp [h]
theorem outcome_any {w : World} {G : Nat -> Prop} {g : Nat} {S : List (List Wt)} {r : Rm} {p : List Addr} (h : Rn w G g S r) (h17 : E2 w p) : Calls Tryz.prog 60 #[P_ g] w (Vb w (I_ (outR r))) := by
  have HR := Za h
  have H7 := Za h17
  obtain ⟨Fs, Fo, R, gs, vC, vB, vG, vE, ps, ts, h, hG⟩ := h
  obtain ⟨a, cG, e, _⟩ := Zl h.go
  subst e
  have hac : Hid (∀ (i : Nat) (x : Gr), r.gs[i]? = some x -> ∃ bG b, a = some ⟨bG, 0, none⟩ /\ bG < w.heap.size /\ b < w.heap.size /\ w.cell? ⟨bG, i, none⟩ = some (P_ b) /\ w.cell? ⟨b, 1, none⟩ = some (I_ x.w.k)) := Za fun i x hx => by
    obtain ⟨bG, c', b, t, va, e1, _, _, _, _, _, _, ⟨q1, q2, q3⟩, q4⟩ := h.see hx
    cases e1
    exact ⟨bG, b, rfl, q2, q3, q1, Zb q4 1 _ rfl⟩
  have c3 := h.cells.1.2.2.2.1
  have hgl := h.fb g h.fg
  have hn8 := h.n8
  obtain ⟨n, hn⟩ : ∃ n, n = r.gs.length := ⟨_, rfl⟩
  rw [← hn] at c3 hn8
  have HN := Za hn
  obtain ⟨ou, hou⟩ : ∃ ou, outR r = ou := ⟨_, rfl⟩
  rw [hou]
  have HO := Za hou
  clear h h17 hG hn hou
  go_enter Tryz.func60, Tryz.ntmps60
  go_wp2_with fail
  go_loopw [3, 4, 5, 11] (fun x3 x4 x5 i wr => ∃ (k : Nat) (m : Int), k <= n /\ i = I_ k /\ x3 = I_ m /\ Hid (m = kd r.gs k) /\ Hid (∀ j x, j < k -> r.gs[j]? = some x -> Ya r x.w = false) /\ Hid (Below w.heap.size w wr)) (fun x3 x4 x5 i _ => n - (intOf i).toNat)
  case atStart => exact ⟨0, 1, Nat.zero_le _, rfl, rfl, Za rfl, fun j x hj => absurd hj (Nat.not_lt_zero _), Below.refl _ _⟩
  case round =>
    obtain ⟨k, m, hk, rfl, rfl, hm, hall, hbel⟩ := hrel
    by_cases hlt : k < n
    · obtain ⟨x, hx⟩ : ∃ x, r.gs[k]? = some x := ⟨_, List.getElem?_eq_getElem (by rw [← HN.out]; exact hlt)⟩
      obtain ⟨bG, b, rfl, hbG, hb, hc1, hc2⟩ := hac.out k x hx
      rw [← hbel.out.cell (p := ⟨bG, k, none⟩) hbG] at hc1
      have h1 : (k : Int) < (n : Int) := by omega
      have CR := Za (canRun_any (HR.out.bel hbel.out) (H7.out.below (Nat.le_refl _) hbel.out) (k : Int))
      rw [can_at hx] at CR
      have hrun := Za (fun hc => outR_run hx hc)
      have hstep : Hid (Ya r x.w = false -> ∀ j y, j < k + 1 -> r.gs[j]? = some y -> Ya r y.w = false) := fun e j y hj hy => by
        by_cases ej : j = k
        · subst ej
          rw [hx] at hy
          cases hy
          exact e
        · exact hall.out j y (by omega) hy
      have hy := Za (fun h => kd_yes hx h)
      have hno := Za (fun h => kd_no hx h)
      have HC2 := Za hc2
      have HB := Za hb
      clear hall hc2 hac hb
      obtain ⟨rest, ⟨xk, xo, xa, xv⟩⟩ := x
      simp only at HC2 hy hno
      generalize Ya r ⟨xk, xo, xa, xv⟩ = z at *
      go_wp2_with fail
      refine CR.out.mono ?_
      rintro e w1 ⟨rfl, hb1⟩
      have hbel2 := Za (Zg hbel.out hb1)
      have hc2 := (hbel2.out.cell (p := ⟨b, 1, none⟩) HB.out).trans HC2.out
      clear hb1 CR
      cases z with
      | true =>
        have hr := Za (hrun.out rfl)
        clear hstep hrun
        go_wp2_with fail
        go_ret
        exact Vb.mk (by rw [← HO.out, hr.out]; rfl) hbel2.out
      | false =>
        have hr := Za (hstep.out rfl)
        clear hstep hrun
        by_cases h0 : xk = 0
        · subst h0
          have hno2 := Za (hno.out rfl)
          clear hno hy
          go_wp2_with fail
          go_roundw
          case rel => exact ⟨k + 1, m, by omega, by go_num, rfl, Za (hm.out.trans hno2.out.symm), hr, hbel2⟩
          case measure => simp [intOf]; omega
        · have hkb : (xk == 0) = false := by simp [h0]
          have hy2 := Za (hy.out h0)
          clear hno hy
          go_wp2_with fail
          go_roundw
          case rel => exact ⟨k + 1, 2, by omega, by go_num, rfl, Za hy2.out.symm, hr, hbel2⟩
          case measure => simp [intOf]; omega
    · have e : k = n := by omega
      subst e
      have he := Za (outR_end (r := r) fun j x hx => hall.out j x (by rw [HN.out]; exact (G_ hx)) hx)
      clear hac hall
      go_wp2_with fail
      go_ret
      exact Vb.mk (by
        rw [← HO.out, he.out]
        have := hm.out
        unfold kd at this
        rw [HN.out, List.take_length] at this
        rw [← this]
        rfl) hbel.out
def EnV (e : En) : Value := .agg #[I_ e.o, I_ e.f, I_ e.g, I_ e.n, I_ e.a]
theorem ret_en {fn : Func} {R : Ending -> World -> Prop} {a : Act} {w : World} {p : Tmp} (b : Nat) {e0 e1 e2 e3 e4 : Int} (hf : fn.results = #[.cell p 37]) (hp : a.tmps.getD p undef = P_ b)
    (h : w.heap[b]? = some (.cells #[I_ e0, I_ e1, I_ e2, I_ e3, I_ e4] 37 (0, 0))) (hdf : a.defers = []) (hR : R (.returned (.agg #[I_ e0, I_ e1, I_ e2, I_ e3, I_ e4])) w) : bodyPost Tryz.prog fn R .ret a w :=
  bodyPost_ret (by
    have hp' : a.tmps[p]?.getD undef = P_ b := by simpa using hp
    have q0 := Zb h 0 _ rfl
    have q1 := Zb h 1 _ rfl
    have q2 := Zb h 2 _ rfl
    have q3 := Zb h 3 _ rfl
    have q4 := Zb h 4 _ rfl
    simp [results, hf, hp', go_sem, q0, q1, q2, q3, q4]) hdf hR
theorem set5 {w : World} {b : Nat} {T : TypeId} {y0 y1 y2 y3 y4 : Value} (h : w.heap[b]? = some (.cells #[y0, y1, y2, y3, y4] T (0, 0))) (x0 x1 x2 x3 x4 : Value) :
 (((((w.setCell ⟨b, 0, none⟩ x0).setCell ⟨b, 1, none⟩ x1).setCell ⟨b, 2, none⟩ x2).setCell ⟨b, 3, none⟩ x3).setCell ⟨b, 4, none⟩ x4).heap[b]? = some (.cells #[x0, x1, x2, x3, x4] T (0, 0)) :=
 heap_setCell_same _ _ _ _ _ _ (heap_setCell_same _ _ _ _ _ _ (heap_setCell_same _ _ _ _ _ _ (heap_setCell_same _ _ _ _ _ _ (heap_setCell_same _ _ _ _ _ _ h))))
theorem bel_set5 {w w2 : World} {N b : Nat} (h : Below N w w2) (hb : N <= b) (x0 x1 x2 x3 x4 : Value) : Below N w (((((w2.setCell ⟨b, 0, none⟩ x0).setCell ⟨b, 1, none⟩ x1).setCell ⟨b, 2, none⟩ x2).setCell ⟨b, 3, none⟩ x3).setCell ⟨b, 4, none⟩ x4) :=
 ((((h.setCell (p := ⟨b, 0, none⟩) hb x0).setCell (p := ⟨b, 1, none⟩) hb x1).setCell (p := ⟨b, 2, none⟩) hb x2).setCell (p := ⟨b, 3, none⟩) hb x3).setCell (p := ⟨b, 4, none⟩) hb x4
theorem End_any {w : World} {G : Nat -> Prop} {g : Nat} {S : List (List Wt)} {r : Rm} {p : List Addr} (h : Rn w G g S r) (h17 : E2 w p) : Calls Tryz.prog 19 #[P_ g] w (Vb w (EnV (endR r))) := by
 have B0 := Za (Zd w (.cells #[I_ 0, I_ 0, I_ 0, I_ 0, I_ 0] 37))
 have V0 := Za (B_ w (.cells #[I_ 0, I_ 0, I_ 0, I_ 0, I_ 0] 37))
 have OU := Za (outcome_any (h.bel B0.out) (h17.below (Nat.le_refl _) B0.out))
 obtain ⟨Fs, Fo, R, gs, vC, vB, vG, vE, ps, ts, h, hG⟩ := h
 obtain ⟨_, c5, c6, c7, c8, c9⟩ := h.cells
 have hgl := h.fb g h.fg
 unfold endR EnV
 by_cases h0 : r.e.o = 0
 · rw [if_pos h0]
   rw [h0] at c5
   simp only
   clear h h17 hG h0 c6 c7 c8 c9
   go_enter Tryz.func19, Tryz.ntmps19
   go_wp2_with fail
   refine OU.out.mono ?_
   rintro e w1 ⟨rfl, hb⟩
   have X1 : Hid (w1.heap[w.heap.size]? = some (.cells #[I_ 0, I_ 0, I_ 0, I_ 0, I_ 0] 37 (0, 0))) := Za ((hb.block _ (Ze V0.out)).trans V0.out)
   have q0 := Zb X1.out 0 _ rfl
   have q1 := Zb X1.out 1 _ rfl
   have q2 := Zb X1.out 2 _ rfl
   have q3 := Zb X1.out 3 _ rfl
   have q4 := Zb X1.out 4 _ rfl
   have f0 := Zc X1.out 0
   have f1 := Zc X1.out 1
   have f2 := Zc X1.out 2
   have f3 := Zc X1.out 3
   have f4 := Zc X1.out 4
   have B1 := Za (Zg B0.out hb)
   clear hb OU
   go_wp2_with fail
   exact ret_en w.heap.size rfl rfl (set5 X1.out _ _ _ _ _) rfl (Vb.mk rfl (bel_set5 B1.out (Nat.le_refl _) _ _ _ _ _))
 · rw [if_neg h0]
   have hb0 : (r.e.o == 0) = false := by simp [h0]
   clear h h17 hG h0 OU
   obtain ⟨s_, gs_, ev_, ⟨e0, e1, e2, e3, e4⟩⟩ := r
   simp only at *
   go_enter Tryz.func19, Tryz.ntmps19
   go_wp2_with fail
   exact ret_en w.heap.size rfl rfl (B_ w _) rfl (Vb.mk rfl (Zd _ _))
theorem enf0 (a b c d e : Value) (w : World) : (Instr.field 37 (.agg #[a, b, c, d, e]) 0).run Tryz.prog w = .ok a w := by kernel_rfl
theorem ended_any {w : World} {G : Nat -> Prop} {g : Nat} {S : List (List Wt)} {r : Rm} {p : List Addr} (h : Rn w G g S r) (h17 : E2 w p) : Calls Tryz.prog 29 #[P_ g] w (Vb w (.bool (!runs r))) := by
 have E := Za (End_any h h17)
 have hf := enf0
 obtain ⟨z, hz⟩ : ∃ z, endR r = z := ⟨_, rfl⟩
 have hr : runs r = (z.o == 0) := by unfold runs; rw [hz]
 rw [hz] at E
 rw [hr]
 obtain ⟨e0, e1, e2, e3, e4⟩ := z
 unfold EnV at E
 simp only at *
 clear h h17 hz hr
 go_enter Tryz.func29, Tryz.ntmps29
 go_wp2_with fail
 refine E.out.mono ?_
 rintro e w1 ⟨rfl, hb⟩
 go_wp2_with fail
 go_ret
 exact Vb.mk rfl hb
theorem Count_any {w : World} {G : Nat -> Prop} {g : Nat} {S : List (List Wt)} {r : Rm} (h : Rn w G g S r) : Calls Tryz.prog 21 #[P_ g] w fun e w' => e = .returned (I_ (r.ev.length : Nat)) /\ w = w' := by
 obtain ⟨Fs, Fo, R, gs, vC, vB, vG, vE, ps, ts, h, hG⟩ := h
 have c4 := h.cells.1.2.2.2.2
 obtain ⟨a, cE, e, _⟩ := Zl h.ev
 subst e
 have hgl := h.fb g h.fg
 generalize r.ev.length = n at *
 clear h hG
 go_enter Tryz.func21, Tryz.ntmps21
 go_wp2_with fail
 go_ret
 exact ⟨rfl, rfl⟩
theorem cloneV2 {w : World} {src : Value} {n : Nat} {xs : List Value} (hs : w.ownsRow 0 64 3 src n xs) (hn : n <= 2000) (h1 : ∀ u ∈ xs, u.oneCell' = true) : Calls Tryz.prog 85 #[src] w (ClP w 64 3 n xs) := by
 rcases own_form hs with ⟨rfl, rfl⟩ | ⟨b, c, rfl, _⟩
 · have e : xs = [] := by have := hs.1; simpa using this
   subst e
   clear hs
   have hE : ∀ w, (binOp .eql 65 (.slice none 0 0) (.slice none 0 0)).run Tryz.prog w = .ok (.bool true) w := fun w => by kernel_rfl
   go_enter Tryz.func85, Tryz.ntmps85
   go_wp2_with fail
   go_ret
   exact ⟨_, _, rfl, World.ownsRow_nil _ _ _ _, Below.refl _ _⟩
 · have hb := Zd w (.cells #[] 64)
   have AP := Za (fun ty => Yo (B := w.heap.size) Tryz.underlying65 Yj rfl (by decide) (B_ w (.cells #[] 64)) (Nat.le_refl _) (Zj hs (fun k hk => hb.block k (Zf hs hk).2.1)) (by omega) h1 hb.size ty)
   have HB := Za hb
   clear hs hb h1
   have hE : ∀ w, (binOp .eql 65 (.slice (some ⟨b, 0, none⟩) n c) (.slice none 0 0)).run Tryz.prog w = .ok (.bool false) w := fun w => by kernel_rfl
   go_enter Tryz.func85, Tryz.ntmps85
   go_wp2_with (first | (at_builtin; refine ZX (TS := 65) rfl (.tmp 5) (.tmp 6) rfl _ _ rfl rfl _ (AP.out _) ?_; rintro v9 w9 ⟨⟨a9, c9, rfl⟩, o9, b9, _⟩; have R9 := Za (And.intro o9 b9); clear o9 b9))
   go_ret
   exact ⟨_, _, rfl, R9.out.1, Zg HB.out R9.out.2⟩
def YA (B : Nat) (w : World) (v : Value) : Prop := ∃ (a : Option Addr) (n c : Nat) (xs : List Value), v = .slice a n c /\ n <= 2000 /\ w.ownsRow B 64 3 v n xs /\ ∀ u ∈ xs, u.oneCell' = true
theorem YA.args {B : Nat} {w : World} {v : Value} (h : YA B w v) {R : Nat -> Prop} (hR : ∀ k, v.ownBlock = some k -> R k) : YK w R v := by
 obtain ⟨a, n, c, xs, e, h1, h2, h3⟩ := h
 exact ⟨n, xs, h1, Yd h2, h3, hR⟩
theorem YA.low {B B' : Nat} {w : World} {v : Value} (h : YA B w v) (hB : B' <= B) : YA B' w v := by
 obtain ⟨a, n, c, xs, e, h1, h2, h3⟩ := h
 exact ⟨a, n, c, xs, e, h1, own_low h2 hB, h3⟩
theorem YA.at {B : Nat} {w : World} {v : Value} (h : YA B w v) {k : Nat} (hk : v.ownBlock = some k) : B <= k /\ k < w.heap.size := by
 obtain ⟨a, n, c, xs, e, h1, h2, h3⟩ := h
 exact ⟨(Zf h2 hk).1, (Zf h2 hk).2.1⟩
theorem YA.keep {B : Nat} {w w' : World} {v : Value} (h : YA B w v) (hk : ∀ k, B <= k -> k < w.heap.size -> v.ownBlock = some k -> w'.heap[k]? = w.heap[k]?) : YA B w' v := by
 obtain ⟨a, n, c, xs, e, h1, h2, h3⟩ := h
 exact ⟨a, n, c, xs, e, h1, Zj h2 fun k hk' => hk k (Zf h2 hk').1 (Zf h2 hk').2.1 hk', h3⟩
theorem YA.al {B : Nat} {w w' : World} {v : Value} (h : YA B w v) (hb : Below w.heap.size w w') : YA B w' v := h.keep fun k _ hk _ => hb.block k hk
theorem ret_wt {fn : Func} {Q : Ending -> World -> Prop} {a : Act} {w : World} {p : Tmp} (b : Nat) {k o a_ : Int} {v : V3} {va : Value} (hf : fn.results = #[.cell p 67]) (hp : a.tmps.getD p undef = P_ b) (hva : ∃ x y z, va = .slice x y z)
    (h : Wv w b k o a_ v va) (hdf : a.defers = []) (hR : Q (.returned (.agg #[I_ k, I_ o, I_ a_, I_ v.1, I_ v.2.1, .int .u64 v.2.2, va])) w) : bodyPost Tryz.prog fn Q .ret a w :=
  bodyPost_ret (by
    obtain ⟨x, y, z, rfl⟩ := hva
    have hp' : a.tmps[p]?.getD undef = P_ b := by simpa using hp
    obtain ⟨v0, v1, v2⟩ := v
    obtain ⟨q0, q1, q2, q3, q4, q5, q6⟩ := h.all
    simp [results, hf, hp', go_sem, q0, q1, q2, q3, q4, q5, q6]) hdf hR
theorem Wv.frz {w : World} {b : Nat} {k o a : Int} {v : V3} {va : Value} (h : Wv w b k o a v va) (i : Nat) : w.frozen? ⟨b, i, none⟩ = false := Zc h i
def set7 (w : World) (b o : Nat) (x0 x1 x2 x3 x4 x5 x6 : Value) : World := ((((((w.setCell ⟨b, o, none⟩ x0).setCell ⟨b, o + 1, none⟩ x1).setCell ⟨b, o + 2, none⟩ x2).setCell ⟨b, o + 3, none⟩ x3).setCell ⟨b, o + 4, none⟩ x4).setCell ⟨b, o + 5, none⟩ x5).setCell ⟨b, o + 6, none⟩ x6
theorem ZR {w : World} {b : Nat} {T : TypeId} {y0 y1 y2 y3 y4 y5 y6 : Value} (h : w.heap[b]? = some (.cells #[y0, y1, y2, y3, y4, y5, y6] T (0, 0))) (x0 x1 x2 x3 x4 x5 x6 : Value) : (set7 w b 0 x0 x1 x2 x3 x4 x5 x6).heap[b]? = some (.cells #[x0, x1, x2, x3, x4, x5, x6] T (0, 0)) := by
 have h0 : (w.setCell ⟨b, 0, none⟩ x0).heap[b]? = some (.cells #[x0, y1, y2, y3, y4, y5, y6] T (0, 0)) := heap_setCell_same _ _ _ _ _ _ h
 have h1 : ((w.setCell ⟨b, 0, none⟩ x0).setCell ⟨b, 1, none⟩ x1).heap[b]? = some (.cells #[x0, x1, y2, y3, y4, y5, y6] T (0, 0)) := heap_setCell_same _ _ _ _ _ _ h0
 have h2 : (((w.setCell ⟨b, 0, none⟩ x0).setCell ⟨b, 1, none⟩ x1).setCell ⟨b, 2, none⟩ x2).heap[b]? = some (.cells #[x0, x1, x2, y3, y4, y5, y6] T (0, 0)) := heap_setCell_same _ _ _ _ _ _ h1
 have h3 : ((((w.setCell ⟨b, 0, none⟩ x0).setCell ⟨b, 1, none⟩ x1).setCell ⟨b, 2, none⟩ x2).setCell ⟨b, 3, none⟩ x3).heap[b]? = some (.cells #[x0, x1, x2, x3, y4, y5, y6] T (0, 0)) := heap_setCell_same _ _ _ _ _ _ h2
 have h4 : (((((w.setCell ⟨b, 0, none⟩ x0).setCell ⟨b, 1, none⟩ x1).setCell ⟨b, 2, none⟩ x2).setCell ⟨b, 3, none⟩ x3).setCell ⟨b, 4, none⟩ x4).heap[b]? = some (.cells #[x0, x1, x2, x3, x4, y5, y6] T (0, 0)) := heap_setCell_same _ _ _ _ _ _ h3
 have h5 : ((((((w.setCell ⟨b, 0, none⟩ x0).setCell ⟨b, 1, none⟩ x1).setCell ⟨b, 2, none⟩ x2).setCell ⟨b, 3, none⟩ x3).setCell ⟨b, 4, none⟩ x4).setCell ⟨b, 5, none⟩ x5).heap[b]? = some (.cells #[x0, x1, x2, x3, x4, x5, y6] T (0, 0)) := heap_setCell_same _ _ _ _ _ _ h4
 have h6 : (((((((w.setCell ⟨b, 0, none⟩ x0).setCell ⟨b, 1, none⟩ x1).setCell ⟨b, 2, none⟩ x2).setCell ⟨b, 3, none⟩ x3).setCell ⟨b, 4, none⟩ x4).setCell ⟨b, 5, none⟩ x5).setCell ⟨b, 6, none⟩ x6).heap[b]? = some (.cells #[x0, x1, x2, x3, x4, x5, x6] T (0, 0)) := heap_setCell_same _ _ _ _ _ _ h5
 exact h6
theorem set7_at1 {w : World} {b : Nat} {T : TypeId} {y y0 y1 y2 y3 y4 y5 y6 : Value} (h : w.heap[b]? = some (.cells #[y, y0, y1, y2, y3, y4, y5, y6] T (0, 0))) (x0 x1 x2 x3 x4 x5 x6 : Value) : (set7 w b 1 x0 x1 x2 x3 x4 x5 x6).heap[b]? = some (.cells #[y, x0, x1, x2, x3, x4, x5, x6] T (0, 0)) := by
 have h0 : (w.setCell ⟨b, 1, none⟩ x0).heap[b]? = some (.cells #[y, x0, y1, y2, y3, y4, y5, y6] T (0, 0)) := heap_setCell_same _ _ _ _ _ _ h
 have h1 : ((w.setCell ⟨b, 1, none⟩ x0).setCell ⟨b, 2, none⟩ x1).heap[b]? = some (.cells #[y, x0, x1, y2, y3, y4, y5, y6] T (0, 0)) := heap_setCell_same _ _ _ _ _ _ h0
 have h2 : (((w.setCell ⟨b, 1, none⟩ x0).setCell ⟨b, 2, none⟩ x1).setCell ⟨b, 3, none⟩ x2).heap[b]? = some (.cells #[y, x0, x1, x2, y3, y4, y5, y6] T (0, 0)) := heap_setCell_same _ _ _ _ _ _ h1
 have h3 : ((((w.setCell ⟨b, 1, none⟩ x0).setCell ⟨b, 2, none⟩ x1).setCell ⟨b, 3, none⟩ x2).setCell ⟨b, 4, none⟩ x3).heap[b]? = some (.cells #[y, x0, x1, x2, x3, y4, y5, y6] T (0, 0)) := heap_setCell_same _ _ _ _ _ _ h2
 have h4 : (((((w.setCell ⟨b, 1, none⟩ x0).setCell ⟨b, 2, none⟩ x1).setCell ⟨b, 3, none⟩ x2).setCell ⟨b, 4, none⟩ x3).setCell ⟨b, 5, none⟩ x4).heap[b]? = some (.cells #[y, x0, x1, x2, x3, x4, y5, y6] T (0, 0)) := heap_setCell_same _ _ _ _ _ _ h3
 have h5 : ((((((w.setCell ⟨b, 1, none⟩ x0).setCell ⟨b, 2, none⟩ x1).setCell ⟨b, 3, none⟩ x2).setCell ⟨b, 4, none⟩ x3).setCell ⟨b, 5, none⟩ x4).setCell ⟨b, 6, none⟩ x5).heap[b]? = some (.cells #[y, x0, x1, x2, x3, x4, x5, y6] T (0, 0)) := heap_setCell_same _ _ _ _ _ _ h4
 have h6 : (((((((w.setCell ⟨b, 1, none⟩ x0).setCell ⟨b, 2, none⟩ x1).setCell ⟨b, 3, none⟩ x2).setCell ⟨b, 4, none⟩ x3).setCell ⟨b, 5, none⟩ x4).setCell ⟨b, 6, none⟩ x5).setCell ⟨b, 7, none⟩ x6).heap[b]? = some (.cells #[y, x0, x1, x2, x3, x4, x5, x6] T (0, 0)) := heap_setCell_same _ _ _ _ _ _ h5
 exact h6
theorem Zy {w : World} {b o k : Nat} {x0 x1 x2 x3 x4 x5 x6 : Value} (h : k ≠ b) : (set7 w b o x0 x1 x2 x3 x4 x5 x6).heap[k]? = w.heap[k]? :=
 (Below.heap_setCell _ _ _ _ h).trans ((Below.heap_setCell _ _ _ _ h).trans ((Below.heap_setCell _ _ _ _ h).trans ((Below.heap_setCell _ _ _ _ h).trans ((Below.heap_setCell _ _ _ _ h).trans ((Below.heap_setCell _ _ _ _ h).trans (Below.heap_setCell _ _ _ _ h))))))
theorem ZY {w : World} {b o : Nat} {x0 x1 x2 x3 x4 x5 x6 : Value} : (set7 w b o x0 x1 x2 x3 x4 x5 x6).heap.size = w.heap.size := by
 unfold set7
 simp only [Zi]
theorem ZL {w w2 : World} {N b o : Nat} {x0 x1 x2 x3 x4 x5 x6 : Value} (h : Below N w w2) (hb : N <= b) : Below N w (set7 w2 b o x0 x1 x2 x3 x4 x5 x6) :=
 ((((((h.setCell (p := ⟨b, o, none⟩) hb x0).setCell (p := ⟨b, o + 1, none⟩) hb x1).setCell (p := ⟨b, o + 2, none⟩) hb x2).setCell (p := ⟨b, o + 3, none⟩) hb x3).setCell (p := ⟨b, o + 4, none⟩) hb x4).setCell (p := ⟨b, o + 5, none⟩) hb x5).setCell (p := ⟨b, o + 6, none⟩) hb x6
def WclP (w : World) (k o a v0 v1 v2 : Int) (e : Ending) (w' : World) : Prop := ∃ va, e = .returned (.agg #[I_ k, I_ o, I_ a, I_ v0, I_ v1, .int .u64 v2, va]) /\ YA w.heap.size w' va /\ Below w.heap.size w w'
theorem wclone_any {w : World} {R : Nat -> Prop} (k o a v0 v1 v2 : Int) (va : Value) (hA : YK w R va) : Calls Tryz.prog 58 #[.agg #[I_ k, I_ o, I_ a, I_ v0, I_ v1, .int .u64 v2, va]] w (WclP w k o a v0 v1 v2) := by
 obtain ⟨n, xs, hn, hs, h1, hR⟩ := hA
 obtain ⟨aa, ca, e, _⟩ := Zl hs
 subst e
 have B0 := Za (Zv (Zd w (.cells #[I_ k, I_ o, I_ a, I_ v0, I_ v1, .int .u64 v2, .slice aa n ca] 67)) (.cells #[I_ 0, I_ 0, I_ 0, I_ 0, I_ 0, .int .u64 0, .slice none 0 0] 67))
 have V0 := Za ((Wv.new w k o a v0 v1 v2 (.slice aa n ca)).al (Zd _ (.cells #[I_ 0, I_ 0, I_ 0, I_ 0, I_ 0, .int .u64 0, .slice none 0 0] 67)))
 have V1 := Za (Wv.new (w.alloc (.cells #[I_ k, I_ o, I_ a, I_ v0, I_ v1, .int .u64 v2, .slice aa n ca] 67)) 0 0 0 0 0 0 (.slice none 0 0))
 have hsz : (w.alloc (.cells #[I_ k, I_ o, I_ a, I_ v0, I_ v1, .int .u64 v2, .slice aa n ca] 67)).heap.size = w.heap.size + 1 := by simp
 rw [hsz] at V1
 have CL := Za (cloneV2 (Zj hs (fun k hk => B0.out.block k (Zf hs hk).2.1)) hn h1)
 have H1 := Za h1
 clear hs h1 hR hsz
 go_enter Tryz.func58, Tryz.ntmps58
 go_wp2_with fail
 generalize (w.alloc _).alloc _ = w1 at *
 refine CL.out.mono ?_
 rintro e w2 ⟨a2, c2, rfl, o2, hb⟩
 have X1 := V0.out.al hb
 have X2 := V1.out.al hb
 obtain ⟨q0, q1, q2, q3, q4, q5, q6⟩ := X1.all
 obtain ⟨r0, r1, r2, r3, r4, r5, r6⟩ := X2.all
 have f6 := X1.frz 6
 have g0 := X2.frz 0
 have g1 := X2.frz 1
 have g2 := X2.frz 2
 have g3 := X2.frz 3
 have g4 := X2.frz 4
 have g5 := X2.frz 5
 have g6 := X2.frz 6
 have HX2 := Za X2
 have V1' := Za V1.out
 have B2 := Za (Zg B0.out hb)
 have O2 := Za (And.intro o2 B0.out.size)
 clear V0 V1 CL hb X1 X2 o2
 go_wp2_with fail
 have Y := ZR ((Below.heap_setCell w2 ⟨w.heap.size, 6, none⟩ (.slice a2 n c2) (w.heap.size + 1) (by simp)).trans HX2.out) (I_ k) (I_ o) (I_ a) (I_ v0) (I_ v1) (.int .u64 v2) (.slice a2 n c2)
 refine ret_wt (w.heap.size + 1) (v := (v0, v1, v2)) rfl rfl ⟨_, _, _, rfl⟩ Y rfl ⟨_, rfl, ⟨_, _, _, xs, rfl, hn, ?_, ?_⟩, ?_⟩
 · have hne : ∀ b, b = w.heap.size ∨ b = w.heap.size + 1 -> (Value.slice a2 n c2).ownBlock ≠ some b := fun b hb e => by
    have h1 := (Zf O2.out.1 e).1
    have h2 := Ze HX2.out
    have h3 := Ze V1'.out
    omega
   exact Zj (own_low O2.out.1 O2.out.2) fun k hk => (Zy (o := 0) (fun e => hne k (.inr e) hk)).trans (Below.heap_setCell _ _ _ _ (fun e => hne k (.inl e) hk))
 · exact H1.out
 · exact ZL (o := 0) (B2.out.setCell (p := ⟨w.heap.size, 6, none⟩) (Nat.le_refl _) _) (Nat.le_succ _)
theorem Zm {w : World} {b g : Nat} {c c' : Array Value} {T T' : TypeId} (h : w.heap[b]? = some (.cells c T (0, 0))) (h' : w.heap[g]? = some (.cells c' T' (0, 0))) (hT : T ≠ T') : b ≠ g := fun e => by
 subst e
 rw [h] at h'
 have := Option.some.inj h'
 injection this with _ h2 _
 exact hT h2
theorem Ch.wide {F F' G G' : Nat -> Prop} {w w' : World} (c : Ch F F' w w') (h1 : ∀ k, F k -> G k) (h2 : ∀ k, G' k -> G k ∨ w.heap.size <= k) : Ch G G' w w' :=
 ⟨c.os, c.tape, c.output, c.size, fun k hk hG => c.blk k hk (fun hF => hG (h1 k hF)), h2⟩
theorem nodup_ne {l : List Nat} (h : l.Nodup) {i j a b : Nat} (hi : l[i]? = some a) (hj : l[j]? = some b) (hij : i ≠ j) : a ≠ b := fun e => by
 subst e
 obtain ⟨h1, e1⟩ := List.getElem?_eq_some_iff.1 hi
 obtain ⟨h2, e2⟩ := List.getElem?_eq_some_iff.1 hj
 have hp := List.pairwise_iff_getElem.1 h
 rcases Nat.lt_or_gt_of_ne hij with h3 | h3
 · exact hp i j h1 h2 h3 (e1.trans e2.symm)
 · exact hp j i h2 h1 h3 (e2.trans e1.symm)
section
variable {w w' : World} {G G' Fs Fs' Fo Fo' R R' F F' : Nat → Prop} {g gs : Nat} {S : List (List Wt)} {r : Rm} {vC vB vG vE : Value} {ps ts : List Nat}
theorem Ru.rn (h : Ru w Fs Fo R g gs S r vC vB vG vE ps ts) : Rn w (fun k => Fs k ∨ Fo k ∨ R k) g S r := ⟨Fs, Fo, R, gs, vC, vB, vG, vE, ps, ts, h, fun _ => Iff.rfl⟩
theorem Ru.part (h : Ru w Fs Fo R g gs S r vC vB vG vE ps ts) {c : Nat} (hc : Fo c) (ho : ∀ k, k ≠ c -> k < w.heap.size -> w'.heap[k]? = w.heap[k]?) (hs : w.heap.size <= w'.heap.size) :
 (Stt w' Fs gs r.s /\ Beg w' R vB S) /\ (∀ k, R k -> w'.heap[k]? = w.heap[k]?) /\ ∀ {T : TypeId} {n : Nat} {v : Value} {len : Nat} {xs : List Value}, w.ownsRow 0 T n v len xs -> v.ownBlock ≠ some c -> w'.ownsRow 0 T n v len xs := by
 have hR : ∀ k, R k -> w'.heap[k]? = w.heap[k]? := fun k hk => ho k (fun e => h.ro k hk (by rw [e]; exact hc)) (h.rb k hk)
 refine ⟨⟨h.st.keep (fun k hk => ho k (fun e => h.so k hk (by rw [e]; exact hc)) (h.st.fb k hk)) hs, h.bg.keep hR fun _ h => h⟩, hR, fun hr hne => Zj hr fun k hk => ho k (fun e => hne (by rw [hk, e])) (Zf hr hk).2.1⟩
theorem Ru.state (h : Ru w Fs Fo R g gs S r vC vB vG vE ps ts) {s' : St} (hs : Stt w' Fs' gs s') (hc : Ch Fs Fs' w w') (hC : s'.C.map Qu.t = r.s.C.map Qu.t) : Ru w' Fs' Fo R g gs S { r with s := s' } vC vB vG vE ps ts := by
 have hl : s'.C.length = r.s.C.length := by
  have := congrArg List.length hC
  simpa using this
 have ho : ∀ k, Fo k -> w'.heap[k]? = w.heap[k]? := fun k hk => hc.blk k (h.fb k hk) (fun e => h.so k e hk)
 have hR : ∀ k, R k -> w'.heap[k]? = w.heap[k]? := fun k hk => hc.blk k (h.rb k hk) (fun e => h.rs k hk e)
 exact { h with
  at_ := (ho g h.fg).trans h.at_
  st := hs
  ch := by
   show w'.ownsRow 0 3 1 vC s'.C.length (nts (s'.C.map Qu.t))
   rw [hC, hl]
   exact Zj h.ch fun k hk => ho k (h.fC k hk)
  bg := h.bg.keep hR fun _ h => h
  go := Zj h.go fun k hk => ho k (h.fG k hk)
  ev := Zj h.ev fun k hk => ho k (h.fE k hk)
  gr := fun i x b t hx hp ht => by
   obtain ⟨h1, h2, h3⟩ := h.gr i x b t hx hp ht
   exact ⟨h1.keep (ho b h2) (ho t h3) hR (fun _ h => h), h2, h3⟩
  so := fun k hk hF => by
   rcases hc.grow k hk with h1 | h1
   · exact h.so k h1 hF
   · have := h.fb k hF
     omega
  rs := fun k hk hF => by
   rcases hc.grow k hF with h1 | h1
   · exact h.rs k hk h1
   · have := h.rb k hk
     omega
  fb := fun k hk => Nat.lt_of_lt_of_le (h.fb k hk) hc.size
  rb := fun k hk => Nat.lt_of_lt_of_le (h.rb k hk) hc.size }
def setEnd (w : World) (g : Nat) (e0 e1 e2 e3 e4 : Int) : World := ((((w.setCell ⟨g, 5, none⟩ (I_ e0)).setCell ⟨g, 6, none⟩ (I_ e1)).setCell ⟨g, 7, none⟩ (I_ e2)).setCell ⟨g, 8, none⟩ (I_ e3)).setCell ⟨g, 9, none⟩ (I_ e4)
theorem setEnd_ne {k : Nat} {e0 e1 e2 e3 e4 : Int} (h : k ≠ g) : (setEnd w g e0 e1 e2 e3 e4).heap[k]? = w.heap[k]? :=
 (Below.heap_setCell _ _ _ _ h).trans ((Below.heap_setCell _ _ _ _ h).trans ((Below.heap_setCell _ _ _ _ h).trans ((Below.heap_setCell _ _ _ _ h).trans (Below.heap_setCell _ _ _ _ h))))
theorem setEnd_size {e0 e1 e2 e3 e4 : Int} : (setEnd w g e0 e1 e2 e3 e4).heap.size = w.heap.size := by
 unfold setEnd
 simp only [Zi]
theorem ch_setEnd (hg : Fo g) {e0 e1 e2 e3 e4 : Int} : Ch Fo Fo w (setEnd w g e0 e1 e2 e3 e4) := (ZM hg _).trans ((ZM hg _).trans ((ZM hg _).trans ((ZM hg _).trans (ZM hg _))))
theorem set10 {y0 y1 y2 y3 y4 y5 y6 y7 y8 y9 : Value} {T : TypeId} (h : w.heap[g]? = some (.cells #[y0, y1, y2, y3, y4, y5, y6, y7, y8, y9] T (0, 0))) (e0 e1 e2 e3 e4 : Int) :
 (setEnd w g e0 e1 e2 e3 e4).heap[g]? = some (.cells #[y0, y1, y2, y3, y4, I_ e0, I_ e1, I_ e2, I_ e3, I_ e4] T (0, 0)) := by
 have h0 : (w.setCell ⟨g, 5, none⟩ (I_ e0)).heap[g]? = some (.cells #[y0, y1, y2, y3, y4, I_ e0, y6, y7, y8, y9] T (0, 0)) := heap_setCell_same _ _ _ _ _ _ h
 have h1 : ((w.setCell ⟨g, 5, none⟩ (I_ e0)).setCell ⟨g, 6, none⟩ (I_ e1)).heap[g]? = some (.cells #[y0, y1, y2, y3, y4, I_ e0, I_ e1, y7, y8, y9] T (0, 0)) := heap_setCell_same _ _ _ _ _ _ h0
 have h2 : (((w.setCell ⟨g, 5, none⟩ (I_ e0)).setCell ⟨g, 6, none⟩ (I_ e1)).setCell ⟨g, 7, none⟩ (I_ e2)).heap[g]? = some (.cells #[y0, y1, y2, y3, y4, I_ e0, I_ e1, I_ e2, y8, y9] T (0, 0)) := heap_setCell_same _ _ _ _ _ _ h1
 have h3 : ((((w.setCell ⟨g, 5, none⟩ (I_ e0)).setCell ⟨g, 6, none⟩ (I_ e1)).setCell ⟨g, 7, none⟩ (I_ e2)).setCell ⟨g, 8, none⟩ (I_ e3)).heap[g]? = some (.cells #[y0, y1, y2, y3, y4, I_ e0, I_ e1, I_ e2, I_ e3, y9] T (0, 0)) := heap_setCell_same _ _ _ _ _ _ h2
 exact heap_setCell_same _ _ _ _ _ _ h3
theorem Ru.setE (h : Ru w Fs Fo R g gs S r vC vB vG vE ps ts) (e0 e1 e2 e3 e4 : Int) : Ru (setEnd w g e0 e1 e2 e3 e4) Fs Fo R g gs S { r with e := ⟨e0, e1, e2, e3, e4⟩ } vC vB vG vE ps ts := by
 obtain ⟨⟨h1, h2⟩, hR, ho⟩ := h.part (w' := setEnd w g e0 e1 e2 e3 e4) h.fg (fun k hk _ => setEnd_ne hk) (Nat.le_of_eq setEnd_size.symm)
 exact { h with
  at_ := set10 h.at_ e0 e1 e2 e3 e4
  st := h1
  ch := ho h.ch (Zu h.ch h.at_ (by decide))
  bg := h2
  go := ho h.go (Zu h.go h.at_ (by decide))
  ev := ho h.ev (Zu h.ev h.at_ (by decide))
  gr := fun i x b t hx hp ht => by
   obtain ⟨q1, q2, q3⟩ := h.gr i x b t hx hp ht
   obtain ⟨va, vw, z1, z2, z3, z4⟩ := id q1
   exact ⟨q1.keep (setEnd_ne (Zm z1 h.at_ (by decide))) (setEnd_ne (Zm z3 h.at_ (by decide))) hR (fun _ h => h), q2, q3⟩
  fb := fun k hk => by rw [setEnd_size]; exact h.fb k hk
  rb := fun k hk => by rw [setEnd_size]; exact h.rb k hk }
theorem Ru.noted (h : Ru w Fs Fo R g gs S r vC vB vG vE ps ts) {w2 : World} {v' : Value} (e : Evt) (ho : w2.ownsRow 0 132 4 v' (r.ev ++ [e]).length (ecs (r.ev ++ [e]))) (hg : w.grownBy w2 vE.ownBlock) (hb : ∀ k, v'.ownBlock = some k -> vE.ownBlock = some k ∨ w.heap.size <= k) :
    Ru (w2.setCell ⟨g, 4, none⟩ v') Fs (fun k => Fo k ∨ v'.ownBlock = some k) R g gs S { r with ev := r.ev ++ [e] } vC vB vG v' ps ts /\ Ch Fo (fun k => Fo k ∨ v'.ownBlock = some k) w (w2.setCell ⟨g, 4, none⟩ v') := by
  have hsz : (w2.setCell ⟨g, 4, none⟩ v').heap.size = w2.heap.size := Zi _ _ _
  have hne : ∀ {k : Nat}, k < w.heap.size -> vE.ownBlock ≠ some k -> k ≠ g -> (w2.setCell ⟨g, 4, none⟩ v').heap[k]? = w.heap[k]? := fun {k} hk h1 h2 => (Below.heap_setCell _ _ _ _ h2).trans (hg.block k hk (fun e => h1 e.symm))
  have gne : vE.ownBlock ≠ some g := Zu h.ev h.at_ (by decide)
  have hown : ∀ {T : TypeId} {n : Nat} {v : Value} {len : Nat} {xs : List Value}, w.ownsRow 0 T n v len xs -> T ≠ 132 -> T ≠ 117 -> (w2.setCell ⟨g, 4, none⟩ v').ownsRow 0 T n v len xs := fun {T n v len xs} hr h1 h2 => Zj hr fun k hk => hne (Zf hr hk).2.1 (fun e => Zo hr h.ev h1 k hk e) (fun e => Zu hr h.at_ h2 (by rw [hk, e]))
  have hR : ∀ k, R k -> (w2.setCell ⟨g, 4, none⟩ v').heap[k]? = w.heap[k]? := fun k hk => hne (h.rb k hk) (fun e => h.ro k hk (h.fE k e)) (fun e => h.ro k hk (by rw [e]; exact h.fg))
  have hS : ∀ k, Fs k -> (w2.setCell ⟨g, 4, none⟩ v').heap[k]? = w.heap[k]? := fun k hk => hne (h.st.fb k hk) (fun e => h.so k hk (h.fE k e)) (fun e => h.so k hk (by rw [e]; exact h.fg))
  have hle : w.heap.size <= (w2.setCell ⟨g, 4, none⟩ v').heap.size := by rw [hsz]; exact hg.size
  have hnew : ∀ k, v'.ownBlock = some k -> Fo k ∨ w.heap.size <= k := fun k hk => (hb k hk).imp (h.fE k) id
  refine ⟨{ h with
    at_ := heap_setCell_same _ _ _ _ _ _ ((hg.block g (Ze h.at_) (fun e => gne e.symm)).trans h.at_)
    st := h.st.keep hS hle
    ch := hown h.ch (by decide) (by decide)
    bg := h.bg.keep hR fun _ h => h
    go := hown h.go (by decide) (by decide)
    ev := Zj ho fun k hk => Below.heap_setCell _ _ _ _ (fun e => by
      subst e
      rcases hb k hk with h1 | h1
      · exact gne h1
      · have := h.fb k h.fg
        omega)
    gr := fun i x b t hx hp ht => by
      obtain ⟨q1, q2, q3⟩ := h.gr i x b t hx hp ht
      obtain ⟨va, vw, z1, z2, z3, z4⟩ := id q1
      exact ⟨q1.keep (hne (h.fb b q2) (Zu h.ev z1 (by decide)) (Zm z1 h.at_ (by decide))) (hne (h.fb t q3) (Zu h.ev z3 (by decide)) (Zm z3 h.at_ (by decide))) hR (fun _ h => h), .inl q2, .inl q3⟩
    fg := .inl h.fg
    fC := fun k hk => .inl (h.fC k hk)
    fG := fun k hk => .inl (h.fG k hk)
    fE := fun k hk => .inr hk
    so := fun k hk hF => by
      rcases hF with h1 | h1
      · exact h.so k hk h1
      · rcases hnew k h1 with h2 | h2
        · exact h.so k hk h2
        · have := h.st.fb k hk
          omega
    ro := fun k hk hF => by
      rcases hF with h1 | h1
      · exact h.ro k hk h1
      · rcases hnew k h1 with h2 | h2
        · exact h.ro k hk h2
        · have := h.rb k hk
          omega
    fb := fun k hk => by
      rw [hsz]
      rcases hk with h1 | h1
      · exact Nat.lt_of_lt_of_le (h.fb k h1) hg.size
      · exact (Zf ho h1).2.1
    rb := fun k hk => Nat.lt_of_lt_of_le (h.rb k hk) hle }, ⟨hg.os, hg.tape, hg.output, hle, fun k hk hF => hne hk (fun e => hF (h.fE k e)) (fun e => hF (by rw [e]; exact h.fg)), fun k hk => ?_⟩⟩
  rcases hk with h1 | h1
  · exact .inl h1
  · exact hnew k h1
theorem Ru.moveT (h : Ru w Fs Fo R g gs S r vC vB vG vE ps ts) {i t : Nat} {x : Gr} (hx : r.gs[i]? = some x) (ht : ts[i]? = some t) (vw : Value) (rest : List Wt) (hW : WRow w R vw rest) :
 Ru (w.setCell ⟨t, 0, none⟩ vw) Fs Fo R g gs S { r with gs := r.gs.set i ⟨rest, x.w⟩ } vC vB vG vE ps ts /\ Ch Fo Fo w (w.setCell ⟨t, 0, none⟩ vw) := by
 have hi := (G_ hx)
 obtain ⟨b, hb⟩ : ∃ b, ps[i]? = some b := ⟨_, List.getElem?_eq_getElem (by rw [h.pl]; exact hi)⟩
 obtain ⟨q1, q2, q3⟩ := h.gr i x b t hx hb ht
 obtain ⟨va, vw0, z1, z2, z3, z4⟩ := id q1
 have hne : ∀ {k : Nat}, k ≠ t -> (w.setCell ⟨t, 0, none⟩ vw).heap[k]? = w.heap[k]? := fun hk => Below.heap_setCell _ _ _ _ hk
 have hsz : (w.setCell ⟨t, 0, none⟩ vw).heap.size = w.heap.size := Zi _ _ _
 obtain ⟨⟨h1, h2⟩, hR, ho⟩ := h.part (w' := w.setCell ⟨t, 0, none⟩ vw) q3 (fun k hk _ => hne hk) (Nat.le_of_eq hsz.symm)
 refine ⟨{ h with
  at_ := (hne (Zm h.at_ z3 (by decide))).trans h.at_
  st := h1
  ch := ho h.ch (Zu h.ch z3 (by decide))
  bg := h2
  go := by
   show (w.setCell ⟨t, 0, none⟩ vw).ownsRow 0 134 1 vG (r.gs.set i ⟨rest, x.w⟩).length (pts ps)
   rw [List.length_set]
   exact ho h.go (Zu h.go z3 (by decide))
  ev := ho h.ev (Zu h.ev z3 (by decide))
  tl := by simpa using h.tl
  gr := fun j y b' t' hy hp ht' => by
   by_cases e : i = j
   · subst e
     have hy' : some (⟨rest, x.w⟩ : Gr) = some y := by
      rw [← hy]
      exact (List.getElem?_set_self hi).symm
     cases hy'
     rw [hb] at hp
     rw [ht] at ht'
     cases hp
     cases ht'
     exact ⟨⟨va, vw, (hne (Zm z1 z3 (by decide))).trans z1, z2.keep hR fun _ h => h, heap_setCell_same _ _ _ _ _ _ z3, hW.keep hR fun _ h => h⟩, q2, q3⟩
   · have hy' : r.gs[j]? = some y := by
      rw [← hy]
      exact (List.getElem?_set_ne e).symm
     obtain ⟨p1, p2, p3⟩ := h.gr j y b' t' hy' hp ht'
     obtain ⟨va', vw', y1, y2, y3, y4⟩ := id p1
     exact ⟨p1.keep (hne (Zm y1 z3 (by decide))) (hne (nodup_ne h.nt ht' ht (fun e' => e e'.symm))) hR (fun _ h => h), p2, p3⟩
  fb := fun k hk => by rw [hsz]; exact h.fb k hk
  rb := fun k hk => by rw [hsz]; exact h.rb k hk
  n8 := by simpa using h.n8 }, ZM q3 _⟩
theorem Ru.setW (h : Ru w Fs Fo R g gs S r vC vB vG vE ps ts) {i b : Nat} {x : Gr} (hx : r.gs[i]? = some x) (hb : ps[i]? = some b) (k o a v0 v1 v2 : Int) (va : Value) (hA : YK w R va) :
 Ru (set7 w b 1 (I_ k) (I_ o) (I_ a) (I_ v0) (I_ v1) (.int .u64 v2) va) Fs Fo R g gs S { r with gs := r.gs.set i ⟨x.rest, ⟨k, o, a, (v0, v1, v2)⟩⟩ } vC vB vG vE ps ts /\ Ch Fo Fo w (set7 w b 1 (I_ k) (I_ o) (I_ a) (I_ v0) (I_ v1) (.int .u64 v2) va) := by
 have hi := (G_ hx)
 obtain ⟨t, ht⟩ : ∃ t, ts[i]? = some t := ⟨_, List.getElem?_eq_getElem (by rw [h.tl]; exact hi)⟩
 obtain ⟨q1, q2, q3⟩ := h.gr i x b t hx hb ht
 obtain ⟨va0, vw0, z1, z2, z3, z4⟩ := id q1
 have hat := set7_at1 z1 (I_ k) (I_ o) (I_ a) (I_ v0) (I_ v1) (.int .u64 v2) va
 have hne : ∀ {j : Nat}, j ≠ b -> (set7 w b 1 (I_ k) (I_ o) (I_ a) (I_ v0) (I_ v1) (.int .u64 v2) va).heap[j]? = w.heap[j]? := fun hk => Zy hk
 have hsz : (set7 w b 1 (I_ k) (I_ o) (I_ a) (I_ v0) (I_ v1) (.int .u64 v2) va).heap.size = w.heap.size := ZY
 have hch : Ch Fo Fo w (set7 w b 1 (I_ k) (I_ o) (I_ a) (I_ v0) (I_ v1) (.int .u64 v2) va) := (ZM q2 _).trans ((ZM q2 _).trans ((ZM q2 _).trans ((ZM q2 _).trans ((ZM q2 _).trans ((ZM q2 _).trans (ZM q2 _))))))
 generalize set7 w b 1 (I_ k) (I_ o) (I_ a) (I_ v0) (I_ v1) (.int .u64 v2) va = W at *
 obtain ⟨⟨h1, h2⟩, hR, ho⟩ := h.part (w' := W) q2 (fun k hk _ => hne hk) (Nat.le_of_eq hsz.symm)
 refine ⟨{ h with
  at_ := (hne (Zm h.at_ z1 (by decide))).trans h.at_
  st := h1
  ch := ho h.ch (Zu h.ch z1 (by decide))
  bg := h2
  go := by
   show W.ownsRow 0 134 1 vG (r.gs.set i ⟨x.rest, ⟨k, o, a, (v0, v1, v2)⟩⟩).length (pts ps)
   rw [List.length_set]
   exact ho h.go (Zu h.go z1 (by decide))
  ev := ho h.ev (Zu h.ev z1 (by decide))
  tl := by simpa using h.tl
  gr := fun j y b' t' hy hp ht' => by
   by_cases e : i = j
   · subst e
     have hy' : some (⟨x.rest, ⟨k, o, a, (v0, v1, v2)⟩⟩ : Gr) = some y := by
      rw [← hy]
      exact (List.getElem?_set_self hi).symm
     cases hy'
     rw [hb] at hp
     rw [ht] at ht'
     cases hp
     cases ht'
     exact ⟨⟨va, vw0, hat, hA.keep hR fun _ h => h, (hne (Zm z3 z1 (by decide))).trans z3, z4.keep hR fun _ h => h⟩, q2, q3⟩
   · have hy' : r.gs[j]? = some y := by
      rw [← hy]
      exact (List.getElem?_set_ne e).symm
     obtain ⟨p1, p2, p3⟩ := h.gr j y b' t' hy' hp ht'
     obtain ⟨va', vw', y1, y2, y3, y4⟩ := id p1
     exact ⟨p1.keep (hne (nodup_ne h.np hp hb (fun e' => e e'.symm))) (hne (Zm y3 z1 (by decide))) hR (fun _ h => h), p2, p3⟩
  fb := fun k hk => by rw [hsz]; exact h.fb k hk
  rb := fun k hk => by rw [hsz]; exact h.rb k hk
  n8 := by simpa using h.n8 }, hch⟩
theorem Ru.fresh (h : Ru w Fs Fo R g gs S r vC vB vG vE ps ts) (hb : Below w.heap.size w w') (P : Nat -> Prop) (hP : ∀ k, P k -> w.heap.size <= k /\ k < w'.heap.size) : Ru w' Fs Fo (fun k => R k ∨ P k) g gs S r vC vB vG vE ps ts := by
 have h' := h.bel hb
 exact { h' with
  bg := h'.bg.keep (fun _ _ => rfl) fun _ h => .inl h
  gr := fun i x b t hx hp ht => by
   obtain ⟨q1, q2, q3⟩ := h'.gr i x b t hx hp ht
   exact ⟨q1.keep rfl rfl (fun _ _ => rfl) fun _ h => .inl h, q2, q3⟩
  rs := fun k hk hF => by
   rcases hk with h1 | h1
   · exact h.rs k h1 hF
   · have := h.st.fb k hF
     have := hP k h1
     omega
  ro := fun k hk hF => by
   rcases hk with h1 | h1
   · exact h.ro k h1 hF
   · have := h.fb k hF
     have := hP k h1
     omega
  rb := fun k hk => by
   rcases hk with h1 | h1
   · exact h'.rb k h1
   · exact (hP k h1).2 }
theorem Ru.born (h : Ru w Fs Fo R g gs S r vC vB vG vE ps ts) {W w2 : World} {v' : Value} {b t : Nat} {x : Gr} (hbW : Below w.heap.size w W) (h8 : r.gs.length + 1 <= 8) (hG : Gor W R b t x) (hbn : w.heap.size <= b) (htn : w.heap.size <= t)
    (ho : w2.ownsRow 0 134 1 v' (r.gs.length + 1) (pts (ps ++ [b]))) (hg : W.grownBy w2 vG.ownBlock) (hb : ∀ k, v'.ownBlock = some k -> vG.ownBlock = some k ∨ W.heap.size <= k) :
    Ru (w2.setCell ⟨g, 3, none⟩ v') Fs (fun k => Fo k ∨ k = b ∨ k = t ∨ v'.ownBlock = some k) R g gs S { r with gs := r.gs ++ [x] } vC vB v' vE (ps ++ [b]) (ts ++ [t]) /\ Ch Fo (fun k => Fo k ∨ k = b ∨ k = t ∨ v'.ownBlock = some k) w (w2.setCell ⟨g, 3, none⟩ v') := by
  have hsz : (w2.setCell ⟨g, 3, none⟩ v').heap.size = w2.heap.size := Zi _ _ _
  obtain ⟨va, vw, z1, z2, z3, z4⟩ := id hG
  have hW := h.bel hbW
  have gne : vG.ownBlock ≠ some g := Zu h.go h.at_ (by decide)
  have hneW : ∀ {k : Nat}, k < W.heap.size -> vG.ownBlock ≠ some k -> k ≠ g -> (w2.setCell ⟨g, 3, none⟩ v').heap[k]? = W.heap[k]? := fun {k} hk h1 h2 => (Below.heap_setCell _ _ _ _ h2).trans (hg.block k hk (fun e => h1 e.symm))
  have hne : ∀ {k : Nat}, k < w.heap.size -> vG.ownBlock ≠ some k -> k ≠ g -> (w2.setCell ⟨g, 3, none⟩ v').heap[k]? = w.heap[k]? := fun {k} hk h1 h2 => (hneW (Nat.lt_of_lt_of_le hk hbW.size) h1 h2).trans (hbW.block k hk)
  have hown : ∀ {T : TypeId} {n : Nat} {v : Value} {len : Nat} {xs : List Value}, w.ownsRow 0 T n v len xs -> T ≠ 134 -> T ≠ 117 -> (w2.setCell ⟨g, 3, none⟩ v').ownsRow 0 T n v len xs := fun {T n v len xs} hr h1 h2 => Zj hr fun k hk => hne (Zf hr hk).2.1 (fun e => Zo hr h.go h1 k hk e) (fun e => Zu hr h.at_ h2 (by rw [hk, e]))
  have hR : ∀ k, R k -> (w2.setCell ⟨g, 3, none⟩ v').heap[k]? = w.heap[k]? := fun k hk => hne (h.rb k hk) (fun e => h.ro k hk (h.fG k e)) (fun e => h.ro k hk (by rw [e]; exact h.fg))
  have hRW : ∀ k, R k -> (w2.setCell ⟨g, 3, none⟩ v').heap[k]? = W.heap[k]? := fun k hk => hneW (hW.rb k hk) (fun e => h.ro k hk (h.fG k e)) (fun e => h.ro k hk (by rw [e]; exact h.fg))
  have hS : ∀ k, Fs k -> (w2.setCell ⟨g, 3, none⟩ v').heap[k]? = w.heap[k]? := fun k hk => hne (h.st.fb k hk) (fun e => h.so k hk (h.fG k e)) (fun e => h.so k hk (by rw [e]; exact h.fg))
  have hle : w.heap.size <= (w2.setCell ⟨g, 3, none⟩ v').heap.size := by rw [hsz]; exact Nat.le_trans hbW.size hg.size
  have hbW' : b < W.heap.size := Ze z1
  have htW' : t < W.heap.size := Ze z3
  have hgl := h.fb g h.fg
  have hnew : ∀ k, (k = b ∨ k = t ∨ v'.ownBlock = some k) -> Fo k ∨ w.heap.size <= k := fun k hk => by
    rcases hk with h1 | h1 | h1
    · exact .inr (by omega)
    · exact .inr (by omega)
    · exact (hb k h1).imp (h.fG k) (fun h2 => Nat.le_trans hbW.size h2)
  have hold : ∀ {l : List Nat} {c : Nat}, (∀ k ∈ l, k < w.heap.size) -> l.Nodup -> w.heap.size <= c -> (l ++ [c]).Nodup := fun {l c} h1 h2 h3 => by
    rw [List.nodup_append]
    refine ⟨h2, by simp, fun a ha b hb => ?_⟩
    simp at hb
    subst hb
    have := h1 a ha
    omega
  have hgor : ∀ (l : List Nat), (l = ps ∨ l = ts) -> ∀ k ∈ l, k < w.heap.size := fun l hl k hk => by
    obtain ⟨j, hj, rfl⟩ := List.mem_iff_getElem.1 hk
    have hj' : j < r.gs.length := by
      rcases hl with rfl | rfl
      · rw [← h.pl]; exact hj
      · rw [← h.tl]; exact hj
    have q := h.gr j _ _ _ (List.getElem?_eq_getElem hj') (List.getElem?_eq_getElem (by rw [h.pl]; exact hj')) (List.getElem?_eq_getElem (by rw [h.tl]; exact hj'))
    rcases hl with rfl | rfl
    · exact h.fb _ q.2.1
    · exact h.fb _ q.2.2
  refine ⟨{ h with
    at_ := heap_setCell_same _ _ _ _ _ _ ((hg.block g (Ze hW.at_) (fun e => gne e.symm)).trans hW.at_)
    st := h.st.keep hS hle
    ch := hown h.ch (by decide) (by decide)
    bg := h.bg.keep hR fun _ h => h
    go := by
      show (w2.setCell ⟨g, 3, none⟩ v').ownsRow 0 134 1 v' (r.gs ++ [x]).length (pts (ps ++ [b]))
      rw [List.length_append, List.length_singleton]
      exact Zj ho fun k hk => Below.heap_setCell _ _ _ _ (fun e => by
        subst e
        rcases hb k hk with h1 | h1
        · exact gne h1
        · have := hbW.size
          have : k < w.heap.size := hgl
          omega)
    ev := hown h.ev (by decide) (by decide)
    tl := by simpa using h.tl
    gr := fun j y b' t' hy hp ht' => by
      by_cases e : j < r.gs.length
      · have hy' : r.gs[j]? = some y := by rw [← hy]; exact (List.getElem?_append_left e).symm
        have hp' : ps[j]? = some b' := by rw [← hp]; exact (List.getElem?_append_left (by rw [h.pl]; exact e)).symm
        have ht'' : ts[j]? = some t' := by rw [← ht']; exact (List.getElem?_append_left (by rw [h.tl]; exact e)).symm
        obtain ⟨p1, p2, p3⟩ := h.gr j y b' t' hy' hp' ht''
        obtain ⟨va', vw', y1, y2, y3, y4⟩ := id p1
        exact ⟨p1.keep (hne (h.fb b' p2) (Zu h.go y1 (by decide)) (Zm y1 h.at_ (by decide))) (hne (h.fb t' p3) (Zu h.go y3 (by decide)) (Zm y3 h.at_ (by decide))) hR (fun _ h => h), .inl p2, .inl p3⟩
      · have hj : j = r.gs.length := by
          have := (G_ hy)
          simp at this
          omega
        subst hj
        have hy' : some x = some y := by rw [← hy]; simp
        have hp' : some b = some b' := by rw [← hp, ← h.pl]; simp
        have ht'' : some t = some t' := by rw [← ht', ← h.tl]; simp
        cases hy'
        cases hp'
        cases ht''
        exact ⟨hG.keep (hneW hbW' (Zu hW.go z1 (by decide)) (by omega)) (hneW htW' (Zu hW.go z3 (by decide)) (by omega)) hRW (fun _ h => h), .inr (.inl rfl), .inr (.inr (.inl rfl))⟩
    np := hold (hgor ps (.inl rfl)) h.np hbn
    nt := hold (hgor ts (.inr rfl)) h.nt htn
    fg := .inl h.fg
    fC := fun k hk => .inl (h.fC k hk)
    fG := fun k hk => .inr (.inr (.inr hk))
    fE := fun k hk => .inl (h.fE k hk)
    so := fun k hk hF => by
      rcases hF with h1 | h1
      · exact h.so k hk h1
      · rcases hnew k h1 with h2 | h2
        · exact h.so k hk h2
        · have := h.st.fb k hk
          omega
    ro := fun k hk hF => by
      rcases hF with h1 | h1
      · exact h.ro k hk h1
      · rcases hnew k h1 with h2 | h2
        · exact h.ro k hk h2
        · have := h.rb k hk
          omega
    fb := fun k hk => by
      rw [hsz]
      rcases hk with h1 | h1 | h1 | h1
      · exact Nat.lt_of_lt_of_le (Nat.lt_of_lt_of_le (h.fb k h1) hbW.size) hg.size
      · rw [h1]; exact Nat.lt_of_lt_of_le hbW' hg.size
      · rw [h1]; exact Nat.lt_of_lt_of_le htW' hg.size
      · exact (Zf ho h1).2.1
    rb := fun k hk => Nat.lt_of_lt_of_le (h.rb k hk) hle
    n8 := by simpa using h8 }, ⟨hg.os.trans hbW.os, hg.tape.trans hbW.tape, hg.output.trans hbW.output, hle, fun k hk hF => hne hk (fun e => hF (h.fG k e)) (fun e => hF (by rw [e]; exact h.fg)), fun k hk => ?_⟩⟩
  rcases hk with h1 | h1
  · exact .inl h1
  · exact hnew k h1
end
def RnP (w : World) (G : Nat -> Prop) (g : Nat) (S : List (List Wt)) (r' : Rm) (v : Value) (e : Ending) (w' : World) : Prop := e = .returned v /\ ∃ G', Rn w' G' g S r' /\ Ch G G' w w'
theorem RnP.mk {w w' : World} {G G' : Nat -> Prop} {g : Nat} {S : List (List Wt)} {r' : Rm} {v v' : Value} (hv : v = v') (h : Rn w' G' g S r') (hc : Ch G G' w w') : RnP w G g S r' v' (.returned v) w' := ⟨by rw [hv], G', h, hc⟩
end Go.Proofs.YtfojninaginnoaaGreatDoor.Ck
