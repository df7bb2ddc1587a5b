/- Texts of this proof, packed: contracts of the program's functions, and the plain model that they are held against. -/
import Derived.Test.YtghfjnnmpmfboaaDoorQad
set_option maxRecDepth 20000
set_option maxHeartbeats 4000000
namespace Go.Proofs.YtghfjnnmpmfboaaDoor.Ck
open Go.RowKit
theorem calls_flip {P : Program} {f : FuncId} {args : Array Value} {w : World} {v : Ending} (h : Calls P f args w fun e w' => e = v /\ w = w') : Calls P f args w fun e w' => e = v /\ w' = w := h.mono fun _ _ h => ⟨h.1, h.2.symm⟩
theorem canSend_out {w : World} {G : Nat -> Prop} {g : Nat} {S : List (List Wt)} {r : Rm} (h : Rn w G g S r) (k o a v0 v1 v2 : Int) (va : Value) (ho : o < 0 ∨ (r.s.C.length : Int) <= o) :
 Calls Tryd.prog 104 #[.pointer (some ⟨g, 0, none⟩), .agg #[.int .i64 k, .int .i64 o, .int .i64 a, .int .i64 v0, .int .i64 v1, .int .u64 v2, va]] w (Vb w (.bool false)) := by
 have B0 := Za (Zd w (.cells #[.int .i64 k, .int .i64 o, .int .i64 a, .int .i64 v0, .int .i64 v1, .int .u64 v2, va] 135))
 have V0 := Za (Wv.new w k o a v0 v1 v2 va)
 obtain ⟨Fs, Fo, R, gs, vC, vB, vG, vE, ps, ts, h, hG⟩ := h
 have h1 := h.bel B0.out
 have HC := Za h1.cells
 obtain ⟨aC, cC, eC, _⟩ := Zo h.ch
 subst eC
 obtain ⟨n, hn⟩ : ∃ n, n = r.s.C.length := ⟨_, rfl⟩
 rw [← hn] at ho HC
 clear h h1 hn hG
 by_cases h0 : o < 0
 · clear ho
   go_enter Tryd.func104, Tryd.ntmps104
   go_wp2_with fail
   generalize w.alloc _ = w1 at *
   obtain ⟨q0, q1, q2, q3, q4, q5, q6⟩ := V0.out.all
   obtain ⟨⟨c0, c1, c2, c3, c4⟩, _⟩ := HC.out
   go_quiet (fail)
   go_wp2_with fail
   go_ret
   exact Vb.mk rfl (below_drewN B0.out _)
 · have h2 : (n : Int) <= o := by omega
   have h3 : 0 <= o := by omega
   have hd0 : decide (o < 0) = false := by simp; omega
   have hd1 : decide ((n : Int) <= o) = true := by simp [h2]
   clear ho h0
   go_enter Tryd.func104, Tryd.ntmps104
   go_wp2_with fail
   generalize w.alloc _ = w1 at *
   obtain ⟨q0, q1, q2, q3, q4, q5, q6⟩ := V0.out.all
   obtain ⟨⟨c0, c1, c2, c3, c4⟩, _⟩ := HC.out
   go_quiet (fail)
   go_wp2_with fail
   go_ret
   exact Vb.mk rfl (below_drewN B0.out _)
theorem canSend_in {w : World} {G : Nat -> Prop} {g : Nat} {S : List (List Wt)} {r : Rm} (h : Rn w G g S r) (k a v0 v1 v2 : Int) (va : Value) (i : Nat) (q : Qu) (hq : r.s.C[i]? = some q) :
 Calls Tryd.prog 104 #[.pointer (some ⟨g, 0, none⟩), .agg #[.int .i64 k, .int .i64 (i : Nat), .int .i64 a, .int .i64 v0, .int .i64 v1, .int .u64 v2, va]] w (Vb w (.bool (isB v0 v1 v2 q.t && (if q.room = 0 then decide (0 <= recvI r.gs i) else decide ((q.l.length : Int) < q.room))))) := by
 have B0 := Za (Zd w (.cells #[.int .i64 k, .int .i64 (i : Nat), .int .i64 a, .int .i64 v0, .int .i64 v1, .int .u64 v2, va] 135))
 have V0 := Za (Wv.new w k i a v0 v1 v2 va)
 have RC := Za (fun (w' : World) (hb : Below w.heap.size w w') => receiver_any (h.bel hb) (i : Int))
 obtain ⟨Fs, Fo, R, gs, vC, vB, vG, vE, ps, ts, h, hG⟩ := h
 have h1 := h.bel B0.out
 have HC := Za h1.cells
 have hi : i < r.s.C.length := (List.getElem?_eq_some_iff.1 hq).1
 obtain ⟨bC, cC, eC, _⟩ := Zv h.ch (by omega)
 subst eC
 have D1 := Za (And.intro (Zm h1.ch i (.int .i64 q.t) (by simp [nts, hq])).1 (Zf h1.ch (k := bC) rfl).2.1)
 have RM := Za (fun (w' : World) (hb : Below w.heap.size w w') => calls_flip (Room_in (h.st.bel hb) i q hq))
 have LN := Za (fun (w' : World) (hb : Below w.heap.size w w') => calls_flip (Len_in (h.st.bel hb) i q hq))
 have hgl := h1.fb g h1.fg
 have HGL := Za hgl
 have hsl := h.st.lt
 obtain ⟨n, hn⟩ : ∃ n, n = r.s.C.length := ⟨_, rfl⟩
 have hn32 : n <= 32 := by
  obtain ⟨_, _, _, _, _, hS⟩ := h.st
  have := hS.small
  omega
 rw [← hn] at HC hi
 have Iq := fun w => aisOf_any v0 v1 v2 q.t w
 obtain ⟨z, hz⟩ : ∃ z, isB v0 v1 v2 q.t = z := ⟨_, rfl⟩
 rw [hz] at Iq
 obtain ⟨y, hy⟩ : ∃ y, (if q.room = 0 then decide (0 <= recvI r.gs i) else decide ((q.l.length : Int) < q.room)) = y := ⟨_, rfl⟩
 rw [hz, hy]
 have HY := Za hy
 clear h h1 hn hG hz hy hq
 obtain ⟨qt, qr, ql⟩ := q
 simp only at *
 obtain ⟨m, hm⟩ : ∃ m, m = ql.length := ⟨_, rfl⟩
 rw [← hm] at LN HY
 clear hm
 have hi1 : (i : Int) < (n : Int) := by omega
 have hi0 : (0 : Int) <= (i : Int) := by omega
 have hd0 : decide ((i : Int) < 0) = false := by simp
 have hd1 : decide ((n : Int) <= (i : Int)) = false := by simp; omega
 have hd2 : decide (n <= i) = false := by simp; omega
 go_enter Tryd.func104, Tryd.ntmps104
 go_wp2_with fail
 generalize w.alloc _ = w1 at *
 obtain ⟨q0, q1, q2, q3, q4, q5, q6⟩ := V0.out.all
 obtain ⟨⟨c0, c1, c2, c3, c4⟩, _⟩ := HC.out
 obtain ⟨d1, hbl⟩ := D1.out
 refine ZT 24 ZU (by kernel_rfl) ?_
 simp only [List.take_succ_cons, List.take_zero, List.drop_succ_cons, List.drop_zero]
 repeat (first | go_big_quiet_skip | (go_big_quiet_want; go_big_quiet_op; go_big_quiet_on))
 refine wpQuiet_nil ?_
 go_wp2_with fail
 refine (Iq _).mono ?_
 rintro e w2 ⟨rfl, hb⟩
 replace hb : Below w1.heap.size w1 w2 := ⟨hb.os, hb.tape, hb.output, hb.size, hb.block⟩
 have B2 := Za (Zi B0.out hb)
 have V2 := Za (V0.out.al hb)
 obtain ⟨p0, p1, p2, p3, p4, p5, p6⟩ := V2.out.all
 have e0 : w2.cell? ⟨g, 0, none⟩ = some (.pointer (some ⟨gs, 0, none⟩)) := (hb.cell (p := ⟨g, 0, none⟩) hgl).trans c0
 have S2 := Za hb.size
 clear c0 c1 c2 c3 c4 d1 q0 q1 q2 q3 q4 q5 q6
 cases z with
 | false =>
  go_wp2_with fail
  go_ret
  exact Vb.mk rfl B2.out
 | true =>
  by_cases hr : qr = 0
  · subst hr
    go_wp2_with fail
    go_quiet (first | (go_at_call 18; exact Calls.quiet_of_same (RM.out _ (below_drewN B2.out _))))
    have HY2 : Hid (y = decide (0 <= recvI r.gs i)) := by
     have := HY.out
     rw [if_pos trivial] at this
     exact this.symm
    clear HY
    go_wp2_with fail
    refine (RC.out _ (below_drewN B2.out _)).mono ?_
    rintro e w3 ⟨rfl, hb3⟩
    have B3 := Za (Zi (below_drewN B2.out _) hb3)
    clear hb3
    go_wp2_with fail
    go_ret
    exact Vb.mk (by rw [HY2.out]; rfl) B3.out
  · have hrb : (qr == 0) = false := by simp [hr]
    have HY2 : Hid (y = decide ((m : Int) < qr)) := by
     have := HY.out
     rw [if_neg hr] at this
     exact this.symm
    clear HY
    go_wp2_with fail
    go_quiet (first | (go_at_call 18; exact Calls.quiet_of_same (RM.out _ (below_drewN B2.out _))))
    have B3 := Za (below_drewN B2.out nq)
    have e0' : (w2.drewN nq).cell? ⟨g, 0, none⟩ = some (.pointer (some ⟨gs, 0, none⟩)) := e0
    have p1' : (w2.drewN nq).cell? ⟨w.heap.size, 1, none⟩ = some (.int .i64 (i : Nat)) := p1
    go_wp2_with fail
    generalize w2.drewN nq = w3 at *
    go_quiet (first | (go_at_call 16; exact Calls.quiet_of_same (LN.out _ (below_drewN B3.out _))) | (go_at_call 18; exact Calls.quiet_of_same (RM.out _ (below_drewN B3.out _))))
    go_wp2_with fail
    go_ret
    exact Vb.mk (by rw [HY2.out]; rfl) (below_drewN B3.out _)
theorem outq_bool (a : Option Addr) (n c : Nat) (i : Int) (w : World) {p : List Addr} (h17 : E2 w p) (hi : i < 0 ∨ (n : Int) <= i) : Calls Tryd.prog 57 #[.slice a n c, .int .i64 i] w fun e w' => e = .returned (.tuple #[.pointer none, errV p 0]) /\ ∃ k, w' = w.drewN k := by
 have x0 : w.cell? ⟨0, 0, none⟩ = some (errV p 0) := h17.c0
 clear h17
 generalize errV p 0 = ev at *
 by_cases h0 : i < 0
 · clear hi
   go_enter Tryd.func57, Tryd.ntmps57
   go_wp2_with fail
   go_quiet (fail)
   go_wp2_with fail
   go_ret2
   exact ⟨rfl, _, rfl⟩
 · have h1 : (n : Int) <= i := by omega
   have h2 : 0 <= i := by omega
   clear hi h0
   go_enter Tryd.func57, Tryd.ntmps57
   go_wp2_with fail
   go_quiet (fail)
   go_wp2_with fail
   go_ret2
   exact ⟨rfl, _, rfl⟩
theorem lockedq {w : World} {F : Nat -> Prop} {g : Nat} {s : St} (h : Stt w F g s) {p : List Addr} (h17 : E2 w p) (i : Int) (hi : i < 0 ∨ (s.M.length : Int) <= i) : Calls Tryd.prog 15 #[.pointer (some ⟨g, 0, none⟩), .int .i64 i] w fun e w' => e = .returned (.bool false) /\ ∃ k, w' = w.drewN k := by
 obtain ⟨vP, vM, vC, vA, vs, h⟩ := h
 obtain ⟨a, c, e, hc, hm⟩ := Zo h.mu
 subst e
 obtain ⟨n, hn⟩ : ∃ n, n = s.M.length := ⟨_, rfl⟩
 rw [← hn] at hi
 have c1 := h.cells.2.1
 rw [← hn] at c1
 have EO := Za (fun w' (h17 : E2 w' p) => outq_bool a n c i w' h17 hi)
 have H7 := Za h17
 unfold errV at *
 generalize adr p 0 = ad at *
 clear h hc hm hi hn h17
 go_enter Tryd.func15, Tryd.ntmps15
 go_wp2_with fail
 refine (EO.out _ H7.out).mono ?_
 rintro e w1 ⟨rfl, k, rfl⟩
 go_wp2_with fail
 go_ret
 exact ⟨rfl, _, rfl⟩
theorem turnq {w : World} {F : Nat -> Prop} {g : Nat} {s : St} (h : Stt w F g s) {p : List Addr} (h17 : E2 w p) (i : Int) (hi : i < 0 ∨ (s.M.length : Int) <= i) : Calls Tryd.prog 86 #[.pointer (some ⟨g, 0, none⟩), .int .i64 i, .bool false] w fun e w' => e = .returned (.tuple #[.bool false, errV p 0]) /\ ∃ k, w' = w.drewN k := by
 obtain ⟨vP, vM, vC, vA, vs, h⟩ := h
 obtain ⟨a, c, e, hc, hm⟩ := Zo h.mu
 subst e
 obtain ⟨n, hn⟩ : ∃ n, n = s.M.length := ⟨_, rfl⟩
 rw [← hn] at hi
 have c1 := h.cells.2.1
 rw [← hn] at c1
 have EO := Za (fun w' (h17 : E2 w' p) => outq_bool a n c i w' h17 hi)
 have H7 := Za h17
 unfold errV at *
 generalize adr p 0 = ad at *
 clear h hc hm hi hn h17
 go_enter Tryd.func86, Tryd.ntmps86
 go_wp2_with fail
 refine (EO.out _ H7.out).mono ?_
 rintro e w1 ⟨rfl, k, rfl⟩
 go_wp2_with fail
 go_ret2
 exact ⟨rfl, _, rfl⟩
theorem unlockq {w : World} {F : Nat -> Prop} {g : Nat} {s : St} (h : Stt w F g s) {p : List Addr} (h17 : E2 w p) (i : Int) (hi : i < 0 ∨ (s.M.length : Int) <= i) : Calls Tryd.prog 51 #[.pointer (some ⟨g, 0, none⟩), .int .i64 i] w fun e w' => e = .returned (.tuple #[.bool false, errV p 0]) /\ ∃ k, w' = w.drewN k := by
 have T := Za (turnq h h17 i hi)
 clear h hi h17
 unfold errV at *
 generalize adr p 0 = ad at *
 go_enter Tryd.func51, Tryd.ntmps51
 go_wp2_with fail
 refine T.out.mono ?_
 rintro e w1 ⟨rfl, k, rfl⟩
 go_wp2_with fail
 go_ret2
 exact ⟨rfl, _, rfl⟩
theorem Locked_q {w : World} {F : Nat -> Prop} {g : Nat} {s : St} {p : List Addr} (h : Stt w F g s) (h17 : E2 w p) (i : Int) : Calls Tryd.prog 15 #[.pointer (some ⟨g, 0, none⟩), .int .i64 i] w fun e w' => e = .returned (.bool ((lk s.M i).getD false)) /\ ∃ k, w' = w.drewN k := by
 cases hl : lk s.M i with
 | some b =>
  obtain ⟨k, rfl, hk⟩ := ZI hl
  exact (Locked_in h k b hk).mono fun e w' ⟨he, hw⟩ => ⟨he, 0, hw ▸ rfl⟩
 | none => exact lockedq h h17 i (Yv hl)
theorem hasMutex_q {w : World} {F : Nat -> Prop} {g : Nat} {s : St} {p : List Addr} (h : Stt w F g s) (h17 : E2 w p) (i : Int) : Calls Tryd.prog 103 #[.pointer (some ⟨g, 0, none⟩), .int .i64 i] w fun e w' => e = .returned (.bool (lk s.M i).isSome) /\ ∃ k, w' = w.drewN k := by
 have L := Za (Locked_q h h17 i)
 have hgl := h.lt
 cases hl : lk s.M i with
 | some b =>
  cases b with
  | true =>
   rw [hl] at L
   clear h h17 hl
   go_enter Tryd.func103, Tryd.ntmps103
   go_wp2_with fail
   refine L.out.mono ?_
   rintro e w1 ⟨rfl, n, rfl⟩
   go_wp2_with fail
   go_ret
   exact ⟨rfl, _, rfl⟩
  | false =>
   rw [hl] at L
   obtain ⟨k, rfl, hk⟩ := ZI hl
   have U := Za (fun (n : Nat) => Unlock_same (w := w.drewN n) (h.bel (below_drewN (Below.refl _ _) n)) k hk)
   clear h h17 hl hk
   go_enter Tryd.func103, Tryd.ntmps103
   go_wp2_with fail
   refine L.out.mono ?_
   rintro e w1 ⟨rfl, n, rfl⟩
   go_wp2_with fail
   refine (U.out n).mono ?_
   rintro e w2 ⟨rfl, rfl⟩
   go_wp2_with fail
   go_ret
   exact ⟨rfl, _, rfl⟩
 | none =>
  rw [hl] at L
  have U := Za (fun (n : Nat) => unlockq (w := w.drewN n) (h.bel (below_drewN (Below.refl _ _) n)) (h17.below (Nat.le_refl _) (below_drewN (Below.refl _ _) n)) i (Yv hl))
  clear h h17 hl
  unfold errV at *
  generalize adr p 0 = ad at *
  go_enter Tryd.func103, Tryd.ntmps103
  go_wp2_with fail
  refine L.out.mono ?_
  rintro e w1 ⟨rfl, n, rfl⟩
  go_wp2_with fail
  refine (U.out n).mono ?_
  rintro e w2 ⟨rfl, m, rfl⟩
  go_wp2_with fail
  go_ret
  exact ⟨rfl, n + m, by simp⟩
theorem can_1 {w : World} {G : Nat -> Prop} {g : Nat} {S : List (List Wt)} {r : Rm} {p : List Addr} (h : Rn w G g S r) (h17 : E2 w p) (i : Nat) (x : Gr) (hx : r.gs[i]? = some x) (hk : x.w.k = 1) : Calls Tryd.prog 94 #[.pointer (some ⟨g, 0, none⟩), .int .i64 (i : Nat)] w (Vb w (.bool (ZX r x.w))) := by
 have HR := Za h
 obtain ⟨Fs, Fo, R, gs, vC, vB, vG, vE, ps, ts, h, hG⟩ := h
 obtain ⟨bG, cG, b, t, va, eG, _, _, _, _, _, hA, ⟨s1, s2, s3⟩, s4⟩ := h.see hx
 subst eG
 obtain ⟨aa, na, ca, rfl⟩ := hA.form
 clear hA
 have hi : i < r.gs.length := (List.getElem?_eq_some_iff.1 hx).1
 have hn8 := h.n8
 obtain ⟨⟨c0, c1, c2, c3, c4⟩, c5, c6, c7, c8, c9⟩ := h.cells
 have hgl := h.fb g h.fg
 obtain ⟨rest, ⟨k, o, a, v0, v1, v2⟩⟩ := x
 simp only at s4
 have b1 := Zb s4 1 _ rfl
 have b2 := Zb s4 2 _ rfl
 have b3 := Zb s4 3 _ rfl
 have b4 := Zb s4 4 _ rfl
 have b5 := Zb s4 5 _ rfl
 have b6 := Zb s4 6 _ rfl
 have b7 := Zb s4 7 _ rfl
 obtain ⟨n, hn⟩ : ∃ n, n = r.gs.length := ⟨_, rfl⟩
 rw [← hn] at hi hn8 c3
 have HN := Za hn
 have hi1 : (i : Int) < (n : Int) := by omega
 have hi0 : (0 : Int) <= (i : Int) := by omega
 have hd0 : decide ((i : Int) < 0) = false := by simp
 have hd1 : decide ((n : Int) <= (i : Int)) = false := by simp; omega
 clear hn
 have HS := Za h.st
 have hsl := h.st.lt
 have H7 := Za h17
 clear h hG h17
 simp only at hk
 subst hk
 have B0 := Za (Zd w (.cells #[.int .i64 1, .int .i64 o, .int .i64 a, .int .i64 v0, .int .i64 v1, .int .u64 v2, .slice aa na ca] 135))
 have V0 := Za (Wv.new w 1 o a v0 v1 v2 (.slice aa na ca))
 have u0 := Za ((B0.out.cell (p := ⟨g, 0, none⟩) hgl).trans c0)
 obtain ⟨z, hz⟩ : ∃ z, ZX r ⟨1, o, a, (v0, v1, v2)⟩ = z := ⟨_, rfl⟩
 rw [hz]
 have HZ := Za hz
 clear hz
 have CA := Za (canAccess_any ((HS.out.bel B0.out).bel (below_drewN (Below.refl _ _) 1)) ((H7.out.below (Nat.le_refl _) B0.out).below (Nat.le_refl _) (below_drewN (Below.refl _ _) 1)) 1 o a v0 v1 v2 (.slice aa na ca))
 clear HS H7 HR
 go_enter Tryd.func94, Tryd.ntmps94
 go_wp2_with fail
 generalize w.alloc _ = w1 at *
 obtain ⟨q0, q1, q2, q3, q4, q5, q6⟩ := V0.out.all
 have u0 := u0.out
 refine ZT 5 ZU (by kernel_rfl) ?_
 simp only [List.take_succ_cons, List.take_zero, List.drop_succ_cons, List.drop_zero]
 repeat (first | go_big_quiet_skip | (go_big_quiet_want; go_big_quiet_op; go_big_quiet_on))
 refine wpQuiet_nil ?_
 go_wp2_with fail
 refine (CA.out).mono ?_
 rintro e w2 ⟨rfl, hb⟩
 replace hb : Below w1.heap.size w1 w2 := ⟨hb.os, hb.tape, hb.output, hb.size, hb.block⟩
 have B2 := Za (Zi B0.out hb)
 clear hb
 go_wp2_with fail
 go_ret
 exact Vb.mk (by rw [← HZ.out]; rfl) B2.out
theorem can_2 {w : World} {G : Nat -> Prop} {g : Nat} {S : List (List Wt)} {r : Rm} {p : List Addr} (h : Rn w G g S r) (h17 : E2 w p) (i : Nat) (x : Gr) (hx : r.gs[i]? = some x) (hk : x.w.k = 2) : Calls Tryd.prog 94 #[.pointer (some ⟨g, 0, none⟩), .int .i64 (i : Nat)] w (Vb w (.bool (ZX r x.w))) := by
 have HR := Za h
 obtain ⟨Fs, Fo, R, gs, vC, vB, vG, vE, ps, ts, h, hG⟩ := h
 obtain ⟨bG, cG, b, t, va, eG, _, _, _, _, _, hA, ⟨s1, s2, s3⟩, s4⟩ := h.see hx
 subst eG
 obtain ⟨aa, na, ca, rfl⟩ := hA.form
 clear hA
 have hi : i < r.gs.length := (List.getElem?_eq_some_iff.1 hx).1
 have hn8 := h.n8
 obtain ⟨⟨c0, c1, c2, c3, c4⟩, c5, c6, c7, c8, c9⟩ := h.cells
 have hgl := h.fb g h.fg
 obtain ⟨rest, ⟨k, o, a, v0, v1, v2⟩⟩ := x
 simp only at s4
 have b1 := Zb s4 1 _ rfl
 have b2 := Zb s4 2 _ rfl
 have b3 := Zb s4 3 _ rfl
 have b4 := Zb s4 4 _ rfl
 have b5 := Zb s4 5 _ rfl
 have b6 := Zb s4 6 _ rfl
 have b7 := Zb s4 7 _ rfl
 obtain ⟨n, hn⟩ : ∃ n, n = r.gs.length := ⟨_, rfl⟩
 rw [← hn] at hi hn8 c3
 have HN := Za hn
 have hi1 : (i : Int) < (n : Int) := by omega
 have hi0 : (0 : Int) <= (i : Int) := by omega
 have hd0 : decide ((i : Int) < 0) = false := by simp
 have hd1 : decide ((n : Int) <= (i : Int)) = false := by simp; omega
 clear hn
 have HS := Za h.st
 have hsl := h.st.lt
 have H7 := Za h17
 clear h hG h17
 simp only at hk
 subst hk
 have B0 := Za (Zd w (.cells #[.int .i64 2, .int .i64 o, .int .i64 a, .int .i64 v0, .int .i64 v1, .int .u64 v2, .slice aa na ca] 135))
 have V0 := Za (Wv.new w 2 o a v0 v1 v2 (.slice aa na ca))
 have u0 := Za ((B0.out.cell (p := ⟨g, 0, none⟩) hgl).trans c0)
 obtain ⟨z, hz⟩ : ∃ z, ZX r ⟨2, o, a, (v0, v1, v2)⟩ = z := ⟨_, rfl⟩
 rw [hz]
 have HZ := Za hz
 clear hz
 have CA := Za (canAccess_any ((HS.out.bel B0.out).bel (below_drewN (Below.refl _ _) 1)) ((H7.out.below (Nat.le_refl _) B0.out).below (Nat.le_refl _) (below_drewN (Below.refl _ _) 1)) 2 o a v0 v1 v2 (.slice aa na ca))
 clear HS H7 HR
 go_enter Tryd.func94, Tryd.ntmps94
 go_wp2_with fail
 generalize w.alloc _ = w1 at *
 obtain ⟨q0, q1, q2, q3, q4, q5, q6⟩ := V0.out.all
 have u0 := u0.out
 refine ZT 5 ZU (by kernel_rfl) ?_
 simp only [List.take_succ_cons, List.take_zero, List.drop_succ_cons, List.drop_zero]
 repeat (first | go_big_quiet_skip | (go_big_quiet_want; go_big_quiet_op; go_big_quiet_on))
 refine wpQuiet_nil ?_
 go_wp2_with fail
 refine (CA.out).mono ?_
 rintro e w2 ⟨rfl, hb⟩
 replace hb : Below w1.heap.size w1 w2 := ⟨hb.os, hb.tape, hb.output, hb.size, hb.block⟩
 have B2 := Za (Zi B0.out hb)
 clear hb
 go_wp2_with fail
 go_ret
 exact Vb.mk (by rw [← HZ.out]; rfl) B2.out
theorem can_3 {w : World} {G : Nat -> Prop} {g : Nat} {S : List (List Wt)} {r : Rm} {p : List Addr} (h : Rn w G g S r) (h17 : E2 w p) (i : Nat) (x : Gr) (hx : r.gs[i]? = some x) (hk : x.w.k = 3) : Calls Tryd.prog 94 #[.pointer (some ⟨g, 0, none⟩), .int .i64 (i : Nat)] w (Vb w (.bool (ZX r x.w))) := by
 have HR := Za h
 obtain ⟨Fs, Fo, R, gs, vC, vB, vG, vE, ps, ts, h, hG⟩ := h
 obtain ⟨bG, cG, b, t, va, eG, _, _, _, _, _, hA, ⟨s1, s2, s3⟩, s4⟩ := h.see hx
 subst eG
 obtain ⟨aa, na, ca, rfl⟩ := hA.form
 clear hA
 have hi : i < r.gs.length := (List.getElem?_eq_some_iff.1 hx).1
 have hn8 := h.n8
 obtain ⟨⟨c0, c1, c2, c3, c4⟩, c5, c6, c7, c8, c9⟩ := h.cells
 have hgl := h.fb g h.fg
 obtain ⟨rest, ⟨k, o, a, v0, v1, v2⟩⟩ := x
 simp only at s4
 have b1 := Zb s4 1 _ rfl
 have b2 := Zb s4 2 _ rfl
 have b3 := Zb s4 3 _ rfl
 have b4 := Zb s4 4 _ rfl
 have b5 := Zb s4 5 _ rfl
 have b6 := Zb s4 6 _ rfl
 have b7 := Zb s4 7 _ rfl
 obtain ⟨n, hn⟩ : ∃ n, n = r.gs.length := ⟨_, rfl⟩
 rw [← hn] at hi hn8 c3
 have HN := Za hn
 have hi1 : (i : Int) < (n : Int) := by omega
 have hi0 : (0 : Int) <= (i : Int) := by omega
 have hd0 : decide ((i : Int) < 0) = false := by simp
 have hd1 : decide ((n : Int) <= (i : Int)) = false := by simp; omega
 clear hn
 have HS := Za h.st
 have hsl := h.st.lt
 have H7 := Za h17
 clear h hG h17
 simp only at hk
 subst hk
 have B0 := Za (Zd w (.cells #[.int .i64 3, .int .i64 o, .int .i64 a, .int .i64 v0, .int .i64 v1, .int .u64 v2, .slice aa na ca] 135))
 have V0 := Za (Wv.new w 3 o a v0 v1 v2 (.slice aa na ca))
 have u0 := Za ((B0.out.cell (p := ⟨g, 0, none⟩) hgl).trans c0)
 obtain ⟨z, hz⟩ : ∃ z, ZX r ⟨3, o, a, (v0, v1, v2)⟩ = z := ⟨_, rfl⟩
 rw [hz]
 have HZ := Za hz
 clear hz
 have HM := Za (fun n => hasMutex_q ((HS.out.bel B0.out).bel (below_drewN (Below.refl _ _) n)) ((H7.out.below (Nat.le_refl _) B0.out).below (Nat.le_refl _) (below_drewN (Below.refl _ _) n)) o)
 have LO := Za (fun n => Locked_q ((HS.out.bel B0.out).bel (below_drewN (Below.refl _ _) n)) ((H7.out.below (Nat.le_refl _) B0.out).below (Nat.le_refl _) (below_drewN (Below.refl _ _) n)) o)
 obtain ⟨hm, ehm⟩ : ∃ hm, (lk r.s.M o).isSome = hm := ⟨_, rfl⟩
 obtain ⟨lo, elo⟩ : ∃ lo, (lk r.s.M o).getD false = lo := ⟨_, rfl⟩
 have HZ2 : Hid (z = (hm && !lo)) := by
  rw [← HZ.out, ← ehm, ← elo]
  show canL r.s _ = _
  unfold canL
  cases lk r.s.M o <;> simp
 rw [ehm] at HM
 rw [elo] at LO
 clear ehm elo HZ HS H7 HR
 cases hm with
 | true =>
  go_enter Tryd.func94, Tryd.ntmps94
  go_wp2_with fail
  generalize w.alloc _ = w1 at *
  obtain ⟨q0, q1, q2, q3, q4, q5, q6⟩ := V0.out.all
  have u0 := u0.out
  go_quiet (first | (go_at_call 103; exact Calls.quiet_of (HM.out _)) | (go_at_call 15; exact Calls.quiet_of (LO.out _)))
  go_wp2_with fail
  go_ret
  exact Vb.mk (by rw [HZ2.out]; simp) (below_drewN B0.out _)
 | false =>
  go_enter Tryd.func94, Tryd.ntmps94
  go_wp2_with fail
  generalize w.alloc _ = w1 at *
  obtain ⟨q0, q1, q2, q3, q4, q5, q6⟩ := V0.out.all
  have u0 := u0.out
  go_quiet (first | (go_at_call 103; exact Calls.quiet_of (HM.out _)))
  go_wp2_with fail
  go_ret
  exact Vb.mk (by rw [HZ2.out]; simp) (below_drewN B0.out _)
theorem can_4 {w : World} {G : Nat -> Prop} {g : Nat} {S : List (List Wt)} {r : Rm} {p : List Addr} (h : Rn w G g S r) (h17 : E2 w p) (i : Nat) (x : Gr) (hx : r.gs[i]? = some x) (hk : x.w.k = 4) : Calls Tryd.prog 94 #[.pointer (some ⟨g, 0, none⟩), .int .i64 (i : Nat)] w (Vb w (.bool (ZX r x.w))) := by
 have HR := Za h
 obtain ⟨Fs, Fo, R, gs, vC, vB, vG, vE, ps, ts, h, hG⟩ := h
 obtain ⟨bG, cG, b, t, va, eG, _, _, _, _, _, hA, ⟨s1, s2, s3⟩, s4⟩ := h.see hx
 subst eG
 obtain ⟨aa, na, ca, rfl⟩ := hA.form
 clear hA
 have hi : i < r.gs.length := (List.getElem?_eq_some_iff.1 hx).1
 have hn8 := h.n8
 obtain ⟨⟨c0, c1, c2, c3, c4⟩, c5, c6, c7, c8, c9⟩ := h.cells
 have hgl := h.fb g h.fg
 obtain ⟨rest, ⟨k, o, a, v0, v1, v2⟩⟩ := x
 simp only at s4
 have b1 := Zb s4 1 _ rfl
 have b2 := Zb s4 2 _ rfl
 have b3 := Zb s4 3 _ rfl
 have b4 := Zb s4 4 _ rfl
 have b5 := Zb s4 5 _ rfl
 have b6 := Zb s4 6 _ rfl
 have b7 := Zb s4 7 _ rfl
 obtain ⟨n, hn⟩ : ∃ n, n = r.gs.length := ⟨_, rfl⟩
 rw [← hn] at hi hn8 c3
 have HN := Za hn
 have hi1 : (i : Int) < (n : Int) := by omega
 have hi0 : (0 : Int) <= (i : Int) := by omega
 have hd0 : decide ((i : Int) < 0) = false := by simp
 have hd1 : decide ((n : Int) <= (i : Int)) = false := by simp; omega
 clear hn
 have HS := Za h.st
 have hsl := h.st.lt
 have H7 := Za h17
 clear h hG h17
 simp only at hk
 subst hk
 have B0 := Za (Zd w (.cells #[.int .i64 4, .int .i64 o, .int .i64 a, .int .i64 v0, .int .i64 v1, .int .u64 v2, .slice aa na ca] 135))
 have V0 := Za (Wv.new w 4 o a v0 v1 v2 (.slice aa na ca))
 have u0 := Za ((B0.out.cell (p := ⟨g, 0, none⟩) hgl).trans c0)
 obtain ⟨z, hz⟩ : ∃ z, ZX r ⟨4, o, a, (v0, v1, v2)⟩ = z := ⟨_, rfl⟩
 rw [hz]
 have HZ := Za hz
 clear hz
 have CA := Za (hasMutex_any ((HS.out.bel B0.out).bel (below_drewN (Below.refl _ _) 1)) ((H7.out.below (Nat.le_refl _) B0.out).below (Nat.le_refl _) (below_drewN (Below.refl _ _) 1)) o)
 clear HS H7 HR
 go_enter Tryd.func94, Tryd.ntmps94
 go_wp2_with fail
 generalize w.alloc _ = w1 at *
 obtain ⟨q0, q1, q2, q3, q4, q5, q6⟩ := V0.out.all
 have u0 := u0.out
 refine ZT 6 ZU (by kernel_rfl) ?_
 simp only [List.take_succ_cons, List.take_zero, List.drop_succ_cons, List.drop_zero]
 repeat (first | go_big_quiet_skip | (go_big_quiet_want; go_big_quiet_op; go_big_quiet_on))
 refine wpQuiet_nil ?_
 go_wp2_with fail
 refine (CA.out).mono ?_
 rintro e w2 ⟨rfl, hb⟩
 replace hb : Below w1.heap.size w1 w2 := ⟨hb.os, hb.tape, hb.output, hb.size, hb.block⟩
 have B2 := Za (Zi B0.out hb)
 clear hb
 go_wp2_with fail
 go_ret
 exact Vb.mk (by rw [← HZ.out]; rfl) B2.out
theorem recvI_some (gs : List Gr) (c : Int) : decide (0 <= recvI gs c) = (recvR gs c).isSome := by
 unfold recvI
 cases recvR gs c with
 | none => rfl
 | some t => simp
theorem canSend_any {w : World} {G : Nat -> Prop} {g : Nat} {S : List (List Wt)} {r : Rm} (h : Rn w G g S r) (k o a v0 v1 v2 : Int) (va : Value) :
 Calls Tryd.prog 104 #[.pointer (some ⟨g, 0, none⟩), .agg #[.int .i64 k, .int .i64 o, .int .i64 a, .int .i64 v0, .int .i64 v1, .int .u64 v2, va]] w (Vb w (.bool (canS r ⟨k, o, a, (v0, v1, v2)⟩))) := by
 unfold canS
 simp only
 cases hl : lk r.s.C o with
 | none => exact canSend_out h k o a v0 v1 v2 va (Yv hl)
 | some q =>
  obtain ⟨i, rfl, hi⟩ := ZI hl
  have := canSend_in h k a v0 v1 v2 va i q hi
  rw [recvI_some] at this
  exact this
theorem can_5 {w : World} {G : Nat -> Prop} {g : Nat} {S : List (List Wt)} {r : Rm} {p : List Addr} (h : Rn w G g S r) (h17 : E2 w p) (i : Nat) (x : Gr) (hx : r.gs[i]? = some x) (hk : x.w.k = 5) : Calls Tryd.prog 94 #[.pointer (some ⟨g, 0, none⟩), .int .i64 (i : Nat)] w (Vb w (.bool (ZX r x.w))) := by
 have HR := Za h
 obtain ⟨Fs, Fo, R, gs, vC, vB, vG, vE, ps, ts, h, hG⟩ := h
 obtain ⟨bG, cG, b, t, va, eG, _, _, _, _, _, hA, ⟨s1, s2, s3⟩, s4⟩ := h.see hx
 subst eG
 obtain ⟨aa, na, ca, rfl⟩ := hA.form
 clear hA
 have hi : i < r.gs.length := (List.getElem?_eq_some_iff.1 hx).1
 have hn8 := h.n8
 obtain ⟨⟨c0, c1, c2, c3, c4⟩, c5, c6, c7, c8, c9⟩ := h.cells
 have hgl := h.fb g h.fg
 obtain ⟨rest, ⟨k, o, a, v0, v1, v2⟩⟩ := x
 simp only at s4
 have b1 := Zb s4 1 _ rfl
 have b2 := Zb s4 2 _ rfl
 have b3 := Zb s4 3 _ rfl
 have b4 := Zb s4 4 _ rfl
 have b5 := Zb s4 5 _ rfl
 have b6 := Zb s4 6 _ rfl
 have b7 := Zb s4 7 _ rfl
 obtain ⟨n, hn⟩ : ∃ n, n = r.gs.length := ⟨_, rfl⟩
 rw [← hn] at hi hn8 c3
 have HN := Za hn
 have hi1 : (i : Int) < (n : Int) := by omega
 have hi0 : (0 : Int) <= (i : Int) := by omega
 have hd0 : decide ((i : Int) < 0) = false := by simp
 have hd1 : decide ((n : Int) <= (i : Int)) = false := by simp; omega
 clear hn
 have HS := Za h.st
 have hsl := h.st.lt
 have H7 := Za h17
 clear h hG h17
 simp only at hk
 subst hk
 have B0 := Za (Zd w (.cells #[.int .i64 5, .int .i64 o, .int .i64 a, .int .i64 v0, .int .i64 v1, .int .u64 v2, .slice aa na ca] 135))
 have V0 := Za (Wv.new w 5 o a v0 v1 v2 (.slice aa na ca))
 obtain ⟨z, hz⟩ : ∃ z, ZX r ⟨5, o, a, (v0, v1, v2)⟩ = z := ⟨_, rfl⟩
 rw [hz]
 have HZ := Za hz
 clear hz
 have CA := Za (canSend_any (HR.out.bel B0.out) 5 o a v0 v1 v2 (.slice aa na ca))
 clear HS H7 HR
 go_enter Tryd.func94, Tryd.ntmps94
 go_wp2_with fail
 refine (CA.out).mono ?_
 rintro e w2 ⟨rfl, hb⟩
 have B2 := Za (Zi B0.out hb)
 clear hb
 go_wp2_with fail
 go_ret
 exact Vb.mk (by rw [← HZ.out]; rfl) B2.out
theorem can_6 {w : World} {G : Nat -> Prop} {g : Nat} {S : List (List Wt)} {r : Rm} {p : List Addr} (h : Rn w G g S r) (h17 : E2 w p) (i : Nat) (x : Gr) (hx : r.gs[i]? = some x) (hk : x.w.k = 6) : Calls Tryd.prog 94 #[.pointer (some ⟨g, 0, none⟩), .int .i64 (i : Nat)] w (Vb w (.bool (ZX r x.w))) := by
 have HR := Za h
 obtain ⟨Fs, Fo, R, gs, vC, vB, vG, vE, ps, ts, h, hG⟩ := h
 obtain ⟨bG, cG, b, t, va, eG, _, _, _, _, _, hA, ⟨s1, s2, s3⟩, s4⟩ := h.see hx
 subst eG
 obtain ⟨aa, na, ca, rfl⟩ := hA.form
 clear hA
 have hi : i < r.gs.length := (List.getElem?_eq_some_iff.1 hx).1
 have hn8 := h.n8
 obtain ⟨⟨c0, c1, c2, c3, c4⟩, c5, c6, c7, c8, c9⟩ := h.cells
 have hgl := h.fb g h.fg
 obtain ⟨rest, ⟨k, o, a, v0, v1, v2⟩⟩ := x
 simp only at s4
 have b1 := Zb s4 1 _ rfl
 have b2 := Zb s4 2 _ rfl
 have b3 := Zb s4 3 _ rfl
 have b4 := Zb s4 4 _ rfl
 have b5 := Zb s4 5 _ rfl
 have b6 := Zb s4 6 _ rfl
 have b7 := Zb s4 7 _ rfl
 obtain ⟨n, hn⟩ : ∃ n, n = r.gs.length := ⟨_, rfl⟩
 rw [← hn] at hi hn8 c3
 have HN := Za hn
 have hi1 : (i : Int) < (n : Int) := by omega
 have hi0 : (0 : Int) <= (i : Int) := by omega
 have hd0 : decide ((i : Int) < 0) = false := by simp
 have hd1 : decide ((n : Int) <= (i : Int)) = false := by simp; omega
 clear hn
 have HS := Za h.st
 have hsl := h.st.lt
 have H7 := Za h17
 clear h hG h17
 simp only at hk
 subst hk
 have B0 := Za (Zd w (.cells #[.int .i64 6, .int .i64 o, .int .i64 a, .int .i64 v0, .int .i64 v1, .int .u64 v2, .slice aa na ca] 135))
 have V0 := Za (Wv.new w 6 o a v0 v1 v2 (.slice aa na ca))
 have u0 := Za ((B0.out.cell (p := ⟨g, 0, none⟩) hgl).trans c0)
 obtain ⟨z, hz⟩ : ∃ z, ZX r ⟨6, o, a, (v0, v1, v2)⟩ = z := ⟨_, rfl⟩
 rw [hz]
 have HZ := Za hz
 clear hz
 have CA := Za (Len_any ((HS.out.bel B0.out).bel (below_drewN (Below.refl _ _) 1)) ((H7.out.below (Nat.le_refl _) B0.out).below (Nat.le_refl _) (below_drewN (Below.refl _ _) 1)) o)
 obtain ⟨m, hm⟩ : ∃ m, lenC r.s o = m := ⟨_, rfl⟩
 have HZ2 : Hid (z = decide (0 < m)) := by
  rw [← HZ.out, ← hm]
  show canR r.s _ = _
  unfold canR lenC
  cases lk r.s.C o <;> simp
 rw [hm] at CA
 clear HS H7 HR HZ hm
 go_enter Tryd.func94, Tryd.ntmps94
 go_wp2_with fail
 generalize w.alloc _ = w1 at *
 obtain ⟨q0, q1, q2, q3, q4, q5, q6⟩ := V0.out.all
 have u0 := u0.out
 refine ZT 6 ZU (by kernel_rfl) ?_
 simp only [List.take_succ_cons, List.take_zero, List.drop_succ_cons, List.drop_zero]
 repeat (first | go_big_quiet_skip | (go_big_quiet_want; go_big_quiet_op; go_big_quiet_on))
 refine wpQuiet_nil ?_
 go_wp2_with fail
 refine (CA.out).mono ?_
 rintro e w2 ⟨rfl, hb⟩
 replace hb : Below w1.heap.size w1 w2 := ⟨hb.os, hb.tape, hb.output, hb.size, hb.block⟩
 have B2 := Za (Zi B0.out hb)
 clear hb
 go_wp2_with fail
 go_ret
 exact Vb.mk (by rw [HZ2.out]; rfl) B2.out
theorem can_7 {w : World} {G : Nat -> Prop} {g : Nat} {S : List (List Wt)} {r : Rm} {p : List Addr} (h : Rn w G g S r) (h17 : E2 w p) (i : Nat) (x : Gr) (hx : r.gs[i]? = some x) (hk : x.w.k = 7) : Calls Tryd.prog 94 #[.pointer (some ⟨g, 0, none⟩), .int .i64 (i : Nat)] w (Vb w (.bool (ZX r x.w))) := by
 have HR := Za h
 obtain ⟨Fs, Fo, R, gs, vC, vB, vG, vE, ps, ts, h, hG⟩ := h
 obtain ⟨bG, cG, b, t, va, eG, _, _, _, _, _, hA, ⟨s1, s2, s3⟩, s4⟩ := h.see hx
 subst eG
 obtain ⟨aa, na, ca, rfl⟩ := hA.form
 clear hA
 have hi : i < r.gs.length := (List.getElem?_eq_some_iff.1 hx).1
 have hn8 := h.n8
 obtain ⟨⟨c0, c1, c2, c3, c4⟩, c5, c6, c7, c8, c9⟩ := h.cells
 have hgl := h.fb g h.fg
 obtain ⟨rest, ⟨k, o, a, v0, v1, v2⟩⟩ := x
 simp only at s4
 have b1 := Zb s4 1 _ rfl
 have b2 := Zb s4 2 _ rfl
 have b3 := Zb s4 3 _ rfl
 have b4 := Zb s4 4 _ rfl
 have b5 := Zb s4 5 _ rfl
 have b6 := Zb s4 6 _ rfl
 have b7 := Zb s4 7 _ rfl
 obtain ⟨n, hn⟩ : ∃ n, n = r.gs.length := ⟨_, rfl⟩
 rw [← hn] at hi hn8 c3
 have HN := Za hn
 have hi1 : (i : Int) < (n : Int) := by omega
 have hi0 : (0 : Int) <= (i : Int) := by omega
 have hd0 : decide ((i : Int) < 0) = false := by simp
 have hd1 : decide ((n : Int) <= (i : Int)) = false := by simp; omega
 clear hn
 have HS := Za h.st
 have hsl := h.st.lt
 have H7 := Za h17
 clear h hG h17
 simp only at hk
 subst hk
 have B0 := Za (Zd w (.cells #[.int .i64 7, .int .i64 o, .int .i64 a, .int .i64 v0, .int .i64 v1, .int .u64 v2, .slice aa na ca] 135))
 have V0 := Za (Wv.new w 7 o a v0 v1 v2 (.slice aa na ca))
 have u0 := Za ((B0.out.cell (p := ⟨g, 0, none⟩) hgl).trans c0)
 obtain ⟨z, hz⟩ : ∃ z, ZX r ⟨7, o, a, (v0, v1, v2)⟩ = z := ⟨_, rfl⟩
 rw [hz]
 have HZ := Za hz
 clear hz
 have CA := Za (canCount_any ((HS.out.bel B0.out).bel (below_drewN (Below.refl _ _) 1)) ((H7.out.below (Nat.le_refl _) B0.out).below (Nat.le_refl _) (below_drewN (Below.refl _ _) 1)) 7 o a v0 v1 v2 (.slice aa na ca))
 clear HS H7 HR
 go_enter Tryd.func94, Tryd.ntmps94
 go_wp2_with fail
 generalize w.alloc _ = w1 at *
 obtain ⟨q0, q1, q2, q3, q4, q5, q6⟩ := V0.out.all
 have u0 := u0.out
 refine ZT 5 ZU (by kernel_rfl) ?_
 simp only [List.take_succ_cons, List.take_zero, List.drop_succ_cons, List.drop_zero]
 repeat (first | go_big_quiet_skip | (go_big_quiet_want; go_big_quiet_op; go_big_quiet_on))
 refine wpQuiet_nil ?_
 go_wp2_with fail
 refine (CA.out).mono ?_
 rintro e w2 ⟨rfl, hb⟩
 replace hb : Below w1.heap.size w1 w2 := ⟨hb.os, hb.tape, hb.output, hb.size, hb.block⟩
 have B2 := Za (Zi B0.out hb)
 clear hb
 go_wp2_with fail
 go_ret
 exact Vb.mk (by rw [← HZ.out]; rfl) B2.out
theorem can_8 {w : World} {G : Nat -> Prop} {g : Nat} {S : List (List Wt)} {r : Rm} {p : List Addr} (h : Rn w G g S r) (h17 : E2 w p) (i : Nat) (x : Gr) (hx : r.gs[i]? = some x) (hk : x.w.k = 8) : Calls Tryd.prog 94 #[.pointer (some ⟨g, 0, none⟩), .int .i64 (i : Nat)] w (Vb w (.bool (ZX r x.w))) := by
 have HR := Za h
 obtain ⟨Fs, Fo, R, gs, vC, vB, vG, vE, ps, ts, h, hG⟩ := h
 obtain ⟨bG, cG, b, t, va, eG, _, _, _, _, _, hA, ⟨s1, s2, s3⟩, s4⟩ := h.see hx
 subst eG
 obtain ⟨aa, na, ca, rfl⟩ := hA.form
 clear hA
 have hi : i < r.gs.length := (List.getElem?_eq_some_iff.1 hx).1
 have hn8 := h.n8
 obtain ⟨⟨c0, c1, c2, c3, c4⟩, c5, c6, c7, c8, c9⟩ := h.cells
 have hgl := h.fb g h.fg
 obtain ⟨rest, ⟨k, o, a, v0, v1, v2⟩⟩ := x
 simp only at s4
 have b1 := Zb s4 1 _ rfl
 have b2 := Zb s4 2 _ rfl
 have b3 := Zb s4 3 _ rfl
 have b4 := Zb s4 4 _ rfl
 have b5 := Zb s4 5 _ rfl
 have b6 := Zb s4 6 _ rfl
 have b7 := Zb s4 7 _ rfl
 obtain ⟨n, hn⟩ : ∃ n, n = r.gs.length := ⟨_, rfl⟩
 rw [← hn] at hi hn8 c3
 have HN := Za hn
 have hi1 : (i : Int) < (n : Int) := by omega
 have hi0 : (0 : Int) <= (i : Int) := by omega
 have hd0 : decide ((i : Int) < 0) = false := by simp
 have hd1 : decide ((n : Int) <= (i : Int)) = false := by simp; omega
 clear hn
 have HS := Za h.st
 have hsl := h.st.lt
 have H7 := Za h17
 clear h hG h17
 simp only at hk
 subst hk
 have B0 := Za (Zd w (.cells #[.int .i64 8, .int .i64 o, .int .i64 a, .int .i64 v0, .int .i64 v1, .int .u64 v2, .slice aa na ca] 135))
 have V0 := Za (Wv.new w 8 o a v0 v1 v2 (.slice aa na ca))
 have u0 := Za ((B0.out.cell (p := ⟨g, 0, none⟩) hgl).trans c0)
 obtain ⟨z, hz⟩ : ∃ z, ZX r ⟨8, o, a, (v0, v1, v2)⟩ = z := ⟨_, rfl⟩
 rw [hz]
 have HZ := Za hz
 clear hz
 have CA := Za (canCount_any ((HS.out.bel B0.out).bel (below_drewN (Below.refl _ _) 1)) ((H7.out.below (Nat.le_refl _) B0.out).below (Nat.le_refl _) (below_drewN (Below.refl _ _) 1)) 8 o a v0 v1 v2 (.slice aa na ca))
 clear HS H7 HR
 go_enter Tryd.func94, Tryd.ntmps94
 go_wp2_with fail
 generalize w.alloc _ = w1 at *
 obtain ⟨q0, q1, q2, q3, q4, q5, q6⟩ := V0.out.all
 have u0 := u0.out
 refine ZT 5 ZU (by kernel_rfl) ?_
 simp only [List.take_succ_cons, List.take_zero, List.drop_succ_cons, List.drop_zero]
 repeat (first | go_big_quiet_skip | (go_big_quiet_want; go_big_quiet_op; go_big_quiet_on))
 refine wpQuiet_nil ?_
 go_wp2_with fail
 refine (CA.out).mono ?_
 rintro e w2 ⟨rfl, hb⟩
 replace hb : Below w1.heap.size w1 w2 := ⟨hb.os, hb.tape, hb.output, hb.size, hb.block⟩
 have B2 := Za (Zi B0.out hb)
 clear hb
 go_wp2_with fail
 go_ret
 exact Vb.mk (by rw [← HZ.out]; rfl) B2.out
theorem can_9 {w : World} {G : Nat -> Prop} {g : Nat} {S : List (List Wt)} {r : Rm} {p : List Addr} (h : Rn w G g S r) (h17 : E2 w p) (i : Nat) (x : Gr) (hx : r.gs[i]? = some x) (hk : x.w.k = 9) : Calls Tryd.prog 94 #[.pointer (some ⟨g, 0, none⟩), .int .i64 (i : Nat)] w (Vb w (.bool (ZX r x.w))) := by
 have HR := Za h
 obtain ⟨Fs, Fo, R, gs, vC, vB, vG, vE, ps, ts, h, hG⟩ := h
 obtain ⟨bG, cG, b, t, va, eG, _, _, _, _, _, hA, ⟨s1, s2, s3⟩, s4⟩ := h.see hx
 subst eG
 obtain ⟨aa, na, ca, rfl⟩ := hA.form
 clear hA
 have hi : i < r.gs.length := (List.getElem?_eq_some_iff.1 hx).1
 have hn8 := h.n8
 obtain ⟨⟨c0, c1, c2, c3, c4⟩, c5, c6, c7, c8, c9⟩ := h.cells
 have hgl := h.fb g h.fg
 obtain ⟨rest, ⟨k, o, a, v0, v1, v2⟩⟩ := x
 simp only at s4
 have b1 := Zb s4 1 _ rfl
 have b2 := Zb s4 2 _ rfl
 have b3 := Zb s4 3 _ rfl
 have b4 := Zb s4 4 _ rfl
 have b5 := Zb s4 5 _ rfl
 have b6 := Zb s4 6 _ rfl
 have b7 := Zb s4 7 _ rfl
 obtain ⟨n, hn⟩ : ∃ n, n = r.gs.length := ⟨_, rfl⟩
 rw [← hn] at hi hn8 c3
 have HN := Za hn
 have hi1 : (i : Int) < (n : Int) := by omega
 have hi0 : (0 : Int) <= (i : Int) := by omega
 have hd0 : decide ((i : Int) < 0) = false := by simp
 have hd1 : decide ((n : Int) <= (i : Int)) = false := by simp; omega
 clear hn
 have HS := Za h.st
 have hsl := h.st.lt
 have H7 := Za h17
 clear h hG h17
 simp only at hk
 subst hk
 have B0 := Za (Zd w (.cells #[.int .i64 9, .int .i64 o, .int .i64 a, .int .i64 v0, .int .i64 v1, .int .u64 v2, .slice aa na ca] 135))
 have V0 := Za (Wv.new w 9 o a v0 v1 v2 (.slice aa na ca))
 have u0 := Za ((B0.out.cell (p := ⟨g, 0, none⟩) hgl).trans c0)
 obtain ⟨z, hz⟩ : ∃ z, ZX r ⟨9, o, a, (v0, v1, v2)⟩ = z := ⟨_, rfl⟩
 rw [hz]
 have HZ := Za hz
 clear hz
 have CA := Za (canCount_any ((HS.out.bel B0.out).bel (below_drewN (Below.refl _ _) 1)) ((H7.out.below (Nat.le_refl _) B0.out).below (Nat.le_refl _) (below_drewN (Below.refl _ _) 1)) 9 o a v0 v1 v2 (.slice aa na ca))
 clear HS H7 HR
 go_enter Tryd.func94, Tryd.ntmps94
 go_wp2_with fail
 generalize w.alloc _ = w1 at *
 obtain ⟨q0, q1, q2, q3, q4, q5, q6⟩ := V0.out.all
 have u0 := u0.out
 refine ZT 5 ZU (by kernel_rfl) ?_
 simp only [List.take_succ_cons, List.take_zero, List.drop_succ_cons, List.drop_zero]
 repeat (first | go_big_quiet_skip | (go_big_quiet_want; go_big_quiet_op; go_big_quiet_on))
 refine wpQuiet_nil ?_
 go_wp2_with fail
 refine (CA.out).mono ?_
 rintro e w2 ⟨rfl, hb⟩
 replace hb : Below w1.heap.size w1 w2 := ⟨hb.os, hb.tape, hb.output, hb.size, hb.block⟩
 have B2 := Za (Zi B0.out hb)
 clear hb
 go_wp2_with fail
 go_ret
 exact Vb.mk (by rw [← HZ.out]; rfl) B2.out
theorem can_10 {w : World} {G : Nat -> Prop} {g : Nat} {S : List (List Wt)} {r : Rm} {p : List Addr} (h : Rn w G g S r) (h17 : E2 w p) (i : Nat) (x : Gr) (hx : r.gs[i]? = some x) (hk : x.w.k = 10) : Calls Tryd.prog 94 #[.pointer (some ⟨g, 0, none⟩), .int .i64 (i : Nat)] w (Vb w (.bool (ZX r x.w))) := by
 have HR := Za h
 obtain ⟨Fs, Fo, R, gs, vC, vB, vG, vE, ps, ts, h, hG⟩ := h
 obtain ⟨bG, cG, b, t, va, eG, _, _, _, _, _, hA, ⟨s1, s2, s3⟩, s4⟩ := h.see hx
 subst eG
 obtain ⟨aa, na, ca, rfl⟩ := hA.form
 clear hA
 have hi : i < r.gs.length := (List.getElem?_eq_some_iff.1 hx).1
 have hn8 := h.n8
 obtain ⟨⟨c0, c1, c2, c3, c4⟩, c5, c6, c7, c8, c9⟩ := h.cells
 have hgl := h.fb g h.fg
 obtain ⟨rest, ⟨k, o, a, v0, v1, v2⟩⟩ := x
 simp only at s4
 have b1 := Zb s4 1 _ rfl
 have b2 := Zb s4 2 _ rfl
 have b3 := Zb s4 3 _ rfl
 have b4 := Zb s4 4 _ rfl
 have b5 := Zb s4 5 _ rfl
 have b6 := Zb s4 6 _ rfl
 have b7 := Zb s4 7 _ rfl
 obtain ⟨n, hn⟩ : ∃ n, n = r.gs.length := ⟨_, rfl⟩
 rw [← hn] at hi hn8 c3
 have HN := Za hn
 have hi1 : (i : Int) < (n : Int) := by omega
 have hi0 : (0 : Int) <= (i : Int) := by omega
 have hd0 : decide ((i : Int) < 0) = false := by simp
 have hd1 : decide ((n : Int) <= (i : Int)) = false := by simp; omega
 clear hn
 have HS := Za h.st
 have hsl := h.st.lt
 have H7 := Za h17
 clear h hG h17
 simp only at hk
 subst hk
 have B0 := Za (Zd w (.cells #[.int .i64 10, .int .i64 o, .int .i64 a, .int .i64 v0, .int .i64 v1, .int .u64 v2, .slice aa na ca] 135))
 have V0 := Za (Wv.new w 10 o a v0 v1 v2 (.slice aa na ca))
 obtain ⟨z, hz⟩ : ∃ z, ZX r ⟨10, o, a, (v0, v1, v2)⟩ = z := ⟨_, rfl⟩
 rw [hz]
 have HZ := Za hz
 clear hz
 clear HS H7 HR
 go_enter Tryd.func94, Tryd.ntmps94
 go_wp2_with fail
 go_ret
 exact Vb.mk (by rw [← HZ.out]; rfl) B0.out
theorem can_11 {w : World} {G : Nat -> Prop} {g : Nat} {S : List (List Wt)} {r : Rm} {p : List Addr} (h : Rn w G g S r) (h17 : E2 w p) (i : Nat) (x : Gr) (hx : r.gs[i]? = some x) (hk : x.w.k = 11) : Calls Tryd.prog 94 #[.pointer (some ⟨g, 0, none⟩), .int .i64 (i : Nat)] w (Vb w (.bool (ZX r x.w))) := by
 have HR := Za h
 obtain ⟨Fs, Fo, R, gs, vC, vB, vG, vE, ps, ts, h, hG⟩ := h
 obtain ⟨bG, cG, b, t, va, eG, _, _, _, _, _, hA, ⟨s1, s2, s3⟩, s4⟩ := h.see hx
 subst eG
 obtain ⟨aa, na, ca, rfl⟩ := hA.form
 clear hA
 have hi : i < r.gs.length := (List.getElem?_eq_some_iff.1 hx).1
 have hn8 := h.n8
 obtain ⟨⟨c0, c1, c2, c3, c4⟩, c5, c6, c7, c8, c9⟩ := h.cells
 have hgl := h.fb g h.fg
 obtain ⟨rest, ⟨k, o, a, v0, v1, v2⟩⟩ := x
 simp only at s4
 have b1 := Zb s4 1 _ rfl
 have b2 := Zb s4 2 _ rfl
 have b3 := Zb s4 3 _ rfl
 have b4 := Zb s4 4 _ rfl
 have b5 := Zb s4 5 _ rfl
 have b6 := Zb s4 6 _ rfl
 have b7 := Zb s4 7 _ rfl
 obtain ⟨n, hn⟩ : ∃ n, n = r.gs.length := ⟨_, rfl⟩
 rw [← hn] at hi hn8 c3
 have HN := Za hn
 have hi1 : (i : Int) < (n : Int) := by omega
 have hi0 : (0 : Int) <= (i : Int) := by omega
 have hd0 : decide ((i : Int) < 0) = false := by simp
 have hd1 : decide ((n : Int) <= (i : Int)) = false := by simp; omega
 clear hn
 have HS := Za h.st
 have hsl := h.st.lt
 have H7 := Za h17
 clear h hG h17
 simp only at hk
 subst hk
 have B0 := Za (Zd w (.cells #[.int .i64 11, .int .i64 o, .int .i64 a, .int .i64 v0, .int .i64 v1, .int .u64 v2, .slice aa na ca] 135))
 have V0 := Za (Wv.new w 11 o a v0 v1 v2 (.slice aa na ca))
 obtain ⟨z, hz⟩ : ∃ z, ZX r ⟨11, o, a, (v0, v1, v2)⟩ = z := ⟨_, rfl⟩
 rw [hz]
 have HZ := Za hz
 clear hz
 clear HS H7 HR
 go_enter Tryd.func94, Tryd.ntmps94
 go_wp2_with fail
 go_ret
 exact Vb.mk (by rw [← HZ.out]; rfl) B0.out
theorem can_12 {w : World} {G : Nat -> Prop} {g : Nat} {S : List (List Wt)} {r : Rm} {p : List Addr} (h : Rn w G g S r) (h17 : E2 w p) (i : Nat) (x : Gr) (hx : r.gs[i]? = some x) (hk : x.w.k = 12) : Calls Tryd.prog 94 #[.pointer (some ⟨g, 0, none⟩), .int .i64 (i : Nat)] w (Vb w (.bool (ZX r x.w))) := by
 have HR := Za h
 obtain ⟨Fs, Fo, R, gs, vC, vB, vG, vE, ps, ts, h, hG⟩ := h
 obtain ⟨bG, cG, b, t, va, eG, _, _, _, _, _, hA, ⟨s1, s2, s3⟩, s4⟩ := h.see hx
 subst eG
 obtain ⟨aa, na, ca, rfl⟩ := hA.form
 clear hA
 have hi : i < r.gs.length := (List.getElem?_eq_some_iff.1 hx).1
 have hn8 := h.n8
 obtain ⟨⟨c0, c1, c2, c3, c4⟩, c5, c6, c7, c8, c9⟩ := h.cells
 have hgl := h.fb g h.fg
 obtain ⟨rest, ⟨k, o, a, v0, v1, v2⟩⟩ := x
 simp only at s4
 have b1 := Zb s4 1 _ rfl
 have b2 := Zb s4 2 _ rfl
 have b3 := Zb s4 3 _ rfl
 have b4 := Zb s4 4 _ rfl
 have b5 := Zb s4 5 _ rfl
 have b6 := Zb s4 6 _ rfl
 have b7 := Zb s4 7 _ rfl
 obtain ⟨n, hn⟩ : ∃ n, n = r.gs.length := ⟨_, rfl⟩
 rw [← hn] at hi hn8 c3
 have HN := Za hn
 have hi1 : (i : Int) < (n : Int) := by omega
 have hi0 : (0 : Int) <= (i : Int) := by omega
 have hd0 : decide ((i : Int) < 0) = false := by simp
 have hd1 : decide ((n : Int) <= (i : Int)) = false := by simp; omega
 clear hn
 have HS := Za h.st
 have hsl := h.st.lt
 have H7 := Za h17
 clear h hG h17
 simp only at hk
 subst hk
 have B0 := Za (Zd w (.cells #[.int .i64 12, .int .i64 o, .int .i64 a, .int .i64 v0, .int .i64 v1, .int .u64 v2, .slice aa na ca] 135))
 have V0 := Za (Wv.new w 12 o a v0 v1 v2 (.slice aa na ca))
 obtain ⟨z, hz⟩ : ∃ z, ZX r ⟨12, o, a, (v0, v1, v2)⟩ = z := ⟨_, rfl⟩
 rw [hz]
 have HZ := Za hz
 clear hz
 clear HS H7 HR
 go_enter Tryd.func94, Tryd.ntmps94
 go_wp2_with fail
 go_ret
 exact Vb.mk (by rw [← HZ.out]; rfl) B0.out
theorem can_none {w : World} {G : Nat -> Prop} {g : Nat} {S : List (List Wt)} {r : Rm} {p : List Addr} (h : Rn w G g S r) (h17 : E2 w p) (i : Nat) (x : Gr) (hx : r.gs[i]? = some x) (hk : x.w.k < 1 ∨ 12 < x.w.k) : Calls Tryd.prog 94 #[.pointer (some ⟨g, 0, none⟩), .int .i64 (i : Nat)] w (Vb w (.bool (ZX r x.w))) := by
 have HR := Za h
 obtain ⟨Fs, Fo, R, gs, vC, vB, vG, vE, ps, ts, h, hG⟩ := h
 obtain ⟨bG, cG, b, t, va, eG, _, _, _, _, _, hA, ⟨s1, s2, s3⟩, s4⟩ := h.see hx
 subst eG
 obtain ⟨aa, na, ca, rfl⟩ := hA.form
 clear hA
 have hi : i < r.gs.length := (List.getElem?_eq_some_iff.1 hx).1
 have hn8 := h.n8
 obtain ⟨⟨c0, c1, c2, c3, c4⟩, c5, c6, c7, c8, c9⟩ := h.cells
 have hgl := h.fb g h.fg
 obtain ⟨rest, ⟨k, o, a, v0, v1, v2⟩⟩ := x
 simp only at s4
 have b1 := Zb s4 1 _ rfl
 have b2 := Zb s4 2 _ rfl
 have b3 := Zb s4 3 _ rfl
 have b4 := Zb s4 4 _ rfl
 have b5 := Zb s4 5 _ rfl
 have b6 := Zb s4 6 _ rfl
 have b7 := Zb s4 7 _ rfl
 obtain ⟨n, hn⟩ : ∃ n, n = r.gs.length := ⟨_, rfl⟩
 rw [← hn] at hi hn8 c3
 have HN := Za hn
 have hi1 : (i : Int) < (n : Int) := by omega
 have hi0 : (0 : Int) <= (i : Int) := by omega
 have hd0 : decide ((i : Int) < 0) = false := by simp
 have hd1 : decide ((n : Int) <= (i : Int)) = false := by simp; omega
 clear hn
 have HS := Za h.st
 have hsl := h.st.lt
 have H7 := Za h17
 clear h hG h17
 have B0 := Za (Zd w (.cells #[.int .i64 k, .int .i64 o, .int .i64 a, .int .i64 v0, .int .i64 v1, .int .u64 v2, .slice aa na ca] 135))
 have V0 := Za (Wv.new w k o a v0 v1 v2 (.slice aa na ca))
 simp only at hk
 obtain ⟨z, hz⟩ : ∃ z, ZX r ⟨k, o, a, (v0, v1, v2)⟩ = z := ⟨_, rfl⟩
 rw [hz]
 have HZ := Za hz
 clear hz
 have hk1 : (k == 1) = false := by simp; omega
 have hk2 : (k == 2) = false := by simp; omega
 have hk3 : (k == 3) = false := by simp; omega
 have hk4 : (k == 4) = false := by simp; omega
 have hk5 : (k == 5) = false := by simp; omega
 have hk6 : (k == 6) = false := by simp; omega
 have hk7 : (k == 7) = false := by simp; omega
 have hk8 : (k == 8) = false := by simp; omega
 have hk9 : (k == 9) = false := by simp; omega
 have hk10 : (k == 10) = false := by simp; omega
 have hk11 : (k == 11) = false := by simp; omega
 have hk12 : (k == 12) = false := by simp; omega
 have hz2 : z = false := by
  rw [← HZ.out]
  simp only [ZX, beq_eq_false_iff_ne] at *
  simp [*]
 have HZ2 := Za hz2
 clear hz2
 clear HS H7 HR HZ hk
 go_enter Tryd.func94, Tryd.ntmps94
 go_wp2_with fail
 go_ret
 exact Vb.mk (by rw [HZ2.out]; rfl) B0.out
theorem can_out {w : World} {G : Nat -> Prop} {g : Nat} {S : List (List Wt)} {r : Rm} (h : Rn w G g S r) (i : Int) (hi : i < 0 ∨ (r.gs.length : Int) <= i) : Calls Tryd.prog 94 #[.pointer (some ⟨g, 0, none⟩), .int .i64 i] w (Vb w (.bool false)) := by
 obtain ⟨Fs, Fo, R, gs, vC, vB, vG, vE, ps, ts, h, hG⟩ := h
 have c3 := h.cells.1.2.2.2.1
 obtain ⟨a, cG, e, _⟩ := Zo h.go
 subst e
 have hgl := h.fb g h.fg
 obtain ⟨n, hn⟩ : ∃ n, n = r.gs.length := ⟨_, rfl⟩
 rw [← hn] at c3 hi
 clear h hn hG
 by_cases h0 : i < 0
 · have hd0 : decide (i < 0) = true := by simp [h0]
   clear hi
   go_enter Tryd.func94, Tryd.ntmps94
   go_wp2_with fail
   go_ret
   exact Vb.mk rfl (Below.refl _ _)
 · have h1 : (n : Int) <= i := by omega
   have h2 : 0 <= i := by omega
   have hd0 : decide (i < 0) = false := by simp; omega
   have hd1 : decide ((n : Int) <= i) = true := by simp [h1]
   clear hi h0
   go_enter Tryd.func94, Tryd.ntmps94
   go_wp2_with fail
   go_ret
   exact Vb.mk rfl (Below.refl _ _)
theorem canRun_any {w : World} {G : Nat -> Prop} {g : Nat} {S : List (List Wt)} {r : Rm} {p : List Addr} (h : Rn w G g S r) (h17 : E2 w p) (i : Int) : Calls Tryd.prog 94 #[.pointer (some ⟨g, 0, none⟩), .int .i64 i] w (Vb w (.bool (can r i))) := by
 unfold can
 cases hl : lk r.gs i with
 | none => exact can_out h i (Yv hl)
 | some x =>
  obtain ⟨i, rfl, hx⟩ := ZI hl
  simp only
  by_cases h0 : x.w.k < 1 ∨ 12 < x.w.k
  · exact can_none h h17 i x hx h0
  have hk : x.w.k = 1 ∨ x.w.k = 2 ∨ x.w.k = 3 ∨ x.w.k = 4 ∨ x.w.k = 5 ∨ x.w.k = 6 ∨ x.w.k = 7 ∨ x.w.k = 8 ∨ x.w.k = 9 ∨ x.w.k = 10 ∨ x.w.k = 11 ∨ x.w.k = 12 := by omega
  rcases hk with hk | hk | hk | hk | hk | hk | hk | hk | hk | hk | hk | hk
  · exact can_1 h h17 i x hx hk
  · exact can_2 h h17 i x hx hk
  · exact can_3 h h17 i x hx hk
  · exact can_4 h h17 i x hx hk
  · exact can_5 h h17 i x hx hk
  · exact can_6 h h17 i x hx hk
  · exact can_7 h h17 i x hx hk
  · exact can_8 h h17 i x hx hk
  · exact can_9 h h17 i x hx hk
  · exact can_10 h h17 i x hx hk
  · exact can_11 h h17 i x hx hk
  · exact can_12 h h17 i x hx hk
theorem outR_run {r : Rm} {k : Nat} {x : Gr} (hx : r.gs[k]? = some x) (hc : ZX r x.w = true) : outR r = 0 := by
 unfold outR
 rw [if_pos]
 rw [List.any_eq_true]
 exact ⟨x, List.mem_of_getElem? hx, hc⟩
theorem outR_end {r : Rm} (h : ∀ (j : Nat) (x : Gr), r.gs[j]? = some x -> ZX r x.w = false) : outR r = if r.gs.any (fun x => x.w.k != 0) then 2 else 1 := by
 unfold outR
 rw [if_neg]
 rw [List.any_eq_true]
 rintro ⟨x, hx, hc⟩
 obtain ⟨j, hj, rfl⟩ := List.mem_iff_getElem.1 hx
 have := h j _ (List.getElem?_eq_getElem hj)
 rw [this] at hc
 cases hc
theorem can_at {r : Rm} {k : Nat} {x : Gr} (hx : r.gs[k]? = some x) : can r (k : Int) = ZX r x.w := by
 unfold can
 rw [lk_nat, hx]
def kd (gs : List Gr) (k : Nat) : Int := if (gs.take k).any (fun x => x.w.k != 0) then 2 else 1
theorem kd_yes {gs : List Gr} {k : Nat} {x : Gr} (hx : gs[k]? = some x) (h : x.w.k ≠ 0) : kd gs (k + 1) = 2 := by
 unfold kd
 rw [List.take_add_one, hx, List.any_append]
 simp [h]
theorem kd_no {gs : List Gr} {k : Nat} {x : Gr} (hx : gs[k]? = some x) (h : x.w.k = 0) : kd gs (k + 1) = kd gs k := by
 unfold kd
 rw [List.take_add_one, hx, List.any_append]
 simp [h]
theorem outcome_any {w : World} {G : Nat -> Prop} {g : Nat} {S : List (List Wt)} {r : Rm} {p : List Addr} (h : Rn w G g S r) (h17 : E2 w p) : Calls Tryd.prog 75 #[.pointer (some ⟨g, 0, none⟩)] w (Vb w (.int .i64 (outR r))) := by
  have HR := Za h
  have H7 := Za h17
  obtain ⟨Fs, Fo, R, gs, vC, vB, vG, vE, ps, ts, h, hG⟩ := h
  obtain ⟨a, cG, e, _⟩ := Zo h.go
  subst e
  have hac : Hid (∀ (i : Nat) (x : Gr), r.gs[i]? = some x -> ∃ bG b, a = some ⟨bG, 0, none⟩ /\ bG < w.heap.size /\ b < w.heap.size /\ w.cell? ⟨bG, i, none⟩ = some (.pointer (some ⟨b, 0, none⟩)) /\ w.cell? ⟨b, 1, none⟩ = some (.int .i64 x.w.k)) := Za fun i x hx => by
    obtain ⟨bG, c', b, t, va, e1, _, _, _, _, _, _, ⟨q1, q2, q3⟩, q4⟩ := h.see hx
    cases e1
    exact ⟨bG, b, rfl, q2, q3, q1, Zb q4 1 _ rfl⟩
  have c3 := h.cells.1.2.2.2.1
  have hgl := h.fb g h.fg
  have hn8 := h.n8
  obtain ⟨n, hn⟩ : ∃ n, n = r.gs.length := ⟨_, rfl⟩
  rw [← hn] at c3 hn8
  have HN := Za hn
  obtain ⟨ou, hou⟩ : ∃ ou, outR r = ou := ⟨_, rfl⟩
  rw [hou]
  have HO := Za hou
  clear h h17 hG hn hou
  go_enter Tryd.func75, Tryd.ntmps75
  go_wp2_with fail
  go_loopw [3, 4, 5, 11] (fun x3 x4 x5 i wr => ∃ (k : Nat) (m : Int), k <= n /\ i = .int .i64 k /\ x3 = .int .i64 m /\ Hid (m = kd r.gs k) /\ Hid (∀ j x, j < k -> r.gs[j]? = some x -> ZX r x.w = false) /\ Hid (Below w.heap.size w wr)) (fun x3 x4 x5 i _ => n - (intOf i).toNat)
  case atStart => exact ⟨0, 1, Nat.zero_le _, rfl, rfl, Za rfl, fun j x hj => absurd hj (Nat.not_lt_zero _), Below.refl _ _⟩
  case round =>
    obtain ⟨k, m, hk, rfl, rfl, hm, hall, hbel⟩ := hrel
    by_cases hlt : k < n
    · obtain ⟨x, hx⟩ : ∃ x, r.gs[k]? = some x := ⟨_, List.getElem?_eq_getElem (by rw [← HN.out]; exact hlt)⟩
      obtain ⟨bG, b, rfl, hbG, hb, hc1, hc2⟩ := hac.out k x hx
      rw [← hbel.out.cell (p := ⟨bG, k, none⟩) hbG] at hc1
      have h1 : (k : Int) < (n : Int) := by omega
      have CR := Za (canRun_any (HR.out.bel hbel.out) (H7.out.below (Nat.le_refl _) hbel.out) (k : Int))
      rw [can_at hx] at CR
      have hrun := Za (fun hc => outR_run hx hc)
      have hstep : Hid (ZX r x.w = false -> ∀ j y, j < k + 1 -> r.gs[j]? = some y -> ZX r y.w = false) := fun e j y hj hy => by
        by_cases ej : j = k
        · subst ej
          rw [hx] at hy
          cases hy
          exact e
        · exact hall.out j y (by omega) hy
      have hy := Za (fun h => kd_yes hx h)
      have hno := Za (fun h => kd_no hx h)
      have HC2 := Za hc2
      have HB := Za hb
      clear hall hc2 hac hb
      obtain ⟨rest, ⟨xk, xo, xa, xv⟩⟩ := x
      simp only at HC2 hy hno
      generalize ZX r ⟨xk, xo, xa, xv⟩ = z at *
      go_wp2_with fail
      refine CR.out.mono ?_
      rintro e w1 ⟨rfl, hb1⟩
      have hbel2 := Za (Zi hbel.out hb1)
      have hc2 := (hbel2.out.cell (p := ⟨b, 1, none⟩) HB.out).trans HC2.out
      clear hb1 CR
      cases z with
      | true =>
        have hr := Za (hrun.out rfl)
        clear hstep hrun
        go_wp2_with fail
        go_ret
        exact Vb.mk (by rw [← HO.out, hr.out]; rfl) hbel2.out
      | false =>
        have hr := Za (hstep.out rfl)
        clear hstep hrun
        by_cases h0 : xk = 0
        · subst h0
          have hno2 := Za (hno.out rfl)
          clear hno hy
          go_wp2_with fail
          go_roundw
          case rel => exact ⟨k + 1, m, by omega, by go_num, rfl, Za (hm.out.trans hno2.out.symm), hr, hbel2⟩
          case measure => simp [intOf]; omega
        · have hkb : (xk == 0) = false := by simp [h0]
          have hy2 := Za (hy.out h0)
          clear hno hy
          go_wp2_with fail
          go_roundw
          case rel => exact ⟨k + 1, 2, by omega, by go_num, rfl, Za hy2.out.symm, hr, hbel2⟩
          case measure => simp [intOf]; omega
    · have e : k = n := by omega
      subst e
      have he := Za (outR_end (r := r) fun j x hx => hall.out j x (by rw [HN.out]; exact (List.getElem?_eq_some_iff.1 hx).1) hx)
      clear hac hall
      go_wp2_with fail
      go_ret
      exact Vb.mk (by
        rw [← HO.out, he.out]
        have := hm.out
        unfold kd at this
        rw [HN.out, List.take_length] at this
        rw [← this]
        rfl) hbel.out
def EnV (e : En) : Value := .agg #[.int .i64 e.o, .int .i64 e.f, .int .i64 e.g, .int .i64 e.n, .int .i64 e.a]
theorem ret_en {fn : Func} {R : Ending -> World -> Prop} {a : Act} {w : World} {p : Tmp} (b : Nat) {e0 e1 e2 e3 e4 : Int} (hf : fn.results = #[.cell p 67]) (hp : a.tmps.getD p undef = .pointer (some ⟨b, 0, none⟩))
    (h : w.heap[b]? = some (.cells #[.int .i64 e0, .int .i64 e1, .int .i64 e2, .int .i64 e3, .int .i64 e4] 67 (0, 0))) (hdf : a.defers = []) (hR : R (.returned (.agg #[.int .i64 e0, .int .i64 e1, .int .i64 e2, .int .i64 e3, .int .i64 e4])) w) : bodyPost Tryd.prog fn R .ret a w :=
  bodyPost_ret (by
    have hp' : a.tmps[p]?.getD undef = .pointer (some ⟨b, 0, none⟩) := by simpa using hp
    have q0 := Zb h 0 _ rfl
    have q1 := Zb h 1 _ rfl
    have q2 := Zb h 2 _ rfl
    have q3 := Zb h 3 _ rfl
    have q4 := Zb h 4 _ rfl
    simp [results, hf, hp', go_sem, q0, q1, q2, q3, q4]) hdf hR
theorem set5 {w : World} {b : Nat} {T : TypeId} {y0 y1 y2 y3 y4 : Value} (h : w.heap[b]? = some (.cells #[y0, y1, y2, y3, y4] T (0, 0))) (x0 x1 x2 x3 x4 : Value) :
 (((((w.setCell ⟨b, 0, none⟩ x0).setCell ⟨b, 1, none⟩ x1).setCell ⟨b, 2, none⟩ x2).setCell ⟨b, 3, none⟩ x3).setCell ⟨b, 4, none⟩ x4).heap[b]? = some (.cells #[x0, x1, x2, x3, x4] T (0, 0)) :=
 heap_setCell_same _ _ _ _ _ _ (heap_setCell_same _ _ _ _ _ _ (heap_setCell_same _ _ _ _ _ _ (heap_setCell_same _ _ _ _ _ _ (heap_setCell_same _ _ _ _ _ _ h))))
theorem bel_set5 {w w2 : World} {N b : Nat} (h : Below N w w2) (hb : N <= b) (x0 x1 x2 x3 x4 : Value) : Below N w (((((w2.setCell ⟨b, 0, none⟩ x0).setCell ⟨b, 1, none⟩ x1).setCell ⟨b, 2, none⟩ x2).setCell ⟨b, 3, none⟩ x3).setCell ⟨b, 4, none⟩ x4) :=
 ((((h.setCell (p := ⟨b, 0, none⟩) hb x0).setCell (p := ⟨b, 1, none⟩) hb x1).setCell (p := ⟨b, 2, none⟩) hb x2).setCell (p := ⟨b, 3, none⟩) hb x3).setCell (p := ⟨b, 4, none⟩) hb x4
theorem End_any {w : World} {G : Nat -> Prop} {g : Nat} {S : List (List Wt)} {r : Rm} {p : List Addr} (h : Rn w G g S r) (h17 : E2 w p) : Calls Tryd.prog 29 #[.pointer (some ⟨g, 0, none⟩)] w (Vb w (EnV (endR r))) := by
 have B0 := Za (Zd w (.cells #[.int .i64 0, .int .i64 0, .int .i64 0, .int .i64 0, .int .i64 0] 67))
 have V0 := Za (B_ w (.cells #[.int .i64 0, .int .i64 0, .int .i64 0, .int .i64 0, .int .i64 0] 67))
 have OU := Za (outcome_any (h.bel B0.out) (h17.below (Nat.le_refl _) B0.out))
 obtain ⟨Fs, Fo, R, gs, vC, vB, vG, vE, ps, ts, h, hG⟩ := h
 obtain ⟨_, c5, c6, c7, c8, c9⟩ := h.cells
 have hgl := h.fb g h.fg
 unfold endR EnV
 by_cases h0 : r.e.o = 0
 · rw [if_pos h0]
   rw [h0] at c5
   simp only
   clear h h17 hG h0 c6 c7 c8 c9
   go_enter Tryd.func29, Tryd.ntmps29
   go_wp2_with fail
   refine OU.out.mono ?_
   rintro e w1 ⟨rfl, hb⟩
   have X1 : Hid (w1.heap[w.heap.size]? = some (.cells #[.int .i64 0, .int .i64 0, .int .i64 0, .int .i64 0, .int .i64 0] 67 (0, 0))) := Za ((hb.block _ (Ze V0.out)).trans V0.out)
   have q0 := Zb X1.out 0 _ rfl
   have q1 := Zb X1.out 1 _ rfl
   have q2 := Zb X1.out 2 _ rfl
   have q3 := Zb X1.out 3 _ rfl
   have q4 := Zb X1.out 4 _ rfl
   have f0 := Zc X1.out 0
   have f1 := Zc X1.out 1
   have f2 := Zc X1.out 2
   have f3 := Zc X1.out 3
   have f4 := Zc X1.out 4
   have B1 := Za (Zi B0.out hb)
   clear hb OU
   go_wp2_with fail
   exact ret_en w.heap.size rfl rfl (set5 X1.out _ _ _ _ _) rfl (Vb.mk rfl (bel_set5 B1.out (Nat.le_refl _) _ _ _ _ _))
 · rw [if_neg h0]
   have hb0 : (r.e.o == 0) = false := by simp [h0]
   clear h h17 hG h0 OU
   obtain ⟨s_, gs_, ev_, ⟨e0, e1, e2, e3, e4⟩⟩ := r
   simp only at *
   go_enter Tryd.func29, Tryd.ntmps29
   go_wp2_with fail
   exact ret_en w.heap.size rfl rfl (B_ w _) rfl (Vb.mk rfl (Zd _ _))
theorem enf0 (a b c d e : Value) (w : World) : (Instr.field 67 (.agg #[a, b, c, d, e]) 0).run Tryd.prog w = .ok a w := by kernel_rfl
theorem ended_any {w : World} {G : Nat -> Prop} {g : Nat} {S : List (List Wt)} {r : Rm} {p : List Addr} (h : Rn w G g S r) (h17 : E2 w p) : Calls Tryd.prog 71 #[.pointer (some ⟨g, 0, none⟩)] w (Vb w (.bool (!Yz r))) := by
 have E := Za (End_any h h17)
 have hf := enf0
 obtain ⟨z, hz⟩ : ∃ z, endR r = z := ⟨_, rfl⟩
 have hr : Yz r = (z.o == 0) := by unfold Yz; rw [hz]
 rw [hz] at E
 rw [hr]
 obtain ⟨e0, e1, e2, e3, e4⟩ := z
 unfold EnV at E
 simp only at *
 clear h h17 hz hr
 go_enter Tryd.func71, Tryd.ntmps71
 go_wp2_with fail
 refine E.out.mono ?_
 rintro e w1 ⟨rfl, hb⟩
 go_wp2_with fail
 go_ret
 exact Vb.mk rfl hb
theorem Count_any {w : World} {G : Nat -> Prop} {g : Nat} {S : List (List Wt)} {r : Rm} (h : Rn w G g S r) : Calls Tryd.prog 31 #[.pointer (some ⟨g, 0, none⟩)] w fun e w' => e = .returned (.int .i64 (r.ev.length : Nat)) /\ w = w' := by
 obtain ⟨Fs, Fo, R, gs, vC, vB, vG, vE, ps, ts, h, hG⟩ := h
 have c4 := h.cells.1.2.2.2.2
 obtain ⟨a, cE, e, _⟩ := Zo h.ev
 subst e
 have hgl := h.fb g h.fg
 generalize r.ev.length = n at *
 clear h hG
 go_enter Tryd.func31, Tryd.ntmps31
 go_wp2_with fail
 go_ret
 exact ⟨rfl, rfl⟩
theorem cloneV2 {w : World} {src : Value} {n : Nat} {xs : List Value} (hs : w.ownsRow 0 41 3 src n xs) (hn : n <= 2000) (h1 : ∀ u ∈ xs, u.oneCell' = true) : Calls Tryd.prog 42 #[src] w (ClP w 41 3 n xs) := by
 rcases own_form hs with ⟨rfl, rfl⟩ | ⟨b, c, rfl, _⟩
 · have e : xs = [] := by have := hs.1; simpa using this
   subst e
   clear hs
   have hE : ∀ w, (binOp .eql 46 (.slice none 0 0) (.slice none 0 0)).run Tryd.prog w = .ok (.bool true) w := fun w => by kernel_rfl
   go_enter Tryd.func42, Tryd.ntmps42
   go_wp2_with fail
   go_ret
   exact ⟨_, _, rfl, World.ownsRow_nil _ _ _ _, Below.refl _ _⟩
 · have hb := Zd w (.cells #[] 41)
   have AP := Za (fun ty => app_copy (B := w.heap.size) Tryd.underlying46 info_val rfl (by decide) (B_ w (.cells #[] 41)) (Nat.le_refl _) (Zk hs (fun k hk => hb.block k (Zf hs hk).2.1)) (by omega) h1 hb.size ty)
   have HB := Za hb
   clear hs hb h1
   have hE : ∀ w, (binOp .eql 46 (.slice (some ⟨b, 0, none⟩) n c) (.slice none 0 0)).run Tryd.prog w = .ok (.bool false) w := fun w => by kernel_rfl
   go_enter Tryd.func42, Tryd.ntmps42
   go_wp2_with (first | (at_builtin; refine ZW (TS := 46) rfl (.tmp 5) (.tmp 6) rfl _ _ rfl rfl _ (AP.out _) ?_; rintro v9 w9 ⟨⟨a9, c9, rfl⟩, o9, b9, _⟩; have R9 := Za (And.intro o9 b9); clear o9 b9))
   go_ret
   exact ⟨_, _, rfl, R9.out.1, Zi HB.out R9.out.2⟩
def Ys (B : Nat) (w : World) (v : Value) : Prop := ∃ (a : Option Addr) (n c : Nat) (xs : List Value), v = .slice a n c /\ n <= 2000 /\ w.ownsRow B 41 3 v n xs /\ ∀ u ∈ xs, u.oneCell' = true
theorem Ys.args {B : Nat} {w : World} {v : Value} (h : Ys B w v) {R : Nat -> Prop} (hR : ∀ k, v.ownBlock = some k -> R k) : YA w R v := by
 obtain ⟨a, n, c, xs, e, h1, h2, h3⟩ := h
 exact ⟨n, xs, h1, own_zero h2, h3, hR⟩
theorem Ys.low {B B' : Nat} {w : World} {v : Value} (h : Ys B w v) (hB : B' <= B) : Ys B' w v := by
 obtain ⟨a, n, c, xs, e, h1, h2, h3⟩ := h
 exact ⟨a, n, c, xs, e, h1, own_low h2 hB, h3⟩
theorem Ys.at {B : Nat} {w : World} {v : Value} (h : Ys B w v) {k : Nat} (hk : v.ownBlock = some k) : B <= k /\ k < w.heap.size := by
 obtain ⟨a, n, c, xs, e, h1, h2, h3⟩ := h
 exact ⟨(Zf h2 hk).1, (Zf h2 hk).2.1⟩
theorem Ys.keep {B : Nat} {w w' : World} {v : Value} (h : Ys B w v) (hk : ∀ k, B <= k -> k < w.heap.size -> v.ownBlock = some k -> w'.heap[k]? = w.heap[k]?) : Ys B w' v := by
 obtain ⟨a, n, c, xs, e, h1, h2, h3⟩ := h
 exact ⟨a, n, c, xs, e, h1, Zk h2 fun k hk' => hk k (Zf h2 hk').1 (Zf h2 hk').2.1 hk', h3⟩
theorem Ys.al {B : Nat} {w w' : World} {v : Value} (h : Ys B w v) (hb : Below w.heap.size w w') : Ys B w' v := h.keep fun k _ hk _ => hb.block k hk
theorem ret_wt {fn : Func} {Q : Ending -> World -> Prop} {a : Act} {w : World} {p : Tmp} (b : Nat) {k o a_ : Int} {v : V3} {va : Value} (hf : fn.results = #[.cell p 135]) (hp : a.tmps.getD p undef = .pointer (some ⟨b, 0, none⟩)) (hva : ∃ x y z, va = .slice x y z)
    (h : Wv w b k o a_ v va) (hdf : a.defers = []) (hR : Q (.returned (.agg #[.int .i64 k, .int .i64 o, .int .i64 a_, .int .i64 v.1, .int .i64 v.2.1, .int .u64 v.2.2, va])) w) : bodyPost Tryd.prog fn Q .ret a w :=
  bodyPost_ret (by
    obtain ⟨x, y, z, rfl⟩ := hva
    have hp' : a.tmps[p]?.getD undef = .pointer (some ⟨b, 0, none⟩) := by simpa using hp
    obtain ⟨v0, v1, v2⟩ := v
    obtain ⟨q0, q1, q2, q3, q4, q5, q6⟩ := h.all
    simp [results, hf, hp', go_sem, q0, q1, q2, q3, q4, q5, q6]) hdf hR
theorem Wv.frz {w : World} {b : Nat} {k o a : Int} {v : V3} {va : Value} (h : Wv w b k o a v va) (i : Nat) : w.frozen? ⟨b, i, none⟩ = false := Zc h i
def set7 (w : World) (b o : Nat) (x0 x1 x2 x3 x4 x5 x6 : Value) : World := ((((((w.setCell ⟨b, o, none⟩ x0).setCell ⟨b, o + 1, none⟩ x1).setCell ⟨b, o + 2, none⟩ x2).setCell ⟨b, o + 3, none⟩ x3).setCell ⟨b, o + 4, none⟩ x4).setCell ⟨b, o + 5, none⟩ x5).setCell ⟨b, o + 6, none⟩ x6
theorem ZQ {w : World} {b : Nat} {T : TypeId} {y0 y1 y2 y3 y4 y5 y6 : Value} (h : w.heap[b]? = some (.cells #[y0, y1, y2, y3, y4, y5, y6] T (0, 0))) (x0 x1 x2 x3 x4 x5 x6 : Value) : (set7 w b 0 x0 x1 x2 x3 x4 x5 x6).heap[b]? = some (.cells #[x0, x1, x2, x3, x4, x5, x6] T (0, 0)) := by
 have h0 : (w.setCell ⟨b, 0, none⟩ x0).heap[b]? = some (.cells #[x0, y1, y2, y3, y4, y5, y6] T (0, 0)) := heap_setCell_same _ _ _ _ _ _ h
 have h1 : ((w.setCell ⟨b, 0, none⟩ x0).setCell ⟨b, 1, none⟩ x1).heap[b]? = some (.cells #[x0, x1, y2, y3, y4, y5, y6] T (0, 0)) := heap_setCell_same _ _ _ _ _ _ h0
 have h2 : (((w.setCell ⟨b, 0, none⟩ x0).setCell ⟨b, 1, none⟩ x1).setCell ⟨b, 2, none⟩ x2).heap[b]? = some (.cells #[x0, x1, x2, y3, y4, y5, y6] T (0, 0)) := heap_setCell_same _ _ _ _ _ _ h1
 have h3 : ((((w.setCell ⟨b, 0, none⟩ x0).setCell ⟨b, 1, none⟩ x1).setCell ⟨b, 2, none⟩ x2).setCell ⟨b, 3, none⟩ x3).heap[b]? = some (.cells #[x0, x1, x2, x3, y4, y5, y6] T (0, 0)) := heap_setCell_same _ _ _ _ _ _ h2
 have h4 : (((((w.setCell ⟨b, 0, none⟩ x0).setCell ⟨b, 1, none⟩ x1).setCell ⟨b, 2, none⟩ x2).setCell ⟨b, 3, none⟩ x3).setCell ⟨b, 4, none⟩ x4).heap[b]? = some (.cells #[x0, x1, x2, x3, x4, y5, y6] T (0, 0)) := heap_setCell_same _ _ _ _ _ _ h3
 have h5 : ((((((w.setCell ⟨b, 0, none⟩ x0).setCell ⟨b, 1, none⟩ x1).setCell ⟨b, 2, none⟩ x2).setCell ⟨b, 3, none⟩ x3).setCell ⟨b, 4, none⟩ x4).setCell ⟨b, 5, none⟩ x5).heap[b]? = some (.cells #[x0, x1, x2, x3, x4, x5, y6] T (0, 0)) := heap_setCell_same _ _ _ _ _ _ h4
 have h6 : (((((((w.setCell ⟨b, 0, none⟩ x0).setCell ⟨b, 1, none⟩ x1).setCell ⟨b, 2, none⟩ x2).setCell ⟨b, 3, none⟩ x3).setCell ⟨b, 4, none⟩ x4).setCell ⟨b, 5, none⟩ x5).setCell ⟨b, 6, none⟩ x6).heap[b]? = some (.cells #[x0, x1, x2, x3, x4, x5, x6] T (0, 0)) := heap_setCell_same _ _ _ _ _ _ h5
 exact h6
theorem set7_at1 {w : World} {b : Nat} {T : TypeId} {y y0 y1 y2 y3 y4 y5 y6 : Value} (h : w.heap[b]? = some (.cells #[y, y0, y1, y2, y3, y4, y5, y6] T (0, 0))) (x0 x1 x2 x3 x4 x5 x6 : Value) : (set7 w b 1 x0 x1 x2 x3 x4 x5 x6).heap[b]? = some (.cells #[y, x0, x1, x2, x3, x4, x5, x6] T (0, 0)) := by
 have h0 : (w.setCell ⟨b, 1, none⟩ x0).heap[b]? = some (.cells #[y, x0, y1, y2, y3, y4, y5, y6] T (0, 0)) := heap_setCell_same _ _ _ _ _ _ h
 have h1 : ((w.setCell ⟨b, 1, none⟩ x0).setCell ⟨b, 2, none⟩ x1).heap[b]? = some (.cells #[y, x0, x1, y2, y3, y4, y5, y6] T (0, 0)) := heap_setCell_same _ _ _ _ _ _ h0
 have h2 : (((w.setCell ⟨b, 1, none⟩ x0).setCell ⟨b, 2, none⟩ x1).setCell ⟨b, 3, none⟩ x2).heap[b]? = some (.cells #[y, x0, x1, x2, y3, y4, y5, y6] T (0, 0)) := heap_setCell_same _ _ _ _ _ _ h1
 have h3 : ((((w.setCell ⟨b, 1, none⟩ x0).setCell ⟨b, 2, none⟩ x1).setCell ⟨b, 3, none⟩ x2).setCell ⟨b, 4, none⟩ x3).heap[b]? = some (.cells #[y, x0, x1, x2, x3, y4, y5, y6] T (0, 0)) := heap_setCell_same _ _ _ _ _ _ h2
 have h4 : (((((w.setCell ⟨b, 1, none⟩ x0).setCell ⟨b, 2, none⟩ x1).setCell ⟨b, 3, none⟩ x2).setCell ⟨b, 4, none⟩ x3).setCell ⟨b, 5, none⟩ x4).heap[b]? = some (.cells #[y, x0, x1, x2, x3, x4, y5, y6] T (0, 0)) := heap_setCell_same _ _ _ _ _ _ h3
 have h5 : ((((((w.setCell ⟨b, 1, none⟩ x0).setCell ⟨b, 2, none⟩ x1).setCell ⟨b, 3, none⟩ x2).setCell ⟨b, 4, none⟩ x3).setCell ⟨b, 5, none⟩ x4).setCell ⟨b, 6, none⟩ x5).heap[b]? = some (.cells #[y, x0, x1, x2, x3, x4, x5, y6] T (0, 0)) := heap_setCell_same _ _ _ _ _ _ h4
 have h6 : (((((((w.setCell ⟨b, 1, none⟩ x0).setCell ⟨b, 2, none⟩ x1).setCell ⟨b, 3, none⟩ x2).setCell ⟨b, 4, none⟩ x3).setCell ⟨b, 5, none⟩ x4).setCell ⟨b, 6, none⟩ x5).setCell ⟨b, 7, none⟩ x6).heap[b]? = some (.cells #[y, x0, x1, x2, x3, x4, x5, x6] T (0, 0)) := heap_setCell_same _ _ _ _ _ _ h5
 exact h6
theorem ZC {w : World} {b o k : Nat} {x0 x1 x2 x3 x4 x5 x6 : Value} (h : k ≠ b) : (set7 w b o x0 x1 x2 x3 x4 x5 x6).heap[k]? = w.heap[k]? :=
 (Below.heap_setCell _ _ _ _ h).trans ((Below.heap_setCell _ _ _ _ h).trans ((Below.heap_setCell _ _ _ _ h).trans ((Below.heap_setCell _ _ _ _ h).trans ((Below.heap_setCell _ _ _ _ h).trans ((Below.heap_setCell _ _ _ _ h).trans (Below.heap_setCell _ _ _ _ h))))))
theorem ZZ {w : World} {b o : Nat} {x0 x1 x2 x3 x4 x5 x6 : Value} : (set7 w b o x0 x1 x2 x3 x4 x5 x6).heap.size = w.heap.size := by
 unfold set7
 simp only [Zg]
theorem ZK {w w2 : World} {N b o : Nat} {x0 x1 x2 x3 x4 x5 x6 : Value} (h : Below N w w2) (hb : N <= b) : Below N w (set7 w2 b o x0 x1 x2 x3 x4 x5 x6) :=
 ((((((h.setCell (p := ⟨b, o, none⟩) hb x0).setCell (p := ⟨b, o + 1, none⟩) hb x1).setCell (p := ⟨b, o + 2, none⟩) hb x2).setCell (p := ⟨b, o + 3, none⟩) hb x3).setCell (p := ⟨b, o + 4, none⟩) hb x4).setCell (p := ⟨b, o + 5, none⟩) hb x5).setCell (p := ⟨b, o + 6, none⟩) hb x6
def WclP (w : World) (k o a v0 v1 v2 : Int) (e : Ending) (w' : World) : Prop := ∃ va, e = .returned (.agg #[.int .i64 k, .int .i64 o, .int .i64 a, .int .i64 v0, .int .i64 v1, .int .u64 v2, va]) /\ Ys w.heap.size w' va /\ Below w.heap.size w w'
theorem wclone_any {w : World} {R : Nat -> Prop} (k o a v0 v1 v2 : Int) (va : Value) (hA : YA w R va) : Calls Tryd.prog 76 #[.agg #[.int .i64 k, .int .i64 o, .int .i64 a, .int .i64 v0, .int .i64 v1, .int .u64 v2, va]] w (WclP w k o a v0 v1 v2) := by
 obtain ⟨n, xs, hn, hs, h1, hR⟩ := hA
 obtain ⟨aa, ca, e, _⟩ := Zo hs
 subst e
 have B0 := Za (Zu (Zd w (.cells #[.int .i64 k, .int .i64 o, .int .i64 a, .int .i64 v0, .int .i64 v1, .int .u64 v2, .slice aa n ca] 135)) (.cells #[.int .i64 0, .int .i64 0, .int .i64 0, .int .i64 0, .int .i64 0, .int .u64 0, .slice none 0 0] 135))
 have V0 := Za ((Wv.new w k o a v0 v1 v2 (.slice aa n ca)).al (Zd _ (.cells #[.int .i64 0, .int .i64 0, .int .i64 0, .int .i64 0, .int .i64 0, .int .u64 0, .slice none 0 0] 135)))
 have V1 := Za (Wv.new (w.alloc (.cells #[.int .i64 k, .int .i64 o, .int .i64 a, .int .i64 v0, .int .i64 v1, .int .u64 v2, .slice aa n ca] 135)) 0 0 0 0 0 0 (.slice none 0 0))
 have hsz : (w.alloc (.cells #[.int .i64 k, .int .i64 o, .int .i64 a, .int .i64 v0, .int .i64 v1, .int .u64 v2, .slice aa n ca] 135)).heap.size = w.heap.size + 1 := by simp
 rw [hsz] at V1
 have CL := Za (cloneV2 (Zk hs (fun k hk => B0.out.block k (Zf hs hk).2.1)) hn h1)
 have H1 := Za h1
 clear hs h1 hR hsz
 go_enter Tryd.func76, Tryd.ntmps76
 go_wp2_with fail
 generalize (w.alloc _).alloc _ = w1 at *
 refine CL.out.mono ?_
 rintro e w2 ⟨a2, c2, rfl, o2, hb⟩
 have X1 := V0.out.al hb
 have X2 := V1.out.al hb
 obtain ⟨q0, q1, q2, q3, q4, q5, q6⟩ := X1.all
 obtain ⟨r0, r1, r2, r3, r4, r5, r6⟩ := X2.all
 have f6 := X1.frz 6
 have g0 := X2.frz 0
 have g1 := X2.frz 1
 have g2 := X2.frz 2
 have g3 := X2.frz 3
 have g4 := X2.frz 4
 have g5 := X2.frz 5
 have g6 := X2.frz 6
 have HX2 := Za X2
 have V1' := Za V1.out
 have B2 := Za (Zi B0.out hb)
 have O2 := Za (And.intro o2 B0.out.size)
 clear V0 V1 CL hb X1 X2 o2
 go_wp2_with fail
 have Y := ZQ ((Below.heap_setCell w2 ⟨w.heap.size, 6, none⟩ (.slice a2 n c2) (w.heap.size + 1) (by simp)).trans HX2.out) (.int .i64 k) (.int .i64 o) (.int .i64 a) (.int .i64 v0) (.int .i64 v1) (.int .u64 v2) (.slice a2 n c2)
 refine ret_wt (w.heap.size + 1) (v := (v0, v1, v2)) rfl rfl ⟨_, _, _, rfl⟩ Y rfl ⟨_, rfl, ⟨_, _, _, xs, rfl, hn, ?_, ?_⟩, ?_⟩
 · have hne : ∀ b, b = w.heap.size ∨ b = w.heap.size + 1 -> (Value.slice a2 n c2).ownBlock ≠ some b := fun b hb e => by
    have h1 := (Zf O2.out.1 e).1
    have h2 := Ze HX2.out
    have h3 := Ze V1'.out
    omega
   exact Zk (own_low O2.out.1 O2.out.2) fun k hk => (ZC (o := 0) (fun e => hne k (.inr e) hk)).trans (Below.heap_setCell _ _ _ _ (fun e => hne k (.inl e) hk))
 · exact H1.out
 · exact ZK (o := 0) (B2.out.setCell (p := ⟨w.heap.size, 6, none⟩) (Nat.le_refl _) _) (Nat.le_succ _)
end Go.Proofs.YtghfjnnmpmfboaaDoor.Ck
