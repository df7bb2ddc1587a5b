/- Texts of this proof, packed: contracts of the program's functions, and the plain model that they are held against. -/
import Derived.Test.YtfojninaginnoaaGreatDoorVap
import Derived.Deep.LoopGhost
set_option maxRecDepth 20000
set_option maxHeartbeats 4000000
namespace Go.Proofs.YtfojninaginnoaaGreatDoor.Ck
open Go.RowKit
theorem ract_4f {w : World} {G : Nat -> Prop} {B g : Nat} {S : List (List Wt)} {r : Rz} (h : Rr w G B g S r) (i j : Nat) (a v0 v1 v2 : Int) (hx : r.ws[i]? = some ⟨4, j, a, (v0, v1, v2)⟩) (hl : r.ev.length <= 90000) (hp : r.s.M[j]? = some false) :
 Calls Tryz.prog 39 #[P_ g, I_ (i : Nat)] w (YB w G (B + 1) g S { r with e := ⟨3, 4, i, 0, a⟩ } []) := by
 have hfb := h.fb
 obtain ⟨Fs, Rs, Fo, R, gs, gt, vW, vE, vL, vO, vA, vs, os, as_, h, hG⟩ := h
 have hi := (G_ hx)
 obtain ⟨b, cW, eW, hb, p0, p1, p2, p3, p4, p5⟩ := h.waitAt i _ hx
 subst eW
 simp only at p0 p1 p2 p3 p4 p5
 obtain ⟨vP, vL_, vC, vS, vT, vA_, ss, tk, v⟩ := h.st
 have c1 := h.cells.1.2.1
 have b1 := Zd w (.cells #[I_ 4, I_ (j : Nat), I_ a, I_ v0, I_ v1, .int .u64 v2] 76)
 have b2 := Zd (w.alloc (.cells #[I_ 4, I_ (j : Nat), I_ a, I_ v0, I_ v1, .int .u64 v2] 76)) (.cells #[I_ 0, I_ 0, .int .u64 0] 64)
 have hs1 : (w.alloc (.cells #[I_ 4, I_ (j : Nat), I_ a, I_ v0, I_ v1, .int .u64 v2] 76)).heap.size = w.heap.size + 1 := by simp
 have BB := Za (Zg b1 b2)
 have KW := Za ((b2.block _ (by rw [hs1]; omega)).trans (show (w.alloc (.cells #[I_ 4, I_ (j : Nat), I_ a, I_ v0, I_ v1, .int .u64 v2] 76)).heap[w.heap.size]? = some (.cells #[I_ 4, I_ (j : Nat), I_ a, I_ v0, I_ v1, .int .u64 v2] 76 (0, 0)) from B_ _ _))
 have KI : Hid (((w.alloc (.cells #[I_ 4, I_ (j : Nat), I_ a, I_ v0, I_ v1, .int .u64 v2] 76)).alloc (.cells #[I_ 0, I_ 0, .int .u64 0] 64)).heap[w.heap.size + 1]? = some (.cells #[I_ 0, I_ 0, .int .u64 0] 64 (0, 0))) := Za (by rw [← hs1]; exact B_ _ _)
 have NW : Hid (¬ G w.heap.size) := Za (fun e => by have := hfb _ e; omega)
 have NI : Hid (¬ G (w.heap.size + 1)) := Za (fun e => by have := hfb _ e; omega)
 have Q1 := Za (h.bel BB.out)
 have V1 := Za (v.bel BB.out)
 have HG := Za hG
 have HL2 := Za hl
 have HL := Za (show r.ev.length <= 100000 by omega)
 obtain ⟨n, hn⟩ : ∃ n, n = r.ws.length := ⟨_, rfl⟩
 rw [← hn] at c1 hi
 have hi1 : (i : Int) < (n : Int) := by omega
 have hi0 : (0 : Int) <= (i : Int) := by omega
 have hj := (G_ hp)
 obtain ⟨bR, cR, eR, _⟩ := Zq v.lo (show 0 < r.s.M.length by omega)
 obtain ⟨m, hm⟩ : ∃ m, m = r.s.M.length := ⟨_, rfl⟩
 rw [← hm] at eR hj
 subst eR
 have HM := Za hm
 have HJ := Za hj
 have hj1 : (j : Int) < (m : Int) := by omega
 have hj0 : (0 : Int) <= (j : Int) := by omega
 have D0 := Za (Zk V1.out.lo _ _ (bls_at hp)).1
 clear hp hj hm
 clear h hG v hx hi hl b1 b2 hs1 hfb hb hn
 go_enter Tryz.func39, Tryz.ntmps39
 go_upto_region 12 with fail
 generalize (w.alloc _).alloc _ = w1 at *
 clear c1 p0 p1 p2 p3 p4 p5 hi1 hi0
 have x0 := Q1.out.cells.1.1
 have x1 := V1.out.cells.2.1
 have x2 := Zb KW.out 1 _ rfl
 have x3 := D0.out
 go_quiet (fail)
 have DQ := below_drewN (Below.refl w1.heap.size w1) nq
 replace Q1 := Za (Q1.out.bel DQ)
 replace V1 := Za (V1.out.bel DQ)
 replace BB := Za (Zg BB.out DQ)
 have KW' : Hid ((w1.drewN nq).heap[w.heap.size]? = _) := Za ((DQ.block _ (Ze KW.out)).trans KW.out)
 have KI' : Hid ((w1.drewN nq).heap[w.heap.size + 1]? = _) := Za ((DQ.block _ (Ze KI.out)).trans KI.out)
 clear x0 x1 x2 x3 DQ KW KI
 have KW := KW'
 have KI := KI'
 clear KW' KI'
 generalize w1.drewN nq = w1 at *
 have R5 := Za ((Q1.out.rr.wideG HG.out).up (Nat.le_succ B))
 have C5 := Za (Ch.of_bel (F := G) BB.out)
 have FA := Za (rFault_any R5.out (i : Nat) 4 0 a)
 unfold h3V at FA
 simp only at FA
 have x2 := Zb KW.out 2 _ rfl
 clear Q1 V1 KI KW BB
 go_wp2_with fail
 refine FA.out.mono ?_
 rintro e w6 ⟨rfl, G6, r6, c6⟩
 have R6 := Za r6
 have C6 := Za (C5.out.trans c6)
 clear r6 c6 FA x2
 go_wp2_with fail
 go_ret
 exact ⟨_, G6, rfl, R6.out, C6.out, AskS.nil _ _⟩
theorem ract_12 {w : World} {G : Nat -> Prop} {B g : Nat} {S : List (List Wt)} {r : Rz} (h : Rr w G B g S r) (i : Nat) (j a v0 v1 v2 : Int) (hx : r.ws[i]? = some ⟨12, j, a, (v0, v1, v2)⟩) (hl : r.ev.length <= 90000) :
 Calls Tryz.prog 39 #[P_ g, I_ (i : Nat)] w (YB w G (B + 1) g S { r with ev := r.ev ++ [⟨i, 12, j, a⟩], ws := r.ws.set i zW } []) := by
 have hfb := h.fb
 obtain ⟨Fs, Rs, Fo, R, gs, gt, vW, vE, vL, vO, vA, vs, os, as_, h, hG⟩ := h
 have HX := Za hx
 have hi := (G_ hx)
 obtain ⟨b, cW, eW, hb, p0, p1, p2, p3, p4, p5⟩ := h.waitAt i _ hx
 subst eW
 simp only at p0 p1 p2 p3 p4 p5
 obtain ⟨vP, vL_, vC, vS, vT, vA_, ss, tk, v⟩ := h.st
 have c1 := h.cells.1.2.1
 have b1 := Zd w (.cells #[I_ 12, I_ j, I_ a, I_ v0, I_ v1, .int .u64 v2] 76)
 have b2 := Zd (w.alloc (.cells #[I_ 12, I_ j, I_ a, I_ v0, I_ v1, .int .u64 v2] 76)) (.cells #[I_ 0, I_ 0, .int .u64 0] 64)
 have hs1 : (w.alloc (.cells #[I_ 12, I_ j, I_ a, I_ v0, I_ v1, .int .u64 v2] 76)).heap.size = w.heap.size + 1 := by simp
 have BB := Za (Zg b1 b2)
 have KW := Za ((b2.block _ (by rw [hs1]; omega)).trans (show (w.alloc (.cells #[I_ 12, I_ j, I_ a, I_ v0, I_ v1, .int .u64 v2] 76)).heap[w.heap.size]? = some (.cells #[I_ 12, I_ j, I_ a, I_ v0, I_ v1, .int .u64 v2] 76 (0, 0)) from B_ _ _))
 have KI : Hid (((w.alloc (.cells #[I_ 12, I_ j, I_ a, I_ v0, I_ v1, .int .u64 v2] 76)).alloc (.cells #[I_ 0, I_ 0, .int .u64 0] 64)).heap[w.heap.size + 1]? = some (.cells #[I_ 0, I_ 0, .int .u64 0] 64 (0, 0))) := Za (by rw [← hs1]; exact B_ _ _)
 have NW : Hid (¬ G w.heap.size) := Za (fun e => by have := hfb _ e; omega)
 have NI : Hid (¬ G (w.heap.size + 1)) := Za (fun e => by have := hfb _ e; omega)
 have Q1 := Za (h.bel BB.out)
 have V1 := Za (v.bel BB.out)
 have HG := Za hG
 have HL2 := Za hl
 have HL := Za (show r.ev.length <= 100000 by omega)
 obtain ⟨n, hn⟩ : ∃ n, n = r.ws.length := ⟨_, rfl⟩
 rw [← hn] at c1 hi
 have hi1 : (i : Int) < (n : Int) := by omega
 have hi0 : (0 : Int) <= (i : Int) := by omega
 clear h hG v hx hi hl b1 b2 hs1 hfb hb hn
 go_enter Tryz.func39, Tryz.ntmps39
 go_upto_region 29 with fail
 generalize (w.alloc _).alloc _ = w1 at *
 clear c1 p0 p1 p2 p3 p4 p5
 have R5 := Za ((Q1.out.rr.wideG HG.out).up (Nat.le_succ B))
 have C5 := Za (Ch.of_bel (F := G) BB.out)
 have NT := Za (ZZ R5.out i ⟨12, j, a, (v0, v1, v2)⟩ j HL.out)
 unfold w6V at NT
 have x0 := Zb KW.out 0 _ rfl
 have x1 := Zb KW.out 1 _ rfl
 have x2 := Zb KW.out 2 _ rfl
 have x3 := Zb KW.out 3 _ rfl
 have x4 := Zb KW.out 4 _ rfl
 have x5 := Zb KW.out 5 _ rfl
 clear Q1 V1 KI BB
 go_wp2_with fail
 refine NT.out.mono ?_
 rintro e w6 ⟨rfl, G6, r6, c6⟩
 have C6 := Za (C5.out.trans c6)
 clear x0 x1 x2 x3 x4 x5 NT c6 KW R5 C5
 obtain ⟨Fs6, Rs6, Fo6, R6, gs6, gt6, vW6, vE6, vL6, vO6, vA6, vs6, os6, as6, q6, hG6⟩ := r6
 obtain ⟨b6, cW6, eW6, hb6, p0, p1, p2, p3, p4, p5⟩ := q6.waitAt i ⟨12, j, a, (v0, v1, v2)⟩ HX.out
 subst eW6
 have d1 := q6.cells.1.2.1
 have WS := Za (q6.wsetZ i zW)
 obtain ⟨f0, f1, f2, f3, f4, f5⟩ := q6.waitFz i ⟨12, j, a, (v0, v1, v2)⟩ HX.out
 have HG6 := Za hG6
 simp only at d1 p0 p1 p2 p3 p4 p5
 obtain ⟨n, hn⟩ : ∃ n, n = r.ws.length := ⟨_, rfl⟩
 rw [← hn] at d1 WS
 have hi1 : (i : Int) < (n : Int) := by
  have := (G_ HX.out)
  omega
 have hi0 : (0 : Int) <= (i : Int) := by omega
 clear hn q6 hG6
 go_wp2_with fail
 go_ret
 have RW := rr_wide HG6.out WS.out.1 WS.out.2
 exact ⟨_, _, rfl, RW.1, C6.out.trans RW.2, AskS.nil _ _⟩
theorem ract_50 {w : World} {G : Nat -> Prop} {B g : Nat} {S : List (List Wt)} {r : Rz} (h : Rr w G B g S r) (i j : Nat) (a v0 v1 v2 : Int) (hx : r.ws[i]? = some ⟨5, j, a, (v0, v1, v2)⟩) (hl : r.ev.length <= 90000) (q : Qu) (hp : r.s.C[j]? = some q) (hr : q.room = 0) (t : Nat) (y : Wt) (ht : r.ws.findIdx? (isR (j : Nat)) = some t) (hy : r.ws[t]? = some y) :
 Calls Tryz.prog 39 #[P_ g, I_ (i : Nat)] w (YB w G (B + 1) g S { r with ev := (r.ev ++ [⟨i, 5, j, a⟩]) ++ [⟨t, y.k, j, y.a⟩] } [(i, 0, 0, 0), (t, v0, v1, v2)]) := by
 have hfb := h.fb
 obtain ⟨Fs, Rs, Fo, R, gs, gt, vW, vE, vL, vO, vA, vs, os, as_, h, hG⟩ := h
 have hi := (G_ hx)
 obtain ⟨b, cW, eW, hb, p0, p1, p2, p3, p4, p5⟩ := h.waitAt i _ hx
 subst eW
 simp only at p0 p1 p2 p3 p4 p5
 obtain ⟨vP, vL_, vC, vS, vT, vA_, ss, tk, v⟩ := h.st
 have c1 := h.cells.1.2.1
 have b1 := Zd w (.cells #[I_ 5, I_ (j : Nat), I_ a, I_ v0, I_ v1, .int .u64 v2] 76)
 have b2 := Zd (w.alloc (.cells #[I_ 5, I_ (j : Nat), I_ a, I_ v0, I_ v1, .int .u64 v2] 76)) (.cells #[I_ 0, I_ 0, .int .u64 0] 64)
 have hs1 : (w.alloc (.cells #[I_ 5, I_ (j : Nat), I_ a, I_ v0, I_ v1, .int .u64 v2] 76)).heap.size = w.heap.size + 1 := by simp
 have BB := Za (Zg b1 b2)
 have KW := Za ((b2.block _ (by rw [hs1]; omega)).trans (show (w.alloc (.cells #[I_ 5, I_ (j : Nat), I_ a, I_ v0, I_ v1, .int .u64 v2] 76)).heap[w.heap.size]? = some (.cells #[I_ 5, I_ (j : Nat), I_ a, I_ v0, I_ v1, .int .u64 v2] 76 (0, 0)) from B_ _ _))
 have KI : Hid (((w.alloc (.cells #[I_ 5, I_ (j : Nat), I_ a, I_ v0, I_ v1, .int .u64 v2] 76)).alloc (.cells #[I_ 0, I_ 0, .int .u64 0] 64)).heap[w.heap.size + 1]? = some (.cells #[I_ 0, I_ 0, .int .u64 0] 64 (0, 0))) := Za (by rw [← hs1]; exact B_ _ _)
 have NW : Hid (¬ G w.heap.size) := Za (fun e => by have := hfb _ e; omega)
 have NI : Hid (¬ G (w.heap.size + 1)) := Za (fun e => by have := hfb _ e; omega)
 have Q1 := Za (h.bel BB.out)
 have V1 := Za (v.bel BB.out)
 have HG := Za hG
 have HL2 := Za hl
 have HL := Za (show r.ev.length <= 100000 by omega)
 obtain ⟨n, hn⟩ : ∃ n, n = r.ws.length := ⟨_, rfl⟩
 rw [← hn] at c1 hi
 have hi1 : (i : Int) < (n : Int) := by omega
 have hi0 : (0 : Int) <= (i : Int) := by omega
 have hj := (G_ hp)
 have HP := Za hp
 have HY := Za hy
 have HXX := Za hx
 have hr0 : (q.room == 0) = true := by rw [beq_iff_eq]; exact hr
 have HTK : Hid (takI r.ws (j : Nat) = (t : Nat)) := Za (by unfold takI; rw [ht])
 have TKR := Za (fun wz Gz (hz : Rr wz Gz (B + 1) g S r) => taker_any hz (j : Nat) i _ hx (show ¬ (5 : Int) = 6 by decide))
 clear hr ht hy
 obtain ⟨bR, cR, eR, _⟩ := Zq v.ch (show 0 < r.s.C.length by omega)
 obtain ⟨m, hm⟩ : ∃ m, m = r.s.C.length := ⟨_, rfl⟩
 rw [← hm] at eR hj
 subst eR
 have hj1 : (j : Int) < (m : Int) := by omega
 have hj0 : (0 : Int) <= (j : Int) := by omega
 have D0 := Za (Zk V1.out.ch _ _ (by have := (ccs_at _ _ _ hp).2; rw [Nat.mul_comm] at this; exact this)).1
 clear hp hj hm
 clear h hG v hx hi hl b1 b2 hs1 hfb hb hn
 go_enter Tryz.func39, Tryz.ntmps39
 go_upto_region 17 with fail
 generalize (w.alloc _).alloc _ = w1 at *
 clear c1 p0 p1 p2 p3 p4 p5 hi1 hi0
 have x0 := Q1.out.cells.1.1
 have x1 := V1.out.cells.2.2.1
 have x2 := Zb KW.out 1 _ rfl
 have x3 := D0.out
 go_quiet (fail)
 have DQ := below_drewN (Below.refl w1.heap.size w1) nq
 replace Q1 := Za (Q1.out.bel DQ)
 replace V1 := Za (V1.out.bel DQ)
 replace BB := Za (Zg BB.out DQ)
 have KW' : Hid ((w1.drewN nq).heap[w.heap.size]? = _) := Za ((DQ.block _ (Ze KW.out)).trans KW.out)
 have KI' : Hid ((w1.drewN nq).heap[w.heap.size + 1]? = _) := Za ((DQ.block _ (Ze KI.out)).trans KI.out)
 clear x0 x1 x2 x3 DQ KW KI
 have KW := KW'
 have KI := KI'
 clear KW' KI'
 generalize w1.drewN nq = w1 at *
 have R5 := Za ((Q1.out.rr.wideG HG.out).up (Nat.le_succ B))
 have C5 := Za (Ch.of_bel (F := G) BB.out)
 have KI5 : Hid (Kb w1 G (w.heap.size + 1) _) := Za ⟨KI.out, NI.out⟩
 have KW5 : Hid (Kb w1 G w.heap.size _) := Za ⟨KW.out, NW.out⟩
 have TK := Za (TKR.out w1 G R5.out)
 rw [HTK.out] at TK
 have x1 := Zb KW.out 1 _ rfl
 clear Q1 V1 KI KW BB TKR
 go_wp2_with fail
 refine TK.out.mono ?_
 rintro e w5 ⟨rfl, b5⟩
 replace R5 := Za (R5.out.bel b5)
 replace C5 := Za (C5.out.trans (Ch.of_bel b5))
 replace KI5 := Za (KI5.out.bel b5)
 replace KW5 := Za (KW5.out.bel b5)
 clear x1 TK b5
 have NT := Za (ZZ R5.out i ⟨5, j, a, (v0, v1, v2)⟩ (j : Nat) HL.out)
 unfold w6V at NT
 have x0 := Zb KW5.out.1 0 _ rfl
 have x1 := Zb KW5.out.1 1 _ rfl
 have x2 := Zb KW5.out.1 2 _ rfl
 have x3 := Zb KW5.out.1 3 _ rfl
 have x4 := Zb KW5.out.1 4 _ rfl
 have x5 := Zb KW5.out.1 5 _ rfl
 go_wp2_with fail
 refine NT.out.mono ?_
 rintro e w6 ⟨rfl, G6, r6, c6⟩
 have KI6 := Za (KI5.out.ch c6)
 have KW6 := Za (KW5.out.ch c6)
 have R6 := Za r6
 have C6 := Za (C5.out.trans c6)
 have hto : decide ((0 : Int) <= (t : Int)) = true := by simp
 clear x0 x1 x2 x3 x4 x5 NT r6 c6 KI5 KW5 R5 C5
 go_upto_region 34 with fail
 obtain ⟨Fs6, Rs6, Fo6, R6_, gs6, gt6, vW6, vE6, vL6, vO6, vA6, vs6, os6, as6, q6, hG6⟩ := R6.out
 obtain ⟨b6, cW6, eW6, hb6, p0, p1, p2, p3, p4, p5⟩ := q6.waitAt t y HY.out
 subst eW6
 have d1 := q6.cells.1.2.1
 simp only at d1
 obtain ⟨n, hn⟩ : ∃ n, n = r.ws.length := ⟨_, rfl⟩
 rw [← hn] at d1
 have ht1 : (t : Int) < (n : Int) := by
  have := (G_ HY.out)
  omega
 have ht0 : (0 : Int) <= (t : Int) := by omega
 have DD := below_drewN (Below.refl w6.heap.size w6) 1
 have ND := Za (ZZ (R6.out.bel (w' := w6.drew) DD) t y (j : Nat) (by have := HL2.out; show (r.ev ++ [_]).length <= 100000; rw [List.length_append, List.length_singleton]; omega))
 unfold w6V at ND
 have CD := Za (C6.out.trans (Ch.of_bel (w' := w6.drew) DD))
 have KID := Za (KI6.out.bel (W' := w6.drew) DD)
 have KWD := Za (KW6.out.bel (W' := w6.drew) DD)
 have SD : Hid (w6.drew.cell? ⟨g, 1, none⟩ = some (.slice (some ⟨b6, 0, none⟩) n cW6) /\ (w6.drew.cell? ⟨b6, t * 6, none⟩ = some (I_ y.k) /\ w6.drew.cell? ⟨b6, t * 6 + 1, none⟩ = some (I_ y.o) /\ w6.drew.cell? ⟨b6, t * 6 + 2, none⟩ = some (I_ y.a) /\ w6.drew.cell? ⟨b6, t * 6 + 3, none⟩ = some (I_ y.v.1) /\ w6.drew.cell? ⟨b6, t * 6 + 4, none⟩ = some (I_ y.v.2.1) /\ w6.drew.cell? ⟨b6, t * 6 + 5, none⟩ = some (.int .u64 y.v.2.2)) /\ w6.drew.cell? ⟨w.heap.size, 1, none⟩ = some (I_ (j : Nat))) := Za ⟨d1, ⟨p0, p1, p2, p3, p4, p5⟩, Zb KW6.out.1 1 _ rfl⟩
 clear q6 hG6 d1 p0 p1 p2 p3 p4 p5 hn DD R6 C6 KI6 KW6
 refine ZD (S := fun wz => wz.cell? ⟨g, 1, none⟩ = some (.slice (some ⟨b6, 0, none⟩) n cW6) /\ (wz.cell? ⟨b6, t * 6, none⟩ = some (I_ y.k) /\ wz.cell? ⟨b6, t * 6 + 1, none⟩ = some (I_ y.o) /\ wz.cell? ⟨b6, t * 6 + 2, none⟩ = some (I_ y.a) /\ wz.cell? ⟨b6, t * 6 + 3, none⟩ = some (I_ y.v.1) /\ wz.cell? ⟨b6, t * 6 + 4, none⟩ = some (I_ y.v.2.1) /\ wz.cell? ⟨b6, t * 6 + 5, none⟩ = some (.int .u64 y.v.2.2)) /\ wz.cell? ⟨w.heap.size, 1, none⟩ = some (I_ (j : Nat))) (fun j => decide (j < 11)) ZJ SD.out (fun hH => ?_)
 clear SD
 generalize World.drew _ = wd at *
 refine M_ 0 ?_
 simp only [Act.put, S_]
 refine M_ 1 ?_
 simp only [Act.put, S_]
 refine M_ 2 ?_
 simp only [Act.put, S_]
 refine M_ 3 ?_
 simp only [Act.put, S_]
 refine M_ 4 ?_
 simp only [Act.put, S_]
 refine M_ 6 ?_
 simp only [Act.put, S_]
 refine M_ 9 ?_
 simp only [Act.put, S_]
 refine L_ 10 (v := ?_) ?_ hH ?_
 rotate_left 1
 · (intro w hSw; have q := hSw.2.2; clear hSw; go_simp <;> with_reducible rfl)
 simp only [Act.put, S_]
 refine RT_ 5 (fun K1 hK1 => ?_)
 have q := hH.1
 go_simp
 refine hK1.out _ _ (fun _ => hH) (fun hh => ?_)
 clear hK1 K1 q hh
 refine M_ 7 ?_
 simp only [Act.put, S_]
 refine L_ 8 (v := ?_) ?_ hH ?_
 rotate_left 1
 · (intro w hSw; obtain ⟨q0, q1, q2, q3, q4, q5⟩ := hSw.2.1; clear hSw; go_simp <;> with_reducible rfl)
 simp only [Act.put, S_]
 clear hH
 refine RT_ 11 (fun K1 hK1 => ?_)
 go_simp
 refine ND.out.mono ?_
 rintro e w7 ⟨rfl, G7, r7, c7⟩
 refine hK1.out _ _ (fun h => absurd h (by decide)) (fun _ => ?_)
 clear hK1 K1 ND
 refine ZW (by kernel_rfl) ?_ _
 have KI7 := Za (KID.out.ch c7)
 have KW7 := Za (KWD.out.ch c7)
 have R7 := Za r7
 have C7 := Za (CD.out.trans c7)
 have i0 := Zb KI7.out.1 0 _ rfl
 have i1 := Zb KI7.out.1 1 _ rfl
 have i2 := Zb KI7.out.1 2 _ rfl
 have u3 := Zb KW7.out.1 3 _ rfl
 have u4 := Zb KW7.out.1 4 _ rfl
 have u5 := Zb KW7.out.1 5 _ rfl
 clear r7 c7 KID KWD CD hto ht1 ht0
 go_wp2_with fail
 go_ret
 have R8 := R7.out
 rw [List.append_assoc] at R8
 exact ⟨_, G7, rfl, R8.bel (Zd w7 _), C7.out.trans (Ch.of_bel (Zd w7 _)), AskS.two R7.out (i, 0, 0, 0) (t, v0, v1, v2)⟩
theorem rdo_act {w : World} {G : Nat -> Prop} {B g : Nat} {S : List (List Wt)} {r r' : Rz} {lx : List (Nat × V3)} (h : Rr w G B g S r) (hB : B + 1 <= 1000000) (i : Nat) (x : Wt) (hx : r.ws[i]? = some x) (hk : (x.k == 10) = false)
 (AC : ∀ w1, Below w.heap.size w w1 -> Calls Tryz.prog 39 #[P_ g, I_ (i : Nat)] w1 (YB w1 G (B + 1) g S r' lx)) (hlx : ∀ y ∈ lx, y.1 < r'.ws.length /\ y.1 < r'.pe.length) :
 Calls Tryz.prog 12 #[P_ g, I_ (i : Nat)] w (RrP w G (B + 1) g S (Yw (Yn r' (lx.map Prod.fst) lx.length)) (.tuple #[])) := by
 obtain ⟨k, o, a, v0, v1, v2⟩ := x
 simp only at hk
 obtain ⟨Fs, Rs, Fo, R, gs, gt, vW, vE, vL, vO, vA, vs, os, as_, h, hG⟩ := h
 have hi := (G_ hx)
 obtain ⟨b, cW, eW, hb, p0, p1, p2, p3, p4, p5⟩ := h.waitAt i _ hx
 subst eW
 simp only at p0 p1 p2 p3 p4 p5
 have c1 := h.cells.1.2.1
 have B0 := Za (Zd w (.cells #[I_ k, I_ o, I_ a, I_ v0, I_ v1, .int .u64 v2] 76))
 have KW := Za (B_ w (.cells #[I_ k, I_ o, I_ a, I_ v0, I_ v1, .int .u64 v2] 76))
 obtain ⟨n, hn⟩ : ∃ n, n = r.ws.length := ⟨_, rfl⟩
 rw [← hn] at c1 hi
 have hi1 : (i : Int) < (n : Int) := by omega
 have hi0 : (0 : Int) <= (i : Int) := by omega
 have CT := Za (AC _ B0.out)
 have HLX := Za hlx
 clear h hG hx hi hn AC hlx hb
 go_enter Tryz.func12, Tryz.ntmps12
 go_wp2_with fail
 refine CT.out.mono ?_
 rintro e w2 ⟨v, G2, rfl, r2, c2, sk⟩
 have CK := Za (rask_any r2 hB sk HLX.out)
 have C2 := Za ((Ch.of_bel (F := G) B0.out).trans c2)
 obtain ⟨av, cv, ev, _⟩ := sk
 subst ev
 clear r2 c2 CT
 go_wp2_with fail
 refine CK.out.mono ?_
 rintro e w3 ⟨rfl, G3, r3, c3⟩
 have R3 := Za r3
 have C3 := Za (C2.out.trans c3)
 clear r3 c3 CK C2
 go_wp2_with fail
 go_end0
 exact ⟨rfl, G3, R3.out, C3.out⟩
theorem ask_ev (r : Rm) (i : Nat) : (Ye r i).1.ev = r.ev := by
 unfold Ye
 split
 · split <;> rfl
 · rfl
theorem settle_ev (r : Rm) : (Yr r).ev = r.ev := rfl
theorem runn_mem {r : Rm} {k : Int} (h : k ∈ runnR r) : ∃ i : Nat, k = i /\ can r (i : Int) = true /\ runs r = true := by
 unfold runnR at h
 split at h
 · rename_i hr
   obtain ⟨i, hi, rfl⟩ := List.mem_map.1 h
   exact ⟨i, rfl, (List.mem_filter.1 hi).2, hr⟩
 · cases h
theorem runs_e {r : Rm} (h : runs r = true) : r.e.o = 0 := by
 unfold runs endR at h
 split at h
 · assumption
 · rename_i hn
   simp at h
   exact absurd h hn
theorem cloneE {w : World} {src : Value} {n : Nat} {xs : List Value} (hs : w.ownsRow 0 132 4 src n xs) (hn : n <= 100000) (h1 : ∀ u ∈ xs, u.oneCell' = true) : Calls Tryz.prog 61 #[src] w (ClP w 132 4 n xs) := by
 rcases own_form hs with ⟨rfl, rfl⟩ | ⟨b, c, rfl, _⟩
 · have e : xs = [] := by have := hs.1; simpa using this
   subst e
   clear hs
   have hE : ∀ w, (binOp .eql 40 (.slice none 0 0) (.slice none 0 0)).run Tryz.prog w = .ok (.bool true) w := fun w => by kernel_rfl
   go_enter Tryz.func61, Tryz.ntmps61
   go_wp2_with fail
   go_ret
   exact ⟨_, _, rfl, World.ownsRow_nil _ _ _ _, Below.refl _ _⟩
 · have hb := Zd w (.cells #[] 132)
   have AP := Za (fun ty => Yo (B := w.heap.size) Tryz.underlying40 info_ev rfl (by decide) (B_ w (.cells #[] 132)) (Nat.le_refl _) (Zj hs (fun k hk => hb.block k (Zf hs hk).2.1)) (by omega) h1 hb.size ty)
   have HB := Za hb
   clear hs hb h1
   have hE : ∀ w, (binOp .eql 40 (.slice (some ⟨b, 0, none⟩) n c) (.slice none 0 0)).run Tryz.prog w = .ok (.bool false) w := fun w => by kernel_rfl
   go_enter Tryz.func61, Tryz.ntmps61
   go_wp2_with (first | (at_builtin; refine ZX (TS := 40) rfl (.tmp 5) (.tmp 6) rfl _ _ rfl rfl _ (AP.out _) ?_; rintro v9 w9 ⟨⟨a9, c9, rfl⟩, o9, b9, _⟩; have R9 := Za (And.intro o9 b9); clear o9 b9))
   go_ret
   exact ⟨_, _, rfl, R9.out.1, Zg HB.out R9.out.2⟩
theorem Events_any {w : World} {G : Nat -> Prop} {g : Nat} {S : List (List Wt)} {r : Rm} (h : Rn w G g S r) (hl : r.ev.length <= 100000) : Calls Tryz.prog 25 #[P_ g] w (ClP w 132 4 r.ev.length (ecs r.ev)) := by
 obtain ⟨Fs, Fo, R, gs, vC, vB, vG, vE, ps, ts, h, hG⟩ := h
 have c4 := h.cells.1.2.2.2.2
 obtain ⟨a, cE, e, _⟩ := Zl h.ev
 have CL := Za (cloneE h.ev hl (ecs_one _))
 subst e
 have hgl := h.fb g h.fg
 generalize r.ev.length = n at *
 clear h hG hl
 go_enter Tryz.func25, Tryz.ntmps25
 go_wp2_with fail
 refine CL.out.mono ?_
 rintro e w1 ⟨a1, c1, rfl, o1, b1⟩
 have R1 := Za (And.intro o1 b1)
 clear o1 b1
 go_wp2_with fail
 go_ret
 exact ⟨_, _, rfl, R1.out.1, R1.out.2⟩
def EvS (w : World) (v : Value) (l : List Evt) : Prop := ∃ (a : Option Addr) (c : Nat), v = .slice a l.length c /\ l.length <= c /\ c <= maxLen /\ ∀ (i : Nat) (e : Evt), l[i]? = some e -> ∃ (b o : Nat), a = some ⟨b, o, none⟩ /\ b < w.heap.size ∧
 w.cell? ⟨b, o + i * 4, none⟩ = some (I_ e.g) /\ w.cell? ⟨b, o + i * 4 + 1, none⟩ = some (I_ e.k) /\ w.cell? ⟨b, o + i * 4 + 2, none⟩ = some (I_ e.o) /\ w.cell? ⟨b, o + i * 4 + 3, none⟩ = some (I_ e.a)
theorem ecs_at : ∀ (l : List Evt) (i : Nat) (e : Evt), l[i]? = some e -> (ecs l)[i * 4]? = some (I_ e.g) /\ (ecs l)[i * 4 + 1]? = some (I_ e.k) /\ (ecs l)[i * 4 + 2]? = some (I_ e.o) /\ (ecs l)[i * 4 + 3]? = some (I_ e.a)
 | [], i, e, h => by simp at h
 | x :: l, 0, e, h => by
  simp at h
  subst h
  exact ⟨rfl, rfl, rfl, rfl⟩
 | x :: l, i + 1, e, h => by
  have := ecs_at l i e (by simpa using h)
  rw [show (i + 1) * 4 = i * 4 + 1 + 1 + 1 + 1 by omega]
  exact this
theorem EvS.of_own {w : World} {B : Nat} {v : Value} {l : List Evt} (h : w.ownsRow B 132 4 v l.length (ecs l)) : EvS w v l := by
 obtain ⟨a, c, rfl, h1, h2⟩ := Zl h
 refine ⟨a, c, rfl, h1, h2, fun i e he => ?_⟩
 have hi := (G_ he)
 obtain ⟨b, c', eb, _⟩ := Zq h (by omega)
 cases eb
 obtain ⟨q0, q1, q2, q3⟩ := ecs_at l i e he
 refine ⟨b, 0, rfl, (Zf h (k := b) rfl).2.1, ?_⟩
 rw [Nat.zero_add]
 exact ⟨(Zk h _ _ q0).1, (Zk h _ _ q1).1, (Zk h _ _ q2).1, (Zk h _ _ q3).1⟩
theorem neq_ev (w : World) (a b c d a' b' c' d' : Int) : (binOp .neq 132 (.agg #[I_ a, I_ b, I_ c, I_ d]) (.agg #[I_ a', I_ b', I_ c', I_ d'])).run Tryz.prog w = .ok (.bool (!(a == a' && (b == b' && (c == c' && d == d'))))) w := by
 have hi : ∀ (x y : Int) (w : World), (Op.equalIn 9999 3 (I_ x) (I_ y)).run Tryz.prog w = .ok (x == y) w := fun x y w => run_equalIn_int w 9998 3 .i64 .i64 x y Tryz.underlying3
 have e : Tryz.prog.underlying 132 = some (.struct (Tryz.prog.fieldsOf 132)) := by kernel_rfl
 rw [run_neq_struct, show (10000 : Nat) = 9999 + 1 from rfl, run_equalIn_agg w 9999 132 _ _ e (by kernel_rfl)]
 have hf : (Tryz.prog.fieldsOf 132).toList.map (fun f => (f.name, f.type, f.offset)) = [("G", 3, 0), ("Kind", 3, 1), ("Obj", 3, 2), ("At", 3, 3)] := by kernel_rfl
 generalize (Tryz.prog.fieldsOf 132).toList = l at hf
 obtain ⟨f1, l1, rfl, h1, hf⟩ := List.map_eq_cons_iff.1 hf
 obtain ⟨f2, l2, rfl, h2, hf⟩ := List.map_eq_cons_iff.1 hf
 obtain ⟨f3, l3, rfl, h3, hf⟩ := List.map_eq_cons_iff.1 hf
 obtain ⟨f4, l4, rfl, h4, hf⟩ := List.map_eq_cons_iff.1 hf
 obtain rfl := List.map_eq_nil_iff.1 hf
 simp only [Prod.mk.injEq] at h1 h2 h3 h4
 simp [go_sem, Op.eqFields, h1, h2, h3, h4, hi]
 by_cases ha : a = a' <;> by_cases hb : b = b' <;> by_cases hc : c = c' <;> by_cases hd : d = d' <;> simp [ha, hb, hc, hd]
theorem neq_en (w : World) (a b c d e a' b' c' d' e' : Int) : (binOp .neq 37 (.agg #[I_ a, I_ b, I_ c, I_ d, I_ e]) (.agg #[I_ a', I_ b', I_ c', I_ d', I_ e'])).run Tryz.prog w = .ok (.bool (!(a == a' && (b == b' && (c == c' && (d == d' && e == e')))))) w := by
 have hi : ∀ (x y : Int) (w : World), (Op.equalIn 9999 3 (I_ x) (I_ y)).run Tryz.prog w = .ok (x == y) w := fun x y w => run_equalIn_int w 9998 3 .i64 .i64 x y Tryz.underlying3
 have he : Tryz.prog.underlying 37 = some (.struct (Tryz.prog.fieldsOf 37)) := by kernel_rfl
 rw [run_neq_struct, show (10000 : Nat) = 9999 + 1 from rfl, run_equalIn_agg w 9999 37 _ _ he (by kernel_rfl)]
 have hf : (Tryz.prog.fieldsOf 37).toList.map (fun f => (f.name, f.type, f.offset)) = [("Outcome", 3, 0), ("Fault", 3, 1), ("G", 3, 2), ("N", 3, 3), ("At", 3, 4)] := by kernel_rfl
 generalize (Tryz.prog.fieldsOf 37).toList = l at hf
 obtain ⟨f1, l1, rfl, h1, hf⟩ := List.map_eq_cons_iff.1 hf
 obtain ⟨f2, l2, rfl, h2, hf⟩ := List.map_eq_cons_iff.1 hf
 obtain ⟨f3, l3, rfl, h3, hf⟩ := List.map_eq_cons_iff.1 hf
 obtain ⟨f4, l4, rfl, h4, hf⟩ := List.map_eq_cons_iff.1 hf
 obtain ⟨f5, l5, rfl, h5, hf⟩ := List.map_eq_cons_iff.1 hf
 obtain rfl := List.map_eq_nil_iff.1 hf
 simp only [Prod.mk.injEq] at h1 h2 h3 h4 h5
 simp [go_sem, Op.eqFields, h1, h2, h3, h4, h5, hi]
 by_cases ha : a = a' <;> by_cases hb : b = b' <;> by_cases hc : c = c' <;> by_cases hd : d = d' <;> by_cases hz : e = e' <;> simp [ha, hb, hc, hd, hz]
theorem ask_gl (r : Rm) (i : Nat) : (Ye r i).1.gs.length = r.gs.length := by
 unfold Ye
 split
 · split <;> simp [faultR]
 · rfl
theorem note_le (r : Rm) (i : Nat) (o : Int) : (ZI r i o).ev.length <= r.ev.length + 1 := by
 unfold ZI
 split <;> simp
theorem ask2_ev (r : Rm) (i j : Nat) : (match Ye r i with | (r2, true) => (Ye r2 j).1 | (r2, false) => r2).ev = r.ev := by
 have h1 := ask_ev r i
 generalize Ye r i = q at h1
 obtain ⟨r2, b⟩ := q
 cases b
 · exact h1
 · exact (ask_ev r2 j).trans h1
theorem step_le {S : List (List Wt)} (r : Rm) (g : Nat) : (Yg S r g).ev.length <= r.ev.length + 2 := by
 unfold Yg
 split
 · omega
 · rename_i x hx
   split
   · show r.ev.length <= _
     omega
   split
   · unfold splitR
     split
     · show r.ev.length <= _
       omega
     · cases hr : enterR S r x.w.o with
       | none =>
        show r.ev.length <= _
        omega
       | some r1 =>
        simp only
        have h1 : r1.ev = r.ev := by
         unfold enterR at hr
         split at hr
         · cases hr
           rfl
         · cases hr
        refine Nat.le_trans (Nat.le_of_eq (congrArg List.length (ask2_ev (ZI r1 g (r.gs.length : Int)) g r.gs.length))) ?_
        have := note_le r1 g (r.gs.length : Int)
        rw [h1] at this
        omega
   split
   · unfold meetR
     split
     · rename_i t _
       refine Nat.le_trans (Nat.le_of_eq (congrArg List.length (ask2_ev (ZI (ZI r g x.w.o) t x.w.o) g t))) ?_
       have h1 := note_le r g x.w.o
       have h2 := note_le (ZI r g x.w.o) t x.w.o
       omega
     · omega
   split
   · have := note_le r g x.w.o
     show (ZI r g x.w.o).ev.length <= _
     omega
   · rw [ask_ev]
     have := note_le { r with s := (ZH r.s x.w).1 } g x.w.o
     have e : ({ r with s := (ZH r.s x.w).1 } : Rm).ev = r.ev := rfl
     rw [e] at this
     omega
theorem start_ev (S : List (List Wt)) (s : St) (fn : Int) : (startR S s fn).ev = [] := by
 unfold startR
 rw [settle_ev]
 unfold enterR
 cases lk S fn with
 | none => rfl
 | some l => exact ask_ev _ 0
def faultZ (r : Rz) (g : Nat) (h : V3) : Rz := { r with e := ⟨3, h.1, g, h.2.1, h.2.2⟩ }
def YJ (r : Rz) (g : Nat) (o : Int) : Rz := match r.ws[g]? with
 | some w => { r with ev := r.ev ++ [⟨g, w.k, o, w.a⟩] }
 | none => r
def doZ (S : List (List Wt)) (r : Rz) (g : Nat) : Rz := match r.ws[g]? with
  | none => r
  | some w =>
    if w.k = 10 then
      (if 8 <= r.ws.length then faultZ r g (5, 0, w.a)
      else match lk S w.o with
        | none => faultZ r g (5, 0, w.a)
        | some l => Yw (Yn { YJ r g r.ws.length with ws := r.ws ++ [zW], pe := r.pe ++ [l] } [g, r.ws.length] 2))
    else if w.k = 4 /\ lk r.s.M w.o ≠ some true then faultZ r g (4, 0, w.a)
    else if w.k = 5 /\ YI r.s w.o = true then
      (match r.ws.findIdx? (isR w.o) with
      | some t => Yw (Yn (YJ (YJ r g w.o) t w.o) [g, t] 2)
      | none => r)
    else if w.k = 12 then Yw { YJ r g w.o with ws := r.ws.set g zW }
    else Yw (Yn (YJ { r with s := (ZH r.s w).1 } g w.o) [g] 1)
theorem z_ws (r : Rm) (i : Nat) : r.z.ws[i]? = (r.gs[i]?).map Gr.w := by simp [Rm.z]
theorem z_pe (r : Rm) (i : Nat) : r.z.pe[i]? = (r.gs[i]?).map Gr.rest := by simp [Rm.z]
theorem recv_tak (gs : List Gr) (c : Int) : recvR gs c = (gs.map Gr.w).findIdx? (isR c) := by
 unfold recvR
 rw [List.findIdx?_map]
 rfl
theorem canZ_eq (r : Rm) (w : Wt) : Yl r.s (r.gs.map Gr.w) w = Ya r w := by
 have h5 : canSZ r.s (r.gs.map Gr.w) w = canS r w := by
  unfold canSZ canS
  cases lk r.s.C w.o with
  | none => rfl
  | some q =>
   simp only
   congr 1
   split
   · unfold takI
     rw [← recv_tak]
     cases recvR r.gs w.o with
     | none => rfl
     | some t => simp
   · rfl
 unfold Yl Ya
 rw [h5]
theorem can_kind {r : Rm} {w : Wt} (h : Ya r w = true) : ¬ w.k = 0 := fun e => by
 unfold Ya at h
 rw [if_neg (by omega), if_neg (by omega), if_neg (by omega), if_neg (by omega), if_neg (by omega), if_neg (by omega)] at h
 simp [e] at h
theorem outZ_eq (r : Rm) : outZ r.z = outR r := by
 unfold outZ outR someZ canyZ Rm.z
 simp only [List.take_length, List.any_map, Function.comp_def, canZ_eq]
 by_cases h1 : r.gs.any (fun x => Ya r x.w) = true
 · have h2 : r.gs.any (fun x => x.w.k != 0) = true := by
    obtain ⟨x, hx, hc⟩ := List.any_eq_true.1 h1
    exact List.any_eq_true.2 ⟨x, hx, by simpa using can_kind hc⟩
   rw [if_pos h2, if_pos h1, if_pos h1]
 · rw [if_neg h1, if_neg h1]
def Ez (r : Rm) : Prop := r.e.o = 0 -> r.e = zE
theorem look_eq {r : Rm} (h : Ez r) : Yw r.z = (Yr r).z := by
 unfold Yw Yr endR
 by_cases he : r.e.o = 0
 · rw [if_pos (show r.z.e.o = 0 from he), if_pos he, outZ_eq]
   have := h he
   show ({ r.z with e := { r.z.e with o := outR r } } : Rz) = _
   unfold Rm.z
   simp only [this, zE]
 · rw [if_neg (show ¬ r.z.e.o = 0 from he), if_neg he]
theorem set_id {α : Type} {l : List α} {i : Nat} {x : α} (h : l[i]? = some x) : l.set i x = l := by
 apply List.ext_getElem?
 intro j
 by_cases e : i = j
 · subst e
   rw [List.getElem?_set_self (G_ h), h]
 · rw [List.getElem?_set_ne e]
theorem ask_eq {r : Rm} {g : Nat} {x : Gr} (hx : r.gs[g]? = some x) (he : r.e.o = 0) : ask1Z r.z g = (Ye r g).1.z := by
 unfold ask1Z Ye
 rw [if_pos (show r.z.e.o = 0 from he), z_pe, hx]
 simp only [Option.map_some]
 by_cases h0 : (Yt x.rest).1.2.1 = 0
 · rw [if_pos h0, if_pos h0]
   unfold Rm.z
   simp only [List.map_set]
 · rw [if_neg h0, if_neg h0]
   unfold Rm.z faultR
   simp only [List.map_set]
   rw [set_id (l := List.map Gr.w r.gs) (x := x.w) (by rw [List.getElem?_map, hx]; rfl)]
theorem ask_no {r : Rm} {g : Nat} (he : ¬ r.e.o = 0) : ask1Z r.z g = r.z := by
 unfold ask1Z
 rw [if_neg (show ¬ r.z.e.o = 0 from he)]
theorem ask_e {r : Rm} {g : Nat} {x : Gr} (hx : r.gs[g]? = some x) : ((Ye r g).2 = true -> (Ye r g).1.e = r.e) /\ ((Ye r g).2 = false -> (Ye r g).1.e.o = 3) := by
 unfold Ye
 rw [hx]
 simp only
 split
 · exact ⟨fun _ => rfl, fun h => (by cases h)⟩
 · exact ⟨fun h => (by cases h), fun _ => rfl⟩
theorem ask2_eq {r : Rm} {g t : Nat} {x : Gr} (hx : r.gs[g]? = some x) (ht : t < r.gs.length) (he : r.e.o = 0) : ask1Z (ask1Z r.z g) t = (match Ye r g with | (r2, true) => (Ye r2 t).1 | (r2, false) => r2).z := by
 rw [ask_eq hx he]
 have h1 := ask_e hx
 have h2 := ask_gl r g
 generalize Ye r g = q at h1 h2
 obtain ⟨r2, b⟩ := q
 simp only at h1 h2
 cases b with
 | true =>
  have hy : r2.gs[t]? = some r2.gs[t] := List.getElem?_eq_getElem (by omega)
  exact ask_eq hy (by rw [h1.1 rfl]; exact he)
 | false => exact ask_no (by rw [h1.2 rfl]; decide)
theorem note_eq (r : Rm) (g : Nat) (o : Int) : YJ r.z g o = (ZI r g o).z := by
 unfold YJ ZI
 rw [z_ws]
 cases r.gs[g]? with
 | none => rfl
 | some x => rfl
theorem fault_eq (r : Rm) (g : Nat) (h : V3) : (Yr (faultR r g h)).z = faultZ r.z g h := by
 unfold Yr endR faultR faultZ Rm.z
 simp
theorem ask_ez {r : Rm} (h : Ez r) (g : Nat) : Ez (Ye r g).1 := by
 unfold Ye
 split
 · split
   · exact h
   · exact fun e => by cases e
 · exact h
theorem ask2_ez {r : Rm} (h : Ez r) (g t : Nat) : Ez (match Ye r g with | (r2, true) => (Ye r2 t).1 | (r2, false) => r2) := by
 have h1 := ask_ez h g
 generalize Ye r g = q at h1
 obtain ⟨r2, b⟩ := q
 cases b
 · exact h1
 · exact ask_ez h1 t
theorem asks1 (r : Rz) (g : Nat) : Yn r [g] 1 = ask1Z r g := rfl
theorem asks2 (r : Rz) (g t : Nat) : Yn r [g, t] 2 = ask1Z (ask1Z r g) t := rfl
theorem YD (r : Rm) (g : Nat) (o : Int) : (ZI r g o).gs = r.gs /\ (ZI r g o).e = r.e := by
 unfold ZI
 split <;> exact ⟨rfl, rfl⟩
theorem start_eq (S : List (List Wt)) (s : St) (fn : Int) : startZ S s fn = (startR S s fn).z := by
 unfold startZ startR enterR
 cases lk S fn with
 | none => exact (fault_eq ⟨s, [], [], zE⟩ 0 (5, 0, 0)).symm
 | some l =>
  simp only [List.nil_append]
  rw [asks1]
  have e : ask1Z ⟨s, [zW], [], zE, [l]⟩ 0 = (Ye ⟨s, [⟨l, zW⟩], [], zE⟩ 0).1.z := ask_eq (r := ⟨s, [⟨l, zW⟩], [], zE⟩) (g := 0) (x := ⟨l, zW⟩) rfl rfl
  rw [e]
  exact look_eq (ask_ez (fun _ => rfl) 0)
theorem do_eq {S : List (List Wt)} {r : Rm} (he : r.e = zE) {g : Nat} {x : Gr} (hx : r.gs[g]? = some x) (hc : Ya r x.w = true) : doZ S r.z g = (doR S r g).z := by
 have he0 : r.e.o = 0 := by rw [he]; rfl
 have hz : Ez r := fun _ => he
 have hlen : r.z.ws.length = r.gs.length := by simp [Rm.z]
 unfold doZ doR Yg
 rw [z_ws, hx]
 simp only [Option.map_some]
 by_cases h10 : x.w.k = 10
 · have n4 : ¬ (x.w.k = 4 /\ lk r.s.M x.w.o ≠ some true) := fun h => by omega
   rw [if_pos h10, if_neg n4, if_pos h10, hlen]
   unfold splitR
   by_cases h8 : 8 <= r.gs.length
   · rw [if_pos h8, if_pos h8, fault_eq]
   · rw [if_neg h8, if_neg h8]
     unfold enterR
     cases lk S x.w.o with
     | none => exact (fault_eq r g (5, 0, x.w.a)).symm
     | some l =>
      simp only
      have hx1 : ({ r with gs := r.gs ++ [⟨l, zW⟩] } : Rm).gs[g]? = some x := (List.getElem?_append_left (G_ hx)).trans hx
      have hx2 : (ZI { r with gs := r.gs ++ [⟨l, zW⟩] } g (r.gs.length : Int)).gs[g]? = some x := by rw [(YD _ _ _).1]; exact hx1
      have hl2 : r.gs.length < (ZI { r with gs := r.gs ++ [⟨l, zW⟩] } g (r.gs.length : Int)).gs.length := by rw [(YD _ _ _).1]; simp
      have he2 : (ZI { r with gs := r.gs ++ [⟨l, zW⟩] } g (r.gs.length : Int)).e = zE := by rw [(YD _ _ _).2]; exact he
      rw [asks2]
      have e1 : ({ YJ r.z g (r.gs.length : Int) with ws := r.z.ws ++ [zW], pe := r.z.pe ++ [l] } : Rz) = (ZI { r with gs := r.gs ++ [⟨l, zW⟩] } g (r.gs.length : Int)).z := by
       unfold YJ ZI
       rw [z_ws, hx, hx1]
       simp [Rm.z]
      rw [e1, ask2_eq hx2 hl2 (by rw [he2]; rfl)]
      exact look_eq (ask2_ez (fun _ => he2) g _)
 rw [if_neg h10, if_neg h10]
 by_cases hA : x.w.k = 4 /\ lk r.s.M x.w.o ≠ some true
 · rw [if_pos hA, if_pos (show x.w.k = 4 /\ lk r.z.s.M x.w.o ≠ some true from hA), fault_eq]
 rw [if_neg hA, if_neg (show ¬ (x.w.k = 4 /\ lk r.z.s.M x.w.o ≠ some true) from hA)]
 by_cases hC : x.w.k = 5 /\ YI r.s x.w.o = true
 · rw [if_pos hC, if_pos (show x.w.k = 5 /\ YI r.z.s x.w.o = true from hC)]
   unfold meetR
   rw [show r.z.ws.findIdx? (isR x.w.o) = recvR r.gs x.w.o from (recv_tak r.gs x.w.o).symm]
   cases ht : recvR r.gs x.w.o with
   | none =>
    exfalso
    have hcs : canS r x.w = true := by
     unfold Ya at hc
     rw [if_neg (by omega), if_neg (by omega), if_neg (by omega), if_pos hC.1] at hc
     exact hc
    have hz := hC.2
    unfold canS at hcs
    unfold YI at hz
    cases hl : lk r.s.C x.w.o with
    | none => rw [hl] at hcs; cases hcs
    | some q =>
     rw [hl] at hcs hz
     simp only [Bool.and_eq_true] at hcs
     rw [if_pos (by simpa using hz), ht] at hcs
     simp at hcs
   | some t =>
    simp only
    have htl : t < r.gs.length := (List.findIdx?_eq_some_iff_getElem.1 ht).1
    have e1 : YJ (YJ r.z g x.w.o) t x.w.o = (ZI (ZI r g x.w.o) t x.w.o).z := by rw [note_eq, note_eq]
    have g2 : (ZI (ZI r g x.w.o) t x.w.o).gs = r.gs := by rw [(YD _ _ _).1, (YD _ _ _).1]
    have e2 : (ZI (ZI r g x.w.o) t x.w.o).e = zE := by rw [(YD _ _ _).2, (YD _ _ _).2]; exact he
    rw [asks2, e1, ask2_eq (by rw [g2]; exact hx) (by rw [g2]; exact htl) (by rw [e2]; rfl)]
    exact look_eq (ask2_ez (fun _ => e2) g t)
 rw [if_neg hC, if_neg (show ¬ (x.w.k = 5 /\ YI r.z.s x.w.o = true) from hC)]
 by_cases hD : x.w.k = 12
 · rw [if_pos hD, if_pos hD]
   have e1 : ({ YJ r.z g x.w.o with ws := r.z.ws.set g zW } : Rz) = ({ ZI r g x.w.o with gs := r.gs.set g ⟨x.rest, zW⟩ } : Rm).z := by
    rw [note_eq]
    unfold ZI
    rw [hx]
    unfold Rm.z
    simp only [List.map_set]
    rw [set_id (l := List.map Gr.rest r.gs) (x := x.rest) (by rw [List.getElem?_map, hx]; rfl)]
   rw [e1]
   exact look_eq (fun _ => by show (ZI r g x.w.o).e = zE; rw [(YD _ _ _).2]; exact he)
 rw [if_neg hD, if_neg hD]
 have e1 : YJ { r.z with s := (ZH r.z.s x.w).1 } g x.w.o = (ZI { r with s := (ZH r.s x.w).1 } g x.w.o).z := note_eq { r with s := (ZH r.s x.w).1 } g x.w.o
 have g1 : (ZI { r with s := (ZH r.s x.w).1 } g x.w.o).gs = r.gs := (YD _ _ _).1
 have e2 : (ZI { r with s := (ZH r.s x.w).1 } g x.w.o).e = zE := by rw [(YD _ _ _).2]; exact he
 rw [asks1, e1, ask_eq (by rw [g1]; exact hx) (by rw [e2]; rfl)]
 exact look_eq (ask_ez (fun _ => e2) g)
theorem rdo_full {w : World} {G : Nat -> Prop} {B g : Nat} {S : List (List Wt)} {r : Rz} (h : Rr w G B g S r) (i : Nat) (o a v0 v1 v2 : Int) (hx : r.ws[i]? = some ⟨10, o, a, (v0, v1, v2)⟩) (h8 : 8 <= r.ws.length) :
 Calls Tryz.prog 12 #[P_ g, I_ (i : Nat)] w (RrP w G B g S (faultZ r i (5, 0, a)) (.tuple #[])) := by
 obtain ⟨Fs, Rs, Fo, R, gs, gt, vW, vE, vL, vO, vA, vs, os, as_, h, hG⟩ := h
 have hi := (G_ hx)
 obtain ⟨b, cW, eW, hb, p0, p1, p2, p3, p4, p5⟩ := h.waitAt i _ hx
 subst eW
 simp only at p0 p1 p2 p3 p4 p5
 have c1 := h.cells.1.2.1
 have B0 := Za (Zd w (.cells #[I_ 10, I_ o, I_ a, I_ v0, I_ v1, .int .u64 v2] 76))
 have KW := Za (B_ w (.cells #[I_ 10, I_ o, I_ a, I_ v0, I_ v1, .int .u64 v2] 76))
 obtain ⟨n, hn⟩ : ∃ n, n = r.ws.length := ⟨_, rfl⟩
 rw [← hn] at c1 hi
 have hi1 : (i : Int) < (n : Int) := by omega
 have hi0 : (0 : Int) <= (i : Int) := by omega
 have h8' : decide ((8 : Int) <= (n : Int)) = true := decide_eq_true (by omega)
 have h8'' : decide ((n : Int) < 8) = false := decide_eq_false (by omega)
 have Q1 := Za (h.bel B0.out)
 have HG := Za hG
 have HN := Za hn
 unfold faultZ
 simp only
 clear h hG hx hi hn hb h8
 go_enter Tryz.func12, Tryz.ntmps12
 go_upto_region 3 with fail
 generalize w.alloc _ = w1 at *
 have c1 := Q1.out.cells.1.2.1
 rw [← HN.out] at c1
 clear p0 p1 p2 p3 p4 p5
 go_quiet (fail)
 have DQ := below_drewN (Below.refl w1.heap.size w1) nq
 have RF := Za (((Q1.out.bel DQ).rr).wideG HG.out)
 have CF := Za ((Ch.of_bel (F := G) B0.out).trans (Ch.of_bel DQ))
 have KF : Hid ((w1.drewN nq).heap[w.heap.size]? = _) := Za ((DQ.block _ (Ze KW.out)).trans KW.out)
 have x2 := Zb KF.out 2 _ rfl
 clear c1 DQ Q1 KW B0
 generalize w1.drewN nq = w2 at *
 have RF2 := Za (RF.out.bel (w' := w2.drew) (below_drewN (Below.refl _ _) 1))
 have CF2 : Hid (Ch G G w w2.drew) := Za (CF.out.trans (Ch.of_bel (F := G) (below_drewN (Below.refl w2.heap.size w2) 1)))
 have SX : Hid (w2.drew.cell? ⟨w.heap.size, 2, none⟩ = some (I_ a)) := Za x2
 clear RF CF x2
 go_upto_region 4 with fail
 refine ZD (S := fun wz => wz.cell? ⟨w.heap.size, 2, none⟩ = some (I_ a)) (fun j => decide (j < 7)) ZJ SX.out (fun hH => ?_)
 clear SX
 generalize w2.drew = wf at *
 refine M_ 0 ?_
 simp only [Act.put, S_]
 refine M_ 1 ?_
 simp only [Act.put, S_]
 refine M_ 2 ?_
 simp only [Act.put, S_]
 refine M_ 3 ?_
 simp only [Act.put, S_]
 refine M_ 4 ?_
 simp only [Act.put, S_]
 refine RT_ 5 (fun K1 hK1 => ?_)
 have q := hH
 go_simp
 refine hK1.out _ _ (fun _ => hH) (fun hh => ?_)
 clear hK1 K1 q hh
 refine M_ 6 ?_
 simp only [Act.put, S_]
 have FA := Za (rFault_any RF2.out (i : Nat) 5 0 a)
 unfold h3V at FA
 simp only at FA
 clear hH
 refine RT_ 7 (fun K1 hK1 => ?_)
 go_simp
 refine FA.out.mono ?_
 rintro e w3 ⟨rfl, G3, r3, c3⟩
 refine hK1.out _ _ (fun h => absurd h (by decide)) (fun _ => ?_)
 clear hK1 K1
 refine ZW (by kernel_rfl) ?_ _
 have R3 := Za r3
 have C3 := Za (CF2.out.trans c3)
 clear r3 c3 FA RF2 CF2
 go_wp2_with fail
 go_end0
 exact ⟨rfl, G3, R3.out, C3.out⟩
theorem rdo_none {w : World} {G : Nat -> Prop} {B g : Nat} {S : List (List Wt)} {r : Rz} (h : Rr w G B g S r) (i : Nat) (o a v0 v1 v2 : Int) (hx : r.ws[i]? = some ⟨10, o, a, (v0, v1, v2)⟩) (h8 : r.ws.length < 8) (hf : lk S o = none) :
 Calls Tryz.prog 12 #[P_ g, I_ (i : Nat)] w (RrP w G B g S (faultZ r i (5, 0, a)) (.tuple #[])) := by
 obtain ⟨Fs, Rs, Fo, R, gs, gt, vW, vE, vL, vO, vA, vs, os, as_, h, hG⟩ := h
 have hi := (G_ hx)
 obtain ⟨b, cW, eW, hb, p0, p1, p2, p3, p4, p5⟩ := h.waitAt i _ hx
 subst eW
 simp only at p0 p1 p2 p3 p4 p5
 have c1 := h.cells.1.2.1
 have B0 := Za (Zd w (.cells #[I_ 10, I_ o, I_ a, I_ v0, I_ v1, .int .u64 v2] 76))
 have KW := Za (B_ w (.cells #[I_ 10, I_ o, I_ a, I_ v0, I_ v1, .int .u64 v2] 76))
 obtain ⟨n, hn⟩ : ∃ n, n = r.ws.length := ⟨_, rfl⟩
 rw [← hn] at c1 hi
 have hi1 : (i : Int) < (n : Int) := by omega
 have hi0 : (0 : Int) <= (i : Int) := by omega
 have h8' : decide ((8 : Int) <= (n : Int)) = false := decide_eq_false (by omega)
 have Q1 := Za (h.bel B0.out)
 have HG := Za hG
 have HN := Za hn
 have HF := Za hf
 unfold faultZ
 simp only
 clear hf
 clear h hG hx hi hn hb h8
 go_enter Tryz.func12, Tryz.ntmps12
 go_upto_region 3 with fail
 generalize w.alloc _ = w1 at *
 have S1 : Hid ((fun wz => wz.cell? ⟨g, 1, none⟩ = some (.slice (some ⟨b, 0, none⟩) n cW) /\ wz.cell? ⟨g, 8, none⟩ = some (P_ gt) /\ wz.cell? ⟨w.heap.size, 1, none⟩ = some (I_ o)) w1.drew) := Za ⟨by rw [HN.out]; exact Q1.out.cells.1.2.1, Q1.out.cells.1.2.2.2, Zb KW.out 1 _ rfl⟩
 have DD := below_drewN (Below.refl w1.heap.size w1) 1
 have Q2 := Za (Q1.out.bel (w' := w1.drew) DD)
 have B2 := Za (Zp B0.out)
 have KW2 : Hid (w1.drew.heap[w.heap.size]? = _) := Za KW.out
 clear p0 p1 p2 p3 p4 p5 c1 DD Q1 KW B0
 refine ZD (S := fun wz => wz.cell? ⟨g, 1, none⟩ = some (.slice (some ⟨b, 0, none⟩) n cW) /\ wz.cell? ⟨g, 8, none⟩ = some (P_ gt) /\ wz.cell? ⟨w.heap.size, 1, none⟩ = some (I_ o)) (fun j => decide (j ≠ 14)) ZJ S1.out (fun hH => ?_)
 clear S1
 generalize World.drew _ = wd at *
 refine M_ 0 ?_
 simp only [Act.put, S_]
 refine M_ 1 ?_
 simp only [Act.put, S_]
 refine M_ 2 ?_
 simp only [Act.put, S_]
 refine M_ 3 ?_
 simp only [Act.put, S_]
 refine RT_ 4 (fun K1 hK1 => ?_)
 have q := hH.1
 go_simp
 refine hK1.out _ _ (fun _ => hH) (fun hh => ?_)
 clear hK1 K1 q hh
 refine M_ 5 ?_
 simp only [Act.put, S_]
 refine M_ 6 ?_
 simp only [Act.put, S_]
 refine M_ 7 ?_
 simp only [Act.put, S_]
 refine M_ 8 ?_
 simp only [Act.put, S_]
 refine M_ 9 ?_
 simp only [Act.put, S_]
 refine M_ 10 ?_
 simp only [Act.put, S_]
 refine L_ 11 (v := ?_) ?_ hH ?_
 rotate_left 1
 · (intro w hSw; have q := hSw.2.1; clear hSw; go_simp <;> with_reducible rfl)
 simp only [Act.put, S_]
 refine M_ 12 ?_
 simp only [Act.put, S_]
 refine L_ 13 (v := ?_) ?_ hH ?_
 rotate_left 1
 · (intro w hSw; have q := hSw.2.2; clear hSw; go_simp <;> with_reducible rfl)
 simp only [Act.put, S_]
 clear hH
 refine RT_ 14 (fun K1 hK1 => ?_)
 have CT := Za (begin_no Q2.out o HF.out)
 go_simp
 refine CT.out.mono ?_
 rintro e w5 ⟨rfl, rfl⟩
 refine hK1.out _ _ (fun h => absurd h (by decide)) (fun _ => ?_)
 clear hK1 K1 CT
 refine M_ 15 ?_
 simp only [Act.put, S_]
 refine M_ 16 ?_
 simp only [Act.put, S_]
 refine ZW (by kernel_rfl) ?_ _
 have RF := Za ((Q2.out.rr).wideG HG.out)
 have CF := Za (Ch.of_bel (F := G) B2.out)
 have x2 := Zb KW2.out 2 _ rfl
 clear Q2 KW2 B2
 have RF2 := Za (RF.out.bel (w' := wd.drew) (below_drewN (Below.refl _ _) 1))
 have CF2 : Hid (Ch G G w wd.drew) := Za (CF.out.trans (Ch.of_bel (F := G) (below_drewN (Below.refl wd.heap.size wd) 1)))
 have SX : Hid (wd.drew.cell? ⟨w.heap.size, 2, none⟩ = some (I_ a)) := Za x2
 clear RF CF x2
 go_upto_region 4 with fail
 refine ZD (S := fun wz => wz.cell? ⟨w.heap.size, 2, none⟩ = some (I_ a)) (fun j => decide (j < 7)) ZJ SX.out (fun hH => ?_)
 clear SX
 generalize wd.drew = wf at *
 refine M_ 0 ?_
 simp only [Act.put, S_]
 refine M_ 1 ?_
 simp only [Act.put, S_]
 refine M_ 2 ?_
 simp only [Act.put, S_]
 refine M_ 3 ?_
 simp only [Act.put, S_]
 refine M_ 4 ?_
 simp only [Act.put, S_]
 refine RT_ 5 (fun K1 hK1 => ?_)
 have q := hH
 go_simp
 refine hK1.out _ _ (fun _ => hH) (fun hh => ?_)
 clear hK1 K1 q hh
 refine M_ 6 ?_
 simp only [Act.put, S_]
 have FA := Za (rFault_any RF2.out (i : Nat) 5 0 a)
 unfold h3V at FA
 simp only at FA
 clear hH
 refine RT_ 7 (fun K1 hK1 => ?_)
 go_simp
 refine FA.out.mono ?_
 rintro e w3 ⟨rfl, G3, r3, c3⟩
 refine hK1.out _ _ (fun h => absurd h (by decide)) (fun _ => ?_)
 clear hK1 K1
 refine ZW (by kernel_rfl) ?_ _
 have R3 := Za r3
 have C3 := Za (CF2.out.trans c3)
 clear r3 c3 FA RF2 CF2
 go_wp2_with fail
 go_end0
 exact ⟨rfl, G3, R3.out, C3.out⟩
theorem rdo_go {w : World} {G : Nat -> Prop} {B g : Nat} {S : List (List Wt)} {r : Rz} (h : Rr w G B g S r) (hB : B <= 900000) (i : Nat) (o a v0 v1 v2 : Int) (hx : r.ws[i]? = some ⟨10, o, a, (v0, v1, v2)⟩) (h8 : r.ws.length < 8) (fn : Nat) (hfo : o = (fn : Nat)) (l : List Wt) (hl : S[fn]? = some l) (hp : r.pe.length = r.ws.length) (hev : r.ev.length <= 90000) :
    Calls Tryz.prog 12 #[P_ g, I_ (i : Nat)] w (RrP w G B g S (Yw (Yn { YJ r i r.ws.length with ws := r.ws ++ [zW], pe := r.pe ++ [l] } [i, r.ws.length] 2)) (.tuple #[])) := by
  obtain ⟨Fs, Rs, Fo, R, gs, gt, vW, vE, vL, vO, vA, vs, os, as_, h, hG⟩ := h
  have hi := (G_ hx)
  obtain ⟨b, cW, eW, hb, p0, p1, p2, p3, p4, p5⟩ := h.waitAt i _ hx
  subst eW
  simp only at p0 p1 p2 p3 p4 p5
  have c1 := h.cells.1.2.1
  have B0 := Za (Zd w (.cells #[I_ 10, I_ o, I_ a, I_ v0, I_ v1, .int .u64 v2] 76))
  have KW := Za (B_ w (.cells #[I_ 10, I_ o, I_ a, I_ v0, I_ v1, .int .u64 v2] 76))
  obtain ⟨n, hn⟩ : ∃ n, n = r.ws.length := ⟨_, rfl⟩
  rw [← hn] at c1 hi
  have hi1 : (i : Int) < (n : Int) := by omega
  have hi0 : (0 : Int) <= (i : Int) := by omega
  subst hfo
  have h8' : decide ((8 : Int) <= (n : Int)) = false := decide_eq_false (by omega)
  have Q1 := Za (h.bel B0.out)
  have HG := Za hG
  have HN := Za hn
  have HX := Za hx
  have HLF := Za hl
  have HP := Za (show r.pe.length <= 8 by omega)
  have HP2 := Za hp
  have H8 := Za h8
  have HEV := Za hev
  have HI : Hid (i < r.ws.length) := Za (G_ hx)
  have HZ : Hid (Yw (Yn { YJ r i r.ws.length with ws := r.ws ++ [zW], pe := r.pe ++ [l] } [i, r.ws.length] 2) = Yw (Yn { r with pe := r.pe ++ [l], ev := r.ev ++ [⟨i, 10, r.ws.length, a⟩], ws := r.ws ++ [zW] } [i, r.ws.length] 2)) := Za (by unfold YJ; rw [hx])
  rw [HZ.out]
  clear hl hp hev HZ
  clear h hG hx hi hn hb h8
  go_enter Tryz.func12, Tryz.ntmps12
  go_upto_region 3 with fail
  generalize w.alloc _ = w1 at *
  have S1 : Hid ((fun wz => wz.cell? ⟨g, 1, none⟩ = some (.slice (some ⟨b, 0, none⟩) n cW) /\ wz.cell? ⟨g, 8, none⟩ = some (P_ gt) /\ wz.cell? ⟨w.heap.size, 1, none⟩ = some (I_ (fn : Nat))) w1.drew) := Za ⟨by rw [HN.out]; exact Q1.out.cells.1.2.1, Q1.out.cells.1.2.2.2, Zb KW.out 1 _ rfl⟩
  have DD := below_drewN (Below.refl w1.heap.size w1) 1
  have Q2 := Za (Q1.out.bel (w' := w1.drew) DD)
  have B2 := Za (Zp B0.out)
  have KW2 : Hid (w1.drew.heap[w.heap.size]? = _) := Za KW.out
  clear p0 p1 p2 p3 p4 p5 c1 DD Q1 KW B0
  refine ZD (S := fun wz => wz.cell? ⟨g, 1, none⟩ = some (.slice (some ⟨b, 0, none⟩) n cW) /\ wz.cell? ⟨g, 8, none⟩ = some (P_ gt) /\ wz.cell? ⟨w.heap.size, 1, none⟩ = some (I_ (fn : Nat))) (fun j => decide (j ≠ 14)) ZJ S1.out (fun hH => ?_)
  clear S1
  generalize World.drew _ = wd at *
  refine M_ 0 ?_
  simp only [Act.put, S_]
  refine M_ 1 ?_
  simp only [Act.put, S_]
  refine M_ 2 ?_
  simp only [Act.put, S_]
  refine M_ 3 ?_
  simp only [Act.put, S_]
  refine RT_ 4 (fun K1 hK1 => ?_)
  have q := hH.1
  go_simp
  refine hK1.out _ _ (fun _ => hH) (fun hh => ?_)
  clear hK1 K1 q hh
  refine M_ 5 ?_
  simp only [Act.put, S_]
  refine M_ 6 ?_
  simp only [Act.put, S_]
  refine M_ 7 ?_
  simp only [Act.put, S_]
  refine M_ 8 ?_
  simp only [Act.put, S_]
  refine M_ 9 ?_
  simp only [Act.put, S_]
  refine M_ 10 ?_
  simp only [Act.put, S_]
  refine L_ 11 (v := ?_) ?_ hH ?_
  rotate_left 1
  · (intro w hSw; have q := hSw.2.1; clear hSw; go_simp <;> with_reducible rfl)
  simp only [Act.put, S_]
  refine M_ 12 ?_
  simp only [Act.put, S_]
  refine L_ 13 (v := ?_) ?_ hH ?_
  rotate_left 1
  · (intro w hSw; have q := hSw.2.2; clear hSw; go_simp <;> with_reducible rfl)
  simp only [Act.put, S_]
  clear hH
  refine RT_ 14 (fun K1 hK1 => ?_)
  have CT := Za (begin_ok Q2.out HG.out fn l HLF.out HP.out)
  go_simp
  refine CT.out.mono ?_
  rintro e w5 ⟨rfl, G5, r5, c5⟩
  refine hK1.out _ _ (fun h => absurd h (by decide)) (fun _ => ?_)
  clear hK1 K1 CT
  refine M_ 15 ?_
  simp only [Act.put, S_]
  refine M_ 16 ?_
  simp only [Act.put, S_]
  refine ZW (by kernel_rfl) ?_ _
  have C5 := Za ((Ch.of_bel (F := G) B2.out).trans c5)
  have SP := Za (rSpawn_any r5 i ⟨10, (fn : Nat), a, (v0, v1, v2)⟩ HX.out (by have := HEV.out; show r.ev.length <= 100000; omega) H8.out)
  clear r5 c5 Q2 KW2 B2
  go_wp2_with fail
  refine SP.out.mono ?_
  rintro e w6 ⟨v, G6, rfl, r6, c6, sk⟩
  have CK := Za (rask_any r6 (by omega) sk (fun y hy => by
    simp at hy
    have h1 := HI.out
    have h2 := HP2.out
    rcases hy with rfl | rfl
    · simp; omega
    · simp; omega))
  have C6 := Za (C5.out.trans c6)
  obtain ⟨av, cv, ev, _⟩ := sk
  subst ev
  clear r6 c6 SP C5
  go_wp2_with fail
  refine CK.out.mono ?_
  rintro e w7 ⟨rfl, G7, r7, c7⟩
  have R7 := Za r7
  have C7 := Za (C6.out.trans c7)
  clear r7 c7 CK C6
  go_wp2_with fail
  go_end0
  exact ⟨rfl, G7, R7.out, C7.out⟩
theorem Yu {S : List (List Wt)} {r : Rz} {i : Nat} {k o a : Int} {v : V3} (hx : r.ws[i]? = some ⟨k, o, a, v⟩) (h1 : ¬ k = 10) (h2 : ¬ (k = 4 /\ lk r.s.M o ≠ some true)) (h3 : ¬ (k = 5 /\ YI r.s o = true)) (h4 : ¬ k = 12) {s' : St} (hs : (ZH r.s ⟨k, o, a, v⟩).1 = s') : Yw (Yn { r with s := s', ev := r.ev ++ [⟨i, k, o, a⟩] } [i] 1) = doZ S r i := by
 unfold doZ
 rw [hx]
 simp only
 rw [if_neg h1, if_neg h2, if_neg h3, if_neg h4, hs]
 unfold YJ
 simp only
 rw [hx]
theorem RrP.up {w : World} {G : Nat -> Prop} {B g : Nat} {S : List (List Wt)} {r : Rz} {v : Value} {e : Ending} {w' : World} (h : RrP w G B g S r v e w') : RrP w G (B + 1) g S r v e w' := by
 obtain ⟨he, G', hr, hc⟩ := h
 exact ⟨he, G', hr.up (Nat.le_succ B), hc⟩
theorem rdo_any {w : World} {G : Nat -> Prop} {B g : Nat} {S : List (List Wt)} {r : Rz} (h : Rr w G B g S r) (hB : B <= 900000) (i : Nat) (x : Wt) (hx : r.ws[i]? = some x) (hc : Yl r.s r.ws x = true) (hp : r.pe.length = r.ws.length) (hev : r.ev.length <= 90000) :
 Calls Tryz.prog 12 #[P_ g, I_ (i : Nat)] w (RrP w G (B + 1) g S (doZ S r i) (.tuple #[])) := by
 obtain ⟨k, o, a, v0, v1, v2⟩ := x
 have hi := (G_ hx)
 have key : ∀ {r' : Rz} {lx : List (Nat × V3)}, ¬ k = 10 -> (∀ w1, Below w.heap.size w w1 -> Calls Tryz.prog 39 #[P_ g, I_ (i : Nat)] w1 (YB w1 G (B + 1) g S r' lx)) -> (∀ y ∈ lx, y.1 < r'.ws.length /\ y.1 < r'.pe.length) -> Yw (Yn r' (lx.map Prod.fst) lx.length) = doZ S r i -> Calls Tryz.prog 12 #[P_ g, I_ (i : Nat)] w (RrP w G (B + 1) g S (doZ S r i) (.tuple #[])) := fun {r' lx} hk AC hl he => by
  rw [← he]
  exact rdo_act h (by omega) i _ hx (by simpa using hk) AC hl
 unfold Yl at hc
 simp only at hc
 by_cases k10 : k = 10
 · subst k10
   clear key
   by_cases h8 : 8 <= r.ws.length
   · have e : doZ S r i = faultZ r i (5, 0, a) := by
      unfold doZ
      rw [hx]
      simp only
      rw [if_pos trivial, if_pos h8]
     rw [e]
     exact (rdo_full h i o a v0 v1 v2 hx h8).mono fun _ _ q => q.up
   · cases hf : lk S o with
     | none =>
      have e : doZ S r i = faultZ r i (5, 0, a) := by
       unfold doZ
       rw [hx]
       simp only
       rw [if_pos trivial, if_neg h8, hf]
      rw [e]
      exact (rdo_none h i o a v0 v1 v2 hx (by omega) hf).mono fun _ _ q => q.up
     | some l =>
      obtain ⟨fn, hfn, hl⟩ := ZC hf
      have e : doZ S r i = Yw (Yn { YJ r i r.ws.length with ws := r.ws ++ [zW], pe := r.pe ++ [l] } [i, r.ws.length] 2) := by
       unfold doZ
       rw [hx]
       simp only
       rw [if_pos trivial, if_neg h8, hf]
      rw [e]
      exact (rdo_go h hB i o a v0 v1 v2 hx (by omega) fn hfn l hl hp hev).mono fun _ _ q => q.up
 have one : ∀ {r' : Rz} {y : V3}, r'.ws = r.ws -> r'.pe = r.pe -> ∀ z ∈ [(i, y)], z.1 < r'.ws.length /\ z.1 < r'.pe.length := fun h1 h2 z hz => by
  rw [List.mem_singleton] at hz
  subst hz
  rw [h1, h2]
  exact ⟨hi, by show i < _; omega⟩
 by_cases k1 : k = 1
 · subst k1
   rw [if_pos (.inl rfl)] at hc
   unfold canA at hc
   simp only at hc
   cases hl : lk r.s.P o with
   | none => rw [hl] at hc; cases hc
   | some y =>
    obtain ⟨j, rfl, hj⟩ := ZC hl
    exact key k10 (fun w1 hb => ract_1 (h.bel hb) i j a v0 v1 v2 hx hev y hj) (one rfl rfl) (Yu hx k10 (fun e => absurd e.1 (by decide)) (fun e => absurd e.1 (by decide)) (by decide) (by simp [ZH]))
 by_cases k2 : k = 2
 · subst k2
   rw [if_pos (.inr rfl)] at hc
   unfold canA at hc
   simp only at hc
   cases hl : lk r.s.P o with
   | none => rw [hl] at hc; cases hc
   | some y =>
    obtain ⟨j, rfl, hj⟩ := ZC hl
    exact key k10 (fun w1 hb => ract_2 (h.bel hb) i j a v0 v1 v2 hx hev y hj) (one rfl rfl) (Yu hx k10 (fun e => absurd e.1 (by decide)) (fun e => absurd e.1 (by decide)) (by decide) (by simp [ZH]))
 rw [if_neg (fun e => e.elim k1 k2)] at hc
 by_cases k3 : k = 3
 · subst k3
   rw [if_pos rfl] at hc
   unfold canL at hc
   simp only at hc
   cases hl : lk r.s.M o with
   | none => rw [hl] at hc; cases hc
   | some y =>
    obtain ⟨j, rfl, hj⟩ := ZC hl
    exact key k10 (fun w1 hb => ract_3 (h.bel hb) i j a v0 v1 v2 hx hev y hj) (one rfl rfl) (Yu hx k10 (fun e => absurd e.1 (by decide)) (fun e => absurd e.1 (by decide)) (by decide) (by simp [ZH]))
 rw [if_neg k3] at hc
 by_cases k4 : k = 4
 · subst k4
   rw [if_pos rfl] at hc
   cases hl : lk r.s.M o with
   | none => rw [hl] at hc; cases hc
   | some y =>
    obtain ⟨j, rfl, hj⟩ := ZC hl
    cases y with
    | true => exact key k10 (fun w1 hb => ract_4 (h.bel hb) i j a v0 v1 v2 hx hev true hj rfl) (one rfl rfl) (Yu hx k10 (fun e => e.2 hl) (fun e => absurd e.1 (by decide)) (by decide) (by simp [ZH]))
    | false =>
     refine key k10 (fun w1 hb => ract_4f (h.bel hb) i j a v0 v1 v2 hx hev hj) (fun y hy => by simp at hy) ?_
     unfold doZ
     rw [hx]
     simp only
     rw [if_neg (by decide), if_pos ⟨trivial, by rw [hl]; simp⟩]
     simp [Yw, Yn, faultZ]
 rw [if_neg k4] at hc
 by_cases k5 : k = 5
 · subst k5
   rw [if_pos rfl] at hc
   unfold canSZ at hc
   simp only at hc
   cases hl : lk r.s.C o with
   | none => rw [hl] at hc; cases hc
   | some q =>
    rw [hl] at hc
    simp only [Bool.and_eq_true] at hc
    obtain ⟨hb0, hc⟩ := hc
    have hb : isB v0 v1 v2 q.t = true := hb0
    obtain ⟨j, rfl, hj⟩ := ZC hl
    by_cases hr : q.room = 0
    · rw [if_pos hr] at hc
      have ht0 := of_decide_eq_true hc
      unfold takI at ht0
      cases ht : r.ws.findIdx? (isR (j : Nat)) with
      | none => rw [ht] at ht0; simp at ht0
      | some t =>
       obtain ⟨htl, _⟩ := List.findIdx?_eq_some_iff_getElem.1 ht
       have hy : r.ws[t]? = some r.ws[t] := List.getElem?_eq_getElem htl
       refine key k10 (fun w1 hb => ract_50 (h.bel hb) i j a v0 v1 v2 hx hev q hj hr t r.ws[t] ht hy) (fun z hz => ?_) ?_
       · simp only [List.mem_cons, List.not_mem_nil, or_false] at hz
         rcases hz with rfl | rfl
         · exact ⟨hi, by show i < r.pe.length; omega⟩
         · exact ⟨htl, by show t < r.pe.length; omega⟩
       · unfold doZ
         rw [hx]
         simp only
         have hro : YI r.s (j : Nat) = true := by unfold YI; rw [hl]; simp [hr]
         rw [if_neg (by decide), if_neg (fun e => absurd e.1 (by decide)), if_pos ⟨trivial, hro⟩, ht]
         simp [YJ, hx, hy]
    · rw [if_neg hr] at hc
      exact key k10 (fun w1 hb' => ract_5 (h.bel hb') i j a v0 v1 v2 hx hev q hj hB hb (of_decide_eq_true hc)) (one rfl rfl) (Yu hx k10 (fun e => absurd e.1 (by decide)) (fun e => by have := e.2; unfold YI at this; rw [hl] at this; simp at this; exact hr this) (by decide) (by simp [ZH, hl]))
 rw [if_neg k5] at hc
 by_cases k6 : k = 6
 · subst k6
   rw [if_pos rfl] at hc
   unfold canR at hc
   simp only at hc
   cases hl : lk r.s.C o with
   | none => rw [hl] at hc; cases hc
   | some q =>
    rw [hl] at hc
    simp only at hc
    obtain ⟨j, rfl, hj⟩ := ZC hl
    cases hq : q.l with
    | nil => rw [hq] at hc; simp at hc
    | cons y q' => exact key k10 (fun w1 hb => ract_6 (h.bel hb) i j a v0 v1 v2 hx hev q hj hB y q' hq) (one rfl rfl) (Yu hx k10 (fun e => absurd e.1 (by decide)) (fun e => absurd e.1 (by decide)) (by decide) (by simp [ZH, hl, hq]))
 rw [if_neg k6] at hc
 by_cases k7 : k = 7
 · subst k7
   rw [if_pos (.inl rfl)] at hc
   unfold canC at hc
   simp only at hc
   cases hl : lk r.s.A o with
   | none => rw [hl] at hc; cases hc
   | some y =>
    obtain ⟨j, rfl, hj⟩ := ZC hl
    exact key k10 (fun w1 hb => ract_7 (h.bel hb) i j a v0 v1 v2 hx hev y hj) (one rfl rfl) (Yu hx k10 (fun e => absurd e.1 (by decide)) (fun e => absurd e.1 (by decide)) (by decide) (by simp [ZH]))
 by_cases k8 : k = 8
 · subst k8
   rw [if_pos (.inr (.inl rfl))] at hc
   unfold canC at hc
   simp only at hc
   cases hl : lk r.s.A o with
   | none => rw [hl] at hc; cases hc
   | some y =>
    obtain ⟨j, rfl, hj⟩ := ZC hl
    exact key k10 (fun w1 hb => ract_8 (h.bel hb) i j a v0 v1 v2 hx hev y hj) (one rfl rfl) (Yu hx k10 (fun e => absurd e.1 (by decide)) (fun e => absurd e.1 (by decide)) (by decide) (by simp [ZH]))
 by_cases k9 : k = 9
 · subst k9
   rw [if_pos (.inr (.inr rfl))] at hc
   unfold canC at hc
   simp only at hc
   cases hl : lk r.s.A o with
   | none => rw [hl] at hc; cases hc
   | some y =>
    obtain ⟨j, rfl, hj⟩ := ZC hl
    exact key k10 (fun w1 hb => ract_9 (h.bel hb) i j a v0 v1 v2 hx hev y hj) (one rfl rfl) (Yu hx k10 (fun e => absurd e.1 (by decide)) (fun e => absurd e.1 (by decide)) (by decide) (by simp [ZH, hl]))
 rw [if_neg (fun e => e.elim k7 (fun e => e.elim k8 k9))] at hc
 rcases of_decide_eq_true hc with e | rfl | rfl
 · exact absurd e k10
 · exact key k10 (fun w1 hb => ract_11 (h.bel hb) i o a v0 v1 v2 hx hev) (one rfl rfl) (Yu hx k10 (fun e => absurd e.1 (by decide)) (fun e => absurd e.1 (by decide)) (by decide) (by simp [ZH]))
 · refine key k10 (fun w1 hb => ract_12 (h.bel hb) i o a v0 v1 v2 hx hev) (fun y hy => by simp at hy) ?_
   unfold doZ
   rw [hx]
   simp only
   rw [if_neg (by decide), if_neg (fun e => absurd e.1 (by decide)), if_neg (fun e => absurd e.1 (by decide)), if_pos trivial]
   simp [YJ, hx, Yn]
def sameB (a b : List Int) : Bool := decide (a = b)
theorem sameB_not (a b : List Int) (k : Nat) (h : a.getD k 0 ≠ b.getD k 0) : sameB a b = false := by
 unfold sameB
 exact decide_eq_false (fun e => h (by rw [e]))
theorem sameB_all (a b : List Int) (hl : a.length = b.length) (h : ∀ j, j < a.length -> a.getD j 0 = b.getD j 0) : sameB a b = true := by
 unfold sameB
 refine decide_eq_true (List.ext_getElem hl (fun i h1 h2 => ?_))
 have := h i h1
 simpa [List.getD, h1, h2] using this
theorem sameB_len (a b : List Int) (hl : a.length ≠ b.length) : sameB a b = false := by
 unfold sameB
 exact decide_eq_false (fun e => hl (by rw [e]))
theorem sameInts_any (va vb : Value) (a b : List Int) (w : World) (ha : Sl w va a) (hb : Sl w vb b) :
 Calls Tryz.prog 26 #[va, vb] w fun e w' => e = .returned (.bool (sameB a b)) /\ Below w.heap.size w w' := by
 obtain ⟨_, aa, ca, rfl, hca, hcm, hac⟩ := ha
 obtain ⟨_, ab, cb, rfl, hcb, hcm2, hbc⟩ := hb
 unfold maxLen at hcm hcm2
 by_cases hl : a.length = b.length
 · obtain ⟨n, hn⟩ : ∃ n, n = a.length := ⟨_, rfl⟩
   have hs : Hid ((∀ j, j < n -> a.getD j 0 = b.getD j 0) -> sameB a b = true) := fun h => sameB_all a b hl (fun j hj => h j (by omega))
   have hs2 : Hid (∀ k, a.getD k 0 ≠ b.getD k 0 -> sameB a b = false) := fun k => sameB_not a b k
   have hac' : ∀ i, i < n -> _ := fun i hi => hac i (by omega)
   have hbc' : ∀ i, i < n -> _ := fun i hi => hbc i (by omega)
   rw [← hl, ← hn]
   rw [← hn] at hca
   rw [← hl, ← hn] at hcb
   clear hl hn hac hbc
   go_enter Tryz.func26, Tryz.ntmps26
   go_wp2
   go_loopw [13] (fun i wr => ∃ k : Nat, k <= n /\ i = I_ k /\ Hid (∀ j, j < k -> a.getD j 0 = b.getD j 0) /\ Below w.heap.size w wr) (fun i _ => n - (intOf i).toNat)
   case atStart => exact ⟨0, Nat.zero_le _, rfl, fun j hj => absurd hj (Nat.not_lt_zero _), Below.refl _ _⟩
   case round =>
    obtain ⟨k, hk, rfl, hall, hbel⟩ := hrel
    by_cases hlt : k < n
    · obtain ⟨b1, o1, rfl, hb1, hc1⟩ := hac' k hlt
      obtain ⟨b2, o2, rfl, hb2, hc2⟩ := hbc' k hlt
      rw [← hbel.cell (p := ⟨b1, o1 + k, none⟩) hb1] at hc1
      rw [← hbel.cell (p := ⟨b2, o2 + k, none⟩) hb2] at hc2
      have h1 : (k : Int) < (n : Int) := by omega
      clear hac' hbc'
      have hne : Hid (a.getD k 0 ≠ b.getD k 0 -> sameB a b = false) := hs2.out k
      have hstep : Hid (a.getD k 0 = b.getD k 0 -> ∀ j, j < k + 1 -> a.getD j 0 = b.getD j 0) := fun e j hj => by
       by_cases ej : j = k
       · rw [ej]; exact e
       · exact hall.out j (by omega)
      clear hs hs2 hall
      generalize a.getD k 0 = x at *
      generalize b.getD k 0 = y at *
      by_cases e : x = y
      · have e2 : (x != y) = false := by simp [e]
        have hstep2 : Hid (∀ j, j < k + 1 -> a.getD j 0 = b.getD j 0) := hstep.out e
        clear e hstep hne
        go_wp2_with fail
        go_quiet (fail)
        go_wp2_with fail
        go_roundw
        case rel => exact ⟨k + 1, by omega, by go_num, hstep2, below_drewN hbel _⟩
        case measure => simp [intOf]; omega
      · have e2 : (x != y) = true := by simp [e]
        have hne2 : Hid (sameB a b = false) := hne.out e
        clear e hstep hne
        go_wp2_with fail
        go_quiet (fail)
        go_wp2_with fail
        go_ret
        exact ⟨ret_bool hne2.out.symm, below_drewN hbel _⟩
    · have e : k = n := by omega
      subst e
      clear hac' hbc'
      have hs3 : Hid (sameB a b = true) := hs.out hall.out
      clear hs hs2
      go_wp2_with fail
      go_ret
      exact ⟨ret_bool hs3.out.symm, hbel⟩
 · have hs : Hid (sameB a b = false) := sameB_len a b hl
   have ht : ((a.length : Int) != (b.length : Int)) = true := by rw [bne_iff_ne]; omega
   clear hac hbc
   go_enter Tryz.func26, Tryz.ntmps26
   go_wp2
   go_ret
   exact ⟨ret_bool hs.out.symm, Below.refl _ _⟩
def WaitsP (w : World) (l : List Wt) (e : Ending) (w' : World) : Prop := ∃ a c vas, e = .returned (.slice a l.length c) /\ vas.length = l.length /\ w'.ownsRow w.heap.size 67 7 (.slice a l.length c) l.length (YG l vas) /\ Below w.heap.size w w'
theorem Waits_any {w : World} {G : Nat -> Prop} {g : Nat} {S : List (List Wt)} {r : Rm} (h : Rn w G g S r) : Calls Tryz.prog 28 #[P_ g] w (WaitsP w (r.gs.map Gr.w)) := by
 have HR := Za h
 obtain ⟨Fs, Fo, R, gs, vC, vB, vG, vE, ps, ts, h, hG⟩ := h
 have HU := Za h
 have c3 := h.cells.1.2.2.2.1
 have hn8 := h.n8
 obtain ⟨aG, cG, eG, _⟩ := Zl h.go
 obtain ⟨n, hn⟩ : ∃ n, n = r.gs.length := ⟨_, rfl⟩
 rw [← hn] at eG hn8
 subst eG
 have HN := Za hn
 clear h hG hn
 go_enter Tryz.func28, Tryz.ntmps28
 go_wp2_with fail
 go_loopw [3, 5, 11] (fun x3 x5 q wr => ∃ (k : Nat) (a : Option Addr) (c : Nat), k <= n /\ q = I_ k /\ x3 = .slice a k c /\ Hid (∃ vas, vas.length = k /\ wr.ownsRow w.heap.size 67 7 (.slice a k c) k (YG ((r.gs.map Gr.w).take k) vas) /\ Below w.heap.size w wr)) (fun _ _ q _ => n - (intOf q).toNat)
 case atStart => exact ⟨0, none, 0, Nat.zero_le _, rfl, rfl, Za ⟨[], rfl, by simp [YG]; exact World.ownsRow_nil _ _ _ _, Below.refl _ _⟩⟩
 case round =>
  obtain ⟨k, a, c, hk, rfl, rfl, HI⟩ := hrel
  obtain ⟨vas, hv, ho, hb⟩ := HI.out
  by_cases hlt : k < n
  · have hlt' : (k : Int) < (n : Int) := by omega
    obtain ⟨x, hx⟩ : ∃ x, r.gs[k]? = some x := ⟨_, List.getElem?_eq_getElem (by rw [← HN.out]; exact hlt)⟩
    have hu := HU.out.bel hb
    obtain ⟨bG, cG', b, t, va, eG, _, _, _, _, _, hA, ⟨z1, _, _⟩, z2⟩ := hu.see hx
    cases eG
    obtain ⟨xr, xk, xo, xa, x0, x1, x2⟩ := x
    simp only at z2
    have d1 := Zb z2 1 _ rfl
    have d2 := Zb z2 2 _ rfl
    have d3 := Zb z2 3 _ rfl
    have d4 := Zb z2 4 _ rfl
    have d5 := Zb z2 5 _ rfl
    have d6 := Zb z2 6 _ rfl
    have d7 := Zb z2 7 _ rfl
    have CL := Za (wclone_any xk xo xa x0 x1 x2 va hA)
    obtain ⟨av, nv, cv, rfl⟩ := hA.form
    have HX : Hid ((r.gs.map Gr.w)[k]? = some ⟨xk, xo, xa, (x0, x1, x2)⟩) := Za (by rw [List.getElem?_map, hx]; rfl)
    have HO := Za (And.intro hv (And.intro ho hb))
    clear hv ho hb hx hu hA z2 HI
    go_wp2_with fail
    refine CL.out.mono ?_
    rintro e w3 ⟨v3, rfl, a3, b3⟩
    obtain ⟨a5, n5, c5, x5, rfl, _⟩ := id a3
    have A3 := Za (And.intro a3 b3)
    clear a3 b3 CL d1 d2 d3 d4 d5 d6 d7 z1
    have PU := Za (fun ty => push_w (w := w3) (n := k) (l := (r.gs.map Gr.w).take k) (vas := vas) (by simp; omega) (by simp; have := HO.out.1; omega) (Zj HO.out.2.1 (fun q hq => A3.out.2.block q (Zf HO.out.2.1 hq).2.1)) (by simp; omega) (Nat.le_trans HO.out.2.2.size A3.out.2.size) ⟨xk, xo, xa, (x0, x1, x2)⟩ (.slice a5 n5 c5) rfl ty)
    go_wp2_with (first | (at_builtin; refine ZX (TS := 68) rfl (.tmp 15) (.tmp 21) rfl _ _ rfl rfl _ (PU.out _) ?_; rintro v9 w9 ⟨⟨a9, c9, rfl⟩, o9, g9, b9⟩; have R9 := Za (And.intro o9 (And.intro g9 b9)); clear o9 g9 b9))
    go_roundw
    case rel =>
     refine ⟨k + 1, a9, c9, by omega, by go_num, rfl, Za ⟨vas ++ [.slice a5 n5 c5], by simp [HO.out.1], ?_, ?_⟩⟩
     · have e : (r.gs.map Gr.w).take (k + 1) = (r.gs.map Gr.w).take k ++ [⟨xk, xo, xa, (x0, x1, x2)⟩] := by rw [List.take_add_one, HX.out]; rfl
       rw [e]
       exact R9.out.1
     · exact (Zg HO.out.2.2 A3.out.2).grown R9.out.2.1 (Nat.le_trans HO.out.2.2.size A3.out.2.size) (fun q hq => (Zf HO.out.2.1 hq).1)
    case measure => simp [intOf]; omega
  · have ek : k = n := by omega
    subst ek
    have hl : (r.gs.map Gr.w).length = k := by rw [List.length_map]; exact HN.out.symm
    have HO : Hid (vas.length = k /\ wr.ownsRow w.heap.size 67 7 (.slice a k c) k (YG (r.gs.map Gr.w) vas) /\ Below w.heap.size w wr) := Za ⟨hv, by rw [List.take_of_length_le (by omega)] at ho; exact ho, hb⟩
    have HL := Za hl
    clear hv ho hb hl HI
    go_wp2_with fail
    go_ret
    exact ⟨a, c, vas, by rw [HL.out]; rfl, by rw [HL.out]; exact HO.out.1, by rw [HL.out]; exact HO.out.2.1, HO.out.2.2⟩
def evB (a b : Evt) : Bool := a.g == b.g && (a.k == b.k && (a.o == b.o && a.a == b.a))
def evsB : List Evt -> List Evt -> Bool
 | [], [] => true
 | a :: l, b :: m => evB a b && evsB l m
 | _, _ => false
theorem evB_eq {a b : Evt} (h : evB a b = true) : a = b := by
 obtain ⟨a1, a2, a3, a4⟩ := a
 obtain ⟨b1, b2, b3, b4⟩ := b
 simp [evB] at h
 obtain ⟨rfl, rfl, rfl, rfl⟩ := h
 rfl
theorem evB_self (a : Evt) : evB a a = true := by simp [evB]
theorem evsB_iff : ∀ (l m : List Evt), evsB l m = true ↔ l = m
 | [], [] => by simp [evsB]
 | [], b :: m => by simp [evsB]
 | a :: l, [] => by simp [evsB]
 | a :: l, b :: m => by
  simp only [evsB, Bool.and_eq_true, evsB_iff l m, List.cons.injEq]
  exact ⟨fun h => ⟨evB_eq h.1, h.2⟩, fun h => ⟨by rw [h.1]; exact evB_self b, h.2⟩⟩
theorem evsB_len {l m : List Evt} (h : l.length ≠ m.length) : evsB l m = false := by
 cases hh : evsB l m with
 | false => rfl
 | true => exact absurd (congrArg List.length ((evsB_iff l m).1 hh)) h
theorem evsB_no {l m : List Evt} {i : Nat} {x y : Evt} (hx : l[i]? = some x) (hy : m[i]? = some y) (h : evB x y = false) : evsB l m = false := by
 cases hh : evsB l m with
 | false => rfl
 | true =>
  have e := (evsB_iff l m).1 hh
  subst e
  rw [hx] at hy
  cases hy
  rw [evB_self] at h
  cases h
theorem evsB_yes {l m : List Evt} (hl : l.length = m.length) (h : ∀ (i : Nat) (x y : Evt), l[i]? = some x -> m[i]? = some y -> evB x y = true) : evsB l m = true := by
 rw [evsB_iff]
 apply List.ext_getElem? 
 intro i
 by_cases hi : i < l.length
 · have hx := List.getElem?_eq_getElem hi
   have hy : m[i]? = some m[i] := List.getElem?_eq_getElem (by omega)
   rw [hx, hy, evB_eq (h i _ _ hx hy)]
 · rw [List.getElem?_eq_none (by omega), List.getElem?_eq_none (by omega)]
theorem SameEvents_any {w : World} {va vb : Value} {l m : List Evt} (ha : EvS w va l) (hb : EvS w vb m) : Calls Tryz.prog 24 #[va, vb] w (Vb w (.bool (evsB l m))) := by
  obtain ⟨aa, ca, rfl, a1, a2, a3⟩ := ha
  obtain ⟨ab, cb, rfl, b1, b2, b3⟩ := hb
  unfold maxLen at a2 b2
  obtain ⟨r, hr⟩ : ∃ r, evsB l m = r := ⟨_, rfl⟩
  rw [hr]
  have HR := Za hr
  have NE := neq_ev
  by_cases hlen : l.length = m.length
  · obtain ⟨n, hn⟩ : ∃ n, n = l.length := ⟨_, rfl⟩
    have HA := Za a3
    have HB := Za b3
    have HL := Za (And.intro hn hlen)
    rw [← hlen]
    rw [← hn] at a1 ⊢
    have hn' : n <= 9223372036854775807 := by omega
    clear a3 b3 hlen hn hr b1
    go_enter Tryz.func24, Tryz.ntmps24
    go_wp2_with fail
    go_loopw [5, 13] (fun x5 i wr => ∃ k : Nat, k <= n /\ i = I_ k /\ Hid ((∀ (j : Nat) (x y : Evt), j < k -> l[j]? = some x -> m[j]? = some y -> evB x y = true) /\ ∃ d, wr = w.drewN d)) (fun x5 i _ => n - (intOf i).toNat)
    case atStart => exact ⟨0, Nat.zero_le _, rfl, Za ⟨fun j x y hj => absurd hj (Nat.not_lt_zero _), 0, rfl⟩⟩
    case round =>
      obtain ⟨k, hk, rfl, HI⟩ := hrel
      obtain ⟨hall, d, ed⟩ := HI.out
      by_cases hlt : k < n
      · have hlt' : (k : Int) < (n : Int) := by omega
        have hkl : k < l.length := by have := HL.out.1; omega
        obtain ⟨x, hx⟩ : ∃ x, l[k]? = some x := ⟨_, List.getElem?_eq_getElem hkl⟩
        obtain ⟨y, hy⟩ : ∃ y, m[k]? = some y := ⟨_, List.getElem?_eq_getElem (by have := HL.out.2; omega)⟩
        obtain ⟨ba, oa, rfl, _, p0, p1, p2, p3⟩ := HA.out k x hx
        obtain ⟨bb, ob, rfl, _, q0, q1, q2, q3⟩ := HB.out k y hy
        have p0' : wr.cell? ⟨ba, oa + k * 4, none⟩ = some (I_ x.g) := by rw [ed]; exact p0
        have p1' : wr.cell? ⟨ba, oa + k * 4 + 1, none⟩ = some (I_ x.k) := by rw [ed]; exact p1
        have p2' : wr.cell? ⟨ba, oa + k * 4 + 2, none⟩ = some (I_ x.o) := by rw [ed]; exact p2
        have p3' : wr.cell? ⟨ba, oa + k * 4 + 3, none⟩ = some (I_ x.a) := by rw [ed]; exact p3
        have q0' : wr.cell? ⟨bb, ob + k * 4, none⟩ = some (I_ y.g) := by rw [ed]; exact q0
        have q1' : wr.cell? ⟨bb, ob + k * 4 + 1, none⟩ = some (I_ y.k) := by rw [ed]; exact q1
        have q2' : wr.cell? ⟨bb, ob + k * 4 + 2, none⟩ = some (I_ y.o) := by rw [ed]; exact q2
        have q3' : wr.cell? ⟨bb, ob + k * 4 + 3, none⟩ = some (I_ y.a) := by rw [ed]; exact q3
        have ED := Za ed
        have no := Za (fun h => evsB_no hx hy h)
        have hstep : Hid (evB x y = true -> ∀ (j : Nat) (x' y' : Evt), j < k + 1 -> l[j]? = some x' -> m[j]? = some y' -> evB x' y' = true) := Za (fun e j x' y' hj hx' hy' => by
          by_cases ej : j = k
          · subst ej
            rw [hx] at hx'
            rw [hy] at hy'
            cases hx'
            cases hy'
            exact e
          · exact hall j x' y' (by omega) hx' hy')
        clear hall hx hy p0 p1 p2 p3 q0 q1 q2 q3 ed HI HA HB
        obtain ⟨x1, x2, x3, x4⟩ := x
        obtain ⟨y1, y2, y3, y4⟩ := y
        simp only at p0' p1' p2' p3' q0' q1' q2' q3'
        obtain ⟨z, hz⟩ : ∃ z, evB ⟨x1, x2, x3, x4⟩ ⟨y1, y2, y3, y4⟩ = z := ⟨_, rfl⟩
        have NE2 : ∀ w, (binOp .neq 132 (.agg #[I_ x1, I_ x2, I_ x3, I_ x4]) (.agg #[I_ y1, I_ y2, I_ y3, I_ y4])).run Tryz.prog w = .ok (.bool (!z)) w := fun w => by
          rw [← hz]
          exact NE w _ _ _ _ _ _ _ _
        rw [hz] at no hstep
        clear hz NE
        go_wp2_with fail
        cases z with
        | false =>
          have hf := Za (no.out rfl)
          go_quiet (fail)
          go_wp2_with fail
          go_ret
          refine Vb.mk (by rw [← HR.out, hf.out]; rfl) ?_
          rw [ED.out]
          simp only [World.drewN_drewN]
          exact below_drewN (Below.refl _ _) _
        | true =>
          have hs2 := Za (hstep.out rfl)
          go_quiet (fail)
          go_wp2_with fail
          go_roundw
          case rel => exact ⟨k + 1, by omega, by go_num, Za ⟨hs2.out, _, by rw [ED.out]; simp only [World.drewN_drewN]; rfl⟩⟩
          case measure => simp [intOf]; omega
      · have ek : k = n := by omega
        subst ek
        have hy := Za (evsB_yes HL.out.2 (fun i x y hx hy => hall i x y (by rw [HL.out.1]; exact (G_ hx)) hx hy))
        have ED := Za ed
        clear hall ed HI
        go_wp2_with fail
        go_ret
        refine Vb.mk (by rw [← HR.out, hy.out]; rfl) ?_
        rw [ED.out]
        exact below_drewN (Below.refl _ _) _
  · have hf : r = false := by rw [← hr]; exact evsB_len hlen
    subst hf
    have hlb : ((l.length : Int) == (m.length : Int)) = false := by simp; omega
    generalize l.length = n at *
    generalize m.length = n2 at *
    clear a3 b3 hr
    go_enter Tryz.func24, Tryz.ntmps24
    go_wp2_with fail
    go_ret
    exact Vb.mk rfl (Below.refl _ _)
theorem Sl.of_own {w : World} {B : Nat} {v : Value} {l : List Int} (h : w.ownsRow B 3 1 v l.length (nts l)) (hf : Fits l) : Sl w v l := by
 obtain ⟨a, c, rfl, h1, h2⟩ := Zl h
 refine ⟨hf, a, c, rfl, h1, h2, fun i hi => ?_⟩
 obtain ⟨b, c', eb, _⟩ := Zq h (by omega)
 cases eb
 refine ⟨b, 0, rfl, (Zf h (k := b) rfl).2.1, ?_⟩
 rw [Nat.zero_add]
 have hx : l[i]? = some (l.getD i 0) := by
  rw [List.getD_eq_getElem?_getD, List.getElem?_eq_getElem hi]
  rfl
 exact (Zk h _ _ (nts_at hx)).1
theorem runZ_eq {r : Rm} (hs : endR r = r.e) : runZ r.z r.gs.length = runnR r := by
 unfold runZ runnR runs
 rw [hs]
 by_cases h0 : r.e.o = 0
 · have h1 : (r.e.o == 0) = true := by simp [h0]
   rw [if_pos h1]
   congr 2
   funext i
   unfold canAt can
   rw [z_ws, lk_nat]
   cases r.gs[i]? with
   | none => rfl
   | some x =>
    have h2 : r.z.e.o = 0 := h0
    simp only [Option.map_some]
    rw [decide_eq_true h2, Bool.true_and]
    exact canZ_eq r x.w
 · have h1 : ¬ (r.e.o == 0) = true := by simp [h0]
   rw [if_neg h1]
   have h2 : ∀ i : Nat, canAt r.z i = false := fun i => by
    unfold canAt
    cases r.z.ws[i]? with
    | none => rfl
    | some x =>
     have h3 : ¬ r.z.e.o = 0 := h0
     simp [h3]
   simp [h2]
theorem runn_fits (r : Rm) (h : r.gs.length <= 1000) : Fits (runnR r) := fun z hz => by
 obtain ⟨i, rfl, hc, _⟩ := runn_mem hz
 unfold can at hc
 rw [lk_nat] at hc
 have hi : i < r.gs.length := by
  rcases Nat.lt_or_ge i r.gs.length with h1 | h1
  · exact h1
  · rw [List.getElem?_eq_none h1] at hc
    cases hc
 omega
theorem info_rw : (Tryz.prog.info? 76).map (fun i => (i.zero, i.size, i.bytes)) = some (some (.agg #[I_ 0, I_ 0, I_ 0, I_ 0, I_ 0, .int .u64 0]), 6, 48) := by kernel_rfl
theorem info_rsw : (Tryz.prog.info? 39).map (fun i => (i.zero, i.size, i.bytes)) = some (some (.slice none 0 0), 1, 24) := by kernel_rfl
theorem pushR {w : World} {T TS : TypeId} {sz bytes : Nat} {z v : Value} {n gx : Nat} {xs ys : List Value} (hu : Tryz.prog.underlying TS = some (.slice T)) (hinfo : (Tryz.prog.info? T).map (fun i => (i.zero, i.size, i.bytes)) = some (some z, sz, bytes)) (hz : z.cells.size = sz) (hsz : 0 < sz) (hby : bytes <= 100)
    (ho : w.ownsRow 0 T sz v n xs) (hn : n <= 2000) (hl : ys.length = 1 * sz) (hy : ∀ (j : Nat) (u : Value), ys[j]? = some u -> w.cell? ⟨gx, j, none⟩ = some u) (h1 : ∀ u ∈ ys, u.oneCell' = true) (ty : TypeId) :
    ∃ v' w', (Builtin.append_ #[TS, TS] ty #[v, .slice (some ⟨gx, 0, none⟩) 1 1]).run Tryz.prog w = .ok v' w' /\ ((∃ a c, v' = .slice a (n + 1) c) /\ w'.ownsRow 0 T sz v' (n + 1) (xs ++ ys) /\ w.grownBy w' v.ownBlock /\ (∀ k, v'.ownBlock = some k -> v.ownBlock = some k ∨ w.heap.size <= k)) := by
  obtain ⟨i, hi, hz0, hz1, hz2⟩ := info_parts hinfo
  obtain ⟨v', w', hr, ho', hg, _, hat⟩ := run_append_own_at (P := Tryz.prog) w 0 TS ty T i z sz bytes hu hi hz0 hz1 hz2 hz hsz v n xs ho ⟨gx, 0, none⟩ 1 1 ys hl (fun j u hu => by
    rw [show (⟨gx, 0, none⟩ : Addr).add j = ⟨gx, j, none⟩ by unfold Addr.add; by_cases h : j = 0 <;> simp [h]]
    exact hy j u hu) h1 (by unfold maxLen; omega) (by have : (n + 1) * bytes <= 2001 * 100 := Nat.mul_le_mul (by omega) hby; omega) (Nat.zero_le _)
  obtain ⟨a9, c9, e9, _⟩ := Zl ho'
  refine ⟨v', w', hr, ⟨_, _, e9⟩, ho', hg, fun k hk => ?_⟩
  rcases hat with e | e
  · exact .inl (e.symm.trans hk)
  · rw [e] at hk
    right
    have := Option.some.inj hk
    omega
structure Cq (w0 wr : World) (S : List (List Wt)) (i : Nat) (va : Value) (vs : List Value) : Prop where
 al : wr.ownsRow 0 39 1 va i vs
 row : ∀ (m : Nat) (l : List Wt) (v : Value), S[m]? = some l -> vs[m]? = some v -> wr.ownsRow 0 76 6 v l.length (w6s l)
 lo : ∀ k, va.ownBlock = some k -> w0.heap.size <= k
 lr : ∀ v ∈ vs, ∀ k, v.ownBlock = some k -> w0.heap.size <= k /\ k < wr.heap.size
 bel : Below w0.heap.size w0 wr
structure Ci (w0 wr : World) (l : List Wt) (j : Nat) (vx : Value) (vs : List Value) : Prop where
 own : wr.ownsRow 0 76 6 vx j (w6s (l.take j))
 lo : ∀ k, vx.ownBlock = some k -> w0.heap.size <= k
 ap : ∀ v ∈ vs, ∀ k, v.ownBlock = some k -> vx.ownBlock ≠ some k
section
variable {w0 wr wy : World} {S : List (List Wt)} {i j : Nat} {va vx v' : Value} {vs : List Value} {l : List Wt}
theorem Cq.low (h : Cq w0 wr S i va vs) (hb : Below wr.heap.size wr wy) : Cq w0 wy S i va vs where
 al := Zj h.al fun k hk => hb.block k (Zf h.al hk).2.1
 row := fun m l v hl hv => Zj (h.row m l v hl hv) fun k hk => hb.block k (Zf (h.row m l v hl hv) hk).2.1
 lo := h.lo
 lr := fun v hv k hk => ⟨(h.lr v hv k hk).1, Nat.lt_of_lt_of_le (h.lr v hv k hk).2 hb.size⟩
 bel := Zg h.bel hb
theorem Ci.low (h : Ci w0 wr l j vx vs) (hb : Below wr.heap.size wr wy) : Ci w0 wy l j vx vs := { h with own := Zj h.own fun k hk => hb.block k (Zf h.own hk).2.1 }
theorem Cq.start (w0 : World) : Cq w0 (w0.alloc (.cells #[] 39)) S 0 (.slice (some ⟨w0.heap.size, 0, none⟩) 0 0) [] where
 al := ⟨rfl, .inr ⟨w0.heap.size, 0, _, rfl, Nat.zero_le _, B_ _ _, Nat.le_refl _, by unfold maxLen; omega, rfl, rfl⟩⟩
 row := fun m l v _ hv => by simp at hv
 lo := fun k hk => by cases hk; exact Nat.le_refl _
 lr := fun v hv => by cases hv
 bel := Zd _ _
theorem Ci.start (h : Cq w0 wr S i va vs) : Ci w0 (wr.alloc (.cells #[] 76)) l 0 (.slice (some ⟨wr.heap.size, 0, none⟩) 0 0) vs where
 own := ⟨rfl, .inr ⟨wr.heap.size, 0, _, rfl, Nat.zero_le _, B_ _ _, Nat.le_refl _, by unfold maxLen; omega, rfl, rfl⟩⟩
 lo := fun k hk => by cases hk; exact h.bel.size
 ap := fun v hv k hk e => by
  have e2 : wr.heap.size = k := Option.some.inj e
  have := (h.lr v hv k hk).2
  omega
theorem Cq.step (h : Cq w0 wr S i va vs) (c : Ci w0 wr l j vx vs) {x : Wt} (hx : l[j]? = some x) (ho : wy.ownsRow 0 76 6 v' (j + 1) (w6s (l.take j) ++ w6s [x])) (hg : wr.grownBy wy vx.ownBlock) (hb : ∀ k, v'.ownBlock = some k -> vx.ownBlock = some k ∨ wr.heap.size <= k) : Cq w0 wy S i va vs /\ Ci w0 wy l (j + 1) v' vs := by
 refine ⟨{ al := Zj h.al fun k hk => hg.block k (Zf h.al hk).2.1 (fun e => Zo h.al c.own (by decide) k hk e.symm), row := fun m l v hl hv => Zj (h.row m l v hl hv) fun k hk => hg.block k (Zf (h.row m l v hl hv) hk).2.1 (fun e => c.ap v (List.mem_of_getElem? hv) k hk e.symm), lo := h.lo, lr := fun v hv k hk => ⟨(h.lr v hv k hk).1, Nat.lt_of_lt_of_le (h.lr v hv k hk).2 hg.size⟩, bel := h.bel.grown hg h.bel.size (fun k hk => c.lo k hk) }, { own := ?_, lo := fun k hk => ?_, ap := fun v hv k hk e => ?_ }⟩
 · rw [List.take_add_one, hx, w6s_app]
   exact ho
 · rcases hb k hk with h1 | h1
   · exact c.lo k h1
   · have := h.bel.size
     omega
 · rcases hb k e with h1 | h1
   · exact c.ap v hv k hk h1
   · have := (h.lr v hv k hk).2
     omega
theorem Cq.push (h : Cq w0 wr S i va vs) (c : Ci w0 wr l j vx vs) (hl : S[i]? = some l) (hj : j = l.length) (ho : wy.ownsRow 0 39 1 v' (i + 1) (vs ++ [vx])) (hg : wr.grownBy wy va.ownBlock) (hb : ∀ k, v'.ownBlock = some k -> va.ownBlock = some k ∨ wr.heap.size <= k) : Cq w0 wy S (i + 1) v' (vs ++ [vx]) := by
 have hvl : vs.length = i := by have := h.al.1; omega
 have co := c.own
 rw [hj, List.take_length] at co
 refine { al := ho, row := fun m l' v hl' hv => ?_, lo := fun k hk => ?_, lr := fun v hv k hk => ?_, bel := h.bel.grown hg h.bel.size h.lo }
 · by_cases e : m < i
   · rw [List.getElem?_append_left (by omega)] at hv
     exact Zj (h.row m l' v hl' hv) fun k hk => hg.block k (Zf (h.row m l' v hl' hv) hk).2.1 (fun e => Zo h.al (h.row m l' v hl' hv) (by decide) k e.symm hk)
   · have hm : m = i := by
      have := (G_ hv)
      simp at this
      omega
     subst hm
     rw [List.getElem?_append_right (by omega), hvl] at hv
     simp at hv
     rw [hl] at hl'
     cases hl'
     subst hv
     exact Zj co fun k hk => hg.block k (Zf co hk).2.1 (fun e => Zo h.al co (by decide) k e.symm hk)
 · rcases hb k hk with h1 | h1
   · exact h.lo k h1
   · have := h.bel.size
     omega
 · rcases List.mem_append.1 hv with h1 | h1
   · exact ⟨(h.lr v h1 k hk).1, Nat.lt_of_lt_of_le (h.lr v h1 k hk).2 hg.size⟩
   · simp at h1
     subst h1
     exact ⟨c.lo k hk, Nat.lt_of_lt_of_le (Zf co hk).2.1 hg.size⟩
end
def Yb (va : Value) (vs : List Value) (k : Nat) : Prop := va.ownBlock = some k ∨ ∃ v ∈ vs, v.ownBlock = some k
structure Mt (w w3 W : World) (bx : Nat) (ob : Obj) (X F2 T : Nat -> Prop) (gm : Nat) (s : St) (S : List (List Wt)) (va : Value) (vs : List Value) : Prop where
 bo : W.heap[bx]? = some ob
 xb : ¬ X bx
 xl : ∀ k, X k -> w.heap.size <= k
 xs : ∀ k, X k -> k < W.heap.size
 rt : Rt W F2 (fun _ => False) 0 gm s
 al : W.ownsRow 0 39 1 va S.length vs
 row : ∀ (m : Nat) (l : List Wt) (v : Value), S[m]? = some l -> vs[m]? = some v -> W.ownsRow 0 76 6 v l.length (w6s l)
 f2 : ∀ k, F2 k -> w.heap.size <= k /\ k < w3.heap.size
 yl : ∀ k, Yb va vs k -> w3.heap.size <= k /\ k < W.heap.size
 tl : ∀ k, T k -> w3.heap.size <= k /\ k < W.heap.size
 ap : ∀ k, X k -> ¬ F2 k /\ ¬ Yb va vs k /\ ¬ T k
 s3 : w.heap.size <= w3.heap.size
 bel : Below w.heap.size w W
section
variable {w w3 W W' : World} {bx : Nat} {ob : Obj} {X X' F2 T : Nat → Prop} {gm : Nat} {s : St} {S : List (List Wt)} {va : Value} {vs : List Value}
theorem Mt.ch (h : Mt w w3 W bx ob X F2 T gm s S va vs) (c : Ch X X' W W') (hx : ∀ k, X' k -> k < W'.heap.size) : Mt w w3 W' bx ob X' F2 T gm s S va vs where
  bo := (c.blk bx (Ze h.bo) h.xb).trans h.bo
  xb := fun e => by
    rcases c.grow bx e with h1 | h1
    · exact h.xb h1
    · have := Ze h.bo
      omega
  xl := fun k hk => by
    rcases c.grow k hk with h1 | h1
    · exact h.xl k h1
    · have := h.bel.size
      omega
  xs := hx
  rt := h.rt.keep (fun k hk => by
    rcases hk with hk | hk
    · exact c.blk k (h.rt.fb k hk) (fun e => (h.ap k e).1 hk)
    · exact hk.elim) c.size
  al := Zj h.al fun k hk => c.blk k (Zf h.al hk).2.1 (fun e => (h.ap k e).2.1 (.inl hk))
  row := fun m l v hl hv => Zj (h.row m l v hl hv) fun k hk => c.blk k (Zf (h.row m l v hl hv) hk).2.1 (fun e => (h.ap k e).2.1 (.inr ⟨v, List.mem_of_getElem? hv, hk⟩))
  f2 := h.f2
  yl := fun k hk => ⟨(h.yl k hk).1, Nat.lt_of_lt_of_le (h.yl k hk).2 c.size⟩
  tl := fun k hk => ⟨(h.tl k hk).1, Nat.lt_of_lt_of_le (h.tl k hk).2 c.size⟩
  ap := fun k hk => by
    rcases c.grow k hk with h1 | h1
    · exact h.ap k h1
    · exact ⟨fun e => by have := h.rt.fb k e; omega, fun e => by have := (h.yl k e).2; omega, fun e => by have := (h.tl k e).2; omega⟩
  s3 := h.s3
  bel := h.bel.trans (c.bel h.xl h.bel.size)
theorem Mt.low (h : Mt w w3 W bx ob X F2 T gm s S va vs) (hb : Below W.heap.size W W') : Mt w w3 W' bx ob X F2 T gm s S va vs := h.ch (Ch.of_bel hb) (fun k hk => Nat.lt_of_lt_of_le (h.xs k hk) hb.size)
theorem Mt.more (h : Mt w w3 W bx ob X F2 T gm s S va vs) {R : Nat -> Prop} (hb : Below W.heap.size W W') (hR : ∀ k, R k -> W.heap.size <= k /\ k < W'.heap.size) : Mt w w3 W' bx ob (fun k => X k ∨ R k) F2 T gm s S va vs :=
 h.ch ((Ch.of_bel (F := X) hb).wide (fun _ h => h) (fun k hk => hk.imp id (fun e => (hR k e).1))) (fun k hk => hk.elim (fun e => Nat.lt_of_lt_of_le (h.xs k e) hb.size) (fun e => (hR k e).2))
theorem Mt.box (h : Mt w w3 W bx ob X F2 (fun _ => False) gm s S va vs) (hw : w3.heap.size <= W.heap.size) (o : Obj) : Mt w w3 (W.alloc o) bx ob X F2 (fun k => k = W.heap.size) gm s S va vs :=
 { h.low (Zd W o) with
  tl := fun k hk => by subst hk; exact ⟨hw, by simp⟩
  ap := fun k hk => ⟨(h.ap k hk).1, (h.ap k hk).2.1, fun e => by have := h.xs k hk; omega⟩ }
theorem Mt.pq (h : Mt w w3 W bx ob X F2 T gm s S va vs) {gt : Nat} (hT : T gt) (hg : W.heap[gt]? = some (.cells #[va, .slice none 0 0, .slice none 0 0] 79 (0, 0))) (sz : S.length <= 2000 /\ ∀ l ∈ S, l.length <= 2000) (hvl : vs.length = S.length) : Pq W F2 (fun _ => False) (Yb va vs) 0 gm gt s S va vs where
 st := h.rt
 tt := hg
 al := h.al
 row := fun i l v hl hv => ⟨h.row i l v hl hv, fun k hk => .inr ⟨v, List.mem_of_getElem? hv, hk⟩⟩
 fL := fun k hk => .inl hk
 ft := ⟨fun e => by have h1 := (h.f2 gt e).2; have h2 := (h.tl gt hT).1; omega, fun e => e, fun e => by
  rcases e with e | ⟨v, hv, e⟩
  · exact Zu h.al hg (by decide) e
  · obtain ⟨i, hi, hvi⟩ := List.getElem_of_mem hv
    have hi2 : i < S.length := by omega
    exact Zu (h.row i S[i] v (List.getElem?_eq_getElem hi2) (by rw [List.getElem?_eq_getElem hi, hvi])) hg (by decide) e⟩
 ro := fun k hk e => by have h1 := (h.yl k hk).1; have h2 := (h.f2 k e).2; omega
 rb := fun k hk => (h.yl k hk).2
 sz := sz
end
end Go.Proofs.YtfojninaginnoaaGreatDoor.Ck
