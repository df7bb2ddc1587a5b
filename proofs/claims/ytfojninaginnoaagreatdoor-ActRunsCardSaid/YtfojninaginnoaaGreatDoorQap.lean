/- Texts of this proof, packed: contracts of the program's functions, and the plain model that they are held against. -/
import Derived.Test.YtfojninaginnoaaGreatDoorQao
import Derived.Deep.LoopGhost
set_option maxRecDepth 20000
set_option maxHeartbeats 4000000
namespace Go.Proofs.YtfojninaginnoaaGreatDoor.Ck
open Go.RowKit
theorem ract_5 {w : World} {G : Nat -> Prop} {B g : Nat} {S : List (List Wt)} {r : Rz} (h : Rr w G B g S r) (i j : Nat) (a v0 v1 v2 : Int) (hx : r.ws[i]? = some ⟨5, j, a, (v0, v1, v2)⟩) (hl : r.ev.length <= 90000) (q : Qu) (hp : r.s.C[j]? = some q) (hB : B <= 900000) (hb : isB v0 v1 v2 q.t = true) (hr : (q.l.length : Int) < q.room) :
 Calls Tryz.prog 39 #[P_ g, I_ (i : Nat)] w (YE w G (B + 1) g S { r with s := { r.s with C := r.s.C.set j { q with l := q.l ++ [(v0, v1, v2)] } }, ev := r.ev ++ [⟨i, 5, j, a⟩] } [(i, (0, 0, 0))]) := by
 have hfb := h.fb
 obtain ⟨Fs, Rs, Fo, R, gs, gt, vW, vE, vL, vO, vA, vs, os, as_, h, hG⟩ := h
 have hi := (G_ hx)
 have HBB := Za hb
 clear hb
 obtain ⟨b, cW, eW, hbw, p0, p1, p2, p3, p4, p5⟩ := h.waitAt i _ hx
 subst eW
 simp only at p0 p1 p2 p3 p4 p5
 obtain ⟨vP, vL_, vC, vS, vT, vA_, ss, tk, v⟩ := h.st
 have c1 := h.cells.1.2.1
 have b1 := Zd w (.cells #[I_ 5, I_ (j : Nat), I_ a, I_ v0, I_ v1, .int .u64 v2] 76)
 have b2 := Zd (w.alloc (.cells #[I_ 5, I_ (j : Nat), I_ a, I_ v0, I_ v1, .int .u64 v2] 76)) (.cells #[I_ 0, I_ 0, .int .u64 0] 64)
 have hs1 : (w.alloc (.cells #[I_ 5, I_ (j : Nat), I_ a, I_ v0, I_ v1, .int .u64 v2] 76)).heap.size = w.heap.size + 1 := by simp
 have BB := Za (Zg b1 b2)
 have KW := Za ((b2.block _ (by rw [hs1]; omega)).trans (show (w.alloc (.cells #[I_ 5, I_ (j : Nat), I_ a, I_ v0, I_ v1, .int .u64 v2] 76)).heap[w.heap.size]? = some (.cells #[I_ 5, I_ (j : Nat), I_ a, I_ v0, I_ v1, .int .u64 v2] 76 (0, 0)) from B_ _ _))
 have KI : Hid (((w.alloc (.cells #[I_ 5, I_ (j : Nat), I_ a, I_ v0, I_ v1, .int .u64 v2] 76)).alloc (.cells #[I_ 0, I_ 0, .int .u64 0] 64)).heap[w.heap.size + 1]? = some (.cells #[I_ 0, I_ 0, .int .u64 0] 64 (0, 0))) := Za (by rw [← hs1]; exact B_ _ _)
 have NW : Hid (¬ G w.heap.size) := Za (fun e => by have := hfb _ e; omega)
 have NI : Hid (¬ G (w.heap.size + 1)) := Za (fun e => by have := hfb _ e; omega)
 have Q1 := Za (h.bel BB.out)
 have V1 := Za (v.bel BB.out)
 have HG := Za hG
 have HL2 := Za hl
 have HL := Za (show r.ev.length <= 100000 by omega)
 obtain ⟨n, hn⟩ : ∃ n, n = r.ws.length := ⟨_, rfl⟩
 rw [← hn] at c1 hi
 have hi1 : (i : Int) < (n : Int) := by omega
 have hi0 : (0 : Int) <= (i : Int) := by omega
 have hj := (G_ hp)
 have HP := Za hp
 have HRR := Za hr
 have hr0 : (q.room == 0) = false := by rw [beq_eq_false_iff_ne]; omega
 clear hr hbw
 obtain ⟨bR, cR, eR, _⟩ := Zq v.ch (show 0 < r.s.C.length by omega)
 obtain ⟨m, hm⟩ : ∃ m, m = r.s.C.length := ⟨_, rfl⟩
 rw [← hm] at eR hj
 subst eR
 have hj1 : (j : Int) < (m : Int) := by omega
 have hj0 : (0 : Int) <= (j : Int) := by omega
 have D0 := Za (Zk V1.out.ch _ _ (by have := (ccs_at _ _ _ hp).2; rw [Nat.mul_comm] at this; exact this)).1
 clear hp hj hm
 clear h hG v hx hi hl b1 b2 hs1 hfb hn
 go_enter Tryz.func39, Tryz.ntmps39
 go_upto_region 17 with fail
 generalize (w.alloc _).alloc _ = w1 at *
 clear c1 p0 p1 p2 p3 p4 p5 hi1 hi0
 have x0 := Q1.out.cells.1.1
 have x1 := V1.out.cells.2.2.1
 have x2 := Zb KW.out 1 _ rfl
 have x3 := D0.out
 go_quiet (fail)
 have DQ := below_drewN (Below.refl w1.heap.size w1) nq
 replace Q1 := Za (Q1.out.bel DQ)
 replace V1 := Za (V1.out.bel DQ)
 replace BB := Za (Zg BB.out DQ)
 have KW' : Hid ((w1.drewN nq).heap[w.heap.size]? = _) := Za ((DQ.block _ (Ze KW.out)).trans KW.out)
 have KI' : Hid ((w1.drewN nq).heap[w.heap.size + 1]? = _) := Za ((DQ.block _ (Ze KI.out)).trans KI.out)
 clear x0 x1 x2 x3 DQ KW KI
 have KW := KW'
 have KI := KI'
 clear KW' KI'
 generalize w1.drewN nq = w1 at *
 go_upto_region 19 with fail
 have Q2 := Za (Q1.out.bel (w' := w1.drew) (below_drewN (Below.refl _ _) 1))
 have V2 := Za (V1.out.bel (w' := w1.drew) (below_drewN (Below.refl _ _) 1))
 have B2 := Za (Zp BB.out)
 have KW2 : Hid (w1.drew.heap[w.heap.size]? = _) := Za KW.out
 have KI2 : Hid (w1.drew.heap[w.heap.size + 1]? = _) := Za KI.out
 refine ZE (S := fun wz => wz.cell? ⟨g, 0, none⟩ = some (P_ gs) /\ wz.cell? ⟨w.heap.size, 1, none⟩ = some (I_ (j : Nat)) /\ wz.cell? ⟨w.heap.size, 3, none⟩ = some (I_ v0) /\ wz.cell? ⟨w.heap.size, 4, none⟩ = some (I_ v1) /\ wz.cell? ⟨w.heap.size, 5, none⟩ = some (.int .u64 v2)) (fun j => decide (j < 8)) ZK ⟨Q2.out.cells.1.1, Zb KW2.out 1 _ rfl, Zb KW2.out 3 _ rfl, Zb KW2.out 4 _ rfl, Zb KW2.out 5 _ rfl⟩ (fun hH => ?_)
 generalize World.drew _ = wd at *
 refine M_ 0 ?_
 simp only [Act.put, S_]
 refine M_ 1 ?_
 simp only [Act.put, S_]
 refine M_ 2 ?_
 simp only [Act.put, S_]
 refine L_ 3 (v := ?_) ?_ hH ?_
 rotate_left 1
 · (intro w hSw; have q := hSw.1; clear hSw; go_simp <;> with_reducible rfl)
 simp only [Act.put, S_]
 refine M_ 4 ?_
 simp only [Act.put, S_]
 refine L_ 5 (v := ?_) ?_ hH ?_
 rotate_left 1
 · (intro w hSw; have q := hSw.2.1; clear hSw; go_simp <;> with_reducible rfl)
 simp only [Act.put, S_]
 refine M_ 6 ?_
 simp only [Act.put, S_]
 refine L_ 7 (v := ?_) ?_ hH ?_
 rotate_left 1
 · (intro w hSw; have q0 := hSw.2.2.1; have q1 := hSw.2.2.2.1; have q2 := hSw.2.2.2.2; clear hSw; go_simp <;> with_reducible rfl)
 simp only [Act.put, S_]
 clear hH
 refine RT_ 8 (fun K1 hK1 => ?_)
 have CT := Za (rSend_room ⟨_, _, _, _, _, _, _, _, V2.out⟩ j q HP.out v0 v1 v2 HBB.out (by omega) HRR.out)
 go_simp
 refine CT.out.mono ?_
 rintro e w5 ⟨rfl, F5, R5', rt, ch5, _, hr5⟩
 refine hK1.out _ _ (fun h => absurd h (by decide)) (fun _ => ?_)
 clear hK1 K1 CT
 refine ZX (by kernel_rfl) ?_ _
 have RB := rr_st (w := wd) HG.out (Q2.out.stW rt ch5 hr5) ch5 hr5
 have R5 := Za RB.1
 have C5 := Za ((Ch.of_bel (F := G) B2.out).trans RB.2)
 have KI5 := Za (Kb.ch (G := G) (W := wd) ⟨KI2.out, NI.out⟩ RB.2)
 have KW5 := Za (Kb.ch (G := G) (W := wd) ⟨KW2.out, NW.out⟩ RB.2)
 clear RB Q1 Q2 V1 V2 KI KI2 KW KW2 BB B2 rt ch5 hr5
 generalize (fun k => F5 k ∨ R5' k ∨ Fo k ∨ R k) = G5 at *
 have NT := Za (Yc R5.out i ⟨5, j, a, (v0, v1, v2)⟩ (j : Nat) HL.out)
 unfold w6V at NT
 have x0 := Zb KW5.out.1 0 _ rfl
 have x1 := Zb KW5.out.1 1 _ rfl
 have x2 := Zb KW5.out.1 2 _ rfl
 have x3 := Zb KW5.out.1 3 _ rfl
 have x4 := Zb KW5.out.1 4 _ rfl
 have x5 := Zb KW5.out.1 5 _ rfl
 go_wp2_with fail
 refine NT.out.mono ?_
 rintro e w6 ⟨rfl, G6, r6, c6⟩
 have KI6 := Za (KI5.out.ch c6)
 have R6 := Za r6
 have C6 := Za (C5.out.trans c6)
 have i0 := Zb KI6.out.1 0 _ rfl
 have i1 := Zb KI6.out.1 1 _ rfl
 have i2 := Zb KI6.out.1 2 _ rfl
 clear x0 x1 x2 x3 x4 x5 NT r6 c6 KI5 KW5 R5 C5
 go_wp2_with fail
 go_ret
 exact ⟨_, G6, rfl, R6.out.bel (Zd w6 _), C6.out.trans (Ch.of_bel (Zd w6 _)), AskS.one R6.out (i, 0, 0, 0)⟩
theorem ract_6 {w : World} {G : Nat -> Prop} {B g : Nat} {S : List (List Wt)} {r : Rz} (h : Rr w G B g S r) (i j : Nat) (a v0 v1 v2 : Int) (hx : r.ws[i]? = some ⟨6, j, a, (v0, v1, v2)⟩) (hl : r.ev.length <= 90000) (q : Qu) (hp : r.s.C[j]? = some q) (hB : B <= 900000) (y : V3) (q' : List V3) (hql : q.l = y :: q') :
 Calls Tryz.prog 39 #[P_ g, I_ (i : Nat)] w (YE w G (B + 1) g S { r with s := { r.s with C := r.s.C.set j { q with l := q' } }, ev := r.ev ++ [⟨i, 6, j, a⟩] } [(i, y)]) := by
 have hfb := h.fb
 obtain ⟨Fs, Rs, Fo, R, gs, gt, vW, vE, vL, vO, vA, vs, os, as_, h, hG⟩ := h
 have hi := (G_ hx)
 obtain ⟨b, cW, eW, hb, p0, p1, p2, p3, p4, p5⟩ := h.waitAt i _ hx
 subst eW
 simp only at p0 p1 p2 p3 p4 p5
 obtain ⟨vP, vL_, vC, vS, vT, vA_, ss, tk, v⟩ := h.st
 have c1 := h.cells.1.2.1
 have b1 := Zd w (.cells #[I_ 6, I_ (j : Nat), I_ a, I_ v0, I_ v1, .int .u64 v2] 76)
 have b2 := Zd (w.alloc (.cells #[I_ 6, I_ (j : Nat), I_ a, I_ v0, I_ v1, .int .u64 v2] 76)) (.cells #[I_ 0, I_ 0, .int .u64 0] 64)
 have hs1 : (w.alloc (.cells #[I_ 6, I_ (j : Nat), I_ a, I_ v0, I_ v1, .int .u64 v2] 76)).heap.size = w.heap.size + 1 := by simp
 have BB := Za (Zg b1 b2)
 have KW := Za ((b2.block _ (by rw [hs1]; omega)).trans (show (w.alloc (.cells #[I_ 6, I_ (j : Nat), I_ a, I_ v0, I_ v1, .int .u64 v2] 76)).heap[w.heap.size]? = some (.cells #[I_ 6, I_ (j : Nat), I_ a, I_ v0, I_ v1, .int .u64 v2] 76 (0, 0)) from B_ _ _))
 have KI : Hid (((w.alloc (.cells #[I_ 6, I_ (j : Nat), I_ a, I_ v0, I_ v1, .int .u64 v2] 76)).alloc (.cells #[I_ 0, I_ 0, .int .u64 0] 64)).heap[w.heap.size + 1]? = some (.cells #[I_ 0, I_ 0, .int .u64 0] 64 (0, 0))) := Za (by rw [← hs1]; exact B_ _ _)
 have NW : Hid (¬ G w.heap.size) := Za (fun e => by have := hfb _ e; omega)
 have NI : Hid (¬ G (w.heap.size + 1)) := Za (fun e => by have := hfb _ e; omega)
 have Q1 := Za (h.bel BB.out)
 have V1 := Za (v.bel BB.out)
 have HG := Za hG
 have HL2 := Za hl
 have HL := Za (show r.ev.length <= 100000 by omega)
 obtain ⟨n, hn⟩ : ∃ n, n = r.ws.length := ⟨_, rfl⟩
 rw [← hn] at c1 hi
 have hi1 : (i : Int) < (n : Int) := by omega
 have hi0 : (0 : Int) <= (i : Int) := by omega
 have hj := (G_ hp)
 have HP := Za hp
 have HQL := Za hql
 clear hql
 obtain ⟨bR, cR, eR, _⟩ := Zq v.ch (show 0 < r.s.C.length by omega)
 obtain ⟨m, hm⟩ : ∃ m, m = r.s.C.length := ⟨_, rfl⟩
 rw [← hm] at eR hj
 subst eR
 have hj1 : (j : Int) < (m : Int) := by omega
 have hj0 : (0 : Int) <= (j : Int) := by omega
 have D0 := Za (Zk V1.out.ch _ _ (by have := (ccs_at _ _ _ hp).2; rw [Nat.mul_comm] at this; exact this)).1
 clear hp hj hm
 clear h hG v hx hi hl b1 b2 hs1 hfb hb hn
 go_enter Tryz.func39, Tryz.ntmps39
 obtain ⟨y0, y1, y2⟩ := y
 go_upto_region 21 with fail
 generalize (w.alloc _).alloc _ = w1 at *
 clear c1 p0 p1 p2 p3 p4 p5 hi1 hi0
 have Q2 := Za (Q1.out.bel (w' := w1.drew) (below_drewN (Below.refl _ _) 1))
 have V2 := Za (V1.out.bel (w' := w1.drew) (below_drewN (Below.refl _ _) 1))
 have B2 := Za (Zp BB.out)
 have KW2 : Hid (w1.drew.heap[w.heap.size]? = _) := Za KW.out
 have KI2 : Hid (w1.drew.heap[w.heap.size + 1]? = _) := Za KI.out
 refine ZE (S := fun wz => wz.cell? ⟨g, 0, none⟩ = some (P_ gs) /\ wz.cell? ⟨w.heap.size, 1, none⟩ = some (I_ (j : Nat))) (fun j => decide (j ≠ 6) && decide (j ≠ 11)) ZK ⟨Q2.out.cells.1.1, Zb KW2.out 1 _ rfl⟩ (fun hH => ?_)
 generalize World.drew _ = wd at *
 refine M_ 0 ?_
 simp only [Act.put, S_]
 refine M_ 1 ?_
 simp only [Act.put, S_]
 refine M_ 2 ?_
 simp only [Act.put, S_]
 refine L_ 3 (v := ?_) ?_ hH ?_
 rotate_left 1
 · (intro w hSw; have q := hSw.1; clear hSw; go_simp <;> with_reducible rfl)
 simp only [Act.put, S_]
 refine M_ 4 ?_
 simp only [Act.put, S_]
 refine L_ 5 (v := ?_) ?_ hH ?_
 rotate_left 1
 · (intro w hSw; have q := hSw.2; clear hSw; go_simp <;> with_reducible rfl)
 simp only [Act.put, S_]
 clear hH
 refine RT_ 6 (fun K1 hK1 => ?_)
 have CT := Za (rRecv_some ⟨_, _, _, _, _, _, _, _, V2.out⟩ (by omega) j q HP.out (y0, y1, y2) q' HQL.out)
 simp only at CT
 go_simp
 refine CT.out.mono ?_
 rintro e w5 ⟨rfl, F5, R5', rt, ch5, _, hr5⟩
 refine hK1.out _ _ (fun h => absurd h (by decide)) (fun _ => ?_)
 clear hK1 K1 CT
 have RB := rr_st (w := wd) HG.out (Q2.out.stW rt ch5 hr5) ch5 hr5
 have R5 := Za (RB.1.up (Nat.le_succ B))
 have C5 := Za ((Ch.of_bel (F := G) B2.out).trans RB.2)
 have KI5 := Za (Kb.ch (G := G) (W := wd) ⟨KI2.out, NI.out⟩ RB.2)
 have KW5 := Za (Kb.ch (G := G) (W := wd) ⟨KW2.out, NW.out⟩ RB.2)
 clear RB Q1 Q2 V1 V2 KI KI2 KW KW2 BB B2 rt ch5 hr5
 generalize (fun k => F5 k ∨ R5' k ∨ Fo k ∨ R k) = G5 at *
 refine M_ 7 ?_
 simp only [Act.put, S_]
 refine M_ 8 ?_
 simp only [Act.put, S_]
 refine M_ 9 ?_
 simp only [Act.put, S_]
 refine M_ 10 ?_
 simp only [Act.put, S_]
 refine RT_ 11 (fun K1 hK1 => ?_)
 have n0 := Zb KI5.out.1 0 _ rfl
 have n1 := Zb KI5.out.1 1 _ rfl
 have n2 := Zb KI5.out.1 2 _ rfl
 have m0 := Zc KI5.out.1 0
 have m1 := Zc KI5.out.1 1
 have m2 := Zc KI5.out.1 2
 go_simp
 refine hK1.out _ _ (fun h => absurd h (by decide)) (fun _ => ?_)
 clear hK1 K1 n0 n1 n2 m0 m1 m2
 refine ZX (by kernel_rfl) ?_ _
 obtain ⟨z, zo, zs⟩ := set3t KI5.out.1 (I_ y0) (I_ y1) (.int .u64 y2)
 have R8 := Za (R5.out.keep (fun k hk => zo k (fun e => KI5.out.2 (by rw [← e]; exact hk))) (Nat.le_of_eq zs.symm))
 have C8 := Za (ch_box C5.out zo zs rfl rfl rfl (Nat.le_succ _))
 have KI8 : Hid (Kb _ G5 (w.heap.size + 1) _) := Za ⟨z, KI5.out.2⟩
 have KW8 := Za (KW5.out.set (by omega) zo)
 clear z zo zs R5 C5 KI5 KW5
 generalize (((w5.setCell ⟨w.heap.size + 1, 0, none⟩ (I_ y0)).setCell ⟨w.heap.size + 1, 1, none⟩ (I_ y1)).setCell ⟨w.heap.size + 1, 2, none⟩ (.int .u64 y2)) = w8 at *
 have R5 := R8
 have C5 := C8
 have KI5 := KI8
 have KW5 := KW8
 clear R8 C8 KI8 KW8
 have NT := Za (Yc R5.out i ⟨6, j, a, (v0, v1, v2)⟩ (j : Nat) HL.out)
 unfold w6V at NT
 have x0 := Zb KW5.out.1 0 _ rfl
 have x1 := Zb KW5.out.1 1 _ rfl
 have x2 := Zb KW5.out.1 2 _ rfl
 have x3 := Zb KW5.out.1 3 _ rfl
 have x4 := Zb KW5.out.1 4 _ rfl
 have x5 := Zb KW5.out.1 5 _ rfl
 go_wp2_with fail
 refine NT.out.mono ?_
 rintro e w6 ⟨rfl, G6, r6, c6⟩
 have KI6 := Za (KI5.out.ch c6)
 have R6 := Za r6
 have C6 := Za (C5.out.trans c6)
 have i0 := Zb KI6.out.1 0 _ rfl
 have i1 := Zb KI6.out.1 1 _ rfl
 have i2 := Zb KI6.out.1 2 _ rfl
 clear x0 x1 x2 x3 x4 x5 NT r6 c6 KI5 KW5 R5 C5
 go_wp2_with fail
 go_ret
 exact ⟨_, G6, rfl, R6.out.bel (Zd w6 _), C6.out.trans (Ch.of_bel (Zd w6 _)), AskS.one R6.out (i, y0, y1, y2)⟩
theorem ract_4f {w : World} {G : Nat -> Prop} {B g : Nat} {S : List (List Wt)} {r : Rz} (h : Rr w G B g S r) (i j : Nat) (a v0 v1 v2 : Int) (hx : r.ws[i]? = some ⟨4, j, a, (v0, v1, v2)⟩) (hl : r.ev.length <= 90000) (hp : r.s.M[j]? = some false) :
 Calls Tryz.prog 39 #[P_ g, I_ (i : Nat)] w (YE w G (B + 1) g S { r with e := ⟨3, 4, i, 0, a⟩ } []) := by
 have hfb := h.fb
 obtain ⟨Fs, Rs, Fo, R, gs, gt, vW, vE, vL, vO, vA, vs, os, as_, h, hG⟩ := h
 have hi := (G_ hx)
 obtain ⟨b, cW, eW, hb, p0, p1, p2, p3, p4, p5⟩ := h.waitAt i _ hx
 subst eW
 simp only at p0 p1 p2 p3 p4 p5
 obtain ⟨vP, vL_, vC, vS, vT, vA_, ss, tk, v⟩ := h.st
 have c1 := h.cells.1.2.1
 have b1 := Zd w (.cells #[I_ 4, I_ (j : Nat), I_ a, I_ v0, I_ v1, .int .u64 v2] 76)
 have b2 := Zd (w.alloc (.cells #[I_ 4, I_ (j : Nat), I_ a, I_ v0, I_ v1, .int .u64 v2] 76)) (.cells #[I_ 0, I_ 0, .int .u64 0] 64)
 have hs1 : (w.alloc (.cells #[I_ 4, I_ (j : Nat), I_ a, I_ v0, I_ v1, .int .u64 v2] 76)).heap.size = w.heap.size + 1 := by simp
 have BB := Za (Zg b1 b2)
 have KW := Za ((b2.block _ (by rw [hs1]; omega)).trans (show (w.alloc (.cells #[I_ 4, I_ (j : Nat), I_ a, I_ v0, I_ v1, .int .u64 v2] 76)).heap[w.heap.size]? = some (.cells #[I_ 4, I_ (j : Nat), I_ a, I_ v0, I_ v1, .int .u64 v2] 76 (0, 0)) from B_ _ _))
 have KI : Hid (((w.alloc (.cells #[I_ 4, I_ (j : Nat), I_ a, I_ v0, I_ v1, .int .u64 v2] 76)).alloc (.cells #[I_ 0, I_ 0, .int .u64 0] 64)).heap[w.heap.size + 1]? = some (.cells #[I_ 0, I_ 0, .int .u64 0] 64 (0, 0))) := Za (by rw [← hs1]; exact B_ _ _)
 have NW : Hid (¬ G w.heap.size) := Za (fun e => by have := hfb _ e; omega)
 have NI : Hid (¬ G (w.heap.size + 1)) := Za (fun e => by have := hfb _ e; omega)
 have Q1 := Za (h.bel BB.out)
 have V1 := Za (v.bel BB.out)
 have HG := Za hG
 have HL2 := Za hl
 have HL := Za (show r.ev.length <= 100000 by omega)
 obtain ⟨n, hn⟩ : ∃ n, n = r.ws.length := ⟨_, rfl⟩
 rw [← hn] at c1 hi
 have hi1 : (i : Int) < (n : Int) := by omega
 have hi0 : (0 : Int) <= (i : Int) := by omega
 have hj := (G_ hp)
 obtain ⟨bR, cR, eR, _⟩ := Zq v.lo (show 0 < r.s.M.length by omega)
 obtain ⟨m, hm⟩ : ∃ m, m = r.s.M.length := ⟨_, rfl⟩
 rw [← hm] at eR hj
 subst eR
 have HM := Za hm
 have HJ := Za hj
 have hj1 : (j : Int) < (m : Int) := by omega
 have hj0 : (0 : Int) <= (j : Int) := by omega
 have D0 := Za (Zk V1.out.lo _ _ (bls_at hp)).1
 clear hp hj hm
 clear h hG v hx hi hl b1 b2 hs1 hfb hb hn
 go_enter Tryz.func39, Tryz.ntmps39
 go_upto_region 12 with fail
 generalize (w.alloc _).alloc _ = w1 at *
 clear c1 p0 p1 p2 p3 p4 p5 hi1 hi0
 have x0 := Q1.out.cells.1.1
 have x1 := V1.out.cells.2.1
 have x2 := Zb KW.out 1 _ rfl
 have x3 := D0.out
 go_quiet (fail)
 have DQ := below_drewN (Below.refl w1.heap.size w1) nq
 replace Q1 := Za (Q1.out.bel DQ)
 replace V1 := Za (V1.out.bel DQ)
 replace BB := Za (Zg BB.out DQ)
 have KW' : Hid ((w1.drewN nq).heap[w.heap.size]? = _) := Za ((DQ.block _ (Ze KW.out)).trans KW.out)
 have KI' : Hid ((w1.drewN nq).heap[w.heap.size + 1]? = _) := Za ((DQ.block _ (Ze KI.out)).trans KI.out)
 clear x0 x1 x2 x3 DQ KW KI
 have KW := KW'
 have KI := KI'
 clear KW' KI'
 generalize w1.drewN nq = w1 at *
 have R5 := Za ((Q1.out.rr.wideG HG.out).up (Nat.le_succ B))
 have C5 := Za (Ch.of_bel (F := G) BB.out)
 have FA := Za (rFault_any R5.out (i : Nat) 4 0 a)
 unfold h3V at FA
 simp only at FA
 have x2 := Zb KW.out 2 _ rfl
 clear Q1 V1 KI KW BB
 go_wp2_with fail
 refine FA.out.mono ?_
 rintro e w6 ⟨rfl, G6, r6, c6⟩
 have R6 := Za r6
 have C6 := Za (C5.out.trans c6)
 clear r6 c6 FA x2
 go_wp2_with fail
 go_ret
 exact ⟨_, G6, rfl, R6.out, C6.out, AskS.nil _ _⟩
theorem ract_12 {w : World} {G : Nat -> Prop} {B g : Nat} {S : List (List Wt)} {r : Rz} (h : Rr w G B g S r) (i : Nat) (j a v0 v1 v2 : Int) (hx : r.ws[i]? = some ⟨12, j, a, (v0, v1, v2)⟩) (hl : r.ev.length <= 90000) :
 Calls Tryz.prog 39 #[P_ g, I_ (i : Nat)] w (YE w G (B + 1) g S { r with ev := r.ev ++ [⟨i, 12, j, a⟩], ws := r.ws.set i zW } []) := by
 have hfb := h.fb
 obtain ⟨Fs, Rs, Fo, R, gs, gt, vW, vE, vL, vO, vA, vs, os, as_, h, hG⟩ := h
 have HX := Za hx
 have hi := (G_ hx)
 obtain ⟨b, cW, eW, hb, p0, p1, p2, p3, p4, p5⟩ := h.waitAt i _ hx
 subst eW
 simp only at p0 p1 p2 p3 p4 p5
 obtain ⟨vP, vL_, vC, vS, vT, vA_, ss, tk, v⟩ := h.st
 have c1 := h.cells.1.2.1
 have b1 := Zd w (.cells #[I_ 12, I_ j, I_ a, I_ v0, I_ v1, .int .u64 v2] 76)
 have b2 := Zd (w.alloc (.cells #[I_ 12, I_ j, I_ a, I_ v0, I_ v1, .int .u64 v2] 76)) (.cells #[I_ 0, I_ 0, .int .u64 0] 64)
 have hs1 : (w.alloc (.cells #[I_ 12, I_ j, I_ a, I_ v0, I_ v1, .int .u64 v2] 76)).heap.size = w.heap.size + 1 := by simp
 have BB := Za (Zg b1 b2)
 have KW := Za ((b2.block _ (by rw [hs1]; omega)).trans (show (w.alloc (.cells #[I_ 12, I_ j, I_ a, I_ v0, I_ v1, .int .u64 v2] 76)).heap[w.heap.size]? = some (.cells #[I_ 12, I_ j, I_ a, I_ v0, I_ v1, .int .u64 v2] 76 (0, 0)) from B_ _ _))
 have KI : Hid (((w.alloc (.cells #[I_ 12, I_ j, I_ a, I_ v0, I_ v1, .int .u64 v2] 76)).alloc (.cells #[I_ 0, I_ 0, .int .u64 0] 64)).heap[w.heap.size + 1]? = some (.cells #[I_ 0, I_ 0, .int .u64 0] 64 (0, 0))) := Za (by rw [← hs1]; exact B_ _ _)
 have NW : Hid (¬ G w.heap.size) := Za (fun e => by have := hfb _ e; omega)
 have NI : Hid (¬ G (w.heap.size + 1)) := Za (fun e => by have := hfb _ e; omega)
 have Q1 := Za (h.bel BB.out)
 have V1 := Za (v.bel BB.out)
 have HG := Za hG
 have HL2 := Za hl
 have HL := Za (show r.ev.length <= 100000 by omega)
 obtain ⟨n, hn⟩ : ∃ n, n = r.ws.length := ⟨_, rfl⟩
 rw [← hn] at c1 hi
 have hi1 : (i : Int) < (n : Int) := by omega
 have hi0 : (0 : Int) <= (i : Int) := by omega
 clear h hG v hx hi hl b1 b2 hs1 hfb hb hn
 go_enter Tryz.func39, Tryz.ntmps39
 go_upto_region 29 with fail
 generalize (w.alloc _).alloc _ = w1 at *
 clear c1 p0 p1 p2 p3 p4 p5
 have R5 := Za ((Q1.out.rr.wideG HG.out).up (Nat.le_succ B))
 have C5 := Za (Ch.of_bel (F := G) BB.out)
 have NT := Za (Yc R5.out i ⟨12, j, a, (v0, v1, v2)⟩ j HL.out)
 unfold w6V at NT
 have x0 := Zb KW.out 0 _ rfl
 have x1 := Zb KW.out 1 _ rfl
 have x2 := Zb KW.out 2 _ rfl
 have x3 := Zb KW.out 3 _ rfl
 have x4 := Zb KW.out 4 _ rfl
 have x5 := Zb KW.out 5 _ rfl
 clear Q1 V1 KI BB
 go_wp2_with fail
 refine NT.out.mono ?_
 rintro e w6 ⟨rfl, G6, r6, c6⟩
 have C6 := Za (C5.out.trans c6)
 clear x0 x1 x2 x3 x4 x5 NT c6 KW R5 C5
 obtain ⟨Fs6, Rs6, Fo6, R6, gs6, gt6, vW6, vE6, vL6, vO6, vA6, vs6, os6, as6, q6, hG6⟩ := r6
 obtain ⟨b6, cW6, eW6, hb6, p0, p1, p2, p3, p4, p5⟩ := q6.waitAt i ⟨12, j, a, (v0, v1, v2)⟩ HX.out
 subst eW6
 have d1 := q6.cells.1.2.1
 have WS := Za (q6.wsetZ i zW)
 obtain ⟨f0, f1, f2, f3, f4, f5⟩ := q6.waitFz i ⟨12, j, a, (v0, v1, v2)⟩ HX.out
 have HG6 := Za hG6
 simp only at d1 p0 p1 p2 p3 p4 p5
 obtain ⟨n, hn⟩ : ∃ n, n = r.ws.length := ⟨_, rfl⟩
 rw [← hn] at d1 WS
 have hi1 : (i : Int) < (n : Int) := by
  have := (G_ HX.out)
  omega
 have hi0 : (0 : Int) <= (i : Int) := by omega
 clear hn q6 hG6
 go_wp2_with fail
 go_ret
 have RW := rr_wide HG6.out WS.out.1 WS.out.2
 exact ⟨_, _, rfl, RW.1, C6.out.trans RW.2, AskS.nil _ _⟩
theorem ract_50 {w : World} {G : Nat -> Prop} {B g : Nat} {S : List (List Wt)} {r : Rz} (h : Rr w G B g S r) (i j : Nat) (a v0 v1 v2 : Int) (hx : r.ws[i]? = some ⟨5, j, a, (v0, v1, v2)⟩) (hl : r.ev.length <= 90000) (q : Qu) (hp : r.s.C[j]? = some q) (hr : q.room = 0) (t : Nat) (y : Wt) (ht : r.ws.findIdx? (isR (j : Nat)) = some t) (hy : r.ws[t]? = some y) :
 Calls Tryz.prog 39 #[P_ g, I_ (i : Nat)] w (YE w G (B + 1) g S { r with ev := (r.ev ++ [⟨i, 5, j, a⟩]) ++ [⟨t, y.k, j, y.a⟩] } [(i, 0, 0, 0), (t, v0, v1, v2)]) := by
 have hfb := h.fb
 obtain ⟨Fs, Rs, Fo, R, gs, gt, vW, vE, vL, vO, vA, vs, os, as_, h, hG⟩ := h
 have hi := (G_ hx)
 obtain ⟨b, cW, eW, hb, p0, p1, p2, p3, p4, p5⟩ := h.waitAt i _ hx
 subst eW
 simp only at p0 p1 p2 p3 p4 p5
 obtain ⟨vP, vL_, vC, vS, vT, vA_, ss, tk, v⟩ := h.st
 have c1 := h.cells.1.2.1
 have b1 := Zd w (.cells #[I_ 5, I_ (j : Nat), I_ a, I_ v0, I_ v1, .int .u64 v2] 76)
 have b2 := Zd (w.alloc (.cells #[I_ 5, I_ (j : Nat), I_ a, I_ v0, I_ v1, .int .u64 v2] 76)) (.cells #[I_ 0, I_ 0, .int .u64 0] 64)
 have hs1 : (w.alloc (.cells #[I_ 5, I_ (j : Nat), I_ a, I_ v0, I_ v1, .int .u64 v2] 76)).heap.size = w.heap.size + 1 := by simp
 have BB := Za (Zg b1 b2)
 have KW := Za ((b2.block _ (by rw [hs1]; omega)).trans (show (w.alloc (.cells #[I_ 5, I_ (j : Nat), I_ a, I_ v0, I_ v1, .int .u64 v2] 76)).heap[w.heap.size]? = some (.cells #[I_ 5, I_ (j : Nat), I_ a, I_ v0, I_ v1, .int .u64 v2] 76 (0, 0)) from B_ _ _))
 have KI : Hid (((w.alloc (.cells #[I_ 5, I_ (j : Nat), I_ a, I_ v0, I_ v1, .int .u64 v2] 76)).alloc (.cells #[I_ 0, I_ 0, .int .u64 0] 64)).heap[w.heap.size + 1]? = some (.cells #[I_ 0, I_ 0, .int .u64 0] 64 (0, 0))) := Za (by rw [← hs1]; exact B_ _ _)
 have NW : Hid (¬ G w.heap.size) := Za (fun e => by have := hfb _ e; omega)
 have NI : Hid (¬ G (w.heap.size + 1)) := Za (fun e => by have := hfb _ e; omega)
 have Q1 := Za (h.bel BB.out)
 have V1 := Za (v.bel BB.out)
 have HG := Za hG
 have HL2 := Za hl
 have HL := Za (show r.ev.length <= 100000 by omega)
 obtain ⟨n, hn⟩ : ∃ n, n = r.ws.length := ⟨_, rfl⟩
 rw [← hn] at c1 hi
 have hi1 : (i : Int) < (n : Int) := by omega
 have hi0 : (0 : Int) <= (i : Int) := by omega
 have hj := (G_ hp)
 have HP := Za hp
 have HY := Za hy
 have HXX := Za hx
 have hr0 : (q.room == 0) = true := by rw [beq_iff_eq]; exact hr
 have HTK : Hid (takI r.ws (j : Nat) = (t : Nat)) := Za (by unfold takI; rw [ht])
 have TKR := Za (fun wz Gz (hz : Rr wz Gz (B + 1) g S r) => taker_any hz (j : Nat) i _ hx (show ¬ (5 : Int) = 6 by decide))
 clear hr ht hy
 obtain ⟨bR, cR, eR, _⟩ := Zq v.ch (show 0 < r.s.C.length by omega)
 obtain ⟨m, hm⟩ : ∃ m, m = r.s.C.length := ⟨_, rfl⟩
 rw [← hm] at eR hj
 subst eR
 have hj1 : (j : Int) < (m : Int) := by omega
 have hj0 : (0 : Int) <= (j : Int) := by omega
 have D0 := Za (Zk V1.out.ch _ _ (by have := (ccs_at _ _ _ hp).2; rw [Nat.mul_comm] at this; exact this)).1
 clear hp hj hm
 clear h hG v hx hi hl b1 b2 hs1 hfb hb hn
 go_enter Tryz.func39, Tryz.ntmps39
 go_upto_region 17 with fail
 generalize (w.alloc _).alloc _ = w1 at *
 clear c1 p0 p1 p2 p3 p4 p5 hi1 hi0
 have x0 := Q1.out.cells.1.1
 have x1 := V1.out.cells.2.2.1
 have x2 := Zb KW.out 1 _ rfl
 have x3 := D0.out
 go_quiet (fail)
 have DQ := below_drewN (Below.refl w1.heap.size w1) nq
 replace Q1 := Za (Q1.out.bel DQ)
 replace V1 := Za (V1.out.bel DQ)
 replace BB := Za (Zg BB.out DQ)
 have KW' : Hid ((w1.drewN nq).heap[w.heap.size]? = _) := Za ((DQ.block _ (Ze KW.out)).trans KW.out)
 have KI' : Hid ((w1.drewN nq).heap[w.heap.size + 1]? = _) := Za ((DQ.block _ (Ze KI.out)).trans KI.out)
 clear x0 x1 x2 x3 DQ KW KI
 have KW := KW'
 have KI := KI'
 clear KW' KI'
 generalize w1.drewN nq = w1 at *
 have R5 := Za ((Q1.out.rr.wideG HG.out).up (Nat.le_succ B))
 have C5 := Za (Ch.of_bel (F := G) BB.out)
 have KI5 : Hid (Kb w1 G (w.heap.size + 1) _) := Za ⟨KI.out, NI.out⟩
 have KW5 : Hid (Kb w1 G w.heap.size _) := Za ⟨KW.out, NW.out⟩
 have TK := Za (TKR.out w1 G R5.out)
 rw [HTK.out] at TK
 have x1 := Zb KW.out 1 _ rfl
 clear Q1 V1 KI KW BB TKR
 go_wp2_with fail
 refine TK.out.mono ?_
 rintro e w5 ⟨rfl, b5⟩
 replace R5 := Za (R5.out.bel b5)
 replace C5 := Za (C5.out.trans (Ch.of_bel b5))
 replace KI5 := Za (KI5.out.bel b5)
 replace KW5 := Za (KW5.out.bel b5)
 clear x1 TK b5
 have NT := Za (Yc R5.out i ⟨5, j, a, (v0, v1, v2)⟩ (j : Nat) HL.out)
 unfold w6V at NT
 have x0 := Zb KW5.out.1 0 _ rfl
 have x1 := Zb KW5.out.1 1 _ rfl
 have x2 := Zb KW5.out.1 2 _ rfl
 have x3 := Zb KW5.out.1 3 _ rfl
 have x4 := Zb KW5.out.1 4 _ rfl
 have x5 := Zb KW5.out.1 5 _ rfl
 go_wp2_with fail
 refine NT.out.mono ?_
 rintro e w6 ⟨rfl, G6, r6, c6⟩
 have KI6 := Za (KI5.out.ch c6)
 have KW6 := Za (KW5.out.ch c6)
 have R6 := Za r6
 have C6 := Za (C5.out.trans c6)
 have hto : decide ((0 : Int) <= (t : Int)) = true := by simp
 clear x0 x1 x2 x3 x4 x5 NT r6 c6 KI5 KW5 R5 C5
 go_upto_region 34 with fail
 obtain ⟨Fs6, Rs6, Fo6, R6_, gs6, gt6, vW6, vE6, vL6, vO6, vA6, vs6, os6, as6, q6, hG6⟩ := R6.out
 obtain ⟨b6, cW6, eW6, hb6, p0, p1, p2, p3, p4, p5⟩ := q6.waitAt t y HY.out
 subst eW6
 have d1 := q6.cells.1.2.1
 simp only at d1
 obtain ⟨n, hn⟩ : ∃ n, n = r.ws.length := ⟨_, rfl⟩
 rw [← hn] at d1
 have ht1 : (t : Int) < (n : Int) := by
  have := (G_ HY.out)
  omega
 have ht0 : (0 : Int) <= (t : Int) := by omega
 have DD := below_drewN (Below.refl w6.heap.size w6) 1
 have ND := Za (Yc (R6.out.bel (w' := w6.drew) DD) t y (j : Nat) (by have := HL2.out; show (r.ev ++ [_]).length <= 100000; rw [List.length_append, List.length_singleton]; omega))
 unfold w6V at ND
 have CD := Za (C6.out.trans (Ch.of_bel (w' := w6.drew) DD))
 have KID := Za (KI6.out.bel (W' := w6.drew) DD)
 have KWD := Za (KW6.out.bel (W' := w6.drew) DD)
 have SD : Hid (w6.drew.cell? ⟨g, 1, none⟩ = some (.slice (some ⟨b6, 0, none⟩) n cW6) /\ (w6.drew.cell? ⟨b6, t * 6, none⟩ = some (I_ y.k) /\ w6.drew.cell? ⟨b6, t * 6 + 1, none⟩ = some (I_ y.o) /\ w6.drew.cell? ⟨b6, t * 6 + 2, none⟩ = some (I_ y.a) /\ w6.drew.cell? ⟨b6, t * 6 + 3, none⟩ = some (I_ y.v.1) /\ w6.drew.cell? ⟨b6, t * 6 + 4, none⟩ = some (I_ y.v.2.1) /\ w6.drew.cell? ⟨b6, t * 6 + 5, none⟩ = some (.int .u64 y.v.2.2)) /\ w6.drew.cell? ⟨w.heap.size, 1, none⟩ = some (I_ (j : Nat))) := Za ⟨d1, ⟨p0, p1, p2, p3, p4, p5⟩, Zb KW6.out.1 1 _ rfl⟩
 clear q6 hG6 d1 p0 p1 p2 p3 p4 p5 hn DD R6 C6 KI6 KW6
 refine ZE (S := fun wz => wz.cell? ⟨g, 1, none⟩ = some (.slice (some ⟨b6, 0, none⟩) n cW6) /\ (wz.cell? ⟨b6, t * 6, none⟩ = some (I_ y.k) /\ wz.cell? ⟨b6, t * 6 + 1, none⟩ = some (I_ y.o) /\ wz.cell? ⟨b6, t * 6 + 2, none⟩ = some (I_ y.a) /\ wz.cell? ⟨b6, t * 6 + 3, none⟩ = some (I_ y.v.1) /\ wz.cell? ⟨b6, t * 6 + 4, none⟩ = some (I_ y.v.2.1) /\ wz.cell? ⟨b6, t * 6 + 5, none⟩ = some (.int .u64 y.v.2.2)) /\ wz.cell? ⟨w.heap.size, 1, none⟩ = some (I_ (j : Nat))) (fun j => decide (j < 11)) ZK SD.out (fun hH => ?_)
 clear SD
 generalize World.drew _ = wd at *
 refine M_ 0 ?_
 simp only [Act.put, S_]
 refine M_ 1 ?_
 simp only [Act.put, S_]
 refine M_ 2 ?_
 simp only [Act.put, S_]
 refine M_ 3 ?_
 simp only [Act.put, S_]
 refine M_ 4 ?_
 simp only [Act.put, S_]
 refine M_ 6 ?_
 simp only [Act.put, S_]
 refine M_ 9 ?_
 simp only [Act.put, S_]
 refine L_ 10 (v := ?_) ?_ hH ?_
 rotate_left 1
 · (intro w hSw; have q := hSw.2.2; clear hSw; go_simp <;> with_reducible rfl)
 simp only [Act.put, S_]
 refine RT_ 5 (fun K1 hK1 => ?_)
 have q := hH.1
 go_simp
 refine hK1.out _ _ (fun _ => hH) (fun hh => ?_)
 clear hK1 K1 q hh
 refine M_ 7 ?_
 simp only [Act.put, S_]
 refine L_ 8 (v := ?_) ?_ hH ?_
 rotate_left 1
 · (intro w hSw; obtain ⟨q0, q1, q2, q3, q4, q5⟩ := hSw.2.1; clear hSw; go_simp <;> with_reducible rfl)
 simp only [Act.put, S_]
 clear hH
 refine RT_ 11 (fun K1 hK1 => ?_)
 go_simp
 refine ND.out.mono ?_
 rintro e w7 ⟨rfl, G7, r7, c7⟩
 refine hK1.out _ _ (fun h => absurd h (by decide)) (fun _ => ?_)
 clear hK1 K1 ND
 refine ZX (by kernel_rfl) ?_ _
 have KI7 := Za (KID.out.ch c7)
 have KW7 := Za (KWD.out.ch c7)
 have R7 := Za r7
 have C7 := Za (CD.out.trans c7)
 have i0 := Zb KI7.out.1 0 _ rfl
 have i1 := Zb KI7.out.1 1 _ rfl
 have i2 := Zb KI7.out.1 2 _ rfl
 have u3 := Zb KW7.out.1 3 _ rfl
 have u4 := Zb KW7.out.1 4 _ rfl
 have u5 := Zb KW7.out.1 5 _ rfl
 clear r7 c7 KID KWD CD hto ht1 ht0
 go_wp2_with fail
 go_ret
 have R8 := R7.out
 rw [List.append_assoc] at R8
 exact ⟨_, G7, rfl, R8.bel (Zd w7 _), C7.out.trans (Ch.of_bel (Zd w7 _)), AskS.two R7.out (i, 0, 0, 0) (t, v0, v1, v2)⟩
theorem rdo_act {w : World} {G : Nat -> Prop} {B g : Nat} {S : List (List Wt)} {r r' : Rz} {lx : List (Nat × V3)} (h : Rr w G B g S r) (hB : B + 1 <= 1000000) (i : Nat) (x : Wt) (hx : r.ws[i]? = some x) (hk : (x.k == 10) = false)
 (AC : ∀ w1, Below w.heap.size w w1 -> Calls Tryz.prog 39 #[P_ g, I_ (i : Nat)] w1 (YE w1 G (B + 1) g S r' lx)) (hlx : ∀ y ∈ lx, y.1 < r'.ws.length /\ y.1 < r'.pe.length) :
 Calls Tryz.prog 12 #[P_ g, I_ (i : Nat)] w (RrP w G (B + 1) g S (Yz (Yo r' (lx.map Prod.fst) lx.length)) (.tuple #[])) := by
 obtain ⟨k, o, a, v0, v1, v2⟩ := x
 simp only at hk
 obtain ⟨Fs, Rs, Fo, R, gs, gt, vW, vE, vL, vO, vA, vs, os, as_, h, hG⟩ := h
 have hi := (G_ hx)
 obtain ⟨b, cW, eW, hb, p0, p1, p2, p3, p4, p5⟩ := h.waitAt i _ hx
 subst eW
 simp only at p0 p1 p2 p3 p4 p5
 have c1 := h.cells.1.2.1
 have B0 := Za (Zd w (.cells #[I_ k, I_ o, I_ a, I_ v0, I_ v1, .int .u64 v2] 76))
 have KW := Za (B_ w (.cells #[I_ k, I_ o, I_ a, I_ v0, I_ v1, .int .u64 v2] 76))
 obtain ⟨n, hn⟩ : ∃ n, n = r.ws.length := ⟨_, rfl⟩
 rw [← hn] at c1 hi
 have hi1 : (i : Int) < (n : Int) := by omega
 have hi0 : (0 : Int) <= (i : Int) := by omega
 have CT := Za (AC _ B0.out)
 have HLX := Za hlx
 clear h hG hx hi hn AC hlx hb
 go_enter Tryz.func12, Tryz.ntmps12
 go_wp2_with fail
 refine CT.out.mono ?_
 rintro e w2 ⟨v, G2, rfl, r2, c2, sk⟩
 have CK := Za (rask_any r2 hB sk HLX.out)
 have C2 := Za ((Ch.of_bel (F := G) B0.out).trans c2)
 obtain ⟨av, cv, ev, _⟩ := sk
 subst ev
 clear r2 c2 CT
 go_wp2_with fail
 refine CK.out.mono ?_
 rintro e w3 ⟨rfl, G3, r3, c3⟩
 have R3 := Za r3
 have C3 := Za (C2.out.trans c3)
 clear r3 c3 CK C2
 go_wp2_with fail
 go_end0
 exact ⟨rfl, G3, R3.out, C3.out⟩
theorem ask_ev (r : Rm) (i : Nat) : (Yg r i).1.ev = r.ev := by
 unfold Yg
 split
 · split <;> rfl
 · rfl
theorem note_ev {r : Rm} {i : Nat} {x : Gr} (hx : r.gs[i]? = some x) (o : Int) : (Zz r i o).ev.length = r.ev.length + 1 := by
 unfold Zz
 rw [hx]
 simp
theorem note_ge (r : Rm) (i : Nat) (o : Int) : r.ev.length <= (Zz r i o).ev.length := by
 unfold Zz
 split <;> simp
theorem fault_stops (r : Rm) (g : Nat) (h : V3) : runs (Yi (faultR r g h)) = false := by
 unfold runs Yi faultR Ys
 simp
theorem settle_ev (r : Rm) : (Yi r).ev = r.ev := rfl
theorem step_ev {S : List (List Wt)} {r : Rm} {g : Nat} {x : Gr} (hx : r.gs[g]? = some x) (hc : ZY r x.w = true) : r.ev.length + 1 <= (Yd S r g).ev.length ∨ runs (Yi (Yd S r g)) = false := by
 unfold Yd
 rw [hx]
 simp only
 split
 · exact .inr (fault_stops _ _ _)
 split
 · unfold splitR
   split
   · exact .inr (fault_stops _ _ _)
   · unfold enterR
     split
     · exact .inr (fault_stops _ _ _)
     · rename_i r1 hr1
       left
       have hx1 : r1.gs[g]? = some x := by
        cases hl : lk S x.w.o with
        | none => rw [hl] at hr1; cases hr1
        | some l =>
         rw [hl] at hr1
         cases hr1
         exact (List.getElem?_append_left (G_ hx)).trans hx
       have he1 : r1.ev = r.ev := by
        cases hl : lk S x.w.o with
        | none => rw [hl] at hr1; cases hr1
        | some l =>
         rw [hl] at hr1
         cases hr1
         rfl
       have h2 := note_ev hx1 (r.gs.length : Int)
       have h3 := ask_ev (Zz r1 g r.gs.length) g
       generalize Yg (Zz r1 g r.gs.length) g = q at *
       obtain ⟨r2, b⟩ := q
       simp only at h3
       cases b with
       | true =>
        simp only
        rw [ask_ev, h3, h2, he1]
        exact Nat.le_refl _
       | false =>
        simp only
        rw [h3, h2, he1]
        exact Nat.le_refl _
 split
 · rename_i h5
   unfold meetR
   split
   · rename_i t ht
     left
     have h2 := note_ev hx x.w.o
     have h3 := ask_ev (Zz (Zz r g x.w.o) t x.w.o) g
     have h4 := note_ge (Zz r g x.w.o) t x.w.o
     generalize Yg (Zz (Zz r g x.w.o) t x.w.o) g = q at *
     obtain ⟨r2, b⟩ := q
     simp only at h3
     cases b with
     | true =>
      simp only
      rw [ask_ev, h3]
      omega
     | false =>
      simp only
      rw [h3]
      omega
   · rename_i ht
     exfalso
     have hc' : canS r x.w = true := by
      unfold ZY at hc
      rw [if_neg (by omega), if_neg (by omega), if_neg (by omega), if_pos h5.1] at hc
      exact hc
     unfold canS at hc'
     have hz := h5.2
     unfold YF at hz
     cases hl : lk r.s.C x.w.o with
     | none => rw [hl] at hc'; cases hc'
     | some q =>
      rw [hl] at hc' hz
      simp only [Bool.and_eq_true] at hc'
      rw [if_pos (by simpa using hz), ht] at hc'
      simp at hc'
 split
 · left
   show r.ev.length + 1 <= (Zz r g x.w.o).ev.length
   rw [note_ev hx]
   exact Nat.le_refl _
 · left
   rw [ask_ev]
   have := note_ev (r := { r with s := (ZF r.s x.w).1 }) hx x.w.o
   rw [this]
   exact Nat.le_refl _
theorem runn_mem {r : Rm} {k : Int} (h : k ∈ Ye r) : ∃ i : Nat, k = i /\ can r (i : Int) = true /\ runs r = true := by
 unfold Ye at h
 split at h
 · rename_i hr
   obtain ⟨i, hi, rfl⟩ := List.mem_map.1 h
   exact ⟨i, rfl, (List.mem_filter.1 hi).2, hr⟩
 · cases h
theorem runn_some {r : Rm} (h : runs r = true) (he : r.e.o = 0) : 0 < (Ye r).length := by
 unfold runs Ys at h
 rw [if_pos he] at h
 have ho : outR r = 0 := by simpa using h
 unfold outR at ho
 split at ho
 · rename_i ha
   obtain ⟨x, hx, hc⟩ := List.any_eq_true.1 ha
   obtain ⟨i, hi, rfl⟩ := List.mem_iff_getElem.1 hx
   unfold Ye
   rw [if_pos (by unfold runs Ys; rw [if_pos he]; simpa using h)]
   rw [List.length_map, List.length_pos_iff_exists_mem]
   exact ⟨i, List.mem_filter.2 ⟨List.mem_range.2 hi, by rw [can_at (List.getElem?_eq_getElem hi)]; exact hc⟩⟩
 · split at ho <;> cases ho
theorem runs_e {r : Rm} (h : runs r = true) : r.e.o = 0 := by
 unfold runs Ys at h
 split at h
 · assumption
 · rename_i hn
   simp at h
   exact absurd h hn
theorem choose_mem {L l : List Int} {n : Nat} (h : 0 < L.length) : (ZZ L l n).1 ∈ L := by
 unfold ZZ
 split
 · rw [List.getD_eq_getElem?_getD, List.getElem?_eq_getElem h]
   exact List.getElem_mem h
 · have hm := Nat.mod_lt (max (pickR l n).1 0).toNat h
   rw [List.getD_eq_getElem?_getD, List.getElem?_eq_getElem hm]
   exact List.getElem_mem hm
def left (fuel : Int) (r : Rm) : Nat := if runs r = true then (fuel - r.ev.length).toNat + 1 else 0
theorem do_left {S : List (List Wt)} {r : Rm} {g : Nat} {fuel : Int} (hr : runs r = true) (hc : can r (g : Int) = true) (hf : (r.ev.length : Int) < fuel) : left fuel (doR S r g) < left fuel r := by
 have hx : ∃ x, r.gs[g]? = some x /\ ZY r x.w = true := by
  unfold can at hc
  rw [lk_nat] at hc
  cases hx : r.gs[g]? with
  | none => rw [hx] at hc; cases hc
  | some x => rw [hx] at hc; exact ⟨x, rfl, hc⟩
 obtain ⟨x, hx, hcw⟩ := hx
 unfold left
 rw [if_pos hr]
 rcases step_ev (S := S) hx hcw with h | h
 · split
   · have e : (doR S r g).ev = (Yd S r g).ev := rfl
     rw [e]
     omega
   · omega
 · rw [if_neg (by unfold doR; rw [h]; simp)]
   omega
def playW (S : List (List Wt)) (l : List Int) (fuel : Int) (r : Rm) (n : Nat) : Rm × Nat := playR S l fuel (left fuel r) r n
theorem playR_stop (S : List (List Wt)) (l : List Int) (fuel : Int) (f : Nat) (r : Rm) (n : Nat) (h : ¬ (runs r = true /\ (r.ev.length : Int) < fuel)) : playR S l fuel f r n = (r, n) := by
 cases f with
 | zero => rfl
 | succ f => unfold playR; rw [if_neg h]
theorem playR_more (S : List (List Wt)) (l : List Int) (fuel : Int) : ∀ (f k : Nat) (r : Rm) (n : Nat), left fuel r <= f -> left fuel r <= k -> playR S l fuel f r n = playR S l fuel k r n := by
 intro f
 induction f with
 | zero =>
  intro k r n h hk
  have h0 : left fuel r = 0 := by omega
  have hgo : ¬ (runs r = true /\ (r.ev.length : Int) < fuel) := fun h1 => by
   unfold left at h0
   rw [if_pos h1.1] at h0
   omega
  rw [playR_stop S l fuel k r n hgo]
  rfl
 | succ f ih =>
  intro k r n h hk
  by_cases hgo : runs r = true /\ (r.ev.length : Int) < fuel
  · have hm := choose_mem (l := l) (n := n) (runn_some hgo.1 (runs_e hgo.1))
    obtain ⟨i, hi, hc, _⟩ := runn_mem hm
    have hl := do_left (S := S) hgo.1 hc hgo.2
    obtain ⟨k', rfl⟩ : ∃ k', k = k' + 1 := ⟨k - 1, by omega⟩
    unfold playR
    rw [if_pos hgo, if_pos hgo]
    have e : (ZZ (Ye r) l n).1.toNat = i := by rw [hi]; simp
    rw [e]
    exact ih k' _ _ (by omega) (by omega)
  · rw [playR_stop S l fuel (f + 1) r n hgo, playR_stop S l fuel k r n hgo]
theorem playW_stop {S : List (List Wt)} {l : List Int} {fuel : Int} {r : Rm} {n : Nat} (h : ¬ (runs r = true /\ (r.ev.length : Int) < fuel)) : playW S l fuel r n = (r, n) := playR_stop _ _ _ _ _ _ h
theorem playW_step {S : List (List Wt)} {l : List Int} {fuel : Int} {r : Rm} {n i : Nat} (h : runs r = true /\ (r.ev.length : Int) < fuel) (hi : (ZZ (Ye r) l n).1 = i) (hc : can r (i : Int) = true) : playW S l fuel r n = playW S l fuel (doR S r i) (ZZ (Ye r) l n).2 := by
 have hl := do_left (S := S) h.1 hc h.2
 unfold playW
 obtain ⟨k, hk⟩ : ∃ k, left fuel r = k + 1 := ⟨left fuel r - 1, by omega⟩
 rw [hk]
 conv => lhs; unfold playR
 rw [if_pos h]
 have e : (ZZ (Ye r) l n).1.toNat = i := by rw [hi]; simp
 rw [e]
 exact playR_more S l fuel k _ _ _ (by omega) (Nat.le_refl _)
theorem getD_at {L : List Int} {i : Nat} (h : i < L.length) : L[i]? = some (L.getD i 0) := by simp [List.getD, h]
def ChooseP (w : World) (F : Nat -> Prop) (v : Value) (L l : List Int) (n : Nat) (e : Ending) (w' : World) : Prop := e = .returned (I_ (ZZ L l n).1) /\ Pks w' F v l (ZZ L l n).2 /\ Ch F F w w'
theorem choose_any {w : World} {B : Nat} {a : Option Addr} {c : Nat} {L l : List Int} {n ob nb : Nat} {F : Nat -> Prop} (ho : w.ownsRow B 3 1 (.slice a L.length c) L.length (nts L)) (h0 : 0 < L.length) (h8 : L.length <= 8) (hp : Pks w F (.func (.func 45) #[] #[P_ ob, P_ nb]) l n) (hd : ∀ k, (Value.slice a L.length c).ownBlock = some k -> ¬ F k) :
 Calls Tryz.prog 43 #[.slice a L.length c, .func (.func 45) #[] #[P_ ob, P_ nb]] w (ChooseP w F (.func (.func 45) #[] #[P_ ob, P_ nb]) L l n) := by
 obtain ⟨b, c', e, _⟩ := Zq ho h0
 cases e
 obtain ⟨m, hm⟩ : ∃ m, m = L.length := ⟨_, rfl⟩
 by_cases h1 : L.length = 1
 · have hc : Hid (ZZ L l n = (L.getD 0 0, n)) := Za (by unfold ZZ; rw [if_pos h1])
   have d0 := (Zk ho 0 _ (nts_at (getD_at h0))).1
   have HP := Za hp
   rw [h1]
   generalize L.getD 0 0 = y at *
   clear ho hp hd h0 h8 hm h1
   go_enter Tryz.func43, Tryz.ntmps43
   go_wp2_with fail
   go_ret
   exact ⟨by rw [hc.out]; rfl, by rw [hc.out]; exact HP.out, Ch.refl _ _⟩
 · obtain ⟨pv, hpv⟩ : ∃ pv, pickR l n = pv := ⟨_, rfl⟩
   have PK := Za (fun k => pick_any hp k)
   obtain ⟨q, hq⟩ : ∃ q, (max pv.1 0).toNat % L.length = q := ⟨_, rfl⟩
   have hqm : q < L.length := by rw [← hq]; exact Nat.mod_lt _ h0
   have hc : Hid (ZZ L l n = (L.getD q 0, pv.2)) := Za (by unfold ZZ; rw [if_neg h1, hpv, hq])
   have HO := Za (And.intro ho hd)
   have HY := Za (getD_at hqm)
   rw [← hm] at hq hqm h8 h0 h1 ⊢
   have h1b : ((m : Int) == 1) = false := by simp; omega
   have hmb : ((m : Int) == 0) = false := by simp; omega
   have hqi : (q : Int) < (m : Int) := by omega
   have hbl := (Zf ho (k := b) rfl).2.1
   have hmx : ∃ mx : Int, mx = max pv.1 0 /\ 0 <= mx /\ mx.tmod (m : Int) = (q : Int) := ⟨_, rfl, by omega, by
    rw [Int.tmod_eq_emod_of_nonneg (by omega), ← hq]
    have e : max pv.1 0 = (((max pv.1 0).toNat : Nat) : Int) := by omega
    rw [e]
    simp⟩
   obtain ⟨mx, hmx1, hmx2, hmx3⟩ := hmx
   obtain ⟨p0, p1⟩ := pv
   simp only at hmx1
   have HPV := Za hpv
   have OW := Za (fun (w1 : World) (ch : Ch F F w w1) => (Zk (Zj (w' := w1) ho (fun k hk => ch.blk k (Zf ho hk).2.1 (hd k hk))) q _ (nts_at HY.out)).1)
   rw [← hm] at HO
   generalize L.getD q 0 = y at *
   clear ho hp hd hm hpv hq
   by_cases hp0 : 0 <= p0
   · have em : mx = p0 := by omega
     rw [em] at hmx3
     clear hmx1 hmx2 em
     go_enter Tryz.func43, Tryz.ntmps43
     go_wp2_with fail
     refine (PK.out _).mono ?_
     rintro e w1 ⟨rfl, pk, ch⟩
     rw [HPV.out] at pk ⊢
     have Z := Za (And.intro pk ch)
     have d1 := OW.out w1 ch
     clear pk ch
     go_wp2_with fail
     go_ret
     exact ⟨by rw [hc.out]; rfl, by rw [hc.out]; exact Z.out.1, Z.out.2⟩
   · have em : mx = 0 := by omega
     have hp0' : p0 < 0 := by omega
     have h0m : (0 : Int).tmod (m : Int) = 0 := by simp
     rw [em] at hmx3
     have eq0 : (q : Int) = 0 := by rw [← hmx3]; simp
     have eq0' : q = 0 := by omega
     subst eq0'
     clear hmx1 hmx2 em hmx3 eq0 hp0
     go_enter Tryz.func43, Tryz.ntmps43
     go_wp2_with fail
     refine (PK.out _).mono ?_
     rintro e w1 ⟨rfl, pk, ch⟩
     rw [HPV.out] at pk ⊢
     have Z := Za (And.intro pk ch)
     have d1 := OW.out w1 ch
     clear pk ch
     go_wp2_with fail
     go_ret
     exact ⟨by rw [hc.out]; rfl, by rw [hc.out]; exact Z.out.1, Z.out.2⟩
theorem runn_len (r : Rm) : (Ye r).length <= r.gs.length := by
 unfold Ye
 by_cases h : runs r = true
 · rw [if_pos h]
   exact runK_len r r.gs.length
 · rw [if_neg h]
   simp
theorem set5_ne {w : World} {b k : Nat} {x0 x1 x2 x3 x4 : Value} (h : k ≠ b) : (((((w.setCell ⟨b, 0, none⟩ x0).setCell ⟨b, 1, none⟩ x1).setCell ⟨b, 2, none⟩ x2).setCell ⟨b, 3, none⟩ x3).setCell ⟨b, 4, none⟩ x4).heap[k]? = w.heap[k]? :=
 (Below.heap_setCell _ _ _ _ h).trans ((Below.heap_setCell _ _ _ _ h).trans ((Below.heap_setCell _ _ _ _ h).trans ((Below.heap_setCell _ _ _ _ h).trans (Below.heap_setCell _ _ _ _ h))))
def PlayP (w : World) (G F : Nat -> Prop) (g : Nat) (S : List (List Wt)) (v : Value) (l : List Int) (q : Rm × Nat) (e : Ending) (w' : World) : Prop := e = .returned (EnV (if runs q.1 = true then ⟨4, 0, 0, 0, 0⟩ else Ys q.1)) /\ ∃ G', Rn w' G' g S q.1 /\ Pks w' F v l q.2 /\ (∀ k, F k -> ¬ G' k) /\ Ch (fun k => G k ∨ F k) (fun k => G' k ∨ F k) w w'
structure Pl (w wr : World) (G0 F G : Nat -> Prop) (g : Nat) (S : List (List Wt)) (v : Value) (l : List Int) (r : Rm) (n : Nat) (p : List Addr) : Prop where
 rn : Rn wr G g S r
 pk : Pks wr F v l n
 ap : ∀ k, F k -> ¬ G k
 er : E3 wr p
 of : Off G
 ff : Off F
 ch : Ch (fun k => G0 k ∨ F k) (fun k => G k ∨ F k) w wr
section
variable {w wr w' : World} {G0 F G G' : Nat → Prop} {g : Nat} {S : List (List Wt)} {v : Value} {l : List Int} {r r' : Rm} {n n' : Nat} {p : List Addr}
theorem Pl.bel (h : Pl w wr G0 F G g S v l r n p) (hb : Below wr.heap.size wr w') : Pl w w' G0 F G g S v l r n p :=
 ⟨h.rn.bel hb, h.pk.bel hb, h.ap, h.er.below (Nat.le_refl _) hb, h.of, h.ff, h.ch.trans (Ch.of_bel hb)⟩
theorem Pl.run (h : Pl w wr G0 F G g S v l r n p) (rn : Rn w' G' g S r') (c : Ch G G' wr w') : Pl w w' G0 F G' g S v l r' n p := by
 obtain ⟨h1, h2⟩ := h.pk.ch c h.ap
 obtain ⟨h3, h4⟩ := h.er.ch h.of c
 refine ⟨rn, h1, h2, h3, h4, h.ff, h.ch.trans (c.wide (fun k hk => .inl hk) (fun k hk => ?_))⟩
 rcases hk with h5 | h5
 · exact (c.grow k h5).imp .inl id
 · exact .inl (.inr h5)
theorem Pl.pick (h : Pl w wr G0 F G g S v l r n p) (pk : Pks w' F v l n') (c : Ch F F wr w') : Pl w w' G0 F G g S v l r n' p := by
 obtain ⟨h1, _⟩ := h.rn.ch c (fun k hk hF => h.ap k hF hk)
 exact ⟨h1, pk, h.ap, (h.er.ch h.ff c).1, h.of, h.ff, h.ch.trans (c.wide (fun k hk => .inr hk) (fun k hk => .inl hk))⟩
end
theorem Play_any {w : World} {G F : Nat -> Prop} {g : Nat} {S : List (List Wt)} {l : List Int} {r : Rm} {n ob nb : Nat} {p : List Addr} (h : Pl w w G F G g S (.func (.func 45) #[] #[P_ ob, P_ nb]) l r n p) (fuel : Int) (hf : fuel <= 1000) :
    Calls Tryz.prog 13 #[P_ g, .func (.func 45) #[] #[P_ ob, P_ nb], I_ fuel] w (PlayP w G F g S (.func (.func 45) #[] #[P_ ob, P_ nb]) l (playW S l fuel r n)) := by
  have hE : ∀ w, (binOp .eql 51 (.func (.func 45) #[] #[P_ ob, P_ nb]) .nilFunc).run Tryz.prog w = .ok (.bool false) w := fun w => by kernel_rfl
  have B0 := Za (Zd w (.cells #[I_ 0, I_ 0, I_ 0, I_ 0, I_ 0] 37))
  have V0 : Hid ((w.alloc (.cells #[I_ 0, I_ 0, I_ 0, I_ 0, I_ 0] 37)).heap[w.heap.size]? = some (.cells #[I_ 0, I_ 0, I_ 0, I_ 0, I_ 0] 37 (0, 0))) := Za (B_ w _)
  have NG : Hid (¬ (G w.heap.size ∨ F w.heap.size)) := Za (fun hk => hk.elim (fun h1 => absurd (h.rn.fb _ h1) (by omega)) (fun h1 => absurd (h.pk.fb _ h1) (by omega)))
  have hh := h.bel B0.out
  have H0 := Za (Pl.mk hh.rn hh.pk hh.ap hh.er hh.of hh.ff (Ch.refl (fun k => G k ∨ F k) (w.alloc (.cells #[I_ 0, I_ 0, I_ 0, I_ 0, I_ 0] 37))))
  obtain ⟨q, hq⟩ : ∃ q, playW S l fuel r n = q := ⟨_, rfl⟩
  rw [hq]
  have HQ := Za hq
  clear h hq hh
  go_enter Tryz.func13, Tryz.ntmps13
  go_upto_region 1 with fail
  generalize w.alloc _ = w1 at *
  go_wp2_with fail
  go_loopg [] (left fuel r) (fun gh wr => ∃ (G' : Nat -> Prop) (r' : Rm) (n' : Nat), gh = left fuel r' /\ Hid (Pl w1 wr G F G' g S (.func (.func 45) #[] #[P_ ob, P_ nb]) l r' n' p /\ playW S l fuel r' n' = q))
  case atStart => exact ⟨G, r, n, rfl, Za ⟨H0.out, HQ.out⟩⟩
  case round =>
    obtain ⟨G', r', n', rfl, HI⟩ := hrel
    have EN := Za (ended_any HI.out.1.rn HI.out.1.er.e2)
    cases hr : runs r' with
    | false =>
      have eq : Hid (q = (r', n')) := Za (HI.out.2.symm.trans (playW_stop (by rw [hr]; simp)))
      rw [hr] at EN
      have HR := Za hr
      clear hr
      go_wp2_with fail
      refine EN.out.mono ?_
      rintro e w2 ⟨rfl, hb⟩
      have P2 := Za (HI.out.1.bel hb)
      have EN2 := Za (ended_any P2.out.rn P2.out.er.e2)
      rw [HR.out] at EN2
      clear hb HI EN
      go_wp2_with fail
      refine EN2.out.mono ?_
      rintro e w3 ⟨rfl, hb⟩
      have P3 := Za (P2.out.bel hb)
      have ED := Za (End_any P3.out.rn P3.out.er.e2)
      clear hb EN2 P2
      obtain ⟨z, hz⟩ : ∃ z, Ys r' = z := ⟨_, rfl⟩
      rw [hz] at ED
      have HZ := Za hz
      obtain ⟨e0, e1, e2, e3, e4⟩ := z
      unfold EnV at ED
      simp only at ED
      clear hz
      go_wp2_with fail
      refine ED.out.mono ?_
      rintro e w4 ⟨rfl, hb⟩
      have P4 := Za (P3.out.bel hb)
      obtain ⟨k4, n4, l4⟩ := P4.out.ch.keepB NG.out (Ze V0.out)
      have X1 : Hid (w4.heap[w.heap.size]? = some (.cells #[I_ 0, I_ 0, I_ 0, I_ 0, I_ 0] 37 (0, 0))) := Za (k4.trans V0.out)
      have q0 := Zb X1.out 0 _ rfl
      have q1 := Zb X1.out 1 _ rfl
      have q2 := Zb X1.out 2 _ rfl
      have q3 := Zb X1.out 3 _ rfl
      have q4 := Zb X1.out 4 _ rfl
      have f0 := Zc X1.out 0
      have f1 := Zc X1.out 1
      have f2 := Zc X1.out 2
      have f3 := Zc X1.out 3
      have f4 := Zc X1.out 4
      have N4 := Za n4
      clear hb ED P3 k4 n4 l4
      go_wp2_with fail
      refine ret_en w.heap.size rfl rfl (set5 X1.out _ _ _ _ _) rfl ?_
      have BB := bel_set5 (Below.refl w.heap.size w4) (Nat.le_refl _) (I_ e0) (I_ e1) (I_ e2) (I_ e3) (I_ e4)
      have e5 := eq.out
      subst e5
      refine ⟨by rw [if_neg (by rw [HR.out]; simp), HZ.out]; rfl, G', P4.out.rn.keep (fun k hk => ?_) BB.size, P4.out.pk.keep (fun k hk => ?_) BB.size, P4.out.ap, ((Ch.of_bel B0.out).trans P4.out.ch).below BB⟩
      · exact set5_ne (fun e => N4.out (.inl (e ▸ hk)))
      · exact set5_ne (fun e => N4.out (.inr (e ▸ hk)))
    | true =>
      rw [hr] at EN
      by_cases hlt : (r'.ev.length : Int) < fuel
      · have hm := choose_mem (l := l) (n := n') (runn_some hr (runs_e hr))
        obtain ⟨i, hi, hc, _⟩ := runn_mem hm
        have eqs := Za (HI.out.2.symm.trans (playW_step ⟨hr, hlt⟩ hi hc))
        have hle := Za (do_left (S := S) hr hc hlt)
        have hl9 : Hid (r'.ev.length <= 90000) := Za (by omega)
        have CO := Za (fun (w2 : World) (hb : Below wr.heap.size wr w2) => Count_any (HI.out.1.bel hb).rn)
        have RS := Za (runn_some hr (runs_e hr))
        have HR := Za (And.intro hr (And.intro hc hi))
        clear hm hr hc hi
        obtain ⟨m, hm⟩ : ∃ m, m = r'.ev.length := ⟨_, rfl⟩
        rw [← hm] at CO hlt
        clear hm
        go_wp2_with fail
        refine EN.out.mono ?_
        rintro e w2 ⟨rfl, hb⟩
        have P2 := Za (HI.out.1.bel hb)
        have CO2 := Za (CO.out w2 hb)
        clear hb CO EN
        go_wp2_with fail
        refine CO2.out.mono ?_
        rintro e w3 ⟨rfl, rfl⟩
        have RU := Za (Runnable_any P2.out.rn P2.out.er.e2)
        go_wp2_with fail
        refine RU.out.mono ?_
        rintro e w4 ⟨a4, c4, rfl, o4, hb⟩
        have P4 := Za (P2.out.bel hb)
        have CH := Za (choose_any o4 RS.out (by
          obtain ⟨_, _, _, _, _, _, _, _, _, _, h', _⟩ := P4.out.rn
          exact Nat.le_trans (runn_len r') h'.n8) P4.out.pk (fun k hk hF => absurd (P2.out.pk.fb k hF) (by have := (Zf o4 hk).1; omega)))
        clear o4 hb RU P2 CO2
        generalize (Ye r').length = m4 at *
        go_wp2_with fail
        refine CH.out.mono ?_
        rintro e w5 ⟨rfl, pk, ch⟩
        have P5 := Za (P4.out.pick pk ch)
        rw [HR.out.2.2]
        have DO := Za (Do_ok P5.out.rn P5.out.er P5.out.of i HR.out.1 HR.out.2.1 hl9.out)
        clear pk ch CH P4
        go_wp2_with fail
        refine DO.out.mono ?_
        rintro e w6 ⟨rfl, G6, rn, ch⟩
        have P6 := Za (P5.out.run rn ch)
        clear rn ch DO P5
        go_wp2_with fail
        go_roundg (left fuel (doR S r' i))
        case measure => exact hle.out
        case rel => exact ⟨G6, doR S r' i, _, rfl, Za ⟨P6.out, eqs.out.symm⟩⟩
      · have eq : Hid (q = (r', n')) := Za (HI.out.2.symm.trans (playW_stop (fun h => hlt h.2)))
        have CO := Za (fun (w2 : World) (hb : Below wr.heap.size wr w2) => Count_any (HI.out.1.bel hb).rn)
        have HR := Za hr
        have hge : fuel <= (r'.ev.length : Int) := by omega
        clear hr
        obtain ⟨m, hm⟩ : ∃ m, m = r'.ev.length := ⟨_, rfl⟩
        rw [← hm] at CO hlt hge
        clear hm hlt
        go_wp2_with fail
        refine EN.out.mono ?_
        rintro e w2 ⟨rfl, hb⟩
        have P2 := Za (HI.out.1.bel hb)
        have CO2 := Za (CO.out w2 hb)
        clear hb CO EN HI
        go_wp2_with fail
        refine CO2.out.mono ?_
        rintro e w3 ⟨rfl, rfl⟩
        have EN2 := Za (ended_any P2.out.rn P2.out.er.e2)
        rw [HR.out] at EN2
        go_wp2_with fail
        refine EN2.out.mono ?_
        rintro e w4 ⟨rfl, hb⟩
        have P4 := Za (P2.out.bel hb)
        obtain ⟨k4, n4, l4⟩ := P4.out.ch.keepB NG.out (Ze V0.out)
        have X1 : Hid (w4.heap[w.heap.size]? = some (.cells #[I_ 0, I_ 0, I_ 0, I_ 0, I_ 0] 37 (0, 0))) := Za (k4.trans V0.out)
        have q0 := Zb X1.out 0 _ rfl
        have q1 := Zb X1.out 1 _ rfl
        have q2 := Zb X1.out 2 _ rfl
        have q3 := Zb X1.out 3 _ rfl
        have q4 := Zb X1.out 4 _ rfl
        have f0 := Zc X1.out 0
        have f1 := Zc X1.out 1
        have f2 := Zc X1.out 2
        have f3 := Zc X1.out 3
        have f4 := Zc X1.out 4
        have N4 := Za n4
        clear hb EN2 P2 CO2 k4 n4 l4
        go_wp2_with fail
        refine ret_en w.heap.size rfl rfl (set5 X1.out _ _ _ _ _) rfl ?_
        have BB := bel_set5 (Below.refl w.heap.size w4) (Nat.le_refl _) (I_ 4) (I_ 0) (I_ 0) (I_ 0) (I_ 0)
        have e5 := eq.out
        subst e5
        refine ⟨by rw [if_pos HR.out]; rfl, G', P4.out.rn.keep (fun k hk => ?_) BB.size, P4.out.pk.keep (fun k hk => ?_) BB.size, P4.out.ap, ((Ch.of_bel B0.out).trans P4.out.ch).below BB⟩
        · exact set5_ne (fun e => N4.out (.inl (e ▸ hk)))
        · exact set5_ne (fun e => N4.out (.inr (e ▸ hk)))
theorem cloneE {w : World} {src : Value} {n : Nat} {xs : List Value} (hs : w.ownsRow 0 132 4 src n xs) (hn : n <= 100000) (h1 : ∀ u ∈ xs, u.oneCell' = true) : Calls Tryz.prog 61 #[src] w (ClP w 132 4 n xs) := by
 rcases own_form hs with ⟨rfl, rfl⟩ | ⟨b, c, rfl, _⟩
 · have e : xs = [] := by have := hs.1; simpa using this
   subst e
   clear hs
   have hE : ∀ w, (binOp .eql 40 (.slice none 0 0) (.slice none 0 0)).run Tryz.prog w = .ok (.bool true) w := fun w => by kernel_rfl
   go_enter Tryz.func61, Tryz.ntmps61
   go_wp2_with fail
   go_ret
   exact ⟨_, _, rfl, World.ownsRow_nil _ _ _ _, Below.refl _ _⟩
 · have hb := Zd w (.cells #[] 132)
   have AP := Za (fun ty => Yq (B := w.heap.size) Tryz.underlying40 info_ev rfl (by decide) (B_ w (.cells #[] 132)) (Nat.le_refl _) (Zj hs (fun k hk => hb.block k (Zf hs hk).2.1)) (by omega) h1 hb.size ty)
   have HB := Za hb
   clear hs hb h1
   have hE : ∀ w, (binOp .eql 40 (.slice (some ⟨b, 0, none⟩) n c) (.slice none 0 0)).run Tryz.prog w = .ok (.bool false) w := fun w => by kernel_rfl
   go_enter Tryz.func61, Tryz.ntmps61
   go_wp2_with (first | (at_builtin; refine ZU (TS := 40) rfl (.tmp 5) (.tmp 6) rfl _ _ rfl rfl _ (AP.out _) ?_; rintro v9 w9 ⟨⟨a9, c9, rfl⟩, o9, b9, _⟩; have R9 := Za (And.intro o9 b9); clear o9 b9))
   go_ret
   exact ⟨_, _, rfl, R9.out.1, Zg HB.out R9.out.2⟩
theorem Events_any {w : World} {G : Nat -> Prop} {g : Nat} {S : List (List Wt)} {r : Rm} (h : Rn w G g S r) (hl : r.ev.length <= 100000) : Calls Tryz.prog 25 #[P_ g] w (ClP w 132 4 r.ev.length (ecs r.ev)) := by
 obtain ⟨Fs, Fo, R, gs, vC, vB, vG, vE, ps, ts, h, hG⟩ := h
 have c4 := h.cells.1.2.2.2.2
 obtain ⟨a, cE, e, _⟩ := Zl h.ev
 have CL := Za (cloneE h.ev hl (ecs_one _))
 subst e
 have hgl := h.fb g h.fg
 generalize r.ev.length = n at *
 clear h hG hl
 go_enter Tryz.func25, Tryz.ntmps25
 go_wp2_with fail
 refine CL.out.mono ?_
 rintro e w1 ⟨a1, c1, rfl, o1, b1⟩
 have R1 := Za (And.intro o1 b1)
 clear o1 b1
 go_wp2_with fail
 go_ret
 exact ⟨_, _, rfl, R1.out.1, R1.out.2⟩
def EvS (w : World) (v : Value) (l : List Evt) : Prop := ∃ (a : Option Addr) (c : Nat), v = .slice a l.length c /\ l.length <= c /\ c <= maxLen /\ ∀ (i : Nat) (e : Evt), l[i]? = some e -> ∃ (b o : Nat), a = some ⟨b, o, none⟩ /\ b < w.heap.size ∧
 w.cell? ⟨b, o + i * 4, none⟩ = some (I_ e.g) /\ w.cell? ⟨b, o + i * 4 + 1, none⟩ = some (I_ e.k) /\ w.cell? ⟨b, o + i * 4 + 2, none⟩ = some (I_ e.o) /\ w.cell? ⟨b, o + i * 4 + 3, none⟩ = some (I_ e.a)
theorem ecs_at : ∀ (l : List Evt) (i : Nat) (e : Evt), l[i]? = some e -> (ecs l)[i * 4]? = some (I_ e.g) /\ (ecs l)[i * 4 + 1]? = some (I_ e.k) /\ (ecs l)[i * 4 + 2]? = some (I_ e.o) /\ (ecs l)[i * 4 + 3]? = some (I_ e.a)
 | [], i, e, h => by simp at h
 | x :: l, 0, e, h => by
  simp at h
  subst h
  exact ⟨rfl, rfl, rfl, rfl⟩
 | x :: l, i + 1, e, h => by
  have := ecs_at l i e (by simpa using h)
  rw [show (i + 1) * 4 = i * 4 + 1 + 1 + 1 + 1 by omega]
  exact this
theorem EvS.of_own {w : World} {B : Nat} {v : Value} {l : List Evt} (h : w.ownsRow B 132 4 v l.length (ecs l)) : EvS w v l := by
 obtain ⟨a, c, rfl, h1, h2⟩ := Zl h
 refine ⟨a, c, rfl, h1, h2, fun i e he => ?_⟩
 have hi := (G_ he)
 obtain ⟨b, c', eb, _⟩ := Zq h (by omega)
 cases eb
 obtain ⟨q0, q1, q2, q3⟩ := ecs_at l i e he
 refine ⟨b, 0, rfl, (Zf h (k := b) rfl).2.1, ?_⟩
 rw [Nat.zero_add]
 exact ⟨(Zk h _ _ q0).1, (Zk h _ _ q1).1, (Zk h _ _ q2).1, (Zk h _ _ q3).1⟩
theorem neq_ev (w : World) (a b c d a' b' c' d' : Int) : (binOp .neq 132 (.agg #[I_ a, I_ b, I_ c, I_ d]) (.agg #[I_ a', I_ b', I_ c', I_ d'])).run Tryz.prog w = .ok (.bool (!(a == a' && (b == b' && (c == c' && d == d'))))) w := by
 have hi : ∀ (x y : Int) (w : World), (Op.equalIn 9999 3 (I_ x) (I_ y)).run Tryz.prog w = .ok (x == y) w := fun x y w => run_equalIn_int w 9998 3 .i64 .i64 x y Tryz.underlying3
 have e : Tryz.prog.underlying 132 = some (.struct (Tryz.prog.fieldsOf 132)) := by kernel_rfl
 rw [run_neq_struct, show (10000 : Nat) = 9999 + 1 from rfl, run_equalIn_agg w 9999 132 _ _ e (by kernel_rfl)]
 have hf : (Tryz.prog.fieldsOf 132).toList.map (fun f => (f.name, f.type, f.offset)) = [("G", 3, 0), ("Kind", 3, 1), ("Obj", 3, 2), ("At", 3, 3)] := by kernel_rfl
 generalize (Tryz.prog.fieldsOf 132).toList = l at hf
 obtain ⟨f1, l1, rfl, h1, hf⟩ := List.map_eq_cons_iff.1 hf
 obtain ⟨f2, l2, rfl, h2, hf⟩ := List.map_eq_cons_iff.1 hf
 obtain ⟨f3, l3, rfl, h3, hf⟩ := List.map_eq_cons_iff.1 hf
 obtain ⟨f4, l4, rfl, h4, hf⟩ := List.map_eq_cons_iff.1 hf
 obtain rfl := List.map_eq_nil_iff.1 hf
 simp only [Prod.mk.injEq] at h1 h2 h3 h4
 simp [go_sem, Op.eqFields, h1, h2, h3, h4, hi]
 by_cases ha : a = a' <;> by_cases hb : b = b' <;> by_cases hc : c = c' <;> by_cases hd : d = d' <;> simp [ha, hb, hc, hd]
theorem neq_en (w : World) (a b c d e a' b' c' d' e' : Int) : (binOp .neq 37 (.agg #[I_ a, I_ b, I_ c, I_ d, I_ e]) (.agg #[I_ a', I_ b', I_ c', I_ d', I_ e'])).run Tryz.prog w = .ok (.bool (!(a == a' && (b == b' && (c == c' && (d == d' && e == e')))))) w := by
 have hi : ∀ (x y : Int) (w : World), (Op.equalIn 9999 3 (I_ x) (I_ y)).run Tryz.prog w = .ok (x == y) w := fun x y w => run_equalIn_int w 9998 3 .i64 .i64 x y Tryz.underlying3
 have he : Tryz.prog.underlying 37 = some (.struct (Tryz.prog.fieldsOf 37)) := by kernel_rfl
 rw [run_neq_struct, show (10000 : Nat) = 9999 + 1 from rfl, run_equalIn_agg w 9999 37 _ _ he (by kernel_rfl)]
 have hf : (Tryz.prog.fieldsOf 37).toList.map (fun f => (f.name, f.type, f.offset)) = [("Outcome", 3, 0), ("Fault", 3, 1), ("G", 3, 2), ("N", 3, 3), ("At", 3, 4)] := by kernel_rfl
 generalize (Tryz.prog.fieldsOf 37).toList = l at hf
 obtain ⟨f1, l1, rfl, h1, hf⟩ := List.map_eq_cons_iff.1 hf
 obtain ⟨f2, l2, rfl, h2, hf⟩ := List.map_eq_cons_iff.1 hf
 obtain ⟨f3, l3, rfl, h3, hf⟩ := List.map_eq_cons_iff.1 hf
 obtain ⟨f4, l4, rfl, h4, hf⟩ := List.map_eq_cons_iff.1 hf
 obtain ⟨f5, l5, rfl, h5, hf⟩ := List.map_eq_cons_iff.1 hf
 obtain rfl := List.map_eq_nil_iff.1 hf
 simp only [Prod.mk.injEq] at h1 h2 h3 h4 h5
 simp [go_sem, Op.eqFields, h1, h2, h3, h4, h5, hi]
 by_cases ha : a = a' <;> by_cases hb : b = b' <;> by_cases hc : c = c' <;> by_cases hd : d = d' <;> by_cases hz : e = e' <;> simp [ha, hb, hc, hd, hz]
theorem eql_en (w : World) (a b c d e a' b' c' d' e' : Int) : (binOp .eql 37 (.agg #[I_ a, I_ b, I_ c, I_ d, I_ e]) (.agg #[I_ a', I_ b', I_ c', I_ d', I_ e'])).run Tryz.prog w = .ok (.bool (a == a' && (b == b' && (c == c' && (d == d' && e == e'))))) w := by
 have hi : ∀ (x y : Int) (w : World), (Op.equalIn 9999 3 (I_ x) (I_ y)).run Tryz.prog w = .ok (x == y) w := fun x y w => run_equalIn_int w 9998 3 .i64 .i64 x y Tryz.underlying3
 have he : Tryz.prog.underlying 37 = some (.struct (Tryz.prog.fieldsOf 37)) := by kernel_rfl
 rw [run_eql_struct, show (10000 : Nat) = 9999 + 1 from rfl, run_equalIn_agg w 9999 37 _ _ he (by kernel_rfl)]
 have hf : (Tryz.prog.fieldsOf 37).toList.map (fun f => (f.name, f.type, f.offset)) = [("Outcome", 3, 0), ("Fault", 3, 1), ("G", 3, 2), ("N", 3, 3), ("At", 3, 4)] := by kernel_rfl
 generalize (Tryz.prog.fieldsOf 37).toList = l at hf
 obtain ⟨f1, l1, rfl, h1, hf⟩ := List.map_eq_cons_iff.1 hf
 obtain ⟨f2, l2, rfl, h2, hf⟩ := List.map_eq_cons_iff.1 hf
 obtain ⟨f3, l3, rfl, h3, hf⟩ := List.map_eq_cons_iff.1 hf
 obtain ⟨f4, l4, rfl, h4, hf⟩ := List.map_eq_cons_iff.1 hf
 obtain ⟨f5, l5, rfl, h5, hf⟩ := List.map_eq_cons_iff.1 hf
 obtain rfl := List.map_eq_nil_iff.1 hf
 simp only [Prod.mk.injEq] at h1 h2 h3 h4 h5
 simp [go_sem, Op.eqFields, h1, h2, h3, h4, h5, hi]
 by_cases ha : a = a' <;> by_cases hb : b = b' <;> by_cases hc : c = c' <;> by_cases hd : d = d' <;> by_cases hz : e = e' <;> simp [ha, hb, hc, hd, hz]
theorem ask_gl (r : Rm) (i : Nat) : (Yg r i).1.gs.length = r.gs.length := by
 unfold Yg
 split
 · split <;> simp [faultR]
 · rfl
theorem note_le (r : Rm) (i : Nat) (o : Int) : (Zz r i o).ev.length <= r.ev.length + 1 := by
 unfold Zz
 split <;> simp
theorem ask2_ev (r : Rm) (i j : Nat) : (match Yg r i with | (r2, true) => (Yg r2 j).1 | (r2, false) => r2).ev = r.ev := by
 have h1 := ask_ev r i
 generalize Yg r i = q at h1
 obtain ⟨r2, b⟩ := q
 cases b
 · exact h1
 · exact (ask_ev r2 j).trans h1
theorem step_le {S : List (List Wt)} (r : Rm) (g : Nat) : (Yd S r g).ev.length <= r.ev.length + 2 := by
 unfold Yd
 split
 · omega
 · rename_i x hx
   split
   · show r.ev.length <= _
     omega
   split
   · unfold splitR
     split
     · show r.ev.length <= _
       omega
     · cases hr : enterR S r x.w.o with
       | none =>
        show r.ev.length <= _
        omega
       | some r1 =>
        simp only
        have h1 : r1.ev = r.ev := by
         unfold enterR at hr
         split at hr
         · cases hr
           rfl
         · cases hr
        refine Nat.le_trans (Nat.le_of_eq (congrArg List.length (ask2_ev (Zz r1 g (r.gs.length : Int)) g r.gs.length))) ?_
        have := note_le r1 g (r.gs.length : Int)
        rw [h1] at this
        omega
   split
   · unfold meetR
     split
     · rename_i t _
       refine Nat.le_trans (Nat.le_of_eq (congrArg List.length (ask2_ev (Zz (Zz r g x.w.o) t x.w.o) g t))) ?_
       have h1 := note_le r g x.w.o
       have h2 := note_le (Zz r g x.w.o) t x.w.o
       omega
     · omega
   split
   · have := note_le r g x.w.o
     show (Zz r g x.w.o).ev.length <= _
     omega
   · rw [ask_ev]
     have := note_le { r with s := (ZF r.s x.w).1 } g x.w.o
     have e : ({ r with s := (ZF r.s x.w).1 } : Rm).ev = r.ev := rfl
     rw [e] at this
     omega
theorem play_le {S : List (List Wt)} {l : List Int} {fuel : Int} (N : Nat) (hN : fuel + 1 <= N) : ∀ (f : Nat) (r : Rm) (n : Nat), r.ev.length <= N -> (playR S l fuel f r n).1.ev.length <= N
 | 0, r, n, h => h
 | f + 1, r, n, h => by
  unfold playR
  split
  · rename_i hc
    refine play_le N hN f _ _ ?_
    have h1 := step_le (S := S) r (ZZ (Ye r) l n).1.toNat
    have e : (doR S r (ZZ (Ye r) l n).1.toNat).ev = (Yd S r (ZZ (Ye r) l n).1.toNat).ev := rfl
    rw [e]
    omega
  · exact h
theorem start_ev (S : List (List Wt)) (s : St) (fn : Int) : (startR S s fn).ev = [] := by
 unfold startR
 rw [settle_ev]
 unfold enterR
 cases lk S fn with
 | none => rfl
 | some l => exact ask_ev _ 0
def faultZ (r : Rz) (g : Nat) (h : V3) : Rz := { r with e := ⟨3, h.1, g, h.2.1, h.2.2⟩ }
def YM (r : Rz) (g : Nat) (o : Int) : Rz := match r.ws[g]? with
 | some w => { r with ev := r.ev ++ [⟨g, w.k, o, w.a⟩] }
 | none => r
def doZ (S : List (List Wt)) (r : Rz) (g : Nat) : Rz := match r.ws[g]? with
  | none => r
  | some w =>
    if w.k = 10 then
      (if 8 <= r.ws.length then faultZ r g (5, 0, w.a)
      else match lk S w.o with
        | none => faultZ r g (5, 0, w.a)
        | some l => Yz (Yo { YM r g r.ws.length with ws := r.ws ++ [zW], pe := r.pe ++ [l] } [g, r.ws.length] 2))
    else if w.k = 4 /\ lk r.s.M w.o ≠ some true then faultZ r g (4, 0, w.a)
    else if w.k = 5 /\ YF r.s w.o = true then
      (match r.ws.findIdx? (isR w.o) with
      | some t => Yz (Yo (YM (YM r g w.o) t w.o) [g, t] 2)
      | none => r)
    else if w.k = 12 then Yz { YM r g w.o with ws := r.ws.set g zW }
    else Yz (Yo (YM { r with s := (ZF r.s w).1 } g w.o) [g] 1)
theorem z_ws (r : Rm) (i : Nat) : r.z.ws[i]? = (r.gs[i]?).map Gr.w := by simp [Rm.z]
theorem z_pe (r : Rm) (i : Nat) : r.z.pe[i]? = (r.gs[i]?).map Gr.rest := by simp [Rm.z]
theorem recv_tak (gs : List Gr) (c : Int) : recvR gs c = (gs.map Gr.w).findIdx? (isR c) := by
 unfold recvR
 rw [List.findIdx?_map]
 rfl
theorem canZ_eq (r : Rm) (w : Wt) : Yp r.s (r.gs.map Gr.w) w = ZY r w := by
 have h5 : canSZ r.s (r.gs.map Gr.w) w = canS r w := by
  unfold canSZ canS
  cases lk r.s.C w.o with
  | none => rfl
  | some q =>
   simp only
   congr 1
   split
   · unfold takI
     rw [← recv_tak]
     cases recvR r.gs w.o with
     | none => rfl
     | some t => simp
   · rfl
 unfold Yp ZY
 rw [h5]
theorem can_kind {r : Rm} {w : Wt} (h : ZY r w = true) : ¬ w.k = 0 := fun e => by
 unfold ZY at h
 rw [if_neg (by omega), if_neg (by omega), if_neg (by omega), if_neg (by omega), if_neg (by omega), if_neg (by omega)] at h
 simp [e] at h
theorem outZ_eq (r : Rm) : outZ r.z = outR r := by
 unfold outZ outR someZ canyZ Rm.z
 simp only [List.take_length, List.any_map, Function.comp_def, canZ_eq]
 by_cases h1 : r.gs.any (fun x => ZY r x.w) = true
 · have h2 : r.gs.any (fun x => x.w.k != 0) = true := by
    obtain ⟨x, hx, hc⟩ := List.any_eq_true.1 h1
    exact List.any_eq_true.2 ⟨x, hx, by simpa using can_kind hc⟩
   rw [if_pos h2, if_pos h1, if_pos h1]
 · rw [if_neg h1, if_neg h1]
def Ez (r : Rm) : Prop := r.e.o = 0 -> r.e = zE
theorem look_eq {r : Rm} (h : Ez r) : Yz r.z = (Yi r).z := by
 unfold Yz Yi Ys
 by_cases he : r.e.o = 0
 · rw [if_pos (show r.z.e.o = 0 from he), if_pos he, outZ_eq]
   have := h he
   show ({ r.z with e := { r.z.e with o := outR r } } : Rz) = _
   unfold Rm.z
   simp only [this, zE]
 · rw [if_neg (show ¬ r.z.e.o = 0 from he), if_neg he]
theorem set_id {α : Type} {l : List α} {i : Nat} {x : α} (h : l[i]? = some x) : l.set i x = l := by
 apply List.ext_getElem?
 intro j
 by_cases e : i = j
 · subst e
   rw [List.getElem?_set_self (G_ h), h]
 · rw [List.getElem?_set_ne e]
theorem ask_eq {r : Rm} {g : Nat} {x : Gr} (hx : r.gs[g]? = some x) (he : r.e.o = 0) : ask1Z r.z g = (Yg r g).1.z := by
 unfold ask1Z Yg
 rw [if_pos (show r.z.e.o = 0 from he), z_pe, hx]
 simp only [Option.map_some]
 by_cases h0 : (Yw x.rest).1.2.1 = 0
 · rw [if_pos h0, if_pos h0]
   unfold Rm.z
   simp only [List.map_set]
 · rw [if_neg h0, if_neg h0]
   unfold Rm.z faultR
   simp only [List.map_set]
   rw [set_id (l := List.map Gr.w r.gs) (x := x.w) (by rw [List.getElem?_map, hx]; rfl)]
theorem ask_no {r : Rm} {g : Nat} (he : ¬ r.e.o = 0) : ask1Z r.z g = r.z := by
 unfold ask1Z
 rw [if_neg (show ¬ r.z.e.o = 0 from he)]
theorem ask_e {r : Rm} {g : Nat} {x : Gr} (hx : r.gs[g]? = some x) : ((Yg r g).2 = true -> (Yg r g).1.e = r.e) /\ ((Yg r g).2 = false -> (Yg r g).1.e.o = 3) := by
 unfold Yg
 rw [hx]
 simp only
 split
 · exact ⟨fun _ => rfl, fun h => (by cases h)⟩
 · exact ⟨fun h => (by cases h), fun _ => rfl⟩
theorem ask2_eq {r : Rm} {g t : Nat} {x : Gr} (hx : r.gs[g]? = some x) (ht : t < r.gs.length) (he : r.e.o = 0) : ask1Z (ask1Z r.z g) t = (match Yg r g with | (r2, true) => (Yg r2 t).1 | (r2, false) => r2).z := by
 rw [ask_eq hx he]
 have h1 := ask_e hx
 have h2 := ask_gl r g
 generalize Yg r g = q at h1 h2
 obtain ⟨r2, b⟩ := q
 simp only at h1 h2
 cases b with
 | true =>
  have hy : r2.gs[t]? = some r2.gs[t] := List.getElem?_eq_getElem (by omega)
  exact ask_eq hy (by rw [h1.1 rfl]; exact he)
 | false => exact ask_no (by rw [h1.2 rfl]; decide)
theorem note_eq (r : Rm) (g : Nat) (o : Int) : YM r.z g o = (Zz r g o).z := by
 unfold YM Zz
 rw [z_ws]
 cases r.gs[g]? with
 | none => rfl
 | some x => rfl
theorem fault_eq (r : Rm) (g : Nat) (h : V3) : (Yi (faultR r g h)).z = faultZ r.z g h := by
 unfold Yi Ys faultR faultZ Rm.z
 simp
theorem ask_ez {r : Rm} (h : Ez r) (g : Nat) : Ez (Yg r g).1 := by
 unfold Yg
 split
 · split
   · exact h
   · exact fun e => by cases e
 · exact h
theorem ask2_ez {r : Rm} (h : Ez r) (g t : Nat) : Ez (match Yg r g with | (r2, true) => (Yg r2 t).1 | (r2, false) => r2) := by
 have h1 := ask_ez h g
 generalize Yg r g = q at h1
 obtain ⟨r2, b⟩ := q
 cases b
 · exact h1
 · exact ask_ez h1 t
theorem asks1 (r : Rz) (g : Nat) : Yo r [g] 1 = ask1Z r g := rfl
theorem asks2 (r : Rz) (g t : Nat) : Yo r [g, t] 2 = ask1Z (ask1Z r g) t := rfl
theorem YI (r : Rm) (g : Nat) (o : Int) : (Zz r g o).gs = r.gs /\ (Zz r g o).e = r.e := by
 unfold Zz
 split <;> exact ⟨rfl, rfl⟩
theorem start_eq (S : List (List Wt)) (s : St) (fn : Int) : startZ S s fn = (startR S s fn).z := by
 unfold startZ startR enterR
 cases lk S fn with
 | none => exact (fault_eq ⟨s, [], [], zE⟩ 0 (5, 0, 0)).symm
 | some l =>
  simp only [List.nil_append]
  rw [asks1]
  have e : ask1Z ⟨s, [zW], [], zE, [l]⟩ 0 = (Yg ⟨s, [⟨l, zW⟩], [], zE⟩ 0).1.z := ask_eq (r := ⟨s, [⟨l, zW⟩], [], zE⟩) (g := 0) (x := ⟨l, zW⟩) rfl rfl
  rw [e]
  exact look_eq (ask_ez (fun _ => rfl) 0)
theorem do_eq {S : List (List Wt)} {r : Rm} (he : r.e = zE) {g : Nat} {x : Gr} (hx : r.gs[g]? = some x) (hc : ZY r x.w = true) : doZ S r.z g = (doR S r g).z := by
 have he0 : r.e.o = 0 := by rw [he]; rfl
 have hz : Ez r := fun _ => he
 have hlen : r.z.ws.length = r.gs.length := by simp [Rm.z]
 unfold doZ doR Yd
 rw [z_ws, hx]
 simp only [Option.map_some]
 by_cases h10 : x.w.k = 10
 · have n4 : ¬ (x.w.k = 4 /\ lk r.s.M x.w.o ≠ some true) := fun h => by omega
   rw [if_pos h10, if_neg n4, if_pos h10, hlen]
   unfold splitR
   by_cases h8 : 8 <= r.gs.length
   · rw [if_pos h8, if_pos h8, fault_eq]
   · rw [if_neg h8, if_neg h8]
     unfold enterR
     cases lk S x.w.o with
     | none => exact (fault_eq r g (5, 0, x.w.a)).symm
     | some l =>
      simp only
      have hx1 : ({ r with gs := r.gs ++ [⟨l, zW⟩] } : Rm).gs[g]? = some x := (List.getElem?_append_left (G_ hx)).trans hx
      have hx2 : (Zz { r with gs := r.gs ++ [⟨l, zW⟩] } g (r.gs.length : Int)).gs[g]? = some x := by rw [(YI _ _ _).1]; exact hx1
      have hl2 : r.gs.length < (Zz { r with gs := r.gs ++ [⟨l, zW⟩] } g (r.gs.length : Int)).gs.length := by rw [(YI _ _ _).1]; simp
      have he2 : (Zz { r with gs := r.gs ++ [⟨l, zW⟩] } g (r.gs.length : Int)).e = zE := by rw [(YI _ _ _).2]; exact he
      rw [asks2]
      have e1 : ({ YM r.z g (r.gs.length : Int) with ws := r.z.ws ++ [zW], pe := r.z.pe ++ [l] } : Rz) = (Zz { r with gs := r.gs ++ [⟨l, zW⟩] } g (r.gs.length : Int)).z := by
       unfold YM Zz
       rw [z_ws, hx, hx1]
       simp [Rm.z]
      rw [e1, ask2_eq hx2 hl2 (by rw [he2]; rfl)]
      exact look_eq (ask2_ez (fun _ => he2) g _)
 rw [if_neg h10, if_neg h10]
 by_cases hA : x.w.k = 4 /\ lk r.s.M x.w.o ≠ some true
 · rw [if_pos hA, if_pos (show x.w.k = 4 /\ lk r.z.s.M x.w.o ≠ some true from hA), fault_eq]
 rw [if_neg hA, if_neg (show ¬ (x.w.k = 4 /\ lk r.z.s.M x.w.o ≠ some true) from hA)]
 by_cases hC : x.w.k = 5 /\ YF r.s x.w.o = true
 · rw [if_pos hC, if_pos (show x.w.k = 5 /\ YF r.z.s x.w.o = true from hC)]
   unfold meetR
   rw [show r.z.ws.findIdx? (isR x.w.o) = recvR r.gs x.w.o from (recv_tak r.gs x.w.o).symm]
   cases ht : recvR r.gs x.w.o with
   | none =>
    exfalso
    have hcs : canS r x.w = true := by
     unfold ZY at hc
     rw [if_neg (by omega), if_neg (by omega), if_neg (by omega), if_pos hC.1] at hc
     exact hc
    have hz := hC.2
    unfold canS at hcs
    unfold YF at hz
    cases hl : lk r.s.C x.w.o with
    | none => rw [hl] at hcs; cases hcs
    | some q =>
     rw [hl] at hcs hz
     simp only [Bool.and_eq_true] at hcs
     rw [if_pos (by simpa using hz), ht] at hcs
     simp at hcs
   | some t =>
    simp only
    have htl : t < r.gs.length := (List.findIdx?_eq_some_iff_getElem.1 ht).1
    have e1 : YM (YM r.z g x.w.o) t x.w.o = (Zz (Zz r g x.w.o) t x.w.o).z := by rw [note_eq, note_eq]
    have g2 : (Zz (Zz r g x.w.o) t x.w.o).gs = r.gs := by rw [(YI _ _ _).1, (YI _ _ _).1]
    have e2 : (Zz (Zz r g x.w.o) t x.w.o).e = zE := by rw [(YI _ _ _).2, (YI _ _ _).2]; exact he
    rw [asks2, e1, ask2_eq (by rw [g2]; exact hx) (by rw [g2]; exact htl) (by rw [e2]; rfl)]
    exact look_eq (ask2_ez (fun _ => e2) g t)
 rw [if_neg hC, if_neg (show ¬ (x.w.k = 5 /\ YF r.z.s x.w.o = true) from hC)]
 by_cases hD : x.w.k = 12
 · rw [if_pos hD, if_pos hD]
   have e1 : ({ YM r.z g x.w.o with ws := r.z.ws.set g zW } : Rz) = ({ Zz r g x.w.o with gs := r.gs.set g ⟨x.rest, zW⟩ } : Rm).z := by
    rw [note_eq]
    unfold Zz
    rw [hx]
    unfold Rm.z
    simp only [List.map_set]
    rw [set_id (l := List.map Gr.rest r.gs) (x := x.rest) (by rw [List.getElem?_map, hx]; rfl)]
   rw [e1]
   exact look_eq (fun _ => by show (Zz r g x.w.o).e = zE; rw [(YI _ _ _).2]; exact he)
 rw [if_neg hD, if_neg hD]
 have e1 : YM { r.z with s := (ZF r.z.s x.w).1 } g x.w.o = (Zz { r with s := (ZF r.s x.w).1 } g x.w.o).z := note_eq { r with s := (ZF r.s x.w).1 } g x.w.o
 have g1 : (Zz { r with s := (ZF r.s x.w).1 } g x.w.o).gs = r.gs := (YI _ _ _).1
 have e2 : (Zz { r with s := (ZF r.s x.w).1 } g x.w.o).e = zE := by rw [(YI _ _ _).2]; exact he
 rw [asks1, e1, ask_eq (by rw [g1]; exact hx) (by rw [e2]; rfl)]
 exact look_eq (ask_ez (fun _ => e2) g)
theorem rdo_full {w : World} {G : Nat -> Prop} {B g : Nat} {S : List (List Wt)} {r : Rz} (h : Rr w G B g S r) (i : Nat) (o a v0 v1 v2 : Int) (hx : r.ws[i]? = some ⟨10, o, a, (v0, v1, v2)⟩) (h8 : 8 <= r.ws.length) :
 Calls Tryz.prog 12 #[P_ g, I_ (i : Nat)] w (RrP w G B g S (faultZ r i (5, 0, a)) (.tuple #[])) := by
 obtain ⟨Fs, Rs, Fo, R, gs, gt, vW, vE, vL, vO, vA, vs, os, as_, h, hG⟩ := h
 have hi := (G_ hx)
 obtain ⟨b, cW, eW, hb, p0, p1, p2, p3, p4, p5⟩ := h.waitAt i _ hx
 subst eW
 simp only at p0 p1 p2 p3 p4 p5
 have c1 := h.cells.1.2.1
 have B0 := Za (Zd w (.cells #[I_ 10, I_ o, I_ a, I_ v0, I_ v1, .int .u64 v2] 76))
 have KW := Za (B_ w (.cells #[I_ 10, I_ o, I_ a, I_ v0, I_ v1, .int .u64 v2] 76))
 obtain ⟨n, hn⟩ : ∃ n, n = r.ws.length := ⟨_, rfl⟩
 rw [← hn] at c1 hi
 have hi1 : (i : Int) < (n : Int) := by omega
 have hi0 : (0 : Int) <= (i : Int) := by omega
 have h8' : decide ((8 : Int) <= (n : Int)) = true := decide_eq_true (by omega)
 have h8'' : decide ((n : Int) < 8) = false := decide_eq_false (by omega)
 have Q1 := Za (h.bel B0.out)
 have HG := Za hG
 have HN := Za hn
 unfold faultZ
 simp only
 clear h hG hx hi hn hb h8
 go_enter Tryz.func12, Tryz.ntmps12
 go_upto_region 3 with fail
 generalize w.alloc _ = w1 at *
 have c1 := Q1.out.cells.1.2.1
 rw [← HN.out] at c1
 clear p0 p1 p2 p3 p4 p5
 go_quiet (fail)
 have DQ := below_drewN (Below.refl w1.heap.size w1) nq
 have RF := Za (((Q1.out.bel DQ).rr).wideG HG.out)
 have CF := Za ((Ch.of_bel (F := G) B0.out).trans (Ch.of_bel DQ))
 have KF : Hid ((w1.drewN nq).heap[w.heap.size]? = _) := Za ((DQ.block _ (Ze KW.out)).trans KW.out)
 have x2 := Zb KF.out 2 _ rfl
 clear c1 DQ Q1 KW B0
 generalize w1.drewN nq = w2 at *
 have RF2 := Za (RF.out.bel (w' := w2.drew) (below_drewN (Below.refl _ _) 1))
 have CF2 : Hid (Ch G G w w2.drew) := Za (CF.out.trans (Ch.of_bel (F := G) (below_drewN (Below.refl w2.heap.size w2) 1)))
 have SX : Hid (w2.drew.cell? ⟨w.heap.size, 2, none⟩ = some (I_ a)) := Za x2
 clear RF CF x2
 go_upto_region 4 with fail
 refine ZE (S := fun wz => wz.cell? ⟨w.heap.size, 2, none⟩ = some (I_ a)) (fun j => decide (j < 7)) ZK SX.out (fun hH => ?_)
 clear SX
 generalize w2.drew = wf at *
 refine M_ 0 ?_
 simp only [Act.put, S_]
 refine M_ 1 ?_
 simp only [Act.put, S_]
 refine M_ 2 ?_
 simp only [Act.put, S_]
 refine M_ 3 ?_
 simp only [Act.put, S_]
 refine M_ 4 ?_
 simp only [Act.put, S_]
 refine RT_ 5 (fun K1 hK1 => ?_)
 have q := hH
 go_simp
 refine hK1.out _ _ (fun _ => hH) (fun hh => ?_)
 clear hK1 K1 q hh
 refine M_ 6 ?_
 simp only [Act.put, S_]
 have FA := Za (rFault_any RF2.out (i : Nat) 5 0 a)
 unfold h3V at FA
 simp only at FA
 clear hH
 refine RT_ 7 (fun K1 hK1 => ?_)
 go_simp
 refine FA.out.mono ?_
 rintro e w3 ⟨rfl, G3, r3, c3⟩
 refine hK1.out _ _ (fun h => absurd h (by decide)) (fun _ => ?_)
 clear hK1 K1
 refine ZX (by kernel_rfl) ?_ _
 have R3 := Za r3
 have C3 := Za (CF2.out.trans c3)
 clear r3 c3 FA RF2 CF2
 go_wp2_with fail
 go_end0
 exact ⟨rfl, G3, R3.out, C3.out⟩
theorem rdo_none {w : World} {G : Nat -> Prop} {B g : Nat} {S : List (List Wt)} {r : Rz} (h : Rr w G B g S r) (i : Nat) (o a v0 v1 v2 : Int) (hx : r.ws[i]? = some ⟨10, o, a, (v0, v1, v2)⟩) (h8 : r.ws.length < 8) (hf : lk S o = none) :
 Calls Tryz.prog 12 #[P_ g, I_ (i : Nat)] w (RrP w G B g S (faultZ r i (5, 0, a)) (.tuple #[])) := by
 obtain ⟨Fs, Rs, Fo, R, gs, gt, vW, vE, vL, vO, vA, vs, os, as_, h, hG⟩ := h
 have hi := (G_ hx)
 obtain ⟨b, cW, eW, hb, p0, p1, p2, p3, p4, p5⟩ := h.waitAt i _ hx
 subst eW
 simp only at p0 p1 p2 p3 p4 p5
 have c1 := h.cells.1.2.1
 have B0 := Za (Zd w (.cells #[I_ 10, I_ o, I_ a, I_ v0, I_ v1, .int .u64 v2] 76))
 have KW := Za (B_ w (.cells #[I_ 10, I_ o, I_ a, I_ v0, I_ v1, .int .u64 v2] 76))
 obtain ⟨n, hn⟩ : ∃ n, n = r.ws.length := ⟨_, rfl⟩
 rw [← hn] at c1 hi
 have hi1 : (i : Int) < (n : Int) := by omega
 have hi0 : (0 : Int) <= (i : Int) := by omega
 have h8' : decide ((8 : Int) <= (n : Int)) = false := decide_eq_false (by omega)
 have Q1 := Za (h.bel B0.out)
 have HG := Za hG
 have HN := Za hn
 have HF := Za hf
 unfold faultZ
 simp only
 clear hf
 clear h hG hx hi hn hb h8
 go_enter Tryz.func12, Tryz.ntmps12
 go_upto_region 3 with fail
 generalize w.alloc _ = w1 at *
 have S1 : Hid ((fun wz => wz.cell? ⟨g, 1, none⟩ = some (.slice (some ⟨b, 0, none⟩) n cW) /\ wz.cell? ⟨g, 8, none⟩ = some (P_ gt) /\ wz.cell? ⟨w.heap.size, 1, none⟩ = some (I_ o)) w1.drew) := Za ⟨by rw [HN.out]; exact Q1.out.cells.1.2.1, Q1.out.cells.1.2.2.2, Zb KW.out 1 _ rfl⟩
 have DD := below_drewN (Below.refl w1.heap.size w1) 1
 have Q2 := Za (Q1.out.bel (w' := w1.drew) DD)
 have B2 := Za (Zp B0.out)
 have KW2 : Hid (w1.drew.heap[w.heap.size]? = _) := Za KW.out
 clear p0 p1 p2 p3 p4 p5 c1 DD Q1 KW B0
 refine ZE (S := fun wz => wz.cell? ⟨g, 1, none⟩ = some (.slice (some ⟨b, 0, none⟩) n cW) /\ wz.cell? ⟨g, 8, none⟩ = some (P_ gt) /\ wz.cell? ⟨w.heap.size, 1, none⟩ = some (I_ o)) (fun j => decide (j ≠ 14)) ZK S1.out (fun hH => ?_)
 clear S1
 generalize World.drew _ = wd at *
 refine M_ 0 ?_
 simp only [Act.put, S_]
 refine M_ 1 ?_
 simp only [Act.put, S_]
 refine M_ 2 ?_
 simp only [Act.put, S_]
 refine M_ 3 ?_
 simp only [Act.put, S_]
 refine RT_ 4 (fun K1 hK1 => ?_)
 have q := hH.1
 go_simp
 refine hK1.out _ _ (fun _ => hH) (fun hh => ?_)
 clear hK1 K1 q hh
 refine M_ 5 ?_
 simp only [Act.put, S_]
 refine M_ 6 ?_
 simp only [Act.put, S_]
 refine M_ 7 ?_
 simp only [Act.put, S_]
 refine M_ 8 ?_
 simp only [Act.put, S_]
 refine M_ 9 ?_
 simp only [Act.put, S_]
 refine M_ 10 ?_
 simp only [Act.put, S_]
 refine L_ 11 (v := ?_) ?_ hH ?_
 rotate_left 1
 · (intro w hSw; have q := hSw.2.1; clear hSw; go_simp <;> with_reducible rfl)
 simp only [Act.put, S_]
 refine M_ 12 ?_
 simp only [Act.put, S_]
 refine L_ 13 (v := ?_) ?_ hH ?_
 rotate_left 1
 · (intro w hSw; have q := hSw.2.2; clear hSw; go_simp <;> with_reducible rfl)
 simp only [Act.put, S_]
 clear hH
 refine RT_ 14 (fun K1 hK1 => ?_)
 have CT := Za (begin_no Q2.out o HF.out)
 go_simp
 refine CT.out.mono ?_
 rintro e w5 ⟨rfl, rfl⟩
 refine hK1.out _ _ (fun h => absurd h (by decide)) (fun _ => ?_)
 clear hK1 K1 CT
 refine M_ 15 ?_
 simp only [Act.put, S_]
 refine M_ 16 ?_
 simp only [Act.put, S_]
 refine ZX (by kernel_rfl) ?_ _
 have RF := Za ((Q2.out.rr).wideG HG.out)
 have CF := Za (Ch.of_bel (F := G) B2.out)
 have x2 := Zb KW2.out 2 _ rfl
 clear Q2 KW2 B2
 have RF2 := Za (RF.out.bel (w' := wd.drew) (below_drewN (Below.refl _ _) 1))
 have CF2 : Hid (Ch G G w wd.drew) := Za (CF.out.trans (Ch.of_bel (F := G) (below_drewN (Below.refl wd.heap.size wd) 1)))
 have SX : Hid (wd.drew.cell? ⟨w.heap.size, 2, none⟩ = some (I_ a)) := Za x2
 clear RF CF x2
 go_upto_region 4 with fail
 refine ZE (S := fun wz => wz.cell? ⟨w.heap.size, 2, none⟩ = some (I_ a)) (fun j => decide (j < 7)) ZK SX.out (fun hH => ?_)
 clear SX
 generalize wd.drew = wf at *
 refine M_ 0 ?_
 simp only [Act.put, S_]
 refine M_ 1 ?_
 simp only [Act.put, S_]
 refine M_ 2 ?_
 simp only [Act.put, S_]
 refine M_ 3 ?_
 simp only [Act.put, S_]
 refine M_ 4 ?_
 simp only [Act.put, S_]
 refine RT_ 5 (fun K1 hK1 => ?_)
 have q := hH
 go_simp
 refine hK1.out _ _ (fun _ => hH) (fun hh => ?_)
 clear hK1 K1 q hh
 refine M_ 6 ?_
 simp only [Act.put, S_]
 have FA := Za (rFault_any RF2.out (i : Nat) 5 0 a)
 unfold h3V at FA
 simp only at FA
 clear hH
 refine RT_ 7 (fun K1 hK1 => ?_)
 go_simp
 refine FA.out.mono ?_
 rintro e w3 ⟨rfl, G3, r3, c3⟩
 refine hK1.out _ _ (fun h => absurd h (by decide)) (fun _ => ?_)
 clear hK1 K1
 refine ZX (by kernel_rfl) ?_ _
 have R3 := Za r3
 have C3 := Za (CF2.out.trans c3)
 clear r3 c3 FA RF2 CF2
 go_wp2_with fail
 go_end0
 exact ⟨rfl, G3, R3.out, C3.out⟩
theorem rdo_go {w : World} {G : Nat -> Prop} {B g : Nat} {S : List (List Wt)} {r : Rz} (h : Rr w G B g S r) (hB : B <= 900000) (i : Nat) (o a v0 v1 v2 : Int) (hx : r.ws[i]? = some ⟨10, o, a, (v0, v1, v2)⟩) (h8 : r.ws.length < 8) (fn : Nat) (hfo : o = (fn : Nat)) (l : List Wt) (hl : S[fn]? = some l) (hp : r.pe.length = r.ws.length) (hev : r.ev.length <= 90000) :
    Calls Tryz.prog 12 #[P_ g, I_ (i : Nat)] w (RrP w G B g S (Yz (Yo { YM r i r.ws.length with ws := r.ws ++ [zW], pe := r.pe ++ [l] } [i, r.ws.length] 2)) (.tuple #[])) := by
  obtain ⟨Fs, Rs, Fo, R, gs, gt, vW, vE, vL, vO, vA, vs, os, as_, h, hG⟩ := h
  have hi := (G_ hx)
  obtain ⟨b, cW, eW, hb, p0, p1, p2, p3, p4, p5⟩ := h.waitAt i _ hx
  subst eW
  simp only at p0 p1 p2 p3 p4 p5
  have c1 := h.cells.1.2.1
  have B0 := Za (Zd w (.cells #[I_ 10, I_ o, I_ a, I_ v0, I_ v1, .int .u64 v2] 76))
  have KW := Za (B_ w (.cells #[I_ 10, I_ o, I_ a, I_ v0, I_ v1, .int .u64 v2] 76))
  obtain ⟨n, hn⟩ : ∃ n, n = r.ws.length := ⟨_, rfl⟩
  rw [← hn] at c1 hi
  have hi1 : (i : Int) < (n : Int) := by omega
  have hi0 : (0 : Int) <= (i : Int) := by omega
  subst hfo
  have h8' : decide ((8 : Int) <= (n : Int)) = false := decide_eq_false (by omega)
  have Q1 := Za (h.bel B0.out)
  have HG := Za hG
  have HN := Za hn
  have HX := Za hx
  have HLF := Za hl
  have HP := Za (show r.pe.length <= 8 by omega)
  have HP2 := Za hp
  have H8 := Za h8
  have HEV := Za hev
  have HI : Hid (i < r.ws.length) := Za (G_ hx)
  have HZ : Hid (Yz (Yo { YM r i r.ws.length with ws := r.ws ++ [zW], pe := r.pe ++ [l] } [i, r.ws.length] 2) = Yz (Yo { r with pe := r.pe ++ [l], ev := r.ev ++ [⟨i, 10, r.ws.length, a⟩], ws := r.ws ++ [zW] } [i, r.ws.length] 2)) := Za (by unfold YM; rw [hx])
  rw [HZ.out]
  clear hl hp hev HZ
  clear h hG hx hi hn hb h8
  go_enter Tryz.func12, Tryz.ntmps12
  go_upto_region 3 with fail
  generalize w.alloc _ = w1 at *
  have S1 : Hid ((fun wz => wz.cell? ⟨g, 1, none⟩ = some (.slice (some ⟨b, 0, none⟩) n cW) /\ wz.cell? ⟨g, 8, none⟩ = some (P_ gt) /\ wz.cell? ⟨w.heap.size, 1, none⟩ = some (I_ (fn : Nat))) w1.drew) := Za ⟨by rw [HN.out]; exact Q1.out.cells.1.2.1, Q1.out.cells.1.2.2.2, Zb KW.out 1 _ rfl⟩
  have DD := below_drewN (Below.refl w1.heap.size w1) 1
  have Q2 := Za (Q1.out.bel (w' := w1.drew) DD)
  have B2 := Za (Zp B0.out)
  have KW2 : Hid (w1.drew.heap[w.heap.size]? = _) := Za KW.out
  clear p0 p1 p2 p3 p4 p5 c1 DD Q1 KW B0
  refine ZE (S := fun wz => wz.cell? ⟨g, 1, none⟩ = some (.slice (some ⟨b, 0, none⟩) n cW) /\ wz.cell? ⟨g, 8, none⟩ = some (P_ gt) /\ wz.cell? ⟨w.heap.size, 1, none⟩ = some (I_ (fn : Nat))) (fun j => decide (j ≠ 14)) ZK S1.out (fun hH => ?_)
  clear S1
  generalize World.drew _ = wd at *
  refine M_ 0 ?_
  simp only [Act.put, S_]
  refine M_ 1 ?_
  simp only [Act.put, S_]
  refine M_ 2 ?_
  simp only [Act.put, S_]
  refine M_ 3 ?_
  simp only [Act.put, S_]
  refine RT_ 4 (fun K1 hK1 => ?_)
  have q := hH.1
  go_simp
  refine hK1.out _ _ (fun _ => hH) (fun hh => ?_)
  clear hK1 K1 q hh
  refine M_ 5 ?_
  simp only [Act.put, S_]
  refine M_ 6 ?_
  simp only [Act.put, S_]
  refine M_ 7 ?_
  simp only [Act.put, S_]
  refine M_ 8 ?_
  simp only [Act.put, S_]
  refine M_ 9 ?_
  simp only [Act.put, S_]
  refine M_ 10 ?_
  simp only [Act.put, S_]
  refine L_ 11 (v := ?_) ?_ hH ?_
  rotate_left 1
  · (intro w hSw; have q := hSw.2.1; clear hSw; go_simp <;> with_reducible rfl)
  simp only [Act.put, S_]
  refine M_ 12 ?_
  simp only [Act.put, S_]
  refine L_ 13 (v := ?_) ?_ hH ?_
  rotate_left 1
  · (intro w hSw; have q := hSw.2.2; clear hSw; go_simp <;> with_reducible rfl)
  simp only [Act.put, S_]
  clear hH
  refine RT_ 14 (fun K1 hK1 => ?_)
  have CT := Za (begin_ok Q2.out HG.out fn l HLF.out HP.out)
  go_simp
  refine CT.out.mono ?_
  rintro e w5 ⟨rfl, G5, r5, c5⟩
  refine hK1.out _ _ (fun h => absurd h (by decide)) (fun _ => ?_)
  clear hK1 K1 CT
  refine M_ 15 ?_
  simp only [Act.put, S_]
  refine M_ 16 ?_
  simp only [Act.put, S_]
  refine ZX (by kernel_rfl) ?_ _
  have C5 := Za ((Ch.of_bel (F := G) B2.out).trans c5)
  have SP := Za (rSpawn_any r5 i ⟨10, (fn : Nat), a, (v0, v1, v2)⟩ HX.out (by have := HEV.out; show r.ev.length <= 100000; omega) H8.out)
  clear r5 c5 Q2 KW2 B2
  go_wp2_with fail
  refine SP.out.mono ?_
  rintro e w6 ⟨v, G6, rfl, r6, c6, sk⟩
  have CK := Za (rask_any r6 (by omega) sk (fun y hy => by
    simp at hy
    have h1 := HI.out
    have h2 := HP2.out
    rcases hy with rfl | rfl
    · simp; omega
    · simp; omega))
  have C6 := Za (C5.out.trans c6)
  obtain ⟨av, cv, ev, _⟩ := sk
  subst ev
  clear r6 c6 SP C5
  go_wp2_with fail
  refine CK.out.mono ?_
  rintro e w7 ⟨rfl, G7, r7, c7⟩
  have R7 := Za r7
  have C7 := Za (C6.out.trans c7)
  clear r7 c7 CK C6
  go_wp2_with fail
  go_end0
  exact ⟨rfl, G7, R7.out, C7.out⟩
end Go.Proofs.YtfojninaginnoaaGreatDoor.Ck
