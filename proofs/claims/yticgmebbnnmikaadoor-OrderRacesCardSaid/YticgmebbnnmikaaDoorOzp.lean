/- The document's Direct. -/
import Derived.Test.YticgmebbnnmikaaDoorOzo
import Derived.Deep.CutRange
namespace Go.Proofs.YticgmebbnnmikaaDoor.Ck
open Go.RowKit

/-- the document's Direct, of what it reads -/
def dirX (gi ki oi gj kj oj rm : Int) (bk : Bool) (wi wj : Nat) : Bool :=
  decide (gi = gj) || (decide (ki = 10) && decide (oi = gj)) || (decide (ki = 6) && decide (rm = 0) && bk) ||
  (decide (oi = oj) && ((decide (ki = 4) && decide (kj = 3)) || (atB ki && atB kj) || (decide (ki = 5) && decide (kj = 6) && decide (wi = wj)) ||
    (decide (ki = 6) && decide (kj = 5) && decide (0 < rm) && decide (rm ≤ wj) && decide ((wj : Int) - rm = wi))))
theorem dirX_eq (T : List Ev) (R : List Int) (i j : Nat) : dirM T R i j = dirX (T.getD i zE).g (kOf T i) (oOf T i) (T.getD j zE).g (kOf T j) (oOf T j) (roomM R (oOf T i)) (backB T i (T.getD j zE).g) (whM T i) (whM T j) := rfl
theorem beqI (a b : Int) : (a == b) = decide (a = b) := by by_cases h : a = b <;> simp [h]
/-- two variables of events -/
structure Bx (w0 w : World) (b c : Nat) (x y : Ev) : Prop where
  p : w.heap[b]? = some (.cells #[.int .i64 x.g, .int .i64 x.k, .int .i64 x.o, .int .i64 x.a] 47 (0, 0))
  q : w.heap[c]? = some (.cells #[.int .i64 y.g, .int .i64 y.k, .int .i64 y.o, .int .i64 y.a] 47 (0, 0))
  bel : Below w0.heap.size w0 w
theorem Bx.below {w0 w w' : World} {b c : Nat} {x y : Ev} (h : Bx w0 w b c x y) (hb : Below w.heap.size w w') : Bx w0 w' b c x y :=
  ⟨(hb.block _ (lt_of_blk h.p)).trans h.p, (hb.block _ (lt_of_blk h.q)).trans h.q, h.bel.trans (hb.mono h.bel.size)⟩
def evZ : Array Value := #[.int .i64 0, .int .i64 0, .int .i64 0, .int .i64 0]
def evA (x : Ev) : Array Value := #[.int .i64 x.g, .int .i64 x.k, .int .i64 x.o, .int .i64 x.a]
theorem evA_info (x : Ev) : (Tryd.prog.info? 47).map (·.size) = some (evA x).size := by
  rw [show (evA x).size = 4 from rfl]
  kernel_rfl
theorem evA_one (x : Ev) : (evA x).all (·.oneCell') = true := by simp [evA, Value.oneCell']
/-- two variables made, in whatever order, and filled -/
theorem Bx.mk1 {w0 w : World} (hb : Below w0.heap.size w0 w) (x y : Ev) : Bx w0 ((((w.alloc (.cells evZ 47)).alloc (.cells evZ 47)).setRow w.heap.size (evA x)).setRow (w.heap.size + 1) (evA y)) w.heap.size (w.heap.size + 1) x y := by
  have h1 := Go.Deep.blk_alloc_new w (.cells evZ 47)
  have h2 := Go.Deep.blk_alloc_new (w.alloc (.cells evZ 47)) (.cells evZ 47)
  have hs : (w.alloc (.cells evZ 47)).heap.size = w.heap.size + 1 := by simp
  rw [hs] at h2
  have b1 := bel_new (w.alloc (.cells evZ 47)) (.cells evZ 47)
  have h1' := (b1.block w.heap.size (by rw [hs]; omega)).trans h1
  have h3 := setRow_heap _ _ _ (evA x) _ _ h1'
  have h2' := (setRow_other ((w.alloc (.cells evZ 47)).alloc (.cells evZ 47)) w.heap.size (w.heap.size + 1) (evA x) (by omega)).trans h2
  have h4 := setRow_heap _ _ _ (evA y) _ _ h2'
  refine ⟨(setRow_other _ _ _ _ (by omega)).trans h3, h4, ?_⟩
  have hl := hb.size
  exact bel_row (bel_row (bel_al (bel_al hb _) _) hl _) (by omega) _
theorem Bx.mk2 {w0 w : World} (hb : Below w0.heap.size w0 w) (x y : Ev) : Bx w0 ((((w.alloc (.cells evZ 47)).alloc (.cells evZ 47)).setRow (w.heap.size + 1) (evA x)).setRow w.heap.size (evA y)) (w.heap.size + 1) w.heap.size x y := by
  have h1 := Go.Deep.blk_alloc_new w (.cells evZ 47)
  have h2 := Go.Deep.blk_alloc_new (w.alloc (.cells evZ 47)) (.cells evZ 47)
  have hs : (w.alloc (.cells evZ 47)).heap.size = w.heap.size + 1 := by simp
  rw [hs] at h2
  have b1 := bel_new (w.alloc (.cells evZ 47)) (.cells evZ 47)
  have h1' := (b1.block w.heap.size (by rw [hs]; omega)).trans h1
  have h3 := setRow_heap _ _ _ (evA x) _ _ h2
  have h2' := (setRow_other ((w.alloc (.cells evZ 47)).alloc (.cells evZ 47)) (w.heap.size + 1) w.heap.size (evA x) (by omega)).trans h1'
  have h4 := setRow_heap _ _ _ (evA y) _ _ h2'
  refine ⟨(setRow_other _ _ _ _ (by omega)).trans h3, h4, ?_⟩
  have hl := hb.size
  exact bel_row (bel_row (bel_al (bel_al hb _) _) (by omega) _) hl _
set_option maxRecDepth 20000 in
set_option maxHeartbeats 8000000 in
theorem direct_any {w : World} {vT vR : Value} {T : List Ev} {R : List Int} (hT : SlE w vT T) (hR : Sl w vR R) (hn : T.length ≤ 100000) (i j : Nat) (hi : i < T.length) (hj : j < T.length) : Calls Tryd.prog 26 #[vT, vR, .int .i64 (i : Nat), .int .i64 (j : Nat)] w (Vb w (.bool (dirM T R i j))) := by
  obtain ⟨aT, cT, rfl, hcT, _⟩ := hT.form
  obtain ⟨aR, cR, rfl, hcR, _⟩ := hR.form
  obtain ⟨bT, off, rfl, hbT, s0, s1, s2, s3⟩ := hT.at i hi
  obtain ⟨bT', off', e', hbT', t0, t1, t2, t3⟩ := hT.at j hj
  injection e' with e'
  injection e' with e1 e2 _
  subst e1 e2
  have HT := hide hT
  have HR := hide hR
  have HD := hide (dirX_eq T R i j)
  have KS := hide (fun wz (hz : Below w.heap.size w wz) => And.intro ((hz.cell (p := ⟨bT, off + i * 4, none⟩) hbT).trans s0) (And.intro ((hz.cell (p := ⟨bT, off + i * 4 + 1, none⟩) hbT).trans s1) (And.intro ((hz.cell (p := ⟨bT, off + i * 4 + 2, none⟩) hbT).trans s2) (And.intro ((hz.cell (p := ⟨bT, off + i * 4 + 3, none⟩) hbT).trans s3)
    (And.intro ((hz.cell (p := ⟨bT, off + j * 4, none⟩) hbT).trans t0) (And.intro ((hz.cell (p := ⟨bT, off + j * 4 + 1, none⟩) hbT).trans t1) (And.intro ((hz.cell (p := ⟨bT, off + j * 4 + 2, none⟩) hbT).trans t2) ((hz.cell (p := ⟨bT, off + j * 4 + 3, none⟩) hbT).trans t3))))))))
  have hi' : (i : Int) < (T.length : Int) := by omega
  have hj' : (j : Int) < (T.length : Int) := by omega
  unfold kOf oOf at HD
  obtain ⟨x, hx⟩ : ∃ q, q = T.getD i zE := ⟨_, rfl⟩
  obtain ⟨y, hy⟩ : ∃ q, q = T.getD j zE := ⟨_, rfl⟩
  have HX := hide hx
  have HY := hide hy
  rw [← hx, ← hy] at HD KS
  obtain ⟨xg, xk, xo, xa⟩ := x
  obtain ⟨yg, yk, yo, ya⟩ := y
  simp only at HD KS
  clear hT hR s0 s1 s2 s3 t0 t1 t2 t3 hx hy hbT'
  generalize dirM T R i j = res at *
  go_enter Tryd.func26, Tryd.ntmps26
  go_upto_region 1 with fail
  go_cut [9, 10] from 13 (fun x9 x10 wc => ∃ b c, x9 = .pointer (some ⟨b, 0, none⟩) ∧ x10 = .pointer (some ⟨c, 0, none⟩) ∧ Hid (Bx w wc b c ⟨xg, xk, xo, xa⟩ ⟨yg, yk, yo, ya⟩))
  case first =>
    refine wp_region_T (S := fun wz => Below w.heap.size w wz) (fun _ => true) mixed (Below.refl _ _).drew (fun hH => ?_)
    refine Tm 0 ?_
    simp only [Act.put, SA]
    refine Tm 1 ?_
    simp only [Act.put, SA]
    refine Tm 2 ?_
    simp only [Act.put, SA]
    refine Tl 3 (v := .agg #[.int .i64 xg, .int .i64 xk, .int .i64 xo, .int .i64 xa]) ?_ hH ?_
    · (intro wy hSw; obtain ⟨q0, q1, q2, q3, q4, q5, q6, q7⟩ := KS.out wy hSw; clear hSw KS; go_simp <;> with_reducible rfl)
    simp only [Act.put, SA]
    refine Tm 4 ?_
    simp only [Act.put, SA]
    refine Tm 5 ?_
    simp only [Act.put, SA]
    refine Tm 6 ?_
    simp only [Act.put, SA]
    refine Tl 7 (v := .agg #[.int .i64 yg, .int .i64 yk, .int .i64 yo, .int .i64 ya]) ?_ hH ?_
    · (intro wy hSw; obtain ⟨q0, q1, q2, q3, q4, q5, q6, q7⟩ := KS.out wy hSw; clear hSw KS; go_simp <;> with_reducible rfl)
    simp only [Act.put, SA]
    clear hH KS
    refine T_ready (rs := [8, 9]) (by kernel_rfl) (by decide) ?_
    refine AllReadyT.cons rfl (fun K1 hK1 => ?_) (AllReadyT.cons rfl (fun K1 hK1 => ?_) AllReadyT.nil)
    · go_simp
      have B1 := hide (bel_al (Below.refl w.heap.size w).drew (.cells evZ 47))
      have B2 := hide (bel_al B1.out (.cells evZ 47))
      have hs1 : (w.drew.alloc (.cells evZ 47)).heap.size = w.heap.size + 1 := by simp
      have F := hide (Bx.mk1 (Below.refl w.heap.size w).drew ⟨xg, xk, xo, xa⟩ ⟨yg, yk, yo, ya⟩)
      have z2 := Go.Deep.blk_alloc_new (w.drew.alloc (.cells evZ 47)) (.cells evZ 47)
      rw [hs1] at z2
      have z1 : ((w.drew.alloc (.cells evZ 47)).alloc (.cells evZ 47)).heap[w.heap.size]? = some (.cells evZ 47 (0, 0)) := ((bel_new (w.drew.alloc (.cells evZ 47)) (.cells evZ 47)).block w.heap.size (by rw [hs1]; omega)).trans (Go.Deep.blk_alloc_new w.drew (.cells evZ 47))
      refine hK1.out _ _ (fun _ => B1.out) (fun _ => ?_)
      clear hK1 K1
      refine Tr 9 (fun K1 hK1 => ?_)
      go_simp
      refine hK1.out _ _ (fun _ => B2.out) (fun _ => ?_)
      clear hK1 K1
      refine Tr 10 (fun K1 hK1 => ?_)
      rw [if_pos (by rfl)]
      refine wp_store_row 47 (.tmp 9) (.tmp 16) rfl (w.heap.size) (evA ⟨xg, xk, xo, xa⟩) rfl rfl _ _ z1 (evA_info _) rfl (evA_one _) ?_
      have y2 := (setRow_other ((w.drew.alloc (.cells evZ 47)).alloc (.cells evZ 47)) (w.heap.size) (w.heap.size + 1) (evA ⟨xg, xk, xo, xa⟩) (by omega)).trans z2
      refine hK1.out _ _ (fun _ => bel_row B2.out (by omega) _) (fun _ => ?_)
      clear hK1 K1
      refine Tr 11 (fun K1 hK1 => ?_)
      rw [if_pos (by rfl)]
      refine wp_store_row 47 (.tmp 10) (.tmp 20) rfl (w.heap.size + 1) (evA ⟨yg, yk, yo, ya⟩) rfl rfl _ _ y2 (evA_info _) rfl (evA_one _) ?_
      refine hK1.out _ _ (fun _ => bel_row (bel_row B2.out (by omega) _) (by omega) _) (fun _ => ?_)
      clear hK1 K1
      refine T_done (by kernel_rfl) ?_ _
      simp only [Act.put, SA]
      go_wp2_with fail
      go_meet
      case rel => exact ⟨_, _, rfl, rfl, hide F.out⟩
    · go_simp
      have B1 := hide (bel_al (Below.refl w.heap.size w).drew (.cells evZ 47))
      have B2 := hide (bel_al B1.out (.cells evZ 47))
      have hs1 : (w.drew.alloc (.cells evZ 47)).heap.size = w.heap.size + 1 := by simp
      have F := hide (Bx.mk2 (Below.refl w.heap.size w).drew ⟨xg, xk, xo, xa⟩ ⟨yg, yk, yo, ya⟩)
      have z2 := Go.Deep.blk_alloc_new (w.drew.alloc (.cells evZ 47)) (.cells evZ 47)
      rw [hs1] at z2
      have z1 : ((w.drew.alloc (.cells evZ 47)).alloc (.cells evZ 47)).heap[w.heap.size]? = some (.cells evZ 47 (0, 0)) := ((bel_new (w.drew.alloc (.cells evZ 47)) (.cells evZ 47)).block w.heap.size (by rw [hs1]; omega)).trans (Go.Deep.blk_alloc_new w.drew (.cells evZ 47))
      refine hK1.out _ _ (fun _ => B1.out) (fun _ => ?_)
      clear hK1 K1
      refine Tr 8 (fun K1 hK1 => ?_)
      go_simp
      refine hK1.out _ _ (fun _ => B2.out) (fun _ => ?_)
      clear hK1 K1
      refine Tr 10 (fun K1 hK1 => ?_)
      rw [if_pos (by rfl)]
      refine wp_store_row 47 (.tmp 9) (.tmp 16) rfl (w.heap.size + 1) (evA ⟨xg, xk, xo, xa⟩) rfl rfl _ _ z2 (evA_info _) rfl (evA_one _) ?_
      have y2 := (setRow_other ((w.drew.alloc (.cells evZ 47)).alloc (.cells evZ 47)) (w.heap.size + 1) (w.heap.size) (evA ⟨xg, xk, xo, xa⟩) (by omega)).trans z1
      refine hK1.out _ _ (fun _ => bel_row B2.out (by omega) _) (fun _ => ?_)
      clear hK1 K1
      refine Tr 11 (fun K1 hK1 => ?_)
      rw [if_pos (by rfl)]
      refine wp_store_row 47 (.tmp 10) (.tmp 20) rfl (w.heap.size) (evA ⟨yg, yk, yo, ya⟩) rfl rfl _ _ y2 (evA_info _) rfl (evA_one _) ?_
      refine hK1.out _ _ (fun _ => bel_row (bel_row B2.out (by omega) _) (by omega) _) (fun _ => ?_)
      clear hK1 K1
      refine T_done (by kernel_rfl) ?_ _
      simp only [Act.put, SA]
      go_wp2_with fail
      go_meet
      case rel => exact ⟨_, _, rfl, rfl, hide F.out⟩
  case rest =>
    obtain ⟨b, c, rfl, rfl, hX⟩ := hcut
    clear KS
    have WI := hide (fun wz (hz : Below w.heap.size w wz) => which_any (HT.out.bel hz) i hi hn)
    have WJ := hide (fun wz (hz : Below w.heap.size w wz) => which_any (HT.out.bel hz) j hj hn)
    have NT := hide (fun wz (hz : Below w.heap.size w wz) => nth_any (HT.out.bel hz) hn 5 xo (whM T i) (by have := cntE_self T (kOf T i) (oOf T i) i; unfold whM; omega))
    have BK : Hid (backB T i yg = (decide (0 ≤ nthM T 5 xo (whM T i)) && decide (nthM T 5 xo (whM T i) < i) && decide ((T.getD (nthM T 5 xo (whM T i)).toNat zE).g = yg))) := hide (by unfold backB; rw [show oOf T i = xo by unfold oOf; rw [← HX.out]])
    have NB : Hid (nthM T 5 xo (whM T i) = -1 ∨ ∃ q : Nat, q < T.length ∧ nthM T 5 xo (whM T i) = q) := hide (by
      rcases nthF_out T 5 xo (whM T i) T.length (Nat.le_refl _) with h | ⟨q, h1, h2, _⟩
      · exact .inl h.1
      · exact .inr ⟨q, h1, h2⟩)
    have WB : Hid (whM T i ≤ 100000 ∧ whM T j ≤ 100000) := hide (by
      have h1 := cntE_self T (kOf T i) (oOf T i) i
      have h2 := cntE_self T (kOf T j) (oOf T j) j
      unfold whM
      omega)
    generalize nthM T 5 xo (whM T i) = nt at *
    generalize backB T i yg = bk at *
    generalize whM T i = wi at *
    generalize whM T j = wj at *
    have z0 := blk_cell hX.out.p 0 _ rfl
    have z1 := blk_cell hX.out.p 1 _ rfl
    have z2 := blk_cell hX.out.p 2 _ rfl
    have y0 := blk_cell hX.out.q 0 _ rfl
    go_upto_region 2 with fail
    go_cut [37] from 13 (fun x37 wz => x37 = .bool (decide (xg = yg) || (decide (xk = 10) && decide (xo = yg))) ∧ wz = wc)
    case first =>
      by_cases c1 : xg = yg
      · subst c1
        go_wp2_with fail
        go_meet
        case rel => exact ⟨by simp, rfl⟩
      · have e1 : (xg == yg) = false := by simpa using c1
        by_cases c2 : xk = 10
        · subst c2
          go_wp2_with fail
          go_meet
          case rel => exact ⟨by rw [decide_eq_false c1, beqI]; simp, rfl⟩
        · have e2 : (xk == 10) = false := by simpa using c2
          go_wp2_with fail
          go_meet
          case rel => exact ⟨by rw [decide_eq_false c1, decide_eq_false c2]; simp, rfl⟩
    case rest =>
      obtain ⟨rfl, rfl⟩ := hcut
      unfold dirX at HD
      generalize (decide (xg = yg) || (decide (xk = 10) && decide (xo = yg))) = p1 at *
      cases p1 with
      | true =>
        have E : Hid (res = true) := hide (by rw [HD.out]; simp)
        have B1 := hide hX.out.bel
        clear hX z0 z1 z2 y0
        go_wp2_with fail
        go_ret
        rw [E.out]
        exact ⟨rfl, B1.out⟩
      | false =>
        go_upto_region 5 with fail
        go_cut [55] from 38 (fun x55 wz => x55 = .bool (decide (0 ≤ xo) && decide (xo < R.length) && decide (0 < R.getD xo.toNat 0)) ∧ wz = wc)
        case first =>
          by_cases c1 : 0 ≤ xo
          · obtain ⟨o, rfl⟩ : ∃ o : Nat, xo = o := ⟨xo.toNat, by omega⟩
            by_cases c2 : o < R.length
            · have c2' : (o : Int) < (R.length : Int) := by omega
              obtain ⟨bR, oR, rfl, hbR, r0⟩ := (HR.out.bel hX.out.bel).at o c2
              go_wp2_with fail
              go_meet
              case rel => exact ⟨by simp [c2], rfl⟩
            · have c2' : ¬ (o : Int) < (R.length : Int) := by omega
              go_wp2_with fail
              go_meet
              case rel => exact ⟨by simp; intro h; omega, rfl⟩
          · go_wp2_with fail
            go_meet
            case rel => exact ⟨by simp; intro h; omega, rfl⟩
        case rest =>
          obtain ⟨rfl, rfl⟩ := hcut
          go_upto_if 55 with fail
          go_cut [11] from 13 (fun x11 wz => x11 = .int .i64 (roomM R xo) ∧ wz = wc)
          case first =>
            by_cases c1 : 0 ≤ xo
            · obtain ⟨o, rfl⟩ : ∃ o : Nat, xo = o := ⟨xo.toNat, by omega⟩
              by_cases c2 : o < R.length
              · have c2' : (o : Int) < (R.length : Int) := by omega
                obtain ⟨bR, oR, rfl, hbR, r0⟩ := (HR.out.bel hX.out.bel).at o c2
                by_cases c3 : 0 < R.getD o 0
                · have c3' : (decide (0 ≤ (o : Int)) && decide ((o : Int) < (R.length : Int)) && decide (0 < R.getD (o : Int).toNat 0)) = true := by
                    rw [Bool.and_eq_true, Bool.and_eq_true]
                    exact ⟨⟨decide_eq_true (by omega), decide_eq_true c2'⟩, decide_eq_true (by rw [Int.toNat_natCast]; exact c3)⟩
                  have E : roomM R (o : Nat) = R.getD o 0 := by unfold roomM; rw [if_neg (by omega), Int.toNat_natCast]; omega
                  rw [c3']
                  go_wp2_with fail
                  go_meet
                  case rel => exact ⟨by rw [E]; simp [List.getElem?_eq_getElem c2], rfl⟩
                · have c3' : (decide (0 ≤ (o : Int)) && decide ((o : Int) < (R.length : Int)) && decide (0 < R.getD (o : Int).toNat 0)) = false := by rw [decide_eq_false (show ¬ 0 < R.getD (o : Int).toNat 0 from by rw [Int.toNat_natCast]; exact c3), Bool.and_false]
                  have E : roomM R (o : Nat) = 0 := by unfold roomM; rw [if_neg (by omega), Int.toNat_natCast]; omega
                  rw [c3']
                  go_wp2_with fail
                  go_meet
                  case rel => exact ⟨by rw [E], rfl⟩
              · have c3' : (decide (0 ≤ (o : Int)) && decide ((o : Int) < (R.length : Int)) && decide (0 < R.getD (o : Int).toNat 0)) = false := by rw [decide_eq_false (show ¬ (o : Int) < (R.length : Int) from by omega), Bool.and_false, Bool.false_and]
                have E : roomM R (o : Nat) = 0 := by unfold roomM; rw [if_pos (by omega)]
                rw [c3']
                go_wp2_with fail
                go_meet
                case rel => exact ⟨by rw [E], rfl⟩
            · have E : roomM R xo = 0 := by unfold roomM; rw [if_pos (by omega)]
              have c3' : (decide (0 ≤ xo) && decide (xo < R.length) && decide (0 < R.getD xo.toNat 0)) = false := by rw [decide_eq_false c1, Bool.false_and, Bool.false_and]
              rw [c3']
              go_wp2_with fail
              go_meet
              case rel => exact ⟨by rw [E], rfl⟩
          case rest =>
            obtain ⟨rfl, rfl⟩ := hcut
            have RM : Hid (0 ≤ roomM R xo) := hide (by unfold roomM; split <;> omega)
            generalize roomM R xo = rm at *
            go_upto_region 7 with fail
            go_cut [67] from 38 (fun x67 wz => x67 = .bool (decide (xk = 6) && decide (rm = 0)) ∧ wz = wc)
            case first =>
              by_cases c1 : xk = 6
              · subst c1
                go_wp2_with fail
                go_meet
                case rel => exact ⟨by rw [beqI]; simp, rfl⟩
              · have e1 : (xk == 6) = false := by simpa using c1
                go_wp2_with fail
                go_meet
                case rel => exact ⟨by simp [c1], rfl⟩
            case rest =>
              obtain ⟨rfl, rfl⟩ := hcut
              go_upto_if 67 with fail
              go_cut [] from 12 (fun wz => Hid (Bx w wz b c ⟨xg, xk, xo, xa⟩ ⟨yg, yk, yo, ya⟩) ∧ Hid ((decide (xk = 6) && decide (rm = 0) && bk) = false))
              case first =>
                cases p7 : (decide (xk = 6) && decide (rm = 0)) with
                | false =>
                  go_wp2_with fail
                  go_meet
                  case rel => exact ⟨hX, hide (by rw [p7, Bool.false_and])⟩
                | true =>
                  rw [p7] at HD
                  go_upto_region 8 with fail
                  refine wp_region_T (S := fun wz => Bx w wz b c ⟨xg, xk, xo, xa⟩ ⟨yg, yk, yo, ya⟩) (fun _ => true) mixed (hX.out.below (Below.refl _ _).drew) (fun hH => ?_)
                  refine Tm 0 ?_
                  simp only [Act.put, SA]
                  refine Tm 1 ?_
                  simp only [Act.put, SA]
                  refine Tl 2 (v := .int .i64 xo) ?_ hH ?_
                  · (intro wy hSw; have q := blk_cell hSw.p 2 _ rfl; clear hSw; go_simp <;> with_reducible rfl)
                  simp only [Act.put, SA]
                  refine Tm 3 ?_
                  simp only [Act.put, SA]
                  refine Tm 4 ?_
                  simp only [Act.put, SA]
                  refine Tr 5 (fun K1 hK1 => ?_)
                  go_simp
                  refine (WI.out _ hH.bel).mono ?_
                  rintro e w3 ⟨rfl, b3⟩
                  have X3 := hide (hH.below b3)
                  refine hK1.out _ _ (fun _ => X3.out) (fun _ => ?_)
                  clear hK1 K1 b3 hH
                  refine Tr 6 (fun K1 hK1 => ?_)
                  go_simp
                  refine (NT.out _ X3.out.bel).mono ?_
                  rintro e w4 ⟨rfl, b4⟩
                  have X4 := hide (X3.out.below b4)
                  refine hK1.out _ _ (fun _ => X4.out) (fun _ => ?_)
                  clear hK1 K1 b4 X3
                  refine Tm 7 ?_
                  simp only [Act.put, SA]
                  refine T_done (by kernel_rfl) ?_ _
                  have v0 := blk_cell X4.out.q 0 _ rfl
                  clear z0 z1 z2 y0 hX
                  have hi2 : (i : Int) < (T.length : Int) := by omega
                  rcases NB.out with e | ⟨q, hq, e⟩
                  · have E : Hid (bk = false) := hide (by rw [BK.out, e]; rfl)
                    subst e
                    clear BK NB NT
                    go_upto_region 9 with fail
                    go_quiet (fail)
                    have X5 := hide (X4.out.below (below_drewN (Below.refl _ w4) nq))
                    go_wp2_with fail
                    go_meet
                    case rel => exact ⟨X5, hide (by rw [E.out, Bool.and_false])⟩
                  · subst e
                    by_cases c1 : q < i
                    · have c1' : (q : Int) < (i : Int) := by omega
                      obtain ⟨bq, oq, eq, _, q0, _, _, _⟩ := (HT.out.bel X4.out.bel).at q hq
                      injection eq with eq
                      injection eq with eq1 eq2 _
                      subst eq1 eq2
                      have hqT : (q : Int) < (T.length : Int) := by omega
                      have E : Hid (bk = decide ((T.getD q zE).g = yg)) := hide (by rw [BK.out, Int.toNat_natCast, decide_eq_true c1', decide_eq_true (show (0 : Int) ≤ (q : Int) by omega)]; simp)
                      generalize (T.getD q zE).g = qg at *
                      by_cases c2 : qg = yg
                      · subst c2
                        have E2 : Hid (res = true) := hide (by rw [HD.out, E.out]; simp)
                        have B1 := hide X4.out.bel
                        clear BK NB NT
                        go_upto_region 9 with fail
                        go_quiet (fail)
                        have B2 := hide (below_drewN B1.out nq)
                        go_wp2_with fail
                        go_ret
                        rw [E2.out]
                        exact ⟨rfl, B2.out⟩
                      · have E : Hid (bk = false) := hide (by rw [E.out]; simpa using c2)
                        have e2 : (qg == yg) = false := by simpa using c2
                        clear BK NB NT
                        go_upto_region 9 with fail
                        go_quiet (fail)
                        have X5 := hide (X4.out.below (below_drewN (Below.refl _ w4) nq))
                        go_wp2_with fail
                        go_meet
                        case rel => exact ⟨X5, hide (by rw [E.out, Bool.and_false])⟩
                    · have c1' : ¬ (q : Int) < (i : Int) := by omega
                      have E : Hid (bk = false) := hide (by rw [BK.out, decide_eq_false c1', Bool.and_false, Bool.false_and])
                      clear BK NB NT
                      go_upto_region 9 with fail
                      go_quiet (fail)
                      have X5 := hide (X4.out.below (below_drewN (Below.refl _ w4) nq))
                      go_wp2_with fail
                      go_meet
                      case rel => exact ⟨X5, hide (by rw [E.out, Bool.and_false])⟩
              case rest =>
                obtain ⟨hX, hK⟩ := hcut
                clear z0 z1 z2 y0 BK NB NT HR
                rw [hK.out] at HD
                have z1 := blk_cell hX.out.p 1 _ rfl
                have z2 := blk_cell hX.out.p 2 _ rfl
                have y1 := blk_cell hX.out.q 1 _ rfl
                have y2 := blk_cell hX.out.q 2 _ rfl
                by_cases co : xo = yo
                · subst co
                  go_upto_region 13 with fail
                  go_cut [97] from 98 (fun x97 wz => x97 = .bool (decide (xk = 4) && decide (yk = 3)) ∧ wz = wc)
                  case first =>
                    by_cases c1 : xk = 4
                    · subst c1
                      go_wp2_with fail
                      go_meet
                      case rel => exact ⟨by rw [beqI]; simp, rfl⟩
                    · have e1 : (xk == 4) = false := by simpa using c1
                      go_wp2_with fail
                      go_meet
                      case rel => exact ⟨by simp [c1], rfl⟩
                  case rest =>
                    obtain ⟨rfl, rfl⟩ := hcut
                    go_upto_if 97 with fail
                    go_cut [97] from 98 (fun x97 wz => x97 = .bool ((decide (xk = 4) && decide (yk = 3)) || (atB xk && atB yk)) ∧ wz = wc)
                    case first =>
                      cases p8 : (decide (xk = 4) && decide (yk = 3)) with
                      | true =>
                        go_wp2_with fail
                        go_meet
                        case rel => exact ⟨by rw [p8]; simp, rfl⟩
                      | false =>
                        have A1 := hide (fun wz => atomic_any xk wz)
                        have A2 := hide (fun wz => atomic_any yk wz)
                        generalize hA : atB xk = a1 at *
                        generalize hB : atB yk = a2 at *
                        cases a1 with
                        | false =>
                          go_wp2_with fail
                          refine (A1.out _).mono ?_
                          rintro e w' ⟨rfl, rfl⟩
                          go_wp2_with fail
                          go_meet
                          case rel => exact ⟨by rw [p8]; simp, rfl⟩
                        | true =>
                          go_wp2_with fail
                          refine (A1.out _).mono ?_
                          rintro e w' ⟨rfl, rfl⟩
                          go_wp2_with fail
                          refine (A2.out _).mono ?_
                          rintro e w' ⟨rfl, rfl⟩
                          go_wp2_with fail
                          go_meet
                          case rel => exact ⟨by rw [p8]; simp, rfl⟩
                    case rest =>
                      obtain ⟨rfl, rfl⟩ := hcut
                      generalize ((decide (xk = 4) && decide (yk = 3)) || (atB xk && atB yk)) = p9 at *
                      cases p9 with
                      | true =>
                        have E : Hid (res = true) := hide (by rw [HD.out]; simp)
                        have B1 := hide hX.out.bel
                        clear hX z1 z2 y1 y2
                        go_wp2_with fail
                        go_ret
                        rw [E.out]
                        exact ⟨rfl, B1.out⟩
                      | false =>
                        by_cases c5 : xk = 5
                        · subst c5
                          by_cases c6 : yk = 6
                          · subst c6
                            have E : Hid (res = decide (wi = wj)) := hide (by rw [HD.out]; simp)
                            go_wp2_with fail
                            refine (WI.out _ hX.out.bel).mono ?_
                            rintro e w3 ⟨rfl, b3⟩
                            have X3 := hide (hX.out.below b3)
                            clear b3 hX z1 z2 y1 y2
                            go_wp2_with fail
                            refine (WJ.out _ X3.out.bel).mono ?_
                            rintro e w4 ⟨rfl, b4⟩
                            have X4 := hide (X3.out.below b4)
                            clear b4 X3
                            go_wp2_with fail
                            go_ret
                            rw [E.out]
                            refine ⟨?_, X4.out.bel⟩
                            by_cases h : wi = wj
                            · simp [h]
                            · simp [h]
                              omega
                          · have e6 : (yk == 6) = false := by simpa using c6
                            have E : Hid (res = false) := hide (by rw [HD.out]; simp [c6])
                            have B1 := hide hX.out.bel
                            clear hX
                            go_wp2_with fail
                            go_ret
                            rw [E.out]
                            exact ⟨rfl, B1.out⟩
                        · have e5 : (xk == 5) = false := by simpa using c5
                          by_cases c6 : xk = 6
                          · subst c6
                            by_cases c7 : yk = 5
                            · subst c7
                              by_cases c8 : 0 < rm
                              · by_cases c9 : rm ≤ (wj : Int)
                                · have E : Hid (res = decide ((wj : Int) - rm = wi)) := hide (by rw [HD.out]; simp [c8, c9])
                                  have w8 := WB.out
                                  go_wp2_with fail
                                  refine (WJ.out _ hX.out.bel).mono ?_
                                  rintro e w3 ⟨rfl, b3⟩
                                  have X3 := hide (hX.out.below b3)
                                  clear b3 hX z1 z2 y1 y2
                                  go_wp2_with fail
                                  refine (WJ.out _ X3.out.bel).mono ?_
                                  rintro e w4 ⟨rfl, b4⟩
                                  have X4 := hide (X3.out.below b4)
                                  clear b4 X3
                                  go_wp2_with fail
                                  refine (WI.out _ X4.out.bel).mono ?_
                                  rintro e w5 ⟨rfl, b5⟩
                                  have X5 := hide (X4.out.below b5)
                                  clear b5 X4
                                  go_wp2_with fail
                                  go_ret
                                  rw [E.out]
                                  exact ⟨by first | rfl | simp [beqI], X5.out.bel⟩
                                · have E : Hid (res = false) := hide (by rw [HD.out]; simp [c9])
                                  go_wp2_with fail
                                  refine (WJ.out _ hX.out.bel).mono ?_
                                  rintro e w3 ⟨rfl, b3⟩
                                  have X3 := hide (hX.out.below b3)
                                  clear b3 hX z1 z2 y1 y2
                                  go_wp2_with fail
                                  go_ret
                                  rw [E.out]
                                  exact ⟨rfl, X3.out.bel⟩
                              · have E : Hid (res = false) := hide (by rw [HD.out]; simp [c8])
                                have B1 := hide hX.out.bel
                                clear hX
                                go_wp2_with fail
                                go_ret
                                rw [E.out]
                                exact ⟨rfl, B1.out⟩
                            · have e7 : (yk == 5) = false := by simpa using c7
                              have E : Hid (res = false) := hide (by rw [HD.out]; simp [c7])
                              have B1 := hide hX.out.bel
                              clear hX
                              go_wp2_with fail
                              go_ret
                              rw [E.out]
                              exact ⟨rfl, B1.out⟩
                          · have e6 : (xk == 6) = false := by simpa using c6
                            have E : Hid (res = false) := hide (by rw [HD.out]; simp [c5, c6])
                            have B1 := hide hX.out.bel
                            clear hX
                            go_wp2_with fail
                            go_ret
                            rw [E.out]
                            exact ⟨rfl, B1.out⟩
                · have eo : (xo != yo) = true := by simpa using co
                  have E : Hid (res = false) := hide (by rw [HD.out]; simp [co])
                  have B1 := hide hX.out.bel
                  clear hX
                  go_wp2_with fail
                  go_ret
                  rw [E.out]
                  exact ⟨rfl, B1.out⟩
end Go.Proofs.YticgmebbnnmikaaDoor.Ck
