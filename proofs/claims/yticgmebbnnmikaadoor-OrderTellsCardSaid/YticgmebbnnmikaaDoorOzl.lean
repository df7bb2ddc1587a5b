/- The statement OrderCuts. -/
import Derived.Test.YticgmebbnnmikaaDoorOqe
import Derived.Test.YticgmebbnnmikaaDoorOzg
import Derived.Test.YticgmebbnnmikaaDoorOzj
import Derived.Test.YticgmebbnnmikaaDoorOzk

import Derived.Test.YticgmebbnnmikaaDoorOx
import Derived.Deep.QuietTactic
import Derived.BigQuiet
namespace Go.Proofs.YticgmebbnnmikaaDoor.Ck
open Go.RowKit

theorem modN (A : Int) {n : Nat} (h : 0 < n) (hn : n ≤ 1000) : ∃ a : Nat, a < n ∧ wrap64 ((IntKind.u64.wrap A).tmod n) = (a : Nat) := by
  have h0 : 0 ≤ IntKind.u64.wrap A := by rw [IntKind.wrap_u64]; omega
  rw [Int.tmod_eq_emod_of_nonneg h0]
  have h1 := Int.emod_nonneg (IntKind.u64.wrap A) (show (n : Int) ≠ 0 by omega)
  have h2 := Int.emod_lt_of_pos (IntKind.u64.wrap A) (show (0 : Int) < n by omega)
  generalize IntKind.u64.wrap A % (n : Int) = x at *
  refine ⟨x.toNat, by omega, ?_⟩
  unfold wrap64
  omega
set_option maxRecDepth 20000 in
set_option maxHeartbeats 2000000 in
theorem within_any {w : World} {vA vB : Value} {A B : List Rc} (hA : SlR w vA A) (hB : SlR w vB B) (hnA : A.length ≤ 100000) (hnB : B.length ≤ 100000) (hw : ∀ x ∈ A, x ∈ B) : Calls Tryd.prog 19 #[vA, vB] w (Vb w (.bool true)) := by
  obtain ⟨aA, cA, rfl, _, _⟩ := hA.form
  obtain ⟨aB, cB, rfl, _, _⟩ := hB.form
  have HA := hide hA
  have HB := hide hB
  have HW := hide hw
  clear hA hB hw
  go_enter Tryd.func19, Tryd.ntmps19
  go_wp2_with fail
  go_loopw [12] (fun x12 wr => ∃ k : Nat, k ≤ A.length ∧ x12 = .int .i64 (k : Nat) ∧ Hid (Below w.heap.size w wr)) (fun x12 _ => A.length - (intOf x12).toNat)
  case atStart => exact ⟨0, Nat.zero_le _, rfl, hide (Below.refl _ _)⟩
  case round =>
    obtain ⟨k, hk, rfl, hI⟩ := hrel
    by_cases hlt : k < A.length
    · have hlt' : (k : Int) < (A.length : Int) := by omega
      obtain ⟨b, off, rfl, hb, t0, t1, t2, t3, t4⟩ := (HA.out.bel hI.out).at k hlt
      have XB := hide (HW.out _ (show A.getD k ⟨0, 0, 0, false, false⟩ ∈ A by rw [List.getD_eq_getElem?_getD, List.getElem?_eq_getElem hlt]; exact List.getElem_mem _))
      obtain ⟨x, hx⟩ : ∃ q, q = A.getD k ⟨0, 0, 0, false, false⟩ := ⟨_, rfl⟩
      rw [← hx] at t0 t1 t2 t3 t4 XB
      obtain ⟨xp, xf, xs, xfw, xsw⟩ := x
      simp only at t0 t1 t2 t3 t4
      clear hx
      have B1 := hide (hI.out.trans ((bel_new wr (.cells #[.int .i64 xp, .int .i64 xf, .int .i64 xs, .bool xfw, .bool xsw] 54)).mono hI.out.size))
      have X1 := hide (Go.Deep.blk_alloc_new wr (.cells #[.int .i64 xp, .int .i64 xf, .int .i64 xs, .bool xfw, .bool xsw] 54))
      go_upto_region 5 with fail
      generalize wr.alloc (.cells #[.int .i64 xp, .int .i64 xf, .int .i64 xs, .bool xfw, .bool xsw] 54) = w1 at *
      clear t0 t1 t2 t3 t4 hb
      obtain ⟨bx, hbx⟩ : ∃ q, q = wr.heap.size := ⟨_, rfl⟩
      rw [← hbx] at X1 ⊢
      clear hbx hI
      go_wp2_with fail
      go_loopw [7, 18] (fun x7 x18 wz => ∃ (m : Nat) (f : Bool), m ≤ B.length ∧ x7 = .bool f ∧ x18 = .int .i64 (m : Nat) ∧ Hid (Below w.heap.size w wz ∧ wz.heap[bx]? = some (.cells #[.int .i64 xp, .int .i64 xf, .int .i64 xs, .bool xfw, .bool xsw] 54 (0, 0))) ∧ Hid (f = false → ∀ i, i < m → B.getD i ⟨0, 0, 0, false, false⟩ ≠ ⟨xp, xf, xs, xfw, xsw⟩)) (fun _ x18 _ => B.length - (intOf x18).toNat)
      case atStart => exact ⟨0, false, Nat.zero_le _, rfl, rfl, hide ⟨B1.out, X1.out⟩, hide (fun _ i hi => absurd hi (Nat.not_lt_zero _))⟩
      case round =>
        clear B1 X1
        obtain ⟨m, f, hm, rfl, rfl, hZ, hF⟩ := hrel
        by_cases hmt : m < B.length
        · have hmt' : (m : Int) < (B.length : Int) := by omega
          obtain ⟨b, off, rfl, hb, t0, t1, t2, t3, t4⟩ := (HB.out.bel hZ.out.1).at m hmt
          have NF := hF
          obtain ⟨y, hy⟩ : ∃ q, q = B.getD m ⟨0, 0, 0, false, false⟩ := ⟨_, rfl⟩
          have HY := hide hy
          rw [← hy] at t0 t1 t2 t3 t4
          obtain ⟨yp, yf, ys, yfw, ysw⟩ := y
          simp only at t0 t1 t2 t3 t4
          clear hy hF
          have B2 := hide (bel_al hZ.out.1 (.cells #[.int .i64 yp, .int .i64 yf, .int .i64 ys, .bool yfw, .bool ysw] 54))
          have X2 := hide (((bel_new wr (.cells #[.int .i64 yp, .int .i64 yf, .int .i64 ys, .bool yfw, .bool ysw] 54)).block _ (lt_of_blk hZ.out.2)).trans hZ.out.2)
          have Y2 := hide (Go.Deep.blk_alloc_new wr (.cells #[.int .i64 yp, .int .i64 yf, .int .i64 ys, .bool yfw, .bool ysw] 54))
          go_upto_region 8 with fail
          generalize wr.alloc (.cells #[.int .i64 yp, .int .i64 yf, .int .i64 ys, .bool yfw, .bool ysw] 54) = w2 at *
          clear t0 t1 t2 t3 t4 hb hZ
          obtain ⟨bY, hbY⟩ : ∃ q, q = wr.heap.size := ⟨_, rfl⟩
          rw [← hbY] at Y2 ⊢
          clear hbY
          cases f with
          | true =>
            go_wp2_with fail
            go_roundw
            case rel => exact ⟨m + 1, true, by omega, rfl, by go_num, hide ⟨B2.out, X2.out⟩, hide (fun h => by cases h)⟩
            case measure => simp [intOf]; omega
          | false =>
            have x0 := blk_cell X2.out 0 _ rfl
            have x1 := blk_cell X2.out 1 _ rfl
            have x2 := blk_cell X2.out 2 _ rfl
            have x3 := blk_cell X2.out 3 _ rfl
            have x4 := blk_cell X2.out 4 _ rfl
            have y0 := blk_cell Y2.out 0 _ rfl
            have y1 := blk_cell Y2.out 1 _ rfl
            have y2 := blk_cell Y2.out 2 _ rfl
            have y3 := blk_cell Y2.out 3 _ rfl
            have y4 := blk_cell Y2.out 4 _ rfl
            have EQ := fun w => eql_rc w xp xf xs yp yf ys xfw xsw yfw ysw
            have SE := hide (fun (h : (xp == yp && (xf == yf && (xs == ys && (xfw == yfw && xsw == ysw)))) = false) i (hi : i < m + 1) (he : B.getD i ⟨0, 0, 0, false, false⟩ = ⟨xp, xf, xs, xfw, xsw⟩) => show False from by
              by_cases e : i = m
              · rw [e, ← HY.out] at he
                injection he with h1 h2 h3 h4 h5
                rw [h1, h2, h3, h4, h5] at h
                simp at h
              · exact NF.out rfl i (by omega) he)
            generalize (xp == yp && (xf == yf && (xs == ys && (xfw == yfw && xsw == ysw)))) = q at *
            go_wp2_with fail
            go_roundw
            case rel => exact ⟨m + 1, q, by omega, rfl, by go_num, hide ⟨B2.out, X2.out⟩, hide (fun h i hi he => SE.out h i hi he)⟩
            case measure => simp [intOf]; omega
        · obtain rfl : m = B.length := by omega
          have F1 : Hid (f = true) := hide (by
            cases f with
            | true => rfl
            | false =>
              obtain ⟨i, hi, e⟩ := List.mem_iff_getElem.1 XB.out
              refine absurd ?_ (hF.out rfl i hi)
              rw [List.getD_eq_getElem?_getD, List.getElem?_eq_getElem hi]
              exact e)
          have B2 := hide hZ.out.1
          obtain rfl : f = true := F1.out
          clear hZ hF F1 XB HB HA
          go_wp2_with fail
          go_roundw
          case rel => exact ⟨k + 1, by omega, by go_num, B2⟩
          case measure => simp [intOf]; omega
    · obtain rfl : k = A.length := by omega
      have B1 := hide hI.out
      clear hI HA HB HW
      go_wp2_with fail
      go_ret
      exact ⟨rfl, B1.out⟩
theorem know_bd {T : List Ev} (R : List Int) (hF : formT T = true) (hn : T.length ≤ 100000) : ∀ a, a < T.length → ∀ g, g < 8 → knowM R T a g ≤ 1000000 := fun a ha g hg => by
  have I := walk_iv (R := R) hF (by omega) T.length (Nat.le_refl _)
  have h1 := (I.past a ha).le g hg
  have h2 := I.bd g hg
  unfold knowM
  omega
theorem take_form {T : List Ev} (hF : formT T = true) (n : Nat) : formT (T.take n) = true := by
  rw [form_mem] at hF ⊢
  exact fun e he => hF e (List.mem_of_mem_take he)
theorem take_obj {T : List Ev} (hW : ∀ k, k < T.length → wfI (T.getD k zE).o) (n : Nat) : ∀ k, k < (T.take n).length → wfI ((T.take n).getD k zE).o := fun k hk => by
  rw [List.length_take] at hk
  rw [takeE T n k (by omega)]
  exact hW k (by omega)
theorem clk_at (ps : List Sn) (i : Nat) (hi : i < ps.length) : (clkM ps).getD i [] = clM (ps.getD i sn0) := by
  simp [clkM, List.getD, hi]
theorem clM_le (s : Sn) : (clM s).length ≤ 8 := by
  rw [clM_len]
  exact tl_le _ _
set_option maxRecDepth 20000 in
set_option maxHeartbeats 2000000 in
theorem clocks_bad {w : World} {vT vR x : Value} {t : TypeId} {T : List Ev} (hT : SlE w vT T) (hE : Er w (.iface t x)) (hF : formT T = false) (hn : T.length ≤ 100000) : Calls Tryd.prog 7 #[vT, vR] w (Vb w (.tuple #[.slice none 0 0, .iface t x])) := by
  have CK := hide (check_any hT hE hn)
  rw [hF, show erF (.iface t x) false = .iface t x from rfl] at CK
  clear hT hE hF
  go_enter Tryd.func7, Tryd.ntmps7
  go_wp2_with fail
  refine CK.out.mono ?_
  rintro e w1 ⟨rfl, b1⟩
  have B1 := hide b1
  clear b1 CK
  go_wp2_with fail
  go_ret2
  exact ⟨rfl, B1.out⟩
set_option maxRecDepth 20000 in
set_option maxHeartbeats 8000000 in
theorem cuts_main {w : World} {vT vR x : Value} {t : TypeId} {T : List Ev} {R : List Int} {C : Int} (hE : Er w (.iface t x)) (hT : SlE w vT T) (hR : Sl w vR R) (hW : ∀ k, k < T.length → wfI (T.getD k zE).o) : Calls Tryd.prog 5 #[vT, vR, .int .i64 C] w (Vb w (.bool true)) := by
  obtain ⟨aT, cT, rfl, hcT, hcT2⟩ := hT.form
  obtain ⟨aR, cR, rfl, hcR, _⟩ := hR.form
  have AL := hide (alive18_any hE)
  have HE := hide hE
  have HT := hide hT
  have HR := hide hR
  have HW := hide hW
  clear hE hT hR hW
  go_enter Tryd.func5, Tryd.ntmps5
  go_wp2_with fail
  refine AL.out.mono ?_
  rintro e w1 ⟨rfl, b1⟩
  have B1 := hide b1
  clear b1 AL
  by_cases h2 : 100 < T.length
  · have h2' : (100 : Int) < (T.length : Int) := by omega
    go_wp2_with fail
    go_ret
    exact ⟨rfl, B1.out⟩
  have h2' : ¬ (100 : Int) < (T.length : Int) := by omega
  by_cases h3 : 100 < R.length
  · have h3' : (100 : Int) < (R.length : Int) := by omega
    go_wp2_with fail
    go_ret
    exact ⟨rfl, B1.out⟩
  have h3' : ¬ (100 : Int) < (R.length : Int) := by omega
  go_upto_region 6 with fail
  obtain ⟨n, hn, ea⟩ := modN C (show 0 < T.length + 1 by omega) (by omega)
  rw [show ((T.length + 1 : Nat) : Int) = (T.length : Int) + 1 by omega] at ea
  rw [ea]
  clear ea
  cases hF : formT T with
  | false =>
    have CB := hide (clocks_bad (vR := .slice aR R.length cR) (HT.out.bel B1.out) (HE.out.bel B1.out) hF (by omega))
    go_wp2_with (first | (go_at_call 7; refine CB.out.mono ?_; rintro e w2 ⟨rfl, b2⟩; have B2 := hide (bel_trans B1.out b2); have FM := hide (rform18_any (HT.out.bel B2.out) (by omega)); rw [hF] at FM; clear b2) | (go_at_call 10; refine FM.out.mono ?_; rintro e w3 ⟨rfl, b3⟩; have B3 := hide (bel_trans B2.out b3); clear b3))
    go_ret
    exact ⟨rfl, B3.out⟩
  | true =>
    have HF := hide hF
    have hnT : n ≤ T.length := by omega
    have L1 : (T.take n).length = n := by rw [List.length_take]; omega
    have C1 := hide (clocks_any (HT.out.bel B1.out) (HR.out.bel B1.out) (HE.out.bel B1.out) hF HW.out (by omega) (know_bd R hF (by omega)))
    have C2 := hide (fun wz (hz : Below w.heap.size w wz) => clocks_any ((HT.out.bel hz).take n hnT) (HR.out.bel hz) (HE.out.bel hz) (take_form hF n) (take_obj HW.out n) (by omega) (know_bd R (take_form hF n) (by omega)))
    have R1 := hide (fun wz (hz : Below w.heap.size w wz) => races_any (HT.out.bel hz) (HR.out.bel hz) (HE.out.bel hz) hF HW.out (by omega))
    have R2 := hide (fun wz (hz : Below w.heap.size w wz) => races_any ((HT.out.bel hz).take n hnT) (HR.out.bel hz) (HE.out.bel hz) (take_form hF n) (take_obj HW.out n) (by omega))
    have SAME : Hid (∀ i, i < n → (clkM (pastsM R (T.take n))).getD i [] = (clkM (pastsM R T)).getD i [] ∧ ((clkM (pastsM R T)).getD i []).length ≤ 8) := hide (fun i hi => by
      rw [clk_at _ i (by rw [pastsM_len]; omega), clk_at _ i (by rw [pastsM_len]; omega), pasts_cut R T hi hnT]
      exact ⟨rfl, clM_le _⟩)
    have N1 : Hid ((clkM (pastsM R T)).length = T.length) := hide (by simp [clkM, pastsM_len])
    have N2 : Hid ((clkM (pastsM R (T.take n))).length = n) := hide (by simp [clkM, pastsM_len, L1])
    have RC := hide (races_cut R T hnT)
    have RL1 := hide (race_len T (pastsM R T) T.length)
    have RL2 := hide (race_len (T.take n) (pastsM R (T.take n)) (T.take n).length)
    rw [show (raceF T (pastsM R T) T.length).1 = racesM R T from rfl] at RL1
    rw [show (raceF (T.take n) (pastsM R (T.take n)) (T.take n).length).1 = racesM R (T.take n) from rfl, L1] at RL2
    generalize clkM (pastsM R T) = P1 at *
    generalize clkM (pastsM R (T.take n)) = P2 at *
    generalize racesM R T = Q1 at *
    generalize racesM R (T.take n) = Q2 at *
    clear hF HE HT HR HW HF
    go_wp2_with (first | (go_at_call 7; refine C1.out.mono ?_; rintro e w2 ⟨v1, rfl, b2, s1⟩; obtain ⟨a1, c1, e1, _⟩ := s1.form; rw [N1.out] at e1; subst e1; have B2 := hide (bel_trans B1.out b2); have S1 := hide s1; have C2 := hide (C2.out w2 B2.out); clear b2 s1 C1) | (go_at_call 7; refine C2.out.mono ?_; rintro e w3 ⟨v2, rfl, b3, s2⟩; obtain ⟨a2, c2, e2, _⟩ := s2.form; rw [N2.out] at e2; subst e2; have B3 := hide (bel_trans B2.out b3); have S2 := hide s2; have S1 := hide (S1.out.bel b3); clear b3 s2 C2))
    go_loopw [64] (fun x64 wr => ∃ k : Nat, k ≤ n ∧ x64 = .int .i64 (k : Nat) ∧ Hid (Below w3.heap.size w3 wr)) (fun x64 _ => n - (intOf x64).toNat)
    case atStart => exact ⟨0, Nat.zero_le _, rfl, hide (Below.refl _ _)⟩
    case round =>
      obtain ⟨k, hk, rfl, hI⟩ := hrel
      by_cases hlt : k < n
      · have hlt' : (k : Int) < (n : Int) := by omega
        have hkT : (k : Int) < (T.length : Int) := by omega
        obtain ⟨bA, oA, uA, rfl, hbA, cA, sA⟩ := (S1.out.bel hI.out).at k (by rw [N1.out]; omega)
        obtain ⟨bB, oB, uB, rfl, hbB, cB, sB⟩ := (S2.out.bel hI.out).at k (by rw [N2.out]; omega)
        rw [(SAME.out k hlt).1] at sB
        have L8 := (SAME.out k hlt).2
        generalize P1.getD k [] = L at *
        obtain ⟨aA, qA, rfl, _⟩ := sA.form
        obtain ⟨aB, qB, rfl, _⟩ := sB.form
        have SA2 := hide sA
        have SB2 := hide sB
        clear sA sB
        go_upto_region 15 with fail
        go_quiet (fail)
        have D1 := hide (below_drewN (Below.refl wr.heap.size wr) nq)
        have CA := hide (fun wz (hz : Below wr.heap.size wr wz) => (hz.cell (p := ⟨bA, oA + k, none⟩) hbA).trans cA)
        have CB := hide (fun wz (hz : Below wr.heap.size wr wz) => (hz.cell (p := ⟨bB, oB + k, none⟩) hbB).trans cB)
        generalize wr.drewN nq = w8 at *
        clear cA cB
        have cB8 := CB.out _ D1.out
        go_wp2_with fail
        go_loopw [83] (fun x83 wz => ∃ g : Nat, g ≤ L.length ∧ x83 = .int .i64 (g : Nat) ∧ Hid (Below wr.heap.size wr wz)) (fun x83 _ => L.length - (intOf x83).toNat)
        case atStart => exact ⟨0, Nat.zero_le _, rfl, hide D1.out⟩
        case round =>
          clear cB8 D1
          obtain ⟨g, hg, rfl, hZ⟩ := hrel
          by_cases hgl : g < L.length
          · have hgl' : (g : Int) < (L.length : Int) := by omega
            have yA := CA.out _ hZ.out
            have yB := CB.out _ hZ.out
            obtain ⟨bx, ox, rfl, hbx, zA⟩ := (SA2.out.bel hZ.out).at g hgl
            obtain ⟨bv, ov, rfl, hbv, zB⟩ := (SB2.out.bel hZ.out).at g hgl
            go_upto_region 20 with fail
            go_quiet (fail)
            have D2 := hide (below_drewN hZ.out nq)
            go_wp2_with fail
            go_roundw
            case rel => exact ⟨g + 1, by omega, by go_num, D2⟩
            case measure => simp [intOf]; omega
          · obtain rfl : g = L.length := by omega
            have D2 := hide (hI.out.trans (hZ.out.mono hI.out.size))
            clear hZ
            go_wp2_with fail
            go_roundw
            case rel => exact ⟨k + 1, by omega, by go_num, D2⟩
            case measure => simp [intOf]; omega
      · obtain rfl : k = n := by omega
        have B4 := hide (bel_trans B3.out hI.out)
        have R1 := hide (R1.out _ B4.out)
        clear hI S1 S2 SAME N1 N2
        go_wp2_with (first | (go_at_call 15; refine R1.out.mono ?_; rintro e w5 ⟨v1, rfl, b5, l1, ⟨p1, q1⟩, o1⟩; have B5 := hide (bel_trans B4.out b5); have S1 := hide (SlR.own o1); have P1 := hide p1; obtain ⟨a3, c3, rfl, _⟩ := own_slice o1; have R2 := hide (R2.out w5 B5.out); clear b5 o1 p1 q1 R1) | (go_at_call 15; refine R2.out.mono ?_; rintro e w6 ⟨v2, rfl, b6, l2, ⟨p2, q2⟩, o2⟩; have B6 := hide (bel_trans B5.out b6); have S2 := hide (SlR.own o2); have P2 := hide p2; obtain ⟨a4, c4, rfl, _⟩ := own_slice o2; have S1 := hide (S1.out.bel b6); clear b6 o2 p2 q2 R2) | (go_at_call 19; refine (within_any S2.out S1.out (by rw [P2.out.length_eq]; have := RL2.out; omega) (by rw [P1.out.length_eq]; have := RL1.out; omega) (fun x hx => by obtain ⟨l, hl⟩ := RC.out; exact P1.out.mem_iff.2 (by rw [hl]; exact List.mem_append_left _ (P2.out.mem_iff.1 hx)))).mono ?_; rintro e w7 ⟨rfl, b7⟩; have B7 := hide (bel_trans B6.out b7); clear b7))
        go_ret
        exact ⟨rfl, B7.out⟩
end Go.Proofs.YticgmebbnnmikaaDoor.Ck
