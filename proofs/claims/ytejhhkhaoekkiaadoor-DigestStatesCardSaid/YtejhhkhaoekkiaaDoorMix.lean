/- The contract of digest's mix: a block is taken into the words. -/
import Derived.Test.YtejhhkhaoekkiaaDoorSpr
namespace Go.Proofs.YtejhhkhaoekkiaaDoor.Ck
open Go.RowKit

/-- the table of the turns lies in its variable -/
def Tab (w : World) : Prop := 0 < w.heap.size ∧ ∀ i, i < 64 → w.cell? ⟨0, i, none⟩ = some (.int .u32 (kTab.getD i 0))
theorem Tab.bel {w w' : World} (h : Tab w) (hb : Below w.heap.size w w') : Tab w' := ⟨Nat.lt_of_lt_of_le h.1 hb.size, fun i hi => (hb.cell (p := ⟨0, i, none⟩) h.1).trans (h.2 i hi)⟩
theorem Tn.cell {g : Nat} {w w' : World} (h : Tn g w w') (x : Addr) (h1 : x.block < w.heap.size) (h2 : x.block ≠ g) : w'.cell? x = w.cell? x := by
  simp only [World.cell?, h.blk x.block h1 h2]
theorem Tn.frozen {g : Nat} {w w' : World} (h : Tn g w w') (x : Addr) (h1 : x.block < w.heap.size) (h2 : x.block ≠ g) : w'.frozen? x = w.frozen? x := by
  simp only [World.frozen?, h.blk x.block h1 h2]
theorem Tab.tn {g : Nat} {w w' : World} (h : Tab w) (ht : Tn g w w') (hg : g ≠ 0) : Tab w' := ⟨Nat.lt_of_lt_of_le h.1 ht.size, fun i hi => (ht.cell ⟨0, i, none⟩ h.1 (Ne.symm hg)).trans (h.2 i hi)⟩

theorem addK_zero (H V : List Int) (hH : H.length = 8) : addK H V 0 = H := by
  apply List.ext_getElem
  · rw [addK_len, hH]
  · intro i h1 h2
    simp [addK, List.getD, h2]
theorem addK_at (H V : List Int) (k i : Nat) (hi : i < 8) : (addK H V k)[i]? = some (if i < k then (H.getD i 0 + V.getD i 0) % 4294967296 else H.getD i 0) := by
  simp [addK, hi]
theorem addK_set (H V : List Int) (k : Nat) (hk : k < 8) (rest : List Value) :
    (wv (addK H V k) ++ rest).set k (.int .u32 ((H.getD k 0 + V.getD k 0) % 4294967296)) = wv (addK H V (k + 1)) ++ rest := by
  rw [List.set_append_left _ _ (by rw [wv_len, addK_len]; exact hk)]
  congr 1
  apply List.ext_getElem?
  intro i
  rw [List.getElem?_set]
  by_cases hi : i < 8
  · unfold wv
    rw [List.getElem?_map, List.getElem?_map, addK_at H V k i hi, addK_at H V (k + 1) i hi]
    by_cases e : k = i
    · subst e
      rw [if_pos rfl, if_pos (by simp [addK_len]; omega), if_pos (by omega)]
      rfl
    · rw [if_neg e]
      by_cases e2 : i < k
      · rw [if_pos e2, if_pos (by omega)]
      · rw [if_neg e2, if_neg (by omega)]
  · have h1 : (wv (addK H V k))[i]? = none := by rw [List.getElem?_eq_none]; rw [wv_len, addK_len]; omega
    have h2 : (wv (addK H V (k + 1)))[i]? = none := by rw [List.getElem?_eq_none]; rw [wv_len, addK_len]; omega
    rw [if_neg (by omega), h1, h2]

theorem index8_0 (x0 x1 x2 x3 x4 x5 x6 x7 : Int) (w : World) : (Instr.index 53 (.agg #[.int .u32 x0, .int .u32 x1, .int .u32 x2, .int .u32 x3, .int .u32 x4, .int .u32 x5, .int .u32 x6, .int .u32 x7]) (.int .i64 0)).run Tryd.prog w = .ok (.int .u32 x0) w := by kernel_rfl
theorem index8_1 (x0 x1 x2 x3 x4 x5 x6 x7 : Int) (w : World) : (Instr.index 53 (.agg #[.int .u32 x0, .int .u32 x1, .int .u32 x2, .int .u32 x3, .int .u32 x4, .int .u32 x5, .int .u32 x6, .int .u32 x7]) (.int .i64 1)).run Tryd.prog w = .ok (.int .u32 x1) w := by kernel_rfl
theorem index8_2 (x0 x1 x2 x3 x4 x5 x6 x7 : Int) (w : World) : (Instr.index 53 (.agg #[.int .u32 x0, .int .u32 x1, .int .u32 x2, .int .u32 x3, .int .u32 x4, .int .u32 x5, .int .u32 x6, .int .u32 x7]) (.int .i64 2)).run Tryd.prog w = .ok (.int .u32 x2) w := by kernel_rfl
theorem index8_3 (x0 x1 x2 x3 x4 x5 x6 x7 : Int) (w : World) : (Instr.index 53 (.agg #[.int .u32 x0, .int .u32 x1, .int .u32 x2, .int .u32 x3, .int .u32 x4, .int .u32 x5, .int .u32 x6, .int .u32 x7]) (.int .i64 3)).run Tryd.prog w = .ok (.int .u32 x3) w := by kernel_rfl
theorem index8_4 (x0 x1 x2 x3 x4 x5 x6 x7 : Int) (w : World) : (Instr.index 53 (.agg #[.int .u32 x0, .int .u32 x1, .int .u32 x2, .int .u32 x3, .int .u32 x4, .int .u32 x5, .int .u32 x6, .int .u32 x7]) (.int .i64 4)).run Tryd.prog w = .ok (.int .u32 x4) w := by kernel_rfl
theorem index8_5 (x0 x1 x2 x3 x4 x5 x6 x7 : Int) (w : World) : (Instr.index 53 (.agg #[.int .u32 x0, .int .u32 x1, .int .u32 x2, .int .u32 x3, .int .u32 x4, .int .u32 x5, .int .u32 x6, .int .u32 x7]) (.int .i64 5)).run Tryd.prog w = .ok (.int .u32 x5) w := by kernel_rfl
theorem index8_6 (x0 x1 x2 x3 x4 x5 x6 x7 : Int) (w : World) : (Instr.index 53 (.agg #[.int .u32 x0, .int .u32 x1, .int .u32 x2, .int .u32 x3, .int .u32 x4, .int .u32 x5, .int .u32 x6, .int .u32 x7]) (.int .i64 6)).run Tryd.prog w = .ok (.int .u32 x6) w := by kernel_rfl
theorem index8_7 (x0 x1 x2 x3 x4 x5 x6 x7 : Int) (w : World) : (Instr.index 53 (.agg #[.int .u32 x0, .int .u32 x1, .int .u32 x2, .int .u32 x3, .int .u32 x4, .int .u32 x5, .int .u32 x6, .int .u32 x7]) (.int .i64 7)).run Tryd.prog w = .ok (.int .u32 x7) w := by kernel_rfl
theorem index8 (x0 x1 x2 x3 x4 x5 x6 x7 : Int) (k : Nat) (hk : k < 8) (w : World) :
    (Instr.index 53 (.agg #[.int .u32 x0, .int .u32 x1, .int .u32 x2, .int .u32 x3, .int .u32 x4, .int .u32 x5, .int .u32 x6, .int .u32 x7]) (.int .i64 (k : Int))).run Tryd.prog w = .ok (.int .u32 ([x0, x1, x2, x3, x4, x5, x6, x7].getD k 0)) w := by
  have : k = 0 ∨ k = 1 ∨ k = 2 ∨ k = 3 ∨ k = 4 ∨ k = 5 ∨ k = 6 ∨ k = 7 := by omega
  rcases this with h | h | h | h | h | h | h | h
  · rw [h]; exact index8_0 x0 x1 x2 x3 x4 x5 x6 x7 w
  · rw [h]; exact index8_1 x0 x1 x2 x3 x4 x5 x6 x7 w
  · rw [h]; exact index8_2 x0 x1 x2 x3 x4 x5 x6 x7 w
  · rw [h]; exact index8_3 x0 x1 x2 x3 x4 x5 x6 x7 w
  · rw [h]; exact index8_4 x0 x1 x2 x3 x4 x5 x6 x7 w
  · rw [h]; exact index8_5 x0 x1 x2 x3 x4 x5 x6 x7 w
  · rw [h]; exact index8_6 x0 x1 x2 x3 x4 x5 x6 x7 w
  · rw [h]; exact index8_7 x0 x1 x2 x3 x4 x5 x6 x7 w

set_option maxRecDepth 20000 in
set_option maxHeartbeats 2000000 in
theorem mix_any (g : Nat) (t : TypeId) (H B : List Int) (rest : List Value) (hH : H.length = 8) (hB : B.length = 64) (hf : Fit8 B) (w : World) (hs : Blk w g t (wv H ++ rest)) (htab : Tab w) :
    Calls Tryd.prog 23 #[.pointer (some ⟨g, 0, none⟩), .agg (bv B).toArray] w fun e w' => e = .returned (.tuple #[]) ∧ Blk w' g t (wv (mixL H B) ++ rest) ∧ Tn g w w' := by
  have HB := hide hB
  have HH := hide hH
  have hlt := hs.lt
  have hsg : IntKind.u32.signed = false := rfl
  clear hB hH
  go_enter Tryd.func23, Tryd.ntmps23
  go_wp2_with (first | (refine wpList_box 55 _ (bv B) rfl rfl rfl ?_; intro w1 g1 e1 b1 hb1 s1) | (refine wpList_load_mid rfl 55 _ rfl g1 0 rfl (bv B) _ (b1.range 0 _ (fun j _ => by rw [Nat.zero_add])) Tryd.underlying55 rfl (by rw [bv_len, HB.out]; exact info57) ?_))
  refine (spread_any B HB.out hf w1).mono ?_
  rintro e w2 ⟨rfl, hb2⟩
  go_wp2_with (first | (refine wpList_new 67 _ zero69 4 rfl rfl rfl ?_; intro w3 g3 e3 b3 hb3 s3) | (refine wpList_lay 67 _ _ g3 67 _ (wv (schedL B 64)) b3 (by rw [wv_len, schedL_len, List.length_replicate]) (by rw [wv_len, schedL_len]; exact info69) (wv_one _) rfl rfl rfl rfl ?_; intro w4 b4 t4 s4))
  have hg3 : Hid (w.heap.size ≤ g3) := by show _ ≤ _; have := e3.out; have := hb1.size; have := hb2.size; omega
  have hb4 : Below w.heap.size w w4 := bel_tn (bel_trans (bel_trans hb1 hb2) hb3) t4 hg3.out
  have hs := hs.bel hb4
  have htab := htab.bel hb4
  have a0 := hs.cell 0
  have a1 := hs.cell 1
  have a2 := hs.cell 2
  have a3 := hs.cell 3
  have a4 := hs.cell 4
  have a5 := hs.cell 5
  have a6 := hs.cell 6
  have a7 := hs.cell 7
  rw [List.getElem?_append_left (by rw [wv_len, HH.out]; decide), wv_at _ _ (by rw [HH.out]; decide)] at a0 a1 a2 a3 a4 a5 a6 a7
  have E0 : Hid (roundsV H B 0 = ⟨H.getD 0 0, H.getD 1 0, H.getD 2 0, H.getD 3 0, H.getD 4 0, H.getD 5 0, H.getD 6 0, H.getD 7 0⟩) := rfl
  generalize H.getD 0 0 = h0 at a0 E0
  generalize H.getD 1 0 = h1 at a1 E0
  generalize H.getD 2 0 = h2 at a2 E0
  generalize H.getD 3 0 = h3 at a3 E0
  generalize H.getD 4 0 = h4 at a4 E0
  generalize H.getD 5 0 = h5 at a5 E0
  generalize H.getD 6 0 = h6 at a6 E0
  generalize H.getD 7 0 = h7 at a7 E0
  clear e1 b1 hb1 s1 hb2 b3 hb3 s3 s4 t4 e3
  go_quiet (fail)
  have HS := hide (hs.drewN nq)
  have HT : Hid (Tab (w4.drewN nq)) := htab
  have HBL := hide (below_drewN hb4 nq)
  have b4 := b4.drewN nq
  clear a0 a1 a2 a3 a4 a5 a6 a7 hs htab hb4
  generalize w4.drewN nq = w5 at *
  go_wp2_with fail
  go_loopw [5, 6, 7, 8, 9, 10, 11, 12, 52] (fun a b c d e f g h i wr => ∃ (k : Nat) (v : V8), k ≤ 64 ∧ i = .int .i64 k ∧ Hid (roundsV H B k = v) ∧ a = .int .u32 v.a ∧ b = .int .u32 v.b ∧ c = .int .u32 v.c ∧ d = .int .u32 v.d ∧ e = .int .u32 v.e ∧ f = .int .u32 v.f ∧ g = .int .u32 v.g ∧ h = .int .u32 v.h ∧ Below w5.heap.size w5 wr) (fun _ _ _ _ _ _ _ _ i _ => 64 - (intOf i).toNat)
  case atStart => exact ⟨0, _, Nat.zero_le _, rfl, E0, rfl, rfl, rfl, rfl, rfl, rfl, rfl, rfl, Below.refl _ _⟩
  case round =>
    obtain ⟨k, ⟨va, vb, vc, vd, ve, vf, vg, vh⟩, hk, rfl, EV, rfl, rfl, rfl, rfl, rfl, rfl, rfl, rfl, hb⟩ := hrel
    simp only
    by_cases hlt2 : k < 64
    · have q0 : wr.cell? ⟨0, k, none⟩ = some (.int .u32 (kTab.getD k 0)) := (HT.out.bel hb).2 k hlt2
      have q1 : wr.cell? ⟨g3, k, none⟩ = some (.int .u32 (wS B k)) := by
        rw [(b4.bel hb).cell k, wv_at _ _ (by rw [schedL_len]; exact hlt2), schedL_at B k 64 hlt2]
      have i0 : (0 : Int) ≤ (k : Int) ∧ (k : Int) < 64 := by omega
      have EN : Hid (roundsV H B (k + 1) = stepV ⟨va, vb, vc, vd, ve, vf, vg, vh⟩ (kTab.getD k 0) (wS B k)) := by
        show roundsV H B (k + 1) = _
        rw [← EV.out]; rfl
      generalize kTab.getD k 0 = xk at *
      generalize wS B k = xw at *
      go_wp2_with fail
      go_quiet (first | exact Calls.quiet_of_same (right_any _ _ _ (by decide)))
      have hb := below_drewN hb nq
      generalize wr.drewN nq = wq at *
      clear q0 q1
      obtain ⟨p, hp⟩ : ∃ p, ((vh + bits .xor .u32 (bits .xor .u32 (rotr ve 6) (rotr ve 11)) (rotr ve 25) + bits .xor .u32 (bits .and .u32 ve vf) (bits .and .u32 (bits .xor .u32 IntKind.u32.max ve) vg) + xk) % 4294967296 + xw) % 4294967296 = p := ⟨_, rfl⟩
      rw [hp]
      have HP : Hid (pv ⟨va, vb, vc, vd, ve, vf, vg, vh⟩ xk xw = p) := by
        show _ = _
        rw [← hp]
        exact (Int.emod_add_emod _ _ _).symm
      clear hp
      go_wp2_with fail
      refine (right_any _ _ _ (by decide)).mono ?_
      rintro e w' ⟨rfl, rfl⟩
      go_wp2_with fail
      refine (right_any _ _ _ (by decide)).mono ?_
      rintro e w' ⟨rfl, rfl⟩
      go_wp2_with fail
      refine (right_any _ _ _ (by decide)).mono ?_
      rintro e w' ⟨rfl, rfl⟩
      go_wp2_with fail
      refine ⟨⟨k + 1, stepV ⟨va, vb, vc, vd, ve, vf, vg, vh⟩ xk xw, by omega, by go_num, EN, ?_, rfl, rfl, rfl, ?_, rfl, rfl, rfl, hb⟩, by simp [intOf]; omega⟩
      · show _ = Value.int .u32 ((pv _ xk xw + qv _) % 4294967296)
        rw [HP.out]
        rfl
      · show _ = Value.int .u32 ((vd + pv _ xk xw) % 4294967296)
        rw [HP.out]
    · have e : k = 64 := by omega
      subst e
      have HS2 := hide (HS.out.bel hb)
      have HB2 := hide (bel_trans HBL.out hb)
      obtain ⟨V, hV⟩ : ∃ V, V = (roundsV H B 64).toL := ⟨_, rfl⟩
      have EM : Hid (mixL H B = addK H V 8) := by show _ = _; rw [hV]; rfl
      have EV2 : Hid (V = [va, vb, vc, vd, ve, vf, vg, vh]) := by show _ = _; rw [hV, EV.out]; rfl
      clear hV HS HBL HT b4 EV E0 hlt2 hk hb
      go_wp2_with fail
      go_loopw [124] (fun i wr => ∃ k : Nat, k ≤ 8 ∧ i = .int .i64 k ∧ Blk wr g t (wv (addK H V k) ++ rest) ∧ Tn g w wr) (fun i _ => 8 - (intOf i).toNat)
      case atStart => exact ⟨0, Nat.zero_le _, rfl, by rw [addK_zero H V HH.out]; exact HS2.out, Tn.of_bel HB2.out⟩
      case round =>
        obtain ⟨k, hk, rfl, c1, tn⟩ := hrel
        by_cases hk8 : k < 8
        · have hidx := index8 va vb vc vd ve vf vg vh k hk8
          have q0 := c1.cell k
          have q1 := c1.frozen k
          rw [List.getElem?_append_left (by rw [wv_len, addK_len]; exact hk8), wv_at _ _ (by rw [addK_len]; exact hk8)] at q0
          have e0 : (addK H V k).getD k 0 = H.getD k 0 := by
            simp only [List.getD, addK_at H V k k hk8, Option.getD_some, Nat.lt_irrefl, if_false]
          rw [e0] at q0
          have T := c1.set k (.int .u32 ((H.getD k 0 + V.getD k 0) % 4294967296))
          rw [addK_set H V k hk8] at T
          rw [EV2.out] at T
          have HT := hide T
          have i0 : (0 : Int) ≤ (k : Int) ∧ (k : Int) < 8 := by omega
          clear T e0
          generalize [va, vb, vc, vd, ve, vf, vg, vh].getD k 0 = y at *
          generalize H.getD k 0 = x at *
          go_wp2_with fail
          refine wp_quiet_tail 9 mixed (by kernel_rfl) ?_
          simp only [List.take_succ_cons, List.take_zero, List.drop_succ_cons, List.drop_zero]
          repeat (first | go_big_quiet_skip | (go_big_quiet_want; go_big_quiet_op; go_big_quiet_on))
          refine wpQuiet_nil ?_
          go_wp2_with fail
          go_roundw
          case rel =>
            rw [← EV2.out] at HT
            exact ⟨k + 1, by omega, by go_num, HT.out.1.drew, (tn.trans HT.out.2).drew⟩
          case measure => simp [intOf]; omega
        · have e : k = 8 := by omega
          subst e
          go_wp2_with fail
          go_end0
          rw [EM.out]
          exact ⟨rfl, c1, tn⟩

end Go.Proofs.YtejhhkhaoekkiaaDoor.Ck
