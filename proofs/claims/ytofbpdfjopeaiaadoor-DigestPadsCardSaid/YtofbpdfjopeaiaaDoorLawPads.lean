/- The walk of the statement DigestPads. -/
import Derived.Test.YtofbpdfjopeaiaaDoorRowEq
namespace Go.Proofs.YtofbpdfjopeaiaaDoor.Ck
open Go.RowKit

theorem SB.drew {w : World} {v : Value} {bs : List Int} (h : SB w v bs) : SB w.drew v bs := h
theorem Tab.drew {w : World} (h : Tab w) : Tab w.drew := h
theorem hmac_of_pad {k1 k2 : List Int} (h : pad64 k1 = pad64 k2) (m : List Int) : hmac k1 m = hmac k2 m := by unfold hmac; rw [h]
theorem pad64_sha (key : List Int) (h : 64 < key.length) : pad64 (sha key) = pad64 key := by
  rw [pad64_eq, pad64_eq]
  have e1 : keyOf (sha key) = sha key := by unfold keyOf; rw [if_neg (by rw [sha_len]; decide)]
  have e2 : keyOf key = sha key := by unfold keyOf; rw [if_pos h]
  rw [e1, e2]
theorem pad64_zeros (key : List Int) (c : Nat) (h : key.length + c ≤ 64) : pad64 (key ++ List.replicate c 0) = pad64 key := by
  rw [pad64_eq, pad64_eq]
  have e1 : keyOf (key ++ List.replicate c 0) = key ++ List.replicate c 0 := by unfold keyOf; rw [if_neg (by simp; omega)]
  have e2 : keyOf key = key := by unfold keyOf; rw [if_neg (by omega)]
  rw [e1, e2, List.append_assoc, List.replicate_append_replicate, List.length_append, List.length_replicate]
  congr 2
  omega

set_option maxRecDepth 20000 in
set_option maxHeartbeats 1000000 in
theorem pads_main (va vb : Value) (a b : List Int) (x : Int) (w : World) (ha : SB w va a) (hb : SB w vb b) (_hx : -9223372036854775808 ≤ x ∧ x ≤ 9223372036854775807) (htab : Tab w) :
    Calls Tryd.prog 7 #[va, vb, .int .i64 x] w fun e w' => e = .returned (.bool true) ∧ Below w.heap.size w w' := by
  obtain ⟨aa, ca, rfl, hca, hcm⟩ := ha.form
  obtain ⟨ab, cb, rfl, hcb, hcm2⟩ := hb.form
  unfold maxLen at hcm hcm2
  obtain ⟨n, en⟩ : ∃ n, n = a.length := ⟨_, rfl⟩
  obtain ⟨m, em⟩ : ∃ m, m = b.length := ⟨_, rfl⟩
  have En := hide en
  have Em := hide em
  rw [← en] at ha hca ⊢
  rw [← em] at hb hcb ⊢
  clear en em
  go_enter Tryd.func7, Tryd.ntmps7
  go_wp2_with fail
  refine (alive_any w htab).mono ?_
  rintro e w1 ⟨rfl, hb1⟩
  have htab1 := htab.bel hb1
  have ha1 := ha.bel hb1
  have hb1b := hb.bel hb1
  by_cases h1 : n ≤ 3000
  · by_cases h2 : m ≤ 3000
    · have d1 : decide ((3000 : Int) < (n : Int)) = false := decide_eq_false (by omega)
      have d2 : decide ((3000 : Int) < (m : Int)) = false := decide_eq_false (by omega)
      have i1 : (n : Int) ≤ 3000 := by omega
      have i2 : (m : Int) ≤ 3000 := by omega
      have hla : Hid (a.length ≤ 3000) := by show _ ≤ _; rw [← En.out]; exact h1
      have hlb : Hid (b.length ≤ 3000) := by show _ ≤ _; rw [← Em.out]; exact h2
      by_cases h64 : 64 < n
      · have d3 : decide ((64 : Int) < (n : Int)) = true := decide_eq_true (by omega)
        have i3 : (64 : Int) < (n : Int) := by omega
        have EH : Hid (hmac (sha a) b = hmac a b) := hmac_of_pad (pad64_sha a (by rw [← En.out]; exact h64)) b
        go_wp2_with fail
        refine (of_any a _ w1 ha1 (by have := hla.out; omega) htab1).mono ?_
        rintro e w2 ⟨rfl, hb2⟩
        have hsl : Hid ((sha a).length = 32) := sha_len _
        have hsf : Hid (Fit8 (sha a)) := sha_fit _
        generalize sha a = S at *
        have hsz : Hid ((Tryd.prog.info? 37).map (·.size) = some (bv S).length) := by show _ = _; rw [bv_len, hsl.out]; exact info37
        have hl0 : Hid ((List.replicate 32 (Value.int .u8 0)).length = (bv S).length) := by show _ = _; rw [bv_len, hsl.out]; rfl
        go_wp2_with (first | (refine wpList_new 37 _ zero37 7 rfl rfl rfl ?_; intro w3 g3 e3 b3 hb3 s3) | (refine wpList_lay 37 (.tmp 7) (.tmp 23) g3 37 _ (bv S) b3 hl0.out hsz.out (bv_one _) rfl rfl rfl rfl ?_; intro w4 b4 t4 s4))
        have hb4 : Below w1.heap.size w1 w4 := bel_tn (bel_trans hb2 hb3) t4 (by rw [e3.out]; exact hb2.size)
        have HSB : Hid (∀ w', Blk w' g3 37 (bv S) → SB w' (.slice (some ⟨g3, 0, none⟩) 32 32) S) := fun w' h => by
          have := SB.of_blk h (by rw [hsl.out]; unfold maxLen; omega) hsf.out
          rw [hsl.out] at this
          exact this
        have hhl : Hid ((hmac a b).length = 32) := sha_len _
        have hre : ∀ w : World, (Op.equalIn 10000 37 (.agg (bv (hmac a b)).toArray) (.agg (bv (hmac a b)).toArray)).run Tryd.prog w = .ok true w := fun w => row_equal _ hhl.out 9998 w
        have hq : Tryd.prog.eqGuardType Tryd.prog.depth 37 = false := by kernel_rfl
        have hb4w := bel_trans hb1 hb4
        clear hb2 hb3 t4 b3 e3 s3 s4 hsz hl0
        have A4 := hide (ha.bel hb4w).drew
        have B4 := hide (hb.bel hb4w).drew
        have T4 := hide (htab.bel hb4w).drew
        have L1 : Hid (a.length ≤ 800000000) := by show _ ≤ _; have := hla.out; omega
        have L2 : Hid (b.length ≤ 800000000) := by show _ ≤ _; have := hlb.out; omega
        have L3 : Hid (S.length ≤ 800000000) := by show _ ≤ _; rw [hsl.out]; decide
        go_region_held3 (fun _ => True) (trivial)
          (first
            | (go_at_call_of 21 (Value.slice aa n ca); refine (tag_any a b _ _ w4.drew A4.out B4.out L1.out L2.out T4.out).mono ?_; rintro e w5 ⟨rfl, hb5⟩; have hb5 : Below w4.heap.size w4 w5 := ⟨hb5.os, hb5.tape, hb5.output, hb5.size, hb5.block⟩)
            | (go_at_call_of 21 (Value.slice (some ⟨g3, 0, none⟩) 32 32); refine (tag_any S b _ _ w5 (HSB.out w5 (b4.bel hb5)) (hb.bel (bel_trans hb4w hb5)) L3.out L2.out (htab.bel (bel_trans hb4w hb5))).mono ?_; rintro e w6 ⟨rfl, hb6⟩; rw [EH.out]))
        all_goals
          go_wp2_with fail
          go_ret
          exact ⟨rfl, bel_trans (bel_trans hb4w hb5) hb6⟩
      · have d3 : decide ((64 : Int) < (n : Int)) = false := decide_eq_false (by omega)
        have i3 : (n : Int) ≤ 64 := by omega
        have hn6 : Hid (n ≤ 1000000) := by show _ ≤ _; omega
        obtain ⟨y, ey⟩ : ∃ y, y = 65 - n := ⟨_, rfl⟩
        have hy : (65 : Int) - (n : Int) = (y : Int) := by omega
        have hy1 : (1 : Int) ≤ (y : Int) ∧ (y : Int) ≤ 65 := by omega
        obtain ⟨u, eu⟩ : ∃ u : Int, IntKind.u64.wrap x = u := ⟨_, rfl⟩
        have hu : 0 ≤ u ∧ u < 18446744073709551616 := by rw [← eu, IntKind.wrap_u64]; omega
        obtain ⟨c, ec⟩ : ∃ c : Nat, u % (y : Int) = (c : Int) := ⟨(u % (y : Int)).toNat, by have := Int.emod_nonneg u (show (y : Int) ≠ 0 by omega); omega⟩
        have hc : c < y := by have := Int.emod_lt_of_pos u (show (0 : Int) < (y : Int) by omega); omega
        have hyne : ¬ ((y : Int) = 0) := by omega
        have Ey := hide ey
        clear ey
        go_wp2_with (first | (at_builtin; refine wpList_appG (.tmp 31) (.tmp 32) _ _ _ (fun ty => app_copyB ty En.out ha1 hn6.out) rfl rfl rfl rfl ?_; rintro v5 w5 ⟨⟨g5, c5, rfl, o5⟩, hb5⟩))
        have hz5 := hb5.size
        clear eu ec hu hy hyne
        go_loopw [8, 42] (fun p i wr => ∃ (k g cp : Nat), k ≤ c ∧ i = .int .i64 k ∧ p = .slice (some ⟨g, 0, none⟩) (n + k) cp ∧ OwnB wr w1.heap.size g cp (a ++ List.replicate k 0) ∧ Below w1.heap.size w1 wr) (fun _ i _ => c - (intOf i).toNat)
        case atStart => exact ⟨0, g5, c5, Nat.zero_le _, rfl, rfl, by simpa using o5, hb5⟩
        case round =>
          obtain ⟨k, g, cp, hk, rfl, rfl, oo, hbr⟩ := hrel
          by_cases hkc : k < c
          · have j1 : (k : Int) < (c : Int) := by omega
            have hlen : Hid (n + k = (a ++ List.replicate k 0).length) := by show _ = _; rw [List.length_append, List.length_replicate, ← En.out]
            have hf0 : Hid (Fit8 [(0 : Int)]) := fun z hz => by simp at hz; subst hz; decide
            have hl2 : Hid (n + k + 1 ≤ 2000000) := by show _ ≤ _; have := Ey.out; omega
            have hzr := hbr.size
            go_wp2_with (first | (at_builtin; refine wpList_appG (.tmp 44) (.tmp 45) _ _ _ (fun ty => pushB ty oo hlen.out hf0.out hl2.out hzr) rfl rfl rfl rfl ?_; rintro v6 w6 ⟨⟨g6, c6, rfl, o6⟩, t6⟩))
            go_roundw
            case rel => exact ⟨k + 1, g6, c6, by omega, by go_num, rfl, by rw [List.replicate_succ', ← List.append_assoc]; exact o6, bel_tn hbr t6 oo.ge⟩
            case measure => simp [intOf]; omega
          · have ek : k = c := by omega
            subst ek
            have EH : Hid (hmac (a ++ List.replicate k 0) b = hmac a b) := hmac_of_pad (pad64_zeros a k (by have := En.out; have := Ey.out; omega)) b
            have hsp : SB wr (.slice (some ⟨g, 0, none⟩) (n + k) cp) (a ++ List.replicate k 0) := by
              have := oo.sl (fit8_app ha.fits (fun z hz => by rw [List.eq_of_mem_replicate hz]; decide))
              rw [List.length_append, List.length_replicate, ← En.out] at this
              exact this
            have hbw := bel_trans hb1 hbr
            have hhl : Hid ((hmac a b).length = 32) := sha_len _
            go_wp2_with fail
            refine (tag_any a b _ _ wr (ha.bel hbw) (hb.bel hbw) (by have := hla.out; omega) (by have := hlb.out; omega) (htab.bel hbw)).mono ?_
            rintro e w6 ⟨rfl, hb6⟩
            go_wp2_with fail
            refine (tag_any (a ++ List.replicate k 0) b _ _ w6 (hsp.bel hb6) ((hb.bel hbw).bel hb6) (by rw [List.length_append, List.length_replicate, ← En.out]; have := Ey.out; omega) (by have := hlb.out; omega) ((htab.bel hbw).bel hb6)).mono ?_
            rintro e w7 ⟨rfl, hb7⟩
            rw [EH.out]
            go_wp2_with (first | (refine wpList_rowEq (.tmp 50) (.tmp 53) (hmac a b) hhl.out rfl rfl rfl rfl ?_))
            go_ret
            exact ⟨rfl, bel_trans (bel_trans hbw hb6) hb7⟩
    · have d1 : decide ((3000 : Int) < (n : Int)) = false := decide_eq_false (by omega)
      have d2 : decide ((3000 : Int) < (m : Int)) = true := decide_eq_true (by omega)
      have i1 : (n : Int) ≤ 3000 := by omega
      have i2 : (3000 : Int) < (m : Int) := by omega
      go_wp2_with fail
      go_ret
      exact ⟨rfl, hb1⟩
  · have d1 : decide ((3000 : Int) < (n : Int)) = true := decide_eq_true (by omega)
    have i1 : (3000 : Int) < (n : Int) := by omega
    go_wp2_with fail
    go_ret
    exact ⟨rfl, hb1⟩

theorem wf_i64 {z : Int} (h : (Lit.int .i64 z).wf = true) : -9223372036854775808 ≤ z ∧ z ≤ 9223372036854775807 := by
  have := bounds_i64 h
  omega
theorem digestPads_walk {W : World} {a0 a1 : Option Addr} {len0 cap0 len1 cap1 : Nat} {z0 z1 : List Int} {x : Int} (s0 : SB W (.slice a0 len0 cap0) z0) (s1 : SB W (.slice a1 len1 cap1) z1) (wx : (Lit.int .i64 x).wf = true) (hL : laidMetH Tryd.prog laidT W) :
    Calls Tryd.prog 7 #[.slice a0 len0 cap0, .slice a1 len1 cap1, .int .i64 x] W fun e w' => e = .returned (.bool true) ∧ Below W.heap.size W w' :=
  pads_main _ _ z0 z1 x W s0 s1 (wf_i64 wx) (tab_of_laid hL)

end Go.Proofs.YtofbpdfjopeaiaaDoor.Ck
