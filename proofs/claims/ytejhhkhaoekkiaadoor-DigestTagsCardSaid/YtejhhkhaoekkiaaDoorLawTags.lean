/- The walk of the statement DigestTags. -/
import Derived.Test.YtejhhkhaoekkiaaDoorLlIn
import Derived.Test.YtejhhkhaoekkiaaDoorRTag
import Derived.Test.YtejhhkhaoekkiaaDoorROfE
namespace Go.Proofs.YtejhhkhaoekkiaaDoor.Ck
open Go.RowKit

theorem sb_of32 {w : World} {g : Nat} {S : List Int} (h : Blk w g 37 (bv S)) (hl : S.length = 32) (hf : Fit8 S) : SB w (.slice (some ⟨g, 0, none⟩) 32 32) S := by
  have := SB.of_blk h (by rw [hl]; unfold maxLen; omega) hf
  rw [hl] at this
  exact this

set_option maxRecDepth 20000 in
set_option maxHeartbeats 2000000 in
theorem tags_main (v0 : Value) (key : List Int) (la : Option Addr) (len lc : Nat) (f : Nat → List Int) (w : World) (hk : SB w v0 key) (hl : LlAt w la len f) (htab : Tab w) :
    Calls Tryd.prog 4 #[v0, .slice la len lc] w fun e w' => e = .returned (.bool true) ∧ Below w.heap.size w w' := by
  obtain ⟨a0, c0, rfl, hc0, hcm⟩ := hk.form
  unfold maxLen at hcm
  obtain ⟨l, el⟩ : ∃ l, l = key.length := ⟨_, rfl⟩
  have EL := hide el
  rw [← el] at hk hc0 ⊢
  clear el
  have HLl := hide hl
  have hlen := hl.1
  clear hl
  go_enter Tryd.func4, Tryd.ntmps4
  go_wp2_with fail
  refine (alive_any w htab).mono ?_
  rintro e w1 ⟨rfl, hb1⟩
  by_cases h1 : l ≤ 3000
  · have d1 : decide ((3000 : Int) < (l : Int)) = false := decide_eq_false (by omega)
    by_cases h2 : len ≤ 20
    · have d2 : decide ((20 : Int) < (len : Int)) = false := decide_eq_false (by omega)
      have H3 : Hid (key.length ≤ 3000) := by show _ ≤ _; have := EL.out; omega
      go_wp2_with fail
      refine (rnew_ha w1).mono ?_
      rintro e w2 ⟨gh, gS, cS, gT, cT, rfl, hh2, hb2⟩
      have hb12 := bel_trans hb1 hb2
      go_wp2_with fail
      refine (tagged_any key _ w2 (hk.bel hb12) (by have := H3.out; omega) (htab.bel hb12)).mono ?_
      rintro e w3 ⟨gk, rfl, hk3, _, hb3⟩
      have hbw3 := bel_trans hb12 hb3
      have hh3 := hh2.bel hb3
      clear hb1 hb2 hb12 hb3 hh2
      go_wp2_with fail
      go_loopw [27] (fun i wr => ∃ k : Nat, k ≤ len ∧ i = .int .i64 k ∧ Below w3.heap.size w3 wr) (fun i _ => len - (intOf i).toNat)
      case atStart => exact ⟨0, Nat.zero_le _, rfl, Below.refl _ _⟩
      case round =>
        obtain ⟨k, hkl, rfl, hb⟩ := hrel
        have hbw := bel_trans hbw3 hb
        by_cases hk1 : k < len
        · have d5 : decide ((k : Int) < (len : Int)) = true := decide_eq_true (by omega)
          have i5 : (0 : Int) ≤ (k : Int) ∧ (k : Int) < (len : Int) := by omega
          obtain ⟨b, off, v, rfl, hbl, q0, s0⟩ := (HLl.out.below hbw).2 k hk1
          generalize f k = m at s0
          obtain ⟨am, cm, rfl, hcm1, hcm2⟩ := s0.form
          unfold maxLen at hcm2
          obtain ⟨lm, elm⟩ : ∃ lm, lm = m.length := ⟨_, rfl⟩
          have ELm := hide elm
          rw [← elm] at s0 hcm1 q0
          clear elm
          by_cases h2k : lm ≤ 2000
          · have d6 : decide ((2000 : Int) < (lm : Int)) = false := decide_eq_false (by omega)
            have Hm : Hid (m.length ≤ 2000) := by show _ ≤ _; have := ELm.out; omega
            go_wp2_with fail
            refine (rtag_any gh gS cS gT cT (rof_any gh gS cS gT cT) _ _ key m wr (hh3.bel hb) (hk.bel hbw) s0 (by have := H3.out; omega) (by have := Hm.out; omega)).mono ?_
            rintro e w4 ⟨g4, c4, rfl, o4, hb4⟩
            have hb4w := bel_trans hbw hb4
            have hHl : Hid ((hmac key m).length = 32) := sha_len _
            have hHf : Hid (Fit8 (hmac key m)) := sha_fit _
            have s4 : SB w4 (.slice (some ⟨g4, 0, none⟩) 32 c4) (hmac key m) := by
              have := o4.sl hHf.out
              rw [hHl.out] at this
              exact this
            have k4 := conv_str s4
            have sm4 := s0.bel hb4
            have EH : Hid (hmac key m = hmac key m) := rfl
            clear q0 s4 o4
            go_wp2_with fail
            refine (tag_any key m _ _ w4 (hk.bel hb4w) sm4 (by have := H3.out; omega) (by have := Hm.out; omega) (htab.bel hb4w)).mono ?_
            rintro e w5 ⟨rfl, hb5⟩
            have hb5w := bel_trans hb4w hb5
            go_wp2_with fail
            refine (ktag_any gk key m _ w5 ((hk3.bel hb).bel (bel_trans hb4 hb5)) (sm4.bel hb5) (by have := Hm.out; omega) (htab.bel hb5w)).mono ?_
            rintro e w6 ⟨rfl, hb6⟩
            have hb6w := bel_trans hb5w hb6
            have hb36 : Below w3.heap.size w3 w6 := bel_trans (bel_trans (bel_trans hb hb4) hb5) hb6
            clear k4 EH hb4 hb5 hb6 sm4
            generalize hmac key m = X at *
            have hsz : Hid ((Tryd.prog.info? 37).map (·.size) = some (bv X).length) := by show _ = _; rw [bv_len, hHl.out]; exact info37
            have hl0 : Hid ((List.replicate 32 (Value.int .u8 0)).length = (bv X).length) := by show _ = _; rw [bv_len, hHl.out]; rfl
            go_wp2_with (first | (refine wpList_new 37 _ zero37 10 rfl rfl rfl ?_; intro w7 g7 e7 b7 hb7 s7) | (refine wpList_new 37 _ zero37 11 rfl rfl rfl ?_; intro w8 g8 e8 b8 hb8 s8) | (refine wpList_lay 37 (.tmp 10) (.tmp 41) g7 37 _ (bv X) (b7.bel hb8) hl0.out hsz.out (bv_one _) rfl rfl rfl rfl ?_; intro w9 b9 t9 s9) | (refine wpList_lay 37 (.tmp 11) (.tmp 44) g8 37 _ (bv X) (b8.tn t9 (by rw [e8.out]; exact (Nat.ne_of_lt b7.lt).symm)) hl0.out hsz.out (bv_one _) rfl rfl rfl rfl ?_; intro wa ba ta sa; have k1 := conv_str (sb_of32 (b9.tn ta (by rw [e8.out]; exact Nat.ne_of_lt b7.lt)) hHl.out hHf.out); have k2 := conv_str (sb_of32 ba hHl.out hHf.out)))
            have hb68 := bel_trans (bel_trans hb36 hb7) hb8
            have z7 : w3.heap.size ≤ g7 := by rw [e7.out]; exact hb36.size
            have z8 : w3.heap.size ≤ g8 := by rw [e8.out]; exact (bel_trans hb36 hb7).size
            exact ⟨⟨k + 1, by omega, by go_num, bel_tn (bel_tn hb68 t9 z7) ta z8⟩, by simp [intOf]; omega⟩
          · have d6 : decide ((2000 : Int) < (lm : Int)) = true := decide_eq_true (by omega)
            go_wp2_with fail
            go_ret
            exact ⟨rfl, hbw⟩
        · have d5 : decide ((k : Int) < (len : Int)) = false := decide_eq_false (by omega)
          go_wp2_with fail
          go_ret
          exact ⟨rfl, hbw⟩
    · have d2 : decide ((20 : Int) < (len : Int)) = true := decide_eq_true (by omega)
      go_wp2_with fail
      go_ret
      exact ⟨rfl, hb1⟩
  · have d1 : decide ((3000 : Int) < (l : Int)) = true := decide_eq_true (by omega)
    go_wp2_with fail
    go_ret
    exact ⟨rfl, hb1⟩

theorem digestTags_walk {W : World} {a0 a1 : Option Addr} {len0 cap0 len1 cap1 : Nat} {z0 : List Int} {f : Nat → List Int} (s0 : SB W (.slice a0 len0 cap0) z0) (s1 : LlAt W a1 len1 f) (hL : laidMetH Tryd.prog laidT W) :
    Calls Tryd.prog 4 #[.slice a0 len0 cap0, .slice a1 len1 cap1] W fun e w' => e = .returned (.bool true) ∧ Below W.heap.size W w' :=
  tags_main _ z0 a1 len1 cap1 f W s0 s1 (tab_of_laid hL)

end Go.Proofs.YtejhhkhaoekkiaaDoor.Ck
