/- The contract of the document's Tag, from that of its Of. -/
import Derived.Test.YtejhhkhaoekkiaaDoorMarksK
import Derived.Test.YtejhhkhaoekkiaaDoorRHa
import Derived.Test.YtejhhkhaoekkiaaDoorTag
import Derived.Maps.AppendAt
namespace Go.Proofs.YtejhhkhaoekkiaaDoor.Ck
open Go.RowKit

/-- one more, beside another slice of one's own -/
theorem pushB2 {w : World} {B g cap g2 cap2 n : Nat} {zs ys : List Int} {x : Int} (ty : TypeId) (h : OwnB w B g cap zs) (h2 : OwnB w B g2 cap2 ys) (hne : g ≠ g2) (hn : n = zs.length) (hlen : n + 1 ≤ 1000) (hB : B ≤ w.heap.size) :
    ∃ v' w', (Builtin.append_ #[29, 29] ty #[.slice (some ⟨g, 0, none⟩) n cap, .slice (some ⟨w.heap.size, 0, none⟩) 1 1]).run Tryd.prog (w.alloc (.cells #[.int .u8 x] 5)) = .ok v' w' ∧
      ((∃ g' cap', v' = .slice (some ⟨g', 0, none⟩) (n + 1) cap' ∧ OwnB w' B g' cap' (zs ++ [x]) ∧ g' ≠ g2) ∧ OwnB w' B g2 cap2 ys ∧ Tn g w w') := by
  subst hn
  obtain ⟨i, hi, hz0, hz1, hz2⟩ := info_parts infoB
  have h0 := h.alloc (.cells #[.int .u8 x] 5)
  have h20 := h2.alloc (.cells #[.int .u8 x] 5)
  have hb := Blk.new w (bv [x]) 5
  obtain ⟨v', w', hr, ho, hg, hnil, hbl⟩ := run_append_own_at (P := Tryd.prog) (w.alloc (.cells #[.int .u8 x] 5)) B 29 ty 5 i (.int .u8 0) 1 1 Tryd.underlying29 hi hz0 hz1 hz2 rfl (by decide) (.slice (some ⟨g, 0, none⟩) zs.length cap) zs.length (bv zs) h0 ⟨w.heap.size, 0, none⟩ 1 1 (bv [x]) rfl
    (fun j q hq => by rw [Addr.add_mid, Nat.zero_add]; exact (hb.cell j).trans hq) (bv_one _) (by unfold maxLen; omega) (by omega) (by simp; omega)
  have ht : Tn g w w' := (Tn.of_bel (bel_new w (.cells #[.int .u8 x] 5))).trans ⟨hg.1, hg.2, hg.3, hg.4, fun k hk hgk => hg.5 k hk (by simpa [Value.ownBlock] using hgk)⟩
  refine ⟨v', w', hr, ?_, h2.tn ht (Ne.symm hne), ht⟩
  have ho2 := ho
  rcases ho.2 with ⟨h1, _⟩ | ⟨g', cap', cur, h1, _⟩
  · have := hnil.1 h1
    simp at this
  · refine ⟨g', cap', h1, ?_, ?_⟩
    · unfold OwnB
      rw [List.length_append, ← bv_app]
      rw [h1] at ho2
      exact ho2
    · rw [h1] at hbl
      have hl2 := h2.lt
      rcases hbl with e | e
      · simp [Value.ownBlock] at e
        omega
      · simp [Value.ownBlock] at e
        omega

theorem veil_take (pad : List Int) (mask : Int) (k : Nat) (h : k < pad.length) : (veil pad mask).take (k + 1) = (veil pad mask).take k ++ [bits .xor .u8 (pad.getD k 0) mask] := by
  rw [List.take_add_one]
  unfold veil
  simp [List.getD, h]

set_option maxRecDepth 20000 in
set_option maxHeartbeats 1000000 in
theorem rtag_any (gh gS cS gT cT : Nat) (HOF : RofC gh gS cS gT cT) (vk vb : Value) (key b : List Int) (w : World) (hh : Ha w gh gS cS gT cT) (hk : SB w vk key) (hb : SB w vb b) (hlk : key.length ≤ 90000) (hlb : b.length ≤ 90000) :
    Calls Tryd.prog 17 #[.pointer (some ⟨gh, 0, none⟩), vk, vb] w fun e w' => ∃ g cap, e = .returned (.slice (some ⟨g, 0, none⟩) 32 cap) ∧ OwnB w' w.heap.size g cap (hmac key b) ∧ Below w.heap.size w w' := by
  have HLK := hide hlk
  have HLB := hide hlb
  have HOF := hide HOF
  clear hlk hlb
  obtain ⟨ak, ck, rfl, hck, hcmk⟩ := hk.form
  obtain ⟨ab, cb, rfl, hcb, hcmb⟩ := hb.form
  unfold maxLen at hcmk hcmb
  obtain ⟨n, en⟩ : ∃ n, n = key.length := ⟨_, rfl⟩
  obtain ⟨m, em⟩ : ∃ m, m = b.length := ⟨_, rfl⟩
  have En := hide en
  have Em := hide em
  rw [← en] at hk hck ⊢
  rw [← em] at hb hcb ⊢
  have hn9 : n ≤ 90000 := by have := HLK.out; omega
  clear en em
  go_enter Tryd.func17, Tryd.ntmps17
  by_cases h64 : 64 < n
  · have i64 : (64 : Int) < (n : Int) := by omega
    have EK : Hid (sha key = keyOf key) := by show _ = _; unfold keyOf; rw [if_pos (by rw [← En.out]; exact h64)]
    go_wp2_with fail
    refine (HOF.out _ key w hh hk (by have := HLK.out; omega)).mono ?_
    rintro e w1 ⟨g1, c1, rfl, o1, hb1⟩
    have sK : SB w1 (.slice (some ⟨g1, 0, none⟩) 32 c1) (sha key) := by
      have := o1.sl (sha_fit _)
      rw [sha_len] at this
      exact this
    have hnK : (32 : Nat) = (sha key).length := (sha_len _).symm
    generalize sha key = K at *
    generalize (some ⟨g1, 0, none⟩ : Option Addr) = aK at *
    have hn32 : (32 : Nat) ≤ 64 := by decide
    generalize 32 = nK at hnK sK hn32 ⊢
    have hbK := hb1
    clear hb1 o1
    generalize c1 = cK at *
    have hhK := hh.bel hbK
    have hbB := hb.bel hbK
    have hpl : Hid ((pad64 key).length = 64) := pad64_len key
    have hpg : Hid (∀ k, k < 64 → (pad64 key).getD k 0 = if k < nK then K.getD k 0 else 0) := fun k hk => by
      rw [pad64_eq, ← EK.out, ← hnK]
      simp only [List.getD]
      by_cases h : k < nK
      · rw [if_pos h, List.getElem?_append_left (by omega)]
      · rw [if_neg h, List.getElem?_append_right (by omega), List.getElem?_replicate]
        split <;> rfl
    have EH : Hid (hmac key b = sha (veil (pad64 key) 92 ++ sha (veil (pad64 key) 54 ++ b))) := rfl
    generalize pad64 key = pad at *
    have NK := hide hnK
    have o0 : OwnB ((w1.alloc (.cells #[] 5)).alloc (.cells #[] 5)) w1.heap.size w1.heap.size 0 [] := (OwnB.empty w1).alloc _
    have o1 : OwnB ((w1.alloc (.cells #[] 5)).alloc (.cells #[] 5)) w1.heap.size (w1.heap.size + 1) 0 [] := by
      have := OwnB.empty (w1.alloc (.cells #[] 5))
      rw [show (w1.alloc (.cells #[] 5)).heap.size = w1.heap.size + 1 by simp] at this
      exact this.down (by omega)
    have hb2 : Below w1.heap.size w1 ((w1.alloc (.cells #[] 5)).alloc (.cells #[] 5)) := bel_al (bel_new _ _) _
    clear hnK
    go_wp2_with fail
    go_loopw [7, 8, 9] (fun a c i wr => ∃ (k ga ca gc cc : Nat), k ≤ 64 ∧ i = .int .i64 k ∧ a = .slice (some ⟨ga, 0, none⟩) k ca ∧ c = .slice (some ⟨gc, 0, none⟩) k cc ∧ OwnB wr w1.heap.size ga ca ((veil pad 54).take k) ∧ OwnB wr w1.heap.size gc cc ((veil pad 92).take k) ∧ ga ≠ gc ∧ Below w1.heap.size w1 wr) (fun _ _ i _ => 64 - (intOf i).toNat)
    case atStart => exact ⟨0, _, _, _, _, Nat.zero_le _, rfl, rfl, rfl, o0, o1, by omega, hb2⟩
    case round =>
      obtain ⟨k, ga, ca, gc, cc, hk, rfl, rfl, rfl, oa, oc, hne, hbr⟩ := hrel
      by_cases hk64 : k < 64
      · have i1 : (0 : Int) ≤ (k : Int) ∧ (k : Int) < 64 := by omega
        have hl1 : Hid (k = ((veil pad 54).take k).length) := by show _ = _; rw [List.length_take, veil_len, hpl.out]; omega
        have hl2 : Hid (k = ((veil pad 92).take k).length) := by show _ = _; rw [List.length_take, veil_len, hpl.out]; omega
        have e1 := hide (veil_take pad 54 k (by rw [hpl.out]; exact hk64))
        have e2 := hide (veil_take pad 92 k (by rw [hpl.out]; exact hk64))
        have hz := hbr.size
        have hk1 : Hid (k + 1 ≤ 1000) := by show _ ≤ _; omega
        have HP2 : Hid (∀ (w5 : World) (g5 c5 : Nat) (zs : List Int) (x : Int), OwnB w5 w1.heap.size gc cc ((veil pad 92).take k) → OwnB w5 w1.heap.size g5 c5 zs → g5 ≠ gc → w1.heap.size ≤ w5.heap.size → ∀ ty, ∃ v' w', (Builtin.append_ #[29, 29] ty #[.slice (some ⟨gc, 0, none⟩) k cc, .slice (some ⟨w5.heap.size, 0, none⟩) 1 1]).run Tryd.prog (w5.alloc (.cells #[.int .u8 x] 5)) = .ok v' w' ∧
          ((∃ g' cap', v' = .slice (some ⟨g', 0, none⟩) (k + 1) cap' ∧ OwnB w' w1.heap.size g' cap' ((veil pad 92).take k ++ [x]) ∧ g' ≠ g5) ∧ OwnB w' w1.heap.size g5 c5 zs ∧ Tn gc w5 w')) := fun w5 g5 c5 zs x h1 h2 h3 h4 ty => pushB2 ty h1 h2 (Ne.symm h3) hl2.out hk1.out h4
        by_cases hkn : k < nK
        · have hp := hpg.out k hk64
          rw [if_pos hkn] at hp
          rw [hp] at e1 e2
          obtain ⟨bK, oK, rfl, hbK2, hcK⟩ := (sK.bel hbr).at k hkn
          have i2 : (k : Int) < (nK : Int) := by omega
          generalize K.getD k 0 = x at *
          have HP1 := hide (fun ty => pushB2 (x := bits .xor .u8 x 54) ty oa oc hne hl1.out hk1.out hz)
          clear hp
          go_wp2_with (first | (at_builtin; refine wpList_appG (.tmp 31) (.tmp 34) _ _ _ HP1.out rfl rfl rfl rfl ?_; rintro v5 w5 ⟨⟨g5, c5, rfl, o5, n5⟩, u5, t5⟩; have z5 := Nat.le_trans hz t5.size) | (at_builtin; refine wpList_appG (.tmp 36) (.tmp 39) _ _ _ (HP2.out w5 g5 c5 _ _ u5 o5 n5 z5) rfl rfl rfl rfl ?_; rintro v6 w6 ⟨⟨g6, c6, rfl, o6, n6⟩, u6, t6⟩))
          go_roundw
          case rel => exact ⟨k + 1, g5, c5, g6, c6, by omega, by go_num, rfl, rfl, by rw [e1.out]; exact u6, by rw [e2.out]; exact o6, Ne.symm n6, bel_tn (bel_tn hbr t5 oa.ge) t6 oc.ge⟩
          case measure => simp [intOf]; omega
        · have hp := hpg.out k hk64
          rw [if_neg hkn] at hp
          rw [hp] at e1 e2
          have i2 : (nK : Int) ≤ (k : Int) := by omega
          have HP1 := hide (fun ty => pushB2 (x := bits .xor .u8 0 54) ty oa oc hne hl1.out hk1.out hz)
          clear hp
          go_wp2_with (first | (at_builtin; refine wpList_appG (.tmp 31) (.tmp 34) _ _ _ HP1.out rfl rfl rfl rfl ?_; rintro v5 w5 ⟨⟨g5, c5, rfl, o5, n5⟩, u5, t5⟩; have z5 := Nat.le_trans hz t5.size) | (at_builtin; refine wpList_appG (.tmp 36) (.tmp 39) _ _ _ (HP2.out w5 g5 c5 _ _ u5 o5 n5 z5) rfl rfl rfl rfl ?_; rintro v6 w6 ⟨⟨g6, c6, rfl, o6, n6⟩, u6, t6⟩))
          go_roundw
          case rel => exact ⟨k + 1, g5, c5, g6, c6, by omega, by go_num, rfl, rfl, by rw [e1.out]; exact u6, by rw [e2.out]; exact o6, Ne.symm n6, bel_tn (bel_tn hbr t5 oa.ge) t6 oc.ge⟩
          case measure => simp [intOf]; omega
      · have e : k = 64 := by omega
        subst e
        rw [List.take_of_length_le (by rw [veil_len, hpl.out]; decide)] at oa oc
        have hla : Hid ((veil pad 54).length = 64) := by show _ = _; rw [veil_len]; exact hpl.out
        have hlc : Hid ((veil pad 92).length = 64) := by show _ = _; rw [veil_len]; exact hpl.out
        have Fa := hide (veil_fit pad 54)
        have Fc := hide (veil_fit pad 92)
        generalize veil pad 54 = va at *
        generalize veil pad 92 = vc at *
        have HA := hide (fun ty => app_tnB ty oa (hbB.bel hbr) (by rw [hla.out, ← Em.out]; have := HLB.out; have := Em.out; omega) hbr.size)
        rw [hla.out, ← Em.out] at HA
        have hm9 : m ≤ 90000 := by have := HLB.out; have := Em.out; omega
        go_wp2_with (first | (at_builtin; refine wpList_appG (.tmp 44) (.tmp 45) _ _ _ HA.out rfl rfl rfl rfl ?_; rintro v5 w5 ⟨⟨g5, c5, rfl, o5⟩, t5⟩))
        have hb5 : Below w1.heap.size w1 w5 := bel_tn hbr t5 oa.ge
        have oc5 := oc.tn t5 (Ne.symm hne)
        have s5 : SB w5 (.slice (some ⟨g5, 0, none⟩) (64 + m) c5) (va ++ b) := by
          have := o5.sl (fit8_app Fa.out hb.fits)
          rw [List.length_append, hla.out, ← Em.out] at this
          exact this
        refine (HOF.out _ (va ++ b) w5 (hhK.bel hb5) s5 (by rw [List.length_append, hla.out, ← Em.out]; omega)).mono ?_
        rintro e w6 ⟨g6, c6, rfl, o6, hb6⟩
        have s6 : SB w6 (.slice (some ⟨g6, 0, none⟩) 32 c6) (sha (va ++ b)) := by
          have := o6.sl (sha_fit _)
          rw [sha_len] at this
          exact this
        have oc6 := oc5.below hb6
        have HC := hide (fun ty => app_tnB ty oc6 s6 (by rw [hlc.out, sha_len]; decide) (Nat.le_trans hb5.size hb6.size))
        rw [hlc.out, sha_len] at HC
        go_wp2_with (first | (at_builtin; refine wpList_appG (.tmp 42) (.tmp 47) _ _ _ HC.out rfl rfl rfl rfl ?_; rintro v7 w7 ⟨⟨g7, c7, rfl, o7⟩, t7⟩))
        have hb7 : Below w1.heap.size w1 w7 := bel_tn (bel_trans hb5 hb6) t7 oc6.ge
        have s7 : SB w7 (.slice (some ⟨g7, 0, none⟩) 96 c7) (vc ++ sha (va ++ b)) := by
          have := o7.sl (fit8_app Fc.out (sha_fit _))
          rw [List.length_append, hlc.out, sha_len] at this
          exact this
        refine (HOF.out _ (vc ++ sha (va ++ b)) w7 (hhK.bel hb7) s7 (by rw [List.length_append, hlc.out, sha_len]; decide)).mono ?_
        rintro e w8 ⟨g8, c8, rfl, o8, hb8⟩
        have hbw7 := bel_trans hbK hb7
        go_wp2_with fail
        go_ret
        exact ⟨g8, c8, rfl, by rw [EH.out]; exact o8.down hbw7.size, bel_trans hbw7 hb8⟩
  · have i64 : (n : Int) ≤ 64 := by omega
    have d64 : decide ((64 : Int) < (n : Int)) = false := decide_eq_false (by omega)
    have EK : Hid (key = keyOf key) := by show _ = _; unfold keyOf; rw [if_neg (by rw [← En.out]; exact h64)]
    have hbK : Below w.heap.size w w := Below.refl _ _
    have hn32 : n ≤ 64 := by omega
    have sK := hk
    obtain ⟨K, eK⟩ : ∃ K, K = key := ⟨_, rfl⟩
    have EK : Hid (K = keyOf key) := by show _ = _; rw [eK]; exact EK.out
    rw [← eK] at sK
    have hnK : n = K.length := by rw [eK]; exact En.out
    clear eK
    have hhK := hh.bel hbK
    have hbB := hb.bel hbK
    have hpl : Hid ((pad64 key).length = 64) := pad64_len key
    have hpg : Hid (∀ k, k < 64 → (pad64 key).getD k 0 = if k < n then K.getD k 0 else 0) := fun k hk => by
      rw [pad64_eq, ← EK.out, ← hnK]
      simp only [List.getD]
      by_cases h : k < n
      · rw [if_pos h, List.getElem?_append_left (by omega)]
      · rw [if_neg h, List.getElem?_append_right (by omega), List.getElem?_replicate]
        split <;> rfl
    have EH : Hid (hmac key b = sha (veil (pad64 key) 92 ++ sha (veil (pad64 key) 54 ++ b))) := rfl
    generalize pad64 key = pad at *
    have NK := hide hnK
    have o0 : OwnB ((w.alloc (.cells #[] 5)).alloc (.cells #[] 5)) w.heap.size w.heap.size 0 [] := (OwnB.empty w).alloc _
    have o1 : OwnB ((w.alloc (.cells #[] 5)).alloc (.cells #[] 5)) w.heap.size (w.heap.size + 1) 0 [] := by
      have := OwnB.empty (w.alloc (.cells #[] 5))
      rw [show (w.alloc (.cells #[] 5)).heap.size = w.heap.size + 1 by simp] at this
      exact this.down (by omega)
    have hb2 : Below w.heap.size w ((w.alloc (.cells #[] 5)).alloc (.cells #[] 5)) := bel_al (bel_new _ _) _
    clear hnK
    go_wp2_with fail
    go_loopw [7, 8, 9] (fun a c i wr => ∃ (k ga ca gc cc : Nat), k ≤ 64 ∧ i = .int .i64 k ∧ a = .slice (some ⟨ga, 0, none⟩) k ca ∧ c = .slice (some ⟨gc, 0, none⟩) k cc ∧ OwnB wr w.heap.size ga ca ((veil pad 54).take k) ∧ OwnB wr w.heap.size gc cc ((veil pad 92).take k) ∧ ga ≠ gc ∧ Below w.heap.size w wr) (fun _ _ i _ => 64 - (intOf i).toNat)
    case atStart => exact ⟨0, _, _, _, _, Nat.zero_le _, rfl, rfl, rfl, o0, o1, by omega, hb2⟩
    case round =>
      obtain ⟨k, ga, ca, gc, cc, hk, rfl, rfl, rfl, oa, oc, hne, hbr⟩ := hrel
      by_cases hk64 : k < 64
      · have i1 : (0 : Int) ≤ (k : Int) ∧ (k : Int) < 64 := by omega
        have hl1 : Hid (k = ((veil pad 54).take k).length) := by show _ = _; rw [List.length_take, veil_len, hpl.out]; omega
        have hl2 : Hid (k = ((veil pad 92).take k).length) := by show _ = _; rw [List.length_take, veil_len, hpl.out]; omega
        have e1 := hide (veil_take pad 54 k (by rw [hpl.out]; exact hk64))
        have e2 := hide (veil_take pad 92 k (by rw [hpl.out]; exact hk64))
        have hz := hbr.size
        have hk1 : Hid (k + 1 ≤ 1000) := by show _ ≤ _; omega
        have HP2 : Hid (∀ (w5 : World) (g5 c5 : Nat) (zs : List Int) (x : Int), OwnB w5 w.heap.size gc cc ((veil pad 92).take k) → OwnB w5 w.heap.size g5 c5 zs → g5 ≠ gc → w.heap.size ≤ w5.heap.size → ∀ ty, ∃ v' w', (Builtin.append_ #[29, 29] ty #[.slice (some ⟨gc, 0, none⟩) k cc, .slice (some ⟨w5.heap.size, 0, none⟩) 1 1]).run Tryd.prog (w5.alloc (.cells #[.int .u8 x] 5)) = .ok v' w' ∧
          ((∃ g' cap', v' = .slice (some ⟨g', 0, none⟩) (k + 1) cap' ∧ OwnB w' w.heap.size g' cap' ((veil pad 92).take k ++ [x]) ∧ g' ≠ g5) ∧ OwnB w' w.heap.size g5 c5 zs ∧ Tn gc w5 w')) := fun w5 g5 c5 zs x h1 h2 h3 h4 ty => pushB2 ty h1 h2 (Ne.symm h3) hl2.out hk1.out h4
        by_cases hkn : k < n
        · have hp := hpg.out k hk64
          rw [if_pos hkn] at hp
          rw [hp] at e1 e2
          obtain ⟨bK, oK, rfl, hbK2, hcK⟩ := (sK.bel hbr).at k hkn
          have i2 : (k : Int) < (n : Int) := by omega
          generalize K.getD k 0 = x at *
          have HP1 := hide (fun ty => pushB2 (x := bits .xor .u8 x 54) ty oa oc hne hl1.out hk1.out hz)
          clear hp
          go_wp2_with (first | (at_builtin; refine wpList_appG (.tmp 31) (.tmp 34) _ _ _ HP1.out rfl rfl rfl rfl ?_; rintro v5 w5 ⟨⟨g5, c5, rfl, o5, n5⟩, u5, t5⟩; have z5 := Nat.le_trans hz t5.size) | (at_builtin; refine wpList_appG (.tmp 36) (.tmp 39) _ _ _ (HP2.out w5 g5 c5 _ _ u5 o5 n5 z5) rfl rfl rfl rfl ?_; rintro v6 w6 ⟨⟨g6, c6, rfl, o6, n6⟩, u6, t6⟩))
          go_roundw
          case rel => exact ⟨k + 1, g5, c5, g6, c6, by omega, by go_num, rfl, rfl, by rw [e1.out]; exact u6, by rw [e2.out]; exact o6, Ne.symm n6, bel_tn (bel_tn hbr t5 oa.ge) t6 oc.ge⟩
          case measure => simp [intOf]; omega
        · have hp := hpg.out k hk64
          rw [if_neg hkn] at hp
          rw [hp] at e1 e2
          have i2 : (n : Int) ≤ (k : Int) := by omega
          have HP1 := hide (fun ty => pushB2 (x := bits .xor .u8 0 54) ty oa oc hne hl1.out hk1.out hz)
          clear hp
          go_wp2_with (first | (at_builtin; refine wpList_appG (.tmp 31) (.tmp 34) _ _ _ HP1.out rfl rfl rfl rfl ?_; rintro v5 w5 ⟨⟨g5, c5, rfl, o5, n5⟩, u5, t5⟩; have z5 := Nat.le_trans hz t5.size) | (at_builtin; refine wpList_appG (.tmp 36) (.tmp 39) _ _ _ (HP2.out w5 g5 c5 _ _ u5 o5 n5 z5) rfl rfl rfl rfl ?_; rintro v6 w6 ⟨⟨g6, c6, rfl, o6, n6⟩, u6, t6⟩))
          go_roundw
          case rel => exact ⟨k + 1, g5, c5, g6, c6, by omega, by go_num, rfl, rfl, by rw [e1.out]; exact u6, by rw [e2.out]; exact o6, Ne.symm n6, bel_tn (bel_tn hbr t5 oa.ge) t6 oc.ge⟩
          case measure => simp [intOf]; omega
      · have e : k = 64 := by omega
        subst e
        rw [List.take_of_length_le (by rw [veil_len, hpl.out]; decide)] at oa oc
        have hla : Hid ((veil pad 54).length = 64) := by show _ = _; rw [veil_len]; exact hpl.out
        have hlc : Hid ((veil pad 92).length = 64) := by show _ = _; rw [veil_len]; exact hpl.out
        have Fa := hide (veil_fit pad 54)
        have Fc := hide (veil_fit pad 92)
        generalize veil pad 54 = va at *
        generalize veil pad 92 = vc at *
        have HA := hide (fun ty => app_tnB ty oa (hbB.bel hbr) (by rw [hla.out, ← Em.out]; have := HLB.out; have := Em.out; omega) hbr.size)
        rw [hla.out, ← Em.out] at HA
        have hm9 : m ≤ 90000 := by have := HLB.out; have := Em.out; omega
        go_wp2_with (first | (at_builtin; refine wpList_appG (.tmp 44) (.tmp 45) _ _ _ HA.out rfl rfl rfl rfl ?_; rintro v5 w5 ⟨⟨g5, c5, rfl, o5⟩, t5⟩))
        have hb5 : Below w.heap.size w w5 := bel_tn hbr t5 oa.ge
        have oc5 := oc.tn t5 (Ne.symm hne)
        have s5 : SB w5 (.slice (some ⟨g5, 0, none⟩) (64 + m) c5) (va ++ b) := by
          have := o5.sl (fit8_app Fa.out hb.fits)
          rw [List.length_append, hla.out, ← Em.out] at this
          exact this
        refine (HOF.out _ (va ++ b) w5 (hhK.bel hb5) s5 (by rw [List.length_append, hla.out, ← Em.out]; omega)).mono ?_
        rintro e w6 ⟨g6, c6, rfl, o6, hb6⟩
        have s6 : SB w6 (.slice (some ⟨g6, 0, none⟩) 32 c6) (sha (va ++ b)) := by
          have := o6.sl (sha_fit _)
          rw [sha_len] at this
          exact this
        have oc6 := oc5.below hb6
        have HC := hide (fun ty => app_tnB ty oc6 s6 (by rw [hlc.out, sha_len]; decide) (Nat.le_trans hb5.size hb6.size))
        rw [hlc.out, sha_len] at HC
        go_wp2_with (first | (at_builtin; refine wpList_appG (.tmp 42) (.tmp 47) _ _ _ HC.out rfl rfl rfl rfl ?_; rintro v7 w7 ⟨⟨g7, c7, rfl, o7⟩, t7⟩))
        have hb7 : Below w.heap.size w w7 := bel_tn (bel_trans hb5 hb6) t7 oc6.ge
        have s7 : SB w7 (.slice (some ⟨g7, 0, none⟩) 96 c7) (vc ++ sha (va ++ b)) := by
          have := o7.sl (fit8_app Fc.out (sha_fit _))
          rw [List.length_append, hlc.out, sha_len] at this
          exact this
        refine (HOF.out _ (vc ++ sha (va ++ b)) w7 (hhK.bel hb7) s7 (by rw [List.length_append, hlc.out, sha_len]; decide)).mono ?_
        rintro e w8 ⟨g8, c8, rfl, o8, hb8⟩
        have hbw7 := bel_trans hbK hb7
        go_wp2_with fail
        go_ret
        exact ⟨g8, c8, rfl, by rw [EH.out]; exact o8.down hbw7.size, bel_trans hbw7 hb8⟩

end Go.Proofs.YtejhhkhaoekkiaaDoor.Ck
