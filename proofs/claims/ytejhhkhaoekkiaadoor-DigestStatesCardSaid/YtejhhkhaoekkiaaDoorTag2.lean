/- The contracts of a key's Tag, and of Tag. -/
import Derived.Test.YtejhhkhaoekkiaaDoorTag
import Derived.Test.YtejhhkhaoekkiaaDoorThere
namespace Go.Proofs.YtejhhkhaoekkiaaDoor.Ck
open Go.RowKit

set_option maxRecDepth 20000 in
set_option maxHeartbeats 1000000 in
theorem ktag_any (gk : Nat) (key m : List Int) (v : Value) (w : World) (hk : Ky w gk key) (hv : SB w v m) (hl : m.length ≤ 800000000) (htab : Tab w) :
    Calls Tryd.prog 19 #[.pointer (some ⟨gk, 0, none⟩), v] w fun e w' => e = .returned (.agg (bv (hmac key m)).toArray) ∧ Below w.heap.size w w' := by
  have HL := hide hl
  have h0 := htab.1
  clear hl
  obtain ⟨gi, go, hkb, hsi, hso, _, _⟩ := hk
  have hvi : Hid ((veil (pad64 key) 54).length = 64) := by show _ = _; rw [veil_len, pad64_len]
  have hvo : Hid ((veil (pad64 key) 92).length = 64) := by show _ = _; rw [veil_len, pad64_len]
  have eh : Hid (hmac key m = sha (veil (pad64 key) 92 ++ sha (veil (pad64 key) 54 ++ m))) := rfl
  generalize hmac key m = H at *
  generalize veil (pad64 key) 54 = vi at *
  generalize veil (pad64 key) 92 = vo at *
  obtain ⟨inn, einn⟩ : ∃ inn, inn = sha (vi ++ m) := ⟨_, rfl⟩
  have hil : Hid (inn.length = 32) := by show _ = _; rw [einn, sha_len]
  have hif : Hid (Fit8 inn) := by show Fit8 inn; rw [einn]; exact sha_fit _
  have hHl : Hid ((bv H).length = 32) := by show _ = _; rw [eh.out, bv_len, sha_len]
  have Ei := hide einn
  clear einn
  have q0 := hkb.cell 0
  have q1 := hkb.cell 1
  simp only [List.getElem?_cons_zero, List.getElem?_cons_succ] at q0 q1
  have hgk := hkb.lt
  go_enter Tryd.func19, Tryd.ntmps19
  go_wp2_with (first | (refine wpList_new 37 _ zero37 4 rfl rfl rfl ?_; intro w1 g1 e1 b1 hb1 s1; have q0 := (hb1.cell (p := ⟨gk, 0, none⟩) hgk).trans q0))
  refine (copy_any gi vi w1 (hsi.bel hb1)).mono ?_
  rintro e w2 ⟨g2, rfl, hs2, hg2, hb2⟩
  have hb12 := bel_trans hb1 hb2
  have hz1 := hb1.size
  go_wp2_with fail
  have hoff : Hid (OffB g2 v) := hv.off (Nat.le_trans hz1 hg2)
  refine (take_any g2 vi m v w2 hs2 (hv.bel hb12) hoff.out (htab.bel hb12) (by omega) (by have := HL.out; rw [hvi.out]; omega)).mono ?_
  rintro e w3 ⟨rfl, hs3, t3⟩
  have hb3 : Below w.heap.size w w3 := bel_tn hb12 t3 (by omega)
  go_wp2_with fail
  refine (sum_any g2 (vi ++ m) w3 hs3 (by have := HL.out; rw [List.length_append, hvi.out]; omega) (htab.bel hb3)).mono ?_
  rintro e w4 ⟨rfl, hb4⟩
  have hb4w := bel_trans hb3 hb4
  rw [← Ei.out]
  have hg1lt : g1 < w1.heap.size := b1.lt
  have b1 := ((b1.bel hb2).tn t3 (by omega)).bel hb4
  have hsz5 : Hid ((Tryd.prog.info? 37).map (·.size) = some (bv inn).length) := by show _ = _; rw [bv_len, hil.out]; exact info37
  have hl5 : Hid ((List.replicate 32 (Value.int .u8 0)).length = (bv inn).length) := by show _ = _; rw [bv_len, hil.out]; rfl
  go_wp2_with (first | (refine wpList_new 37 _ zero37 5 rfl rfl rfl ?_; intro w5 g5 e5 b5 hb5 s5) | (refine wpList_lay 37 (.tmp 5) (.tmp 13) g5 37 _ (bv inn) b5 hl5.out hsz5.out (bv_one _) rfl rfl rfl rfl ?_; intro w6 b6 t6 s6))
  have hb5w := bel_trans hb4w hb5
  have hb6 : Below w.heap.size w w6 := bel_tn hb5w t6 (by rw [e5.out]; exact hb4w.size)
  have b1 := (b1.bel hb5).tn t6 (by have := e5.out; have := b1.lt; omega)
  have q1 := (hb6.cell (p := ⟨gk, 1, none⟩) hgk).trans q1
  have ht1 : w6.there g1 0 32 := b1.there
  have HSB : Hid (∀ w', Blk w' g5 37 (bv inn) → SB w' (.slice (some ⟨g5, 0, none⟩) 32 32) inn) := fun w' h => by
    have := SB.of_blk h (by rw [hil.out]; unfold maxLen; omega) hif.out
    rw [hil.out] at this
    exact this
  have hso := hide (hso.bel hb6)
  have htab6 := hide (htab.bel hb6)
  have hg5 := b6.lt
  have hg1 := b1.lt
  have hz6 := hb6.size
  have hgk6 : gk < w6.heap.size := Nat.lt_of_lt_of_le hgk hz6
  have hge1 : Hid (w.heap.size ≤ g1) := by show _ ≤ _; rw [e1.out]; exact Nat.le_refl _
  have hne1 : gk ≠ g1 := Nat.ne_of_lt (Nat.lt_of_lt_of_le hgk hge1.out)
  have hu := Tryd.underlying37
  have hi : (Tryd.prog.info? 37).map (·.size) = some (bv H).length := by rw [hHl.out]; exact info37
  have h1 := bv_one H
  have hH32 := hHl.out
  clear hb1 hb2 hb3 hb4 hb4w hb5 hb5w hb12 t3 t6 b5 s1 s5 s6 e1 e5 hs2 hs3 hsz5 hl5 hsi hkb
  go_region_held3 (fun w' => w'.cell? ⟨gk, 1, none⟩ = some (.pointer (some ⟨go, 0, none⟩)) ∧ w'.there g1 0 32) (first | (exact ⟨by assumption, by assumption⟩) | (exact ⟨((tn_setCells g1 _ _ _).1.cell ⟨gk, 1, none⟩ hgk9 hne1).trans (by assumption), World.there_setCells (by assumption) _ _ _⟩))
    (first
      | (go_at_call 12; refine (copy_any go vo w6.drew hso.out).mono ?_; rintro e w7 ⟨g7, rfl, hs7, hg7, hb7⟩; have hb7 : Below w6.heap.size w6 w7 := ⟨hb7.os, hb7.tape, hb7.output, hb7.size, hb7.block⟩; have q7 := (hb7.cell (p := ⟨gk, 1, none⟩) hgk6).trans q1; have ht7 := there_bel ht1 hg1 hb7)
      | (go_at_call 10; refine (take_any g7 vo inn _ w7 hs7 (HSB.out w7 (b6.bel hb7)) (fun a n c e _ => by cases e; exact Nat.ne_of_lt (Nat.lt_of_lt_of_le hg5 hg7)) (htab6.out.bel hb7) (by have : w6.heap.size ≤ g7 := hg7; omega) (by rw [hvo.out, hil.out]; decide)).mono ?_; rintro e w8 ⟨rfl, hs8, t8⟩; have q8 := (t8.cell ⟨gk, 1, none⟩ (Nat.lt_of_lt_of_le hgk6 hb7.size) (Nat.ne_of_lt (Nat.lt_of_lt_of_le hgk6 hg7))).trans q7; have ht8 := there_tn ht7 (Nat.lt_of_lt_of_le hg1 hb7.size) t8 (Nat.ne_of_lt (Nat.lt_of_lt_of_le hg1 hg7)); have hb8 : Below w6.heap.size w6 w8 := hb7.trans (t8.bel hg7 hb7.size))
      | (go_at_call 13; refine (sum_any g7 (vo ++ inn) w8 hs8 (by rw [List.length_append, hvo.out, hil.out]; decide) (htab6.out.bel hb8)).mono ?_; rintro e w9 ⟨rfl, hb9⟩; have q9 := (hb9.cell (p := ⟨gk, 1, none⟩) (Nat.lt_of_lt_of_le hgk6 hb8.size)).trans q8; have ht9 := there_bel ht8 (Nat.lt_of_lt_of_le hg1 hb8.size) hb9; have hgk9 : gk < w9.heap.size := Nat.lt_of_lt_of_le (Nat.lt_of_lt_of_le hgk6 hb8.size) hb9.size; rw [show sha (vo ++ inn) = H by rw [eh.out, Ei.out]]))
  have hr9 : (w9.setCells g1 0 (bv H)).rangeAt g1 0 (bv H) := World.rangeAt_setCells_same _ _ _ _ (by rw [hHl.out]; exact ht9)
  have t9 := (tn_setCells g1 (bv H) 0 w9).1
  go_wp2_with fail
  refine ret_range g1 (bv H) rfl rfl hr9 hu rfl hi rfl ⟨rfl, ?_⟩
  have hb69 : Below w6.heap.size w6 w9 := hb8.trans (hb9.mono hb8.size)
  exact bel_tn (bel_trans hb6 hb69) t9 hge1.out

set_option maxRecDepth 20000 in
set_option maxHeartbeats 1000000 in
theorem tag_any (key m : List Int) (vk v : Value) (w : World) (hk : SB w vk key) (hv : SB w v m) (hlk : key.length ≤ 800000000) (hl : m.length ≤ 800000000) (htab : Tab w) :
    Calls Tryd.prog 18 #[vk, v] w fun e w' => e = .returned (.agg (bv (hmac key m)).toArray) ∧ Below w.heap.size w w' := by
  have HL := hide hl
  have HK := hide hlk
  clear hl hlk
  go_enter Tryd.func18, Tryd.ntmps18
  go_wp2_with (first | (refine wpList_new 37 _ zero37 4 rfl rfl rfl ?_; intro w1 g1 e1 b1 hb1 s1))
  refine (tagged_any key vk w1 (hk.bel hb1) (by have := HK.out; omega) (htab.bel hb1)).mono ?_
  rintro e w2 ⟨gk, rfl, hk2, hgk, hb2⟩
  have hb12 := bel_trans hb1 hb2
  go_wp2_with fail
  refine (ktag_any gk key m v w2 hk2 (hv.bel hb12) HL.out (htab.bel hb12)).mono ?_
  rintro e w3 ⟨rfl, hb3⟩
  have b1 := (b1.bel hb2).bel hb3
  have hHl : Hid ((bv (hmac key m)).length = 32) := by show _ = _; rw [bv_len]; exact sha_len _
  have hsz : Hid ((Tryd.prog.info? 37).map (·.size) = some (bv (hmac key m)).length) := by show _ = _; rw [hHl.out]; exact info37
  have hl0 : Hid ((List.replicate 32 (Value.int .u8 0)).length = (bv (hmac key m)).length) := by show _ = _; rw [hHl.out]; rfl
  go_wp2_with (first | (refine wpList_lay 37 (.tmp 4) (.tmp 8) g1 37 _ (bv (hmac key m)) b1 hl0.out hsz.out (bv_one _) rfl rfl rfl rfl ?_; intro w9 d2 t2 s2))
  refine ret_row g1 37 (bv (hmac key m)) rfl rfl d2 Tryd.underlying37 rfl hsz.out rfl ⟨rfl, bel_tn (bel_trans hb12 hb3) t2 (by rw [e1.out]; exact Nat.le_refl _)⟩

end Go.Proofs.YtejhhkhaoekkiaaDoor.Ck
