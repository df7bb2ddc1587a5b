/- The contract of the statements' own alive: the chapter's two examples. -/
import Derived.Test.YtejhhkhaoekkiaaDoorStr
import Derived.Test.YtejhhkhaoekkiaaDoorEval
namespace Go.Proofs.YtejhhkhaoekkiaaDoor.Ck
open Go.RowKit

theorem cut6 {w : World} {g : Nat} {S : List Int} (hb : Blk w g 37 (bv S)) (hl : S.length = 32) (hf : Fit8 S) : SB w (.slice (some ⟨g, 0, none⟩) 6 32) (S.take 6) := by
  have h6 : (S.take 6).length = 6 := by rw [List.length_take, hl]; rfl
  refine ⟨fit8_take hf 6, some ⟨g, 0, none⟩, 32, by rw [h6], by rw [h6]; decide, by unfold maxLen; omega, fun i hi => ⟨g, 0, rfl, hb.lt, ?_⟩⟩
  rw [h6] at hi
  rw [Nat.zero_add, hb.cell, bv_at _ _ (by omega)]
  simp only [List.getD, List.getElem?_take_of_lt hi]

set_option maxRecDepth 20000 in
set_option maxHeartbeats 1000000 in
theorem alive_any (w : World) (htab : Tab w) :
    Calls Tryd.prog 6 #[] w fun e w' => e = .returned (.bool true) ∧ Below w.heap.size w w' := by
  have HS := hide sha_none
  have HH := hide hmac_jefe
  have hl1 : Hid ((sha []).length = 32) := sha_len _
  have hl2 : Hid ((hmac jefe want28).length = 32) := sha_len _
  have hf1 : Hid (Fit8 (sha [])) := sha_fit _
  have hf2 : Hid (Fit8 (hmac jefe want28)) := sha_fit _
  have kc := fun (w : World) (C : Array Value) (n c : Nat) => Lib.run_convert_bytes_const (P := Tryd.prog) w 29 5 C n c Tryd.underlying29 Tryd.underlying5
  have kc2 : ∀ (w : World) (o : Obj) (C : Array Value) (n c : Nat), (convert 29 29 (.slice (some ⟨w.heap.size + 1, 0, none⟩) n c)).run Tryd.prog ((w.alloc o).alloc (.cells C 5)) = .ok (.slice (some ⟨w.heap.size + 1, 0, none⟩) n c) ((w.alloc o).alloc (.cells C 5 (C.size, C.size + 1))) := fun w o C n c => by
    have := kc (w.alloc o) C n c
    rw [show (w.alloc o).heap.size = w.heap.size + 1 by simp] at this
    exact this
  go_enter Tryd.func6, Tryd.ntmps6
  go_wp2_with fail
  refine (of_any [] _ w (SB.nilS w) (by decide) htab).mono ?_
  rintro e w1 ⟨rfl, hb1⟩
  generalize sha [] = S at *
  have hszS : Hid ((Tryd.prog.info? 37).map (·.size) = some (bv S).length) := by show _ = _; rw [bv_len, hl1.out]; exact info37
  have hlS : Hid ((List.replicate 32 (Value.int .u8 0)).length = (bv S).length) := by show _ = _; rw [bv_len, hl1.out]; rfl
  go_wp2_with (first | (refine wpList_new 37 _ zero37 1 rfl rfl rfl ?_; intro w2 g2 e2 b2 hb2 s2) | (refine wpList_lay 37 (.tmp 1) (.tmp 3) g2 37 _ (bv S) b2 hlS.out hszS.out (bv_one _) rfl rfl rfl rfl ?_; intro w3 b3 t3 s3))
  have hb3 : Below w.heap.size w w3 := bel_tn (bel_trans hb1 hb2) t3 (by rw [e2.out]; exact hb1.size)
  have hb4 := bel_al (bel_al hb3 (.cells (bv jefe).toArray 5 (4, 5))) (.cells (bv want28).toArray 5 (28, 29))
  have o1 : SB ((w3.alloc (.cells (bv jefe).toArray 5 (4, 5))).alloc (.cells (bv want28).toArray 5 (28, 29))) (.slice (some ⟨w3.heap.size, 0, none⟩) 4 4) jefe :=
    (SB.marked w3 jefe (4, 5) (by decide) (by unfold Fit8 jefe; decide)).bel (bel_new _ _)
  have o2 : SB ((w3.alloc (.cells (bv jefe).toArray 5 (4, 5))).alloc (.cells (bv want28).toArray 5 (28, 29))) (.slice (some ⟨w3.heap.size + 1, 0, none⟩) 28 28) want28 := by
    have := SB.marked (w3.alloc (.cells (bv jefe).toArray 5 (4, 5))) want28 (28, 29) (by decide) (by unfold Fit8 want28; decide)
    rw [show (w3.alloc (.cells (bv jefe).toArray 5 (4, 5))).heap.size = w3.heap.size + 1 by simp] at this
    exact this
  refine (tag_any jefe want28 _ _ _ o1 o2 (by decide) (by decide) (htab.bel hb4)).mono ?_
  rintro e w5 ⟨rfl, hb5⟩
  have hb5w := bel_trans hb4 hb5
  have b5 := ((b3.bel (bel_new w3 (.cells (bv jefe).toArray 5 (4, 5)))).bel (bel_new _ (.cells (bv want28).toArray 5 (28, 29)))).bel hb5
  clear o1 o2 hb4 hb5
  generalize hmac jefe want28 = T at *
  have hszT : Hid ((Tryd.prog.info? 37).map (·.size) = some (bv T).length) := by show _ = _; rw [bv_len, hl2.out]; exact info37
  have hlT : Hid ((List.replicate 32 (Value.int .u8 0)).length = (bv T).length) := by show _ = _; rw [bv_len, hl2.out]; rfl
  go_wp2_with (first | (refine wpList_new 37 _ zero37 2 rfl rfl rfl ?_; intro w6 g6 e6 b6 hb6 s6) | (refine wpList_lay 37 (.tmp 2) (.tmp 8) g6 37 _ (bv T) b6 hlT.out hszT.out (bv_one _) rfl rfl rfl rfl ?_; intro w7 b7 t7 s7; have b57 := (b5.bel hb6).tn t7 (by rw [e6.out]; exact Nat.ne_of_lt b5.lt); have k1 := conv_str (cut6 b57 hl1.out hf1.out); have k2 := conv_str (cut6 b7 hl2.out hf2.out); rw [HS.out] at k1; rw [HH.out] at k2; have m1 := strOf_toList [227, 176, 196, 66, 152, 252]; have m2 := strOf_toList [91, 220, 193, 70, 191, 96]; have m1 : _ = [(227 : UInt8), 176, 196, 66, 152, 252] := m1; have m2 : _ = [(91 : UInt8), 220, 193, 70, 191, 96] := m2))
  go_ret
  exact ⟨rfl, bel_tn (bel_trans hb5w hb6) t7 (by rw [e6.out]; exact hb5w.size)⟩

end Go.Proofs.YtejhhkhaoekkiaaDoor.Ck
