/- The contracts of a key's pad, of a veiled pad, and of Equal. -/
import Derived.Test.YtejhhkhaoekkiaaDoorEnd
namespace Go.Proofs.YtejhhkhaoekkiaaDoor.Ck
open Go.RowKit

theorem rowB_fit (H : List Int) : Fit8 (rowB H) := fun z hz => by
  obtain ⟨i, _, rfl⟩ := List.mem_map.1 hz
  omega
theorem sha_fit (m : List Int) : Fit8 (sha m) := rowB_fit _
def keyOf (key : List Int) : List Int := if key.length > 64 then sha key else key
theorem keyOf_len (key : List Int) : (keyOf key).length ≤ 64 := by
  unfold keyOf
  split
  · rw [sha_len]; decide
  · omega
theorem pad64_eq (key : List Int) : pad64 key = keyOf key ++ List.replicate (64 - (keyOf key).length) 0 := rfl
theorem pad64_len (key : List Int) : (pad64 key).length = 64 := by
  have := keyOf_len key
  rw [pad64_eq]
  simp
  omega
theorem keyOf_fit {key : List Int} (h : Fit8 key) : Fit8 (keyOf key) := by
  unfold keyOf
  split
  · exact sha_fit _
  · exact h
theorem pad64_fit {key : List Int} (h : Fit8 key) : Fit8 (pad64 key) := by
  rw [pad64_eq]
  exact fit8_app (keyOf_fit h) (fun z hz => by rw [List.eq_of_mem_replicate hz]; decide)
theorem xor8 (x y : Int) : 0 ≤ bits .xor .u8 x y ∧ bits .xor .u8 x y < 256 := by
  show 0 ≤ IntKind.u8.wrap _ ∧ IntKind.u8.wrap _ < 256
  simp [IntKind.wrap, IntKind.bits, IntKind.signed]
  omega
theorem veil_len (pad : List Int) (mask : Int) : (veil pad mask).length = pad.length := by simp [veil]
theorem veil_fit (pad : List Int) (mask : Int) : Fit8 (veil pad mask) := fun z hz => by
  obtain ⟨i, _, rfl⟩ := List.mem_map.1 hz
  exact xor8 _ _
theorem pad_splice (k : List Int) (_h : k.length ≤ 64) : splice (List.replicate 64 (Value.int .u8 0)) 0 (bv k) = bv (k ++ List.replicate (64 - k.length) 0) := by
  unfold splice bv
  rw [List.take_zero, List.nil_append, List.map_append, List.length_map, Nat.zero_add, List.drop_replicate, List.map_replicate]

set_option maxRecDepth 20000 in
set_option maxHeartbeats 1000000 in
theorem padded_any (key : List Int) (v : Value) (w : World) (hv : SB w v key) (hl : key.length ≤ 900000000) (htab : Tab w) :
    Calls Tryd.prog 28 #[v] w fun e w' => e = .returned (.agg (bv (pad64 key)).toArray) ∧ Below w.heap.size w w' := by
  have HL := hide hl
  obtain ⟨a, c, rfl, hc1, hc2⟩ := hv.form
  unfold maxLen at hc2
  obtain ⟨n, en⟩ : ∃ n, n = key.length := ⟨_, rfl⟩
  have En := hide en
  rw [← en] at hv hc1 hl ⊢
  clear en
  have hsz : Hid ((Tryd.prog.info? 55).map (·.size) = some (bv (pad64 key)).length) := by show _ = _; rw [bv_len, pad64_len]; exact info57
  have hl0 : Hid ((List.replicate 64 (Value.int .u8 0)).length = (bv (pad64 key)).length) := by show _ = _; rw [bv_len, pad64_len]; rfl
  go_enter Tryd.func28, Tryd.ntmps28
  by_cases hbig : 64 < n
  · have hbigI : (64 : Int) < (n : Int) := by omega
    have ek : Hid (keyOf key = sha key) := by show _ = _; unfold keyOf; rw [if_pos (by rw [← En.out]; exact hbig)]
    go_wp2_with (first | (refine wpList_new 55 _ zero57 2 rfl rfl rfl ?_; intro w2 g2 e2 b2 hb2 s2) | (refine wpList_new 55 _ zero57 3 rfl rfl rfl ?_; intro w3 g3 e3 b3 hb3 s3))
    have hb := bel_trans hb2 hb3
    refine (of_any key _ w3 (hv.bel hb) HL.out (htab.bel hb)).mono ?_
    rintro e w4 ⟨rfl, hb4⟩
    have hsz2 : Hid ((Tryd.prog.info? 37).map (·.size) = some (bv (sha key)).length) := by show _ = _; rw [bv_len, sha_len]; exact info37
    have hl2 : Hid ((List.replicate 32 (Value.int .u8 0)).length = (bv (sha key)).length) := by show _ = _; rw [bv_len, sha_len]; rfl
    have HN : Hid ((bv (sha key)).length = Nat.min 32 64) := by show _ = _; rw [bv_len, sha_len]; rfl
    have HF : Hid (0 + (bv (sha key)).length ≤ (List.replicate 64 (Value.int .u8 0)).length) := by show _ ≤ _; rw [bv_len, sha_len]; decide
    have HP : Hid (splice (List.replicate 64 (Value.int .u8 0)) 0 (bv (sha key)) = bv (pad64 key)) := by show _ = _; rw [pad_splice _ (by rw [sha_len]; decide), pad64_eq, ek.out]
    have hne : Hid (g3 ≠ g2 ∧ w.heap.size ≤ g3 ∧ w.heap.size ≤ g2 ∧ g3 < w4.heap.size) := by
      have := e2.out; have := e3.out; have := s2.out; have := b3.lt; have := hb4.size
      refine ⟨?_, ?_, ?_, ?_⟩ <;> omega
    have hbw4 := bel_trans hb hb4
    have b2 := (b2.bel hb3).bel hb4
    have b3 := b3.bel hb4
    clear e2 s2 hb2 e3 s3 hb3 hb4 hb
    go_wp2_with (first | (refine wpList_new 37 _ zero37 4 rfl rfl rfl ?_; intro w5 g5 e5 b5 hb5 s5) | (refine wpList_lay 37 (.tmp 4) (.tmp 9) g5 37 _ (bv (sha key)) b5 hl2.out hsz2.out (bv_one _) rfl rfl rfl rfl ?_; intro w6 b6 t6 s6) | (refine wpList_copyB (.tmp 11) (.tmp 12) g3 0 64 64 _ 32 32 _ 55 ((b3.bel hb5).tn t6 (by rw [e5.out]; exact Nat.ne_of_lt hne.out.2.2.2)) (bv (sha key)) HN.out (fun _ => ⟨⟨g5, 0, none⟩, rfl, fun j u hu => by rw [Addr.add_mid, Nat.zero_add, b6.cell]; exact hu⟩) HF.out (bv_one _) rfl rfl rfl rfl ?_; intro w7 b7 t7 s7; rw [HP.out] at b7) | (refine wpList_load_mid rfl 55 (.tmp 3) rfl g3 0 rfl (bv (pad64 key)) _ (b7.range 0 _ (fun j _ => by rw [Nat.zero_add])) Tryd.underlying55 rfl hsz.out ?_) | (refine wpList_lay 55 (.tmp 2) (.tmp 14) g2 55 _ (bv (pad64 key)) (((b2.bel hb5).tn t6 (by rw [e5.out]; exact Nat.ne_of_lt b2.lt)).tn t7 hne.out.1.symm) hl0.out hsz.out (bv_one _) rfl rfl rfl rfl ?_; intro w8 b8 t8 s8))
    have hb5w : Below w.heap.size w w5 := bel_trans hbw4 hb5
    have hb6 : Below w.heap.size w w6 := bel_tn hb5w t6 (by rw [e5.out]; exact hbw4.size)
    have hb7 : Below w.heap.size w w7 := bel_tn hb6 t7 hne.out.2.1
    refine ret_row g2 55 (bv (pad64 key)) rfl rfl b8 Tryd.underlying55 rfl hsz.out rfl ⟨rfl, bel_tn hb7 t8 hne.out.2.2.1⟩
  · have hbigI : (n : Int) ≤ 64 := by omega
    have ek : Hid (keyOf key = key) := by show _ = _; unfold keyOf; rw [if_neg (by rw [← En.out]; exact hbig)]
    have HN : Hid ((bv key).length = Nat.min n 64) := by show _ = _; rw [bv_len, ← En.out]; exact (Nat.min_eq_left (by omega)).symm
    have HF : Hid (0 + (bv key).length ≤ (List.replicate 64 (Value.int .u8 0)).length) := by show _ ≤ _; rw [bv_len, ← En.out, List.length_replicate]; omega
    have HP : Hid (splice (List.replicate 64 (Value.int .u8 0)) 0 (bv key) = bv (pad64 key)) := by show _ = _; rw [pad_splice _ (by rw [← En.out]; omega), pad64_eq, ek.out]
    have HS : Hid (∀ w', SB w' (.slice a n c) key → 0 < (bv key).length → ∃ ad, a = some ad ∧ ∀ j u, (bv key)[j]? = some u → w'.cell? (ad.add j) = some u) := fun w' h hpos => by
      rcases app_srcB h with ⟨ad, c', e1, e2⟩ | ⟨c', e1, e2⟩
      · cases e1; exact ⟨_, rfl, e2⟩
      · rw [e2] at hpos; simp [bv] at hpos
    go_wp2_with (first | (refine wpList_new 55 _ zero57 2 rfl rfl rfl ?_; intro w2 g2 e2 b2 hb2 s2) | (refine wpList_new 55 _ zero57 3 rfl rfl rfl ?_; intro w3 g3 e3 b3 hb3 s3) | (refine wpList_copyB (.tmp 11) (.tmp 12) g3 0 64 64 _ n c _ 55 b3 (bv key) HN.out (HS.out _ (hv.bel (bel_trans hb2 hb3))) HF.out (bv_one _) rfl rfl rfl rfl ?_; intro w7 b7 t7 s7; rw [HP.out] at b7) | (refine wpList_load_mid rfl 55 (.tmp 3) rfl g3 0 rfl (bv (pad64 key)) _ (b7.range 0 _ (fun j _ => by rw [Nat.zero_add])) Tryd.underlying55 rfl hsz.out ?_) | (refine wpList_lay 55 (.tmp 2) (.tmp 14) g2 55 _ (bv (pad64 key)) ((b2.bel hb3).tn t7 (by rw [e3.out]; exact Nat.ne_of_lt b2.lt)) hl0.out hsz.out (bv_one _) rfl rfl rfl rfl ?_; intro w8 b8 t8 s8))
    have hb := bel_trans hb2 hb3
    have hb7 : Below w.heap.size w w7 := bel_tn hb t7 (by rw [e3.out]; exact hb2.size)
    refine ret_row g2 55 (bv (pad64 key)) rfl rfl b8 Tryd.underlying55 rfl hsz.out rfl ⟨rfl, bel_tn hb7 t8 (by rw [e2.out]; exact Nat.le_refl _)⟩

end Go.Proofs.YtejhhkhaoekkiaaDoor.Ck
