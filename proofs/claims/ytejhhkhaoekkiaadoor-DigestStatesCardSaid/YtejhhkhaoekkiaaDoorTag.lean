/- The contracts of Tagged, of a key's Tag, and of Tag. -/
import Derived.Test.YtejhhkhaoekkiaaDoorEq
namespace Go.Proofs.YtejhhkhaoekkiaaDoor.Ck
open Go.RowKit

/-- a key that is kept lies in block gk -/
def Ky (w : World) (gk : Nat) (key : List Int) : Prop := ∃ gi go, Blk w gk 64 [.pointer (some ⟨gi, 0, none⟩), .pointer (some ⟨go, 0, none⟩)] ∧ St w gi (veil (pad64 key) 54) ∧ St w go (veil (pad64 key) 92) ∧ gi ≠ 0 ∧ go ≠ 0
theorem Ky.bel {w w' : World} {gk : Nat} {key : List Int} (h : Ky w gk key) (hb : Below w.heap.size w w') : Ky w' gk key := by
  obtain ⟨gi, go, h1, h2, h3, h4, h5⟩ := h
  exact ⟨gi, go, h1.bel hb, h2.bel hb, h3.bel hb, h4, h5⟩

theorem build_key (a b : Addr) (w : World) : (Instr.build 64 #[(0, .pointer (some a)), (1, .pointer (some b))]).run Tryd.prog w = .ok (.agg #[.pointer (some a), .pointer (some b)]) w := by kernel_rfl
theorem rangeAt_bel {w w' : World} {g o : Nat} {cs : List Value} (h : w.rangeAt g o cs) (hg : g < w.heap.size) (hb : Below w.heap.size w w') : w'.rangeAt g o cs := fun j v hv => (hb.cell (p := ⟨g, o + j, none⟩) hg).trans (h j v hv)

set_option maxRecDepth 20000 in
set_option maxHeartbeats 1000000 in
theorem tagged_any (key : List Int) (v : Value) (w : World) (hv : SB w v key) (hl : key.length ≤ 900000000) (htab : Tab w) :
    Calls Tryd.prog 16 #[v] w fun e w' => ∃ gk, e = .returned (.pointer (some ⟨gk, 0, none⟩)) ∧ Ky w' gk key ∧ w.heap.size ≤ gk ∧ Below w.heap.size w w' := by
  have HL := hide hl
  have h0 := htab.1
  clear hl
  go_enter Tryd.func16, Tryd.ntmps16
  go_wp2_with fail
  refine (padded_any key v w hv HL.out htab).mono ?_
  rintro e w1 ⟨rfl, hb1⟩
  have hpl : Hid ((pad64 key).length = 64) := pad64_len key
  generalize epad : pad64 key = pad at *
  have EP := hide epad
  clear epad
  have hsz : Hid ((Tryd.prog.info? 55).map (·.size) = some (bv pad).length) := by show _ = _; rw [bv_len, hpl.out]; exact info57
  have hl0 : Hid ((List.replicate 64 (Value.int .u8 0)).length = (bv pad).length) := by show _ = _; rw [bv_len, hpl.out]; rfl
  go_wp2_with (first | (refine wpList_new 55 _ zero57 3 rfl rfl rfl ?_; intro w2 g2 e2 b2 hb2 s2) | (refine wpList_lay 55 (.tmp 3) (.tmp 5) g2 55 _ (bv pad) b2 hl0.out hsz.out (bv_one _) rfl rfl rfl rfl ?_; intro w3 b3 t3 s3))
  have hb3 : Below w.heap.size w w3 := bel_tn (bel_trans hb1 hb2) t3 (by rw [e2.out]; exact hb1.size)
  have htab3 := htab.bel hb3
  have hr0 : w3.rangeAt g2 0 (bv pad) := b3.range 0 _ (fun j _ => by rw [Nat.zero_add])
  have hbk := build_key
  have hg2 := b3.lt
  refine wp_region_held_drew (S := fun w' => w'.rangeAt g2 0 (bv pad)) mixed hr0 (fun hH => ?_)
  refine wpAnyH_take (i := 0) (v := .agg (bv pad).toArray) rfl (by kernel_rfl) (by kernel_rfl) (by kernel_rfl) (fun _ _ _ h => h) (yieldsIf_load_mid (by rfl) 55 (.tmp 3) rfl g2 0 rfl (bv pad) _ (fun _ h => h) Tryd.underlying55 rfl hsz.out) hH ?_
  refine wpAnyH_take (i := 2) (v := .agg (bv pad).toArray) rfl (by kernel_rfl) (by kernel_rfl) (by kernel_rfl) (fun _ _ _ h => h) (yieldsIf_load_mid (by rfl) 55 (.tmp 3) rfl g2 0 rfl (bv pad) _ (fun _ h => h) Tryd.underlying55 rfl hsz.out) hH ?_
  simp only [Act.put, List.setIfInBounds_toArray, List.set_cons_zero, List.set_cons_succ]
  refine wpAnyH_ready (rs := [1]) (by kernel_rfl) (by decide) ?_
  refine AllReadyH.cons rfl (fun K1 hK1 => ?_) AllReadyH.nil
  go_simp
  refine (veiled_any pad 54 hpl.out w3.drew htab3).mono ?_
  rintro e wa ⟨ga, rfl, hsa, hga, hba⟩
  have hba : Below w3.heap.size w3 wa := ⟨hba.os, hba.tape, hba.output, hba.size, hba.block⟩
  have hra := rangeAt_bel hr0 hg2 hba
  refine hK1.out _ _ hra (fun _ => ?_)
  clear hK1 K1
  refine wpAnyH_ready (rs := [3]) (by kernel_rfl) (by decide) ?_
  refine AllReadyH.cons rfl (fun K1 hK1 => ?_) AllReadyH.nil
  go_simp
  refine (veiled_any pad 92 hpl.out wa (htab3.bel hba)).mono ?_
  rintro e wb ⟨gb, rfl, hsb, hgb, hbb⟩
  have hrb := rangeAt_bel hra (Nat.lt_of_lt_of_le hg2 hba.size) hbb
  refine hK1.out _ _ hrb (fun _ => ?_)
  clear hK1 K1
  refine wpAnyH_ready (rs := [4]) (by kernel_rfl) (by decide) ?_
  refine AllReadyH.cons rfl (fun K1 hK1 => ?_) AllReadyH.nil
  go_simp
  refine hK1.out _ _ hrb (fun _ => ?_)
  clear hK1 K1
  refine wpAnyH_ready (rs := [5]) (by kernel_rfl) (by decide) ?_
  refine AllReadyH.cons rfl (fun K1 hK1 => ?_) AllReadyH.nil
  go_simp
  refine hK1.out _ _ (World.rangeAt_alloc hrb _) (fun _ => ?_)
  clear hK1 K1
  refine wpAnyH_ready (rs := [6]) (by kernel_rfl) (by decide) ?_
  refine AllReadyH.cons rfl (fun K1 hK1 => ?_) AllReadyH.nil
  go_simp
  refine hK1.out _ _ (World.rangeAt_alloc hrb _) (fun _ => ?_)
  clear hK1 K1
  refine wpAnyH_done (by kernel_rfl) ?_ _
  go_wp2_with fail
  go_ret
  have hz := hb3.size
  have hz2 := hba.size
  have hz3 := hbb.size
  have hga' : w3.heap.size ≤ ga := hga
  refine ⟨wb.heap.size, rfl, ⟨ga, gb, Blk.new wb [.pointer (some ⟨ga, 0, none⟩), .pointer (some ⟨gb, 0, none⟩)] 64, by rw [EP.out]; exact (hsa.bel hbb).bel (bel_new _ _), by rw [EP.out]; exact hsb.bel (bel_new _ _), by omega, by omega⟩, ?_, bel_al (bel_trans (bel_trans hb3 hba) hbb) _⟩
  omega

end Go.Proofs.YtejhhkhaoekkiaaDoor.Ck
