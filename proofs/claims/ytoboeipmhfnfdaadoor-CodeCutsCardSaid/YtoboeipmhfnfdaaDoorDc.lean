/- Package code: numbers and an instruction are written. -/
import Derived.Test.YtoboeipmhfnfdaaDoorDb
namespace Go.Proofs.YtoboeipmhfnfdaaDoor.Ck
open Go.RowKit

theorem Ch.off {G G' : Nat → Prop} {w w' : World} {b : Nat} (h : Ch G G' w w') (hb : b < w.heap.size) (hn : ¬ G b) : ¬ G' b := fun e => by
  rcases h.grow b e with h1 | h1
  · exact hn h1
  · omega
theorem wrapU_nat {z : Nat} (h : z ≤ 9223372036854775807) : IntKind.u64.wrap (z : Int) = (z : Int) := by
  first
  | (simp [IntKind.wrap]; omega)
  | (simp [IntKind.wrap, IntKind.signed, IntKind.bits]; omega)
theorem take_flat {α : Type} {l : List α} {d : α} {f : α → List Int} {k : Nat} (h : k < l.length) : (l.take (k + 1)).flatMap f = (l.take k).flatMap f ++ f (l.getD k d) := by
  rw [List.take_add_one, List.getD_eq_getElem?_getD, List.getElem?_eq_getElem h]
  simp only [Option.toList_some, List.flatMap_append, List.flatMap_cons, List.flatMap_nil, List.append_nil, Option.getD_some]
theorem flat4 (l : List Int) : (l.flatMap (bigL 4)).length = 4 * l.length := by
  induction l with
  | nil => rfl
  | cons a l ih => rw [List.flatMap_cons, List.length_append, ih, bigL_len, List.length_cons]; omega
set_option maxRecDepth 20000 in
set_option maxHeartbeats 4000000 in
theorem numbers_any {w : World} {g : Nat} {G : Nat → Prop} {l : List Int} {v : Value} {zs : List Int} (h : Wr w g G l) (hs : ∀ G' w', Ch G G' w w' → Sl w' v zs) (hz : ∀ z ∈ zs, 0 ≤ z) (hl : l.length + 4 * zs.length ≤ 900000) :
    Calls Tryd.prog 49 #[.pointer (some ⟨g, 0, none⟩), v] w fun e w' => e = .returned (.tuple #[]) ∧ ∃ G', Wr w' g G' (l ++ zs.flatMap (bigL 4)) ∧ Ch G G' w w' := by
  obtain ⟨av, cv, ev, _, _⟩ := (hs G w (Ch.refl _ _)).form
  have HF := hide (hs G w (Ch.refl _ _)).fits
  have HZ := hide hz
  have HS := hide hs
  have H0 := hide h
  have HLL := hide hl
  obtain ⟨n, hn⟩ : ∃ n, n = zs.length := ⟨_, rfl⟩
  rw [← hn] at ev
  subst ev
  have HN := hide hn
  have hn9 : n ≤ 225000 := by omega
  clear h hs hz hl hn
  go_enter Tryd.func49, Tryd.ntmps49
  go_wp2_with fail
  go_loopw [5, 8] (fun u i wr => ∃ (k : Nat) (G1 : Nat → Prop), k ≤ n ∧ i = .int .i64 k ∧ Hid (Wr wr g G1 (l ++ (zs.take k).flatMap (bigL 4))) ∧ Hid (Ch G G1 w wr)) (fun u i _ => n - (intOf i).toNat)
  case atStart => exact ⟨0, G, Nat.zero_le _, rfl, hide (by simpa using H0.out), hide (Ch.refl _ _)⟩
  case round =>
    obtain ⟨k, G1, hk, rfl, X, C⟩ := hrel
    clear H0
    by_cases hlt : k < n
    · have h1 : (k : Int) < (n : Int) := by omega
      obtain ⟨b, off, rfl, hbl, hc⟩ := (HS.out _ _ C.out).at k hlt
      have hmem : zs.getD k 0 ∈ zs := by
        rw [List.getD_eq_getElem?_getD, List.getElem?_eq_getElem (by have := HN.out; omega)]
        exact List.getElem_mem _
      obtain ⟨z, hz⟩ : ∃ z : Nat, zs.getD k 0 = z := ⟨(zs.getD k 0).toNat, by have := HZ.out _ hmem; omega⟩
      have ew := wrapU_nat (z := z) (by have := (HF.out _ hmem).2; omega)
      have TK := hide (take_flat (l := zs) (d := 0) (f := bigL 4) (k := k) (by have := HN.out; omega))
      rw [hz] at hc TK
      have WR := hide (write_any X.out 4 (by decide) z (by rw [List.length_append, flat4, List.length_take]; have := HLL.out; omega))
      clear hz hmem X
      go_wp2_with fail
      refine WR.out.mono ?_
      rintro e w2 ⟨rfl, G2, X2, C2⟩
      rw [List.append_assoc, ← TK.out] at X2
      have R2 := hide (And.intro X2 (C.out.trans C2))
      clear X2 C2 WR TK C hc
      go_wp2_with fail
      go_roundw
      case rel => exact ⟨k + 1, G2, by omega, by go_num, hide R2.out.1, hide R2.out.2⟩
      case measure => simp [intOf]; omega
    · obtain rfl : k = n := by omega
      go_wp2_with fail
      go_end0
      refine ⟨rfl, G1, ?_, C.out⟩
      have := X.out
      rw [HN.out, List.take_length] at this
      exact this
set_option maxRecDepth 20000 in
set_option maxHeartbeats 4000000 in
theorem winstr_any {w : World} {g : Nat} {G : Nat → Prop} {l : List Int} (h : Wr w g G l) (o a b t at_ : Nat) (ho : o ≤ 9223372036854775807) (ha : a ≤ 9223372036854775807) (hb : b ≤ 9223372036854775807) (hat : at_ ≤ 9223372036854775807) (hl : l.length + 25 ≤ 900000) :
    Calls Tryd.prog 50 #[.pointer (some ⟨g, 0, none⟩), .agg #[.int .i64 (o : Int), .int .i64 (a : Int), .int .i64 (b : Int), .int .u64 (t : Int), .int .i64 (at_ : Int)]] w fun e w' => e = .returned (.tuple #[]) ∧ ∃ G', Wr w' g G' (l ++ wIns ⟨o, a, b, t, at_⟩) ∧ Ch G G' w w' := by
  have w1 := wrapU_nat ho
  have w2 := wrapU_nat ha
  have w3 := wrapU_nat hb
  have w5 := wrapU_nat hat
  have HL := hide hl
  obtain ⟨bx, hbx⟩ : ∃ bx, bx = w.heap.size := ⟨_, rfl⟩
  have BX := hide (show (w.alloc (.cells #[.int .i64 (o : Int), .int .i64 (a : Int), .int .i64 (b : Int), .int .u64 (t : Int), .int .i64 (at_ : Int)] 57)).heap[w.heap.size]? = some (.cells #[.int .i64 (o : Int), .int .i64 (a : Int), .int .i64 (b : Int), .int .u64 (t : Int), .int .i64 (at_ : Int)] 57 (0, 0)) from Go.Deep.blk_alloc_new _ _)
  have NG : Hid (¬ G w.heap.size) := hide (fun e => by obtain ⟨v, hv⟩ := h; have := hv.lt e; omega)
  have X0 := hide (h.bel (bel_new w (.cells #[.int .i64 (o : Int), .int .i64 (a : Int), .int .i64 (b : Int), .int .u64 (t : Int), .int .i64 (at_ : Int)] 57)))
  have C0 := hide (Ch.of_bel (F := G) (bel_new w (.cells #[.int .i64 (o : Int), .int .i64 (a : Int), .int .i64 (b : Int), .int .u64 (t : Int), .int .i64 (at_ : Int)] 57)))
  rw [← hbx] at BX NG
  have HBX := hide hbx
  clear h ho ha hb hat hl hbx
  go_enter Tryd.func50, Tryd.ntmps50
  have c0 := blk_cell BX.out 0 _ rfl
  rw [HBX.out] at c0
  go_wp2_with fail
  rw [← HBX.out]
  generalize w.alloc (.cells #[.int .i64 (o : Int), .int .i64 (a : Int), .int .i64 (b : Int), .int .u64 (t : Int), .int .i64 (at_ : Int)] 57) = v0 at *
  clear c0 HBX
  refine (write_any X0.out 1 (by decide) o (by have := HL.out; first | omega | (simp only [List.length_append, bigL_len]; omega))).mono ?_
  rintro e v1 ⟨rfl, G1, x1, c1⟩
  have BX1 := hide ((c1.blk bx (lt_of_blk BX.out) NG.out).trans BX.out)
  have NG1 := hide (c1.off (lt_of_blk BX.out) NG.out)
  have X1 := hide x1
  have C1 := hide (C0.out.trans c1)
  clear x1 c1 X0 C0
  have q1 := blk_cell BX1.out 1 _ rfl
  go_wp2_with fail
  clear q1
  refine (write_any X1.out 8 (by decide) a (by have := HL.out; first | omega | (simp only [List.length_append, bigL_len]; omega))).mono ?_
  rintro e v2 ⟨rfl, G2, x2, c2⟩
  have BX2 := hide ((c2.blk bx (lt_of_blk BX1.out) NG1.out).trans BX1.out)
  have NG2 := hide (c2.off (lt_of_blk BX1.out) NG1.out)
  have X2 := hide x2
  have C2 := hide (C1.out.trans c2)
  clear x2 c2 X1 C1
  have q2 := blk_cell BX2.out 2 _ rfl
  go_wp2_with fail
  clear q2
  refine (write_any X2.out 4 (by decide) b (by have := HL.out; first | omega | (simp only [List.length_append, bigL_len]; omega))).mono ?_
  rintro e v3 ⟨rfl, G3, x3, c3⟩
  have BX3 := hide ((c3.blk bx (lt_of_blk BX2.out) NG2.out).trans BX2.out)
  have NG3 := hide (c3.off (lt_of_blk BX2.out) NG2.out)
  have X3 := hide x3
  have C3 := hide (C2.out.trans c3)
  clear x3 c3 X2 C2
  have q3 := blk_cell BX3.out 3 _ rfl
  go_wp2_with fail
  clear q3
  refine (write_any X3.out 8 (by decide) t (by have := HL.out; first | omega | (simp only [List.length_append, bigL_len]; omega))).mono ?_
  rintro e v4 ⟨rfl, G4, x4, c4⟩
  have BX4 := hide ((c4.blk bx (lt_of_blk BX3.out) NG3.out).trans BX3.out)
  have NG4 := hide (c4.off (lt_of_blk BX3.out) NG3.out)
  have X4 := hide x4
  have C4 := hide (C3.out.trans c4)
  clear x4 c4 X3 C3
  have q4 := blk_cell BX4.out 4 _ rfl
  go_wp2_with fail
  clear q4
  refine (write_any X4.out 4 (by decide) at_ (by have := HL.out; first | omega | (simp only [List.length_append, bigL_len]; omega))).mono ?_
  rintro e v5 ⟨rfl, G5, x5, c5⟩
  have X5 := hide x5
  have C5 := hide (C4.out.trans c5)
  clear x5 c5 X4 C4
  go_wp2_with fail
  go_end0
  refine ⟨rfl, G5, ?_, C5.out⟩
  have := X5.out
  simp only [List.append_assoc] at this
  exact this
end Go.Proofs.YtoboeipmhfnfdaaDoor.Ck
