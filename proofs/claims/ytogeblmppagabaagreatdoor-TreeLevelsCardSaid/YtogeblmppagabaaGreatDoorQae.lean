/- Texts of this proof, packed: contracts of the program's functions, and the plain model that they are held against. -/
import Derived.Test.YtogeblmppagabaaGreatDoorQad
import Derived.LoopTactic
/- The contract of the reader's integer. -/
namespace Go.Proofs.YtogeblmppagabaaGreatDoor.Ck
open Go.RowKit

theorem overF_all (p : Int → Bool) (s : ByteArray) (i k : Nat) (h1 : i ≤ k) (h2 : k < overF p s i) : p (byte s k) = true := by
  rw [overF] at h2
  split at h2
  · split at h2
    · rename_i hp
      by_cases hk : k = i
      · rw [hk]; exact hp
      · exact overF_all p s (i + 1) k (by omega) h2
    · omega
  · omega
termination_by s.size - i
theorem cut_mem {s : ByteArray} {i j : Nat} {c : UInt8} (h : c ∈ (cut s i j).data.toList) : ∃ k, i ≤ k ∧ k < j ∧ k < s.size ∧ c = b8 s k := by
  unfold cut at h
  rw [cut_list] at h
  obtain ⟨n, hn, he⟩ := List.mem_iff_getElem.1 h
  have hl : s.data.toList.length = s.size := rfl
  simp only [List.length_take, List.length_drop] at hn
  rw [List.getElem_take, List.getElem_drop] at he
  refine ⟨i + n, by omega, by omega, by omega, ?_⟩
  have := byte_list s (i + n) (by omega)
  rw [he] at this
  rw [byte_b8] at this
  exact (UInt8.toNat_inj.1 (by omega)).symm
theorem endI_digits {s : ByteArray} {i : Nat} (hd : isDigit (byte s i) = true) {c : UInt8} (h : c ∈ (cut s i (endI s i)).data.toList) : 48 ≤ c.toNat ∧ c.toNat ≤ 57 := by
  obtain ⟨k, h1, h2, h3, rfl⟩ := cut_mem h
  have : isDigit (byte s k) = true := by
    unfold endI at h2
    split at h2
    · rw [show k = i by omega]; exact hd
    · exact overF_all _ _ _ _ h1 h2
  rw [byte_b8] at this
  unfold isDigit at this
  simp at this
  omega
theorem parse_nosyn : ∀ (l : List UInt8) (a : Nat), (∀ c ∈ l, 48 ≤ c.toNat ∧ c.toNat ≤ 57) → Lib.parseUint10 a l ≠ .syntax
  | [], a, _ => by simp [Lib.parseUint10]
  | c :: r, a, h => by
    unfold Lib.parseUint10
    rw [if_pos (h c (by simp))]
    split
    · simp
    · split
      · simp
      · exact parse_nosyn r _ (fun x hx => h x (by simp [hx]))
theorem atoi_nosyn (l : List UInt8) (hne : l ≠ []) (h : ∀ c ∈ l, 48 ≤ c.toNat ∧ c.toNat ≤ 57) : Lib.atoiAll l ≠ .syntax := by
  cases l with
  | nil => exact absurd rfl hne
  | cons c r =>
    have hc := h c (by simp)
    have hp := parse_nosyn (c :: r) 0 h
    unfold Lib.atoiAll Lib.parseMag
    simp only [show ¬ (c.toNat = 43 ∨ c.toNat = 45) by omega, if_false, List.cons_ne_nil]
    cases hq : Lib.parseUint10 0 (c :: r) with
    | ok u =>
      simp only
      split
      · simp
      · split <;> simp
    | «syntax» => exact absurd hq hp
    | range => simp
theorem cut_size {s : ByteArray} {i j : Nat} (h : j ≤ s.size) : (cut s i j).size = j - i := by unfold cut; rw [ByteArray.size_extract]; omega

theorem atoi_any (t : ByteArray) (w : World) (hs : t.size ≤ 9000) (v : Int) (h : Lib.atoiAll t.data.toList = .ok v) :
    Calls Tryz.prog 143 #[.string t] w fun e w' => e = .returned (.tuple #[.int .i64 v, .nilIface]) ∧ Below w.heap.size w w' :=
  (Tryz.strconv_Atoi_ok t (by omega) v h w).mono fun _ _ h => ⟨h.1, by
    rcases h.2 with rfl | ⟨t, rfl⟩
    · exact Below.refl _ _
    · exact Lib.bytesWorld_below _ _ _⟩
theorem atoi_bad (t : ByteArray) (p : List Addr) (w : World) (he : Er w p) (hs : t.size ≤ 9000) (h : Lib.atoiAll t.data.toList = .range) :
    Calls Tryz.prog 143 #[.string t] w fun e w' => (∃ z N, e = .returned (.tuple #[.int .i64 z, .iface 169 (.pointer (some ⟨N, 0, none⟩))])) ∧ Below w.heap.size w w' := by
  obtain ⟨te, pe, hc⟩ := he.cs
  exact (Tryz.strconv_Atoi_range t (by omega) h _ w hc (.inr ⟨te, pe, rfl⟩)).mono fun _ _ ⟨N, h1, _, _, h4⟩ => ⟨⟨_, N, h1⟩, h4⟩

/-- behind the text's copy -/
def rest (s : ByteArray) (i j : Nat) : Got :=
  match Lib.atoiAll (cut s i j).data.toList with
  | .ok v => if tight s j = true then .bad 1 j else .ok ⟨3, cut s i j, v, 0, i⟩ j
  | _ => .bad 0 i
theorem intF_rest (s : ByteArray) (i : Nat) : intF s i = rest s i (endI s i) := rfl

set_option maxHeartbeats 1000000 in
theorem int_any (g : Nat) (s : ByteArray) (i : Nat) (p : List Addr) (w : World) (h : Rdr w g s i) (he : Er w p) (hG : 23 ≤ g) (hs : s.size ≤ 9000) (hi : i < s.size) (hd : isDigit (byte s i) = true) :
    Calls Tryz.prog 113 #[.pointer (some ⟨g, 0, none⟩)] w fun e w' => Post g s p w e w' (intF s i) := by
  have hb0 := hide (bel_new w tokZ)
  have hz0 : Hid (Tok (w.alloc tokZ) w.heap.size (.int .i64 0) (.string ⟨#[]⟩) (.int .i64 0) (.int .u64 0) (.int .i64 0)) := Go.Deep.blk_alloc_new _ _
  have H0 := hide (h.below hb0.out)
  have E0 := hide (he.bel hb0.out)
  have g1 := H0.out.src
  have g2 := H0.out.pos
  have g3 := H0.out.frz 1
  have hne : w.heap.size ≠ g := Nat.ne_of_gt (lt_of_blk h)
  have HD := hide hd
  have hbe := byte_eq s i hi
  have hee := endI_gt s i hi hd
  have hlt := lt_of_blk h
  have HN : Hid (Lib.atoiAll (cut s i (endI s i)).data.toList ≠ .syntax) := by
    refine atoi_nosyn _ (fun e => ?_) (fun c hc => endI_digits hd hc)
    have h1 : (cut s i (endI s i)).data.toList.length = (cut s i (endI s i)).size := rfl
    rw [e, cut_size hee.2] at h1
    simp at h1
    omega
  rw [intF_rest]
  have HH := hide h
  have HE := hide he
  clear h he hd
  unfold tokZ at *
  obtain ⟨j, hj⟩ : ∃ j, endI s i = j := ⟨_, rfl⟩
  rw [hj] at hee HN ⊢
  have HJ := hide hj
  clear hj
  go_enter Tryz.func113, Tryz.ntmps113
  by_cases h48 : byte s i = 48
  · have hj1 : j = i + 1 := by rw [← HJ.out]; unfold endI; rw [if_pos h48]
    have h48 : ((s[i]'hi).toNat : Int) = 48 := hbe.symm.trans h48
    obtain ⟨hr, ht⟩ := HH.out.set j ((i : Int) + 1) (by omega)
    have hse : (w.setCell ⟨g, 1, none⟩ (.int .i64 ((i : Int) + 1))).heap.size = w.heap.size := by simp [World.setCell]
    have hbA := bel_new (w.setCell ⟨g, 1, none⟩ (.int .i64 ((i : Int) + 1))) (.cells #[.int .i64 0, .string ⟨#[]⟩, .int .i64 0, .int .u64 0, .int .i64 0] 67)
    have RA := hide (hr.below hbA)
    have TA := hide (ht.trans (Tn.of_bel hbA))
    have EA := hide ((HE.out.tn ht hG).bel hbA)
    have ZA := Tok.new (w.setCell ⟨g, 1, none⟩ (.int .i64 ((i : Int) + 1))) (.int .i64 0) (.string ⟨#[]⟩) (.int .i64 0) (.int .u64 0) (.int .i64 0)
    rw [hse] at ZA
    have ZA := hide ZA
    clear hr ht hbA hse hz0 H0 E0 hb0 HH HE
    go_wp2_with fail
    generalize (w.setCell ⟨g, 1, none⟩ (.int .i64 ((i : Int) + 1))).alloc (.cells #[.int .i64 0, .string ⟨#[]⟩, .int .i64 0, .int .u64 0, .int .i64 0] 67) = wA at *
    clear g1 g2 g3 hbe hj1 h48 hlt HJ
    refine (since_any g s i j 3 _ RA.out hs (Nat.le_of_lt hee.1) hee.2).mono ?_
    rintro e w2 ⟨rfl, hb2⟩
    have R2 := hide (RA.out.below hb2)
    have T2 := hide (TA.out.trans (Tn.of_bel hb2))
    have Z2 := hide (ZA.out.bel hb2)
    have E2 := hide (EA.out.bel hb2)
    have hN2 : w.heap.size < w2.heap.size := lt_of_blk Z2.out
    clear RA EA ZA TA hb2
    go_wp2_with fail
    have hb3 := bel_new w2 (.cells #[.int .i64 3, .string (cut s i j), .int .i64 0, .int .u64 0, .int .i64 i] 67)
    have Y3 := hide (Tok.new w2 (.int .i64 3) (.string (cut s i j)) (.int .i64 0) (.int .u64 0) (.int .i64 i))
    have R3 := hide (R2.out.below hb3)
    have T3 := hide (T2.out.trans (Tn.of_bel hb3))
    have Z3 := hide (Z2.out.bel hb3)
    have E3 := hide (E2.out.bel hb3)
    have hgn : g ≠ w2.heap.size := Nat.ne_of_lt (lt_of_blk R2.out)
    have hnn : w.heap.size ≠ w2.heap.size := Nat.ne_of_lt hN2
    clear R2 T2 Z2 hb3 E2
    generalize w2.alloc (.cells #[.int .i64 3, .string (cut s i j), .int .i64 0, .int .u64 0, .int .i64 i] 67) = w3 at *
    generalize w2.heap.size = n at *
    cases hA : Lib.atoiAll (cut s i j).data.toList with
    | «syntax» => exact absurd hA HN.out
    | range =>
      have HR : Hid (rest s i j = .bad 0 i) := by show _ = _; unfold rest; rw [hA]
      refine (atoi_bad (cut s i j) p w3 E3.out (by rw [cut_size hee.2]; omega) hA).mono ?_
      rintro e w4 ⟨⟨z, n4, rfl⟩, hb4⟩
      have T4 := hide (T3.out.trans (Tn.of_bel hb4))
      have x0 := (E3.out.bel hb4).c0
      clear R3 T3 Z3 E3 Y3 hb4 hA
      go_wp2_with fail
      refine (refuse_any _ _ i _).mono ?_
      rintro e w5 ⟨rfl, rfl⟩
      refine ⟨rfl, ?_⟩
      rw [HR.out]
      exact ⟨rfl, T4.out⟩
    | ok v =>
      have HR : Hid (rest s i j = if tight s j = true then .bad 1 j else .ok ⟨3, cut s i j, v, 0, i⟩ j) := by show _ = _; unfold rest; rw [hA]
      refine (atoi_any (cut s i j) w3 (by rw [cut_size hee.2]; omega) v hA).mono ?_
      rintro e w4 ⟨rfl, hb4⟩
      have T4 := hide (T3.out.trans (Tn.of_bel hb4))
      have R4 := hide (R3.out.below hb4)
      have Y4 := hide (Y3.out.bel hb4)
      have Z4 := hide (Z3.out.bel hb4)
      have E4 := hide (E3.out.bel hb4)
      clear R3 T3 Z3 E3 Y3 hb4 hA
      by_cases htt : tight s j = true
      · rw [if_pos htt] at HR
        go_wp2_with fail
        refine (apart_yes g s j p w4 R4.out E4.out htt).mono ?_
        rintro e w5 ⟨rfl, k, rfl⟩
        refine ⟨rfl, ?_⟩
        rw [HR.out]
        exact ⟨rfl, T4.out.drewN k⟩
      · rw [if_neg htt] at HR
        go_wp2_with fail
        refine (apart_no g s j w4 R4.out (by simpa using htt)).mono ?_
        rintro e w5 ⟨rfl, k, rfl⟩
        have T5 := hide (T4.out.drewN k)
        have R5 := hide (R4.out.drewN k)
        have Y5 : Hid (Tok (w4.drewN k) n (.int .i64 3) (.string (cut s i j)) (.int .i64 0) (.int .u64 0) (.int .i64 i)) := Y4.out
        have Z5 : Hid (Tok (w4.drewN k) w.heap.size (.int .i64 0) (.string ⟨#[]⟩) (.int .i64 0) (.int .u64 0) (.int .i64 0)) := Z4.out
        clear T4 R4 Y4 Z4 E4
        generalize w4.drewN k = w5 at *
        obtain ⟨⟨f0, f1, f2, f3, f4⟩, c0, c1, c2, c3, c4⟩ := Y5.out.all
        obtain ⟨y6, t6⟩ := set1 Y5.out 2 (.int .i64 v)
        have Y6 : Hid (Tok (w5.setCell ⟨n, 2, none⟩ (.int .i64 v)) n (.int .i64 3) (.string (cut s i j)) (.int .i64 v) (.int .u64 0) (.int .i64 i)) := y6
        have T6 := hide t6
        have z6 := Z5.out.tn t6 hnn
        obtain ⟨⟨m0, m1, m2, m3, m4⟩, k0, k1, k2, k3, k4⟩ := Y6.out.all
        obtain ⟨⟨a0, a1, a2, a3, a4⟩, b0, b1, b2, b3, b4⟩ := z6.all
        obtain ⟨z7, t7⟩ := set5 z6 (.int .i64 3) (.string (cut s i j)) (.int .i64 v) (.int .u64 0) (.int .i64 i)
        have Z7 := hide z7
        have T7 := hide t7
        clear y6 z6 z7 t6 t7
        go_wp2_with fail
        refine ret_tok w.heap.size rfl rfl Z7.out rfl ?_
        rw [HR.out]
        exact ⟨rfl, (R5.out.tn T6.out hgn).tn T7.out (Ne.symm hne), (T5.out.own T6.out (Nat.le_of_lt hN2)).own T7.out (Nat.le_refl _)⟩
  · have hj1 : Hid (j = overF isDigit s i) := by show _ = _; rw [← HJ.out]; unfold endI; rw [if_neg h48]
    have h48 : (((s[i]'hi).toNat : Int) == 48) = false := by rw [beq_eq_false_iff_ne]; intro e; exact h48 (hbe.trans e)
    go_wp2_with fail
    generalize w.alloc (.cells #[.int .i64 0, .string ⟨#[]⟩, .int .i64 0, .int .u64 0, .int .i64 0] 67) = w0 at *
    refine (over_digit g s i w0 H0.out hs (Nat.le_of_lt hi)).mono ?_
    rintro e wA ⟨rfl, r1, t1⟩
    rw [← hj1.out] at r1
    have RA := hide r1
    have TA := hide ((Tn.of_bel hb0.out).trans t1)
    have EA := hide (E0.out.tn t1 hG)
    have ZA := hide (hz0.out.tn t1 hne)
    clear r1 t1 hz0 H0 E0 hb0 HH HE g1 g2 g3 hbe hj1 h48 hlt HJ
    go_wp2_with fail
    refine (since_any g s i j 3 _ RA.out hs (Nat.le_of_lt hee.1) hee.2).mono ?_
    rintro e w2 ⟨rfl, hb2⟩
    have R2 := hide (RA.out.below hb2)
    have T2 := hide (TA.out.trans (Tn.of_bel hb2))
    have Z2 := hide (ZA.out.bel hb2)
    have E2 := hide (EA.out.bel hb2)
    have hN2 : w.heap.size < w2.heap.size := lt_of_blk Z2.out
    clear RA EA ZA TA hb2
    go_wp2_with fail
    have hb3 := bel_new w2 (.cells #[.int .i64 3, .string (cut s i j), .int .i64 0, .int .u64 0, .int .i64 i] 67)
    have Y3 := hide (Tok.new w2 (.int .i64 3) (.string (cut s i j)) (.int .i64 0) (.int .u64 0) (.int .i64 i))
    have R3 := hide (R2.out.below hb3)
    have T3 := hide (T2.out.trans (Tn.of_bel hb3))
    have Z3 := hide (Z2.out.bel hb3)
    have E3 := hide (E2.out.bel hb3)
    have hgn : g ≠ w2.heap.size := Nat.ne_of_lt (lt_of_blk R2.out)
    have hnn : w.heap.size ≠ w2.heap.size := Nat.ne_of_lt hN2
    clear R2 T2 Z2 hb3 E2
    generalize w2.alloc (.cells #[.int .i64 3, .string (cut s i j), .int .i64 0, .int .u64 0, .int .i64 i] 67) = w3 at *
    generalize w2.heap.size = n at *
    cases hA : Lib.atoiAll (cut s i j).data.toList with
    | «syntax» => exact absurd hA HN.out
    | range =>
      have HR : Hid (rest s i j = .bad 0 i) := by show _ = _; unfold rest; rw [hA]
      refine (atoi_bad (cut s i j) p w3 E3.out (by rw [cut_size hee.2]; omega) hA).mono ?_
      rintro e w4 ⟨⟨z, n4, rfl⟩, hb4⟩
      have T4 := hide (T3.out.trans (Tn.of_bel hb4))
      have x0 := (E3.out.bel hb4).c0
      clear R3 T3 Z3 E3 Y3 hb4 hA
      go_wp2_with fail
      refine (refuse_any _ _ i _).mono ?_
      rintro e w5 ⟨rfl, rfl⟩
      refine ⟨rfl, ?_⟩
      rw [HR.out]
      exact ⟨rfl, T4.out⟩
    | ok v =>
      have HR : Hid (rest s i j = if tight s j = true then .bad 1 j else .ok ⟨3, cut s i j, v, 0, i⟩ j) := by show _ = _; unfold rest; rw [hA]
      refine (atoi_any (cut s i j) w3 (by rw [cut_size hee.2]; omega) v hA).mono ?_
      rintro e w4 ⟨rfl, hb4⟩
      have T4 := hide (T3.out.trans (Tn.of_bel hb4))
      have R4 := hide (R3.out.below hb4)
      have Y4 := hide (Y3.out.bel hb4)
      have Z4 := hide (Z3.out.bel hb4)
      have E4 := hide (E3.out.bel hb4)
      clear R3 T3 Z3 E3 Y3 hb4 hA
      by_cases htt : tight s j = true
      · rw [if_pos htt] at HR
        go_wp2_with fail
        refine (apart_yes g s j p w4 R4.out E4.out htt).mono ?_
        rintro e w5 ⟨rfl, k, rfl⟩
        refine ⟨rfl, ?_⟩
        rw [HR.out]
        exact ⟨rfl, T4.out.drewN k⟩
      · rw [if_neg htt] at HR
        go_wp2_with fail
        refine (apart_no g s j w4 R4.out (by simpa using htt)).mono ?_
        rintro e w5 ⟨rfl, k, rfl⟩
        have T5 := hide (T4.out.drewN k)
        have R5 := hide (R4.out.drewN k)
        have Y5 : Hid (Tok (w4.drewN k) n (.int .i64 3) (.string (cut s i j)) (.int .i64 0) (.int .u64 0) (.int .i64 i)) := Y4.out
        have Z5 : Hid (Tok (w4.drewN k) w.heap.size (.int .i64 0) (.string ⟨#[]⟩) (.int .i64 0) (.int .u64 0) (.int .i64 0)) := Z4.out
        clear T4 R4 Y4 Z4 E4
        generalize w4.drewN k = w5 at *
        obtain ⟨⟨f0, f1, f2, f3, f4⟩, c0, c1, c2, c3, c4⟩ := Y5.out.all
        obtain ⟨y6, t6⟩ := set1 Y5.out 2 (.int .i64 v)
        have Y6 : Hid (Tok (w5.setCell ⟨n, 2, none⟩ (.int .i64 v)) n (.int .i64 3) (.string (cut s i j)) (.int .i64 v) (.int .u64 0) (.int .i64 i)) := y6
        have T6 := hide t6
        have z6 := Z5.out.tn t6 hnn
        obtain ⟨⟨m0, m1, m2, m3, m4⟩, k0, k1, k2, k3, k4⟩ := Y6.out.all
        obtain ⟨⟨a0, a1, a2, a3, a4⟩, b0, b1, b2, b3, b4⟩ := z6.all
        obtain ⟨z7, t7⟩ := set5 z6 (.int .i64 3) (.string (cut s i j)) (.int .i64 v) (.int .u64 0) (.int .i64 i)
        have Z7 := hide z7
        have T7 := hide t7
        clear y6 z6 z7 t6 t7
        go_wp2_with fail
        refine ret_tok w.heap.size rfl rfl Z7.out rfl ?_
        rw [HR.out]
        exact ⟨rfl, (R5.out.tn T6.out hgn).tn T7.out (Ne.symm hne), (T5.out.own T6.out (Nat.le_of_lt hN2)).own T7.out (Nat.le_refl _)⟩

end Go.Proofs.YtogeblmppagabaaGreatDoor.Ck

/- The contract of the reader's going over a float's digits. -/
namespace Go.Proofs.YtogeblmppagabaaGreatDoor.Ck
open Go.RowKit

set_option maxHeartbeats 1000000 in
theorem float1_any (g bR bF : Nat) (s : ByteArray) (i j : Nat) (c : Int) (w : World) (h : Rdr w g s j) (hr : w.cell? ⟨bR, 0, none⟩ = some (.pointer (some ⟨g, 0, none⟩))) (hf : w.cell? ⟨bF, 0, none⟩ = some (.int .i64 i)) (hs : s.size ≤ 9000) (hj : j ≤ s.size) (hij : i ≤ j) :
    Calls Tryz.prog 145 #[.int .u8 c, .pointer (some ⟨bR, 0, none⟩), .pointer (some ⟨bF, 0, none⟩)] w fun e w' => e = .returned (.bool (isHex c && decide (j - i ≤ 16))) ∧ ∃ k, w' = w.drewN k := by
  have h2 := h.pos
  have H := hide h
  clear h
  by_cases hc : isHex c = true
  · rw [hc]
    go_enter Tryz.func145, Tryz.ntmps145
    go_wp2_with fail
    go_quiet (first | (go_at_call 146; exact Calls.quiet_of_same ((hexDigit_any _ _).mono fun _ _ h => ⟨by rw [h.1, hc], h.2.symm⟩)))
    go_wp2_with fail
    go_ret
    refine ⟨congrArg Ending.returned (congrArg Value.bool ?_), _, rfl⟩
    rw [Bool.eq_iff_iff]
    simp
    omega
  · have hc : isHex c = false := by simpa using hc
    rw [hc]
    go_enter Tryz.func145, Tryz.ntmps145
    go_wp2_with fail
    go_quiet (first | (go_at_call 146; exact Calls.quiet_of_same ((hexDigit_any _ _).mono fun _ _ h => ⟨by rw [h.1, hc], h.2.symm⟩)))
    go_wp2_with fail
    go_ret
    exact ⟨rfl, _, rfl⟩

set_option maxHeartbeats 1000000 in
theorem over_hex (g bR bF : Nat) (s : ByteArray) (i j0 : Nat) (w : World) (h : Rdr w g s j0) (hr : w.cell? ⟨bR, 0, none⟩ = some (.pointer (some ⟨g, 0, none⟩))) (hf : w.cell? ⟨bF, 0, none⟩ = some (.int .i64 i)) (hbR : bR ≠ g) (hbF : bF ≠ g) (hi : s.size ≤ 9000) (hi2 : j0 ≤ s.size) (hij : i ≤ j0) :
    Calls Tryz.prog 106 #[.pointer (some ⟨g, 0, none⟩), .func (.func 145) #[] #[.pointer (some ⟨bR, 0, none⟩), .pointer (some ⟨bF, 0, none⟩)]] w fun e w' => e = .returned (.tuple #[]) ∧ Rdr w' g s (overH s i j0) ∧ Tn g w w' := by
  have H := hide h
  have HR := hide hr
  have HF := hide hf
  clear h hr hf
  go_enter Tryz.func106, Tryz.ntmps106
  go_wp2_with fail
  go_loopw [4] (fun _ wr => ∃ j : Nat, j ≤ s.size ∧ i ≤ j ∧ Hid (Rdr wr g s j ∧ overH s i j0 = overH s i j ∧ Tn g w wr)) (fun _ wr => s.size - posAt wr g)
  case atStart => exact ⟨j0, hi2, hij, H.out, rfl, Tn.refl _ _⟩
  case round =>
    obtain ⟨j, hj, hij2, I⟩ := hrel
    have h1 := I.out.1.src
    have h2 := I.out.1.pos
    have h3 := I.out.1.frz 1
    have HR2 := hide (I.out.2.2.cell hbR HR.out)
    have HF2 := hide (I.out.2.2.cell hbF HF.out)
    by_cases hjs : j < s.size
    · have hof : overH s i j = if (isHex (byte s j) && decide (j - i ≤ 16)) = true then overH s i (j + 1) else j := by rw [overH, if_pos hjs]
      by_cases hp : (isHex (byte s j) && decide (j - i ≤ 16)) = true
      · have hp2 : (isHex ((s[j]'hjs).toNat : Int) && decide (j - i ≤ 16)) = true := by rw [← byte_eq]; exact hp
        rw [if_pos hp] at hof
        have Hof := hide hof
        have HP := hide hp2
        have HS := hide (fun n z hz => (I.out.1.drewN n).set (j + 1) z hz)
        clear hp hof hp2
        go_wp2_with fail
        go_quiet (first | (go_at_call 78; exact Calls.quiet_of (more_yes (I.out.1.drewN _) hjs)) | (go_at_call 145; exact Calls.quiet_of ((float1_any g bR bF s i j _ _ (I.out.1.drewN _) HR2.out HF2.out hi hj hij2).mono fun _ _ h => ⟨by rw [h.1, HP.out], h.2⟩)))
        go_wp2_with fail
        go_roundw
        case rel => exact ⟨j + 1, by omega, by omega, (HS.out _ _ (by omega)).1, I.out.2.1.trans Hof.out, (I.out.2.2.drewN _).trans (HS.out _ _ (by omega)).2⟩
        case measure =>
          rw [(HS.out _ _ (by omega)).1.posAt, I.out.1.posAt]
          omega
      · have hp2 : (isHex ((s[j]'hjs).toNat : Int) && decide (j - i ≤ 16)) = false := by rw [← byte_eq]; simpa using hp
        rw [if_neg hp] at hof
        have Hof := hide hof
        have HP := hide hp2
        clear hp hof hp2
        go_wp2_with fail
        go_quiet (first | (go_at_call 78; exact Calls.quiet_of (more_yes (I.out.1.drewN _) hjs)) | (go_at_call 145; exact Calls.quiet_of ((float1_any g bR bF s i j _ _ (I.out.1.drewN _) HR2.out HF2.out hi hj hij2).mono fun _ _ h => ⟨by rw [h.1, HP.out], h.2⟩)))
        go_wp2_with fail
        go_end0
        exact ⟨rfl, by rw [I.out.2.1, Hof.out]; exact I.out.1.drewN _, I.out.2.2.drewN _⟩
    · have Hof : Hid (overH s i j = j) := by show _ = _; rw [overH, if_neg hjs]
      go_wp2_with fail
      go_quiet (first | (go_at_call 78; exact Calls.quiet_of (more_no (I.out.1.drewN _) hjs)))
      go_wp2_with fail
      go_end0
      exact ⟨rfl, by rw [I.out.2.1, Hof.out]; exact I.out.1.drewN _, I.out.2.2.drewN _⟩

end Go.Proofs.YtogeblmppagabaaGreatDoor.Ck

/- The contract of the library's reading of up to sixteen digits of base 16. -/
namespace Go.Proofs.YtogeblmppagabaaGreatDoor.Ck
open Go.RowKit

theorem lower_hex (c : Int) (hc : 97 ≤ c ∧ c ≤ 102) (w : World) : Calls Tryz.prog 190 #[.int .u8 c] w fun e w' => e = .returned (.int .u8 c) ∧ w = w' := by
  obtain ⟨h1, h2⟩ := hc
  have : c = 97 ∨ c = 98 ∨ c = 99 ∨ c = 100 ∨ c = 101 ∨ c = 102 := by omega
  rcases this with h | h | h | h | h | h <;> subst h <;>
  · go_enter Tryz.func190, Tryz.ntmps190
    go_wp2_with fail
    go_ret
    exact ⟨rfl, rfl⟩

theorem pow16 (k : Nat) (h : k < 16) : 16 ^ k ≤ 1152921504606846976 := by
  have := Nat.pow_le_pow_right (n := 16) (by omega) (show k ≤ 15 by omega)
  have e : 16 ^ 15 = 1152921504606846976 := by decide
  omega

set_option maxHeartbeats 4000000 in
set_option maxRecDepth 100000 in
theorem iparse_any (t : ByteArray) (w : World) (h1 : 1 ≤ t.size) (h16 : t.size ≤ 16) (hx : ∀ c ∈ t.data.toList, isHex (c.toNat : Int) = true) :
    Calls Tryz.prog 167 #[.string t, .int .i64 16, .int .i64 64] w fun e w' => e = .returned (.tuple #[.int .u64 (hexF t.data.toList), .nilIface]) ∧ Below w.heap.size w w' := by
  have hemp : t.toList.isEmpty = false := by
    rw [ByteArray.toList_eq]
    have e1 : t.data.toList.length = t.size := rfl
    cases e2 : t.data.toList with
    | nil => rw [e2] at e1; simp at e1; omega
    | cons x l => rfl
  have hcv := Lib.run_convert_string_bytes (P := Tryz.prog) w 9 79 5 t Tryz.underlying9 Tryz.underlying79 Tryz.underlying5
  have hB : ∀ j, j < t.size → (Lib.bytesWorld w 5 t).cell? ⟨w.heap.size, j, none⟩ = some (.int .u8 (t.data.toList.getD j 0).toNat) := fun j hj => Lib.bytesWorld_cell w 5 t j hj
  have HBW := hide (Lib.bytesWorld_below w 5 t)
  obtain ⟨W1, hW1⟩ : ∃ W1, W1 = Lib.bytesWorld w 5 t := ⟨_, rfl⟩
  rw [← hW1] at hcv hB HBW
  clear hW1
  obtain ⟨bs, hL⟩ : ∃ bs, bs = t.data.toList := ⟨_, rfl⟩
  have hLn : bs.length = t.size := by rw [hL]; rfl
  rw [← hL] at hB hx ⊢
  clear hL
  have HX := hide hx
  clear hx
  have hmv : IntKind.u64.wrap (IntKind.u64.wrap 18446744073709551616 - 1) = 18446744073709551615 := by
    rw [IntKind.wrap_u64, IntKind.wrap_u64]
    decide
  go_enter Tryz.func167, Tryz.ntmps167
  go_wp2_with fail
  go_loop [12, 13, 101] (fun vu vn vi => ∃ (k acc : Nat) (a : Int), vu = .bool false ∧ vn = .int .u64 a ∧ vi = .int .i64 k ∧ k ≤ t.size ∧ Hid (a = (acc : Int) ∧ acc < 16 ^ k ∧ hexF bs = (bs.drop k).foldl (fun a c => 16 * a + hexV c.toNat) acc))
    (fun _ _ vi => t.size - (intOf vi).toNat)
  case atStart => exact ⟨0, 0, 0, rfl, rfl, rfl, by omega, rfl, by decide, rfl⟩
  case round =>
    obtain ⟨k, acc, a, rfl, rfl, rfl, hk, hh⟩ := hrel
    obtain ⟨ha, hacc, hdec⟩ := hh.out
    clear hh
    have a0 : 0 ≤ a := by omega
    by_cases hkn : k < t.size
    · have hc := hB k hkn
      have hp := pow16 k (by omega)
      have hp2 : 16 ^ (k + 1) = 16 * 16 ^ k := by rw [Nat.pow_succ]; omega
      have hdrop : bs.drop k = bs[k]'(by omega) :: bs.drop (k + 1) := List.drop_eq_getElem_cons (by omega)
      have hget : bs.getD k 0 = bs[k]'(by omega) := by simp [List.getD, List.getElem?_eq_getElem (show k < bs.length by omega)]
      have hxc := HX.out _ (List.getElem_mem (show k < bs.length by omega))
      rw [hdrop] at hdec
      rw [hget] at hc
      generalize bs[k]'(by omega) = c at hc hdec hxc
      rw [List.foldl_cons] at hdec
      have hc256 : c.toNat < 256 := c.toNat_lt
      clear hB hdrop hget
      by_cases hdig : 48 ≤ c.toNat ∧ c.toNat ≤ 57
      · obtain ⟨hd0, hd1⟩ := hdig
        have hv : hexV c.toNat = c.toNat - 48 := by unfold hexV; rw [if_pos hd1]
        rw [hv] at hdec
        have HN : Hid (a * 16 + ((c.toNat : Int) - 48) = ((16 * acc + (c.toNat - 48) : Nat) : Int) ∧ 16 * acc + (c.toNat - 48) < 16 ^ (k + 1) ∧ hexF bs = (bs.drop (k + 1)).foldl (fun a c => 16 * a + hexV c.toNat) (16 * acc + (c.toNat - 48))) := ⟨by omega, by omega, hdec⟩
        have icut : a < 1152921504606846976 := by omega
        have iov : a * 16 + ((c.toNat : Int) - 48) < 18446744073709551616 := by omega
        clear hacc hdec ha hp hp2 hv hxc
        go_wp2_with fail
        refine ⟨⟨k + 1, 16 * acc + (c.toNat - 48), a * 16 + ((c.toNat : Int) - 48), rfl, (by first | rfl | (congr 1; omega)), (by first | rfl | (congr 1; omega)), by omega, HN⟩, by simp [intOf]; omega⟩
      · have hal : 97 ≤ c.toNat ∧ c.toNat ≤ 102 := by
          unfold isHex isDigit at hxc
          simp at hxc
          omega
        obtain ⟨hd0, hd1⟩ := hal
        have hv : hexV c.toNat = c.toNat - 87 := by unfold hexV; rw [if_neg (by omega)]
        rw [hv] at hdec
        have HN : Hid (a * 16 + ((c.toNat : Int) - 97 + 10) = ((16 * acc + (c.toNat - 87) : Nat) : Int) ∧ 16 * acc + (c.toNat - 87) < 16 ^ (k + 1) ∧ hexF bs = (bs.drop (k + 1)).foldl (fun a c => 16 * a + hexV c.toNat) (16 * acc + (c.toNat - 87))) := ⟨by omega, by omega, hdec⟩
        have icut : a < 1152921504606846976 := by omega
        have iov : a * 16 + ((c.toNat : Int) - 97 + 10) < 18446744073709551616 := by omega
        clear hacc hdec ha hp hp2 hv hxc hdig
        go_wp2_with (first | (go_at_call 190; refine (lower_hex _ (by omega) _).mono ?_; rintro e w' ⟨rfl, rfl⟩))
        refine ⟨⟨k + 1, 16 * acc + (c.toNat - 87), a * 16 + ((c.toNat : Int) - 97 + 10), rfl, (by first | rfl | (congr 1; omega)), (by first | rfl | (congr 1; omega)), by omega, HN⟩, by simp [intOf]; omega⟩
    · have hkk : k = t.size := by omega
      subst hkk
      rw [List.drop_eq_nil_of_le (by omega)] at hdec
      subst ha
      clear hacc a0
      go_wp2_with fail
      go_ret2
      exact ⟨rfl, HBW.out⟩

theorem parse_any (t : ByteArray) (w : World) (h1 : 1 ≤ t.size) (h16 : t.size ≤ 16) (hx : ∀ c ∈ t.data.toList, isHex (c.toNat : Int) = true) :
    Calls Tryz.prog 147 #[.string t, .int .i64 16, .int .i64 64] w fun e w' => e = .returned (.tuple #[.int .u64 (hexF t.data.toList), .nilIface]) ∧ Below w.heap.size w w' := by
  go_enter Tryz.func147, Tryz.ntmps147
  go_wp2_with fail
  refine (iparse_any t w h1 h16 hx).mono ?_
  rintro e w1 ⟨rfl, hb⟩
  go_wp2_with fail
  go_ret2
  exact ⟨rfl, hb⟩

end Go.Proofs.YtogeblmppagabaaGreatDoor.Ck
