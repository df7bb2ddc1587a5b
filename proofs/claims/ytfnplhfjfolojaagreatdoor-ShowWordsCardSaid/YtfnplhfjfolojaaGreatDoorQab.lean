/- Texts of this proof, packed: contracts of the program's functions, and the plain model that they are held against. -/
import Derived.Test.YtfnplhfjfolojaaGreatDoorQaa
import Derived.LoopTactic
import Derived.Defers
import Derived.Recover
import Derived.Deep.RegionLaw
set_option maxRecDepth 20000
set_option maxHeartbeats 4000000
namespace Go.Proofs.YtfnplhfjfolojaaGreatDoor.Ck
open Go.RowKit
theorem overF_all (p : Int -> Bool) (s : ByteArray) (i k : Nat) (h1 : i <= k) (h2 : k < ZC p s i) : p (ZZ s k) = true := by
 rw [ZC] at h2
 split at h2
 · split at h2
   · rename_i hp
     by_cases hk : k = i
     · rw [hk]; exact hp
     · exact overF_all p s (i + 1) k (by omega) h2
   · omega
 · omega
termination_by s.size - i
theorem cut_mem {s : ByteArray} {i j : Nat} {c : UInt8} (h : c ∈ (cut s i j).data.toList) : ∃ k, i <= k /\ k < j /\ k < s.size /\ c = b8 s k := by
 unfold cut at h
 rw [cut_list] at h
 obtain ⟨n, hn, he⟩ := List.mem_iff_getElem.1 h
 have hl : s.data.toList.length = s.size := rfl
 simp only [List.length_take, List.length_drop] at hn
 rw [List.getElem_take, List.getElem_drop] at he
 refine ⟨i + n, by omega, by omega, by omega, ?_⟩
 have := byte_list s (i + n) (by omega)
 rw [he] at this
 rw [byte_b8] at this
 exact (UInt8.toNat_inj.1 (by omega)).symm
theorem endI_digits {s : ByteArray} {i : Nat} (hd : ZK (ZZ s i) = true) {c : UInt8} (h : c ∈ (cut s i (endI s i)).data.toList) : 48 <= c.toNat /\ c.toNat <= 57 := by
 obtain ⟨k, h1, h2, h3, rfl⟩ := cut_mem h
 have : ZK (ZZ s k) = true := by
  unfold endI at h2
  split at h2
  · rw [show k = i by omega]; exact hd
  · exact overF_all _ _ _ _ h1 h2
 rw [byte_b8] at this
 unfold ZK at this
 simp at this
 omega
theorem parse_nosyn : ∀ (l : List UInt8) (a : Nat), (∀ c ∈ l, 48 <= c.toNat /\ c.toNat <= 57) -> Lib.parseUint10 a l ≠ .syntax
 | [], a, _ => by simp [Lib.parseUint10]
 | c :: r, a, h => by
  unfold Lib.parseUint10
  rw [if_pos (h c (by simp))]
  split
  · simp
  · split
    · simp
    · exact parse_nosyn r _ (fun x hx => h x (by simp [hx]))
theorem atoi_nosyn (l : List UInt8) (hne : l ≠ []) (h : ∀ c ∈ l, 48 <= c.toNat /\ c.toNat <= 57) : Lib.atoiAll l ≠ .syntax := by
 cases l with
 | nil => exact absurd rfl hne
 | cons c r =>
  have hc := h c (by simp)
  have hp := parse_nosyn (c :: r) 0 h
  unfold Lib.atoiAll Lib.parseMag
  simp only [show ¬ (c.toNat = 43 ∨ c.toNat = 45) by omega, if_false, List.cons_ne_nil]
  cases hq : Lib.parseUint10 0 (c :: r) with
  | ok u =>
   simp only
   split
   · simp
   · split <;> simp
  | «syntax» => exact absurd hq hp
  | range => simp
theorem cut_size {s : ByteArray} {i j : Nat} (h : j <= s.size) : (cut s i j).size = j - i := by unfold cut; rw [ByteArray.size_extract]; omega
theorem atoi_any (t : ByteArray) (w : World) (hs : t.size <= 9000) (v : Int) (h : Lib.atoiAll t.data.toList = .ok v) :
 Calls Tryz.prog 193 #[.string t] w fun e w' => e = .returned (.tuple #[.int .i64 v, .nilIface]) /\ Below w.heap.size w w' :=
 (Tryz.strconv_Atoi_ok t (by omega) v h w).mono fun _ _ h => ⟨h.1, by
  rcases h.2 with rfl | ⟨t, rfl⟩
  · exact Below.refl _ _
  · exact Lib.bytesWorld_below _ _ _⟩
theorem atoi_bad (t : ByteArray) (p : List Addr) (w : World) (he : Er w p) (hs : t.size <= 9000) (h : Lib.atoiAll t.data.toList = .range) :
 Calls Tryz.prog 193 #[.string t] w fun e w' => (∃ z N, e = .returned (.tuple #[.int .i64 z, .iface 221 (.pointer (some ⟨N, 0, none⟩))])) /\ Below w.heap.size w w' := by
 obtain ⟨te, pe, hc⟩ := he.cs
 exact (Tryz.strconv_Atoi_range t (by omega) h _ w hc (.inr ⟨te, pe, rfl⟩)).mono fun _ _ ⟨N, h1, _, _, h4⟩ => ⟨⟨_, N, h1⟩, h4⟩
def rest (s : ByteArray) (i j : Nat) : Got :=
 match Lib.atoiAll (cut s i j).data.toList with
 | .ok v => if tight s j = true then .bad 1 j else .ok ⟨3, cut s i j, v, 0, i⟩ j
 | _ => .bad 0 i
theorem intF_rest (s : ByteArray) (i : Nat) : intF s i = rest s i (endI s i) := rfl
theorem int_any (g : Nat) (s : ByteArray) (i : Nat) (p : List Addr) (w : World) (h : Rdr w g s i) (he : Er w p) (hG : 23 <= g) (hs : s.size <= 9000) (hi : i < s.size) (hd : ZK (ZZ s i) = true) :
 Calls Tryz.prog 157 #[.pointer (some ⟨g, 0, none⟩)] w fun e w' => Post g s p w e w' (intF s i) := by
 have hb0 := Zb (Zd w tokZ)
 have hz0 : Hid (Tok (w.alloc tokZ) w.heap.size (.int .i64 0) (.string ⟨#[]⟩) (.int .i64 0) (.int .u64 0) (.int .i64 0)) := B_ _ _
 have H0 := Zb (h.below hb0.out)
 have E0 := Zb (he.bel hb0.out)
 have g1 := H0.out.src
 have g2 := H0.out.pos
 have g3 := H0.out.frz 1
 have hne : w.heap.size ≠ g := Nat.ne_of_gt (Ze h)
 have HD := Zb hd
 have hbe := Yn s i hi
 have hee := endI_gt s i hi hd
 have hlt := Ze h
 have HN : Hid (Lib.atoiAll (cut s i (endI s i)).data.toList ≠ .syntax) := by
  refine atoi_nosyn _ (fun e => ?_) (fun c hc => endI_digits hd hc)
  have h1 : (cut s i (endI s i)).data.toList.length = (cut s i (endI s i)).size := rfl
  rw [e, cut_size hee.2] at h1
  simp at h1
  omega
 rw [intF_rest]
 have HH := Zb h
 have HE := Zb he
 clear h he hd
 unfold tokZ at *
 obtain ⟨j, hj⟩ : ∃ j, endI s i = j := ⟨_, rfl⟩
 rw [hj] at hee HN ⊢
 have HJ := Zb hj
 clear hj
 go_enter Tryz.func157, Tryz.ntmps157
 by_cases h48 : ZZ s i = 48
 · have hj1 : j = i + 1 := by rw [← HJ.out]; unfold endI; rw [if_pos h48]
   have h48 : ((s[i]'hi).toNat : Int) = 48 := hbe.symm.trans h48
   obtain ⟨hr, ht⟩ := HH.out.set j ((i : Int) + 1) (by omega)
   have hse : (w.setCell ⟨g, 1, none⟩ (.int .i64 ((i : Int) + 1))).heap.size = w.heap.size := by simp [World.setCell]
   have hbA := Zd (w.setCell ⟨g, 1, none⟩ (.int .i64 ((i : Int) + 1))) (.cells #[.int .i64 0, .string ⟨#[]⟩, .int .i64 0, .int .u64 0, .int .i64 0] 80)
   have RA := Zb (hr.below hbA)
   have TA := Zb (ht.trans (Tn.of_bel hbA))
   have EA := Zb ((HE.out.tn ht hG).bel hbA)
   have ZA := Tok.new (w.setCell ⟨g, 1, none⟩ (.int .i64 ((i : Int) + 1))) (.int .i64 0) (.string ⟨#[]⟩) (.int .i64 0) (.int .u64 0) (.int .i64 0)
   rw [hse] at ZA
   have ZA := Zb ZA
   clear hr ht hbA hse hz0 H0 E0 hb0 HH HE
   go_wp2_with fail
   generalize (w.setCell ⟨g, 1, none⟩ (.int .i64 ((i : Int) + 1))).alloc _ = wA at *
   clear g1 g2 g3 hbe hj1 h48 hlt HJ
   refine (since_any g s i j 3 _ RA.out hs (Nat.le_of_lt hee.1) hee.2).mono ?_
   rintro e w2 ⟨rfl, hb2⟩
   have R2 := Zb (RA.out.below hb2)
   have T2 := Zb (TA.out.trans (Tn.of_bel hb2))
   have Z2 := Zb (ZA.out.bel hb2)
   have E2 := Zb (EA.out.bel hb2)
   have hN2 : w.heap.size < w2.heap.size := Ze Z2.out
   clear RA EA ZA TA hb2
   go_wp2_with fail
   have hb3 := Zd w2 (.cells #[.int .i64 3, .string (cut s i j), .int .i64 0, .int .u64 0, .int .i64 i] 80)
   have Y3 := Zb (Tok.new w2 (.int .i64 3) (.string (cut s i j)) (.int .i64 0) (.int .u64 0) (.int .i64 i))
   have R3 := Zb (R2.out.below hb3)
   have T3 := Zb (T2.out.trans (Tn.of_bel hb3))
   have Z3 := Zb (Z2.out.bel hb3)
   have E3 := Zb (E2.out.bel hb3)
   have hgn : g ≠ w2.heap.size := Nat.ne_of_lt (Ze R2.out)
   have hnn : w.heap.size ≠ w2.heap.size := Nat.ne_of_lt hN2
   clear R2 T2 Z2 hb3 E2
   generalize w2.alloc _ = w3 at *
   generalize w2.heap.size = n at *
   cases hA : Lib.atoiAll (cut s i j).data.toList with
   | «syntax» => exact absurd hA HN.out
   | range =>
    have HR : Hid (rest s i j = .bad 0 i) := by show _ = _; unfold rest; rw [hA]
    refine (atoi_bad (cut s i j) p w3 E3.out (by rw [cut_size hee.2]; omega) hA).mono ?_
    rintro e w4 ⟨⟨z, n4, rfl⟩, hb4⟩
    have T4 := Zb (T3.out.trans (Tn.of_bel hb4))
    have x0 := (E3.out.bel hb4).c0
    clear R3 T3 Z3 E3 Y3 hb4 hA
    go_wp2_with fail
    refine (YF _ _ i _).mono ?_
    rintro e w5 ⟨rfl, rfl⟩
    refine ⟨rfl, ?_⟩
    rw [HR.out]
    exact ⟨rfl, T4.out⟩
   | ok v =>
    have HR : Hid (rest s i j = if tight s j = true then .bad 1 j else .ok ⟨3, cut s i j, v, 0, i⟩ j) := by show _ = _; unfold rest; rw [hA]
    refine (atoi_any (cut s i j) w3 (by rw [cut_size hee.2]; omega) v hA).mono ?_
    rintro e w4 ⟨rfl, hb4⟩
    have T4 := Zb (T3.out.trans (Tn.of_bel hb4))
    have R4 := Zb (R3.out.below hb4)
    have Y4 := Zb (Y3.out.bel hb4)
    have Z4 := Zb (Z3.out.bel hb4)
    have E4 := Zb (E3.out.bel hb4)
    clear R3 T3 Z3 E3 Y3 hb4 hA
    by_cases htt : tight s j = true
    · rw [if_pos htt] at HR
      go_wp2_with fail
      refine (apart_yes g s j p w4 R4.out E4.out htt).mono ?_
      rintro e w5 ⟨rfl, k, rfl⟩
      refine ⟨rfl, ?_⟩
      rw [HR.out]
      exact ⟨rfl, T4.out.drewN k⟩
    · rw [if_neg htt] at HR
      go_wp2_with fail
      refine (apart_no g s j w4 R4.out (by simpa using htt)).mono ?_
      rintro e w5 ⟨rfl, k, rfl⟩
      have T5 := Zb (T4.out.drewN k)
      have R5 := Zb (R4.out.drewN k)
      have Y5 : Hid (Tok (w4.drewN k) n (.int .i64 3) (.string (cut s i j)) (.int .i64 0) (.int .u64 0) (.int .i64 i)) := Y4.out
      have Z5 : Hid (Tok (w4.drewN k) w.heap.size (.int .i64 0) (.string ⟨#[]⟩) (.int .i64 0) (.int .u64 0) (.int .i64 0)) := Z4.out
      clear T4 R4 Y4 Z4 E4
      generalize w4.drewN k = w5 at *
      obtain ⟨⟨f0, f1, f2, f3, f4⟩, c0, c1, c2, c3, c4⟩ := Y5.out.all
      obtain ⟨y6, t6⟩ := Zs Y5.out 2 (.int .i64 v)
      have Y6 : Hid (Tok (w5.setCell ⟨n, 2, none⟩ (.int .i64 v)) n (.int .i64 3) (.string (cut s i j)) (.int .i64 v) (.int .u64 0) (.int .i64 i)) := y6
      have T6 := Zb t6
      have z6 := Z5.out.tn t6 hnn
      obtain ⟨⟨m0, m1, m2, m3, m4⟩, k0, k1, k2, k3, k4⟩ := Y6.out.all
      obtain ⟨⟨a0, a1, a2, a3, a4⟩, b0, b1, b2, b3, b4⟩ := z6.all
      obtain ⟨z7, t7⟩ := set5 z6 (.int .i64 3) (.string (cut s i j)) (.int .i64 v) (.int .u64 0) (.int .i64 i)
      have Z7 := Zb z7
      have T7 := Zb t7
      clear y6 z6 z7 t6 t7
      go_wp2_with fail
      refine Yy w.heap.size rfl rfl Z7.out rfl ?_
      rw [HR.out]
      exact ⟨rfl, (R5.out.tn T6.out hgn).tn T7.out (Ne.symm hne), (T5.out.own T6.out (Nat.le_of_lt hN2)).own T7.out (Nat.le_refl _)⟩
 · have hj1 : Hid (j = ZC ZK s i) := by show _ = _; rw [← HJ.out]; unfold endI; rw [if_neg h48]
   have h48 : (((s[i]'hi).toNat : Int) == 48) = false := by rw [beq_eq_false_iff_ne]; intro e; exact h48 (hbe.trans e)
   go_wp2_with fail
   generalize w.alloc _ = w0 at *
   refine (over_digit g s i w0 H0.out hs (Nat.le_of_lt hi)).mono ?_
   rintro e wA ⟨rfl, r1, t1⟩
   rw [← hj1.out] at r1
   have RA := Zb r1
   have TA := Zb ((Tn.of_bel hb0.out).trans t1)
   have EA := Zb (E0.out.tn t1 hG)
   have ZA := Zb (hz0.out.tn t1 hne)
   clear r1 t1 hz0 H0 E0 hb0 HH HE g1 g2 g3 hbe hj1 h48 hlt HJ
   go_wp2_with fail
   refine (since_any g s i j 3 _ RA.out hs (Nat.le_of_lt hee.1) hee.2).mono ?_
   rintro e w2 ⟨rfl, hb2⟩
   have R2 := Zb (RA.out.below hb2)
   have T2 := Zb (TA.out.trans (Tn.of_bel hb2))
   have Z2 := Zb (ZA.out.bel hb2)
   have E2 := Zb (EA.out.bel hb2)
   have hN2 : w.heap.size < w2.heap.size := Ze Z2.out
   clear RA EA ZA TA hb2
   go_wp2_with fail
   have hb3 := Zd w2 (.cells #[.int .i64 3, .string (cut s i j), .int .i64 0, .int .u64 0, .int .i64 i] 80)
   have Y3 := Zb (Tok.new w2 (.int .i64 3) (.string (cut s i j)) (.int .i64 0) (.int .u64 0) (.int .i64 i))
   have R3 := Zb (R2.out.below hb3)
   have T3 := Zb (T2.out.trans (Tn.of_bel hb3))
   have Z3 := Zb (Z2.out.bel hb3)
   have E3 := Zb (E2.out.bel hb3)
   have hgn : g ≠ w2.heap.size := Nat.ne_of_lt (Ze R2.out)
   have hnn : w.heap.size ≠ w2.heap.size := Nat.ne_of_lt hN2
   clear R2 T2 Z2 hb3 E2
   generalize w2.alloc _ = w3 at *
   generalize w2.heap.size = n at *
   cases hA : Lib.atoiAll (cut s i j).data.toList with
   | «syntax» => exact absurd hA HN.out
   | range =>
    have HR : Hid (rest s i j = .bad 0 i) := by show _ = _; unfold rest; rw [hA]
    refine (atoi_bad (cut s i j) p w3 E3.out (by rw [cut_size hee.2]; omega) hA).mono ?_
    rintro e w4 ⟨⟨z, n4, rfl⟩, hb4⟩
    have T4 := Zb (T3.out.trans (Tn.of_bel hb4))
    have x0 := (E3.out.bel hb4).c0
    clear R3 T3 Z3 E3 Y3 hb4 hA
    go_wp2_with fail
    refine (YF _ _ i _).mono ?_
    rintro e w5 ⟨rfl, rfl⟩
    refine ⟨rfl, ?_⟩
    rw [HR.out]
    exact ⟨rfl, T4.out⟩
   | ok v =>
    have HR : Hid (rest s i j = if tight s j = true then .bad 1 j else .ok ⟨3, cut s i j, v, 0, i⟩ j) := by show _ = _; unfold rest; rw [hA]
    refine (atoi_any (cut s i j) w3 (by rw [cut_size hee.2]; omega) v hA).mono ?_
    rintro e w4 ⟨rfl, hb4⟩
    have T4 := Zb (T3.out.trans (Tn.of_bel hb4))
    have R4 := Zb (R3.out.below hb4)
    have Y4 := Zb (Y3.out.bel hb4)
    have Z4 := Zb (Z3.out.bel hb4)
    have E4 := Zb (E3.out.bel hb4)
    clear R3 T3 Z3 E3 Y3 hb4 hA
    by_cases htt : tight s j = true
    · rw [if_pos htt] at HR
      go_wp2_with fail
      refine (apart_yes g s j p w4 R4.out E4.out htt).mono ?_
      rintro e w5 ⟨rfl, k, rfl⟩
      refine ⟨rfl, ?_⟩
      rw [HR.out]
      exact ⟨rfl, T4.out.drewN k⟩
    · rw [if_neg htt] at HR
      go_wp2_with fail
      refine (apart_no g s j w4 R4.out (by simpa using htt)).mono ?_
      rintro e w5 ⟨rfl, k, rfl⟩
      have T5 := Zb (T4.out.drewN k)
      have R5 := Zb (R4.out.drewN k)
      have Y5 : Hid (Tok (w4.drewN k) n (.int .i64 3) (.string (cut s i j)) (.int .i64 0) (.int .u64 0) (.int .i64 i)) := Y4.out
      have Z5 : Hid (Tok (w4.drewN k) w.heap.size (.int .i64 0) (.string ⟨#[]⟩) (.int .i64 0) (.int .u64 0) (.int .i64 0)) := Z4.out
      clear T4 R4 Y4 Z4 E4
      generalize w4.drewN k = w5 at *
      obtain ⟨⟨f0, f1, f2, f3, f4⟩, c0, c1, c2, c3, c4⟩ := Y5.out.all
      obtain ⟨y6, t6⟩ := Zs Y5.out 2 (.int .i64 v)
      have Y6 : Hid (Tok (w5.setCell ⟨n, 2, none⟩ (.int .i64 v)) n (.int .i64 3) (.string (cut s i j)) (.int .i64 v) (.int .u64 0) (.int .i64 i)) := y6
      have T6 := Zb t6
      have z6 := Z5.out.tn t6 hnn
      obtain ⟨⟨m0, m1, m2, m3, m4⟩, k0, k1, k2, k3, k4⟩ := Y6.out.all
      obtain ⟨⟨a0, a1, a2, a3, a4⟩, b0, b1, b2, b3, b4⟩ := z6.all
      obtain ⟨z7, t7⟩ := set5 z6 (.int .i64 3) (.string (cut s i j)) (.int .i64 v) (.int .u64 0) (.int .i64 i)
      have Z7 := Zb z7
      have T7 := Zb t7
      clear y6 z6 z7 t6 t7
      go_wp2_with fail
      refine Yy w.heap.size rfl rfl Z7.out rfl ?_
      rw [HR.out]
      exact ⟨rfl, (R5.out.tn T6.out hgn).tn T7.out (Ne.symm hne), (T5.out.own T6.out (Nat.le_of_lt hN2)).own T7.out (Nat.le_refl _)⟩
theorem float1_any (g bR bF : Nat) (s : ByteArray) (i j : Nat) (c : Int) (w : World) (h : Rdr w g s j) (hr : w.cell? ⟨bR, 0, none⟩ = some (.pointer (some ⟨g, 0, none⟩))) (hf : w.cell? ⟨bF, 0, none⟩ = some (.int .i64 i)) (hs : s.size <= 9000) (hj : j <= s.size) (hij : i <= j) :
 Calls Tryz.prog 195 #[.int .u8 c, .pointer (some ⟨bR, 0, none⟩), .pointer (some ⟨bF, 0, none⟩)] w fun e w' => e = .returned (.bool (isHex c && decide (j - i <= 16))) /\ ∃ k, w' = w.drewN k := by
 have h2 := h.pos
 have H := Zb h
 clear h
 by_cases hc : isHex c = true
 · rw [hc]
   go_enter Tryz.func195, Tryz.ntmps195
   go_wp2_with fail
   go_quiet (first | (go_at_call 196; exact Calls.quiet_of_same ((hexDigit_any _ _).mono fun _ _ h => ⟨by rw [h.1, hc], h.2.symm⟩)))
   go_wp2_with fail
   go_ret
   refine ⟨congrArg Ending.returned (congrArg Value.bool ?_), _, rfl⟩
   rw [Bool.eq_iff_iff]
   simp
   omega
 · have hc : isHex c = false := by simpa using hc
   rw [hc]
   go_enter Tryz.func195, Tryz.ntmps195
   go_wp2_with fail
   go_quiet (first | (go_at_call 196; exact Calls.quiet_of_same ((hexDigit_any _ _).mono fun _ _ h => ⟨by rw [h.1, hc], h.2.symm⟩)))
   go_wp2_with fail
   go_ret
   exact ⟨rfl, _, rfl⟩
theorem over_hex (g bR bF : Nat) (s : ByteArray) (i j0 : Nat) (w : World) (h : Rdr w g s j0) (hr : w.cell? ⟨bR, 0, none⟩ = some (.pointer (some ⟨g, 0, none⟩))) (hf : w.cell? ⟨bF, 0, none⟩ = some (.int .i64 i)) (hbR : bR ≠ g) (hbF : bF ≠ g) (hi : s.size <= 9000) (hi2 : j0 <= s.size) (hij : i <= j0) :
 Calls Tryz.prog 150 #[.pointer (some ⟨g, 0, none⟩), .func (.func 195) #[] #[.pointer (some ⟨bR, 0, none⟩), .pointer (some ⟨bF, 0, none⟩)]] w fun e w' => e = .returned (.tuple #[]) /\ Rdr w' g s (Yl s i j0) /\ Tn g w w' := by
 have H := Zb h
 have HR := Zb hr
 have HF := Zb hf
 clear h hr hf
 go_enter Tryz.func150, Tryz.ntmps150
 go_wp2_with fail
 go_loopw [4] (fun _ wr => ∃ j : Nat, j <= s.size /\ i <= j /\ Hid (Rdr wr g s j /\ Yl s i j0 = Yl s i j /\ Tn g w wr)) (fun _ wr => s.size - posAt wr g)
 case atStart => exact ⟨j0, hi2, hij, H.out, rfl, Tn.refl _ _⟩
 case round =>
  obtain ⟨j, hj, hij2, I⟩ := hrel
  have h1 := I.out.1.src
  have h2 := I.out.1.pos
  have h3 := I.out.1.frz 1
  have HR2 := Zb (I.out.2.2.cell hbR HR.out)
  have HF2 := Zb (I.out.2.2.cell hbF HF.out)
  by_cases hjs : j < s.size
  · have hof : Yl s i j = if (isHex (ZZ s j) && decide (j - i <= 16)) = true then Yl s i (j + 1) else j := by rw [Yl, if_pos hjs]
    by_cases hp : (isHex (ZZ s j) && decide (j - i <= 16)) = true
    · have hp2 : (isHex ((s[j]'hjs).toNat : Int) && decide (j - i <= 16)) = true := by rw [← Yn]; exact hp
      rw [if_pos hp] at hof
      have Hof := Zb hof
      have HP := Zb hp2
      have HS := Zb (fun n z hz => (I.out.1.drewN n).set (j + 1) z hz)
      clear hp hof hp2
      go_wp2_with fail
      go_quiet (first | (go_at_call 116; exact Calls.quiet_of (Yo (I.out.1.drewN _) hjs)) | (go_at_call 195; exact Calls.quiet_of ((float1_any g bR bF s i j _ _ (I.out.1.drewN _) HR2.out HF2.out hi hj hij2).mono fun _ _ h => ⟨by rw [h.1, HP.out], h.2⟩)))
      go_wp2_with fail
      go_roundw
      case rel => exact ⟨j + 1, by omega, by omega, (HS.out _ _ (by omega)).1, I.out.2.1.trans Hof.out, (I.out.2.2.drewN _).trans (HS.out _ _ (by omega)).2⟩
      case measure =>
       rw [(HS.out _ _ (by omega)).1.posAt, I.out.1.posAt]
       omega
    · have hp2 : (isHex ((s[j]'hjs).toNat : Int) && decide (j - i <= 16)) = false := by rw [← Yn]; simpa using hp
      rw [if_neg hp] at hof
      have Hof := Zb hof
      have HP := Zb hp2
      clear hp hof hp2
      go_wp2_with fail
      go_quiet (first | (go_at_call 116; exact Calls.quiet_of (Yo (I.out.1.drewN _) hjs)) | (go_at_call 195; exact Calls.quiet_of ((float1_any g bR bF s i j _ _ (I.out.1.drewN _) HR2.out HF2.out hi hj hij2).mono fun _ _ h => ⟨by rw [h.1, HP.out], h.2⟩)))
      go_wp2_with fail
      go_end0
      exact ⟨rfl, by rw [I.out.2.1, Hof.out]; exact I.out.1.drewN _, I.out.2.2.drewN _⟩
  · have Hof : Hid (Yl s i j = j) := by show _ = _; rw [Yl, if_neg hjs]
    go_wp2_with fail
    go_quiet (first | (go_at_call 116; exact Calls.quiet_of (more_no (I.out.1.drewN _) hjs)))
    go_wp2_with fail
    go_end0
    exact ⟨rfl, by rw [I.out.2.1, Hof.out]; exact I.out.1.drewN _, I.out.2.2.drewN _⟩
theorem lower_hex (c : Int) (hc : 97 <= c /\ c <= 102) (w : World) : Calls Tryz.prog 241 #[.int .u8 c] w fun e w' => e = .returned (.int .u8 c) /\ w = w' := by
 obtain ⟨h1, h2⟩ := hc
 have : c = 97 ∨ c = 98 ∨ c = 99 ∨ c = 100 ∨ c = 101 ∨ c = 102 := by omega
 rcases this with h | h | h | h | h | h <;> subst h <;>
 · go_enter Tryz.func241, Tryz.ntmps241
   go_wp2_with fail
   go_ret
   exact ⟨rfl, rfl⟩
theorem pow16 (k : Nat) (h : k < 16) : 16 ^ k <= 1152921504606846976 := by
 have := Nat.pow_le_pow_right (n := 16) (by omega) (show k <= 15 by omega)
 have e : 16 ^ 15 = 1152921504606846976 := by decide
 omega
theorem iparse_any (t : ByteArray) (w : World) (h1 : 1 <= t.size) (h16 : t.size <= 16) (hx : ∀ c ∈ t.data.toList, isHex (c.toNat : Int) = true) :
 Calls Tryz.prog 218 #[.string t, .int .i64 16, .int .i64 64] w fun e w' => e = .returned (.tuple #[.int .u64 (hexF t.data.toList), .nilIface]) /\ Below w.heap.size w w' := by
 have hemp : t.toList.isEmpty = false := by
  rw [ByteArray.toList_eq]
  have e1 : t.data.toList.length = t.size := rfl
  cases e2 : t.data.toList with
  | nil => rw [e2] at e1; simp at e1; omega
  | cons x l => rfl
 have hcv := Lib.run_convert_string_bytes (P := Tryz.prog) w 9 33 5 t Tryz.underlying9 Tryz.underlying33 Tryz.underlying5
 have hB : ∀ j, j < t.size -> (Lib.bytesWorld w 5 t).cell? ⟨w.heap.size, j, none⟩ = some (.int .u8 (t.data.toList.getD j 0).toNat) := fun j hj => Lib.bytesWorld_cell w 5 t j hj
 have HBW := Zb (Lib.bytesWorld_below w 5 t)
 obtain ⟨W1, hW1⟩ : ∃ W1, W1 = Lib.bytesWorld w 5 t := ⟨_, rfl⟩
 rw [← hW1] at hcv hB HBW
 clear hW1
 obtain ⟨bs, hL⟩ : ∃ bs, bs = t.data.toList := ⟨_, rfl⟩
 have hLn : bs.length = t.size := by rw [hL]; rfl
 rw [← hL] at hB hx ⊢
 clear hL
 have HX := Zb hx
 clear hx
 have hmv : IntKind.u64.wrap (IntKind.u64.wrap 18446744073709551616 - 1) = 18446744073709551615 := by
  rw [IntKind.wrap_u64, IntKind.wrap_u64]
  decide
 go_enter Tryz.func218, Tryz.ntmps218
 go_wp2_with fail
 go_loop [12, 13, 101] (fun vu vn vi => ∃ (k acc : Nat) (a : Int), vu = .bool false /\ vn = .int .u64 a /\ vi = .int .i64 k /\ k <= t.size /\ Hid (a = (acc : Int) /\ acc < 16 ^ k /\ hexF bs = (bs.drop k).foldl (fun a c => 16 * a + hexV c.toNat) acc))
  (fun _ _ vi => t.size - (intOf vi).toNat)
 case atStart => exact ⟨0, 0, 0, rfl, rfl, rfl, by omega, rfl, by decide, rfl⟩
 case round =>
  obtain ⟨k, acc, a, rfl, rfl, rfl, hk, hh⟩ := hrel
  obtain ⟨ha, hacc, hdec⟩ := hh.out
  clear hh
  have a0 : 0 <= a := by omega
  by_cases hkn : k < t.size
  · have hc := hB k hkn
    have hp := pow16 k (by omega)
    have hp2 : 16 ^ (k + 1) = 16 * 16 ^ k := by rw [Nat.pow_succ]; omega
    have hdrop : bs.drop k = bs[k]'(by omega) :: bs.drop (k + 1) := List.drop_eq_getElem_cons (by omega)
    have hget : bs.getD k 0 = bs[k]'(by omega) := by simp [List.getD, List.getElem?_eq_getElem (show k < bs.length by omega)]
    have hxc := HX.out _ (List.getElem_mem (show k < bs.length by omega))
    rw [hdrop] at hdec
    rw [hget] at hc
    generalize bs[k]'(by omega) = c at hc hdec hxc
    rw [List.foldl_cons] at hdec
    have hc256 : c.toNat < 256 := c.toNat_lt
    clear hB hdrop hget
    by_cases hdig : 48 <= c.toNat /\ c.toNat <= 57
    · obtain ⟨hd0, hd1⟩ := hdig
      have hv : hexV c.toNat = c.toNat - 48 := by unfold hexV; rw [if_pos hd1]
      rw [hv] at hdec
      have HN : Hid (a * 16 + ((c.toNat : Int) - 48) = ((16 * acc + (c.toNat - 48) : Nat) : Int) /\ 16 * acc + (c.toNat - 48) < 16 ^ (k + 1) /\ hexF bs = (bs.drop (k + 1)).foldl (fun a c => 16 * a + hexV c.toNat) (16 * acc + (c.toNat - 48))) := ⟨by omega, by omega, hdec⟩
      have icut : a < 1152921504606846976 := by omega
      have iov : a * 16 + ((c.toNat : Int) - 48) < 18446744073709551616 := by omega
      clear hacc hdec ha hp hp2 hv hxc
      go_wp2_with fail
      refine ⟨⟨k + 1, 16 * acc + (c.toNat - 48), a * 16 + ((c.toNat : Int) - 48), rfl, (by first | rfl | (congr 1; omega)), (by first | rfl | (congr 1; omega)), by omega, HN⟩, by simp [intOf]; omega⟩
    · have hal : 97 <= c.toNat /\ c.toNat <= 102 := by
       unfold isHex ZK at hxc
       simp at hxc
       omega
      obtain ⟨hd0, hd1⟩ := hal
      have hv : hexV c.toNat = c.toNat - 87 := by unfold hexV; rw [if_neg (by omega)]
      rw [hv] at hdec
      have HN : Hid (a * 16 + ((c.toNat : Int) - 97 + 10) = ((16 * acc + (c.toNat - 87) : Nat) : Int) /\ 16 * acc + (c.toNat - 87) < 16 ^ (k + 1) /\ hexF bs = (bs.drop (k + 1)).foldl (fun a c => 16 * a + hexV c.toNat) (16 * acc + (c.toNat - 87))) := ⟨by omega, by omega, hdec⟩
      have icut : a < 1152921504606846976 := by omega
      have iov : a * 16 + ((c.toNat : Int) - 97 + 10) < 18446744073709551616 := by omega
      clear hacc hdec ha hp hp2 hv hxc hdig
      go_wp2_with (first | (go_at_call 241; refine (lower_hex _ (by omega) _).mono ?_; rintro e w' ⟨rfl, rfl⟩))
      refine ⟨⟨k + 1, 16 * acc + (c.toNat - 87), a * 16 + ((c.toNat : Int) - 97 + 10), rfl, (by first | rfl | (congr 1; omega)), (by first | rfl | (congr 1; omega)), by omega, HN⟩, by simp [intOf]; omega⟩
  · have hkk : k = t.size := by omega
    subst hkk
    rw [List.drop_eq_nil_of_le (by omega)] at hdec
    subst ha
    clear hacc a0
    go_wp2_with fail
    go_ret2
    exact ⟨rfl, HBW.out⟩
theorem parse_any (t : ByteArray) (w : World) (h1 : 1 <= t.size) (h16 : t.size <= 16) (hx : ∀ c ∈ t.data.toList, isHex (c.toNat : Int) = true) :
 Calls Tryz.prog 197 #[.string t, .int .i64 16, .int .i64 64] w fun e w' => e = .returned (.tuple #[.int .u64 (hexF t.data.toList), .nilIface]) /\ Below w.heap.size w w' := by
 go_enter Tryz.func197, Tryz.ntmps197
 go_wp2_with fail
 refine (iparse_any t w h1 h16 hx).mono ?_
 rintro e w1 ⟨rfl, hb⟩
 go_wp2_with fail
 go_ret2
 exact ⟨rfl, hb⟩
theorem overH_all (s : ByteArray) (i j k : Nat) (h1 : j <= k) (h2 : k < Yl s i j) : isHex (ZZ s k) = true := by
 rw [Yl] at h2
 split at h2
 · split at h2
   · rename_i hp
     by_cases hk : k = j
     · rw [hk]
       simp only [Bool.and_eq_true] at hp
       exact hp.1
     · exact overH_all s i (j + 1) k (by omega) h2
   · omega
 · omega
termination_by s.size - j
theorem cut_one (s : ByteArray) (i j : Nat) : ((cut s i j).extract 1 (cut s i j).size).data.toList = (cut s (i + 1) j).data.toList := by
 rw [cut_end]
 unfold cut
 rw [cut_list, cut_list, List.drop_take, List.drop_drop]
 congr 1
theorem parse_cut (s : ByteArray) (i j : Nat) (w : World) (hj : j <= s.size) (h17 : j - i = 17) (hx : ∀ k, i + 1 <= k -> k < j -> isHex (ZZ s k) = true) :
 Calls Tryz.prog 197 #[.string ((cut s i j).extract 1 (cut s i j).size), .int .i64 16, .int .i64 64] w fun e w' => e = .returned (.tuple #[.int .u64 (hexF (cut s (i + 1) j).data.toList), .nilIface]) /\ Below w.heap.size w w' := by
 have hz : ((cut s i j).extract 1 (cut s i j).size).size = 16 := by rw [ByteArray.size_extract, cut_size hj]; omega
 rw [← cut_one]
 refine parse_any _ w (by omega) (by omega) (fun c hc => ?_)
 rw [cut_one] at hc
 obtain ⟨k, h1, h2, _, rfl⟩ := cut_mem hc
 rw [← byte_b8]
 exact hx k h1 h2
structure Fl (w : World) (g n i : Nat) : Prop where
 r : w.cell? ⟨n, 0, none⟩ = some (.pointer (some ⟨g, 0, none⟩))
 f : w.cell? ⟨n + 1 + 1, 0, none⟩ = some (.int .i64 i)
 z : Tok w (n + 1) (.int .i64 0) (.string ⟨#[]⟩) (.int .i64 0) (.int .u64 0) (.int .i64 0)
theorem Fl.tn {w w' : World} {g n i : Nat} (h : Fl w g n i) (t : Tn g w w') (hg : g < n) : Fl w' g n i := ⟨t.cell (by omega) h.r, t.cell (by omega) h.f, h.z.tn t (by omega)⟩
theorem Fl.bel {w w' : World} {g n i : Nat} (h : Fl w g n i) (hb : Below w.heap.size w w') : Fl w' g n i := by
 have ht : Tn w.heap.size w w' := Tn.of_bel hb
 exact ⟨ht.cell (Nat.ne_of_lt (World.block_lt_of_cell? w _ h.r)) h.r, ht.cell (Nat.ne_of_lt (World.block_lt_of_cell? w _ h.f)) h.f, h.z.bel hb⟩
theorem Fl.drewN {w : World} {g n i : Nat} (h : Fl w g n i) (k : Nat) : Fl (w.drewN k) g n i := ⟨h.r, h.f, h.z⟩
theorem Fl.new (w : World) (g i : Nat) : Fl (((w.alloc (.cells #[.pointer (some ⟨g, 0, none⟩)] 153)).alloc (.cells #[.int .i64 0, .string ⟨#[]⟩, .int .i64 0, .int .u64 0, .int .i64 0] 80)).alloc (.cells #[.int .i64 i] 3)) g w.heap.size i ∧
 Below w.heap.size w (((w.alloc (.cells #[.pointer (some ⟨g, 0, none⟩)] 153)).alloc (.cells #[.int .i64 0, .string ⟨#[]⟩, .int .i64 0, .int .u64 0, .int .i64 0] 80)).alloc (.cells #[.int .i64 i] 3)) := by
 have b1 := Zd w (.cells #[.pointer (some ⟨g, 0, none⟩)] 153)
 have k1 : (w.alloc (.cells #[.pointer (some ⟨g, 0, none⟩)] 153)).heap[w.heap.size]? = some (.cells #[.pointer (some ⟨g, 0, none⟩)] 153 (0, 0)) := B_ _ _
 have s1 : (w.alloc (.cells #[.pointer (some ⟨g, 0, none⟩)] 153)).heap.size = w.heap.size + 1 := by simp
 generalize w.alloc _ = w1 at *
 have b2 := Zd w1 (.cells #[.int .i64 0, .string ⟨#[]⟩, .int .i64 0, .int .u64 0, .int .i64 0] 80)
 have k2 := Tok.new w1 (.int .i64 0) (.string ⟨#[]⟩) (.int .i64 0) (.int .u64 0) (.int .i64 0)
 have s2 : (w1.alloc (.cells #[.int .i64 0, .string ⟨#[]⟩, .int .i64 0, .int .u64 0, .int .i64 0] 80)).heap.size = w1.heap.size + 1 := by simp
 generalize w1.alloc _ = w2 at *
 have b3 := Zd w2 (.cells #[.int .i64 i] 3)
 have k3 : (w2.alloc (.cells #[.int .i64 i] 3)).heap[w2.heap.size]? = some (.cells #[.int .i64 i] 3 (0, 0)) := B_ _ _
 generalize w2.alloc _ = w3 at *
 have k1' := (b3.block _ (by omega)).trans ((b2.block _ (by omega)).trans k1)
 rw [s2, s1] at k3
 rw [s1] at k2
 have k2' : Tok w3 (w.heap.size + 1) _ _ _ _ _ := k2.bel b3
 exact ⟨⟨Zf k1' 0 _ rfl, Zf k3 0 _ rfl, k2'⟩, Zc (Zc b1 b2) b3⟩
theorem float_any (g : Nat) (s : ByteArray) (i : Nat) (p : List Addr) (w : World) (h : Rdr w g s i) (he : Er w p) (hG : 23 <= g) (hs : s.size <= 9000) (hi : i < s.size) :
 Calls Tryz.prog 158 #[.pointer (some ⟨g, 0, none⟩)] w fun e w' => Post g s p w e w' (floatF s i) := by
 have hmf : ∀ (fn : Fn) (first cap : Array Value) (w : World), (Instr.makeFunc fn first cap).run Tryz.prog w = .ok (.func fn first cap) w := fun _ _ _ _ => rfl
 have g2 := h.pos
 have g3 := h.frz 1
 have hlt := Ze h
 obtain ⟨fl, hb3⟩ := Fl.new w g i
 have R3 := h.below hb3
 have E3 := he.bel hb3
 have q2 := R3.pos
 have q3 := R3.frz 1
 obtain ⟨hr, ht⟩ := R3.set (i + 1) ((i : Int) + 1) (by omega)
 have RA := Zb hr
 have TA := Zb ((Tn.of_bel (g := g) hb3).trans ht)
 have EA := Zb (E3.tn ht hG)
 have FA := Zb (fl.tn ht hlt)
 have HF : Hid (floatF s i = if Yl s i (i + 1) - i = 17 then if tight s (Yl s i (i + 1)) = true then .bad 1 (Yl s i (i + 1)) else .ok ⟨4, cut s i (Yl s i (i + 1)), 0, hexF (cut s (i + 1) (Yl s i (i + 1))).data.toList, i⟩ (Yl s i (i + 1)) else .bad 1 i) := rfl
 have hoe := overH_ge s i (i + 1)
 have hol := overH_le s i (i + 1) (by omega)
 have HX := Zb (fun k h1 h2 => overH_all s i (i + 1) k h1 h2)
 clear h he R3 E3 fl hb3 hr ht
 go_enter Tryz.func158, Tryz.ntmps158
 go_wp2_with fail
 generalize (((w.alloc _).alloc _).alloc _).setCell ⟨g, 1, none⟩ (.int .i64 ((i : Int) + 1)) = wA at *
 clear g2 g3 q2 q3 hmf
 refine (over_hex g w.heap.size (w.heap.size + 1 + 1) s i (i + 1) wA RA.out FA.out.r FA.out.f (by omega) (by omega) hs (by omega) (by omega)).mono ?_
 rintro e w1 ⟨rfl, r1, t1⟩
 generalize Yl s i (i + 1) = j at *
 have R1 := Zb r1
 have T1 := Zb (TA.out.trans t1)
 have E1 := Zb (EA.out.tn t1 hG)
 have F1 := Zb (FA.out.tn t1 hlt)
 have y1 := r1.pos
 have y2 := F1.out.r
 have y3 := F1.out.f
 clear RA TA EA FA r1 t1
 by_cases h17 : j - i = 17
 · rw [if_pos h17] at HF
   have h17i : (((j : Int) - (i : Int)) != 17) = false := by simp; omega
   go_wp2_with fail
   go_quiet (fail)
   by_cases htt : tight s j = true
   · rw [if_pos htt] at HF
     go_wp2_with fail
     refine (apart_yes g s j p _ (R1.out.drewN nq) (E1.out.drewN nq) htt).mono ?_
     rintro e w5 ⟨rfl, k, rfl⟩
     refine ⟨rfl, ?_⟩
     rw [HF.out]
     exact ⟨rfl, (T1.out.drewN nq).drewN k⟩
   · rw [if_neg htt] at HF
     go_wp2_with fail
     refine (apart_no g s j _ (R1.out.drewN nq) (by simpa using htt)).mono ?_
     rintro e w5 ⟨rfl, k, rfl⟩
     have R5 := Zb ((R1.out.drewN nq).drewN k)
     have T5 := Zb ((T1.out.drewN nq).drewN k)
     have F5 := Zb ((F1.out.drewN nq).drewN k)
     clear R1 T1 E1 F1 y1 y2 y3
     generalize (w1.drewN nq).drewN k = w5 at *
     have y2 := F5.out.r
     have y3 := F5.out.f
     go_wp2_with fail
     refine (since_any g s i j 4 _ R5.out hs (by omega) (by omega)).mono ?_
     rintro e w2 ⟨rfl, hb2⟩
     have R2 := Zb (R5.out.below hb2)
     have T2 := Zb (T5.out.trans (Tn.of_bel hb2))
     have F2 := Zb (F5.out.bel hb2)
     have hN2 : w.heap.size + 1 + 1 < w2.heap.size := World.block_lt_of_cell? w2 _ F2.out.f
     clear R5 T5 F5 hb2 y2 y3
     have hcz : 1 <= (cut s i j).size := by rw [cut_size hol]; omega
     go_wp2_with fail
     have hb3 := Zd w2 (.cells #[.int .i64 4, .string (cut s i j), .int .i64 0, .int .u64 0, .int .i64 i] 80)
     have Y3 := Zb (Tok.new w2 (.int .i64 4) (.string (cut s i j)) (.int .i64 0) (.int .u64 0) (.int .i64 i))
     have R3 := Zb (R2.out.below hb3)
     have T3 := Zb (T2.out.trans (Tn.of_bel hb3))
     have Z3 := Zb (F2.out.bel hb3).z
     have hgn : g ≠ w2.heap.size := Nat.ne_of_lt (Ze R2.out)
     clear R2 T2 F2 hb3
     generalize w2.alloc _ = w3 at *
     generalize w2.heap.size = n at *
     refine (parse_cut s i j _ hol h17 HX.out).mono ?_
     rintro e w4 ⟨rfl, hb4⟩
     generalize hexF (cut s (i + 1) j).data.toList = v at *
     have T4 := Zb (T3.out.trans (Tn.of_bel hb4))
     have R4 := Zb (R3.out.below hb4)
     have Y4 := Zb (Y3.out.bel hb4)
     have Z4 := Zb (Z3.out.bel hb4)
     clear R3 T3 Z3 Y3 hb4
     have hnn : w.heap.size + 1 ≠ n := by omega
     have hne : w.heap.size + 1 ≠ g := by omega
     obtain ⟨⟨f0, f1, f2, f3, f4⟩, c0, c1, c2, c3, c4⟩ := Y4.out.all
     obtain ⟨y6, t6⟩ := Zs Y4.out 3 (.int .u64 v)
     have Y6 : Hid (Tok (w4.setCell ⟨n, 3, none⟩ (.int .u64 v)) n (.int .i64 4) (.string (cut s i j)) (.int .i64 0) (.int .u64 v) (.int .i64 i)) := y6
     have T6 := Zb t6
     have z6 := Z4.out.tn t6 hnn
     obtain ⟨⟨m0, m1, m2, m3, m4⟩, k0, k1, k2, k3, k4⟩ := Y6.out.all
     obtain ⟨⟨a0, a1, a2, a3, a4⟩, b0, b1, b2, b3, b4⟩ := z6.all
     obtain ⟨z7, t7⟩ := set5 z6 (.int .i64 4) (.string (cut s i j)) (.int .i64 0) (.int .u64 v) (.int .i64 i)
     have Z7 := Zb z7
     have T7 := Zb t7
     clear y6 z6 z7 t6 t7
     go_wp2_with fail
     refine Yy (w.heap.size + 1) rfl rfl Z7.out rfl ?_
     rw [HF.out]
     exact ⟨rfl, (R4.out.tn T6.out hgn).tn T7.out (Ne.symm hne), (T4.out.own T6.out (by omega)).own T7.out (by omega)⟩
 · rw [if_neg h17] at HF
   have h17i : (((j : Int) - (i : Int)) != 17) = true := by simp; omega
   have x1 := E1.out.c1
   go_wp2_with fail
   go_quiet (fail)
   go_wp2_with fail
   refine (YF _ _ i _).mono ?_
   rintro e w5 ⟨rfl, rfl⟩
   refine ⟨rfl, ?_⟩
   rw [HF.out]
   exact ⟨rfl, T1.out.drewN nq⟩
theorem token_any (g : Nat) (s : ByteArray) (i : Nat) (p : List Addr) (w : World) (h : Rdr w g s i) (he : Er w p) (hG : 23 <= g) (hs : s.size <= 9000) (hi : i < s.size) :
 Calls Tryz.prog 118 #[.pointer (some ⟨g, 0, none⟩)] w fun e w' => Post g s p w e w' (tokF s i) := by
 have hb0 := Zb (Zd w tokZ)
 have hz0 : Hid (Tok (w.alloc tokZ) w.heap.size (.int .i64 0) (.string ⟨#[]⟩) (.int .i64 0) (.int .u64 0) (.int .i64 0)) := B_ _ _
 have H0 := Zb (h.below hb0.out)
 have E0 := Zb (he.bel hb0.out)
 have g1 := H0.out.src
 have g2 := H0.out.pos
 have hne : w.heap.size ≠ g := Nat.ne_of_gt (Ze h)
 have T0 := Zb (Tn.of_bel (g := g) hb0.out)
 have hbe := Yn s i hi
 clear h he hb0
 unfold tokZ at *
 obtain ⟨r, hr⟩ : ∃ r, tokF s i = r := ⟨_, rfl⟩
 rw [hr]
 have HR : Hid (r = if ZV (ZZ s i) = true then wordF s i else if ZK (ZZ s i) = true then intF s i else if ZZ s i = 35 then floatF s i else signF s i) := hr.symm
 clear hr
 go_enter Tryz.func118, Tryz.ntmps118
 go_wp2_with fail
 generalize w.alloc _ = w0 at *
 go_quiet (fail)
 rw [hbe] at HR
 have HB := Zb hbe
 clear hbe
 generalize ((s[i]'hi).toNat : Int) = c at *
 have H1 := Zb (H0.out.drewN nq)
 have E1 := Zb (E0.out.drewN nq)
 have T1 := Zb (T0.out.drewN nq)
 have Z1 : Hid (Tok (w0.drewN nq) w.heap.size (.int .i64 0) (.string ⟨#[]⟩) (.int .i64 0) (.int .u64 0) (.int .i64 0)) := hz0.out
 clear H0 E0 T0 hz0 g1 g2
 generalize w0.drewN nq = w1 at *
 go_wp2_with fail
 refine (letter_any c w1).mono ?_
 rintro e w' ⟨rfl, rfl⟩
 by_cases h1 : ZV c = true
 · rw [if_pos h1] at HR
   rw [h1]
   go_wp2_with fail
   refine (word_any g s i p _ H1.out E1.out hG hs hi).mono ?_
   intro e w2 hp
   cases hq : wordF s i with
   | bad k j =>
    rw [hq] at hp
    rw [hq] at HR
    obtain ⟨rfl, t2⟩ := hp
    refine ⟨rfl, ?_⟩
    rw [HR.out]
    exact ⟨rfl, T1.out.trans t2⟩
   | ok t j =>
    rw [hq] at hp
    rw [hq] at HR
    obtain ⟨rfl, r2, t2⟩ := hp
    have Z2 := Z1.out.tn t2 hne
    obtain ⟨⟨a0, a1, a2, a3, a4⟩, b0, b1, b2, b3, b4⟩ := Z2.all
    obtain ⟨z3, t3⟩ := set5 Z2 (.int .i64 t.kind) (.string t.text) (.int .i64 t.n) (.int .u64 t.bits) (.int .i64 t.pos)
    have Z3 := Zb z3
    have T3 := Zb t3
    have T2 := Zb (T1.out.trans t2)
    have R2 := Zb r2
    clear z3 t3 t2 r2 Z2 H1 E1 T1 Z1 hq
    unfold Tk.val
    go_wp2_with fail
    refine Yy w.heap.size rfl rfl Z3.out rfl ?_
    rw [HR.out]
    exact ⟨rfl, R2.out.tn T3.out (Ne.symm hne), T2.out.own T3.out (Nat.le_refl _)⟩
 · rw [if_neg h1] at HR
   rw [show ZV c = false by simpa using h1]
   go_wp2_with fail
   refine (digit_any c w1).mono ?_
   rintro e w' ⟨rfl, rfl⟩
   by_cases h2 : ZK c = true
   · rw [if_pos h2] at HR
     rw [h2]
     have HD : Hid (ZK (ZZ s i) = true) := by show _ = _; rw [HB.out]; exact h2
     go_wp2_with fail
     refine (int_any g s i p _ H1.out E1.out hG hs hi HD.out).mono ?_
     intro e w2 hp
     cases hq : intF s i with
     | bad k j =>
      rw [hq] at hp
      rw [hq] at HR
      obtain ⟨rfl, t2⟩ := hp
      refine ⟨rfl, ?_⟩
      rw [HR.out]
      exact ⟨rfl, T1.out.trans t2⟩
     | ok t j =>
      rw [hq] at hp
      rw [hq] at HR
      obtain ⟨rfl, r2, t2⟩ := hp
      have Z2 := Z1.out.tn t2 hne
      obtain ⟨⟨a0, a1, a2, a3, a4⟩, b0, b1, b2, b3, b4⟩ := Z2.all
      obtain ⟨z3, t3⟩ := set5 Z2 (.int .i64 t.kind) (.string t.text) (.int .i64 t.n) (.int .u64 t.bits) (.int .i64 t.pos)
      have Z3 := Zb z3
      have T3 := Zb t3
      have T2 := Zb (T1.out.trans t2)
      have R2 := Zb r2
      clear z3 t3 t2 r2 Z2 H1 E1 T1 Z1 hq
      unfold Tk.val
      go_wp2_with fail
      refine Yy w.heap.size rfl rfl Z3.out rfl ?_
      rw [HR.out]
      exact ⟨rfl, R2.out.tn T3.out (Ne.symm hne), T2.out.own T3.out (Nat.le_refl _)⟩
   · rw [if_neg h2] at HR
     rw [show ZK c = false by simpa using h2]
     by_cases h3 : c = 35
     · rw [if_pos h3] at HR
       subst h3
       go_wp2_with fail
       refine (float_any g s i p _ H1.out E1.out hG hs hi).mono ?_
       intro e w2 hp
       cases hq : floatF s i with
       | bad k j =>
        rw [hq] at hp
        rw [hq] at HR
        obtain ⟨rfl, t2⟩ := hp
        refine ⟨rfl, ?_⟩
        rw [HR.out]
        exact ⟨rfl, T1.out.trans t2⟩
       | ok t j =>
        rw [hq] at hp
        rw [hq] at HR
        obtain ⟨rfl, r2, t2⟩ := hp
        have Z2 := Z1.out.tn t2 hne
        obtain ⟨⟨a0, a1, a2, a3, a4⟩, b0, b1, b2, b3, b4⟩ := Z2.all
        obtain ⟨z3, t3⟩ := set5 Z2 (.int .i64 t.kind) (.string t.text) (.int .i64 t.n) (.int .u64 t.bits) (.int .i64 t.pos)
        have Z3 := Zb z3
        have T3 := Zb t3
        have T2 := Zb (T1.out.trans t2)
        have R2 := Zb r2
        clear z3 t3 t2 r2 Z2 H1 E1 T1 Z1 hq
        unfold Tk.val
        go_wp2_with fail
        refine Yy w.heap.size rfl rfl Z3.out rfl ?_
        rw [HR.out]
        exact ⟨rfl, R2.out.tn T3.out (Ne.symm hne), T2.out.own T3.out (Nat.le_refl _)⟩
     · rw [if_neg h3] at HR
       have h3b : (c == 35) = false := by simpa using h3
       go_wp2_with fail
       refine (mark_any g s i p _ H1.out E1.out hG hs hi).mono ?_
       intro e w2 hp
       cases hq : signF s i with
       | bad k j =>
        rw [hq] at hp
        rw [hq] at HR
        obtain ⟨rfl, t2⟩ := hp
        refine ⟨rfl, ?_⟩
        rw [HR.out]
        exact ⟨rfl, T1.out.trans t2⟩
       | ok t j =>
        rw [hq] at hp
        rw [hq] at HR
        obtain ⟨rfl, r2, t2⟩ := hp
        have Z2 := Z1.out.tn t2 hne
        obtain ⟨⟨a0, a1, a2, a3, a4⟩, b0, b1, b2, b3, b4⟩ := Z2.all
        obtain ⟨z3, t3⟩ := set5 Z2 (.int .i64 t.kind) (.string t.text) (.int .i64 t.n) (.int .u64 t.bits) (.int .i64 t.pos)
        have Z3 := Zb z3
        have T3 := Zb t3
        have T2 := Zb (T1.out.trans t2)
        have R2 := Zb r2
        clear z3 t3 t2 r2 Z2 H1 E1 T1 Z1 hq
        unfold Tk.val
        go_wp2_with fail
        refine Yy w.heap.size rfl rfl Z3.out rfl ?_
        rw [HR.out]
        exact ⟨rfl, R2.out.tn T3.out (Ne.symm hne), T2.out.own T3.out (Nat.le_refl _)⟩
theorem assert_bad (v : Value) (w : World) : (Instr.typeAssert (.iface 37 v) 20 37 false).run Tryz.prog w = .ok v w := by
 simp [Instr.typeAssert, run_underlying Tryz.underlying37, go_sem, Result.andThen]
theorem catch_idle (a b : Addr) (w : World) :
 CallsD Tryz.prog 114 #[.pointer (some a), .pointer (some b)] .returning w fun e u' w' => e = .returned (.tuple #[]) /\ u' = .returning /\ w' = w := by
 refine callsD_of_wpS Tryz.func114 rfl fun c₀ cs hu => ?_
 apply wpS_seq
 apply wpS_region
 simp [wpOpsS, go_sem, recoverD, hu, Tryz.ntmps114, Exit.thenS]
 apply wpS_seq
 refine wpS_of_wp ?_
 go_wp2_with fail
 refine wpS_cond (t := false) (by simp [Act.eval, Array.replicate]) ?_
 simp only [Bool.false_eq_true, if_false]
 refine wpS_of_wp (wp_skip ?_)
 cases c₀
 simp_all [bodyPostS, results, Tryz.results114]
theorem catch_stop (bT bB : Nat) (v0 z0 z1 : Value) (te : TypeId) (pe : Value) (i : Nat) (w : World) (hT : w.heap[bT]? = some (.cells #[v0] 76 (0, 0))) (hB : w.heap[bB]? = some (.cells #[z0, z1] 37 (0, 0))) (hne : bT ≠ bB) :
 CallsD Tryz.prog 114 #[.pointer (some ⟨bT, 0, none⟩), .pointer (some ⟨bB, 0, none⟩)] (.panicking [{ v := badV (.iface te pe) i, recovered := false }]) w fun e u' w' =>
  e = .returned (.tuple #[]) /\ u' = .panicking [{ v := badV (.iface te pe) i, recovered := true }] /\ w'.heap[bT]? = some (.cells #[.slice none 0 0] 76 (0, 0)) /\ w'.heap[bB]? = some (.cells #[.iface te pe, .int .i64 i] 37 (0, 0)) /\ ∀ B, B <= bT -> B <= bB -> Below B w w' := by
 have f0 := Zi hT 0
 have f1 := Zi hB 0
 have f2 := Zi hB 1
 have c0 := Zf hT 0 _ rfl
 have c1 := Zf hB 0 _ rfl
 have c2 := Zf hB 1 _ rfl
 have ha := assert_bad
 unfold badV
 refine callsD_of_wpS Tryz.func114 rfl fun c₀ cs hu => ?_
 apply wpS_seq
 apply wpS_region
 simp [wpOpsS, go_sem, recoverD, hu, Tryz.ntmps114, Exit.thenS]
 apply wpS_seq
 refine wpS_of_wp ?_
 go_wp2_with fail
 refine wpS_cond (t := true) (by simp [Act.eval, Array.replicate]) ?_
 simp only [if_true]
 refine wpS_of_wp ?_
 change Code.wp _ _ _ { tmps := #[.pointer (some ⟨bT, 0, none⟩), .pointer (some ⟨bB, 0, none⟩), .iface 37 (.agg #[.iface te pe, .int .i64 i]), .iface 37 (.agg #[.iface te pe, .int .i64 i]), .iface 37 (.agg #[.iface te pe, .int .i64 i]), .bool true, undef, undef], defers := [] } _
 go_region
 obtain ⟨k1, t1⟩ := Zs hT 0 (.slice none 0 0)
 obtain ⟨k2, t2⟩ := Zs ((t1.blk bB (Ze hB) (Ne.symm hne)).trans hB) 0 (.iface te pe)
 obtain ⟨k3, t3⟩ := Zs k2 1 (.int .i64 i)
 have hlt := Ze hT
 refine ⟨rfl, _, rfl, _, results_none rfl _ _ _, rfl, rfl, ?_, ?_, fun B h1 h2 => ?_⟩
 · exact (t3.blk bT (Nat.lt_of_lt_of_le (Ze k1) t2.size) hne).trans ((t2.blk bT (Ze k1) hne).trans k1)
 · exact k3
 · have b1 := t1.bel h1 (Nat.le_trans h1 (Nat.le_of_lt hlt))
   have b2 := t2.bel h2 (Nat.le_trans h1 (Nat.le_of_lt (Nat.lt_of_lt_of_le hlt t1.size)))
   have b3 := t3.bel h2 (Nat.le_trans h1 (Nat.le_of_lt (Nat.lt_of_lt_of_le hlt (Nat.le_trans t1.size t2.size))))
   exact ((b1.trans b2).trans b3).drew
theorem results_read {tmps : Array Value} {bT bB : Nat} {w : World} {v z0 z1 : Value} (h2 : tmps.getD 2 undef = .pointer (some ⟨bT, 0, none⟩)) (h3 : tmps.getD 3 undef = .pointer (some ⟨bB, 0, none⟩))
 (hT : w.heap[bT]? = some (.cells #[v] 76 (0, 0))) (hB : w.heap[bB]? = some (.cells #[z0, z1] 37 (0, 0))) :
 (results Tryz.f74 tmps).run Tryz.prog w = .ok (.tuple #[v, .agg #[z0, z1]]) w := by
 have h2' : tmps[2]?.getD undef = .pointer (some ⟨bT, 0, none⟩) := by simpa using h2
 have h3' : tmps[3]?.getD undef = .pointer (some ⟨bB, 0, none⟩) := by simpa using h3
 have c0 := Zf hT 0 _ rfl
 have c1 := Zf hB 0 _ rfl
 have c2 := Zf hB 1 _ rfl
 simp [results, Tryz.results74, h2', h3', go_sem, c0, c1, c2]
theorem door_stop {R : Ending -> World -> Prop} {tmps : Array Value} {bT bB : Nat} {w : World} {v0 z0 z1 : Value} {te : TypeId} {pe : Value} {i : Nat} (h2 : tmps.getD 2 undef = .pointer (some ⟨bT, 0, none⟩)) (h3 : tmps.getD 3 undef = .pointer (some ⟨bB, 0, none⟩))
 (hT : w.heap[bT]? = some (.cells #[v0] 76 (0, 0))) (hB : w.heap[bB]? = some (.cells #[z0, z1] 37 (0, 0))) (hne : bT ≠ bB)
 (hR : ∀ w', (∀ B, B <= bT -> B <= bB -> Below B w w') -> R (.returned (.tuple #[.slice none 0 0, .agg #[.iface te pe, .int .i64 i]])) w') :
 Leaves Tryz.prog Tryz.f74 tmps R [{ target := .fn (.func 114) #[.pointer (some ⟨bT, 0, none⟩), .pointer (some ⟨bB, 0, none⟩)], args := #[] }] (.panicking [{ v := badV (.iface te pe) i, recovered := false }]) w := by
 refine leaves_cons (f := 114) (args := #[.pointer (some ⟨bT, 0, none⟩), .pointer (some ⟨bB, 0, none⟩)]) (by simp) (by simp [go_sem]) ?_
 refine (catch_stop bT bB v0 z0 z1 te pe i w hT hB hne).mono ?_
 rintro e u' w' ⟨rfl, rfl, k1, k2, hb⟩
 exact ⟨_, results_read h2 h3 k1 k2, hR w' hb⟩
theorem door_end {R : Ending -> World -> Prop} {tmps : Array Value} {bT bB : Nat} {w : World} {v z0 z1 : Value} (h2 : tmps.getD 2 undef = .pointer (some ⟨bT, 0, none⟩)) (h3 : tmps.getD 3 undef = .pointer (some ⟨bB, 0, none⟩))
 (hT : w.heap[bT]? = some (.cells #[v] 76 (0, 0))) (hB : w.heap[bB]? = some (.cells #[z0, z1] 37 (0, 0)))
 (hR : R (.returned (.tuple #[v, .agg #[z0, z1]])) w) :
 Leaves Tryz.prog Tryz.f74 tmps R [{ target := .fn (.func 114) #[.pointer (some ⟨bT, 0, none⟩), .pointer (some ⟨bB, 0, none⟩)], args := #[] }] .returning w := by
 refine leaves_cons (f := 114) (args := #[.pointer (some ⟨bT, 0, none⟩), .pointer (some ⟨bB, 0, none⟩)]) (by simp) (by simp [go_sem]) ?_
 refine (catch_idle _ _ w).mono ?_
 rintro e u' w' ⟨rfl, rfl, rfl⟩
 exact ⟨_, results_read h2 h3 hT hB, hR⟩
def toks (ts : List Tk) : List Value := ts.flatMap Tk.cells
theorem toks_app (a b : List Tk) : toks (a ++ b) = toks a ++ toks b := by unfold toks; simp
theorem toks_one (ts : List Tk) : ∀ u ∈ toks ts, u.oneCell' = true := fun u hu => by
 obtain ⟨t, _, h⟩ := List.mem_flatMap.1 hu
 simp [Tk.cells] at h
 rcases h with rfl | rfl | rfl | rfl | rfl <;> rfl
def OwnT (w : World) (B : Nat) (v : Value) (ts : List Tk) : Prop := w.ownsRow B 80 5 v ts.length (toks ts)
theorem info_tok : (Tryz.prog.info? 80).map (fun i => (i.zero, i.size, i.bytes)) = some (some (.agg #[.int .i64 0, .string ⟨#[]⟩, .int .i64 0, .int .u64 0, .int .i64 0]), 5, 48) := by kernel_rfl
theorem OwnT.nil (w : World) (B : Nat) : OwnT w B (.slice none 0 0) [] := ⟨rfl, .inl ⟨rfl, rfl⟩⟩
theorem OwnT.len {w : World} {B : Nat} {v : Value} {ts : List Tk} (h : OwnT w B v ts) : ∃ a c, v = .slice a ts.length c := by
 rcases h.2 with ⟨rfl, h0⟩ | ⟨g, cap, _, rfl, _⟩
 · exact ⟨none, 0, by rw [h0]⟩
 · exact ⟨_, _, rfl⟩
theorem OwnT.tn {w w' : World} {B n : Nat} {v : Value} {ts : List Tk} (h : OwnT w B v ts) (t : Tn n w w') (hn : n < B) : OwnT w' B v ts := by
 refine ⟨h.1, ?_⟩
 rcases h.2 with h0 | ⟨g, cap, cur, hv, hg, hb, hr⟩
 · exact .inl h0
 · exact .inr ⟨g, cap, cur, hv, hg, (t.blk g (Ze hb) (by omega)).trans hb, hr⟩
theorem OwnT.below {w w' : World} {B : Nat} {v : Value} {ts : List Tk} (h : OwnT w B v ts) (hb : Below w.heap.size w w') : OwnT w' B v ts := by
 refine ⟨h.1, ?_⟩
 rcases h.2 with h0 | ⟨g, cap, cur, hv, hg, hk, hr⟩
 · exact .inl h0
 · exact .inr ⟨g, cap, cur, hv, hg, (hb.block g (Ze hk)).trans hk, hr⟩
structure Rs (w wr : World) (p : List Addr) (s : ByteArray) (i : Nat) (v : Value) (ts : List Tk) : Prop where
 rd : Rdr wr (w.heap.size + 1 + 1) s i
 tv : wr.heap[w.heap.size]? = some (.cells #[v] 76 (0, 0))
 bd : wr.heap[w.heap.size + 1]? = some (.cells #[.nilIface, .int .i64 0] 37 (0, 0))
 own : OwnT wr (w.heap.size + 1 + 1 + 1) v ts
 er : Er wr p
 bel : Below w.heap.size w wr
theorem Rs.tn {w wr wr' : World} {p : List Addr} {s : ByteArray} {i j : Nat} {v : Value} {ts : List Tk} (h : Rs w wr p s i v ts) (hG : 23 <= w.heap.size) (t : Tn (w.heap.size + 1 + 1) wr wr') (r : Rdr wr' (w.heap.size + 1 + 1) s j) : Rs w wr' p s j v ts :=
 ⟨r, (t.blk _ (Ze h.tv) (by omega)).trans h.tv, (t.blk _ (Ze h.bd) (by omega)).trans h.bd, h.own.tn t (by omega), h.er.tn t (by omega), h.bel.trans (t.bel (by omega) h.bel.size)⟩
theorem Rs.tnb {w wr wr' : World} {p : List Addr} {s : ByteArray} {i : Nat} {v : Value} {ts : List Tk} (h : Rs w wr p s i v ts) (t : Tn (w.heap.size + 1 + 1) wr wr') :
 wr'.heap[w.heap.size]? = some (.cells #[v] 76 (0, 0)) /\ wr'.heap[w.heap.size + 1]? = some (.cells #[.nilIface, .int .i64 0] 37 (0, 0)) /\ Below w.heap.size w wr' :=
 ⟨(t.blk _ (Ze h.tv) (by omega)).trans h.tv, (t.blk _ (Ze h.bd) (by omega)).trans h.bd, h.bel.trans (t.bel (by omega) h.bel.size)⟩
theorem Rs.below {w wr wr' : World} {p : List Addr} {s : ByteArray} {i : Nat} {v : Value} {ts : List Tk} (h : Rs w wr p s i v ts) (hb : Below wr.heap.size wr wr') : Rs w wr' p s i v ts :=
 ⟨h.rd.below hb, (hb.block _ (Ze h.tv)).trans h.tv, (hb.block _ (Ze h.bd)).trans h.bd, h.own.below hb, h.er.bel hb, h.bel.trans (hb.mono h.bel.size)⟩
theorem Rs.drewN {w wr : World} {p : List Addr} {s : ByteArray} {i : Nat} {v : Value} {ts : List Tk} (h : Rs w wr p s i v ts) (k : Nat) : Rs w (wr.drewN k) p s i v ts := h.below (below_drewN (Below.refl _ _) k)
theorem Rs.start (w : World) (p : List Addr) (s : ByteArray) (he : Er w p) :
 Rs w (((w.alloc (.cells #[.slice none 0 0] 76)).alloc (.cells #[.nilIface, .int .i64 0] 37)).alloc (.cells #[.string s, .int .i64 0] 155)) p s 0 (.slice none 0 0) [] := by
 have b1 := Zd w (.cells #[.slice none 0 0] 76)
 have k1 : (w.alloc (.cells #[.slice none 0 0] 76)).heap[w.heap.size]? = some (.cells #[.slice none 0 0] 76 (0, 0)) := B_ _ _
 have s1 : (w.alloc (.cells #[.slice none 0 0] 76)).heap.size = w.heap.size + 1 := by simp
 generalize w.alloc _ = w1 at *
 have b2 := Zd w1 (.cells #[.nilIface, .int .i64 0] 37)
 have k2 : (w1.alloc (.cells #[.nilIface, .int .i64 0] 37)).heap[w1.heap.size]? = some (.cells #[.nilIface, .int .i64 0] 37 (0, 0)) := B_ _ _
 have s2 : (w1.alloc (.cells #[.nilIface, .int .i64 0] 37)).heap.size = w1.heap.size + 1 := by simp
 generalize w1.alloc _ = w2 at *
 have b3 := Zd w2 (.cells #[.string s, .int .i64 0] 155)
 have k3 : (w2.alloc (.cells #[.string s, .int .i64 0] 155)).heap[w2.heap.size]? = some (.cells #[.string s, .int .i64 0] 155 (0, 0)) := B_ _ _
 generalize w2.alloc _ = w3 at *
 rw [s2, s1] at k3
 rw [s1] at k2
 exact ⟨k3, (b3.block _ (by omega)).trans ((b2.block _ (by omega)).trans k1), (b3.block _ (by omega)).trans k2, OwnT.nil _ _, ((he.bel b1).bel b2).bel b3, Zc (Zc b1 b2) b3⟩
theorem Rs.push {w wr : World} {p : List Addr} {s : ByteArray} {i : Nat} {v : Value} {ts : List Tk} (h : Rs w wr p s i v ts) (hG : 23 <= w.heap.size) (t : Tk) (b c : Nat) (hb : wr.heap[b]? = some (.cells #[.int .i64 t.kind, .string t.text, .int .i64 t.n, .int .u64 t.bits, .int .i64 t.pos] 80 (0, 0))) (hl : ts.length <= 2000) (ty : TypeId) :
 ∃ v' w', (Builtin.append_ #[76, 76] ty #[v, .slice (some ⟨b, 0, none⟩) 1 c]).run Tryz.prog wr = .ok v' w' ∧
  (w'.cell? ⟨w.heap.size, 0, none⟩ = some v /\ w'.frozen? ⟨w.heap.size, 0, none⟩ = false /\ Rs w (w'.setCell ⟨w.heap.size, 0, none⟩ v') p s i v' (ts ++ [t])) := by
 obtain ⟨ie, hi, hz0, hz1, hz2⟩ := info_parts info_tok
 have hn : ∀ j u, (Tk.cells t)[j]? = some u -> wr.cell? ((⟨b, 0, none⟩ : Addr).add j) = some u := fun j u hu => by
  have e2 : (Addr.mk b 0 none).add j = ⟨b, j, none⟩ := by unfold Addr.add; by_cases h : j = 0 <;> simp [h]
  rw [e2]
  exact Zf hb j u (by rw [← hu]; unfold Tk.cells; simp)
 obtain ⟨v', w', hr, ho, hg, _⟩ := run_append_own (P := Tryz.prog) wr (w.heap.size + 1 + 1 + 1) 76 ty 80 ie (.agg #[.int .i64 0, .string ⟨#[]⟩, .int .i64 0, .int .u64 0, .int .i64 0]) 5 48 Tryz.underlying76 hi hz0 hz1 hz2 rfl (by decide) v ts.length (toks ts) h.own ⟨b, 0, none⟩ 1 c (Tk.cells t) rfl hn (fun u hu => toks_one [t] u (by unfold toks; simpa using hu)) (by unfold maxLen; omega) (by omega) (Nat.succ_le_of_lt (Ze h.rd))
 have hown : ∀ k, v.ownBlock = some k -> w.heap.size + 1 + 1 + 1 <= k := fun k hk => by
  rcases h.own.2 with ⟨rfl, _⟩ | ⟨g, cap, cur, rfl, hge, _⟩
  · cases hk
  · cases hk; exact hge
 have hblk : ∀ k, k <= w.heap.size + 1 + 1 -> k < wr.heap.size -> w'.heap[k]? = wr.heap[k]? := fun k hk hk2 => hg.block k hk2 (fun e => by have := hown k e.symm; omega)
 have htv := (hblk _ (by omega) (Ze h.tv)).trans h.tv
 obtain ⟨k1, t1⟩ := Zs htv 0 v'
 have hb0 : Below w.heap.size wr w' := ⟨hg.os, hg.tape, hg.output, hg.size, fun k hk => hblk k (by omega) (Nat.lt_of_lt_of_le hk h.bel.size)⟩
 have her : Er w' p := by
  obtain ⟨te, pe, hs⟩ := h.er.cs
  have hc : ∀ {k : Nat} {u : Value}, k < 23 -> wr.cell? ⟨k, 0, none⟩ = some u -> w'.cell? ⟨k, 0, none⟩ = some u := fun hk hu => (hb0.cell (p := ⟨_, 0, none⟩) (Nat.lt_of_lt_of_le hk hG)).trans hu
  exact ⟨hc (by omega) h.er.c0, hc (by omega) h.er.c1, hc (by omega) h.er.c5, te, pe, hc (by omega) hs⟩
 have ho2 : OwnT w' (w.heap.size + 1 + 1 + 1) v' (ts ++ [t]) := by
  unfold OwnT
  rw [List.length_append, toks_app]
  exact ho
 refine ⟨v', w', hr, Zf htv 0 _ rfl, Zi htv 0, ?_⟩
 exact ⟨(t1.blk _ (Nat.lt_of_lt_of_le (Ze h.rd) hg.size) (by omega)).trans ((hblk _ (Nat.le_refl _) (Ze h.rd)).trans h.rd), k1, (t1.blk _ (Nat.lt_of_lt_of_le (Ze h.bd) hg.size) (by omega)).trans ((hblk _ (by omega) (Ze h.bd)).trans h.bd), ho2.tn t1 (by omega), her.tn t1 hG, (h.bel.trans hb0).trans (t1.bel (Nat.le_refl _) (Nat.le_trans h.bel.size hg.size))⟩
theorem step_appT {w : World} {ops : Array Oper} {o : Oper} {a : Act} {K : Act -> World -> Prop} {Q : Exit -> Act -> World -> Prop} {E : Prop} (s x : Operand) (v vx : Value) (R : Value -> World -> Prop)
 (hrun : ∀ ty, ∃ v' w', (Builtin.append_ #[76, 76] ty #[v, vx]).run Tryz.prog w = .ok v' w' /\ R v' w') (hgd : o.guard = none)
 (ho : o.op = .call { callee := .builtin .append, args := #[s, x], argTypes := #[76, 76] }) (hs : a.eval s = v) (hx : a.eval x = vx)
 (h : ∀ v' w', R v' w' -> K (a.put o.dst v') w') : if Region.wanted o (yielded ops a.tmps) = true then Oper.wp Tryz.prog o a w K Q else E := by
 have hw : Region.wanted o (yielded ops a.tmps) = true := by simp [Region.wanted, hgd]
 rw [if_pos hw]
 obtain ⟨v', w', hr, hR⟩ := hrun o.type
 unfold Oper.wp execOp
 simp only [ho, resolve, invoke, builtin, Sem.run_bind, Sem.run_pure, Result.andThen_ok, List.map_toArray, List.map_cons, List.map_nil, hs, hx, hr]
 exact h v' w' hR
def Rp (w : World) (p : List Addr) (e : Ending) (w' : World) : Ended -> Prop
 | .ok ts => ∃ v, e = .returned (.tuple #[v, .agg #[.nilIface, .int .i64 0]]) /\ OwnT w' (w.heap.size + 1 + 1 + 1) v ts /\ Below w.heap.size w w'
 | .bad k i => e = .returned (.tuple #[.slice none 0 0, .agg #[errV p k, .int .i64 i]]) /\ Below w.heap.size w w'
theorem read_any (s : ByteArray) (p : List Addr) (w : World) (he : Er w p) (hG : 23 <= w.heap.size) (hs : s.size <= 9000) :
 Calls Tryz.prog 74 #[.string s] w fun e w' => Rp w p e w' (readF s) := by
 have hmf : ∀ (fn : Fn) (first cap : Array Value) (w : World), (Instr.makeFunc fn first cap).run Tryz.prog w = .ok (.func fn first cap) w := fun _ _ _ _ => rfl
 have I0 := Zb (Rs.start w p s he)
 obtain ⟨r, hr⟩ : ∃ r, readF s = r := ⟨_, rfl⟩
 rw [hr]
 have HR := Zb hr
 clear hr he
 go_enter_defers Tryz.func74, Tryz.ntmps74
 go_wp2_with fail
 generalize ((w.alloc _).alloc _).alloc _ = w0 at *
 refine (blanks_any _ s 0 w0 I0.out.rd hs (Nat.zero_le _)).mono ?_
 rintro e w1 ⟨rfl, r1, t1⟩
 have I1 := Zb (I0.out.tn hG t1 r1)
 clear I0 r1 t1
 go_wp2_with fail
 go_loopw [] (fun wr => ∃ (i : Nat) (v : Value) (ts : List Tk), i <= s.size /\ ts.length <= 2000 /\ Hid (Rs w wr p s i v ts) /\ Hid (r = rdF s i ts)) (fun wr => s.size - posAt wr (w.heap.size + 1 + 1))
 case atStart => exact ⟨_, _, _, blF_le _ _ (Nat.zero_le _), Nat.zero_le _, I1.out, HR.out.symm⟩
 case round =>
  obtain ⟨i, v, ts, hi2, hl2, I, Hr⟩ := hrel
  clear I1
  have HP := Zb I.out.rd.posAt
  by_cases hi : i < s.size
  · go_wp2_with fail
    refine (Yo I.out.rd hi).mono ?_
    rintro e wx ⟨rfl, kx, rfl⟩
    have I := Zb (I.out.drewN kx)
    generalize wr.drewN kx = w1 at *
    obtain ⟨av, cv, ev⟩ := I.out.own.len
    obtain ⟨n, en⟩ : ∃ n, n = ts.length := ⟨_, rfl⟩
    rw [← en] at ev
    subst ev
    have EN := Zb en
    have hl2' : n <= 2000 := by omega
    clear en
    have c1 := Zf I.out.tv 0 _ rfl
    by_cases hl : n = 2000
    · have x5 := I.out.er.c5
      have y2 := I.out.rd.pos
      have hr2 : Hid (r = .bad 5 i) := Hr.out.trans (rdF_full hi (by rw [← EN.out]; exact hl))
      have hl3 : ((n : Int) == 2000) = true := by simp; omega
      go_wp2_with fail
      refine wp_quiet_tail 5 ZI (by kernel_rfl) ?_
      simp only [List.take_succ_cons, List.take_zero, List.drop_succ_cons, List.drop_zero]
      repeat (first | go_big_quiet_skip | (go_big_quiet_want; go_big_quiet_op; go_big_quiet_on))
      refine wpQuiet_nil ?_
      go_wp2_with fail
      refine (YF _ _ i _).mono ?_
      rintro e w2 ⟨rfl, rfl⟩
      refine door_stop rfl rfl (I.out.drewN 1).tv (I.out.drewN 1).bd (by omega) (fun w' hb => ?_)
      rw [hr2.out]
      exact ⟨rfl, (I.out.drewN 1).bel.trans (hb _ (Nat.le_refl _) (by omega))⟩
    · have hl3 : ((n : Int) == 2000) = false := by simp; omega
      cases hq : tokF s i with
      | bad k j =>
       have hr2 : Hid (r = .bad k j) := Hr.out.trans (rdF_bad hi (by rw [← EN.out]; exact hl) hq)
       go_wp2_with fail
       refine wp_region_any ZI ?_
       change wpAny _ _ _ _ _ _ _ (World.drew _)
       refine wpAny_ready (rs := [0, 1]) (by kernel_rfl) (by decide) ?_
       refine AllReady.cons rfl (fun K1 hK1 => ?_) (AllReady.cons rfl (fun K1 hK1 => ?_) AllReady.nil)
       · go_simp
         refine hK1 _ _ ?_
         clear hK1 K1
         refine R_ 1 (fun K1 hK1 => ?_)
         go_simp
         refine hK1 _ _ ?_
         clear hK1 K1
         refine R_ 2 (fun K1 hK1 => ?_)
         go_simp
         refine (token_any _ s i p _ (I.out.rd.drewN 1) (I.out.er.drewN 1) (by omega) hs hi).mono ?_
         intro e w2 hp
         rw [hq] at hp
         obtain ⟨rfl, t2⟩ := hp
         have I2 := Zb ((I.out.drewN 1).tnb t2)
         refine door_stop rfl rfl I2.out.1 I2.out.2.1 (by omega) (fun w' hb => ?_)
         rw [hr2.out]
         exact ⟨rfl, I2.out.2.2.trans (hb _ (Nat.le_refl _) (by omega))⟩
       · go_simp
         refine hK1 _ _ ?_
         clear hK1 K1
         refine wpAny_ready (rs := [0, 2]) (by kernel_rfl) (by decide) ?_
         refine AllReady.cons rfl (fun K1 hK1 => ?_) (AllReady.cons rfl (fun K1 hK1 => ?_) AllReady.nil)
         · go_simp
           refine hK1 _ _ ?_
           clear hK1 K1
           refine R_ 2 (fun K1 hK1 => ?_)
           go_simp
           refine (token_any _ s i p _ (I.out.rd.drewN 1) (I.out.er.drewN 1) (by omega) hs hi).mono ?_
           intro e w2 hp
           rw [hq] at hp
           obtain ⟨rfl, t2⟩ := hp
           have I2 := Zb ((I.out.drewN 1).tnb t2)
           refine door_stop rfl rfl I2.out.1 I2.out.2.1 (by omega) (fun w' hb => ?_)
           rw [hr2.out]
           exact ⟨rfl, I2.out.2.2.trans (hb _ (Nat.le_refl _) (by omega))⟩
         · go_simp
           refine (token_any _ s i p _ (I.out.rd.drewN 1) (I.out.er.drewN 1) (by omega) hs hi).mono ?_
           intro e w2 hp
           rw [hq] at hp
           obtain ⟨rfl, t2⟩ := hp
           have I2 := Zb ((I.out.drewN 1).tnb t2)
           refine door_stop rfl rfl I2.out.1 I2.out.2.1 (by omega) (fun w' hb => ?_)
           rw [hr2.out]
           exact ⟨rfl, I2.out.2.2.trans (hb _ (Nat.le_refl _) (by omega))⟩
      | ok t j =>
       have HE := Zb (tokF_ok hi hq)
       have Hr : Hid (r = rdF s (blF s j) (ts ++ [t])) := Hr.out.trans (rdF_step hi (by rw [← EN.out]; exact hl) hq)
       go_wp2_with fail
       refine wp_region_any ZI ?_
       change wpAny _ _ _ _ _ _ _ (World.drew _)
       refine wpAny_ready (rs := [0, 1]) (by kernel_rfl) (by decide) ?_
       refine AllReady.cons rfl (fun K1 hK1 => ?_) (AllReady.cons rfl (fun K1 hK1 => ?_) AllReady.nil)
       · go_simp
         refine hK1 _ _ ?_
         clear hK1 K1
         refine R_ 1 (fun K1 hK1 => ?_)
         go_simp
         refine hK1 _ _ ?_
         clear hK1 K1
         refine R_ 2 (fun K1 hK1 => ?_)
         go_simp
         refine (token_any _ s i p _ (I.out.rd.drewN 1) (I.out.er.drewN 1) (by omega) hs hi).mono ?_
         intro e w2 hp
         rw [hq] at hp
         obtain ⟨rfl, r2, t2⟩ := hp
         have I2 := Zb ((I.out.drewN 1).tn hG t2 r2)
         have c2 := Zf I2.out.tv 0 _ rfl
         unfold Tk.val
         refine hK1 _ _ ?_
         clear hK1 K1
         refine R_ 3 (fun K1 hK1 => ?_)
         go_simp
         have hb3 := Zd w2 (.cells #[.int .i64 t.kind, .string t.text, .int .i64 t.n, .int .u64 t.bits, .int .i64 t.pos] 80)
         have I3 := Zb (I2.out.below hb3)
         have k3 : (w2.alloc (.cells #[.int .i64 t.kind, .string t.text, .int .i64 t.n, .int .u64 t.bits, .int .i64 t.pos] 80)).heap[w2.heap.size]? = some (.cells #[.int .i64 t.kind, .string t.text, .int .i64 t.n, .int .u64 t.bits, .int .i64 t.pos] 80 (0, 0)) := B_ _ _
         have c3 := Zf I3.out.tv 0 _ rfl
         have H3 := Zb (fun ty => I3.out.push hG t _ 1 k3 hl2 ty)
         clear k3 hb3
         generalize w2.alloc _ = w3 at *
         generalize w2.heap.size = n3 at *
         refine hK1 _ _ ?_
         clear hK1 K1
         refine R_ 4 (fun K1 hK1 => ?_)
         refine step_appT (.tmp 24) (.tmp 27) _ _ _ H3.out rfl rfl rfl rfl ?_
         rintro v4 w4 ⟨c4, f4, I4⟩
         obtain ⟨a4, k4, e4⟩ := I4.own.len
         obtain ⟨m4, em4⟩ : ∃ m4, m4 = (ts ++ [t]).length := ⟨_, rfl⟩
         rw [← em4] at e4
         clear em4
         subst e4
         have I4 := Zb I4
         clear H3
         refine hK1 _ _ ?_
         clear hK1 K1
         refine R_ 5 (fun K1 hK1 => ?_)
         go_simp
         refine hK1 _ _ ?_
         clear hK1 K1
         refine wpAny_done (by kernel_rfl) ?_ _
         clear I I2 I3 c4 f4
         generalize w4.setCell ⟨w.heap.size, 0, none⟩ (.slice a4 m4 k4) = w5 at *
         go_wp2_with fail
         refine (blanks_any _ s j w5 I4.out.rd hs HE.out.2).mono ?_
         rintro e w6 ⟨rfl, r6, t6⟩
         go_wp2_with fail
         go_roundw
         case rel => exact ⟨blF s j, _, ts ++ [t], blF_le _ _ HE.out.2, by rw [List.length_append, List.length_singleton, ← EN.out]; omega, I4.out.tn hG t6 r6, Hr.out⟩
         case measure =>
          have h6 : posAt w6 (w.heap.size + 1 + 1) = blF s j := r6.posAt
          rw [h6, HP.out]
          have := blF_ge s j
          have := HE.out.1
          omega
       · go_simp
         refine hK1 _ _ ?_
         clear hK1 K1
         refine wpAny_ready (rs := [0, 2]) (by kernel_rfl) (by decide) ?_
         refine AllReady.cons rfl (fun K1 hK1 => ?_) (AllReady.cons rfl (fun K1 hK1 => ?_) AllReady.nil)
         · go_simp
           refine hK1 _ _ ?_
           clear hK1 K1
           refine R_ 2 (fun K1 hK1 => ?_)
           go_simp
           refine (token_any _ s i p _ (I.out.rd.drewN 1) (I.out.er.drewN 1) (by omega) hs hi).mono ?_
           intro e w2 hp
           rw [hq] at hp
           obtain ⟨rfl, r2, t2⟩ := hp
           have I2 := Zb ((I.out.drewN 1).tn hG t2 r2)
           have c2 := Zf I2.out.tv 0 _ rfl
           unfold Tk.val
           refine hK1 _ _ ?_
           clear hK1 K1
           refine R_ 3 (fun K1 hK1 => ?_)
           go_simp
           have hb3 := Zd w2 (.cells #[.int .i64 t.kind, .string t.text, .int .i64 t.n, .int .u64 t.bits, .int .i64 t.pos] 80)
           have I3 := Zb (I2.out.below hb3)
           have k3 : (w2.alloc (.cells #[.int .i64 t.kind, .string t.text, .int .i64 t.n, .int .u64 t.bits, .int .i64 t.pos] 80)).heap[w2.heap.size]? = some (.cells #[.int .i64 t.kind, .string t.text, .int .i64 t.n, .int .u64 t.bits, .int .i64 t.pos] 80 (0, 0)) := B_ _ _
           have c3 := Zf I3.out.tv 0 _ rfl
           have H3 := Zb (fun ty => I3.out.push hG t _ 1 k3 hl2 ty)
           clear k3 hb3
           generalize w2.alloc _ = w3 at *
           generalize w2.heap.size = n3 at *
           refine hK1 _ _ ?_
           clear hK1 K1
           refine R_ 4 (fun K1 hK1 => ?_)
           refine step_appT (.tmp 24) (.tmp 27) _ _ _ H3.out rfl rfl rfl rfl ?_
           rintro v4 w4 ⟨c4, f4, I4⟩
           obtain ⟨a4, k4, e4⟩ := I4.own.len
           obtain ⟨m4, em4⟩ : ∃ m4, m4 = (ts ++ [t]).length := ⟨_, rfl⟩
           rw [← em4] at e4
           clear em4
           subst e4
           have I4 := Zb I4
           clear H3
           refine hK1 _ _ ?_
           clear hK1 K1
           refine R_ 5 (fun K1 hK1 => ?_)
           go_simp
           refine hK1 _ _ ?_
           clear hK1 K1
           refine wpAny_done (by kernel_rfl) ?_ _
           clear I I2 I3 c4 f4
           generalize w4.setCell ⟨w.heap.size, 0, none⟩ (.slice a4 m4 k4) = w5 at *
           go_wp2_with fail
           refine (blanks_any _ s j w5 I4.out.rd hs HE.out.2).mono ?_
           rintro e w6 ⟨rfl, r6, t6⟩
           go_wp2_with fail
           go_roundw
           case rel => exact ⟨blF s j, _, ts ++ [t], blF_le _ _ HE.out.2, by rw [List.length_append, List.length_singleton, ← EN.out]; omega, I4.out.tn hG t6 r6, Hr.out⟩
           case measure =>
            have h6 : posAt w6 (w.heap.size + 1 + 1) = blF s j := r6.posAt
            rw [h6, HP.out]
            have := blF_ge s j
            have := HE.out.1
            omega
         · go_simp
           refine (token_any _ s i p _ (I.out.rd.drewN 1) (I.out.er.drewN 1) (by omega) hs hi).mono ?_
           intro e w2 hp
           rw [hq] at hp
           obtain ⟨rfl, r2, t2⟩ := hp
           have I2 := Zb ((I.out.drewN 1).tn hG t2 r2)
           have c2 := Zf I2.out.tv 0 _ rfl
           unfold Tk.val
           refine hK1 _ _ ?_
           clear hK1 K1
           refine wpAny_ready (rs := [0, 3]) (by kernel_rfl) (by decide) ?_
           refine AllReady.cons rfl (fun K1 hK1 => ?_) (AllReady.cons rfl (fun K1 hK1 => ?_) AllReady.nil)
           · go_simp
             refine hK1 _ _ ?_
             clear hK1 K1
             refine R_ 3 (fun K1 hK1 => ?_)
             go_simp
             have hb3 := Zd w2 (.cells #[.int .i64 t.kind, .string t.text, .int .i64 t.n, .int .u64 t.bits, .int .i64 t.pos] 80)
             have I3 := Zb (I2.out.below hb3)
             have k3 : (w2.alloc (.cells #[.int .i64 t.kind, .string t.text, .int .i64 t.n, .int .u64 t.bits, .int .i64 t.pos] 80)).heap[w2.heap.size]? = some (.cells #[.int .i64 t.kind, .string t.text, .int .i64 t.n, .int .u64 t.bits, .int .i64 t.pos] 80 (0, 0)) := B_ _ _
             have c3 := Zf I3.out.tv 0 _ rfl
             have H3 := Zb (fun ty => I3.out.push hG t _ 1 k3 hl2 ty)
             clear k3 hb3
             generalize w2.alloc _ = w3 at *
             generalize w2.heap.size = n3 at *
             refine hK1 _ _ ?_
             clear hK1 K1
             refine R_ 4 (fun K1 hK1 => ?_)
             refine step_appT (.tmp 24) (.tmp 27) _ _ _ H3.out rfl rfl rfl rfl ?_
             rintro v4 w4 ⟨c4, f4, I4⟩
             obtain ⟨a4, k4, e4⟩ := I4.own.len
             obtain ⟨m4, em4⟩ : ∃ m4, m4 = (ts ++ [t]).length := ⟨_, rfl⟩
             rw [← em4] at e4
             clear em4
             subst e4
             have I4 := Zb I4
             clear H3
             refine hK1 _ _ ?_
             clear hK1 K1
             refine R_ 5 (fun K1 hK1 => ?_)
             go_simp
             refine hK1 _ _ ?_
             clear hK1 K1
             refine wpAny_done (by kernel_rfl) ?_ _
             clear I I2 I3 c4 f4
             generalize w4.setCell ⟨w.heap.size, 0, none⟩ (.slice a4 m4 k4) = w5 at *
             go_wp2_with fail
             refine (blanks_any _ s j w5 I4.out.rd hs HE.out.2).mono ?_
             rintro e w6 ⟨rfl, r6, t6⟩
             go_wp2_with fail
             go_roundw
             case rel => exact ⟨blF s j, _, ts ++ [t], blF_le _ _ HE.out.2, by rw [List.length_append, List.length_singleton, ← EN.out]; omega, I4.out.tn hG t6 r6, Hr.out⟩
             case measure =>
              have h6 : posAt w6 (w.heap.size + 1 + 1) = blF s j := r6.posAt
              rw [h6, HP.out]
              have := blF_ge s j
              have := HE.out.1
              omega
           · go_simp
             have hb3 := Zd w2 (.cells #[.int .i64 t.kind, .string t.text, .int .i64 t.n, .int .u64 t.bits, .int .i64 t.pos] 80)
             have I3 := Zb (I2.out.below hb3)
             have k3 : (w2.alloc (.cells #[.int .i64 t.kind, .string t.text, .int .i64 t.n, .int .u64 t.bits, .int .i64 t.pos] 80)).heap[w2.heap.size]? = some (.cells #[.int .i64 t.kind, .string t.text, .int .i64 t.n, .int .u64 t.bits, .int .i64 t.pos] 80 (0, 0)) := B_ _ _
             have c3 := Zf I3.out.tv 0 _ rfl
             have H3 := Zb (fun ty => I3.out.push hG t _ 1 k3 hl2 ty)
             clear k3 hb3
             generalize w2.alloc _ = w3 at *
             generalize w2.heap.size = n3 at *
             refine hK1 _ _ ?_
             clear hK1 K1
             refine R_ 0 (fun K1 hK1 => ?_)
             go_simp
             refine hK1 _ _ ?_
             clear hK1 K1
             refine R_ 4 (fun K1 hK1 => ?_)
             refine step_appT (.tmp 24) (.tmp 27) _ _ _ H3.out rfl rfl rfl rfl ?_
             rintro v4 w4 ⟨c4, f4, I4⟩
             obtain ⟨a4, k4, e4⟩ := I4.own.len
             obtain ⟨m4, em4⟩ : ∃ m4, m4 = (ts ++ [t]).length := ⟨_, rfl⟩
             rw [← em4] at e4
             clear em4
             subst e4
             have I4 := Zb I4
             clear H3
             refine hK1 _ _ ?_
             clear hK1 K1
             refine R_ 5 (fun K1 hK1 => ?_)
             go_simp
             refine hK1 _ _ ?_
             clear hK1 K1
             refine wpAny_done (by kernel_rfl) ?_ _
             clear I I2 I3 c4 f4
             generalize w4.setCell ⟨w.heap.size, 0, none⟩ (.slice a4 m4 k4) = w5 at *
             go_wp2_with fail
             refine (blanks_any _ s j w5 I4.out.rd hs HE.out.2).mono ?_
             rintro e w6 ⟨rfl, r6, t6⟩
             go_wp2_with fail
             go_roundw
             case rel => exact ⟨blF s j, _, ts ++ [t], blF_le _ _ HE.out.2, by rw [List.length_append, List.length_singleton, ← EN.out]; omega, I4.out.tn hG t6 r6, Hr.out⟩
             case measure =>
              have h6 : posAt w6 (w.heap.size + 1 + 1) = blF s j := r6.posAt
              rw [h6, HP.out]
              have := blF_ge s j
              have := HE.out.1
              omega
  · have hr2 : Hid (r = .ok ts) := Hr.out.trans (rdF_end hi)
    go_wp2_with fail
    refine (more_no I.out.rd hi).mono ?_
    rintro e wx ⟨rfl, kx, rfl⟩
    have I := Zb (I.out.drewN kx)
    generalize wr.drewN kx = w1 at *
    obtain ⟨av, cv, ev⟩ := I.out.own.len
    obtain ⟨n, en⟩ : ∃ n, n = ts.length := ⟨_, rfl⟩
    rw [← en] at ev
    clear en
    subst ev
    have c1 := Zf I.out.tv 0 _ rfl
    have c2 := Zf I.out.bd 0 _ rfl
    have c3 := Zf I.out.bd 1 _ rfl
    have f1 := Zi I.out.tv 0
    have f2 := Zi I.out.bd 0
    have f3 := Zi I.out.bd 1
    obtain ⟨k1, t1⟩ := Zs I.out.tv 0 (.slice av n cv)
    obtain ⟨k2, t2⟩ := Zs ((t1.blk _ (Ze I.out.bd) (by omega)).trans I.out.bd) 0 .nilIface
    obtain ⟨k3, t3⟩ := Zs k2 1 (.int .i64 0)
    have K1 := Zb ((t3.blk _ (Nat.lt_of_lt_of_le (Ze k1) t2.size) (by omega)).trans ((t2.blk _ (Ze k1) (by omega)).trans k1))
    have K3 := Zb k3
    have O3 := Zb (((I.out.own.tn t1 (by omega)).tn t2 (by omega)).tn t3 (by omega))
    have B3 := Zb (((I.out.bel.trans (t1.bel (Nat.le_refl _) I.out.bel.size)).trans (t2.bel (by omega) (Nat.le_trans I.out.bel.size t1.size))).trans (t3.bel (by omega) (Nat.le_trans I.out.bel.size (Nat.le_trans t1.size t2.size))))
    clear k1 t1 k2 t2 k3 t3
    go_wp2_with fail
    refine door_end rfl rfl K1.out K3.out ?_
    rw [hr2.out]
    exact ⟨_, rfl, O3.out, B3.out⟩
theorem OwnT.base {w : World} {A B : Nat} {v : Value} {ts : List Tk} (h : OwnT w B v ts) (hA : A <= B) : OwnT w A v ts := by
 refine ⟨h.1, ?_⟩
 rcases h.2 with h0 | ⟨g, cap, cur, hv, hg, hk, hr⟩
 · exact .inl h0
 · exact .inr ⟨g, cap, cur, hv, Nat.le_trans hA hg, hk, hr⟩
def Tp (w : World) (p : List Addr) (e : Ending) (w' : World) : Ended -> Prop
 | .ok ts => ∃ v, e = .returned (.tuple #[v, .agg #[.nilIface, .int .i64 0]]) /\ OwnT w' w.heap.size v ts /\ Below w.heap.size w w'
 | .bad k i => e = .returned (.tuple #[.slice none 0 0, .agg #[errV p k, .int .i64 i]]) /\ Below w.heap.size w w'
theorem results_toks {tmps : Array Value} {b : Nat} {w : World} {v z0 z1 : Value} (h2 : tmps.getD 2 undef = v) (h3 : tmps.getD 3 undef = .pointer (some ⟨b, 0, none⟩))
 (hB : w.heap[b]? = some (.cells #[z0, z1] 37 (0, 0))) :
 (results Tryz.f42 tmps).run Tryz.prog w = .ok (.tuple #[v, .agg #[z0, z1]]) w := by
 have h2' : tmps[2]?.getD undef = v := by simpa using h2
 have h3' : tmps[3]?.getD undef = .pointer (some ⟨b, 0, none⟩) := by simpa using h3
 have c1 := Zf hB 0 _ rfl
 have c2 := Zf hB 1 _ rfl
 simp [results, Tryz.results42, h2', h3', go_sem, c1, c2]
theorem tokens_any (s : ByteArray) (p : List Addr) (w : World) (he : Er w p) (hG : 23 <= w.heap.size) (hs : s.size <= 8192) :
 Calls Tryz.prog 42 #[.string s] w fun e w' => Tp w p e w' (readF s) := by
 have hb0 := Zd w (.cells #[.nilIface, .int .i64 0] 37)
 have k0 : (w.alloc (.cells #[.nilIface, .int .i64 0] 37)).heap[w.heap.size]? = some (.cells #[.nilIface, .int .i64 0] 37 (0, 0)) := B_ _ _
 have E0 := Zb (he.bel hb0)
 have K0 := Zb k0
 have B0 := Zb hb0
 clear hb0 k0 he
 go_enter Tryz.func42, Tryz.ntmps42
 go_wp2_with fail
 generalize w.alloc _ = w0 at *
 refine (read_any s p w0 E0.out (Nat.le_trans hG B0.out.size) (by omega)).mono ?_
 intro e w1 hp
 cases hq : readF s with
 | ok ts =>
  rw [hq] at hp
  obtain ⟨v, rfl, ho, hb⟩ := hp
  have k1 := (hb.block _ (Ze K0.out)).trans K0.out
  have c1 := Zf k1 0 _ rfl
  have c2 := Zf k1 1 _ rfl
  have f1 := Zi k1 0
  have f2 := Zi k1 1
  obtain ⟨av, cv, ev⟩ := ho.len
  obtain ⟨n, en⟩ : ∃ n, n = ts.length := ⟨_, rfl⟩
  rw [← en] at ev
  subst ev
  obtain ⟨k2, t2⟩ := Zs k1 0 .nilIface
  obtain ⟨k3, t3⟩ := Zs k2 1 (.int .i64 0)
  have K3 := Zb k3
  have hz := B0.out.size
  have hz2 : w.heap.size < w0.heap.size := Ze K0.out
  have O3 := Zb (((ho.tn t2 (by omega)).tn t3 (by omega)).base (show w.heap.size <= _ by omega))
  have B1 := Zc B0.out hb
  have B3 := Zb ((B1.trans (t2.bel (Nat.le_refl _) B1.size)).trans (t3.bel (Nat.le_refl _) (Nat.le_trans B1.size t2.size)))
  have HQ := Zb hq
  clear k1 k2 k3 t2 t3 hb ho en B1 hq E0 K0 B0
  go_wp2_with fail
  refine bodyPost_ret (results_toks rfl rfl K3.out) rfl ?_
  rw [HQ.out]
  exact ⟨_, rfl, O3.out, B3.out⟩
 | bad k i =>
  rw [hq] at hp
  obtain ⟨rfl, hb⟩ := hp
  have k1 := (hb.block _ (Ze K0.out)).trans K0.out
  have c1 := Zf k1 0 _ rfl
  have c2 := Zf k1 1 _ rfl
  have f1 := Zi k1 0
  have f2 := Zi k1 1
  obtain ⟨k2, t2⟩ := Zs k1 0 (errV p k)
  obtain ⟨k3, t3⟩ := Zs k2 1 (.int .i64 i)
  have K3 := Zb k3
  have B1 := Zc B0.out hb
  have B3 := Zb ((B1.trans (t2.bel (Nat.le_refl _) B1.size)).trans (t3.bel (Nat.le_refl _) (Nat.le_trans B1.size t2.size)))
  have HQ := Zb hq
  clear k1 k2 k3 t2 t3 hb B1 hq E0 K0 B0
  go_wp2_with fail
  refine bodyPost_ret (results_toks rfl rfl K3.out) rfl ?_
  rw [HQ.out]
  exact ⟨rfl, B3.out⟩
def longK (s : ByteArray) : Nat := match readF (s.extract 0 8192) with | .bad k 0 => k | _ => 5
theorem ret_bad {fn : Func} {R : Ending -> World -> Prop} {a : Act} {w : World} {p : Tmp} (g : Nat) {v0 v1 : Value} (hf : fn.results = #[.cell p 37]) (hp : a.tmps.getD p undef = .pointer (some ⟨g, 0, none⟩))
    (h : w.heap[g]? = some (.cells #[v0, v1] 37 (0, 0))) (hdf : a.defers = []) (hR : R (.returned (.agg #[v0, v1])) w) : bodyPost Tryz.prog fn R .ret a w :=
  bodyPost_ret (by
    have hp' : a.tmps[p]?.getD undef = .pointer (some ⟨g, 0, none⟩) := by simpa using hp
    have cz0 := Zf h 0 _ rfl
    have cz1 := Zf h 1 _ rfl
    simp [results, hf, hp', go_sem, cz0, cz1]) hdf hR
theorem tooLong_any (s : ByteArray) (p : List Addr) (w : World) (he : Er w p) (hG : 23 <= w.heap.size) (hs : 8192 < s.size) :
 Calls Tryz.prog 73 #[.string s] w fun e w' => e = .returned (.agg #[errV p (longK s), .int .i64 0]) /\ Below w.heap.size w w' := by
 have hb0 := Zd w (.cells #[.nilIface, .int .i64 0] 37)
 have k0 : (w.alloc (.cells #[.nilIface, .int .i64 0] 37)).heap[w.heap.size]? = some (.cells #[.nilIface, .int .i64 0] 37 (0, 0)) := B_ _ _
 have E0 := Zb (he.bel hb0)
 have K0 := Zb k0
 have B0 := Zb hb0
 have hsz : (s.extract 0 8192).size = 8192 := by rw [ByteArray.size_extract]; omega
 clear hb0 k0 he
 have hs2 : (8192 : Int) <= (s.size : Int) := by omega
 go_enter Tryz.func73, Tryz.ntmps73
 go_wp2_with fail
 generalize w.alloc _ = w0 at *
 refine (read_any (s.extract 0 8192) p w0 E0.out (Nat.le_trans hG B0.out.size) (by omega)).mono ?_
 intro e w1 hp
 cases hq : readF (s.extract 0 8192) with
 | ok ts =>
  rw [hq] at hp
  obtain ⟨v, rfl, ho, hb⟩ := hp
  clear ho
  have hb2 := Zd w1 (.cells #[.nilIface, .int .i64 0] 37)
  have B1 := Zc B0.out hb
  have B2 := Zc B1 hb2
  have k2 := (hb2.block _ (Ze ((hb.block _ (Ze K0.out)).trans K0.out))).trans ((hb.block _ (Ze K0.out)).trans K0.out)
  have x5 := ((E0.out.bel hb).bel hb2).c5
  have c1 := Zf k2 0 _ rfl
  have c2 := Zf k2 1 _ rfl
  have f1 := Zi k2 0
  have f2 := Zi k2 1
  obtain ⟨k3, t3⟩ := Zs k2 0 (errV p 5)
  obtain ⟨k4, t4⟩ := Zs k3 1 (.int .i64 0)
  have K4 := Zb k4
  have B4 := Zb ((B2.trans (t3.bel (Nat.le_refl _) B2.size)).trans (t4.bel (Nat.le_refl _) (Nat.le_trans B2.size t3.size)))
  have HL : Hid (longK s = 5) := by show _ = _; unfold longK; rw [hq]
  clear k2 k3 k4 t3 t4 hb hb2 B1 B2 hq E0 K0 B0
  go_wp2_with fail
  refine ret_bad w.heap.size rfl rfl K4.out rfl ?_
  rw [HL.out]
  exact ⟨rfl, B4.out⟩
 | bad k i =>
  rw [hq] at hp
  obtain ⟨rfl, hb⟩ := hp
  cases i with
  | zero =>
   have hb2 := Zd w1 (.cells #[errV p k, .int .i64 0] 37)
   have B1 := Zc B0.out hb
   have B2 := Zc B1 hb2
   have k2 := (hb2.block _ (Ze ((hb.block _ (Ze K0.out)).trans K0.out))).trans ((hb.block _ (Ze K0.out)).trans K0.out)
   have c1 := Zf k2 0 _ rfl
   have c2 := Zf k2 1 _ rfl
   have f1 := Zi k2 0
   have f2 := Zi k2 1
   obtain ⟨k3, t3⟩ := Zs k2 0 (errV p k)
   obtain ⟨k4, t4⟩ := Zs k3 1 (.int .i64 0)
   have K4 := Zb k4
   have B4 := Zb ((B2.trans (t3.bel (Nat.le_refl _) B2.size)).trans (t4.bel (Nat.le_refl _) (Nat.le_trans B2.size t3.size)))
   have HL : Hid (longK s = k) := by show _ = _; unfold longK; rw [hq]; rfl
   clear k2 k3 k4 t3 t4 hb hb2 B1 B2 hq E0 K0 B0
   go_wp2_with fail
   refine ret_bad w.heap.size rfl rfl K4.out rfl ?_
   rw [HL.out]
   exact ⟨rfl, B4.out⟩
  | succ i =>
   have hb2 := Zd w1 (.cells #[errV p k, .int .i64 ((i + 1 : Nat) : Int)] 37)
   have B1 := Zc B0.out hb
   have B2 := Zc B1 hb2
   have k2 := (hb2.block _ (Ze ((hb.block _ (Ze K0.out)).trans K0.out))).trans ((hb.block _ (Ze K0.out)).trans K0.out)
   have x5 := ((E0.out.bel hb).bel hb2).c5
   have c1 := Zf k2 0 _ rfl
   have c2 := Zf k2 1 _ rfl
   have f1 := Zi k2 0
   have f2 := Zi k2 1
   obtain ⟨k3, t3⟩ := Zs k2 0 (errV p 5)
   obtain ⟨k4, t4⟩ := Zs k3 1 (.int .i64 0)
   have K4 := Zb k4
   have B4 := Zb ((B2.trans (t3.bel (Nat.le_refl _) B2.size)).trans (t4.bel (Nat.le_refl _) (Nat.le_trans B2.size t3.size)))
   have HL : Hid (longK s = 5) := by show _ = _; unfold longK; rw [hq]; rfl
   clear k2 k3 k4 t3 t4 hb hb2 B1 B2 hq E0 K0 B0
   have hne : ((((i + 1 : Nat) : Int)) == 0) = false := by simp; omega
   generalize ((i + 1 : Nat) : Int) = z at *
   go_wp2_with fail
   refine ret_bad w.heap.size rfl rfl K4.out rfl ?_
   rw [HL.out]
   exact ⟨rfl, B4.out⟩
theorem tokens_long (s : ByteArray) (p : List Addr) (w : World) (he : Er w p) (hG : 23 <= w.heap.size) (hs : 8192 < s.size) :
 Calls Tryz.prog 42 #[.string s] w fun e w' => Tp w p e w' (.bad (longK s) 0) := by
 have hb0 := Zd w (.cells #[.nilIface, .int .i64 0] 37)
 have k0 : (w.alloc (.cells #[.nilIface, .int .i64 0] 37)).heap[w.heap.size]? = some (.cells #[.nilIface, .int .i64 0] 37 (0, 0)) := B_ _ _
 have E0 := Zb (he.bel hb0)
 have K0 := Zb k0
 have B0 := Zb hb0
 clear hb0 k0 he
 have hs2 : (8192 : Int) < (s.size : Int) := by omega
 have HT := Zb (fun w he hG => tooLong_any s p w he hG hs)
 generalize longK s = k at *
 go_enter Tryz.func42, Tryz.ntmps42
 go_wp2_with fail
 generalize w.alloc _ = w0 at *
 refine (HT.out w0 E0.out (Nat.le_trans hG B0.out.size)).mono ?_
 rintro e w1 ⟨rfl, hb⟩
 clear HT
 have k1 := (hb.block _ (Ze K0.out)).trans K0.out
 have c1 := Zf k1 0 _ rfl
 have c2 := Zf k1 1 _ rfl
 have f1 := Zi k1 0
 have f2 := Zi k1 1
 obtain ⟨k2, t2⟩ := Zs k1 0 (errV p k)
 obtain ⟨k3, t3⟩ := Zs k2 1 (.int .i64 0)
 have K3 := Zb k3
 have B1 := Zc B0.out hb
 have B3 := Zb ((B1.trans (t2.bel (Nat.le_refl _) B1.size)).trans (t3.bel (Nat.le_refl _) (Nat.le_trans B1.size t2.size)))
 clear k1 k2 k3 t2 t3 hb B1 E0 K0 B0
 go_wp2_with fail
 refine bodyPost_ret (results_toks rfl rfl K3.out) rfl ?_
 exact ⟨rfl, B3.out⟩
structure Errs5 (w : World) (p : List Addr) : Prop where
 c0 : w.cell? ⟨1, 0, none⟩ = some (errV p 0)
 c1 : w.cell? ⟨2, 0, none⟩ = some (errV p 1)
 c2 : w.cell? ⟨3, 0, none⟩ = some (errV p 2)
 c5 : w.cell? ⟨6, 0, none⟩ = some (errV p 5)
 c8 : w.cell? ⟨0, 0, none⟩ = some (errV p 8)
theorem Errs5.below {w w' : World} {p : List Addr} (h : Errs5 w p) (hb : Below w.heap.size w w') : Errs5 w' p := by
 have hc : ∀ {k : Nat} {u : Value}, w.cell? ⟨k, 0, none⟩ = some u -> w'.cell? ⟨k, 0, none⟩ = some u := fun {k} {u} hu => (hb.cell (p := ⟨k, 0, none⟩) (World.block_lt_of_cell? w ⟨k, 0, none⟩ hu)).trans hu
 exact ⟨hc h.c0, hc h.c1, hc h.c2, hc h.c5, hc h.c8⟩
structure Ev (w : World) (p : List Addr) : Prop where
 errs : Errs5 w p
 cs : ∃ te pe, w.cell? ⟨20, 0, none⟩ = some (.iface te pe)
 big : 23 <= w.heap.size
theorem Ev.er {w : World} {p : List Addr} (h : Ev w p) : Er w p := ⟨h.errs.c0, h.errs.c1, h.errs.c5, h.cs⟩
theorem Ev.bel {w w' : World} {p : List Addr} (h : Ev w p) (hb : Below w.heap.size w w') : Ev w' p := by
 obtain ⟨te, pe, hs⟩ := h.cs
 exact ⟨h.errs.below hb, ⟨te, pe, (hb.cell (p := ⟨20, 0, none⟩) (World.block_lt_of_cell? w _ hs)).trans hs⟩, Nat.le_trans h.big hb.size⟩
theorem OwnT.at {w : World} {B : Nat} {v : Value} {ts : List Tk} (h : OwnT w B v ts) (hne : ts ≠ []) :
 ∃ g cap, v = .slice (some ⟨g, 0, none⟩) ts.length cap /\ g < w.heap.size /\ B <= g /\ ts.length <= cap /\ cap <= maxLen /\ ∀ j u, (toks ts)[j]? = some u -> w.cell? ⟨g, j, none⟩ = some u := by
 rcases h.2 with ⟨_, h0⟩ | ⟨g, cap, cur, rfl, hB, hg, h1, h2, h3, h4⟩
 · exact absurd (List.length_eq_zero_iff.1 h0) hne
 · refine ⟨g, cap, rfl, Ze hg, hB, h1, h2, fun j u hu => Zf hg j u ?_⟩
   rw [← h4] at hu
   have hj : j < ts.length * 5 := by
    have := (List.getElem?_eq_some_iff.1 hu).1
    rw [List.length_take] at this
    omega
   rw [List.getElem?_take_of_lt hj] at hu
   rw [← Array.getElem?_toList]
   exact hu
def dig (k : Nat) : UInt8 := UInt8.ofNat (48 + k)
def decT (n : Nat) (acc : List UInt8) : List UInt8 := if 9 < n then decT (n / 10) (dig (n % 10) :: acc) else dig n :: acc
termination_by n
decreasing_by omega
theorem dec_big (n : Nat) (acc : List UInt8) (h : 9 < n) : decT n acc = decT (n / 10) (dig (n % 10) :: acc) := by rw [decT, if_pos h]
theorem dec_small (n : Nat) (acc : List UInt8) (h : ¬ 9 < n) : decT n acc = dig n :: acc := by rw [decT, if_neg h]
theorem cut_all (s : ByteArray) : (cut s 0 s.size).data.toList = s.data.toList := by unfold cut; rw [cut_end]; rfl
def noTk : Tk := ⟨0, ⟨#[]⟩, 0, 0, 0⟩
structure TkAt (w : World) (g o : Nat) (t : Tk) (x : Int) : Prop where
 c0 : w.cell? ⟨g, o, none⟩ = some (.int .i64 t.kind)
 c1 : w.cell? ⟨g, o + 1, none⟩ = some (.string t.text)
 c2 : w.cell? ⟨g, o + 2, none⟩ = some (.int .i64 t.n)
 c3 : w.cell? ⟨g, o + 3, none⟩ = some (.int .u64 t.bits)
 c4 : w.cell? ⟨g, o + 4, none⟩ = some (.int .i64 x)
theorem toks_get : ∀ (ts : List Tk) (j f : Nat), j < ts.length -> f < 5 -> (toks ts)[j * 5 + f]? = (Tk.cells (ts.getD j noTk))[f]?
 | [], _, _, h, _ => absurd h (Nat.not_lt_zero _)
 | t :: ts, 0, f, _, hf => by
  have e : toks (t :: ts) = Tk.cells t ++ toks ts := by unfold toks; rw [List.flatMap_cons]
  rw [e, List.getElem?_append_left (by simp [Tk.cells]; omega)]
  simp
 | t :: ts, j + 1, f, h, hf => by
  have e : toks (t :: ts) = Tk.cells t ++ toks ts := by unfold toks; rw [List.flatMap_cons]
  have hl : (Tk.cells t).length = 5 := rfl
  rw [e, List.getElem?_append_right (by rw [hl]; omega), hl, show (j + 1) * 5 + f - 5 = j * 5 + f by omega, toks_get ts j f (by simpa using h) hf]
  simp
structure Rowt (w : World) (g : Nat) (ts : List Tk) : Prop where
 blk : ∃ cur, w.heap[g]? = some (.cells cur 80 (0, 0)) /\ ts.length * 5 <= cur.size
 tok : ∀ j, j < ts.length -> TkAt w g (j * 5) (ts.getD j noTk) (ts.getD j noTk).pos
theorem OwnT.row {w : World} {B : Nat} {v : Value} {ts : List Tk} (h : OwnT w B v ts) (hne : ts ≠ []) : ∃ g cap, v = .slice (some ⟨g, 0, none⟩) ts.length cap /\ B <= g /\ g < w.heap.size /\ ts.length <= cap /\ cap <= maxLen /\ Rowt w g ts := by
 rcases h.2 with ⟨_, h0⟩ | ⟨g, cap, cur, rfl, hB, hg, h1, h2, h3, h4⟩
 · exact absurd (List.length_eq_zero_iff.1 h0) hne
 · have hc : ∀ j u, (toks ts)[j]? = some u -> w.cell? ⟨g, j, none⟩ = some u := fun j u hu => by
    refine Zf hg j u ?_
    rw [← h4] at hu
    have hj : j < ts.length * 5 := by
     have := (List.getElem?_eq_some_iff.1 hu).1
     rw [List.length_take] at this
     omega
    rw [List.getElem?_take_of_lt hj] at hu
    rw [← Array.getElem?_toList]
    exact hu
   refine ⟨g, cap, rfl, hB, Ze hg, h1, h2, ⟨cur, hg, by rw [h3]; exact Nat.mul_le_mul_right 5 h1⟩, fun j hj => ?_⟩
   exact ⟨hc _ _ (toks_get ts j 0 hj (by omega)), hc _ _ (toks_get ts j 1 hj (by omega)), hc _ _ (toks_get ts j 2 hj (by omega)), hc _ _ (toks_get ts j 3 hj (by omega)), hc _ _ (toks_get ts j 4 hj (by omega))⟩
theorem TkAt.bel {w w' : World} {g o : Nat} {t : Tk} {x : Int} (h : TkAt w g o t x) (hb : Below w.heap.size w w') : TkAt w' g o t x := by
 have hg : g < w.heap.size := World.block_lt_of_cell? w _ h.c0
 exact ⟨(hb.cell (p := ⟨g, o, none⟩) hg).trans h.c0, (hb.cell (p := ⟨g, o + 1, none⟩) hg).trans h.c1, (hb.cell (p := ⟨g, o + 2, none⟩) hg).trans h.c2, (hb.cell (p := ⟨g, o + 3, none⟩) hg).trans h.c3, (hb.cell (p := ⟨g, o + 4, none⟩) hg).trans h.c4⟩
theorem TkAt.tn {w w' : World} {g o n : Nat} {t : Tk} {x : Int} (h : TkAt w g o t x) (ht : Tn n w w') (hn : g ≠ n) : TkAt w' g o t x :=
 ⟨ht.cell hn h.c0, ht.cell hn h.c1, ht.cell hn h.c2, ht.cell hn h.c3, ht.cell hn h.c4⟩
theorem Rowt.bel {w w' : World} {g : Nat} {ts : List Tk} (h : Rowt w g ts) (hb : Below w.heap.size w w') : Rowt w' g ts := by
 obtain ⟨cur, hc, hz⟩ := h.blk
 exact ⟨⟨cur, (hb.block g (Ze hc)).trans hc, hz⟩, fun j hj => (h.tok j hj).bel hb⟩
theorem Rowt.tn {w w' : World} {g n : Nat} {ts : List Tk} (h : Rowt w g ts) (ht : Tn n w w') (hn : g ≠ n) : Rowt w' g ts := by
 obtain ⟨cur, hc, hz⟩ := h.blk
 exact ⟨⟨cur, (ht.blk g (Ze hc) hn).trans hc, hz⟩, fun j hj => (h.tok j hj).tn ht hn⟩
end Go.Proofs.YtfnplhfjfolojaaGreatDoor.Ck
