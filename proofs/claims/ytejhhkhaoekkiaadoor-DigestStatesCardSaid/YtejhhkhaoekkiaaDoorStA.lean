/- The second loop of the statement DigestStates: all states are told. -/
import Derived.Test.YtejhhkhaoekkiaaDoorSts
import Derived.Test.YtejhhkhaoekkiaaDoorROfE
import Derived.Test.YtejhhkhaoekkiaaDoorLaidT
import Derived.Test.YtejhhkhaoekkiaaDoorLen
namespace Go.Proofs.YtejhhkhaoekkiaaDoor.Ck
open Go.RowKit

/-- the loop number k of the statement DigestStates -/
def SLoopWp (k : Nat) (Q : Exit → Act → World → Prop) (a : Act) (w : World) : Prop := Code.wp Tryd.prog (((Tryd.f3.body.map loopsOf).getD []).getD k .skip) Q a w

theorem sb_of32' {w : World} {g : Nat} {S : List Int} (h : Blk w g 37 (bv S)) (hl : S.length = 32) (hf : Fit8 S) : SB w (.slice (some ⟨g, 0, none⟩) 32 32) S := by
  have := SB.of_blk h (by rw [hl]; unfold maxLen; omega) hf
  rw [hl] at this
  exact this

set_option maxRecDepth 1000000 in
set_option maxHeartbeats 4000000 in
theorem told_loop {c0 c1 c2 c4 c6 c7 c8 c9 c10 c11 c12 c13 c14 c15 c16 c17 c18 c19 c20 c21 c22 c23 c24 c25 c26 c27 c28 c29 c30 c31 c32 c33 c34 c35 c36 c37 c38 c39 c40 c41 c42 c43 c44 c45 c46 c47 c48 c49 c50 c51 c52 c53 c54 c55 c56 c57 c58 c59 c60 c61 c62 c63 c64 c65 c66 c67 c68 c69 c70 c71 c72 c73 c74 c75 c76 c77 c78 c79 c80 c81 c82 c83 c84 c85 c86 c87 c88 c89 c90 c91 c92 c93 c94 c95 c96 c97 c98 c99 c100 c101 c102 c103 c104 c105 c106 c107 c108 c109 c110 c111 c112 c113 c114 c115 c116 c117 c118 c119 c120 c121 c122 c123 c124 c125 c126 c127 c128 c129 c130 c131 c132 c133 c134 c135 c139 c140 c141 c142 c143 c144 c145 c146 c147 c148 c149 c150 c151 c152 c153 c154 c155 c156 c157 c158 c159 c160 c161 c162 c163 c164 c165 : Value} (w0 : World) (B gl cl gt ct q gh gS cS gT cT : Nat) (G : Nat → Nat) (V : Nat → Value) (M : Nat → List Int) (w8 : World) (Q0 : Exit → Act → World → Prop) (h : Hid (Sts w0 w8 B gl cl gt ct q G V M M)) (hh : Ha w8 gh gS cS gT cT) (htab : Tab w8) (hq : q ≤ 100) (hM : Hid (∀ i, i < q → (M i).length ≤ 9000))
    (hexit : ∀ (u2 u13 u14 u15 u138 u139 u140 u141 u142 u143 u144 u145 u146 u147 u148 u149 u150 u151 u152 u153 u154 u155 u156 u157 u158 u159 u160 u161 u162 u163 u164 u165 : Value) (wr : World), Below w8.heap.size w8 wr → Q0 (.exit 3) ⟨(c0 :: c1 :: u2 :: .pointer (some ⟨gh, 0, none⟩) :: c4 :: .slice (some ⟨gt, 0, none⟩) q ct :: c6 :: c7 :: c8 :: c9 :: c10 :: c11 :: c12 :: u13 :: u14 :: u15 :: c16 :: c17 :: c18 :: c19 :: c20 :: c21 :: c22 :: c23 :: c24 :: c25 :: c26 :: c27 :: c28 :: c29 :: c30 :: c31 :: c32 :: c33 :: c34 :: c35 :: c36 :: c37 :: c38 :: c39 :: c40 :: c41 :: c42 :: c43 :: c44 :: c45 :: c46 :: c47 :: c48 :: c49 :: c50 :: c51 :: c52 :: c53 :: c54 :: c55 :: c56 :: c57 :: c58 :: c59 :: c60 :: c61 :: c62 :: c63 :: c64 :: c65 :: c66 :: c67 :: c68 :: c69 :: c70 :: c71 :: c72 :: c73 :: c74 :: c75 :: c76 :: c77 :: c78 :: c79 :: c80 :: c81 :: c82 :: c83 :: c84 :: c85 :: c86 :: c87 :: c88 :: c89 :: c90 :: c91 :: c92 :: c93 :: c94 :: c95 :: c96 :: c97 :: c98 :: c99 :: c100 :: c101 :: c102 :: c103 :: c104 :: c105 :: c106 :: c107 :: c108 :: c109 :: c110 :: c111 :: c112 :: c113 :: c114 :: c115 :: c116 :: c117 :: c118 :: c119 :: c120 :: c121 :: c122 :: c123 :: c124 :: c125 :: c126 :: c127 :: c128 :: c129 :: c130 :: c131 :: c132 :: c133 :: c134 :: c135 :: .slice (some ⟨gl, 0, none⟩) q cl :: .int .i64 q :: u138 :: u139 :: u140 :: u141 :: u142 :: u143 :: u144 :: u145 :: u146 :: u147 :: u148 :: u149 :: u150 :: u151 :: u152 :: u153 :: u154 :: u155 :: u156 :: u157 :: u158 :: u159 :: u160 :: u161 :: u162 :: u163 :: u164 :: u165 :: []).toArray, []⟩ wr) :
    SLoopWp 1 Q0 ⟨(c0 :: c1 :: c2 :: .pointer (some ⟨gh, 0, none⟩) :: c4 :: .slice (some ⟨gt, 0, none⟩) q ct :: c6 :: c7 :: c8 :: c9 :: c10 :: c11 :: c12 :: c13 :: c14 :: c15 :: c16 :: c17 :: c18 :: c19 :: c20 :: c21 :: c22 :: c23 :: c24 :: c25 :: c26 :: c27 :: c28 :: c29 :: c30 :: c31 :: c32 :: c33 :: c34 :: c35 :: c36 :: c37 :: c38 :: c39 :: c40 :: c41 :: c42 :: c43 :: c44 :: c45 :: c46 :: c47 :: c48 :: c49 :: c50 :: c51 :: c52 :: c53 :: c54 :: c55 :: c56 :: c57 :: c58 :: c59 :: c60 :: c61 :: c62 :: c63 :: c64 :: c65 :: c66 :: c67 :: c68 :: c69 :: c70 :: c71 :: c72 :: c73 :: c74 :: c75 :: c76 :: c77 :: c78 :: c79 :: c80 :: c81 :: c82 :: c83 :: c84 :: c85 :: c86 :: c87 :: c88 :: c89 :: c90 :: c91 :: c92 :: c93 :: c94 :: c95 :: c96 :: c97 :: c98 :: c99 :: c100 :: c101 :: c102 :: c103 :: c104 :: c105 :: c106 :: c107 :: c108 :: c109 :: c110 :: c111 :: c112 :: c113 :: c114 :: c115 :: c116 :: c117 :: c118 :: c119 :: c120 :: c121 :: c122 :: c123 :: c124 :: c125 :: c126 :: c127 :: c128 :: c129 :: c130 :: c131 :: c132 :: c133 :: c134 :: c135 :: .slice (some ⟨gl, 0, none⟩) q cl :: .int .i64 q :: .int .i64 0 :: c139 :: c140 :: c141 :: c142 :: c143 :: c144 :: c145 :: c146 :: c147 :: c148 :: c149 :: c150 :: c151 :: c152 :: c153 :: c154 :: c155 :: c156 :: c157 :: c158 :: c159 :: c160 :: c161 :: c162 :: c163 :: c164 :: c165 :: []).toArray, []⟩ w8 := by
  unfold SLoopWp
  conv => arg 2; whnf
  go_loopw [138] (fun x wr => ∃ i : Nat, i ≤ q ∧ x = .int .i64 i ∧ Below w8.heap.size w8 wr) (fun x _ => q - (intOf x).toNat)
  case atStart => exact ⟨0, Nat.zero_le _, rfl, Below.refl _ _⟩
  case round =>
    obtain ⟨i, hi, rfl, hb⟩ := hrel
    by_cases hiq : i < q
    · have d0 : decide ((i : Int) < (q : Int)) = true := decide_eq_true (by omega)
      have ii : (0 : Int) ≤ (i : Int) ∧ (i : Int) < (q : Int) := by omega
      have S0 := hide (h.out.grow hb)
      have q0 := S0.out.l.cell i _ (ptrs_at G q i hiq)
      have st := hide ((S0.out.st i hiq).1)
      have hMi := hide (hM.out i hiq)
      have sV := hide (S0.out.sb i hiq)
      have qt := S0.out.t.cell i _ (vals_at V q i hiq)
      have hht := hh.bel hb
      have htb := htab.bel hb
      have hgt := S0.out.t.lt
      generalize M i = m at st hMi sV
      generalize V i = v at sV qt
      generalize G i = g at st q0
      obtain ⟨av, cv, ev, hcv, hcm⟩ := sV.out.form
      unfold maxLen at hcm
      obtain ⟨l, el⟩ : ∃ l, l = m.length := ⟨_, rfl⟩
      have EL := hide el
      rw [← el] at ev hcv
      subst ev
      clear el hexit S0 h
      go_wp2_with fail
      refine (sum_any g m wr st.out (by have := hMi.out; omega) htb).mono ?_
      rintro e w2 ⟨rfl, hb2⟩
      have st2 := hide (st.out.bel hb2)
      have sV2 := hide (sV.out.bel hb2)
      have qt2 := (hb2.cell (p := ⟨gt, i, none⟩) hgt).trans qt
      have hhl : Hid ((sha m).length = 32) := sha_len m
      have hhf : Hid (Fit8 (sha m)) := sha_fit m
      have hsz : Hid ((Tryd.prog.info? 37).map (·.size) = some (bv (sha m)).length) := by show _ = _; rw [bv_len, sha_len]; exact info37
      have hl0 : Hid ((List.replicate 32 (Value.int .u8 0)).length = (bv (sha m)).length) := by show _ = _; rw [bv_len, sha_len]; rfl
      have hh2 := hht.bel hb2
      have hgt2 : gt < w2.heap.size := Nat.lt_of_lt_of_le hgt hb2.size
      have hz2 := hb2.size
      clear st sV qt q0 hht htb
      go_wp2_with (first | (refine wpList_new 37 _ zero37 15 rfl rfl rfl ?_; intro w3 g3 e3 b3 hb3 s3) | (refine wpList_lay 37 (.tmp 15) (.tmp 144) g3 37 _ (bv (sha m)) b3 hl0.out hsz.out (bv_one _) rfl rfl rfl rfl ?_; intro w4 b4 t4 s4))
      have hb24 : Below w2.heap.size w2 w4 := bel_tn hb3 t4 (by rw [e3.out]; exact Nat.le_refl _)
      have st4 := hide (st2.out.bel hb24)
      have sV4 := hide (sV2.out.bel hb24)
      have qt4 := (hb24.cell (p := ⟨gt, i, none⟩) hgt2).trans qt2
      have hh4 := hh2.bel hb24
      have hb4w : Below w8.heap.size w8 w4 := bel_trans (bel_trans hb hb2) hb24
      have hgt4 : gt < w4.heap.size := Nat.lt_of_lt_of_le hgt2 hb24.size
      have HS : Hid (∀ w', Below w4.heap.size w4 w' → w'.cell? ⟨gt, i, none⟩ = some (.slice av l cv) ∧ (convert 29 9 (.slice (some ⟨g3, 0, none⟩) 32 32)).run Tryd.prog w' = .ok (.string (strOf (sha m))) w') := fun w' hb' => ⟨(hb'.cell (p := ⟨gt, i, none⟩) hgt4).trans qt4, conv_str (sb_of32' (b4.bel hb') hhl.out hhf.out)⟩
      have hkd := HS.out w4.drew (Below.refl _ _).drew
      have HLn : Hid (Calls Tryd.prog 15 #[.pointer (some ⟨g, 0, none⟩)] w4.drew fun e w' => e = .returned (.int .i64 l) ∧ w4.drew = w') := by
        have := len_any g m w4.drew st4.out (by have := hMi.out; omega)
        rw [← EL.out] at this
        exact this
      clear st2 sV2 qt2 hh2 hb3 b3 t4 s3 s4 hz2 hb2 hb24 qt4
      refine wp_region_noPanic ?_
      refine wp_region_held_drew (S := fun w' => w'.cell? ⟨gt, i, none⟩ = some (.slice av l cv) ∧ (convert 29 9 (.slice (some ⟨g3, 0, none⟩) 32 32)).run Tryd.prog w' = .ok (.string (strOf (sha m))) w') mixed hkd (fun hH => ?_)
      refine wpAnyH_take (i := 0) (v := ?_) rfl (by kernel_rfl) (by kernel_rfl) (by kernel_rfl) (fun _ _ _ h => h) (Or.inl ⟨by rfl, ?_⟩) (by assumption) ?_
      rotate_left 1
      · (intro w hSw; (try dsimp only at hSw); go_simp <;> with_reducible rfl)
      simp only [Act.put, List.getElem_toArray, List.getElem_cons_zero, List.setIfInBounds_toArray, List.set_cons_zero, List.set_cons_succ]
      refine wpAnyH_take (i := 2) (v := ?_) rfl (by kernel_rfl) (by kernel_rfl) (by kernel_rfl) (fun _ _ _ h => h) (Or.inl ⟨by rfl, ?_⟩) (by assumption) ?_
      rotate_left 1
      · (intro w hSw; (try dsimp only at hSw); go_simp <;> with_reducible rfl)
      simp only [Act.put, List.getElem_toArray, List.getElem_cons_zero, List.getElem_cons_succ, List.setIfInBounds_toArray, List.set_cons_zero, List.set_cons_succ]
      refine wpAnyH_take (i := 3) (v := ?_) rfl (by kernel_rfl) (by kernel_rfl) (by kernel_rfl) (fun _ _ _ h => h) (Or.inl ⟨by rfl, ?_⟩) (by assumption) ?_
      rotate_left 1
      · (intro w hSw; (try dsimp only at hSw); go_simp <;> with_reducible rfl)
      simp only [Act.put, List.getElem_toArray, List.getElem_cons_zero, List.getElem_cons_succ, List.setIfInBounds_toArray, List.set_cons_zero, List.set_cons_succ]
      refine wpAnyH_take (i := 4) (v := ?_) rfl (by kernel_rfl) (by kernel_rfl) (by kernel_rfl) (fun _ _ _ h => h) (Or.inl ⟨by rfl, ?_⟩) (by assumption) ?_
      rotate_left 1
      · (intro w hSw; (try dsimp only at hSw); go_simp <;> with_reducible rfl)
      simp only [Act.put, List.getElem_toArray, List.getElem_cons_zero, List.getElem_cons_succ, List.setIfInBounds_toArray, List.set_cons_zero, List.set_cons_succ]
      refine wpAnyH_take (i := 5) (v := ?_) rfl (by kernel_rfl) (by kernel_rfl) (by kernel_rfl) (fun _ _ _ h => h) (Or.inl ⟨by rfl, ?_⟩) (by assumption) ?_
      rotate_left 1
      · (intro w hSw; (try dsimp only at hSw); go_simp <;> with_reducible rfl)
      simp only [Act.put, List.getElem_toArray, List.getElem_cons_zero, List.getElem_cons_succ, List.setIfInBounds_toArray, List.set_cons_zero, List.set_cons_succ]
      refine wpAnyH_take (i := 6) (v := ?_) rfl (by kernel_rfl) (by kernel_rfl) (by kernel_rfl) (fun _ _ _ h => h) (Or.inl ⟨by rfl, ?_⟩) (by assumption) ?_
      rotate_left 1
      · (intro w hSw; (try dsimp only at hSw); go_simp <;> with_reducible rfl)
      simp only [Act.put, List.getElem_toArray, List.getElem_cons_zero, List.getElem_cons_succ, List.setIfInBounds_toArray, List.set_cons_zero, List.set_cons_succ]
      refine wpAnyH_ready (rs := [1]) (by kernel_rfl) (by decide) ?_
      refine AllReadyH.cons rfl (fun K1 hK1 => ?_) AllReadyH.nil
      go_simp
      refine HLn.out.mono ?_
      rintro e w5 ⟨rfl, rfl⟩
      refine hK1.out _ _ hkd (fun hH => ?_)
      clear hK1 K1
      refine wpAnyH_take (i := 7) (v := ?_) rfl (by kernel_rfl) (by kernel_rfl) (by kernel_rfl) (fun _ _ _ h => h) (Or.inl ⟨by rfl, ?_⟩) (by assumption) ?_
      rotate_left 1
      · (intro w hSw; (try dsimp only at hSw); go_simp <;> with_reducible rfl)
      simp only [Act.put, List.getElem_toArray, List.getElem_cons_zero, List.getElem_cons_succ, List.setIfInBounds_toArray, List.set_cons_zero, List.set_cons_succ]
      refine wpAnyH_take (i := 8) (v := ?_) rfl (by kernel_rfl) (by kernel_rfl) (by kernel_rfl) (fun _ _ _ h => h) (Or.inl ⟨by rfl, ?_⟩) (by assumption) ?_
      rotate_left 1
      · (intro w hSw; (try dsimp only at hSw); go_simp <;> with_reducible rfl)
      simp only [Act.put, List.getElem_toArray, List.getElem_cons_zero, List.getElem_cons_succ, List.setIfInBounds_toArray, List.set_cons_zero, List.set_cons_succ]
      refine wpAnyH_take (i := 9) (v := ?_) rfl (by kernel_rfl) (by kernel_rfl) (by kernel_rfl) (fun _ _ _ h => h) (Or.inl ⟨by rfl, ?_⟩) (by assumption) ?_
      rotate_left 1
      · (intro w hSw; (try dsimp only at hSw); go_simp <;> with_reducible rfl)
      simp only [Act.put, List.getElem_toArray, List.getElem_cons_zero, List.getElem_cons_succ, List.setIfInBounds_toArray, List.set_cons_zero, List.set_cons_succ]
      refine wpAnyH_take (i := 10) (v := ?_) rfl (by kernel_rfl) (by kernel_rfl) (by kernel_rfl) (fun _ _ _ h => h) (Or.inl ⟨by rfl, ?_⟩) (by assumption) ?_
      rotate_left 1
      · (intro w hSw; (try dsimp only at hSw); go_simp <;> with_reducible rfl)
      simp only [Act.put, List.getElem_toArray, List.getElem_cons_zero, List.getElem_cons_succ, List.setIfInBounds_toArray, List.set_cons_zero, List.set_cons_succ]
      refine wpAnyH_take (i := 11) (v := ?_) rfl (by kernel_rfl) (by kernel_rfl) (by kernel_rfl) (fun _ _ _ h => h) (Or.inl ⟨by rfl, ?_⟩) (by assumption) ?_
      rotate_left 1
      · (intro w hSw; (try dsimp only at hSw); go_simp <;> with_reducible rfl)
      simp only [Act.put, List.getElem_toArray, List.getElem_cons_zero, List.getElem_cons_succ, List.setIfInBounds_toArray, List.set_cons_zero, List.set_cons_succ]
      refine wpAnyH_take (i := 12) (v := ?_) rfl (by kernel_rfl) (by kernel_rfl) (by kernel_rfl) (fun _ _ _ h => h) (Or.inl ⟨by rfl, ?_⟩) (by assumption) ?_
      rotate_left 1
      · (intro w hSw; (try dsimp only at hSw); go_simp <;> with_reducible rfl)
      simp only [Act.put, List.getElem_toArray, List.getElem_cons_zero, List.getElem_cons_succ, List.setIfInBounds_toArray, List.set_cons_zero, List.set_cons_succ]
      refine wpAnyH_take (i := 13) (v := ?_) rfl (by kernel_rfl) (by kernel_rfl) (by kernel_rfl) (fun _ _ _ h => h) (Or.inl ⟨by rfl, ?_⟩) (by assumption) ?_
      rotate_left 1
      · (intro w hSw; (try dsimp only at hSw); go_simp <;> with_reducible rfl)
      simp only [Act.put, List.getElem_toArray, List.getElem_cons_zero, List.getElem_cons_succ, List.setIfInBounds_toArray, List.set_cons_zero, List.set_cons_succ]
      refine wpAnyH_take (i := 14) (v := ?_) rfl (by kernel_rfl) (by kernel_rfl) (by kernel_rfl) (fun _ _ _ h => h) (Or.inl ⟨by rfl, ?_⟩) (by assumption) ?_
      rotate_left 1
      · (intro w hSw; (try dsimp only at hSw); go_simp <;> with_reducible rfl)
      simp only [Act.put, List.getElem_toArray, List.getElem_cons_zero, List.getElem_cons_succ, List.setIfInBounds_toArray, List.set_cons_zero, List.set_cons_succ]
      refine wpAnyH_take (i := 15) (v := ?_) rfl (by kernel_rfl) (by kernel_rfl) (by kernel_rfl) (fun _ _ _ h => h) (Or.inl ⟨by rfl, ?_⟩) (by assumption) ?_
      rotate_left 1
      · (intro w hSw; (try dsimp only at hSw); go_simp <;> with_reducible rfl)
      simp only [Act.put, List.getElem_toArray, List.getElem_cons_zero, List.getElem_cons_succ, List.setIfInBounds_toArray, List.set_cons_zero, List.set_cons_succ]
      refine wpAnyH_ready (rs := [16]) (by kernel_rfl) (by decide) ?_
      refine AllReadyH.cons rfl (fun K1 hK1 => ?_) AllReadyH.nil
      go_simp
      refine (rof_any gh gS cS gT cT _ m w4.drew ⟨hh4.blk, hh4.s, hh4.t⟩ sV4.out (by have := hMi.out; omega)).mono ?_
      rintro e w6 ⟨g6, c6, rfl, o6, hb6⟩
      have hb6 : Below w4.heap.size w4 w6 := ⟨hb6.os, hb6.tape, hb6.output, hb6.size, hb6.block⟩
      have hk6 := HS.out w6 hb6
      have kc6 := conv_str (show SB w6 (.slice (some ⟨g6, 0, none⟩) 32 c6) (sha m) by have := o6.sl hhf.out; rw [hhl.out] at this; exact this)
      refine hK1.out _ _ hk6 (fun hH => ?_)
      clear hK1 K1
      refine wpAnyH_ready (rs := [17]) (by kernel_rfl) (by decide) ?_
      refine AllReadyH.cons rfl (fun K1 hK1 => ?_) AllReadyH.nil
      go_simp
      refine hK1.out _ _ hk6 (fun hH => ?_)
      clear hK1 K1
      refine wpAnyH_take (i := 18) (v := ?_) rfl (by kernel_rfl) (by kernel_rfl) (by kernel_rfl) (fun _ _ _ h => h) (Or.inl ⟨by rfl, ?_⟩) (by assumption) ?_
      rotate_left 1
      · (intro w hSw; (try dsimp only at hSw); go_simp <;> with_reducible rfl)
      simp only [Act.put, List.getElem_toArray, List.getElem_cons_zero, List.getElem_cons_succ, List.setIfInBounds_toArray, List.set_cons_zero, List.set_cons_succ]
      refine wpAnyH_take (i := 19) (v := ?_) rfl (by kernel_rfl) (by kernel_rfl) (by kernel_rfl) (fun _ _ _ h => h) (Or.inl ⟨by rfl, ?_⟩) (by assumption) ?_
      rotate_left 1
      · (intro w hSw; (try dsimp only at hSw); go_simp <;> with_reducible rfl)
      simp only [Act.put, List.getElem_toArray, List.getElem_cons_zero, List.getElem_cons_succ, List.setIfInBounds_toArray, List.set_cons_zero, List.set_cons_succ]
      refine wpAnyH_done (by kernel_rfl) ?_ _
      refine NoPanic.normal ?_
      go_wp2_with fail
      exact ⟨⟨i + 1, by omega, by go_num, bel_trans hb4w hb6⟩, by simp [intOf]; omega⟩
    · have d0 : decide ((i : Int) < (q : Int)) = false := decide_eq_false (by omega)
      go_wp2_with fail
      exact hb

end Go.Proofs.YtejhhkhaoekkiaaDoor.Ck
