/- Package value: Binary. (Written by mk_v.py.) -/
import Derived.Test.YtmdfciiejenpnaaV7
import Derived.Deep.RegionHeld3
namespace Go.Proofs.Ytmdfciiejenpnaa.Ck
open Go.RowKit

def binF (op : List UInt8) (t n b t' n' b' : Int) : Int × Int × Int × Int :=
  if goodB t n b = true ∧ goodB t' n' b' = true ∧ t = t' then (if t = 1 then ofIntsF op n n' else if t = 2 then ofFloatsF op b.toNat b'.toNat else ofBoolsF op (t == 3 && n == 1) (t' == 3 && n' == 1)) else noneR
theorem Val.other {w : World} {g g2 : Nat} {t n b : Int} (h : Val w g t n b) (hg : g ≠ g2) (x y z : Value) : Val (((w.setCell ⟨g2, 0, none⟩ x).setCell ⟨g2, 1, none⟩ y).setCell ⟨g2, 2, none⟩ z) g t n b := by
  unfold Val at *
  rw [Below.heap_setCell _ _ _ _ hg, Below.heap_setCell _ _ _ _ hg, Below.heap_setCell _ _ _ _ hg]
  exact h
/-- two variables side by side -/
def Tri (w : World) (g : Nat) (t n b t' n' b' : Int) : Prop := Val w g t n b ∧ Val w (g + 1) t' n' b'
theorem Tri.al {w w' : World} {g : Nat} {t n b t' n' b' : Int} (h : Tri w g t n b t' n' b') (hb : Below w.heap.size w w') : Tri w' g t n b t' n' b' := ⟨h.1.al hb, h.2.al hb⟩
theorem Tri.set {w : World} {g : Nat} {t n b t' n' b' : Int} (h : Tri w g t n b t' n' b') (x y z : Value) : Tri (((w.setCell ⟨g + 2, 0, none⟩ x).setCell ⟨g + 2, 1, none⟩ y).setCell ⟨g + 2, 2, none⟩ z) g t n b t' n' b' := ⟨h.1.other (by omega) x y z, h.2.other (by omega) x y z⟩
set_option maxRecDepth 20000 in
set_option maxHeartbeats 1000000 in
theorem binary_any (op : ByteArray) (t n b t' n' b' : Int) (w : World) : Calls Try.prog 12 #[.string op, .agg #[.int .i64 t, .int .i64 n, .int .u64 b], .agg #[.int .i64 t', .int .i64 n', .int .u64 b']] w (Vi4 w (binF op.toList t n b t' n' b')) := by
  have W1 : Hid (Below w.heap.size w (((w.alloc (.cells #[.int .i64 t, .int .i64 n, .int .u64 b] 24)).alloc (.cells #[.int .i64 t', .int .i64 n', .int .u64 b'] 24)).alloc (.cells #[.int .i64 0, .int .i64 0, .int .u64 0] 24))) := hide (bel_al (bel_al (bel_new w _) _) _)
  have sz : (w.alloc (.cells #[.int .i64 t, .int .i64 n, .int .u64 b] 24)).heap.size = w.heap.size + 1 := by simp
  have sz2 : ((w.alloc (.cells #[.int .i64 t, .int .i64 n, .int .u64 b] 24)).alloc (.cells #[.int .i64 t', .int .i64 n', .int .u64 b'] 24)).heap.size = w.heap.size + 2 := by simp
  have VA := ((Val.new w t n b).al (bel_new _ (.cells #[.int .i64 t', .int .i64 n', .int .u64 b'] 24))).al (bel_new _ (.cells #[.int .i64 0, .int .i64 0, .int .u64 0] 24))
  have VC := (Val.new (w.alloc (.cells #[.int .i64 t, .int .i64 n, .int .u64 b] 24)) t' n' b').al (bel_new _ (.cells #[.int .i64 0, .int .i64 0, .int .u64 0] 24))
  have V1 := Val.new ((w.alloc (.cells #[.int .i64 t, .int .i64 n, .int .u64 b] 24)).alloc (.cells #[.int .i64 t', .int .i64 n', .int .u64 b'] 24)) 0 0 0
  rw [sz] at VC
  rw [sz2] at V1
  replace VA := hide VA
  replace VC := hide VC
  replace V1 := hide V1
  clear sz sz2
  have cf := callFrom
  have HG := fun w => good_any t n b w
  have HH := fun w => good_any t' n' b' w
  obtain ⟨⟨t1, n1, b1, k1⟩, hr⟩ : ∃ r, binF op.toList t n b t' n' b' = r := ⟨_, rfl⟩
  rw [hr]
  unfold binF at hr
  show Calls _ _ _ _ (Vi w t1 n1 b1 k1)
  cases hg : goodB t n b
  · rw [if_neg (by rw [hg]; simp)] at hr
    rw [hg] at HG
    have HR := hide hr
    clear hr HH
    go_enter Try.func12, Try.ntmps12
    obtain ⟨c0, c1, c2⟩ := VA.out.all.2
    go_wp2_with fail
    refine (HG _).mono ?_
    rintro e w1 ⟨rfl, hb1⟩
    replace VA := hide (VA.out.al hb1)
    replace VC := hide (VC.out.al hb1)
    replace V1 := hide (V1.out.al hb1)
    have B1 := hide (bel_trans W1.out hb1)
    clear c0 c1 c2 hb1 HG
    obtain ⟨⟨f0, f1, f2⟩, d0, d1, d2⟩ := V1.out.all
    go_wp2_with fail
    have E := HR.out
    simp only [noneR, Prod.mk.injEq] at E
    exact ret_vi (w.heap.size + 2) rfl rfl rfl (V1.out.set _ _ _) rfl (Vi.mk ⟨E.1, E.2.1, E.2.2.1, E.2.2.2⟩ (bel_set B1.out (by omega) _ _ _))
  rw [hg] at HG
  cases hh : goodB t' n' b'
  · rw [if_neg (by rw [hh]; simp)] at hr
    rw [hh] at HH
    have HR := hide hr
    clear hr
    go_enter Try.func12, Try.ntmps12
    obtain ⟨c0, c1, c2⟩ := VA.out.all.2
    go_wp2_with fail
    refine (HG _).mono ?_
    rintro e w1 ⟨rfl, hb1⟩
    replace VA := hide (VA.out.al hb1)
    replace VC := hide (VC.out.al hb1)
    replace V1 := hide (V1.out.al hb1)
    have B1 := hide (bel_trans W1.out hb1)
    clear c0 c1 c2 hb1 HG
    obtain ⟨c0, c1, c2⟩ := VC.out.all.2
    go_wp2_with fail
    refine (HH _).mono ?_
    rintro e w2 ⟨rfl, hb2⟩
    replace VA := hide (VA.out.al hb2)
    replace VC := hide (VC.out.al hb2)
    replace V1 := hide (V1.out.al hb2)
    replace B1 := hide (bel_trans B1.out hb2)
    clear c0 c1 c2 hb2 HH
    obtain ⟨⟨f0, f1, f2⟩, d0, d1, d2⟩ := V1.out.all
    go_wp2_with fail
    have E := HR.out
    simp only [noneR, Prod.mk.injEq] at E
    exact ret_vi (w.heap.size + 2) rfl rfl rfl (V1.out.set _ _ _) rfl (Vi.mk ⟨E.1, E.2.1, E.2.2.1, E.2.2.2⟩ (bel_set B1.out (by omega) _ _ _))
  rw [hh] at HH
  by_cases ht : t = t'
  case neg =>
    rw [if_neg (fun h => ht h.2.2)] at hr
    have ht' : (t != t') = true := by simpa using ht
    have HR := hide hr
    clear hr
    go_enter Try.func12, Try.ntmps12
    obtain ⟨c0, c1, c2⟩ := VA.out.all.2
    go_wp2_with fail
    refine (HG _).mono ?_
    rintro e w1 ⟨rfl, hb1⟩
    replace VA := hide (VA.out.al hb1)
    replace VC := hide (VC.out.al hb1)
    replace V1 := hide (V1.out.al hb1)
    have B1 := hide (bel_trans W1.out hb1)
    clear c0 c1 c2 hb1 HG
    obtain ⟨c0, c1, c2⟩ := VC.out.all.2
    go_wp2_with fail
    refine (HH _).mono ?_
    rintro e w2 ⟨rfl, hb2⟩
    replace VA := hide (VA.out.al hb2)
    replace VC := hide (VC.out.al hb2)
    replace V1 := hide (V1.out.al hb2)
    replace B1 := hide (bel_trans B1.out hb2)
    clear c0 c1 c2 hb2 HH
    obtain ⟨a0, a1, a2⟩ := VA.out.all.2
    obtain ⟨c0, c1, c2⟩ := VC.out.all.2
    obtain ⟨⟨f0, f1, f2⟩, d0, d1, d2⟩ := V1.out.all
    go_wp2_with fail
    have E := HR.out
    simp only [noneR, Prod.mk.injEq] at E
    exact ret_vi (w.heap.size + 2) rfl rfl rfl (V1.out.set _ _ _) rfl (Vi.mk ⟨E.1, E.2.1, E.2.2.1, E.2.2.2⟩ (bel_set B1.out (by omega) _ _ _))
  rw [if_pos ⟨hg, hh, ht⟩] at hr
  subst ht
  clear hg hh
  by_cases h1 : t = 1
  · rw [if_pos h1] at hr
    subst h1
    have HC := fun w => ofInts_any op n n' w
    rw [hr] at HC
    clear hr
    go_enter Try.func12, Try.ntmps12
    obtain ⟨c0, c1, c2⟩ := VA.out.all.2
    go_wp2_with fail
    refine (HG _).mono ?_
    rintro e w1 ⟨rfl, hb1⟩
    replace VA := hide (VA.out.al hb1)
    replace VC := hide (VC.out.al hb1)
    replace V1 := hide (V1.out.al hb1)
    have B1 := hide (bel_trans W1.out hb1)
    clear c0 c1 c2 hb1 HG
    obtain ⟨c0, c1, c2⟩ := VC.out.all.2
    go_wp2_with fail
    refine (HH _).mono ?_
    rintro e w2 ⟨rfl, hb2⟩
    replace VA := hide (VA.out.al hb2)
    replace VC := hide (VC.out.al hb2)
    replace V1 := hide (V1.out.al hb2)
    replace B1 := hide (bel_trans B1.out hb2)
    clear c0 c1 c2 hb2 HH
    obtain ⟨a0, a1, a2⟩ := VA.out.all.2
    obtain ⟨c0, c1, c2⟩ := VC.out.all.2
    go_wp2_with fail
    refine (HC _).mono ?_
    rintro e w3 ⟨rfl, hb3⟩
    replace V1 := V1.out.al hb3
    have B3 := hide (bel_trans B1.out hb3)
    obtain ⟨⟨f0, f1, f2⟩, d0, d1, d2⟩ := V1.all
    replace V1 := hide V1
    clear hb3
    go_wp2_with fail
    exact ret_vi (w.heap.size + 2) rfl rfl rfl (V1.out.set _ _ _) rfl (Vi.mk ⟨rfl, rfl, rfl, rfl⟩ (bel_set B3.out (by omega) _ _ _))
  rw [if_neg h1] at hr
  by_cases h2 : t = 2
  · rw [if_pos h2] at hr
    subst h2
    have HC := fun w => ofFloats_any op b.toNat b'.toNat w
    rw [hr] at HC
    clear hr
    go_enter Try.func12, Try.ntmps12
    obtain ⟨c0, c1, c2⟩ := VA.out.all.2
    go_wp2_with fail
    refine (HG _).mono ?_
    rintro e w1 ⟨rfl, hb1⟩
    replace VA := hide (VA.out.al hb1)
    replace VC := hide (VC.out.al hb1)
    replace V1 := hide (V1.out.al hb1)
    have B1 := hide (bel_trans W1.out hb1)
    clear c0 c1 c2 hb1 HG
    obtain ⟨c0, c1, c2⟩ := VC.out.all.2
    go_wp2_with fail
    refine (HH _).mono ?_
    rintro e w2 ⟨rfl, hb2⟩
    replace VA := hide (VA.out.al hb2)
    replace VC := hide (VC.out.al hb2)
    replace V1 := hide (V1.out.al hb2)
    replace B1 := hide (bel_trans B1.out hb2)
    clear c0 c1 c2 hb2 HH
    obtain ⟨a0, a1, a2⟩ := VA.out.all.2
    obtain ⟨c0, c1, c2⟩ := VC.out.all.2
    go_wp2_with fail
    refine wp_region_held_drew (S := fun w' => Tri w' w.heap.size 2 n b 2 n' b') mixed ⟨VA.out, VC.out⟩ (fun hH => ?_)
    replace V1 := hide V1.out.drew
    replace B1 := hide (bel_drawn B1.out)
    generalize w2.drew = d0 at *
    clear VA VC a0 a1 a2 c0 c1 c2
    refine wpAnyH_take (i := 0) (v := ?_) rfl (by kernel_rfl) (by kernel_rfl) (by kernel_rfl) (fun _ _ _ h => h) (Or.inl ⟨by rfl, ?_⟩) hH ?_
    rotate_left 1
    · (intro w hSw; skip; clear hSw; go_simp <;> with_reducible rfl)
    simp only [Act.put, List.getElem_toArray, List.getElem_cons_zero, List.setIfInBounds_toArray, List.set_cons_zero, List.set_cons_succ]
    refine wpAnyH_take (i := 1) (v := ?_) rfl (by kernel_rfl) (by kernel_rfl) (by kernel_rfl) (fun _ _ _ h => h) (Or.inl ⟨by rfl, ?_⟩) hH ?_
    rotate_left 1
    · (intro w hSw; skip; clear hSw; go_simp <;> with_reducible rfl)
    simp only [Act.put, List.getElem_toArray, List.getElem_cons_zero, List.getElem_cons_succ, List.setIfInBounds_toArray, List.set_cons_zero, List.set_cons_succ]
    refine wpAnyH_take (i := 2) (v := ?_) rfl (by kernel_rfl) (by kernel_rfl) (by kernel_rfl) (fun _ _ _ h => h) (Or.inl ⟨by rfl, ?_⟩) hH ?_
    rotate_left 1
    · (intro w hSw; have q := hSw.1.all.2; clear hSw; go_simp <;> with_reducible rfl)
    simp only [Act.put, List.getElem_toArray, List.getElem_cons_zero, List.getElem_cons_succ, List.setIfInBounds_toArray, List.set_cons_zero, List.set_cons_succ]
    refine wpAnyH_take (i := 4) (v := ?_) rfl (by kernel_rfl) (by kernel_rfl) (by kernel_rfl) (fun _ _ _ h => h) (Or.inl ⟨by rfl, ?_⟩) hH ?_
    rotate_left 1
    · (intro w hSw; skip; clear hSw; go_simp <;> with_reducible rfl)
    simp only [Act.put, List.getElem_toArray, List.getElem_cons_zero, List.getElem_cons_succ, List.setIfInBounds_toArray, List.set_cons_zero, List.set_cons_succ]
    refine wpAnyH_take (i := 5) (v := ?_) rfl (by kernel_rfl) (by kernel_rfl) (by kernel_rfl) (fun _ _ _ h => h) (Or.inl ⟨by rfl, ?_⟩) hH ?_
    rotate_left 1
    · (intro w hSw; have q := hSw.2.all.2; clear hSw; go_simp <;> with_reducible rfl)
    simp only [Act.put, List.getElem_toArray, List.getElem_cons_zero, List.getElem_cons_succ, List.setIfInBounds_toArray, List.set_cons_zero, List.set_cons_succ]
    refine wpAnyH_ready (rs := [3]) (by kernel_rfl) (by decide) ?_
    refine AllReadyH.cons rfl (fun K1 hK1 => ?_) AllReadyH.nil
    go_simp
    refine hK1.out _ _ hH (fun hH => ?_)
    clear hK1 K1
    refine wpAnyH_ready (rs := [6]) (by kernel_rfl) (by decide) ?_
    refine AllReadyH.cons rfl (fun K1 hK1 => ?_) AllReadyH.nil
    go_simp
    refine hK1.out _ _ hH (fun hH => ?_)
    clear hK1 K1
    refine wpAnyH_ready (rs := [7]) (by kernel_rfl) (by decide) ?_
    refine AllReadyH.cons rfl (fun K1 hK1 => ?_) AllReadyH.nil
    go_simp
    refine (HC _).mono ?_
    rintro e d3 ⟨rfl, hb3⟩
    replace V1 := hide (V1.out.al hb3)
    replace B1 := hide (bel_trans B1.out hb3)
    refine hK1.out _ _ (hH.al hb3) (fun hH => ?_)
    clear hK1 K1 hb3
    refine wpAnyH_take (i := 8) (v := ?_) rfl (by kernel_rfl) (by kernel_rfl) (by kernel_rfl) (fun _ _ _ h => h) (Or.inl ⟨by rfl, ?_⟩) hH ?_
    rotate_left 1
    · (intro w hSw; skip; clear hSw; go_simp <;> with_reducible rfl)
    simp only [Act.put, List.getElem_toArray, List.getElem_cons_zero, List.getElem_cons_succ, List.setIfInBounds_toArray, List.set_cons_zero, List.set_cons_succ]
    refine wpAnyH_take (i := 9) (v := ?_) rfl (by kernel_rfl) (by kernel_rfl) (by kernel_rfl) (fun _ _ _ h => h) (Or.inl ⟨by rfl, ?_⟩) hH ?_
    rotate_left 1
    · (intro w hSw; skip; clear hSw; go_simp <;> with_reducible rfl)
    simp only [Act.put, List.getElem_toArray, List.getElem_cons_zero, List.getElem_cons_succ, List.setIfInBounds_toArray, List.set_cons_zero, List.set_cons_succ]
    refine wpAnyH_ready (rs := [10]) (by kernel_rfl) (by decide) ?_
    refine AllReadyH.cons rfl (fun K1 hK1 => ?_) AllReadyH.nil
    obtain ⟨⟨f0, f1, f2⟩, d0, d1, d2⟩ := V1.out.all
    go_simp
    refine hK1.out _ _ (hH.set _ _ _) (fun hH => ?_)
    clear hK1 K1
    refine wpAnyH_take (i := 11) (v := ?_) rfl (by kernel_rfl) (by kernel_rfl) (by kernel_rfl) (fun _ _ _ h => h) (Or.inl ⟨by rfl, ?_⟩) hH ?_
    rotate_left 1
    · (intro w hSw; skip; clear hSw; go_simp <;> with_reducible rfl)
    simp only [Act.put, List.getElem_toArray, List.getElem_cons_zero, List.getElem_cons_succ, List.setIfInBounds_toArray, List.set_cons_zero, List.set_cons_succ]
    refine wpAnyH_done (by kernel_rfl) ?_ _
    go_wp2_with fail
    exact ret_vi (w.heap.size + 2) rfl rfl rfl (V1.out.set _ _ _) rfl (Vi.mk ⟨rfl, rfl, rfl, rfl⟩ (bel_set B1.out (by omega) _ _ _))
  rw [if_neg h2] at hr
  have HC := fun w => ofBools_any op (t == 3 && n == 1) (t == 3 && n' == 1) w
  rw [hr] at HC
  clear hr
  have h1' : (t == 1) = false := by simpa using h1
  have h2' : (t == 2) = false := by simpa using h2
  clear h1 h2
  have HT := fun w => true_any t n b w
  have HU := fun w => true_any t n' b' w
  generalize (t == 3 && n == 1) = tb at *
  generalize (t == 3 && n' == 1) = tc at *
  go_enter Try.func12, Try.ntmps12
  obtain ⟨c0, c1, c2⟩ := VA.out.all.2
  go_wp2_with fail
  refine (HG _).mono ?_
  rintro e w1 ⟨rfl, hb1⟩
  replace VA := hide (VA.out.al hb1)
  replace VC := hide (VC.out.al hb1)
  replace V1 := hide (V1.out.al hb1)
  have B1 := hide (bel_trans W1.out hb1)
  clear c0 c1 c2 hb1 HG
  obtain ⟨c0, c1, c2⟩ := VC.out.all.2
  go_wp2_with fail
  refine (HH _).mono ?_
  rintro e w2 ⟨rfl, hb2⟩
  replace VA := hide (VA.out.al hb2)
  replace VC := hide (VC.out.al hb2)
  replace V1 := hide (V1.out.al hb2)
  replace B1 := hide (bel_trans B1.out hb2)
  clear c0 c1 c2 hb2 HH
  obtain ⟨a0, a1, a2⟩ := VA.out.all.2
  obtain ⟨c0, c1, c2⟩ := VC.out.all.2
  go_wp2_with fail
  refine wp_region_held_drew (S := fun w' => Tri w' w.heap.size t n b t n' b') mixed ⟨VA.out, VC.out⟩ (fun hH => ?_)
  replace V1 := hide V1.out.drew
  replace B1 := hide (bel_drawn B1.out)
  generalize w2.drew = d0 at *
  clear VA VC a0 a1 a2 c0 c1 c2
  refine wpAnyH_take (i := 0) (v := ?_) rfl (by kernel_rfl) (by kernel_rfl) (by kernel_rfl) (fun _ _ _ h => h) (Or.inl ⟨by rfl, ?_⟩) hH ?_
  rotate_left 1
  · (intro w hSw; skip; clear hSw; go_simp <;> with_reducible rfl)
  simp only [Act.put, List.getElem_toArray, List.getElem_cons_zero, List.setIfInBounds_toArray, List.set_cons_zero, List.set_cons_succ]
  refine wpAnyH_take (i := 1) (v := ?_) rfl (by kernel_rfl) (by kernel_rfl) (by kernel_rfl) (fun _ _ _ h => h) (Or.inl ⟨by rfl, ?_⟩) hH ?_
  rotate_left 1
  · (intro w hSw; have q := hSw.1.all.2; clear hSw; go_simp <;> with_reducible rfl)
  simp only [Act.put, List.getElem_toArray, List.getElem_cons_zero, List.getElem_cons_succ, List.setIfInBounds_toArray, List.set_cons_zero, List.set_cons_succ]
  refine wpAnyH_take (i := 3) (v := ?_) rfl (by kernel_rfl) (by kernel_rfl) (by kernel_rfl) (fun _ _ _ h => h) (Or.inl ⟨by rfl, ?_⟩) hH ?_
  rotate_left 1
  · (intro w hSw; have q := hSw.2.all.2; clear hSw; go_simp <;> with_reducible rfl)
  simp only [Act.put, List.getElem_toArray, List.getElem_cons_zero, List.getElem_cons_succ, List.setIfInBounds_toArray, List.set_cons_zero, List.set_cons_succ]
  refine wpAnyH_ready (rs := [2]) (by kernel_rfl) (by decide) ?_
  refine AllReadyH.cons rfl (fun K1 hK1 => ?_) AllReadyH.nil
  go_simp
  refine (HT _).mono ?_
  rintro e d3 ⟨rfl, hb3⟩
  replace V1 := hide (V1.out.al hb3)
  replace B1 := hide (bel_trans B1.out hb3)
  refine hK1.out _ _ (hH.al hb3) (fun hH => ?_)
  clear hK1 K1 hb3
  refine wpAnyH_ready (rs := [4]) (by kernel_rfl) (by decide) ?_
  refine AllReadyH.cons rfl (fun K1 hK1 => ?_) AllReadyH.nil
  go_simp
  refine (HU _).mono ?_
  rintro e d3 ⟨rfl, hb3⟩
  replace V1 := hide (V1.out.al hb3)
  replace B1 := hide (bel_trans B1.out hb3)
  refine hK1.out _ _ (hH.al hb3) (fun hH => ?_)
  clear hK1 K1 hb3
  refine wpAnyH_ready (rs := [5]) (by kernel_rfl) (by decide) ?_
  refine AllReadyH.cons rfl (fun K1 hK1 => ?_) AllReadyH.nil
  go_simp
  refine (HC _).mono ?_
  rintro e d3 ⟨rfl, hb3⟩
  replace V1 := hide (V1.out.al hb3)
  replace B1 := hide (bel_trans B1.out hb3)
  refine hK1.out _ _ (hH.al hb3) (fun hH => ?_)
  clear hK1 K1 hb3
  refine wpAnyH_take (i := 6) (v := ?_) rfl (by kernel_rfl) (by kernel_rfl) (by kernel_rfl) (fun _ _ _ h => h) (Or.inl ⟨by rfl, ?_⟩) hH ?_
  rotate_left 1
  · (intro w hSw; skip; clear hSw; go_simp <;> with_reducible rfl)
  simp only [Act.put, List.getElem_toArray, List.getElem_cons_zero, List.getElem_cons_succ, List.setIfInBounds_toArray, List.set_cons_zero, List.set_cons_succ]
  refine wpAnyH_take (i := 7) (v := ?_) rfl (by kernel_rfl) (by kernel_rfl) (by kernel_rfl) (fun _ _ _ h => h) (Or.inl ⟨by rfl, ?_⟩) hH ?_
  rotate_left 1
  · (intro w hSw; skip; clear hSw; go_simp <;> with_reducible rfl)
  simp only [Act.put, List.getElem_toArray, List.getElem_cons_zero, List.getElem_cons_succ, List.setIfInBounds_toArray, List.set_cons_zero, List.set_cons_succ]
  refine wpAnyH_ready (rs := [8]) (by kernel_rfl) (by decide) ?_
  refine AllReadyH.cons rfl (fun K1 hK1 => ?_) AllReadyH.nil
  obtain ⟨⟨f0, f1, f2⟩, d0, d1, d2⟩ := V1.out.all
  go_simp
  refine hK1.out _ _ (hH.set _ _ _) (fun hH => ?_)
  clear hK1 K1
  refine wpAnyH_take (i := 9) (v := ?_) rfl (by kernel_rfl) (by kernel_rfl) (by kernel_rfl) (fun _ _ _ h => h) (Or.inl ⟨by rfl, ?_⟩) hH ?_
  rotate_left 1
  · (intro w hSw; skip; clear hSw; go_simp <;> with_reducible rfl)
  simp only [Act.put, List.getElem_toArray, List.getElem_cons_zero, List.getElem_cons_succ, List.setIfInBounds_toArray, List.set_cons_zero, List.set_cons_succ]
  refine wpAnyH_done (by kernel_rfl) ?_ _
  go_wp2_with fail
  exact ret_vi (w.heap.size + 2) rfl rfl rfl (V1.out.set _ _ _) rfl (Vi.mk ⟨rfl, rfl, rfl, rfl⟩ (bel_set B1.out (by omega) _ _ _))
end Go.Proofs.Ytmdfciiejenpnaa.Ck
