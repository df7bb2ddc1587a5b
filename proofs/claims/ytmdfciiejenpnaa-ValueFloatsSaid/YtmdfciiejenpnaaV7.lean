/- Package value: Unary. (Written by mk_v.py.) -/
import Derived.Test.YtmdfciiejenpnaaV6
namespace Go.Proofs.Ytmdfciiejenpnaa.Ck
open Go.RowKit

def unF (op : List UInt8) (t n b : Int) : Int × Int × Int × Int :=
  if goodB t n b then (if t = 1 then ofIntF op n else if t = 2 then ofFloatF op b.toNat else ofBoolF op (t == 3 && n == 1)) else noneR
set_option maxRecDepth 20000 in
set_option maxHeartbeats 1000000 in
theorem unary_any (op : ByteArray) (t n b : Int) (hb : b < 18446744073709551616) (w : World) : Calls Try.prog 10 #[.string op, .agg #[.int .i64 t, .int .i64 n, .int .u64 b]] w (Vi4 w (unF op.toList t n b)) := by
  have cf := callFrom
  have VA := hide ((Val.new w t n b).al (bel_new (w.alloc (.cells #[.int .i64 t, .int .i64 n, .int .u64 b] 24)) (.cells #[.int .i64 0, .int .i64 0, .int .u64 0] 24)))
  have V1 := Val.new (w.alloc (.cells #[.int .i64 t, .int .i64 n, .int .u64 b] 24)) 0 0 0
  have sz : (w.alloc (.cells #[.int .i64 t, .int .i64 n, .int .u64 b] 24)).heap.size = w.heap.size + 1 := by simp
  rw [sz] at V1
  replace V1 := hide V1
  have B1 := hide (bel_al (bel_new w (.cells #[.int .i64 t, .int .i64 n, .int .u64 b] 24)) (.cells #[.int .i64 0, .int .i64 0, .int .u64 0] 24))
  clear sz
  have HG := fun w => good_any t n b w
  have HT := fun w => true_any t n b w
  have HB := hide hb
  clear hb
  obtain ⟨⟨t1, n1, b1, k1⟩, hr⟩ : ∃ r, unF op.toList t n b = r := ⟨_, rfl⟩
  rw [hr]
  unfold unF at hr
  show Calls _ _ _ _ (Vi w t1 n1 b1 k1)
  cases hg : goodB t n b
  · rw [hg] at HG hr
    have HR := hide hr
    clear hr HT
    go_enter Try.func10, Try.ntmps10
    have cc := VA.out.all.2
    obtain ⟨c0, c1, c2⟩ := cc
    go_wp2_with fail
    refine (HG _).mono ?_
    rintro e w1 ⟨rfl, hb1⟩
    have V2 := V1.out.al hb1
    have B2 := hide (bel_trans B1.out hb1)
    obtain ⟨⟨f0, f1, f2⟩, d0, d1, d2⟩ := V2.all
    replace V2 := hide V2
    clear c0 c1 c2 hb1 HG
    go_wp2_with fail
    have E := HR.out
    simp only [noneR, Prod.mk.injEq, Bool.false_eq_true, if_false] at E
    exact ret_vi (w.heap.size + 1) rfl rfl rfl (V2.out.set _ _ _) rfl (Vi.mk ⟨E.1, E.2.1, E.2.2.1, E.2.2.2⟩ (bel_set B2.out (by omega) _ _ _))
  rw [hg] at HG hr
  rw [if_pos rfl] at hr
  by_cases h1 : t = 1
  · rw [if_pos h1] at hr
    subst h1
    have HC := fun w => ofInt_any op n w
    rw [hr] at HC
    have HR := hide hr
    clear hr
    go_enter Try.func10, Try.ntmps10
    obtain ⟨c0, c1, c2⟩ := VA.out.all.2
    go_wp2_with fail
    refine (HG _).mono ?_
    rintro e w1 ⟨rfl, hb1⟩
    have V2 := hide (V1.out.al hb1)
    have A2 := VA.out.al hb1
    have B2 := hide (bel_trans B1.out hb1)
    clear c0 c1 c2
    obtain ⟨c0, c1, c2⟩ := A2.all.2
    clear hb1 HG A2
    go_wp2_with fail
    refine (HC _).mono ?_
    rintro e w3 ⟨rfl, hb3⟩
    replace V2 := V2.out.al hb3
    have B3 := hide (bel_trans B2.out hb3)
    obtain ⟨⟨f0, f1, f2⟩, d0, d1, d2⟩ := V2.all
    replace V2 := hide V2
    clear c0 c1 c2 hb3
    go_wp2_with fail
    exact ret_vi (w.heap.size + 1) rfl rfl rfl (V2.out.set _ _ _) rfl (Vi.mk ⟨rfl, rfl, rfl, rfl⟩ (bel_set B3.out (by omega) _ _ _))
  rw [if_neg h1] at hr
  by_cases h2 : t = 2
  · rw [if_pos h2] at hr
    subst h2
    have HC := fun w => ofFloat_any op b.toNat (by have := HB.out; omega) w
    rw [hr] at HC
    have HR := hide hr
    clear hr
    go_enter Try.func10, Try.ntmps10
    obtain ⟨c0, c1, c2⟩ := VA.out.all.2
    go_wp2_with fail
    refine (HG _).mono ?_
    rintro e w1 ⟨rfl, hb1⟩
    have V2 := hide (V1.out.al hb1)
    have A2 := VA.out.al hb1
    have B2 := hide (bel_trans B1.out hb1)
    clear c0 c1 c2
    obtain ⟨c0, c1, c2⟩ := A2.all.2
    clear hb1 HG A2
    go_wp2_with fail
    refine (HC _).mono ?_
    rintro e w3 ⟨rfl, hb3⟩
    replace V2 := V2.out.al hb3
    have B3 := hide (bel_trans B2.out hb3)
    obtain ⟨⟨f0, f1, f2⟩, d0, d1, d2⟩ := V2.all
    replace V2 := hide V2
    clear c0 c1 c2 hb3
    go_wp2_with fail
    exact ret_vi (w.heap.size + 1) rfl rfl rfl (V2.out.set _ _ _) rfl (Vi.mk ⟨rfl, rfl, rfl, rfl⟩ (bel_set B3.out (by omega) _ _ _))
  rw [if_neg h2] at hr
  have HC := fun w => ofBool_any op (t == 3 && n == 1) w
  rw [hr] at HC
  have h1' : (t == 1) = false := by simpa using h1
  have h2' : (t == 2) = false := by simpa using h2
  clear h1 h2
  generalize (t == 3 && n == 1) = tb at *
  have HR := hide hr
  clear hr
  go_enter Try.func10, Try.ntmps10
  obtain ⟨c0, c1, c2⟩ := VA.out.all.2
  go_wp2_with fail
  refine (HG _).mono ?_
  rintro e w1 ⟨rfl, hb1⟩
  have V2 := hide (V1.out.al hb1)
  have A2 := VA.out.al hb1
  have B2 := hide (bel_trans B1.out hb1)
  clear c0 c1 c2
  obtain ⟨c0, c1, c2⟩ := A2.all.2
  clear hb1 HG A2
  go_wp2_with fail
  refine (HT _).mono ?_
  rintro e w2 ⟨rfl, hb2⟩
  replace V2 := hide (V2.out.al hb2)
  replace B2 := hide (bel_trans B2.out hb2)
  clear c0 c1 c2 hb2 HT
  go_wp2_with fail
  refine (HC _).mono ?_
  rintro e w3 ⟨rfl, hb3⟩
  replace V2 := V2.out.al hb3
  have B3 := hide (bel_trans B2.out hb3)
  obtain ⟨⟨f0, f1, f2⟩, d0, d1, d2⟩ := V2.all
  replace V2 := hide V2
  clear hb3
  go_wp2_with fail
  exact ret_vi (w.heap.size + 1) rfl rfl rfl (V2.out.set _ _ _) rfl (Vi.mk ⟨rfl, rfl, rfl, rfl⟩ (bel_set B3.out (by omega) _ _ _))
end Go.Proofs.Ytmdfciiejenpnaa.Ck
