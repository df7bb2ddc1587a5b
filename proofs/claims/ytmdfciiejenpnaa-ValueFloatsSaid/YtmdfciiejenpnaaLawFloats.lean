/- The walk of the statement ValueFloats: it answers true. (Written by mk_f.py.) -/
import Derived.Test.YtmdfciiejenpnaaR8
import Derived.LoopN
namespace Go.Proofs.Ytmdfciiejenpnaa.Ck
open Go.RowKit

theorem bf (op : List UInt8) (u v : Nat) : binF op 2 0 (u : Nat) 2 0 (v : Nat) = ofFloatsF op u v := by simp [binF, goodB]
theorem bf_eq (u v : Nat) : binF (⟨#[61, 61]⟩ : ByteArray).toList 2 0 (u : Nat) 2 0 (v : Nat) = (3, (eqF u v).toInt, 0, 0) := by rw [bf, show (⟨#[61, 61]⟩ : ByteArray).toList = [61, 61] by decide +kernel]; rfl
theorem bf_ne (u v : Nat) : binF (⟨#[33, 61]⟩ : ByteArray).toList 2 0 (u : Nat) 2 0 (v : Nat) = (3, (!eqF u v).toInt, 0, 0) := by rw [bf, show (⟨#[33, 61]⟩ : ByteArray).toList = [33, 61] by decide +kernel]; rfl
theorem bf_lt (u v : Nat) : binF (⟨#[60]⟩ : ByteArray).toList 2 0 (u : Nat) 2 0 (v : Nat) = (3, (ltF u v).toInt, 0, 0) := by rw [bf, show (⟨#[60]⟩ : ByteArray).toList = [60] by decide +kernel]; rfl
theorem bf_le (u v : Nat) : binF (⟨#[60, 61]⟩ : ByteArray).toList 2 0 (u : Nat) 2 0 (v : Nat) = (3, (ltF u v || eqF u v).toInt, 0, 0) := by rw [bf, show (⟨#[60, 61]⟩ : ByteArray).toList = [60, 61] by decide +kernel]; rfl
theorem bf_gt (u v : Nat) : binF (⟨#[62]⟩ : ByteArray).toList 2 0 (u : Nat) 2 0 (v : Nat) = (3, (gtF u v).toInt, 0, 0) := by rw [bf, show (⟨#[62]⟩ : ByteArray).toList = [62] by decide +kernel]; rfl
theorem bf_ge (u v : Nat) : binF (⟨#[62, 61]⟩ : ByteArray).toList 2 0 (u : Nat) 2 0 (v : Nat) = (3, (gtF u v || eqF u v).toInt, 0, 0) := by rw [bf, show (⟨#[62, 61]⟩ : ByteArray).toList = [62, 61] by decide +kernel]; rfl
set_option maxRecDepth 20000 in
set_option maxHeartbeats 2000000 in
theorem isf_any (op : ByteArray) (u v : Nat) (r : Bool) (h : binF op.toList 2 0 (u : Nat) 2 0 (v : Nat) = (3, r.toInt, 0, 0)) (gx gy : Nat) (w : World) (hx : Val w gx 2 0 (u : Nat)) (hy : Val w gy 2 0 (v : Nat)) :
    Calls Try.prog 24 #[.string op, .pointer (some ⟨gx, 0, none⟩), .pointer (some ⟨gy, 0, none⟩)] w (Vb w (.bool r)) := by
  have H1 := fun w => binary_any op 2 0 (u : Nat) 2 0 (v : Nat) w
  rw [h] at H1
  clear h
  have ht : ((3 : Int) == 3 && r.toInt == 1) = r := by cases r <;> rfl
  have HT := fun w => true_any 3 r.toInt 0 w
  rw [ht] at HT
  clear ht
  obtain ⟨x0, x1, x2⟩ := hx.all.2
  obtain ⟨y0, y1, y2⟩ := hy.all.2
  go_enter Try.func24, Try.ntmps24
  go_wp2_with fail
  refine (H1 _).mono ?_
  rintro e w1 ⟨rfl, hb⟩
  have B := hide hb
  clear hb
  go_wp2_with fail
  refine (HT _).mono ?_
  rintro e w2 ⟨rfl, hb⟩
  replace B := hide (bel_trans (bel_al B.out _) hb)
  clear hb
  go_wp2_with fail
  go_ret
  exact Vb.mk rfl B.out
set_option maxRecDepth 20000 in
set_option maxHeartbeats 2000000 in
theorem floats_nan1 (u v : Nat) (nu : nanB u = true) (hE : eqF u v = false) (hL : ltF u v = false) (hG : gtF u v = false) (w : World) : Calls Try.prog 7 #[.int .u64 (u : Nat), .int .u64 (v : Nat)] w (Vb w (.bool true)) := by
  have I_eq := fun {gx gy : Nat} (w : World) (hx : Val w gx 2 0 (u : Nat)) (hy : Val w gy 2 0 (v : Nat)) => isf_any ⟨#[61, 61]⟩ u v false ((bf_eq u v).trans (by rw [hE])) gx gy w hx hy
  have I_ne := fun {gx gy : Nat} (w : World) (hx : Val w gx 2 0 (u : Nat)) (hy : Val w gy 2 0 (v : Nat)) => isf_any ⟨#[33, 61]⟩ u v true ((bf_ne u v).trans (by rw [hE]; rfl)) gx gy w hx hy
  have I_lt := fun {gx gy : Nat} (w : World) (hx : Val w gx 2 0 (u : Nat)) (hy : Val w gy 2 0 (v : Nat)) => isf_any ⟨#[60]⟩ u v false ((bf_lt u v).trans (by rw [hL])) gx gy w hx hy
  have I_le := fun {gx gy : Nat} (w : World) (hx : Val w gx 2 0 (u : Nat)) (hy : Val w gy 2 0 (v : Nat)) => isf_any ⟨#[60, 61]⟩ u v false ((bf_le u v).trans (by rw [hL, hE]; rfl)) gx gy w hx hy
  have I_gt := fun {gx gy : Nat} (w : World) (hx : Val w gx 2 0 (u : Nat)) (hy : Val w gy 2 0 (v : Nat)) => isf_any ⟨#[62]⟩ u v false ((bf_gt u v).trans (by rw [hG])) gx gy w hx hy
  have I_ge := fun {gx gy : Nat} (w : World) (hx : Val w gx 2 0 (u : Nat)) (hy : Val w gy 2 0 (v : Nat)) => isf_any ⟨#[62, 61]⟩ u v false ((bf_ge u v).trans (by rw [hG, hE]; rfl)) gx gy w hx hy
  have NU := fun w => nan_any u w
  rw [nu] at NU
  clear hE hL hG nu
  go_enter Try.func7, Try.ntmps7
  go_wp2_with fail
  refine (alive_any _).mono ?_
  rintro e w1 ⟨rfl, hb⟩
  have B := hide (bel_al (bel_al hb (.cells #[.int .i64 2, .int .i64 0, .int .u64 (u : Nat)] 24)) (.cells #[.int .i64 2, .int .i64 0, .int .u64 (v : Nat)] 24))
  clear hb
  have X := hide ((Val.new w1 2 0 (u : Nat)).al (bel_new _ (.cells #[.int .i64 2, .int .i64 0, .int .u64 (v : Nat)] 24)))
  have Y := Val.new (w1.alloc (.cells #[.int .i64 2, .int .i64 0, .int .u64 (u : Nat)] 24)) 2 0 (v : Nat)
  rw [show (w1.alloc (.cells #[.int .i64 2, .int .i64 0, .int .u64 (u : Nat)] 24)).heap.size = w1.heap.size + 1 by simp] at Y
  replace Y := hide Y
  go_wp2_with fail
  generalize (w1.alloc (.cells #[.int .i64 2, .int .i64 0, .int .u64 (u : Nat)] 24)).alloc (.cells #[.int .i64 2, .int .i64 0, .int .u64 (v : Nat)] 24) = w2 at *
  refine (I_eq _ X.out Y.out).mono ?_
  rintro e w3 ⟨rfl, hb⟩
  replace X := hide (X.out.al hb)
  replace Y := hide (Y.out.al hb)
  replace B := hide (bel_trans B.out hb)
  clear hb
  go_wp2_with fail
  refine (I_lt _ X.out Y.out).mono ?_
  rintro e w4 ⟨rfl, hb⟩
  replace X := hide (X.out.al hb)
  replace Y := hide (Y.out.al hb)
  replace B := hide (bel_trans B.out hb)
  clear hb
  go_wp2_with fail
  refine (I_gt _ X.out Y.out).mono ?_
  rintro e w5 ⟨rfl, hb⟩
  replace X := hide (X.out.al hb)
  replace Y := hide (Y.out.al hb)
  replace B := hide (bel_trans B.out hb)
  clear hb
  go_wp2_with fail
  refine (NU _).mono ?_
  rintro e w6 ⟨rfl, rfl⟩
  go_wp2_with fail
  refine (I_le _ X.out Y.out).mono ?_
  rintro e w7 ⟨rfl, hb⟩
  replace X := hide (X.out.al hb)
  replace Y := hide (Y.out.al hb)
  replace B := hide (bel_trans B.out hb)
  clear hb
  go_wp2_with fail
  refine (I_ge _ X.out Y.out).mono ?_
  rintro e w8 ⟨rfl, hb⟩
  replace X := hide (X.out.al hb)
  replace Y := hide (Y.out.al hb)
  replace B := hide (bel_trans B.out hb)
  clear hb
  go_wp2_with fail
  refine (I_ne _ X.out Y.out).mono ?_
  rintro e w9 ⟨rfl, hb⟩
  replace X := hide (X.out.al hb)
  replace Y := hide (Y.out.al hb)
  replace B := hide (bel_trans B.out hb)
  clear hb
  go_wp2_with fail
  go_ret
  exact Vb.mk rfl B.out
set_option maxRecDepth 20000 in
set_option maxHeartbeats 2000000 in
theorem floats_nan2 (u v : Nat) (nu : nanB u = false) (nv : nanB v = true) (hE : eqF u v = false) (hL : ltF u v = false) (hG : gtF u v = false) (w : World) : Calls Try.prog 7 #[.int .u64 (u : Nat), .int .u64 (v : Nat)] w (Vb w (.bool true)) := by
  have I_eq := fun {gx gy : Nat} (w : World) (hx : Val w gx 2 0 (u : Nat)) (hy : Val w gy 2 0 (v : Nat)) => isf_any ⟨#[61, 61]⟩ u v false ((bf_eq u v).trans (by rw [hE])) gx gy w hx hy
  have I_ne := fun {gx gy : Nat} (w : World) (hx : Val w gx 2 0 (u : Nat)) (hy : Val w gy 2 0 (v : Nat)) => isf_any ⟨#[33, 61]⟩ u v true ((bf_ne u v).trans (by rw [hE]; rfl)) gx gy w hx hy
  have I_lt := fun {gx gy : Nat} (w : World) (hx : Val w gx 2 0 (u : Nat)) (hy : Val w gy 2 0 (v : Nat)) => isf_any ⟨#[60]⟩ u v false ((bf_lt u v).trans (by rw [hL])) gx gy w hx hy
  have I_le := fun {gx gy : Nat} (w : World) (hx : Val w gx 2 0 (u : Nat)) (hy : Val w gy 2 0 (v : Nat)) => isf_any ⟨#[60, 61]⟩ u v false ((bf_le u v).trans (by rw [hL, hE]; rfl)) gx gy w hx hy
  have I_gt := fun {gx gy : Nat} (w : World) (hx : Val w gx 2 0 (u : Nat)) (hy : Val w gy 2 0 (v : Nat)) => isf_any ⟨#[62]⟩ u v false ((bf_gt u v).trans (by rw [hG])) gx gy w hx hy
  have I_ge := fun {gx gy : Nat} (w : World) (hx : Val w gx 2 0 (u : Nat)) (hy : Val w gy 2 0 (v : Nat)) => isf_any ⟨#[62, 61]⟩ u v false ((bf_ge u v).trans (by rw [hG, hE]; rfl)) gx gy w hx hy
  have NU := fun w => nan_any u w
  rw [nu] at NU
  have NV := fun w => nan_any v w
  rw [nv] at NV
  clear hE hL hG nu nv
  go_enter Try.func7, Try.ntmps7
  go_wp2_with fail
  refine (alive_any _).mono ?_
  rintro e w1 ⟨rfl, hb⟩
  have B := hide (bel_al (bel_al hb (.cells #[.int .i64 2, .int .i64 0, .int .u64 (u : Nat)] 24)) (.cells #[.int .i64 2, .int .i64 0, .int .u64 (v : Nat)] 24))
  clear hb
  have X := hide ((Val.new w1 2 0 (u : Nat)).al (bel_new _ (.cells #[.int .i64 2, .int .i64 0, .int .u64 (v : Nat)] 24)))
  have Y := Val.new (w1.alloc (.cells #[.int .i64 2, .int .i64 0, .int .u64 (u : Nat)] 24)) 2 0 (v : Nat)
  rw [show (w1.alloc (.cells #[.int .i64 2, .int .i64 0, .int .u64 (u : Nat)] 24)).heap.size = w1.heap.size + 1 by simp] at Y
  replace Y := hide Y
  go_wp2_with fail
  generalize (w1.alloc (.cells #[.int .i64 2, .int .i64 0, .int .u64 (u : Nat)] 24)).alloc (.cells #[.int .i64 2, .int .i64 0, .int .u64 (v : Nat)] 24) = w2 at *
  refine (I_eq _ X.out Y.out).mono ?_
  rintro e w3 ⟨rfl, hb⟩
  replace X := hide (X.out.al hb)
  replace Y := hide (Y.out.al hb)
  replace B := hide (bel_trans B.out hb)
  clear hb
  go_wp2_with fail
  refine (I_lt _ X.out Y.out).mono ?_
  rintro e w4 ⟨rfl, hb⟩
  replace X := hide (X.out.al hb)
  replace Y := hide (Y.out.al hb)
  replace B := hide (bel_trans B.out hb)
  clear hb
  go_wp2_with fail
  refine (I_gt _ X.out Y.out).mono ?_
  rintro e w5 ⟨rfl, hb⟩
  replace X := hide (X.out.al hb)
  replace Y := hide (Y.out.al hb)
  replace B := hide (bel_trans B.out hb)
  clear hb
  go_wp2_with fail
  refine (NU _).mono ?_
  rintro e w6 ⟨rfl, rfl⟩
  go_wp2_with fail
  refine (NV _).mono ?_
  rintro e w7 ⟨rfl, rfl⟩
  go_wp2_with fail
  refine (I_le _ X.out Y.out).mono ?_
  rintro e w7 ⟨rfl, hb⟩
  replace X := hide (X.out.al hb)
  replace Y := hide (Y.out.al hb)
  replace B := hide (bel_trans B.out hb)
  clear hb
  go_wp2_with fail
  refine (I_ge _ X.out Y.out).mono ?_
  rintro e w8 ⟨rfl, hb⟩
  replace X := hide (X.out.al hb)
  replace Y := hide (Y.out.al hb)
  replace B := hide (bel_trans B.out hb)
  clear hb
  go_wp2_with fail
  refine (I_ne _ X.out Y.out).mono ?_
  rintro e w9 ⟨rfl, hb⟩
  replace X := hide (X.out.al hb)
  replace Y := hide (Y.out.al hb)
  replace B := hide (bel_trans B.out hb)
  clear hb
  go_wp2_with fail
  go_ret
  exact Vb.mk rfl B.out
set_option maxRecDepth 20000 in
set_option maxHeartbeats 2000000 in
theorem floats_lt1 (u v : Nat) (nu : nanB u = false) (nv : nanB v = false) (hE : eqF u v = false) (hL : ltF u v = true) (hG : gtF u v = false) (hz : (IntKind.u64.wrap ((u : Int) * 2) == 0) = true) (hy : (IntKind.u64.wrap ((v : Int) * 2) == 0) = false) (hq : ((u : Int) == (v : Int)) = false) (w : World) : Calls Try.prog 7 #[.int .u64 (u : Nat), .int .u64 (v : Nat)] w (Vb w (.bool true)) := by
  have I_eq := fun {gx gy : Nat} (w : World) (hx : Val w gx 2 0 (u : Nat)) (hy : Val w gy 2 0 (v : Nat)) => isf_any ⟨#[61, 61]⟩ u v false ((bf_eq u v).trans (by rw [hE])) gx gy w hx hy
  have I_ne := fun {gx gy : Nat} (w : World) (hx : Val w gx 2 0 (u : Nat)) (hy : Val w gy 2 0 (v : Nat)) => isf_any ⟨#[33, 61]⟩ u v true ((bf_ne u v).trans (by rw [hE]; rfl)) gx gy w hx hy
  have I_lt := fun {gx gy : Nat} (w : World) (hx : Val w gx 2 0 (u : Nat)) (hy : Val w gy 2 0 (v : Nat)) => isf_any ⟨#[60]⟩ u v true ((bf_lt u v).trans (by rw [hL])) gx gy w hx hy
  have I_le := fun {gx gy : Nat} (w : World) (hx : Val w gx 2 0 (u : Nat)) (hy : Val w gy 2 0 (v : Nat)) => isf_any ⟨#[60, 61]⟩ u v true ((bf_le u v).trans (by rw [hL, hE]; rfl)) gx gy w hx hy
  have I_gt := fun {gx gy : Nat} (w : World) (hx : Val w gx 2 0 (u : Nat)) (hy : Val w gy 2 0 (v : Nat)) => isf_any ⟨#[62]⟩ u v false ((bf_gt u v).trans (by rw [hG])) gx gy w hx hy
  have I_ge := fun {gx gy : Nat} (w : World) (hx : Val w gx 2 0 (u : Nat)) (hy : Val w gy 2 0 (v : Nat)) => isf_any ⟨#[62, 61]⟩ u v false ((bf_ge u v).trans (by rw [hG, hE]; rfl)) gx gy w hx hy
  have NU := fun w => nan_any u w
  rw [nu] at NU
  have NV := fun w => nan_any v w
  rw [nv] at NV
  clear hE hL hG nu nv
  go_enter Try.func7, Try.ntmps7
  go_wp2_with fail
  refine (alive_any _).mono ?_
  rintro e w1 ⟨rfl, hb⟩
  have B := hide (bel_al (bel_al hb (.cells #[.int .i64 2, .int .i64 0, .int .u64 (u : Nat)] 24)) (.cells #[.int .i64 2, .int .i64 0, .int .u64 (v : Nat)] 24))
  clear hb
  have X := hide ((Val.new w1 2 0 (u : Nat)).al (bel_new _ (.cells #[.int .i64 2, .int .i64 0, .int .u64 (v : Nat)] 24)))
  have Y := Val.new (w1.alloc (.cells #[.int .i64 2, .int .i64 0, .int .u64 (u : Nat)] 24)) 2 0 (v : Nat)
  rw [show (w1.alloc (.cells #[.int .i64 2, .int .i64 0, .int .u64 (u : Nat)] 24)).heap.size = w1.heap.size + 1 by simp] at Y
  replace Y := hide Y
  go_wp2_with fail
  generalize (w1.alloc (.cells #[.int .i64 2, .int .i64 0, .int .u64 (u : Nat)] 24)).alloc (.cells #[.int .i64 2, .int .i64 0, .int .u64 (v : Nat)] 24) = w2 at *
  refine (I_eq _ X.out Y.out).mono ?_
  rintro e w3 ⟨rfl, hb⟩
  replace X := hide (X.out.al hb)
  replace Y := hide (Y.out.al hb)
  replace B := hide (bel_trans B.out hb)
  clear hb
  go_wp2_with fail
  refine (I_lt _ X.out Y.out).mono ?_
  rintro e w4 ⟨rfl, hb⟩
  replace X := hide (X.out.al hb)
  replace Y := hide (Y.out.al hb)
  replace B := hide (bel_trans B.out hb)
  clear hb
  go_wp2_with fail
  refine (I_gt _ X.out Y.out).mono ?_
  rintro e w5 ⟨rfl, hb⟩
  replace X := hide (X.out.al hb)
  replace Y := hide (Y.out.al hb)
  replace B := hide (bel_trans B.out hb)
  clear hb
  go_wp2_with fail
  refine (NU _).mono ?_
  rintro e w6 ⟨rfl, rfl⟩
  go_wp2_with fail
  refine (NV _).mono ?_
  rintro e w7 ⟨rfl, rfl⟩
  go_wp2_with fail
  refine wp_loop_rounds 4 ?_
  rw [rounds_succ]
  go_wp2_with fail
  rw [rounds_succ]
  go_wp2_with fail
  rw [rounds_succ]
  go_wp2_with fail
  rw [rounds_succ]
  go_wp2_with fail
  replace X := hide (X.out.al (bel_new w5 (.cells #[.bool false, .bool true, .bool false] 4)))
  replace Y := hide (Y.out.al (bel_new w5 (.cells #[.bool false, .bool true, .bool false] 4)))
  replace B := hide (bel_al B.out (.cells #[.bool false, .bool true, .bool false] 4))
  generalize w5.alloc (.cells #[.bool false, .bool true, .bool false] 4) = w6 at *
  refine (I_le _ X.out Y.out).mono ?_
  rintro e w7 ⟨rfl, hb⟩
  replace X := hide (X.out.al hb)
  replace Y := hide (Y.out.al hb)
  replace B := hide (bel_trans B.out hb)
  clear hb
  go_wp2_with fail
  refine (I_ge _ X.out Y.out).mono ?_
  rintro e w8 ⟨rfl, hb⟩
  replace X := hide (X.out.al hb)
  replace Y := hide (Y.out.al hb)
  replace B := hide (bel_trans B.out hb)
  clear hb
  go_wp2_with fail
  refine (I_ne _ X.out Y.out).mono ?_
  rintro e w9 ⟨rfl, hb⟩
  replace X := hide (X.out.al hb)
  replace Y := hide (Y.out.al hb)
  replace B := hide (bel_trans B.out hb)
  clear hb
  go_wp2_with fail
  go_ret
  exact Vb.mk rfl B.out
set_option maxRecDepth 20000 in
set_option maxHeartbeats 2000000 in
theorem floats_lt2 (u v : Nat) (nu : nanB u = false) (nv : nanB v = false) (hE : eqF u v = false) (hL : ltF u v = true) (hG : gtF u v = false) (hz : (IntKind.u64.wrap ((u : Int) * 2) == 0) = false) (hq : ((u : Int) == (v : Int)) = false) (w : World) : Calls Try.prog 7 #[.int .u64 (u : Nat), .int .u64 (v : Nat)] w (Vb w (.bool true)) := by
  have I_eq := fun {gx gy : Nat} (w : World) (hx : Val w gx 2 0 (u : Nat)) (hy : Val w gy 2 0 (v : Nat)) => isf_any ⟨#[61, 61]⟩ u v false ((bf_eq u v).trans (by rw [hE])) gx gy w hx hy
  have I_ne := fun {gx gy : Nat} (w : World) (hx : Val w gx 2 0 (u : Nat)) (hy : Val w gy 2 0 (v : Nat)) => isf_any ⟨#[33, 61]⟩ u v true ((bf_ne u v).trans (by rw [hE]; rfl)) gx gy w hx hy
  have I_lt := fun {gx gy : Nat} (w : World) (hx : Val w gx 2 0 (u : Nat)) (hy : Val w gy 2 0 (v : Nat)) => isf_any ⟨#[60]⟩ u v true ((bf_lt u v).trans (by rw [hL])) gx gy w hx hy
  have I_le := fun {gx gy : Nat} (w : World) (hx : Val w gx 2 0 (u : Nat)) (hy : Val w gy 2 0 (v : Nat)) => isf_any ⟨#[60, 61]⟩ u v true ((bf_le u v).trans (by rw [hL, hE]; rfl)) gx gy w hx hy
  have I_gt := fun {gx gy : Nat} (w : World) (hx : Val w gx 2 0 (u : Nat)) (hy : Val w gy 2 0 (v : Nat)) => isf_any ⟨#[62]⟩ u v false ((bf_gt u v).trans (by rw [hG])) gx gy w hx hy
  have I_ge := fun {gx gy : Nat} (w : World) (hx : Val w gx 2 0 (u : Nat)) (hy : Val w gy 2 0 (v : Nat)) => isf_any ⟨#[62, 61]⟩ u v false ((bf_ge u v).trans (by rw [hG, hE]; rfl)) gx gy w hx hy
  have NU := fun w => nan_any u w
  rw [nu] at NU
  have NV := fun w => nan_any v w
  rw [nv] at NV
  clear hE hL hG nu nv
  go_enter Try.func7, Try.ntmps7
  go_wp2_with fail
  refine (alive_any _).mono ?_
  rintro e w1 ⟨rfl, hb⟩
  have B := hide (bel_al (bel_al hb (.cells #[.int .i64 2, .int .i64 0, .int .u64 (u : Nat)] 24)) (.cells #[.int .i64 2, .int .i64 0, .int .u64 (v : Nat)] 24))
  clear hb
  have X := hide ((Val.new w1 2 0 (u : Nat)).al (bel_new _ (.cells #[.int .i64 2, .int .i64 0, .int .u64 (v : Nat)] 24)))
  have Y := Val.new (w1.alloc (.cells #[.int .i64 2, .int .i64 0, .int .u64 (u : Nat)] 24)) 2 0 (v : Nat)
  rw [show (w1.alloc (.cells #[.int .i64 2, .int .i64 0, .int .u64 (u : Nat)] 24)).heap.size = w1.heap.size + 1 by simp] at Y
  replace Y := hide Y
  go_wp2_with fail
  generalize (w1.alloc (.cells #[.int .i64 2, .int .i64 0, .int .u64 (u : Nat)] 24)).alloc (.cells #[.int .i64 2, .int .i64 0, .int .u64 (v : Nat)] 24) = w2 at *
  refine (I_eq _ X.out Y.out).mono ?_
  rintro e w3 ⟨rfl, hb⟩
  replace X := hide (X.out.al hb)
  replace Y := hide (Y.out.al hb)
  replace B := hide (bel_trans B.out hb)
  clear hb
  go_wp2_with fail
  refine (I_lt _ X.out Y.out).mono ?_
  rintro e w4 ⟨rfl, hb⟩
  replace X := hide (X.out.al hb)
  replace Y := hide (Y.out.al hb)
  replace B := hide (bel_trans B.out hb)
  clear hb
  go_wp2_with fail
  refine (I_gt _ X.out Y.out).mono ?_
  rintro e w5 ⟨rfl, hb⟩
  replace X := hide (X.out.al hb)
  replace Y := hide (Y.out.al hb)
  replace B := hide (bel_trans B.out hb)
  clear hb
  go_wp2_with fail
  refine (NU _).mono ?_
  rintro e w6 ⟨rfl, rfl⟩
  go_wp2_with fail
  refine (NV _).mono ?_
  rintro e w7 ⟨rfl, rfl⟩
  go_wp2_with fail
  refine wp_loop_rounds 4 ?_
  rw [rounds_succ]
  go_wp2_with fail
  rw [rounds_succ]
  go_wp2_with fail
  rw [rounds_succ]
  go_wp2_with fail
  rw [rounds_succ]
  go_wp2_with fail
  replace X := hide (X.out.al (bel_new w5 (.cells #[.bool false, .bool true, .bool false] 4)))
  replace Y := hide (Y.out.al (bel_new w5 (.cells #[.bool false, .bool true, .bool false] 4)))
  replace B := hide (bel_al B.out (.cells #[.bool false, .bool true, .bool false] 4))
  generalize w5.alloc (.cells #[.bool false, .bool true, .bool false] 4) = w6 at *
  refine (I_le _ X.out Y.out).mono ?_
  rintro e w7 ⟨rfl, hb⟩
  replace X := hide (X.out.al hb)
  replace Y := hide (Y.out.al hb)
  replace B := hide (bel_trans B.out hb)
  clear hb
  go_wp2_with fail
  refine (I_ge _ X.out Y.out).mono ?_
  rintro e w8 ⟨rfl, hb⟩
  replace X := hide (X.out.al hb)
  replace Y := hide (Y.out.al hb)
  replace B := hide (bel_trans B.out hb)
  clear hb
  go_wp2_with fail
  refine (I_ne _ X.out Y.out).mono ?_
  rintro e w9 ⟨rfl, hb⟩
  replace X := hide (X.out.al hb)
  replace Y := hide (Y.out.al hb)
  replace B := hide (bel_trans B.out hb)
  clear hb
  go_wp2_with fail
  go_ret
  exact Vb.mk rfl B.out
set_option maxRecDepth 20000 in
set_option maxHeartbeats 2000000 in
theorem floats_gt1 (u v : Nat) (nu : nanB u = false) (nv : nanB v = false) (hE : eqF u v = false) (hL : ltF u v = false) (hG : gtF u v = true) (hz : (IntKind.u64.wrap ((u : Int) * 2) == 0) = true) (hy : (IntKind.u64.wrap ((v : Int) * 2) == 0) = false) (hq : ((u : Int) == (v : Int)) = false) (w : World) : Calls Try.prog 7 #[.int .u64 (u : Nat), .int .u64 (v : Nat)] w (Vb w (.bool true)) := by
  have I_eq := fun {gx gy : Nat} (w : World) (hx : Val w gx 2 0 (u : Nat)) (hy : Val w gy 2 0 (v : Nat)) => isf_any ⟨#[61, 61]⟩ u v false ((bf_eq u v).trans (by rw [hE])) gx gy w hx hy
  have I_ne := fun {gx gy : Nat} (w : World) (hx : Val w gx 2 0 (u : Nat)) (hy : Val w gy 2 0 (v : Nat)) => isf_any ⟨#[33, 61]⟩ u v true ((bf_ne u v).trans (by rw [hE]; rfl)) gx gy w hx hy
  have I_lt := fun {gx gy : Nat} (w : World) (hx : Val w gx 2 0 (u : Nat)) (hy : Val w gy 2 0 (v : Nat)) => isf_any ⟨#[60]⟩ u v false ((bf_lt u v).trans (by rw [hL])) gx gy w hx hy
  have I_le := fun {gx gy : Nat} (w : World) (hx : Val w gx 2 0 (u : Nat)) (hy : Val w gy 2 0 (v : Nat)) => isf_any ⟨#[60, 61]⟩ u v false ((bf_le u v).trans (by rw [hL, hE]; rfl)) gx gy w hx hy
  have I_gt := fun {gx gy : Nat} (w : World) (hx : Val w gx 2 0 (u : Nat)) (hy : Val w gy 2 0 (v : Nat)) => isf_any ⟨#[62]⟩ u v true ((bf_gt u v).trans (by rw [hG])) gx gy w hx hy
  have I_ge := fun {gx gy : Nat} (w : World) (hx : Val w gx 2 0 (u : Nat)) (hy : Val w gy 2 0 (v : Nat)) => isf_any ⟨#[62, 61]⟩ u v true ((bf_ge u v).trans (by rw [hG, hE]; rfl)) gx gy w hx hy
  have NU := fun w => nan_any u w
  rw [nu] at NU
  have NV := fun w => nan_any v w
  rw [nv] at NV
  clear hE hL hG nu nv
  go_enter Try.func7, Try.ntmps7
  go_wp2_with fail
  refine (alive_any _).mono ?_
  rintro e w1 ⟨rfl, hb⟩
  have B := hide (bel_al (bel_al hb (.cells #[.int .i64 2, .int .i64 0, .int .u64 (u : Nat)] 24)) (.cells #[.int .i64 2, .int .i64 0, .int .u64 (v : Nat)] 24))
  clear hb
  have X := hide ((Val.new w1 2 0 (u : Nat)).al (bel_new _ (.cells #[.int .i64 2, .int .i64 0, .int .u64 (v : Nat)] 24)))
  have Y := Val.new (w1.alloc (.cells #[.int .i64 2, .int .i64 0, .int .u64 (u : Nat)] 24)) 2 0 (v : Nat)
  rw [show (w1.alloc (.cells #[.int .i64 2, .int .i64 0, .int .u64 (u : Nat)] 24)).heap.size = w1.heap.size + 1 by simp] at Y
  replace Y := hide Y
  go_wp2_with fail
  generalize (w1.alloc (.cells #[.int .i64 2, .int .i64 0, .int .u64 (u : Nat)] 24)).alloc (.cells #[.int .i64 2, .int .i64 0, .int .u64 (v : Nat)] 24) = w2 at *
  refine (I_eq _ X.out Y.out).mono ?_
  rintro e w3 ⟨rfl, hb⟩
  replace X := hide (X.out.al hb)
  replace Y := hide (Y.out.al hb)
  replace B := hide (bel_trans B.out hb)
  clear hb
  go_wp2_with fail
  refine (I_lt _ X.out Y.out).mono ?_
  rintro e w4 ⟨rfl, hb⟩
  replace X := hide (X.out.al hb)
  replace Y := hide (Y.out.al hb)
  replace B := hide (bel_trans B.out hb)
  clear hb
  go_wp2_with fail
  refine (I_gt _ X.out Y.out).mono ?_
  rintro e w5 ⟨rfl, hb⟩
  replace X := hide (X.out.al hb)
  replace Y := hide (Y.out.al hb)
  replace B := hide (bel_trans B.out hb)
  clear hb
  go_wp2_with fail
  refine (NU _).mono ?_
  rintro e w6 ⟨rfl, rfl⟩
  go_wp2_with fail
  refine (NV _).mono ?_
  rintro e w7 ⟨rfl, rfl⟩
  go_wp2_with fail
  refine wp_loop_rounds 4 ?_
  rw [rounds_succ]
  go_wp2_with fail
  rw [rounds_succ]
  go_wp2_with fail
  rw [rounds_succ]
  go_wp2_with fail
  rw [rounds_succ]
  go_wp2_with fail
  replace X := hide (X.out.al (bel_new w5 (.cells #[.bool false, .bool false, .bool true] 4)))
  replace Y := hide (Y.out.al (bel_new w5 (.cells #[.bool false, .bool false, .bool true] 4)))
  replace B := hide (bel_al B.out (.cells #[.bool false, .bool false, .bool true] 4))
  generalize w5.alloc (.cells #[.bool false, .bool false, .bool true] 4) = w6 at *
  refine (I_le _ X.out Y.out).mono ?_
  rintro e w7 ⟨rfl, hb⟩
  replace X := hide (X.out.al hb)
  replace Y := hide (Y.out.al hb)
  replace B := hide (bel_trans B.out hb)
  clear hb
  go_wp2_with fail
  refine (I_ge _ X.out Y.out).mono ?_
  rintro e w8 ⟨rfl, hb⟩
  replace X := hide (X.out.al hb)
  replace Y := hide (Y.out.al hb)
  replace B := hide (bel_trans B.out hb)
  clear hb
  go_wp2_with fail
  refine (I_ne _ X.out Y.out).mono ?_
  rintro e w9 ⟨rfl, hb⟩
  replace X := hide (X.out.al hb)
  replace Y := hide (Y.out.al hb)
  replace B := hide (bel_trans B.out hb)
  clear hb
  go_wp2_with fail
  go_ret
  exact Vb.mk rfl B.out
set_option maxRecDepth 20000 in
set_option maxHeartbeats 2000000 in
theorem floats_gt2 (u v : Nat) (nu : nanB u = false) (nv : nanB v = false) (hE : eqF u v = false) (hL : ltF u v = false) (hG : gtF u v = true) (hz : (IntKind.u64.wrap ((u : Int) * 2) == 0) = false) (hq : ((u : Int) == (v : Int)) = false) (w : World) : Calls Try.prog 7 #[.int .u64 (u : Nat), .int .u64 (v : Nat)] w (Vb w (.bool true)) := by
  have I_eq := fun {gx gy : Nat} (w : World) (hx : Val w gx 2 0 (u : Nat)) (hy : Val w gy 2 0 (v : Nat)) => isf_any ⟨#[61, 61]⟩ u v false ((bf_eq u v).trans (by rw [hE])) gx gy w hx hy
  have I_ne := fun {gx gy : Nat} (w : World) (hx : Val w gx 2 0 (u : Nat)) (hy : Val w gy 2 0 (v : Nat)) => isf_any ⟨#[33, 61]⟩ u v true ((bf_ne u v).trans (by rw [hE]; rfl)) gx gy w hx hy
  have I_lt := fun {gx gy : Nat} (w : World) (hx : Val w gx 2 0 (u : Nat)) (hy : Val w gy 2 0 (v : Nat)) => isf_any ⟨#[60]⟩ u v false ((bf_lt u v).trans (by rw [hL])) gx gy w hx hy
  have I_le := fun {gx gy : Nat} (w : World) (hx : Val w gx 2 0 (u : Nat)) (hy : Val w gy 2 0 (v : Nat)) => isf_any ⟨#[60, 61]⟩ u v false ((bf_le u v).trans (by rw [hL, hE]; rfl)) gx gy w hx hy
  have I_gt := fun {gx gy : Nat} (w : World) (hx : Val w gx 2 0 (u : Nat)) (hy : Val w gy 2 0 (v : Nat)) => isf_any ⟨#[62]⟩ u v true ((bf_gt u v).trans (by rw [hG])) gx gy w hx hy
  have I_ge := fun {gx gy : Nat} (w : World) (hx : Val w gx 2 0 (u : Nat)) (hy : Val w gy 2 0 (v : Nat)) => isf_any ⟨#[62, 61]⟩ u v true ((bf_ge u v).trans (by rw [hG, hE]; rfl)) gx gy w hx hy
  have NU := fun w => nan_any u w
  rw [nu] at NU
  have NV := fun w => nan_any v w
  rw [nv] at NV
  clear hE hL hG nu nv
  go_enter Try.func7, Try.ntmps7
  go_wp2_with fail
  refine (alive_any _).mono ?_
  rintro e w1 ⟨rfl, hb⟩
  have B := hide (bel_al (bel_al hb (.cells #[.int .i64 2, .int .i64 0, .int .u64 (u : Nat)] 24)) (.cells #[.int .i64 2, .int .i64 0, .int .u64 (v : Nat)] 24))
  clear hb
  have X := hide ((Val.new w1 2 0 (u : Nat)).al (bel_new _ (.cells #[.int .i64 2, .int .i64 0, .int .u64 (v : Nat)] 24)))
  have Y := Val.new (w1.alloc (.cells #[.int .i64 2, .int .i64 0, .int .u64 (u : Nat)] 24)) 2 0 (v : Nat)
  rw [show (w1.alloc (.cells #[.int .i64 2, .int .i64 0, .int .u64 (u : Nat)] 24)).heap.size = w1.heap.size + 1 by simp] at Y
  replace Y := hide Y
  go_wp2_with fail
  generalize (w1.alloc (.cells #[.int .i64 2, .int .i64 0, .int .u64 (u : Nat)] 24)).alloc (.cells #[.int .i64 2, .int .i64 0, .int .u64 (v : Nat)] 24) = w2 at *
  refine (I_eq _ X.out Y.out).mono ?_
  rintro e w3 ⟨rfl, hb⟩
  replace X := hide (X.out.al hb)
  replace Y := hide (Y.out.al hb)
  replace B := hide (bel_trans B.out hb)
  clear hb
  go_wp2_with fail
  refine (I_lt _ X.out Y.out).mono ?_
  rintro e w4 ⟨rfl, hb⟩
  replace X := hide (X.out.al hb)
  replace Y := hide (Y.out.al hb)
  replace B := hide (bel_trans B.out hb)
  clear hb
  go_wp2_with fail
  refine (I_gt _ X.out Y.out).mono ?_
  rintro e w5 ⟨rfl, hb⟩
  replace X := hide (X.out.al hb)
  replace Y := hide (Y.out.al hb)
  replace B := hide (bel_trans B.out hb)
  clear hb
  go_wp2_with fail
  refine (NU _).mono ?_
  rintro e w6 ⟨rfl, rfl⟩
  go_wp2_with fail
  refine (NV _).mono ?_
  rintro e w7 ⟨rfl, rfl⟩
  go_wp2_with fail
  refine wp_loop_rounds 4 ?_
  rw [rounds_succ]
  go_wp2_with fail
  rw [rounds_succ]
  go_wp2_with fail
  rw [rounds_succ]
  go_wp2_with fail
  rw [rounds_succ]
  go_wp2_with fail
  replace X := hide (X.out.al (bel_new w5 (.cells #[.bool false, .bool false, .bool true] 4)))
  replace Y := hide (Y.out.al (bel_new w5 (.cells #[.bool false, .bool false, .bool true] 4)))
  replace B := hide (bel_al B.out (.cells #[.bool false, .bool false, .bool true] 4))
  generalize w5.alloc (.cells #[.bool false, .bool false, .bool true] 4) = w6 at *
  refine (I_le _ X.out Y.out).mono ?_
  rintro e w7 ⟨rfl, hb⟩
  replace X := hide (X.out.al hb)
  replace Y := hide (Y.out.al hb)
  replace B := hide (bel_trans B.out hb)
  clear hb
  go_wp2_with fail
  refine (I_ge _ X.out Y.out).mono ?_
  rintro e w8 ⟨rfl, hb⟩
  replace X := hide (X.out.al hb)
  replace Y := hide (Y.out.al hb)
  replace B := hide (bel_trans B.out hb)
  clear hb
  go_wp2_with fail
  refine (I_ne _ X.out Y.out).mono ?_
  rintro e w9 ⟨rfl, hb⟩
  replace X := hide (X.out.al hb)
  replace Y := hide (Y.out.al hb)
  replace B := hide (bel_trans B.out hb)
  clear hb
  go_wp2_with fail
  go_ret
  exact Vb.mk rfl B.out
set_option maxRecDepth 20000 in
set_option maxHeartbeats 2000000 in
theorem floats_eq1 (u v : Nat) (nu : nanB u = false) (nv : nanB v = false) (hE : eqF u v = true) (hL : ltF u v = false) (hG : gtF u v = false) (hz : (IntKind.u64.wrap ((u : Int) * 2) == 0) = true) (hy : (IntKind.u64.wrap ((v : Int) * 2) == 0) = true) (hq : ((u : Int) == (v : Int)) = false) (w : World) : Calls Try.prog 7 #[.int .u64 (u : Nat), .int .u64 (v : Nat)] w (Vb w (.bool true)) := by
  have I_eq := fun {gx gy : Nat} (w : World) (hx : Val w gx 2 0 (u : Nat)) (hy : Val w gy 2 0 (v : Nat)) => isf_any ⟨#[61, 61]⟩ u v true ((bf_eq u v).trans (by rw [hE])) gx gy w hx hy
  have I_ne := fun {gx gy : Nat} (w : World) (hx : Val w gx 2 0 (u : Nat)) (hy : Val w gy 2 0 (v : Nat)) => isf_any ⟨#[33, 61]⟩ u v false ((bf_ne u v).trans (by rw [hE]; rfl)) gx gy w hx hy
  have I_lt := fun {gx gy : Nat} (w : World) (hx : Val w gx 2 0 (u : Nat)) (hy : Val w gy 2 0 (v : Nat)) => isf_any ⟨#[60]⟩ u v false ((bf_lt u v).trans (by rw [hL])) gx gy w hx hy
  have I_le := fun {gx gy : Nat} (w : World) (hx : Val w gx 2 0 (u : Nat)) (hy : Val w gy 2 0 (v : Nat)) => isf_any ⟨#[60, 61]⟩ u v true ((bf_le u v).trans (by rw [hL, hE]; rfl)) gx gy w hx hy
  have I_gt := fun {gx gy : Nat} (w : World) (hx : Val w gx 2 0 (u : Nat)) (hy : Val w gy 2 0 (v : Nat)) => isf_any ⟨#[62]⟩ u v false ((bf_gt u v).trans (by rw [hG])) gx gy w hx hy
  have I_ge := fun {gx gy : Nat} (w : World) (hx : Val w gx 2 0 (u : Nat)) (hy : Val w gy 2 0 (v : Nat)) => isf_any ⟨#[62, 61]⟩ u v true ((bf_ge u v).trans (by rw [hG, hE]; rfl)) gx gy w hx hy
  have NU := fun w => nan_any u w
  rw [nu] at NU
  have NV := fun w => nan_any v w
  rw [nv] at NV
  clear hE hL hG nu nv
  go_enter Try.func7, Try.ntmps7
  go_wp2_with fail
  refine (alive_any _).mono ?_
  rintro e w1 ⟨rfl, hb⟩
  have B := hide (bel_al (bel_al hb (.cells #[.int .i64 2, .int .i64 0, .int .u64 (u : Nat)] 24)) (.cells #[.int .i64 2, .int .i64 0, .int .u64 (v : Nat)] 24))
  clear hb
  have X := hide ((Val.new w1 2 0 (u : Nat)).al (bel_new _ (.cells #[.int .i64 2, .int .i64 0, .int .u64 (v : Nat)] 24)))
  have Y := Val.new (w1.alloc (.cells #[.int .i64 2, .int .i64 0, .int .u64 (u : Nat)] 24)) 2 0 (v : Nat)
  rw [show (w1.alloc (.cells #[.int .i64 2, .int .i64 0, .int .u64 (u : Nat)] 24)).heap.size = w1.heap.size + 1 by simp] at Y
  replace Y := hide Y
  go_wp2_with fail
  generalize (w1.alloc (.cells #[.int .i64 2, .int .i64 0, .int .u64 (u : Nat)] 24)).alloc (.cells #[.int .i64 2, .int .i64 0, .int .u64 (v : Nat)] 24) = w2 at *
  refine (I_eq _ X.out Y.out).mono ?_
  rintro e w3 ⟨rfl, hb⟩
  replace X := hide (X.out.al hb)
  replace Y := hide (Y.out.al hb)
  replace B := hide (bel_trans B.out hb)
  clear hb
  go_wp2_with fail
  refine (I_lt _ X.out Y.out).mono ?_
  rintro e w4 ⟨rfl, hb⟩
  replace X := hide (X.out.al hb)
  replace Y := hide (Y.out.al hb)
  replace B := hide (bel_trans B.out hb)
  clear hb
  go_wp2_with fail
  refine (I_gt _ X.out Y.out).mono ?_
  rintro e w5 ⟨rfl, hb⟩
  replace X := hide (X.out.al hb)
  replace Y := hide (Y.out.al hb)
  replace B := hide (bel_trans B.out hb)
  clear hb
  go_wp2_with fail
  refine (NU _).mono ?_
  rintro e w6 ⟨rfl, rfl⟩
  go_wp2_with fail
  refine (NV _).mono ?_
  rintro e w7 ⟨rfl, rfl⟩
  go_wp2_with fail
  refine wp_loop_rounds 4 ?_
  rw [rounds_succ]
  go_wp2_with fail
  rw [rounds_succ]
  go_wp2_with fail
  rw [rounds_succ]
  go_wp2_with fail
  rw [rounds_succ]
  go_wp2_with fail
  replace X := hide (X.out.al (bel_new w5 (.cells #[.bool true, .bool false, .bool false] 4)))
  replace Y := hide (Y.out.al (bel_new w5 (.cells #[.bool true, .bool false, .bool false] 4)))
  replace B := hide (bel_al B.out (.cells #[.bool true, .bool false, .bool false] 4))
  generalize w5.alloc (.cells #[.bool true, .bool false, .bool false] 4) = w6 at *
  refine (I_le _ X.out Y.out).mono ?_
  rintro e w7 ⟨rfl, hb⟩
  replace X := hide (X.out.al hb)
  replace Y := hide (Y.out.al hb)
  replace B := hide (bel_trans B.out hb)
  clear hb
  go_wp2_with fail
  refine (I_ge _ X.out Y.out).mono ?_
  rintro e w8 ⟨rfl, hb⟩
  replace X := hide (X.out.al hb)
  replace Y := hide (Y.out.al hb)
  replace B := hide (bel_trans B.out hb)
  clear hb
  go_wp2_with fail
  refine (I_ne _ X.out Y.out).mono ?_
  rintro e w9 ⟨rfl, hb⟩
  replace X := hide (X.out.al hb)
  replace Y := hide (Y.out.al hb)
  replace B := hide (bel_trans B.out hb)
  clear hb
  go_wp2_with fail
  go_ret
  exact Vb.mk rfl B.out
set_option maxRecDepth 20000 in
set_option maxHeartbeats 2000000 in
theorem floats_eq2 (u v : Nat) (nu : nanB u = false) (nv : nanB v = false) (hE : eqF u v = true) (hL : ltF u v = false) (hG : gtF u v = false) (hz : (IntKind.u64.wrap ((u : Int) * 2) == 0) = true) (hy : (IntKind.u64.wrap ((v : Int) * 2) == 0) = true) (hq : ((u : Int) == (v : Int)) = true) (w : World) : Calls Try.prog 7 #[.int .u64 (u : Nat), .int .u64 (v : Nat)] w (Vb w (.bool true)) := by
  have I_eq := fun {gx gy : Nat} (w : World) (hx : Val w gx 2 0 (u : Nat)) (hy : Val w gy 2 0 (v : Nat)) => isf_any ⟨#[61, 61]⟩ u v true ((bf_eq u v).trans (by rw [hE])) gx gy w hx hy
  have I_ne := fun {gx gy : Nat} (w : World) (hx : Val w gx 2 0 (u : Nat)) (hy : Val w gy 2 0 (v : Nat)) => isf_any ⟨#[33, 61]⟩ u v false ((bf_ne u v).trans (by rw [hE]; rfl)) gx gy w hx hy
  have I_lt := fun {gx gy : Nat} (w : World) (hx : Val w gx 2 0 (u : Nat)) (hy : Val w gy 2 0 (v : Nat)) => isf_any ⟨#[60]⟩ u v false ((bf_lt u v).trans (by rw [hL])) gx gy w hx hy
  have I_le := fun {gx gy : Nat} (w : World) (hx : Val w gx 2 0 (u : Nat)) (hy : Val w gy 2 0 (v : Nat)) => isf_any ⟨#[60, 61]⟩ u v true ((bf_le u v).trans (by rw [hL, hE]; rfl)) gx gy w hx hy
  have I_gt := fun {gx gy : Nat} (w : World) (hx : Val w gx 2 0 (u : Nat)) (hy : Val w gy 2 0 (v : Nat)) => isf_any ⟨#[62]⟩ u v false ((bf_gt u v).trans (by rw [hG])) gx gy w hx hy
  have I_ge := fun {gx gy : Nat} (w : World) (hx : Val w gx 2 0 (u : Nat)) (hy : Val w gy 2 0 (v : Nat)) => isf_any ⟨#[62, 61]⟩ u v true ((bf_ge u v).trans (by rw [hG, hE]; rfl)) gx gy w hx hy
  have NU := fun w => nan_any u w
  rw [nu] at NU
  have NV := fun w => nan_any v w
  rw [nv] at NV
  clear hE hL hG nu nv
  go_enter Try.func7, Try.ntmps7
  go_wp2_with fail
  refine (alive_any _).mono ?_
  rintro e w1 ⟨rfl, hb⟩
  have B := hide (bel_al (bel_al hb (.cells #[.int .i64 2, .int .i64 0, .int .u64 (u : Nat)] 24)) (.cells #[.int .i64 2, .int .i64 0, .int .u64 (v : Nat)] 24))
  clear hb
  have X := hide ((Val.new w1 2 0 (u : Nat)).al (bel_new _ (.cells #[.int .i64 2, .int .i64 0, .int .u64 (v : Nat)] 24)))
  have Y := Val.new (w1.alloc (.cells #[.int .i64 2, .int .i64 0, .int .u64 (u : Nat)] 24)) 2 0 (v : Nat)
  rw [show (w1.alloc (.cells #[.int .i64 2, .int .i64 0, .int .u64 (u : Nat)] 24)).heap.size = w1.heap.size + 1 by simp] at Y
  replace Y := hide Y
  go_wp2_with fail
  generalize (w1.alloc (.cells #[.int .i64 2, .int .i64 0, .int .u64 (u : Nat)] 24)).alloc (.cells #[.int .i64 2, .int .i64 0, .int .u64 (v : Nat)] 24) = w2 at *
  refine (I_eq _ X.out Y.out).mono ?_
  rintro e w3 ⟨rfl, hb⟩
  replace X := hide (X.out.al hb)
  replace Y := hide (Y.out.al hb)
  replace B := hide (bel_trans B.out hb)
  clear hb
  go_wp2_with fail
  refine (I_lt _ X.out Y.out).mono ?_
  rintro e w4 ⟨rfl, hb⟩
  replace X := hide (X.out.al hb)
  replace Y := hide (Y.out.al hb)
  replace B := hide (bel_trans B.out hb)
  clear hb
  go_wp2_with fail
  refine (I_gt _ X.out Y.out).mono ?_
  rintro e w5 ⟨rfl, hb⟩
  replace X := hide (X.out.al hb)
  replace Y := hide (Y.out.al hb)
  replace B := hide (bel_trans B.out hb)
  clear hb
  go_wp2_with fail
  refine (NU _).mono ?_
  rintro e w6 ⟨rfl, rfl⟩
  go_wp2_with fail
  refine (NV _).mono ?_
  rintro e w7 ⟨rfl, rfl⟩
  go_wp2_with fail
  refine wp_loop_rounds 4 ?_
  rw [rounds_succ]
  go_wp2_with fail
  rw [rounds_succ]
  go_wp2_with fail
  rw [rounds_succ]
  go_wp2_with fail
  rw [rounds_succ]
  go_wp2_with fail
  replace X := hide (X.out.al (bel_new w5 (.cells #[.bool true, .bool false, .bool false] 4)))
  replace Y := hide (Y.out.al (bel_new w5 (.cells #[.bool true, .bool false, .bool false] 4)))
  replace B := hide (bel_al B.out (.cells #[.bool true, .bool false, .bool false] 4))
  generalize w5.alloc (.cells #[.bool true, .bool false, .bool false] 4) = w6 at *
  refine (I_le _ X.out Y.out).mono ?_
  rintro e w7 ⟨rfl, hb⟩
  replace X := hide (X.out.al hb)
  replace Y := hide (Y.out.al hb)
  replace B := hide (bel_trans B.out hb)
  clear hb
  go_wp2_with fail
  refine (I_ge _ X.out Y.out).mono ?_
  rintro e w8 ⟨rfl, hb⟩
  replace X := hide (X.out.al hb)
  replace Y := hide (Y.out.al hb)
  replace B := hide (bel_trans B.out hb)
  clear hb
  go_wp2_with fail
  refine (I_ne _ X.out Y.out).mono ?_
  rintro e w9 ⟨rfl, hb⟩
  replace X := hide (X.out.al hb)
  replace Y := hide (Y.out.al hb)
  replace B := hide (bel_trans B.out hb)
  clear hb
  go_wp2_with fail
  go_ret
  exact Vb.mk rfl B.out
set_option maxRecDepth 20000 in
set_option maxHeartbeats 2000000 in
theorem floats_eq3 (u v : Nat) (nu : nanB u = false) (nv : nanB v = false) (hE : eqF u v = true) (hL : ltF u v = false) (hG : gtF u v = false) (hz : (IntKind.u64.wrap ((u : Int) * 2) == 0) = false) (hq : ((u : Int) == (v : Int)) = true) (w : World) : Calls Try.prog 7 #[.int .u64 (u : Nat), .int .u64 (v : Nat)] w (Vb w (.bool true)) := by
  have I_eq := fun {gx gy : Nat} (w : World) (hx : Val w gx 2 0 (u : Nat)) (hy : Val w gy 2 0 (v : Nat)) => isf_any ⟨#[61, 61]⟩ u v true ((bf_eq u v).trans (by rw [hE])) gx gy w hx hy
  have I_ne := fun {gx gy : Nat} (w : World) (hx : Val w gx 2 0 (u : Nat)) (hy : Val w gy 2 0 (v : Nat)) => isf_any ⟨#[33, 61]⟩ u v false ((bf_ne u v).trans (by rw [hE]; rfl)) gx gy w hx hy
  have I_lt := fun {gx gy : Nat} (w : World) (hx : Val w gx 2 0 (u : Nat)) (hy : Val w gy 2 0 (v : Nat)) => isf_any ⟨#[60]⟩ u v false ((bf_lt u v).trans (by rw [hL])) gx gy w hx hy
  have I_le := fun {gx gy : Nat} (w : World) (hx : Val w gx 2 0 (u : Nat)) (hy : Val w gy 2 0 (v : Nat)) => isf_any ⟨#[60, 61]⟩ u v true ((bf_le u v).trans (by rw [hL, hE]; rfl)) gx gy w hx hy
  have I_gt := fun {gx gy : Nat} (w : World) (hx : Val w gx 2 0 (u : Nat)) (hy : Val w gy 2 0 (v : Nat)) => isf_any ⟨#[62]⟩ u v false ((bf_gt u v).trans (by rw [hG])) gx gy w hx hy
  have I_ge := fun {gx gy : Nat} (w : World) (hx : Val w gx 2 0 (u : Nat)) (hy : Val w gy 2 0 (v : Nat)) => isf_any ⟨#[62, 61]⟩ u v true ((bf_ge u v).trans (by rw [hG, hE]; rfl)) gx gy w hx hy
  have NU := fun w => nan_any u w
  rw [nu] at NU
  have NV := fun w => nan_any v w
  rw [nv] at NV
  clear hE hL hG nu nv
  go_enter Try.func7, Try.ntmps7
  go_wp2_with fail
  refine (alive_any _).mono ?_
  rintro e w1 ⟨rfl, hb⟩
  have B := hide (bel_al (bel_al hb (.cells #[.int .i64 2, .int .i64 0, .int .u64 (u : Nat)] 24)) (.cells #[.int .i64 2, .int .i64 0, .int .u64 (v : Nat)] 24))
  clear hb
  have X := hide ((Val.new w1 2 0 (u : Nat)).al (bel_new _ (.cells #[.int .i64 2, .int .i64 0, .int .u64 (v : Nat)] 24)))
  have Y := Val.new (w1.alloc (.cells #[.int .i64 2, .int .i64 0, .int .u64 (u : Nat)] 24)) 2 0 (v : Nat)
  rw [show (w1.alloc (.cells #[.int .i64 2, .int .i64 0, .int .u64 (u : Nat)] 24)).heap.size = w1.heap.size + 1 by simp] at Y
  replace Y := hide Y
  go_wp2_with fail
  generalize (w1.alloc (.cells #[.int .i64 2, .int .i64 0, .int .u64 (u : Nat)] 24)).alloc (.cells #[.int .i64 2, .int .i64 0, .int .u64 (v : Nat)] 24) = w2 at *
  refine (I_eq _ X.out Y.out).mono ?_
  rintro e w3 ⟨rfl, hb⟩
  replace X := hide (X.out.al hb)
  replace Y := hide (Y.out.al hb)
  replace B := hide (bel_trans B.out hb)
  clear hb
  go_wp2_with fail
  refine (I_lt _ X.out Y.out).mono ?_
  rintro e w4 ⟨rfl, hb⟩
  replace X := hide (X.out.al hb)
  replace Y := hide (Y.out.al hb)
  replace B := hide (bel_trans B.out hb)
  clear hb
  go_wp2_with fail
  refine (I_gt _ X.out Y.out).mono ?_
  rintro e w5 ⟨rfl, hb⟩
  replace X := hide (X.out.al hb)
  replace Y := hide (Y.out.al hb)
  replace B := hide (bel_trans B.out hb)
  clear hb
  go_wp2_with fail
  refine (NU _).mono ?_
  rintro e w6 ⟨rfl, rfl⟩
  go_wp2_with fail
  refine (NV _).mono ?_
  rintro e w7 ⟨rfl, rfl⟩
  go_wp2_with fail
  refine wp_loop_rounds 4 ?_
  rw [rounds_succ]
  go_wp2_with fail
  rw [rounds_succ]
  go_wp2_with fail
  rw [rounds_succ]
  go_wp2_with fail
  rw [rounds_succ]
  go_wp2_with fail
  replace X := hide (X.out.al (bel_new w5 (.cells #[.bool true, .bool false, .bool false] 4)))
  replace Y := hide (Y.out.al (bel_new w5 (.cells #[.bool true, .bool false, .bool false] 4)))
  replace B := hide (bel_al B.out (.cells #[.bool true, .bool false, .bool false] 4))
  generalize w5.alloc (.cells #[.bool true, .bool false, .bool false] 4) = w6 at *
  refine (I_le _ X.out Y.out).mono ?_
  rintro e w7 ⟨rfl, hb⟩
  replace X := hide (X.out.al hb)
  replace Y := hide (Y.out.al hb)
  replace B := hide (bel_trans B.out hb)
  clear hb
  go_wp2_with fail
  refine (I_ge _ X.out Y.out).mono ?_
  rintro e w8 ⟨rfl, hb⟩
  replace X := hide (X.out.al hb)
  replace Y := hide (Y.out.al hb)
  replace B := hide (bel_trans B.out hb)
  clear hb
  go_wp2_with fail
  refine (I_ne _ X.out Y.out).mono ?_
  rintro e w9 ⟨rfl, hb⟩
  replace X := hide (X.out.al hb)
  replace Y := hide (Y.out.al hb)
  replace B := hide (bel_trans B.out hb)
  clear hb
  go_wp2_with fail
  go_ret
  exact Vb.mk rfl B.out
theorem zero_iff (u : Nat) : (IntKind.u64.wrap ((u : Int) * 2) == 0) = decide (u % 9223372036854775808 = 0) := by
  rw [IntKind.wrap_u64, Bool.eq_iff_iff, beq_iff_eq, decide_eq_true_eq]
  omega
theorem same_iff {u v : Nat} (hu : u < 18446744073709551616) (hv : v < 18446744073709551616) (nn : (nanB u || nanB v) = false) : eqF u v = true ↔ (u = v ∨ (u % 9223372036854775808 = 0 ∧ v % 9223372036854775808 = 0)) := by
  unfold eqF
  rw [show FloatKind.f64.format.order u v = Ieee.double.order u v from rfl, order_eq, nn]
  have h1 : ((if false = true then none else some (compare (srB u) (srB v))) == some Ordering.eq) = true ↔ srB u = srB v := by
    simp
  rw [h1]
  unfold srB
  split <;> split <;> omega
theorem floats_main (a b : Int) (ha : 0 ≤ a ∧ a ≤ 18446744073709551615) (hb : 0 ≤ b ∧ b ≤ 18446744073709551615) (w : World) : Calls Try.prog 7 #[.int .u64 a, .int .u64 b] w (Vb w (.bool true)) := by
  obtain ⟨u, rfl⟩ : ∃ u : Nat, a = (u : Int) := ⟨a.toNat, by omega⟩
  obtain ⟨v, rfl⟩ : ∃ u : Nat, b = (u : Int) := ⟨b.toNat, by omega⟩
  rcases cmpF u v with ⟨h0, h1, h2, h3⟩ | ⟨h0, h⟩
  · cases nu : nanB u
    · rw [nu, Bool.false_or] at h0
      exact floats_nan2 u v nu h0 h1 h2 h3 w
    · exact floats_nan1 u v nu h1 h2 h3 w
  have S := same_iff (u := u) (v := v) (by omega) (by omega) h0
  have nu : nanB u = false := by cases h : nanB u <;> simp_all
  have nv : nanB v = false := by cases h : nanB v <;> simp_all
  have zu := zero_iff u
  have zv := zero_iff v
  rcases h with ⟨h1, h2, h3⟩ | ⟨h1, h2, h3⟩ | ⟨h1, h2, h3⟩
  · rcases S.1 h1 with rfl | ⟨s1, s2⟩
    · by_cases c : u % 9223372036854775808 = 0
      · rw [decide_eq_true c] at zu
        exact floats_eq2 u u nu nv h1 h2 h3 zu zu (by simp) w
      · rw [decide_eq_false c] at zu
        exact floats_eq3 u u nu nv h1 h2 h3 zu (by simp) w
    · rw [decide_eq_true s1] at zu
      rw [decide_eq_true s2] at zv
      cases c : ((u : Int) == (v : Int))
      · exact floats_eq1 u v nu nv h1 h2 h3 zu zv c w
      · exact floats_eq2 u v nu nv h1 h2 h3 zu zv c w
  all_goals
    have hne : ¬ (u = v ∨ (u % 9223372036854775808 = 0 ∧ v % 9223372036854775808 = 0)) := fun h => by
      have := S.2 h
      rw [h1] at this
      cases this
    have hq : ((u : Int) == (v : Int)) = false := by
      cases c : ((u : Int) == (v : Int))
      · rfl
      · exact absurd (.inl (by have := beq_iff_eq.1 c; omega)) hne
    by_cases c : u % 9223372036854775808 = 0
    · have d : ¬ v % 9223372036854775808 = 0 := fun d => hne (.inr ⟨c, d⟩)
      rw [decide_eq_true c] at zu
      rw [decide_eq_false d] at zv
      first | exact floats_lt1 u v nu nv h1 h2 h3 zu zv hq w | exact floats_gt1 u v nu nv h1 h2 h3 zu zv hq w
    · rw [decide_eq_false c] at zu
      first | exact floats_lt2 u v nu nv h1 h2 h3 zu hq w | exact floats_gt2 u v nu nv h1 h2 h3 zu hq w
end Go.Proofs.Ytmdfciiejenpnaa.Ck
