/- The walk of the statement ValueBinary: it answers true. (Written by mk_l.py.) -/
import Derived.Test.YtmdfciiejenpnaaR8
namespace Go.Proofs.Ytmdfciiejenpnaa.Ck
open Go.RowKit

set_option maxRecDepth 20000 in
set_option maxHeartbeats 2000000 in
theorem binary_main (op : ByteArray) (t n b t' n' b' : Int) (h1 : -9223372036854775808 ≤ n ∧ n ≤ 9223372036854775807) (h2 : -9223372036854775808 ≤ n' ∧ n' ≤ 9223372036854775807) (h3 : 0 ≤ b ∧ b ≤ 18446744073709551615) (h4 : 0 ≤ b' ∧ b' ≤ 18446744073709551615) (w : World) : Calls Try.prog 4 #[.string op, .agg #[.int .i64 t, .int .i64 n, .int .u64 b], .agg #[.int .i64 t', .int .i64 n', .int .u64 b']] w (Vb w (.bool true)) := by
  have H1 := fun w => binary_any op t n b t' n' b' w
  have H2 := fun w => rbin_any op t n b t' n' b' h1 h2 h3 h4 w
  obtain ⟨⟨t1, n1, b1, k1⟩, hr⟩ : ∃ r, binF op.toList t n b t' n' b' = r := ⟨_, rfl⟩
  rw [hr] at H1 H2
  have EV : ∀ w, (binOp .eql 24 (.agg #[.int .i64 t1, .int .i64 n1, .int .u64 b1]) (.agg #[.int .i64 t1, .int .i64 n1, .int .u64 b1])).run Try.prog w = .ok (.bool true) w := fun w => by
    rw [eq_vv]
    simp
  clear hr h1 h2 h3 h4
  go_enter Try.func4, Try.ntmps4
  go_wp2_with fail
  refine (alive_any _).mono ?_
  rintro e w1 ⟨rfl, hb⟩
  have A := hide (((Val.new w t n b).al (bel_new _ _)).al hb)
  have q := (Val.new (w.alloc (.cells #[.int .i64 t, .int .i64 n, .int .u64 b] 24)) t' n' b').al hb
  rw [show (w.alloc (.cells #[.int .i64 t, .int .i64 n, .int .u64 b] 24)).heap.size = w.heap.size + 1 by simp] at q
  have C := hide q
  clear q
  have B : Hid (Below w.heap.size w w1) := hide (bel_trans (bel_al (bel_new _ _) _) hb)
  clear hb
  obtain ⟨ac0, ac1, ac2⟩ := A.out.all.2
  have acl := A.out.lt
  obtain ⟨cc0, cc1, cc2⟩ := C.out.all.2
  have ccl := C.out.lt
  go_wp2_with fail
  refine (H1 _).mono ?_
  rintro e w2 ⟨rfl, hb⟩
  replace A := hide (A.out.al (hb))
  replace C := hide (C.out.al (hb))
  replace B : Hid (Below w.heap.size w w2) := hide (bel_trans B.out hb)
  clear hb ac0 ac1 ac2 acl cc0 cc1 cc2 ccl
  obtain ⟨ac0, ac1, ac2⟩ := A.out.all.2
  have acl := A.out.lt
  obtain ⟨cc0, cc1, cc2⟩ := C.out.all.2
  have ccl := C.out.lt
  go_wp2_with fail
  refine (H2 _).mono ?_
  rintro e w3 ⟨rfl, hb⟩
  replace A := hide (A.out.al (bel_trans (bel_new _ _) hb))
  replace C := hide (C.out.al (bel_trans (bel_new _ _) hb))
  have X := hide ((Val.new w2 t1 n1 b1).al hb)
  replace B : Hid (Below w.heap.size w w3) := hide (bel_trans (bel_al B.out _) hb)
  clear hb ac0 ac1 ac2 acl cc0 cc1 cc2 ccl
  obtain ⟨xc0, xc1, xc2⟩ := X.out.all.2
  have xcl := X.out.lt
  go_wp2_with fail
  go_ret
  exact Vb.mk (rfl) (bel_al B.out _)
end Go.Proofs.Ytmdfciiejenpnaa.Ck
