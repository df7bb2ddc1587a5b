/- Package proofread: change, by instruction. (Written by mk_f.py.) -/
import Derived.Test.YtlheflkdapckbaaDoorPf
import Derived.Test.YtlheflkdapckbaaDoorCno
import Derived.Test.YtlheflkdapckbaaDoorCn
import Derived.Deep.CutRange
namespace Go.Proofs.YtlheflkdapckbaaDoor.Ck
open Go.RowKit

set_option maxRecDepth 20000 in
set_option maxHeartbeats 2000000 in
theorem change_10 {w0 w : World} {p : List Addr} {g b : Nat} {vP vC vF vB vLo vM vS vL v : Value} {c : Cd} {f : Fn3} {hi : Int} {s : List Int} (h : Cg w0 w p g b vP vC vF vB c f vLo hi vM vS vL v s) (a b' bits at_ : Int) (h1 : 1 ≤ a) (h4 : a ≤ 4) : Calls Tryd.prog 47 #[.pointer (some ⟨g, 0, none⟩), .pointer (some ⟨b, 0, none⟩), .agg #[.int .i64 10, .int .i64 a, .int .i64 b', .int .u64 bits, .int .i64 at_]] w (GkP p w b w0.heap.size (changeM c f.lo ⟨10, a, b', bits, at_⟩ s)) := by
  have EM : Hid (changeM c f.lo ⟨10, a, b', bits, at_⟩ s = unS a s) := hide (by simp [changeM])
  generalize changeM c f.lo ⟨10, a, b', bits, at_⟩ s = o at *
  have AB := hide (bel_new w (.cells #[.int .i64 10, .int .i64 a, .int .i64 b', .int .u64 bits, .int .i64 at_] 44))
  have V0 := hide (Go.Deep.blk_alloc_new w (.cells #[.int .i64 10, .int .i64 a, .int .i64 b', .int .u64 bits, .int .i64 at_] 44))
  have hz1 : (w.alloc (.cells #[.int .i64 10, .int .i64 a, .int .i64 b', .int .u64 bits, .int .i64 at_] 44)).heap.size = w.heap.size + 1 := by simp
  have SZ1 := hide hz1
  clear hz1
  have H1 := hide (h.low AB.out)
  have B1 := hide (AB.out.mono h.sk.low)
  have HH := hide (And.intro h1 h4)
  have OP := hide (operator_any 10 a (w.alloc (.cells #[.int .i64 10, .int .i64 a, .int .i64 b', .int .u64 bits, .int .i64 at_] 44)))
  clear h AB h1 h4
  have x0 := blk_cell V0.out 0 _ rfl
  have x1 := blk_cell V0.out 1 _ rfl
  clear V0
  go_enter Tryd.func47, Tryd.ntmps47
  go_wp2_with fail
  generalize w.alloc (.cells #[.int .i64 10, .int .i64 a, .int .i64 b', .int .u64 bits, .int .i64 at_] 44) = w1 at *
  generalize hz : opN 10 a = z at *
  have HZ := hide hz
  clear hz
  refine OP.out.mono ?_
  rintro e w9 ⟨rfl, b9⟩
  have H2 := hide (H1.out.low b9)
  have BD := hide (B1.out.trans (b9.mono H1.out.sk.low))
  clear B1 H1 OP b9
  have B1 := BD
  clear BD
  have U9 := hide (unary_stk H2.out.er H2.out.gc H2.out.sk a HH.out.1 HH.out.2 H2.out.n)
  rw [HZ.out] at U9
  go_wp2_with fail
  have CC := hide (U9.out)
  refine CC.out.mono ?_
  intro e w2 hp
  rcases hp.both with ⟨s2, v2, hs, rfl, k2, b2⟩ | ⟨hs, rfl, b2⟩
  rotate_left 1
  · exact ⟨rfl, GkP.no (by rw [EM.out]; first | exact hs | (rw [hs]; rfl)) (B1.out.trans b2)⟩
  have Z := hide (And.intro k2 (And.intro b2 hs))
  clear k2 b2 hs hp CC
  go_wp2_with fail
  go_end0
  exact GkP.yes (EM.out.trans Z.out.2.2) Z.out.1 (B1.out.trans Z.out.2.1)
set_option maxRecDepth 20000 in
set_option maxHeartbeats 2000000 in
theorem change_11 {w0 w : World} {p : List Addr} {g b : Nat} {vP vC vF vB vLo vM vS vL v : Value} {c : Cd} {f : Fn3} {hi : Int} {s : List Int} (h : Cg w0 w p g b vP vC vF vB c f vLo hi vM vS vL v s) (a b' bits at_ : Int) (h1 : 1 ≤ a) (h4 : a ≤ 11) : Calls Tryd.prog 47 #[.pointer (some ⟨g, 0, none⟩), .pointer (some ⟨b, 0, none⟩), .agg #[.int .i64 11, .int .i64 a, .int .i64 b', .int .u64 bits, .int .i64 at_]] w (GkP p w b w0.heap.size (changeM c f.lo ⟨11, a, b', bits, at_⟩ s)) := by
  have EM : Hid (changeM c f.lo ⟨11, a, b', bits, at_⟩ s = binS a s) := hide (by simp [changeM])
  generalize changeM c f.lo ⟨11, a, b', bits, at_⟩ s = o at *
  have AB := hide (bel_new w (.cells #[.int .i64 11, .int .i64 a, .int .i64 b', .int .u64 bits, .int .i64 at_] 44))
  have V0 := hide (Go.Deep.blk_alloc_new w (.cells #[.int .i64 11, .int .i64 a, .int .i64 b', .int .u64 bits, .int .i64 at_] 44))
  have hz1 : (w.alloc (.cells #[.int .i64 11, .int .i64 a, .int .i64 b', .int .u64 bits, .int .i64 at_] 44)).heap.size = w.heap.size + 1 := by simp
  have SZ1 := hide hz1
  clear hz1
  have H1 := hide (h.low AB.out)
  have B1 := hide (AB.out.mono h.sk.low)
  have HH := hide (And.intro h1 h4)
  have OP := hide (operator_any 11 a (w.alloc (.cells #[.int .i64 11, .int .i64 a, .int .i64 b', .int .u64 bits, .int .i64 at_] 44)))
  clear h AB h1 h4
  have x0 := blk_cell V0.out 0 _ rfl
  have x1 := blk_cell V0.out 1 _ rfl
  clear V0
  go_enter Tryd.func47, Tryd.ntmps47
  go_wp2_with fail
  generalize w.alloc (.cells #[.int .i64 11, .int .i64 a, .int .i64 b', .int .u64 bits, .int .i64 at_] 44) = w1 at *
  generalize hz : opN 11 a = z at *
  have HZ := hide hz
  clear hz
  refine OP.out.mono ?_
  rintro e w9 ⟨rfl, b9⟩
  have H2 := hide (H1.out.low b9)
  have BD := hide (B1.out.trans (b9.mono H1.out.sk.low))
  clear B1 H1 OP b9
  have B1 := BD
  clear BD
  have U9 := hide (binary_stk H2.out.er H2.out.gc H2.out.sk a HH.out.1 HH.out.2 H2.out.n)
  rw [HZ.out] at U9
  go_wp2_with fail
  have CC := hide (U9.out)
  refine CC.out.mono ?_
  intro e w2 hp
  rcases hp.both with ⟨s2, v2, hs, rfl, k2, b2⟩ | ⟨hs, rfl, b2⟩
  rotate_left 1
  · exact ⟨rfl, GkP.no (by rw [EM.out]; first | exact hs | (rw [hs]; rfl)) (B1.out.trans b2)⟩
  have Z := hide (And.intro k2 (And.intro b2 hs))
  clear k2 b2 hs hp CC
  go_wp2_with fail
  go_end0
  exact GkP.yes (EM.out.trans Z.out.2.2) Z.out.1 (B1.out.trans Z.out.2.1)
end Go.Proofs.YtlheflkdapckbaaDoor.Ck
