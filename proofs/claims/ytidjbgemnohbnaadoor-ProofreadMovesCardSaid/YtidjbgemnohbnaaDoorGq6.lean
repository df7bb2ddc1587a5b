/- Texts of this proof, packed. -/
import Derived.Test.YtidjbgemnohbnaaDoorGq5
import Derived.Test.YtidjbgemnohbnaaDoorGq4
import Derived.Deep.CutRange
/- Package proofread: change, by instruction. (Written by mk_f.py.) -/
namespace Go.Proofs.YtidjbgemnohbnaaDoor.Ck
open Go.RowKit

set_option maxRecDepth 20000 in
set_option maxHeartbeats 2000000 in
theorem change_1 {w0 w : World} {p : List Addr} {g b : Nat} {vP vC vF vB vLo vM vS vL v : Value} {c : Cd} {f : Fn3} {hi : Int} {s : List Int} (h : Cg w0 w p g b vP vC vF vB c f vLo hi vM vS vL v s) (a b' bits at_ : Int) : Calls Tryd.prog 45 #[.pointer (some ⟨g, 0, none⟩), .pointer (some ⟨b, 0, none⟩), .agg #[.int .i64 1, .int .i64 a, .int .i64 b', .int .u64 bits, .int .i64 at_]] w (GkP p w b w0.heap.size (changeM c f.lo ⟨1, a, b', bits, at_⟩ s)) := by
  have EM : Hid (changeM c f.lo ⟨1, a, b', bits, at_⟩ s = some (s ++ [1])) := hide (by simp [changeM])
  generalize changeM c f.lo ⟨1, a, b', bits, at_⟩ s = o at *
  have AB := hide (bel_new w (.cells #[.int .i64 1, .int .i64 a, .int .i64 b', .int .u64 bits, .int .i64 at_] 44))
  have V0 := hide (Go.Deep.blk_alloc_new w (.cells #[.int .i64 1, .int .i64 a, .int .i64 b', .int .u64 bits, .int .i64 at_] 44))
  have hz1 : (w.alloc (.cells #[.int .i64 1, .int .i64 a, .int .i64 b', .int .u64 bits, .int .i64 at_] 44)).heap.size = w.heap.size + 1 := by simp
  have SZ1 := hide hz1
  clear hz1
  have H1 := hide (h.low AB.out)
  have B1 := hide (AB.out.mono h.sk.low)
  clear h AB
  have x0 := blk_cell V0.out 0 _ rfl
  have x1 := blk_cell V0.out 1 _ rfl
  clear V0
  go_enter Tryd.func45, Tryd.ntmps45
  go_wp2_with fail
  generalize w.alloc (.cells #[.int .i64 1, .int .i64 a, .int .i64 b', .int .u64 bits, .int .i64 at_] 44) = w1 at *
  have CC := hide (H1.out.push 1)
  refine CC.out.mono ?_
  intro e w2 hp
  rcases hp.both with ⟨s2, v2, hs, rfl, k2, b2⟩ | ⟨hs, rfl, b2⟩
  rotate_left 1
  · cases hs
  have Z := hide (And.intro k2 (And.intro b2 hs))
  clear k2 b2 hs hp CC
  go_wp2_with fail
  go_end0
  exact GkP.yes (EM.out.trans Z.out.2.2) Z.out.1 (B1.out.trans Z.out.2.1)
set_option maxRecDepth 20000 in
set_option maxHeartbeats 2000000 in
theorem change_19 {w0 w : World} {p : List Addr} {g b : Nat} {vP vC vF vB vLo vM vS vL v : Value} {c : Cd} {f : Fn3} {hi : Int} {s : List Int} (h : Cg w0 w p g b vP vC vF vB c f vLo hi vM vS vL v s) (a b' bits at_ : Int) : Calls Tryd.prog 45 #[.pointer (some ⟨g, 0, none⟩), .pointer (some ⟨b, 0, none⟩), .agg #[.int .i64 19, .int .i64 a, .int .i64 b', .int .u64 bits, .int .i64 at_]] w (GkP p w b w0.heap.size (changeM c f.lo ⟨19, a, b', bits, at_⟩ s)) := by
  have EM : Hid (changeM c f.lo ⟨19, a, b', bits, at_⟩ s = some (s ++ [1])) := hide (by simp [changeM])
  generalize changeM c f.lo ⟨19, a, b', bits, at_⟩ s = o at *
  have AB := hide (bel_new w (.cells #[.int .i64 19, .int .i64 a, .int .i64 b', .int .u64 bits, .int .i64 at_] 44))
  have V0 := hide (Go.Deep.blk_alloc_new w (.cells #[.int .i64 19, .int .i64 a, .int .i64 b', .int .u64 bits, .int .i64 at_] 44))
  have hz1 : (w.alloc (.cells #[.int .i64 19, .int .i64 a, .int .i64 b', .int .u64 bits, .int .i64 at_] 44)).heap.size = w.heap.size + 1 := by simp
  have SZ1 := hide hz1
  clear hz1
  have H1 := hide (h.low AB.out)
  have B1 := hide (AB.out.mono h.sk.low)
  clear h AB
  have x0 := blk_cell V0.out 0 _ rfl
  have x1 := blk_cell V0.out 1 _ rfl
  clear V0
  go_enter Tryd.func45, Tryd.ntmps45
  go_wp2_with fail
  generalize w.alloc (.cells #[.int .i64 19, .int .i64 a, .int .i64 b', .int .u64 bits, .int .i64 at_] 44) = w1 at *
  have CC := hide (H1.out.push 1)
  refine CC.out.mono ?_
  intro e w2 hp
  rcases hp.both with ⟨s2, v2, hs, rfl, k2, b2⟩ | ⟨hs, rfl, b2⟩
  rotate_left 1
  · cases hs
  have Z := hide (And.intro k2 (And.intro b2 hs))
  clear k2 b2 hs hp CC
  go_wp2_with fail
  go_end0
  exact GkP.yes (EM.out.trans Z.out.2.2) Z.out.1 (B1.out.trans Z.out.2.1)
set_option maxRecDepth 20000 in
set_option maxHeartbeats 2000000 in
theorem change_2 {w0 w : World} {p : List Addr} {g b : Nat} {vP vC vF vB vLo vM vS vL v : Value} {c : Cd} {f : Fn3} {hi : Int} {s : List Int} (h : Cg w0 w p g b vP vC vF vB c f vLo hi vM vS vL v s) (a b' bits at_ : Int) : Calls Tryd.prog 45 #[.pointer (some ⟨g, 0, none⟩), .pointer (some ⟨b, 0, none⟩), .agg #[.int .i64 2, .int .i64 a, .int .i64 b', .int .u64 bits, .int .i64 at_]] w (GkP p w b w0.heap.size (changeM c f.lo ⟨2, a, b', bits, at_⟩ s)) := by
  have EM : Hid (changeM c f.lo ⟨2, a, b', bits, at_⟩ s = some (s ++ [2])) := hide (by simp [changeM])
  generalize changeM c f.lo ⟨2, a, b', bits, at_⟩ s = o at *
  have AB := hide (bel_new w (.cells #[.int .i64 2, .int .i64 a, .int .i64 b', .int .u64 bits, .int .i64 at_] 44))
  have V0 := hide (Go.Deep.blk_alloc_new w (.cells #[.int .i64 2, .int .i64 a, .int .i64 b', .int .u64 bits, .int .i64 at_] 44))
  have hz1 : (w.alloc (.cells #[.int .i64 2, .int .i64 a, .int .i64 b', .int .u64 bits, .int .i64 at_] 44)).heap.size = w.heap.size + 1 := by simp
  have SZ1 := hide hz1
  clear hz1
  have H1 := hide (h.low AB.out)
  have B1 := hide (AB.out.mono h.sk.low)
  clear h AB
  have x0 := blk_cell V0.out 0 _ rfl
  have x1 := blk_cell V0.out 1 _ rfl
  clear V0
  go_enter Tryd.func45, Tryd.ntmps45
  go_wp2_with fail
  generalize w.alloc (.cells #[.int .i64 2, .int .i64 a, .int .i64 b', .int .u64 bits, .int .i64 at_] 44) = w1 at *
  have CC := hide (H1.out.push 2)
  refine CC.out.mono ?_
  intro e w2 hp
  rcases hp.both with ⟨s2, v2, hs, rfl, k2, b2⟩ | ⟨hs, rfl, b2⟩
  rotate_left 1
  · cases hs
  have Z := hide (And.intro k2 (And.intro b2 hs))
  clear k2 b2 hs hp CC
  go_wp2_with fail
  go_end0
  exact GkP.yes (EM.out.trans Z.out.2.2) Z.out.1 (B1.out.trans Z.out.2.1)
set_option maxRecDepth 20000 in
set_option maxHeartbeats 2000000 in
theorem change_3 {w0 w : World} {p : List Addr} {g b : Nat} {vP vC vF vB vLo vM vS vL v : Value} {c : Cd} {f : Fn3} {hi : Int} {s : List Int} (h : Cg w0 w p g b vP vC vF vB c f vLo hi vM vS vL v s) (a b' bits at_ : Int) : Calls Tryd.prog 45 #[.pointer (some ⟨g, 0, none⟩), .pointer (some ⟨b, 0, none⟩), .agg #[.int .i64 3, .int .i64 a, .int .i64 b', .int .u64 bits, .int .i64 at_]] w (GkP p w b w0.heap.size (changeM c f.lo ⟨3, a, b', bits, at_⟩ s)) := by
  have EM : Hid (changeM c f.lo ⟨3, a, b', bits, at_⟩ s = some (s ++ [3])) := hide (by simp [changeM])
  generalize changeM c f.lo ⟨3, a, b', bits, at_⟩ s = o at *
  have AB := hide (bel_new w (.cells #[.int .i64 3, .int .i64 a, .int .i64 b', .int .u64 bits, .int .i64 at_] 44))
  have V0 := hide (Go.Deep.blk_alloc_new w (.cells #[.int .i64 3, .int .i64 a, .int .i64 b', .int .u64 bits, .int .i64 at_] 44))
  have hz1 : (w.alloc (.cells #[.int .i64 3, .int .i64 a, .int .i64 b', .int .u64 bits, .int .i64 at_] 44)).heap.size = w.heap.size + 1 := by simp
  have SZ1 := hide hz1
  clear hz1
  have H1 := hide (h.low AB.out)
  have B1 := hide (AB.out.mono h.sk.low)
  clear h AB
  have x0 := blk_cell V0.out 0 _ rfl
  have x1 := blk_cell V0.out 1 _ rfl
  clear V0
  go_enter Tryd.func45, Tryd.ntmps45
  go_wp2_with fail
  generalize w.alloc (.cells #[.int .i64 3, .int .i64 a, .int .i64 b', .int .u64 bits, .int .i64 at_] 44) = w1 at *
  have CC := hide (H1.out.push 3)
  refine CC.out.mono ?_
  intro e w2 hp
  rcases hp.both with ⟨s2, v2, hs, rfl, k2, b2⟩ | ⟨hs, rfl, b2⟩
  rotate_left 1
  · cases hs
  have Z := hide (And.intro k2 (And.intro b2 hs))
  clear k2 b2 hs hp CC
  go_wp2_with fail
  go_end0
  exact GkP.yes (EM.out.trans Z.out.2.2) Z.out.1 (B1.out.trans Z.out.2.1)
end Go.Proofs.YtidjbgemnohbnaaDoor.Ck

/- Package proofread: change, by instruction. (Written by mk_f.py.) -/
namespace Go.Proofs.YtidjbgemnohbnaaDoor.Ck
open Go.RowKit

set_option maxRecDepth 20000 in
set_option maxHeartbeats 2000000 in
theorem change_20 {w0 w : World} {p : List Addr} {g b : Nat} {vP vC vF vB vLo vM vS vL v : Value} {c : Cd} {f : Fn3} {hi : Int} {s : List Int} (h : Cg w0 w p g b vP vC vF vB c f vLo hi vM vS vL v s) (a b' bits at_ : Int) : Calls Tryd.prog 45 #[.pointer (some ⟨g, 0, none⟩), .pointer (some ⟨b, 0, none⟩), .agg #[.int .i64 20, .int .i64 a, .int .i64 b', .int .u64 bits, .int .i64 at_]] w (GkP p w b w0.heap.size (changeM c f.lo ⟨20, a, b', bits, at_⟩ s)) := by
  have EM : Hid (changeM c f.lo ⟨20, a, b', bits, at_⟩ s = takeM [1] s) := hide (by simp [changeM])
  generalize changeM c f.lo ⟨20, a, b', bits, at_⟩ s = o at *
  have AB := hide (bel_new w (.cells #[.int .i64 20, .int .i64 a, .int .i64 b', .int .u64 bits, .int .i64 at_] 44))
  have V0 := hide (Go.Deep.blk_alloc_new w (.cells #[.int .i64 20, .int .i64 a, .int .i64 b', .int .u64 bits, .int .i64 at_] 44))
  have hz1 : (w.alloc (.cells #[.int .i64 20, .int .i64 a, .int .i64 b', .int .u64 bits, .int .i64 at_] 44)).heap.size = w.heap.size + 1 := by simp
  have SZ1 := hide hz1
  clear hz1
  have H1 := hide (h.low AB.out)
  have B1 := hide (AB.out.mono h.sk.low)
  clear h AB
  have x0 := blk_cell V0.out 0 _ rfl
  have x1 := blk_cell V0.out 1 _ rfl
  clear V0
  go_enter Tryd.func45, Tryd.ntmps45
  go_wp2_with fail
  generalize w.alloc (.cells #[.int .i64 20, .int .i64 a, .int .i64 b', .int .u64 bits, .int .i64 at_] 44) = w1 at *
  have CC := hide (H1.out.take1 1 (fits_k (by decide) (by decide)))
  rw [SZ1.out] at CC
  refine CC.out.mono ?_
  intro e w2 hp
  rcases hp.both with ⟨s2, v2, hs, rfl, k2, b2⟩ | ⟨hs, rfl, b2⟩
  rotate_left 1
  · exact ⟨rfl, GkP.no (by rw [EM.out]; first | exact hs | (rw [hs]; rfl)) (B1.out.trans b2)⟩
  have Z := hide (And.intro k2 (And.intro b2 hs))
  clear k2 b2 hs hp CC
  go_wp2_with fail
  go_end0
  exact GkP.yes (EM.out.trans Z.out.2.2) Z.out.1 (B1.out.trans Z.out.2.1)
set_option maxRecDepth 20000 in
set_option maxHeartbeats 2000000 in
theorem change_21 {w0 w : World} {p : List Addr} {g b : Nat} {vP vC vF vB vLo vM vS vL v : Value} {c : Cd} {f : Fn3} {hi : Int} {s : List Int} (h : Cg w0 w p g b vP vC vF vB c f vLo hi vM vS vL v s) (a b' bits at_ : Int) : Calls Tryd.prog 45 #[.pointer (some ⟨g, 0, none⟩), .pointer (some ⟨b, 0, none⟩), .agg #[.int .i64 21, .int .i64 a, .int .i64 b', .int .u64 bits, .int .i64 at_]] w (GkP p w b w0.heap.size (changeM c f.lo ⟨21, a, b', bits, at_⟩ s)) := by
  have EM : Hid (changeM c f.lo ⟨21, a, b', bits, at_⟩ s = takeM [1] s) := hide (by simp [changeM])
  generalize changeM c f.lo ⟨21, a, b', bits, at_⟩ s = o at *
  have AB := hide (bel_new w (.cells #[.int .i64 21, .int .i64 a, .int .i64 b', .int .u64 bits, .int .i64 at_] 44))
  have V0 := hide (Go.Deep.blk_alloc_new w (.cells #[.int .i64 21, .int .i64 a, .int .i64 b', .int .u64 bits, .int .i64 at_] 44))
  have hz1 : (w.alloc (.cells #[.int .i64 21, .int .i64 a, .int .i64 b', .int .u64 bits, .int .i64 at_] 44)).heap.size = w.heap.size + 1 := by simp
  have SZ1 := hide hz1
  clear hz1
  have H1 := hide (h.low AB.out)
  have B1 := hide (AB.out.mono h.sk.low)
  clear h AB
  have x0 := blk_cell V0.out 0 _ rfl
  have x1 := blk_cell V0.out 1 _ rfl
  clear V0
  go_enter Tryd.func45, Tryd.ntmps45
  go_wp2_with fail
  generalize w.alloc (.cells #[.int .i64 21, .int .i64 a, .int .i64 b', .int .u64 bits, .int .i64 at_] 44) = w1 at *
  have CC := hide (H1.out.take1 1 (fits_k (by decide) (by decide)))
  rw [SZ1.out] at CC
  refine CC.out.mono ?_
  intro e w2 hp
  rcases hp.both with ⟨s2, v2, hs, rfl, k2, b2⟩ | ⟨hs, rfl, b2⟩
  rotate_left 1
  · exact ⟨rfl, GkP.no (by rw [EM.out]; first | exact hs | (rw [hs]; rfl)) (B1.out.trans b2)⟩
  have Z := hide (And.intro k2 (And.intro b2 hs))
  clear k2 b2 hs hp CC
  go_wp2_with fail
  go_end0
  exact GkP.yes (EM.out.trans Z.out.2.2) Z.out.1 (B1.out.trans Z.out.2.1)
end Go.Proofs.YtidjbgemnohbnaaDoor.Ck

/- Package proofread: change, by instruction. (Written by mk_f.py.) -/
namespace Go.Proofs.YtidjbgemnohbnaaDoor.Ck
open Go.RowKit

set_option maxRecDepth 20000 in
set_option maxHeartbeats 2000000 in
theorem change_15 {w0 w : World} {p : List Addr} {g b : Nat} {vP vC vF vB vLo vM vS vL v : Value} {c : Cd} {f : Fn3} {hi : Int} {s : List Int} (h : Cg w0 w p g b vP vC vF vB c f vLo hi vM vS vL v s) (a b' bits at_ : Int) : Calls Tryd.prog 45 #[.pointer (some ⟨g, 0, none⟩), .pointer (some ⟨b, 0, none⟩), .agg #[.int .i64 15, .int .i64 a, .int .i64 b', .int .u64 bits, .int .i64 at_]] w (GkP p w b w0.heap.size (changeM c f.lo ⟨15, a, b', bits, at_⟩ s)) := by
  have EM : Hid (changeM c f.lo ⟨15, a, b', bits, at_⟩ s = some s) := hide (by simp [changeM])
  generalize changeM c f.lo ⟨15, a, b', bits, at_⟩ s = o at *
  have AB := hide (bel_new w (.cells #[.int .i64 15, .int .i64 a, .int .i64 b', .int .u64 bits, .int .i64 at_] 44))
  have V0 := hide (Go.Deep.blk_alloc_new w (.cells #[.int .i64 15, .int .i64 a, .int .i64 b', .int .u64 bits, .int .i64 at_] 44))
  have hz1 : (w.alloc (.cells #[.int .i64 15, .int .i64 a, .int .i64 b', .int .u64 bits, .int .i64 at_] 44)).heap.size = w.heap.size + 1 := by simp
  have SZ1 := hide hz1
  clear hz1
  have H1 := hide (h.low AB.out)
  have B1 := hide (AB.out.mono h.sk.low)
  have KS := hide (And.intro h.sk AB.out)
  clear h AB
  have x0 := blk_cell V0.out 0 _ rfl
  have x1 := blk_cell V0.out 1 _ rfl
  clear V0
  go_enter Tryd.func45, Tryd.ntmps45
  go_wp2_with fail
  generalize w.alloc (.cells #[.int .i64 15, .int .i64 a, .int .i64 b', .int .u64 bits, .int .i64 at_] 44) = w1 at *
  go_end0
  exact GkP.yes EM.out (KS.out.1.bel KS.out.2) B1.out
set_option maxRecDepth 20000 in
set_option maxHeartbeats 2000000 in
theorem change_16 {w0 w : World} {p : List Addr} {g b : Nat} {vP vC vF vB vLo vM vS vL v : Value} {c : Cd} {f : Fn3} {hi : Int} {s : List Int} (h : Cg w0 w p g b vP vC vF vB c f vLo hi vM vS vL v s) (a b' bits at_ : Int) : Calls Tryd.prog 45 #[.pointer (some ⟨g, 0, none⟩), .pointer (some ⟨b, 0, none⟩), .agg #[.int .i64 16, .int .i64 a, .int .i64 b', .int .u64 bits, .int .i64 at_]] w (GkP p w b w0.heap.size (changeM c f.lo ⟨16, a, b', bits, at_⟩ s)) := by
  have EM : Hid (changeM c f.lo ⟨16, a, b', bits, at_⟩ s = some s) := hide (by simp [changeM])
  generalize changeM c f.lo ⟨16, a, b', bits, at_⟩ s = o at *
  have AB := hide (bel_new w (.cells #[.int .i64 16, .int .i64 a, .int .i64 b', .int .u64 bits, .int .i64 at_] 44))
  have V0 := hide (Go.Deep.blk_alloc_new w (.cells #[.int .i64 16, .int .i64 a, .int .i64 b', .int .u64 bits, .int .i64 at_] 44))
  have hz1 : (w.alloc (.cells #[.int .i64 16, .int .i64 a, .int .i64 b', .int .u64 bits, .int .i64 at_] 44)).heap.size = w.heap.size + 1 := by simp
  have SZ1 := hide hz1
  clear hz1
  have H1 := hide (h.low AB.out)
  have B1 := hide (AB.out.mono h.sk.low)
  have KS := hide (And.intro h.sk AB.out)
  clear h AB
  have x0 := blk_cell V0.out 0 _ rfl
  have x1 := blk_cell V0.out 1 _ rfl
  clear V0
  go_enter Tryd.func45, Tryd.ntmps45
  go_wp2_with fail
  generalize w.alloc (.cells #[.int .i64 16, .int .i64 a, .int .i64 b', .int .u64 bits, .int .i64 at_] 44) = w1 at *
  go_end0
  exact GkP.yes EM.out (KS.out.1.bel KS.out.2) B1.out
set_option maxRecDepth 20000 in
set_option maxHeartbeats 2000000 in
theorem change_24 {w0 w : World} {p : List Addr} {g b : Nat} {vP vC vF vB vLo vM vS vL v : Value} {c : Cd} {f : Fn3} {hi : Int} {s : List Int} (h : Cg w0 w p g b vP vC vF vB c f vLo hi vM vS vL v s) (a b' bits at_ : Int) : Calls Tryd.prog 45 #[.pointer (some ⟨g, 0, none⟩), .pointer (some ⟨b, 0, none⟩), .agg #[.int .i64 24, .int .i64 a, .int .i64 b', .int .u64 bits, .int .i64 at_]] w (GkP p w b w0.heap.size (changeM c f.lo ⟨24, a, b', bits, at_⟩ s)) := by
  have EM : Hid (changeM c f.lo ⟨24, a, b', bits, at_⟩ s = some s) := hide (by simp [changeM])
  generalize changeM c f.lo ⟨24, a, b', bits, at_⟩ s = o at *
  have AB := hide (bel_new w (.cells #[.int .i64 24, .int .i64 a, .int .i64 b', .int .u64 bits, .int .i64 at_] 44))
  have V0 := hide (Go.Deep.blk_alloc_new w (.cells #[.int .i64 24, .int .i64 a, .int .i64 b', .int .u64 bits, .int .i64 at_] 44))
  have hz1 : (w.alloc (.cells #[.int .i64 24, .int .i64 a, .int .i64 b', .int .u64 bits, .int .i64 at_] 44)).heap.size = w.heap.size + 1 := by simp
  have SZ1 := hide hz1
  clear hz1
  have H1 := hide (h.low AB.out)
  have B1 := hide (AB.out.mono h.sk.low)
  have KS := hide (And.intro h.sk AB.out)
  clear h AB
  have x0 := blk_cell V0.out 0 _ rfl
  have x1 := blk_cell V0.out 1 _ rfl
  clear V0
  go_enter Tryd.func45, Tryd.ntmps45
  go_wp2_with fail
  generalize w.alloc (.cells #[.int .i64 24, .int .i64 a, .int .i64 b', .int .u64 bits, .int .i64 at_] 44) = w1 at *
  go_end0
  exact GkP.yes EM.out (KS.out.1.bel KS.out.2) B1.out
end Go.Proofs.YtidjbgemnohbnaaDoor.Ck

/- Package proofread: change, by instruction. (Written by mk_f.py.) -/
namespace Go.Proofs.YtidjbgemnohbnaaDoor.Ck
open Go.RowKit

set_option maxRecDepth 20000 in
set_option maxHeartbeats 2000000 in
theorem change_4 {w0 w : World} {p : List Addr} {g b : Nat} {vP vC vF vB vLo vM vS vL v : Value} {c : Cd} {f : Fn3} {hi : Int} {s : List Int} (h : Cg w0 w p g b vP vC vF vB c f vLo hi vM vS vL v s) (n : Nat) (b' bits at_ : Int) : Calls Tryd.prog 45 #[.pointer (some ⟨g, 0, none⟩), .pointer (some ⟨b, 0, none⟩), .agg #[.int .i64 4, .int .i64 (n : Nat), .int .i64 b', .int .u64 bits, .int .i64 at_]] w (GkP p w b w0.heap.size (changeM c f.lo ⟨4, (n : Nat), b', bits, at_⟩ s)) := by
  have EM : Hid (changeM c f.lo ⟨4, (n : Nat), b', bits, at_⟩ s = (if (n : Int) < f.lo.length then some (s ++ [f.lo.getD n 0]) else none)) := hide (by simp [changeM])
  generalize changeM c f.lo ⟨4, (n : Nat), b', bits, at_⟩ s = o at *
  have AB := hide (bel_new w (.cells #[.int .i64 4, .int .i64 (n : Nat), .int .i64 b', .int .u64 bits, .int .i64 at_] 44))
  have V0 := hide (Go.Deep.blk_alloc_new w (.cells #[.int .i64 4, .int .i64 (n : Nat), .int .i64 b', .int .u64 bits, .int .i64 at_] 44))
  have hz1 : (w.alloc (.cells #[.int .i64 4, .int .i64 (n : Nat), .int .i64 b', .int .u64 bits, .int .i64 at_] 44)).heap.size = w.heap.size + 1 := by simp
  have SZ1 := hide hz1
  clear hz1
  have H1 := hide (h.low AB.out)
  have B1 := hide (AB.out.mono h.sk.low)
  have LO := hide (local_any H1.out.er H1.out.rr n)
  have FT := hide h.rr.lo.fits
  clear h AB
  have x0 := blk_cell V0.out 0 _ rfl
  have x1 := blk_cell V0.out 1 _ rfl
  clear V0
  go_enter Tryd.func45, Tryd.ntmps45
  go_wp2_with fail
  generalize w.alloc (.cells #[.int .i64 4, .int .i64 (n : Nat), .int .i64 b', .int .u64 bits, .int .i64 at_] 44) = w1 at *
  by_cases hn : (n : Int) < f.lo.length
  · rw [if_pos hn] at LO EM
    have hl : n < f.lo.length := by omega
    have F1 := hide (fits1 FT.out hl)
    generalize f.lo.getD n 0 = t at *
    clear hn hl FT
    refine LO.out.mono ?_
    rintro e w2 ⟨rfl, rfl⟩
    clear LO
    go_wp2_with fail
    have CC := hide (H1.out.push t)
    refine CC.out.mono ?_
    intro e w2 hp
    rcases hp.both with ⟨s2, v2, hs, rfl, k2, b2⟩ | ⟨hs, rfl, b2⟩
    rotate_left 1
    · cases hs
    have Z := hide (And.intro k2 (And.intro b2 hs))
    clear k2 b2 hs hp CC
    go_wp2_with fail
    go_end0
    exact GkP.yes (EM.out.trans Z.out.2.2) Z.out.1 (B1.out.trans Z.out.2.1)
  · rw [if_neg hn] at LO EM
    refine LO.out.mono ?_
    rintro e w2 ⟨rfl, rfl⟩
    exact ⟨rfl, GkP.no EM.out B1.out⟩
set_option maxRecDepth 20000 in
set_option maxHeartbeats 2000000 in
theorem change_5 {w0 w : World} {p : List Addr} {g b : Nat} {vP vC vF vB vLo vM vS vL v : Value} {c : Cd} {f : Fn3} {hi : Int} {s : List Int} (h : Cg w0 w p g b vP vC vF vB c f vLo hi vM vS vL v s) (n : Nat) (b' bits at_ : Int) : Calls Tryd.prog 45 #[.pointer (some ⟨g, 0, none⟩), .pointer (some ⟨b, 0, none⟩), .agg #[.int .i64 5, .int .i64 (n : Nat), .int .i64 b', .int .u64 bits, .int .i64 at_]] w (GkP p w b w0.heap.size (changeM c f.lo ⟨5, (n : Nat), b', bits, at_⟩ s)) := by
  have EM : Hid (changeM c f.lo ⟨5, (n : Nat), b', bits, at_⟩ s = (if (n : Int) < f.lo.length then takeM [f.lo.getD n 0] s else none)) := hide (by simp [changeM])
  generalize changeM c f.lo ⟨5, (n : Nat), b', bits, at_⟩ s = o at *
  have AB := hide (bel_new w (.cells #[.int .i64 5, .int .i64 (n : Nat), .int .i64 b', .int .u64 bits, .int .i64 at_] 44))
  have V0 := hide (Go.Deep.blk_alloc_new w (.cells #[.int .i64 5, .int .i64 (n : Nat), .int .i64 b', .int .u64 bits, .int .i64 at_] 44))
  have hz1 : (w.alloc (.cells #[.int .i64 5, .int .i64 (n : Nat), .int .i64 b', .int .u64 bits, .int .i64 at_] 44)).heap.size = w.heap.size + 1 := by simp
  have SZ1 := hide hz1
  clear hz1
  have H1 := hide (h.low AB.out)
  have B1 := hide (AB.out.mono h.sk.low)
  have LO := hide (local_any H1.out.er H1.out.rr n)
  have FT := hide h.rr.lo.fits
  clear h AB
  have x0 := blk_cell V0.out 0 _ rfl
  have x1 := blk_cell V0.out 1 _ rfl
  clear V0
  go_enter Tryd.func45, Tryd.ntmps45
  go_wp2_with fail
  generalize w.alloc (.cells #[.int .i64 5, .int .i64 (n : Nat), .int .i64 b', .int .u64 bits, .int .i64 at_] 44) = w1 at *
  by_cases hn : (n : Int) < f.lo.length
  · rw [if_pos hn] at LO EM
    have hl : n < f.lo.length := by omega
    have F1 := hide (fits1 FT.out hl)
    generalize f.lo.getD n 0 = t at *
    clear hn hl FT
    refine LO.out.mono ?_
    rintro e w2 ⟨rfl, rfl⟩
    clear LO
    go_wp2_with fail
    have CC := hide (H1.out.take1 t F1.out)
    refine CC.out.mono ?_
    intro e w2 hp
    rcases hp.both with ⟨s2, v2, hs, rfl, k2, b2⟩ | ⟨hs, rfl, b2⟩
    rotate_left 1
    · exact ⟨rfl, GkP.no (by rw [EM.out]; first | exact hs | (rw [hs]; rfl)) (B1.out.trans b2)⟩
    have Z := hide (And.intro k2 (And.intro b2 hs))
    clear k2 b2 hs hp CC
    go_wp2_with fail
    go_end0
    exact GkP.yes (EM.out.trans Z.out.2.2) Z.out.1 (B1.out.trans Z.out.2.1)
  · rw [if_neg hn] at LO EM
    refine LO.out.mono ?_
    rintro e w2 ⟨rfl, rfl⟩
    exact ⟨rfl, GkP.no EM.out B1.out⟩
end Go.Proofs.YtidjbgemnohbnaaDoor.Ck
