/- Package proofread: change, by instruction. (Written by mk_f.py.) -/
import Derived.Test.YtlheflkdapckbaaDoorPf
import Derived.Test.YtlheflkdapckbaaDoorCno
import Derived.Test.YtlheflkdapckbaaDoorCn
import Derived.Deep.CutRange
namespace Go.Proofs.YtlheflkdapckbaaDoor.Ck
open Go.RowKit

set_option maxRecDepth 20000 in
set_option maxHeartbeats 2000000 in
theorem change_8 {w0 w : World} {p : List Addr} {g b : Nat} {vP vC vF vB vLo vM vS vL v : Value} {c : Cd} {f : Fn3} {hi : Int} {s : List Int} (h : Cg w0 w p g b vP vC vF vB c f vLo hi vM vS vL v s) (n : Nat) (b' bits at_ : Int) (hn : n < c.P.length) : Calls Tryd.prog 47 #[.pointer (some ⟨g, 0, none⟩), .pointer (some ⟨b, 0, none⟩), .agg #[.int .i64 8, .int .i64 (n : Nat), .int .i64 b', .int .u64 bits, .int .i64 at_]] w (GkP p w b w0.heap.size (changeM c f.lo ⟨8, (n : Nat), b', bits, at_⟩ s)) := by
  have EM : Hid (changeM c f.lo ⟨8, (n : Nat), b', bits, at_⟩ s = (takeM [1] s).map fun s' => s' ++ [c.P.getD n 0]) := hide (by simp [changeM])
  generalize changeM c f.lo ⟨8, (n : Nat), b', bits, at_⟩ s = o at *
  have AB := hide (bel_new w (.cells #[.int .i64 8, .int .i64 (n : Nat), .int .i64 b', .int .u64 bits, .int .i64 at_] 44))
  have V0 := hide (Go.Deep.blk_alloc_new w (.cells #[.int .i64 8, .int .i64 (n : Nat), .int .i64 b', .int .u64 bits, .int .i64 at_] 44))
  have hz1 : (w.alloc (.cells #[.int .i64 8, .int .i64 (n : Nat), .int .i64 b', .int .u64 bits, .int .i64 at_] 44)).heap.size = w.heap.size + 1 := by simp
  have SZ1 := hide hz1
  clear hz1
  have H1 := hide (h.low AB.out)
  have B1 := hide (AB.out.mono h.sk.low)
  have NBX : Hid (w.heap.size ≠ b) := hide (fun e => by have h1 := lt_of_blk h.sk.at_; omega)
  have HNN := hide hn
  obtain ⟨t, ht⟩ : ∃ t, t = c.P.getD n 0 := ⟨_, rfl⟩
  rw [← ht] at EM
  have HT := hide ht
  clear hn ht
  clear h AB
  have x0 := blk_cell V0.out 0 _ rfl
  have x1 := blk_cell V0.out 1 _ rfl
  clear V0
  go_enter Tryd.func47, Tryd.ntmps47
  go_wp2_with fail
  generalize w.alloc (.cells #[.int .i64 8, .int .i64 (n : Nat), .int .i64 b', .int .u64 bits, .int .i64 at_] 44) = w1 at *
  have CC := hide (H1.out.tk1 1 (fits_k (by decide) (by decide)))
  rw [SZ1.out] at CC
  refine CC.out.mono ?_
  intro e w2 hp
  rcases hp.both with ⟨s2, v2, hs, rfl, k2, t2⟩ | ⟨hs, rfl, t2⟩
  rotate_left 1
  · exact ⟨rfl, GkP.no (by rw [EM.out, hs]; rfl) (B1.out.trans (((bel_new w1 (.cells #[.int .i64 1] 3)).mono H1.out.sk.low).trans (t2.bel H1.out.sk.hb (Nat.le_trans H1.out.sk.low (bel_new w1 (.cells #[.int .i64 1] 3)).size))))⟩
  have x1n := t2.cell (cell_new x1 (.cells #[.int .i64 1] 3)) NBX.out
  have BN := hide (((bel_new w1 (.cells #[.int .i64 1] 3)).mono H1.out.sk.low).trans (t2.bel H1.out.sk.hb (Nat.le_trans H1.out.sk.low (bel_new w1 (.cells #[.int .i64 1] 3)).size)))
  have H2 := hide (H1.out.next k2 BN.out (Nat.le_trans (takeM_len hs) H1.out.n))
  have BD := hide (B1.out.trans BN.out)
  have EM2 := hide (EM.out.trans (by rw [hs]; rfl : _ = some (s2 ++ [t])))
  clear hp CC k2 t2 hs x0 x1 B1 H1 EM BN
  have B1 := BD
  have H1 := H2
  have EM := EM2
  clear BD H2 EM2
  obtain ⟨aP, cP, eP, _⟩ := H1.out.rr.cv.P.form
  subst eP
  have y0 := blk_cell H1.out.rr.at_ 0 _ rfl
  obtain ⟨bP, oP, e9, hbP, zP⟩ := H1.out.rr.cv.P.at n HNN.out
  subst e9
  rw [← HT.out] at zP
  obtain ⟨m, hm⟩ : ∃ m, m = c.P.length := ⟨_, rfl⟩
  rw [← hm] at y0
  have hn1 : (n : Int) < (m : Int) := by have := HNN.out; omega
  have hn0 : n < m := by have := HNN.out; omega
  clear hbP hm
  generalize w2 = w1 at *
  go_wp2_with fail
  refine wp_quiet_tail 10 mixed (by kernel_rfl) ?_
  simp only [List.take_succ_cons, List.take_zero, List.drop_succ_cons, List.drop_zero]
  repeat (first | go_big_quiet_skip | (go_big_quiet_want; go_big_quiet_op; go_big_quiet_on))
  refine wpQuiet_nil ?_
  go_wp2_with fail
  have SZD : Hid (w1.drew.heap.size = w1.heap.size) := hide (by simp)
  have HD := hide (H1.out.low (bel_drawn (Below.refl _ _)))
  have BD := hide (B1.out.trans ((bel_drawn (n := w1.heap.size) (Below.refl _ _)).mono H1.out.sk.low))
  clear B1 H1
  have B1 := BD
  have H1 := HD
  clear BD HD
  generalize w1.drew = wd at *
  have CC := hide (H1.out.push t)
  refine CC.out.mono ?_
  intro e w2 hp
  rcases hp.both with ⟨s2, v2, hs, rfl, k2, b2⟩ | ⟨hs, rfl, b2⟩
  rotate_left 1
  · cases hs
  have Z := hide (And.intro k2 (And.intro b2 hs))
  clear k2 b2 hs hp CC
  go_wp2_with fail
  go_end0
  exact GkP.yes (EM.out.trans Z.out.2.2) Z.out.1 (B1.out.trans Z.out.2.1)
end Go.Proofs.YtlheflkdapckbaaDoor.Ck
