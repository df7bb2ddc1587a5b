/- Package code: an entry is read. (Written by mk_e.py.) -/
import Derived.Test.YtigfjjolfeenaaaDoorEd
namespace Go.Proofs.YtigfjjolfeenaaaDoor.Ck
open Go.RowKit

theorem own_low {w : World} {B B' : Nat} {T : TypeId} {n : Nat} {v : Value} {len : Nat} {xs : List Value} (h : w.ownsRow B T n v len xs) (hB : B' ≤ B) : w.ownsRow B' T n v len xs := by
  obtain ⟨hl, h0 | ⟨gb, cap, cur, e, h1, r⟩⟩ := h
  · exact ⟨hl, .inl h0⟩
  · exact ⟨hl, .inr ⟨gb, cap, cur, e, Nat.le_trans hB h1, r⟩⟩
theorem own_other {w w' : World} {B B2 : Nat} {T T2 : TypeId} {n n2 : Nat} {v v2 : Value} {len len2 : Nat} {xs xs2 : List Value} (h : w.ownsRow B T n v len xs) (h2 : w.ownsRow B2 T2 n2 v2 len2 xs2) (ht : T ≠ T2) (g : w.grownBy w' v2.ownBlock) : w'.ownsRow B T n v len xs :=
  own_keep h (fun k hk => g.block k (own_type h hk).2.1 (fun e => by
    obtain ⟨_, _, c, e1⟩ := own_type h hk
    obtain ⟨_, _, c2, e2⟩ := own_type h2 e.symm
    rw [e1] at e2
    cases e2
    exact ht rfl))
def rFnS : Pz Fn3 := rBind (rNum 4) fun s => rBind (rNum 4) fun p => rBind (rNum 4) fun n => rBind (rSev (rNum 4) n) fun l => rPure ⟨s, p, l⟩
def EnV (B : Nat) (w : World) (v : Value) (f : Fn3) : Prop := ∃ vl, v = .agg #[.int .i64 f.st, .int .i64 f.pa, vl] ∧ w.ownsRow B 3 1 vl f.lo.length (cls_int f.lo)
set_option maxRecDepth 20000 in
set_option maxHeartbeats 4000000 in
theorem rentry_any {w : World} {g B : Nat} {p : List Addr} {l : List Int} (h : Rd w g B p l) : Calls Tryd.prog 49 #[.pointer (some ⟨g, 0, none⟩)] w (RdP rFnS (EnV w.heap.size) w g B p l) := by
  have hmf : ∀ (fn : Fn) (first cap : Array Value) (w : World), (Instr.makeFunc fn first cap).run Tryd.prog w = .ok (.func fn first cap) w := fun _ _ _ _ => rfl
  have b0 := bel_new w (.cells #[.int .i64 0, .int .i64 0, .slice none 0 0] 47)
  have K0 := hide (show (w.alloc (.cells #[.int .i64 0, .int .i64 0, .slice none 0 0] 47)).heap[w.heap.size]? = some (.cells #[.int .i64 0, .int .i64 0, .slice none 0 0] 47 (0, 0)) from Go.Deep.blk_alloc_new _ _)
  have R0 := hide (h.bel b0)
  have T0 := hide (Tn.of_bel (g := g) b0)
  have HW := hide h.BW
  have hg : Hid (w.heap.size ≠ g) := hide (by have := h.gB; have := h.BW; omega)
  clear h b0
  go_enter Tryd.func49, Tryd.ntmps49
  go_wp2_with fail
  generalize w.alloc (.cells #[.int .i64 0, .int .i64 0, .slice none 0 0] 47) = w1 at *
  refine (number_any R0.out).mono ?_
  intro e w2 hp
  rcases hp.both with ⟨s, r1, v, h1, rfl, rfl, h2, h3⟩ | ⟨h1, rfl, h3⟩
  case inr => exact ⟨rfl, RdP.stop (T0.out.trans h3) (rBind_none h1)⟩
  have K1 := hide ((h3.blk _ (lt_of_blk K0.out) hg.out).trans K0.out)
  have T1 := hide (T0.out.trans h3)
  have R1 := hide h2
  have H0 := hide h1
  have Y0 := hide (rNum_rng h1 R0.out.b)
  clear h1 h2 h3 hp T0 K0
  go_wp2_with fail
  refine (number_any R1.out).mono ?_
  intro e w3 hp
  rcases hp.both with ⟨q, r2, v, h1, rfl, rfl, h2, h3⟩ | ⟨h1, rfl, h3⟩
  case inr => exact ⟨rfl, RdP.stop (T1.out.trans h3) ((rBind_some H0.out).trans (rBind_none h1))⟩
  have K2 := hide ((h3.blk _ (lt_of_blk K1.out) hg.out).trans K1.out)
  have T2 := hide (T1.out.trans h3)
  have R2 := hide h2
  have H1 := hide h1
  have Y1 := hide (rNum_rng h1 R1.out.b)
  clear h1 h2 h3 hp T1 K1
  have nb := bel_new w3 (.cells #[.int .i64 s, .int .i64 q, .slice none 0 0] 47)
  have J2 := hide (show (w3.alloc (.cells #[.int .i64 s, .int .i64 q, .slice none 0 0] 47)).heap[w3.heap.size]? = some (.cells #[.int .i64 s, .int .i64 q, .slice none 0 0] 47 (0, 0)) from Go.Deep.blk_alloc_new _ _)
  have hwb : Hid (w.heap.size < w3.heap.size) := hide (lt_of_blk K2.out)
  have hgb : Hid (w3.heap.size ≠ g) := hide (by have := R2.out.gB; have := R2.out.BW; omega)
  have hBb : Hid (B ≤ w3.heap.size) := hide R2.out.BW
  replace K2 := hide ((nb.block _ (lt_of_blk K2.out)).trans K2.out)
  replace R2 := hide (R2.out.bel nb)
  replace T2 := hide (T2.out.trans (Tn.of_bel nb))
  clear nb
  go_wp2_with fail
  generalize w3.alloc (.cells #[.int .i64 s, .int .i64 q, .slice none 0 0] 47) = w4 at *
  generalize w3.heap.size = b3 at *
  refine (number_any R2.out).mono ?_
  intro e w5 hp
  rcases hp.both with ⟨n, r3, v, h1, rfl, rfl, h2, h3⟩ | ⟨h1, rfl, h3⟩
  case inr => exact ⟨rfl, RdP.stop (T2.out.trans h3) ((rBind_some H0.out).trans ((rBind_some H1.out).trans (rBind_none h1)))⟩
  have K3 := hide ((h3.blk _ (lt_of_blk K2.out) hg.out).trans K2.out)
  have J3 := hide ((h3.blk _ (lt_of_blk J2.out) hgb.out).trans J2.out)
  have T3 := hide (T2.out.trans h3)
  have R3 := hide h2
  have H2 := hide h1
  have Y2 := hide (rNum_rng h1 R2.out.b)
  clear h1 h2 h3 hp T2 K2 J2
  go_wp2_with fail
  refine (several_int R3.out n Y2.out.1).mono ?_
  intro e w6 hp
  rcases hp.both with ⟨lo, r4, v, h1, rfl, O, h2, h3⟩ | ⟨h1, rfl, h3⟩
  case inr => exact ⟨rfl, RdP.stop (T3.out.trans h3) ((rBind_some H0.out).trans ((rBind_some H1.out).trans ((rBind_some H2.out).trans (rBind_none h1))))⟩
  obtain ⟨al, cl, e, _⟩ := own_slice O
  subst e
  have K4 := (h3.blk _ (lt_of_blk K3.out) hg.out).trans K3.out
  have J4 := (h3.blk _ (lt_of_blk J3.out) hgb.out).trans J3.out
  have hb5 : b3 < w5.heap.size := lt_of_blk J3.out
  have HE : Hid (rFnS l = some (⟨s, q, lo⟩, r4)) := hide ((rBind_some H0.out).trans ((rBind_some H1.out).trans ((rBind_some H2.out).trans ((rBind_some h1).trans rfl))))
  have c2 := blk_cell J4 2 _ rfl
  have f2 := blk_frz J4 2
  obtain ⟨j5, t5⟩ := set1 J4 2 (.slice al lo.length cl)
  have k5 := (t5.blk _ (lt_of_blk K4) (by have := hwb.out; omega)).trans K4
  have O5 := own_keep O (fun k hk => t5.blk k (own_type O hk).2.1 (by have := (own_type O hk).1; omega))
  have T5 := (T3.out.trans h3).next t5 (by have := hwb.out; omega)
  have R5 := h2.tn t5 hBb.out
  have d0 := blk_cell j5 0 _ rfl
  have d1 := blk_cell j5 1 _ rfl
  have d2 := blk_cell j5 2 _ rfl
  have e0 := blk_cell k5 0 _ rfl
  have e1 := blk_cell k5 1 _ rfl
  have e2 := blk_cell k5 2 _ rfl
  have g0 := blk_frz k5 0
  have g1 := blk_frz k5 1
  have g2 := blk_frz k5 2
  obtain ⟨k6, t6⟩ := set1 k5 0 (.int .i64 s)
  obtain ⟨k7, t7⟩ := set1 k6 1 (.int .i64 q)
  obtain ⟨k8, t8⟩ := set1 k7 2 (.slice al lo.length cl)
  have TT := (t6.trans t7).trans t8
  have KF := hide k8
  have TF := hide (T5.next TT (Nat.le_refl _))
  have RF := hide (R5.tn TT HW.out)
  have OF := hide (own_low (own_keep O5 (fun k hk => TT.blk k (own_type O5 hk).2.1 (by have := (own_type O5 hk).1; have := hwb.out; omega))) (show w.heap.size ≤ w5.heap.size by have := hwb.out; omega))
  clear k6 t6 k7 t7 k8 t8 TT j5 k5 t5 O O5 T5 R5 K4 J4 h1 h2 h3 hp H0 H1 H2 Y0 Y1 Y2 R0 R1 R2 R3 T3 K3 J3
  go_wp2_with fail
  exact ret_agg w.heap.size _ rfl rfl rfl KF.out Tryd.underlying47 (by kernel_rfl) rfl (RdP.ok TF.out HE.out ⟨_, rfl, OF.out⟩ RF.out)
end Go.Proofs.YtigfjjolfeenaaaDoor.Ck
