/- Package code: a whole code is read. (Written by mk_e.py.) -/
import Derived.Test.YtigfjjolfeenaaaDoorEf
namespace Go.Proofs.YtigfjjolfeenaaaDoor.Ck
open Go.RowKit

/-- what lies from S on stays -/
def Kp (S : Nat) (w w' : World) : Prop := ∀ k, S ≤ k → k < w.heap.size → w'.heap[k]? = w.heap[k]?
theorem Kp.tn {S c : Nat} {w w' : World} (t : Tn c w w') (h : c < S) : Kp S w w' := fun k hk hl => t.blk k hl (by omega)
structure OwnR (S : Nat) (T : TypeId) (sz : Nat) (w : World) (v : Value) (n : Nat) (xs : List Value) : Prop where
  own : w.ownsRow S T sz v n xs
theorem OwnR.kp {S : Nat} {T : TypeId} {sz : Nat} {w w' : World} {v : Value} {n : Nat} {xs : List Value} (h : OwnR S T sz w v n xs) (t : Kp S w w') : OwnR S T sz w' v n xs := ⟨own_keep h.own (fun k hk => t k (own_type h.own hk).1 (own_type h.own hk).2.1)⟩
theorem OwnR.form {S : Nat} {T : TypeId} {sz : Nat} {w : World} {v : Value} {n : Nat} {xs : List Value} (h : OwnR S T sz w v n xs) : ∃ a c, v = .slice a n c := by
  obtain ⟨a, c, e, _⟩ := own_slice h.own
  exact ⟨a, c, e⟩
theorem _root_.Go.World.ownsRow.low {S S' : Nat} {T : TypeId} {sz : Nat} {w : World} {v : Value} {n : Nat} {xs : List Value} (h : w.ownsRow S T sz v n xs) (hs : S' ≤ S) : OwnR S' T sz w v n xs := ⟨own_low h hs⟩
theorem Ents.kp {S : Nat} {w w' : World} {v : Value} {F : List Fn3} (h : Ents S w v F) (t : Kp S w w') : Ents S w' v F := by
  obtain ⟨ys, e, h1, h2⟩ := h
  exact ⟨ys, e, own_keep h1 (fun k hk => t k (own_type h1 hk).1 (own_type h1 hk).2.1), h2.keep t⟩
theorem Ents.low {S S' : Nat} {w : World} {v : Value} {F : List Fn3} (h : Ents S w v F) (hs : S' ≤ S) : Ents S' w v F := by
  obtain ⟨ys, e, h1, h2⟩ := h
  exact ⟨ys, e, own_low h1 hs, fun y hy => own_low (h2 y hy) hs⟩
theorem Ents.form {S : Nat} {w : World} {v : Value} {F : List Fn3} (h : Ents S w v F) : ∃ a c, v = .slice a F.length c := by
  obtain ⟨ys, e, h1, h2⟩ := h
  obtain ⟨a, c, e, _⟩ := own_slice h1
  exact ⟨a, c, e⟩
/-- nothing may be left -/
def rEnd {α : Type} (x : α) : Pz α := fun l => if l.length = 0 then some (x, l) else none
def rCodeS : Pz Cd := rBind (rNum 4) fun n0 => rBind (rNum 4) fun n1 => rBind (rNum 4) fun n2 => rBind (rNum 4) fun n3 => rBind (rNum 4) fun n4 => rBind (rNum 4) fun n5 => rBind (rNum 4) fun n6 =>
  rBind (rSev (rNum 4) n0) fun P => rBind (rSev rChan n3) fun C => rBind (rSev rFnS n4) fun F => rBind (rSev rIns n5) fun B => rEnd ⟨P, n1, n2, C, F, B, n6⟩
structure CdR (S : Nat) (w : World) (vP vC vF vB : Value) (c : Cd) : Prop where
  P : OwnR S 3 1 w vP c.P.length (cls_int c.P)
  C : OwnR S 56 2 w vC c.C.length (cls_apiChan c.C)
  F : Ents S w vF c.F
  B : OwnR S 50 5 w vB c.B.length (cls_apiInstr c.B)
theorem CdR.low {S S' : Nat} {w : World} {vP vC vF vB : Value} {c : Cd} (h : CdR S w vP vC vF vB c) (hs : S' ≤ S) : CdR S' w vP vC vF vB c := ⟨h.P.own.low hs, h.C.own.low hs, h.F.low hs, h.B.own.low hs⟩
def CdV (S : Nat) (w : World) (v : Value) (c : Cd) : Prop := ∃ vP vC vF vB, v = .agg #[vP, .int .i64 c.M, .int .i64 c.A, vC, vF, .int .i64 c.mn, vB] ∧ CdR S w vP vC vF vB c
set_option maxRecDepth 20000 in
set_option maxHeartbeats 8000000 in
theorem rcode_any {w : World} {g B : Nat} {p : List Addr} {l : List Int} (h : Rd w g B p l) : Calls Tryd.prog 28 #[.pointer (some ⟨g, 0, none⟩)] w (RdP rCodeS (CdV w.heap.size) w g B p l) := by
  have hmf : ∀ (fn : Fn) (first cap : Array Value) (w : World), (Instr.makeFunc fn first cap).run Tryd.prog w = .ok (.func fn first cap) w := fun _ _ _ _ => rfl
  have b0 := bel_new w (.cells #[.slice none 0 0, .int .i64 0, .int .i64 0, .slice none 0 0, .slice none 0 0, .int .i64 0, .slice none 0 0] 27)
  have b1 := bel_new (w.alloc (.cells #[.slice none 0 0, .int .i64 0, .int .i64 0, .slice none 0 0, .slice none 0 0, .int .i64 0, .slice none 0 0] 27)) (.cells #[.slice none 0 0, .int .i64 0, .int .i64 0, .slice none 0 0, .slice none 0 0, .int .i64 0, .slice none 0 0] 27)
  have hs : (w.alloc (.cells #[.slice none 0 0, .int .i64 0, .int .i64 0, .slice none 0 0, .slice none 0 0, .int .i64 0, .slice none 0 0] 27)).heap.size = w.heap.size + 1 := by simp
  have hs2 : ((w.alloc (.cells #[.slice none 0 0, .int .i64 0, .int .i64 0, .slice none 0 0, .slice none 0 0, .int .i64 0, .slice none 0 0] 27)).alloc (.cells #[.slice none 0 0, .int .i64 0, .int .i64 0, .slice none 0 0, .slice none 0 0, .int .i64 0, .slice none 0 0] 27)).heap.size = w.heap.size + 2 := by simp
  have K0 := hide ((b1.block _ (by rw [hs]; omega)).trans (show (w.alloc (.cells #[.slice none 0 0, .int .i64 0, .int .i64 0, .slice none 0 0, .slice none 0 0, .int .i64 0, .slice none 0 0] 27)).heap[w.heap.size]? = some (.cells #[.slice none 0 0, .int .i64 0, .int .i64 0, .slice none 0 0, .slice none 0 0, .int .i64 0, .slice none 0 0] 27 (0, 0)) from Go.Deep.blk_alloc_new _ _))
  have J0 : Hid (((w.alloc (.cells #[.slice none 0 0, .int .i64 0, .int .i64 0, .slice none 0 0, .slice none 0 0, .int .i64 0, .slice none 0 0] 27)).alloc (.cells #[.slice none 0 0, .int .i64 0, .int .i64 0, .slice none 0 0, .slice none 0 0, .int .i64 0, .slice none 0 0] 27)).heap[w.heap.size + 1]? = some (.cells #[.slice none 0 0, .int .i64 0, .int .i64 0, .slice none 0 0, .slice none 0 0, .int .i64 0, .slice none 0 0] 27 (0, 0))) := hide (by rw [← hs]; exact Go.Deep.blk_alloc_new _ _)
  have R0 := hide ((h.bel b0).bel b1)
  have T0 := hide ((Tn.of_bel (g := g) b0).trans (Tn.of_bel (g := g) b1))
  have HW := hide h.BW
  have hg2 : Hid (w.heap.size ≠ g) := hide (by have := h.gB; have := h.BW; omega)
  have hg3 : Hid (w.heap.size + 1 ≠ g) := hide (by have := h.gB; have := h.BW; omega)
  obtain ⟨S, hS⟩ : ∃ S, S = w.heap.size + 2 := ⟨_, rfl⟩
  have S0 : Hid (S ≤ ((w.alloc (.cells #[.slice none 0 0, .int .i64 0, .int .i64 0, .slice none 0 0, .slice none 0 0, .int .i64 0, .slice none 0 0] 27)).alloc (.cells #[.slice none 0 0, .int .i64 0, .int .i64 0, .slice none 0 0, .slice none 0 0, .int .i64 0, .slice none 0 0] 27)).heap.size) := hide (by rw [hs2, hS]; exact Nat.le_refl _)
  have hBb : Hid (B ≤ w.heap.size + 1) := hide (Nat.le_succ_of_le h.BW)
  have hb3 : Hid (w.heap.size ≤ w.heap.size + 1) := hide (Nat.le_succ _)
  have hb23 : Hid (w.heap.size ≠ w.heap.size + 1) := hide (by omega)
  have hS3 : Hid (w.heap.size + 1 < S) := hide (by omega)
  have hS2 : Hid (w.heap.size < S) := hide (by omega)
  have hSg : Hid (g < S) := hide (by have := h.gB; have := h.BW; omega)
  clear h b0 b1 hs hs2 hS
  go_enter Tryd.func28, Tryd.ntmps28
  go_wp2_with fail
  generalize (w.alloc (.cells #[.slice none 0 0, .int .i64 0, .int .i64 0, .slice none 0 0, .slice none 0 0, .int .i64 0, .slice none 0 0] 27)).alloc (.cells #[.slice none 0 0, .int .i64 0, .int .i64 0, .slice none 0 0, .slice none 0 0, .int .i64 0, .slice none 0 0] 27) = w0 at *
  generalize w.heap.size + 1 = b3 at *
  refine (number_any R0.out).mono ?_
  intro e w1 hp
  rcases hp.both with ⟨n0, r1, v, h1, rfl, rfl, h2, h3⟩ | ⟨h1, rfl, h3⟩
  case inr => exact ⟨rfl, RdP.stop (T0.out.trans h3) (rBind_none h1)⟩
  have K1 := hide ((h3.blk _ (lt_of_blk K0.out) hg2.out).trans K0.out)
  have J1 := hide ((h3.blk _ (lt_of_blk J0.out) hg3.out).trans J0.out)
  have T1 := hide (T0.out.trans h3)
  have R1 := hide h2
  have H0 := hide h1
  have Y0 := hide (rNum_rng h1 R0.out.b).1
  have S1 : Hid (S ≤ w1.heap.size) := hide (Nat.le_trans S0.out h3.size)
  clear h1 h2 h3 hp T0 K0 J0 R0 S0
  go_wp2_with fail
  refine (number_any R1.out).mono ?_
  intro e w2 hp
  rcases hp.both with ⟨n1, r2, v, h1, rfl, rfl, h2, h3⟩ | ⟨h1, rfl, h3⟩
  case inr => exact ⟨rfl, RdP.stop (T1.out.trans h3) ((rBind_some H0.out).trans (rBind_none h1))⟩
  have K2 := hide ((h3.blk _ (lt_of_blk K1.out) hg2.out).trans K1.out)
  have J2 := hide ((h3.blk _ (lt_of_blk J1.out) hg3.out).trans J1.out)
  have T2 := hide (T1.out.trans h3)
  have R2 := hide h2
  have H1 := hide h1
  have Y1 := hide (rNum_rng h1 R1.out.b).1
  have S2 : Hid (S ≤ w2.heap.size) := hide (Nat.le_trans S1.out h3.size)
  clear h1 h2 h3 hp T1 K1 J1 R1 S1
  go_wp2_with fail
  refine (number_any R2.out).mono ?_
  intro e w3 hp
  rcases hp.both with ⟨n2, r3, v, h1, rfl, rfl, h2, h3⟩ | ⟨h1, rfl, h3⟩
  case inr => exact ⟨rfl, RdP.stop (T2.out.trans h3) ((rBind_some H0.out).trans ((rBind_some H1.out).trans (rBind_none h1)))⟩
  have K3 := hide ((h3.blk _ (lt_of_blk K2.out) hg2.out).trans K2.out)
  have J3 := hide ((h3.blk _ (lt_of_blk J2.out) hg3.out).trans J2.out)
  have T3 := hide (T2.out.trans h3)
  have R3 := hide h2
  have H2 := hide h1
  have Y2 := hide (rNum_rng h1 R2.out.b).1
  have S3 : Hid (S ≤ w3.heap.size) := hide (Nat.le_trans S2.out h3.size)
  clear h1 h2 h3 hp T2 K2 J2 R2 S2
  have c1 := blk_cell J3.out 1 _ rfl
  have f1 := blk_frz J3.out 1
  have c2 := blk_cell J3.out 2 _ rfl
  have f2 := blk_frz J3.out 2
  obtain ⟨j0, t0⟩ := set1 J3.out 1 (.int .i64 n1)
  obtain ⟨j1, t1⟩ := set1 j0 2 (.int .i64 n2)
  have TT := (t0.trans t1)
  replace K3 := hide ((TT.blk _ (lt_of_blk K3.out) hb23.out).trans K3.out)
  replace J3 : Hid (((w3.setCell ⟨b3, 1, none⟩ (.int .i64 n1)).setCell ⟨b3, 2, none⟩ (.int .i64 n2)).heap[b3]? = some (.cells #[.slice none 0 0, .int .i64 n1, .int .i64 n2, .slice none 0 0, .slice none 0 0, .int .i64 0, .slice none 0 0] 27 (0, 0))) := hide j1
  replace R3 := hide (R3.out.tn TT hBb.out)
  replace T3 := hide (T3.out.next TT hb3.out)
  replace S3 : Hid (S ≤ ((w3.setCell ⟨b3, 1, none⟩ (.int .i64 n1)).setCell ⟨b3, 2, none⟩ (.int .i64 n2)).heap.size) := hide (Nat.le_trans S3.out TT.size)
  clear TT j0 t0 j1 t1
  go_wp2_with fail
  clear c1 f1 c2 f2
  generalize ((w3.setCell ⟨b3, 1, none⟩ (.int .i64 n1)).setCell ⟨b3, 2, none⟩ (.int .i64 n2)) = w3' at *
  refine (number_any R3.out).mono ?_
  intro e w4 hp
  rcases hp.both with ⟨n3, r4, v, h1, rfl, rfl, h2, h3⟩ | ⟨h1, rfl, h3⟩
  case inr => exact ⟨rfl, RdP.stop (T3.out.trans h3) ((rBind_some H0.out).trans ((rBind_some H1.out).trans ((rBind_some H2.out).trans (rBind_none h1))))⟩
  have K4 := hide ((h3.blk _ (lt_of_blk K3.out) hg2.out).trans K3.out)
  have J4 := hide ((h3.blk _ (lt_of_blk J3.out) hg3.out).trans J3.out)
  have T4 := hide (T3.out.trans h3)
  have R4 := hide h2
  have H3 := hide h1
  have Y3 := hide (rNum_rng h1 R3.out.b).1
  have S4 : Hid (S ≤ w4.heap.size) := hide (Nat.le_trans S3.out h3.size)
  clear h1 h2 h3 hp T3 K3 J3 R3 S3
  go_wp2_with fail
  refine (number_any R4.out).mono ?_
  intro e w5 hp
  rcases hp.both with ⟨n4, r5, v, h1, rfl, rfl, h2, h3⟩ | ⟨h1, rfl, h3⟩
  case inr => exact ⟨rfl, RdP.stop (T4.out.trans h3) ((rBind_some H0.out).trans ((rBind_some H1.out).trans ((rBind_some H2.out).trans ((rBind_some H3.out).trans (rBind_none h1)))))⟩
  have K5 := hide ((h3.blk _ (lt_of_blk K4.out) hg2.out).trans K4.out)
  have J5 := hide ((h3.blk _ (lt_of_blk J4.out) hg3.out).trans J4.out)
  have T5 := hide (T4.out.trans h3)
  have R5 := hide h2
  have H4 := hide h1
  have Y4 := hide (rNum_rng h1 R4.out.b).1
  have S5 : Hid (S ≤ w5.heap.size) := hide (Nat.le_trans S4.out h3.size)
  clear h1 h2 h3 hp T4 K4 J4 R4 S4
  go_wp2_with fail
  refine (number_any R5.out).mono ?_
  intro e w6 hp
  rcases hp.both with ⟨n5, r6, v, h1, rfl, rfl, h2, h3⟩ | ⟨h1, rfl, h3⟩
  case inr => exact ⟨rfl, RdP.stop (T5.out.trans h3) ((rBind_some H0.out).trans ((rBind_some H1.out).trans ((rBind_some H2.out).trans ((rBind_some H3.out).trans ((rBind_some H4.out).trans (rBind_none h1))))))⟩
  have K6 := hide ((h3.blk _ (lt_of_blk K5.out) hg2.out).trans K5.out)
  have J6 := hide ((h3.blk _ (lt_of_blk J5.out) hg3.out).trans J5.out)
  have T6 := hide (T5.out.trans h3)
  have R6 := hide h2
  have H5 := hide h1
  have Y5 := hide (rNum_rng h1 R5.out.b).1
  have S6 : Hid (S ≤ w6.heap.size) := hide (Nat.le_trans S5.out h3.size)
  clear h1 h2 h3 hp T5 K5 J5 R5 S5
  go_wp2_with fail
  refine (number_any R6.out).mono ?_
  intro e w7 hp
  rcases hp.both with ⟨n6, r7, v, h1, rfl, rfl, h2, h3⟩ | ⟨h1, rfl, h3⟩
  case inr => exact ⟨rfl, RdP.stop (T6.out.trans h3) ((rBind_some H0.out).trans ((rBind_some H1.out).trans ((rBind_some H2.out).trans ((rBind_some H3.out).trans ((rBind_some H4.out).trans ((rBind_some H5.out).trans (rBind_none h1)))))))⟩
  have K7 := hide ((h3.blk _ (lt_of_blk K6.out) hg2.out).trans K6.out)
  have J7 := hide ((h3.blk _ (lt_of_blk J6.out) hg3.out).trans J6.out)
  have T7 := hide (T6.out.trans h3)
  have R7 := hide h2
  have H6 := hide h1
  have Y6 := hide (rNum_rng h1 R6.out.b).1
  have S7 : Hid (S ≤ w7.heap.size) := hide (Nat.le_trans S6.out h3.size)
  clear h1 h2 h3 hp T6 K6 J6 R6 S6
  have c5 := blk_cell J7.out 5 _ rfl
  have f5 := blk_frz J7.out 5
  obtain ⟨j0, t0⟩ := set1 J7.out 5 (.int .i64 n6)
  have TT := t0
  replace K7 := hide ((TT.blk _ (lt_of_blk K7.out) hb23.out).trans K7.out)
  replace J7 : Hid ((w7.setCell ⟨b3, 5, none⟩ (.int .i64 n6)).heap[b3]? = some (.cells #[.slice none 0 0, .int .i64 n1, .int .i64 n2, .slice none 0 0, .slice none 0 0, .int .i64 n6, .slice none 0 0] 27 (0, 0))) := hide j0
  replace R7 := hide (R7.out.tn TT hBb.out)
  replace T7 := hide (T7.out.next TT hb3.out)
  replace S7 : Hid (S ≤ (w7.setCell ⟨b3, 5, none⟩ (.int .i64 n6)).heap.size) := hide (Nat.le_trans S7.out TT.size)
  clear TT j0 t0
  go_wp2_with fail
  clear c5 f5
  generalize (w7.setCell ⟨b3, 5, none⟩ (.int .i64 n6)) = w7' at *
  refine (several_int R7.out n0 Y0.out).mono ?_
  intro e w8 hp
  rcases hp.both with ⟨P, r8, vP, h1, rfl, o, h2, h3⟩ | ⟨h1, rfl, h3⟩
  case inr => exact ⟨rfl, RdP.stop (T7.out.trans h3) ((rBind_some H0.out).trans ((rBind_some H1.out).trans ((rBind_some H2.out).trans ((rBind_some H3.out).trans ((rBind_some H4.out).trans ((rBind_some H5.out).trans ((rBind_some H6.out).trans (rBind_none h1))))))))⟩
  have K8 := hide ((h3.blk _ (lt_of_blk K7.out) hg2.out).trans K7.out)
  have J8 := hide ((h3.blk _ (lt_of_blk J7.out) hg3.out).trans J7.out)
  have T8 := hide (T7.out.trans h3)
  have R8 := hide h2
  have H7 := hide h1
  have OP : Hid (OwnR S 3 1 w8 vP P.length (cls_int P)) := hide (o.low S7.out)
  have S8 : Hid (S ≤ w8.heap.size) := hide (Nat.le_trans S7.out h3.size)
  obtain ⟨aP, kP, eP⟩ := OP.out.form
  subst eP
  clear o h1 h2 h3 hp T7 K7 J7 R7 S7
  have c0 := blk_cell J8.out 0 _ rfl
  have f0 := blk_frz J8.out 0
  obtain ⟨j0, t0⟩ := set1 J8.out 0 (.slice aP P.length kP)
  have TT := t0
  replace K8 := hide ((TT.blk _ (lt_of_blk K8.out) hb23.out).trans K8.out)
  replace J8 : Hid ((w8.setCell ⟨b3, 0, none⟩ (.slice aP P.length kP)).heap[b3]? = some (.cells #[.slice aP P.length kP, .int .i64 n1, .int .i64 n2, .slice none 0 0, .slice none 0 0, .int .i64 n6, .slice none 0 0] 27 (0, 0))) := hide j0
  replace R8 := hide (R8.out.tn TT hBb.out)
  replace T8 := hide (T8.out.next TT hb3.out)
  replace S8 : Hid (S ≤ (w8.setCell ⟨b3, 0, none⟩ (.slice aP P.length kP)).heap.size) := hide (Nat.le_trans S8.out TT.size)
  replace OP := hide (OP.out.kp (Kp.tn TT hS3.out))
  clear TT j0 t0
  go_wp2_with fail
  clear c0 f0
  generalize (w8.setCell ⟨b3, 0, none⟩ (.slice aP P.length kP)) = w8' at *
  refine (several_apiChan R8.out n3 Y3.out).mono ?_
  intro e w9 hp
  rcases hp.both with ⟨C, r9, vC, h1, rfl, o, h2, h3⟩ | ⟨h1, rfl, h3⟩
  case inr => exact ⟨rfl, RdP.stop (T8.out.trans h3) ((rBind_some H0.out).trans ((rBind_some H1.out).trans ((rBind_some H2.out).trans ((rBind_some H3.out).trans ((rBind_some H4.out).trans ((rBind_some H5.out).trans ((rBind_some H6.out).trans ((rBind_some H7.out).trans (rBind_none h1)))))))))⟩
  have K9 := hide ((h3.blk _ (lt_of_blk K8.out) hg2.out).trans K8.out)
  have J9 := hide ((h3.blk _ (lt_of_blk J8.out) hg3.out).trans J8.out)
  have T9 := hide (T8.out.trans h3)
  have R9 := hide h2
  have H8 := hide h1
  replace OP := hide (OP.out.kp (Kp.tn h3 hSg.out))
  have OC : Hid (OwnR S 56 2 w9 vC C.length (cls_apiChan C)) := hide (o.low S8.out)
  have S9 : Hid (S ≤ w9.heap.size) := hide (Nat.le_trans S8.out h3.size)
  obtain ⟨aC, kC, eC⟩ := OC.out.form
  subst eC
  clear o h1 h2 h3 hp T8 K8 J8 R8 S8
  have c3 := blk_cell J9.out 3 _ rfl
  have f3 := blk_frz J9.out 3
  obtain ⟨j0, t0⟩ := set1 J9.out 3 (.slice aC C.length kC)
  have TT := t0
  replace K9 := hide ((TT.blk _ (lt_of_blk K9.out) hb23.out).trans K9.out)
  replace J9 : Hid ((w9.setCell ⟨b3, 3, none⟩ (.slice aC C.length kC)).heap[b3]? = some (.cells #[.slice aP P.length kP, .int .i64 n1, .int .i64 n2, .slice aC C.length kC, .slice none 0 0, .int .i64 n6, .slice none 0 0] 27 (0, 0))) := hide j0
  replace R9 := hide (R9.out.tn TT hBb.out)
  replace T9 := hide (T9.out.next TT hb3.out)
  replace S9 : Hid (S ≤ (w9.setCell ⟨b3, 3, none⟩ (.slice aC C.length kC)).heap.size) := hide (Nat.le_trans S9.out TT.size)
  replace OP := hide (OP.out.kp (Kp.tn TT hS3.out))
  replace OC := hide (OC.out.kp (Kp.tn TT hS3.out))
  clear TT j0 t0
  go_wp2_with fail
  clear c3 f3
  generalize (w9.setCell ⟨b3, 3, none⟩ (.slice aC C.length kC)) = w9' at *
  refine (several_E R9.out n4 Y4.out).mono ?_
  intro e w10 hp
  rcases hp.both with ⟨F, r10, vF, h1, rfl, o, h2, h3⟩ | ⟨h1, rfl, h3⟩
  case inr => exact ⟨rfl, RdP.stop (T9.out.trans h3) ((rBind_some H0.out).trans ((rBind_some H1.out).trans ((rBind_some H2.out).trans ((rBind_some H3.out).trans ((rBind_some H4.out).trans ((rBind_some H5.out).trans ((rBind_some H6.out).trans ((rBind_some H7.out).trans ((rBind_some H8.out).trans (rBind_none h1))))))))))⟩
  have K10 := hide ((h3.blk _ (lt_of_blk K9.out) hg2.out).trans K9.out)
  have J10 := hide ((h3.blk _ (lt_of_blk J9.out) hg3.out).trans J9.out)
  have T10 := hide (T9.out.trans h3)
  have R10 := hide h2
  have H9 := hide h1
  replace OP := hide (OP.out.kp (Kp.tn h3 hSg.out))
  replace OC := hide (OC.out.kp (Kp.tn h3 hSg.out))
  have OF : Hid (Ents S w10 vF F) := hide (o.low S9.out)
  have S10 : Hid (S ≤ w10.heap.size) := hide (Nat.le_trans S9.out h3.size)
  obtain ⟨aF, kF, eF⟩ := OF.out.form
  subst eF
  clear o h1 h2 h3 hp T9 K9 J9 R9 S9
  have c4 := blk_cell J10.out 4 _ rfl
  have f4 := blk_frz J10.out 4
  obtain ⟨j0, t0⟩ := set1 J10.out 4 (.slice aF F.length kF)
  have TT := t0
  replace K10 := hide ((TT.blk _ (lt_of_blk K10.out) hb23.out).trans K10.out)
  replace J10 : Hid ((w10.setCell ⟨b3, 4, none⟩ (.slice aF F.length kF)).heap[b3]? = some (.cells #[.slice aP P.length kP, .int .i64 n1, .int .i64 n2, .slice aC C.length kC, .slice aF F.length kF, .int .i64 n6, .slice none 0 0] 27 (0, 0))) := hide j0
  replace R10 := hide (R10.out.tn TT hBb.out)
  replace T10 := hide (T10.out.next TT hb3.out)
  replace S10 : Hid (S ≤ (w10.setCell ⟨b3, 4, none⟩ (.slice aF F.length kF)).heap.size) := hide (Nat.le_trans S10.out TT.size)
  replace OP := hide (OP.out.kp (Kp.tn TT hS3.out))
  replace OC := hide (OC.out.kp (Kp.tn TT hS3.out))
  replace OF := hide (OF.out.kp (Kp.tn TT hS3.out))
  clear TT j0 t0
  go_wp2_with fail
  clear c4 f4
  generalize (w10.setCell ⟨b3, 4, none⟩ (.slice aF F.length kF)) = w10' at *
  refine (several_apiInstr R10.out n5 Y5.out).mono ?_
  intro e w11 hp
  rcases hp.both with ⟨I, r11, vI, h1, rfl, o, h2, h3⟩ | ⟨h1, rfl, h3⟩
  case inr => exact ⟨rfl, RdP.stop (T10.out.trans h3) ((rBind_some H0.out).trans ((rBind_some H1.out).trans ((rBind_some H2.out).trans ((rBind_some H3.out).trans ((rBind_some H4.out).trans ((rBind_some H5.out).trans ((rBind_some H6.out).trans ((rBind_some H7.out).trans ((rBind_some H8.out).trans ((rBind_some H9.out).trans (rBind_none h1)))))))))))⟩
  have K11 := hide ((h3.blk _ (lt_of_blk K10.out) hg2.out).trans K10.out)
  have J11 := hide ((h3.blk _ (lt_of_blk J10.out) hg3.out).trans J10.out)
  have T11 := hide (T10.out.trans h3)
  have R11 := hide h2
  have H10 := hide h1
  replace OP := hide (OP.out.kp (Kp.tn h3 hSg.out))
  replace OC := hide (OC.out.kp (Kp.tn h3 hSg.out))
  replace OF := hide (OF.out.kp (Kp.tn h3 hSg.out))
  have OB : Hid (OwnR S 50 5 w11 vI I.length (cls_apiInstr I)) := hide (o.low S10.out)
  have S11 : Hid (S ≤ w11.heap.size) := hide (Nat.le_trans S10.out h3.size)
  obtain ⟨aI, kI, eI⟩ := OB.out.form
  subst eI
  clear o h1 h2 h3 hp T10 K10 J10 R10 S10
  have c6 := blk_cell J11.out 6 _ rfl
  have f6 := blk_frz J11.out 6
  obtain ⟨j0, t0⟩ := set1 J11.out 6 (.slice aI I.length kI)
  have TT := t0
  replace K11 := hide ((TT.blk _ (lt_of_blk K11.out) hb23.out).trans K11.out)
  replace J11 : Hid ((w11.setCell ⟨b3, 6, none⟩ (.slice aI I.length kI)).heap[b3]? = some (.cells #[.slice aP P.length kP, .int .i64 n1, .int .i64 n2, .slice aC C.length kC, .slice aF F.length kF, .int .i64 n6, .slice aI I.length kI] 27 (0, 0))) := hide j0
  replace R11 := hide (R11.out.tn TT hBb.out)
  replace T11 := hide (T11.out.next TT hb3.out)
  replace S11 : Hid (S ≤ (w11.setCell ⟨b3, 6, none⟩ (.slice aI I.length kI)).heap.size) := hide (Nat.le_trans S11.out TT.size)
  replace OP := hide (OP.out.kp (Kp.tn TT hS3.out))
  replace OC := hide (OC.out.kp (Kp.tn TT hS3.out))
  replace OF := hide (OF.out.kp (Kp.tn TT hS3.out))
  replace OB := hide (OB.out.kp (Kp.tn TT hS3.out))
  clear TT j0 t0
  obtain ⟨vr, q1, q2⟩ := R11.out.v
  obtain ⟨ar, kr, rfl, _, _, _⟩ := q2
  have cr := blk_cell q1 0 _ rfl
  have HE : Hid (rCodeS l = (rEnd ⟨P, n1, n2, C, F, I, n6⟩ : Pz Cd) r11) := hide ((rBind_some H0.out).trans ((rBind_some H1.out).trans ((rBind_some H2.out).trans ((rBind_some H3.out).trans ((rBind_some H4.out).trans ((rBind_some H5.out).trans ((rBind_some H6.out).trans ((rBind_some H7.out).trans ((rBind_some H8.out).trans ((rBind_some H9.out).trans (rBind_some H10.out)))))))))))
  have Ce := hide R11.out.e
  obtain ⟨m, hm⟩ : ∃ m, m = r11.length := ⟨_, rfl⟩
  rw [← hm] at cr
  have HM := hide hm
  by_cases hz : m = 0
  case neg =>
    have hz' : ((m : Int) == 0) = false := by simp; omega
    clear q1 hm
    go_wp2_with fail
    refine (must_no Ce.out).mono ?_
    rintro e w12 ⟨rfl, rfl⟩
    exact ⟨rfl, RdP.stop T11.out (by rw [HE.out]; unfold rEnd; rw [if_neg (by rw [← HM.out]; exact hz)])⟩
  subst hz
  replace HE : Hid (rCodeS l = some (⟨P, n1, n2, C, F, I, n6⟩, r11)) := hide (by rw [HE.out]; unfold rEnd; rw [if_pos HM.out.symm])
  clear q1 hm
  go_wp2_with fail
  clear c6 f6
  refine (must_yes _).mono ?_
  rintro e w12 ⟨rfl, rfl⟩
  clear cr
  generalize (w11.setCell ⟨b3, 6, none⟩ (.slice aI I.length kI)) = w12 at *
  obtain ⟨d0, d1, d2, d3, d4, d5, d6⟩ := cells7 J11.out
  have c0 := blk_cell K11.out 0 _ rfl
  have f0 := blk_frz K11.out 0
  have c1 := blk_cell K11.out 1 _ rfl
  have f1 := blk_frz K11.out 1
  have c2 := blk_cell K11.out 2 _ rfl
  have f2 := blk_frz K11.out 2
  have c3 := blk_cell K11.out 3 _ rfl
  have f3 := blk_frz K11.out 3
  have c4 := blk_cell K11.out 4 _ rfl
  have f4 := blk_frz K11.out 4
  have c5 := blk_cell K11.out 5 _ rfl
  have f5 := blk_frz K11.out 5
  have c6 := blk_cell K11.out 6 _ rfl
  have f6 := blk_frz K11.out 6
  obtain ⟨k0, t0⟩ := set1 K11.out 0 (.slice aP P.length kP)
  obtain ⟨k1, t1⟩ := set1 k0 1 (.int .i64 n1)
  obtain ⟨k2, t2⟩ := set1 k1 2 (.int .i64 n2)
  obtain ⟨k3, t3⟩ := set1 k2 3 (.slice aC C.length kC)
  obtain ⟨k4, t4⟩ := set1 k3 4 (.slice aF F.length kF)
  obtain ⟨k5, t5⟩ := set1 k4 5 (.int .i64 n6)
  obtain ⟨k6, t6⟩ := set1 k5 6 (.slice aI I.length kI)
  have TT := (((((t0.trans t1).trans t2).trans t3).trans t4).trans t5).trans t6
  have KF := hide k6
  have TF := hide (T11.out.next TT (Nat.le_refl _))
  have RF := hide (R11.out.tn TT HW.out)
  have tk := Kp.tn TT hS2.out
  have CF := hide (CdR.mk (c := ⟨P, n1, n2, C, F, I, n6⟩) (OP.out.kp tk) (OC.out.kp tk) (OF.out.kp tk) (OB.out.kp tk))
  have CG : Hid (CdR w.heap.size _ _ _ _ _ _) := hide (CF.out.low (Nat.le_of_lt hS2.out))
  clear TT tk CF k0 t0 k1 t1 k2 t2 k3 t3 k4 t4 k5 t5 k6 t6 OP OC OF OB R11 T11 K11 J11 S11
  go_wp2_with fail
  exact ret_agg w.heap.size _ rfl rfl rfl KF.out Tryd.underlying27 (by kernel_rfl) rfl (RdP.ok TF.out HE.out ⟨_, _, _, _, rfl, CG.out⟩ RF.out)
end Go.Proofs.YtigfjjolfeenaaaDoor.Ck
