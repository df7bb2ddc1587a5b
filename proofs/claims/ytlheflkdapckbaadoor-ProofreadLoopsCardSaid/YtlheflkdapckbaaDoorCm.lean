/- Package code: what gives up is caught (caught); Check. -/
import Derived.Test.YtlheflkdapckbaaDoorCl
import Derived.Test.YtlheflkdapckbaaDoorTn
import Derived.Defers
import Derived.Recover
namespace Go.Proofs.YtlheflkdapckbaaDoor.Ck
open Go.RowKit

theorem assert_err (p : List Addr) (i : Nat) (w : World) : (Instr.typeAssert (errV p i) 20 32 false).run Tryd.prog w = .ok (errV p i) w := by
  unfold errV
  first
  | kernel_rfl
  | simp [Instr.typeAssert, run_underlying Tryd.underlying32, go_sem, Result.andThen]
theorem catchC_idle (a : Addr) (w : World) :
    CallsD Tryd.prog 36 #[.pointer (some a)] .returning w fun e u' w' => e = .returned (.tuple #[]) ∧ u' = .returning ∧ w' = w := by
  refine callsD_of_wpS Tryd.func36 rfl fun c₀ cs hu => ?_
  apply wpS_seq
  apply wpS_region
  simp [wpOpsS, go_sem, recoverD, hu, Tryd.ntmps36, Exit.thenS]
  apply wpS_seq
  refine wpS_of_wp ?_
  go_wp2_with fail
  refine wpS_cond (t := false) (by simp [Act.eval, Array.replicate]) ?_
  simp only [Bool.false_eq_true, if_false]
  refine wpS_of_wp (wp_skip ?_)
  cases c₀
  simp_all [bodyPostS, results, Tryd.results36]
theorem catchC_stop (b : Nat) (v0 : Value) (p : List Addr) (w : World) (hB : w.heap[b]? = some (.cells #[v0] 32 (0, 0))) :
    CallsD Tryd.prog 36 #[.pointer (some ⟨b, 0, none⟩)] (.panicking [{ v := errV p 8, recovered := false }]) w fun e u' w' =>
      e = .returned (.tuple #[]) ∧ u' = .panicking [{ v := errV p 8, recovered := true }] ∧ w'.heap[b]? = some (.cells #[errV p 8] 32 (0, 0)) ∧ ∀ B, B ≤ b → Below B w w' := by
  have f0 := blk_frz hB 0
  have c0 := blk_cell hB 0 _ rfl
  have ha := assert_err
  unfold errV at *
  refine callsD_of_wpS Tryd.func36 rfl fun c₀ cs hu => ?_
  apply wpS_seq
  apply wpS_region
  simp [wpOpsS, go_sem, recoverD, hu, Tryd.ntmps36, Exit.thenS]
  apply wpS_seq
  refine wpS_of_wp ?_
  go_wp2_with fail
  refine wpS_cond (t := true) (by simp [Act.eval, Array.replicate]) ?_
  simp only [if_true]
  refine wpS_of_wp ?_
  change Code.wp _ _ _ { tmps := #[.pointer (some ⟨b, 0, none⟩), .iface 116 (.pointer (some (adr p 8))), .iface 116 (.pointer (some (adr p 8))), .iface 116 (.pointer (some (adr p 8))), .bool true, undef, undef], defers := [] } _
  go_wp2_with fail
  obtain ⟨k1, t1⟩ := set1 hB 0 (.iface 116 (.pointer (some (adr p 8))))
  have hlt := lt_of_blk hB
  exact ⟨rfl, _, rfl, _, results_none rfl _ _ _, rfl, rfl, k1, fun B h1 => t1.bel h1 (by omega)⟩
theorem results_caught {tmps : Array Value} {b : Nat} {w : World} {v : Value} (h2 : tmps.getD 2 undef = .pointer (some ⟨b, 0, none⟩)) (hB : w.heap[b]? = some (.cells #[v] 32 (0, 0))) :
    (results Tryd.f31 tmps).run Tryd.prog w = .ok v w := by
  have h2' : tmps[2]?.getD undef = .pointer (some ⟨b, 0, none⟩) := by simpa using h2
  have c0 := blk_cell hB 0 _ rfl
  simp [results, Tryd.results31, h2', go_sem, c0]
theorem doorC_stop {R : Ending → World → Prop} {tmps : Array Value} {b : Nat} {w : World} {v0 : Value} {p : List Addr} (h2 : tmps.getD 2 undef = .pointer (some ⟨b, 0, none⟩)) (hB : w.heap[b]? = some (.cells #[v0] 32 (0, 0)))
    (hR : ∀ w', (∀ B, B ≤ b → Below B w w') → R (.returned (errV p 8)) w') :
    Leaves Tryd.prog Tryd.f31 tmps R [{ target := .fn (.func 36) #[.pointer (some ⟨b, 0, none⟩)], args := #[] }] (.panicking [{ v := errV p 8, recovered := false }]) w := by
  refine leaves_cons (f := 36) (args := #[.pointer (some ⟨b, 0, none⟩)]) (by simp) (by simp [go_sem]) ?_
  refine (catchC_stop b v0 p w hB).mono ?_
  rintro e u' w' ⟨rfl, rfl, k1, hb⟩
  exact ⟨_, results_caught h2 k1, hR w' hb⟩
theorem doorC_end {R : Ending → World → Prop} {tmps : Array Value} {b : Nat} {w : World} {v : Value} (h2 : tmps.getD 2 undef = .pointer (some ⟨b, 0, none⟩)) (hB : w.heap[b]? = some (.cells #[v] 32 (0, 0)))
    (hR : R (.returned v) w) :
    Leaves Tryd.prog Tryd.f31 tmps R [{ target := .fn (.func 36) #[.pointer (some ⟨b, 0, none⟩)], args := #[] }] .returning w := by
  refine leaves_cons (f := 36) (args := #[.pointer (some ⟨b, 0, none⟩)]) (by simp) (by simp [go_sem]) ?_
  refine (catchC_idle _ w).mono ?_
  rintro e u' w' ⟨rfl, rfl, rfl⟩
  exact ⟨_, results_caught h2 hB, hR⟩
/-- no error, or the one that package code gives up with -/
def erK (p : List Addr) (ok : Bool) : Value := if ok = true then .nilIface else errV p 8
set_option maxRecDepth 20000 in
set_option maxHeartbeats 1000000 in
theorem check1_any {w : World} {p : List Addr} {b : Nat} {vP vC vF vB : Value} {c : Cd} (hc : Ec w p) (h : Cv w vP vC vF vB c) (hb : w.heap[b]? = some (.cells #[vP, .int .i64 c.M, .int .i64 c.A, vC, vF, .int .i64 c.mn, vB] 27 (0, 0))) :
    Calls Tryd.prog 32 #[.pointer (some ⟨b, 0, none⟩)] w (Gt p w (formG c) (.tuple #[])) := by
  have FO := hide (form_any hc h)
  unfold codeA at FO
  obtain ⟨g0, g1, g2, g3, g4, g5, g6⟩ := cells7 hb
  clear hb hc h
  go_enter Tryd.func32, Tryd.ntmps32
  go_wp2_with fail
  refine FO.out.mono ?_
  intro e w2 hp
  rcases hp.both with ⟨h1, rfl, hb⟩ | ⟨h1, rfl, hb⟩
  case inr => exact ⟨rfl, Gt.no h1 hb⟩
  go_wp2_with fail
  go_end0
  exact Gt.yes h1 hb
set_option maxRecDepth 20000 in
set_option maxHeartbeats 1000000 in
theorem caughtK_any {w : World} {p : List Addr} {b : Nat} {vP vC vF vB : Value} {c : Cd} (hc : Ec w p) (h : Cv w vP vC vF vB c) (hb : w.heap[b]? = some (.cells #[vP, .int .i64 c.M, .int .i64 c.A, vC, vF, .int .i64 c.mn, vB] 27 (0, 0))) :
    Calls Tryd.prog 31 #[.func (.func 32) #[] #[.pointer (some ⟨b, 0, none⟩)]] w fun e w' => e = .returned (erK p (formG c)) ∧ Below w.heap.size w w' := by
  have hmf : ∀ (fn : Fn) (first cap : Array Value) (w : World), (Instr.makeFunc fn first cap).run Tryd.prog w = .ok (.func fn first cap) w := fun _ _ _ _ => rfl
  have B0 := hide (bel_new w (.cells #[.nilIface] 32))
  have K0 := hide (show (w.alloc (.cells #[.nilIface] 32)).heap[w.heap.size]? = some (.cells #[.nilIface] 32 (0, 0)) from Go.Deep.blk_alloc_new _ _)
  have CH := hide (check1_any (hc.bel B0.out) (h.bel B0.out) ((B0.out.block b (lt_of_blk hb)).trans hb))
  have hsz : (w.alloc (.cells #[.nilIface] 32)).heap.size = w.heap.size + 1 := by simp
  have HSZ := hide hsz
  clear hb hc h hsz
  go_enter_defers Tryd.func31, Tryd.ntmps31
  go_wp2_with fail
  refine CH.out.mono ?_
  intro e w2 hp
  generalize w.alloc (.cells #[.nilIface] 32) = W1 at *
  have HG := hide hp
  rcases hp.both with ⟨h1, rfl, hb⟩ | ⟨h1, rfl, hb⟩
  · have K2 := (hb.block w.heap.size (by have := HSZ.out; omega)).trans K0.out
    have c0 := blk_cell K2 0 _ rfl
    have f0 := blk_frz K2 0
    obtain ⟨k3, t3⟩ := set1 K2 0 .nilIface
    have hb2 := hide (bel_trans B0.out hb)
    have K3 := hide k3
    have T3 := hide t3
    have H1 := hide h1
    clear k3 t3 h1 hb HG CH B0 K0 K2 hp
    go_wp2_with fail
    refine doorC_end rfl K3.out ?_
    exact ⟨by rw [H1.out]; rfl, hb2.out.trans (T3.out.bel (Nat.le_refl _) hb2.out.size)⟩
  · have K2 := (hb.block w.heap.size (by have := HSZ.out; omega)).trans K0.out
    have hb2 := bel_trans B0.out hb
    refine doorC_stop rfl K2 (fun w' hB => ?_)
    exact ⟨by rw [h1]; rfl, hb2.trans (hB _ (Nat.le_refl _))⟩
set_option maxRecDepth 20000 in
set_option maxHeartbeats 1000000 in
theorem check_any {w : World} {p : List Addr} {vP vC vF vB : Value} {c : Cd} (hc : Ec w p) (h : Cv w vP vC vF vB c) :
    Calls Tryd.prog 24 #[codeA vP vC vF vB c] w fun e w' => e = .returned (erK p (formB c)) ∧ Below w.heap.size w w' := by
  have hmf : ∀ (fn : Fn) (first cap : Array Value) (w : World), (Instr.makeFunc fn first cap).run Tryd.prog w = .ok (.func fn first cap) w := fun _ _ _ _ => rfl
  rw [← formG_eq c h.L.I]
  have B0 := hide (bel_new w (codeO vP vC vF vB c))
  have CK := hide (caughtK_any (hc.bel B0.out) (h.bel B0.out) (Go.Deep.blk_alloc_new w (codeO vP vC vF vB c)))
  obtain ⟨r, hr⟩ : ∃ r, erK p (formG c) = r := ⟨_, rfl⟩
  rw [hr] at CK ⊢
  clear hr hc h
  unfold codeA codeO at *
  go_enter Tryd.func24, Tryd.ntmps24
  go_wp2_with fail
  refine CK.out.mono ?_
  rintro e w2 ⟨rfl, hb⟩
  have hb2 := hide (bel_trans B0.out hb)
  clear hb CK B0
  go_wp2_with fail
  go_ret
  exact ⟨rfl, hb2.out⟩
end Go.Proofs.YtlheflkdapckbaaDoor.Ck
