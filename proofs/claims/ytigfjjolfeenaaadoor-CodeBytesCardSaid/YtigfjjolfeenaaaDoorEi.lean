/- Package code: Get. (Written by mk_e.py.) -/
import Derived.Test.YtigfjjolfeenaaaDoorEh
namespace Go.Proofs.YtigfjjolfeenaaaDoor.Ck
open Go.RowKit

theorem sy_up {w w' : World} {g B g' B' : Nat} {v : Value} {l : List Int} (h : SY w g B v l) (hB : B ≤ B') (hg : B ≤ g') (t : ∀ b, b < B → w'.heap[b]? = w.heap[b]?) : SY w' g' B' v l := by
  obtain ⟨a, cap, e, h1, h2, h3⟩ := h
  refine ⟨a, cap, e, h1, h2, fun i hi => ?_⟩
  obtain ⟨b, off, ea, hb, hn, hc⟩ := h3 i hi
  exact ⟨b, off, ea, by omega, by omega, (World.cell?_of_block (a := ⟨b, off + i, none⟩) (t b hb)).trans hc⟩
/-- bytes that lie below w's end -/
def Ys (w : World) (v : Value) (l : List Int) : Prop := SY w w.heap.size w.heap.size v l
theorem Ys.bel {w w' : World} {v : Value} {l : List Int} (h : Ys w v l) (hb : Below w.heap.size w w') : Ys w' v l := sy_up h hb.size hb.size (fun b hk => hb.block b hk)
def GetP (l : List Int) (bc : Nat) (w w' : World) (ok : Prop) (no : Prop) : Prop := Tn bc w w' ∧ match codeB l with
  | some c => ok ∧ ∃ vP vC vF vB, w'.heap[bc]? = some (.cells #[vP, .int .i64 c.M, .int .i64 c.A, vC, vF, .int .i64 c.mn, vB] 27 (0, 0)) ∧ CdR w.heap.size w' vP vC vF vB c ∧ CdQ c
  | none => no
theorem GetP.none {l : List Int} {bc : Nat} {w w' : World} {ok no : Prop} (t : Tn bc w w') (h : codeB l = none) (hn : no) : GetP l bc w w' ok no := by
  refine ⟨t, ?_⟩
  rw [h]
  exact hn
theorem GetP.some {l : List Int} {bc : Nat} {w w' : World} {ok no : Prop} {c : Cd} (t : Tn bc w w') (h : codeB l = some c) (hn : ok) {vP vC vF vB : Value} (hb : w'.heap[bc]? = some (.cells #[vP, .int .i64 c.M, .int .i64 c.A, vC, vF, .int .i64 c.mn, vB] 27 (0, 0))) (hc : CdR w.heap.size w' vP vC vF vB c) (hq : CdQ c) : GetP l bc w w' ok no := by
  refine ⟨t, ?_⟩
  rw [h]
  exact ⟨hn, vP, vC, vF, vB, hb, hc, hq⟩
theorem GetP.both {l : List Int} {bc : Nat} {w w' : World} {ok no : Prop} (h : GetP l bc w w' ok no) : Tn bc w w' ∧ ((∃ c, codeB l = .some c ∧ ok ∧ ∃ vP vC vF vB, w'.heap[bc]? = .some (.cells #[vP, .int .i64 c.M, .int .i64 c.A, vC, vF, .int .i64 c.mn, vB] 27 (0, 0)) ∧ CdR w.heap.size w' vP vC vF vB c ∧ CdQ c) ∨ (codeB l = .none ∧ no)) := by
  obtain ⟨t, h⟩ := h
  refine ⟨t, ?_⟩
  cases hq : codeB l with
  | none => rw [hq] at h; exact .inr ⟨rfl, h⟩
  | some c => rw [hq] at h; exact .inl ⟨c, rfl, h⟩
theorem CdR.kp {S : Nat} {w w' : World} {vP vC vF vB : Value} {c : Cd} (h : CdR S w vP vC vF vB c) (t : Kp S w w') : CdR S w' vP vC vF vB c := ⟨h.P.kp t, h.C.kp t, h.F.kp t, h.B.kp t⟩
theorem Kp.bel {S : Nat} {w w' : World} (t : Below w.heap.size w w') : Kp S w w' := fun k _ hl => t.block k hl
set_option maxRecDepth 20000 in
set_option maxHeartbeats 4000000 in
theorem get1_any {w : World} {p : List Addr} {bb bc : Nat} {vb : Value} {l : List Int} (hc : Ec w p) (hb : w.heap[bb]? = some (.cells #[vb] 33 (0, 0))) (hcd : w.heap[bc]? = some (.cells #[.slice none 0 0, .int .i64 0, .int .i64 0, .slice none 0 0, .slice none 0 0, .int .i64 0, .slice none 0 0] 27 (0, 0))) (hy : Ys w vb l) (hbyt : Byt l) (hlen : l.length ≤ 1000000) (hne : 8 ≠ bc) :
    Calls Tryd.prog 27 #[.pointer (some ⟨bb, 0, none⟩), .pointer (some ⟨bc, 0, none⟩)] w fun e w' => GetP l bc w w' (e = .returned (.tuple #[])) (e = codeStop p) := by
  have b0 := bel_new w (.cells #[vb] 65)
  have hgl : 8 < w.heap.size := World.block_lt_of_cell? w _ hc
  have hsz : (w.alloc (.cells #[vb] 65)).heap.size = w.heap.size + 1 := by simp
  have RD : Rd (w.alloc (.cells #[vb] 65)) w.heap.size (w.heap.size + 1) p l := ⟨⟨vb, Go.Deep.blk_alloc_new _ _, sy_up hy (Nat.le_succ _) (Nat.le_refl _) (fun b hk => b0.block b hk)⟩, hc.bel b0, Nat.lt_succ_self _, by rw [hsz]; exact Nat.le_refl _, ⟨Nat.lt_succ_of_lt hgl, Nat.ne_of_lt hgl⟩, hbyt, hlen⟩
  have RC := hide (rcode_any RD)
  have K0 := hide ((b0.block _ (lt_of_blk hcd)).trans hcd)
  have hlt : Hid (bc < w.heap.size) := hide (lt_of_blk hcd)
  have HS : Hid (w.heap.size ≤ (w.alloc (.cells #[vb] 65)).heap.size) := hide b0.size
  have T0 : Hid (Tn bc w (w.alloc (.cells #[vb] 65))) := hide (Tn.of_bel b0)
  have C0 := hide (hc.bel b0)
  have HB := hide hbyt
  have c0 := blk_cell hb 0 _ rfl
  obtain ⟨ab, kb, e, _⟩ := hy
  subst e
  clear hb hcd hc b0 hgl hsz RD hbyt hlen
  go_enter Tryd.func27, Tryd.ntmps27
  go_wp2_with fail
  generalize w.alloc (.cells #[.slice ab l.length kb] 65) = w1 at *
  refine RC.out.mono ?_
  intro e w2 hp
  clear c0 RC
  rcases hp.both with ⟨c, r, v, h1, rfl, h0, h2, h3⟩ | ⟨h1, rfl, h3⟩
  case inr => exact ⟨rfl, GetP.none (T0.out.next h3 (Nat.le_refl _)) (by rw [code_sev, h1]) rfl⟩
  obtain ⟨vP, vC, vF, vB, rfl, cr⟩ := h0
  have HQ := hide (okp_code l c r HB.out h1).1
  have HF : Hid (codeB l = if formB c = true then some c else none) := hide (by rw [code_sev, h1])
  have HG := hide (formG_eq c HQ.out.B.2)
  have K2 := (h3.blk _ (lt_of_blk K0.out) (by have := hlt.out; omega)).trans K0.out
  have C2 : Ec w2 p := h2.e
  obtain ⟨aP, kP, eP⟩ := cr.P.form
  obtain ⟨aC, kC, eC⟩ := cr.C.form
  obtain ⟨aF, kF, eF⟩ := cr.F.form
  obtain ⟨aB, kB, eB⟩ := cr.B.form
  subst eP eC eF eB
  have c0 := blk_cell K2 0 _ rfl
  have f0 := blk_frz K2 0
  have c1 := blk_cell K2 1 _ rfl
  have f1 := blk_frz K2 1
  have c2 := blk_cell K2 2 _ rfl
  have f2 := blk_frz K2 2
  have c3 := blk_cell K2 3 _ rfl
  have f3 := blk_frz K2 3
  have c4 := blk_cell K2 4 _ rfl
  have f4 := blk_frz K2 4
  have c5 := blk_cell K2 5 _ rfl
  have f5 := blk_frz K2 5
  have c6 := blk_cell K2 6 _ rfl
  have f6 := blk_frz K2 6
  obtain ⟨k0, t0⟩ := set1 K2 0 (.slice aP c.P.length kP)
  obtain ⟨k1, t1⟩ := set1 k0 1 (.int .i64 c.M)
  obtain ⟨k2, t2⟩ := set1 k1 2 (.int .i64 c.A)
  obtain ⟨k3, t3⟩ := set1 k2 3 (.slice aC c.C.length kC)
  obtain ⟨k4, t4⟩ := set1 k3 4 (.slice aF c.F.length kF)
  obtain ⟨k5, t5⟩ := set1 k4 5 (.int .i64 c.mn)
  obtain ⟨k6, t6⟩ := set1 k5 6 (.slice aB c.B.length kB)
  have TT := (((((t0.trans t1).trans t2).trans t3).trans t4).trans t5).trans t6
  have K9 : (((((((w2.setCell ⟨bc, 0, none⟩ (.slice aP c.P.length kP)).setCell ⟨bc, 1, none⟩ (.int .i64 c.M)).setCell ⟨bc, 2, none⟩ (.int .i64 c.A)).setCell ⟨bc, 3, none⟩ (.slice aC c.C.length kC)).setCell ⟨bc, 4, none⟩ (.slice aF c.F.length kF)).setCell ⟨bc, 5, none⟩ (.int .i64 c.mn)).setCell ⟨bc, 6, none⟩ (.slice aB c.B.length kB)).heap[bc]? = some (.cells #[.slice aP c.P.length kP, .int .i64 c.M, .int .i64 c.A, .slice aC c.C.length kC, .slice aF c.F.length kF, .int .i64 c.mn, .slice aB c.B.length kB] 27 (0, 0)) := k6
  have T9 := hide ((T0.out.next h3 (Nat.le_refl _)).trans TT)
  have CR := cr.low HS.out
  have CR9 := hide (CR.kp (Kp.tn TT hlt.out))
  have C9 : Ec (((((((w2.setCell ⟨bc, 0, none⟩ (.slice aP c.P.length kP)).setCell ⟨bc, 1, none⟩ (.int .i64 c.M)).setCell ⟨bc, 2, none⟩ (.int .i64 c.A)).setCell ⟨bc, 3, none⟩ (.slice aC c.C.length kC)).setCell ⟨bc, 4, none⟩ (.slice aF c.F.length kF)).setCell ⟨bc, 5, none⟩ (.int .i64 c.mn)).setCell ⟨bc, 6, none⟩ (.slice aB c.B.length kB)) p := (World.cell?_of_block (a := ⟨8, 0, none⟩) (TT.blk _ (World.block_lt_of_cell? w2 _ C2) hne)).trans C2
  have FO := hide (form_any C9 (CR9.out.cv HQ.out))
  obtain ⟨g0, g1, g2, g3, g4, g5, g6⟩ := cells7 K9
  have K9' := hide K9
  unfold codeA at FO
  clear TT k0 t0 k1 t1 k2 t2 k3 t3 k4 t4 k5 t5 k6 t6 h1 h2 h3 hp K2 K0 T0 C0 C2 cr CR C9 K9 HB
  go_wp2_with fail
  refine FO.out.mono ?_
  clear c0 f0 c1 f1 c2 f2 c3 f3 c4 f4 c5 f5 c6 f6 g0 g1 g2 g3 g4 g5 g6
  generalize (((((((w2.setCell ⟨bc, 0, none⟩ (.slice aP c.P.length kP)).setCell ⟨bc, 1, none⟩ (.int .i64 c.M)).setCell ⟨bc, 2, none⟩ (.int .i64 c.A)).setCell ⟨bc, 3, none⟩ (.slice aC c.C.length kC)).setCell ⟨bc, 4, none⟩ (.slice aF c.F.length kF)).setCell ⟨bc, 5, none⟩ (.int .i64 c.mn)).setCell ⟨bc, 6, none⟩ (.slice aB c.B.length kB)) = w9 at *
  intro e w10 hp
  rcases hp.both with ⟨h1, rfl, hb⟩ | ⟨h1, rfl, hb⟩
  case inr => exact ⟨rfl, GetP.none (T9.out.trans (Tn.of_bel hb)) (by rw [HF.out, ← HG.out, h1]; rfl) rfl⟩
  have T10 := hide (T9.out.trans (Tn.of_bel (g := bc) hb))
  have K10 := hide ((hb.block _ (lt_of_blk K9'.out)).trans K9'.out)
  have CR10 := hide (CR9.out.kp (Kp.bel hb))
  have HF2 : Hid (codeB l = some c) := hide (by rw [HF.out, ← HG.out, h1]; rfl)
  clear h1 hb hp
  go_wp2_with fail
  go_end0
  exact GetP.some T10.out HF2.out rfl K10.out CR10.out HQ.out
set_option maxRecDepth 20000 in
set_option maxHeartbeats 4000000 in
theorem caughtG_any {w : World} {p : List Addr} {bb bc : Nat} {vb : Value} {l : List Int} (hc : Ec w p) (hb : w.heap[bb]? = some (.cells #[vb] 33 (0, 0))) (hcd : w.heap[bc]? = some (.cells #[.slice none 0 0, .int .i64 0, .int .i64 0, .slice none 0 0, .slice none 0 0, .int .i64 0, .slice none 0 0] 27 (0, 0))) (hy : Ys w vb l) (hbyt : Byt l) (hlen : l.length ≤ 1000000) (hne : 8 ≠ bc) :
    Calls Tryd.prog 22 #[.func (.func 27) #[] #[.pointer (some ⟨bb, 0, none⟩), .pointer (some ⟨bc, 0, none⟩)]] w fun e w' => GetP l bc w w' (e = .returned .nilIface) (e = .returned (errV p 8)) := by
  have B0 := bel_new w (.cells #[.nilIface] 31)
  have K0 := hide (show (w.alloc (.cells #[.nilIface] 31)).heap[w.heap.size]? = some (.cells #[.nilIface] 31 (0, 0)) from Go.Deep.blk_alloc_new _ _)
  have CH := hide (get1_any (hc.bel B0) ((B0.block _ (lt_of_blk hb)).trans hb) ((B0.block _ (lt_of_blk hcd)).trans hcd) (hy.bel B0) hbyt hlen hne)
  have hsz : (w.alloc (.cells #[.nilIface] 31)).heap.size = w.heap.size + 1 := by simp
  have hlt : Hid (bc < w.heap.size) := hide (lt_of_blk hcd)
  have T0 : Hid (Tn bc w (w.alloc (.cells #[.nilIface] 31))) := hide (Tn.of_bel B0)
  have HSZ := hide hsz
  clear hb hcd hc hsz hy hbyt hlen B0
  go_enter_defers Tryd.func22, Tryd.ntmps22
  go_wp2_with fail
  refine CH.out.mono ?_
  intro e w2 hp
  generalize w.alloc (.cells #[.nilIface] 31) = W1 at *
  obtain ⟨t2, ⟨c, h1, rfl, vP, vC, vF, vB, hk, cr, hq⟩ | ⟨h1, rfl⟩⟩ := hp.both
  · have K2 := (t2.blk w.heap.size (by have := HSZ.out; omega) (by have := hlt.out; omega)).trans K0.out
    have c0 := blk_cell K2 0 _ rfl
    have f0 := blk_frz K2 0
    obtain ⟨k3, t3⟩ := set1 K2 0 .nilIface
    have T3 := hide ((T0.out.trans t2).next t3 (Nat.le_refl _))
    have K3 := hide k3
    have KC := hide ((t3.blk _ (lt_of_blk hk) (by have := hlt.out; omega)).trans hk)
    have CR := hide ((cr.kp (Kp.tn t3 (by have := HSZ.out; omega))).low (S' := w.heap.size) (by have := HSZ.out; omega))
    have H1 := hide h1
    have HQ := hide hq
    clear k3 t3 h1 CH K0 K2 hp t2 hk cr hq T0
    go_wp2_with fail
    refine doorC_end rfl K3.out ?_
    exact GetP.some T3.out H1.out rfl KC.out CR.out HQ.out
  · have K2 := (t2.blk w.heap.size (by have := HSZ.out; omega) (by have := hlt.out; omega)).trans K0.out
    have T2 := T0.out.trans t2
    refine doorC_stop rfl K2 (fun w' hB => ?_)
    have hb := hB _ (Nat.le_refl _)
    exact GetP.none ⟨hb.os.trans T2.os, hb.tape.trans T2.tape, hb.output.trans T2.output, Nat.le_trans T2.size hb.size, fun k hk hn => (hb.block k hk).trans (T2.blk k hk hn)⟩ h1 rfl
theorem ret_code {fn : Func} {R : Ending → World → Prop} {a : Act} {w : World} {p q : Tmp} (g : Nat) {v0 v1 v2 v3 v4 v5 v6 x : Value} (hf : fn.results = #[.cell p 27, .tmp q]) (hp : a.tmps.getD p undef = .pointer (some ⟨g, 0, none⟩)) (hq : a.tmps.getD q undef = x)
    (h : w.heap[g]? = some (.cells #[v0, v1, v2, v3, v4, v5, v6] 27 (0, 0))) (hdf : a.defers = []) (hR : R (.returned (.tuple #[.agg #[v0, v1, v2, v3, v4, v5, v6], x])) w) : bodyPost Tryd.prog fn R .ret a w :=
  bodyPost_ret (by
    have hp' : a.tmps[p]?.getD undef = .pointer (some ⟨g, 0, none⟩) := by simpa using hp
    have hq' : a.tmps[q]?.getD undef = x := by simpa using hq
    obtain ⟨c0, c1, c2, c3, c4, c5, c6⟩ := cells7 h
    simp [results, hf, hp', hq', go_sem, c0, c1, c2, c3, c4, c5, c6]) hdf hR
/-- what Get answers -/
def GetR (l : List Int) (p : List Addr) (w : World) (e : Ending) (w' : World) : Prop := Below w.heap.size w w' ∧ ((codeB l = none ∧ e = .returned (.tuple #[.agg #[.slice none 0 0, .int .i64 0, .int .i64 0, .slice none 0 0, .slice none 0 0, .int .i64 0, .slice none 0 0], errV p 8])) ∨ ∃ c vP vC vF vB, codeB l = some c ∧ e = .returned (.tuple #[codeA vP vC vF vB c, .nilIface]) ∧ CdR w.heap.size w' vP vC vF vB c ∧ CdQ c)
set_option maxRecDepth 20000 in
set_option maxHeartbeats 4000000 in
theorem get_any {w : World} {p : List Addr} {vb : Value} {l : List Int} (hc : Ec w p) (hy : Ys w vb l) (hbyt : Byt l) (hlen : l.length ≤ 1000000) : Calls Tryd.prog 11 #[vb] w (GetR l p w) := by
  have hmf : ∀ (fn : Fn) (first cap : Array Value) (w : World), (Instr.makeFunc fn first cap).run Tryd.prog w = .ok (.func fn first cap) w := fun _ _ _ _ => rfl
  have hsA : (w.alloc (.cells #[vb] 33)).heap.size = w.heap.size + 1 := by simp
  have hsB : ((w.alloc (.cells #[vb] 33)).alloc (.cells #[.slice none 0 0, .int .i64 0, .int .i64 0, .slice none 0 0, .slice none 0 0, .int .i64 0, .slice none 0 0] 27)).heap.size = w.heap.size + 2 := by simp
  have bA := bel_new w (.cells #[vb] 33)
  have bB := bel_new (w.alloc (.cells #[vb] 33)) (.cells #[.slice none 0 0, .int .i64 0, .int .i64 0, .slice none 0 0, .slice none 0 0, .int .i64 0, .slice none 0 0] 27)
  have bC := bel_new ((w.alloc (.cells #[vb] 33)).alloc (.cells #[.slice none 0 0, .int .i64 0, .int .i64 0, .slice none 0 0, .slice none 0 0, .int .i64 0, .slice none 0 0] 27)) (.cells #[.slice none 0 0, .int .i64 0, .int .i64 0, .slice none 0 0, .slice none 0 0, .int .i64 0, .slice none 0 0] 27)
  have kA := (bC.block _ (by rw [hsB]; omega)).trans ((bB.block _ (by rw [hsA]; omega)).trans (Go.Deep.blk_alloc_new w (.cells #[vb] 33)))
  have kB : (((w.alloc (.cells #[vb] 33)).alloc (.cells #[.slice none 0 0, .int .i64 0, .int .i64 0, .slice none 0 0, .slice none 0 0, .int .i64 0, .slice none 0 0] 27)).alloc (.cells #[.slice none 0 0, .int .i64 0, .int .i64 0, .slice none 0 0, .slice none 0 0, .int .i64 0, .slice none 0 0] 27)).heap[w.heap.size + 1]? = some (.cells #[.slice none 0 0, .int .i64 0, .int .i64 0, .slice none 0 0, .slice none 0 0, .int .i64 0, .slice none 0 0] 27 (0, 0)) := (bC.block _ (by rw [hsB]; omega)).trans (by rw [← hsA]; exact Go.Deep.blk_alloc_new _ _)
  have kC : (((w.alloc (.cells #[vb] 33)).alloc (.cells #[.slice none 0 0, .int .i64 0, .int .i64 0, .slice none 0 0, .slice none 0 0, .int .i64 0, .slice none 0 0] 27)).alloc (.cells #[.slice none 0 0, .int .i64 0, .int .i64 0, .slice none 0 0, .slice none 0 0, .int .i64 0, .slice none 0 0] 27)).heap[w.heap.size + 2]? = some (.cells #[.slice none 0 0, .int .i64 0, .int .i64 0, .slice none 0 0, .slice none 0 0, .int .i64 0, .slice none 0 0] 27 (0, 0)) := by rw [← hsB]; exact Go.Deep.blk_alloc_new _ _
  have B3 := hide (bel_trans bA (bel_trans bB bC))
  have hgl : 8 < w.heap.size := World.block_lt_of_cell? w _ hc
  have CG := hide (caughtG_any (hc.bel B3.out) kA kC (hy.bel B3.out) hbyt hlen (by omega))
  have KB := hide kB
  have hs3 : Hid (w.heap.size + 2 < (((w.alloc (.cells #[vb] 33)).alloc (.cells #[.slice none 0 0, .int .i64 0, .int .i64 0, .slice none 0 0, .slice none 0 0, .int .i64 0, .slice none 0 0] 27)).alloc (.cells #[.slice none 0 0, .int .i64 0, .int .i64 0, .slice none 0 0, .slice none 0 0, .int .i64 0, .slice none 0 0] 27)).heap.size) := hide (lt_of_blk kC)
  obtain ⟨ab, xb, e, _⟩ := hy
  subst e
  clear hc hbyt hlen hgl kA kB kC bA bB bC hsA hsB
  go_enter Tryd.func11, Tryd.ntmps11
  go_wp2_with fail
  refine CG.out.mono ?_
  intro e w2 hp
  generalize ((w.alloc (.cells #[.slice ab l.length xb] 33)).alloc (.cells #[.slice none 0 0, .int .i64 0, .int .i64 0, .slice none 0 0, .slice none 0 0, .int .i64 0, .slice none 0 0] 27)).alloc (.cells #[.slice none 0 0, .int .i64 0, .int .i64 0, .slice none 0 0, .slice none 0 0, .int .i64 0, .slice none 0 0] 27) = W3 at *
  clear CG
  obtain ⟨tg, hp⟩ := hp.both
  have K2 := (tg.blk _ (lt_of_blk KB.out) (by omega)).trans KB.out
  have B2 := hide (B3.out.trans (tg.bel (B := w.heap.size) (by omega) B3.out.size))
  have c0 := blk_cell K2 0 _ rfl
  have f0 := blk_frz K2 0
  have c1 := blk_cell K2 1 _ rfl
  have f1 := blk_frz K2 1
  have c2 := blk_cell K2 2 _ rfl
  have f2 := blk_frz K2 2
  have c3 := blk_cell K2 3 _ rfl
  have f3 := blk_frz K2 3
  have c4 := blk_cell K2 4 _ rfl
  have f4 := blk_frz K2 4
  have c5 := blk_cell K2 5 _ rfl
  have f5 := blk_frz K2 5
  have c6 := blk_cell K2 6 _ rfl
  have f6 := blk_frz K2 6
  rcases hp with ⟨c, h1, rfl, vP, vC, vF, vB, hk, cr, hq⟩ | ⟨h1, rfl⟩
  case inr =>
    obtain ⟨k0, t0⟩ := set1 K2 0 (.slice none 0 0)
    obtain ⟨k1, t1⟩ := set1 k0 1 (.int .i64 0)
    obtain ⟨k2, t2⟩ := set1 k1 2 (.int .i64 0)
    obtain ⟨k3, t3⟩ := set1 k2 3 (.slice none 0 0)
    obtain ⟨k4, t4⟩ := set1 k3 4 (.slice none 0 0)
    obtain ⟨k5, t5⟩ := set1 k4 5 (.int .i64 0)
    obtain ⟨k6, t6⟩ := set1 k5 6 (.slice none 0 0)
    have TT := (((((t0.trans t1).trans t2).trans t3).trans t4).trans t5).trans t6
    have BF := hide (B2.out.trans (TT.bel (B := w.heap.size) (by omega) B2.out.size))
    have KF := hide k6
    have H1 := hide h1
    clear TT k0 t0 k1 t1 k2 t2 k3 t3 k4 t4 k5 t5 k6 t6 K2 tg h1 B2 B3 KB
    unfold errV
    go_wp2_with fail
    exact ret_code (w.heap.size + 1) rfl rfl rfl KF.out rfl ⟨BF.out, .inl ⟨H1.out, rfl⟩⟩
  case inl =>
    obtain ⟨aP, kP, eP⟩ := cr.P.form
    obtain ⟨aC, kC, eC⟩ := cr.C.form
    obtain ⟨aF, kF, eF⟩ := cr.F.form
    obtain ⟨aB, kB, eB⟩ := cr.B.form
    subst eP eC eF eB
    obtain ⟨g0, g1, g2, g3, g4, g5, g6⟩ := cells7 hk
    obtain ⟨k0, t0⟩ := set1 K2 0 (.slice aP c.P.length kP)
    obtain ⟨k1, t1⟩ := set1 k0 1 (.int .i64 c.M)
    obtain ⟨k2, t2⟩ := set1 k1 2 (.int .i64 c.A)
    obtain ⟨k3, t3⟩ := set1 k2 3 (.slice aC c.C.length kC)
    obtain ⟨k4, t4⟩ := set1 k3 4 (.slice aF c.F.length kF)
    obtain ⟨k5, t5⟩ := set1 k4 5 (.int .i64 c.mn)
    obtain ⟨k6, t6⟩ := set1 k5 6 (.slice aB c.B.length kB)
    have TT := (((((t0.trans t1).trans t2).trans t3).trans t4).trans t5).trans t6
    have BF := hide (B2.out.trans (TT.bel (B := w.heap.size) (by omega) B2.out.size))
    have KF := hide k6
    have CR := hide ((cr.kp (Kp.tn TT (by have := hs3.out; omega))).low (S' := w.heap.size) (by have := hs3.out; omega))
    have H1 := hide h1
    have HQ := hide hq
    clear TT k0 t0 k1 t1 k2 t2 k3 t3 k4 t4 k5 t5 k6 t6 K2 tg h1 B2 B3 KB cr hq hk
    go_wp2_with fail
    exact ret_code (w.heap.size + 1) rfl rfl rfl KF.out rfl ⟨BF.out, .inr ⟨c, _, _, _, _, H1.out, rfl, CR.out, HQ.out⟩⟩
end Go.Proofs.YtigfjjolfeenaaaDoor.Ck
