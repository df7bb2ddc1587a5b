/- Texts of this proof, packed: contracts of the program's functions, and the plain model that they are held against. -/
import Derived.Test.YtbiilnpblnjliaaDoorQab
import Derived.Deep.RegionHeld3
/- Package sync: writing a place. (Written by mk_y.py.) -/
namespace Go.Proofs.YtbiilnpblnjliaaDoor.Ck
open Go.RowKit

set_option maxRecDepth 20000 in
set_option maxHeartbeats 1000000 in
theorem Write_bad {w : World} {F : Nat → Prop} {g : Nat} {s : St} (h : Stt w F g s) {p : List Addr} (h17 : E2 w p) (i : Nat) (x : V3) (hx : s.P[i]? = some x) (t m z : Int) (hB : isB t m z x.1 = false) : Calls Tryd.prog 46 #[.pointer (some ⟨g, 0, none⟩), .int .i64 (i : Nat), .agg #[.int .i64 t, .int .i64 m, .int .u64 z]] w (Vb w (errV p 4)) := by
  obtain ⟨vP, vM, vC, vA, vs, h⟩ := h
  have hi : i < s.P.length := (List.getElem?_eq_some_iff.1 hx).1
  obtain ⟨b, c, e, hc, hm⟩ := own_some h.pl (by omega)
  have hsm := h.small
  obtain ⟨n, hn⟩ : ∃ n, n = s.P.length := ⟨_, rfl⟩
  rw [← hn] at e hi hc
  have hn32 : n ≤ 128 := by omega
  subst e
  have HN := hide hn
  have c1 := h.cells.1
  obtain ⟨x0, x1, x2⟩ := x
  obtain ⟨o, ho⟩ : ∃ o, o = 3 * i := ⟨_, rfl⟩
  have HO := hide ho
  have hgl := h.fb g h.fg
  have hbl := h.fb b (h.fP b rfl)
  simp only at hB
  have IS : ∀ wx, Calls Tryd.prog 76 #[.agg #[.int .i64 t, .int .i64 m, .int .u64 z], .int .i64 x0] wx (Vb wx (.bool false)) := fun wx => by
    have := isOf_any t m z x0 wx
    rw [hB] at this
    exact this
  have W1 := hide (And.intro (h.bel (bel_new w (.cells #[.int .i64 t, .int .i64 m, .int .u64 z] 41))) (And.intro (bel_new w (.cells #[.int .i64 t, .int .i64 m, .int .u64 z] 41)) (And.intro (Val.new w t m z) (h17.below (Nat.le_refl _) (bel_new w (.cells #[.int .i64 t, .int .i64 m, .int .u64 z] 41))))))
  have HX := hide hx
  have HGE := hide hbl
  clear h hsm hc hm hn h17 hB ho hx
  go_enter Tryd.func46, Tryd.ntmps46
  go_wp2_with fail
  refine (in_syncelementapiValue b n c i o _ hi HO).mono ?_
  rintro e w1 ⟨rfl, rfl⟩
  go_wp2_with fail
  generalize w.alloc (.cells #[.int .i64 t, .int .i64 m, .int .u64 z] 41) = w1 at *
  obtain ⟨h1, hb1, V1, x1'⟩ := W1.out
  obtain ⟨q0, q1, q2⟩ := vcs_at _ _ _ HX.out
  rw [← HO.out] at q0 q1 q2
  have d0 := (own_cell h1.pl _ _ q0).1
  obtain ⟨_, v0, v1, v2⟩ := V1.all
  simp only at d0
  have K1 := hide (And.intro h1 (And.intro hb1 (And.intro V1 x1')))
  clear W1 h1 hb1 V1 x1' q0 q1 q2 c1
  go_region_held3 (fun w' => (w'.cell? ⟨w.heap.size, 0, none⟩ = some (.int .i64 t) ∧ w'.cell? ⟨w.heap.size, 1, none⟩ = some (.int .i64 m) ∧ w'.cell? ⟨w.heap.size, 2, none⟩ = some (.int .u64 z)) ∧ w'.cell? ⟨b, o, none⟩ = some (.int .i64 x0)) (first | (exact ⟨⟨by assumption, by assumption, by assumption⟩, by assumption⟩)) (first | (go_at_call 76; refine (IS _).mono ?_; rintro e w2 ⟨rfl, hb⟩; replace hb : Below w1.heap.size w1 w2 := ⟨hb.os, hb.tape, hb.output, hb.size, hb.block⟩; have K2 := hide (And.intro (K1.out.1.bel hb) (And.intro (bel_trans K1.out.2.1 hb) (And.intro (K1.out.2.2.1.al hb) (K1.out.2.2.2.below (Nat.le_refl _) hb)))); obtain ⟨_, v0', v1', v2'⟩ := K2.out.2.2.1.all; have d0' : w2.cell? ⟨b, o, none⟩ = some (.int .i64 x0) := (hb.cell (p := ⟨b, o, none⟩) (K1.out.1.fb b (K1.out.1.fP b rfl))).trans d0))
  have x4 : w2.cell? ⟨4, 0, none⟩ = some (errV p 4) := K2.out.2.2.2.c4
  generalize errV p 4 = ev at *
  go_wp2_with fail
  go_ret
  exact Vb.mk rfl K2.out.2.1
set_option maxRecDepth 20000 in
set_option maxHeartbeats 1000000 in
theorem Write_in {w : World} {F : Nat → Prop} {g : Nat} {s : St} (h : Stt w F g s) {p : List Addr} (h17 : E2 w p) (i : Nat) (x : V3) (hx : s.P[i]? = some x) (t m z : Int) (hB : isB t m z x.1 = true) : Calls Tryd.prog 46 #[.pointer (some ⟨g, 0, none⟩), .int .i64 (i : Nat), .agg #[.int .i64 t, .int .i64 m, .int .u64 z]] w (Sp w F g { s with P := s.P.set i (t, m, z) } .nilIface) := by
  obtain ⟨vP, vM, vC, vA, vs, h⟩ := h
  have hi : i < s.P.length := (List.getElem?_eq_some_iff.1 hx).1
  obtain ⟨b, c, e, hc, hm⟩ := own_some h.pl (by omega)
  have hsm := h.small
  obtain ⟨n, hn⟩ : ∃ n, n = s.P.length := ⟨_, rfl⟩
  rw [← hn] at e hi hc
  have hn32 : n ≤ 128 := by omega
  subst e
  have HN := hide hn
  have c1 := h.cells.1
  obtain ⟨x0, x1, x2⟩ := x
  obtain ⟨o, ho⟩ : ∃ o, o = 3 * i := ⟨_, rfl⟩
  have HO := hide ho
  have hgl := h.fb g h.fg
  have hbl := h.fb b (h.fP b rfl)
  simp only at hB
  have IS : ∀ wx, Calls Tryd.prog 76 #[.agg #[.int .i64 t, .int .i64 m, .int .u64 z], .int .i64 x0] wx (Vb wx (.bool true)) := fun wx => by
    have := isOf_any t m z x0 wx
    rw [hB] at this
    exact this
  have W1 := hide (And.intro (h.bel (bel_new w (.cells #[.int .i64 t, .int .i64 m, .int .u64 z] 41))) (And.intro (bel_new w (.cells #[.int .i64 t, .int .i64 m, .int .u64 z] 41)) (And.intro (Val.new w t m z) (h17.below (Nat.le_refl _) (bel_new w (.cells #[.int .i64 t, .int .i64 m, .int .u64 z] 41))))))
  have HX := hide hx
  have HGE := hide hbl
  clear h hsm hc hm hn h17 hB ho hx
  go_enter Tryd.func46, Tryd.ntmps46
  go_wp2_with fail
  refine (in_syncelementapiValue b n c i o _ hi HO).mono ?_
  rintro e w1 ⟨rfl, rfl⟩
  go_wp2_with fail
  generalize w.alloc (.cells #[.int .i64 t, .int .i64 m, .int .u64 z] 41) = w1 at *
  obtain ⟨h1, hb1, V1, x1'⟩ := W1.out
  obtain ⟨q0, q1, q2⟩ := vcs_at _ _ _ HX.out
  rw [← HO.out] at q0 q1 q2
  have d0 := (own_cell h1.pl _ _ q0).1
  obtain ⟨_, v0, v1, v2⟩ := V1.all
  simp only at d0
  have K1 := hide (And.intro h1 (And.intro hb1 (And.intro V1 x1')))
  clear W1 h1 hb1 V1 x1' q0 q1 q2 c1
  go_region_held3 (fun w' => (w'.cell? ⟨w.heap.size, 0, none⟩ = some (.int .i64 t) ∧ w'.cell? ⟨w.heap.size, 1, none⟩ = some (.int .i64 m) ∧ w'.cell? ⟨w.heap.size, 2, none⟩ = some (.int .u64 z)) ∧ w'.cell? ⟨b, o, none⟩ = some (.int .i64 x0)) (first | (exact ⟨⟨by assumption, by assumption, by assumption⟩, by assumption⟩)) (first | (go_at_call 76; refine (IS _).mono ?_; rintro e w2 ⟨rfl, hb⟩; replace hb : Below w1.heap.size w1 w2 := ⟨hb.os, hb.tape, hb.output, hb.size, hb.block⟩; have K2 := hide (And.intro (K1.out.1.bel hb) (And.intro (bel_trans K1.out.2.1 hb) (And.intro (K1.out.2.2.1.al hb) (K1.out.2.2.2.below (Nat.le_refl _) hb)))); obtain ⟨_, v0', v1', v2'⟩ := K2.out.2.2.1.all; have d0' : w2.cell? ⟨b, o, none⟩ = some (.int .i64 x0) := (hb.cell (p := ⟨b, o, none⟩) (K1.out.1.fb b (K1.out.1.fP b rfl))).trans d0))
  obtain ⟨q0, q1, q2⟩ := vcs_at _ _ _ HX.out
  rw [← HO.out] at q0 q1 q2
  obtain ⟨e0, f0⟩ := own_cell K2.out.1.pl _ _ q0
  obtain ⟨e1, f1⟩ := own_cell K2.out.1.pl _ _ q1
  obtain ⟨e2, f2⟩ := own_cell K2.out.1.pl _ _ q2
  have SP := K2.out.1.setP HN.out i (t, m, z)
  rw [← HO.out] at SP
  have SP2 := hide SP
  clear SP q0 q1 q2
  go_wp2_with fail
  go_ret
  exact Sp.mk rfl ⟨_, _, _, _, _, SP2.out.1⟩ ((Ch.of_bel K2.out.2.1).trans SP2.out.2)
set_option maxRecDepth 20000 in
set_option maxHeartbeats 1000000 in
theorem Write_out {w : World} {F : Nat → Prop} {g : Nat} {s : St} (h : Stt w F g s) {p : List Addr} (h17 : E2 w p) (i : Int) (t m z : Int) (hi : i < 0 ∨ (s.P.length : Int) ≤ i) : Calls Tryd.prog 46 #[.pointer (some ⟨g, 0, none⟩), .int .i64 i, .agg #[.int .i64 t, .int .i64 m, .int .u64 z]] w (Vb w (errV p 0)) := by
  obtain ⟨vP, vM, vC, vA, vs, h⟩ := h
  obtain ⟨a, c, e, hc, hm⟩ := own_slice h.pl
  subst e
  obtain ⟨n, hn⟩ : ∃ n, n = s.P.length := ⟨_, rfl⟩
  rw [← hn] at hi
  have c1 := h.cells.1
  rw [← hn] at c1
  have EO := hide (fun w' (h17 : E2 w' p) => out_syncelementapiValue a n c i w' h17 hi)
  have H7 := hide h17
  unfold errV at *
  generalize adr p 0 = ad at *
  have HGL := hide (h.fb g h.fg)
  clear h hc hm hi hn h17
  have H7a := hide (H7.out.below (Nat.le_refl _) (bel_new w (.cells #[.int .i64 t, .int .i64 m, .int .u64 z] 41)))
  have hgl := HGL.out
  go_enter Tryd.func46, Tryd.ntmps46
  go_wp2_with fail
  refine (EO.out _ H7a.out).mono ?_
  rintro e w1 ⟨rfl, hb⟩
  go_wp2_with fail
  go_ret
  exact Vb.mk rfl (bel_trans (bel_new _ _) hb)
end Go.Proofs.YtbiilnpblnjliaaDoor.Ck

/- Package sync: a value into a queue. (Written by mk_y.py.) -/
namespace Go.Proofs.YtbiilnpblnjliaaDoor.Ck
open Go.RowKit

theorem step_appV {TS : TypeId} {w : World} {ops : Array Oper} {o : Oper} {a : Act} {K : Act → World → Prop} {Q : Exit → Act → World → Prop} {E : Prop} (s x : Operand) (v vx : Value) (R : Value → World → Prop)
    (hrun : ∀ ty, ∃ v' w', (Builtin.append_ #[TS, TS] ty #[v, vx]).run Tryd.prog w = .ok v' w' ∧ R v' w') (hw : Region.wanted o (yielded ops a.tmps) = true)
    (ho : o.op = .call { callee := .builtin .append, args := #[s, x], argTypes := #[TS, TS] }) (hs : a.eval s = v) (hx : a.eval x = vx)
    (h : ∀ v' w', R v' w' → K (a.put o.dst v') w') : if Region.wanted o (yielded ops a.tmps) = true then Oper.wp Tryd.prog o a w K Q else E := by
  rw [if_pos hw]
  obtain ⟨v', w', hr, hR⟩ := hrun o.type
  unfold Oper.wp execOp
  simp only [ho, resolve, invoke, builtin, Sem.run_bind, Sem.run_pure, Result.andThen_ok, List.map_toArray, List.map_cons, List.map_nil, hs, hx, hr]
  exact h v' w' hR

theorem info_val : (Tryd.prog.info? 41).map (fun i => (i.zero, i.size, i.bytes)) = some (some (.agg #[.int .i64 0, .int .i64 0, .int .u64 0]), 3, 24) := by kernel_rfl
/-- a value more -/
theorem push_v {w : World} {vq : Value} {l : List V3} {n : Nat} (hn : n = l.length) (oq : w.ownsRow 0 41 3 vq n (vcs l)) (hl : l.length ≤ 1000) (t m z : Int) (ty : TypeId) :
    ∃ v' w', (Builtin.append_ #[46, 46] ty #[vq, .slice (some ⟨w.heap.size, 0, none⟩) 1 1]).run Tryd.prog (w.alloc (.cells #[.int .i64 t, .int .i64 m, .int .u64 z] 41)) = .ok v' w' ∧
      (w'.ownsRow 0 41 3 v' (n + 1) (vcs (l ++ [(t, m, z)])) ∧ w.grownBy w' vq.ownBlock ∧ (∀ k, v'.ownBlock = some k → vq.ownBlock = some k ∨ w.heap.size ≤ k)) := by
  obtain ⟨ie, hi, hz0, hz1, hz2⟩ := info_parts info_val
  have hb := bel_new w (.cells #[.int .i64 t, .int .i64 m, .int .u64 z] 41)
  have o1 := own_keep oq (fun k hk => hb.block k (own_type oq hk).2.1)
  have hc : ∀ (j : Nat) (u : Value), (vcs [(t, m, z)])[j]? = some u → (w.alloc (.cells #[.int .i64 t, .int .i64 m, .int .u64 z] 41)).cell? ((⟨w.heap.size, 0, none⟩ : Addr).add j) = some u := fun j u hu => by
    rw [show (⟨w.heap.size, 0, none⟩ : Addr).add j = ⟨w.heap.size, j, none⟩ by unfold Addr.add; by_cases h : j = 0 <;> simp [h]]
    exact blk_cell (Go.Deep.blk_alloc_new w _) j u (by simpa [vcs] using hu)
  obtain ⟨v', w', hr, ho, hg, _, hat⟩ := run_append_own_at (P := Tryd.prog) (w.alloc (.cells #[.int .i64 t, .int .i64 m, .int .u64 z] 41)) 0 46 ty 41 ie _ 3 24 Tryd.underlying46 hi hz0 hz1 hz2 rfl (by decide) vq n (vcs l) o1 ⟨w.heap.size, 0, none⟩ 1 1 (vcs [(t, m, z)]) rfl hc (vcs_one _) (by unfold maxLen; omega) (by omega) (Nat.zero_le _)
  refine ⟨v', w', hr, by rw [vcs_app]; exact ho, ⟨hg.os, hg.tape, hg.output, Nat.le_trans hb.size hg.size, fun k hk hne => (hg.block k (Nat.lt_of_lt_of_le hk hb.size) hne).trans (hb.block k hk)⟩, fun k hk => ?_⟩
  rcases hat with e | e
  · exact .inl (e.symm.trans hk)
  · rw [e] at hk
    right
    have := Option.some.inj hk
    simp at this
    omega
theorem push_q {w W : World} (hW : Below w.heap.size w W) {b o : Nat} {cur : Array Value} (hbq : w.heap[b]? = some (.cells cur 97 (0, 0))) {vq : Value} {l : List V3} {n : Nat} (hn : n = l.length) (d2 : w.cell? ⟨b, o + 2, none⟩ = some vq) (oq : w.ownsRow 0 41 3 vq n (vcs l)) (hl : l.length ≤ 1000) (t m z : Int) (ty : TypeId) :
    ∃ v' w', (Builtin.append_ #[46, 46] ty #[vq, .slice (some ⟨W.heap.size, 0, none⟩) 1 1]).run Tryd.prog (W.alloc (.cells #[.int .i64 t, .int .i64 m, .int .u64 z] 41)) = .ok v' w' ∧
      ((∃ a l c, v' = .slice a l c) ∧ w'.frozen? ⟨b, o + 2, none⟩ = false ∧ w'.cell? ⟨b, o + 2, none⟩ = some vq ∧ w'.ownsRow 0 41 3 v' (l ++ [(t, m, z)]).length (vcs (l ++ [(t, m, z)])) ∧ w.grownBy w' vq.ownBlock ∧ (∀ k, v'.ownBlock = some k → vq.ownBlock = some k ∨ w.heap.size ≤ k)) := by
  obtain ⟨v', w', hr, ho, hg, hf⟩ := push_v hn (own_keep oq (fun k hk => hW.block k (own_type oq hk).2.1)) hl t m z ty
  have hgb : w'.heap[b]? = w.heap[b]? := (hg.block b (Nat.lt_of_lt_of_le (lt_of_blk hbq) hW.size) (fun e => own_at oq hbq (by decide) e.symm)).trans (hW.block b (lt_of_blk hbq))
  obtain ⟨a, c, e, _⟩ := own_slice ho
  refine ⟨v', w', hr, ⟨_, _, _, e⟩, blk_frz (hgb.trans hbq) _, (World.cell?_of_block (w := w) (a := ⟨b, o + 2, none⟩) hgb).trans d2, ?_, ⟨hg.os.trans hW.os, hg.tape.trans hW.tape, hg.output.trans hW.output, Nat.le_trans hW.size hg.size, fun k hk hne => (hg.block k (Nat.lt_of_lt_of_le hk hW.size) hne).trans (hW.block k hk)⟩, fun k hk => ?_⟩
  · rw [List.length_append, ← hn]
    exact ho
  · rcases hf k hk with h | h
    · exact .inl h
    · exact .inr (Nat.le_trans hW.size h)
/-- what put leaves where there is room -/
def PutP (w : World) (b o : Nat) (vq : Value) (l : List V3) (e : Ending) (w' : World) : Prop := e = .returned (.bool true) ∧ ∃ v' w2, w' = w2.setCell ⟨b, o + 2, none⟩ v' ∧ w2.ownsRow 0 41 3 v' l.length (vcs l) ∧ w.grownBy w2 vq.ownBlock ∧ (∀ k, v'.ownBlock = some k → vq.ownBlock = some k ∨ w.heap.size ≤ k)
set_option maxRecDepth 20000 in
set_option maxHeartbeats 1000000 in
theorem put_full {w : World} (b o : Nat) (cur : Array Value) (hbq : w.heap[b]? = some (.cells cur 97 (0, 0))) (room : Int) (vq : Value) (l : List V3) (d1 : w.cell? ⟨b, o + 1, none⟩ = some (.int .i64 room)) (d2 : w.cell? ⟨b, o + 2, none⟩ = some vq) (oq : w.ownsRow 0 41 3 vq l.length (vcs l)) (hr : room ≤ l.length) (t m z : Int) : Calls Tryd.prog 77 #[.pointer (some ⟨b, o, none⟩), .agg #[.int .i64 t, .int .i64 m, .int .u64 z]] w (Vb w (.bool false)) := by
  obtain ⟨aq, cq, rfl, hcq, hmq⟩ := own_slice oq
  obtain ⟨n, hn⟩ : ∃ n, n = l.length := ⟨_, rfl⟩
  have hbl := lt_of_blk hbq
  rw [← hn] at d2 hr oq hcq
  have HN := hide hn
  have W1 := hide (And.intro (bel_new w (.cells #[.int .i64 t, .int .i64 m, .int .u64 z] 41)) (Val.new w t m z))
  clear hn oq
  go_enter Tryd.func77, Tryd.ntmps77
  go_wp2_with fail
  go_quiet (fail)
  go_wp2_with fail
  go_ret
  exact Vb.mk rfl (below_drewN (bel_new _ _) _)
set_option maxRecDepth 20000 in
set_option maxHeartbeats 1000000 in
theorem put_room {w : World} (b o : Nat) (cur : Array Value) (hbq : w.heap[b]? = some (.cells cur 97 (0, 0))) (room : Int) (vq : Value) (l : List V3) (d1 : w.cell? ⟨b, o + 1, none⟩ = some (.int .i64 room)) (d2 : w.cell? ⟨b, o + 2, none⟩ = some vq) (oq : w.ownsRow 0 41 3 vq l.length (vcs l)) (hr : (l.length : Int) < room) (hr8 : room ≤ 8) (t m z : Int) : Calls Tryd.prog 77 #[.pointer (some ⟨b, o, none⟩), .agg #[.int .i64 t, .int .i64 m, .int .u64 z]] w (PutP w b o vq (l ++ [(t, m, z)])) := by
  obtain ⟨aq, cq, rfl, hcq, hmq⟩ := own_slice oq
  obtain ⟨n, hn⟩ : ∃ n, n = l.length := ⟨_, rfl⟩
  have hbl := lt_of_blk hbq
  rw [← hn] at d2 hr oq hcq
  have HN := hide hn
  have W1 := hide (And.intro (bel_new w (.cells #[.int .i64 t, .int .i64 m, .int .u64 z] 41)) (Val.new w t m z))
  rw [← hn]
  have hl8 : l.length ≤ 1000 := by omega
  clear hn
  go_enter Tryd.func77, Tryd.ntmps77
  go_wp2_with fail
  go_quiet (fail)
  go_wp2_with fail
  have hbW : Below w.heap.size w ((w.alloc (.cells #[.int .i64 t, .int .i64 m, .int .u64 z] 41)).drewN nq).drew := bel_drawn (below_drewN (bel_new _ _) _)
  have G0 := hide (And.intro ((hbW.block b hbl).trans hbq) ((hbW.cell (p := ⟨b, o + 2, none⟩) hbl).trans d2))
  have N0 := hide (show Val ((w.alloc (.cells #[.int .i64 t, .int .i64 m, .int .u64 z] 41)).drewN nq).drew w.heap.size t m z from W1.out.2)
  have PU := hide (fun ty => push_q hbW hbq HN.out d2 oq hl8 t m z ty)
  clear hbW W1 oq hbq d2 d1 hl8
  refine wp_region_any mixed ?_
  change wpAny _ _ _ _ _ _ _ (World.drew _)
  generalize World.drew _ = W0 at *
  refine wpAny_take (i := 0) (v := ?_) rfl (by kernel_rfl) (by kernel_rfl) (by kernel_rfl) (fun _ _ _ h => h) (Or.inl ⟨by rfl, fun w => ?_⟩) ?_
  rotate_left 1
  · (go_simp <;> with_reducible rfl)
  simp only [Act.put, List.getElem_toArray, List.getElem_cons_zero, List.setIfInBounds_toArray, List.set_cons_zero, List.set_cons_succ]
  refine wpAny_take (i := 1) (v := ?_) rfl (by kernel_rfl) (by kernel_rfl) (by kernel_rfl) (fun _ _ _ h => h) (Or.inl ⟨by rfl, fun w => ?_⟩) ?_
  rotate_left 1
  · (go_simp <;> with_reducible rfl)
  simp only [Act.put, List.getElem_toArray, List.getElem_cons_zero, List.getElem_cons_succ, List.setIfInBounds_toArray, List.set_cons_zero, List.set_cons_succ]
  refine wpAny_take (i := 2) (v := ?_) rfl (by kernel_rfl) (by kernel_rfl) (by kernel_rfl) (fun _ _ _ h => h) (Or.inl ⟨by rfl, fun w => ?_⟩) ?_
  rotate_left 1
  · (go_simp <;> with_reducible rfl)
  simp only [Act.put, List.getElem_toArray, List.getElem_cons_zero, List.getElem_cons_succ, List.setIfInBounds_toArray, List.set_cons_zero, List.set_cons_succ]
  refine wpAny_take (i := 3) (v := ?_) rfl (by kernel_rfl) (by kernel_rfl) (by kernel_rfl) (fun _ _ _ h => h) (Or.inl ⟨by rfl, fun w => ?_⟩) ?_
  rotate_left 1
  · (go_simp <;> with_reducible rfl)
  simp only [Act.put, List.getElem_toArray, List.getElem_cons_zero, List.getElem_cons_succ, List.setIfInBounds_toArray, List.set_cons_zero, List.set_cons_succ]
  refine wpAny_ready (rs := [4, 5]) (by kernel_rfl) (by decide) ?_
  refine AllReady.cons rfl (fun K1 hK1 => ?_) (AllReady.cons rfl (fun K1 hK1 => ?_) AllReady.nil)
  · have q := (show W0.cell? ⟨b, o + 2, none⟩ = some (.slice aq n cq) from G0.out.2)
    go_simp
    refine hK1 _ _ ?_
    clear hK1 K1 q
    refine wpAny_ready (rs := [5]) (by kernel_rfl) (by decide) ?_
    refine AllReady.cons rfl (fun K1 hK1 => ?_) AllReady.nil
    obtain ⟨_, q0, q1, q2⟩ := N0.out.all
    go_simp
    refine hK1 _ _ ?_
    clear hK1 K1 q0 q1 q2
    refine wpAny_ready (rs := [6]) (by kernel_rfl) (by decide) ?_
    refine AllReady.cons rfl (fun K1 hK1 => ?_) AllReady.nil
    go_simp
    refine hK1 _ _ ?_
    clear hK1 K1
    refine wpAny_ready (rs := [7]) (by kernel_rfl) (by decide) ?_
    refine AllReady.cons rfl (fun K1 hK1 => ?_) AllReady.nil
    refine step_appV (TS := 46) (.tmp 20) (.tmp 22) _ _ _ (fun ty => PU.out ty) rfl rfl rfl rfl ?_
    rintro v9 w9 ⟨⟨a9, l9, c9, rfl⟩, z1, z2, r9⟩
    have R9 := hide r9
    clear r9
    refine hK1 _ _ ?_
    clear hK1 K1
    refine wpAny_take (i := 8) (v := ?_) rfl (by kernel_rfl) (by kernel_rfl) (by kernel_rfl) (fun _ _ _ h => h) (Or.inl ⟨by rfl, fun w => ?_⟩) ?_
    rotate_left 1
    · (go_simp <;> with_reducible rfl)
    simp only [Act.put, List.getElem_toArray, List.getElem_cons_zero, List.getElem_cons_succ, List.setIfInBounds_toArray, List.set_cons_zero, List.set_cons_succ]
    refine wpAny_take (i := 9) (v := ?_) rfl (by kernel_rfl) (by kernel_rfl) (by kernel_rfl) (fun _ _ _ h => h) (Or.inl ⟨by rfl, fun w => ?_⟩) ?_
    rotate_left 1
    · (go_simp <;> with_reducible rfl)
    simp only [Act.put, List.getElem_toArray, List.getElem_cons_zero, List.getElem_cons_succ, List.setIfInBounds_toArray, List.set_cons_zero, List.set_cons_succ]
    refine wpAny_ready (rs := [10]) (by kernel_rfl) (by decide) ?_
    refine AllReady.cons rfl (fun K1 hK1 => ?_) AllReady.nil
    go_simp
    refine hK1 _ _ ?_
    clear hK1 K1 z1 z2
    refine wpAny_done (by kernel_rfl) ?_ _
    go_wp2_with fail
    go_ret
    exact ⟨rfl, _, _, rfl, R9.out⟩
  · obtain ⟨_, q0, q1, q2⟩ := N0.out.all
    go_simp
    refine hK1 _ _ ?_
    clear hK1 K1 q0 q1 q2
    refine wpAny_ready (rs := [4, 6]) (by kernel_rfl) (by decide) ?_
    refine AllReady.cons rfl (fun K1 hK1 => ?_) (AllReady.cons rfl (fun K1 hK1 => ?_) AllReady.nil)
    · have q := (show W0.cell? ⟨b, o + 2, none⟩ = some (.slice aq n cq) from G0.out.2)
      go_simp
      refine hK1 _ _ ?_
      clear hK1 K1 q
      refine wpAny_ready (rs := [6]) (by kernel_rfl) (by decide) ?_
      refine AllReady.cons rfl (fun K1 hK1 => ?_) AllReady.nil
      go_simp
      refine hK1 _ _ ?_
      clear hK1 K1
      refine wpAny_ready (rs := [7]) (by kernel_rfl) (by decide) ?_
      refine AllReady.cons rfl (fun K1 hK1 => ?_) AllReady.nil
      refine step_appV (TS := 46) (.tmp 20) (.tmp 22) _ _ _ (fun ty => PU.out ty) rfl rfl rfl rfl ?_
      rintro v9 w9 ⟨⟨a9, l9, c9, rfl⟩, z1, z2, r9⟩
      have R9 := hide r9
      clear r9
      refine hK1 _ _ ?_
      clear hK1 K1
      refine wpAny_take (i := 8) (v := ?_) rfl (by kernel_rfl) (by kernel_rfl) (by kernel_rfl) (fun _ _ _ h => h) (Or.inl ⟨by rfl, fun w => ?_⟩) ?_
      rotate_left 1
      · (go_simp <;> with_reducible rfl)
      simp only [Act.put, List.getElem_toArray, List.getElem_cons_zero, List.getElem_cons_succ, List.setIfInBounds_toArray, List.set_cons_zero, List.set_cons_succ]
      refine wpAny_take (i := 9) (v := ?_) rfl (by kernel_rfl) (by kernel_rfl) (by kernel_rfl) (fun _ _ _ h => h) (Or.inl ⟨by rfl, fun w => ?_⟩) ?_
      rotate_left 1
      · (go_simp <;> with_reducible rfl)
      simp only [Act.put, List.getElem_toArray, List.getElem_cons_zero, List.getElem_cons_succ, List.setIfInBounds_toArray, List.set_cons_zero, List.set_cons_succ]
      refine wpAny_ready (rs := [10]) (by kernel_rfl) (by decide) ?_
      refine AllReady.cons rfl (fun K1 hK1 => ?_) AllReady.nil
      go_simp
      refine hK1 _ _ ?_
      clear hK1 K1 z1 z2
      refine wpAny_done (by kernel_rfl) ?_ _
      go_wp2_with fail
      go_ret
      exact ⟨rfl, _, _, rfl, R9.out⟩
    · go_simp
      refine hK1 _ _ ?_
      clear hK1 K1
      refine wpAny_ready (rs := [4]) (by kernel_rfl) (by decide) ?_
      refine AllReady.cons rfl (fun K1 hK1 => ?_) AllReady.nil
      have q := (show (W0.alloc (.cells #[.int .i64 t, .int .i64 m, .int .u64 z] 41)).cell? ⟨b, o + 2, none⟩ = some (.slice aq n cq) from ((bel_new W0 _).cell (p := ⟨b, o + 2, none⟩) (lt_of_blk G0.out.1)).trans G0.out.2)
      go_simp
      refine hK1 _ _ ?_
      clear hK1 K1 q
      refine wpAny_ready (rs := [7]) (by kernel_rfl) (by decide) ?_
      refine AllReady.cons rfl (fun K1 hK1 => ?_) AllReady.nil
      refine step_appV (TS := 46) (.tmp 20) (.tmp 22) _ _ _ (fun ty => PU.out ty) rfl rfl rfl rfl ?_
      rintro v9 w9 ⟨⟨a9, l9, c9, rfl⟩, z1, z2, r9⟩
      have R9 := hide r9
      clear r9
      refine hK1 _ _ ?_
      clear hK1 K1
      refine wpAny_take (i := 8) (v := ?_) rfl (by kernel_rfl) (by kernel_rfl) (by kernel_rfl) (fun _ _ _ h => h) (Or.inl ⟨by rfl, fun w => ?_⟩) ?_
      rotate_left 1
      · (go_simp <;> with_reducible rfl)
      simp only [Act.put, List.getElem_toArray, List.getElem_cons_zero, List.getElem_cons_succ, List.setIfInBounds_toArray, List.set_cons_zero, List.set_cons_succ]
      refine wpAny_take (i := 9) (v := ?_) rfl (by kernel_rfl) (by kernel_rfl) (by kernel_rfl) (fun _ _ _ h => h) (Or.inl ⟨by rfl, fun w => ?_⟩) ?_
      rotate_left 1
      · (go_simp <;> with_reducible rfl)
      simp only [Act.put, List.getElem_toArray, List.getElem_cons_zero, List.getElem_cons_succ, List.setIfInBounds_toArray, List.set_cons_zero, List.set_cons_succ]
      refine wpAny_ready (rs := [10]) (by kernel_rfl) (by decide) ?_
      refine AllReady.cons rfl (fun K1 hK1 => ?_) AllReady.nil
      go_simp
      refine hK1 _ _ ?_
      clear hK1 K1 z1 z2
      refine wpAny_done (by kernel_rfl) ?_ _
      go_wp2_with fail
      go_ret
      exact ⟨rfl, _, _, rfl, R9.out⟩
end Go.Proofs.YtbiilnpblnjliaaDoor.Ck

/- Package sync: the first value out of a queue. (Written by mk_y.py.) -/
namespace Go.Proofs.YtbiilnpblnjliaaDoor.Ck
open Go.RowKit

theorem zeroV (w : World) : (zeroValue 41).run Tryd.prog w = .ok (.agg #[.int .i64 0, .int .i64 0, .int .u64 0]) w := by kernel_rfl
/-- block b has turned, and nothing else -/
theorem gb_setCell {w w1 : World} {b : Nat} (h : w.grownBy w1 (some b)) (j : Nat) (u : Value) : w.grownBy (w1.setCell ⟨b, j, none⟩ u) (some b) :=
  ⟨h.os, h.tape, h.output, by rw [size_setCell]; exact h.size, fun k hk hne => (Below.heap_setCell _ _ _ _ (fun e => hne (congrArg some e))).trans (h.block k hk hne)⟩
theorem gb_drew {w w1 : World} {o : Option Nat} (h : w.drew.grownBy w1 o) : w.grownBy w1 o := ⟨h.os, h.tape, h.output, h.size, h.block⟩
theorem gb_trans {w w1 w2 : World} {o : Option Nat} (h : w.grownBy w1 o) (k : w1.grownBy w2 o) : w.grownBy w2 o :=
  ⟨k.os.trans h.os, k.tape.trans h.tape, k.output.trans h.output, Nat.le_trans h.size k.size, fun i hi hne => (k.block i (Nat.lt_of_lt_of_le hi h.size) hne).trans (h.block i hi hne)⟩
theorem run_clear1 {w : World} {b m c : Nat} {l : List V3} (ho : w.ownsRow 0 41 3 (.slice (some ⟨b, 0, none⟩) m c) l.length (vcs l)) (hc : m < c) (c' : Nat) (ty : TypeId) :
    ∃ w', (Builtin.clear_ #[46] ty #[.slice (some ⟨b, m * 3, none⟩) 1 c']).run Tryd.prog w = .ok (.tuple #[]) w' ∧ w'.ownsRow 0 41 3 (.slice (some ⟨b, 0, none⟩) m c) l.length (vcs l) ∧ w.grownBy w' (some b) := by
  have hm : m = l.length := by
    obtain ⟨_, ⟨h0, _⟩ | ⟨gb, cap, cur, e, _⟩⟩ := ho
    · cases h0
    · cases e
      rfl
  subst hm
  have hx : ∃ cur, w.heap[b]? = some (.cells cur 41 (0, 0)) ∧ cur.size = c * 3 := by
    obtain ⟨_, ⟨h0, _⟩ | ⟨gb, cap, cur, e, _, hg, _, _, hs, _⟩⟩ := ho
    · cases h0
    · cases e
      exact ⟨cur, hg, hs⟩
  obtain ⟨cur, hg, hs⟩ := hx
  have hcell : ∀ j, j < 3 → (w.cell? ⟨b, l.length * 3 + j, none⟩).isSome = true := fun j hj => by
    rw [blk_cell hg (l.length * 3 + j) cur[l.length * 3 + j] (Array.getElem?_eq_getElem (by omega))]
    rfl
  have hst := run_storeCells_cells (P := Tryd.prog) b (l.length * 3) [.int .i64 0, .int .i64 0, .int .u64 0] 0 w (by simpa using hcell) (fun j _ => blk_frz hg _) (by intro v hv; simp at hv; rcases hv with rfl | rfl | rfl <;> rfl)
  have h3 := own_set (own_set (own_set ho (l.length * 3) (.int .i64 0)) (l.length * 3 + 1) (.int .i64 0)) (l.length * 3 + 2) (.int .u64 0)
  refine ⟨_, ?_, ?_, gb_setCell (gb_setCell (gb_setCell (World.grownBy.refl w _) (l.length * 3) (.int .i64 0)) (l.length * 3 + 1) (.int .i64 0)) (l.length * 3 + 2) (.int .u64 0)⟩
  · simp only [Nat.add_zero] at hst
    have hzc : (Builtin.zeroCells (Value.agg #[.int .i64 0, .int .i64 0, .int .u64 0]).cells 1).toList = [.int .i64 0, .int .i64 0, .int .u64 0] := by kernel_rfl
    simp [Builtin.clear_, run_underlying Tryd.underlying46, hzc, hst, World.setCells]
  · rw [List.set_eq_of_length_le (by simp [vcs_len]), List.set_eq_of_length_le (by simp [vcs_len]), List.set_eq_of_length_le (by simp [vcs_len])] at h3
    exact h3
theorem run_move {w : World} {b c : Nat} {v : V3} {l : List V3} {k : Nat} (hk : k = l.length) (ho : w.ownsRow 0 41 3 (.slice (some ⟨b, 0, none⟩) (k + 1) c) (k + 1) (vcs (v :: l))) (a : Addr) (ha : a = ⟨b, 3, none⟩ ∨ k = 0) (c' : Nat) (ty : TypeId) :
    ∃ v' w', (Builtin.append_ #[46, 46] ty #[.slice (some ⟨b, 0, none⟩) 0 c, .slice (some a) k c']).run Tryd.prog w = .ok v' w' ∧ (v' = .slice (some ⟨b, 0, none⟩) k c ∧ w'.ownsRow 0 41 3 (.slice (some ⟨b, 0, none⟩) k c) l.length (vcs l) ∧ w.grownBy w' (some b)) := by
  subst hk
  obtain ⟨i, hi, hz0, hz1, hz2⟩ := info_parts info_val
  have hx : ∃ cur, w.heap[b]? = some (.cells cur 41 (0, 0)) ∧ l.length + 1 ≤ c ∧ c ≤ maxLen ∧ cur.size = c * 3 ∧ cur.toList.take ((l.length + 1) * 3) = vcs (v :: l) := by
    obtain ⟨_, ⟨h0, _⟩ | ⟨gb, cap, cur, e, _, hg, h1, h2, hs, ht⟩⟩ := ho
    · cases h0
    · cases e
      exact ⟨cur, hg, h1, h2, hs, ht⟩
  obtain ⟨cur, hg, h1, h2, hs, ht⟩ := hx
  have hr := run_append_room (P := Tryd.prog) w 46 ty 41 i Tryd.underlying46 hi b 0 c cur hg a l.length c' (vcs l) (by rw [vcs_len, hz1]) (fun j u hu => by
    have hj : j < l.length * 3 := by rw [← vcs_len]; exact (List.getElem?_eq_some_iff.1 hu).1
    rcases ha with rfl | e
    · have hu2 : (vcs (v :: l))[3 + j]? = some u := by
        rw [show 3 + j = j + 1 + 1 + 1 by omega]
        simpa [vcs] using hu
      rw [show (⟨b, 3, none⟩ : Addr).add j = ⟨b, 3 + j, none⟩ by unfold Addr.add; by_cases h : j = 0 <;> simp [h]]
      exact (own_cell ho (3 + j) u hu2).1
    · omega) (vcs_one _) (by omega) (by rw [vcs_len, hs]; omega)
  refine ⟨_, _, hr, by simp, ?_, rfl, rfl, rfl, by simp [World.setRow], fun k _ hk => setRow_other w b k _ (fun e => hk (by rw [e]))⟩
  refine ⟨vcs_len l, .inr ⟨b, c, _, rfl, Nat.zero_le _, setRow_heap w b _ _ 41 _ hg, by omega, h2, ?_, ?_⟩⟩
  · simp [vcs_len, hs]
    omega
  · simp only [Nat.zero_mul, List.take_zero, List.nil_append, ← vcs_len l]
    exact List.take_left
set_option maxRecDepth 20000 in
set_option maxHeartbeats 1000000 in
theorem delete_any {w : World} {b c : Nat} {v : V3} {l : List V3} {k : Nat} (hk : k = l.length) (hk8 : k ≤ 1000) (ho : w.ownsRow 0 41 3 (.slice (some ⟨b, 0, none⟩) (k + 1) c) (k + 1) (vcs (v :: l))) :
    Calls Tryd.prog 100 #[.slice (some ⟨b, 0, none⟩) (k + 1) c, .int .i64 0, .int .i64 1] w fun e w' => e = .returned (.slice (some ⟨b, 0, none⟩) k c) ∧ w'.ownsRow 0 41 3 (.slice (some ⟨b, 0, none⟩) k c) l.length (vcs l) ∧ w.grownBy w' (some b) := by
  obtain ⟨_, _, e, hkc, hcm⟩ := own_some ho (by omega)
  cases e
  have HO := hide (And.intro hk ho)
  clear hk ho
  unfold maxLen at hcm
  by_cases h1 : c = 1
  · subst h1
    obtain rfl : k = 0 := by omega
    have MV := hide (fun (ty : TypeId) => run_move (w := w.drew) HO.out.1 HO.out.2 ⟨b, 0, none⟩ (.inr rfl) 0 ty)
    go_enter Tryd.func100, Tryd.ntmps100
    go_wp2_with fail
    refine wp_region_any mixed ?_
    change wpAny _ _ _ _ _ _ _ (World.drew _)
    refine wpAny_take (i := 0) (v := ?_) rfl (by kernel_rfl) (by kernel_rfl) (by kernel_rfl) (fun _ _ _ h => h) (Or.inl ⟨by rfl, fun w => ?_⟩) ?_
    rotate_left 1
    · (go_simp <;> with_reducible rfl)
    simp only [Act.put, List.getElem_toArray, List.getElem_cons_zero, List.setIfInBounds_toArray, List.set_cons_zero, List.set_cons_succ]
    refine wpAny_take (i := 1) (v := ?_) rfl (by kernel_rfl) (by kernel_rfl) (by kernel_rfl) (fun _ _ _ h => h) (Or.inl ⟨by rfl, fun w => ?_⟩) ?_
    rotate_left 1
    · (go_simp <;> with_reducible rfl)
    simp only [Act.put, List.getElem_toArray, List.getElem_cons_zero, List.getElem_cons_succ, List.setIfInBounds_toArray, List.set_cons_zero, List.set_cons_succ]
    refine wpAny_take (i := 2) (v := ?_) rfl (by kernel_rfl) (by kernel_rfl) (by kernel_rfl) (fun _ _ _ h => h) (Or.inl ⟨by rfl, fun w => ?_⟩) ?_
    rotate_left 1
    · (go_simp <;> with_reducible rfl)
    simp only [Act.put, List.getElem_toArray, List.getElem_cons_zero, List.getElem_cons_succ, List.setIfInBounds_toArray, List.set_cons_zero, List.set_cons_succ]
    refine wpAny_take (i := 3) (v := ?_) rfl (by kernel_rfl) (by kernel_rfl) (by kernel_rfl) (fun _ _ _ h => h) (Or.inl ⟨by rfl, fun w => ?_⟩) ?_
    rotate_left 1
    · (go_simp <;> with_reducible rfl)
    simp only [Act.put, List.getElem_toArray, List.getElem_cons_zero, List.getElem_cons_succ, List.setIfInBounds_toArray, List.set_cons_zero, List.set_cons_succ]
    refine wpAny_take (i := 4) (v := ?_) rfl (by kernel_rfl) (by kernel_rfl) (by kernel_rfl) (fun _ _ _ h => h) (Or.inl ⟨by rfl, fun w => ?_⟩) ?_
    rotate_left 1
    · (go_simp <;> with_reducible rfl)
    simp only [Act.put, List.getElem_toArray, List.getElem_cons_zero, List.getElem_cons_succ, List.setIfInBounds_toArray, List.set_cons_zero, List.set_cons_succ]
    refine wpAny_take (i := 5) (v := ?_) rfl (by kernel_rfl) (by kernel_rfl) (by kernel_rfl) (fun _ _ _ h => h) (Or.inl ⟨by rfl, fun w => ?_⟩) ?_
    rotate_left 1
    · (go_simp <;> with_reducible rfl)
    simp only [Act.put, List.getElem_toArray, List.getElem_cons_zero, List.getElem_cons_succ, List.setIfInBounds_toArray, List.set_cons_zero, List.set_cons_succ]
    refine wpAny_ready (rs := [6]) (by kernel_rfl) (by decide) ?_
    refine AllReady.cons rfl (fun K1 hK1 => ?_) AllReady.nil
    refine step_appV (TS := 46) (.tmp 22) (.tmp 25) _ _ _ (fun ty => MV.out ty) rfl rfl rfl rfl ?_
    rintro v9 w9 ⟨rfl, r9, g9⟩
    have R9 := hide (And.intro r9 g9)
    clear r9 g9
    refine hK1 _ _ ?_
    clear hK1 K1
    refine wpAny_ready (rs := [7]) (by kernel_rfl) (by decide) ?_
    refine AllReady.cons rfl (fun K1 hK1 => ?_) AllReady.nil
    go_simp
    refine hK1 _ _ ?_
    clear hK1 K1
    refine wpAny_done (by kernel_rfl) ?_ _
    obtain ⟨w10, hcl, r10, g10⟩ := run_clear1 R9.out.1 (show 0 < 1 by omega) 1 0
    simp only [Nat.zero_mul] at hcl
    have R10 := hide (And.intro r10 g10)
    clear r10 g10
    go_wp2_with fail
    go_ret
    exact ⟨rfl, R10.out.1, gb_trans (gb_drew R9.out.2) R10.out.2⟩
  · have h2 : (c = 1) = False := eq_false h1
    have h3 : (1 : Int) ≤ (k : Int) + 1 := by omega
    have MV := hide (fun (ty : TypeId) => run_move (w := w.drew) HO.out.1 HO.out.2 ⟨b, 3, none⟩ (.inl rfl) (c - 1) ty)
    go_enter Tryd.func100, Tryd.ntmps100
    go_wp2_with fail
    refine wp_region_any mixed ?_
    change wpAny _ _ _ _ _ _ _ (World.drew _)
    refine wpAny_take (i := 0) (v := ?_) rfl (by kernel_rfl) (by kernel_rfl) (by kernel_rfl) (fun _ _ _ h => h) (Or.inl ⟨by rfl, fun w => ?_⟩) ?_
    rotate_left 1
    · (go_simp <;> with_reducible rfl)
    simp only [Act.put, List.getElem_toArray, List.getElem_cons_zero, List.setIfInBounds_toArray, List.set_cons_zero, List.set_cons_succ]
    refine wpAny_take (i := 1) (v := ?_) rfl (by kernel_rfl) (by kernel_rfl) (by kernel_rfl) (fun _ _ _ h => h) (Or.inl ⟨by rfl, fun w => ?_⟩) ?_
    rotate_left 1
    · (go_simp <;> with_reducible rfl)
    simp only [Act.put, List.getElem_toArray, List.getElem_cons_zero, List.getElem_cons_succ, List.setIfInBounds_toArray, List.set_cons_zero, List.set_cons_succ]
    refine wpAny_take (i := 2) (v := ?_) rfl (by kernel_rfl) (by kernel_rfl) (by kernel_rfl) (fun _ _ _ h => h) (Or.inl ⟨by rfl, fun w => ?_⟩) ?_
    rotate_left 1
    · (go_simp <;> with_reducible rfl)
    simp only [Act.put, List.getElem_toArray, List.getElem_cons_zero, List.getElem_cons_succ, List.setIfInBounds_toArray, List.set_cons_zero, List.set_cons_succ]
    refine wpAny_take (i := 3) (v := ?_) rfl (by kernel_rfl) (by kernel_rfl) (by kernel_rfl) (fun _ _ _ h => h) (Or.inl ⟨by rfl, fun w => ?_⟩) ?_
    rotate_left 1
    · (go_simp <;> with_reducible rfl)
    simp only [Act.put, List.getElem_toArray, List.getElem_cons_zero, List.getElem_cons_succ, List.setIfInBounds_toArray, List.set_cons_zero, List.set_cons_succ]
    refine wpAny_take (i := 4) (v := ?_) rfl (by kernel_rfl) (by kernel_rfl) (by kernel_rfl) (fun _ _ _ h => h) (Or.inl ⟨by rfl, fun w => ?_⟩) ?_
    rotate_left 1
    · (go_simp <;> with_reducible rfl)
    simp only [Act.put, List.getElem_toArray, List.getElem_cons_zero, List.getElem_cons_succ, List.setIfInBounds_toArray, List.set_cons_zero, List.set_cons_succ]
    refine wpAny_take (i := 5) (v := ?_) rfl (by kernel_rfl) (by kernel_rfl) (by kernel_rfl) (fun _ _ _ h => h) (Or.inl ⟨by rfl, fun w => ?_⟩) ?_
    rotate_left 1
    · (go_simp <;> with_reducible rfl)
    simp only [Act.put, List.getElem_toArray, List.getElem_cons_zero, List.getElem_cons_succ, List.setIfInBounds_toArray, List.set_cons_zero, List.set_cons_succ]
    refine wpAny_ready (rs := [6]) (by kernel_rfl) (by decide) ?_
    refine AllReady.cons rfl (fun K1 hK1 => ?_) AllReady.nil
    refine step_appV (TS := 46) (.tmp 22) (.tmp 25) _ _ _ (fun ty => MV.out ty) rfl rfl rfl rfl ?_
    rintro v9 w9 ⟨rfl, r9, g9⟩
    have R9 := hide (And.intro r9 g9)
    clear r9 g9
    refine hK1 _ _ ?_
    clear hK1 K1
    refine wpAny_ready (rs := [7]) (by kernel_rfl) (by decide) ?_
    refine AllReady.cons rfl (fun K1 hK1 => ?_) AllReady.nil
    go_simp
    refine hK1 _ _ ?_
    clear hK1 K1
    refine wpAny_done (by kernel_rfl) ?_ _
    obtain ⟨w10, hcl, r10, g10⟩ := run_clear1 R9.out.1 (show k < c by omega) (c - k) 0
    have R10 := hide (And.intro r10 g10)
    clear r10 g10
    go_wp2_with fail
    go_ret
    exact ⟨rfl, R10.out.1, gb_trans (gb_drew R9.out.2) R10.out.2⟩
end Go.Proofs.YtbiilnpblnjliaaDoor.Ck

/- Package sync: take, and the calls on channels. (Written by mk_y.py.) -/
namespace Go.Proofs.YtbiilnpblnjliaaDoor.Ck
open Go.RowKit

/-- what take leaves where there is a value -/
def TakeP (w : World) (b o : Nat) (bq k cq : Nat) (v : V3) (l : List V3) (e : Ending) (w' : World) : Prop := e = .returned (.tuple #[.agg #[.int .i64 v.1, .int .i64 v.2.1, .int .u64 v.2.2], .bool true]) ∧ ∃ w2, w2.ownsRow 0 41 3 (.slice (some ⟨bq, 0, none⟩) k cq) l.length (vcs l) ∧ w.grownBy w2 (some bq) ∧ Below w.heap.size (w2.setCell ⟨b, o + 2, none⟩ (.slice (some ⟨bq, 0, none⟩) k cq)) w'
theorem Val.keep {w w' : World} {g : Nat} {t n b : Int} (h : Val w g t n b) (hb : w'.heap[g]? = w.heap[g]?) : Val w' g t n b := hb.trans h
theorem bel_gb {w w1 w2 : World} {o : Option Nat} (h : Below w.heap.size w w1) (k : w1.grownBy w2 o) : w.grownBy w2 o := ⟨k.os.trans h.os, k.tape.trans h.tape, k.output.trans h.output, Nat.le_trans h.size k.size, fun i hi hne => (k.block i (Nat.lt_of_lt_of_le hi h.size) hne).trans (h.block i hi)⟩
set_option maxRecDepth 20000 in
set_option maxHeartbeats 1000000 in
theorem take_none {w : World} (b o : Nat) (hbl : b < w.heap.size) (a : Option Addr) (c : Nat) (d2 : w.cell? ⟨b, o + 2, none⟩ = some (.slice a 0 c)) : Calls Tryd.prog 78 #[.pointer (some ⟨b, o, none⟩)] w (Vb w (.tuple #[.agg #[.int .i64 0, .int .i64 0, .int .u64 0], .bool false])) := by
  go_enter Tryd.func78, Tryd.ntmps78
  go_wp2_with fail
  refine ret_ve w.heap.size rfl rfl rfl (Val.new w 0 0 0) rfl (Vb.mk rfl (bel_new _ _))
set_option maxRecDepth 20000 in
set_option maxHeartbeats 1000000 in
theorem take_some {w : World} (b o : Nat) (cur : Array Value) (hbq : w.heap[b]? = some (.cells cur 97 (0, 0))) (bq cq k : Nat) (v : V3) (l : List V3) (hk : k = l.length) (hk8 : k ≤ 1000) (d2 : w.cell? ⟨b, o + 2, none⟩ = some (.slice (some ⟨bq, 0, none⟩) (k + 1) cq)) (oq : w.ownsRow 0 41 3 (.slice (some ⟨bq, 0, none⟩) (k + 1) cq) (k + 1) (vcs (v :: l))) : Calls Tryd.prog 78 #[.pointer (some ⟨b, o, none⟩)] w (TakeP w b o bq k cq v l) := by
  have hbl := lt_of_blk hbq
  have hql := (own_type oq (k := bq) rfl).2.1
  have hne : b ≠ bq := fun e => own_at oq hbq (by decide) (by rw [e]; rfl)
  obtain ⟨q0, q1, q2⟩ := vcs_at (v :: l) 0 v rfl
  have e0 := (own_cell oq _ _ q0).1
  have e1 := (own_cell oq _ _ q1).1
  have e2 := (own_cell oq _ _ q2).1
  simp only [Nat.mul_zero, Nat.zero_add] at e0 e1 e2
  have hbB : Below w.heap.size w ((w.alloc (.cells #[.int .i64 0, .int .i64 0, .int .u64 0] 41)).alloc (.cells #[.int .i64 v.1, .int .i64 v.2.1, .int .u64 v.2.2] 41)) := bel_al (bel_new w _) _
  have DE := hide (delete_any hk hk8 (own_keep oq (fun k hk => hbB.block k (own_type oq hk).2.1)))
  have WB := hide (And.intro hbB (And.intro ((Val.new w 0 0 0).al (bel_new (w.alloc (.cells #[.int .i64 0, .int .i64 0, .int .u64 0] 41)) (.cells #[.int .i64 v.1, .int .i64 v.2.1, .int .u64 v.2.2] 41))) (Val.new (w.alloc (.cells #[.int .i64 0, .int .i64 0, .int .u64 0] 41)) v.1 v.2.1 v.2.2)))
  have HQ := hide (And.intro hbq d2)
  have HNE := hide hne
  clear hbB oq q0 q1 q2 hk hne hbq
  go_enter Tryd.func78, Tryd.ntmps78
  go_wp2_with fail
  refine DE.out.mono ?_
  rintro e w2 ⟨rfl, o2, g2⟩
  obtain ⟨hbB, VA, VB⟩ := WB.out
  have hsz : (w.alloc (.cells #[.int .i64 0, .int .i64 0, .int .u64 0] 41)).heap.size = w.heap.size + 1 := by simp
  rw [hsz] at VB
  have VA2 := VA.keep (g2.block _ VA.lt (fun e => by have := Option.some.inj e; omega))
  have VB2 := VB.keep (g2.block _ VB.lt (fun e => by have := Option.some.inj e; omega))
  have hbq2 := (g2.block b (Nat.lt_of_lt_of_le hbl hbB.size) (fun e => HNE.out (Option.some.inj e))).trans ((hbB.block b hbl).trans HQ.out.1)
  have z1 := blk_frz hbq2 (o + 2)
  have z2 : w2.cell? ⟨b, o + 2, none⟩ = some (.slice (some ⟨bq, 0, none⟩) (k + 1) cq) := (World.cell?_of_block (w := w) (a := ⟨b, o + 2, none⟩) (hbq2.trans HQ.out.1.symm)).trans HQ.out.2
  obtain ⟨⟨fa0, fa1, fa2⟩, va0, va1, va2⟩ := VA2.all
  obtain ⟨_, vb0, vb1, vb2⟩ := VB2.all
  have VA3 := hide (VA2.keep (w' := w2.setCell ⟨b, o + 2, none⟩ (.slice (some ⟨bq, 0, none⟩) k cq)) (Below.heap_setCell _ _ _ _ (by show w.heap.size ≠ b; omega)))
  have G2 := hide (And.intro o2 (bel_gb hbB g2))
  clear VA VB VA2 VB2 hbq2 g2 o2 hbB WB DE HQ e0 e1 e2 d2
  go_wp2_with fail
  exact ret_ve w.heap.size rfl rfl rfl (VA3.out.set v.1 v.2.1 v.2.2) rfl ⟨rfl, w2, G2.out.1, G2.out.2, bel_set (Below.refl _ _) (Nat.le_refl _) _ _ _⟩
end Go.Proofs.YtbiilnpblnjliaaDoor.Ck

/- Package sync: Send. (Written by mk_y.py.) -/
namespace Go.Proofs.YtbiilnpblnjliaaDoor.Ck
open Go.RowKit

set_option maxRecDepth 20000 in
set_option maxHeartbeats 1000000 in
theorem Send_bad {w : World} {F : Nat → Prop} {g : Nat} {s : St} (h : Stt w F g s) {p : List Addr} (h17 : E2 w p) (i : Nat) (q : Qu) (hx : s.C[i]? = some q) (t m z : Int) (hB : isB t m z q.t = false) : Calls Tryd.prog 31 #[.pointer (some ⟨g, 0, none⟩), .int .i64 (i : Nat), .agg #[.int .i64 t, .int .i64 m, .int .u64 z]] w (Vb w (.tuple #[.bool false, errV p 4])) := by
  obtain ⟨vP, vM, vC, vA, vs, h⟩ := h
  have hi : i < s.C.length := (List.getElem?_eq_some_iff.1 hx).1
  obtain ⟨b, c, e, hc, hm⟩ := own_some h.ch (by omega)
  have hsm := h.small
  obtain ⟨n, hn⟩ : ∃ n, n = s.C.length := ⟨_, rfl⟩
  rw [← hn] at e hi hc
  have hn32 : n ≤ 32 := by omega
  subst e
  have HN := hide hn
  have c1 := h.cells.2.2.1
  obtain ⟨qt, qr, ql⟩ := q
  have hrm := h.rooms _ (List.mem_of_getElem? hx)
  simp only at hB hrm
  have hvi : i < vs.length := by rw [h.len]; omega
  obtain ⟨vq, hv⟩ : ∃ v, vs[i]? = some v := ⟨_, List.getElem?_eq_getElem hvi⟩
  obtain ⟨o, ho⟩ : ∃ o, o = 3 * i := ⟨_, rfl⟩
  have HO := hide ho
  have hgl := h.fb g h.fg
  have hbl := h.fb b (h.fC b rfl)
  have IS : ∀ wx, Calls Tryd.prog 76 #[.agg #[.int .i64 t, .int .i64 m, .int .u64 z], .int .i64 qt] wx (Vb wx (.bool false)) := fun wx => by
    have := isOf_any t m z qt wx
    rw [hB] at this
    exact this
  have W1 := hide (And.intro (h.bel (bel_new w (.cells #[.int .i64 t, .int .i64 m, .int .u64 z] 41))) (And.intro (bel_new w (.cells #[.int .i64 t, .int .i64 m, .int .u64 z] 41)) (And.intro (Val.new w t m z) (h17.below (Nat.le_refl _) (bel_new w (.cells #[.int .i64 t, .int .i64 m, .int .u64 z] 41))))))
  have HX := hide (And.intro hx hv)
  clear h hsm hc hm hn h17 hB ho hx hv hvi
  go_enter Tryd.func31, Tryd.ntmps31
  go_wp2_with fail
  refine (in_syncelementsyncqueue b n c i o _ hi HO).mono ?_
  rintro e w1 ⟨rfl, rfl⟩
  go_wp2_with fail
  generalize w.alloc (.cells #[.int .i64 t, .int .i64 m, .int .u64 z] 41) = w1 at *
  obtain ⟨h1, hb1, V1, x1'⟩ := W1.out
  obtain ⟨q0, q1, q2⟩ := qcs_at _ _ _ _ _ HX.out.1 HX.out.2
  rw [← HO.out] at q0 q1 q2
  have d0 := (own_cell h1.ch _ _ q0).1
  obtain ⟨_, v0, v1, v2⟩ := V1.all
  simp only at d0
  have K1 := hide (And.intro h1 (And.intro hb1 (And.intro V1 x1')))
  clear W1 h1 hb1 V1 x1' q0 q1 q2 c1
  go_region_held3 (fun w' => (w'.cell? ⟨w.heap.size, 0, none⟩ = some (.int .i64 t) ∧ w'.cell? ⟨w.heap.size, 1, none⟩ = some (.int .i64 m) ∧ w'.cell? ⟨w.heap.size, 2, none⟩ = some (.int .u64 z)) ∧ w'.cell? ⟨b, o, none⟩ = some (.int .i64 qt)) (first | (exact ⟨⟨by assumption, by assumption, by assumption⟩, by assumption⟩)) (first | (go_at_call 76; refine (IS _).mono ?_; rintro e w2 ⟨rfl, hb⟩; replace hb : Below w1.heap.size w1 w2 := ⟨hb.os, hb.tape, hb.output, hb.size, hb.block⟩; have K2 := hide (And.intro (K1.out.1.bel hb) (And.intro (bel_trans K1.out.2.1 hb) (And.intro (K1.out.2.2.1.al hb) (K1.out.2.2.2.below (Nat.le_refl _) hb)))); obtain ⟨_, v0', v1', v2'⟩ := K2.out.2.2.1.all; have d0' : w2.cell? ⟨b, o, none⟩ = some (.int .i64 qt) := (hb.cell (p := ⟨b, o, none⟩) (K1.out.1.fb b (K1.out.1.fC b rfl))).trans d0))
  have x4 : w2.cell? ⟨4, 0, none⟩ = some (errV p 4) := K2.out.2.2.2.c4
  generalize errV p 4 = ev at *
  go_wp2_with fail
  go_quiet (fail)
  go_wp2_with fail
  go_ret2
  exact Vb.mk rfl (below_drewN K2.out.2.1 _)
set_option maxRecDepth 20000 in
set_option maxHeartbeats 1000000 in
theorem Send_full {w : World} {F : Nat → Prop} {g : Nat} {s : St} (h : Stt w F g s) {p : List Addr} (h17 : E2 w p) (i : Nat) (q : Qu) (hx : s.C[i]? = some q) (t m z : Int) (hB : isB t m z q.t = true) (hr : q.room ≤ q.l.length) : Calls Tryd.prog 31 #[.pointer (some ⟨g, 0, none⟩), .int .i64 (i : Nat), .agg #[.int .i64 t, .int .i64 m, .int .u64 z]] w (Vb w (.tuple #[.bool false, .nilIface])) := by
  obtain ⟨vP, vM, vC, vA, vs, h⟩ := h
  have hi : i < s.C.length := (List.getElem?_eq_some_iff.1 hx).1
  obtain ⟨b, c, e, hc, hm⟩ := own_some h.ch (by omega)
  have hsm := h.small
  obtain ⟨n, hn⟩ : ∃ n, n = s.C.length := ⟨_, rfl⟩
  rw [← hn] at e hi hc
  have hn32 : n ≤ 32 := by omega
  subst e
  have HN := hide hn
  have c1 := h.cells.2.2.1
  obtain ⟨qt, qr, ql⟩ := q
  have hrm := h.rooms _ (List.mem_of_getElem? hx)
  simp only at hB hr hrm
  have hvi : i < vs.length := by rw [h.len]; omega
  obtain ⟨vq, hv⟩ : ∃ v, vs[i]? = some v := ⟨_, List.getElem?_eq_getElem hvi⟩
  obtain ⟨o, ho⟩ : ∃ o, o = 3 * i := ⟨_, rfl⟩
  have HO := hide ho
  have hgl := h.fb g h.fg
  have hbl := h.fb b (h.fC b rfl)
  have IS : ∀ wx, Calls Tryd.prog 76 #[.agg #[.int .i64 t, .int .i64 m, .int .u64 z], .int .i64 qt] wx (Vb wx (.bool true)) := fun wx => by
    have := isOf_any t m z qt wx
    rw [hB] at this
    exact this
  have W1 := hide (And.intro (h.bel (bel_new w (.cells #[.int .i64 t, .int .i64 m, .int .u64 z] 41))) (And.intro (bel_new w (.cells #[.int .i64 t, .int .i64 m, .int .u64 z] 41)) (And.intro (Val.new w t m z) (h17.below (Nat.le_refl _) (bel_new w (.cells #[.int .i64 t, .int .i64 m, .int .u64 z] 41))))))
  have HX := hide (And.intro hx hv)
  clear h hsm hc hm hn h17 hB ho hx hv hvi
  go_enter Tryd.func31, Tryd.ntmps31
  go_wp2_with fail
  refine (in_syncelementsyncqueue b n c i o _ hi HO).mono ?_
  rintro e w1 ⟨rfl, rfl⟩
  go_wp2_with fail
  generalize w.alloc (.cells #[.int .i64 t, .int .i64 m, .int .u64 z] 41) = w1 at *
  obtain ⟨h1, hb1, V1, x1'⟩ := W1.out
  obtain ⟨q0, q1, q2⟩ := qcs_at _ _ _ _ _ HX.out.1 HX.out.2
  rw [← HO.out] at q0 q1 q2
  have d0 := (own_cell h1.ch _ _ q0).1
  obtain ⟨_, v0, v1, v2⟩ := V1.all
  simp only at d0
  have K1 := hide (And.intro h1 (And.intro hb1 (And.intro V1 x1')))
  clear W1 h1 hb1 V1 x1' q0 q1 q2 c1
  go_region_held3 (fun w' => (w'.cell? ⟨w.heap.size, 0, none⟩ = some (.int .i64 t) ∧ w'.cell? ⟨w.heap.size, 1, none⟩ = some (.int .i64 m) ∧ w'.cell? ⟨w.heap.size, 2, none⟩ = some (.int .u64 z)) ∧ w'.cell? ⟨b, o, none⟩ = some (.int .i64 qt)) (first | (exact ⟨⟨by assumption, by assumption, by assumption⟩, by assumption⟩)) (first | (go_at_call 76; refine (IS _).mono ?_; rintro e w2 ⟨rfl, hb⟩; replace hb : Below w1.heap.size w1 w2 := ⟨hb.os, hb.tape, hb.output, hb.size, hb.block⟩; have K2 := hide (And.intro (K1.out.1.bel hb) (And.intro (bel_trans K1.out.2.1 hb) (And.intro (K1.out.2.2.1.al hb) (K1.out.2.2.2.below (Nat.le_refl _) hb)))); obtain ⟨_, v0', v1', v2'⟩ := K2.out.2.2.1.all; have d0' : w2.cell? ⟨b, o, none⟩ = some (.int .i64 qt) := (hb.cell (p := ⟨b, o, none⟩) (K1.out.1.fb b (K1.out.1.fC b rfl))).trans d0))
  obtain ⟨h2, hb2, V2, x2'⟩ := K2.out
  obtain ⟨q0, q1, q2⟩ := qcs_at _ _ _ _ _ HX.out.1 HX.out.2
  rw [← HO.out] at q0 q1 q2
  have e1 := (own_cell h2.ch _ _ q1).1
  have e2 := (own_cell h2.ch _ _ q2).1
  obtain ⟨_, _, cur, hcur⟩ := own_type h2.ch (k := b) rfl
  have oq := (h2.q i _ vq HX.out.1 HX.out.2).1
  have PF := hide (put_full b o cur hcur qr vq ql e1 e2 oq hr t m z)
  clear h2 hb2 V2 x2' q0 q1 q2 e1 e2 hcur oq hr hrm
  go_wp2_with fail
  refine PF.out.mono ?_
  rintro e w3 ⟨rfl, hb3⟩
  go_wp2_with fail
  go_ret2
  exact Vb.mk rfl (bel_trans K2.out.2.1 hb3)
set_option maxRecDepth 20000 in
set_option maxHeartbeats 1000000 in
theorem Send_room {w : World} {F : Nat → Prop} {g : Nat} {s : St} (h : Stt w F g s) {p : List Addr} (h17 : E2 w p) (i : Nat) (q : Qu) (hx : s.C[i]? = some q) (t m z : Int) (hB : isB t m z q.t = true) (hr : (q.l.length : Int) < q.room) : Calls Tryd.prog 31 #[.pointer (some ⟨g, 0, none⟩), .int .i64 (i : Nat), .agg #[.int .i64 t, .int .i64 m, .int .u64 z]] w (Sp w F g { s with C := s.C.set i { q with l := q.l ++ [(t, m, z)] } } (.tuple #[.bool true, .nilIface])) := by
  obtain ⟨vP, vM, vC, vA, vs, h⟩ := h
  have hi : i < s.C.length := (List.getElem?_eq_some_iff.1 hx).1
  obtain ⟨b, c, e, hc, hm⟩ := own_some h.ch (by omega)
  have hsm := h.small
  obtain ⟨n, hn⟩ : ∃ n, n = s.C.length := ⟨_, rfl⟩
  rw [← hn] at e hi hc
  have hn32 : n ≤ 32 := by omega
  subst e
  have HN := hide hn
  have c1 := h.cells.2.2.1
  obtain ⟨qt, qr, ql⟩ := q
  have hrm := h.rooms _ (List.mem_of_getElem? hx)
  simp only at hB hr hrm
  have hvi : i < vs.length := by rw [h.len]; omega
  obtain ⟨vq, hv⟩ : ∃ v, vs[i]? = some v := ⟨_, List.getElem?_eq_getElem hvi⟩
  obtain ⟨o, ho⟩ : ∃ o, o = 3 * i := ⟨_, rfl⟩
  have HO := hide ho
  have hgl := h.fb g h.fg
  have hbl := h.fb b (h.fC b rfl)
  have IS : ∀ wx, Calls Tryd.prog 76 #[.agg #[.int .i64 t, .int .i64 m, .int .u64 z], .int .i64 qt] wx (Vb wx (.bool true)) := fun wx => by
    have := isOf_any t m z qt wx
    rw [hB] at this
    exact this
  have W1 := hide (And.intro (h.bel (bel_new w (.cells #[.int .i64 t, .int .i64 m, .int .u64 z] 41))) (And.intro (bel_new w (.cells #[.int .i64 t, .int .i64 m, .int .u64 z] 41)) (And.intro (Val.new w t m z) (h17.below (Nat.le_refl _) (bel_new w (.cells #[.int .i64 t, .int .i64 m, .int .u64 z] 41))))))
  have HX := hide (And.intro hx hv)
  clear h hsm hc hm hn h17 hB ho hx hv hvi
  go_enter Tryd.func31, Tryd.ntmps31
  go_wp2_with fail
  refine (in_syncelementsyncqueue b n c i o _ hi HO).mono ?_
  rintro e w1 ⟨rfl, rfl⟩
  go_wp2_with fail
  generalize w.alloc (.cells #[.int .i64 t, .int .i64 m, .int .u64 z] 41) = w1 at *
  obtain ⟨h1, hb1, V1, x1'⟩ := W1.out
  obtain ⟨q0, q1, q2⟩ := qcs_at _ _ _ _ _ HX.out.1 HX.out.2
  rw [← HO.out] at q0 q1 q2
  have d0 := (own_cell h1.ch _ _ q0).1
  obtain ⟨_, v0, v1, v2⟩ := V1.all
  simp only at d0
  have K1 := hide (And.intro h1 (And.intro hb1 (And.intro V1 x1')))
  clear W1 h1 hb1 V1 x1' q0 q1 q2 c1
  go_region_held3 (fun w' => (w'.cell? ⟨w.heap.size, 0, none⟩ = some (.int .i64 t) ∧ w'.cell? ⟨w.heap.size, 1, none⟩ = some (.int .i64 m) ∧ w'.cell? ⟨w.heap.size, 2, none⟩ = some (.int .u64 z)) ∧ w'.cell? ⟨b, o, none⟩ = some (.int .i64 qt)) (first | (exact ⟨⟨by assumption, by assumption, by assumption⟩, by assumption⟩)) (first | (go_at_call 76; refine (IS _).mono ?_; rintro e w2 ⟨rfl, hb⟩; replace hb : Below w1.heap.size w1 w2 := ⟨hb.os, hb.tape, hb.output, hb.size, hb.block⟩; have K2 := hide (And.intro (K1.out.1.bel hb) (And.intro (bel_trans K1.out.2.1 hb) (And.intro (K1.out.2.2.1.al hb) (K1.out.2.2.2.below (Nat.le_refl _) hb)))); obtain ⟨_, v0', v1', v2'⟩ := K2.out.2.2.1.all; have d0' : w2.cell? ⟨b, o, none⟩ = some (.int .i64 qt) := (hb.cell (p := ⟨b, o, none⟩) (K1.out.1.fb b (K1.out.1.fC b rfl))).trans d0))
  obtain ⟨h2, hb2, V2, x2'⟩ := K2.out
  obtain ⟨q0, q1, q2⟩ := qcs_at _ _ _ _ _ HX.out.1 HX.out.2
  rw [← HO.out] at q0 q1 q2
  have e1 := (own_cell h2.ch _ _ q1).1
  have e2 := (own_cell h2.ch _ _ q2).1
  obtain ⟨_, _, cur, hcur⟩ := own_type h2.ch (k := b) rfl
  have oq := (h2.q i _ vq HX.out.1 HX.out.2).1
  have PF := hide (put_room b o cur hcur qr vq ql e1 e2 oq hr (by omega) t m z)
  have HR := hide hr
  clear h2 hb2 V2 x2' q0 q1 q2 e1 e2 hcur oq hr hrm
  go_wp2_with fail
  refine PF.out.mono ?_
  rintro e w3 ⟨rfl, v', w4, rfl, o4, g4, f4⟩
  obtain ⟨S4, C4⟩ := K2.out.1.chan HN.out i HX.out.1 HX.out.2 g4 o4 f4 (by have := HR.out; simp; omega)
  rw [← HO.out] at S4 C4
  have R4 := hide (And.intro S4 C4)
  clear S4 C4 o4 g4 f4
  generalize w4.setCell ⟨b, o + 2, none⟩ v' = w5 at *
  go_wp2_with fail
  go_ret2
  exact Sp.mk rfl ⟨_, _, _, _, _, R4.out.1⟩ ((Ch.of_bel K2.out.2.1).trans R4.out.2)
set_option maxRecDepth 20000 in
set_option maxHeartbeats 1000000 in
theorem Send_out {w : World} {F : Nat → Prop} {g : Nat} {s : St} (h : Stt w F g s) {p : List Addr} (h17 : E2 w p) (i : Int) (t m z : Int) (hi : i < 0 ∨ (s.C.length : Int) ≤ i) : Calls Tryd.prog 31 #[.pointer (some ⟨g, 0, none⟩), .int .i64 i, .agg #[.int .i64 t, .int .i64 m, .int .u64 z]] w (Vb w (.tuple #[.bool false, errV p 0])) := by
  obtain ⟨vP, vM, vC, vA, vs, h⟩ := h
  obtain ⟨a, c, e, hc, hm⟩ := own_slice h.ch
  subst e
  obtain ⟨n, hn⟩ : ∃ n, n = s.C.length := ⟨_, rfl⟩
  rw [← hn] at hi
  have c1 := h.cells.2.2.1
  rw [← hn] at c1
  have EO := hide (fun w' (h17 : E2 w' p) => out_syncelementsyncqueue a n c i w' h17 hi)
  have H7 := hide h17
  unfold errV at *
  generalize adr p 0 = ad at *
  have HGL := hide (h.fb g h.fg)
  clear h hc hm hi hn h17
  have H7a := hide (H7.out.below (Nat.le_refl _) (bel_new w (.cells #[.int .i64 t, .int .i64 m, .int .u64 z] 41)))
  have hgl := HGL.out
  go_enter Tryd.func31, Tryd.ntmps31
  go_wp2_with fail
  refine (EO.out _ H7a.out).mono ?_
  rintro e w1 ⟨rfl, hb⟩
  go_wp2_with fail
  go_ret2
  exact Vb.mk rfl (bel_trans (bel_new _ _) hb)
end Go.Proofs.YtbiilnpblnjliaaDoor.Ck
