/- Package sync: a value into a queue. (Written by mk_y.py.) -/
import Derived.Test.YtghfjnnmpmfboaaDoorYh
namespace Go.Proofs.YtghfjnnmpmfboaaDoor.Ck
open Go.RowKit

theorem step_appV {TS : TypeId} {w : World} {ops : Array Oper} {o : Oper} {a : Act} {K : Act → World → Prop} {Q : Exit → Act → World → Prop} {E : Prop} (s x : Operand) (v vx : Value) (R : Value → World → Prop)
    (hrun : ∀ ty, ∃ v' w', (Builtin.append_ #[TS, TS] ty #[v, vx]).run Tryd.prog w = .ok v' w' ∧ R v' w') (hw : Region.wanted o (yielded ops a.tmps) = true)
    (ho : o.op = .call { callee := .builtin .append, args := #[s, x], argTypes := #[TS, TS] }) (hs : a.eval s = v) (hx : a.eval x = vx)
    (h : ∀ v' w', R v' w' → K (a.put o.dst v') w') : if Region.wanted o (yielded ops a.tmps) = true then Oper.wp Tryd.prog o a w K Q else E := by
  rw [if_pos hw]
  obtain ⟨v', w', hr, hR⟩ := hrun o.type
  unfold Oper.wp execOp
  simp only [ho, resolve, invoke, builtin, Sem.run_bind, Sem.run_pure, Result.andThen_ok, List.map_toArray, List.map_cons, List.map_nil, hs, hx, hr]
  exact h v' w' hR

theorem info_val : (Tryd.prog.info? 41).map (fun i => (i.zero, i.size, i.bytes)) = some (some (.agg #[.int .i64 0, .int .i64 0, .int .u64 0]), 3, 24) := by kernel_rfl
/-- a value more -/
theorem push_v {w : World} {vq : Value} {l : List V3} {n : Nat} (hn : n = l.length) (oq : w.ownsRow 0 41 3 vq n (vcs l)) (hl : l.length ≤ 1000) (t m z : Int) (ty : TypeId) :
    ∃ v' w', (Builtin.append_ #[46, 46] ty #[vq, .slice (some ⟨w.heap.size, 0, none⟩) 1 1]).run Tryd.prog (w.alloc (.cells #[.int .i64 t, .int .i64 m, .int .u64 z] 41)) = .ok v' w' ∧
      (w'.ownsRow 0 41 3 v' (n + 1) (vcs (l ++ [(t, m, z)])) ∧ w.grownBy w' vq.ownBlock ∧ (∀ k, v'.ownBlock = some k → vq.ownBlock = some k ∨ w.heap.size ≤ k)) := by
  obtain ⟨ie, hi, hz0, hz1, hz2⟩ := info_parts info_val
  have hb := bel_new w (.cells #[.int .i64 t, .int .i64 m, .int .u64 z] 41)
  have o1 := own_keep oq (fun k hk => hb.block k (own_type oq hk).2.1)
  have hc : ∀ (j : Nat) (u : Value), (vcs [(t, m, z)])[j]? = some u → (w.alloc (.cells #[.int .i64 t, .int .i64 m, .int .u64 z] 41)).cell? ((⟨w.heap.size, 0, none⟩ : Addr).add j) = some u := fun j u hu => by
    rw [show (⟨w.heap.size, 0, none⟩ : Addr).add j = ⟨w.heap.size, j, none⟩ by unfold Addr.add; by_cases h : j = 0 <;> simp [h]]
    exact blk_cell (Go.Deep.blk_alloc_new w _) j u (by simpa [vcs] using hu)
  obtain ⟨v', w', hr, ho, hg, _, hat⟩ := run_append_own_at (P := Tryd.prog) (w.alloc (.cells #[.int .i64 t, .int .i64 m, .int .u64 z] 41)) 0 46 ty 41 ie _ 3 24 Tryd.underlying46 hi hz0 hz1 hz2 rfl (by decide) vq n (vcs l) o1 ⟨w.heap.size, 0, none⟩ 1 1 (vcs [(t, m, z)]) rfl hc (vcs_one _) (by unfold maxLen; omega) (by omega) (Nat.zero_le _)
  refine ⟨v', w', hr, by rw [vcs_app]; exact ho, ⟨hg.os, hg.tape, hg.output, Nat.le_trans hb.size hg.size, fun k hk hne => (hg.block k (Nat.lt_of_lt_of_le hk hb.size) hne).trans (hb.block k hk)⟩, fun k hk => ?_⟩
  rcases hat with e | e
  · exact .inl (e.symm.trans hk)
  · rw [e] at hk
    right
    have := Option.some.inj hk
    simp at this
    omega
theorem push_q {w W : World} (hW : Below w.heap.size w W) {b o : Nat} {cur : Array Value} (hbq : w.heap[b]? = some (.cells cur 98 (0, 0))) {vq : Value} {l : List V3} {n : Nat} (hn : n = l.length) (d2 : w.cell? ⟨b, o + 2, none⟩ = some vq) (oq : w.ownsRow 0 41 3 vq n (vcs l)) (hl : l.length ≤ 1000) (t m z : Int) (ty : TypeId) :
    ∃ v' w', (Builtin.append_ #[46, 46] ty #[vq, .slice (some ⟨W.heap.size, 0, none⟩) 1 1]).run Tryd.prog (W.alloc (.cells #[.int .i64 t, .int .i64 m, .int .u64 z] 41)) = .ok v' w' ∧
      ((∃ a l c, v' = .slice a l c) ∧ w'.frozen? ⟨b, o + 2, none⟩ = false ∧ w'.cell? ⟨b, o + 2, none⟩ = some vq ∧ w'.ownsRow 0 41 3 v' (l ++ [(t, m, z)]).length (vcs (l ++ [(t, m, z)])) ∧ w.grownBy w' vq.ownBlock ∧ (∀ k, v'.ownBlock = some k → vq.ownBlock = some k ∨ w.heap.size ≤ k)) := by
  obtain ⟨v', w', hr, ho, hg, hf⟩ := push_v hn (own_keep oq (fun k hk => hW.block k (own_type oq hk).2.1)) hl t m z ty
  have hgb : w'.heap[b]? = w.heap[b]? := (hg.block b (Nat.lt_of_lt_of_le (lt_of_blk hbq) hW.size) (fun e => own_at oq hbq (by decide) e.symm)).trans (hW.block b (lt_of_blk hbq))
  obtain ⟨a, c, e, _⟩ := own_slice ho
  refine ⟨v', w', hr, ⟨_, _, _, e⟩, blk_frz (hgb.trans hbq) _, (World.cell?_of_block (w := w) (a := ⟨b, o + 2, none⟩) hgb).trans d2, ?_, ⟨hg.os.trans hW.os, hg.tape.trans hW.tape, hg.output.trans hW.output, Nat.le_trans hW.size hg.size, fun k hk hne => (hg.block k (Nat.lt_of_lt_of_le hk hW.size) hne).trans (hW.block k hk)⟩, fun k hk => ?_⟩
  · rw [List.length_append, ← hn]
    exact ho
  · rcases hf k hk with h | h
    · exact .inl h
    · exact .inr (Nat.le_trans hW.size h)
/-- what put leaves where there is room -/
def PutP (w : World) (b o : Nat) (vq : Value) (l : List V3) (e : Ending) (w' : World) : Prop := e = .returned (.bool true) ∧ ∃ v' w2, w' = w2.setCell ⟨b, o + 2, none⟩ v' ∧ w2.ownsRow 0 41 3 v' l.length (vcs l) ∧ w.grownBy w2 vq.ownBlock ∧ (∀ k, v'.ownBlock = some k → vq.ownBlock = some k ∨ w.heap.size ≤ k)
set_option maxRecDepth 20000 in
set_option maxHeartbeats 1000000 in
theorem put_full {w : World} (b o : Nat) (cur : Array Value) (hbq : w.heap[b]? = some (.cells cur 98 (0, 0))) (room : Int) (vq : Value) (l : List V3) (d1 : w.cell? ⟨b, o + 1, none⟩ = some (.int .i64 room)) (d2 : w.cell? ⟨b, o + 2, none⟩ = some vq) (oq : w.ownsRow 0 41 3 vq l.length (vcs l)) (hr : room ≤ l.length) (t m z : Int) : Calls Tryd.prog 78 #[.pointer (some ⟨b, o, none⟩), .agg #[.int .i64 t, .int .i64 m, .int .u64 z]] w (Vb w (.bool false)) := by
  obtain ⟨aq, cq, rfl, hcq, hmq⟩ := own_slice oq
  obtain ⟨n, hn⟩ : ∃ n, n = l.length := ⟨_, rfl⟩
  have hbl := lt_of_blk hbq
  rw [← hn] at d2 hr oq hcq
  have HN := hide hn
  have W1 := hide (And.intro (bel_new w (.cells #[.int .i64 t, .int .i64 m, .int .u64 z] 41)) (Val.new w t m z))
  clear hn oq
  go_enter Tryd.func78, Tryd.ntmps78
  go_wp2_with fail
  go_quiet (fail)
  go_wp2_with fail
  go_ret
  exact Vb.mk rfl (below_drewN (bel_new _ _) _)
set_option maxRecDepth 20000 in
set_option maxHeartbeats 1000000 in
theorem put_room {w : World} (b o : Nat) (cur : Array Value) (hbq : w.heap[b]? = some (.cells cur 98 (0, 0))) (room : Int) (vq : Value) (l : List V3) (d1 : w.cell? ⟨b, o + 1, none⟩ = some (.int .i64 room)) (d2 : w.cell? ⟨b, o + 2, none⟩ = some vq) (oq : w.ownsRow 0 41 3 vq l.length (vcs l)) (hr : (l.length : Int) < room) (hr8 : room ≤ 8) (t m z : Int) : Calls Tryd.prog 78 #[.pointer (some ⟨b, o, none⟩), .agg #[.int .i64 t, .int .i64 m, .int .u64 z]] w (PutP w b o vq (l ++ [(t, m, z)])) := by
  obtain ⟨aq, cq, rfl, hcq, hmq⟩ := own_slice oq
  obtain ⟨n, hn⟩ : ∃ n, n = l.length := ⟨_, rfl⟩
  have hbl := lt_of_blk hbq
  rw [← hn] at d2 hr oq hcq
  have HN := hide hn
  have W1 := hide (And.intro (bel_new w (.cells #[.int .i64 t, .int .i64 m, .int .u64 z] 41)) (Val.new w t m z))
  rw [← hn]
  have hl8 : l.length ≤ 1000 := by omega
  clear hn
  go_enter Tryd.func78, Tryd.ntmps78
  go_wp2_with fail
  go_quiet (fail)
  go_wp2_with fail
  have hbW : Below w.heap.size w ((w.alloc (.cells #[.int .i64 t, .int .i64 m, .int .u64 z] 41)).drewN nq).drew := bel_drawn (below_drewN (bel_new _ _) _)
  have G0 := hide (And.intro ((hbW.block b hbl).trans hbq) ((hbW.cell (p := ⟨b, o + 2, none⟩) hbl).trans d2))
  have N0 := hide (show Val ((w.alloc (.cells #[.int .i64 t, .int .i64 m, .int .u64 z] 41)).drewN nq).drew w.heap.size t m z from W1.out.2)
  have PU := hide (fun ty => push_q hbW hbq HN.out d2 oq hl8 t m z ty)
  clear hbW W1 oq hbq d2 d1 hl8
  refine wp_region_any mixed ?_
  change wpAny _ _ _ _ _ _ _ (World.drew _)
  generalize World.drew _ = W0 at *
  refine wpAny_take (i := 0) (v := ?_) rfl (by kernel_rfl) (by kernel_rfl) (by kernel_rfl) (fun _ _ _ h => h) (Or.inl ⟨by rfl, fun w => ?_⟩) ?_
  rotate_left 1
  · (go_simp <;> with_reducible rfl)
  simp only [Act.put, List.getElem_toArray, List.getElem_cons_zero, List.setIfInBounds_toArray, List.set_cons_zero, List.set_cons_succ]
  refine wpAny_take (i := 1) (v := ?_) rfl (by kernel_rfl) (by kernel_rfl) (by kernel_rfl) (fun _ _ _ h => h) (Or.inl ⟨by rfl, fun w => ?_⟩) ?_
  rotate_left 1
  · (go_simp <;> with_reducible rfl)
  simp only [Act.put, List.getElem_toArray, List.getElem_cons_zero, List.getElem_cons_succ, List.setIfInBounds_toArray, List.set_cons_zero, List.set_cons_succ]
  refine wpAny_take (i := 2) (v := ?_) rfl (by kernel_rfl) (by kernel_rfl) (by kernel_rfl) (fun _ _ _ h => h) (Or.inl ⟨by rfl, fun w => ?_⟩) ?_
  rotate_left 1
  · (go_simp <;> with_reducible rfl)
  simp only [Act.put, List.getElem_toArray, List.getElem_cons_zero, List.getElem_cons_succ, List.setIfInBounds_toArray, List.set_cons_zero, List.set_cons_succ]
  refine wpAny_take (i := 3) (v := ?_) rfl (by kernel_rfl) (by kernel_rfl) (by kernel_rfl) (fun _ _ _ h => h) (Or.inl ⟨by rfl, fun w => ?_⟩) ?_
  rotate_left 1
  · (go_simp <;> with_reducible rfl)
  simp only [Act.put, List.getElem_toArray, List.getElem_cons_zero, List.getElem_cons_succ, List.setIfInBounds_toArray, List.set_cons_zero, List.set_cons_succ]
  refine wpAny_ready (rs := [4, 5]) (by kernel_rfl) (by decide) ?_
  refine AllReady.cons rfl (fun K1 hK1 => ?_) (AllReady.cons rfl (fun K1 hK1 => ?_) AllReady.nil)
  · have q := (show W0.cell? ⟨b, o + 2, none⟩ = some (.slice aq n cq) from G0.out.2)
    go_simp
    refine hK1 _ _ ?_
    clear hK1 K1 q
    refine wpAny_ready (rs := [5]) (by kernel_rfl) (by decide) ?_
    refine AllReady.cons rfl (fun K1 hK1 => ?_) AllReady.nil
    obtain ⟨_, q0, q1, q2⟩ := N0.out.all
    go_simp
    refine hK1 _ _ ?_
    clear hK1 K1 q0 q1 q2
    refine wpAny_ready (rs := [6]) (by kernel_rfl) (by decide) ?_
    refine AllReady.cons rfl (fun K1 hK1 => ?_) AllReady.nil
    go_simp
    refine hK1 _ _ ?_
    clear hK1 K1
    refine wpAny_ready (rs := [7]) (by kernel_rfl) (by decide) ?_
    refine AllReady.cons rfl (fun K1 hK1 => ?_) AllReady.nil
    refine step_appV (TS := 46) (.tmp 20) (.tmp 22) _ _ _ (fun ty => PU.out ty) rfl rfl rfl rfl ?_
    rintro v9 w9 ⟨⟨a9, l9, c9, rfl⟩, z1, z2, r9⟩
    have R9 := hide r9
    clear r9
    refine hK1 _ _ ?_
    clear hK1 K1
    refine wpAny_take (i := 8) (v := ?_) rfl (by kernel_rfl) (by kernel_rfl) (by kernel_rfl) (fun _ _ _ h => h) (Or.inl ⟨by rfl, fun w => ?_⟩) ?_
    rotate_left 1
    · (go_simp <;> with_reducible rfl)
    simp only [Act.put, List.getElem_toArray, List.getElem_cons_zero, List.getElem_cons_succ, List.setIfInBounds_toArray, List.set_cons_zero, List.set_cons_succ]
    refine wpAny_take (i := 9) (v := ?_) rfl (by kernel_rfl) (by kernel_rfl) (by kernel_rfl) (fun _ _ _ h => h) (Or.inl ⟨by rfl, fun w => ?_⟩) ?_
    rotate_left 1
    · (go_simp <;> with_reducible rfl)
    simp only [Act.put, List.getElem_toArray, List.getElem_cons_zero, List.getElem_cons_succ, List.setIfInBounds_toArray, List.set_cons_zero, List.set_cons_succ]
    refine wpAny_ready (rs := [10]) (by kernel_rfl) (by decide) ?_
    refine AllReady.cons rfl (fun K1 hK1 => ?_) AllReady.nil
    go_simp
    refine hK1 _ _ ?_
    clear hK1 K1 z1 z2
    refine wpAny_done (by kernel_rfl) ?_ _
    go_wp2_with fail
    go_ret
    exact ⟨rfl, _, _, rfl, R9.out⟩
  · obtain ⟨_, q0, q1, q2⟩ := N0.out.all
    go_simp
    refine hK1 _ _ ?_
    clear hK1 K1 q0 q1 q2
    refine wpAny_ready (rs := [4, 6]) (by kernel_rfl) (by decide) ?_
    refine AllReady.cons rfl (fun K1 hK1 => ?_) (AllReady.cons rfl (fun K1 hK1 => ?_) AllReady.nil)
    · have q := (show W0.cell? ⟨b, o + 2, none⟩ = some (.slice aq n cq) from G0.out.2)
      go_simp
      refine hK1 _ _ ?_
      clear hK1 K1 q
      refine wpAny_ready (rs := [6]) (by kernel_rfl) (by decide) ?_
      refine AllReady.cons rfl (fun K1 hK1 => ?_) AllReady.nil
      go_simp
      refine hK1 _ _ ?_
      clear hK1 K1
      refine wpAny_ready (rs := [7]) (by kernel_rfl) (by decide) ?_
      refine AllReady.cons rfl (fun K1 hK1 => ?_) AllReady.nil
      refine step_appV (TS := 46) (.tmp 20) (.tmp 22) _ _ _ (fun ty => PU.out ty) rfl rfl rfl rfl ?_
      rintro v9 w9 ⟨⟨a9, l9, c9, rfl⟩, z1, z2, r9⟩
      have R9 := hide r9
      clear r9
      refine hK1 _ _ ?_
      clear hK1 K1
      refine wpAny_take (i := 8) (v := ?_) rfl (by kernel_rfl) (by kernel_rfl) (by kernel_rfl) (fun _ _ _ h => h) (Or.inl ⟨by rfl, fun w => ?_⟩) ?_
      rotate_left 1
      · (go_simp <;> with_reducible rfl)
      simp only [Act.put, List.getElem_toArray, List.getElem_cons_zero, List.getElem_cons_succ, List.setIfInBounds_toArray, List.set_cons_zero, List.set_cons_succ]
      refine wpAny_take (i := 9) (v := ?_) rfl (by kernel_rfl) (by kernel_rfl) (by kernel_rfl) (fun _ _ _ h => h) (Or.inl ⟨by rfl, fun w => ?_⟩) ?_
      rotate_left 1
      · (go_simp <;> with_reducible rfl)
      simp only [Act.put, List.getElem_toArray, List.getElem_cons_zero, List.getElem_cons_succ, List.setIfInBounds_toArray, List.set_cons_zero, List.set_cons_succ]
      refine wpAny_ready (rs := [10]) (by kernel_rfl) (by decide) ?_
      refine AllReady.cons rfl (fun K1 hK1 => ?_) AllReady.nil
      go_simp
      refine hK1 _ _ ?_
      clear hK1 K1 z1 z2
      refine wpAny_done (by kernel_rfl) ?_ _
      go_wp2_with fail
      go_ret
      exact ⟨rfl, _, _, rfl, R9.out⟩
    · go_simp
      refine hK1 _ _ ?_
      clear hK1 K1
      refine wpAny_ready (rs := [4]) (by kernel_rfl) (by decide) ?_
      refine AllReady.cons rfl (fun K1 hK1 => ?_) AllReady.nil
      have q := (show (W0.alloc (.cells #[.int .i64 t, .int .i64 m, .int .u64 z] 41)).cell? ⟨b, o + 2, none⟩ = some (.slice aq n cq) from ((bel_new W0 _).cell (p := ⟨b, o + 2, none⟩) (lt_of_blk G0.out.1)).trans G0.out.2)
      go_simp
      refine hK1 _ _ ?_
      clear hK1 K1 q
      refine wpAny_ready (rs := [7]) (by kernel_rfl) (by decide) ?_
      refine AllReady.cons rfl (fun K1 hK1 => ?_) AllReady.nil
      refine step_appV (TS := 46) (.tmp 20) (.tmp 22) _ _ _ (fun ty => PU.out ty) rfl rfl rfl rfl ?_
      rintro v9 w9 ⟨⟨a9, l9, c9, rfl⟩, z1, z2, r9⟩
      have R9 := hide r9
      clear r9
      refine hK1 _ _ ?_
      clear hK1 K1
      refine wpAny_take (i := 8) (v := ?_) rfl (by kernel_rfl) (by kernel_rfl) (by kernel_rfl) (fun _ _ _ h => h) (Or.inl ⟨by rfl, fun w => ?_⟩) ?_
      rotate_left 1
      · (go_simp <;> with_reducible rfl)
      simp only [Act.put, List.getElem_toArray, List.getElem_cons_zero, List.getElem_cons_succ, List.setIfInBounds_toArray, List.set_cons_zero, List.set_cons_succ]
      refine wpAny_take (i := 9) (v := ?_) rfl (by kernel_rfl) (by kernel_rfl) (by kernel_rfl) (fun _ _ _ h => h) (Or.inl ⟨by rfl, fun w => ?_⟩) ?_
      rotate_left 1
      · (go_simp <;> with_reducible rfl)
      simp only [Act.put, List.getElem_toArray, List.getElem_cons_zero, List.getElem_cons_succ, List.setIfInBounds_toArray, List.set_cons_zero, List.set_cons_succ]
      refine wpAny_ready (rs := [10]) (by kernel_rfl) (by decide) ?_
      refine AllReady.cons rfl (fun K1 hK1 => ?_) AllReady.nil
      go_simp
      refine hK1 _ _ ?_
      clear hK1 K1 z1 z2
      refine wpAny_done (by kernel_rfl) ?_ _
      go_wp2_with fail
      go_ret
      exact ⟨rfl, _, _, rfl, R9.out⟩
end Go.Proofs.YtghfjnnmpmfboaaDoor.Ck
