/- Texts of this proof, packed: contracts of the program's functions, and the plain model that they are held against. -/
import Derived.Test.YtfojninaginnoaaGreatDoorVaa
import Derived.Lib.SmallJoins
set_option maxRecDepth 20000
set_option maxHeartbeats 4000000
namespace Go.Proofs.YtfojninaginnoaaGreatDoor.Ck
open Go.RowKit
theorem Zr {TS : TypeId} {w : World} {ops : Array Oper} {o : Oper} {a : Act} {K : Act -> World -> Prop} {Q : Exit -> Act -> World -> Prop} {E : Prop} (s x : Operand) (v vx : Value) (R : Value -> World -> Prop)
 (hrun : ∀ ty, ∃ v' w', (Builtin.append_ #[TS, TS] ty #[v, vx]).run Tryz.prog w = .ok v' w' /\ R v' w') (hw : Region.wanted o (yielded ops a.tmps) = true)
 (ho : o.op = .call { callee := .builtin .append, args := #[s, x], argTypes := #[TS, TS] }) (hs : a.eval s = v) (hx : a.eval x = vx)
 (h : ∀ v' w', R v' w' -> K (a.put o.dst v') w') : if Region.wanted o (yielded ops a.tmps) = true then Oper.wp Tryz.prog o a w K Q else E := by
 rw [if_pos hw]
 obtain ⟨v', w', hr, hR⟩ := hrun o.type
 unfold Oper.wp execOp
 simp only [ho, resolve, invoke, builtin, Sem.run_bind, Sem.run_pure, Result.andThen_ok, List.map_toArray, List.map_cons, List.map_nil, hs, hx, hr]
 exact h v' w' hR
theorem Yj : (Tryz.prog.info? 64).map (fun i => (i.zero, i.size, i.bytes)) = some (some (.agg #[I_ 0, I_ 0, .int .u64 0]), 3, 24) := by kernel_rfl
theorem push_v {w : World} {vq : Value} {l : List V3} {n : Nat} (hn : n = l.length) (oq : w.ownsRow 0 64 3 vq n (vcs l)) (hl : l.length <= 1000) (t m z : Int) (ty : TypeId) :
 ∃ v' w', (Builtin.append_ #[65, 65] ty #[vq, .slice (some ⟨w.heap.size, 0, none⟩) 1 1]).run Tryz.prog (w.alloc (.cells #[I_ t, I_ m, .int .u64 z] 64)) = .ok v' w' ∧
  (w'.ownsRow 0 64 3 v' (n + 1) (vcs (l ++ [(t, m, z)])) /\ w.grownBy w' vq.ownBlock /\ (∀ k, v'.ownBlock = some k -> vq.ownBlock = some k ∨ w.heap.size <= k)) := by
 obtain ⟨ie, hi, hz0, hz1, hz2⟩ := info_parts Yj
 have hb := Zd w (.cells #[I_ t, I_ m, .int .u64 z] 64)
 have o1 := Zj oq (fun k hk => hb.block k (Zf oq hk).2.1)
 have hc : ∀ (j : Nat) (u : Value), (vcs [(t, m, z)])[j]? = some u -> (w.alloc (.cells #[I_ t, I_ m, .int .u64 z] 64)).cell? ((⟨w.heap.size, 0, none⟩ : Addr).add j) = some u := fun j u hu => by
  rw [show (⟨w.heap.size, 0, none⟩ : Addr).add j = ⟨w.heap.size, j, none⟩ by unfold Addr.add; by_cases h : j = 0 <;> simp [h]]
  exact Zb (B_ w _) j u (by simpa [vcs] using hu)
 obtain ⟨v', w', hr, ho, hg, _, hat⟩ := run_append_own_at (P := Tryz.prog) (w.alloc (.cells #[I_ t, I_ m, .int .u64 z] 64)) 0 65 ty 64 ie _ 3 24 Tryz.underlying65 hi hz0 hz1 hz2 rfl (by decide) vq n (vcs l) o1 ⟨w.heap.size, 0, none⟩ 1 1 (vcs [(t, m, z)]) rfl hc (Yq _) (by unfold maxLen; omega) (by omega) (Nat.zero_le _)
 refine ⟨v', w', hr, by rw [vcs_app]; exact ho, ⟨hg.os, hg.tape, hg.output, Nat.le_trans hb.size hg.size, fun k hk hne => (hg.block k (Nat.lt_of_lt_of_le hk hb.size) hne).trans (hb.block k hk)⟩, fun k hk => ?_⟩
 rcases hat with e | e
 · exact .inl (e.symm.trans hk)
 · rw [e] at hk
   right
   have := Option.some.inj hk
   simp at this
   omega
theorem push_q {w W : World} (hW : Below w.heap.size w W) {b o : Nat} {cur : Array Value} (hbq : w.heap[b]? = some (.cells cur 113 (0, 0))) {vq : Value} {l : List V3} {n : Nat} (hn : n = l.length) (d2 : w.cell? ⟨b, o + 2, none⟩ = some vq) (oq : w.ownsRow 0 64 3 vq n (vcs l)) (hl : l.length <= 1000) (t m z : Int) (ty : TypeId) :
 ∃ v' w', (Builtin.append_ #[65, 65] ty #[vq, .slice (some ⟨W.heap.size, 0, none⟩) 1 1]).run Tryz.prog (W.alloc (.cells #[I_ t, I_ m, .int .u64 z] 64)) = .ok v' w' ∧
  ((∃ a l c, v' = .slice a l c) /\ w'.frozen? ⟨b, o + 2, none⟩ = false /\ w'.cell? ⟨b, o + 2, none⟩ = some vq /\ w'.ownsRow 0 64 3 v' (l ++ [(t, m, z)]).length (vcs (l ++ [(t, m, z)])) /\ w.grownBy w' vq.ownBlock /\ (∀ k, v'.ownBlock = some k -> vq.ownBlock = some k ∨ w.heap.size <= k)) := by
 obtain ⟨v', w', hr, ho, hg, hf⟩ := push_v hn (Zj oq (fun k hk => hW.block k (Zf oq hk).2.1)) hl t m z ty
 have hgb : w'.heap[b]? = w.heap[b]? := (hg.block b (Nat.lt_of_lt_of_le (Ze hbq) hW.size) (fun e => Zu oq hbq (by decide) e.symm)).trans (hW.block b (Ze hbq))
 obtain ⟨a, c, e, _⟩ := Zl ho
 refine ⟨v', w', hr, ⟨_, _, _, e⟩, Zc (hgb.trans hbq) _, (World.cell?_of_block (w := w) (a := ⟨b, o + 2, none⟩) hgb).trans d2, ?_, ⟨hg.os.trans hW.os, hg.tape.trans hW.tape, hg.output.trans hW.output, Nat.le_trans hW.size hg.size, fun k hk hne => (hg.block k (Nat.lt_of_lt_of_le hk hW.size) hne).trans (hW.block k hk)⟩, fun k hk => ?_⟩
 · rw [List.length_append, ← hn]
   exact ho
 · rcases hf k hk with h | h
   · exact .inl h
   · exact .inr (Nat.le_trans hW.size h)
def PutP (w : World) (b o : Nat) (vq : Value) (l : List V3) (e : Ending) (w' : World) : Prop := e = .returned (.bool true) /\ ∃ v' w2, w' = w2.setCell ⟨b, o + 2, none⟩ v' /\ w2.ownsRow 0 64 3 v' l.length (vcs l) /\ w.grownBy w2 vq.ownBlock /\ (∀ k, v'.ownBlock = some k -> vq.ownBlock = some k ∨ w.heap.size <= k)
theorem put_full {w : World} (b o : Nat) (cur : Array Value) (hbq : w.heap[b]? = some (.cells cur 113 (0, 0))) (room : Int) (vq : Value) (l : List V3) (d1 : w.cell? ⟨b, o + 1, none⟩ = some (I_ room)) (d2 : w.cell? ⟨b, o + 2, none⟩ = some vq) (oq : w.ownsRow 0 64 3 vq l.length (vcs l)) (hr : room <= l.length) (t m z : Int) : Calls Tryz.prog 109 #[.pointer (some ⟨b, o, none⟩), .agg #[I_ t, I_ m, .int .u64 z]] w (Vb w (.bool false)) := by
 obtain ⟨aq, cq, rfl, hcq, hmq⟩ := Zl oq
 obtain ⟨n, hn⟩ : ∃ n, n = l.length := ⟨_, rfl⟩
 have hbl := Ze hbq
 rw [← hn] at d2 hr oq hcq
 have HN := Za hn
 have W1 := Za (And.intro (Zd w (.cells #[I_ t, I_ m, .int .u64 z] 64)) (Val.new w t m z))
 clear hn oq
 go_enter Tryz.func109, Tryz.ntmps109
 go_wp2_with fail
 go_quiet (fail)
 go_wp2_with fail
 go_ret
 exact Vb.mk rfl (below_drewN (Zd _ _) _)
theorem put_room {w : World} (b o : Nat) (cur : Array Value) (hbq : w.heap[b]? = some (.cells cur 113 (0, 0))) (room : Int) (vq : Value) (l : List V3) (d1 : w.cell? ⟨b, o + 1, none⟩ = some (I_ room)) (d2 : w.cell? ⟨b, o + 2, none⟩ = some vq) (oq : w.ownsRow 0 64 3 vq l.length (vcs l)) (hr : (l.length : Int) < room) (hr8 : room <= 8) (t m z : Int) : Calls Tryz.prog 109 #[.pointer (some ⟨b, o, none⟩), .agg #[I_ t, I_ m, .int .u64 z]] w (PutP w b o vq (l ++ [(t, m, z)])) := by
 obtain ⟨aq, cq, rfl, hcq, hmq⟩ := Zl oq
 obtain ⟨n, hn⟩ : ∃ n, n = l.length := ⟨_, rfl⟩
 have hbl := Ze hbq
 rw [← hn] at d2 hr oq hcq
 have HN := Za hn
 have W1 := Za (And.intro (Zd w (.cells #[I_ t, I_ m, .int .u64 z] 64)) (Val.new w t m z))
 rw [← hn]
 have hl8 : l.length <= 1000 := by omega
 clear hn
 go_enter Tryz.func109, Tryz.ntmps109
 go_wp2_with fail
 go_quiet (fail)
 go_wp2_with fail
 have hbW : Below w.heap.size w ((w.alloc (.cells #[I_ t, I_ m, .int .u64 z] 64)).drewN nq).drew := Zp (below_drewN (Zd _ _) _)
 have G0 := Za (And.intro ((hbW.block b hbl).trans hbq) ((hbW.cell (p := ⟨b, o + 2, none⟩) hbl).trans d2))
 have N0 := Za (show Val ((w.alloc (.cells #[I_ t, I_ m, .int .u64 z] 64)).drewN nq).drew w.heap.size t m z from W1.out.2)
 have PU := Za (fun ty => push_q hbW hbq HN.out d2 oq hl8 t m z ty)
 clear hbW W1 oq hbq d2 d1 hl8
 refine wp_region_any ZJ ?_
 change wpAny _ _ _ _ _ _ _ (World.drew _)
 generalize World.drew _ = W0 at *
 refine T2_ 0 ?_
 simp only [Act.put, S_]
 refine T2_ 1 ?_
 simp only [Act.put, S_]
 refine T2_ 2 ?_
 simp only [Act.put, S_]
 refine T2_ 3 ?_
 simp only [Act.put, S_]
 refine wpAny_ready (rs := [4, 5]) (by kernel_rfl) (by decide) ?_
 refine AllReady.cons rfl (fun K1 hK1 => ?_) (AllReady.cons rfl (fun K1 hK1 => ?_) AllReady.nil)
 · have q := (show W0.cell? ⟨b, o + 2, none⟩ = some (.slice aq n cq) from G0.out.2)
   go_simp
   refine hK1 _ _ ?_
   clear hK1 K1 q
   refine R_ 5 (fun K1 hK1 => ?_)
   obtain ⟨_, q0, q1, q2⟩ := N0.out.all
   go_simp
   refine hK1 _ _ ?_
   clear hK1 K1 q0 q1 q2
   refine R_ 6 (fun K1 hK1 => ?_)
   go_simp
   refine hK1 _ _ ?_
   clear hK1 K1
   refine R_ 7 (fun K1 hK1 => ?_)
   refine Zr (TS := 65) (.tmp 20) (.tmp 22) _ _ _ (fun ty => PU.out ty) rfl rfl rfl rfl ?_
   rintro v9 w9 ⟨⟨a9, l9, c9, rfl⟩, z1, z2, r9⟩
   have R9 := Za r9
   clear r9
   refine hK1 _ _ ?_
   clear hK1 K1
   refine T2_ 8 ?_
   simp only [Act.put, S_]
   refine T2_ 9 ?_
   simp only [Act.put, S_]
   refine R_ 10 (fun K1 hK1 => ?_)
   go_simp
   refine hK1 _ _ ?_
   clear hK1 K1 z1 z2
   refine wpAny_done (by kernel_rfl) ?_ _
   go_wp2_with fail
   go_ret
   exact ⟨rfl, _, _, rfl, R9.out⟩
 · obtain ⟨_, q0, q1, q2⟩ := N0.out.all
   go_simp
   refine hK1 _ _ ?_
   clear hK1 K1 q0 q1 q2
   refine wpAny_ready (rs := [4, 6]) (by kernel_rfl) (by decide) ?_
   refine AllReady.cons rfl (fun K1 hK1 => ?_) (AllReady.cons rfl (fun K1 hK1 => ?_) AllReady.nil)
   · have q := (show W0.cell? ⟨b, o + 2, none⟩ = some (.slice aq n cq) from G0.out.2)
     go_simp
     refine hK1 _ _ ?_
     clear hK1 K1 q
     refine R_ 6 (fun K1 hK1 => ?_)
     go_simp
     refine hK1 _ _ ?_
     clear hK1 K1
     refine R_ 7 (fun K1 hK1 => ?_)
     refine Zr (TS := 65) (.tmp 20) (.tmp 22) _ _ _ (fun ty => PU.out ty) rfl rfl rfl rfl ?_
     rintro v9 w9 ⟨⟨a9, l9, c9, rfl⟩, z1, z2, r9⟩
     have R9 := Za r9
     clear r9
     refine hK1 _ _ ?_
     clear hK1 K1
     refine T2_ 8 ?_
     simp only [Act.put, S_]
     refine T2_ 9 ?_
     simp only [Act.put, S_]
     refine R_ 10 (fun K1 hK1 => ?_)
     go_simp
     refine hK1 _ _ ?_
     clear hK1 K1 z1 z2
     refine wpAny_done (by kernel_rfl) ?_ _
     go_wp2_with fail
     go_ret
     exact ⟨rfl, _, _, rfl, R9.out⟩
   · go_simp
     refine hK1 _ _ ?_
     clear hK1 K1
     refine R_ 4 (fun K1 hK1 => ?_)
     have q := (show (W0.alloc (.cells #[I_ t, I_ m, .int .u64 z] 64)).cell? ⟨b, o + 2, none⟩ = some (.slice aq n cq) from ((Zd W0 _).cell (p := ⟨b, o + 2, none⟩) (Ze G0.out.1)).trans G0.out.2)
     go_simp
     refine hK1 _ _ ?_
     clear hK1 K1 q
     refine R_ 7 (fun K1 hK1 => ?_)
     refine Zr (TS := 65) (.tmp 20) (.tmp 22) _ _ _ (fun ty => PU.out ty) rfl rfl rfl rfl ?_
     rintro v9 w9 ⟨⟨a9, l9, c9, rfl⟩, z1, z2, r9⟩
     have R9 := Za r9
     clear r9
     refine hK1 _ _ ?_
     clear hK1 K1
     refine T2_ 8 ?_
     simp only [Act.put, S_]
     refine T2_ 9 ?_
     simp only [Act.put, S_]
     refine R_ 10 (fun K1 hK1 => ?_)
     go_simp
     refine hK1 _ _ ?_
     clear hK1 K1 z1 z2
     refine wpAny_done (by kernel_rfl) ?_ _
     go_wp2_with fail
     go_ret
     exact ⟨rfl, _, _, rfl, R9.out⟩
theorem gb_setCell {w w1 : World} {b : Nat} (h : w.grownBy w1 (some b)) (j : Nat) (u : Value) : w.grownBy (w1.setCell ⟨b, j, none⟩ u) (some b) :=
 ⟨h.os, h.tape, h.output, by rw [Zi]; exact h.size, fun k hk hne => (Below.heap_setCell _ _ _ _ (fun e => hne (congrArg some e))).trans (h.block k hk hne)⟩
theorem gb_drew {w w1 : World} {o : Option Nat} (h : w.drew.grownBy w1 o) : w.grownBy w1 o := ⟨h.os, h.tape, h.output, h.size, h.block⟩
theorem gb_trans {w w1 w2 : World} {o : Option Nat} (h : w.grownBy w1 o) (k : w1.grownBy w2 o) : w.grownBy w2 o :=
 ⟨k.os.trans h.os, k.tape.trans h.tape, k.output.trans h.output, Nat.le_trans h.size k.size, fun i hi hne => (k.block i (Nat.lt_of_lt_of_le hi h.size) hne).trans (h.block i hi hne)⟩
theorem run_clear1 {w : World} {b m c : Nat} {l : List V3} (ho : w.ownsRow 0 64 3 (.slice (some ⟨b, 0, none⟩) m c) l.length (vcs l)) (hc : m < c) (c' : Nat) (ty : TypeId) :
 ∃ w', (Builtin.clear_ #[65] ty #[.slice (some ⟨b, m * 3, none⟩) 1 c']).run Tryz.prog w = .ok (.tuple #[]) w' /\ w'.ownsRow 0 64 3 (.slice (some ⟨b, 0, none⟩) m c) l.length (vcs l) /\ w.grownBy w' (some b) := by
 have hm : m = l.length := by
  obtain ⟨_, ⟨h0, _⟩ | ⟨gb, cap, cur, e, _⟩⟩ := ho
  · cases h0
  · cases e
    rfl
 subst hm
 have hx : ∃ cur, w.heap[b]? = some (.cells cur 64 (0, 0)) /\ cur.size = c * 3 := by
  obtain ⟨_, ⟨h0, _⟩ | ⟨gb, cap, cur, e, _, hg, _, _, hs, _⟩⟩ := ho
  · cases h0
  · cases e
    exact ⟨cur, hg, hs⟩
 obtain ⟨cur, hg, hs⟩ := hx
 have hcell : ∀ j, j < 3 -> (w.cell? ⟨b, l.length * 3 + j, none⟩).isSome = true := fun j hj => by
  rw [Zb hg (l.length * 3 + j) cur[l.length * 3 + j] (Array.getElem?_eq_getElem (by omega))]
  rfl
 have hst := run_storeCells_cells (P := Tryz.prog) b (l.length * 3) [I_ 0, I_ 0, .int .u64 0] 0 w (by simpa using hcell) (fun j _ => Zc hg _) (by intro v hv; simp at hv; rcases hv with rfl | rfl | rfl <;> rfl)
 have h3 := ZT (ZT (ZT ho (l.length * 3) (I_ 0)) (l.length * 3 + 1) (I_ 0)) (l.length * 3 + 2) (.int .u64 0)
 refine ⟨_, ?_, ?_, gb_setCell (gb_setCell (gb_setCell (World.grownBy.refl w _) (l.length * 3) (I_ 0)) (l.length * 3 + 1) (I_ 0)) (l.length * 3 + 2) (.int .u64 0)⟩
 · simp only [Nat.add_zero] at hst
   have hzc : (Builtin.zeroCells (Value.agg #[I_ 0, I_ 0, .int .u64 0]).cells 1).toList = [I_ 0, I_ 0, .int .u64 0] := by kernel_rfl
   simp [Builtin.clear_, run_underlying Tryz.underlying65, hzc, hst, World.setCells]
 · rw [List.set_eq_of_length_le (by simp [vcs_len]), List.set_eq_of_length_le (by simp [vcs_len]), List.set_eq_of_length_le (by simp [vcs_len])] at h3
   exact h3
theorem run_move {w : World} {b c : Nat} {v : V3} {l : List V3} {k : Nat} (hk : k = l.length) (ho : w.ownsRow 0 64 3 (.slice (some ⟨b, 0, none⟩) (k + 1) c) (k + 1) (vcs (v :: l))) (a : Addr) (ha : a = ⟨b, 3, none⟩ ∨ k = 0) (c' : Nat) (ty : TypeId) :
    ∃ v' w', (Builtin.append_ #[65, 65] ty #[.slice (some ⟨b, 0, none⟩) 0 c, .slice (some a) k c']).run Tryz.prog w = .ok v' w' /\ (v' = .slice (some ⟨b, 0, none⟩) k c /\ w'.ownsRow 0 64 3 (.slice (some ⟨b, 0, none⟩) k c) l.length (vcs l) /\ w.grownBy w' (some b)) := by
  subst hk
  obtain ⟨i, hi, hz0, hz1, hz2⟩ := info_parts Yj
  have hx : ∃ cur, w.heap[b]? = some (.cells cur 64 (0, 0)) /\ l.length + 1 <= c /\ c <= maxLen /\ cur.size = c * 3 /\ cur.toList.take ((l.length + 1) * 3) = vcs (v :: l) := by
    obtain ⟨_, ⟨h0, _⟩ | ⟨gb, cap, cur, e, _, hg, h1, h2, hs, ht⟩⟩ := ho
    · cases h0
    · cases e
      exact ⟨cur, hg, h1, h2, hs, ht⟩
  obtain ⟨cur, hg, h1, h2, hs, ht⟩ := hx
  have hr := run_append_room (P := Tryz.prog) w 65 ty 64 i Tryz.underlying65 hi b 0 c cur hg a l.length c' (vcs l) (by rw [vcs_len, hz1]) (fun j u hu => by
    have hj : j < l.length * 3 := by rw [← vcs_len]; exact (G_ hu)
    rcases ha with rfl | e
    · have hu2 : (vcs (v :: l))[3 + j]? = some u := by
        rw [show 3 + j = j + 1 + 1 + 1 by omega]
        simpa [vcs] using hu
      rw [show (⟨b, 3, none⟩ : Addr).add j = ⟨b, 3 + j, none⟩ by unfold Addr.add; by_cases h : j = 0 <;> simp [h]]
      exact (Zk ho (3 + j) u hu2).1
    · omega) (Yq _) (by omega) (by rw [vcs_len, hs]; omega)
  refine ⟨_, _, hr, by simp, ?_, rfl, rfl, rfl, by simp [World.setRow], fun k _ hk => setRow_other w b k _ (fun e => hk (by rw [e]))⟩
  refine ⟨vcs_len l, .inr ⟨b, c, _, rfl, Nat.zero_le _, setRow_heap w b _ _ 64 _ hg, by omega, h2, ?_, ?_⟩⟩
  · simp [vcs_len, hs]
    omega
  · simp only [Nat.zero_mul, List.take_zero, List.nil_append, ← vcs_len l]
    exact List.take_left
theorem delete_any {w : World} {b c : Nat} {v : V3} {l : List V3} {k : Nat} (hk : k = l.length) (hk8 : k <= 1000) (ho : w.ownsRow 0 64 3 (.slice (some ⟨b, 0, none⟩) (k + 1) c) (k + 1) (vcs (v :: l))) :
 Calls Tryz.prog 111 #[.slice (some ⟨b, 0, none⟩) (k + 1) c, I_ 0, I_ 1] w fun e w' => e = .returned (.slice (some ⟨b, 0, none⟩) k c) /\ w'.ownsRow 0 64 3 (.slice (some ⟨b, 0, none⟩) k c) l.length (vcs l) /\ w.grownBy w' (some b) := by
 obtain ⟨_, _, e, hkc, hcm⟩ := Zq ho (by omega)
 cases e
 have HO := Za (And.intro hk ho)
 clear hk ho
 unfold maxLen at hcm
 by_cases h1 : c = 1
 · subst h1
   obtain rfl : k = 0 := by omega
   have MV := Za (fun (ty : TypeId) => run_move (w := w.drew) HO.out.1 HO.out.2 ⟨b, 0, none⟩ (.inr rfl) 0 ty)
   go_enter Tryz.func111, Tryz.ntmps111
   go_wp2_with fail
   refine wp_region_any ZJ ?_
   change wpAny _ _ _ _ _ _ _ (World.drew _)
   refine T2_ 0 ?_
   simp only [Act.put, S_]
   refine T2_ 1 ?_
   simp only [Act.put, S_]
   refine T2_ 2 ?_
   simp only [Act.put, S_]
   refine T2_ 3 ?_
   simp only [Act.put, S_]
   refine T2_ 4 ?_
   simp only [Act.put, S_]
   refine T2_ 5 ?_
   simp only [Act.put, S_]
   refine R_ 6 (fun K1 hK1 => ?_)
   refine Zr (TS := 65) (.tmp 22) (.tmp 25) _ _ _ (fun ty => MV.out ty) rfl rfl rfl rfl ?_
   rintro v9 w9 ⟨rfl, r9, g9⟩
   have R9 := Za (And.intro r9 g9)
   clear r9 g9
   refine hK1 _ _ ?_
   clear hK1 K1
   refine R_ 7 (fun K1 hK1 => ?_)
   go_simp
   refine hK1 _ _ ?_
   clear hK1 K1
   refine wpAny_done (by kernel_rfl) ?_ _
   obtain ⟨w10, hcl, r10, g10⟩ := run_clear1 R9.out.1 (show 0 < 1 by omega) 1 0
   simp only [Nat.zero_mul] at hcl
   have R10 := Za (And.intro r10 g10)
   clear r10 g10
   go_wp2_with fail
   go_ret
   exact ⟨rfl, R10.out.1, gb_trans (gb_drew R9.out.2) R10.out.2⟩
 · have h2 : (c = 1) = False := eq_false h1
   have h3 : (1 : Int) <= (k : Int) + 1 := by omega
   have MV := Za (fun (ty : TypeId) => run_move (w := w.drew) HO.out.1 HO.out.2 ⟨b, 3, none⟩ (.inl rfl) (c - 1) ty)
   go_enter Tryz.func111, Tryz.ntmps111
   go_wp2_with fail
   refine wp_region_any ZJ ?_
   change wpAny _ _ _ _ _ _ _ (World.drew _)
   refine T2_ 0 ?_
   simp only [Act.put, S_]
   refine T2_ 1 ?_
   simp only [Act.put, S_]
   refine T2_ 2 ?_
   simp only [Act.put, S_]
   refine T2_ 3 ?_
   simp only [Act.put, S_]
   refine T2_ 4 ?_
   simp only [Act.put, S_]
   refine T2_ 5 ?_
   simp only [Act.put, S_]
   refine R_ 6 (fun K1 hK1 => ?_)
   refine Zr (TS := 65) (.tmp 22) (.tmp 25) _ _ _ (fun ty => MV.out ty) rfl rfl rfl rfl ?_
   rintro v9 w9 ⟨rfl, r9, g9⟩
   have R9 := Za (And.intro r9 g9)
   clear r9 g9
   refine hK1 _ _ ?_
   clear hK1 K1
   refine R_ 7 (fun K1 hK1 => ?_)
   go_simp
   refine hK1 _ _ ?_
   clear hK1 K1
   refine wpAny_done (by kernel_rfl) ?_ _
   obtain ⟨w10, hcl, r10, g10⟩ := run_clear1 R9.out.1 (show k < c by omega) (c - k) 0
   have R10 := Za (And.intro r10 g10)
   clear r10 g10
   go_wp2_with fail
   go_ret
   exact ⟨rfl, R10.out.1, gb_trans (gb_drew R9.out.2) R10.out.2⟩
def TakeP (w : World) (b o : Nat) (bq k cq : Nat) (v : V3) (l : List V3) (e : Ending) (w' : World) : Prop := e = .returned (.tuple #[.agg #[I_ v.1, I_ v.2.1, .int .u64 v.2.2], .bool true]) /\ ∃ w2, w2.ownsRow 0 64 3 (.slice (some ⟨bq, 0, none⟩) k cq) l.length (vcs l) /\ w.grownBy w2 (some bq) /\ Below w.heap.size (w2.setCell ⟨b, o + 2, none⟩ (.slice (some ⟨bq, 0, none⟩) k cq)) w'
theorem Val.keep {w w' : World} {g : Nat} {t n b : Int} (h : Val w g t n b) (hb : w'.heap[g]? = w.heap[g]?) : Val w' g t n b := hb.trans h
theorem bel_gb {w w1 w2 : World} {o : Option Nat} (h : Below w.heap.size w w1) (k : w1.grownBy w2 o) : w.grownBy w2 o := ⟨k.os.trans h.os, k.tape.trans h.tape, k.output.trans h.output, Nat.le_trans h.size k.size, fun i hi hne => (k.block i (Nat.lt_of_lt_of_le hi h.size) hne).trans (h.block i hi)⟩
theorem take_some {w : World} (b o : Nat) (cur : Array Value) (hbq : w.heap[b]? = some (.cells cur 113 (0, 0))) (bq cq k : Nat) (v : V3) (l : List V3) (hk : k = l.length) (hk8 : k <= 1000) (d2 : w.cell? ⟨b, o + 2, none⟩ = some (.slice (some ⟨bq, 0, none⟩) (k + 1) cq)) (oq : w.ownsRow 0 64 3 (.slice (some ⟨bq, 0, none⟩) (k + 1) cq) (k + 1) (vcs (v :: l))) : Calls Tryz.prog 110 #[.pointer (some ⟨b, o, none⟩)] w (TakeP w b o bq k cq v l) := by
 have hbl := Ze hbq
 have hql := (Zf oq (k := bq) rfl).2.1
 have hne : b ≠ bq := fun e => Zu oq hbq (by decide) (by rw [e]; rfl)
 obtain ⟨q0, q1, q2⟩ := vcs_at (v :: l) 0 v rfl
 have e0 := (Zk oq _ _ q0).1
 have e1 := (Zk oq _ _ q1).1
 have e2 := (Zk oq _ _ q2).1
 simp only [Nat.mul_zero, Nat.zero_add] at e0 e1 e2
 have hbB : Below w.heap.size w ((w.alloc (.cells #[I_ 0, I_ 0, .int .u64 0] 64)).alloc (.cells #[I_ v.1, I_ v.2.1, .int .u64 v.2.2] 64)) := Zv (Zd w _) _
 have DE := Za (delete_any hk hk8 (Zj oq (fun k hk => hbB.block k (Zf oq hk).2.1)))
 have WB := Za (And.intro hbB (And.intro ((Val.new w 0 0 0).al (Zd (w.alloc (.cells #[I_ 0, I_ 0, .int .u64 0] 64)) (.cells #[I_ v.1, I_ v.2.1, .int .u64 v.2.2] 64))) (Val.new (w.alloc (.cells #[I_ 0, I_ 0, .int .u64 0] 64)) v.1 v.2.1 v.2.2)))
 have HQ := Za (And.intro hbq d2)
 have HNE := Za hne
 clear hbB oq q0 q1 q2 hk hne hbq
 go_enter Tryz.func110, Tryz.ntmps110
 go_wp2_with fail
 refine DE.out.mono ?_
 rintro e w2 ⟨rfl, o2, g2⟩
 obtain ⟨hbB, VA, VB⟩ := WB.out
 have hsz : (w.alloc (.cells #[I_ 0, I_ 0, .int .u64 0] 64)).heap.size = w.heap.size + 1 := by simp
 rw [hsz] at VB
 have VA2 := VA.keep (g2.block _ VA.lt (fun e => by have := Option.some.inj e; omega))
 have VB2 := VB.keep (g2.block _ VB.lt (fun e => by have := Option.some.inj e; omega))
 have hbq2 := (g2.block b (Nat.lt_of_lt_of_le hbl hbB.size) (fun e => HNE.out (Option.some.inj e))).trans ((hbB.block b hbl).trans HQ.out.1)
 have z1 := Zc hbq2 (o + 2)
 have z2 : w2.cell? ⟨b, o + 2, none⟩ = some (.slice (some ⟨bq, 0, none⟩) (k + 1) cq) := (World.cell?_of_block (w := w) (a := ⟨b, o + 2, none⟩) (hbq2.trans HQ.out.1.symm)).trans HQ.out.2
 obtain ⟨⟨fa0, fa1, fa2⟩, va0, va1, va2⟩ := VA2.all
 obtain ⟨_, vb0, vb1, vb2⟩ := VB2.all
 have VA3 := Za (VA2.keep (w' := w2.setCell ⟨b, o + 2, none⟩ (.slice (some ⟨bq, 0, none⟩) k cq)) (Below.heap_setCell _ _ _ _ (by show w.heap.size ≠ b; omega)))
 have G2 := Za (And.intro o2 (bel_gb hbB g2))
 clear VA VB VA2 VB2 hbq2 g2 o2 hbB WB DE HQ e0 e1 e2 d2
 go_wp2_with fail
 exact ret_ve w.heap.size rfl rfl rfl (VA3.out.set v.1 v.2.1 v.2.2) rfl ⟨rfl, w2, G2.out.1, G2.out.2, Zt (Below.refl _ _) (Nat.le_refl _) _ _ _⟩
theorem Send_bad {w : World} {F : Nat -> Prop} {g : Nat} {s : St} (h : Stt w F g s) {p : List Addr} (h17 : E2 w p) (i : Nat) (q : Qu) (hx : s.C[i]? = some q) (t m z : Int) (hB : isB t m z q.t = false) : Calls Tryz.prog 95 #[P_ g, I_ (i : Nat), .agg #[I_ t, I_ m, .int .u64 z]] w (Vb w (.tuple #[.bool false, errV p 4])) := by
 obtain ⟨vP, vM, vC, vA, vs, h⟩ := h
 have hi : i < s.C.length := (G_ hx)
 obtain ⟨b, c, e, hc, hm⟩ := Zq h.ch (by omega)
 have hsm := h.small
 obtain ⟨n, hn⟩ : ∃ n, n = s.C.length := ⟨_, rfl⟩
 rw [← hn] at e hi hc
 have hn32 : n <= 32 := by omega
 subst e
 have HN := Za hn
 have c1 := h.cells.2.2.1
 obtain ⟨qt, qr, ql⟩ := q
 have hrm := h.rooms _ (List.mem_of_getElem? hx)
 simp only at hB hrm
 have hvi : i < vs.length := by rw [h.len]; omega
 obtain ⟨vq, hv⟩ : ∃ v, vs[i]? = some v := ⟨_, List.getElem?_eq_getElem hvi⟩
 obtain ⟨o, ho⟩ : ∃ o, o = 3 * i := ⟨_, rfl⟩
 have HO := Za ho
 have hgl := h.fb g h.fg
 have hbl := h.fb b (h.fC b rfl)
 have IS : ∀ wx, Calls Tryz.prog 108 #[.agg #[I_ t, I_ m, .int .u64 z], I_ qt] wx (Vb wx (.bool false)) := fun wx => by
  have := isOf_any t m z qt wx
  rw [hB] at this
  exact this
 have W1 := Za (And.intro (h.bel (Zd w (.cells #[I_ t, I_ m, .int .u64 z] 64))) (And.intro (Zd w (.cells #[I_ t, I_ m, .int .u64 z] 64)) (And.intro (Val.new w t m z) (h17.below (Nat.le_refl _) (Zd w (.cells #[I_ t, I_ m, .int .u64 z] 64))))))
 have HX := Za (And.intro hx hv)
 clear h hsm hc hm hn h17 hB ho hx hv hvi
 go_enter Tryz.func95, Tryz.ntmps95
 go_wp2_with fail
 refine (ZP b n c i o _ hi HO).mono ?_
 rintro e w1 ⟨rfl, rfl⟩
 go_wp2_with fail
 generalize w.alloc _ = w1 at *
 obtain ⟨h1, hb1, V1, x1'⟩ := W1.out
 obtain ⟨q0, q1, q2⟩ := qcs_at _ _ _ _ _ HX.out.1 HX.out.2
 rw [← HO.out] at q0 q1 q2
 have d0 := (Zk h1.ch _ _ q0).1
 obtain ⟨_, v0, v1, v2⟩ := V1.all
 simp only at d0
 have K1 := Za (And.intro h1 (And.intro hb1 (And.intro V1 x1')))
 clear W1 h1 hb1 V1 x1' q0 q1 q2 c1
 go_region_held3 (fun w' => (w'.cell? ⟨w.heap.size, 0, none⟩ = some (I_ t) /\ w'.cell? ⟨w.heap.size, 1, none⟩ = some (I_ m) /\ w'.cell? ⟨w.heap.size, 2, none⟩ = some (.int .u64 z)) /\ w'.cell? ⟨b, o, none⟩ = some (I_ qt)) (first | (exact ⟨⟨by assumption, by assumption, by assumption⟩, by assumption⟩)) (first | (go_at_call 108; refine (IS _).mono ?_; rintro e w2 ⟨rfl, hb⟩; replace hb : Below w1.heap.size w1 w2 := ⟨hb.os, hb.tape, hb.output, hb.size, hb.block⟩; have K2 := Za (And.intro (K1.out.1.bel hb) (And.intro (Zg K1.out.2.1 hb) (And.intro (K1.out.2.2.1.al hb) (K1.out.2.2.2.below (Nat.le_refl _) hb)))); obtain ⟨_, v0', v1', v2'⟩ := K2.out.2.2.1.all; have d0' : w2.cell? ⟨b, o, none⟩ = some (I_ qt) := (hb.cell (p := ⟨b, o, none⟩) (K1.out.1.fb b (K1.out.1.fC b rfl))).trans d0))
 have x4 : w2.cell? ⟨5, 0, none⟩ = some (errV p 4) := K2.out.2.2.2.c4
 generalize errV p 4 = ev at *
 go_wp2_with fail
 go_quiet (fail)
 go_wp2_with fail
 go_ret2
 exact Vb.mk rfl (below_drewN K2.out.2.1 _)
theorem Send_full {w : World} {F : Nat -> Prop} {g : Nat} {s : St} (h : Stt w F g s) {p : List Addr} (h17 : E2 w p) (i : Nat) (q : Qu) (hx : s.C[i]? = some q) (t m z : Int) (hB : isB t m z q.t = true) (hr : q.room <= q.l.length) : Calls Tryz.prog 95 #[P_ g, I_ (i : Nat), .agg #[I_ t, I_ m, .int .u64 z]] w (Vb w (.tuple #[.bool false, .nilIface])) := by
 obtain ⟨vP, vM, vC, vA, vs, h⟩ := h
 have hi : i < s.C.length := (G_ hx)
 obtain ⟨b, c, e, hc, hm⟩ := Zq h.ch (by omega)
 have hsm := h.small
 obtain ⟨n, hn⟩ : ∃ n, n = s.C.length := ⟨_, rfl⟩
 rw [← hn] at e hi hc
 have hn32 : n <= 32 := by omega
 subst e
 have HN := Za hn
 have c1 := h.cells.2.2.1
 obtain ⟨qt, qr, ql⟩ := q
 have hrm := h.rooms _ (List.mem_of_getElem? hx)
 simp only at hB hr hrm
 have hvi : i < vs.length := by rw [h.len]; omega
 obtain ⟨vq, hv⟩ : ∃ v, vs[i]? = some v := ⟨_, List.getElem?_eq_getElem hvi⟩
 obtain ⟨o, ho⟩ : ∃ o, o = 3 * i := ⟨_, rfl⟩
 have HO := Za ho
 have hgl := h.fb g h.fg
 have hbl := h.fb b (h.fC b rfl)
 have IS : ∀ wx, Calls Tryz.prog 108 #[.agg #[I_ t, I_ m, .int .u64 z], I_ qt] wx (Vb wx (.bool true)) := fun wx => by
  have := isOf_any t m z qt wx
  rw [hB] at this
  exact this
 have W1 := Za (And.intro (h.bel (Zd w (.cells #[I_ t, I_ m, .int .u64 z] 64))) (And.intro (Zd w (.cells #[I_ t, I_ m, .int .u64 z] 64)) (And.intro (Val.new w t m z) (h17.below (Nat.le_refl _) (Zd w (.cells #[I_ t, I_ m, .int .u64 z] 64))))))
 have HX := Za (And.intro hx hv)
 clear h hsm hc hm hn h17 hB ho hx hv hvi
 go_enter Tryz.func95, Tryz.ntmps95
 go_wp2_with fail
 refine (ZP b n c i o _ hi HO).mono ?_
 rintro e w1 ⟨rfl, rfl⟩
 go_wp2_with fail
 generalize w.alloc _ = w1 at *
 obtain ⟨h1, hb1, V1, x1'⟩ := W1.out
 obtain ⟨q0, q1, q2⟩ := qcs_at _ _ _ _ _ HX.out.1 HX.out.2
 rw [← HO.out] at q0 q1 q2
 have d0 := (Zk h1.ch _ _ q0).1
 obtain ⟨_, v0, v1, v2⟩ := V1.all
 simp only at d0
 have K1 := Za (And.intro h1 (And.intro hb1 (And.intro V1 x1')))
 clear W1 h1 hb1 V1 x1' q0 q1 q2 c1
 go_region_held3 (fun w' => (w'.cell? ⟨w.heap.size, 0, none⟩ = some (I_ t) /\ w'.cell? ⟨w.heap.size, 1, none⟩ = some (I_ m) /\ w'.cell? ⟨w.heap.size, 2, none⟩ = some (.int .u64 z)) /\ w'.cell? ⟨b, o, none⟩ = some (I_ qt)) (first | (exact ⟨⟨by assumption, by assumption, by assumption⟩, by assumption⟩)) (first | (go_at_call 108; refine (IS _).mono ?_; rintro e w2 ⟨rfl, hb⟩; replace hb : Below w1.heap.size w1 w2 := ⟨hb.os, hb.tape, hb.output, hb.size, hb.block⟩; have K2 := Za (And.intro (K1.out.1.bel hb) (And.intro (Zg K1.out.2.1 hb) (And.intro (K1.out.2.2.1.al hb) (K1.out.2.2.2.below (Nat.le_refl _) hb)))); obtain ⟨_, v0', v1', v2'⟩ := K2.out.2.2.1.all; have d0' : w2.cell? ⟨b, o, none⟩ = some (I_ qt) := (hb.cell (p := ⟨b, o, none⟩) (K1.out.1.fb b (K1.out.1.fC b rfl))).trans d0))
 obtain ⟨h2, hb2, V2, x2'⟩ := K2.out
 obtain ⟨q0, q1, q2⟩ := qcs_at _ _ _ _ _ HX.out.1 HX.out.2
 rw [← HO.out] at q0 q1 q2
 have e1 := (Zk h2.ch _ _ q1).1
 have e2 := (Zk h2.ch _ _ q2).1
 obtain ⟨_, _, cur, hcur⟩ := Zf h2.ch (k := b) rfl
 have oq := (h2.q i _ vq HX.out.1 HX.out.2).1
 have PF := Za (put_full b o cur hcur qr vq ql e1 e2 oq hr t m z)
 clear h2 hb2 V2 x2' q0 q1 q2 e1 e2 hcur oq hr hrm
 go_wp2_with fail
 refine PF.out.mono ?_
 rintro e w3 ⟨rfl, hb3⟩
 go_wp2_with fail
 go_ret2
 exact Vb.mk rfl (Zg K2.out.2.1 hb3)
theorem Send_room {w : World} {F : Nat -> Prop} {g : Nat} {s : St} (h : Stt w F g s) {p : List Addr} (h17 : E2 w p) (i : Nat) (q : Qu) (hx : s.C[i]? = some q) (t m z : Int) (hB : isB t m z q.t = true) (hr : (q.l.length : Int) < q.room) : Calls Tryz.prog 95 #[P_ g, I_ (i : Nat), .agg #[I_ t, I_ m, .int .u64 z]] w (Sp w F g { s with C := s.C.set i { q with l := q.l ++ [(t, m, z)] } } (.tuple #[.bool true, .nilIface])) := by
 obtain ⟨vP, vM, vC, vA, vs, h⟩ := h
 have hi : i < s.C.length := (G_ hx)
 obtain ⟨b, c, e, hc, hm⟩ := Zq h.ch (by omega)
 have hsm := h.small
 obtain ⟨n, hn⟩ : ∃ n, n = s.C.length := ⟨_, rfl⟩
 rw [← hn] at e hi hc
 have hn32 : n <= 32 := by omega
 subst e
 have HN := Za hn
 have c1 := h.cells.2.2.1
 obtain ⟨qt, qr, ql⟩ := q
 have hrm := h.rooms _ (List.mem_of_getElem? hx)
 simp only at hB hr hrm
 have hvi : i < vs.length := by rw [h.len]; omega
 obtain ⟨vq, hv⟩ : ∃ v, vs[i]? = some v := ⟨_, List.getElem?_eq_getElem hvi⟩
 obtain ⟨o, ho⟩ : ∃ o, o = 3 * i := ⟨_, rfl⟩
 have HO := Za ho
 have hgl := h.fb g h.fg
 have hbl := h.fb b (h.fC b rfl)
 have IS : ∀ wx, Calls Tryz.prog 108 #[.agg #[I_ t, I_ m, .int .u64 z], I_ qt] wx (Vb wx (.bool true)) := fun wx => by
  have := isOf_any t m z qt wx
  rw [hB] at this
  exact this
 have W1 := Za (And.intro (h.bel (Zd w (.cells #[I_ t, I_ m, .int .u64 z] 64))) (And.intro (Zd w (.cells #[I_ t, I_ m, .int .u64 z] 64)) (And.intro (Val.new w t m z) (h17.below (Nat.le_refl _) (Zd w (.cells #[I_ t, I_ m, .int .u64 z] 64))))))
 have HX := Za (And.intro hx hv)
 clear h hsm hc hm hn h17 hB ho hx hv hvi
 go_enter Tryz.func95, Tryz.ntmps95
 go_wp2_with fail
 refine (ZP b n c i o _ hi HO).mono ?_
 rintro e w1 ⟨rfl, rfl⟩
 go_wp2_with fail
 generalize w.alloc _ = w1 at *
 obtain ⟨h1, hb1, V1, x1'⟩ := W1.out
 obtain ⟨q0, q1, q2⟩ := qcs_at _ _ _ _ _ HX.out.1 HX.out.2
 rw [← HO.out] at q0 q1 q2
 have d0 := (Zk h1.ch _ _ q0).1
 obtain ⟨_, v0, v1, v2⟩ := V1.all
 simp only at d0
 have K1 := Za (And.intro h1 (And.intro hb1 (And.intro V1 x1')))
 clear W1 h1 hb1 V1 x1' q0 q1 q2 c1
 go_region_held3 (fun w' => (w'.cell? ⟨w.heap.size, 0, none⟩ = some (I_ t) /\ w'.cell? ⟨w.heap.size, 1, none⟩ = some (I_ m) /\ w'.cell? ⟨w.heap.size, 2, none⟩ = some (.int .u64 z)) /\ w'.cell? ⟨b, o, none⟩ = some (I_ qt)) (first | (exact ⟨⟨by assumption, by assumption, by assumption⟩, by assumption⟩)) (first | (go_at_call 108; refine (IS _).mono ?_; rintro e w2 ⟨rfl, hb⟩; replace hb : Below w1.heap.size w1 w2 := ⟨hb.os, hb.tape, hb.output, hb.size, hb.block⟩; have K2 := Za (And.intro (K1.out.1.bel hb) (And.intro (Zg K1.out.2.1 hb) (And.intro (K1.out.2.2.1.al hb) (K1.out.2.2.2.below (Nat.le_refl _) hb)))); obtain ⟨_, v0', v1', v2'⟩ := K2.out.2.2.1.all; have d0' : w2.cell? ⟨b, o, none⟩ = some (I_ qt) := (hb.cell (p := ⟨b, o, none⟩) (K1.out.1.fb b (K1.out.1.fC b rfl))).trans d0))
 obtain ⟨h2, hb2, V2, x2'⟩ := K2.out
 obtain ⟨q0, q1, q2⟩ := qcs_at _ _ _ _ _ HX.out.1 HX.out.2
 rw [← HO.out] at q0 q1 q2
 have e1 := (Zk h2.ch _ _ q1).1
 have e2 := (Zk h2.ch _ _ q2).1
 obtain ⟨_, _, cur, hcur⟩ := Zf h2.ch (k := b) rfl
 have oq := (h2.q i _ vq HX.out.1 HX.out.2).1
 have PF := Za (put_room b o cur hcur qr vq ql e1 e2 oq hr (by omega) t m z)
 have HR := Za hr
 clear h2 hb2 V2 x2' q0 q1 q2 e1 e2 hcur oq hr hrm
 go_wp2_with fail
 refine PF.out.mono ?_
 rintro e w3 ⟨rfl, v', w4, rfl, o4, g4, f4⟩
 obtain ⟨S4, C4⟩ := K2.out.1.chan HN.out i HX.out.1 HX.out.2 g4 o4 f4 (by have := HR.out; simp; omega)
 rw [← HO.out] at S4 C4
 have R4 := Za (And.intro S4 C4)
 clear S4 C4 o4 g4 f4
 generalize w4.setCell ⟨b, o + 2, none⟩ v' = w5 at *
 go_wp2_with fail
 go_ret2
 exact Sp.mk rfl ⟨_, _, _, _, _, R4.out.1⟩ ((Ch.of_bel K2.out.2.1).trans R4.out.2)
theorem Send_out {w : World} {F : Nat -> Prop} {g : Nat} {s : St} (h : Stt w F g s) {p : List Addr} (h17 : E2 w p) (i : Int) (t m z : Int) (hi : i < 0 ∨ (s.C.length : Int) <= i) : Calls Tryz.prog 95 #[P_ g, I_ i, .agg #[I_ t, I_ m, .int .u64 z]] w (Vb w (.tuple #[.bool false, errV p 0])) := by
 obtain ⟨vP, vM, vC, vA, vs, h⟩ := h
 obtain ⟨a, c, e, hc, hm⟩ := Zl h.ch
 subst e
 obtain ⟨n, hn⟩ : ∃ n, n = s.C.length := ⟨_, rfl⟩
 rw [← hn] at hi
 have c1 := h.cells.2.2.1
 rw [← hn] at c1
 have EO := Za (fun w' (h17 : E2 w' p) => YC a n c i w' h17 hi)
 have H7 := Za h17
 unfold errV at *
 generalize adr p 0 = ad at *
 have HGL := Za (h.fb g h.fg)
 clear h hc hm hi hn h17
 have H7a := Za (H7.out.below (Nat.le_refl _) (Zd w (.cells #[I_ t, I_ m, .int .u64 z] 64)))
 have hgl := HGL.out
 go_enter Tryz.func95, Tryz.ntmps95
 go_wp2_with fail
 refine (EO.out _ H7a.out).mono ?_
 rintro e w1 ⟨rfl, hb⟩
 go_wp2_with fail
 go_ret2
 exact Vb.mk rfl (Zg (Zd _ _) hb)
theorem ret_vbe {fn : Func} {R : Ending -> World -> Prop} {a : Act} {w : World} {p q r : Tmp} (g : Nat) {t n b : Int} {bv ev : Value} (hf : fn.results = #[.cell p 64, .tmp q, .tmp r]) (hp : a.tmps.getD p undef = P_ g) (hq : a.tmps.getD q undef = bv) (hr : a.tmps.getD r undef = ev)
    (h : Val w g t n b) (hdf : a.defers = []) (hR : R (.returned (.tuple #[.agg #[I_ t, I_ n, .int .u64 b], bv, ev])) w) : bodyPost Tryz.prog fn R .ret a w :=
  bodyPost_ret (by
    have hp' : a.tmps[p]?.getD undef = P_ g := by simpa using hp
    have hq' : a.tmps[q]?.getD undef = bv := by simpa using hq
    have hr' : a.tmps[r]?.getD undef = ev := by simpa using hr
    obtain ⟨_, c0, c1, c2⟩ := h.all
    simp [results, hf, hp', hq', hr', go_sem, c0, c1, c2]) hdf hR
theorem Recv_some {w : World} {F : Nat -> Prop} {g : Nat} {s : St} (h : Stt w F g s) (i : Nat) (q : Qu) (hx : s.C[i]? = some q) (v : V3) (l : List V3) (hl : q.l = v :: l) : Calls Tryz.prog 96 #[P_ g, I_ (i : Nat)] w (Sp w F g { s with C := s.C.set i { q with l := l } } (.tuple #[.agg #[I_ v.1, I_ v.2.1, .int .u64 v.2.2], .bool true, .nilIface])) := by
 obtain ⟨vP, vM, vC, vA, vs, h⟩ := h
 have hi : i < s.C.length := (G_ hx)
 obtain ⟨b, c, e, hc, hm⟩ := Zq h.ch (by omega)
 have hsm := h.small
 obtain ⟨n, hn⟩ : ∃ n, n = s.C.length := ⟨_, rfl⟩
 rw [← hn] at e hi hc
 have hn32 : n <= 32 := by omega
 subst e
 have HN := Za hn
 have c1 := h.cells.2.2.1
 have hrm := h.rooms _ (List.mem_of_getElem? hx)
 have hvi : i < vs.length := by rw [h.len]; omega
 obtain ⟨vq, hv⟩ : ∃ v, vs[i]? = some v := ⟨_, List.getElem?_eq_getElem hvi⟩
 obtain ⟨o, ho⟩ : ∃ o, o = 3 * i := ⟨_, rfl⟩
 have HO := Za ho
 have hgl := h.fb g h.fg
 have hbl := h.fb b (h.fC b rfl)
 have h1 := h.bel (Zd w (.cells #[I_ 0, I_ 0, .int .u64 0] 64))
 obtain ⟨q0, q1, q2⟩ := qcs_at _ _ _ _ _ hx hv
 rw [← ho] at q0 q1 q2
 have d2 := (Zk h1.ch _ _ q2).1
 have oq := (h1.q i _ vq hx hv).1
 obtain ⟨qt, qr, ql⟩ := q
 simp only at hl hrm oq
 subst hl
 obtain ⟨k, hk⟩ : ∃ k, k = l.length := ⟨_, rfl⟩
 have hk1 : (v :: l).length = k + 1 := by rw [hk]; rfl
 rw [hk1] at oq hrm
 obtain ⟨bq, cq, eq, _⟩ := Zq oq (by omega)
 subst eq
 obtain ⟨_, _, cur, hcur⟩ := Zf h1.ch (k := b) rfl
 have TK := Za (take_some b o cur hcur bq cq k v l hk (by omega) d2 oq)
 have HK := Za (And.intro hk hrm)
 clear oq hk1 hcur hk
 have HX := Za (And.intro hx hv)
 have HF := Za h.fb
 have W1 := Za (And.intro h1 (And.intro (Zd w (.cells #[I_ 0, I_ 0, .int .u64 0] 64)) (Val.new w 0 0 0)))
 clear h h1 hsm hc hm hn ho hx hv hvi q0 q1 q2 d2 hrm
 go_enter Tryz.func96, Tryz.ntmps96
 go_wp2_with fail
 refine (ZP b n c i o _ hi HO).mono ?_
 rintro e w1 ⟨rfl, rfl⟩
 go_wp2_with fail
 generalize w.alloc _ = w1 at *
 refine TK.out.mono ?_
 rintro e w2 ⟨rfl, w3, o3, g3, hb3⟩
 obtain ⟨h1, hb1, V1⟩ := W1.out
 obtain ⟨S4, C4⟩ := h1.chan HN.out i HX.out.1 HX.out.2 g3 o3 (fun k hk => .inl hk) (by have := HK.out; simp only; omega)
 rw [← HO.out] at S4 C4
 have hF : ∀ k, (F k ∨ (Value.slice (some ⟨bq, 0, none⟩) k cq).ownBlock = some k) -> F k := fun k hk => by
  rcases hk with h | h
  · exact h
  · exact ((h1.q i _ _ HX.out.1 HX.out.2).2 k h).1
 have S5 := S4.keep (fun k hk => hb3.block k (h1.fb k (hF k hk))) hb3.size
 have C5 := C4.below hb3
 have V2 := V1.keep (C5.blk w.heap.size V1.lt (fun e => by have := HF.out _ e; omega))
 obtain ⟨⟨f0, f1, f2⟩, v0, v1, v2⟩ := V2.all
 have hlt := V2.lt
 have V3 := Za ((V2.set v.1 v.2.1 v.2.2).al (Zd _ (.cells #[I_ v.1, I_ v.2.1, .int .u64 v.2.2] 64)))
 have S6 := Za ((S5.var (k := w.heap.size) (fun e => by have := HF.out _ (hF _ e); omega) (I_ v.1) (I_ v.2.1) (.int .u64 v.2.2)).bel (Zd _ (.cells #[I_ v.1, I_ v.2.1, .int .u64 v.2.2] 64)))
 have C6 := Za ((((Ch.of_bel hb1).trans C5).below (Zt (N := w.heap.size) (Below.refl _ _) (Nat.le_refl _) (I_ v.1) (I_ v.2.1) (.int .u64 v.2.2))).below ((Zd _ (.cells #[I_ v.1, I_ v.2.1, .int .u64 v.2.2] 64)).mono (by rw [Zi, Zi, Zi]; exact Nat.le_trans hb1.size C5.size)))
 clear S4 C4 S5 C5 V2 h1 hb1 V1 W1 TK o3 g3 hb3 hF
 go_wp2_with fail
 exact ret_vbe w.heap.size rfl rfl rfl rfl V3.out rfl (Sp.mk rfl ⟨_, _, _, _, _, S6.out⟩ C6.out)
def badT (t : Int) : Bool := Yf t == 0
def SlC (w : World) (v : Value) (cs : List (Int × Int)) : Prop := ∃ a cap, v = .slice a cs.length cap /\ cs.length <= cap /\ cap <= maxLen ∧
 ∀ i, i < cs.length -> ∃ b off, a = some ⟨b, off, none⟩ /\ b < w.heap.size /\ w.cell? ⟨b, off + i * 2, none⟩ = some (I_ (cs.getD i (0, 0)).1) /\ w.cell? ⟨b, off + i * 2 + 1, none⟩ = some (I_ (cs.getD i (0, 0)).2)
theorem SlC.below {w w' : World} {v : Value} {cs : List (Int × Int)} (h : SlC w v cs) (hb : Below w.heap.size w w') : SlC w' v cs := by
 obtain ⟨a, cap, hv, h1, h2, h3⟩ := h
 refine ⟨a, cap, hv, h1, h2, fun i hi => ?_⟩
 obtain ⟨b, off, ha, hlt, hc, hd⟩ := h3 i hi
 exact ⟨b, off, ha, Nat.lt_of_lt_of_le hlt hb.size, (hb.cell (p := ⟨b, off + i * 2, none⟩) hlt).trans hc, (hb.cell (p := ⟨b, off + i * 2 + 1, none⟩) hlt).trans hd⟩
theorem SlC.nilS (w : World) : SlC w (.slice none 0 0) [] := ⟨none, 0, rfl, Nat.le_refl _, Nat.zero_le _, fun _ h => absurd h (Nat.not_lt_zero _)⟩
theorem any_not {α : Type} (l : List α) (f : α -> Bool) (d : α) (h : ∀ j, j < l.length -> f (l.getD j d) = false) : l.any f = false := by
 rw [List.any_eq_false]
 intro x hx
 obtain ⟨i, hi, rfl⟩ := List.mem_iff_getElem.1 hx
 have := h i hi
 rw [List.getD_eq_getElem?_getD, List.getElem?_eq_getElem hi] at this
 simpa using this
theorem any_yes {α : Type} (l : List α) (f : α -> Bool) (d : α) (k : Nat) (hk : k < l.length) (h : f (l.getD k d) = true) : l.any f = true := by
 rw [List.any_eq_true]
 rw [List.getD_eq_getElem?_getD, List.getElem?_eq_getElem hk] at h
 exact ⟨l[k], List.getElem_mem hk, by simpa using h⟩
def IdxP (w : World) (b : Bool) (e : Ending) (w' : World) : Prop := (∃ r : Int, e = .returned (I_ r) /\ decide (0 <= r) = b) /\ Below w.heap.size w w'
theorem index_int (v : Value) (zs : List Int) (w : World) (h : Sl w v zs) : Calls Tryz.prog 81 #[v, .func (.func 50) #[] #[]] w (IdxP w (zs.any badT)) := by
 obtain ⟨_, a, c, rfl, hca, hcm, hac⟩ := h
 unfold maxLen at hcm
 obtain ⟨n, hn⟩ : ∃ n, n = zs.length := ⟨_, rfl⟩
 have hs : Hid ((∀ j, j < n -> badT (zs.getD j 0) = false) -> zs.any badT = false) := fun h => any_not zs _ 0 (fun j hj => h j (by omega))
 have hs2 : Hid (∀ k, k < n -> badT (zs.getD k 0) = true -> zs.any badT = true) := fun k hk => any_yes zs _ 0 k (by omega)
 have hac' : ∀ i, i < n -> _ := fun i hi => hac i (by omega)
 rw [← hn] at hca ⊢
 clear hn hac
 generalize zs.any badT = r at *
 go_enter Tryz.func81, Tryz.ntmps81
 go_wp2_with fail
 go_loopw [5, 8] (fun u i wr => ∃ k : Nat, k <= n /\ i = I_ k /\ Hid (∀ j, j < k -> badT (zs.getD j 0) = false) /\ Hid (Below w.heap.size w wr)) (fun u i _ => n - (intOf i).toNat)
 case atStart => exact ⟨0, Nat.zero_le _, rfl, fun j hj => absurd hj (Nat.not_lt_zero _), Below.refl _ _⟩
 case round =>
  obtain ⟨k, hk, rfl, hall, hbel⟩ := hrel
  by_cases hlt : k < n
  · obtain ⟨b1, o1, rfl, hb1, hc1⟩ := hac' k hlt
    rw [← hbel.out.cell (p := ⟨b1, o1 + k, none⟩) hb1] at hc1
    have h1 : (k : Int) < (n : Int) := by omega
    have hne := Za (hs2.out k hlt)
    have hstep : Hid (badT (zs.getD k 0) = false -> ∀ j, j < k + 1 -> badT (zs.getD j 0) = false) := fun e j hj => by
     by_cases ej : j = k
     · rw [ej]; exact e
     · exact hall.out j (by omega)
    have NT := fun w => (show Calls Tryz.prog 50 #[I_ (zs.getD k 0)] w (Vb w (.bool (badT (zs.getD k 0)))) from noType_any _ w)
    clear hac' hs hs2 hall
    generalize badT (zs.getD k 0) = x at *
    generalize zs.getD k 0 = y at *
    go_wp2_with fail
    refine (NT _).mono ?_
    rintro e w1 ⟨rfl, hb⟩
    have hbel2 := Za (Zg hbel.out hb)
    cases x with
    | true =>
     have hr := Za (hne.out rfl)
     clear hne hstep
     go_wp2_with fail
     go_ret
     exact ⟨⟨_, rfl, by rw [hr.out]; simp⟩, hbel2.out⟩
    | false =>
     have hr := Za (hstep.out rfl)
     clear hne hstep
     go_wp2_with fail
     go_roundw
     case rel => exact ⟨k + 1, by omega, by go_num, hr, hbel2⟩
     case measure => simp [intOf]; omega
  · have e : k = n := by omega
    subst e
    have hs3 := Za (hs.out hall.out)
    clear hac' hs hs2 hall
    go_wp2_with fail
    go_ret
    exact ⟨⟨_, rfl, by rw [hs3.out]; rfl⟩, hbel.out⟩
theorem contains_int (v : Value) (zs : List Int) (w : World) (h : Sl w v zs) : Calls Tryz.prog 49 #[v, .func (.func 50) #[] #[]] w (Vb w (.bool (zs.any badT))) := by
 have I := Za (index_int v zs w h)
 have hv : ∃ a n c, v = .slice a n c := by
  obtain ⟨_, a, c, rfl, _⟩ := h
  exact ⟨_, _, _, rfl⟩
 obtain ⟨a, n, c, rfl⟩ := hv
 clear h
 generalize zs.any badT = r at *
 go_enter Tryz.func49, Tryz.ntmps49
 go_wp2_with fail
 refine I.out.mono ?_
 rintro e w1 ⟨⟨x, rfl, hx⟩, hb⟩
 have HX := Za hx
 clear hx
 go_wp2_with fail
 go_ret
 exact Vb.mk (congrArg Value.bool HX.out) hb
def badC (c : Int × Int) : Bool := chanB c.1 c.2
theorem index_chan (v : Value) (zs : List (Int × Int)) (w : World) (h : SlC w v zs) : Calls Tryz.prog 82 #[v, .func (.func 52) #[] #[]] w (IdxP w (zs.any badC)) := by
 obtain ⟨a, c, rfl, hca, hcm, hac⟩ := h
 unfold maxLen at hcm
 obtain ⟨n, hn⟩ : ∃ n, n = zs.length := ⟨_, rfl⟩
 have hs : Hid ((∀ j, j < n -> badC (zs.getD j (0, 0)) = false) -> zs.any badC = false) := fun h => any_not zs _ (0, 0) (fun j hj => h j (by omega))
 have hs2 : Hid (∀ k, k < n -> badC (zs.getD k (0, 0)) = true -> zs.any badC = true) := fun k hk => any_yes zs _ (0, 0) k (by omega)
 have hac' : ∀ i, i < n -> _ := fun i hi => hac i (by omega)
 rw [← hn] at hca ⊢
 clear hn hac
 generalize zs.any badC = r at *
 go_enter Tryz.func82, Tryz.ntmps82
 go_wp2_with fail
 go_loopw [5, 8] (fun u i wr => ∃ k : Nat, k <= n /\ i = I_ k /\ Hid (∀ j, j < k -> badC (zs.getD j (0, 0)) = false) /\ Hid (Below w.heap.size w wr)) (fun u i _ => n - (intOf i).toNat)
 case atStart => exact ⟨0, Nat.zero_le _, rfl, fun j hj => absurd hj (Nat.not_lt_zero _), Below.refl _ _⟩
 case round =>
  obtain ⟨k, hk, rfl, hall, hbel⟩ := hrel
  by_cases hlt : k < n
  · obtain ⟨b1, o1, rfl, hb1, hc1, hd1⟩ := hac' k hlt
    rw [← hbel.out.cell (p := ⟨b1, o1 + k * 2, none⟩) hb1] at hc1
    rw [← hbel.out.cell (p := ⟨b1, o1 + k * 2 + 1, none⟩) hb1] at hd1
    have h1 : (k : Int) < (n : Int) := by omega
    have hne := Za (hs2.out k hlt)
    have hstep : Hid (badC (zs.getD k (0, 0)) = false -> ∀ j, j < k + 1 -> badC (zs.getD j (0, 0)) = false) := fun e j hj => by
     by_cases ej : j = k
     · rw [ej]; exact e
     · exact hall.out j (by omega)
    have NT := fun w => (show Calls Tryz.prog 52 #[.agg #[I_ (zs.getD k (0, 0)).1, I_ (zs.getD k (0, 0)).2]] w (Vb w (.bool (badC (zs.getD k (0, 0))))) from noChan_any _ _ w)
    clear hac' hs hs2 hall
    generalize badC (zs.getD k (0, 0)) = x at *
    generalize (zs.getD k (0, 0)).1 = y1 at *
    generalize (zs.getD k (0, 0)).2 = y2 at *
    go_wp2_with fail
    refine (NT _).mono ?_
    rintro e w1 ⟨rfl, hb⟩
    have hbel2 := Za (Zg hbel.out hb)
    cases x with
    | true =>
     have hr := Za (hne.out rfl)
     clear hne hstep
     go_wp2_with fail
     go_ret
     exact ⟨⟨_, rfl, by rw [hr.out]; simp⟩, hbel2.out⟩
    | false =>
     have hr := Za (hstep.out rfl)
     clear hne hstep
     go_wp2_with fail
     go_roundw
     case rel => exact ⟨k + 1, by omega, by go_num, hr, hbel2⟩
     case measure => simp [intOf]; omega
  · have e : k = n := by omega
    subst e
    have hs3 := Za (hs.out hall.out)
    clear hac' hs hs2 hall
    go_wp2_with fail
    go_ret
    exact ⟨⟨_, rfl, by rw [hs3.out]; rfl⟩, hbel.out⟩
theorem contains_chan (v : Value) (zs : List (Int × Int)) (w : World) (h : SlC w v zs) : Calls Tryz.prog 51 #[v, .func (.func 52) #[] #[]] w (Vb w (.bool (zs.any badC))) := by
 have I := Za (index_chan v zs w h)
 have hv : ∃ a n c, v = .slice a n c := by
  obtain ⟨a, c, rfl, _⟩ := h
  exact ⟨_, _, _, rfl⟩
 obtain ⟨a, n, c, rfl⟩ := hv
 clear h
 generalize zs.any badC = r at *
 go_enter Tryz.func51, Tryz.ntmps51
 go_wp2_with fail
 refine I.out.mono ?_
 rintro e w1 ⟨⟨x, rfl, hx⟩, hb⟩
 have HX := Za hx
 clear hx
 go_wp2_with fail
 go_ret
 exact Vb.mk (congrArg Value.bool HX.out) hb
section
variable {w w2 : World} {F : Nat → Prop} {g : Nat} {s : St} {vP vM vC vA v' : Value} {vs : List Value}
theorem Sv.placeA (h : Sv w F g s vP vM vC vA vs) (x : V3) (hg : w.grownBy w2 vP.ownBlock) (ho : w2.ownsRow 0 64 3 v' (s.P ++ [x]).length (vcs (s.P ++ [x]))) (hb : ∀ k, v'.ownBlock = some k -> vP.ownBlock = some k ∨ w.heap.size <= k) (hl : s.P.length < 128) :
 Sv (w2.setCell ⟨g, 0, none⟩ v') (fun k => F k ∨ v'.ownBlock = some k) g { s with P := s.P ++ [x] } v' vM vC vA vs /\ Ch F (fun k => F k ∨ v'.ownBlock = some k) w (w2.setCell ⟨g, 0, none⟩ v') := by
 have hsz : (w2.setCell ⟨g, 0, none⟩ v').heap.size = w2.heap.size := Zi _ _ _
 have ho2 : ∀ k, k ≠ g -> (w2.setCell ⟨g, 0, none⟩ v').heap[k]? = w2.heap[k]? := fun k hk => Below.heap_setCell _ _ _ _ hk
 have gP : vP.ownBlock ≠ some g := Zu h.pl h.at_ (by decide)
 have gv : v'.ownBlock ≠ some g := fun e => by
  rcases hb g e with h1 | h1
  · exact gP h1
  · have := Ze h.at_
    omega
 have hg2 : w2.heap[g]? = some (.cells #[vP, vM, vC, vA] 110 (0, 0)) := (hg.block g (Ze h.at_) (fun e => gP e.symm)).trans h.at_
 have hk3 : ∀ {T : TypeId} {n : Nat} {v : Value} {len : Nat} {xs : List Value}, w.ownsRow 0 T n v len xs -> (∀ k, v.ownBlock = some k -> vP.ownBlock ≠ some k) -> T ≠ 110 -> (w2.setCell ⟨g, 0, none⟩ v').ownsRow 0 T n v len xs := fun hr hne hT =>
  Zj hr fun k hk => (ho2 k (fun e => Zu hr h.at_ hT (e ▸ hk))).trans (hg.block k (Zf hr hk).2.1 (fun e => hne k hk e.symm))
 refine ⟨?_, ⟨hg.os, hg.tape, hg.output, by rw [hsz]; exact hg.size, fun k hk hF => (ho2 k (fun e => hF (e ▸ h.fg))).trans (hg.block k hk (fun e => hF (h.fP k e.symm))), fun k hk => ?_⟩⟩
 · exact { h with
    at_ := by
     rw [heap_setCell_same w2 g 0 _ _ _ hg2]
     rfl
    pl := Zj ho fun k hk => ho2 k (fun e => gv (e ▸ hk))
    mu := hk3 h.mu (fun k hk => Zo h.mu h.pl (by decide) k hk) (by decide)
    ch := hk3 h.ch (fun k hk => Zo h.ch h.pl (by decide) k hk) (by decide)
    ato := hk3 h.ato (fun k hk => Zo h.ato h.pl (by decide) k hk) (by decide)
    q := fun i q v hq hv => by
     obtain ⟨o1, o2⟩ := h.q i q v hq hv
     refine ⟨hk3 o1 (fun k hk => (o2 k hk).2) (by decide), fun k hk => ⟨.inl (o2 k hk).1, fun e => ?_⟩⟩
     rcases hb k e with h1 | h1
     · exact (o2 k hk).2 h1
     · have := (Zf o1 hk).2.1
       omega
    fg := .inl h.fg
    fP := fun k hk => .inr hk
    fM := fun k hk => .inl (h.fM k hk)
    fC := fun k hk => .inl (h.fC k hk)
    fA := fun k hk => .inl (h.fA k hk)
    fb := fun k hk => by
     rw [hsz]
     rcases hk with hk | hk
     · exact Nat.lt_of_lt_of_le (h.fb k hk) hg.size
     · exact (Zf ho hk).2.1
    small := by
     have := h.small
     simp
     omega }
 · rcases hk with hk | hk
   · exact .inl hk
   · rcases hb k hk with h1 | h1
     · exact .inl (h.fP k h1)
     · exact .inr h1
theorem Sv.chanA (h : Sv w F g s vP vM vC vA vs) (q : Qu) {vq : Value} (oq : w.ownsRow 0 64 3 vq q.l.length (vcs q.l)) (fq : ∀ k, vq.ownBlock = some k -> ¬ F k) (hg : w.grownBy w2 vC.ownBlock)
 (ho : w2.ownsRow 0 113 3 v' (s.C.length + 1) (qcs s.C vs ++ [I_ q.t, I_ q.room, vq])) (hb : ∀ k, v'.ownBlock = some k -> vC.ownBlock = some k ∨ w.heap.size <= k) (hl : s.C.length < 32) (hr : 0 <= q.room /\ q.room <= 8 /\ (q.l.length : Int) <= q.room) :
 Sv (w2.setCell ⟨g, 2, none⟩ v') (fun k => F k ∨ v'.ownBlock = some k ∨ vq.ownBlock = some k) g { s with C := s.C ++ [q] } vP vM v' vA (vs ++ [vq]) /\ Ch F (fun _ => False) w (w2.setCell ⟨g, 2, none⟩ v') := by
 have hsz : (w2.setCell ⟨g, 2, none⟩ v').heap.size = w2.heap.size := Zi _ _ _
 have ho2 : ∀ k, k ≠ g -> (w2.setCell ⟨g, 2, none⟩ v').heap[k]? = w2.heap[k]? := fun k hk => Below.heap_setCell _ _ _ _ hk
 have gC : vC.ownBlock ≠ some g := Zu h.ch h.at_ (by decide)
 have gv : v'.ownBlock ≠ some g := fun e => by
  rcases hb g e with h1 | h1
  · exact gC h1
  · have := Ze h.at_
    omega
 have hg2 : w2.heap[g]? = some (.cells #[vP, vM, vC, vA] 110 (0, 0)) := (hg.block g (Ze h.at_) (fun e => gC e.symm)).trans h.at_
 have hk3 : ∀ {T : TypeId} {n : Nat} {v : Value} {len : Nat} {xs : List Value}, w.ownsRow 0 T n v len xs -> T ≠ 113 -> T ≠ 110 -> (w2.setCell ⟨g, 2, none⟩ v').ownsRow 0 T n v len xs := fun hr hne hT =>
  Zj hr fun k hk => (ho2 k (fun e => Zu hr h.at_ hT (e ▸ hk))).trans (hg.block k (Zf hr hk).2.1 (fun e => Zo hr h.ch hne k hk e.symm))
 refine ⟨?_, ⟨hg.os, hg.tape, hg.output, by rw [hsz]; exact hg.size, fun k hk hF => (ho2 k (fun e => hF (e ▸ h.fg))).trans (hg.block k hk (fun e => hF (h.fC k e.symm))), fun k hk => hk.elim⟩⟩
 exact { h with
  at_ := by
   rw [heap_setCell_same w2 g 2 _ _ _ hg2]
   rfl
  pl := hk3 h.pl (by decide) (by decide)
  mu := hk3 h.mu (by decide) (by decide)
  ch := by
   have h1 := Zj (w' := w2.setCell ⟨g, 2, none⟩ v') ho fun k hk => ho2 k (fun e => gv (e ▸ hk))
   rw [← qcs_app s.C vs q vq h.len] at h1
   simpa using h1
  ato := hk3 h.ato (by decide) (by decide)
  len := by simp [h.len]
  q := fun i q' v hq hv => by
   by_cases e : i < s.C.length
   · rw [List.getElem?_append_left e] at hq
     rw [List.getElem?_append_left (by rw [h.len]; exact e)] at hv
     obtain ⟨o1, o2⟩ := h.q i q' v hq hv
     exact ⟨hk3 o1 (by decide) (by decide), fun k hk => ⟨.inl (o2 k hk).1, (o2 k hk).2⟩⟩
   · rw [List.getElem?_append_right (by omega)] at hq
     rw [List.getElem?_append_right (by rw [h.len]; omega)] at hv
     have e0 : i - s.C.length = 0 := by
      rcases Nat.eq_zero_or_pos (i - s.C.length) with h0 | h0
      · exact h0
      · rw [List.getElem?_eq_none (by simp; omega)] at hq
        cases hq
     rw [h.len, e0] at hv
     rw [e0] at hq
     simp at hq hv
     subst hq hv
     exact ⟨hk3 oq (by decide) (by decide), fun k hk => ⟨.inr (.inr hk), fun e => fq k hk (h.fP k e)⟩⟩
  ne := fun a c x y k hac hx hy hk => by
   have last : ∀ i u, (vs ++ [vq])[i]? = some u -> ¬ i < vs.length -> i = vs.length /\ u = vq := fun i u hu hi => by
    rw [List.getElem?_append_right (by omega)] at hu
    have e0 : i - vs.length = 0 := by
     rcases Nat.eq_zero_or_pos (i - vs.length) with h0 | h0
     · exact h0
     · rw [List.getElem?_eq_none (by simp; omega)] at hu
       cases hu
    rw [e0] at hu
    simp at hu
    exact ⟨by omega, hu.symm⟩
   have old : ∀ (j : Nat) (u : Value), vs[j]? = some u -> ∀ k, u.ownBlock = some k -> vq.ownBlock ≠ some k := fun j u hu k hk e => by
    have hj : j < s.C.length := by rw [← h.len]; exact (G_ hu)
    exact fq k e ((h.q j s.C[j] u (List.getElem?_eq_getElem hj) hu).2 k hk).1
   by_cases e1 : a < vs.length
   · rw [List.getElem?_append_left e1] at hx
     by_cases e2 : c < vs.length
     · rw [List.getElem?_append_left e2] at hy
       exact h.ne a c x y k hac hx hy hk
     · obtain ⟨_, rfl⟩ := last c y hy e2
       exact old a x hx k hk
   · obtain ⟨ea, rfl⟩ := last a x hx e1
     have e2 : c < vs.length := by
      rcases Nat.lt_or_ge c vs.length with h2 | h2
      · exact h2
      · obtain ⟨ec, _⟩ := last c y hy (by omega)
        omega
     rw [List.getElem?_append_left e2] at hy
     exact fun e3 => old c y hy k e3 hk
  fg := .inl h.fg
  fP := fun k hk => .inl (h.fP k hk)
  fM := fun k hk => .inl (h.fM k hk)
  fC := fun k hk => .inr (.inl hk)
  fA := fun k hk => .inl (h.fA k hk)
  fb := fun k hk => by
   rw [hsz]
   rcases hk with hk | hk | hk
   · exact Nat.lt_of_lt_of_le (h.fb k hk) hg.size
   · exact (Zf ho hk).2.1
   · exact Nat.lt_of_lt_of_le (Zf oq hk).2.1 hg.size
  small := by
   have := h.small
   simp
   omega
  rooms := fun q' hq' => by
   rcases List.mem_append.1 hq' with h1 | h1
   · exact h.rooms q' h1
   · simp at h1
     subst h1
     exact hr }
end
def fitB (n : Int) : Bool := decide (0 <= n) && decide (n <= 32)
def okN (ps : List Int) (m : Int) (cs : List (Int × Int)) (a : Int) : Bool := !decide (128 < ps.length) && (fitB m && (fitB cs.length && (fitB a && (!ps.any badT && !cs.any badC))))
def newS (ps : List Int) (m : Int) (cs : List (Int × Int)) (a : Int) : St := ⟨ps.map fun t => (t, 0, 0), List.replicate m.toNat false, cs.map fun c => ⟨c.1, c.2, []⟩, List.replicate a.toNat 0⟩
def NewP (w : World) (s : St) (e : Ending) (w' : World) : Prop := ∃ g F, e = .returned (.tuple #[P_ g, .nilIface]) /\ Stt w' F g s /\ (∀ k, F k -> w.heap.size <= k) /\ Below w.heap.size w w'
theorem run_mkB (n : Nat) (hn : n <= 32) (w : World) : (Instr.makeSlice 88 (I_ (n : Nat)) (I_ (n : Nat))).run Tryz.prog w = .ok (.slice (some ⟨w.heap.size, 0, none⟩) n n) (w.alloc (.cells (madeCells #[.bool false] n) 4)) := by
 have hinfo : (Tryz.prog.info? 4).map (fun i => (i.zero, i.size, i.bytes)) = some (some (.bool false), 1, 1) := by kernel_rfl
 obtain ⟨i, hi, hz0, hz1, hz2⟩ := info_parts hinfo
 have hr := run_make (P := Tryz.prog) w 88 4 i (.bool false) Tryz.underlying88 hi hz0 .i64 .i64 n n (by omega) (by omega) (by rw [hz2]; omega) (by omega)
 simp only [Int.toNat_natCast, hz1, Nat.mul_one] at hr
 exact hr
theorem run_mkI (n : Nat) (hn : n <= 32) (w : World) : (Instr.makeSlice 22 (I_ (n : Nat)) (I_ (n : Nat))).run Tryz.prog w = .ok (.slice (some ⟨w.heap.size, 0, none⟩) n n) (w.alloc (.cells (madeCells #[I_ 0] n) 3)) := by
 obtain ⟨i, hi, hz0, hz1, hz2⟩ := info_parts info3
 have hr := run_make (P := Tryz.prog) w 22 3 i (I_ 0) Tryz.underlying22 hi hz0 .i64 .i64 n n (by omega) (by omega) (by rw [hz2]; omega) (by omega)
 simp only [Int.toNat_natCast, hz1, Nat.mul_one] at hr
 exact hr
theorem own_made (w : World) (z : Value) (n : Nat) (T : TypeId) (hn : n <= 32) : (w.alloc (.cells (madeCells #[z] n) T)).ownsRow 0 T 1 (.slice (some ⟨w.heap.size, 0, none⟩) n n) n (List.replicate n z) :=
 ⟨by simp, .inr ⟨w.heap.size, n, _, rfl, Nat.zero_le _, B_ _ _, Nat.le_refl _, by unfold maxLen; omega, by simp [madeCells], by
  apply List.ext_getElem
  · simp [madeCells]
  · intro i h1 h2
    simp [madeCells, Nat.mod_one]⟩⟩
theorem new_bad (vP vC : Value) (ps : List Int) (cs : List (Int × Int)) (m a : Int) {w : World} {p : List Addr} (h17 : E2 w p) (hP : Sl w vP ps) (hC : SlC w vC cs) (hok : okN ps m cs a = false) : Calls Tryz.prog 16 #[vP, I_ m, vC, I_ a] w (Vb w (.tuple #[.pointer none, errV p 0])) := by
 obtain ⟨aP, lP, cP, rfl, hlP⟩ := hP.slice
 obtain ⟨aC, cC, eC, _⟩ := id hC
 obtain ⟨lC, hlC⟩ : ∃ n, n = cs.length := ⟨_, rfl⟩
 rw [← hlC] at eC
 subst eC
 have CI := Za (fun w' hb => contains_int (.slice aP lP cP) ps w' (hP.below (Nat.le_refl _) hb))
 have CC := Za (fun w' (hb : Below w.heap.size w w') => contains_chan (.slice aC lC cC) cs w' (hC.below hb))
 have FM : ∀ w, Calls Tryz.prog 48 #[I_ m] w fun e w' => e = .returned (.bool (fitB m)) /\ w = w' := fun w => fits_any m w
 have FC : ∀ w, Calls Tryz.prog 48 #[I_ (lC : Nat)] w fun e w' => e = .returned (.bool (fitB lC)) /\ w = w' := fun w => fits_any lC w
 have FA : ∀ w, Calls Tryz.prog 48 #[I_ a] w fun e w' => e = .returned (.bool (fitB a)) /\ w = w' := fun w => fits_any a w
 unfold okN at hok
 rw [← hlP, ← hlC] at hok
 have H7 := Za h17
 clear hP hC h17 hlP hlC
 generalize fitB m = b1 at *
 generalize fitB lC = b2 at *
 generalize fitB a = b3 at *
 generalize ps.any badT = b4 at *
 generalize cs.any badC = b5 at *
 by_cases h0 : 128 < lP
 · have h0' : (128 : Int) < (lP : Int) := by omega
   go_enter Tryz.func16, Tryz.ntmps16
   go_wp2_with fail
   have x0 : w.cell? ⟨1, 0, none⟩ = some (errV p 0) := (H7.out).c0
   clear hok
   generalize errV p 0 = ev at *
   go_wp2_with fail
   go_quiet (fail)
   go_wp2_with fail
   go_ret2
   exact Vb.mk rfl (below_drewN (Below.refl _ _) _)
 have h0' : (lP : Int) <= 128 := by omega
 cases b1 with
 | false =>
  go_enter Tryz.func16, Tryz.ntmps16
  go_wp2_with fail
  refine (FM _).mono ?_
  rintro e wx ⟨rfl, rfl⟩
  have x0 : w.cell? ⟨1, 0, none⟩ = some (errV p 0) := (H7.out).c0
  clear hok
  generalize errV p 0 = ev at *
  go_wp2_with fail
  go_quiet (fail)
  go_wp2_with fail
  go_ret2
  exact Vb.mk rfl (below_drewN (Below.refl _ _) _)
 | true =>
 cases b2 with
 | false =>
  go_enter Tryz.func16, Tryz.ntmps16
  go_wp2_with fail
  refine (FM _).mono ?_
  rintro e wx ⟨rfl, rfl⟩
  go_wp2_with fail
  refine (FC _).mono ?_
  rintro e wx ⟨rfl, rfl⟩
  have x0 : w.cell? ⟨1, 0, none⟩ = some (errV p 0) := (H7.out).c0
  clear hok
  generalize errV p 0 = ev at *
  go_wp2_with fail
  go_quiet (fail)
  go_wp2_with fail
  go_ret2
  exact Vb.mk rfl (below_drewN (Below.refl _ _) _)
 | true =>
 cases b3 with
 | false =>
  go_enter Tryz.func16, Tryz.ntmps16
  go_wp2_with fail
  refine (FM _).mono ?_
  rintro e wx ⟨rfl, rfl⟩
  go_wp2_with fail
  refine (FC _).mono ?_
  rintro e wx ⟨rfl, rfl⟩
  go_wp2_with fail
  refine (FA _).mono ?_
  rintro e wx ⟨rfl, rfl⟩
  have x0 : w.cell? ⟨1, 0, none⟩ = some (errV p 0) := (H7.out).c0
  clear hok
  generalize errV p 0 = ev at *
  go_wp2_with fail
  go_quiet (fail)
  go_wp2_with fail
  go_ret2
  exact Vb.mk rfl (below_drewN (Below.refl _ _) _)
 | true =>
 cases b4 with
 | true =>
  go_enter Tryz.func16, Tryz.ntmps16
  go_wp2_with fail
  refine (FM _).mono ?_
  rintro e wx ⟨rfl, rfl⟩
  go_wp2_with fail
  refine (FC _).mono ?_
  rintro e wx ⟨rfl, rfl⟩
  go_wp2_with fail
  refine (FA _).mono ?_
  rintro e wx ⟨rfl, rfl⟩
  go_wp2_with fail
  refine (CI.out _ (Below.refl _ _)).mono ?_
  rintro e w1 ⟨rfl, hb1⟩
  have x0 : w1.cell? ⟨1, 0, none⟩ = some (errV p 0) := (H7.out.below (Nat.le_refl _) hb1).c0
  clear hok
  generalize errV p 0 = ev at *
  go_wp2_with fail
  go_quiet (fail)
  go_wp2_with fail
  go_ret2
  exact Vb.mk rfl (below_drewN (hb1) _)
 | false =>
 cases b5 with
 | true =>
  go_enter Tryz.func16, Tryz.ntmps16
  go_wp2_with fail
  refine (FM _).mono ?_
  rintro e wx ⟨rfl, rfl⟩
  go_wp2_with fail
  refine (FC _).mono ?_
  rintro e wx ⟨rfl, rfl⟩
  go_wp2_with fail
  refine (FA _).mono ?_
  rintro e wx ⟨rfl, rfl⟩
  go_wp2_with fail
  refine (CI.out _ (Below.refl _ _)).mono ?_
  rintro e w1 ⟨rfl, hb1⟩
  go_wp2_with fail
  refine (CC.out _ hb1).mono ?_
  rintro e w2 ⟨rfl, hb2⟩
  have x0 : w2.cell? ⟨1, 0, none⟩ = some (errV p 0) := (H7.out.below (Nat.le_refl _) (Zg hb1 hb2)).c0
  clear hok
  generalize errV p 0 = ev at *
  go_wp2_with fail
  go_quiet (fail)
  go_wp2_with fail
  go_ret2
  exact Vb.mk rfl (below_drewN (Zg hb1 hb2) _)
 | false =>
  simp [h0] at hok
def Mk (w wc : World) (g : Nat) (s : St) : Prop := ∃ F, Stt wc F g s /\ (∀ k, F k -> w.heap.size <= k) /\ Below w.heap.size w wc
theorem Yi (w : World) (T : TypeId) (n : Nat) : w.ownsRow 0 T n (.slice none 0 0) 0 [] := World.ownsRow_nil w 0 T n
theorem sv_new {W : World} {gb gi gs : Nat} {mn an : Nat} (hm : mn <= 32) (ha : an <= 32) (vb vi : Value) (hvb : vb = .slice (some ⟨gb, 0, none⟩) mn mn) (hvi : vi = .slice (some ⟨gi, 0, none⟩) an an) (ob : W.ownsRow 0 4 1 vb mn (List.replicate mn (.bool false))) (oi : W.ownsRow 0 3 1 vi an (List.replicate an (I_ 0)))
 (hg : W.heap[gs]? = some (.cells #[.slice none 0 0, vb, .slice none 0 0, vi] 110 (0, 0))) {B : Nat} (hb : B <= gb /\ B <= gi /\ B <= gs) : ∃ F, Stt W F gs ⟨[], List.replicate mn false, [], List.replicate an 0⟩ /\ ∀ k, F k -> B <= k := by
 refine ⟨fun k => k = gb ∨ k = gi ∨ k = gs, ⟨_, _, _, _, [], { at_ := hg, pl := Yi _ _ _, mu := (by simpa [bls] using ob), ch := Yi _ _ _, ato := (by simpa [nts] using oi), len := rfl, q := fun i q v h _ => (by simp at h), ne := fun i j v v' k _ h _ => (by simp at h), fg := .inr (.inr rfl), fP := fun k h => (by cases h), fM := fun k h => ?_, fC := fun k h => (by cases h), fA := fun k h => ?_, fb := fun k h => ?_, small := (by simp; omega), rooms := fun q h => (by cases h) }⟩, fun k h => by omega⟩
 · subst hvb
   cases h
   exact .inl rfl
 · subst hvi
   cases h
   exact .inr (.inl rfl)
 · rcases h with rfl | rfl | rfl
   · exact (Zf ob (by rw [hvb]; rfl)).2.1
   · exact (Zf oi (by rw [hvi]; rfl)).2.1
   · exact Ze hg
theorem mk_new {w W0 W : World} {mn an : Nat} (hm : mn <= 32) (ha : an <= 32) (hb0 : Below w.heap.size w W0) (hW : W = (W0.alloc (.cells (madeCells #[.bool false] mn) 4)).alloc (.cells (madeCells #[I_ 0] an) 3)) : Mk w (W.alloc (.cells #[.slice none 0 0, .slice (some ⟨W0.heap.size, 0, none⟩) mn mn, .slice none 0 0, .slice (some ⟨W0.heap.size + 1, 0, none⟩) an an] 110)) (W0.heap.size + 1 + 1) ⟨[], List.replicate mn false, [], List.replicate an 0⟩ := by
 subst hW
 have h1 := own_made W0 (.bool false) mn 4 hm
 have h2 := own_made (W0.alloc (.cells (madeCells #[.bool false] mn) 4)) (I_ 0) an 3 ha
 have hs1 : (W0.alloc (.cells (madeCells #[.bool false] mn) 4)).heap.size = W0.heap.size + 1 := by simp
 have hs2 : ((W0.alloc (.cells (madeCells #[.bool false] mn) 4)).alloc (.cells (madeCells #[I_ 0] an) 3)).heap.size = W0.heap.size + 1 + 1 := by simp
 rw [hs1] at h2
 have hz := hb0.size
 have hbB := Zv (Zv hb0 (.cells (madeCells #[.bool false] mn) 4)) (.cells (madeCells #[I_ 0] an) 3)
 have h3 := Zj h1 (fun k hk => (Zd _ (.cells (madeCells #[I_ 0] an) 3)).block k (Zf h1 hk).2.1)
 obtain ⟨F, hF, hl⟩ := sv_new (B := w.heap.size) hm ha _ _ rfl rfl (Zj h3 (fun k hk => (Zd _ _).block k (Zf h3 hk).2.1)) (Zj h2 (fun k hk => (Zd _ _).block k (Zf h2 hk).2.1)) (hs2 ▸ B_ _ _) ⟨by omega, by omega, by omega⟩
 exact ⟨F, hF, hl, Zv hbB _⟩
theorem mk_new2 {w W0 W : World} {mn an : Nat} (hm : mn <= 32) (ha : an <= 32) (hb0 : Below w.heap.size w W0) (hW : W = (W0.alloc (.cells (madeCells #[I_ 0] an) 3)).alloc (.cells (madeCells #[.bool false] mn) 4)) : Mk w (W.alloc (.cells #[.slice none 0 0, .slice (some ⟨W0.heap.size + 1, 0, none⟩) mn mn, .slice none 0 0, .slice (some ⟨W0.heap.size, 0, none⟩) an an] 110)) (W0.heap.size + 1 + 1) ⟨[], List.replicate mn false, [], List.replicate an 0⟩ := by
 subst hW
 have h1 := own_made W0 (I_ 0) an 3 ha
 have h2 := own_made (W0.alloc (.cells (madeCells #[I_ 0] an) 3)) (.bool false) mn 4 hm
 have hs1 : (W0.alloc (.cells (madeCells #[I_ 0] an) 3)).heap.size = W0.heap.size + 1 := by simp
 have hs2 : ((W0.alloc (.cells (madeCells #[I_ 0] an) 3)).alloc (.cells (madeCells #[.bool false] mn) 4)).heap.size = W0.heap.size + 1 + 1 := by simp
 rw [hs1] at h2
 have hz := hb0.size
 have hbB := Zv (Zv hb0 (.cells (madeCells #[I_ 0] an) 3)) (.cells (madeCells #[.bool false] mn) 4)
 have h3 := Zj h1 (fun k hk => (Zd _ (.cells (madeCells #[.bool false] mn) 4)).block k (Zf h1 hk).2.1)
 obtain ⟨F, hF, hl⟩ := sv_new (B := w.heap.size) hm ha _ _ rfl rfl (Zj h2 (fun k hk => (Zd _ _).block k (Zf h2 hk).2.1)) (Zj h3 (fun k hk => (Zd _ _).block k (Zf h3 hk).2.1)) (hs2 ▸ B_ _ _) ⟨by omega, by omega, by omega⟩
 exact ⟨F, hF, hl, Zv hbB _⟩
section
variable {w : World} {F : Nat → Prop} {g : Nat} {s : St} {vP vM vC vA : Value} {vs : List Value}
theorem Sv.pushP (h : Sv w F g s vP vM vC vA vs) (x : V3) (hl : s.P.length < 128) (ty : TypeId) :
 ∃ v' w', (Builtin.append_ #[65, 65] ty #[vP, .slice (some ⟨w.heap.size, 0, none⟩) 1 1]).run Tryz.prog (w.alloc (.cells #[I_ x.1, I_ x.2.1, .int .u64 x.2.2] 64)) = .ok v' w' ∧
  ((∃ a l c, v' = .slice a l c) /\ w'.frozen? ⟨g, 0, none⟩ = false /\ w'.cell? ⟨g, 0, none⟩ = some vP /\ Sv (w'.setCell ⟨g, 0, none⟩ v') (fun k => F k ∨ v'.ownBlock = some k) g { s with P := s.P ++ [x] } v' vM vC vA vs /\ Ch F (fun k => F k ∨ v'.ownBlock = some k) w (w'.setCell ⟨g, 0, none⟩ v')) := by
 obtain ⟨v', w', hr, ho, hg, hf⟩ := push_v rfl h.pl (by omega) x.1 x.2.1 x.2.2 ty
 have hgb := (hg.block g (Ze h.at_) (fun e => Zu h.pl h.at_ (by decide) e.symm)).trans h.at_
 obtain ⟨a, c, e, _⟩ := Zl ho
 have e1 : s.P.length + 1 = (s.P ++ [x]).length := by simp
 rw [e1] at ho
 exact ⟨v', w', hr, ⟨_, _, _, e⟩, Zc hgb _, Zb hgb 0 _ rfl, h.placeA x hg ho hf hl⟩
theorem info_que : (Tryz.prog.info? 113).map (fun i => (i.zero, i.size, i.bytes)) = some (some (.agg #[I_ 0, I_ 0, .slice none 0 0]), 3, 40) := by kernel_rfl
theorem Sv.pushC (h : Sv w F g s vP vM vC vA vs) (q : Qu) {a : Option Addr} {l c : Nat} (oq : w.ownsRow 0 64 3 (.slice a l c) q.l.length (vcs q.l)) (fq : ∀ k, (Value.slice a l c).ownBlock = some k -> ¬ F k) (hl : s.C.length < 32) (hr : 0 <= q.room /\ q.room <= 8 /\ (q.l.length : Int) <= q.room) (ty : TypeId) :
 ∃ v' w', (Builtin.append_ #[108, 108] ty #[vC, .slice (some ⟨w.heap.size, 0, none⟩) 1 1]).run Tryz.prog (w.alloc (.cells #[I_ q.t, I_ q.room, .slice a l c] 113)) = .ok v' w' ∧
  ((∃ a l c, v' = .slice a l c) /\ w'.frozen? ⟨g, 2, none⟩ = false /\ w'.cell? ⟨g, 2, none⟩ = some vC /\ (∀ k, v'.ownBlock = some k -> vC.ownBlock = some k ∨ w.heap.size <= k) /\ Sv (w'.setCell ⟨g, 2, none⟩ v') (fun k => F k ∨ v'.ownBlock = some k ∨ (Value.slice a l c).ownBlock = some k) g { s with C := s.C ++ [q] } vP vM v' vA (vs ++ [.slice a l c]) /\ Ch F (fun _ => False) w (w'.setCell ⟨g, 2, none⟩ v')) := by
 obtain ⟨ie, hi, hz0, hz1, hz2⟩ := info_parts info_que
 have hb := Zd w (.cells #[I_ q.t, I_ q.room, .slice a l c] 113)
 have o1 := Zj h.ch (fun k hk => hb.block k (Zf h.ch hk).2.1)
 have hc : ∀ (j : Nat) (u : Value), ([I_ q.t, I_ q.room, .slice a l c] : List Value)[j]? = some u -> (w.alloc (.cells #[I_ q.t, I_ q.room, .slice a l c] 113)).cell? ((⟨w.heap.size, 0, none⟩ : Addr).add j) = some u := fun j u hu => by
  rw [show (⟨w.heap.size, 0, none⟩ : Addr).add j = ⟨w.heap.size, j, none⟩ by unfold Addr.add; by_cases h : j = 0 <;> simp [h]]
  exact Zb (B_ w _) j u (by simpa using hu)
 obtain ⟨v', w', hrun, ho, hg, _, hat⟩ := run_append_own_at (P := Tryz.prog) (w.alloc (.cells #[I_ q.t, I_ q.room, .slice a l c] 113)) 0 108 ty 113 ie _ 3 40 Tryz.underlying108 hi hz0 hz1 hz2 rfl (by decide) vC s.C.length (qcs s.C vs) o1 ⟨w.heap.size, 0, none⟩ 1 1 [I_ q.t, I_ q.room, .slice a l c] rfl hc (by intro u hu; simp at hu; rcases hu with rfl | rfl | rfl <;> rfl) (by unfold maxLen; omega) (by omega) (Nat.zero_le _)
 have hg' : w.grownBy w' vC.ownBlock := ⟨hg.os, hg.tape, hg.output, Nat.le_trans hb.size hg.size, fun k hk hne => (hg.block k (Nat.lt_of_lt_of_le hk hb.size) hne).trans (hb.block k hk)⟩
 have hf : ∀ k, v'.ownBlock = some k -> vC.ownBlock = some k ∨ w.heap.size <= k := fun k hk => by
  rcases hat with e | e
  · exact .inl (e.symm.trans hk)
  · rw [e] at hk
    right
    have := Option.some.inj hk
    simp at this
    omega
 have hgb := (hg'.block g (Ze h.at_) (fun e => Zu h.ch h.at_ (by decide) e.symm)).trans h.at_
 obtain ⟨a', c', e, _⟩ := Zl ho
 exact ⟨v', w', hrun, ⟨_, _, _, e⟩, Zc hgb _, Zb hgb 2 _ rfl, hf, h.chanA q oq fq hg' ho hf hl hr⟩
end
theorem zeroT_of {t : Int} (h : badT t = false) : Yf t = t := by
 unfold badT Yf at *
 split
 · rfl
 · rename_i h1
   rw [if_neg h1] at h
   simp at h
def zz (ps : List Int) : List V3 := ps.map fun t => (t, 0, 0)
def cz (cs : List (Int × Int)) : List Qu := cs.map fun c => ⟨c.1, c.2, []⟩
theorem take_snoc {α : Type} (l : List α) (k : Nat) (d : α) (h : k < l.length) : l.take (k + 1) = l.take k ++ [l.getD k d] := by
 rw [List.take_add_one, List.getElem?_eq_getElem h, List.getD_eq_getElem?_getD, List.getElem?_eq_getElem h]
 rfl
theorem any_at {α : Type} {l : List α} {f : α -> Bool} (h : l.any f = false) (k : Nat) (d : α) (hk : k < l.length) : f (l.getD k d) = false := by
 rw [List.any_eq_false] at h
 rw [List.getD_eq_getElem?_getD, List.getElem?_eq_getElem hk]
 simpa using h l[k] (List.getElem_mem hk)
theorem Mk.of {w wc : World} {g : Nat} {s : St} {F F' : Nat -> Prop} {wd : World} (hF : ∀ k, F k -> w.heap.size <= k) (hb : Below w.heap.size w wc) (h : Stt wd F' g s) (c : Ch F F' wc wd) : Mk w wd g s :=
 ⟨F', h, c.low hF hb.size, hb.trans (c.bel hF hb.size)⟩
end Go.Proofs.YtfojninaginnoaaGreatDoor.Ck
