/- The contracts of New, Copy, Len, and of the words' row. -/
import Derived.Test.YtejhhkhaoekkiaaDoorTake
namespace Go.Proofs.YtejhhkhaoekkiaaDoor.Ck
open Go.RowKit

def st0 : List Value := stc start8 (List.replicate 64 0) 0
theorem build_state (w : World) : (Instr.build 57 #[(0, .agg #[.int .u32 1779033703, .int .u32 3144134277, .int .u32 1013904242, .int .u32 2773480762, .int .u32 1359893119, .int .u32 2600822924, .int .u32 528734635, .int .u32 1541459225])]).run Tryd.prog w = .ok (.agg st0.toArray) w := by kernel_rfl

theorem wpList_buildS {w : World} {ops : Array Oper} {rest : List Oper} {o : Oper} {a : Act} {Q : Exit → Act → World → Prop} (x : Operand) (hgd : o.guard = none) (ho : o.op = .build 57 #[(0, x)])
    (hx : a.eval x = .agg #[.int .u32 1779033703, .int .u32 3144134277, .int .u32 1013904242, .int .u32 2773480762, .int .u32 1359893119, .int .u32 2600822924, .int .u32 528734635, .int .u32 1541459225]) (h : wpList Tryd.prog ops Q rest (a.put o.dst (.agg st0.toArray)) w) : wpList Tryd.prog ops Q (o :: rest) a w :=
  wpList_val hgd _ w (by
    unfold execOp
    simp only [ho, List.map_toArray, List.map_cons, List.map_nil, hx, build_state, Sem.run_bind, Sem.run_pure, Result.andThen_ok]) h

set_option maxRecDepth 20000 in
set_option maxHeartbeats 1000000 in
theorem new_any (w : World) : Calls Tryd.prog 8 #[] w fun e w' => e = .returned (.pointer (some ⟨w.heap.size, 0, none⟩)) ∧ St w' w.heap.size [] ∧ Below w.heap.size w w' := by
  go_enter Tryd.func8, Tryd.ntmps8
  go_wp2_with (first | (refine wpList_buildS (.tmp 1) rfl rfl rfl ?_) | (refine wpList_box 57 (.tmp 2) st0 rfl rfl rfl ?_; intro w2 g2 e2 b2 hb2 s2))
  go_ret
  rw [← e2.out]
  refine ⟨rfl, ⟨List.replicate 64 0, ⟨by simp, fun z hz => by rw [List.eq_of_mem_replicate hz]; decide, fun i hi => absurd hi (Nat.not_lt_zero _)⟩, b2⟩, by rw [e2.out]; exact hb2⟩

set_option maxRecDepth 20000 in
set_option maxHeartbeats 1000000 in
theorem copy_any (g : Nat) (m : List Int) (w : World) (hs : St w g m) :
    Calls Tryd.prog 12 #[.pointer (some ⟨g, 0, none⟩)] w fun e w' => ∃ g', e = .returned (.pointer (some ⟨g', 0, none⟩)) ∧ St w' g' m ∧ w.heap.size ≤ g' ∧ Below w.heap.size w w' := by
  obtain ⟨Bf, hT, hB⟩ := hs
  have hsz : Hid ((Tryd.prog.info? 57).map (·.size) = some (stc (hashB m (m.length / 64)) Bf m.length).length) := by show _ = _; rw [stc_len _ _ _ (hashB_len _ _) hT.1]; exact info59
  have hl0 : Hid (zero73.length = (stc (hashB m (m.length / 64)) Bf m.length).length) := by show _ = _; rw [stc_len _ _ _ (hashB_len _ _) hT.1]; rfl
  have h1 := hide (stc_one (hashB m (m.length / 64)) Bf m.length)
  have hT := hide hT
  generalize ecs : stc (hashB m (m.length / 64)) Bf m.length = cs at *
  have Ecs := hide ecs
  clear ecs
  go_enter Tryd.func12, Tryd.ntmps12
  go_wp2_with (first | (refine wpList_load_mid rfl 57 (.tmp 5) rfl g 0 rfl cs _ (hB.range 0 _ (fun j _ => by rw [Nat.zero_add])) Tryd.underlying57 rfl hsz.out ?_) | (refine wpList_new 57 _ zero59 3 rfl rfl rfl ?_; intro w2 g2 e2 b2 hb2 s2) | (refine wpList_lay 57 (.tmp 3) (.tmp 6) g2 57 _ cs b2 hl0.out hsz.out h1.out rfl rfl rfl rfl ?_; intro w3 b3 t3 s3))
  go_ret
  exact ⟨g2, rfl, ⟨Bf, hT.out, by rw [Ecs.out]; exact b3⟩, by rw [e2.out]; exact Nat.le_refl _, bel_tn hb2 t3 (by rw [e2.out]; exact Nat.le_refl _)⟩

def fillR (H : List Int) (k : Nat) : List Value := bv ((rowB H).take k) ++ List.replicate (32 - k) (.int .u8 0)
theorem rowB_at (H : List Int) (k : Nat) (h : k < 32) : (rowB H)[k]? = some ((H.getD (k / 4) 0) / 2 ^ (24 - k % 4 * 8) % 256) := by simp [rowB, h]
theorem fillR_len (H : List Int) (k : Nat) (h : k ≤ 32) : (fillR H k).length = 32 := by simp [fillR, bv_len, rowB_len]; omega
theorem fillR_set (H : List Int) (k : Nat) (h : k < 32) : (fillR H k).set k (.int .u8 ((H.getD (k / 4) 0) / 2 ^ (24 - k % 4 * 8) % 256)) = fillR H (k + 1) := by
  have hl : (bv ((rowB H).take k)).length = k := by simp [bv_len, rowB_len]; omega
  have e : (rowB H).take (k + 1) = (rowB H).take k ++ [(H.getD (k / 4) 0) / 2 ^ (24 - k % 4 * 8) % 256] := by rw [List.take_add_one, rowB_at H k h]; rfl
  unfold fillR
  rw [List.set_append_right _ _ (by omega), hl, Nat.sub_self, e, show 32 - k = (32 - (k + 1)) + 1 by omega, List.replicate_succ]
  simp [bv]

set_option maxRecDepth 20000 in
set_option maxHeartbeats 1000000 in
theorem row_any (g : Nat) (t : TypeId) (H : List Int) (rest : List Value) (hH : H.length = 8) (w : World) (hs : Blk w g t (wv H ++ rest)) :
    Calls Tryd.prog 25 #[.pointer (some ⟨g, 0, none⟩)] w fun e w' => e = .returned (.agg (bv (rowB H)).toArray) ∧ Below w.heap.size w w' := by
  have HH := hide hH
  clear hH
  go_enter Tryd.func25, Tryd.ntmps25
  go_wp2_with (first | (refine wpList_new 37 _ zero37 2 rfl rfl rfl ?_; intro w2 g2 e2 b2 hb2 s2) | (refine wpList_new 37 _ zero37 3 rfl rfl rfl ?_; intro w3 g3 e3 b3 hb3 s3))
  have hne : Hid (g ≠ g3 ∧ g2 ≠ g3 ∧ w.heap.size ≤ g3 ∧ w.heap.size ≤ g2) := by
    have := e2.out; have := e3.out; have := s2.out; have := hs.lt
    refine ⟨?_, ?_, ?_, ?_⟩ <;> omega
  have hb := bel_trans hb2 hb3
  have hs := hs.bel hb
  have b2 := b2.bel hb3
  have b3 : Blk w3 g3 37 (fillR H 0) := b3
  clear hb2 hb3 e2 e3 s2 s3
  go_loopw [5] (fun i wr => ∃ k : Nat, k ≤ 32 ∧ i = .int .i64 k ∧ Blk wr g t (wv H ++ rest) ∧ Blk wr g2 37 (List.replicate 32 (.int .u8 0)) ∧ Blk wr g3 37 (fillR H k) ∧ Below w.heap.size w wr) (fun i _ => 32 - (intOf i).toNat)
  case atStart => exact ⟨0, Nat.zero_le _, rfl, hs, b2, b3, hb⟩
  case round =>
    obtain ⟨k, hk, rfl, c1, c2, c3, hb⟩ := hrel
    by_cases hlt : k < 32
    · have q0 := c1.cell (k / 4)
      rw [List.getElem?_append_left (by rw [wv_len, HH.out]; omega), wv_at _ _ (by rw [HH.out]; omega)] at q0
      have q5 := c3.frozen k
      have i0 : (0 : Int) ≤ (k : Int) ∧ (k : Int) < 32 := by omega
      have q6 : ∃ v, wr.cell? ⟨g3, k, none⟩ = some v := by
        have := fillR_len H k (by omega)
        exact ⟨_, (c3.cell k).trans (List.getElem?_eq_getElem (by omega))⟩
      obtain ⟨v6, q6⟩ := q6
      have T := c3.set k (.int .u8 ((H.getD (k / 4) 0) / 2 ^ (24 - k % 4 * 8) % 256))
      rw [fillR_set H k hlt] at T
      have T := hide T
      generalize H.getD (k / 4) 0 = x at *
      go_wp2_with fail
      go_roundw
      case rel => exact ⟨k + 1, by omega, by go_num, c1.tn T.out.2 hne.out.1, c2.tn T.out.2 hne.out.2.1, T.out.1, hb.trans (T.out.2.bel hne.out.2.2.1 hb.size)⟩
      case measure => simp [intOf]; omega
    · have e : k = 32 := by omega
      subst e
      have e32 : fillR H 32 = bv (rowB H) := by simp [fillR, ← rowB_len H]
      rw [e32] at c3
      have hsz : Hid ((Tryd.prog.info? 37).map (·.size) = some (bv (rowB H)).length) := by show _ = _; rw [bv_len, rowB_len]; exact info37
      have hl0 : Hid ((List.replicate 32 (Value.int .u8 0)).length = (bv (rowB H)).length) := by show _ = _; rw [bv_len, rowB_len]; rfl
      go_wp2_with (first | (refine wpList_load_mid rfl 37 (.tmp 3) rfl g3 0 rfl (bv (rowB H)) _ (c3.range 0 _ (fun j _ => by rw [Nat.zero_add])) Tryd.underlying37 rfl hsz.out ?_) | (refine wpList_lay 37 (.tmp 2) (.tmp 23) g2 37 _ (bv (rowB H)) c2 hl0.out hsz.out (bv_one _) rfl rfl rfl rfl ?_; intro w9 d2 t2 s2))
      refine ret_row g2 37 (bv (rowB H)) rfl rfl d2 Tryd.underlying37 rfl hsz.out rfl ⟨rfl, hb.trans (t2.bel hne.out.2.2.2 hb.size)⟩

end Go.Proofs.YtejhhkhaoekkiaaDoor.Ck
