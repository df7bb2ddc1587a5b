/- Package order: an access is taken (finder.take). (Written by mk_o.py.) -/
import Derived.Test.YticgmebbnnmikaaDoorOg
namespace Go.Proofs.YticgmebbnnmikaaDoor.Ck
open Go.RowKit

def sp0 : Sp := ⟨fun _ => 0, fun _ => 0, false⟩
def putS (e : Ev) (at_ : Nat) (s : Sp) : Sp := if e.k = 2 then { s with wr := setS s.wr e.g.toNat at_ } else { s with rd := setS s.rd e.g.toNat at_ }
def takeM (T : List Ev) (ps : List Sn) (F : Int → Option Sp) (at_ : Nat) : Int × (Int → Option Sp) :=
  if ((F (T.getD at_ zE).o).getD sp1).ra = true then (-1, F) else
  (firstM T ps ((F (T.getD at_ zE).o).getD sp1) at_, up F (T.getD at_ zE).o (some (putS (T.getD at_ zE) at_ { (F (T.getD at_ zE).o).getD sp1 with ra := firstM T ps ((F (T.getD at_ zE).o).getD sp1) at_ != -1 })))
/-- the places' spots, as a map in memory -/
def MSp (w : World) (bm n : Nat) (F : Int → Option Sp) : Prop := VMap w bm n (spV sp0) (fun o => (F o).map spV)
theorem MSp.eq {w : World} {bm n : Nat} {F G : Int → Option Sp} (h : MSp w bm n F) (e : ∀ o, F o = G o) : MSp w bm n G := by
  have : F = G := funext e
  rw [← this]
  exact h
theorem MSp.keep {w w' : World} {bm n : Nat} {F : Int → Option Sp} (h : MSp w bm n F) (hb : w'.heap[bm]? = w.heap[bm]?) : MSp w' bm n F := VMap.keep h hb
theorem MSp.more {w : World} {bm n : Nat} {F : Int → Option Sp} (h : MSp w bm n F) : MSp w bm (n + 1) F := by
  obtain ⟨D, h1, h2⟩ := h
  exact ⟨D, h1.mono (Nat.le_succ _), h2⟩
theorem sp0_zero (w : World) : (zeroValue 115).run Tryd.prog w = .ok (spV sp0) w := by kernel_rfl
theorem MSp.look {w : World} {bm n : Nat} {F : Int → Option Sp} (h : MSp w bm n F) {x : Int} (hx : wfI x) : (Instr.lookup 91 (.map (some bm)) (.int .i64 x) true).run Tryd.prog w = .ok (.tuple #[spV ((F x).getD sp0), .bool (F x).isSome]) w := by
  have := VMap.look_ok h Tryd.underlying91 (sp0_zero w) hx
  rw [this]
  cases F x <;> rfl
theorem MSp.put {w : World} {bm n : Nat} {F : Int → Option Sp} (h : MSp w bm n F) (hn : n < maxLen) {x : Int} (hx : wfI x) (s : Sp) : ∃ w', (Instr.mapUpdate 91 (.map (some bm)) (.int .i64 x) (.agg (spC s))).run Tryd.prog w = .ok () w' ∧ MSp w' bm (n + 1) (up F x (some s)) ∧ w.grownBy w' (some bm) := by
  obtain ⟨w', h1, h2, h3⟩ := VMap.put h hn Tryd.underlying91 hx (spV s)
  refine ⟨w', h1, ?_, h3⟩
  unfold MSp
  have e : (fun o => (up F x (some s) o).map spV) = up (fun o => (F o).map spV) x (some (spV s)) := by
    funext y
    unfold up
    split <;> rfl
  rw [e]
  exact h2
theorem spC_ra (s : Sp) (r : Bool) : (spC s).setIfInBounds 16 (.bool r) = spC { s with ra := r } := rfl
theorem spC_setW (s : Sp) (g : Nat) (hg : g < 8) (x : Int) : (spC s).setIfInBounds (8 + g) (.int .i64 x) = spC { s with wr := setS s.wr g x } := by
  rcases (by omega : g = 0 ∨ g = 1 ∨ g = 2 ∨ g = 3 ∨ g = 4 ∨ g = 5 ∨ g = 6 ∨ g = 7) with rfl | rfl | rfl | rfl | rfl | rfl | rfl | rfl <;> rfl
theorem spC_setR (s : Sp) (g : Nat) (hg : g < 8) (x : Int) : (spC s).setIfInBounds g (.int .i64 x) = spC { s with rd := setS s.rd g x } := by
  rcases (by omega : g = 0 ∨ g = 1 ∨ g = 2 ∨ g = 3 ∨ g = 4 ∨ g = 5 ∨ g = 6 ∨ g = 7) with rfl | rfl | rfl | rfl | rfl | rfl | rfl | rfl <;> rfl
theorem exec_load_row {P : Program} {a : Act} {op : Oper} {w : World} (ty : TypeId) (x : Operand) (ho : op.op = .load ty x) (g : Nat) (hx : a.eval x = .pointer (some ⟨g, 0, none⟩)) (t : TypeId) (cs : Array Value) (fr : Nat × Nat) (d : TypeDesc) (hg : w.heap[g]? = some (.cells cs t fr))
    (hu : P.underlying ty = some d) (hd : (match d with | .struct _ | .array _ _ => true | _ => false) = true) (hi : (P.info? ty).map (·.size) = some cs.size) : (execOp a.eval op).run P w = .ok (.value (.agg cs)) w := by
  unfold execOp
  simp only [ho, hx, Instr.loadAt, Instr.sureAddr, Sem.run_bind, Sem.run_pure, Result.andThen_ok, run_loadVar_row w g t ty cs fr d hg hu hd hi]
theorem bel_row {B : Nat} {a w : World} (h : Below B a w) {g : Nat} (hg : B ≤ g) (cs : Array Value) : Below B a (w.setRow g cs) :=
  ⟨h.os, h.tape, h.output, by rw [setRow_size]; exact h.size, fun k hk => (setRow_other _ _ _ _ (by omega)).trans (h.block k hk)⟩
set_option maxRecDepth 20000 in
set_option maxHeartbeats 2000000 in
theorem take_any {w : World} {bf bm n : Nat} {vT vP : Value} {T : List Ev} {ps : List Sn} {F : Int → Option Sp} (h : Fi w bf vT vP T ps) (hm : w.cell? ⟨bf, 2, none⟩ = some (.map (some bm))) (hV : MSp w bm n F) (hn : n < maxLen) (at_ : Nat) (ha : at_ < T.length) (hW : wfI (T.getD at_ zE).o) (hF : ∀ o s, F o = some s → SpOk s at_) :
    Calls Tryd.prog 42 #[.pointer (some ⟨bf, 0, none⟩), .int .i64 (at_ : Nat)] w (fun e w' => e = .returned (.int .i64 (takeM T ps F at_).1) ∧ MSp w' bm (n + 1) (takeM T ps F at_).2 ∧ w.grownBy w' (some bm)) := by
  obtain ⟨aT, cT, eT, _, _⟩ := h.tr.form
  obtain ⟨bT, off, eA, hbT, t0, t1, t2, t3⟩ := (show SlE w (.slice aT T.length cT) T by rw [← eT]; exact h.tr).at at_ ha
  subst eA
  have f0 := h.f0
  rw [eT] at f0
  have H0 := hide h
  have HF := hide hF
  have HM := hide hm
  have HV := hide hV
  have hf := evB_out (h.ok at_ ha)
  have hat : (at_ : Int) < (T.length : Int) := by omega
  have TK : Hid (takeM T ps F at_ = if ((F (T.getD at_ zE).o).getD sp1).ra = true then (-1, F) else (firstM T ps ((F (T.getD at_ zE).o).getD sp1) at_, up F (T.getD at_ zE).o (some (putS (T.getD at_ zE) at_ { (F (T.getD at_ zE).o).getD sp1 with ra := firstM T ps ((F (T.getD at_ zE).o).getD sp1) at_ != -1 })))) := hide rfl
  generalize T.getD at_ zE = ev at *
  obtain ⟨eg, ek, eo, ea⟩ := ev
  obtain ⟨g, rfl⟩ : ∃ g : Nat, eg = g := ⟨eg.toNat, by have := hf.1; simp at this; omega⟩
  have hg : g < 8 := by have := hf.2.1; simp at this; omega
  have HW := hide (show wfI eo from hW)
  simp only at t0 t1 t2 t3
  clear h hm hV hF hf hW eT
  go_enter Tryd.func42, Tryd.ntmps42
  go_upto_region 2 with fail
  generalize hw1 : w.alloc (.cells #[.int .i64 (g : Nat), .int .i64 ek, .int .i64 eo, .int .i64 ea] 47) = w1
  have hs1 : w1.heap.size = w.heap.size + 1 := by rw [← hw1]; simp
  have B1 : Hid (Below w.heap.size w w1) := hide (by rw [← hw1]; exact bel_new w _)
  have ez : w1.heap[w.heap.size]? = some (.cells #[.int .i64 (g : Nat), .int .i64 ek, .int .i64 eo, .int .i64 ea] 47 (0, 0)) := by rw [← hw1]; exact Go.Deep.blk_alloc_new w _
  have EZ := hide ez
  obtain ⟨s0, hs0⟩ : ∃ q, q = (F eo).getD sp0 := ⟨_, rfl⟩
  have KS := hide (fun wz (hz : Below w1.heap.size w1 wz) => (show wz.cell? ⟨bf, 2, none⟩ = some (.map (some bm)) ∧ wz.cell? ⟨w.heap.size, 2, none⟩ = some (.int .i64 eo) ∧ (Instr.lookup 91 (.map (some bm)) (.int .i64 eo) true).run Tryd.prog wz = .ok (.tuple #[spV s0, .bool (F eo).isSome]) wz from by
    have hz0 := B1.out.trans (hz.mono B1.out.size)
    refine ⟨(hz0.cell (p := ⟨bf, 2, none⟩) (World.block_lt_of_cell? w _ HM.out)).trans HM.out, blk_cell ((hz.block _ (by omega)).trans EZ.out) 2 _ rfl, ?_⟩
    rw [hs0]
    exact (HV.out.keep (hz0.block bm (VMap.lt HV.out))).look HW.out))
  have HS0 := hide hs0
  have HS1 := hide hs1
  clear hw1 ez t0 t1 t2 t3 f0 hbT hs0 hs1
  generalize hk9 : (F eo).isSome = known at *
  have HK9 := hide hk9
  clear hk9
  refine wp_region_T (S := fun wz => wz.cell? ⟨bf, 2, none⟩ = some (.map (some bm)) ∧ wz.cell? ⟨w.heap.size, 2, none⟩ = some (.int .i64 eo) ∧ (Instr.lookup 91 (.map (some bm)) (.int .i64 eo) true).run Tryd.prog wz = .ok (.tuple #[spV s0, .bool known]) wz) (fun _ => true) mixed (KS.out _ (Below.refl _ _).drew) (fun hH => ?_)
  refine Tm 0 ?_
  simp only [Act.put, SA]
  refine Tm 1 ?_
  simp only [Act.put, SA]
  refine Tm 2 ?_
  simp only [Act.put, SA]
  refine Tl 3 (v := ?_) ?_ hH ?_
  rotate_left 1
  · (intro wy hSw; have q := hSw.1; clear hSw; go_simp <;> with_reducible rfl)
  simp only [Act.put, SA]
  refine Tm 4 ?_
  simp only [Act.put, SA]
  refine Tl 5 (v := ?_) ?_ hH ?_
  rotate_left 1
  · (intro wy hSw; have q := hSw.2.1; clear hSw; go_simp <;> with_reducible rfl)
  simp only [Act.put, SA]
  refine Tl 6 (v := ?_) ?_ hH ?_
  rotate_left 1
  · (intro wy hSw; have q := hSw.2.2; clear hSw; go_simp <;> with_reducible rfl)
  simp only [Act.put, SA]
  refine Tm 7 ?_
  simp only [Act.put, SA]
  refine Tm 8 ?_
  simp only [Act.put, SA]
  refine Tm 9 ?_
  simp only [Act.put, SA]
  refine Tr 10 (fun K1 hK1 => ?_)
  go_simp
  have B2 := hide ((Below.refl w1.heap.size w1).drew.alloc (Nat.le_refl _) (.cells (spC sp0) 115))
  have Z2 := hide (show (w1.drew.alloc (.cells (spC sp0) 115)).heap[w1.heap.size]? = some (.cells (spC sp0) 115 (0, 0)) from Go.Deep.blk_alloc_new w1.drew _)
  refine hK1.out _ _ (fun _ => KS.out _ B2.out) (fun _ => ?_)
  clear hK1 K1 hH
  refine Tr 11 (fun K1 hK1 => ?_)
  rw [if_pos (by rfl)]
  refine wp_store_row 115 (.tmp 6) (.tmp 24) rfl w1.heap.size (spC s0) rfl rfl _ _ Z2.out (spC_info s0) rfl (spC_one s0) ?_
  have B3 := hide (bel_row B2.out (Nat.le_refl _) (spC s0))
  have Z3 := hide (setRow_heap _ _ _ (spC s0) _ _ Z2.out)
  refine hK1.out _ _ (fun _ => KS.out _ B3.out) (fun _ => ?_)
  clear hK1 K1 B2 Z2
  refine Tm 12 ?_
  simp only [Act.put, SA]
  refine T_done (by kernel_rfl) ?_ _
  generalize hw3 : (w1.alloc (.cells #[.int .i64 0, .int .i64 0, .int .i64 0, .int .i64 0, .int .i64 0, .int .i64 0, .int .i64 0, .int .i64 0, .int .i64 0, .int .i64 0, .int .i64 0, .int .i64 0, .int .i64 0, .int .i64 0, .int .i64 0, .int .i64 0, .bool false] 115)).drew.setRow w1.heap.size (spC s0) = w3
  have B3 : Hid (Below w1.heap.size w1 w3) := by rw [← hw3]; exact B3
  have Z3 : Hid (w3.heap[w1.heap.size]? = some (.cells (spC s0) 115 (0, 0))) := by rw [← hw3]; exact Z3
  clear hw3
  have hk0 := HK9.out
  clear HK9
  cases known with
  | true =>
    have E1 : Hid (s0 = (F eo).getD sp1) := hide (by
      rw [HS0.out]
      cases hF : F eo with
      | none => rw [hF] at hk0; cases hk0
      | some q => rfl)
    have z3 := Z3.out
    clear HS0 hk0
    go_upto_region 5 with fail
    have SK : Hid (SpOk s0 at_) := hide (by
      rw [E1.out]
      cases hF : F eo with
      | none => exact fun i _ => ⟨.inl rfl, .inl rfl⟩
      | some q => exact HF.out eo q hF)
    have TK2 := TK
    try simp only at TK2
    rw [← E1.out] at TK2
    have c16 : w3.cell? ⟨w1.heap.size, 16, none⟩ = some (.bool s0.ra) := blk_cell z3 16 _ rfl
    have f16 := blk_frz z3 16
    cases hra : s0.ra with
    | true =>
      rw [hra] at TK2 c16
      have e9 : Hid (takeM T ps F at_ = (-1, F)) := TK2
      clear z3 TK2 TK
      go_wp2_with fail
      go_ret
      have BA := B1.out.trans (B3.out.mono B1.out.size)
      rw [e9.out]
      exact ⟨rfl, (HV.out.keep (BA.block bm (VMap.lt HV.out))).more, ⟨BA.os, BA.tape, BA.output, BA.size, fun i hi _ => BA.block i hi⟩⟩
    | false =>
      rw [hra] at TK2 c16
      have e9 : Hid (takeM T ps F at_ = (firstM T ps s0 at_, up F eo (some (putS ⟨(g : Nat), ek, eo, ea⟩ at_ { s0 with ra := firstM T ps s0 at_ != -1 })))) := TK2
      have FA := hide (first_any (H0.out.bel (B1.out.trans (B3.out.mono B1.out.size))) s0 at_ ha SK.out)
      clear TK2 TK
      go_upto_region 8 with (first | (refine wpList_load_row rfl 115 (.tmp 6) rfl w1.heap.size rfl _ _ _ _ z3 Tryd.underlying115 rfl (spC_info _) ?_) | (go_at_call 54; refine FA.out.mono ?_; rintro e w5 ⟨rfl, b5⟩; have B5 := hide b5))
      have z5 := (B5.out.block _ (lt_of_blk Z3.out)).trans Z3.out
      have B6 := hide (B3.out.trans (B5.out.mono B3.out.size))
      have c16 : w5.cell? ⟨w1.heap.size, 16, none⟩ = some (.bool false) := by rw [← hra]; exact blk_cell z5 16 _ rfl
      have f16 := blk_frz z5 16
      have HR := hide hra
      obtain ⟨fi, hfi⟩ : ∃ q, q = firstM T ps s0 at_ := ⟨_, rfl⟩
      rw [← hfi] at e9 ⊢
      have Z5 := hide z5
      clear FA B5 z3 b5 z5 hra hfi
      go_upto_region 9 with fail
      have E5 := hide (heap_setCell_same w5 w1.heap.size 16 _ _ (.bool (fi != -1)) Z5.out)
      rw [spC_ra] at E5
      have B7 := hide (B6.out.setCell (p := ⟨w1.heap.size, 16, none⟩) (Nat.le_refl _) (.bool (fi != -1)))
      clear c16 f16
      generalize w5.setCell ⟨w1.heap.size, 16, none⟩ (.bool (fi != -1)) = w6 at *
      obtain ⟨s6, hs6⟩ : ∃ q : Sp, q = { s0 with ra := fi != -1 } := ⟨_, rfl⟩
      rw [← hs6] at e9 E5
      have k6 := (B7.out.block _ (by have := HS1.out; omega)).trans EZ.out
      have k0 := blk_cell k6 0 _ rfl
      have k1 := blk_cell k6 1 _ rfl
      have hg9 : (g : Int) < 8 := by omega
      clear k6 hs6 B6 Z5 B3 Z3 H0 HF SK KS
      by_cases h2 : ek = 2
      · have h2' : (ek == 2) = true := by simpa using h2
        have c1 := blk_cell E5.out (8 + g) _ (spC_wr s6 g hg)
        have f1 := blk_frz E5.out (8 + g)
        have P2 : Hid (putS ⟨(g : Nat), ek, eo, ea⟩ at_ s6 = { s6 with wr := setS s6.wr g at_ }) := hide (by unfold putS; simp only; rw [if_pos h2, Int.toNat_natCast])
        clear h2
        go_upto_region 12 with fail
        have E7 := hide (heap_setCell_same w6 w1.heap.size (8 + g) _ _ (.int .i64 (at_ : Nat)) E5.out)
        rw [spC_setW s6 g hg, ← P2.out] at E7
        have B8 := hide (B7.out.setCell (p := ⟨w1.heap.size, 8 + g, none⟩) (Nat.le_refl _) (.int .i64 (at_ : Nat)))
        clear c1 f1 k0 k1 P2 B7 E5 h2'
        generalize w6.setCell ⟨w1.heap.size, 8 + g, none⟩ (.int .i64 (at_ : Nat)) = w7 at *
        obtain ⟨s9, hs9⟩ : ∃ q, q = putS ⟨(g : Nat), ek, eo, ea⟩ at_ s6 := ⟨_, rfl⟩
        rw [← hs9] at E7 e9
        have BA := hide (B1.out.trans (B8.out.mono B1.out.size))
        obtain ⟨w9, hrun, hV9, hg9'⟩ := MSp.put (w := w7.drew) (HV.out.keep (BA.out.drew.block bm (VMap.lt HV.out))) hn HW.out s9
        have V9 := hide hV9
        have G9 := hide hg9'
        have q0 := (BA.out.drew.cell (p := ⟨bf, 2, none⟩) (World.block_lt_of_cell? w _ HM.out)).trans HM.out
        have q1 := blk_cell ((B8.out.drew.block _ (by have := HS1.out; omega)).trans EZ.out) 2 _ rfl
        clear hs9 hV9 hg9' hg9
        refine wp_region_T (S := fun wz => wz.cell? ⟨bf, 2, none⟩ = some (.map (some bm)) ∧ wz.cell? ⟨w.heap.size, 2, none⟩ = some (.int .i64 eo) ∧ wz.heap[w1.heap.size]? = some (.cells (spC s9) 115 (0, 0))) (fun i => i != 7) mixed ⟨q0, q1, E7.out⟩ (fun hH => ?_)
        refine Tm 0 ?_
        simp only [Act.put, SA]
        refine Tm 1 ?_
        simp only [Act.put, SA]
        refine Tm 2 ?_
        simp only [Act.put, SA]
        refine Tl 3 (v := ?_) ?_ hH ?_
        rotate_left 1
        · (intro wy hSw; have q := hSw.1; clear hSw; go_simp <;> with_reducible rfl)
        simp only [Act.put, SA]
        refine Tm 4 ?_
        simp only [Act.put, SA]
        refine Tl 5 (v := ?_) ?_ hH ?_
        rotate_left 1
        · (intro wy hSw; have q := hSw.2.1; clear hSw; go_simp <;> with_reducible rfl)
        simp only [Act.put, SA]
        refine Tl 6 (v := ?_) ?_ hH ?_
        rotate_left 1
        · (intro wy hSw; refine exec_load_row 115 (.tmp 6) ?_ w1.heap.size ?_ _ (spC s9) _ _ hSw.2.2 Tryd.underlying115 rfl (spC_info s9) <;> rfl)
        simp only [Act.put, SA]
        refine Tr 7 (fun K1 hK1 => ?_)
        go_simp
        refine hK1.out _ _ (fun h => absurd h (by decide)) (fun _ => ?_)
        clear hK1 K1 hH hrun q0 q1
        refine T_done (by kernel_rfl) ?_ _
        go_wp2_with fail
        go_ret
        rw [e9.out]
        exact ⟨rfl, V9.out, ⟨G9.out.os.trans BA.out.os, G9.out.tape.trans BA.out.tape, G9.out.output.trans BA.out.output, Nat.le_trans BA.out.size G9.out.size, fun i hi hne => (G9.out.block i (Nat.lt_of_lt_of_le hi BA.out.size) hne).trans (BA.out.block i hi)⟩⟩
      · have h2' : (ek == 2) = false := by simpa using h2
        have c1 : w6.cell? ⟨w1.heap.size, g, none⟩ = some (.int .i64 (s6.rd g)) := by have := blk_cell E5.out (0 + g) _ (spC_rd s6 g hg); rwa [Nat.zero_add] at this
        have f1 := blk_frz E5.out g
        have P2 : Hid (putS ⟨(g : Nat), ek, eo, ea⟩ at_ s6 = { s6 with rd := setS s6.rd g at_ }) := hide (by unfold putS; simp only; rw [if_neg h2, Int.toNat_natCast])
        clear h2
        go_upto_region 12 with fail
        have E7 := hide (heap_setCell_same w6 w1.heap.size g _ _ (.int .i64 (at_ : Nat)) E5.out)
        rw [spC_setR s6 g hg, ← P2.out] at E7
        have B8 := hide (B7.out.setCell (p := ⟨w1.heap.size, g, none⟩) (Nat.le_refl _) (.int .i64 (at_ : Nat)))
        clear c1 f1 k0 k1 P2 B7 E5 h2'
        generalize w6.setCell ⟨w1.heap.size, g, none⟩ (.int .i64 (at_ : Nat)) = w7 at *
        obtain ⟨s9, hs9⟩ : ∃ q, q = putS ⟨(g : Nat), ek, eo, ea⟩ at_ s6 := ⟨_, rfl⟩
        rw [← hs9] at E7 e9
        have BA := hide (B1.out.trans (B8.out.mono B1.out.size))
        obtain ⟨w9, hrun, hV9, hg9'⟩ := MSp.put (w := w7.drew) (HV.out.keep (BA.out.drew.block bm (VMap.lt HV.out))) hn HW.out s9
        have V9 := hide hV9
        have G9 := hide hg9'
        have q0 := (BA.out.drew.cell (p := ⟨bf, 2, none⟩) (World.block_lt_of_cell? w _ HM.out)).trans HM.out
        have q1 := blk_cell ((B8.out.drew.block _ (by have := HS1.out; omega)).trans EZ.out) 2 _ rfl
        clear hs9 hV9 hg9' hg9
        refine wp_region_T (S := fun wz => wz.cell? ⟨bf, 2, none⟩ = some (.map (some bm)) ∧ wz.cell? ⟨w.heap.size, 2, none⟩ = some (.int .i64 eo) ∧ wz.heap[w1.heap.size]? = some (.cells (spC s9) 115 (0, 0))) (fun i => i != 7) mixed ⟨q0, q1, E7.out⟩ (fun hH => ?_)
        refine Tm 0 ?_
        simp only [Act.put, SA]
        refine Tm 1 ?_
        simp only [Act.put, SA]
        refine Tm 2 ?_
        simp only [Act.put, SA]
        refine Tl 3 (v := ?_) ?_ hH ?_
        rotate_left 1
        · (intro wy hSw; have q := hSw.1; clear hSw; go_simp <;> with_reducible rfl)
        simp only [Act.put, SA]
        refine Tm 4 ?_
        simp only [Act.put, SA]
        refine Tl 5 (v := ?_) ?_ hH ?_
        rotate_left 1
        · (intro wy hSw; have q := hSw.2.1; clear hSw; go_simp <;> with_reducible rfl)
        simp only [Act.put, SA]
        refine Tl 6 (v := ?_) ?_ hH ?_
        rotate_left 1
        · (intro wy hSw; refine exec_load_row 115 (.tmp 6) ?_ w1.heap.size ?_ _ (spC s9) _ _ hSw.2.2 Tryd.underlying115 rfl (spC_info s9) <;> rfl)
        simp only [Act.put, SA]
        refine Tr 7 (fun K1 hK1 => ?_)
        go_simp
        refine hK1.out _ _ (fun h => absurd h (by decide)) (fun _ => ?_)
        clear hK1 K1 hH hrun q0 q1
        refine T_done (by kernel_rfl) ?_ _
        go_wp2_with fail
        go_ret
        rw [e9.out]
        exact ⟨rfl, V9.out, ⟨G9.out.os.trans BA.out.os, G9.out.tape.trans BA.out.tape, G9.out.output.trans BA.out.output, Nat.le_trans BA.out.size G9.out.size, fun i hi hne => (G9.out.block i (Nat.lt_of_lt_of_le hi BA.out.size) hne).trans (BA.out.block i hi)⟩⟩
  | false =>
    have NS := hide (newSpot_any w3)
    have HE := hide hk0
    clear hk0
    go_wp2_with fail
    refine NS.out.mono ?_
    rintro e w4 ⟨rfl, b4⟩
    have z4 := (b4.block _ (lt_of_blk Z3.out)).trans Z3.out
    have B4 := hide (B3.out.trans (b4.mono B3.out.size))
    clear b4
    go_upto_region 5 with (first | (refine wpList_store_row rfl 115 (.tmp 6) (.tmp 28) rfl w1.heap.size (spC sp1) rfl rfl _ _ z4 (spC_info _) rfl (spC_one _) ?_))
    obtain ⟨s0, hs0⟩ : ∃ q, q = sp1 := ⟨_, rfl⟩
    have E1 : Hid (s0 = (F eo).getD sp1) := hide (by
      rw [hs0]
      have h9 := HE.out
      cases hF : F eo with
      | none => rfl
      | some q => rw [hF] at h9; cases h9)
    have z3 := setRow_heap _ _ _ (spC sp1) _ _ z4
    have B3 := hide (bel_row B4.out (Nat.le_refl _) (spC sp1))
    rw [← hs0] at z3 B3 ⊢
    have Z3 := hide z3
    clear hs0 z4 B4 NS
    generalize w4.setRow w1.heap.size (spC s0) = w3 at *
    have SK : Hid (SpOk s0 at_) := hide (by
      rw [E1.out]
      cases hF : F eo with
      | none => exact fun i _ => ⟨.inl rfl, .inl rfl⟩
      | some q => exact HF.out eo q hF)
    have TK2 := TK
    try simp only at TK2
    rw [← E1.out] at TK2
    have c16 : w3.cell? ⟨w1.heap.size, 16, none⟩ = some (.bool s0.ra) := blk_cell z3 16 _ rfl
    have f16 := blk_frz z3 16
    cases hra : s0.ra with
    | true =>
      rw [hra] at TK2 c16
      have e9 : Hid (takeM T ps F at_ = (-1, F)) := TK2
      clear z3 TK2 TK
      go_wp2_with fail
      go_ret
      have BA := B1.out.trans (B3.out.mono B1.out.size)
      rw [e9.out]
      exact ⟨rfl, (HV.out.keep (BA.block bm (VMap.lt HV.out))).more, ⟨BA.os, BA.tape, BA.output, BA.size, fun i hi _ => BA.block i hi⟩⟩
    | false =>
      rw [hra] at TK2 c16
      have e9 : Hid (takeM T ps F at_ = (firstM T ps s0 at_, up F eo (some (putS ⟨(g : Nat), ek, eo, ea⟩ at_ { s0 with ra := firstM T ps s0 at_ != -1 })))) := TK2
      have FA := hide (first_any (H0.out.bel (B1.out.trans (B3.out.mono B1.out.size))) s0 at_ ha SK.out)
      clear TK2 TK
      go_upto_region 8 with (first | (refine wpList_load_row rfl 115 (.tmp 6) rfl w1.heap.size rfl _ _ _ _ z3 Tryd.underlying115 rfl (spC_info _) ?_) | (go_at_call 54; refine FA.out.mono ?_; rintro e w5 ⟨rfl, b5⟩; have B5 := hide b5))
      have z5 := (B5.out.block _ (lt_of_blk Z3.out)).trans Z3.out
      have B6 := hide (B3.out.trans (B5.out.mono B3.out.size))
      have c16 : w5.cell? ⟨w1.heap.size, 16, none⟩ = some (.bool false) := by rw [← hra]; exact blk_cell z5 16 _ rfl
      have f16 := blk_frz z5 16
      have HR := hide hra
      obtain ⟨fi, hfi⟩ : ∃ q, q = firstM T ps s0 at_ := ⟨_, rfl⟩
      rw [← hfi] at e9 ⊢
      have Z5 := hide z5
      clear FA B5 z3 b5 z5 hra hfi
      go_upto_region 9 with fail
      have E5 := hide (heap_setCell_same w5 w1.heap.size 16 _ _ (.bool (fi != -1)) Z5.out)
      rw [spC_ra] at E5
      have B7 := hide (B6.out.setCell (p := ⟨w1.heap.size, 16, none⟩) (Nat.le_refl _) (.bool (fi != -1)))
      clear c16 f16
      generalize w5.setCell ⟨w1.heap.size, 16, none⟩ (.bool (fi != -1)) = w6 at *
      obtain ⟨s6, hs6⟩ : ∃ q : Sp, q = { s0 with ra := fi != -1 } := ⟨_, rfl⟩
      rw [← hs6] at e9 E5
      have k6 := (B7.out.block _ (by have := HS1.out; omega)).trans EZ.out
      have k0 := blk_cell k6 0 _ rfl
      have k1 := blk_cell k6 1 _ rfl
      have hg9 : (g : Int) < 8 := by omega
      clear k6 hs6 B6 Z5 B3 Z3 H0 HF SK KS
      by_cases h2 : ek = 2
      · have h2' : (ek == 2) = true := by simpa using h2
        have c1 := blk_cell E5.out (8 + g) _ (spC_wr s6 g hg)
        have f1 := blk_frz E5.out (8 + g)
        have P2 : Hid (putS ⟨(g : Nat), ek, eo, ea⟩ at_ s6 = { s6 with wr := setS s6.wr g at_ }) := hide (by unfold putS; simp only; rw [if_pos h2, Int.toNat_natCast])
        clear h2
        go_upto_region 12 with fail
        have E7 := hide (heap_setCell_same w6 w1.heap.size (8 + g) _ _ (.int .i64 (at_ : Nat)) E5.out)
        rw [spC_setW s6 g hg, ← P2.out] at E7
        have B8 := hide (B7.out.setCell (p := ⟨w1.heap.size, 8 + g, none⟩) (Nat.le_refl _) (.int .i64 (at_ : Nat)))
        clear c1 f1 k0 k1 P2 B7 E5 h2'
        generalize w6.setCell ⟨w1.heap.size, 8 + g, none⟩ (.int .i64 (at_ : Nat)) = w7 at *
        obtain ⟨s9, hs9⟩ : ∃ q, q = putS ⟨(g : Nat), ek, eo, ea⟩ at_ s6 := ⟨_, rfl⟩
        rw [← hs9] at E7 e9
        have BA := hide (B1.out.trans (B8.out.mono B1.out.size))
        obtain ⟨w9, hrun, hV9, hg9'⟩ := MSp.put (w := w7.drew) (HV.out.keep (BA.out.drew.block bm (VMap.lt HV.out))) hn HW.out s9
        have V9 := hide hV9
        have G9 := hide hg9'
        have q0 := (BA.out.drew.cell (p := ⟨bf, 2, none⟩) (World.block_lt_of_cell? w _ HM.out)).trans HM.out
        have q1 := blk_cell ((B8.out.drew.block _ (by have := HS1.out; omega)).trans EZ.out) 2 _ rfl
        clear hs9 hV9 hg9' hg9
        refine wp_region_T (S := fun wz => wz.cell? ⟨bf, 2, none⟩ = some (.map (some bm)) ∧ wz.cell? ⟨w.heap.size, 2, none⟩ = some (.int .i64 eo) ∧ wz.heap[w1.heap.size]? = some (.cells (spC s9) 115 (0, 0))) (fun i => i != 7) mixed ⟨q0, q1, E7.out⟩ (fun hH => ?_)
        refine Tm 0 ?_
        simp only [Act.put, SA]
        refine Tm 1 ?_
        simp only [Act.put, SA]
        refine Tm 2 ?_
        simp only [Act.put, SA]
        refine Tl 3 (v := ?_) ?_ hH ?_
        rotate_left 1
        · (intro wy hSw; have q := hSw.1; clear hSw; go_simp <;> with_reducible rfl)
        simp only [Act.put, SA]
        refine Tm 4 ?_
        simp only [Act.put, SA]
        refine Tl 5 (v := ?_) ?_ hH ?_
        rotate_left 1
        · (intro wy hSw; have q := hSw.2.1; clear hSw; go_simp <;> with_reducible rfl)
        simp only [Act.put, SA]
        refine Tl 6 (v := ?_) ?_ hH ?_
        rotate_left 1
        · (intro wy hSw; refine exec_load_row 115 (.tmp 6) ?_ w1.heap.size ?_ _ (spC s9) _ _ hSw.2.2 Tryd.underlying115 rfl (spC_info s9) <;> rfl)
        simp only [Act.put, SA]
        refine Tr 7 (fun K1 hK1 => ?_)
        go_simp
        refine hK1.out _ _ (fun h => absurd h (by decide)) (fun _ => ?_)
        clear hK1 K1 hH hrun q0 q1
        refine T_done (by kernel_rfl) ?_ _
        go_wp2_with fail
        go_ret
        rw [e9.out]
        exact ⟨rfl, V9.out, ⟨G9.out.os.trans BA.out.os, G9.out.tape.trans BA.out.tape, G9.out.output.trans BA.out.output, Nat.le_trans BA.out.size G9.out.size, fun i hi hne => (G9.out.block i (Nat.lt_of_lt_of_le hi BA.out.size) hne).trans (BA.out.block i hi)⟩⟩
      · have h2' : (ek == 2) = false := by simpa using h2
        have c1 : w6.cell? ⟨w1.heap.size, g, none⟩ = some (.int .i64 (s6.rd g)) := by have := blk_cell E5.out (0 + g) _ (spC_rd s6 g hg); rwa [Nat.zero_add] at this
        have f1 := blk_frz E5.out g
        have P2 : Hid (putS ⟨(g : Nat), ek, eo, ea⟩ at_ s6 = { s6 with rd := setS s6.rd g at_ }) := hide (by unfold putS; simp only; rw [if_neg h2, Int.toNat_natCast])
        clear h2
        go_upto_region 12 with fail
        have E7 := hide (heap_setCell_same w6 w1.heap.size g _ _ (.int .i64 (at_ : Nat)) E5.out)
        rw [spC_setR s6 g hg, ← P2.out] at E7
        have B8 := hide (B7.out.setCell (p := ⟨w1.heap.size, g, none⟩) (Nat.le_refl _) (.int .i64 (at_ : Nat)))
        clear c1 f1 k0 k1 P2 B7 E5 h2'
        generalize w6.setCell ⟨w1.heap.size, g, none⟩ (.int .i64 (at_ : Nat)) = w7 at *
        obtain ⟨s9, hs9⟩ : ∃ q, q = putS ⟨(g : Nat), ek, eo, ea⟩ at_ s6 := ⟨_, rfl⟩
        rw [← hs9] at E7 e9
        have BA := hide (B1.out.trans (B8.out.mono B1.out.size))
        obtain ⟨w9, hrun, hV9, hg9'⟩ := MSp.put (w := w7.drew) (HV.out.keep (BA.out.drew.block bm (VMap.lt HV.out))) hn HW.out s9
        have V9 := hide hV9
        have G9 := hide hg9'
        have q0 := (BA.out.drew.cell (p := ⟨bf, 2, none⟩) (World.block_lt_of_cell? w _ HM.out)).trans HM.out
        have q1 := blk_cell ((B8.out.drew.block _ (by have := HS1.out; omega)).trans EZ.out) 2 _ rfl
        clear hs9 hV9 hg9' hg9
        refine wp_region_T (S := fun wz => wz.cell? ⟨bf, 2, none⟩ = some (.map (some bm)) ∧ wz.cell? ⟨w.heap.size, 2, none⟩ = some (.int .i64 eo) ∧ wz.heap[w1.heap.size]? = some (.cells (spC s9) 115 (0, 0))) (fun i => i != 7) mixed ⟨q0, q1, E7.out⟩ (fun hH => ?_)
        refine Tm 0 ?_
        simp only [Act.put, SA]
        refine Tm 1 ?_
        simp only [Act.put, SA]
        refine Tm 2 ?_
        simp only [Act.put, SA]
        refine Tl 3 (v := ?_) ?_ hH ?_
        rotate_left 1
        · (intro wy hSw; have q := hSw.1; clear hSw; go_simp <;> with_reducible rfl)
        simp only [Act.put, SA]
        refine Tm 4 ?_
        simp only [Act.put, SA]
        refine Tl 5 (v := ?_) ?_ hH ?_
        rotate_left 1
        · (intro wy hSw; have q := hSw.2.1; clear hSw; go_simp <;> with_reducible rfl)
        simp only [Act.put, SA]
        refine Tl 6 (v := ?_) ?_ hH ?_
        rotate_left 1
        · (intro wy hSw; refine exec_load_row 115 (.tmp 6) ?_ w1.heap.size ?_ _ (spC s9) _ _ hSw.2.2 Tryd.underlying115 rfl (spC_info s9) <;> rfl)
        simp only [Act.put, SA]
        refine Tr 7 (fun K1 hK1 => ?_)
        go_simp
        refine hK1.out _ _ (fun h => absurd h (by decide)) (fun _ => ?_)
        clear hK1 K1 hH hrun q0 q1
        refine T_done (by kernel_rfl) ?_ _
        go_wp2_with fail
        go_ret
        rw [e9.out]
        exact ⟨rfl, V9.out, ⟨G9.out.os.trans BA.out.os, G9.out.tape.trans BA.out.tape, G9.out.output.trans BA.out.output, Nat.le_trans BA.out.size G9.out.size, fun i hi hne => (G9.out.block i (Nat.lt_of_lt_of_le hi BA.out.size) hne).trans (BA.out.block i hi)⟩⟩

end Go.Proofs.YticgmebbnnmikaaDoor.Ck
