/- Texts of this proof, packed. -/
import Derived.Test.YtidjbgemnohbnaaDoorGq2
/- Package code: an instruction's form, by its shape. (Written by mk_c.py.) -/
namespace Go.Proofs.YtidjbgemnohbnaaDoor.Ck
open Go.RowKit

theorem has_inN (a : Int) (n : Nat) : hasB 0 ((n : Int) - 1) a = inN a n := by
  unfold hasB inN
  congr 1
  exact decide_eq_decide.2 (by omega)
theorem has_inI (a n : Int) : hasB 0 (n - 1) a = inI a n := by
  unfold hasB inI
  congr 1
  exact decide_eq_decide.2 (by omega)
theorem has_00 (a : Int) : hasB 0 0 a = (a == 0) := by
  unfold hasB
  rw [← Bool.decide_and]
  by_cases h : a = 0
  · subst h; rfl
  · rw [decide_eq_false (by omega), beq_false_of_ne h]
/-- is an instruction as its shape says? -/
def insG (c : Cd) (x : In5) : Bool := ((shF c x.op).isSome && (hasB ((shF c x.op).getD shZ).a0 ((shF c x.op).getD shZ).a1 x.a && (hasB ((shF c x.op).getD shZ).b0 ((shF c x.op).getD shZ).b1 x.b && decide (x.bits ≤ ((shF c x.op).getD shZ).bits)))) &&
  ((decide (0 ≤ x.at_) && decide (x.at_ ≤ 8192)) && (if x.op = 8 ∨ x.op = 9 then decide (x.a.toNat + x.b.toNat ≤ c.P.length) && rowB c.P x.a.toNat x.b.toNat else true))
theorem shF_at (c : Cd) (k : Nat) (h1 : 1 ≤ k) (h2 : k ≤ 26) : shF c (k : Int) = some (shT c k) := by
  unfold shF
  rw [if_pos (by omega), Int.toNat_natCast]
theorem row_nat {P : List Int} {a b : Int} (ha : 0 ≤ a) (hb : 0 ≤ b) : rowB P a.toNat b.toNat = rowB P a b := by
  rw [Int.toNat_of_nonneg ha, Int.toNat_of_nonneg hb]
theorem bits_0 {x : Int} (h : 0 ≤ x) : decide (x ≤ 0) = (x == 0) := by
  by_cases e : x = 0
  · subst e; rfl
  · rw [decide_eq_false (by omega), beq_false_of_ne e]
/-- the shapes ask just what the document asks -/
theorem insG_eq (c : Cd) (x : In5) (hw : InW x) (hi : x.a ≤ 9223372036854775807) : insG c x = insB c x := by
  obtain ⟨_, hb0, hb1⟩ := hw
  by_cases ho : 1 ≤ x.op ∧ x.op ≤ 26
  · obtain ⟨k, hk⟩ : ∃ k : Nat, x.op = k := ⟨x.op.toNat, by omega⟩
    unfold insG insB
    rw [hk, shF_at c k (by omega) (by omega)]
    simp only [Option.isSome_some, Option.getD_some, Bool.true_and]
    have hk2 : k < 27 := by omega
    have hk1 : 1 ≤ k := by omega
    clear hk ho
    have hbits : decide (x.bits ≤ 18446744073709551615) = true := decide_eq_true (by omega)
    have hmax : hasB 0 9223372036854775807 x.a = decide (0 ≤ x.a) := by unfold hasB; rw [decide_eq_true hi, Bool.and_true]
    have h2 : hasB 0 1 x.a = inI x.a 2 := has_inI x.a 2
    have h2b : hasB 0 1 x.b = inI x.b 2 := has_inI x.b 2
    have h32 : hasB 0 31 x.a = inI x.a 32 := has_inI x.a 32
    obtain HKS := hk2
    obtain rfl | rfl | rfl | rfl | rfl | rfl | rfl | rfl | rfl | rfl | rfl | rfl | rfl | rfl | rfl | rfl | rfl | rfl | rfl | rfl | rfl | rfl | rfl | rfl | rfl | rfl : k = 1 ∨ k = 2 ∨ k = 3 ∨ k = 4 ∨ k = 5 ∨ k = 6 ∨ k = 7 ∨ k = 8 ∨ k = 9 ∨ k = 10 ∨ k = 11 ∨ k = 12 ∨ k = 13 ∨ k = 14 ∨ k = 15 ∨ k = 16 ∨ k = 17 ∨ k = 18 ∨ k = 19 ∨ k = 20 ∨ k = 21 ∨ k = 22 ∨ k = 23 ∨ k = 24 ∨ k = 25 ∨ k = 26 := by omega
    all_goals
      simp only [shT, shL, List.getD_cons_zero, List.getD_cons_succ]
      simp (decide := true) only [if_true, if_false, hmax, has_00, bits_0 hb0, hbits, h2, h2b, h32, has_inI]
      rw [Bool.eq_iff_iff]
      simp only [Bool.and_eq_true, decide_eq_true_eq, beq_iff_eq, hasB, inI, inN, and_true]
      first
      | (constructor <;> intro h <;> omega)
      | (constructor
         · rintro ⟨⟨⟨h1, h2⟩, ⟨h3, h4⟩, h5⟩, ⟨h6, h7⟩, h8, h9⟩
           rw [row_nat h1 (by omega)] at h9
           exact ⟨h6, h7, ⟨⟨⟨⟨h3, h4⟩, h1, h2⟩, by omega⟩, h9⟩, h5⟩
         · rintro ⟨h6, h7, ⟨⟨⟨⟨h3, h4⟩, h1, h2⟩, h8⟩, h9⟩, h5⟩
           rw [row_nat h1 (by omega)]
           exact ⟨⟨⟨h1, h2⟩, ⟨h3, h4⟩, h5⟩, ⟨h6, h7⟩, by omega, h9⟩)
  · have hs : shF c x.op = none := by unfold shF; rw [if_neg ho]
    unfold insG insB
    rw [hs]
    simp only [Option.isSome_none, Bool.false_and]
    symm
    rw [Bool.and_eq_false_imp]
    intro _
    rw [Bool.and_eq_false_imp]
    intro _
    iterate 15 rw [if_neg (by omega)]
end Go.Proofs.YtidjbgemnohbnaaDoor.Ck

/- Package code: shapes. (Written by mk_c.py.) -/
namespace Go.Proofs.YtidjbgemnohbnaaDoor.Ck
open Go.RowKit

/-- a call in such a region, by its contract -/
theorem wpOp_call {P : Program} {ops : Array Oper} {Q : Exit → Act → World → Prop} {i : Nat} {o : Oper} {K : Act → World → Prop} {a : Act} {w : World} (ho : ops[i]? = some o) (hgd : o.guard = none) (f : FuncId) (args : Array Value)
    (hrun : (execOp a.eval o).run P w = .ok (.enter f args) w) (h : Calls P f args w (fun e w' => ∃ v, e = .returned v ∧ K (a.put o.dst v) w')) : wpOp P ops Q i K a w := by
  refine wpOp_step ho fun K' hK => ?_
  rw [if_pos (by simp [Region.wanted, hgd])]
  unfold Oper.wp
  rw [hrun]
  show Calls P f args w _
  refine h.mono ?_
  rintro e w' ⟨v, rfl, h2⟩
  exact hK _ _ h2
set_option maxRecDepth 20000 in
set_option maxHeartbeats 16000000 in
theorem shapes_any {w : World} {vP vC vF vB : Value} {c : Cd} (h : Cv w vP vC vF vB c) (hs : sizesB c = true) : Calls Tryd.prog 49 #[codeA vP vC vF vB c] w fun e w' => ∃ b, e = .returned (.map (some b)) ∧ ShM w' b 85 (shF c) ∧ Below w.heap.size w w' := by
  have B0 := hide (bel_new w (codeO vP vC vF vB c))
  have X1 : Hid ((w.alloc (codeO vP vC vF vB c)).heap[w.heap.size]? = some (codeO vP vC vF vB c)) := hide (Go.Deep.blk_alloc_new _ _)
  obtain ⟨aP, cP, rfl, _, hmP⟩ := h.P.form
  obtain ⟨aC, cC, rfl, _, hmC⟩ := h.C.form
  obtain ⟨aF, cF, rfl, _, hmF⟩ := h.F.form
  obtain ⟨aB, cB, rfl, _, hmB⟩ := h.B.form
  simp only [sizesB, Bool.and_eq_true, decide_eq_true_eq] at hs
  obtain ⟨⟨⟨⟨⟨s1, s2, s3⟩, s4, s5⟩, s6⟩, s7⟩, s8⟩ := hs
  clear h hmP hmC hmF hmB
  unfold codeA codeO at *
  go_enter Tryd.func49, Tryd.ntmps49
  go_wp2_with fail
  generalize w.alloc (.cells #[.slice aP c.P.length cP, .int .i64 c.M, .int .i64 c.A, .slice aC c.C.length cC, .slice aF c.F.length cF, .int .i64 c.mn, .slice aB c.B.length cB] 27) = W1 at *
  refine wp_fill sl1 dl1 (fun k j hk => sl1_inj hk) (fun a0 u0 ha0 => ?_)
  have hsz : 94 < a0.tmps.size := by rw [ha0]; simp
  have h1 : a0.eval (.tmp 1) = .pointer (some ⟨w.heap.size, 0, none⟩) := by rw [ha0]; rfl
  refine wp_region_inv (A := fill sl1 a0) (J := J3 W1.drew [some (.pointer (some ⟨w.heap.size, 0, none⟩)), some (.slice aP c.P.length cP), some (.int .i64 (c.P.length : Nat)), some (.agg #[.int .i64 0, .int .i64 ((c.P.length : Int) - 1)]), some (.pointer (some ⟨w.heap.size, 6, none⟩)), some (.slice aB c.B.length cB), some (.int .i64 (c.B.length : Nat)), some (.agg #[.int .i64 0, .int .i64 ((c.B.length : Int) - 1)]), some (.pointer (some ⟨w.heap.size, 4, none⟩)), some (.slice aF c.F.length cF), some (.int .i64 (c.F.length : Nat)), some (.agg #[.int .i64 0, .int .i64 ((c.F.length : Int) - 1)])] 12 (fun t => if t = 0 then ((c.P.length : Int) - 1) else if t = 1 then ((c.B.length : Int) - 1) else ((c.F.length : Int) - 1))) mixed (by kernel_rfl) ?_ ?_ (J3.start _ _ _)
  · intro i hi L u wx hsL h0 hd hJ
    obtain rfl | rfl | rfl | rfl | rfl | rfl | rfl | rfl | rfl | rfl | rfl | rfl | rfl | rfl | rfl | rfl | rfl | rfl : i = 0 ∨ i = 1 ∨ i = 2 ∨ i = 3 ∨ i = 4 ∨ i = 5 ∨ i = 6 ∨ i = 7 ∨ i = 8 ∨ i = 9 ∨ i = 10 ∨ i = 11 ∨ i = 12 ∨ i = 13 ∨ i = 14 ∨ i = 15 ∨ i = 16 ∨ i = 17 := by have : i < 18 := hi; omega
    · have e1 : (fill sl1 a0 u).eval (.tmp 1) = .pointer (some ⟨w.heap.size, 0, none⟩) := (fill_out rfl).trans h1
      refine wpOp_val rfl rfl (.pointer (some ⟨w.heap.size, 0, none⟩)) wx (by generalize (fill sl1 a0 u).eval = ev at *; simp [execOp, e1, go_sem]) ⟨_, fill_put (d := 12) rfl (fun k hk => (sl1_inj hk).symm), hJ.pure rfl (by decide) (Below.refl _ _)⟩
    · have e12 : (fill sl1 a0 u).eval (.tmp 12) = u 0 := fill_in (by omega) rfl
      have f0 : u 0 = .pointer (some ⟨w.heap.size, 0, none⟩) := hJ.val 0 _ rfl (hd 0 (by kernel_rfl))
      rw [f0] at e12
      have hc : wx.cell? ⟨w.heap.size, 0, none⟩ = some (.slice aP c.P.length cP) := blk_cell ((hJ.bel.block w.heap.size (lt_of_blk X1.out)).trans X1.out) 0 _ rfl
      refine wpOp_val rfl rfl (.slice aP c.P.length cP) wx (by generalize (fill sl1 a0 u).eval = ev at *; simp [execOp, e12, go_sem, hc]) ⟨_, fill_put (d := 13) rfl (fun k hk => (sl1_inj hk).symm), hJ.pure rfl (by decide) (Below.refl _ _)⟩
    · have e13 : (fill sl1 a0 u).eval (.tmp 13) = u 1 := fill_in (by omega) rfl
      have f1 : u 1 = .slice aP c.P.length cP := hJ.val 1 _ rfl (hd 1 (by kernel_rfl))
      rw [f1] at e13
      refine wpOp_val rfl rfl (.int .i64 (c.P.length : Nat)) wx (by generalize (fill sl1 a0 u).eval = ev at *; simp [execOp, resolve, invoke, builtin, Builtin.len_, e13, go_sem]) ⟨_, fill_put (d := 14) rfl (fun k hk => (sl1_inj hk).symm), hJ.pure rfl (by decide) (Below.refl _ _)⟩
    · have e14 : (fill sl1 a0 u).eval (.tmp 14) = u 2 := fill_in (by omega) rfl
      have f2 : u 2 = .int .i64 (c.P.length : Nat) := hJ.val 2 _ rfl (hd 2 (by kernel_rfl))
      rw [f2] at e14
      have ef : (fill sl1 a0 u).eval (.func 46) = .func (.func 46) #[] #[] := rfl
      refine wpOp_call rfl rfl 46 #[.int .i64 (c.P.length : Nat)] (by generalize (fill sl1 a0 u).eval = ev at *; simp [execOp, resolve, invoke, ef, e14, go_sem]) ((oneOf_any _ _ (by omega) (by omega)).mono ?_)
      rintro e w2 ⟨rfl, hb2⟩
      exact ⟨_, rfl, _, fill_put (d := 15) rfl (fun k hk => (sl1_inj hk).symm), hJ.pure rfl (by decide) hb2⟩
    · have e1 : (fill sl1 a0 u).eval (.tmp 1) = .pointer (some ⟨w.heap.size, 0, none⟩) := (fill_out rfl).trans h1
      refine wpOp_val rfl rfl (.pointer (some ⟨w.heap.size, 6, none⟩)) wx (by generalize (fill sl1 a0 u).eval = ev at *; simp [execOp, e1, go_sem]) ⟨_, fill_put (d := 16) rfl (fun k hk => (sl1_inj hk).symm), hJ.pure rfl (by decide) (Below.refl _ _)⟩
    · have e16 : (fill sl1 a0 u).eval (.tmp 16) = u 4 := fill_in (by omega) rfl
      have f4 : u 4 = .pointer (some ⟨w.heap.size, 6, none⟩) := hJ.val 4 _ rfl (hd 4 (by kernel_rfl))
      rw [f4] at e16
      have hc : wx.cell? ⟨w.heap.size, 6, none⟩ = some (.slice aB c.B.length cB) := blk_cell ((hJ.bel.block w.heap.size (lt_of_blk X1.out)).trans X1.out) 6 _ rfl
      refine wpOp_val rfl rfl (.slice aB c.B.length cB) wx (by generalize (fill sl1 a0 u).eval = ev at *; simp [execOp, e16, go_sem, hc]) ⟨_, fill_put (d := 17) rfl (fun k hk => (sl1_inj hk).symm), hJ.pure rfl (by decide) (Below.refl _ _)⟩
    · have e17 : (fill sl1 a0 u).eval (.tmp 17) = u 5 := fill_in (by omega) rfl
      have f5 : u 5 = .slice aB c.B.length cB := hJ.val 5 _ rfl (hd 5 (by kernel_rfl))
      rw [f5] at e17
      refine wpOp_val rfl rfl (.int .i64 (c.B.length : Nat)) wx (by generalize (fill sl1 a0 u).eval = ev at *; simp [execOp, resolve, invoke, builtin, Builtin.len_, e17, go_sem]) ⟨_, fill_put (d := 18) rfl (fun k hk => (sl1_inj hk).symm), hJ.pure rfl (by decide) (Below.refl _ _)⟩
    · have e18 : (fill sl1 a0 u).eval (.tmp 18) = u 6 := fill_in (by omega) rfl
      have f6 : u 6 = .int .i64 (c.B.length : Nat) := hJ.val 6 _ rfl (hd 6 (by kernel_rfl))
      rw [f6] at e18
      have ef : (fill sl1 a0 u).eval (.func 46) = .func (.func 46) #[] #[] := rfl
      refine wpOp_call rfl rfl 46 #[.int .i64 (c.B.length : Nat)] (by generalize (fill sl1 a0 u).eval = ev at *; simp [execOp, resolve, invoke, ef, e18, go_sem]) ((oneOf_any _ _ (by omega) (by omega)).mono ?_)
      rintro e w2 ⟨rfl, hb2⟩
      exact ⟨_, rfl, _, fill_put (d := 19) rfl (fun k hk => (sl1_inj hk).symm), hJ.pure rfl (by decide) hb2⟩
    · have e1 : (fill sl1 a0 u).eval (.tmp 1) = .pointer (some ⟨w.heap.size, 0, none⟩) := (fill_out rfl).trans h1
      refine wpOp_val rfl rfl (.pointer (some ⟨w.heap.size, 4, none⟩)) wx (by generalize (fill sl1 a0 u).eval = ev at *; simp [execOp, e1, go_sem]) ⟨_, fill_put (d := 20) rfl (fun k hk => (sl1_inj hk).symm), hJ.pure rfl (by decide) (Below.refl _ _)⟩
    · have e20 : (fill sl1 a0 u).eval (.tmp 20) = u 8 := fill_in (by omega) rfl
      have f8 : u 8 = .pointer (some ⟨w.heap.size, 4, none⟩) := hJ.val 8 _ rfl (hd 8 (by kernel_rfl))
      rw [f8] at e20
      have hc : wx.cell? ⟨w.heap.size, 4, none⟩ = some (.slice aF c.F.length cF) := blk_cell ((hJ.bel.block w.heap.size (lt_of_blk X1.out)).trans X1.out) 4 _ rfl
      refine wpOp_val rfl rfl (.slice aF c.F.length cF) wx (by generalize (fill sl1 a0 u).eval = ev at *; simp [execOp, e20, go_sem, hc]) ⟨_, fill_put (d := 21) rfl (fun k hk => (sl1_inj hk).symm), hJ.pure rfl (by decide) (Below.refl _ _)⟩
    · have e21 : (fill sl1 a0 u).eval (.tmp 21) = u 9 := fill_in (by omega) rfl
      have f9 : u 9 = .slice aF c.F.length cF := hJ.val 9 _ rfl (hd 9 (by kernel_rfl))
      rw [f9] at e21
      refine wpOp_val rfl rfl (.int .i64 (c.F.length : Nat)) wx (by generalize (fill sl1 a0 u).eval = ev at *; simp [execOp, resolve, invoke, builtin, Builtin.len_, e21, go_sem]) ⟨_, fill_put (d := 22) rfl (fun k hk => (sl1_inj hk).symm), hJ.pure rfl (by decide) (Below.refl _ _)⟩
    · have e22 : (fill sl1 a0 u).eval (.tmp 22) = u 10 := fill_in (by omega) rfl
      have f10 : u 10 = .int .i64 (c.F.length : Nat) := hJ.val 10 _ rfl (hd 10 (by kernel_rfl))
      rw [f10] at e22
      have ef : (fill sl1 a0 u).eval (.func 46) = .func (.func 46) #[] #[] := rfl
      refine wpOp_call rfl rfl 46 #[.int .i64 (c.F.length : Nat)] (by generalize (fill sl1 a0 u).eval = ev at *; simp [execOp, resolve, invoke, ef, e22, go_sem]) ((oneOf_any _ _ (by omega) (by omega)).mono ?_)
      rintro e w2 ⟨rfl, hb2⟩
      exact ⟨_, rfl, _, fill_put (d := 23) rfl (fun k hk => (sl1_inj hk).symm), hJ.pure rfl (by decide) hb2⟩
    · refine wpOp_val rfl rfl (.pointer (some ⟨wx.heap.size, 0, none⟩)) (wx.alloc (.cells #[.int .i64 0, .int .i64 0] 97)) (by generalize (fill sl1 a0 u).eval = ev at *; simp [execOp, go_sem]) ⟨_, fill_put (d := 3) rfl (fun k hk => (sl1_inj hk).symm), hJ.alloc (t := 0) (by decide) h0 (by simp)⟩
    · refine wpOp_val rfl rfl (.pointer (some ⟨wx.heap.size, 0, none⟩)) (wx.alloc (.cells #[.int .i64 0, .int .i64 0] 97)) (by generalize (fill sl1 a0 u).eval = ev at *; simp [execOp, go_sem]) ⟨_, fill_put (d := 4) rfl (fun k hk => (sl1_inj hk).symm), hJ.alloc (t := 1) (by decide) h0 (by simp)⟩
    · refine wpOp_val rfl rfl (.pointer (some ⟨wx.heap.size, 0, none⟩)) (wx.alloc (.cells #[.int .i64 0, .int .i64 0] 97)) (by generalize (fill sl1 a0 u).eval = ev at *; simp [execOp, go_sem]) ⟨_, fill_put (d := 5) rfl (fun k hk => (sl1_inj hk).symm), hJ.alloc (t := 2) (by decide) h0 (by simp)⟩
    · have e3 : (fill sl1 a0 u).eval (.tmp 3) = u 12 := fill_in (by omega) rfl
      have e15 : (fill sl1 a0 u).eval (.tmp 15) = u 3 := fill_in (by omega) rfl
      have f3 : u 3 = .agg #[.int .i64 0, .int .i64 ((c.P.length : Int) - 1)] := hJ.val 3 _ rfl (hd 3 (by kernel_rfl))
      rw [f3] at e15
      obtain ⟨b, hb1, hb2, hb3⟩ := hJ.al 0 (by decide) (hd 12 (by kernel_rfl))
      rw [show L.getD (12 + 3 + 0) false = false from getD_of (of_getD h0)] at hb3
      have hb4 : wx.heap[b]? = some (.cells #[.int .i64 0, .int .i64 0] 97 (0, 0)) := hb3
      have hb5 : u 12 = .pointer (some ⟨b, 0, none⟩) := hb1
      rw [hb5] at e3
      have c0 := blk_cell hb4 0 _ rfl
      have c1 := blk_cell hb4 1 _ rfl
      have z0 := blk_frz hb4 0
      have z1 := blk_frz hb4 1
      have hst := hJ.store (t := 0) (by decide) h0 (by simp) (hd 12 (by kernel_rfl)) hb5 undef
      refine wpOp_skip rfl rfl _ (by generalize (fill sl1 a0 u).eval = ev at *; simp [execOp, e3, e15, go_sem, c0, c1, z0, z1]) ⟨undef, fill_none (sl1_no rfl), hst⟩
    · have e4 : (fill sl1 a0 u).eval (.tmp 4) = u 13 := fill_in (by omega) rfl
      have e19 : (fill sl1 a0 u).eval (.tmp 19) = u 7 := fill_in (by omega) rfl
      have f7 : u 7 = .agg #[.int .i64 0, .int .i64 ((c.B.length : Int) - 1)] := hJ.val 7 _ rfl (hd 7 (by kernel_rfl))
      rw [f7] at e19
      obtain ⟨b, hb1, hb2, hb3⟩ := hJ.al 1 (by decide) (hd 13 (by kernel_rfl))
      rw [show L.getD (12 + 3 + 1) false = false from getD_of (of_getD h0)] at hb3
      have hb4 : wx.heap[b]? = some (.cells #[.int .i64 0, .int .i64 0] 97 (0, 0)) := hb3
      have hb5 : u 13 = .pointer (some ⟨b, 0, none⟩) := hb1
      rw [hb5] at e4
      have c0 := blk_cell hb4 0 _ rfl
      have c1 := blk_cell hb4 1 _ rfl
      have z0 := blk_frz hb4 0
      have z1 := blk_frz hb4 1
      have hst := hJ.store (t := 1) (by decide) h0 (by simp) (hd 13 (by kernel_rfl)) hb5 undef
      refine wpOp_skip rfl rfl _ (by generalize (fill sl1 a0 u).eval = ev at *; simp [execOp, e4, e19, go_sem, c0, c1, z0, z1]) ⟨undef, fill_none (sl1_no rfl), hst⟩
    · have e5 : (fill sl1 a0 u).eval (.tmp 5) = u 14 := fill_in (by omega) rfl
      have e23 : (fill sl1 a0 u).eval (.tmp 23) = u 11 := fill_in (by omega) rfl
      have f11 : u 11 = .agg #[.int .i64 0, .int .i64 ((c.F.length : Int) - 1)] := hJ.val 11 _ rfl (hd 11 (by kernel_rfl))
      rw [f11] at e23
      obtain ⟨b, hb1, hb2, hb3⟩ := hJ.al 2 (by decide) (hd 14 (by kernel_rfl))
      rw [show L.getD (12 + 3 + 2) false = false from getD_of (of_getD h0)] at hb3
      have hb4 : wx.heap[b]? = some (.cells #[.int .i64 0, .int .i64 0] 97 (0, 0)) := hb3
      have hb5 : u 14 = .pointer (some ⟨b, 0, none⟩) := hb1
      rw [hb5] at e5
      have c0 := blk_cell hb4 0 _ rfl
      have c1 := blk_cell hb4 1 _ rfl
      have z0 := blk_frz hb4 0
      have z1 := blk_frz hb4 1
      have hst := hJ.store (t := 2) (by decide) h0 (by simp) (hd 14 (by kernel_rfl)) hb5 undef
      refine wpOp_skip rfl rfl _ (by generalize (fill sl1 a0 u).eval = ev at *; simp [execOp, e5, e23, go_sem, c0, c1, z0, z1]) ⟨undef, fill_none (sl1_no rfl), hst⟩
  intro L u wx hall hJ
  obtain ⟨b3, u3, hg3, k3⟩ := hJ.al 0 (by decide) (hall 12 (by decide))
  rw [hall (12 + 3 + 0) (by decide)] at k3
  have K3 : Hid (wx.heap[b3]? = some (.cells #[.int .i64 0, .int .i64 ((c.P.length : Int) - 1)] 97 (0, 0))) := hide k3
  have U3 : u 12 = .pointer (some ⟨b3, 0, none⟩) := u3
  clear k3 u3 hg3
  obtain ⟨b4, u4, hg4, k4⟩ := hJ.al 1 (by decide) (hall 13 (by decide))
  rw [hall (12 + 3 + 1) (by decide)] at k4
  have K4 : Hid (wx.heap[b4]? = some (.cells #[.int .i64 0, .int .i64 ((c.B.length : Int) - 1)] 97 (0, 0))) := hide k4
  have U4 : u 13 = .pointer (some ⟨b4, 0, none⟩) := u4
  clear k4 u4 hg4
  obtain ⟨b5, u5, hg5, k5⟩ := hJ.al 2 (by decide) (hall 14 (by decide))
  rw [hall (12 + 3 + 2) (by decide)] at k5
  have K5 : Hid (wx.heap[b5]? = some (.cells #[.int .i64 0, .int .i64 ((c.F.length : Int) - 1)] 97 (0, 0))) := hide k5
  have U5 : u 14 = .pointer (some ⟨b5, 0, none⟩) := u5
  clear k5 u5 hg5
  have B1 : Hid (Below w.heap.size w wx) := hide (B0.out.trans ((bel_drawn (Below.refl W1.heap.size W1)).trans hJ.bel |>.mono B0.out.size))
  have X2 : Hid (wx.heap[w.heap.size]? = some (.cells #[.slice aP c.P.length cP, .int .i64 c.M, .int .i64 c.A, .slice aC c.C.length cC, .slice aF c.F.length cF, .int .i64 c.mn, .slice aB c.B.length cB] 27)) := hide ((hJ.bel.block w.heap.size (lt_of_blk X1.out)).trans X1.out)
  clear hJ hall h1 hsz X1 B0
  subst ha0
  simp [fill, fillL, sl1, U3, U4, U5]
  clear U3 U4 U5
  generalize u 0 = y0, u 1 = y1, u 2 = y2, u 3 = y3, u 4 = y4, u 5 = y5, u 6 = y6, u 7 = y7, u 8 = y8, u 9 = y9, u 10 = y10, u 11 = y11
  clear u u0 L
  have X1 := X2
  clear X2
  generalize hW2 : wx = W2 at *
  clear hW2 wx W1
  go_wp2_with fail
  refine wp_fill sl2 dl2 (fun k j hk => sl2_inj hk) (fun a0 u0 ha0 => ?_)
  have hsz : 94 < a0.tmps.size := by rw [ha0]; simp
  have h1 : a0.eval (.tmp 1) = .pointer (some ⟨w.heap.size, 0, none⟩) := by rw [ha0]; rfl
  refine wp_region_inv (A := fill sl2 a0) (J := J3 W2.drew [some (.pointer (some ⟨w.heap.size, 1, none⟩)), some (.int .i64 c.M), some (.agg #[.int .i64 0, .int .i64 (c.M - 1)]), some (.pointer (some ⟨w.heap.size, 3, none⟩)), some (.slice aC c.C.length cC), some (.int .i64 (c.C.length : Nat)), some (.agg #[.int .i64 0, .int .i64 ((c.C.length : Int) - 1)]), some (.pointer (some ⟨w.heap.size, 2, none⟩)), some (.int .i64 c.A), some (.agg #[.int .i64 0, .int .i64 (c.A - 1)])] 10 (fun t => if t = 0 then (c.M - 1) else if t = 1 then ((c.C.length : Int) - 1) else (c.A - 1))) mixed (by kernel_rfl) ?_ ?_ (J3.start _ _ _)
  · intro i hi L u wx hsL h0 hd hJ
    obtain rfl | rfl | rfl | rfl | rfl | rfl | rfl | rfl | rfl | rfl | rfl | rfl | rfl | rfl | rfl | rfl : i = 0 ∨ i = 1 ∨ i = 2 ∨ i = 3 ∨ i = 4 ∨ i = 5 ∨ i = 6 ∨ i = 7 ∨ i = 8 ∨ i = 9 ∨ i = 10 ∨ i = 11 ∨ i = 12 ∨ i = 13 ∨ i = 14 ∨ i = 15 := by have : i < 16 := hi; omega
    · have e1 : (fill sl2 a0 u).eval (.tmp 1) = .pointer (some ⟨w.heap.size, 0, none⟩) := (fill_out rfl).trans h1
      refine wpOp_val rfl rfl (.pointer (some ⟨w.heap.size, 1, none⟩)) wx (by generalize (fill sl2 a0 u).eval = ev at *; simp [execOp, e1, go_sem]) ⟨_, fill_put (d := 24) rfl (fun k hk => (sl2_inj hk).symm), hJ.pure rfl (by decide) (Below.refl _ _)⟩
    · have e24 : (fill sl2 a0 u).eval (.tmp 24) = u 0 := fill_in (by omega) rfl
      have f0 : u 0 = .pointer (some ⟨w.heap.size, 1, none⟩) := hJ.val 0 _ rfl (hd 0 (by kernel_rfl))
      rw [f0] at e24
      have hc : wx.cell? ⟨w.heap.size, 1, none⟩ = some (.int .i64 c.M) := blk_cell ((hJ.bel.block w.heap.size (lt_of_blk X1.out)).trans X1.out) 1 _ rfl
      refine wpOp_val rfl rfl (.int .i64 c.M) wx (by generalize (fill sl2 a0 u).eval = ev at *; simp [execOp, e24, go_sem, hc]) ⟨_, fill_put (d := 25) rfl (fun k hk => (sl2_inj hk).symm), hJ.pure rfl (by decide) (Below.refl _ _)⟩
    · have e25 : (fill sl2 a0 u).eval (.tmp 25) = u 1 := fill_in (by omega) rfl
      have f1 : u 1 = .int .i64 c.M := hJ.val 1 _ rfl (hd 1 (by kernel_rfl))
      rw [f1] at e25
      have ef : (fill sl2 a0 u).eval (.func 46) = .func (.func 46) #[] #[] := rfl
      refine wpOp_call rfl rfl 46 #[.int .i64 c.M] (by generalize (fill sl2 a0 u).eval = ev at *; simp [execOp, resolve, invoke, ef, e25, go_sem]) ((oneOf_any _ _ (by omega) (by omega)).mono ?_)
      rintro e w2 ⟨rfl, hb2⟩
      exact ⟨_, rfl, _, fill_put (d := 26) rfl (fun k hk => (sl2_inj hk).symm), hJ.pure rfl (by decide) hb2⟩
    · have e1 : (fill sl2 a0 u).eval (.tmp 1) = .pointer (some ⟨w.heap.size, 0, none⟩) := (fill_out rfl).trans h1
      refine wpOp_val rfl rfl (.pointer (some ⟨w.heap.size, 3, none⟩)) wx (by generalize (fill sl2 a0 u).eval = ev at *; simp [execOp, e1, go_sem]) ⟨_, fill_put (d := 27) rfl (fun k hk => (sl2_inj hk).symm), hJ.pure rfl (by decide) (Below.refl _ _)⟩
    · have e27 : (fill sl2 a0 u).eval (.tmp 27) = u 3 := fill_in (by omega) rfl
      have f3 : u 3 = .pointer (some ⟨w.heap.size, 3, none⟩) := hJ.val 3 _ rfl (hd 3 (by kernel_rfl))
      rw [f3] at e27
      have hc : wx.cell? ⟨w.heap.size, 3, none⟩ = some (.slice aC c.C.length cC) := blk_cell ((hJ.bel.block w.heap.size (lt_of_blk X1.out)).trans X1.out) 3 _ rfl
      refine wpOp_val rfl rfl (.slice aC c.C.length cC) wx (by generalize (fill sl2 a0 u).eval = ev at *; simp [execOp, e27, go_sem, hc]) ⟨_, fill_put (d := 28) rfl (fun k hk => (sl2_inj hk).symm), hJ.pure rfl (by decide) (Below.refl _ _)⟩
    · have e28 : (fill sl2 a0 u).eval (.tmp 28) = u 4 := fill_in (by omega) rfl
      have f4 : u 4 = .slice aC c.C.length cC := hJ.val 4 _ rfl (hd 4 (by kernel_rfl))
      rw [f4] at e28
      refine wpOp_val rfl rfl (.int .i64 (c.C.length : Nat)) wx (by generalize (fill sl2 a0 u).eval = ev at *; simp [execOp, resolve, invoke, builtin, Builtin.len_, e28, go_sem]) ⟨_, fill_put (d := 29) rfl (fun k hk => (sl2_inj hk).symm), hJ.pure rfl (by decide) (Below.refl _ _)⟩
    · have e29 : (fill sl2 a0 u).eval (.tmp 29) = u 5 := fill_in (by omega) rfl
      have f5 : u 5 = .int .i64 (c.C.length : Nat) := hJ.val 5 _ rfl (hd 5 (by kernel_rfl))
      rw [f5] at e29
      have ef : (fill sl2 a0 u).eval (.func 46) = .func (.func 46) #[] #[] := rfl
      refine wpOp_call rfl rfl 46 #[.int .i64 (c.C.length : Nat)] (by generalize (fill sl2 a0 u).eval = ev at *; simp [execOp, resolve, invoke, ef, e29, go_sem]) ((oneOf_any _ _ (by omega) (by omega)).mono ?_)
      rintro e w2 ⟨rfl, hb2⟩
      exact ⟨_, rfl, _, fill_put (d := 30) rfl (fun k hk => (sl2_inj hk).symm), hJ.pure rfl (by decide) hb2⟩
    · have e1 : (fill sl2 a0 u).eval (.tmp 1) = .pointer (some ⟨w.heap.size, 0, none⟩) := (fill_out rfl).trans h1
      refine wpOp_val rfl rfl (.pointer (some ⟨w.heap.size, 2, none⟩)) wx (by generalize (fill sl2 a0 u).eval = ev at *; simp [execOp, e1, go_sem]) ⟨_, fill_put (d := 31) rfl (fun k hk => (sl2_inj hk).symm), hJ.pure rfl (by decide) (Below.refl _ _)⟩
    · have e31 : (fill sl2 a0 u).eval (.tmp 31) = u 7 := fill_in (by omega) rfl
      have f7 : u 7 = .pointer (some ⟨w.heap.size, 2, none⟩) := hJ.val 7 _ rfl (hd 7 (by kernel_rfl))
      rw [f7] at e31
      have hc : wx.cell? ⟨w.heap.size, 2, none⟩ = some (.int .i64 c.A) := blk_cell ((hJ.bel.block w.heap.size (lt_of_blk X1.out)).trans X1.out) 2 _ rfl
      refine wpOp_val rfl rfl (.int .i64 c.A) wx (by generalize (fill sl2 a0 u).eval = ev at *; simp [execOp, e31, go_sem, hc]) ⟨_, fill_put (d := 32) rfl (fun k hk => (sl2_inj hk).symm), hJ.pure rfl (by decide) (Below.refl _ _)⟩
    · have e32 : (fill sl2 a0 u).eval (.tmp 32) = u 8 := fill_in (by omega) rfl
      have f8 : u 8 = .int .i64 c.A := hJ.val 8 _ rfl (hd 8 (by kernel_rfl))
      rw [f8] at e32
      have ef : (fill sl2 a0 u).eval (.func 46) = .func (.func 46) #[] #[] := rfl
      refine wpOp_call rfl rfl 46 #[.int .i64 c.A] (by generalize (fill sl2 a0 u).eval = ev at *; simp [execOp, resolve, invoke, ef, e32, go_sem]) ((oneOf_any _ _ (by omega) (by omega)).mono ?_)
      rintro e w2 ⟨rfl, hb2⟩
      exact ⟨_, rfl, _, fill_put (d := 33) rfl (fun k hk => (sl2_inj hk).symm), hJ.pure rfl (by decide) hb2⟩
    · refine wpOp_val rfl rfl (.pointer (some ⟨wx.heap.size, 0, none⟩)) (wx.alloc (.cells #[.int .i64 0, .int .i64 0] 97)) (by generalize (fill sl2 a0 u).eval = ev at *; simp [execOp, go_sem]) ⟨_, fill_put (d := 6) rfl (fun k hk => (sl2_inj hk).symm), hJ.alloc (t := 0) (by decide) h0 (by simp)⟩
    · refine wpOp_val rfl rfl (.pointer (some ⟨wx.heap.size, 0, none⟩)) (wx.alloc (.cells #[.int .i64 0, .int .i64 0] 97)) (by generalize (fill sl2 a0 u).eval = ev at *; simp [execOp, go_sem]) ⟨_, fill_put (d := 7) rfl (fun k hk => (sl2_inj hk).symm), hJ.alloc (t := 1) (by decide) h0 (by simp)⟩
    · refine wpOp_val rfl rfl (.pointer (some ⟨wx.heap.size, 0, none⟩)) (wx.alloc (.cells #[.int .i64 0, .int .i64 0] 97)) (by generalize (fill sl2 a0 u).eval = ev at *; simp [execOp, go_sem]) ⟨_, fill_put (d := 8) rfl (fun k hk => (sl2_inj hk).symm), hJ.alloc (t := 2) (by decide) h0 (by simp)⟩
    · have e6 : (fill sl2 a0 u).eval (.tmp 6) = u 10 := fill_in (by omega) rfl
      have e26 : (fill sl2 a0 u).eval (.tmp 26) = u 2 := fill_in (by omega) rfl
      have f2 : u 2 = .agg #[.int .i64 0, .int .i64 (c.M - 1)] := hJ.val 2 _ rfl (hd 2 (by kernel_rfl))
      rw [f2] at e26
      obtain ⟨b, hb1, hb2, hb3⟩ := hJ.al 0 (by decide) (hd 10 (by kernel_rfl))
      rw [show L.getD (10 + 3 + 0) false = false from getD_of (of_getD h0)] at hb3
      have hb4 : wx.heap[b]? = some (.cells #[.int .i64 0, .int .i64 0] 97 (0, 0)) := hb3
      have hb5 : u 10 = .pointer (some ⟨b, 0, none⟩) := hb1
      rw [hb5] at e6
      have c0 := blk_cell hb4 0 _ rfl
      have c1 := blk_cell hb4 1 _ rfl
      have z0 := blk_frz hb4 0
      have z1 := blk_frz hb4 1
      have hst := hJ.store (t := 0) (by decide) h0 (by simp) (hd 10 (by kernel_rfl)) hb5 undef
      refine wpOp_skip rfl rfl _ (by generalize (fill sl2 a0 u).eval = ev at *; simp [execOp, e6, e26, go_sem, c0, c1, z0, z1]) ⟨undef, fill_none (sl2_no rfl), hst⟩
    · have e7 : (fill sl2 a0 u).eval (.tmp 7) = u 11 := fill_in (by omega) rfl
      have e30 : (fill sl2 a0 u).eval (.tmp 30) = u 6 := fill_in (by omega) rfl
      have f6 : u 6 = .agg #[.int .i64 0, .int .i64 ((c.C.length : Int) - 1)] := hJ.val 6 _ rfl (hd 6 (by kernel_rfl))
      rw [f6] at e30
      obtain ⟨b, hb1, hb2, hb3⟩ := hJ.al 1 (by decide) (hd 11 (by kernel_rfl))
      rw [show L.getD (10 + 3 + 1) false = false from getD_of (of_getD h0)] at hb3
      have hb4 : wx.heap[b]? = some (.cells #[.int .i64 0, .int .i64 0] 97 (0, 0)) := hb3
      have hb5 : u 11 = .pointer (some ⟨b, 0, none⟩) := hb1
      rw [hb5] at e7
      have c0 := blk_cell hb4 0 _ rfl
      have c1 := blk_cell hb4 1 _ rfl
      have z0 := blk_frz hb4 0
      have z1 := blk_frz hb4 1
      have hst := hJ.store (t := 1) (by decide) h0 (by simp) (hd 11 (by kernel_rfl)) hb5 undef
      refine wpOp_skip rfl rfl _ (by generalize (fill sl2 a0 u).eval = ev at *; simp [execOp, e7, e30, go_sem, c0, c1, z0, z1]) ⟨undef, fill_none (sl2_no rfl), hst⟩
    · have e8 : (fill sl2 a0 u).eval (.tmp 8) = u 12 := fill_in (by omega) rfl
      have e33 : (fill sl2 a0 u).eval (.tmp 33) = u 9 := fill_in (by omega) rfl
      have f9 : u 9 = .agg #[.int .i64 0, .int .i64 (c.A - 1)] := hJ.val 9 _ rfl (hd 9 (by kernel_rfl))
      rw [f9] at e33
      obtain ⟨b, hb1, hb2, hb3⟩ := hJ.al 2 (by decide) (hd 12 (by kernel_rfl))
      rw [show L.getD (10 + 3 + 2) false = false from getD_of (of_getD h0)] at hb3
      have hb4 : wx.heap[b]? = some (.cells #[.int .i64 0, .int .i64 0] 97 (0, 0)) := hb3
      have hb5 : u 12 = .pointer (some ⟨b, 0, none⟩) := hb1
      rw [hb5] at e8
      have c0 := blk_cell hb4 0 _ rfl
      have c1 := blk_cell hb4 1 _ rfl
      have z0 := blk_frz hb4 0
      have z1 := blk_frz hb4 1
      have hst := hJ.store (t := 2) (by decide) h0 (by simp) (hd 12 (by kernel_rfl)) hb5 undef
      refine wpOp_skip rfl rfl _ (by generalize (fill sl2 a0 u).eval = ev at *; simp [execOp, e8, e33, go_sem, c0, c1, z0, z1]) ⟨undef, fill_none (sl2_no rfl), hst⟩
  intro L u wx hall hJ
  obtain ⟨b6, u6, hg6, k6⟩ := hJ.al 0 (by decide) (hall 10 (by decide))
  rw [hall (10 + 3 + 0) (by decide)] at k6
  have K6 : Hid (wx.heap[b6]? = some (.cells #[.int .i64 0, .int .i64 (c.M - 1)] 97 (0, 0))) := hide k6
  have U6 : u 10 = .pointer (some ⟨b6, 0, none⟩) := u6
  clear k6 u6 hg6
  obtain ⟨b7, u7, hg7, k7⟩ := hJ.al 1 (by decide) (hall 11 (by decide))
  rw [hall (10 + 3 + 1) (by decide)] at k7
  have K7 : Hid (wx.heap[b7]? = some (.cells #[.int .i64 0, .int .i64 ((c.C.length : Int) - 1)] 97 (0, 0))) := hide k7
  have U7 : u 11 = .pointer (some ⟨b7, 0, none⟩) := u7
  clear k7 u7 hg7
  obtain ⟨b8, u8, hg8, k8⟩ := hJ.al 2 (by decide) (hall 12 (by decide))
  rw [hall (10 + 3 + 2) (by decide)] at k8
  have K8 : Hid (wx.heap[b8]? = some (.cells #[.int .i64 0, .int .i64 (c.A - 1)] 97 (0, 0))) := hide k8
  have U8 : u 12 = .pointer (some ⟨b8, 0, none⟩) := u8
  clear k8 u8 hg8
  have B2 : Hid (Below w.heap.size w wx) := hide (B1.out.trans ((bel_drawn (Below.refl W2.heap.size W2)).trans hJ.bel |>.mono B1.out.size))
  have P3 : Hid (wx.heap[b3]? = some (.cells #[.int .i64 0, .int .i64 ((c.P.length : Int) - 1)] 97 (0, 0))) := hide ((hJ.bel.block b3 (lt_of_blk K3.out)).trans K3.out)
  have P4 : Hid (wx.heap[b4]? = some (.cells #[.int .i64 0, .int .i64 ((c.B.length : Int) - 1)] 97 (0, 0))) := hide ((hJ.bel.block b4 (lt_of_blk K4.out)).trans K4.out)
  have P5 : Hid (wx.heap[b5]? = some (.cells #[.int .i64 0, .int .i64 ((c.F.length : Int) - 1)] 97 (0, 0))) := hide ((hJ.bel.block b5 (lt_of_blk K5.out)).trans K5.out)
  clear hJ hall h1 hsz X1 B1 K3 K4 K5
  subst ha0
  simp [fill, fillL, sl2, U6, U7, U8]
  clear U6 U7 U8
  generalize u 0 = z0, u 1 = z1, u 2 = z2, u 3 = z3, u 4 = z4, u 5 = z5, u 6 = z6, u 7 = z7, u 8 = z8, u 9 = z9
  clear u u0 L
  generalize hW3 : wx = W3 at *
  clear hW3 wx W2
  go_wp2_with fail
  refine (oneOf_any _ _ (by omega) (by omega)).mono ?_
  rintro e w4 ⟨rfl, hb4⟩
  go_wp2_with fail
  refine (oneOf_any _ _ (by omega) (by omega)).mono ?_
  rintro e w5 ⟨rfl, hb5⟩
  have B5 := hide (bel_trans hb4 hb5)
  clear hb4 hb5
  go_wp2_with fail
  have t1 := bel_new w5 (.cells #[.int .i64 0, .int .i64 31] 97)
  have t2 := bel_new (w5.alloc (.cells #[.int .i64 0, .int .i64 31] 97)) (.cells #[.int .i64 0, .int .i64 1] 97)
  have t3 := bel_new ((w5.alloc (.cells #[.int .i64 0, .int .i64 31] 97)).alloc (.cells #[.int .i64 0, .int .i64 1] 97)) (.cells #[.int .i64 1, .int .i64 64] 97)
  have q9 : (((w5.alloc (.cells #[.int .i64 0, .int .i64 31] 97)).alloc (.cells #[.int .i64 0, .int .i64 1] 97)).alloc (.cells #[.int .i64 1, .int .i64 64] 97)).heap[w5.heap.size]? = some (.cells #[.int .i64 0, .int .i64 31] 97 (0, 0)) := (t3.block _ (by simp; omega)).trans ((t2.block _ (by simp)).trans (Go.Deep.blk_alloc_new _ _))
  have q10 : (((w5.alloc (.cells #[.int .i64 0, .int .i64 31] 97)).alloc (.cells #[.int .i64 0, .int .i64 1] 97)).alloc (.cells #[.int .i64 1, .int .i64 64] 97)).heap[w5.heap.size + 1]? = some (.cells #[.int .i64 0, .int .i64 1] 97 (0, 0)) := (t3.block _ (by simp)).trans (by have e := Go.Deep.blk_alloc_new (w5.alloc (.cells #[.int .i64 0, .int .i64 31] 97)) (.cells #[.int .i64 0, .int .i64 1] 97); simpa using e)
  have q11 : (((w5.alloc (.cells #[.int .i64 0, .int .i64 31] 97)).alloc (.cells #[.int .i64 0, .int .i64 1] 97)).alloc (.cells #[.int .i64 1, .int .i64 64] 97)).heap[w5.heap.size + 1 + 1]? = some (.cells #[.int .i64 1, .int .i64 64] 97 (0, 0)) := by
    have e := Go.Deep.blk_alloc_new ((w5.alloc (.cells #[.int .i64 0, .int .i64 31] 97)).alloc (.cells #[.int .i64 0, .int .i64 1] 97)) (.cells #[.int .i64 1, .int .i64 64] 97)
    simpa using e
  have bb := bel_trans B5.out (bel_trans (bel_trans t1 t2) t3)
  generalize ((w5.alloc (.cells #[.int .i64 0, .int .i64 31] 97)).alloc (.cells #[.int .i64 0, .int .i64 1] 97)).alloc (.cells #[.int .i64 1, .int .i64 64] 97) = W6 at *
  generalize w5.heap.size = b9 at *
  generalize b9 + 1 = b10 at *
  generalize b10 + 1 = b11 at *
  have D6 := hide (bel_trans B2.out bb)
  have R3 := (bb.block b3 (lt_of_blk P3.out)).trans P3.out
  have R4 := (bb.block b4 (lt_of_blk P4.out)).trans P4.out
  have R5 := (bb.block b5 (lt_of_blk P5.out)).trans P5.out
  have R6 := (bb.block b6 (lt_of_blk K6.out)).trans K6.out
  have R7 := (bb.block b7 (lt_of_blk K7.out)).trans K7.out
  have R8 := (bb.block b8 (lt_of_blk K8.out)).trans K8.out
  clear t1 t2 t3 B5 bb P3 P4 P5 K6 K7 K8 B2
  refine wp_fill sl4 dl4 (fun k j hk => sl4_inj hk) (fun a0 u0 ha0 => ?_)
  have hsz : 94 < a0.tmps.size := by rw [ha0]; simp
  have h3 : a0.eval (.tmp 3) = .pointer (some ⟨b3, 0, none⟩) := by rw [ha0]; rfl
  have h4 : a0.eval (.tmp 4) = .pointer (some ⟨b4, 0, none⟩) := by rw [ha0]; rfl
  have h5 : a0.eval (.tmp 5) = .pointer (some ⟨b5, 0, none⟩) := by rw [ha0]; rfl
  have h6 : a0.eval (.tmp 6) = .pointer (some ⟨b6, 0, none⟩) := by rw [ha0]; rfl
  have h7 : a0.eval (.tmp 7) = .pointer (some ⟨b7, 0, none⟩) := by rw [ha0]; rfl
  have h8 : a0.eval (.tmp 8) = .pointer (some ⟨b8, 0, none⟩) := by rw [ha0]; rfl
  have h9 : a0.eval (.tmp 9) = .pointer (some ⟨b9, 0, none⟩) := by rw [ha0]; rfl
  have h10 : a0.eval (.tmp 10) = .pointer (some ⟨b10, 0, none⟩) := by rw [ha0]; rfl
  have h11 : a0.eval (.tmp 11) = .pointer (some ⟨b11, 0, none⟩) := by rw [ha0]; rfl
  have hdf0 : a0.defers = [] := by rw [ha0]
  clear ha0
  refine wp_region_inv (A := fill sl4 a0) (J := J4 W6.drew c) mixed (by kernel_rfl) ?_ ?_ (J4.start _ _)
  · intro i hi L u wx hsL h0 hd hJ
    obtain rfl | rfl | rfl | rfl | rfl | rfl | rfl | rfl | rfl | rfl | rfl | rfl | rfl | rfl | rfl | rfl | rfl | rfl | rfl | rfl | rfl | rfl | rfl | rfl | rfl | rfl | rfl | rfl | rfl | rfl | rfl | rfl | rfl | rfl | rfl | rfl | rfl | rfl | rfl | rfl | rfl | rfl | rfl | rfl | rfl | rfl | rfl | rfl | rfl | rfl | rfl | rfl | rfl | rfl | rfl | rfl | rfl | rfl | rfl | rfl | rfl | rfl | rfl | rfl | rfl | rfl | rfl | rfl | rfl | rfl | rfl | rfl | rfl | rfl | rfl | rfl | rfl | rfl | rfl | rfl | rfl | rfl | rfl | rfl | rfl : i = 0 ∨ i = 1 ∨ i = 2 ∨ i = 3 ∨ i = 4 ∨ i = 5 ∨ i = 6 ∨ i = 7 ∨ i = 8 ∨ i = 9 ∨ i = 10 ∨ i = 11 ∨ i = 12 ∨ i = 13 ∨ i = 14 ∨ i = 15 ∨ i = 16 ∨ i = 17 ∨ i = 18 ∨ i = 19 ∨ i = 20 ∨ i = 21 ∨ i = 22 ∨ i = 23 ∨ i = 24 ∨ i = 25 ∨ i = 26 ∨ i = 27 ∨ i = 28 ∨ i = 29 ∨ i = 30 ∨ i = 31 ∨ i = 32 ∨ i = 33 ∨ i = 34 ∨ i = 35 ∨ i = 36 ∨ i = 37 ∨ i = 38 ∨ i = 39 ∨ i = 40 ∨ i = 41 ∨ i = 42 ∨ i = 43 ∨ i = 44 ∨ i = 45 ∨ i = 46 ∨ i = 47 ∨ i = 48 ∨ i = 49 ∨ i = 50 ∨ i = 51 ∨ i = 52 ∨ i = 53 ∨ i = 54 ∨ i = 55 ∨ i = 56 ∨ i = 57 ∨ i = 58 ∨ i = 59 ∨ i = 60 ∨ i = 61 ∨ i = 62 ∨ i = 63 ∨ i = 64 ∨ i = 65 ∨ i = 66 ∨ i = 67 ∨ i = 68 ∨ i = 69 ∨ i = 70 ∨ i = 71 ∨ i = 72 ∨ i = 73 ∨ i = 74 ∨ i = 75 ∨ i = 76 ∨ i = 77 ∨ i = 78 ∨ i = 79 ∨ i = 80 ∨ i = 81 ∨ i = 82 ∨ i = 83 ∨ i = 84 := by have : i < 85 := hi; omega
    · have hm := run_makeMap (P := Tryd.prog) 100 wx
      refine wpOp_val rfl rfl (.map (some wx.heap.size)) (wx.alloc (.map #[] 0)) (by generalize (fill sl4 a0 u).eval = ev at *; simp [execOp, go_sem, hm]) ⟨_, fill_put (d := 37) rfl (fun k hk => (sl4_inj hk).symm), hJ.make h0 hsL⟩
    · have c0 : (fill sl4 a0 u).eval (.const (.int .i64 0)) = .int .i64 0 := rfl
      have c1 : (fill sl4 a0 u).eval (.const (.int .i64 9223372036854775807)) = .int .i64 9223372036854775807 := rfl
      refine wpOp_val rfl rfl (.agg #[.int .i64 0, .int .i64 9223372036854775807]) wx (by generalize (fill sl4 a0 u).eval = ev at *; simp [execOp, go_sem, c0, c1]) ⟨_, fill_put (d := 38) rfl (fun k hk => (sl4_inj hk).symm), hJ.step h0 (fun y hy => Option.some.inj (Option.some.inj (show some (some _) = some (some y) from hy))) (by decide +kernel) (by decide) (Below.refl _ _) (fun h => absurd h (by decide)) (fun h => absurd h (by decide)) (fun h => absurd h (by decide)) (fun h => absurd h (by decide))⟩
    · have e38 : (fill sl4 a0 u).eval (.tmp 38) = u 1 := fill_in (by omega) rfl
      have f38 : u 1 = .agg #[.int .i64 0, .int .i64 9223372036854775807] := hJ.val 1 _ rfl (hd 1 (by kernel_rfl))
      rw [f38] at e38
      refine wpOp_val rfl rfl (.agg #[.int .i64 0, .int .i64 9223372036854775807, .int .i64 0, .int .i64 0, .int .u64 0]) wx (by generalize (fill sl4 a0 u).eval = ev at *; simp [execOp, go_sem, e38]) ⟨_, fill_put (d := 39) rfl (fun k hk => (sl4_inj hk).symm), hJ.step h0 (fun y hy => Option.some.inj (Option.some.inj (show some (some _) = some (some y) from hy))) (by decide +kernel) (by decide) (Below.refl _ _) (fun h => absurd h (by decide)) (fun h => absurd h (by decide)) (fun h => absurd h (by decide)) (fun h => absurd h (by decide))⟩
    · obtain ⟨b, w', g1, r, hJ'⟩ := hJ.ins (k := 1) (by decide) (by decide) h0 (hd 0 (by kernel_rfl)) (by decide +kernel) rfl undef
      have e37 : (fill sl4 a0 u).eval (.tmp 37) = u 0 := fill_in (by omega) rfl
      rw [g1] at e37
      have e39 : (fill sl4 a0 u).eval (.tmp 39) = u 2 := fill_in (by omega) rfl
      have f39 : u 2 = shV (shT c 1) := hJ.val 2 _ rfl (hd 2 (by kernel_rfl))
      rw [f39] at e39
      have ec : (fill sl4 a0 u).eval (.const (.int .i64 1)) = .int .i64 1 := rfl
      have r' : (Instr.mapUpdate 100 (.map (some b)) (.int .i64 1) (shV (shT c 1))).run Tryd.prog wx = .ok () w' := r
      refine wpOp_skip rfl rfl w' (by generalize (fill sl4 a0 u).eval = ev at *; simp [execOp, go_sem, e37, ec, e39, r']) ⟨undef, fill_none (sl4_no rfl), hJ'⟩
    · have ec : (fill sl4 a0 u).eval (.const (.int .u64 18446744073709551615)) = .int .u64 18446744073709551615 := rfl
      refine wpOp_val rfl rfl (.agg #[.int .i64 0, .int .i64 0, .int .i64 0, .int .i64 0, .int .u64 18446744073709551615]) wx (by generalize (fill sl4 a0 u).eval = ev at *; simp [execOp, go_sem, ec]) ⟨_, fill_put (d := 40) rfl (fun k hk => (sl4_inj hk).symm), hJ.step h0 (fun y hy => Option.some.inj (Option.some.inj (show some (some _) = some (some y) from hy))) (by decide +kernel) (by decide) (Below.refl _ _) (fun h => absurd h (by decide)) (fun h => absurd h (by decide)) (fun h => absurd h (by decide)) (fun h => absurd h (by decide))⟩
    · obtain ⟨b, w', g1, r, hJ'⟩ := hJ.ins (k := 2) (by decide) (by decide) h0 (hd 0 (by kernel_rfl)) (by decide +kernel) rfl undef
      have e37 : (fill sl4 a0 u).eval (.tmp 37) = u 0 := fill_in (by omega) rfl
      rw [g1] at e37
      have e40 : (fill sl4 a0 u).eval (.tmp 40) = u 4 := fill_in (by omega) rfl
      have f40 : u 4 = shV (shT c 2) := hJ.val 4 _ rfl (hd 4 (by kernel_rfl))
      rw [f40] at e40
      have ec : (fill sl4 a0 u).eval (.const (.int .i64 2)) = .int .i64 2 := rfl
      have r' : (Instr.mapUpdate 100 (.map (some b)) (.int .i64 2) (shV (shT c 2))).run Tryd.prog wx = .ok () w' := r
      refine wpOp_skip rfl rfl w' (by generalize (fill sl4 a0 u).eval = ev at *; simp [execOp, go_sem, e37, ec, e40, r']) ⟨undef, fill_none (sl4_no rfl), hJ'⟩
    · have e10 : (fill sl4 a0 u).eval (.tmp 10) = .pointer (some ⟨b10, 0, none⟩) := (fill_out rfl).trans h10
      have bk := (hJ.bel.block b10 (lt_of_blk q10)).trans q10
      have c0 := blk_cell bk 0 _ rfl
      have c1 := blk_cell bk 1 _ rfl
      refine wpOp_val rfl rfl (.agg #[.int .i64 0, .int .i64 1]) wx (by generalize (fill sl4 a0 u).eval = ev at *; simp [execOp, e10, go_sem, c0, c1]) ⟨_, fill_put (d := 41) rfl (fun k hk => (sl4_inj hk).symm), hJ.step h0 (fun y hy => Option.some.inj (Option.some.inj (show some (some _) = some (some y) from hy))) (by decide +kernel) (by decide) (Below.refl _ _) (fun h => absurd h (by decide)) (fun h => absurd h (by decide)) (fun h => absurd h (by decide)) (fun h => absurd h (by decide))⟩
    · have e41 : (fill sl4 a0 u).eval (.tmp 41) = u 6 := fill_in (by omega) rfl
      have f41 : u 6 = .agg #[.int .i64 0, .int .i64 1] := hJ.val 6 _ rfl (hd 6 (by kernel_rfl))
      rw [f41] at e41
      refine wpOp_val rfl rfl (.agg #[.int .i64 0, .int .i64 1, .int .i64 0, .int .i64 0, .int .u64 0]) wx (by generalize (fill sl4 a0 u).eval = ev at *; simp [execOp, go_sem, e41]) ⟨_, fill_put (d := 42) rfl (fun k hk => (sl4_inj hk).symm), hJ.step h0 (fun y hy => Option.some.inj (Option.some.inj (show some (some _) = some (some y) from hy))) (by decide +kernel) (by decide) (Below.refl _ _) (fun h => absurd h (by decide)) (fun h => absurd h (by decide)) (fun h => absurd h (by decide)) (fun h => absurd h (by decide))⟩
    · obtain ⟨b, w', g1, r, hJ'⟩ := hJ.ins (k := 3) (by decide) (by decide) h0 (hd 0 (by kernel_rfl)) (by decide +kernel) rfl undef
      have e37 : (fill sl4 a0 u).eval (.tmp 37) = u 0 := fill_in (by omega) rfl
      rw [g1] at e37
      have e42 : (fill sl4 a0 u).eval (.tmp 42) = u 7 := fill_in (by omega) rfl
      have f42 : u 7 = shV (shT c 3) := hJ.val 7 _ rfl (hd 7 (by kernel_rfl))
      rw [f42] at e42
      have ec : (fill sl4 a0 u).eval (.const (.int .i64 3)) = .int .i64 3 := rfl
      have r' : (Instr.mapUpdate 100 (.map (some b)) (.int .i64 3) (shV (shT c 3))).run Tryd.prog wx = .ok () w' := r
      refine wpOp_skip rfl rfl w' (by generalize (fill sl4 a0 u).eval = ev at *; simp [execOp, go_sem, e37, ec, e42, r']) ⟨undef, fill_none (sl4_no rfl), hJ'⟩
    · have e9 : (fill sl4 a0 u).eval (.tmp 9) = .pointer (some ⟨b9, 0, none⟩) := (fill_out rfl).trans h9
      have bk := (hJ.bel.block b9 (lt_of_blk q9)).trans q9
      have c0 := blk_cell bk 0 _ rfl
      have c1 := blk_cell bk 1 _ rfl
      refine wpOp_val rfl rfl (.agg #[.int .i64 0, .int .i64 31]) wx (by generalize (fill sl4 a0 u).eval = ev at *; simp [execOp, e9, go_sem, c0, c1]) ⟨_, fill_put (d := 43) rfl (fun k hk => (sl4_inj hk).symm), hJ.step h0 (fun y hy => Option.some.inj (Option.some.inj (show some (some _) = some (some y) from hy))) (by decide +kernel) (by decide) (Below.refl _ _) (fun h => absurd h (by decide)) (fun h => absurd h (by decide)) (fun h => absurd h (by decide)) (fun h => absurd h (by decide))⟩
    · have e43 : (fill sl4 a0 u).eval (.tmp 43) = u 9 := fill_in (by omega) rfl
      have f43 : u 9 = .agg #[.int .i64 0, .int .i64 31] := hJ.val 9 _ rfl (hd 9 (by kernel_rfl))
      rw [f43] at e43
      refine wpOp_val rfl rfl (.agg #[.int .i64 0, .int .i64 31, .int .i64 0, .int .i64 0, .int .u64 0]) wx (by generalize (fill sl4 a0 u).eval = ev at *; simp [execOp, go_sem, e43]) ⟨_, fill_put (d := 44) rfl (fun k hk => (sl4_inj hk).symm), hJ.step h0 (fun y hy => Option.some.inj (Option.some.inj (show some (some _) = some (some y) from hy))) (by decide +kernel) (by decide) (Below.refl _ _) (fun h => absurd h (by decide)) (fun h => absurd h (by decide)) (fun h => absurd h (by decide)) (fun h => absurd h (by decide))⟩
    · obtain ⟨b, w', g1, r, hJ'⟩ := hJ.ins (k := 4) (by decide) (by decide) h0 (hd 0 (by kernel_rfl)) (by decide +kernel) rfl undef
      have e37 : (fill sl4 a0 u).eval (.tmp 37) = u 0 := fill_in (by omega) rfl
      rw [g1] at e37
      have e44 : (fill sl4 a0 u).eval (.tmp 44) = u 10 := fill_in (by omega) rfl
      have f44 : u 10 = shV (shT c 4) := hJ.val 10 _ rfl (hd 10 (by kernel_rfl))
      rw [f44] at e44
      have ec : (fill sl4 a0 u).eval (.const (.int .i64 4)) = .int .i64 4 := rfl
      have r' : (Instr.mapUpdate 100 (.map (some b)) (.int .i64 4) (shV (shT c 4))).run Tryd.prog wx = .ok () w' := r
      refine wpOp_skip rfl rfl w' (by generalize (fill sl4 a0 u).eval = ev at *; simp [execOp, go_sem, e37, ec, e44, r']) ⟨undef, fill_none (sl4_no rfl), hJ'⟩
    · have e9 : (fill sl4 a0 u).eval (.tmp 9) = .pointer (some ⟨b9, 0, none⟩) := (fill_out rfl).trans h9
      have bk := (hJ.bel.block b9 (lt_of_blk q9)).trans q9
      have c0 := blk_cell bk 0 _ rfl
      have c1 := blk_cell bk 1 _ rfl
      refine wpOp_val rfl rfl (.agg #[.int .i64 0, .int .i64 31]) wx (by generalize (fill sl4 a0 u).eval = ev at *; simp [execOp, e9, go_sem, c0, c1]) ⟨_, fill_put (d := 45) rfl (fun k hk => (sl4_inj hk).symm), hJ.step h0 (fun y hy => Option.some.inj (Option.some.inj (show some (some _) = some (some y) from hy))) (by decide +kernel) (by decide) (Below.refl _ _) (fun h => absurd h (by decide)) (fun h => absurd h (by decide)) (fun h => absurd h (by decide)) (fun h => absurd h (by decide))⟩
    · have e45 : (fill sl4 a0 u).eval (.tmp 45) = u 12 := fill_in (by omega) rfl
      have f45 : u 12 = .agg #[.int .i64 0, .int .i64 31] := hJ.val 12 _ rfl (hd 12 (by kernel_rfl))
      rw [f45] at e45
      refine wpOp_val rfl rfl (.agg #[.int .i64 0, .int .i64 31, .int .i64 0, .int .i64 0, .int .u64 0]) wx (by generalize (fill sl4 a0 u).eval = ev at *; simp [execOp, go_sem, e45]) ⟨_, fill_put (d := 46) rfl (fun k hk => (sl4_inj hk).symm), hJ.step h0 (fun y hy => Option.some.inj (Option.some.inj (show some (some _) = some (some y) from hy))) (by decide +kernel) (by decide) (Below.refl _ _) (fun h => absurd h (by decide)) (fun h => absurd h (by decide)) (fun h => absurd h (by decide)) (fun h => absurd h (by decide))⟩
    · obtain ⟨b, w', g1, r, hJ'⟩ := hJ.ins (k := 5) (by decide) (by decide) h0 (hd 0 (by kernel_rfl)) (by decide +kernel) rfl undef
      have e37 : (fill sl4 a0 u).eval (.tmp 37) = u 0 := fill_in (by omega) rfl
      rw [g1] at e37
      have e46 : (fill sl4 a0 u).eval (.tmp 46) = u 13 := fill_in (by omega) rfl
      have f46 : u 13 = shV (shT c 5) := hJ.val 13 _ rfl (hd 13 (by kernel_rfl))
      rw [f46] at e46
      have ec : (fill sl4 a0 u).eval (.const (.int .i64 5)) = .int .i64 5 := rfl
      have r' : (Instr.mapUpdate 100 (.map (some b)) (.int .i64 5) (shV (shT c 5))).run Tryd.prog wx = .ok () w' := r
      refine wpOp_skip rfl rfl w' (by generalize (fill sl4 a0 u).eval = ev at *; simp [execOp, go_sem, e37, ec, e46, r']) ⟨undef, fill_none (sl4_no rfl), hJ'⟩
    · have e3 : (fill sl4 a0 u).eval (.tmp 3) = .pointer (some ⟨b3, 0, none⟩) := (fill_out rfl).trans h3
      have bk := (hJ.bel.block b3 (lt_of_blk R3)).trans R3
      have c0 := blk_cell bk 0 _ rfl
      have c1 := blk_cell bk 1 _ rfl
      refine wpOp_val rfl rfl (.agg #[.int .i64 0, .int .i64 ((c.P.length : Int) - 1)]) wx (by generalize (fill sl4 a0 u).eval = ev at *; simp [execOp, e3, go_sem, c0, c1]) ⟨_, fill_put (d := 47) rfl (fun k hk => (sl4_inj hk).symm), hJ.step h0 (fun y hy => Option.some.inj (Option.some.inj (show some (some _) = some (some y) from hy))) (by decide +kernel) (by decide) (Below.refl _ _) (fun h => absurd h (by decide)) (fun h => absurd h (by decide)) (fun h => absurd h (by decide)) (fun h => absurd h (by decide))⟩
    · have e47 : (fill sl4 a0 u).eval (.tmp 47) = u 15 := fill_in (by omega) rfl
      have f47 : u 15 = .agg #[.int .i64 0, .int .i64 ((c.P.length : Int) - 1)] := hJ.val 15 _ rfl (hd 15 (by kernel_rfl))
      rw [f47] at e47
      refine wpOp_val rfl rfl (.agg #[.int .i64 0, .int .i64 ((c.P.length : Int) - 1), .int .i64 0, .int .i64 0, .int .u64 0]) wx (by generalize (fill sl4 a0 u).eval = ev at *; simp [execOp, go_sem, e47]) ⟨_, fill_put (d := 48) rfl (fun k hk => (sl4_inj hk).symm), hJ.step h0 (fun y hy => Option.some.inj (Option.some.inj (show some (some _) = some (some y) from hy))) (by decide +kernel) (by decide) (Below.refl _ _) (fun h => absurd h (by decide)) (fun h => absurd h (by decide)) (fun h => absurd h (by decide)) (fun h => absurd h (by decide))⟩
    · obtain ⟨b, w', g1, r, hJ'⟩ := hJ.ins (k := 6) (by decide) (by decide) h0 (hd 0 (by kernel_rfl)) (by decide +kernel) rfl undef
      have e37 : (fill sl4 a0 u).eval (.tmp 37) = u 0 := fill_in (by omega) rfl
      rw [g1] at e37
      have e48 : (fill sl4 a0 u).eval (.tmp 48) = u 16 := fill_in (by omega) rfl
      have f48 : u 16 = shV (shT c 6) := hJ.val 16 _ rfl (hd 16 (by kernel_rfl))
      rw [f48] at e48
      have ec : (fill sl4 a0 u).eval (.const (.int .i64 6)) = .int .i64 6 := rfl
      have r' : (Instr.mapUpdate 100 (.map (some b)) (.int .i64 6) (shV (shT c 6))).run Tryd.prog wx = .ok () w' := r
      refine wpOp_skip rfl rfl w' (by generalize (fill sl4 a0 u).eval = ev at *; simp [execOp, go_sem, e37, ec, e48, r']) ⟨undef, fill_none (sl4_no rfl), hJ'⟩
    · have e3 : (fill sl4 a0 u).eval (.tmp 3) = .pointer (some ⟨b3, 0, none⟩) := (fill_out rfl).trans h3
      have bk := (hJ.bel.block b3 (lt_of_blk R3)).trans R3
      have c0 := blk_cell bk 0 _ rfl
      have c1 := blk_cell bk 1 _ rfl
      refine wpOp_val rfl rfl (.agg #[.int .i64 0, .int .i64 ((c.P.length : Int) - 1)]) wx (by generalize (fill sl4 a0 u).eval = ev at *; simp [execOp, e3, go_sem, c0, c1]) ⟨_, fill_put (d := 49) rfl (fun k hk => (sl4_inj hk).symm), hJ.step h0 (fun y hy => Option.some.inj (Option.some.inj (show some (some _) = some (some y) from hy))) (by decide +kernel) (by decide) (Below.refl _ _) (fun h => absurd h (by decide)) (fun h => absurd h (by decide)) (fun h => absurd h (by decide)) (fun h => absurd h (by decide))⟩
    · have e49 : (fill sl4 a0 u).eval (.tmp 49) = u 18 := fill_in (by omega) rfl
      have f49 : u 18 = .agg #[.int .i64 0, .int .i64 ((c.P.length : Int) - 1)] := hJ.val 18 _ rfl (hd 18 (by kernel_rfl))
      rw [f49] at e49
      refine wpOp_val rfl rfl (.agg #[.int .i64 0, .int .i64 ((c.P.length : Int) - 1), .int .i64 0, .int .i64 0, .int .u64 0]) wx (by generalize (fill sl4 a0 u).eval = ev at *; simp [execOp, go_sem, e49]) ⟨_, fill_put (d := 50) rfl (fun k hk => (sl4_inj hk).symm), hJ.step h0 (fun y hy => Option.some.inj (Option.some.inj (show some (some _) = some (some y) from hy))) (by decide +kernel) (by decide) (Below.refl _ _) (fun h => absurd h (by decide)) (fun h => absurd h (by decide)) (fun h => absurd h (by decide)) (fun h => absurd h (by decide))⟩
    · obtain ⟨b, w', g1, r, hJ'⟩ := hJ.ins (k := 7) (by decide) (by decide) h0 (hd 0 (by kernel_rfl)) (by decide +kernel) rfl undef
      have e37 : (fill sl4 a0 u).eval (.tmp 37) = u 0 := fill_in (by omega) rfl
      rw [g1] at e37
      have e50 : (fill sl4 a0 u).eval (.tmp 50) = u 19 := fill_in (by omega) rfl
      have f50 : u 19 = shV (shT c 7) := hJ.val 19 _ rfl (hd 19 (by kernel_rfl))
      rw [f50] at e50
      have ec : (fill sl4 a0 u).eval (.const (.int .i64 7)) = .int .i64 7 := rfl
      have r' : (Instr.mapUpdate 100 (.map (some b)) (.int .i64 7) (shV (shT c 7))).run Tryd.prog wx = .ok () w' := r
      refine wpOp_skip rfl rfl w' (by generalize (fill sl4 a0 u).eval = ev at *; simp [execOp, go_sem, e37, ec, e50, r']) ⟨undef, fill_none (sl4_no rfl), hJ'⟩
    · have e3 : (fill sl4 a0 u).eval (.tmp 3) = .pointer (some ⟨b3, 0, none⟩) := (fill_out rfl).trans h3
      have bk := (hJ.bel.block b3 (lt_of_blk R3)).trans R3
      have c0 := blk_cell bk 0 _ rfl
      have c1 := blk_cell bk 1 _ rfl
      refine wpOp_val rfl rfl (.agg #[.int .i64 0, .int .i64 ((c.P.length : Int) - 1)]) wx (by generalize (fill sl4 a0 u).eval = ev at *; simp [execOp, e3, go_sem, c0, c1]) ⟨_, fill_put (d := 51) rfl (fun k hk => (sl4_inj hk).symm), hJ.step h0 (fun y hy => Option.some.inj (Option.some.inj (show some (some _) = some (some y) from hy))) (by decide +kernel) (by decide) (Below.refl _ _) (fun h => absurd h (by decide)) (fun h => absurd h (by decide)) (fun h => absurd h (by decide)) (fun h => absurd h (by decide))⟩
    · have e11 : (fill sl4 a0 u).eval (.tmp 11) = .pointer (some ⟨b11, 0, none⟩) := (fill_out rfl).trans h11
      have bk := (hJ.bel.block b11 (lt_of_blk q11)).trans q11
      have c0 := blk_cell bk 0 _ rfl
      have c1 := blk_cell bk 1 _ rfl
      refine wpOp_val rfl rfl (.agg #[.int .i64 1, .int .i64 64]) wx (by generalize (fill sl4 a0 u).eval = ev at *; simp [execOp, e11, go_sem, c0, c1]) ⟨_, fill_put (d := 52) rfl (fun k hk => (sl4_inj hk).symm), hJ.step h0 (fun y hy => Option.some.inj (Option.some.inj (show some (some _) = some (some y) from hy))) (by decide +kernel) (by decide) (Below.refl _ _) (fun h => absurd h (by decide)) (fun h => absurd h (by decide)) (fun h => absurd h (by decide)) (fun h => absurd h (by decide))⟩
    · have e51 : (fill sl4 a0 u).eval (.tmp 51) = u 21 := fill_in (by omega) rfl
      have f51 : u 21 = .agg #[.int .i64 0, .int .i64 ((c.P.length : Int) - 1)] := hJ.val 21 _ rfl (hd 21 (by kernel_rfl))
      rw [f51] at e51
      have e52 : (fill sl4 a0 u).eval (.tmp 52) = u 22 := fill_in (by omega) rfl
      have f52 : u 22 = .agg #[.int .i64 1, .int .i64 64] := hJ.val 22 _ rfl (hd 22 (by kernel_rfl))
      rw [f52] at e52
      refine wpOp_val rfl rfl (.agg #[.int .i64 0, .int .i64 ((c.P.length : Int) - 1), .int .i64 1, .int .i64 64, .int .u64 0]) wx (by generalize (fill sl4 a0 u).eval = ev at *; simp [execOp, go_sem, e51, e52]) ⟨_, fill_put (d := 53) rfl (fun k hk => (sl4_inj hk).symm), hJ.step h0 (fun y hy => Option.some.inj (Option.some.inj (show some (some _) = some (some y) from hy))) (by decide +kernel) (by decide) (Below.refl _ _) (fun h => absurd h (by decide)) (fun h => absurd h (by decide)) (fun h => absurd h (by decide)) (fun h => absurd h (by decide))⟩
    · obtain ⟨b, w', g1, r, hJ'⟩ := hJ.ins (k := 8) (by decide) (by decide) h0 (hd 0 (by kernel_rfl)) (by decide +kernel) rfl undef
      have e37 : (fill sl4 a0 u).eval (.tmp 37) = u 0 := fill_in (by omega) rfl
      rw [g1] at e37
      have e53 : (fill sl4 a0 u).eval (.tmp 53) = u 23 := fill_in (by omega) rfl
      have f53 : u 23 = shV (shT c 8) := hJ.val 23 _ rfl (hd 23 (by kernel_rfl))
      rw [f53] at e53
      have ec : (fill sl4 a0 u).eval (.const (.int .i64 8)) = .int .i64 8 := rfl
      have r' : (Instr.mapUpdate 100 (.map (some b)) (.int .i64 8) (shV (shT c 8))).run Tryd.prog wx = .ok () w' := r
      refine wpOp_skip rfl rfl w' (by generalize (fill sl4 a0 u).eval = ev at *; simp [execOp, go_sem, e37, ec, e53, r']) ⟨undef, fill_none (sl4_no rfl), hJ'⟩
    · have e3 : (fill sl4 a0 u).eval (.tmp 3) = .pointer (some ⟨b3, 0, none⟩) := (fill_out rfl).trans h3
      have bk := (hJ.bel.block b3 (lt_of_blk R3)).trans R3
      have c0 := blk_cell bk 0 _ rfl
      have c1 := blk_cell bk 1 _ rfl
      refine wpOp_val rfl rfl (.agg #[.int .i64 0, .int .i64 ((c.P.length : Int) - 1)]) wx (by generalize (fill sl4 a0 u).eval = ev at *; simp [execOp, e3, go_sem, c0, c1]) ⟨_, fill_put (d := 54) rfl (fun k hk => (sl4_inj hk).symm), hJ.step h0 (fun y hy => Option.some.inj (Option.some.inj (show some (some _) = some (some y) from hy))) (by decide +kernel) (by decide) (Below.refl _ _) (fun h => absurd h (by decide)) (fun h => absurd h (by decide)) (fun h => absurd h (by decide)) (fun h => absurd h (by decide))⟩
    · have e11 : (fill sl4 a0 u).eval (.tmp 11) = .pointer (some ⟨b11, 0, none⟩) := (fill_out rfl).trans h11
      have bk := (hJ.bel.block b11 (lt_of_blk q11)).trans q11
      have c0 := blk_cell bk 0 _ rfl
      have c1 := blk_cell bk 1 _ rfl
      refine wpOp_val rfl rfl (.agg #[.int .i64 1, .int .i64 64]) wx (by generalize (fill sl4 a0 u).eval = ev at *; simp [execOp, e11, go_sem, c0, c1]) ⟨_, fill_put (d := 55) rfl (fun k hk => (sl4_inj hk).symm), hJ.step h0 (fun y hy => Option.some.inj (Option.some.inj (show some (some _) = some (some y) from hy))) (by decide +kernel) (by decide) (Below.refl _ _) (fun h => absurd h (by decide)) (fun h => absurd h (by decide)) (fun h => absurd h (by decide)) (fun h => absurd h (by decide))⟩
    · have e54 : (fill sl4 a0 u).eval (.tmp 54) = u 25 := fill_in (by omega) rfl
      have f54 : u 25 = .agg #[.int .i64 0, .int .i64 ((c.P.length : Int) - 1)] := hJ.val 25 _ rfl (hd 25 (by kernel_rfl))
      rw [f54] at e54
      have e55 : (fill sl4 a0 u).eval (.tmp 55) = u 26 := fill_in (by omega) rfl
      have f55 : u 26 = .agg #[.int .i64 1, .int .i64 64] := hJ.val 26 _ rfl (hd 26 (by kernel_rfl))
      rw [f55] at e55
      refine wpOp_val rfl rfl (.agg #[.int .i64 0, .int .i64 ((c.P.length : Int) - 1), .int .i64 1, .int .i64 64, .int .u64 0]) wx (by generalize (fill sl4 a0 u).eval = ev at *; simp [execOp, go_sem, e54, e55]) ⟨_, fill_put (d := 56) rfl (fun k hk => (sl4_inj hk).symm), hJ.step h0 (fun y hy => Option.some.inj (Option.some.inj (show some (some _) = some (some y) from hy))) (by decide +kernel) (by decide) (Below.refl _ _) (fun h => absurd h (by decide)) (fun h => absurd h (by decide)) (fun h => absurd h (by decide)) (fun h => absurd h (by decide))⟩
    · obtain ⟨b, w', g1, r, hJ'⟩ := hJ.ins (k := 9) (by decide) (by decide) h0 (hd 0 (by kernel_rfl)) (by decide +kernel) rfl undef
      have e37 : (fill sl4 a0 u).eval (.tmp 37) = u 0 := fill_in (by omega) rfl
      rw [g1] at e37
      have e56 : (fill sl4 a0 u).eval (.tmp 56) = u 27 := fill_in (by omega) rfl
      have f56 : u 27 = shV (shT c 9) := hJ.val 27 _ rfl (hd 27 (by kernel_rfl))
      rw [f56] at e56
      have ec : (fill sl4 a0 u).eval (.const (.int .i64 9)) = .int .i64 9 := rfl
      have r' : (Instr.mapUpdate 100 (.map (some b)) (.int .i64 9) (shV (shT c 9))).run Tryd.prog wx = .ok () w' := r
      refine wpOp_skip rfl rfl w' (by generalize (fill sl4 a0 u).eval = ev at *; simp [execOp, go_sem, e37, ec, e56, r']) ⟨undef, fill_none (sl4_no rfl), hJ'⟩
    · have ef : (fill sl4 a0 u).eval (.func 57) = .func (.func 57) #[] #[] := rfl
      have ec : (fill sl4 a0 u).eval (.const (.int .i64 10)) = .int .i64 10 := rfl
      refine wpOp_call rfl rfl 57 #[.int .i64 10] (by generalize (fill sl4 a0 u).eval = ev at *; simp [execOp, resolve, invoke, ef, ec, go_sem]) ((operators_un _).mono ?_)
      rintro e w2 ⟨g, rfl, _, hb2⟩
      exact ⟨_, rfl, _, fill_put (d := 57) rfl (fun k hk => (sl4_inj hk).symm), hJ.step h0 (fun y hy => by cases hy) (by decide +kernel) (by decide) hb2 (fun h => ⟨_, rfl⟩) (fun h => absurd h (by decide)) (fun h => absurd h (by decide)) (fun h => absurd h (by decide))⟩
    · obtain ⟨g, hg⟩ := hJ.c1 (hd 29 (by kernel_rfl))
      have e57 : (fill sl4 a0 u).eval (.tmp 57) = u 29 := fill_in (by omega) rfl
      rw [hg] at e57
      refine wpOp_val rfl rfl (.int .i64 4) wx (by generalize (fill sl4 a0 u).eval = ev at *; simp [execOp, resolve, invoke, builtin, Builtin.len_, e57, go_sem]) ⟨_, fill_put (d := 58) rfl (fun k hk => (sl4_inj hk).symm), hJ.step h0 (fun y hy => Option.some.inj (Option.some.inj (show some (some _) = some (some y) from hy))) (by decide +kernel) (by decide) (Below.refl _ _) (fun h => absurd h (by decide)) (fun h => absurd h (by decide)) (fun h => absurd h (by decide)) (fun h => absurd h (by decide))⟩
    · have e58 : (fill sl4 a0 u).eval (.tmp 58) = u 30 := fill_in (by omega) rfl
      have f58 : u 30 = .int .i64 4 := hJ.val 30 _ rfl (hd 30 (by kernel_rfl))
      rw [f58] at e58
      have ec : (fill sl4 a0 u).eval (.const (.int .i64 1)) = .int .i64 1 := rfl
      refine wpOp_val rfl rfl (.agg #[.int .i64 1, .int .i64 4]) wx (by generalize (fill sl4 a0 u).eval = ev at *; simp [execOp, go_sem, e58, ec]) ⟨_, fill_put (d := 59) rfl (fun k hk => (sl4_inj hk).symm), hJ.step h0 (fun y hy => Option.some.inj (Option.some.inj (show some (some _) = some (some y) from hy))) (by decide +kernel) (by decide) (Below.refl _ _) (fun h => absurd h (by decide)) (fun h => absurd h (by decide)) (fun h => absurd h (by decide)) (fun h => absurd h (by decide))⟩
    · have e59 : (fill sl4 a0 u).eval (.tmp 59) = u 31 := fill_in (by omega) rfl
      have f59 : u 31 = .agg #[.int .i64 1, .int .i64 4] := hJ.val 31 _ rfl (hd 31 (by kernel_rfl))
      rw [f59] at e59
      refine wpOp_val rfl rfl (.agg #[.int .i64 1, .int .i64 4, .int .i64 0, .int .i64 0, .int .u64 0]) wx (by generalize (fill sl4 a0 u).eval = ev at *; simp [execOp, go_sem, e59]) ⟨_, fill_put (d := 60) rfl (fun k hk => (sl4_inj hk).symm), hJ.step h0 (fun y hy => Option.some.inj (Option.some.inj (show some (some _) = some (some y) from hy))) (by decide +kernel) (by decide) (Below.refl _ _) (fun h => absurd h (by decide)) (fun h => absurd h (by decide)) (fun h => absurd h (by decide)) (fun h => absurd h (by decide))⟩
    · obtain ⟨b, w', g1, r, hJ'⟩ := hJ.ins (k := 10) (by decide) (by decide) h0 (hd 0 (by kernel_rfl)) (by decide +kernel) rfl undef
      have e37 : (fill sl4 a0 u).eval (.tmp 37) = u 0 := fill_in (by omega) rfl
      rw [g1] at e37
      have e60 : (fill sl4 a0 u).eval (.tmp 60) = u 32 := fill_in (by omega) rfl
      have f60 : u 32 = shV (shT c 10) := hJ.val 32 _ rfl (hd 32 (by kernel_rfl))
      rw [f60] at e60
      have ec : (fill sl4 a0 u).eval (.const (.int .i64 10)) = .int .i64 10 := rfl
      have r' : (Instr.mapUpdate 100 (.map (some b)) (.int .i64 10) (shV (shT c 10))).run Tryd.prog wx = .ok () w' := r
      refine wpOp_skip rfl rfl w' (by generalize (fill sl4 a0 u).eval = ev at *; simp [execOp, go_sem, e37, ec, e60, r']) ⟨undef, fill_none (sl4_no rfl), hJ'⟩
    · have ef : (fill sl4 a0 u).eval (.func 57) = .func (.func 57) #[] #[] := rfl
      have ec : (fill sl4 a0 u).eval (.const (.int .i64 11)) = .int .i64 11 := rfl
      refine wpOp_call rfl rfl 57 #[.int .i64 11] (by generalize (fill sl4 a0 u).eval = ev at *; simp [execOp, resolve, invoke, ef, ec, go_sem]) ((operators_bin _).mono ?_)
      rintro e w2 ⟨g, rfl, _, hb2⟩
      exact ⟨_, rfl, _, fill_put (d := 61) rfl (fun k hk => (sl4_inj hk).symm), hJ.step h0 (fun y hy => by cases hy) (by decide +kernel) (by decide) hb2 (fun h => absurd h (by decide)) (fun h => ⟨_, rfl⟩) (fun h => absurd h (by decide)) (fun h => absurd h (by decide))⟩
    · obtain ⟨g, hg⟩ := hJ.c2 (hd 34 (by kernel_rfl))
      have e61 : (fill sl4 a0 u).eval (.tmp 61) = u 34 := fill_in (by omega) rfl
      rw [hg] at e61
      refine wpOp_val rfl rfl (.int .i64 11) wx (by generalize (fill sl4 a0 u).eval = ev at *; simp [execOp, resolve, invoke, builtin, Builtin.len_, e61, go_sem]) ⟨_, fill_put (d := 62) rfl (fun k hk => (sl4_inj hk).symm), hJ.step h0 (fun y hy => Option.some.inj (Option.some.inj (show some (some _) = some (some y) from hy))) (by decide +kernel) (by decide) (Below.refl _ _) (fun h => absurd h (by decide)) (fun h => absurd h (by decide)) (fun h => absurd h (by decide)) (fun h => absurd h (by decide))⟩
    · have e62 : (fill sl4 a0 u).eval (.tmp 62) = u 35 := fill_in (by omega) rfl
      have f62 : u 35 = .int .i64 11 := hJ.val 35 _ rfl (hd 35 (by kernel_rfl))
      rw [f62] at e62
      have ec : (fill sl4 a0 u).eval (.const (.int .i64 1)) = .int .i64 1 := rfl
      refine wpOp_val rfl rfl (.agg #[.int .i64 1, .int .i64 11]) wx (by generalize (fill sl4 a0 u).eval = ev at *; simp [execOp, go_sem, e62, ec]) ⟨_, fill_put (d := 63) rfl (fun k hk => (sl4_inj hk).symm), hJ.step h0 (fun y hy => Option.some.inj (Option.some.inj (show some (some _) = some (some y) from hy))) (by decide +kernel) (by decide) (Below.refl _ _) (fun h => absurd h (by decide)) (fun h => absurd h (by decide)) (fun h => absurd h (by decide)) (fun h => absurd h (by decide))⟩
    · have e63 : (fill sl4 a0 u).eval (.tmp 63) = u 36 := fill_in (by omega) rfl
      have f63 : u 36 = .agg #[.int .i64 1, .int .i64 11] := hJ.val 36 _ rfl (hd 36 (by kernel_rfl))
      rw [f63] at e63
      refine wpOp_val rfl rfl (.agg #[.int .i64 1, .int .i64 11, .int .i64 0, .int .i64 0, .int .u64 0]) wx (by generalize (fill sl4 a0 u).eval = ev at *; simp [execOp, go_sem, e63]) ⟨_, fill_put (d := 64) rfl (fun k hk => (sl4_inj hk).symm), hJ.step h0 (fun y hy => Option.some.inj (Option.some.inj (show some (some _) = some (some y) from hy))) (by decide +kernel) (by decide) (Below.refl _ _) (fun h => absurd h (by decide)) (fun h => absurd h (by decide)) (fun h => absurd h (by decide)) (fun h => absurd h (by decide))⟩
    · obtain ⟨b, w', g1, r, hJ'⟩ := hJ.ins (k := 11) (by decide) (by decide) h0 (hd 0 (by kernel_rfl)) (by decide +kernel) rfl undef
      have e37 : (fill sl4 a0 u).eval (.tmp 37) = u 0 := fill_in (by omega) rfl
      rw [g1] at e37
      have e64 : (fill sl4 a0 u).eval (.tmp 64) = u 37 := fill_in (by omega) rfl
      have f64 : u 37 = shV (shT c 11) := hJ.val 37 _ rfl (hd 37 (by kernel_rfl))
      rw [f64] at e64
      have ec : (fill sl4 a0 u).eval (.const (.int .i64 11)) = .int .i64 11 := rfl
      have r' : (Instr.mapUpdate 100 (.map (some b)) (.int .i64 11) (shV (shT c 11))).run Tryd.prog wx = .ok () w' := r
      refine wpOp_skip rfl rfl w' (by generalize (fill sl4 a0 u).eval = ev at *; simp [execOp, go_sem, e37, ec, e64, r']) ⟨undef, fill_none (sl4_no rfl), hJ'⟩
    · have e4 : (fill sl4 a0 u).eval (.tmp 4) = .pointer (some ⟨b4, 0, none⟩) := (fill_out rfl).trans h4
      have bk := (hJ.bel.block b4 (lt_of_blk R4)).trans R4
      have c0 := blk_cell bk 0 _ rfl
      have c1 := blk_cell bk 1 _ rfl
      refine wpOp_val rfl rfl (.agg #[.int .i64 0, .int .i64 ((c.B.length : Int) - 1)]) wx (by generalize (fill sl4 a0 u).eval = ev at *; simp [execOp, e4, go_sem, c0, c1]) ⟨_, fill_put (d := 65) rfl (fun k hk => (sl4_inj hk).symm), hJ.step h0 (fun y hy => Option.some.inj (Option.some.inj (show some (some _) = some (some y) from hy))) (by decide +kernel) (by decide) (Below.refl _ _) (fun h => absurd h (by decide)) (fun h => absurd h (by decide)) (fun h => absurd h (by decide)) (fun h => absurd h (by decide))⟩
    · have e65 : (fill sl4 a0 u).eval (.tmp 65) = u 39 := fill_in (by omega) rfl
      have f65 : u 39 = .agg #[.int .i64 0, .int .i64 ((c.B.length : Int) - 1)] := hJ.val 39 _ rfl (hd 39 (by kernel_rfl))
      rw [f65] at e65
      refine wpOp_val rfl rfl (.agg #[.int .i64 0, .int .i64 ((c.B.length : Int) - 1), .int .i64 0, .int .i64 0, .int .u64 0]) wx (by generalize (fill sl4 a0 u).eval = ev at *; simp [execOp, go_sem, e65]) ⟨_, fill_put (d := 66) rfl (fun k hk => (sl4_inj hk).symm), hJ.step h0 (fun y hy => Option.some.inj (Option.some.inj (show some (some _) = some (some y) from hy))) (by decide +kernel) (by decide) (Below.refl _ _) (fun h => absurd h (by decide)) (fun h => absurd h (by decide)) (fun h => absurd h (by decide)) (fun h => absurd h (by decide))⟩
    · obtain ⟨b, w', g1, r, hJ'⟩ := hJ.ins (k := 12) (by decide) (by decide) h0 (hd 0 (by kernel_rfl)) (by decide +kernel) rfl undef
      have e37 : (fill sl4 a0 u).eval (.tmp 37) = u 0 := fill_in (by omega) rfl
      rw [g1] at e37
      have e66 : (fill sl4 a0 u).eval (.tmp 66) = u 40 := fill_in (by omega) rfl
      have f66 : u 40 = shV (shT c 12) := hJ.val 40 _ rfl (hd 40 (by kernel_rfl))
      rw [f66] at e66
      have ec : (fill sl4 a0 u).eval (.const (.int .i64 12)) = .int .i64 12 := rfl
      have r' : (Instr.mapUpdate 100 (.map (some b)) (.int .i64 12) (shV (shT c 12))).run Tryd.prog wx = .ok () w' := r
      refine wpOp_skip rfl rfl w' (by generalize (fill sl4 a0 u).eval = ev at *; simp [execOp, go_sem, e37, ec, e66, r']) ⟨undef, fill_none (sl4_no rfl), hJ'⟩
    · have e4 : (fill sl4 a0 u).eval (.tmp 4) = .pointer (some ⟨b4, 0, none⟩) := (fill_out rfl).trans h4
      have bk := (hJ.bel.block b4 (lt_of_blk R4)).trans R4
      have c0 := blk_cell bk 0 _ rfl
      have c1 := blk_cell bk 1 _ rfl
      refine wpOp_val rfl rfl (.agg #[.int .i64 0, .int .i64 ((c.B.length : Int) - 1)]) wx (by generalize (fill sl4 a0 u).eval = ev at *; simp [execOp, e4, go_sem, c0, c1]) ⟨_, fill_put (d := 67) rfl (fun k hk => (sl4_inj hk).symm), hJ.step h0 (fun y hy => Option.some.inj (Option.some.inj (show some (some _) = some (some y) from hy))) (by decide +kernel) (by decide) (Below.refl _ _) (fun h => absurd h (by decide)) (fun h => absurd h (by decide)) (fun h => absurd h (by decide)) (fun h => absurd h (by decide))⟩
    · have e10 : (fill sl4 a0 u).eval (.tmp 10) = .pointer (some ⟨b10, 0, none⟩) := (fill_out rfl).trans h10
      have bk := (hJ.bel.block b10 (lt_of_blk q10)).trans q10
      have c0 := blk_cell bk 0 _ rfl
      have c1 := blk_cell bk 1 _ rfl
      refine wpOp_val rfl rfl (.agg #[.int .i64 0, .int .i64 1]) wx (by generalize (fill sl4 a0 u).eval = ev at *; simp [execOp, e10, go_sem, c0, c1]) ⟨_, fill_put (d := 68) rfl (fun k hk => (sl4_inj hk).symm), hJ.step h0 (fun y hy => Option.some.inj (Option.some.inj (show some (some _) = some (some y) from hy))) (by decide +kernel) (by decide) (Below.refl _ _) (fun h => absurd h (by decide)) (fun h => absurd h (by decide)) (fun h => absurd h (by decide)) (fun h => absurd h (by decide))⟩
    · have e67 : (fill sl4 a0 u).eval (.tmp 67) = u 42 := fill_in (by omega) rfl
      have f67 : u 42 = .agg #[.int .i64 0, .int .i64 ((c.B.length : Int) - 1)] := hJ.val 42 _ rfl (hd 42 (by kernel_rfl))
      rw [f67] at e67
      have e68 : (fill sl4 a0 u).eval (.tmp 68) = u 43 := fill_in (by omega) rfl
      have f68 : u 43 = .agg #[.int .i64 0, .int .i64 1] := hJ.val 43 _ rfl (hd 43 (by kernel_rfl))
      rw [f68] at e68
      refine wpOp_val rfl rfl (.agg #[.int .i64 0, .int .i64 ((c.B.length : Int) - 1), .int .i64 0, .int .i64 1, .int .u64 0]) wx (by generalize (fill sl4 a0 u).eval = ev at *; simp [execOp, go_sem, e67, e68]) ⟨_, fill_put (d := 69) rfl (fun k hk => (sl4_inj hk).symm), hJ.step h0 (fun y hy => Option.some.inj (Option.some.inj (show some (some _) = some (some y) from hy))) (by decide +kernel) (by decide) (Below.refl _ _) (fun h => absurd h (by decide)) (fun h => absurd h (by decide)) (fun h => absurd h (by decide)) (fun h => absurd h (by decide))⟩
    · obtain ⟨b, w', g1, r, hJ'⟩ := hJ.ins (k := 13) (by decide) (by decide) h0 (hd 0 (by kernel_rfl)) (by decide +kernel) rfl undef
      have e37 : (fill sl4 a0 u).eval (.tmp 37) = u 0 := fill_in (by omega) rfl
      rw [g1] at e37
      have e69 : (fill sl4 a0 u).eval (.tmp 69) = u 44 := fill_in (by omega) rfl
      have f69 : u 44 = shV (shT c 13) := hJ.val 44 _ rfl (hd 44 (by kernel_rfl))
      rw [f69] at e69
      have ec : (fill sl4 a0 u).eval (.const (.int .i64 13)) = .int .i64 13 := rfl
      have r' : (Instr.mapUpdate 100 (.map (some b)) (.int .i64 13) (shV (shT c 13))).run Tryd.prog wx = .ok () w' := r
      refine wpOp_skip rfl rfl w' (by generalize (fill sl4 a0 u).eval = ev at *; simp [execOp, go_sem, e37, ec, e69, r']) ⟨undef, fill_none (sl4_no rfl), hJ'⟩
    · have e4 : (fill sl4 a0 u).eval (.tmp 4) = .pointer (some ⟨b4, 0, none⟩) := (fill_out rfl).trans h4
      have bk := (hJ.bel.block b4 (lt_of_blk R4)).trans R4
      have c0 := blk_cell bk 0 _ rfl
      have c1 := blk_cell bk 1 _ rfl
      refine wpOp_val rfl rfl (.agg #[.int .i64 0, .int .i64 ((c.B.length : Int) - 1)]) wx (by generalize (fill sl4 a0 u).eval = ev at *; simp [execOp, e4, go_sem, c0, c1]) ⟨_, fill_put (d := 70) rfl (fun k hk => (sl4_inj hk).symm), hJ.step h0 (fun y hy => Option.some.inj (Option.some.inj (show some (some _) = some (some y) from hy))) (by decide +kernel) (by decide) (Below.refl _ _) (fun h => absurd h (by decide)) (fun h => absurd h (by decide)) (fun h => absurd h (by decide)) (fun h => absurd h (by decide))⟩
    · have e10 : (fill sl4 a0 u).eval (.tmp 10) = .pointer (some ⟨b10, 0, none⟩) := (fill_out rfl).trans h10
      have bk := (hJ.bel.block b10 (lt_of_blk q10)).trans q10
      have c0 := blk_cell bk 0 _ rfl
      have c1 := blk_cell bk 1 _ rfl
      refine wpOp_val rfl rfl (.agg #[.int .i64 0, .int .i64 1]) wx (by generalize (fill sl4 a0 u).eval = ev at *; simp [execOp, e10, go_sem, c0, c1]) ⟨_, fill_put (d := 71) rfl (fun k hk => (sl4_inj hk).symm), hJ.step h0 (fun y hy => Option.some.inj (Option.some.inj (show some (some _) = some (some y) from hy))) (by decide +kernel) (by decide) (Below.refl _ _) (fun h => absurd h (by decide)) (fun h => absurd h (by decide)) (fun h => absurd h (by decide)) (fun h => absurd h (by decide))⟩
    · have e70 : (fill sl4 a0 u).eval (.tmp 70) = u 46 := fill_in (by omega) rfl
      have f70 : u 46 = .agg #[.int .i64 0, .int .i64 ((c.B.length : Int) - 1)] := hJ.val 46 _ rfl (hd 46 (by kernel_rfl))
      rw [f70] at e70
      have e71 : (fill sl4 a0 u).eval (.tmp 71) = u 47 := fill_in (by omega) rfl
      have f71 : u 47 = .agg #[.int .i64 0, .int .i64 1] := hJ.val 47 _ rfl (hd 47 (by kernel_rfl))
      rw [f71] at e71
      refine wpOp_val rfl rfl (.agg #[.int .i64 0, .int .i64 ((c.B.length : Int) - 1), .int .i64 0, .int .i64 1, .int .u64 0]) wx (by generalize (fill sl4 a0 u).eval = ev at *; simp [execOp, go_sem, e70, e71]) ⟨_, fill_put (d := 72) rfl (fun k hk => (sl4_inj hk).symm), hJ.step h0 (fun y hy => Option.some.inj (Option.some.inj (show some (some _) = some (some y) from hy))) (by decide +kernel) (by decide) (Below.refl _ _) (fun h => absurd h (by decide)) (fun h => absurd h (by decide)) (fun h => absurd h (by decide)) (fun h => absurd h (by decide))⟩
    · obtain ⟨b, w', g1, r, hJ'⟩ := hJ.ins (k := 14) (by decide) (by decide) h0 (hd 0 (by kernel_rfl)) (by decide +kernel) rfl undef
      have e37 : (fill sl4 a0 u).eval (.tmp 37) = u 0 := fill_in (by omega) rfl
      rw [g1] at e37
      have e72 : (fill sl4 a0 u).eval (.tmp 72) = u 48 := fill_in (by omega) rfl
      have f72 : u 48 = shV (shT c 14) := hJ.val 48 _ rfl (hd 48 (by kernel_rfl))
      rw [f72] at e72
      have ec : (fill sl4 a0 u).eval (.const (.int .i64 14)) = .int .i64 14 := rfl
      have r' : (Instr.mapUpdate 100 (.map (some b)) (.int .i64 14) (shV (shT c 14))).run Tryd.prog wx = .ok () w' := r
      refine wpOp_skip rfl rfl w' (by generalize (fill sl4 a0 u).eval = ev at *; simp [execOp, go_sem, e37, ec, e72, r']) ⟨undef, fill_none (sl4_no rfl), hJ'⟩
    · have e6 : (fill sl4 a0 u).eval (.tmp 6) = .pointer (some ⟨b6, 0, none⟩) := (fill_out rfl).trans h6
      have bk := (hJ.bel.block b6 (lt_of_blk R6)).trans R6
      have c0 := blk_cell bk 0 _ rfl
      have c1 := blk_cell bk 1 _ rfl
      refine wpOp_val rfl rfl (.agg #[.int .i64 0, .int .i64 (c.M - 1)]) wx (by generalize (fill sl4 a0 u).eval = ev at *; simp [execOp, e6, go_sem, c0, c1]) ⟨_, fill_put (d := 73) rfl (fun k hk => (sl4_inj hk).symm), hJ.step h0 (fun y hy => Option.some.inj (Option.some.inj (show some (some _) = some (some y) from hy))) (by decide +kernel) (by decide) (Below.refl _ _) (fun h => absurd h (by decide)) (fun h => absurd h (by decide)) (fun h => absurd h (by decide)) (fun h => absurd h (by decide))⟩
    · have e73 : (fill sl4 a0 u).eval (.tmp 73) = u 50 := fill_in (by omega) rfl
      have f73 : u 50 = .agg #[.int .i64 0, .int .i64 (c.M - 1)] := hJ.val 50 _ rfl (hd 50 (by kernel_rfl))
      rw [f73] at e73
      refine wpOp_val rfl rfl (.agg #[.int .i64 0, .int .i64 (c.M - 1), .int .i64 0, .int .i64 0, .int .u64 0]) wx (by generalize (fill sl4 a0 u).eval = ev at *; simp [execOp, go_sem, e73]) ⟨_, fill_put (d := 74) rfl (fun k hk => (sl4_inj hk).symm), hJ.step h0 (fun y hy => Option.some.inj (Option.some.inj (show some (some _) = some (some y) from hy))) (by decide +kernel) (by decide) (Below.refl _ _) (fun h => absurd h (by decide)) (fun h => absurd h (by decide)) (fun h => absurd h (by decide)) (fun h => absurd h (by decide))⟩
    · obtain ⟨b, w', g1, r, hJ'⟩ := hJ.ins (k := 15) (by decide) (by decide) h0 (hd 0 (by kernel_rfl)) (by decide +kernel) rfl undef
      have e37 : (fill sl4 a0 u).eval (.tmp 37) = u 0 := fill_in (by omega) rfl
      rw [g1] at e37
      have e74 : (fill sl4 a0 u).eval (.tmp 74) = u 51 := fill_in (by omega) rfl
      have f74 : u 51 = shV (shT c 15) := hJ.val 51 _ rfl (hd 51 (by kernel_rfl))
      rw [f74] at e74
      have ec : (fill sl4 a0 u).eval (.const (.int .i64 15)) = .int .i64 15 := rfl
      have r' : (Instr.mapUpdate 100 (.map (some b)) (.int .i64 15) (shV (shT c 15))).run Tryd.prog wx = .ok () w' := r
      refine wpOp_skip rfl rfl w' (by generalize (fill sl4 a0 u).eval = ev at *; simp [execOp, go_sem, e37, ec, e74, r']) ⟨undef, fill_none (sl4_no rfl), hJ'⟩
    · have e6 : (fill sl4 a0 u).eval (.tmp 6) = .pointer (some ⟨b6, 0, none⟩) := (fill_out rfl).trans h6
      have bk := (hJ.bel.block b6 (lt_of_blk R6)).trans R6
      have c0 := blk_cell bk 0 _ rfl
      have c1 := blk_cell bk 1 _ rfl
      refine wpOp_val rfl rfl (.agg #[.int .i64 0, .int .i64 (c.M - 1)]) wx (by generalize (fill sl4 a0 u).eval = ev at *; simp [execOp, e6, go_sem, c0, c1]) ⟨_, fill_put (d := 75) rfl (fun k hk => (sl4_inj hk).symm), hJ.step h0 (fun y hy => Option.some.inj (Option.some.inj (show some (some _) = some (some y) from hy))) (by decide +kernel) (by decide) (Below.refl _ _) (fun h => absurd h (by decide)) (fun h => absurd h (by decide)) (fun h => absurd h (by decide)) (fun h => absurd h (by decide))⟩
    · have e75 : (fill sl4 a0 u).eval (.tmp 75) = u 53 := fill_in (by omega) rfl
      have f75 : u 53 = .agg #[.int .i64 0, .int .i64 (c.M - 1)] := hJ.val 53 _ rfl (hd 53 (by kernel_rfl))
      rw [f75] at e75
      refine wpOp_val rfl rfl (.agg #[.int .i64 0, .int .i64 (c.M - 1), .int .i64 0, .int .i64 0, .int .u64 0]) wx (by generalize (fill sl4 a0 u).eval = ev at *; simp [execOp, go_sem, e75]) ⟨_, fill_put (d := 76) rfl (fun k hk => (sl4_inj hk).symm), hJ.step h0 (fun y hy => Option.some.inj (Option.some.inj (show some (some _) = some (some y) from hy))) (by decide +kernel) (by decide) (Below.refl _ _) (fun h => absurd h (by decide)) (fun h => absurd h (by decide)) (fun h => absurd h (by decide)) (fun h => absurd h (by decide))⟩
    · obtain ⟨b, w', g1, r, hJ'⟩ := hJ.ins (k := 16) (by decide) (by decide) h0 (hd 0 (by kernel_rfl)) (by decide +kernel) rfl undef
      have e37 : (fill sl4 a0 u).eval (.tmp 37) = u 0 := fill_in (by omega) rfl
      rw [g1] at e37
      have e76 : (fill sl4 a0 u).eval (.tmp 76) = u 54 := fill_in (by omega) rfl
      have f76 : u 54 = shV (shT c 16) := hJ.val 54 _ rfl (hd 54 (by kernel_rfl))
      rw [f76] at e76
      have ec : (fill sl4 a0 u).eval (.const (.int .i64 16)) = .int .i64 16 := rfl
      have r' : (Instr.mapUpdate 100 (.map (some b)) (.int .i64 16) (shV (shT c 16))).run Tryd.prog wx = .ok () w' := r
      refine wpOp_skip rfl rfl w' (by generalize (fill sl4 a0 u).eval = ev at *; simp [execOp, go_sem, e37, ec, e76, r']) ⟨undef, fill_none (sl4_no rfl), hJ'⟩
    · have e7 : (fill sl4 a0 u).eval (.tmp 7) = .pointer (some ⟨b7, 0, none⟩) := (fill_out rfl).trans h7
      have bk := (hJ.bel.block b7 (lt_of_blk R7)).trans R7
      have c0 := blk_cell bk 0 _ rfl
      have c1 := blk_cell bk 1 _ rfl
      refine wpOp_val rfl rfl (.agg #[.int .i64 0, .int .i64 ((c.C.length : Int) - 1)]) wx (by generalize (fill sl4 a0 u).eval = ev at *; simp [execOp, e7, go_sem, c0, c1]) ⟨_, fill_put (d := 77) rfl (fun k hk => (sl4_inj hk).symm), hJ.step h0 (fun y hy => Option.some.inj (Option.some.inj (show some (some _) = some (some y) from hy))) (by decide +kernel) (by decide) (Below.refl _ _) (fun h => absurd h (by decide)) (fun h => absurd h (by decide)) (fun h => absurd h (by decide)) (fun h => absurd h (by decide))⟩
    · have e77 : (fill sl4 a0 u).eval (.tmp 77) = u 56 := fill_in (by omega) rfl
      have f77 : u 56 = .agg #[.int .i64 0, .int .i64 ((c.C.length : Int) - 1)] := hJ.val 56 _ rfl (hd 56 (by kernel_rfl))
      rw [f77] at e77
      refine wpOp_val rfl rfl (.agg #[.int .i64 0, .int .i64 ((c.C.length : Int) - 1), .int .i64 0, .int .i64 0, .int .u64 0]) wx (by generalize (fill sl4 a0 u).eval = ev at *; simp [execOp, go_sem, e77]) ⟨_, fill_put (d := 78) rfl (fun k hk => (sl4_inj hk).symm), hJ.step h0 (fun y hy => Option.some.inj (Option.some.inj (show some (some _) = some (some y) from hy))) (by decide +kernel) (by decide) (Below.refl _ _) (fun h => absurd h (by decide)) (fun h => absurd h (by decide)) (fun h => absurd h (by decide)) (fun h => absurd h (by decide))⟩
    · obtain ⟨b, w', g1, r, hJ'⟩ := hJ.ins (k := 17) (by decide) (by decide) h0 (hd 0 (by kernel_rfl)) (by decide +kernel) rfl undef
      have e37 : (fill sl4 a0 u).eval (.tmp 37) = u 0 := fill_in (by omega) rfl
      rw [g1] at e37
      have e78 : (fill sl4 a0 u).eval (.tmp 78) = u 57 := fill_in (by omega) rfl
      have f78 : u 57 = shV (shT c 17) := hJ.val 57 _ rfl (hd 57 (by kernel_rfl))
      rw [f78] at e78
      have ec : (fill sl4 a0 u).eval (.const (.int .i64 17)) = .int .i64 17 := rfl
      have r' : (Instr.mapUpdate 100 (.map (some b)) (.int .i64 17) (shV (shT c 17))).run Tryd.prog wx = .ok () w' := r
      refine wpOp_skip rfl rfl w' (by generalize (fill sl4 a0 u).eval = ev at *; simp [execOp, go_sem, e37, ec, e78, r']) ⟨undef, fill_none (sl4_no rfl), hJ'⟩
    · have e7 : (fill sl4 a0 u).eval (.tmp 7) = .pointer (some ⟨b7, 0, none⟩) := (fill_out rfl).trans h7
      have bk := (hJ.bel.block b7 (lt_of_blk R7)).trans R7
      have c0 := blk_cell bk 0 _ rfl
      have c1 := blk_cell bk 1 _ rfl
      refine wpOp_val rfl rfl (.agg #[.int .i64 0, .int .i64 ((c.C.length : Int) - 1)]) wx (by generalize (fill sl4 a0 u).eval = ev at *; simp [execOp, e7, go_sem, c0, c1]) ⟨_, fill_put (d := 79) rfl (fun k hk => (sl4_inj hk).symm), hJ.step h0 (fun y hy => Option.some.inj (Option.some.inj (show some (some _) = some (some y) from hy))) (by decide +kernel) (by decide) (Below.refl _ _) (fun h => absurd h (by decide)) (fun h => absurd h (by decide)) (fun h => absurd h (by decide)) (fun h => absurd h (by decide))⟩
    · have e79 : (fill sl4 a0 u).eval (.tmp 79) = u 59 := fill_in (by omega) rfl
      have f79 : u 59 = .agg #[.int .i64 0, .int .i64 ((c.C.length : Int) - 1)] := hJ.val 59 _ rfl (hd 59 (by kernel_rfl))
      rw [f79] at e79
      refine wpOp_val rfl rfl (.agg #[.int .i64 0, .int .i64 ((c.C.length : Int) - 1), .int .i64 0, .int .i64 0, .int .u64 0]) wx (by generalize (fill sl4 a0 u).eval = ev at *; simp [execOp, go_sem, e79]) ⟨_, fill_put (d := 80) rfl (fun k hk => (sl4_inj hk).symm), hJ.step h0 (fun y hy => Option.some.inj (Option.some.inj (show some (some _) = some (some y) from hy))) (by decide +kernel) (by decide) (Below.refl _ _) (fun h => absurd h (by decide)) (fun h => absurd h (by decide)) (fun h => absurd h (by decide)) (fun h => absurd h (by decide))⟩
    · obtain ⟨b, w', g1, r, hJ'⟩ := hJ.ins (k := 18) (by decide) (by decide) h0 (hd 0 (by kernel_rfl)) (by decide +kernel) rfl undef
      have e37 : (fill sl4 a0 u).eval (.tmp 37) = u 0 := fill_in (by omega) rfl
      rw [g1] at e37
      have e80 : (fill sl4 a0 u).eval (.tmp 80) = u 60 := fill_in (by omega) rfl
      have f80 : u 60 = shV (shT c 18) := hJ.val 60 _ rfl (hd 60 (by kernel_rfl))
      rw [f80] at e80
      have ec : (fill sl4 a0 u).eval (.const (.int .i64 18)) = .int .i64 18 := rfl
      have r' : (Instr.mapUpdate 100 (.map (some b)) (.int .i64 18) (shV (shT c 18))).run Tryd.prog wx = .ok () w' := r
      refine wpOp_skip rfl rfl w' (by generalize (fill sl4 a0 u).eval = ev at *; simp [execOp, go_sem, e37, ec, e80, r']) ⟨undef, fill_none (sl4_no rfl), hJ'⟩
    · have e8 : (fill sl4 a0 u).eval (.tmp 8) = .pointer (some ⟨b8, 0, none⟩) := (fill_out rfl).trans h8
      have bk := (hJ.bel.block b8 (lt_of_blk R8)).trans R8
      have c0 := blk_cell bk 0 _ rfl
      have c1 := blk_cell bk 1 _ rfl
      refine wpOp_val rfl rfl (.agg #[.int .i64 0, .int .i64 (c.A - 1)]) wx (by generalize (fill sl4 a0 u).eval = ev at *; simp [execOp, e8, go_sem, c0, c1]) ⟨_, fill_put (d := 81) rfl (fun k hk => (sl4_inj hk).symm), hJ.step h0 (fun y hy => Option.some.inj (Option.some.inj (show some (some _) = some (some y) from hy))) (by decide +kernel) (by decide) (Below.refl _ _) (fun h => absurd h (by decide)) (fun h => absurd h (by decide)) (fun h => absurd h (by decide)) (fun h => absurd h (by decide))⟩
    · have e81 : (fill sl4 a0 u).eval (.tmp 81) = u 62 := fill_in (by omega) rfl
      have f81 : u 62 = .agg #[.int .i64 0, .int .i64 (c.A - 1)] := hJ.val 62 _ rfl (hd 62 (by kernel_rfl))
      rw [f81] at e81
      refine wpOp_val rfl rfl (.agg #[.int .i64 0, .int .i64 (c.A - 1), .int .i64 0, .int .i64 0, .int .u64 0]) wx (by generalize (fill sl4 a0 u).eval = ev at *; simp [execOp, go_sem, e81]) ⟨_, fill_put (d := 82) rfl (fun k hk => (sl4_inj hk).symm), hJ.step h0 (fun y hy => Option.some.inj (Option.some.inj (show some (some _) = some (some y) from hy))) (by decide +kernel) (by decide) (Below.refl _ _) (fun h => absurd h (by decide)) (fun h => absurd h (by decide)) (fun h => absurd h (by decide)) (fun h => absurd h (by decide))⟩
    · obtain ⟨b, w', g1, r, hJ'⟩ := hJ.ins (k := 19) (by decide) (by decide) h0 (hd 0 (by kernel_rfl)) (by decide +kernel) rfl undef
      have e37 : (fill sl4 a0 u).eval (.tmp 37) = u 0 := fill_in (by omega) rfl
      rw [g1] at e37
      have e82 : (fill sl4 a0 u).eval (.tmp 82) = u 63 := fill_in (by omega) rfl
      have f82 : u 63 = shV (shT c 19) := hJ.val 63 _ rfl (hd 63 (by kernel_rfl))
      rw [f82] at e82
      have ec : (fill sl4 a0 u).eval (.const (.int .i64 19)) = .int .i64 19 := rfl
      have r' : (Instr.mapUpdate 100 (.map (some b)) (.int .i64 19) (shV (shT c 19))).run Tryd.prog wx = .ok () w' := r
      refine wpOp_skip rfl rfl w' (by generalize (fill sl4 a0 u).eval = ev at *; simp [execOp, go_sem, e37, ec, e82, r']) ⟨undef, fill_none (sl4_no rfl), hJ'⟩
    · have e8 : (fill sl4 a0 u).eval (.tmp 8) = .pointer (some ⟨b8, 0, none⟩) := (fill_out rfl).trans h8
      have bk := (hJ.bel.block b8 (lt_of_blk R8)).trans R8
      have c0 := blk_cell bk 0 _ rfl
      have c1 := blk_cell bk 1 _ rfl
      refine wpOp_val rfl rfl (.agg #[.int .i64 0, .int .i64 (c.A - 1)]) wx (by generalize (fill sl4 a0 u).eval = ev at *; simp [execOp, e8, go_sem, c0, c1]) ⟨_, fill_put (d := 83) rfl (fun k hk => (sl4_inj hk).symm), hJ.step h0 (fun y hy => Option.some.inj (Option.some.inj (show some (some _) = some (some y) from hy))) (by decide +kernel) (by decide) (Below.refl _ _) (fun h => absurd h (by decide)) (fun h => absurd h (by decide)) (fun h => absurd h (by decide)) (fun h => absurd h (by decide))⟩
    · have e83 : (fill sl4 a0 u).eval (.tmp 83) = u 65 := fill_in (by omega) rfl
      have f83 : u 65 = .agg #[.int .i64 0, .int .i64 (c.A - 1)] := hJ.val 65 _ rfl (hd 65 (by kernel_rfl))
      rw [f83] at e83
      refine wpOp_val rfl rfl (.agg #[.int .i64 0, .int .i64 (c.A - 1), .int .i64 0, .int .i64 0, .int .u64 0]) wx (by generalize (fill sl4 a0 u).eval = ev at *; simp [execOp, go_sem, e83]) ⟨_, fill_put (d := 84) rfl (fun k hk => (sl4_inj hk).symm), hJ.step h0 (fun y hy => Option.some.inj (Option.some.inj (show some (some _) = some (some y) from hy))) (by decide +kernel) (by decide) (Below.refl _ _) (fun h => absurd h (by decide)) (fun h => absurd h (by decide)) (fun h => absurd h (by decide)) (fun h => absurd h (by decide))⟩
    · obtain ⟨b, w', g1, r, hJ'⟩ := hJ.ins (k := 20) (by decide) (by decide) h0 (hd 0 (by kernel_rfl)) (by decide +kernel) rfl undef
      have e37 : (fill sl4 a0 u).eval (.tmp 37) = u 0 := fill_in (by omega) rfl
      rw [g1] at e37
      have e84 : (fill sl4 a0 u).eval (.tmp 84) = u 66 := fill_in (by omega) rfl
      have f84 : u 66 = shV (shT c 20) := hJ.val 66 _ rfl (hd 66 (by kernel_rfl))
      rw [f84] at e84
      have ec : (fill sl4 a0 u).eval (.const (.int .i64 20)) = .int .i64 20 := rfl
      have r' : (Instr.mapUpdate 100 (.map (some b)) (.int .i64 20) (shV (shT c 20))).run Tryd.prog wx = .ok () w' := r
      refine wpOp_skip rfl rfl w' (by generalize (fill sl4 a0 u).eval = ev at *; simp [execOp, go_sem, e37, ec, e84, r']) ⟨undef, fill_none (sl4_no rfl), hJ'⟩
    · have e8 : (fill sl4 a0 u).eval (.tmp 8) = .pointer (some ⟨b8, 0, none⟩) := (fill_out rfl).trans h8
      have bk := (hJ.bel.block b8 (lt_of_blk R8)).trans R8
      have c0 := blk_cell bk 0 _ rfl
      have c1 := blk_cell bk 1 _ rfl
      refine wpOp_val rfl rfl (.agg #[.int .i64 0, .int .i64 (c.A - 1)]) wx (by generalize (fill sl4 a0 u).eval = ev at *; simp [execOp, e8, go_sem, c0, c1]) ⟨_, fill_put (d := 85) rfl (fun k hk => (sl4_inj hk).symm), hJ.step h0 (fun y hy => Option.some.inj (Option.some.inj (show some (some _) = some (some y) from hy))) (by decide +kernel) (by decide) (Below.refl _ _) (fun h => absurd h (by decide)) (fun h => absurd h (by decide)) (fun h => absurd h (by decide)) (fun h => absurd h (by decide))⟩
    · have e85 : (fill sl4 a0 u).eval (.tmp 85) = u 68 := fill_in (by omega) rfl
      have f85 : u 68 = .agg #[.int .i64 0, .int .i64 (c.A - 1)] := hJ.val 68 _ rfl (hd 68 (by kernel_rfl))
      rw [f85] at e85
      refine wpOp_val rfl rfl (.agg #[.int .i64 0, .int .i64 (c.A - 1), .int .i64 0, .int .i64 0, .int .u64 0]) wx (by generalize (fill sl4 a0 u).eval = ev at *; simp [execOp, go_sem, e85]) ⟨_, fill_put (d := 86) rfl (fun k hk => (sl4_inj hk).symm), hJ.step h0 (fun y hy => Option.some.inj (Option.some.inj (show some (some _) = some (some y) from hy))) (by decide +kernel) (by decide) (Below.refl _ _) (fun h => absurd h (by decide)) (fun h => absurd h (by decide)) (fun h => absurd h (by decide)) (fun h => absurd h (by decide))⟩
    · obtain ⟨b, w', g1, r, hJ'⟩ := hJ.ins (k := 21) (by decide) (by decide) h0 (hd 0 (by kernel_rfl)) (by decide +kernel) rfl undef
      have e37 : (fill sl4 a0 u).eval (.tmp 37) = u 0 := fill_in (by omega) rfl
      rw [g1] at e37
      have e86 : (fill sl4 a0 u).eval (.tmp 86) = u 69 := fill_in (by omega) rfl
      have f86 : u 69 = shV (shT c 21) := hJ.val 69 _ rfl (hd 69 (by kernel_rfl))
      rw [f86] at e86
      have ec : (fill sl4 a0 u).eval (.const (.int .i64 21)) = .int .i64 21 := rfl
      have r' : (Instr.mapUpdate 100 (.map (some b)) (.int .i64 21) (shV (shT c 21))).run Tryd.prog wx = .ok () w' := r
      refine wpOp_skip rfl rfl w' (by generalize (fill sl4 a0 u).eval = ev at *; simp [execOp, go_sem, e37, ec, e86, r']) ⟨undef, fill_none (sl4_no rfl), hJ'⟩
    · have e5 : (fill sl4 a0 u).eval (.tmp 5) = .pointer (some ⟨b5, 0, none⟩) := (fill_out rfl).trans h5
      have bk := (hJ.bel.block b5 (lt_of_blk R5)).trans R5
      have c0 := blk_cell bk 0 _ rfl
      have c1 := blk_cell bk 1 _ rfl
      refine wpOp_val rfl rfl (.agg #[.int .i64 0, .int .i64 ((c.F.length : Int) - 1)]) wx (by generalize (fill sl4 a0 u).eval = ev at *; simp [execOp, e5, go_sem, c0, c1]) ⟨_, fill_put (d := 87) rfl (fun k hk => (sl4_inj hk).symm), hJ.step h0 (fun y hy => Option.some.inj (Option.some.inj (show some (some _) = some (some y) from hy))) (by decide +kernel) (by decide) (Below.refl _ _) (fun h => absurd h (by decide)) (fun h => absurd h (by decide)) (fun h => absurd h (by decide)) (fun h => absurd h (by decide))⟩
    · have e87 : (fill sl4 a0 u).eval (.tmp 87) = u 71 := fill_in (by omega) rfl
      have f87 : u 71 = .agg #[.int .i64 0, .int .i64 ((c.F.length : Int) - 1)] := hJ.val 71 _ rfl (hd 71 (by kernel_rfl))
      rw [f87] at e87
      refine wpOp_val rfl rfl (.agg #[.int .i64 0, .int .i64 ((c.F.length : Int) - 1), .int .i64 0, .int .i64 0, .int .u64 0]) wx (by generalize (fill sl4 a0 u).eval = ev at *; simp [execOp, go_sem, e87]) ⟨_, fill_put (d := 88) rfl (fun k hk => (sl4_inj hk).symm), hJ.step h0 (fun y hy => Option.some.inj (Option.some.inj (show some (some _) = some (some y) from hy))) (by decide +kernel) (by decide) (Below.refl _ _) (fun h => absurd h (by decide)) (fun h => absurd h (by decide)) (fun h => absurd h (by decide)) (fun h => absurd h (by decide))⟩
    · obtain ⟨b, w', g1, r, hJ'⟩ := hJ.ins (k := 22) (by decide) (by decide) h0 (hd 0 (by kernel_rfl)) (by decide +kernel) rfl undef
      have e37 : (fill sl4 a0 u).eval (.tmp 37) = u 0 := fill_in (by omega) rfl
      rw [g1] at e37
      have e88 : (fill sl4 a0 u).eval (.tmp 88) = u 72 := fill_in (by omega) rfl
      have f88 : u 72 = shV (shT c 22) := hJ.val 72 _ rfl (hd 72 (by kernel_rfl))
      rw [f88] at e88
      have ec : (fill sl4 a0 u).eval (.const (.int .i64 22)) = .int .i64 22 := rfl
      have r' : (Instr.mapUpdate 100 (.map (some b)) (.int .i64 22) (shV (shT c 22))).run Tryd.prog wx = .ok () w' := r
      refine wpOp_skip rfl rfl w' (by generalize (fill sl4 a0 u).eval = ev at *; simp [execOp, go_sem, e37, ec, e88, r']) ⟨undef, fill_none (sl4_no rfl), hJ'⟩
    · have e5 : (fill sl4 a0 u).eval (.tmp 5) = .pointer (some ⟨b5, 0, none⟩) := (fill_out rfl).trans h5
      have bk := (hJ.bel.block b5 (lt_of_blk R5)).trans R5
      have c0 := blk_cell bk 0 _ rfl
      have c1 := blk_cell bk 1 _ rfl
      refine wpOp_val rfl rfl (.agg #[.int .i64 0, .int .i64 ((c.F.length : Int) - 1)]) wx (by generalize (fill sl4 a0 u).eval = ev at *; simp [execOp, e5, go_sem, c0, c1]) ⟨_, fill_put (d := 89) rfl (fun k hk => (sl4_inj hk).symm), hJ.step h0 (fun y hy => Option.some.inj (Option.some.inj (show some (some _) = some (some y) from hy))) (by decide +kernel) (by decide) (Below.refl _ _) (fun h => absurd h (by decide)) (fun h => absurd h (by decide)) (fun h => absurd h (by decide)) (fun h => absurd h (by decide))⟩
    · have e89 : (fill sl4 a0 u).eval (.tmp 89) = u 74 := fill_in (by omega) rfl
      have f89 : u 74 = .agg #[.int .i64 0, .int .i64 ((c.F.length : Int) - 1)] := hJ.val 74 _ rfl (hd 74 (by kernel_rfl))
      rw [f89] at e89
      refine wpOp_val rfl rfl (.agg #[.int .i64 0, .int .i64 ((c.F.length : Int) - 1), .int .i64 0, .int .i64 0, .int .u64 0]) wx (by generalize (fill sl4 a0 u).eval = ev at *; simp [execOp, go_sem, e89]) ⟨_, fill_put (d := 90) rfl (fun k hk => (sl4_inj hk).symm), hJ.step h0 (fun y hy => Option.some.inj (Option.some.inj (show some (some _) = some (some y) from hy))) (by decide +kernel) (by decide) (Below.refl _ _) (fun h => absurd h (by decide)) (fun h => absurd h (by decide)) (fun h => absurd h (by decide)) (fun h => absurd h (by decide))⟩
    · obtain ⟨b, w', g1, r, hJ'⟩ := hJ.ins (k := 23) (by decide) (by decide) h0 (hd 0 (by kernel_rfl)) (by decide +kernel) rfl undef
      have e37 : (fill sl4 a0 u).eval (.tmp 37) = u 0 := fill_in (by omega) rfl
      rw [g1] at e37
      have e90 : (fill sl4 a0 u).eval (.tmp 90) = u 75 := fill_in (by omega) rfl
      have f90 : u 75 = shV (shT c 23) := hJ.val 75 _ rfl (hd 75 (by kernel_rfl))
      rw [f90] at e90
      have ec : (fill sl4 a0 u).eval (.const (.int .i64 23)) = .int .i64 23 := rfl
      have r' : (Instr.mapUpdate 100 (.map (some b)) (.int .i64 23) (shV (shT c 23))).run Tryd.prog wx = .ok () w' := r
      refine wpOp_skip rfl rfl w' (by generalize (fill sl4 a0 u).eval = ev at *; simp [execOp, go_sem, e37, ec, e90, r']) ⟨undef, fill_none (sl4_no rfl), hJ'⟩
    · skip
      refine wpOp_val rfl rfl (.agg #[.int .i64 0, .int .i64 0, .int .i64 0, .int .i64 0, .int .u64 0]) wx (by generalize (fill sl4 a0 u).eval = ev at *; simp [execOp, go_sem]) ⟨_, fill_put (d := 91) rfl (fun k hk => (sl4_inj hk).symm), hJ.step h0 (fun y hy => Option.some.inj (Option.some.inj (show some (some _) = some (some y) from hy))) (by decide +kernel) (by decide) (Below.refl _ _) (fun h => absurd h (by decide)) (fun h => absurd h (by decide)) (fun h => absurd h (by decide)) (fun h => absurd h (by decide))⟩
    · obtain ⟨b, w', g1, r, hJ'⟩ := hJ.ins (k := 24) (by decide) (by decide) h0 (hd 0 (by kernel_rfl)) (by decide +kernel) rfl undef
      have e37 : (fill sl4 a0 u).eval (.tmp 37) = u 0 := fill_in (by omega) rfl
      rw [g1] at e37
      have e91 : (fill sl4 a0 u).eval (.tmp 91) = u 77 := fill_in (by omega) rfl
      have f91 : u 77 = shV (shT c 24) := hJ.val 77 _ rfl (hd 77 (by kernel_rfl))
      rw [f91] at e91
      have ec : (fill sl4 a0 u).eval (.const (.int .i64 24)) = .int .i64 24 := rfl
      have r' : (Instr.mapUpdate 100 (.map (some b)) (.int .i64 24) (shV (shT c 24))).run Tryd.prog wx = .ok () w' := r
      refine wpOp_skip rfl rfl w' (by generalize (fill sl4 a0 u).eval = ev at *; simp [execOp, go_sem, e37, ec, e91, r']) ⟨undef, fill_none (sl4_no rfl), hJ'⟩
    · skip
      refine wpOp_val rfl rfl (.agg #[.int .i64 0, .int .i64 0, .int .i64 0, .int .i64 0, .int .u64 0]) wx (by generalize (fill sl4 a0 u).eval = ev at *; simp [execOp, go_sem]) ⟨_, fill_put (d := 92) rfl (fun k hk => (sl4_inj hk).symm), hJ.step h0 (fun y hy => Option.some.inj (Option.some.inj (show some (some _) = some (some y) from hy))) (by decide +kernel) (by decide) (Below.refl _ _) (fun h => absurd h (by decide)) (fun h => absurd h (by decide)) (fun h => absurd h (by decide)) (fun h => absurd h (by decide))⟩
    · obtain ⟨b, w', g1, r, hJ'⟩ := hJ.ins (k := 25) (by decide) (by decide) h0 (hd 0 (by kernel_rfl)) (by decide +kernel) rfl undef
      have e37 : (fill sl4 a0 u).eval (.tmp 37) = u 0 := fill_in (by omega) rfl
      rw [g1] at e37
      have e92 : (fill sl4 a0 u).eval (.tmp 92) = u 79 := fill_in (by omega) rfl
      have f92 : u 79 = shV (shT c 25) := hJ.val 79 _ rfl (hd 79 (by kernel_rfl))
      rw [f92] at e92
      have ec : (fill sl4 a0 u).eval (.const (.int .i64 25)) = .int .i64 25 := rfl
      have r' : (Instr.mapUpdate 100 (.map (some b)) (.int .i64 25) (shV (shT c 25))).run Tryd.prog wx = .ok () w' := r
      refine wpOp_skip rfl rfl w' (by generalize (fill sl4 a0 u).eval = ev at *; simp [execOp, go_sem, e37, ec, e92, r']) ⟨undef, fill_none (sl4_no rfl), hJ'⟩
    · skip
      refine wpOp_val rfl rfl (.agg #[.int .i64 0, .int .i64 0, .int .i64 0, .int .i64 0, .int .u64 0]) wx (by generalize (fill sl4 a0 u).eval = ev at *; simp [execOp, go_sem]) ⟨_, fill_put (d := 93) rfl (fun k hk => (sl4_inj hk).symm), hJ.step h0 (fun y hy => Option.some.inj (Option.some.inj (show some (some _) = some (some y) from hy))) (by decide +kernel) (by decide) (Below.refl _ _) (fun h => absurd h (by decide)) (fun h => absurd h (by decide)) (fun h => absurd h (by decide)) (fun h => absurd h (by decide))⟩
    · obtain ⟨b, w', g1, r, hJ'⟩ := hJ.ins (k := 26) (by decide) (by decide) h0 (hd 0 (by kernel_rfl)) (by decide +kernel) rfl undef
      have e37 : (fill sl4 a0 u).eval (.tmp 37) = u 0 := fill_in (by omega) rfl
      rw [g1] at e37
      have e93 : (fill sl4 a0 u).eval (.tmp 93) = u 81 := fill_in (by omega) rfl
      have f93 : u 81 = shV (shT c 26) := hJ.val 81 _ rfl (hd 81 (by kernel_rfl))
      rw [f93] at e93
      have ec : (fill sl4 a0 u).eval (.const (.int .i64 26)) = .int .i64 26 := rfl
      have r' : (Instr.mapUpdate 100 (.map (some b)) (.int .i64 26) (shV (shT c 26))).run Tryd.prog wx = .ok () w' := r
      refine wpOp_skip rfl rfl w' (by generalize (fill sl4 a0 u).eval = ev at *; simp [execOp, go_sem, e37, ec, e93, r']) ⟨undef, fill_none (sl4_no rfl), hJ'⟩
    · have e37 : (fill sl4 a0 u).eval (.tmp 37) = u 0 := fill_in (by omega) rfl
      refine wpOp_val rfl rfl (u 0) wx (by generalize (fill sl4 a0 u).eval = ev at *; simp [execOp, go_sem, e37]) ⟨_, fill_put (d := 94) rfl (fun k hk => (sl4_inj hk).symm), hJ.step h0 (fun y hy => by cases hy) (by decide +kernel) (by decide) (Below.refl _ _) (fun h => absurd h (by decide)) (fun h => absurd h (by decide)) (fun _ => ⟨rfl, hd 0 (by kernel_rfl)⟩) (fun h => absurd h (by decide))⟩
    · have e94 : (fill sl4 a0 u).eval (.tmp 94) = u 83 := fill_in (by omega) rfl
      rw [hJ.mv (hd 83 (by kernel_rfl))] at e94
      refine wpOp_val rfl rfl (u 0) wx (by generalize (fill sl4 a0 u).eval = ev at *; simp [execOp, go_sem, e94]) ⟨_, fill_put (d := 2) rfl (fun k hk => (sl4_inj hk).symm), hJ.step h0 (fun y hy => by cases hy) (by decide +kernel) (by decide) (Below.refl _ _) (fun h => absurd h (by decide)) (fun h => absurd h (by decide)) (fun h => absurd h (by decide)) (fun _ => ⟨rfl, hJ.m0 (hd 83 (by kernel_rfl))⟩)⟩
  intro L u wx hall hJ
  obtain ⟨b, n, m1, m2, m3, m4⟩ := hJ.mp (hall 0 (by decide))
  have hfin : fL c L = shF c := by
    funext y
    unfold fL shF
    by_cases hy : 1 ≤ y ∧ y ≤ 26
    · rw [if_pos hy, if_pos ⟨hy, hall _ (show insI y.toNat < 85 from insI_lt _ (by omega) (by omega))⟩]
    · rw [if_neg hy, if_neg (fun h => hy h.1)]
  have h84 : (fill sl4 a0 u).eval (.tmp 2) = u 84 := fill_in (by omega) rfl
  have hres : (fill sl4 a0 u).eval (.tmp 2) = .map (some b) := h84.trans ((hJ.ma (hall 84 (by decide))).trans m1)
  have hM : ShM wx b 85 (shF c) := by rw [← hfin]; exact m4.mono (by omega)
  have hB : Below w.heap.size w wx := D6.out.trans ((bel_drawn (Below.refl W6.heap.size W6)).trans hJ.bel |>.mono D6.out.size)
  clear hJ hall hfin m1 m2 m3 m4
  generalize hA : fill sl4 a0 u = aa at *
  have hdf : aa.defers = [] := by rw [← hA]; exact hdf0
  clear hA
  go_wp2_with fail
  refine bodyPost_ret (v := .map (some b)) ?_ hdf ⟨b, rfl, hM, hB⟩
  have hres' : aa.tmps[2]?.getD undef = .map (some b) := by simpa [Act.eval] using hres
  simp [results, Tryd.results49, go_sem, hres']
end Go.Proofs.YtidjbgemnohbnaaDoor.Ck
