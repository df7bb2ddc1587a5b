/- The first inner loop of the document's Of: the words of a block's turns. -/
import Derived.Test.YtejhhkhaoekkiaaDoorRHa
namespace Go.Proofs.YtejhhkhaoekkiaaDoor.Ck
open Go.RowKit

def loopsOf : Code → List Code
  | .loop c => .loop c :: loopsOf c
  | .seq a b => loopsOf a ++ loopsOf b
  | .block _ c => loopsOf c
  | .scope c => loopsOf c
  | .cond _ a b => loopsOf a ++ loopsOf b
  | _ => []
/-- the loop number k of the document's Of -/
def LoopWp (k : Nat) (Q : Exit → Act → World → Prop) (a : Act) (w : World) : Prop := Code.wp Tryd.prog (((Tryd.f14.body.map loopsOf).getD []).getD k .skip) Q a w

def fillI (B : List Int) (k : Nat) : List Int := schedL B k ++ List.replicate (64 - k) 0
theorem fillI_len (B : List Int) (k : Nat) (h : k ≤ 64) : (fillI B k).length = 64 := by simp [fillI, schedL_len]; omega
theorem fillI_at (B : List Int) (k i : Nat) (h : i < k) : (fillI B k).getD i 0 = wS B i := by
  unfold fillI
  have hl := schedL_len B k
  simp only [List.getD]
  rw [List.getElem?_append_left (by omega)]
  exact schedL_at B i k h
theorem fillI_set (B : List Int) (k : Nat) (h : k < 64) : (fillI B k).set k (wS B k) = fillI B (k + 1) := by
  have hl := schedL_len B k
  unfold fillI
  rw [List.set_append_right _ _ (by omega), hl, Nat.sub_self, schedL_snoc, show 64 - k = (64 - (k + 1)) + 1 by omega, List.replicate_succ]
  simp
theorem blkOf_at (M : List Int) (k i : Nat) (hi : i < 64) : (blkOf M k).getD i 0 = M.getD (64 * k + i) 0 := by
  unfold blkOf
  simp only [List.getD, List.getElem?_take_of_lt hi, List.getElem?_drop]

set_option maxRecDepth 1000000 in
set_option maxHeartbeats 4000000 in
theorem sched_loop {c0 c1 c2 c3 c4 c6 c9 c10 c11 c12 c13 c14 c15 c16 c17 c18 c19 c20 c21 c22 c23 c24 c25 c26 c27 c28 c29 c30 c31 c32 c33 c34 c35 c38 c39 c40 c41 c42 c43 c44 c45 c46 c47 c48 c49 c50 c51 c52 c53 c54 c55 c56 c57 c58 c59 c60 c61 c62 c63 c64 c65 c66 c67 c68 c69 c70 c71 c72 c73 c74 c75 c76 c77 c78 c79 c80 c81 c82 c83 c84 c85 c86 c87 c88 c89 c90 c91 c92 c93 c94 c95 c96 c97 c98 c99 c100 c101 c102 c103 c104 c105 c106 c107 c108 c109 c110 c111 c112 c113 c114 c115 c116 c117 c118 c119 c120 c121 c122 c123 c124 c125 c126 c127 c128 c129 c130 c131 c132 c133 c134 c135 c136 c137 c138 c139 c140 c141 c142 c143 c144 c145 c146 c147 c148 c149 c150 c151 c152 c153 c154 c155 c156 c157 c158 c159 c160 c161 c162 c163 c164 c165 c166 c167 c168 c169 c170 c171 c172 c173 c174 c175 c176 c177 c178 c179 c180 c181 c182 c183 c184 c185 c186 c187 c188 c189 c190 c191 c192 c193 c194 c195 c196 c197 c198 c199 c200 c201 c202 c203 c204 c205 c206 c207 c208 c209 c210 c211 c212 c213 c214 c215 c216 c217 c218 c219 c220 c221 c222 c223 c224 c225 c226 c227 c228 c229 c230 c231 c232 c233 c234 c235 c236 c237 c238 c239 c240 c241 c242 c243 c244 c245 c246 c247 c248 c249 c250 c251 c252 c253 c254 c255 c256 c257 c258 c259 c260 c261 c262 c263 c264 c265 c266 c267 c268 c269 c270 c271 c272 c273 c274 c275 c276 c277 c278 c279 c280 c281 c282 c283 c284 c285 c286 c287 c288 c289 c290 c291 c292 c293 : Value} (gM cM nm gW p : Nat) (M B : List Int) (w3 : World) (Q0 : Exit → Act → World → Prop) (D : Nat) (oM : OwnB w3 D gM cM M) (oW : OwnW w3 0 gW 64 (fillI B 0)) (hne : gM ≠ gW) (hM : Hid (M.length = nm)) (hf : Fit8 M) (hp : p + 64 ≤ nm) (hnm : nm ≤ 1000000) (hB : Hid (∀ i, i < 64 → B.getD i 0 = M.getD (p + i) 0))
    (hexit : ∀ (u9 u10 u37 u38 u39 u40 u41 u42 u43 u44 u45 u46 u47 u48 u49 u50 u51 u52 u53 u54 u55 u56 u57 u58 u59 u60 u61 u62 u63 u64 u65 u66 u67 u68 u69 u70 u71 u72 u73 u74 u75 u76 u77 u78 u79 u80 u81 u82 u83 u84 u85 u86 u87 u88 u89 u90 u91 u92 u93 u94 u95 u96 u97 u98 u99 u100 u101 u102 u103 u104 u105 u106 u107 u108 u109 u110 u111 u112 u113 u114 u115 u116 u117 u118 u119 u120 u121 u122 u123 u124 u125 u126 u127 u128 u129 u130 u131 u132 u133 u134 : Value) (wr : World), OwnW wr 0 gW 64 (fillI B 64) → Tn gW w3 wr → Q0 (.exit 2) ⟨(c0 :: c1 :: c2 :: c3 :: c4 :: .slice (some ⟨gM, 0, none⟩) nm cM :: c6 :: .int .i64 p :: .slice (some ⟨gW, 0, none⟩) 64 64 :: u9 :: u10 :: c11 :: c12 :: c13 :: c14 :: c15 :: c16 :: c17 :: c18 :: c19 :: c20 :: c21 :: c22 :: c23 :: c24 :: c25 :: c26 :: c27 :: c28 :: c29 :: c30 :: c31 :: c32 :: c33 :: c34 :: c35 :: .int .i64 64 :: u37 :: u38 :: u39 :: u40 :: u41 :: u42 :: u43 :: u44 :: u45 :: u46 :: u47 :: u48 :: u49 :: u50 :: u51 :: u52 :: u53 :: u54 :: u55 :: u56 :: u57 :: u58 :: u59 :: u60 :: u61 :: u62 :: u63 :: u64 :: u65 :: u66 :: u67 :: u68 :: u69 :: u70 :: u71 :: u72 :: u73 :: u74 :: u75 :: u76 :: u77 :: u78 :: u79 :: u80 :: u81 :: u82 :: u83 :: u84 :: u85 :: u86 :: u87 :: u88 :: u89 :: u90 :: u91 :: u92 :: u93 :: u94 :: u95 :: u96 :: u97 :: u98 :: u99 :: u100 :: u101 :: u102 :: u103 :: u104 :: u105 :: u106 :: u107 :: u108 :: u109 :: u110 :: u111 :: u112 :: u113 :: u114 :: u115 :: u116 :: u117 :: u118 :: u119 :: u120 :: u121 :: u122 :: u123 :: u124 :: u125 :: u126 :: u127 :: u128 :: u129 :: u130 :: u131 :: u132 :: u133 :: u134 :: c135 :: c136 :: c137 :: c138 :: c139 :: c140 :: c141 :: c142 :: c143 :: c144 :: c145 :: c146 :: c147 :: c148 :: c149 :: c150 :: c151 :: c152 :: c153 :: c154 :: c155 :: c156 :: c157 :: c158 :: c159 :: c160 :: c161 :: c162 :: c163 :: c164 :: c165 :: c166 :: c167 :: c168 :: c169 :: c170 :: c171 :: c172 :: c173 :: c174 :: c175 :: c176 :: c177 :: c178 :: c179 :: c180 :: c181 :: c182 :: c183 :: c184 :: c185 :: c186 :: c187 :: c188 :: c189 :: c190 :: c191 :: c192 :: c193 :: c194 :: c195 :: c196 :: c197 :: c198 :: c199 :: c200 :: c201 :: c202 :: c203 :: c204 :: c205 :: c206 :: c207 :: c208 :: c209 :: c210 :: c211 :: c212 :: c213 :: c214 :: c215 :: c216 :: c217 :: c218 :: c219 :: c220 :: c221 :: c222 :: c223 :: c224 :: c225 :: c226 :: c227 :: c228 :: c229 :: c230 :: c231 :: c232 :: c233 :: c234 :: c235 :: c236 :: c237 :: c238 :: c239 :: c240 :: c241 :: c242 :: c243 :: c244 :: c245 :: c246 :: c247 :: c248 :: c249 :: c250 :: c251 :: c252 :: c253 :: c254 :: c255 :: c256 :: c257 :: c258 :: c259 :: c260 :: c261 :: c262 :: c263 :: c264 :: c265 :: c266 :: c267 :: c268 :: c269 :: c270 :: c271 :: c272 :: c273 :: c274 :: c275 :: c276 :: c277 :: c278 :: c279 :: c280 :: c281 :: c282 :: c283 :: c284 :: c285 :: c286 :: c287 :: c288 :: c289 :: c290 :: c291 :: c292 :: c293 :: []).toArray, []⟩ wr) :
    LoopWp 1 Q0 ⟨(c0 :: c1 :: c2 :: c3 :: c4 :: .slice (some ⟨gM, 0, none⟩) nm cM :: c6 :: .int .i64 p :: .slice (some ⟨gW, 0, none⟩) 64 64 :: c9 :: c10 :: c11 :: c12 :: c13 :: c14 :: c15 :: c16 :: c17 :: c18 :: c19 :: c20 :: c21 :: c22 :: c23 :: c24 :: c25 :: c26 :: c27 :: c28 :: c29 :: c30 :: c31 :: c32 :: c33 :: c34 :: c35 :: .int .i64 64 :: .int .i64 0 :: c38 :: c39 :: c40 :: c41 :: c42 :: c43 :: c44 :: c45 :: c46 :: c47 :: c48 :: c49 :: c50 :: c51 :: c52 :: c53 :: c54 :: c55 :: c56 :: c57 :: c58 :: c59 :: c60 :: c61 :: c62 :: c63 :: c64 :: c65 :: c66 :: c67 :: c68 :: c69 :: c70 :: c71 :: c72 :: c73 :: c74 :: c75 :: c76 :: c77 :: c78 :: c79 :: c80 :: c81 :: c82 :: c83 :: c84 :: c85 :: c86 :: c87 :: c88 :: c89 :: c90 :: c91 :: c92 :: c93 :: c94 :: c95 :: c96 :: c97 :: c98 :: c99 :: c100 :: c101 :: c102 :: c103 :: c104 :: c105 :: c106 :: c107 :: c108 :: c109 :: c110 :: c111 :: c112 :: c113 :: c114 :: c115 :: c116 :: c117 :: c118 :: c119 :: c120 :: c121 :: c122 :: c123 :: c124 :: c125 :: c126 :: c127 :: c128 :: c129 :: c130 :: c131 :: c132 :: c133 :: c134 :: c135 :: c136 :: c137 :: c138 :: c139 :: c140 :: c141 :: c142 :: c143 :: c144 :: c145 :: c146 :: c147 :: c148 :: c149 :: c150 :: c151 :: c152 :: c153 :: c154 :: c155 :: c156 :: c157 :: c158 :: c159 :: c160 :: c161 :: c162 :: c163 :: c164 :: c165 :: c166 :: c167 :: c168 :: c169 :: c170 :: c171 :: c172 :: c173 :: c174 :: c175 :: c176 :: c177 :: c178 :: c179 :: c180 :: c181 :: c182 :: c183 :: c184 :: c185 :: c186 :: c187 :: c188 :: c189 :: c190 :: c191 :: c192 :: c193 :: c194 :: c195 :: c196 :: c197 :: c198 :: c199 :: c200 :: c201 :: c202 :: c203 :: c204 :: c205 :: c206 :: c207 :: c208 :: c209 :: c210 :: c211 :: c212 :: c213 :: c214 :: c215 :: c216 :: c217 :: c218 :: c219 :: c220 :: c221 :: c222 :: c223 :: c224 :: c225 :: c226 :: c227 :: c228 :: c229 :: c230 :: c231 :: c232 :: c233 :: c234 :: c235 :: c236 :: c237 :: c238 :: c239 :: c240 :: c241 :: c242 :: c243 :: c244 :: c245 :: c246 :: c247 :: c248 :: c249 :: c250 :: c251 :: c252 :: c253 :: c254 :: c255 :: c256 :: c257 :: c258 :: c259 :: c260 :: c261 :: c262 :: c263 :: c264 :: c265 :: c266 :: c267 :: c268 :: c269 :: c270 :: c271 :: c272 :: c273 :: c274 :: c275 :: c276 :: c277 :: c278 :: c279 :: c280 :: c281 :: c282 :: c283 :: c284 :: c285 :: c286 :: c287 :: c288 :: c289 :: c290 :: c291 :: c292 :: c293 :: []).toArray, []⟩ w3 := by
  unfold LoopWp
  conv => arg 2; whnf
  go_loopw [37] (fun x wr => ∃ t : Nat, t ≤ 64 ∧ x = .int .i64 t ∧ OwnW wr 0 gW 64 (fillI B t) ∧ Tn gW w3 wr) (fun x _ => 64 - (intOf x).toNat)
  case atStart => exact ⟨0, Nat.zero_le _, rfl, oW, Tn.refl _ _⟩
  case round =>
    obtain ⟨t, ht, rfl, oW, tn⟩ := hrel
    have oMr := oM.tn tn hne
    have it : (0 : Int) ≤ (t : Int) ∧ (t : Int) ≤ 64 := by omega
    by_cases ht64 : t < 64
    · have it2 : (t : Int) < 64 := by omega
      have d0 : decide ((t : Int) < 64) = true := decide_eq_true it2
      have qw : ∃ z, wr.cell? ⟨gW, t, none⟩ = some z := ⟨_, oW.cell t (by rw [fillI_len _ _ ht]; exact ht64)⟩
      obtain ⟨z, qw⟩ := qw
      have qf := oW.frozen t
      have T := oW.set t (wS B t)
      rw [fillI_set B t ht64] at T
      have HT := hide T
      clear T hexit
      by_cases ht16 : t < 16
      · have it3 : (t : Int) < 16 := by omega
        have d1 : decide ((t : Int) < 16) = true := decide_eq_true it3
        obtain ⟨i0, ei0⟩ : ∃ i0, i0 = p + 4 * t := ⟨_, rfl⟩
        obtain ⟨i1, ei1⟩ : ∃ i1, i1 = i0 + 1 := ⟨_, rfl⟩
        obtain ⟨i2, ei2⟩ : ∃ i2, i2 = i0 + 2 := ⟨_, rfl⟩
        obtain ⟨i3, ei3⟩ : ∃ i3, i3 = i0 + 3 := ⟨_, rfl⟩
        have hML := hM.out
        have p0 := oMr.cell i0 (by omega)
        have p1 := oMr.cell i1 (by omega)
        have p2 := oMr.cell i2 (by omega)
        have p3 := oMr.cell i3 (by omega)
        have ew := wS_lo B t ht16
        rw [hB.out _ (by omega), hB.out _ (by omega), hB.out _ (by omega), hB.out _ (by omega), show p + 4 * t = i0 from ei0.symm, show p + (4 * t + 1) = i1 by omega, show p + (4 * t + 2) = i2 by omega, show p + (4 * t + 3) = i3 by omega] at ew
        have EW := hide ew
        have F0 := fit8_at hf i0
        have F1 := fit8_at hf i1
        have F2 := fit8_at hf i2
        have F3 := fit8_at hf i3
        have b0 : (0 : Int) ≤ (i0 : Int) ∧ (i0 : Int) < (nm : Int) := by omega
        have b1 : (0 : Int) ≤ (i1 : Int) ∧ (i1 : Int) < (nm : Int) := by omega
        have b2 : (0 : Int) ≤ (i2 : Int) ∧ (i2 : Int) < (nm : Int) := by omega
        have b3 : (0 : Int) ≤ (i3 : Int) ∧ (i3 : Int) < (nm : Int) := by omega
        have hp4 : IntKind.i64.wrap (4 * (t : Int)) = 4 * (t : Int) := by rw [IntKind.wrap_i64]; omega
        have hi0 : (p : Int) + 4 * (t : Int) = (i0 : Int) := by omega
        have hj1 : IntKind.i64.wrap ((i0 : Int) + 1) = (i1 : Int) := by rw [IntKind.wrap_i64]; omega
        have hj2 : IntKind.i64.wrap ((i0 : Int) + 2) = (i2 : Int) := by rw [IntKind.wrap_i64]; omega
        have hj3 : IntKind.i64.wrap ((i0 : Int) + 3) = (i3 : Int) := by rw [IntKind.wrap_i64]; omega
        generalize M.getD i0 0 = x0 at *
        generalize M.getD i1 0 = x1 at *
        generalize M.getD i2 0 = x2 at *
        generalize M.getD i3 0 = x3 at *
        clear ei0 ei1 ei2 ei3 hML ew oMr oM
        go_wp2_with fail
        refine wp_quiet_tail 32 mixed (by kernel_rfl) ?_
        simp only [List.take_succ_cons, List.take_zero, List.drop_succ_cons, List.drop_zero]
        repeat (first | go_big_quiet_skip | (go_big_quiet_want; go_big_quiet_op; go_big_quiet_on))
        refine wpQuiet_nil ?_
        go_wp2_with fail
        have T := HT.out
        rw [EW.out] at T
        exact ⟨⟨t + 1, by omega, by go_num, T.1, (tn.trans T.2).drew⟩, by simp [intOf]; omega⟩
      · have it3 : (16 : Int) ≤ (t : Int) := by omega
        have d1 : decide ((t : Int) < 16) = false := decide_eq_false (by omega)
        obtain ⟨i0, ei0⟩ : ∃ i0, i0 = t - 16 := ⟨_, rfl⟩
        obtain ⟨i1, ei1⟩ : ∃ i1, i1 = t - 7 := ⟨_, rfl⟩
        obtain ⟨i2, ei2⟩ : ∃ i2, i2 = t - 15 := ⟨_, rfl⟩
        obtain ⟨i3, ei3⟩ : ∃ i3, i3 = t - 2 := ⟨_, rfl⟩
        have hWl := fillI_len B t ht
        have p0 := oW.cell i0 (by omega)
        have p1 := oW.cell i1 (by omega)
        have p2 := oW.cell i2 (by omega)
        have p3 := oW.cell i3 (by omega)
        rw [fillI_at B t _ (by omega)] at p0 p1 p2 p3
        have ew := wS_hi B t (by omega)
        rw [← ei0, ← ei1, ← ei2, ← ei3] at ew
        have EW := hide ew
        have b0 : (0 : Int) ≤ (i0 : Int) ∧ (i0 : Int) < 64 := by omega
        have b1 : (0 : Int) ≤ (i1 : Int) ∧ (i1 : Int) < 64 := by omega
        have b2 : (0 : Int) ≤ (i2 : Int) ∧ (i2 : Int) < 64 := by omega
        have b3 : (0 : Int) ≤ (i3 : Int) ∧ (i3 : Int) < 64 := by omega
        have hj0 : IntKind.i64.wrap ((t : Int) - 16) = (i0 : Int) := by rw [IntKind.wrap_i64]; omega
        have hj1 : IntKind.i64.wrap ((t : Int) - 7) = (i1 : Int) := by rw [IntKind.wrap_i64]; omega
        have hj2 : IntKind.i64.wrap ((t : Int) - 15) = (i2 : Int) := by rw [IntKind.wrap_i64]; omega
        have hj3 : IntKind.i64.wrap ((t : Int) - 2) = (i3 : Int) := by rw [IntKind.wrap_i64]; omega
        generalize wS B i0 = x0 at *
        generalize wS B i1 = x1 at *
        generalize wS B i2 = x2 at *
        generalize wS B i3 = x3 at *
        clear ei0 ei1 ei2 ei3 ew oMr oM hWl
        go_wp2_with fail
        refine wp_quiet_tail 56 mixed (by kernel_rfl) ?_
        simp only [List.take_succ_cons, List.take_zero, List.drop_succ_cons, List.drop_zero]
        repeat (first | go_big_quiet_skip | (go_big_quiet_want; go_big_quiet_op; first | go_big_quiet_on | (refine ⟨_, rot_any _ _ _ (by decide) (by decide), ?_⟩; go_big_quiet_on)))
        refine wpQuiet_nil ?_
        go_wp2_with fail
        have T := HT.out
        rw [EW.out] at T
        exact ⟨⟨t + 1, by omega, by go_num, T.1, (tn.trans T.2).drew⟩, by simp [intOf]; omega⟩
    · have et : t = 64 := by omega
      subst et
      have d0 : decide (((64 : Nat) : Int) < 64) = false := by decide
      go_wp2_with fail
      exact hexit _ _ _ _ _ _ _ _ _ _ _ _ _ _ _ _ _ _ _ _ _ _ _ _ _ _ _ _ _ _ _ _ _ _ _ _ _ _ _ _ _ _ _ _ _ _ _ _ _ _ _ _ _ _ _ _ _ _ _ _ _ _ _ _ _ _ _ _ _ _ _ _ _ _ _ _ _ _ _ _ _ _ _ _ _ _ _ _ _ _ _ _ _ _ _ _ _ _ _ _ wr oW tn

end Go.Proofs.YtejhhkhaoekkiaaDoor.Ck
