/- The second inner loop of the document's Of: the turns. -/
import Derived.Test.YtejhhkhaoekkiaaDoorROfA
namespace Go.Proofs.YtejhhkhaoekkiaaDoor.Ck
open Go.RowKit

theorem ofL_toL (H : List Int) (h : H.length = 8) : (V8.ofL H).toL = H := by
  unfold V8.ofL V8.toL
  apply List.ext_getElem
  · simp [h]
  · intro i h1 h2
    have : i = 0 ∨ i = 1 ∨ i = 2 ∨ i = 3 ∨ i = 4 ∨ i = 5 ∨ i = 6 ∨ i = 7 := by simp at h1; omega
    rcases this with e | e | e | e | e | e | e | e <;> subst e <;> simp [List.getD, h2]

set_option maxRecDepth 1000000 in
set_option maxHeartbeats 4000000 in
theorem rounds_loop {c1 c2 c3 c4 c5 c6 c7 c9 c10 c12 c13 c14 c15 c16 c17 c18 c19 c20 c21 c22 c23 c24 c25 c26 c27 c28 c29 c30 c31 c32 c33 c34 c35 c36 c37 c38 c39 c40 c41 c42 c43 c44 c45 c46 c47 c48 c49 c50 c51 c52 c53 c54 c55 c56 c57 c58 c59 c60 c61 c62 c63 c64 c65 c66 c67 c68 c69 c70 c71 c72 c73 c74 c75 c76 c77 c78 c79 c80 c81 c82 c83 c84 c85 c86 c87 c88 c89 c90 c91 c92 c93 c94 c95 c96 c97 c98 c99 c100 c101 c102 c103 c104 c105 c106 c107 c108 c109 c110 c111 c112 c113 c114 c115 c116 c117 c118 c119 c120 c121 c122 c123 c124 c125 c126 c127 c128 c129 c130 c131 c132 c133 c134 c135 c136 c137 c138 c141 c142 c143 c144 c145 c146 c147 c148 c149 c150 c151 c152 c153 c154 c155 c156 c157 c158 c159 c160 c161 c162 c163 c164 c165 c166 c167 c168 c169 c170 c171 c172 c173 c174 c175 c176 c177 c178 c179 c180 c181 c182 c183 c184 c185 c186 c187 c188 c189 c190 c191 c192 c193 c194 c195 c196 c197 c198 c199 c200 c201 c202 c203 c204 c205 c206 c207 c208 c209 c210 c211 c212 c213 c214 c215 c216 c217 c218 c219 c220 c221 c222 c223 c224 c225 c226 c227 c228 c229 c230 c231 c232 c233 c234 c235 c236 c237 c238 c239 c240 c241 c242 c243 c244 c245 c246 c247 c248 c249 c250 c251 c252 c253 c254 c255 c256 c257 c258 c259 c260 c261 c262 c263 c264 c265 c266 c267 c268 c269 c270 c271 c272 c273 c274 c275 c276 c277 c278 c279 c280 c281 c282 c283 c284 c285 c286 c287 c288 c289 c290 c291 c292 c293 : Value} (gh gS cS gT cT gW gv cv : Nat) (H B : List Int) (w5 : World) (Q0 : Exit → Act → World → Prop) (hh : Ha w5 gh gS cS gT cT) (oW : OwnW w5 0 gW 64 (fillI B 64)) (ov : OwnW w5 0 gv cv H) (hH : H.length = 8)
    (hexit : ∀ (u12 u13 u14 u140 u141 u142 u143 u144 u145 u146 u147 u148 u149 u150 u151 u152 u153 u154 u155 u156 u157 u158 u159 u160 u161 u162 u163 u164 u165 u166 u167 u168 u169 u170 u171 u172 u173 u174 u175 u176 u177 u178 u179 u180 u181 u182 u183 u184 u185 u186 u187 u188 u189 u190 u191 u192 u193 u194 u195 u196 u197 u198 u199 u200 u201 u202 u203 u204 u205 u206 u207 u208 u209 u210 u211 u212 u213 u214 u215 u216 u217 u218 u219 u220 u221 u222 u223 u224 u225 u226 u227 u228 u229 u230 u231 u232 u233 u234 u235 u236 u237 u238 u239 u240 u241 u242 u243 u244 u245 u246 u247 u248 u249 u250 u251 u252 u253 u254 u255 u256 : Value) (wr : World) (g' c' : Nat), OwnW wr 0 g' c' (roundsV H B 64).toL → Hid (g' = gv ∨ w5.heap.size ≤ g') → Below w5.heap.size w5 wr → Q0 (.exit 4) ⟨(.pointer (some ⟨gh, 0, none⟩) :: c1 :: c2 :: c3 :: c4 :: c5 :: c6 :: c7 :: .slice (some ⟨gW, 0, none⟩) 64 64 :: c9 :: c10 :: .slice (some ⟨g', 0, none⟩) 8 c' :: u12 :: u13 :: u14 :: c15 :: c16 :: c17 :: c18 :: c19 :: c20 :: c21 :: c22 :: c23 :: c24 :: c25 :: c26 :: c27 :: c28 :: c29 :: c30 :: c31 :: c32 :: c33 :: c34 :: c35 :: c36 :: c37 :: c38 :: c39 :: c40 :: c41 :: c42 :: c43 :: c44 :: c45 :: c46 :: c47 :: c48 :: c49 :: c50 :: c51 :: c52 :: c53 :: c54 :: c55 :: c56 :: c57 :: c58 :: c59 :: c60 :: c61 :: c62 :: c63 :: c64 :: c65 :: c66 :: c67 :: c68 :: c69 :: c70 :: c71 :: c72 :: c73 :: c74 :: c75 :: c76 :: c77 :: c78 :: c79 :: c80 :: c81 :: c82 :: c83 :: c84 :: c85 :: c86 :: c87 :: c88 :: c89 :: c90 :: c91 :: c92 :: c93 :: c94 :: c95 :: c96 :: c97 :: c98 :: c99 :: c100 :: c101 :: c102 :: c103 :: c104 :: c105 :: c106 :: c107 :: c108 :: c109 :: c110 :: c111 :: c112 :: c113 :: c114 :: c115 :: c116 :: c117 :: c118 :: c119 :: c120 :: c121 :: c122 :: c123 :: c124 :: c125 :: c126 :: c127 :: c128 :: c129 :: c130 :: c131 :: c132 :: c133 :: c134 :: c135 :: c136 :: c137 :: c138 :: .int .i64 64 :: u140 :: u141 :: u142 :: u143 :: u144 :: u145 :: u146 :: u147 :: u148 :: u149 :: u150 :: u151 :: u152 :: u153 :: u154 :: u155 :: u156 :: u157 :: u158 :: u159 :: u160 :: u161 :: u162 :: u163 :: u164 :: u165 :: u166 :: u167 :: u168 :: u169 :: u170 :: u171 :: u172 :: u173 :: u174 :: u175 :: u176 :: u177 :: u178 :: u179 :: u180 :: u181 :: u182 :: u183 :: u184 :: u185 :: u186 :: u187 :: u188 :: u189 :: u190 :: u191 :: u192 :: u193 :: u194 :: u195 :: u196 :: u197 :: u198 :: u199 :: u200 :: u201 :: u202 :: u203 :: u204 :: u205 :: u206 :: u207 :: u208 :: u209 :: u210 :: u211 :: u212 :: u213 :: u214 :: u215 :: u216 :: u217 :: u218 :: u219 :: u220 :: u221 :: u222 :: u223 :: u224 :: u225 :: u226 :: u227 :: u228 :: u229 :: u230 :: u231 :: u232 :: u233 :: u234 :: u235 :: u236 :: u237 :: u238 :: u239 :: u240 :: u241 :: u242 :: u243 :: u244 :: u245 :: u246 :: u247 :: u248 :: u249 :: u250 :: u251 :: u252 :: u253 :: u254 :: u255 :: u256 :: c257 :: c258 :: c259 :: c260 :: c261 :: c262 :: c263 :: c264 :: c265 :: c266 :: c267 :: c268 :: c269 :: c270 :: c271 :: c272 :: c273 :: c274 :: c275 :: c276 :: c277 :: c278 :: c279 :: c280 :: c281 :: c282 :: c283 :: c284 :: c285 :: c286 :: c287 :: c288 :: c289 :: c290 :: c291 :: c292 :: c293 :: []).toArray, []⟩ wr) :
    LoopWp 2 Q0 ⟨(.pointer (some ⟨gh, 0, none⟩) :: c1 :: c2 :: c3 :: c4 :: c5 :: c6 :: c7 :: .slice (some ⟨gW, 0, none⟩) 64 64 :: c9 :: c10 :: .slice (some ⟨gv, 0, none⟩) 8 cv :: c12 :: c13 :: c14 :: c15 :: c16 :: c17 :: c18 :: c19 :: c20 :: c21 :: c22 :: c23 :: c24 :: c25 :: c26 :: c27 :: c28 :: c29 :: c30 :: c31 :: c32 :: c33 :: c34 :: c35 :: c36 :: c37 :: c38 :: c39 :: c40 :: c41 :: c42 :: c43 :: c44 :: c45 :: c46 :: c47 :: c48 :: c49 :: c50 :: c51 :: c52 :: c53 :: c54 :: c55 :: c56 :: c57 :: c58 :: c59 :: c60 :: c61 :: c62 :: c63 :: c64 :: c65 :: c66 :: c67 :: c68 :: c69 :: c70 :: c71 :: c72 :: c73 :: c74 :: c75 :: c76 :: c77 :: c78 :: c79 :: c80 :: c81 :: c82 :: c83 :: c84 :: c85 :: c86 :: c87 :: c88 :: c89 :: c90 :: c91 :: c92 :: c93 :: c94 :: c95 :: c96 :: c97 :: c98 :: c99 :: c100 :: c101 :: c102 :: c103 :: c104 :: c105 :: c106 :: c107 :: c108 :: c109 :: c110 :: c111 :: c112 :: c113 :: c114 :: c115 :: c116 :: c117 :: c118 :: c119 :: c120 :: c121 :: c122 :: c123 :: c124 :: c125 :: c126 :: c127 :: c128 :: c129 :: c130 :: c131 :: c132 :: c133 :: c134 :: c135 :: c136 :: c137 :: c138 :: .int .i64 64 :: .int .i64 0 :: c141 :: c142 :: c143 :: c144 :: c145 :: c146 :: c147 :: c148 :: c149 :: c150 :: c151 :: c152 :: c153 :: c154 :: c155 :: c156 :: c157 :: c158 :: c159 :: c160 :: c161 :: c162 :: c163 :: c164 :: c165 :: c166 :: c167 :: c168 :: c169 :: c170 :: c171 :: c172 :: c173 :: c174 :: c175 :: c176 :: c177 :: c178 :: c179 :: c180 :: c181 :: c182 :: c183 :: c184 :: c185 :: c186 :: c187 :: c188 :: c189 :: c190 :: c191 :: c192 :: c193 :: c194 :: c195 :: c196 :: c197 :: c198 :: c199 :: c200 :: c201 :: c202 :: c203 :: c204 :: c205 :: c206 :: c207 :: c208 :: c209 :: c210 :: c211 :: c212 :: c213 :: c214 :: c215 :: c216 :: c217 :: c218 :: c219 :: c220 :: c221 :: c222 :: c223 :: c224 :: c225 :: c226 :: c227 :: c228 :: c229 :: c230 :: c231 :: c232 :: c233 :: c234 :: c235 :: c236 :: c237 :: c238 :: c239 :: c240 :: c241 :: c242 :: c243 :: c244 :: c245 :: c246 :: c247 :: c248 :: c249 :: c250 :: c251 :: c252 :: c253 :: c254 :: c255 :: c256 :: c257 :: c258 :: c259 :: c260 :: c261 :: c262 :: c263 :: c264 :: c265 :: c266 :: c267 :: c268 :: c269 :: c270 :: c271 :: c272 :: c273 :: c274 :: c275 :: c276 :: c277 :: c278 :: c279 :: c280 :: c281 :: c282 :: c283 :: c284 :: c285 :: c286 :: c287 :: c288 :: c289 :: c290 :: c291 :: c292 :: c293 :: []).toArray, []⟩ w5 := by
  have hsg : IntKind.u32.signed = false := rfl
  have hov0 : OwnW w5 0 gv cv (roundsV H B 0).toL := by
    show OwnW w5 0 gv cv (V8.ofL H).toL
    rw [ofL_toL H hH]
    exact ov
  clear ov hH
  unfold LoopWp
  conv => arg 2; whnf
  go_loopw [140, 11] (fun x v wr => ∃ t g' c' : Nat, t ≤ 64 ∧ x = .int .i64 t ∧ v = .slice (some ⟨g', 0, none⟩) 8 c' ∧ OwnW wr 0 g' c' (roundsV H B t).toL ∧ Hid (g' = gv ∨ w5.heap.size ≤ g') ∧ Below w5.heap.size w5 wr) (fun x _ _ => 64 - (intOf x).toNat)
  case atStart => exact ⟨0, gv, cv, Nat.zero_le _, rfl, rfl, hov0, .inl rfl, Below.refl _ _⟩
  case round =>
    obtain ⟨t, g', c', ht, rfl, rfl, ov, hgv, hb⟩ := hrel
    have it : (0 : Int) ≤ (t : Int) ∧ (t : Int) ≤ 64 := by omega
    by_cases ht64 : t < 64
    · have it2 : (t : Int) < 64 := by omega
      have d0 : decide ((t : Int) < 64) = true := decide_eq_true it2
      have hhr := hh.bel hb
      have oWr := oW.below hb
      have qh := hhr.blk.cell 1
      simp only [List.getElem?_cons_succ, List.getElem?_cons_zero] at qh
      have q0 := hhr.t.cell t ht64
      have q1 := oWr.cell t (by rw [fillI_len _ _ (Nat.le_refl _)]; exact ht64)
      rw [fillI_at B 64 t ht64] at q1
      have EN : Hid (roundsV H B (t + 1) = stepV (roundsV H B t) (kTab.getD t 0) (wS B t)) := rfl
      have a0 := ov.cell 0 (by simp [V8.toL])
      have a1 := ov.cell 1 (by simp [V8.toL])
      have a2 := ov.cell 2 (by simp [V8.toL])
      have a3 := ov.cell 3 (by simp [V8.toL])
      have a4 := ov.cell 4 (by simp [V8.toL])
      have a5 := ov.cell 5 (by simp [V8.toL])
      have a6 := ov.cell 6 (by simp [V8.toL])
      have a7 := ov.cell 7 (by simp [V8.toL])
      generalize roundsV H B t = v at *
      obtain ⟨va, vb, vc, vd, ve, vf, vg, vh⟩ := v
      simp only [V8.toL, List.getD_cons_zero, List.getD_cons_succ] at a0 a1 a2 a3 a4 a5 a6 a7
      generalize kTab.getD t 0 = xk at *
      generalize wS B t = xw at *
      clear hexit ov hhr oWr
      go_wp2_with fail
      go_quiet (first | exact Calls.quiet_of_same (rot_any _ _ _ (by decide) (by decide)))
      have hb := below_drewN hb nq
      have a0 : (wr.drewN nq).cell? ⟨g', 0, none⟩ = some (.int .u32 va) := a0
      have a1 : (wr.drewN nq).cell? ⟨g', 1, none⟩ = some (.int .u32 vb) := a1
      have a2 : (wr.drewN nq).cell? ⟨g', 2, none⟩ = some (.int .u32 vc) := a2
      have a3 : (wr.drewN nq).cell? ⟨g', 3, none⟩ = some (.int .u32 vd) := a3
      have a4 : (wr.drewN nq).cell? ⟨g', 4, none⟩ = some (.int .u32 ve) := a4
      have a5 : (wr.drewN nq).cell? ⟨g', 5, none⟩ = some (.int .u32 vf) := a5
      have a6 : (wr.drewN nq).cell? ⟨g', 6, none⟩ = some (.int .u32 vg) := a6
      clear q0 q1 qh a7
      generalize wr.drewN nq = wq at *
      obtain ⟨p, hp⟩ : ∃ p, ((vh + bits .xor .u32 (bits .xor .u32 (rotr ve 6) (rotr ve 11)) (rotr ve 25) + bits .xor .u32 (bits .and .u32 ve vf) (bits .and .u32 (bits .xor .u32 IntKind.u32.max ve) vg) + xk) % 4294967296 + xw) % 4294967296 = p := ⟨_, rfl⟩
      rw [hp]
      have HP : Hid (pv ⟨va, vb, vc, vd, ve, vf, vg, vh⟩ xk xw = p) := by
        show _ = _
        rw [← hp]
        exact (Int.emod_add_emod _ _ _).symm
      clear hp
      go_wp2_with fail
      go_quiet (first | exact Calls.quiet_of_same (rot_any _ _ _ (by decide) (by decide)))
      have hb := below_drewN hb nq
      have a0 : (wq.drewN nq).cell? ⟨g', 0, none⟩ = some (.int .u32 va) := a0
      have a1 : (wq.drewN nq).cell? ⟨g', 1, none⟩ = some (.int .u32 vb) := a1
      have a2 : (wq.drewN nq).cell? ⟨g', 2, none⟩ = some (.int .u32 vc) := a2
      have a3 : (wq.drewN nq).cell? ⟨g', 3, none⟩ = some (.int .u32 vd) := a3
      have a4 : (wq.drewN nq).cell? ⟨g', 4, none⟩ = some (.int .u32 ve) := a4
      have a5 : (wq.drewN nq).cell? ⟨g', 5, none⟩ = some (.int .u32 vf) := a5
      have a6 : (wq.drewN nq).cell? ⟨g', 6, none⟩ = some (.int .u32 vg) := a6
      generalize wq.drewN nq = wp at *
      obtain ⟨q, hq⟩ : ∃ q, (bits .xor .u32 (bits .xor .u32 (rotr va 2) (rotr va 13)) (rotr va 22) + bits .xor .u32 (bits .xor .u32 (bits .and .u32 va vb) (bits .and .u32 va vc)) (bits .and .u32 vb vc)) % 4294967296 = q := ⟨_, rfl⟩
      rw [hq]
      have HQ : Hid (qv ⟨va, vb, vc, vd, ve, vf, vg, vh⟩ = q) := hq
      clear hq
      have ES : Hid ((roundsV H B (t + 1)).toL = [(p + q) % 4294967296, va, vb, vc, (vd + p) % 4294967296, ve, vf, vg]) := by
        show _ = _
        rw [EN.out]
        unfold stepV
        rw [HP.out, HQ.out]
        rfl
      clear EN HP HQ
      go_wp2_with fail
      refine wp_quiet_tail 26 mixed (by kernel_rfl) ?_
      simp only [List.take_succ_cons, List.take_zero, List.drop_succ_cons, List.drop_zero]
      repeat (first | go_big_quiet_skip | (go_big_quiet_want; go_big_quiet_op; go_big_quiet_on))
      refine wpQuiet_nil ?_
      go_wp2_with fail
      have o := (OwnW.ofL wp [(p + q) % 4294967296, va, vb, vc, (vd + p) % 4294967296, ve, vf, vg] (by simp)).down (Nat.zero_le _)
      exact ⟨⟨t + 1, wp.heap.size, 8, by omega, by go_num, rfl, by rw [ES.out]; exact o, .inr hb.size, (bel_al hb _).drew⟩, by simp [intOf]; omega⟩
    · have et : t = 64 := by omega
      subst et
      have d0 : decide (((64 : Nat) : Int) < 64) = false := by decide
      go_wp2_with fail
      exact hexit _ _ _ _ _ _ _ _ _ _ _ _ _ _ _ _ _ _ _ _ _ _ _ _ _ _ _ _ _ _ _ _ _ _ _ _ _ _ _ _ _ _ _ _ _ _ _ _ _ _ _ _ _ _ _ _ _ _ _ _ _ _ _ _ _ _ _ _ _ _ _ _ _ _ _ _ _ _ _ _ _ _ _ _ _ _ _ _ _ _ _ _ _ _ _ _ _ _ _ _ _ _ _ _ _ _ _ _ _ _ _ _ _ _ _ _ _ _ _ _ wr g' c' ov hgv hb

end Go.Proofs.YtejhhkhaoekkiaaDoor.Ck
