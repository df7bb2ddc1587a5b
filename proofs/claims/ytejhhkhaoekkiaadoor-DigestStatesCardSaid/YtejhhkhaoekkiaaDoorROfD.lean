/- The last loops of the document's Of: the words as bytes. -/
import Derived.Test.YtejhhkhaoekkiaaDoorROfA
namespace Go.Proofs.YtejhhkhaoekkiaaDoor.Ck
open Go.RowKit

theorem row_snoc (H : List Int) (k : Nat) (h : k < 32) : (rowB H).take k ++ [(H.getD (k / 4) 0) / 2 ^ (24 - k % 4 * 8) % 256] = (rowB H).take (k + 1) := by
  rw [List.take_add_one, rowB_at H k h]; rfl

set_option maxRecDepth 1000000 in
set_option maxHeartbeats 4000000 in
theorem bytes_loop {c0 c1 c2 c3 c4 c5 c6 c7 c8 c9 c10 c11 c12 c13 c14 c15 c17 c20 c21 c22 c23 c24 c25 c26 c27 c28 c29 c30 c31 c32 c33 c34 c35 c36 c37 c38 c39 c40 c41 c42 c43 c44 c45 c46 c47 c48 c49 c50 c51 c52 c53 c54 c55 c56 c57 c58 c59 c60 c61 c62 c63 c64 c65 c66 c67 c68 c69 c70 c71 c72 c73 c74 c75 c76 c77 c78 c79 c80 c81 c82 c83 c84 c85 c86 c87 c88 c89 c90 c91 c92 c93 c94 c95 c96 c97 c98 c99 c100 c101 c102 c103 c104 c105 c106 c107 c108 c109 c110 c111 c112 c113 c114 c115 c116 c117 c118 c119 c120 c121 c122 c123 c124 c125 c126 c127 c128 c129 c130 c131 c132 c133 c134 c135 c136 c137 c138 c139 c140 c141 c142 c143 c144 c145 c146 c147 c148 c149 c150 c151 c152 c153 c154 c155 c156 c157 c158 c159 c160 c161 c162 c163 c164 c165 c166 c167 c168 c169 c170 c171 c172 c173 c174 c175 c176 c177 c178 c179 c180 c181 c182 c183 c184 c185 c186 c187 c188 c189 c190 c191 c192 c193 c194 c195 c196 c197 c198 c199 c200 c201 c202 c203 c204 c205 c206 c207 c208 c209 c210 c211 c212 c213 c214 c215 c216 c217 c218 c219 c220 c221 c222 c223 c224 c225 c226 c227 c228 c229 c230 c231 c232 c233 c234 c235 c236 c237 c238 c239 c240 c241 c242 c243 c244 c245 c246 c247 c248 c249 c250 c251 c252 c253 c254 c255 c256 c257 c258 c259 c260 c261 c262 c263 c264 c265 c266 c267 c268 c269 c270 c271 c272 c273 c274 c275 c276 c277 c278 c279 c280 c281 c282 c283 c284 c285 c286 c287 c288 c289 c290 c291 c292 c293 : Value} (D i go co : Nat) (H : List Int) (x : Int) (w8 : World) (Q0 : Exit → Act → World → Prop) (o : OwnB w8 D go co ((rowB H).take (4 * i))) (hi : i < 8) (hx : Hid (H.getD i 0 = x)) (hx0 : 0 ≤ x ∧ x < 4294967296) (hD : D ≤ w8.heap.size)
    (hexit : ∀ (u19 u280 u281 u282 u283 u284 u285 u286 u287 u288 u289 u290 u291 : Value) (wr : World) (g' c' : Nat), OwnB wr D g' c' ((rowB H).take (4 * (i + 1))) → Below D w8 wr → Q0 (.exit 10) ⟨(c0 :: c1 :: c2 :: c3 :: c4 :: c5 :: c6 :: c7 :: c8 :: c9 :: c10 :: c11 :: c12 :: c13 :: c14 :: c15 :: .slice (some ⟨g', 0, none⟩) (4 * (i + 1)) c' :: c17 :: .int .u32 x :: u19 :: c20 :: c21 :: c22 :: c23 :: c24 :: c25 :: c26 :: c27 :: c28 :: c29 :: c30 :: c31 :: c32 :: c33 :: c34 :: c35 :: c36 :: c37 :: c38 :: c39 :: c40 :: c41 :: c42 :: c43 :: c44 :: c45 :: c46 :: c47 :: c48 :: c49 :: c50 :: c51 :: c52 :: c53 :: c54 :: c55 :: c56 :: c57 :: c58 :: c59 :: c60 :: c61 :: c62 :: c63 :: c64 :: c65 :: c66 :: c67 :: c68 :: c69 :: c70 :: c71 :: c72 :: c73 :: c74 :: c75 :: c76 :: c77 :: c78 :: c79 :: c80 :: c81 :: c82 :: c83 :: c84 :: c85 :: c86 :: c87 :: c88 :: c89 :: c90 :: c91 :: c92 :: c93 :: c94 :: c95 :: c96 :: c97 :: c98 :: c99 :: c100 :: c101 :: c102 :: c103 :: c104 :: c105 :: c106 :: c107 :: c108 :: c109 :: c110 :: c111 :: c112 :: c113 :: c114 :: c115 :: c116 :: c117 :: c118 :: c119 :: c120 :: c121 :: c122 :: c123 :: c124 :: c125 :: c126 :: c127 :: c128 :: c129 :: c130 :: c131 :: c132 :: c133 :: c134 :: c135 :: c136 :: c137 :: c138 :: c139 :: c140 :: c141 :: c142 :: c143 :: c144 :: c145 :: c146 :: c147 :: c148 :: c149 :: c150 :: c151 :: c152 :: c153 :: c154 :: c155 :: c156 :: c157 :: c158 :: c159 :: c160 :: c161 :: c162 :: c163 :: c164 :: c165 :: c166 :: c167 :: c168 :: c169 :: c170 :: c171 :: c172 :: c173 :: c174 :: c175 :: c176 :: c177 :: c178 :: c179 :: c180 :: c181 :: c182 :: c183 :: c184 :: c185 :: c186 :: c187 :: c188 :: c189 :: c190 :: c191 :: c192 :: c193 :: c194 :: c195 :: c196 :: c197 :: c198 :: c199 :: c200 :: c201 :: c202 :: c203 :: c204 :: c205 :: c206 :: c207 :: c208 :: c209 :: c210 :: c211 :: c212 :: c213 :: c214 :: c215 :: c216 :: c217 :: c218 :: c219 :: c220 :: c221 :: c222 :: c223 :: c224 :: c225 :: c226 :: c227 :: c228 :: c229 :: c230 :: c231 :: c232 :: c233 :: c234 :: c235 :: c236 :: c237 :: c238 :: c239 :: c240 :: c241 :: c242 :: c243 :: c244 :: c245 :: c246 :: c247 :: c248 :: c249 :: c250 :: c251 :: c252 :: c253 :: c254 :: c255 :: c256 :: c257 :: c258 :: c259 :: c260 :: c261 :: c262 :: c263 :: c264 :: c265 :: c266 :: c267 :: c268 :: c269 :: c270 :: c271 :: c272 :: c273 :: c274 :: c275 :: c276 :: c277 :: c278 :: c279 :: u280 :: u281 :: u282 :: u283 :: u284 :: u285 :: u286 :: u287 :: u288 :: u289 :: u290 :: u291 :: c292 :: c293 :: []).toArray, []⟩ wr) :
    LoopWp 5 Q0 ⟨(c0 :: c1 :: c2 :: c3 :: c4 :: c5 :: c6 :: c7 :: c8 :: c9 :: c10 :: c11 :: c12 :: c13 :: c14 :: c15 :: .slice (some ⟨go, 0, none⟩) (4 * i) co :: c17 :: .int .u32 x :: .int .i64 24 :: c20 :: c21 :: c22 :: c23 :: c24 :: c25 :: c26 :: c27 :: c28 :: c29 :: c30 :: c31 :: c32 :: c33 :: c34 :: c35 :: c36 :: c37 :: c38 :: c39 :: c40 :: c41 :: c42 :: c43 :: c44 :: c45 :: c46 :: c47 :: c48 :: c49 :: c50 :: c51 :: c52 :: c53 :: c54 :: c55 :: c56 :: c57 :: c58 :: c59 :: c60 :: c61 :: c62 :: c63 :: c64 :: c65 :: c66 :: c67 :: c68 :: c69 :: c70 :: c71 :: c72 :: c73 :: c74 :: c75 :: c76 :: c77 :: c78 :: c79 :: c80 :: c81 :: c82 :: c83 :: c84 :: c85 :: c86 :: c87 :: c88 :: c89 :: c90 :: c91 :: c92 :: c93 :: c94 :: c95 :: c96 :: c97 :: c98 :: c99 :: c100 :: c101 :: c102 :: c103 :: c104 :: c105 :: c106 :: c107 :: c108 :: c109 :: c110 :: c111 :: c112 :: c113 :: c114 :: c115 :: c116 :: c117 :: c118 :: c119 :: c120 :: c121 :: c122 :: c123 :: c124 :: c125 :: c126 :: c127 :: c128 :: c129 :: c130 :: c131 :: c132 :: c133 :: c134 :: c135 :: c136 :: c137 :: c138 :: c139 :: c140 :: c141 :: c142 :: c143 :: c144 :: c145 :: c146 :: c147 :: c148 :: c149 :: c150 :: c151 :: c152 :: c153 :: c154 :: c155 :: c156 :: c157 :: c158 :: c159 :: c160 :: c161 :: c162 :: c163 :: c164 :: c165 :: c166 :: c167 :: c168 :: c169 :: c170 :: c171 :: c172 :: c173 :: c174 :: c175 :: c176 :: c177 :: c178 :: c179 :: c180 :: c181 :: c182 :: c183 :: c184 :: c185 :: c186 :: c187 :: c188 :: c189 :: c190 :: c191 :: c192 :: c193 :: c194 :: c195 :: c196 :: c197 :: c198 :: c199 :: c200 :: c201 :: c202 :: c203 :: c204 :: c205 :: c206 :: c207 :: c208 :: c209 :: c210 :: c211 :: c212 :: c213 :: c214 :: c215 :: c216 :: c217 :: c218 :: c219 :: c220 :: c221 :: c222 :: c223 :: c224 :: c225 :: c226 :: c227 :: c228 :: c229 :: c230 :: c231 :: c232 :: c233 :: c234 :: c235 :: c236 :: c237 :: c238 :: c239 :: c240 :: c241 :: c242 :: c243 :: c244 :: c245 :: c246 :: c247 :: c248 :: c249 :: c250 :: c251 :: c252 :: c253 :: c254 :: c255 :: c256 :: c257 :: c258 :: c259 :: c260 :: c261 :: c262 :: c263 :: c264 :: c265 :: c266 :: c267 :: c268 :: c269 :: c270 :: c271 :: c272 :: c273 :: c274 :: c275 :: c276 :: c277 :: c278 :: c279 :: c280 :: c281 :: c282 :: c283 :: c284 :: c285 :: c286 :: c287 :: c288 :: c289 :: c290 :: c291 :: c292 :: c293 :: []).toArray, []⟩ w8 := by
  unfold LoopWp
  conv => arg 2; whnf
  go_loopw [19, 16] (fun z v wr => ∃ (j n g' c' : Nat) (y : Int), (j = 0 ∧ y = 24 ∨ j = 1 ∧ y = 16 ∨ j = 2 ∧ y = 8 ∨ j = 3 ∧ y = 0 ∨ j = 4 ∧ y = -8) ∧ Hid (n = 4 * i + j) ∧ z = .int .i64 y ∧ v = .slice (some ⟨g', 0, none⟩) n c' ∧ OwnB wr D g' c' ((rowB H).take n) ∧ Below D w8 wr ∧ D ≤ wr.heap.size) (fun z _ _ => (intOf z + 8).toNat)
  case atStart => exact ⟨0, 4 * i, go, co, 24, .inl ⟨rfl, rfl⟩, rfl, rfl, rfl, o, Below.refl _ _, hD⟩
  case round =>
    obtain ⟨j, n, g', c', y, hj, EN, rfl, rfl, o, hb, hDr⟩ := hrel
    by_cases hj4 : j = 4
    · subst hj4
      obtain rfl : y = -8 := by omega
      have hn : n = 4 * (i + 1) := by have := EN.out; omega
      subst hn
      go_wp2_with fail
      exact hexit _ _ _ _ _ _ _ _ _ _ _ _ _ wr g' c' o hb
    · have hn32 : n < 32 := by have := EN.out; omega
      have hn7 : n + 1 ≤ 2000000 := by omega
      have ELn : Hid (n = ((rowB H).take n).length) := by show _ = _; rw [List.length_take, rowB_len]; omega
      have ES := row_snoc H n hn32
      have e4 : n / 4 = i := by have := EN.out; omega
      rw [e4, hx.out] at ES
      have Hb := hide hb
      clear hexit e4
      have e5 : n % 4 = j := by have := EN.out; omega
      rw [e5] at ES
      have HES := hide ES
      clear e5 ES
      obtain ⟨b, eb⟩ : ∃ b, x / 2 ^ (24 - j * 8) % 256 = b := ⟨_, rfl⟩
      have fb : Hid (Fit8 [b]) := fun z hz => by simp at hz; subst hz; rw [← eb]; omega
      rcases hj with ⟨rfl, rfl⟩ | ⟨rfl, rfl⟩ | ⟨rfl, rfl⟩ | ⟨rfl, rfl⟩ | ⟨rfl, rfl⟩
      case inr.inr.inr.inr => exact absurd rfl hj4
      all_goals
        rw [eb] at HES
        simp only [Nat.zero_mul, Nat.one_mul, Nat.reduceMul, Nat.reduceSub, Nat.sub_zero, Int.reducePow, Int.pow_zero, Int.ediv_one] at eb
        try rw [Int.emod_eq_of_lt (a := x / 16777216) (by omega) (by omega)] at eb
        clear hj4
        go_wp2_with (first | (at_builtin; refine wpList_appB (.tmp 284) (.tmp 290) _ _ _ (fun ty => pushB (x := b) ty o ELn.out fb.out hn7 hDr) rfl rfl rfl rfl ?_; rintro v7 w7 ⟨⟨g7, c7, rfl, o7⟩, t7⟩))
        rw [HES.out] at o7
        have hb7 : Below D w8 w7 := Hb.out.trans (t7.bel o.ge hDr)
        first
          | exact ⟨⟨1, n + 1, g7, c7, 16, .inr (.inl ⟨rfl, rfl⟩), by have := EN.out; show _ = _; omega, rfl, rfl, o7, hb7, Nat.le_trans hDr t7.size⟩, by simp [intOf]⟩
          | exact ⟨⟨2, n + 1, g7, c7, 8, .inr (.inr (.inl ⟨rfl, rfl⟩)), by have := EN.out; show _ = _; omega, rfl, rfl, o7, hb7, Nat.le_trans hDr t7.size⟩, by simp [intOf]⟩
          | exact ⟨⟨3, n + 1, g7, c7, 0, .inr (.inr (.inr (.inl ⟨rfl, rfl⟩))), by have := EN.out; show _ = _; omega, rfl, rfl, o7, hb7, Nat.le_trans hDr t7.size⟩, by simp [intOf]⟩
          | exact ⟨⟨4, n + 1, g7, c7, (-8), .inr (.inr (.inr (.inr ⟨rfl, rfl⟩))), by have := EN.out; show _ = _; omega, rfl, rfl, o7, hb7, Nat.le_trans hDr t7.size⟩, by simp [intOf]⟩

set_option maxRecDepth 1000000 in
set_option maxHeartbeats 4000000 in
theorem out_loop {c0 c1 c2 c3 c4 c5 c6 c7 c8 c9 c10 c11 c12 c13 c14 c15 c17 c18 c19 c20 c21 c22 c23 c24 c25 c26 c27 c28 c29 c30 c31 c32 c33 c34 c35 c36 c37 c38 c39 c40 c41 c42 c43 c44 c45 c46 c47 c48 c49 c50 c51 c52 c53 c54 c55 c56 c57 c58 c59 c60 c61 c62 c63 c64 c65 c66 c67 c68 c69 c70 c71 c72 c73 c74 c75 c76 c77 c78 c79 c80 c81 c82 c83 c84 c85 c86 c87 c88 c89 c90 c91 c92 c93 c94 c95 c96 c97 c98 c99 c100 c101 c102 c103 c104 c105 c106 c107 c108 c109 c110 c111 c112 c113 c114 c115 c116 c117 c118 c119 c120 c121 c122 c123 c124 c125 c126 c127 c128 c129 c130 c131 c132 c133 c134 c135 c136 c137 c138 c139 c140 c141 c142 c143 c144 c145 c146 c147 c148 c149 c150 c151 c152 c153 c154 c155 c156 c157 c158 c159 c160 c161 c162 c163 c164 c165 c166 c167 c168 c169 c170 c171 c172 c173 c174 c175 c176 c177 c178 c179 c180 c181 c182 c183 c184 c185 c186 c187 c188 c189 c190 c191 c192 c193 c194 c195 c196 c197 c198 c199 c200 c201 c202 c203 c204 c205 c206 c207 c208 c209 c210 c211 c212 c213 c214 c215 c216 c217 c218 c219 c220 c221 c222 c223 c224 c225 c226 c227 c228 c229 c230 c231 c232 c233 c234 c235 c236 c237 c238 c239 c240 c241 c242 c243 c244 c245 c246 c247 c248 c249 c250 c251 c252 c253 c254 c255 c256 c257 c258 c259 c260 c261 c262 c263 c264 c265 c266 c267 c268 c269 c270 c271 c272 c273 c277 c278 c279 c280 c281 c282 c283 c284 c285 c286 c287 c288 c289 c290 c291 c292 c293 : Value} (D gs cs go co : Nat) (H : List Int) (w8 : World) (Q0 : Exit → Act → World → Prop) (o : OwnB w8 D go co []) (os : OwnW w8 0 gs cs H) (hgs : gs < D) (hH : H.length = 8) (hHf : ∀ i, 0 ≤ H.getD i 0 ∧ H.getD i 0 < 4294967296) (hD : D ≤ w8.heap.size)
    (hexit : ∀ (u18 u19 u276 u277 u278 u279 u280 u281 u282 u283 u284 u285 u286 u287 u288 u289 u290 u291 u292 : Value) (wr : World) (g' c' : Nat), OwnB wr D g' c' (rowB H) → Below D w8 wr → Q0 (.exit 8) ⟨(c0 :: c1 :: c2 :: c3 :: c4 :: c5 :: c6 :: c7 :: c8 :: c9 :: c10 :: c11 :: c12 :: c13 :: c14 :: c15 :: .slice (some ⟨g', 0, none⟩) 32 c' :: c17 :: u18 :: u19 :: c20 :: c21 :: c22 :: c23 :: c24 :: c25 :: c26 :: c27 :: c28 :: c29 :: c30 :: c31 :: c32 :: c33 :: c34 :: c35 :: c36 :: c37 :: c38 :: c39 :: c40 :: c41 :: c42 :: c43 :: c44 :: c45 :: c46 :: c47 :: c48 :: c49 :: c50 :: c51 :: c52 :: c53 :: c54 :: c55 :: c56 :: c57 :: c58 :: c59 :: c60 :: c61 :: c62 :: c63 :: c64 :: c65 :: c66 :: c67 :: c68 :: c69 :: c70 :: c71 :: c72 :: c73 :: c74 :: c75 :: c76 :: c77 :: c78 :: c79 :: c80 :: c81 :: c82 :: c83 :: c84 :: c85 :: c86 :: c87 :: c88 :: c89 :: c90 :: c91 :: c92 :: c93 :: c94 :: c95 :: c96 :: c97 :: c98 :: c99 :: c100 :: c101 :: c102 :: c103 :: c104 :: c105 :: c106 :: c107 :: c108 :: c109 :: c110 :: c111 :: c112 :: c113 :: c114 :: c115 :: c116 :: c117 :: c118 :: c119 :: c120 :: c121 :: c122 :: c123 :: c124 :: c125 :: c126 :: c127 :: c128 :: c129 :: c130 :: c131 :: c132 :: c133 :: c134 :: c135 :: c136 :: c137 :: c138 :: c139 :: c140 :: c141 :: c142 :: c143 :: c144 :: c145 :: c146 :: c147 :: c148 :: c149 :: c150 :: c151 :: c152 :: c153 :: c154 :: c155 :: c156 :: c157 :: c158 :: c159 :: c160 :: c161 :: c162 :: c163 :: c164 :: c165 :: c166 :: c167 :: c168 :: c169 :: c170 :: c171 :: c172 :: c173 :: c174 :: c175 :: c176 :: c177 :: c178 :: c179 :: c180 :: c181 :: c182 :: c183 :: c184 :: c185 :: c186 :: c187 :: c188 :: c189 :: c190 :: c191 :: c192 :: c193 :: c194 :: c195 :: c196 :: c197 :: c198 :: c199 :: c200 :: c201 :: c202 :: c203 :: c204 :: c205 :: c206 :: c207 :: c208 :: c209 :: c210 :: c211 :: c212 :: c213 :: c214 :: c215 :: c216 :: c217 :: c218 :: c219 :: c220 :: c221 :: c222 :: c223 :: c224 :: c225 :: c226 :: c227 :: c228 :: c229 :: c230 :: c231 :: c232 :: c233 :: c234 :: c235 :: c236 :: c237 :: c238 :: c239 :: c240 :: c241 :: c242 :: c243 :: c244 :: c245 :: c246 :: c247 :: c248 :: c249 :: c250 :: c251 :: c252 :: c253 :: c254 :: c255 :: c256 :: c257 :: c258 :: c259 :: c260 :: c261 :: c262 :: c263 :: c264 :: c265 :: c266 :: c267 :: c268 :: c269 :: c270 :: c271 :: c272 :: c273 :: .slice (some ⟨gs, 0, none⟩) 8 cs :: .int .i64 8 :: u276 :: u277 :: u278 :: u279 :: u280 :: u281 :: u282 :: u283 :: u284 :: u285 :: u286 :: u287 :: u288 :: u289 :: u290 :: u291 :: u292 :: c293 :: []).toArray, []⟩ wr) :
    LoopWp 4 Q0 ⟨(c0 :: c1 :: c2 :: c3 :: c4 :: c5 :: c6 :: c7 :: c8 :: c9 :: c10 :: c11 :: c12 :: c13 :: c14 :: c15 :: .slice (some ⟨go, 0, none⟩) 0 co :: c17 :: c18 :: c19 :: c20 :: c21 :: c22 :: c23 :: c24 :: c25 :: c26 :: c27 :: c28 :: c29 :: c30 :: c31 :: c32 :: c33 :: c34 :: c35 :: c36 :: c37 :: c38 :: c39 :: c40 :: c41 :: c42 :: c43 :: c44 :: c45 :: c46 :: c47 :: c48 :: c49 :: c50 :: c51 :: c52 :: c53 :: c54 :: c55 :: c56 :: c57 :: c58 :: c59 :: c60 :: c61 :: c62 :: c63 :: c64 :: c65 :: c66 :: c67 :: c68 :: c69 :: c70 :: c71 :: c72 :: c73 :: c74 :: c75 :: c76 :: c77 :: c78 :: c79 :: c80 :: c81 :: c82 :: c83 :: c84 :: c85 :: c86 :: c87 :: c88 :: c89 :: c90 :: c91 :: c92 :: c93 :: c94 :: c95 :: c96 :: c97 :: c98 :: c99 :: c100 :: c101 :: c102 :: c103 :: c104 :: c105 :: c106 :: c107 :: c108 :: c109 :: c110 :: c111 :: c112 :: c113 :: c114 :: c115 :: c116 :: c117 :: c118 :: c119 :: c120 :: c121 :: c122 :: c123 :: c124 :: c125 :: c126 :: c127 :: c128 :: c129 :: c130 :: c131 :: c132 :: c133 :: c134 :: c135 :: c136 :: c137 :: c138 :: c139 :: c140 :: c141 :: c142 :: c143 :: c144 :: c145 :: c146 :: c147 :: c148 :: c149 :: c150 :: c151 :: c152 :: c153 :: c154 :: c155 :: c156 :: c157 :: c158 :: c159 :: c160 :: c161 :: c162 :: c163 :: c164 :: c165 :: c166 :: c167 :: c168 :: c169 :: c170 :: c171 :: c172 :: c173 :: c174 :: c175 :: c176 :: c177 :: c178 :: c179 :: c180 :: c181 :: c182 :: c183 :: c184 :: c185 :: c186 :: c187 :: c188 :: c189 :: c190 :: c191 :: c192 :: c193 :: c194 :: c195 :: c196 :: c197 :: c198 :: c199 :: c200 :: c201 :: c202 :: c203 :: c204 :: c205 :: c206 :: c207 :: c208 :: c209 :: c210 :: c211 :: c212 :: c213 :: c214 :: c215 :: c216 :: c217 :: c218 :: c219 :: c220 :: c221 :: c222 :: c223 :: c224 :: c225 :: c226 :: c227 :: c228 :: c229 :: c230 :: c231 :: c232 :: c233 :: c234 :: c235 :: c236 :: c237 :: c238 :: c239 :: c240 :: c241 :: c242 :: c243 :: c244 :: c245 :: c246 :: c247 :: c248 :: c249 :: c250 :: c251 :: c252 :: c253 :: c254 :: c255 :: c256 :: c257 :: c258 :: c259 :: c260 :: c261 :: c262 :: c263 :: c264 :: c265 :: c266 :: c267 :: c268 :: c269 :: c270 :: c271 :: c272 :: c273 :: .slice (some ⟨gs, 0, none⟩) 8 cs :: .int .i64 8 :: .int .i64 0 :: c277 :: c278 :: c279 :: c280 :: c281 :: c282 :: c283 :: c284 :: c285 :: c286 :: c287 :: c288 :: c289 :: c290 :: c291 :: c292 :: c293 :: []).toArray, []⟩ w8 := by
  unfold LoopWp
  conv => arg 2; whnf
  go_loopw [276, 16] (fun z v wr => ∃ (i n g' c' : Nat), i ≤ 8 ∧ Hid (n = 4 * i) ∧ z = .int .i64 i ∧ v = .slice (some ⟨g', 0, none⟩) n c' ∧ OwnB wr D g' c' ((rowB H).take n) ∧ Below D w8 wr ∧ D ≤ wr.heap.size) (fun z _ _ => 8 - (intOf z).toNat)
  case atStart => exact ⟨0, 0, go, co, Nat.zero_le _, rfl, rfl, rfl, o, Below.refl _ _, hD⟩
  case round =>
    obtain ⟨i, n, g', c', hi, EN, rfl, rfl, o, hb, hDr⟩ := hrel
    by_cases hi8 : i < 8
    · have d0 : decide ((i : Int) < 8) = true := decide_eq_true (by omega)
      have ii : (0 : Int) ≤ (i : Int) ∧ (i : Int) < 8 := by omega
      have q0 := (hb.cell (p := ⟨gs, i, none⟩) hgs).trans (os.cell i (by rw [hH]; exact hi8))
      have hx0 := hHf i
      obtain ⟨x, ex⟩ : ∃ x, H.getD i 0 = x := ⟨_, rfl⟩
      have EX := hide ex
      rw [ex] at q0 hx0
      obtain rfl : n = 4 * i := EN.out
      clear ex hexit
      go_wp2_with fail
      refine bytes_loop D i g' c' H x wr _ o hi8 EX hx0 hDr ?_
      intro _ _ _ _ _ _ _ _ _ _ _ _ _ wr2 g2 c2 o2 hb2
      go_wp2_with fail
      exact ⟨⟨i + 1, 4 * (i + 1), g2, c2, by omega, rfl, by go_num, rfl, o2, hb.trans hb2, Nat.le_trans hDr hb2.size⟩, by simp [intOf]; omega⟩
    · have ei : i = 8 := by omega
      subst ei
      obtain rfl : n = 32 := EN.out
      have d0 : decide (((8 : Nat) : Int) < 8) = false := by decide
      have e32 : (rowB H).take 32 = rowB H := List.take_of_length_le (by rw [rowB_len]; exact Nat.le_refl _)
      rw [e32] at o
      go_wp2_with fail
      exact hexit _ _ _ _ _ _ _ _ _ _ _ _ _ _ _ _ _ _ _ wr g' c' o hb

end Go.Proofs.YtejhhkhaoekkiaaDoor.Ck
