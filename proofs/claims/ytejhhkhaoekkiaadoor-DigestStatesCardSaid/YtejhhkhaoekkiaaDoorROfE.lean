/- The outer loop of the document's Of, and its contract. -/
import Derived.Test.YtejhhkhaoekkiaaDoorROfB
import Derived.Test.YtejhhkhaoekkiaaDoorROfC
import Derived.Test.YtejhhkhaoekkiaaDoorROfD
namespace Go.Proofs.YtejhhkhaoekkiaaDoor.Ck
open Go.RowKit

theorem app_copyW {w : World} {ms : List Int} {vx : Value} {n : Nat} (ty : TypeId) (hn : n = ms.length) (hx : SW w vx ms) (hlen : n ≤ 1000000) :
    ∃ v' w', (Builtin.append_ #[47, 47] ty #[.slice (some ⟨w.heap.size, 0, none⟩) 0 0, vx]).run Tryd.prog (w.alloc (.cells #[] 51)) = .ok v' w' ∧
      ((∃ g cap, v' = .slice (some ⟨g, 0, none⟩) n cap ∧ OwnW w' w.heap.size g cap ms) ∧ Below w.heap.size w w') := by
  subst hn
  obtain ⟨v', w', h1, ⟨g, cap, h2, h3⟩, h4⟩ := app_tnW ty (OwnW.empty w) (hx.bel (bel_new w _)) (by simp; omega) (by simp)
  exact ⟨v', w', h1, ⟨g, cap, by rw [h2]; simp, by simpa using h3⟩, bel_tn (bel_new w _) h4 (Nat.le_refl _)⟩
theorem hashB_fit (M : List Int) (k i : Nat) : 0 ≤ (hashB M k).getD i 0 ∧ (hashB M k).getD i 0 < 4294967296 := by
  cases k with
  | zero =>
    by_cases h : i < 8
    · have : i = 0 ∨ i = 1 ∨ i = 2 ∨ i = 3 ∨ i = 4 ∨ i = 5 ∨ i = 6 ∨ i = 7 := by omega
      rcases this with e | e | e | e | e | e | e | e <;> subst e <;> (show 0 ≤ start8.getD _ 0 ∧ start8.getD _ 0 < 4294967296; decide)
    · have : (hashB M 0).getD i 0 = 0 := by
        have hl : (hashB M 0).length = 8 := hashB_len M 0
        simp only [List.getD]
        rw [List.getElem?_eq_none (by omega)]
        rfl
      rw [this]
      decide
  | succ k =>
    have e : hashB M (k + 1) = addK (hashB M k) (roundsV (hashB M k) (blkOf M k) 64).toL 8 := rfl
    rw [e]
    by_cases h : i < 8
    · simp only [List.getD, addK_at _ _ 8 i h, Option.getD_some, if_pos h]
      omega
    · simp only [List.getD]
      rw [List.getElem?_eq_none (by rw [addK_len]; omega)]
      decide
theorem Ha.tn {w w' : World} {gh gS cS gT cT x : Nat} (h : Ha w gh gS cS gT cT) (ht : Tn x w w') (h1 : gh ≠ x) (h2 : gS ≠ x) (h3 : gT ≠ x) : Ha w' gh gS cS gT cT := ⟨h.blk.tn ht h1, h.s.tn ht h2, h.t.tn ht h3⟩

set_option maxRecDepth 1000000 in
set_option maxHeartbeats 4000000 in
theorem block_loop {c1 c2 c3 c4 c8 c9 c10 c11 c12 c13 c14 c15 c16 c17 c18 c19 c20 c21 c22 c23 c24 c25 c26 c27 c28 c29 c30 c31 c32 c33 c34 c35 c36 c37 c38 c39 c40 c41 c42 c43 c44 c45 c46 c47 c48 c49 c50 c51 c52 c53 c54 c55 c56 c57 c58 c59 c60 c61 c62 c63 c64 c65 c66 c67 c68 c69 c70 c71 c72 c73 c74 c75 c76 c77 c78 c79 c80 c81 c82 c83 c84 c85 c86 c87 c88 c89 c90 c91 c92 c93 c94 c95 c96 c97 c98 c99 c100 c101 c102 c103 c104 c105 c106 c107 c108 c109 c110 c111 c112 c113 c114 c115 c116 c117 c118 c119 c120 c121 c122 c123 c124 c125 c126 c127 c128 c129 c130 c131 c132 c133 c134 c135 c136 c137 c138 c139 c140 c141 c142 c143 c144 c145 c146 c147 c148 c149 c150 c151 c152 c153 c154 c155 c156 c157 c158 c159 c160 c161 c162 c163 c164 c165 c166 c167 c168 c169 c170 c171 c172 c173 c174 c175 c176 c177 c178 c179 c180 c181 c182 c183 c184 c185 c186 c187 c188 c189 c190 c191 c192 c193 c194 c195 c196 c197 c198 c199 c200 c201 c202 c203 c204 c205 c206 c207 c208 c209 c210 c211 c212 c213 c214 c215 c216 c217 c218 c219 c220 c221 c222 c223 c224 c225 c226 c227 c228 c229 c230 c231 c232 c233 c234 c235 c236 c237 c238 c239 c240 c241 c242 c243 c244 c245 c246 c247 c248 c249 c250 c251 c252 c253 c254 c255 c256 c257 c258 c259 c260 c261 c262 c263 c264 c265 c266 c267 c268 c269 c270 c271 c272 c273 c274 c275 c276 c277 c278 c279 c280 c281 c282 c283 c284 c285 c286 c287 c288 c289 c290 c291 c292 c293 : Value} (D gh gS cS gT cT gM cM gs cs nm nb : Nat) (M : List Int) (w2 : World) (Q0 : Exit → Act → World → Prop) (hh : Ha w2 gh gS cS gT cT) (oM : OwnB w2 D gM cM M) (os : OwnW w2 0 gs cs start8) (hM : Hid (M.length = nm)) (hf : Hid (Fit8 M)) (HNM : Hid (nm = 64 * nb)) (hnb : nb ≤ 10000)
    (hgs : Hid (D ≤ gs ∧ gh ≠ gs ∧ gS ≠ gs ∧ gT ≠ gs ∧ gM ≠ gs)) (hD : D ≤ w2.heap.size)
    (hexit : ∀ (u7 u8 u9 u10 u11 u12 u13 u14 u15 u28 u29 u30 u31 u32 u33 u34 u35 u36 u37 u38 u39 u40 u41 u42 u43 u44 u45 u46 u47 u48 u49 u50 u51 u52 u53 u54 u55 u56 u57 u58 u59 u60 u61 u62 u63 u64 u65 u66 u67 u68 u69 u70 u71 u72 u73 u74 u75 u76 u77 u78 u79 u80 u81 u82 u83 u84 u85 u86 u87 u88 u89 u90 u91 u92 u93 u94 u95 u96 u97 u98 u99 u100 u101 u102 u103 u104 u105 u106 u107 u108 u109 u110 u111 u112 u113 u114 u115 u116 u117 u118 u119 u120 u121 u122 u123 u124 u125 u126 u127 u128 u129 u130 u131 u132 u133 u134 u135 u136 u137 u138 u139 u140 u141 u142 u143 u144 u145 u146 u147 u148 u149 u150 u151 u152 u153 u154 u155 u156 u157 u158 u159 u160 u161 u162 u163 u164 u165 u166 u167 u168 u169 u170 u171 u172 u173 u174 u175 u176 u177 u178 u179 u180 u181 u182 u183 u184 u185 u186 u187 u188 u189 u190 u191 u192 u193 u194 u195 u196 u197 u198 u199 u200 u201 u202 u203 u204 u205 u206 u207 u208 u209 u210 u211 u212 u213 u214 u215 u216 u217 u218 u219 u220 u221 u222 u223 u224 u225 u226 u227 u228 u229 u230 u231 u232 u233 u234 u235 u236 u237 u238 u239 u240 u241 u242 u243 u244 u245 u246 u247 u248 u249 u250 u251 u252 u253 u254 u255 u256 u257 u258 u259 u260 u261 u262 u263 u264 u265 u266 u267 u268 u269 u270 u271 u272 : Value) (wr : World), OwnW wr 0 gs cs (hashB M nb) → Below D w2 wr → Q0 (.exit 0) ⟨(.pointer (some ⟨gh, 0, none⟩) :: c1 :: c2 :: c3 :: c4 :: .slice (some ⟨gM, 0, none⟩) nm cM :: .slice (some ⟨gs, 0, none⟩) 8 cs :: u7 :: u8 :: u9 :: u10 :: u11 :: u12 :: u13 :: u14 :: u15 :: c16 :: c17 :: c18 :: c19 :: c20 :: c21 :: c22 :: c23 :: c24 :: c25 :: c26 :: c27 :: u28 :: u29 :: u30 :: u31 :: u32 :: u33 :: u34 :: u35 :: u36 :: u37 :: u38 :: u39 :: u40 :: u41 :: u42 :: u43 :: u44 :: u45 :: u46 :: u47 :: u48 :: u49 :: u50 :: u51 :: u52 :: u53 :: u54 :: u55 :: u56 :: u57 :: u58 :: u59 :: u60 :: u61 :: u62 :: u63 :: u64 :: u65 :: u66 :: u67 :: u68 :: u69 :: u70 :: u71 :: u72 :: u73 :: u74 :: u75 :: u76 :: u77 :: u78 :: u79 :: u80 :: u81 :: u82 :: u83 :: u84 :: u85 :: u86 :: u87 :: u88 :: u89 :: u90 :: u91 :: u92 :: u93 :: u94 :: u95 :: u96 :: u97 :: u98 :: u99 :: u100 :: u101 :: u102 :: u103 :: u104 :: u105 :: u106 :: u107 :: u108 :: u109 :: u110 :: u111 :: u112 :: u113 :: u114 :: u115 :: u116 :: u117 :: u118 :: u119 :: u120 :: u121 :: u122 :: u123 :: u124 :: u125 :: u126 :: u127 :: u128 :: u129 :: u130 :: u131 :: u132 :: u133 :: u134 :: u135 :: u136 :: u137 :: u138 :: u139 :: u140 :: u141 :: u142 :: u143 :: u144 :: u145 :: u146 :: u147 :: u148 :: u149 :: u150 :: u151 :: u152 :: u153 :: u154 :: u155 :: u156 :: u157 :: u158 :: u159 :: u160 :: u161 :: u162 :: u163 :: u164 :: u165 :: u166 :: u167 :: u168 :: u169 :: u170 :: u171 :: u172 :: u173 :: u174 :: u175 :: u176 :: u177 :: u178 :: u179 :: u180 :: u181 :: u182 :: u183 :: u184 :: u185 :: u186 :: u187 :: u188 :: u189 :: u190 :: u191 :: u192 :: u193 :: u194 :: u195 :: u196 :: u197 :: u198 :: u199 :: u200 :: u201 :: u202 :: u203 :: u204 :: u205 :: u206 :: u207 :: u208 :: u209 :: u210 :: u211 :: u212 :: u213 :: u214 :: u215 :: u216 :: u217 :: u218 :: u219 :: u220 :: u221 :: u222 :: u223 :: u224 :: u225 :: u226 :: u227 :: u228 :: u229 :: u230 :: u231 :: u232 :: u233 :: u234 :: u235 :: u236 :: u237 :: u238 :: u239 :: u240 :: u241 :: u242 :: u243 :: u244 :: u245 :: u246 :: u247 :: u248 :: u249 :: u250 :: u251 :: u252 :: u253 :: u254 :: u255 :: u256 :: u257 :: u258 :: u259 :: u260 :: u261 :: u262 :: u263 :: u264 :: u265 :: u266 :: u267 :: u268 :: u269 :: u270 :: u271 :: u272 :: c273 :: c274 :: c275 :: c276 :: c277 :: c278 :: c279 :: c280 :: c281 :: c282 :: c283 :: c284 :: c285 :: c286 :: c287 :: c288 :: c289 :: c290 :: c291 :: c292 :: c293 :: []).toArray, []⟩ wr) :
    LoopWp 0 Q0 ⟨(.pointer (some ⟨gh, 0, none⟩) :: c1 :: c2 :: c3 :: c4 :: .slice (some ⟨gM, 0, none⟩) nm cM :: .slice (some ⟨gs, 0, none⟩) 8 cs :: .int .i64 0 :: c8 :: c9 :: c10 :: c11 :: c12 :: c13 :: c14 :: c15 :: c16 :: c17 :: c18 :: c19 :: c20 :: c21 :: c22 :: c23 :: c24 :: c25 :: c26 :: c27 :: c28 :: c29 :: c30 :: c31 :: c32 :: c33 :: c34 :: c35 :: c36 :: c37 :: c38 :: c39 :: c40 :: c41 :: c42 :: c43 :: c44 :: c45 :: c46 :: c47 :: c48 :: c49 :: c50 :: c51 :: c52 :: c53 :: c54 :: c55 :: c56 :: c57 :: c58 :: c59 :: c60 :: c61 :: c62 :: c63 :: c64 :: c65 :: c66 :: c67 :: c68 :: c69 :: c70 :: c71 :: c72 :: c73 :: c74 :: c75 :: c76 :: c77 :: c78 :: c79 :: c80 :: c81 :: c82 :: c83 :: c84 :: c85 :: c86 :: c87 :: c88 :: c89 :: c90 :: c91 :: c92 :: c93 :: c94 :: c95 :: c96 :: c97 :: c98 :: c99 :: c100 :: c101 :: c102 :: c103 :: c104 :: c105 :: c106 :: c107 :: c108 :: c109 :: c110 :: c111 :: c112 :: c113 :: c114 :: c115 :: c116 :: c117 :: c118 :: c119 :: c120 :: c121 :: c122 :: c123 :: c124 :: c125 :: c126 :: c127 :: c128 :: c129 :: c130 :: c131 :: c132 :: c133 :: c134 :: c135 :: c136 :: c137 :: c138 :: c139 :: c140 :: c141 :: c142 :: c143 :: c144 :: c145 :: c146 :: c147 :: c148 :: c149 :: c150 :: c151 :: c152 :: c153 :: c154 :: c155 :: c156 :: c157 :: c158 :: c159 :: c160 :: c161 :: c162 :: c163 :: c164 :: c165 :: c166 :: c167 :: c168 :: c169 :: c170 :: c171 :: c172 :: c173 :: c174 :: c175 :: c176 :: c177 :: c178 :: c179 :: c180 :: c181 :: c182 :: c183 :: c184 :: c185 :: c186 :: c187 :: c188 :: c189 :: c190 :: c191 :: c192 :: c193 :: c194 :: c195 :: c196 :: c197 :: c198 :: c199 :: c200 :: c201 :: c202 :: c203 :: c204 :: c205 :: c206 :: c207 :: c208 :: c209 :: c210 :: c211 :: c212 :: c213 :: c214 :: c215 :: c216 :: c217 :: c218 :: c219 :: c220 :: c221 :: c222 :: c223 :: c224 :: c225 :: c226 :: c227 :: c228 :: c229 :: c230 :: c231 :: c232 :: c233 :: c234 :: c235 :: c236 :: c237 :: c238 :: c239 :: c240 :: c241 :: c242 :: c243 :: c244 :: c245 :: c246 :: c247 :: c248 :: c249 :: c250 :: c251 :: c252 :: c253 :: c254 :: c255 :: c256 :: c257 :: c258 :: c259 :: c260 :: c261 :: c262 :: c263 :: c264 :: c265 :: c266 :: c267 :: c268 :: c269 :: c270 :: c271 :: c272 :: c273 :: c274 :: c275 :: c276 :: c277 :: c278 :: c279 :: c280 :: c281 :: c282 :: c283 :: c284 :: c285 :: c286 :: c287 :: c288 :: c289 :: c290 :: c291 :: c292 :: c293 :: []).toArray, []⟩ w2 := by
  unfold LoopWp
  conv => arg 2; whnf
  go_loopw [7] (fun at_ wr => ∃ k p : Nat, k ≤ nb ∧ Hid (p = 64 * k) ∧ at_ = .int .i64 p ∧ OwnW wr 0 gs cs (hashB M k) ∧ OwnB wr D gM cM M ∧ Ha wr gh gS cS gT cT ∧ Below D w2 wr ∧ D ≤ wr.heap.size) (fun x _ => 640000 - (intOf x).toNat)
  case atStart => exact ⟨0, 0, Nat.zero_le _, rfl, rfl, os, oM, hh, Below.refl _ _, hD⟩
  case round =>
    clear os oM hh
    obtain ⟨k, p, hk, EP, rfl, os, oM, hh, hb, hDr⟩ := hrel
    by_cases hknb : k < nb
    · have hp64 : p + 64 ≤ nm := by have := EP.out; have := HNM.out; omega
      have hnm6 : nm ≤ 1000000 := by have := HNM.out; omega
      have hlt1 : (p : Int) < (nm : Int) := by omega
      have d0 : decide ((p : Int) < (nm : Int)) = true := decide_eq_true hlt1
      obtain ⟨H, eH⟩ : ∃ H, H = hashB M k := ⟨_, rfl⟩
      obtain ⟨B, eB⟩ : ∃ B, B = blkOf M k := ⟨_, rfl⟩
      have EHn : Hid (hashB M (k + 1) = mixL H B) := by show _ = _; rw [eH, eB]; rfl
      have hBat : Hid (∀ i, i < 64 → B.getD i 0 = M.getD (p + i) 0) := fun i hi => by rw [eB, EP.out]; exact blkOf_at M k i hi
      have hHl : Hid (H.length = 8) := by show _ = _; rw [eH]; exact hashB_len _ _
      rw [← eH] at os
      clear eH eB hexit
      go_wp2_with (first | (refine wpList_makeW (.const (.int .i64 64)) (.const (.int .i64 64)) 64 64 64 64 rfl rfl (Nat.le_refl _) (by decide) rfl rfl rfl rfl ?_; intro w3 gW e3 o3 hb3))
      have hneW : Hid (gs ≠ gW ∧ gM ≠ gW ∧ gh ≠ gW ∧ gS ≠ gW ∧ gT ≠ gW ∧ D ≤ gW) := by
        have h0 := e3.out
        have h1 := os.lt
        have h2 := oM.lt
        have h3 := hh.blk.lt
        have h4 := hh.s.lt
        have h5 := hh.t.lt
        refine ⟨?_, ?_, ?_, ?_, ?_, ?_⟩ <;> omega
      have os3 := os.below hb3
      have oM3 := oM.below hb3
      have hh3 := hh.bel hb3
      have hbw3 : Below D w2 w3 := hb.trans (hb3.mono hDr)
      have oW3 : OwnW w3 0 gW 64 (fillI B 0) := o3.down (Nat.zero_le _)
      have hD3 : D ≤ w3.heap.size := Nat.le_trans hDr hb3.size
      clear o3 hb3 e3 os oM hh hb
      refine sched_loop gM cM nm gW p M B w3 _ D oM3 oW3 hneW.out.2.1 hM hf.out hp64 hnm6 hBat ?_
      intro _ _ _ _ _ _ _ _ _ _ _ _ _ _ _ _ _ _ _ _ _ _ _ _ _ _ _ _ _ _ _ _ _ _ _ _ _ _ _ _ _ _ _ _ _ _ _ _ _ _ _ _ _ _ _ _ _ _ _ _ _ _ _ _ _ _ _ _ _ _ _ _ _ _ _ _ _ _ _ _ _ _ _ _ _ _ _ _ _ _ _ _ _ _ _ _ _ _ _ _ w4 oW4 t4
      have os4 := os3.tn t4 hneW.out.1
      have oM4 := oM3.tn t4 hneW.out.2.1
      have hh4 := hh3.tn t4 hneW.out.2.2.1 hneW.out.2.2.2.1 hneW.out.2.2.2.2.1
      have hb4 : Below D w2 w4 := hbw3.trans (t4.bel hneW.out.2.2.2.2.2 hD3)
      have hD4 : D ≤ w4.heap.size := Nat.le_trans hD3 t4.size
      have sS : SW w4 (.slice (some ⟨gs, 0, none⟩) 8 cs) H := by
        have := os4.sl trivial
        rw [hHl.out] at this
        exact this
      clear os3 oM3 hh3 hbw3 t4 hD3 oW3
      go_wp2_with (first | (at_builtin; refine wpList_appW (.tmp 135) (.tmp 136) _ _ _ (fun ty => app_copyW ty hHl.out.symm sS (by decide)) rfl rfl rfl rfl ?_; rintro v5 w5 ⟨⟨gv, cv, rfl, ov⟩, hb5⟩))
      have os5 := os4.below hb5
      have oM5 := oM4.below hb5
      have hh5 := hh4.bel hb5
      have oW5 := oW4.below hb5
      have hb5w : Below D w2 w5 := hb4.trans (hb5.mono hD4)
      have hD5 : D ≤ w5.heap.size := Nat.le_trans hD4 hb5.size
      have hgsl : gs < w4.heap.size := os4.lt
      have ov5 : OwnW w5 0 gv cv H := ov.down (Nat.zero_le _)
      have hgvl : Hid (w4.heap.size ≤ gv) := ov.ge
      clear os4 oM4 hh4 oW4 hb4 sS ov
      refine rounds_loop gh gS cS gT cT gW gv cv H B w5 _ hh5 oW5 ov5 hHl.out ?_
      intro _ _ _ _ _ _ _ _ _ _ _ _ _ _ _ _ _ _ _ _ _ _ _ _ _ _ _ _ _ _ _ _ _ _ _ _ _ _ _ _ _ _ _ _ _ _ _ _ _ _ _ _ _ _ _ _ _ _ _ _ _ _ _ _ _ _ _ _ _ _ _ _ _ _ _ _ _ _ _ _ _ _ _ _ _ _ _ _ _ _ _ _ _ _ _ _ _ _ _ _ _ _ _ _ _ _ _ _ _ _ _ _ _ _ _ _ _ _ _ _ w6 g6 c6 ov6 hg6 hb6
      have os6 := os5.below hb6
      have oM6 := oM5.below hb6
      have hh6 := hh5.bel hb6
      have hb6w : Below D w2 w6 := hb5w.trans (hb6.mono hD5)
      have hD6 : D ≤ w6.heap.size := Nat.le_trans hD5 hb6.size
      obtain ⟨V, eV⟩ : ∃ V, V = (roundsV H B 64).toL := ⟨_, rfl⟩
      have EV := hide eV
      have hVl : Hid (V.length = 8) := by show _ = _; rw [eV]; rfl
      rw [← eV] at ov6
      have hne6 : Hid (g6 ≠ gs) := by
        show _ ≠ _
        have h1 := hg6.out
        have h2 := hgvl.out
        have h3 := hb5.size
        omega
      clear eV os5 oM5 hh5 oW5 ov5 hb5w hb6
      go_wp2_with fail
      refine add_loop gs cs g6 c6 H V w6 _ os6 ov6 hne6.out hHl.out hVl.out ?_
      intro _ _ _ _ _ _ _ _ _ _ _ _ _ _ _ w7 os7 t7
      have oM7 := oM6.tn t7 hgs.out.2.2.2.2
      have hh7 := hh6.tn t7 hgs.out.2.1 hgs.out.2.2.1 hgs.out.2.2.2.1
      have hb7 : Below D w2 w7 := hb6w.trans (t7.bel hgs.out.1 hD6)
      have EM : Hid (hashB M (k + 1) = addK H V 8) := by show _ = _; rw [EHn.out, EV.out]; rfl
      rw [← EM.out] at os7
      obtain ⟨p2, hp2⟩ : ∃ p2 : Nat, (p : Int) + 64 = (p2 : Int) := ⟨p + 64, by omega⟩
      have hpb : (0 : Int) ≤ (p2 : Int) ∧ (p2 : Int) ≤ 640000 := by have := HNM.out; omega
      have hpw : IntKind.i64.wrap ((p : Int) + 64) = (p2 : Int) := by rw [IntKind.wrap_i64]; omega
      go_wp2_with fail
      exact ⟨⟨k + 1, p2, by omega, by have := EP.out; show _ = _; omega, rfl, os7, oM7, hh7, hb7, Nat.le_trans hD6 t7.size⟩, by simp [intOf]; omega⟩
    · have ek : k = nb := by omega
      subst ek
      obtain rfl : p = nm := by have := EP.out; have := HNM.out; omega
      have d0 : decide ((p : Int) < (p : Int)) = false := decide_eq_false (by omega)
      go_wp2_with fail
      exact hexit _ _ _ _ _ _ _ _ _ _ _ _ _ _ _ _ _ _ _ _ _ _ _ _ _ _ _ _ _ _ _ _ _ _ _ _ _ _ _ _ _ _ _ _ _ _ _ _ _ _ _ _ _ _ _ _ _ _ _ _ _ _ _ _ _ _ _ _ _ _ _ _ _ _ _ _ _ _ _ _ _ _ _ _ _ _ _ _ _ _ _ _ _ _ _ _ _ _ _ _ _ _ _ _ _ _ _ _ _ _ _ _ _ _ _ _ _ _ _ _ _ _ _ _ _ _ _ _ _ _ _ _ _ _ _ _ _ _ _ _ _ _ _ _ _ _ _ _ _ _ _ _ _ _ _ _ _ _ _ _ _ _ _ _ _ _ _ _ _ _ _ _ _ _ _ _ _ _ _ _ _ _ _ _ _ _ _ _ _ _ _ _ _ _ _ _ _ _ _ _ _ _ _ _ _ _ _ _ _ _ _ _ _ _ _ _ _ _ _ _ _ _ _ _ _ _ _ _ _ _ _ _ _ _ _ _ _ _ _ _ _ _ _ _ _ _ _ _ _ _ _ _ _ _ wr os hb

set_option maxRecDepth 1000000 in
set_option maxHeartbeats 4000000 in
theorem rof_any (gh gS cS gT cT : Nat) : RofC gh gS cS gT cT := by
  intro v m w hh hv hl
  have HL := hide hl
  have Hf := hide hv.fits
  clear hl
  go_enter Tryd.func14, Tryd.ntmps14
  go_wp2_with fail
  refine (rpad_any v m w hv HL.out).mono ?_
  rintro e w1 ⟨gM, cM, rfl, oM, hb1⟩
  obtain ⟨M, eM⟩ : ∃ M, M = m ++ endL m.length := ⟨_, rfl⟩
  obtain ⟨nb, enb⟩ : ∃ nb, nb = (m.length + 72) / 64 := ⟨_, rfl⟩
  have hMl : M.length = 64 * nb := by
    have : padZ m.length = (119 - m.length % 64) % 64 := rfl
    rw [eM, enb, List.length_append, endL_len]
    omega
  have hnb : nb ≤ 10000 := by have := HL.out; omega
  have HFM : Hid (Fit8 M) := by show Fit8 M; rw [eM]; exact fit8_app Hf.out (endL_fit _)
  have ESH : Hid (sha m = rowB (hashB M nb)) := by show _ = _; rw [eM, enb]; rfl
  rw [← eM] at oM ⊢
  obtain ⟨nm, enm⟩ : ∃ nm, nm = M.length := ⟨_, rfl⟩
  have HNM : Hid (nm = 64 * nb) := by show _ = _; rw [enm]; exact hMl
  have HML : Hid (M.length = nm) := enm.symm
  rw [← enm]
  have hh1 := hh.bel hb1
  have q0 := hh1.blk.cell 0
  simp only [List.getElem?_cons_zero] at q0
  have q0a : ∀ o : Obj, (w1.alloc o).cell? ⟨gh, 0, none⟩ = some (.slice (some ⟨gS, 0, none⟩) 8 cS) := fun o => ((bel_new _ o).cell (p := ⟨gh, 0, none⟩) hh1.blk.lt).trans q0
  have sS : SW w1 (.slice (some ⟨gS, 0, none⟩) 8 cS) start8 := hh1.s.sl trivial
  clear eM enb hMl enm
  go_wp2_with (first | (at_builtin; refine wpList_appW (.tmp 22) (.tmp 26) _ _ _ (fun ty => app_copyW ty (show 8 = start8.length from rfl) sS (by decide)) rfl rfl rfl rfl ?_; rintro v2 w2 ⟨⟨gs, cs, rfl, os⟩, hb2⟩))
  have hb12 := bel_trans hb1 hb2
  have hh2 := hh1.bel hb2
  have oM2 := oM.below hb2
  have hgs0 := os.ge
  have hgs : Hid (w.heap.size ≤ gs ∧ gh ≠ gs ∧ gS ≠ gs ∧ gT ≠ gs ∧ gM ≠ gs) := by
    have h1 := hh1.blk.lt
    have h2 := hh1.s.lt
    have h3 := hh1.t.lt
    have h4 := hb1.size
    have h5 := oM.lt
    refine ⟨?_, ?_, ?_, ?_, ?_⟩ <;> omega
  have os2 : OwnW w2 0 gs cs start8 := os.down (Nat.zero_le _)
  have hD2 : w.heap.size ≤ w2.heap.size := hb12.size
  clear q0 q0a sS hb1 hb2 hh1 oM os hgs0
  refine block_loop w.heap.size gh gS cS gT cT gM cM gs cs nm nb M w2 _ hh2 oM2 os2 HML HFM HNM hnb hgs hD2 ?_
  intro _ _ _ _ _ _ _ _ _ _ _ _ _ _ _ _ _ _ _ _ _ _ _ _ _ _ _ _ _ _ _ _ _ _ _ _ _ _ _ _ _ _ _ _ _ _ _ _ _ _ _ _ _ _ _ _ _ _ _ _ _ _ _ _ _ _ _ _ _ _ _ _ _ _ _ _ _ _ _ _ _ _ _ _ _ _ _ _ _ _ _ _ _ _ _ _ _ _ _ _ _ _ _ _ _ _ _ _ _ _ _ _ _ _ _ _ _ _ _ _ _ _ _ _ _ _ _ _ _ _ _ _ _ _ _ _ _ _ _ _ _ _ _ _ _ _ _ _ _ _ _ _ _ _ _ _ _ _ _ _ _ _ _ _ _ _ _ _ _ _ _ _ _ _ _ _ _ _ _ _ _ _ _ _ _ _ _ _ _ _ _ _ _ _ _ _ _ _ _ _ _ _ _ _ _ _ _ _ _ _ _ _ _ _ _ _ _ _ _ _ _ _ _ _ _ _ _ _ _ _ _ _ _ _ _ _ _ _ _ _ _ _ _ _ _ _ _ _ _ _ _ _ _ _ w3 os3 hb3
  have hbw3 : Below w.heap.size w w3 := hb12.trans hb3
  have hH8 : Hid ((hashB M nb).length = 8) := hashB_len _ _
  have hHf := hashB_fit M nb
  have HHF := hide hHf
  clear hHf
  generalize hashB M nb = H at *
  have gsl := os3.lt
  have o4 := OwnB.empty w3
  have os4 := os3.below (bel_new w3 (.cells #[] 5))
  have hD4 : w3.heap.size ≤ (w3.alloc (.cells #[] 5)).heap.size := (bel_new w3 (.cells #[] 5)).size
  have hb4 := bel_al hbw3 (.cells #[] 5)
  have hz3 := hbw3.size
  clear hh2 oM2 os2 hb12 hb3 os3 hh
  go_wp2_with fail
  refine out_loop w3.heap.size gs cs w3.heap.size 0 H _ _ o4 os4 gsl hH8.out HHF.out hD4 ?_
  intro _ _ _ _ _ _ _ _ _ _ _ _ _ _ _ _ _ _ _ w5 g5 c5 o5 hb5
  have hbw5 : Below w.heap.size w w5 := hb4.trans (hb5.mono hz3)
  go_wp2_with fail
  go_ret
  refine ⟨g5, c5, rfl, ?_, hbw5⟩
  rw [ESH.out]
  exact o5.down hz3

end Go.Proofs.YtejhhkhaoekkiaaDoor.Ck
