/- The first loop of the statement DigestStates: the script is played. -/
import Derived.Test.YtejhhkhaoekkiaaDoorStA
import Derived.Test.YtejhhkhaoekkiaaDoorOpsB
import Derived.Test.YtejhhkhaoekkiaaDoorMarksK
import Derived.Deep.RegionLaw
import Derived.LaidEqlPtr
namespace Go.Proofs.YtejhhkhaoekkiaaDoor.Ck
open Go.RowKit

theorem step_appV {TS : TypeId} {w : World} {ops : Array Oper} {o : Oper} {a : Act} {K : Act → World → Prop} {Q : Exit → Act → World → Prop} {E : Prop} (s x : Operand) (v vx : Value) (R : Value → World → Prop)
    (hrun : ∀ ty, ∃ v' w', (Builtin.append_ #[TS, TS] ty #[v, vx]).run Tryd.prog w = .ok v' w' ∧ R v' w') (hw : Region.wanted o (yielded ops a.tmps) = true)
    (ho : o.op = .call { callee := .builtin .append, args := #[s, x], argTypes := #[TS, TS] }) (hs : a.eval s = v) (hx : a.eval x = vx)
    (h : ∀ v' w', R v' w' → K (a.put o.dst v') w') : if Region.wanted o (yielded ops a.tmps) = true then Oper.wp Tryd.prog o a w K Q else E := by
  rw [if_pos hw]
  obtain ⟨v', w', hr, hR⟩ := hrun o.type
  unfold Oper.wp execOp
  simp only [ho, resolve, invoke, builtin, Sem.run_bind, Sem.run_pure, Result.andThen_ok, List.map_toArray, List.map_cons, List.map_nil, hs, hx, hr]
  exact h v' w' hR

theorem stateInfo : (Tryd.prog.info? 57).isSome = true ∧ ((Tryd.prog.info? 57).map (·.size)) = some 73 := ⟨by kernel_rfl, by kernel_rfl⟩
theorem ptr_other (w : World) (g g' : Nat) (ca cb : List Value) (ta tb : TypeId) (h : g ≠ g') (ha : Blk w g ta ca) (hb : Blk w g' tb cb) : (binOp .eql 26 (.pointer (some ⟨g, 0, none⟩)) (.pointer (some ⟨g', 0, none⟩))).run Tryd.prog w = .ok (.bool false) w := by
  obtain ⟨j, hj, hjs⟩ := Option.map_eq_some_iff.1 stateInfo.2
  exact run_eql_ptr_other (P := Tryd.prog) w Tryd.underlying26 hj (by rw [hjs]; decide) (fun e => h (congrArg Addr.block e)) ha hb
theorem ptr_same (w : World) (g : Nat) : (binOp .neq 26 (.pointer (some ⟨g, 0, none⟩)) (.pointer (some ⟨g, 0, none⟩))).run Tryd.prog w = .ok (.bool false) w := by
  obtain ⟨j, hj, _⟩ := Option.map_eq_some_iff.1 stateInfo.2
  have h : ∀ d : Nat, (Op.equalIn (d + 1) 26 (.pointer (some ⟨g, 0, none⟩)) (.pointer (some ⟨g, 0, none⟩))).run Tryd.prog w = .ok true w := fun d => by
    simp [Op.equalIn, run_underlying Tryd.underlying26, sizeOf, typeInfo, hj, run_sameAddr_same]
  simp only [binOp]
  simp [Op.equal, Op.maxDepth, h 9999]
theorem infoP : (Tryd.prog.info? 26).map (fun i => (i.zero, i.size, i.bytes)) = some (some (.pointer none), 1, 8) := by kernel_rfl
theorem infoS : (Tryd.prog.info? 29).map (fun i => (i.zero, i.size, i.bytes)) = some (some (.slice none 0 0), 1, 24) := by kernel_rfl

theorem Sts.copied2 {w wr wl wt : World} {B gl cl gt ct q : Nat} {G : Nat → Nat} {V : Nat → Value} {M N : Nat → List Int} (h : Sts w wr B gl cl gt ct q G V M N) {k g gl' cl' gt' ct' : Nat} (hk : k < q) (A : Nat)
    (hs : St wt g (M k)) (hg : B ≤ g) (hA : gl < A ∧ gt < A ∧ g < A) (hG : ∀ i, i < q → G i < g) (hV : ∀ i, i < q → OffB g (V i)) (hVA : ∀ i, i < q → ∀ g', A ≤ g' → OffB g' (V i)) (hgg : gl ≠ g ∧ gt ≠ g)
    (ol : OwnV 26 wt B gl' cl' (ptrs G q ++ [.pointer (some ⟨g, 0, none⟩)])) (ot : OwnV 29 wt B gt' ct' (vals V q ++ [V k])) (h1 : gl' = gl ∨ A ≤ gl') (h2 : gt' = gt ∨ (A ≤ gt' ∧ gl' < gt')) (t1 : Tn gl wr wl) (t2 : Tn gt wl wt) :
    Sts w wt B gl' cl' gt' ct' (q + 1) (upd G q g) (upd V q (V k)) (upd M q (M k)) (upd N q (N k)) := by
  have hlt := h.lt
  refine h.copied hk hs hg (fun i hi => ⟨by have := hG i hi; omega, hV i hi⟩) ⟨by omega, by omega⟩ ol ot (by omega) t1 t2 (fun i hi => ?_) (fun i hi => ?_)
  · have e1 := (h.st i hi).2.2.1
    have e2 := hG i hi
    rcases h1 with e | e
    · rw [e]; exact ⟨e1, (h.off i hi).1⟩
    · exact ⟨by omega, hVA i hi _ e⟩
  · have e1 := (h.st i hi).2.2.2
    have e2 := hG i hi
    rcases h2 with e | e
    · rw [e]; exact ⟨e1, (h.off i hi).2.1⟩
    · exact ⟨by omega, hVA i hi _ e.1⟩

set_option maxRecDepth 1000000 in
set_option maxHeartbeats 8000000 in
theorem script_loop {c0 c1 c2 c7 c8 c9 c10 c11 c12 c13 c14 c15 c16 c17 c18 c19 c20 c21 c22 c26 c27 c28 c29 c30 c31 c32 c33 c34 c35 c36 c37 c38 c39 c40 c41 c42 c43 c44 c45 c46 c47 c48 c49 c50 c51 c52 c53 c54 c55 c56 c57 c58 c59 c60 c61 c62 c63 c64 c65 c66 c67 c68 c69 c70 c71 c72 c73 c74 c75 c76 c77 c78 c79 c80 c81 c82 c83 c84 c85 c86 c87 c88 c89 c90 c91 c92 c93 c94 c95 c96 c97 c98 c99 c100 c101 c102 c103 c104 c105 c106 c107 c108 c109 c110 c111 c112 c113 c114 c115 c116 c117 c118 c119 c120 c121 c122 c123 c124 c125 c126 c127 c128 c129 c130 c131 c132 c133 c134 c135 c136 c137 c138 c139 c140 c141 c142 c143 c144 c145 c146 c147 c148 c149 c150 c151 c152 c153 c154 c155 c156 c157 c158 c159 c160 c161 c162 c163 c164 c165 : Value} (oa : Option Addr) (len oc : Nat) (f : Nat → OpB) (gh gS cS gT cT gl0 cl0 gt0 ct0 : Nat) (G0 : Nat → Nat) (V0 : Nat → Value) (w2 w4 : World) (Q0 : Exit → Act → World → Prop) (ho : Hid (OpsAt w2 oa len f)) (hh : Hid (Ha w2 gh gS cS gT cT)) (htab : Hid (Tab w2)) (h0 : Hid (Sts w2 w4 w2.heap.size gl0 cl0 gt0 ct0 1 G0 V0 (fun _ => []) (fun _ => [])))
    (hexit : ∀ (u2 u6 u7 u8 u9 u10 u11 u12 u25 u26 u27 u28 u29 u30 u31 u32 u33 u34 u35 u36 u37 u38 u39 u40 u41 u42 u43 u44 u45 u46 u47 u48 u49 u50 u51 u52 u53 u54 u55 u56 u57 u58 u59 u60 u61 u62 u63 u64 u65 u66 u67 u68 u69 u70 u71 u72 u73 u74 u75 u76 u77 u78 u79 u80 u81 u82 u83 u84 u85 u86 u87 u88 u89 u90 u91 u92 u93 u94 u95 u96 u97 u98 u99 u100 u101 u102 u103 u104 u105 u106 u107 u108 u109 u110 u111 u112 u113 u114 u115 u116 u117 u118 u119 u120 u121 u122 u123 u124 u125 u126 u127 u128 u129 u130 u131 u132 u133 u134 u135 : Value) (wr : World) (q gl cl gt ct : Nat) (G : Nat → Nat) (V : Nat → Value) (M : Nat → List Int), Hid (Sts w2 wr w2.heap.size gl cl gt ct q G V M M) → q ≤ 100 → Hid (∀ i, i < q → (M i).length ≤ 9000) → Q0 (.exit 0) ⟨(c0 :: c1 :: u2 :: .pointer (some ⟨gh, 0, none⟩) :: .slice (some ⟨gl, 0, none⟩) q cl :: .slice (some ⟨gt, 0, none⟩) q ct :: u6 :: u7 :: u8 :: u9 :: u10 :: u11 :: u12 :: c13 :: c14 :: c15 :: c16 :: c17 :: c18 :: c19 :: c20 :: c21 :: c22 :: .slice oa len oc :: .int .i64 len :: u25 :: u26 :: u27 :: u28 :: u29 :: u30 :: u31 :: u32 :: u33 :: u34 :: u35 :: u36 :: u37 :: u38 :: u39 :: u40 :: u41 :: u42 :: u43 :: u44 :: u45 :: u46 :: u47 :: u48 :: u49 :: u50 :: u51 :: u52 :: u53 :: u54 :: u55 :: u56 :: u57 :: u58 :: u59 :: u60 :: u61 :: u62 :: u63 :: u64 :: u65 :: u66 :: u67 :: u68 :: u69 :: u70 :: u71 :: u72 :: u73 :: u74 :: u75 :: u76 :: u77 :: u78 :: u79 :: u80 :: u81 :: u82 :: u83 :: u84 :: u85 :: u86 :: u87 :: u88 :: u89 :: u90 :: u91 :: u92 :: u93 :: u94 :: u95 :: u96 :: u97 :: u98 :: u99 :: u100 :: u101 :: u102 :: u103 :: u104 :: u105 :: u106 :: u107 :: u108 :: u109 :: u110 :: u111 :: u112 :: u113 :: u114 :: u115 :: u116 :: u117 :: u118 :: u119 :: u120 :: u121 :: u122 :: u123 :: u124 :: u125 :: u126 :: u127 :: u128 :: u129 :: u130 :: u131 :: u132 :: u133 :: u134 :: u135 :: c136 :: c137 :: c138 :: c139 :: c140 :: c141 :: c142 :: c143 :: c144 :: c145 :: c146 :: c147 :: c148 :: c149 :: c150 :: c151 :: c152 :: c153 :: c154 :: c155 :: c156 :: c157 :: c158 :: c159 :: c160 :: c161 :: c162 :: c163 :: c164 :: c165 :: []).toArray, []⟩ wr) :
    SLoopWp 0 Q0 ⟨(c0 :: c1 :: c2 :: .pointer (some ⟨gh, 0, none⟩) :: .slice (some ⟨gl0, 0, none⟩) 1 cl0 :: .slice (some ⟨gt0, 0, none⟩) 1 ct0 :: .int .i64 0 :: c7 :: c8 :: c9 :: c10 :: c11 :: c12 :: c13 :: c14 :: c15 :: c16 :: c17 :: c18 :: c19 :: c20 :: c21 :: c22 :: .slice oa len oc :: .int .i64 len :: .int .i64 0 :: c26 :: c27 :: c28 :: c29 :: c30 :: c31 :: c32 :: c33 :: c34 :: c35 :: c36 :: c37 :: c38 :: c39 :: c40 :: c41 :: c42 :: c43 :: c44 :: c45 :: c46 :: c47 :: c48 :: c49 :: c50 :: c51 :: c52 :: c53 :: c54 :: c55 :: c56 :: c57 :: c58 :: c59 :: c60 :: c61 :: c62 :: c63 :: c64 :: c65 :: c66 :: c67 :: c68 :: c69 :: c70 :: c71 :: c72 :: c73 :: c74 :: c75 :: c76 :: c77 :: c78 :: c79 :: c80 :: c81 :: c82 :: c83 :: c84 :: c85 :: c86 :: c87 :: c88 :: c89 :: c90 :: c91 :: c92 :: c93 :: c94 :: c95 :: c96 :: c97 :: c98 :: c99 :: c100 :: c101 :: c102 :: c103 :: c104 :: c105 :: c106 :: c107 :: c108 :: c109 :: c110 :: c111 :: c112 :: c113 :: c114 :: c115 :: c116 :: c117 :: c118 :: c119 :: c120 :: c121 :: c122 :: c123 :: c124 :: c125 :: c126 :: c127 :: c128 :: c129 :: c130 :: c131 :: c132 :: c133 :: c134 :: c135 :: c136 :: c137 :: c138 :: c139 :: c140 :: c141 :: c142 :: c143 :: c144 :: c145 :: c146 :: c147 :: c148 :: c149 :: c150 :: c151 :: c152 :: c153 :: c154 :: c155 :: c156 :: c157 :: c158 :: c159 :: c160 :: c161 :: c162 :: c163 :: c164 :: c165 :: []).toArray, []⟩ w4 := by
  have hlen := ho.out.1
  unfold SLoopWp
  conv => arg 2; whnf
  go_loopw [25, 4, 5, 6] (fun x ls tk sz wr => ∃ (k q gl cl gt ct s : Nat) (G : Nat → Nat) (V : Nat → Value) (M : Nat → List Int), k ≤ len ∧ k ≤ 61 ∧ 1 ≤ q ∧ q ≤ k + 1 ∧ s ≤ 9000 ∧ x = .int .i64 k ∧ ls = .slice (some ⟨gl, 0, none⟩) q cl ∧ tk = .slice (some ⟨gt, 0, none⟩) q ct ∧ sz = .int .i64 s ∧ Hid (Sts w2 wr w2.heap.size gl cl gt ct q G V M M) ∧ Hid (∀ i, i < q → (M i).length ≤ s)) (fun x _ _ _ _ => len - (intOf x).toNat)
  case atStart => exact ⟨0, 1, gl0, cl0, gt0, ct0, 0, G0, V0, fun _ => [], Nat.zero_le _, Nat.zero_le _, Nat.le_refl _, Nat.le_refl _, Nat.zero_le _, rfl, rfl, rfl, rfl, h0, fun _ _ => Nat.le_refl _⟩
  case round =>
    clear h0
    obtain ⟨k, q, gl, cl, gt, ct, s, G, V, M, hk, hk61, hq1, hqk, hs, rfl, rfl, rfl, rfl, Z, HM⟩ := hrel
    by_cases hkl : k < len
    · have d1 : decide ((k : Int) < (len : Int)) = true := decide_eq_true (by omega)
      have i1 : (0 : Int) ≤ (k : Int) ∧ (k : Int) < (len : Int) := by omega
      obtain ⟨b, off, rfl, hbl, c0', c1', c2', s0⟩ := (ho.out.below Z.out.bel).2 k hkl
      have ho3 : Hid (∀ w', Below w2.heap.size w2 w' → SB w' (f k).v (f k).bytes) := fun w' hb => by
        obtain ⟨_, _, _, _, _, _, _, s⟩ := (ho.out.below hb).2 k hkl
        exact s
      generalize f k = o at c0' c1' c2' s0 ho3
      obtain ⟨K, s', v, bs⟩ := o
      simp only at c0' c1' c2' s0 ho3
      obtain ⟨av, cv, rfl, hcv, hcm⟩ := s0.form
      unfold maxLen at hcm
      obtain ⟨l, el⟩ : ∃ l, l = bs.length := ⟨_, rfl⟩
      have EL := hide el
      rw [← el] at s0 hcv c2' ho3
      clear el
      have ZA := hide (Z.out.grow (bel_new wr (.cells #[.int .i64 K, .int .i64 s', .slice av l cv] 32)))
      have HM9 : Hid (∀ i, i < q → (M i).length ≤ 9000) := fun i hi => Nat.le_trans (HM.out i hi) hs
      by_cases hk60 : k ≤ 60
      · have d2 : decide ((60 : Int) < (k : Int)) = false := decide_eq_false (by omega)
        by_cases hfit : s + l ≤ 9000
        · obtain ⟨s2, es2⟩ : ∃ s2 : Nat, (s : Int) + (l : Int) = (s2 : Int) := ⟨s + l, by omega⟩
          have is2 : (0 : Int) ≤ (s2 : Int) ∧ (s2 : Int) ≤ 9000 := by omega
          have d3 : decide ((9000 : Int) < (s2 : Int)) = false := decide_eq_false (by omega)
          have d4 : decide ((s2 : Int) < 0) = false := decide_eq_false (by omega)
          obtain ⟨u, hu⟩ : ∃ u, IntKind.u64.wrap s' = u := ⟨_, rfl⟩
          have hu0 : 0 ≤ u ∧ u < 18446744073709551616 := by rw [← hu, IntKind.wrap_u64]; omega
          obtain ⟨x, ex⟩ : ∃ x : Nat, u % (q : Int) = (x : Int) := ⟨(u % (q : Int)).toNat, by have := Int.emod_nonneg u (show (q : Int) ≠ 0 by omega); omega⟩
          have hxq : x < q := by have := Int.emod_lt_of_pos u (show 0 < (q : Int) by omega); omega
          have ix : (0 : Int) ≤ (x : Int) ∧ (x : Int) < (q : Int) := by omega
          have iq : (1 : Int) ≤ (q : Int) ∧ (q : Int) ≤ 100 := by omega
          have HM2 : Hid (∀ i, i < q → (M i).length ≤ s2) := fun i hi => by have := HM.out i hi; omega
          have qo : (wr.alloc (.cells #[.int .i64 K, .int .i64 s', .slice av l cv] 32)).cell? ⟨wr.heap.size, 2, none⟩ = some (.slice av l cv) := (Blk.new wr [.int .i64 K, .int .i64 s', .slice av l cv] 32).cell 2
          have hol : wr.heap.size < (wr.alloc (.cells #[.int .i64 K, .int .i64 s', .slice av l cv] 32)).heap.size := (Blk.new wr [.int .i64 K, .int .i64 s', .slice av l cv] 32).lt
          have s0A := hide (s0.bel (bel_new wr (.cells #[.int .i64 K, .int .i64 s', .slice av l cv] 32)))
          have qlA := ZA.out.l.cell x _ (ptrs_at G q x hxq)
          have hop : Hid (gl < wr.heap.size ∧ gt < wr.heap.size ∧ ∀ i, i < q → G i < wr.heap.size) := ⟨Z.out.l.lt, Z.out.t.lt, fun i hi => (Z.out.st i hi).1.lt⟩
          clear Z hexit
          by_cases hK1 : K = 1
          · subst hK1
            go_wp2_with fail
            generalize wr.alloc (.cells #[.int .i64 1, .int .i64 s', .slice av l cv] 32) = wt at ZA qo hol s0A qlA ⊢
            have hl9 : l ≤ 9000 := by omega
            refine (bytes_any _ bs wt s0A.out (by have := EL.out; omega)).mono ?_
            rintro e w5 ⟨gI, rfl, o5, hb5⟩
            rw [← EL.out] at o5 ⊢
            have hgI := o5.ge
            have Z5 := hide (ZA.out.grow hb5)
            have sb5 := hide (s0A.out.bel hb5)
            have sI : Hid (SB w5 (.slice (some ⟨gI, 0, none⟩) l (l + 6)) bs) := by
              obtain ⟨cur, _, hg, h3, h4, _⟩ := o5.parts
              refine ⟨s0A.out.fits, _, _, by rw [EL.out], by have := EL.out; omega, by have := EL.out; unfold maxLen; omega, fun i hi => ⟨gI, 0, rfl, o5.lt, ?_⟩⟩
              rw [Nat.zero_add, o5.cell i (by rw [List.length_append]; omega)]
              simp only [List.getD, List.getElem?_append_left hi]
            have stx := hide (Z5.out.st x hxq).1
            have hGx : Hid (G x < wt.heap.size ∧ w2.heap.size ≤ G x) := ⟨(ZA.out.st x hxq).1.lt, (ZA.out.st x hxq).2.1⟩
            have hnI : gI ≠ G x := by have := hGx.out; omega
            have hno : wr.heap.size ≠ G x := by have := hop.out.2.2 x hxq; omega
            have hnl : gl ≠ G x := Ne.symm (ZA.out.st x hxq).2.2.1
            have HKept : Hid (∀ w', SB w' (.slice av l cv) bs → OwnB w' wt.heap.size gI (l + 6) (bs ++ marks6) → Calls Tryd.prog 11 #[.slice (some ⟨gI, 0, none⟩) l (l + 6), .slice av l cv] w' fun e w'' => e = .returned (.bool true) ∧ Below w'.heap.size w' w'') := fun w' h1 h2 => by
              have := keptB_any (.slice av l cv) bs gI _ w' h1 (by rw [← EL.out]; exact h2) (by have := EL.out; omega)
              rw [← EL.out] at this
              exact this
            have hMx := hide (HM.out x hxq)
            have HM4 : Hid (∀ i, i < q → (upd M x (M x ++ bs) i).length ≤ s2) := fun i hi => by
              by_cases e : i = x
              · rw [e, upd_same, List.length_append, ← EL.out]; have := hMx.out; omega
              · rw [upd_other _ _ _ _ e]; exact HM2.out i hi
            have hol5 : wr.heap.size < w5.heap.size := Nat.lt_of_lt_of_le hol hb5.size
            have qd : w5.drew.cell? ⟨gl, x, none⟩ = some (.pointer (some ⟨G x, 0, none⟩)) ∧ w5.drew.cell? ⟨wr.heap.size, 2, none⟩ = some (.slice av l cv) := ⟨Z5.out.l.cell x _ (ptrs_at G q x hxq), (hb5.cell (p := ⟨wr.heap.size, 2, none⟩) hol).trans qo⟩
            have hgl5 := Z5.out.l.lt
            have Zd5 := hide Z5.out.drew
            have htab5 := htab.out.bel Z5.out.bel
            have htl := htab.out.1
            have hsame := ptr_same
            clear qlA qo s0A c0' c1' c2' s0
            go_wp2_with fail
            go_region_held3 (fun w' => w'.cell? ⟨gl, x, none⟩ = some (.pointer (some ⟨G x, 0, none⟩)) ∧ w'.cell? ⟨wr.heap.size, 2, none⟩ = some (.slice av l cv)) (first | assumption)
              (first
                | (go_at_call 10; refine (take_any (G x) (M x) bs _ w5.drew stx.out sI.out (fun a n c e _ => by cases e; exact hnI) htab5 (by have := hGx.out; omega) (by have := hMx.out; have := EL.out; omega)).mono ?_; rintro e w6 ⟨rfl, hs6, t6⟩; have Z6 := hide (Zd5.out.take hxq hs6 t6); have q6 : w6.cell? ⟨gl, x, none⟩ = some (.pointer (some ⟨G x, 0, none⟩)) ∧ w6.cell? ⟨wr.heap.size, 2, none⟩ = some (.slice av l cv) := ⟨(t6.cell ⟨gl, x, none⟩ hgl5 hnl).trans qd.1, (t6.cell ⟨wr.heap.size, 2, none⟩ hol5 hno).trans qd.2⟩; have o6 := OwnB.tn (w := w5.drew) o5 t6 hnI; have sb6 := hide (Z6.out.bel); have hol6 := Nat.lt_of_lt_of_le hol5 t6.size)
                | (go_at_call 11; refine (HKept.out w6 (ho3.out w6 Z6.out.bel) o6).mono ?_; rintro e w7 ⟨rfl, hb7⟩; have Z7 := hide (Z6.out.grow hb7); have q7 : w7.cell? ⟨gl, x, none⟩ = some (.pointer (some ⟨G x, 0, none⟩)) ∧ w7.cell? ⟨wr.heap.size, 2, none⟩ = some (.slice av l cv) := ⟨Z7.out.l.cell x _ (ptrs_at G q x hxq), (hb7.cell (p := ⟨wr.heap.size, 2, none⟩) hol6).trans q6.2⟩))
            have wfact := q7.2
            have Zd := hide Z7.out.drew
            have qoA : w7.drew.cell? ⟨wr.heap.size, 2, none⟩ = some (.slice av l cv) := q7.2
            have holA : wr.heap.size < w7.drew.heap.size := Nat.lt_of_lt_of_le hol6 hb7.size
            have sbA := hide (ho3.out w7.drew Zd.out.bel)
            have sxA := hide (Zd.out.sb x hxq)
            obtain ⟨vx, evx⟩ : ∃ vx, vx = V x := ⟨_, rfl⟩
            have EVX := hide evx
            rw [← evx] at sxA
            obtain ⟨ax, cx, evf, _, _⟩ := sxA.out.form
            obtain ⟨lx, elx⟩ : ∃ lx, lx = (M x).length := ⟨_, rfl⟩
            rw [← elx] at evf
            subst evf
            have ELX := hide elx
            have hlx6 : lx ≤ 1000000 := by have := hMx.out; omega
            have HAPP : Hid (∀ (wB : World) (g7 c7 : Nat), OwnB wB w7.drew.heap.size g7 c7 (M x) → SB wB (.slice av l cv) bs → w7.drew.heap.size ≤ wB.heap.size → ∀ ty, ∃ v' w', (Builtin.append_ #[29, 29] ty #[.slice (some ⟨g7, 0, none⟩) lx c7, .slice av l cv]).run Tryd.prog wB = .ok v' w' ∧ ((∃ g' cap', v' = .slice (some ⟨g', 0, none⟩) (lx + l) cap' ∧ OwnB w' w7.drew.heap.size g' cap' (M x ++ bs)) ∧ Tn g7 wB w')) := fun wB g7 c7 h1 h2 h3 ty => by
              have := app_tnB ty h1 h2 (by have := ELX.out; have := EL.out; omega) h3
              rw [← ELX.out, ← EL.out] at this
              exact this
            clear evx elx q6 q7 qd Z5 Zd5 Z6 Z7 o5 o6 sI sb5 sb6 stx hs6 t6 hb5 hb7 HKept hsame wfact htab5 hgl5 hol5 hol6 hol hnI hno hnl hgI ZA
            go_wp2_with fail
            refine wp_region_noPanic ?_
            refine wp_region_any mixed ?_
            change wpAny _ _ _ _ _ _ _ (World.drew _)
            generalize w7.drew = wA at *
            refine wpAny_take (i := 0) (v := ?_) rfl (by kernel_rfl) (by kernel_rfl) (by kernel_rfl) (fun _ _ _ h => h) (Or.inl ⟨by rfl, fun w => ?_⟩) ?_
            rotate_left 1
            · (go_simp <;> with_reducible rfl)
            simp only [Act.put, List.getElem_toArray, List.getElem_cons_zero, List.setIfInBounds_toArray, List.set_cons_zero, List.set_cons_succ]
            refine wpAny_take (i := 1) (v := ?_) rfl (by kernel_rfl) (by kernel_rfl) (by kernel_rfl) (fun _ _ _ h => h) (Or.inl ⟨by rfl, fun w => ?_⟩) ?_
            rotate_left 1
            · (go_simp <;> with_reducible rfl)
            simp only [Act.put, List.getElem_toArray, List.getElem_cons_zero, List.getElem_cons_succ, List.setIfInBounds_toArray, List.set_cons_zero, List.set_cons_succ]
            refine wpAny_take (i := 3) (v := ?_) rfl (by kernel_rfl) (by kernel_rfl) (by kernel_rfl) (fun _ _ _ h => h) (Or.inl ⟨by rfl, fun w => ?_⟩) ?_
            rotate_left 1
            · (go_simp <;> with_reducible rfl)
            simp only [Act.put, List.getElem_toArray, List.getElem_cons_zero, List.getElem_cons_succ, List.setIfInBounds_toArray, List.set_cons_zero, List.set_cons_succ]
            refine wpAny_take (i := 4) (v := ?_) rfl (by kernel_rfl) (by kernel_rfl) (by kernel_rfl) (fun _ _ _ h => h) (Or.inl ⟨by rfl, fun w => ?_⟩) ?_
            rotate_left 1
            · (go_simp <;> with_reducible rfl)
            simp only [Act.put, List.getElem_toArray, List.getElem_cons_zero, List.getElem_cons_succ, List.setIfInBounds_toArray, List.set_cons_zero, List.set_cons_succ]
            refine wpAny_take (i := 5) (v := ?_) rfl (by kernel_rfl) (by kernel_rfl) (by kernel_rfl) (fun _ _ _ h => h) (Or.inl ⟨by rfl, fun w => ?_⟩) ?_
            rotate_left 1
            · (go_simp <;> with_reducible rfl)
            simp only [Act.put, List.getElem_toArray, List.getElem_cons_zero, List.getElem_cons_succ, List.setIfInBounds_toArray, List.set_cons_zero, List.set_cons_succ]
            refine wpAny_take (i := 8) (v := ?_) rfl (by kernel_rfl) (by kernel_rfl) (by kernel_rfl) (fun _ _ _ h => h) (Or.inl ⟨by rfl, fun w => ?_⟩) ?_
            rotate_left 1
            · (go_simp <;> with_reducible rfl)
            simp only [Act.put, List.getElem_toArray, List.getElem_cons_zero, List.getElem_cons_succ, List.setIfInBounds_toArray, List.set_cons_zero, List.set_cons_succ]
            refine wpAny_ready (rs := [2, 6, 9]) (by kernel_rfl) (by decide) ?_
            refine AllReady.cons rfl (fun K1 hK1 => ?_) (AllReady.cons rfl (fun K1 hK1 => ?_) (AllReady.cons rfl (fun K1 hK1 => ?_) AllReady.nil))
            · go_simp
              refine hK1 _ _ ?_
              clear hK1 K1
              refine wpAny_ready (rs := [6, 9]) (by kernel_rfl) (by decide) ?_
              refine AllReady.cons rfl (fun K1 hK1 => ?_) (AllReady.cons rfl (fun K1 hK1 => ?_) AllReady.nil)
              · have qt6 : (wA.alloc (.cells #[] 5)).cell? ⟨gt, x, none⟩ = some (.slice ax lx cx) := by rw [EVX.out]; exact (Zd.out.grow (bel_new wA (.cells #[] 5))).t.cell x _ (vals_at V q x hxq)
                go_simp
                refine hK1 _ _ ?_
                clear hK1 K1 qt6
                refine wpAny_ready (rs := [7, 9]) (by kernel_rfl) (by decide) ?_
                refine AllReady.cons rfl (fun K1 hK1 => ?_) (AllReady.cons rfl (fun K1 hK1 => ?_) AllReady.nil)
                · refine step_appV (TS := 29) (.tmp 80) (.tmp 84) _ _ _ (fun ty => app_copyB ty ELX.out sxA.out hlx6) rfl rfl rfl rfl ?_
                  rintro v7 wB ⟨⟨g7, c7, rfl, o7⟩, hbB⟩
                  refine hK1 _ _ ?_
                  clear hK1 K1
                  refine wpAny_ready (rs := [9]) (by kernel_rfl) (by decide) ?_
                  refine AllReady.cons rfl (fun K1 hK1 => ?_) AllReady.nil
                  have qo9 : wB.cell? ⟨wr.heap.size, 2, none⟩ = some (.slice av l cv) := (hbB.cell (p := ⟨wr.heap.size, 2, none⟩) holA).trans qoA
                  go_simp
                  refine hK1 _ _ ?_
                  clear hK1 K1 qo9
                  refine wpAny_ready (rs := [10]) (by kernel_rfl) (by decide) ?_
                  refine AllReady.cons rfl (fun K1 hK1 => ?_) AllReady.nil
                  refine step_appV (TS := 29) (.tmp 85) (.tmp 87) _ _ _ (HAPP.out wB g7 c7 o7 (sbA.out.bel hbB) hbB.size) rfl rfl rfl rfl ?_
                  rintro v8 wC ⟨⟨g8, c8, rfl, o8⟩, t8⟩
                  have hbC : Below wA.heap.size wA wC := bel_tn hbB t8 o7.ge
                  have ZC := hide (Zd.out.grow hbC)
                  have qtC := ZC.out.t.cell x _ (vals_at V q x hxq)
                  have qfC := ZC.out.t.frozen x
                  refine hK1 _ _ ?_
                  clear hK1 K1
                  refine wpAny_ready (rs := [11]) (by kernel_rfl) (by decide) ?_
                  refine AllReady.cons rfl (fun K1 hK1 => ?_) AllReady.nil
                  go_simp
                  refine hK1 _ _ ?_
                  clear hK1 K1
                  refine wpAny_ready (rs := [12]) (by kernel_rfl) (by decide) ?_
                  refine AllReady.cons rfl (fun K1 hK1 => ?_) AllReady.nil
                  go_simp
                  refine hK1 _ _ ?_
                  clear hK1 K1 qtC qfC
                  refine wpAny_done (by kernel_rfl) ?_ _
                  refine NoPanic.normal ?_
                  have hg8 := o8.ge
                  have sV8 : SB wC (.slice (some ⟨g8, 0, none⟩) (lx + l) c8) (M x ++ bs) := by have := o8.sl (fit8_app sxA.out.fits sbA.out.fits); rw [List.length_append, ← ELX.out, ← EL.out] at this; exact this
                  have hofA : ∀ g', g' < wA.heap.size → OffB g' (.slice (some ⟨g8, 0, none⟩) (lx + l) c8) := fun g' hg' a n c e _ => by cases e; show g8 ≠ g'; omega
                  have ZT := hide (ZC.out.told (k := x) sV8 (hofA gl Zd.out.l.lt) (hofA gt Zd.out.t.lt) (fun j hj => hofA (G j) (Zd.out.st j hj).1.lt))
                  go_wp2_with fail
                  exact ⟨⟨k + 1, q, gl, cl, gt, ct, s2, _, _, _, by omega, by omega, hq1, by omega, by omega, by go_num, rfl, rfl, rfl, ZT, HM4⟩, by simp [intOf]; omega⟩
                · have qo9 : (wA.alloc (.cells #[] 5)).cell? ⟨wr.heap.size, 2, none⟩ = some (.slice av l cv) := ((bel_new wA (.cells #[] 5)).cell (p := ⟨wr.heap.size, 2, none⟩) holA).trans qoA
                  go_simp
                  refine hK1 _ _ ?_
                  clear hK1 K1 qo9
                  refine wpAny_ready (rs := [7]) (by kernel_rfl) (by decide) ?_
                  refine AllReady.cons rfl (fun K1 hK1 => ?_) AllReady.nil
                  refine step_appV (TS := 29) (.tmp 80) (.tmp 84) _ _ _ (fun ty => app_copyB ty ELX.out sxA.out hlx6) rfl rfl rfl rfl ?_
                  rintro v7 wB ⟨⟨g7, c7, rfl, o7⟩, hbB⟩
                  refine hK1 _ _ ?_
                  clear hK1 K1
                  refine wpAny_ready (rs := [10]) (by kernel_rfl) (by decide) ?_
                  refine AllReady.cons rfl (fun K1 hK1 => ?_) AllReady.nil
                  refine step_appV (TS := 29) (.tmp 85) (.tmp 87) _ _ _ (HAPP.out wB g7 c7 o7 (sbA.out.bel hbB) hbB.size) rfl rfl rfl rfl ?_
                  rintro v8 wC ⟨⟨g8, c8, rfl, o8⟩, t8⟩
                  have hbC : Below wA.heap.size wA wC := bel_tn hbB t8 o7.ge
                  have ZC := hide (Zd.out.grow hbC)
                  have qtC := ZC.out.t.cell x _ (vals_at V q x hxq)
                  have qfC := ZC.out.t.frozen x
                  refine hK1 _ _ ?_
                  clear hK1 K1
                  refine wpAny_ready (rs := [11]) (by kernel_rfl) (by decide) ?_
                  refine AllReady.cons rfl (fun K1 hK1 => ?_) AllReady.nil
                  go_simp
                  refine hK1 _ _ ?_
                  clear hK1 K1
                  refine wpAny_ready (rs := [12]) (by kernel_rfl) (by decide) ?_
                  refine AllReady.cons rfl (fun K1 hK1 => ?_) AllReady.nil
                  go_simp
                  refine hK1 _ _ ?_
                  clear hK1 K1 qtC qfC
                  refine wpAny_done (by kernel_rfl) ?_ _
                  refine NoPanic.normal ?_
                  have hg8 := o8.ge
                  have sV8 : SB wC (.slice (some ⟨g8, 0, none⟩) (lx + l) c8) (M x ++ bs) := by have := o8.sl (fit8_app sxA.out.fits sbA.out.fits); rw [List.length_append, ← ELX.out, ← EL.out] at this; exact this
                  have hofA : ∀ g', g' < wA.heap.size → OffB g' (.slice (some ⟨g8, 0, none⟩) (lx + l) c8) := fun g' hg' a n c e _ => by cases e; show g8 ≠ g'; omega
                  have ZT := hide (ZC.out.told (k := x) sV8 (hofA gl Zd.out.l.lt) (hofA gt Zd.out.t.lt) (fun j hj => hofA (G j) (Zd.out.st j hj).1.lt))
                  go_wp2_with fail
                  exact ⟨⟨k + 1, q, gl, cl, gt, ct, s2, _, _, _, by omega, by omega, hq1, by omega, by omega, by go_num, rfl, rfl, rfl, ZT, HM4⟩, by simp [intOf]; omega⟩
              · have qo9 : (wA.alloc (.cells #[] 5)).cell? ⟨wr.heap.size, 2, none⟩ = some (.slice av l cv) := ((bel_new wA (.cells #[] 5)).cell (p := ⟨wr.heap.size, 2, none⟩) holA).trans qoA
                go_simp
                refine hK1 _ _ ?_
                clear hK1 K1 qo9
                refine wpAny_ready (rs := [6]) (by kernel_rfl) (by decide) ?_
                refine AllReady.cons rfl (fun K1 hK1 => ?_) AllReady.nil
                have qt6 : (wA.alloc (.cells #[] 5)).cell? ⟨gt, x, none⟩ = some (.slice ax lx cx) := by rw [EVX.out]; exact (Zd.out.grow (bel_new wA (.cells #[] 5))).t.cell x _ (vals_at V q x hxq)
                go_simp
                refine hK1 _ _ ?_
                clear hK1 K1 qt6
                refine wpAny_ready (rs := [7]) (by kernel_rfl) (by decide) ?_
                refine AllReady.cons rfl (fun K1 hK1 => ?_) AllReady.nil
                refine step_appV (TS := 29) (.tmp 80) (.tmp 84) _ _ _ (fun ty => app_copyB ty ELX.out sxA.out hlx6) rfl rfl rfl rfl ?_
                rintro v7 wB ⟨⟨g7, c7, rfl, o7⟩, hbB⟩
                refine hK1 _ _ ?_
                clear hK1 K1
                refine wpAny_ready (rs := [10]) (by kernel_rfl) (by decide) ?_
                refine AllReady.cons rfl (fun K1 hK1 => ?_) AllReady.nil
                refine step_appV (TS := 29) (.tmp 85) (.tmp 87) _ _ _ (HAPP.out wB g7 c7 o7 (sbA.out.bel hbB) hbB.size) rfl rfl rfl rfl ?_
                rintro v8 wC ⟨⟨g8, c8, rfl, o8⟩, t8⟩
                have hbC : Below wA.heap.size wA wC := bel_tn hbB t8 o7.ge
                have ZC := hide (Zd.out.grow hbC)
                have qtC := ZC.out.t.cell x _ (vals_at V q x hxq)
                have qfC := ZC.out.t.frozen x
                refine hK1 _ _ ?_
                clear hK1 K1
                refine wpAny_ready (rs := [11]) (by kernel_rfl) (by decide) ?_
                refine AllReady.cons rfl (fun K1 hK1 => ?_) AllReady.nil
                go_simp
                refine hK1 _ _ ?_
                clear hK1 K1
                refine wpAny_ready (rs := [12]) (by kernel_rfl) (by decide) ?_
                refine AllReady.cons rfl (fun K1 hK1 => ?_) AllReady.nil
                go_simp
                refine hK1 _ _ ?_
                clear hK1 K1 qtC qfC
                refine wpAny_done (by kernel_rfl) ?_ _
                refine NoPanic.normal ?_
                have hg8 := o8.ge
                have sV8 : SB wC (.slice (some ⟨g8, 0, none⟩) (lx + l) c8) (M x ++ bs) := by have := o8.sl (fit8_app sxA.out.fits sbA.out.fits); rw [List.length_append, ← ELX.out, ← EL.out] at this; exact this
                have hofA : ∀ g', g' < wA.heap.size → OffB g' (.slice (some ⟨g8, 0, none⟩) (lx + l) c8) := fun g' hg' a n c e _ => by cases e; show g8 ≠ g'; omega
                have ZT := hide (ZC.out.told (k := x) sV8 (hofA gl Zd.out.l.lt) (hofA gt Zd.out.t.lt) (fun j hj => hofA (G j) (Zd.out.st j hj).1.lt))
                go_wp2_with fail
                exact ⟨⟨k + 1, q, gl, cl, gt, ct, s2, _, _, _, by omega, by omega, hq1, by omega, by omega, by go_num, rfl, rfl, rfl, ZT, HM4⟩, by simp [intOf]; omega⟩
            · have qt6 : wA.cell? ⟨gt, x, none⟩ = some (.slice ax lx cx) := by rw [EVX.out]; exact Zd.out.t.cell x _ (vals_at V q x hxq)
              go_simp
              refine hK1 _ _ ?_
              clear hK1 K1 qt6
              refine wpAny_ready (rs := [2, 9]) (by kernel_rfl) (by decide) ?_
              refine AllReady.cons rfl (fun K1 hK1 => ?_) (AllReady.cons rfl (fun K1 hK1 => ?_) AllReady.nil)
              · go_simp
                refine hK1 _ _ ?_
                clear hK1 K1
                refine wpAny_ready (rs := [7, 9]) (by kernel_rfl) (by decide) ?_
                refine AllReady.cons rfl (fun K1 hK1 => ?_) (AllReady.cons rfl (fun K1 hK1 => ?_) AllReady.nil)
                · refine step_appV (TS := 29) (.tmp 80) (.tmp 84) _ _ _ (fun ty => app_copyB ty ELX.out sxA.out hlx6) rfl rfl rfl rfl ?_
                  rintro v7 wB ⟨⟨g7, c7, rfl, o7⟩, hbB⟩
                  refine hK1 _ _ ?_
                  clear hK1 K1
                  refine wpAny_ready (rs := [9]) (by kernel_rfl) (by decide) ?_
                  refine AllReady.cons rfl (fun K1 hK1 => ?_) AllReady.nil
                  have qo9 : wB.cell? ⟨wr.heap.size, 2, none⟩ = some (.slice av l cv) := (hbB.cell (p := ⟨wr.heap.size, 2, none⟩) holA).trans qoA
                  go_simp
                  refine hK1 _ _ ?_
                  clear hK1 K1 qo9
                  refine wpAny_ready (rs := [10]) (by kernel_rfl) (by decide) ?_
                  refine AllReady.cons rfl (fun K1 hK1 => ?_) AllReady.nil
                  refine step_appV (TS := 29) (.tmp 85) (.tmp 87) _ _ _ (HAPP.out wB g7 c7 o7 (sbA.out.bel hbB) hbB.size) rfl rfl rfl rfl ?_
                  rintro v8 wC ⟨⟨g8, c8, rfl, o8⟩, t8⟩
                  have hbC : Below wA.heap.size wA wC := bel_tn hbB t8 o7.ge
                  have ZC := hide (Zd.out.grow hbC)
                  have qtC := ZC.out.t.cell x _ (vals_at V q x hxq)
                  have qfC := ZC.out.t.frozen x
                  refine hK1 _ _ ?_
                  clear hK1 K1
                  refine wpAny_ready (rs := [11]) (by kernel_rfl) (by decide) ?_
                  refine AllReady.cons rfl (fun K1 hK1 => ?_) AllReady.nil
                  go_simp
                  refine hK1 _ _ ?_
                  clear hK1 K1
                  refine wpAny_ready (rs := [12]) (by kernel_rfl) (by decide) ?_
                  refine AllReady.cons rfl (fun K1 hK1 => ?_) AllReady.nil
                  go_simp
                  refine hK1 _ _ ?_
                  clear hK1 K1 qtC qfC
                  refine wpAny_done (by kernel_rfl) ?_ _
                  refine NoPanic.normal ?_
                  have hg8 := o8.ge
                  have sV8 : SB wC (.slice (some ⟨g8, 0, none⟩) (lx + l) c8) (M x ++ bs) := by have := o8.sl (fit8_app sxA.out.fits sbA.out.fits); rw [List.length_append, ← ELX.out, ← EL.out] at this; exact this
                  have hofA : ∀ g', g' < wA.heap.size → OffB g' (.slice (some ⟨g8, 0, none⟩) (lx + l) c8) := fun g' hg' a n c e _ => by cases e; show g8 ≠ g'; omega
                  have ZT := hide (ZC.out.told (k := x) sV8 (hofA gl Zd.out.l.lt) (hofA gt Zd.out.t.lt) (fun j hj => hofA (G j) (Zd.out.st j hj).1.lt))
                  go_wp2_with fail
                  exact ⟨⟨k + 1, q, gl, cl, gt, ct, s2, _, _, _, by omega, by omega, hq1, by omega, by omega, by go_num, rfl, rfl, rfl, ZT, HM4⟩, by simp [intOf]; omega⟩
                · have qo9 : (wA.alloc (.cells #[] 5)).cell? ⟨wr.heap.size, 2, none⟩ = some (.slice av l cv) := ((bel_new wA (.cells #[] 5)).cell (p := ⟨wr.heap.size, 2, none⟩) holA).trans qoA
                  go_simp
                  refine hK1 _ _ ?_
                  clear hK1 K1 qo9
                  refine wpAny_ready (rs := [7]) (by kernel_rfl) (by decide) ?_
                  refine AllReady.cons rfl (fun K1 hK1 => ?_) AllReady.nil
                  refine step_appV (TS := 29) (.tmp 80) (.tmp 84) _ _ _ (fun ty => app_copyB ty ELX.out sxA.out hlx6) rfl rfl rfl rfl ?_
                  rintro v7 wB ⟨⟨g7, c7, rfl, o7⟩, hbB⟩
                  refine hK1 _ _ ?_
                  clear hK1 K1
                  refine wpAny_ready (rs := [10]) (by kernel_rfl) (by decide) ?_
                  refine AllReady.cons rfl (fun K1 hK1 => ?_) AllReady.nil
                  refine step_appV (TS := 29) (.tmp 85) (.tmp 87) _ _ _ (HAPP.out wB g7 c7 o7 (sbA.out.bel hbB) hbB.size) rfl rfl rfl rfl ?_
                  rintro v8 wC ⟨⟨g8, c8, rfl, o8⟩, t8⟩
                  have hbC : Below wA.heap.size wA wC := bel_tn hbB t8 o7.ge
                  have ZC := hide (Zd.out.grow hbC)
                  have qtC := ZC.out.t.cell x _ (vals_at V q x hxq)
                  have qfC := ZC.out.t.frozen x
                  refine hK1 _ _ ?_
                  clear hK1 K1
                  refine wpAny_ready (rs := [11]) (by kernel_rfl) (by decide) ?_
                  refine AllReady.cons rfl (fun K1 hK1 => ?_) AllReady.nil
                  go_simp
                  refine hK1 _ _ ?_
                  clear hK1 K1
                  refine wpAny_ready (rs := [12]) (by kernel_rfl) (by decide) ?_
                  refine AllReady.cons rfl (fun K1 hK1 => ?_) AllReady.nil
                  go_simp
                  refine hK1 _ _ ?_
                  clear hK1 K1 qtC qfC
                  refine wpAny_done (by kernel_rfl) ?_ _
                  refine NoPanic.normal ?_
                  have hg8 := o8.ge
                  have sV8 : SB wC (.slice (some ⟨g8, 0, none⟩) (lx + l) c8) (M x ++ bs) := by have := o8.sl (fit8_app sxA.out.fits sbA.out.fits); rw [List.length_append, ← ELX.out, ← EL.out] at this; exact this
                  have hofA : ∀ g', g' < wA.heap.size → OffB g' (.slice (some ⟨g8, 0, none⟩) (lx + l) c8) := fun g' hg' a n c e _ => by cases e; show g8 ≠ g'; omega
                  have ZT := hide (ZC.out.told (k := x) sV8 (hofA gl Zd.out.l.lt) (hofA gt Zd.out.t.lt) (fun j hj => hofA (G j) (Zd.out.st j hj).1.lt))
                  go_wp2_with fail
                  exact ⟨⟨k + 1, q, gl, cl, gt, ct, s2, _, _, _, by omega, by omega, hq1, by omega, by omega, by go_num, rfl, rfl, rfl, ZT, HM4⟩, by simp [intOf]; omega⟩
              · have qo9 : wA.cell? ⟨wr.heap.size, 2, none⟩ = some (.slice av l cv) := qoA
                go_simp
                refine hK1 _ _ ?_
                clear hK1 K1 qo9
                refine wpAny_ready (rs := [2]) (by kernel_rfl) (by decide) ?_
                refine AllReady.cons rfl (fun K1 hK1 => ?_) AllReady.nil
                go_simp
                refine hK1 _ _ ?_
                clear hK1 K1
                refine wpAny_ready (rs := [7]) (by kernel_rfl) (by decide) ?_
                refine AllReady.cons rfl (fun K1 hK1 => ?_) AllReady.nil
                refine step_appV (TS := 29) (.tmp 80) (.tmp 84) _ _ _ (fun ty => app_copyB ty ELX.out sxA.out hlx6) rfl rfl rfl rfl ?_
                rintro v7 wB ⟨⟨g7, c7, rfl, o7⟩, hbB⟩
                refine hK1 _ _ ?_
                clear hK1 K1
                refine wpAny_ready (rs := [10]) (by kernel_rfl) (by decide) ?_
                refine AllReady.cons rfl (fun K1 hK1 => ?_) AllReady.nil
                refine step_appV (TS := 29) (.tmp 85) (.tmp 87) _ _ _ (HAPP.out wB g7 c7 o7 (sbA.out.bel hbB) hbB.size) rfl rfl rfl rfl ?_
                rintro v8 wC ⟨⟨g8, c8, rfl, o8⟩, t8⟩
                have hbC : Below wA.heap.size wA wC := bel_tn hbB t8 o7.ge
                have ZC := hide (Zd.out.grow hbC)
                have qtC := ZC.out.t.cell x _ (vals_at V q x hxq)
                have qfC := ZC.out.t.frozen x
                refine hK1 _ _ ?_
                clear hK1 K1
                refine wpAny_ready (rs := [11]) (by kernel_rfl) (by decide) ?_
                refine AllReady.cons rfl (fun K1 hK1 => ?_) AllReady.nil
                go_simp
                refine hK1 _ _ ?_
                clear hK1 K1
                refine wpAny_ready (rs := [12]) (by kernel_rfl) (by decide) ?_
                refine AllReady.cons rfl (fun K1 hK1 => ?_) AllReady.nil
                go_simp
                refine hK1 _ _ ?_
                clear hK1 K1 qtC qfC
                refine wpAny_done (by kernel_rfl) ?_ _
                refine NoPanic.normal ?_
                have hg8 := o8.ge
                have sV8 : SB wC (.slice (some ⟨g8, 0, none⟩) (lx + l) c8) (M x ++ bs) := by have := o8.sl (fit8_app sxA.out.fits sbA.out.fits); rw [List.length_append, ← ELX.out, ← EL.out] at this; exact this
                have hofA : ∀ g', g' < wA.heap.size → OffB g' (.slice (some ⟨g8, 0, none⟩) (lx + l) c8) := fun g' hg' a n c e _ => by cases e; show g8 ≠ g'; omega
                have ZT := hide (ZC.out.told (k := x) sV8 (hofA gl Zd.out.l.lt) (hofA gt Zd.out.t.lt) (fun j hj => hofA (G j) (Zd.out.st j hj).1.lt))
                go_wp2_with fail
                exact ⟨⟨k + 1, q, gl, cl, gt, ct, s2, _, _, _, by omega, by omega, hq1, by omega, by omega, by go_num, rfl, rfl, rfl, ZT, HM4⟩, by simp [intOf]; omega⟩
            · have qo9 : wA.cell? ⟨wr.heap.size, 2, none⟩ = some (.slice av l cv) := qoA
              go_simp
              refine hK1 _ _ ?_
              clear hK1 K1 qo9
              refine wpAny_ready (rs := [2, 6]) (by kernel_rfl) (by decide) ?_
              refine AllReady.cons rfl (fun K1 hK1 => ?_) (AllReady.cons rfl (fun K1 hK1 => ?_) AllReady.nil)
              · go_simp
                refine hK1 _ _ ?_
                clear hK1 K1
                refine wpAny_ready (rs := [6]) (by kernel_rfl) (by decide) ?_
                refine AllReady.cons rfl (fun K1 hK1 => ?_) AllReady.nil
                have qt6 : (wA.alloc (.cells #[] 5)).cell? ⟨gt, x, none⟩ = some (.slice ax lx cx) := by rw [EVX.out]; exact (Zd.out.grow (bel_new wA (.cells #[] 5))).t.cell x _ (vals_at V q x hxq)
                go_simp
                refine hK1 _ _ ?_
                clear hK1 K1 qt6
                refine wpAny_ready (rs := [7]) (by kernel_rfl) (by decide) ?_
                refine AllReady.cons rfl (fun K1 hK1 => ?_) AllReady.nil
                refine step_appV (TS := 29) (.tmp 80) (.tmp 84) _ _ _ (fun ty => app_copyB ty ELX.out sxA.out hlx6) rfl rfl rfl rfl ?_
                rintro v7 wB ⟨⟨g7, c7, rfl, o7⟩, hbB⟩
                refine hK1 _ _ ?_
                clear hK1 K1
                refine wpAny_ready (rs := [10]) (by kernel_rfl) (by decide) ?_
                refine AllReady.cons rfl (fun K1 hK1 => ?_) AllReady.nil
                refine step_appV (TS := 29) (.tmp 85) (.tmp 87) _ _ _ (HAPP.out wB g7 c7 o7 (sbA.out.bel hbB) hbB.size) rfl rfl rfl rfl ?_
                rintro v8 wC ⟨⟨g8, c8, rfl, o8⟩, t8⟩
                have hbC : Below wA.heap.size wA wC := bel_tn hbB t8 o7.ge
                have ZC := hide (Zd.out.grow hbC)
                have qtC := ZC.out.t.cell x _ (vals_at V q x hxq)
                have qfC := ZC.out.t.frozen x
                refine hK1 _ _ ?_
                clear hK1 K1
                refine wpAny_ready (rs := [11]) (by kernel_rfl) (by decide) ?_
                refine AllReady.cons rfl (fun K1 hK1 => ?_) AllReady.nil
                go_simp
                refine hK1 _ _ ?_
                clear hK1 K1
                refine wpAny_ready (rs := [12]) (by kernel_rfl) (by decide) ?_
                refine AllReady.cons rfl (fun K1 hK1 => ?_) AllReady.nil
                go_simp
                refine hK1 _ _ ?_
                clear hK1 K1 qtC qfC
                refine wpAny_done (by kernel_rfl) ?_ _
                refine NoPanic.normal ?_
                have hg8 := o8.ge
                have sV8 : SB wC (.slice (some ⟨g8, 0, none⟩) (lx + l) c8) (M x ++ bs) := by have := o8.sl (fit8_app sxA.out.fits sbA.out.fits); rw [List.length_append, ← ELX.out, ← EL.out] at this; exact this
                have hofA : ∀ g', g' < wA.heap.size → OffB g' (.slice (some ⟨g8, 0, none⟩) (lx + l) c8) := fun g' hg' a n c e _ => by cases e; show g8 ≠ g'; omega
                have ZT := hide (ZC.out.told (k := x) sV8 (hofA gl Zd.out.l.lt) (hofA gt Zd.out.t.lt) (fun j hj => hofA (G j) (Zd.out.st j hj).1.lt))
                go_wp2_with fail
                exact ⟨⟨k + 1, q, gl, cl, gt, ct, s2, _, _, _, by omega, by omega, hq1, by omega, by omega, by go_num, rfl, rfl, rfl, ZT, HM4⟩, by simp [intOf]; omega⟩
              · have qt6 : wA.cell? ⟨gt, x, none⟩ = some (.slice ax lx cx) := by rw [EVX.out]; exact Zd.out.t.cell x _ (vals_at V q x hxq)
                go_simp
                refine hK1 _ _ ?_
                clear hK1 K1 qt6
                refine wpAny_ready (rs := [2]) (by kernel_rfl) (by decide) ?_
                refine AllReady.cons rfl (fun K1 hK1 => ?_) AllReady.nil
                go_simp
                refine hK1 _ _ ?_
                clear hK1 K1
                refine wpAny_ready (rs := [7]) (by kernel_rfl) (by decide) ?_
                refine AllReady.cons rfl (fun K1 hK1 => ?_) AllReady.nil
                refine step_appV (TS := 29) (.tmp 80) (.tmp 84) _ _ _ (fun ty => app_copyB ty ELX.out sxA.out hlx6) rfl rfl rfl rfl ?_
                rintro v7 wB ⟨⟨g7, c7, rfl, o7⟩, hbB⟩
                refine hK1 _ _ ?_
                clear hK1 K1
                refine wpAny_ready (rs := [10]) (by kernel_rfl) (by decide) ?_
                refine AllReady.cons rfl (fun K1 hK1 => ?_) AllReady.nil
                refine step_appV (TS := 29) (.tmp 85) (.tmp 87) _ _ _ (HAPP.out wB g7 c7 o7 (sbA.out.bel hbB) hbB.size) rfl rfl rfl rfl ?_
                rintro v8 wC ⟨⟨g8, c8, rfl, o8⟩, t8⟩
                have hbC : Below wA.heap.size wA wC := bel_tn hbB t8 o7.ge
                have ZC := hide (Zd.out.grow hbC)
                have qtC := ZC.out.t.cell x _ (vals_at V q x hxq)
                have qfC := ZC.out.t.frozen x
                refine hK1 _ _ ?_
                clear hK1 K1
                refine wpAny_ready (rs := [11]) (by kernel_rfl) (by decide) ?_
                refine AllReady.cons rfl (fun K1 hK1 => ?_) AllReady.nil
                go_simp
                refine hK1 _ _ ?_
                clear hK1 K1
                refine wpAny_ready (rs := [12]) (by kernel_rfl) (by decide) ?_
                refine AllReady.cons rfl (fun K1 hK1 => ?_) AllReady.nil
                go_simp
                refine hK1 _ _ ?_
                clear hK1 K1 qtC qfC
                refine wpAny_done (by kernel_rfl) ?_ _
                refine NoPanic.normal ?_
                have hg8 := o8.ge
                have sV8 : SB wC (.slice (some ⟨g8, 0, none⟩) (lx + l) c8) (M x ++ bs) := by have := o8.sl (fit8_app sxA.out.fits sbA.out.fits); rw [List.length_append, ← ELX.out, ← EL.out] at this; exact this
                have hofA : ∀ g', g' < wA.heap.size → OffB g' (.slice (some ⟨g8, 0, none⟩) (lx + l) c8) := fun g' hg' a n c e _ => by cases e; show g8 ≠ g'; omega
                have ZT := hide (ZC.out.told (k := x) sV8 (hofA gl Zd.out.l.lt) (hofA gt Zd.out.t.lt) (fun j hj => hofA (G j) (Zd.out.st j hj).1.lt))
                go_wp2_with fail
                exact ⟨⟨k + 1, q, gl, cl, gt, ct, s2, _, _, _, by omega, by omega, hq1, by omega, by omega, by go_num, rfl, rfl, rfl, ZT, HM4⟩, by simp [intOf]; omega⟩
          · have hk1 : (K == 1) = false := by rw [beq_eq_false_iff_ne]; exact hK1
            by_cases hK2 : K = 2
            · subst hK2
              go_wp2_with fail
              generalize wr.alloc (.cells #[.int .i64 2, .int .i64 s', .slice av l cv] 32) = wt at ZA qo hol s0A qlA ⊢
              have stx := hide (ZA.out.st x hxq).1
              refine (copy_any (G x) (M x) wt stx.out).mono ?_
              rintro e w5 ⟨g5, rfl, hs5, hg5, hb5⟩
              have Z5 := hide (ZA.out.grow hb5)
              have HG5 : Hid (∀ i, i < q → G i < g5) := fun i hi => Nat.lt_of_lt_of_le (ZA.out.st i hi).1.lt hg5
              have HV5 : Hid (∀ i, i < q → OffB g5 (V i)) := fun i hi => (ZA.out.sb i hi).off hg5
              have hgg : Hid (gl ≠ g5 ∧ gt ≠ g5) := ⟨Nat.ne_of_lt (Nat.lt_of_lt_of_le ZA.out.l.lt hg5), Nat.ne_of_lt (Nat.lt_of_lt_of_le ZA.out.t.lt hg5)⟩
              have hnx : ¬ g5 = G x := by have := HG5.out x hxq; omega
              have ql5 := Z5.out.l.cell x _ (ptrs_at G q x hxq)
              obtain ⟨Bq, _, hBq⟩ := hs5
              obtain ⟨Bx, _, hBx⟩ := (Z5.out.st x hxq).1
              have heq5 := ptr_other w5 g5 (G x) _ _ _ _ (by omega) hBq hBx
              have hs5 : St w5 g5 (M x) := ⟨Bq, by assumption, hBq⟩
              have HM3 : Hid (∀ i, i < q + 1 → (upd M q (M x) i).length ≤ s2) := fun i hi => by
                by_cases e : i = q
                · rw [e, upd_same]; exact HM2.out x hxq
                · rw [upd_other _ _ _ _ e]; exact HM2.out i (by omega)
              clear stx qlA qo hol s0A c0' c1' c2' s0
              go_wp2_with fail
              have Zd := hide Z5.out.drew
              have stA : St w5.drew g5 (M x) := hs5
              have hAA : Hid (gl < w5.drew.heap.size ∧ gt < w5.drew.heap.size ∧ g5 < w5.drew.heap.size) := ⟨Zd.out.l.lt, Zd.out.t.lt, stA.lt⟩
              have HVA : Hid (∀ i, i < q → ∀ g', w5.drew.heap.size ≤ g' → OffB g' (V i)) := fun i hi g' hg' => (Zd.out.sb i hi).off hg'
              have tkA := Zd.out.t
              have szA : w5.drew.heap.size ≤ w5.drew.heap.size := Nat.le_refl _
              have sx5 := hide (Zd.out.sb x hxq)
              obtain ⟨vx, evx⟩ : ∃ vx, vx = V x := ⟨_, rfl⟩
              have EVX := hide evx
              rw [← evx] at sx5
              clear evx ql5 Z5 hs5 hb5
              obtain ⟨ax, cx, evf, _, _⟩ := sx5.out.form
              obtain ⟨lx, elx⟩ : ∃ lx, lx = (M x).length := ⟨_, rfl⟩
              rw [← elx] at evf
              subst evf
              clear elx
              refine wp_region_noPanic ?_
              refine wp_region_any mixed ?_
              change wpAny _ _ _ _ _ _ _ (World.drew _)
              generalize w5.drew = wA at *
              refine wpAny_take (i := 0) (v := ?_) rfl (by kernel_rfl) (by kernel_rfl) (by kernel_rfl) (fun _ _ _ h => h) (Or.inl ⟨by rfl, fun w => ?_⟩) ?_
              rotate_left 1
              · (go_simp <;> with_reducible rfl)
              simp only [Act.put, List.getElem_toArray, List.getElem_cons_zero, List.setIfInBounds_toArray, List.set_cons_zero, List.set_cons_succ]
              refine wpAny_take (i := 1) (v := ?_) rfl (by kernel_rfl) (by kernel_rfl) (by kernel_rfl) (fun _ _ _ h => h) (Or.inl ⟨by rfl, fun w => ?_⟩) ?_
              rotate_left 1
              · (go_simp <;> with_reducible rfl)
              simp only [Act.put, List.getElem_toArray, List.getElem_cons_zero, List.getElem_cons_succ, List.setIfInBounds_toArray, List.set_cons_zero, List.set_cons_succ]
              refine wpAny_take (i := 4) (v := ?_) rfl (by kernel_rfl) (by kernel_rfl) (by kernel_rfl) (fun _ _ _ h => h) (Or.inl ⟨by rfl, fun w => ?_⟩) ?_
              rotate_left 1
              · (go_simp <;> with_reducible rfl)
              simp only [Act.put, List.getElem_toArray, List.getElem_cons_zero, List.getElem_cons_succ, List.setIfInBounds_toArray, List.set_cons_zero, List.set_cons_succ]
              refine wpAny_take (i := 5) (v := ?_) rfl (by kernel_rfl) (by kernel_rfl) (by kernel_rfl) (fun _ _ _ h => h) (Or.inl ⟨by rfl, fun w => ?_⟩) ?_
              rotate_left 1
              · (go_simp <;> with_reducible rfl)
              simp only [Act.put, List.getElem_toArray, List.getElem_cons_zero, List.getElem_cons_succ, List.setIfInBounds_toArray, List.set_cons_zero, List.set_cons_succ]
              refine wpAny_take (i := 6) (v := ?_) rfl (by kernel_rfl) (by kernel_rfl) (by kernel_rfl) (fun _ _ _ h => h) (Or.inl ⟨by rfl, fun w => ?_⟩) ?_
              rotate_left 1
              · (go_simp <;> with_reducible rfl)
              simp only [Act.put, List.getElem_toArray, List.getElem_cons_zero, List.getElem_cons_succ, List.setIfInBounds_toArray, List.set_cons_zero, List.set_cons_succ]
              refine wpAny_take (i := 7) (v := ?_) rfl (by kernel_rfl) (by kernel_rfl) (by kernel_rfl) (fun _ _ _ h => h) (Or.inl ⟨by rfl, fun w => ?_⟩) ?_
              rotate_left 1
              · (go_simp <;> with_reducible rfl)
              simp only [Act.put, List.getElem_toArray, List.getElem_cons_zero, List.getElem_cons_succ, List.setIfInBounds_toArray, List.set_cons_zero, List.set_cons_succ]
              refine wpAny_ready (rs := [2, 8]) (by kernel_rfl) (by decide) ?_
              refine AllReady.cons rfl (fun K1 hK1 => ?_) (AllReady.cons rfl (fun K1 hK1 => ?_) AllReady.nil)
              · go_simp
                refine hK1 _ _ ?_
                clear hK1 K1
                have hbN := bel_new wA (.cells #[.pointer (some ⟨g5, 0, none⟩)] 26)
                have cPA2 : (wA.alloc (.cells #[.pointer (some ⟨g5, 0, none⟩)] 26)).cell? ⟨wA.heap.size, 0, none⟩ = some (.pointer (some ⟨g5, 0, none⟩)) := (Blk.new wA [.pointer (some ⟨g5, 0, none⟩)] 26).cell 0
                have ltcPA2 : wA.heap.size < (wA.alloc (.cells #[.pointer (some ⟨g5, 0, none⟩)] 26)).heap.size := (Blk.new wA [.pointer (some ⟨g5, 0, none⟩)] 26).lt
                have szA2 : wA.heap.size ≤ (wA.alloc (.cells #[.pointer (some ⟨g5, 0, none⟩)] 26)).heap.size := Nat.le_trans szA hbN.size
                have stA2 := stA.bel hbN
                have tkA2 := tkA.below hbN
                have ZA2 := hide (Zd.out.grow hbN)
                clear hbN
                generalize wA.alloc (.cells #[.pointer (some ⟨g5, 0, none⟩)] 26) = wA2 at cPA2 ltcPA2 szA2 stA2 tkA2 ZA2 ⊢
                refine wpAny_ready (rs := [3, 8]) (by kernel_rfl) (by decide) ?_
                refine AllReady.cons rfl (fun K1 hK1 => ?_) (AllReady.cons rfl (fun K1 hK1 => ?_) AllReady.nil)
                · refine step_appV (TS := 28) (.tmp 107) (.tmp 109) _ _ _ (fun ty => pushV Tryd.underlying28 infoP rfl (by decide) ty ZA2.out.l (ptrs_len G q).symm cPA2 rfl (by omega) ZA2.out.big) rfl rfl rfl rfl ?_
                  rintro v3 wA23 ⟨⟨gl3, cl3, rfl, olA23, hgl3⟩, tlA23⟩
                  have Zp := ZA2
                  have hgl3A : gl3 = gl ∨ wA.heap.size ≤ gl3 := hgl3.imp id (fun e => by rw [e]; exact szA2)
                  have szA23 : wA.heap.size ≤ wA23.heap.size := Nat.le_trans szA2 tlA23.size
                  have stA23 := stA2.tn tlA23 (Ne.symm hgg.out.1)
                  have tkA23 := tkA2.tn tlA23 (Ne.symm Zp.out.lt)
                  refine hK1 _ _ ?_
                  clear hK1 K1
                  refine wpAny_ready (rs := [8]) (by kernel_rfl) (by decide) ?_
                  refine AllReady.cons rfl (fun K1 hK1 => ?_) AllReady.nil
                  have qt8 : wA23.cell? ⟨gt, x, none⟩ = some (.slice ax lx cx) := by rw [EVX.out]; exact tkA23.cell x _ (vals_at V q x hxq)
                  go_simp
                  refine hK1 _ _ ?_
                  clear hK1 K1 qt8
                  refine wpAny_ready (rs := [9]) (by kernel_rfl) (by decide) ?_
                  refine AllReady.cons rfl (fun K1 hK1 => ?_) AllReady.nil
                  go_simp
                  refine hK1 _ _ ?_
                  clear hK1 K1
                  have szS : wA.heap.size ≤ wA23.heap.size := szA23
                  have hbN := bel_new wA23 (.cells #[.slice ax lx cx] 29)
                  have cSA239 : (wA23.alloc (.cells #[.slice ax lx cx] 29)).cell? ⟨wA23.heap.size, 0, none⟩ = some (.slice ax lx cx) := (Blk.new wA23 [.slice ax lx cx] 29).cell 0
                  have ltcSA239 : wA23.heap.size < (wA23.alloc (.cells #[.slice ax lx cx] 29)).heap.size := (Blk.new wA23 [.slice ax lx cx] 29).lt
                  have szA239 : wA.heap.size ≤ (wA23.alloc (.cells #[.slice ax lx cx] 29)).heap.size := Nat.le_trans szA23 hbN.size
                  have stA239 := stA23.bel hbN
                  have tkA239 := tkA23.below hbN
                  have tlA239 := tlA23.trans (Tn.of_bel hbN)
                  have olA239 := olA23.below hbN
                  clear hbN
                  generalize wA23.alloc (.cells #[.slice ax lx cx] 29) = wA239 at cSA239 ltcSA239 szA239 stA239 tkA239 tlA239 olA239 ⊢
                  refine wpAny_ready (rs := [10]) (by kernel_rfl) (by decide) ?_
                  refine AllReady.cons rfl (fun K1 hK1 => ?_) AllReady.nil
                  refine step_appV (TS := 30) (.tmp 111) (.tmp 116) _ _ _ (fun ty => pushV Tryd.underlying30 infoS rfl (by decide) ty tkA239 (vals_len V q).symm cSA239 sx5.out.one (by omega) (Nat.le_trans Zd.out.big szA239)) rfl rfl rfl rfl ?_
                  rintro v10 wf ⟨⟨gt10, ct10, rfl, ot10, hgt10⟩, t10⟩
                  have olt := olA239.lt
                  have hgt10A : gt10 = gt ∨ (wA.heap.size ≤ gt10 ∧ gl3 < gt10) := hgt10.imp id (fun e => by rw [e]; exact ⟨szA239, olt⟩)
                  have hne3 : gl3 ≠ gt := by have := hAA.out; have := Zp.out.lt; omega
                  rw [EVX.out] at ot10
                  have ZF := hide (Zp.out.copied2 (wl := wA239) hxq wA.heap.size (stA239.tn t10 (Ne.symm hgg.out.2)) (Nat.le_trans ZA.out.big hg5) ⟨hAA.out.1, hAA.out.2.1, hAA.out.2.2⟩ HG5.out HV5.out HVA.out hgg.out (olA239.tn t10 hne3) ot10 hgl3A hgt10A tlA239 t10)
                  refine hK1 _ _ ?_
                  clear hK1 K1
                  refine wpAny_take (i := 11) (v := ?_) rfl (by kernel_rfl) (by kernel_rfl) (by kernel_rfl) (fun _ _ _ h => h) (Or.inl ⟨by rfl, fun w => ?_⟩) ?_
                  rotate_left 1
                  · (go_simp <;> with_reducible rfl)
                  simp only [Act.put, List.getElem_toArray, List.getElem_cons_zero, List.getElem_cons_succ, List.setIfInBounds_toArray, List.set_cons_zero, List.set_cons_succ]
                  refine wpAny_take (i := 12) (v := ?_) rfl (by kernel_rfl) (by kernel_rfl) (by kernel_rfl) (fun _ _ _ h => h) (Or.inl ⟨by rfl, fun w => ?_⟩) ?_
                  rotate_left 1
                  · (go_simp <;> with_reducible rfl)
                  simp only [Act.put, List.getElem_toArray, List.getElem_cons_zero, List.getElem_cons_succ, List.setIfInBounds_toArray, List.set_cons_zero, List.set_cons_succ]
                  refine wpAny_done (by kernel_rfl) ?_ _
                  refine NoPanic.normal ?_
                  go_wp2_with fail
                  exact ⟨⟨k + 1, q + 1, gl3, cl3, gt10, ct10, s2, _, _, _, by omega, by omega, by omega, by omega, by omega, by go_num, rfl, rfl, rfl, ZF, HM3⟩, by simp [intOf]; omega⟩
                · have qt8 : wA2.cell? ⟨gt, x, none⟩ = some (.slice ax lx cx) := by rw [EVX.out]; exact tkA2.cell x _ (vals_at V q x hxq)
                  go_simp
                  refine hK1 _ _ ?_
                  clear hK1 K1 qt8
                  refine wpAny_ready (rs := [3, 9]) (by kernel_rfl) (by decide) ?_
                  refine AllReady.cons rfl (fun K1 hK1 => ?_) (AllReady.cons rfl (fun K1 hK1 => ?_) AllReady.nil)
                  · refine step_appV (TS := 28) (.tmp 107) (.tmp 109) _ _ _ (fun ty => pushV Tryd.underlying28 infoP rfl (by decide) ty ZA2.out.l (ptrs_len G q).symm cPA2 rfl (by omega) ZA2.out.big) rfl rfl rfl rfl ?_
                    rintro v3 wA23 ⟨⟨gl3, cl3, rfl, olA23, hgl3⟩, tlA23⟩
                    have Zp := ZA2
                    have hgl3A : gl3 = gl ∨ wA.heap.size ≤ gl3 := hgl3.imp id (fun e => by rw [e]; exact szA2)
                    have szA23 : wA.heap.size ≤ wA23.heap.size := Nat.le_trans szA2 tlA23.size
                    have stA23 := stA2.tn tlA23 (Ne.symm hgg.out.1)
                    have tkA23 := tkA2.tn tlA23 (Ne.symm Zp.out.lt)
                    refine hK1 _ _ ?_
                    clear hK1 K1
                    refine wpAny_ready (rs := [9]) (by kernel_rfl) (by decide) ?_
                    refine AllReady.cons rfl (fun K1 hK1 => ?_) AllReady.nil
                    go_simp
                    refine hK1 _ _ ?_
                    clear hK1 K1
                    have szS : wA.heap.size ≤ wA23.heap.size := szA23
                    have hbN := bel_new wA23 (.cells #[.slice ax lx cx] 29)
                    have cSA239 : (wA23.alloc (.cells #[.slice ax lx cx] 29)).cell? ⟨wA23.heap.size, 0, none⟩ = some (.slice ax lx cx) := (Blk.new wA23 [.slice ax lx cx] 29).cell 0
                    have ltcSA239 : wA23.heap.size < (wA23.alloc (.cells #[.slice ax lx cx] 29)).heap.size := (Blk.new wA23 [.slice ax lx cx] 29).lt
                    have szA239 : wA.heap.size ≤ (wA23.alloc (.cells #[.slice ax lx cx] 29)).heap.size := Nat.le_trans szA23 hbN.size
                    have stA239 := stA23.bel hbN
                    have tkA239 := tkA23.below hbN
                    have tlA239 := tlA23.trans (Tn.of_bel hbN)
                    have olA239 := olA23.below hbN
                    clear hbN
                    generalize wA23.alloc (.cells #[.slice ax lx cx] 29) = wA239 at cSA239 ltcSA239 szA239 stA239 tkA239 tlA239 olA239 ⊢
                    refine wpAny_ready (rs := [10]) (by kernel_rfl) (by decide) ?_
                    refine AllReady.cons rfl (fun K1 hK1 => ?_) AllReady.nil
                    refine step_appV (TS := 30) (.tmp 111) (.tmp 116) _ _ _ (fun ty => pushV Tryd.underlying30 infoS rfl (by decide) ty tkA239 (vals_len V q).symm cSA239 sx5.out.one (by omega) (Nat.le_trans Zd.out.big szA239)) rfl rfl rfl rfl ?_
                    rintro v10 wf ⟨⟨gt10, ct10, rfl, ot10, hgt10⟩, t10⟩
                    have olt := olA239.lt
                    have hgt10A : gt10 = gt ∨ (wA.heap.size ≤ gt10 ∧ gl3 < gt10) := hgt10.imp id (fun e => by rw [e]; exact ⟨szA239, olt⟩)
                    have hne3 : gl3 ≠ gt := by have := hAA.out; have := Zp.out.lt; omega
                    rw [EVX.out] at ot10
                    have ZF := hide (Zp.out.copied2 (wl := wA239) hxq wA.heap.size (stA239.tn t10 (Ne.symm hgg.out.2)) (Nat.le_trans ZA.out.big hg5) ⟨hAA.out.1, hAA.out.2.1, hAA.out.2.2⟩ HG5.out HV5.out HVA.out hgg.out (olA239.tn t10 hne3) ot10 hgl3A hgt10A tlA239 t10)
                    refine hK1 _ _ ?_
                    clear hK1 K1
                    refine wpAny_take (i := 11) (v := ?_) rfl (by kernel_rfl) (by kernel_rfl) (by kernel_rfl) (fun _ _ _ h => h) (Or.inl ⟨by rfl, fun w => ?_⟩) ?_
                    rotate_left 1
                    · (go_simp <;> with_reducible rfl)
                    simp only [Act.put, List.getElem_toArray, List.getElem_cons_zero, List.getElem_cons_succ, List.setIfInBounds_toArray, List.set_cons_zero, List.set_cons_succ]
                    refine wpAny_take (i := 12) (v := ?_) rfl (by kernel_rfl) (by kernel_rfl) (by kernel_rfl) (fun _ _ _ h => h) (Or.inl ⟨by rfl, fun w => ?_⟩) ?_
                    rotate_left 1
                    · (go_simp <;> with_reducible rfl)
                    simp only [Act.put, List.getElem_toArray, List.getElem_cons_zero, List.getElem_cons_succ, List.setIfInBounds_toArray, List.set_cons_zero, List.set_cons_succ]
                    refine wpAny_done (by kernel_rfl) ?_ _
                    refine NoPanic.normal ?_
                    go_wp2_with fail
                    exact ⟨⟨k + 1, q + 1, gl3, cl3, gt10, ct10, s2, _, _, _, by omega, by omega, by omega, by omega, by omega, by go_num, rfl, rfl, rfl, ZF, HM3⟩, by simp [intOf]; omega⟩
                  · go_simp
                    refine hK1 _ _ ?_
                    clear hK1 K1
                    have szS : wA.heap.size ≤ wA2.heap.size := szA2
                    have hbN := bel_new wA2 (.cells #[.slice ax lx cx] 29)
                    have cSA29 : (wA2.alloc (.cells #[.slice ax lx cx] 29)).cell? ⟨wA2.heap.size, 0, none⟩ = some (.slice ax lx cx) := (Blk.new wA2 [.slice ax lx cx] 29).cell 0
                    have ltcSA29 : wA2.heap.size < (wA2.alloc (.cells #[.slice ax lx cx] 29)).heap.size := (Blk.new wA2 [.slice ax lx cx] 29).lt
                    have szA29 : wA.heap.size ≤ (wA2.alloc (.cells #[.slice ax lx cx] 29)).heap.size := Nat.le_trans szA2 hbN.size
                    have stA29 := stA2.bel hbN
                    have tkA29 := tkA2.below hbN
                    have cPA29 := (hbN.cell (p := ⟨wA.heap.size, 0, none⟩) ltcPA2).trans cPA2
                    have ltcPA29 := Nat.lt_of_lt_of_le ltcPA2 hbN.size
                    have ZA29 := hide (ZA2.out.grow hbN)
                    clear hbN
                    generalize wA2.alloc (.cells #[.slice ax lx cx] 29) = wA29 at cSA29 ltcSA29 szA29 stA29 tkA29 cPA29 ltcPA29 ZA29 ⊢
                    refine wpAny_ready (rs := [3]) (by kernel_rfl) (by decide) ?_
                    refine AllReady.cons rfl (fun K1 hK1 => ?_) AllReady.nil
                    refine step_appV (TS := 28) (.tmp 107) (.tmp 109) _ _ _ (fun ty => pushV Tryd.underlying28 infoP rfl (by decide) ty ZA29.out.l (ptrs_len G q).symm cPA29 rfl (by omega) ZA29.out.big) rfl rfl rfl rfl ?_
                    rintro v3 wA293 ⟨⟨gl3, cl3, rfl, olA293, hgl3⟩, tlA293⟩
                    have Zp := ZA29
                    have hgl3A : gl3 = gl ∨ wA.heap.size ≤ gl3 := hgl3.imp id (fun e => by rw [e]; exact szA29)
                    have szA293 : wA.heap.size ≤ wA293.heap.size := Nat.le_trans szA29 tlA293.size
                    have stA293 := stA29.tn tlA293 (Ne.symm hgg.out.1)
                    have tkA293 := tkA29.tn tlA293 (Ne.symm Zp.out.lt)
                    have cSA293 := (tlA293.cell ⟨wA2.heap.size, 0, none⟩ ltcSA29 (by have := hAA.out; have := szS; show wA2.heap.size ≠ gl; omega)).trans cSA29
                    have ltcSA293 := Nat.lt_of_lt_of_le ltcSA29 tlA293.size
                    refine hK1 _ _ ?_
                    clear hK1 K1
                    refine wpAny_ready (rs := [10]) (by kernel_rfl) (by decide) ?_
                    refine AllReady.cons rfl (fun K1 hK1 => ?_) AllReady.nil
                    refine step_appV (TS := 30) (.tmp 111) (.tmp 116) _ _ _ (fun ty => pushV Tryd.underlying30 infoS rfl (by decide) ty tkA293 (vals_len V q).symm cSA293 sx5.out.one (by omega) (Nat.le_trans Zd.out.big szA293)) rfl rfl rfl rfl ?_
                    rintro v10 wf ⟨⟨gt10, ct10, rfl, ot10, hgt10⟩, t10⟩
                    have olt := olA293.lt
                    have hgt10A : gt10 = gt ∨ (wA.heap.size ≤ gt10 ∧ gl3 < gt10) := hgt10.imp id (fun e => by rw [e]; exact ⟨szA293, olt⟩)
                    have hne3 : gl3 ≠ gt := by have := hAA.out; have := Zp.out.lt; omega
                    rw [EVX.out] at ot10
                    have ZF := hide (Zp.out.copied2 (wl := wA293) hxq wA.heap.size (stA293.tn t10 (Ne.symm hgg.out.2)) (Nat.le_trans ZA.out.big hg5) ⟨hAA.out.1, hAA.out.2.1, hAA.out.2.2⟩ HG5.out HV5.out HVA.out hgg.out (olA293.tn t10 hne3) ot10 hgl3A hgt10A tlA293 t10)
                    refine hK1 _ _ ?_
                    clear hK1 K1
                    refine wpAny_take (i := 11) (v := ?_) rfl (by kernel_rfl) (by kernel_rfl) (by kernel_rfl) (fun _ _ _ h => h) (Or.inl ⟨by rfl, fun w => ?_⟩) ?_
                    rotate_left 1
                    · (go_simp <;> with_reducible rfl)
                    simp only [Act.put, List.getElem_toArray, List.getElem_cons_zero, List.getElem_cons_succ, List.setIfInBounds_toArray, List.set_cons_zero, List.set_cons_succ]
                    refine wpAny_take (i := 12) (v := ?_) rfl (by kernel_rfl) (by kernel_rfl) (by kernel_rfl) (fun _ _ _ h => h) (Or.inl ⟨by rfl, fun w => ?_⟩) ?_
                    rotate_left 1
                    · (go_simp <;> with_reducible rfl)
                    simp only [Act.put, List.getElem_toArray, List.getElem_cons_zero, List.getElem_cons_succ, List.setIfInBounds_toArray, List.set_cons_zero, List.set_cons_succ]
                    refine wpAny_done (by kernel_rfl) ?_ _
                    refine NoPanic.normal ?_
                    go_wp2_with fail
                    exact ⟨⟨k + 1, q + 1, gl3, cl3, gt10, ct10, s2, _, _, _, by omega, by omega, by omega, by omega, by omega, by go_num, rfl, rfl, rfl, ZF, HM3⟩, by simp [intOf]; omega⟩
              · have qt8 : wA.cell? ⟨gt, x, none⟩ = some (.slice ax lx cx) := by rw [EVX.out]; exact tkA.cell x _ (vals_at V q x hxq)
                go_simp
                refine hK1 _ _ ?_
                clear hK1 K1 qt8
                refine wpAny_ready (rs := [2, 9]) (by kernel_rfl) (by decide) ?_
                refine AllReady.cons rfl (fun K1 hK1 => ?_) (AllReady.cons rfl (fun K1 hK1 => ?_) AllReady.nil)
                · go_simp
                  refine hK1 _ _ ?_
                  clear hK1 K1
                  have hbN := bel_new wA (.cells #[.pointer (some ⟨g5, 0, none⟩)] 26)
                  have cPA2 : (wA.alloc (.cells #[.pointer (some ⟨g5, 0, none⟩)] 26)).cell? ⟨wA.heap.size, 0, none⟩ = some (.pointer (some ⟨g5, 0, none⟩)) := (Blk.new wA [.pointer (some ⟨g5, 0, none⟩)] 26).cell 0
                  have ltcPA2 : wA.heap.size < (wA.alloc (.cells #[.pointer (some ⟨g5, 0, none⟩)] 26)).heap.size := (Blk.new wA [.pointer (some ⟨g5, 0, none⟩)] 26).lt
                  have szA2 : wA.heap.size ≤ (wA.alloc (.cells #[.pointer (some ⟨g5, 0, none⟩)] 26)).heap.size := Nat.le_trans szA hbN.size
                  have stA2 := stA.bel hbN
                  have tkA2 := tkA.below hbN
                  have ZA2 := hide (Zd.out.grow hbN)
                  clear hbN
                  generalize wA.alloc (.cells #[.pointer (some ⟨g5, 0, none⟩)] 26) = wA2 at cPA2 ltcPA2 szA2 stA2 tkA2 ZA2 ⊢
                  refine wpAny_ready (rs := [3, 9]) (by kernel_rfl) (by decide) ?_
                  refine AllReady.cons rfl (fun K1 hK1 => ?_) (AllReady.cons rfl (fun K1 hK1 => ?_) AllReady.nil)
                  · refine step_appV (TS := 28) (.tmp 107) (.tmp 109) _ _ _ (fun ty => pushV Tryd.underlying28 infoP rfl (by decide) ty ZA2.out.l (ptrs_len G q).symm cPA2 rfl (by omega) ZA2.out.big) rfl rfl rfl rfl ?_
                    rintro v3 wA23 ⟨⟨gl3, cl3, rfl, olA23, hgl3⟩, tlA23⟩
                    have Zp := ZA2
                    have hgl3A : gl3 = gl ∨ wA.heap.size ≤ gl3 := hgl3.imp id (fun e => by rw [e]; exact szA2)
                    have szA23 : wA.heap.size ≤ wA23.heap.size := Nat.le_trans szA2 tlA23.size
                    have stA23 := stA2.tn tlA23 (Ne.symm hgg.out.1)
                    have tkA23 := tkA2.tn tlA23 (Ne.symm Zp.out.lt)
                    refine hK1 _ _ ?_
                    clear hK1 K1
                    refine wpAny_ready (rs := [9]) (by kernel_rfl) (by decide) ?_
                    refine AllReady.cons rfl (fun K1 hK1 => ?_) AllReady.nil
                    go_simp
                    refine hK1 _ _ ?_
                    clear hK1 K1
                    have szS : wA.heap.size ≤ wA23.heap.size := szA23
                    have hbN := bel_new wA23 (.cells #[.slice ax lx cx] 29)
                    have cSA239 : (wA23.alloc (.cells #[.slice ax lx cx] 29)).cell? ⟨wA23.heap.size, 0, none⟩ = some (.slice ax lx cx) := (Blk.new wA23 [.slice ax lx cx] 29).cell 0
                    have ltcSA239 : wA23.heap.size < (wA23.alloc (.cells #[.slice ax lx cx] 29)).heap.size := (Blk.new wA23 [.slice ax lx cx] 29).lt
                    have szA239 : wA.heap.size ≤ (wA23.alloc (.cells #[.slice ax lx cx] 29)).heap.size := Nat.le_trans szA23 hbN.size
                    have stA239 := stA23.bel hbN
                    have tkA239 := tkA23.below hbN
                    have tlA239 := tlA23.trans (Tn.of_bel hbN)
                    have olA239 := olA23.below hbN
                    clear hbN
                    generalize wA23.alloc (.cells #[.slice ax lx cx] 29) = wA239 at cSA239 ltcSA239 szA239 stA239 tkA239 tlA239 olA239 ⊢
                    refine wpAny_ready (rs := [10]) (by kernel_rfl) (by decide) ?_
                    refine AllReady.cons rfl (fun K1 hK1 => ?_) AllReady.nil
                    refine step_appV (TS := 30) (.tmp 111) (.tmp 116) _ _ _ (fun ty => pushV Tryd.underlying30 infoS rfl (by decide) ty tkA239 (vals_len V q).symm cSA239 sx5.out.one (by omega) (Nat.le_trans Zd.out.big szA239)) rfl rfl rfl rfl ?_
                    rintro v10 wf ⟨⟨gt10, ct10, rfl, ot10, hgt10⟩, t10⟩
                    have olt := olA239.lt
                    have hgt10A : gt10 = gt ∨ (wA.heap.size ≤ gt10 ∧ gl3 < gt10) := hgt10.imp id (fun e => by rw [e]; exact ⟨szA239, olt⟩)
                    have hne3 : gl3 ≠ gt := by have := hAA.out; have := Zp.out.lt; omega
                    rw [EVX.out] at ot10
                    have ZF := hide (Zp.out.copied2 (wl := wA239) hxq wA.heap.size (stA239.tn t10 (Ne.symm hgg.out.2)) (Nat.le_trans ZA.out.big hg5) ⟨hAA.out.1, hAA.out.2.1, hAA.out.2.2⟩ HG5.out HV5.out HVA.out hgg.out (olA239.tn t10 hne3) ot10 hgl3A hgt10A tlA239 t10)
                    refine hK1 _ _ ?_
                    clear hK1 K1
                    refine wpAny_take (i := 11) (v := ?_) rfl (by kernel_rfl) (by kernel_rfl) (by kernel_rfl) (fun _ _ _ h => h) (Or.inl ⟨by rfl, fun w => ?_⟩) ?_
                    rotate_left 1
                    · (go_simp <;> with_reducible rfl)
                    simp only [Act.put, List.getElem_toArray, List.getElem_cons_zero, List.getElem_cons_succ, List.setIfInBounds_toArray, List.set_cons_zero, List.set_cons_succ]
                    refine wpAny_take (i := 12) (v := ?_) rfl (by kernel_rfl) (by kernel_rfl) (by kernel_rfl) (fun _ _ _ h => h) (Or.inl ⟨by rfl, fun w => ?_⟩) ?_
                    rotate_left 1
                    · (go_simp <;> with_reducible rfl)
                    simp only [Act.put, List.getElem_toArray, List.getElem_cons_zero, List.getElem_cons_succ, List.setIfInBounds_toArray, List.set_cons_zero, List.set_cons_succ]
                    refine wpAny_done (by kernel_rfl) ?_ _
                    refine NoPanic.normal ?_
                    go_wp2_with fail
                    exact ⟨⟨k + 1, q + 1, gl3, cl3, gt10, ct10, s2, _, _, _, by omega, by omega, by omega, by omega, by omega, by go_num, rfl, rfl, rfl, ZF, HM3⟩, by simp [intOf]; omega⟩
                  · go_simp
                    refine hK1 _ _ ?_
                    clear hK1 K1
                    have szS : wA.heap.size ≤ wA2.heap.size := szA2
                    have hbN := bel_new wA2 (.cells #[.slice ax lx cx] 29)
                    have cSA29 : (wA2.alloc (.cells #[.slice ax lx cx] 29)).cell? ⟨wA2.heap.size, 0, none⟩ = some (.slice ax lx cx) := (Blk.new wA2 [.slice ax lx cx] 29).cell 0
                    have ltcSA29 : wA2.heap.size < (wA2.alloc (.cells #[.slice ax lx cx] 29)).heap.size := (Blk.new wA2 [.slice ax lx cx] 29).lt
                    have szA29 : wA.heap.size ≤ (wA2.alloc (.cells #[.slice ax lx cx] 29)).heap.size := Nat.le_trans szA2 hbN.size
                    have stA29 := stA2.bel hbN
                    have tkA29 := tkA2.below hbN
                    have cPA29 := (hbN.cell (p := ⟨wA.heap.size, 0, none⟩) ltcPA2).trans cPA2
                    have ltcPA29 := Nat.lt_of_lt_of_le ltcPA2 hbN.size
                    have ZA29 := hide (ZA2.out.grow hbN)
                    clear hbN
                    generalize wA2.alloc (.cells #[.slice ax lx cx] 29) = wA29 at cSA29 ltcSA29 szA29 stA29 tkA29 cPA29 ltcPA29 ZA29 ⊢
                    refine wpAny_ready (rs := [3]) (by kernel_rfl) (by decide) ?_
                    refine AllReady.cons rfl (fun K1 hK1 => ?_) AllReady.nil
                    refine step_appV (TS := 28) (.tmp 107) (.tmp 109) _ _ _ (fun ty => pushV Tryd.underlying28 infoP rfl (by decide) ty ZA29.out.l (ptrs_len G q).symm cPA29 rfl (by omega) ZA29.out.big) rfl rfl rfl rfl ?_
                    rintro v3 wA293 ⟨⟨gl3, cl3, rfl, olA293, hgl3⟩, tlA293⟩
                    have Zp := ZA29
                    have hgl3A : gl3 = gl ∨ wA.heap.size ≤ gl3 := hgl3.imp id (fun e => by rw [e]; exact szA29)
                    have szA293 : wA.heap.size ≤ wA293.heap.size := Nat.le_trans szA29 tlA293.size
                    have stA293 := stA29.tn tlA293 (Ne.symm hgg.out.1)
                    have tkA293 := tkA29.tn tlA293 (Ne.symm Zp.out.lt)
                    have cSA293 := (tlA293.cell ⟨wA2.heap.size, 0, none⟩ ltcSA29 (by have := hAA.out; have := szS; show wA2.heap.size ≠ gl; omega)).trans cSA29
                    have ltcSA293 := Nat.lt_of_lt_of_le ltcSA29 tlA293.size
                    refine hK1 _ _ ?_
                    clear hK1 K1
                    refine wpAny_ready (rs := [10]) (by kernel_rfl) (by decide) ?_
                    refine AllReady.cons rfl (fun K1 hK1 => ?_) AllReady.nil
                    refine step_appV (TS := 30) (.tmp 111) (.tmp 116) _ _ _ (fun ty => pushV Tryd.underlying30 infoS rfl (by decide) ty tkA293 (vals_len V q).symm cSA293 sx5.out.one (by omega) (Nat.le_trans Zd.out.big szA293)) rfl rfl rfl rfl ?_
                    rintro v10 wf ⟨⟨gt10, ct10, rfl, ot10, hgt10⟩, t10⟩
                    have olt := olA293.lt
                    have hgt10A : gt10 = gt ∨ (wA.heap.size ≤ gt10 ∧ gl3 < gt10) := hgt10.imp id (fun e => by rw [e]; exact ⟨szA293, olt⟩)
                    have hne3 : gl3 ≠ gt := by have := hAA.out; have := Zp.out.lt; omega
                    rw [EVX.out] at ot10
                    have ZF := hide (Zp.out.copied2 (wl := wA293) hxq wA.heap.size (stA293.tn t10 (Ne.symm hgg.out.2)) (Nat.le_trans ZA.out.big hg5) ⟨hAA.out.1, hAA.out.2.1, hAA.out.2.2⟩ HG5.out HV5.out HVA.out hgg.out (olA293.tn t10 hne3) ot10 hgl3A hgt10A tlA293 t10)
                    refine hK1 _ _ ?_
                    clear hK1 K1
                    refine wpAny_take (i := 11) (v := ?_) rfl (by kernel_rfl) (by kernel_rfl) (by kernel_rfl) (fun _ _ _ h => h) (Or.inl ⟨by rfl, fun w => ?_⟩) ?_
                    rotate_left 1
                    · (go_simp <;> with_reducible rfl)
                    simp only [Act.put, List.getElem_toArray, List.getElem_cons_zero, List.getElem_cons_succ, List.setIfInBounds_toArray, List.set_cons_zero, List.set_cons_succ]
                    refine wpAny_take (i := 12) (v := ?_) rfl (by kernel_rfl) (by kernel_rfl) (by kernel_rfl) (fun _ _ _ h => h) (Or.inl ⟨by rfl, fun w => ?_⟩) ?_
                    rotate_left 1
                    · (go_simp <;> with_reducible rfl)
                    simp only [Act.put, List.getElem_toArray, List.getElem_cons_zero, List.getElem_cons_succ, List.setIfInBounds_toArray, List.set_cons_zero, List.set_cons_succ]
                    refine wpAny_done (by kernel_rfl) ?_ _
                    refine NoPanic.normal ?_
                    go_wp2_with fail
                    exact ⟨⟨k + 1, q + 1, gl3, cl3, gt10, ct10, s2, _, _, _, by omega, by omega, by omega, by omega, by omega, by go_num, rfl, rfl, rfl, ZF, HM3⟩, by simp [intOf]; omega⟩
                · go_simp
                  refine hK1 _ _ ?_
                  clear hK1 K1
                  have szS : wA.heap.size ≤ wA.heap.size := szA
                  have hbN := bel_new wA (.cells #[.slice ax lx cx] 29)
                  have cSA9 : (wA.alloc (.cells #[.slice ax lx cx] 29)).cell? ⟨wA.heap.size, 0, none⟩ = some (.slice ax lx cx) := (Blk.new wA [.slice ax lx cx] 29).cell 0
                  have ltcSA9 : wA.heap.size < (wA.alloc (.cells #[.slice ax lx cx] 29)).heap.size := (Blk.new wA [.slice ax lx cx] 29).lt
                  have szA9 : wA.heap.size ≤ (wA.alloc (.cells #[.slice ax lx cx] 29)).heap.size := Nat.le_trans szA hbN.size
                  have stA9 := stA.bel hbN
                  have tkA9 := tkA.below hbN
                  have ZA9 := hide (Zd.out.grow hbN)
                  clear hbN
                  generalize wA.alloc (.cells #[.slice ax lx cx] 29) = wA9 at cSA9 ltcSA9 szA9 stA9 tkA9 ZA9 ⊢
                  refine wpAny_ready (rs := [2]) (by kernel_rfl) (by decide) ?_
                  refine AllReady.cons rfl (fun K1 hK1 => ?_) AllReady.nil
                  go_simp
                  refine hK1 _ _ ?_
                  clear hK1 K1
                  have hbN := bel_new wA9 (.cells #[.pointer (some ⟨g5, 0, none⟩)] 26)
                  have cPA92 : (wA9.alloc (.cells #[.pointer (some ⟨g5, 0, none⟩)] 26)).cell? ⟨wA9.heap.size, 0, none⟩ = some (.pointer (some ⟨g5, 0, none⟩)) := (Blk.new wA9 [.pointer (some ⟨g5, 0, none⟩)] 26).cell 0
                  have ltcPA92 : wA9.heap.size < (wA9.alloc (.cells #[.pointer (some ⟨g5, 0, none⟩)] 26)).heap.size := (Blk.new wA9 [.pointer (some ⟨g5, 0, none⟩)] 26).lt
                  have szA92 : wA.heap.size ≤ (wA9.alloc (.cells #[.pointer (some ⟨g5, 0, none⟩)] 26)).heap.size := Nat.le_trans szA9 hbN.size
                  have stA92 := stA9.bel hbN
                  have tkA92 := tkA9.below hbN
                  have cSA92 := (hbN.cell (p := ⟨wA.heap.size, 0, none⟩) ltcSA9).trans cSA9
                  have ltcSA92 := Nat.lt_of_lt_of_le ltcSA9 hbN.size
                  have ZA92 := hide (ZA9.out.grow hbN)
                  clear hbN
                  generalize wA9.alloc (.cells #[.pointer (some ⟨g5, 0, none⟩)] 26) = wA92 at cPA92 ltcPA92 szA92 stA92 tkA92 cSA92 ltcSA92 ZA92 ⊢
                  refine wpAny_ready (rs := [3]) (by kernel_rfl) (by decide) ?_
                  refine AllReady.cons rfl (fun K1 hK1 => ?_) AllReady.nil
                  refine step_appV (TS := 28) (.tmp 107) (.tmp 109) _ _ _ (fun ty => pushV Tryd.underlying28 infoP rfl (by decide) ty ZA92.out.l (ptrs_len G q).symm cPA92 rfl (by omega) ZA92.out.big) rfl rfl rfl rfl ?_
                  rintro v3 wA923 ⟨⟨gl3, cl3, rfl, olA923, hgl3⟩, tlA923⟩
                  have Zp := ZA92
                  have hgl3A : gl3 = gl ∨ wA.heap.size ≤ gl3 := hgl3.imp id (fun e => by rw [e]; exact szA92)
                  have szA923 : wA.heap.size ≤ wA923.heap.size := Nat.le_trans szA92 tlA923.size
                  have stA923 := stA92.tn tlA923 (Ne.symm hgg.out.1)
                  have tkA923 := tkA92.tn tlA923 (Ne.symm Zp.out.lt)
                  have cSA923 := (tlA923.cell ⟨wA.heap.size, 0, none⟩ ltcSA92 (by have := hAA.out; have := szS; show wA.heap.size ≠ gl; omega)).trans cSA92
                  have ltcSA923 := Nat.lt_of_lt_of_le ltcSA92 tlA923.size
                  refine hK1 _ _ ?_
                  clear hK1 K1
                  refine wpAny_ready (rs := [10]) (by kernel_rfl) (by decide) ?_
                  refine AllReady.cons rfl (fun K1 hK1 => ?_) AllReady.nil
                  refine step_appV (TS := 30) (.tmp 111) (.tmp 116) _ _ _ (fun ty => pushV Tryd.underlying30 infoS rfl (by decide) ty tkA923 (vals_len V q).symm cSA923 sx5.out.one (by omega) (Nat.le_trans Zd.out.big szA923)) rfl rfl rfl rfl ?_
                  rintro v10 wf ⟨⟨gt10, ct10, rfl, ot10, hgt10⟩, t10⟩
                  have olt := olA923.lt
                  have hgt10A : gt10 = gt ∨ (wA.heap.size ≤ gt10 ∧ gl3 < gt10) := hgt10.imp id (fun e => by rw [e]; exact ⟨szA923, olt⟩)
                  have hne3 : gl3 ≠ gt := by have := hAA.out; have := Zp.out.lt; omega
                  rw [EVX.out] at ot10
                  have ZF := hide (Zp.out.copied2 (wl := wA923) hxq wA.heap.size (stA923.tn t10 (Ne.symm hgg.out.2)) (Nat.le_trans ZA.out.big hg5) ⟨hAA.out.1, hAA.out.2.1, hAA.out.2.2⟩ HG5.out HV5.out HVA.out hgg.out (olA923.tn t10 hne3) ot10 hgl3A hgt10A tlA923 t10)
                  refine hK1 _ _ ?_
                  clear hK1 K1
                  refine wpAny_take (i := 11) (v := ?_) rfl (by kernel_rfl) (by kernel_rfl) (by kernel_rfl) (fun _ _ _ h => h) (Or.inl ⟨by rfl, fun w => ?_⟩) ?_
                  rotate_left 1
                  · (go_simp <;> with_reducible rfl)
                  simp only [Act.put, List.getElem_toArray, List.getElem_cons_zero, List.getElem_cons_succ, List.setIfInBounds_toArray, List.set_cons_zero, List.set_cons_succ]
                  refine wpAny_take (i := 12) (v := ?_) rfl (by kernel_rfl) (by kernel_rfl) (by kernel_rfl) (fun _ _ _ h => h) (Or.inl ⟨by rfl, fun w => ?_⟩) ?_
                  rotate_left 1
                  · (go_simp <;> with_reducible rfl)
                  simp only [Act.put, List.getElem_toArray, List.getElem_cons_zero, List.getElem_cons_succ, List.setIfInBounds_toArray, List.set_cons_zero, List.set_cons_succ]
                  refine wpAny_done (by kernel_rfl) ?_ _
                  refine NoPanic.normal ?_
                  go_wp2_with fail
                  exact ⟨⟨k + 1, q + 1, gl3, cl3, gt10, ct10, s2, _, _, _, by omega, by omega, by omega, by omega, by omega, by go_num, rfl, rfl, rfl, ZF, HM3⟩, by simp [intOf]; omega⟩
            · have hk2 : (K == 2) = false := by rw [beq_eq_false_iff_ne]; exact hK2
              by_cases hK3 : K = 3
              · subst hK3
                go_wp2_with fail
                generalize wr.alloc (.cells #[.int .i64 3, .int .i64 s', .slice av l cv] 32) = wt at ZA qo hol s0A qlA ⊢
                have htt := htab.out.bel ZA.out.bel
                have hMx := hide (HM9.out x hxq)
                have stx := hide (ZA.out.st x hxq).1
                refine (sum_any (G x) (M x) wt stx.out (by have := hMx.out; omega) htt).mono ?_
                rintro e w5 ⟨rfl, hb5⟩
                have Z5 := hide (ZA.out.grow hb5)
                have hhl : Hid ((sha (M x)).length = 32) := sha_len _
                have hhf : Hid (Fit8 (sha (M x))) := sha_fit _
                have hsz : Hid ((Tryd.prog.info? 37).map (·.size) = some (bv (sha (M x))).length) := by show _ = _; rw [bv_len, sha_len]; exact info37
                have hl0 : Hid ((List.replicate 32 (Value.int .u8 0)).length = (bv (sha (M x))).length) := by show _ = _; rw [bv_len, sha_len]; rfl
                clear stx htt qlA qo hol s0A c0' c1' c2' s0
                go_wp2_with (first | (refine wpList_new 37 _ zero37 12 rfl rfl rfl ?_; intro w6 g6 e6 b6 hb6 s6) | (refine wpList_lay 37 (.tmp 12) (.tmp 124) g6 37 _ (bv (sha (M x))) b6 hl0.out hsz.out (bv_one _) rfl rfl rfl rfl ?_; intro w7 b7 t7 s7))
                have hb57 : Below w5.heap.size w5 w7 := bel_tn hb6 t7 (by rw [e6.out]; exact Nat.le_refl _)
                have Z7 := hide (Z5.out.grow hb57)
                have sx7 := hide (Z7.out.sb x hxq)
                have gt7 := Z7.out.t.lt
                have qt7 := Z7.out.t.cell x _ (vals_at V q x hxq)
                obtain ⟨vx, evx⟩ : ∃ vx, vx = V x := ⟨_, rfl⟩
                rw [← evx] at sx7 qt7
                have HS : Hid (∀ w', Below w7.heap.size w7 w' → w'.cell? ⟨gt, x, none⟩ = some vx ∧ (convert 29 9 (.slice (some ⟨g6, 0, none⟩) 32 32)).run Tryd.prog w' = .ok (.string (strOf (sha (M x)))) w') := fun w' hb' => ⟨(hb'.cell (p := ⟨gt, x, none⟩) gt7).trans qt7, conv_str (sb_of32' (b7.bel hb') hhl.out hhf.out)⟩
                have hkd := HS.out w7.drew (Below.refl _ _).drew
                have hh7 := hh.out.bel Z7.out.bel
                clear evx qt7 hb6 hb57 b6 t7 e6 s6 s7 ZA Z5 hb5
                refine wp_region_noPanic ?_
                refine wp_region_held_drew (S := fun w' => w'.cell? ⟨gt, x, none⟩ = some vx ∧ (convert 29 9 (.slice (some ⟨g6, 0, none⟩) 32 32)).run Tryd.prog w' = .ok (.string (strOf (sha (M x)))) w') mixed hkd (fun hH => ?_)
                refine wpAnyH_take (i := 0) (v := ?_) rfl (by kernel_rfl) (by kernel_rfl) (by kernel_rfl) (fun _ _ _ h => h) (Or.inl ⟨by rfl, ?_⟩) (by assumption) ?_
                rotate_left 1
                · (intro w hSw; (try dsimp only at hSw); go_simp <;> with_reducible rfl)
                simp only [Act.put, List.getElem_toArray, List.getElem_cons_zero, List.setIfInBounds_toArray, List.set_cons_zero, List.set_cons_succ]
                refine wpAnyH_take (i := 1) (v := ?_) rfl (by kernel_rfl) (by kernel_rfl) (by kernel_rfl) (fun _ _ _ h => h) (Or.inl ⟨by rfl, ?_⟩) (by assumption) ?_
                rotate_left 1
                · (intro w hSw; (try dsimp only at hSw); go_simp <;> with_reducible rfl)
                simp only [Act.put, List.getElem_toArray, List.getElem_cons_zero, List.getElem_cons_succ, List.setIfInBounds_toArray, List.set_cons_zero, List.set_cons_succ]
                refine wpAnyH_take (i := 2) (v := ?_) rfl (by kernel_rfl) (by kernel_rfl) (by kernel_rfl) (fun _ _ _ h => h) (Or.inl ⟨by rfl, ?_⟩) (by assumption) ?_
                rotate_left 1
                · (intro w hSw; (try dsimp only at hSw); go_simp <;> with_reducible rfl)
                simp only [Act.put, List.getElem_toArray, List.getElem_cons_zero, List.getElem_cons_succ, List.setIfInBounds_toArray, List.set_cons_zero, List.set_cons_succ]
                refine wpAnyH_take (i := 3) (v := ?_) rfl (by kernel_rfl) (by kernel_rfl) (by kernel_rfl) (fun _ _ _ h => h) (Or.inl ⟨by rfl, ?_⟩) (by assumption) ?_
                rotate_left 1
                · (intro w hSw; (try dsimp only at hSw); go_simp <;> with_reducible rfl)
                simp only [Act.put, List.getElem_toArray, List.getElem_cons_zero, List.getElem_cons_succ, List.setIfInBounds_toArray, List.set_cons_zero, List.set_cons_succ]
                refine wpAnyH_take (i := 4) (v := ?_) rfl (by kernel_rfl) (by kernel_rfl) (by kernel_rfl) (fun _ _ _ h => h) (Or.inl ⟨by rfl, ?_⟩) (by assumption) ?_
                rotate_left 1
                · (intro w hSw; (try dsimp only at hSw); go_simp <;> with_reducible rfl)
                simp only [Act.put, List.getElem_toArray, List.getElem_cons_zero, List.getElem_cons_succ, List.setIfInBounds_toArray, List.set_cons_zero, List.set_cons_succ]
                refine wpAnyH_take (i := 5) (v := ?_) rfl (by kernel_rfl) (by kernel_rfl) (by kernel_rfl) (fun _ _ _ h => h) (Or.inl ⟨by rfl, ?_⟩) (by assumption) ?_
                rotate_left 1
                · (intro w hSw; (try dsimp only at hSw); go_simp <;> with_reducible rfl)
                simp only [Act.put, List.getElem_toArray, List.getElem_cons_zero, List.getElem_cons_succ, List.setIfInBounds_toArray, List.set_cons_zero, List.set_cons_succ]
                refine wpAnyH_take (i := 6) (v := ?_) rfl (by kernel_rfl) (by kernel_rfl) (by kernel_rfl) (fun _ _ _ h => h) (Or.inl ⟨by rfl, ?_⟩) (by assumption) ?_
                rotate_left 1
                · (intro w hSw; (try dsimp only at hSw); go_simp <;> with_reducible rfl)
                simp only [Act.put, List.getElem_toArray, List.getElem_cons_zero, List.getElem_cons_succ, List.setIfInBounds_toArray, List.set_cons_zero, List.set_cons_succ]
                refine wpAnyH_ready (rs := [7]) (by kernel_rfl) (by decide) ?_
                refine AllReadyH.cons rfl (fun K1 hK1 => ?_) AllReadyH.nil
                go_simp
                refine (rof_any gh gS cS gT cT _ (M x) w7.drew ⟨hh7.blk, hh7.s, hh7.t⟩ sx7.out (by have := hMx.out; omega)).mono ?_
                rintro e w8 ⟨g8, c8, rfl, o8, hb8⟩
                have hb8 : Below w7.heap.size w7 w8 := ⟨hb8.os, hb8.tape, hb8.output, hb8.size, hb8.block⟩
                have hk8 := HS.out w8 hb8
                have kc8 := conv_str (show SB w8 (.slice (some ⟨g8, 0, none⟩) 32 c8) (sha (M x)) by have := o8.sl hhf.out; rw [hhl.out] at this; exact this)
                refine hK1.out _ _ hk8 (fun hH => ?_)
                clear hK1 K1
                refine wpAnyH_ready (rs := [8]) (by kernel_rfl) (by decide) ?_
                refine AllReadyH.cons rfl (fun K1 hK1 => ?_) AllReadyH.nil
                go_simp
                refine hK1.out _ _ hk8 (fun hH => ?_)
                clear hK1 K1
                refine wpAnyH_take (i := 9) (v := ?_) rfl (by kernel_rfl) (by kernel_rfl) (by kernel_rfl) (fun _ _ _ h => h) (Or.inl ⟨by rfl, ?_⟩) (by assumption) ?_
                rotate_left 1
                · (intro w hSw; (try dsimp only at hSw); go_simp <;> with_reducible rfl)
                simp only [Act.put, List.getElem_toArray, List.getElem_cons_zero, List.getElem_cons_succ, List.setIfInBounds_toArray, List.set_cons_zero, List.set_cons_succ]
                refine wpAnyH_done (by kernel_rfl) ?_ _
                refine NoPanic.normal ?_
                have Z8 := hide (Z7.out.grow hb8)
                go_wp2_with fail
                exact ⟨⟨k + 1, q, gl, cl, gt, ct, s2, G, V, M, by omega, by omega, hq1, by omega, by omega, by go_num, rfl, rfl, rfl, Z8, HM2⟩, by simp [intOf]; omega⟩
              · have hk3 : (K == 3) = false := by rw [beq_eq_false_iff_ne]; exact hK3
                go_wp2_with fail
                exact ⟨⟨k + 1, q, gl, cl, gt, ct, s2, G, V, M, by omega, by omega, hq1, by omega, by omega, by go_num, rfl, rfl, rfl, ZA, HM2⟩, by simp [intOf]; omega⟩
        · obtain ⟨s2, es2⟩ : ∃ s2 : Int, IntKind.i64.wrap ((s : Int) + (l : Int)) = s2 := ⟨_, rfl⟩
          have hbig : 9000 < s2 ∨ s2 < 0 := by rw [← es2, IntKind.wrap_i64]; omega
          by_cases h9 : 9000 < s2
          · have d3 : decide ((9000 : Int) < s2) = true := decide_eq_true h9
            clear hbig
            go_wp2_with fail
            exact hexit _ _ _ _ _ _ _ _ _ _ _ _ _ _ _ _ _ _ _ _ _ _ _ _ _ _ _ _ _ _ _ _ _ _ _ _ _ _ _ _ _ _ _ _ _ _ _ _ _ _ _ _ _ _ _ _ _ _ _ _ _ _ _ _ _ _ _ _ _ _ _ _ _ _ _ _ _ _ _ _ _ _ _ _ _ _ _ _ _ _ _ _ _ _ _ _ _ _ _ _ _ _ _ _ _ _ _ _ _ _ _ _ _ _ _ _ _ _ _ _ q gl cl gt ct G V M ZA (by omega) HM9
          · have d3 : decide ((9000 : Int) < s2) = false := decide_eq_false h9
            have h10 : s2 < 0 := by omega
            have d4 : decide (s2 < 0) = true := decide_eq_true h10
            clear hbig
            go_wp2_with fail
            exact hexit _ _ _ _ _ _ _ _ _ _ _ _ _ _ _ _ _ _ _ _ _ _ _ _ _ _ _ _ _ _ _ _ _ _ _ _ _ _ _ _ _ _ _ _ _ _ _ _ _ _ _ _ _ _ _ _ _ _ _ _ _ _ _ _ _ _ _ _ _ _ _ _ _ _ _ _ _ _ _ _ _ _ _ _ _ _ _ _ _ _ _ _ _ _ _ _ _ _ _ _ _ _ _ _ _ _ _ _ _ _ _ _ _ _ _ _ _ _ _ _ q gl cl gt ct G V M ZA (by omega) HM9
      · have d2 : decide ((60 : Int) < (k : Int)) = true := decide_eq_true (by omega)
        obtain ⟨s2, es2⟩ : ∃ s2 : Int, IntKind.i64.wrap ((s : Int) + (l : Int)) = s2 := ⟨_, rfl⟩
        go_wp2_with fail
        exact hexit _ _ _ _ _ _ _ _ _ _ _ _ _ _ _ _ _ _ _ _ _ _ _ _ _ _ _ _ _ _ _ _ _ _ _ _ _ _ _ _ _ _ _ _ _ _ _ _ _ _ _ _ _ _ _ _ _ _ _ _ _ _ _ _ _ _ _ _ _ _ _ _ _ _ _ _ _ _ _ _ _ _ _ _ _ _ _ _ _ _ _ _ _ _ _ _ _ _ _ _ _ _ _ _ _ _ _ _ _ _ _ _ _ _ _ _ _ _ _ _ q gl cl gt ct G V M ZA (by omega) HM9
    · have d1 : decide ((k : Int) < (len : Int)) = false := decide_eq_false (by omega)
      go_wp2_with fail
      exact hexit _ _ _ _ _ _ _ _ _ _ _ _ _ _ _ _ _ _ _ _ _ _ _ _ _ _ _ _ _ _ _ _ _ _ _ _ _ _ _ _ _ _ _ _ _ _ _ _ _ _ _ _ _ _ _ _ _ _ _ _ _ _ _ _ _ _ _ _ _ _ _ _ _ _ _ _ _ _ _ _ _ _ _ _ _ _ _ _ _ _ _ _ _ _ _ _ _ _ _ _ _ _ _ _ _ _ _ _ _ _ _ _ _ _ _ _ _ _ _ wr q gl cl gt ct G V M Z (by omega) (fun i hi => Nat.le_trans (HM.out i hi) hs)

end Go.Proofs.YtejhhkhaoekkiaaDoor.Ck
