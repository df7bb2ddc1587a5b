/- The document's package of layer 16: Stacks. (Written by mk_y.py.) -/
import Derived.Test.YtaccdblbnogigaaDoorGq14
import Derived.Test.YtaccdblbnogigaaDoorQpzQ
import Derived.Test.YtaccdblbnogigaaDoorIcQ
import Derived.Deep.LoopGhost
import Derived.Deep.CutRange
import Derived.BigQuiet
namespace Go.Proofs.YtaccdblbnogigaaDoor.Ck
open Go.RowKit

theorem run_mkSl (n : Nat) (hn : n ≤ 10000) (w : World) : (Instr.makeSlice 30 (.int .i64 (n : Nat)) (.int .i64 (n : Nat))).run Tryd.prog w = .ok (.slice (some ⟨w.heap.size, 0, none⟩) n n) (w.alloc (.cells (madeCells #[.slice none 0 0] n) 22)) := by
  obtain ⟨i, hi, hz0, hz1, hz2⟩ := info_parts infoSl
  have hr := run_make (P := Tryd.prog) w 30 22 i (.slice none 0 0) Tryd.underlying30 hi hz0 .i64 .i64 n n (by omega) (by omega) (by rw [hz2]; omega) (by omega)
  simp only [Int.toNat_natCast, hz1, Nat.mul_one] at hr
  exact hr
/-- what the document's Stacks leaves -/
def RstP (w : World) (c : Cd) (e : Ending) (w' : World) : Prop := Below w.heap.size w w' ∧ match readM c with
  | some st => ∃ v vs, e = .returned (.tuple #[v, .bool true]) ∧ st.length = c.B.length ∧ w'.ownsRow 0 22 1 v st.length vs ∧ ∀ (i : Nat) (s : List Int) (u : Value), st[i]? = some s → vs[i]? = some u → w'.ownsRow 0 3 1 u s.length (nts s) ∧ Fits s ∧ s.length ≤ 64
  | none => e = .returned (.tuple #[.slice none 0 0, .bool false])
theorem RstP.no {w w' : World} {c : Cd} (h : readM c = none) (hb : Below w.heap.size w w') : RstP w c (.returned (.tuple #[.slice none 0 0, .bool false])) w' := by
  unfold RstP
  rw [h]
  exact ⟨hb, rfl⟩
theorem RstP.yes {w wB w' : World} {c : Cd} {g bM bS : Nat} {lo hi : Int} {vs : List Value} {d : Dr16} (h : readM c = some d.out) (D : Dz wB w' g bM bS lo hi c.B.length vs d) (hb : Below w.heap.size w w') : RstP w c (.returned (.tuple #[.slice (some ⟨bS, 0, none⟩) c.B.length c.B.length, .bool true])) w' := by
  unfold RstP
  rw [h]
  exact ⟨hb, _, vs, rfl, D.sl, by rw [D.sl]; exact D.st, D.row⟩
theorem Dz.start {wB w : World} {g bM bS N : Nat} (hb : Below wB.heap.size wB w)
    (hg : w.heap[g]? = some (.cells #[.slice (some ⟨bS, 0, none⟩) N N, .slice (some ⟨bM, 0, none⟩) N N, .int .i64 0, .int .i64 0, .bool true] 55 (0, 0)))
    (hM : w.ownsRow 0 4 1 (.slice (some ⟨bM, 0, none⟩) N N) N (List.replicate N (.bool false))) (hS : w.ownsRow 0 22 1 (.slice (some ⟨bS, 0, none⟩) N N) N (List.replicate N (.slice none 0 0)))
    (l1 : wB.heap.size ≤ g) (l2 : wB.heap.size ≤ bM) (l3 : wB.heap.size ≤ bS) :
    Dz wB w g bM bS 0 0 N (List.replicate N (.slice none 0 0)) ⟨List.replicate N false, List.replicate N [], true⟩ where
  at_ := hg
  mt := by
    have e : bls (List.replicate N false) = List.replicate N (.bool false) := by simp [bls]
    rw [e]
    exact hM
  st := hS
  row := fun i s v hs hv => by
    have hi : i < N := by
      have := (List.getElem?_eq_some_iff.1 hv).1
      simpa using this
    have e1 : s = [] := by
      have h9 : (List.replicate N ([] : List Int))[i]? = some s := hs
      rw [List.getElem?_replicate, if_pos hi] at h9
      exact (Option.some.inj h9).symm
    have e2 : v = .slice none 0 0 := by
      rw [List.getElem?_replicate, if_pos hi] at hv
      exact (Option.some.inj hv).symm
    subst e1 e2
    exact ⟨World.ownsRow_nil _ _ _ _, fun z hz => (by cases hz), Nat.zero_le _⟩
  ml := by simp
  sl := by simp
  lg := l1
  lM := l2
  lS := l3
  bel := hb
theorem Rnd.off {S : Suc} {lo hi n : Nat} {m0 : List Bool} {o0 : List (List Int)} {cnt at_ at' : Nat} {dn : Int → Bool} {d : Dr16} {c : Bool} (h : Rnd S lo hi n m0 o0 cnt dn at_ d c) (hok : d.ok = false) : Rnd S lo hi n m0 o0 cnt dn at' d c :=
  ⟨h.ml, h.sl, h.no, fun e => by rw [hok] at e; cases e⟩
theorem getD_rep (N i : Nat) : (List.replicate N false).getD i false = false := by
  rw [List.getD_eq_getElem?_getD, List.getElem?_replicate]
  split <;> rfl
theorem StpP.form {w w' : World} {v : Value} {s : List Int} {o : Option (List Int)} {e : Ending} (h : StpP w v s o e w') : ∃ v', e = .returned (.tuple #[v', .bool o.isSome]) ∧ Below w.heap.size w w' ∧ ∀ t, o = some t → t.length ≤ 64 ∧ ((v' = v ∧ t = s) ∨ w'.ownsRow w.heap.size 3 1 v' t.length (nts t)) := by
  obtain ⟨hb, h⟩ := h
  cases o with
  | none =>
    obtain ⟨v', rfl⟩ := h
    exact ⟨v', rfl, hb, fun t ht => by cases ht⟩
  | some t =>
    obtain ⟨v', rfl, h1, h2⟩ := h
    exact ⟨v', rfl, hb, fun t' ht => by cases ht; exact ⟨h1, h2⟩⟩
theorem ty_fits {s : List Int} (h : Ty3 s) : Fits s := fun z hz => by
  have := h z hz
  first | exact (by constructor <;> omega) | omega
theorem Cv.below' {w w' : World} {vP vC vF vB : Value} {c : Cd} (h : Cv w vP vC vF vB c) (hb : Below w.heap.size w w') : Cv w' vP vC vF vB c := h.bel hb
theorem suc_none {c : Cd} {LL : List Int} {i : Nat} {s : List Int} {X : In5} (hX : X = c.B.getD i zI) (h : (!(stepD c LL X s).isSome || (isJ X && !jmpD c i)) = true) : sucD c LL i s = none := by
  unfold sucD
  rw [← hX]
  cases e : stepD c LL X s with
  | none => rfl
  | some t =>
    rw [e] at h
    simp only [Option.isSome_some, Bool.not_true, Bool.false_or, Bool.and_eq_true, Bool.not_eq_true'] at h
    simp only [Option.bind_some]
    rw [if_pos h]
def sucL (X : In5) (i : Nat) (s t : List Int) : List (Int × List Int) := (if X.op = 12 ∨ X.op = 13 then [(X.a, t)] else []) ++ ((if X.op = 14 then [(X.a, s)] else []) ++ (if X.op ≠ 12 ∧ X.op ≠ 25 ∧ X.op ≠ 26 then [((i : Int) + 1, t)] else []))
theorem suc_some {c : Cd} {LL : List Int} {i : Nat} {s : List Int} {X : In5} (hX : X = c.B.getD i zI) (h : (!(stepD c LL X s).isSome || (isJ X && !jmpD c i)) = false) : ∃ t, stepD c LL X s = some t ∧ sucD c LL i s = some (sucL X i s t) := by
  unfold sucD sucL
  rw [← hX]
  cases e : stepD c LL X s with
  | none => rw [e] at h; simp at h
  | some t =>
    rw [e] at h
    simp only [Option.isSome_some, Bool.not_true, Bool.false_or] at h
    refine ⟨t, rfl, ?_⟩
    simp only [Option.bind_some]
    rw [if_neg]
    rintro ⟨h1, h2⟩
    rw [h1, h2] at h
    cases h
theorem Dz.ne {wB w : World} {g bM bS n x : Nat} {lo hi : Int} {vs : List Value} {d : Dr16} {cc : Array Value} {T : TypeId} (h : Dz wB w g bM bS lo hi n vs d) (hx : w.heap[x]? = some (.cells cc T (0, 0))) (hT : T ≠ 55 ∧ T ≠ 4 ∧ T ≠ 22) : ¬ Fz g bM bS x := fun e => by
  obtain ⟨_, _, c1, q1⟩ := own_type h.mt (k := bM) rfl
  obtain ⟨_, _, c2, q2⟩ := own_type h.st (k := bS) rfl
  have q0 := h.at_
  rcases e with e | e | e
  · rw [e, q0] at hx; injection hx with hx; injection hx with _ h2 _; exact hT.1 h2.symm
  · rw [e, q1] at hx; injection hx with hx; injection hx with _ h2 _; exact hT.2.1 h2.symm
  · rw [e, q2] at hx; injection hx with hx; injection hx with _ h2 _; exact hT.2.2 h2.symm
/-- the measure of the rounds -/
def muD (d : Dr16) (ch : Bool) : Nat := if d.ok = true then 2 * d.met.count false + (if ch = true then 1 else 0) + 1 else 0
set_option maxRecDepth 20000 in
set_option maxHeartbeats 40000000 in
theorem rstacks_any {w : World} {vP vC vF vB : Value} {c : Cd} (h : Cv w vP vC vF vB c) (hs : Sml c) : Calls Tryd.prog 10 #[codeA vP vC vF vB c] w (RstP w c) := by
  have B0 := hide (bel_new w (codeO vP vC vF vB c))
  have RF := hide (rform_any (h.bel B0.out) hs)
  obtain ⟨aP, cP, aC, cC, aF, cF, aB, cB, eP, eC, eF, eB⟩ := h.form
  subst eP eC eF eB
  have V0 := Go.Deep.blk_alloc_new w (codeO (.slice aP c.P.length cP) (.slice aC c.C.length cC) (.slice aF c.F.length cF) (.slice aB c.B.length cB) c)
  have HW := hide h
  unfold codeO at *
  unfold codeA at RF ⊢
  obtain ⟨N, hN⟩ : ∃ N, N = c.B.length := ⟨_, rfl⟩
  have HN := hide hN
  rw [← hN] at RF V0 B0 HW ⊢
  obtain ⟨g0, g1, g2, g3, g4, g5, g6⟩ := cells7 V0
  clear h hs hN
  go_enter Tryd.func10, Tryd.ntmps10
  go_wp2_with fail
  refine RF.out.mono ?_
  rintro e w4 ⟨rfl, b4⟩
  have Q0 := (b4.block _ (lt_of_blk V0)).trans V0
  have B4 := hide (bel_trans B0.out b4)
  obtain ⟨bz, hbz⟩ : ∃ b, b = w.heap.size := ⟨_, rfl⟩
  rw [← hbz] at Q0 ⊢
  have HQ := hide Q0
  have HWB := hide (HW.out.bel B4.out)
  obtain ⟨g0', g1', g2', g3', g4', g5', g6'⟩ := cells7 Q0
  clear g0 g1 g2 g3 g4 g5 g6 b4 RF V0 B0 Q0 hbz HW
  cases hf : formB c with
  | false =>
    have RM : Hid (readM c = none) := hide (by unfold readM; rw [hf]; rfl)
    clear hf
    go_wp2_with fail
    go_ret2
    exact RstP.no RM.out B4.out
  | true =>
    have HF := hide hf
    clear hf
    have NB : Hid (N ≤ 8192) := hide (by have h1 := HF.out; rw [HN.out]; unfold formB at h1; simp only [Bool.and_eq_true, decide_eq_true_eq] at h1; exact h1.1.1.2)
    go_upto_region 3 with fail
    go_cut [4] from 13 (fun x4 wc => ∃ g bM bS, x4 = .pointer (some ⟨g, 0, none⟩) ∧ Hid (Dz w4 wc g bM bS 0 0 N (List.replicate N (.slice none 0 0)) ⟨List.replicate N false, List.replicate N [], true⟩))
    case first =>
      as_aux_lemma =>
        have QD : w4.drew.heap[bz]? = some (.cells #[.slice aP c.P.length cP, .int .i64 c.M, .int .i64 c.A, .slice aC c.C.length cC, .slice aF c.F.length cF, .int .i64 c.mn, .slice aB N cB] 27 (0, 0)) := HQ.out
        have MB := run_mkB N (by have := NB.out; omega)
        have MS := run_mkSl N (by have := NB.out; omega)
        have BD := hide (show Below w4.heap.size w4 w4.drew from bel_drawn (Below.refl _ _))
        refine wp_region_T (S := fun wz => wz.heap[bz]? = some (.cells #[.slice aP c.P.length cP, .int .i64 c.M, .int .i64 c.A, .slice aC c.C.length cC, .slice aF c.F.length cF, .int .i64 c.mn, .slice aB N cB] 27 (0, 0))) (fun _ => true) mixed QD (fun hH => ?_)
        have LD : Hid (w4.heap.size ≤ w4.drew.heap.size) := hide BD.out.size
        clear QD g0' g1' g2' g3' g4' g5' g6'
        generalize w4.drew = wd at *
        refine Tm 0 ?_
        simp only [Act.put, SA]
        refine Tl 1 (v := ?_) ?_ hH ?_
        rotate_left 1
        · (intro w hSw; have hq := hSw; obtain ⟨l0, l1, l2, l3, l4, l5, l6⟩ := cells7 hq; clear hSw hq; go_simp <;> with_reducible rfl)
        simp only [Act.put, SA]
        refine Tm 2 ?_
        simp only [Act.put, SA]
        refine Tm 4 ?_
        simp only [Act.put, SA]
        refine Tl 5 (v := ?_) ?_ hH ?_
        rotate_left 1
        · (intro w hSw; have hq := hSw; obtain ⟨l0, l1, l2, l3, l4, l5, l6⟩ := cells7 hq; clear hSw hq; go_simp <;> with_reducible rfl)
        simp only [Act.put, SA]
        refine Tm 6 ?_
        simp only [Act.put, SA]
        refine T_ready (rs := [3, 7]) (by kernel_rfl) (by decide) ?_
        refine AllReadyT.cons rfl (fun K1 hK1 => ?_) (AllReadyT.cons rfl (fun K1 hK1 => ?_) AllReadyT.nil)
        · go_simp
          have BA := hide (bel_new wd (.cells (madeCells #[.slice none 0 0] N) 22))
          have OA := hide (madeRow wd (.slice none 0 0) N 22 (by have := NB.out; omega))
          have SA5 := hide ((BA.out.block bz (lt_of_blk hH)).trans hH)
          refine hK1.out _ _ (fun _ => SA5.out) (fun _ => ?_)
          clear hK1 K1 hH
          generalize wd.alloc (.cells (madeCells #[.slice none 0 0] N) 22) = w5 at *
          have LA := hide (show w4.heap.size ≤ wd.heap.size from LD.out)
          have LX := hide (show wd.heap.size < w5.heap.size from (own_type OA.out (k := wd.heap.size) rfl).2.1)
          generalize hna : wd.heap.size = bS at OA LA LX ⊢
          refine Tr 7 (fun K1 hK1 => ?_)
          go_simp
          have BB := hide (bel_new w5 (.cells (madeCells #[.bool false] N) 4))
          have OB := hide (madeRow w5 (.bool false) N 4 (by have := NB.out; omega))
          have OA2 := hide (own_keep (w' := w5.alloc (.cells (madeCells #[.bool false] N) 4)) OA.out (fun k hk => BB.out.block k (own_type OA.out hk).2.1))
          have SB := hide ((BB.out.block bz (lt_of_blk SA5.out)).trans SA5.out)
          have LB := hide (show w4.heap.size ≤ w5.heap.size from Nat.le_trans LA.out (Nat.le_of_lt LX.out))
          refine hK1.out _ _ (fun _ => SB.out) (fun _ => ?_)
          clear hK1 K1 OA SA5
          generalize w5.alloc (.cells (madeCells #[.bool false] N) 4) = w6 at *
          generalize hnb : w5.heap.size = bM at OB LB ⊢
          refine Tm 8 ?_
          simp only [Act.put, SA]
          refine Tr 9 (fun K1 hK1 => ?_)
          go_simp
          have BC := hide (bel_new w6 (.cells #[.slice (some ⟨bS, 0, none⟩) N N, .slice (some ⟨bM, 0, none⟩) N N, .int .i64 0, .int .i64 0, .bool true] 55))
          have VC := hide (Go.Deep.blk_alloc_new w6 (.cells #[.slice (some ⟨bS, 0, none⟩) N N, .slice (some ⟨bM, 0, none⟩) N N, .int .i64 0, .int .i64 0, .bool true] 55))
          have L6 := hide (show w4.heap.size ≤ w6.heap.size from Nat.le_trans LB.out (Nat.le_of_lt (own_type OB.out (k := bM) rfl).2.1))
          have BX := hide (show Below wd.heap.size wd w6 from BA.out.trans (BB.out.mono BA.out.size))
          have BY := hide (show Below w4.heap.size w4 (w6.alloc (.cells #[.slice (some ⟨bS, 0, none⟩) N N, .slice (some ⟨bM, 0, none⟩) N N, .int .i64 0, .int .i64 0, .bool true] 55)) from BD.out.trans ((BX.out.mono BD.out.size).trans (BC.out.mono (Nat.le_trans BD.out.size BX.out.size))))
          have RR := hide (Dz.start (wB := w4) (w := w6.alloc (.cells #[.slice (some ⟨bS, 0, none⟩) N N, .slice (some ⟨bM, 0, none⟩) N N, .int .i64 0, .int .i64 0, .bool true] 55)) (g := w6.heap.size) (bM := bM) (bS := bS) (N := N) BY.out VC.out (own_keep OB.out (fun k hk => BC.out.block k (own_type OB.out hk).2.1)) (own_keep OA2.out (fun k hk => BC.out.block k (own_type OA2.out hk).2.1)) L6.out LB.out LA.out)
          refine hK1.out _ _ (fun _ => (BC.out.block bz (lt_of_blk SB.out)).trans SB.out) (fun _ => ?_)
          clear hK1 K1
          refine Tm 10 ?_
          simp only [Act.put, SA]
          refine T_done (by kernel_rfl) ?_ _
          go_wp2_with fail
          go_meet
          exact ⟨_, bM, bS, rfl, RR⟩
        · go_simp
          have BA := hide (bel_new wd (.cells (madeCells #[.bool false] N) 4))
          have OA := hide (madeRow wd (.bool false) N 4 (by have := NB.out; omega))
          have SA5 := hide ((BA.out.block bz (lt_of_blk hH)).trans hH)
          refine hK1.out _ _ (fun _ => SA5.out) (fun _ => ?_)
          clear hK1 K1 hH
          generalize wd.alloc (.cells (madeCells #[.bool false] N) 4) = w5 at *
          have LA := hide (show w4.heap.size ≤ wd.heap.size from LD.out)
          have LX := hide (show wd.heap.size < w5.heap.size from (own_type OA.out (k := wd.heap.size) rfl).2.1)
          generalize hna : wd.heap.size = bM at OA LA LX ⊢
          refine Tr 3 (fun K1 hK1 => ?_)
          go_simp
          have BB := hide (bel_new w5 (.cells (madeCells #[.slice none 0 0] N) 22))
          have OB := hide (madeRow w5 (.slice none 0 0) N 22 (by have := NB.out; omega))
          have OA2 := hide (own_keep (w' := w5.alloc (.cells (madeCells #[.slice none 0 0] N) 22)) OA.out (fun k hk => BB.out.block k (own_type OA.out hk).2.1))
          have SB := hide ((BB.out.block bz (lt_of_blk SA5.out)).trans SA5.out)
          have LB := hide (show w4.heap.size ≤ w5.heap.size from Nat.le_trans LA.out (Nat.le_of_lt LX.out))
          refine hK1.out _ _ (fun _ => SB.out) (fun _ => ?_)
          clear hK1 K1 OA SA5
          generalize w5.alloc (.cells (madeCells #[.slice none 0 0] N) 22) = w6 at *
          generalize hnb : w5.heap.size = bS at OB LB ⊢
          refine Tm 8 ?_
          simp only [Act.put, SA]
          refine Tr 9 (fun K1 hK1 => ?_)
          go_simp
          have BC := hide (bel_new w6 (.cells #[.slice (some ⟨bS, 0, none⟩) N N, .slice (some ⟨bM, 0, none⟩) N N, .int .i64 0, .int .i64 0, .bool true] 55))
          have VC := hide (Go.Deep.blk_alloc_new w6 (.cells #[.slice (some ⟨bS, 0, none⟩) N N, .slice (some ⟨bM, 0, none⟩) N N, .int .i64 0, .int .i64 0, .bool true] 55))
          have L6 := hide (show w4.heap.size ≤ w6.heap.size from Nat.le_trans LB.out (Nat.le_of_lt (own_type OB.out (k := bS) rfl).2.1))
          have BX := hide (show Below wd.heap.size wd w6 from BA.out.trans (BB.out.mono BA.out.size))
          have BY := hide (show Below w4.heap.size w4 (w6.alloc (.cells #[.slice (some ⟨bS, 0, none⟩) N N, .slice (some ⟨bM, 0, none⟩) N N, .int .i64 0, .int .i64 0, .bool true] 55)) from BD.out.trans ((BX.out.mono BD.out.size).trans (BC.out.mono (Nat.le_trans BD.out.size BX.out.size))))
          have RR := hide (Dz.start (wB := w4) (w := w6.alloc (.cells #[.slice (some ⟨bS, 0, none⟩) N N, .slice (some ⟨bM, 0, none⟩) N N, .int .i64 0, .int .i64 0, .bool true] 55)) (g := w6.heap.size) (bM := bM) (bS := bS) (N := N) BY.out VC.out (own_keep OA2.out (fun k hk => BC.out.block k (own_type OA2.out hk).2.1)) (own_keep OB.out (fun k hk => BC.out.block k (own_type OB.out hk).2.1)) L6.out LA.out LB.out)
          refine hK1.out _ _ (fun _ => (BC.out.block bz (lt_of_blk SB.out)).trans SB.out) (fun _ => ?_)
          clear hK1 K1
          refine Tm 10 ?_
          simp only [Act.put, SA]
          refine T_done (by kernel_rfl) ?_ _
          go_wp2_with fail
          go_meet
          exact ⟨_, bM, bS, rfl, RR⟩
    case rest =>
      obtain ⟨g, bM, bS, rfl, Z0⟩ := hcut
      obtain ⟨o, ho⟩ : ∃ o, funcsM c c.F (beginM c) = o := ⟨_, rfl⟩
      have RM : Hid (readM c = o.map Rw16.st) := hide (by unfold readM; rw [if_pos HF.out, ho])
      have I0 : Hid (∃ lo hi vs d, Dz w4 wc g bM bS lo hi N vs d ∧ d.ok = true ∧ funcsM c (c.F.drop 0) ⟨d.met, d.out, []⟩ = o ∧ (0 < c.F.length → ∀ i : Nat, (c.F.getD 0 zF).st ≤ i → d.met.getD i false = false)) := hide ⟨_, _, _, _, Z0.out, rfl, by rw [List.drop_zero, HN.out]; exact ho, fun _ i _ => getD_rep N i⟩
      clear ho
      have FL : Hid (c.F.length ≤ 16) := hide (by have h1 := HF.out; unfold formB at h1; simp only [Bool.and_eq_true, decide_eq_true_eq] at h1; exact h1.1.1.1.2)
      have e4 := (Z0.out.bel.block bz (lt_of_blk HQ.out)).trans HQ.out
      obtain ⟨m0, m1, m2, m3, m4, m5, m6⟩ := cells7 e4
      clear e4 g0' g1' g2' g3' g4' g5' g6'
      go_wp2_with fail
      clear m0 m1 m2 m3 m4 m5 m6 Z0
      go_loopg [29] (c.F.length) (fun gh x29 wr => ∃ k : Nat, gh = c.F.length - k ∧ k ≤ c.F.length ∧ x29 = .int .i64 k ∧ Hid (∃ lo hi vs d, Dz w4 wr g bM bS lo hi N vs d ∧ d.ok = true ∧ funcsM c (c.F.drop k) ⟨d.met, d.out, []⟩ = o ∧ (k < c.F.length → ∀ i : Nat, (c.F.getD k zF).st ≤ i → d.met.getD i false = false)))
      case atStart => exact ⟨0, rfl, Nat.zero_le _, rfl, I0⟩
      case round =>
        obtain ⟨k, rfl, hk, rfl, HI⟩ := hrel
        obtain ⟨lo0, hi0, vs, d, D0, hok, hfe, hun⟩ := HI.out
        have D := hide D0
        have OK := hide hok
        have FE := hide hfe
        have UN := hide hun
        clear HI I0 D0 hok hfe hun
        by_cases hlt : k < c.F.length
        · skip
          as_aux_lemma =>
            obtain ⟨lo, hi, hst, hhi, hhn, hlh, _⟩ := entry_next HF.out hlt
            have hlt' : (k : Int) < (c.F.length : Int) := by omega
            have HLT := hide hlt
            have TT := hide (tyC_of HF.out)
            obtain ⟨LL, hLL⟩ : ∃ q, q = (c.F.getD k zF).lo := ⟨_, rfl⟩
            have TL : Hid (Ty3 LL) := hide (by rw [hLL]; exact (TT.out.F k hlt).2.2)
            have FS := hide (funcs_step HF.out hlt hst hhi hhn hlh (m := ⟨d.met, d.out, []⟩) (by rw [D.out.ml, HN.out]) (by rw [D.out.sl, HN.out]) (fun i a _ => UN.out hlt i (by rw [hst]; omega)) rfl)
            rw [← hLL, FE.out, ← HN.out] at FS
            have UM : Hid (∀ i, lo ≤ i → i < hi → d.met.getD i false = false) := hide (fun i a _ => UN.out hlt i (by rw [hst]; omega))
            have UH : Hid (∀ i, hi ≤ i → d.met.getD i false = false) := hide (fun i a => UN.out hlt i (by rw [hst]; omega))
            have LH : Hid (lo < hi ∧ hi ≤ N) := hide ⟨hlh, by rw [HN.out]; exact hhn⟩
            have HHI := hide hhi
            obtain ⟨bF, oF, vl, e9, hbF, q0, q1, q2, sl⟩ := HWB.out.F.at k hlt
            subst e9
            have HNX : Hid (∀ hn : k + 1 < c.F.length, ∀ wz, Below w4.heap.size w4 wz → wz.cell? ⟨bF, oF + (k + 1) * 3, none⟩ = some (.int .i64 (hi : Nat))) := hide (fun hn wz hb => by
    obtain ⟨b2, o2, _, e2, hb2, p0, _⟩ := HWB.out.F.at (k + 1) hn
    cases e2
    rw [(hb.cell (p := ⟨bF, oF + (k + 1) * 3, none⟩) hb2).trans p0]
    rw [if_pos hn] at hhi
    rw [hhi])
            have HLAST : Hid (¬ k + 1 < c.F.length → (N : Int) = hi) := hide (fun hn => by rw [if_neg hn, ← HN.out] at hhi; exact hhi)
            have GST : Hid ((c.F.getD k zF).st = lo) := hide hst
            rw [hst] at q0
            obtain ⟨pa, hpa⟩ : ∃ q, q = (c.F.getD k zF).pa := ⟨_, rfl⟩
            rw [← hpa] at q1
            rw [← hLL] at sl
            have GPA := hide hpa
            have GLL := hide hLL
            obtain ⟨aL, cL, eL, _⟩ := sl.form
            subst eL
            have SLW := hide sl
            obtain ⟨nl, hnl⟩ : ∃ q, q = LL.length := ⟨_, rfl⟩
            rw [← hnl] at q2 SLW
            have z0 := (D.out.bel.cell (p := ⟨bF, oF + k * 3, none⟩) hbF).trans q0
            have z1 := (D.out.bel.cell (p := ⟨bF, oF + k * 3 + 1, none⟩) hbF).trans q1
            have z2 := (D.out.bel.cell (p := ⟨bF, oF + k * 3 + 2, none⟩) hbF).trans q2
            clear hst hhi hhn hlh hLL hpa hnl hbF q0 q1 q2 sl
            have BN := hide (bel_new wr (.cells #[.int .i64 (lo : Nat), .int .i64 pa, .slice aL nl cL] 46))
            have VN := hide (Go.Deep.blk_alloc_new wr (.cells #[.int .i64 (lo : Nat), .int .i64 pa, .slice aL nl cL] 46))
            have DN := hide (D.out.keep BN.out)
            go_upto_region 7 with fail
            generalize wr.alloc (.cells #[.int .i64 (lo : Nat), .int .i64 pa, .slice aL nl cL] 46) = w5 at *
            obtain ⟨eb, heb⟩ : ∃ b, b = wr.heap.size := ⟨_, rfl⟩
            rw [← heb] at VN ⊢
            have LEB : Hid (w4.heap.size ≤ eb) := hide (by rw [heb]; exact D.out.bel.size)
            clear heb z0 z1 z2 BN D
            have QZ : Hid (w5.heap[bz]? = some (.cells #[.slice aP c.P.length cP, .int .i64 c.M, .int .i64 c.A, .slice aC c.C.length cC, .slice (some ⟨bF, oF, none⟩) c.F.length cF, .int .i64 c.mn, .slice aB N cB] 27 (0, 0))) := hide ((DN.out.bel.block bz (lt_of_blk HQ.out)).trans HQ.out)
            have D5 := hide (DN.out.keep (show Below w5.heap.size w5 w5.drew from bel_drawn (Below.refl _ _)))
            refine wp_region_T (S := fun wz => wz.heap[eb]? = some (.cells #[.int .i64 (lo : Nat), .int .i64 pa, .slice aL nl cL] 46 (0, 0)) ∧ wz.heap[bz]? = some (.cells #[.slice aP c.P.length cP, .int .i64 c.M, .int .i64 c.A, .slice aC c.C.length cC, .slice (some ⟨bF, oF, none⟩) c.F.length cF, .int .i64 c.mn, .slice aB N cB] 27 (0, 0))) (fun _ => true) mixed ⟨VN.out, QZ.out⟩ (fun hH => ?_)
            clear VN QZ DN
            generalize w5.drew = wd at *
            have x2 := blk_cell D5.out.at_ 2 _ rfl
            have x3 := blk_cell D5.out.at_ 3 _ rfl
            have f2 := blk_frz D5.out.at_ 2
            have f3 := blk_frz D5.out.at_ 3
            have NEG := hide (show eb ≠ g from fun e => by have h1 := D5.out.at_; rw [← e, hH.1] at h1; injection h1 with h1; injection h1 with _ h2 _; exact absurd h2 (by decide))
            have NZG := hide (show bz ≠ g from fun e => by have h1 := D5.out.at_; rw [← e, hH.2] at h1; injection h1 with h1; injection h1 with _ h2 _; exact absurd h2 (by decide))
            refine Tm 0 ?_
            simp only [Act.put, SA]
            refine Tm 1 ?_
            simp only [Act.put, SA]
            refine Tm 2 ?_
            simp only [Act.put, SA]
            refine Tl 3 (v := ?_) ?_ hH ?_
            rotate_left 1
            · (intro w hSw; have u0 := blk_cell hSw.1 0 _ rfl; clear hSw; go_simp <;> with_reducible rfl)
            simp only [Act.put, SA]
            refine Tm 4 ?_
            simp only [Act.put, SA]
            refine Tl 5 (v := ?_) ?_ hH ?_
            rotate_left 1
            · (intro w hSw; have u6 := blk_cell hSw.2 6 _ rfl; clear hSw; go_simp <;> with_reducible rfl)
            simp only [Act.put, SA]
            refine Tm 6 ?_
            simp only [Act.put, SA]
            refine Tm 7 ?_
            simp only [Act.put, SA]
            refine Tm 8 ?_
            simp only [Act.put, SA]
            refine Tr 9 (fun K1 hK1 => ?_)
            go_simp
            have T3 := hide (set1 D5.out.at_ 2 (.int .i64 (lo : Nat))).2
            have K3 := hide (set1 D5.out.at_ 2 (.int .i64 (lo : Nat))).1
            refine hK1.out _ _ (fun _ => ⟨(T3.out.blk _ (lt_of_blk hH.1) NEG.out).trans hH.1, (T3.out.blk _ (lt_of_blk hH.2) NZG.out).trans hH.2⟩) (fun hH2f => ?_)
            have hH2 := hH2f rfl
            clear hH2f hK1 K1
            have x3' := blk_cell K3.out 3 _ rfl
            have f3' := blk_frz K3.out 3
            refine Tm 10 ?_
            simp only [Act.put, SA]
            refine Tm 11 ?_
            simp only [Act.put, SA]
            refine Tr 12 (fun K1 hK1 => ?_)
            go_simp
            have T4 := hide (set1 K3.out 3 (.int .i64 (N : Nat))).2
            have K4 := hide (set1 K3.out 3 (.int .i64 (N : Nat))).1
            have EB4 := hide ((T4.out.blk _ (lt_of_blk hH2.1) NEG.out).trans hH2.1)
            refine hK1.out _ _ (fun _ => ⟨EB4.out, (T4.out.blk _ (lt_of_blk hH2.2) NZG.out).trans hH2.2⟩) (fun _ => ?_)
            clear hK1 K1 hH hH2 x3' f3'
            have D6 := hide (D5.out.word (T3.out.trans T4.out) K4.out).1
            clear x2 x3 f2 f3 T3 T4 K3 K4 D5 NEG NZG
            refine T_done (by kernel_rfl) ?_ _
            generalize (wd.setCell ⟨g, 2, none⟩ (.int .i64 (lo : Nat))).setCell ⟨g, 3, none⟩ (.int .i64 (N : Nat)) = w6 at *
            have e4 := (D6.out.bel.block bz (lt_of_blk HQ.out)).trans HQ.out
            have u4 := blk_cell e4 4 _ rfl
            have hw1 : wrap64 ((k : Int) + 1) = ((k + 1 : Nat) : Int) := by unfold wrap64; have := FL.out; omega
            have HW1 := hide hw1
            go_upto_if 50 with fail
            go_cut [] from 30 to 213 (fun wc => Hid (Dz w4 wc g bM bS (lo : Nat) (hi : Nat) N vs ⟨d.met, d.out, true⟩ ∧ wc.heap[eb]? = some (EOb (.int .i64 (lo : Nat)) (.int .i64 pa) (.slice aL nl cL))))
            case first =>
              by_cases hnx : k + 1 < c.F.length
              · have hnx' : ((k + 1 : Nat) : Int) < (c.F.length : Int) := by omega
                have v0 := HNX.out hnx w6 D6.out.bel
                have x10 := blk_cell D6.out.at_ 3 _ rfl
                have f10 := blk_frz D6.out.at_ 3
                have E5 := hide (set1 D6.out.at_ 3 (.int .i64 (hi : Nat)))
                go_wp2_with fail
                go_meet
                have ok' := OK.out
                have D7 := (D6.out.word E5.out.2 E5.out.1).1
                rw [ok'] at D7
                exact hide ⟨D7, (E5.out.2.blk _ (lt_of_blk EB4.out) (fun e => by have h1 := D6.out.at_; rw [← e, EB4.out] at h1; injection h1 with h1; injection h1 with _ h2 _; exact absurd h2 (by decide))).trans EB4.out⟩
              · have hnx' : ¬ ((k + 1 : Nat) : Int) < (c.F.length : Int) := by omega
                go_wp2_with fail
                go_meet
                have D7 := D6.out
                rw [OK.out, HLAST.out hnx] at D7
                exact hide ⟨D7, EB4.out⟩
            case rest =>
              as_aux_lemma =>
                have D7 := hide hcut.out.1
                have E7 := hide hcut.out.2
                clear hcut e4 u4 hw1 D6 EB4
                have BN := hide (bel_new wc (.cells #[] 3))
                have DE := hide (D7.out.keep BN.out)
                have OE : Hid ((wc.alloc (.cells #[] 3)).ownsRow 0 3 1 (.slice (some ⟨wc.heap.size, 0, none⟩) 0 0) ([] : List Int).length (nts [])) := hide ⟨rfl, .inr ⟨wc.heap.size, 0, _, rfl, Nat.zero_le _, Go.Deep.blk_alloc_new _ _, Nat.le_refl _, Nat.zero_le _, rfl, rfl⟩⟩
                have EE := hide ((BN.out.block eb (lt_of_blk E7.out)).trans E7.out)
                have CM := hide (rcome_any DE.out (by omega) (by have := LH.out; omega) NB.out (lo : Nat) OE.out (fun z hz => by cases hz) (Nat.zero_le _))
                have BD0 : Hid (badD (lo : Nat) (hi : Nat) ⟨d.met, d.out, true⟩ (lo : Nat) [] = false) := hide (by rw [bad_in (by omega) (by have := LH.out; omega), UM.out lo (Nat.le_refl _) LH.out.1]; rfl)
                have u0 := blk_cell EE.out 0 _ rfl
                have u0' := blk_cell E7.out 0 _ rfl
                go_wp2_with fail
                refine CM.out.mono ?_
                rintro e w8 ⟨rfl, vs8, d8, c8⟩
                have FR : Hid (freshD (lo : Nat) (hi : Nat) ⟨d.met, d.out, true⟩ (lo : Nat) [] = true) := hide (by unfold freshD; rw [BD0.out, if_neg (by decide)]; show (!d.met.getD ((lo : Int)).toNat false) = true; rw [Int.toNat_natCast, UM.out lo (Nat.le_refl _) LH.out.1]; rfl)
                have CE : comeD (lo : Nat) (hi : Nat) ⟨d.met, d.out, true⟩ (lo : Nat) [] = ⟨d.met.set lo true, d.out.set lo [], true⟩ := by unfold comeD; rw [BD0.out, if_neg (by decide), Int.toNat_natCast]
                rw [CE] at d8
                rw [FR.out]
                have NF8 := hide (show ¬ (Fz g bM bS) eb from fun e => by
                  obtain ⟨_, _, c1, q1⟩ := own_type DE.out.mt (k := bM) rfl
                  obtain ⟨_, _, c2, q2⟩ := own_type DE.out.st (k := bS) rfl
                  have q0 := DE.out.at_
                  have he := EE.out
                  rcases e with e | e | e
                  · rw [e, q0] at he; injection he with he; injection he with _ h2 _; exact absurd h2 (by decide)
                  · rw [e, q1] at he; injection he with he; injection he with _ h2 _; exact absurd h2 (by decide)
                  · rw [e, q2] at he; injection he with he; injection he with _ h2 _; exact absurd h2 (by decide))
                have E8 := hide ((c8.blk eb (lt_of_blk EE.out) NF8.out).trans EE.out)
                have D8 := hide d8
                clear d8 c8 CE FR BD0 CM OE DE BN EE NF8 D7 E7 u0 u0'
                have hmk : (Instr.makeMap 57 none).run Tryd.prog w8 = .ok (.map (some w8.heap.size)) (w8.alloc (.map #[] 0)) := by rfl
                have BM := hide (bel_new w8 (.map #[] 0))
                have W9 : Hid (Wz w4 (w8.alloc (.map #[] 0)) g bM bS eb w8.heap.size (lo : Nat) (hi : Nat) N (EOb (.int .i64 (lo : Nat)) (.int .i64 pa) (.slice aL nl cL)) ⟨d.met.set lo true, d.out.set lo [], true⟩ (fun _ => false)) := hide ⟨⟨_, D8.out.keep BM.out⟩, (BM.out.block eb (lt_of_blk E8.out)).trans E8.out, by have e : cardD N (fun _ => false) = 0 := (by unfold cardD; simp); rw [e]; exact BMap.made w8⟩
                have LBM : Hid (w4.heap.size ≤ w8.heap.size) := hide D8.out.bel.size
                have DML : Hid (d.met.length = N ∧ d.out.length = N) := hide ⟨by have h9 := D8.out.ml; simpa using h9, by have h9 := D8.out.sl; simpa using h9⟩
                have I9 : Hid (Rnd (sucD c LL) lo hi N d.met d.out ((d.met.set lo true).count false + 1) (fun _ => false) hi ⟨d.met.set lo true, d.out.set lo [], true⟩ true) := hide (by
    have h9 := Inv.start (S := (sucD c LL)) LH.out.1 LH.out.2 DML.out.1 DML.out.2 UM.out
    exact ⟨by simp [DML.out.1], by simp [DML.out.2], fun e => (by cases e), fun _ => ⟨h9.wk (fun i hi => (by cases hi)), fun e => (by cases e), fun _ => Nat.lt_succ_self _, Nat.le_succ _⟩⟩)
                clear D8 E8
                go_wp2_with fail
                clear hmk BM
                generalize w8.alloc (.map #[] 0) = w9 at *
                obtain ⟨bm, hbm⟩ : ∃ b, b = w8.heap.size := ⟨_, rfl⟩
                rw [← hbm] at W9 LBM ⊢
                clear hbm
                go_loopg [7] (muD ⟨d.met.set lo true, d.out.set lo [], true⟩ true) (fun gh x7 wr2 => ∃ d2 dn ch cnt, gh = muD d2 ch ∧ x7 = .bool ch ∧ Hid (Wz w4 wr2 g bM bS eb bm (lo : Nat) (hi : Nat) N (EOb (.int .i64 (lo : Nat)) (.int .i64 pa) (.slice aL nl cL)) d2 dn ∧ Rnd (sucD c LL) lo hi N d.met d.out cnt dn hi d2 ch))
                case atStart => exact ⟨_, _, _, _, rfl, rfl, hide ⟨W9.out, I9.out⟩⟩
                case round =>
                  as_aux_lemma =>
                    obtain ⟨d2, dn, ch, cnt, rfl, rfl, HI2⟩ := hrel
                    have W2 := hide HI2.out.1
                    have RR2 := hide HI2.out.2
                    clear HI2 I9 W9
                    obtain ⟨vs2, D2o⟩ := W2.out.dz
                    have D2 := hide D2o
                    clear D2o
                    have y4 := blk_cell D2.out.at_ 4 _ rfl
                    cases hok2 : d2.ok with
                    | false =>
                      rw [hok2] at y4
                      have NR := hide (FS.out.1 (RR2.out.no hok2))
                      have RM2 : Hid (readM c = none) := hide (by rw [RM.out, NR.out]; rfl)
                      have BB := hide (B4.out.trans (D2.out.bel.mono B4.out.size))
                      clear hok2 D2 W2 RR2 NR
                      cases ch with
                      | false =>
                        go_wp2_with fail
                        go_ret2
                        exact RstP.no RM2.out BB.out
                      | true =>
                        go_wp2_with fail
                        go_ret2
                        exact RstP.no RM2.out BB.out
                    | true =>
                      rw [hok2] at y4
                      have OK2 := hide hok2
                      clear hok2
                      cases ch with
                      | false =>
                        have FN := hide (FS.out.2 _ _ (RR2.out.fin OK2.out))
                        have FIN := hide (RR2.out.fin OK2.out)
                        have Z : Hid (∃ lo hi vs d, Dz w4 wr g bM bS lo hi N vs d ∧ d.ok = true ∧ funcsM c (c.F.drop (k + 1)) ⟨d.met, d.out, []⟩ = o ∧ (k + 1 < c.F.length → ∀ i : Nat, (c.F.getD (k + 1) zF).st ≤ i → d.met.getD i false = false)) := hide ⟨_, _, _, _, D2.out, OK2.out, FN.out.symm, fun hn i hi' => by
        have e : (c.F.getD (k + 1) zF).st = hi := by have h9 := HHI.out; rw [if_pos hn] at h9; exact h9
        rw [e] at hi'
        have h8 := FIN.out.os i (by omega)
        rw [h8]
        exact UH.out i (by omega)⟩
                        have MS : Hid (c.F.length - (k + 1) < c.F.length - k) := hide (by have := HLT.out; omega)
                        have KL := hide HLT.out
                        clear W2 RR2 D2 FN FIN
                        have hw1 := HW1.out
                        go_wp2_with fail
                        go_roundg (c.F.length - (k + 1))
                        case measure => exact MS.out
                        case rel => exact ⟨k + 1, rfl, KL.out, by first | rfl | rw [HW1.out], Z⟩
                      | true =>
                        as_aux_lemma =>
                          have y2 := blk_cell D2.out.at_ 2 _ rfl
                          have I3 : Hid (Wz w4 wr g bM bS eb bm (lo : Nat) (hi : Nat) N (EOb (.int .i64 (lo : Nat)) (.int .i64 pa) (.slice aL nl cL)) d2 dn ∧ Rnd (sucD c LL) lo hi N d.met d.out (d2.met.count false) dn lo d2 false) := hide ⟨W2.out, Rnd.begin (RR2.out.yes OK2.out).1 OK2.out⟩
                          have MU1 : Hid (muD d2 true = 2 * d2.met.count false + 2) := hide (by unfold muD; rw [if_pos OK2.out]; rfl)
                          clear W2 RR2 D2
                          go_wp2_with fail
                          clear y2 y4
                          go_loopg [7, 9] (hi - lo) (fun gh x7 x9 wr3 => ∃ at_ d3 dn3 ch3, gh = hi - at_ ∧ lo ≤ at_ ∧ at_ ≤ hi ∧ x7 = .bool ch3 ∧ x9 = .int .i64 (at_ : Nat) ∧ Hid (Wz w4 wr3 g bM bS eb bm (lo : Nat) (hi : Nat) N (EOb (.int .i64 (lo : Nat)) (.int .i64 pa) (.slice aL nl cL)) d3 dn3 ∧ Rnd (sucD c LL) lo hi N d.met d.out (d2.met.count false) dn3 at_ d3 ch3))
                          case atStart => exact ⟨lo, _, _, _, rfl, Nat.le_refl _, Nat.le_of_lt LH.out.1, rfl, rfl, I3⟩
                          case round =>
                            as_aux_lemma =>
                              obtain ⟨at_, d3, dn3, ch3, rfl, hla, hah, rfl, rfl, HI3⟩ := hrel
                              have W3 := hide HI3.out.1
                              have RR3 := hide HI3.out.2
                              clear HI3 I3
                              obtain ⟨vs3, D3o⟩ := W3.out.dz
                              have D3 := hide D3o
                              clear D3o
                              have HLA := hide (And.intro hla hah)
                              have y4 := blk_cell D3.out.at_ 4 _ rfl
                              have y3 := blk_cell D3.out.at_ 3 _ rfl
                              have EX : Hid (∀ (_ : at_ = hi ∨ d3.ok = false), muD d3 ch3 < muD d2 true ∧ Rnd (sucD c LL) lo hi N d.met d.out (d2.met.count false) dn3 hi d3 ch3) := hide (fun e => by
    have r3 : Rnd (sucD c LL) lo hi N d.met d.out (d2.met.count false) dn3 hi d3 ch3 := by
      rcases e with e | e
      · have h9 := RR3.out; rw [e] at h9; exact h9
      · exact RR3.out.off e
    refine ⟨?_, r3⟩
    rw [MU1.out]
    unfold muD
    cases hok : d3.ok with
    | false => simp
    | true =>
      obtain ⟨_, _, h1, h2⟩ := r3.yes hok
      cases hch : ch3 with
      | true => have := h1 hch; simp; omega
      | false => simp; omega)
                              by_cases hat : at_ < hi
                              rotate_left 1
                              · have hge : (hi : Int) ≤ (at_ : Int) := by omega
                                have X := hide (EX.out (.inl (by omega)))
                                clear EX RR3 D3
                                go_wp2_with fail
                                go_roundg (muD d3 ch3)
                                case measure => exact X.out.1
                                case rel => exact ⟨d3, dn3, ch3, _, rfl, rfl, hide ⟨W3.out, X.out.2⟩⟩
                              have hat' : (at_ : Int) < (hi : Int) := by omega
                              cases hok3 : d3.ok with
                              | false =>
                                rw [hok3] at y4
                                have X := hide (EX.out (.inr hok3))
                                clear EX RR3 D3 hok3
                                go_wp2_with fail
                                go_roundg (muD d3 ch3)
                                case measure => exact X.out.1
                                case rel => exact ⟨d3, dn3, ch3, _, rfl, rfl, hide ⟨W3.out, X.out.2⟩⟩
                              | true =>
                                rw [hok3] at y4
                                have OK3 := hide hok3
                                have HAT := hide hat
                                have MS3 : Hid (hi - (at_ + 1) < hi - at_) := hide (by omega)
                                have hw2 : wrap64 ((at_ : Int) + 1) = ((at_ + 1 : Nat) : Int) := by unfold wrap64; have := NB.out; have := LH.out; omega
                                have HW2 := hide hw2
                                clear EX hok3
                                have hN3 : at_ < N := by have := LH.out; omega
                                have hN3' : (at_ : Int) < (N : Int) := by omega
                                have HN3 := hide hN3
                                have y1 := blk_cell D3.out.at_ 1 _ rfl
                                obtain ⟨zM, fM⟩ := D3.out.met hN3
                                cases hm : d3.met.getD at_ false with
                                | false =>
                                  rw [hm] at zM
                                  have X := hide (RR3.out.skip (fun _ => .inl hm))
                                  clear hm RR3 D3
                                  go_wp2_with fail
                                  go_roundg (hi - (at_ + 1))
                                  case measure => exact MS3.out
                                  case rel => exact ⟨at_ + 1, d3, dn3, ch3, rfl, by have := HLA.out; omega, HAT.out, rfl, by first | rfl | rw [HW2.out], hide ⟨W3.out, X.out⟩⟩
                                | true =>
                                  rw [hm] at zM
                                  have HM := hide hm
                                  clear hm
                                  have LK := W3.out.mp.look (wf_int (x := (at_ : Int)) (by omega) (by have := NB.out; omega))
                                  cases hd : dn3 (at_ : Int) with
                                  | true =>
                                    rw [hd] at LK
                                    have X := hide (RR3.out.skip (fun _ => .inr hd))
                                    clear hd RR3 D3
                                    go_wp2_with fail
                                    go_roundg (hi - (at_ + 1))
                                    case measure => exact MS3.out
                                    case rel => exact ⟨at_ + 1, d3, dn3, ch3, rfl, by have := HLA.out; omega, HAT.out, rfl, by first | rfl | rw [HW2.out], hide ⟨W3.out, X.out⟩⟩
                                  | false =>
                                    rw [hd] at LK
                                    obtain ⟨W5, UP, W5z, c5⟩ := W3.out.did HN3.out NB.out hd LBM.out
                                    have HD := hide hd
                                    have X5 := hide W5z
                                    have C5 := hide c5
                                    clear hd W5z c5 W3
                                    as_aux_lemma =>
                                      obtain ⟨vs5, D5o⟩ := X5.out.dz
                                      have D5 := hide D5o
                                      clear D5o D3 C5
                                      obtain ⟨aB', cB', eB', _, _, hI⟩ := HWB.out.B
                                      injection eB' with i1 i2 i3
                                      obtain ⟨b1, o1, e1, hb1, p0, p1, p2, p3, p4⟩ := hI at_ (by rw [← HN.out]; exact HN3.out)
                                      rw [e1] at i1
                                      subst i1
                                      clear e1 i2 i3 hI
                                      have e5 := (D5.out.bel.block bz (lt_of_blk HQ.out)).trans HQ.out
                                      have v6 : W5.cell? ⟨bz, 6, none⟩ = some (.slice (some ⟨b1, o1, none⟩) N cB) := blk_cell e5 6 _ rfl
                                      have r0 := (D5.out.bel.cell (p := ⟨b1, o1 + at_ * 5, none⟩) hb1).trans p0
                                      have r1 := (D5.out.bel.cell (p := ⟨b1, o1 + at_ * 5 + 1, none⟩) hb1).trans p1
                                      have r2 := (D5.out.bel.cell (p := ⟨b1, o1 + at_ * 5 + 2, none⟩) hb1).trans p2
                                      have r3 := (D5.out.bel.cell (p := ⟨b1, o1 + at_ * 5 + 3, none⟩) hb1).trans p3
                                      have r4 := (D5.out.bel.cell (p := ⟨b1, o1 + at_ * 5 + 4, none⟩) hb1).trans p4
                                      obtain ⟨X, hX⟩ : ∃ q, q = c.B.getD at_ zI := ⟨_, rfl⟩
                                      rw [← hX] at r0 r1 r2 r3 r4
                                      have HXE := hide hX
                                      have HXI : Hid (insB c X = true) := hide (by
    rw [hX]
    have hl : at_ < c.B.length := (by rw [← HN.out]; exact HN3.out)
    rw [List.getD_eq_getElem?_getD, List.getElem?_eq_getElem hl]
    exact body_of HF.out _ (List.getElem_mem hl))
                                      clear hX p0 p1 p2 p3 p4 e5 hb1
                                      have BN6 := hide (bel_new W5 (.cells #[.int .i64 X.op, .int .i64 X.a, .int .i64 X.b, .int .u64 X.bits, .int .i64 X.at_] 44))
                                      have VN6 := hide (Go.Deep.blk_alloc_new W5 (.cells #[.int .i64 X.op, .int .i64 X.a, .int .i64 X.b, .int .u64 X.bits, .int .i64 X.at_] 44))
                                      have X6 := hide (X5.out.keep BN6.out)
                                      go_upto_region 20 with fail
                                      clear LK UP y1 y3 y4 zM fM v6 r0 r1 r2 r3 r4 D5 X5
                                      generalize W5.alloc (.cells #[.int .i64 X.op, .int .i64 X.a, .int .i64 X.b, .int .u64 X.bits, .int .i64 X.at_] 44) = w6 at *
                                      obtain ⟨xb, hxb⟩ : ∃ b, b = W5.heap.size := ⟨_, rfl⟩
                                      rw [← hxb] at VN6 ⊢
                                      clear hxb BN6
                                      have X7 := hide (X6.out.keep (show Below w6.heap.size w6 w6.drew from bel_drawn (Below.refl _ _)))
                                      have VN7 : Hid (w6.drew.heap[xb]? = some (.cells #[.int .i64 X.op, .int .i64 X.a, .int .i64 X.b, .int .u64 X.bits, .int .i64 X.at_] 44 (0, 0))) := hide VN6.out
                                      clear X6 VN6
                                      obtain ⟨vs7, D7o⟩ := X7.out.dz
                                      have D7 := hide D7o
                                      clear D7o
                                      obtain ⟨v0, hv0, yS, fS, o0, s0, l0⟩ := D7.out.stk HN3.out
                                      have RCH := hide ((RR3.out.yes OK3.out).1.rc at_ HLA.out.1 HAT.out HM.out)
                                      obtain ⟨s, hs⟩ : ∃ q, q = d3.out.getD at_ [] := ⟨_, rfl⟩
                                      have HS := hide hs
                                      rw [← hs] at o0 s0 l0 RCH
                                      clear hs
                                      have TYS := hide (rch_ty TT.out TL.out RCH.out)
                                      have ST : Hid (Calls Tryd.prog 17 #[.agg #[.slice aP c.P.length cP, .int .i64 c.M, .int .i64 c.A, .slice aC c.C.length cC, .slice (some ⟨bF, oF, none⟩) c.F.length cF, .int .i64 c.mn, .slice (some ⟨b1, o1, none⟩) N cB], .agg #[.int .i64 (lo : Nat), .int .i64 pa, .slice aL nl cL], .agg #[.int .i64 X.op, .int .i64 X.a, .int .i64 X.b, .int .u64 X.bits, .int .i64 X.at_], v0] w6.drew (StpP w6.drew v0 s (stepD c LL X s))) := hide (by
    have h9 := rstep_any (w := w6.drew) (f := c.F.getD k zF) (x := X) (vLo := .slice aL nl cL) (HWB.out.below' D7.out.bel) (by rw [← GLL.out]; exact SLW.out.bel D7.out.bel) s0 HXI.out l0 TYS.out.2 TT.out (by rw [← GLL.out]; exact TL.out)
    rw [GST.out, ← GPA.out, ← GLL.out] at h9
    exact h9)
                                      have q0 : w6.drew.cell? ⟨g, 0, none⟩ = some (.slice (some ⟨bS, 0, none⟩) N N) := blk_cell D7.out.at_ 0 _ rfl
                                      have O0 := hide (And.intro o0 l0)
                                      have SB6 : w6.drew.heap[bz]? = some (.cells #[.slice aP c.P.length cP, .int .i64 c.M, .int .i64 c.A, .slice aC c.C.length cC, .slice (some ⟨bF, oF, none⟩) c.F.length cF, .int .i64 c.mn, .slice (some ⟨b1, o1, none⟩) N cB] 27 (0, 0)) := (D7.out.bel.block bz (lt_of_blk HQ.out)).trans HQ.out
                                      refine wp_region_T (S := fun wz => wz.heap[bz]? = some (.cells #[.slice aP c.P.length cP, .int .i64 c.M, .int .i64 c.A, .slice aC c.C.length cC, .slice (some ⟨bF, oF, none⟩) c.F.length cF, .int .i64 c.mn, .slice (some ⟨b1, o1, none⟩) N cB] 27 (0, 0)) ∧ wz.heap[eb]? = some (EOb (.int .i64 (lo : Nat)) (.int .i64 pa) (.slice aL nl cL)) ∧ wz.heap[xb]? = some (.cells #[.int .i64 X.op, .int .i64 X.a, .int .i64 X.b, .int .u64 X.bits, .int .i64 X.at_] 44 (0, 0)) ∧ wz.cell? ⟨g, 0, none⟩ = some (.slice (some ⟨bS, 0, none⟩) N N) ∧ wz.cell? ⟨bS, at_, none⟩ = some v0) (fun _ => true) mixed ⟨SB6, X7.out.eo, VN7.out, q0, yS⟩ (fun hH => ?_)
                                      clear SB6 q0 yS fS s0 o0 l0 hv0
                                      generalize w6.drew = wd at *
                                      refine Tl 0 (v := ?_) ?_ hH ?_
                                      rotate_left 1
                                      · (intro w hSw; obtain ⟨l0, l1, l2, l3, l4, l5, l6⟩ := cells7 hSw.1; clear hSw; go_simp <;> with_reducible rfl)
                                      simp only [Act.put, SA]
                                      refine Tl 1 (v := ?_) ?_ hH ?_
                                      rotate_left 1
                                      · (intro w hSw; have u0 := blk_cell hSw.2.1 0 _ rfl; have u1 := blk_cell hSw.2.1 1 _ rfl; have u2 := blk_cell hSw.2.1 2 _ rfl; clear hSw; go_simp <;> with_reducible rfl)
                                      simp only [Act.put, SA]
                                      refine Tl 2 (v := ?_) ?_ hH ?_
                                      rotate_left 1
                                      · (intro w hSw; have u0 := blk_cell hSw.2.2.1 0 _ rfl; have u1 := blk_cell hSw.2.2.1 1 _ rfl; have u2 := blk_cell hSw.2.2.1 2 _ rfl; have u3 := blk_cell hSw.2.2.1 3 _ rfl; have u4 := blk_cell hSw.2.2.1 4 _ rfl; clear hSw; go_simp <;> with_reducible rfl)
                                      simp only [Act.put, SA]
                                      refine Tm 3 ?_
                                      simp only [Act.put, SA]
                                      refine Tm 4 ?_
                                      simp only [Act.put, SA]
                                      refine Tm 5 ?_
                                      simp only [Act.put, SA]
                                      refine Tl 6 (v := ?_) ?_ hH ?_
                                      rotate_left 1
                                      · (intro w hSw; have q := hSw.2.2.2.1; clear hSw; go_simp <;> with_reducible rfl)
                                      simp only [Act.put, SA]
                                      refine Tm 7 ?_
                                      simp only [Act.put, SA]
                                      refine Tm 8 ?_
                                      simp only [Act.put, SA]
                                      refine Tl 9 (v := ?_) ?_ hH ?_
                                      rotate_left 1
                                      · (intro w hSw; have q := hSw.2.2.2.2; clear hSw; go_simp <;> with_reducible rfl)
                                      simp only [Act.put, SA]
                                      refine Tr 10 (fun K1 hK1 => ?_)
                                      go_simp
                                      refine ST.out.mono ?_
                                      intro e w7 hp
                                      obtain ⟨v', rfl, b7, hp2⟩ := hp.form
                                      clear hp
                                      have HK : Hid (w7.heap[bz]? = some (.cells #[.slice aP c.P.length cP, .int .i64 c.M, .int .i64 c.A, .slice aC c.C.length cC, .slice (some ⟨bF, oF, none⟩) c.F.length cF, .int .i64 c.mn, .slice (some ⟨b1, o1, none⟩) N cB] 27 (0, 0)) ∧ w7.heap[eb]? = some (EOb (.int .i64 (lo : Nat)) (.int .i64 pa) (.slice aL nl cL)) ∧ w7.heap[xb]? = some (.cells #[.int .i64 X.op, .int .i64 X.a, .int .i64 X.b, .int .u64 X.bits, .int .i64 X.at_] 44 (0, 0)) ∧ w7.cell? ⟨g, 0, none⟩ = some (.slice (some ⟨bS, 0, none⟩) N N) ∧ w7.cell? ⟨bS, at_, none⟩ = some v0) := hide ⟨(b7.block bz (lt_of_blk hH.1)).trans hH.1, (b7.block eb (lt_of_blk hH.2.1)).trans hH.2.1, (b7.block xb (lt_of_blk hH.2.2.1)).trans hH.2.2.1, (b7.cell (p := ⟨g, 0, none⟩) (lt_of_blk D7.out.at_)).trans hH.2.2.2.1, (b7.cell (p := ⟨bS, at_, none⟩) (own_type D7.out.st rfl).2.1).trans hH.2.2.2.2⟩
                                      refine hK1.out _ _ (fun _ => HK.out) (fun _ => ?_)
                                      clear hK1 K1 hH ST
                                      refine Tm 11 ?_
                                      simp only [Act.put, SA]
                                      refine Tm 12 ?_
                                      simp only [Act.put, SA]
                                      refine Tm 13 ?_
                                      simp only [Act.put, SA]
                                      refine Tm 14 ?_
                                      simp only [Act.put, SA]
                                      refine Tm 15 ?_
                                      simp only [Act.put, SA]
                                      refine T_done (by kernel_rfl) ?_ _
                                      have X8 := hide (X7.out.keep b7)
                                      have ROW := hide (fun t (ht : stepD c LL X s = some t) => (show w7.ownsRow 0 3 1 v' t.length (nts t) ∧ t.length ≤ 64 ∧ Fits t from by
    obtain ⟨h1, h2⟩ := hp2 t ht
    have h3 := (stepD_ty TT.out TL.out TYS.out.1 TYS.out.2 ht).2
    refine ⟨?_, h1, ty_fits h3⟩
    rcases h2 with ⟨rfl, rfl⟩ | h2
    · exact own_keep O0.out.1 (fun q hq => b7.block q (own_type O0.out.1 hq).2.1)
    · exact own_low h2 (Nat.zero_le _)))
                                      have OW0 := hide (own_keep O0.out.1 (fun q hq => b7.block q (own_type O0.out.1 hq).2.1))
                                      clear b7 hp2 X7 D7 O0
                                      obtain ⟨os, hos⟩ : ∃ q, q = stepD c LL X s := ⟨_, rfl⟩
                                      have HOS := hide hos
                                      rw [← hos] at ROW ⊢
                                      clear hos
                                      have t0 := blk_cell HK.out.2.2.1 0 _ rfl
                                      have t1 := blk_cell HK.out.2.2.1 1 _ rfl
                                      have t6 : w7.cell? ⟨bz, 6, none⟩ = some (.slice (some ⟨b1, o1, none⟩) N cB) := blk_cell HK.out.1 6 _ rfl
                                      have JA : Hid (12 ≤ X.op → X.op ≤ 14 → ∃ kt : Nat, X.a = kt ∧ kt < N ∧ w7.cell? ⟨b1, o1 + kt * 5, none⟩ = some (.int .i64 (c.B.getD kt zI).op)) := hide (fun h1 h2 => by
    obtain ⟨_, _, _, _, _, j12, j13, _⟩ := insB_at (show insB c ⟨X.op, X.a, X.b, X.bits, X.at_⟩ = true from HXI.out)
    obtain ⟨kt, hkt, hkl⟩ : ∃ kt : Nat, X.a = kt ∧ kt < c.B.length := by
      by_cases e : X.op = 12
      · exact in_of (j12 e)
      · exact in_of (j13 (by omega))
    obtain ⟨vs9, D9⟩ := X8.out.dz
    obtain ⟨aB', cB', eB', _, _, hI⟩ := HWB.out.B
    injection eB' with i1 i2 i3
    obtain ⟨b2, o2, e2, hb2, p0, _⟩ := hI kt hkl
    rw [e2] at i1
    cases i1
    exact ⟨kt, hkt, by rw [HN.out]; exact hkl, (D9.bel.cell (p := ⟨b1, o1 + kt * 5, none⟩) hb2).trans p0⟩)
                                      go_upto_region 21 with fail
                                      go_cut [153] from 78 to 207 (fun x wc => x = .bool (!os.isSome || (isJ X && !jmpD c at_)) ∧ wc = w7)
                                      case first =>
                                        as_aux_lemma =>
                                          cases os with
                                          | none =>
                                            clear ROW JA
                                            go_wp2_with fail
                                            go_meet
                                            exact ⟨congrArg Value.bool (by simp), rfl⟩
                                          | some tt =>
                                            by_cases h1 : 12 ≤ X.op
                                            rotate_left 1
                                            · have h1' : X.op < 12 := by omega
                                              have hj : isJ X = false := by unfold isJ; exact decide_eq_false (by omega)
                                              have h1d : decide (12 ≤ X.op) = false := decide_eq_false h1
                                              clear ROW JA
                                              go_wp2_with fail
                                              go_meet
                                              exact ⟨congrArg Value.bool (by rw [hj]; rfl), rfl⟩
                                            by_cases h2 : X.op ≤ 14
                                            rotate_left 1
                                            · have h2' : 14 < X.op := by omega
                                              have hj : isJ X = false := by unfold isJ; exact decide_eq_false (by omega)
                                              have h2d : decide (X.op ≤ 14) = false := decide_eq_false h2
                                              clear ROW JA
                                              go_wp2_with fail
                                              go_meet
                                              exact ⟨congrArg Value.bool (by rw [hj]; rfl), rfl⟩
                                            obtain ⟨kt, hkt, hkN, zk⟩ := JA.out h1 h2
                                            have hj : isJ X = true := by unfold isJ; exact decide_eq_true (by omega)
                                            have hJM : Hid (jmpD c at_ = (decide ((kt : Int) > at_) || decide ((c.B.getD kt zI).op = 24))) := hide (by unfold jmpD; rw [← HXE.out, hkt, Int.toNat_natCast])
                                            obtain ⟨ok, hok⟩ : ∃ q, q = (c.B.getD kt zI).op := ⟨_, rfl⟩
                                            rw [← hok] at zk hJM
                                            rw [hkt] at t1
                                            have hkN' : (kt : Int) < (N : Int) := by omega
                                            clear ROW JA hok
                                            by_cases h3 : kt ≤ at_
                                            rotate_left 1
                                            · have h3' : (at_ : Int) < (kt : Int) := by omega
                                              have h3d : decide ((kt : Int) ≤ (at_ : Int)) = false := decide_eq_false (by omega)
                                              go_wp2_with fail
                                              go_meet
                                              exact ⟨congrArg Value.bool (by rw [hj, hJM.out, decide_eq_true (show (kt : Int) > at_ by omega)]; rfl), rfl⟩
                                            have h3' : (kt : Int) ≤ (at_ : Int) := by omega
                                            by_cases h4 : ok = 24
                                            · subst h4
                                              go_wp2_with fail
                                              go_meet
                                              exact ⟨congrArg Value.bool (by rw [hj, hJM.out]; simp), rfl⟩
                                            · have hb : (ok != 24) = true := by simp [h4]
                                              go_wp2_with fail
                                              go_meet
                                              exact ⟨congrArg Value.bool (by rw [hj, hJM.out, decide_eq_false h4, decide_eq_false (show ¬ (kt : Int) > at_ by omega)]; rfl), rfl⟩
                                      case rest =>
                                      obtain ⟨rfl, rfl⟩ := hcut
                                      clear t6
                                      cases hbad : (!os.isSome || (isJ X && !jmpD c at_)) with
                                      | true =>
                                        have NR := hide (FS.out.1 (no_suc RCH.out (suc_none HXE.out (by rw [← HOS.out]; exact hbad))))
                                        have RM2 : Hid (readM c = none) := hide (by rw [RM.out, NR.out]; rfl)
                                        obtain ⟨vs9, D9⟩ := X8.out.dz
                                        have BB := hide (B4.out.trans (D9.bel.mono B4.out.size))
                                        clear hbad D9 X8 NR ROW JA
                                        go_wp2_with fail
                                        go_ret2
                                        exact RstP.no RM2.out BB.out
                                      | false =>
                                        obtain ⟨t, ht, hsuc⟩ := suc_some HXE.out (by rw [← HOS.out]; exact hbad)
                                        obtain ⟨rw0, rl, rf⟩ := ROW.out t (HOS.out.trans ht)
                                        have RW := hide rw0
                                        have RL := hide (And.intro rl rf)
                                        have SUC := hide hsuc
                                        have MB0 := hide (Mid.begin (RR3.out.yes OK3.out).1 OK3.out ch3)
                                        have DID := hide (fun d9 c9 (m : Mid (sucD c LL) lo hi N d.met d.out (fun i => dn3 (i : Int) = true) d3 ch3 _ d9 c9) => Rnd.did RR3.out OK3.out HLA.out.1 HAT.out HM.out (by rw [← HS.out]; exact hsuc) m (dn' := (up dn3 (at_ : Int) true)) (fun i => by unfold up; by_cases e : i = at_; (· rw [if_pos e, if_pos (by omega)]); (· rw [if_neg e, if_neg (by omega)])))
                                        clear ROW ht hsuc rw0 rl rf JA hbad
                                        by_cases j : X.op = 12
                                        · skip
                                          as_aux_lemma =>
                                            have XX := X8
                                            have MM := MB0
                                            have HKX := hide HK.out.2.2.1
                                            clear X8 MB0
                                            have EL : Hid (sucL X at_ s t = [] ++ [(X.a, t)]) := hide (by unfold sucL; simp [j])
                                            rw [j] at t0
                                            obtain ⟨vsx, Dx⟩ := XX.out.dz
                                            have CM := hide (rcome_any Dx (by omega) (by have := LH.out; omega) NB.out X.a RW.out RL.out.2 RL.out.1)
                                            have XB := hide (show ¬ Fz g bM bS xb from Dz.ne Dx HKX.out (by decide))
                                            have RWK := hide (fun (w' : World) (F' : Nat → Prop) (c' : Ch (Fz g bM bS) F' wc w') => Dx.ch c' RW.out)
                                            have MMn := hide (show Mid (sucD c LL) lo hi N d.met d.out (fun i => dn3 (i : Int) = true) d3 ch3 ([] ++ [(X.a, t)]) (comeD (lo : Nat) (hi : Nat) d3 X.a t) (freshD (lo : Nat) (hi : Nat) d3 X.a t || ch3) from Mid.come MM.out RCH.out SUC.out (p := (X.a, t)) (by rw [EL.out]; simp) RL.out.1)
                                            clear Dx
                                            go_wp2_with fail
                                            refine CM.out.mono ?_
                                            rintro e w8 ⟨rfl, vs9, d9, c9⟩
                                            have XXn := hide (XX.out.turn c9 d9)
                                            have HKXn := hide ((c9.blk xb (lt_of_blk HKX.out) XB.out).trans HKX.out)
                                            have RWn := hide (RWK.out _ _ c9)
                                            clear CM c9 d9 XB RWK RW HKX XX MM
                                            have RW := RWn
                                            have HKX := HKXn
                                            have XX := XXn
                                            have MM := MMn
                                            clear RWn HKXn XXn MMn
                                            generalize freshD (lo : Nat) (hi : Nat) d3 X.a t = fr at *
                                            generalize comeD (lo : Nat) (hi : Nat) d3 X.a t = dx at *
                                            have t0 := blk_cell HKX.out 0 _ rfl
                                            have t1 := blk_cell HKX.out 1 _ rfl
                                            rw [j] at t0
                                            cases fr with
                                            | true =>
                                              simp only [Bool.true_or] at MM
                                              have RN9 := hide (DID.out _ _ (by rw [EL.out]; exact MM.out))
                                              clear MM RW
                                              go_wp2_with fail
                                              go_roundg (hi - (at_ + 1))
                                              case measure => exact MS3.out
                                              case rel => exact ⟨at_ + 1, _, _, _, rfl, by have := HLA.out; omega, HAT.out, rfl, by first | rfl | rw [HW2.out], hide ⟨XX.out, RN9.out⟩⟩
                                            | false =>
                                              simp only [Bool.false_or] at MM
                                              have RN9 := hide (DID.out _ _ (by rw [EL.out]; exact MM.out))
                                              clear MM RW
                                              go_wp2_with fail
                                              go_roundg (hi - (at_ + 1))
                                              case measure => exact MS3.out
                                              case rel => exact ⟨at_ + 1, _, _, _, rfl, by have := HLA.out; omega, HAT.out, rfl, by first | rfl | rw [HW2.out], hide ⟨XX.out, RN9.out⟩⟩
                                        by_cases j : X.op = 13
                                        · skip
                                          as_aux_lemma =>
                                            have XX := X8
                                            have MM := MB0
                                            have HKX := hide HK.out.2.2.1
                                            clear X8 MB0
                                            have EL : Hid (sucL X at_ s t = [] ++ [(X.a, t)] ++ [(((at_ + 1 : Nat) : Int), t)]) := hide (by unfold sucL; simp [j])
                                            rw [j] at t0
                                            obtain ⟨vsx, Dx⟩ := XX.out.dz
                                            have CM := hide (rcome_any Dx (by omega) (by have := LH.out; omega) NB.out X.a RW.out RL.out.2 RL.out.1)
                                            have XB := hide (show ¬ Fz g bM bS xb from Dz.ne Dx HKX.out (by decide))
                                            have RWK := hide (fun (w' : World) (F' : Nat → Prop) (c' : Ch (Fz g bM bS) F' wc w') => Dx.ch c' RW.out)
                                            have MMn := hide (show Mid (sucD c LL) lo hi N d.met d.out (fun i => dn3 (i : Int) = true) d3 ch3 ([] ++ [(X.a, t)]) (comeD (lo : Nat) (hi : Nat) d3 X.a t) (freshD (lo : Nat) (hi : Nat) d3 X.a t || ch3) from Mid.come MM.out RCH.out SUC.out (p := (X.a, t)) (by rw [EL.out]; simp) RL.out.1)
                                            clear Dx
                                            go_wp2_with fail
                                            refine CM.out.mono ?_
                                            rintro e w8 ⟨rfl, vs9, d9, c9⟩
                                            have XXn := hide (XX.out.turn c9 d9)
                                            have HKXn := hide ((c9.blk xb (lt_of_blk HKX.out) XB.out).trans HKX.out)
                                            have RWn := hide (RWK.out _ _ c9)
                                            clear CM c9 d9 XB RWK RW HKX XX MM
                                            have RW := RWn
                                            have HKX := HKXn
                                            have XX := XXn
                                            have MM := MMn
                                            clear RWn HKXn XXn MMn
                                            generalize freshD (lo : Nat) (hi : Nat) d3 X.a t = fr at *
                                            generalize comeD (lo : Nat) (hi : Nat) d3 X.a t = dx at *
                                            clear t0 t1
                                            have t0 := blk_cell HKX.out 0 _ rfl
                                            have t1 := blk_cell HKX.out 1 _ rfl
                                            rw [j] at t0
                                            cases fr with
                                            | true =>
                                              simp only [Bool.true_or] at MM
                                              obtain ⟨vsx, Dx⟩ := XX.out.dz
                                              have CM := hide (rcome_any Dx (by omega) (by have := LH.out; omega) NB.out ((at_ + 1 : Nat) : Int) RW.out RL.out.2 RL.out.1)
                                              have XB := hide (show ¬ Fz g bM bS xb from Dz.ne Dx HKX.out (by decide))
                                              have RWK := hide (fun (w' : World) (F' : Nat → Prop) (c' : Ch (Fz g bM bS) F' w8 w') => Dx.ch c' RW.out)
                                              have MMn := hide (show Mid (sucD c LL) lo hi N d.met d.out (fun i => dn3 (i : Int) = true) d3 ch3 ([] ++ [(X.a, t)] ++ [(((at_ + 1 : Nat) : Int), t)]) (comeD (lo : Nat) (hi : Nat) dx ((at_ + 1 : Nat) : Int) t) (freshD (lo : Nat) (hi : Nat) dx ((at_ + 1 : Nat) : Int) t || true) from Mid.come MM.out RCH.out SUC.out (p := (((at_ + 1 : Nat) : Int), t)) (by rw [EL.out]; simp) RL.out.1)
                                              clear Dx
                                              have hw2 := HW2.out
                                              go_wp2_with fail
                                              refine CM.out.mono ?_
                                              rintro e wy ⟨rfl, vs9, d9, c9⟩
                                              have XXn := hide (XX.out.turn c9 d9)
                                              have HKXn := hide ((c9.blk xb (lt_of_blk HKX.out) XB.out).trans HKX.out)
                                              have RWn := hide (RWK.out _ _ c9)
                                              clear CM c9 d9 XB RWK RW HKX XX MM
                                              have RW := RWn
                                              have HKX := HKXn
                                              have XX := XXn
                                              have MM := MMn
                                              clear RWn HKXn XXn MMn
                                              generalize freshD (lo : Nat) (hi : Nat) dx ((at_ + 1 : Nat) : Int) t = fr at *
                                              generalize comeD (lo : Nat) (hi : Nat) dx ((at_ + 1 : Nat) : Int) t = dy at *
                                              cases fr with
                                              | true =>
                                                simp only [Bool.true_or] at MM
                                                have RN9 := hide (DID.out _ _ (by rw [EL.out]; exact MM.out))
                                                clear MM RW
                                                go_wp2_with fail
                                                go_roundg (hi - (at_ + 1))
                                                case measure => exact MS3.out
                                                case rel => exact ⟨at_ + 1, _, _, _, rfl, by have := HLA.out; omega, HAT.out, rfl, by first | rfl | rw [HW2.out], hide ⟨XX.out, RN9.out⟩⟩
                                              | false =>
                                                simp only [Bool.false_or] at MM
                                                have RN9 := hide (DID.out _ _ (by rw [EL.out]; exact MM.out))
                                                clear MM RW
                                                go_wp2_with fail
                                                go_roundg (hi - (at_ + 1))
                                                case measure => exact MS3.out
                                                case rel => exact ⟨at_ + 1, _, _, _, rfl, by have := HLA.out; omega, HAT.out, rfl, by first | rfl | rw [HW2.out], hide ⟨XX.out, RN9.out⟩⟩
                                            | false =>
                                              simp only [Bool.false_or] at MM
                                              obtain ⟨vsx, Dx⟩ := XX.out.dz
                                              have CM := hide (rcome_any Dx (by omega) (by have := LH.out; omega) NB.out ((at_ + 1 : Nat) : Int) RW.out RL.out.2 RL.out.1)
                                              have XB := hide (show ¬ Fz g bM bS xb from Dz.ne Dx HKX.out (by decide))
                                              have RWK := hide (fun (w' : World) (F' : Nat → Prop) (c' : Ch (Fz g bM bS) F' w8 w') => Dx.ch c' RW.out)
                                              have MMn := hide (show Mid (sucD c LL) lo hi N d.met d.out (fun i => dn3 (i : Int) = true) d3 ch3 ([] ++ [(X.a, t)] ++ [(((at_ + 1 : Nat) : Int), t)]) (comeD (lo : Nat) (hi : Nat) dx ((at_ + 1 : Nat) : Int) t) (freshD (lo : Nat) (hi : Nat) dx ((at_ + 1 : Nat) : Int) t || ch3) from Mid.come MM.out RCH.out SUC.out (p := (((at_ + 1 : Nat) : Int), t)) (by rw [EL.out]; simp) RL.out.1)
                                              clear Dx
                                              have hw2 := HW2.out
                                              go_wp2_with fail
                                              refine CM.out.mono ?_
                                              rintro e wy ⟨rfl, vs9, d9, c9⟩
                                              have XXn := hide (XX.out.turn c9 d9)
                                              have HKXn := hide ((c9.blk xb (lt_of_blk HKX.out) XB.out).trans HKX.out)
                                              have RWn := hide (RWK.out _ _ c9)
                                              clear CM c9 d9 XB RWK RW HKX XX MM
                                              have RW := RWn
                                              have HKX := HKXn
                                              have XX := XXn
                                              have MM := MMn
                                              clear RWn HKXn XXn MMn
                                              generalize freshD (lo : Nat) (hi : Nat) dx ((at_ + 1 : Nat) : Int) t = fr at *
                                              generalize comeD (lo : Nat) (hi : Nat) dx ((at_ + 1 : Nat) : Int) t = dy at *
                                              cases fr with
                                              | true =>
                                                simp only [Bool.true_or] at MM
                                                have RN9 := hide (DID.out _ _ (by rw [EL.out]; exact MM.out))
                                                clear MM RW
                                                go_wp2_with fail
                                                go_roundg (hi - (at_ + 1))
                                                case measure => exact MS3.out
                                                case rel => exact ⟨at_ + 1, _, _, _, rfl, by have := HLA.out; omega, HAT.out, rfl, by first | rfl | rw [HW2.out], hide ⟨XX.out, RN9.out⟩⟩
                                              | false =>
                                                simp only [Bool.false_or] at MM
                                                have RN9 := hide (DID.out _ _ (by rw [EL.out]; exact MM.out))
                                                clear MM RW
                                                go_wp2_with fail
                                                go_roundg (hi - (at_ + 1))
                                                case measure => exact MS3.out
                                                case rel => exact ⟨at_ + 1, _, _, _, rfl, by have := HLA.out; omega, HAT.out, rfl, by first | rfl | rw [HW2.out], hide ⟨XX.out, RN9.out⟩⟩
                                        by_cases j : X.op = 14
                                        · skip
                                          as_aux_lemma =>
                                            have XX := X8
                                            have MM := MB0
                                            have HKX := hide HK.out.2.2.1
                                            clear X8 MB0
                                            have EL : Hid (sucL X at_ s t = [] ++ [(X.a, s)] ++ [(((at_ + 1 : Nat) : Int), t)]) := hide (by unfold sucL; simp [j])
                                            rw [j] at t0
                                            go_upto_region 26 with fail
                                            have DB := (show Below wc.heap.size wc wc.drew from bel_drawn (Below.refl _ _))
                                            have XXn := hide (XX.out.keep DB)
                                            have HKXn : Hid (wc.drew.heap[xb]? = some (.cells #[.int .i64 X.op, .int .i64 X.a, .int .i64 X.b, .int .u64 X.bits, .int .i64 X.at_] 44 (0, 0))) := hide HKX.out
                                            have RWn : Hid (wc.drew.ownsRow 0 3 1 v' t.length (nts t)) := hide (own_keep RW.out (fun q hq => rfl))
                                            have OWn : Hid (wc.drew.ownsRow 0 3 1 v0 s.length (nts s)) := hide (own_keep OW0.out (fun q hq => rfl))
                                            refine wp_region_T (S := fun wz => wz.heap[xb]? = some (.cells #[.int .i64 X.op, .int .i64 X.a, .int .i64 X.b, .int .u64 X.bits, .int .i64 X.at_] 44 (0, 0)) ∧ wz.cell? ⟨g, 0, none⟩ = some (.slice (some ⟨bS, 0, none⟩) N N)) (fun _ => true) mixed ⟨HKXn.out, HK.out.2.2.2.1⟩ (fun hH => ?_)
                                            have QS0 : wc.drew.cell? ⟨bS, at_, none⟩ = some v0 := HK.out.2.2.2.2
                                            clear XX HKX RW OW0 HK t0 t1 DB
                                            have XX := XXn
                                            have HKX := HKXn
                                            have RW := RWn
                                            have OW0 := OWn
                                            clear XXn HKXn RWn OWn
                                            generalize wc.drew = wd at *
                                            refine Tm 0 ?_
                                            simp only [Act.put, SA]
                                            refine Tm 1 ?_
                                            simp only [Act.put, SA]
                                            refine Tl 2 (v := ?_) ?_ hH ?_
                                            rotate_left 1
                                            · (intro w hSw; have u1 := blk_cell hSw.1 1 _ rfl; clear hSw; go_simp <;> with_reducible rfl)
                                            simp only [Act.put, SA]
                                            refine Tm 3 ?_
                                            simp only [Act.put, SA]
                                            refine Tm 4 ?_
                                            simp only [Act.put, SA]
                                            refine Tm 5 ?_
                                            simp only [Act.put, SA]
                                            refine Tl 6 (v := ?_) ?_ hH ?_
                                            rotate_left 1
                                            · (intro w hSw; have q := hSw.2; clear hSw; go_simp <;> with_reducible rfl)
                                            simp only [Act.put, SA]
                                            refine Tm 7 ?_
                                            simp only [Act.put, SA]
                                            refine Tm 8 ?_
                                            simp only [Act.put, SA]
                                            refine Tr 9 (fun K1 hK1 => ?_)
                                            go_simp
                                            refine hK1.out _ _ (fun _ => hH) (fun _ => ?_)
                                            clear hK1 K1
                                            obtain ⟨vsx, Dx⟩ := XX.out.dz
                                            have CM := hide (rcome_any Dx (by omega) (by have := LH.out; omega) NB.out X.a OW0.out (ty_fits TYS.out.2) TYS.out.1)
                                            have XB := hide (show ¬ Fz g bM bS xb from Dz.ne Dx HKX.out (by decide))
                                            have RWK := hide (fun (w' : World) (F' : Nat → Prop) (c' : Ch (Fz g bM bS) F' wd w') => Dx.ch c' RW.out)
                                            have MMn := hide (show Mid (sucD c LL) lo hi N d.met d.out (fun i => dn3 (i : Int) = true) d3 ch3 ([] ++ [(X.a, s)]) (comeD (lo : Nat) (hi : Nat) d3 X.a s) (freshD (lo : Nat) (hi : Nat) d3 X.a s || ch3) from Mid.come MM.out RCH.out SUC.out (p := (X.a, s)) (by rw [EL.out]; simp) TYS.out.1)
                                            clear Dx
                                            refine Tr 10 (fun K1 hK1 => ?_)
                                            go_simp
                                            refine CM.out.mono ?_
                                            rintro e w8 ⟨rfl, vs9, d9, c9⟩
                                            have XXn := hide (XX.out.turn c9 d9)
                                            have HKXn := hide ((c9.blk xb (lt_of_blk HKX.out) XB.out).trans HKX.out)
                                            have RWn := hide (RWK.out _ _ c9)
                                            clear CM c9 d9 XB RWK RW HKX XX MM
                                            have RW := RWn
                                            have HKX := HKXn
                                            have XX := XXn
                                            have MM := MMn
                                            clear RWn HKXn XXn MMn
                                            generalize freshD (lo : Nat) (hi : Nat) d3 X.a s = fr at *
                                            generalize comeD (lo : Nat) (hi : Nat) d3 X.a s = dx at *
                                            have SG8 : w8.cell? ⟨g, 0, none⟩ = some (.slice (some ⟨bS, 0, none⟩) N N) := (by obtain ⟨vsy, Dy⟩ := XX.out.dz; exact blk_cell Dy.at_ 0 _ rfl)
                                            refine hK1.out _ _ (fun _ => ⟨HKX.out, SG8⟩) (fun _ => ?_)
                                            clear hK1 K1 hH QS0
                                            refine Tm 11 ?_
                                            simp only [Act.put, SA]
                                            cases fr with
                                            | true =>
                                              simp only [Bool.true_or] at MM
                                              refine Tr 12 (fun K1 hK1 => ?_)
                                              go_simp
                                              refine hK1.out _ _ (fun _ => ⟨HKX.out, SG8⟩) (fun _ => ?_)
                                              clear hK1 K1
                                              refine Tm 13 ?_
                                              simp only [Act.put, SA]
                                              refine Tm 14 ?_
                                              simp only [Act.put, SA]
                                              refine T_done (by kernel_rfl) ?_ _
                                              clear SG8
                                              have t0 := blk_cell HKX.out 0 _ rfl
                                              have t1 := blk_cell HKX.out 1 _ rfl
                                              rw [j] at t0
                                              obtain ⟨vsx, Dx⟩ := XX.out.dz
                                              have CM := hide (rcome_any Dx (by omega) (by have := LH.out; omega) NB.out ((at_ + 1 : Nat) : Int) RW.out RL.out.2 RL.out.1)
                                              have XB := hide (show ¬ Fz g bM bS xb from Dz.ne Dx HKX.out (by decide))
                                              have RWK := hide (fun (w' : World) (F' : Nat → Prop) (c' : Ch (Fz g bM bS) F' w8 w') => Dx.ch c' RW.out)
                                              have MMn := hide (show Mid (sucD c LL) lo hi N d.met d.out (fun i => dn3 (i : Int) = true) d3 ch3 ([] ++ [(X.a, s)] ++ [(((at_ + 1 : Nat) : Int), t)]) (comeD (lo : Nat) (hi : Nat) dx ((at_ + 1 : Nat) : Int) t) (freshD (lo : Nat) (hi : Nat) dx ((at_ + 1 : Nat) : Int) t || true) from Mid.come MM.out RCH.out SUC.out (p := (((at_ + 1 : Nat) : Int), t)) (by rw [EL.out]; simp) RL.out.1)
                                              clear Dx
                                              have hw2 := HW2.out
                                              go_wp2_with fail
                                              refine CM.out.mono ?_
                                              rintro e wy ⟨rfl, vs9, d9, c9⟩
                                              have XXn := hide (XX.out.turn c9 d9)
                                              have HKXn := hide ((c9.blk xb (lt_of_blk HKX.out) XB.out).trans HKX.out)
                                              have RWn := hide (RWK.out _ _ c9)
                                              clear CM c9 d9 XB RWK RW HKX XX MM
                                              have RW := RWn
                                              have HKX := HKXn
                                              have XX := XXn
                                              have MM := MMn
                                              clear RWn HKXn XXn MMn
                                              generalize freshD (lo : Nat) (hi : Nat) dx ((at_ + 1 : Nat) : Int) t = fr at *
                                              generalize comeD (lo : Nat) (hi : Nat) dx ((at_ + 1 : Nat) : Int) t = dy at *
                                              cases fr with
                                              | true =>
                                                simp only [Bool.true_or] at MM
                                                have RN9 := hide (DID.out _ _ (by rw [EL.out]; exact MM.out))
                                                clear MM RW
                                                go_wp2_with fail
                                                go_roundg (hi - (at_ + 1))
                                                case measure => exact MS3.out
                                                case rel => exact ⟨at_ + 1, _, _, _, rfl, by have := HLA.out; omega, HAT.out, rfl, by first | rfl | rw [HW2.out], hide ⟨XX.out, RN9.out⟩⟩
                                              | false =>
                                                simp only [Bool.false_or] at MM
                                                have RN9 := hide (DID.out _ _ (by rw [EL.out]; exact MM.out))
                                                clear MM RW
                                                go_wp2_with fail
                                                go_roundg (hi - (at_ + 1))
                                                case measure => exact MS3.out
                                                case rel => exact ⟨at_ + 1, _, _, _, rfl, by have := HLA.out; omega, HAT.out, rfl, by first | rfl | rw [HW2.out], hide ⟨XX.out, RN9.out⟩⟩
                                            | false =>
                                              simp only [Bool.false_or] at MM
                                              refine Tm 12 ?_
                                              simp only [Act.put, SA]
                                              refine Tm 13 ?_
                                              simp only [Act.put, SA]
                                              refine Tm 14 ?_
                                              simp only [Act.put, SA]
                                              refine T_done (by kernel_rfl) ?_ _
                                              clear SG8
                                              have t0 := blk_cell HKX.out 0 _ rfl
                                              have t1 := blk_cell HKX.out 1 _ rfl
                                              rw [j] at t0
                                              obtain ⟨vsx, Dx⟩ := XX.out.dz
                                              have CM := hide (rcome_any Dx (by omega) (by have := LH.out; omega) NB.out ((at_ + 1 : Nat) : Int) RW.out RL.out.2 RL.out.1)
                                              have XB := hide (show ¬ Fz g bM bS xb from Dz.ne Dx HKX.out (by decide))
                                              have RWK := hide (fun (w' : World) (F' : Nat → Prop) (c' : Ch (Fz g bM bS) F' w8 w') => Dx.ch c' RW.out)
                                              have MMn := hide (show Mid (sucD c LL) lo hi N d.met d.out (fun i => dn3 (i : Int) = true) d3 ch3 ([] ++ [(X.a, s)] ++ [(((at_ + 1 : Nat) : Int), t)]) (comeD (lo : Nat) (hi : Nat) dx ((at_ + 1 : Nat) : Int) t) (freshD (lo : Nat) (hi : Nat) dx ((at_ + 1 : Nat) : Int) t || ch3) from Mid.come MM.out RCH.out SUC.out (p := (((at_ + 1 : Nat) : Int), t)) (by rw [EL.out]; simp) RL.out.1)
                                              clear Dx
                                              have hw2 := HW2.out
                                              go_wp2_with fail
                                              refine CM.out.mono ?_
                                              rintro e wy ⟨rfl, vs9, d9, c9⟩
                                              have XXn := hide (XX.out.turn c9 d9)
                                              have HKXn := hide ((c9.blk xb (lt_of_blk HKX.out) XB.out).trans HKX.out)
                                              have RWn := hide (RWK.out _ _ c9)
                                              clear CM c9 d9 XB RWK RW HKX XX MM
                                              have RW := RWn
                                              have HKX := HKXn
                                              have XX := XXn
                                              have MM := MMn
                                              clear RWn HKXn XXn MMn
                                              generalize freshD (lo : Nat) (hi : Nat) dx ((at_ + 1 : Nat) : Int) t = fr at *
                                              generalize comeD (lo : Nat) (hi : Nat) dx ((at_ + 1 : Nat) : Int) t = dy at *
                                              cases fr with
                                              | true =>
                                                simp only [Bool.true_or] at MM
                                                have RN9 := hide (DID.out _ _ (by rw [EL.out]; exact MM.out))
                                                clear MM RW
                                                go_wp2_with fail
                                                go_roundg (hi - (at_ + 1))
                                                case measure => exact MS3.out
                                                case rel => exact ⟨at_ + 1, _, _, _, rfl, by have := HLA.out; omega, HAT.out, rfl, by first | rfl | rw [HW2.out], hide ⟨XX.out, RN9.out⟩⟩
                                              | false =>
                                                simp only [Bool.false_or] at MM
                                                have RN9 := hide (DID.out _ _ (by rw [EL.out]; exact MM.out))
                                                clear MM RW
                                                go_wp2_with fail
                                                go_roundg (hi - (at_ + 1))
                                                case measure => exact MS3.out
                                                case rel => exact ⟨at_ + 1, _, _, _, rfl, by have := HLA.out; omega, HAT.out, rfl, by first | rfl | rw [HW2.out], hide ⟨XX.out, RN9.out⟩⟩
                                        by_cases j : X.op = 25
                                        · skip
                                          as_aux_lemma =>
                                            have XX := X8
                                            have MM := MB0
                                            have HKX := hide HK.out.2.2.1
                                            clear X8 MB0
                                            have EL : Hid (sucL X at_ s t = []) := hide (by unfold sucL; simp [j])
                                            rw [j] at t0
                                            have RN9 := hide (DID.out _ _ (by rw [EL.out]; exact MM.out))
                                            clear MM RW
                                            go_wp2_with fail
                                            go_roundg (hi - (at_ + 1))
                                            case measure => exact MS3.out
                                            case rel => exact ⟨at_ + 1, _, _, _, rfl, by have := HLA.out; omega, HAT.out, rfl, by first | rfl | rw [HW2.out], hide ⟨XX.out, RN9.out⟩⟩
                                        by_cases j : X.op = 26
                                        · skip
                                          as_aux_lemma =>
                                            have XX := X8
                                            have MM := MB0
                                            have HKX := hide HK.out.2.2.1
                                            clear X8 MB0
                                            have EL : Hid (sucL X at_ s t = []) := hide (by unfold sucL; simp [j])
                                            rw [j] at t0
                                            have RN9 := hide (DID.out _ _ (by rw [EL.out]; exact MM.out))
                                            clear MM RW
                                            go_wp2_with fail
                                            go_roundg (hi - (at_ + 1))
                                            case measure => exact MS3.out
                                            case rel => exact ⟨at_ + 1, _, _, _, rfl, by have := HLA.out; omega, HAT.out, rfl, by first | rfl | rw [HW2.out], hide ⟨XX.out, RN9.out⟩⟩
                                        rename_i p12 p13 p14 p25
                                        have p26 := j
                                        clear j
                                        as_aux_lemma =>
                                          have XX := X8
                                          have MM := MB0
                                          have HKX := hide HK.out.2.2.1
                                          clear X8 MB0
                                          have EL : Hid (sucL X at_ s t = [] ++ [(((at_ + 1 : Nat) : Int), t)]) := hide (by unfold sucL; simp [p12, p13, p14, p25, p26])
                                          have q12 : (X.op == 12) = false := by simp [p12]
                                          have q13 : (X.op == 13) = false := by simp [p13]
                                          have q14 : (X.op == 14) = false := by simp [p14]
                                          have n12 : (X.op != 12) = true := by simp [p12]
                                          have n25 : (X.op != 25) = true := by simp [p25]
                                          have n26 : (X.op != 26) = true := by simp [p26]
                                          clear p12 p13 p14 p25 p26
                                          obtain ⟨vsx, Dx⟩ := XX.out.dz
                                          have CM := hide (rcome_any Dx (by omega) (by have := LH.out; omega) NB.out ((at_ + 1 : Nat) : Int) RW.out RL.out.2 RL.out.1)
                                          have XB := hide (show ¬ Fz g bM bS xb from Dz.ne Dx HKX.out (by decide))
                                          have RWK := hide (fun (w' : World) (F' : Nat → Prop) (c' : Ch (Fz g bM bS) F' wc w') => Dx.ch c' RW.out)
                                          have MMn := hide (show Mid (sucD c LL) lo hi N d.met d.out (fun i => dn3 (i : Int) = true) d3 ch3 ([] ++ [(((at_ + 1 : Nat) : Int), t)]) (comeD (lo : Nat) (hi : Nat) d3 ((at_ + 1 : Nat) : Int) t) (freshD (lo : Nat) (hi : Nat) d3 ((at_ + 1 : Nat) : Int) t || ch3) from Mid.come MM.out RCH.out SUC.out (p := (((at_ + 1 : Nat) : Int), t)) (by rw [EL.out]; simp) RL.out.1)
                                          clear Dx
                                          have hw2 := HW2.out
                                          go_wp2_with fail
                                          refine CM.out.mono ?_
                                          rintro e wy ⟨rfl, vs9, d9, c9⟩
                                          have XXn := hide (XX.out.turn c9 d9)
                                          have HKXn := hide ((c9.blk xb (lt_of_blk HKX.out) XB.out).trans HKX.out)
                                          have RWn := hide (RWK.out _ _ c9)
                                          clear CM c9 d9 XB RWK RW HKX XX MM
                                          have RW := RWn
                                          have HKX := HKXn
                                          have XX := XXn
                                          have MM := MMn
                                          clear RWn HKXn XXn MMn
                                          generalize freshD (lo : Nat) (hi : Nat) d3 ((at_ + 1 : Nat) : Int) t = fr at *
                                          generalize comeD (lo : Nat) (hi : Nat) d3 ((at_ + 1 : Nat) : Int) t = dy at *
                                          cases fr with
                                          | true =>
                                            simp only [Bool.true_or] at MM
                                            have RN9 := hide (DID.out _ _ (by rw [EL.out]; exact MM.out))
                                            clear MM RW
                                            go_wp2_with fail
                                            go_roundg (hi - (at_ + 1))
                                            case measure => exact MS3.out
                                            case rel => exact ⟨at_ + 1, _, _, _, rfl, by have := HLA.out; omega, HAT.out, rfl, by first | rfl | rw [HW2.out], hide ⟨XX.out, RN9.out⟩⟩
                                          | false =>
                                            simp only [Bool.false_or] at MM
                                            have RN9 := hide (DID.out _ _ (by rw [EL.out]; exact MM.out))
                                            clear MM RW
                                            go_wp2_with fail
                                            go_roundg (hi - (at_ + 1))
                                            case measure => exact MS3.out
                                            case rel => exact ⟨at_ + 1, _, _, _, rfl, by have := HLA.out; omega, HAT.out, rfl, by first | rfl | rw [HW2.out], hide ⟨XX.out, RN9.out⟩⟩
        · skip
          as_aux_lemma =>
            have hge : k = c.F.length := by omega
            subst hge
            have RM2 : Hid (readM c = some d.out) := hide (by rw [RM.out, ← FE.out, funcs_end]; rfl)
            have y0 : wr.cell? ⟨g, 0, none⟩ = some (.slice (some ⟨bS, 0, none⟩) N N) := blk_cell D.out.at_ 0 _ rfl
            go_wp2_with fail
            go_ret2
            have D9 := D.out
            rw [HN.out] at D9 ⊢
            exact RstP.yes RM2.out D9 (B4.out.trans (D.out.bel.mono B4.out.size))
end Go.Proofs.YtaccdblbnogigaaDoor.Ck
