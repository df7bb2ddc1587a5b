/- Package code: a code is written. (Written by mk_d.py.) -/
import Derived.Test.YtoboeipmhfnfdaaDoorDc
namespace Go.Proofs.YtoboeipmhfnfdaaDoor.Ck
open Go.RowKit

theorem lit_sl {w : World} {b : Nat} {xs : List Int} (hb : w.heap[b]? = some (.cells (xs.map (Value.int .i64)).toArray 3 (0, 0))) (hf : Fits xs) (hl : xs.length ≤ 1000) : Sl w (.slice (some ⟨b, 0, none⟩) xs.length xs.length) xs := by
  refine Sl.of_row (t := 3) (f := fun i => .int .i64 (xs.getD i 0)) ⟨_, hb, by simp, fun i hi => ?_⟩ (Nat.le_refl _) (by unfold maxLen; omega) hf (fun i _ => rfl)
  simp [List.getD, hi]
theorem numbers_lit {w : World} {g : Nat} {G : Nat → Prop} {l : List Int} (h : Wr w g G l) (b : Nat) (hbw : b = w.heap.size) (xs : List Int) (hz : ∀ z ∈ xs, 0 ≤ z ∧ z ≤ 9223372036854775807) (hx : xs.length ≤ 10) (hl : l.length ≤ 800000) :
    Calls Tryd.prog 49 #[.pointer (some ⟨g, 0, none⟩), .slice (some ⟨b, 0, none⟩) xs.length xs.length] (w.alloc (.cells (xs.map (Value.int .i64)).toArray 3)) fun e w' => e = .returned (.tuple #[]) ∧ ∃ G', Wr w' g G' (l ++ xs.flatMap (bigL 4)) ∧ Ch G G' w w' := by
  subst hbw
  have hb := bel_new w (.cells (xs.map (Value.int .i64)).toArray 3)
  have hk : (w.alloc (.cells (xs.map (Value.int .i64)).toArray 3)).heap[w.heap.size]? = some (.cells (xs.map (Value.int .i64)).toArray 3 (0, 0)) := Go.Deep.blk_alloc_new _ _
  have hn : ¬ G w.heap.size := fun e => by obtain ⟨v, hv⟩ := h; have := hv.lt e; omega
  refine (numbers_any (h.bel hb) (fun G' w' hc => lit_sl ((hc.blk _ (lt_of_blk hk) hn).trans hk) (fun z q => ⟨by have := (hz z q).1; omega, (hz z q).2⟩) (by omega)) (fun z q => (hz z q).1) (by omega)).mono ?_
  rintro e w' ⟨rfl, G', x, y⟩
  exact ⟨rfl, G', x, (Ch.of_bel hb).trans y⟩
/-- where the writing stands: W0 the world of what is handed in, bx the block of the code's variable -/
structure Wst (W0 W w : World) (bx g : Nat) (G G1 : Nat → Prop) (cs : Array Value) (l : List Int) : Prop where
  x : Wr w g G1 l
  c : Ch G G1 W w
  k : w.heap[bx]? = some (.cells cs 27 (0, 0))
  n : ¬ G1 bx
  b : Below W0.heap.size W0 w
  lo : ∀ k, G1 k → W0.heap.size ≤ k
theorem Wst.step {W0 W w w' : World} {bx g : Nat} {G G1 G2 : Nat → Prop} {cs : Array Value} {l l' : List Int} (h : Wst W0 W w bx g G G1 cs l) (hx : Wr w' g G2 l') (hc : Ch G1 G2 w w') : Wst W0 W w' bx g G G2 cs l' :=
  ⟨hx, h.c.trans hc, (hc.blk bx (lt_of_blk h.k) h.n).trans h.k, hc.off (lt_of_blk h.k) h.n, h.b.trans (hc.bel h.lo h.b.size), hc.low h.lo h.b.size⟩
theorem Wst.bl {W0 W w w' : World} {bx g : Nat} {G G1 : Nat → Prop} {cs : Array Value} {l : List Int} (h : Wst W0 W w bx g G G1 cs l) (hb : Below w.heap.size w w') : Wst W0 W w' bx g G G1 cs l := h.step (h.x.bel hb) (Ch.of_bel hb)
theorem Wr.lt {w : World} {g : Nat} {G : Nat → Prop} {l : List Int} (h : Wr w g G l) {k : Nat} (hk : G k) : k < w.heap.size := by
  obtain ⟨v, hv⟩ := h
  exact hv.lt hk
theorem flatC (l : List (Int × Int)) : (l.flatMap wChan).length = 8 * l.length := by
  induction l with
  | nil => rfl
  | cons a l ih => rw [List.flatMap_cons, List.length_append, ih, List.length_cons]; simp only [wChan, List.length_append, bigL_len]; omega
theorem flatI (l : List In5) : (l.flatMap wIns).length = 25 * l.length := by
  induction l with
  | nil => rfl
  | cons a l ih => rw [List.flatMap_cons, List.length_append, ih, List.length_cons]; simp only [wIns, List.length_append, bigL_len]; omega
theorem flatF : ∀ (l : List Fn3), (∀ f ∈ l, f.lo.length ≤ 32) → (l.flatMap wFn).length ≤ 140 * l.length
  | [], _ => Nat.le_refl _
  | f :: l, h => by
    have ih := flatF l (fun x hx => h x (List.mem_cons_of_mem _ hx))
    have h1 := h f (List.mem_cons_self ..)
    rw [List.flatMap_cons, List.length_append, List.length_cons]
    simp only [wFn, List.length_append, bigL_len, flat4]
    omega
theorem getD_mem {α : Type} {l : List α} {d : α} {k : Nat} (h : k < l.length) : l.getD k d ∈ l := by
  rw [List.getD_eq_getElem?_getD, List.getElem?_eq_getElem h]
  exact List.getElem_mem h
/-- what a code in form has at most -/
theorem form_len {c : Cd} (h : formB c = true) : c.P.length ≤ 128 ∧ c.C.length ≤ 32 ∧ c.F.length ≤ 16 ∧ c.B.length ≤ 8192 ∧ ∀ f ∈ c.F, f.lo.length ≤ 32 := by
  simp only [formB, Bool.and_eq_true, decide_eq_true_eq, List.all_eq_true] at h
  obtain ⟨⟨⟨⟨⟨⟨⟨hP, hM⟩, hA⟩, hS⟩, hF⟩, hB⟩, hm⟩, ⟨⟨⟨kP, kC⟩, kF⟩, _⟩, kB⟩ := h
  refine ⟨hP, by omega, hF, hB, fun f hf => ?_⟩
  have := kF f hf
  simp only [fnB, Bool.and_eq_true, decide_eq_true_eq] at this
  exact this.2.2.2.2.1
set_option maxRecDepth 20000 in
set_option maxHeartbeats 4000000 in
theorem wcode_any {W0 W : World} {g : Nat} {G : Nat → Prop} {vP vC vF vB : Value} {c : Cd} (h : Wr W g G []) (h0 : Cv W0 vP vC vF vB c) (hW : Below W0.heap.size W0 W) (hG : ∀ k, G k → W0.heap.size ≤ k) (hf : formB c = true) :
    Calls Tryd.prog 29 #[.pointer (some ⟨g, 0, none⟩), codeA vP vC vF vB c] W fun e w' => e = .returned (.tuple #[]) ∧ ∃ G', Wr w' g G' (bytesL c) ∧ Ch G G' W w' := by
  have HS := hide (form_sm hf (fun x hx => (h0.L.I x hx).1))
  obtain ⟨nP, nC, nF, nB, nL⟩ := form_len hf
  have HL := hide nL
  have I1 : Hid (Wst W0 W (W.alloc (codeO vP vC vF vB c)) W.heap.size g G G #[vP, .int .i64 c.M, .int .i64 c.A, vC, vF, .int .i64 c.mn, vB] []) := hide ⟨h.bel (bel_new _ _), Ch.of_bel (bel_new _ _), Go.Deep.blk_alloc_new _ _, fun e => absurd (h.lt e) (by omega), hW.trans ((bel_new _ _).mono hW.size), hG⟩
  have V0 := hide h0
  obtain ⟨aP, cP, eP, _, hmP⟩ := h0.P.form
  obtain ⟨aC, cC, eC, _, hmC⟩ := h0.C.form
  obtain ⟨aF, cF, eF, _, hmF⟩ := h0.F.form
  obtain ⟨aB, cB, eB, _, hmB⟩ := h0.B.form
  subst eP eC eF eB
  clear h h0 hW hG hf nL hmP hmC hmF hmB
  unfold codeA codeO at *
  have N1 := hide (numbers_lit I1.out.x (W.heap.size + 1) (by simp) [(c.P.length : Int), c.M, c.A, (c.C.length : Int), (c.F.length : Int), (c.B.length : Int), c.mn] (fun z hz => by
    have s := HS.out
    simp at hz
    rcases hz with rfl | rfl | rfl | rfl | rfl | rfl | rfl
    · exact ⟨by omega, by omega⟩
    · exact ⟨s.nm.1, by have := s.nm.2; omega⟩
    · exact ⟨s.na.1, by have := s.na.2; omega⟩
    · exact ⟨by omega, by omega⟩
    · exact ⟨by omega, by omega⟩
    · exact ⟨by omega, by omega⟩
    · exact ⟨s.mn.1, by have := s.mn.2; omega⟩) (by simp) (by simp))
  go_enter Tryd.func29, Tryd.ntmps29
  go_wp2_with fail
  refine N1.out.mono ?_
  rintro e w2 ⟨rfl, G2, x2, c2⟩
  have I2 := hide (I1.out.step x2 c2)
  clear x2 c2 N1 I1
  have g0 := blk_cell I2.out.k 0 _ rfl
  go_wp2_with fail
  refine (numbers_any I2.out.x (fun G' w' hc => V0.out.P.bel (I2.out.b.trans (hc.bel I2.out.lo I2.out.b.size))) (fun z hz => (HS.out.ps z hz).1) (by simp [bigL_len]; omega)).mono ?_
  rintro e w3 ⟨rfl, G3, x3, c3⟩
  have I3 := hide (I2.out.step x3 c3)
  clear x3 c3 I2 g0
  have g3 := blk_cell I3.out.k 3 _ rfl
  have g4 := blk_cell I3.out.k 4 _ rfl
  have g6 := blk_cell I3.out.k 6 _ rfl
  obtain ⟨L3, hL3⟩ : ∃ L, L = [(c.P.length : Int), c.M, c.A, (c.C.length : Int), (c.F.length : Int), (c.B.length : Int), c.mn].flatMap (bigL 4) ++ c.P.flatMap (bigL 4) := ⟨_, rfl⟩
  have I3 : Hid (Wst W0 W w3 W.heap.size g G G3 _ L3) := hide (by rw [hL3]; exact I3.out)
  have LL3 : Hid (L3.length ≤ 1000) := hide (by rw [hL3]; simp only [List.length_append, flat4, List.length_cons, List.length_nil]; omega)
  have HL3 := hide hL3
  clear hL3
  have hC := hide (fun i (hi : i < c.C.length) => (by
    obtain ⟨a, cp, e, _, _, h⟩ := V0.out.C
    cases e
    exact h i hi : ∃ b off, aC = some ⟨b, off, none⟩ ∧ b < _ ∧ _))
  have hF := hide (fun i (hi : i < c.F.length) => (by
    obtain ⟨a, cp, e, _, _, h⟩ := V0.out.F
    cases e
    exact h i hi : ∃ b off vl, aF = some ⟨b, off, none⟩ ∧ b < _ ∧ _))
  have hB := hide (fun i (hi : i < c.B.length) => (by
    obtain ⟨a, cp, e, _, _, h⟩ := V0.out.B
    cases e
    exact h i hi : ∃ b off, aB = some ⟨b, off, none⟩ ∧ b < _ ∧ _))
  clear V0
  go_wp2_with fail
  clear g3 g4 g6
  go_loopw [5, 38] (fun u i wr => ∃ (k : Nat) (G1 : Nat → Prop), k ≤ c.C.length ∧ i = .int .i64 k ∧ Hid (Wst W0 W wr W.heap.size g G G1 #[.slice aP c.P.length cP, .int .i64 c.M, .int .i64 c.A, .slice aC c.C.length cC, .slice aF c.F.length cF, .int .i64 c.mn, .slice aB c.B.length cB] (L3 ++ (c.C.take k).flatMap wChan))) (fun u i _ => c.C.length - (intOf i).toNat)
  case atStart => exact ⟨0, G3, Nat.zero_le _, rfl, hide (by simpa using I3.out)⟩
  case round =>
    obtain ⟨k, G1, hk, rfl, X⟩ := hrel
    clear I3
    by_cases hlt : k < c.C.length
    · have h1 : (k : Int) < (c.C.length : Int) := by omega
      obtain ⟨b1, o1, rfl, hbk, f1, f2⟩ := hC.out k hlt
      have q1 := (X.out.b.cell (p := ⟨b1, _, none⟩) hbk).trans f1
      have q2 := (X.out.b.cell (p := ⟨b1, _, none⟩) hbk).trans f2
      have TK := hide (take_flat (l := c.C) (d := z2) (f := wChan) hlt)
      have sc := HS.out.cs _ (getD_mem (d := z2) hlt)
      have LK : Hid ((L3 ++ (c.C.take k).flatMap wChan).length ≤ 2000) := hide (by rw [List.length_append, flatC, List.length_take]; have := LL3.out; omega)
      clear f1 f2 hC hF hB
      generalize c.C.getD k z2 = ch at *
      obtain ⟨t, rm⟩ := ch
      obtain ⟨tn, ht⟩ : ∃ tn : Nat, t = tn := ⟨t.toNat, by have := sc.1.1; simp at this; omega⟩
      obtain ⟨rn, hr⟩ : ∃ rn : Nat, rm = rn := ⟨rm.toNat, by have := sc.2.1; simp at this; omega⟩
      subst ht hr
      have q1' : wr.cell? ⟨b1, o1 + k * 2, none⟩ = some (.int .i64 (tn : Int)) := q1
      have q2' : wr.cell? ⟨b1, o1 + k * 2 + 1, none⟩ = some (.int .i64 (rn : Int)) := q2
      have Xb := hide (X.out.bl (bel_new wr (.cells #[.int .i64 (tn : Int), .int .i64 (rn : Int)] 61)))
      have NL := hide (numbers_lit Xb.out.x (wr.heap.size + 1) (by simp) [(tn : Int), (rn : Int)] (fun z hz => by
        simp at hz
        rcases hz with rfl | rfl
        · exact ⟨by omega, by have := sc.1.2; simp at this; omega⟩
        · exact ⟨by omega, by have := sc.2.2; simp at this; omega⟩) (by simp) (by have := LK.out; omega))
      clear sc q1 q2 X LK
      go_wp2_with fail
      refine NL.out.mono ?_
      rintro e w5 ⟨rfl, G5, x5, c5⟩
      have I5 := hide (Xb.out.step x5 c5)
      clear x5 c5 NL Xb q1' q2'
      go_wp2_with fail
      go_roundw
      case rel => exact ⟨k + 1, G5, by omega, by go_num, hide (by have := I5.out; rw [TK.out]; simpa [wChan, List.append_assoc] using this)⟩
      case measure => simp [intOf]; omega
    · obtain rfl : k = c.C.length := by omega
      rw [List.take_length] at X
      obtain ⟨L4, hL4⟩ : ∃ L, L = L3 ++ c.C.flatMap wChan := ⟨_, rfl⟩
      rw [← hL4] at X
      have LL4 : Hid (L4.length ≤ 2000) := hide (by rw [hL4, List.length_append, flatC]; have := LL3.out; omega)
      have HL4 := hide hL4
      have g4 := blk_cell X.out.k 4 _ rfl
      clear hL4 hC LL3
      go_wp2_with fail
      clear g4
      go_loopw [7, 53] (fun u i wr => ∃ (k : Nat) (G1 : Nat → Prop), k ≤ c.F.length ∧ i = .int .i64 k ∧ Hid (Wst W0 W wr W.heap.size g G G1 #[.slice aP c.P.length cP, .int .i64 c.M, .int .i64 c.A, .slice aC c.C.length cC, .slice aF c.F.length cF, .int .i64 c.mn, .slice aB c.B.length cB] (L4 ++ (c.F.take k).flatMap wFn))) (fun u i _ => c.F.length - (intOf i).toNat)
      case atStart => exact ⟨0, G1, Nat.zero_le _, rfl, hide (by simpa using X.out)⟩
      case round =>
        clear X
        obtain ⟨k, G1, hk, rfl, X⟩ := hrel
        by_cases hlt : k < c.F.length
        · have h1 : (k : Int) < (c.F.length : Int) := by omega
          obtain ⟨b1, o1, vl, rfl, hbk, f1, f2, f3, f4⟩ := hF.out k hlt
          have q1 := (X.out.b.cell (p := ⟨b1, _, none⟩) hbk).trans f1
          have q2 := (X.out.b.cell (p := ⟨b1, _, none⟩) hbk).trans f2
          have q3 := (X.out.b.cell (p := ⟨b1, _, none⟩) hbk).trans f3
          have TK := hide (take_flat (l := c.F) (d := zF) (f := wFn) hlt)
          have sf := hide (HS.out.fs _ (getD_mem (d := zF) hlt))
          have hl32 := HL.out _ (getD_mem (d := zF) hlt)
          have LK : Hid ((L4 ++ (c.F.take k).flatMap wFn).length ≤ 5000) := hide (by
            have h1 := flatF (c.F.take k) (fun f hf => HL.out f (List.mem_of_mem_take hf))
            rw [List.length_take] at h1
            rw [List.length_append]
            have := LL4.out
            omega)
          clear f1 f2 f3 hF hB
          generalize c.F.getD k zF = f at *
          obtain ⟨st, pa, lo⟩ := f
          obtain ⟨al, cl, rfl, _, _⟩ := f4.form
          have F4 := hide f4
          clear f4
          obtain ⟨sn, hs⟩ : ∃ sn : Nat, st = sn := ⟨st.toNat, by have := sf.out.1.1; simp at this; omega⟩
          obtain ⟨pn, hp⟩ : ∃ pn : Nat, pa = pn := ⟨pa.toNat, by have := sf.out.2.1.1; simp at this; omega⟩
          subst hs hp
          have q1' : wr.cell? ⟨b1, o1 + k * 3, none⟩ = some (.int .i64 (sn : Int)) := q1
          have q2' : wr.cell? ⟨b1, o1 + k * 3 + 1, none⟩ = some (.int .i64 (pn : Int)) := q2
          have q3' : wr.cell? ⟨b1, o1 + k * 3 + 2, none⟩ = some (.slice al lo.length cl) := q3
          have hl32' : lo.length ≤ 32 := hl32
          have Xb := hide (X.out.bl (bel_new wr (.cells #[.int .i64 (sn : Int), .int .i64 (pn : Int), .slice al lo.length cl] 54)))
          have KB := hide (show (wr.alloc (.cells #[.int .i64 (sn : Int), .int .i64 (pn : Int), .slice al lo.length cl] 54)).heap[wr.heap.size]? = some (.cells #[.int .i64 (sn : Int), .int .i64 (pn : Int), .slice al lo.length cl] 54 (0, 0)) from Go.Deep.blk_alloc_new _ _)
          have NB : Hid (¬ G1 wr.heap.size) := hide (fun e => absurd (X.out.x.lt e) (by omega))
          have NL := hide (numbers_lit Xb.out.x (wr.heap.size + 1) (by simp) [(sn : Int), (pn : Int), (lo.length : Int)] (fun z hz => by
            simp at hz
            rcases hz with rfl | rfl | rfl
            · exact ⟨by omega, by have := sf.out.1.2; simp at this; omega⟩
            · exact ⟨by omega, by have := sf.out.2.1.2; simp at this; omega⟩
            · exact ⟨by omega, by omega⟩) (by simp) (by have := LK.out; omega))
          clear q1 q2 q3 X hl32
          go_wp2_with fail
          refine NL.out.mono ?_
          rintro e w5 ⟨rfl, G5, x5, c5⟩
          have I5 := hide (Xb.out.step x5 c5)
          have K5 := hide ((c5.blk wr.heap.size (lt_of_blk KB.out) NB.out).trans KB.out)
          have k2 := blk_cell K5.out 2 _ rfl
          clear x5 c5 NL Xb q1' q2' q3' KB NB
          go_wp2_with fail
          clear k2
          refine (numbers_any I5.out.x (fun G' w' hc => F4.out.bel (I5.out.b.trans (hc.bel I5.out.lo I5.out.b.size))) (fun z hz => (sf.out.2.2.2 z hz).1) (by have := LK.out; simp only [List.length_append, flat4, List.length_cons, List.length_nil] at this ⊢; omega)).mono ?_
          rintro e w6 ⟨rfl, G6, x6, c6⟩
          have I6 := hide (I5.out.step x6 c6)
          clear x6 c6 I5 K5
          go_wp2_with fail
          go_roundw
          case rel => exact ⟨k + 1, G6, by omega, by go_num, hide (by have := I6.out; rw [TK.out]; simpa [wFn, List.append_assoc] using this)⟩
          case measure => simp [intOf]; omega
        · obtain rfl : k = c.F.length := by omega
          rw [List.take_length] at X
          obtain ⟨L5, hL5⟩ : ∃ L, L = L4 ++ c.F.flatMap wFn := ⟨_, rfl⟩
          rw [← hL5] at X
          have LL5 : Hid (L5.length ≤ 5000) := hide (by
            have h1 := flatF c.F HL.out
            rw [hL5, List.length_append]
            have := LL4.out
            omega)
          have HL5 := hide hL5
          have g6 := blk_cell X.out.k 6 _ rfl
          clear hL5 hF LL4
          go_wp2_with fail
          clear g6
          go_loopw [9, 75] (fun u i wr => ∃ (k : Nat) (G1 : Nat → Prop), k ≤ c.B.length ∧ i = .int .i64 k ∧ Hid (Wst W0 W wr W.heap.size g G G1 #[.slice aP c.P.length cP, .int .i64 c.M, .int .i64 c.A, .slice aC c.C.length cC, .slice aF c.F.length cF, .int .i64 c.mn, .slice aB c.B.length cB] (L5 ++ (c.B.take k).flatMap wIns))) (fun u i _ => c.B.length - (intOf i).toNat)
          case atStart => exact ⟨0, G1, Nat.zero_le _, rfl, hide (by simpa using X.out)⟩
          case round =>
            clear X
            obtain ⟨k, G1, hk, rfl, X⟩ := hrel
            by_cases hlt : k < c.B.length
            · have h1 : (k : Int) < (c.B.length : Int) := by omega
              obtain ⟨b1, o1, rfl, hbk, f1, f2, f3, f4, f5⟩ := hB.out k hlt
              have q1 := (X.out.b.cell (p := ⟨b1, _, none⟩) hbk).trans f1
              have q2 := (X.out.b.cell (p := ⟨b1, _, none⟩) hbk).trans f2
              have q3 := (X.out.b.cell (p := ⟨b1, _, none⟩) hbk).trans f3
              have q4 := (X.out.b.cell (p := ⟨b1, _, none⟩) hbk).trans f4
              have q5 := (X.out.b.cell (p := ⟨b1, _, none⟩) hbk).trans f5
              have TK := hide (take_flat (l := c.B) (d := zI) (f := wIns) hlt)
              have si := hide (HS.out.bs _ (getD_mem (d := zI) hlt))
              have LK : Hid ((L5 ++ (c.B.take k).flatMap wIns).length ≤ 300000) := hide (by rw [List.length_append, flatI, List.length_take]; have := LL5.out; omega)
              clear f1 f2 f3 f4 f5 hB
              generalize c.B.getD k zI = x at *
              obtain ⟨op, a, b, t, at_⟩ := x
              obtain ⟨on, e1⟩ : ∃ n : Nat, op = n := ⟨op.toNat, by have := si.out.1.1; simp at this; omega⟩
              obtain ⟨an, e2⟩ : ∃ n : Nat, a = n := ⟨a.toNat, by have := si.out.2.1.1; simp at this; omega⟩
              obtain ⟨bn, e3⟩ : ∃ n : Nat, b = n := ⟨b.toNat, by have := si.out.2.2.1.1; simp at this; omega⟩
              obtain ⟨tn, e4⟩ : ∃ n : Nat, t = n := ⟨t.toNat, by have := si.out.2.2.2.1.1; simp at this; omega⟩
              obtain ⟨sn, e5⟩ : ∃ n : Nat, at_ = n := ⟨at_.toNat, by have := si.out.2.2.2.2.1; simp at this; omega⟩
              subst e1 e2 e3 e4 e5
              have q1' : wr.cell? ⟨b1, o1 + k * 5, none⟩ = some (.int .i64 (on : Int)) := q1
              have q2' : wr.cell? ⟨b1, o1 + k * 5 + 1, none⟩ = some (.int .i64 (an : Int)) := q2
              have q3' : wr.cell? ⟨b1, o1 + k * 5 + 2, none⟩ = some (.int .i64 (bn : Int)) := q3
              have q4' : wr.cell? ⟨b1, o1 + k * 5 + 3, none⟩ = some (.int .u64 (tn : Int)) := q4
              have q5' : wr.cell? ⟨b1, o1 + k * 5 + 4, none⟩ = some (.int .i64 (sn : Int)) := q5
              have Xb := hide (X.out.bl (bel_new wr (.cells #[.int .i64 (on : Int), .int .i64 (an : Int), .int .i64 (bn : Int), .int .u64 (tn : Int), .int .i64 (sn : Int)] 57)))
              have NL := hide (winstr_any Xb.out.x on an bn tn sn (by have := si.out.1.2; simp at this; omega) (by have := si.out.2.1.2; simp at this; omega) (by have := si.out.2.2.1.2; simp at this; omega) (by have := si.out.2.2.2.2.2; simp at this; omega) (by have := LK.out; omega))
              clear q1 q2 q3 q4 q5 X LK
              go_wp2_with fail
              refine NL.out.mono ?_
              rintro e w6 ⟨rfl, G6, x6, c6⟩
              have I6 := hide (Xb.out.step x6 c6)
              clear x6 c6 NL Xb q1' q2' q3' q4' q5'
              go_wp2_with fail
              go_roundw
              case rel => exact ⟨k + 1, G6, by omega, by go_num, hide (by have := I6.out; rw [TK.out, ← List.append_assoc]; exact this)⟩
              case measure => simp [intOf]; omega
            · obtain rfl : k = c.B.length := by omega
              rw [List.take_length] at X
              clear hB
              go_wp2_with fail
              go_end0
              refine ⟨rfl, G1, ?_, X.out.c⟩
              have := X.out.x
              rw [HL5.out, HL4.out, HL3.out] at this
              simpa [bytesL, List.append_assoc] using this
end Go.Proofs.YtoboeipmhfnfdaaDoor.Ck
