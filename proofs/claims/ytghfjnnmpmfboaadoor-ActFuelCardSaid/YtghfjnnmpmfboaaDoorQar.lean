/- Texts of this proof, packed: contracts of the program's functions, and the plain model that they are held against. -/
import Derived.Test.YtghfjnnmpmfboaaDoorQaq
set_option maxRecDepth 20000
set_option maxHeartbeats 4000000
namespace Go.Proofs.YtghfjnnmpmfboaaDoor.Ck
open Go.RowKit Go.ChangeShapes Go.WideShapes Go.ChangeAt
theorem small_mod (y : Int) (c : Nat) (h0 : 0 < c) (h1 : c <= 1000) : ∃ m : Nat, m < c /\ wrap64 ((IntKind.u64.wrap y).tmod c) = m := by
 have hw : 0 <= IntKind.u64.wrap y := by
  show 0 <= y % 18446744073709551616
  omega
 obtain ⟨n, hn⟩ : ∃ n : Nat, IntKind.u64.wrap y = n := ⟨(IntKind.u64.wrap y).toNat, by omega⟩
 rw [hn]
 refine ⟨n % c, Nat.mod_lt _ h0, ?_⟩
 have h2 := Nat.mod_lt n h0
 rw [show ((n : Int).tmod (c : Int)) = ((n % c : Nat) : Int) from rfl]
 unfold wrap64
 omega
theorem fuel_open {H : Type} {enc : TypeId × Value -> H} {W : World} {c : Array Value} {d : DataW H} {p : List MemPlace} (h : DataW.Trod enc Tryd.prog W 0 (fun _ => true) true 78 (.agg c) d p) (hw : Wok 78 d) :
 ∃ vP m a vC vS fn vK less more ps qs S ks, Value.agg c = .agg #[vP, .int .i64 m, .int .i64 a, vC, vS, .int .i64 fn, vK, .int .i64 less, .int .i64 more] /\ (Sl W vP ps /\ ps.length <= 140737488351232) /\ (SlC W vC qs /\ qs.length <= 140737488351232) /\ SSrcU W vS S /\ Sl W vK ks := by
 obtain ⟨fuel, h⟩ := h
 obtain ⟨xs, f, hfu, ex, hl, hlen, hf⟩ := DataW.trod_struct Tryd.underlying78 h
 rw [show Tryd.prog.cellsOf 78 = 9 by kernel_rfl] at hl
 clear h
 have hx : xs.length = 4 := hlen
 have hcs : (Value.agg c).cells.toList = c.toList := rfl
 rw [hcs] at hl hf
 obtain ⟨cs, rfl⟩ : ∃ cs : List Value, c = cs.toArray := ⟨c.toList, by simp⟩
 simp only at hl hf
 match cs, hl with
 | [c0, c1, c2, c3, c4, c5, c6, c7, c8], _ =>
  have h0 : DataW.trod enc Tryd.prog W 0 (fun _ => true) true f 61 (([c0, c1, c2, c3, c4, c5, c6, c7, c8].drop 0).take (Tryd.prog.cellsOf 61)) = xs[0]? := hf 0 _ rfl
  have h1 : DataW.trod enc Tryd.prog W 0 (fun _ => true) true f 22 (([c0, c1, c2, c3, c4, c5, c6, c7, c8].drop 6).take (Tryd.prog.cellsOf 22)) = xs[1]? := hf 1 _ rfl
  have h2 : DataW.trod enc Tryd.prog W 0 (fun _ => true) true f 3 (([c0, c1, c2, c3, c4, c5, c6, c7, c8].drop 7).take (Tryd.prog.cellsOf 3)) = xs[2]? := hf 2 _ rfl
  have h3 : DataW.trod enc Tryd.prog W 0 (fun _ => true) true f 3 (([c0, c1, c2, c3, c4, c5, c6, c7, c8].drop 8).take (Tryd.prog.cellsOf 3)) = xs[3]? := hf 3 _ rfl
  clear hf
  simp only [cells1, show Tryd.prog.cellsOf 22 = 1 by kernel_rfl, show Tryd.prog.cellsOf 61 = 6 by kernel_rfl, List.drop_zero, List.drop_succ_cons, List.take_succ_cons, List.take_zero] at h0 h1 h2 h3
  rw [List.getElem?_eq_getElem (by omega)] at h0 h1 h2 h3
  rw [(Prod.mk.inj ex).1] at hw
  obtain ⟨vP, m, a, vC, vS, fn, ps, qs, S, e, k1, k2, k3⟩ := case_of h0 (wok_field (i := 0) Tryd.underlying78 hw rfl (List.getElem?_eq_getElem (by omega)))
  obtain ⟨z2, q2, _⟩ := DataW.trod_int Tryd.underlying3 h2
  obtain ⟨z3, q3, _⟩ := DataW.trod_int Tryd.underlying3 h3
  simp at q2 q3 e
  obtain ⟨rfl, rfl, rfl, rfl, rfl, rfl⟩ := e
  subst q2 q3
  obtain ⟨ks, hk⟩ := sl_of h1
  exact ⟨_, m, a, _, _, fn, c6, z2, z3, ps, qs, S, ks, rfl, k1, k2, k3, hk⟩
theorem fuel_main {w : World} {aP aC aS : Option Addr} {lP cP lC cC nS cS : Nat} {ps : List Int} {qs : List (Int × Int)} {S : List (List Wt)} {p : List Addr} (h17 : E3 w p) (m a fn : Int) (hP : Sl w (.slice aP lP cP) ps) (hp2 : ps.length <= 140737488351232) (hC : SlC w (.slice aC lC cC) qs) (hq2 : qs.length <= 140737488351232) (hS : SSrcU w (.slice aS nS cS) S) {aK : Option Addr} {lK cK : Nat} {ks : List Int} (hK : Sl w (.slice aK lK cK) ks) (less more : Int) : Calls Tryd.prog 5 #[.agg #[.slice aP lP cP, .int .i64 m, .int .i64 a, .slice aC lC cC, .slice aS nS cS, .int .i64 fn, .slice aK lK cK, .int .i64 less, .int .i64 more]] w (Vb w (.bool true)) := by
  have AB := Za (Zd w (.cells #[.slice aP lP cP, .int .i64 m, .int .i64 a, .slice aC lC cC, .slice aS nS cS, .int .i64 fn, .slice aK lK cK, .int .i64 less, .int .i64 more] 78))
  have FX := Za (B_ w (.cells #[.slice aP lP cP, .int .i64 m, .int .i64 a, .slice aC lC cC, .slice aS nS cS, .int .i64 fn, .slice aK lK cK, .int .i64 less, .int .i64 more] 78))
  have AL := Za (fun w3 (h3 : Below w.heap.size w w3) => alive12 (h17.below (Nat.le_refl _) h3))
  have BG := Za (fun w3 (h3 : Below w.heap.size w w3) => big_any m a fn (hP.below (Nat.le_refl _) h3) hp2 (hC.below h3) hq2 (hS.bel h3))
  have H17 := Za h17
  have HP := Za hP
  have HC := Za hC
  have HK := Za hK
  obtain ⟨_, _, _, eK, hlK⟩ := hK.slice
  cases eK
  have HLK := Za hlK
  obtain ⟨f1, hf1, ef1⟩ := small_mod less 200 (by omega) (by omega)
  obtain ⟨f2, hf2, ef2⟩ := small_mod more 100 (by omega) (by omega)
  have EF : Hid (wrap64 ((IntKind.u64.wrap less).tmod 200) = (f1 : Int) /\ wrap64 ((IntKind.u64.wrap more).tmod 100) = (f2 : Int)) := Za ⟨ef1, ef2⟩
  clear h17 hP hp2 hC hq2 hS hK hlK ef1 ef2
  obtain ⟨bf, hbf⟩ : ∃ b, b = w.heap.size := ⟨_, rfl⟩
  rw [← hbf] at FX
  go_enter Tryd.func5, Tryd.ntmps5
  go_upto_region 1 with fail
  generalize w.alloc _ = wf at *
  rw [← hbf]
  clear hbf
  refine wp_region_T (S := fun w' => w'.heap[bf]? = some (.cells #[.slice aP lP cP, .int .i64 m, .int .i64 a, .slice aC lC cC, .slice aS nS cS, .int .i64 fn, .slice aK lK cK, .int .i64 less, .int .i64 more] 78 (0, 0))) (fun _ => true) ZT FX.out (fun hH => ?_)
  have FD : Hid (wf.drew.heap[bf]? = some (.cells #[.slice aP lP cP, .int .i64 m, .int .i64 a, .slice aC lC cC, .slice aS nS cS, .int .i64 fn, .slice aK lK cK, .int .i64 less, .int .i64 more] 78 (0, 0))) := FX
  have AD := Za (Zt AB.out)
  clear FX AB
  have FX := FD
  have AB := AD
  clear FD AD
  generalize wf.drew = wd at *
  refine Zu (i := 0) (v := ?_) rfl (by kernel_rfl) (by kernel_rfl) (by kernel_rfl) (fun _ _ _ h => h) (Or.inl ⟨by rfl, ?_⟩) ?_
  rotate_left 1
  · (intro w _; go_simp <;> with_reducible rfl)
  simp only [Act.put, S_]
  refine T_take (i := 1) (v := ?_) rfl (by kernel_rfl) (by kernel_rfl) (by kernel_rfl) (by kernel_rfl) (fun _ _ _ h => h) (Or.inl ⟨by rfl, ?_⟩) hH ?_
  rotate_left 1
  · (intro w hSw; have q0 := Zb hSw 0 _ rfl; have q1 := Zb hSw 1 _ rfl; have q2 := Zb hSw 2 _ rfl; have q3 := Zb hSw 3 _ rfl; have q4 := Zb hSw 4 _ rfl; have q5 := Zb hSw 5 _ rfl; clear hSw; go_simp <;> with_reducible rfl)
  simp only [Act.put, S_]
  refine Zu (i := 2) (v := ?_) rfl (by kernel_rfl) (by kernel_rfl) (by kernel_rfl) (fun _ _ _ h => h) (Or.inl ⟨by rfl, ?_⟩) ?_
  rotate_left 1
  · (intro w _; go_simp <;> with_reducible rfl)
  simp only [Act.put, S_]
  refine T_take (i := 3) (v := ?_) rfl (by kernel_rfl) (by kernel_rfl) (by kernel_rfl) (by kernel_rfl) (fun _ _ _ h => h) (Or.inl ⟨by rfl, ?_⟩) hH ?_
  rotate_left 1
  · (intro w hSw; have q := Zb hSw 6 _ rfl; clear hSw; go_simp <;> with_reducible rfl)
  simp only [Act.put, S_]
  refine Zu (i := 4) (v := ?_) rfl (by kernel_rfl) (by kernel_rfl) (by kernel_rfl) (fun _ _ _ h => h) (Or.inl ⟨by rfl, ?_⟩) ?_
  rotate_left 1
  · (intro w _; go_simp <;> with_reducible rfl)
  simp only [Act.put, S_]
  refine T_take (i := 5) (v := ?_) rfl (by kernel_rfl) (by kernel_rfl) (by kernel_rfl) (by kernel_rfl) (fun _ _ _ h => h) (Or.inl ⟨by rfl, ?_⟩) hH ?_
  rotate_left 1
  · (intro w hSw; have q := Zb hSw 7 _ rfl; clear hSw; go_simp <;> with_reducible rfl)
  simp only [Act.put, S_]
  refine Zu (i := 6) (v := ?_) rfl (by kernel_rfl) (by kernel_rfl) (by kernel_rfl) (fun _ _ _ h => h) (Or.inl ⟨by rfl, ?_⟩) ?_
  rotate_left 1
  · (intro w _; go_simp <;> with_reducible rfl)
  simp only [Act.put, S_]
  refine T_take (i := 7) (v := ?_) rfl (by kernel_rfl) (by kernel_rfl) (by kernel_rfl) (by kernel_rfl) (fun _ _ _ h => h) (Or.inl ⟨by rfl, ?_⟩) hH ?_
  rotate_left 1
  · (intro w hSw; have q := Zb hSw 8 _ rfl; clear hSw; go_simp <;> with_reducible rfl)
  simp only [Act.put, S_]
  clear hH
  refine Zy (rs := [8]) (by kernel_rfl) (by decide) ?_
  refine Zl.cons rfl (fun K1 hK1 => ?_) Zl.nil
  have F1 := Za (((Zd wd (.cells #[.slice none 0 0, .int .i64 0, .int .i64 0, .slice none 0 0, .slice none 0 0, .int .i64 0] 61)).block bf (Ze FX.out)).trans FX.out)
  have ZX := Za (B_ wd (.cells #[.slice none 0 0, .int .i64 0, .int .i64 0, .slice none 0 0, .slice none 0 0, .int .i64 0] 61))
  have AZ := Za (Zs AB.out (.cells #[.slice none 0 0, .int .i64 0, .int .i64 0, .slice none 0 0, .slice none 0 0, .int .i64 0] 61))
  have LZ := Za AB.out.size
  have LX : Hid (bf < wd.heap.size) := Za (Ze FX.out)
  go_simp
  refine hK1.out _ _ (fun _ => F1.out) (fun _ => ?_)
  clear hK1 K1
  obtain ⟨bx, hbx⟩ : ∃ b, wd.heap.size = b := ⟨_, rfl⟩
  rw [hbx] at ZX LZ LX ⊢
  clear hbx
  generalize wd.alloc _ = wz at *
  refine Zy (rs := [9]) (by kernel_rfl) (by decide) ?_
  refine Zl.cons rfl (fun K1 hK1 => ?_) Zl.nil
  have BX : Hid (((((((wz.setCell ⟨bx, 0, none⟩ (.slice aP lP cP)).setCell ⟨bx, 1, none⟩ (.int .i64 m)).setCell ⟨bx, 2, none⟩ (.int .i64 a)).setCell ⟨bx, 3, none⟩ (.slice aC lC cC)).setCell ⟨bx, 4, none⟩ (.slice aS nS cS)).setCell ⟨bx, 5, none⟩ (.int .i64 fn)).heap[bx]? = some (.cells #[.slice aP lP cP, .int .i64 m, .int .i64 a, .slice aC lC cC, .slice aS nS cS, .int .i64 fn] 61 (0, 0))) := Za (set6 ZX.out (.slice aP lP cP) (.int .i64 m) (.int .i64 a) (.slice aC lC cC) (.slice aS nS cS) (.int .i64 fn))
  have AX : Hid (Below w.heap.size w ((((((wz.setCell ⟨bx, 0, none⟩ (.slice aP lP cP)).setCell ⟨bx, 1, none⟩ (.int .i64 m)).setCell ⟨bx, 2, none⟩ (.int .i64 a)).setCell ⟨bx, 3, none⟩ (.slice aC lC cC)).setCell ⟨bx, 4, none⟩ (.slice aS nS cS)).setCell ⟨bx, 5, none⟩ (.int .i64 fn))) := Za (bel6 AZ.out LZ.out (.slice aP lP cP) (.int .i64 m) (.int .i64 a) (.slice aC lC cC) (.slice aS nS cS) (.int .i64 fn))
  have p0 := Zb ZX.out 0 _ rfl
  have p1 := Zb ZX.out 1 _ rfl
  have p2 := Zb ZX.out 2 _ rfl
  have p3 := Zb ZX.out 3 _ rfl
  have p4 := Zb ZX.out 4 _ rfl
  have p5 := Zb ZX.out 5 _ rfl
  have f0 := Zc ZX.out 0
  have f1 := Zc ZX.out 1
  have f2 := Zc ZX.out 2
  have f3 := Zc ZX.out 3
  have f4 := Zc ZX.out 4
  have f5 := Zc ZX.out 5
  go_simp
  refine hK1.out _ _ (fun _ => (ne6 (by have := LX.out; omega)).trans F1.out) (fun _ => ?_)
  clear hK1 K1 p0 f0 p1 f1 p2 f2 p3 f3 p4 f4 p5 f5
  generalize ((((((wz.setCell ⟨bx, 0, none⟩ (.slice aP lP cP)).setCell ⟨bx, 1, none⟩ (.int .i64 m)).setCell ⟨bx, 2, none⟩ (.int .i64 a)).setCell ⟨bx, 3, none⟩ (.slice aC lC cC)).setCell ⟨bx, 4, none⟩ (.slice aS nS cS)).setCell ⟨bx, 5, none⟩ (.int .i64 fn)) = w1 at *
  clear FX AB F1 ZX LX AZ LZ
  have AB := AX
  clear AX
  refine Zu (i := 10) (v := ?_) rfl (by kernel_rfl) (by kernel_rfl) (by kernel_rfl) (fun _ _ _ h => h) (Or.inl ⟨by rfl, ?_⟩) ?_
  rotate_left 1
  · (intro w _; go_simp <;> with_reducible rfl)
  simp only [Act.put, S_]
  refine Zu (i := 11) (v := ?_) rfl (by kernel_rfl) (by kernel_rfl) (by kernel_rfl) (fun _ _ _ h => h) (Or.inl ⟨by rfl, ?_⟩) ?_
  rotate_left 1
  · (intro w _; go_simp <;> with_reducible rfl)
  simp only [Act.put, S_]
  refine Zu (i := 12) (v := ?_) rfl (by kernel_rfl) (by kernel_rfl) (by kernel_rfl) (fun _ _ _ h => h) (Or.inl ⟨by rfl, ?_⟩) ?_
  rotate_left 1
  · (intro w _; go_simp <;> with_reducible rfl)
  simp only [Act.put, S_]
  refine T_done (by kernel_rfl) ?_ _
  go_wp2_with fail
  refine (AL.out _ AB.out).mono ?_
  rintro e w2 ⟨rfl, hb2⟩
  have BX9 := Za ((hb2.block bx (Ze BX.out)).trans BX.out)
  clear BX
  have BX := BX9
  clear BX9
  have AB9 := Za (Zi AB.out hb2)
  clear AB
  have AB := AB9
  clear AB9
  clear hb2 AL
  have x0 := Zb BX.out 0 _ rfl
  have x1 := Zb BX.out 1 _ rfl
  have x2 := Zb BX.out 2 _ rfl
  have x3 := Zb BX.out 3 _ rfl
  have x4 := Zb BX.out 4 _ rfl
  have x5 := Zb BX.out 5 _ rfl
  go_wp2_with fail
  clear x0 x1 x2 x3 x4 x5
  refine (BG.out _ AB.out).mono ?_
  rintro e w3 ⟨b, rfl, hb3, hsr⟩
  have BX9 := Za ((hb3.block bx (Ze BX.out)).trans BX.out)
  have A3 := Za (Zi AB.out hb3)
  cases b with
  | true =>
    clear hb3 BG hsr
    go_wp2_with fail
    go_ret
    exact Vb.mk rfl A3.out
  | false =>
    have SS := Za ((hsr rfl).bel hb3)
    clear hb3 BG hsr AB BX
    have BX := BX9
    clear BX9
    by_cases hbk : 1000 < lK
    · have hbk' : (1000 : Int) < (lK : Int) := by omega
      go_wp2_with fail
      go_ret
      exact Vb.mk (by simp) A3.out
    · have hbk' : ¬ (1000 : Int) < (lK : Int) := by omega
      have hK1 : Hid (ks.length <= 1000) := Za (by have := HLK.out; omega)
      clear HLK hbk
      have MA := Za (fun w4 (h4 : Below w.heap.size w w4) (hs : SSrc w4 (.slice aS nS cS) S) => made_any (H17.out.below (Nat.le_refl _) h4) m a fn (HP.out.below (Nat.le_refl _) h4) (HC.out.below h4) hs)
      have LI := Za (fun w4 (h4 : Below w.heap.size w w4) => listed_any (HK.out.below (Nat.le_refl _) h4) (by have := hK1.out; omega))
      clear HP HC HK
      generalize okN ps m qs a = ok at *
      generalize newS ps m qs a = s0 at *
      obtain ⟨ef1, ef2⟩ := EF.out
      have x0 := Zb BX.out 0 _ rfl
      have x1 := Zb BX.out 1 _ rfl
      have x2 := Zb BX.out 2 _ rfl
      have x3 := Zb BX.out 3 _ rfl
      have x4 := Zb BX.out 4 _ rfl
      have x5 := Zb BX.out 5 _ rfl
      go_wp2_with fail
      try rw [ef1, ef2]
      clear x0 x1 x2 x3 x4 x5 ef1 ef2 EF
      refine (MA.out _ A3.out SS.out).mono ?_
      rintro e w4 (⟨rfl, rfl, hb4⟩ | ⟨rfl, g1, gm1, G1, M1, rfl, rn1, _, _, lo1, hb4⟩)
      · have A4 := Za (Zi A3.out hb4)
        clear hb4
        go_wp2_with fail
        go_ret
        exact Vb.mk rfl A4.out
      · have A4 := Za (Zi A3.out hb4)
        have SS4 := Za (SS.out.bel hb4)
        have RA := Za rn1
        have LA : Hid (∀ k, G1 k -> w.heap.size <= k) := Za (fun k hk => by have h1 := lo1 k (.inl hk); have h2 := A3.out.size; omega)
        have BX9 := Za ((hb4.block bx (Ze BX.out)).trans BX.out)
        clear BX
        have BX := BX9
        clear BX9
        clear hb4 A3 SS rn1 lo1
        have x0 := Zb BX.out 0 _ rfl
        have x1 := Zb BX.out 1 _ rfl
        have x2 := Zb BX.out 2 _ rfl
        have x3 := Zb BX.out 3 _ rfl
        have x4 := Zb BX.out 4 _ rfl
        have x5 := Zb BX.out 5 _ rfl
        go_wp2_with fail
        clear x0 x1 x2 x3 x4 x5
        refine (MA.out _ A4.out SS4.out).mono ?_
        rintro e w5 (⟨h, _⟩ | ⟨_, g2, gm2, G2, M2, rfl, rn2, _, _, lo2, hb5⟩)
        · cases h
        · have DJ : Hid (∀ k, G2 k -> ¬ G1 k) := Za (fun k h1 h2 => by have h3 := lo2 k (.inl h1); have h4 := RA.out.fb k h2; omega)
          have LB : Hid (∀ k, G2 k -> w.heap.size <= k) := Za (fun k hk => by have h1 := lo2 k (.inl hk); have h2 := A4.out.size; omega)
          have RB := Za rn2
          have BW := Za (Zi A4.out hb5)
          have RA9 := Za (RA.out.bel hb5)
          clear RA
          have RA := RA9
          clear RA9
          clear hb5 A4 SS4 rn2 lo2 BX MA
          go_wp2_with fail
          refine (LI.out _ BW.out).mono ?_
          rintro e w6 ⟨v1, F1, rfl, pk1, lf1, hb6⟩
          obtain ⟨ob1, nb1, rfl⟩ := pk1.form
          have SA : Hid (Sd w w6 G1 F1 g1 S (.func (.func 73) #[] #[.pointer (some ⟨ob1, 0, none⟩), .pointer (some ⟨nb1, 0, none⟩)]) ks (startR S s0 fn) 0) := Za ⟨RA.out.bel hb6, pk1, fun k h1 h2 => by have h3 := lf1 k h1; have h4 := RA.out.fb k h2; omega, fun k hk => hk.elim (LA.out k) (fun h => Nat.le_trans BW.out.size (lf1 k h))⟩
          have DA : Hid (∀ k, G2 k -> ¬ (G1 k ∨ F1 k)) := Za (fun k h1 h2 => by
            rcases h2 with h2 | h2
            · exact DJ.out k h1 h2
            · have h3 := lf1 k h2
              have h4 := RB.out.fb k h1
              omega)
          have RB9 := Za (RB.out.bel hb6)
          clear RB
          have RB := RB9
          clear RB9
          have BW9 := Za (Zi BW.out hb6)
          clear BW
          have BW := BW9
          clear BW9
          clear hb6 pk1 lf1 RA DJ LA
          go_wp2_with fail
          refine (LI.out _ BW.out).mono ?_
          rintro e w7 ⟨v2, F2, rfl, pk2, lf2, hb7⟩
          obtain ⟨ob2, nb2, rfl⟩ := pk2.form
          have SB : Hid (Sd w w7 G2 F2 g2 S (.func (.func 73) #[] #[.pointer (some ⟨ob2, 0, none⟩), .pointer (some ⟨nb2, 0, none⟩)]) ks (startR S s0 fn) 0) := Za ⟨RB.out.bel hb7, pk2, fun k h1 h2 => by have h3 := lf2 k h1; have h4 := RB.out.fb k h2; omega, fun k hk => hk.elim (LB.out k) (fun h => Nat.le_trans BW.out.size (lf2 k h))⟩
          have DJ : Hid (∀ k, G2 k ∨ F2 k -> ¬ (G1 k ∨ F1 k)) := Za (fun k h1 h2 => by
            rcases h1 with h1 | h1
            · exact DA.out k h1 h2
            · have h3 := lf2 k h1
              have h4 := SA.out.lt k h2
              omega)
          have SA9 := Za (SA.out.bel hb7)
          clear SA
          have SA := SA9
          clear SA9
          have BW9 := Za (Zi BW.out hb7)
          clear BW
          have BW := BW9
          clear BW9
          clear hb7 pk2 lf2 RB DA LB LI
          have PA := Za (SA.out.play H17.out BW.out (f1 : Nat) (by omega))
          have PB := Za (fun (W : World) (h : Sd w W G2 F2 g2 S (.func (.func 73) #[] #[.pointer (some ⟨ob2, 0, none⟩), .pointer (some ⟨nb2, 0, none⟩)]) ks (startR S s0 fn) 0) (hb : Below w.heap.size w W) => h.play H17.out hb ((f1 : Int) + (f2 : Int)) (by omega))
          obtain ⟨ra, hra⟩ : ∃ q, playW S ks (f1 : Nat) (startR S s0 fn) 0 = q := ⟨_, rfl⟩
          obtain ⟨rb, hrb⟩ : ∃ q, playW S ks ((f1 : Int) + (f2 : Int)) (startR S s0 fn) 0 = q := ⟨_, rfl⟩
          have TW : Hid (playW S ks ((f1 : Int) + (f2 : Int)) ra.1 ra.2 = rb) := Za (by rw [← hra, ← hrb]; exact playW_two (by omega) _ _ _ (Nat.le_refl _))
          have TB : Hid (playW S ks ((f1 : Int) + (f2 : Int)) rb.1 rb.2 = rb) := Za (by
            have := playW_two (S := S) (l := ks) (f1 := (f1 : Int) + (f2 : Int)) (f2 := (f1 : Int) + (f2 : Int)) (by omega) _ (startR S s0 fn) 0 (Nat.le_refl _)
            rw [hrb] at this
            exact this)
          have PX : Hid (ra.1.ev <+: rb.1.ev) := Za (by rw [← TW.out]; exact play_pre _ _ _)
          have LE : Hid (ra.1.ev.length <= 1000 /\ rb.1.ev.length <= 1000) := Za ⟨by rw [← hra]; exact play_le 1000 (by omega) _ _ _ (by rw [start_ev]; simp), by rw [← hrb]; exact play_le 1000 (by omega) _ _ _ (by rw [start_ev]; simp)⟩
          rw [hra] at PA
          rw [hrb] at PB
          clear hra hrb hK1
          go_wp2_with fail
          refine PA.out.mono ?_
          rintro e w8 ⟨rfl, G3, sa, ch, bw⟩
          obtain ⟨sb8, dj8⟩ := SB.out.ch ch DJ.out
          clear SA SB DJ BW PA
          have SA := Za sa
          have SB := Za sb8
          have DJ := Za dj8
          have BW := Za bw
          clear sa sb8 dj8 bw ch
          obtain ⟨E0, hE0⟩ : ∃ E : En, endP ra.1 = E := ⟨_, rfl⟩
          rw [hE0]
          have HE : Hid (¬ E0.o = 4 -> rb = ra) := Za (fun h4 => by
            have hr : ¬ (Ys ra.1 = true /\ (ra.1.ev.length : Int) < (f1 : Int) + (f2 : Int)) := fun h => h4 (by rw [← hE0]; unfold endP; rw [if_pos h.1])
            rw [← TW.out, playW_stop hr])
          clear hE0
          obtain ⟨eo, ef, eg, en, ea⟩ := E0
          simp only at HE
          unfold EnV
          simp only
          have HB9 := Za (Zd w8 (.cells #[.int .i64 eo, .int .i64 ef, .int .i64 eg, .int .i64 en, .int .i64 ea] 67))
          have EX := Za (B_ w8 (.cells #[.int .i64 eo, .int .i64 ef, .int .i64 eg, .int .i64 en, .int .i64 ea] 67))
          have EG : Hid (¬ (G3 w8.heap.size ∨ F1 w8.heap.size) /\ ¬ (G2 w8.heap.size ∨ F2 w8.heap.size)) := Za ⟨fun h => by have := SA.out.lt _ h; omega, fun h => by have := SB.out.lt _ h; omega⟩
          have SA9 := Za (SA.out.bel HB9.out)
          clear SA
          have SA := SA9
          clear SA9
          have SB9 := Za (SB.out.bel HB9.out)
          clear SB
          have SB := SB9
          clear SB9
          have BW9 := Za (Zi BW.out HB9.out)
          clear BW
          have BW := BW9
          clear BW9
          clear HB9
          go_upto_region 13 with fail
          obtain ⟨be, hbe⟩ : ∃ b, b = w8.heap.size := ⟨_, rfl⟩
          generalize w8.alloc _ = w9 at *
          rw [← hbe] at EX EG ⊢
          clear hbe
          have hs12 : wrap64 ((f1 : Int) + (f2 : Int)) = (f1 : Int) + (f2 : Int) := by
            unfold wrap64
            omega
          go_wp2_with fail
          refine (PB.out _ SB.out BW.out).mono ?_
          rintro e w10 ⟨rfl, G4, sb, ch, bw⟩
          obtain ⟨sa10, dj10⟩ := SA.out.ch ch (fun k h1 h2 => DJ.out k h2 h1)
          have EX9 := Za ((ch.blk be (Ze EX.out) EG.out.2).trans EX.out)
          clear SA SB DJ BW PB EX EG
          have SA := Za sa10
          have SB := Za sb
          have DJ : Hid (∀ k, G3 k ∨ F1 k -> ¬ (G4 k ∨ F2 k)) := Za dj10
          have BW := Za bw
          have EX := EX9
          clear sa10 sb dj10 bw ch EX9
          obtain ⟨na, hna⟩ : ∃ n, n = ra.1.ev.length := ⟨_, rfl⟩
          obtain ⟨nb, hnb⟩ : ∃ n, n = rb.1.ev.length := ⟨_, rfl⟩
          have hle : na <= nb := by have := PX.out.length_le; omega
          have hn1 : nb <= 1000 := by have := LE.out.2; omega
          have HNA := Za hna
          have HNB := Za hnb
          clear hna hnb
          go_wp2_with fail
          refine (Events_any SA.out.rn (by have := LE.out.1; omega)).mono ?_
          rintro e w11 ⟨a1, c1, rfl, o1, hb⟩
          rw [← HNA.out]
          have K1 : Hid (EvK w11 (fun k => G3 k ∨ F1 k) (fun k => G4 k ∨ F2 k) (.slice a1 ra.1.ev.length c1) ra.1.ev) := Za ⟨Ym o1, fun k hk h => by have h1 := (Zf o1 hk).1; have h2 := SA.out.lt k h; omega, fun k hk h => by have h1 := (Zf o1 hk).1; have h2 := SB.out.lt k h; omega⟩
          have SA9 := Za (SA.out.bel hb)
          clear SA
          have SA := SA9
          clear SA9
          have SB9 := Za (SB.out.bel hb)
          clear SB
          have SB := SB9
          clear SB9
          have BW9 := Za (Zi BW.out hb)
          clear BW
          have BW := BW9
          clear BW9
          have EX9 := Za ((hb.block be (Ze EX.out)).trans EX.out)
          clear EX
          have EX := EX9
          clear EX9
          clear o1 hb
          go_wp2_with fail
          refine (Events_any SB.out.rn (by have := LE.out.2; omega)).mono ?_
          rintro e w12 ⟨a2, c2, rfl, o2, hb⟩
          rw [← HNB.out]
          have K2 : Hid (EvK w12 (fun k => G3 k ∨ F1 k) (fun k => G4 k ∨ F2 k) (.slice a2 rb.1.ev.length c2) rb.1.ev) := Za ⟨Ym o2, fun k hk h => by have h1 := (Zf o2 hk).1; have h2 := SA.out.lt k h; omega, fun k hk h => by have h1 := (Zf o2 hk).1; have h2 := SB.out.lt k h; omega⟩
          have K19 := Za (K1.out.bel hb)
          clear K1
          have K1 := K19
          clear K19
          have SA9 := Za (SA.out.bel hb)
          clear SA
          have SA := SA9
          clear SA9
          have SB9 := Za (SB.out.bel hb)
          clear SB
          have SB := SB9
          clear SB9
          have BW9 := Za (Zi BW.out hb)
          clear BW
          have BW := BW9
          clear BW9
          have EX9 := Za ((hb.block be (Ze EX.out)).trans EX.out)
          clear EX
          have EX := EX9
          clear EX9
          clear o2 hb
          rw [← HNA.out] at K1
          rw [← HNB.out] at K2
          have hcap : nb <= c2 := by
            obtain ⟨_, _, e, h1, _⟩ := Zo K2.out.own
            injection e with _ _ e3
            have := HNB.out
            omega
          have hcap2 : na <= c2 := by omega
          have hgt : ¬ (nb : Int) < (na : Int) := by omega
          have SE : Hid (Calls Tryd.prog 28 #[.slice a1 na c1, .slice a2 na c2] w12 (Vb w12 (.bool true))) := Za (by
            have h1 := EvS.of_own K1.out.own
            have h2 := (EvS.of_own K2.out.own).take PX.out
            rw [← HNA.out] at h2
            have h3 := SameEvents_any h1 h2
            rw [(evsB_iff _ _).2 rfl] at h3
            exact h3)
          clear hs12 hcap
          go_wp2_with fail
          refine SE.out.mono ?_
          rintro e w13 ⟨rfl, hb⟩
          have K29 := Za (K2.out.bel hb)
          clear K1 K2 SE
          have K2 := K29
          have SA9 := Za (SA.out.bel hb)
          clear SA
          have SA := SA9
          clear SA9
          have SB9 := Za (SB.out.bel hb)
          clear SB
          have SB := SB9
          clear SB9
          have BW9 := Za (Zi BW.out hb)
          clear BW
          have BW := BW9
          clear BW9
          have EX9 := Za ((hb.block be (Ze EX.out)).trans EX.out)
          clear EX
          have EX := EX9
          clear EX9
          clear hb K29
          have y0 := Zb EX.out 0 _ rfl
          by_cases h4 : eo = 4
          · have TWP := Za (fun (W : World) (h : Sd w W G3 F1 g1 S (.func (.func 73) #[] #[.pointer (some ⟨ob1, 0, none⟩), .pointer (some ⟨nb1, 0, none⟩)]) ks ra.1 ra.2) (hb : Below w.heap.size w W) => h.play H17.out hb ((f1 : Int) + (f2 : Int)) (by omega))
            have TBP := Za (fun (W : World) (h : Sd w W G4 F2 g2 S (.func (.func 73) #[] #[.pointer (some ⟨ob2, 0, none⟩), .pointer (some ⟨nb2, 0, none⟩)]) ks rb.1 rb.2) (hb : Below w.heap.size w W) => h.play H17.out hb ((f1 : Int) + (f2 : Int)) (by omega))
            rw [TW.out] at TWP
            rw [TB.out] at TBP
            rw [h4] at y0
            have hs12 : wrap64 ((f1 : Int) + (f2 : Int)) = (f1 : Int) + (f2 : Int) := by
              unfold wrap64
              omega
            clear h4 HE TW TB PX
            go_wp2_with fail
            clear y0 EX
            refine (TWP.out _ SA.out BW.out).mono ?_
            rintro e w14 ⟨rfl, G5, sa, ch, bw⟩
            obtain ⟨sb14, dj14⟩ := SB.out.ch ch (fun k h1 h2 => DJ.out k h2 h1)
            have K29 := Za (K2.out.chX ch)
            clear SA SB DJ BW TWP K2
            have SA := Za sa
            have SB := Za sb14
            have BW := Za bw
            have K2 := K29
            have DJ := Za dj14
            clear sa sb14 dj14 bw ch K29
            obtain ⟨E1, hE1⟩ : ∃ E : En, endP rb.1 = E := ⟨_, rfl⟩
            rw [hE1]
            rw [hE1] at TBP
            clear hE1
            obtain ⟨zo, zf, zg, zn, za⟩ := E1
            unfold EnV at TBP ⊢
            simp only at TBP ⊢
            go_wp2_with fail
            refine (TBP.out _ SB.out BW.out).mono ?_
            rintro e w15 ⟨rfl, G6, sb, ch, bw⟩
            obtain ⟨sa15, dj15⟩ := SA.out.ch ch (fun k h1 h2 => DJ.out k h2 h1)
            have K29 := Za (K2.out.swap.chX ch)
            clear SA SB DJ BW TBP K2
            have SA := Za sa15
            have BW := Za bw
            have K2 := K29
            clear sa15 sb dj15 bw ch K29
            have EQ : ∀ w, (binOp .eql 67 (.agg #[.int .i64 zo, .int .i64 zf, .int .i64 zg, .int .i64 zn, .int .i64 za]) (.agg #[.int .i64 zo, .int .i64 zf, .int .i64 zg, .int .i64 zn, .int .i64 za])).run Tryd.prog w = .ok (.bool true) w := fun w => by
              rw [eql_en]
              simp
            go_wp2_with fail
            refine (Events_any SA.out.rn (by have := LE.out.2; omega)).mono ?_
            rintro e w16 ⟨a3, c3, rfl, o3, hb⟩
            rw [← HNB.out]
            have SE2 : Hid (Calls Tryd.prog 28 #[.slice a3 nb c3, .slice a2 nb c2] w16 (Vb w16 (.bool true))) := Za (by
              have h1 := EvS.of_own (Ym o3)
              have h2 := EvS.of_own (K2.out.bel hb).own
              rw [← HNB.out] at h1
              have h3 := SameEvents_any h1 h2
              rw [(evsB_iff _ _).2 rfl] at h3
              exact h3)
            have BW9 := Za (Zi BW.out hb)
            clear o3 hb BW EQ
            go_wp2_with fail
            refine SE2.out.mono ?_
            rintro e w17 ⟨rfl, hb⟩
            have BW := Za (Zi BW9.out hb)
            clear hb
            go_wp2_with fail
            go_ret
            exact Vb.mk (by simp) BW.out
          · have hne4 : (eo != 4) = true := by simp [h4]
            have hrb := HE.out h4
            have hnn : nb = na := by rw [HNB.out, HNA.out, hrb]
            subst hnn
            have EA := Za (fun (W : World) (G : Nat -> Prop) (g : Nat) (h : Rn W G g S ra.1) (hb : Below w.heap.size w W) => End_any h (H17.out.below (Nat.le_refl _) hb).e2)
            rw [hrb] at SB
            obtain ⟨E1, hE1⟩ : ∃ E : En, endR ra.1 = E := ⟨_, rfl⟩
            rw [hE1] at EA
            clear hE1 hrb h4 HE TW TB PX
            obtain ⟨zo, zf, zg, zn, za⟩ := E1
            unfold EnV at EA
            simp only at EA
            have EQ : ∀ w, (binOp .eql 67 (.agg #[.int .i64 zo, .int .i64 zf, .int .i64 zg, .int .i64 zn, .int .i64 za]) (.agg #[.int .i64 zo, .int .i64 zf, .int .i64 zg, .int .i64 zn, .int .i64 za])).run Tryd.prog w = .ok (.bool true) w := fun w => by
              rw [eql_en]
              simp
            go_wp2_with fail
            clear y0 EX
            refine (EA.out _ _ _ SA.out.rn BW.out).mono ?_
            rintro e w14 ⟨rfl, hb⟩
            have SB9 := Za (SB.out.bel hb)
            have BW9 := Za (Zi BW.out hb)
            clear SA SB BW hb
            go_wp2_with fail
            refine (EA.out _ _ _ SB9.out.rn BW9.out).mono ?_
            rintro e w15 ⟨rfl, hb⟩
            have BW := Za (Zi BW9.out hb)
            clear SB9 BW9 hb
            go_wp2_with fail
            go_ret
            exact Vb.mk (by simp) BW.out
theorem fuel_all {w : World} {vP vC vS vK : Value} {ps ks : List Int} {qs : List (Int × Int)} {S : List (List Wt)} {p : List Addr} (h17 : E3 w p) (m a fn : Int) (hP : Sl w vP ps) (hp2 : ps.length <= 140737488351232) (hC : SlC w vC qs) (hq2 : qs.length <= 140737488351232) (hS : SSrcU w vS S) (hK : Sl w vK ks) (less more : Int) : Calls Tryd.prog 5 #[.agg #[vP, .int .i64 m, .int .i64 a, vC, vS, .int .i64 fn, vK, .int .i64 less, .int .i64 more]] w (Vb w (.bool true)) := by
 obtain ⟨aP, lP, cP, rfl, _⟩ := hP.slice
 obtain ⟨aC, cC, rfl, _⟩ := id hC
 obtain ⟨aS, cS, rfl, _⟩ := id hS
 obtain ⟨aK, lK, cK, rfl, _⟩ := hK.slice
 exact fuel_main h17 m a fn hP hp2 hC hq2 hS hK less more
end Go.Proofs.YtghfjnnmpmfboaaDoor.Ck
