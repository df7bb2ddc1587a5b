/- Texts of this proof, packed: contracts of the program's functions, and the plain model that they are held against. -/
import Derived.Test.YtghfjnnmpmfboaaDoorQaq
set_option maxRecDepth 20000
set_option maxHeartbeats 4000000
namespace Go.Proofs.YtghfjnnmpmfboaaDoor.Ck
open Go.RowKit
theorem twins_main {w : World} {aP aC aS : Option Addr} {lP cP lC cC nS cS : Nat} {ps : List Int} {qs : List (Int × Int)} {S : List (List Wt)} {p : List Addr} (h17 : E3 w p) (m a fn : Int) (hP : Sl w (.slice aP lP cP) ps) (hp2 : ps.length <= 140737488351232) (hC : SlC w (.slice aC lC cC) qs) (hq2 : qs.length <= 140737488351232) (hS : SSrcU w (.slice aS nS cS) S) {vK : Value} {ks : List Int} (hK : Sl w vK ks) : Calls Tryd.prog 6 #[.agg #[.slice aP lP cP, .int .i64 m, .int .i64 a, .slice aC lC cC, .slice aS nS cS, .int .i64 fn], vK] w (Vb w (.bool true)) := by
  have AB := Za (Zd w (.cells #[.slice aP lP cP, .int .i64 m, .int .i64 a, .slice aC lC cC, .slice aS nS cS, .int .i64 fn] 61))
  have BX := Za (B_ w (.cells #[.slice aP lP cP, .int .i64 m, .int .i64 a, .slice aC lC cC, .slice aS nS cS, .int .i64 fn] 61))
  have AL := Za (alive12 (h17.below (Nat.le_refl _) AB.out))
  have BG := Za (fun w3 (h3 : Below w.heap.size w w3) => big_any m a fn (hP.below (Nat.le_refl _) h3) hp2 (hC.below h3) hq2 (hS.bel h3))
  have H17 := Za h17
  have HP := Za hP
  have HC := Za hC
  have HK := Za hK
  obtain ⟨aK, lK, cK, rfl, hlK⟩ := hK.slice
  have HLK := Za hlK
  clear h17 hP hp2 hC hq2 hS hK hlK
  obtain ⟨bx, hbx⟩ : ∃ b, b = w.heap.size := ⟨_, rfl⟩
  rw [← hbx] at BX
  have LB : Hid (bx < (w.alloc (.cells #[.slice aP lP cP, .int .i64 m, .int .i64 a, .slice aC lC cC, .slice aS nS cS, .int .i64 fn] 61)).heap.size /\ bx = w.heap.size) := Za ⟨by rw [hbx]; simp, hbx⟩
  go_enter Tryd.func6, Tryd.ntmps6
  go_wp2_with fail
  generalize w.alloc _ = w1 at *
  rw [← hbx]
  clear hbx
  refine AL.out.mono ?_
  rintro e w2 ⟨rfl, hb2⟩
  have BX9 := Za ((hb2.block bx (Ze BX.out)).trans BX.out)
  clear BX
  have BX := BX9
  clear BX9
  have AB9 := Za (Zg AB.out hb2)
  clear AB
  have AB := AB9
  clear AB9
  clear hb2 AL LB
  have x0 := Zb BX.out 0 _ rfl
  have x1 := Zb BX.out 1 _ rfl
  have x2 := Zb BX.out 2 _ rfl
  have x3 := Zb BX.out 3 _ rfl
  have x4 := Zb BX.out 4 _ rfl
  have x5 := Zb BX.out 5 _ rfl
  go_wp2_with fail
  clear x0 x1 x2 x3 x4 x5
  refine (BG.out _ AB.out).mono ?_
  rintro e w3 ⟨b, rfl, hb3, hsr⟩
  have BX9 := Za ((hb3.block bx (Ze BX.out)).trans BX.out)
  clear BX
  have BX := BX9
  clear BX9
  have A3 := Za (Zg AB.out hb3)
  cases b with
  | true =>
    clear hb3 BG hsr
    go_wp2_with fail
    go_ret
    exact Vb.mk rfl A3.out
  | false =>
    have SS := Za ((hsr rfl).bel hb3)
    clear hb3 BG hsr AB
    by_cases hbk : 1000 < lK
    · have hbk' : (1000 : Int) < (lK : Int) := by omega
      go_wp2_with fail
      go_ret
      exact Vb.mk (by simp) A3.out
    · have hbk' : ¬ (1000 : Int) < (lK : Int) := by omega
      have hK1 : Hid (ks.length <= 1000) := Za (by have := HLK.out; omega)
      clear HLK hbk
      have MA := Za (fun w4 (h4 : Below w.heap.size w w4) (hs : SSrc w4 (.slice aS nS cS) S) => made_any (H17.out.below (Nat.le_refl _) h4) m a fn (HP.out.below (Nat.le_refl _) h4) (HC.out.below h4) hs)
      have LI := Za (fun w4 (h4 : Below w.heap.size w w4) => listed_any (HK.out.below (Nat.le_refl _) h4) (by have := hK1.out; omega))
      clear HP HC HK
      generalize okN ps m qs a = ok at *
      generalize newS ps m qs a = s0 at *
      obtain ⟨wc, hwc⟩ : ∃ z, z = w3 := ⟨_, rfl⟩
      have x0 := Zb BX.out 0 _ rfl
      have x1 := Zb BX.out 1 _ rfl
      have x2 := Zb BX.out 2 _ rfl
      have x3 := Zb BX.out 3 _ rfl
      have x4 := Zb BX.out 4 _ rfl
      have x5 := Zb BX.out 5 _ rfl
      go_wp2_with fail
      clear x0 x1 x2 x3 x4 x5
      clear hwc
      refine (MA.out _ A3.out SS.out).mono ?_
      rintro e w4 (⟨rfl, rfl, hb4⟩ | ⟨rfl, g1, gm1, G1, M1, rfl, rn1, _, _, lo1, hb4⟩)
      · have A4 := Za (Zg A3.out hb4)
        have SS4 := Za (SS.out.bel hb4)
        have BX9 := Za ((hb4.block bx (Ze BX.out)).trans BX.out)
        clear BX
        have BX := BX9
        clear BX9
        clear hb4 A3 SS
        have x0 := Zb BX.out 0 _ rfl
        have x1 := Zb BX.out 1 _ rfl
        have x2 := Zb BX.out 2 _ rfl
        have x3 := Zb BX.out 3 _ rfl
        have x4 := Zb BX.out 4 _ rfl
        have x5 := Zb BX.out 5 _ rfl
        go_wp2_with fail
        clear x0 x1 x2 x3 x4 x5
        refine (MA.out _ A4.out SS4.out).mono ?_
        rintro e w5 (⟨_, rfl, hb5⟩ | ⟨h, _⟩)
        · have A5 := Za (Zg A4.out hb5)
          clear hb5
          go_wp2_with fail
          go_ret
          exact Vb.mk rfl A5.out
        · cases h
      · have A4 := Za (Zg A3.out hb4)
        have SS4 := Za (SS.out.bel hb4)
        have RA := Za rn1
        have LA : Hid (∀ k, G1 k -> w.heap.size <= k) := Za (fun k hk => by have h1 := lo1 k (.inl hk); have h2 := A3.out.size; omega)
        have BX9 := Za ((hb4.block bx (Ze BX.out)).trans BX.out)
        clear BX
        have BX := BX9
        clear BX9
        clear hb4 A3 SS rn1 lo1
        have x0 := Zb BX.out 0 _ rfl
        have x1 := Zb BX.out 1 _ rfl
        have x2 := Zb BX.out 2 _ rfl
        have x3 := Zb BX.out 3 _ rfl
        have x4 := Zb BX.out 4 _ rfl
        have x5 := Zb BX.out 5 _ rfl
        go_wp2_with fail
        clear x0 x1 x2 x3 x4 x5
        refine (MA.out _ A4.out SS4.out).mono ?_
        rintro e w5 (⟨h, _⟩ | ⟨_, g2, gm2, G2, M2, rfl, rn2, _, _, lo2, hb5⟩)
        · cases h
        · have DJ : Hid (∀ k, G2 k -> ¬ G1 k) := Za (fun k h1 h2 => by have h3 := lo2 k (.inl h1); have h4 := RA.out.fb k h2; omega)
          have LB : Hid (∀ k, G2 k -> w.heap.size <= k) := Za (fun k hk => by have h1 := lo2 k (.inl hk); have h2 := A4.out.size; omega)
          have RB := Za rn2
          have BW := Za (Zg A4.out hb5)
          have RA9 := Za (RA.out.bel hb5)
          clear RA
          have RA := RA9
          clear RA9
          clear hb5 A4 SS4 rn2 lo2 BX MA
          go_wp2_with fail
          refine (LI.out _ BW.out).mono ?_
          rintro e w6 ⟨v1, F1, rfl, pk1, lf1, hb6⟩
          obtain ⟨ob1, nb1, rfl⟩ := pk1.form
          have PL := Za (Play_any (S := S) ⟨RA.out.bel hb6, pk1, fun k h1 h2 => by have h3 := lf1 k h1; have h4 := RA.out.fb k h2; omega, H17.out.below (Nat.le_refl _) (Zg BW.out hb6), Off.mk LA.out H17.out (Nat.le_refl _), Off.mk (fun k hk => Nat.le_trans BW.out.size (lf1 k hk)) H17.out (Nat.le_refl _), Ch.refl _ _⟩ 200 (by omega))
          have LF : Hid (∀ k, F1 k -> w.heap.size <= k) := Za (fun k hk => Nat.le_trans BW.out.size (lf1 k hk))
          have DF : Hid (∀ k, G2 k -> ¬ (G1 k ∨ F1 k)) := Za (fun k h1 h2 => by
            rcases h2 with h2 | h2
            · exact DJ.out k h1 h2
            · have h3 := lf1 k h2
              have h4 := RB.out.fb k h1
              omega)
          have RB9 := Za (RB.out.bel hb6)
          clear RB
          have RB := RB9
          clear RB9
          have BW9 := Za (Zg BW.out hb6)
          clear BW
          have BW := BW9
          clear BW9
          clear hb6 pk1 lf1 RA DJ
          obtain ⟨q, hq⟩ : ∃ q, playW S ks 200 (startR S s0 fn) 0 = q := ⟨_, rfl⟩
          have EV : Hid (Ys q.1) := Za (by rw [← hq]; exact playW_ev)
          have LE : Hid (q.1.ev.length <= 1000) := Za (by rw [← hq]; exact play_le 1000 (by omega) _ _ _ (by rw [start_ev]; simp))
          rw [hq] at PL
          have HQ := Za hq
          clear hq
          go_wp2_with fail
          refine PL.out.mono ?_
          rintro e w7 ⟨rfl, G3, rn3, _, _, ch3⟩
          have RA := Za rn3
          have LA9 : Hid (∀ k, G3 k -> w.heap.size <= k) := Za (fun k hk => ch3.lo (fun q hq => hq.elim (LA.out q) (LF.out q)) BW.out.size k (.inl hk))
          obtain ⟨rb7, dj7⟩ := RB.out.ch ch3 DF.out
          have DJ : Hid (∀ k, G2 k -> ¬ G3 k) := Za (fun k h1 h2 => dj7 k h1 (.inl h2))
          have BW9 := Za (BW.out.trans (ch3.bel (fun q hq => hq.elim (LA.out q) (LF.out q)) BW.out.size))
          clear RB BW LA PL LF DF dj7 rn3 ch3
          have RB := Za rb7
          have BW := BW9
          have LA := LA9
          clear rb7 BW9 LA9
          obtain ⟨E0, hE0⟩ : ∃ E : En, (if runs q.1 = true then ⟨4, 0, 0, 0, 0⟩ else endR q.1) = E := ⟨_, rfl⟩
          rw [hE0]
          have HE0 := Za hE0
          clear hE0
          obtain ⟨eo, ef, eg, en, ea⟩ := E0
          unfold EnV
          simp only
          go_wp2_with fail
          refine (LI.out _ BW.out).mono ?_
          rintro e w8 ⟨v2, F2, rfl, pk2, lf2, hb8⟩
          obtain ⟨ob2, nb2, rfl⟩ := pk2.form
          have PL := Za (Play_any (S := S) ⟨RB.out.bel hb8, pk2, fun k h1 h2 => by have h3 := lf2 k h1; have h4 := RB.out.fb k h2; omega, H17.out.below (Nat.le_refl _) (Zg BW.out hb8), Off.mk LB.out H17.out (Nat.le_refl _), Off.mk (fun k hk => Nat.le_trans BW.out.size (lf2 k hk)) H17.out (Nat.le_refl _), Ch.refl _ _⟩ 200 (by omega))
          have LF : Hid (∀ k, F2 k -> w.heap.size <= k) := Za (fun k hk => Nat.le_trans BW.out.size (lf2 k hk))
          have DF : Hid (∀ k, G3 k -> ¬ (G2 k ∨ F2 k)) := Za (fun k h1 h2 => by
            rcases h2 with h2 | h2
            · exact DJ.out k h2 h1
            · have h3 := lf2 k h2
              have h4 := RA.out.fb k h1
              omega)
          have RA9 := Za (RA.out.bel hb8)
          clear RA
          have RA := RA9
          clear RA9
          have BW9 := Za (Zg BW.out hb8)
          clear BW
          have BW := BW9
          clear BW9
          clear hb8 pk2 lf2 RB DJ LI
          rw [HQ.out] at PL
          clear HQ
          go_wp2_with fail
          refine PL.out.mono ?_
          rintro e w9 ⟨rfl, G4, rn4, _, _, ch4⟩
          rw [HE0.out]
          have RB := Za rn4
          obtain ⟨ra9, dj9⟩ := RA.out.ch ch4 DF.out
          have BW9 := Za (BW.out.trans (ch4.bel (fun q hq => hq.elim (LB.out q) (LF.out q)) BW.out.size))
          clear RA BW LA LB PL LF DF dj9 rn4 ch4 HE0
          have RA := Za ra9
          have BW := BW9
          clear ra9 BW9
          have NE : ∀ w, (binOp .neq 67 (.agg #[.int .i64 eo, .int .i64 ef, .int .i64 eg, .int .i64 en, .int .i64 ea]) (.agg #[.int .i64 eo, .int .i64 ef, .int .i64 eg, .int .i64 en, .int .i64 ea])).run Tryd.prog w = .ok (.bool false) w := fun w => by
            rw [neq_en]
            simp
          generalize q.1 = rf at *
          obtain ⟨ne, hne⟩ : ∃ n, n = rf.ev.length := ⟨_, rfl⟩
          have EC : Hid (∀ (W : World) (G : Nat -> Prop) (g : Nat), Rn W G g S rf -> Calls Tryd.prog 27 #[.pointer (some ⟨g, 0, none⟩)] W fun e w' => ∃ a c, e = .returned (.slice a ne c) /\ EvS w' (.slice a ne c) rf.ev /\ Below W.heap.size W w') := Za (fun W G g h => (Events_any h (by have := LE.out; omega)).mono fun e w' ⟨a, c, h1, h2, h3⟩ => ⟨a, c, by rw [hne]; exact h1, by rw [hne]; exact EvS.of_own h2, h3⟩)
          have SE : Hid (∀ (W : World) (va vb : Value), EvS W va rf.ev -> EvS W vb rf.ev -> Calls Tryd.prog 28 #[va, vb] W (Vb W (.bool true))) := Za (fun W va vb h1 h2 => by
            have := SameEvents_any h1 h2
            rw [(evsB_iff _ _).2 rfl] at this
            exact this)
          obtain ⟨ng, hng⟩ : ∃ n, n = rf.gs.length := ⟨_, rfl⟩
          have WC : Hid (∀ (W : World) (G : Nat -> Prop) (g : Nat), Rn W G g S rf -> Calls Tryd.prog 30 #[.pointer (some ⟨g, 0, none⟩)] W fun e w' => ∃ a c, e = .returned (.slice a ng c) /\ Below W.heap.size W w') := Za (fun W G g h => (Waits_any h).mono fun e w' ⟨a, c, vas, h1, _, _, h3⟩ => ⟨a, c, by rw [h1, List.length_map, hng], h3⟩)
          have CC : Hid (∀ (W : World) (G : Nat -> Prop) (g : Nat), Rn W G g S rf -> Calls Tryd.prog 31 #[.pointer (some ⟨g, 0, none⟩)] W fun e w' => e = .returned (.int .i64 (ne : Nat)) /\ W = w') := Za (fun W G g h => by
            have := Count_any h
            rw [← hne] at this
            exact this)
          have N8 : Hid (ng <= 8) := Za (by
            obtain ⟨_, _, _, _, _, _, _, _, _, _, h, _⟩ := RA.out
            rw [hng]
            exact h.n8)
          have EV2 : Hid (∀ (i : Nat) (e : Evt), rf.ev[i]? = some e -> 0 <= e.g /\ e.g < (ng : Int)) := Za (fun i e he => by rw [hng]; exact EV.out e (List.mem_of_getElem? he))
          have HNE := Za hne
          have hn1 : ne <= 1000 := by have := LE.out; omega
          clear hne hng EV LE hK1
          unfold EnV
          simp only
          go_wp2_with fail
          refine (EC.out _ _ _ RA.out).mono ?_
          rintro e w10 ⟨a1, c1, rfl, s1, hb⟩
          have S1 := Za s1
          have RA9 := Za (RA.out.bel hb)
          clear RA
          have RA := RA9
          clear RA9
          have RB9 := Za (RB.out.bel hb)
          clear RB
          have RB := RB9
          clear RB9
          have BW9 := Za (Zg BW.out hb)
          clear BW
          have BW := BW9
          clear BW9
          clear s1 hb NE
          go_wp2_with fail
          refine (EC.out _ _ _ RB.out).mono ?_
          rintro e w11 ⟨a2, c2, rfl, s2, hb⟩
          have S2 := Za s2
          have RA9 := Za (RA.out.bel hb)
          clear RA
          have RA := RA9
          clear RA9
          have RB9 := Za (RB.out.bel hb)
          clear RB
          have RB := RB9
          clear RB9
          have BW9 := Za (Zg BW.out hb)
          clear BW
          have BW := BW9
          clear BW9
          have S19 := Za (S1.out.bel hb)
          clear s2 hb S1
          go_wp2_with fail
          refine (SE.out _ _ _ S19.out S2.out).mono ?_
          rintro e w12 ⟨rfl, hb⟩
          have RA9 := Za (RA.out.bel hb)
          clear RA
          have RA := RA9
          clear RA9
          have RB9 := Za (RB.out.bel hb)
          clear RB
          have RB := RB9
          clear RB9
          have BW9 := Za (Zg BW.out hb)
          clear BW
          have BW := BW9
          clear BW9
          clear hb S19 S2 SE
          go_wp2_with fail
          refine (WC.out _ _ _ RA.out).mono ?_
          rintro e w13 ⟨a3, c3, rfl, hb⟩
          have RA9 := Za (RA.out.bel hb)
          clear RA
          have RA := RA9
          clear RA9
          have RB9 := Za (RB.out.bel hb)
          clear RB
          have RB := RB9
          clear RB9
          have BW9 := Za (Zg BW.out hb)
          clear BW
          have BW := BW9
          clear BW9
          clear hb WC
          go_wp2_with fail
          refine (EC.out _ _ _ RA.out).mono ?_
          rintro e w14 ⟨a4, c4, rfl, s4, hb⟩
          have S4 : Hid (∀ (i : Nat) (e : Evt), rf.ev[i]? = some e -> ∃ (b o : Nat), a4 = some ⟨b, o, none⟩ /\ b < w14.heap.size /\ w14.cell? ⟨b, o + i * 4, none⟩ = some (.int .i64 e.g) /\ w14.cell? ⟨b, o + i * 4 + 1, none⟩ = some (.int .i64 e.k) /\ w14.cell? ⟨b, o + i * 4 + 2, none⟩ = some (.int .i64 e.o) /\ w14.cell? ⟨b, o + i * 4 + 3, none⟩ = some (.int .i64 e.a)) := Za (by
            obtain ⟨aa, cc, eS, _, _, hcs⟩ := s4
            injection eS with e1
            subst e1
            exact hcs)
          have RA9 := Za (RA.out.bel hb)
          clear RA
          have RA := RA9
          clear RA9
          have RB9 := Za (RB.out.bel hb)
          clear RB
          have RB := RB9
          clear RB9
          have BW9 := Za (Zg BW.out hb)
          clear BW
          have BW := BW9
          clear BW9
          clear hb s4 RB
          go_wp2_with fail
          go_loopw [13, 60] (fun x13 x60 wr => ∃ k : Nat, k <= ne /\ x60 = .int .i64 k /\ Hid (Below w14.heap.size w14 wr)) (fun _ x60 _ => ne - (intOf x60).toNat)
          case atStart => exact ⟨0, Nat.zero_le _, rfl, Below.refl _ _⟩
          case round =>
            obtain ⟨k, hk, rfl, HI⟩ := hrel
            by_cases hlt : k < ne
            · have hlt' : (k : Int) < (ne : Int) := by omega
              obtain ⟨x, hx⟩ : ∃ x, rf.ev[k]? = some x := ⟨_, List.getElem?_eq_getElem (by rw [← HNE.out]; exact hlt)⟩
              obtain ⟨b, o, rfl, hbl, p0, p1, p2, p3⟩ := S4.out k x hx
              have u0 := (HI.out.cell (p := ⟨b, o + k * 4, none⟩) hbl).trans p0
              have u1 := (HI.out.cell (p := ⟨b, o + k * 4 + 1, none⟩) hbl).trans p1
              have u2 := (HI.out.cell (p := ⟨b, o + k * 4 + 2, none⟩) hbl).trans p2
              have u3 := (HI.out.cell (p := ⟨b, o + k * 4 + 3, none⟩) hbl).trans p3
              obtain ⟨hg0, hg1⟩ := EV2.out k x hx
              obtain ⟨xg, xk, xo, xa⟩ := x
              simp only at u0 u1 u2 u3 hg0 hg1
              have hg2 : ¬ xg < 0 := by omega
              have hg3 : ¬ (ng : Int) <= xg := by omega
              have HB2 := Za (Zg HI.out (Zd wr (.cells #[.int .i64 xg, .int .i64 xk, .int .i64 xo, .int .i64 xa] 75)))
              clear p0 p1 p2 p3 hx hbl HI
              go_wp2_with fail
              go_roundw
              case rel => exact ⟨k + 1, by omega, by go_num, HB2.out⟩
              case measure => simp [intOf]; omega
            · have ek : k = ne := by omega
              subst ek
              have hb := HI.out
              have RA9 := Za (RA.out.bel hb)
              clear RA
              have RA := RA9
              clear RA9
              have BW9 := Za (Zg BW.out hb)
              clear BW
              have BW := BW9
              clear BW9
              clear hb HI
              have hn8 : (ng : Int) <= 8 := by have := N8.out; omega
              clear S4 EV2
              go_wp2_with fail
              refine (CC.out _ _ _ RA.out).mono ?_
              rintro e w15 ⟨rfl, rfl⟩
              go_wp2_with fail
              refine (EC.out _ _ _ RA.out).mono ?_
              rintro e w16 ⟨a5, c5, rfl, s5, hb⟩
              have BW9 := Za (Zg BW.out hb)
              clear hb s5
              go_wp2_with fail
              go_ret
              exact Vb.mk (by simp) BW9.out
theorem twins_all {w : World} {vP vC vS vK : Value} {ps ks : List Int} {qs : List (Int × Int)} {S : List (List Wt)} {p : List Addr} (h17 : E3 w p) (m a fn : Int) (hP : Sl w vP ps) (hp2 : ps.length <= 140737488351232) (hC : SlC w vC qs) (hq2 : qs.length <= 140737488351232) (hS : SSrcU w vS S) (hK : Sl w vK ks) : Calls Tryd.prog 6 #[.agg #[vP, .int .i64 m, .int .i64 a, vC, vS, .int .i64 fn], vK] w (Vb w (.bool true)) := by
 obtain ⟨aP, lP, cP, rfl, _⟩ := hP.slice
 obtain ⟨aC, cC, rfl, _⟩ := id hC
 obtain ⟨aS, cS, rfl, _⟩ := id hS
 exact twins_main h17 m a fn hP hp2 hC hq2 hS hK
end Go.Proofs.YtghfjnnmpmfboaaDoor.Ck
