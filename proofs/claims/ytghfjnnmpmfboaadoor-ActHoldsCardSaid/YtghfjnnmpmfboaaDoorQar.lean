/- Texts of this proof, packed: contracts of the program's functions, and the plain model that they are held against. -/
import Derived.Test.YtghfjnnmpmfboaaDoorQaq
set_option maxRecDepth 20000
set_option maxHeartbeats 4000000
namespace Go.Proofs.YtghfjnnmpmfboaaDoor.Ck
open Go.RowKit
def BMap (w : World) (b n : Nat) (L : Int -> Bool) : Prop := ∃ D, w.ownsMap (H := Unit) Tryd.prog 3 (plainElem Tryd.prog 4) b n D /\ ∀ x : Int, (Lit.int .i64 x).wf = true -> D.atKey (.int .i64 x) (.lit (.bool false)) = .lit (.bool (L x))
def IMap (w : World) (b n : Nat) (L : Int -> Int) : Prop := ∃ D, w.ownsMap (H := Unit) Tryd.prog 3 (plainElem Tryd.prog 3) b n D /\ ∀ x : Int, (Lit.int .i64 x).wf = true -> D.atKey (.int .i64 x) (.lit (.int .i64 0)) = .lit (.int .i64 (L x))
theorem BMap.made (w : World) : BMap (w.alloc (.map #[] 0)) w.heap.size 0 (fun _ => false) := ⟨_, World.ownsMap_made w _ _ _, fun _ _ => rfl⟩
theorem IMap.made (w : World) : IMap (w.alloc (.map #[] 0)) w.heap.size 0 (fun _ => 0) := ⟨_, World.ownsMap_made w _ _ _, fun _ _ => rfl⟩
section
variable {w w' : World} {b n : Nat} {L : Int → Bool} {K : Int → Int}
theorem BMap.blk (h : BMap w b n L) : ∃ es c, w.heap[b]? = some (.map es c) := by
 obtain ⟨D, ⟨es, clock, h1, h2⟩, h3⟩ := h
 exact ⟨es, clock, h1⟩
theorem IMap.blk (h : IMap w b n K) : ∃ es c, w.heap[b]? = some (.map es c) := by
 obtain ⟨D, ⟨es, clock, h1, h2⟩, h3⟩ := h
 exact ⟨es, clock, h1⟩
theorem BMap.keep (h : BMap w b n L) (hb : w'.heap[b]? = w.heap[b]?) : BMap w' b n L := by
 obtain ⟨D, ⟨es, clock, h1, h2⟩, h3⟩ := h
 exact ⟨D, ⟨es, clock, hb.trans h1, h2⟩, h3⟩
theorem IMap.keep (h : IMap w b n K) (hb : w'.heap[b]? = w.heap[b]?) : IMap w' b n K := by
 obtain ⟨D, ⟨es, clock, h1, h2⟩, h3⟩ := h
 exact ⟨D, ⟨es, clock, hb.trans h1, h2⟩, h3⟩
theorem BMap.lt (h : BMap w b n L) : b < w.heap.size := by
 obtain ⟨_, _, h1⟩ := h.blk
 exact Ze h1
theorem IMap.lt (h : IMap w b n K) : b < w.heap.size := by
 obtain ⟨_, _, h1⟩ := h.blk
 exact Ze h1
theorem BMap.look (h : BMap w b n L) {x : Int} (hw : (Lit.int .i64 x).wf = true) : (Instr.lookup 70 (.map (some b)) (.int .i64 x) false).run Tryd.prog w = .ok (.bool (L x)) w := by
 obtain ⟨D, ho, hD⟩ := h
 obtain ⟨v, ps, hrun, hv⟩ := ho.lookup (t := 70) (e := 4) (Go.Maps.int_keyed Tryd.underlying3) Tryd.underlying70 (z := .bool false) (by kernel_rfl) (plainElem_bool Tryd.underlying4 false) (Go.Maps.keyOf_int_mk Tryd.underlying3 hw)
 rw [hD x hw] at hv
 have e : v = .bool (L x) := by
  cases v <;> simp [plainElem, Tryd.underlying4] at hv
  rw [hv.1]
 rw [e] at hrun
 exact hrun
theorem IMap.look (h : IMap w b n K) {x : Int} (hw : (Lit.int .i64 x).wf = true) : (Instr.lookup 71 (.map (some b)) (.int .i64 x) false).run Tryd.prog w = .ok (.int .i64 (K x)) w := by
 obtain ⟨D, ho, hD⟩ := h
 obtain ⟨c, hrun, hat, _⟩ := ho.lookup_int (t := 71) (e := 3) (q := .i64) (Go.Maps.int_keyed Tryd.underlying3) Tryd.underlying71 Tryd.underlying3 (by kernel_rfl) (Go.Maps.keyOf_int_mk Tryd.underlying3 hw)
 rw [hD x hw] at hat
 have e : K x = c := by simpa using hat
 rw [e]
 exact hrun
theorem BMap.put (h : BMap w b n L) (hn : n < maxLen) {x : Int} (hw : (Lit.int .i64 x).wf = true) (v : Bool) : ∃ w', (Instr.mapUpdate 70 (.map (some b)) (.int .i64 x) (.bool v)).run Tryd.prog w = .ok () w' /\ BMap w' b (n + 1) (up L x v) /\ w.grownBy w' (some b) := by
 obtain ⟨D, ho, hD⟩ := h
 have hk := Go.Maps.keyOf_int_mk Tryd.underlying3 hw
 have KK := Go.Maps.int_keyed Tryd.underlying3
 obtain ⟨w', r, o, g⟩ := ho.update KK Tryd.underlying70 hn hk (plainElem_bool Tryd.underlying4 v)
 refine ⟨w', r, ⟨_, o, fun y hy => ?_⟩, g⟩
 unfold up
 by_cases e : y = x
 · rw [if_pos e, e]
   exact Go.Maps.atKey_put_same ho.isMap (KK.key hk) _ _
 · rw [if_neg e]
   exact (Go.Maps.atKey_put_other (fun h => e (by injection h)) _ _).trans (hD y hy)
theorem IMap.put (h : IMap w b n K) (hn : n < maxLen) {x : Int} (hw : (Lit.int .i64 x).wf = true) {v : Int} (hv : (Lit.int .i64 v).wf = true) : ∃ w', (Instr.mapUpdate 71 (.map (some b)) (.int .i64 x) (.int .i64 v)).run Tryd.prog w = .ok () w' /\ IMap w' b (n + 1) (up K x v) /\ w.grownBy w' (some b) := by
 obtain ⟨D, ho, hD⟩ := h
 have hk := Go.Maps.keyOf_int_mk Tryd.underlying3 hw
 have KK := Go.Maps.int_keyed Tryd.underlying3
 obtain ⟨w', r, o, g⟩ := ho.update KK Tryd.underlying71 hn hk (plainElem_int Tryd.underlying3 hv)
 refine ⟨w', r, ⟨_, o, fun y hy => ?_⟩, g⟩
 unfold up
 by_cases e : y = x
 · rw [if_pos e, e]
   exact Go.Maps.atKey_put_same ho.isMap (KK.key hk) _ _
 · rw [if_neg e]
   exact (Go.Maps.atKey_put_other (fun h => e (by injection h)) _ _).trans (hD y hy)
end
theorem wf_int {x : Int} (h1 : -9223372036854775808 <= x) (h2 : x <= 9223372036854775807) : (Lit.int .i64 x).wf = true := by
 simp [Lit.wf]
 exact ⟨h1, h2⟩
structure Hk (w wE W : World) (R : List Int) (ev : List Evt) (bl bh k : Nat) (h : Hd) : Prop where
 run : Yx R h0 (ev.take k) = some h
 lo : BMap W bl k h.1
 he : IMap W bh k h.2
 nn : ∀ o, 0 <= h.2 o /\ h.2 o <= (k : Int)
 ch : Ch (fun q => q = bl ∨ q = bh) (fun q => q = bl ∨ q = bh) wE W
section
variable {w wE W W' : World} {R : List Int} {ev : List Evt} {bl bh k : Nat} {h : Hd}
theorem Hk.bel (x : Hk w wE W R ev bl bh k h) (hb : Below W.heap.size W W') : Hk w wE W' R ev bl bh k h := { x with lo := x.lo.keep (hb.block bl x.lo.lt), he := x.he.keep (hb.block bh x.he.lt), ch := x.ch.trans (Ch.of_bel hb) }
theorem Hk.ev_step (x : Hk w wE W R ev bl bh k h) {e : Evt} (he : ev[k]? = some e) {h' : Hd} (hh : Yg R h e = some h') : Yx R h0 (ev.take (k + 1)) = some h' := by
 have e1 : ev.take (k + 1) = ev.take k ++ [e] := by rw [List.take_add_one, he]; rfl
 rw [e1, holdsE_app, x.run]
 simp only [Yx, hh]
theorem Hk.skip (x : Hk w wE W R ev bl bh k h) {e : Evt} (he : ev[k]? = some e) (hh : Yg R h e = some h) : Hk w wE W R ev bl bh (k + 1) h := by
 obtain ⟨D, ⟨es, c, m1, m2, m3, m4⟩, m5⟩ := x.lo
 obtain ⟨D2, ⟨es2, c2, n1, n2, n3, n4⟩, n5⟩ := x.he
 exact ⟨x.ev_step he hh, ⟨D, ⟨es, c, m1, m2, Nat.le_succ_of_le m3, m4⟩, m5⟩, ⟨D2, ⟨es2, c2, n1, n2, Nat.le_succ_of_le n3, n4⟩, n5⟩, fun o => ⟨(x.nn o).1, by have := (x.nn o).2; omega⟩, x.ch⟩
theorem ch_grown {b : Nat} {F : Nat -> Prop} (hF : F b) (hg : W.grownBy W' (some b)) : Ch F F W W' := ⟨hg.os, hg.tape, hg.output, hg.size, fun q hq hn => hg.block q hq (fun e => hn (by cases e; exact hF)), fun _ h => .inl h⟩
theorem Hk.lock (x : Hk w wE W R ev bl bh k h) (hne : bl ≠ bh) {e : Evt} (he : ev[k]? = some e) {v : Bool} (hh : Yg R h e = some (up h.1 e.o v, h.2)) (hm : BMap W' bl (k + 1) (up h.1 e.o v)) (hg : W.grownBy W' (some bl)) : Hk w wE W' R ev bl bh (k + 1) (up h.1 e.o v, h.2) := by
 have h2 := x.he.keep (w' := W') (hg.block bh x.he.lt (fun q => hne (by cases q; rfl)))
 obtain ⟨D2, ⟨es2, c2, n1, n2, n3, n4⟩, n5⟩ := h2
 exact ⟨x.ev_step he hh, hm, ⟨D2, ⟨es2, c2, n1, n2, Nat.le_succ_of_le n3, n4⟩, n5⟩, fun o => ⟨(x.nn o).1, by have := (x.nn o).2; show h.2 o <= _; omega⟩, x.ch.trans (ch_grown (.inl rfl) hg)⟩
theorem Hk.chan (x : Hk w wE W R ev bl bh k h) (hne : bl ≠ bh) {e : Evt} (he : ev[k]? = some e) {v : Int} (hh : Yg R h e = some (h.1, up h.2 e.o v)) (hv : 0 <= v /\ v <= (k : Int) + 1) (hm : IMap W' bh (k + 1) (up h.2 e.o v)) (hg : W.grownBy W' (some bh)) : Hk w wE W' R ev bl bh (k + 1) (h.1, up h.2 e.o v) := by
 have h2 := x.lo.keep (w' := W') (hg.block bl x.lo.lt (fun q => hne (by cases q; rfl)))
 obtain ⟨D2, ⟨es2, c2, n1, n2, n3, n4⟩, n5⟩ := h2
 refine ⟨x.ev_step he hh, ⟨D2, ⟨es2, c2, n1, n2, Nat.le_succ_of_le n3, n4⟩, n5⟩, hm, fun o => ?_, x.ch.trans (ch_grown (.inr rfl) hg)⟩
 unfold up
 simp only
 split
 · omega
 · have := x.nn o
   omega
end
theorem hold_at {R : List Int} {ev : List Evt} {y h : Hd} {k : Nat} {e : Evt} (hy : Yx R h0 ev = some y) (he : ev[k]? = some e) (hk : Yx R h0 (ev.take k) = some h) : ∃ h', Yg R h e = some h' := by
 have e1 : ev = ev.take k ++ (e :: ev.drop (k + 1)) := by
  obtain ⟨hl, h2⟩ := List.getElem?_eq_some_iff.1 he
  rw [← h2, List.getElem_cons_drop, List.take_append_drop]
 rw [e1, holdsE_app, hk] at hy
 simp only [Yx] at hy
 cases hh : Yg R h e with
 | none => rw [hh] at hy; cases hy
 | some h' => exact ⟨h', rfl⟩
section
variable {R : List Int} {h h' : Hd} {e : Evt}
theorem holdE_3 (hh : Yg R h e = some h') (h3 : e.k = 3) : 0 <= e.o /\ e.o < 64 /\ h.1 e.o = false /\ h' = (up h.1 e.o true, h.2) := by
 unfold Yg at hh
 rw [if_pos (.inl h3)] at hh
 split at hh
 · rename_i hc
   rw [h3] at hc hh
   exact ⟨hc.1, hc.2.1, hc.2.2, (Option.some.inj hh).symm⟩
 · cases hh
theorem holdE_4 (hh : Yg R h e = some h') (h4 : e.k = 4) : 0 <= e.o /\ e.o < 64 /\ h.1 e.o = true /\ h' = (up h.1 e.o false, h.2) := by
 unfold Yg at hh
 rw [if_pos (.inr h4)] at hh
 split at hh
 · rename_i hc
   rw [h4] at hc hh
   exact ⟨hc.1, hc.2.1, hc.2.2, (Option.some.inj hh).symm⟩
 · cases hh
theorem holdE_5 (hh : Yg R h e = some h') (h5 : e.k = 5) : ∃ r, lk R e.o = some r /\ e.o < 64 /\ h.2 e.o + 1 <= max r 1 /\ h' = (h.1, up h.2 e.o (h.2 e.o + 1)) := by
 unfold Yg at hh
 rw [if_neg (by omega), if_pos h5] at hh
 cases hl : lk R e.o with
 | none => rw [hl] at hh; cases hh
 | some r =>
  rw [hl] at hh
  simp only at hh
  split at hh
  · rename_i hc
    exact ⟨r, rfl, hc.1, hc.2, (Option.some.inj hh).symm⟩
  · cases hh
theorem holdE_6 (hh : Yg R h e = some h') (h6 : e.k = 6) : 0 <= e.o /\ e.o < 64 /\ 0 < h.2 e.o /\ h' = (h.1, up h.2 e.o (h.2 e.o - 1)) := by
 unfold Yg at hh
 rw [if_neg (by omega), if_neg (by omega), if_pos h6] at hh
 split at hh
 · rename_i hc
   exact ⟨hc.1, hc.2.1, hc.2.2, (Option.some.inj hh).symm⟩
 · cases hh
end
theorem holds_main {w : World} {aP aC aS : Option Addr} {lP cP lC cC nS cS : Nat} {ps : List Int} {qs : List (Int × Int)} {S : List (List Wt)} {p : List Addr} (h17 : E3 w p) (m a fn : Int) (hP : Sl w (.slice aP lP cP) ps) (hp2 : ps.length <= 140737488351232) (hC : SlC w (.slice aC lC cC) qs) (hq2 : qs.length <= 140737488351232) (hS : SSrcU w (.slice aS nS cS) S) {vK : Value} {ks : List Int} (hK : Sl w vK ks) : Calls Tryd.prog 4 #[.agg #[.slice aP lP cP, .int .i64 m, .int .i64 a, .slice aC lC cC, .slice aS nS cS, .int .i64 fn], vK] w (Vb w (.bool true)) := by
  have AB := Za (Zd w (.cells #[.slice aP lP cP, .int .i64 m, .int .i64 a, .slice aC lC cC, .slice aS nS cS, .int .i64 fn] 61))
  have BX := Za (B_ w (.cells #[.slice aP lP cP, .int .i64 m, .int .i64 a, .slice aC lC cC, .slice aS nS cS, .int .i64 fn] 61))
  have AL := Za (alive12 (h17.below (Nat.le_refl _) AB.out))
  have BG := Za (fun w3 (h3 : Below w.heap.size w w3) => big_any m a fn (hP.below (Nat.le_refl _) h3) hp2 (hC.below h3) hq2 (hS.bel h3))
  have H17 := Za h17
  have HP := Za hP
  have HC := Za hC
  have HK := Za hK
  obtain ⟨aK, lK, cK, rfl, hlK⟩ := hK.slice
  have HLK := Za hlK
  have HS0 : Hid (okN ps m qs a = true -> Yt (qs.map Prod.snd) (startR S (newS ps m qs a) fn)) := Za hold_start
  clear h17 hP hp2 hC hq2 hS hK hlK
  obtain ⟨bx, hbx⟩ : ∃ b, b = w.heap.size := ⟨_, rfl⟩
  rw [← hbx] at BX
  go_enter Tryd.func4, Tryd.ntmps4
  go_wp2_with fail
  generalize w.alloc _ = w1 at *
  rw [← hbx]
  clear hbx
  refine AL.out.mono ?_
  rintro e w2 ⟨rfl, hb2⟩
  have BX9 := Za ((hb2.block bx (Ze BX.out)).trans BX.out)
  clear BX
  have BX := BX9
  clear BX9
  have AB9 := Za (Zi AB.out hb2)
  clear AB
  have AB := AB9
  clear AB9
  clear hb2 AL
  have x0 := Zb BX.out 0 _ rfl
  have x1 := Zb BX.out 1 _ rfl
  have x2 := Zb BX.out 2 _ rfl
  have x3 := Zb BX.out 3 _ rfl
  have x4 := Zb BX.out 4 _ rfl
  have x5 := Zb BX.out 5 _ rfl
  go_wp2_with fail
  clear x0 x1 x2 x3 x4 x5
  refine (BG.out _ AB.out).mono ?_
  rintro e w3 ⟨b, rfl, hb3, hsr⟩
  have BX9 := Za ((hb3.block bx (Ze BX.out)).trans BX.out)
  clear BX
  have BX := BX9
  clear BX9
  have A3 := Za (Zi AB.out hb3)
  cases b with
  | true =>
    clear hb3 BG hsr
    go_wp2_with fail
    go_ret
    exact Vb.mk rfl A3.out
  | false =>
    have SS := Za ((hsr rfl).bel hb3)
    clear hb3 BG hsr AB
    by_cases hbk : 1000 < lK
    · have hbk' : (1000 : Int) < (lK : Int) := by omega
      go_wp2_with fail
      go_ret
      exact Vb.mk (by simp) A3.out
    · have hbk' : ¬ (1000 : Int) < (lK : Int) := by omega
      have hK1 : Hid (ks.length <= 1000) := Za (by have := HLK.out; omega)
      clear HLK hbk
      have MA := Za (fun w4 (h4 : Below w.heap.size w w4) (hs : SSrc w4 (.slice aS nS cS) S) => made_any (H17.out.below (Nat.le_refl _) h4) m a fn (HP.out.below (Nat.le_refl _) h4) (HC.out.below h4) hs)
      have LI := Za (fun w4 (h4 : Below w.heap.size w w4) => listed_any (HK.out.below (Nat.le_refl _) h4) (by have := hK1.out; omega))
      clear HP HK
      generalize okN ps m qs a = ok at *
      generalize newS ps m qs a = s0 at *
      have x0 := Zb BX.out 0 _ rfl
      have x1 := Zb BX.out 1 _ rfl
      have x2 := Zb BX.out 2 _ rfl
      have x3 := Zb BX.out 3 _ rfl
      have x4 := Zb BX.out 4 _ rfl
      have x5 := Zb BX.out 5 _ rfl
      go_wp2_with fail
      clear x0 x1 x2 x3 x4 x5
      refine (MA.out _ A3.out SS.out).mono ?_
      rintro e w4 (⟨rfl, rfl, hb4⟩ | ⟨rfl, g1, gm1, G1, M1, rfl, rn1, _, _, lo1, hb4⟩)
      · have A4 := Za (Zi A3.out hb4)
        clear hb4
        go_wp2_with fail
        go_ret
        exact Vb.mk rfl A4.out
      · have BW := Za (Zi A3.out hb4)
        have RA := Za rn1
        have LA : Hid (∀ k, G1 k -> w.heap.size <= k) := Za (fun k hk => by have h1 := lo1 k (.inl hk); have h2 := A3.out.size; omega)
        have NX : Hid (∀ k, G1 k -> k ≠ bx) := Za (fun k hk e => by have h1 := lo1 k (.inl hk); have h2 := Ze BX.out; omega)
        have HI0 := Za (HS0.out rfl)
        have BX9 := Za ((hb4.block bx (Ze BX.out)).trans BX.out)
        clear BX
        have BX := BX9
        clear BX9
        clear hb4 A3 SS rn1 lo1 HS0 MA
        go_wp2_with fail
        refine (LI.out _ BW.out).mono ?_
        rintro e w6 ⟨v1, F1, rfl, pk1, lf1, hb6⟩
        obtain ⟨ob1, nb1, rfl⟩ := pk1.form
        have SA : Hid (Sd w w6 G1 F1 g1 S (.func (.func 73) #[] #[.pointer (some ⟨ob1, 0, none⟩), .pointer (some ⟨nb1, 0, none⟩)]) ks (startR S s0 fn) 0) := Za ⟨RA.out.bel hb6, pk1, fun k h1 h2 => by have h3 := lf1 k h1; have h4 := RA.out.fb k h2; omega, fun k hk => hk.elim (LA.out k) (fun h => Nat.le_trans BW.out.size (lf1 k h))⟩
        have XN : Hid (¬ (G1 bx ∨ F1 bx)) := Za (fun h => h.elim (fun h => NX.out bx h rfl) (fun h => by have h1 := lf1 bx h; have h2 := Ze BX.out; omega))
        have BX9 := Za ((hb6.block bx (Ze BX.out)).trans BX.out)
        clear BX
        have BX := BX9
        clear BX9
        have BW9 := Za (Zi BW.out hb6)
        clear BW
        have BW := BW9
        clear BW9
        clear hb6 pk1 lf1 RA LA NX LI hK1
        have PA := Za (SA.out.play H17.out BW.out 300 (by omega))
        obtain ⟨q, hq⟩ : ∃ q, playW S ks 300 (startR S s0 fn) 0 = q := ⟨_, rfl⟩
        have HI : Hid (Yt (qs.map Prod.snd) q.1) := Za (by rw [← hq]; exact Yt.play _ _ _ HI0.out)
        have LE : Hid (q.1.ev.length <= 1000) := Za (by rw [← hq]; exact play_le 1000 (by omega) _ _ _ (by rw [start_ev]; simp))
        rw [hq] at PA
        clear hq HI0
        go_wp2_with fail
        refine PA.out.mono ?_
        rintro e w7 ⟨rfl, G3, sa, ch, bw⟩
        have BX9 := Za ((ch.blk bx (Ze BX.out) XN.out).trans BX.out)
        clear SA BW BX PA XN
        have RA := Za sa.rn
        have BW := Za bw
        have BX := BX9
        clear sa bw ch BX9
        generalize q.1 = rf at *
        obtain ⟨E0, hE0⟩ : ∃ E : Value, EnV (endP rf) = E := ⟨_, rfl⟩
        rw [hE0]
        clear hE0
        have hmk1 : (Instr.makeMap 70 none).run Tryd.prog w7 = .ok (.map (some w7.heap.size)) (w7.alloc (.map #[] 0)) := by rfl
        have hmk2 : (Instr.makeMap 71 none).run Tryd.prog (w7.alloc (.map #[] 0)) = .ok (.map (some (w7.heap.size + 1))) ((w7.alloc (.map #[] 0)).alloc (.map #[] 0)) := by
          have h1 : (Instr.makeMap 71 none).run Tryd.prog (w7.alloc (.map #[] 0)) = .ok (.map (some (w7.alloc (.map #[] 0)).heap.size)) ((w7.alloc (.map #[] 0)).alloc (.map #[] 0)) := by rfl
          have hs : (w7.alloc (.map #[] 0)).heap.size = w7.heap.size + 1 := by simp
          rw [hs] at h1
          exact h1
        have A9 := Za (Zu (Zd w7 (.map #[] 0)) (.map #[] 0))
        have LO : Hid (BMap ((w7.alloc (.map #[] 0)).alloc (.map #[] 0)) w7.heap.size 0 (fun _ => false)) := Za ((BMap.made w7).keep ((Zd _ _).block _ (by simp)))
        have HO : Hid (IMap ((w7.alloc (.map #[] 0)).alloc (.map #[] 0)) (w7.heap.size + 1) 0 (fun _ => 0)) := Za (by
          have h1 := IMap.made (w7.alloc (.map #[] 0))
          have hs : (w7.alloc (.map #[] 0)).heap.size = w7.heap.size + 1 := by simp
          rw [hs] at h1
          exact h1)
        have LX : Hid (bx < w7.heap.size /\ w.heap.size <= w7.heap.size) := Za ⟨Ze BX.out, BW.out.size⟩
        have RA9 := Za (RA.out.bel A9.out)
        clear RA
        have RA := RA9
        clear RA9
        have BW9 := Za (Zi BW.out A9.out)
        clear BW
        have BW := BW9
        clear BW9
        have BX9 := Za ((A9.out.block bx (Ze BX.out)).trans BX.out)
        clear BX
        have BX := BX9
        clear BX9
        clear A9
        go_upto_region 11 with fail
        obtain ⟨bl, hbl⟩ : ∃ b, b = w7.heap.size := ⟨_, rfl⟩
        obtain ⟨bh, hbh⟩ : ∃ b, b = w7.heap.size + 1 := ⟨_, rfl⟩
        generalize (w7.alloc (.map #[] 0)).alloc (.map #[] 0) = w9 at *
        rw [← hbh] at HO ⊢
        rw [← hbl] at LO LX ⊢
        have HBB : Hid (bl ≠ bh /\ bx < bh /\ w.heap.size <= bh) := Za ⟨by omega, by have := LX.out; omega, by have := LX.out; omega⟩
        clear hmk1 hmk2 hbl hbh
        obtain ⟨ne, hne⟩ : ∃ n, n = rf.ev.length := ⟨_, rfl⟩
        have HNE := Za hne
        have hn1 : ne <= 1000 := by have := LE.out; omega
        clear hne
        go_wp2_with fail
        refine (Events_any RA.out (by have := LE.out; omega)).mono ?_
        rintro e w10 ⟨a4, c4, rfl, o4, hb⟩
        rw [← HNE.out]
        have S4 : Hid (∀ (i : Nat) (e : Evt), rf.ev[i]? = some e -> ∃ (b : Nat), a4 = some ⟨b, 0, none⟩ /\ b < w10.heap.size /\ b ≠ bl /\ b ≠ bh /\ w10.cell? ⟨b, i * 4, none⟩ = some (.int .i64 e.g) /\ w10.cell? ⟨b, i * 4 + 1, none⟩ = some (.int .i64 e.k) /\ w10.cell? ⟨b, i * 4 + 2, none⟩ = some (.int .i64 e.o) /\ w10.cell? ⟨b, i * 4 + 3, none⟩ = some (.int .i64 e.a)) := Za (fun i e he => by
          have hi := (List.getElem?_eq_some_iff.1 he).1
          obtain ⟨b, eA⟩ := own_adr o4 (by omega)
          subst eA
          obtain ⟨q0, q1, q2, q3⟩ := ecs_at _ _ _ he
          have hlo := Zf o4 (k := b) rfl
          have h1 := LO.out.lt
          have h2 := HO.out.lt
          exact ⟨b, rfl, hlo.2.1, by omega, by omega, (Zm o4 _ _ q0).1, (Zm o4 _ _ q1).1, (Zm o4 _ _ q2).1, (Zm o4 _ _ q3).1⟩)
        have HK0 : Hid (Hk w w10 w10 (qs.map Prod.snd) rf.ev bl bh 0 h0) := Za ⟨rfl, LO.out.keep (hb.block bl LO.out.lt), HO.out.keep (hb.block bh HO.out.lt), fun o => ⟨Int.le_refl _, Int.le_refl _⟩, Ch.refl _ _⟩
        have BW9 := Za (Zi BW.out hb)
        clear BW
        have BW := BW9
        clear BW9
        have BX9 := Za ((hb.block bx (Ze BX.out)).trans BX.out)
        clear BX
        have BX := BX9
        clear BX9
        clear o4 hb LO HO RA LE
        have CX : Hid (∀ W, Ch (fun q => q = bl ∨ q = bh) (fun q => q = bl ∨ q = bh) w10 W -> (W.cell? ⟨bx, 3, none⟩ = some (.slice aC lC cC) /\ Below w.heap.size w W /\ ∀ (i : Nat) (r : Int), lk (qs.map Prod.snd) (i : Int) = some r -> i < lC /\ ∃ b o, aC = some ⟨b, o, none⟩ /\ b < w.heap.size /\ W.cell? ⟨b, o + i * 2 + 1, none⟩ = some (.int .i64 r))) := Za (fun W c => by
          have hlw : ∀ q, (q = bl ∨ q = bh) -> w.heap.size <= q := fun q hq => by
            have h1 := LX.out
            have h2 := HBB.out
            rcases hq with e | e <;> omega
          have hbw := BW.out.trans (c.bel hlw BW.out.size)
          refine ⟨ZS (c.blk bx (Ze BX.out) (fun e => by have h1 := LX.out; have h2 := HBB.out; omega)) (Zb BX.out 3 _ rfl), hbw, fun i r hr => ?_⟩
          rw [lk_nat, List.getElem?_map] at hr
          obtain ⟨x, hx, rfl⟩ := Option.map_eq_some_iff.1 hr
          have hi := (List.getElem?_eq_some_iff.1 hx).1
          obtain ⟨a', c', e', _, _, h3⟩ := HC.out
          injection e' with e1 e2 e3
          obtain ⟨b, o, ea, hbl, _, hcell⟩ := h3 i hi
          have eg : qs.getD i (0, 0) = x := by simp [List.getD, hx]
          rw [eg] at hcell
          exact ⟨by omega, b, o, by rw [e1]; exact ea, hbl, (hbw.cell (p := ⟨b, o + i * 2 + 1, none⟩) hbl).trans hcell⟩)
        obtain ⟨yy, hyy, _⟩ := HI.out
        have HY := Za hyy
        clear hyy HI HC BX
        go_wp2_with fail
        go_loopw [11, 38] (fun x11 x38 wr => ∃ k : Nat, k <= ne /\ x38 = .int .i64 k /\ Hid (∃ h, Hk w w10 wr (qs.map Prod.snd) rf.ev bl bh k h)) (fun _ x38 _ => ne - (intOf x38).toNat)
        case atStart => exact ⟨0, Nat.zero_le _, rfl, Za ⟨_, HK0.out⟩⟩
        case round =>
          clear HK0
          obtain ⟨k, hk, rfl, HJ⟩ := hrel
          obtain ⟨h, hkk⟩ := HJ.out
          by_cases hlt : k < ne
          · have hlt' : (k : Int) < (ne : Int) := by omega
            obtain ⟨x, hx⟩ : ∃ x, rf.ev[k]? = some x := ⟨_, List.getElem?_eq_getElem (by rw [← HNE.out]; exact hlt)⟩
            obtain ⟨h', hh'⟩ := hold_at HY.out hx hkk.run
            obtain ⟨b, rfl, hbl, hb1, hb2, p0, p1, p2, p3⟩ := S4.out k x hx
            have hkeep := hkk.ch.blk b hbl (fun e => e.elim hb1 hb2)
            have u0 := ZS hkeep p0
            have u1 := ZS hkeep p1
            have u2 := ZS hkeep p2
            have u3 := ZS hkeep p3
            have HX := Za hx
            obtain ⟨eg, ek, eo, ea⟩ := x
            simp only at u0 u1 u2 u3
            have EX := Za (B_ wr (.cells #[.int .i64 eg, .int .i64 ek, .int .i64 eo, .int .i64 ea] 75))
            have AE := Za (Zd wr (.cells #[.int .i64 eg, .int .i64 ek, .int .i64 eo, .int .i64 ea] 75))
            have HK := Za (hkk.bel AE.out)
            have HH := Za hh'
            have NB : Hid (wr.heap.size ≠ bl /\ wr.heap.size ≠ bh) := Za ⟨by have := hkk.lo.lt; omega, by have := hkk.he.lt; omega⟩
            clear p0 p1 p2 p3 hx hbl hb1 hb2 hkeep hkk hh' HJ
            go_upto_region 14 with fail
            obtain ⟨be, hbe⟩ : ∃ b, b = wr.heap.size := ⟨_, rfl⟩
            generalize wr.alloc _ = W1 at *
            rw [← hbe] at EX NB ⊢
            clear hbe u0 u1 u2 u3 AE
            have y1 : W1.cell? ⟨be, 1, none⟩ = some (.int .i64 ek) := Zb EX.out 1 _ rfl
            have y2 : W1.cell? ⟨be, 2, none⟩ = some (.int .i64 eo) := Zb EX.out 2 _ rfl
            by_cases k3 : ek = 3
            · subst k3
              obtain ⟨o1, o2, o3, rfl⟩ := holdE_3 HH.out rfl
              simp only at o1 o2 o3
              have hw := wf_int (x := eo) (by omega) (by omega)
              have LK := HK.out.lo.look hw
              rw [o3] at LK
              obtain ⟨W2, UP, bm, hg⟩ := HK.out.lo.put (by unfold maxLen; omega) hw true
              have R2 := Za (And.intro bm hg)
              clear o1 o2 o3 hw bm hg
              go_wp2_with fail
              go_roundw
              case rel => exact ⟨k + 1, by omega, by go_num, Za ⟨_, HK.out.lock HBB.out.1 HX.out HH.out R2.out.1 R2.out.2⟩⟩
              case measure => simp [intOf]; omega
            by_cases k4 : ek = 4
            · subst k4
              obtain ⟨o1, o2, o3, rfl⟩ := holdE_4 HH.out rfl
              simp only at o1 o2 o3
              have hw := wf_int (x := eo) (by omega) (by omega)
              have LK := HK.out.lo.look hw
              rw [o3] at LK
              obtain ⟨W2, UP, bm, hg⟩ := HK.out.lo.put (by unfold maxLen; omega) hw false
              have R2 := Za (And.intro bm hg)
              clear o1 o2 o3 hw bm hg k3
              go_wp2_with fail
              go_roundw
              case rel => exact ⟨k + 1, by omega, by go_num, Za ⟨_, HK.out.lock HBB.out.1 HX.out HH.out R2.out.1 R2.out.2⟩⟩
              case measure => simp [intOf]; omega
            have d3 : (ek == 3) = false := by simp [k3]
            have d4 : (ek == 4) = false := by simp [k4]
            by_cases k5 : ek = 5
            · subst k5
              obtain ⟨r, o1, o2, o3, rfl⟩ := holdE_5 HH.out rfl
              simp only at o1 o2 o3
              obtain ⟨i, rfl, hi⟩ := ZI o1
              have hw := wf_int (x := (i : Int)) (by omega) (by omega)
              have LK := HK.out.he.look hw
              obtain ⟨hv, hhv⟩ : ∃ v, h.2 (i : Int) = v := ⟨_, rfl⟩
              have hb9 := HK.out.nn (i : Int)
              rw [hhv] at LK o3 hb9
              obtain ⟨W2, UP, bm, hg⟩ := HK.out.he.put (v := hv + 1) (by unfold maxLen; omega) hw (wf_int (by omega) (by omega))
              have hwr : wrap64 (hv + 1) = hv + 1 := by
                unfold wrap64
                omega
              have H2 : Hid (Hk w w10 W2 (qs.map Prod.snd) rf.ev bl bh (k + 1) (h.1, up h.2 (i : Int) (hv + 1))) := Za (HK.out.chan HBB.out.1 HX.out (by have := HH.out; simp only at this; rw [hhv] at this; exact this) ⟨by omega, by omega⟩ bm hg)
              have EX2 := Za ((hg.block be (Ze EX.out) (fun e => NB.out.2 (by cases e; rfl))).trans EX.out)
              clear o2 bm hg HK HH EX k3 k4
              go_upto_region 22 with fail
              clear LK UP y1 y2 hwr
              obtain ⟨c3, _, hroom⟩ := CX.out W2 H2.out.ch
              obtain ⟨hil, bC, oC, rfl, hbC, c4⟩ := hroom i r (by rw [lk_nat]; rw [lk_nat] at o1; exact o1)
              have hil' : (i : Int) < (lC : Int) := by omega
              have y2 : W2.cell? ⟨be, 2, none⟩ = some (.int .i64 (i : Nat)) := Zb EX2.out 2 _ rfl
              have LK2 := (H2.out.he.keep (w' := W2.drew) rfl).look hw
              have eu : up h.2 (i : Int) (hv + 1) (i : Int) = hv + 1 := by simp [up]
              simp only [eu] at LK2
              clear hi o1 hw eu hhv
              by_cases hr : r <= 1
              · have hr2 : hv + 1 <= 1 := by omega
                have hr3 : ¬ (1 : Int) < hv + 1 := by omega
                clear o3
                refine wp_region_T (S := fun w' => (Instr.lookup 71 (.map (some bh)) (.int .i64 (i : Int)) false).run Tryd.prog w' = .ok (.int .i64 (hv + 1)) w' /\ w'.cell? ⟨be, 2, none⟩ = some (.int .i64 (i : Nat)) /\ w'.cell? ⟨bx, 3, none⟩ = some (.slice (some ⟨bC, oC, none⟩) lC cC) /\ w'.cell? ⟨bC, oC + i * 2 + 1, none⟩ = some (.int .i64 r)) (fun _ => true) ZU ⟨LK2, y2, c3, c4⟩ (fun hH => ?_)
                refine Zr (i := 0) (v := ?_) rfl (by kernel_rfl) (by kernel_rfl) (by kernel_rfl) (fun _ _ _ h => h) (Or.inl ⟨by rfl, ?_⟩) ?_
                rotate_left 1
                · (intro w _; go_simp <;> with_reducible rfl)
                simp only [Act.put, S_]
                refine Zr (i := 1) (v := ?_) rfl (by kernel_rfl) (by kernel_rfl) (by kernel_rfl) (fun _ _ _ h => h) (Or.inl ⟨by rfl, ?_⟩) ?_
                rotate_left 1
                · (intro w _; go_simp <;> with_reducible rfl)
                simp only [Act.put, S_]
                refine Yo (i := 2) (v := ?_) rfl (by kernel_rfl) (by kernel_rfl) (by kernel_rfl) (by kernel_rfl) (fun _ _ _ h => h) (Or.inl ⟨by rfl, ?_⟩) hH ?_
                rotate_left 1
                · (intro w hSw; have s1 := hSw.1; have s2 := hSw.2.1; have s3 := hSw.2.2.1; have s4 := hSw.2.2.2; clear hSw; go_simp <;> with_reducible rfl)
                simp only [Act.put, S_]
                refine Yo (i := 3) (v := ?_) rfl (by kernel_rfl) (by kernel_rfl) (by kernel_rfl) (by kernel_rfl) (fun _ _ _ h => h) (Or.inl ⟨by rfl, ?_⟩) hH ?_
                rotate_left 1
                · (intro w hSw; have s1 := hSw.1; have s2 := hSw.2.1; have s3 := hSw.2.2.1; have s4 := hSw.2.2.2; clear hSw; go_simp <;> with_reducible rfl)
                simp only [Act.put, S_]
                refine Zr (i := 4) (v := ?_) rfl (by kernel_rfl) (by kernel_rfl) (by kernel_rfl) (fun _ _ _ h => h) (Or.inl ⟨by rfl, ?_⟩) ?_
                rotate_left 1
                · (intro w _; go_simp <;> with_reducible rfl)
                simp only [Act.put, S_]
                refine Yo (i := 5) (v := ?_) rfl (by kernel_rfl) (by kernel_rfl) (by kernel_rfl) (by kernel_rfl) (fun _ _ _ h => h) (Or.inl ⟨by rfl, ?_⟩) hH ?_
                rotate_left 1
                · (intro w hSw; have s1 := hSw.1; have s2 := hSw.2.1; have s3 := hSw.2.2.1; have s4 := hSw.2.2.2; clear hSw; go_simp <;> with_reducible rfl)
                simp only [Act.put, S_]
                refine Zr (i := 6) (v := ?_) rfl (by kernel_rfl) (by kernel_rfl) (by kernel_rfl) (fun _ _ _ h => h) (Or.inl ⟨by rfl, ?_⟩) ?_
                rotate_left 1
                · (intro w _; go_simp <;> with_reducible rfl)
                simp only [Act.put, S_]
                refine Yo (i := 7) (v := ?_) rfl (by kernel_rfl) (by kernel_rfl) (by kernel_rfl) (by kernel_rfl) (fun _ _ _ h => h) (Or.inl ⟨by rfl, ?_⟩) hH ?_
                rotate_left 1
                · (intro w hSw; have s1 := hSw.1; have s2 := hSw.2.1; have s3 := hSw.2.2.1; have s4 := hSw.2.2.2; clear hSw; go_simp <;> with_reducible rfl)
                simp only [Act.put, S_]
                refine Zr (i := 8) (v := ?_) rfl (by kernel_rfl) (by kernel_rfl) (by kernel_rfl) (fun _ _ _ h => h) (Or.inl ⟨by rfl, ?_⟩) ?_
                rotate_left 1
                · (intro w _; go_simp <;> with_reducible rfl)
                simp only [Act.put, S_]
                refine Zr (i := 9) (v := ?_) rfl (by kernel_rfl) (by kernel_rfl) (by kernel_rfl) (fun _ _ _ h => h) (Or.inl ⟨by rfl, ?_⟩) ?_
                rotate_left 1
                · (intro w _; go_simp <;> with_reducible rfl)
                simp only [Act.put, S_]
                refine Yo (i := 10) (v := ?_) rfl (by kernel_rfl) (by kernel_rfl) (by kernel_rfl) (by kernel_rfl) (fun _ _ _ h => h) (Or.inl ⟨by rfl, ?_⟩) hH ?_
                rotate_left 1
                · (intro w hSw; have s1 := hSw.1; have s2 := hSw.2.1; have s3 := hSw.2.2.1; have s4 := hSw.2.2.2; clear hSw; go_simp <;> with_reducible rfl)
                simp only [Act.put, S_]
                refine Zr (i := 11) (v := ?_) rfl (by kernel_rfl) (by kernel_rfl) (by kernel_rfl) (fun _ _ _ h => h) (Or.inl ⟨by rfl, ?_⟩) ?_
                rotate_left 1
                · (intro w _; go_simp <;> with_reducible rfl)
                simp only [Act.put, S_]
                refine Zr (i := 12) (v := ?_) rfl (by kernel_rfl) (by kernel_rfl) (by kernel_rfl) (fun _ _ _ h => h) (Or.inl ⟨by rfl, ?_⟩) ?_
                rotate_left 1
                · (intro w _; go_simp <;> with_reducible rfl)
                simp only [Act.put, S_]
                refine T_done (by kernel_rfl) ?_ _
                clear hH
                go_wp2_with fail
                go_roundw
                case rel => exact ⟨k + 1, by omega, by go_num, Za ⟨_, H2.out.bel (Zs (Below.refl _ _))⟩⟩
                case measure => simp [intOf]; omega
              · have hr1 : 1 < r := by omega
                have hr3 : ¬ r < hv + 1 := by omega
                clear o3 hr
                refine wp_region_T (S := fun w' => (Instr.lookup 71 (.map (some bh)) (.int .i64 (i : Int)) false).run Tryd.prog w' = .ok (.int .i64 (hv + 1)) w' /\ w'.cell? ⟨be, 2, none⟩ = some (.int .i64 (i : Nat)) /\ w'.cell? ⟨bx, 3, none⟩ = some (.slice (some ⟨bC, oC, none⟩) lC cC) /\ w'.cell? ⟨bC, oC + i * 2 + 1, none⟩ = some (.int .i64 r)) (fun _ => true) ZU ⟨LK2, y2, c3, c4⟩ (fun hH => ?_)
                refine Zr (i := 0) (v := ?_) rfl (by kernel_rfl) (by kernel_rfl) (by kernel_rfl) (fun _ _ _ h => h) (Or.inl ⟨by rfl, ?_⟩) ?_
                rotate_left 1
                · (intro w _; go_simp <;> with_reducible rfl)
                simp only [Act.put, S_]
                refine Zr (i := 1) (v := ?_) rfl (by kernel_rfl) (by kernel_rfl) (by kernel_rfl) (fun _ _ _ h => h) (Or.inl ⟨by rfl, ?_⟩) ?_
                rotate_left 1
                · (intro w _; go_simp <;> with_reducible rfl)
                simp only [Act.put, S_]
                refine Yo (i := 2) (v := ?_) rfl (by kernel_rfl) (by kernel_rfl) (by kernel_rfl) (by kernel_rfl) (fun _ _ _ h => h) (Or.inl ⟨by rfl, ?_⟩) hH ?_
                rotate_left 1
                · (intro w hSw; have s1 := hSw.1; have s2 := hSw.2.1; have s3 := hSw.2.2.1; have s4 := hSw.2.2.2; clear hSw; go_simp <;> with_reducible rfl)
                simp only [Act.put, S_]
                refine Yo (i := 3) (v := ?_) rfl (by kernel_rfl) (by kernel_rfl) (by kernel_rfl) (by kernel_rfl) (fun _ _ _ h => h) (Or.inl ⟨by rfl, ?_⟩) hH ?_
                rotate_left 1
                · (intro w hSw; have s1 := hSw.1; have s2 := hSw.2.1; have s3 := hSw.2.2.1; have s4 := hSw.2.2.2; clear hSw; go_simp <;> with_reducible rfl)
                simp only [Act.put, S_]
                refine Zr (i := 4) (v := ?_) rfl (by kernel_rfl) (by kernel_rfl) (by kernel_rfl) (fun _ _ _ h => h) (Or.inl ⟨by rfl, ?_⟩) ?_
                rotate_left 1
                · (intro w _; go_simp <;> with_reducible rfl)
                simp only [Act.put, S_]
                refine Yo (i := 5) (v := ?_) rfl (by kernel_rfl) (by kernel_rfl) (by kernel_rfl) (by kernel_rfl) (fun _ _ _ h => h) (Or.inl ⟨by rfl, ?_⟩) hH ?_
                rotate_left 1
                · (intro w hSw; have s1 := hSw.1; have s2 := hSw.2.1; have s3 := hSw.2.2.1; have s4 := hSw.2.2.2; clear hSw; go_simp <;> with_reducible rfl)
                simp only [Act.put, S_]
                refine Zr (i := 6) (v := ?_) rfl (by kernel_rfl) (by kernel_rfl) (by kernel_rfl) (fun _ _ _ h => h) (Or.inl ⟨by rfl, ?_⟩) ?_
                rotate_left 1
                · (intro w _; go_simp <;> with_reducible rfl)
                simp only [Act.put, S_]
                refine Yo (i := 7) (v := ?_) rfl (by kernel_rfl) (by kernel_rfl) (by kernel_rfl) (by kernel_rfl) (fun _ _ _ h => h) (Or.inl ⟨by rfl, ?_⟩) hH ?_
                rotate_left 1
                · (intro w hSw; have s1 := hSw.1; have s2 := hSw.2.1; have s3 := hSw.2.2.1; have s4 := hSw.2.2.2; clear hSw; go_simp <;> with_reducible rfl)
                simp only [Act.put, S_]
                refine Zr (i := 8) (v := ?_) rfl (by kernel_rfl) (by kernel_rfl) (by kernel_rfl) (fun _ _ _ h => h) (Or.inl ⟨by rfl, ?_⟩) ?_
                rotate_left 1
                · (intro w _; go_simp <;> with_reducible rfl)
                simp only [Act.put, S_]
                refine Zr (i := 9) (v := ?_) rfl (by kernel_rfl) (by kernel_rfl) (by kernel_rfl) (fun _ _ _ h => h) (Or.inl ⟨by rfl, ?_⟩) ?_
                rotate_left 1
                · (intro w _; go_simp <;> with_reducible rfl)
                simp only [Act.put, S_]
                refine Yo (i := 10) (v := ?_) rfl (by kernel_rfl) (by kernel_rfl) (by kernel_rfl) (by kernel_rfl) (fun _ _ _ h => h) (Or.inl ⟨by rfl, ?_⟩) hH ?_
                rotate_left 1
                · (intro w hSw; have s1 := hSw.1; have s2 := hSw.2.1; have s3 := hSw.2.2.1; have s4 := hSw.2.2.2; clear hSw; go_simp <;> with_reducible rfl)
                simp only [Act.put, S_]
                refine Zr (i := 11) (v := ?_) rfl (by kernel_rfl) (by kernel_rfl) (by kernel_rfl) (fun _ _ _ h => h) (Or.inl ⟨by rfl, ?_⟩) ?_
                rotate_left 1
                · (intro w _; go_simp <;> with_reducible rfl)
                simp only [Act.put, S_]
                refine Zr (i := 12) (v := ?_) rfl (by kernel_rfl) (by kernel_rfl) (by kernel_rfl) (fun _ _ _ h => h) (Or.inl ⟨by rfl, ?_⟩) ?_
                rotate_left 1
                · (intro w _; go_simp <;> with_reducible rfl)
                simp only [Act.put, S_]
                refine T_done (by kernel_rfl) ?_ _
                clear hH
                go_wp2_with fail
                go_roundw
                case rel => exact ⟨k + 1, by omega, by go_num, Za ⟨_, H2.out.bel (Zs (Below.refl _ _))⟩⟩
                case measure => simp [intOf]; omega
            have d5 : (ek == 5) = false := by simp [k5]
            by_cases k6 : ek = 6
            · subst k6
              obtain ⟨o1, o2, o3, rfl⟩ := holdE_6 HH.out rfl
              simp only at o1 o2 o3
              have hw := wf_int (x := eo) (by omega) (by omega)
              have LK := HK.out.he.look hw
              obtain ⟨hv, hhv⟩ : ∃ v, h.2 eo = v := ⟨_, rfl⟩
              have hb9 := HK.out.nn eo
              rw [hhv] at LK o3 hb9
              obtain ⟨W2, UP, bm, hg⟩ := HK.out.he.put (v := hv - 1) (by unfold maxLen; omega) hw (wf_int (by omega) (by omega))
              have hwr : wrap64 (hv - 1) = hv - 1 := by
                unfold wrap64
                omega
              have H2 : Hid (Hk w w10 W2 (qs.map Prod.snd) rf.ev bl bh (k + 1) (h.1, up h.2 eo (hv - 1))) := Za (HK.out.chan HBB.out.1 HX.out (by have := HH.out; simp only at this; rw [hhv] at this; exact this) ⟨by omega, by omega⟩ bm hg)
              have EX2 := Za ((hg.block be (Ze EX.out) (fun e => NB.out.2 (by cases e; rfl))).trans EX.out)
              clear o1 o2 bm hg HK HH EX k3 k4 k5
              go_upto_region 26 with fail
              clear LK UP y1 y2 hwr
              have y2 : W2.cell? ⟨be, 2, none⟩ = some (.int .i64 eo) := Zb EX2.out 2 _ rfl
              have LK2 := H2.out.he.look hw
              have eu : up h.2 eo (hv - 1) eo = hv - 1 := by simp [up]
              simp only [eu] at LK2
              have hr3 : ¬ hv - 1 < 0 := by omega
              clear hw eu hhv
              go_wp2_with fail
              go_roundw
              case rel => exact ⟨k + 1, by omega, by go_num, Za ⟨_, H2.out⟩⟩
              case measure => simp [intOf]; omega
            have d6 : (ek == 6) = false := by simp [k6]
            have HN2 := Za (HK.out.skip HX.out (holdE_other k3 k4 k5 k6))
            clear k3 k4 k5 k6
            go_wp2_with fail
            go_roundw
            case rel => exact ⟨k + 1, by omega, by go_num, Za ⟨_, HN2.out⟩⟩
            case measure => simp [intOf]; omega
          · have ek : k = ne := by omega
            subst ek
            have BF := Za (CX.out wr hkk.ch).2.1
            clear hkk HJ
            go_wp2_with fail
            go_ret
            exact Vb.mk rfl BF.out
theorem holds_all {w : World} {vP vC vS vK : Value} {ps ks : List Int} {qs : List (Int × Int)} {S : List (List Wt)} {p : List Addr} (h17 : E3 w p) (m a fn : Int) (hP : Sl w vP ps) (hp2 : ps.length <= 140737488351232) (hC : SlC w vC qs) (hq2 : qs.length <= 140737488351232) (hS : SSrcU w vS S) (hK : Sl w vK ks) : Calls Tryd.prog 4 #[.agg #[vP, .int .i64 m, .int .i64 a, vC, vS, .int .i64 fn], vK] w (Vb w (.bool true)) := by
 obtain ⟨aP, lP, cP, rfl, _⟩ := hP.slice
 obtain ⟨aC, cC, rfl, _⟩ := id hC
 obtain ⟨aS, cS, rfl, _⟩ := id hS
 exact holds_main h17 m a fn hP hp2 hC hq2 hS hK
end Go.Proofs.YtghfjnnmpmfboaaDoor.Ck
