/- Texts of this proof, packed: contracts of the program's functions, and the plain model that they are held against. -/
import Derived.Test.YtghfjnnmpmfboaaDoorQap
import Derived.Deep.LoopGhost
import Derived.Maps.OwnSet
import Derived.Maps.Views
set_option maxRecDepth 20000
set_option maxHeartbeats 4000000
namespace Go.Proofs.YtghfjnnmpmfboaaDoor.Ck
open Go.RowKit
theorem runn_len (r : Rm) : (Yy r).length <= r.gs.length := by
 unfold Yy
 by_cases h : Yz r = true
 · rw [if_pos h]
   exact runK_len r r.gs.length
 · rw [if_neg h]
   simp
theorem set5_ne {w : World} {b k : Nat} {x0 x1 x2 x3 x4 : Value} (h : k ≠ b) : (((((w.setCell ⟨b, 0, none⟩ x0).setCell ⟨b, 1, none⟩ x1).setCell ⟨b, 2, none⟩ x2).setCell ⟨b, 3, none⟩ x3).setCell ⟨b, 4, none⟩ x4).heap[k]? = w.heap[k]? :=
 (Below.heap_setCell _ _ _ _ h).trans ((Below.heap_setCell _ _ _ _ h).trans ((Below.heap_setCell _ _ _ _ h).trans ((Below.heap_setCell _ _ _ _ h).trans (Below.heap_setCell _ _ _ _ h))))
def PlayP (w : World) (G F : Nat -> Prop) (g : Nat) (S : List (List Wt)) (v : Value) (l : List Int) (q : Rm × Nat) (e : Ending) (w' : World) : Prop := e = .returned (EnV (if Yz q.1 = true then ⟨4, 0, 0, 0, 0⟩ else endR q.1)) /\ ∃ G', Rn w' G' g S q.1 /\ Pks w' F v l q.2 /\ (∀ k, F k -> ¬ G' k) /\ Ch (fun k => G k ∨ F k) (fun k => G' k ∨ F k) w w'
structure Pl (w wr : World) (G0 F G : Nat -> Prop) (g : Nat) (S : List (List Wt)) (v : Value) (l : List Int) (r : Rm) (n : Nat) (p : List Addr) : Prop where
 rn : Rn wr G g S r
 pk : Pks wr F v l n
 ap : ∀ k, F k -> ¬ G k
 er : E3 wr p
 of : Off G
 ff : Off F
 ch : Ch (fun k => G0 k ∨ F k) (fun k => G k ∨ F k) w wr
section
variable {w wr w' : World} {G0 F G G' : Nat → Prop} {g : Nat} {S : List (List Wt)} {v : Value} {l : List Int} {r r' : Rm} {n n' : Nat} {p : List Addr}
theorem Pl.bel (h : Pl w wr G0 F G g S v l r n p) (hb : Below wr.heap.size wr w') : Pl w w' G0 F G g S v l r n p :=
 ⟨h.rn.bel hb, h.pk.bel hb, h.ap, h.er.below (Nat.le_refl _) hb, h.of, h.ff, h.ch.trans (Ch.of_bel hb)⟩
theorem Pl.run (h : Pl w wr G0 F G g S v l r n p) (rn : Rn w' G' g S r') (c : Ch G G' wr w') : Pl w w' G0 F G' g S v l r' n p := by
 obtain ⟨h1, h2⟩ := h.pk.ch c h.ap
 obtain ⟨h3, h4⟩ := h.er.ch h.of c
 refine ⟨rn, h1, h2, h3, h4, h.ff, h.ch.trans (c.wide (fun k hk => .inl hk) (fun k hk => ?_))⟩
 rcases hk with h5 | h5
 · exact (c.grow k h5).imp .inl id
 · exact .inl (.inr h5)
theorem Pl.pick (h : Pl w wr G0 F G g S v l r n p) (pk : Pks w' F v l n') (c : Ch F F wr w') : Pl w w' G0 F G g S v l r n' p := by
 obtain ⟨h1, _⟩ := h.rn.ch c (fun k hk hF => h.ap k hF hk)
 exact ⟨h1, pk, h.ap, (h.er.ch h.ff c).1, h.of, h.ff, h.ch.trans (c.wide (fun k hk => .inr hk) (fun k hk => .inl hk))⟩
end
theorem Play_any {w : World} {G F : Nat -> Prop} {g : Nat} {S : List (List Wt)} {l : List Int} {r : Rm} {n ob nb : Nat} {p : List Addr} (h : Pl w w G F G g S (.func (.func 73) #[] #[.pointer (some ⟨ob, 0, none⟩), .pointer (some ⟨nb, 0, none⟩)]) l r n p) (fuel : Int) (hf : fuel <= 1000) :
    Calls Tryd.prog 25 #[.pointer (some ⟨g, 0, none⟩), .func (.func 73) #[] #[.pointer (some ⟨ob, 0, none⟩), .pointer (some ⟨nb, 0, none⟩)], .int .i64 fuel] w (PlayP w G F g S (.func (.func 73) #[] #[.pointer (some ⟨ob, 0, none⟩), .pointer (some ⟨nb, 0, none⟩)]) l (playW S l fuel r n)) := by
  have hE : ∀ w, (binOp .eql 54 (.func (.func 73) #[] #[.pointer (some ⟨ob, 0, none⟩), .pointer (some ⟨nb, 0, none⟩)]) .nilFunc).run Tryd.prog w = .ok (.bool false) w := fun w => by kernel_rfl
  have B0 := Za (Zd w (.cells #[.int .i64 0, .int .i64 0, .int .i64 0, .int .i64 0, .int .i64 0] 67))
  have V0 : Hid ((w.alloc (.cells #[.int .i64 0, .int .i64 0, .int .i64 0, .int .i64 0, .int .i64 0] 67)).heap[w.heap.size]? = some (.cells #[.int .i64 0, .int .i64 0, .int .i64 0, .int .i64 0, .int .i64 0] 67 (0, 0))) := Za (B_ w _)
  have NG : Hid (¬ (G w.heap.size ∨ F w.heap.size)) := Za (fun hk => hk.elim (fun h1 => absurd (h.rn.fb _ h1) (by omega)) (fun h1 => absurd (h.pk.fb _ h1) (by omega)))
  have hh := h.bel B0.out
  have H0 := Za (Pl.mk hh.rn hh.pk hh.ap hh.er hh.of hh.ff (Ch.refl (fun k => G k ∨ F k) (w.alloc (.cells #[.int .i64 0, .int .i64 0, .int .i64 0, .int .i64 0, .int .i64 0] 67))))
  obtain ⟨q, hq⟩ : ∃ q, playW S l fuel r n = q := ⟨_, rfl⟩
  rw [hq]
  have HQ := Za hq
  clear h hq hh
  go_enter Tryd.func25, Tryd.ntmps25
  go_upto_region 1 with fail
  generalize w.alloc _ = w1 at *
  go_wp2_with fail
  go_loopg [] (left fuel r) (fun gh wr => ∃ (G' : Nat -> Prop) (r' : Rm) (n' : Nat), gh = left fuel r' /\ Hid (Pl w1 wr G F G' g S (.func (.func 73) #[] #[.pointer (some ⟨ob, 0, none⟩), .pointer (some ⟨nb, 0, none⟩)]) l r' n' p /\ playW S l fuel r' n' = q))
  case atStart => exact ⟨G, r, n, rfl, Za ⟨H0.out, HQ.out⟩⟩
  case round =>
    obtain ⟨G', r', n', rfl, HI⟩ := hrel
    have EN := Za (ended_any HI.out.1.rn HI.out.1.er.e2)
    cases hr : Yz r' with
    | false =>
      have eq : Hid (q = (r', n')) := Za (HI.out.2.symm.trans (playW_stop (by rw [hr]; simp)))
      rw [hr] at EN
      have HR := Za hr
      clear hr
      go_wp2_with fail
      refine EN.out.mono ?_
      rintro e w2 ⟨rfl, hb⟩
      have P2 := Za (HI.out.1.bel hb)
      have EN2 := Za (ended_any P2.out.rn P2.out.er.e2)
      rw [HR.out] at EN2
      clear hb HI EN
      go_wp2_with fail
      refine EN2.out.mono ?_
      rintro e w3 ⟨rfl, hb⟩
      have P3 := Za (P2.out.bel hb)
      have ED := Za (End_any P3.out.rn P3.out.er.e2)
      clear hb EN2 P2
      obtain ⟨z, hz⟩ : ∃ z, endR r' = z := ⟨_, rfl⟩
      rw [hz] at ED
      have HZ := Za hz
      obtain ⟨e0, e1, e2, e3, e4⟩ := z
      unfold EnV at ED
      simp only at ED
      clear hz
      go_wp2_with fail
      refine ED.out.mono ?_
      rintro e w4 ⟨rfl, hb⟩
      have P4 := Za (P3.out.bel hb)
      obtain ⟨k4, n4, l4⟩ := P4.out.ch.keepB NG.out (Ze V0.out)
      have X1 : Hid (w4.heap[w.heap.size]? = some (.cells #[.int .i64 0, .int .i64 0, .int .i64 0, .int .i64 0, .int .i64 0] 67 (0, 0))) := Za (k4.trans V0.out)
      have q0 := Zb X1.out 0 _ rfl
      have q1 := Zb X1.out 1 _ rfl
      have q2 := Zb X1.out 2 _ rfl
      have q3 := Zb X1.out 3 _ rfl
      have q4 := Zb X1.out 4 _ rfl
      have f0 := Zc X1.out 0
      have f1 := Zc X1.out 1
      have f2 := Zc X1.out 2
      have f3 := Zc X1.out 3
      have f4 := Zc X1.out 4
      have N4 := Za n4
      clear hb ED P3 k4 n4 l4
      go_wp2_with fail
      refine ret_en w.heap.size rfl rfl (set5 X1.out _ _ _ _ _) rfl ?_
      have BB := bel_set5 (Below.refl w.heap.size w4) (Nat.le_refl _) (.int .i64 e0) (.int .i64 e1) (.int .i64 e2) (.int .i64 e3) (.int .i64 e4)
      have e5 := eq.out
      subst e5
      refine ⟨by rw [if_neg (by rw [HR.out]; simp), HZ.out]; rfl, G', P4.out.rn.keep (fun k hk => ?_) BB.size, P4.out.pk.keep (fun k hk => ?_) BB.size, P4.out.ap, ((Ch.of_bel B0.out).trans P4.out.ch).below BB⟩
      · exact set5_ne (fun e => N4.out (.inl (e ▸ hk)))
      · exact set5_ne (fun e => N4.out (.inr (e ▸ hk)))
    | true =>
      rw [hr] at EN
      by_cases hlt : (r'.ev.length : Int) < fuel
      · have hm := choose_mem (l := l) (n := n') (runn_some hr (runs_e hr))
        obtain ⟨i, hi, hc, _⟩ := runn_mem hm
        have eqs := Za (HI.out.2.symm.trans (playW_step ⟨hr, hlt⟩ hi hc))
        have hle := Za (do_left (S := S) hr hc hlt)
        have hl9 : Hid (r'.ev.length <= 90000) := Za (by omega)
        have CO := Za (fun (w2 : World) (hb : Below wr.heap.size wr w2) => Count_any (HI.out.1.bel hb).rn)
        have RS := Za (runn_some hr (runs_e hr))
        have HR := Za (And.intro hr (And.intro hc hi))
        clear hm hr hc hi
        obtain ⟨m, hm⟩ : ∃ m, m = r'.ev.length := ⟨_, rfl⟩
        rw [← hm] at CO hlt
        clear hm
        go_wp2_with fail
        refine EN.out.mono ?_
        rintro e w2 ⟨rfl, hb⟩
        have P2 := Za (HI.out.1.bel hb)
        have CO2 := Za (CO.out w2 hb)
        clear hb CO EN
        go_wp2_with fail
        refine CO2.out.mono ?_
        rintro e w3 ⟨rfl, rfl⟩
        have RU := Za (Runnable_any P2.out.rn P2.out.er.e2)
        go_wp2_with fail
        refine RU.out.mono ?_
        rintro e w4 ⟨a4, c4, rfl, o4, hb⟩
        have P4 := Za (P2.out.bel hb)
        have CH := Za (choose_any o4 RS.out (by
          obtain ⟨_, _, _, _, _, _, _, _, _, _, h', _⟩ := P4.out.rn
          exact Nat.le_trans (runn_len r') h'.n8) P4.out.pk (fun k hk hF => absurd (P2.out.pk.fb k hF) (by have := (Zf o4 hk).1; omega)))
        clear o4 hb RU P2 CO2
        generalize (Yy r').length = m4 at *
        go_wp2_with fail
        refine CH.out.mono ?_
        rintro e w5 ⟨rfl, pk, ch⟩
        have P5 := Za (P4.out.pick pk ch)
        rw [HR.out.2.2]
        have DO := Za (Do_ok P5.out.rn P5.out.er P5.out.of i HR.out.1 HR.out.2.1 hl9.out)
        clear pk ch CH P4
        go_wp2_with fail
        refine DO.out.mono ?_
        rintro e w6 ⟨rfl, G6, rn, ch⟩
        have P6 := Za (P5.out.run rn ch)
        clear rn ch DO P5
        go_wp2_with fail
        go_roundg (left fuel (doR S r' i))
        case measure => exact hle.out
        case rel => exact ⟨G6, doR S r' i, _, rfl, Za ⟨P6.out, eqs.out.symm⟩⟩
      · have eq : Hid (q = (r', n')) := Za (HI.out.2.symm.trans (playW_stop (fun h => hlt h.2)))
        have CO := Za (fun (w2 : World) (hb : Below wr.heap.size wr w2) => Count_any (HI.out.1.bel hb).rn)
        have HR := Za hr
        have hge : fuel <= (r'.ev.length : Int) := by omega
        clear hr
        obtain ⟨m, hm⟩ : ∃ m, m = r'.ev.length := ⟨_, rfl⟩
        rw [← hm] at CO hlt hge
        clear hm hlt
        go_wp2_with fail
        refine EN.out.mono ?_
        rintro e w2 ⟨rfl, hb⟩
        have P2 := Za (HI.out.1.bel hb)
        have CO2 := Za (CO.out w2 hb)
        clear hb CO EN HI
        go_wp2_with fail
        refine CO2.out.mono ?_
        rintro e w3 ⟨rfl, rfl⟩
        have EN2 := Za (ended_any P2.out.rn P2.out.er.e2)
        rw [HR.out] at EN2
        go_wp2_with fail
        refine EN2.out.mono ?_
        rintro e w4 ⟨rfl, hb⟩
        have P4 := Za (P2.out.bel hb)
        obtain ⟨k4, n4, l4⟩ := P4.out.ch.keepB NG.out (Ze V0.out)
        have X1 : Hid (w4.heap[w.heap.size]? = some (.cells #[.int .i64 0, .int .i64 0, .int .i64 0, .int .i64 0, .int .i64 0] 67 (0, 0))) := Za (k4.trans V0.out)
        have q0 := Zb X1.out 0 _ rfl
        have q1 := Zb X1.out 1 _ rfl
        have q2 := Zb X1.out 2 _ rfl
        have q3 := Zb X1.out 3 _ rfl
        have q4 := Zb X1.out 4 _ rfl
        have f0 := Zc X1.out 0
        have f1 := Zc X1.out 1
        have f2 := Zc X1.out 2
        have f3 := Zc X1.out 3
        have f4 := Zc X1.out 4
        have N4 := Za n4
        clear hb EN2 P2 CO2 k4 n4 l4
        go_wp2_with fail
        refine ret_en w.heap.size rfl rfl (set5 X1.out _ _ _ _ _) rfl ?_
        have BB := bel_set5 (Below.refl w.heap.size w4) (Nat.le_refl _) (.int .i64 4) (.int .i64 0) (.int .i64 0) (.int .i64 0) (.int .i64 0)
        have e5 := eq.out
        subst e5
        refine ⟨by rw [if_pos HR.out]; rfl, G', P4.out.rn.keep (fun k hk => ?_) BB.size, P4.out.pk.keep (fun k hk => ?_) BB.size, P4.out.ap, ((Ch.of_bel B0.out).trans P4.out.ch).below BB⟩
        · exact set5_ne (fun e => N4.out (.inl (e ▸ hk)))
        · exact set5_ne (fun e => N4.out (.inr (e ▸ hk)))
theorem Off.mk {G : Nat -> Prop} {N : Nat} (h : ∀ k, G k -> N <= k) {w : World} {p : List Addr} (h17 : E3 w p) (hN : w.heap.size <= N) : Off G :=
 ⟨fun e => absurd (h _ e) (by have := h17.e2.l0; omega), fun e => absurd (h _ e) (by have := h17.e2.l4; omega), fun e => absurd (h _ e) (by have := h17.l9; omega)⟩
theorem alive12 {w : World} {p : List Addr} (h17 : E3 w p) : Calls Tryd.prog 22 #[] w (Vb w (.bool true)) := by
  have NW := Za (new_ok (.slice none 0 0) (.slice none 0 0) [] [] 1 0 (Sl.nilS w) (SlC.nilS w) rfl)
  have H7 := Za h17
  have hf := enf0
  clear h17
  go_enter Tryd.func22, Tryd.ntmps22
  go_wp2_with fail
  refine NW.out.mono ?_
  rintro e w1 ⟨gs, F, rfl, hs, hl, hb⟩
  have S1 : Hid (Stt w1 F gs s0 /\ (∀ k, F k -> w.heap.size <= k) /\ Below w.heap.size w w1) := Za ⟨hs, hl, hb⟩
  clear hs hl hb NW
  have SC := Za (scripted_any (src0 w1))
  have B3 : Hid (Below w1.heap.size w1 (((w1.alloc (.cells #[.int .i64 10, .int .i64 1, .int .i64 0, .int .i64 0, .int .i64 0, .int .u64 0, .slice none 0 0, .int .i64 3, .int .i64 0, .int .i64 0, .int .i64 0, .int .i64 0, .int .u64 0, .slice none 0 0, .int .i64 4, .int .i64 0, .int .i64 0, .int .i64 0, .int .i64 0, .int .u64 0, .slice none 0 0] 135)).alloc (.cells #[.int .i64 3, .int .i64 0, .int .i64 0, .int .i64 0, .int .i64 0, .int .u64 0, .slice none 0 0] 135)).alloc (.cells #[.slice (some ⟨w1.heap.size, 0, none⟩) 3 3, .slice (some ⟨w1.heap.size + 1, 0, none⟩) 1 1] 83))) := Za (Zu (Zu (Zd w1 _) _) _)
  go_wp2_with fail
  generalize ((w1.alloc _).alloc _).alloc _ = W3 at *
  refine SC.out.mono ?_
  rintro e w5 ⟨vB, R, rfl, bg, hR, hb5⟩
  have PR : Hid (Pre w5 F R gs s0 vB S0) := Za ⟨(S1.out.1.bel B3.out).bel hb5, fun q hq => (by cases hq), bg, fun k hk hF => (by
    have h1 := S1.out.1.fb k hF
    have h2 := (hR k hk).1
    have h3 := B3.out.size
    omega), fun k hk => (hR k hk).2⟩
  have B5 := Za (Zi (Zi S1.out.2.2 B3.out) hb5)
  have LO : Hid (∀ k, (F k ∨ R k) -> w.heap.size <= k) := Za (fun k hk => hk.elim (S1.out.2.1 k) (fun h => by
    have h1 := (hR k h).1
    have h2 := B3.out.size
    have h3 := S1.out.2.2.size
    omega))
  have E5 := Za (And.intro (H7.out.below (Nat.le_refl _) B5.out) (Off.mk LO.out H7.out (Nat.le_refl _)))
  clear bg hR hb5 SC S1 B3
  have ST := Za (start_any PR.out E5.out.1 E5.out.2 0)
  rw [show startR S0 s0 0 = r0 from rfl] at ST
  go_wp2_with fail
  refine ST.out.mono ?_
  rintro e w6 ⟨g, G6, rfl, rn, ch⟩
  have R6 := Za (And.intro rn (And.intro (E5.out.1.ch E5.out.2 ch) ch))
  clear rn ch ST PR
  have DO := Za (Do_ok R6.out.1 R6.out.2.1.1 R6.out.2.1.2 0 (show Yz r0 = true by decide +kernel) (show can r0 ((0 : Nat) : Int) = true by decide +kernel) (show r0.ev.length <= 90000 by decide +kernel))
  rw [show doR S0 r0 0 = r1 from rfl] at DO
  simp only [Int.ofNat_zero] at DO
  go_wp2_with fail
  refine DO.out.mono ?_
  rintro e w7 ⟨rfl, G7, rn, ch⟩
  have R7 := Za (And.intro rn (And.intro (R6.out.2.1.1.ch R6.out.2.1.2 ch) (R6.out.2.2.trans ch)))
  clear rn ch DO R6
  have DO := Za (Do_ok R7.out.1 R7.out.2.1.1 R7.out.2.1.2 1 (show Yz r1 = true by decide +kernel) (show can r1 ((1 : Nat) : Int) = true by decide +kernel) (show r1.ev.length <= 90000 by decide +kernel))
  rw [show doR S0 r1 1 = r2 from rfl] at DO
  go_wp2_with fail
  refine DO.out.mono ?_
  rintro e w8 ⟨rfl, G8, rn, ch⟩
  have R8 := Za (And.intro rn (And.intro (R7.out.2.1.1.ch R7.out.2.1.2 ch) (R7.out.2.2.trans ch)))
  clear rn ch DO R7
  have DO := Za (Do_ok R8.out.1 R8.out.2.1.1 R8.out.2.1.2 1 (show Yz r2 = true by decide +kernel) (show can r2 ((1 : Nat) : Int) = true by decide +kernel) (show r2.ev.length <= 90000 by decide +kernel))
  rw [show doR S0 r2 1 = r3 from rfl] at DO
  go_wp2_with fail
  refine DO.out.mono ?_
  rintro e w9 ⟨rfl, G9, rn, ch⟩
  have R9 := Za (And.intro rn (And.intro (R8.out.2.1.1.ch R8.out.2.1.2 ch) (R8.out.2.2.trans ch)))
  clear rn ch DO R8
  have EN := Za (End_any R9.out.1 R9.out.2.1.1.e2)
  rw [show endR r3 = ⟨2, 0, 0, 0, 0⟩ from by kernel_rfl] at EN
  unfold EnV at EN
  simp only at EN
  go_wp2_with fail
  refine EN.out.mono ?_
  rintro e w10 ⟨rfl, hb⟩
  have R10 := Za (And.intro (R9.out.1.bel hb) (And.intro (R9.out.2.1.1.below (Nat.le_refl _) hb) (R9.out.2.2.trans (Ch.of_bel hb))))
  clear hb EN R9
  have RU := Za (Runnable_any R10.out.1 R10.out.2.1.e2)
  rw [show Yy r3 = [] by decide +kernel] at RU
  go_wp2_with fail
  refine RU.out.mono ?_
  rintro e w11 ⟨a, c, rfl, _, hb⟩
  have R11 := Za (And.intro (R10.out.1.bel hb) (R10.out.2.2.trans (Ch.of_bel hb)))
  clear hb RU R10
  have CO := Za (Count_any R11.out.1)
  rw [show r3.ev.length = 3 by decide +kernel] at CO
  go_wp2_with fail
  refine CO.out.mono ?_
  rintro e w12 ⟨rfl, rfl⟩
  go_wp2_with fail
  go_ret
  exact Vb.mk rfl (B5.out.trans (R11.out.2.bel LO.out B5.out.size))
def MadeP (w : World) (ok : Bool) (S : List (List Wt)) (s : St) (fn : Int) (e : Ending) (w' : World) : Prop := (ok = false /\ e = .returned (.tuple #[.pointer none, .pointer none, .bool false]) /\ Below w.heap.size w w') ∨
 (ok = true /\ ∃ g gm G Gm, e = .returned (.tuple #[.pointer (some ⟨g, 0, none⟩), .pointer (some ⟨gm, 0, none⟩), .bool true]) /\ Rn w' G g S (startR S s fn) /\ Rr w' Gm 0 gm S (startZ S s fn) /\ (∀ k, G k -> ¬ Gm k) /\ (∀ k, G k ∨ Gm k -> w.heap.size <= k) /\ Below w.heap.size w w')
theorem new_ty {ps : List Int} {m a : Int} {qs : List (Int × Int)} (h : okN ps m qs a = true) : ∀ q ∈ (newS ps m qs a).C, 1 <= q.t /\ q.t <= 3 := fun q hq => by
 unfold okN at h
 simp only [Bool.and_eq_true] at h
 obtain ⟨_, _, _, _, _, h6⟩ := h
 simp only [newS, List.mem_map] at hq
 obtain ⟨c, hc, rfl⟩ := hq
 have := h6
 simp only [Bool.not_eq_true', List.any_eq_false] at this
 have h7 := this c hc
 show 1 <= c.1 /\ c.1 <= 3
 unfold badC chanB Yc at h7
 by_cases h8 : c.1 = 1 ∨ c.1 = 2 ∨ c.1 = 3
 · omega
 · rw [if_neg h8] at h7
   simp at h7
theorem errV_form (p : List Addr) (n : Nat) : ∃ a, errV p n = .iface 221 (.pointer (some a)) := ⟨_, rfl⟩
theorem made_bad {w : World} {aP aC aS : Option Addr} {lP cP lC cC nS cS : Nat} {ps : List Int} {qs : List (Int × Int)} {S : List (List Wt)} {p : List Addr} (h17 : E3 w p) (m a fn : Int) (hP : Sl w (.slice aP lP cP) ps) (hC : SlC w (.slice aC lC cC) qs) (hok : okN ps m qs a = false) : Calls Tryd.prog 24 #[.agg #[.slice aP lP cP, .int .i64 m, .int .i64 a, .slice aC lC cC, .slice aS nS cS, .int .i64 fn]] w (MadeP w false S (newS ps m qs a) fn) := by
 have AB := Za (Zd w (.cells #[.slice aP lP cP, .int .i64 m, .int .i64 a, .slice aC lC cC, .slice aS nS cS, .int .i64 fn] 61))
 have N2 := Za (fun w3 (h3 : Below w.heap.size w w3) => rnew_any (.slice aP lP cP) (.slice aC lC cC) ps qs m a (hP.below (Nat.le_refl _) h3) (hC.below h3))
 have BX := Za (B_ w (.cells #[.slice aP lP cP, .int .i64 m, .int .i64 a, .slice aC lC cC, .slice aS nS cS, .int .i64 fn] 61))
 have N1 := Za (new_bad (.slice aP lP cP) (.slice aC lC cC) ps qs m a (h17.e2.below (Nat.le_refl _) AB.out) (hP.below (Nat.le_refl _) AB.out) (hC.below AB.out) hok)
 obtain ⟨ea, hea⟩ := errV_form p 0
 rw [hea] at N1
 rw [hok] at N2
 clear h17 hP hC hok hea
 go_enter Tryd.func24, Tryd.ntmps24
 go_wp2_with fail
 generalize w.alloc _ = w1 at *
 obtain ⟨bx, hbx⟩ : ∃ b, b = w.heap.size := ⟨_, rfl⟩
 rw [← hbx] at BX ⊢
 refine N1.out.mono ?_
 rintro e w2 ⟨rfl, hb2⟩
 have BX9 := Za ((hb2.block bx (Ze BX.out)).trans BX.out)
 clear BX
 have BX := BX9
 clear BX9
 have x0 := Zb BX.out 0 _ rfl
 have x1 := Zb BX.out 1 _ rfl
 have x2 := Zb BX.out 2 _ rfl
 have x3 := Zb BX.out 3 _ rfl
 have x4 := Zb BX.out 4 _ rfl
 have x5 := Zb BX.out 5 _ rfl
 have B2 := Za (Zi AB.out hb2)
 clear hb2 hbx AB N1
 go_wp2_with fail
 refine (N2.out _ B2.out).mono ?_
 rintro e w3 (⟨_, rfl, hb3⟩ | ⟨h, _⟩)
 · have B3 := Za (Zi B2.out hb3)
   clear hb3 N2
   go_wp2_with fail
   refine bodyPost_ret (v := .tuple #[.pointer none, .pointer none, .bool false]) (by simp [results, Tryd.results24, go_sem]) rfl ?_
   exact .inl ⟨rfl, rfl, B3.out⟩
 · cases h
theorem made_ok {w : World} {aP aC aS : Option Addr} {lP cP lC cC nS cS : Nat} {ps : List Int} {qs : List (Int × Int)} {S : List (List Wt)} {p : List Addr} (h17 : E3 w p) (m a fn : Int) (hP : Sl w (.slice aP lP cP) ps) (hC : SlC w (.slice aC lC cC) qs) (hS : SSrc w (.slice aS nS cS) S) (hok : okN ps m qs a = true) : Calls Tryd.prog 24 #[.agg #[.slice aP lP cP, .int .i64 m, .int .i64 a, .slice aC lC cC, .slice aS nS cS, .int .i64 fn]] w (MadeP w true S (newS ps m qs a) fn) := by
  have AB := Za (Zd w (.cells #[.slice aP lP cP, .int .i64 m, .int .i64 a, .slice aC lC cC, .slice aS nS cS, .int .i64 fn] 61))
  have N2 := Za (fun w3 (h3 : Below w.heap.size w w3) => rnew_any (.slice aP lP cP) (.slice aC lC cC) ps qs m a (hP.below (Nat.le_refl _) h3) (hC.below h3))
  have BX := Za (B_ w (.cells #[.slice aP lP cP, .int .i64 m, .int .i64 a, .slice aC lC cC, .slice aS nS cS, .int .i64 fn] 61))
  have N1 := Za (new_ok (.slice aP lP cP) (.slice aC lC cC) ps qs m a (hP.below (Nat.le_refl _) AB.out) (hC.below AB.out) hok)
  have TY := Za (new_ty hok)
  have H17 := Za h17
  have HS := Za hS
  rw [hok] at N2
  obtain ⟨_, _, eS, hS2, hS9⟩ := hS
  cases eS
  obtain ⟨nS, hnS⟩ : ∃ n, n = S.length := ⟨_, rfl⟩
  rw [← hnS] at HS AB BX N1 hS2 ⊢
  have HN := Za hnS
  clear h17 hP hC hok hnS hS9
  have HW1 : Hid (w.heap.size < (w.alloc (.cells #[.slice aP lP cP, .int .i64 m, .int .i64 a, .slice aC lC cC, .slice aS nS cS, .int .i64 fn] 61)).heap.size) := Za (by simp)
  go_enter Tryd.func24, Tryd.ntmps24
  go_wp2_with fail
  generalize w.alloc _ = w1 at *
  obtain ⟨bx, hbx⟩ : ∃ b, b = w.heap.size := ⟨_, rfl⟩
  rw [← hbx] at BX ⊢
  refine N1.out.mono ?_
  rintro e w2 ⟨gs, F, rfl, hs, hlF, hb2⟩
  have BX9 := Za ((hb2.block bx (Ze BX.out)).trans BX.out)
  clear BX
  have BX := BX9
  clear BX9
  have x0 := Zb BX.out 0 _ rfl
  have x1 := Zb BX.out 1 _ rfl
  have x2 := Zb BX.out 2 _ rfl
  have x3 := Zb BX.out 3 _ rfl
  have x4 := Zb BX.out 4 _ rfl
  have x5 := Zb BX.out 5 _ rfl
  have B2 := Za (Zi AB.out hb2)
  have LF : Hid (∀ k, F k -> bx < k) := Za (fun k hk => by have h1 := hlF k hk; have h2 := HW1.out; omega)
  have ST := Za hs
  have HBX : Hid (bx = w.heap.size) := Za hbx
  clear hs hlF hb2 AB N1 hbx HW1
  go_wp2_with fail
  refine (N2.out _ B2.out).mono ?_
  rintro e w3 (⟨h, _⟩ | ⟨_, gm, F2, rfl, hr, hlF2, hb3⟩)
  · cases h
  have AP : Hid (∀ k, F k -> ¬ F2 k) := Za (fun k h1 h2 => by have h3 := ST.out.fb k h1; have h4 := hlF2 k h2; omega)
  have LF2 : Hid (∀ k, F2 k -> bx < k) := Za (fun k hk => by have h1 := hlF2 k hk; have h2 := Ze BX.out; omega)
  clear x0 x1 x2 x3 x4 x5
  have BX9 := Za ((hb3.block bx (Ze BX.out)).trans BX.out)
  clear BX
  have BX := BX9
  clear BX9
  have ST9 := Za (ST.out.bel hb3)
  clear ST
  have ST := ST9
  clear ST9
  have RT := Za hr
  have B3 := Za (Zi B2.out hb3)
  clear hr hlF2 hb3 B2 N2
  have x0 := Zb BX.out 0 _ rfl
  have x1 := Zb BX.out 1 _ rfl
  have x2 := Zb BX.out 2 _ rfl
  have x3 := Zb BX.out 3 _ rfl
  have x4 := Zb BX.out 4 _ rfl
  have x5 := Zb BX.out 5 _ rfl
  have I0 : Hid (∃ vs, Cq w3 (w3.alloc (.cells #[] 139)) S 0 (.slice (some ⟨w3.heap.size, 0, none⟩) 0 0) vs) := Za ⟨_, Cq.start w3⟩
  go_upto_region 6 with fail
  clear x0 x1 x2 x3 x4 x5
  have BX4 := Za (((Zd w3 (.cells #[] 139)).block bx (Ze BX.out)).trans BX.out)
  obtain ⟨A0, hA0⟩ : ∃ z : Value, z = .slice (some ⟨w3.heap.size, 0, none⟩) 0 0 := ⟨_, rfl⟩
  have B0 : Hid (∃ c, A0 = .slice (some ⟨w3.heap.size, 0, none⟩) 0 c) := Za ⟨_, hA0⟩
  rw [← hA0] at I0 ⊢
  generalize w3.alloc _ = w4 at *
  clear hA0
  have x4 := Zb BX4.out 4 _ rfl
  go_wp2_with fail
  clear x4 BX4
  go_loopw [9, 11, 12, 14, 49] (fun x9 x11 x12 x14 q wr => ∃ (k : Nat) (aa : Option Addr) (ca : Nat), k <= nS /\ q = .int .i64 k /\ x9 = .slice aa k ca /\ Hid (∃ vs, Cq w3 wr S k (.slice aa k ca) vs)) (fun _ _ _ _ q _ => nS - (intOf q).toNat)
  case atStart =>
    obtain ⟨c, e⟩ := B0.out
    rw [e] at I0 ⊢
    exact ⟨0, _, c, Nat.zero_le _, rfl, rfl, I0⟩
  case round =>
    clear I0 B0
    obtain ⟨k, aa, ca, hk, rfl, rfl, HI⟩ := hrel
    obtain ⟨vs, cq⟩ := HI.out
    by_cases hlt : k < nS
    · have hlt' : (k : Int) < (nS : Int) := by omega
      obtain ⟨l, hl⟩ : ∃ l, S[k]? = some l := ⟨_, List.getElem?_eq_getElem (by rw [← HN.out]; exact hlt)⟩
      have HW : Hid (∃ b o vi, aS = some ⟨b, o, none⟩ /\ b < w.heap.size /\ w.cell? ⟨b, o + k, none⟩ = some vi /\ WSrc w vi l) := Za (by
        obtain ⟨a', c', e', _, h3⟩ := HS.out
        cases e'
        exact h3 k l hl)
      obtain ⟨b, o, vi, rfl, hbl, hc1, hws⟩ := HW.out
      have HWS := Za hws
      obtain ⟨ai, ci, rfl, hm2, hws3⟩ := hws
      obtain ⟨ml, hm⟩ : ∃ m, m = l.length := ⟨_, rfl⟩
      rw [← hm] at hc1 hm2 HWS
      have HM := Za hm
      have HL := Za hl
      have CQ := Za cq
      have BWR := Za (Zi B3.out (cq.bel.mono (Nat.le_refl _)))
      have u := (BWR.out.cell (p := ⟨b, o + k, none⟩) hbl).trans hc1
      have J0 : Hid (∃ vs, Cq w3 (wr.alloc (.cells #[] 141)) S k (.slice aa k ca) vs /\ Ci w3 (wr.alloc (.cells #[] 141)) l 0 (.slice (some ⟨wr.heap.size, 0, none⟩) 0 0) vs) := Za ⟨vs, cq.low (Zd _ _), Ci.start cq⟩
      clear HW hws3 hl hm hc1 hbl cq HI
      go_wp2_with fail
      clear u
      generalize wr.alloc _ = w5 at *
      obtain ⟨wo, hwo⟩ : ∃ z, z = wr.heap.size := ⟨_, rfl⟩
      rw [← hwo] at J0 ⊢
      clear hwo CQ BWR
      go_loopw [12, 14, 56] (fun x12 x14 q wr => ∃ (j : Nat) (av : Option Addr) (cv : Nat), j <= ml /\ q = .int .i64 j /\ x12 = .slice av j cv /\ Hid (∃ vs, Cq w3 wr S k (.slice aa k ca) vs /\ Ci w3 wr l j (.slice av j cv) vs)) (fun _ _ q _ => ml - (intOf q).toNat)
      case atStart => exact ⟨0, _, _, Nat.zero_le _, rfl, rfl, J0⟩
      case round =>
        clear J0
        obtain ⟨j, av, cv, hj, rfl, rfl, HJ⟩ := hrel
        obtain ⟨vs, cq, ci⟩ := HJ.out
        by_cases hjt : j < ml
        · have hjt' : (j : Int) < (ml : Int) := by omega
          obtain ⟨x, hxj⟩ : ∃ x, l[j]? = some x := ⟨_, List.getElem?_eq_getElem (by rw [← HM.out]; exact hjt)⟩
          have BWR := Za (Zi B3.out cq.bel)
          obtain ⟨ai', ci', ei', hq2, hq3⟩ := HWS.out.bel BWR.out
          cases ei'
          obtain ⟨b2, o2, va, rfl, hb2, hcl, hac⟩ := hq3 j x hxj
          obtain ⟨ax, nx, cx, xs, rfl, _⟩ := id hac
          obtain ⟨xk, xo, xa, x0, x1, x2⟩ := x
          have e0 : wr.cell? ⟨b2, o2 + j * 7, none⟩ = some (.int .i64 xk) := hcl 0 _ rfl
          have e1 : wr.cell? ⟨b2, o2 + j * 7 + 1, none⟩ = some (.int .i64 xo) := hcl 1 _ rfl
          have e2 : wr.cell? ⟨b2, o2 + j * 7 + 2, none⟩ = some (.int .i64 xa) := hcl 2 _ rfl
          have e3 : wr.cell? ⟨b2, o2 + j * 7 + 3, none⟩ = some (.int .i64 x0) := hcl 3 _ rfl
          have e4 : wr.cell? ⟨b2, o2 + j * 7 + 4, none⟩ = some (.int .i64 x1) := hcl 4 _ rfl
          have e5 : wr.cell? ⟨b2, o2 + j * 7 + 5, none⟩ = some (.int .u64 x2) := hcl 5 _ rfl
          have e6 : wr.cell? ⟨b2, o2 + j * 7 + 6, none⟩ = some (.slice ax nx cx) := hcl 6 _ rfl
          have A2 := Za (Zu (Zd wr (.cells #[.int .i64 xk, .int .i64 xo, .int .i64 xa, .int .i64 x0, .int .i64 x1, .int .u64 x2, .slice ax nx cx] 135)) (.cells #[.int .i64 xk, .int .i64 xo, .int .i64 xa, .int .i64 x0, .int .i64 x1, .int .u64 x2] 141))
          have CQ := Za (cq.low A2.out)
          have CI := Za (ci.low A2.out)
          have HXJ := Za hxj
          have NB : Hid (((wr.alloc (.cells #[.int .i64 xk, .int .i64 xo, .int .i64 xa, .int .i64 x0, .int .i64 x1, .int .u64 x2, .slice ax nx cx] 135)).alloc (.cells #[.int .i64 xk, .int .i64 xo, .int .i64 xa, .int .i64 x0, .int .i64 x1, .int .u64 x2] 141)).heap[wr.heap.size + 1]? = some (.cells #[.int .i64 xk, .int .i64 xo, .int .i64 xa, .int .i64 x0, .int .i64 x1, .int .u64 x2] 141 (0, 0))) := Za (by
            have h1 := B_ (wr.alloc (.cells #[.int .i64 xk, .int .i64 xo, .int .i64 xa, .int .i64 x0, .int .i64 x1, .int .u64 x2, .slice ax nx cx] 135)) (.cells #[.int .i64 xk, .int .i64 xo, .int .i64 xa, .int .i64 x0, .int .i64 x1, .int .u64 x2] 141)
            have hs : (wr.alloc (.cells #[.int .i64 xk, .int .i64 xo, .int .i64 xa, .int .i64 x0, .int .i64 x1, .int .u64 x2, .slice ax nx cx] 135)).heap.size = wr.heap.size + 1 := by simp
            rw [hs] at h1
            exact h1)
          have PU := Za (fun ty => pushR (w := (wr.alloc (.cells #[.int .i64 xk, .int .i64 xo, .int .i64 xa, .int .i64 x0, .int .i64 x1, .int .u64 x2, .slice ax nx cx] 135)).alloc (.cells #[.int .i64 xk, .int .i64 xo, .int .i64 xa, .int .i64 x0, .int .i64 x1, .int .u64 x2] 141)) (gx := wr.heap.size + 1) (ys := w6s [⟨xk, xo, xa, (x0, x1, x2)⟩]) Tryd.underlying139 info_rw rfl (by decide) (by decide) CI.out.own (by omega) rfl (fun q u hu => Zb NB.out q u (by simpa [w6s] using hu)) (w6s_one _) ty)
          clear hq3 hcl hac hxj cq ci HJ BWR hq2 NB
          go_wp2_with (first | (at_builtin; refine ZW (TS := 139) rfl (.tmp 60) (.tmp 70) rfl _ _ rfl rfl _ (PU.out _) ?_; rintro v9 w9 ⟨⟨a9, c9, rfl⟩, o9, g9, b9⟩; have R9 := Za (And.intro o9 (And.intro g9 b9)); clear o9 g9 b9))
          go_roundw
          case rel =>
            obtain ⟨h1, h2⟩ := CQ.out.step CI.out HXJ.out R9.out.1 R9.out.2.1 R9.out.2.2
            exact ⟨j + 1, a9, c9, by omega, by go_num, rfl, Za ⟨vs, h1, h2⟩⟩
          case measure => simp [intOf]; omega
        · have ej : j = ml := by omega
          subst ej
          have A2 := Za (Zd wr (.cells #[.slice av j cv] 139))
          have CQ := Za (cq.low A2.out)
          have CI := Za (ci.low A2.out)
          have NB := Za (B_ wr (.cells #[.slice av j cv] 139))
          have PU := Za (fun ty => pushR (w := wr.alloc (.cells #[.slice av j cv] 139)) (gx := wr.heap.size) (ys := [.slice av j cv]) Tryd.underlying138 info_rsw rfl (by decide) (by decide) CQ.out.al (by omega) rfl (fun q u hu => Zb NB.out q u (by simpa using hu)) (fun u hu => by simp at hu; subst hu; rfl) ty)
          clear cq ci HJ NB
          go_wp2_with (first | (at_builtin; refine ZW (TS := 138) rfl (.tmp 73) (.tmp 75) rfl _ _ rfl rfl _ (PU.out _) ?_; rintro v9 w9 ⟨⟨a9, c9, rfl⟩, o9, g9, b9⟩; have R9 := Za (And.intro o9 (And.intro g9 b9)); clear o9 g9 b9))
          go_roundw
          case rel => exact ⟨k + 1, a9, c9, by omega, by go_num, rfl, Za ⟨_, CQ.out.push CI.out HL.out HM.out R9.out.1 R9.out.2.1 R9.out.2.2⟩⟩
          case measure => simp [intOf]; omega
    · have ek : k = nS := by omega
      subst ek
      have MT : Hid (Mt w w3 wr bx (.cells #[.slice aP lP cP, .int .i64 m, .int .i64 a, .slice aC lC cC, .slice aS k cS, .int .i64 fn] 61 (0, 0)) F F2 (fun _ => False) gm (newS ps m qs a) S (.slice aa k ca) vs) := Za (by
        have hbl := Ze BX.out
        refine { bo := (cq.bel.block bx hbl).trans BX.out, xb := fun e => ?_, xl := fun q hq => ?_, xs := fun q hq => Nat.lt_of_lt_of_le (ST.out.fb q hq) cq.bel.size, rt := RT.out.bel cq.bel, al := ?_, row := cq.row, f2 := fun q hq => ⟨?_, RT.out.fb q hq⟩, yl := fun q hq => ?_, tl := fun q hq => hq.elim, ap := fun q hq => ⟨AP.out q hq, fun e => ?_, fun e => e⟩, s3 := B3.out.size, bel := Zi B3.out cq.bel }
        · have := LF.out bx e
          omega
        · have h1 := LF.out q hq
          have h2 := HBX.out
          omega
        · have h1 := cq.al
          rw [← HN.out]
          exact h1
        · have h1 := LF2.out q hq
          have h2 := HBX.out
          omega
        · rcases hq with h1 | ⟨v, hv, h1⟩
          · exact ⟨cq.lo q h1, (Zf cq.al h1).2.1⟩
          · exact cq.lr v hv q h1
        · have h2 := ST.out.fb q hq
          rcases e with h1 | ⟨v, hv, h1⟩
          · have := cq.lo q h1
            omega
          · have := (cq.lr v hv q h1).1
            omega)
      have ST4 := Za (ST.out.bel cq.bel)
      have SS4 := Za (HS.out.bel (Zi B3.out cq.bel))
      have W3 := Za cq.bel.size
      have VL : Hid (vs.length = S.length) := Za (by have h1 := cq.al.1; have h2 := HN.out; omega)
      have SZ : Hid (S.length <= 2000 /\ ∀ l ∈ S, l.length <= 2000) := Za (by
        obtain ⟨_, _, _, h1, h2⟩ := HS.out
        refine ⟨h1, fun l hl => ?_⟩
        obtain ⟨i, hi⟩ := List.mem_iff_getElem?.1 hl
        obtain ⟨_, _, _, _, _, _, _, _, _, h3, _⟩ := h2 i l hi
        exact h3)
      have LB : Hid (bx < w3.heap.size /\ ¬ F2 bx) := Za ⟨Ze BX.out, fun e => by have := LF2.out bx e; omega⟩
      clear cq HI BX ST RT AP LF LF2 HS HN hS2 hk hlt
      go_upto_region 17 with fail
      refine wp_region_T (S := fun w' => w'.heap[bx]? = some (.cells #[.slice aP lP cP, .int .i64 m, .int .i64 a, .slice aC lC cC, .slice aS k cS, .int .i64 fn] 61 (0, 0))) (fun _ => true) ZU MT.out.bo (fun hH => ?_)
      have MT9 := Za (MT.out.low (W' := wr.drew) (Zs (Below.refl _ _)))
      clear MT
      have MT := MT9
      clear MT9
      have ST49 := Za (ST4.out.bel (w' := wr.drew) (Zs (Below.refl _ _)))
      clear ST4
      have ST4 := ST49
      clear ST49
      have SS49 := Za (SS4.out.bel (w' := wr.drew) (Zs (Below.refl _ _)))
      clear SS4
      have SS4 := SS49
      clear SS49
      have W3' : Hid (w3.heap.size <= wr.drew.heap.size) := W3
      clear W3
      have W3 := W3'
      clear W3'
      generalize wr.drew = wd at *
      refine Zr (i := 0) (v := ?_) rfl (by kernel_rfl) (by kernel_rfl) (by kernel_rfl) (fun _ _ _ h => h) (Or.inl ⟨by rfl, ?_⟩) ?_
      rotate_left 1
      · (intro w _; go_simp <;> with_reducible rfl)
      simp only [Act.put, S_]
      refine Zr (i := 1) (v := ?_) rfl (by kernel_rfl) (by kernel_rfl) (by kernel_rfl) (fun _ _ _ h => h) (Or.inl ⟨by rfl, ?_⟩) ?_
      rotate_left 1
      · (intro w _; go_simp <;> with_reducible rfl)
      simp only [Act.put, S_]
      refine Yo (i := 2) (v := ?_) rfl (by kernel_rfl) (by kernel_rfl) (by kernel_rfl) (by kernel_rfl) (fun _ _ _ h => h) (Or.inl ⟨by rfl, ?_⟩) hH ?_
      rotate_left 1
      · (intro w hSw; have q := Zb hSw 4 _ rfl; clear hSw; go_simp <;> with_reducible rfl)
      simp only [Act.put, S_]
      refine Zr (i := 4) (v := ?_) rfl (by kernel_rfl) (by kernel_rfl) (by kernel_rfl) (fun _ _ _ h => h) (Or.inl ⟨by rfl, ?_⟩) ?_
      rotate_left 1
      · (intro w _; go_simp <;> with_reducible rfl)
      simp only [Act.put, S_]
      refine Yo (i := 5) (v := ?_) rfl (by kernel_rfl) (by kernel_rfl) (by kernel_rfl) (by kernel_rfl) (fun _ _ _ h => h) (Or.inl ⟨by rfl, ?_⟩) hH ?_
      rotate_left 1
      · (intro w hSw; have q := Zb hSw 5 _ rfl; clear hSw; go_simp <;> with_reducible rfl)
      simp only [Act.put, S_]
      refine Zr (i := 7) (v := ?_) rfl (by kernel_rfl) (by kernel_rfl) (by kernel_rfl) (fun _ _ _ h => h) (Or.inl ⟨by rfl, ?_⟩) ?_
      rotate_left 1
      · (intro w _; go_simp <;> with_reducible rfl)
      simp only [Act.put, S_]
      refine Zr (i := 8) (v := ?_) rfl (by kernel_rfl) (by kernel_rfl) (by kernel_rfl) (fun _ _ _ h => h) (Or.inl ⟨by rfl, ?_⟩) ?_
      rotate_left 1
      · (intro w _; go_simp <;> with_reducible rfl)
      simp only [Act.put, S_]
      refine Zr (i := 9) (v := ?_) rfl (by kernel_rfl) (by kernel_rfl) (by kernel_rfl) (fun _ _ _ h => h) (Or.inl ⟨by rfl, ?_⟩) ?_
      rotate_left 1
      · (intro w _; go_simp <;> with_reducible rfl)
      simp only [Act.put, S_]
      refine Zr (i := 11) (v := ?_) rfl (by kernel_rfl) (by kernel_rfl) (by kernel_rfl) (fun _ _ _ h => h) (Or.inl ⟨by rfl, ?_⟩) ?_
      rotate_left 1
      · (intro w _; go_simp <;> with_reducible rfl)
      simp only [Act.put, S_]
      refine Yo (i := 12) (v := ?_) rfl (by kernel_rfl) (by kernel_rfl) (by kernel_rfl) (by kernel_rfl) (fun _ _ _ h => h) (Or.inl ⟨by rfl, ?_⟩) hH ?_
      rotate_left 1
      · (intro w hSw; have q := Zb hSw 5 _ rfl; clear hSw; go_simp <;> with_reducible rfl)
      simp only [Act.put, S_]
      clear hH
      refine Zy (rs := [3, 10]) (by kernel_rfl) (by decide) ?_
      refine Zl.cons rfl (fun K1 hK1 => ?_) (Zl.cons rfl (fun K1 hK1 => ?_) Zl.nil)
      · go_simp
        refine (scripted_any SS4.out).mono ?_
        rintro e V1 ⟨vB, R, rfl, bg, hR, hb⟩
        obtain ⟨cB, vSB, vsB, rfl, _⟩ := id bg
        have HB := Za hb
        have MT9 := Za (MT.out.more hb hR)
        refine hK1.out _ _ (fun _ => MT9.out.bo) (fun _ => ?_)
        clear hK1 K1 MT
        have MT := MT9
        clear MT9
        have PR := Za (Pre.mk (ST4.out.bel hb) TY.out bg (fun q hq e => by have h1 := ST4.out.fb q e; have h2 := (hR q hq).1; omega) (fun q hq => (hR q hq).2))
        have W39 := Za (Nat.le_trans W3.out hb.size)
        clear W3
        have W3 := W39
        clear W39
        clear ST4 SS4 bg hR hb HB
        refine Zy (rs := [6, 10]) (by kernel_rfl) (by decide) ?_
        refine Zl.cons rfl (fun K1 hK1 => ?_) (Zl.cons rfl (fun K1 hK1 => ?_) Zl.nil)
        · go_simp
          refine (start_any PR.out (H17.out.below (Nat.le_refl _) MT.out.bel) (Off.mk MT.out.xl H17.out (Nat.le_refl _)) fn).mono ?_
          rintro e V2 ⟨g, G, rfl, rn, ch⟩
          have MT9 := Za (MT.out.ch ch rn.fb)
          refine hK1.out _ _ (fun _ => MT9.out.bo) (fun _ => ?_)
          clear hK1 K1
          have W39 := Za (Nat.le_trans W3.out ch.size)
          clear W3
          have W3 := W39
          clear W39
          clear MT
          have MT := MT9
          clear MT9
          have RN := Za rn
          clear rn ch PR
          refine Zy (rs := [10]) (by kernel_rfl) (by decide) ?_
          refine Zl.cons rfl (fun K1 hK1 => ?_) Zl.nil
          have HB := Za (Zd V2 (.cells #[.slice aa k ca, .slice none 0 0, .slice none 0 0] 145))
          have MT9 := Za (MT.out.box W3.out (.cells #[.slice aa k ca, .slice none 0 0, .slice none 0 0] 145))
          have GT := Za (B_ V2 (.cells #[.slice aa k ca, .slice none 0 0, .slice none 0 0] 145))
          go_simp
          refine hK1.out _ _ (fun _ => MT9.out.bo) (fun _ => ?_)
          clear hK1 K1 MT
          have MT := MT9
          clear MT9
          have RN9 := Za (RN.out.bel HB.out)
          clear RN
          have RN := RN9
          clear RN9
          have W39 := Za (Nat.le_trans W3.out HB.out.size)
          clear W3
          have W3 := W39
          clear W39
          obtain ⟨gt, hgt⟩ : ∃ b, V2.heap.size = b := ⟨_, rfl⟩
          rw [hgt] at MT GT ⊢
          clear HB hgt
          generalize V2.alloc _ = V3 at *
          refine Zy (rs := [13]) (by kernel_rfl) (by decide) ?_
          refine Zl.cons rfl (fun K1 hK1 => ?_) Zl.nil
          have hd : Hid (∀ k_, G k_ -> ¬ (F2 k_ ∨ False ∨ k_ = gt ∨ Yb (.slice aa k ca) vs k_)) := Za (fun q hq e => by
            obtain ⟨h1, h2, h3⟩ := MT.out.ap q hq
            rcases e with e | e | e | e
            · exact h1 e
            · exact e
            · exact h3 e
            · exact h2 e)
          go_simp
          refine (rStart_any (MT.out.pq (gt := gt) rfl GT.out SZ.out VL.out) (by omega) fn).mono ?_
          rintro e V4 ⟨gn, Gm, rfl, rr, ch⟩
          have RN9 := Za (RN.out.ch ch hd.out)
          have BO := Za ((ch.blk bx (Ze MT.out.bo) (fun e => by
            have h9 := LB.out
            rcases e with e | e | e | e
            · exact h9.2 e
            · exact e
            · have := (MT.out.tl gt rfl).1
              omega
            · have := (MT.out.yl bx e).1
              omega)).trans MT.out.bo)
          have LX : Hid ((∀ q, G q ∨ Gm q -> w.heap.size <= q) /\ Below w.heap.size w V4) := Za (by
            have hf : ∀ q, (F2 q ∨ False ∨ q = gt ∨ Yb (.slice aa k ca) vs q) -> w.heap.size <= q := fun q e => by
              have h3 := MT.out.s3
              rcases e with e | e | e | e
              · exact (MT.out.f2 q e).1
              · exact e.elim
              · have := (MT.out.tl q e).1
                omega
              · have := (MT.out.yl q e).1
                omega
            refine ⟨fun q hq => ?_, MT.out.bel.trans (ch.bel hf MT.out.bel.size)⟩
            rcases hq with e | e
            · exact MT.out.xl q e
            · rcases ch.grow q e with h1 | h1
              · exact hf q h1
              · have := MT.out.bel.size
                omega)
          have RR := Za rr
          refine hK1.out _ _ (fun _ => BO.out) (fun _ => ?_)
          clear hK1 K1 MT GT RN rr ch hd BO
          refine Zr (i := 14) (v := ?_) rfl (by kernel_rfl) (by kernel_rfl) (by kernel_rfl) (fun _ _ _ h => h) (Or.inl ⟨by rfl, ?_⟩) ?_
          rotate_left 1
          · (intro w _; go_simp <;> with_reducible rfl)
          simp only [Act.put, S_]
          refine Zr (i := 15) (v := ?_) rfl (by kernel_rfl) (by kernel_rfl) (by kernel_rfl) (fun _ _ _ h => h) (Or.inl ⟨by rfl, ?_⟩) ?_
          rotate_left 1
          · (intro w _; go_simp <;> with_reducible rfl)
          simp only [Act.put, S_]
          refine Zr (i := 16) (v := ?_) rfl (by kernel_rfl) (by kernel_rfl) (by kernel_rfl) (fun _ _ _ h => h) (Or.inl ⟨by rfl, ?_⟩) ?_
          rotate_left 1
          · (intro w _; go_simp <;> with_reducible rfl)
          simp only [Act.put, S_]
          refine T_done (by kernel_rfl) ?_ _
          go_wp2_with fail
          refine bodyPost_ret (v := .tuple #[.pointer (some ⟨g, 0, none⟩), .pointer (some ⟨gn, 0, none⟩), .bool true]) (by simp [results, Tryd.results24, go_sem]) rfl ?_
          exact .inr ⟨rfl, g, gn, G, Gm, rfl, RN9.out.1, RR.out, RN9.out.2, LX.out.1, LX.out.2⟩
        · have HB := Za (Zd V1 (.cells #[.slice aa k ca, .slice none 0 0, .slice none 0 0] 145))
          have MT9 := Za (MT.out.box W3.out (.cells #[.slice aa k ca, .slice none 0 0, .slice none 0 0] 145))
          have GT := Za (B_ V1 (.cells #[.slice aa k ca, .slice none 0 0, .slice none 0 0] 145))
          go_simp
          refine hK1.out _ _ (fun _ => MT9.out.bo) (fun _ => ?_)
          clear hK1 K1 MT
          have MT := MT9
          clear MT9
          have PR9 := Za (PR.out.bel HB.out)
          clear PR
          have PR := PR9
          clear PR9
          have W39 := Za (Nat.le_trans W3.out HB.out.size)
          clear W3
          have W3 := W39
          clear W39
          obtain ⟨gt, hgt⟩ : ∃ b, V1.heap.size = b := ⟨_, rfl⟩
          rw [hgt] at MT GT ⊢
          clear HB hgt
          generalize V1.alloc _ = V2 at *
          refine Zy (rs := [6]) (by kernel_rfl) (by decide) ?_
          refine Zl.cons rfl (fun K1 hK1 => ?_) Zl.nil
          go_simp
          refine (start_any PR.out (H17.out.below (Nat.le_refl _) MT.out.bel) (Off.mk MT.out.xl H17.out (Nat.le_refl _)) fn).mono ?_
          rintro e V3 ⟨g, G, rfl, rn, ch⟩
          have MT9 := Za (MT.out.ch ch rn.fb)
          refine hK1.out _ _ (fun _ => MT9.out.bo) (fun _ => ?_)
          clear hK1 K1
          have W39 := Za (Nat.le_trans W3.out ch.size)
          clear W3
          have W3 := W39
          clear W39
          have GT9 := Za ((ch.blk gt (Ze GT.out) (fun e => (MT.out.ap gt e).2.2 rfl)).trans GT.out)
          clear GT
          have GT := GT9
          clear GT9
          clear MT
          have MT := MT9
          clear MT9
          have RN := Za rn
          clear rn ch PR
          refine Zy (rs := [13]) (by kernel_rfl) (by decide) ?_
          refine Zl.cons rfl (fun K1 hK1 => ?_) Zl.nil
          have hd : Hid (∀ k_, G k_ -> ¬ (F2 k_ ∨ False ∨ k_ = gt ∨ Yb (.slice aa k ca) vs k_)) := Za (fun q hq e => by
            obtain ⟨h1, h2, h3⟩ := MT.out.ap q hq
            rcases e with e | e | e | e
            · exact h1 e
            · exact e
            · exact h3 e
            · exact h2 e)
          go_simp
          refine (rStart_any (MT.out.pq (gt := gt) rfl GT.out SZ.out VL.out) (by omega) fn).mono ?_
          rintro e V4 ⟨gn, Gm, rfl, rr, ch⟩
          have RN9 := Za (RN.out.ch ch hd.out)
          have BO := Za ((ch.blk bx (Ze MT.out.bo) (fun e => by
            have h9 := LB.out
            rcases e with e | e | e | e
            · exact h9.2 e
            · exact e
            · have := (MT.out.tl gt rfl).1
              omega
            · have := (MT.out.yl bx e).1
              omega)).trans MT.out.bo)
          have LX : Hid ((∀ q, G q ∨ Gm q -> w.heap.size <= q) /\ Below w.heap.size w V4) := Za (by
            have hf : ∀ q, (F2 q ∨ False ∨ q = gt ∨ Yb (.slice aa k ca) vs q) -> w.heap.size <= q := fun q e => by
              have h3 := MT.out.s3
              rcases e with e | e | e | e
              · exact (MT.out.f2 q e).1
              · exact e.elim
              · have := (MT.out.tl q e).1
                omega
              · have := (MT.out.yl q e).1
                omega
            refine ⟨fun q hq => ?_, MT.out.bel.trans (ch.bel hf MT.out.bel.size)⟩
            rcases hq with e | e
            · exact MT.out.xl q e
            · rcases ch.grow q e with h1 | h1
              · exact hf q h1
              · have := MT.out.bel.size
                omega)
          have RR := Za rr
          refine hK1.out _ _ (fun _ => BO.out) (fun _ => ?_)
          clear hK1 K1 MT GT RN rr ch hd BO
          refine Zr (i := 14) (v := ?_) rfl (by kernel_rfl) (by kernel_rfl) (by kernel_rfl) (fun _ _ _ h => h) (Or.inl ⟨by rfl, ?_⟩) ?_
          rotate_left 1
          · (intro w _; go_simp <;> with_reducible rfl)
          simp only [Act.put, S_]
          refine Zr (i := 15) (v := ?_) rfl (by kernel_rfl) (by kernel_rfl) (by kernel_rfl) (fun _ _ _ h => h) (Or.inl ⟨by rfl, ?_⟩) ?_
          rotate_left 1
          · (intro w _; go_simp <;> with_reducible rfl)
          simp only [Act.put, S_]
          refine Zr (i := 16) (v := ?_) rfl (by kernel_rfl) (by kernel_rfl) (by kernel_rfl) (fun _ _ _ h => h) (Or.inl ⟨by rfl, ?_⟩) ?_
          rotate_left 1
          · (intro w _; go_simp <;> with_reducible rfl)
          simp only [Act.put, S_]
          refine T_done (by kernel_rfl) ?_ _
          go_wp2_with fail
          refine bodyPost_ret (v := .tuple #[.pointer (some ⟨g, 0, none⟩), .pointer (some ⟨gn, 0, none⟩), .bool true]) (by simp [results, Tryd.results24, go_sem]) rfl ?_
          exact .inr ⟨rfl, g, gn, G, Gm, rfl, RN9.out.1, RR.out, RN9.out.2, LX.out.1, LX.out.2⟩
      · have HB := Za (Zd wd (.cells #[.slice aa k ca, .slice none 0 0, .slice none 0 0] 145))
        have MT9 := Za (MT.out.box W3.out (.cells #[.slice aa k ca, .slice none 0 0, .slice none 0 0] 145))
        have GT := Za (B_ wd (.cells #[.slice aa k ca, .slice none 0 0, .slice none 0 0] 145))
        go_simp
        refine hK1.out _ _ (fun _ => MT9.out.bo) (fun _ => ?_)
        clear hK1 K1 MT
        have MT := MT9
        clear MT9
        have ST49 := Za (ST4.out.bel HB.out)
        clear ST4
        have ST4 := ST49
        clear ST49
        have SS49 := Za (SS4.out.bel HB.out)
        clear SS4
        have SS4 := SS49
        clear SS49
        have W39 := Za (Nat.le_trans W3.out HB.out.size)
        clear W3
        have W3 := W39
        clear W39
        obtain ⟨gt, hgt⟩ : ∃ b, wd.heap.size = b := ⟨_, rfl⟩
        rw [hgt] at MT GT ⊢
        clear HB hgt
        generalize wd.alloc _ = V1 at *
        refine Zy (rs := [3]) (by kernel_rfl) (by decide) ?_
        refine Zl.cons rfl (fun K1 hK1 => ?_) Zl.nil
        go_simp
        refine (scripted_any SS4.out).mono ?_
        rintro e V2 ⟨vB, R, rfl, bg, hR, hb⟩
        obtain ⟨cB, vSB, vsB, rfl, _⟩ := id bg
        have HB := Za hb
        have MT9 := Za (MT.out.more hb hR)
        refine hK1.out _ _ (fun _ => MT9.out.bo) (fun _ => ?_)
        clear hK1 K1 MT
        have MT := MT9
        clear MT9
        have PR := Za (Pre.mk (ST4.out.bel hb) TY.out bg (fun q hq e => by have h1 := ST4.out.fb q e; have h2 := (hR q hq).1; omega) (fun q hq => (hR q hq).2))
        have W39 := Za (Nat.le_trans W3.out hb.size)
        clear W3
        have W3 := W39
        clear W39
        have GT9 := Za ((hb.block gt (Ze GT.out)).trans GT.out)
        clear GT
        have GT := GT9
        clear GT9
        clear ST4 SS4 bg hR hb HB
        refine Zy (rs := [6]) (by kernel_rfl) (by decide) ?_
        refine Zl.cons rfl (fun K1 hK1 => ?_) Zl.nil
        go_simp
        refine (start_any PR.out (H17.out.below (Nat.le_refl _) MT.out.bel) (Off.mk MT.out.xl H17.out (Nat.le_refl _)) fn).mono ?_
        rintro e V3 ⟨g, G, rfl, rn, ch⟩
        have MT9 := Za (MT.out.ch ch rn.fb)
        refine hK1.out _ _ (fun _ => MT9.out.bo) (fun _ => ?_)
        clear hK1 K1
        have W39 := Za (Nat.le_trans W3.out ch.size)
        clear W3
        have W3 := W39
        clear W39
        have GT9 := Za ((ch.blk gt (Ze GT.out) (fun e => (MT.out.ap gt e).2.2 rfl)).trans GT.out)
        clear GT
        have GT := GT9
        clear GT9
        clear MT
        have MT := MT9
        clear MT9
        have RN := Za rn
        clear rn ch PR
        refine Zy (rs := [13]) (by kernel_rfl) (by decide) ?_
        refine Zl.cons rfl (fun K1 hK1 => ?_) Zl.nil
        have hd : Hid (∀ k_, G k_ -> ¬ (F2 k_ ∨ False ∨ k_ = gt ∨ Yb (.slice aa k ca) vs k_)) := Za (fun q hq e => by
          obtain ⟨h1, h2, h3⟩ := MT.out.ap q hq
          rcases e with e | e | e | e
          · exact h1 e
          · exact e
          · exact h3 e
          · exact h2 e)
        go_simp
        refine (rStart_any (MT.out.pq (gt := gt) rfl GT.out SZ.out VL.out) (by omega) fn).mono ?_
        rintro e V4 ⟨gn, Gm, rfl, rr, ch⟩
        have RN9 := Za (RN.out.ch ch hd.out)
        have BO := Za ((ch.blk bx (Ze MT.out.bo) (fun e => by
          have h9 := LB.out
          rcases e with e | e | e | e
          · exact h9.2 e
          · exact e
          · have := (MT.out.tl gt rfl).1
            omega
          · have := (MT.out.yl bx e).1
            omega)).trans MT.out.bo)
        have LX : Hid ((∀ q, G q ∨ Gm q -> w.heap.size <= q) /\ Below w.heap.size w V4) := Za (by
          have hf : ∀ q, (F2 q ∨ False ∨ q = gt ∨ Yb (.slice aa k ca) vs q) -> w.heap.size <= q := fun q e => by
            have h3 := MT.out.s3
            rcases e with e | e | e | e
            · exact (MT.out.f2 q e).1
            · exact e.elim
            · have := (MT.out.tl q e).1
              omega
            · have := (MT.out.yl q e).1
              omega
          refine ⟨fun q hq => ?_, MT.out.bel.trans (ch.bel hf MT.out.bel.size)⟩
          rcases hq with e | e
          · exact MT.out.xl q e
          · rcases ch.grow q e with h1 | h1
            · exact hf q h1
            · have := MT.out.bel.size
              omega)
        have RR := Za rr
        refine hK1.out _ _ (fun _ => BO.out) (fun _ => ?_)
        clear hK1 K1 MT GT RN rr ch hd BO
        refine Zr (i := 14) (v := ?_) rfl (by kernel_rfl) (by kernel_rfl) (by kernel_rfl) (fun _ _ _ h => h) (Or.inl ⟨by rfl, ?_⟩) ?_
        rotate_left 1
        · (intro w _; go_simp <;> with_reducible rfl)
        simp only [Act.put, S_]
        refine Zr (i := 15) (v := ?_) rfl (by kernel_rfl) (by kernel_rfl) (by kernel_rfl) (fun _ _ _ h => h) (Or.inl ⟨by rfl, ?_⟩) ?_
        rotate_left 1
        · (intro w _; go_simp <;> with_reducible rfl)
        simp only [Act.put, S_]
        refine Zr (i := 16) (v := ?_) rfl (by kernel_rfl) (by kernel_rfl) (by kernel_rfl) (fun _ _ _ h => h) (Or.inl ⟨by rfl, ?_⟩) ?_
        rotate_left 1
        · (intro w _; go_simp <;> with_reducible rfl)
        simp only [Act.put, S_]
        refine T_done (by kernel_rfl) ?_ _
        go_wp2_with fail
        refine bodyPost_ret (v := .tuple #[.pointer (some ⟨g, 0, none⟩), .pointer (some ⟨gn, 0, none⟩), .bool true]) (by simp [results, Tryd.results24, go_sem]) rfl ?_
        exact .inr ⟨rfl, g, gn, G, Gm, rfl, RN9.out.1, RR.out, RN9.out.2, LX.out.1, LX.out.2⟩
def BigP (w : World) (vS : Value) (S : List (List Wt)) (e : Ending) (w' : World) : Prop := ∃ b, e = .returned (.bool b) /\ Below w.heap.size w w' /\ (b = false -> SSrc w vS S)
def BigO (w : World) (a : Option Addr) (S : List (List Wt)) (k N : Nat) : Prop := k <= N /\ ∀ (i : Nat) (l : List Wt) (b o : Nat) (vi : Value), i < k -> S[i]? = some l -> a = some ⟨b, o, none⟩ -> w.cell? ⟨b, o + i, none⟩ = some vi -> N <= 2000 -> WSrc w vi l
def BigI (w : World) (a : Option Addr) (l : List Wt) (j N : Nat) : Prop := ∀ (q : Nat) (x : Wt) (b o : Nat) (va : Value), q < j -> l[q]? = some x -> a = some ⟨b, o, none⟩ -> w.cell? ⟨b, o + q * 7 + 6, none⟩ = some va -> N <= 2000 -> ArgC w va
theorem BigO.next {w : World} {a : Option Addr} {S : List (List Wt)} {k N M : Nat} {l : List Wt} {ai : Option Addr} {ci b o : Nat} (h : BigO w a S k N) (hm : N + 1 + l.length <= M) (hl : S[k]? = some l) (ha : a = some ⟨b, o, none⟩) (hc : w.cell? ⟨b, o + k, none⟩ = some (.slice ai l.length ci)) (hw : WSrcU w (.slice ai l.length ci) l) (hi : BigI w ai l l.length M) : BigO w a S (k + 1) M := by
 refine ⟨by have := h.1; omega, fun i l' b' o' vi h1 h2 h3 h4 h5 => ?_⟩
 by_cases e : i = k
 · subst e
   rw [hl] at h2
   cases h2
   rw [ha] at h3
   cases h3
   rw [hc] at h4
   cases h4
   obtain ⟨a2, c2, e2, q1, q2⟩ := hw
   cases e2
   refine ⟨ai, ci, rfl, by omega, fun j x hx => ?_⟩
   obtain ⟨b2, o2, va, r1, r2, r3, r4⟩ := q2 j x hx
   refine ⟨b2, o2, va, r1, r2, r3, ?_⟩
   exact hi j x b2 o2 va (List.getElem?_eq_some_iff.1 hx).1 hx r1 (r3 6 va rfl) h5
 · exact h.2 i l' b' o' vi (by omega) h2 h3 h4 (by have := h.1; omega)
theorem BigI.next {w : World} {a : Option Addr} {l : List Wt} {j N M n : Nat} {x : Wt} {b o c : Nat} {ax : Option Addr} (h : BigI w a l j N) (hm : N + n <= M) (hx : l[j]? = some x) (ha : a = some ⟨b, o, none⟩) (hc : w.cell? ⟨b, o + j * 7 + 6, none⟩ = some (.slice ax n c)) (hA : ArgU w (.slice ax n c)) : BigI w a l (j + 1) M := fun q x' b' o' va h1 h2 h3 h4 h5 => by
 by_cases e : q = j
 · subst e
   rw [ha] at h3
   cases h3
   rw [hc] at h4
   cases h4
   obtain ⟨a2, n2, c2, e2, q1, q2⟩ := hA
   cases e2
   exact q2 (by omega)
 · exact h q x' b' o' va (by omega) h2 h3 h4 (by omega)
theorem BigO.src {w : World} {a : Option Addr} {S : List (List Wt)} {N c : Nat} (h : BigO w a S S.length N) (hN : N <= 2000) (hS : SSrcU w (.slice a S.length c) S) : SSrc w (.slice a S.length c) S := by
 obtain ⟨a2, c2, e2, q1, q2⟩ := hS
 cases e2
 refine ⟨a, c, rfl, by have := h.1; omega, fun i l hl => ?_⟩
 obtain ⟨b, o, vi, r1, r2, r3, r4⟩ := q2 i l hl
 exact ⟨b, o, vi, r1, r2, r3, h.2 i l b o vi (List.getElem?_eq_some_iff.1 hl).1 hl r1 r3 hN⟩
theorem big_any {w : World} {vP vC vS : Value} {ps : List Int} {qs : List (Int × Int)} {S : List (List Wt)} (m a fn : Int) (hP : Sl w vP ps) (hp2 : ps.length <= 140737488351232) (hC : SlC w vC qs) (hq2 : qs.length <= 140737488351232) (hS : SSrcU w vS S) : Calls Tryd.prog 23 #[.agg #[vP, .int .i64 m, .int .i64 a, vC, vS, .int .i64 fn]] w (BigP w vS S) := by
  obtain ⟨aP, lP, cP, rfl, hlP⟩ := hP.slice
  obtain ⟨aC, cC, rfl, _⟩ := hC
  have HS := Za hS
  obtain ⟨aS, cS, rfl, hS1, hS2⟩ := hS
  obtain ⟨nS, hnS⟩ : ∃ n, n = S.length := ⟨_, rfl⟩
  obtain ⟨lC, hlC⟩ : ∃ n, n = qs.length := ⟨_, rfl⟩
  rw [← hnS] at hS1 ⊢
  rw [← hnS] at HS
  rw [← hlC] at hq2 ⊢
  have HN := Za hnS
  obtain ⟨N0, hN0⟩ : ∃ N0, lP + lC = N0 := ⟨_, rfl⟩
  have hc0 : N0 <= 281474976702464 := by omega
  have hbP : (lP : Int) <= 140737488351232 := by omega
  have hbC : (lC : Int) <= 140737488351232 := by omega
  have HN0 := Za hN0
  clear hnS hlC hlP hS2 hP hp2 hN0 hq2
  have HB := Za (Zd w (.cells #[.slice aP lP cP, .int .i64 m, .int .i64 a, .slice aC lC cC, .slice aS nS cS, .int .i64 fn] 61))
  go_enter Tryd.func23, Tryd.ntmps23
  go_wp2_with fail
  generalize w.alloc _ = w1 at *
  go_loopw [3, 5, 7, 18] (fun x3 x5 x7 q wr => ∃ k N : Nat, k <= nS /\ q = .int .i64 k /\ x3 = .int .i64 N /\ Hid (N <= N0 + 2000 + k /\ BigO w aS S k N /\ Below w.heap.size w wr)) (fun _ _ _ q _ => nS - (intOf q).toNat)
  case atStart => exact ⟨0, N0, Nat.zero_le _, rfl, by rw [← HN0.out]; go_num, Za ⟨by omega, ⟨Nat.zero_le _, fun i l b o vi hi => absurd hi (Nat.not_lt_zero _)⟩, HB.out⟩⟩
  case round =>
    obtain ⟨k, N, hk, rfl, rfl, HI⟩ := hrel
    have hNb := HI.out.1
    by_cases hlt : k < nS
    · have hlt' : (k : Int) < (nS : Int) := by omega
      obtain ⟨l, hl⟩ : ∃ l, S[k]? = some l := ⟨_, List.getElem?_eq_getElem (by rw [← HN.out]; exact hlt)⟩
      have HW : Hid (∃ b o ai ci, aS = some ⟨b, o, none⟩ /\ b < w.heap.size /\ w.cell? ⟨b, o + k, none⟩ = some (.slice ai l.length ci) /\ WSrcU w (.slice ai l.length ci) l) := Za (by
        obtain ⟨a', c', e', _, h3⟩ := HS.out
        cases e'
        obtain ⟨b, o, vi, e1, e2, e3, e4⟩ := h3 k l hl
        obtain ⟨ai, ci, e5, _⟩ := id e4
        subst e5
        exact ⟨b, o, ai, ci, e1, e2, e3, e4⟩)
      obtain ⟨b, o, ai, ci, rfl, hbl, hc1, hws⟩ := HW.out
      have HC1 := Za hc1
      have HL := Za hl
      have HWS := Za hws
      have hml : l.length <= 140737488351232 := by
        obtain ⟨_, _, _, q, _⟩ := hws
        exact q
      obtain ⟨ml, hm⟩ : ∃ m, m = l.length := ⟨_, rfl⟩
      rw [← hm] at hc1 hml
      have HM := Za hm
      have u := (HI.out.2.2.cell (p := ⟨b, o + k, none⟩) hbl).trans hc1
      obtain ⟨N1, hN1⟩ : ∃ M, M = N + 1 + ml := ⟨_, rfl⟩
      have HN1 := Za hN1
      have I0 : Hid ((0 < 0 -> N1 <= 2000) /\ N1 <= N1 /\ BigI w ai l 0 N1 /\ Below w.heap.size w wr) := Za ⟨fun h => absurd h (Nat.lt_irrefl _), Nat.le_refl _, fun q x b o va hq => absurd hq (Nat.not_lt_zero _), HI.out.2.2⟩
      have hN1b : N1 <= 600000000000000 := by omega
      clear HW hws hl hm hc1 hN1 hbl
      go_wp2_with fail
      obtain ⟨wo, hwo⟩ : ∃ z, z = wr := ⟨_, rfl⟩
      clear u
      go_loopw [3, 7, 29] (fun x3 x7 q wr => ∃ j M : Nat, j <= ml /\ q = .int .i64 j /\ x3 = .int .i64 M /\ M <= 600000000000000 /\ Hid ((0 < j -> M <= 2000) /\ N1 <= M /\ (j = 0 -> M = N1) /\ BigI w ai l j M /\ Below w.heap.size w wr)) (fun _ _ q _ => ml - (intOf q).toNat)
      case atStart => exact ⟨0, N1, Nat.zero_le _, rfl, by rw [HN1.out]; go_num, hN1b, Za ⟨I0.out.1, I0.out.2.1, fun _ => rfl, I0.out.2.2⟩⟩
      case round =>
        obtain ⟨j, M, hj, rfl, rfl, hMb, HJ⟩ := hrel
        by_cases hjt : j < ml
        · have hjt' : (j : Int) < (ml : Int) := by omega
          obtain ⟨x, hxj⟩ : ∃ x, l[j]? = some x := ⟨_, List.getElem?_eq_getElem (by rw [← HM.out]; exact hjt)⟩
          have HX : Hid (∃ b2 o2 ax nx cx, ai = some ⟨b2, o2, none⟩ /\ b2 < w.heap.size /\ (∀ (q : Nat) (u : Value), (wcs x (.slice ax nx cx))[q]? = some u -> w.cell? ⟨b2, o2 + j * 7 + q, none⟩ = some u) /\ ArgU w (.slice ax nx cx) /\ nx <= 140737488351232) := Za (by
            obtain ⟨a', c', e', _, h3⟩ := HWS.out
            cases e'
            obtain ⟨b2, o2, va, e1, e2, e3, e4⟩ := h3 j x hxj
            obtain ⟨ax, nx, cx, e5, e6, _⟩ := id e4
            subst e5
            exact ⟨b2, o2, ax, nx, cx, e1, e2, e3, e4, e6⟩)
          obtain ⟨b2, o2, ax, nx, cx, rfl, hb2, hcl, hA, hnx⟩ := HX.out
          have HXJ := Za hxj
          have HCL := Za (hcl 6 _ rfl)
          have HA := Za hA
          have hbe := HJ.out.2.2.2.2
          obtain ⟨xk, xo, xa, x0, x1, x2⟩ := x
          have e0 : wr.cell? ⟨b2, o2 + j * 7, none⟩ = some (.int .i64 xk) := (hbe.cell (p := ⟨b2, o2 + j * 7, none⟩) hb2).trans (hcl 0 _ rfl)
          have e1 : wr.cell? ⟨b2, o2 + j * 7 + 1, none⟩ = some (.int .i64 xo) := (hbe.cell (p := ⟨b2, o2 + j * 7 + 1, none⟩) hb2).trans (hcl 1 _ rfl)
          have e2 : wr.cell? ⟨b2, o2 + j * 7 + 2, none⟩ = some (.int .i64 xa) := (hbe.cell (p := ⟨b2, o2 + j * 7 + 2, none⟩) hb2).trans (hcl 2 _ rfl)
          have e3 : wr.cell? ⟨b2, o2 + j * 7 + 3, none⟩ = some (.int .i64 x0) := (hbe.cell (p := ⟨b2, o2 + j * 7 + 3, none⟩) hb2).trans (hcl 3 _ rfl)
          have e4 : wr.cell? ⟨b2, o2 + j * 7 + 4, none⟩ = some (.int .i64 x1) := (hbe.cell (p := ⟨b2, o2 + j * 7 + 4, none⟩) hb2).trans (hcl 4 _ rfl)
          have e5 : wr.cell? ⟨b2, o2 + j * 7 + 5, none⟩ = some (.int .u64 x2) := (hbe.cell (p := ⟨b2, o2 + j * 7 + 5, none⟩) hb2).trans (hcl 5 _ rfl)
          have e6 : wr.cell? ⟨b2, o2 + j * 7 + 6, none⟩ = some (.slice ax nx cx) := (hbe.cell (p := ⟨b2, o2 + j * 7 + 6, none⟩) hb2).trans (hcl 6 _ rfl)
          obtain ⟨M1, hM1⟩ : ∃ K, K = M + nx := ⟨_, rfl⟩
          have hMM : (M : Int) + (nx : Int) = (M1 : Int) := by omega
          have HM1 := Za hM1
          have HB2 := Za (Zi hbe (Zd wr (.cells #[.int .i64 xk, .int .i64 xo, .int .i64 xa, .int .i64 x0, .int .i64 x1, .int .u64 x2, .slice ax nx cx] 135)))
          clear HX hcl hA hxj hbe hM1 hb2
          by_cases hbig : 2000 < M1
          · have hbig' : (2000 : Int) < (M : Int) + (nx : Int) := by omega
            clear hMM
            go_wp2_with fail
            go_ret
            exact ⟨true, rfl, HB2.out, fun h => by cases h⟩
          · have hbig' : ¬ (2000 : Int) < (M : Int) + (nx : Int) := by omega
            clear hMM
            have hM2 : M1 <= 2000 := by omega
            go_wp2_with fail
            go_roundw
            case rel => exact ⟨j + 1, M1, by omega, by go_num, by rw [HM1.out]; go_num, by omega, Za ⟨fun _ => hM2, by have := HJ.out.2.1; have := HM1.out; omega, fun h => by omega, HJ.out.2.2.2.1.next (by have := HM1.out; omega) HXJ.out rfl HCL.out HA.out, HB2.out⟩⟩
            case measure => simp [intOf]; omega
        · have ej : j = ml := by omega
          subst ej
          have HO : Hid (M <= N0 + 2000 + (k + 1) /\ BigO w (some ⟨b, o, none⟩) S (k + 1) M /\ Below w.heap.size w wr) := Za (by
            obtain ⟨h1, h2, h3, h4, h5⟩ := HJ.out
            have hm := HM.out
            have hn1 := HN1.out
            refine ⟨?_, BigO.next (l := l) HI.out.2.1 (by omega) HL.out rfl HC1.out HWS.out (by rw [← hm]; exact h4), h5⟩
            by_cases hj0 : j = 0
            · have := h3 hj0
              omega
            · have := h1 (by omega)
              omega)
          clear HJ
          go_wp2_with fail
          go_roundw
          case rel => exact ⟨k + 1, M, by omega, by go_num, rfl, HO⟩
          case measure => simp [intOf]; omega
    · have ek : k = nS := by omega
      subst ek
      have HR : Hid (N <= 2000 -> SSrc w (.slice aS k cS) S) := Za (fun h => by
        have h1 := HN.out
        have h2 := HS.out
        have h3 := HI.out.2.1
        rw [h1] at h2 h3 ⊢
        exact h3.src h h2)
      have HB2 := Za HI.out.2.2
      clear HI HS
      by_cases hbig : 2000 < N
      · have hbig' : (2000 : Int) < (N : Int) := by omega
        go_wp2_with fail
        go_ret
        exact ⟨true, by simp, HB2.out, fun h => by cases h⟩
      · have hbig' : ¬ (2000 : Int) < (N : Int) := by omega
        go_wp2_with fail
        go_ret
        exact ⟨false, by simp, HB2.out, fun _ => HR.out (by omega)⟩
theorem cloneE {w : World} {src : Value} {n : Nat} {xs : List Value} (hs : w.ownsRow 0 75 4 src n xs) (hn : n <= 100000) (h1 : ∀ u ∈ xs, u.oneCell' = true) : Calls Tryd.prog 74 #[src] w (ClP w 75 4 n xs) := by
 rcases own_form hs with ⟨rfl, rfl⟩ | ⟨b, c, rfl, _⟩
 · have e : xs = [] := by have := hs.1; simpa using this
   subst e
   clear hs
   have hE : ∀ w, (binOp .eql 72 (.slice none 0 0) (.slice none 0 0)).run Tryd.prog w = .ok (.bool true) w := fun w => by kernel_rfl
   go_enter Tryd.func74, Tryd.ntmps74
   go_wp2_with fail
   go_ret
   exact ⟨_, _, rfl, World.ownsRow_nil _ _ _ _, Below.refl _ _⟩
 · have hb := Zd w (.cells #[] 75)
   have AP := Za (fun ty => app_copy (B := w.heap.size) Tryd.underlying72 info_ev rfl (by decide) (B_ w (.cells #[] 75)) (Nat.le_refl _) (Zk hs (fun k hk => hb.block k (Zf hs hk).2.1)) (by omega) h1 hb.size ty)
   have HB := Za hb
   clear hs hb h1
   have hE : ∀ w, (binOp .eql 72 (.slice (some ⟨b, 0, none⟩) n c) (.slice none 0 0)).run Tryd.prog w = .ok (.bool false) w := fun w => by kernel_rfl
   go_enter Tryd.func74, Tryd.ntmps74
   go_wp2_with (first | (at_builtin; refine ZW (TS := 72) rfl (.tmp 5) (.tmp 6) rfl _ _ rfl rfl _ (AP.out _) ?_; rintro v9 w9 ⟨⟨a9, c9, rfl⟩, o9, b9, _⟩; have R9 := Za (And.intro o9 b9); clear o9 b9))
   go_ret
   exact ⟨_, _, rfl, R9.out.1, Zi HB.out R9.out.2⟩
theorem Events_any {w : World} {G : Nat -> Prop} {g : Nat} {S : List (List Wt)} {r : Rm} (h : Rn w G g S r) (hl : r.ev.length <= 100000) : Calls Tryd.prog 27 #[.pointer (some ⟨g, 0, none⟩)] w (ClP w 75 4 r.ev.length (ecs r.ev)) := by
 obtain ⟨Fs, Fo, R, gs, vC, vB, vG, vE, ps, ts, h, hG⟩ := h
 have c4 := h.cells.1.2.2.2.2
 obtain ⟨a, cE, e, _⟩ := Zo h.ev
 have CL := Za (cloneE h.ev hl (ecs_one _))
 subst e
 have hgl := h.fb g h.fg
 generalize r.ev.length = n at *
 clear h hG hl
 go_enter Tryd.func27, Tryd.ntmps27
 go_wp2_with fail
 refine CL.out.mono ?_
 rintro e w1 ⟨a1, c1, rfl, o1, b1⟩
 have R1 := Za (And.intro o1 b1)
 clear o1 b1
 go_wp2_with fail
 go_ret
 exact ⟨_, _, rfl, R1.out.1, R1.out.2⟩
theorem ecs_at : ∀ (l : List Evt) (i : Nat) (e : Evt), l[i]? = some e -> (ecs l)[i * 4]? = some (.int .i64 e.g) /\ (ecs l)[i * 4 + 1]? = some (.int .i64 e.k) /\ (ecs l)[i * 4 + 2]? = some (.int .i64 e.o) /\ (ecs l)[i * 4 + 3]? = some (.int .i64 e.a)
 | [], i, e, h => by simp at h
 | x :: l, 0, e, h => by
  simp at h
  subst h
  exact ⟨rfl, rfl, rfl, rfl⟩
 | x :: l, i + 1, e, h => by
  have := ecs_at l i e (by simpa using h)
  rw [show (i + 1) * 4 = i * 4 + 1 + 1 + 1 + 1 by omega]
  exact this
theorem note_le (r : Rm) (i : Nat) (o : Int) : (ZG r i o).ev.length <= r.ev.length + 1 := by
 unfold ZG
 split <;> simp
theorem ask2_ev (r : Rm) (i j : Nat) : (match Yk r i with | (r2, true) => (Yk r2 j).1 | (r2, false) => r2).ev = r.ev := by
 have h1 := ask_ev r i
 generalize Yk r i = q at h1
 obtain ⟨r2, b⟩ := q
 cases b
 · exact h1
 · exact (ask_ev r2 j).trans h1
theorem step_le {S : List (List Wt)} (r : Rm) (g : Nat) : (ZY S r g).ev.length <= r.ev.length + 2 := by
 unfold ZY
 split
 · omega
 · rename_i x hx
   split
   · show r.ev.length <= _
     omega
   split
   · unfold splitR
     split
     · show r.ev.length <= _
       omega
     · cases hr : enterR S r x.w.o with
       | none =>
        show r.ev.length <= _
        omega
       | some r1 =>
        simp only
        have h1 : r1.ev = r.ev := by
         unfold enterR at hr
         split at hr
         · cases hr
           rfl
         · cases hr
        refine Nat.le_trans (Nat.le_of_eq (congrArg List.length (ask2_ev (ZG r1 g (r.gs.length : Int)) g r.gs.length))) ?_
        have := note_le r1 g (r.gs.length : Int)
        rw [h1] at this
        omega
   split
   · unfold meetR
     split
     · rename_i t _
       refine Nat.le_trans (Nat.le_of_eq (congrArg List.length (ask2_ev (ZG (ZG r g x.w.o) t x.w.o) g t))) ?_
       have h1 := note_le r g x.w.o
       have h2 := note_le (ZG r g x.w.o) t x.w.o
       omega
     · omega
   split
   · have := note_le r g x.w.o
     show (ZG r g x.w.o).ev.length <= _
     omega
   · rw [ask_ev]
     have := note_le { r with s := (ZL r.s x.w).1 } g x.w.o
     have e : ({ r with s := (ZL r.s x.w).1 } : Rm).ev = r.ev := rfl
     rw [e] at this
     omega
theorem play_le {S : List (List Wt)} {l : List Int} {fuel : Int} (N : Nat) (hN : fuel + 1 <= N) : ∀ (f : Nat) (r : Rm) (n : Nat), r.ev.length <= N -> (playR S l fuel f r n).1.ev.length <= N
 | 0, r, n, h => h
 | f + 1, r, n, h => by
  unfold playR
  split
  · rename_i hc
    refine play_le N hN f _ _ ?_
    have h1 := step_le (S := S) r (Ya (Yy r) l n).1.toNat
    have e : (doR S r (Ya (Yy r) l n).1.toNat).ev = (ZY S r (Ya (Yy r) l n).1.toNat).ev := rfl
    rw [e]
    omega
  · exact h
theorem start_ev (S : List (List Wt)) (s : St) (fn : Int) : (startR S s fn).ev = [] := by
 unfold startR
 rw [settle_ev]
 unfold enterR
 cases lk S fn with
 | none => rfl
 | some l => exact ask_ev _ 0
theorem made_any {w : World} {aP aC aS : Option Addr} {lP cP lC cC nS cS : Nat} {ps : List Int} {qs : List (Int × Int)} {S : List (List Wt)} {p : List Addr} (h17 : E3 w p) (m a fn : Int) (hP : Sl w (.slice aP lP cP) ps) (hC : SlC w (.slice aC lC cC) qs) (hS : SSrc w (.slice aS nS cS) S) : Calls Tryd.prog 24 #[.agg #[.slice aP lP cP, .int .i64 m, .int .i64 a, .slice aC lC cC, .slice aS nS cS, .int .i64 fn]] w (MadeP w (okN ps m qs a) S (newS ps m qs a) fn) := by
 cases h : okN ps m qs a with
 | true => exact made_ok h17 m a fn hP hC hS h
 | false => exact made_bad h17 m a fn hP hC h
theorem Pks.form {w : World} {F : Nat -> Prop} {v : Value} {l : List Int} {n : Nat} (h : Pks w F v l n) : ∃ ob nb, v = .func (.func 73) #[] #[.pointer (some ⟨ob, 0, none⟩), .pointer (some ⟨nb, 0, none⟩)] := by
 obtain ⟨ob, nb, vS, h⟩ := h
 exact ⟨ob, nb, h.is⟩
theorem Ch.lo {F F' : Nat -> Prop} {w w' : World} {N : Nat} (c : Ch F F' w w') (h : ∀ k, F k -> N <= k) (hN : N <= w.heap.size) : ∀ k, F' k -> N <= k := fun k hk => by
 rcases c.grow k hk with h1 | h1
 · exact h k h1
 · omega
def endP (r : Rm) : En := if Yz r = true then ⟨4, 0, 0, 0, 0⟩ else endR r
structure Sd (w W : World) (G F : Nat -> Prop) (g : Nat) (S : List (List Wt)) (v : Value) (l : List Int) (r : Rm) (n : Nat) : Prop where
 rn : Rn W G g S r
 pk : Pks W F v l n
 ap : ∀ k, F k -> ¬ G k
 lo : ∀ k, G k ∨ F k -> w.heap.size <= k
section
variable {w W W' : World} {G F X X' : Nat → Prop} {g : Nat} {S : List (List Wt)} {v : Value} {l : List Int} {r : Rm} {n : Nat}
theorem Sd.play {p : List Addr} (h : Sd w W G F g S v l r n) (h17 : E3 w p) (hb : Below w.heap.size w W) (fuel : Int) (hf : fuel <= 1000) :
 Calls Tryd.prog 25 #[.pointer (some ⟨g, 0, none⟩), v, .int .i64 fuel] W fun e W' => e = .returned (EnV (endP (playW S l fuel r n).1)) /\ ∃ G', Sd w W' G' F g S v l (playW S l fuel r n).1 (playW S l fuel r n).2 /\ Ch (fun k => G k ∨ F k) (fun k => G' k ∨ F k) W W' /\ Below w.heap.size w W' := by
 obtain ⟨ob, nb, rfl⟩ := h.pk.form
 refine (Play_any (S := S) ⟨h.rn, h.pk, h.ap, h17.below (Nat.le_refl _) hb, Off.mk (fun k hk => h.lo k (.inl hk)) h17 (Nat.le_refl _), Off.mk (fun k hk => h.lo k (.inr hk)) h17 (Nat.le_refl _), Ch.refl _ _⟩ fuel hf).mono ?_
 rintro e W' ⟨he, G', rn, pk, ap, ch⟩
 exact ⟨he, G', ⟨rn, pk, ap, ch.lo h.lo hb.size⟩, ch, hb.trans (ch.bel h.lo hb.size)⟩
end
section
variable {W W' : World} {X X' Y : Nat → Prop} {v : Value} {l : List Evt}
end
abbrev Hd := (Int -> Bool) × (Int -> Int)
def up {α : Type} (f : Int -> α) (o : Int) (x : α) : Int -> α := fun y => if y = o then x else f y
def Yg (R : List Int) (h : Hd) (e : Evt) : Option Hd :=
  if e.k = 3 ∨ e.k = 4 then (if 0 <= e.o /\ e.o < 64 /\ h.1 e.o = (e.k == 4) then some (up h.1 e.o (e.k == 3), h.2) else none)
  else if e.k = 5 then (match lk R e.o with
    | some r => if e.o < 64 /\ h.2 e.o + 1 <= max r 1 then some (h.1, up h.2 e.o (h.2 e.o + 1)) else none
    | none => none)
  else if e.k = 6 then (if 0 <= e.o /\ e.o < 64 /\ 0 < h.2 e.o then some (h.1, up h.2 e.o (h.2 e.o - 1)) else none)
  else some h
def Yx (R : List Int) : Hd -> List Evt -> Option Hd
 | h, [] => some h
 | h, e :: l => match Yg R h e with
  | some h' => Yx R h' l
  | none => none
theorem holdsE_app (R : List Int) : ∀ (l m : List Evt) (h : Hd), Yx R h (l ++ m) = (match Yx R h l with | some h' => Yx R h' m | none => none)
 | [], m, h => rfl
 | e :: l, m, h => by
  simp only [List.cons_append, Yx]
  cases Yg R h e with
  | none => rfl
  | some h' => exact holdsE_app R l m h'
def h0 : Hd := (fun _ => false, fun _ => 0)
structure Hs (R : List Int) (s : St) (h : Hd) : Prop where
 lo : ∀ o, h.1 o = (lk s.M o == some true)
 he : ∀ o, h.2 o = lenC s o
 rs : s.C.map Qu.room = R
 ok : s.M.length <= 32 /\ s.C.length <= 32 /\ ∀ q ∈ s.C, 0 <= q.room /\ (q.l.length : Int) <= q.room
def Yt (R : List Int) (r : Rm) : Prop := ∃ h, Yx R h0 r.ev = some h /\ Hs R r.s h
theorem Yt.same {R : List Int} {r r' : Rm} (h : Yt R r) (he : r'.ev = r.ev) (hs : r'.s = r.s) : Yt R r' := by
 obtain ⟨x, h1, h2⟩ := h
 exact ⟨x, by rw [he]; exact h1, by rw [hs]; exact h2⟩
theorem Yt.one {R : List Int} {r r' : Rm} {x : Hd} {e : Evt} {h' : Hd} (h1 : Yx R h0 r.ev = some x) (hv : r'.ev = r.ev ++ [e]) (he : Yg R x e = some h') (hs : Hs R r'.s h') : Yt R r' := by
 refine ⟨h', ?_, hs⟩
 rw [hv, holdsE_app, h1]
 simp only [Yx, he]
theorem ask_s (r : Rm) (i : Nat) : (Yk r i).1.s = r.s := by
 unfold Yk
 split
 · split <;> rfl
 · rfl
theorem note_s (r : Rm) (i : Nat) (o : Int) : (ZG r i o).s = r.s := by
 unfold ZG
 split <;> rfl
theorem note_at {r : Rm} {i : Nat} {x : Gr} (hx : r.gs[i]? = some x) (o : Int) : (ZG r i o).ev = r.ev ++ [⟨i, x.w.k, o, x.w.a⟩] := by
 unfold ZG
 rw [hx]
theorem ask2_s (r : Rm) (i j : Nat) : (match Yk r i with | (r2, true) => (Yk r2 j).1 | (r2, false) => r2).s = r.s := by
 have h1 := ask_s r i
 generalize Yk r i = q at h1
 obtain ⟨r2, b⟩ := q
 cases b
 · exact h1
 · exact (ask_s r2 j).trans h1
theorem lk_set {α : Type} {l : List α} {k : Nat} (x : α) (hk : k < l.length) (o : Int) : lk (l.set k x) o = if o = (k : Int) then some x else lk l o := by
 unfold lk
 by_cases h : 0 <= o
 · rw [if_pos h]
   by_cases e : o = (k : Int)
   · rw [if_pos e]
     subst e
     simp [hk]
   · rw [if_neg e, if_pos h, List.getElem?_set_ne (by omega)]
 · rw [if_neg h, if_neg (by omega), if_neg h]
theorem lk_map {α β : Type} (f : α -> β) (l : List α) (o : Int) : lk (l.map f) o = (lk l o).map f := by
 unfold lk
 split
 · rw [List.getElem?_map]
 · rfl
theorem holdE_other {R : List Int} {h : Hd} {e : Evt} (h3 : ¬ e.k = 3) (h4 : ¬ e.k = 4) (h5 : ¬ e.k = 5) (h6 : ¬ e.k = 6) : Yg R h e = some h := by
 unfold Yg
 rw [if_neg (by omega), if_neg h5, if_neg h6]
theorem Yt.step {S : List (List Wt)} {R : List Int} {r : Rm} (h : Yt R r) {g : Nat} {x : Gr} (hx : r.gs[g]? = some x) (hc : ZX r x.w = true) : Yt R (ZY S r g) := by
 obtain ⟨y, h1, h2⟩ := h
 have hI : Yt R r := ⟨y, h1, h2⟩
 unfold ZY
 rw [hx]
 simp only
 by_cases hA : x.w.k = 4 /\ lk r.s.M x.w.o ≠ some true
 · rw [if_pos hA]
   exact hI.same rfl rfl
 rw [if_neg hA]
 by_cases hB : x.w.k = 10
 · rw [if_pos hB]
   unfold splitR
   split
   · exact hI.same rfl rfl
   · cases hr : enterR S r x.w.o with
     | none => exact hI.same rfl rfl
     | some r1 =>
      simp only
      have hq : r1.ev = r.ev /\ r1.s = r.s /\ r1.gs[g]? = some x := by
       unfold enterR at hr
       split at hr
       · cases hr
         exact ⟨rfl, rfl, (List.getElem?_append_left (List.getElem?_eq_some_iff.1 hx).1).trans hx⟩
       · cases hr
      have hn := note_at hq.2.2 (r.gs.length : Int)
      rw [hq.1] at hn
      have hI2 : Yt R (ZG r1 g (r.gs.length : Int)) := Yt.one h1 hn (holdE_other (by simp only; omega) (by simp only; omega) (by simp only; omega) (by simp only; omega)) (by rw [note_s, hq.2.1]; exact h2)
      exact hI2.same (ask2_ev _ _ _) (ask2_s _ _ _)
 rw [if_neg hB]
 by_cases hC : x.w.k = 5 /\ roomZ r.s x.w.o = true
 · rw [if_pos hC]
   unfold meetR
   split
   · rename_i t ht
     obtain ⟨ht1, ht2⟩ := List.findIdx?_eq_some_iff_getElem.1 ht
     have hrec := ht2.1
     obtain ⟨z, hz⟩ : ∃ z, r.gs[t]? = some z := ⟨_, List.getElem?_eq_getElem ht1⟩
     have hzr : z.w.k = 6 := by
      have e : r.gs[t] = z := by rw [List.getElem?_eq_getElem ht1] at hz; exact Option.some.inj hz
      rw [e] at hrec
      unfold recvs at hrec
      simp at hrec
      exact hrec.1
     have hn1 := note_at hx x.w.o
     have hz1 : (ZG r g x.w.o).gs[t]? = some z := by
      unfold ZG
      rw [hx]
      exact hz
     have hn2 := note_at hz1 x.w.o
     have hlk : ∃ q, lk r.s.C x.w.o = some q /\ q.room = 0 := by
      have hcs : canS r x.w = true := by
       unfold ZX at hc
       rw [if_neg (by omega), if_neg (by omega), if_neg (by omega), if_pos hC.1] at hc
       exact hc
      have hz := hC.2
      unfold canS at hcs
      unfold roomZ at hz
      cases hl : lk r.s.C x.w.o with
      | none => rw [hl] at hcs; cases hcs
      | some q => rw [hl] at hz; exact ⟨q, rfl, by simpa using hz⟩
     obtain ⟨q, hq, hq0⟩ := hlk
     obtain ⟨k, hk, hkq⟩ := ZI hq
     have hmem := List.mem_of_getElem? hkq
     have hlen : q.l.length = 0 := by have := (h2.ok.2.2 q hmem).2; omega
     have hkl := (List.getElem?_eq_some_iff.1 hkq).1
     have hy0 : y.2 x.w.o = 0 := by rw [h2.he]; unfold lenC; rw [hq]; simp [hlen]
     have hrl : lk R x.w.o = some 0 := by rw [← h2.rs, lk_map, hq]; simp [hq0]
     have hI2 : Yt R (ZG (ZG r g x.w.o) t x.w.o) := by
      refine ⟨y, ?_, by rw [note_s, note_s]; exact h2⟩
      rw [hn2, hn1, List.append_assoc, holdsE_app, h1]
      have e1 : Yg R y ⟨g, x.w.k, x.w.o, x.w.a⟩ = some (y.1, up y.2 x.w.o (y.2 x.w.o + 1)) := by
       unfold Yg
       simp only [hC.1, hrl]
       rw [if_neg (by omega), if_pos trivial, if_pos ⟨by have := h2.ok.2.1; omega, by rw [hy0]; decide⟩]
      have e2 : Yg R (y.1, up y.2 x.w.o (y.2 x.w.o + 1)) ⟨t, z.w.k, x.w.o, z.w.a⟩ = some y := by
       unfold Yg
       simp only [hzr]
       rw [if_neg (by omega), if_neg (by omega), if_pos trivial, if_pos ⟨by omega, by have := h2.ok.2.1; omega, by unfold up; simp [hy0]⟩]
       congr 1
       refine Prod.ext rfl (funext fun o => ?_)
       unfold up
       by_cases e : o = x.w.o
       · simp [e]
       · simp [e]
      simp only [List.cons_append, List.nil_append, Yx, e1, e2]
     exact hI2.same (ask2_ev _ _ _) (ask2_s _ _ _)
   · exact hI
 rw [if_neg hC]
 by_cases hD : x.w.k = 12
 · rw [if_pos hD]
   exact Yt.one (e := ⟨g, x.w.k, x.w.o, x.w.a⟩) h1 (note_at hx x.w.o) (holdE_other (by simp only; omega) (by simp only; omega) (by simp only; omega) (by simp only; omega)) (by show Hs R (ZG r g x.w.o).s y; rw [note_s]; exact h2)
 rw [if_neg hD]
 have hn := note_at (r := { r with s := (ZL r.s x.w).1 }) hx x.w.o
 suffices hh : ∃ h', Yg R y ⟨g, x.w.k, x.w.o, x.w.a⟩ = some h' /\ Hs R (ZL r.s x.w).1 h' by
  obtain ⟨h', h3, h4⟩ := hh
  exact (Yt.one (r' := ZG { r with s := (ZL r.s x.w).1 } g x.w.o) h1 hn h3 (by rw [note_s]; exact h4)).same (ask_ev _ _) (ask_s _ _)
 by_cases k3 : x.w.k = 3
 · have hcl : canL r.s x.w = true := by
    unfold ZX at hc
    rw [if_neg (by omega), if_pos k3] at hc
    exact hc
   unfold canL at hcl
   cases hl : lk r.s.M x.w.o with
   | none => rw [hl] at hcl; cases hcl
   | some b =>
    rw [hl] at hcl
    have hb : b = false := by simpa using hcl
    subst hb
    obtain ⟨k, hk, hkq⟩ := ZI hl
    have hkl := (List.getElem?_eq_some_iff.1 hkq).1
    refine ⟨(up y.1 x.w.o true, y.2), ?_, ?_⟩
    · unfold Yg
      simp only [k3]
      rw [if_pos (by simp), if_pos ⟨by omega, by have := h2.ok.1; omega, by rw [h2.lo, hl]; rfl⟩]
      rfl
    · have es : (ZL r.s x.w).1 = { r.s with M := r.s.M.set k true } := by
       unfold ZL
       rw [if_neg (by omega), if_neg (by omega), if_pos k3, hk]
       rfl
      rw [es]
      refine ⟨fun o => ?_, h2.he, h2.rs, by simpa using h2.ok⟩
      show up y.1 x.w.o true o = (lk (r.s.M.set k true) o == some true)
      rw [lk_set true hkl, hk]
      unfold up
      by_cases e : o = (k : Int)
      · simp [e]
      · simp [e, h2.lo]
 by_cases k4 : x.w.k = 4
 · have hl : lk r.s.M x.w.o = some true := by
    by_cases e : lk r.s.M x.w.o = some true
    · exact e
    · exact absurd ⟨k4, e⟩ hA
   obtain ⟨k, hk, hkq⟩ := ZI hl
   have hkl := (List.getElem?_eq_some_iff.1 hkq).1
   refine ⟨(up y.1 x.w.o false, y.2), ?_, ?_⟩
   · unfold Yg
     simp only [k4]
     rw [if_pos (by simp), if_pos ⟨by omega, by have := h2.ok.1; omega, by rw [h2.lo, hl]; rfl⟩]
     rfl
   · have es : (ZL r.s x.w).1 = { r.s with M := r.s.M.set k false } := by
      unfold ZL
      rw [if_neg (by omega), if_neg (by omega), if_neg k3, if_pos k4, hk]
      rfl
     rw [es]
     refine ⟨fun o => ?_, h2.he, h2.rs, by simpa using h2.ok⟩
     show up y.1 x.w.o false o = (lk (r.s.M.set k false) o == some true)
     rw [lk_set false hkl, hk]
     unfold up
     by_cases e : o = (k : Int)
     · simp [e]
     · simp [e, h2.lo]
 by_cases k5 : x.w.k = 5
 · have hcs : canS r x.w = true := by
    unfold ZX at hc
    rw [if_neg (by omega), if_neg (by omega), if_neg (by omega), if_pos k5] at hc
    exact hc
   have hz : roomZ r.s x.w.o = false := by
    cases e : roomZ r.s x.w.o with
    | false => rfl
    | true => exact absurd ⟨k5, e⟩ hC
   unfold canS at hcs
   unfold roomZ at hz
   cases hl : lk r.s.C x.w.o with
   | none => rw [hl] at hcs; cases hcs
   | some q =>
    rw [hl] at hcs hz
    simp only at hcs hz
    have hr0 : ¬ q.room = 0 := by simpa using hz
    rw [if_neg hr0] at hcs
    simp only [Bool.and_eq_true, decide_eq_true_eq] at hcs
    obtain ⟨k, hk, hkq⟩ := ZI hl
    have hkl := (List.getElem?_eq_some_iff.1 hkq).1
    have hmem := List.mem_of_getElem? hkq
    have hyv : y.2 x.w.o = q.l.length := by rw [h2.he]; unfold lenC; rw [hl]
    have hrl : lk R x.w.o = some q.room := by rw [← h2.rs, lk_map, hl]; rfl
    refine ⟨(y.1, up y.2 x.w.o (y.2 x.w.o + 1)), ?_, ?_⟩
    · unfold Yg
      simp only [k5, hrl]
      rw [if_neg (by omega), if_pos trivial, if_pos ⟨by have := h2.ok.2.1; omega, by rw [hyv]; omega⟩]
    · have es : (ZL r.s x.w).1 = { r.s with C := r.s.C.set k { q with l := q.l ++ [x.w.v] } } := by
       unfold ZL
       rw [if_neg (by omega), if_neg (by omega), if_neg k3, if_neg k4, if_pos k5, hl, hk]
       rfl
      rw [es]
      refine ⟨h2.lo, fun o => ?_, ?_, by simpa using h2.ok.1, by simpa using h2.ok.2.1, fun q' hq' => ?_⟩
      · show up y.2 x.w.o (y.2 x.w.o + 1) o = lenC { r.s with C := r.s.C.set k { q with l := q.l ++ [x.w.v] } } o
        unfold lenC up
        simp only
        rw [lk_set _ hkl, hk]
        by_cases e : o = (k : Int)
        · rw [if_pos e, if_pos e]
          rw [hk] at hyv
          simp [hyv]
        · rw [if_neg e, if_neg e, h2.he]
          rfl
      · show (r.s.C.set k { q with l := q.l ++ [x.w.v] }).map Qu.room = R
        rw [List.map_set, ← h2.rs]
        apply List.ext_getElem?
        intro i
        by_cases e : k = i
        · subst e
          simp [hkl, (List.getElem?_eq_some_iff.1 hkq).2]
        · rw [List.getElem?_set_ne e]
      · rcases List.mem_or_eq_of_mem_set hq' with e | e
        · exact h2.ok.2.2 q' e
        · subst e
          have := h2.ok.2.2 q hmem
          refine ⟨this.1, ?_⟩
          show ((q.l ++ [x.w.v]).length : Int) <= q.room
          simp
          omega
 by_cases k6 : x.w.k = 6
 · have hcr : canR r.s x.w = true := by
    unfold ZX at hc
    rw [if_neg (by omega), if_neg (by omega), if_neg (by omega), if_neg (by omega), if_pos k6] at hc
    exact hc
   unfold canR at hcr
   cases hl : lk r.s.C x.w.o with
   | none => rw [hl] at hcr; cases hcr
   | some q =>
    rw [hl] at hcr
    have hpos : 0 < q.l.length := by simpa using hcr
    obtain ⟨k, hk, hkq⟩ := ZI hl
    have hkl := (List.getElem?_eq_some_iff.1 hkq).1
    have hmem := List.mem_of_getElem? hkq
    have hyv : y.2 x.w.o = q.l.length := by rw [h2.he]; unfold lenC; rw [hl]
    refine ⟨(y.1, up y.2 x.w.o (y.2 x.w.o - 1)), ?_, ?_⟩
    · unfold Yg
      simp only [k6]
      rw [if_neg (by omega), if_neg (by omega), if_pos trivial, if_pos ⟨by omega, by have := h2.ok.2.1; omega, by rw [hyv]; omega⟩]
    · have es : (ZL r.s x.w).1 = { r.s with C := r.s.C.set k { q with l := q.l.tail } } := by
       unfold ZL
       rw [if_neg (by omega), if_neg (by omega), if_neg k3, if_neg k4, if_neg k5, if_pos k6, hl, hk]
       rfl
      rw [es]
      refine ⟨h2.lo, fun o => ?_, ?_, by simpa using h2.ok.1, by simpa using h2.ok.2.1, fun q' hq' => ?_⟩
      · show up y.2 x.w.o (y.2 x.w.o - 1) o = lenC { r.s with C := r.s.C.set k { q with l := q.l.tail } } o
        unfold lenC up
        simp only
        rw [lk_set _ hkl, hk]
        by_cases e : o = (k : Int)
        · rw [if_pos e, if_pos e]
          rw [hk] at hyv
          simp [hyv]
          omega
        · rw [if_neg e, if_neg e, h2.he]
          rfl
      · show (r.s.C.set k { q with l := q.l.tail }).map Qu.room = R
        rw [List.map_set, ← h2.rs]
        apply List.ext_getElem?
        intro i
        by_cases e : k = i
        · subst e
          simp [hkl, (List.getElem?_eq_some_iff.1 hkq).2]
        · rw [List.getElem?_set_ne e]
      · rcases List.mem_or_eq_of_mem_set hq' with e | e
        · exact h2.ok.2.2 q' e
        · subst e
          have := h2.ok.2.2 q hmem
          refine ⟨this.1, ?_⟩
          show (q.l.tail.length : Int) <= q.room
          simp
          omega
 refine ⟨y, holdE_other k3 k4 k5 k6, ?_⟩
 have es : (ZL r.s x.w).1.M = r.s.M /\ (ZL r.s x.w).1.C = r.s.C := by
  unfold ZL
  rw [if_neg k3, if_neg k4, if_neg k5, if_neg k6]
  split
  · exact ⟨rfl, rfl⟩
  split
  · exact ⟨rfl, rfl⟩
  split
  · exact ⟨rfl, rfl⟩
  split
  · exact ⟨rfl, rfl⟩
  split
  · exact ⟨rfl, rfl⟩
  · exact ⟨rfl, rfl⟩
 refine ⟨fun o => by rw [es.1]; exact h2.lo o, fun o => ?_, by rw [es.2]; exact h2.rs, by rw [es.1, es.2]; exact h2.ok⟩
 have := h2.he o
 unfold lenC at this ⊢
 rw [es.2]
 exact this
theorem Yt.play {S : List (List Wt)} {R l : List Int} {fuel : Int} : ∀ (f : Nat) (r : Rm) (n : Nat), Yt R r -> Yt R (playR S l fuel f r n).1
 | 0, r, n, h => h
 | f + 1, r, n, h => by
  unfold playR
  split
  · rename_i hgo
    have hm := choose_mem (l := l) (n := n) (runn_some hgo.1 (runs_e hgo.1))
    obtain ⟨i, hi, hc, _⟩ := runn_mem hm
    have e : (Ya (Yy r) l n).1.toNat = i := by rw [hi]; simp
    rw [e]
    have hx : ∃ x, r.gs[i]? = some x /\ ZX r x.w = true := by
     unfold can at hc
     rw [lk_nat] at hc
     cases hx : r.gs[i]? with
     | none => rw [hx] at hc; cases hc
     | some x => rw [hx] at hc; exact ⟨x, rfl, hc⟩
    obtain ⟨x, hx, hcw⟩ := hx
    exact Yt.play f _ _ ((h.step hx hcw).same rfl rfl)
  · exact h
theorem start_s (S : List (List Wt)) (s : St) (fn : Int) : (startR S s fn).s = s := by
 unfold startR
 show (match enterR S ⟨s, [], [], zE⟩ fn with | some r => (Yk r 0).1 | none => faultR ⟨s, [], [], zE⟩ 0 (5, 0, 0)).s = s
 unfold enterR
 cases lk S fn with
 | none => rfl
 | some l => exact ask_s _ 0
theorem hold_start {S : List (List Wt)} {ps : List Int} {m a fn : Int} {qs : List (Int × Int)} (hok : okN ps m qs a = true) : Yt (qs.map Prod.snd) (startR S (newS ps m qs a) fn) := by
 refine ⟨h0, by rw [start_ev]; rfl, ?_⟩
 rw [start_s]
 unfold okN at hok
 simp only [Bool.and_eq_true] at hok
 obtain ⟨_, k2, k3, _, _, k6⟩ := hok
 refine ⟨fun o => ?_, fun o => ?_, ?_, ?_, ?_, fun q hq => ?_⟩
 · show false = (lk (List.replicate m.toNat false) o == some true)
   unfold lk
   split
   · rw [List.getElem?_replicate]
     split <;> rfl
   · rfl
 · show 0 = lenC (newS ps m qs a) o
   unfold lenC newS
   simp only
   rw [lk_map]
   cases lk qs o <;> rfl
 · simp [newS, Function.comp_def]
 · unfold fitB at k2
   simp [newS] at k2 ⊢
   omega
 · unfold fitB at k3
   simp [newS] at k3 ⊢
   omega
 · simp only [newS, List.mem_map] at hq
   obtain ⟨c, hc, rfl⟩ := hq
   simp only [Bool.not_eq_true', List.any_eq_false] at k6
   have h7 := k6 c hc
   unfold badC chanB at h7
   simp at h7
   exact ⟨h7.2.1, by simp; omega⟩
end Go.Proofs.YtghfjnnmpmfboaaDoor.Ck
