/- The walk of the statement PoolApart: it answers true. -/
import Derived.Test.YtlkdfiiipheagaaDoorTwo
import Derived.Test.YtlkdfiiipheagaaDoorOpsIn
import Derived.Test.YtlkdfiiipheagaaDoorLaid17
import Derived.Test.YtlkdfiiipheagaaDoorLawSizes
import Derived.Deep.RegionHeld3
namespace Go.Proofs.YtlkdfiiipheagaaDoor.Ck
open Go.ChangeShapes Go.WideShapes Go.RowKit

/-- what holds at the head of each round: two pools; one's own arena is alike in both -/
structure AI (w wr : World) (s : List Int) (c d : Pn) (j0 : Nat) (R V RQ VQ : Nat → Nat → Int) : Prop where
  p : PI wr s c R V
  q : PI wr s d RQ VQ
  e1 : R j0 = RQ j0
  e2 : V j0 = VQ j0
  bel : Below w.heap.size w wr
  cd : c.U ≤ d.B
  bc : w.heap.size ≤ c.B
  bd : w.heap.size ≤ d.B

theorem AI.grow {w wr w' : World} {s : List Int} {c d : Pn} {j0 : Nat} {R V RQ VQ : Nat → Nat → Int} (h : AI w wr s c d j0 R V RQ VQ) (hb : Below wr.heap.size wr w') : AI w w' s c d j0 R V RQ VQ :=
  ⟨h.p.grow hb, h.q.grow hb, h.e1, h.e2, bel_trans h.bel hb, h.cd, h.bc, h.bd⟩
theorem PI.ubel {w w' : World} {s : List Int} {c : Pn} {R V : Nat → Nat → Int} (h : PI w s c R V) {j : Nat} (hj : j < s.length) {B : Nat} (hB : B ≤ c.B) (u : Upd (c.lay s j) w w') : Below B w w' :=
  u.bel B (Nat.le_trans hB (h.is.rbs j hj).1) (Nat.le_trans hB h.is.own.2.1)
/-- a call on an arena of the first pool that isn't one's own -/
theorem AI.other {w wr w' : World} {s : List Int} {c d : Pn} {j0 : Nat} {R V RQ VQ : Nat → Nat → Int} (h : AI w wr s c d j0 R V RQ VQ) {j : Nat} (hj : j < s.length) (hne : j ≠ j0) {R' V' : Nat → Int} (hA : Ar w' (c.lay s j) R' V') (u : Upd (c.lay s j) wr w') (hf : ∀ i, fit (V' i)) :
    AI w w' s c d j0 (fun i => if i = j then R' else R i) (fun i => if i = j then V' else V i) RQ VQ :=
  ⟨h.p.upd hj hA u hf, h.q.above h.p h.cd hj u, by simp only [if_neg (Ne.symm hne)]; exact h.e1, by simp only [if_neg (Ne.symm hne)]; exact h.e2, h.bel.trans (h.p.ubel hj h.bc u), h.cd, h.bc, h.bd⟩
/-- a call on one's own arena of both pools -/
theorem AI.own {w wr w1 w2 : World} {s : List Int} {c d : Pn} {j0 : Nat} {R V RQ VQ : Nat → Nat → Int} (h : AI w wr s c d j0 R V RQ VQ) (hj : j0 < s.length) {R' V' : Nat → Int} (hA : Ar w1 (c.lay s j0) R' V') (u : Upd (c.lay s j0) wr w1) (hf : ∀ i, fit (V' i))
    {wb : World} (hb : Below w1.heap.size w1 wb) (hA2 : Ar w2 (d.lay s j0) R' V') (u2 : Upd (d.lay s j0) wb w2) :
    AI w w2 s c d j0 (fun i => if i = j0 then R' else R i) (fun i => if i = j0 then V' else V i) (fun i => if i = j0 then R' else RQ i) (fun i => if i = j0 then V' else VQ i) := by
  have p1 := (h.p.upd hj hA u hf).grow hb
  have q1 := (h.q.above h.p h.cd hj u).grow hb
  refine ⟨p1.under q1 h.cd hj u2, q1.upd hj hA2 u2 hf, by simp, by simp, ?_, h.cd, h.bc, h.bd⟩
  exact (bel_trans (h.bel.trans (h.p.ubel hj h.bc u)) hb).trans (q1.ubel hj h.bd u2)

set_option maxHeartbeats 40000000 in
set_option maxRecDepth 10000 in
theorem apart_main (vs : Value) (s : List Int) (oa : Option Addr) (len oc : Nat) (f : Nat → OpV) (own : Int) (w : World) (p : List Addr) (hs : Sl w vs s) (ho : OpsAt w oa len f) (hp : Errs17 w p) :
    Calls Tryd.prog 4 #[vs, .slice oa len oc, .int .i64 own] w fun e w' => e = .returned (.bool true) ∧ Below w.heap.size w w' := by
  obtain ⟨sa, m, sc, rfl, em⟩ := hs.slice
  have Em := hide em
  have Hs := hide hs
  have Ho := hide ho
  have hlen := ho.1
  have HN : Hid (∀ wr, Below w.heap.size w wr → Errs17 wr p) := fun wr hb => hp.below (Nat.le_refl _) hb
  clear em hs ho
  go_enter Tryd.func4, Tryd.ntmps4
  go_wp2_with fail
  refine (alive_any _ p hp).mono ?_
  rintro e w0 ⟨rfl, b0⟩
  clear hp
  go_wp2_with fail
  refine (may_any 256 s _ _ (Hs.out.below (Nat.le_refl _) b0)).mono ?_
  rintro e w1 ⟨hmay | hmay, rfl⟩
  · obtain ⟨⟨n, hn, hM⟩, rfl⟩ := hmay
    obtain rfl : n = 256 := by omega
    have hm8 : m ≤ 8 := by have := hM.2.2.1; have := Em.out; omega
    have MM := hide hM
    clear hM hn
    by_cases hm0 : m = 0
    · subst hm0
      go_wp2_with fail
      go_ret
      exact ⟨rfl, b0⟩
    · have hne : ((m : Int) == 0) = false := by rw [beq_eq_false_iff_ne]; omega
      have hwm : IntKind.u64.wrap (m : Int) = (m : Int) := by
        show (m : Int) % _ = _
        have e : ((2 : Int) ^ IntKind.u64.bits) = 18446744073709551616 := by decide
        exact Int.emod_eq_of_lt (by omega) (by rw [e]; omega)
      obtain ⟨j0, hj0, hj0m⟩ := umod own m (by omega)
      go_wp2_with fail
      refine (new_ok 256 s _ _ (Hs.out.below (Nat.le_refl _) b0) MM.out).mono ?_
      rintro e w2 ⟨⟨x, rfl, hR⟩, hb2⟩
      obtain ⟨c, hcB, hcU, rfl, hc⟩ := PI.made hR
      have b2 := bel_trans b0 hb2
      have C := hide (And.intro hc (And.intro hcB hcU))
      clear hc hcB hcU hR
      have Hb0 := hide b0.size
      clear b0 hb2
      go_wp2_with fail
      refine (new_ok 256 s _ _ (Hs.out.below (Nat.le_refl _) b2) MM.out).mono ?_
      rintro e w3 ⟨⟨x, rfl, hR⟩, hb3⟩
      obtain ⟨d, hdB, hdU, rfl, hd⟩ := PI.made hR
      have Z0 : Hid (AI w w3 s c d j0 (fun _ _ => 0) (fun _ _ => 0) (fun _ _ => 0) (fun _ _ => 0)) :=
        ⟨C.out.1.grow hb3, hd, rfl, rfl, bel_trans b2 hb3, by rw [C.out.2.2, hdB]; exact Nat.le_refl _, by rw [C.out.2.1]; exact Hb0.out, by rw [hdB]; exact b2.size⟩
      clear hd hdB hdU hR C hb3 b2 Hb0
      have hsc : m ≤ sc := by
        obtain ⟨_, a', c', e, h1, h2, _⟩ := Hs.out
        cases e
        have := Em.out
        omega
      have Hsl : Hid (s.length = m) := Em.out.symm
      go_wp2_with fail
      refine (arena_ok Z0.out.q.is _ j0 rfl (by have := Hsl.out; omega) (by have := Hsl.out; omega)).mono ?_
      rintro e w4 ⟨rfl, rfl⟩
      go_wp2_with fail
      go_loopw [76] (fun i wr => ∃ (k : Nat) (R V RQ VQ : Nat → Nat → Int), k ≤ len ∧ i = .int .i64 k ∧ Hid (AI w wr s c d j0 R V RQ VQ)) (fun i _ => len - (intOf i).toNat)
      case atStart => exact ⟨0, _, _, _, _, Nat.zero_le _, rfl, Z0⟩
      case round =>
        obtain ⟨k, R, V, RQ, VQ, hk, rfl, Z⟩ := hrel
        clear Z0
        obtain ⟨wo, rfl⟩ : ∃ wo, wo = wr := ⟨wr, rfl⟩
        by_cases hgo : k < len ∧ k ≤ 150
        · obtain ⟨hkl, hk150⟩ := hgo
          obtain ⟨hfit, b, off, rfl, hlt, c0, c1, c2, c3⟩ := (Ho.out.below Z.out.bel).2 k hkl
          generalize f k = o at hfit c0 c1 c2 c3
          obtain ⟨K, ar, at_, v⟩ := o
          simp only at c0 c1 c2 c3
          obtain ⟨_, _, _, hv1, hv2⟩ := hfit
          simp only at hv1 hv2
          have Hfv : Hid (fit v) := ⟨hv1, hv2⟩
          clear hv1
          obtain ⟨ja, hja, hjm⟩ := umod ar m (by omega)
          have Hja : Hid (ja < s.length) := by have := Hsl.out; show _ < _; omega
          have Z1 := hide (Z.out.grow (bel_new wo (.cells #[.int .i64 K, .int .i64 ar, .int .i64 at_, .int .i64 v] 45)))
          have Hlt : Hid (c.rb ja < wo.heap.size ∧ c.pb < wo.heap.size) := ⟨(Z.out.p.is.rbs ja Hja.out).2.1, Z.out.p.is.lt.2.1⟩
          clear Z
          go_wp2_with fail
          refine (arena_ok Z1.out.p.is _ ja rfl (by have := Hsl.out; omega) (by have := Hsl.out; omega)).mono ?_
          rintro e w5 ⟨rfl, rfl⟩
          go_wp2_with fail
          refine (step_any (c.lay s ja) (R ja) (V ja) K ar at_ v _ p (Z1.out.p.is.ar ja Hja.out) (HN.out _ Z1.out.bel) hv2).mono ?_
          rintro e w6 ⟨x, ev, R', V', rfl, hr, hA, wb, hb, u⟩
          have hfV := hide (hr.fits (Z1.out.p.fits ja) Hfv.out)
          have Z2 := hide (Z1.out.grow hb)
          by_cases hje : ja = j0
          · subst hje
            have hcell : ∀ i v', (wo.alloc (.cells #[.int .i64 K, .int .i64 ar, .int .i64 at_, .int .i64 v] 45)).cell? ⟨wo.heap.size, i, none⟩ = some v' → w6.cell? ⟨wo.heap.size, i, none⟩ = some v' := fun i v' h => by
              have h1 := Hlt.out
              have e1 : (c.lay s ja).rb = c.rb ja := rfl
              have e2 : (c.lay s ja).pb = c.pb := rfl
              rw [World.cell?_of_block (w := wb) (u.blk wo.heap.size (by omega) (by omega)), hb.cell (p := ⟨wo.heap.size, i, none⟩) (by simp)]
              exact h
            have hrow := World.rowIs_alloc wo #[.int .i64 K, .int .i64 ar, .int .i64 at_, .int .i64 v] 45 (fun i => .int .i64 (if i = 0 then K else if i = 1 then ar else if i = 2 then at_ else v)) (fun i hi => by
              have : i = 0 ∨ i = 1 ∨ i = 2 ∨ i = 3 := by simp at hi; omega
              rcases this with e | e | e | e <;> subst e <;> rfl)
            have d0 := hcell 0 _ (hrow.cell (i := 0) (by simp))
            have d1 := hcell 1 _ (hrow.cell (i := 1) (by simp))
            have d2 := hcell 2 _ (hrow.cell (i := 2) (by simp))
            have d3 := hcell 3 _ (hrow.cell (i := 3) (by simp))
            simp only [if_pos, Nat.one_ne_zero, if_false, show ¬ (2 = 0) by omega, show ¬ (2 = 1) by omega, show ¬ (3 = 0) by omega, show ¬ (3 = 1) by omega, show ¬ (3 = 2) by omega] at d0 d1 d2 d3
            have hAq : Ar w6 (d.lay s ja) (R ja) (V ja) := by
              have h := (Z2.out.q.above Z2.out.p Z2.out.cd Hja.out u).is.ar ja Hja.out
              rw [← Z2.out.e1, ← Z2.out.e2] at h
              exact h
            have bel6 : Below w.heap.size w w6 := Z2.out.bel.trans (Z2.out.p.ubel Hja.out Z2.out.bc u)
            have HQ := hide (And.intro hAq bel6)
            have HP := hide (And.intro hr (And.intro hA u))
            clear hcell hrow hAq bel6 hr hA u hb Z1
            have hbj : ((ja : Int) != (ja : Int)) = false := by simp
            go_wp2_with fail
            refine (step_any (d.lay s ja) (R ja) (V ja) K ar at_ v _ p HQ.out.1 (HN.out _ HQ.out.2) hv2).mono ?_
            rintro e w7 ⟨y, ev2, R2, V2, rfl, hr2, hA2, wb2, hb2, u2⟩
            obtain ⟨exy, eev, eR, eV⟩ := HP.out.1.uniq hr2
            subst exy eev eR eV
            have Z3 := hide (Z2.out.own Hja.out HP.out.2.1 HP.out.2.2 hfV.out hb2 hA2 u2)
            obtain ⟨zn, hzn⟩ := HP.out.1.num
            have HZ := hide hzn
            have hbx : (x != x) = false := by simp
            clear hr2 hA2 hb2 u2 HP HQ hzn Z2
            go_wp2_with fail
            refine (HZ.out _ (HN.out _ Z3.out.bel)).mono ?_
            rintro e w8 ⟨rfl, hb8⟩
            have Z4 := hide (Z3.out.grow hb8)
            clear Z3 hb8
            go_wp2_with fail
            refine (HZ.out _ (HN.out _ Z4.out.bel)).mono ?_
            rintro e w9 ⟨rfl, hb9⟩
            have Z5 := hide (Z4.out.grow hb9)
            have hbz : (zn != zn) = false := by simp
            clear Z4 hb9
            have hU1 : Hid (Calls Tryd.prog 19 #[(c.lay s ja).ptr] w9 fun e w' => e = .returned (.int .i64 (uc R' (sh s ja))) ∧ w9 = w') := by
              have h := Z5.out.p.is.ar ja Hja.out
              simp only [if_pos] at h
              exact used_any _ _ _ _ h
            have hU2 : Hid (Calls Tryd.prog 19 #[(d.lay s ja).ptr] w9 fun e w' => e = .returned (.int .i64 (uc R' (sh s ja))) ∧ w9 = w') := by
              have h := Z5.out.q.is.ar ja Hja.out
              simp only [if_pos] at h
              exact used_any _ _ _ _ h
            generalize uc R' (sh s ja) = uu at hU1 hU2
            have hbu : ((uu : Int) != (uu : Int)) = false := by simp
            go_wp2_with fail
            refine hU1.out.mono ?_
            rintro e w10 ⟨rfl, rfl⟩
            go_wp2_with fail
            refine hU2.out.mono ?_
            rintro e w11 ⟨rfl, rfl⟩
            clear hU1 hU2
            go_wp2_with fail
            go_roundw
            case rel => exact ⟨k + 1, _, _, _, _, by omega, by go_num, Z5.out⟩
            case measure => simp [intOf]; omega
          · have Z3 := hide (Z2.out.other Hja.out hje hA u hfV.out)
            have hbj : ((ja : Int) != (j0 : Int)) = true := by simp; omega
            clear hr hA u hb Z1 Z2
            go_wp2_with fail
            go_roundw
            case rel => exact ⟨k + 1, _, _, _, _, by omega, by go_num, Z3.out⟩
            case measure => simp [intOf]; omega
        · by_cases hkl : k < len
          · have hk151 : ¬ k ≤ 150 := fun h => hgo ⟨hkl, h⟩
            clear hgo
            obtain ⟨_, b, off, rfl, hlt, c0, c1, c2, c3⟩ := (Ho.out.below Z.out.bel).2 k hkl
            generalize f k = o at c0 c1 c2 c3
            obtain ⟨K, ar, at_, v⟩ := o
            simp only at c0 c1 c2 c3
            have hd1 : decide ((k : Int) < (len : Int)) = true := decide_eq_true (by omega)
            have hd2 : decide ((150 : Int) < (k : Int)) = true := decide_eq_true (by omega)
            have ZT := hide (Z.out.grow (bel_new wo (.cells #[.int .i64 K, .int .i64 ar, .int .i64 at_, .int .i64 v] 45)))
            clear Z
            go_wp2_with fail
            generalize wo.alloc (.cells #[.int .i64 K, .int .i64 ar, .int .i64 at_, .int .i64 v] 45) = wt at ZT ⊢
            clear c0 c1 c2 c3
            go_loop [22, 136] (fun x i => ∃ t : Nat, t ≤ j0 ∧ i = .int .i64 t ∧ x = .int .i64 (16 * (pre s t : Int))) (fun _ i => j0 - (intOf i).toNat)
            case atStart => exact ⟨0, Nat.zero_le _, rfl, rfl⟩
            case round =>
              obtain ⟨t, ht, rfl, rfl⟩ := hrel
              by_cases htj : t < j0
              · obtain ⟨b5, off5, rfl, _, hc5⟩ := (Hs.out.below (Nat.le_refl _) ZT.out.bel).at t (by omega)
                obtain ⟨hz0, hz1⟩ := MM.out.2.2.2 t (by have := Hsl.out; omega)
                have ez : s.getD t 0 = (sh s t : Int) := by unfold sh; omega
                have ep : Hid ((pre s (t + 1) : Int) = (pre s t : Int) + sh s t) := by show ((pre s t + sh s t : Nat) : Int) = _; omega
                rw [ez] at hc5 hz0 hz1
                clear ez
                generalize sh s t = z at *
                generalize pre s t = q at *
                go_wp2_with fail
                go_round
                case rel => exact ⟨t + 1, by omega, by go_num, by rw [ep.out]; go_num⟩
                case measure => simp [intOf]; omega
              · have hte : t = j0 := by omega
                subst hte
                obtain ⟨b5, off5, rfl, hl5, hc5⟩ := (Hs.out.below (Nat.le_refl _) ZT.out.bel).at t hj0m
                obtain ⟨hz0, hz1⟩ := MM.out.2.2.2 t (by have := Hsl.out; omega)
                have ez : s.getD t 0 = (sh s t : Int) := by unfold sh; omega
                rw [ez] at hc5 hz0 hz1
                have hle : 16 * (pre s t + sh s t) ≤ 4096 := by omega
                have HW : Hid ((((List.range 4096).map (pw s V s.length)).drop (16 * pre s t)).take (16 * sh s t) = (((List.range 4096).map (pw s VQ s.length)).drop (16 * pre s t)).take (16 * sh s t)) := by
                  show _ = _
                  rw [own_words s V s.length t (by have := Hsl.out; omega) hle, own_words s VQ s.length t (by have := Hsl.out; omega) hle, ZT.out.e2]
                have DP := hide (fun wx (hb : Below wt.heap.size wt wx) => dump_u (ZT.out.grow hb).p)
                have DQ := hide (fun wx (hb : Below wt.heap.size wt wx) => dump_u (ZT.out.grow hb).q)
                have BT := hide ZT.out.bel
                generalize hDP : (List.range 4096).map (pw s V s.length) = LP at *
                generalize hDQ : (List.range 4096).map (pw s VQ s.length) = LQ at *
                clear ZT ez
                generalize c.pp = cp at *
                generalize d.pp = dp at *
                generalize sh s t = z at *
                generalize pre s t = q at *
                have hwr : IntKind.i64.wrap (16 * (z : Int)) = 16 * (z : Int) := by rw [IntKind.wrap_i64]; omega
                have hwr2 : IntKind.i64.wrap (16 * (q : Int) + 16 * (z : Int)) = 16 * (q : Int) + 16 * (z : Int) := by rw [IntKind.wrap_i64]; omega
                have htn1 : (16 * (q : Int)).toNat = 16 * q := by omega
                have htn2 : (16 * (q : Int) + 16 * (z : Int)).toNat = 16 * q + 16 * z := by omega
                have hcn1 : 0 ≤ 16 * (q : Int) ∧ 16 * (q : Int) ≤ 16 * (q : Int) + 16 * (z : Int) := by omega
                have hcn2 : 0 ≤ 16 * (q : Int) + 16 * (z : Int) ∧ 16 * (q : Int) + 16 * (z : Int) ≤ 4096 := by omega
                have hse : Hid (∀ (w3 : World) (g1 g2 : Nat) (x1 x2 : Value), Sl w3 (.slice (some ⟨g1, 0, none⟩) 4096 4096) LP → Sl w3 (.slice (some ⟨g2, 0, none⟩) 4096 4096) LQ → x1 = .slice (some ⟨g1, if 4096 = 16 * q then 0 else 0 + 16 * q, none⟩) (16 * q + 16 * z - 16 * q) (4096 - 16 * q) → x2 = .slice (some ⟨g2, if 4096 = 16 * q then 0 else 0 + 16 * q, none⟩) (16 * q + 16 * z - 16 * q) (4096 - 16 * q) →
                    Calls Tryd.prog 24 #[x1, x2] w3 fun e w' => e = .returned (.bool true) ∧ Below w3.heap.size w3 w') := fun w3 g1 g2 x1 x2 h1 h2 e1 e2 => by
                  have h := sameInts_any _ _ _ _ _ (h1.cut (16 * q) (16 * q + 16 * z) (by omega) (by omega)) (h2.cut (16 * q) (16 * q + 16 * z) (by omega) (by omega))
                  rw [show 16 * q + 16 * z - 16 * q = 16 * z by omega] at h e1 e2
                  rw [HW.out, show sameB ((LQ.drop (16 * q)).take (16 * z)) ((LQ.drop (16 * q)).take (16 * z)) = true by simp [sameB], ← e1, ← e2] at h
                  exact h
                by_cases hq256 : 4096 = 16 * q
                · have hqt : (4096 = 16 * q) = True := eq_true hq256
                  clear hq256
                  go_wp2_with fail
                  go_region_held3 (fun w' => w'.cell? ⟨b5, off5 + t, none⟩ = some (.int .i64 (z : Int))) (go_keep)
                    (first
                      | (go_at_call_of 25 (Value.pointer (some ⟨cp, 0, none⟩)); refine (DP.out _ (by first | exact (Below.refl _ _).drew | exact bel_trans ((Below.refl _ _).drew) hbq)).mono ?_; rintro e wp ⟨⟨g1, rfl, s1⟩, hbp⟩; have hc5p := (hbp.cell (p := ⟨b5, off5 + t, none⟩) (by first | exact hl5 | exact Nat.lt_of_lt_of_le hl5 hbq.size)).trans (by first | exact hc5q | exact hc5))
                      | (go_at_call_of 25 (Value.pointer (some ⟨dp, 0, none⟩)); refine (DQ.out _ (by first | exact (Below.refl _ _).drew | exact bel_trans ((Below.refl _ _).drew) hbp)).mono ?_; rintro e wq ⟨⟨g2, rfl, s2⟩, hbq⟩; have hc5q := (hbq.cell (p := ⟨b5, off5 + t, none⟩) (by first | exact hl5 | exact Nat.lt_of_lt_of_le hl5 hbp.size)).trans (by first | exact hc5p | exact hc5))
                      | (go_at_call 24; refine (hse.out _ g1 g2 _ _ (by first | exact s1 | exact s1.below (Nat.le_refl _) hbq) (by first | exact s2 | exact s2.below (Nat.le_refl _) hbp) (by simp [hqt]) (by simp [hqt])).mono ?_; rintro e w9 ⟨rfl, hb9⟩; have hc59 := (hb9.cell (p := ⟨b5, off5 + t, none⟩) (block_lt (by first | exact hc5q | exact hc5p))).trans (by first | exact hc5q | exact hc5p)))
                  all_goals
                    go_wp2_with fail
                    go_ret
                    first
                      | exact ⟨rfl, bel_trans (bel_trans (bel_trans (BT.out.drew) hbp) hbq) hb9⟩
                      | exact ⟨rfl, bel_trans (bel_trans (bel_trans (BT.out.drew) hbq) hbp) hb9⟩
                · skip
                  go_wp2_with fail
                  go_region_held3 (fun w' => w'.cell? ⟨b5, off5 + t, none⟩ = some (.int .i64 (z : Int))) (go_keep)
                    (first
                      | (go_at_call_of 25 (Value.pointer (some ⟨cp, 0, none⟩)); refine (DP.out _ (by first | exact (Below.refl _ _).drew | exact bel_trans ((Below.refl _ _).drew) hbq)).mono ?_; rintro e wp ⟨⟨g1, rfl, s1⟩, hbp⟩; have hc5p := (hbp.cell (p := ⟨b5, off5 + t, none⟩) (by first | exact hl5 | exact Nat.lt_of_lt_of_le hl5 hbq.size)).trans (by first | exact hc5q | exact hc5))
                      | (go_at_call_of 25 (Value.pointer (some ⟨dp, 0, none⟩)); refine (DQ.out _ (by first | exact (Below.refl _ _).drew | exact bel_trans ((Below.refl _ _).drew) hbp)).mono ?_; rintro e wq ⟨⟨g2, rfl, s2⟩, hbq⟩; have hc5q := (hbq.cell (p := ⟨b5, off5 + t, none⟩) (by first | exact hl5 | exact Nat.lt_of_lt_of_le hl5 hbp.size)).trans (by first | exact hc5p | exact hc5))
                      | (go_at_call 24; refine (hse.out _ g1 g2 _ _ (by first | exact s1 | exact s1.below (Nat.le_refl _) hbq) (by first | exact s2 | exact s2.below (Nat.le_refl _) hbp) (by simp [hq256]) (by simp [hq256])).mono ?_; rintro e w9 ⟨rfl, hb9⟩; have hc59 := (hb9.cell (p := ⟨b5, off5 + t, none⟩) (block_lt (by first | exact hc5q | exact hc5p))).trans (by first | exact hc5q | exact hc5p)))
                  all_goals
                    go_wp2_with fail
                    go_ret
                    first
                      | exact ⟨rfl, bel_trans (bel_trans (bel_trans (BT.out.drew) hbp) hbq) hb9⟩
                      | exact ⟨rfl, bel_trans (bel_trans (bel_trans (BT.out.drew) hbq) hbp) hb9⟩
          · have hke : k = len := by omega
            clear hgo
            subst hke
            obtain ⟨wt, rfl⟩ : ∃ wt, wt = wo := ⟨wo, rfl⟩
            have ZT := Z
            clear Z
            go_wp2_with fail
            go_loop [22, 136] (fun x i => ∃ t : Nat, t ≤ j0 ∧ i = .int .i64 t ∧ x = .int .i64 (16 * (pre s t : Int))) (fun _ i => j0 - (intOf i).toNat)
            case atStart => exact ⟨0, Nat.zero_le _, rfl, rfl⟩
            case round =>
              obtain ⟨t, ht, rfl, rfl⟩ := hrel
              by_cases htj : t < j0
              · obtain ⟨b5, off5, rfl, _, hc5⟩ := (Hs.out.below (Nat.le_refl _) ZT.out.bel).at t (by omega)
                obtain ⟨hz0, hz1⟩ := MM.out.2.2.2 t (by have := Hsl.out; omega)
                have ez : s.getD t 0 = (sh s t : Int) := by unfold sh; omega
                have ep : Hid ((pre s (t + 1) : Int) = (pre s t : Int) + sh s t) := by show ((pre s t + sh s t : Nat) : Int) = _; omega
                rw [ez] at hc5 hz0 hz1
                clear ez
                generalize sh s t = z at *
                generalize pre s t = q at *
                go_wp2_with fail
                go_round
                case rel => exact ⟨t + 1, by omega, by go_num, by rw [ep.out]; go_num⟩
                case measure => simp [intOf]; omega
              · have hte : t = j0 := by omega
                subst hte
                obtain ⟨b5, off5, rfl, hl5, hc5⟩ := (Hs.out.below (Nat.le_refl _) ZT.out.bel).at t hj0m
                obtain ⟨hz0, hz1⟩ := MM.out.2.2.2 t (by have := Hsl.out; omega)
                have ez : s.getD t 0 = (sh s t : Int) := by unfold sh; omega
                rw [ez] at hc5 hz0 hz1
                have hle : 16 * (pre s t + sh s t) ≤ 4096 := by omega
                have HW : Hid ((((List.range 4096).map (pw s V s.length)).drop (16 * pre s t)).take (16 * sh s t) = (((List.range 4096).map (pw s VQ s.length)).drop (16 * pre s t)).take (16 * sh s t)) := by
                  show _ = _
                  rw [own_words s V s.length t (by have := Hsl.out; omega) hle, own_words s VQ s.length t (by have := Hsl.out; omega) hle, ZT.out.e2]
                have DP := hide (fun wx (hb : Below wt.heap.size wt wx) => dump_u (ZT.out.grow hb).p)
                have DQ := hide (fun wx (hb : Below wt.heap.size wt wx) => dump_u (ZT.out.grow hb).q)
                have BT := hide ZT.out.bel
                generalize hDP : (List.range 4096).map (pw s V s.length) = LP at *
                generalize hDQ : (List.range 4096).map (pw s VQ s.length) = LQ at *
                clear ZT ez
                generalize c.pp = cp at *
                generalize d.pp = dp at *
                generalize sh s t = z at *
                generalize pre s t = q at *
                have hwr : IntKind.i64.wrap (16 * (z : Int)) = 16 * (z : Int) := by rw [IntKind.wrap_i64]; omega
                have hwr2 : IntKind.i64.wrap (16 * (q : Int) + 16 * (z : Int)) = 16 * (q : Int) + 16 * (z : Int) := by rw [IntKind.wrap_i64]; omega
                have htn1 : (16 * (q : Int)).toNat = 16 * q := by omega
                have htn2 : (16 * (q : Int) + 16 * (z : Int)).toNat = 16 * q + 16 * z := by omega
                have hcn1 : 0 ≤ 16 * (q : Int) ∧ 16 * (q : Int) ≤ 16 * (q : Int) + 16 * (z : Int) := by omega
                have hcn2 : 0 ≤ 16 * (q : Int) + 16 * (z : Int) ∧ 16 * (q : Int) + 16 * (z : Int) ≤ 4096 := by omega
                have hse : Hid (∀ (w3 : World) (g1 g2 : Nat) (x1 x2 : Value), Sl w3 (.slice (some ⟨g1, 0, none⟩) 4096 4096) LP → Sl w3 (.slice (some ⟨g2, 0, none⟩) 4096 4096) LQ → x1 = .slice (some ⟨g1, if 4096 = 16 * q then 0 else 0 + 16 * q, none⟩) (16 * q + 16 * z - 16 * q) (4096 - 16 * q) → x2 = .slice (some ⟨g2, if 4096 = 16 * q then 0 else 0 + 16 * q, none⟩) (16 * q + 16 * z - 16 * q) (4096 - 16 * q) →
                    Calls Tryd.prog 24 #[x1, x2] w3 fun e w' => e = .returned (.bool true) ∧ Below w3.heap.size w3 w') := fun w3 g1 g2 x1 x2 h1 h2 e1 e2 => by
                  have h := sameInts_any _ _ _ _ _ (h1.cut (16 * q) (16 * q + 16 * z) (by omega) (by omega)) (h2.cut (16 * q) (16 * q + 16 * z) (by omega) (by omega))
                  rw [show 16 * q + 16 * z - 16 * q = 16 * z by omega] at h e1 e2
                  rw [HW.out, show sameB ((LQ.drop (16 * q)).take (16 * z)) ((LQ.drop (16 * q)).take (16 * z)) = true by simp [sameB], ← e1, ← e2] at h
                  exact h
                by_cases hq256 : 4096 = 16 * q
                · have hqt : (4096 = 16 * q) = True := eq_true hq256
                  clear hq256
                  go_wp2_with fail
                  go_region_held3 (fun w' => w'.cell? ⟨b5, off5 + t, none⟩ = some (.int .i64 (z : Int))) (go_keep)
                    (first
                      | (go_at_call_of 25 (Value.pointer (some ⟨cp, 0, none⟩)); refine (DP.out _ (by first | exact (Below.refl _ _).drew | exact bel_trans ((Below.refl _ _).drew) hbq)).mono ?_; rintro e wp ⟨⟨g1, rfl, s1⟩, hbp⟩; have hc5p := (hbp.cell (p := ⟨b5, off5 + t, none⟩) (by first | exact hl5 | exact Nat.lt_of_lt_of_le hl5 hbq.size)).trans (by first | exact hc5q | exact hc5))
                      | (go_at_call_of 25 (Value.pointer (some ⟨dp, 0, none⟩)); refine (DQ.out _ (by first | exact (Below.refl _ _).drew | exact bel_trans ((Below.refl _ _).drew) hbp)).mono ?_; rintro e wq ⟨⟨g2, rfl, s2⟩, hbq⟩; have hc5q := (hbq.cell (p := ⟨b5, off5 + t, none⟩) (by first | exact hl5 | exact Nat.lt_of_lt_of_le hl5 hbp.size)).trans (by first | exact hc5p | exact hc5))
                      | (go_at_call 24; refine (hse.out _ g1 g2 _ _ (by first | exact s1 | exact s1.below (Nat.le_refl _) hbq) (by first | exact s2 | exact s2.below (Nat.le_refl _) hbp) (by simp [hqt]) (by simp [hqt])).mono ?_; rintro e w9 ⟨rfl, hb9⟩; have hc59 := (hb9.cell (p := ⟨b5, off5 + t, none⟩) (block_lt (by first | exact hc5q | exact hc5p))).trans (by first | exact hc5q | exact hc5p)))
                  all_goals
                    go_wp2_with fail
                    go_ret
                    first
                      | exact ⟨rfl, bel_trans (bel_trans (bel_trans (BT.out.drew) hbp) hbq) hb9⟩
                      | exact ⟨rfl, bel_trans (bel_trans (bel_trans (BT.out.drew) hbq) hbp) hb9⟩
                · skip
                  go_wp2_with fail
                  go_region_held3 (fun w' => w'.cell? ⟨b5, off5 + t, none⟩ = some (.int .i64 (z : Int))) (go_keep)
                    (first
                      | (go_at_call_of 25 (Value.pointer (some ⟨cp, 0, none⟩)); refine (DP.out _ (by first | exact (Below.refl _ _).drew | exact bel_trans ((Below.refl _ _).drew) hbq)).mono ?_; rintro e wp ⟨⟨g1, rfl, s1⟩, hbp⟩; have hc5p := (hbp.cell (p := ⟨b5, off5 + t, none⟩) (by first | exact hl5 | exact Nat.lt_of_lt_of_le hl5 hbq.size)).trans (by first | exact hc5q | exact hc5))
                      | (go_at_call_of 25 (Value.pointer (some ⟨dp, 0, none⟩)); refine (DQ.out _ (by first | exact (Below.refl _ _).drew | exact bel_trans ((Below.refl _ _).drew) hbp)).mono ?_; rintro e wq ⟨⟨g2, rfl, s2⟩, hbq⟩; have hc5q := (hbq.cell (p := ⟨b5, off5 + t, none⟩) (by first | exact hl5 | exact Nat.lt_of_lt_of_le hl5 hbp.size)).trans (by first | exact hc5p | exact hc5))
                      | (go_at_call 24; refine (hse.out _ g1 g2 _ _ (by first | exact s1 | exact s1.below (Nat.le_refl _) hbq) (by first | exact s2 | exact s2.below (Nat.le_refl _) hbp) (by simp [hq256]) (by simp [hq256])).mono ?_; rintro e w9 ⟨rfl, hb9⟩; have hc59 := (hb9.cell (p := ⟨b5, off5 + t, none⟩) (block_lt (by first | exact hc5q | exact hc5p))).trans (by first | exact hc5q | exact hc5p)))
                  all_goals
                    go_wp2_with fail
                    go_ret
                    first
                      | exact ⟨rfl, bel_trans (bel_trans (bel_trans (BT.out.drew) hbp) hbq) hb9⟩
                      | exact ⟨rfl, bel_trans (bel_trans (bel_trans (BT.out.drew) hbq) hbp) hb9⟩
  · obtain ⟨_, rfl⟩ := hmay
    go_wp2_with fail
    go_ret
    exact ⟨rfl, b0⟩

theorem poolApart_walk {W : World} {a0 a1 : Option Addr} {len0 cap0 len1 cap1 : Nat} {s : List Int} {f : Nat → OpV} {own : Int} (s0 : Sl W (.slice a0 len0 cap0) s) (s1 : OpsAt W a1 len1 f) (_w : (Lit.int .i64 own).wf = true) (hL : laidMetH Tryd.prog laid17 W) :
    Calls Tryd.prog 4 #[.slice a0 len0 cap0, .slice a1 len1 cap1, .int .i64 own] W fun e w' => e = .returned (.bool true) ∧ Below W.heap.size W w' := by
  obtain ⟨p, hp⟩ := errs17_of_laid hL
  exact apart_main _ s a1 len1 cap1 f own W p s0 s1 hp

end Go.Proofs.YtlkdfiiipheagaaDoor.Ck
