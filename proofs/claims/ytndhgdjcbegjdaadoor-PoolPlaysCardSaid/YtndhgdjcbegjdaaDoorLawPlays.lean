/- The walk of the statement PoolPlays: it answers true. -/
import Derived.Test.YtndhgdjcbegjdaaDoorPu
import Derived.Test.YtndhgdjcbegjdaaDoorNb
import Derived.Test.YtndhgdjcbegjdaaDoorMarks
import Derived.Test.YtndhgdjcbegjdaaDoorOpsIn
import Derived.Test.YtndhgdjcbegjdaaDoorLaid17
import Derived.Deep.RegionHeld3
import Derived.Deep.CutBlock
namespace Go.Proofs.YtndhgdjcbegjdaaDoor.Ck
open Go.ChangeShapes Go.WideShapes Go.RowKit

theorem umod (a : Int) (n : Nat) (hn : 0 < n) : ∃ x : Nat, (IntKind.u64.wrap a).tmod (n : Int) = (x : Int) ∧ x < n := by
  have h0 : 0 ≤ IntKind.u64.wrap a := by
    show 0 ≤ a % _
    exact Int.emod_nonneg _ (by decide)
  rw [Int.tmod_eq_emod_of_nonneg h0]
  have h1 := Int.emod_nonneg (IntKind.u64.wrap a) (show (n : Int) ≠ 0 by omega)
  have h2 := Int.emod_lt_of_pos (IntKind.u64.wrap a) (show (0 : Int) < n by omega)
  exact ⟨((IntKind.u64.wrap a) % n).toNat, by omega, by omega⟩
theorem ints_sl {w : World} {B g : Nat} {a : List Int} (ho : Own w B g (a.length + 4) (a ++ marks)) (hf : Fits a) (hl : a.length ≤ 17592186044416) : Sl w (.slice (some ⟨g, 0, none⟩) a.length (a.length + 4)) a := by
  have hlt : g < w.heap.size := by
    obtain ⟨cur, _, hg, _⟩ := ho.parts
    exact (Array.getElem?_eq_some_iff.1 hg).1
  refine ⟨hf, some ⟨g, 0, none⟩, a.length + 4, rfl, by omega, by unfold maxLen; omega, fun i hi => ⟨g, 0, rfl, hlt, ?_⟩⟩
  rw [Nat.zero_add, ho.cell i (by simp; omega)]
  simp only [List.getD, List.getElem?_append_left hi]
theorem NewRes.grow {w0 w w' : World} {pages : Nat} {s : List Int} {v : Value} (h : NewRes w0 w pages s v) (hb : Below w.heap.size w w') : NewRes w0 w' pages s v := by
  obtain ⟨pp, pb, qb, rb, rfl, hP⟩ := h
  exact ⟨pp, pb, qb, rb, rfl, hP.grow hb⟩
theorem infoA : (Tryd.prog.info? 37).map (fun i => (i.zero, i.size, i.bytes)) = some (some (.pointer none), 1, 8) := by kernel_rfl
theorem infoM : (Tryd.prog.info? 40).map (fun i => (i.zero, i.size, i.bytes)) = some (some (.pointer none), 1, 8) := by kernel_rfl

theorem cell_new (w : World) (n : Nat) (v : Value) (t : TypeId) (hn : w.heap.size = n) : (w.alloc (.cells #[v] t)).cell? ⟨n, 0, none⟩ = some v := by
  subst hn
  exact (World.rowIs_alloc w #[v] t (fun _ => v) (fun i hi => by
    obtain rfl : i = 0 := by simpa using hi
    rfl)).cell (i := 0) (by simp)

def lenOf : Value → Nat
  | .slice _ n _ => n
  | _ => 0
theorem Own.none_ (w : World) : Own (w.alloc (.cells #[] 3)) w.heap.size w.heap.size 0 [] :=
  Own.mk _ (Nat.le_refl _) (Go.Deep.blk_alloc_new _ _) (by simp) (by unfold maxLen; omega) (by simp) (by simp [ints])
theorem want_app {wc wr w2 : World} {g cap n m q : Nat} {zs ms : List Int} {v : Value} (ho : Own wr wc.heap.size g cap zs) (hb : Below wc.heap.size wc wr) (hb2 : Below wr.heap.size wr w2) (hs : Sl w2 v ms) (hn : n = zs.length) (hm : m = (zs ++ ms).length) (hq : m ≤ 10000) (_hq : q = 0) (ty : TypeId) :
    ∃ v' w', (Builtin.append_ #[22, 22] ty #[.slice (some ⟨g, 0, none⟩) n cap, v]).run Tryd.prog w2 = .ok v' w' ∧ ((∃ g' cap', v' = .slice (some ⟨g', 0, none⟩) m cap' ∧ Own w' wc.heap.size g' cap' (zs ++ ms)) ∧ Below wc.heap.size wc w') := by
  subst hn
  rw [hm] at hq
  obtain ⟨v', w', hr, ⟨g', cap', hv, ho'⟩, hg⟩ := app_own ty (ho.below hb2) hs (by rw [List.length_append] at hq; omega) (Nat.le_trans hb.size hb2.size)
  obtain ⟨_, hge, _⟩ := ho.parts
  exact ⟨v', w', hr, ⟨g', cap', by rw [hv, hm], ho'⟩, (bel_trans hb hb2).grown hg (Nat.le_trans hb.size hb2.size) (fun k hk => by cases hk; exact hge)⟩

set_option maxHeartbeats 40000000 in
set_option maxRecDepth 10000 in
theorem plays_main (pg : Int) (vs : Value) (s : List Int) (oa : Option Addr) (len oc : Nat) (f : Nat → OpV) (w : World) (p : List Addr) (hs : Sl w vs s) (hsl : s.length ≤ 17592186044416) (ho : OpsAt w oa len f) (hp : Errs17 w p) :
    Calls Tryd.prog 3 #[.int .i64 pg, vs, .slice oa len oc] w fun e w' => e = .returned (.bool true) ∧ Below w.heap.size w w' := by
  obtain ⟨sa, m, sc, rfl, em⟩ := hs.slice
  have Em := hide em
  have Hs := hide hs
  have Ho := hide ho
  have hlen := ho.1
  have HN : Hid (∀ wr, Below w.heap.size w wr → Errs17 wr p) := fun wr hb => hp.below (Nat.le_refl _) hb
  have hml : m ≤ 17592186044416 := by omega
  clear em hs ho hsl
  go_enter Tryd.func3, Tryd.ntmps3
  go_wp2_with fail
  refine (alive_any _ p hp).mono ?_
  rintro e w0 ⟨rfl, b0⟩
  clear hp
  go_wp2_with fail
  refine (ints_any _ s _ (Hs.out.below (Nat.le_refl _) b0) (by have := Em.out; omega)).mono ?_
  rintro e w1 ⟨⟨g, rfl, ho1⟩, hb1⟩
  have b1 := bel_trans b0 hb1
  have HI := hide (And.intro (ints_sl ho1 Hs.out.fits (by have := Em.out; omega)) ho1)
  clear ho1 hb1 b0
  rw [← Em.out] at HI ⊢
  by_cases hM : MayI pg s
  · obtain ⟨pages, rfl, hM⟩ := hM
    have hp256 : pages ≤ 256 := hM.2.1
    have hp1 : 1 ≤ pages := hM.1
    have hm8 : m ≤ 8 := by have := hM.2.2.1; have := Em.out; omega
    have MM := hide hM
    clear hM hml
    go_wp2_with fail
    refine (new_ok pages s _ _ HI.out.1 MM.out).mono ?_
    rintro e w2 ⟨⟨x, rfl, hR⟩, hb2⟩
    have b2 := bel_trans b1 hb2
    have HR := hide (And.intro hR (And.intro b1 hb2))
    obtain ⟨pp, pb, qb, rb, rfl, hP⟩ := hR
    have HP := hide hP
    have HO := hide (HI.out.2.below hb2)
    clear hP hb2 b1 HI
    go_wp2_with fail
    refine (may_any _ s _ _ (Hs.out.below (Nat.le_refl _) b2)).mono ?_
    rintro e w3 ⟨⟨_, rfl⟩ | ⟨h, _⟩, rfl⟩
    · have hpp : ((pages : Int) != (pages : Int)) = false := by simp
      go_wp2_with fail
      refine (pages_any HP.out hp256).mono ?_
      rintro e w4 ⟨rfl, rfl⟩
      go_wp2_with fail
      have HK := hide (kept_any (.slice sa m sc) s g _ w2 (Hs.out.below (Nat.le_refl _) b2) (by rw [← Em.out]; exact HO.out) (by have := Em.out; omega))
      rw [← Em.out] at HK
      refine HK.out.mono ?_
      rintro e w5 ⟨rfl, hb5⟩
      obtain ⟨c, hcp, hcs, hx, hS⟩ := PS.start (HR.out.1.grow hb5) HR.out.2.1 (bel_trans HR.out.2.2 hb5) (by have := Em.out; omega)
      obtain rfl : pp = c.pp := by cases hx; rfl
      subst hcp hcs
      have Z0 := hide hS
      clear hx hS HK HR HP HO hb5 b2 hpp
      have Hsz : Hid (∀ j, j < m → 0 ≤ c.s.getD j 0 ∧ c.s.getD j 0 = (sh c.s j : Int) ∧ sh c.s j ≤ 256) := fun j hj => by
        have h := MM.out.2.2.2 j (by have := Em.out; omega)
        have h2 := MM.out.2.1
        unfold sh
        omega
      go_wp2_with fail
      go_loopw [10, 11, 71] (fun x y i wr => ∃ (k gl cl gq cq : Nat) (gm : Nat → Nat) (vv : Nat → Value) (H : Nat → List Rn), k ≤ m ∧ i = .int .i64 k ∧ x = .slice (some ⟨gl, 0, none⟩) k cl ∧ y = .slice (some ⟨gq, 0, none⟩) k cq ∧ Hid (PS w wr c gl cl gq cq k gm (fun _ _ => 0) (fun _ _ => 0) vv H)) (fun _ _ i _ => m - (intOf i).toNat)
      case atStart => exact ⟨0, _, _, _, _, _, _, _, Nat.zero_le _, rfl, rfl, by simp, Z0⟩
      case round =>
        obtain ⟨k, gl, cl, gq, cq, gm, vv, H, hk, rfl, rfl, rfl, Z⟩ := hrel
        clear Z0
        by_cases hkm : k < m
        · obtain ⟨b, off, rfl, _, hc0⟩ := (Hs.out.below (Nat.le_refl _) Z.out.bel).at k hkm
          obtain ⟨hz0, hz1, hz2⟩ := Hsz.out k hkm
          rw [hz1] at hc0
          have Hks : Hid (k < c.s.length) := by have := Em.out; show _ < _; omega
          have hL : (c.lay k).n = sh c.s k := rfl
          have AP1 : Hid (∀ ty, ∃ v' w', (Builtin.append_ #[35, 35] ty #[.slice (some ⟨gl, 0, none⟩) k cl, .slice (some ⟨wr.heap.size, 0, none⟩) 1 1]).run Tryd.prog (wr.alloc (.cells #[(c.lay k).ptr] 37)) = .ok v' w' ∧
              ((∃ g' cap', v' = .slice (some ⟨g', 0, none⟩) (k + 1) cap' ∧ OwnV 37 w' c.U g' cap' (c.ptrs k ++ [(c.lay k).ptr]) ∧ (g' = gl ∨ g' = (wr.alloc (.cells #[(c.lay k).ptr] 37)).heap.size)) ∧ Ef [gl] (wr.alloc (.cells #[(c.lay k).ptr] 37)) w')) := fun ty =>
            pushV Tryd.underlying35 infoA rfl (by decide) ty (Z.out.l.below (bel_new _ _)) (ptrs_len c k).symm (cell_new _ _ _ _ rfl) rfl (by omega) (Nat.le_trans Z.out.low.2.2 (bel_new _ _).size)
          have AP2 : Hid (∀ w2, Ef [gl] (wr.alloc (.cells #[(c.lay k).ptr] 37)) w2 → ∀ ty, ∃ v' w', (Builtin.append_ #[36, 36] ty #[.slice (some ⟨gq, 0, none⟩) k cq, .slice (some ⟨w2.heap.size + 1, 0, none⟩) 1 1]).run Tryd.prog ((w2.alloc (.cells #[.int .i64 (sh c.s k), .slice none 0 0] 43)).alloc (.cells #[.pointer (some ⟨w2.heap.size, 0, none⟩)] 40)) = .ok v' w' ∧
              ((∃ g' cap', v' = .slice (some ⟨g', 0, none⟩) (k + 1) cap' ∧ OwnV 40 w' c.U g' cap' (mods gm k ++ [.pointer (some ⟨w2.heap.size, 0, none⟩)]) ∧ (g' = gq ∨ g' = ((w2.alloc (.cells #[.int .i64 (sh c.s k), .slice none 0 0] 43)).alloc (.cells #[.pointer (some ⟨w2.heap.size, 0, none⟩)] 40)).heap.size)) ∧
                Ef [gq] ((w2.alloc (.cells #[.int .i64 (sh c.s k), .slice none 0 0] 43)).alloc (.cells #[.pointer (some ⟨w2.heap.size, 0, none⟩)] 40)) w')) := fun w2 e1 ty => by
            have hq := ((((Z.out.q.below (bel_new _ _)).ef e1 (by simp; exact fun e => Z.out.lq e.symm)).below (bel_new _ (.cells #[.int .i64 (sh c.s k), .slice none 0 0] 43))).below (bel_new _ (.cells #[.pointer (some ⟨w2.heap.size, 0, none⟩)] 40)))
            refine pushV Tryd.underlying36 infoM rfl (by decide) ty hq (mods_len gm k).symm (cell_new _ _ _ _ (by simp)) rfl (by omega) ?_
            have h1 := Z.out.low.2.2
            have h2 := e1.size
            simp at h2 ⊢
            omega
          have PU : Hid (∀ w2 w5 gl' cl' gq' cq', OwnV 37 w2 c.U gl' cl' (c.ptrs k ++ [(c.lay k).ptr]) → (gl' = gl ∨ gl' = (wr.alloc (.cells #[(c.lay k).ptr] 37)).heap.size) → Ef [gl] (wr.alloc (.cells #[(c.lay k).ptr] 37)) w2 →
              OwnV 40 w5 c.U gq' cq' (mods gm k ++ [.pointer (some ⟨w2.heap.size, 0, none⟩)]) → (gq' = gq ∨ gq' = ((w2.alloc (.cells #[.int .i64 (sh c.s k), .slice none 0 0] 43)).alloc (.cells #[.pointer (some ⟨w2.heap.size, 0, none⟩)] 40)).heap.size) →
              Ef [gq] ((w2.alloc (.cells #[.int .i64 (sh c.s k), .slice none 0 0] 43)).alloc (.cells #[.pointer (some ⟨w2.heap.size, 0, none⟩)] 40)) w5 → ∃ gm' vv' H', PS w w5 c gl' cl' gq' cq' (k + 1) gm' (fun _ _ => 0) (fun _ _ => 0) vv' H') :=
            fun w2 w5 gl' cl' gq' cq' a1 a2 a3 a4 a5 a6 => ⟨_, _, _, Z.out.push Hks.out hz2 a1 a2 a3 a4 a5 a6⟩
          have hnn : ((sh c.s k : Int) != (sh c.s k : Int)) = false := by simp
          go_wp2_with fail
          refine (arena_ok Z.out.is _ k rfl Hks.out Z.out.s8).mono ?_
          rintro e w6 ⟨rfl, rfl⟩
          go_wp2_with fail
          refine (share_any (c.lay k) _ _ _ (Z.out.is.ar k Hks.out)).mono ?_
          rintro e w7 ⟨rfl, rfl⟩
          rw [hL]
          clear Z hz0 hz1 hL
          go_wp2_with (first
            | (at_builtin; refine wpList_appV (TS := 35) rfl (.tmp 94) (.tmp 96) rfl _ _ rfl rfl _ (AP1.out _) ?_; rintro v1 w8 ⟨⟨gl', cl', rfl, ol, hgl⟩, e1⟩)
            | (at_builtin; refine wpList_appV (TS := 36) rfl (.tmp 98) (.tmp 102) rfl _ _ rfl rfl _ (AP2.out _ e1 _) ?_; rintro v2 w9 ⟨⟨gq', cq', rfl, oq, hgq⟩, e2⟩))
          obtain ⟨gm', vv', H', hZ⟩ := PU.out _ _ _ _ _ _ ol hgl e1 oq hgq e2
          have Z2 := hide hZ
          clear hZ ol hgl e1 oq hgq e2 AP1 AP2 PU
          go_roundw
          case rel => exact ⟨k + 1, _, _, _, _, _, _, _, by omega, by go_num, rfl, rfl, Z2⟩
          case measure => simp [intOf]; omega
        · obtain rfl : k = m := by omega
          have Hk : Hid (k = c.s.length) := Em.out
          have hne : ((0 : Int) + 1 != 1) = false := by decide
          go_wp2_with fail
          refine (arena_bad Z.out.is _ p (HN.out _ Z.out.bel) (.inr (by have := Hk.out; omega)) Z.out.s8).mono ?_
          rintro e w6 ⟨rfl, n6, rfl⟩
          have Z1 := hide (Z.out.below (below_drewN (Below.refl _ _) n6))
          clear Z
          go_wp2_with fail
          refine (num_err p 0 _ (HN.out _ Z1.out.bel) (by omega)).mono ?_
          rintro e w7 ⟨rfl, hb7⟩
          have Z2 := hide (Z1.out.below hb7)
          clear Z1 hb7
          go_wp2_with fail
          refine (arena_bad Z2.out.is _ p (HN.out _ Z2.out.bel) (.inl (by omega)) Z2.out.s8).mono ?_
          rintro e w8 ⟨rfl, n8, rfl⟩
          have Z3 := hide (Z2.out.below (below_drewN (Below.refl _ _) n8))
          clear Z2
          go_wp2_with fail
          refine (num_err p 0 _ (HN.out _ Z3.out.bel) (by omega)).mono ?_
          rintro e w9 ⟨rfl, hb9⟩
          have Z4 := hide (Z3.out.below hb9)
          clear Z3 hb9
          go_upto_block 2 with fail
          go_cut [10] from 125 to 199 (fun x wc => ∃ (R V : Nat → Nat → Int) (vv : Nat → Value) (H : Nat → List Rn), x = .slice (some ⟨gl, 0, none⟩) k cl ∧ Hid (PS w wc c gl cl gq cq k gm R V vv H))
          case first =>
            go_wp2_with fail
            go_loopw [125] (fun i wr => ∃ (n : Nat) (R V : Nat → Nat → Int) (vv : Nat → Value) (H : Nat → List Rn), n ≤ len ∧ i = .int .i64 n ∧ Hid (PS w wr c gl cl gq cq k gm R V vv H)) (fun i _ => len - (intOf i).toNat)
            case atStart => exact ⟨0, _, _, _, _, Nat.zero_le _, rfl, Z4⟩
            case round =>
              obtain ⟨n, R, V, vv, H, hn, rfl, Z⟩ := hrel
              clear Z4
              obtain ⟨wo, rfl⟩ : ∃ wo, wo = wr := ⟨wr, rfl⟩
              by_cases hnl : n < len
              · obtain ⟨hfit, b, off, rfl, hlt, c0, c1, c2, c3⟩ := (Ho.out.below Z.out.bel).2 n hnl
                generalize f n = o at hfit c0 c1 c2 c3
                obtain ⟨K, ar, at_, z⟩ := o
                simp only at c0 c1 c2 c3
                obtain ⟨_, _, _, hv1, hv2⟩ := hfit
                simp only at hv1 hv2
                have Hfz : Hid (fit z) := ⟨hv1, hv2⟩
                clear hv1 hv2
                have PM := hide (PO.make Z.out K ar at_ z)
                have HU : Hid (c.U ≤ wo.heap.size) := Z.out.low.2.2
                clear Z
                by_cases hn150 : n ≤ 150
                · by_cases hk0 : k = 0
                  · subst hk0
                    go_wp2_with fail
                    go_meet
                    case rel => exact ⟨_, _, _, _, rfl, PM.out.1.ps⟩
                  · have hne0 : ((k : Int) == 0) = false := by rw [beq_eq_false_iff_ne]; omega
                    have hwm : IntKind.u64.wrap (k : Int) = (k : Int) := by
                      show (k : Int) % _ = _
                      have e : ((2 : Int) ^ IntKind.u64.bits) = 18446744073709551616 := by decide
                      exact Int.emod_eq_of_lt (by omega) (by rw [e]; omega)
                    obtain ⟨ja, hja, hjm⟩ := umod ar k (by omega)
                    obtain ⟨hcl, hclm⟩ := PM.out.1.ps.l.room
                    obtain ⟨hcq, hcqm⟩ := PM.out.1.ps.q.room
                    rw [ptrs_len] at hcl
                    rw [mods_len] at hcq
                    have s1 := PM.out.1.sc hjm
                    have DO := hide (fun wi (hb : Below (wo.alloc (opCells K ar at_ z)).heap.size (wo.alloc (opCells K ar at_ z)) wi) => (PM.out.1.below hb).do_ hjm PM.out.2 HU.out p HN.out Hfz.out)
                    clear PM HU Hfz
                    go_upto_region 30 with fail
                    clear c0 c1 c2 c3
                    go_cut [168] from 145 to 168 (fun x wc => x = .bool false ∧ ∃ (R V : Nat → Nat → Int) (vv : Nat → Value) (H : Nat → List Rn), Hid (PO w wc c gl cl gq cq k gm wo.heap.size K ar at_ z R V vv H))
                    case first =>
                      go_region_held3 (fun w' => w'.cell? ⟨gl, ja, none⟩ = some (c.lay ja).ptr ∧ w'.cell? ⟨gq, ja, none⟩ = some (.pointer (some ⟨gm ja, 0, none⟩)) ∧ w'.cell? ⟨wo.heap.size, 0, none⟩ = some (.int .i64 K) ∧ w'.cell? ⟨wo.heap.size, 1, none⟩ = some (.int .i64 ar) ∧ w'.cell? ⟨wo.heap.size, 2, none⟩ = some (.int .i64 at_) ∧ w'.cell? ⟨wo.heap.size, 3, none⟩ = some (.int .i64 z)) (first | assumption)
                        (first
                          | (go_at_call 13; refine (DO.out _ ((Below.refl _ _).drew)).mono ?_; rintro e wd ⟨rfl, R', V', vv', H', Zd⟩; obtain ⟨u, hu, U1, U2⟩ := Zd.used hjm; have hud : ((u : Int) != (u : Int)) = false := (by simp); have sd := Zd.sc hjm)
                          | (go_at_call 14; refine (U1 _ (by first | exact Zm | exact Zd)).mono ?_; rintro e wa ⟨rfl, Za⟩; have sA := Za.sc hjm)
                          | (go_at_call 15; refine (U2 _ (by first | exact Za | exact Zd)).mono ?_; rintro e wm ⟨rfl, Zm⟩; have sM := Zm.sc hjm))
                      all_goals
                        go_wp2_with fail
                        go_meet
                        case rel => exact ⟨by simp, _, _, _, _, by first | exact Zm | exact Za⟩
                    case rest =>
                      obtain ⟨rfl, R1, V1, vv1, H1, Zc⟩ := hcut
                      clear s1 DO
                      have s2 := Zc.out.sc hjm
                      go_wp2_with fail
                      go_region_held3 (fun w' => w'.cell? ⟨gl, ja, none⟩ = some (c.lay ja).ptr ∧ w'.cell? ⟨gq, ja, none⟩ = some (.pointer (some ⟨gm ja, 0, none⟩)) ∧ w'.cell? ⟨wo.heap.size, 0, none⟩ = some (.int .i64 K) ∧ w'.cell? ⟨wo.heap.size, 1, none⟩ = some (.int .i64 ar) ∧ w'.cell? ⟨wo.heap.size, 2, none⟩ = some (.int .i64 at_) ∧ w'.cell? ⟨wo.heap.size, 3, none⟩ = some (.int .i64 z)) (first | assumption)
                        (first
                          | (go_at_call 16; refine ((Zc.out.below ((Below.refl _ _).drew)).find hjm).mono ?_; rintro e wf ⟨Zf, i, y, rfl, SZ, hcase⟩; have sf := Zf.sc hjm))
                      have ZF := hide Zf
                      have HSZ := hide SZ
                      clear Zc s2 Zf SZ
                      rcases hcase with ⟨rfl, rfl⟩ | ⟨nn, x, bb, cap, rfl, h1, h2, rfl, h3, h4, h5, hvv, hcells⟩
                      · go_wp2_with fail
                        go_region_held3 (fun w' => w'.cell? ⟨gl, ja, none⟩ = some (c.lay ja).ptr ∧ w'.cell? ⟨gq, ja, none⟩ = some (.pointer (some ⟨gm ja, 0, none⟩)) ∧ w'.cell? ⟨wo.heap.size, 0, none⟩ = some (.int .i64 K) ∧ w'.cell? ⟨wo.heap.size, 1, none⟩ = some (.int .i64 ar) ∧ w'.cell? ⟨wo.heap.size, 2, none⟩ = some (.int .i64 at_) ∧ w'.cell? ⟨wo.heap.size, 3, none⟩ = some (.int .i64 z)) (first | assumption)
                          (first
                            | (go_at_call 17; refine (HSZ.out _ (ZF.out.below ((Below.refl _ _).drew))).mono ?_; rintro e wg ⟨rfl, Zg⟩; have sg := Zg.sc hjm))
                        have ZG := hide Zg.ps
                        clear ZF HSZ Zg sf sg
                        go_wp2_with fail
                        go_roundw
                        case rel => exact ⟨n + 1, _, _, _, _, by omega, by go_num, ZG⟩
                        case measure => simp [intOf]; omega
                      · obtain ⟨k1, k2⟩ := hcells _ ZF.out
                        obtain ⟨f1, f2, f3, f4, f5, f6⟩ := sf
                        have hd0 : decide ((nn : Int) < 0) = false := decide_eq_false (by omega)
                        have hd1 : decide (0 ≤ (nn : Int)) = true := decide_eq_true (by omega)
                        have hyx : ((x.c : Int) * 16 != 16 * (x.c : Int)) = false := by rw [bne_eq_false_iff_eq]; omega
                        have s3 : SC gl gq wo.heap.size ja (c.lay ja).ptr (.pointer (some ⟨gm ja, 0, none⟩)) K ar at_ z wf := ⟨f1, f2, f3, f4, f5, f6⟩
                        clear hcells hvv
                        generalize (H1 ja).length = ln at *
                        go_wp2_with fail
                        clear k1 k2 f1 f2 f3 f4 f5 f6
                        go_region_held3 (fun w' => w'.cell? ⟨gl, ja, none⟩ = some (c.lay ja).ptr ∧ w'.cell? ⟨gq, ja, none⟩ = some (.pointer (some ⟨gm ja, 0, none⟩)) ∧ w'.cell? ⟨wo.heap.size, 0, none⟩ = some (.int .i64 K) ∧ w'.cell? ⟨wo.heap.size, 1, none⟩ = some (.int .i64 ar) ∧ w'.cell? ⟨wo.heap.size, 2, none⟩ = some (.int .i64 at_) ∧ w'.cell? ⟨wo.heap.size, 3, none⟩ = some (.int .i64 z)) (first | assumption)
                          (first
                            | (go_at_call 17; refine (HSZ.out _ (ZF.out.below ((Below.refl _ _).drew))).mono ?_; rintro e wg ⟨rfl, Zg⟩; have sg := Zg.sc hjm))
                        have ZG := hide Zg.ps
                        clear ZF HSZ Zg s3 sg
                        go_wp2_with fail
                        go_roundw
                        case rel => exact ⟨n + 1, _, _, _, _, by omega, by go_num, ZG⟩
                        case measure => simp [intOf]; omega
                · have hd2 : decide ((150 : Int) < (n : Int)) = true := decide_eq_true (by omega)
                  go_wp2_with fail
                  go_meet
                  case rel => exact ⟨_, _, _, _, rfl, PM.out.1.ps⟩
              · obtain rfl : n = len := by omega
                go_wp2_with fail
                go_meet
                case rel => exact ⟨_, _, _, _, rfl, Z⟩
          case rest =>
            obtain ⟨R, V, vv, H, rfl, Z⟩ := hcut
            clear Z4
            have hpl : 16 * pre c.s k ≤ 16 * c.pages := by have := Z.out.is.le; rw [← Hk.out] at this; omega
            have O0 := hide (And.intro (Own.none_ wc) (bel_new wc (.cells #[] 3)))
            have Hmono : Hid (∀ t, t ≤ k → pre c.s t ≤ pre c.s k) := fun t ht => pre_mono c.s ht
            go_wp2_with fail
            go_loopw [25, 203] (fun x i wr => ∃ t g cap : Nat, t ≤ k ∧ i = .int .i64 t ∧ x = .slice (some ⟨g, 0, none⟩) (16 * pre c.s t) cap ∧ Hid (Own wr wc.heap.size g cap (c.words V (16 * pre c.s t)) ∧ Below wc.heap.size wc wr)) (fun _ i _ => k - (intOf i).toNat)
            case atStart => exact ⟨0, _, _, Nat.zero_le _, rfl, rfl, O0⟩
            case round =>
              obtain ⟨t, gw, cw, ht, rfl, rfl, I⟩ := hrel
              clear O0
              by_cases htk : t < k
              · have hq := (Z.out.below I.out.2).qcell htk
                have hm1 := Hmono.out (t + 1) (by omega)
                have HD := hide ((Z.out.below I.out.2).rdump htk)
                obtain ⟨hcq, hcqm⟩ := Z.out.q.room
                rw [mods_len] at hcq
                go_wp2_with fail
                refine HD.out.mono ?_
                rintro e w2 ⟨rfl, hS, hb2⟩
                have AP : Hid (∀ ty, ∃ v' w', (Builtin.append_ #[22, 22] ty #[.slice (some ⟨gw, 0, none⟩) (16 * pre c.s t) cw, .slice (some ⟨wr.heap.size, 0, none⟩) (16 * sh c.s t) (16 * sh c.s t)]).run Tryd.prog w2 = .ok v' w' ∧ ((∃ g' cap', v' = .slice (some ⟨g', 0, none⟩) (16 * pre c.s (t + 1)) cap' ∧ Own w' wc.heap.size g' cap' (c.words V (16 * pre c.s (t + 1)))) ∧ Below wc.heap.size wc w')) := fun ty => by
                  have h := want_app (m := 16 * pre c.s (t + 1)) (q := 0) I.out.1 I.out.2 hb2 hS (words_len c V _).symm (by rw [words_app c V t (by have := Hk.out; omega), words_len]) (by omega) rfl ty
                  rw [words_app c V t (by have := Hk.out; omega)] at h
                  exact h
                clear hS hb2 HD hq
                go_wp2_with (at_builtin; refine wpList_app rfl (.tmp 207) (.tmp 209) rfl _ _ rfl rfl _ (AP.out _) ?_; rintro v1 w9 ⟨⟨g', cap', rfl, ho9⟩, hb9⟩)
                have J := hide (And.intro ho9 hb9)
                clear ho9 hb9 AP
                go_roundw
                case rel => exact ⟨t + 1, _, _, by omega, by go_num, rfl, J⟩
                case measure => simp [intOf]; omega
              · obtain rfl : t = k := by omega
                go_wp2_with fail
                go_loopw [25] (fun x wr => ∃ n g cap : Nat, 16 * pre c.s t ≤ n ∧ n ≤ 16 * c.pages ∧ x = .slice (some ⟨g, 0, none⟩) n cap ∧ Hid (Own wr wc.heap.size g cap (c.words V n) ∧ Below wc.heap.size wc wr)) (fun x _ => 16 * c.pages - lenOf x)
                case atStart => exact ⟨_, _, _, Nat.le_refl _, hpl, rfl, I⟩
                case round =>
                  obtain ⟨n, gx, cx, hn1, hn2, rfl, J⟩ := hrel
                  clear I
                  by_cases hnp : n < 16 * c.pages
                  · have hd : decide ((n : Int) < 16 * (c.pages : Int)) = true := decide_eq_true (by omega)
                    have AP : Hid (∀ ty, ∃ v' w', (Builtin.append_ #[22, 22] ty #[.slice (some ⟨gx, 0, none⟩) n cx, .slice (some ⟨wr.heap.size, 0, none⟩) 1 1]).run Tryd.prog (wr.alloc (.cells #[.int .i64 0] 3)) = .ok v' w' ∧ ((∃ g' cap', v' = .slice (some ⟨g', 0, none⟩) (n + 1) cap' ∧ Own w' wc.heap.size g' cap' (c.words V (n + 1))) ∧ Below wc.heap.size wc w')) := fun ty => by
                      have h := want_app (m := n + 1) (q := 0) J.out.1 J.out.2 (bel_new wr (.cells #[.int .i64 0] 3)) (Sl.built (w := wr) [0] (fun z hz => by simp at hz; omega) (by simp)) (words_len c V _).symm (by simp [words_len]) (by omega) rfl ty
                      rw [words_zero c V n (by have := Hk.out; rw [← this]; exact hn1)] at h
                      exact h
                    go_wp2_with (at_builtin; refine wpList_app rfl (.tmp 217) (.tmp 218) rfl _ _ rfl rfl _ (AP.out _) ?_; rintro v1 w9 ⟨⟨g', cap', rfl, ho9⟩, hb9⟩)
                    have J2 := hide (And.intro ho9 hb9)
                    clear ho9 hb9 AP
                    go_roundw
                    case rel => exact ⟨n + 1, _, _, by omega, by omega, by rfl, J2⟩
                    case measure => simp [lenOf]; omega
                  · obtain rfl : n = 16 * c.pages := by omega
                    have hd : decide (((16 * c.pages : Nat) : Int) < 16 * (c.pages : Int)) = false := decide_eq_false (by omega)
                    have HD := hide ((Z.out.below J.out.2).dump hp256)
                    have hw2 := J.out.1.sl (words_fits c Z.out.fits _)
                    rw [words_len] at hw2
                    have HW := hide hw2
                    have HB := hide (bel_trans Z.out.bel J.out.2)
                    have HT : Hid (sameB (c.words V (16 * c.pages)) (c.words V (16 * c.pages)) = true) := by simp [Hid, sameB]
                    clear hw2
                    go_wp2_with fail
                    refine HD.out.mono ?_
                    rintro e w2 ⟨⟨g2, rfl, hS2⟩, hb2⟩
                    have HSI := sameInts_any _ _ _ _ _ hS2 (HW.out.below (Nat.le_refl _) hb2)
                    rw [HT.out] at HSI
                    have HS3 := hide HSI
                    have HB2 := hide (bel_trans HB.out hb2)
                    clear HSI hS2 hb2 HD HW
                    go_wp2_with fail
                    refine HS3.out.mono ?_
                    rintro e w3 ⟨rfl, hb3⟩
                    have HB3 := hide (bel_trans HB2.out hb3)
                    clear hb3 HS3
                    go_wp2_with fail
                    go_ret
                    exact ⟨rfl, HB3.out⟩
    · exact absurd ⟨pages, rfl, MM.out⟩ h
  · have Hb := hide hM
    clear hM
    go_wp2_with fail
    refine (new_bad pg s _ _ p HI.out.1 (HN.out _ b1) Hb.out).mono ?_
    rintro e w2 ⟨rfl, hb2⟩
    have b2 := bel_trans b1 hb2
    clear hb2
    go_wp2_with fail
    refine (may_any pg s _ _ (Hs.out.below (Nat.le_refl _) b2)).mono ?_
    rintro e w3 ⟨⟨h, _⟩ | ⟨_, rfl⟩, rfl⟩
    · exact absurd h Hb.out
    · go_wp2_with fail
      refine (num_err p 0 _ (HN.out _ b2) (by omega)).mono ?_
      rintro e w4 ⟨rfl, hb4⟩
      have HB := hide (bel_trans b2 hb4)
      clear hb4 b1 b2
      go_wp2_with fail
      go_ret
      exact ⟨rfl, HB.out⟩

theorem poolPlays_walk {W : World} {pg : Int} {a1 a2 : Option Addr} {len1 cap1 len2 cap2 : Nat} {s : List Int} {f : Nat → OpV} (_w : (Lit.int .i64 pg).wf = true) (s1 : Sl W (.slice a1 len1 cap1) s) (hl : len1 ≤ 17592186044416) (s2 : OpsAt W a2 len2 f) (hL : laidMetH Tryd.prog laid17 W) :
    Calls Tryd.prog 3 #[.int .i64 pg, .slice a1 len1 cap1, .slice a2 len2 cap2] W fun e w' => e = .returned (.bool true) ∧ Below W.heap.size W w' := by
  obtain ⟨p, hp⟩ := errs17_of_laid hL
  exact plays_main pg _ s a2 len2 cap2 f W p s1 (by rw [← s1.len]; exact hl) s2 hp

end Go.Proofs.YtndhgdjcbegjdaaDoor.Ck
