/- Texts of this proof, packed: contracts of the program's functions, and the plain model that they are held against. -/
import Derived.Test.YtbiilnpblnjliaaDoorQaz
import Derived.Test.YtbiilnpblnjliaaDoorQax
import Derived.Test.YtbiilnpblnjliaaDoorQaa
import Derived.WalkKit
import Derived.ProofKit
import Derived.OpenShut
import Derived.ChangeOld
import Derived.Below
/- The walk of the statement ActPicks. (Written by mk_a.py.) -/
namespace Go.Proofs.YtbiilnpblnjliaaDoor.Ck
open Go.RowKit

theorem mod_nat2 (n m : Nat) : (n : Int).tmod (m : Int) = ((n % m : Nat) : Int) := by
  rw [Int.tmod_eq_emod_of_nonneg (by omega)]
  rfl
theorem own_ints {w : World} {B g cap : Nat} {zs : List Int} (h : Own w B g cap zs) : w.ownsRow 0 3 1 (.slice (some ⟨g, 0, none⟩) zs.length cap) zs.length (nts zs) := own_zero h
theorem times_small (y : Int) : ∃ m : Nat, m < 250 ∧ wrap64 ((IntKind.u64.wrap y).tmod 250) = m := by
  have e : IntKind.u64.wrap y = y % 18446744073709551616 := rfl
  have e2 : (IntKind.u64.wrap y).tmod 250 = (y % 18446744073709551616) % 250 := by rw [e]; exact Int.tmod_eq_emod_of_nonneg (by omega)
  rw [e2]
  have h2 : 0 ≤ (y % 18446744073709551616) % 250 := Int.emod_nonneg _ (by omega)
  have h3 : (y % 18446744073709551616) % 250 < 250 := Int.emod_lt_of_pos _ (by omega)
  obtain ⟨m, hm⟩ := Int.eq_ofNat_of_zero_le h2
  refine ⟨m, by omega, ?_⟩
  rw [hm]
  unfold wrap64
  omega
theorem pick_turn (l : List Int) (i : Nat) : (pickR l (i % l.length)).1 = (if 0 < l.length then l.getD (i % l.length) 0 else 0) ∧ (0 < l.length → (pickR l (i % l.length)).2 = (i + 1) % l.length) := by
  by_cases h : 0 < l.length
  · have hm : i % l.length < l.length := Nat.mod_lt _ h
    unfold pickR
    rw [List.getElem?_eq_getElem hm, if_pos h]
    refine ⟨?_, fun _ => ?_⟩
    · simp [List.getD, hm]
    · simp
  · have hl : l = [] := List.length_eq_zero_iff.1 (by omega)
    subst hl
    exact ⟨rfl, fun h => absurd h (by simp)⟩
set_option maxRecDepth 20000 in
set_option maxHeartbeats 3000000 in
theorem picks_main (vS : Value) (zs : List Int) (nn times : Int) {w : World} {p : List Addr} (h17 : E3 w p) (hS : Sl w vS zs) : Calls Tryd.prog 6 #[vS, .int .i64 nn, .int .i64 times] w (Vb w (.bool true)) := by
  have AL := hide (alive12 h17)
  have HS := hide hS
  obtain ⟨aS, n, cS, rfl, hn⟩ := hS.slice
  have HN := hide hn
  clear h17 hn hS
  go_enter Tryd.func6, Tryd.ntmps6
  go_wp2_with fail
  refine AL.out.mono ?_
  rintro e w1 ⟨rfl, hb1⟩
  have B1 := hide hb1
  clear hb1 AL
  by_cases h1 : 100 < n
  · have h1' : (100 : Int) < (n : Int) := by omega
    go_wp2_with fail
    go_ret
    exact Vb.mk rfl B1.out
  have h1' : (n : Int) ≤ 100 := by omega
  have hn100 : n ≤ 100 := by omega
  have hd100 : decide ((100 : Int) < (n : Int)) = false := by simp; omega
  have IN := hide (ints_any _ zs w1 (HS.out.below (Nat.le_refl _) B1.out) (by have := HN.out; omega))
  go_wp2_with fail
  refine IN.out.mono ?_
  rintro e w2 ⟨⟨gi, rfl, oi⟩, hb2⟩
  rw [← HN.out] at oi ⊢
  have OI : Hid (w2.ownsRow w1.heap.size 3 1 (.slice (some ⟨gi, 0, none⟩) (zs ++ marks).length (n + 4)) (zs ++ marks).length (nts (zs ++ marks))) := hide oi
  have B2 := hide (bel_trans B1.out hb2)
  have SI : Hid (Sl w2 (.slice (some ⟨gi, 0, none⟩) n (n + 4)) zs) := hide (by
    refine ⟨HS.out.fits, some ⟨gi, 0, none⟩, n + 4, by rw [HN.out], by rw [← HN.out]; omega, by unfold maxLen; omega, fun i hi => ⟨gi, 0, rfl, (own_type OI.out (k := gi) rfl).2.1, ?_⟩⟩
    rw [Nat.zero_add]
    exact (own_cell OI.out i _ (nts_at (by rw [List.getElem?_append_left hi]; simp [List.getD, hi]))).1)
  clear oi hb2 IN
  have LI := hide (listed_any SI.out (by rw [← HN.out]; omega))
  go_wp2_with fail
  refine LI.out.mono ?_
  rintro e w3 ⟨vP, F, rfl, pk, hF, hb3⟩
  have P3 : Hid (Pks w3 F vP zs 0 ∧ (∀ k, F k → w2.heap.size ≤ k) ∧ Below w.heap.size w w3) := hide ⟨pk, hF, bel_trans B2.out hb3⟩
  have HG : Hid (w.heap.size ≤ gi ∧ gi < w2.heap.size) := hide ⟨Nat.le_trans B1.out.size (own_type OI.out (k := gi) rfl).1, (own_type OI.out (k := gi) rfl).2.1⟩
  obtain ⟨ob, nb, ev⟩ := pk.func
  subst ev
  have I3 : Hid (∃ ys : List Int, ys.length = n + 4 ∧ w3.ownsRow 0 3 1 (.slice (some ⟨gi, 0, none⟩) (n + 4) (n + 4)) (n + 4) (nts ys)) := hide ⟨zs ++ marks, by rw [List.length_append, ← HN.out]; rfl, by
    have e : (zs ++ marks).length = n + 4 := by rw [List.length_append, ← HN.out]; rfl
    have := OI.out
    rw [e] at this
    exact own_keep (own_zero this) (fun k hk => hb3.block k (own_type this hk).2.1)⟩
  clear pk hF hb3 LI SI OI B2 B1
  go_wp2_with fail
  go_loopw [9, 23] (fun x9 i wr => ∃ (k : Nat), k ≤ n ∧ i = .int .i64 k ∧ Hid ((∃ ys : List Int, ys.length = n + 4 ∧ wr.ownsRow 0 3 1 (.slice (some ⟨gi, 0, none⟩) (n + 4) (n + 4)) (n + 4) (nts ys)) ∧ Pks wr F (.func (.func 73) #[] #[.pointer (some ⟨ob, 0, none⟩), .pointer (some ⟨nb, 0, none⟩)]) zs 0 ∧ Below w.heap.size w wr)) (fun x9 i _ => n - (intOf i).toNat)
  case atStart => exact ⟨0, Nat.zero_le _, rfl, hide ⟨I3.out, P3.out.1, P3.out.2.2⟩⟩
  case round =>
    obtain ⟨k, hk, rfl, HI⟩ := hrel
    by_cases hlt : k < n
    · have hlt' : (k : Int) < (n : Int) := by omega
      obtain ⟨⟨ys, hys, oy⟩, pk, hbw⟩ := HI.out
      obtain ⟨y, hy⟩ : ∃ y, ys[k]? = some y := ⟨_, List.getElem?_eq_getElem (by omega)⟩
      obtain ⟨d1, d2⟩ := own_cell oy k _ (nts_at hy)
      have hgl := (own_type oy (k := gi) rfl).2.1
      have HP := hide (And.intro hys (And.intro oy (And.intro pk hbw)))
      clear oy pk hbw hy hys
      go_wp2_with fail
      go_roundw
      case rel =>
        obtain ⟨hys, oy, pk, hbw⟩ := HP.out
        refine ⟨k + 1, by omega, by go_num, hide ⟨⟨ys.set k (wrap64 (y + 1)), by simpa using hys, ?_⟩, pk.keep (fun q hq => Below.heap_setCell _ _ _ _ (fun e => by have h1 := P3.out.2.1 q hq; have h2 := HG.out.2; have e' : q = gi := e; omega)) (by rw [size_setCell]; exact Nat.le_refl _), hbw.setCell (p := ⟨gi, k, none⟩) HG.out.1 _⟩⟩
        have := own_set oy k (.int .i64 (wrap64 (y + 1)))
        unfold nts at this ⊢
        rw [List.map_set]
        exact this
      case measure => simp [intOf]; omega
    · have ek : k = n := by omega
      subst ek
      obtain ⟨tm, htm, etm⟩ := times_small times
      have etm' : wrap64 ((IntKind.u64.wrap times).tmod 250) = (tm : Int) := etm
      have P4 := hide HI.out.2
      clear HI I3 etm
      by_cases h0 : k = 0
      · subst h0
        have hz : zs = [] := List.length_eq_zero_iff.1 HN.out.symm
        subst hz
        go_wp2_with fail
        rw [etm']
        simp only [Nat.zero_add, show ((0 : Nat) : Int) = 0 from rfl]
        go_loopw [10, 11, 37] (fun x10 x11 i wr => ∃ (j : Nat), j ≤ tm ∧ i = .int .i64 j ∧ Hid (Pks wr F (.func (.func 73) #[] #[.pointer (some ⟨ob, 0, none⟩), .pointer (some ⟨nb, 0, none⟩)]) [] 0 ∧ Below w.heap.size w wr)) (fun x10 x11 i _ => tm - (intOf i).toNat)
        case atStart => exact ⟨0, Nat.zero_le _, rfl, P4⟩
        case round =>
          obtain ⟨j, hj, rfl, HJ⟩ := hrel
          by_cases hjt : j < tm
          · have hjt' : (j : Int) < (tm : Int) := by omega
            go_wp2_with fail
            refine (pick_any HJ.out.1 _).mono ?_
            rintro e w9 ⟨rfl, pk, ch⟩
            have HJ2 : Hid (Pks w9 F (.func (.func 73) #[] #[.pointer (some ⟨ob, 0, none⟩), .pointer (some ⟨nb, 0, none⟩)]) [] 0 ∧ Below w.heap.size w w9) := hide ⟨pk, HJ.out.2.trans (ch.bel (fun q hq => Nat.le_trans (Nat.le_trans HG.out.1 (Nat.le_of_lt HG.out.2)) (P3.out.2.1 q hq)) HJ.out.2.size)⟩
            clear pk ch
            rw [show (pickR [] 0).1 = 0 from rfl]
            go_wp2_with fail
            go_roundw
            case rel => exact ⟨j + 1, by omega, by go_num, HJ2⟩
            case measure => simp [intOf]; omega
          · have ej : j = tm := by omega
            subst ej
            go_wp2_with fail
            go_ret
            exact Vb.mk rfl HJ.out.2
      · have hkp : 0 < k := by omega
        have hkp' : (0 : Int) < (k : Int) := by omega
        have hkb : ((k : Int) == 0) = false := by simp; omega
        go_wp2_with fail
        rw [etm']
        go_loopw [10, 11, 37] (fun x10 x11 i wr => ∃ (j : Nat), j ≤ tm ∧ i = .int .i64 j ∧ Hid (Pks wr F (.func (.func 73) #[] #[.pointer (some ⟨ob, 0, none⟩), .pointer (some ⟨nb, 0, none⟩)]) zs (j % k) ∧ Below w.heap.size w wr)) (fun x10 x11 i _ => tm - (intOf i).toNat)
        case atStart => exact ⟨0, Nat.zero_le _, rfl, hide (by rw [Nat.zero_mod]; exact P4.out)⟩
        case round =>
          obtain ⟨j, hj, rfl, HJ⟩ := hrel
          by_cases hjt : j < tm
          · have hjt' : (j : Int) < (tm : Int) := by omega
            have hmd := mod_nat2 j k
            have hql : j % k < k := Nat.mod_lt _ hkp
            have HS2 := HS.out.below (Nat.le_refl _) HJ.out.2
            obtain ⟨b, o, rfl, hbl, hc⟩ := HS2.at (j % k) hql
            have PT := pick_turn zs (j)
            rw [← HN.out, if_pos hkp] at PT
            have HPT := hide (And.intro PT.1 (PT.2 hkp))
            have PK := hide (fun m => pick_any HJ.out.1 m)
            obtain ⟨q, hq⟩ : ∃ q, j % k = q := ⟨_, rfl⟩
            rw [hq] at hmd hql hc HPT PK
            have hql' : (q : Int) < (k : Int) := by omega
            obtain ⟨xv, hxv⟩ : ∃ xv, zs.getD q 0 = xv := ⟨_, rfl⟩
            rw [hxv] at hc HPT
            clear PT HS2 hq hxv
            go_wp2_with fail
            refine (PK.out _).mono ?_
            rintro e w9 ⟨rfl, pk, ch⟩
            rw [HPT.out.2] at pk
            have HJ2 : Hid (Pks w9 F (.func (.func 73) #[] #[.pointer (some ⟨ob, 0, none⟩), .pointer (some ⟨nb, 0, none⟩)]) zs ((j + 1) % k) ∧ Below w.heap.size w w9) := hide ⟨pk, HJ.out.2.trans (ch.bel (fun q hq => Nat.le_trans (Nat.le_trans HG.out.1 (Nat.le_of_lt HG.out.2)) (P3.out.2.1 q hq)) HJ.out.2.size)⟩
            rw [HPT.out.1]
            clear pk ch PK HPT
            go_wp2_with fail
            go_roundw
            case rel => exact ⟨j + 1, by omega, by go_num, HJ2⟩
            case measure => simp [intOf]; omega
          · have ej : j = tm := by omega
            subst ej
            go_wp2_with fail
            go_ret
            exact Vb.mk rfl HJ.out.2
end Go.Proofs.YtbiilnpblnjliaaDoor.Ck

/- What the row's list of three errors gives; and a world that meets the list. -/
namespace Go.Proofs.YtbiilnpblnjliaaDoor.Ck
open Go.ChangeShapes Go.WideShapes Go.RowKit

def laid3 : List (String × DataW Unit) := [("stockade/api.ErrRange", Rows.laid_stockade_api_ErrRange), ("stockade/api.ErrType", Rows.laid_stockade_api_ErrType), ("stockade/api.ErrState", Rows.laid_stockade_api_ErrState)]
def l3 : List (String × List UInt8) := [("stockade/api.ErrRange", [115, 116, 111, 99, 107, 97, 100, 101, 58, 32, 114, 97, 110, 103, 101]), ("stockade/api.ErrType", [115, 116, 111, 99, 107, 97, 100, 101, 58, 32, 116, 121, 112, 101]), ("stockade/api.ErrState", [115, 116, 111, 99, 107, 97, 100, 101, 58, 32, 115, 116, 97, 116, 101])]
theorem laid3_eq : laid3 = l3.map fun x => (x.1, sentD x.2) := rfl
theorem named3 : ((List.range 3).all fun i => Tryd.prog.globalNamed (l3.getD i ("", [])).1 == some ([0, 4, 9].getD i 0) && (Tryd.prog.globals[[0, 4, 9].getD i 0]?).map (·.type) == some 30) = true := by kernel_rfl
theorem e3_of_laid {W : World} (h : laidMetH Tryd.prog laid3 W) : ∃ p, E3 W p := by
  rw [MakeChecks.laidMetH_plain _ _ _ (by kernel_rfl), laid3_eq] at h
  obtain ⟨ps, hv, hnd, hrows⟩ := h
  obtain ⟨p, hs, hsub⟩ := sents_of l3 [0, 4, 9] ps rfl (fun i hi => by
    have h1 := List.all_eq_true.1 named3 i (List.mem_range.2 hi)
    simp only [Bool.and_eq_true, beq_iff_eq] at h1
    exact h1) hv hrows
  have h0 := hs.at 0 (by decide)
  have h1 := hs.at 1 (by decide)
  have h2 := hs.at 2 (by decide)
  exact ⟨[p.getD 0 ⟨0, 0, none⟩, ⟨0, 0, none⟩, ⟨0, 0, none⟩, ⟨0, 0, none⟩, p.getD 1 ⟨0, 0, none⟩, ⟨0, 0, none⟩, ⟨0, 0, none⟩, ⟨0, 0, none⟩, ⟨0, 0, none⟩, p.getD 2 ⟨0, 0, none⟩], ⟨h0.1, h1.1, h0.2.1, h1.2.1⟩, h2.1, h2.2.1⟩
theorem door_met3 (os : Os) (args : Array Value) : laidMetH Tryd.prog laid3 ((World.doorLaid Tryd.prog 332 os).forCall (fun _ _ => 0) ⟨#[], args, []⟩).memory :=
  laidMetH_of_parts3 (fuel := 8) (laidMet_of_run' 8 (by kernel_rfl) (by kernel_rfl)) (by kernel_rfl) (by kernel_rfl)
end Go.Proofs.YtbiilnpblnjliaaDoor.Ck

/- From an argument's reading to the list that it holds. -/
namespace Go.Proofs.YtbiilnpblnjliaaDoor.Ck
open Go.ChangeShapes Go.WideShapes Go.ChangeAt Go.RowKit

theorem block_lt {W : World} {a : Addr} {v : Value} (hc : W.cell? a = some v) : a.block < W.heap.size := by
  rcases Nat.lt_or_ge a.block W.heap.size with h' | h'
  · exact h'
  · simp [World.cell?, Array.getElem?_eq_none h'] at hc
theorem wf_i64 {z : Int} (h : (Lit.int .i64 z).wf = true) : -9223372036854775808 ≤ z ∧ z ≤ 9223372036854775807 := by
  have := bounds_i64 h
  omega

theorem add_plain (b off i : Nat) : (Addr.mk b off none).add i = ⟨b, off + i, none⟩ := by
  unfold Addr.add
  by_cases h : i = 0 <;> simp [h]

theorem sl_open {H : Type} {enc : TypeId × Value → H} {W : World} {a : Option Addr} {len cap : Nat} {d : DataW H} {p : List MemPlace}
    (h : DataW.Trod enc Tryd.prog W 0 (fun _ => true) true 22 (.slice a len cap) d p) : ∃ zs, Sl W (.slice a len cap) zs := by
  obtain ⟨fuel, hf⟩ := h
  rcases open_ints Tryd.underlying22 Tryd.underlying3 (by kernel_rfl) hf with ⟨hcs, _⟩ | ⟨x, l, c, zs, hcs, _, hl, hm, hz, _, hcell, hwz⟩
  · simp [Value.cells] at hcs
    obtain ⟨rfl, rfl, rfl⟩ := hcs
    exact ⟨[], Sl.nilS W⟩
  · simp [Value.cells] at hcs
    obtain ⟨rfl, rfl, rfl⟩ := hcs
    have hz' : zs.length = cap := by simpa using hz
    have hlen : (zs.take len).length = len := by simp; omega
    refine ⟨zs.take len, fun z hm' => wf_i64 (hwz z (List.mem_of_mem_take hm')), some x, cap, by rw [hlen], by omega, hm, fun i hi => ?_⟩
    rw [hlen] at hi
    have hc := hcell i (by omega)
    obtain ⟨b, off, spot⟩ := x
    have hspot : spot = none := by simpa [Addr.add] using World.cell?_spot (hcell 0 (by omega))
    subst hspot
    rw [add_plain] at hc
    refine ⟨b, off, rfl, block_lt hc, ?_⟩
    have e : (zs.take len).getD i 0 = zs.getD i 0 := by simp [List.getD, hi]
    rw [e]
    exact hc

end Go.Proofs.YtbiilnpblnjliaaDoor.Ck
