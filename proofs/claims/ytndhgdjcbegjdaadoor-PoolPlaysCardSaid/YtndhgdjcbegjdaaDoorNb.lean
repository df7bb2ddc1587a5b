/- The contract of pool's New where the document's May says no: nil, and ErrRange. -/
import Derived.Test.YtndhgdjcbegjdaaDoorMayC
namespace Go.Proofs.YtndhgdjcbegjdaaDoor.Ck
open Go.RowKit

set_option maxHeartbeats 1000000 in
set_option maxRecDepth 10000 in
theorem new_bad_in (pages : Nat) (s : List Int) (v : Value) (w : World) (p : List Addr) (hs : Sl w v s) (hp : Errs17 w p) (h1 : 1 ≤ pages) (h2 : pages ≤ 256) (h3 : s.length ≤ 8) (hm : ¬ MayI pages s) :
    Calls Tryd.prog 6 #[.int .i64 pages, v] w fun e w' => e = .returned (.tuple #[.pointer none, errV p 0]) ∧ Below w.heap.size w w' := by
  obtain ⟨a, m, c, rfl, em⟩ := hs.slice
  rw [← em] at h3
  have hmk1 := run_makePages pages (by omega)
  have hmk2 := run_makeArenas m (by omega)
  have Em := hide em
  have Hbad := hide hm
  have HE : Hid (∀ wr, Below w.heap.size w wr → wr.cell? ⟨0, 0, none⟩ = some (errV p 0)) := fun wr hb => eRange (hp.below (Nat.le_refl _) hb)
  clear em hm hp
  generalize errV p 0 = ev at *
  go_enter Tryd.func6, Tryd.ntmps6
  go_wp2_with fail
  go_cut [6] from 22 to 28 (fun x wc => ∃ pp pb qb, x = .pointer (some ⟨pp, 0, none⟩) ∧ PoolIs wc w.heap.size pp pb qb m pages s (fun _ => 0) 0 (fun _ _ => 0) (fun _ _ => 0) ∧ Below w.heap.size w wc)
  case first =>
    go_region
    · go_wp2_with fail
      go_meet
      case rel =>
        obtain ⟨⟨pb, qb, hP⟩, hb⟩ := start_any (w := w) (m := m) (pages := pages) (s := s) true rfl
        exact ⟨_, pb, qb, rfl, hP, hb⟩
    · go_wp2_with fail
      go_meet
      case rel =>
        obtain ⟨⟨pb, qb, hP⟩, hb⟩ := start_any (w := w) (m := m) (pages := pages) (s := s) false rfl
        exact ⟨_, pb, qb, rfl, hP, hb⟩
  case rest =>
    obtain ⟨pp, pb, qb, rfl, hP, hb⟩ := hcut
    have P : Hid (PoolIs wc w.heap.size pp pb qb m pages s (fun _ => 0) 0 (fun _ _ => 0) (fun _ _ => 0) ∧ Below w.heap.size w wc ∧ ∀ j, j < 0 → 0 ≤ s.getD j 0 ∧ (pre s j : Int) + s.getD j 0 ≤ pages) := ⟨hP, hb, fun j hj => absurd hj (Nat.not_lt_zero _)⟩
    clear hP hb hmk1 hmk2
    go_wp2_with fail
    go_loopw [7, 31] (fun x i wr => ∃ (k : Nat) (rb : Nat → Nat), k ≤ m ∧ i = .int .i64 k ∧ x = .int .i64 (pre s k) ∧ Hid (PoolIs wr w.heap.size pp pb qb m pages s rb k (fun _ _ => 0) (fun _ _ => 0) ∧ Below w.heap.size w wr ∧ ∀ j, j < k → 0 ≤ s.getD j 0 ∧ (pre s j : Int) + s.getD j 0 ≤ pages)) (fun _ i _ => m - (intOf i).toNat)
    case atStart => exact ⟨0, _, Nat.zero_le _, rfl, rfl, P.out⟩
    case round =>
      obtain ⟨k, rb, hk, rfl, rfl, I⟩ := hrel
      clear P
      by_cases hkm : k < m
      · by_cases hok : 0 ≤ s.getD k 0 ∧ (pre s k : Int) + s.getD k 0 ≤ pages
        · obtain ⟨hP, hb, hall⟩ := I.out
          have Hall : Hid (∀ j, j < k + 1 → 0 ≤ s.getD j 0 ∧ (pre s j : Int) + s.getD j 0 ≤ pages) := fun j hj => by
            by_cases e : j = k
            · rw [e]; exact hok
            · exact hall j (by omega)
          clear hall
          obtain ⟨hz0, hz1⟩ := hok
          obtain ⟨b, off, ea2, _, hcell⟩ := (hs.below (Nat.le_refl _) hb).at k hkm
          subst ea2
          have ez : s.getD k 0 = (sh s k : Int) := by unfold sh; omega
          rw [ez] at hcell hz1 hz0
          have hle : pre s (k + 1) ≤ pages := by show pre s k + sh s k ≤ pages; omega
          have ep : ((pre s (k + 1) : Nat) : Int) = (pre s k : Int) + sh s k := by show ((pre s k + sh s k : Nat) : Int) = _; omega
          have Hle := hide hle
          have Ep := hide ep
          have HP := hide hP
          have HB := hide hb
          have Hs := hide hs
          have hpl := hP.le
          have hph := hP.ph
          have hpa := hP.pa
          clear hle ep hb I hs ez
          generalize hzk : sh s k = z at *
          obtain ⟨g, hrow⟩ := hP.row
          have hq0 := hrow.cell (i := k * 2) (by omega)
          have hq1 := hrow.cell (i := k * 2 + 1) (by omega)
          have hf0 := hrow.frozen (k * 2)
          have hf1 := hrow.frozen (k * 2 + 1)
          have hlq : qb < wr.heap.size := hrow.lt
          have hlp : pp < wr.heap.size := hP.lt.1
          have HC := hide (fun wx => cut_share pb pages (pre s k) z wx (by omega) h2)
          have HS : Hid (∀ (w2 : World) (rb2 : Nat), Below wr.heap.size wr w2 → wr.heap.size ≤ rb2 → rb2 < w2.heap.size → (∀ i, i < z → w2.cell? ⟨rb2, i, none⟩ = some (.int .i64 0) ∧ w2.frozen? ⟨rb2, i, none⟩ = false) →
              (∃ rb', PoolIs ((w2.setCell ⟨qb, k * 2, none⟩ (.slice (some ⟨pb, if z = 0 then 0 else 16 * pre s k, none⟩) z z)).setCell ⟨qb, k * 2 + 1, none⟩ (.slice (some ⟨rb2, 0, none⟩) z z)) w.heap.size pp pb qb m pages s rb' (k + 1) (fun _ _ => 0) (fun _ _ => 0)) ∧
              Below w.heap.size w ((w2.setCell ⟨qb, k * 2, none⟩ (.slice (some ⟨pb, if z = 0 then 0 else 16 * pre s k, none⟩) z z)).setCell ⟨qb, k * 2 + 1, none⟩ (.slice (some ⟨rb2, 0, none⟩) z z))) := fun w2 rb2 b1 b2 b3 b4 => by
            have h := HP.out.step HB.out.size hkm h2 Hle.out b1 rb2 b2 b3 (by rw [hzk]; exact b4) (k * 2) (by omega)
            rw [hzk] at h
            exact ⟨h.1, HB.out.trans h.2⟩
          clear hrow hP hzk hpl
          generalize (if z = 0 then 0 else 16 * pre s k) = po at *
          have hwr : IntKind.i64.wrap ((pre s k : Int) + z) = (pre s k : Int) + z := by rw [IntKind.wrap_i64]; omega
          go_wp2_with fail
          go_cut [7] from 46 to 60 (fun x wc => x = .int .i64 (pre s k) ∧ ∃ rb', PoolIs wc w.heap.size pp pb qb m pages s rb' (k + 1) (fun _ _ => 0) (fun _ _ => 0) ∧ Below w.heap.size w wc)
          case first =>
            go_region_with (go_at_call 23; refine (HC.out _).mono ?_; rintro e w2 ⟨⟨rb2, rfl, hr1, hr2, hr3⟩, hb2⟩; have hph2 := (hb2.cell (p := ⟨pp, 0, none⟩) hlp).trans hph; have hpa2 := (hb2.cell (p := ⟨pp, 1, none⟩) hlp).trans hpa; have hq02 := (hb2.cell (p := ⟨qb, k * 2, none⟩) hlq).trans hq0; have hq12 := (hb2.cell (p := ⟨qb, k * 2 + 1, none⟩) hlq).trans hq1; have hf02 := (hb2.frozen (p := ⟨qb, k * 2, none⟩) hlq).trans hf0; have hf12 := (hb2.frozen (p := ⟨qb, k * 2 + 1, none⟩) hlq).trans hf1)
            all_goals
              go_wp2_with fail
              go_meet
              case rel =>
                obtain ⟨⟨rb', hP'⟩, hB'⟩ := HS.out w2 rb2 ⟨hb2.os, hb2.tape, hb2.output, hb2.size, hb2.block⟩ hr1 hr2 hr3
                exact ⟨rfl, rb', hP', hB'⟩
          case rest =>
            obtain ⟨rfl, rb', hP', hB'⟩ := hcut
            have J := hide (And.intro hP' hB')
            clear hP' hB' HS HC hph hpa hq0 hq1 hf0 hf1
            go_wp2_with fail
            go_roundw
            case rel => exact ⟨k + 1, rb', by omega, by go_num, by rw [Ep.out], J.out.1, J.out.2, Hall.out⟩
            case measure => simp [intOf]; omega
        · have hpl := I.out.1.le
          obtain ⟨b, off, ea2, _, hcell⟩ := (hs.below (Nat.le_refl _) I.out.2.1).at k hkm
          subst ea2
          have hE := HE.out wr I.out.2.1
          have HB := hide I.out.2.1
          clear I hs
          generalize s.getD k 0 = z at *
          generalize pre s k = q at *
          by_cases hz : z < 0
          · clear hok
            go_wp2_with fail
            go_quiet (fail)
            go_wp2_with fail
            go_ret2
            exact ⟨rfl, below_drewN HB.out _⟩
          · have hz2 : (pages : Int) - q < z := by omega
            clear hok
            go_wp2_with fail
            go_quiet (fail)
            go_wp2_with fail
            go_ret2
            exact ⟨rfl, below_drewN HB.out _⟩
      · have e : k = m := by omega
        exfalso
        exact Hbad.out ⟨pages, rfl, by omega, h2, by have := Em.out; omega, fun j hj => I.out.2.2 j (by have := Em.out; omega)⟩

theorem new_bad (pages : Int) (s : List Int) (v : Value) (w : World) (p : List Addr) (hs : Sl w v s) (hp : Errs17 w p) (hm : ¬ MayI pages s) :
    Calls Tryd.prog 6 #[.int .i64 pages, v] w fun e w' => e = .returned (.tuple #[.pointer none, errV p 0]) ∧ Below w.heap.size w w' := by
  have he := eRange hp
  by_cases hp1 : pages < 1
  · obtain ⟨a, m, c, rfl, em⟩ := hs.slice
    clear hm hs hp em
    generalize errV p 0 = ev at *
    go_enter Tryd.func6, Tryd.ntmps6
    go_wp2_with fail
    go_quiet (fail)
    go_wp2_with fail
    go_ret2
    exact ⟨rfl, below_drewN (Below.refl _ _) _⟩
  · by_cases hp2 : 256 < pages
    · obtain ⟨a, m, c, rfl, em⟩ := hs.slice
      clear hm hs hp em
      generalize errV p 0 = ev at *
      go_enter Tryd.func6, Tryd.ntmps6
      go_wp2_with fail
      go_quiet (fail)
      go_wp2_with fail
      go_ret2
      exact ⟨rfl, below_drewN (Below.refl _ _) _⟩
    · by_cases h8 : 8 < s.length
      · obtain ⟨a, m, c, rfl, em⟩ := hs.slice
        rw [← em] at h8
        clear hm hs hp em
        generalize errV p 0 = ev at *
        go_enter Tryd.func6, Tryd.ntmps6
        go_wp2_with fail
        go_quiet (fail)
        go_wp2_with fail
        go_ret2
        exact ⟨rfl, below_drewN (Below.refl _ _) _⟩
      · obtain ⟨n, rfl⟩ := Int.eq_ofNat_of_zero_le (show 0 ≤ pages by omega)
        exact new_bad_in n s v w p hs hp (by omega) (by omega) (by omega) hm

end Go.Proofs.YtndhgdjcbegjdaaDoor.Ck
