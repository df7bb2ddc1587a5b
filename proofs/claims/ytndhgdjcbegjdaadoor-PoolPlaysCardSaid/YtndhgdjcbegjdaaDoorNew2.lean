/- The contract of pool's New, where a pool may be made; of Arena; of Pages. -/
import Derived.Test.YtndhgdjcbegjdaaDoorNew
import Derived.Deep.CutRange
import Derived.Deep.RegionWith
namespace Go.Proofs.YtndhgdjcbegjdaaDoor.Ck
open Go.RowKit

theorem Ar.keepCell {w : World} {L : Lay} {R V : Nat → Int} (h : Ar w L R V) (b o : Nat) (v : Value) (h1 : b = L.ab) (h2 : o ≠ L.ao) (h3 : o ≠ L.ao + 1) : Ar (w.setCell ⟨b, o, none⟩ v) L R V := by
  subst h1
  have hsz := size_setCell w ⟨L.ab, o, none⟩ v
  have oth : ∀ x : Addr, x ≠ ⟨L.ab, o, none⟩ → (w.setCell ⟨L.ab, o, none⟩ v).cell? x = w.cell? x := fun x hx => by rw [World.cell?_setCell_other]; exact Ne.symm hx
  exact { h with
    pages := (oth _ (fun e => h2 (congrArg Addr.off e).symm)).trans h.pages,
    runs := (oth _ (fun e => h3 (congrArg Addr.off e).symm)).trans h.runs,
    run := fun k hk => (oth _ (fun e => h.ne1 (congrArg Addr.block e).symm)).trans (h.run k hk),
    runF := fun k hk => by rw [World.frozen?_setCell]; exact h.runF k hk,
    word := fun k hk => (oth _ (fun e => h.ne2 (congrArg Addr.block e).symm)).trans (h.word k hk),
    wordF := fun k hk => by rw [World.frozen?_setCell]; exact h.wordF k hk,
    lt1 := hsz.symm ▸ h.lt1, lt2 := hsz.symm ▸ h.lt2, lt3 := hsz.symm ▸ h.lt3 }

theorem lay_congr {qb pb : Nat} {s : List Int} {rb rb' : Nat → Nat} {j : Nat} (h : rb j = rb' j) : lay qb pb s rb j = lay qb pb s rb' j := by unfold lay; rw [h]

theorem PoolIs.step {w wc : World} {B pp pb qb m pages : Nat} {s : List Int} {rb : Nat → Nat} {k : Nat} (h : PoolIs w B pp pb qb m pages s rb k (fun _ _ => 0) (fun _ _ => 0)) (hB : B ≤ w.heap.size)
    (hk : k < m) (hp : pages ≤ 256) (hle : pre s (k + 1) ≤ pages) (hb : Below w.heap.size w wc) (rbk : Nat) (h1 : w.heap.size ≤ rbk) (h2 : rbk < wc.heap.size)
    (h3 : ∀ i, i < sh s k → wc.cell? ⟨rbk, i, none⟩ = some (.int .i64 0) ∧ wc.frozen? ⟨rbk, i, none⟩ = false) (o : Nat) (ho : o = 2 * k) :
    (∃ rb', PoolIs ((wc.setCell ⟨qb, o, none⟩ (.slice (some ⟨pb, if sh s k = 0 then 0 else 16 * pre s k, none⟩) (sh s k) (sh s k))).setCell ⟨qb, o + 1, none⟩ (.slice (some ⟨rbk, 0, none⟩) (sh s k) (sh s k))) B pp pb qb m pages s rb' (k + 1) (fun _ _ => 0) (fun _ _ => 0)) ∧
      Below B w ((wc.setCell ⟨qb, o, none⟩ (.slice (some ⟨pb, if sh s k = 0 then 0 else 16 * pre s k, none⟩) (sh s k) (sh s k))).setCell ⟨qb, o + 1, none⟩ (.slice (some ⟨rbk, 0, none⟩) (sh s k) (sh s k))) := by
  subst ho
  generalize hv0 : Value.slice (some ⟨pb, if sh s k = 0 then 0 else 16 * pre s k, none⟩) (sh s k) (sh s k) = v0
  generalize hv1 : Value.slice (some ⟨rbk, 0, none⟩) (sh s k) (sh s k) = v1
  obtain ⟨g, hrow⟩ := h.row
  have hrowc := hrow.of_block (hb.block qb hrow.lt)
  have hrow1 := hrowc.set (2 * k) v0
  have hrow2 := hrow1.set (2 * k + 1) v1
  have hsz : ((wc.setCell ⟨qb, 2 * k, none⟩ v0).setCell ⟨qb, 2 * k + 1, none⟩ v1).heap.size = wc.heap.size := by rw [size_setCell, size_setCell]
  have far : ∀ x : Addr, x.block ≠ qb → ((wc.setCell ⟨qb, 2 * k, none⟩ v0).setCell ⟨qb, 2 * k + 1, none⟩ v1).cell? x = wc.cell? x := fun x hx => by
    rw [World.cell?_setCell_other, World.cell?_setCell_other]
    · exact fun e => hx (congrArg Addr.block e).symm
    · exact fun e => hx (congrArg Addr.block e).symm
  have fz : ∀ x : Addr, ((wc.setCell ⟨qb, 2 * k, none⟩ v0).setCell ⟨qb, 2 * k + 1, none⟩ v1).frozen? x = wc.frozen? x := fun x => by rw [World.frozen?_setCell, World.frozen?_setCell]
  have hlt := h.lt
  have hown := h.own
  have hpre : pre s (k + 1) = pre s k + sh s k := rfl
  refine ⟨⟨fun j => if j = k then rbk else rb j, {
    ph := (far _ h.d2).trans ((hb.cell (p := ⟨pp, 0, none⟩) hlt.1).trans h.ph),
    pa := (far _ h.d2).trans ((hb.cell (p := ⟨pp, 1, none⟩) hlt.1).trans h.pa),
    row := ⟨_, hrow2⟩,
    ar := fun j hj => ?_,
    word0 := fun i hi1 hi2 => (far _ h.d3).trans ((hb.cell (p := ⟨pb, i, none⟩) hlt.2.1).trans (h.word0 i (by omega) hi2)),
    wordF := fun i hi => (fz _).trans ((hb.frozen (p := ⟨pb, i, none⟩) hlt.2.1).trans (h.wordF i hi)),
    d1 := h.d1, d2 := h.d2, d3 := h.d3,
    rbs := fun j hj => ?_,
    rbd := fun i j hi hj hij => ?_,
    own := hown, lt := by rw [hsz]; have := hb.size; omega, le := hle }⟩, ?_⟩
  · by_cases e : j = k
    · subst e
      have hn : sh s j ≤ 256 := by omega
      have hcell0 := hrow2.cell (i := 2 * j) (by omega)
      have hcell1 := hrow2.cell (i := 2 * j + 1) (by omega)
      rw [if_neg (by omega), if_pos rfl] at hcell0
      rw [if_pos rfl] at hcell1
      have po : ∀ i, i < 16 * sh s j → (if sh s j = 0 then 0 else 16 * pre s j) + i = 16 * pre s j + i := fun i hi => by rw [if_neg (by omega)]
      refine { small := hn, pages := hcell0.trans (congrArg some hv0.symm), runs := ?_, run := fun i hi => ?_, runF := fun i hi => ?_, word := fun i hi => ?_, wordF := fun i hi => ?_, ne1 := ?_, ne2 := ?_, ne3 := ?_, lt1 := ?_, lt2 := ?_, lt3 := ?_ }
      · simp only [lay, if_pos]
        exact hcell1.trans (congrArg some hv1.symm)
      · simp only [lay, if_pos] at hi ⊢
        exact (far _ (by simp; omega)).trans (h3 i hi).1
      · simp only [lay, if_pos] at hi ⊢
        exact (fz _).trans (h3 i hi).2
      · simp only [lay] at hi ⊢
        rw [po i hi]
        exact (far _ h.d3).trans ((hb.cell (p := ⟨pb, 16 * pre s j + i, none⟩) hlt.2.1).trans (h.word0 _ (by omega) (by omega)))
      · simp only [lay] at hi ⊢
        rw [po i hi]
        exact (fz _).trans ((hb.frozen (p := ⟨pb, 16 * pre s j + i, none⟩) hlt.2.1).trans (h.wordF _ (by omega)))
      · simp only [lay, if_pos]; omega
      · exact fun e => h.d3 e.symm
      · simp only [lay, if_pos]; omega
      · rw [hsz]; simp only [lay]; have := hb.size; omega
      · rw [hsz]; simp only [lay, if_pos]; omega
      · rw [hsz]; simp only [lay]; have := hb.size; omega
    · rw [lay_congr (rb := fun j => if j = k then rbk else rb j) (rb' := rb) (j := j) (by simp [e])]
      have hj' : j < k := by omega
      exact (((h.ar j hj').below hb).keepCell qb (2 * k) v0 rfl (by simp [lay]; omega) (by simp [lay]; omega)).keepCell qb (2 * k + 1) v1 rfl (by simp [lay]; omega) (by simp [lay]; omega)
  · by_cases e : j = k
    · simp only [if_pos e]
      rw [hsz]
      omega
    · simp only [if_neg e]
      have := h.rbs j (by omega)
      rw [hsz]
      have := hb.size
      omega
  · by_cases ei : i = k
    · have := h.rbs j (by omega)
      simp only [if_pos ei, if_neg (show ¬ j = k by omega)]
      omega
    · by_cases ej : j = k
      · have := h.rbs i (by omega)
        simp only [if_pos ej, if_neg ei]
        omega
      · simp only [if_neg ei, if_neg ej]
        exact h.rbd i j (by omega) (by omega) hij
  · exact ((hb.mono hB).setCell (p := ⟨qb, 2 * k, none⟩) hown.2.2 _).setCell (p := ⟨qb, 2 * k + 1, none⟩) hown.2.2 _

theorem cut_share (pb pages p z : Nat) (w : World) (h : p + z ≤ pages) (hp : pages ≤ 256) :
    Calls Tryd.prog 23 #[.slice (some ⟨pb, 0, none⟩) pages pages, .int .i64 (p : Int), .int .i64 ((p : Int) + z)] w fun e w' =>
      (∃ rb, e = .returned (.agg #[.slice (some ⟨pb, if z = 0 then 0 else 16 * p, none⟩) z z, .slice (some ⟨rb, 0, none⟩) z z]) ∧ w.heap.size ≤ rb ∧ rb < w'.heap.size ∧
        ∀ i, i < z → w'.cell? ⟨rb, i, none⟩ = some (.int .i64 0) ∧ w'.frozen? ⟨rb, i, none⟩ = false) ∧ Below w.heap.size w w' := by
  have hc := cut_any pb pages p (p + z) w (by omega) h hp
  rw [show ((p + z : Nat) : Int) = (p : Int) + z by omega] at hc
  refine hc.mono fun e w' ⟨⟨v, he, rb, hv, h1, h2, h3⟩, hb⟩ => ⟨⟨rb, ?_, h1, h2, ?_⟩, hb⟩
  · rw [he, hv, show p + z - p = z by omega]
    by_cases hz : z = 0
    · rw [if_pos hz, if_pos (by omega)]
    · rw [if_neg hz, if_neg (by omega)]
  · rw [show p + z - p = z by omega] at h3
    exact h3

/-- what New answers: the pool, all of whose arenas are made -/
def NewRes (w0 w : World) (pages : Nat) (s : List Int) (v : Value) : Prop :=
  ∃ pp pb qb rb, v = .pointer (some ⟨pp, 0, none⟩) ∧ PoolIs w w0.heap.size pp pb qb s.length pages s rb s.length (fun _ _ => 0) (fun _ _ => 0)

theorem newRes_of {w0 w : World} {pages m pp pb qb : Nat} {s : List Int} {rb : Nat → Nat} (e : m = s.length) (h : PoolIs w w0.heap.size pp pb qb m pages s rb m (fun _ _ => 0) (fun _ _ => 0)) : NewRes w0 w pages s (.pointer (some ⟨pp, 0, none⟩)) := by
  subst e
  exact ⟨pp, pb, qb, rb, rfl, h⟩

set_option maxHeartbeats 1000000 in
set_option maxRecDepth 10000 in
theorem new_ok (pages : Nat) (s : List Int) (v : Value) (w : World) (hs : Sl w v s) (hm : May pages s) :
    Calls Tryd.prog 6 #[.int .i64 pages, v] w fun e w' => (∃ x, e = .returned (.tuple #[x, .nilIface]) ∧ NewRes w w' pages s x) ∧ Below w.heap.size w w' := by
  obtain ⟨a, m, c, rfl, em⟩ := hs.slice
  obtain ⟨h1, h2, h3, h4⟩ := hm
  rw [← em] at h3
  have Hm : Hid (∀ j, j < m → 0 ≤ s.getD j 0 ∧ (pre s j : Int) + s.getD j 0 ≤ pages) := fun j hj => h4 j (by omega)
  have hmk1 := run_makePages pages (by omega)
  have hmk2 := run_makeArenas m (by omega)
  have Em := hide em
  clear h4 em
  go_enter Tryd.func6, Tryd.ntmps6
  go_wp2_with fail
  go_cut [6] from 22 to 28 (fun x wc => ∃ pp pb qb, x = .pointer (some ⟨pp, 0, none⟩) ∧ PoolIs wc w.heap.size pp pb qb m pages s (fun _ => 0) 0 (fun _ _ => 0) (fun _ _ => 0) ∧ Below w.heap.size w wc)
  case first =>
    go_region
    · go_wp2_with fail
      go_meet
      case rel =>
        obtain ⟨⟨pb, qb, hP⟩, hb⟩ := start_any (w := w) (m := m) (pages := pages) (s := s) true rfl
        exact ⟨_, pb, qb, rfl, hP, hb⟩
    · go_wp2_with fail
      go_meet
      case rel =>
        obtain ⟨⟨pb, qb, hP⟩, hb⟩ := start_any (w := w) (m := m) (pages := pages) (s := s) false rfl
        exact ⟨_, pb, qb, rfl, hP, hb⟩
  case rest =>
    obtain ⟨pp, pb, qb, rfl, hP, hb⟩ := hcut
    have P := hide (And.intro hP hb)
    clear hP hb hmk1 hmk2
    go_wp2_with fail
    go_loopw [7, 31] (fun x i wr => ∃ (k : Nat) (rb : Nat → Nat), k ≤ m ∧ i = .int .i64 k ∧ x = .int .i64 (pre s k) ∧ Hid (PoolIs wr w.heap.size pp pb qb m pages s rb k (fun _ _ => 0) (fun _ _ => 0) ∧ Below w.heap.size w wr)) (fun _ i _ => m - (intOf i).toNat)
    case atStart => exact ⟨0, _, Nat.zero_le _, rfl, rfl, P.out⟩
    case round =>
      obtain ⟨k, rb, hk, rfl, rfl, I⟩ := hrel
      clear P
      by_cases hkm : k < m
      · obtain ⟨hP, hb⟩ := I.out
        obtain ⟨hz0, hz1⟩ := Hm.out k hkm
        obtain ⟨b, off, ea2, _, hcell⟩ := (hs.below (Nat.le_refl _) hb).at k hkm
        subst ea2
        have ez : s.getD k 0 = (sh s k : Int) := by unfold sh; omega
        rw [ez] at hcell hz1 hz0
        have hle : pre s (k + 1) ≤ pages := by show pre s k + sh s k ≤ pages; omega
        have ep : ((pre s (k + 1) : Nat) : Int) = (pre s k : Int) + sh s k := by show ((pre s k + sh s k : Nat) : Int) = _; omega
        have Hle := hide hle
        have Ep := hide ep
        have HP := hide hP
        have HB := hide hb
        have Hs := hide hs
        have hpl := hP.le
        have hph := hP.ph
        have hpa := hP.pa
        clear hle ep hb I hs ez
        generalize hzk : sh s k = z at *
        obtain ⟨g, hrow⟩ := hP.row
        have hq0 := hrow.cell (i := k * 2) (by omega)
        have hq1 := hrow.cell (i := k * 2 + 1) (by omega)
        have hf0 := hrow.frozen (k * 2)
        have hf1 := hrow.frozen (k * 2 + 1)
        have hlq : qb < wr.heap.size := hrow.lt
        have hlp : pp < wr.heap.size := hP.lt.1
        have HC := hide (fun wx => cut_share pb pages (pre s k) z wx (by omega) h2)
        have HS : Hid (∀ (w2 : World) (rb2 : Nat), Below wr.heap.size wr w2 → wr.heap.size ≤ rb2 → rb2 < w2.heap.size → (∀ i, i < z → w2.cell? ⟨rb2, i, none⟩ = some (.int .i64 0) ∧ w2.frozen? ⟨rb2, i, none⟩ = false) →
            (∃ rb', PoolIs ((w2.setCell ⟨qb, k * 2, none⟩ (.slice (some ⟨pb, if z = 0 then 0 else 16 * pre s k, none⟩) z z)).setCell ⟨qb, k * 2 + 1, none⟩ (.slice (some ⟨rb2, 0, none⟩) z z)) w.heap.size pp pb qb m pages s rb' (k + 1) (fun _ _ => 0) (fun _ _ => 0)) ∧
            Below w.heap.size w ((w2.setCell ⟨qb, k * 2, none⟩ (.slice (some ⟨pb, if z = 0 then 0 else 16 * pre s k, none⟩) z z)).setCell ⟨qb, k * 2 + 1, none⟩ (.slice (some ⟨rb2, 0, none⟩) z z))) := fun w2 rb2 b1 b2 b3 b4 => by
          have h := HP.out.step HB.out.size hkm h2 Hle.out b1 rb2 b2 b3 (by rw [hzk]; exact b4) (k * 2) (by omega)
          rw [hzk] at h
          exact ⟨h.1, HB.out.trans h.2⟩
        clear hrow hP hzk hpl
        generalize (if z = 0 then 0 else 16 * pre s k) = po at *
        have hwr : IntKind.i64.wrap ((pre s k : Int) + z) = (pre s k : Int) + z := by rw [IntKind.wrap_i64]; omega
        go_wp2_with fail
        go_cut [7] from 46 to 60 (fun x wc => x = .int .i64 (pre s k) ∧ ∃ rb', PoolIs wc w.heap.size pp pb qb m pages s rb' (k + 1) (fun _ _ => 0) (fun _ _ => 0) ∧ Below w.heap.size w wc)
        case first =>
          go_region_with (go_at_call 23; refine (HC.out _).mono ?_; rintro e w2 ⟨⟨rb2, rfl, hr1, hr2, hr3⟩, hb2⟩; have hph2 := (hb2.cell (p := ⟨pp, 0, none⟩) hlp).trans hph; have hpa2 := (hb2.cell (p := ⟨pp, 1, none⟩) hlp).trans hpa; have hq02 := (hb2.cell (p := ⟨qb, k * 2, none⟩) hlq).trans hq0; have hq12 := (hb2.cell (p := ⟨qb, k * 2 + 1, none⟩) hlq).trans hq1; have hf02 := (hb2.frozen (p := ⟨qb, k * 2, none⟩) hlq).trans hf0; have hf12 := (hb2.frozen (p := ⟨qb, k * 2 + 1, none⟩) hlq).trans hf1)
          all_goals
            go_wp2_with fail
            go_meet
            case rel =>
              obtain ⟨⟨rb', hP'⟩, hB'⟩ := HS.out w2 rb2 ⟨hb2.os, hb2.tape, hb2.output, hb2.size, hb2.block⟩ hr1 hr2 hr3
              exact ⟨rfl, rb', hP', hB'⟩
        case rest =>
          obtain ⟨rfl, rb', hP', hB'⟩ := hcut
          have J := hide (And.intro hP' hB')
          clear hP' hB' HS HC hph hpa hq0 hq1 hf0 hf1
          go_wp2_with fail
          go_roundw
          case rel => exact ⟨k + 1, rb', by omega, by go_num, by rw [Ep.out], J.out⟩
          case measure => simp [intOf]; omega
      · have e : k = m := by omega
        subst e
        have J := I.out
        have J2 := hide J
        clear I J
        go_wp2_with fail
        go_ret2
        exact ⟨⟨_, rfl, newRes_of Em.out J2.out.1⟩, J2.out.2⟩

end Go.Proofs.YtndhgdjcbegjdaaDoor.Ck
