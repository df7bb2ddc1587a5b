/- Package order: an earlier access that an event does not know (finder.unknown). (Written by mk_o.py.) -/
import Derived.Test.YticgmebbnnmikaaDoorOe
namespace Go.Proofs.YticgmebbnnmikaaDoor.Ck
open Go.RowKit

/-- a slice of what events know -/
def SlS (w : World) (v : Value) (ps : List Sn) : Prop := ∃ a cap, v = .slice a ps.length cap ∧ ps.length ≤ cap ∧ cap ≤ maxLen ∧ ∀ i, i < ps.length → ∃ b, a = some ⟨b, 0, none⟩ ∧ Ar w b (i * 8) (ps.getD i sn0)
theorem SlS.bel {w w' : World} {v : Value} {l : List Sn} (h : SlS w v l) (hb : Below w.heap.size w w') : SlS w' v l := by
  obtain ⟨a, cap, hv, h1, h2, h3⟩ := h
  refine ⟨a, cap, hv, h1, h2, fun i hi => ?_⟩
  obtain ⟨b, ha, hc⟩ := h3 i hi
  exact ⟨b, ha, hc.bel hb⟩
theorem SlS.form {w : World} {v : Value} {l : List Sn} (h : SlS w v l) : ∃ a c, v = .slice a l.length c ∧ l.length ≤ c ∧ c ≤ maxLen := by
  obtain ⟨a, c, e, h1, h2, _⟩ := h
  exact ⟨a, c, e, h1, h2⟩
theorem SlS.at {w : World} {a : Option Addr} {n c : Nat} {l : List Sn} (h : SlS w (.slice a n c) l) (i : Nat) (hi : i < l.length) : ∃ b, a = some ⟨b, 0, none⟩ ∧ Ar w b (i * 8) (l.getD i sn0) := by
  obtain ⟨a', c', e, _, _, h3⟩ := h
  injection e with e1 _ _
  obtain ⟨b, ha, r⟩ := h3 i hi
  exact ⟨b, by rw [e1]; exact ha, r⟩
/-- is there an earlier access, that an event doesn't know? -/
def unkM (T : List Ev) (ps : List Sn) (e : Int) (at_ : Nat) : Bool := (e != -1) && !(decide (max (ps.getD e.toNat sn0 (T.getD e.toNat zE).g.toNat) 0 ≤ max (ps.getD at_ sn0 (T.getD e.toNat zE).g.toNat) 0))
/-- the finder in memory -/
structure Fi (w : World) (bf : Nat) (vT vP : Value) (T : List Ev) (ps : List Sn) : Prop where
  f0 : w.cell? ⟨bf, 0, none⟩ = some vT
  f1 : w.cell? ⟨bf, 1, none⟩ = some vP
  tr : SlE w vT T
  pa : SlS w vP ps
  ok : ∀ i, i < T.length → evB (T.getD i zE) = true
  len : ps.length = T.length
theorem Fi.bel {w w' : World} {bf : Nat} {vT vP : Value} {T : List Ev} {ps : List Sn} (h : Fi w bf vT vP T ps) (hb : Below w.heap.size w w') : Fi w' bf vT vP T ps :=
  ⟨(hb.cell (p := ⟨bf, 0, none⟩) (World.block_lt_of_cell? w _ h.f0)).trans h.f0, (hb.cell (p := ⟨bf, 1, none⟩) (World.block_lt_of_cell? w _ h.f1)).trans h.f1, h.tr.bel hb, h.pa.bel hb, h.ok, h.len⟩
set_option maxRecDepth 20000 in
set_option maxHeartbeats 2000000 in
theorem unknown_any {w : World} {bf : Nat} {vT vP : Value} {T : List Ev} {ps : List Sn} (h : Fi w bf vT vP T ps) (e : Int) (he : e = -1 ∨ 0 ≤ e ∧ e < T.length) (at_ : Nat) (ha : at_ < T.length) : Calls Tryd.prog 59 #[.pointer (some ⟨bf, 0, none⟩), .int .i64 e, .int .i64 (at_ : Nat)] w (Vb w (.bool (unkM T ps e at_))) := by
  rcases he with rfl | ⟨h1, h2⟩
  · rw [show unkM T ps (-1) at_ = false from rfl]
    clear h
    go_enter Tryd.func59, Tryd.ntmps59
    go_wp2_with fail
    go_quiet (fail)
    go_wp2_with fail
    go_ret
    exact ⟨rfl, below_drewN (Below.refl _ _) _⟩
  · obtain ⟨k, rfl⟩ : ∃ k : Nat, e = k := ⟨e.toNat, by omega⟩
    obtain ⟨aT, cT, rfl, _, _⟩ := h.tr.form
    obtain ⟨aP, cP, rfl, _, _⟩ := h.pa.form
    have hl := h.len
    obtain ⟨bT, off, rfl, hbT, t0, _, _, _⟩ := h.tr.at k (by omega)
    obtain ⟨bP, eP, A1⟩ := h.pa.at k (by omega)
    subst eP
    obtain ⟨bP', eP', A2⟩ := h.pa.at at_ (by omega)
    injection eP' with eP'
    injection eP' with eP' _ _
    subst eP'
    have hf := evB_out (h.ok k (by omega))
    obtain ⟨g, hg⟩ : ∃ g : Nat, (T.getD k zE).g = g := ⟨(T.getD k zE).g.toNat, by omega⟩
    have hg8 : g < 8 := by omega
    have e9 : unkM T ps (k : Int) at_ = !(decide (max (ps.getD k sn0 g) 0 ≤ max (ps.getD at_ sn0 g) 0)) := by
      unfold unkM
      rw [Int.toNat_natCast, hg, Int.toNat_natCast]
      have : ((k : Int) != -1) = true := by simp
      rw [this, Bool.true_and]
    rw [e9]
    rw [hg] at t0
    have f0 := h.f0
    have f1 := h.f1
    have hbf := World.block_lt_of_cell? w _ f0
    have OF := hide (fun wz (hz : Below w.heap.size w wz) => of_any (A1.bel hz) g hg8)
    have HO := hide (fun wz (hz : Below w.heap.size w wz) n => holds_any (A2.bel hz) g hg8 n)
    have KS := hide (fun wz (hz : Below w.heap.size w wz) => (show wz.cell? ⟨bf, 1, none⟩ = some (.slice (some ⟨bP, 0, none⟩) ps.length cP) ∧ wz.cell? ⟨bf, 0, none⟩ = some (.slice (some ⟨bT, off, none⟩) T.length cT) ∧ wz.cell? ⟨bT, off + k * 4, none⟩ = some (.int .i64 (g : Nat)) from ⟨(hz.cell (p := ⟨bf, 1, none⟩) hbf).trans f1, (hz.cell (p := ⟨bf, 0, none⟩) hbf).trans f0, (hz.cell (p := ⟨bT, off + k * 4, none⟩) hbT).trans t0⟩))
    have hkT : (k : Int) < (T.length : Int) := by omega
    have hkP : (k : Int) < (ps.length : Int) := by omega
    have haP : (at_ : Int) < (ps.length : Int) := by omega
    have hne : ((k : Int) != -1) = true := by simp
    generalize max (ps.getD k sn0 g) 0 = x at *
    generalize max (ps.getD at_ sn0 g) 0 = y at *
    clear h A1 A2 hf hg e9 hl
    go_enter Tryd.func59, Tryd.ntmps59
    go_wp2_with fail
    refine wp_region_T (S := fun wz => wz.cell? ⟨bf, 1, none⟩ = some (.slice (some ⟨bP, 0, none⟩) ps.length cP) ∧ wz.cell? ⟨bf, 0, none⟩ = some (.slice (some ⟨bT, off, none⟩) T.length cT) ∧ wz.cell? ⟨bT, off + k * 4, none⟩ = some (.int .i64 (g : Nat))) (fun _ => true) mixed (KS.out _ (Below.refl _ _).drew) (fun hH => ?_)
    refine Tm 0 ?_
    simp only [Act.put, SA]
    refine Tm 1 ?_
    simp only [Act.put, SA]
    refine Tm 2 ?_
    simp only [Act.put, SA]
    refine Tm 3 ?_
    simp only [Act.put, SA]
    refine Tm 4 ?_
    simp only [Act.put, SA]
    refine Tm 5 ?_
    simp only [Act.put, SA]
    refine Tl 6 (v := ?_) ?_ hH ?_
    rotate_left 1
    · (intro wy hSw; have q := hSw.1; clear hSw; go_simp <;> with_reducible rfl)
    simp only [Act.put, SA]
    refine Tm 7 ?_
    simp only [Act.put, SA]
    refine Tm 8 ?_
    simp only [Act.put, SA]
    refine Tm 9 ?_
    simp only [Act.put, SA]
    refine Tm 10 ?_
    simp only [Act.put, SA]
    refine Tm 11 ?_
    simp only [Act.put, SA]
    refine Tl 12 (v := ?_) ?_ hH ?_
    rotate_left 1
    · (intro wy hSw; have q := hSw.1; clear hSw; go_simp <;> with_reducible rfl)
    simp only [Act.put, SA]
    refine Tm 13 ?_
    simp only [Act.put, SA]
    refine Tm 14 ?_
    simp only [Act.put, SA]
    refine Tm 15 ?_
    simp only [Act.put, SA]
    refine Tm 16 ?_
    simp only [Act.put, SA]
    refine Tm 17 ?_
    simp only [Act.put, SA]
    refine Tl 18 (v := ?_) ?_ hH ?_
    rotate_left 1
    · (intro wy hSw; have q := hSw.2.1; clear hSw; go_simp <;> with_reducible rfl)
    simp only [Act.put, SA]
    refine Tm 19 ?_
    simp only [Act.put, SA]
    refine Tm 20 ?_
    simp only [Act.put, SA]
    refine Tm 21 ?_
    simp only [Act.put, SA]
    refine Tl 22 (v := ?_) ?_ hH ?_
    rotate_left 1
    · (intro wy hSw; have q := hSw.2.2; clear hSw; go_simp <;> with_reducible rfl)
    simp only [Act.put, SA]
    refine Tr 23 (fun K1 hK1 => ?_)
    go_simp
    refine (OF.out _ (Below.refl _ _).drew).mono ?_
    rintro e w2 ⟨rfl, b2⟩
    have B2 := hide (bel_trans (Below.refl w.heap.size w).drew b2)
    refine hK1.out _ _ (fun _ => KS.out _ B2.out) (fun _ => ?_)
    clear hK1 K1 b2
    refine Tr 24 (fun K1 hK1 => ?_)
    go_simp
    refine (HO.out _ B2.out _).mono ?_
    rintro e w3 ⟨rfl, b3⟩
    have B3 := hide (bel_trans B2.out b3)
    refine hK1.out _ _ (fun _ => KS.out _ B3.out) (fun _ => ?_)
    clear hK1 K1 b3 hH
    refine Tm 25 ?_
    simp only [Act.put, SA]
    refine Tm 26 ?_
    simp only [Act.put, SA]
    refine Tm 27 ?_
    simp only [Act.put, SA]
    refine T_done (by kernel_rfl) ?_ _
    go_wp2_with fail
    go_ret
    exact ⟨rfl, B3.out⟩
end Go.Proofs.YticgmebbnnmikaaDoor.Ck
