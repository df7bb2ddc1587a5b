/- Package order: does an event happen before another one (Before). (Written by mk_o.py.) -/
import Derived.Test.YticgmebbnnmikaaDoorOs
namespace Go.Proofs.YticgmebbnnmikaaDoor.Ck
open Go.RowKit

theorem SlE.take {w : World} {a : Option Addr} {n c : Nat} {T : List Ev} (h : SlE w (.slice a n c) T) (k : Nat) (hk : k ≤ T.length) : SlE w (.slice a k c) (T.take k) := by
  obtain ⟨a', c', e, h1, h2, h3⟩ := h
  injection e with e1 e2 e3
  subst e1 e3
  have hl : (T.take k).length = k := by rw [List.length_take]; omega
  refine ⟨a, c, by rw [hl], by rw [hl]; omega, h2, fun i hi => ?_⟩
  rw [hl] at hi
  have e : (T.take k).getD i zE = T.getD i zE := by rw [List.getD_eq_getElem?_getD, List.getD_eq_getElem?_getD, List.getElem?_take_of_lt hi]
  rw [e]
  exact h3 i (by omega)
theorem takeE (T : List Ev) (k i : Nat) (hi : i < k) : (T.take k).getD i zE = T.getD i zE := by rw [List.getD_eq_getElem?_getD, List.getD_eq_getElem?_getD, List.getElem?_take_of_lt hi]
/-- what the events of a trace know -/
def pastsM (R : List Int) (T : List Ev) : List Sn := (walkM R T T.length).past
theorem pastsM_len (R : List Int) (T : List Ev) : (pastsM R T).length = T.length := (walk_ok R T T.length).past
/-- does an event happen before another one? -/
def befM (R : List Int) (T : List Ev) (a b : Nat) : Bool := decide (a < b) && decide (max ((pastsM R (T.take (b + 1))).getD a sn0 (T.getD a zE).g.toNat) 0 ≤ max ((pastsM R (T.take (b + 1))).getD b sn0 (T.getD a zE).g.toNat) 0)
set_option maxRecDepth 20000 in
set_option maxHeartbeats 2000000 in
theorem before_any {w : World} {vT vR ev : Value} {T : List Ev} {R : List Int} (hT : SlE w vT T) (hR : Sl w vR R) (hE : Er w ev) (hF : formT T = true) (hW : ∀ k, k < T.length → wfI (T.getD k zE).o) (hn : T.length ≤ 100000) (a b : Nat) (ha : a < T.length) (hb : b < T.length) :
    Calls Tryd.prog 8 #[vT, vR, .int .i64 (a : Nat), .int .i64 (b : Nat)] w (Vb w (.tuple #[.bool (befM R T a b), .nilIface])) := by
  obtain ⟨aT, cT, rfl, hcT, _⟩ := hT.form
  have CK := hide (check_any hT hE hn)
  rw [hF, show erF ev true = .nilIface from rfl] at CK
  have ha' : (a : Int) < (T.length : Int) := by omega
  have hb' : (b : Int) < (T.length : Int) := by omega
  have HT := hide hT
  have HR := hide hR
  have HF := hide hF
  have HW := hide hW
  have HN := hide hn
  have BM : Hid (befM R T a b = (decide (a < b) && decide (max ((pastsM R (T.take (b + 1))).getD a sn0 (T.getD a zE).g.toNat) 0 ≤ max ((pastsM R (T.take (b + 1))).getD b sn0 (T.getD a zE).g.toNat) 0))) := hide rfl
  generalize befM R T a b = res at *
  clear hT hR hE hF hW
  go_enter Tryd.func8, Tryd.ntmps8
  go_wp2_with fail
  refine CK.out.mono ?_
  rintro e w1 ⟨rfl, b1⟩
  have B1 := hide b1
  clear b1 CK
  by_cases hab : a < b
  · have hab' : ¬ (b : Int) ≤ (a : Int) := by omega
    have L1 : (T.take (b + 1)).length = b + 1 := by rw [List.length_take]; omega
    have PS := hide (pasts_any (w := w1) ((HT.out.bel B1.out).take (b + 1) (by omega)) (HR.out.bel B1.out) (fun k hk => by rw [L1] at hk; rw [takeE T _ k hk]; exact formT_at HF.out k (by omega)) (fun k hk => by rw [L1] at hk; rw [takeE T _ k hk]; exact HW.out k (by omega)) (by rw [L1]; omega))
    have hb8 : b ≤ 100000 := by omega
    have HL := hide L1
    clear L1
    go_wp2_with fail
    refine PS.out.mono ?_
    rintro e w2 ⟨v, rfl, b2, hs⟩
    have hs' : SlS w2 v (pastsM R (T.take (b + 1))) := hs
    have hl2 : (pastsM R (T.take (b + 1))).length = b + 1 := by rw [pastsM_len]; exact HL.out
    obtain ⟨pp, hpp⟩ : ∃ q, q = pastsM R (T.take (b + 1)) := ⟨_, rfl⟩
    rw [← hpp] at hs' BM hl2
    obtain ⟨aP, cP, rfl, _, _⟩ := hs'.form
    obtain ⟨bP, eP, A1⟩ := hs'.at a (by omega)
    subst eP
    obtain ⟨bP', eP', A2⟩ := hs'.at b (by omega)
    injection eP' with eP'
    injection eP' with eP' _ _
    subst eP'
    have B2 := hide (bel_trans B1.out b2)
    obtain ⟨bT, off, rfl, hbT, t0, _, _, _⟩ := (HT.out.bel B2.out).at a ha
    have hf := evB_out (formT_at HF.out a ha)
    obtain ⟨g, hg⟩ : ∃ g : Nat, (T.getD a zE).g = g := ⟨(T.getD a zE).g.toNat, by omega⟩
    have hg8 : g < 8 := by omega
    rw [hg] at t0
    have e9 : Hid (res = decide (max (pp.getD a sn0 g) 0 ≤ max (pp.getD b sn0 g) 0)) := hide (by rw [BM.out, decide_eq_true hab, Bool.true_and, hg, Int.toNat_natCast])
    have OF := hide (fun wz (hz : Below w2.heap.size w2 wz) => of_any (A1.bel hz) g hg8)
    have HO := hide (fun wz (hz : Below w2.heap.size w2 wz) n => holds_any (A2.bel hz) g hg8 n)
    have KS := hide (fun wz (hz : Below w2.heap.size w2 wz) => (show wz.cell? ⟨bT, off + a * 4, none⟩ = some (.int .i64 (g : Nat)) from (hz.cell (p := ⟨bT, off + a * 4, none⟩) hbT).trans t0))
    have haP : (a : Int) < (pp.length : Int) := by omega
    have hbP : (b : Int) < (pp.length : Int) := by omega
    generalize max (pp.getD a sn0 g) 0 = x at *
    generalize max (pp.getD b sn0 g) 0 = y at *
    clear b2 hs hs' hpp A1 A2 t0 hbT hf hg BM PS HL HT HR HF HW hl2
    go_upto_region 9 with fail
    refine wp_region_T (S := fun wz => wz.cell? ⟨bT, off + a * 4, none⟩ = some (.int .i64 (g : Nat))) (fun _ => true) mixed (KS.out _ (Below.refl _ _).drew) (fun hH => ?_)
    refine Tm 0 ?_
    simp only [Act.put, SA]
    refine Tm 1 ?_
    simp only [Act.put, SA]
    refine Tm 2 ?_
    simp only [Act.put, SA]
    refine Tm 3 ?_
    simp only [Act.put, SA]
    refine Tm 4 ?_
    simp only [Act.put, SA]
    refine Tm 5 ?_
    simp only [Act.put, SA]
    refine Tm 6 ?_
    simp only [Act.put, SA]
    refine Tm 7 ?_
    simp only [Act.put, SA]
    refine Tm 8 ?_
    simp only [Act.put, SA]
    refine Tm 9 ?_
    simp only [Act.put, SA]
    refine Tl 10 (v := ?_) ?_ hH ?_
    rotate_left 1
    · (intro wy hSw; have q := hSw; clear hSw; go_simp <;> with_reducible rfl)
    simp only [Act.put, SA]
    refine Tr 11 (fun K1 hK1 => ?_)
    go_simp
    refine (OF.out _ (Below.refl _ _).drew).mono ?_
    rintro e w3 ⟨rfl, b3⟩
    have B3 := hide (bel_trans (Below.refl w2.heap.size w2).drew b3)
    refine hK1.out _ _ (fun _ => KS.out _ B3.out) (fun _ => ?_)
    clear hK1 K1 b3
    refine Tr 12 (fun K1 hK1 => ?_)
    go_simp
    refine (HO.out _ B3.out _).mono ?_
    rintro e w4 ⟨rfl, b4⟩
    have B4 := hide (bel_trans B3.out b4)
    refine hK1.out _ _ (fun _ => KS.out _ B4.out) (fun _ => ?_)
    clear hK1 K1 b4 hH
    refine Tm 13 ?_
    simp only [Act.put, SA]
    refine Tm 14 ?_
    simp only [Act.put, SA]
    refine T_done (by kernel_rfl) ?_ _
    go_wp2_with fail
    go_ret2
    rw [e9.out]
    exact ⟨rfl, bel_trans B2.out B4.out⟩
  · have hab' : (b : Int) ≤ (a : Int) := by omega
    have e9 : Hid (res = false) := hide (by rw [BM.out, decide_eq_false hab, Bool.false_and])
    clear BM
    go_wp2_with fail
    go_ret2
    rw [e9.out]
    exact ⟨rfl, B1.out⟩
end Go.Proofs.YticgmebbnnmikaaDoor.Ck
