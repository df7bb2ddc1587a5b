/- Texts of this proof, packed: contracts of the program's functions, and the plain model that they are held against. -/
import Derived.Test.YtfnplhfjfolojaaGreatDoorQar
set_option maxRecDepth 20000
set_option maxHeartbeats 4000000
namespace Go.Proofs.YtfnplhfjfolojaaGreatDoor.Ck.Sho
open Go.RowKit
def dcT (bd : Nd -> List UInt8) : Nd -> List UInt8
  | .mk k _ nm t n _ _ _ ks =>
    Zz k ++ ([32] ++ (nm.data.toList ++ ((
      if k = 2 then [32] ++ (Yf t ++ [59])
      else if k = 3 ∨ k = 5 then [91] ++ (decT n.toNat [] ++ ([93, 32] ++ (Yf t ++ [59])))
      else if k = 7 then fnT bd ks
      else [59]) ++ [10])))
theorem typ_wf {t : Int} (h : typB t = true) : (Lit.int .i64 t).wf = true := by
 unfold typB at h
 simp only [Bool.or_eq_true, beq_iff_eq] at h
 rcases h with rfl | rfl | rfl <;> rfl
theorem fn_shape {bl : Nd -> Bool} {ps : Int} {nm : ByteArray} {t nz z ob bi : Int} {ks : List Nd} (h : fnr bl (.mk 7 ps nm t nz z ob bi ks) = true) : ∃ x, ks.getLast? = some x /\ nz = ((ks.length - 1 : Nat) : Int) /\ bl x = true /\ ks.dropLast.all pmB = true := by
 unfold fnr at h
 dsimp only at h
 rw [if_pos rfl] at h
 split at h
 · cases h
 · rename_i x hx
   simp only [Bool.and_eq_true, decide_eq_true_eq] at h
   exact ⟨x, hx, h.1, h.2.1, h.2.2.2.1⟩
theorem pdecl_from {wB : World} {k : Nat} (hT : Tb wB) (hG : 23 <= wB.heap.size) (bl : Nd -> Bool) (bd : Nd -> List UInt8) (n : Nd) (hin : dcr bl n = true) (hN : n.num <= 9223372036854775807) (hD : ∀ x ∈ n.kids, bl x = true -> Yk 145 bd wB k x) : Yk 66 (dcT bd) wB k n := by
 intro w g bo l b1 b2 v hp hB hv hl
 have hv0 := hv
 obtain ⟨kd, ps, nm, t, nz, z, ob, bi, ks⟩ := n
 unfold Zq at hv
 obtain ⟨s, rfl, hkk⟩ := hv
 obtain ⟨oa, cap, rfl, hsh⟩ := hkk.kid
 obtain ⟨len, hln⟩ : ∃ len, len = ks.length := ⟨_, rfl⟩
 rw [← hln] at hkk hv0 ⊢
 have HTB := Zb hT
 clear hT
 by_cases h2 : kd = 2
 · subst h2
   obtain ⟨TT, hTT⟩ : ∃ TT, TT = dcT bd (.mk 2 ps nm t nz z ob bi ks) := ⟨_, rfl⟩
   have ET := Zb (show Zz 2 ++ ([32] ++ (nm.data.toList ++ (([32] ++ (Yf t ++ [59])) ++ [10]))) = TT by rw [hTT]; simp [dcT])
   rw [← hTT] at hl ⊢
   rw [← ET.out] at hl
   clear hTT
   have HW := Zb (show (Lit.int .i64 2).wf = true by decide)
   have ht : typB t = true := by simp [dcr] at hin; exact hin.2.1
   obtain ⟨S, hS⟩ : ∃ S, S = Yf t := ⟨_, rfl⟩
   have HLK := Zb (fun (w' : World) (h : Km w' b2 3 Yf) => h.look t (typ_wf ht))
   rw [← hS] at hl HLK ET
   clear hS ht
   have HL := Zb hl
   have HKK := Zb hkk
   have hb1 := Zd w (.cells #[.int .i64 2, .int .i64 ps, .string nm, .int .i64 t, .int .i64 nz, .int .i64 z, .int .i64 ob, .int .u64 bi, .slice oa len cap] 29)
   have Na0 := Zb (show Nod (w.alloc (.cells #[.int .i64 2, .int .i64 ps, .string nm, .int .i64 t, .int .i64 nz, .int .i64 z, .int .i64 ob, .int .u64 bi, .slice oa len cap] 29)) w.heap.size (.int .i64 2) (.int .i64 ps) (.string nm) (.int .i64 t) (.int .i64 nz) (.int .i64 z) (.int .i64 ob) (.int .u64 bi) (.slice oa len cap) from B_ _ _)
   have Qa0 := Zb (hp.pg.new (Nat.le_refl w.heap.size))
   have M0 := Zb (hp.bel hb1)
   have F0 := Zb (Fx.of_bel (g := g) (bo := bo) hb1)
   have W0 := Zb (hB.trans (hb1.mono hB.size))
   have S1 := Zb (show w.heap.size + 1 = (w.alloc (.cells #[.int .i64 2, .int .i64 ps, .string nm, .int .i64 t, .int .i64 nz, .int .i64 z, .int .i64 ob, .int .u64 bi, .slice oa len cap] 29)).heap.size by simp)
   clear hp hB hl hb1 hkk hD hv0 hin hsh hln hN
   go_enter Tryz.func66, Tryz.ntmps66
   go_wp2_with fail
   generalize w.alloc _ = w1 at *
   refine (ZT M0.out 2 ps nm t nz z ob bi oa len cap HW.out (w.heap.size + 1) S1.out [⟨#[32]⟩, nm] 2 (by simp) (by have hz := HL.out; have z0 := Ym ⟨#[32]⟩ nm; simp only [List.length_append, List.length_cons, List.length_nil] at *; omega)).mono ?_
   rintro e y0 ⟨rfl, bb0, pp, tt⟩
   have M1 := Zb (pp)
   have F1 := Zb (F0.out.trans tt)
   have W1 := Zb (W0.out.trans (tt.bel M0.out.pg))
   have Na1 := Zb (Nod.fx Na0.out tt Qa0.out.1 Qa0.out.2)
   have Qa1 := Zb (And.intro Qa0.out.1 (tt.ne (Ze Na0.out) Qa0.out.2))
   clear pp tt M0 F0 W0 Na0 Qa0 
   obtain ⟨_, va0, va1, va2, va3, va4, va5, va6, va7, va8⟩ := Na1.out.all
   go_wp2_with fail
   clear va0 va1 va2 va3 va4 va5 va6 va7 va8
   refine wp_region_held_drew (S := fun w' => w'.cell? ⟨g, 3, none⟩ = some (.map (some b2)) /\ Nod w' w.heap.size (.int .i64 2) (.int .i64 ps) (.string nm) (.int .i64 t) (.int .i64 nz) (.int .i64 z) (.int .i64 ob) (.int .u64 bi) (.slice oa len cap) /\ Km w' b2 3 Yf) ZI ⟨M1.out.pg.cells.2.1, Na1.out, M1.out.k2⟩ (fun hH => ?_)
   have J0 := Zb (show Below y0.heap.size y0 y0.drew from Zm (Below.refl _ _))
   generalize y0.drew = d0 at *
   refine H_ 0 (v := ?_) ?_ hH ?_
   rotate_left 1
   · (intro w _; go_simp <;> with_reducible rfl)
   simp only [Act.put, S_]
   refine H_ 1 (v := ?_) ?_ hH ?_
   rotate_left 1
   · (intro w _; go_simp <;> with_reducible rfl)
   simp only [Act.put, S_]
   refine H_ 2 (v := ?_) ?_ hH ?_
   rotate_left 1
   · (intro w _; go_simp <;> with_reducible rfl)
   simp only [Act.put, S_]
   refine H_ 3 (v := ?_) ?_ hH ?_
   rotate_left 1
   · (intro w _; go_simp <;> with_reducible rfl)
   simp only [Act.put, S_]
   refine H_ 4 (v := ?_) ?_ hH ?_
   rotate_left 1
   · (intro w hSw; have f0 := hSw.1; obtain ⟨_, e0, e1, e2, e3, e4, e5, e6, e7, e8⟩ := hSw.2.1.all; have lk := HLK.out w hSw.2.2; have kf := kwf (.string ⟨S.toArray⟩) w; clear hSw; go_simp <;> with_reducible rfl)
   simp only [Act.put, S_]
   refine H_ 5 (v := ?_) ?_ hH ?_
   rotate_left 1
   · (intro w _; go_simp <;> with_reducible rfl)
   simp only [Act.put, S_]
   refine H_ 6 (v := ?_) ?_ hH ?_
   rotate_left 1
   · (intro w hSw; have f0 := hSw.1; obtain ⟨_, e0, e1, e2, e3, e4, e5, e6, e7, e8⟩ := hSw.2.1.all; have lk := HLK.out w hSw.2.2; have kf := kwf (.string ⟨S.toArray⟩) w; clear hSw; go_simp <;> with_reducible rfl)
   simp only [Act.put, S_]
   refine H_ 7 (v := ?_) ?_ hH ?_
   rotate_left 1
   · (intro w hSw; have f0 := hSw.1; obtain ⟨_, e0, e1, e2, e3, e4, e5, e6, e7, e8⟩ := hSw.2.1.all; have lk := HLK.out w hSw.2.2; have kf := kwf (.string ⟨S.toArray⟩) w; clear hSw; go_simp <;> with_reducible rfl)
   simp only [Act.put, S_]
   refine H_ 8 (v := ?_) ?_ hH ?_
   rotate_left 1
   · (intro w hSw; have f0 := hSw.1; obtain ⟨_, e0, e1, e2, e3, e4, e5, e6, e7, e8⟩ := hSw.2.1.all; have lk := HLK.out w hSw.2.2; have kf := kwf (.string ⟨S.toArray⟩) w; clear hSw; go_simp <;> with_reducible rfl)
   simp only [Act.put, S_]
   refine wpAnyH_ready (rs := [9]) (by kernel_rfl) (by decide) ?_
   refine AllReadyH.cons rfl (fun K1 hK1 => ?_) AllReadyH.nil
   go_simp
   refine hK1.out _ _ ⟨((Zd d0 (.cells #[.string ⟨#[32]⟩, .string ⟨S.toArray⟩, .string ⟨#[59]⟩] 9)).cell (World.block_lt_of_cell? d0 _ hH.1)).trans hH.1, hH.2.1.bel (Zd d0 (.cells #[.string ⟨#[32]⟩, .string ⟨S.toArray⟩, .string ⟨#[59]⟩] 9)), hH.2.2.bel (Zd d0 (.cells #[.string ⟨#[32]⟩, .string ⟨S.toArray⟩, .string ⟨#[59]⟩] 9))⟩ (fun hH2 => ?_)
   clear hK1 K1
   refine wpAnyH_ready (rs := [10]) (by kernel_rfl) (by decide) ?_
   refine AllReadyH.cons rfl (fun K1 hK1 => ?_) AllReadyH.nil
   go_simp
   refine (ZB (M1.out.pg.bel J0.out) _ rfl [⟨#[32]⟩, ⟨S.toArray⟩, ⟨#[59]⟩] 3 (by simp) (by have hz := HL.out; have z0 := Ym ⟨#[32]⟩ nm; have z1 := Yp ⟨#[32]⟩ ⟨S.toArray⟩ ⟨#[59]⟩; simp only [List.length_append, List.length_cons, List.length_nil] at *; omega)).mono ?_
   rintro e y1 ⟨rfl, bb1, pp, t9⟩
   have tt := (Fx.of_bel (g := g) (bo := bb0) J0.out).trans t9
   have M2 := Zb (M1.out.step pp tt)
   have F2 := Zb (F1.out.trans tt)
   have W2 := Zb (W1.out.trans (tt.bel M1.out.pg))
   have Na2 := Zb (Nod.fx Na1.out tt Qa1.out.1 Qa1.out.2)
   have Qa2 := Zb (And.intro Qa1.out.1 (tt.ne (Ze Na1.out) Qa1.out.2))
   clear pp tt M1 F1 W1 Na1 Qa1 
   refine hK1.out _ _ ⟨M2.out.pg.cells.2.1, Na2.out, M2.out.k2⟩ (fun hH3 => ?_)
   clear hK1 K1 t9 hH hH2 hH3
   refine wpAnyH_done (by kernel_rfl) ?_ _
   go_wp2_with fail
   refine (ZB M2.out.pg _ rfl [⟨#[10]⟩] 1 (by simp) (by have hz := HL.out; have z0 := Ym ⟨#[32]⟩ nm; have z1 := Yp ⟨#[32]⟩ ⟨S.toArray⟩ ⟨#[59]⟩; have z2 := Zw ⟨#[10]⟩; simp only [List.length_append, List.length_cons, List.length_nil] at *; omega)).mono ?_
   rintro e y2 ⟨rfl, bb2, pp, tt⟩
   have M3 := Zb (M2.out.step pp tt)
   have F3 := Zb (F2.out.trans tt)
   have W3 := Zb (W2.out.trans (tt.bel M2.out.pg))
   have Na3 := Zb (Nod.fx Na2.out tt Qa2.out.1 Qa2.out.2)
   have Qa3 := Zb (And.intro Qa2.out.1 (tt.ne (Ze Na2.out) Qa2.out.2))
   clear pp tt M2 F2 W2 Na2 Qa2 
   go_wp2_with fail
   go_end0
   exact ⟨rfl, _, by rw [← ET.out]; have hm := M3.out; simpa [Zv] using hm, F3.out⟩
 by_cases h3 : kd = 3
 · subst h3
   obtain ⟨TT, hTT⟩ : ∃ TT, TT = dcT bd (.mk 3 ps nm t nz z ob bi ks) := ⟨_, rfl⟩
   have ET := Zb (show Zz 3 ++ ([32] ++ (nm.data.toList ++ (([91] ++ (decT nz.toNat [] ++ ([93, 32] ++ (Yf t ++ [59])))) ++ [10]))) = TT by rw [hTT]; simp [dcT])
   rw [← hTT] at hl ⊢
   rw [← ET.out] at hl
   clear hTT
   have HW := Zb (show (Lit.int .i64 3).wf = true by decide)
   have ht : typB t = true := by simp [dcr] at hin; exact hin.2.1
   obtain ⟨S, hS⟩ : ∃ S, S = Yf t := ⟨_, rfl⟩
   have HLK := Zb (fun (w' : World) (h : Km w' b2 3 Yf) => h.look t (typ_wf ht))
   rw [← hS] at hl HLK ET
   clear hS ht
   have hz0 : 0 <= nz := by simp [dcr] at hin; exact hin.2.2.1
   obtain ⟨D, hDD⟩ : ∃ D, D = decT nz.toNat [] := ⟨_, rfl⟩
   have IT := Zb (fun (w' : World) (h : Tb w') => itoa_any h nz hz0 hN)
   rw [← hDD] at hl IT ET
   clear hDD hz0
   have HL := Zb hl
   have HKK := Zb hkk
   have hb1 := Zd w (.cells #[.int .i64 3, .int .i64 ps, .string nm, .int .i64 t, .int .i64 nz, .int .i64 z, .int .i64 ob, .int .u64 bi, .slice oa len cap] 29)
   have Na0 := Zb (show Nod (w.alloc (.cells #[.int .i64 3, .int .i64 ps, .string nm, .int .i64 t, .int .i64 nz, .int .i64 z, .int .i64 ob, .int .u64 bi, .slice oa len cap] 29)) w.heap.size (.int .i64 3) (.int .i64 ps) (.string nm) (.int .i64 t) (.int .i64 nz) (.int .i64 z) (.int .i64 ob) (.int .u64 bi) (.slice oa len cap) from B_ _ _)
   have Qa0 := Zb (hp.pg.new (Nat.le_refl w.heap.size))
   have M0 := Zb (hp.bel hb1)
   have F0 := Zb (Fx.of_bel (g := g) (bo := bo) hb1)
   have W0 := Zb (hB.trans (hb1.mono hB.size))
   have S1 := Zb (show w.heap.size + 1 = (w.alloc (.cells #[.int .i64 3, .int .i64 ps, .string nm, .int .i64 t, .int .i64 nz, .int .i64 z, .int .i64 ob, .int .u64 bi, .slice oa len cap] 29)).heap.size by simp)
   clear hp hB hl hb1 hkk hD hv0 hin hsh hln hN
   go_enter Tryz.func66, Tryz.ntmps66
   go_wp2_with fail
   generalize w.alloc _ = w1 at *
   refine (ZT M0.out 3 ps nm t nz z ob bi oa len cap HW.out (w.heap.size + 1) S1.out [⟨#[32]⟩, nm] 2 (by simp) (by have hz := HL.out; have z0 := Ym ⟨#[32]⟩ nm; simp only [List.length_append, List.length_cons, List.length_nil] at *; omega)).mono ?_
   rintro e y0 ⟨rfl, bb0, pp, tt⟩
   have M1 := Zb (pp)
   have F1 := Zb (F0.out.trans tt)
   have W1 := Zb (W0.out.trans (tt.bel M0.out.pg))
   have Na1 := Zb (Nod.fx Na0.out tt Qa0.out.1 Qa0.out.2)
   have Qa1 := Zb (And.intro Qa0.out.1 (tt.ne (Ze Na0.out) Qa0.out.2))
   clear pp tt M0 F0 W0 Na0 Qa0 
   obtain ⟨_, va0, va1, va2, va3, va4, va5, va6, va7, va8⟩ := Na1.out.all
   go_wp2_with fail
   clear va0 va1 va2 va3 va4 va5 va6 va7 va8
   refine wp_region_held_drew (S := fun w' => w'.cell? ⟨g, 3, none⟩ = some (.map (some b2)) /\ Nod w' w.heap.size (.int .i64 3) (.int .i64 ps) (.string nm) (.int .i64 t) (.int .i64 nz) (.int .i64 z) (.int .i64 ob) (.int .u64 bi) (.slice oa len cap) /\ Km w' b2 3 Yf) ZI ⟨M1.out.pg.cells.2.1, Na1.out, M1.out.k2⟩ (fun hH => ?_)
   have J0 := Zb (show Below y0.heap.size y0 y0.drew from Zm (Below.refl _ _))
   generalize y0.drew = d0 at *
   refine H_ 0 (v := ?_) ?_ hH ?_
   rotate_left 1
   · (intro w _; go_simp <;> with_reducible rfl)
   simp only [Act.put, S_]
   refine H_ 1 (v := ?_) ?_ hH ?_
   rotate_left 1
   · (intro w _; go_simp <;> with_reducible rfl)
   simp only [Act.put, S_]
   refine H_ 2 (v := ?_) ?_ hH ?_
   rotate_left 1
   · (intro w hSw; have f0 := hSw.1; obtain ⟨_, e0, e1, e2, e3, e4, e5, e6, e7, e8⟩ := hSw.2.1.all; have lk := HLK.out w hSw.2.2; have kf := kwf (.string ⟨S.toArray⟩) w; clear hSw; go_simp <;> with_reducible rfl)
   simp only [Act.put, S_]
   refine H_ 4 (v := ?_) ?_ hH ?_
   rotate_left 1
   · (intro w _; go_simp <;> with_reducible rfl)
   simp only [Act.put, S_]
   refine H_ 5 (v := ?_) ?_ hH ?_
   rotate_left 1
   · (intro w _; go_simp <;> with_reducible rfl)
   simp only [Act.put, S_]
   refine H_ 6 (v := ?_) ?_ hH ?_
   rotate_left 1
   · (intro w _; go_simp <;> with_reducible rfl)
   simp only [Act.put, S_]
   refine H_ 7 (v := ?_) ?_ hH ?_
   rotate_left 1
   · (intro w hSw; have f0 := hSw.1; obtain ⟨_, e0, e1, e2, e3, e4, e5, e6, e7, e8⟩ := hSw.2.1.all; have lk := HLK.out w hSw.2.2; have kf := kwf (.string ⟨S.toArray⟩) w; clear hSw; go_simp <;> with_reducible rfl)
   simp only [Act.put, S_]
   refine H_ 8 (v := ?_) ?_ hH ?_
   rotate_left 1
   · (intro w _; go_simp <;> with_reducible rfl)
   simp only [Act.put, S_]
   refine H_ 9 (v := ?_) ?_ hH ?_
   rotate_left 1
   · (intro w hSw; have f0 := hSw.1; obtain ⟨_, e0, e1, e2, e3, e4, e5, e6, e7, e8⟩ := hSw.2.1.all; have lk := HLK.out w hSw.2.2; have kf := kwf (.string ⟨S.toArray⟩) w; clear hSw; go_simp <;> with_reducible rfl)
   simp only [Act.put, S_]
   refine H_ 10 (v := ?_) ?_ hH ?_
   rotate_left 1
   · (intro w hSw; have f0 := hSw.1; obtain ⟨_, e0, e1, e2, e3, e4, e5, e6, e7, e8⟩ := hSw.2.1.all; have lk := HLK.out w hSw.2.2; have kf := kwf (.string ⟨S.toArray⟩) w; clear hSw; go_simp <;> with_reducible rfl)
   simp only [Act.put, S_]
   refine H_ 11 (v := ?_) ?_ hH ?_
   rotate_left 1
   · (intro w hSw; have f0 := hSw.1; obtain ⟨_, e0, e1, e2, e3, e4, e5, e6, e7, e8⟩ := hSw.2.1.all; have lk := HLK.out w hSw.2.2; have kf := kwf (.string ⟨S.toArray⟩) w; clear hSw; go_simp <;> with_reducible rfl)
   simp only [Act.put, S_]
   refine wpAnyH_ready (rs := [3]) (by kernel_rfl) (by decide) ?_
   refine AllReadyH.cons rfl (fun K1 hK1 => ?_) AllReadyH.nil
   go_simp
   refine (IT.out d0 (HTB.out.bel (W1.out.trans (J0.out.mono W1.out.size)) hG)).mono ?_
   rintro e d1 ⟨rfl, hbi⟩
   refine hK1.out _ _ ⟨(hbi.cell (World.block_lt_of_cell? d0 _ hH.1)).trans hH.1, hH.2.1.bel hbi, hH.2.2.bel hbi⟩ (fun hHi => ?_)
   clear hK1 K1
   have J1 := Zb (J0.out.trans (hbi.mono J0.out.size))
   clear hbi hH
   refine wpAnyH_ready (rs := [12]) (by kernel_rfl) (by decide) ?_
   refine AllReadyH.cons rfl (fun K1 hK1 => ?_) AllReadyH.nil
   go_simp
   refine hK1.out _ _ ⟨((Zd d1 (.cells #[.string ⟨#[91]⟩, .string ⟨D.toArray⟩, .string ⟨#[93, 32]⟩, .string ⟨S.toArray⟩, .string ⟨#[59]⟩] 9)).cell (World.block_lt_of_cell? d1 _ hHi.1)).trans hHi.1, hHi.2.1.bel (Zd d1 (.cells #[.string ⟨#[91]⟩, .string ⟨D.toArray⟩, .string ⟨#[93, 32]⟩, .string ⟨S.toArray⟩, .string ⟨#[59]⟩] 9)), hHi.2.2.bel (Zd d1 (.cells #[.string ⟨#[91]⟩, .string ⟨D.toArray⟩, .string ⟨#[93, 32]⟩, .string ⟨S.toArray⟩, .string ⟨#[59]⟩] 9))⟩ (fun hH2 => ?_)
   clear hK1 K1
   refine wpAnyH_ready (rs := [13]) (by kernel_rfl) (by decide) ?_
   refine AllReadyH.cons rfl (fun K1 hK1 => ?_) AllReadyH.nil
   go_simp
   refine (ZB (M1.out.pg.bel J1.out) _ rfl [⟨#[91]⟩, ⟨D.toArray⟩, ⟨#[93, 32]⟩, ⟨S.toArray⟩, ⟨#[59]⟩] 5 (by simp) (by have hz := HL.out; have z0 := Ym ⟨#[32]⟩ nm; have z1 := lenB5 ⟨#[91]⟩ ⟨D.toArray⟩ ⟨#[93, 32]⟩ ⟨S.toArray⟩ ⟨#[59]⟩; simp only [List.length_append, List.length_cons, List.length_nil] at *; omega)).mono ?_
   rintro e y1 ⟨rfl, bb1, pp, t9⟩
   have tt := (Fx.of_bel (g := g) (bo := bb0) J1.out).trans t9
   have M2 := Zb (M1.out.step pp tt)
   have F2 := Zb (F1.out.trans tt)
   have W2 := Zb (W1.out.trans (tt.bel M1.out.pg))
   have Na2 := Zb (Nod.fx Na1.out tt Qa1.out.1 Qa1.out.2)
   have Qa2 := Zb (And.intro Qa1.out.1 (tt.ne (Ze Na1.out) Qa1.out.2))
   clear pp tt M1 F1 W1 Na1 Qa1 
   refine hK1.out _ _ ⟨M2.out.pg.cells.2.1, Na2.out, M2.out.k2⟩ (fun hH3 => ?_)
   clear hK1 K1 t9 hHi hH2 hH3
   refine wpAnyH_done (by kernel_rfl) ?_ _
   go_wp2_with fail
   refine (ZB M2.out.pg _ rfl [⟨#[10]⟩] 1 (by simp) (by have hz := HL.out; have z0 := Ym ⟨#[32]⟩ nm; have z1 := lenB5 ⟨#[91]⟩ ⟨D.toArray⟩ ⟨#[93, 32]⟩ ⟨S.toArray⟩ ⟨#[59]⟩; have z2 := Zw ⟨#[10]⟩; simp only [List.length_append, List.length_cons, List.length_nil] at *; omega)).mono ?_
   rintro e y2 ⟨rfl, bb2, pp, tt⟩
   have M3 := Zb (M2.out.step pp tt)
   have F3 := Zb (F2.out.trans tt)
   have W3 := Zb (W2.out.trans (tt.bel M2.out.pg))
   have Na3 := Zb (Nod.fx Na2.out tt Qa2.out.1 Qa2.out.2)
   have Qa3 := Zb (And.intro Qa2.out.1 (tt.ne (Ze Na2.out) Qa2.out.2))
   clear pp tt M2 F2 W2 Na2 Qa2 
   go_wp2_with fail
   go_end0
   exact ⟨rfl, _, by rw [← ET.out]; have hm := M3.out; simpa [Zv] using hm, F3.out⟩
 by_cases h5 : kd = 5
 · subst h5
   obtain ⟨TT, hTT⟩ : ∃ TT, TT = dcT bd (.mk 5 ps nm t nz z ob bi ks) := ⟨_, rfl⟩
   have ET := Zb (show Zz 5 ++ ([32] ++ (nm.data.toList ++ (([91] ++ (decT nz.toNat [] ++ ([93, 32] ++ (Yf t ++ [59])))) ++ [10]))) = TT by rw [hTT]; simp [dcT])
   rw [← hTT] at hl ⊢
   rw [← ET.out] at hl
   clear hTT
   have HW := Zb (show (Lit.int .i64 5).wf = true by decide)
   have ht : typB t = true := by simp [dcr] at hin; exact hin.2.1
   obtain ⟨S, hS⟩ : ∃ S, S = Yf t := ⟨_, rfl⟩
   have HLK := Zb (fun (w' : World) (h : Km w' b2 3 Yf) => h.look t (typ_wf ht))
   rw [← hS] at hl HLK ET
   clear hS ht
   have hz0 : 0 <= nz := by simp [dcr] at hin; exact hin.2.2.1
   obtain ⟨D, hDD⟩ : ∃ D, D = decT nz.toNat [] := ⟨_, rfl⟩
   have IT := Zb (fun (w' : World) (h : Tb w') => itoa_any h nz hz0 hN)
   rw [← hDD] at hl IT ET
   clear hDD hz0
   have HL := Zb hl
   have HKK := Zb hkk
   have hb1 := Zd w (.cells #[.int .i64 5, .int .i64 ps, .string nm, .int .i64 t, .int .i64 nz, .int .i64 z, .int .i64 ob, .int .u64 bi, .slice oa len cap] 29)
   have Na0 := Zb (show Nod (w.alloc (.cells #[.int .i64 5, .int .i64 ps, .string nm, .int .i64 t, .int .i64 nz, .int .i64 z, .int .i64 ob, .int .u64 bi, .slice oa len cap] 29)) w.heap.size (.int .i64 5) (.int .i64 ps) (.string nm) (.int .i64 t) (.int .i64 nz) (.int .i64 z) (.int .i64 ob) (.int .u64 bi) (.slice oa len cap) from B_ _ _)
   have Qa0 := Zb (hp.pg.new (Nat.le_refl w.heap.size))
   have M0 := Zb (hp.bel hb1)
   have F0 := Zb (Fx.of_bel (g := g) (bo := bo) hb1)
   have W0 := Zb (hB.trans (hb1.mono hB.size))
   have S1 := Zb (show w.heap.size + 1 = (w.alloc (.cells #[.int .i64 5, .int .i64 ps, .string nm, .int .i64 t, .int .i64 nz, .int .i64 z, .int .i64 ob, .int .u64 bi, .slice oa len cap] 29)).heap.size by simp)
   clear hp hB hl hb1 hkk hD hv0 hin hsh hln hN
   go_enter Tryz.func66, Tryz.ntmps66
   go_wp2_with fail
   generalize w.alloc _ = w1 at *
   refine (ZT M0.out 5 ps nm t nz z ob bi oa len cap HW.out (w.heap.size + 1) S1.out [⟨#[32]⟩, nm] 2 (by simp) (by have hz := HL.out; have z0 := Ym ⟨#[32]⟩ nm; simp only [List.length_append, List.length_cons, List.length_nil] at *; omega)).mono ?_
   rintro e y0 ⟨rfl, bb0, pp, tt⟩
   have M1 := Zb (pp)
   have F1 := Zb (F0.out.trans tt)
   have W1 := Zb (W0.out.trans (tt.bel M0.out.pg))
   have Na1 := Zb (Nod.fx Na0.out tt Qa0.out.1 Qa0.out.2)
   have Qa1 := Zb (And.intro Qa0.out.1 (tt.ne (Ze Na0.out) Qa0.out.2))
   clear pp tt M0 F0 W0 Na0 Qa0 
   obtain ⟨_, va0, va1, va2, va3, va4, va5, va6, va7, va8⟩ := Na1.out.all
   go_wp2_with fail
   clear va0 va1 va2 va3 va4 va5 va6 va7 va8
   refine wp_region_held_drew (S := fun w' => w'.cell? ⟨g, 3, none⟩ = some (.map (some b2)) /\ Nod w' w.heap.size (.int .i64 5) (.int .i64 ps) (.string nm) (.int .i64 t) (.int .i64 nz) (.int .i64 z) (.int .i64 ob) (.int .u64 bi) (.slice oa len cap) /\ Km w' b2 3 Yf) ZI ⟨M1.out.pg.cells.2.1, Na1.out, M1.out.k2⟩ (fun hH => ?_)
   have J0 := Zb (show Below y0.heap.size y0 y0.drew from Zm (Below.refl _ _))
   generalize y0.drew = d0 at *
   refine H_ 0 (v := ?_) ?_ hH ?_
   rotate_left 1
   · (intro w _; go_simp <;> with_reducible rfl)
   simp only [Act.put, S_]
   refine H_ 1 (v := ?_) ?_ hH ?_
   rotate_left 1
   · (intro w _; go_simp <;> with_reducible rfl)
   simp only [Act.put, S_]
   refine H_ 2 (v := ?_) ?_ hH ?_
   rotate_left 1
   · (intro w hSw; have f0 := hSw.1; obtain ⟨_, e0, e1, e2, e3, e4, e5, e6, e7, e8⟩ := hSw.2.1.all; have lk := HLK.out w hSw.2.2; have kf := kwf (.string ⟨S.toArray⟩) w; clear hSw; go_simp <;> with_reducible rfl)
   simp only [Act.put, S_]
   refine H_ 4 (v := ?_) ?_ hH ?_
   rotate_left 1
   · (intro w _; go_simp <;> with_reducible rfl)
   simp only [Act.put, S_]
   refine H_ 5 (v := ?_) ?_ hH ?_
   rotate_left 1
   · (intro w _; go_simp <;> with_reducible rfl)
   simp only [Act.put, S_]
   refine H_ 6 (v := ?_) ?_ hH ?_
   rotate_left 1
   · (intro w _; go_simp <;> with_reducible rfl)
   simp only [Act.put, S_]
   refine H_ 7 (v := ?_) ?_ hH ?_
   rotate_left 1
   · (intro w hSw; have f0 := hSw.1; obtain ⟨_, e0, e1, e2, e3, e4, e5, e6, e7, e8⟩ := hSw.2.1.all; have lk := HLK.out w hSw.2.2; have kf := kwf (.string ⟨S.toArray⟩) w; clear hSw; go_simp <;> with_reducible rfl)
   simp only [Act.put, S_]
   refine H_ 8 (v := ?_) ?_ hH ?_
   rotate_left 1
   · (intro w _; go_simp <;> with_reducible rfl)
   simp only [Act.put, S_]
   refine H_ 9 (v := ?_) ?_ hH ?_
   rotate_left 1
   · (intro w hSw; have f0 := hSw.1; obtain ⟨_, e0, e1, e2, e3, e4, e5, e6, e7, e8⟩ := hSw.2.1.all; have lk := HLK.out w hSw.2.2; have kf := kwf (.string ⟨S.toArray⟩) w; clear hSw; go_simp <;> with_reducible rfl)
   simp only [Act.put, S_]
   refine H_ 10 (v := ?_) ?_ hH ?_
   rotate_left 1
   · (intro w hSw; have f0 := hSw.1; obtain ⟨_, e0, e1, e2, e3, e4, e5, e6, e7, e8⟩ := hSw.2.1.all; have lk := HLK.out w hSw.2.2; have kf := kwf (.string ⟨S.toArray⟩) w; clear hSw; go_simp <;> with_reducible rfl)
   simp only [Act.put, S_]
   refine H_ 11 (v := ?_) ?_ hH ?_
   rotate_left 1
   · (intro w hSw; have f0 := hSw.1; obtain ⟨_, e0, e1, e2, e3, e4, e5, e6, e7, e8⟩ := hSw.2.1.all; have lk := HLK.out w hSw.2.2; have kf := kwf (.string ⟨S.toArray⟩) w; clear hSw; go_simp <;> with_reducible rfl)
   simp only [Act.put, S_]
   refine wpAnyH_ready (rs := [3]) (by kernel_rfl) (by decide) ?_
   refine AllReadyH.cons rfl (fun K1 hK1 => ?_) AllReadyH.nil
   go_simp
   refine (IT.out d0 (HTB.out.bel (W1.out.trans (J0.out.mono W1.out.size)) hG)).mono ?_
   rintro e d1 ⟨rfl, hbi⟩
   refine hK1.out _ _ ⟨(hbi.cell (World.block_lt_of_cell? d0 _ hH.1)).trans hH.1, hH.2.1.bel hbi, hH.2.2.bel hbi⟩ (fun hHi => ?_)
   clear hK1 K1
   have J1 := Zb (J0.out.trans (hbi.mono J0.out.size))
   clear hbi hH
   refine wpAnyH_ready (rs := [12]) (by kernel_rfl) (by decide) ?_
   refine AllReadyH.cons rfl (fun K1 hK1 => ?_) AllReadyH.nil
   go_simp
   refine hK1.out _ _ ⟨((Zd d1 (.cells #[.string ⟨#[91]⟩, .string ⟨D.toArray⟩, .string ⟨#[93, 32]⟩, .string ⟨S.toArray⟩, .string ⟨#[59]⟩] 9)).cell (World.block_lt_of_cell? d1 _ hHi.1)).trans hHi.1, hHi.2.1.bel (Zd d1 (.cells #[.string ⟨#[91]⟩, .string ⟨D.toArray⟩, .string ⟨#[93, 32]⟩, .string ⟨S.toArray⟩, .string ⟨#[59]⟩] 9)), hHi.2.2.bel (Zd d1 (.cells #[.string ⟨#[91]⟩, .string ⟨D.toArray⟩, .string ⟨#[93, 32]⟩, .string ⟨S.toArray⟩, .string ⟨#[59]⟩] 9))⟩ (fun hH2 => ?_)
   clear hK1 K1
   refine wpAnyH_ready (rs := [13]) (by kernel_rfl) (by decide) ?_
   refine AllReadyH.cons rfl (fun K1 hK1 => ?_) AllReadyH.nil
   go_simp
   refine (ZB (M1.out.pg.bel J1.out) _ rfl [⟨#[91]⟩, ⟨D.toArray⟩, ⟨#[93, 32]⟩, ⟨S.toArray⟩, ⟨#[59]⟩] 5 (by simp) (by have hz := HL.out; have z0 := Ym ⟨#[32]⟩ nm; have z1 := lenB5 ⟨#[91]⟩ ⟨D.toArray⟩ ⟨#[93, 32]⟩ ⟨S.toArray⟩ ⟨#[59]⟩; simp only [List.length_append, List.length_cons, List.length_nil] at *; omega)).mono ?_
   rintro e y1 ⟨rfl, bb1, pp, t9⟩
   have tt := (Fx.of_bel (g := g) (bo := bb0) J1.out).trans t9
   have M2 := Zb (M1.out.step pp tt)
   have F2 := Zb (F1.out.trans tt)
   have W2 := Zb (W1.out.trans (tt.bel M1.out.pg))
   have Na2 := Zb (Nod.fx Na1.out tt Qa1.out.1 Qa1.out.2)
   have Qa2 := Zb (And.intro Qa1.out.1 (tt.ne (Ze Na1.out) Qa1.out.2))
   clear pp tt M1 F1 W1 Na1 Qa1 
   refine hK1.out _ _ ⟨M2.out.pg.cells.2.1, Na2.out, M2.out.k2⟩ (fun hH3 => ?_)
   clear hK1 K1 t9 hHi hH2 hH3
   refine wpAnyH_done (by kernel_rfl) ?_ _
   go_wp2_with fail
   refine (ZB M2.out.pg _ rfl [⟨#[10]⟩] 1 (by simp) (by have hz := HL.out; have z0 := Ym ⟨#[32]⟩ nm; have z1 := lenB5 ⟨#[91]⟩ ⟨D.toArray⟩ ⟨#[93, 32]⟩ ⟨S.toArray⟩ ⟨#[59]⟩; have z2 := Zw ⟨#[10]⟩; simp only [List.length_append, List.length_cons, List.length_nil] at *; omega)).mono ?_
   rintro e y2 ⟨rfl, bb2, pp, tt⟩
   have M3 := Zb (M2.out.step pp tt)
   have F3 := Zb (F2.out.trans tt)
   have W3 := Zb (W2.out.trans (tt.bel M2.out.pg))
   have Na3 := Zb (Nod.fx Na2.out tt Qa2.out.1 Qa2.out.2)
   have Qa3 := Zb (And.intro Qa2.out.1 (tt.ne (Ze Na2.out) Qa2.out.2))
   clear pp tt M2 F2 W2 Na2 Qa2 
   go_wp2_with fail
   go_end0
   exact ⟨rfl, _, by rw [← ET.out]; have hm := M3.out; simpa [Zv] using hm, F3.out⟩
 by_cases h4 : kd = 4
 · subst h4
   obtain ⟨TT, hTT⟩ : ∃ TT, TT = dcT bd (.mk 4 ps nm t nz z ob bi ks) := ⟨_, rfl⟩
   have ET := Zb (show Zz 4 ++ ([32] ++ (nm.data.toList ++ (([59]) ++ [10]))) = TT by rw [hTT]; simp [dcT])
   rw [← hTT] at hl ⊢
   rw [← ET.out] at hl
   clear hTT
   have HW := Zb (show (Lit.int .i64 4).wf = true by decide)
   have HL := Zb hl
   have HKK := Zb hkk
   have hb1 := Zd w (.cells #[.int .i64 4, .int .i64 ps, .string nm, .int .i64 t, .int .i64 nz, .int .i64 z, .int .i64 ob, .int .u64 bi, .slice oa len cap] 29)
   have Na0 := Zb (show Nod (w.alloc (.cells #[.int .i64 4, .int .i64 ps, .string nm, .int .i64 t, .int .i64 nz, .int .i64 z, .int .i64 ob, .int .u64 bi, .slice oa len cap] 29)) w.heap.size (.int .i64 4) (.int .i64 ps) (.string nm) (.int .i64 t) (.int .i64 nz) (.int .i64 z) (.int .i64 ob) (.int .u64 bi) (.slice oa len cap) from B_ _ _)
   have Qa0 := Zb (hp.pg.new (Nat.le_refl w.heap.size))
   have M0 := Zb (hp.bel hb1)
   have F0 := Zb (Fx.of_bel (g := g) (bo := bo) hb1)
   have W0 := Zb (hB.trans (hb1.mono hB.size))
   have S1 := Zb (show w.heap.size + 1 = (w.alloc (.cells #[.int .i64 4, .int .i64 ps, .string nm, .int .i64 t, .int .i64 nz, .int .i64 z, .int .i64 ob, .int .u64 bi, .slice oa len cap] 29)).heap.size by simp)
   clear hp hB hl hb1 hkk hD hv0 hin hsh hln hN
   go_enter Tryz.func66, Tryz.ntmps66
   go_wp2_with fail
   generalize w.alloc _ = w1 at *
   refine (ZT M0.out 4 ps nm t nz z ob bi oa len cap HW.out (w.heap.size + 1) S1.out [⟨#[32]⟩, nm] 2 (by simp) (by have hz := HL.out; have z0 := Ym ⟨#[32]⟩ nm; simp only [List.length_append, List.length_cons, List.length_nil] at *; omega)).mono ?_
   rintro e y0 ⟨rfl, bb0, pp, tt⟩
   have M1 := Zb (pp)
   have F1 := Zb (F0.out.trans tt)
   have W1 := Zb (W0.out.trans (tt.bel M0.out.pg))
   have Na1 := Zb (Nod.fx Na0.out tt Qa0.out.1 Qa0.out.2)
   have Qa1 := Zb (And.intro Qa0.out.1 (tt.ne (Ze Na0.out) Qa0.out.2))
   clear pp tt M0 F0 W0 Na0 Qa0 
   obtain ⟨_, va0, va1, va2, va3, va4, va5, va6, va7, va8⟩ := Na1.out.all
   go_wp2_with fail
   refine (ZB M1.out.pg _ rfl [⟨#[59]⟩] 1 (by simp) (by have hz := HL.out; have z0 := Ym ⟨#[32]⟩ nm; have z1 := Zw ⟨#[59]⟩; simp only [List.length_append, List.length_cons, List.length_nil] at *; omega)).mono ?_
   rintro e y1 ⟨rfl, bb1, pp, tt⟩
   have M2 := Zb (M1.out.step pp tt)
   have F2 := Zb (F1.out.trans tt)
   have W2 := Zb (W1.out.trans (tt.bel M1.out.pg))
   have Na2 := Zb (Nod.fx Na1.out tt Qa1.out.1 Qa1.out.2)
   have Qa2 := Zb (And.intro Qa1.out.1 (tt.ne (Ze Na1.out) Qa1.out.2))
   clear pp tt M1 F1 W1 Na1 Qa1 va0 va1 va2 va3 va4 va5 va6 va7 va8
   go_wp2_with fail
   refine (ZB M2.out.pg _ rfl [⟨#[10]⟩] 1 (by simp) (by have hz := HL.out; have z0 := Ym ⟨#[32]⟩ nm; have z1 := Zw ⟨#[59]⟩; have z2 := Zw ⟨#[10]⟩; simp only [List.length_append, List.length_cons, List.length_nil] at *; omega)).mono ?_
   rintro e y2 ⟨rfl, bb2, pp, tt⟩
   have M3 := Zb (M2.out.step pp tt)
   have F3 := Zb (F2.out.trans tt)
   have W3 := Zb (W2.out.trans (tt.bel M2.out.pg))
   have Na3 := Zb (Nod.fx Na2.out tt Qa2.out.1 Qa2.out.2)
   have Qa3 := Zb (And.intro Qa2.out.1 (tt.ne (Ze Na2.out) Qa2.out.2))
   clear pp tt M2 F2 W2 Na2 Qa2 
   go_wp2_with fail
   go_end0
   exact ⟨rfl, _, by rw [← ET.out]; have hm := M3.out; simpa [Zv] using hm, F3.out⟩
 by_cases h6 : kd = 6
 · subst h6
   obtain ⟨TT, hTT⟩ : ∃ TT, TT = dcT bd (.mk 6 ps nm t nz z ob bi ks) := ⟨_, rfl⟩
   have ET := Zb (show Zz 6 ++ ([32] ++ (nm.data.toList ++ (([59]) ++ [10]))) = TT by rw [hTT]; simp [dcT])
   rw [← hTT] at hl ⊢
   rw [← ET.out] at hl
   clear hTT
   have HW := Zb (show (Lit.int .i64 6).wf = true by decide)
   have HL := Zb hl
   have HKK := Zb hkk
   have hb1 := Zd w (.cells #[.int .i64 6, .int .i64 ps, .string nm, .int .i64 t, .int .i64 nz, .int .i64 z, .int .i64 ob, .int .u64 bi, .slice oa len cap] 29)
   have Na0 := Zb (show Nod (w.alloc (.cells #[.int .i64 6, .int .i64 ps, .string nm, .int .i64 t, .int .i64 nz, .int .i64 z, .int .i64 ob, .int .u64 bi, .slice oa len cap] 29)) w.heap.size (.int .i64 6) (.int .i64 ps) (.string nm) (.int .i64 t) (.int .i64 nz) (.int .i64 z) (.int .i64 ob) (.int .u64 bi) (.slice oa len cap) from B_ _ _)
   have Qa0 := Zb (hp.pg.new (Nat.le_refl w.heap.size))
   have M0 := Zb (hp.bel hb1)
   have F0 := Zb (Fx.of_bel (g := g) (bo := bo) hb1)
   have W0 := Zb (hB.trans (hb1.mono hB.size))
   have S1 := Zb (show w.heap.size + 1 = (w.alloc (.cells #[.int .i64 6, .int .i64 ps, .string nm, .int .i64 t, .int .i64 nz, .int .i64 z, .int .i64 ob, .int .u64 bi, .slice oa len cap] 29)).heap.size by simp)
   clear hp hB hl hb1 hkk hD hv0 hin hsh hln hN
   go_enter Tryz.func66, Tryz.ntmps66
   go_wp2_with fail
   generalize w.alloc _ = w1 at *
   refine (ZT M0.out 6 ps nm t nz z ob bi oa len cap HW.out (w.heap.size + 1) S1.out [⟨#[32]⟩, nm] 2 (by simp) (by have hz := HL.out; have z0 := Ym ⟨#[32]⟩ nm; simp only [List.length_append, List.length_cons, List.length_nil] at *; omega)).mono ?_
   rintro e y0 ⟨rfl, bb0, pp, tt⟩
   have M1 := Zb (pp)
   have F1 := Zb (F0.out.trans tt)
   have W1 := Zb (W0.out.trans (tt.bel M0.out.pg))
   have Na1 := Zb (Nod.fx Na0.out tt Qa0.out.1 Qa0.out.2)
   have Qa1 := Zb (And.intro Qa0.out.1 (tt.ne (Ze Na0.out) Qa0.out.2))
   clear pp tt M0 F0 W0 Na0 Qa0 
   obtain ⟨_, va0, va1, va2, va3, va4, va5, va6, va7, va8⟩ := Na1.out.all
   go_wp2_with fail
   refine (ZB M1.out.pg _ rfl [⟨#[59]⟩] 1 (by simp) (by have hz := HL.out; have z0 := Ym ⟨#[32]⟩ nm; have z1 := Zw ⟨#[59]⟩; simp only [List.length_append, List.length_cons, List.length_nil] at *; omega)).mono ?_
   rintro e y1 ⟨rfl, bb1, pp, tt⟩
   have M2 := Zb (M1.out.step pp tt)
   have F2 := Zb (F1.out.trans tt)
   have W2 := Zb (W1.out.trans (tt.bel M1.out.pg))
   have Na2 := Zb (Nod.fx Na1.out tt Qa1.out.1 Qa1.out.2)
   have Qa2 := Zb (And.intro Qa1.out.1 (tt.ne (Ze Na1.out) Qa1.out.2))
   clear pp tt M1 F1 W1 Na1 Qa1 va0 va1 va2 va3 va4 va5 va6 va7 va8
   go_wp2_with fail
   refine (ZB M2.out.pg _ rfl [⟨#[10]⟩] 1 (by simp) (by have hz := HL.out; have z0 := Ym ⟨#[32]⟩ nm; have z1 := Zw ⟨#[59]⟩; have z2 := Zw ⟨#[10]⟩; simp only [List.length_append, List.length_cons, List.length_nil] at *; omega)).mono ?_
   rintro e y2 ⟨rfl, bb2, pp, tt⟩
   have M3 := Zb (M2.out.step pp tt)
   have F3 := Zb (F2.out.trans tt)
   have W3 := Zb (W2.out.trans (tt.bel M2.out.pg))
   have Na3 := Zb (Nod.fx Na2.out tt Qa2.out.1 Qa2.out.2)
   have Qa3 := Zb (And.intro Qa2.out.1 (tt.ne (Ze Na2.out) Qa2.out.2))
   clear pp tt M2 F2 W2 Na2 Qa2 
   go_wp2_with fail
   go_end0
   exact ⟨rfl, _, by rw [← ET.out]; have hm := M3.out; simpa [Zv] using hm, F3.out⟩
 by_cases h7 : kd = 7
 · subst h7
   obtain ⟨TT, hTT⟩ : ∃ TT, TT = dcT bd (.mk 7 ps nm t nz z ob bi ks) := ⟨_, rfl⟩
   have ET := Zb (show Zz 7 ++ ([32] ++ (nm.data.toList ++ ((fnT bd ks) ++ [10]))) = TT by rw [hTT]; simp [dcT])
   rw [← hTT] at hl ⊢
   rw [← ET.out] at hl
   clear hTT
   have HW := Zb (show (Lit.int .i64 7).wf = true by decide)
   obtain ⟨x, hgl, hnz, hbx, hpm⟩ := fn_shape (bl := bl) (ps := ps) (nm := nm) (t := t) (nz := nz) (z := z) (ob := ob) (bi := bi) (ks := ks) (by simpa [dcr] using hin)
   have hne : ks ≠ [] := fun e => (by rw [e] at hgl; cases hgl)
   obtain ⟨m, hm⟩ : ∃ m, len = m + 1 := ⟨len - 1, by have h2 := List.length_pos_iff.2 hne; omega⟩
   replace hnz : nz = (m : Int) := by rw [hnz, ← hln, hm]; simp
   subst hm hnz
   obtain ⟨a, rfl⟩ : ∃ a, oa = some a := by
    rcases hsh with h | ⟨a, h, _⟩
    · exact absurd h hne
    · exact ⟨a, h⟩
   have hxm : ks[m]? = some x := by
    rw [List.getLast?_eq_getElem?] at hgl
    rw [← hgl]
    congr 1
    omega
   obtain ⟨G, hGG⟩ : ∃ G, G = [40] ++ (lsT pmT ks.dropLast ++ ([41, 32] ++ bd x)) := ⟨_, rfl⟩
   have hf : fnT bd ks = G := by unfold fnT; rw [hgl, hGG]
   have PF := Zb (fun (w' : World) (bo' : Option Nat) (l' : List UInt8) hp' hB' hl' => pfunction_at (w := w') (g := g) (bo := bo') (l := l') (b1 := b1) (b2 := b2) (k := k) hp' hB' 7 ps nm t m z ob bi a cap ks hkk x hxm bd (fun n hn => param_rule n (List.all_eq_true.1 hpm n hn)) (hD x (List.mem_of_getElem? hxm) hbx) hl')
   rw [← hGG] at PF
   rw [hf] at hl ET
   clear hgl hbx hpm hne hxm hGG hf
   have HL := Zb hl
   have HKK := Zb hkk
   have hb1 := Zd w (.cells #[.int .i64 7, .int .i64 ps, .string nm, .int .i64 t, .int .i64 (m : Int), .int .i64 z, .int .i64 ob, .int .u64 bi, .slice (some a) (m + 1) cap] 29)
   have Na0 := Zb (show Nod (w.alloc (.cells #[.int .i64 7, .int .i64 ps, .string nm, .int .i64 t, .int .i64 (m : Int), .int .i64 z, .int .i64 ob, .int .u64 bi, .slice (some a) (m + 1) cap] 29)) w.heap.size (.int .i64 7) (.int .i64 ps) (.string nm) (.int .i64 t) (.int .i64 (m : Int)) (.int .i64 z) (.int .i64 ob) (.int .u64 bi) (.slice (some a) (m + 1) cap) from B_ _ _)
   have Qa0 := Zb (hp.pg.new (Nat.le_refl w.heap.size))
   have M0 := Zb (hp.bel hb1)
   have F0 := Zb (Fx.of_bel (g := g) (bo := bo) hb1)
   have W0 := Zb (hB.trans (hb1.mono hB.size))
   have S1 := Zb (show w.heap.size + 1 = (w.alloc (.cells #[.int .i64 7, .int .i64 ps, .string nm, .int .i64 t, .int .i64 (m : Int), .int .i64 z, .int .i64 ob, .int .u64 bi, .slice (some a) (m + 1) cap] 29)).heap.size by simp)
   clear hp hB hl hb1 hkk hD hv0 hin hsh hln hN
   go_enter Tryz.func66, Tryz.ntmps66
   go_wp2_with fail
   generalize w.alloc _ = w1 at *
   refine (ZT M0.out 7 ps nm t (m : Int) z ob bi (some a) (m + 1) cap HW.out (w.heap.size + 1) S1.out [⟨#[32]⟩, nm] 2 (by simp) (by have hz := HL.out; have z0 := Ym ⟨#[32]⟩ nm; simp only [List.length_append, List.length_cons, List.length_nil] at *; omega)).mono ?_
   rintro e y0 ⟨rfl, bb0, pp, tt⟩
   have M1 := Zb (pp)
   have F1 := Zb (F0.out.trans tt)
   have W1 := Zb (W0.out.trans (tt.bel M0.out.pg))
   have Na1 := Zb (Nod.fx Na0.out tt Qa0.out.1 Qa0.out.2)
   have Qa1 := Zb (And.intro Qa0.out.1 (tt.ne (Ze Na0.out) Qa0.out.2))
   clear pp tt M0 F0 W0 Na0 Qa0 
   obtain ⟨_, va0, va1, va2, va3, va4, va5, va6, va7, va8⟩ := Na1.out.all
   go_wp2_with fail
   refine (PF.out _ _ _ M1.out W1.out (by have hz := HL.out; have z0 := Ym ⟨#[32]⟩ nm; simp only [List.length_append, List.length_cons, List.length_nil] at *; omega)).mono ?_
   rintro e y1 ⟨rfl, bb1, pp, tt⟩
   have M2 := Zb (pp)
   have F2 := Zb (F1.out.trans tt)
   have W2 := Zb (W1.out.trans (tt.bel M1.out.pg))
   have Na2 := Zb (Nod.fx Na1.out tt Qa1.out.1 Qa1.out.2)
   have Qa2 := Zb (And.intro Qa1.out.1 (tt.ne (Ze Na1.out) Qa1.out.2))
   clear pp tt M1 F1 W1 Na1 Qa1 va0 va1 va2 va3 va4 va5 va6 va7 va8
   go_wp2_with fail
   refine (ZB M2.out.pg _ rfl [⟨#[10]⟩] 1 (by simp) (by have hz := HL.out; have z0 := Ym ⟨#[32]⟩ nm; have z1 := Zw ⟨#[10]⟩; simp only [List.length_append, List.length_cons, List.length_nil] at *; omega)).mono ?_
   rintro e y2 ⟨rfl, bb2, pp, tt⟩
   have M3 := Zb (M2.out.step pp tt)
   have F3 := Zb (F2.out.trans tt)
   have W3 := Zb (W2.out.trans (tt.bel M2.out.pg))
   have Na3 := Zb (Nod.fx Na2.out tt Qa2.out.1 Qa2.out.2)
   have Qa3 := Zb (And.intro Qa2.out.1 (tt.ne (Ze Na2.out) Qa2.out.2))
   clear pp tt M2 F2 W2 Na2 Qa2 
   go_wp2_with fail
   go_end0
   exact ⟨rfl, _, by rw [← ET.out]; have hm := M3.out; simpa [Zv] using hm, F3.out⟩
 exfalso
 unfold dcr at hin
 dsimp only at hin
 rw [if_neg h2, if_neg (by omega), if_neg (by omega)] at hin
 unfold fnr at hin
 dsimp only at hin
 rw [if_neg h7] at hin
 cases hin
def dcM (m : Nat) : Nd -> List UInt8 := dcT (fun x => bdT (smF m 1) 0 x.kids)
def pgT (m : Nat) (ks : List Nd) : List UInt8 := ks.flatMap (dcM m)
theorem decl_rule {wB : World} (ht : Tb wB) (hG : 23 <= wB.heap.size) (m : Nat) (n : Nd) (h : dcr (blr (stF m)) n = true) (hg : RgF (m + 2) n) : Yk 66 (dcM m) wB 0 n :=
 pdecl_from ht hG (blr (stF m)) _ n h hg.1.1 (fun x hx hb => pbody_rule ht hG m 0 x hb (hg.2 x hx))
theorem programText_any {w : World} (ht : Tb w) (hG : 23 <= w.heap.size) (m : Nat) (kd ps : Int) (nm : ByteArray) (t nz z ob bi : Int) (oa : Option Addr) (len cap : Nat) (ks : List Nd) (hkk : Zr w ks (.slice oa len cap)) (hin : ∀ n ∈ ks, dcr (blr (stF m)) n = true) (hg : ∀ n ∈ ks, RgF (m + 2) n) (h0 : pgT m ks ≠ []) (hl : (pgT m ks).length <= 140737488355328) :
    Calls Tryz.prog 35 #[.agg #[.int .i64 kd, .int .i64 ps, .string nm, .int .i64 t, .int .i64 nz, .int .i64 z, .int .i64 ob, .int .u64 bi, .slice oa len cap]] w fun e w' => e = .returned (.string ⟨(pgT m ks).toArray⟩) /\ Below w.heap.size w w' := by
  have hb1 := Zd w (.cells #[.int .i64 kd, .int .i64 ps, .string nm, .int .i64 t, .int .i64 nz, .int .i64 z, .int .i64 ob, .int .u64 bi, .slice oa len cap] 29)
  have RR := Zb (fun n hn => decl_rule (ht.bel hb1 hG) (Nat.le_trans hG hb1.size) m n (hin n hn) (hg n hn))
  obtain ⟨dT, hdT⟩ : ∃ dT, dT = dcM m := ⟨_, rfl⟩
  unfold pgT at h0 hl ⊢
  rw [← hdT] at RR h0 hl ⊢
  have hk1 := Zr.bel hb1 _ _ hkk
  obtain ⟨oa1, cap1, hs, hkd⟩ := hk1.kid
  injection hs with hs1 hs2 hs3
  subst hs1 hs3
  have HK := Zb hkd
  have HLN := Zb hs2
  have hlen : len <= 9223372036854775807 := by
    rw [hs2]
    rcases hkd with h | ⟨a, _, h1, h2, _⟩
    · rw [h]; simp
    · unfold maxLen at h2
      omega
  have B0 := Zb hb1
  have HZ := Zb (And.intro h0 hl)
  have N0 := Zb (show Nod (w.alloc (.cells #[.int .i64 kd, .int .i64 ps, .string nm, .int .i64 t, .int .i64 nz, .int .i64 z, .int .i64 ob, .int .u64 bi, .slice oa len cap] 29)) w.heap.size (.int .i64 kd) (.int .i64 ps) (.string nm) (.int .i64 t) (.int .i64 nz) (.int .i64 z) (.int .i64 ob) (.int .u64 bi) (.slice oa len cap) from B_ _ _)
  clear ht hin hg hkk hk1 hkd hs2 hb1 h0 hl hdT
  go_enter Tryz.func35, Tryz.ntmps35
  go_wp2_with fail
  generalize w.alloc _ = w1 at *
  refine (newPage_any w1).mono ?_
  rintro e w2 ⟨g, b1, b2, rfl, hp, hk1, hk2, _, _, hb2⟩
  have M2 := Zb (show Pm w2 w1.heap.size g none ((ks.take 0).flatMap dT) b1 b2 ((0 : Nat) : Int) from ⟨hp, hk1, hk2⟩)
  have B2 := Zb hb2
  have n2 := N0.out.bel hb2
  obtain ⟨_, v0, v1, v2, v3, v4, v5, v6, v7, v8⟩ := n2.all
  clear hp hk1 hk2 hb2 n2 N0
  go_wp2_with fail
  clear v0 v1 v2 v3 v4 v5 v6 v7 v8
  go_loopw [10] (fun vi wr => ∃ (j : Nat), j <= len /\ vi = .int .i64 j /\ Hid (∃ bo', Pm wr w1.heap.size g bo' ((ks.take j).flatMap dT) b1 b2 ((0 : Nat) : Int) /\ Below w1.heap.size w1 wr)) (fun vi _ => len - (intOf vi).toNat)
  case atStart => exact ⟨0, Nat.zero_le _, rfl, none, M2.out, B2.out⟩
  case round =>
    obtain ⟨j, hj, rfl, I⟩ := hrel
    by_cases hjl : j < len
    · have hj2 : (j : Int) < (len : Int) := by omega
      obtain ⟨a, rfl, hc1, hc2, hkid⟩ : ∃ a, oa = some a /\ ks.length <= cap /\ cap <= maxLen /\ ∀ j n, ks[j]? = some n -> ZD w1 a (9 * j) n := by
        rcases HK.out with h | h
        · exfalso
          have := HLN.out
          rw [h] at this
          simp at this
          omega
        · exact h
      obtain ⟨n, hn⟩ : ∃ n, ks[j]? = some n := ⟨_, List.getElem?_eq_getElem (by have := HLN.out; omega)⟩
      have HRN := Zb (RR.out n (List.mem_of_getElem? hn))
      obtain ⟨bo1, m1, w1'⟩ := I.out
      obtain ⟨T, hT⟩ : ∃ T, T = dT n := ⟨_, rfl⟩
      have hsn : (ks.take (j + 1)).flatMap dT = (ks.take j).flatMap dT ++ T := by rw [YI hn, fm_snoc, hT]
      have hle := fm_take dT ks (j + 1)
      rw [hsn] at hle
      have hlb := Zb (show ((ks.take j).flatMap dT).length + T.length <= 140737488355328 by
        have hz := HZ.out.2
        simp only [List.length_append] at hle
        omega)
      obtain ⟨kd', ps', nm', t', nz', z', ob', bi', ks'⟩ := n
      obtain ⟨oa', len', cap', atx, hx⟩ := Yi (hkid j _ hn) w1'
      obtain ⟨c0, c1, c2, c3, c4, c5, c6, c7, c8⟩ := atx
      have hb1 := Zd wr (.cells #[.int .i64 kd', .int .i64 ps', .string nm', .int .i64 t', .int .i64 nz', .int .i64 z', .int .i64 ob', .int .u64 bi', .slice oa' len' cap'] 29)
      have Na0 := Zb (show Nod (wr.alloc (.cells #[.int .i64 kd', .int .i64 ps', .string nm', .int .i64 t', .int .i64 nz', .int .i64 z', .int .i64 ob', .int .u64 bi', .slice oa' len' cap'] 29)) wr.heap.size (.int .i64 kd') (.int .i64 ps') (.string nm') (.int .i64 t') (.int .i64 nz') (.int .i64 z') (.int .i64 ob') (.int .u64 bi') (.slice oa' len' cap') from B_ _ _)
      have M0 := Zb (m1.bel hb1)
      have W0 := Zb (w1'.trans (hb1.mono m1.pg.big))
      have HX := Zb hx
      have HT := Zb hT
      have HSN := Zb hsn
      unfold maxLen at hc2
      clear hkid hn hc1 hb1 m1 w1' hx hT hsn hle I
      go_wp2_with fail
      generalize wr.alloc _ = u1 at *
      refine (HRN.out u1 g bo1 _ b1 b2 _ M0.out W0.out HX.out (by rw [← HT.out]; exact hlb.out)).mono ?_
      rintro e y3 ⟨rfl, b4, p4, t4⟩
      have R := Zb (show ∃ bo', Pm y3 w1.heap.size g bo' ((ks.take (j + 1)).flatMap dT) b1 b2 ((0 : Nat) : Int) /\ Below w1.heap.size w1 y3 from ⟨b4, (by rw [HSN.out, HT.out]; exact p4), W0.out.trans (t4.bel M0.out.pg)⟩)
      clear p4 t4 c0 c1 c2 c3 c4 c5 c6 c7 c8 M0 W0 Na0
      go_wp2_with fail
      go_roundw
      case rel => exact ⟨j + 1, by omega, by go_num, R.out⟩
      case measure =>
        simp [intOf]
        omega
    · have hj2 : ¬ (j : Int) < (len : Int) := by omega
      obtain ⟨bo1, m1, w1'⟩ := I.out
      rw [List.take_of_length_le (by have := HLN.out; omega)] at m1
      have P3 := Zb m1.pg
      have B3 := Zb w1'
      clear m1 w1' I
      go_wp2_with fail
      refine (string_any P3.out HZ.out.1).mono ?_
      rintro e w4 ⟨rfl, hb4⟩
      have B4 := Zb (Zc B0.out (B3.out.trans hb4))
      clear hb4
      go_wp2_with fail
      go_ret
      exact ⟨rfl, B4.out⟩
theorem string_none {w : World} {B g : Nat} {ms mt : Value} {k : Int} (h : Pg w B g none [] ms mt k) :
 Calls Tryz.prog 65 #[.pointer (some ⟨g, 0, none⟩)] w fun e w' => e = .returned (.string ⟨#[]⟩) /\ Below B w w' := by
 obtain ⟨ad, v, hbk, _, hown, hob⟩ := h.at_
 obtain ⟨_, ⟨rfl, _⟩ | ⟨gb, cap, cur, rfl, _⟩⟩ := hown
 rotate_left 1
 · cases hob
 have c1 : w.drew.cell? ⟨g, 1, none⟩ = some (.slice none 0 0) := Zf (show w.drew.heap[g]? = _ from hbk) 1 _ rfl
 have hSD : (Builtin.unsafeSliceData_ #[33] 148 #[.slice none 0 0]).run Tryz.prog w.drew = .ok (.pointer none) w.drew :=
  Lib.run_unsafeSliceData_nil _ _ _ _ _
 have hUS : (Builtin.unsafeString_ #[148, 3] 9 #[.pointer none, .int .i64 0]).run Tryz.prog w.drew = .ok (.string ⟨#[]⟩) w.drew := Lib.run_unsafeString_none _ _ _ _ _
 have BF := Zb (Zm (Below.refl B w))
 clear hbk h hob
 have hmix := ZI
 go_enter Tryz.func65, Tryz.ntmps65
 go_wp2_with fail
 go_region_o
 all_goals (go_wp2; go_ret; exact ⟨rfl, BF.out⟩)
theorem programText_none {w : World} (kd ps : Int) (nm : ByteArray) (t nz z ob bi : Int) (oa : Option Addr) (cap : Nat) :
 Calls Tryz.prog 35 #[.agg #[.int .i64 kd, .int .i64 ps, .string nm, .int .i64 t, .int .i64 nz, .int .i64 z, .int .i64 ob, .int .u64 bi, .slice oa 0 cap]] w fun e w' => e = .returned (.string ⟨#[]⟩) /\ Below w.heap.size w w' := by
 have B0 := Zb (Zd w (.cells #[.int .i64 kd, .int .i64 ps, .string nm, .int .i64 t, .int .i64 nz, .int .i64 z, .int .i64 ob, .int .u64 bi, .slice oa 0 cap] 29))
 have N0 := Zb (show Nod (w.alloc (.cells #[.int .i64 kd, .int .i64 ps, .string nm, .int .i64 t, .int .i64 nz, .int .i64 z, .int .i64 ob, .int .u64 bi, .slice oa 0 cap] 29)) w.heap.size (.int .i64 kd) (.int .i64 ps) (.string nm) (.int .i64 t) (.int .i64 nz) (.int .i64 z) (.int .i64 ob) (.int .u64 bi) (.slice oa 0 cap) from B_ _ _)
 go_enter Tryz.func35, Tryz.ntmps35
 go_wp2_with fail
 generalize w.alloc _ = w1 at *
 refine (newPage_any w1).mono ?_
 rintro e w2 ⟨g, b1, b2, rfl, hp, _, _, _, _, hb2⟩
 have P2 := Zb hp
 have B2 := Zb hb2
 have n2 := N0.out.bel hb2
 obtain ⟨_, v0, v1, v2, v3, v4, v5, v6, v7, v8⟩ := n2.all
 clear hp hb2 n2 N0
 go_wp2_with fail
 clear v0 v1 v2 v3 v4 v5 v6 v7 v8
 go_loopw [10] (fun vi wr => vi = .int .i64 0 /\ wr = w2) (fun _ _ => 0)
 case atStart => exact ⟨rfl, rfl⟩
 case round =>
  obtain ⟨rfl, rfl⟩ := hrel
  go_wp2_with fail
  refine (string_none P2.out).mono ?_
  rintro e w4 ⟨rfl, hb4⟩
  have B4 := Zb (Zc B0.out (B2.out.trans hb4))
  clear hb4
  go_wp2_with fail
  go_ret
  exact ⟨rfl, B4.out⟩
theorem dc_ne (bd : Nd -> List UInt8) (n : Nd) : dcT bd n ≠ [] := by
 obtain ⟨kd, ps, nm, t, nz, z, ob, bi, ks⟩ := n
 simp [dcT]
theorem pg_ne {m : Nat} {ks : List Nd} (h : ks ≠ []) : pgT m ks ≠ [] := by
 cases ks with
 | nil => exact absurd rfl h
 | cons a r =>
  intro e
  have e : dcM m a ++ r.flatMap (dcM m) = [] := by simpa [pgT] using e
  exact dc_ne _ a (List.append_eq_nil_iff.1 e).1
theorem programText_all {w : World} (ht : Tb w) (hG : 23 <= w.heap.size) (m : Nat) (n : Nd) (v : Value) (hv : Zq w n v) (hin : ∀ x ∈ n.kids, dcr (blr (stF m)) x = true) (hg : ∀ x ∈ n.kids, RgF (m + 2) x) (hl : (pgT m n.kids).length <= 140737488355328) :
 Calls Tryz.prog 35 #[v] w fun e w' => e = .returned (.string ⟨(pgT m n.kids).toArray⟩) /\ Below w.heap.size w w' := by
 obtain ⟨kd, ps, nm, t, nz, z, ob, bi, ks⟩ := n
 unfold Zq at hv
 obtain ⟨s, rfl, hkk⟩ := hv
 obtain ⟨oa, cap, rfl, _⟩ := hkk.kid
 by_cases h : ks = []
 · subst h
   exact programText_none kd ps nm t nz z ob bi oa cap
 · exact programText_any ht hG m kd ps nm t nz z ob bi oa ks.length cap ks hkk hin hg (pg_ne h) hl
end Go.Proofs.YtfnplhfjfolojaaGreatDoor.Ck.Sho
namespace Go.Proofs.YtfnplhfjfolojaaGreatDoor.Ck
open Go.RowKit
theorem read_program (s : ByteArray) (p : List Addr) (w : World) (he : Er w p) (hd : w.cell? ⟨3, 0, none⟩ = some (errV p 2)) (hG : 23 <= w.heap.size) :
 Calls Tryz.prog 27 #[.string s, .func (.func 28) #[] #[]] w fun e w' => Xp w p e w' (YJ prD s) := by
 have hmf : ∀ (fn : Fn) (first cap : Array Value) (w : World), (Instr.makeFunc fn first cap).run Tryz.prog w = .ok (.func fn first cap) w := fun _ _ _ _ => rfl
 have hb1 := Zd w Zh
 have k1 := ZG w
 have s1 : (w.alloc Zh).heap.size = w.heap.size + 1 := by simp
 have hb2 := Zd (w.alloc Zh) (.cells #[.nilIface, .int .i64 0] 37)
 have k2 : ((w.alloc Zh).alloc (.cells #[.nilIface, .int .i64 0] 37)).heap[(w.alloc Zh).heap.size]? = some (.cells #[.nilIface, .int .i64 0] 37 (0, 0)) := B_ _ _
 rw [s1] at k2
 have B0 := Zb (Zc hb1 hb2)
 have N0 := Zb (k1.bel hb2)
 have K0 := Zb k2
 have E0 := Zb (he.bel B0.out)
 have D0 := Zb ((B0.out.cell (p := ⟨3, 0, none⟩) (World.block_lt_of_cell? w _ hd)).trans hd)
 have s2 : ((w.alloc Zh).alloc (.cells #[.nilIface, .int .i64 0] 37)).heap.size = w.heap.size + 1 + 1 := by simp
 obtain ⟨out, ho⟩ : ∃ out, YJ prD s = out := ⟨_, rfl⟩
 rw [ho]
 have HW := Zb ho
 clear he hd hb1 k1 s1 hb2 k2 ho
 unfold Zh at *
 go_enter_defers Tryz.func27, Tryz.ntmps27
 go_wp2_with fail
 generalize (w.alloc _).alloc _ = w0 at *
 refine (tokens_all s p w0 E0.out (by omega)).mono ?_
 intro e w1 hp
 obtain ⟨q, hq⟩ : ∃ q, toksF s = q := ⟨_, rfl⟩
 rw [hq] at hp
 cases q with
 | bad k i =>
  obtain ⟨rfl, hb⟩ := hp
  have n1 := N0.out.bel hb
  have k1 := (hb.block _ (Ze K0.out)).trans K0.out
  have c1 := Zf k1 0 _ rfl
  have c2 := Zf k1 1 _ rfl
  have f1 := Zi k1 0
  have f2 := Zi k1 1
  obtain ⟨k2, t2⟩ := Zs k1 0 (errV p k)
  obtain ⟨k3, t3⟩ := Zs k2 1 (.int .i64 i)
  have N3 := Zb ((n1.tn t2 (by omega)).tn t3 (by omega))
  have K3 := Zb k3
  have B1 := Zc B0.out hb
  have B3 := Zb ((B1.trans (t2.bel (by omega) B1.size)).trans (t3.bel (by omega) (Nat.le_trans B1.size t2.size)))
  have HQ := Zb hq
  unfold errV at *
  clear k1 k2 k3 t2 t3 n1 hb B1 hq E0 N0 K0 B0 D0
  go_wp2_with fail
  clear c1 c2 f1 f2
  generalize (w1.setCell ⟨w.heap.size + 1, 0, none⟩ (.iface 231 (.pointer (some (adr p k))))).setCell ⟨w.heap.size + 1, 1, none⟩ (.int .i64 (i : Int)) = w3 at *
  obtain ⟨⟨f0, f1, f2, f3, f4, f5, f6, f7, f8⟩, b0, b1, b2, b3, b4, b5, b6, b7, b8⟩ := N3.out.all
  have c1 := Zf K3.out 0 _ rfl
  have c2 := Zf K3.out 1 _ rfl
  have g1 := Zi K3.out 0
  have g2 := Zi K3.out 1
  go_region
  obtain ⟨k5, t5⟩ := Zy N3.out (.int .i64 0) (.int .i64 0) (.string ⟨#[]⟩) (.int .i64 0) (.int .i64 0) (.int .i64 0) (.int .i64 0) (.int .u64 0) (.slice none 0 0)
  obtain ⟨k6, t6⟩ := Zs ((t5.blk _ (Ze K3.out) (by omega)).trans K3.out) 0 (.iface 231 (.pointer (some (adr p k))))
  obtain ⟨k7, t7⟩ := Zs k6 1 (.int .i64 i)
  have N7 := Zb (Nod.drew ((k5.tn t6 (by omega)).tn t7 (by omega)))
  have K7 := Zb (blk_drew k7)
  have B7 := Zb (Zm (((B3.out.trans (t5.bel (by omega) B3.out.size)).trans (t6.bel (by omega) (Nat.le_trans B3.out.size t5.size))).trans (t7.bel (by omega) (Nat.le_trans B3.out.size (Nat.le_trans t5.size t6.size)))))
  clear k5 t5 k6 t6 k7 t7 f0 f1 f2 f3 f4 f5 f6 f7 f8 b0 b1 b2 b3 b4 b5 b6 b7 b8 c1 c2 g1 g2 N3 K3 B3
  go_wp2_with fail
  refine ⟨_, results_tree rfl rfl N7.out K7.out, ?_⟩
  have hw := HW.out
  simp only [YJ, HQ.out] at hw
  subst hw
  exact ⟨rfl, B7.out⟩
 | ok ts =>
  obtain ⟨v, rfl, hown, hb⟩ := hp
  have hl := toksF_len hq
  have n1 := N0.out.bel hb
  have k1 := (hb.block _ (Ze K0.out)).trans K0.out
  have c1 := Zf k1 0 _ rfl
  have c2 := Zf k1 1 _ rfl
  have f1 := Zi k1 0
  have f2 := Zi k1 1
  obtain ⟨k2, t2⟩ := Zs k1 0 .nilIface
  obtain ⟨k3, t3⟩ := Zs k2 1 (.int .i64 0)
  have B1 := Zc B0.out hb
  have B3 := (B1.trans (t2.bel (by omega) B1.size)).trans (t3.bel (by omega) (Nat.le_trans B1.size t2.size))
  have N3 := (n1.tn t2 (by omega)).tn t3 (by omega)
  have O3 := (hown.tn t2 (by omega)).tn t3 (by omega)
  have E3 := ((E0.out.bel hb).tn t2 (by omega)).tn t3 (by omega)
  have D3 := t3.cell (by omega) (t2.cell (by omega) ((hb.cell (p := ⟨3, 0, none⟩) (World.block_lt_of_cell? w0 _ D0.out)).trans D0.out))
  have z3 : w0.heap.size <= ((w1.setCell ⟨w.heap.size + 1, 0, none⟩ .nilIface).setCell ⟨w.heap.size + 1, 1, none⟩ (.int .i64 0)).heap.size := Nat.le_trans hb.size (Nat.le_trans t2.size t3.size)
  obtain ⟨av, cv, ev⟩ := hown.len
  obtain ⟨n, en⟩ : ∃ n, n = ts.length := ⟨_, rfl⟩
  rw [← en] at ev
  subst ev
  have hb4 := Zd ((w1.setCell ⟨w.heap.size + 1, 0, none⟩ .nilIface).setCell ⟨w.heap.size + 1, 1, none⟩ (.int .i64 0)) (.cells #[.int .i64 0, .string ⟨#[]⟩, .int .i64 0, .int .u64 0, .int .i64 s.size] 80)
  have kb : (((w1.setCell ⟨w.heap.size + 1, 0, none⟩ .nilIface).setCell ⟨w.heap.size + 1, 1, none⟩ (.int .i64 0)).alloc (.cells #[.int .i64 0, .string ⟨#[]⟩, .int .i64 0, .int .u64 0, .int .i64 s.size] 80)).heap[((w1.setCell ⟨w.heap.size + 1, 0, none⟩ .nilIface).setCell ⟨w.heap.size + 1, 1, none⟩ (.int .i64 0)).heap.size]? = some (.cells #[.int .i64 0, .string ⟨#[]⟩, .int .i64 0, .int .u64 0, .int .i64 s.size] 80 (0, 0)) := B_ _ _
  have e3 : ((w1.setCell ⟨w.heap.size + 1, 0, none⟩ .nilIface).setCell ⟨w.heap.size + 1, 1, none⟩ (.int .i64 0)).heap.size = w1.heap.size := by simp
  rw [e3] at kb
  have PU := Zb (fun ty => (O3.below hb4).push (c := 1) (Nat.le_trans z3 hb4.size) hl (endTk s.size) kb ty)
  have HQ := Zb hq
  have I4 := Zb (And.intro (N3.bel hb4) (And.intro ((hb4.block _ (Ze k3)).trans k3) (And.intro (Zc B3 hb4) (And.intro (E3.bel hb4) ((hb4.cell (p := ⟨3, 0, none⟩) (World.block_lt_of_cell? _ _ D3)).trans D3)))))
  have z4 := Zb (Nat.le_trans z3 hb4.size)
  have EN := Zb en
  have HL := Zb hl
  clear k1 k2 k3 t2 t3 n1 hb B1 hq E0 N0 K0 B0 D0 N3 O3 E3 D3 z3 hb4 B3 hown en hl kb e3
  go_wp2_with (first | (at_builtin; refine wpList_appT (.tmp 19) (.tmp 23) _ _ _ PU.out rfl rfl rfl rfl ?_; rintro v7 w7 ⟨o7, t7⟩; obtain ⟨gT, cap, e7, h7⟩ := o7.row (by simp); obtain ⟨m, hm⟩ : ∃ m, m = (ts ++ [endTk s.size]).length := ⟨_, rfl⟩; rw [← hm] at e7; subst e7; have R7 := Zb h7; have M7 := Zb hm; have T7 := Zb t7; clear o7 t7 h7 hm PU))
  clear c1 c2 f1 f2
  have hb8 := Zd w7 (.cells #[.slice (some ⟨gT, 0, none⟩) m cap, .int .i64 0, .int .i64 0] 82)
  have L0 : (ts ++ [endTk s.size]).length = ts.length + 1 := by simp
  obtain ⟨hBg, hgl, hc1, hc2, hrow⟩ := R7.out
  have hE := ends_toks ts s.size
  have hlen := HL.out
  have hm := M7.out
  obtain ⟨i1, i2, i3, i4, i5⟩ := I4.out
  have tb := T7.out
  have z7 : w0.heap.size <= w7.heap.size := Nat.le_trans z4.out tb.size
  have P8 : Ps (w7.alloc (.cells #[.slice (some ⟨gT, 0, none⟩) m cap, .int .i64 0, .int .i64 0] 82)) p w7.heap.size gT (ts ++ [endTk s.size]) 0 0 :=
   ⟨⟨cap, by rw [← hm]; exact B_ _ _, by rw [← hm]; omega, hc2⟩, hrow.bel hb8, by omega, (i4.belB tb (by omega)).bel hb8, (hb8.cell (p := ⟨3, 0, none⟩) (show 3 < w7.heap.size by omega)).trans ((tb.cell (p := ⟨3, 0, none⟩) (show 3 < w0.heap.size by omega)).trans i5), by omega, by omega, by omega⟩
  have n7 : Nod w7 w.heap.size (.int .i64 0) (.int .i64 0) (.string ⟨#[]⟩) (.int .i64 0) (.int .i64 0) (.int .i64 0) (.int .i64 0) (.int .u64 0) (.slice none 0 0) := (tb.block _ (show w.heap.size < w0.heap.size by omega)).trans i1
  have N8 := Zb (n7.bel hb8)
  have K8 := Zb ((hb8.block _ (show w.heap.size + 1 < w7.heap.size by omega)).trans ((tb.block _ (show w.heap.size + 1 < w0.heap.size by omega)).trans i2))
  have B8 := Zb ((i3.trans (tb.mono (show w.heap.size <= w0.heap.size by omega))).trans (hb8.mono (show w.heap.size <= w7.heap.size by omega)))
  have P8 := Zb P8
  have HE := Zb hE
  have Z7 := Zb (And.intro hBg (And.intro hgl z7))
  clear n7 hBg hgl hc1 hc2 hrow hE hlen hm i1 i2 i3 i4 i5 tb z7 hb8 L0 I4 z4 EN HL R7 M7 T7
  generalize w7.alloc _ = w8 at *
  have z8 : w0.heap.size <= w8.heap.size := Nat.le_of_lt (Nat.lt_of_le_of_lt Z7.out.2.2 P8.out.lt_g)
  have hg0 : w0.heap.size <= w7.heap.size := Z7.out.2.2
  have hgT : w0.heap.size <= gT := Z7.out.1
  generalize w7.heap.size = g at *
  have RU := Zb (rule_pr p _ gT _ HE.out _ P8.out)
  refine RU.out.mono ?_
  intro e w9 hp
  rcases hp.both with ⟨kb, jb, c1, rfl, r2⟩ | ⟨kd, ps, nm, t, nz, z, ob, bi, ks, a, len, ck, j, c1, rfl, hk, r1, r2⟩
  · refine doorT_stop rfl rfl (N8.out.tn r2 (by omega)) ((r2.blk _ (Ze K8.out) (by omega)).trans K8.out) (by omega) (fun w' hb => ?_)
    have hw := HW.out
    simp only [YJ, HQ.out, c1] at hw
    subst hw
    exact ⟨rfl, (B8.out.trans (r2.bel (by omega) B8.out.size)).trans (hb _ (Nat.le_refl _) (by omega))⟩
  · have C1 := Zb c1
    have n9 := N8.out.tn r2 (by omega)
    have k9 := (r2.blk _ (Ze K8.out) (by omega)).trans K8.out
    have B9 := B8.out.trans (r2.bel (by omega) B8.out.size)
    obtain ⟨⟨f0, f1, f2, f3, f4, f5, f6, f7, f8⟩, b0, b1, b2, b3, b4, b5, b6, b7, b8⟩ := n9.all
    obtain ⟨x9, s9⟩ := Zy n9 (.int .i64 kd) (.int .i64 ps) (.string nm) (.int .i64 t) (.int .i64 nz) (.int .i64 z) (.int .i64 ob) (.int .u64 bi) (.slice a len ck)
    have N10 := Zb x9
    have K10 := Zb ((s9.blk _ (Ze k9) (by omega)).trans k9)
    have B10 := Zb (B9.trans (s9.bel (by omega) B9.size))
    have P10 := Zb (r1.tn s9 (by omega) (by omega) (by omega))
    have J10 := Zb (hk.tn s9 (by omega))
    clear c1 n9 k9 B9 x9 s9 r1 r2 hk RU N8 K8 B8 P8
    go_wp2_with fail
    clear f0 f1 f2 f3 f4 f5 f6 f7 f8 b0 b1 b2 b3 b4 b5 b6 b7 b8
    generalize ((((((((w9.setCell ⟨w.heap.size, 0, none⟩ (.int .i64 kd)).setCell ⟨w.heap.size, 1, none⟩ (.int .i64 ps)).setCell ⟨w.heap.size, 2, none⟩ (.string nm)).setCell ⟨w.heap.size, 3, none⟩ (.int .i64 t)).setCell ⟨w.heap.size, 4, none⟩ (.int .i64 nz)).setCell ⟨w.heap.size, 5, none⟩ (.int .i64 z)).setCell ⟨w.heap.size, 6, none⟩ (.int .i64 ob)).setCell ⟨w.heap.size, 7, none⟩ (.int .u64 bi)).setCell ⟨w.heap.size, 8, none⟩ (.slice a len ck) = w10 at *
    refine (more_both P10.out).mono ?_
    rintro e w11 (⟨c2, rfl, hb⟩ | ⟨c2, rfl, hb⟩)
    · have n11 := N10.out.bel hb
      have k11 := (hb.block _ (Ze K10.out)).trans K10.out
      have B11 := B10.out.trans (hb.mono B10.out.size)
      have j11 := J10.out.bel hb
      obtain ⟨⟨f0, f1, f2, f3, f4, f5, f6, f7, f8⟩, b0, b1, b2, b3, b4, b5, b6, b7, b8⟩ := n11.all
      obtain ⟨x12, s12⟩ := Zy n11 (.int .i64 kd) (.int .i64 ps) (.string nm) (.int .i64 t) (.int .i64 nz) (.int .i64 z) (.int .i64 ob) (.int .u64 bi) (.slice a len ck)
      have k12 := (s12.blk _ (Ze k11) (by omega)).trans k11
      have g1 := Zi k12 0
      have g2 := Zi k12 1
      have e1 := Zf k12 0 _ rfl
      have e2 := Zf k12 1 _ rfl
      obtain ⟨k13, t13⟩ := Zs k12 0 .nilIface
      obtain ⟨k14, t14⟩ := Zs k13 1 (.int .i64 0)
      have N14 := Zb ((x12.tn t13 (by omega)).tn t14 (by omega))
      have K14 := Zb k14
      have B14 := Zb (((B11.trans (s12.bel (by omega) B11.size)).trans (t13.bel (by omega) (Nat.le_trans B11.size s12.size))).trans (t14.bel (by omega) (Nat.le_trans B11.size (Nat.le_trans s12.size t13.size))))
      have J14 := Zb (((j11.tn s12 (by omega)).tn t13 (by omega)).tn t14 (by omega))
      have C2 := Zb c2
      clear c2 n11 k11 B11 j11 x12 s12 k12 k13 t13 k14 t14 hb N10 K10 B10 P10 J10
      go_wp2_with fail
      refine doorT_end rfl rfl N14.out K14.out ?_
      have hw := HW.out
      simp only [YJ, HQ.out, C1.out, if_pos C2.out] at hw
      subst hw
      refine ⟨_, rfl, ?_, B14.out⟩
      unfold Zj
      exact ⟨_, rfl, J14.out.low (by omega)⟩
    · have P11 := Zb (P10.out.below hb)
      have N11 := Zb (N10.out.bel hb)
      have K11 := Zb ((hb.block _ (Ze K10.out)).trans K10.out)
      have B11 := Zb (B10.out.trans (hb.mono B10.out.size))
      have x1 := P11.out.er.c1
      have C2 := Zb c2
      clear c2 hb N10 K10 B10 P10 J10
      go_wp2_with fail
      refine (refuse_at P11.out _ _).mono ?_
      rintro e w12 ⟨rfl, hb⟩
      refine doorT_stop rfl rfl (N11.out.bel hb) ((hb.block _ (Ze K11.out)).trans K11.out) (by omega) (fun w' hb2 => ?_)
      have hw := HW.out
      simp only [YJ, HQ.out, C1.out, if_neg C2.out] at hw
      subst hw
      exact ⟨rfl, (B11.out.trans (hb.mono B11.out.size)).trans (hb2 _ (Nat.le_refl _) (by omega))⟩
theorem results_Parse {tmps : Array Value} {bT bB : Nat} {w : World} {v0 v1 v2 v3 v4 v5 v6 v7 v8 z0 z1 : Value} (h2 : tmps.getD 2 undef = .pointer (some ⟨bT, 0, none⟩)) (h3 : tmps.getD 3 undef = .pointer (some ⟨bB, 0, none⟩))
 (hT : Nod w bT v0 v1 v2 v3 v4 v5 v6 v7 v8) (hB : w.heap[bB]? = some (.cells #[z0, z1] 37 (0, 0))) :
 (results Tryz.f13 tmps).run Tryz.prog w = .ok (.tuple #[.agg #[v0, v1, v2, v3, v4, v5, v6, v7, v8], .agg #[z0, z1]]) w := by
 have h2' : tmps[2]?.getD undef = .pointer (some ⟨bT, 0, none⟩) := by simpa using h2
 have h3' : tmps[3]?.getD undef = .pointer (some ⟨bB, 0, none⟩) := by simpa using h3
 obtain ⟨_, c0, c1, c2, c3, c4, c5, c6, c7, c8⟩ := hT.all
 have d1 := Zf hB 0 _ rfl
 have d2 := Zf hB 1 _ rfl
 simp [results, Tryz.results13, h2', h3', go_sem, c0, c1, c2, c3, c4, c5, c6, c7, c8, d1, d2]
theorem text_program (s : ByteArray) (p : List Addr) (w : World) (he : Er w p) (hd : w.cell? ⟨3, 0, none⟩ = some (errV p 2)) (hG : 23 <= w.heap.size) :
 Calls Tryz.prog 13 #[.string s] w fun e w' => Xp w p e w' (YJ prD s) := by
 have hb1 := Zd w Zh
 have k1 := ZG w
 have s1 : (w.alloc Zh).heap.size = w.heap.size + 1 := by simp
 have hb2 := Zd (w.alloc Zh) (.cells #[.nilIface, .int .i64 0] 37)
 have k2 : ((w.alloc Zh).alloc (.cells #[.nilIface, .int .i64 0] 37)).heap[(w.alloc Zh).heap.size]? = some (.cells #[.nilIface, .int .i64 0] 37 (0, 0)) := B_ _ _
 rw [s1] at k2
 have B0 := Zb (Zc hb1 hb2)
 have N0 := Zb (k1.bel hb2)
 have K0 := Zb k2
 have RD := Zb (read_program s p _ (he.bel B0.out) ((B0.out.cell (p := ⟨3, 0, none⟩) (World.block_lt_of_cell? w _ hd)).trans hd) (Nat.le_trans hG B0.out.size))
 obtain ⟨out, ho⟩ : ∃ out, YJ prD s = out := ⟨_, rfl⟩
 rw [ho] at RD ⊢
 clear he hd hb1 k1 s1 hb2 k2 ho
 unfold Zh at *
 go_enter Tryz.func13, Tryz.ntmps13
 go_wp2_with fail
 generalize (w.alloc _).alloc _ = w0 at *
 refine RD.out.mono ?_
 intro e w1 hp
 have hw0 : w.heap.size + 1 < w0.heap.size := Ze K0.out
 cases out with
 | bad k i =>
  obtain ⟨rfl, hb⟩ := hp
  have n1 := N0.out.bel hb
  have k1 := (hb.block _ (Ze K0.out)).trans K0.out
  obtain ⟨⟨f0, f1, f2, f3, f4, f5, f6, f7, f8⟩, b0, b1, b2, b3, b4, b5, b6, b7, b8⟩ := n1.all
  obtain ⟨k5, t5⟩ := Zy n1 (.int .i64 0) (.int .i64 0) (.string ⟨#[]⟩) (.int .i64 0) (.int .i64 0) (.int .i64 0) (.int .i64 0) (.int .u64 0) (.slice none 0 0)
  have k6 := (t5.blk _ (Ze k1) (by omega)).trans k1
  have c1 := Zf k6 0 _ rfl
  have c2 := Zf k6 1 _ rfl
  have g1 := Zi k6 0
  have g2 := Zi k6 1
  obtain ⟨k7, t7⟩ := Zs k6 0 (errV p k)
  obtain ⟨k8, t8⟩ := Zs k7 1 (.int .i64 i)
  have B1 := Zc B0.out hb
  have N8 := Zb ((k5.tn t7 (by omega)).tn t8 (by omega))
  have K8 := Zb k8
  have B8 := Zb (((B1.trans (t5.bel (by omega) B1.size)).trans (t7.bel (by omega) (Nat.le_trans B1.size t5.size))).trans (t8.bel (by omega) (Nat.le_trans B1.size (Nat.le_trans t5.size t7.size))))
  clear n1 k1 k5 t5 k6 k7 t7 k8 t8 B1 hb N0 K0 B0 RD
  go_wp2_with fail
  refine bodyPost_ret (results_Parse rfl rfl N8.out K8.out) rfl ?_
  exact ⟨rfl, B8.out⟩
 | ok n =>
  obtain ⟨v, rfl, hv, hb⟩ := hp
  obtain ⟨kd, ps, nm, t, nz, z, ob, bi, ks⟩ := n
  unfold Zj at hv
  obtain ⟨s', rfl, hk⟩ := hv
  obtain ⟨a, len, ck, rfl⟩ := hk.shape
  have n1 := N0.out.bel hb
  have k1 := (hb.block _ (Ze K0.out)).trans K0.out
  obtain ⟨⟨f0, f1, f2, f3, f4, f5, f6, f7, f8⟩, b0, b1, b2, b3, b4, b5, b6, b7, b8⟩ := n1.all
  obtain ⟨k5, t5⟩ := Zy n1 (.int .i64 kd) (.int .i64 ps) (.string nm) (.int .i64 t) (.int .i64 nz) (.int .i64 z) (.int .i64 ob) (.int .u64 bi) (.slice a len ck)
  have k6 := (t5.blk _ (Ze k1) (by omega)).trans k1
  have c1 := Zf k6 0 _ rfl
  have c2 := Zf k6 1 _ rfl
  have g1 := Zi k6 0
  have g2 := Zi k6 1
  obtain ⟨k7, t7⟩ := Zs k6 0 .nilIface
  obtain ⟨k8, t8⟩ := Zs k7 1 (.int .i64 0)
  have B1 := Zc B0.out hb
  have N8 := Zb ((k5.tn t7 (by omega)).tn t8 (by omega))
  have K8 := Zb k8
  have B8 := Zb (((B1.trans (t5.bel (by omega) B1.size)).trans (t7.bel (by omega) (Nat.le_trans B1.size t5.size))).trans (t8.bel (by omega) (Nat.le_trans B1.size (Nat.le_trans t5.size t7.size))))
  have J8 := Zb (((hk.tn t5 (by omega)).tn t7 (by omega)).tn t8 (by omega))
  have hwz := Zb (show w.heap.size <= w0.heap.size by omega)
  clear n1 k1 k5 t5 k6 k7 t7 k8 t8 B1 hb N0 K0 B0 RD hk
  go_wp2_with fail
  refine bodyPost_ret (results_Parse rfl rfl N8.out K8.out) rfl ?_
  refine ⟨_, rfl, ?_, B8.out⟩
  unfold Zj
  exact ⟨_, rfl, J8.out.low hwz.out⟩
end Go.Proofs.YtfnplhfjfolojaaGreatDoor.Ck
namespace Go.Proofs.YtfnplhfjfolojaaGreatDoor.Ck.Sho
open Go.RowKit
theorem results_Clean {tmps : Array Value} {b : Nat} {w : World} {v z0 z1 : Value} (h2 : tmps.getD 2 undef = v) (h3 : tmps.getD 3 undef = .pointer (some ⟨b, 0, none⟩))
 (hB : w.heap[b]? = some (.cells #[z0, z1] 37 (0, 0))) :
 (results Tryz.f22 tmps).run Tryz.prog w = .ok (.tuple #[v, .agg #[z0, z1]]) w := by
 have h2' : tmps[2]?.getD undef = v := by simpa using h2
 have h3' : tmps[3]?.getD undef = .pointer (some ⟨b, 0, none⟩) := by simpa using h3
 have d1 := Zf hB 0 _ rfl
 have d2 := Zf hB 1 _ rfl
 simp [results, Tryz.results22, h2', h3', go_sem, d1, d2]
theorem clean_ok (s : ByteArray) (p : List Addr) (w : World) (he : Er w p) (hd : w.cell? ⟨3, 0, none⟩ = some (errV p 2)) (ht : Tb w) (hG : 23 <= w.heap.size) (m : Nat) (n : Nd) (hr : YJ prD s = .ok n) (hin : ∀ x ∈ n.kids, dcr (blr (stF m)) x = true) (hg : ∀ x ∈ n.kids, RgF (m + 2) x) (hl : (pgT m n.kids).length <= 140737488355328) :
 Calls Tryz.prog 22 #[.string s] w fun e w' => e = .returned (.tuple #[.string ⟨(pgT m n.kids).toArray⟩, .agg #[.nilIface, .int .i64 0]]) /\ Below w.heap.size w w' := by
 have hb1 := Zd w (.cells #[.nilIface, .int .i64 0] 37)
 have k1 : (w.alloc (.cells #[.nilIface, .int .i64 0] 37)).heap[w.heap.size]? = some (.cells #[.nilIface, .int .i64 0] 37 (0, 0)) := B_ _ _
 have PA := Zb (text_program s p _ (he.bel hb1) ((hb1.cell (p := ⟨3, 0, none⟩) (World.block_lt_of_cell? w _ hd)).trans hd) (Nat.le_trans hG hb1.size))
 rw [hr] at PA
 have TA := Zb (fun (w' : World) (v' : Value) ht' hG' hv' => programText_all (w := w') ht' hG' m n v' hv' hin hg hl)
 obtain ⟨T, hT⟩ : ∃ T, T = pgT m n.kids := ⟨_, rfl⟩
 rw [← hT] at TA ⊢
 have HT := Zb ht
 have B0 := Zb hb1
 have K0 := Zb k1
 clear he hd ht hr hin hg hl hT hb1 k1
 go_enter Tryz.func22, Tryz.ntmps22
 go_wp2_with fail
 generalize w.alloc _ = w0 at *
 refine PA.out.mono ?_
 rintro e w1 ⟨v, rfl, hv, hb⟩
 have hv := hv.rd
 obtain ⟨kd, ps, nm, t, nz, z, ob, bi, ks⟩ := n
 have hv0 := hv
 unfold Zq at hv
 obtain ⟨s, rfl, hkk⟩ := hv
 obtain ⟨oa, cap, rfl, _⟩ := hkk.kid
 obtain ⟨len, hln⟩ : ∃ len, len = ks.length := ⟨_, rfl⟩
 rw [← hln] at hv0 ⊢
 have q1 := Zd w1 (.cells #[.int .i64 kd, .int .i64 ps, .string nm, .int .i64 t, .int .i64 nz, .int .i64 z, .int .i64 ob, .int .u64 bi, .slice oa len cap] 29)
 have q2 := Zd (w1.alloc (.cells #[.int .i64 kd, .int .i64 ps, .string nm, .int .i64 t, .int .i64 nz, .int .i64 z, .int .i64 ob, .int .u64 bi, .slice oa len cap] 29)) (.cells #[.nilIface, .int .i64 0] 37)
 have sz : (w1.alloc (.cells #[.int .i64 kd, .int .i64 ps, .string nm, .int .i64 t, .int .i64 nz, .int .i64 z, .int .i64 ob, .int .u64 bi, .slice oa len cap] 29)).heap.size = w1.heap.size + 1 := by simp
 have N2 := Zb ((show Nod (w1.alloc (.cells #[.int .i64 kd, .int .i64 ps, .string nm, .int .i64 t, .int .i64 nz, .int .i64 z, .int .i64 ob, .int .u64 bi, .slice oa len cap] 29)) w1.heap.size (.int .i64 kd) (.int .i64 ps) (.string nm) (.int .i64 t) (.int .i64 nz) (.int .i64 z) (.int .i64 ob) (.int .u64 bi) (.slice oa len cap) from B_ _ _).bel q2)
 have G2 := Zb (show ((w1.alloc (.cells #[.int .i64 kd, .int .i64 ps, .string nm, .int .i64 t, .int .i64 nz, .int .i64 z, .int .i64 ob, .int .u64 bi, .slice oa len cap] 29)).alloc (.cells #[.nilIface, .int .i64 0] 37)).heap[w1.heap.size + 1]? = some (.cells #[.nilIface, .int .i64 0] 37 (0, 0)) from sz ▸ B_ _ _)
 have q3 := Zc hb (Zc q1 q2)
 have B2 := Zb (Zc B0.out q3)
 have K2 := Zb ((q3.block _ (Ze K0.out)).trans K0.out)
 have V2 := Zb ((hv0.bel q1).bel q2)
 clear hb hkk hv0 hln q1 q2 q3 sz PA K0
 go_wp2_with fail
 generalize (w1.alloc _).alloc _ = w2 at *
 refine (TA.out w2 _ (HT.out.bel B2.out hG) (Nat.le_trans hG B2.out.size) V2.out).mono ?_
 rintro e w3 ⟨rfl, hb⟩
 have k3 := (hb.block _ (Ze K2.out)).trans K2.out
 have c1 := Zf k3 0 _ rfl
 have c2 := Zf k3 1 _ rfl
 have g1 := Zi k3 0
 have g2 := Zi k3 1
 obtain ⟨k7, t7⟩ := Zs k3 0 .nilIface
 obtain ⟨k8, t8⟩ := Zs k7 1 (.int .i64 0)
 have B3 := Zc B2.out hb
 have B8 := Zb ((B3.trans (t7.bel (by omega) B3.size)).trans (t8.bel (by omega) (Nat.le_trans B3.size t7.size)))
 have K8 := Zb k8
 clear hb k3 k7 t7 k8 t8 B3 TA V2 K2 B2 N2 G2 B0
 go_wp2_with fail
 refine bodyPost_ret (results_Clean rfl rfl K8.out) rfl ?_
 exact ⟨rfl, B8.out⟩
def rgB : Nat -> Nd -> Bool
 | 0, _ => false
 | m + 1, n => decide (n.num <= 9223372036854775807) && (decide (0 <= n.bits) && (decide (n.bits <= 18446744073709551615) && (decide (n.kind ≠ 26) && n.kids.all (rgB m))))
theorem rg_of : ∀ (m : Nat) (n : Nd), rgB m n = true -> RgF m n
 | 0, _, h => by cases h
 | m + 1, n, h => by
  unfold rgB at h
  simp only [Bool.and_eq_true, decide_eq_true_eq, List.all_eq_true] at h
  exact ⟨⟨h.1, h.2.1, h.2.2.1, fun e => absurd e h.2.2.2.1⟩, fun k hk => rg_of m k (h.2.2.2.2 k hk)⟩
def trX : Nd := match exprF ⟨#[40, 49, 43, 50, 41, 42, 51]⟩ with | .ok n => n | .bad _ _ => .mk 0 0 ⟨#[]⟩ 0 0 0 0 0 []
def trP : Nd := match YJ prD ⟨#[118, 97, 114, 32, 120, 32, 105, 110, 116, 59, 102, 117, 110, 99, 32, 109, 97, 105, 110, 40, 41, 123, 120, 61, 49, 45, 40, 50, 45, 51, 41, 59, 125]⟩ with | .ok n => n | .bad _ _ => .mk 0 0 ⟨#[]⟩ 0 0 0 0 0 []
theorem exX : ∃ n, exprF ⟨#[40, 49, 43, 50, 41, 42, 51]⟩ = .ok n /\ szN n < 20 /\ RgF 20 n /\ exF 20 n = true /\ wrF 20 n = [40, 49, 32, 43, 32, 50, 41, 32, 42, 32, 51] :=
 ⟨trX, by kernel_rfl, Nat.lt_of_lt_of_le (m := szN trX + 1) (Nat.lt_succ_self _) (Nat.le_of_ble_eq_true (by kernel_rfl)), rg_of 20 _ (by kernel_rfl), by kernel_rfl, by kernel_rfl⟩
theorem exP : ∃ n, YJ prD ⟨#[118, 97, 114, 32, 120, 32, 105, 110, 116, 59, 102, 117, 110, 99, 32, 109, 97, 105, 110, 40, 41, 123, 120, 61, 49, 45, 40, 50, 45, 51, 41, 59, 125]⟩ = .ok n /\ (∀ x ∈ n.kids, dcr (blr (stF 20)) x = true) /\ (∀ x ∈ n.kids, RgF 22 x) /\ pgT 20 n.kids = [118, 97, 114, 32, 120, 32, 105, 110, 116, 59, 10, 102, 117, 110, 99, 32, 109, 97, 105, 110, 40, 41, 32, 123, 10, 9, 120, 32, 61, 32, 49, 32, 45, 32, 40, 50, 32, 45, 32, 51, 41, 59, 10, 125, 10] :=
 ⟨trP, by kernel_rfl, List.all_eq_true.1 (by kernel_rfl), fun x hx => rg_of 22 x (List.all_eq_true.1 (show trP.kids.all (rgB 22) = true by kernel_rfl) x hx), by kernel_rfl⟩
theorem alive7_any (p : List Addr) (w : World) (he : Ev w p) (ht : Tb w) :
 Calls Tryz.prog 9 #[] w fun e w' => e = .returned (.bool true) /\ Below w.heap.size w w' := by
 obtain ⟨n, x1, x2, x3, x4, x5⟩ := exX
 obtain ⟨n2, y1, y2, y3, y4⟩ := exP
 have hG := he.big
 have CE := Zb (fun (w' : World) (v' : Value) he' ht' hv' => showExpr_any (w := w') (p := p) he' ht' 20 n x2 x3 v' hv' (by rw [x5]; simp) (by rw [x5]; decide))
 rw [x4, x5, if_pos rfl] at CE
 have CC := Zb (fun (w' : World) (he' : Ev w' p) ht' => clean_ok ⟨#[118, 97, 114, 32, 120, 32, 105, 110, 116, 59, 102, 117, 110, 99, 32, 109, 97, 105, 110, 40, 41, 123, 120, 61, 49, 45, 40, 50, 45, 51, 41, 59, 125]⟩ p w' he'.er (he'.errs.c2) ht' he'.big 20 n2 y1 y2 y3 (by rw [y4]; decide))
 rw [y4] at CC
 have e0 : okV p true = .nilIface := rfl
 rw [e0] at CE
 have R1 := Zb x1
 have EE := Zb (And.intro he ht)
 clear x1 x2 x3 x4 x5 y1 y2 y3 y4 e0
 go_enter Tryz.func9, Tryz.ntmps9
 go_wp2_with fail
 refine (expr_ev _ p w he).mono ?_
 intro e w1 hp
 rw [R1.out] at hp
 obtain ⟨v, rfl, hv, hb⟩ := hp
 have hv := hv.rd
 obtain ⟨kd, ps, nm, t, nz, z, ob, bi, ks⟩ := n
 have hv0 := hv
 unfold Zq at hv
 obtain ⟨s, rfl, hkk⟩ := hv
 obtain ⟨oa, cap, rfl, _⟩ := hkk.kid
 obtain ⟨len, hln⟩ : ∃ len, len = ks.length := ⟨_, rfl⟩
 rw [← hln] at hv0 ⊢
 have q1 := Zd w1 (.cells #[.int .i64 kd, .int .i64 ps, .string nm, .int .i64 t, .int .i64 nz, .int .i64 z, .int .i64 ob, .int .u64 bi, .slice oa len cap] 29)
 have q2 := Zd (w1.alloc (.cells #[.int .i64 kd, .int .i64 ps, .string nm, .int .i64 t, .int .i64 nz, .int .i64 z, .int .i64 ob, .int .u64 bi, .slice oa len cap] 29)) (.cells #[.nilIface, .int .i64 0] 37)
 have sz : (w1.alloc (.cells #[.int .i64 kd, .int .i64 ps, .string nm, .int .i64 t, .int .i64 nz, .int .i64 z, .int .i64 ob, .int .u64 bi, .slice oa len cap] 29)).heap.size = w1.heap.size + 1 := by simp
 have N2 := Zb ((show Nod (w1.alloc (.cells #[.int .i64 kd, .int .i64 ps, .string nm, .int .i64 t, .int .i64 nz, .int .i64 z, .int .i64 ob, .int .u64 bi, .slice oa len cap] 29)) w1.heap.size (.int .i64 kd) (.int .i64 ps) (.string nm) (.int .i64 t) (.int .i64 nz) (.int .i64 z) (.int .i64 ob) (.int .u64 bi) (.slice oa len cap) from B_ _ _).bel q2)
 have q3 := Zc hb (Zc q1 q2)
 have B2 := Zb q3
 have V2 := Zb ((hv0.bel q1).bel q2)
 clear hb hkk hv0 hln q1 q2 q3 sz he ht R1
 go_wp2_with fail
 generalize (w1.alloc _).alloc _ = w2 at *
 refine (CE.out w2 _ (EE.out.1.bel B2.out) (EE.out.2.bel B2.out hG) V2.out).mono ?_
 rintro e w3 ⟨rfl, hb⟩
 have B3 := Zb (Zc B2.out hb)
 clear hb N2 V2 B2 CE
 go_wp2_with fail
 refine (CC.out w3 (EE.out.1.bel B3.out) (EE.out.2.bel B3.out hG)).mono ?_
 rintro e w4 ⟨rfl, hb⟩
 have B4 := Zb (Zc (Zc B3.out hb) (Zd w4 (.cells #[.nilIface, .int .i64 0] 37)))
 clear hb B3 CC EE
 go_wp2_with fail
 go_ret
 exact ⟨rfl, B4.out⟩
def oneT (s : ByteArray) : Nd := .mk 1 0 ⟨#[]⟩ 0 0 0 0 0 [.mk 4 0 s 0 0 0 0 0 []]
theorem one_form (s : ByteArray) : prF 3 (oneT s) = ZU s := by
 unfold prF oneT prr
 simp [dcr, ZH]
theorem one_read (s : ByteArray) (w : World) :
 Zq (w.alloc (.cells #[.int .i64 4, .int .i64 0, .string s, .int .i64 0, .int .i64 0, .int .i64 0, .int .i64 0, .int .u64 0, .slice none 0 0] 29)) (oneT s) (.agg #[.int .i64 1, .int .i64 0, .string ⟨#[]⟩, .int .i64 0, .int .i64 0, .int .i64 0, .int .i64 0, .int .u64 0, .slice (some ⟨w.heap.size, 0, none⟩) 1 1]) := by
 have k : (w.alloc (.cells #[.int .i64 4, .int .i64 0, .string s, .int .i64 0, .int .i64 0, .int .i64 0, .int .i64 0, .int .u64 0, .slice none 0 0] 29)).heap[w.heap.size]? = some (.cells #[.int .i64 4, .int .i64 0, .string s, .int .i64 0, .int .i64 0, .int .i64 0, .int .i64 0, .int .u64 0, .slice none 0 0] 29 (0, 0)) := B_ _ _
 unfold Zq oneT
 refine ⟨_, rfl, ?_⟩
 unfold Zr
 refine ⟨⟨w.heap.size, 0, none⟩, 1, rfl, Nat.le_refl _, by unfold maxLen; omega, ?_, by unfold RowA; trivial⟩
 unfold ZD
 simp only [own_add]
 exact ⟨_, Zf k 0 _ rfl, Zf k 1 _ rfl, Zf k 2 _ rfl, Zf k 3 _ rfl, Zf k 4 _ rfl, Zf k 5 _ rfl, Zf k 6 _ rfl, Zf k 7 _ rfl, Zf k 8 _ rfl, by unfold Zr; exact ⟨none, 0, rfl⟩⟩
theorem words_any (s : ByteArray) (p : List Addr) (w : World) (he : Ev w p) (ht : Tb w) :
    Calls Tryz.prog 3 #[.string s] w fun e w' => e = .returned (.bool true) /\ Below w.heap.size w w' := by
  have E0 := Zb he
  go_enter Tryz.func3, Tryz.ntmps3
  go_wp2_with fail
  refine (alive7_any p w he ht).mono ?_
  rintro e w1 ⟨rfl, hb1⟩
  have B1 := Zb hb1
  clear he ht hb1
  by_cases hs : s.size <= 1000
  · have hs2 : ¬ (1000 : Int) < (s.size : Int) := by omega
    have C := Zb (fun (wx : World) (hb : Below w1.heap.size w1 wx) (v : Value) (hv : Zq wx (oneT s) v) => check_any (E0.out.bel (Zc B1.out hb)) 3 (oneT s) (by simp [oneT, szN, szK]) v hv)
    have RW := Zb (fun (wx : World) => rword_any s (by omega) wx)
    have WS := Zb (word_same s (by omega))
    rw [one_form, WS.out] at C
    obtain ⟨q, hq⟩ : ∃ q, wd7 s = q := ⟨_, rfl⟩
    rw [hq] at C RW
    clear hq WS
    cases q with
    | true =>
      have e0 : okV p true = .nilIface := rfl
      rw [e0] at C
      go_wp2_with fail
      go_region_with (first
        | (go_at_call 10
           refine (C.out _ (Zm (Zd _ _)) _ (one_read s _)).mono ?_
           rintro e w4 ⟨rfl, hb4⟩)
        | (go_at_call 11
           refine (RW.out _).mono ?_
           rintro e w5 ⟨rfl, hb5⟩))
      all_goals
        go_wp2_with fail
        go_ret
        exact ⟨rfl, Zc B1.out (Zc (Zc (Zm (Zd _ _)) hb4) hb5)⟩
    | false =>
      have e0 : okV p false = errV p 8 := rfl
      rw [e0] at C
      unfold errV at C
      go_wp2_with fail
      go_region_with (first
        | (go_at_call 10
           refine (C.out _ (Zm (Zd _ _)) _ (one_read s _)).mono ?_
           rintro e w4 ⟨rfl, hb4⟩)
        | (go_at_call 11
           refine (RW.out _).mono ?_
           rintro e w5 ⟨rfl, hb5⟩))
      all_goals
        go_wp2_with fail
        go_ret
        exact ⟨rfl, Zc B1.out (Zc (Zc (Zm (Zd _ _)) hb4) hb5)⟩
  · have hs2 : (1000 : Int) < (s.size : Int) := by omega
    go_wp2_with fail
    go_ret
    exact ⟨rfl, B1.out⟩
end Go.Proofs.YtfnplhfjfolojaaGreatDoor.Ck.Sho
