/- The walk of the statement SyncTypes. (Written by mk_y.py.) -/
import Derived.Test.YtbjcfmajbcbnbaaDoorYw
namespace Go.Proofs.YtbjcfmajbcbnbaaDoor.Ck
open Go.RowKit

theorem wpList_appV {TS : TypeId} {w : World} {ops : Array Oper} {rest : List Oper} {o : Oper} {a : Act} {Q : Exit → Act → World → Prop} (hgd : o.guard = none) (s x : Operand)
    (ho : o.op = .call { callee := .builtin .append, args := #[s, x], argTypes := #[TS, TS] }) (v vx : Value) (hs : a.eval s = v) (hx : a.eval x = vx) (R : Value → World → Prop)
    (hrun : ∃ v' w', (Builtin.append_ #[TS, TS] o.type #[v, vx]).run Tryd.prog w = .ok v' w' ∧ R v' w')
    (h : ∀ v' w', R v' w' → wpList Tryd.prog ops Q rest (a.put o.dst v') w') : wpList Tryd.prog ops Q (o :: rest) a w :=
  wpList_plain hgd fun _ hK => by
    obtain ⟨v', w', hr, hR⟩ := hrun
    unfold Oper.wp execOp
    simp only [ho, resolve, invoke, builtin, Sem.run_bind, Sem.run_pure, Result.andThen_ok, List.map_toArray, List.map_cons, List.map_nil, hs, hx, hr]
    exact hK _ _ (h v' w' hR)

theorem push_i {w : World} {B : Nat} {v : Value} {l : List Int} {n : Nat} (hn : n = l.length) (hl : l.length ≤ 1000) (ho : w.ownsRow B 3 1 v n (nts l)) (hB : B ≤ w.heap.size) (x : Int) (ty : TypeId) :
    ∃ v' w', (Builtin.append_ #[22, 22] ty #[v, .slice (some ⟨w.heap.size, 0, none⟩) 1 1]).run Tryd.prog (w.alloc (.cells #[.int .i64 x] 3)) = .ok v' w' ∧ (w'.ownsRow B 3 1 v' (n + 1) (nts (l ++ [x])) ∧ w.grownBy w' v.ownBlock) := by
  obtain ⟨ie, hi, hz0, hz1, hz2⟩ := info_parts info3
  have hb := bel_new w (.cells #[.int .i64 x] 3)
  obtain ⟨v', w', hr, ho', hg, _, hat⟩ := run_append_own_at (P := Tryd.prog) (w.alloc (.cells #[.int .i64 x] 3)) B 22 ty 3 ie _ 1 8 Tryd.underlying22 hi hz0 hz1 hz2 rfl (by decide) v n (nts l) (own_keep ho (fun k hk => hb.block k (own_type ho hk).2.1)) ⟨w.heap.size, 0, none⟩ 1 1 [.int .i64 x] rfl
    (fun j u hu => by
      cases j with
      | zero =>
        simp at hu
        subst hu
        exact blk_cell (Go.Deep.blk_alloc_new w _) 0 _ rfl
      | succ j => simp at hu) (fun u hu => by simp at hu; subst hu; rfl) (by unfold maxLen; omega) (by omega) (Nat.le_trans hB hb.size)
  refine ⟨v', w', hr, ?_, ⟨hg.os, hg.tape, hg.output, Nat.le_trans hb.size hg.size, fun k hk hne => (hg.block k (Nat.lt_of_lt_of_le hk hb.size) hne).trans (hb.block k hk)⟩⟩
  unfold nts at ho' ⊢
  rw [List.map_append]
  exact ho'
theorem Sl.of_own {w : World} {B : Nat} {v : Value} {l : List Int} {n : Nat} (hn : n = l.length) (ho : w.ownsRow B 3 1 v n (nts l)) (hf : Fits l) : Sl w v l := by
  subst hn
  obtain ⟨a, c, rfl, h1, h2⟩ := own_slice ho
  refine ⟨hf, a, c, rfl, h1, h2, fun i hi => ?_⟩
  obtain ⟨b, c', e, _⟩ := own_some ho (by omega)
  cases e
  refine ⟨b, 0, rfl, (own_type ho (k := b) rfl).2.1, ?_⟩
  rw [Nat.zero_add]
  exact (own_cell ho i _ (by simp [nts, List.getD, hi])).1
/-- what the statement's last rows read -/
def Ty (w : World) (gv g2 b7 an : Nat) (t m z r0 r1 r2 kt : Int) (p : List Addr) : Prop := Val w gv t m z ∧ Val w g2 r0 r1 r2 ∧ w.cell? ⟨b7, an, none⟩ = some (.int .i64 kt) ∧ b7 < w.heap.size ∧ Errs17 w p
theorem Ty.al {w w' : World} {gv g2 b7 an : Nat} {t m z r0 r1 r2 kt : Int} {p : List Addr} (h : Ty w gv g2 b7 an t m z r0 r1 r2 kt p) (hb : Below w.heap.size w w') : Ty w' gv g2 b7 an t m z r0 r1 r2 kt p :=
  ⟨h.1.al hb, h.2.1.al hb, (hb.cell (p := ⟨b7, an, none⟩) h.2.2.2.1).trans h.2.2.1, Nat.lt_of_lt_of_le h.2.2.2.1 hb.size, h.2.2.2.2.below (Nat.le_refl _) hb⟩
def kf (t : Int) : Int := 1 + wrap64 ((IntKind.u64.wrap t).tmod 3)
theorem kf_bound (t : Int) : 1 ≤ kf t ∧ kf t ≤ 3 := by
  obtain ⟨m, hm, e⟩ := mod_small t 3 (by omega) (by omega)
  have e' : wrap64 ((IntKind.u64.wrap t).tmod 3) = (m : Int) := e
  unfold kf
  rw [e']
  omega
theorem kf_good (t : Int) : badT (kf t) = false := by
  have := kf_bound t
  have h : kf t = 1 ∨ kf t = 2 ∨ kf t = 3 := by omega
  rcases h with h | h | h <;> rw [h] <;> rfl
theorem Mk.write {w wc : World} {g : Nat} {s : St} (h : Mk w wc g s) {p : List Addr} (h17 : E2 w p) (i : Nat) (x : V3) (hx : s.P[i]? = some x) (t m z : Int) (hB : isB t m z x.1 = true) : Calls Tryd.prog 31 #[.pointer (some ⟨g, 0, none⟩), .int .i64 (i : Nat), .agg #[.int .i64 t, .int .i64 m, .int .u64 z]] wc fun e w' => e = .returned .nilIface ∧ Mk w w' g { s with P := s.P.set i (t, m, z) } := by
  have h7 := h.errs h17
  obtain ⟨F, h1, h2, h3⟩ := h
  exact (Write_in h1 h7 i x hx t m z hB).mono fun e w' ⟨he, F', hs, hc⟩ => ⟨he, Mk.of h2 h3 hs hc⟩
theorem Mk.wbad {w wc : World} {g : Nat} {s : St} (h : Mk w wc g s) {p : List Addr} (h17 : E2 w p) (i : Nat) (x : V3) (hx : s.P[i]? = some x) (t m z : Int) (hB : isB t m z x.1 = false) : Calls Tryd.prog 31 #[.pointer (some ⟨g, 0, none⟩), .int .i64 (i : Nat), .agg #[.int .i64 t, .int .i64 m, .int .u64 z]] wc fun e w' => e = .returned (errV p 4) ∧ Mk w w' g s := by
  have h7 := h.errs h17
  obtain ⟨F, h1, h2, h3⟩ := id h
  exact (Write_bad h1 h7 i x hx t m z hB).mono fun e w' ⟨he, hb⟩ => ⟨he, h.bel hb⟩
theorem Mk.read {w wc : World} {g : Nat} {s : St} (h : Mk w wc g s) (i : Nat) (x : V3) (hx : s.P[i]? = some x) : Calls Tryd.prog 32 #[.pointer (some ⟨g, 0, none⟩), .int .i64 (i : Nat)] wc fun e w' => e = .returned (.tuple #[.agg #[.int .i64 x.1, .int .i64 x.2.1, .int .u64 x.2.2], .nilIface]) ∧ Mk w w' g s := by
  obtain ⟨F, h1, h2, h3⟩ := id h
  exact (Read_in h1 i x hx).mono fun e w' ⟨he, hb⟩ => ⟨he, h.bel hb⟩
set_option maxRecDepth 20000 in
set_option maxHeartbeats 2000000 in
theorem types_main (vS : Value) (zs : List Int) (at_ : Int) (t m z : Int) {w : World} {p : List Addr} (h17 : Errs17 w p) (hS : Sl w vS zs) : Calls Tryd.prog 7 #[vS, .int .i64 at_, .agg #[.int .i64 t, .int .i64 m, .int .u64 z]] w (Vb w (.bool true)) := by
  obtain ⟨aS, n, cS, rfl, hn⟩ := hS.slice
  have HS := hide (fun i hi => hS.at i hi)
  have AL := hide (alive_any (h17.e2.below (Nat.le_refl _) (bel_new w (.cells #[.int .i64 t, .int .i64 m, .int .u64 z] 41))))
  have H7 := hide h17
  have HN := hide hn
  have W0 := hide (And.intro (bel_new w (.cells #[.int .i64 t, .int .i64 m, .int .u64 z] 41)) (Val.new w t m z))
  have EV := eq_vv
  clear hS h17 hn
  go_enter Tryd.func7, Tryd.ntmps7
  go_wp2_with fail
  refine AL.out.mono ?_
  rintro e w1 ⟨rfl, hb1⟩
  have W1 := hide (And.intro (bel_trans W0.out.1 hb1) (W0.out.2.al hb1))
  clear hb1 AL W0
  by_cases h0 : n < 1
  · have h0' : (n : Int) < 1 := by omega
    go_wp2_with fail
    go_ret
    exact Vb.mk rfl W1.out.1
  by_cases h1 : 128 < n
  · have h1' : (128 : Int) < (n : Int) := by omega
    have h1'' : (1 : Int) ≤ (n : Int) := by omega
    go_wp2_with fail
    go_ret
    exact Vb.mk rfl W1.out.1
  have h0' : (1 : Int) ≤ (n : Int) := by omega
  have h1' : (n : Int) ≤ 128 := by omega
  obtain ⟨gv, hgv⟩ : ∃ gv, gv = w.heap.size := ⟨_, rfl⟩
  have B1 := hide W1.out.1
  have V1 := hide W1.out.2
  rw [← hgv] at V1 ⊢
  have HGV := hide hgv
  clear hgv W1
  have I0 : Hid ((w1.alloc (.cells #[] 3)).ownsRow w.heap.size 3 1 (.slice (some ⟨w1.heap.size, 0, none⟩) 0 0) 0 (nts ((zs.map kf).take 0)) ∧ Below w.heap.size w (w1.alloc (.cells #[] 3)) ∧ Val (w1.alloc (.cells #[] 3)) gv t m z) := hide ⟨World.ownsRow_made w1 #[] 0 B1.out.size (by unfold maxLen; omega) rfl, bel_al B1.out _, V1.out.al (bel_new _ _)⟩
  clear B1 V1
  go_wp2_with fail
  generalize w1.alloc (.cells #[] 3) = w2 at *
  go_loopw [7, 9, 27] (fun x7 x9 i wr => ∃ (k : Nat) (a7 : Option Addr) (c7 : Nat), k ≤ n ∧ i = .int .i64 k ∧ x7 = .slice a7 k c7 ∧ Hid (wr.ownsRow w.heap.size 3 1 (.slice a7 k c7) k (nts ((zs.map kf).take k)) ∧ Below w.heap.size w wr ∧ Val wr gv t m z)) (fun x7 x9 i _ => n - (intOf i).toNat)
  case atStart => exact ⟨0, _, _, Nat.zero_le _, rfl, rfl, I0⟩
  case round =>
    obtain ⟨k, a7, c7, hk, rfl, rfl, I1⟩ := hrel
    clear I0
    by_cases hlt : k < n
    · have hlt' : (k : Int) < (n : Int) := by omega
      obtain ⟨b1, o1, rfl, hb1, hc1⟩ := HS.out k hlt
      have hcr := (I1.out.2.1.cell (p := ⟨b1, o1 + k, none⟩) hb1).trans hc1
      clear hc1
      obtain ⟨m3, hm3, hmd⟩ := mod_small (zs.getD k 0) 3 (by omega) (by omega)
      have hmd' : wrap64 ((IntKind.u64.wrap (zs.getD k 0)).tmod 3) = (m3 : Int) := hmd
      have HSN : Hid ((zs.map kf).take (k + 1) = (zs.map kf).take k ++ [1 + (m3 : Int)]) := hide (by
        rw [take_snoc _ k 0 (by simp; have := HN.out; omega)]
        congr 2
        rw [← hmd']
        have hlz : k < zs.length := by have := HN.out; omega
        simp [List.getD, hlz, kf])
      clear hmd
      generalize zs.getD k 0 = y at *
      have PU := hide (fun ty => push_i (n := k) (l := (zs.map kf).take k) (by simp; have := HN.out; omega) (by simp; have := HN.out; omega) I1.out.1 I1.out.2.1.size (1 + (m3 : Int)) ty)
      go_wp2_with (first | (at_builtin; refine wpList_appV (TS := 22) rfl (.tmp 31) (.tmp 37) rfl _ _ rfl rfl _ (PU.out _) ?_; rintro v9 w9 ⟨o9, g9⟩; obtain ⟨a9, c9, e9, _⟩ := own_slice o9; subst e9))
      go_roundw
      case rel =>
        refine ⟨k + 1, _, _, by omega, by go_num, rfl, ?_, I1.out.2.1.grown g9 I1.out.2.1.size (fun j hj => (own_type I1.out.1 hj).1), ?_⟩
        · rw [HSN.out]
          exact o9
        · refine I1.out.2.2.keep (g9.block gv I1.out.2.2.lt (fun e => ?_))
          have hx := own_type I1.out.1 e.symm
          obtain ⟨_, _, cc, hcc⟩ := hx
          have hv := I1.out.2.2
          unfold Val at hv
          rw [hcc] at hv
          have := Option.some.inj hv
          injection this with _ h2 _
          exact absurd h2 (by decide)
      case measure => simp [intOf]; omega
    · obtain rfl : k = n := by omega
      obtain ⟨an, han, hat⟩ := mod_small at_ k (by omega) (by omega)
      obtain ⟨ks, hks⟩ : ∃ ks, ks = zs.map kf := ⟨_, rfl⟩
      have hkl : ks.length = k := by rw [hks, List.length_map]; exact HN.out.symm
      have OW := I1.out.1
      rw [List.take_of_length_le (by rw [← hks]; omega), ← hks] at OW
      have hfit : Fits ks := fun x hx => by
        rw [hks] at hx
        obtain ⟨y, _, rfl⟩ := List.mem_map.1 hx
        have := kf_bound y
        omega
      have hokN : okN ks 0 [] 0 = true := by
        have h2 : ks.any badT = false := by
          rw [List.any_eq_false]
          intro x hx
          rw [hks] at hx
          obtain ⟨y, _, rfl⟩ := List.mem_map.1 hx
          rw [kf_good]
          simp
        simp [okN, fitB, h2, hkl]
        omega
      obtain ⟨kt, hkt⟩ : ∃ kt, ks[an]? = some kt := ⟨_, List.getElem?_eq_getElem (by omega)⟩
      have hkg : badT kt = false := by
        have hm := List.mem_of_getElem? hkt
        rw [hks] at hm
        obtain ⟨y, _, rfl⟩ := List.mem_map.1 hm
        exact kf_good y
      obtain ⟨b7, c7', e7, _⟩ := own_some OW (by omega)
      cases e7
      have K0 := hide (And.intro (own_cell OW an (.int .i64 kt) (nts_at hkt)).1 (own_type OW (k := b7) rfl).2.1)
      have hPx : Hid ((zz ks)[an]? = some (kt, 0, 0)) := hide (by simp [zz, hkt])
      have NW := hide (new_ok _ (.slice none 0 0) ks [] 0 0 (Sl.of_own hkl.symm OW hfit) (SlC.nilS wr) hokN)
      have HKZ := hide (zeroT_of hkg)
      have hak : (an : Int) < (k : Int) := by omega
      have E2r := hide (H7.out.below (Nat.le_refl _) I1.out.2.1)
      have B0 := hide I1.out.2.1
      have V0 := hide I1.out.2.2
      clear OW hfit hokN hkt hkg hks hkl I1 HS HN H7
      go_wp2_with fail
      refine NW.out.mono ?_
      rintro e w5 ⟨g, F, rfl, h5, hl, hb5⟩
      have M5 : Hid (Mk wr w5 g ⟨zz ks, [], [], []⟩) := hide ⟨F, h5, hl, hb5⟩
      have V5 := V0.out.al hb5
      obtain ⟨_, v0, v1, v2⟩ := V5.all
      clear h5 hl hb5 NW V5
      obtain ⟨ib, hib⟩ : ∃ ib, isB t m z kt = ib := ⟨_, rfl⟩
      cases ib with
      | false =>
        go_wp2_with fail
        refine (M5.out.wbad E2r.out.e2 an (kt, 0, 0) hPx.out t m z hib).mono ?_
        rintro e w6 ⟨rfl, h6⟩
        have M6 := hide h6
        clear h6 M5 v0 v1 v2
        go_wp2_with fail
        refine (M6.out.read an (kt, 0, 0) hPx.out).mono ?_
        rintro e w7 ⟨rfl, h7⟩
        have M7 := hide h7
        clear h7 M6
        go_wp2_with fail
        obtain ⟨gb, hgb⟩ : ∃ gb, goodB t m z = gb := ⟨_, rfl⟩
        have GA : ∀ w, Calls Tryd.prog 33 #[.agg #[.int .i64 t, .int .i64 m, .int .u64 z]] w (Vb w (.bool gb)) := fun w => by rw [← hgb]; exact good_any t m z w
        have ZA : ∀ w, Calls Tryd.prog 34 #[.int .i64 kt] w (Vv w kt 0 0) := fun w => by
          have := zero_any kt w
          rw [HKZ.out] at this
          exact this
        cases gb with
        | false =>
          have B3 := hide (bel_al (bel_trans B0.out M7.out.below) (.cells #[.int .i64 kt, .int .i64 0, .int .u64 0] 41))
          have T := hide (show Ty (w7.alloc (.cells #[.int .i64 kt, .int .i64 0, .int .u64 0] 41)) gv w7.heap.size b7 an t m z kt 0 0 kt p from ⟨(V0.out.al M7.out.below).al (bel_new _ _), Val.new _ _ _ _, (((bel_trans M7.out.below (bel_new _ _)).cell (p := ⟨b7, an, none⟩) K0.out.2).trans K0.out.1), Nat.lt_of_lt_of_le K0.out.2 (bel_trans M7.out.below (bel_new _ _)).size, E2r.out.below (Nat.le_refl _) (bel_trans M7.out.below (bel_new _ _))⟩)
          generalize w7.alloc (.cells #[.int .i64 kt, .int .i64 0, .int .u64 0] 41) = w8 at *
          clear M7
          refine wp_region_held_drew (S := fun w' => Ty w' gv w7.heap.size b7 an t m z kt 0 0 kt p) mixed (T.out.al (bel_drawn (Below.refl _ _))) (fun hH => ?_)
          replace B3 := hide (bel_drawn B3.out)
          clear T
          generalize w8.drew = w3 at *
          refine wpAnyH_take (i := 0) (v := ?_) rfl (by kernel_rfl) (by kernel_rfl) (by kernel_rfl) (fun _ _ _ h => h) (Or.inl ⟨by rfl, ?_⟩) hH ?_
          rotate_left 1
          · (intro w hSw; have q := hSw.1.all.2; clear hSw; go_simp <;> with_reducible rfl)
          simp only [Act.put, List.getElem_toArray, List.getElem_cons_zero, List.setIfInBounds_toArray, List.set_cons_zero, List.set_cons_succ]
          refine wpAnyH_ready (rs := [1]) (by kernel_rfl) (by decide) ?_
          refine AllReadyH.cons rfl (fun K1 hK1 => ?_) AllReadyH.nil
          go_simp
          refine (GA _).mono ?_
          rintro e d4 ⟨rfl, hb⟩
          replace B3 := hide (bel_trans B3.out hb)
          refine hK1.out _ _ (hH.al hb) (fun hH => ?_)
          clear hK1 K1 hb
          refine wpAnyH_take (i := 2) (v := ?_) rfl (by kernel_rfl) (by kernel_rfl) (by kernel_rfl) (fun _ _ _ h => h) (Or.inl ⟨by rfl, ?_⟩) hH ?_
          rotate_left 1
          · (intro w hSw; skip; clear hSw; go_simp <;> with_reducible rfl)
          simp only [Act.put, List.getElem_toArray, List.getElem_cons_zero, List.getElem_cons_succ, List.setIfInBounds_toArray, List.set_cons_zero, List.set_cons_succ]
          refine wpAnyH_take (i := 3) (v := ?_) rfl (by kernel_rfl) (by kernel_rfl) (by kernel_rfl) (fun _ _ _ h => h) (Or.inl ⟨by rfl, ?_⟩) hH ?_
          rotate_left 1
          · (intro w hSw; skip; clear hSw; go_simp <;> with_reducible rfl)
          simp only [Act.put, List.getElem_toArray, List.getElem_cons_zero, List.getElem_cons_succ, List.setIfInBounds_toArray, List.set_cons_zero, List.set_cons_succ]
          refine wpAnyH_take (i := 4) (v := undef) rfl (by kernel_rfl) (by kernel_rfl) (by kernel_rfl) (fun _ _ _ h => h) (Or.inr ⟨by rfl, rfl⟩) hH ?_
          simp only [Act.put, List.getElem_toArray, List.getElem_cons_zero, List.getElem_cons_succ, List.setIfInBounds_toArray, List.set_cons_zero, List.set_cons_succ]
          refine wpAnyH_take (i := 5) (v := undef) rfl (by kernel_rfl) (by kernel_rfl) (by kernel_rfl) (fun _ _ _ h => h) (Or.inr ⟨by rfl, rfl⟩) hH ?_
          simp only [Act.put, List.getElem_toArray, List.getElem_cons_zero, List.getElem_cons_succ, List.setIfInBounds_toArray, List.set_cons_zero, List.set_cons_succ]
          refine wpAnyH_take (i := 6) (v := undef) rfl (by kernel_rfl) (by kernel_rfl) (by kernel_rfl) (fun _ _ _ h => h) (Or.inr ⟨by rfl, rfl⟩) hH ?_
          simp only [Act.put, List.getElem_toArray, List.getElem_cons_zero, List.getElem_cons_succ, List.setIfInBounds_toArray, List.set_cons_zero, List.set_cons_succ]
          refine wpAnyH_take (i := 7) (v := undef) rfl (by kernel_rfl) (by kernel_rfl) (by kernel_rfl) (fun _ _ _ h => h) (Or.inr ⟨by rfl, rfl⟩) hH ?_
          simp only [Act.put, List.getElem_toArray, List.getElem_cons_zero, List.getElem_cons_succ, List.setIfInBounds_toArray, List.set_cons_zero, List.set_cons_succ]
          refine wpAnyH_take (i := 8) (v := undef) rfl (by kernel_rfl) (by kernel_rfl) (by kernel_rfl) (fun _ _ _ h => h) (Or.inr ⟨by rfl, rfl⟩) hH ?_
          simp only [Act.put, List.getElem_toArray, List.getElem_cons_zero, List.getElem_cons_succ, List.setIfInBounds_toArray, List.set_cons_zero, List.set_cons_succ]
          refine wpAnyH_take (i := 9) (v := undef) rfl (by kernel_rfl) (by kernel_rfl) (by kernel_rfl) (fun _ _ _ h => h) (Or.inr ⟨by rfl, rfl⟩) hH ?_
          simp only [Act.put, List.getElem_toArray, List.getElem_cons_zero, List.getElem_cons_succ, List.setIfInBounds_toArray, List.set_cons_zero, List.set_cons_succ]
          refine wpAnyH_take (i := 10) (v := undef) rfl (by kernel_rfl) (by kernel_rfl) (by kernel_rfl) (fun _ _ _ h => h) (Or.inr ⟨by rfl, rfl⟩) hH ?_
          simp only [Act.put, List.getElem_toArray, List.getElem_cons_zero, List.getElem_cons_succ, List.setIfInBounds_toArray, List.set_cons_zero, List.set_cons_succ]
          refine wpAnyH_take (i := 11) (v := ?_) rfl (by kernel_rfl) (by kernel_rfl) (by kernel_rfl) (fun _ _ _ h => h) (Or.inl ⟨by rfl, ?_⟩) hH ?_
          rotate_left 1
          · (intro w hSw; skip; clear hSw; go_simp <;> with_reducible rfl)
          simp only [Act.put, List.getElem_toArray, List.getElem_cons_zero, List.getElem_cons_succ, List.setIfInBounds_toArray, List.set_cons_zero, List.set_cons_succ]
          refine wpAnyH_done (by kernel_rfl) ?_ _
          have T := hide hH
          clear hH
          go_wp2_with fail
          refine wp_region_held_drew (S := fun w' => Ty w' gv w7.heap.size b7 an t m z kt 0 0 kt p) mixed (T.out.al (bel_drawn (Below.refl _ _))) (fun hH => ?_)
          replace B3 := hide (bel_drawn B3.out)
          clear T
          generalize World.drew _ = w9 at *
          refine wpAnyH_take (i := 0) (v := ?_) rfl (by kernel_rfl) (by kernel_rfl) (by kernel_rfl) (fun _ _ _ h => h) (Or.inl ⟨by rfl, ?_⟩) hH ?_
          rotate_left 1
          · (intro w hSw; skip; clear hSw; go_simp <;> with_reducible rfl)
          simp only [Act.put, List.getElem_toArray, List.getElem_cons_zero, List.setIfInBounds_toArray, List.set_cons_zero, List.set_cons_succ]
          refine wpAnyH_ready (rs := [1]) (by kernel_rfl) (by decide) ?_
          refine AllReadyH.cons rfl (fun K1 hK1 => ?_) AllReadyH.nil
          go_simp
          refine (num_err p 4 _ hH.2.2.2.2 (by omega)).mono ?_
          rintro e d4 ⟨rfl, hb⟩
          replace B3 := hide (bel_trans B3.out hb)
          refine hK1.out _ _ (hH.al hb) (fun hH => ?_)
          clear hK1 K1 hb
          refine wpAnyH_take (i := 2) (v := ?_) rfl (by kernel_rfl) (by kernel_rfl) (by kernel_rfl) (fun _ _ _ h => h) (Or.inl ⟨by rfl, ?_⟩) hH ?_
          rotate_left 1
          · (intro w hSw; skip; clear hSw; go_simp <;> with_reducible rfl)
          simp only [Act.put, List.getElem_toArray, List.getElem_cons_zero, List.getElem_cons_succ, List.setIfInBounds_toArray, List.set_cons_zero, List.set_cons_succ]
          refine wpAnyH_take (i := 3) (v := ?_) rfl (by kernel_rfl) (by kernel_rfl) (by kernel_rfl) (fun _ _ _ h => h) (Or.inl ⟨by rfl, ?_⟩) hH ?_
          rotate_left 1
          · (intro w hSw; skip; clear hSw; go_simp <;> with_reducible rfl)
          simp only [Act.put, List.getElem_toArray, List.getElem_cons_zero, List.getElem_cons_succ, List.setIfInBounds_toArray, List.set_cons_zero, List.set_cons_succ]
          refine wpAnyH_take (i := 4) (v := ?_) rfl (by kernel_rfl) (by kernel_rfl) (by kernel_rfl) (fun _ _ _ h => h) (Or.inl ⟨by rfl, ?_⟩) hH ?_
          rotate_left 1
          · (intro w hSw; skip; clear hSw; go_simp <;> with_reducible rfl)
          simp only [Act.put, List.getElem_toArray, List.getElem_cons_zero, List.getElem_cons_succ, List.setIfInBounds_toArray, List.set_cons_zero, List.set_cons_succ]
          refine wpAnyH_take (i := 5) (v := ?_) rfl (by kernel_rfl) (by kernel_rfl) (by kernel_rfl) (fun _ _ _ h => h) (Or.inl ⟨by rfl, ?_⟩) hH ?_
          rotate_left 1
          · (intro w hSw; skip; clear hSw; go_simp <;> with_reducible rfl)
          simp only [Act.put, List.getElem_toArray, List.getElem_cons_zero, List.getElem_cons_succ, List.setIfInBounds_toArray, List.set_cons_zero, List.set_cons_succ]
          refine wpAnyH_take (i := 6) (v := ?_) rfl (by kernel_rfl) (by kernel_rfl) (by kernel_rfl) (fun _ _ _ h => h) (Or.inl ⟨by rfl, ?_⟩) hH ?_
          rotate_left 1
          · (intro w hSw; skip; clear hSw; go_simp <;> with_reducible rfl)
          simp only [Act.put, List.getElem_toArray, List.getElem_cons_zero, List.getElem_cons_succ, List.setIfInBounds_toArray, List.set_cons_zero, List.set_cons_succ]
          refine wpAnyH_take (i := 7) (v := ?_) rfl (by kernel_rfl) (by kernel_rfl) (by kernel_rfl) (fun _ _ _ h => h) (Or.inl ⟨by rfl, ?_⟩) hH ?_
          rotate_left 1
          · (intro w hSw; skip; clear hSw; go_simp <;> with_reducible rfl)
          simp only [Act.put, List.getElem_toArray, List.getElem_cons_zero, List.getElem_cons_succ, List.setIfInBounds_toArray, List.set_cons_zero, List.set_cons_succ]
          refine wpAnyH_take (i := 8) (v := ?_) rfl (by kernel_rfl) (by kernel_rfl) (by kernel_rfl) (fun _ _ _ h => h) (Or.inl ⟨by rfl, ?_⟩) hH ?_
          rotate_left 1
          · (intro w hSw; have q := hSw.2.1.all.2; clear hSw; go_simp <;> with_reducible rfl)
          simp only [Act.put, List.getElem_toArray, List.getElem_cons_zero, List.getElem_cons_succ, List.setIfInBounds_toArray, List.set_cons_zero, List.set_cons_succ]
          refine wpAnyH_take (i := 9) (v := ?_) rfl (by kernel_rfl) (by kernel_rfl) (by kernel_rfl) (fun _ _ _ h => h) (Or.inl ⟨by rfl, ?_⟩) hH ?_
          rotate_left 1
          · (intro w hSw; skip; clear hSw; go_simp <;> with_reducible rfl)
          simp only [Act.put, List.getElem_toArray, List.getElem_cons_zero, List.getElem_cons_succ, List.setIfInBounds_toArray, List.set_cons_zero, List.set_cons_succ]
          refine wpAnyH_take (i := 10) (v := ?_) rfl (by kernel_rfl) (by kernel_rfl) (by kernel_rfl) (fun _ _ _ h => h) (Or.inl ⟨by rfl, ?_⟩) hH ?_
          rotate_left 1
          · (intro w hSw; skip; clear hSw; go_simp <;> with_reducible rfl)
          simp only [Act.put, List.getElem_toArray, List.getElem_cons_zero, List.getElem_cons_succ, List.setIfInBounds_toArray, List.set_cons_zero, List.set_cons_succ]
          refine wpAnyH_take (i := 11) (v := ?_) rfl (by kernel_rfl) (by kernel_rfl) (by kernel_rfl) (fun _ _ _ h => h) (Or.inl ⟨by rfl, ?_⟩) hH ?_
          rotate_left 1
          · (intro w hSw; skip; clear hSw; go_simp <;> with_reducible rfl)
          simp only [Act.put, List.getElem_toArray, List.getElem_cons_zero, List.getElem_cons_succ, List.setIfInBounds_toArray, List.set_cons_zero, List.set_cons_succ]
          refine wpAnyH_take (i := 12) (v := ?_) rfl (by kernel_rfl) (by kernel_rfl) (by kernel_rfl) (fun _ _ _ h => h) (Or.inl ⟨by rfl, ?_⟩) hH ?_
          rotate_left 1
          · (intro w hSw; have q := hSw.2.2.1; clear hSw; go_simp <;> with_reducible rfl)
          simp only [Act.put, List.getElem_toArray, List.getElem_cons_zero, List.getElem_cons_succ, List.setIfInBounds_toArray, List.set_cons_zero, List.set_cons_succ]
          refine wpAnyH_ready (rs := [13]) (by kernel_rfl) (by decide) ?_
          refine AllReadyH.cons rfl (fun K1 hK1 => ?_) AllReadyH.nil
          go_simp
          refine (ZA _).mono ?_
          rintro e d4 ⟨rfl, hb⟩
          replace B3 := hide (bel_trans B3.out hb)
          refine hK1.out _ _ (hH.al hb) (fun hH => ?_)
          clear hK1 K1 hb
          refine wpAnyH_take (i := 14) (v := ?_) rfl (by kernel_rfl) (by kernel_rfl) (by kernel_rfl) (fun _ _ _ h => h) (Or.inl ⟨by rfl, ?_⟩) hH ?_
          rotate_left 1
          · (intro w hSw; have EV := eq_vv; clear hSw; go_simp <;> with_reducible rfl)
          simp only [Act.put, List.getElem_toArray, List.getElem_cons_zero, List.getElem_cons_succ, List.setIfInBounds_toArray, List.set_cons_zero, List.set_cons_succ]
          refine wpAnyH_take (i := 15) (v := ?_) rfl (by kernel_rfl) (by kernel_rfl) (by kernel_rfl) (fun _ _ _ h => h) (Or.inl ⟨by rfl, ?_⟩) hH ?_
          rotate_left 1
          · (intro w hSw; skip; clear hSw; go_simp <;> with_reducible rfl)
          simp only [Act.put, List.getElem_toArray, List.getElem_cons_zero, List.getElem_cons_succ, List.setIfInBounds_toArray, List.set_cons_zero, List.set_cons_succ]
          refine wpAnyH_take (i := 16) (v := ?_) rfl (by kernel_rfl) (by kernel_rfl) (by kernel_rfl) (fun _ _ _ h => h) (Or.inl ⟨by rfl, ?_⟩) hH ?_
          rotate_left 1
          · (intro w hSw; skip; clear hSw; go_simp <;> with_reducible rfl)
          simp only [Act.put, List.getElem_toArray, List.getElem_cons_zero, List.getElem_cons_succ, List.setIfInBounds_toArray, List.set_cons_zero, List.set_cons_succ]
          refine wpAnyH_done (by kernel_rfl) ?_ _
          clear hH
          go_wp2_with fail
          go_ret
          exact Vb.mk (by simp) B3.out
        | true =>
          have hne : (t != kt) = true := by
            unfold isB at hib
            rw [hgb] at hib
            simpa [bne] using hib
          have B3 := hide (bel_al (bel_trans B0.out M7.out.below) (.cells #[.int .i64 kt, .int .i64 0, .int .u64 0] 41))
          have T := hide (show Ty (w7.alloc (.cells #[.int .i64 kt, .int .i64 0, .int .u64 0] 41)) gv w7.heap.size b7 an t m z kt 0 0 kt p from ⟨(V0.out.al M7.out.below).al (bel_new _ _), Val.new _ _ _ _, (((bel_trans M7.out.below (bel_new _ _)).cell (p := ⟨b7, an, none⟩) K0.out.2).trans K0.out.1), Nat.lt_of_lt_of_le K0.out.2 (bel_trans M7.out.below (bel_new _ _)).size, E2r.out.below (Nat.le_refl _) (bel_trans M7.out.below (bel_new _ _))⟩)
          generalize w7.alloc (.cells #[.int .i64 kt, .int .i64 0, .int .u64 0] 41) = w8 at *
          clear M7
          refine wp_region_held_drew (S := fun w' => Ty w' gv w7.heap.size b7 an t m z kt 0 0 kt p) mixed (T.out.al (bel_drawn (Below.refl _ _))) (fun hH => ?_)
          replace B3 := hide (bel_drawn B3.out)
          clear T
          generalize w8.drew = w3 at *
          refine wpAnyH_take (i := 0) (v := ?_) rfl (by kernel_rfl) (by kernel_rfl) (by kernel_rfl) (fun _ _ _ h => h) (Or.inl ⟨by rfl, ?_⟩) hH ?_
          rotate_left 1
          · (intro w hSw; have q := hSw.1.all.2; clear hSw; go_simp <;> with_reducible rfl)
          simp only [Act.put, List.getElem_toArray, List.getElem_cons_zero, List.setIfInBounds_toArray, List.set_cons_zero, List.set_cons_succ]
          refine wpAnyH_ready (rs := [1]) (by kernel_rfl) (by decide) ?_
          refine AllReadyH.cons rfl (fun K1 hK1 => ?_) AllReadyH.nil
          go_simp
          refine (GA _).mono ?_
          rintro e d4 ⟨rfl, hb⟩
          replace B3 := hide (bel_trans B3.out hb)
          refine hK1.out _ _ (hH.al hb) (fun hH => ?_)
          clear hK1 K1 hb
          refine wpAnyH_take (i := 2) (v := ?_) rfl (by kernel_rfl) (by kernel_rfl) (by kernel_rfl) (fun _ _ _ h => h) (Or.inl ⟨by rfl, ?_⟩) hH ?_
          rotate_left 1
          · (intro w hSw; skip; clear hSw; go_simp <;> with_reducible rfl)
          simp only [Act.put, List.getElem_toArray, List.getElem_cons_zero, List.getElem_cons_succ, List.setIfInBounds_toArray, List.set_cons_zero, List.set_cons_succ]
          refine wpAnyH_take (i := 3) (v := ?_) rfl (by kernel_rfl) (by kernel_rfl) (by kernel_rfl) (fun _ _ _ h => h) (Or.inl ⟨by rfl, ?_⟩) hH ?_
          rotate_left 1
          · (intro w hSw; skip; clear hSw; go_simp <;> with_reducible rfl)
          simp only [Act.put, List.getElem_toArray, List.getElem_cons_zero, List.getElem_cons_succ, List.setIfInBounds_toArray, List.set_cons_zero, List.set_cons_succ]
          refine wpAnyH_take (i := 4) (v := ?_) rfl (by kernel_rfl) (by kernel_rfl) (by kernel_rfl) (fun _ _ _ h => h) (Or.inl ⟨by rfl, ?_⟩) hH ?_
          rotate_left 1
          · (intro w hSw; skip; clear hSw; go_simp <;> with_reducible rfl)
          simp only [Act.put, List.getElem_toArray, List.getElem_cons_zero, List.getElem_cons_succ, List.setIfInBounds_toArray, List.set_cons_zero, List.set_cons_succ]
          refine wpAnyH_take (i := 5) (v := ?_) rfl (by kernel_rfl) (by kernel_rfl) (by kernel_rfl) (fun _ _ _ h => h) (Or.inl ⟨by rfl, ?_⟩) hH ?_
          rotate_left 1
          · (intro w hSw; have q := hSw.1.all.2; clear hSw; go_simp <;> with_reducible rfl)
          simp only [Act.put, List.getElem_toArray, List.getElem_cons_zero, List.getElem_cons_succ, List.setIfInBounds_toArray, List.set_cons_zero, List.set_cons_succ]
          refine wpAnyH_take (i := 6) (v := ?_) rfl (by kernel_rfl) (by kernel_rfl) (by kernel_rfl) (fun _ _ _ h => h) (Or.inl ⟨by rfl, ?_⟩) hH ?_
          rotate_left 1
          · (intro w hSw; skip; clear hSw; go_simp <;> with_reducible rfl)
          simp only [Act.put, List.getElem_toArray, List.getElem_cons_zero, List.getElem_cons_succ, List.setIfInBounds_toArray, List.set_cons_zero, List.set_cons_succ]
          refine wpAnyH_take (i := 7) (v := ?_) rfl (by kernel_rfl) (by kernel_rfl) (by kernel_rfl) (fun _ _ _ h => h) (Or.inl ⟨by rfl, ?_⟩) hH ?_
          rotate_left 1
          · (intro w hSw; skip; clear hSw; go_simp <;> with_reducible rfl)
          simp only [Act.put, List.getElem_toArray, List.getElem_cons_zero, List.getElem_cons_succ, List.setIfInBounds_toArray, List.set_cons_zero, List.set_cons_succ]
          refine wpAnyH_take (i := 8) (v := ?_) rfl (by kernel_rfl) (by kernel_rfl) (by kernel_rfl) (fun _ _ _ h => h) (Or.inl ⟨by rfl, ?_⟩) hH ?_
          rotate_left 1
          · (intro w hSw; skip; clear hSw; go_simp <;> with_reducible rfl)
          simp only [Act.put, List.getElem_toArray, List.getElem_cons_zero, List.getElem_cons_succ, List.setIfInBounds_toArray, List.set_cons_zero, List.set_cons_succ]
          refine wpAnyH_take (i := 9) (v := ?_) rfl (by kernel_rfl) (by kernel_rfl) (by kernel_rfl) (fun _ _ _ h => h) (Or.inl ⟨by rfl, ?_⟩) hH ?_
          rotate_left 1
          · (intro w hSw; have q := hSw.2.2.1; clear hSw; go_simp <;> with_reducible rfl)
          simp only [Act.put, List.getElem_toArray, List.getElem_cons_zero, List.getElem_cons_succ, List.setIfInBounds_toArray, List.set_cons_zero, List.set_cons_succ]
          refine wpAnyH_take (i := 10) (v := ?_) rfl (by kernel_rfl) (by kernel_rfl) (by kernel_rfl) (fun _ _ _ h => h) (Or.inl ⟨by rfl, ?_⟩) hH ?_
          rotate_left 1
          · (intro w hSw; skip; clear hSw; go_simp <;> with_reducible rfl)
          simp only [Act.put, List.getElem_toArray, List.getElem_cons_zero, List.getElem_cons_succ, List.setIfInBounds_toArray, List.set_cons_zero, List.set_cons_succ]
          refine wpAnyH_take (i := 11) (v := ?_) rfl (by kernel_rfl) (by kernel_rfl) (by kernel_rfl) (fun _ _ _ h => h) (Or.inl ⟨by rfl, ?_⟩) hH ?_
          rotate_left 1
          · (intro w hSw; skip; clear hSw; go_simp <;> with_reducible rfl)
          simp only [Act.put, List.getElem_toArray, List.getElem_cons_zero, List.getElem_cons_succ, List.setIfInBounds_toArray, List.set_cons_zero, List.set_cons_succ]
          refine wpAnyH_done (by kernel_rfl) ?_ _
          have T := hide hH
          clear hH
          go_wp2_with fail
          refine wp_region_held_drew (S := fun w' => Ty w' gv w7.heap.size b7 an t m z kt 0 0 kt p) mixed (T.out.al (bel_drawn (Below.refl _ _))) (fun hH => ?_)
          replace B3 := hide (bel_drawn B3.out)
          clear T
          generalize World.drew _ = w9 at *
          refine wpAnyH_take (i := 0) (v := ?_) rfl (by kernel_rfl) (by kernel_rfl) (by kernel_rfl) (fun _ _ _ h => h) (Or.inl ⟨by rfl, ?_⟩) hH ?_
          rotate_left 1
          · (intro w hSw; skip; clear hSw; go_simp <;> with_reducible rfl)
          simp only [Act.put, List.getElem_toArray, List.getElem_cons_zero, List.setIfInBounds_toArray, List.set_cons_zero, List.set_cons_succ]
          refine wpAnyH_ready (rs := [1]) (by kernel_rfl) (by decide) ?_
          refine AllReadyH.cons rfl (fun K1 hK1 => ?_) AllReadyH.nil
          go_simp
          refine (num_err p 4 _ hH.2.2.2.2 (by omega)).mono ?_
          rintro e d4 ⟨rfl, hb⟩
          replace B3 := hide (bel_trans B3.out hb)
          refine hK1.out _ _ (hH.al hb) (fun hH => ?_)
          clear hK1 K1 hb
          refine wpAnyH_take (i := 2) (v := ?_) rfl (by kernel_rfl) (by kernel_rfl) (by kernel_rfl) (fun _ _ _ h => h) (Or.inl ⟨by rfl, ?_⟩) hH ?_
          rotate_left 1
          · (intro w hSw; skip; clear hSw; go_simp <;> with_reducible rfl)
          simp only [Act.put, List.getElem_toArray, List.getElem_cons_zero, List.getElem_cons_succ, List.setIfInBounds_toArray, List.set_cons_zero, List.set_cons_succ]
          refine wpAnyH_take (i := 3) (v := ?_) rfl (by kernel_rfl) (by kernel_rfl) (by kernel_rfl) (fun _ _ _ h => h) (Or.inl ⟨by rfl, ?_⟩) hH ?_
          rotate_left 1
          · (intro w hSw; skip; clear hSw; go_simp <;> with_reducible rfl)
          simp only [Act.put, List.getElem_toArray, List.getElem_cons_zero, List.getElem_cons_succ, List.setIfInBounds_toArray, List.set_cons_zero, List.set_cons_succ]
          refine wpAnyH_take (i := 4) (v := ?_) rfl (by kernel_rfl) (by kernel_rfl) (by kernel_rfl) (fun _ _ _ h => h) (Or.inl ⟨by rfl, ?_⟩) hH ?_
          rotate_left 1
          · (intro w hSw; skip; clear hSw; go_simp <;> with_reducible rfl)
          simp only [Act.put, List.getElem_toArray, List.getElem_cons_zero, List.getElem_cons_succ, List.setIfInBounds_toArray, List.set_cons_zero, List.set_cons_succ]
          refine wpAnyH_take (i := 5) (v := ?_) rfl (by kernel_rfl) (by kernel_rfl) (by kernel_rfl) (fun _ _ _ h => h) (Or.inl ⟨by rfl, ?_⟩) hH ?_
          rotate_left 1
          · (intro w hSw; skip; clear hSw; go_simp <;> with_reducible rfl)
          simp only [Act.put, List.getElem_toArray, List.getElem_cons_zero, List.getElem_cons_succ, List.setIfInBounds_toArray, List.set_cons_zero, List.set_cons_succ]
          refine wpAnyH_take (i := 6) (v := ?_) rfl (by kernel_rfl) (by kernel_rfl) (by kernel_rfl) (fun _ _ _ h => h) (Or.inl ⟨by rfl, ?_⟩) hH ?_
          rotate_left 1
          · (intro w hSw; skip; clear hSw; go_simp <;> with_reducible rfl)
          simp only [Act.put, List.getElem_toArray, List.getElem_cons_zero, List.getElem_cons_succ, List.setIfInBounds_toArray, List.set_cons_zero, List.set_cons_succ]
          refine wpAnyH_take (i := 7) (v := ?_) rfl (by kernel_rfl) (by kernel_rfl) (by kernel_rfl) (fun _ _ _ h => h) (Or.inl ⟨by rfl, ?_⟩) hH ?_
          rotate_left 1
          · (intro w hSw; skip; clear hSw; go_simp <;> with_reducible rfl)
          simp only [Act.put, List.getElem_toArray, List.getElem_cons_zero, List.getElem_cons_succ, List.setIfInBounds_toArray, List.set_cons_zero, List.set_cons_succ]
          refine wpAnyH_take (i := 8) (v := ?_) rfl (by kernel_rfl) (by kernel_rfl) (by kernel_rfl) (fun _ _ _ h => h) (Or.inl ⟨by rfl, ?_⟩) hH ?_
          rotate_left 1
          · (intro w hSw; have q := hSw.2.1.all.2; clear hSw; go_simp <;> with_reducible rfl)
          simp only [Act.put, List.getElem_toArray, List.getElem_cons_zero, List.getElem_cons_succ, List.setIfInBounds_toArray, List.set_cons_zero, List.set_cons_succ]
          refine wpAnyH_take (i := 9) (v := ?_) rfl (by kernel_rfl) (by kernel_rfl) (by kernel_rfl) (fun _ _ _ h => h) (Or.inl ⟨by rfl, ?_⟩) hH ?_
          rotate_left 1
          · (intro w hSw; skip; clear hSw; go_simp <;> with_reducible rfl)
          simp only [Act.put, List.getElem_toArray, List.getElem_cons_zero, List.getElem_cons_succ, List.setIfInBounds_toArray, List.set_cons_zero, List.set_cons_succ]
          refine wpAnyH_take (i := 10) (v := ?_) rfl (by kernel_rfl) (by kernel_rfl) (by kernel_rfl) (fun _ _ _ h => h) (Or.inl ⟨by rfl, ?_⟩) hH ?_
          rotate_left 1
          · (intro w hSw; skip; clear hSw; go_simp <;> with_reducible rfl)
          simp only [Act.put, List.getElem_toArray, List.getElem_cons_zero, List.getElem_cons_succ, List.setIfInBounds_toArray, List.set_cons_zero, List.set_cons_succ]
          refine wpAnyH_take (i := 11) (v := ?_) rfl (by kernel_rfl) (by kernel_rfl) (by kernel_rfl) (fun _ _ _ h => h) (Or.inl ⟨by rfl, ?_⟩) hH ?_
          rotate_left 1
          · (intro w hSw; skip; clear hSw; go_simp <;> with_reducible rfl)
          simp only [Act.put, List.getElem_toArray, List.getElem_cons_zero, List.getElem_cons_succ, List.setIfInBounds_toArray, List.set_cons_zero, List.set_cons_succ]
          refine wpAnyH_take (i := 12) (v := ?_) rfl (by kernel_rfl) (by kernel_rfl) (by kernel_rfl) (fun _ _ _ h => h) (Or.inl ⟨by rfl, ?_⟩) hH ?_
          rotate_left 1
          · (intro w hSw; have q := hSw.2.2.1; clear hSw; go_simp <;> with_reducible rfl)
          simp only [Act.put, List.getElem_toArray, List.getElem_cons_zero, List.getElem_cons_succ, List.setIfInBounds_toArray, List.set_cons_zero, List.set_cons_succ]
          refine wpAnyH_ready (rs := [13]) (by kernel_rfl) (by decide) ?_
          refine AllReadyH.cons rfl (fun K1 hK1 => ?_) AllReadyH.nil
          go_simp
          refine (ZA _).mono ?_
          rintro e d4 ⟨rfl, hb⟩
          replace B3 := hide (bel_trans B3.out hb)
          refine hK1.out _ _ (hH.al hb) (fun hH => ?_)
          clear hK1 K1 hb
          refine wpAnyH_take (i := 14) (v := ?_) rfl (by kernel_rfl) (by kernel_rfl) (by kernel_rfl) (fun _ _ _ h => h) (Or.inl ⟨by rfl, ?_⟩) hH ?_
          rotate_left 1
          · (intro w hSw; have EV := eq_vv; clear hSw; go_simp <;> with_reducible rfl)
          simp only [Act.put, List.getElem_toArray, List.getElem_cons_zero, List.getElem_cons_succ, List.setIfInBounds_toArray, List.set_cons_zero, List.set_cons_succ]
          refine wpAnyH_take (i := 15) (v := ?_) rfl (by kernel_rfl) (by kernel_rfl) (by kernel_rfl) (fun _ _ _ h => h) (Or.inl ⟨by rfl, ?_⟩) hH ?_
          rotate_left 1
          · (intro w hSw; skip; clear hSw; go_simp <;> with_reducible rfl)
          simp only [Act.put, List.getElem_toArray, List.getElem_cons_zero, List.getElem_cons_succ, List.setIfInBounds_toArray, List.set_cons_zero, List.set_cons_succ]
          refine wpAnyH_take (i := 16) (v := ?_) rfl (by kernel_rfl) (by kernel_rfl) (by kernel_rfl) (fun _ _ _ h => h) (Or.inl ⟨by rfl, ?_⟩) hH ?_
          rotate_left 1
          · (intro w hSw; skip; clear hSw; go_simp <;> with_reducible rfl)
          simp only [Act.put, List.getElem_toArray, List.getElem_cons_zero, List.getElem_cons_succ, List.setIfInBounds_toArray, List.set_cons_zero, List.set_cons_succ]
          refine wpAnyH_done (by kernel_rfl) ?_ _
          clear hH
          go_wp2_with fail
          go_ret
          exact Vb.mk (by simp) B3.out
      | true =>
        go_wp2_with fail
        refine (M5.out.write E2r.out.e2 an (kt, 0, 0) hPx.out t m z hib).mono ?_
        rintro e w6 ⟨rfl, h6⟩
        have M6 := hide h6
        clear h6 M5 v0 v1 v2
        have hP2 : Hid (((zz ks).set an (t, m, z))[an]? = some (t, m, z)) := hide (List.getElem?_set_self (List.getElem?_eq_some_iff.1 hPx.out).1)
        go_wp2_with fail
        refine (M6.out.read an (t, m, z) hP2.out).mono ?_
        rintro e w7 ⟨rfl, h7⟩
        have M7 := hide h7
        clear h7 M6
        go_wp2_with fail
        have hgb : goodB t m z = true ∧ t = kt := by
          unfold isB at hib
          simpa using hib
        have GA : ∀ w, Calls Tryd.prog 33 #[.agg #[.int .i64 t, .int .i64 m, .int .u64 z]] w (Vb w (.bool true)) := fun w => by have := good_any t m z w; rw [hgb.1] at this; exact this
        have hne : (t != kt) = false := by rw [hgb.2]; simp
        clear hgb hib
        have B3 := hide (bel_al (bel_trans B0.out M7.out.below) (.cells #[.int .i64 t, .int .i64 m, .int .u64 z] 41))
        have T := hide (show Ty (w7.alloc (.cells #[.int .i64 t, .int .i64 m, .int .u64 z] 41)) gv w7.heap.size b7 an t m z t m z kt p from ⟨(V0.out.al M7.out.below).al (bel_new _ _), Val.new _ _ _ _, (((bel_trans M7.out.below (bel_new _ _)).cell (p := ⟨b7, an, none⟩) K0.out.2).trans K0.out.1), Nat.lt_of_lt_of_le K0.out.2 (bel_trans M7.out.below (bel_new _ _)).size, E2r.out.below (Nat.le_refl _) (bel_trans M7.out.below (bel_new _ _))⟩)
        generalize w7.alloc (.cells #[.int .i64 t, .int .i64 m, .int .u64 z] 41) = w8 at *
        clear M7
        refine wp_region_held_drew (S := fun w' => Ty w' gv w7.heap.size b7 an t m z t m z kt p) mixed (T.out.al (bel_drawn (Below.refl _ _))) (fun hH => ?_)
        replace B3 := hide (bel_drawn B3.out)
        clear T
        generalize w8.drew = w3 at *
        refine wpAnyH_take (i := 0) (v := ?_) rfl (by kernel_rfl) (by kernel_rfl) (by kernel_rfl) (fun _ _ _ h => h) (Or.inl ⟨by rfl, ?_⟩) hH ?_
        rotate_left 1
        · (intro w hSw; have q := hSw.1.all.2; clear hSw; go_simp <;> with_reducible rfl)
        simp only [Act.put, List.getElem_toArray, List.getElem_cons_zero, List.setIfInBounds_toArray, List.set_cons_zero, List.set_cons_succ]
        refine wpAnyH_ready (rs := [1]) (by kernel_rfl) (by decide) ?_
        refine AllReadyH.cons rfl (fun K1 hK1 => ?_) AllReadyH.nil
        go_simp
        refine (GA _).mono ?_
        rintro e d4 ⟨rfl, hb⟩
        replace B3 := hide (bel_trans B3.out hb)
        refine hK1.out _ _ (hH.al hb) (fun hH => ?_)
        clear hK1 K1 hb
        refine wpAnyH_take (i := 2) (v := ?_) rfl (by kernel_rfl) (by kernel_rfl) (by kernel_rfl) (fun _ _ _ h => h) (Or.inl ⟨by rfl, ?_⟩) hH ?_
        rotate_left 1
        · (intro w hSw; skip; clear hSw; go_simp <;> with_reducible rfl)
        simp only [Act.put, List.getElem_toArray, List.getElem_cons_zero, List.getElem_cons_succ, List.setIfInBounds_toArray, List.set_cons_zero, List.set_cons_succ]
        refine wpAnyH_take (i := 3) (v := ?_) rfl (by kernel_rfl) (by kernel_rfl) (by kernel_rfl) (fun _ _ _ h => h) (Or.inl ⟨by rfl, ?_⟩) hH ?_
        rotate_left 1
        · (intro w hSw; skip; clear hSw; go_simp <;> with_reducible rfl)
        simp only [Act.put, List.getElem_toArray, List.getElem_cons_zero, List.getElem_cons_succ, List.setIfInBounds_toArray, List.set_cons_zero, List.set_cons_succ]
        refine wpAnyH_take (i := 4) (v := ?_) rfl (by kernel_rfl) (by kernel_rfl) (by kernel_rfl) (fun _ _ _ h => h) (Or.inl ⟨by rfl, ?_⟩) hH ?_
        rotate_left 1
        · (intro w hSw; skip; clear hSw; go_simp <;> with_reducible rfl)
        simp only [Act.put, List.getElem_toArray, List.getElem_cons_zero, List.getElem_cons_succ, List.setIfInBounds_toArray, List.set_cons_zero, List.set_cons_succ]
        refine wpAnyH_take (i := 5) (v := ?_) rfl (by kernel_rfl) (by kernel_rfl) (by kernel_rfl) (fun _ _ _ h => h) (Or.inl ⟨by rfl, ?_⟩) hH ?_
        rotate_left 1
        · (intro w hSw; have q := hSw.1.all.2; clear hSw; go_simp <;> with_reducible rfl)
        simp only [Act.put, List.getElem_toArray, List.getElem_cons_zero, List.getElem_cons_succ, List.setIfInBounds_toArray, List.set_cons_zero, List.set_cons_succ]
        refine wpAnyH_take (i := 6) (v := ?_) rfl (by kernel_rfl) (by kernel_rfl) (by kernel_rfl) (fun _ _ _ h => h) (Or.inl ⟨by rfl, ?_⟩) hH ?_
        rotate_left 1
        · (intro w hSw; skip; clear hSw; go_simp <;> with_reducible rfl)
        simp only [Act.put, List.getElem_toArray, List.getElem_cons_zero, List.getElem_cons_succ, List.setIfInBounds_toArray, List.set_cons_zero, List.set_cons_succ]
        refine wpAnyH_take (i := 7) (v := ?_) rfl (by kernel_rfl) (by kernel_rfl) (by kernel_rfl) (fun _ _ _ h => h) (Or.inl ⟨by rfl, ?_⟩) hH ?_
        rotate_left 1
        · (intro w hSw; skip; clear hSw; go_simp <;> with_reducible rfl)
        simp only [Act.put, List.getElem_toArray, List.getElem_cons_zero, List.getElem_cons_succ, List.setIfInBounds_toArray, List.set_cons_zero, List.set_cons_succ]
        refine wpAnyH_take (i := 8) (v := ?_) rfl (by kernel_rfl) (by kernel_rfl) (by kernel_rfl) (fun _ _ _ h => h) (Or.inl ⟨by rfl, ?_⟩) hH ?_
        rotate_left 1
        · (intro w hSw; skip; clear hSw; go_simp <;> with_reducible rfl)
        simp only [Act.put, List.getElem_toArray, List.getElem_cons_zero, List.getElem_cons_succ, List.setIfInBounds_toArray, List.set_cons_zero, List.set_cons_succ]
        refine wpAnyH_take (i := 9) (v := ?_) rfl (by kernel_rfl) (by kernel_rfl) (by kernel_rfl) (fun _ _ _ h => h) (Or.inl ⟨by rfl, ?_⟩) hH ?_
        rotate_left 1
        · (intro w hSw; have q := hSw.2.2.1; clear hSw; go_simp <;> with_reducible rfl)
        simp only [Act.put, List.getElem_toArray, List.getElem_cons_zero, List.getElem_cons_succ, List.setIfInBounds_toArray, List.set_cons_zero, List.set_cons_succ]
        refine wpAnyH_take (i := 10) (v := ?_) rfl (by kernel_rfl) (by kernel_rfl) (by kernel_rfl) (fun _ _ _ h => h) (Or.inl ⟨by rfl, ?_⟩) hH ?_
        rotate_left 1
        · (intro w hSw; skip; clear hSw; go_simp <;> with_reducible rfl)
        simp only [Act.put, List.getElem_toArray, List.getElem_cons_zero, List.getElem_cons_succ, List.setIfInBounds_toArray, List.set_cons_zero, List.set_cons_succ]
        refine wpAnyH_take (i := 11) (v := ?_) rfl (by kernel_rfl) (by kernel_rfl) (by kernel_rfl) (fun _ _ _ h => h) (Or.inl ⟨by rfl, ?_⟩) hH ?_
        rotate_left 1
        · (intro w hSw; skip; clear hSw; go_simp <;> with_reducible rfl)
        simp only [Act.put, List.getElem_toArray, List.getElem_cons_zero, List.getElem_cons_succ, List.setIfInBounds_toArray, List.set_cons_zero, List.set_cons_succ]
        refine wpAnyH_done (by kernel_rfl) ?_ _
        have T := hide hH
        clear hH
        obtain ⟨_, q0, q1, q2⟩ := T.out.1.all
        obtain ⟨_, p0, p1, p2⟩ := T.out.2.1.all
        go_wp2_with fail
        go_ret
        exact Vb.mk (by simp) B3.out
end Go.Proofs.YtbjcfmajbcbnbaaDoor.Ck
