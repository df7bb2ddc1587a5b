/- Texts of this proof, packed: contracts of the program's functions, and the plain model that they are held against. -/
import Derived.Test.YtogeblmppagabaaGreatDoorQbm
/- tree.read by one rule. -/
namespace Go.Proofs.YtogeblmppagabaaGreatDoor.Ck
open Go.RowKit

set_option maxRecDepth 20000 in
set_option maxHeartbeats 2000000 in
theorem read_expr (s : ByteArray) (p : List Addr) (w : World) (he : Er w p) (hd : w.cell? ⟨2, 0, none⟩ = some (errV p 2)) (hG : 23 ≤ w.heap.size) :
    Calls Tryz.prog 26 #[.string s, .func (.func 27) #[] #[]] w fun e w' => Xp w p e w' (readO (fun L => exD L 0 0) s) := by
  have hmf : ∀ (fn : Fn) (first cap : Array Value) (w : World), (Instr.makeFunc fn first cap).run Tryz.prog w = .ok (.func fn first cap) w := fun _ _ _ _ => rfl
  have hb1 := bel_new w nodZ
  have k1 := nod_new w
  have s1 : (w.alloc nodZ).heap.size = w.heap.size + 1 := by simp
  have hb2 := bel_new (w.alloc nodZ) (.cells #[.nilIface, .int .i64 0] 31)
  have k2 : ((w.alloc nodZ).alloc (.cells #[.nilIface, .int .i64 0] 31)).heap[(w.alloc nodZ).heap.size]? = some (.cells #[.nilIface, .int .i64 0] 31 (0, 0)) := Go.Deep.blk_alloc_new _ _
  rw [s1] at k2
  have B0 := hide (bel_trans hb1 hb2)
  have N0 := hide (k1.bel hb2)
  have K0 := hide k2
  have E0 := hide (he.bel B0.out)
  have D0 := hide ((B0.out.cell (p := ⟨2, 0, none⟩) (World.block_lt_of_cell? w _ hd)).trans hd)
  have s2 : ((w.alloc nodZ).alloc (.cells #[.nilIface, .int .i64 0] 31)).heap.size = w.heap.size + 1 + 1 := by simp
  obtain ⟨out, ho⟩ : ∃ out, readO (fun L => exD L 0 0) s = out := ⟨_, rfl⟩
  rw [ho]
  have HW := hide ho
  clear he hd hb1 k1 s1 hb2 k2 ho
  unfold nodZ at *
  go_enter_defers Tryz.func26, Tryz.ntmps26
  go_wp2_with fail
  generalize (w.alloc (.cells #[.int .i64 0, .int .i64 0, .string ⟨#[]⟩, .int .i64 0, .int .i64 0, .int .i64 0, .int .i64 0, .int .u64 0, .slice none 0 0] 27)).alloc (.cells #[.nilIface, .int .i64 0] 31) = w0 at *
  refine (tokens_all s p w0 E0.out (by omega)).mono ?_
  intro e w1 hp
  obtain ⟨q, hq⟩ : ∃ q, toksF s = q := ⟨_, rfl⟩
  rw [hq] at hp
  cases q with
  | bad k i =>
    obtain ⟨rfl, hb⟩ := hp
    have n1 := N0.out.bel hb
    have k1 := (hb.block _ (lt_of_blk K0.out)).trans K0.out
    have c1 := blk_cell k1 0 _ rfl
    have c2 := blk_cell k1 1 _ rfl
    have f1 := blk_frz k1 0
    have f2 := blk_frz k1 1
    obtain ⟨k2, t2⟩ := set1 k1 0 (errV p k)
    obtain ⟨k3, t3⟩ := set1 k2 1 (.int .i64 i)
    have N3 := hide ((n1.tn t2 (by omega)).tn t3 (by omega))
    have K3 := hide k3
    have B1 := bel_trans B0.out hb
    have B3 := hide ((B1.trans (t2.bel (by omega) B1.size)).trans (t3.bel (by omega) (Nat.le_trans B1.size t2.size)))
    have HQ := hide hq
    unfold errV at *
    clear k1 k2 k3 t2 t3 n1 hb B1 hq E0 N0 K0 B0 D0
    go_wp2_with fail
    clear c1 c2 f1 f2
    generalize (w1.setCell ⟨w.heap.size + 1, 0, none⟩ (.iface 184 (.pointer (some (adr p k))))).setCell ⟨w.heap.size + 1, 1, none⟩ (.int .i64 (i : Int)) = w3 at *
    obtain ⟨⟨f0, f1, f2, f3, f4, f5, f6, f7, f8⟩, b0, b1, b2, b3, b4, b5, b6, b7, b8⟩ := N3.out.all
    have c1 := blk_cell K3.out 0 _ rfl
    have c2 := blk_cell K3.out 1 _ rfl
    have g1 := blk_frz K3.out 0
    have g2 := blk_frz K3.out 1
    go_region
    obtain ⟨k5, t5⟩ := set9 N3.out (.int .i64 0) (.int .i64 0) (.string ⟨#[]⟩) (.int .i64 0) (.int .i64 0) (.int .i64 0) (.int .i64 0) (.int .u64 0) (.slice none 0 0)
    obtain ⟨k6, t6⟩ := set1 ((t5.blk _ (lt_of_blk K3.out) (by omega)).trans K3.out) 0 (.iface 184 (.pointer (some (adr p k))))
    obtain ⟨k7, t7⟩ := set1 k6 1 (.int .i64 i)
    have N7 := hide (Nod.drew ((k5.tn t6 (by omega)).tn t7 (by omega)))
    have K7 := hide (blk_drew k7)
    have B7 := hide (bel_drawn (((B3.out.trans (t5.bel (by omega) B3.out.size)).trans (t6.bel (by omega) (Nat.le_trans B3.out.size t5.size))).trans (t7.bel (by omega) (Nat.le_trans B3.out.size (Nat.le_trans t5.size t6.size)))))
    clear k5 t5 k6 t6 k7 t7 f0 f1 f2 f3 f4 f5 f6 f7 f8 b0 b1 b2 b3 b4 b5 b6 b7 b8 c1 c2 g1 g2 N3 K3 B3
    go_wp2_with fail
    refine ⟨_, results_tree rfl rfl N7.out K7.out, ?_⟩
    have hw := HW.out
    simp only [readO, HQ.out] at hw
    subst hw
    exact ⟨rfl, B7.out⟩
  | ok ts =>
    obtain ⟨v, rfl, hown, hb⟩ := hp
    have hl := toksF_len hq
    have n1 := N0.out.bel hb
    have k1 := (hb.block _ (lt_of_blk K0.out)).trans K0.out
    have c1 := blk_cell k1 0 _ rfl
    have c2 := blk_cell k1 1 _ rfl
    have f1 := blk_frz k1 0
    have f2 := blk_frz k1 1
    obtain ⟨k2, t2⟩ := set1 k1 0 .nilIface
    obtain ⟨k3, t3⟩ := set1 k2 1 (.int .i64 0)
    have B1 := bel_trans B0.out hb
    have B3 := (B1.trans (t2.bel (by omega) B1.size)).trans (t3.bel (by omega) (Nat.le_trans B1.size t2.size))
    have N3 := (n1.tn t2 (by omega)).tn t3 (by omega)
    have O3 := (hown.tn t2 (by omega)).tn t3 (by omega)
    have E3 := ((E0.out.bel hb).tn t2 (by omega)).tn t3 (by omega)
    have D3 := t3.cell (by omega) (t2.cell (by omega) ((hb.cell (p := ⟨2, 0, none⟩) (World.block_lt_of_cell? w0 _ D0.out)).trans D0.out))
    have z3 : w0.heap.size ≤ ((w1.setCell ⟨w.heap.size + 1, 0, none⟩ .nilIface).setCell ⟨w.heap.size + 1, 1, none⟩ (.int .i64 0)).heap.size := Nat.le_trans hb.size (Nat.le_trans t2.size t3.size)
    obtain ⟨av, cv, ev⟩ := hown.len
    obtain ⟨n, en⟩ : ∃ n, n = ts.length := ⟨_, rfl⟩
    rw [← en] at ev
    subst ev
    have hb4 := bel_new ((w1.setCell ⟨w.heap.size + 1, 0, none⟩ .nilIface).setCell ⟨w.heap.size + 1, 1, none⟩ (.int .i64 0)) (.cells #[.int .i64 0, .string ⟨#[]⟩, .int .i64 0, .int .u64 0, .int .i64 s.size] 67)
    have kb : (((w1.setCell ⟨w.heap.size + 1, 0, none⟩ .nilIface).setCell ⟨w.heap.size + 1, 1, none⟩ (.int .i64 0)).alloc (.cells #[.int .i64 0, .string ⟨#[]⟩, .int .i64 0, .int .u64 0, .int .i64 s.size] 67)).heap[((w1.setCell ⟨w.heap.size + 1, 0, none⟩ .nilIface).setCell ⟨w.heap.size + 1, 1, none⟩ (.int .i64 0)).heap.size]? = some (.cells #[.int .i64 0, .string ⟨#[]⟩, .int .i64 0, .int .u64 0, .int .i64 s.size] 67 (0, 0)) := Go.Deep.blk_alloc_new _ _
    have e3 : ((w1.setCell ⟨w.heap.size + 1, 0, none⟩ .nilIface).setCell ⟨w.heap.size + 1, 1, none⟩ (.int .i64 0)).heap.size = w1.heap.size := by simp
    rw [e3] at kb
    have PU := hide (fun ty => (O3.below hb4).push (c := 1) (Nat.le_trans z3 hb4.size) hl (endTk s.size) kb ty)
    have HQ := hide hq
    have I4 := hide (And.intro (N3.bel hb4) (And.intro ((hb4.block _ (lt_of_blk k3)).trans k3) (And.intro (bel_trans B3 hb4) (And.intro (E3.bel hb4) ((hb4.cell (p := ⟨2, 0, none⟩) (World.block_lt_of_cell? _ _ D3)).trans D3)))))
    have z4 := hide (Nat.le_trans z3 hb4.size)
    have EN := hide en
    have HL := hide hl
    clear k1 k2 k3 t2 t3 n1 hb B1 hq E0 N0 K0 B0 D0 N3 O3 E3 D3 z3 hb4 B3 hown en hl kb e3
    go_wp2_with (first | (at_builtin; refine wpList_appT (.tmp 19) (.tmp 23) _ _ _ PU.out rfl rfl rfl rfl ?_; rintro v7 w7 ⟨o7, t7⟩; obtain ⟨gT, cap, e7, h7⟩ := o7.row (by simp); obtain ⟨m, hm⟩ : ∃ m, m = (ts ++ [endTk s.size]).length := ⟨_, rfl⟩; rw [← hm] at e7; subst e7; have R7 := hide h7; have M7 := hide hm; have T7 := hide t7; clear o7 t7 h7 hm PU))
    clear c1 c2 f1 f2
    have hb8 := bel_new w7 (.cells #[.slice (some ⟨gT, 0, none⟩) m cap, .int .i64 0, .int .i64 0] 69)
    have L0 : (ts ++ [endTk s.size]).length = ts.length + 1 := by simp
    obtain ⟨hBg, hgl, hc1, hc2, hrow⟩ := R7.out
    have hE := ends_toks ts s.size
    have hlen := HL.out
    have hm := M7.out
    obtain ⟨i1, i2, i3, i4, i5⟩ := I4.out
    have tb := T7.out
    have z7 : w0.heap.size ≤ w7.heap.size := Nat.le_trans z4.out tb.size
    have P8 : Ps (w7.alloc (.cells #[.slice (some ⟨gT, 0, none⟩) m cap, .int .i64 0, .int .i64 0] 69)) p w7.heap.size gT (ts ++ [endTk s.size]) 0 0 :=
      ⟨⟨cap, by rw [← hm]; exact Go.Deep.blk_alloc_new _ _, by rw [← hm]; omega, hc2⟩, hrow.bel hb8, by omega, (i4.belB tb (by omega)).bel hb8, (hb8.cell (p := ⟨2, 0, none⟩) (show 2 < w7.heap.size by omega)).trans ((tb.cell (p := ⟨2, 0, none⟩) (show 2 < w0.heap.size by omega)).trans i5), by omega, by omega, by omega⟩
    have n7 : Nod w7 w.heap.size (.int .i64 0) (.int .i64 0) (.string ⟨#[]⟩) (.int .i64 0) (.int .i64 0) (.int .i64 0) (.int .i64 0) (.int .u64 0) (.slice none 0 0) := (tb.block _ (show w.heap.size < w0.heap.size by omega)).trans i1
    have N8 := hide (n7.bel hb8)
    have K8 := hide ((hb8.block _ (show w.heap.size + 1 < w7.heap.size by omega)).trans ((tb.block _ (show w.heap.size + 1 < w0.heap.size by omega)).trans i2))
    have B8 := hide ((i3.trans (tb.mono (show w.heap.size ≤ w0.heap.size by omega))).trans (hb8.mono (show w.heap.size ≤ w7.heap.size by omega)))
    have P8 := hide P8
    have HE := hide hE
    have Z7 := hide (And.intro hBg (And.intro hgl z7))
    clear n7 hBg hgl hc1 hc2 hrow hE hlen hm i1 i2 i3 i4 i5 tb z7 hb8 L0 I4 z4 EN HL R7 M7 T7
    generalize w7.alloc (.cells #[.slice (some ⟨gT, 0, none⟩) m cap, .int .i64 0, .int .i64 0] 69) = w8 at *
    have z8 : w0.heap.size ≤ w8.heap.size := Nat.le_of_lt (Nat.lt_of_le_of_lt Z7.out.2.2 P8.out.lt_g)
    have hg0 : w0.heap.size ≤ w7.heap.size := Z7.out.2.2
    have hgT : w0.heap.size ≤ gT := Z7.out.1
    generalize w7.heap.size = g at *
    have RU := hide (rule_ex p _ gT _ HE.out 0 (by omega) 0 _ P8.out)
    refine RU.out.mono ?_
    intro e w9 hp
    rcases hp.both with ⟨kb, jb, c1, rfl, r2⟩ | ⟨kd, ps, nm, t, nz, z, ob, bi, ks, a, len, ck, j, c1, rfl, hk, r1, r2⟩
    · refine doorT_stop rfl rfl (N8.out.tn r2 (by omega)) ((r2.blk _ (lt_of_blk K8.out) (by omega)).trans K8.out) (by omega) (fun w' hb => ?_)
      have hw := HW.out
      simp only [readO, HQ.out, c1] at hw
      subst hw
      exact ⟨rfl, (B8.out.trans (r2.bel (by omega) B8.out.size)).trans (hb _ (Nat.le_refl _) (by omega))⟩
    · have C1 := hide c1
      have n9 := N8.out.tn r2 (by omega)
      have k9 := (r2.blk _ (lt_of_blk K8.out) (by omega)).trans K8.out
      have B9 := B8.out.trans (r2.bel (by omega) B8.out.size)
      obtain ⟨⟨f0, f1, f2, f3, f4, f5, f6, f7, f8⟩, b0, b1, b2, b3, b4, b5, b6, b7, b8⟩ := n9.all
      obtain ⟨x9, s9⟩ := set9 n9 (.int .i64 kd) (.int .i64 ps) (.string nm) (.int .i64 t) (.int .i64 nz) (.int .i64 z) (.int .i64 ob) (.int .u64 bi) (.slice a len ck)
      have N10 := hide x9
      have K10 := hide ((s9.blk _ (lt_of_blk k9) (by omega)).trans k9)
      have B10 := hide (B9.trans (s9.bel (by omega) B9.size))
      have P10 := hide (r1.tn s9 (by omega) (by omega) (by omega))
      have J10 := hide (hk.tn s9 (by omega))
      clear c1 n9 k9 B9 x9 s9 r1 r2 hk RU N8 K8 B8 P8
      go_wp2_with fail
      clear f0 f1 f2 f3 f4 f5 f6 f7 f8 b0 b1 b2 b3 b4 b5 b6 b7 b8
      generalize ((((((((w9.setCell ⟨w.heap.size, 0, none⟩ (.int .i64 kd)).setCell ⟨w.heap.size, 1, none⟩ (.int .i64 ps)).setCell ⟨w.heap.size, 2, none⟩ (.string nm)).setCell ⟨w.heap.size, 3, none⟩ (.int .i64 t)).setCell ⟨w.heap.size, 4, none⟩ (.int .i64 nz)).setCell ⟨w.heap.size, 5, none⟩ (.int .i64 z)).setCell ⟨w.heap.size, 6, none⟩ (.int .i64 ob)).setCell ⟨w.heap.size, 7, none⟩ (.int .u64 bi)).setCell ⟨w.heap.size, 8, none⟩ (.slice a len ck) = w10 at *
      refine (more_both P10.out).mono ?_
      rintro e w11 (⟨c2, rfl, hb⟩ | ⟨c2, rfl, hb⟩)
      · have n11 := N10.out.bel hb
        have k11 := (hb.block _ (lt_of_blk K10.out)).trans K10.out
        have B11 := B10.out.trans (hb.mono B10.out.size)
        have j11 := J10.out.bel hb
        obtain ⟨⟨f0, f1, f2, f3, f4, f5, f6, f7, f8⟩, b0, b1, b2, b3, b4, b5, b6, b7, b8⟩ := n11.all
        obtain ⟨x12, s12⟩ := set9 n11 (.int .i64 kd) (.int .i64 ps) (.string nm) (.int .i64 t) (.int .i64 nz) (.int .i64 z) (.int .i64 ob) (.int .u64 bi) (.slice a len ck)
        have k12 := (s12.blk _ (lt_of_blk k11) (by omega)).trans k11
        have g1 := blk_frz k12 0
        have g2 := blk_frz k12 1
        have e1 := blk_cell k12 0 _ rfl
        have e2 := blk_cell k12 1 _ rfl
        obtain ⟨k13, t13⟩ := set1 k12 0 .nilIface
        obtain ⟨k14, t14⟩ := set1 k13 1 (.int .i64 0)
        have N14 := hide ((x12.tn t13 (by omega)).tn t14 (by omega))
        have K14 := hide k14
        have B14 := hide (((B11.trans (s12.bel (by omega) B11.size)).trans (t13.bel (by omega) (Nat.le_trans B11.size s12.size))).trans (t14.bel (by omega) (Nat.le_trans B11.size (Nat.le_trans s12.size t13.size))))
        have J14 := hide (((j11.tn s12 (by omega)).tn t13 (by omega)).tn t14 (by omega))
        have C2 := hide c2
        clear c2 n11 k11 B11 j11 x12 s12 k12 k13 t13 k14 t14 hb N10 K10 B10 P10 J10
        go_wp2_with fail
        refine doorT_end rfl rfl N14.out K14.out ?_
        have hw := HW.out
        simp only [readO, HQ.out, C1.out, if_pos C2.out] at hw
        subst hw
        refine ⟨_, rfl, ?_, B14.out⟩
        unfold NodeV
        exact ⟨_, rfl, J14.out.low (by omega)⟩
      · have P11 := hide (P10.out.below hb)
        have N11 := hide (N10.out.bel hb)
        have K11 := hide ((hb.block _ (lt_of_blk K10.out)).trans K10.out)
        have B11 := hide (B10.out.trans (hb.mono B10.out.size))
        have x1 := P11.out.er.c1
        have C2 := hide c2
        clear c2 hb N10 K10 B10 P10 J10
        go_wp2_with fail
        refine (refuse_at P11.out _ _).mono ?_
        rintro e w12 ⟨rfl, hb⟩
        refine doorT_stop rfl rfl (N11.out.bel hb) ((hb.block _ (lt_of_blk K11.out)).trans K11.out) (by omega) (fun w' hb2 => ?_)
        have hw := HW.out
        simp only [readO, HQ.out, C1.out, if_neg C2.out] at hw
        subst hw
        exact ⟨rfl, (B11.out.trans (hb.mono B11.out.size)).trans (hb2 _ (Nat.le_refl _) (by omega))⟩

theorem results_Expr {tmps : Array Value} {bT bB : Nat} {w : World} {v0 v1 v2 v3 v4 v5 v6 v7 v8 z0 z1 : Value} (h2 : tmps.getD 2 undef = .pointer (some ⟨bT, 0, none⟩)) (h3 : tmps.getD 3 undef = .pointer (some ⟨bB, 0, none⟩))
    (hT : Nod w bT v0 v1 v2 v3 v4 v5 v6 v7 v8) (hB : w.heap[bB]? = some (.cells #[z0, z1] 31 (0, 0))) :
    (results Tryz.f10 tmps).run Tryz.prog w = .ok (.tuple #[.agg #[v0, v1, v2, v3, v4, v5, v6, v7, v8], .agg #[z0, z1]]) w := by
  have h2' : tmps[2]?.getD undef = .pointer (some ⟨bT, 0, none⟩) := by simpa using h2
  have h3' : tmps[3]?.getD undef = .pointer (some ⟨bB, 0, none⟩) := by simpa using h3
  obtain ⟨_, c0, c1, c2, c3, c4, c5, c6, c7, c8⟩ := hT.all
  have d1 := blk_cell hB 0 _ rfl
  have d2 := blk_cell hB 1 _ rfl
  simp [results, Tryz.results10, h2', h3', go_sem, c0, c1, c2, c3, c4, c5, c6, c7, c8, d1, d2]

set_option maxRecDepth 20000 in
set_option maxHeartbeats 1000000 in
theorem text_expr (s : ByteArray) (p : List Addr) (w : World) (he : Er w p) (hd : w.cell? ⟨2, 0, none⟩ = some (errV p 2)) (hG : 23 ≤ w.heap.size) :
    Calls Tryz.prog 10 #[.string s] w fun e w' => Xp w p e w' (readO (fun L => exD L 0 0) s) := by
  have hb1 := bel_new w nodZ
  have k1 := nod_new w
  have s1 : (w.alloc nodZ).heap.size = w.heap.size + 1 := by simp
  have hb2 := bel_new (w.alloc nodZ) (.cells #[.nilIface, .int .i64 0] 31)
  have k2 : ((w.alloc nodZ).alloc (.cells #[.nilIface, .int .i64 0] 31)).heap[(w.alloc nodZ).heap.size]? = some (.cells #[.nilIface, .int .i64 0] 31 (0, 0)) := Go.Deep.blk_alloc_new _ _
  rw [s1] at k2
  have B0 := hide (bel_trans hb1 hb2)
  have N0 := hide (k1.bel hb2)
  have K0 := hide k2
  have RD := hide (read_expr s p _ (he.bel B0.out) ((B0.out.cell (p := ⟨2, 0, none⟩) (World.block_lt_of_cell? w _ hd)).trans hd) (Nat.le_trans hG B0.out.size))
  obtain ⟨out, ho⟩ : ∃ out, readO (fun L => exD L 0 0) s = out := ⟨_, rfl⟩
  rw [ho] at RD ⊢
  clear he hd hb1 k1 s1 hb2 k2 ho
  unfold nodZ at *
  go_enter Tryz.func10, Tryz.ntmps10
  go_wp2_with fail
  generalize (w.alloc (.cells #[.int .i64 0, .int .i64 0, .string ⟨#[]⟩, .int .i64 0, .int .i64 0, .int .i64 0, .int .i64 0, .int .u64 0, .slice none 0 0] 27)).alloc (.cells #[.nilIface, .int .i64 0] 31) = w0 at *
  refine RD.out.mono ?_
  intro e w1 hp
  have hw0 : w.heap.size + 1 < w0.heap.size := lt_of_blk K0.out
  cases out with
  | bad k i =>
    obtain ⟨rfl, hb⟩ := hp
    have n1 := N0.out.bel hb
    have k1 := (hb.block _ (lt_of_blk K0.out)).trans K0.out
    obtain ⟨⟨f0, f1, f2, f3, f4, f5, f6, f7, f8⟩, b0, b1, b2, b3, b4, b5, b6, b7, b8⟩ := n1.all
    obtain ⟨k5, t5⟩ := set9 n1 (.int .i64 0) (.int .i64 0) (.string ⟨#[]⟩) (.int .i64 0) (.int .i64 0) (.int .i64 0) (.int .i64 0) (.int .u64 0) (.slice none 0 0)
    have k6 := (t5.blk _ (lt_of_blk k1) (by omega)).trans k1
    have c1 := blk_cell k6 0 _ rfl
    have c2 := blk_cell k6 1 _ rfl
    have g1 := blk_frz k6 0
    have g2 := blk_frz k6 1
    obtain ⟨k7, t7⟩ := set1 k6 0 (errV p k)
    obtain ⟨k8, t8⟩ := set1 k7 1 (.int .i64 i)
    have B1 := bel_trans B0.out hb
    have N8 := hide ((k5.tn t7 (by omega)).tn t8 (by omega))
    have K8 := hide k8
    have B8 := hide (((B1.trans (t5.bel (by omega) B1.size)).trans (t7.bel (by omega) (Nat.le_trans B1.size t5.size))).trans (t8.bel (by omega) (Nat.le_trans B1.size (Nat.le_trans t5.size t7.size))))
    clear n1 k1 k5 t5 k6 k7 t7 k8 t8 B1 hb N0 K0 B0 RD
    go_wp2_with fail
    refine bodyPost_ret (results_Expr rfl rfl N8.out K8.out) rfl ?_
    exact ⟨rfl, B8.out⟩
  | ok n =>
    obtain ⟨v, rfl, hv, hb⟩ := hp
    obtain ⟨kd, ps, nm, t, nz, z, ob, bi, ks⟩ := n
    unfold NodeV at hv
    obtain ⟨s', rfl, hk⟩ := hv
    obtain ⟨a, len, ck, rfl⟩ := hk.shape
    have n1 := N0.out.bel hb
    have k1 := (hb.block _ (lt_of_blk K0.out)).trans K0.out
    obtain ⟨⟨f0, f1, f2, f3, f4, f5, f6, f7, f8⟩, b0, b1, b2, b3, b4, b5, b6, b7, b8⟩ := n1.all
    obtain ⟨k5, t5⟩ := set9 n1 (.int .i64 kd) (.int .i64 ps) (.string nm) (.int .i64 t) (.int .i64 nz) (.int .i64 z) (.int .i64 ob) (.int .u64 bi) (.slice a len ck)
    have k6 := (t5.blk _ (lt_of_blk k1) (by omega)).trans k1
    have c1 := blk_cell k6 0 _ rfl
    have c2 := blk_cell k6 1 _ rfl
    have g1 := blk_frz k6 0
    have g2 := blk_frz k6 1
    obtain ⟨k7, t7⟩ := set1 k6 0 .nilIface
    obtain ⟨k8, t8⟩ := set1 k7 1 (.int .i64 0)
    have B1 := bel_trans B0.out hb
    have N8 := hide ((k5.tn t7 (by omega)).tn t8 (by omega))
    have K8 := hide k8
    have B8 := hide (((B1.trans (t5.bel (by omega) B1.size)).trans (t7.bel (by omega) (Nat.le_trans B1.size t5.size))).trans (t8.bel (by omega) (Nat.le_trans B1.size (Nat.le_trans t5.size t7.size))))
    have J8 := hide (((hk.tn t5 (by omega)).tn t7 (by omega)).tn t8 (by omega))
    have hwz := hide (show w.heap.size ≤ w0.heap.size by omega)
    clear n1 k1 k5 t5 k6 k7 t7 k8 t8 B1 hb N0 K0 B0 RD hk
    go_wp2_with fail
    refine bodyPost_ret (results_Expr rfl rfl N8.out K8.out) rfl ?_
    refine ⟨_, rfl, ?_, B8.out⟩
    unfold NodeV
    exact ⟨_, rfl, J8.out.low hwz.out⟩

end Go.Proofs.YtogeblmppagabaaGreatDoor.Ck
