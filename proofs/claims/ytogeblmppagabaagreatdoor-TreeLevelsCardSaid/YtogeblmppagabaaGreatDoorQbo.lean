/- Texts of this proof, packed: contracts of the program's functions, and the plain model that they are held against. -/
import Derived.Test.YtogeblmppagabaaGreatDoorQbm
import Derived.Test.YtogeblmppagabaaGreatDoorQbn
/- tree.read by one rule. -/
namespace Go.Proofs.YtogeblmppagabaaGreatDoor.Ck
open Go.RowKit

set_option maxRecDepth 20000 in
set_option maxHeartbeats 2000000 in
theorem read_program (s : ByteArray) (p : List Addr) (w : World) (he : Er w p) (hd : w.cell? ⟨2, 0, none⟩ = some (errV p 2)) (hG : 23 ≤ w.heap.size) :
    Calls Tryz.prog 26 #[.string s, .func (.func 45) #[] #[]] w fun e w' => Xp w p e w' (readO prD s) := by
  have hmf : ∀ (fn : Fn) (first cap : Array Value) (w : World), (Instr.makeFunc fn first cap).run Tryz.prog w = .ok (.func fn first cap) w := fun _ _ _ _ => rfl
  have hb1 := bel_new w nodZ
  have k1 := nod_new w
  have s1 : (w.alloc nodZ).heap.size = w.heap.size + 1 := by simp
  have hb2 := bel_new (w.alloc nodZ) (.cells #[.nilIface, .int .i64 0] 31)
  have k2 : ((w.alloc nodZ).alloc (.cells #[.nilIface, .int .i64 0] 31)).heap[(w.alloc nodZ).heap.size]? = some (.cells #[.nilIface, .int .i64 0] 31 (0, 0)) := Go.Deep.blk_alloc_new _ _
  rw [s1] at k2
  have B0 := hide (bel_trans hb1 hb2)
  have N0 := hide (k1.bel hb2)
  have K0 := hide k2
  have E0 := hide (he.bel B0.out)
  have D0 := hide ((B0.out.cell (p := ⟨2, 0, none⟩) (World.block_lt_of_cell? w _ hd)).trans hd)
  have s2 : ((w.alloc nodZ).alloc (.cells #[.nilIface, .int .i64 0] 31)).heap.size = w.heap.size + 1 + 1 := by simp
  obtain ⟨out, ho⟩ : ∃ out, readO prD s = out := ⟨_, rfl⟩
  rw [ho]
  have HW := hide ho
  clear he hd hb1 k1 s1 hb2 k2 ho
  unfold nodZ at *
  go_enter_defers Tryz.func26, Tryz.ntmps26
  go_wp2_with fail
  generalize (w.alloc (.cells #[.int .i64 0, .int .i64 0, .string ⟨#[]⟩, .int .i64 0, .int .i64 0, .int .i64 0, .int .i64 0, .int .u64 0, .slice none 0 0] 27)).alloc (.cells #[.nilIface, .int .i64 0] 31) = w0 at *
  refine (tokens_all s p w0 E0.out (by omega)).mono ?_
  intro e w1 hp
  obtain ⟨q, hq⟩ : ∃ q, toksF s = q := ⟨_, rfl⟩
  rw [hq] at hp
  cases q with
  | bad k i =>
    obtain ⟨rfl, hb⟩ := hp
    have n1 := N0.out.bel hb
    have k1 := (hb.block _ (lt_of_blk K0.out)).trans K0.out
    have c1 := blk_cell k1 0 _ rfl
    have c2 := blk_cell k1 1 _ rfl
    have f1 := blk_frz k1 0
    have f2 := blk_frz k1 1
    obtain ⟨k2, t2⟩ := set1 k1 0 (errV p k)
    obtain ⟨k3, t3⟩ := set1 k2 1 (.int .i64 i)
    have N3 := hide ((n1.tn t2 (by omega)).tn t3 (by omega))
    have K3 := hide k3
    have B1 := bel_trans B0.out hb
    have B3 := hide ((B1.trans (t2.bel (by omega) B1.size)).trans (t3.bel (by omega) (Nat.le_trans B1.size t2.size)))
    have HQ := hide hq
    unfold errV at *
    clear k1 k2 k3 t2 t3 n1 hb B1 hq E0 N0 K0 B0 D0
    go_wp2_with fail
    clear c1 c2 f1 f2
    generalize (w1.setCell ⟨w.heap.size + 1, 0, none⟩ (.iface 184 (.pointer (some (adr p k))))).setCell ⟨w.heap.size + 1, 1, none⟩ (.int .i64 (i : Int)) = w3 at *
    obtain ⟨⟨f0, f1, f2, f3, f4, f5, f6, f7, f8⟩, b0, b1, b2, b3, b4, b5, b6, b7, b8⟩ := N3.out.all
    have c1 := blk_cell K3.out 0 _ rfl
    have c2 := blk_cell K3.out 1 _ rfl
    have g1 := blk_frz K3.out 0
    have g2 := blk_frz K3.out 1
    go_region
    obtain ⟨k5, t5⟩ := set9 N3.out (.int .i64 0) (.int .i64 0) (.string ⟨#[]⟩) (.int .i64 0) (.int .i64 0) (.int .i64 0) (.int .i64 0) (.int .u64 0) (.slice none 0 0)
    obtain ⟨k6, t6⟩ := set1 ((t5.blk _ (lt_of_blk K3.out) (by omega)).trans K3.out) 0 (.iface 184 (.pointer (some (adr p k))))
    obtain ⟨k7, t7⟩ := set1 k6 1 (.int .i64 i)
    have N7 := hide (Nod.drew ((k5.tn t6 (by omega)).tn t7 (by omega)))
    have K7 := hide (blk_drew k7)
    have B7 := hide (bel_drawn (((B3.out.trans (t5.bel (by omega) B3.out.size)).trans (t6.bel (by omega) (Nat.le_trans B3.out.size t5.size))).trans (t7.bel (by omega) (Nat.le_trans B3.out.size (Nat.le_trans t5.size t6.size)))))
    clear k5 t5 k6 t6 k7 t7 f0 f1 f2 f3 f4 f5 f6 f7 f8 b0 b1 b2 b3 b4 b5 b6 b7 b8 c1 c2 g1 g2 N3 K3 B3
    go_wp2_with fail
    refine ⟨_, results_tree rfl rfl N7.out K7.out, ?_⟩
    have hw := HW.out
    simp only [readO, HQ.out] at hw
    subst hw
    exact ⟨rfl, B7.out⟩
  | ok ts =>
    obtain ⟨v, rfl, hown, hb⟩ := hp
    have hl := toksF_len hq
    have n1 := N0.out.bel hb
    have k1 := (hb.block _ (lt_of_blk K0.out)).trans K0.out
    have c1 := blk_cell k1 0 _ rfl
    have c2 := blk_cell k1 1 _ rfl
    have f1 := blk_frz k1 0
    have f2 := blk_frz k1 1
    obtain ⟨k2, t2⟩ := set1 k1 0 .nilIface
    obtain ⟨k3, t3⟩ := set1 k2 1 (.int .i64 0)
    have B1 := bel_trans B0.out hb
    have B3 := (B1.trans (t2.bel (by omega) B1.size)).trans (t3.bel (by omega) (Nat.le_trans B1.size t2.size))
    have N3 := (n1.tn t2 (by omega)).tn t3 (by omega)
    have O3 := (hown.tn t2 (by omega)).tn t3 (by omega)
    have E3 := ((E0.out.bel hb).tn t2 (by omega)).tn t3 (by omega)
    have D3 := t3.cell (by omega) (t2.cell (by omega) ((hb.cell (p := ⟨2, 0, none⟩) (World.block_lt_of_cell? w0 _ D0.out)).trans D0.out))
    have z3 : w0.heap.size ≤ ((w1.setCell ⟨w.heap.size + 1, 0, none⟩ .nilIface).setCell ⟨w.heap.size + 1, 1, none⟩ (.int .i64 0)).heap.size := Nat.le_trans hb.size (Nat.le_trans t2.size t3.size)
    obtain ⟨av, cv, ev⟩ := hown.len
    obtain ⟨n, en⟩ : ∃ n, n = ts.length := ⟨_, rfl⟩
    rw [← en] at ev
    subst ev
    have hb4 := bel_new ((w1.setCell ⟨w.heap.size + 1, 0, none⟩ .nilIface).setCell ⟨w.heap.size + 1, 1, none⟩ (.int .i64 0)) (.cells #[.int .i64 0, .string ⟨#[]⟩, .int .i64 0, .int .u64 0, .int .i64 s.size] 67)
    have kb : (((w1.setCell ⟨w.heap.size + 1, 0, none⟩ .nilIface).setCell ⟨w.heap.size + 1, 1, none⟩ (.int .i64 0)).alloc (.cells #[.int .i64 0, .string ⟨#[]⟩, .int .i64 0, .int .u64 0, .int .i64 s.size] 67)).heap[((w1.setCell ⟨w.heap.size + 1, 0, none⟩ .nilIface).setCell ⟨w.heap.size + 1, 1, none⟩ (.int .i64 0)).heap.size]? = some (.cells #[.int .i64 0, .string ⟨#[]⟩, .int .i64 0, .int .u64 0, .int .i64 s.size] 67 (0, 0)) := Go.Deep.blk_alloc_new _ _
    have e3 : ((w1.setCell ⟨w.heap.size + 1, 0, none⟩ .nilIface).setCell ⟨w.heap.size + 1, 1, none⟩ (.int .i64 0)).heap.size = w1.heap.size := by simp
    rw [e3] at kb
    have PU := hide (fun ty => (O3.below hb4).push (c := 1) (Nat.le_trans z3 hb4.size) hl (endTk s.size) kb ty)
    have HQ := hide hq
    have I4 := hide (And.intro (N3.bel hb4) (And.intro ((hb4.block _ (lt_of_blk k3)).trans k3) (And.intro (bel_trans B3 hb4) (And.intro (E3.bel hb4) ((hb4.cell (p := ⟨2, 0, none⟩) (World.block_lt_of_cell? _ _ D3)).trans D3)))))
    have z4 := hide (Nat.le_trans z3 hb4.size)
    have EN := hide en
    have HL := hide hl
    clear k1 k2 k3 t2 t3 n1 hb B1 hq E0 N0 K0 B0 D0 N3 O3 E3 D3 z3 hb4 B3 hown en hl kb e3
    go_wp2_with (first | (at_builtin; refine wpList_appT (.tmp 19) (.tmp 23) _ _ _ PU.out rfl rfl rfl rfl ?_; rintro v7 w7 ⟨o7, t7⟩; obtain ⟨gT, cap, e7, h7⟩ := o7.row (by simp); obtain ⟨m, hm⟩ : ∃ m, m = (ts ++ [endTk s.size]).length := ⟨_, rfl⟩; rw [← hm] at e7; subst e7; have R7 := hide h7; have M7 := hide hm; have T7 := hide t7; clear o7 t7 h7 hm PU))
    clear c1 c2 f1 f2
    have hb8 := bel_new w7 (.cells #[.slice (some ⟨gT, 0, none⟩) m cap, .int .i64 0, .int .i64 0] 69)
    have L0 : (ts ++ [endTk s.size]).length = ts.length + 1 := by simp
    obtain ⟨hBg, hgl, hc1, hc2, hrow⟩ := R7.out
    have hE := ends_toks ts s.size
    have hlen := HL.out
    have hm := M7.out
    obtain ⟨i1, i2, i3, i4, i5⟩ := I4.out
    have tb := T7.out
    have z7 : w0.heap.size ≤ w7.heap.size := Nat.le_trans z4.out tb.size
    have P8 : Ps (w7.alloc (.cells #[.slice (some ⟨gT, 0, none⟩) m cap, .int .i64 0, .int .i64 0] 69)) p w7.heap.size gT (ts ++ [endTk s.size]) 0 0 :=
      ⟨⟨cap, by rw [← hm]; exact Go.Deep.blk_alloc_new _ _, by rw [← hm]; omega, hc2⟩, hrow.bel hb8, by omega, (i4.belB tb (by omega)).bel hb8, (hb8.cell (p := ⟨2, 0, none⟩) (show 2 < w7.heap.size by omega)).trans ((tb.cell (p := ⟨2, 0, none⟩) (show 2 < w0.heap.size by omega)).trans i5), by omega, by omega, by omega⟩
    have n7 : Nod w7 w.heap.size (.int .i64 0) (.int .i64 0) (.string ⟨#[]⟩) (.int .i64 0) (.int .i64 0) (.int .i64 0) (.int .i64 0) (.int .u64 0) (.slice none 0 0) := (tb.block _ (show w.heap.size < w0.heap.size by omega)).trans i1
    have N8 := hide (n7.bel hb8)
    have K8 := hide ((hb8.block _ (show w.heap.size + 1 < w7.heap.size by omega)).trans ((tb.block _ (show w.heap.size + 1 < w0.heap.size by omega)).trans i2))
    have B8 := hide ((i3.trans (tb.mono (show w.heap.size ≤ w0.heap.size by omega))).trans (hb8.mono (show w.heap.size ≤ w7.heap.size by omega)))
    have P8 := hide P8
    have HE := hide hE
    have Z7 := hide (And.intro hBg (And.intro hgl z7))
    clear n7 hBg hgl hc1 hc2 hrow hE hlen hm i1 i2 i3 i4 i5 tb z7 hb8 L0 I4 z4 EN HL R7 M7 T7
    generalize w7.alloc (.cells #[.slice (some ⟨gT, 0, none⟩) m cap, .int .i64 0, .int .i64 0] 69) = w8 at *
    have z8 : w0.heap.size ≤ w8.heap.size := Nat.le_of_lt (Nat.lt_of_le_of_lt Z7.out.2.2 P8.out.lt_g)
    have hg0 : w0.heap.size ≤ w7.heap.size := Z7.out.2.2
    have hgT : w0.heap.size ≤ gT := Z7.out.1
    generalize w7.heap.size = g at *
    have RU := hide (rule_pr p _ gT _ HE.out _ P8.out)
    refine RU.out.mono ?_
    intro e w9 hp
    rcases hp.both with ⟨kb, jb, c1, rfl, r2⟩ | ⟨kd, ps, nm, t, nz, z, ob, bi, ks, a, len, ck, j, c1, rfl, hk, r1, r2⟩
    · refine doorT_stop rfl rfl (N8.out.tn r2 (by omega)) ((r2.blk _ (lt_of_blk K8.out) (by omega)).trans K8.out) (by omega) (fun w' hb => ?_)
      have hw := HW.out
      simp only [readO, HQ.out, c1] at hw
      subst hw
      exact ⟨rfl, (B8.out.trans (r2.bel (by omega) B8.out.size)).trans (hb _ (Nat.le_refl _) (by omega))⟩
    · have C1 := hide c1
      have n9 := N8.out.tn r2 (by omega)
      have k9 := (r2.blk _ (lt_of_blk K8.out) (by omega)).trans K8.out
      have B9 := B8.out.trans (r2.bel (by omega) B8.out.size)
      obtain ⟨⟨f0, f1, f2, f3, f4, f5, f6, f7, f8⟩, b0, b1, b2, b3, b4, b5, b6, b7, b8⟩ := n9.all
      obtain ⟨x9, s9⟩ := set9 n9 (.int .i64 kd) (.int .i64 ps) (.string nm) (.int .i64 t) (.int .i64 nz) (.int .i64 z) (.int .i64 ob) (.int .u64 bi) (.slice a len ck)
      have N10 := hide x9
      have K10 := hide ((s9.blk _ (lt_of_blk k9) (by omega)).trans k9)
      have B10 := hide (B9.trans (s9.bel (by omega) B9.size))
      have P10 := hide (r1.tn s9 (by omega) (by omega) (by omega))
      have J10 := hide (hk.tn s9 (by omega))
      clear c1 n9 k9 B9 x9 s9 r1 r2 hk RU N8 K8 B8 P8
      go_wp2_with fail
      clear f0 f1 f2 f3 f4 f5 f6 f7 f8 b0 b1 b2 b3 b4 b5 b6 b7 b8
      generalize ((((((((w9.setCell ⟨w.heap.size, 0, none⟩ (.int .i64 kd)).setCell ⟨w.heap.size, 1, none⟩ (.int .i64 ps)).setCell ⟨w.heap.size, 2, none⟩ (.string nm)).setCell ⟨w.heap.size, 3, none⟩ (.int .i64 t)).setCell ⟨w.heap.size, 4, none⟩ (.int .i64 nz)).setCell ⟨w.heap.size, 5, none⟩ (.int .i64 z)).setCell ⟨w.heap.size, 6, none⟩ (.int .i64 ob)).setCell ⟨w.heap.size, 7, none⟩ (.int .u64 bi)).setCell ⟨w.heap.size, 8, none⟩ (.slice a len ck) = w10 at *
      refine (more_both P10.out).mono ?_
      rintro e w11 (⟨c2, rfl, hb⟩ | ⟨c2, rfl, hb⟩)
      · have n11 := N10.out.bel hb
        have k11 := (hb.block _ (lt_of_blk K10.out)).trans K10.out
        have B11 := B10.out.trans (hb.mono B10.out.size)
        have j11 := J10.out.bel hb
        obtain ⟨⟨f0, f1, f2, f3, f4, f5, f6, f7, f8⟩, b0, b1, b2, b3, b4, b5, b6, b7, b8⟩ := n11.all
        obtain ⟨x12, s12⟩ := set9 n11 (.int .i64 kd) (.int .i64 ps) (.string nm) (.int .i64 t) (.int .i64 nz) (.int .i64 z) (.int .i64 ob) (.int .u64 bi) (.slice a len ck)
        have k12 := (s12.blk _ (lt_of_blk k11) (by omega)).trans k11
        have g1 := blk_frz k12 0
        have g2 := blk_frz k12 1
        have e1 := blk_cell k12 0 _ rfl
        have e2 := blk_cell k12 1 _ rfl
        obtain ⟨k13, t13⟩ := set1 k12 0 .nilIface
        obtain ⟨k14, t14⟩ := set1 k13 1 (.int .i64 0)
        have N14 := hide ((x12.tn t13 (by omega)).tn t14 (by omega))
        have K14 := hide k14
        have B14 := hide (((B11.trans (s12.bel (by omega) B11.size)).trans (t13.bel (by omega) (Nat.le_trans B11.size s12.size))).trans (t14.bel (by omega) (Nat.le_trans B11.size (Nat.le_trans s12.size t13.size))))
        have J14 := hide (((j11.tn s12 (by omega)).tn t13 (by omega)).tn t14 (by omega))
        have C2 := hide c2
        clear c2 n11 k11 B11 j11 x12 s12 k12 k13 t13 k14 t14 hb N10 K10 B10 P10 J10
        go_wp2_with fail
        refine doorT_end rfl rfl N14.out K14.out ?_
        have hw := HW.out
        simp only [readO, HQ.out, C1.out, if_pos C2.out] at hw
        subst hw
        refine ⟨_, rfl, ?_, B14.out⟩
        unfold NodeV
        exact ⟨_, rfl, J14.out.low (by omega)⟩
      · have P11 := hide (P10.out.below hb)
        have N11 := hide (N10.out.bel hb)
        have K11 := hide ((hb.block _ (lt_of_blk K10.out)).trans K10.out)
        have B11 := hide (B10.out.trans (hb.mono B10.out.size))
        have x1 := P11.out.er.c1
        have C2 := hide c2
        clear c2 hb N10 K10 B10 P10 J10
        go_wp2_with fail
        refine (refuse_at P11.out _ _).mono ?_
        rintro e w12 ⟨rfl, hb⟩
        refine doorT_stop rfl rfl (N11.out.bel hb) ((hb.block _ (lt_of_blk K11.out)).trans K11.out) (by omega) (fun w' hb2 => ?_)
        have hw := HW.out
        simp only [readO, HQ.out, C1.out, if_neg C2.out] at hw
        subst hw
        exact ⟨rfl, (B11.out.trans (hb.mono B11.out.size)).trans (hb2 _ (Nat.le_refl _) (by omega))⟩

theorem results_Parse {tmps : Array Value} {bT bB : Nat} {w : World} {v0 v1 v2 v3 v4 v5 v6 v7 v8 z0 z1 : Value} (h2 : tmps.getD 2 undef = .pointer (some ⟨bT, 0, none⟩)) (h3 : tmps.getD 3 undef = .pointer (some ⟨bB, 0, none⟩))
    (hT : Nod w bT v0 v1 v2 v3 v4 v5 v6 v7 v8) (hB : w.heap[bB]? = some (.cells #[z0, z1] 31 (0, 0))) :
    (results Tryz.f21 tmps).run Tryz.prog w = .ok (.tuple #[.agg #[v0, v1, v2, v3, v4, v5, v6, v7, v8], .agg #[z0, z1]]) w := by
  have h2' : tmps[2]?.getD undef = .pointer (some ⟨bT, 0, none⟩) := by simpa using h2
  have h3' : tmps[3]?.getD undef = .pointer (some ⟨bB, 0, none⟩) := by simpa using h3
  obtain ⟨_, c0, c1, c2, c3, c4, c5, c6, c7, c8⟩ := hT.all
  have d1 := blk_cell hB 0 _ rfl
  have d2 := blk_cell hB 1 _ rfl
  simp [results, Tryz.results21, h2', h3', go_sem, c0, c1, c2, c3, c4, c5, c6, c7, c8, d1, d2]

set_option maxRecDepth 20000 in
set_option maxHeartbeats 1000000 in
theorem text_program (s : ByteArray) (p : List Addr) (w : World) (he : Er w p) (hd : w.cell? ⟨2, 0, none⟩ = some (errV p 2)) (hG : 23 ≤ w.heap.size) :
    Calls Tryz.prog 21 #[.string s] w fun e w' => Xp w p e w' (readO prD s) := by
  have hb1 := bel_new w nodZ
  have k1 := nod_new w
  have s1 : (w.alloc nodZ).heap.size = w.heap.size + 1 := by simp
  have hb2 := bel_new (w.alloc nodZ) (.cells #[.nilIface, .int .i64 0] 31)
  have k2 : ((w.alloc nodZ).alloc (.cells #[.nilIface, .int .i64 0] 31)).heap[(w.alloc nodZ).heap.size]? = some (.cells #[.nilIface, .int .i64 0] 31 (0, 0)) := Go.Deep.blk_alloc_new _ _
  rw [s1] at k2
  have B0 := hide (bel_trans hb1 hb2)
  have N0 := hide (k1.bel hb2)
  have K0 := hide k2
  have RD := hide (read_program s p _ (he.bel B0.out) ((B0.out.cell (p := ⟨2, 0, none⟩) (World.block_lt_of_cell? w _ hd)).trans hd) (Nat.le_trans hG B0.out.size))
  obtain ⟨out, ho⟩ : ∃ out, readO prD s = out := ⟨_, rfl⟩
  rw [ho] at RD ⊢
  clear he hd hb1 k1 s1 hb2 k2 ho
  unfold nodZ at *
  go_enter Tryz.func21, Tryz.ntmps21
  go_wp2_with fail
  generalize (w.alloc (.cells #[.int .i64 0, .int .i64 0, .string ⟨#[]⟩, .int .i64 0, .int .i64 0, .int .i64 0, .int .i64 0, .int .u64 0, .slice none 0 0] 27)).alloc (.cells #[.nilIface, .int .i64 0] 31) = w0 at *
  refine RD.out.mono ?_
  intro e w1 hp
  have hw0 : w.heap.size + 1 < w0.heap.size := lt_of_blk K0.out
  cases out with
  | bad k i =>
    obtain ⟨rfl, hb⟩ := hp
    have n1 := N0.out.bel hb
    have k1 := (hb.block _ (lt_of_blk K0.out)).trans K0.out
    obtain ⟨⟨f0, f1, f2, f3, f4, f5, f6, f7, f8⟩, b0, b1, b2, b3, b4, b5, b6, b7, b8⟩ := n1.all
    obtain ⟨k5, t5⟩ := set9 n1 (.int .i64 0) (.int .i64 0) (.string ⟨#[]⟩) (.int .i64 0) (.int .i64 0) (.int .i64 0) (.int .i64 0) (.int .u64 0) (.slice none 0 0)
    have k6 := (t5.blk _ (lt_of_blk k1) (by omega)).trans k1
    have c1 := blk_cell k6 0 _ rfl
    have c2 := blk_cell k6 1 _ rfl
    have g1 := blk_frz k6 0
    have g2 := blk_frz k6 1
    obtain ⟨k7, t7⟩ := set1 k6 0 (errV p k)
    obtain ⟨k8, t8⟩ := set1 k7 1 (.int .i64 i)
    have B1 := bel_trans B0.out hb
    have N8 := hide ((k5.tn t7 (by omega)).tn t8 (by omega))
    have K8 := hide k8
    have B8 := hide (((B1.trans (t5.bel (by omega) B1.size)).trans (t7.bel (by omega) (Nat.le_trans B1.size t5.size))).trans (t8.bel (by omega) (Nat.le_trans B1.size (Nat.le_trans t5.size t7.size))))
    clear n1 k1 k5 t5 k6 k7 t7 k8 t8 B1 hb N0 K0 B0 RD
    go_wp2_with fail
    refine bodyPost_ret (results_Parse rfl rfl N8.out K8.out) rfl ?_
    exact ⟨rfl, B8.out⟩
  | ok n =>
    obtain ⟨v, rfl, hv, hb⟩ := hp
    obtain ⟨kd, ps, nm, t, nz, z, ob, bi, ks⟩ := n
    unfold NodeV at hv
    obtain ⟨s', rfl, hk⟩ := hv
    obtain ⟨a, len, ck, rfl⟩ := hk.shape
    have n1 := N0.out.bel hb
    have k1 := (hb.block _ (lt_of_blk K0.out)).trans K0.out
    obtain ⟨⟨f0, f1, f2, f3, f4, f5, f6, f7, f8⟩, b0, b1, b2, b3, b4, b5, b6, b7, b8⟩ := n1.all
    obtain ⟨k5, t5⟩ := set9 n1 (.int .i64 kd) (.int .i64 ps) (.string nm) (.int .i64 t) (.int .i64 nz) (.int .i64 z) (.int .i64 ob) (.int .u64 bi) (.slice a len ck)
    have k6 := (t5.blk _ (lt_of_blk k1) (by omega)).trans k1
    have c1 := blk_cell k6 0 _ rfl
    have c2 := blk_cell k6 1 _ rfl
    have g1 := blk_frz k6 0
    have g2 := blk_frz k6 1
    obtain ⟨k7, t7⟩ := set1 k6 0 .nilIface
    obtain ⟨k8, t8⟩ := set1 k7 1 (.int .i64 0)
    have B1 := bel_trans B0.out hb
    have N8 := hide ((k5.tn t7 (by omega)).tn t8 (by omega))
    have K8 := hide k8
    have B8 := hide (((B1.trans (t5.bel (by omega) B1.size)).trans (t7.bel (by omega) (Nat.le_trans B1.size t5.size))).trans (t8.bel (by omega) (Nat.le_trans B1.size (Nat.le_trans t5.size t7.size))))
    have J8 := hide (((hk.tn t5 (by omega)).tn t7 (by omega)).tn t8 (by omega))
    have hwz := hide (show w.heap.size ≤ w0.heap.size by omega)
    clear n1 k1 k5 t5 k6 k7 t7 k8 t8 B1 hb N0 K0 B0 RD hk
    go_wp2_with fail
    refine bodyPost_ret (results_Parse rfl rfl N8.out K8.out) rfl ?_
    refine ⟨_, rfl, ?_, B8.out⟩
    unfold NodeV
    exact ⟨_, rfl, J8.out.low hwz.out⟩

end Go.Proofs.YtogeblmppagabaaGreatDoor.Ck

/- A tree's kids by their cells; the statements' own alive: the chapter's examples. -/
namespace Go.Proofs.YtogeblmppagabaaGreatDoor.Ck
open Go.RowKit

def Nd.type : Nd → Int | .mk _ _ _ t _ _ _ _ _ => t
def Nd.num : Nd → Int | .mk _ _ _ _ n _ _ _ _ => n
def Nd.size : Nd → Int | .mk _ _ _ _ _ z _ _ _ => z
def Nd.obj : Nd → Int | .mk _ _ _ _ _ _ o _ _ => o
def Nd.bits : Nd → Int | .mk _ _ _ _ _ _ _ b _ => b
/-- the nine cells of a node -/
structure NodAt (w : World) (g o : Nat) (n : Nd) (s : Value) : Prop where
  c0 : w.cell? ⟨g, o, none⟩ = some (.int .i64 n.kind)
  c1 : w.cell? ⟨g, o + 1, none⟩ = some (.int .i64 n.pos)
  c2 : w.cell? ⟨g, o + 2, none⟩ = some (.string n.name)
  c3 : w.cell? ⟨g, o + 3, none⟩ = some (.int .i64 n.type)
  c4 : w.cell? ⟨g, o + 4, none⟩ = some (.int .i64 n.num)
  c5 : w.cell? ⟨g, o + 5, none⟩ = some (.int .i64 n.size)
  c6 : w.cell? ⟨g, o + 6, none⟩ = some (.int .i64 n.obj)
  c7 : w.cell? ⟨g, o + 7, none⟩ = some (.int .u64 n.bits)
  c8 : w.cell? ⟨g, o + 8, none⟩ = some s
theorem cell_of_cD {w : World} {g i : Nat} {cur : Array Value} {t : TypeId} (h : w.heap[g]? = some (.cells cur t (0, 0))) (hi : i < cur.size) {v : Value} (hv : cD w g i = v) : w.cell? ⟨g, i, none⟩ = some v := by
  have h1 := blk_cell h i cur[i] (Array.getElem?_eq_getElem hi)
  unfold cD at hv
  rw [h1] at hv
  rw [h1, ← hv]
  rfl
theorem NodAt.of {w : World} {S : Nat → Prop} {g o : Nat} {cur : Array Value} {t : TypeId} (h : w.heap[g]? = some (.cells cur t (0, 0))) (ho : o + 9 ≤ cur.size) {n : Nd} (hn : NodeV w S n (nodeAt w g o)) : ∃ s, NodAt w g o n s ∧ KidsV w S n.kids s := by
  obtain ⟨kd, ps, nm, t', nz, z, ob, bi, ks⟩ := n
  unfold NodeV at hn
  obtain ⟨s, h1, h2⟩ := hn
  unfold nodeAt at h1
  injection h1 with h1
  have hx : ∀ (j : Nat) (u : Value), (#[.int .i64 kd, .int .i64 ps, .string nm, .int .i64 t', .int .i64 nz, .int .i64 z, .int .i64 ob, .int .u64 bi, s] : Array Value)[j]? = some u → (#[cD w g o, cD w g (o + 1), cD w g (o + 2), cD w g (o + 3), cD w g (o + 4), cD w g (o + 5), cD w g (o + 6), cD w g (o + 7), cD w g (o + 8)] : Array Value)[j]? = some u := fun j u hu => by rw [h1]; exact hu
  have g0 := Option.some.inj (hx 0 _ rfl)
  have g1 := Option.some.inj (hx 1 _ rfl)
  have g2 := Option.some.inj (hx 2 _ rfl)
  have g3 := Option.some.inj (hx 3 _ rfl)
  have g4 := Option.some.inj (hx 4 _ rfl)
  have g5 := Option.some.inj (hx 5 _ rfl)
  have g6 := Option.some.inj (hx 6 _ rfl)
  have g7 := Option.some.inj (hx 7 _ rfl)
  have g8 := Option.some.inj (hx 8 _ rfl)
  exact ⟨s, ⟨cell_of_cD h (by omega) g0, cell_of_cD h (by omega) g1, cell_of_cD h (by omega) g2, cell_of_cD h (by omega) g3, cell_of_cD h (by omega) g4, cell_of_cD h (by omega) g5, cell_of_cD h (by omega) g6, cell_of_cD h (by omega) g7, cell_of_cD h (by omega) g8⟩, h2⟩
theorem RowV.at {w : World} {S : Nat → Prop} {g : Nat} : ∀ {ks : List Nd} {o : Nat} (_ : RowV w S g o ks) (j : Nat) (n : Nd), ks[j]? = some n → NodeV w S n (nodeAt w g (o + 9 * j))
  | [], _, _, _, _, h => by simp at h
  | m :: ks, o, h, 0, n, hn => by
    unfold RowV at h
    simp at hn
    subst hn
    simpa using h.1
  | m :: ks, o, h, j + 1, n, hn => by
    unfold RowV at h
    have := RowV.at h.2 j n (by simpa using hn)
    rw [show o + 9 * (j + 1) = o + 9 + 9 * j by omega]
    exact this
theorem KidsV.kid {w : World} {S : Nat → Prop} {ks : List Nd} {s : Value} (h : KidsV w S ks s) (hne : ks ≠ []) :
    ∃ g cap, s = .slice (some ⟨g, 0, none⟩) ks.length cap ∧ S g ∧ g < w.heap.size ∧ ks.length ≤ cap ∧ cap ≤ maxLen ∧ ∀ j n, ks[j]? = some n → ∃ sk, NodAt w g (9 * j) n sk ∧ KidsV w S n.kids sk := by
  cases ks with
  | nil => exact absurd rfl hne
  | cons m ks =>
    unfold KidsV at h
    obtain ⟨g, cap, cur, h1, h2, h3, h4, h5, h6, h7, h8⟩ := h
    refine ⟨g, cap, h1, h2, lt_of_blk h3, h4, h5, fun j n hn => ?_⟩
    have hj : j < ks.length + 1 := (List.getElem?_eq_some_iff.1 hn).1
    have hsz : 9 * j + 9 ≤ cur.size := by
      rw [h6]
      have := Nat.mul_le_mul_right 9 h4
      omega
    have hv : NodeV w S n (nodeAt w g (0 + 9 * j)) := RowV.at (ks := m :: ks) (by unfold RowV; exact ⟨h7, h8⟩) j n hn
    rw [Nat.zero_add] at hv
    exact NodAt.of h3 hsz hv
theorem NodAt.bel {w w' : World} {g o : Nat} {n : Nd} {s : Value} (h : NodAt w g o n s) (hb : Below w.heap.size w w') : NodAt w' g o n s := by
  have hg : g < w.heap.size := World.block_lt_of_cell? w _ h.c0
  exact ⟨(hb.cell (p := ⟨g, _, none⟩) hg).trans h.c0, (hb.cell (p := ⟨g, _, none⟩) hg).trans h.c1, (hb.cell (p := ⟨g, _, none⟩) hg).trans h.c2, (hb.cell (p := ⟨g, _, none⟩) hg).trans h.c3, (hb.cell (p := ⟨g, _, none⟩) hg).trans h.c4, (hb.cell (p := ⟨g, _, none⟩) hg).trans h.c5, (hb.cell (p := ⟨g, _, none⟩) hg).trans h.c6, (hb.cell (p := ⟨g, _, none⟩) hg).trans h.c7, (hb.cell (p := ⟨g, _, none⟩) hg).trans h.c8⟩

/-- an expression's text -/
def exprF (s : ByteArray) : Read := readO (fun L => exD L 0 0) s
def ndI (pos n : Int) : Nd := .mk 25 pos ⟨#[]⟩ 0 n 0 0 0 []
theorem readX1 : exprF ⟨#[49, 43, 50, 42, 51]⟩ = .ok (nd 31 0 ⟨#[43]⟩ [ndI 0 1, nd 31 2 ⟨#[42]⟩ [ndI 2 2, ndI 4 3]]) := by kernel_rfl
theorem readX2 : exprF ⟨#[49, 60, 50, 60, 51]⟩ = .bad 1 3 := by kernel_rfl
theorem expr_ev (s : ByteArray) (p : List Addr) (w : World) (he : Ev w p) : Calls Tryz.prog 10 #[.string s] w fun e w' => Xp w p e w' (exprF s) :=
  text_expr s p w he.er (he.errs.cell 2 (by omega)) he.big

set_option maxRecDepth 20000 in
set_option maxHeartbeats 1000000 in
theorem alive_any (p : List Addr) (w : World) (he : Ev w p) :
    Calls Tryz.prog 9 #[] w fun e w' => e = .returned (.bool true) ∧ Below w.heap.size w w' := by
  have R1 := hide readX1
  have R2 := hide readX2
  go_enter Tryz.func9, Tryz.ntmps9
  go_wp2_with fail
  refine (expr_ev _ p w he).mono ?_
  intro e w1 hp
  rw [R1.out] at hp
  obtain ⟨v, rfl, hv, hb1⟩ := hp
  unfold nd NodeV at hv
  obtain ⟨s, rfl, hk⟩ := hv
  obtain ⟨gk, ck, rfl, _, hg, hc1, hc2, hc⟩ := hk.kid (by simp)
  obtain ⟨sk, hn, _⟩ := hc 1 _ rfl
  have a1 := hn.c2
  have e1 := he.bel hb1
  simp only [List.length_cons, List.length_nil, Nat.zero_add, Nat.reduceAdd, Nat.reduceMul, Nd.name] at *
  unfold maxLen at hc2
  clear hc hk hn
  have hbA := bel_new w1 (.cells #[.int .i64 31, .int .i64 0, .string ⟨#[43]⟩, .int .i64 0, .int .i64 0, .int .i64 0, .int .i64 0, .int .u64 0, .slice (some ⟨gk, 0, none⟩) 2 ck] 27)
  have kA : Nod (w1.alloc (.cells #[.int .i64 31, .int .i64 0, .string ⟨#[43]⟩, .int .i64 0, .int .i64 0, .int .i64 0, .int .i64 0, .int .u64 0, .slice (some ⟨gk, 0, none⟩) 2 ck] 27)) w1.heap.size (.int .i64 31) (.int .i64 0) (.string ⟨#[43]⟩) (.int .i64 0) (.int .i64 0) (.int .i64 0) (.int .i64 0) (.int .u64 0) (.slice (some ⟨gk, 0, none⟩) 2 ck) := Go.Deep.blk_alloc_new _ _
  have sA : (w1.alloc (.cells #[.int .i64 31, .int .i64 0, .string ⟨#[43]⟩, .int .i64 0, .int .i64 0, .int .i64 0, .int .i64 0, .int .u64 0, .slice (some ⟨gk, 0, none⟩) 2 ck] 27)).heap.size = w1.heap.size + 1 := by simp
  have hbB := bel_new (w1.alloc (.cells #[.int .i64 31, .int .i64 0, .string ⟨#[43]⟩, .int .i64 0, .int .i64 0, .int .i64 0, .int .i64 0, .int .u64 0, .slice (some ⟨gk, 0, none⟩) 2 ck] 27)) (.cells #[.nilIface, .int .i64 0] 31)
  have kB : ((w1.alloc (.cells #[.int .i64 31, .int .i64 0, .string ⟨#[43]⟩, .int .i64 0, .int .i64 0, .int .i64 0, .int .i64 0, .int .u64 0, .slice (some ⟨gk, 0, none⟩) 2 ck] 27)).alloc (.cells #[.nilIface, .int .i64 0] 31)).heap[(w1.alloc (.cells #[.int .i64 31, .int .i64 0, .string ⟨#[43]⟩, .int .i64 0, .int .i64 0, .int .i64 0, .int .i64 0, .int .u64 0, .slice (some ⟨gk, 0, none⟩) 2 ck] 27)).heap.size]? = some (.cells #[.nilIface, .int .i64 0] 31 (0, 0)) := Go.Deep.blk_alloc_new _ _
  rw [sA] at kB
  have hAB := bel_trans hbA hbB
  have A2 := hide (kA.bel hbB)
  have K2 := hide kB
  have B2 := hide (bel_trans hb1 hAB)
  have E2 := hide (e1.bel hAB)
  have a2 := hide ((hAB.cell (p := ⟨gk, 11, none⟩) hg).trans a1)
  have hg2 := hide (Nat.lt_of_lt_of_le hg hAB.size)
  clear a1 hb1 hbA hbB hAB kA kB sA e1 hg he
  go_wp2_with fail
  generalize (w1.alloc (.cells #[.int .i64 31, .int .i64 0, .string ⟨#[43]⟩, .int .i64 0, .int .i64 0, .int .i64 0, .int .i64 0, .int .u64 0, .slice (some ⟨gk, 0, none⟩) 2 ck] 27)).alloc (.cells #[.nilIface, .int .i64 0] 31) = w2 at *
  generalize w1.heap.size = n1 at *
  refine (expr_ev _ p w2 E2.out).mono ?_
  intro e w3 hp
  rw [R2.out] at hp
  obtain ⟨rfl, hb3⟩ := hp
  have hbA := bel_new w3 (.cells #[.int .i64 0, .int .i64 0, .string ⟨#[]⟩, .int .i64 0, .int .i64 0, .int .i64 0, .int .i64 0, .int .u64 0, .slice none 0 0] 27)
  have sA : (w3.alloc (.cells #[.int .i64 0, .int .i64 0, .string ⟨#[]⟩, .int .i64 0, .int .i64 0, .int .i64 0, .int .i64 0, .int .u64 0, .slice none 0 0] 27)).heap.size = w3.heap.size + 1 := by simp
  have hbB := bel_new (w3.alloc (.cells #[.int .i64 0, .int .i64 0, .string ⟨#[]⟩, .int .i64 0, .int .i64 0, .int .i64 0, .int .i64 0, .int .u64 0, .slice none 0 0] 27)) (.cells #[errV p 1, .int .i64 3] 31)
  have kB : ((w3.alloc (.cells #[.int .i64 0, .int .i64 0, .string ⟨#[]⟩, .int .i64 0, .int .i64 0, .int .i64 0, .int .i64 0, .int .u64 0, .slice none 0 0] 27)).alloc (.cells #[errV p 1, .int .i64 3] 31)).heap[(w3.alloc (.cells #[.int .i64 0, .int .i64 0, .string ⟨#[]⟩, .int .i64 0, .int .i64 0, .int .i64 0, .int .i64 0, .int .u64 0, .slice none 0 0] 27)).heap.size]? = some (.cells #[errV p 1, .int .i64 3] 31 (0, 0)) := Go.Deep.blk_alloc_new _ _
  rw [sA] at kB
  have hAB := bel_trans (bel_trans hb3 hbA) hbB
  have K4 := hide kB
  have A4 := A2.out.bel hAB
  have L4 := (hAB.block _ (lt_of_blk K2.out)).trans K2.out
  have B4 := hide (bel_trans B2.out hAB)
  have E4 := hide (E2.out.bel hAB).errs
  have a4 := (hAB.cell (p := ⟨gk, 11, none⟩) hg2.out).trans a2.out
  obtain ⟨_, d0, _, d2, _, _, _, _, _, d8⟩ := A4.all
  have c0 := blk_cell L4 0 _ rfl
  have c1 := blk_cell L4 1 _ rfl
  have c2 := blk_cell kB 0 _ rfl
  have c3 := blk_cell kB 1 _ rfl
  have HL := hide (lt_of_blk kB)
  clear hb3 hbA hbB hAB sA kB A4 L4 A2 K2 B2 E2 a2 hg2
  go_wp2_with (first | (go_at_call 16; refine (num_err p 1 _ E4.out (by omega)).mono ?_; rintro e w5 ⟨rfl, hb5⟩; have c5 := (hb5.cell (p := ⟨w3.heap.size + 1, 1, none⟩) HL.out).trans c3))
  go_ret
  exact ⟨rfl, bel_trans B4.out hb5⟩

end Go.Proofs.YtogeblmppagabaaGreatDoor.Ck
