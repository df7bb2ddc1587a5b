/- The contract of Tokens. -/
import Derived.Test.YtpeebpnoldadjaaDoorTv
namespace Go.Proofs.YtpeebpnoldadjaaDoor.Ck
open Go.RowKit

theorem OwnT.base {w : World} {A B : Nat} {v : Value} {ts : List Tk} (h : OwnT w B v ts) (hA : A ≤ B) : OwnT w A v ts := by
  refine ⟨h.1, ?_⟩
  rcases h.2 with h0 | ⟨g, cap, cur, hv, hg, hk, hr⟩
  · exact .inl h0
  · exact .inr ⟨g, cap, cur, hv, Nat.le_trans hA hg, hk, hr⟩

/-- how Tokens ends -/
def Tp (w : World) (p : List Addr) (e : Ending) (w' : World) : Ended → Prop
  | .ok ts => ∃ v, e = .returned (.tuple #[v, .agg #[.nilIface, .int .i64 0]]) ∧ OwnT w' w.heap.size v ts ∧ Below w.heap.size w w'
  | .bad k i => e = .returned (.tuple #[.slice none 0 0, .agg #[errV p k, .int .i64 i]]) ∧ Below w.heap.size w w'

theorem results_toks {tmps : Array Value} {b : Nat} {w : World} {v z0 z1 : Value} (h2 : tmps.getD 2 undef = v) (h3 : tmps.getD 3 undef = .pointer (some ⟨b, 0, none⟩))
    (hB : w.heap[b]? = some (.cells #[z0, z1] 27 (0, 0))) :
    (results Tryd.f10 tmps).run Tryd.prog w = .ok (.tuple #[v, .agg #[z0, z1]]) w := by
  have h2' : tmps[2]?.getD undef = v := by simpa using h2
  have h3' : tmps[3]?.getD undef = .pointer (some ⟨b, 0, none⟩) := by simpa using h3
  have c1 := blk_cell hB 0 _ rfl
  have c2 := blk_cell hB 1 _ rfl
  simp [results, Tryd.results10, h2', h3', go_sem, c1, c2]

set_option maxHeartbeats 1000000 in
theorem tokens_any (s : ByteArray) (p : List Addr) (w : World) (he : Er w p) (hG : 23 ≤ w.heap.size) (hs : s.size ≤ 8192) :
    Calls Tryd.prog 10 #[.string s] w fun e w' => Tp w p e w' (readF s) := by
  have hb0 := bel_new w (.cells #[.nilIface, .int .i64 0] 27)
  have k0 : (w.alloc (.cells #[.nilIface, .int .i64 0] 27)).heap[w.heap.size]? = some (.cells #[.nilIface, .int .i64 0] 27 (0, 0)) := Go.Deep.blk_alloc_new _ _
  have E0 := hide (he.bel hb0)
  have K0 := hide k0
  have B0 := hide hb0
  clear hb0 k0 he
  go_enter Tryd.func10, Tryd.ntmps10
  go_wp2_with fail
  generalize w.alloc (.cells #[.nilIface, .int .i64 0] 27) = w0 at *
  refine (read_any s p w0 E0.out (Nat.le_trans hG B0.out.size) (by omega)).mono ?_
  intro e w1 hp
  cases hq : readF s with
  | ok ts =>
    rw [hq] at hp
    obtain ⟨v, rfl, ho, hb⟩ := hp
    have k1 := (hb.block _ (lt_of_blk K0.out)).trans K0.out
    have c1 := blk_cell k1 0 _ rfl
    have c2 := blk_cell k1 1 _ rfl
    have f1 := blk_frz k1 0
    have f2 := blk_frz k1 1
    obtain ⟨av, cv, ev⟩ := ho.len
    obtain ⟨n, en⟩ : ∃ n, n = ts.length := ⟨_, rfl⟩
    rw [← en] at ev
    subst ev
    obtain ⟨k2, t2⟩ := set1 k1 0 .nilIface
    obtain ⟨k3, t3⟩ := set1 k2 1 (.int .i64 0)
    have K3 := hide k3
    have hz := B0.out.size
    have hz2 : w.heap.size < w0.heap.size := lt_of_blk K0.out
    have O3 := hide (((ho.tn t2 (by omega)).tn t3 (by omega)).base (show w.heap.size ≤ _ by omega))
    have B1 := bel_trans B0.out hb
    have B3 := hide ((B1.trans (t2.bel (Nat.le_refl _) B1.size)).trans (t3.bel (Nat.le_refl _) (Nat.le_trans B1.size t2.size)))
    have HQ := hide hq
    clear k1 k2 k3 t2 t3 hb ho en B1 hq E0 K0 B0
    go_wp2_with fail
    refine bodyPost_ret (results_toks rfl rfl K3.out) rfl ?_
    rw [HQ.out]
    exact ⟨_, rfl, O3.out, B3.out⟩
  | bad k i =>
    rw [hq] at hp
    obtain ⟨rfl, hb⟩ := hp
    have k1 := (hb.block _ (lt_of_blk K0.out)).trans K0.out
    have c1 := blk_cell k1 0 _ rfl
    have c2 := blk_cell k1 1 _ rfl
    have f1 := blk_frz k1 0
    have f2 := blk_frz k1 1
    obtain ⟨k2, t2⟩ := set1 k1 0 (errV p k)
    obtain ⟨k3, t3⟩ := set1 k2 1 (.int .i64 i)
    have K3 := hide k3
    have B1 := bel_trans B0.out hb
    have B3 := hide ((B1.trans (t2.bel (Nat.le_refl _) B1.size)).trans (t3.bel (Nat.le_refl _) (Nat.le_trans B1.size t2.size)))
    have HQ := hide hq
    clear k1 k2 k3 t2 t3 hb B1 hq E0 K0 B0
    go_wp2_with fail
    refine bodyPost_ret (results_toks rfl rfl K3.out) rfl ?_
    rw [HQ.out]
    exact ⟨rfl, B3.out⟩

/-- the error of a text of too many bytes -/
def longK (s : ByteArray) : Nat := match readF (s.extract 0 8192) with | .bad k 0 => k | _ => 5

theorem ret_bad {fn : Func} {R : Ending → World → Prop} {a : Act} {w : World} {p : Tmp} (g : Nat) {v0 v1 : Value} (hf : fn.results = #[.cell p 27]) (hp : a.tmps.getD p undef = .pointer (some ⟨g, 0, none⟩))
    (h : w.heap[g]? = some (.cells #[v0, v1] 27 (0, 0))) (hdf : a.defers = []) (hR : R (.returned (.agg #[v0, v1])) w) : bodyPost Tryd.prog fn R .ret a w :=
  bodyPost_ret (by
    have hp' : a.tmps[p]?.getD undef = .pointer (some ⟨g, 0, none⟩) := by simpa using hp
    have cz0 := blk_cell h 0 _ rfl
    have cz1 := blk_cell h 1 _ rfl
    simp [results, hf, hp', go_sem, cz0, cz1]) hdf hR

set_option maxHeartbeats 1000000 in
theorem tooLong_any (s : ByteArray) (p : List Addr) (w : World) (he : Er w p) (hG : 23 ≤ w.heap.size) (hs : 8192 < s.size) :
    Calls Tryd.prog 18 #[.string s] w fun e w' => e = .returned (.agg #[errV p (longK s), .int .i64 0]) ∧ Below w.heap.size w w' := by
  have hb0 := bel_new w (.cells #[.nilIface, .int .i64 0] 27)
  have k0 : (w.alloc (.cells #[.nilIface, .int .i64 0] 27)).heap[w.heap.size]? = some (.cells #[.nilIface, .int .i64 0] 27 (0, 0)) := Go.Deep.blk_alloc_new _ _
  have E0 := hide (he.bel hb0)
  have K0 := hide k0
  have B0 := hide hb0
  have hsz : (s.extract 0 8192).size = 8192 := by rw [ByteArray.size_extract]; omega
  clear hb0 k0 he
  have hs2 : (8192 : Int) ≤ (s.size : Int) := by omega
  go_enter Tryd.func18, Tryd.ntmps18
  go_wp2_with fail
  generalize w.alloc (.cells #[.nilIface, .int .i64 0] 27) = w0 at *
  refine (read_any (s.extract 0 8192) p w0 E0.out (Nat.le_trans hG B0.out.size) (by omega)).mono ?_
  intro e w1 hp
  cases hq : readF (s.extract 0 8192) with
  | ok ts =>
    rw [hq] at hp
    obtain ⟨v, rfl, ho, hb⟩ := hp
    clear ho
    have hb2 := bel_new w1 (.cells #[.nilIface, .int .i64 0] 27)
    have B1 := bel_trans B0.out hb
    have B2 := bel_trans B1 hb2
    have k2 := (hb2.block _ (lt_of_blk ((hb.block _ (lt_of_blk K0.out)).trans K0.out))).trans ((hb.block _ (lt_of_blk K0.out)).trans K0.out)
    have x5 := ((E0.out.bel hb).bel hb2).c5
    have c1 := blk_cell k2 0 _ rfl
    have c2 := blk_cell k2 1 _ rfl
    have f1 := blk_frz k2 0
    have f2 := blk_frz k2 1
    obtain ⟨k3, t3⟩ := set1 k2 0 (errV p 5)
    obtain ⟨k4, t4⟩ := set1 k3 1 (.int .i64 0)
    have K4 := hide k4
    have B4 := hide ((B2.trans (t3.bel (Nat.le_refl _) B2.size)).trans (t4.bel (Nat.le_refl _) (Nat.le_trans B2.size t3.size)))
    have HL : Hid (longK s = 5) := by show _ = _; unfold longK; rw [hq]
    clear k2 k3 k4 t3 t4 hb hb2 B1 B2 hq E0 K0 B0
    go_wp2_with fail
    refine ret_bad w.heap.size rfl rfl K4.out rfl ?_
    rw [HL.out]
    exact ⟨rfl, B4.out⟩
  | bad k i =>
    rw [hq] at hp
    obtain ⟨rfl, hb⟩ := hp
    cases i with
    | zero =>
      have hb2 := bel_new w1 (.cells #[errV p k, .int .i64 0] 27)
      have B1 := bel_trans B0.out hb
      have B2 := bel_trans B1 hb2
      have k2 := (hb2.block _ (lt_of_blk ((hb.block _ (lt_of_blk K0.out)).trans K0.out))).trans ((hb.block _ (lt_of_blk K0.out)).trans K0.out)
      have c1 := blk_cell k2 0 _ rfl
      have c2 := blk_cell k2 1 _ rfl
      have f1 := blk_frz k2 0
      have f2 := blk_frz k2 1
      obtain ⟨k3, t3⟩ := set1 k2 0 (errV p k)
      obtain ⟨k4, t4⟩ := set1 k3 1 (.int .i64 0)
      have K4 := hide k4
      have B4 := hide ((B2.trans (t3.bel (Nat.le_refl _) B2.size)).trans (t4.bel (Nat.le_refl _) (Nat.le_trans B2.size t3.size)))
      have HL : Hid (longK s = k) := by show _ = _; unfold longK; rw [hq]; rfl
      clear k2 k3 k4 t3 t4 hb hb2 B1 B2 hq E0 K0 B0
      go_wp2_with fail
      refine ret_bad w.heap.size rfl rfl K4.out rfl ?_
      rw [HL.out]
      exact ⟨rfl, B4.out⟩
    | succ i =>
      have hb2 := bel_new w1 (.cells #[errV p k, .int .i64 ((i + 1 : Nat) : Int)] 27)
      have B1 := bel_trans B0.out hb
      have B2 := bel_trans B1 hb2
      have k2 := (hb2.block _ (lt_of_blk ((hb.block _ (lt_of_blk K0.out)).trans K0.out))).trans ((hb.block _ (lt_of_blk K0.out)).trans K0.out)
      have x5 := ((E0.out.bel hb).bel hb2).c5
      have c1 := blk_cell k2 0 _ rfl
      have c2 := blk_cell k2 1 _ rfl
      have f1 := blk_frz k2 0
      have f2 := blk_frz k2 1
      obtain ⟨k3, t3⟩ := set1 k2 0 (errV p 5)
      obtain ⟨k4, t4⟩ := set1 k3 1 (.int .i64 0)
      have K4 := hide k4
      have B4 := hide ((B2.trans (t3.bel (Nat.le_refl _) B2.size)).trans (t4.bel (Nat.le_refl _) (Nat.le_trans B2.size t3.size)))
      have HL : Hid (longK s = 5) := by show _ = _; unfold longK; rw [hq]; rfl
      clear k2 k3 k4 t3 t4 hb hb2 B1 B2 hq E0 K0 B0
      have hne : ((((i + 1 : Nat) : Int)) == 0) = false := by simp; omega
      generalize ((i + 1 : Nat) : Int) = z at *
      go_wp2_with fail
      refine ret_bad w.heap.size rfl rfl K4.out rfl ?_
      rw [HL.out]
      exact ⟨rfl, B4.out⟩

set_option maxHeartbeats 1000000 in
theorem tokens_long (s : ByteArray) (p : List Addr) (w : World) (he : Er w p) (hG : 23 ≤ w.heap.size) (hs : 8192 < s.size) :
    Calls Tryd.prog 10 #[.string s] w fun e w' => Tp w p e w' (.bad (longK s) 0) := by
  have hb0 := bel_new w (.cells #[.nilIface, .int .i64 0] 27)
  have k0 : (w.alloc (.cells #[.nilIface, .int .i64 0] 27)).heap[w.heap.size]? = some (.cells #[.nilIface, .int .i64 0] 27 (0, 0)) := Go.Deep.blk_alloc_new _ _
  have E0 := hide (he.bel hb0)
  have K0 := hide k0
  have B0 := hide hb0
  clear hb0 k0 he
  have hs2 : (8192 : Int) < (s.size : Int) := by omega
  have HT := hide (fun w he hG => tooLong_any s p w he hG hs)
  generalize longK s = k at *
  go_enter Tryd.func10, Tryd.ntmps10
  go_wp2_with fail
  generalize w.alloc (.cells #[.nilIface, .int .i64 0] 27) = w0 at *
  refine (HT.out w0 E0.out (Nat.le_trans hG B0.out.size)).mono ?_
  rintro e w1 ⟨rfl, hb⟩
  clear HT
  have k1 := (hb.block _ (lt_of_blk K0.out)).trans K0.out
  have c1 := blk_cell k1 0 _ rfl
  have c2 := blk_cell k1 1 _ rfl
  have f1 := blk_frz k1 0
  have f2 := blk_frz k1 1
  obtain ⟨k2, t2⟩ := set1 k1 0 (errV p k)
  obtain ⟨k3, t3⟩ := set1 k2 1 (.int .i64 0)
  have K3 := hide k3
  have B1 := bel_trans B0.out hb
  have B3 := hide ((B1.trans (t2.bel (Nat.le_refl _) B1.size)).trans (t3.bel (Nat.le_refl _) (Nat.le_trans B1.size t2.size)))
  clear k1 k2 k3 t2 t3 hb B1 E0 K0 B0
  go_wp2_with fail
  refine bodyPost_ret (results_toks rfl rfl K3.out) rfl ?_
  exact ⟨rfl, B3.out⟩

end Go.Proofs.YtpeebpnoldadjaaDoor.Ck
