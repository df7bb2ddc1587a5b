/- Texts of this proof, packed: contracts of the program's functions, and the plain model that they are held against. -/
import Derived.Test.YtogeblmppagabaaGreatDoorQbf
import Derived.Test.YtogeblmppagabaaGreatDoorQbg
import Derived.Test.YtogeblmppagabaaGreatDoorQbh
import Derived.Test.YtogeblmppagabaaGreatDoorQbi
import Derived.Test.YtogeblmppagabaaGreatDoorQbj
import Derived.Test.YtogeblmppagabaaGreatDoorQbk
import Derived.Test.YtogeblmppagabaaGreatDoorQbl
/- The grammar's contracts, at once. -/
namespace Go.Proofs.YtogeblmppagabaaGreatDoor.Ck
open Go.RowKit

theorem stmt_all {w : World} {p : List Addr} {g gT : Nat} {L : List Tk} {i l : Nat} (h : Ps w p g gT L i l) (hE : Ends L) (hl : l ≤ 16) (ex exI tg bl : Nat → Out) (hX : ∀ j, i ≤ j → Rule 27 p g gT L l j (ex j)) (hI : l ≠ 16 → ∀ j, i ≤ j → Rule 27 p g gT L (l + 1) j (exI j)) (hT : ∀ j, i ≤ j → Rule 202 p g gT L l j (tg j)) (hB : ∀ j, i + 1 ≤ j → Rule 138 p g gT L l j (bl j))
    (gX : ∀ q n j, ex q = .ok n j → q ≤ j) (gI : ∀ q n j, exI q = .ok n j → q ≤ j) (gT' : ∀ q n j, tg q = .ok n j → q < j) (gB : ∀ q n j, bl q = .ok n j → q ≤ j) :
    Calls Tryz.prog 183 #[.pointer (some ⟨g, 0, none⟩)] w fun e w' => PostN p g gT L l w e w' (stO L l i ex exI tg bl) := by
  unfold stO
  by_cases hc : has L i [⟨#[103, 111]⟩] = true
  · rw [if_pos hc]
    have hi := has_next hE h.lt (by decide) hc
    exact stmt_go h (has_one hc) _ (fun w' hw' => goes_any hw' hE hl hi _ gI (fun a j hj => hI a j (by omega)))
  rw [if_neg hc]
  have h0 := has_not hc
  clear hc
  by_cases hc : has L i [⟨#[108, 111, 99, 107]⟩] = true
  · rw [if_pos hc]
    have hi := has_next hE h.lt (by decide) hc
    exact stmt_lock h (has_one hc) _ (fun w' hw' => named0_any hw' hE hi 14)
  rw [if_neg hc]
  have h1 := has_not hc
  clear hc
  by_cases hc : has L i [⟨#[117, 110, 108, 111, 99, 107]⟩] = true
  · rw [if_pos hc]
    have hi := has_next hE h.lt (by decide) hc
    exact stmt_unlock h (has_one hc) _ (fun w' hw' => named0_any hw' hE hi 15)
  rw [if_neg hc]
  have h2 := has_not hc
  clear hc
  by_cases hc : has L i [⟨#[115, 101, 110, 100]⟩] = true
  · rw [if_pos hc]
    have hi := has_next hE h.lt (by decide) hc
    exact stmt_send h (has_one hc) _ (fun w' hw' => (named1_expr (hw'.below (bel_new w' _)) hE hi 16 w'.heap.size 1 (by have := hw'.lt_g; omega) (blk_cell (Go.Deep.blk_alloc_new w' _) 0 _ rfl) _ (hX (i + 1 + 1 + 1) (by omega))).mono (fun e w2 hp => hp.base (bel_new w' _)))
  rw [if_neg hc]
  have h3 := has_not hc
  clear hc
  by_cases hc : has L i [⟨#[114, 101, 99, 118]⟩] = true
  · rw [if_pos hc]
    have hi := has_next hE h.lt (by decide) hc
    exact stmt_recv h (has_one hc) _ (fun w' hw' => (named1_target (hw'.below (bel_new w' _)) hE hi 17 w'.heap.size 1 (by have := hw'.lt_g; omega) (blk_cell (Go.Deep.blk_alloc_new w' _) 0 _ rfl) _ (hT (i + 1 + 1 + 1) (by omega))).mono (fun e w2 hp => hp.base (bel_new w' _)))
  rw [if_neg hc]
  have h4 := has_not hc
  clear hc
  by_cases hc : has L i [⟨#[97, 100, 100]⟩] = true
  · rw [if_pos hc]
    have hi := has_next hE h.lt (by decide) hc
    exact stmt_add h (has_one hc) _ (fun w' hw' => (named1_expr (hw'.below (bel_new w' _)) hE hi 18 w'.heap.size 1 (by have := hw'.lt_g; omega) (blk_cell (Go.Deep.blk_alloc_new w' _) 0 _ rfl) _ (hX (i + 1 + 1 + 1) (by omega))).mono (fun e w2 hp => hp.base (bel_new w' _)))
  rw [if_neg hc]
  have h5 := has_not hc
  clear hc
  by_cases hc : has L i [⟨#[112, 117, 116]⟩] = true
  · rw [if_pos hc]
    have hi := has_next hE h.lt (by decide) hc
    exact stmt_put h (has_one hc) _ (fun w' hw' => (named1_expr (hw'.below (bel_new w' _)) hE hi 19 w'.heap.size 1 (by have := hw'.lt_g; omega) (blk_cell (Go.Deep.blk_alloc_new w' _) 0 _ rfl) _ (hX (i + 1 + 1 + 1) (by omega))).mono (fun e w2 hp => hp.base (bel_new w' _)))
  rw [if_neg hc]
  have h6 := has_not hc
  clear hc
  by_cases hc : has L i [⟨#[103, 101, 116]⟩] = true
  · rw [if_pos hc]
    have hi := has_next hE h.lt (by decide) hc
    exact stmt_get h (has_one hc) _ (fun w' hw' => (named1_target (hw'.below (bel_new w' _)) hE hi 20 w'.heap.size 1 (by have := hw'.lt_g; omega) (blk_cell (Go.Deep.blk_alloc_new w' _) 0 _ rfl) _ (hT (i + 1 + 1 + 1) (by omega))).mono (fun e w2 hp => hp.base (bel_new w' _)))
  rw [if_neg hc]
  have h7 := has_not hc
  clear hc
  by_cases hc : has L i [⟨#[105, 102]⟩] = true
  · rw [if_pos hc]
    have hi := has_next hE h.lt (by decide) hc
    exact stmt_if h (has_one hc) _ (fun w' hw' => branch_any hw' hE hi _ _ (hX _ (by omega)) hB (gX _) gB)
  rw [if_neg hc]
  have h8 := has_not hc
  clear hc
  by_cases hc : has L i [⟨#[119, 104, 105, 108, 101]⟩] = true
  · rw [if_pos hc]
    have hi := has_next hE h.lt (by decide) hc
    exact stmt_while h (has_one hc) _ (fun w' hw' => loop_any hw' hE hi _ _ (hX _ (by omega)) (fun n j hq => hB j (gX _ _ _ hq)))
  rw [if_neg hc]
  have h9 := has_not hc
  clear hc
  by_cases hc : has L i [⟨#[114, 101, 116, 117, 114, 110]⟩] = true
  · rw [if_pos hc]
    have hi := has_next hE h.lt (by decide) hc
    exact stmt_return h (has_one hc) _ (fun w' hw' => leaves0_any hw' hE hi)
  rw [if_neg hc]
  have h10 := has_not hc
  clear hc
  by_cases hc : has L i [⟨#[102, 97, 105, 108]⟩] = true
  · rw [if_pos hc]
    have hi := has_next hE h.lt (by decide) hc
    exact stmt_fail h (has_one hc) _ (fun w' hw' => (leaves1_any (hw'.below (bel_new w' _)) hE hi w'.heap.size 1 (by have := hw'.lt_g; omega) (blk_cell (Go.Deep.blk_alloc_new w' _) 0 _ rfl) _ (hX (i + 1) (by omega))).mono (fun e w2 hp => hp.base (bel_new w' _)))
  rw [if_neg hc]
  have h11 := has_not hc
  clear hc
  refine stmt_word h ?_ _ (fun w' hw' => wordFirst_any hw' hE hl _ _ _ (hT i (Nat.le_refl _)) (fun n j hq => hX _ (by have := gT' _ _ _ hq; omega)) gI (fun a n j hq j' hj => hI a j' (by have := gT' _ _ _ hq; omega)))
  intro z hz
  unfold tx
  simp only [List.mem_cons, List.not_mem_nil, or_false] at hz
  rcases hz with rfl | rfl | rfl | rfl | rfl | rfl | rfl | rfl | rfl | rfl | rfl | rfl
  · exact h0 _ (by simp)
  · exact h1 _ (by simp)
  · exact h2 _ (by simp)
  · exact h3 _ (by simp)
  · exact h4 _ (by simp)
  · exact h5 _ (by simp)
  · exact h6 _ (by simp)
  · exact h7 _ (by simp)
  · exact h8 _ (by simp)
  · exact h9 _ (by simp)
  · exact h10 _ (by simp)
  · exact h11 _ (by simp)

theorem decl_all {w : World} {p : List Addr} {g gT : Nat} {L : List Tk} {i l : Nat} (h : Ps w p g gT L i l) (hE : Ends L) (bl : Nat → Out) (hB : ∀ j, i ≤ j → Rule 138 p g gT L l j (bl j)) :
    Calls Tryz.prog 75 #[.pointer (some ⟨g, 0, none⟩)] w fun e w' => PostN p g gT L l w e w' (dcO L bl i) := by
  unfold dcO
  by_cases hc : has L i [⟨#[118, 97, 114]⟩] = true
  · rw [if_pos hc]
    have hi := has_next hE h.lt (by decide) hc
    exact decl_var h (has_one hc) _ (fun w' hw' => variable_any hw' hE hi)
  rw [if_neg hc]
  have h0 := has_not hc
  clear hc
  by_cases hc : has L i [⟨#[109, 117, 116, 101, 120]⟩] = true
  · rw [if_pos hc]
    have hi := has_next hE h.lt (by decide) hc
    exact decl_mutex h (has_one hc) _ (fun w' hw' => named0_any hw' hE hi 4)
  rw [if_neg hc]
  have h1 := has_not hc
  clear hc
  by_cases hc : has L i [⟨#[99, 104, 97, 110]⟩] = true
  · rw [if_pos hc]
    have hi := has_next hE h.lt (by decide) hc
    exact decl_chan h (has_one hc) _ (fun w' hw' => channel_any hw' hE hi)
  rw [if_neg hc]
  have h2 := has_not hc
  clear hc
  by_cases hc : has L i [⟨#[97, 116, 111, 109, 105, 99]⟩] = true
  · rw [if_pos hc]
    have hi := has_next hE h.lt (by decide) hc
    exact decl_atomic h (has_one hc) _ (fun w' hw' => named0_any hw' hE hi 6)
  rw [if_neg hc]
  have h3 := has_not hc
  clear hc
  refine decl_func h ?_ _ (fun w' hw' => function_any hw' hE bl hB)
  intro z hz
  unfold tx
  simp only [List.mem_cons, List.not_mem_nil, or_false] at hz
  rcases hz with rfl | rfl | rfl | rfl
  · exact h0 _ (by simp)
  · exact h1 _ (by simp)
  · exact h2 _ (by simp)
  · exact h3 _ (by simp)

theorem rule_ex (p : List Addr) (g gT : Nat) (L : List Tk) (hE : Ends L) (l : Nat) (hl : l ≤ 16) (j : Nat) : Rule 27 p g gT L l j (exD L l j) :=
  (rules p g gT L hE (8 * L.length + 7)).e0 l hl j (by omega)
theorem rule_tg (p : List Addr) (g gT : Nat) (L : List Tk) (hE : Ends L) (l : Nat) (hl : l ≤ 16) (j : Nat) : Rule 202 p g gT L l j (tgD L l j) := fun _ hw =>
  target_any hw hE hl _ (fun a _ _ => rule_ex p g gT L hE (l + 1) (by omega) (j + 1 + 1))
theorem rule_st (p : List Addr) (g gT : Nat) (L : List Tk) (hE : Ends L) : ∀ (f l : Nat), l ≤ 16 → ∀ i, L.length - i < f → Rule 183 p g gT L l i (stF L f l i)
  | 0, _, _, _, h => by omega
  | f + 1, l, hl, i, hf => fun w h => by
    have hlt := h.lt
    unfold stF
    exact stmt_all h hE hl _ _ _ _ (fun j _ => rule_ex p g gT L hE l hl j) (fun a j _ => rule_ex p g gT L hE (l + 1) (by omega) j) (fun j _ => rule_tg p g gT L hE l hl j)
      (fun j hj w' hw' => block_any hw' hE hl _ (fun a _ w2 hw2 => stmts_any hw2 _ (fun a b c hc => stF_gt L f (l + 1) a b c hc) (fun q hq => rule_st p g gT L hE f (l + 1) (by omega) q (by omega))))
      (fun _ _ _ hh => exD_ge hh) (fun _ _ _ hh => exD_ge hh) (fun _ _ _ hh => tgD_gt hh) (fun _ _ _ hh => Nat.le_of_lt (blockO_gt (fun _ _ hq => stmtsF_ge (fun a b c hc => Nat.le_of_lt (stF_gt L f (l + 1) a b c hc)) _ _ _ _ _ hq) hh))
theorem rule_bl (p : List Addr) (g gT : Nat) (L : List Tk) (hE : Ends L) (l : Nat) (hl : l ≤ 16) (j : Nat) : Rule 138 p g gT L l j (blD L (L.length + 1) l j) := fun _ hw =>
  block_any hw hE hl _ (fun a _ _ hw2 => stmts_any hw2 _ (fun a b c hc => stF_gt L _ (l + 1) a b c hc) (fun q _ => rule_st p g gT L hE _ (l + 1) (by omega) q (by omega)))
/-- the whole grammar -/
theorem rule_pr (p : List Addr) (g gT : Nat) (L : List Tk) (hE : Ends L) : Rule 45 p g gT L 0 0 (prD L) := fun _ h =>
  program_any h _ (fun _ _ _ hh => dcO_gt (fun _ _ _ hh => Nat.le_of_lt (blD_gt hh)) hh) (fun j _ w' hw' => decl_all hw' hE _ (fun q _ => rule_bl p g gT L hE 0 (by omega) q))

end Go.Proofs.YtogeblmppagabaaGreatDoor.Ck

/- What tree.read defers; how it ends. -/
namespace Go.Proofs.YtogeblmppagabaaGreatDoor.Ck
open Go.RowKit

theorem catchT_idle (a b : Addr) (w : World) :
    CallsD Tryz.prog 50 #[.pointer (some a), .pointer (some b)] .returning w fun e u' w' => e = .returned (.tuple #[]) ∧ u' = .returning ∧ w' = w := by
  refine callsD_of_wpS Tryz.func50 rfl fun c₀ cs hu => ?_
  apply wpS_seq
  apply wpS_region
  simp [wpOpsS, go_sem, recoverD, hu, Tryz.ntmps50, Exit.thenS]
  apply wpS_seq
  refine wpS_of_wp ?_
  go_wp2_with fail
  refine wpS_cond (t := false) (by simp [Act.eval, Array.replicate]) ?_
  simp only [Bool.false_eq_true, if_false]
  refine wpS_of_wp (wp_skip ?_)
  cases c₀
  simp_all [bodyPostS, results, Tryz.results50]

theorem blk_drew {w : World} {k : Nat} {o : Option Obj} (h : w.heap[k]? = o) : w.drew.heap[k]? = o := h
set_option maxHeartbeats 1000000 in
theorem catchT_stop (bT bB : Nat) (v0 v1 v2 v3 v4 v5 v6 v7 v8 z0 z1 : Value) (te : TypeId) (pe : Value) (i : Nat) (w : World) (hT : Nod w bT v0 v1 v2 v3 v4 v5 v6 v7 v8) (hB : w.heap[bB]? = some (.cells #[z0, z1] 31 (0, 0))) (hne : bT ≠ bB) :
    CallsD Tryz.prog 50 #[.pointer (some ⟨bT, 0, none⟩), .pointer (some ⟨bB, 0, none⟩)] (.panicking [{ v := badV (.iface te pe) i, recovered := false }]) w fun e u' w' =>
      e = .returned (.tuple #[]) ∧ u' = .panicking [{ v := badV (.iface te pe) i, recovered := true }] ∧ Nod w' bT (.int .i64 0) (.int .i64 0) (.string ⟨#[]⟩) (.int .i64 0) (.int .i64 0) (.int .i64 0) (.int .i64 0) (.int .u64 0) (.slice none 0 0) ∧ w'.heap[bB]? = some (.cells #[.iface te pe, .int .i64 i] 31 (0, 0)) ∧ ∀ B, B ≤ bT → B ≤ bB → Below B w w' := by
  obtain ⟨⟨f0, f1, f2, f3, f4, f5, f6, f7, f8⟩, c0, c1, c2, c3, c4, c5, c6, c7, c8⟩ := hT.all
  have g1 := blk_frz hB 0
  have g2 := blk_frz hB 1
  have d1 := blk_cell hB 0 _ rfl
  have d2 := blk_cell hB 1 _ rfl
  have ha := assert_bad
  unfold badV
  refine callsD_of_wpS Tryz.func50 rfl fun c₀ cs hu => ?_
  apply wpS_seq
  apply wpS_region
  simp [wpOpsS, go_sem, recoverD, hu, Tryz.ntmps50, Exit.thenS]
  apply wpS_seq
  refine wpS_of_wp ?_
  go_wp2_with fail
  refine wpS_cond (t := true) (by simp [Act.eval, Array.replicate]) ?_
  simp only [if_true]
  refine wpS_of_wp ?_
  change Code.wp _ _ _ { tmps := #[.pointer (some ⟨bT, 0, none⟩), .pointer (some ⟨bB, 0, none⟩), .iface 31 (.agg #[.iface te pe, .int .i64 i]), .iface 31 (.agg #[.iface te pe, .int .i64 i]), .iface 31 (.agg #[.iface te pe, .int .i64 i]), .bool true, undef, undef, undef], defers := [] } _
  go_region
  obtain ⟨k1, t1⟩ := set9 hT (.int .i64 0) (.int .i64 0) (.string ⟨#[]⟩) (.int .i64 0) (.int .i64 0) (.int .i64 0) (.int .i64 0) (.int .u64 0) (.slice none 0 0)
  obtain ⟨k2, t2⟩ := set1 ((t1.blk bB (lt_of_blk hB) (Ne.symm hne)).trans hB) 0 (.iface te pe)
  obtain ⟨k3, t3⟩ := set1 k2 1 (.int .i64 i)
  have hlt := lt_of_blk hT
  refine ⟨rfl, _, rfl, _, results_none rfl _ _ _, rfl, rfl, ?_, ?_, fun B h1 h2 => ?_⟩
  · have hN := (t3.blk bT (Nat.lt_of_lt_of_le (lt_of_blk k1) t2.size) hne).trans ((t2.blk bT (lt_of_blk k1) hne).trans k1)
    exact Nod.drew hN
  · exact blk_drew k3
  · have b1 := t1.bel h1 (Nat.le_trans h1 (Nat.le_of_lt hlt))
    have b2 := t2.bel h2 (Nat.le_trans h1 (Nat.le_of_lt (Nat.lt_of_lt_of_le hlt t1.size)))
    have b3 := t3.bel h2 (Nat.le_trans h1 (Nat.le_of_lt (Nat.lt_of_lt_of_le hlt (Nat.le_trans t1.size t2.size))))
    exact ((b1.trans b2).trans b3).drew

theorem results_tree {tmps : Array Value} {bT bB : Nat} {w : World} {v0 v1 v2 v3 v4 v5 v6 v7 v8 z0 z1 : Value} (h2 : tmps.getD 4 undef = .pointer (some ⟨bT, 0, none⟩)) (h3 : tmps.getD 5 undef = .pointer (some ⟨bB, 0, none⟩))
    (hT : Nod w bT v0 v1 v2 v3 v4 v5 v6 v7 v8) (hB : w.heap[bB]? = some (.cells #[z0, z1] 31 (0, 0))) :
    (results Tryz.f26 tmps).run Tryz.prog w = .ok (.tuple #[.agg #[v0, v1, v2, v3, v4, v5, v6, v7, v8], .agg #[z0, z1]]) w := by
  have h2' : tmps[4]?.getD undef = .pointer (some ⟨bT, 0, none⟩) := by simpa using h2
  have h3' : tmps[5]?.getD undef = .pointer (some ⟨bB, 0, none⟩) := by simpa using h3
  obtain ⟨_, c0, c1, c2, c3, c4, c5, c6, c7, c8⟩ := hT.all
  have d1 := blk_cell hB 0 _ rfl
  have d2 := blk_cell hB 1 _ rfl
  simp [results, Tryz.results26, h2', h3', go_sem, c0, c1, c2, c3, c4, c5, c6, c7, c8, d1, d2]
theorem doorT_stop {R : Ending → World → Prop} {tmps : Array Value} {bT bB : Nat} {w : World} {v0 v1 v2 v3 v4 v5 v6 v7 v8 z0 z1 : Value} {te : TypeId} {pe : Value} {i : Nat} (h2 : tmps.getD 4 undef = .pointer (some ⟨bT, 0, none⟩)) (h3 : tmps.getD 5 undef = .pointer (some ⟨bB, 0, none⟩))
    (hT : Nod w bT v0 v1 v2 v3 v4 v5 v6 v7 v8) (hB : w.heap[bB]? = some (.cells #[z0, z1] 31 (0, 0))) (hne : bT ≠ bB)
    (hR : ∀ w', (∀ B, B ≤ bT → B ≤ bB → Below B w w') → R (.returned (.tuple #[.agg #[.int .i64 0, .int .i64 0, .string ⟨#[]⟩, .int .i64 0, .int .i64 0, .int .i64 0, .int .i64 0, .int .u64 0, .slice none 0 0], .agg #[.iface te pe, .int .i64 i]])) w') :
    Leaves Tryz.prog Tryz.f26 tmps R [{ target := .fn (.func 50) #[.pointer (some ⟨bT, 0, none⟩), .pointer (some ⟨bB, 0, none⟩)], args := #[] }] (.panicking [{ v := badV (.iface te pe) i, recovered := false }]) w := by
  refine leaves_cons (f := 50) (args := #[.pointer (some ⟨bT, 0, none⟩), .pointer (some ⟨bB, 0, none⟩)]) (by simp) (by simp [go_sem]) ?_
  refine (catchT_stop bT bB v0 v1 v2 v3 v4 v5 v6 v7 v8 z0 z1 te pe i w hT hB hne).mono ?_
  rintro e u' w' ⟨rfl, rfl, k1, k2, hb⟩
  exact ⟨_, results_tree h2 h3 k1 k2, hR w' hb⟩
theorem doorT_end {R : Ending → World → Prop} {tmps : Array Value} {bT bB : Nat} {w : World} {v0 v1 v2 v3 v4 v5 v6 v7 v8 z0 z1 : Value} (h2 : tmps.getD 4 undef = .pointer (some ⟨bT, 0, none⟩)) (h3 : tmps.getD 5 undef = .pointer (some ⟨bB, 0, none⟩))
    (hT : Nod w bT v0 v1 v2 v3 v4 v5 v6 v7 v8) (hB : w.heap[bB]? = some (.cells #[z0, z1] 31 (0, 0)))
    (hR : R (.returned (.tuple #[.agg #[v0, v1, v2, v3, v4, v5, v6, v7, v8], .agg #[z0, z1]])) w) :
    Leaves Tryz.prog Tryz.f26 tmps R [{ target := .fn (.func 50) #[.pointer (some ⟨bT, 0, none⟩), .pointer (some ⟨bB, 0, none⟩)], args := #[] }] .returning w := by
  refine leaves_cons (f := 50) (args := #[.pointer (some ⟨bT, 0, none⟩), .pointer (some ⟨bB, 0, none⟩)]) (by simp) (by simp [go_sem]) ?_
  refine (catchT_idle _ _ w).mono ?_
  rintro e u' w' ⟨rfl, rfl, rfl⟩
  exact ⟨_, results_tree h2 h3 hT hB, hR⟩

/-- a text's tokens, or its error, however long it is -/
def toksF (s : ByteArray) : Ended := if s.size ≤ 8192 then readF s else .bad (longK s) 0
theorem tokens_all (s : ByteArray) (p : List Addr) (w : World) (he : Er w p) (hG : 23 ≤ w.heap.size) :
    Calls Tryz.prog 22 #[.string s] w fun e w' => Tp w p e w' (toksF s) := by
  unfold toksF
  by_cases h : s.size ≤ 8192
  · rw [if_pos h]
    exact tokens_any s p w he hG h
  · rw [if_neg h]
    exact tokens_long s p w he hG (by omega)
theorem readF_len {s : ByteArray} : ∀ {i : Nat} {acc ts : List Tk}, rdF s i acc = .ok ts → acc.length ≤ 2000 → ts.length ≤ 2000 := fun {i acc ts} h hl => by
  by_cases h1 : i < s.size
  · by_cases h2 : acc.length = 2000
    · rw [rdF_full h1 h2] at h
      cases h
    · cases hq : tokF s i with
      | bad k' j' =>
        rw [rdF_bad h1 h2 hq] at h
        cases h
      | ok t e =>
        have h3 := tokF_ok h1 hq
        have h4 := blF_ge s e
        rw [rdF_step h1 h2 hq] at h
        exact readF_len h (by rw [List.length_append, List.length_singleton]; omega)
  · rw [rdF_end h1] at h
    cases h
    exact hl
termination_by i => s.size - i
theorem toksF_len {s : ByteArray} {ts : List Tk} (h : toksF s = .ok ts) : ts.length ≤ 2000 := by
  unfold toksF at h
  split at h
  · exact readF_len h (Nat.zero_le _)
  · cases h

/-- a token more, of one's own tokens -/
theorem OwnT.push {w : World} {B b c : Nat} {v : Value} {ts : List Tk} (h : OwnT w B v ts) (hB : B ≤ w.heap.size) (hl : ts.length ≤ 2000) (t : Tk) (hb : w.heap[b]? = some (.cells #[.int .i64 t.kind, .string t.text, .int .i64 t.n, .int .u64 t.bits, .int .i64 t.pos] 67 (0, 0))) (ty : TypeId) :
    ∃ v' w', (Builtin.append_ #[42, 42] ty #[v, .slice (some ⟨b, 0, none⟩) 1 c]).run Tryz.prog w = .ok v' w' ∧ (OwnT w' B v' (ts ++ [t]) ∧ Below B w w') := by
  obtain ⟨ie, hi, hz0, hz1, hz2⟩ := info_parts info_tok
  have hn : ∀ j u, (Tk.cells t)[j]? = some u → w.cell? ((⟨b, 0, none⟩ : Addr).add j) = some u := fun j u hu => by
    have e2 : (Addr.mk b 0 none).add j = ⟨b, j, none⟩ := by unfold Addr.add; by_cases h : j = 0 <;> simp [h]
    rw [e2]
    exact blk_cell hb j u (by rw [← hu]; unfold Tk.cells; simp)
  obtain ⟨v', w', hr, ho, hg, _⟩ := run_append_own (P := Tryz.prog) w B 42 ty 67 ie (.agg #[.int .i64 0, .string ⟨#[]⟩, .int .i64 0, .int .u64 0, .int .i64 0]) 5 48 Tryz.underlying42 hi hz0 hz1 hz2 rfl (by decide) v ts.length (toks ts) h ⟨b, 0, none⟩ 1 c (Tk.cells t) rfl hn (fun u hu => toks_one [t] u (by unfold toks; simpa using hu)) (by unfold maxLen; omega) (by omega) hB
  refine ⟨v', w', hr, ?_, ⟨hg.os, hg.tape, hg.output, hg.size, fun k hk => hg.block k (Nat.lt_of_lt_of_le hk hB) (fun e => ?_)⟩⟩
  · unfold OwnT
    rw [List.length_append, toks_app]
    exact ho
  · rcases h.2 with ⟨rfl, _⟩ | ⟨g, cap, cur, rfl, hge, _⟩
    · cases e
    · have e' : k = g := Option.some.inj e
      omega
def endTk (n : Nat) : Tk := ⟨0, ⟨#[]⟩, 0, 0, n⟩
theorem ends_toks (ts : List Tk) (n : Nat) : Ends (ts ++ [endTk n]) := fun j hj hh => by
  rw [List.length_append, List.length_singleton] at hj ⊢
  by_cases e : j = ts.length
  · exfalso
    have : tkAt (ts ++ [endTk n]) j = endTk n := by
      unfold tkAt
      rw [e, List.getD_eq_getElem?_getD, List.getElem?_append_right (Nat.le_refl _)]
      simp
    rw [this] at hh
    rcases hh with h | h
    · exact h rfl
    · exact h rfl
  · omega
theorem wpList_appT {w : World} {ops : Array Oper} {rest : List Oper} {o : Oper} {a : Act} {Q : Exit → Act → World → Prop} (s x : Operand) (v vx : Value) (R : Value → World → Prop)
    (hrun : ∀ ty, ∃ v' w', (Builtin.append_ #[42, 42] ty #[v, vx]).run Tryz.prog w = .ok v' w' ∧ R v' w') (hgd : o.guard = none)
    (ho : o.op = .call { callee := .builtin .append, args := #[s, x], argTypes := #[42, 42] }) (hs : a.eval s = v) (hx : a.eval x = vx)
    (h : ∀ v' w', R v' w' → wpList Tryz.prog ops Q rest (a.put o.dst v') w') : wpList Tryz.prog ops Q (o :: rest) a w :=
  wpList_plain hgd fun _ hK => by
    obtain ⟨v', w', hr, hR⟩ := hrun o.type
    unfold Oper.wp execOp
    simp only [ho, resolve, invoke, builtin, Sem.run_bind, Sem.run_pure, Result.andThen_ok, List.map_toArray, List.map_cons, List.map_nil, hs, hx, hr]
    exact hK _ _ (h v' w' hR)

/-- how a text's reading ends -/
inductive Read where
  | ok (n : Nd)
  | bad (k i : Nat)
def readO (rule : List Tk → Out) (s : ByteArray) : Read :=
  match toksF s with
  | .bad k i => .bad k i
  | .ok ts => match rule (ts ++ [endTk s.size]) with
    | .bad k j => .bad k (tkAt (ts ++ [endTk s.size]) j).pos
    | .ok n j => if (tkAt (ts ++ [endTk s.size]) j).kind = 0 then .ok n else .bad 1 (tkAt (ts ++ [endTk s.size]) j).pos
def Xp (w : World) (p : List Addr) (e : Ending) (w' : World) : Read → Prop
  | .ok n => ∃ v, e = .returned (.tuple #[v, .agg #[.nilIface, .int .i64 0]]) ∧ NodeV w' (Fr w.heap.size) n v ∧ Below w.heap.size w w'
  | .bad k i => e = .returned (.tuple #[.agg #[.int .i64 0, .int .i64 0, .string ⟨#[]⟩, .int .i64 0, .int .i64 0, .int .i64 0, .int .i64 0, .int .u64 0, .slice none 0 0], .agg #[errV p k, .int .i64 i]]) ∧ Below w.heap.size w w'

end Go.Proofs.YtogeblmppagabaaGreatDoor.Ck
