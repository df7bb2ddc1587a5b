/- Texts of this proof, packed: contracts of the program's functions, and the plain model that they are held against. -/
import Derived.Test.YtogeblmppagabaaGreatDoorQak
/- The parser's first nodes. -/
namespace Go.Proofs.YtogeblmppagabaaGreatDoor.Ck
open Go.RowKit

set_option maxRecDepth 20000 in
set_option maxHeartbeats 1000000 in
theorem open_any {w : World} {p : List Addr} {g gT : Nat} {L : List Tk} {i l : Nat} (h : Ps w p g gT L i l) (k : Int) (hi : i + 1 < L.length) :
    Calls Tryz.prog 131 #[.pointer (some ⟨g, 0, none⟩), .int .i64 k] w fun e w' => e = .returned (.agg #[.int .i64 k, .int .i64 (tkAt L i).pos, .string ⟨#[]⟩, .int .i64 0, .int .i64 0, .int .i64 0, .int .i64 0, .int .u64 0, .slice none 0 0]) ∧ Ps w' p g gT L (i + 1) l ∧ Tn g w w' := by
  have hb0 := hide (bel_new w nodZ)
  have hz0 : Hid (Nod (w.alloc nodZ) w.heap.size (.int .i64 0) (.int .i64 0) (.string ⟨#[]⟩) (.int .i64 0) (.int .i64 0) (.int .i64 0) (.int .i64 0) (.int .u64 0) (.slice none 0 0)) := Go.Deep.blk_alloc_new _ _
  have H0 := hide (h.below hb0.out)
  have hgl := h.lt_g
  have hT := h.row.lt
  have HH := hide (here_any H0.out)
  clear h
  unfold nodZ at *
  generalize tkAt L i = tk at *
  obtain ⟨kind, text, nn, bits_, pos⟩ := tk
  dsimp only [Tk.val] at *
  have hf4 := tf4 (.int .i64 kind) (.string text) (.int .i64 nn) (.int .u64 bits_) (.int .i64 pos)
  go_enter Tryz.func131, Tryz.ntmps131
  go_wp2_with fail
  generalize w.alloc (.cells #[.int .i64 0, .int .i64 0, .string ⟨#[]⟩, .int .i64 0, .int .i64 0, .int .i64 0, .int .i64 0, .int .u64 0, .slice none 0 0] 27) = w0 at *
  refine HH.out.mono ?_
  rintro e w1 ⟨rfl, hb1⟩
  clear HH
  have hb2 := bel_new w1 (.cells #[.int .i64 k, .int .i64 pos, .string ⟨#[]⟩, .int .i64 0, .int .i64 0, .int .i64 0, .int .i64 0, .int .u64 0, .slice none 0 0] 27)
  have H1 := hide (H0.out.below (bel_trans hb1 hb2))
  have T1 := hide (bel_trans hb0.out (bel_trans hb1 hb2))
  have zt : Nod (w1.alloc (.cells #[.int .i64 k, .int .i64 pos, .string ⟨#[]⟩, .int .i64 0, .int .i64 0, .int .i64 0, .int .i64 0, .int .u64 0, .slice none 0 0] 27)) w1.heap.size (.int .i64 k) (.int .i64 pos) (.string ⟨#[]⟩) (.int .i64 0) (.int .i64 0) (.int .i64 0) (.int .i64 0) (.int .u64 0) (.slice none 0 0) := Go.Deep.blk_alloc_new _ _
  have hw1 : w.heap.size < w1.heap.size := Nat.lt_of_lt_of_le (lt_of_blk hz0.out) hb1.size
  obtain ⟨r1, r2⟩ := H1.out.set (i + 1) hi ((i : Int) + 1) (by omega)
  have Z1 := hide (((hz0.out.bel hb1).bel hb2).tn r2 (by omega))
  have Y1 := hide (zt.tn r2 (by omega))
  have T2 := hide ((Tn.of_bel (g := g) T1.out).trans r2)
  have H2 := hide r1
  obtain ⟨cap, _, c1, c2, cf, _, _⟩ := H1.out.cells
  have f1 := cf 1
  have hL := H1.out.len
  obtain ⟨⟨f0, fa1, f2, f3, f4, f5, f6, f7, f8⟩, b0, b1, b2, b3, b4, b5, b6, b7, b8⟩ := Z1.out.all
  obtain ⟨_, d0, d1, d2, d3, d4, d5, d6, d7, d8⟩ := Y1.out.all
  obtain ⟨z3, s3⟩ := set9 Z1.out (.int .i64 k) (.int .i64 pos) (.string ⟨#[]⟩) (.int .i64 0) (.int .i64 0) (.int .i64 0) (.int .i64 0) (.int .u64 0) (.slice none 0 0)
  have Z3 := hide z3
  have S3 := hide s3
  clear cf hb1 hb2 H0 hb0 hz0 r1 r2 T1 Z1 z3 s3 zt Y1
  go_wp2_with fail
  refine ret_nod w.heap.size rfl rfl Z3.out rfl ?_
  exact ⟨rfl, H2.out.tn S3.out (by have := H2.out.big; omega) (by omega) (by omega), T2.out.own S3.out (Nat.le_refl _)⟩

set_option maxRecDepth 20000 in
set_option maxHeartbeats 1000000 in
theorem truth_any {w : World} {p : List Addr} {g gT : Nat} {L : List Tk} {i l : Nat} (h : Ps w p g gT L i l) (b : Int) (hi : i + 1 < L.length) :
    Calls Tryz.prog 210 #[.pointer (some ⟨g, 0, none⟩), .int .i64 b] w fun e w' => e = .returned (.agg #[.int .i64 27, .int .i64 (tkAt L i).pos, .string ⟨#[]⟩, .int .i64 0, .int .i64 b, .int .i64 0, .int .i64 0, .int .u64 0, .slice none 0 0]) ∧ Ps w' p g gT L (i + 1) l ∧ Tn g w w' := by
  have hb0 := hide (bel_new w nodZ)
  have hz0 : Hid (Nod (w.alloc nodZ) w.heap.size (.int .i64 0) (.int .i64 0) (.string ⟨#[]⟩) (.int .i64 0) (.int .i64 0) (.int .i64 0) (.int .i64 0) (.int .u64 0) (.slice none 0 0)) := Go.Deep.blk_alloc_new _ _
  have H0 := hide (h.below hb0.out)
  have hgl := h.lt_g
  have hT := h.row.lt
  have HH := hide (open_any H0.out 27 hi)
  clear h
  unfold nodZ at *
  generalize (tkAt L i).pos = pos at *
  go_enter Tryz.func210, Tryz.ntmps210
  go_wp2_with fail
  generalize w.alloc (.cells #[.int .i64 0, .int .i64 0, .string ⟨#[]⟩, .int .i64 0, .int .i64 0, .int .i64 0, .int .i64 0, .int .u64 0, .slice none 0 0] 27) = w0 at *
  refine HH.out.mono ?_
  rintro e w1 ⟨rfl, r1, r2⟩
  have hb2 := bel_new w1 (.cells #[.int .i64 27, .int .i64 pos, .string ⟨#[]⟩, .int .i64 0, .int .i64 b, .int .i64 0, .int .i64 0, .int .u64 0, .slice none 0 0] 27)
  have H1 := hide (r1.below hb2)
  have T1 := hide (((Tn.of_bel (g := g) hb0.out).trans r2).trans (Tn.of_bel hb2))
  have Z1 := hide ((hz0.out.tn r2 (by omega)).bel hb2)
  obtain ⟨⟨f0, fa1, f2, f3, f4, f5, f6, f7, f8⟩, b0, b1, b2, b3, b4, b5, b6, b7, b8⟩ := Z1.out.all
  obtain ⟨z3, s3⟩ := set9 Z1.out (.int .i64 27) (.int .i64 pos) (.string ⟨#[]⟩) (.int .i64 0) (.int .i64 b) (.int .i64 0) (.int .i64 0) (.int .u64 0) (.slice none 0 0)
  have Z3 := hide z3
  have S3 := hide s3
  clear HH hb0 hz0 H0 r1 r2 hb2 Z1 z3 s3
  go_wp2_with fail
  refine ret_nod w.heap.size rfl rfl Z3.out rfl ?_
  exact ⟨rfl, H1.out.tn S3.out (by have := H1.out.big; omega) (by omega) (by omega), T1.out.own S3.out (Nat.le_refl _)⟩

set_option maxRecDepth 20000 in
set_option maxHeartbeats 1000000 in
theorem number_any {w : World} {p : List Addr} {g gT : Nat} {L : List Tk} {i l : Nat} (h : Ps w p g gT L i l) (k : Int) (hi : i + 1 < L.length) :
    Calls Tryz.prog 209 #[.pointer (some ⟨g, 0, none⟩), .int .i64 k] w fun e w' => e = .returned (.agg #[.int .i64 k, .int .i64 (tkAt L i).pos, .string ⟨#[]⟩, .int .i64 0, .int .i64 (tkAt L i).n, .int .i64 0, .int .i64 0, .int .u64 (tkAt L i).bits, .slice none 0 0]) ∧ Ps w' p g gT L (i + 1) l ∧ Tn g w w' := by
  have hb0 := hide (bel_new w nodZ)
  have hz0 : Hid (Nod (w.alloc nodZ) w.heap.size (.int .i64 0) (.int .i64 0) (.string ⟨#[]⟩) (.int .i64 0) (.int .i64 0) (.int .i64 0) (.int .i64 0) (.int .u64 0) (.slice none 0 0)) := Go.Deep.blk_alloc_new _ _
  have H0 := hide (h.below hb0.out)
  have hgl := h.lt_g
  have hT := h.row.lt
  have HH := hide (here_any H0.out)
  have HO := hide (fun w (h : Ps w p g gT L i l) => open_any h k hi)
  clear h
  unfold nodZ at *
  generalize tkAt L i = tk at *
  obtain ⟨kind, text, nn, bits_, pos⟩ := tk
  dsimp only [Tk.val] at *
  go_enter Tryz.func209, Tryz.ntmps209
  go_wp2_with fail
  generalize w.alloc (.cells #[.int .i64 0, .int .i64 0, .string ⟨#[]⟩, .int .i64 0, .int .i64 0, .int .i64 0, .int .i64 0, .int .u64 0, .slice none 0 0] 27) = w0 at *
  refine HH.out.mono ?_
  rintro e w1 ⟨rfl, hb1⟩
  have hb2 := bel_new w1 (.cells #[.int .i64 kind, .string text, .int .i64 nn, .int .u64 bits_, .int .i64 pos] 67)
  have zt : Hid (Tok (w1.alloc (.cells #[.int .i64 kind, .string text, .int .i64 nn, .int .u64 bits_, .int .i64 pos] 67)) w1.heap.size (.int .i64 kind) (.string text) (.int .i64 nn) (.int .u64 bits_) (.int .i64 pos)) := Go.Deep.blk_alloc_new _ _
  have hw1 : w.heap.size < w1.heap.size := Nat.lt_of_lt_of_le (lt_of_blk hz0.out) hb1.size
  have H1 := hide (H0.out.below (bel_trans hb1 hb2))
  have T1 := hide (bel_trans hb0.out (bel_trans hb1 hb2))
  have Z1 := hide ((hz0.out.bel hb1).bel hb2)
  clear HH hb0 hz0 H0 hb1 hb2
  go_wp2_with fail
  generalize w1.alloc (.cells #[.int .i64 kind, .string text, .int .i64 nn, .int .u64 bits_, .int .i64 pos] 67) = w2 at *
  refine (HO.out _ H1.out).mono ?_
  rintro e w3 ⟨rfl, r1, r2⟩
  have hb4 := bel_new w3 (.cells #[.int .i64 k, .int .i64 pos, .string ⟨#[]⟩, .int .i64 0, .int .i64 0, .int .i64 0, .int .i64 0, .int .u64 0, .slice none 0 0] 27)
  have x4 : Nod (w3.alloc (.cells #[.int .i64 k, .int .i64 pos, .string ⟨#[]⟩, .int .i64 0, .int .i64 0, .int .i64 0, .int .i64 0, .int .u64 0, .slice none 0 0] 27)) w3.heap.size (.int .i64 k) (.int .i64 pos) (.string ⟨#[]⟩) (.int .i64 0) (.int .i64 0) (.int .i64 0) (.int .i64 0) (.int .u64 0) (.slice none 0 0) := Go.Deep.blk_alloc_new _ _
  have H4 := hide (r1.below hb4)
  have T4 := hide (((Tn.of_bel (g := g) T1.out).trans r2).trans (Tn.of_bel hb4))
  have y4 := (zt.out.tn r2 (by omega)).bel hb4
  have Z4 := hide ((Z1.out.tn r2 (by omega)).bel hb4)
  have hw3 : w1.heap.size < w3.heap.size := Nat.lt_of_lt_of_le (lt_of_blk zt.out) r2.size
  clear HO r1 r2 hb4 zt T1 H1 Z1
  go_wp2_with fail
  generalize w3.alloc (.cells #[.int .i64 k, .int .i64 pos, .string ⟨#[]⟩, .int .i64 0, .int .i64 0, .int .i64 0, .int .i64 0, .int .u64 0, .slice none 0 0] 27) = w4 at *
  generalize w3.heap.size = n3 at *
  generalize w1.heap.size = n1 at *
  obtain ⟨_, d0, d1, d2, d3, d4⟩ := y4.all
  obtain ⟨⟨e0, e1, e2, e3, e4, e5, e6, e7, e8⟩, a0, a1, a2, a3, a4, a5, a6, a7, a8⟩ := x4.all
  obtain ⟨x5, s5⟩ := set1 x4 4 (.int .i64 nn)
  have x5 : Nod _ n3 (.int .i64 k) (.int .i64 pos) (.string ⟨#[]⟩) (.int .i64 0) (.int .i64 nn) (.int .i64 0) (.int .i64 0) (.int .u64 0) (.slice none 0 0) := x5
  have e7' := blk_frz x5 7
  have a7' := blk_cell x5 7 _ rfl
  obtain ⟨x6, s6⟩ := set1 x5 7 (.int .u64 bits_)
  have x6 : Nod _ n3 (.int .i64 k) (.int .i64 pos) (.string ⟨#[]⟩) (.int .i64 0) (.int .i64 nn) (.int .i64 0) (.int .i64 0) (.int .u64 bits_) (.slice none 0 0) := x6
  have hne : ¬ n1 = n3 := by omega
  clear d0 d1 d4 e0 e1 e2 e3 e5 e6 e8 a0 a1 a2 a3 a5 a6 a8
  have X6 := hide x6
  have S6 := hide (s5.trans s6)
  have k1 : (w4.setCell ⟨n3, 4, none⟩ (.int .i64 nn)).drew.cell? ⟨n1, 2, none⟩ = some (.int .i64 nn) := blk_cell (y4.tn s5 hne) 2 _ rfl
  have k2 : (w4.setCell ⟨n3, 4, none⟩ (.int .i64 nn)).drew.cell? ⟨n1, 3, none⟩ = some (.int .u64 bits_) := blk_cell (y4.tn s5 hne) 3 _ rfl
  have k3 : ((w4.setCell ⟨n3, 4, none⟩ (.int .i64 nn)).setCell ⟨n3, 7, none⟩ (.int .u64 bits_)).drew.cell? ⟨n1, 2, none⟩ = some (.int .i64 nn) := blk_cell (y4.tn (s5.trans s6) hne) 2 _ rfl
  have k4 : ((w4.setCell ⟨n3, 4, none⟩ (.int .i64 nn)).setCell ⟨n3, 7, none⟩ (.int .u64 bits_)).drew.cell? ⟨n1, 3, none⟩ = some (.int .u64 bits_) := blk_cell (y4.tn (s5.trans s6) hne) 3 _ rfl
  clear x4 x5 x6 s5 s6 y4
  go_region_held3 (fun w' => w'.cell? ⟨n1, 2, none⟩ = some (.int .i64 nn) ∧ w'.cell? ⟨n1, 3, none⟩ = some (.int .u64 bits_)) (first | assumption | exact ⟨k1, k2⟩ | exact ⟨k3, k4⟩ | go_keep) (fail)
  have H6 := hide (H4.out.tn S6.out (by have := H4.out.big; omega) (by omega) (by omega))
  have T6 := hide (T4.out.own S6.out (by omega))
  have Z6 := hide (Z4.out.tn S6.out (by omega))
  clear k1 k2 k3 k4 d2 d3 e4 e7 e7' a4 a7 a7' H4 T4 Z4 S6
  generalize (w4.setCell ⟨n3, 4, none⟩ (.int .i64 nn)).setCell ⟨n3, 7, none⟩ (.int .u64 bits_) = w6 at *
  obtain ⟨⟨f0, fa1, f2, f3, f4, f5, f6, f7, f8⟩, b0, b1, b2, b3, b4, b5, b6, b7, b8⟩ := Z6.out.all
  obtain ⟨_, d0, d1, d2, d3, d4, d5, d6, d7, d8⟩ := X6.out.all
  obtain ⟨z3, s3⟩ := set9 Z6.out (.int .i64 k) (.int .i64 pos) (.string ⟨#[]⟩) (.int .i64 0) (.int .i64 nn) (.int .i64 0) (.int .i64 0) (.int .u64 bits_) (.slice none 0 0)
  have Z3 := hide z3
  have S3 := hide s3
  clear z3 s3 Z6 X6
  go_wp2_with fail
  refine ret_nod w.heap.size rfl rfl Z3.out.drew rfl ?_
  exact ⟨rfl, (H6.out.tn S3.out (by have := H6.out.big; omega) (by omega) (by omega)).drew, (T6.out.own S3.out (Nat.le_refl _)).drew⟩

end Go.Proofs.YtogeblmppagabaaGreatDoor.Ck

/- Rows of nodes; the parser's rules handed on as values. -/
namespace Go.Proofs.YtogeblmppagabaaGreatDoor.Ck
open Go.RowKit

theorem wpList_appN {w : World} {ops : Array Oper} {rest : List Oper} {o : Oper} {a : Act} {Q : Exit → Act → World → Prop} (s x : Operand) (v vx : Value) (R : Value → World → Prop)
    (hrun : ∀ ty, ∃ v' w', (Builtin.append_ #[25, 25] ty #[v, vx]).run Tryz.prog w = .ok v' w' ∧ R v' w') (hgd : o.guard = none)
    (ho : o.op = .call { callee := .builtin .append, args := #[s, x], argTypes := #[25, 25] }) (hs : a.eval s = v) (hx : a.eval x = vx)
    (h : ∀ v' w', R v' w' → wpList Tryz.prog ops Q rest (a.put o.dst v') w') : wpList Tryz.prog ops Q (o :: rest) a w :=
  wpList_plain hgd fun _ hK => by
    obtain ⟨v', w', hr, hR⟩ := hrun o.type
    unfold Oper.wp execOp
    simp only [ho, resolve, invoke, builtin, Sem.run_bind, Sem.run_pure, Result.andThen_ok, List.map_toArray, List.map_cons, List.map_nil, hs, hx, hr]
    exact hK _ _ (h v' w' hR)
theorem info_nod : (Tryz.prog.info? 27).map (fun i => (i.zero, i.size, i.bytes)) = some (some (.agg #[.int .i64 0, .int .i64 0, .string ⟨#[]⟩, .int .i64 0, .int .i64 0, .int .i64 0, .int .i64 0, .int .u64 0, .slice none 0 0]), 9, 96) := by kernel_rfl
theorem KidsV.one {w : World} {B : Nat → Prop} : ∀ {ks : List Nd} {s : Value}, KidsV w B ks s → s.oneCell' = true
  | [], _, h => by
    unfold KidsV at h
    rw [h]
    rfl
  | _ :: _, _, h => by
    unfold KidsV at h
    obtain ⟨g, cap, cur, rfl, _⟩ := h
    rfl
/-- the first node of a row -/
theorem push1 {w : World} {B b c : Nat} (hB : B ≤ w.heap.size) {k p : Int} {nm : ByteArray} {t n z o bits_ : Int} {ks : List Nd} {s : Value} (hk : KidsV w (Fr B) ks s)
    (hb : w.heap[b]? = some (.cells #[.int .i64 k, .int .i64 p, .string nm, .int .i64 t, .int .i64 n, .int .i64 z, .int .i64 o, .int .u64 bits_, s] 27 (0, 0))) (ty : TypeId) :
    ∃ v' w', (Builtin.append_ #[25, 25] ty #[.slice none 0 0, .slice (some ⟨b, 0, none⟩) 1 c]).run Tryz.prog w = .ok v' w' ∧ (KidsV w' (Fr B) [.mk k p nm t n z o bits_ ks] v' ∧ Below w.heap.size w w') := by
  obtain ⟨ie, hi, hz0, hz1, hz2⟩ := info_parts info_nod
  have hn : ∀ j u, ([.int .i64 k, .int .i64 p, .string nm, .int .i64 t, .int .i64 n, .int .i64 z, .int .i64 o, .int .u64 bits_, s] : List Value)[j]? = some u → w.cell? ((⟨b, 0, none⟩ : Addr).add j) = some u := fun j u hu => by
    have e2 : (Addr.mk b 0 none).add j = ⟨b, j, none⟩ := by unfold Addr.add; by_cases h : j = 0 <;> simp [h]
    rw [e2]
    exact blk_cell hb j u (by rw [← hu]; simp)
  have h1 : ∀ u ∈ ([.int .i64 k, .int .i64 p, .string nm, .int .i64 t, .int .i64 n, .int .i64 z, .int .i64 o, .int .u64 bits_, s] : List Value), u.oneCell' = true := fun u hu => by
    simp at hu
    rcases hu with rfl | rfl | rfl | rfl | rfl | rfl | rfl | rfl | rfl
    all_goals first | rfl | exact hk.one
  obtain ⟨v', w', hr, ho, hg, hne⟩ := run_append_own (P := Tryz.prog) w B 25 ty 27 ie (.agg #[.int .i64 0, .int .i64 0, .string ⟨#[]⟩, .int .i64 0, .int .i64 0, .int .i64 0, .int .i64 0, .int .u64 0, .slice none 0 0]) 9 96 Tryz.underlying25 hi hz0 hz1 hz2 rfl (by decide) (.slice none 0 0) 0 [] ⟨rfl, .inl ⟨rfl, rfl⟩⟩ ⟨b, 0, none⟩ 1 c _ rfl hn h1 (by unfold maxLen; omega) (by omega) hB
  have hbel : Below w.heap.size w w' := (Below.refl _ _).grown hg (Nat.le_refl _) (fun k hk => by cases hk)
  refine ⟨v', w', hr, ?_, hbel⟩
  rcases ho.2 with ⟨_, h0⟩ | ⟨g, cap, cur, hv, hBg, hc, hl1, hl2, hl3, hl4⟩
  · simp at h0
  · have hcell : ∀ j u, ([.int .i64 k, .int .i64 p, .string nm, .int .i64 t, .int .i64 n, .int .i64 z, .int .i64 o, .int .u64 bits_, s] : List Value)[j]? = some u → cD w' g j = u := fun j u hu => by
      unfold cD
      rw [blk_cell hc j u ?_]
      · rfl
      · have hj : j < (0 + 1) * 9 := by
          have := (List.getElem?_eq_some_iff.1 hu).1
          simpa using this
        rw [← Array.getElem?_toList, ← List.getElem?_take_of_lt hj, hl4]
        exact hu
    unfold KidsV
    refine ⟨g, cap, cur, by rw [hv]; rfl, hBg, hc, by simpa using hl1, hl2, hl3, ?_, by unfold RowV; trivial⟩
    unfold NodeV
    refine ⟨s, ?_, hk.bel hbel⟩
    unfold nodeAt
    rw [hcell 0 _ rfl, hcell (0 + 1) _ rfl, hcell (0 + 2) _ rfl, hcell (0 + 3) _ rfl, hcell (0 + 4) _ rfl, hcell (0 + 5) _ rfl, hcell (0 + 6) _ rfl, hcell (0 + 7) _ rfl, hcell (0 + 8) _ rfl]

/-- the rule of function K at token i and level l comes out so -/
def Rule (K : Nat) (p : List Addr) (g gT : Nat) (L : List Tk) (l i : Nat) (o : Out) : Prop :=
  ∀ w, Ps w p g gT L i l → Calls Tryz.prog K #[.pointer (some ⟨g, 0, none⟩)] w fun e w' => PostN p g gT L l w e w' o

/-- how a method that gives a row of one node ends -/
def PostK (p : List Addr) (g gT : Nat) (L : List Tk) (l : Nat) (w : World) (e : Ending) (w' : World) : Out → Prop
  | .ok n j => ∃ s, e = .returned s ∧ KidsV w' (Fr w.heap.size) [n] s ∧ Ps w' p g gT L j l ∧ Tn g w w'
  | .bad k j => e = stop (errV p k) (tkAt L j).pos ∧ Tn g w w'

set_option maxRecDepth 20000 in
set_option maxHeartbeats 1000000 in
theorem all_treeparserexpr {w : World} {p : List Addr} {g gT : Nat} {L : List Tk} {i l : Nat} (h : Ps w p g gT L i l) (b c : Nat) (out : Out) (hr : Rule 27 p g gT L l i out) (hc : w.cell? ⟨b, 0, none⟩ = some (.func (.func 27) #[.pointer (some ⟨g, 0, none⟩)] #[])) :
    Calls Tryz.prog 194 #[.pointer (some ⟨g, 0, none⟩), .slice (some ⟨b, 0, none⟩) 1 c] w fun e w' => PostK p g gT L l w e w' out := by
  have H := hide h
  clear h
  have HR := hide hr
  clear hr
  cases out with
  | bad k j =>
    go_enter Tryz.func194, Tryz.ntmps194
    go_wp2_with fail
    refine wp_loop_rounds 2 ?_
    rw [rounds_succ]
    go_wp2_with fail
    refine (HR.out _ H.out).mono ?_
    rintro e w1 ⟨rfl, r2⟩
    exact ⟨rfl, rfl, r2⟩
  | ok n j =>
    go_enter Tryz.func194, Tryz.ntmps194
    go_wp2_with fail
    refine wp_loop_rounds 2 ?_
    rw [rounds_succ]
    go_wp2_with fail
    refine (HR.out _ H.out).mono ?_
    rintro e w1 ⟨v, rfl, hv, r1, r2⟩
    obtain ⟨kd, ps, nm, t, nn, z, o, bi, ks⟩ := n
    unfold NodeV at hv
    obtain ⟨s, rfl, hs⟩ := hv
    have hb2 := bel_new w1 (.cells #[.int .i64 kd, .int .i64 ps, .string nm, .int .i64 t, .int .i64 nn, .int .i64 z, .int .i64 o, .int .u64 bi, s] 27)
    have PU := hide (fun ty => push1 (c := 1) (Nat.le_trans r2.size hb2.size) (hs.bel hb2) (Go.Deep.blk_alloc_new w1 _) ty)
    have R2 := hide (And.intro (r1.below hb2) (r2.trans (Tn.of_bel hb2)))
    clear hs hb2 r1 r2 H HR hc
    go_wp2_with (first | (at_builtin; refine wpList_appN (.tmp 14) (.tmp 17) _ _ _ PU.out rfl rfl rfl rfl ?_; rintro v7 w7 ⟨o7, t7⟩))
    have R7 := hide (And.intro o7 (And.intro (R2.out.1.below t7) (R2.out.2.trans (Tn.of_bel t7))))
    clear o7 t7 PU R2
    rw [rounds_succ]
    go_wp2_with fail
    go_ret
    exact ⟨_, rfl, R7.out⟩

theorem alln_treeparserexpr {w : World} {p : List Addr} {g gT : Nat} {L : List Tk} {i l : Nat} (h : Ps w p g gT L i l) (out : Out) (hr : Rule 27 p g gT L l i out) :
    Calls Tryz.prog 194 #[.pointer (some ⟨g, 0, none⟩), .slice (some ⟨w.heap.size, 0, none⟩) 1 1] (w.alloc (.cells #[.func (.func 27) #[.pointer (some ⟨g, 0, none⟩)] #[]] 50)) fun e w' => PostK p g gT L l w e w' out := by
  refine (all_treeparserexpr (h.below (bel_new w _)) w.heap.size 1 out hr (blk_cell (Go.Deep.blk_alloc_new w _) 0 _ rfl)).mono ?_
  intro e w' h1
  have hb := bel_new w (.cells #[.func (.func 27) #[.pointer (some ⟨g, 0, none⟩)] #[]] 50)
  cases out with
  | bad k j => exact ⟨h1.1, (Tn.of_bel hb).trans h1.2⟩
  | ok n j =>
    obtain ⟨s, h2, h3, h4, h5⟩ := h1
    exact ⟨s, h2, h3.low hb.size, h4, (Tn.of_bel hb).trans h5⟩

set_option maxRecDepth 20000 in
set_option maxHeartbeats 1000000 in
theorem all_treeparserunary {w : World} {p : List Addr} {g gT : Nat} {L : List Tk} {i l : Nat} (h : Ps w p g gT L i l) (b c : Nat) (out : Out) (hr : Rule 169 p g gT L l i out) (hc : w.cell? ⟨b, 0, none⟩ = some (.func (.func 169) #[.pointer (some ⟨g, 0, none⟩)] #[])) :
    Calls Tryz.prog 194 #[.pointer (some ⟨g, 0, none⟩), .slice (some ⟨b, 0, none⟩) 1 c] w fun e w' => PostK p g gT L l w e w' out := by
  have H := hide h
  clear h
  have HR := hide hr
  clear hr
  cases out with
  | bad k j =>
    go_enter Tryz.func194, Tryz.ntmps194
    go_wp2_with fail
    refine wp_loop_rounds 2 ?_
    rw [rounds_succ]
    go_wp2_with fail
    refine (HR.out _ H.out).mono ?_
    rintro e w1 ⟨rfl, r2⟩
    exact ⟨rfl, rfl, r2⟩
  | ok n j =>
    go_enter Tryz.func194, Tryz.ntmps194
    go_wp2_with fail
    refine wp_loop_rounds 2 ?_
    rw [rounds_succ]
    go_wp2_with fail
    refine (HR.out _ H.out).mono ?_
    rintro e w1 ⟨v, rfl, hv, r1, r2⟩
    obtain ⟨kd, ps, nm, t, nn, z, o, bi, ks⟩ := n
    unfold NodeV at hv
    obtain ⟨s, rfl, hs⟩ := hv
    have hb2 := bel_new w1 (.cells #[.int .i64 kd, .int .i64 ps, .string nm, .int .i64 t, .int .i64 nn, .int .i64 z, .int .i64 o, .int .u64 bi, s] 27)
    have PU := hide (fun ty => push1 (c := 1) (Nat.le_trans r2.size hb2.size) (hs.bel hb2) (Go.Deep.blk_alloc_new w1 _) ty)
    have R2 := hide (And.intro (r1.below hb2) (r2.trans (Tn.of_bel hb2)))
    clear hs hb2 r1 r2 H HR hc
    go_wp2_with (first | (at_builtin; refine wpList_appN (.tmp 14) (.tmp 17) _ _ _ PU.out rfl rfl rfl rfl ?_; rintro v7 w7 ⟨o7, t7⟩))
    have R7 := hide (And.intro o7 (And.intro (R2.out.1.below t7) (R2.out.2.trans (Tn.of_bel t7))))
    clear o7 t7 PU R2
    rw [rounds_succ]
    go_wp2_with fail
    go_ret
    exact ⟨_, rfl, R7.out⟩

theorem alln_treeparserunary {w : World} {p : List Addr} {g gT : Nat} {L : List Tk} {i l : Nat} (h : Ps w p g gT L i l) (out : Out) (hr : Rule 169 p g gT L l i out) :
    Calls Tryz.prog 194 #[.pointer (some ⟨g, 0, none⟩), .slice (some ⟨w.heap.size, 0, none⟩) 1 1] (w.alloc (.cells #[.func (.func 169) #[.pointer (some ⟨g, 0, none⟩)] #[]] 50)) fun e w' => PostK p g gT L l w e w' out := by
  refine (all_treeparserunary (h.below (bel_new w _)) w.heap.size 1 out hr (blk_cell (Go.Deep.blk_alloc_new w _) 0 _ rfl)).mono ?_
  intro e w' h1
  have hb := bel_new w (.cells #[.func (.func 169) #[.pointer (some ⟨g, 0, none⟩)] #[]] 50)
  cases out with
  | bad k j => exact ⟨h1.1, (Tn.of_bel hb).trans h1.2⟩
  | ok n j =>
    obtain ⟨s, h2, h3, h4, h5⟩ := h1
    exact ⟨s, h2, h3.low hb.size, h4, (Tn.of_bel hb).trans h5⟩

set_option maxRecDepth 20000 in
set_option maxHeartbeats 1000000 in
theorem one_any {w : World} {p : List Addr} {g gT : Nat} {L : List Tk} {i l : Nat} (h : Ps w p g gT L i l) (out : Out) (hr : Rule 27 p g gT L l i out) :
    Calls Tryz.prog 212 #[.pointer (some ⟨g, 0, none⟩)] w fun e w' => PostK p g gT L l w e w' out := by
  have HA := hide (alln_treeparserexpr h out hr)
  clear h hr
  cases out with
  | bad k j =>
    go_enter Tryz.func212, Tryz.ntmps212
    go_wp2_with fail
    refine HA.out.mono ?_
    rintro e w1 ⟨rfl, r2⟩
    exact ⟨rfl, rfl, r2⟩
  | ok n j =>
    go_enter Tryz.func212, Tryz.ntmps212
    go_wp2_with fail
    refine HA.out.mono ?_
    rintro e w1 ⟨s, rfl, r⟩
    have R := hide r
    clear r HA
    go_wp2_with fail
    go_ret
    exact ⟨_, rfl, R.out⟩

end Go.Proofs.YtogeblmppagabaaGreatDoor.Ck

/- What stands within brackets. -/
namespace Go.Proofs.YtogeblmppagabaaGreatDoor.Ck
open Go.RowKit

/-- the last token is an end, and no other -/
def Ends (L : List Tk) : Prop := ∀ j, j < L.length → ((tkAt L j).text.size ≠ 0 ∨ (tkAt L j).kind ≠ 0) → j + 1 < L.length
theorem has_next {L : List Tk} (hE : Ends L) {i : Nat} (hi : i < L.length) {zs : List ByteArray} (hz : ∀ z ∈ zs, z.size ≠ 0) (h : has L i zs = true) : i + 1 < L.length :=
  hE i hi (.inl (hz _ ((Lib.containsS_iff _ _).1 h)))
/-- what stands between two brackets, of which the inner comes out so -/
def wrapO (L : List Tk) (l i : Nat) (op sh : ByteArray) (r : Out) : Out :=
  if has L i [op] then (if l = 16 then .bad 2 i else match r with | .ok n j => if has L j [sh] then .ok n (j + 1) else .bad 1 j | .bad k j => .bad k j) else .bad 1 i

set_option maxRecDepth 20000 in
set_option maxHeartbeats 1000000 in
theorem within_any {w : World} {p : List Addr} {g gT : Nat} {L : List Tk} {i l : Nat} (h : Ps w p g gT L i l) (hE : Ends L) (hl : l ≤ 16) (op sh : ByteArray) (ho : op.size ≠ 0) (hs : sh.size ≠ 0) (r : Out) (hr : l ≠ 16 → has L i [op] = true → Rule 27 p g gT L (l + 1) (i + 1) r) :
    Calls Tryz.prog 162 #[.pointer (some ⟨g, 0, none⟩), .string op, .func (.func 212) #[.pointer (some ⟨g, 0, none⟩)] #[], .string sh] w fun e w' => PostK p g gT L l w e w' (wrapO L l i op sh r) := by
  have H := hide h
  have hi := h.lt
  have hgl := hide h.lt_g
  clear h
  have HR := hide hr
  clear hr
  generalize hw : wrapO L l i op sh r = out
  unfold wrapO at hw
  by_cases h1 : has L i [op] = true
  · rw [if_pos h1] at hw
    by_cases h2 : l = 16
    · rw [if_pos h2] at hw
      subst hw
      have HB := hide (begin_deep H.out op h1 h2)
      clear h1 h2 hE ho hs hi hl HR H
      go_enter Tryz.func162, Tryz.ntmps162
      go_wp2_with fail
      refine HB.out.mono ?_
      rintro e w1 ⟨rfl, r2⟩
      exact ⟨rfl, rfl, r2⟩
    · rw [if_neg h2] at hw
      have HW := hide hw
      clear hw
      have HB := hide (begin_yes H.out op h1 (has_next hE hi (by simpa using ho) h1) (by omega))
      have HR := hide (HR.out h2 h1)
      have HE := hide hE
      have HS := hide hs
      clear h1 hE ho hs hi H
      go_enter Tryz.func162, Tryz.ntmps162
      go_wp2_with fail
      refine HB.out.mono ?_
      rintro e w1 ⟨rfl, r1, r2⟩
      have HO := hide (one_any r1 r HR.out)
      have T1 := hide r2
      clear r1 r2 HB HR
      go_wp2_with fail
      cases r with
      | bad k j =>
        refine HO.out.mono ?_
        rintro e w2 ⟨rfl, r2⟩
        have hw := HW.out
        subst hw
        exact ⟨rfl, rfl, T1.out.trans r2⟩
      | ok n j =>
        refine HO.out.mono ?_
        rintro e w2 ⟨s, rfl, hk, r1, r2⟩
        have K2 := hide hk
        have H2 := hide r1
        have T2 := hide (T1.out.trans r2)
        clear hk r1 r2 HO
        by_cases h3 : has L j [sh] = true
        · have hw := HW.out
          dsimp only at hw
          rw [if_pos h3] at hw
          subst hw
          clear HW
          have HT := hide (take_new H2.out sh h3 (has_next HE.out H2.out.lt (by simpa using HS.out) h3))
          clear h3
          go_wp2_with fail
          refine HT.out.mono ?_
          rintro e w3 ⟨rfl, r1, r2⟩
          have HN := hide (end_any r1 (by omega) (by omega))
          have T3 := hide r2
          clear r1 r2 HT
          go_wp2_with fail
          refine HN.out.mono ?_
          rintro e w4 ⟨rfl, r1, r2⟩
          rw [Nat.add_sub_cancel] at r1
          have H4 := hide r1
          have T4 := hide r2
          clear r1 r2 HN
          go_wp2_with fail
          go_ret
          have hg1 : g < w1.heap.size := Nat.lt_of_lt_of_le hgl.out T1.out.size
          exact ⟨_, rfl, ((K2.out.tn T3.out hg1).tn T4.out hg1).low T1.out.size, H4.out, (T2.out.trans T3.out).trans T4.out⟩
        · have hw := HW.out
          dsimp only at hw
          rw [if_neg h3] at hw
          subst hw
          clear HW
          have HT := hide (take_not H2.out sh (by simpa using h3))
          clear h3
          go_wp2_with fail
          refine HT.out.mono ?_
          rintro e w3 ⟨rfl, r2⟩
          exact ⟨rfl, rfl, T2.out.trans r2⟩
  · rw [if_neg h1] at hw
    subst hw
    have HB := hide (begin_no H.out op (by simpa using h1))
    clear h1 hE ho hs hi hl HR H
    go_enter Tryz.func162, Tryz.ntmps162
    go_wp2_with fail
    refine HB.out.mono ?_
    rintro e w1 ⟨rfl, r2⟩
    exact ⟨rfl, rfl, r2⟩

end Go.Proofs.YtogeblmppagabaaGreatDoor.Ck
