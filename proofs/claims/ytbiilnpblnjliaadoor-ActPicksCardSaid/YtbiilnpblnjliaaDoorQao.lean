/- Texts of this proof, packed: contracts of the program's functions, and the plain model that they are held against. -/
import Derived.Test.YtbiilnpblnjliaaDoorQan
/- Package act: clones. (Written by mk_a.py.) -/
namespace Go.Proofs.YtbiilnpblnjliaaDoor.Ck
open Go.RowKit

set_option maxRecDepth 20000 in
set_option maxHeartbeats 1000000 in
theorem cloneV2 {w : World} {src : Value} {n : Nat} {xs : List Value} (hs : w.ownsRow 0 41 3 src n xs) (hn : n ≤ 2000) (h1 : ∀ u ∈ xs, u.oneCell' = true) : Calls Tryd.prog 41 #[src] w (ClP w 41 3 n xs) := by
  rcases own_form hs with ⟨rfl, rfl⟩ | ⟨b, c, rfl, _⟩
  · have e : xs = [] := by have := hs.1; simpa using this
    subst e
    clear hs
    have hE : ∀ w, (binOp .eql 46 (.slice none 0 0) (.slice none 0 0)).run Tryd.prog w = .ok (.bool true) w := fun w => by kernel_rfl
    go_enter Tryd.func41, Tryd.ntmps41
    go_wp2_with fail
    go_ret
    exact ⟨_, _, rfl, World.ownsRow_nil _ _ _ _, Below.refl _ _⟩
  · have hb := bel_new w (.cells #[] 41)
    have AP := hide (fun ty => app_copy (B := w.heap.size) Tryd.underlying46 info_val rfl (by decide) (Go.Deep.blk_alloc_new w (.cells #[] 41)) (Nat.le_refl _) (own_keep hs (fun k hk => hb.block k (own_type hs hk).2.1)) (by omega) h1 hb.size ty)
    have HB := hide hb
    clear hs hb h1
    have hE : ∀ w, (binOp .eql 46 (.slice (some ⟨b, 0, none⟩) n c) (.slice none 0 0)).run Tryd.prog w = .ok (.bool false) w := fun w => by kernel_rfl
    go_enter Tryd.func41, Tryd.ntmps41
    go_wp2_with (first | (at_builtin; refine wpList_appW (TS := 46) rfl (.tmp 5) (.tmp 6) rfl _ _ rfl rfl _ (AP.out _) ?_; rintro v9 w9 ⟨⟨a9, c9, rfl⟩, o9, b9, _⟩; have R9 := hide (And.intro o9 b9); clear o9 b9))
    go_ret
    exact ⟨_, _, rfl, R9.out.1, bel_trans HB.out R9.out.2⟩
/-- arguments that are new -/
def ArgN (B : Nat) (w : World) (v : Value) : Prop := ∃ (a : Option Addr) (n c : Nat) (xs : List Value), v = .slice a n c ∧ n ≤ 2000 ∧ w.ownsRow B 41 3 v n xs ∧ ∀ u ∈ xs, u.oneCell' = true
theorem ArgN.args {B : Nat} {w : World} {v : Value} (h : ArgN B w v) {R : Nat → Prop} (hR : ∀ k, v.ownBlock = some k → R k) : Args w R v := by
  obtain ⟨a, n, c, xs, e, h1, h2, h3⟩ := h
  exact ⟨n, xs, h1, own_zero h2, h3, hR⟩
theorem ArgN.low {B B' : Nat} {w : World} {v : Value} (h : ArgN B w v) (hB : B' ≤ B) : ArgN B' w v := by
  obtain ⟨a, n, c, xs, e, h1, h2, h3⟩ := h
  exact ⟨a, n, c, xs, e, h1, own_low h2 hB, h3⟩
theorem ArgN.at {B : Nat} {w : World} {v : Value} (h : ArgN B w v) {k : Nat} (hk : v.ownBlock = some k) : B ≤ k ∧ k < w.heap.size := by
  obtain ⟨a, n, c, xs, e, h1, h2, h3⟩ := h
  exact ⟨(own_type h2 hk).1, (own_type h2 hk).2.1⟩
theorem ArgN.keep {B : Nat} {w w' : World} {v : Value} (h : ArgN B w v) (hk : ∀ k, B ≤ k → k < w.heap.size → v.ownBlock = some k → w'.heap[k]? = w.heap[k]?) : ArgN B w' v := by
  obtain ⟨a, n, c, xs, e, h1, h2, h3⟩ := h
  exact ⟨a, n, c, xs, e, h1, own_keep h2 fun k hk' => hk k (own_type h2 hk').1 (own_type h2 hk').2.1 hk', h3⟩
theorem ArgN.al {B : Nat} {w w' : World} {v : Value} (h : ArgN B w v) (hb : Below w.heap.size w w') : ArgN B w' v := h.keep fun k _ hk _ => hb.block k hk
theorem ret_wt {fn : Func} {Q : Ending → World → Prop} {a : Act} {w : World} {p : Tmp} (b : Nat) {k o a_ : Int} {v : V3} {va : Value} (hf : fn.results = #[.cell p 133]) (hp : a.tmps.getD p undef = .pointer (some ⟨b, 0, none⟩)) (hva : ∃ x y z, va = .slice x y z)
    (h : Wv w b k o a_ v va) (hdf : a.defers = []) (hR : Q (.returned (.agg #[.int .i64 k, .int .i64 o, .int .i64 a_, .int .i64 v.1, .int .i64 v.2.1, .int .u64 v.2.2, va])) w) : bodyPost Tryd.prog fn Q .ret a w :=
  bodyPost_ret (by
    obtain ⟨x, y, z, rfl⟩ := hva
    have hp' : a.tmps[p]?.getD undef = .pointer (some ⟨b, 0, none⟩) := by simpa using hp
    obtain ⟨v0, v1, v2⟩ := v
    obtain ⟨q0, q1, q2, q3, q4, q5, q6⟩ := h.all
    simp [results, hf, hp', go_sem, q0, q1, q2, q3, q4, q5, q6]) hdf hR
theorem Wv.frz {w : World} {b : Nat} {k o a : Int} {v : V3} {va : Value} (h : Wv w b k o a v va) (i : Nat) : w.frozen? ⟨b, i, none⟩ = false := blk_frz h i
/-- seven cells of block b, from o on, are set: what lies elsewhere stays -/
def set7 (w : World) (b o : Nat) (x0 x1 x2 x3 x4 x5 x6 : Value) : World := ((((((w.setCell ⟨b, o, none⟩ x0).setCell ⟨b, o + 1, none⟩ x1).setCell ⟨b, o + 2, none⟩ x2).setCell ⟨b, o + 3, none⟩ x3).setCell ⟨b, o + 4, none⟩ x4).setCell ⟨b, o + 5, none⟩ x5).setCell ⟨b, o + 6, none⟩ x6
theorem set7_at {w : World} {b : Nat} {T : TypeId} {y0 y1 y2 y3 y4 y5 y6 : Value} (h : w.heap[b]? = some (.cells #[y0, y1, y2, y3, y4, y5, y6] T (0, 0))) (x0 x1 x2 x3 x4 x5 x6 : Value) : (set7 w b 0 x0 x1 x2 x3 x4 x5 x6).heap[b]? = some (.cells #[x0, x1, x2, x3, x4, x5, x6] T (0, 0)) := by
  have h0 : (w.setCell ⟨b, 0, none⟩ x0).heap[b]? = some (.cells #[x0, y1, y2, y3, y4, y5, y6] T (0, 0)) := heap_setCell_same _ _ _ _ _ _ h
  have h1 : ((w.setCell ⟨b, 0, none⟩ x0).setCell ⟨b, 1, none⟩ x1).heap[b]? = some (.cells #[x0, x1, y2, y3, y4, y5, y6] T (0, 0)) := heap_setCell_same _ _ _ _ _ _ h0
  have h2 : (((w.setCell ⟨b, 0, none⟩ x0).setCell ⟨b, 1, none⟩ x1).setCell ⟨b, 2, none⟩ x2).heap[b]? = some (.cells #[x0, x1, x2, y3, y4, y5, y6] T (0, 0)) := heap_setCell_same _ _ _ _ _ _ h1
  have h3 : ((((w.setCell ⟨b, 0, none⟩ x0).setCell ⟨b, 1, none⟩ x1).setCell ⟨b, 2, none⟩ x2).setCell ⟨b, 3, none⟩ x3).heap[b]? = some (.cells #[x0, x1, x2, x3, y4, y5, y6] T (0, 0)) := heap_setCell_same _ _ _ _ _ _ h2
  have h4 : (((((w.setCell ⟨b, 0, none⟩ x0).setCell ⟨b, 1, none⟩ x1).setCell ⟨b, 2, none⟩ x2).setCell ⟨b, 3, none⟩ x3).setCell ⟨b, 4, none⟩ x4).heap[b]? = some (.cells #[x0, x1, x2, x3, x4, y5, y6] T (0, 0)) := heap_setCell_same _ _ _ _ _ _ h3
  have h5 : ((((((w.setCell ⟨b, 0, none⟩ x0).setCell ⟨b, 1, none⟩ x1).setCell ⟨b, 2, none⟩ x2).setCell ⟨b, 3, none⟩ x3).setCell ⟨b, 4, none⟩ x4).setCell ⟨b, 5, none⟩ x5).heap[b]? = some (.cells #[x0, x1, x2, x3, x4, x5, y6] T (0, 0)) := heap_setCell_same _ _ _ _ _ _ h4
  have h6 : (((((((w.setCell ⟨b, 0, none⟩ x0).setCell ⟨b, 1, none⟩ x1).setCell ⟨b, 2, none⟩ x2).setCell ⟨b, 3, none⟩ x3).setCell ⟨b, 4, none⟩ x4).setCell ⟨b, 5, none⟩ x5).setCell ⟨b, 6, none⟩ x6).heap[b]? = some (.cells #[x0, x1, x2, x3, x4, x5, x6] T (0, 0)) := heap_setCell_same _ _ _ _ _ _ h5
  exact h6
theorem set7_at1 {w : World} {b : Nat} {T : TypeId} {y y0 y1 y2 y3 y4 y5 y6 : Value} (h : w.heap[b]? = some (.cells #[y, y0, y1, y2, y3, y4, y5, y6] T (0, 0))) (x0 x1 x2 x3 x4 x5 x6 : Value) : (set7 w b 1 x0 x1 x2 x3 x4 x5 x6).heap[b]? = some (.cells #[y, x0, x1, x2, x3, x4, x5, x6] T (0, 0)) := by
  have h0 : (w.setCell ⟨b, 1, none⟩ x0).heap[b]? = some (.cells #[y, x0, y1, y2, y3, y4, y5, y6] T (0, 0)) := heap_setCell_same _ _ _ _ _ _ h
  have h1 : ((w.setCell ⟨b, 1, none⟩ x0).setCell ⟨b, 2, none⟩ x1).heap[b]? = some (.cells #[y, x0, x1, y2, y3, y4, y5, y6] T (0, 0)) := heap_setCell_same _ _ _ _ _ _ h0
  have h2 : (((w.setCell ⟨b, 1, none⟩ x0).setCell ⟨b, 2, none⟩ x1).setCell ⟨b, 3, none⟩ x2).heap[b]? = some (.cells #[y, x0, x1, x2, y3, y4, y5, y6] T (0, 0)) := heap_setCell_same _ _ _ _ _ _ h1
  have h3 : ((((w.setCell ⟨b, 1, none⟩ x0).setCell ⟨b, 2, none⟩ x1).setCell ⟨b, 3, none⟩ x2).setCell ⟨b, 4, none⟩ x3).heap[b]? = some (.cells #[y, x0, x1, x2, x3, y4, y5, y6] T (0, 0)) := heap_setCell_same _ _ _ _ _ _ h2
  have h4 : (((((w.setCell ⟨b, 1, none⟩ x0).setCell ⟨b, 2, none⟩ x1).setCell ⟨b, 3, none⟩ x2).setCell ⟨b, 4, none⟩ x3).setCell ⟨b, 5, none⟩ x4).heap[b]? = some (.cells #[y, x0, x1, x2, x3, x4, y5, y6] T (0, 0)) := heap_setCell_same _ _ _ _ _ _ h3
  have h5 : ((((((w.setCell ⟨b, 1, none⟩ x0).setCell ⟨b, 2, none⟩ x1).setCell ⟨b, 3, none⟩ x2).setCell ⟨b, 4, none⟩ x3).setCell ⟨b, 5, none⟩ x4).setCell ⟨b, 6, none⟩ x5).heap[b]? = some (.cells #[y, x0, x1, x2, x3, x4, x5, y6] T (0, 0)) := heap_setCell_same _ _ _ _ _ _ h4
  have h6 : (((((((w.setCell ⟨b, 1, none⟩ x0).setCell ⟨b, 2, none⟩ x1).setCell ⟨b, 3, none⟩ x2).setCell ⟨b, 4, none⟩ x3).setCell ⟨b, 5, none⟩ x4).setCell ⟨b, 6, none⟩ x5).setCell ⟨b, 7, none⟩ x6).heap[b]? = some (.cells #[y, x0, x1, x2, x3, x4, x5, x6] T (0, 0)) := heap_setCell_same _ _ _ _ _ _ h5
  exact h6
theorem set7_ne {w : World} {b o k : Nat} {x0 x1 x2 x3 x4 x5 x6 : Value} (h : k ≠ b) : (set7 w b o x0 x1 x2 x3 x4 x5 x6).heap[k]? = w.heap[k]? :=
  (Below.heap_setCell _ _ _ _ h).trans ((Below.heap_setCell _ _ _ _ h).trans ((Below.heap_setCell _ _ _ _ h).trans ((Below.heap_setCell _ _ _ _ h).trans ((Below.heap_setCell _ _ _ _ h).trans ((Below.heap_setCell _ _ _ _ h).trans (Below.heap_setCell _ _ _ _ h))))))
theorem set7_size {w : World} {b o : Nat} {x0 x1 x2 x3 x4 x5 x6 : Value} : (set7 w b o x0 x1 x2 x3 x4 x5 x6).heap.size = w.heap.size := by
  unfold set7
  simp only [size_setCell]
theorem bel_set7 {w w2 : World} {N b o : Nat} {x0 x1 x2 x3 x4 x5 x6 : Value} (h : Below N w w2) (hb : N ≤ b) : Below N w (set7 w2 b o x0 x1 x2 x3 x4 x5 x6) :=
  ((((((h.setCell (p := ⟨b, o, none⟩) hb x0).setCell (p := ⟨b, o + 1, none⟩) hb x1).setCell (p := ⟨b, o + 2, none⟩) hb x2).setCell (p := ⟨b, o + 3, none⟩) hb x3).setCell (p := ⟨b, o + 4, none⟩) hb x4).setCell (p := ⟨b, o + 5, none⟩) hb x5).setCell (p := ⟨b, o + 6, none⟩) hb x6
/-- a wait's clone -/
def WclP (w : World) (k o a v0 v1 v2 : Int) (e : Ending) (w' : World) : Prop := ∃ va, e = .returned (.agg #[.int .i64 k, .int .i64 o, .int .i64 a, .int .i64 v0, .int .i64 v1, .int .u64 v2, va]) ∧ ArgN w.heap.size w' va ∧ Below w.heap.size w w'
set_option maxRecDepth 20000 in
set_option maxHeartbeats 1000000 in
theorem wclone_any {w : World} {R : Nat → Prop} (k o a v0 v1 v2 : Int) (va : Value) (hA : Args w R va) : Calls Tryd.prog 92 #[.agg #[.int .i64 k, .int .i64 o, .int .i64 a, .int .i64 v0, .int .i64 v1, .int .u64 v2, va]] w (WclP w k o a v0 v1 v2) := by
  obtain ⟨n, xs, hn, hs, h1, hR⟩ := hA
  obtain ⟨aa, ca, e, _⟩ := own_slice hs
  subst e
  have B0 := hide (bel_al (bel_new w (.cells #[.int .i64 k, .int .i64 o, .int .i64 a, .int .i64 v0, .int .i64 v1, .int .u64 v2, .slice aa n ca] 133)) (.cells #[.int .i64 0, .int .i64 0, .int .i64 0, .int .i64 0, .int .i64 0, .int .u64 0, .slice none 0 0] 133))
  have V0 := hide ((Wv.new w k o a v0 v1 v2 (.slice aa n ca)).al (bel_new _ (.cells #[.int .i64 0, .int .i64 0, .int .i64 0, .int .i64 0, .int .i64 0, .int .u64 0, .slice none 0 0] 133)))
  have V1 := hide (Wv.new (w.alloc (.cells #[.int .i64 k, .int .i64 o, .int .i64 a, .int .i64 v0, .int .i64 v1, .int .u64 v2, .slice aa n ca] 133)) 0 0 0 0 0 0 (.slice none 0 0))
  have hsz : (w.alloc (.cells #[.int .i64 k, .int .i64 o, .int .i64 a, .int .i64 v0, .int .i64 v1, .int .u64 v2, .slice aa n ca] 133)).heap.size = w.heap.size + 1 := by simp
  rw [hsz] at V1
  have CL := hide (cloneV2 (own_keep hs (fun k hk => B0.out.block k (own_type hs hk).2.1)) hn h1)
  have H1 := hide h1
  clear hs h1 hR hsz
  go_enter Tryd.func92, Tryd.ntmps92
  go_wp2_with fail
  generalize (w.alloc (.cells #[.int .i64 k, .int .i64 o, .int .i64 a, .int .i64 v0, .int .i64 v1, .int .u64 v2, .slice aa n ca] 133)).alloc (.cells #[.int .i64 0, .int .i64 0, .int .i64 0, .int .i64 0, .int .i64 0, .int .u64 0, .slice none 0 0] 133) = w1 at *
  refine CL.out.mono ?_
  rintro e w2 ⟨a2, c2, rfl, o2, hb⟩
  have X1 := V0.out.al hb
  have X2 := V1.out.al hb
  obtain ⟨q0, q1, q2, q3, q4, q5, q6⟩ := X1.all
  obtain ⟨r0, r1, r2, r3, r4, r5, r6⟩ := X2.all
  have f6 := X1.frz 6
  have g0 := X2.frz 0
  have g1 := X2.frz 1
  have g2 := X2.frz 2
  have g3 := X2.frz 3
  have g4 := X2.frz 4
  have g5 := X2.frz 5
  have g6 := X2.frz 6
  have HX2 := hide X2
  have V1' := hide V1.out
  have B2 := hide (bel_trans B0.out hb)
  have O2 := hide (And.intro o2 B0.out.size)
  clear V0 V1 CL hb X1 X2 o2
  go_wp2_with fail
  have Y := set7_at ((Below.heap_setCell w2 ⟨w.heap.size, 6, none⟩ (.slice a2 n c2) (w.heap.size + 1) (by simp)).trans HX2.out) (.int .i64 k) (.int .i64 o) (.int .i64 a) (.int .i64 v0) (.int .i64 v1) (.int .u64 v2) (.slice a2 n c2)
  refine ret_wt (w.heap.size + 1) (v := (v0, v1, v2)) rfl rfl ⟨_, _, _, rfl⟩ Y rfl ⟨_, rfl, ⟨_, _, _, xs, rfl, hn, ?_, ?_⟩, ?_⟩
  · have hne : ∀ b, b = w.heap.size ∨ b = w.heap.size + 1 → (Value.slice a2 n c2).ownBlock ≠ some b := fun b hb e => by
      have h1 := (own_type O2.out.1 e).1
      have h2 := lt_of_blk HX2.out
      have h3 := lt_of_blk V1'.out
      omega
    exact own_keep (own_low O2.out.1 O2.out.2) fun k hk => (set7_ne (o := 0) (fun e => hne k (.inr e) hk)).trans (Below.heap_setCell _ _ _ _ (fun e => hne k (.inl e) hk))
  · exact H1.out
  · exact bel_set7 (o := 0) (B2.out.setCell (p := ⟨w.heap.size, 6, none⟩) (Nat.le_refl _) _) (Nat.le_succ _)
end Go.Proofs.YtbiilnpblnjliaaDoor.Ck

/- How a run turns in memory; no Go text is walked here. -/
namespace Go.Proofs.YtbiilnpblnjliaaDoor.Ck
open Go.RowKit

theorem ne_of_type {w : World} {b g : Nat} {c c' : Array Value} {T T' : TypeId} (h : w.heap[b]? = some (.cells c T (0, 0))) (h' : w.heap[g]? = some (.cells c' T' (0, 0))) (hT : T ≠ T') : b ≠ g := fun e => by
  subst e
  rw [h] at h'
  have := Option.some.inj h'
  injection this with _ h2 _
  exact hT h2
theorem Ch.wide {F F' G G' : Nat → Prop} {w w' : World} (c : Ch F F' w w') (h1 : ∀ k, F k → G k) (h2 : ∀ k, G' k → G k ∨ w.heap.size ≤ k) : Ch G G' w w' :=
  ⟨c.os, c.tape, c.output, c.size, fun k hk hG => c.blk k hk (fun hF => hG (h1 k hF)), h2⟩
theorem nodup_ne {l : List Nat} (h : l.Nodup) {i j a b : Nat} (hi : l[i]? = some a) (hj : l[j]? = some b) (hij : i ≠ j) : a ≠ b := fun e => by
  subst e
  obtain ⟨h1, e1⟩ := List.getElem?_eq_some_iff.1 hi
  obtain ⟨h2, e2⟩ := List.getElem?_eq_some_iff.1 hj
  have hp := List.pairwise_iff_getElem.1 h
  rcases Nat.lt_or_gt_of_ne hij with h3 | h3
  · exact hp i j h1 h2 h3 (e1.trans e2.symm)
  · exact hp j i h2 h1 h3 (e2.trans e1.symm)
section
variable {w w' : World} {G G' Fs Fs' Fo Fo' R R' F F' : Nat → Prop} {g gs : Nat} {S : List (List Wt)} {r : Rm} {vC vB vG vE : Value} {ps ts : List Nat}
theorem Ru.rn (h : Ru w Fs Fo R g gs S r vC vB vG vE ps ts) : Rn w (fun k => Fs k ∨ Fo k ∨ R k) g S r := ⟨Fs, Fo, R, gs, vC, vB, vG, vE, ps, ts, h, fun _ => Iff.rfl⟩
/-- only block c, of the run's own, has turned: what else is kept -/
theorem Ru.part (h : Ru w Fs Fo R g gs S r vC vB vG vE ps ts) {c : Nat} (hc : Fo c) (ho : ∀ k, k ≠ c → k < w.heap.size → w'.heap[k]? = w.heap[k]?) (hs : w.heap.size ≤ w'.heap.size) :
    (Stt w' Fs gs r.s ∧ Beg w' R vB S) ∧ (∀ k, R k → w'.heap[k]? = w.heap[k]?) ∧ ∀ {T : TypeId} {n : Nat} {v : Value} {len : Nat} {xs : List Value}, w.ownsRow 0 T n v len xs → v.ownBlock ≠ some c → w'.ownsRow 0 T n v len xs := by
  have hR : ∀ k, R k → w'.heap[k]? = w.heap[k]? := fun k hk => ho k (fun e => h.ro k hk (by rw [e]; exact hc)) (h.rb k hk)
  refine ⟨⟨h.st.keep (fun k hk => ho k (fun e => h.so k hk (by rw [e]; exact hc)) (h.st.fb k hk)) hs, h.bg.keep hR fun _ h => h⟩, hR, fun hr hne => own_keep hr fun k hk => ho k (fun e => hne (by rw [hk, e])) (own_type hr hk).2.1⟩
/-- the state turns -/
theorem Ru.state (h : Ru w Fs Fo R g gs S r vC vB vG vE ps ts) {s' : St} (hs : Stt w' Fs' gs s') (hc : Ch Fs Fs' w w') (hC : s'.C.map Qu.t = r.s.C.map Qu.t) : Ru w' Fs' Fo R g gs S { r with s := s' } vC vB vG vE ps ts := by
  have hl : s'.C.length = r.s.C.length := by
    have := congrArg List.length hC
    simpa using this
  have ho : ∀ k, Fo k → w'.heap[k]? = w.heap[k]? := fun k hk => hc.blk k (h.fb k hk) (fun e => h.so k e hk)
  have hR : ∀ k, R k → w'.heap[k]? = w.heap[k]? := fun k hk => hc.blk k (h.rb k hk) (fun e => h.rs k hk e)
  exact { h with
    at_ := (ho g h.fg).trans h.at_
    st := hs
    ch := by
      show w'.ownsRow 0 3 1 vC s'.C.length (nts (s'.C.map Qu.t))
      rw [hC, hl]
      exact own_keep h.ch fun k hk => ho k (h.fC k hk)
    bg := h.bg.keep hR fun _ h => h
    go := own_keep h.go fun k hk => ho k (h.fG k hk)
    ev := own_keep h.ev fun k hk => ho k (h.fE k hk)
    gr := fun i x b t hx hp ht => by
      obtain ⟨h1, h2, h3⟩ := h.gr i x b t hx hp ht
      exact ⟨h1.keep (ho b h2) (ho t h3) hR (fun _ h => h), h2, h3⟩
    so := fun k hk hF => by
      rcases hc.grow k hk with h1 | h1
      · exact h.so k h1 hF
      · have := h.fb k hF
        omega
    rs := fun k hk hF => by
      rcases hc.grow k hF with h1 | h1
      · exact h.rs k hk h1
      · have := h.rb k hk
        omega
    fb := fun k hk => Nat.lt_of_lt_of_le (h.fb k hk) hc.size
    rb := fun k hk => Nat.lt_of_lt_of_le (h.rb k hk) hc.size }
def setEnd (w : World) (g : Nat) (e0 e1 e2 e3 e4 : Int) : World := ((((w.setCell ⟨g, 5, none⟩ (.int .i64 e0)).setCell ⟨g, 6, none⟩ (.int .i64 e1)).setCell ⟨g, 7, none⟩ (.int .i64 e2)).setCell ⟨g, 8, none⟩ (.int .i64 e3)).setCell ⟨g, 9, none⟩ (.int .i64 e4)
theorem setEnd_ne {k : Nat} {e0 e1 e2 e3 e4 : Int} (h : k ≠ g) : (setEnd w g e0 e1 e2 e3 e4).heap[k]? = w.heap[k]? :=
  (Below.heap_setCell _ _ _ _ h).trans ((Below.heap_setCell _ _ _ _ h).trans ((Below.heap_setCell _ _ _ _ h).trans ((Below.heap_setCell _ _ _ _ h).trans (Below.heap_setCell _ _ _ _ h))))
theorem setEnd_size {e0 e1 e2 e3 e4 : Int} : (setEnd w g e0 e1 e2 e3 e4).heap.size = w.heap.size := by
  unfold setEnd
  simp only [size_setCell]
theorem ch_setEnd (hg : Fo g) {e0 e1 e2 e3 e4 : Int} : Ch Fo Fo w (setEnd w g e0 e1 e2 e3 e4) := (ch_set hg _).trans ((ch_set hg _).trans ((ch_set hg _).trans ((ch_set hg _).trans (ch_set hg _))))
theorem set10 {y0 y1 y2 y3 y4 y5 y6 y7 y8 y9 : Value} {T : TypeId} (h : w.heap[g]? = some (.cells #[y0, y1, y2, y3, y4, y5, y6, y7, y8, y9] T (0, 0))) (e0 e1 e2 e3 e4 : Int) :
    (setEnd w g e0 e1 e2 e3 e4).heap[g]? = some (.cells #[y0, y1, y2, y3, y4, .int .i64 e0, .int .i64 e1, .int .i64 e2, .int .i64 e3, .int .i64 e4] T (0, 0)) := by
  have h0 : (w.setCell ⟨g, 5, none⟩ (.int .i64 e0)).heap[g]? = some (.cells #[y0, y1, y2, y3, y4, .int .i64 e0, y6, y7, y8, y9] T (0, 0)) := heap_setCell_same _ _ _ _ _ _ h
  have h1 : ((w.setCell ⟨g, 5, none⟩ (.int .i64 e0)).setCell ⟨g, 6, none⟩ (.int .i64 e1)).heap[g]? = some (.cells #[y0, y1, y2, y3, y4, .int .i64 e0, .int .i64 e1, y7, y8, y9] T (0, 0)) := heap_setCell_same _ _ _ _ _ _ h0
  have h2 : (((w.setCell ⟨g, 5, none⟩ (.int .i64 e0)).setCell ⟨g, 6, none⟩ (.int .i64 e1)).setCell ⟨g, 7, none⟩ (.int .i64 e2)).heap[g]? = some (.cells #[y0, y1, y2, y3, y4, .int .i64 e0, .int .i64 e1, .int .i64 e2, y8, y9] T (0, 0)) := heap_setCell_same _ _ _ _ _ _ h1
  have h3 : ((((w.setCell ⟨g, 5, none⟩ (.int .i64 e0)).setCell ⟨g, 6, none⟩ (.int .i64 e1)).setCell ⟨g, 7, none⟩ (.int .i64 e2)).setCell ⟨g, 8, none⟩ (.int .i64 e3)).heap[g]? = some (.cells #[y0, y1, y2, y3, y4, .int .i64 e0, .int .i64 e1, .int .i64 e2, .int .i64 e3, y9] T (0, 0)) := heap_setCell_same _ _ _ _ _ _ h2
  exact heap_setCell_same _ _ _ _ _ _ h3
theorem Ru.setE (h : Ru w Fs Fo R g gs S r vC vB vG vE ps ts) (e0 e1 e2 e3 e4 : Int) : Ru (setEnd w g e0 e1 e2 e3 e4) Fs Fo R g gs S { r with e := ⟨e0, e1, e2, e3, e4⟩ } vC vB vG vE ps ts := by
  obtain ⟨⟨h1, h2⟩, hR, ho⟩ := h.part (w' := setEnd w g e0 e1 e2 e3 e4) h.fg (fun k hk _ => setEnd_ne hk) (Nat.le_of_eq setEnd_size.symm)
  exact { h with
    at_ := set10 h.at_ e0 e1 e2 e3 e4
    st := h1
    ch := ho h.ch (own_at h.ch h.at_ (by decide))
    bg := h2
    go := ho h.go (own_at h.go h.at_ (by decide))
    ev := ho h.ev (own_at h.ev h.at_ (by decide))
    gr := fun i x b t hx hp ht => by
      obtain ⟨q1, q2, q3⟩ := h.gr i x b t hx hp ht
      obtain ⟨va, vw, z1, z2, z3, z4⟩ := id q1
      exact ⟨q1.keep (setEnd_ne (ne_of_type z1 h.at_ (by decide))) (setEnd_ne (ne_of_type z3 h.at_ (by decide))) hR (fun _ h => h), q2, q3⟩
    fb := fun k hk => by rw [setEnd_size]; exact h.fb k hk
    rb := fun k hk => by rw [setEnd_size]; exact h.rb k hk }
/-- an event more: the events' row has grown, and the run is told where it lies -/
theorem Ru.noted (h : Ru w Fs Fo R g gs S r vC vB vG vE ps ts) {w2 : World} {v' : Value} (e : Evt) (ho : w2.ownsRow 0 75 4 v' (r.ev ++ [e]).length (ecs (r.ev ++ [e]))) (hg : w.grownBy w2 vE.ownBlock) (hb : ∀ k, v'.ownBlock = some k → vE.ownBlock = some k ∨ w.heap.size ≤ k) :
    Ru (w2.setCell ⟨g, 4, none⟩ v') Fs (fun k => Fo k ∨ v'.ownBlock = some k) R g gs S { r with ev := r.ev ++ [e] } vC vB vG v' ps ts ∧ Ch Fo (fun k => Fo k ∨ v'.ownBlock = some k) w (w2.setCell ⟨g, 4, none⟩ v') := by
  have hsz : (w2.setCell ⟨g, 4, none⟩ v').heap.size = w2.heap.size := size_setCell _ _ _
  have hne : ∀ {k : Nat}, k < w.heap.size → vE.ownBlock ≠ some k → k ≠ g → (w2.setCell ⟨g, 4, none⟩ v').heap[k]? = w.heap[k]? := fun {k} hk h1 h2 => (Below.heap_setCell _ _ _ _ h2).trans (hg.block k hk (fun e => h1 e.symm))
  have gne : vE.ownBlock ≠ some g := own_at h.ev h.at_ (by decide)
  have hown : ∀ {T : TypeId} {n : Nat} {v : Value} {len : Nat} {xs : List Value}, w.ownsRow 0 T n v len xs → T ≠ 75 → T ≠ 150 → (w2.setCell ⟨g, 4, none⟩ v').ownsRow 0 T n v len xs := fun {T n v len xs} hr h1 h2 => own_keep hr fun k hk => hne (own_type hr hk).2.1 (fun e => own_apart hr h.ev h1 k hk e) (fun e => own_at hr h.at_ h2 (by rw [hk, e]))
  have hR : ∀ k, R k → (w2.setCell ⟨g, 4, none⟩ v').heap[k]? = w.heap[k]? := fun k hk => hne (h.rb k hk) (fun e => h.ro k hk (h.fE k e)) (fun e => h.ro k hk (by rw [e]; exact h.fg))
  have hS : ∀ k, Fs k → (w2.setCell ⟨g, 4, none⟩ v').heap[k]? = w.heap[k]? := fun k hk => hne (h.st.fb k hk) (fun e => h.so k hk (h.fE k e)) (fun e => h.so k hk (by rw [e]; exact h.fg))
  have hle : w.heap.size ≤ (w2.setCell ⟨g, 4, none⟩ v').heap.size := by rw [hsz]; exact hg.size
  have hnew : ∀ k, v'.ownBlock = some k → Fo k ∨ w.heap.size ≤ k := fun k hk => (hb k hk).imp (h.fE k) id
  refine ⟨{ h with
    at_ := heap_setCell_same _ _ _ _ _ _ ((hg.block g (lt_of_blk h.at_) (fun e => gne e.symm)).trans h.at_)
    st := h.st.keep hS hle
    ch := hown h.ch (by decide) (by decide)
    bg := h.bg.keep hR fun _ h => h
    go := hown h.go (by decide) (by decide)
    ev := own_keep ho fun k hk => Below.heap_setCell _ _ _ _ (fun e => by
      subst e
      rcases hb k hk with h1 | h1
      · exact gne h1
      · have := h.fb k h.fg
        omega)
    gr := fun i x b t hx hp ht => by
      obtain ⟨q1, q2, q3⟩ := h.gr i x b t hx hp ht
      obtain ⟨va, vw, z1, z2, z3, z4⟩ := id q1
      exact ⟨q1.keep (hne (h.fb b q2) (own_at h.ev z1 (by decide)) (ne_of_type z1 h.at_ (by decide))) (hne (h.fb t q3) (own_at h.ev z3 (by decide)) (ne_of_type z3 h.at_ (by decide))) hR (fun _ h => h), .inl q2, .inl q3⟩
    fg := .inl h.fg
    fC := fun k hk => .inl (h.fC k hk)
    fG := fun k hk => .inl (h.fG k hk)
    fE := fun k hk => .inr hk
    so := fun k hk hF => by
      rcases hF with h1 | h1
      · exact h.so k hk h1
      · rcases hnew k h1 with h2 | h2
        · exact h.so k hk h2
        · have := h.st.fb k hk
          omega
    ro := fun k hk hF => by
      rcases hF with h1 | h1
      · exact h.ro k hk h1
      · rcases hnew k h1 with h2 | h2
        · exact h.ro k hk h2
        · have := h.rb k hk
          omega
    fb := fun k hk => by
      rw [hsz]
      rcases hk with h1 | h1
      · exact Nat.lt_of_lt_of_le (h.fb k h1) hg.size
      · exact (own_type ho h1).2.1
    rb := fun k hk => Nat.lt_of_lt_of_le (h.rb k hk) hle }, ⟨hg.os, hg.tape, hg.output, hle, fun k hk hF => hne hk (fun e => hF (h.fE k e)) (fun e => hF (by rw [e]; exact h.fg)), fun k hk => ?_⟩⟩
  rcases hk with h1 | h1
  · exact .inl h1
  · exact hnew k h1
/-- a goroutine's script goes on -/
theorem Ru.moveT (h : Ru w Fs Fo R g gs S r vC vB vG vE ps ts) {i t : Nat} {x : Gr} (hx : r.gs[i]? = some x) (ht : ts[i]? = some t) (vw : Value) (rest : List Wt) (hW : WRow w R vw rest) :
    Ru (w.setCell ⟨t, 0, none⟩ vw) Fs Fo R g gs S { r with gs := r.gs.set i ⟨rest, x.w⟩ } vC vB vG vE ps ts ∧ Ch Fo Fo w (w.setCell ⟨t, 0, none⟩ vw) := by
  have hi := (List.getElem?_eq_some_iff.1 hx).1
  obtain ⟨b, hb⟩ : ∃ b, ps[i]? = some b := ⟨_, List.getElem?_eq_getElem (by rw [h.pl]; exact hi)⟩
  obtain ⟨q1, q2, q3⟩ := h.gr i x b t hx hb ht
  obtain ⟨va, vw0, z1, z2, z3, z4⟩ := id q1
  have hne : ∀ {k : Nat}, k ≠ t → (w.setCell ⟨t, 0, none⟩ vw).heap[k]? = w.heap[k]? := fun hk => Below.heap_setCell _ _ _ _ hk
  have hsz : (w.setCell ⟨t, 0, none⟩ vw).heap.size = w.heap.size := size_setCell _ _ _
  obtain ⟨⟨h1, h2⟩, hR, ho⟩ := h.part (w' := w.setCell ⟨t, 0, none⟩ vw) q3 (fun k hk _ => hne hk) (Nat.le_of_eq hsz.symm)
  refine ⟨{ h with
    at_ := (hne (ne_of_type h.at_ z3 (by decide))).trans h.at_
    st := h1
    ch := ho h.ch (own_at h.ch z3 (by decide))
    bg := h2
    go := by
      show (w.setCell ⟨t, 0, none⟩ vw).ownsRow 0 191 1 vG (r.gs.set i ⟨rest, x.w⟩).length (pts ps)
      rw [List.length_set]
      exact ho h.go (own_at h.go z3 (by decide))
    ev := ho h.ev (own_at h.ev z3 (by decide))
    tl := by simpa using h.tl
    gr := fun j y b' t' hy hp ht' => by
      by_cases e : i = j
      · subst e
        have hy' : some (⟨rest, x.w⟩ : Gr) = some y := by
          rw [← hy]
          exact (List.getElem?_set_self hi).symm
        cases hy'
        rw [hb] at hp
        rw [ht] at ht'
        cases hp
        cases ht'
        exact ⟨⟨va, vw, (hne (ne_of_type z1 z3 (by decide))).trans z1, z2.keep hR fun _ h => h, heap_setCell_same _ _ _ _ _ _ z3, hW.keep hR fun _ h => h⟩, q2, q3⟩
      · have hy' : r.gs[j]? = some y := by
          rw [← hy]
          exact (List.getElem?_set_ne e).symm
        obtain ⟨p1, p2, p3⟩ := h.gr j y b' t' hy' hp ht'
        obtain ⟨va', vw', y1, y2, y3, y4⟩ := id p1
        exact ⟨p1.keep (hne (ne_of_type y1 z3 (by decide))) (hne (nodup_ne h.nt ht' ht (fun e' => e e'.symm))) hR (fun _ h => h), p2, p3⟩
    fb := fun k hk => by rw [hsz]; exact h.fb k hk
    rb := fun k hk => by rw [hsz]; exact h.rb k hk
    n8 := by simpa using h.n8 }, ch_set q3 _⟩
/-- a goroutine has another wait -/
theorem Ru.setW (h : Ru w Fs Fo R g gs S r vC vB vG vE ps ts) {i b : Nat} {x : Gr} (hx : r.gs[i]? = some x) (hb : ps[i]? = some b) (k o a v0 v1 v2 : Int) (va : Value) (hA : Args w R va) :
    Ru (set7 w b 1 (.int .i64 k) (.int .i64 o) (.int .i64 a) (.int .i64 v0) (.int .i64 v1) (.int .u64 v2) va) Fs Fo R g gs S { r with gs := r.gs.set i ⟨x.rest, ⟨k, o, a, (v0, v1, v2)⟩⟩ } vC vB vG vE ps ts ∧ Ch Fo Fo w (set7 w b 1 (.int .i64 k) (.int .i64 o) (.int .i64 a) (.int .i64 v0) (.int .i64 v1) (.int .u64 v2) va) := by
  have hi := (List.getElem?_eq_some_iff.1 hx).1
  obtain ⟨t, ht⟩ : ∃ t, ts[i]? = some t := ⟨_, List.getElem?_eq_getElem (by rw [h.tl]; exact hi)⟩
  obtain ⟨q1, q2, q3⟩ := h.gr i x b t hx hb ht
  obtain ⟨va0, vw0, z1, z2, z3, z4⟩ := id q1
  have hat := set7_at1 z1 (.int .i64 k) (.int .i64 o) (.int .i64 a) (.int .i64 v0) (.int .i64 v1) (.int .u64 v2) va
  have hne : ∀ {j : Nat}, j ≠ b → (set7 w b 1 (.int .i64 k) (.int .i64 o) (.int .i64 a) (.int .i64 v0) (.int .i64 v1) (.int .u64 v2) va).heap[j]? = w.heap[j]? := fun hk => set7_ne hk
  have hsz : (set7 w b 1 (.int .i64 k) (.int .i64 o) (.int .i64 a) (.int .i64 v0) (.int .i64 v1) (.int .u64 v2) va).heap.size = w.heap.size := set7_size
  have hch : Ch Fo Fo w (set7 w b 1 (.int .i64 k) (.int .i64 o) (.int .i64 a) (.int .i64 v0) (.int .i64 v1) (.int .u64 v2) va) := (ch_set q2 _).trans ((ch_set q2 _).trans ((ch_set q2 _).trans ((ch_set q2 _).trans ((ch_set q2 _).trans ((ch_set q2 _).trans (ch_set q2 _))))))
  generalize set7 w b 1 (.int .i64 k) (.int .i64 o) (.int .i64 a) (.int .i64 v0) (.int .i64 v1) (.int .u64 v2) va = W at *
  obtain ⟨⟨h1, h2⟩, hR, ho⟩ := h.part (w' := W) q2 (fun k hk _ => hne hk) (Nat.le_of_eq hsz.symm)
  refine ⟨{ h with
    at_ := (hne (ne_of_type h.at_ z1 (by decide))).trans h.at_
    st := h1
    ch := ho h.ch (own_at h.ch z1 (by decide))
    bg := h2
    go := by
      show W.ownsRow 0 191 1 vG (r.gs.set i ⟨x.rest, ⟨k, o, a, (v0, v1, v2)⟩⟩).length (pts ps)
      rw [List.length_set]
      exact ho h.go (own_at h.go z1 (by decide))
    ev := ho h.ev (own_at h.ev z1 (by decide))
    tl := by simpa using h.tl
    gr := fun j y b' t' hy hp ht' => by
      by_cases e : i = j
      · subst e
        have hy' : some (⟨x.rest, ⟨k, o, a, (v0, v1, v2)⟩⟩ : Gr) = some y := by
          rw [← hy]
          exact (List.getElem?_set_self hi).symm
        cases hy'
        rw [hb] at hp
        rw [ht] at ht'
        cases hp
        cases ht'
        exact ⟨⟨va, vw0, hat, hA.keep hR fun _ h => h, (hne (ne_of_type z3 z1 (by decide))).trans z3, z4.keep hR fun _ h => h⟩, q2, q3⟩
      · have hy' : r.gs[j]? = some y := by
          rw [← hy]
          exact (List.getElem?_set_ne e).symm
        obtain ⟨p1, p2, p3⟩ := h.gr j y b' t' hy' hp ht'
        obtain ⟨va', vw', y1, y2, y3, y4⟩ := id p1
        exact ⟨p1.keep (hne (nodup_ne h.np hp hb (fun e' => e e'.symm))) (hne (ne_of_type y3 z1 (by decide))) hR (fun _ h => h), p2, p3⟩
    fb := fun k hk => by rw [hsz]; exact h.fb k hk
    rb := fun k hk => by rw [hsz]; exact h.rb k hk
    n8 := by simpa using h.n8 }, hch⟩
/-- more that nobody writes -/
theorem Ru.fresh (h : Ru w Fs Fo R g gs S r vC vB vG vE ps ts) (hb : Below w.heap.size w w') (P : Nat → Prop) (hP : ∀ k, P k → w.heap.size ≤ k ∧ k < w'.heap.size) : Ru w' Fs Fo (fun k => R k ∨ P k) g gs S r vC vB vG vE ps ts := by
  have h' := h.bel hb
  exact { h' with
    bg := h'.bg.keep (fun _ _ => rfl) fun _ h => .inl h
    gr := fun i x b t hx hp ht => by
      obtain ⟨q1, q2, q3⟩ := h'.gr i x b t hx hp ht
      exact ⟨q1.keep rfl rfl (fun _ _ => rfl) fun _ h => .inl h, q2, q3⟩
    rs := fun k hk hF => by
      rcases hk with h1 | h1
      · exact h.rs k h1 hF
      · have := h.st.fb k hF
        have := hP k h1
        omega
    ro := fun k hk hF => by
      rcases hk with h1 | h1
      · exact h.ro k h1 hF
      · have := h.fb k hF
        have := hP k h1
        omega
    rb := fun k hk => by
      rcases hk with h1 | h1
      · exact h'.rb k h1
      · exact (hP k h1).2 }
/-- a goroutine more: its blocks b and t are new, the goroutines' row has grown, and the run is told where it lies -/
theorem Ru.born (h : Ru w Fs Fo R g gs S r vC vB vG vE ps ts) {W w2 : World} {v' : Value} {b t : Nat} {x : Gr} (hbW : Below w.heap.size w W) (h8 : r.gs.length + 1 ≤ 8) (hG : Gor W R b t x) (hbn : w.heap.size ≤ b) (htn : w.heap.size ≤ t)
    (ho : w2.ownsRow 0 191 1 v' (r.gs.length + 1) (pts (ps ++ [b]))) (hg : W.grownBy w2 vG.ownBlock) (hb : ∀ k, v'.ownBlock = some k → vG.ownBlock = some k ∨ W.heap.size ≤ k) :
    Ru (w2.setCell ⟨g, 3, none⟩ v') Fs (fun k => Fo k ∨ k = b ∨ k = t ∨ v'.ownBlock = some k) R g gs S { r with gs := r.gs ++ [x] } vC vB v' vE (ps ++ [b]) (ts ++ [t]) ∧ Ch Fo (fun k => Fo k ∨ k = b ∨ k = t ∨ v'.ownBlock = some k) w (w2.setCell ⟨g, 3, none⟩ v') := by
  have hsz : (w2.setCell ⟨g, 3, none⟩ v').heap.size = w2.heap.size := size_setCell _ _ _
  obtain ⟨va, vw, z1, z2, z3, z4⟩ := id hG
  have hW := h.bel hbW
  have gne : vG.ownBlock ≠ some g := own_at h.go h.at_ (by decide)
  have hneW : ∀ {k : Nat}, k < W.heap.size → vG.ownBlock ≠ some k → k ≠ g → (w2.setCell ⟨g, 3, none⟩ v').heap[k]? = W.heap[k]? := fun {k} hk h1 h2 => (Below.heap_setCell _ _ _ _ h2).trans (hg.block k hk (fun e => h1 e.symm))
  have hne : ∀ {k : Nat}, k < w.heap.size → vG.ownBlock ≠ some k → k ≠ g → (w2.setCell ⟨g, 3, none⟩ v').heap[k]? = w.heap[k]? := fun {k} hk h1 h2 => (hneW (Nat.lt_of_lt_of_le hk hbW.size) h1 h2).trans (hbW.block k hk)
  have hown : ∀ {T : TypeId} {n : Nat} {v : Value} {len : Nat} {xs : List Value}, w.ownsRow 0 T n v len xs → T ≠ 191 → T ≠ 150 → (w2.setCell ⟨g, 3, none⟩ v').ownsRow 0 T n v len xs := fun {T n v len xs} hr h1 h2 => own_keep hr fun k hk => hne (own_type hr hk).2.1 (fun e => own_apart hr h.go h1 k hk e) (fun e => own_at hr h.at_ h2 (by rw [hk, e]))
  have hR : ∀ k, R k → (w2.setCell ⟨g, 3, none⟩ v').heap[k]? = w.heap[k]? := fun k hk => hne (h.rb k hk) (fun e => h.ro k hk (h.fG k e)) (fun e => h.ro k hk (by rw [e]; exact h.fg))
  have hRW : ∀ k, R k → (w2.setCell ⟨g, 3, none⟩ v').heap[k]? = W.heap[k]? := fun k hk => hneW (hW.rb k hk) (fun e => h.ro k hk (h.fG k e)) (fun e => h.ro k hk (by rw [e]; exact h.fg))
  have hS : ∀ k, Fs k → (w2.setCell ⟨g, 3, none⟩ v').heap[k]? = w.heap[k]? := fun k hk => hne (h.st.fb k hk) (fun e => h.so k hk (h.fG k e)) (fun e => h.so k hk (by rw [e]; exact h.fg))
  have hle : w.heap.size ≤ (w2.setCell ⟨g, 3, none⟩ v').heap.size := by rw [hsz]; exact Nat.le_trans hbW.size hg.size
  have hbW' : b < W.heap.size := lt_of_blk z1
  have htW' : t < W.heap.size := lt_of_blk z3
  have hgl := h.fb g h.fg
  have hnew : ∀ k, (k = b ∨ k = t ∨ v'.ownBlock = some k) → Fo k ∨ w.heap.size ≤ k := fun k hk => by
    rcases hk with h1 | h1 | h1
    · exact .inr (by omega)
    · exact .inr (by omega)
    · exact (hb k h1).imp (h.fG k) (fun h2 => Nat.le_trans hbW.size h2)
  have hold : ∀ {l : List Nat} {c : Nat}, (∀ k ∈ l, k < w.heap.size) → l.Nodup → w.heap.size ≤ c → (l ++ [c]).Nodup := fun {l c} h1 h2 h3 => by
    rw [List.nodup_append]
    refine ⟨h2, by simp, fun a ha b hb => ?_⟩
    simp at hb
    subst hb
    have := h1 a ha
    omega
  have hgor : ∀ (l : List Nat), (l = ps ∨ l = ts) → ∀ k ∈ l, k < w.heap.size := fun l hl k hk => by
    obtain ⟨j, hj, rfl⟩ := List.mem_iff_getElem.1 hk
    have hj' : j < r.gs.length := by
      rcases hl with rfl | rfl
      · rw [← h.pl]; exact hj
      · rw [← h.tl]; exact hj
    have q := h.gr j _ _ _ (List.getElem?_eq_getElem hj') (List.getElem?_eq_getElem (by rw [h.pl]; exact hj')) (List.getElem?_eq_getElem (by rw [h.tl]; exact hj'))
    rcases hl with rfl | rfl
    · exact h.fb _ q.2.1
    · exact h.fb _ q.2.2
  refine ⟨{ h with
    at_ := heap_setCell_same _ _ _ _ _ _ ((hg.block g (lt_of_blk hW.at_) (fun e => gne e.symm)).trans hW.at_)
    st := h.st.keep hS hle
    ch := hown h.ch (by decide) (by decide)
    bg := h.bg.keep hR fun _ h => h
    go := by
      show (w2.setCell ⟨g, 3, none⟩ v').ownsRow 0 191 1 v' (r.gs ++ [x]).length (pts (ps ++ [b]))
      rw [List.length_append, List.length_singleton]
      exact own_keep ho fun k hk => Below.heap_setCell _ _ _ _ (fun e => by
        subst e
        rcases hb k hk with h1 | h1
        · exact gne h1
        · have := hbW.size
          have : k < w.heap.size := hgl
          omega)
    ev := hown h.ev (by decide) (by decide)
    tl := by simpa using h.tl
    gr := fun j y b' t' hy hp ht' => by
      by_cases e : j < r.gs.length
      · have hy' : r.gs[j]? = some y := by rw [← hy]; exact (List.getElem?_append_left e).symm
        have hp' : ps[j]? = some b' := by rw [← hp]; exact (List.getElem?_append_left (by rw [h.pl]; exact e)).symm
        have ht'' : ts[j]? = some t' := by rw [← ht']; exact (List.getElem?_append_left (by rw [h.tl]; exact e)).symm
        obtain ⟨p1, p2, p3⟩ := h.gr j y b' t' hy' hp' ht''
        obtain ⟨va', vw', y1, y2, y3, y4⟩ := id p1
        exact ⟨p1.keep (hne (h.fb b' p2) (own_at h.go y1 (by decide)) (ne_of_type y1 h.at_ (by decide))) (hne (h.fb t' p3) (own_at h.go y3 (by decide)) (ne_of_type y3 h.at_ (by decide))) hR (fun _ h => h), .inl p2, .inl p3⟩
      · have hj : j = r.gs.length := by
          have := (List.getElem?_eq_some_iff.1 hy).1
          simp at this
          omega
        subst hj
        have hy' : some x = some y := by rw [← hy]; simp
        have hp' : some b = some b' := by rw [← hp, ← h.pl]; simp
        have ht'' : some t = some t' := by rw [← ht', ← h.tl]; simp
        cases hy'
        cases hp'
        cases ht''
        exact ⟨hG.keep (hneW hbW' (own_at hW.go z1 (by decide)) (by omega)) (hneW htW' (own_at hW.go z3 (by decide)) (by omega)) hRW (fun _ h => h), .inr (.inl rfl), .inr (.inr (.inl rfl))⟩
    np := hold (hgor ps (.inl rfl)) h.np hbn
    nt := hold (hgor ts (.inr rfl)) h.nt htn
    fg := .inl h.fg
    fC := fun k hk => .inl (h.fC k hk)
    fG := fun k hk => .inr (.inr (.inr hk))
    fE := fun k hk => .inl (h.fE k hk)
    so := fun k hk hF => by
      rcases hF with h1 | h1
      · exact h.so k hk h1
      · rcases hnew k h1 with h2 | h2
        · exact h.so k hk h2
        · have := h.st.fb k hk
          omega
    ro := fun k hk hF => by
      rcases hF with h1 | h1
      · exact h.ro k hk h1
      · rcases hnew k h1 with h2 | h2
        · exact h.ro k hk h2
        · have := h.rb k hk
          omega
    fb := fun k hk => by
      rw [hsz]
      rcases hk with h1 | h1 | h1 | h1
      · exact Nat.lt_of_lt_of_le (Nat.lt_of_lt_of_le (h.fb k h1) hbW.size) hg.size
      · rw [h1]; exact Nat.lt_of_lt_of_le hbW' hg.size
      · rw [h1]; exact Nat.lt_of_lt_of_le htW' hg.size
      · exact (own_type ho h1).2.1
    rb := fun k hk => Nat.lt_of_lt_of_le (h.rb k hk) hle
    n8 := by simpa using h8 }, ⟨hg.os.trans hbW.os, hg.tape.trans hbW.tape, hg.output.trans hbW.output, hle, fun k hk hF => hne hk (fun e => hF (h.fG k e)) (fun e => hF (by rw [e]; exact h.fg)), fun k hk => ?_⟩⟩
  rcases hk with h1 | h1
  · exact .inl h1
  · exact hnew k h1
end
/-- a call on a run: what it answers, and the run behind it -/
def RnP (w : World) (G : Nat → Prop) (g : Nat) (S : List (List Wt)) (r' : Rm) (v : Value) (e : Ending) (w' : World) : Prop := e = .returned v ∧ ∃ G', Rn w' G' g S r' ∧ Ch G G' w w'
theorem RnP.mk {w w' : World} {G G' : Nat → Prop} {g : Nat} {S : List (List Wt)} {r' : Rm} {v v' : Value} (hv : v = v') (h : Rn w' G' g S r') (hc : Ch G G' w w') : RnP w G g S r' v' (.returned v) w' := ⟨by rw [hv], G', h, hc⟩
end Go.Proofs.YtbiilnpblnjliaaDoor.Ck

/- Package act: faults, notes. (Written by mk_a.py.) -/
namespace Go.Proofs.YtbiilnpblnjliaaDoor.Ck
open Go.RowKit

section
variable {w w' : World} {G Fs Fo Fo' R : Nat → Prop} {g gs : Nat} {S : List (List Wt)} {r r' : Rm} {vC vB vG vE vC' vB' vG' vE' : Value} {ps ts ps' ts' : List Nat}
theorem ru_wide (hG : ∀ k, G k ↔ Fs k ∨ Fo k ∨ R k) (h' : Ru w' Fs Fo' R g gs S r' vC' vB' vG' vE' ps' ts') (c : Ch Fo Fo' w w') : Rn w' (fun k => Fs k ∨ Fo' k ∨ R k) g S r' ∧ Ch G (fun k => Fs k ∨ Fo' k ∨ R k) w w' := by
  refine ⟨h'.rn, c.wide (fun k hk => (hG k).2 (.inr (.inl hk))) fun k hk => ?_⟩
  rcases hk with h1 | h1 | h1
  · exact .inl ((hG k).2 (.inl h1))
  · rcases c.grow k h1 with h2 | h2
    · exact .inl ((hG k).2 (.inr (.inl h2)))
    · exact .inr h2
  · exact .inl ((hG k).2 (.inr (.inr h1)))
end
theorem info_ev : (Tryd.prog.info? 75).map (fun i => (i.zero, i.size, i.bytes)) = some (some (.agg #[.int .i64 0, .int .i64 0, .int .i64 0, .int .i64 0]), 4, 32) := by kernel_rfl
theorem ecs_one (l : List Evt) : ∀ u ∈ ecs l, u.oneCell' = true := by
  induction l with
  | nil => intro u h; simp [ecs] at h
  | cons v l ih =>
    intro u h
    simp only [ecs, List.mem_cons] at h
    rcases h with rfl | rfl | rfl | rfl | h
    · rfl
    · rfl
    · rfl
    · rfl
    · exact ih u h
theorem push_e {w : World} {vq : Value} {l : List Evt} {n : Nat} (hn : n = l.length) (oq : w.ownsRow 0 75 4 vq n (ecs l)) (hl : l.length ≤ 100000) (e : Evt) (ty : TypeId) :
    ∃ v' w', (Builtin.append_ #[72, 72] ty #[vq, .slice (some ⟨w.heap.size, 0, none⟩) 1 1]).run Tryd.prog (w.alloc (.cells #[.int .i64 e.g, .int .i64 e.k, .int .i64 e.o, .int .i64 e.a] 75)) = .ok v' w' ∧
      (w'.ownsRow 0 75 4 v' (n + 1) (ecs (l ++ [e])) ∧ w.grownBy w' vq.ownBlock ∧ (∀ k, v'.ownBlock = some k → vq.ownBlock = some k ∨ w.heap.size ≤ k)) := by
  obtain ⟨ie, hi, hz0, hz1, hz2⟩ := info_parts info_ev
  have hb := bel_new w (.cells #[.int .i64 e.g, .int .i64 e.k, .int .i64 e.o, .int .i64 e.a] 75)
  have o1 := own_keep oq (fun k hk => hb.block k (own_type oq hk).2.1)
  have hc : ∀ (j : Nat) (u : Value), (ecs [e])[j]? = some u → (w.alloc (.cells #[.int .i64 e.g, .int .i64 e.k, .int .i64 e.o, .int .i64 e.a] 75)).cell? ((⟨w.heap.size, 0, none⟩ : Addr).add j) = some u := fun j u hu => by
    rw [show (⟨w.heap.size, 0, none⟩ : Addr).add j = ⟨w.heap.size, j, none⟩ by unfold Addr.add; by_cases h : j = 0 <;> simp [h]]
    exact blk_cell (Go.Deep.blk_alloc_new w _) j u (by simpa [ecs] using hu)
  obtain ⟨v', w', hr, ho, hg, _, hat⟩ := run_append_own_at (P := Tryd.prog) (w.alloc (.cells #[.int .i64 e.g, .int .i64 e.k, .int .i64 e.o, .int .i64 e.a] 75)) 0 72 ty 75 ie _ 4 32 Tryd.underlying72 hi hz0 hz1 hz2 rfl (by decide) vq n (ecs l) o1 ⟨w.heap.size, 0, none⟩ 1 1 (ecs [e]) rfl hc (ecs_one _) (by unfold maxLen; omega) (by omega) (Nat.zero_le _)
  refine ⟨v', w', hr, by rw [ecs_app]; exact ho, ⟨hg.os, hg.tape, hg.output, Nat.le_trans hb.size hg.size, fun k hk hne => (hg.block k (Nat.lt_of_lt_of_le hk hb.size) hne).trans (hb.block k hk)⟩, fun k hk => ?_⟩
  rcases hat with e | e
  · exact .inl (e.symm.trans hk)
  · rw [e] at hk
    right
    have := Option.some.inj hk
    simp at this
    omega
def evC (e : Evt) : Obj := .cells #[.int .i64 e.g, .int .i64 e.k, .int .i64 e.o, .int .i64 e.a] 75
theorem push_run {w : World} {Fs Fo R : Nat → Prop} {g gs : Nat} {S : List (List Wt)} {r : Rm} {vC vB vG vE : Value} {ps ts : List Nat} (h : Ru w Fs Fo R g gs S r vC vB vG vE ps ts) (hl : r.ev.length ≤ 100000) (e : Evt) (ty : TypeId) :
    ∃ v' w', (Builtin.append_ #[72, 72] ty #[vE, .slice (some ⟨w.heap.size, 0, none⟩) 1 1]).run Tryd.prog (w.alloc (.cells #[.int .i64 e.g, .int .i64 e.k, .int .i64 e.o, .int .i64 e.a] 75)) = .ok v' w' ∧
      ((∃ a l c, v' = .slice a l c) ∧ w'.frozen? ⟨g, 4, none⟩ = false ∧ w'.cell? ⟨g, 4, none⟩ = some vE ∧ ∃ Fo', Ru (w'.setCell ⟨g, 4, none⟩ v') Fs Fo' R g gs S { r with ev := r.ev ++ [e] } vC vB vG v' ps ts ∧ Ch Fo Fo' w (w'.setCell ⟨g, 4, none⟩ v')) := by
  obtain ⟨v', w', hr, ho, hg, hf⟩ := push_e rfl h.ev hl e ty
  have hgb : w'.heap[g]? = w.heap[g]? := hg.block g (lt_of_blk h.at_) (fun e => own_at h.ev h.at_ (by decide) e.symm)
  obtain ⟨a, c, e', _⟩ := own_slice ho
  have hn := h.noted e (by rw [List.length_append]; exact ho) hg hf
  exact ⟨v', w', hr, ⟨_, _, _, e'⟩, blk_frz (hgb.trans h.at_) _, blk_cell (hgb.trans h.at_) 4 _ rfl, _, hn.1, hn.2⟩
set_option maxRecDepth 20000 in
set_option maxHeartbeats 1000000 in
theorem fault_any {w : World} {G : Nat → Prop} {g : Nat} {S : List (List Wt)} {r : Rm} (h : Rn w G g S r) (i : Int) (f n a : Int) : Calls Tryd.prog 90 #[.pointer (some ⟨g, 0, none⟩), .int .i64 i, .agg #[.int .i64 f, .int .i64 n, .int .i64 a]] w (RnP w G g S { r with e := ⟨3, f, i, n, a⟩ } (.tuple #[])) := by
  obtain ⟨Fs, Fo, R, gs, vC, vB, vG, vE, ps, ts, h, hG⟩ := h
  have B0 := bel_new w (.cells #[.int .i64 f, .int .i64 n, .int .i64 a] 173)
  have h1 := h.bel B0
  have HE := hide (ru_wide hG (h1.setE 3 f i n a) (ch_setEnd h1.fg))
  obtain ⟨_, c5, c6, c7, c8, c9⟩ := h1.cells
  have f5 := blk_frz h1.at_ 5
  have f6 := blk_frz h1.at_ 6
  have f7 := blk_frz h1.at_ 7
  have f8 := blk_frz h1.at_ 8
  have f9 := blk_frz h1.at_ 9
  have HB := hide B0
  have HC := hide (And.intro c5 (And.intro c6 (And.intro c7 (And.intro c8 (And.intro c9 (And.intro f5 (And.intro f6 (And.intro f7 (And.intro f8 f9)))))))))
  have HV := hide (Go.Deep.blk_alloc_new w (.cells #[.int .i64 f, .int .i64 n, .int .i64 a] 173))
  clear h h1 hG B0 c5 c6 c7 c8 c9 f5 f6 f7 f8 f9
  go_enter Tryd.func90, Tryd.ntmps90
  go_upto_region 1 with fail
  generalize w.alloc (.cells #[.int .i64 f, .int .i64 n, .int .i64 a] 173) = w1 at *
  obtain ⟨c5, c6, c7, c8, c9, f5, f6, f7, f8, f9⟩ := HC.out
  have q0 := blk_cell HV.out 0 _ rfl
  have q1 := blk_cell HV.out 1 _ rfl
  have q2 := blk_cell HV.out 2 _ rfl
  go_wp2_with fail
  go_end0
  exact RnP.mk rfl HE.out.1 ((Ch.of_bel HB.out).trans HE.out.2)
end Go.Proofs.YtbiilnpblnjliaaDoor.Ck
