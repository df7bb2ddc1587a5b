/- Texts of this proof, packed: contracts of the program's functions, and the plain model that they are held against. -/
import Derived.Test.YtbiilnpblnjliaaDoorQat
import Derived.Test.YtbiilnpblnjliaaDoorQap
/- Package act: an EvGo. (Written by mk_a.py.) -/
namespace Go.Proofs.YtbiilnpblnjliaaDoor.Ck
open Go.RowKit

theorem set_gs (r : Rm) (l : List Gr) : ({ { r with gs := l } with gs := r.gs } : Rm) = r := rfl
theorem ask_any {w : World} {G : Nat → Prop} {g : Nat} {S : List (List Wt)} {r : Rm} (h : Rn w G g S r) (i : Nat) (x : Gr) (hx : r.gs[i]? = some x) (j0 j1 j2 : Int) : Calls Tryd.prog 89 #[.pointer (some ⟨g, 0, none⟩), .int .i64 (i : Nat), .agg #[.int .i64 j0, .int .i64 j1, .int .u64 j2]] w (RnP w G g S (askR r i).1 (.bool (askR r i).2)) := by
  have hi : i < r.gs.length := (List.getElem?_eq_some_iff.1 hx).1
  cases hr : x.rest with
  | nil =>
    have e : askR r i = ({ r with gs := r.gs.set i ⟨x.rest, ⟨12, 0, 0, (0, 0, 0)⟩⟩ }, true) := by
      unfold askR
      rw [hx]
      simp only [hr, nextR]
      rfl
    rw [e]
    exact ask_ok h i x hx j0 j1 j2 12 0 0 0 0 0 0 0 0 r (fun W Fs Fo R gs vC vB vG vE ps ts t hU hG ht => next_nil hU hG i t x hx ht hr j0 j1 j2) rfl x hx
  | cons y l =>
    obtain ⟨yk, yo, ya, y0, y1, y2⟩ := y
    have hx' : (r.gs.set i (⟨l, x.w⟩ : Gr))[i]? = some ⟨l, x.w⟩ := List.getElem?_set_self hi
    by_cases hk : yk = 0
    · subst hk
      have e : askR r i = ({ { r with gs := r.gs.set i ⟨l, x.w⟩ } with e := ⟨3, 7, i, y1, ya⟩ }, false) := by
        unfold askR
        rw [hx]
        simp only [hr, nextR]
        rfl
      rw [e]
      exact ask_halt h i x hx j0 j1 j2 0 0 0 0 0 0 7 y1 ya { r with gs := r.gs.set i ⟨l, x.w⟩ } (fun W Fs Fo R gs vC vB vG vE ps ts t hU hG ht => next_halt hU hG i t x hx ht ⟨0, yo, ya, (y0, y1, y2)⟩ l hr rfl j0 j1 j2) (by decide)
    · have e : askR r i = ({ r with gs := (r.gs.set i ⟨l, x.w⟩).set i ⟨l, ⟨yk, yo, ya, (y0, y1, y2)⟩⟩ }, true) := by
        unfold askR
        rw [hx]
        simp only [hr, nextR, if_neg hk, List.set_set]
        rfl
      rw [e]
      exact ask_ok h i x hx j0 j1 j2 yk yo ya y0 y1 y2 0 0 0 { r with gs := r.gs.set i ⟨l, x.w⟩ } (fun W Fs Fo R gs vC vB vG vE ps ts t hU hG ht => next_wait hU hG i t x hx ht ⟨yk, yo, ya, (y0, y1, y2)⟩ l hr hk j0 j1 j2) rfl ⟨l, x.w⟩ hx'
theorem Ch.keepB {G G' : Nat → Prop} {w w' : World} {b : Nat} (c : Ch G G' w w') (hn : ¬ G b) (hl : b < w.heap.size) : w'.heap[b]? = w.heap[b]? ∧ ¬ G' b ∧ b < w'.heap.size :=
  ⟨c.blk b hl hn, fun h => by
    rcases c.grow b h with h1 | h1
    · exact hn h1
    · omega, Nat.lt_of_lt_of_le hl c.size⟩
theorem ask_gs (r : Rm) (i : Nat) : (askR r i).1.gs.length = r.gs.length := by
  unfold askR
  split
  · split <;> simp [faultR]
  · rfl
theorem note_gs (r : Rm) (i : Nat) (o : Int) : (noteR r i o).gs = r.gs := by
  unfold noteR
  split <;> rfl
theorem note_len (r : Rm) (i : Nat) (o : Int) : (noteR r i o).ev.length ≤ r.ev.length + 1 := by
  unfold noteR
  split <;> simp
set_option maxRecDepth 20000 in
set_option maxHeartbeats 1000000 in
theorem split_any {w : World} {G : Nat → Prop} {g : Nat} {S : List (List Wt)} {r : Rm} (h : Rn w G g S r) (i : Nat) (x : Gr) (hx : r.gs[i]? = some x) (hl : r.ev.length ≤ 90000) (k o a v0 v1 v2 : Int) (aa : Option Addr) (na ca : Nat) (R0 : Nat → Prop) (hA : Args w R0 (.slice aa na ca)) :
    Calls Tryd.prog 106 #[.pointer (some ⟨g, 0, none⟩), .int .i64 (i : Nat), .agg #[.int .i64 k, .int .i64 o, .int .i64 a, .int .i64 v0, .int .i64 v1, .int .u64 v2, .slice aa na ca]] w (RnP w G g S (splitR S r i ⟨k, o, a, (v0, v1, v2)⟩) (.tuple #[])) := by
  have B0 := hide (bel_new w (.cells #[.int .i64 k, .int .i64 o, .int .i64 a, .int .i64 v0, .int .i64 v1, .int .u64 v2, .slice aa na ca] 133))
  have V0 := hide (Wv.new w k o a v0 v1 v2 (.slice aa na ca))
  have HR := hide (h.bel B0.out)
  have NG : Hid (¬ G w.heap.size) := hide (fun hG => absurd (h.fb _ hG) (by omega))
  have HA : Hid (Args (w.alloc (.cells #[.int .i64 k, .int .i64 o, .int .i64 a, .int .i64 v0, .int .i64 v1, .int .u64 v2, .slice aa na ca] 133)) (fun _ => True) (.slice aa na ca)) := hide (by
    obtain ⟨n, xs, q1, q2, q3, q4⟩ := hA
    exact ⟨n, xs, q1, own_keep q2 (fun k hk => B0.out.block k (own_type q2 hk).2.1), q3, fun _ _ => trivial⟩)
  have hn8 : r.gs.length ≤ 8 := by
    obtain ⟨_, _, _, _, _, _, _, _, _, _, h', _⟩ := h
    exact h'.n8
  obtain ⟨n, hn⟩ : ∃ n, n = r.gs.length := ⟨_, rfl⟩
  have c3 : ∃ aG cG, (w.alloc (.cells #[.int .i64 k, .int .i64 o, .int .i64 a, .int .i64 v0, .int .i64 v1, .int .u64 v2, .slice aa na ca] 133)).cell? ⟨g, 3, none⟩ = some (.slice aG n cG) := by
    obtain ⟨_, _, _, _, _, _, _, _, _, _, h', _⟩ := HR.out
    obtain ⟨aG, cG, e, _⟩ := own_slice h'.go
    have := h'.cells.1.2.2.2.1
    rw [e, ← hn] at this
    exact ⟨aG, cG, this⟩
  obtain ⟨aG, cG, c3⟩ := c3
  have HC3 := hide c3
  rw [← hn] at hn8
  unfold splitR
  have HX := hide hx
  have HL := hide hl
  have HN := hide hn
  simp only
  clear h hA c3 hx hl
  by_cases h8 : n = 8
  · subst h8
    have e8 : (8 ≤ r.gs.length) = True := by simp; omega
    rw [if_pos (by omega)]
    clear e8 hn
    go_enter Tryd.func106, Tryd.ntmps106
    go_upto_region 1 with fail
    generalize w.alloc (.cells #[.int .i64 k, .int .i64 o, .int .i64 a, .int .i64 v0, .int .i64 v1, .int .u64 v2, .slice aa na ca] 133) = w1 at *
    have c3 := HC3.out
    obtain ⟨q0, q1, q2, q3, q4, q5, q6⟩ := V0.out.all
    go_wp2_with fail
    refine (fault_any HR.out i 5 0 a).mono ?_
    rintro e w2 ⟨rfl, G2, r2, c2⟩
    have Z := hide (And.intro r2 ((Ch.of_bel B0.out).trans c2))
    clear r2 c2
    go_wp2_with fail
    go_end0
    exact RnP.mk rfl Z.out.1 Z.out.2
  · rw [if_neg (by omega)]
    have h8' : decide ((8 : Int) ≤ (n : Int)) = false := by simp; omega
    have h8'' : decide (8 ≤ n) = false := by simp; omega
    have h8i : (n : Int) < 8 := by omega
    unfold enterR
    cases hl : lk S o with
    | none =>
      have EN := hide (enter_none HR.out o HA.out hl)
      simp only
      clear hl hn h8
      go_enter Tryd.func106, Tryd.ntmps106
      go_upto_region 1 with fail
      generalize w.alloc (.cells #[.int .i64 k, .int .i64 o, .int .i64 a, .int .i64 v0, .int .i64 v1, .int .u64 v2, .slice aa na ca] 133) = w1 at *
      have c3 := HC3.out
      obtain ⟨q0, q1, q2, q3, q4, q5, q6⟩ := V0.out.all
      go_wp2_with fail
      refine EN.out.mono ?_
      rintro e w2 ⟨rfl, G2, r2, c2⟩
      obtain ⟨k2, n2, l2⟩ := c2.keepB NG.out V0.out.lt
      have V2 : Wv w2 w.heap.size k o a (v0, v1, v2) (.slice aa na ca) := k2.trans V0.out
      have FA := hide (fault_any r2 i 5 0 a)
      have C2 := hide ((Ch.of_bel B0.out).trans c2)
      clear r2 c2 k2 n2 q0 q1 q2 q3 q4 q5 q6 EN
      obtain ⟨q0, q1, q2, q3, q4, q5, q6⟩ := V2.all
      go_wp2_with fail
      refine FA.out.mono ?_
      rintro e w3 ⟨rfl, G3, r3, c3'⟩
      have Z := hide (And.intro r3 (C2.out.trans c3'))
      clear r3 c3' FA
      go_wp2_with fail
      go_end0
      exact RnP.mk rfl Z.out.1 Z.out.2
    | some l =>
      have EN := hide (enter_some HR.out o HA.out l hl (by omega))
      simp only
      have hxa : Hid ((r.gs ++ [(⟨l, zW⟩ : Gr)])[i]? = some x) := hide (by rw [List.getElem?_append_left (List.getElem?_eq_some_iff.1 HX.out).1]; exact HX.out)
      have hxn : Hid ((r.gs ++ [(⟨l, zW⟩ : Gr)])[n]? = some ⟨l, zW⟩) := hide (by rw [hn]; simp)
      have hne : Hid (i ≠ n) := hide (by have := (List.getElem?_eq_some_iff.1 HX.out).1; omega)
      rw [← hn]
      obtain ⟨r1, hr1⟩ : ∃ r1, r1 = ({ r with gs := r.gs ++ [⟨l, zW⟩] } : Rm) := ⟨_, rfl⟩
      rw [← hr1] at EN ⊢
      have hg1 : Hid (r1.gs = r.gs ++ [⟨l, zW⟩] ∧ r1.ev = r.ev) := hide (by rw [hr1]; exact ⟨rfl, rfl⟩)
      obtain ⟨r2, hr2⟩ : ∃ r2, r2 = noteR r1 i (n : Nat) := ⟨_, rfl⟩
      rw [← hr2]
      have hg2 : Hid (r2.gs = r1.gs) := hide (by rw [hr2]; exact note_gs _ _ _)
      obtain ⟨q, hq⟩ : ∃ q, askR r2 i = q := ⟨_, rfl⟩
      have hq3 : Hid (∃ y, q.1.gs[n]? = some y) := hide ⟨_, List.getElem?_eq_getElem (by rw [← hq, ask_gs, hg2.out, hg1.out.1]; simp; omega)⟩
      rw [hq]
      have HQ := hide hq
      have HR2 := hide hr2
      clear hl hn h8 hr1 hr2 hq
      obtain ⟨r3, bq⟩ := q
      go_enter Tryd.func106, Tryd.ntmps106
      go_upto_region 1 with fail
      generalize w.alloc (.cells #[.int .i64 k, .int .i64 o, .int .i64 a, .int .i64 v0, .int .i64 v1, .int .u64 v2, .slice aa na ca] 133) = w1 at *
      have c3 := HC3.out
      obtain ⟨q0, q1, q2, q3, q4, q5, q6⟩ := V0.out.all
      go_wp2_with fail
      refine EN.out.mono ?_
      rintro e w2 ⟨rfl, G2, rn2, c2⟩
      have NO := hide (note_any rn2 i x (by rw [hg1.out.1]; exact hxa.out) (n : Nat) (by rw [hg1.out.2]; have := HL.out; omega))
      rw [← HR2.out] at NO
      have C2 := hide ((Ch.of_bel B0.out).trans c2)
      clear rn2 c2 EN q0 q1 q2 q3 q4 q5 q6 c3
      go_wp2_with fail
      refine NO.out.mono ?_
      rintro e w3 ⟨rfl, G3, rn3, c3⟩
      have AK := hide (ask_any rn3 i x (by rw [hg2.out, hg1.out.1]; exact hxa.out) 0 0 0)
      rw [HQ.out] at AK
      have C3 := hide (C2.out.trans c3)
      clear rn3 c3 NO C2
      go_wp2_with fail
      refine AK.out.mono ?_
      rintro e w4 ⟨rfl, G4, rn4, c4⟩
      have C4 := hide (And.intro rn4 (C3.out.trans c4))
      clear rn4 c4 AK C3
      cases bq with
      | true =>
        obtain ⟨y, hy⟩ := hq3.out
        have AK := hide (ask_any C4.out.1 n y hy 0 0 0)
        clear hy
        go_wp2_with fail
        refine AK.out.mono ?_
        rintro e w5 ⟨rfl, G5, rn5, c5⟩
        have C5 := hide (And.intro rn5 (C4.out.2.trans c5))
        clear rn5 c5 AK C4
        go_wp2_with fail
        go_end0
        exact RnP.mk rfl C5.out.1 C5.out.2
      | false =>
        go_wp2_with fail
        go_end0
        exact RnP.mk rfl C4.out.1 C4.out.2
end Go.Proofs.YtbiilnpblnjliaaDoor.Ck

/- Package act: a wait's call of layer 11 (places, mutexes). (Written by mk_b.py.) -/
namespace Go.Proofs.YtbiilnpblnjliaaDoor.Ck
open Go.RowKit

set_option maxRecDepth 20000 in
set_option maxHeartbeats 1000000 in
theorem share_1 {w : World} {F : Nat → Prop} {g : Nat} {s : St} {p : List Addr} (h : Stt w F g s) (h17 : E2 w p) (a v0 v1 v2 : Int) (aa : Option Addr) (na ca : Nat) (i : Nat) (x : V3) (hx : s.P[i]? = some x) : Calls Tryd.prog 109 #[.pointer (some ⟨g, 0, none⟩), .agg #[.int .i64 1, .int .i64 (i : Nat), .int .i64 a, .int .i64 v0, .int .i64 v1, .int .u64 v2, .slice aa na ca]] w (Sp w F g (s) (.agg #[.int .i64 x.1, .int .i64 x.2.1, .int .u64 x.2.2])) := by
  have B1 : Hid (Below w.heap.size w (((w.alloc (.cells #[.int .i64 1, .int .i64 (i : Nat), .int .i64 a, .int .i64 v0, .int .i64 v1, .int .u64 v2, .slice aa na ca] 133)).alloc (.cells #[.int .i64 0, .int .i64 0, .int .u64 0] 41)).alloc (.cells #[.int .i64 0, .int .i64 0, .int .u64 0] 41))) := hide (bel_al (bel_al (bel_new w _) _) _)
  have hs1 : (w.alloc (.cells #[.int .i64 1, .int .i64 (i : Nat), .int .i64 a, .int .i64 v0, .int .i64 v1, .int .u64 v2, .slice aa na ca] 133)).heap.size = w.heap.size + 1 := by simp
  have hs2 : ((w.alloc (.cells #[.int .i64 1, .int .i64 (i : Nat), .int .i64 a, .int .i64 v0, .int .i64 v1, .int .u64 v2, .slice aa na ca] 133)).alloc (.cells #[.int .i64 0, .int .i64 0, .int .u64 0] 41)).heap.size = w.heap.size + 1 + 1 := by simp
  have Y1 : Hid (Val (((w.alloc (.cells #[.int .i64 1, .int .i64 (i : Nat), .int .i64 a, .int .i64 v0, .int .i64 v1, .int .u64 v2, .slice aa na ca] 133)).alloc (.cells #[.int .i64 0, .int .i64 0, .int .u64 0] 41)).alloc (.cells #[.int .i64 0, .int .i64 0, .int .u64 0] 41)) (w.heap.size + 1) 0 0 0) := hide (by
    have e1 := Val.new (w.alloc (.cells #[.int .i64 1, .int .i64 (i : Nat), .int .i64 a, .int .i64 v0, .int .i64 v1, .int .u64 v2, .slice aa na ca] 133)) 0 0 0
    rw [hs1] at e1
    exact e1.al (bel_new _ _))
  have Y2 : Hid (Val (((w.alloc (.cells #[.int .i64 1, .int .i64 (i : Nat), .int .i64 a, .int .i64 v0, .int .i64 v1, .int .u64 v2, .slice aa na ca] 133)).alloc (.cells #[.int .i64 0, .int .i64 0, .int .u64 0] 41)).alloc (.cells #[.int .i64 0, .int .i64 0, .int .u64 0] 41)) (w.heap.size + 1 + 1) 0 0 0) := hide (by
    have e1 := Val.new ((w.alloc (.cells #[.int .i64 1, .int .i64 (i : Nat), .int .i64 a, .int .i64 v0, .int .i64 v1, .int .u64 v2, .slice aa na ca] 133)).alloc (.cells #[.int .i64 0, .int .i64 0, .int .u64 0] 41)) 0 0 0
    rw [hs2] at e1
    exact e1)
  have Y0 : Hid (Wv (((w.alloc (.cells #[.int .i64 1, .int .i64 (i : Nat), .int .i64 a, .int .i64 v0, .int .i64 v1, .int .u64 v2, .slice aa na ca] 133)).alloc (.cells #[.int .i64 0, .int .i64 0, .int .u64 0] 41)).alloc (.cells #[.int .i64 0, .int .i64 0, .int .u64 0] 41)) w.heap.size 1 (i : Nat) a (v0, v1, v2) (.slice aa na ca)) := hide (((Wv.new w 1 (i : Nat) a v0 v1 v2 (.slice aa na ca)).al (bel_new _ _)).al (bel_new _ _))
  have FL : Hid (∀ k, F k → k < w.heap.size) := hide h.fb
  have H1 := hide (h.bel B1.out)
  have H7 := hide (h17.below (Nat.le_refl _) B1.out)
  obtain ⟨x0, x1, x2⟩ := x
  clear h h17 hs1 hs2
  go_enter Tryd.func109, Tryd.ntmps109
  go_upto_region 2 with fail
  generalize ((w.alloc (.cells #[.int .i64 1, .int .i64 (i : Nat), .int .i64 a, .int .i64 v0, .int .i64 v1, .int .u64 v2, .slice aa na ca] 133)).alloc (.cells #[.int .i64 0, .int .i64 0, .int .u64 0] 41)).alloc (.cells #[.int .i64 0, .int .i64 0, .int .u64 0] 41) = W1 at *
  obtain ⟨q0, q1, q2, q3, q4, q5, q6⟩ := Y0.out.all
  have hl0 := Y0.out.lt
  obtain ⟨⟨a0, a1, a2⟩, e0, e1, e2⟩ := Y1.out.all
  obtain ⟨⟨b0, b1, b2⟩, d0, d1, d2⟩ := Y2.out.all
  go_wp2_with fail
  refine (Read_in H1.out i (x0, x1, x2) hx).mono ?_
  rintro e w2 ⟨rfl, hb⟩
  have V1 := Y1.out.al hb
  have V2 := Y2.out.al hb
  obtain ⟨⟨f0, f1, f2⟩, g0, g1, g2⟩ := V1.all
  obtain ⟨⟨k0, k1, k2⟩, j0, j1, j2⟩ := V2.all
  have HB := hide hb
  clear hb q0 q1 q2 q3 q4 q5 q6 a0 a1 a2 e0 e1 e2 b0 b1 b2 d0 d1 d2 H7
  go_wp2_with fail
  have U1 : Val (((w2.setCell ⟨w.heap.size + 1 + 1, 0, none⟩ (.int .i64 (x0))).setCell ⟨w.heap.size + 1 + 1, 1, none⟩ (.int .i64 (x1))).setCell ⟨w.heap.size + 1 + 1, 2, none⟩ (.int .u64 (x2))) (w.heap.size + 1) 0 0 0 := (ne3 (by omega)).trans V1
  have BB : Below w.heap.size w2 ((((((w2.setCell ⟨w.heap.size + 1 + 1, 0, none⟩ (.int .i64 (x0))).setCell ⟨w.heap.size + 1 + 1, 1, none⟩ (.int .i64 (x1))).setCell ⟨w.heap.size + 1 + 1, 2, none⟩ (.int .u64 (x2))).setCell ⟨w.heap.size + 1, 0, none⟩ (.int .i64 (x0))).setCell ⟨w.heap.size + 1, 1, none⟩ (.int .i64 (x1))).setCell ⟨w.heap.size + 1, 2, none⟩ (.int .u64 (x2))) := bel_set (bel_set (Below.refl _ _) (by omega) _ _ _) (by omega) _ _ _
  exact ret_v (w.heap.size + 1) rfl rfl (U1.set _ _ _) rfl (Sp.mk rfl (((H1.out.bel HB.out).keep (fun k hk => BB.block k (FL.out k hk)) BB.size)) (((Ch.of_bel B1.out).trans (Ch.of_bel HB.out)).below BB))
set_option maxRecDepth 20000 in
set_option maxHeartbeats 1000000 in
theorem share_2 {w : World} {F : Nat → Prop} {g : Nat} {s : St} {p : List Addr} (h : Stt w F g s) (h17 : E2 w p) (a v0 v1 v2 : Int) (aa : Option Addr) (na ca : Nat) (i : Nat) (x : V3) (hx : s.P[i]? = some x) (hB : isB v0 v1 v2 x.1 = true) : Calls Tryd.prog 109 #[.pointer (some ⟨g, 0, none⟩), .agg #[.int .i64 2, .int .i64 (i : Nat), .int .i64 a, .int .i64 v0, .int .i64 v1, .int .u64 v2, .slice aa na ca]] w (Sp w F g ({ s with P := s.P.set i (v0, v1, v2) }) (.agg #[.int .i64 0, .int .i64 0, .int .u64 0])) := by
  have B1 : Hid (Below w.heap.size w (((w.alloc (.cells #[.int .i64 2, .int .i64 (i : Nat), .int .i64 a, .int .i64 v0, .int .i64 v1, .int .u64 v2, .slice aa na ca] 133)).alloc (.cells #[.int .i64 0, .int .i64 0, .int .u64 0] 41)).alloc (.cells #[.int .i64 0, .int .i64 0, .int .u64 0] 41))) := hide (bel_al (bel_al (bel_new w _) _) _)
  have hs1 : (w.alloc (.cells #[.int .i64 2, .int .i64 (i : Nat), .int .i64 a, .int .i64 v0, .int .i64 v1, .int .u64 v2, .slice aa na ca] 133)).heap.size = w.heap.size + 1 := by simp
  have hs2 : ((w.alloc (.cells #[.int .i64 2, .int .i64 (i : Nat), .int .i64 a, .int .i64 v0, .int .i64 v1, .int .u64 v2, .slice aa na ca] 133)).alloc (.cells #[.int .i64 0, .int .i64 0, .int .u64 0] 41)).heap.size = w.heap.size + 1 + 1 := by simp
  have Y1 : Hid (Val (((w.alloc (.cells #[.int .i64 2, .int .i64 (i : Nat), .int .i64 a, .int .i64 v0, .int .i64 v1, .int .u64 v2, .slice aa na ca] 133)).alloc (.cells #[.int .i64 0, .int .i64 0, .int .u64 0] 41)).alloc (.cells #[.int .i64 0, .int .i64 0, .int .u64 0] 41)) (w.heap.size + 1) 0 0 0) := hide (by
    have e1 := Val.new (w.alloc (.cells #[.int .i64 2, .int .i64 (i : Nat), .int .i64 a, .int .i64 v0, .int .i64 v1, .int .u64 v2, .slice aa na ca] 133)) 0 0 0
    rw [hs1] at e1
    exact e1.al (bel_new _ _))
  have Y2 : Hid (Val (((w.alloc (.cells #[.int .i64 2, .int .i64 (i : Nat), .int .i64 a, .int .i64 v0, .int .i64 v1, .int .u64 v2, .slice aa na ca] 133)).alloc (.cells #[.int .i64 0, .int .i64 0, .int .u64 0] 41)).alloc (.cells #[.int .i64 0, .int .i64 0, .int .u64 0] 41)) (w.heap.size + 1 + 1) 0 0 0) := hide (by
    have e1 := Val.new ((w.alloc (.cells #[.int .i64 2, .int .i64 (i : Nat), .int .i64 a, .int .i64 v0, .int .i64 v1, .int .u64 v2, .slice aa na ca] 133)).alloc (.cells #[.int .i64 0, .int .i64 0, .int .u64 0] 41)) 0 0 0
    rw [hs2] at e1
    exact e1)
  have Y0 : Hid (Wv (((w.alloc (.cells #[.int .i64 2, .int .i64 (i : Nat), .int .i64 a, .int .i64 v0, .int .i64 v1, .int .u64 v2, .slice aa na ca] 133)).alloc (.cells #[.int .i64 0, .int .i64 0, .int .u64 0] 41)).alloc (.cells #[.int .i64 0, .int .i64 0, .int .u64 0] 41)) w.heap.size 2 (i : Nat) a (v0, v1, v2) (.slice aa na ca)) := hide (((Wv.new w 2 (i : Nat) a v0 v1 v2 (.slice aa na ca)).al (bel_new _ _)).al (bel_new _ _))
  have FL : Hid (∀ k, F k → k < w.heap.size) := hide h.fb
  have H1 := hide (h.bel B1.out)
  have H7 := hide (h17.below (Nat.le_refl _) B1.out)
  clear h h17 hs1 hs2
  go_enter Tryd.func109, Tryd.ntmps109
  go_upto_region 2 with fail
  generalize ((w.alloc (.cells #[.int .i64 2, .int .i64 (i : Nat), .int .i64 a, .int .i64 v0, .int .i64 v1, .int .u64 v2, .slice aa na ca] 133)).alloc (.cells #[.int .i64 0, .int .i64 0, .int .u64 0] 41)).alloc (.cells #[.int .i64 0, .int .i64 0, .int .u64 0] 41) = W1 at *
  obtain ⟨q0, q1, q2, q3, q4, q5, q6⟩ := Y0.out.all
  have hl0 := Y0.out.lt
  obtain ⟨⟨a0, a1, a2⟩, e0, e1, e2⟩ := Y1.out.all
  obtain ⟨⟨b0, b1, b2⟩, d0, d1, d2⟩ := Y2.out.all
  go_wp2_with fail
  refine (Write_in H1.out H7.out i x hx v0 v1 v2 hB).mono ?_
  rintro e w2 ⟨rfl, F', st, ch⟩
  have V1 := (ch.blk (w.heap.size + 1) Y1.out.lt (fun e => by have := FL.out _ e; omega)).trans Y1.out
  have V2 := (ch.blk (w.heap.size + 1 + 1) Y2.out.lt (fun e => by have := FL.out _ e; omega)).trans Y2.out
  obtain ⟨⟨f0, f1, f2⟩, g0, g1, g2⟩ := (show Val w2 (w.heap.size + 1) 0 0 0 from V1).all
  obtain ⟨⟨k0, k1, k2⟩, j0, j1, j2⟩ := (show Val w2 (w.heap.size + 1 + 1) 0 0 0 from V2).all
  have ST := hide (And.intro st ch)
  have NF : Hid (¬ F' (w.heap.size + 1)) := hide (fun hF => by
    rcases ch.grow _ hF with h1 | h1
    · exact absurd (FL.out _ h1) (by omega)
    · exact absurd Y1.out.lt (by omega))
  clear st ch q0 q1 q2 q3 q4 q5 q6 a0 a1 a2 e0 e1 e2 b0 b1 b2 d0 d1 d2 H1 H7
  go_wp2_with fail
  exact ret_v (w.heap.size + 1) rfl rfl (Val.set V1 0 0 0) rfl (Sp.mk rfl (ST.out.1.keep (fun k hk => ne3 (fun e => NF.out (e ▸ hk))) (by rw [size_setCell, size_setCell, size_setCell]; exact Nat.le_refl _)) (((Ch.of_bel B1.out).trans ST.out.2).below (bel_set (Below.refl _ _) (by omega) _ _ _)))
set_option maxRecDepth 20000 in
set_option maxHeartbeats 1000000 in
theorem share_3 {w : World} {F : Nat → Prop} {g : Nat} {s : St} {p : List Addr} (h : Stt w F g s) (h17 : E2 w p) (a v0 v1 v2 : Int) (aa : Option Addr) (na ca : Nat) (i : Nat) (x : Bool) (hx : s.M[i]? = some x) : Calls Tryd.prog 109 #[.pointer (some ⟨g, 0, none⟩), .agg #[.int .i64 3, .int .i64 (i : Nat), .int .i64 a, .int .i64 v0, .int .i64 v1, .int .u64 v2, .slice aa na ca]] w (Sp w F g ({ s with M := s.M.set i true }) (.agg #[.int .i64 0, .int .i64 0, .int .u64 0])) := by
  have B1 : Hid (Below w.heap.size w (((w.alloc (.cells #[.int .i64 3, .int .i64 (i : Nat), .int .i64 a, .int .i64 v0, .int .i64 v1, .int .u64 v2, .slice aa na ca] 133)).alloc (.cells #[.int .i64 0, .int .i64 0, .int .u64 0] 41)).alloc (.cells #[.int .i64 0, .int .i64 0, .int .u64 0] 41))) := hide (bel_al (bel_al (bel_new w _) _) _)
  have hs1 : (w.alloc (.cells #[.int .i64 3, .int .i64 (i : Nat), .int .i64 a, .int .i64 v0, .int .i64 v1, .int .u64 v2, .slice aa na ca] 133)).heap.size = w.heap.size + 1 := by simp
  have hs2 : ((w.alloc (.cells #[.int .i64 3, .int .i64 (i : Nat), .int .i64 a, .int .i64 v0, .int .i64 v1, .int .u64 v2, .slice aa na ca] 133)).alloc (.cells #[.int .i64 0, .int .i64 0, .int .u64 0] 41)).heap.size = w.heap.size + 1 + 1 := by simp
  have Y1 : Hid (Val (((w.alloc (.cells #[.int .i64 3, .int .i64 (i : Nat), .int .i64 a, .int .i64 v0, .int .i64 v1, .int .u64 v2, .slice aa na ca] 133)).alloc (.cells #[.int .i64 0, .int .i64 0, .int .u64 0] 41)).alloc (.cells #[.int .i64 0, .int .i64 0, .int .u64 0] 41)) (w.heap.size + 1) 0 0 0) := hide (by
    have e1 := Val.new (w.alloc (.cells #[.int .i64 3, .int .i64 (i : Nat), .int .i64 a, .int .i64 v0, .int .i64 v1, .int .u64 v2, .slice aa na ca] 133)) 0 0 0
    rw [hs1] at e1
    exact e1.al (bel_new _ _))
  have Y2 : Hid (Val (((w.alloc (.cells #[.int .i64 3, .int .i64 (i : Nat), .int .i64 a, .int .i64 v0, .int .i64 v1, .int .u64 v2, .slice aa na ca] 133)).alloc (.cells #[.int .i64 0, .int .i64 0, .int .u64 0] 41)).alloc (.cells #[.int .i64 0, .int .i64 0, .int .u64 0] 41)) (w.heap.size + 1 + 1) 0 0 0) := hide (by
    have e1 := Val.new ((w.alloc (.cells #[.int .i64 3, .int .i64 (i : Nat), .int .i64 a, .int .i64 v0, .int .i64 v1, .int .u64 v2, .slice aa na ca] 133)).alloc (.cells #[.int .i64 0, .int .i64 0, .int .u64 0] 41)) 0 0 0
    rw [hs2] at e1
    exact e1)
  have Y0 : Hid (Wv (((w.alloc (.cells #[.int .i64 3, .int .i64 (i : Nat), .int .i64 a, .int .i64 v0, .int .i64 v1, .int .u64 v2, .slice aa na ca] 133)).alloc (.cells #[.int .i64 0, .int .i64 0, .int .u64 0] 41)).alloc (.cells #[.int .i64 0, .int .i64 0, .int .u64 0] 41)) w.heap.size 3 (i : Nat) a (v0, v1, v2) (.slice aa na ca)) := hide (((Wv.new w 3 (i : Nat) a v0 v1 v2 (.slice aa na ca)).al (bel_new _ _)).al (bel_new _ _))
  have FL : Hid (∀ k, F k → k < w.heap.size) := hide h.fb
  have H1 := hide (h.bel B1.out)
  have H7 := hide (h17.below (Nat.le_refl _) B1.out)
  clear h h17 hs1 hs2
  go_enter Tryd.func109, Tryd.ntmps109
  go_upto_region 2 with fail
  generalize ((w.alloc (.cells #[.int .i64 3, .int .i64 (i : Nat), .int .i64 a, .int .i64 v0, .int .i64 v1, .int .u64 v2, .slice aa na ca] 133)).alloc (.cells #[.int .i64 0, .int .i64 0, .int .u64 0] 41)).alloc (.cells #[.int .i64 0, .int .i64 0, .int .u64 0] 41) = W1 at *
  obtain ⟨q0, q1, q2, q3, q4, q5, q6⟩ := Y0.out.all
  have hl0 := Y0.out.lt
  obtain ⟨⟨a0, a1, a2⟩, e0, e1, e2⟩ := Y1.out.all
  obtain ⟨⟨b0, b1, b2⟩, d0, d1, d2⟩ := Y2.out.all
  go_wp2_with fail
  refine (Lock_in H1.out i x hx).mono ?_
  rintro e w2 ⟨rfl, F', st, ch⟩
  have V1 := (ch.blk (w.heap.size + 1) Y1.out.lt (fun e => by have := FL.out _ e; omega)).trans Y1.out
  have V2 := (ch.blk (w.heap.size + 1 + 1) Y2.out.lt (fun e => by have := FL.out _ e; omega)).trans Y2.out
  obtain ⟨⟨f0, f1, f2⟩, g0, g1, g2⟩ := (show Val w2 (w.heap.size + 1) 0 0 0 from V1).all
  obtain ⟨⟨k0, k1, k2⟩, j0, j1, j2⟩ := (show Val w2 (w.heap.size + 1 + 1) 0 0 0 from V2).all
  have ST := hide (And.intro st ch)
  have NF : Hid (¬ F' (w.heap.size + 1)) := hide (fun hF => by
    rcases ch.grow _ hF with h1 | h1
    · exact absurd (FL.out _ h1) (by omega)
    · exact absurd Y1.out.lt (by omega))
  clear st ch q0 q1 q2 q3 q4 q5 q6 a0 a1 a2 e0 e1 e2 b0 b1 b2 d0 d1 d2 H1 H7
  go_wp2_with fail
  exact ret_v (w.heap.size + 1) rfl rfl (Val.set V1 0 0 0) rfl (Sp.mk rfl (ST.out.1.keep (fun k hk => ne3 (fun e => NF.out (e ▸ hk))) (by rw [size_setCell, size_setCell, size_setCell]; exact Nat.le_refl _)) (((Ch.of_bel B1.out).trans ST.out.2).below (bel_set (Below.refl _ _) (by omega) _ _ _)))
set_option maxRecDepth 20000 in
set_option maxHeartbeats 1000000 in
theorem share_4 {w : World} {F : Nat → Prop} {g : Nat} {s : St} {p : List Addr} (h : Stt w F g s) (h17 : E2 w p) (a v0 v1 v2 : Int) (aa : Option Addr) (na ca : Nat) (i : Nat) (x : Bool) (hx : s.M[i]? = some x) : Calls Tryd.prog 109 #[.pointer (some ⟨g, 0, none⟩), .agg #[.int .i64 4, .int .i64 (i : Nat), .int .i64 a, .int .i64 v0, .int .i64 v1, .int .u64 v2, .slice aa na ca]] w (Sp w F g ({ s with M := s.M.set i false }) (.agg #[.int .i64 0, .int .i64 0, .int .u64 0])) := by
  have B1 : Hid (Below w.heap.size w (((w.alloc (.cells #[.int .i64 4, .int .i64 (i : Nat), .int .i64 a, .int .i64 v0, .int .i64 v1, .int .u64 v2, .slice aa na ca] 133)).alloc (.cells #[.int .i64 0, .int .i64 0, .int .u64 0] 41)).alloc (.cells #[.int .i64 0, .int .i64 0, .int .u64 0] 41))) := hide (bel_al (bel_al (bel_new w _) _) _)
  have hs1 : (w.alloc (.cells #[.int .i64 4, .int .i64 (i : Nat), .int .i64 a, .int .i64 v0, .int .i64 v1, .int .u64 v2, .slice aa na ca] 133)).heap.size = w.heap.size + 1 := by simp
  have hs2 : ((w.alloc (.cells #[.int .i64 4, .int .i64 (i : Nat), .int .i64 a, .int .i64 v0, .int .i64 v1, .int .u64 v2, .slice aa na ca] 133)).alloc (.cells #[.int .i64 0, .int .i64 0, .int .u64 0] 41)).heap.size = w.heap.size + 1 + 1 := by simp
  have Y1 : Hid (Val (((w.alloc (.cells #[.int .i64 4, .int .i64 (i : Nat), .int .i64 a, .int .i64 v0, .int .i64 v1, .int .u64 v2, .slice aa na ca] 133)).alloc (.cells #[.int .i64 0, .int .i64 0, .int .u64 0] 41)).alloc (.cells #[.int .i64 0, .int .i64 0, .int .u64 0] 41)) (w.heap.size + 1) 0 0 0) := hide (by
    have e1 := Val.new (w.alloc (.cells #[.int .i64 4, .int .i64 (i : Nat), .int .i64 a, .int .i64 v0, .int .i64 v1, .int .u64 v2, .slice aa na ca] 133)) 0 0 0
    rw [hs1] at e1
    exact e1.al (bel_new _ _))
  have Y2 : Hid (Val (((w.alloc (.cells #[.int .i64 4, .int .i64 (i : Nat), .int .i64 a, .int .i64 v0, .int .i64 v1, .int .u64 v2, .slice aa na ca] 133)).alloc (.cells #[.int .i64 0, .int .i64 0, .int .u64 0] 41)).alloc (.cells #[.int .i64 0, .int .i64 0, .int .u64 0] 41)) (w.heap.size + 1 + 1) 0 0 0) := hide (by
    have e1 := Val.new ((w.alloc (.cells #[.int .i64 4, .int .i64 (i : Nat), .int .i64 a, .int .i64 v0, .int .i64 v1, .int .u64 v2, .slice aa na ca] 133)).alloc (.cells #[.int .i64 0, .int .i64 0, .int .u64 0] 41)) 0 0 0
    rw [hs2] at e1
    exact e1)
  have Y0 : Hid (Wv (((w.alloc (.cells #[.int .i64 4, .int .i64 (i : Nat), .int .i64 a, .int .i64 v0, .int .i64 v1, .int .u64 v2, .slice aa na ca] 133)).alloc (.cells #[.int .i64 0, .int .i64 0, .int .u64 0] 41)).alloc (.cells #[.int .i64 0, .int .i64 0, .int .u64 0] 41)) w.heap.size 4 (i : Nat) a (v0, v1, v2) (.slice aa na ca)) := hide (((Wv.new w 4 (i : Nat) a v0 v1 v2 (.slice aa na ca)).al (bel_new _ _)).al (bel_new _ _))
  have FL : Hid (∀ k, F k → k < w.heap.size) := hide h.fb
  have H1 := hide (h.bel B1.out)
  have H7 := hide (h17.below (Nat.le_refl _) B1.out)
  clear h h17 hs1 hs2
  go_enter Tryd.func109, Tryd.ntmps109
  go_upto_region 2 with fail
  generalize ((w.alloc (.cells #[.int .i64 4, .int .i64 (i : Nat), .int .i64 a, .int .i64 v0, .int .i64 v1, .int .u64 v2, .slice aa na ca] 133)).alloc (.cells #[.int .i64 0, .int .i64 0, .int .u64 0] 41)).alloc (.cells #[.int .i64 0, .int .i64 0, .int .u64 0] 41) = W1 at *
  obtain ⟨q0, q1, q2, q3, q4, q5, q6⟩ := Y0.out.all
  have hl0 := Y0.out.lt
  obtain ⟨⟨a0, a1, a2⟩, e0, e1, e2⟩ := Y1.out.all
  obtain ⟨⟨b0, b1, b2⟩, d0, d1, d2⟩ := Y2.out.all
  go_wp2_with fail
  refine (Unlock_in H1.out i x hx).mono ?_
  rintro e w2 ⟨rfl, F', st, ch⟩
  have V1 := (ch.blk (w.heap.size + 1) Y1.out.lt (fun e => by have := FL.out _ e; omega)).trans Y1.out
  have V2 := (ch.blk (w.heap.size + 1 + 1) Y2.out.lt (fun e => by have := FL.out _ e; omega)).trans Y2.out
  obtain ⟨⟨f0, f1, f2⟩, g0, g1, g2⟩ := (show Val w2 (w.heap.size + 1) 0 0 0 from V1).all
  obtain ⟨⟨k0, k1, k2⟩, j0, j1, j2⟩ := (show Val w2 (w.heap.size + 1 + 1) 0 0 0 from V2).all
  have ST := hide (And.intro st ch)
  have NF : Hid (¬ F' (w.heap.size + 1)) := hide (fun hF => by
    rcases ch.grow _ hF with h1 | h1
    · exact absurd (FL.out _ h1) (by omega)
    · exact absurd Y1.out.lt (by omega))
  clear st ch q0 q1 q2 q3 q4 q5 q6 a0 a1 a2 e0 e1 e2 b0 b1 b2 d0 d1 d2 H1 H7
  go_wp2_with fail
  exact ret_v (w.heap.size + 1) rfl rfl (Val.set V1 0 0 0) rfl (Sp.mk rfl (ST.out.1.keep (fun k hk => ne3 (fun e => NF.out (e ▸ hk))) (by rw [size_setCell, size_setCell, size_setCell]; exact Nat.le_refl _)) (((Ch.of_bel B1.out).trans ST.out.2).below (bel_set (Below.refl _ _) (by omega) _ _ _)))
end Go.Proofs.YtbiilnpblnjliaaDoor.Ck

/- Package act: a wait's call of layer 11 (channels, atomics). (Written by mk_b.py.) -/
namespace Go.Proofs.YtbiilnpblnjliaaDoor.Ck
open Go.RowKit

set_option maxRecDepth 20000 in
set_option maxHeartbeats 1000000 in
theorem share_5 {w : World} {F : Nat → Prop} {g : Nat} {s : St} {p : List Addr} (h : Stt w F g s) (h17 : E2 w p) (a v0 v1 v2 : Int) (aa : Option Addr) (na ca : Nat) (i : Nat) (q : Qu) (hx : s.C[i]? = some q) (hB : isB v0 v1 v2 q.t = true) (hr : (q.l.length : Int) < q.room) : Calls Tryd.prog 109 #[.pointer (some ⟨g, 0, none⟩), .agg #[.int .i64 5, .int .i64 (i : Nat), .int .i64 a, .int .i64 v0, .int .i64 v1, .int .u64 v2, .slice aa na ca]] w (Sp w F g ({ s with C := s.C.set i { q with l := q.l ++ [(v0, v1, v2)] } }) (.agg #[.int .i64 0, .int .i64 0, .int .u64 0])) := by
  have B1 : Hid (Below w.heap.size w (((w.alloc (.cells #[.int .i64 5, .int .i64 (i : Nat), .int .i64 a, .int .i64 v0, .int .i64 v1, .int .u64 v2, .slice aa na ca] 133)).alloc (.cells #[.int .i64 0, .int .i64 0, .int .u64 0] 41)).alloc (.cells #[.int .i64 0, .int .i64 0, .int .u64 0] 41))) := hide (bel_al (bel_al (bel_new w _) _) _)
  have hs1 : (w.alloc (.cells #[.int .i64 5, .int .i64 (i : Nat), .int .i64 a, .int .i64 v0, .int .i64 v1, .int .u64 v2, .slice aa na ca] 133)).heap.size = w.heap.size + 1 := by simp
  have hs2 : ((w.alloc (.cells #[.int .i64 5, .int .i64 (i : Nat), .int .i64 a, .int .i64 v0, .int .i64 v1, .int .u64 v2, .slice aa na ca] 133)).alloc (.cells #[.int .i64 0, .int .i64 0, .int .u64 0] 41)).heap.size = w.heap.size + 1 + 1 := by simp
  have Y1 : Hid (Val (((w.alloc (.cells #[.int .i64 5, .int .i64 (i : Nat), .int .i64 a, .int .i64 v0, .int .i64 v1, .int .u64 v2, .slice aa na ca] 133)).alloc (.cells #[.int .i64 0, .int .i64 0, .int .u64 0] 41)).alloc (.cells #[.int .i64 0, .int .i64 0, .int .u64 0] 41)) (w.heap.size + 1) 0 0 0) := hide (by
    have e1 := Val.new (w.alloc (.cells #[.int .i64 5, .int .i64 (i : Nat), .int .i64 a, .int .i64 v0, .int .i64 v1, .int .u64 v2, .slice aa na ca] 133)) 0 0 0
    rw [hs1] at e1
    exact e1.al (bel_new _ _))
  have Y2 : Hid (Val (((w.alloc (.cells #[.int .i64 5, .int .i64 (i : Nat), .int .i64 a, .int .i64 v0, .int .i64 v1, .int .u64 v2, .slice aa na ca] 133)).alloc (.cells #[.int .i64 0, .int .i64 0, .int .u64 0] 41)).alloc (.cells #[.int .i64 0, .int .i64 0, .int .u64 0] 41)) (w.heap.size + 1 + 1) 0 0 0) := hide (by
    have e1 := Val.new ((w.alloc (.cells #[.int .i64 5, .int .i64 (i : Nat), .int .i64 a, .int .i64 v0, .int .i64 v1, .int .u64 v2, .slice aa na ca] 133)).alloc (.cells #[.int .i64 0, .int .i64 0, .int .u64 0] 41)) 0 0 0
    rw [hs2] at e1
    exact e1)
  have Y0 : Hid (Wv (((w.alloc (.cells #[.int .i64 5, .int .i64 (i : Nat), .int .i64 a, .int .i64 v0, .int .i64 v1, .int .u64 v2, .slice aa na ca] 133)).alloc (.cells #[.int .i64 0, .int .i64 0, .int .u64 0] 41)).alloc (.cells #[.int .i64 0, .int .i64 0, .int .u64 0] 41)) w.heap.size 5 (i : Nat) a (v0, v1, v2) (.slice aa na ca)) := hide (((Wv.new w 5 (i : Nat) a v0 v1 v2 (.slice aa na ca)).al (bel_new _ _)).al (bel_new _ _))
  have FL : Hid (∀ k, F k → k < w.heap.size) := hide h.fb
  have H1 := hide (h.bel B1.out)
  have H7 := hide (h17.below (Nat.le_refl _) B1.out)
  clear h h17 hs1 hs2
  go_enter Tryd.func109, Tryd.ntmps109
  go_upto_region 2 with fail
  generalize ((w.alloc (.cells #[.int .i64 5, .int .i64 (i : Nat), .int .i64 a, .int .i64 v0, .int .i64 v1, .int .u64 v2, .slice aa na ca] 133)).alloc (.cells #[.int .i64 0, .int .i64 0, .int .u64 0] 41)).alloc (.cells #[.int .i64 0, .int .i64 0, .int .u64 0] 41) = W1 at *
  obtain ⟨q0, q1, q2, q3, q4, q5, q6⟩ := Y0.out.all
  have hl0 := Y0.out.lt
  obtain ⟨⟨a0, a1, a2⟩, e0, e1, e2⟩ := Y1.out.all
  obtain ⟨⟨b0, b1, b2⟩, d0, d1, d2⟩ := Y2.out.all
  go_wp2_with fail
  refine (Send_room H1.out H7.out i q hx v0 v1 v2 hB hr).mono ?_
  rintro e w2 ⟨rfl, F', st, ch⟩
  have V1 := (ch.blk (w.heap.size + 1) Y1.out.lt (fun e => by have := FL.out _ e; omega)).trans Y1.out
  have V2 := (ch.blk (w.heap.size + 1 + 1) Y2.out.lt (fun e => by have := FL.out _ e; omega)).trans Y2.out
  obtain ⟨⟨f0, f1, f2⟩, g0, g1, g2⟩ := (show Val w2 (w.heap.size + 1) 0 0 0 from V1).all
  obtain ⟨⟨k0, k1, k2⟩, j0, j1, j2⟩ := (show Val w2 (w.heap.size + 1 + 1) 0 0 0 from V2).all
  have ST := hide (And.intro st ch)
  have NF : Hid (¬ F' (w.heap.size + 1)) := hide (fun hF => by
    rcases ch.grow _ hF with h1 | h1
    · exact absurd (FL.out _ h1) (by omega)
    · exact absurd Y1.out.lt (by omega))
  clear st ch q0 q1 q2 q3 q4 q5 q6 a0 a1 a2 e0 e1 e2 b0 b1 b2 d0 d1 d2 H1 H7
  go_wp2_with fail
  exact ret_v (w.heap.size + 1) rfl rfl (Val.set V1 0 0 0) rfl (Sp.mk rfl (ST.out.1.keep (fun k hk => ne3 (fun e => NF.out (e ▸ hk))) (by rw [size_setCell, size_setCell, size_setCell]; exact Nat.le_refl _)) (((Ch.of_bel B1.out).trans ST.out.2).below (bel_set (Below.refl _ _) (by omega) _ _ _)))
set_option maxRecDepth 20000 in
set_option maxHeartbeats 1000000 in
theorem share_6 {w : World} {F : Nat → Prop} {g : Nat} {s : St} {p : List Addr} (h : Stt w F g s) (h17 : E2 w p) (a v0 v1 v2 : Int) (aa : Option Addr) (na ca : Nat) (i : Nat) (q : Qu) (hx : s.C[i]? = some q) (y : V3) (l : List V3) (hl : q.l = y :: l) : Calls Tryd.prog 109 #[.pointer (some ⟨g, 0, none⟩), .agg #[.int .i64 6, .int .i64 (i : Nat), .int .i64 a, .int .i64 v0, .int .i64 v1, .int .u64 v2, .slice aa na ca]] w (Sp w F g ({ s with C := s.C.set i { q with l := l } }) (.agg #[.int .i64 y.1, .int .i64 y.2.1, .int .u64 y.2.2])) := by
  have B1 : Hid (Below w.heap.size w (((w.alloc (.cells #[.int .i64 6, .int .i64 (i : Nat), .int .i64 a, .int .i64 v0, .int .i64 v1, .int .u64 v2, .slice aa na ca] 133)).alloc (.cells #[.int .i64 0, .int .i64 0, .int .u64 0] 41)).alloc (.cells #[.int .i64 0, .int .i64 0, .int .u64 0] 41))) := hide (bel_al (bel_al (bel_new w _) _) _)
  have hs1 : (w.alloc (.cells #[.int .i64 6, .int .i64 (i : Nat), .int .i64 a, .int .i64 v0, .int .i64 v1, .int .u64 v2, .slice aa na ca] 133)).heap.size = w.heap.size + 1 := by simp
  have hs2 : ((w.alloc (.cells #[.int .i64 6, .int .i64 (i : Nat), .int .i64 a, .int .i64 v0, .int .i64 v1, .int .u64 v2, .slice aa na ca] 133)).alloc (.cells #[.int .i64 0, .int .i64 0, .int .u64 0] 41)).heap.size = w.heap.size + 1 + 1 := by simp
  have Y1 : Hid (Val (((w.alloc (.cells #[.int .i64 6, .int .i64 (i : Nat), .int .i64 a, .int .i64 v0, .int .i64 v1, .int .u64 v2, .slice aa na ca] 133)).alloc (.cells #[.int .i64 0, .int .i64 0, .int .u64 0] 41)).alloc (.cells #[.int .i64 0, .int .i64 0, .int .u64 0] 41)) (w.heap.size + 1) 0 0 0) := hide (by
    have e1 := Val.new (w.alloc (.cells #[.int .i64 6, .int .i64 (i : Nat), .int .i64 a, .int .i64 v0, .int .i64 v1, .int .u64 v2, .slice aa na ca] 133)) 0 0 0
    rw [hs1] at e1
    exact e1.al (bel_new _ _))
  have Y2 : Hid (Val (((w.alloc (.cells #[.int .i64 6, .int .i64 (i : Nat), .int .i64 a, .int .i64 v0, .int .i64 v1, .int .u64 v2, .slice aa na ca] 133)).alloc (.cells #[.int .i64 0, .int .i64 0, .int .u64 0] 41)).alloc (.cells #[.int .i64 0, .int .i64 0, .int .u64 0] 41)) (w.heap.size + 1 + 1) 0 0 0) := hide (by
    have e1 := Val.new ((w.alloc (.cells #[.int .i64 6, .int .i64 (i : Nat), .int .i64 a, .int .i64 v0, .int .i64 v1, .int .u64 v2, .slice aa na ca] 133)).alloc (.cells #[.int .i64 0, .int .i64 0, .int .u64 0] 41)) 0 0 0
    rw [hs2] at e1
    exact e1)
  have Y0 : Hid (Wv (((w.alloc (.cells #[.int .i64 6, .int .i64 (i : Nat), .int .i64 a, .int .i64 v0, .int .i64 v1, .int .u64 v2, .slice aa na ca] 133)).alloc (.cells #[.int .i64 0, .int .i64 0, .int .u64 0] 41)).alloc (.cells #[.int .i64 0, .int .i64 0, .int .u64 0] 41)) w.heap.size 6 (i : Nat) a (v0, v1, v2) (.slice aa na ca)) := hide (((Wv.new w 6 (i : Nat) a v0 v1 v2 (.slice aa na ca)).al (bel_new _ _)).al (bel_new _ _))
  have FL : Hid (∀ k, F k → k < w.heap.size) := hide h.fb
  have H1 := hide (h.bel B1.out)
  have H7 := hide (h17.below (Nat.le_refl _) B1.out)
  obtain ⟨y0, y1, y2⟩ := y
  clear h h17 hs1 hs2
  go_enter Tryd.func109, Tryd.ntmps109
  go_upto_region 2 with fail
  generalize ((w.alloc (.cells #[.int .i64 6, .int .i64 (i : Nat), .int .i64 a, .int .i64 v0, .int .i64 v1, .int .u64 v2, .slice aa na ca] 133)).alloc (.cells #[.int .i64 0, .int .i64 0, .int .u64 0] 41)).alloc (.cells #[.int .i64 0, .int .i64 0, .int .u64 0] 41) = W1 at *
  obtain ⟨q0, q1, q2, q3, q4, q5, q6⟩ := Y0.out.all
  have hl0 := Y0.out.lt
  obtain ⟨⟨a0, a1, a2⟩, e0, e1, e2⟩ := Y1.out.all
  obtain ⟨⟨b0, b1, b2⟩, d0, d1, d2⟩ := Y2.out.all
  go_wp2_with fail
  refine (Recv_some H1.out i q hx (y0, y1, y2) l hl).mono ?_
  rintro e w2 ⟨rfl, F', st, ch⟩
  have V1 := (ch.blk (w.heap.size + 1) Y1.out.lt (fun e => by have := FL.out _ e; omega)).trans Y1.out
  have V2 := (ch.blk (w.heap.size + 1 + 1) Y2.out.lt (fun e => by have := FL.out _ e; omega)).trans Y2.out
  obtain ⟨⟨f0, f1, f2⟩, g0, g1, g2⟩ := (show Val w2 (w.heap.size + 1) 0 0 0 from V1).all
  obtain ⟨⟨k0, k1, k2⟩, j0, j1, j2⟩ := (show Val w2 (w.heap.size + 1 + 1) 0 0 0 from V2).all
  have ST := hide (And.intro st ch)
  have NF : Hid (∀ k, F' k → k ≠ w.heap.size + 1 ∧ k ≠ w.heap.size + 1 + 1) := hide (fun k hF => by
    have z1 := Y1.out.lt
    have z2 := Y2.out.lt
    rcases ch.grow _ hF with h1 | h1
    · have := FL.out _ h1
      omega
    · omega)
  clear st ch q0 q1 q2 q3 q4 q5 q6 a0 a1 a2 e0 e1 e2 b0 b1 b2 d0 d1 d2 H1 H7
  go_wp2_with fail
  have U1 : Val (((w2.setCell ⟨w.heap.size + 1 + 1, 0, none⟩ (.int .i64 (y0))).setCell ⟨w.heap.size + 1 + 1, 1, none⟩ (.int .i64 (y1))).setCell ⟨w.heap.size + 1 + 1, 2, none⟩ (.int .u64 (y2))) (w.heap.size + 1) 0 0 0 := (ne3 (by omega)).trans V1
  have BB : Below w.heap.size w2 ((((((w2.setCell ⟨w.heap.size + 1 + 1, 0, none⟩ (.int .i64 (y0))).setCell ⟨w.heap.size + 1 + 1, 1, none⟩ (.int .i64 (y1))).setCell ⟨w.heap.size + 1 + 1, 2, none⟩ (.int .u64 (y2))).setCell ⟨w.heap.size + 1, 0, none⟩ (.int .i64 (y0))).setCell ⟨w.heap.size + 1, 1, none⟩ (.int .i64 (y1))).setCell ⟨w.heap.size + 1, 2, none⟩ (.int .u64 (y2))) := bel_set (bel_set (Below.refl _ _) (by omega) _ _ _) (by omega) _ _ _
  exact ret_v (w.heap.size + 1) rfl rfl (U1.set _ _ _) rfl (Sp.mk rfl (ST.out.1.keep (fun k hk => (ne3 (NF.out k hk).1).trans (ne3 (NF.out k hk).2)) BB.size) (((Ch.of_bel B1.out).trans ST.out.2).below BB))
set_option maxRecDepth 20000 in
set_option maxHeartbeats 1000000 in
theorem share_7 {w : World} {F : Nat → Prop} {g : Nat} {s : St} {p : List Addr} (h : Stt w F g s) (h17 : E2 w p) (a v0 v1 v2 : Int) (aa : Option Addr) (na ca : Nat) (i : Nat) (x : Int) (hx : s.A[i]? = some x) : Calls Tryd.prog 109 #[.pointer (some ⟨g, 0, none⟩), .agg #[.int .i64 7, .int .i64 (i : Nat), .int .i64 a, .int .i64 v0, .int .i64 v1, .int .u64 v2, .slice aa na ca]] w (Sp w F g (s) (.agg #[.int .i64 1, .int .i64 x, .int .u64 0])) := by
  have B1 : Hid (Below w.heap.size w (((w.alloc (.cells #[.int .i64 7, .int .i64 (i : Nat), .int .i64 a, .int .i64 v0, .int .i64 v1, .int .u64 v2, .slice aa na ca] 133)).alloc (.cells #[.int .i64 0, .int .i64 0, .int .u64 0] 41)).alloc (.cells #[.int .i64 0, .int .i64 0, .int .u64 0] 41))) := hide (bel_al (bel_al (bel_new w _) _) _)
  have hs1 : (w.alloc (.cells #[.int .i64 7, .int .i64 (i : Nat), .int .i64 a, .int .i64 v0, .int .i64 v1, .int .u64 v2, .slice aa na ca] 133)).heap.size = w.heap.size + 1 := by simp
  have hs2 : ((w.alloc (.cells #[.int .i64 7, .int .i64 (i : Nat), .int .i64 a, .int .i64 v0, .int .i64 v1, .int .u64 v2, .slice aa na ca] 133)).alloc (.cells #[.int .i64 0, .int .i64 0, .int .u64 0] 41)).heap.size = w.heap.size + 1 + 1 := by simp
  have Y1 : Hid (Val (((w.alloc (.cells #[.int .i64 7, .int .i64 (i : Nat), .int .i64 a, .int .i64 v0, .int .i64 v1, .int .u64 v2, .slice aa na ca] 133)).alloc (.cells #[.int .i64 0, .int .i64 0, .int .u64 0] 41)).alloc (.cells #[.int .i64 0, .int .i64 0, .int .u64 0] 41)) (w.heap.size + 1) 0 0 0) := hide (by
    have e1 := Val.new (w.alloc (.cells #[.int .i64 7, .int .i64 (i : Nat), .int .i64 a, .int .i64 v0, .int .i64 v1, .int .u64 v2, .slice aa na ca] 133)) 0 0 0
    rw [hs1] at e1
    exact e1.al (bel_new _ _))
  have Y2 : Hid (Val (((w.alloc (.cells #[.int .i64 7, .int .i64 (i : Nat), .int .i64 a, .int .i64 v0, .int .i64 v1, .int .u64 v2, .slice aa na ca] 133)).alloc (.cells #[.int .i64 0, .int .i64 0, .int .u64 0] 41)).alloc (.cells #[.int .i64 0, .int .i64 0, .int .u64 0] 41)) (w.heap.size + 1 + 1) 0 0 0) := hide (by
    have e1 := Val.new ((w.alloc (.cells #[.int .i64 7, .int .i64 (i : Nat), .int .i64 a, .int .i64 v0, .int .i64 v1, .int .u64 v2, .slice aa na ca] 133)).alloc (.cells #[.int .i64 0, .int .i64 0, .int .u64 0] 41)) 0 0 0
    rw [hs2] at e1
    exact e1)
  have Y0 : Hid (Wv (((w.alloc (.cells #[.int .i64 7, .int .i64 (i : Nat), .int .i64 a, .int .i64 v0, .int .i64 v1, .int .u64 v2, .slice aa na ca] 133)).alloc (.cells #[.int .i64 0, .int .i64 0, .int .u64 0] 41)).alloc (.cells #[.int .i64 0, .int .i64 0, .int .u64 0] 41)) w.heap.size 7 (i : Nat) a (v0, v1, v2) (.slice aa na ca)) := hide (((Wv.new w 7 (i : Nat) a v0 v1 v2 (.slice aa na ca)).al (bel_new _ _)).al (bel_new _ _))
  have FL : Hid (∀ k, F k → k < w.heap.size) := hide h.fb
  have H1 := hide (h.bel B1.out)
  have H7 := hide (h17.below (Nat.le_refl _) B1.out)
  clear h h17 hs1 hs2
  go_enter Tryd.func109, Tryd.ntmps109
  go_upto_region 2 with fail
  generalize ((w.alloc (.cells #[.int .i64 7, .int .i64 (i : Nat), .int .i64 a, .int .i64 v0, .int .i64 v1, .int .u64 v2, .slice aa na ca] 133)).alloc (.cells #[.int .i64 0, .int .i64 0, .int .u64 0] 41)).alloc (.cells #[.int .i64 0, .int .i64 0, .int .u64 0] 41) = W1 at *
  obtain ⟨q0, q1, q2, q3, q4, q5, q6⟩ := Y0.out.all
  have hl0 := Y0.out.lt
  obtain ⟨⟨a0, a1, a2⟩, e0, e1, e2⟩ := Y1.out.all
  obtain ⟨⟨b0, b1, b2⟩, d0, d1, d2⟩ := Y2.out.all
  go_wp2_with fail
  refine (Get_in H1.out i x hx).mono ?_
  rintro e w1 ⟨rfl, rfl⟩
  go_wp2_with fail
  refine (int_any x _).mono ?_
  rintro e w2 ⟨rfl, hb⟩
  have V1 := Y1.out.al hb
  have V2 := Y2.out.al hb
  obtain ⟨⟨f0, f1, f2⟩, g0, g1, g2⟩ := V1.all
  obtain ⟨⟨k0, k1, k2⟩, j0, j1, j2⟩ := V2.all
  have HB := hide hb
  clear hb q0 q1 q2 q3 q4 q5 q6 a0 a1 a2 e0 e1 e2 b0 b1 b2 d0 d1 d2 H7
  go_wp2_with fail
  have U1 : Val (((w2.setCell ⟨w.heap.size + 1 + 1, 0, none⟩ (.int .i64 (1))).setCell ⟨w.heap.size + 1 + 1, 1, none⟩ (.int .i64 (x))).setCell ⟨w.heap.size + 1 + 1, 2, none⟩ (.int .u64 (0))) (w.heap.size + 1) 0 0 0 := (ne3 (by omega)).trans V1
  have BB : Below w.heap.size w2 ((((((w2.setCell ⟨w.heap.size + 1 + 1, 0, none⟩ (.int .i64 (1))).setCell ⟨w.heap.size + 1 + 1, 1, none⟩ (.int .i64 (x))).setCell ⟨w.heap.size + 1 + 1, 2, none⟩ (.int .u64 (0))).setCell ⟨w.heap.size + 1, 0, none⟩ (.int .i64 (1))).setCell ⟨w.heap.size + 1, 1, none⟩ (.int .i64 (x))).setCell ⟨w.heap.size + 1, 2, none⟩ (.int .u64 (0))) := bel_set (bel_set (Below.refl _ _) (by omega) _ _ _) (by omega) _ _ _
  exact ret_v (w.heap.size + 1) rfl rfl (U1.set _ _ _) rfl (Sp.mk rfl (((H1.out.bel HB.out).keep (fun k hk => BB.block k (FL.out k hk)) BB.size)) (((Ch.of_bel B1.out).trans (Ch.of_bel HB.out)).below BB))
set_option maxRecDepth 20000 in
set_option maxHeartbeats 1000000 in
theorem share_8 {w : World} {F : Nat → Prop} {g : Nat} {s : St} {p : List Addr} (h : Stt w F g s) (h17 : E2 w p) (a v0 v1 v2 : Int) (aa : Option Addr) (na ca : Nat) (i : Nat) (x : Int) (hx : s.A[i]? = some x) : Calls Tryd.prog 109 #[.pointer (some ⟨g, 0, none⟩), .agg #[.int .i64 8, .int .i64 (i : Nat), .int .i64 a, .int .i64 v0, .int .i64 v1, .int .u64 v2, .slice aa na ca]] w (Sp w F g ({ s with A := s.A.set i v1 }) (.agg #[.int .i64 0, .int .i64 0, .int .u64 0])) := by
  have B1 : Hid (Below w.heap.size w (((w.alloc (.cells #[.int .i64 8, .int .i64 (i : Nat), .int .i64 a, .int .i64 v0, .int .i64 v1, .int .u64 v2, .slice aa na ca] 133)).alloc (.cells #[.int .i64 0, .int .i64 0, .int .u64 0] 41)).alloc (.cells #[.int .i64 0, .int .i64 0, .int .u64 0] 41))) := hide (bel_al (bel_al (bel_new w _) _) _)
  have hs1 : (w.alloc (.cells #[.int .i64 8, .int .i64 (i : Nat), .int .i64 a, .int .i64 v0, .int .i64 v1, .int .u64 v2, .slice aa na ca] 133)).heap.size = w.heap.size + 1 := by simp
  have hs2 : ((w.alloc (.cells #[.int .i64 8, .int .i64 (i : Nat), .int .i64 a, .int .i64 v0, .int .i64 v1, .int .u64 v2, .slice aa na ca] 133)).alloc (.cells #[.int .i64 0, .int .i64 0, .int .u64 0] 41)).heap.size = w.heap.size + 1 + 1 := by simp
  have Y1 : Hid (Val (((w.alloc (.cells #[.int .i64 8, .int .i64 (i : Nat), .int .i64 a, .int .i64 v0, .int .i64 v1, .int .u64 v2, .slice aa na ca] 133)).alloc (.cells #[.int .i64 0, .int .i64 0, .int .u64 0] 41)).alloc (.cells #[.int .i64 0, .int .i64 0, .int .u64 0] 41)) (w.heap.size + 1) 0 0 0) := hide (by
    have e1 := Val.new (w.alloc (.cells #[.int .i64 8, .int .i64 (i : Nat), .int .i64 a, .int .i64 v0, .int .i64 v1, .int .u64 v2, .slice aa na ca] 133)) 0 0 0
    rw [hs1] at e1
    exact e1.al (bel_new _ _))
  have Y2 : Hid (Val (((w.alloc (.cells #[.int .i64 8, .int .i64 (i : Nat), .int .i64 a, .int .i64 v0, .int .i64 v1, .int .u64 v2, .slice aa na ca] 133)).alloc (.cells #[.int .i64 0, .int .i64 0, .int .u64 0] 41)).alloc (.cells #[.int .i64 0, .int .i64 0, .int .u64 0] 41)) (w.heap.size + 1 + 1) 0 0 0) := hide (by
    have e1 := Val.new ((w.alloc (.cells #[.int .i64 8, .int .i64 (i : Nat), .int .i64 a, .int .i64 v0, .int .i64 v1, .int .u64 v2, .slice aa na ca] 133)).alloc (.cells #[.int .i64 0, .int .i64 0, .int .u64 0] 41)) 0 0 0
    rw [hs2] at e1
    exact e1)
  have Y0 : Hid (Wv (((w.alloc (.cells #[.int .i64 8, .int .i64 (i : Nat), .int .i64 a, .int .i64 v0, .int .i64 v1, .int .u64 v2, .slice aa na ca] 133)).alloc (.cells #[.int .i64 0, .int .i64 0, .int .u64 0] 41)).alloc (.cells #[.int .i64 0, .int .i64 0, .int .u64 0] 41)) w.heap.size 8 (i : Nat) a (v0, v1, v2) (.slice aa na ca)) := hide (((Wv.new w 8 (i : Nat) a v0 v1 v2 (.slice aa na ca)).al (bel_new _ _)).al (bel_new _ _))
  have FL : Hid (∀ k, F k → k < w.heap.size) := hide h.fb
  have H1 := hide (h.bel B1.out)
  have H7 := hide (h17.below (Nat.le_refl _) B1.out)
  clear h h17 hs1 hs2
  go_enter Tryd.func109, Tryd.ntmps109
  go_upto_region 2 with fail
  generalize ((w.alloc (.cells #[.int .i64 8, .int .i64 (i : Nat), .int .i64 a, .int .i64 v0, .int .i64 v1, .int .u64 v2, .slice aa na ca] 133)).alloc (.cells #[.int .i64 0, .int .i64 0, .int .u64 0] 41)).alloc (.cells #[.int .i64 0, .int .i64 0, .int .u64 0] 41) = W1 at *
  obtain ⟨q0, q1, q2, q3, q4, q5, q6⟩ := Y0.out.all
  have hl0 := Y0.out.lt
  obtain ⟨⟨a0, a1, a2⟩, e0, e1, e2⟩ := Y1.out.all
  obtain ⟨⟨b0, b1, b2⟩, d0, d1, d2⟩ := Y2.out.all
  go_wp2_with fail
  refine (Put_in H1.out i x v1 hx).mono ?_
  rintro e w2 ⟨rfl, F', st, ch⟩
  have V1 := (ch.blk (w.heap.size + 1) Y1.out.lt (fun e => by have := FL.out _ e; omega)).trans Y1.out
  have V2 := (ch.blk (w.heap.size + 1 + 1) Y2.out.lt (fun e => by have := FL.out _ e; omega)).trans Y2.out
  obtain ⟨⟨f0, f1, f2⟩, g0, g1, g2⟩ := (show Val w2 (w.heap.size + 1) 0 0 0 from V1).all
  obtain ⟨⟨k0, k1, k2⟩, j0, j1, j2⟩ := (show Val w2 (w.heap.size + 1 + 1) 0 0 0 from V2).all
  have ST := hide (And.intro st ch)
  have NF : Hid (¬ F' (w.heap.size + 1)) := hide (fun hF => by
    rcases ch.grow _ hF with h1 | h1
    · exact absurd (FL.out _ h1) (by omega)
    · exact absurd Y1.out.lt (by omega))
  clear st ch q0 q1 q2 q3 q4 q5 q6 a0 a1 a2 e0 e1 e2 b0 b1 b2 d0 d1 d2 H1 H7
  go_wp2_with fail
  exact ret_v (w.heap.size + 1) rfl rfl (Val.set V1 0 0 0) rfl (Sp.mk rfl (ST.out.1.keep (fun k hk => ne3 (fun e => NF.out (e ▸ hk))) (by rw [size_setCell, size_setCell, size_setCell]; exact Nat.le_refl _)) (((Ch.of_bel B1.out).trans ST.out.2).below (bel_set (Below.refl _ _) (by omega) _ _ _)))
set_option maxRecDepth 20000 in
set_option maxHeartbeats 1000000 in
theorem share_9 {w : World} {F : Nat → Prop} {g : Nat} {s : St} {p : List Addr} (h : Stt w F g s) (h17 : E2 w p) (a v0 v1 v2 : Int) (aa : Option Addr) (na ca : Nat) (i : Nat) (x : Int) (hx : s.A[i]? = some x) : Calls Tryd.prog 109 #[.pointer (some ⟨g, 0, none⟩), .agg #[.int .i64 9, .int .i64 (i : Nat), .int .i64 a, .int .i64 v0, .int .i64 v1, .int .u64 v2, .slice aa na ca]] w (Sp w F g ({ s with A := s.A.set i (wrap64 (x + v1)) }) (.agg #[.int .i64 0, .int .i64 0, .int .u64 0])) := by
  have B1 : Hid (Below w.heap.size w (((w.alloc (.cells #[.int .i64 9, .int .i64 (i : Nat), .int .i64 a, .int .i64 v0, .int .i64 v1, .int .u64 v2, .slice aa na ca] 133)).alloc (.cells #[.int .i64 0, .int .i64 0, .int .u64 0] 41)).alloc (.cells #[.int .i64 0, .int .i64 0, .int .u64 0] 41))) := hide (bel_al (bel_al (bel_new w _) _) _)
  have hs1 : (w.alloc (.cells #[.int .i64 9, .int .i64 (i : Nat), .int .i64 a, .int .i64 v0, .int .i64 v1, .int .u64 v2, .slice aa na ca] 133)).heap.size = w.heap.size + 1 := by simp
  have hs2 : ((w.alloc (.cells #[.int .i64 9, .int .i64 (i : Nat), .int .i64 a, .int .i64 v0, .int .i64 v1, .int .u64 v2, .slice aa na ca] 133)).alloc (.cells #[.int .i64 0, .int .i64 0, .int .u64 0] 41)).heap.size = w.heap.size + 1 + 1 := by simp
  have Y1 : Hid (Val (((w.alloc (.cells #[.int .i64 9, .int .i64 (i : Nat), .int .i64 a, .int .i64 v0, .int .i64 v1, .int .u64 v2, .slice aa na ca] 133)).alloc (.cells #[.int .i64 0, .int .i64 0, .int .u64 0] 41)).alloc (.cells #[.int .i64 0, .int .i64 0, .int .u64 0] 41)) (w.heap.size + 1) 0 0 0) := hide (by
    have e1 := Val.new (w.alloc (.cells #[.int .i64 9, .int .i64 (i : Nat), .int .i64 a, .int .i64 v0, .int .i64 v1, .int .u64 v2, .slice aa na ca] 133)) 0 0 0
    rw [hs1] at e1
    exact e1.al (bel_new _ _))
  have Y2 : Hid (Val (((w.alloc (.cells #[.int .i64 9, .int .i64 (i : Nat), .int .i64 a, .int .i64 v0, .int .i64 v1, .int .u64 v2, .slice aa na ca] 133)).alloc (.cells #[.int .i64 0, .int .i64 0, .int .u64 0] 41)).alloc (.cells #[.int .i64 0, .int .i64 0, .int .u64 0] 41)) (w.heap.size + 1 + 1) 0 0 0) := hide (by
    have e1 := Val.new ((w.alloc (.cells #[.int .i64 9, .int .i64 (i : Nat), .int .i64 a, .int .i64 v0, .int .i64 v1, .int .u64 v2, .slice aa na ca] 133)).alloc (.cells #[.int .i64 0, .int .i64 0, .int .u64 0] 41)) 0 0 0
    rw [hs2] at e1
    exact e1)
  have Y0 : Hid (Wv (((w.alloc (.cells #[.int .i64 9, .int .i64 (i : Nat), .int .i64 a, .int .i64 v0, .int .i64 v1, .int .u64 v2, .slice aa na ca] 133)).alloc (.cells #[.int .i64 0, .int .i64 0, .int .u64 0] 41)).alloc (.cells #[.int .i64 0, .int .i64 0, .int .u64 0] 41)) w.heap.size 9 (i : Nat) a (v0, v1, v2) (.slice aa na ca)) := hide (((Wv.new w 9 (i : Nat) a v0 v1 v2 (.slice aa na ca)).al (bel_new _ _)).al (bel_new _ _))
  have FL : Hid (∀ k, F k → k < w.heap.size) := hide h.fb
  have H1 := hide (h.bel B1.out)
  have H7 := hide (h17.below (Nat.le_refl _) B1.out)
  clear h h17 hs1 hs2
  go_enter Tryd.func109, Tryd.ntmps109
  go_upto_region 2 with fail
  generalize ((w.alloc (.cells #[.int .i64 9, .int .i64 (i : Nat), .int .i64 a, .int .i64 v0, .int .i64 v1, .int .u64 v2, .slice aa na ca] 133)).alloc (.cells #[.int .i64 0, .int .i64 0, .int .u64 0] 41)).alloc (.cells #[.int .i64 0, .int .i64 0, .int .u64 0] 41) = W1 at *
  obtain ⟨q0, q1, q2, q3, q4, q5, q6⟩ := Y0.out.all
  have hl0 := Y0.out.lt
  obtain ⟨⟨a0, a1, a2⟩, e0, e1, e2⟩ := Y1.out.all
  obtain ⟨⟨b0, b1, b2⟩, d0, d1, d2⟩ := Y2.out.all
  go_wp2_with fail
  refine (Add_in H1.out i x v1 hx).mono ?_
  rintro e w2 ⟨rfl, F', st, ch⟩
  have V1 := (ch.blk (w.heap.size + 1) Y1.out.lt (fun e => by have := FL.out _ e; omega)).trans Y1.out
  have V2 := (ch.blk (w.heap.size + 1 + 1) Y2.out.lt (fun e => by have := FL.out _ e; omega)).trans Y2.out
  obtain ⟨⟨f0, f1, f2⟩, g0, g1, g2⟩ := (show Val w2 (w.heap.size + 1) 0 0 0 from V1).all
  obtain ⟨⟨k0, k1, k2⟩, j0, j1, j2⟩ := (show Val w2 (w.heap.size + 1 + 1) 0 0 0 from V2).all
  have ST := hide (And.intro st ch)
  have NF : Hid (¬ F' (w.heap.size + 1)) := hide (fun hF => by
    rcases ch.grow _ hF with h1 | h1
    · exact absurd (FL.out _ h1) (by omega)
    · exact absurd Y1.out.lt (by omega))
  clear st ch q0 q1 q2 q3 q4 q5 q6 a0 a1 a2 e0 e1 e2 b0 b1 b2 d0 d1 d2 H1 H7
  go_wp2_with fail
  exact ret_v (w.heap.size + 1) rfl rfl (Val.set V1 0 0 0) rfl (Sp.mk rfl (ST.out.1.keep (fun k hk => ne3 (fun e => NF.out (e ▸ hk))) (by rw [size_setCell, size_setCell, size_setCell]; exact Nat.le_refl _)) (((Ch.of_bel B1.out).trans ST.out.2).below (bel_set (Below.refl _ _) (by omega) _ _ _)))
set_option maxRecDepth 20000 in
set_option maxHeartbeats 1000000 in
theorem share_11 {w : World} {F : Nat → Prop} {g : Nat} {s : St} {p : List Addr} (h : Stt w F g s) (h17 : E2 w p) (a v0 v1 v2 : Int) (aa : Option Addr) (na ca : Nat) (o : Int) : Calls Tryd.prog 109 #[.pointer (some ⟨g, 0, none⟩), .agg #[.int .i64 11, .int .i64 o, .int .i64 a, .int .i64 v0, .int .i64 v1, .int .u64 v2, .slice aa na ca]] w (Sp w F g (s) (.agg #[.int .i64 0, .int .i64 0, .int .u64 0])) := by
  have B1 : Hid (Below w.heap.size w (((w.alloc (.cells #[.int .i64 11, .int .i64 o, .int .i64 a, .int .i64 v0, .int .i64 v1, .int .u64 v2, .slice aa na ca] 133)).alloc (.cells #[.int .i64 0, .int .i64 0, .int .u64 0] 41)).alloc (.cells #[.int .i64 0, .int .i64 0, .int .u64 0] 41))) := hide (bel_al (bel_al (bel_new w _) _) _)
  have hs1 : (w.alloc (.cells #[.int .i64 11, .int .i64 o, .int .i64 a, .int .i64 v0, .int .i64 v1, .int .u64 v2, .slice aa na ca] 133)).heap.size = w.heap.size + 1 := by simp
  have hs2 : ((w.alloc (.cells #[.int .i64 11, .int .i64 o, .int .i64 a, .int .i64 v0, .int .i64 v1, .int .u64 v2, .slice aa na ca] 133)).alloc (.cells #[.int .i64 0, .int .i64 0, .int .u64 0] 41)).heap.size = w.heap.size + 1 + 1 := by simp
  have Y1 : Hid (Val (((w.alloc (.cells #[.int .i64 11, .int .i64 o, .int .i64 a, .int .i64 v0, .int .i64 v1, .int .u64 v2, .slice aa na ca] 133)).alloc (.cells #[.int .i64 0, .int .i64 0, .int .u64 0] 41)).alloc (.cells #[.int .i64 0, .int .i64 0, .int .u64 0] 41)) (w.heap.size + 1) 0 0 0) := hide (by
    have e1 := Val.new (w.alloc (.cells #[.int .i64 11, .int .i64 o, .int .i64 a, .int .i64 v0, .int .i64 v1, .int .u64 v2, .slice aa na ca] 133)) 0 0 0
    rw [hs1] at e1
    exact e1.al (bel_new _ _))
  have Y2 : Hid (Val (((w.alloc (.cells #[.int .i64 11, .int .i64 o, .int .i64 a, .int .i64 v0, .int .i64 v1, .int .u64 v2, .slice aa na ca] 133)).alloc (.cells #[.int .i64 0, .int .i64 0, .int .u64 0] 41)).alloc (.cells #[.int .i64 0, .int .i64 0, .int .u64 0] 41)) (w.heap.size + 1 + 1) 0 0 0) := hide (by
    have e1 := Val.new ((w.alloc (.cells #[.int .i64 11, .int .i64 o, .int .i64 a, .int .i64 v0, .int .i64 v1, .int .u64 v2, .slice aa na ca] 133)).alloc (.cells #[.int .i64 0, .int .i64 0, .int .u64 0] 41)) 0 0 0
    rw [hs2] at e1
    exact e1)
  have Y0 : Hid (Wv (((w.alloc (.cells #[.int .i64 11, .int .i64 o, .int .i64 a, .int .i64 v0, .int .i64 v1, .int .u64 v2, .slice aa na ca] 133)).alloc (.cells #[.int .i64 0, .int .i64 0, .int .u64 0] 41)).alloc (.cells #[.int .i64 0, .int .i64 0, .int .u64 0] 41)) w.heap.size 11 o a (v0, v1, v2) (.slice aa na ca)) := hide (((Wv.new w 11 o a v0 v1 v2 (.slice aa na ca)).al (bel_new _ _)).al (bel_new _ _))
  have FL : Hid (∀ k, F k → k < w.heap.size) := hide h.fb
  have H1 := hide (h.bel B1.out)
  have H7 := hide (h17.below (Nat.le_refl _) B1.out)
  clear h h17 hs1 hs2
  go_enter Tryd.func109, Tryd.ntmps109
  go_upto_region 2 with fail
  generalize ((w.alloc (.cells #[.int .i64 11, .int .i64 o, .int .i64 a, .int .i64 v0, .int .i64 v1, .int .u64 v2, .slice aa na ca] 133)).alloc (.cells #[.int .i64 0, .int .i64 0, .int .u64 0] 41)).alloc (.cells #[.int .i64 0, .int .i64 0, .int .u64 0] 41) = W1 at *
  obtain ⟨q0, q1, q2, q3, q4, q5, q6⟩ := Y0.out.all
  have hl0 := Y0.out.lt
  obtain ⟨⟨a0, a1, a2⟩, e0, e1, e2⟩ := Y1.out.all
  obtain ⟨⟨b0, b1, b2⟩, d0, d1, d2⟩ := Y2.out.all
  go_wp2_with fail
  have V1 := Y1.out
  have BB : Below w.heap.size W1 (((W1.setCell ⟨w.heap.size + 1, 0, none⟩ (.int .i64 0)).setCell ⟨w.heap.size + 1, 1, none⟩ (.int .i64 0)).setCell ⟨w.heap.size + 1, 2, none⟩ (.int .u64 0)) := bel_set (Below.refl _ _) (by omega) _ _ _
  exact ret_v (w.heap.size + 1) rfl rfl (V1.set 0 0 0) rfl (Sp.mk rfl (H1.out.keep (fun k hk => BB.block k (FL.out k hk)) BB.size) ((Ch.of_bel B1.out).below BB))
end Go.Proofs.YtbiilnpblnjliaaDoor.Ck
