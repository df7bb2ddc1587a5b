/- Texts of this proof, packed. -/
import Derived.Test.YtidjbgemnohbnaaDoorGq12
import Derived.Test.YtidjbgemnohbnaaDoorQoQ
import Derived.Test.YtidjbgemnohbnaaDoorGq9
import Derived.Maps.OwnSet
import Derived.Maps.Views
/- The document's package of layer 16: a reader in memory; come. -/
namespace Go.Proofs.YtidjbgemnohbnaaDoor.Ck
open Go.RowKit

/-- the blocks that the document's reader turns -/
abbrev Fz (g bM bS : Nat) : Nat → Prop := fun k => k = g ∨ k = bM ∨ k = bS
/-- the document's reader in memory: g its block, bM and bS those of its lists; wB: the world at its beginning -/
structure Dz (wB w : World) (g bM bS : Nat) (lo hi : Int) (n : Nat) (vs : List Value) (d : Dr16) : Prop where
  at_ : w.heap[g]? = some (.cells #[.slice (some ⟨bS, 0, none⟩) n n, .slice (some ⟨bM, 0, none⟩) n n, .int .i64 lo, .int .i64 hi, .bool d.ok] 55 (0, 0))
  mt : w.ownsRow 0 4 1 (.slice (some ⟨bM, 0, none⟩) n n) n (bls d.met)
  st : w.ownsRow 0 22 1 (.slice (some ⟨bS, 0, none⟩) n n) n vs
  row : ∀ (i : Nat) (s : List Int) (v : Value), d.out[i]? = some s → vs[i]? = some v → w.ownsRow 0 3 1 v s.length (nts s) ∧ Fits s ∧ s.length ≤ 64
  ml : d.met.length = n
  sl : d.out.length = n
  lg : wB.heap.size ≤ g
  lM : wB.heap.size ≤ bM
  lS : wB.heap.size ≤ bS
  bel : Below wB.heap.size wB w
section
variable {wB w w' : World} {g bM bS n : Nat} {lo hi : Int} {vs : List Value} {d : Dr16}
theorem Dz.vl (h : Dz wB w g bM bS lo hi n vs d) : vs.length = n := by
  have := h.st.1
  omega
theorem Dz.gM (h : Dz wB w g bM bS lo hi n vs d) : g ≠ bM := fun e => own_at h.mt h.at_ (by decide) (by rw [e]; rfl)
theorem Dz.gS (h : Dz wB w g bM bS lo hi n vs d) : g ≠ bS := fun e => own_at h.st h.at_ (by decide) (by rw [e]; rfl)
theorem Dz.MS (h : Dz wB w g bM bS lo hi n vs d) : bM ≠ bS := fun e => own_apart h.mt h.st (by decide) bM rfl (by rw [e]; rfl)
/-- a list of ints that lies in memory is none of the reader's -/
theorem Dz.int (h : Dz wB w g bM bS lo hi n vs d) {B : Nat} {v : Value} {m : Nat} {xs : List Value} (o : w.ownsRow B 3 1 v m xs) : ∀ k, v.ownBlock = some k → ¬ Fz g bM bS k := fun k hk e => by
  rcases e with e | e | e
  · exact own_at o h.at_ (by decide) (by rw [hk, e])
  · exact own_apart h.mt o (by decide) bM rfl (by rw [hk, e])
  · exact own_apart h.st o (by decide) bS rfl (by rw [hk, e])
/-- what is kept where only the reader's blocks and new ones turn -/
theorem Dz.ch (h : Dz wB w g bM bS lo hi n vs d) {F' : Nat → Prop} (c : Ch (Fz g bM bS) F' w w') {B : Nat} {v : Value} {m : Nat} {xs : List Value} (o : w.ownsRow B 3 1 v m xs) : w'.ownsRow B 3 1 v m xs :=
  own_keep o fun k hk => c.blk k (own_type o hk).2.1 (h.int o k hk)
theorem Dz.keep (h : Dz wB w g bM bS lo hi n vs d) (hb : Below w.heap.size w w') : Dz wB w' g bM bS lo hi n vs d :=
  { h with
    at_ := (hb.block g (lt_of_blk h.at_)).trans h.at_
    mt := own_keep h.mt fun k hk => hb.block k (own_type h.mt hk).2.1
    st := own_keep h.st fun k hk => hb.block k (own_type h.st hk).2.1
    row := fun i s v hs hv => by
      obtain ⟨h1, h2⟩ := h.row i s v hs hv
      exact ⟨own_keep h1 fun k hk => hb.block k (own_type h1 hk).2.1, h2⟩
    bel := h.bel.trans (hb.mono h.bel.size) }
/-- the reader's own words turn -/
theorem Dz.word (h : Dz wB w g bM bS lo hi n vs d) {lo' hi' : Int} {ok' : Bool} (t : Tn g w w')
    (hg : w'.heap[g]? = some (.cells #[.slice (some ⟨bS, 0, none⟩) n n, .slice (some ⟨bM, 0, none⟩) n n, .int .i64 lo', .int .i64 hi', .bool ok'] 55 (0, 0))) :
    Dz wB w' g bM bS lo' hi' n vs ⟨d.met, d.out, ok'⟩ ∧ Ch (Fz g bM bS) (Fz g bM bS) w w' :=
  ⟨{ at_ := hg, mt := own_keep h.mt fun k hk => t.blk k (own_type h.mt hk).2.1 (fun e => h.gM ((Option.some.inj hk).trans e).symm), st := own_keep h.st fun k hk => t.blk k (own_type h.st hk).2.1 (fun e => h.gS ((Option.some.inj hk).trans e).symm), row := fun j s v h1 h3 => by
      obtain ⟨q1, q3⟩ := h.row j s v h1 h3
      exact ⟨own_keep q1 fun k hk => t.blk k (own_type q1 hk).2.1 (fun e => h.int q1 k hk (.inl e)), q3⟩, ml := h.ml, sl := h.sl, lg := h.lg, lM := h.lM, lS := h.lS, bel := h.bel.trans (t.bel h.lg h.bel.size) },
   ⟨t.os, t.tape, t.output, t.size, fun k hk hF => t.blk k hk (fun e => hF (.inl e)), fun _ hk => .inl hk⟩⟩
theorem Dz.fail (h : Dz wB w g bM bS lo hi n vs d) : Dz wB (w.setCell ⟨g, 4, none⟩ (.bool false)) g bM bS lo hi n vs ⟨d.met, d.out, false⟩ ∧ Ch (Fz g bM bS) (Fz g bM bS) w (w.setCell ⟨g, 4, none⟩ (.bool false)) := by
  obtain ⟨k1, t1⟩ := set1 h.at_ 4 (.bool false)
  exact h.word t1 k1
/-- a stack, read -/
theorem Dz.stk (h : Dz wB w g bM bS lo hi n vs d) {i : Nat} (hi' : i < n) : ∃ v, vs[i]? = some v ∧ w.cell? ⟨bS, i, none⟩ = some v ∧ w.frozen? ⟨bS, i, none⟩ = false ∧ w.ownsRow 0 3 1 v (d.out.getD i []).length (nts (d.out.getD i [])) ∧ Sl w v (d.out.getD i []) ∧ (d.out.getD i []).length ≤ 64 := by
  obtain ⟨s, hs⟩ : ∃ s, d.out[i]? = some s := ⟨_, List.getElem?_eq_getElem (by rw [h.sl]; exact hi')⟩
  obtain ⟨v, hv⟩ : ∃ v, vs[i]? = some v := ⟨_, List.getElem?_eq_getElem (by rw [h.vl]; exact hi')⟩
  obtain ⟨h1, h3, h4⟩ := h.row i s v hs hv
  have e : d.out.getD i [] = s := by rw [List.getD_eq_getElem?_getD, hs]; rfl
  obtain ⟨q1, q2⟩ := own_cell h.st i v hv
  rw [e]
  refine ⟨v, hv, q1, q2, h1, ?_, h4⟩
  obtain ⟨a, cc, rfl, e1, e2⟩ := own_slice h1
  refine ⟨h3, a, cc, rfl, e1, e2, fun j hj => ?_⟩
  obtain ⟨b, c', eb, _⟩ := own_some h1 (by omega)
  cases eb
  refine ⟨b, 0, rfl, (own_type h1 (k := b) rfl).2.1, ?_⟩
  rw [Nat.zero_add]
  exact (own_cell h1 _ _ (nts_at (by rw [List.getD_eq_getElem?_getD, List.getElem?_eq_getElem hj]; rfl))).1
theorem Dz.met (h : Dz wB w g bM bS lo hi n vs d) {i : Nat} (hi' : i < n) : w.cell? ⟨bM, i, none⟩ = some (.bool (d.met.getD i false)) ∧ w.frozen? ⟨bM, i, none⟩ = false :=
  own_cell h.mt i _ (bls_at (by rw [List.getD_eq_getElem?_getD, List.getElem?_eq_getElem (show i < d.met.length by rw [h.ml]; exact hi')]; rfl))
/-- an instruction is come to -/
theorem Dz.set (h : Dz wB w g bM bS lo hi n vs d) {q : Nat} (hq : q < n) {va : Value} {t : List Int} (o : w.ownsRow 0 3 1 va t.length (nts t)) (hf : Fits t) (ht : t.length ≤ 64) :
    Dz wB ((w.setCell ⟨bM, q, none⟩ (.bool true)).setCell ⟨bS, q, none⟩ va) g bM bS lo hi n (vs.set q va) ⟨d.met.set q true, d.out.set q t, d.ok⟩ ∧ Ch (Fz g bM bS) (Fz g bM bS) w ((w.setCell ⟨bM, q, none⟩ (.bool true)).setCell ⟨bS, q, none⟩ va) := by
  have hs : ((w.setCell ⟨bM, q, none⟩ (.bool true)).setCell ⟨bS, q, none⟩ va).heap.size = w.heap.size := by rw [size_setCell, size_setCell]
  have hb : ∀ k, k ≠ bM → k ≠ bS → ((w.setCell ⟨bM, q, none⟩ (.bool true)).setCell ⟨bS, q, none⟩ va).heap[k]? = w.heap[k]? := fun k h1 h2 => (Below.heap_setCell _ _ _ _ h2).trans (Below.heap_setCell _ _ _ _ h1)
  have hc : Ch (Fz g bM bS) (Fz g bM bS) w ((w.setCell ⟨bM, q, none⟩ (.bool true)).setCell ⟨bS, q, none⟩ va) := ⟨rfl, rfl, rfl, by rw [hs]; exact Nat.le_refl _, fun k hk hF => hb k (fun e => hF (.inr (.inl e))) (fun e => hF (.inr (.inr e))), fun k hk => .inl hk⟩
  refine ⟨{ at_ := (hb g h.gM h.gS).trans h.at_, mt := ?_, st := ?_, row := fun i s v hs' hv => ?_, ml := by simpa using h.ml, sl := by simpa using h.sl, lg := h.lg, lM := h.lM, lS := h.lS, bel := h.bel.trans (hc.bel (fun k hk => by rcases hk with rfl | rfl | rfl; exact h.lg; exact h.lM; exact h.lS) h.bel.size) }, hc⟩
  · have h1 := own_set h.mt q (.bool true)
    rw [bls_set] at h1
    exact own_keep h1 fun k hk => Below.heap_setCell _ _ _ _ (fun e => h.MS ((Option.some.inj hk).trans e))
  · have h1 : (w.setCell ⟨bM, q, none⟩ (.bool true)).ownsRow 0 22 1 (.slice (some ⟨bS, 0, none⟩) n n) n vs := own_keep h.st fun k hk => Below.heap_setCell _ _ _ _ (fun e => h.MS ((Option.some.inj hk).trans e).symm)
    exact own_set h1 q va
  · by_cases e : i = q
    · subst e
      have e1 : s = t := by
        have : (d.out.set i t)[i]? = some t := List.getElem?_set_self (by rw [h.sl]; exact hq)
        have h9 : (d.out.set i t)[i]? = some s := hs'
        rw [this] at h9
        exact (Option.some.inj h9).symm
      have e2 : v = va := by
        have : (vs.set i va)[i]? = some va := List.getElem?_set_self (by rw [h.vl]; exact hq)
        rw [this] at hv
        exact (Option.some.inj hv).symm
      subst e1 e2
      exact ⟨h.ch hc o, hf, ht⟩
    · have h9 : (d.out.set q t)[i]? = some s := hs'
      rw [List.getElem?_set_ne (Ne.symm e)] at h9 hv
      obtain ⟨h1, h3⟩ := h.row i s v h9 hv
      exact ⟨h.ch hc h1, h3⟩
end
/-- what come leaves -/
def RcP (wB w : World) (g bM bS : Nat) (lo hi : Int) (n : Nat) (d : Dr16) (q : Int) (t : List Int) (e : Ending) (w' : World) : Prop := e = .returned (.bool (freshD lo hi d q t)) ∧ ∃ vs', Dz wB w' g bM bS lo hi n vs' (comeD lo hi d q t) ∧ Ch (Fz g bM bS) (Fz g bM bS) w w'
theorem bad_lo {lo hi q : Int} {d : Dr16} {t : List Int} (h : q < lo ∨ hi ≤ q) : badD lo hi d q t = true := by
  unfold badD
  rcases h with h | h <;> simp [h]
theorem bad_in {lo hi : Int} {q : Nat} {d : Dr16} {t : List Int} (h1 : lo ≤ q) (h2 : (q : Int) < hi) : badD lo hi d q t = (d.met.getD q false && !decide (d.out.getD q [] = t)) := by
  unfold badD
  rw [decide_eq_false (by omega), decide_eq_false (by omega), Int.toNat_natCast]
  rfl
set_option maxRecDepth 20000 in
set_option maxHeartbeats 4000000 in
theorem rcome_any {wB w : World} {g bM bS n : Nat} {lo hi : Int} {vs : List Value} {d : Dr16} (h : Dz wB w g bM bS lo hi n vs d) (h0 : 0 ≤ lo) (hh : hi ≤ n) (hn : n ≤ 8192) (q : Int) {va : Value} {t : List Int} (o : w.ownsRow 0 3 1 va t.length (nts t)) (hf : Fits t) (ht : t.length ≤ 64) :
    Calls Tryd.prog 16 #[.pointer (some ⟨g, 0, none⟩), .int .i64 q, va] w (RcP wB w g bM bS lo hi n d q t) := by
  have y0 : w.cell? ⟨g, 0, none⟩ = some (.slice (some ⟨bS, 0, none⟩) n n) := blk_cell h.at_ 0 _ rfl
  have y1 : w.cell? ⟨g, 1, none⟩ = some (.slice (some ⟨bM, 0, none⟩) n n) := blk_cell h.at_ 1 _ rfl
  have y2 : w.cell? ⟨g, 2, none⟩ = some (.int .i64 lo) := blk_cell h.at_ 2 _ rfl
  have y3 : w.cell? ⟨g, 3, none⟩ = some (.int .i64 hi) := blk_cell h.at_ 3 _ rfl
  have y4 := blk_cell h.at_ 4 _ rfl
  have f4 := blk_frz h.at_ 4
  have SLT : Hid (Sl w va t) := hide (by
    obtain ⟨a, cc, rfl, e1, e2⟩ := own_slice o
    refine ⟨hf, a, cc, rfl, e1, e2, fun j hj => ?_⟩
    obtain ⟨b, c', eb, _⟩ := own_some o (by omega)
    cases eb
    refine ⟨b, 0, rfl, (own_type o (k := b) rfl).2.1, ?_⟩
    rw [Nat.zero_add]
    exact (own_cell o _ _ (nts_at (by rw [List.getD_eq_getElem?_getD, List.getElem?_eq_getElem hj]; rfl))).1)
  have HF := hide (fun (q1 : Nat) => (h.keep (below_drewN (Below.refl _ _) q1)).fail)
  have BADP : Hid (badD lo hi d q t = true → ∀ q1, RcP wB w g bM bS lo hi n d q t (.returned (.bool false)) ((w.drewN q1).setCell ⟨g, 4, none⟩ (.bool false))) := hide (fun e q1 => by
    unfold RcP freshD comeD
    rw [if_pos e, if_pos e]
    obtain ⟨r1, r2⟩ := HF.out q1
    exact ⟨rfl, vs, r1, (Ch.of_bel (below_drewN (Below.refl _ _) q1)).trans r2⟩)
  obtain ⟨aT, cT, rfl, _⟩ := own_slice o
  by_cases h1 : lo ≤ q
  rotate_left 1
  · have NO := hide (BADP.out (bad_lo (.inl (by omega))) 0)
    have h1' : q < lo := by omega
    clear h h0 hh o hf HF BADP SLT
    go_enter Tryd.func16, Tryd.ntmps16
    go_wp2_with fail
    go_ret
    exact NO.out
  by_cases h2 : q < hi
  rotate_left 1
  · have NO := hide (BADP.out (bad_lo (.inr (by omega))) 0)
    have h2' : hi ≤ q := by omega
    clear h h0 hh o hf HF BADP SLT
    go_enter Tryd.func16, Tryd.ntmps16
    go_wp2_with fail
    go_ret
    exact NO.out
  obtain ⟨k, rfl⟩ : ∃ k : Nat, q = k := ⟨q.toNat, by omega⟩
  have hk : k < n := by omega
  have hk' : (k : Int) < (n : Int) := by omega
  obtain ⟨zM, fM⟩ := h.met hk
  obtain ⟨v0, hv0, zS, fS, o0, s0, l0⟩ := h.stk hk
  have HH := hide h
  have HO := hide o
  have HX := hide (And.intro hk (And.intro hf (And.intro ht hn)))
  have BE := hide (bad_in (d := d) (t := t) h1 h2)
  have EQ := hide (rsame_any s0 SLT.out ⟨by omega, by omega⟩)
  obtain ⟨a0, c0, rfl, _⟩ := own_slice o0
  have GOODP : Hid (badD lo hi d (k : Int) t = false → ∀ w' vs', Dz wB w' g bM bS lo hi n vs' ⟨d.met.set k true, d.out.set k t, d.ok⟩ → Ch (Fz g bM bS) (Fz g bM bS) w w' → RcP wB w g bM bS lo hi n d (k : Int) t (.returned (.bool (!d.met.getD k false))) w') := hide (fun e w' vs' r1 r2 => by
    unfold RcP freshD comeD
    rw [if_neg (by rw [e]; decide), if_neg (by rw [e]; decide), Int.toNat_natCast]
    exact ⟨rfl, vs', r1, r2⟩)
  clear h o hf ht hv0 o0 s0 HF SLT
  cases hm : d.met.getD k false with
  | true =>
    rw [hm] at zM BE
    by_cases hst : d.out.getD k [] = t
    · have EQ := hide (by have h9 := EQ.out; rw [eq_list, decide_eq_true hst] at h9; exact h9)
      have GOOD := hide (GOODP.out (by rw [BE.out, hst]; simp))
      rw [hm] at GOOD
      have HM := hide hm
      clear hm hst BADP GOODP BE
      go_enter Tryd.func16, Tryd.ntmps16
      go_wp2_with fail
      refine EQ.out.mono ?_
      rintro e w1 ⟨rfl, k1, rfl⟩
      have BD := hide (drew_bel w k1)
      have D1 := hide (HH.out.keep BD.out)
      have C1 := hide (Ch.of_bel (F := Fz g bM bS) BD.out)
      have O1 := hide (own_keep HO.out (w' := w.drewN k1) (fun k hk => rfl))
      have y1 := blk_cell D1.out.at_ 1 _ rfl
      have y0 := blk_cell D1.out.at_ 0 _ rfl
      obtain ⟨zM, fM⟩ := D1.out.met HX.out.1
      rw [HM.out] at zM
      generalize w.drewN k1 = wq at *
      go_wp2_with fail
      refine wp_region_T (S := fun wz => wz.cell? ⟨g, 1, none⟩ = some (.slice (some ⟨bM, 0, none⟩) n n) ∧ wz.cell? ⟨g, 0, none⟩ = some (.slice (some ⟨bS, 0, none⟩) n n)) (fun _ => true) mixed ⟨y1, y0⟩ (fun hH => ?_)
      have D2 := hide (D1.out.keep (show Below wq.heap.size wq wq.drew from bel_drawn (Below.refl _ _)))
      have O2 := hide (own_keep O1.out (w' := wq.drew) (fun k hk => rfl))
      have C2 := hide C1.out.drew
      clear D1 O1 C1 y0 y1 zM fM
      generalize wq.drew = wd at *
      refine Tm 0 ?_
      simp only [Act.put, SA]
      refine Tm 1 ?_
      simp only [Act.put, SA]
      refine Tm 2 ?_
      simp only [Act.put, SA]
      refine Tl 3 (v := ?_) ?_ hH ?_
      rotate_left 1
      · (intro w hSw; have q := hSw.1; clear hSw; go_simp <;> with_reducible rfl)
      simp only [Act.put, SA]
      refine Tm 4 ?_
      simp only [Act.put, SA]
      refine Tm 5 ?_
      simp only [Act.put, SA]
      refine Tm 6 ?_
      simp only [Act.put, SA]
      refine Tm 7 ?_
      simp only [Act.put, SA]
      refine Tl 8 (v := ?_) ?_ hH ?_
      rotate_left 1
      · (intro w hSw; have q := hSw.2; clear hSw; go_simp <;> with_reducible rfl)
      simp only [Act.put, SA]
      refine Tm 9 ?_
      simp only [Act.put, SA]
      refine Tm 10 ?_
      simp only [Act.put, SA]
      have S2 : Hid (wd.cell? ⟨g, 1, none⟩ = some (.slice (some ⟨bM, 0, none⟩) n n) ∧ wd.cell? ⟨g, 0, none⟩ = some (.slice (some ⟨bS, 0, none⟩) n n)) := hide hH
      obtain ⟨zM, zF⟩ := D2.out.met HX.out.1
      refine Tm 11 ?_
      simp only [Act.put, SA]
      refine Tr 12 (fun K1 hK1 => ?_)
      go_simp
      have T6 := hide (show Tn bM wd (wd.setCell ⟨bM, k, none⟩ (.bool true)) from ⟨rfl, rfl, rfl, Nat.le_of_eq (size_setCell _ _ _).symm, fun _ _ hk => Below.heap_setCell _ _ _ _ hk⟩)
      refine hK1.out _ _ (fun _ => ⟨T6.out.cell S2.out.1 D2.out.gM, T6.out.cell S2.out.2 D2.out.gM⟩) (fun _ => ?_)
      clear hK1 K1 hH
      refine Tm 13 ?_
      simp only [Act.put, SA]
      obtain ⟨v0', hv0', yS, fS', _⟩ := D2.out.stk HX.out.1
      have zS := T6.out.cell yS D2.out.MS.symm
      have gS : (wd.setCell ⟨bM, k, none⟩ (.bool true)).frozen? ⟨bS, k, none⟩ = false := by
        have e := T6.out.blk bS (own_type D2.out.st rfl).2.1 D2.out.MS.symm
        unfold World.frozen? at fS' ⊢
        rw [e]
        exact fS'
      refine Tr 14 (fun K1 hK1 => ?_)
      go_simp
      have RC := hide (D2.out.set HX.out.1 O2.out HX.out.2.1 HX.out.2.2.1)
      have S7 := hide (show _ ∧ _ from ⟨blk_cell RC.out.1.at_ 1 _ rfl, blk_cell RC.out.1.at_ 0 _ rfl⟩)
      refine hK1.out _ _ (fun _ => S7.out) (fun _ => ?_)
      clear hK1 K1 zM zF yS fS' zS gS hv0' S7 T6
      refine T_done (by kernel_rfl) ?_ _
      clear S2
      generalize (wd.setCell ⟨bM, k, none⟩ (.bool true)).setCell ⟨bS, k, none⟩ (.slice aT t.length cT) = w7 at *
      go_wp2_with fail
      go_ret
      exact GOOD.out _ _ RC.out.1 (C2.out.trans RC.out.2)
    · have EQ := hide (by have h9 := EQ.out; rw [eq_list, decide_eq_false hst] at h9; exact h9)
      have NO := hide (BADP.out (by rw [BE.out, decide_eq_false hst]; rfl))
      clear hm hst BADP GOODP BE
      go_enter Tryd.func16, Tryd.ntmps16
      go_wp2_with fail
      refine EQ.out.mono ?_
      rintro e w1 ⟨rfl, k1, rfl⟩
      have y4 := blk_cell (HH.out.keep (drew_bel w k1)).at_ 4 _ rfl
      have f4 := blk_frz (HH.out.keep (drew_bel w k1)).at_ 4
      go_wp2_with fail
      go_ret
      exact NO.out k1
  | false =>
    rw [hm] at zM BE
    have GOOD := hide (GOODP.out (by rw [BE.out]; rfl))
    rw [hm] at GOOD
    have D1 := hide HH.out
    have O1 := hide HO.out
    have C1 := hide (Ch.refl (Fz g bM bS) w)
    clear hm BADP GOODP BE EQ
    go_enter Tryd.func16, Tryd.ntmps16
    go_wp2_with fail
    refine wp_region_T (S := fun wz => wz.cell? ⟨g, 1, none⟩ = some (.slice (some ⟨bM, 0, none⟩) n n) ∧ wz.cell? ⟨g, 0, none⟩ = some (.slice (some ⟨bS, 0, none⟩) n n)) (fun _ => true) mixed ⟨y1, y0⟩ (fun hH => ?_)
    have D2 := hide (D1.out.keep (show Below w.heap.size w w.drew from bel_drawn (Below.refl _ _)))
    have O2 := hide (own_keep O1.out (w' := w.drew) (fun k hk => rfl))
    have C2 := hide C1.out.drew
    clear D1 O1 C1 y0 y1 zM fM
    generalize w.drew = wd at *
    refine Tm 0 ?_
    simp only [Act.put, SA]
    refine Tm 1 ?_
    simp only [Act.put, SA]
    refine Tm 2 ?_
    simp only [Act.put, SA]
    refine Tl 3 (v := ?_) ?_ hH ?_
    rotate_left 1
    · (intro w hSw; have q := hSw.1; clear hSw; go_simp <;> with_reducible rfl)
    simp only [Act.put, SA]
    refine Tm 4 ?_
    simp only [Act.put, SA]
    refine Tm 5 ?_
    simp only [Act.put, SA]
    refine Tm 6 ?_
    simp only [Act.put, SA]
    refine Tm 7 ?_
    simp only [Act.put, SA]
    refine Tl 8 (v := ?_) ?_ hH ?_
    rotate_left 1
    · (intro w hSw; have q := hSw.2; clear hSw; go_simp <;> with_reducible rfl)
    simp only [Act.put, SA]
    refine Tm 9 ?_
    simp only [Act.put, SA]
    refine Tm 10 ?_
    simp only [Act.put, SA]
    have S2 : Hid (wd.cell? ⟨g, 1, none⟩ = some (.slice (some ⟨bM, 0, none⟩) n n) ∧ wd.cell? ⟨g, 0, none⟩ = some (.slice (some ⟨bS, 0, none⟩) n n)) := hide hH
    obtain ⟨zM, zF⟩ := D2.out.met HX.out.1
    refine Tm 11 ?_
    simp only [Act.put, SA]
    refine Tr 12 (fun K1 hK1 => ?_)
    go_simp
    have T6 := hide (show Tn bM wd (wd.setCell ⟨bM, k, none⟩ (.bool true)) from ⟨rfl, rfl, rfl, Nat.le_of_eq (size_setCell _ _ _).symm, fun _ _ hk => Below.heap_setCell _ _ _ _ hk⟩)
    refine hK1.out _ _ (fun _ => ⟨T6.out.cell S2.out.1 D2.out.gM, T6.out.cell S2.out.2 D2.out.gM⟩) (fun _ => ?_)
    clear hK1 K1 hH
    refine Tm 13 ?_
    simp only [Act.put, SA]
    obtain ⟨v0', hv0', yS, fS', _⟩ := D2.out.stk HX.out.1
    have zS := T6.out.cell yS D2.out.MS.symm
    have gS : (wd.setCell ⟨bM, k, none⟩ (.bool true)).frozen? ⟨bS, k, none⟩ = false := by
      have e := T6.out.blk bS (own_type D2.out.st rfl).2.1 D2.out.MS.symm
      unfold World.frozen? at fS' ⊢
      rw [e]
      exact fS'
    refine Tr 14 (fun K1 hK1 => ?_)
    go_simp
    have RC := hide (D2.out.set HX.out.1 O2.out HX.out.2.1 HX.out.2.2.1)
    have S7 := hide (show _ ∧ _ from ⟨blk_cell RC.out.1.at_ 1 _ rfl, blk_cell RC.out.1.at_ 0 _ rfl⟩)
    refine hK1.out _ _ (fun _ => S7.out) (fun _ => ?_)
    clear hK1 K1 zM zF yS fS' zS gS hv0' S7 T6
    refine T_done (by kernel_rfl) ?_ _
    clear S2
    generalize (wd.setCell ⟨bM, k, none⟩ (.bool true)).setCell ⟨bS, k, none⟩ (.slice aT t.length cT) = w7 at *
    go_wp2_with fail
    go_ret
    exact GOOD.out _ _ RC.out.1 (C2.out.trans RC.out.2)
end Go.Proofs.YtidjbgemnohbnaaDoor.Ck

/- Maps of ints to bools, made and filled in the call. (BMap as in act's texts.) -/
namespace Go.Proofs.YtidjbgemnohbnaaDoor.Ck
open Go.RowKit

def up {α : Type} (f : Int → α) (o : Int) (x : α) : Int → α := fun y => if y = o then x else f y
/-- block b is a map that holds L -/
def BMap (w : World) (b n : Nat) (L : Int → Bool) : Prop := ∃ D, w.ownsMap (H := Unit) Tryd.prog 3 (plainElem Tryd.prog 4) b n D ∧ ∀ x : Int, (Lit.int .i64 x).wf = true → D.atKey (.int .i64 x) (.lit (.bool false)) = .lit (.bool (L x))
theorem BMap.made (w : World) : BMap (w.alloc (.map #[] 0)) w.heap.size 0 (fun _ => false) := ⟨_, World.ownsMap_made w _ _ _, fun _ _ => rfl⟩
section
variable {w w' : World} {b n : Nat} {L : Int → Bool}
theorem BMap.blk (h : BMap w b n L) : ∃ es c, w.heap[b]? = some (.map es c) := by
  obtain ⟨D, ⟨es, clock, h1, h2⟩, h3⟩ := h
  exact ⟨es, clock, h1⟩
theorem BMap.keep (h : BMap w b n L) (hb : w'.heap[b]? = w.heap[b]?) : BMap w' b n L := by
  obtain ⟨D, ⟨es, clock, h1, h2⟩, h3⟩ := h
  exact ⟨D, ⟨es, clock, hb.trans h1, h2⟩, h3⟩
theorem BMap.lt (h : BMap w b n L) : b < w.heap.size := by
  obtain ⟨_, _, h1⟩ := h.blk
  exact lt_of_blk h1
theorem BMap.look (h : BMap w b n L) {x : Int} (hw : (Lit.int .i64 x).wf = true) : (Instr.lookup 57 (.map (some b)) (.int .i64 x) false).run Tryd.prog w = .ok (.bool (L x)) w := by
  obtain ⟨D, ho, hD⟩ := h
  obtain ⟨v, ps, hrun, hv⟩ := ho.lookup (t := 57) (e := 4) (Go.Maps.int_keyed Tryd.underlying3) Tryd.underlying57 (z := .bool false) (by kernel_rfl) (plainElem_bool Tryd.underlying4 false) (Go.Maps.keyOf_int_mk Tryd.underlying3 hw)
  rw [hD x hw] at hv
  have e : v = .bool (L x) := by
    cases v <;> simp [plainElem, Tryd.underlying4] at hv
    rw [hv.1]
  rw [e] at hrun
  exact hrun
theorem BMap.put (h : BMap w b n L) (hn : n < maxLen) {x : Int} (hw : (Lit.int .i64 x).wf = true) (v : Bool) : ∃ w', (Instr.mapUpdate 57 (.map (some b)) (.int .i64 x) (.bool v)).run Tryd.prog w = .ok () w' ∧ BMap w' b (n + 1) (up L x v) ∧ w.grownBy w' (some b) := by
  obtain ⟨D, ho, hD⟩ := h
  have hk := Go.Maps.keyOf_int_mk Tryd.underlying3 hw
  have KK := Go.Maps.int_keyed Tryd.underlying3
  obtain ⟨w', r, o, g⟩ := ho.update KK Tryd.underlying57 hn hk (plainElem_bool Tryd.underlying4 v)
  refine ⟨w', r, ⟨_, o, fun y hy => ?_⟩, g⟩
  unfold up
  by_cases e : y = x
  · rw [if_pos e, e]
    exact Go.Maps.atKey_put_same ho.isMap (KK.key hk) _ _
  · rw [if_neg e]
    exact (Go.Maps.atKey_put_other (fun h => e (by injection h)) _ _).trans (hD y hy)
end
/-- how many are done -/
def cardD (N : Nat) (dn : Int → Bool) : Nat := (List.range N).countP (fun (i : Nat) => dn (i : Int))
theorem card_le (N : Nat) (dn : Int → Bool) : cardD N dn ≤ N := by
  have := List.countP_le_length (p := fun i : Nat => dn (i : Int)) (l := List.range N)
  unfold cardD
  simpa using this
theorem card_up {dn : Int → Bool} {k : Nat} (hd : dn (k : Int) = false) : ∀ N, cardD N (up dn (k : Int) true) = cardD N dn + (if k < N then 1 else 0)
  | 0 => rfl
  | N + 1 => by
    have ih := card_up hd N
    unfold cardD at ih ⊢
    rw [List.range_succ, List.countP_append, List.countP_append, ih]
    simp only [List.countP_cons, List.countP_nil, Nat.zero_add]
    by_cases e : N = k
    · subst e
      have e1 : up dn (N : Int) true (N : Int) = true := by unfold up; rw [if_pos rfl]
      rw [e1, hd]
      simp
    · have e1 : up dn (k : Int) true (N : Int) = dn (N : Int) := by unfold up; rw [if_neg (by omega)]
      rw [e1]
      by_cases h1 : k < N
      · rw [if_pos h1, if_pos (show k < N + 1 by omega)]
        omega
      · rw [if_neg h1, if_neg (show ¬ k < N + 1 by omega)]
        omega
/-- all that lies in memory while a function is gone through -/
structure Wz (wB W : World) (g bM bS eb bm : Nat) (lo hi : Int) (N : Nat) (EO : Obj) (d : Dr16) (dn : Int → Bool) : Prop where
  dz : ∃ vs, Dz wB W g bM bS lo hi N vs d
  eo : W.heap[eb]? = some EO
  mp : BMap W bm (cardD N dn) dn
section
variable {wB W W' : World} {g bM bS eb bm N : Nat} {lo hi : Int} {st pa : Value} {vl : Value} {d d' : Dr16} {dn : Int → Bool}
abbrev EOb (a b l : Value) : Obj := .cells #[a, b, l] 46 (0, 0)
theorem Wz.notF (x : Wz wB W g bM bS eb bm lo hi N (EOb st pa vl) d dn) : ¬ Fz g bM bS eb ∧ ¬ Fz g bM bS bm := by
  obtain ⟨vs, D⟩ := x.dz
  obtain ⟨es, cc, hm⟩ := x.mp.blk
  have he := x.eo
  obtain ⟨_, _, c1, q1⟩ := own_type D.mt (k := bM) rfl
  obtain ⟨_, _, c2, q2⟩ := own_type D.st (k := bS) rfl
  have q0 := D.at_
  refine ⟨fun e => ?_, fun e => ?_⟩
  · rcases e with e | e | e
    · rw [e, q0] at he
      injection he with he
      injection he with _ h2 _
      exact absurd h2 (by decide)
    · rw [e, q1] at he
      injection he with he
      injection he with _ h2 _
      exact absurd h2 (by decide)
    · rw [e, q2] at he
      injection he with he
      injection he with _ h2 _
      exact absurd h2 (by decide)
  · rcases e with e | e | e
    · rw [e, q0] at hm
      cases hm
    · rw [e, q1] at hm
      cases hm
    · rw [e, q2] at hm
      cases hm
theorem Wz.turn (x : Wz wB W g bM bS eb bm lo hi N (EOb st pa vl) d dn) {F' : Nat → Prop} (c : Ch (Fz g bM bS) F' W W') {vs' : List Value} (D' : Dz wB W' g bM bS lo hi N vs' d') : Wz wB W' g bM bS eb bm lo hi N (EOb st pa vl) d' dn :=
  ⟨⟨vs', D'⟩, (c.blk eb (lt_of_blk x.eo) x.notF.1).trans x.eo, x.mp.keep (c.blk bm x.mp.lt x.notF.2)⟩
theorem Wz.keep (x : Wz wB W g bM bS eb bm lo hi N (EOb st pa vl) d dn) (hb : Below W.heap.size W W') : Wz wB W' g bM bS eb bm lo hi N (EOb st pa vl) d dn := by
  obtain ⟨vs, D⟩ := x.dz
  exact x.turn (Ch.of_bel (F := Fz g bM bS) hb) (D.keep hb)
/-- one more is done -/
theorem Wz.did (x : Wz wB W g bM bS eb bm lo hi N (EOb st pa vl) d dn) {k : Nat} (hk : k < N) (hN : N ≤ 8192) (hd : dn (k : Int) = false) (hB : wB.heap.size ≤ bm) : ∃ W', (Instr.mapUpdate 57 (.map (some bm)) (.int .i64 (k : Nat)) (.bool true)).run Tryd.prog W = .ok () W' ∧ Wz wB W' g bM bS eb bm lo hi N (EOb st pa vl) d (up dn (k : Int) true) ∧ Ch (fun q => q = bm) (fun q => q = bm) W W' := by
  have hc := card_le N dn
  obtain ⟨W', r, m, hg⟩ := x.mp.put (n := cardD N dn) (by unfold maxLen; omega) (wf_int (x := (k : Int)) (by omega) (by omega)) true
  have hcu := card_up hd N
  rw [if_pos hk] at hcu
  rw [← hcu] at m
  have hblk : ∀ q, q < W.heap.size → q ≠ bm → W'.heap[q]? = W.heap[q]? := fun q h1 h2 => hg.block q h1 (fun e => h2 (by cases e; rfl))
  obtain ⟨vs, D⟩ := x.dz
  obtain ⟨n1, n2⟩ := x.notF
  have ng : g ≠ bm := fun e => n2 (.inl e.symm)
  have nM : bM ≠ bm := fun e => n2 (.inr (.inl e.symm))
  have nS : bS ≠ bm := fun e => n2 (.inr (.inr e.symm))
  obtain ⟨es, cc, hm⟩ := x.mp.blk
  have nI : ∀ {B : Nat} {v : Value} {m : Nat} {xs : List Value}, W.ownsRow B 3 1 v m xs → ∀ q, v.ownBlock = some q → q ≠ bm := fun o q hq e => by
    obtain ⟨_, _, c1, q1⟩ := own_type o hq
    rw [e, hm] at q1
    cases q1
  refine ⟨W', r, ⟨⟨vs, ?_⟩, ?_, m⟩, ⟨hg.os, hg.tape, hg.output, hg.size, fun q h1 h2 => hblk q h1 h2, fun _ h => .inl h⟩⟩
  · exact { D with
      at_ := (hblk g (lt_of_blk D.at_) ng).trans D.at_
      mt := own_keep D.mt fun q hq => hblk q (own_type D.mt hq).2.1 (fun e => nM ((Option.some.inj hq).trans e))
      st := own_keep D.st fun q hq => hblk q (own_type D.st hq).2.1 (fun e => nS ((Option.some.inj hq).trans e))
      row := fun i s v hs hv => by
        obtain ⟨h1, h2⟩ := D.row i s v hs hv
        exact ⟨own_keep h1 fun q hq => hblk q (own_type h1 hq).2.1 (nI h1 q hq), h2⟩
      bel := D.bel.trans ⟨hg.os, hg.tape, hg.output, hg.size, fun q hq => hblk q (by have := D.bel.size; omega) (by omega)⟩ }
  · have hne : eb ≠ bm := fun e => by
      have he := x.eo
      rw [e, hm] at he
      cases he
    exact (hblk eb (lt_of_blk x.eo) hne).trans x.eo
end
end Go.Proofs.YtidjbgemnohbnaaDoor.Ck
