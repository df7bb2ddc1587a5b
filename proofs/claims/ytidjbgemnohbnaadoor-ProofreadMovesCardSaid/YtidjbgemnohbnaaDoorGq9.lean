/- Texts of this proof, packed. -/
import Derived.Test.YtidjbgemnohbnaaDoorGq5
import Derived.Test.YtidjbgemnohbnaaDoorGq8
/- Package proofread: a reader in memory, with what it has gone through; no Go text is walked here. -/
namespace Go.Proofs.YtidjbgemnohbnaaDoor.Ck
open Go.RowKit

def bls (l : List Bool) : List Value := l.map Value.bool
def nns (l : List Nat) : List Value := l.map fun (n : Nat) => Value.int .i64 (n : Int)
theorem nns_at {l : List Nat} {i x : Nat} (h : l[i]? = some x) : (nns l)[i]? = some (.int .i64 (x : Int)) := by simp [nns, h]
theorem nns_nts (l : List Nat) : nns l = nts (l.map fun (n : Nat) => (n : Int)) := by simp [nns, nts]
theorem bls_at {l : List Bool} {i : Nat} {x : Bool} (h : l[i]? = some x) : (bls l)[i]? = some (.bool x) := by simp [bls, h]
theorem bls_set (l : List Bool) (i : Nat) (x : Bool) : (bls l).set i (.bool x) = bls (l.set i x) := by simp [bls]
theorem count_set : ∀ (l : List Bool) (n : Nat), l[n]? = some false → (l.set n true).count true = l.count true + 1
  | [], n, h => by simp at h
  | x :: l, 0, h => by
    simp at h
    subst h
    simp
  | x :: l, n + 1, h => by
    have ih := count_set l n (by simpa using h)
    simp only [List.set_cons_succ, List.count_cons, ih]
    omega
theorem own_low {w : World} {B B' : Nat} {T : TypeId} {n : Nat} {v : Value} {len : Nat} {xs : List Value} (h : w.ownsRow B T n v len xs) (hB : B' ≤ B) : w.ownsRow B' T n v len xs := by
  obtain ⟨h1, h2 | ⟨g, cap, cur, hv, hg, r⟩⟩ := h
  · exact ⟨h1, .inl h2⟩
  · exact ⟨h1, .inr ⟨g, cap, cur, hv, Nat.le_trans hB hg, r⟩⟩
/-- what a reader reads, and never turns: its code, its function's locals; wB: the world at its beginning -/
structure Bs (wB : World) (p : List Addr) (vP vC vF vB vLo : Value) (c : Cd) (f : Fn3) : Prop where
  ec : Ec wB p
  cv : Cv wB vP vC vF vB c
  lo : Sl wB vLo f.lo
  n : c.B.length ≤ 8192
  fm : Fm c
  st : 0 ≤ f.st
/-- a reader: g its block, bM and bS those of its lists, F all that it may turn -/
structure Rs (wB w : World) (F : Nat → Prop) (g bM bS : Nat) (vP vC vF vB vLo : Value) (c : Cd) (f : Fn3) (hi : Int) (vL : Value) (vs : List Value) (m : Rw16) : Prop where
  at_ : w.heap[g]? = some (.cells #[vP, .int .i64 c.M, .int .i64 c.A, vC, vF, .int .i64 c.mn, vB, .int .i64 f.st, .int .i64 f.pa, vLo, .int .i64 hi, .slice (some ⟨bM, 0, none⟩) c.B.length c.B.length, .slice (some ⟨bS, 0, none⟩) c.B.length c.B.length, vL] 69 (0, 0))
  mt : w.ownsRow 0 4 1 (.slice (some ⟨bM, 0, none⟩) c.B.length c.B.length) c.B.length (bls m.met)
  st : w.ownsRow 0 51 1 (.slice (some ⟨bS, 0, none⟩) c.B.length c.B.length) c.B.length vs
  lf : w.ownsRow 0 3 1 vL m.left.length (nns m.left)
  row : ∀ (i : Nat) (s : List Int) (v : Value), m.st[i]? = some s → vs[i]? = some v → w.ownsRow 0 3 1 v s.length (nts s) ∧ (∀ k, v.ownBlock = some k → ¬ F k) ∧ Fits s ∧ s.length ≤ 64
  ml : m.met.length = c.B.length
  sl : m.st.length = c.B.length
  lb : ∀ i ∈ m.left, i < c.B.length
  ln : m.left.length ≤ m.met.count true
  fg : F g
  fM : F bM
  fS : F bS
  fL : ∀ k, vL.ownBlock = some k → F k
  low : ∀ k, F k → wB.heap.size ≤ k
  fb : ∀ k, F k → k < w.heap.size
  bel : Below wB.heap.size wB w
section
variable {wB w w' : World} {F F' : Nat → Prop} {g bM bS : Nat} {vP vC vF vB vLo vL : Value} {c : Cd} {f : Fn3} {hi : Int} {vs : List Value} {m : Rw16} {p : List Addr}
theorem Rs.vl (h : Rs wB w F g bM bS vP vC vF vB vLo c f hi vL vs m) : vs.length = c.B.length := by
  have := h.st.1
  omega
theorem Rs.keep (h : Rs wB w F g bM bS vP vC vF vB vLo c f hi vL vs m) (hb : Below w.heap.size w w') : Rs wB w' F g bM bS vP vC vF vB vLo c f hi vL vs m :=
  { h with
    at_ := (hb.block g (lt_of_blk h.at_)).trans h.at_
    mt := own_keep h.mt fun k hk => hb.block k (own_type h.mt hk).2.1
    st := own_keep h.st fun k hk => hb.block k (own_type h.st hk).2.1
    lf := own_keep h.lf fun k hk => hb.block k (own_type h.lf hk).2.1
    row := fun i s v hs hv => by
      obtain ⟨h1, h2⟩ := h.row i s v hs hv
      exact ⟨own_keep h1 fun k hk => hb.block k (own_type h1 hk).2.1, h2⟩
    fb := fun k hk => Nat.lt_of_lt_of_le (h.fb k hk) hb.size
    bel := h.bel.trans (hb.mono h.bel.size) }
theorem Rs.rd (h : Rs wB w F g bM bS vP vC vF vB vLo c f hi vL vs m) (B : Bs wB p vP vC vF vB vLo c f) : Rdv w g vP vC vF vB c f vLo hi (.slice (some ⟨bM, 0, none⟩) c.B.length c.B.length) (.slice (some ⟨bS, 0, none⟩) c.B.length c.B.length) vL := ⟨h.at_, B.cv.bel h.bel, B.lo.bel h.bel⟩
theorem Rs.er (h : Rs wB w F g bM bS vP vC vF vB vLo c f hi vL vs m) (B : Bs wB p vP vC vF vB vLo c f) : Ec w p := B.ec.bel h.bel
theorem Rs.gM (h : Rs wB w F g bM bS vP vC vF vB vLo c f hi vL vs m) : g ≠ bM := fun e => own_at h.mt h.at_ (by decide) (by rw [e]; rfl)
theorem Rs.gS (h : Rs wB w F g bM bS vP vC vF vB vLo c f hi vL vs m) : g ≠ bS := fun e => own_at h.st h.at_ (by decide) (by rw [e]; rfl)
theorem Rs.gL (h : Rs wB w F g bM bS vP vC vF vB vLo c f hi vL vs m) : vL.ownBlock ≠ some g := own_at h.lf h.at_ (by decide)
theorem Rs.MS (h : Rs wB w F g bM bS vP vC vF vB vLo c f hi vL vs m) : bM ≠ bS := fun e => own_apart h.mt h.st (by decide) bM rfl (by rw [e]; rfl)
theorem Rs.ML (h : Rs wB w F g bM bS vP vC vF vB vLo c f hi vL vs m) : vL.ownBlock ≠ some bM := fun e => own_apart h.mt h.lf (by decide) bM rfl e
theorem Rs.SL (h : Rs wB w F g bM bS vP vC vF vB vLo c f hi vL vs m) : vL.ownBlock ≠ some bS := fun e => own_apart h.st h.lf (by decide) bS rfl e
theorem Rs.size (h : Rs wB w F g bM bS vP vC vF vB vLo c f hi vL vs m) : wB.heap.size ≤ w.heap.size := h.bel.size
/-- a stack, read -/
theorem Rs.stk (h : Rs wB w F g bM bS vP vC vF vB vLo c f hi vL vs m) {i : Nat} (hi' : i < c.B.length) : ∃ v s, m.st[i]? = some s ∧ s = m.st.getD i [] ∧ vs[i]? = some v ∧ w.cell? ⟨bS, i, none⟩ = some v ∧ Sl w v s ∧ (∀ k, v.ownBlock = some k → ¬ F k) ∧ s.length ≤ 64 ∧ Fits s := by
  obtain ⟨s, hs⟩ : ∃ s, m.st[i]? = some s := ⟨_, List.getElem?_eq_getElem (by rw [h.sl]; exact hi')⟩
  obtain ⟨v, hv⟩ : ∃ v, vs[i]? = some v := ⟨_, List.getElem?_eq_getElem (by rw [h.vl]; exact hi')⟩
  obtain ⟨h1, h2, h3, h4⟩ := h.row i s v hs hv
  refine ⟨v, s, hs, by rw [List.getD_eq_getElem?_getD, hs]; rfl, hv, (own_cell h.st i v hv).1, ?_, h2, h4, h3⟩
  obtain ⟨a, cc, rfl, e1, e2⟩ := own_slice h1
  refine ⟨h3, a, cc, rfl, e1, e2, fun j hj => ?_⟩
  obtain ⟨b, c', eb, _⟩ := own_some h1 (by omega)
  cases eb
  refine ⟨b, 0, rfl, (own_type h1 (k := b) rfl).2.1, ?_⟩
  rw [Nat.zero_add]
  exact (own_cell h1 _ _ (nts_at (by rw [List.getD_eq_getElem?_getD, List.getElem?_eq_getElem hj]; rfl))).1
theorem Rs.met (h : Rs wB w F g bM bS vP vC vF vB vLo c f hi vL vs m) {i : Nat} (hi' : i < c.B.length) : w.cell? ⟨bM, i, none⟩ = some (.bool (m.met.getD i false)) :=
  (own_cell h.mt i _ (bls_at (by rw [List.getD_eq_getElem?_getD, List.getElem?_eq_getElem (show i < m.met.length by rw [h.ml]; exact hi')]; rfl))).1
/-- an instruction, read -/
theorem Bs.ins (B : Bs wB p vP vC vF vB vLo c f) (hb : Below wB.heap.size wB w) : ∃ aB cB, vB = .slice aB c.B.length cB ∧ ∀ i, i < c.B.length → ∃ b o, aB = some ⟨b, o, none⟩ ∧ b < wB.heap.size ∧ w.cell? ⟨b, o + i * 5, none⟩ = some (.int .i64 (c.B.getD i zI).op) ∧ w.cell? ⟨b, o + i * 5 + 1, none⟩ = some (.int .i64 (c.B.getD i zI).a) ∧ w.cell? ⟨b, o + i * 5 + 2, none⟩ = some (.int .i64 (c.B.getD i zI).b) ∧ w.cell? ⟨b, o + i * 5 + 3, none⟩ = some (.int .u64 (c.B.getD i zI).bits) ∧ w.cell? ⟨b, o + i * 5 + 4, none⟩ = some (.int .i64 (c.B.getD i zI).at_) := by
  obtain ⟨aB, cB, e, _, _, h⟩ := B.cv.B
  refine ⟨aB, cB, e, fun i hi' => ?_⟩
  obtain ⟨b, o, e2, hlt, h0, h1, h2, h3, h4⟩ := h i hi'
  exact ⟨b, o, e2, hlt, (hb.cell (p := ⟨b, _, none⟩) hlt).trans h0, (hb.cell (p := ⟨b, _, none⟩) hlt).trans h1, (hb.cell (p := ⟨b, _, none⟩) hlt).trans h2, (hb.cell (p := ⟨b, _, none⟩) hlt).trans h3, (hb.cell (p := ⟨b, _, none⟩) hlt).trans h4⟩
end
section
variable {wB w w' : World} {F F' : Nat → Prop} {g bM bS : Nat} {vP vC vF vB vLo vL : Value} {c : Cd} {f : Fn3} {hi : Int} {vs : List Value} {m : Rw16} {p : List Addr}
/-- an instruction is come to for the first time: met and stacks are turned -/
theorem Rs.come (h : Rs wB w F g bM bS vP vC vF vB vLo c f hi vL vs m) {n : Nat} (hn : n < c.B.length) (hm : m.met.getD n false = false) {t : List Int} (hf : Fits t) (ht : t.length ≤ 64) {w5 : World} {v' : Value} (o5 : w5.ownsRow w.heap.size 3 1 v' t.length (nts t)) (b5 : Below w.heap.size w w5) :
    Rs wB ((w5.setCell ⟨bM, n, none⟩ (.bool true)).setCell ⟨bS, n, none⟩ v') F g bM bS vP vC vF vB vLo c f hi vL (vs.set n v') ⟨m.met.set n true, m.st.set n t, m.left⟩ ∧ Ch F F w ((w5.setCell ⟨bM, n, none⟩ (.bool true)).setCell ⟨bS, n, none⟩ v') := by
  have h5 := h.keep b5
  have hs : ((w5.setCell ⟨bM, n, none⟩ (.bool true)).setCell ⟨bS, n, none⟩ v').heap.size = w5.heap.size := by rw [size_setCell, size_setCell]
  have hb : ∀ k, k ≠ bM → k ≠ bS → ((w5.setCell ⟨bM, n, none⟩ (.bool true)).setCell ⟨bS, n, none⟩ v').heap[k]? = w5.heap[k]? := fun k h1 h2 => (Below.heap_setCell _ _ _ _ h2).trans (Below.heap_setCell _ _ _ _ h1)
  have hc : Ch F F w ((w5.setCell ⟨bM, n, none⟩ (.bool true)).setCell ⟨bS, n, none⟩ v') := ⟨b5.os, b5.tape, b5.output, by rw [hs]; exact b5.size, fun k hk hF => (hb k (fun e => hF (e ▸ h.fM)) (fun e => hF (e ▸ h.fS))).trans (b5.block k hk), fun k hk => .inl hk⟩
  have hmn : m.met[n]? = some false := by
    have hl : n < m.met.length := by rw [h.ml]; exact hn
    rw [List.getD_eq_getElem?_getD, List.getElem?_eq_getElem hl] at hm
    rw [List.getElem?_eq_getElem hl]
    simpa using hm
  have fresh : ∀ k, v'.ownBlock = some k → ¬ F k := fun k hk hF => by
    have h1 := (own_type o5 hk).1
    have h2 := h.fb k hF
    omega
  refine ⟨{ at_ := (hb g h.gM h.gS).trans h5.at_, mt := ?_, st := ?_, lf := own_keep h5.lf fun k hk => hb k (fun e => h.ML (by rw [hk, e])) (fun e => h.SL (by rw [hk, e])), row := fun i s v hs' hv => ?_, ml := by simpa using h.ml, sl := by simpa using h.sl, lb := h.lb, ln := ?_, fg := h.fg, fM := h.fM, fS := h.fS, fL := h.fL, low := h.low, fb := fun k hk => by rw [hs]; exact h5.fb k hk, bel := h.bel.trans (hc.bel h.low h.bel.size) }, hc⟩
  · have h1 := own_set h5.mt n (.bool true)
    rw [bls_set] at h1
    exact own_keep h1 fun k hk => Below.heap_setCell _ _ _ _ (fun e => h.MS ((Option.some.inj hk).trans e))
  · have h1 : (w5.setCell ⟨bM, n, none⟩ (.bool true)).ownsRow 0 51 1 (.slice (some ⟨bS, 0, none⟩) c.B.length c.B.length) c.B.length vs := own_keep h5.st fun k hk => Below.heap_setCell _ _ _ _ (fun e => h.MS ((Option.some.inj hk).trans e).symm)
    exact own_set h1 n v'
  · by_cases e : i = n
    · subst e
      have e1 : s = t := by
        have : (m.st.set i t)[i]? = some t := List.getElem?_set_self (by rw [h.sl]; exact hn)
        have h9 : (m.st.set i t)[i]? = some s := hs'
        rw [this] at h9
        exact (Option.some.inj h9).symm
      have e2 : v = v' := by
        have : (vs.set i v')[i]? = some v' := List.getElem?_set_self (by rw [h.vl]; exact hn)
        rw [this] at hv
        exact (Option.some.inj hv).symm
      subst e1 e2
      refine ⟨own_keep (own_low o5 (Nat.zero_le _)) fun k hk => hb k (fun e => fresh k hk (e ▸ h.fM)) (fun e => fresh k hk (e ▸ h.fS)), fresh, hf, ht⟩
    · have h9 : (m.st.set n t)[i]? = some s := hs'
      rw [List.getElem?_set_ne (Ne.symm e)] at h9 hv
      obtain ⟨h1, h2, h3⟩ := h5.row i s v h9 hv
      exact ⟨own_keep h1 fun k hk => hb k (fun e => h2 k hk (e ▸ h.fM)) (fun e => h2 k hk (e ▸ h.fS)), h2, h3⟩
  · show m.left.length ≤ (m.met.set n true).count true
    rw [count_set _ _ hmn]
    have := h.ln
    omega
/-- and it is left to be gone on from -/
theorem Rs.push (h : Rs wB w F g bM bS vP vC vF vB vLo c f hi vL vs m) {n : Nat} (hn : n < c.B.length) (hl : m.left.length + 1 ≤ m.met.count true) {w9 : World} {v9 : Value} (o9 : w9.ownsRow 0 3 1 v9 (m.left.length + 1) (nns (m.left ++ [n]))) (g9 : w.grownBy w9 vL.ownBlock) (b9 : ∀ k, v9.ownBlock = some k → vL.ownBlock = some k ∨ w.heap.size ≤ k) :
    ∃ F', Rs wB (w9.setCell ⟨g, 13, none⟩ v9) F' g bM bS vP vC vF vB vLo c f hi v9 vs ⟨m.met, m.st, m.left ++ [n]⟩ ∧ Ch F F' w (w9.setCell ⟨g, 13, none⟩ v9) := by
  have hat := (g9.block g (lt_of_blk h.at_) (fun e => h.gL e.symm)).trans h.at_
  obtain ⟨k1, t1⟩ := set1 hat 13 v9
  have hb : ∀ k, k < w.heap.size → k ≠ g → vL.ownBlock ≠ some k → (w9.setCell ⟨g, 13, none⟩ v9).heap[k]? = w.heap[k]? := fun k h1 h2 h3 => (Below.heap_setCell _ _ _ _ h2).trans (g9.block k h1 (fun e => h3 e.symm))
  have hs : (w9.setCell ⟨g, 13, none⟩ v9).heap.size = w9.heap.size := size_setCell _ _ _
  have hc : Ch F (fun k => F k ∨ v9.ownBlock = some k) w (w9.setCell ⟨g, 13, none⟩ v9) := ⟨g9.os, g9.tape, g9.output, by rw [hs]; exact g9.size, fun k h1 h2 => hb k h1 (fun e => h2 (e ▸ h.fg)) (fun e => h2 (h.fL k e)), fun k hk => hk.elim .inl (fun e => (b9 k e).elim (fun e => .inl (h.fL k e)) .inr)⟩
  have h9g : v9.ownBlock ≠ some g := own_at o9 hat (by decide)
  refine ⟨fun k => F k ∨ v9.ownBlock = some k, { at_ := k1, mt := own_keep h.mt fun k hk => hb k (own_type h.mt hk).2.1 (fun e => h.gM (by have := Option.some.inj hk; rw [← e]; exact this.symm)) (fun e => h.ML (e.trans hk.symm)), st := own_keep h.st fun k hk => hb k (own_type h.st hk).2.1 (fun e => h.gS (by have := Option.some.inj hk; rw [← e]; exact this.symm)) (fun e => h.SL (e.trans hk.symm)), lf := ?_, row := fun i s v hs' hv => ?_, ml := h.ml, sl := h.sl, lb := fun i hi' => ?_, ln := by simpa using hl, fg := .inl h.fg, fM := .inl h.fM, fS := .inl h.fS, fL := fun k hk => .inr hk, low := fun k hk => ?_, fb := fun k hk => ?_, bel := h.bel.trans (hc.bel h.low h.bel.size) }, hc⟩
  · have h1 := own_keep (w' := w9.setCell ⟨g, 13, none⟩ v9) o9 fun k hk => Below.heap_setCell _ _ _ _ (fun e => h9g (by rw [hk, e]))
    simpa using h1
  · obtain ⟨h1, h2, h3⟩ := h.row i s v hs' hv
    refine ⟨own_keep h1 fun k hk => hb k (own_type h1 hk).2.1 (fun e => h2 k hk (e ▸ h.fg)) (fun e => h2 k hk (h.fL k e)), fun k hk e => ?_, h3⟩
    rcases e with e | e
    · exact h2 k hk e
    · rcases b9 k e with e | e
      · exact h2 k hk (h.fL k e)
      · have := (own_type h1 hk).2.1
        omega
  · rcases List.mem_append.1 hi' with h1 | h1
    · exact h.lb i h1
    · obtain rfl : i = n := by simpa using h1
      exact hn
  · rcases hk with hk | hk
    · exact h.low k hk
    · rcases b9 k hk with e | e
      · exact h.low k (h.fL k e)
      · have := h.bel.size
        omega
  · rw [hs]
    rcases hk with hk | hk
    · exact Nat.lt_of_lt_of_le (h.fb k hk) g9.size
    · exact (own_type o9 hk).2.1
end
/-- what a call of a reader leaves, or that it gives up -/
def RsP (p : List Addr) (wB w : World) (F : Nat → Prop) (g bM bS : Nat) (vP vC vF vB vLo : Value) (c : Cd) (f : Fn3) (hi : Int) (o : Option Rw16) (e : Ending) (w' : World) : Prop := match o with
  | some m' => e = .returned (.tuple #[]) ∧ ∃ F' vL' vs', Rs wB w' F' g bM bS vP vC vF vB vLo c f hi vL' vs' m' ∧ Ch F F' w w'
  | none => e = codeStop p ∧ Ch F F w w'
theorem RsP.both {p : List Addr} {wB w w' : World} {F : Nat → Prop} {g bM bS : Nat} {vP vC vF vB vLo : Value} {c : Cd} {f : Fn3} {hi : Int} {o : Option Rw16} {e : Ending} (h : RsP p wB w F g bM bS vP vC vF vB vLo c f hi o e w') : (∃ m' F' vL' vs', o = some m' ∧ e = .returned (.tuple #[]) ∧ Rs wB w' F' g bM bS vP vC vF vB vLo c f hi vL' vs' m' ∧ Ch F F' w w') ∨ (o = none ∧ e = codeStop p ∧ Ch F F w w') := by
  cases o with
  | some m' =>
    obtain ⟨h1, F', vL', vs', h2, h3⟩ := h
    exact .inl ⟨m', F', vL', vs', rfl, h1, h2, h3⟩
  | none => exact .inr ⟨rfl, h.1, h.2⟩
end Go.Proofs.YtidjbgemnohbnaaDoor.Ck

/- Package proofread: come. -/
namespace Go.Proofs.YtidjbgemnohbnaaDoor.Ck
open Go.RowKit

theorem eq_list : ∀ (a b : List Int), sameL eqN a b = decide (a = b)
  | [], [] => by simp [sameL]
  | [], y :: b => by simp [sameL]
  | x :: a, [] => by simp [sameL]
  | x :: a, y :: b => by
    simp only [sameL, eq_list a b, eqN, List.cons.injEq]
    by_cases h : x = y <;> by_cases h2 : a = b <;> simp [h, h2]
set_option maxRecDepth 20000 in
set_option maxHeartbeats 4000000 in
theorem come_any {wB w : World} {p : List Addr} {F : Nat → Prop} {g bM bS : Nat} {vP vC vF vB vLo vL : Value} {c : Cd} {f : Fn3} {hi : Int} {vs : List Value} {m : Rw16} (B : Bs wB p vP vC vF vB vLo c f) (h : Rs wB w F g bM bS vP vC vF vB vLo c f hi vL vs m) (hh : hi ≤ c.B.length) (q : Int) {va : Value} {t : List Int} (ha : Sl w va t) (hn : t.length ≤ 1000) :
    Calls Tryd.prog 32 #[.pointer (some ⟨g, 0, none⟩), .int .i64 q, va] w (RsP p wB w F g bM bS vP vC vF vB vLo c f hi (comeM f.st hi m q t)) := by
  obtain ⟨o, ho⟩ : ∃ o, comeM f.st hi m q t = o := ⟨_, rfl⟩
  have HO := hide ho
  rw [ho]
  have MN := hide (pmust_no (h.er B))
  have y7 : w.cell? ⟨g, 7, none⟩ = some (.int .i64 f.st) := blk_cell h.at_ 7 _ rfl
  have y10 : w.cell? ⟨g, 10, none⟩ = some (.int .i64 hi) := blk_cell h.at_ 10 _ rfl
  obtain ⟨aT, cT, rfl, _⟩ := ha.form
  have NOP : Hid (comeM f.st hi m q t = none → RsP p wB w F g bM bS vP vC vF vB vLo c f hi o (codeStop p) w) := hide (fun e => by
    rw [← HO.out, e]
    exact ⟨rfl, Ch.refl _ _⟩)
  by_cases h1 : f.st ≤ q
  rotate_left 1
  · have e := NOP.out (by unfold comeM; rw [if_neg (fun e => h1 e.1)])
    have NO := hide e
    clear h B ha hn ho NOP HO e
    go_enter Tryd.func32, Tryd.ntmps32
    go_wp2_with fail
    refine MN.out.mono ?_
    rintro e w1 ⟨rfl, rfl⟩
    exact ⟨rfl, NO.out⟩
  by_cases h2 : q < hi
  rotate_left 1
  · have e := NOP.out (by unfold comeM; rw [if_neg (fun e => h2 e.2)])
    have NO := hide e
    clear h B ha hn ho NOP HO e
    go_enter Tryd.func32, Tryd.ntmps32
    go_wp2_with fail
    refine MN.out.mono ?_
    rintro e w1 ⟨rfl, rfl⟩
    exact ⟨rfl, NO.out⟩
  obtain ⟨nt, hnt⟩ : ∃ n, n = t.length := ⟨_, rfl⟩
  have HNT := hide hnt
  by_cases h3 : t.length ≤ 64
  rotate_left 1
  · have e := NOP.out (by unfold comeM; rw [if_pos ⟨h1, h2⟩, if_neg h3])
    have NO := hide e
    rw [← hnt]
    have h3' : decide ((nt : Int) ≤ 64) = false := decide_eq_false (by omega)
    clear h B ha hn ho NOP HO e h3 hnt
    go_enter Tryd.func32, Tryd.ntmps32
    go_wp2_with fail
    refine (pmust_yes _).mono ?_
    rintro e w1 ⟨rfl, rfl⟩
    go_wp2_with fail
    refine MN.out.mono ?_
    rintro e w1 ⟨rfl, rfl⟩
    exact ⟨rfl, NO.out⟩
  have h0 := B.st
  obtain ⟨n, rfl⟩ : ∃ n : Nat, q = n := ⟨q.toNat, by omega⟩
  obtain ⟨N, hN⟩ : ∃ N, N = c.B.length := ⟨_, rfl⟩
  have hnN : n < c.B.length := by omega
  have hn0 : n < N := by omega
  have hn1 : (n : Int) < (N : Int) := by omega
  have h3' : (nt : Int) ≤ 64 := by omega
  have y11 : w.cell? ⟨g, 11, none⟩ = some (.slice (some ⟨bM, 0, none⟩) c.B.length c.B.length) := blk_cell h.at_ 11 _ rfl
  have y12 : w.cell? ⟨g, 12, none⟩ = some (.slice (some ⟨bS, 0, none⟩) c.B.length c.B.length) := blk_cell h.at_ 12 _ rfl
  rw [← hN] at y11 y12
  have yM := h.met hnN
  have EO : Hid (o = if m.met.getD n false = true then (if m.st.getD n [] = t then some m else none) else some ⟨m.met.set n true, m.st.set n t, m.left ++ [n]⟩) := hide (by rw [← HO.out]; unfold comeM; rw [if_pos ⟨h1, h2⟩, if_pos h3]; simp)
  have HH := hide h
  have HB := hide B
  have HA := hide ha
  have HX := hide (And.intro hnN (And.intro h3 hn))
  have HN := hide hN
  rw [← hnt]
  cases hm : m.met.getD n false with
  | true =>
    rw [hm] at yM
    obtain ⟨v, s, _, hs, _, yS, sl, _, hl, _⟩ := h.stk hnN
    obtain ⟨as_, cs_, rfl, _⟩ := sl.form
    have EQ := hide (eq_stk sl ha ⟨by omega, by omega⟩)
    rw [eq_list, ← hnt] at EQ
    have EO2 : Hid (o = if s = t then some m else none) := hide (by rw [EO.out, hm, if_pos rfl, hs])
    generalize s.length = ns at *
    clear h B ha hn ho NOP HO hnt hN hnN h3 h0 hm EO hs sl hl
    go_enter Tryd.func32, Tryd.ntmps32
    go_wp2_with fail
    refine (pmust_yes _).mono ?_
    rintro e w1 ⟨rfl, rfl⟩
    go_wp2_with fail
    refine (pmust_yes _).mono ?_
    rintro e w1 ⟨rfl, rfl⟩
    go_wp2_with fail
    refine EQ.out.mono ?_
    rintro e w1 ⟨rfl, k1, rfl⟩
    have BD := hide (drew_bel w k1)
    by_cases hst : s = t
    · rw [decide_eq_true hst]
      have YES : Hid (RsP p wB w F g bM bS vP vC vF vB vLo c f hi o (.returned (.tuple #[])) (w.drewN k1)) := hide (by
        rw [EO2.out, if_pos hst]
        exact ⟨rfl, F, vL, vs, HH.out.keep BD.out, Ch.of_bel BD.out⟩)
      clear hst EO2
      go_wp2_with fail
      refine (pmust_yes _).mono ?_
      rintro e w1 ⟨rfl, rfl⟩
      go_wp2_with fail
      go_end0
      exact YES.out
    · rw [decide_eq_false hst]
      have NO : Hid (RsP p wB w F g bM bS vP vC vF vB vLo c f hi o (codeStop p) (w.drewN k1)) := hide (by
        rw [EO2.out, if_neg hst]
        exact ⟨rfl, Ch.of_bel BD.out⟩)
      have MN2 := hide (pmust_no ((HH.out.keep BD.out).er HB.out))
      clear hst EO2
      go_wp2_with fail
      refine MN2.out.mono ?_
      rintro e w1 ⟨rfl, rfl⟩
      exact ⟨rfl, NO.out⟩
  | false =>
    rw [hm] at yM
    have HM := hide hm
    have LN : Hid (m.left.length ≤ m.met.count true ∧ m.met[n]? = some false) := hide ⟨h.ln, by
      have hl : n < m.met.length := by rw [h.ml]; exact hnN
      rw [List.getD_eq_getElem?_getD, List.getElem?_eq_getElem hl] at hm
      rw [List.getElem?_eq_getElem hl]
      simpa using hm⟩
    have LN3 : Hid (m.met.length ≤ 8192) := hide (by rw [h.ml]; exact B.n)
    have EO2 : Hid (o = some ⟨m.met.set n true, m.st.set n t, m.left ++ [n]⟩) := hide (by rw [EO.out, hm]; rfl)
    clear h B ha hn ho NOP HO hnt hN hnN h3 h0 hm EO
    go_enter Tryd.func32, Tryd.ntmps32
    go_wp2_with fail
    refine (pmust_yes _).mono ?_
    rintro e w1 ⟨rfl, rfl⟩
    go_wp2_with fail
    refine (pmust_yes _).mono ?_
    rintro e w1 ⟨rfl, rfl⟩
    go_wp2_with fail
    refine wp_region_T (S := fun wz => wz.cell? ⟨g, 11, none⟩ = some (.slice (some ⟨bM, 0, none⟩) N N) ∧ wz.cell? ⟨g, 12, none⟩ = some (.slice (some ⟨bS, 0, none⟩) N N)) (fun _ => true) mixed ⟨y11, y12⟩ (fun hH => ?_)
    have BD := hide (show Below w.heap.size w w.drew from bel_drawn (Below.refl _ _))
    have HD := hide (HH.out.keep BD.out)
    have AD := hide (HA.out.bel BD.out)
    have CD := hide (Ch.of_bel (F := F) BD.out)
    clear BD HH HA y7 y10 y11 y12 yM MN
    generalize w.drew = wd at *
    refine Tm 0 ?_
    simp only [Act.put, SA]
    refine Tm 1 ?_
    simp only [Act.put, SA]
    refine Tm 2 ?_
    simp only [Act.put, SA]
    refine Tl 3 (v := ?_) ?_ hH ?_
    rotate_left 1
    · (intro w hSw; have q := hSw.1; clear hSw; go_simp <;> with_reducible rfl)
    simp only [Act.put, SA]
    refine Tm 4 ?_
    simp only [Act.put, SA]
    refine Tm 5 ?_
    simp only [Act.put, SA]
    refine Tm 6 ?_
    simp only [Act.put, SA]
    refine Tm 7 ?_
    simp only [Act.put, SA]
    refine Tl 8 (v := ?_) ?_ hH ?_
    rotate_left 1
    · (intro w hSw; have q := hSw.2; clear hSw; go_simp <;> with_reducible rfl)
    simp only [Act.put, SA]
    refine Tm 9 ?_
    simp only [Act.put, SA]
    refine Tm 10 ?_
    simp only [Act.put, SA]
    have CL := hide (clone_stk AD.out (by have := HX.out.2.2; omega))
    rw [← HNT.out] at CL
    refine Tr 11 (fun K1 hK1 => ?_)
    go_simp
    refine CL.out.mono ?_
    rintro e w5 ⟨v', rfl, ⟨a5, c5, rfl⟩, o5, b5⟩
    have H5 := hide (HD.out.keep b5)
    have RC := hide (HD.out.come HX.out.1 HM.out (t := t) AD.out.fits HX.out.2.1 (by rw [← HNT.out]; exact o5) b5)
    have S5 : Hid (w5.cell? ⟨g, 11, none⟩ = some (.slice (some ⟨bM, 0, none⟩) N N) ∧ w5.cell? ⟨g, 12, none⟩ = some (.slice (some ⟨bS, 0, none⟩) N N)) := hide ⟨by rw [HN.out]; exact blk_cell H5.out.at_ 11 _ rfl, by rw [HN.out]; exact blk_cell H5.out.at_ 12 _ rfl⟩
    have zM := H5.out.met HX.out.1
    have zF := (own_cell H5.out.mt n _ (bls_at (by rw [List.getD_eq_getElem?_getD, List.getElem?_eq_getElem (show n < m.met.length by rw [H5.out.ml]; exact HX.out.1)]; rfl) : (bls m.met)[n]? = some (.bool (m.met.getD n false)))).2
    refine hK1.out _ _ (fun _ => S5.out) (fun _ => ?_)
    clear hK1 K1 CL o5 b5 hH
    refine Tm 12 ?_
    simp only [Act.put, SA]
    refine Tr 13 (fun K1 hK1 => ?_)
    go_simp
    have T6 := hide (show Tn bM w5 (w5.setCell ⟨bM, n, none⟩ (.bool true)) from ⟨rfl, rfl, rfl, Nat.le_of_eq (size_setCell _ _ _).symm, fun _ _ hk => Below.heap_setCell _ _ _ _ hk⟩)
    refine hK1.out _ _ (fun _ => ⟨T6.out.cell S5.out.1 H5.out.gM, T6.out.cell S5.out.2 H5.out.gM⟩) (fun _ => ?_)
    clear hK1 K1
    refine Tm 14 ?_
    simp only [Act.put, SA]
    obtain ⟨v0, s0, _, _, hv0, yS, _⟩ := H5.out.stk HX.out.1
    have fS := (own_cell H5.out.st n v0 hv0).2
    have zS := T6.out.cell yS H5.out.MS.symm
    have gS : (w5.setCell ⟨bM, n, none⟩ (.bool true)).frozen? ⟨bS, n, none⟩ = false := by
      have e := T6.out.blk bS (H5.out.fb bS H5.out.fS) H5.out.MS.symm
      unfold World.frozen? at fS ⊢
      rw [e]
      exact fS
    refine Tr 15 (fun K1 hK1 => ?_)
    go_simp
    have S7 := hide (show _ ∧ _ from ⟨blk_cell RC.out.1.at_ 11 _ rfl, blk_cell RC.out.1.at_ 12 _ rfl⟩)
    refine hK1.out _ _ (fun _ => by have := S7.out; rw [← HN.out] at this; exact this) (fun _ => ?_)
    clear hK1 K1 zM zF yS fS zS gS hv0 S5 S7 T6 H5 HD AD
    refine T_done (by kernel_rfl) ?_ _
    generalize (w5.setCell ⟨bM, n, none⟩ (.bool true)).setCell ⟨bS, n, none⟩ (.slice a5 nt c5) = w7 at *
    have R7 := hide RC.out.1
    have C7 := hide (CD.out.trans RC.out.2)
    clear RC CD
    obtain ⟨aL, cL, eL, _⟩ := own_slice R7.out.lf
    subst eL
    have y13 : w7.cell? ⟨g, 13, none⟩ = some (.slice aL m.left.length cL) := blk_cell R7.out.at_ 13 _ rfl
    have HL : Hid (m.left.length + 1 ≤ (m.met.set n true).count true ∧ m.left.length ≤ 8192) := hide (by
      have h1 := LN.out.1
      have h2 := LN.out.2
      rw [count_set _ _ h2]
      refine ⟨by omega, ?_⟩
      have h3 := List.count_le_length (a := true) (l := m.met)
      have h4 := LN3.out
      omega)
    have PU := hide (fun ty => push_any (TS := 22) Tryd.underlying22 (n := m.left.length) (l := m.left.map fun (n : Nat) => (n : Int)) (by simp) (by simp; have := HL.out.2; omega) (by rw [← nns_nts]; exact R7.out.lf) (Nat.zero_le _) (n : Int) ty)
    obtain ⟨k, hk⟩ : ∃ k, k = m.left.length := ⟨_, rfl⟩
    have HK := hide hk
    rw [← hk] at PU y13
    clear hk
    go_wp2_with (first | (at_builtin; refine wpList_appV (TS := 22) rfl (.tmp 61) (.tmp 63) rfl _ _ rfl rfl _ (PU.out _) ?_; rintro v9 w9 ⟨⟨a9, c9, rfl⟩, o9, g9, b9⟩; have hat := (g9.block g (lt_of_blk R7.out.at_) (fun e => R7.out.gL (by rw [← HK.out]; exact e.symm))).trans R7.out.at_; have x9 := blk_cell hat 13 _ rfl; have f9 := blk_frz hat 13; have R9 := hide (And.intro o9 (And.intro g9 b9)); clear o9 g9 b9 hat))
    go_end0
    obtain ⟨F', r9, c9'⟩ := R7.out.push (n := n) HX.out.1 HL.out.1 (w9 := w9) (v9 := .slice a9 (k + 1) c9) (by
      have h1 := R9.out.1
      rw [show nns (m.left ++ [n]) = nts ((m.left.map fun (n : Nat) => (n : Int)) ++ [(n : Int)]) by rw [nns_nts]; simp]
      show w9.ownsRow 0 3 1 _ (m.left.length + 1) _
      rw [← HK.out]
      exact h1) (by have h2 := R9.out.2.1; rw [HK.out] at h2; exact h2) (fun k' hk' => by have h2 := R9.out.2.2 k' hk'; rw [HK.out] at h2; exact h2)
    rw [EO2.out]
    exact ⟨rfl, F', _, _, r9, C7.out.trans c9'⟩
end Go.Proofs.YtidjbgemnohbnaaDoor.Ck

/- Package proofread: jump; what a stack of types keeps to. -/
namespace Go.Proofs.YtidjbgemnohbnaaDoor.Ck
open Go.RowKit

theorem Bs.in_B {wB : World} {p : List Addr} {vP vC vF vB vLo : Value} {c : Cd} {f : Fn3} (_ : Bs wB p vP vC vF vB vLo c f) {n : Nat} (hn : n < c.B.length) : c.B.getD n zI ∈ c.B := by
  rw [List.getD_eq_getElem?_getD, List.getElem?_eq_getElem hn]
  exact List.getElem_mem hn
set_option maxRecDepth 20000 in
set_option maxHeartbeats 4000000 in
theorem jump_any {wB w : World} {p : List Addr} {F : Nat → Prop} {g bM bS : Nat} {vP vC vF vB vLo vL : Value} {c : Cd} {f : Fn3} {hi : Int} {vs : List Value} {m : Rw16} (B : Bs wB p vP vC vF vB vLo c f) (h : Rs wB w F g bM bS vP vC vF vB vLo c f hi vL vs m) (hh : hi ≤ c.B.length) (n k : Nat) (hn : n < c.B.length) (hk : k < c.B.length) (hto : (c.B.getD n zI).a = k) {va : Value} {t : List Int} (ha : Sl w va t) (ht : t.length ≤ 1000) :
    Calls Tryd.prog 43 #[.pointer (some ⟨g, 0, none⟩), .int .i64 (n : Nat), va] w (RsP p wB w F g bM bS vP vC vF vB vLo c f hi (jumpM c f.st hi m n t)) := by
  have MN := hide (pmust_no (h.er B))
  have CO := hide (come_any B h hh (k : Int) ha ht)
  have HN := hide (And.intro hn hk)
  obtain ⟨aB, cB, eB, hI⟩ := B.ins h.bel
  subst eB
  have y6 : w.cell? ⟨g, 6, none⟩ = some (.slice aB c.B.length cB) := blk_cell h.at_ 6 _ rfl
  obtain ⟨b1, o1, e1, _, _, z1, _⟩ := hI n hn
  obtain ⟨b2, o2, e2, _, z2, _⟩ := hI k hk
  rw [e1] at e2
  cases e2
  subst e1
  rw [hto] at z1
  have EJ : Hid (jumpM c f.st hi m n t = if (k : Int) > n ∨ (c.B.getD k zI).op = 24 then comeM f.st hi m (k : Int) t else none) := hide (by unfold jumpM; rw [hto]; simp)
  obtain ⟨N, hN⟩ : ∃ N, N = c.B.length := ⟨_, rfl⟩
  rw [← hN] at y6
  have hn0 : n < N := by omega
  have hn1 : (n : Int) < (N : Int) := by omega
  have hk0 : k < N := by omega
  have hk1 : (k : Int) < (N : Int) := by omega
  obtain ⟨aT, cT, rfl, _⟩ := ha.form
  have NO := hide (fun (e : jumpM c f.st hi m n t = none) => (show RsP p wB w F g bM bS vP vC vF (.slice (some ⟨b1, o1, none⟩) c.B.length cB) vLo c f hi (jumpM c f.st hi m n t) (codeStop p) w by rw [e]; exact ⟨rfl, Ch.refl _ _⟩))
  generalize (c.B.getD k zI).op = ok at *
  by_cases h1 : n < k
  · have h1' : (n : Int) < (k : Int) := by omega
    have EJ2 : Hid (jumpM c f.st hi m n t = comeM f.st hi m (k : Int) t) := hide (by rw [EJ.out, if_pos (.inl (by omega))])
    rw [EJ2.out]
    clear h B hI ha ht hn hk hto hN EJ NO h1
    go_enter Tryd.func43, Tryd.ntmps43
    go_wp2_with fail
    refine (pmust_yes _).mono ?_
    rintro e w1 ⟨rfl, rfl⟩
    go_wp2_with fail
    refine CO.out.mono ?_
    intro e w2 hp
    rcases hp.both with ⟨m', F', vL', vs', ho, rfl, r2, c2⟩ | ⟨ho, rfl, c2⟩
    · have Z := hide hp
      clear hp r2 c2 ho
      go_wp2_with fail
      go_end0
      exact Z.out
    · exact ⟨rfl, hp⟩
  · have h1' : ¬ (n : Int) < (k : Int) := by omega
    by_cases h2 : ok = 24
    · subst h2
      have EJ2 : Hid (jumpM c f.st hi m n t = comeM f.st hi m (k : Int) t) := hide (by rw [EJ.out, if_pos (.inr rfl)])
      rw [EJ2.out]
      clear h B hI ha ht hn hk hto hN EJ NO h1
      go_enter Tryd.func43, Tryd.ntmps43
      go_wp2_with fail
      refine (pmust_yes _).mono ?_
      rintro e w1 ⟨rfl, rfl⟩
      go_wp2_with fail
      refine CO.out.mono ?_
      intro e w2 hp
      rcases hp.both with ⟨m', F', vL', vs', ho, rfl, r2, c2⟩ | ⟨ho, rfl, c2⟩
      · have Z := hide hp
        clear hp r2 c2 ho
        go_wp2_with fail
        go_end0
        exact Z.out
      · exact ⟨rfl, hp⟩
    · have h2' : (ok == 24) = false := by simp [h2]
      have NO2 := hide (NO.out (by rw [EJ.out, if_neg (fun e => e.elim (by omega) h2)]))
      clear h B hI ha ht hn hk hto hN EJ NO h1 h2 CO
      go_enter Tryd.func43, Tryd.ntmps43
      go_wp2_with fail
      refine MN.out.mono ?_
      rintro e w1 ⟨rfl, rfl⟩
      exact ⟨rfl, NO2.out⟩
theorem fits_app {l m : List Int} (h1 : Fits l) (h2 : Fits m) : Fits (l ++ m) := fun z hz => (List.mem_append.1 hz).elim (h1 z) (h2 z)
theorem takeM_fits {ts s s' : List Int} (h : takeM ts s = some s') (hf : Fits s) : Fits s' := by
  unfold takeM at h
  split at h
  · cases h
    exact fun z hz => hf z (List.mem_of_mem_take hz)
  · cases h
theorem popM_of {s : List Int} {r : Int × List Int} (h : popM s = some r) : s = r.2 ++ [r.1] := by
  rcases snoc_or s with rfl | ⟨s', t, rfl⟩
  · cases h
  · rw [popM_snoc] at h
    cases h
    rfl
theorem unM_rng {a t r : Int} (h : unM a t = some r) : r = t ∨ (1 ≤ r ∧ r ≤ 3) := by
  unfold unM at h
  split at h
  · cases h; exact .inl rfl
  split at h
  · cases h; exact .inr (by omega)
  split at h
  · cases h; exact .inr (by omega)
  split at h
  · cases h; exact .inr (by omega)
  · cases h
theorem binM_rng {a t u r : Int} (h : binM a t u = some r) : r = t ∨ (1 ≤ r ∧ r ≤ 3) := by
  unfold binM at h
  repeat' split at h
  all_goals first | (cases h; exact .inl rfl) | (cases h; exact .inr (by omega)) | cases h
theorem rng_fits {r t : Int} {s : List Int} (h : r = t ∨ (1 ≤ r ∧ r ≤ 3)) (hs : Fits (s ++ [t])) : Fits [r] := by
  rcases h with rfl | h
  · exact fun z hz => hs z (List.mem_append_right _ hz)
  · exact fits_k (by omega) h.2
theorem pre_fits {s t : List Int} (h : Fits (s ++ t)) : Fits s := fun z hz => h z (List.mem_append_left _ hz)
theorem unS_fits {a : Int} {s s' : List Int} (h : unS a s = some s') (hf : Fits s) : Fits s' ∧ s'.length ≤ s.length + 1 := by
  unfold unS at h
  obtain ⟨r, hr, h⟩ := Option.bind_eq_some_iff.1 h
  have e := popM_of hr
  obtain ⟨q, hq, rfl⟩ := Option.map_eq_some_iff.1 h
  rw [e] at hf ⊢
  exact ⟨fits_app (pre_fits hf) (rng_fits (unM_rng hq) hf), by simp⟩
theorem binS_fits {a : Int} {s s' : List Int} (h : binS a s = some s') (hf : Fits s) : Fits s' ∧ s'.length ≤ s.length + 1 := by
  unfold binS at h
  obtain ⟨r, hr, h⟩ := Option.bind_eq_some_iff.1 h
  obtain ⟨r2, hr2, h⟩ := Option.bind_eq_some_iff.1 h
  have e := popM_of hr
  have e2 := popM_of hr2
  obtain ⟨q, hq, rfl⟩ := Option.map_eq_some_iff.1 h
  rw [e, e2] at hf ⊢
  exact ⟨fits_app (pre_fits (pre_fits hf)) (rng_fits (binM_rng hq) (pre_fits hf)), by simp⟩
theorem fits_getD {l : List Int} (h : Fits l) (i : Nat) : Fits [l.getD i 0] := by
  by_cases hi : i < l.length
  · exact fits1 h hi
  · rw [List.getD_eq_getElem?_getD, List.getElem?_eq_none (by omega)]
    exact fits_k (by simp) (by simp)
theorem chanT_fits {c : Cd} (h : Cl c) (a : Int) : Fits [chanT c a] := by
  unfold chanT
  by_cases hi : a.toNat < c.C.length
  · exact fits_1 (h.K _ (by rw [List.getD_eq_getElem?_getD, List.getElem?_eq_getElem hi]; exact List.getElem_mem hi))
  · rw [List.getD_eq_getElem?_getD, List.getElem?_eq_none (by omega)]
    exact fits_k (by simp [z2]) (by simp [z2])
theorem app1 (s : List Int) (t : Int) : (s ++ [t]).length ≤ s.length + 1 := by simp
theorem change_fits {c : Cd} {lo : List Int} {x : In5} {s s' : List Int} (h : changeM c lo x s = some s') (hc : Cl c) (hP : Fits c.P) (hl : Fits lo) (hf : Fits s) : Fits s' ∧ s'.length ≤ s.length + 1 := by
  have hk : ∀ k : Int, 0 ≤ k → k ≤ 3 → Fits (s ++ [k]) := fun k h0 h1 => fits_app hf (fits_k h0 h1)
  have tk : ∀ ts, takeM ts s = some s' → Fits s' ∧ s'.length ≤ s.length + 1 := fun ts h => ⟨takeM_fits h hf, Nat.le_succ_of_le (takeM_len h)⟩
  unfold changeM at h
  by_cases q0 : x.op = 1 ∨ x.op = 19
  · rw [if_pos q0] at h
    cases h; exact ⟨hk 1 (by decide) (by decide), app1 _ _⟩
  rw [if_neg q0] at h
  by_cases q1 : x.op = 2
  · rw [if_pos q1] at h
    cases h; exact ⟨hk 2 (by decide) (by decide), app1 _ _⟩
  rw [if_neg q1] at h
  by_cases q2 : x.op = 3
  · rw [if_pos q2] at h
    cases h; exact ⟨hk 3 (by decide) (by decide), app1 _ _⟩
  rw [if_neg q2] at h
  by_cases q3 : x.op = 4
  · rw [if_pos q3] at h
    by_cases hx : x.a < lo.length
    · rw [if_pos hx] at h; cases h; exact ⟨fits_app hf (fits_getD hl _), app1 _ _⟩
    · rw [if_neg hx] at h; cases h
  rw [if_neg q3] at h
  by_cases q4 : x.op = 5
  · rw [if_pos q4] at h
    by_cases hx : x.a < lo.length
    · rw [if_pos hx] at h; exact tk _ h
    · rw [if_neg hx] at h; cases h
  rw [if_neg q4] at h
  by_cases q5 : x.op = 6
  · rw [if_pos q5] at h
    cases h; exact ⟨fits_app hf (fits_getD hP _), app1 _ _⟩
  rw [if_neg q5] at h
  by_cases q6 : x.op = 7
  · rw [if_pos q6] at h
    exact tk _ h
  rw [if_neg q6] at h
  by_cases q7 : x.op = 8
  · rw [if_pos q7] at h
    obtain ⟨s1, hs1, rfl⟩ := Option.map_eq_some_iff.1 h
    exact ⟨fits_app (takeM_fits hs1 hf) (fits_getD hP _), by have := takeM_len hs1; simp; omega⟩
  rw [if_neg q7] at h
  by_cases q8 : x.op = 9
  · rw [if_pos q8] at h
    exact tk _ h
  rw [if_neg q8] at h
  by_cases q9 : x.op = 10
  · rw [if_pos q9] at h
    exact unS_fits h hf
  rw [if_neg q9] at h
  by_cases q10 : x.op = 11
  · rw [if_pos q10] at h
    exact binS_fits h hf
  rw [if_neg q10] at h
  by_cases q11 : x.op = 17
  · rw [if_pos q11] at h
    exact tk _ h
  rw [if_neg q11] at h
  by_cases q12 : x.op = 18
  · rw [if_pos q12] at h
    cases h; exact ⟨fits_app hf (chanT_fits hc _), app1 _ _⟩
  rw [if_neg q12] at h
  by_cases q13 : x.op = 20 ∨ x.op = 21
  · rw [if_pos q13] at h
    exact tk _ h
  rw [if_neg q13] at h
  by_cases q14 : x.op = 22 ∨ x.op = 23
  · rw [if_pos q14] at h
    exact tk _ h
  rw [if_neg q14] at h
  cases h; exact ⟨hf, Nat.le_succ _⟩
theorem Sk.sl {w : World} {b B : Nat} {v : Value} {s : List Int} (h : Sk w b B v s) (hf : Fits s) : Sl w v s := by
  obtain ⟨a, c, rfl, h1, h2⟩ := own_slice h.row
  refine ⟨hf, a, c, rfl, h1, h2, fun i hi => ?_⟩
  obtain ⟨b', c', eb, _⟩ := own_some h.row (by omega)
  cases eb
  refine ⟨b', 0, rfl, (own_type h.row (k := b') rfl).2.1, ?_⟩
  rw [Nat.zero_add]
  exact (own_cell h.row _ _ (nts_at (by rw [List.getD_eq_getElem?_getD, List.getElem?_eq_getElem hi]; rfl))).1
/-- a stack's variable alone has turned -/
theorem Rs.tn {wB w w' : World} {F : Nat → Prop} {g bM bS : Nat} {vP vC vF vB vLo vL : Value} {c : Cd} {f : Fn3} {hi : Int} {vs : List Value} {m : Rw16} {b : Nat} {v : Value} (h : Rs wB w F g bM bS vP vC vF vB vLo c f hi vL vs m) (t : Tn b w w') (hb : ¬ F b) (hat : w.heap[b]? = some (.cells #[v] 51 (0, 0))) (hB : wB.heap.size ≤ b) : Rs wB w' F g bM bS vP vC vF vB vLo c f hi vL vs m :=
  { h with
    at_ := (t.blk g (h.fb g h.fg) (fun e => hb (e ▸ h.fg))).trans h.at_
    mt := own_keep h.mt fun k hk => t.blk k (own_type h.mt hk).2.1 (fun e => hb (by have := Option.some.inj hk; rw [← e, ← this]; exact h.fM))
    st := own_keep h.st fun k hk => t.blk k (own_type h.st hk).2.1 (fun e => hb (by have := Option.some.inj hk; rw [← e, ← this]; exact h.fS))
    lf := own_keep h.lf fun k hk => t.blk k (own_type h.lf hk).2.1 (fun e => hb (e ▸ h.fL k hk))
    row := fun i s v' hs hv => by
      obtain ⟨h1, h2⟩ := h.row i s v' hs hv
      exact ⟨own_keep h1 fun k hk => t.blk k (own_type h1 hk).2.1 (fun e => own_at h1 hat (by decide) (by rw [hk, e])), h2⟩
    fb := fun k hk => Nat.lt_of_lt_of_le (h.fb k hk) t.size
    bel := h.bel.trans (t.bel hB h.bel.size) }
end Go.Proofs.YtidjbgemnohbnaaDoor.Ck

/- Package proofread: what step's parts share. (Written by mk_s.py.) -/
namespace Go.Proofs.YtidjbgemnohbnaaDoor.Ck
open Go.RowKit

theorem RsP.from {p : List Addr} {wB w w1 w' : World} {F F1 : Nat → Prop} {g bM bS : Nat} {vP vC vF vB vLo : Value} {c : Cd} {f : Fn3} {hi : Int} {o : Option Rw16} {e : Ending} (h : RsP p wB w1 F1 g bM bS vP vC vF vB vLo c f hi o e w') (c1 : Ch F F1 w w1) : RsP p wB w F g bM bS vP vC vF vB vLo c f hi o e w' := by
  cases o with
  | some m' =>
    obtain ⟨h1, F', vL', vs', h2, h3⟩ := h
    exact ⟨h1, F', vL', vs', h2, c1.trans h3⟩
  | none =>
    obtain ⟨h1, h2⟩ := h
    have h3 := c1.trans h2
    exact ⟨h1, ⟨h3.os, h3.tape, h3.output, h3.size, h3.blk, fun k hk => .inl hk⟩⟩
theorem RsP.no {p : List Addr} {wB w w' : World} {F F1 : Nat → Prop} {g bM bS : Nat} {vP vC vF vB vLo : Value} {c : Cd} {f : Fn3} {hi : Int} {o : Option Rw16} (ho : o = none) (c1 : Ch F F1 w w') : RsP p wB w F g bM bS vP vC vF vB vLo c f hi o (codeStop p) w' := by
  subst ho
  exact ⟨rfl, ⟨c1.os, c1.tape, c1.output, c1.size, c1.blk, fun k hk => .inl hk⟩⟩
theorem RsP.yes {p : List Addr} {wB w w' : World} {F F1 : Nat → Prop} {g bM bS : Nat} {vP vC vF vB vLo vL' : Value} {vs' : List Value} {c : Cd} {f : Fn3} {hi : Int} {o : Option Rw16} {m' : Rw16} (ho : o = some m') (h : Rs wB w' F1 g bM bS vP vC vF vB vLo c f hi vL' vs' m') (c1 : Ch F F1 w w') : RsP p wB w F g bM bS vP vC vF vB vLo c f hi o (.returned (.tuple #[])) w' := by
  subst ho
  exact ⟨rfl, F1, _, _, h, c1⟩
end Go.Proofs.YtidjbgemnohbnaaDoor.Ck

/- Package proofread: step. (Written by mk_s.py.) -/
namespace Go.Proofs.YtidjbgemnohbnaaDoor.Ck
open Go.RowKit

set_option maxRecDepth 20000 in
set_option maxHeartbeats 4000000 in
theorem step_12 {wB w : World} {p : List Addr} {F : Nat → Prop} {g bM bS : Nat} {vP vC vF vB vLo vL : Value} {c : Cd} {f : Fn3} {hi : Int} {vs : List Value} {m : Rw16} (B : Bs wB p vP vC vF vB vLo c f) (h : Rs wB w F g bM bS vP vC vF vB vLo c f hi vL vs m) (hh : hi ≤ c.B.length) (n : Nat) (hn : n < c.B.length) (hi2 : insB c (c.B.getD n zI) = true) (hop : (c.B.getD n zI).op = 12) : Calls Tryd.prog 33 #[.pointer (some ⟨g, 0, none⟩), .int .i64 (n : Nat)] w (RsP p wB w F g bM bS vP vC vF vB vLo c f hi (stepM c f hi m n)) := by
  obtain ⟨o, ho⟩ : ∃ o, stepM c f hi m n = o := ⟨_, rfl⟩
  rw [ho]
  obtain ⟨v, s, _, hs, _, yS, sl, _, hl, hf⟩ := h.stk hn
  obtain ⟨x, hx⟩ : ∃ x, x = c.B.getD n zI := ⟨_, rfl⟩
  rw [← hx] at hop hi2
  have EM : Hid (o = jumpM c f.st hi m n s) := hide (by rw [← ho]; unfold stepM; simp only; rw [← hx, ← hs]; simp [hop])
  have CL := hide (clone_stk sl (by omega))
  obtain ⟨a0, c0, rfl, _⟩ := sl.form
  obtain ⟨aB, cB, eB, _⟩ := B.ins h.bel
  subst eB
  obtain ⟨N, hN⟩ : ∃ N, N = c.B.length := ⟨_, rfl⟩
  have y12 : w.cell? ⟨g, 12, none⟩ = some (.slice (some ⟨bS, 0, none⟩) N N) := by rw [hN]; exact blk_cell h.at_ 12 _ rfl
  have hn0 : n < N := by omega
  have hn1 : (n : Int) < (N : Int) := by omega
  obtain ⟨ns, hns⟩ : ∃ q, q = s.length := ⟨_, rfl⟩
  rw [← hns] at CL yS
  have HH := hide h
  have HB := hide B
  have HHH := hide hh
  have HX := hide (And.intro hn (And.intro hN (And.intro hns (And.intro hl hx))))
  have HF := hide hf
  have HI := hide hi2
  have hop2 := hop
  clear h B hh hn hi2 hs sl hl hf ho hN hns hx
  go_enter Tryd.func33, Tryd.ntmps33
  go_wp2_with fail
  refine CL.out.mono ?_
  rintro e w5 ⟨v', rfl, ⟨a5, c5, rfl⟩, o5, b5⟩
  have BN := bel_new w5 (.cells #[.slice a5 ns c5] 51)
  have B6 := bel_trans b5 BN
  have H6 := HH.out.keep B6
  have K6 : Sk (w5.alloc (.cells #[.slice a5 ns c5] 51)) w5.heap.size w.heap.size (.slice a5 ns c5) s := ⟨Go.Deep.blk_alloc_new _ _, own_keep (by rw [← HX.out.2.2.1]; exact o5) (fun k hk => BN.block k (own_type o5 hk).2.1), b5.size, by have := HX.out.2.2.2.1; omega⟩
  obtain ⟨aB2, cB2, eB2, hI⟩ := HB.out.ins H6.bel
  cases eB2
  obtain ⟨b1, o1, e1, _, z0, z1, z2, z3, z4⟩ := hI n HX.out.1
  subst e1
  rw [← HX.out.2.2.2.2] at z0 z1 z2 z3 z4
  rw [hop] at z0
  have y6 : (w5.alloc (.cells #[.slice a5 ns c5] 51)).cell? ⟨g, 6, none⟩ = some (.slice (some ⟨b1, o1, none⟩) N cB) := by rw [HX.out.2.1]; exact blk_cell H6.at_ 6 _ rfl
  have BN7 := bel_new (w5.alloc (.cells #[.slice a5 ns c5] 51)) (.cells #[.int .i64 12, .int .i64 x.a, .int .i64 x.b, .int .u64 x.bits, .int .i64 x.at_] 44)
  have B7 := hide (bel_trans B6 BN7)
  have H7 := hide (H6.keep BN7)
  have K7 := hide (K6.bel BN7)
  have hz7 : ((w5.alloc (.cells #[.slice a5 ns c5] 51)).alloc (.cells #[.int .i64 12, .int .i64 x.a, .int .i64 x.b, .int .u64 x.bits, .int .i64 x.at_] 44)).heap.size = w5.heap.size + 1 + 1 := by simp
  have SZ7 := hide hz7
  clear hz7
  have V7 := hide (Go.Deep.blk_alloc_new (w5.alloc (.cells #[.slice a5 ns c5] 51)) (.cells #[.int .i64 12, .int .i64 x.a, .int .i64 x.b, .int .u64 x.bits, .int .i64 x.at_] 44))
  have hs6 : (w5.alloc (.cells #[.slice a5 ns c5] 51)).heap.size = w5.heap.size + 1 := by simp
  rw [hs6] at V7
  have NF := hide (show ¬ F w5.heap.size from fun e => by have h1 := HH.out.fb _ e; have h2 := b5.size; omega)
  have LW := hide (show wB.heap.size ≤ w.heap.size from HH.out.size)
  have CF := hide (Ch.of_bel (F := F) B7.out)
  have NR : Hid (∀ k, w.heap.size ≤ k → ¬ F k) := hide (fun k hk e => absurd (HH.out.fb k e) (by omega))
  clear b5 o5 BN BN7 B6 H6 K6 hI hs6 CL yS y12
  go_wp2_with fail
  generalize (w5.alloc (.cells #[.slice a5 ns c5] 51)).alloc (.cells #[.int .i64 12, .int .i64 x.a, .int .i64 x.b, .int .u64 x.bits, .int .i64 x.at_] 44) = w7 at *
  generalize w5.heap.size = b at *
  clear z0 z1 z2 z3 z4 y6
  obtain ⟨kt, hkt, hkl⟩ := in_of ((insB_at (by rw [← hop2]; exact HI.out)).2.2.2.2.2.1 rfl : inN x.a c.B.length = true)
  have xb := blk_cell K7.out.at_ 0 _ rfl
  have JU := hide (jump_any HB.out H7.out HHH.out n kt HX.out.1 hkl (by rw [← HX.out.2.2.2.2]; exact hkt) (K7.out.sl HF.out) (by have := K7.out.n; omega))
  clear hkt hkl
  go_wp2_with fail
  refine JU.out.mono ?_
  intro e w8 hp
  have hq := hp.from CF.out
  rw [← EM.out] at hq
  rcases hq.both with ⟨m', F', vL', vs', ho, rfl, r2, c2⟩ | ⟨ho, rfl, c2⟩
  · have Z := hide hq
    clear hp hq r2 c2 ho
    go_wp2_with fail
    go_end0
    exact Z.out
  · exact ⟨rfl, hq⟩
end Go.Proofs.YtidjbgemnohbnaaDoor.Ck

/- Package proofread: step. (Written by mk_s.py.) -/
namespace Go.Proofs.YtidjbgemnohbnaaDoor.Ck
open Go.RowKit

set_option maxRecDepth 20000 in
set_option maxHeartbeats 4000000 in
theorem step_25 {wB w : World} {p : List Addr} {F : Nat → Prop} {g bM bS : Nat} {vP vC vF vB vLo vL : Value} {c : Cd} {f : Fn3} {hi : Int} {vs : List Value} {m : Rw16} (B : Bs wB p vP vC vF vB vLo c f) (h : Rs wB w F g bM bS vP vC vF vB vLo c f hi vL vs m) (hh : hi ≤ c.B.length) (n : Nat) (hn : n < c.B.length) (hi2 : insB c (c.B.getD n zI) = true) (hop : (c.B.getD n zI).op = 25) : Calls Tryd.prog 33 #[.pointer (some ⟨g, 0, none⟩), .int .i64 (n : Nat)] w (RsP p wB w F g bM bS vP vC vF vB vLo c f hi (stepM c f hi m n)) := by
  obtain ⟨o, ho⟩ : ∃ o, stepM c f hi m n = o := ⟨_, rfl⟩
  rw [ho]
  obtain ⟨v, s, _, hs, _, yS, sl, _, hl, hf⟩ := h.stk hn
  obtain ⟨x, hx⟩ : ∃ x, x = c.B.getD n zI := ⟨_, rfl⟩
  rw [← hx] at hop hi2
  have EM : Hid (o = if s = [] then some m else none) := hide (by rw [← ho]; unfold stepM; simp only; rw [← hx, ← hs]; simp [hop])
  have CL := hide (clone_stk sl (by omega))
  obtain ⟨a0, c0, rfl, _⟩ := sl.form
  obtain ⟨aB, cB, eB, _⟩ := B.ins h.bel
  subst eB
  obtain ⟨N, hN⟩ : ∃ N, N = c.B.length := ⟨_, rfl⟩
  have y12 : w.cell? ⟨g, 12, none⟩ = some (.slice (some ⟨bS, 0, none⟩) N N) := by rw [hN]; exact blk_cell h.at_ 12 _ rfl
  have hn0 : n < N := by omega
  have hn1 : (n : Int) < (N : Int) := by omega
  obtain ⟨ns, hns⟩ : ∃ q, q = s.length := ⟨_, rfl⟩
  rw [← hns] at CL yS
  have HH := hide h
  have HB := hide B
  have HHH := hide hh
  have HX := hide (And.intro hn (And.intro hN (And.intro hns (And.intro hl hx))))
  have HF := hide hf
  have HI := hide hi2
  have hop2 := hop
  clear h B hh hn hi2 hs sl hl hf ho hN hns hx
  go_enter Tryd.func33, Tryd.ntmps33
  go_wp2_with fail
  refine CL.out.mono ?_
  rintro e w5 ⟨v', rfl, ⟨a5, c5, rfl⟩, o5, b5⟩
  have BN := bel_new w5 (.cells #[.slice a5 ns c5] 51)
  have B6 := bel_trans b5 BN
  have H6 := HH.out.keep B6
  have K6 : Sk (w5.alloc (.cells #[.slice a5 ns c5] 51)) w5.heap.size w.heap.size (.slice a5 ns c5) s := ⟨Go.Deep.blk_alloc_new _ _, own_keep (by rw [← HX.out.2.2.1]; exact o5) (fun k hk => BN.block k (own_type o5 hk).2.1), b5.size, by have := HX.out.2.2.2.1; omega⟩
  obtain ⟨aB2, cB2, eB2, hI⟩ := HB.out.ins H6.bel
  cases eB2
  obtain ⟨b1, o1, e1, _, z0, z1, z2, z3, z4⟩ := hI n HX.out.1
  subst e1
  rw [← HX.out.2.2.2.2] at z0 z1 z2 z3 z4
  rw [hop] at z0
  have y6 : (w5.alloc (.cells #[.slice a5 ns c5] 51)).cell? ⟨g, 6, none⟩ = some (.slice (some ⟨b1, o1, none⟩) N cB) := by rw [HX.out.2.1]; exact blk_cell H6.at_ 6 _ rfl
  have BN7 := bel_new (w5.alloc (.cells #[.slice a5 ns c5] 51)) (.cells #[.int .i64 25, .int .i64 x.a, .int .i64 x.b, .int .u64 x.bits, .int .i64 x.at_] 44)
  have B7 := hide (bel_trans B6 BN7)
  have H7 := hide (H6.keep BN7)
  have K7 := hide (K6.bel BN7)
  have hz7 : ((w5.alloc (.cells #[.slice a5 ns c5] 51)).alloc (.cells #[.int .i64 25, .int .i64 x.a, .int .i64 x.b, .int .u64 x.bits, .int .i64 x.at_] 44)).heap.size = w5.heap.size + 1 + 1 := by simp
  have SZ7 := hide hz7
  clear hz7
  have V7 := hide (Go.Deep.blk_alloc_new (w5.alloc (.cells #[.slice a5 ns c5] 51)) (.cells #[.int .i64 25, .int .i64 x.a, .int .i64 x.b, .int .u64 x.bits, .int .i64 x.at_] 44))
  have hs6 : (w5.alloc (.cells #[.slice a5 ns c5] 51)).heap.size = w5.heap.size + 1 := by simp
  rw [hs6] at V7
  have NF := hide (show ¬ F w5.heap.size from fun e => by have h1 := HH.out.fb _ e; have h2 := b5.size; omega)
  have LW := hide (show wB.heap.size ≤ w.heap.size from HH.out.size)
  have CF := hide (Ch.of_bel (F := F) B7.out)
  have NR : Hid (∀ k, w.heap.size ≤ k → ¬ F k) := hide (fun k hk e => absurd (HH.out.fb k e) (by omega))
  clear b5 o5 BN BN7 B6 H6 K6 hI hs6 CL yS y12
  go_wp2_with fail
  generalize (w5.alloc (.cells #[.slice a5 ns c5] 51)).alloc (.cells #[.int .i64 25, .int .i64 x.a, .int .i64 x.b, .int .u64 x.bits, .int .i64 x.at_] 44) = w7 at *
  generalize w5.heap.size = b at *
  clear z0 z1 z2 z3 z4 y6
  have xb := blk_cell K7.out.at_ 0 _ rfl
  have MN := hide (pmust_no (H7.out.er HB.out))
  by_cases h0 : ns = 0
  · subst h0
    have ES : Hid (o = some m) := hide (by rw [EM.out, if_pos (List.length_eq_zero_iff.1 HX.out.2.2.1.symm)])
    go_wp2_with fail
    refine (pmust_yes _).mono ?_
    rintro e w8 ⟨rfl, rfl⟩
    go_wp2_with fail
    go_end0
    exact RsP.yes ES.out H7.out CF.out
  · have ES : Hid (o = none) := hide (by rw [EM.out, if_neg (fun e => h0 (by rw [HX.out.2.2.1, e]; rfl))])
    have hd : ((ns : Int) == 0) = false := by simp; omega
    rw [hd]
    refine MN.out.mono ?_
    rintro e w8 ⟨rfl, rfl⟩
    exact ⟨rfl, RsP.no ES.out CF.out⟩
end Go.Proofs.YtidjbgemnohbnaaDoor.Ck

/- Package proofread: step. (Written by mk_s.py.) -/
namespace Go.Proofs.YtidjbgemnohbnaaDoor.Ck
open Go.RowKit

set_option maxRecDepth 20000 in
set_option maxHeartbeats 4000000 in
theorem step_13 {wB w : World} {p : List Addr} {F : Nat → Prop} {g bM bS : Nat} {vP vC vF vB vLo vL : Value} {c : Cd} {f : Fn3} {hi : Int} {vs : List Value} {m : Rw16} (B : Bs wB p vP vC vF vB vLo c f) (h : Rs wB w F g bM bS vP vC vF vB vLo c f hi vL vs m) (hh : hi ≤ c.B.length) (n : Nat) (hn : n < c.B.length) (hi2 : insB c (c.B.getD n zI) = true) (hop : (c.B.getD n zI).op = 13) : Calls Tryd.prog 33 #[.pointer (some ⟨g, 0, none⟩), .int .i64 (n : Nat)] w (RsP p wB w F g bM bS vP vC vF vB vLo c f hi (stepM c f hi m n)) := by
  obtain ⟨o, ho⟩ : ∃ o, stepM c f hi m n = o := ⟨_, rfl⟩
  rw [ho]
  obtain ⟨v, s, _, hs, _, yS, sl, _, hl, hf⟩ := h.stk hn
  obtain ⟨x, hx⟩ : ∃ x, x = c.B.getD n zI := ⟨_, rfl⟩
  rw [← hx] at hop hi2
  have EM : Hid (o = (takeM [3] s).bind fun s' => (jumpM c f.st hi m n s').bind fun m' => comeM f.st hi m' (n + 1) s') := hide (by rw [← ho]; unfold stepM; simp only; rw [← hx, ← hs]; simp [hop])
  have CL := hide (clone_stk sl (by omega))
  obtain ⟨a0, c0, rfl, _⟩ := sl.form
  obtain ⟨aB, cB, eB, _⟩ := B.ins h.bel
  subst eB
  obtain ⟨N, hN⟩ : ∃ N, N = c.B.length := ⟨_, rfl⟩
  have y12 : w.cell? ⟨g, 12, none⟩ = some (.slice (some ⟨bS, 0, none⟩) N N) := by rw [hN]; exact blk_cell h.at_ 12 _ rfl
  have hn0 : n < N := by omega
  have hn1 : (n : Int) < (N : Int) := by omega
  obtain ⟨ns, hns⟩ : ∃ q, q = s.length := ⟨_, rfl⟩
  rw [← hns] at CL yS
  have HH := hide h
  have HB := hide B
  have HHH := hide hh
  have HX := hide (And.intro hn (And.intro hN (And.intro hns (And.intro hl hx))))
  have HF := hide hf
  have HI := hide hi2
  have hop2 := hop
  clear h B hh hn hi2 hs sl hl hf ho hN hns hx
  go_enter Tryd.func33, Tryd.ntmps33
  go_wp2_with fail
  refine CL.out.mono ?_
  rintro e w5 ⟨v', rfl, ⟨a5, c5, rfl⟩, o5, b5⟩
  have BN := bel_new w5 (.cells #[.slice a5 ns c5] 51)
  have B6 := bel_trans b5 BN
  have H6 := HH.out.keep B6
  have K6 : Sk (w5.alloc (.cells #[.slice a5 ns c5] 51)) w5.heap.size w.heap.size (.slice a5 ns c5) s := ⟨Go.Deep.blk_alloc_new _ _, own_keep (by rw [← HX.out.2.2.1]; exact o5) (fun k hk => BN.block k (own_type o5 hk).2.1), b5.size, by have := HX.out.2.2.2.1; omega⟩
  obtain ⟨aB2, cB2, eB2, hI⟩ := HB.out.ins H6.bel
  cases eB2
  obtain ⟨b1, o1, e1, _, z0, z1, z2, z3, z4⟩ := hI n HX.out.1
  subst e1
  rw [← HX.out.2.2.2.2] at z0 z1 z2 z3 z4
  rw [hop] at z0
  have y6 : (w5.alloc (.cells #[.slice a5 ns c5] 51)).cell? ⟨g, 6, none⟩ = some (.slice (some ⟨b1, o1, none⟩) N cB) := by rw [HX.out.2.1]; exact blk_cell H6.at_ 6 _ rfl
  have BN7 := bel_new (w5.alloc (.cells #[.slice a5 ns c5] 51)) (.cells #[.int .i64 13, .int .i64 x.a, .int .i64 x.b, .int .u64 x.bits, .int .i64 x.at_] 44)
  have B7 := hide (bel_trans B6 BN7)
  have H7 := hide (H6.keep BN7)
  have K7 := hide (K6.bel BN7)
  have hz7 : ((w5.alloc (.cells #[.slice a5 ns c5] 51)).alloc (.cells #[.int .i64 13, .int .i64 x.a, .int .i64 x.b, .int .u64 x.bits, .int .i64 x.at_] 44)).heap.size = w5.heap.size + 1 + 1 := by simp
  have SZ7 := hide hz7
  clear hz7
  have V7 := hide (Go.Deep.blk_alloc_new (w5.alloc (.cells #[.slice a5 ns c5] 51)) (.cells #[.int .i64 13, .int .i64 x.a, .int .i64 x.b, .int .u64 x.bits, .int .i64 x.at_] 44))
  have hs6 : (w5.alloc (.cells #[.slice a5 ns c5] 51)).heap.size = w5.heap.size + 1 := by simp
  rw [hs6] at V7
  have NF := hide (show ¬ F w5.heap.size from fun e => by have h1 := HH.out.fb _ e; have h2 := b5.size; omega)
  have LW := hide (show wB.heap.size ≤ w.heap.size from HH.out.size)
  have CF := hide (Ch.of_bel (F := F) B7.out)
  have NR : Hid (∀ k, w.heap.size ≤ k → ¬ F k) := hide (fun k hk e => absurd (HH.out.fb k e) (by omega))
  clear b5 o5 BN BN7 B6 H6 K6 hI hs6 CL yS y12
  go_wp2_with fail
  generalize (w5.alloc (.cells #[.slice a5 ns c5] 51)).alloc (.cells #[.int .i64 13, .int .i64 x.a, .int .i64 x.b, .int .u64 x.bits, .int .i64 x.at_] 44) = w7 at *
  generalize w5.heap.size = b at *
  clear z0 z1 z2 z3 z4 y6
  obtain ⟨kt, hkt, hkl⟩ := in_of ((insB_at (by rw [← hop2]; exact HI.out)).2.2.2.2.2.2.1 (.inl rfl) : inN x.a c.B.length = true)
  have HT := hide (And.intro hkt hkl)
  clear hkt hkl
  have BA := hide (bel_new w7 (.cells #[.int .i64 3] 3))
  have TK := hide (take_any (H7.out.keep BA.out |>.er HB.out) (K7.out.bel BA.out) (sl_one1 (Go.Deep.blk_alloc_new w7 (.cells #[.int .i64 3] 3)) (fits_k (by decide) (by decide))) (by simp))
  rw [SZ7.out] at TK
  refine TK.out.mono ?_
  intro e w8 hp
  rcases hp.both with ⟨s8, v8, hs8, rfl, k8, t8⟩ | ⟨hs8, rfl, t8⟩
  rotate_left 1
  · exact ⟨rfl, RsP.no (by rw [EM.out, hs8]; rfl) (CF.out.below ((BA.out.mono B7.out.size).trans (t8.bel K7.out.hb (Nat.le_trans B7.out.size BA.out.size))))⟩
  have R8 := hide ((H7.out.keep BA.out).tn t8 NF.out (K7.out.bel BA.out).at_ (Nat.le_trans LW.out K7.out.hb))
  have K8 := hide k8
  have B8 := hide (B7.out.trans ((BA.out.mono B7.out.size).trans (t8.bel K7.out.hb (Nat.le_trans B7.out.size BA.out.size))))
  have F8 := hide (takeM_fits hs8 HF.out)
  have L8 := hide (Nat.le_trans (takeM_len hs8) HX.out.2.2.2.1)
  have HS8 := hide hs8
  have EM2 : Hid (o = (jumpM c f.st hi m n s8).bind fun m' => comeM f.st hi m' (n + 1) s8) := hide (by rw [EM.out, hs8]; rfl)
  have xb := blk_cell K8.out.at_ 0 _ rfl
  have JU := hide (jump_any HB.out R8.out HHH.out n kt HX.out.1 HT.out.2 (by rw [← HX.out.2.2.2.2]; exact HT.out.1) (K8.out.sl F8.out) (by have := K8.out.n; omega))
  have C8 := hide (Ch.of_bel (F := F) B8.out)
  have N8 := hide (K8.out.ne)
  have O8 : Hid (∀ k, v8.ownBlock = some k → w.heap.size ≤ k) := hide (fun k hk => (own_type K8.out.row hk).1)
  clear hp hs8 k8 t8 TK BA H7 K7 B7 CF
  go_wp2_with fail
  refine JU.out.mono ?_
  intro e w9 hp
  rcases hp.both with ⟨m9, F9, vL9, vs9, ho9, rfl, r9, c9⟩ | ⟨ho9, rfl, c9⟩
  rotate_left 1
  · exact ⟨rfl, RsP.no (by rw [EM2.out, ho9]; rfl) (C8.out.trans c9)⟩
  have K9 := hide (K8.out.ch c9 NF.out (fun k hk => NR.out k (O8.out k hk)))
  have R9 := hide r9
  have C9 := hide (C8.out.trans c9)
  have EM3 : Hid (o = comeM f.st hi m9 (n + 1) s8) := hide (by rw [EM2.out, ho9]; rfl)
  have xb := blk_cell K9.out.at_ 0 _ rfl
  have hw9 : wrap64 ((n : Int) + 1) = ((n : Int) + 1) := by unfold wrap64; have := HB.out.n; have := HX.out.1; omega
  have CO := hide (come_any HB.out R9.out HHH.out ((n : Int) + 1) (K9.out.sl F8.out) (by have := K9.out.n; omega))
  clear hp ho9 r9 c9 JU R8 K8 C8 B8
  go_wp2_with fail
  refine CO.out.mono ?_
  intro e w10 hp
  have hq := hp.from C9.out
  rw [← EM3.out] at hq
  rcases hq.both with ⟨m', F', vL', vs', ho, rfl, r2, c2⟩ | ⟨ho, rfl, c2⟩
  · have Z := hide hq
    clear hp hq r2 c2 ho
    go_wp2_with fail
    go_end0
    exact Z.out
  · exact ⟨rfl, hq⟩
end Go.Proofs.YtidjbgemnohbnaaDoor.Ck
