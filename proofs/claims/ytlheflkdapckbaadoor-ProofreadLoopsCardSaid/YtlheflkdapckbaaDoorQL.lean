/- Texts of this proof, packed. -/
import Derived.Test.YtlheflkdapckbaaDoorPf
import Derived.Test.YtlheflkdapckbaaDoorGa
import Derived.Test.YtlheflkdapckbaaDoorPg
import Derived.Deep.LoopGhost
import Derived.Test.YtlheflkdapckbaaDoorCm
import Derived.Defers
import Derived.Recover
import Derived.Deep.CutRange
import Derived.Deep.RegionHeld3
import Derived.Test.YtlheflkdapckbaaDoorCp
import Derived.Test.YtlheflkdapckbaaDoorNum
/- Package slices, of stacks: Equal, Clone. (Written by mk_j.py.) -/
namespace Go.Proofs.YtlheflkdapckbaaDoor.Ck
open Go.RowKit

set_option maxRecDepth 20000 in
set_option maxHeartbeats 4000000 in
theorem eq_stk {w : World} {v1 v2 : Value} {l1 l2 : List Int} (h1 : Sl w v1 l1) (h2 : Sl w v2 l2) (hn : l1.length ≤ 100000 ∧ l2.length ≤ 100000) : Calls Tryd.prog 43 #[v1, v2] w (Dr w (.bool (sameL eqN l1 l2))) := by
  obtain ⟨_, a1, c1, e1, p1, p2, h1⟩ := h1
  obtain ⟨_, a2, c2, e2, p3, p4, h2⟩ := h2
  subst e1 e2
  by_cases hl : l1.length = l2.length
  · obtain ⟨n, hn1⟩ : ∃ n, n = l1.length := ⟨_, rfl⟩
    have hs : Hid ((∀ j, j < n → eqN (l1.getD j 0) (l2.getD j 0) = true) → sameL eqN l1 l2 = true) := fun h => sameL_all 0 l1 l2 hl (fun j hj => h j (by omega))
    have hs2 : Hid (∀ k : Nat, k < n → eqN (l1.getD k 0) (l2.getD k 0) = false → sameL eqN l1 l2 = false) := fun k hk => sameL_not 0 l1 l2 k (by omega) (by omega)
    have H1 := hide h1
    have H2 := hide h2
    have HL := hide (And.intro hn1 hl)
    have hnn : n ≤ 100000 := by omega
    rw [← hl, ← hn1]
    clear hl hn1 h1 h2 hn p1 p2 p3 p4
    generalize sameL eqN l1 l2 = r at *
    go_enter Tryd.func43, Tryd.ntmps43
    go_wp2_with fail
    go_loopw [5, 13] (fun x5 i wr => ∃ k : Nat, k ≤ n ∧ i = .int .i64 k ∧ Hid (∀ j, j < k → eqN (l1.getD j 0) (l2.getD j 0) = true) ∧ Hid (∃ q, wr = w.drewN q)) (fun x5 i _ => n - (intOf i).toNat)
    case atStart => exact ⟨0, Nat.zero_le _, rfl, fun j hj => absurd hj (Nat.not_lt_zero _), 0, rfl⟩
    case round =>
      obtain ⟨k, hk, rfl, hall, hw⟩ := hrel
      obtain ⟨q, hq⟩ := hw.out
      have HQ := hide hq
      clear hw
      by_cases hlt : k < n
      · have hlt' : (k : Int) < (n : Int) := by omega
        obtain ⟨b1, o1, e1, hb1, r1⟩ := H1.out k (by have := HL.out; omega)
        obtain ⟨b2, o2, e2, hb2, s1⟩ := H2.out k (by have := HL.out; omega)
        subst e1 e2
        have t0 := drew_at hq r1
        have t1 := drew_at hq s1
        have hb1' := drew_lt hq hb1
        have hb2' := drew_lt hq hb2
        have HY : Hid (eqN (l1.getD k 0) (l2.getD k 0) = true → ∀ j, j < k + 1 → eqN (l1.getD j 0) (l2.getD j 0) = true) := fun e j hj => by
          by_cases ej : j = k
          · rw [ej]; exact e
          · exact hall.out j (by omega)
        have HNO : Hid (eqN (l1.getD k 0) (l2.getD k 0) = false → r = false) := fun e => hs2.out k hlt e
        clear hs hs2 hall H1 H2 hq hb1 hb2 r1 s1
        generalize l1.getD k 0 = x at *
        generalize l2.getD k 0 = y at *
        cases hxy : eqN x y with
        | true =>
          have hy2 := hide (HY.out hxy)
          have hne : (x != y) = false := by rw [eq_of_beq hxy]; simp
          clear HY HNO hxy
          go_wp2_with fail
          go_quiet (fail)
          go_wp2_with fail
          go_roundw
          case rel => exact ⟨k + 1, by omega, by go_num, hy2, q + _, drew_more HQ.out _⟩
          case measure => simp [intOf]; omega
        | false =>
          have hn2 := HNO.out hxy
          subst hn2
          have hne : (x != y) = true := by simpa [eqN] using hxy
          clear HY HNO hxy
          go_wp2_with fail
          go_quiet (fail)
          go_wp2_with fail
          go_ret
          exact ⟨rfl, q + _, drew_more HQ.out _⟩
      · obtain rfl : k = n := by omega
        have hr := hs.out hall.out
        subst hr
        clear hs hs2 hall H1 H2 hq
        go_wp2_with fail
        go_ret
        exact ⟨rfl, q, HQ.out⟩
  · rw [sameL_len l1 l2 hl]
    have ht : ((l1.length : Int) != (l2.length : Int)) = true := by rw [bne_iff_ne]; omega
    clear h1 h2 hl
    go_enter Tryd.func43, Tryd.ntmps43
    go_wp2_with fail
    go_ret
    exact ⟨rfl, 0, rfl⟩
theorem nts_one (l : List Int) : ∀ u ∈ nts l, u.oneCell' = true := fun u hu => by unfold nts at hu; obtain ⟨x, _, rfl⟩ := List.mem_map.1 hu; rfl
theorem app_new {w : World} {ad : Addr} {c : Nat} {l : List Int} (h : Sl w (.slice (some ad) l.length c) l) (hl : l.length ≤ 100000) (ty : TypeId) :
    ∃ v' w', (Builtin.append_ #[54, 54] ty #[.slice (some ⟨w.heap.size, 0, none⟩) 0 0, .slice (some ad) l.length c]).run Tryd.prog (w.alloc (.cells #[] 3)) = .ok v' w' ∧ ((∃ a c, v' = .slice a l.length c) ∧ w'.ownsRow w.heap.size 3 1 v' l.length (nts l) ∧ Below w.heap.size w w') := by
  obtain ⟨ie, hi, hz0, hz1, hz2⟩ := info_parts info3
  have hb := bel_new w (.cells #[] 3)
  have o1 : (w.alloc (.cells #[] 3)).ownsRow w.heap.size 3 1 (.slice (some ⟨w.heap.size, 0, none⟩) 0 0) 0 [] := ⟨rfl, .inr ⟨w.heap.size, 0, _, rfl, Nat.le_refl _, Go.Deep.blk_alloc_new _ _, Nat.le_refl _, Nat.zero_le _, rfl, rfl⟩⟩
  have hc : ∀ (j : Nat) (u : Value), (nts l)[j]? = some u → (w.alloc (.cells #[] 3)).cell? (ad.add j) = some u := fun j u hu => by
    have hj : j < l.length := by
      have := (List.getElem?_eq_some_iff.1 hu).1
      rwa [nts_len] at this
    obtain ⟨b, o, e, hlt, h2⟩ := h.at j hj
    cases e
    rw [show (⟨b, o, none⟩ : Addr).add j = ⟨b, o + j, none⟩ by unfold Addr.add; by_cases h : j = 0 <;> simp [h]]
    have e3 : (nts l)[j]? = some (.int .i64 (l.getD j 0)) := nts_at (by rw [List.getD_eq_getElem?_getD, List.getElem?_eq_getElem hj]; rfl)
    rw [e3] at hu
    cases hu
    exact (hb.cell (p := ⟨b, o + j, none⟩) hlt).trans h2
  obtain ⟨v', w', hr, ho', hg, _⟩ := run_append_own (P := Tryd.prog) (w.alloc (.cells #[] 3)) w.heap.size 54 ty 3 ie _ 1 8 Tryd.underlying54 hi hz0 hz1 hz2 rfl (by decide) _ 0 [] o1 ad l.length c (nts l) (by rw [nts_len]; simp) hc (nts_one l) (by unfold maxLen; omega) (by omega) hb.size
  simp only [Nat.zero_add, List.nil_append] at ho'
  obtain ⟨a9, c9, e9, _⟩ := own_slice ho'
  refine ⟨v', w', hr, ⟨_, _, e9⟩, ho', ⟨hg.os, hg.tape, hg.output, Nat.le_trans hb.size hg.size, fun k hk => (hg.block k (Nat.lt_of_lt_of_le hk hb.size) (fun e => ?_)).trans (hb.block k hk)⟩⟩
  have e2 : w.heap.size = k := Option.some.inj e.symm
  omega
set_option maxRecDepth 20000 in
set_option maxHeartbeats 2000000 in
theorem clone_stk {w : World} {v : Value} {l : List Int} (h : Sl w v l) (hn : l.length ≤ 100000) : Calls Tryd.prog 44 #[v] w fun e w' => ∃ v', e = .returned v' ∧ (∃ a c, v' = .slice a l.length c) ∧ w'.ownsRow w.heap.size 3 1 v' l.length (nts l) ∧ Below w.heap.size w w' := by
  obtain ⟨a, n, c, rfl, en⟩ := h.slice
  cases a with
  | none =>
    have hz : l = [] := by
      cases l with
      | nil => rfl
      | cons z l =>
        obtain ⟨_, a', c', e, _, _, h3⟩ := h
        obtain ⟨b, o, e', _⟩ := h3 0 (by simp)
        cases e
        cases e'
    subst hz
    have e0 : n = 0 := en
    subst e0
    clear h hn en
    have hE : ∀ w, (binOp .eql 54 (.slice none 0 c) (.slice none 0 0)).run Tryd.prog w = .ok (.bool true) w := fun w => by kernel_rfl
    go_enter Tryd.func44, Tryd.ntmps44
    go_wp2_with fail
    go_ret
    exact ⟨_, rfl, ⟨_, _, rfl⟩, World.ownsRow_nil _ _ _ _, Below.refl _ _⟩
  | some ad =>
    subst en
    have AP := hide (fun ty => app_new h hn ty)
    obtain ⟨m, hm⟩ : ∃ m, m = l.length := ⟨_, rfl⟩
    rw [← hm] at AP ⊢
    have hE : ∀ w, (binOp .eql 54 (.slice (some ad) m c) (.slice none 0 0)).run Tryd.prog w = .ok (.bool false) w := fun w => by kernel_rfl
    clear h hn hm
    go_enter Tryd.func44, Tryd.ntmps44
    go_wp2_with (first | (at_builtin; refine wpList_appV (TS := 54) rfl (.tmp 5) (.tmp 6) rfl _ _ rfl rfl _ (AP.out _) ?_; rintro v9 w9 ⟨⟨a9, c9, rfl⟩, o9⟩; have R9 := hide o9; clear o9))
    go_ret
    exact ⟨_, rfl, ⟨_, _, rfl⟩, R9.out.1, R9.out.2⟩
end Go.Proofs.YtlheflkdapckbaaDoor.Ck

/- Package proofread: a reader in memory, with what it has gone through; no Go text is walked here. -/
namespace Go.Proofs.YtlheflkdapckbaaDoor.Ck
open Go.RowKit

def bls (l : List Bool) : List Value := l.map Value.bool
def nns (l : List Nat) : List Value := l.map fun (n : Nat) => Value.int .i64 (n : Int)
theorem nns_at {l : List Nat} {i x : Nat} (h : l[i]? = some x) : (nns l)[i]? = some (.int .i64 (x : Int)) := by simp [nns, h]
theorem nns_nts (l : List Nat) : nns l = nts (l.map fun (n : Nat) => (n : Int)) := by simp [nns, nts]
theorem bls_at {l : List Bool} {i : Nat} {x : Bool} (h : l[i]? = some x) : (bls l)[i]? = some (.bool x) := by simp [bls, h]
theorem bls_set (l : List Bool) (i : Nat) (x : Bool) : (bls l).set i (.bool x) = bls (l.set i x) := by simp [bls]
theorem count_set : ∀ (l : List Bool) (n : Nat), l[n]? = some false → (l.set n true).count true = l.count true + 1
  | [], n, h => by simp at h
  | x :: l, 0, h => by
    simp at h
    subst h
    simp
  | x :: l, n + 1, h => by
    have ih := count_set l n (by simpa using h)
    simp only [List.set_cons_succ, List.count_cons, ih]
    omega
theorem own_low {w : World} {B B' : Nat} {T : TypeId} {n : Nat} {v : Value} {len : Nat} {xs : List Value} (h : w.ownsRow B T n v len xs) (hB : B' ≤ B) : w.ownsRow B' T n v len xs := by
  obtain ⟨h1, h2 | ⟨g, cap, cur, hv, hg, r⟩⟩ := h
  · exact ⟨h1, .inl h2⟩
  · exact ⟨h1, .inr ⟨g, cap, cur, hv, Nat.le_trans hB hg, r⟩⟩
/-- what a reader reads, and never turns: its code, its function's locals; wB: the world at its beginning -/
structure Bs (wB : World) (p : List Addr) (vP vC vF vB vLo : Value) (c : Cd) (f : Fn3) : Prop where
  ec : Ec wB p
  cv : Cv wB vP vC vF vB c
  lo : Sl wB vLo f.lo
  n : c.B.length ≤ 8192
  fm : Fm c
  st : 0 ≤ f.st
/-- a reader: g its block, bM and bS those of its lists, F all that it may turn -/
structure Rs (wB w : World) (F : Nat → Prop) (g bM bS : Nat) (vP vC vF vB vLo : Value) (c : Cd) (f : Fn3) (hi : Int) (vL : Value) (vs : List Value) (m : Rw16) : Prop where
  at_ : w.heap[g]? = some (.cells #[vP, .int .i64 c.M, .int .i64 c.A, vC, vF, .int .i64 c.mn, vB, .int .i64 f.st, .int .i64 f.pa, vLo, .int .i64 hi, .slice (some ⟨bM, 0, none⟩) c.B.length c.B.length, .slice (some ⟨bS, 0, none⟩) c.B.length c.B.length, vL] 71 (0, 0))
  mt : w.ownsRow 0 4 1 (.slice (some ⟨bM, 0, none⟩) c.B.length c.B.length) c.B.length (bls m.met)
  st : w.ownsRow 0 54 1 (.slice (some ⟨bS, 0, none⟩) c.B.length c.B.length) c.B.length vs
  lf : w.ownsRow 0 3 1 vL m.left.length (nns m.left)
  row : ∀ (i : Nat) (s : List Int) (v : Value), m.st[i]? = some s → vs[i]? = some v → w.ownsRow 0 3 1 v s.length (nts s) ∧ (∀ k, v.ownBlock = some k → ¬ F k) ∧ Fits s ∧ s.length ≤ 64
  ml : m.met.length = c.B.length
  sl : m.st.length = c.B.length
  lb : ∀ i ∈ m.left, i < c.B.length
  ln : m.left.length ≤ m.met.count true
  fg : F g
  fM : F bM
  fS : F bS
  fL : ∀ k, vL.ownBlock = some k → F k
  low : ∀ k, F k → wB.heap.size ≤ k
  fb : ∀ k, F k → k < w.heap.size
  bel : Below wB.heap.size wB w
section
variable {wB w w' : World} {F F' : Nat → Prop} {g bM bS : Nat} {vP vC vF vB vLo vL : Value} {c : Cd} {f : Fn3} {hi : Int} {vs : List Value} {m : Rw16} {p : List Addr}
theorem Rs.vl (h : Rs wB w F g bM bS vP vC vF vB vLo c f hi vL vs m) : vs.length = c.B.length := by
  have := h.st.1
  omega
theorem Rs.keep (h : Rs wB w F g bM bS vP vC vF vB vLo c f hi vL vs m) (hb : Below w.heap.size w w') : Rs wB w' F g bM bS vP vC vF vB vLo c f hi vL vs m :=
  { h with
    at_ := (hb.block g (lt_of_blk h.at_)).trans h.at_
    mt := own_keep h.mt fun k hk => hb.block k (own_type h.mt hk).2.1
    st := own_keep h.st fun k hk => hb.block k (own_type h.st hk).2.1
    lf := own_keep h.lf fun k hk => hb.block k (own_type h.lf hk).2.1
    row := fun i s v hs hv => by
      obtain ⟨h1, h2⟩ := h.row i s v hs hv
      exact ⟨own_keep h1 fun k hk => hb.block k (own_type h1 hk).2.1, h2⟩
    fb := fun k hk => Nat.lt_of_lt_of_le (h.fb k hk) hb.size
    bel := h.bel.trans (hb.mono h.bel.size) }
theorem Rs.rd (h : Rs wB w F g bM bS vP vC vF vB vLo c f hi vL vs m) (B : Bs wB p vP vC vF vB vLo c f) : Rdv w g vP vC vF vB c f vLo hi (.slice (some ⟨bM, 0, none⟩) c.B.length c.B.length) (.slice (some ⟨bS, 0, none⟩) c.B.length c.B.length) vL := ⟨h.at_, B.cv.bel h.bel, B.lo.bel h.bel⟩
theorem Rs.er (h : Rs wB w F g bM bS vP vC vF vB vLo c f hi vL vs m) (B : Bs wB p vP vC vF vB vLo c f) : Ec w p := B.ec.bel h.bel
theorem Rs.gM (h : Rs wB w F g bM bS vP vC vF vB vLo c f hi vL vs m) : g ≠ bM := fun e => own_at h.mt h.at_ (by decide) (by rw [e]; rfl)
theorem Rs.gS (h : Rs wB w F g bM bS vP vC vF vB vLo c f hi vL vs m) : g ≠ bS := fun e => own_at h.st h.at_ (by decide) (by rw [e]; rfl)
theorem Rs.gL (h : Rs wB w F g bM bS vP vC vF vB vLo c f hi vL vs m) : vL.ownBlock ≠ some g := own_at h.lf h.at_ (by decide)
theorem Rs.MS (h : Rs wB w F g bM bS vP vC vF vB vLo c f hi vL vs m) : bM ≠ bS := fun e => own_apart h.mt h.st (by decide) bM rfl (by rw [e]; rfl)
theorem Rs.ML (h : Rs wB w F g bM bS vP vC vF vB vLo c f hi vL vs m) : vL.ownBlock ≠ some bM := fun e => own_apart h.mt h.lf (by decide) bM rfl e
theorem Rs.SL (h : Rs wB w F g bM bS vP vC vF vB vLo c f hi vL vs m) : vL.ownBlock ≠ some bS := fun e => own_apart h.st h.lf (by decide) bS rfl e
theorem Rs.size (h : Rs wB w F g bM bS vP vC vF vB vLo c f hi vL vs m) : wB.heap.size ≤ w.heap.size := h.bel.size
/-- a stack, read -/
theorem Rs.stk (h : Rs wB w F g bM bS vP vC vF vB vLo c f hi vL vs m) {i : Nat} (hi' : i < c.B.length) : ∃ v s, m.st[i]? = some s ∧ s = m.st.getD i [] ∧ vs[i]? = some v ∧ w.cell? ⟨bS, i, none⟩ = some v ∧ Sl w v s ∧ (∀ k, v.ownBlock = some k → ¬ F k) ∧ s.length ≤ 64 ∧ Fits s := by
  obtain ⟨s, hs⟩ : ∃ s, m.st[i]? = some s := ⟨_, List.getElem?_eq_getElem (by rw [h.sl]; exact hi')⟩
  obtain ⟨v, hv⟩ : ∃ v, vs[i]? = some v := ⟨_, List.getElem?_eq_getElem (by rw [h.vl]; exact hi')⟩
  obtain ⟨h1, h2, h3, h4⟩ := h.row i s v hs hv
  refine ⟨v, s, hs, by rw [List.getD_eq_getElem?_getD, hs]; rfl, hv, (own_cell h.st i v hv).1, ?_, h2, h4, h3⟩
  obtain ⟨a, cc, rfl, e1, e2⟩ := own_slice h1
  refine ⟨h3, a, cc, rfl, e1, e2, fun j hj => ?_⟩
  obtain ⟨b, c', eb, _⟩ := own_some h1 (by omega)
  cases eb
  refine ⟨b, 0, rfl, (own_type h1 (k := b) rfl).2.1, ?_⟩
  rw [Nat.zero_add]
  exact (own_cell h1 _ _ (nts_at (by rw [List.getD_eq_getElem?_getD, List.getElem?_eq_getElem hj]; rfl))).1
theorem Rs.met (h : Rs wB w F g bM bS vP vC vF vB vLo c f hi vL vs m) {i : Nat} (hi' : i < c.B.length) : w.cell? ⟨bM, i, none⟩ = some (.bool (m.met.getD i false)) :=
  (own_cell h.mt i _ (bls_at (by rw [List.getD_eq_getElem?_getD, List.getElem?_eq_getElem (show i < m.met.length by rw [h.ml]; exact hi')]; rfl))).1
/-- an instruction, read -/
theorem Bs.ins (B : Bs wB p vP vC vF vB vLo c f) (hb : Below wB.heap.size wB w) : ∃ aB cB, vB = .slice aB c.B.length cB ∧ ∀ i, i < c.B.length → ∃ b o, aB = some ⟨b, o, none⟩ ∧ b < wB.heap.size ∧ w.cell? ⟨b, o + i * 5, none⟩ = some (.int .i64 (c.B.getD i zI).op) ∧ w.cell? ⟨b, o + i * 5 + 1, none⟩ = some (.int .i64 (c.B.getD i zI).a) ∧ w.cell? ⟨b, o + i * 5 + 2, none⟩ = some (.int .i64 (c.B.getD i zI).b) ∧ w.cell? ⟨b, o + i * 5 + 3, none⟩ = some (.int .u64 (c.B.getD i zI).bits) ∧ w.cell? ⟨b, o + i * 5 + 4, none⟩ = some (.int .i64 (c.B.getD i zI).at_) := by
  obtain ⟨aB, cB, e, _, _, h⟩ := B.cv.B
  refine ⟨aB, cB, e, fun i hi' => ?_⟩
  obtain ⟨b, o, e2, hlt, h0, h1, h2, h3, h4⟩ := h i hi'
  exact ⟨b, o, e2, hlt, (hb.cell (p := ⟨b, _, none⟩) hlt).trans h0, (hb.cell (p := ⟨b, _, none⟩) hlt).trans h1, (hb.cell (p := ⟨b, _, none⟩) hlt).trans h2, (hb.cell (p := ⟨b, _, none⟩) hlt).trans h3, (hb.cell (p := ⟨b, _, none⟩) hlt).trans h4⟩
end
section
variable {wB w w' : World} {F F' : Nat → Prop} {g bM bS : Nat} {vP vC vF vB vLo vL : Value} {c : Cd} {f : Fn3} {hi : Int} {vs : List Value} {m : Rw16} {p : List Addr}
/-- an instruction is come to for the first time: met and stacks are turned -/
theorem Rs.come (h : Rs wB w F g bM bS vP vC vF vB vLo c f hi vL vs m) {n : Nat} (hn : n < c.B.length) (hm : m.met.getD n false = false) {t : List Int} (hf : Fits t) (ht : t.length ≤ 64) {w5 : World} {v' : Value} (o5 : w5.ownsRow w.heap.size 3 1 v' t.length (nts t)) (b5 : Below w.heap.size w w5) :
    Rs wB ((w5.setCell ⟨bM, n, none⟩ (.bool true)).setCell ⟨bS, n, none⟩ v') F g bM bS vP vC vF vB vLo c f hi vL (vs.set n v') ⟨m.met.set n true, m.st.set n t, m.left⟩ ∧ Ch F F w ((w5.setCell ⟨bM, n, none⟩ (.bool true)).setCell ⟨bS, n, none⟩ v') := by
  have h5 := h.keep b5
  have hs : ((w5.setCell ⟨bM, n, none⟩ (.bool true)).setCell ⟨bS, n, none⟩ v').heap.size = w5.heap.size := by rw [size_setCell, size_setCell]
  have hb : ∀ k, k ≠ bM → k ≠ bS → ((w5.setCell ⟨bM, n, none⟩ (.bool true)).setCell ⟨bS, n, none⟩ v').heap[k]? = w5.heap[k]? := fun k h1 h2 => (Below.heap_setCell _ _ _ _ h2).trans (Below.heap_setCell _ _ _ _ h1)
  have hc : Ch F F w ((w5.setCell ⟨bM, n, none⟩ (.bool true)).setCell ⟨bS, n, none⟩ v') := ⟨b5.os, b5.tape, b5.output, by rw [hs]; exact b5.size, fun k hk hF => (hb k (fun e => hF (e ▸ h.fM)) (fun e => hF (e ▸ h.fS))).trans (b5.block k hk), fun k hk => .inl hk⟩
  have hmn : m.met[n]? = some false := by
    have hl : n < m.met.length := by rw [h.ml]; exact hn
    rw [List.getD_eq_getElem?_getD, List.getElem?_eq_getElem hl] at hm
    rw [List.getElem?_eq_getElem hl]
    simpa using hm
  have fresh : ∀ k, v'.ownBlock = some k → ¬ F k := fun k hk hF => by
    have h1 := (own_type o5 hk).1
    have h2 := h.fb k hF
    omega
  refine ⟨{ at_ := (hb g h.gM h.gS).trans h5.at_, mt := ?_, st := ?_, lf := own_keep h5.lf fun k hk => hb k (fun e => h.ML (by rw [hk, e])) (fun e => h.SL (by rw [hk, e])), row := fun i s v hs' hv => ?_, ml := by simpa using h.ml, sl := by simpa using h.sl, lb := h.lb, ln := ?_, fg := h.fg, fM := h.fM, fS := h.fS, fL := h.fL, low := h.low, fb := fun k hk => by rw [hs]; exact h5.fb k hk, bel := h.bel.trans (hc.bel h.low h.bel.size) }, hc⟩
  · have h1 := own_set h5.mt n (.bool true)
    rw [bls_set] at h1
    exact own_keep h1 fun k hk => Below.heap_setCell _ _ _ _ (fun e => h.MS ((Option.some.inj hk).trans e))
  · have h1 : (w5.setCell ⟨bM, n, none⟩ (.bool true)).ownsRow 0 54 1 (.slice (some ⟨bS, 0, none⟩) c.B.length c.B.length) c.B.length vs := own_keep h5.st fun k hk => Below.heap_setCell _ _ _ _ (fun e => h.MS ((Option.some.inj hk).trans e).symm)
    exact own_set h1 n v'
  · by_cases e : i = n
    · subst e
      have e1 : s = t := by
        have : (m.st.set i t)[i]? = some t := List.getElem?_set_self (by rw [h.sl]; exact hn)
        have h9 : (m.st.set i t)[i]? = some s := hs'
        rw [this] at h9
        exact (Option.some.inj h9).symm
      have e2 : v = v' := by
        have : (vs.set i v')[i]? = some v' := List.getElem?_set_self (by rw [h.vl]; exact hn)
        rw [this] at hv
        exact (Option.some.inj hv).symm
      subst e1 e2
      refine ⟨own_keep (own_low o5 (Nat.zero_le _)) fun k hk => hb k (fun e => fresh k hk (e ▸ h.fM)) (fun e => fresh k hk (e ▸ h.fS)), fresh, hf, ht⟩
    · have h9 : (m.st.set n t)[i]? = some s := hs'
      rw [List.getElem?_set_ne (Ne.symm e)] at h9 hv
      obtain ⟨h1, h2, h3⟩ := h5.row i s v h9 hv
      exact ⟨own_keep h1 fun k hk => hb k (fun e => h2 k hk (e ▸ h.fM)) (fun e => h2 k hk (e ▸ h.fS)), h2, h3⟩
  · show m.left.length ≤ (m.met.set n true).count true
    rw [count_set _ _ hmn]
    have := h.ln
    omega
/-- and it is left to be gone on from -/
theorem Rs.push (h : Rs wB w F g bM bS vP vC vF vB vLo c f hi vL vs m) {n : Nat} (hn : n < c.B.length) (hl : m.left.length + 1 ≤ m.met.count true) {w9 : World} {v9 : Value} (o9 : w9.ownsRow 0 3 1 v9 (m.left.length + 1) (nns (m.left ++ [n]))) (g9 : w.grownBy w9 vL.ownBlock) (b9 : ∀ k, v9.ownBlock = some k → vL.ownBlock = some k ∨ w.heap.size ≤ k) :
    ∃ F', Rs wB (w9.setCell ⟨g, 13, none⟩ v9) F' g bM bS vP vC vF vB vLo c f hi v9 vs ⟨m.met, m.st, m.left ++ [n]⟩ ∧ Ch F F' w (w9.setCell ⟨g, 13, none⟩ v9) := by
  have hat := (g9.block g (lt_of_blk h.at_) (fun e => h.gL e.symm)).trans h.at_
  obtain ⟨k1, t1⟩ := set1 hat 13 v9
  have hb : ∀ k, k < w.heap.size → k ≠ g → vL.ownBlock ≠ some k → (w9.setCell ⟨g, 13, none⟩ v9).heap[k]? = w.heap[k]? := fun k h1 h2 h3 => (Below.heap_setCell _ _ _ _ h2).trans (g9.block k h1 (fun e => h3 e.symm))
  have hs : (w9.setCell ⟨g, 13, none⟩ v9).heap.size = w9.heap.size := size_setCell _ _ _
  have hc : Ch F (fun k => F k ∨ v9.ownBlock = some k) w (w9.setCell ⟨g, 13, none⟩ v9) := ⟨g9.os, g9.tape, g9.output, by rw [hs]; exact g9.size, fun k h1 h2 => hb k h1 (fun e => h2 (e ▸ h.fg)) (fun e => h2 (h.fL k e)), fun k hk => hk.elim .inl (fun e => (b9 k e).elim (fun e => .inl (h.fL k e)) .inr)⟩
  have h9g : v9.ownBlock ≠ some g := own_at o9 hat (by decide)
  refine ⟨fun k => F k ∨ v9.ownBlock = some k, { at_ := k1, mt := own_keep h.mt fun k hk => hb k (own_type h.mt hk).2.1 (fun e => h.gM (by have := Option.some.inj hk; rw [← e]; exact this.symm)) (fun e => h.ML (e.trans hk.symm)), st := own_keep h.st fun k hk => hb k (own_type h.st hk).2.1 (fun e => h.gS (by have := Option.some.inj hk; rw [← e]; exact this.symm)) (fun e => h.SL (e.trans hk.symm)), lf := ?_, row := fun i s v hs' hv => ?_, ml := h.ml, sl := h.sl, lb := fun i hi' => ?_, ln := by simpa using hl, fg := .inl h.fg, fM := .inl h.fM, fS := .inl h.fS, fL := fun k hk => .inr hk, low := fun k hk => ?_, fb := fun k hk => ?_, bel := h.bel.trans (hc.bel h.low h.bel.size) }, hc⟩
  · have h1 := own_keep (w' := w9.setCell ⟨g, 13, none⟩ v9) o9 fun k hk => Below.heap_setCell _ _ _ _ (fun e => h9g (by rw [hk, e]))
    simpa using h1
  · obtain ⟨h1, h2, h3⟩ := h.row i s v hs' hv
    refine ⟨own_keep h1 fun k hk => hb k (own_type h1 hk).2.1 (fun e => h2 k hk (e ▸ h.fg)) (fun e => h2 k hk (h.fL k e)), fun k hk e => ?_, h3⟩
    rcases e with e | e
    · exact h2 k hk e
    · rcases b9 k e with e | e
      · exact h2 k hk (h.fL k e)
      · have := (own_type h1 hk).2.1
        omega
  · rcases List.mem_append.1 hi' with h1 | h1
    · exact h.lb i h1
    · obtain rfl : i = n := by simpa using h1
      exact hn
  · rcases hk with hk | hk
    · exact h.low k hk
    · rcases b9 k hk with e | e
      · exact h.low k (h.fL k e)
      · have := h.bel.size
        omega
  · rw [hs]
    rcases hk with hk | hk
    · exact Nat.lt_of_lt_of_le (h.fb k hk) g9.size
    · exact (own_type o9 hk).2.1
end
/-- what a call of a reader leaves, or that it gives up -/
def RsP (p : List Addr) (wB w : World) (F : Nat → Prop) (g bM bS : Nat) (vP vC vF vB vLo : Value) (c : Cd) (f : Fn3) (hi : Int) (o : Option Rw16) (e : Ending) (w' : World) : Prop := match o with
  | some m' => e = .returned (.tuple #[]) ∧ ∃ F' vL' vs', Rs wB w' F' g bM bS vP vC vF vB vLo c f hi vL' vs' m' ∧ Ch F F' w w'
  | none => e = codeStop p ∧ Ch F F w w'
theorem RsP.both {p : List Addr} {wB w w' : World} {F : Nat → Prop} {g bM bS : Nat} {vP vC vF vB vLo : Value} {c : Cd} {f : Fn3} {hi : Int} {o : Option Rw16} {e : Ending} (h : RsP p wB w F g bM bS vP vC vF vB vLo c f hi o e w') : (∃ m' F' vL' vs', o = some m' ∧ e = .returned (.tuple #[]) ∧ Rs wB w' F' g bM bS vP vC vF vB vLo c f hi vL' vs' m' ∧ Ch F F' w w') ∨ (o = none ∧ e = codeStop p ∧ Ch F F w w') := by
  cases o with
  | some m' =>
    obtain ⟨h1, F', vL', vs', h2, h3⟩ := h
    exact .inl ⟨m', F', vL', vs', rfl, h1, h2, h3⟩
  | none => exact .inr ⟨rfl, h.1, h.2⟩
end Go.Proofs.YtlheflkdapckbaaDoor.Ck

/- Package proofread: come. -/
namespace Go.Proofs.YtlheflkdapckbaaDoor.Ck
open Go.RowKit

theorem eq_list : ∀ (a b : List Int), sameL eqN a b = decide (a = b)
  | [], [] => by simp [sameL]
  | [], y :: b => by simp [sameL]
  | x :: a, [] => by simp [sameL]
  | x :: a, y :: b => by
    simp only [sameL, eq_list a b, eqN, List.cons.injEq]
    by_cases h : x = y <;> by_cases h2 : a = b <;> simp [h, h2]
set_option maxRecDepth 20000 in
set_option maxHeartbeats 4000000 in
theorem come_any {wB w : World} {p : List Addr} {F : Nat → Prop} {g bM bS : Nat} {vP vC vF vB vLo vL : Value} {c : Cd} {f : Fn3} {hi : Int} {vs : List Value} {m : Rw16} (B : Bs wB p vP vC vF vB vLo c f) (h : Rs wB w F g bM bS vP vC vF vB vLo c f hi vL vs m) (hh : hi ≤ c.B.length) (q : Int) {va : Value} {t : List Int} (ha : Sl w va t) (hn : t.length ≤ 1000) :
    Calls Tryd.prog 34 #[.pointer (some ⟨g, 0, none⟩), .int .i64 q, va] w (RsP p wB w F g bM bS vP vC vF vB vLo c f hi (comeM f.st hi m q t)) := by
  obtain ⟨o, ho⟩ : ∃ o, comeM f.st hi m q t = o := ⟨_, rfl⟩
  have HO := hide ho
  rw [ho]
  have MN := hide (pmust_no (h.er B))
  have y7 : w.cell? ⟨g, 7, none⟩ = some (.int .i64 f.st) := blk_cell h.at_ 7 _ rfl
  have y10 : w.cell? ⟨g, 10, none⟩ = some (.int .i64 hi) := blk_cell h.at_ 10 _ rfl
  obtain ⟨aT, cT, rfl, _⟩ := ha.form
  have NOP : Hid (comeM f.st hi m q t = none → RsP p wB w F g bM bS vP vC vF vB vLo c f hi o (codeStop p) w) := hide (fun e => by
    rw [← HO.out, e]
    exact ⟨rfl, Ch.refl _ _⟩)
  by_cases h1 : f.st ≤ q
  rotate_left 1
  · have e := NOP.out (by unfold comeM; rw [if_neg (fun e => h1 e.1)])
    have NO := hide e
    clear h B ha hn ho NOP HO e
    go_enter Tryd.func34, Tryd.ntmps34
    go_wp2_with fail
    refine MN.out.mono ?_
    rintro e w1 ⟨rfl, rfl⟩
    exact ⟨rfl, NO.out⟩
  by_cases h2 : q < hi
  rotate_left 1
  · have e := NOP.out (by unfold comeM; rw [if_neg (fun e => h2 e.2)])
    have NO := hide e
    clear h B ha hn ho NOP HO e
    go_enter Tryd.func34, Tryd.ntmps34
    go_wp2_with fail
    refine MN.out.mono ?_
    rintro e w1 ⟨rfl, rfl⟩
    exact ⟨rfl, NO.out⟩
  obtain ⟨nt, hnt⟩ : ∃ n, n = t.length := ⟨_, rfl⟩
  have HNT := hide hnt
  by_cases h3 : t.length ≤ 64
  rotate_left 1
  · have e := NOP.out (by unfold comeM; rw [if_pos ⟨h1, h2⟩, if_neg h3])
    have NO := hide e
    rw [← hnt]
    have h3' : decide ((nt : Int) ≤ 64) = false := decide_eq_false (by omega)
    clear h B ha hn ho NOP HO e h3 hnt
    go_enter Tryd.func34, Tryd.ntmps34
    go_wp2_with fail
    refine (pmust_yes _).mono ?_
    rintro e w1 ⟨rfl, rfl⟩
    go_wp2_with fail
    refine MN.out.mono ?_
    rintro e w1 ⟨rfl, rfl⟩
    exact ⟨rfl, NO.out⟩
  have h0 := B.st
  obtain ⟨n, rfl⟩ : ∃ n : Nat, q = n := ⟨q.toNat, by omega⟩
  obtain ⟨N, hN⟩ : ∃ N, N = c.B.length := ⟨_, rfl⟩
  have hnN : n < c.B.length := by omega
  have hn0 : n < N := by omega
  have hn1 : (n : Int) < (N : Int) := by omega
  have h3' : (nt : Int) ≤ 64 := by omega
  have y11 : w.cell? ⟨g, 11, none⟩ = some (.slice (some ⟨bM, 0, none⟩) c.B.length c.B.length) := blk_cell h.at_ 11 _ rfl
  have y12 : w.cell? ⟨g, 12, none⟩ = some (.slice (some ⟨bS, 0, none⟩) c.B.length c.B.length) := blk_cell h.at_ 12 _ rfl
  rw [← hN] at y11 y12
  have yM := h.met hnN
  have EO : Hid (o = if m.met.getD n false = true then (if m.st.getD n [] = t then some m else none) else some ⟨m.met.set n true, m.st.set n t, m.left ++ [n]⟩) := hide (by rw [← HO.out]; unfold comeM; rw [if_pos ⟨h1, h2⟩, if_pos h3]; simp)
  have HH := hide h
  have HB := hide B
  have HA := hide ha
  have HX := hide (And.intro hnN (And.intro h3 hn))
  have HN := hide hN
  rw [← hnt]
  cases hm : m.met.getD n false with
  | true =>
    rw [hm] at yM
    obtain ⟨v, s, _, hs, _, yS, sl, _, hl, _⟩ := h.stk hnN
    obtain ⟨as_, cs_, rfl, _⟩ := sl.form
    have EQ := hide (eq_stk sl ha ⟨by omega, by omega⟩)
    rw [eq_list, ← hnt] at EQ
    have EO2 : Hid (o = if s = t then some m else none) := hide (by rw [EO.out, hm, if_pos rfl, hs])
    generalize s.length = ns at *
    clear h B ha hn ho NOP HO hnt hN hnN h3 h0 hm EO hs sl hl
    go_enter Tryd.func34, Tryd.ntmps34
    go_wp2_with fail
    refine (pmust_yes _).mono ?_
    rintro e w1 ⟨rfl, rfl⟩
    go_wp2_with fail
    refine (pmust_yes _).mono ?_
    rintro e w1 ⟨rfl, rfl⟩
    go_wp2_with fail
    refine EQ.out.mono ?_
    rintro e w1 ⟨rfl, k1, rfl⟩
    have BD := hide (drew_bel w k1)
    by_cases hst : s = t
    · rw [decide_eq_true hst]
      have YES : Hid (RsP p wB w F g bM bS vP vC vF vB vLo c f hi o (.returned (.tuple #[])) (w.drewN k1)) := hide (by
        rw [EO2.out, if_pos hst]
        exact ⟨rfl, F, vL, vs, HH.out.keep BD.out, Ch.of_bel BD.out⟩)
      clear hst EO2
      go_wp2_with fail
      refine (pmust_yes _).mono ?_
      rintro e w1 ⟨rfl, rfl⟩
      go_wp2_with fail
      go_end0
      exact YES.out
    · rw [decide_eq_false hst]
      have NO : Hid (RsP p wB w F g bM bS vP vC vF vB vLo c f hi o (codeStop p) (w.drewN k1)) := hide (by
        rw [EO2.out, if_neg hst]
        exact ⟨rfl, Ch.of_bel BD.out⟩)
      have MN2 := hide (pmust_no ((HH.out.keep BD.out).er HB.out))
      clear hst EO2
      go_wp2_with fail
      refine MN2.out.mono ?_
      rintro e w1 ⟨rfl, rfl⟩
      exact ⟨rfl, NO.out⟩
  | false =>
    rw [hm] at yM
    have HM := hide hm
    have LN : Hid (m.left.length ≤ m.met.count true ∧ m.met[n]? = some false) := hide ⟨h.ln, by
      have hl : n < m.met.length := by rw [h.ml]; exact hnN
      rw [List.getD_eq_getElem?_getD, List.getElem?_eq_getElem hl] at hm
      rw [List.getElem?_eq_getElem hl]
      simpa using hm⟩
    have LN3 : Hid (m.met.length ≤ 8192) := hide (by rw [h.ml]; exact B.n)
    have EO2 : Hid (o = some ⟨m.met.set n true, m.st.set n t, m.left ++ [n]⟩) := hide (by rw [EO.out, hm]; rfl)
    clear h B ha hn ho NOP HO hnt hN hnN h3 h0 hm EO
    go_enter Tryd.func34, Tryd.ntmps34
    go_wp2_with fail
    refine (pmust_yes _).mono ?_
    rintro e w1 ⟨rfl, rfl⟩
    go_wp2_with fail
    refine (pmust_yes _).mono ?_
    rintro e w1 ⟨rfl, rfl⟩
    go_wp2_with fail
    refine wp_region_T (S := fun wz => wz.cell? ⟨g, 11, none⟩ = some (.slice (some ⟨bM, 0, none⟩) N N) ∧ wz.cell? ⟨g, 12, none⟩ = some (.slice (some ⟨bS, 0, none⟩) N N)) (fun _ => true) mixed ⟨y11, y12⟩ (fun hH => ?_)
    have BD := hide (show Below w.heap.size w w.drew from bel_drawn (Below.refl _ _))
    have HD := hide (HH.out.keep BD.out)
    have AD := hide (HA.out.bel BD.out)
    have CD := hide (Ch.of_bel (F := F) BD.out)
    clear BD HH HA y7 y10 y11 y12 yM MN
    generalize w.drew = wd at *
    refine Tm 0 ?_
    simp only [Act.put, SA]
    refine Tm 1 ?_
    simp only [Act.put, SA]
    refine Tm 2 ?_
    simp only [Act.put, SA]
    refine Tl 3 (v := ?_) ?_ hH ?_
    rotate_left 1
    · (intro w hSw; have q := hSw.1; clear hSw; go_simp <;> with_reducible rfl)
    simp only [Act.put, SA]
    refine Tm 4 ?_
    simp only [Act.put, SA]
    refine Tm 5 ?_
    simp only [Act.put, SA]
    refine Tm 6 ?_
    simp only [Act.put, SA]
    refine Tm 7 ?_
    simp only [Act.put, SA]
    refine Tl 8 (v := ?_) ?_ hH ?_
    rotate_left 1
    · (intro w hSw; have q := hSw.2; clear hSw; go_simp <;> with_reducible rfl)
    simp only [Act.put, SA]
    refine Tm 9 ?_
    simp only [Act.put, SA]
    refine Tm 10 ?_
    simp only [Act.put, SA]
    have CL := hide (clone_stk AD.out (by have := HX.out.2.2; omega))
    rw [← HNT.out] at CL
    refine Tr 11 (fun K1 hK1 => ?_)
    go_simp
    refine CL.out.mono ?_
    rintro e w5 ⟨v', rfl, ⟨a5, c5, rfl⟩, o5, b5⟩
    have H5 := hide (HD.out.keep b5)
    have RC := hide (HD.out.come HX.out.1 HM.out (t := t) AD.out.fits HX.out.2.1 (by rw [← HNT.out]; exact o5) b5)
    have S5 : Hid (w5.cell? ⟨g, 11, none⟩ = some (.slice (some ⟨bM, 0, none⟩) N N) ∧ w5.cell? ⟨g, 12, none⟩ = some (.slice (some ⟨bS, 0, none⟩) N N)) := hide ⟨by rw [HN.out]; exact blk_cell H5.out.at_ 11 _ rfl, by rw [HN.out]; exact blk_cell H5.out.at_ 12 _ rfl⟩
    have zM := H5.out.met HX.out.1
    have zF := (own_cell H5.out.mt n _ (bls_at (by rw [List.getD_eq_getElem?_getD, List.getElem?_eq_getElem (show n < m.met.length by rw [H5.out.ml]; exact HX.out.1)]; rfl) : (bls m.met)[n]? = some (.bool (m.met.getD n false)))).2
    refine hK1.out _ _ (fun _ => S5.out) (fun _ => ?_)
    clear hK1 K1 CL o5 b5 hH
    refine Tm 12 ?_
    simp only [Act.put, SA]
    refine Tr 13 (fun K1 hK1 => ?_)
    go_simp
    have T6 := hide (show Tn bM w5 (w5.setCell ⟨bM, n, none⟩ (.bool true)) from ⟨rfl, rfl, rfl, Nat.le_of_eq (size_setCell _ _ _).symm, fun _ _ hk => Below.heap_setCell _ _ _ _ hk⟩)
    refine hK1.out _ _ (fun _ => ⟨T6.out.cell S5.out.1 H5.out.gM, T6.out.cell S5.out.2 H5.out.gM⟩) (fun _ => ?_)
    clear hK1 K1
    refine Tm 14 ?_
    simp only [Act.put, SA]
    obtain ⟨v0, s0, _, _, hv0, yS, _⟩ := H5.out.stk HX.out.1
    have fS := (own_cell H5.out.st n v0 hv0).2
    have zS := T6.out.cell yS H5.out.MS.symm
    have gS : (w5.setCell ⟨bM, n, none⟩ (.bool true)).frozen? ⟨bS, n, none⟩ = false := by
      have e := T6.out.blk bS (H5.out.fb bS H5.out.fS) H5.out.MS.symm
      unfold World.frozen? at fS ⊢
      rw [e]
      exact fS
    refine Tr 15 (fun K1 hK1 => ?_)
    go_simp
    have S7 := hide (show _ ∧ _ from ⟨blk_cell RC.out.1.at_ 11 _ rfl, blk_cell RC.out.1.at_ 12 _ rfl⟩)
    refine hK1.out _ _ (fun _ => by have := S7.out; rw [← HN.out] at this; exact this) (fun _ => ?_)
    clear hK1 K1 zM zF yS fS zS gS hv0 S5 S7 T6 H5 HD AD
    refine T_done (by kernel_rfl) ?_ _
    generalize (w5.setCell ⟨bM, n, none⟩ (.bool true)).setCell ⟨bS, n, none⟩ (.slice a5 nt c5) = w7 at *
    have R7 := hide RC.out.1
    have C7 := hide (CD.out.trans RC.out.2)
    clear RC CD
    obtain ⟨aL, cL, eL, _⟩ := own_slice R7.out.lf
    subst eL
    have y13 : w7.cell? ⟨g, 13, none⟩ = some (.slice aL m.left.length cL) := blk_cell R7.out.at_ 13 _ rfl
    have HL : Hid (m.left.length + 1 ≤ (m.met.set n true).count true ∧ m.left.length ≤ 8192) := hide (by
      have h1 := LN.out.1
      have h2 := LN.out.2
      rw [count_set _ _ h2]
      refine ⟨by omega, ?_⟩
      have h3 := List.count_le_length (a := true) (l := m.met)
      have h4 := LN3.out
      omega)
    have PU := hide (fun ty => push_any (TS := 22) Tryd.underlying22 (n := m.left.length) (l := m.left.map fun (n : Nat) => (n : Int)) (by simp) (by simp; have := HL.out.2; omega) (by rw [← nns_nts]; exact R7.out.lf) (Nat.zero_le _) (n : Int) ty)
    obtain ⟨k, hk⟩ : ∃ k, k = m.left.length := ⟨_, rfl⟩
    have HK := hide hk
    rw [← hk] at PU y13
    clear hk
    go_wp2_with (first | (at_builtin; refine wpList_appV (TS := 22) rfl (.tmp 61) (.tmp 63) rfl _ _ rfl rfl _ (PU.out _) ?_; rintro v9 w9 ⟨⟨a9, c9, rfl⟩, o9, g9, b9⟩; have hat := (g9.block g (lt_of_blk R7.out.at_) (fun e => R7.out.gL (by rw [← HK.out]; exact e.symm))).trans R7.out.at_; have x9 := blk_cell hat 13 _ rfl; have f9 := blk_frz hat 13; have R9 := hide (And.intro o9 (And.intro g9 b9)); clear o9 g9 b9 hat))
    go_end0
    obtain ⟨F', r9, c9'⟩ := R7.out.push (n := n) HX.out.1 HL.out.1 (w9 := w9) (v9 := .slice a9 (k + 1) c9) (by
      have h1 := R9.out.1
      rw [show nns (m.left ++ [n]) = nts ((m.left.map fun (n : Nat) => (n : Int)) ++ [(n : Int)]) by rw [nns_nts]; simp]
      show w9.ownsRow 0 3 1 _ (m.left.length + 1) _
      rw [← HK.out]
      exact h1) (by have h2 := R9.out.2.1; rw [HK.out] at h2; exact h2) (fun k' hk' => by have h2 := R9.out.2.2 k' hk'; rw [HK.out] at h2; exact h2)
    rw [EO2.out]
    exact ⟨rfl, F', _, _, r9, C7.out.trans c9'⟩
end Go.Proofs.YtlheflkdapckbaaDoor.Ck

/- Package proofread: jump; what a stack of types keeps to. -/
namespace Go.Proofs.YtlheflkdapckbaaDoor.Ck
open Go.RowKit

theorem Bs.in_B {wB : World} {p : List Addr} {vP vC vF vB vLo : Value} {c : Cd} {f : Fn3} (_ : Bs wB p vP vC vF vB vLo c f) {n : Nat} (hn : n < c.B.length) : c.B.getD n zI ∈ c.B := by
  rw [List.getD_eq_getElem?_getD, List.getElem?_eq_getElem hn]
  exact List.getElem_mem hn
set_option maxRecDepth 20000 in
set_option maxHeartbeats 4000000 in
theorem jump_any {wB w : World} {p : List Addr} {F : Nat → Prop} {g bM bS : Nat} {vP vC vF vB vLo vL : Value} {c : Cd} {f : Fn3} {hi : Int} {vs : List Value} {m : Rw16} (B : Bs wB p vP vC vF vB vLo c f) (h : Rs wB w F g bM bS vP vC vF vB vLo c f hi vL vs m) (hh : hi ≤ c.B.length) (n k : Nat) (hn : n < c.B.length) (hk : k < c.B.length) (hto : (c.B.getD n zI).a = k) {va : Value} {t : List Int} (ha : Sl w va t) (ht : t.length ≤ 1000) :
    Calls Tryd.prog 45 #[.pointer (some ⟨g, 0, none⟩), .int .i64 (n : Nat), va] w (RsP p wB w F g bM bS vP vC vF vB vLo c f hi (jumpM c f.st hi m n t)) := by
  have MN := hide (pmust_no (h.er B))
  have CO := hide (come_any B h hh (k : Int) ha ht)
  have HN := hide (And.intro hn hk)
  obtain ⟨aB, cB, eB, hI⟩ := B.ins h.bel
  subst eB
  have y6 : w.cell? ⟨g, 6, none⟩ = some (.slice aB c.B.length cB) := blk_cell h.at_ 6 _ rfl
  obtain ⟨b1, o1, e1, _, _, z1, _⟩ := hI n hn
  obtain ⟨b2, o2, e2, _, z2, _⟩ := hI k hk
  rw [e1] at e2
  cases e2
  subst e1
  rw [hto] at z1
  have EJ : Hid (jumpM c f.st hi m n t = if (k : Int) > n ∨ (c.B.getD k zI).op = 24 then comeM f.st hi m (k : Int) t else none) := hide (by unfold jumpM; rw [hto]; simp)
  obtain ⟨N, hN⟩ : ∃ N, N = c.B.length := ⟨_, rfl⟩
  rw [← hN] at y6
  have hn0 : n < N := by omega
  have hn1 : (n : Int) < (N : Int) := by omega
  have hk0 : k < N := by omega
  have hk1 : (k : Int) < (N : Int) := by omega
  obtain ⟨aT, cT, rfl, _⟩ := ha.form
  have NO := hide (fun (e : jumpM c f.st hi m n t = none) => (show RsP p wB w F g bM bS vP vC vF (.slice (some ⟨b1, o1, none⟩) c.B.length cB) vLo c f hi (jumpM c f.st hi m n t) (codeStop p) w by rw [e]; exact ⟨rfl, Ch.refl _ _⟩))
  generalize (c.B.getD k zI).op = ok at *
  by_cases h1 : n < k
  · have h1' : (n : Int) < (k : Int) := by omega
    have EJ2 : Hid (jumpM c f.st hi m n t = comeM f.st hi m (k : Int) t) := hide (by rw [EJ.out, if_pos (.inl (by omega))])
    rw [EJ2.out]
    clear h B hI ha ht hn hk hto hN EJ NO h1
    go_enter Tryd.func45, Tryd.ntmps45
    go_wp2_with fail
    refine (pmust_yes _).mono ?_
    rintro e w1 ⟨rfl, rfl⟩
    go_wp2_with fail
    refine CO.out.mono ?_
    intro e w2 hp
    rcases hp.both with ⟨m', F', vL', vs', ho, rfl, r2, c2⟩ | ⟨ho, rfl, c2⟩
    · have Z := hide hp
      clear hp r2 c2 ho
      go_wp2_with fail
      go_end0
      exact Z.out
    · exact ⟨rfl, hp⟩
  · have h1' : ¬ (n : Int) < (k : Int) := by omega
    by_cases h2 : ok = 24
    · subst h2
      have EJ2 : Hid (jumpM c f.st hi m n t = comeM f.st hi m (k : Int) t) := hide (by rw [EJ.out, if_pos (.inr rfl)])
      rw [EJ2.out]
      clear h B hI ha ht hn hk hto hN EJ NO h1
      go_enter Tryd.func45, Tryd.ntmps45
      go_wp2_with fail
      refine (pmust_yes _).mono ?_
      rintro e w1 ⟨rfl, rfl⟩
      go_wp2_with fail
      refine CO.out.mono ?_
      intro e w2 hp
      rcases hp.both with ⟨m', F', vL', vs', ho, rfl, r2, c2⟩ | ⟨ho, rfl, c2⟩
      · have Z := hide hp
        clear hp r2 c2 ho
        go_wp2_with fail
        go_end0
        exact Z.out
      · exact ⟨rfl, hp⟩
    · have h2' : (ok == 24) = false := by simp [h2]
      have NO2 := hide (NO.out (by rw [EJ.out, if_neg (fun e => e.elim (by omega) h2)]))
      clear h B hI ha ht hn hk hto hN EJ NO h1 h2 CO
      go_enter Tryd.func45, Tryd.ntmps45
      go_wp2_with fail
      refine MN.out.mono ?_
      rintro e w1 ⟨rfl, rfl⟩
      exact ⟨rfl, NO2.out⟩
theorem fits_app {l m : List Int} (h1 : Fits l) (h2 : Fits m) : Fits (l ++ m) := fun z hz => (List.mem_append.1 hz).elim (h1 z) (h2 z)
theorem takeM_fits {ts s s' : List Int} (h : takeM ts s = some s') (hf : Fits s) : Fits s' := by
  unfold takeM at h
  split at h
  · cases h
    exact fun z hz => hf z (List.mem_of_mem_take hz)
  · cases h
theorem popM_of {s : List Int} {r : Int × List Int} (h : popM s = some r) : s = r.2 ++ [r.1] := by
  rcases snoc_or s with rfl | ⟨s', t, rfl⟩
  · cases h
  · rw [popM_snoc] at h
    cases h
    rfl
theorem unM_rng {a t r : Int} (h : unM a t = some r) : r = t ∨ (1 ≤ r ∧ r ≤ 3) := by
  unfold unM at h
  split at h
  · cases h; exact .inl rfl
  split at h
  · cases h; exact .inr (by omega)
  split at h
  · cases h; exact .inr (by omega)
  split at h
  · cases h; exact .inr (by omega)
  · cases h
theorem binM_rng {a t u r : Int} (h : binM a t u = some r) : r = t ∨ (1 ≤ r ∧ r ≤ 3) := by
  unfold binM at h
  repeat' split at h
  all_goals first | (cases h; exact .inl rfl) | (cases h; exact .inr (by omega)) | cases h
theorem rng_fits {r t : Int} {s : List Int} (h : r = t ∨ (1 ≤ r ∧ r ≤ 3)) (hs : Fits (s ++ [t])) : Fits [r] := by
  rcases h with rfl | h
  · exact fun z hz => hs z (List.mem_append_right _ hz)
  · exact fits_k (by omega) h.2
theorem pre_fits {s t : List Int} (h : Fits (s ++ t)) : Fits s := fun z hz => h z (List.mem_append_left _ hz)
theorem unS_fits {a : Int} {s s' : List Int} (h : unS a s = some s') (hf : Fits s) : Fits s' ∧ s'.length ≤ s.length + 1 := by
  unfold unS at h
  obtain ⟨r, hr, h⟩ := Option.bind_eq_some_iff.1 h
  have e := popM_of hr
  obtain ⟨q, hq, rfl⟩ := Option.map_eq_some_iff.1 h
  rw [e] at hf ⊢
  exact ⟨fits_app (pre_fits hf) (rng_fits (unM_rng hq) hf), by simp⟩
theorem binS_fits {a : Int} {s s' : List Int} (h : binS a s = some s') (hf : Fits s) : Fits s' ∧ s'.length ≤ s.length + 1 := by
  unfold binS at h
  obtain ⟨r, hr, h⟩ := Option.bind_eq_some_iff.1 h
  obtain ⟨r2, hr2, h⟩ := Option.bind_eq_some_iff.1 h
  have e := popM_of hr
  have e2 := popM_of hr2
  obtain ⟨q, hq, rfl⟩ := Option.map_eq_some_iff.1 h
  rw [e, e2] at hf ⊢
  exact ⟨fits_app (pre_fits (pre_fits hf)) (rng_fits (binM_rng hq) (pre_fits hf)), by simp⟩
theorem fits_getD {l : List Int} (h : Fits l) (i : Nat) : Fits [l.getD i 0] := by
  by_cases hi : i < l.length
  · exact fits1 h hi
  · rw [List.getD_eq_getElem?_getD, List.getElem?_eq_none (by omega)]
    exact fits_k (by simp) (by simp)
theorem chanT_fits {c : Cd} (h : Cl c) (a : Int) : Fits [chanT c a] := by
  unfold chanT
  by_cases hi : a.toNat < c.C.length
  · exact fits_1 (h.K _ (by rw [List.getD_eq_getElem?_getD, List.getElem?_eq_getElem hi]; exact List.getElem_mem hi))
  · rw [List.getD_eq_getElem?_getD, List.getElem?_eq_none (by omega)]
    exact fits_k (by simp [z2]) (by simp [z2])
theorem app1 (s : List Int) (t : Int) : (s ++ [t]).length ≤ s.length + 1 := by simp
theorem change_fits {c : Cd} {lo : List Int} {x : In5} {s s' : List Int} (h : changeM c lo x s = some s') (hc : Cl c) (hP : Fits c.P) (hl : Fits lo) (hf : Fits s) : Fits s' ∧ s'.length ≤ s.length + 1 := by
  have hk : ∀ k : Int, 0 ≤ k → k ≤ 3 → Fits (s ++ [k]) := fun k h0 h1 => fits_app hf (fits_k h0 h1)
  have tk : ∀ ts, takeM ts s = some s' → Fits s' ∧ s'.length ≤ s.length + 1 := fun ts h => ⟨takeM_fits h hf, Nat.le_succ_of_le (takeM_len h)⟩
  unfold changeM at h
  by_cases q0 : x.op = 1 ∨ x.op = 19
  · rw [if_pos q0] at h
    cases h; exact ⟨hk 1 (by decide) (by decide), app1 _ _⟩
  rw [if_neg q0] at h
  by_cases q1 : x.op = 2
  · rw [if_pos q1] at h
    cases h; exact ⟨hk 2 (by decide) (by decide), app1 _ _⟩
  rw [if_neg q1] at h
  by_cases q2 : x.op = 3
  · rw [if_pos q2] at h
    cases h; exact ⟨hk 3 (by decide) (by decide), app1 _ _⟩
  rw [if_neg q2] at h
  by_cases q3 : x.op = 4
  · rw [if_pos q3] at h
    by_cases hx : x.a < lo.length
    · rw [if_pos hx] at h; cases h; exact ⟨fits_app hf (fits_getD hl _), app1 _ _⟩
    · rw [if_neg hx] at h; cases h
  rw [if_neg q3] at h
  by_cases q4 : x.op = 5
  · rw [if_pos q4] at h
    by_cases hx : x.a < lo.length
    · rw [if_pos hx] at h; exact tk _ h
    · rw [if_neg hx] at h; cases h
  rw [if_neg q4] at h
  by_cases q5 : x.op = 6
  · rw [if_pos q5] at h
    cases h; exact ⟨fits_app hf (fits_getD hP _), app1 _ _⟩
  rw [if_neg q5] at h
  by_cases q6 : x.op = 7
  · rw [if_pos q6] at h
    exact tk _ h
  rw [if_neg q6] at h
  by_cases q7 : x.op = 8
  · rw [if_pos q7] at h
    obtain ⟨s1, hs1, rfl⟩ := Option.map_eq_some_iff.1 h
    exact ⟨fits_app (takeM_fits hs1 hf) (fits_getD hP _), by have := takeM_len hs1; simp; omega⟩
  rw [if_neg q7] at h
  by_cases q8 : x.op = 9
  · rw [if_pos q8] at h
    exact tk _ h
  rw [if_neg q8] at h
  by_cases q9 : x.op = 10
  · rw [if_pos q9] at h
    exact unS_fits h hf
  rw [if_neg q9] at h
  by_cases q10 : x.op = 11
  · rw [if_pos q10] at h
    exact binS_fits h hf
  rw [if_neg q10] at h
  by_cases q11 : x.op = 17
  · rw [if_pos q11] at h
    exact tk _ h
  rw [if_neg q11] at h
  by_cases q12 : x.op = 18
  · rw [if_pos q12] at h
    cases h; exact ⟨fits_app hf (chanT_fits hc _), app1 _ _⟩
  rw [if_neg q12] at h
  by_cases q13 : x.op = 20 ∨ x.op = 21
  · rw [if_pos q13] at h
    exact tk _ h
  rw [if_neg q13] at h
  by_cases q14 : x.op = 22 ∨ x.op = 23
  · rw [if_pos q14] at h
    exact tk _ h
  rw [if_neg q14] at h
  cases h; exact ⟨hf, Nat.le_succ _⟩
theorem Sk.sl {w : World} {b B : Nat} {v : Value} {s : List Int} (h : Sk w b B v s) (hf : Fits s) : Sl w v s := by
  obtain ⟨a, c, rfl, h1, h2⟩ := own_slice h.row
  refine ⟨hf, a, c, rfl, h1, h2, fun i hi => ?_⟩
  obtain ⟨b', c', eb, _⟩ := own_some h.row (by omega)
  cases eb
  refine ⟨b', 0, rfl, (own_type h.row (k := b') rfl).2.1, ?_⟩
  rw [Nat.zero_add]
  exact (own_cell h.row _ _ (nts_at (by rw [List.getD_eq_getElem?_getD, List.getElem?_eq_getElem hi]; rfl))).1
/-- a stack's variable alone has turned -/
theorem Rs.tn {wB w w' : World} {F : Nat → Prop} {g bM bS : Nat} {vP vC vF vB vLo vL : Value} {c : Cd} {f : Fn3} {hi : Int} {vs : List Value} {m : Rw16} {b : Nat} {v : Value} (h : Rs wB w F g bM bS vP vC vF vB vLo c f hi vL vs m) (t : Tn b w w') (hb : ¬ F b) (hat : w.heap[b]? = some (.cells #[v] 54 (0, 0))) (hB : wB.heap.size ≤ b) : Rs wB w' F g bM bS vP vC vF vB vLo c f hi vL vs m :=
  { h with
    at_ := (t.blk g (h.fb g h.fg) (fun e => hb (e ▸ h.fg))).trans h.at_
    mt := own_keep h.mt fun k hk => t.blk k (own_type h.mt hk).2.1 (fun e => hb (by have := Option.some.inj hk; rw [← e, ← this]; exact h.fM))
    st := own_keep h.st fun k hk => t.blk k (own_type h.st hk).2.1 (fun e => hb (by have := Option.some.inj hk; rw [← e, ← this]; exact h.fS))
    lf := own_keep h.lf fun k hk => t.blk k (own_type h.lf hk).2.1 (fun e => hb (e ▸ h.fL k hk))
    row := fun i s v' hs hv => by
      obtain ⟨h1, h2⟩ := h.row i s v' hs hv
      exact ⟨own_keep h1 fun k hk => t.blk k (own_type h1 hk).2.1 (fun e => own_at h1 hat (by decide) (by rw [hk, e])), h2⟩
    fb := fun k hk => Nat.lt_of_lt_of_le (h.fb k hk) t.size
    bel := h.bel.trans (t.bel hB h.bel.size) }
end Go.Proofs.YtlheflkdapckbaaDoor.Ck

/- Package proofread: what step's parts share. (Written by mk_s.py.) -/
namespace Go.Proofs.YtlheflkdapckbaaDoor.Ck
open Go.RowKit

theorem RsP.from {p : List Addr} {wB w w1 w' : World} {F F1 : Nat → Prop} {g bM bS : Nat} {vP vC vF vB vLo : Value} {c : Cd} {f : Fn3} {hi : Int} {o : Option Rw16} {e : Ending} (h : RsP p wB w1 F1 g bM bS vP vC vF vB vLo c f hi o e w') (c1 : Ch F F1 w w1) : RsP p wB w F g bM bS vP vC vF vB vLo c f hi o e w' := by
  cases o with
  | some m' =>
    obtain ⟨h1, F', vL', vs', h2, h3⟩ := h
    exact ⟨h1, F', vL', vs', h2, c1.trans h3⟩
  | none =>
    obtain ⟨h1, h2⟩ := h
    have h3 := c1.trans h2
    exact ⟨h1, ⟨h3.os, h3.tape, h3.output, h3.size, h3.blk, fun k hk => .inl hk⟩⟩
theorem RsP.no {p : List Addr} {wB w w' : World} {F F1 : Nat → Prop} {g bM bS : Nat} {vP vC vF vB vLo : Value} {c : Cd} {f : Fn3} {hi : Int} {o : Option Rw16} (ho : o = none) (c1 : Ch F F1 w w') : RsP p wB w F g bM bS vP vC vF vB vLo c f hi o (codeStop p) w' := by
  subst ho
  exact ⟨rfl, ⟨c1.os, c1.tape, c1.output, c1.size, c1.blk, fun k hk => .inl hk⟩⟩
theorem RsP.yes {p : List Addr} {wB w w' : World} {F F1 : Nat → Prop} {g bM bS : Nat} {vP vC vF vB vLo vL' : Value} {vs' : List Value} {c : Cd} {f : Fn3} {hi : Int} {o : Option Rw16} {m' : Rw16} (ho : o = some m') (h : Rs wB w' F1 g bM bS vP vC vF vB vLo c f hi vL' vs' m') (c1 : Ch F F1 w w') : RsP p wB w F g bM bS vP vC vF vB vLo c f hi o (.returned (.tuple #[])) w' := by
  subst ho
  exact ⟨rfl, F1, _, _, h, c1⟩
end Go.Proofs.YtlheflkdapckbaaDoor.Ck

/- Package proofread: step. (Written by mk_s.py.) -/
namespace Go.Proofs.YtlheflkdapckbaaDoor.Ck
open Go.RowKit

set_option maxRecDepth 20000 in
set_option maxHeartbeats 4000000 in
theorem step_12 {wB w : World} {p : List Addr} {F : Nat → Prop} {g bM bS : Nat} {vP vC vF vB vLo vL : Value} {c : Cd} {f : Fn3} {hi : Int} {vs : List Value} {m : Rw16} (B : Bs wB p vP vC vF vB vLo c f) (h : Rs wB w F g bM bS vP vC vF vB vLo c f hi vL vs m) (hh : hi ≤ c.B.length) (n : Nat) (hn : n < c.B.length) (hi2 : insB c (c.B.getD n zI) = true) (hop : (c.B.getD n zI).op = 12) : Calls Tryd.prog 35 #[.pointer (some ⟨g, 0, none⟩), .int .i64 (n : Nat)] w (RsP p wB w F g bM bS vP vC vF vB vLo c f hi (stepM c f hi m n)) := by
  obtain ⟨o, ho⟩ : ∃ o, stepM c f hi m n = o := ⟨_, rfl⟩
  rw [ho]
  obtain ⟨v, s, _, hs, _, yS, sl, _, hl, hf⟩ := h.stk hn
  obtain ⟨x, hx⟩ : ∃ x, x = c.B.getD n zI := ⟨_, rfl⟩
  rw [← hx] at hop hi2
  have EM : Hid (o = jumpM c f.st hi m n s) := hide (by rw [← ho]; unfold stepM; simp only; rw [← hx, ← hs]; simp [hop])
  have CL := hide (clone_stk sl (by omega))
  obtain ⟨a0, c0, rfl, _⟩ := sl.form
  obtain ⟨aB, cB, eB, _⟩ := B.ins h.bel
  subst eB
  obtain ⟨N, hN⟩ : ∃ N, N = c.B.length := ⟨_, rfl⟩
  have y12 : w.cell? ⟨g, 12, none⟩ = some (.slice (some ⟨bS, 0, none⟩) N N) := by rw [hN]; exact blk_cell h.at_ 12 _ rfl
  have hn0 : n < N := by omega
  have hn1 : (n : Int) < (N : Int) := by omega
  obtain ⟨ns, hns⟩ : ∃ q, q = s.length := ⟨_, rfl⟩
  rw [← hns] at CL yS
  have HH := hide h
  have HB := hide B
  have HHH := hide hh
  have HX := hide (And.intro hn (And.intro hN (And.intro hns (And.intro hl hx))))
  have HF := hide hf
  have HI := hide hi2
  have hop2 := hop
  clear h B hh hn hi2 hs sl hl hf ho hN hns hx
  go_enter Tryd.func35, Tryd.ntmps35
  go_wp2_with fail
  refine CL.out.mono ?_
  rintro e w5 ⟨v', rfl, ⟨a5, c5, rfl⟩, o5, b5⟩
  have BN := bel_new w5 (.cells #[.slice a5 ns c5] 54)
  have B6 := bel_trans b5 BN
  have H6 := HH.out.keep B6
  have K6 : Sk (w5.alloc (.cells #[.slice a5 ns c5] 54)) w5.heap.size w.heap.size (.slice a5 ns c5) s := ⟨Go.Deep.blk_alloc_new _ _, own_keep (by rw [← HX.out.2.2.1]; exact o5) (fun k hk => BN.block k (own_type o5 hk).2.1), b5.size, by have := HX.out.2.2.2.1; omega⟩
  obtain ⟨aB2, cB2, eB2, hI⟩ := HB.out.ins H6.bel
  cases eB2
  obtain ⟨b1, o1, e1, _, z0, z1, z2, z3, z4⟩ := hI n HX.out.1
  subst e1
  rw [← HX.out.2.2.2.2] at z0 z1 z2 z3 z4
  rw [hop] at z0
  have y6 : (w5.alloc (.cells #[.slice a5 ns c5] 54)).cell? ⟨g, 6, none⟩ = some (.slice (some ⟨b1, o1, none⟩) N cB) := by rw [HX.out.2.1]; exact blk_cell H6.at_ 6 _ rfl
  have BN7 := bel_new (w5.alloc (.cells #[.slice a5 ns c5] 54)) (.cells #[.int .i64 12, .int .i64 x.a, .int .i64 x.b, .int .u64 x.bits, .int .i64 x.at_] 44)
  have B7 := hide (bel_trans B6 BN7)
  have H7 := hide (H6.keep BN7)
  have K7 := hide (K6.bel BN7)
  have hz7 : ((w5.alloc (.cells #[.slice a5 ns c5] 54)).alloc (.cells #[.int .i64 12, .int .i64 x.a, .int .i64 x.b, .int .u64 x.bits, .int .i64 x.at_] 44)).heap.size = w5.heap.size + 1 + 1 := by simp
  have SZ7 := hide hz7
  clear hz7
  have V7 := hide (Go.Deep.blk_alloc_new (w5.alloc (.cells #[.slice a5 ns c5] 54)) (.cells #[.int .i64 12, .int .i64 x.a, .int .i64 x.b, .int .u64 x.bits, .int .i64 x.at_] 44))
  have hs6 : (w5.alloc (.cells #[.slice a5 ns c5] 54)).heap.size = w5.heap.size + 1 := by simp
  rw [hs6] at V7
  have NF := hide (show ¬ F w5.heap.size from fun e => by have h1 := HH.out.fb _ e; have h2 := b5.size; omega)
  have LW := hide (show wB.heap.size ≤ w.heap.size from HH.out.size)
  have CF := hide (Ch.of_bel (F := F) B7.out)
  have NR : Hid (∀ k, w.heap.size ≤ k → ¬ F k) := hide (fun k hk e => absurd (HH.out.fb k e) (by omega))
  clear b5 o5 BN BN7 B6 H6 K6 hI hs6 CL yS y12
  go_wp2_with fail
  generalize (w5.alloc (.cells #[.slice a5 ns c5] 54)).alloc (.cells #[.int .i64 12, .int .i64 x.a, .int .i64 x.b, .int .u64 x.bits, .int .i64 x.at_] 44) = w7 at *
  generalize w5.heap.size = b at *
  clear z0 z1 z2 z3 z4 y6
  obtain ⟨kt, hkt, hkl⟩ := in_of ((insB_at (by rw [← hop2]; exact HI.out)).2.2.2.2.2.1 rfl : inN x.a c.B.length = true)
  have xb := blk_cell K7.out.at_ 0 _ rfl
  have JU := hide (jump_any HB.out H7.out HHH.out n kt HX.out.1 hkl (by rw [← HX.out.2.2.2.2]; exact hkt) (K7.out.sl HF.out) (by have := K7.out.n; omega))
  clear hkt hkl
  go_wp2_with fail
  refine JU.out.mono ?_
  intro e w8 hp
  have hq := hp.from CF.out
  rw [← EM.out] at hq
  rcases hq.both with ⟨m', F', vL', vs', ho, rfl, r2, c2⟩ | ⟨ho, rfl, c2⟩
  · have Z := hide hq
    clear hp hq r2 c2 ho
    go_wp2_with fail
    go_end0
    exact Z.out
  · exact ⟨rfl, hq⟩
end Go.Proofs.YtlheflkdapckbaaDoor.Ck

/- Package proofread: step. (Written by mk_s.py.) -/
namespace Go.Proofs.YtlheflkdapckbaaDoor.Ck
open Go.RowKit

set_option maxRecDepth 20000 in
set_option maxHeartbeats 4000000 in
theorem step_25 {wB w : World} {p : List Addr} {F : Nat → Prop} {g bM bS : Nat} {vP vC vF vB vLo vL : Value} {c : Cd} {f : Fn3} {hi : Int} {vs : List Value} {m : Rw16} (B : Bs wB p vP vC vF vB vLo c f) (h : Rs wB w F g bM bS vP vC vF vB vLo c f hi vL vs m) (hh : hi ≤ c.B.length) (n : Nat) (hn : n < c.B.length) (hi2 : insB c (c.B.getD n zI) = true) (hop : (c.B.getD n zI).op = 25) : Calls Tryd.prog 35 #[.pointer (some ⟨g, 0, none⟩), .int .i64 (n : Nat)] w (RsP p wB w F g bM bS vP vC vF vB vLo c f hi (stepM c f hi m n)) := by
  obtain ⟨o, ho⟩ : ∃ o, stepM c f hi m n = o := ⟨_, rfl⟩
  rw [ho]
  obtain ⟨v, s, _, hs, _, yS, sl, _, hl, hf⟩ := h.stk hn
  obtain ⟨x, hx⟩ : ∃ x, x = c.B.getD n zI := ⟨_, rfl⟩
  rw [← hx] at hop hi2
  have EM : Hid (o = if s = [] then some m else none) := hide (by rw [← ho]; unfold stepM; simp only; rw [← hx, ← hs]; simp [hop])
  have CL := hide (clone_stk sl (by omega))
  obtain ⟨a0, c0, rfl, _⟩ := sl.form
  obtain ⟨aB, cB, eB, _⟩ := B.ins h.bel
  subst eB
  obtain ⟨N, hN⟩ : ∃ N, N = c.B.length := ⟨_, rfl⟩
  have y12 : w.cell? ⟨g, 12, none⟩ = some (.slice (some ⟨bS, 0, none⟩) N N) := by rw [hN]; exact blk_cell h.at_ 12 _ rfl
  have hn0 : n < N := by omega
  have hn1 : (n : Int) < (N : Int) := by omega
  obtain ⟨ns, hns⟩ : ∃ q, q = s.length := ⟨_, rfl⟩
  rw [← hns] at CL yS
  have HH := hide h
  have HB := hide B
  have HHH := hide hh
  have HX := hide (And.intro hn (And.intro hN (And.intro hns (And.intro hl hx))))
  have HF := hide hf
  have HI := hide hi2
  have hop2 := hop
  clear h B hh hn hi2 hs sl hl hf ho hN hns hx
  go_enter Tryd.func35, Tryd.ntmps35
  go_wp2_with fail
  refine CL.out.mono ?_
  rintro e w5 ⟨v', rfl, ⟨a5, c5, rfl⟩, o5, b5⟩
  have BN := bel_new w5 (.cells #[.slice a5 ns c5] 54)
  have B6 := bel_trans b5 BN
  have H6 := HH.out.keep B6
  have K6 : Sk (w5.alloc (.cells #[.slice a5 ns c5] 54)) w5.heap.size w.heap.size (.slice a5 ns c5) s := ⟨Go.Deep.blk_alloc_new _ _, own_keep (by rw [← HX.out.2.2.1]; exact o5) (fun k hk => BN.block k (own_type o5 hk).2.1), b5.size, by have := HX.out.2.2.2.1; omega⟩
  obtain ⟨aB2, cB2, eB2, hI⟩ := HB.out.ins H6.bel
  cases eB2
  obtain ⟨b1, o1, e1, _, z0, z1, z2, z3, z4⟩ := hI n HX.out.1
  subst e1
  rw [← HX.out.2.2.2.2] at z0 z1 z2 z3 z4
  rw [hop] at z0
  have y6 : (w5.alloc (.cells #[.slice a5 ns c5] 54)).cell? ⟨g, 6, none⟩ = some (.slice (some ⟨b1, o1, none⟩) N cB) := by rw [HX.out.2.1]; exact blk_cell H6.at_ 6 _ rfl
  have BN7 := bel_new (w5.alloc (.cells #[.slice a5 ns c5] 54)) (.cells #[.int .i64 25, .int .i64 x.a, .int .i64 x.b, .int .u64 x.bits, .int .i64 x.at_] 44)
  have B7 := hide (bel_trans B6 BN7)
  have H7 := hide (H6.keep BN7)
  have K7 := hide (K6.bel BN7)
  have hz7 : ((w5.alloc (.cells #[.slice a5 ns c5] 54)).alloc (.cells #[.int .i64 25, .int .i64 x.a, .int .i64 x.b, .int .u64 x.bits, .int .i64 x.at_] 44)).heap.size = w5.heap.size + 1 + 1 := by simp
  have SZ7 := hide hz7
  clear hz7
  have V7 := hide (Go.Deep.blk_alloc_new (w5.alloc (.cells #[.slice a5 ns c5] 54)) (.cells #[.int .i64 25, .int .i64 x.a, .int .i64 x.b, .int .u64 x.bits, .int .i64 x.at_] 44))
  have hs6 : (w5.alloc (.cells #[.slice a5 ns c5] 54)).heap.size = w5.heap.size + 1 := by simp
  rw [hs6] at V7
  have NF := hide (show ¬ F w5.heap.size from fun e => by have h1 := HH.out.fb _ e; have h2 := b5.size; omega)
  have LW := hide (show wB.heap.size ≤ w.heap.size from HH.out.size)
  have CF := hide (Ch.of_bel (F := F) B7.out)
  have NR : Hid (∀ k, w.heap.size ≤ k → ¬ F k) := hide (fun k hk e => absurd (HH.out.fb k e) (by omega))
  clear b5 o5 BN BN7 B6 H6 K6 hI hs6 CL yS y12
  go_wp2_with fail
  generalize (w5.alloc (.cells #[.slice a5 ns c5] 54)).alloc (.cells #[.int .i64 25, .int .i64 x.a, .int .i64 x.b, .int .u64 x.bits, .int .i64 x.at_] 44) = w7 at *
  generalize w5.heap.size = b at *
  clear z0 z1 z2 z3 z4 y6
  have xb := blk_cell K7.out.at_ 0 _ rfl
  have MN := hide (pmust_no (H7.out.er HB.out))
  by_cases h0 : ns = 0
  · subst h0
    have ES : Hid (o = some m) := hide (by rw [EM.out, if_pos (List.length_eq_zero_iff.1 HX.out.2.2.1.symm)])
    go_wp2_with fail
    refine (pmust_yes _).mono ?_
    rintro e w8 ⟨rfl, rfl⟩
    go_wp2_with fail
    go_end0
    exact RsP.yes ES.out H7.out CF.out
  · have ES : Hid (o = none) := hide (by rw [EM.out, if_neg (fun e => h0 (by rw [HX.out.2.2.1, e]; rfl))])
    have hd : ((ns : Int) == 0) = false := by simp; omega
    rw [hd]
    refine MN.out.mono ?_
    rintro e w8 ⟨rfl, rfl⟩
    exact ⟨rfl, RsP.no ES.out CF.out⟩
end Go.Proofs.YtlheflkdapckbaaDoor.Ck

/- Package proofread: step. (Written by mk_s.py.) -/
namespace Go.Proofs.YtlheflkdapckbaaDoor.Ck
open Go.RowKit

set_option maxRecDepth 20000 in
set_option maxHeartbeats 4000000 in
theorem step_13 {wB w : World} {p : List Addr} {F : Nat → Prop} {g bM bS : Nat} {vP vC vF vB vLo vL : Value} {c : Cd} {f : Fn3} {hi : Int} {vs : List Value} {m : Rw16} (B : Bs wB p vP vC vF vB vLo c f) (h : Rs wB w F g bM bS vP vC vF vB vLo c f hi vL vs m) (hh : hi ≤ c.B.length) (n : Nat) (hn : n < c.B.length) (hi2 : insB c (c.B.getD n zI) = true) (hop : (c.B.getD n zI).op = 13) : Calls Tryd.prog 35 #[.pointer (some ⟨g, 0, none⟩), .int .i64 (n : Nat)] w (RsP p wB w F g bM bS vP vC vF vB vLo c f hi (stepM c f hi m n)) := by
  obtain ⟨o, ho⟩ : ∃ o, stepM c f hi m n = o := ⟨_, rfl⟩
  rw [ho]
  obtain ⟨v, s, _, hs, _, yS, sl, _, hl, hf⟩ := h.stk hn
  obtain ⟨x, hx⟩ : ∃ x, x = c.B.getD n zI := ⟨_, rfl⟩
  rw [← hx] at hop hi2
  have EM : Hid (o = (takeM [3] s).bind fun s' => (jumpM c f.st hi m n s').bind fun m' => comeM f.st hi m' (n + 1) s') := hide (by rw [← ho]; unfold stepM; simp only; rw [← hx, ← hs]; simp [hop])
  have CL := hide (clone_stk sl (by omega))
  obtain ⟨a0, c0, rfl, _⟩ := sl.form
  obtain ⟨aB, cB, eB, _⟩ := B.ins h.bel
  subst eB
  obtain ⟨N, hN⟩ : ∃ N, N = c.B.length := ⟨_, rfl⟩
  have y12 : w.cell? ⟨g, 12, none⟩ = some (.slice (some ⟨bS, 0, none⟩) N N) := by rw [hN]; exact blk_cell h.at_ 12 _ rfl
  have hn0 : n < N := by omega
  have hn1 : (n : Int) < (N : Int) := by omega
  obtain ⟨ns, hns⟩ : ∃ q, q = s.length := ⟨_, rfl⟩
  rw [← hns] at CL yS
  have HH := hide h
  have HB := hide B
  have HHH := hide hh
  have HX := hide (And.intro hn (And.intro hN (And.intro hns (And.intro hl hx))))
  have HF := hide hf
  have HI := hide hi2
  have hop2 := hop
  clear h B hh hn hi2 hs sl hl hf ho hN hns hx
  go_enter Tryd.func35, Tryd.ntmps35
  go_wp2_with fail
  refine CL.out.mono ?_
  rintro e w5 ⟨v', rfl, ⟨a5, c5, rfl⟩, o5, b5⟩
  have BN := bel_new w5 (.cells #[.slice a5 ns c5] 54)
  have B6 := bel_trans b5 BN
  have H6 := HH.out.keep B6
  have K6 : Sk (w5.alloc (.cells #[.slice a5 ns c5] 54)) w5.heap.size w.heap.size (.slice a5 ns c5) s := ⟨Go.Deep.blk_alloc_new _ _, own_keep (by rw [← HX.out.2.2.1]; exact o5) (fun k hk => BN.block k (own_type o5 hk).2.1), b5.size, by have := HX.out.2.2.2.1; omega⟩
  obtain ⟨aB2, cB2, eB2, hI⟩ := HB.out.ins H6.bel
  cases eB2
  obtain ⟨b1, o1, e1, _, z0, z1, z2, z3, z4⟩ := hI n HX.out.1
  subst e1
  rw [← HX.out.2.2.2.2] at z0 z1 z2 z3 z4
  rw [hop] at z0
  have y6 : (w5.alloc (.cells #[.slice a5 ns c5] 54)).cell? ⟨g, 6, none⟩ = some (.slice (some ⟨b1, o1, none⟩) N cB) := by rw [HX.out.2.1]; exact blk_cell H6.at_ 6 _ rfl
  have BN7 := bel_new (w5.alloc (.cells #[.slice a5 ns c5] 54)) (.cells #[.int .i64 13, .int .i64 x.a, .int .i64 x.b, .int .u64 x.bits, .int .i64 x.at_] 44)
  have B7 := hide (bel_trans B6 BN7)
  have H7 := hide (H6.keep BN7)
  have K7 := hide (K6.bel BN7)
  have hz7 : ((w5.alloc (.cells #[.slice a5 ns c5] 54)).alloc (.cells #[.int .i64 13, .int .i64 x.a, .int .i64 x.b, .int .u64 x.bits, .int .i64 x.at_] 44)).heap.size = w5.heap.size + 1 + 1 := by simp
  have SZ7 := hide hz7
  clear hz7
  have V7 := hide (Go.Deep.blk_alloc_new (w5.alloc (.cells #[.slice a5 ns c5] 54)) (.cells #[.int .i64 13, .int .i64 x.a, .int .i64 x.b, .int .u64 x.bits, .int .i64 x.at_] 44))
  have hs6 : (w5.alloc (.cells #[.slice a5 ns c5] 54)).heap.size = w5.heap.size + 1 := by simp
  rw [hs6] at V7
  have NF := hide (show ¬ F w5.heap.size from fun e => by have h1 := HH.out.fb _ e; have h2 := b5.size; omega)
  have LW := hide (show wB.heap.size ≤ w.heap.size from HH.out.size)
  have CF := hide (Ch.of_bel (F := F) B7.out)
  have NR : Hid (∀ k, w.heap.size ≤ k → ¬ F k) := hide (fun k hk e => absurd (HH.out.fb k e) (by omega))
  clear b5 o5 BN BN7 B6 H6 K6 hI hs6 CL yS y12
  go_wp2_with fail
  generalize (w5.alloc (.cells #[.slice a5 ns c5] 54)).alloc (.cells #[.int .i64 13, .int .i64 x.a, .int .i64 x.b, .int .u64 x.bits, .int .i64 x.at_] 44) = w7 at *
  generalize w5.heap.size = b at *
  clear z0 z1 z2 z3 z4 y6
  obtain ⟨kt, hkt, hkl⟩ := in_of ((insB_at (by rw [← hop2]; exact HI.out)).2.2.2.2.2.2.1 (.inl rfl) : inN x.a c.B.length = true)
  have HT := hide (And.intro hkt hkl)
  clear hkt hkl
  have BA := hide (bel_new w7 (.cells #[.int .i64 3] 3))
  have TK := hide (take_any (H7.out.keep BA.out |>.er HB.out) (K7.out.bel BA.out) (sl_one1 (Go.Deep.blk_alloc_new w7 (.cells #[.int .i64 3] 3)) (fits_k (by decide) (by decide))) (by simp))
  rw [SZ7.out] at TK
  refine TK.out.mono ?_
  intro e w8 hp
  rcases hp.both with ⟨s8, v8, hs8, rfl, k8, t8⟩ | ⟨hs8, rfl, t8⟩
  rotate_left 1
  · exact ⟨rfl, RsP.no (by rw [EM.out, hs8]; rfl) (CF.out.below ((BA.out.mono B7.out.size).trans (t8.bel K7.out.hb (Nat.le_trans B7.out.size BA.out.size))))⟩
  have R8 := hide ((H7.out.keep BA.out).tn t8 NF.out (K7.out.bel BA.out).at_ (Nat.le_trans LW.out K7.out.hb))
  have K8 := hide k8
  have B8 := hide (B7.out.trans ((BA.out.mono B7.out.size).trans (t8.bel K7.out.hb (Nat.le_trans B7.out.size BA.out.size))))
  have F8 := hide (takeM_fits hs8 HF.out)
  have L8 := hide (Nat.le_trans (takeM_len hs8) HX.out.2.2.2.1)
  have HS8 := hide hs8
  have EM2 : Hid (o = (jumpM c f.st hi m n s8).bind fun m' => comeM f.st hi m' (n + 1) s8) := hide (by rw [EM.out, hs8]; rfl)
  have xb := blk_cell K8.out.at_ 0 _ rfl
  have JU := hide (jump_any HB.out R8.out HHH.out n kt HX.out.1 HT.out.2 (by rw [← HX.out.2.2.2.2]; exact HT.out.1) (K8.out.sl F8.out) (by have := K8.out.n; omega))
  have C8 := hide (Ch.of_bel (F := F) B8.out)
  have N8 := hide (K8.out.ne)
  have O8 : Hid (∀ k, v8.ownBlock = some k → w.heap.size ≤ k) := hide (fun k hk => (own_type K8.out.row hk).1)
  clear hp hs8 k8 t8 TK BA H7 K7 B7 CF
  go_wp2_with fail
  refine JU.out.mono ?_
  intro e w9 hp
  rcases hp.both with ⟨m9, F9, vL9, vs9, ho9, rfl, r9, c9⟩ | ⟨ho9, rfl, c9⟩
  rotate_left 1
  · exact ⟨rfl, RsP.no (by rw [EM2.out, ho9]; rfl) (C8.out.trans c9)⟩
  have K9 := hide (K8.out.ch c9 NF.out (fun k hk => NR.out k (O8.out k hk)))
  have R9 := hide r9
  have C9 := hide (C8.out.trans c9)
  have EM3 : Hid (o = comeM f.st hi m9 (n + 1) s8) := hide (by rw [EM2.out, ho9]; rfl)
  have xb := blk_cell K9.out.at_ 0 _ rfl
  have hw9 : wrap64 ((n : Int) + 1) = ((n : Int) + 1) := by unfold wrap64; have := HB.out.n; have := HX.out.1; omega
  have CO := hide (come_any HB.out R9.out HHH.out ((n : Int) + 1) (K9.out.sl F8.out) (by have := K9.out.n; omega))
  clear hp ho9 r9 c9 JU R8 K8 C8 B8
  go_wp2_with fail
  refine CO.out.mono ?_
  intro e w10 hp
  have hq := hp.from C9.out
  rw [← EM3.out] at hq
  rcases hq.both with ⟨m', F', vL', vs', ho, rfl, r2, c2⟩ | ⟨ho, rfl, c2⟩
  · have Z := hide hq
    clear hp hq r2 c2 ho
    go_wp2_with fail
    go_end0
    exact Z.out
  · exact ⟨rfl, hq⟩
end Go.Proofs.YtlheflkdapckbaaDoor.Ck

/- Package proofread: step. (Written by mk_s.py.) -/
namespace Go.Proofs.YtlheflkdapckbaaDoor.Ck
open Go.RowKit

set_option maxRecDepth 20000 in
set_option maxHeartbeats 4000000 in
theorem step_14 {wB w : World} {p : List Addr} {F : Nat → Prop} {g bM bS : Nat} {vP vC vF vB vLo vL : Value} {c : Cd} {f : Fn3} {hi : Int} {vs : List Value} {m : Rw16} (B : Bs wB p vP vC vF vB vLo c f) (h : Rs wB w F g bM bS vP vC vF vB vLo c f hi vL vs m) (hh : hi ≤ c.B.length) (n : Nat) (hn : n < c.B.length) (hi2 : insB c (c.B.getD n zI) = true) (hop : (c.B.getD n zI).op = 14) : Calls Tryd.prog 35 #[.pointer (some ⟨g, 0, none⟩), .int .i64 (n : Nat)] w (RsP p wB w F g bM bS vP vC vF vB vLo c f hi (stepM c f hi m n)) := by
  obtain ⟨o, ho⟩ : ∃ o, stepM c f hi m n = o := ⟨_, rfl⟩
  rw [ho]
  obtain ⟨v, s, _, hs, _, yS, sl, _, hl, hf⟩ := h.stk hn
  obtain ⟨x, hx⟩ : ∃ x, x = c.B.getD n zI := ⟨_, rfl⟩
  rw [← hx] at hop hi2
  have EM : Hid (o = (jumpM c f.st hi m n s).bind fun m' => (takeM [3] s).bind fun s' => comeM f.st hi m' (n + 1) s') := hide (by rw [← ho]; unfold stepM; simp only; rw [← hx, ← hs]; simp [hop])
  have CL := hide (clone_stk sl (by omega))
  obtain ⟨a0, c0, rfl, _⟩ := sl.form
  obtain ⟨aB, cB, eB, _⟩ := B.ins h.bel
  subst eB
  obtain ⟨N, hN⟩ : ∃ N, N = c.B.length := ⟨_, rfl⟩
  have y12 : w.cell? ⟨g, 12, none⟩ = some (.slice (some ⟨bS, 0, none⟩) N N) := by rw [hN]; exact blk_cell h.at_ 12 _ rfl
  have hn0 : n < N := by omega
  have hn1 : (n : Int) < (N : Int) := by omega
  obtain ⟨ns, hns⟩ : ∃ q, q = s.length := ⟨_, rfl⟩
  rw [← hns] at CL yS
  have HH := hide h
  have HB := hide B
  have HHH := hide hh
  have HX := hide (And.intro hn (And.intro hN (And.intro hns (And.intro hl hx))))
  have HF := hide hf
  have HI := hide hi2
  have hop2 := hop
  clear h B hh hn hi2 hs sl hl hf ho hN hns hx
  go_enter Tryd.func35, Tryd.ntmps35
  go_wp2_with fail
  refine CL.out.mono ?_
  rintro e w5 ⟨v', rfl, ⟨a5, c5, rfl⟩, o5, b5⟩
  have BN := bel_new w5 (.cells #[.slice a5 ns c5] 54)
  have B6 := bel_trans b5 BN
  have H6 := HH.out.keep B6
  have K6 : Sk (w5.alloc (.cells #[.slice a5 ns c5] 54)) w5.heap.size w.heap.size (.slice a5 ns c5) s := ⟨Go.Deep.blk_alloc_new _ _, own_keep (by rw [← HX.out.2.2.1]; exact o5) (fun k hk => BN.block k (own_type o5 hk).2.1), b5.size, by have := HX.out.2.2.2.1; omega⟩
  obtain ⟨aB2, cB2, eB2, hI⟩ := HB.out.ins H6.bel
  cases eB2
  obtain ⟨b1, o1, e1, _, z0, z1, z2, z3, z4⟩ := hI n HX.out.1
  subst e1
  rw [← HX.out.2.2.2.2] at z0 z1 z2 z3 z4
  rw [hop] at z0
  have y6 : (w5.alloc (.cells #[.slice a5 ns c5] 54)).cell? ⟨g, 6, none⟩ = some (.slice (some ⟨b1, o1, none⟩) N cB) := by rw [HX.out.2.1]; exact blk_cell H6.at_ 6 _ rfl
  have BN7 := bel_new (w5.alloc (.cells #[.slice a5 ns c5] 54)) (.cells #[.int .i64 14, .int .i64 x.a, .int .i64 x.b, .int .u64 x.bits, .int .i64 x.at_] 44)
  have B7 := hide (bel_trans B6 BN7)
  have H7 := hide (H6.keep BN7)
  have K7 := hide (K6.bel BN7)
  have hz7 : ((w5.alloc (.cells #[.slice a5 ns c5] 54)).alloc (.cells #[.int .i64 14, .int .i64 x.a, .int .i64 x.b, .int .u64 x.bits, .int .i64 x.at_] 44)).heap.size = w5.heap.size + 1 + 1 := by simp
  have SZ7 := hide hz7
  clear hz7
  have V7 := hide (Go.Deep.blk_alloc_new (w5.alloc (.cells #[.slice a5 ns c5] 54)) (.cells #[.int .i64 14, .int .i64 x.a, .int .i64 x.b, .int .u64 x.bits, .int .i64 x.at_] 44))
  have hs6 : (w5.alloc (.cells #[.slice a5 ns c5] 54)).heap.size = w5.heap.size + 1 := by simp
  rw [hs6] at V7
  have NF := hide (show ¬ F w5.heap.size from fun e => by have h1 := HH.out.fb _ e; have h2 := b5.size; omega)
  have LW := hide (show wB.heap.size ≤ w.heap.size from HH.out.size)
  have CF := hide (Ch.of_bel (F := F) B7.out)
  have NR : Hid (∀ k, w.heap.size ≤ k → ¬ F k) := hide (fun k hk e => absurd (HH.out.fb k e) (by omega))
  clear b5 o5 BN BN7 B6 H6 K6 hI hs6 CL yS y12
  go_wp2_with fail
  generalize (w5.alloc (.cells #[.slice a5 ns c5] 54)).alloc (.cells #[.int .i64 14, .int .i64 x.a, .int .i64 x.b, .int .u64 x.bits, .int .i64 x.at_] 44) = w7 at *
  generalize w5.heap.size = b at *
  clear z0 z1 z2 z3 z4 y6
  obtain ⟨kt, hkt, hkl⟩ := in_of ((insB_at (by rw [← hop2]; exact HI.out)).2.2.2.2.2.2.1 (.inr rfl) : inN x.a c.B.length = true)
  have HT := hide (And.intro hkt hkl)
  clear hkt hkl
  have JU := hide (jump_any HB.out H7.out HHH.out n kt HX.out.1 HT.out.2 (by rw [← HX.out.2.2.2.2]; exact HT.out.1) (K7.out.sl HF.out) (by have := K7.out.n; omega))
  have O7 : Hid (∀ k, (Value.slice a5 ns c5).ownBlock = some k → w.heap.size ≤ k) := hide (fun k hk => (own_type K7.out.row hk).1)
  have LB := hide (lt_of_blk K7.out.at_)
  refine JU.out.mono ?_
  intro e w8 hp
  rcases hp.both with ⟨m8, F8, vL8, vs8, ho8, rfl, r8, c8⟩ | ⟨ho8, rfl, c8⟩
  rotate_left 1
  · exact ⟨rfl, RsP.no (by rw [EM.out, ho8]; rfl) (CF.out.trans c8)⟩
  have K8 := hide (K7.out.ch c8 NF.out (fun k hk => NR.out k (O7.out k hk)))
  have R8 := hide r8
  have C8 := hide (CF.out.trans c8)
  have NF8 := hide (c8.keepB NF.out LB.out).2.1
  have LS := hide (Nat.le_trans B7.out.size c8.size)
  have EM2 : Hid (o = (takeM [3] s).bind fun s' => comeM f.st hi m8 (n + 1) s') := hide (by rw [EM.out, ho8]; rfl)
  clear hp ho8 r8 c8 JU H7 K7 B7 CF O7 LB EM HH V7 SZ7
  go_wp2_with fail
  have BA := hide (bel_new w8 (.cells #[.int .i64 3] 3))
  have TK := hide (take_any ((R8.out.keep BA.out).er HB.out) (K8.out.bel BA.out) (sl_one1 (Go.Deep.blk_alloc_new w8 (.cells #[.int .i64 3] 3)) (fits_k (by decide) (by decide))) (by simp))
  refine TK.out.mono ?_
  intro e w9 hp
  rcases hp.both with ⟨s9, v9, hs9, rfl, k9, t9⟩ | ⟨hs9, rfl, t9⟩
  rotate_left 1
  · exact ⟨rfl, RsP.no (by rw [EM2.out, hs9]; rfl) (C8.out.below ((BA.out.mono LS.out).trans (t9.bel K8.out.hb (Nat.le_trans LS.out BA.out.size))))⟩
  have R9 := hide ((R8.out.keep BA.out).tn t9 NF8.out (K8.out.bel BA.out).at_ (Nat.le_trans LW.out K8.out.hb))
  have K9 := hide k9
  have C9 := hide (C8.out.below ((BA.out.mono LS.out).trans (t9.bel K8.out.hb (Nat.le_trans LS.out BA.out.size))))
  have F9 := hide (takeM_fits hs9 HF.out)
  have EM3 : Hid (o = comeM f.st hi m8 (n + 1) s9) := hide (by rw [EM2.out, hs9]; rfl)
  have xb := blk_cell K9.out.at_ 0 _ rfl
  have hw9 : wrap64 ((n : Int) + 1) = ((n : Int) + 1) := by unfold wrap64; have := HB.out.n; have := HX.out.1; omega
  have CO := hide (come_any HB.out R9.out HHH.out ((n : Int) + 1) (K9.out.sl F9.out) (by have := K9.out.n; omega))
  clear hp hs9 k9 t9 TK BA R8 K8 C8
  go_wp2_with fail
  refine CO.out.mono ?_
  intro e w10 hp
  have hq := hp.from C9.out
  rw [← EM3.out] at hq
  rcases hq.both with ⟨m', F', vL', vs', ho, rfl, r2, c2⟩ | ⟨ho, rfl, c2⟩
  · have Z := hide hq
    clear hp hq r2 c2 ho
    go_wp2_with fail
    go_end0
    exact Z.out
  · exact ⟨rfl, hq⟩
end Go.Proofs.YtlheflkdapckbaaDoor.Ck

/- Package proofread: step. (Written by mk_s.py.) -/
namespace Go.Proofs.YtlheflkdapckbaaDoor.Ck
open Go.RowKit

set_option maxRecDepth 20000 in
set_option maxHeartbeats 4000000 in
theorem step_26 {wB w : World} {p : List Addr} {F : Nat → Prop} {g bM bS : Nat} {vP vC vF vB vLo vL : Value} {c : Cd} {f : Fn3} {hi : Int} {vs : List Value} {m : Rw16} (B : Bs wB p vP vC vF vB vLo c f) (h : Rs wB w F g bM bS vP vC vF vB vLo c f hi vL vs m) (hh : hi ≤ c.B.length) (n : Nat) (hn : n < c.B.length) (hi2 : insB c (c.B.getD n zI) = true) (hop : (c.B.getD n zI).op = 26) : Calls Tryd.prog 35 #[.pointer (some ⟨g, 0, none⟩), .int .i64 (n : Nat)] w (RsP p wB w F g bM bS vP vC vF vB vLo c f hi (stepM c f hi m n)) := by
  obtain ⟨o, ho⟩ : ∃ o, stepM c f hi m n = o := ⟨_, rfl⟩
  rw [ho]
  obtain ⟨v, s, _, hs, _, yS, sl, _, hl, hf⟩ := h.stk hn
  obtain ⟨x, hx⟩ : ∃ x, x = c.B.getD n zI := ⟨_, rfl⟩
  rw [← hx] at hop hi2
  have EM : Hid (o = (takeM [1] s).map fun _ => m) := hide (by rw [← ho]; unfold stepM; simp only; rw [← hx, ← hs]; simp [hop])
  have CL := hide (clone_stk sl (by omega))
  obtain ⟨a0, c0, rfl, _⟩ := sl.form
  obtain ⟨aB, cB, eB, _⟩ := B.ins h.bel
  subst eB
  obtain ⟨N, hN⟩ : ∃ N, N = c.B.length := ⟨_, rfl⟩
  have y12 : w.cell? ⟨g, 12, none⟩ = some (.slice (some ⟨bS, 0, none⟩) N N) := by rw [hN]; exact blk_cell h.at_ 12 _ rfl
  have hn0 : n < N := by omega
  have hn1 : (n : Int) < (N : Int) := by omega
  obtain ⟨ns, hns⟩ : ∃ q, q = s.length := ⟨_, rfl⟩
  rw [← hns] at CL yS
  have HH := hide h
  have HB := hide B
  have HHH := hide hh
  have HX := hide (And.intro hn (And.intro hN (And.intro hns (And.intro hl hx))))
  have HF := hide hf
  have HI := hide hi2
  have hop2 := hop
  clear h B hh hn hi2 hs sl hl hf ho hN hns hx
  go_enter Tryd.func35, Tryd.ntmps35
  go_wp2_with fail
  refine CL.out.mono ?_
  rintro e w5 ⟨v', rfl, ⟨a5, c5, rfl⟩, o5, b5⟩
  have BN := bel_new w5 (.cells #[.slice a5 ns c5] 54)
  have B6 := bel_trans b5 BN
  have H6 := HH.out.keep B6
  have K6 : Sk (w5.alloc (.cells #[.slice a5 ns c5] 54)) w5.heap.size w.heap.size (.slice a5 ns c5) s := ⟨Go.Deep.blk_alloc_new _ _, own_keep (by rw [← HX.out.2.2.1]; exact o5) (fun k hk => BN.block k (own_type o5 hk).2.1), b5.size, by have := HX.out.2.2.2.1; omega⟩
  obtain ⟨aB2, cB2, eB2, hI⟩ := HB.out.ins H6.bel
  cases eB2
  obtain ⟨b1, o1, e1, _, z0, z1, z2, z3, z4⟩ := hI n HX.out.1
  subst e1
  rw [← HX.out.2.2.2.2] at z0 z1 z2 z3 z4
  rw [hop] at z0
  have y6 : (w5.alloc (.cells #[.slice a5 ns c5] 54)).cell? ⟨g, 6, none⟩ = some (.slice (some ⟨b1, o1, none⟩) N cB) := by rw [HX.out.2.1]; exact blk_cell H6.at_ 6 _ rfl
  have BN7 := bel_new (w5.alloc (.cells #[.slice a5 ns c5] 54)) (.cells #[.int .i64 26, .int .i64 x.a, .int .i64 x.b, .int .u64 x.bits, .int .i64 x.at_] 44)
  have B7 := hide (bel_trans B6 BN7)
  have H7 := hide (H6.keep BN7)
  have K7 := hide (K6.bel BN7)
  have hz7 : ((w5.alloc (.cells #[.slice a5 ns c5] 54)).alloc (.cells #[.int .i64 26, .int .i64 x.a, .int .i64 x.b, .int .u64 x.bits, .int .i64 x.at_] 44)).heap.size = w5.heap.size + 1 + 1 := by simp
  have SZ7 := hide hz7
  clear hz7
  have V7 := hide (Go.Deep.blk_alloc_new (w5.alloc (.cells #[.slice a5 ns c5] 54)) (.cells #[.int .i64 26, .int .i64 x.a, .int .i64 x.b, .int .u64 x.bits, .int .i64 x.at_] 44))
  have hs6 : (w5.alloc (.cells #[.slice a5 ns c5] 54)).heap.size = w5.heap.size + 1 := by simp
  rw [hs6] at V7
  have NF := hide (show ¬ F w5.heap.size from fun e => by have h1 := HH.out.fb _ e; have h2 := b5.size; omega)
  have LW := hide (show wB.heap.size ≤ w.heap.size from HH.out.size)
  have CF := hide (Ch.of_bel (F := F) B7.out)
  have NR : Hid (∀ k, w.heap.size ≤ k → ¬ F k) := hide (fun k hk e => absurd (HH.out.fb k e) (by omega))
  clear b5 o5 BN BN7 B6 H6 K6 hI hs6 CL yS y12
  go_wp2_with fail
  generalize (w5.alloc (.cells #[.slice a5 ns c5] 54)).alloc (.cells #[.int .i64 26, .int .i64 x.a, .int .i64 x.b, .int .u64 x.bits, .int .i64 x.at_] 44) = w7 at *
  generalize w5.heap.size = b at *
  clear z0 z1 z2 z3 z4 y6
  have BA := hide (bel_new w7 (.cells #[.int .i64 1] 3))
  have TK := hide (take_any (H7.out.keep BA.out |>.er HB.out) (K7.out.bel BA.out) (sl_one1 (Go.Deep.blk_alloc_new w7 (.cells #[.int .i64 1] 3)) (fits_k (by decide) (by decide))) (by simp))
  rw [SZ7.out] at TK
  refine TK.out.mono ?_
  intro e w8 hp
  rcases hp.both with ⟨s8, v8, hs8, rfl, k8, t8⟩ | ⟨hs8, rfl, t8⟩
  rotate_left 1
  · exact ⟨rfl, RsP.no (by rw [EM.out, hs8]; rfl) (CF.out.below ((BA.out.mono B7.out.size).trans (t8.bel K7.out.hb (Nat.le_trans B7.out.size BA.out.size))))⟩
  have R8 := hide ((H7.out.keep BA.out).tn t8 NF.out (K7.out.bel BA.out).at_ (Nat.le_trans LW.out K7.out.hb))
  have K8 := hide k8
  have B8 := hide (B7.out.trans ((BA.out.mono B7.out.size).trans (t8.bel K7.out.hb (Nat.le_trans B7.out.size BA.out.size))))
  have F8 := hide (takeM_fits hs8 HF.out)
  have L8 := hide (Nat.le_trans (takeM_len hs8) HX.out.2.2.2.1)
  have HS8 := hide hs8
  have EM2 : Hid (o = some m) := hide (by rw [EM.out, hs8]; rfl)
  clear hp hs8 k8 t8 TK BA H7 K7 B7
  go_wp2_with fail
  go_end0
  exact RsP.yes EM2.out R8.out (Ch.of_bel B8.out)
end Go.Proofs.YtlheflkdapckbaaDoor.Ck

/- Package proofread: step. (Written by mk_s.py.) -/
namespace Go.Proofs.YtlheflkdapckbaaDoor.Ck
open Go.RowKit

set_option maxRecDepth 20000 in
set_option maxHeartbeats 4000000 in
theorem step_d {wB w : World} {p : List Addr} {F : Nat → Prop} {g bM bS : Nat} {vP vC vF vB vLo vL : Value} {c : Cd} {f : Fn3} {hi : Int} {vs : List Value} {m : Rw16} (B : Bs wB p vP vC vF vB vLo c f) (h : Rs wB w F g bM bS vP vC vF vB vLo c f hi vL vs m) (hh : hi ≤ c.B.length) (n : Nat) (hn : n < c.B.length) (hi2 : insB c (c.B.getD n zI) = true) (hop : (c.B.getD n zI).op ≠ 12 ∧ (c.B.getD n zI).op ≠ 13 ∧ (c.B.getD n zI).op ≠ 14 ∧ (c.B.getD n zI).op ≠ 25 ∧ (c.B.getD n zI).op ≠ 26) : Calls Tryd.prog 35 #[.pointer (some ⟨g, 0, none⟩), .int .i64 (n : Nat)] w (RsP p wB w F g bM bS vP vC vF vB vLo c f hi (stepM c f hi m n)) := by
  obtain ⟨o, ho⟩ : ∃ o, stepM c f hi m n = o := ⟨_, rfl⟩
  rw [ho]
  obtain ⟨v, s, _, hs, _, yS, sl, _, hl, hf⟩ := h.stk hn
  obtain ⟨x, hx⟩ : ∃ x, x = c.B.getD n zI := ⟨_, rfl⟩
  rw [← hx] at hop hi2
  have EM : Hid (o = (changeM c f.lo x s).bind fun s' => comeM f.st hi m (n + 1) s') := hide (by rw [← ho]; unfold stepM; simp only; rw [← hx, ← hs]; simp [hop])
  have CL := hide (clone_stk sl (by omega))
  obtain ⟨a0, c0, rfl, _⟩ := sl.form
  obtain ⟨aB, cB, eB, _⟩ := B.ins h.bel
  subst eB
  obtain ⟨N, hN⟩ : ∃ N, N = c.B.length := ⟨_, rfl⟩
  have y12 : w.cell? ⟨g, 12, none⟩ = some (.slice (some ⟨bS, 0, none⟩) N N) := by rw [hN]; exact blk_cell h.at_ 12 _ rfl
  have hn0 : n < N := by omega
  have hn1 : (n : Int) < (N : Int) := by omega
  obtain ⟨ns, hns⟩ : ∃ q, q = s.length := ⟨_, rfl⟩
  rw [← hns] at CL yS
  have HH := hide h
  have HB := hide B
  have HHH := hide hh
  have HX := hide (And.intro hn (And.intro hN (And.intro hns (And.intro hl hx))))
  have HF := hide hf
  have HI := hide hi2
  have hop2 := hop
  obtain ⟨p12, p13, p14, p25, p26⟩ := hop
  have q12 : (x.op == 12) = false := by simp [p12]
  have q13 : (x.op == 13) = false := by simp [p13]
  have q14 : (x.op == 14) = false := by simp [p14]
  have q25 : (x.op == 25) = false := by simp [p25]
  have q26 : (x.op == 26) = false := by simp [p26]
  have HP := hide hop2
  clear p12 p13 p14 p25 p26 hop2
  clear h B hh hn hi2 hs sl hl hf ho hN hns hx
  go_enter Tryd.func35, Tryd.ntmps35
  go_wp2_with fail
  refine CL.out.mono ?_
  rintro e w5 ⟨v', rfl, ⟨a5, c5, rfl⟩, o5, b5⟩
  have BN := bel_new w5 (.cells #[.slice a5 ns c5] 54)
  have B6 := bel_trans b5 BN
  have H6 := HH.out.keep B6
  have K6 : Sk (w5.alloc (.cells #[.slice a5 ns c5] 54)) w5.heap.size w.heap.size (.slice a5 ns c5) s := ⟨Go.Deep.blk_alloc_new _ _, own_keep (by rw [← HX.out.2.2.1]; exact o5) (fun k hk => BN.block k (own_type o5 hk).2.1), b5.size, by have := HX.out.2.2.2.1; omega⟩
  obtain ⟨aB2, cB2, eB2, hI⟩ := HB.out.ins H6.bel
  cases eB2
  obtain ⟨b1, o1, e1, _, z0, z1, z2, z3, z4⟩ := hI n HX.out.1
  subst e1
  rw [← HX.out.2.2.2.2] at z0 z1 z2 z3 z4
  have y6 : (w5.alloc (.cells #[.slice a5 ns c5] 54)).cell? ⟨g, 6, none⟩ = some (.slice (some ⟨b1, o1, none⟩) N cB) := by rw [HX.out.2.1]; exact blk_cell H6.at_ 6 _ rfl
  have BN7 := bel_new (w5.alloc (.cells #[.slice a5 ns c5] 54)) (.cells #[.int .i64 x.op, .int .i64 x.a, .int .i64 x.b, .int .u64 x.bits, .int .i64 x.at_] 44)
  have B7 := hide (bel_trans B6 BN7)
  have H7 := hide (H6.keep BN7)
  have K7 := hide (K6.bel BN7)
  have hz7 : ((w5.alloc (.cells #[.slice a5 ns c5] 54)).alloc (.cells #[.int .i64 x.op, .int .i64 x.a, .int .i64 x.b, .int .u64 x.bits, .int .i64 x.at_] 44)).heap.size = w5.heap.size + 1 + 1 := by simp
  have SZ7 := hide hz7
  clear hz7
  have V7 := hide (Go.Deep.blk_alloc_new (w5.alloc (.cells #[.slice a5 ns c5] 54)) (.cells #[.int .i64 x.op, .int .i64 x.a, .int .i64 x.b, .int .u64 x.bits, .int .i64 x.at_] 44))
  have hs6 : (w5.alloc (.cells #[.slice a5 ns c5] 54)).heap.size = w5.heap.size + 1 := by simp
  rw [hs6] at V7
  have NF := hide (show ¬ F w5.heap.size from fun e => by have h1 := HH.out.fb _ e; have h2 := b5.size; omega)
  have LW := hide (show wB.heap.size ≤ w.heap.size from HH.out.size)
  have CF := hide (Ch.of_bel (F := F) B7.out)
  have NR : Hid (∀ k, w.heap.size ≤ k → ¬ F k) := hide (fun k hk e => absurd (HH.out.fb k e) (by omega))
  clear b5 o5 BN BN7 B6 H6 K6 hI hs6 CL yS y12
  go_wp2_with fail
  generalize (w5.alloc (.cells #[.slice a5 ns c5] 54)).alloc (.cells #[.int .i64 x.op, .int .i64 x.a, .int .i64 x.b, .int .u64 x.bits, .int .i64 x.at_] 44) = w7 at *
  generalize w5.heap.size = b at *
  clear z0 z1 z2 z3 z4 y6
  have CH := hide (show Calls Tryd.prog 47 #[.pointer (some ⟨g, 0, none⟩), .pointer (some ⟨b, 0, none⟩), .agg #[.int .i64 x.op, .int .i64 x.a, .int .i64 x.b, .int .u64 x.bits, .int .i64 x.at_]] w7 (GkP p w7 b w.heap.size (changeM c f.lo x s)) from change_any ⟨HH.out.er HB.out, HH.out.rd HB.out, B7.out, K7.out, by have := HX.out.2.2.2.1; omega⟩ HB.out.fm x HI.out HP.out)
  refine CH.out.mono ?_
  intro e w8 hp
  rcases hp.both with ⟨s8, v8, hs8, rfl, k8, b8⟩ | ⟨hs8, rfl, b8⟩
  rotate_left 1
  · exact ⟨rfl, RsP.no (by rw [EM.out, hs8]; rfl) (Ch.of_bel (F := F) (B7.out.trans b8))⟩
  have R9 := hide (HH.out.keep (B7.out.trans b8))
  have K9 := hide k8
  have C9 := hide (Ch.of_bel (F := F) (B7.out.trans b8))
  have F9 := hide (change_fits hs8 HB.out.cv.L HB.out.cv.P.fits HB.out.lo.fits HF.out)
  have EM3 : Hid (o = comeM f.st hi m (n + 1) s8) := hide (by rw [EM.out, hs8]; rfl)
  have xb := blk_cell K9.out.at_ 0 _ rfl
  have hw9 : wrap64 ((n : Int) + 1) = ((n : Int) + 1) := by unfold wrap64; have := HB.out.n; have := HX.out.1; omega
  have CO := hide (come_any HB.out R9.out HHH.out ((n : Int) + 1) (K9.out.sl F9.out.1) (by have := F9.out.2; have := HX.out.2.2.2.1; omega))
  clear hp hs8 k8 b8 CH H7 K7 B7 CF
  go_wp2_with fail
  refine CO.out.mono ?_
  intro e w10 hp
  have hq := hp.from C9.out
  rw [← EM3.out] at hq
  rcases hq.both with ⟨m', F', vL', vs', ho, rfl, r2, c2⟩ | ⟨ho, rfl, c2⟩
  · have Z := hide hq
    clear hp hq r2 c2 ho
    go_wp2_with fail
    go_end0
    exact Z.out
  · exact ⟨rfl, hq⟩
end Go.Proofs.YtlheflkdapckbaaDoor.Ck

/- Package proofread: step, whichever instruction; how long a function's going can last. -/
namespace Go.Proofs.YtlheflkdapckbaaDoor.Ck
open Go.RowKit

theorem step_any {wB w : World} {p : List Addr} {F : Nat → Prop} {g bM bS : Nat} {vP vC vF vB vLo vL : Value} {c : Cd} {f : Fn3} {hi : Int} {vs : List Value} {m : Rw16} (B : Bs wB p vP vC vF vB vLo c f) (h : Rs wB w F g bM bS vP vC vF vB vLo c f hi vL vs m) (hh : hi ≤ c.B.length) (n : Nat) (hn : n < c.B.length) (hi2 : ∀ x ∈ c.B, insB c x = true) : Calls Tryd.prog 35 #[.pointer (some ⟨g, 0, none⟩), .int .i64 (n : Nat)] w (RsP p wB w F g bM bS vP vC vF vB vLo c f hi (stepM c f hi m n)) := by
  have hx := hi2 _ (B.in_B hn)
  by_cases h12 : (c.B.getD n zI).op = 12
  · exact step_12 B h hh n hn hx h12
  by_cases h13 : (c.B.getD n zI).op = 13
  · exact step_13 B h hh n hn hx h13
  by_cases h14 : (c.B.getD n zI).op = 14
  · exact step_14 B h hh n hn hx h14
  by_cases h25 : (c.B.getD n zI).op = 25
  · exact step_25 B h hh n hn hx h25
  by_cases h26 : (c.B.getD n zI).op = 26
  · exact step_26 B h hh n hn hx h26
  exact step_d B h hh n hn hx ⟨h12, h13, h14, h25, h26⟩
/-- how much is still to be gone through -/
def muW (m : Rw16) : Nat := 2 * m.met.count false + m.left.length
theorem count_false : ∀ (l : List Bool) (n : Nat), l[n]? = some false → (l.set n true).count false + 1 = l.count false
  | [], n, h => by simp at h
  | x :: l, 0, h => by
    simp at h
    subst h
    simp
  | x :: l, n + 1, h => by
    have ih := count_false l n (by simpa using h)
    simp only [List.set_cons_succ, List.count_cons]
    omega
theorem comeM_mu {lo hi q : Int} {m m' : Rw16} {t : List Int} (h0 : 0 ≤ lo) (hh : hi ≤ m.met.length) (h : comeM lo hi m q t = some m') : muW m' ≤ muW m ∧ m'.met.length = m.met.length := by
  unfold comeM at h
  by_cases h1 : lo ≤ q ∧ q < hi
  · rw [if_pos h1] at h
    by_cases h2 : t.length ≤ 64
    · rw [if_pos h2] at h
      by_cases h3 : m.met.getD q.toNat false = true
      · rw [if_pos h3] at h
        by_cases h4 : m.st.getD q.toNat [] = t
        · rw [if_pos h4] at h
          cases h
          exact ⟨Nat.le_refl _, rfl⟩
        · rw [if_neg h4] at h
          cases h
      · rw [if_neg h3] at h
        cases h
        have hl : q.toNat < m.met.length := by omega
        have hf : m.met[q.toNat]? = some false := by
          rw [List.getD_eq_getElem?_getD, List.getElem?_eq_getElem hl] at h3
          rw [List.getElem?_eq_getElem hl]
          simpa using h3
        have h5 := count_false _ _ hf
        refine ⟨?_, by simp⟩
        unfold muW
        simp only [List.length_append, List.length_singleton]
        omega
    · rw [if_neg h2] at h
      cases h
  · rw [if_neg h1] at h
    cases h
theorem jumpM_mu {c : Cd} {lo hi : Int} {m m' : Rw16} {i : Nat} {t : List Int} (h0 : 0 ≤ lo) (hh : hi ≤ m.met.length) (h : jumpM c lo hi m i t = some m') : muW m' ≤ muW m ∧ m'.met.length = m.met.length := by
  unfold jumpM at h
  split at h
  · exact comeM_mu h0 hh h
  · cases h
theorem stepM_mu {c : Cd} {f : Fn3} {hi : Int} {m m' : Rw16} {i : Nat} (h0 : 0 ≤ f.st) (hh : hi ≤ m.met.length) (h : stepM c f hi m i = some m') : muW m' ≤ muW m ∧ m'.met.length = m.met.length := by
  unfold stepM at h
  simp only at h
  split at h
  · exact jumpM_mu h0 hh h
  split at h
  · obtain ⟨s', _, h⟩ := Option.bind_eq_some_iff.1 h
    obtain ⟨m1, h1, h⟩ := Option.bind_eq_some_iff.1 h
    have q1 := jumpM_mu h0 hh h1
    have q2 := comeM_mu h0 (by rw [q1.2]; exact hh) h
    exact ⟨Nat.le_trans q2.1 q1.1, q2.2.trans q1.2⟩
  split at h
  · obtain ⟨m1, h1, h⟩ := Option.bind_eq_some_iff.1 h
    obtain ⟨s', _, h⟩ := Option.bind_eq_some_iff.1 h
    have q1 := jumpM_mu h0 hh h1
    have q2 := comeM_mu h0 (by rw [q1.2]; exact hh) h
    exact ⟨Nat.le_trans q2.1 q1.1, q2.2.trans q1.2⟩
  split at h
  · split at h
    · cases h
      exact ⟨Nat.le_refl _, rfl⟩
    · cases h
  split at h
  · obtain ⟨s', _, rfl⟩ := Option.map_eq_some_iff.1 h
    exact ⟨Nat.le_refl _, rfl⟩
  · obtain ⟨s', _, h⟩ := Option.bind_eq_some_iff.1 h
    exact comeM_mu h0 hh h
/-- going on from what is left, the last first -/
def goM (c : Cd) (f : Fn3) (hi : Int) : Nat → Rw16 → Option Rw16
  | 0, m => some m
  | k + 1, m => match m.left.getLast? with
    | none => some m
    | some i => (stepM c f hi { m with left := m.left.dropLast } i).bind (goM c f hi k)
def goW (c : Cd) (f : Fn3) (hi : Int) (m : Rw16) : Option Rw16 := goM c f hi (muW m) m
theorem mu_pop {m : Rw16} {i : Nat} (h : m.left.getLast? = some i) : muW { m with left := m.left.dropLast } + 1 = muW m := by
  unfold muW
  have : m.left ≠ [] := fun e => by rw [e] at h; cases h
  have h1 := List.length_pos_iff.2 this
  simp only [List.length_dropLast]
  omega
theorem goM_succ {c : Cd} {f : Fn3} {hi : Int} {k : Nat} {m : Rw16} {i : Nat} (hl : m.left.getLast? = some i) : goM c f hi (k + 1) m = (stepM c f hi { m with left := m.left.dropLast } i).bind (goM c f hi k) := by
  conv => lhs; unfold goM
  rw [hl]
theorem goM_more {c : Cd} {f : Fn3} {hi : Int} (h0 : 0 ≤ f.st) : ∀ (a b : Nat) (m : Rw16), hi ≤ m.met.length → muW m ≤ a → muW m ≤ b → goM c f hi a m = goM c f hi b m := by
  intro a
  induction a with
  | zero =>
    intro b m _ ha _
    have hl : m.left = [] := by
      unfold muW at ha
      exact List.length_eq_zero_iff.1 (by omega)
    cases b with
    | zero => rfl
    | succ b => unfold goM; rw [hl]; rfl
  | succ a ih =>
    intro b m hh ha hb
    cases hl : m.left.getLast? with
    | none =>
      have e : goM c f hi (a + 1) m = some m := by unfold goM; rw [hl]
      rw [e]
      cases b with
      | zero => rfl
      | succ b => unfold goM; rw [hl]
    | some i =>
      have hp := mu_pop hl
      obtain ⟨b, rfl⟩ : ∃ q, b = q + 1 := ⟨b - 1, by omega⟩
      unfold goM
      rw [hl]
      simp only
      cases hs : stepM c f hi { m with left := m.left.dropLast } i with
      | none => rfl
      | some m' =>
        have q := stepM_mu (m := { m with left := m.left.dropLast }) h0 hh hs
        have q1 : muW m' + 1 ≤ muW m := Nat.le_trans (Nat.succ_le_succ q.1) (Nat.le_of_eq hp)
        exact ih b m' (by rw [q.2]; exact hh) (by omega) (by omega)
theorem goW_end {c : Cd} {f : Fn3} {hi : Int} {m : Rw16} (h : m.left = []) : goW c f hi m = some m := by
  unfold goW
  cases muW m with
  | zero => rfl
  | succ k => unfold goM; rw [h]; rfl
theorem goW_step {c : Cd} {f : Fn3} {hi : Int} {m : Rw16} {l : List Nat} {i : Nat} (h0 : 0 ≤ f.st) (hh : hi ≤ m.met.length) (h : m.left = l ++ [i]) : goW c f hi m = (stepM c f hi { m with left := l } i).bind (goW c f hi) ∧ ∀ m', stepM c f hi { m with left := l } i = some m' → muW m' < muW m ∧ m'.met.length = m.met.length := by
  have hl : m.left.getLast? = some i := by rw [h]; simp
  have hd : m.left.dropLast = l := by rw [h]; simp
  have hp := mu_pop hl
  rw [hd] at hp
  have key : ∀ m', stepM c f hi { m with left := l } i = some m' → muW m' < muW m ∧ m'.met.length = m.met.length := fun m' hs => by
    have q := stepM_mu h0 (m := { m with left := l }) hh hs
    exact ⟨Nat.lt_of_lt_of_le (Nat.lt_succ_of_le q.1) (Nat.le_of_eq hp), q.2⟩
  refine ⟨?_, key⟩
  have e1 : goW c f hi m = goM c f hi (muW { m with left := l } + 1) m := by unfold goW; rw [hp]
  rw [e1, goM_succ hl, hd]
  cases hs : stepM c f hi { m with left := l } i with
  | none => rfl
  | some m' =>
    have q := key m' hs
    exact goM_more h0 _ _ m' (by rw [q.2]; exact hh) (Nat.le_of_lt_succ (Nat.lt_of_lt_of_le q.1 (Nat.le_of_eq hp.symm))) (Nat.le_refl _)
def functionM (c : Cd) (f : Fn3) (hi : Int) (m : Rw16) : Option Rw16 := (comeM f.st hi m f.st []).bind (goW c f hi)
end Go.Proofs.YtlheflkdapckbaaDoor.Ck

/- Package proofread: a function's going. -/
namespace Go.Proofs.YtlheflkdapckbaaDoor.Ck
open Go.RowKit

theorem own_len2 {a : Option Addr} {n n' c k : Nat} (h : (Value.slice a n c).ownBlock = some k) : (Value.slice a n' c).ownBlock = some k := by
  cases a with
  | none => cases h
  | some ad => exact h
/-- the last one left is taken -/
theorem Rs.cut {wB w : World} {F : Nat → Prop} {g bM bS : Nat} {vP vC vF vB vLo : Value} {c : Cd} {f : Fn3} {hi : Int} {vs : List Value} {m : Rw16} {aL : Option Addr} {nL cL i : Nat} {l : List Nat} (h : Rs wB w F g bM bS vP vC vF vB vLo c f hi (.slice aL nL cL) vs m) (hl : m.left = l ++ [i]) :
    Rs wB (w.setCell ⟨g, 13, none⟩ (.slice aL l.length cL)) F g bM bS vP vC vF vB vLo c f hi (.slice aL l.length cL) vs { m with left := l } ∧ Ch F F w (w.setCell ⟨g, 13, none⟩ (.slice aL l.length cL)) := by
  obtain ⟨k1, t1⟩ := set1 h.at_ 13 (.slice aL l.length cL)
  have hlen : m.left.length = l.length + 1 := by rw [hl]; simp
  have hnL : nL = m.left.length := by
    obtain ⟨a, c', e, _⟩ := own_slice h.lf
    cases e
    rfl
  have hlf := h.lf
  rw [hnL] at hlf
  have h2 := own_cut hlf (keep := l.length) (by omega)
  have e2 : (nns m.left).take l.length = nns l := by rw [hl]; simp [nns]
  rw [e2] at h2
  have hs : (w.setCell ⟨g, 13, none⟩ (.slice aL l.length cL)).heap.size = w.heap.size := size_setCell _ _ _
  have hc : Ch F F w (w.setCell ⟨g, 13, none⟩ (.slice aL l.length cL)) := ⟨t1.os, t1.tape, t1.output, t1.size, fun k hk hF => t1.blk k hk (fun e => hF (e ▸ h.fg)), fun _ hk => .inl hk⟩
  refine ⟨{ at_ := k1, mt := own_keep h.mt fun k hk => t1.blk k (own_type h.mt hk).2.1 (fun e => h.gM ((Option.some.inj hk).trans e).symm), st := own_keep h.st fun k hk => t1.blk k (own_type h.st hk).2.1 (fun e => h.gS ((Option.some.inj hk).trans e).symm), lf := own_keep h2 fun k hk => t1.blk k (own_type h2 hk).2.1 (fun e => own_at h2 h.at_ (by decide) (by rw [hk, e])), row := fun j s v h1 h3 => ?_, ml := h.ml, sl := h.sl, lb := fun j hj => h.lb j (by rw [hl]; exact List.mem_append_left _ hj), ln := by have := h.ln; show l.length ≤ m.met.count true; omega, fg := h.fg, fM := h.fM, fS := h.fS, fL := fun k hk => h.fL k (own_len2 hk), low := h.low, fb := fun k hk => by rw [hs]; exact h.fb k hk, bel := h.bel.trans (hc.bel h.low h.bel.size) }, hc⟩
  obtain ⟨q1, q2, q3⟩ := h.row j s v h1 h3
  exact ⟨own_keep q1 fun k hk => t1.blk k (own_type q1 hk).2.1 (fun e => q2 k hk (e ▸ h.fg)), q2, q3⟩
theorem RsP.to {p : List Addr} {wB w w1 : World} {F F1 : Nat → Prop} {g bM bS : Nat} {vP vC vF vB vLo vL : Value} {c : Cd} {f : Fn3} {hi : Int} {o : Option Rw16} {vs : List Value} {m' : Rw16} (ho : o = some m') (h : Rs wB w1 F1 g bM bS vP vC vF vB vLo c f hi vL vs m') (c1 : Ch F F1 w w1) : RsP p wB w F g bM bS vP vC vF vB vLo c f hi o (.returned (.tuple #[])) w1 := RsP.yes ho h c1
set_option maxRecDepth 20000 in
set_option maxHeartbeats 4000000 in
theorem function_any {wB w : World} {p : List Addr} {F : Nat → Prop} {g bM bS : Nat} {vP vC vF vB vLo vL : Value} {c : Cd} {f : Fn3} {hi : Int} {vs : List Value} {m : Rw16} (B : Bs wB p vP vC vF vB vLo c f) (h : Rs wB w F g bM bS vP vC vF vB vLo c f hi vL vs m) (hh : hi ≤ c.B.length) (hi2 : ∀ x ∈ c.B, insB c x = true) : Calls Tryd.prog 26 #[.pointer (some ⟨g, 0, none⟩)] w (RsP p wB w F g bM bS vP vC vF vB vLo c f hi (functionM c f hi m)) := by
  obtain ⟨o, ho⟩ : ∃ o, functionM c f hi m = o := ⟨_, rfl⟩
  rw [ho]
  have EO : Hid (o = (comeM f.st hi m f.st []).bind (goW c f hi)) := hide (by rw [← ho]; rfl)
  have y7 : w.cell? ⟨g, 7, none⟩ = some (.int .i64 f.st) := blk_cell h.at_ 7 _ rfl
  have CO := hide (come_any B h hh f.st (t := []) (Sl.nilS w) (by simp))
  have HB := hide B
  have HH := hide hh
  have HI := hide hi2
  have MLN := hide h.ml
  clear h B hh hi2 ho
  go_enter Tryd.func26, Tryd.ntmps26
  go_wp2_with fail
  refine CO.out.mono ?_
  intro e w1 hp
  rcases hp.both with ⟨m1, F1, vL1, vs1, ho1, rfl, r1, c1⟩ | ⟨ho1, rfl, c1⟩
  rotate_left 1
  · exact ⟨rfl, RsP.no (by rw [EO.out, ho1]; rfl) c1⟩
  have I0 : Hid (∃ F' vL' vs', Rs wB w1 F' g bM bS vP vC vF vB vLo c f hi vL' vs' m1 ∧ Ch F F' w w1 ∧ goW c f hi m1 = o) := hide ⟨F1, vL1, vs1, r1, c1, by rw [EO.out, ho1]; rfl⟩
  clear hp ho1 r1 c1 CO y7 EO
  go_wp2_with fail
  go_loopg [] (muW m1) (fun gh wr => ∃ m', gh = muW m' ∧ Hid (∃ F' vL' vs', Rs wB wr F' g bM bS vP vC vF vB vLo c f hi vL' vs' m' ∧ Ch F F' w wr ∧ goW c f hi m' = o))
  case atStart => exact ⟨m1, rfl, I0⟩
  case round =>
    obtain ⟨m', rfl, HI2⟩ := hrel
    obtain ⟨F', vL', vs', r', c', e'⟩ := HI2.out
    obtain ⟨aL, cL, eL, _⟩ := own_slice r'.lf
    subst eL
    have R := hide r'
    have C := hide c'
    have E := hide e'
    have y13 : wr.cell? ⟨g, 13, none⟩ = some (.slice aL m'.left.length cL) := blk_cell r'.at_ 13 _ rfl
    have f13 := blk_frz r'.at_ 13
    clear HI2 I0 r' c' e'
    rcases List.eq_nil_or_concat m'.left with hl | ⟨l, i, hl⟩
    · have E2 : Hid (o = some m') := hide (by rw [← E.out, goW_end hl])
      rw [hl] at y13
      simp only [List.length_nil] at y13
      clear hl
      go_wp2_with fail
      go_end0
      exact RsP.to E2.out R.out C.out
    · rw [List.concat_eq_append] at hl
      have hlen : m'.left.length = l.length + 1 := by rw [hl]; simp
      have GS := hide (goW_step (c := c) HB.out.st (by rw [R.out.ml]; exact HH.out) hl)
      have hi' : i < c.B.length := R.out.lb i (by rw [hl]; simp)
      have RC := hide (R.out.cut hl)
      have SA' := hide (step_any HB.out RC.out.1 HH.out i hi' HI.out)
      obtain ⟨bL, cL2, eL2, hL3, _⟩ := own_some R.out.lf (by omega)
      cases eL2
      have x1 := (own_cell R.out.lf l.length (.int .i64 (i : Int)) (by rw [hl]; simp [nns])).1
      obtain ⟨k, hk⟩ : ∃ k, k = l.length := ⟨_, rfl⟩
      obtain ⟨nn, hnn⟩ : ∃ k, k = m'.left.length := ⟨_, rfl⟩
      have hw : wrap64 ((nn : Int) - 1) = (k : Int) := by unfold wrap64; have := R.out.ln; have h3 := List.count_le_length (a := true) (l := m'.met); have h4 := R.out.ml; have h5 := HB.out.n; omega
      have hkn : (k : Int) < (nn : Int) := by omega
      have hkn0 : k < nn := by omega
      have hkc : k ≤ cL := by omega
      have hpos : (0 : Int) < (nn : Int) := by omega
      rw [← hk] at x1 SA'
      rw [← hnn] at y13
      have HK := hide hk
      clear hl hlen hi' hk hnn hL3
      go_wp2_with fail
      refine SA'.out.mono ?_
      intro e w2 hp
      have CC := hide (C.out.trans RC.out.2)
      rw [← HK.out] at CC
      rcases hp.both with ⟨m2, F2, vL2, vs2, ho2, rfl, r2, c2⟩ | ⟨ho2, rfl, c2⟩
      rotate_left 1
      · exact ⟨rfl, RsP.no (by rw [← E.out, GS.out.1, ho2]; rfl) (CC.out.trans c2)⟩
      have Z := hide (show ∃ F' vL' vs', Rs wB w2 F' g bM bS vP vC vF vB vLo c f hi vL' vs' m2 ∧ Ch F F' w w2 ∧ goW c f hi m2 = o from ⟨F2, vL2, vs2, r2, CC.out.trans c2, by rw [← E.out, GS.out.1, ho2]; rfl⟩)
      have MU := hide (GS.out.2 m2 ho2).1
      clear hp ho2 r2 c2 RC SA' CC x1 y13 f13
      go_wp2_with fail
      go_roundg (muW m2)
      case measure => exact MU.out
      case rel => exact ⟨m2, rfl, Z⟩
end Go.Proofs.YtlheflkdapckbaaDoor.Ck

/- Package proofread: all functions of a code; what read makes first. -/
namespace Go.Proofs.YtlheflkdapckbaaDoor.Ck
open Go.RowKit

def endM (c : Cd) (l : List Fn3) : Int := match l with
  | [] => c.B.length
  | f :: _ => f.st
def funcsM (c : Cd) : List Fn3 → Rw16 → Option Rw16
  | [], m => some m
  | f :: l, m => (functionM c f (endM c l) m).bind (funcsM c l)
def beginM (c : Cd) : Rw16 := ⟨List.replicate c.B.length false, List.replicate c.B.length [], []⟩
/-- the stacks at a code's instructions, if it is right -/
def readM (c : Cd) : Option (List (List Int)) := if formB c = true then (funcsM c c.F (beginM c)).map Rw16.st else none
theorem madeRow (w : World) (z : Value) (n : Nat) (T : TypeId) (hn : n ≤ 10000) : (w.alloc (.cells (madeCells #[z] n) T)).ownsRow 0 T 1 (.slice (some ⟨w.heap.size, 0, none⟩) n n) n (List.replicate n z) :=
  ⟨by simp, .inr ⟨w.heap.size, n, _, rfl, Nat.zero_le _, Go.Deep.blk_alloc_new _ _, Nat.le_refl _, by unfold maxLen; omega, by simp [madeCells], by
    rw [List.take_of_length_le]
    · apply List.ext_getElem?
      intro m
      by_cases hm : m < n
      · simp [madeCells, Nat.mod_one, hm]
      · simp [madeCells, Nat.mod_one, hm]
    · simp [madeCells]⟩⟩
theorem run_mkB (n : Nat) (hn : n ≤ 10000) (w : World) : (Instr.makeSlice 56 (.int .i64 (n : Nat)) (.int .i64 (n : Nat))).run Tryd.prog w = .ok (.slice (some ⟨w.heap.size, 0, none⟩) n n) (w.alloc (.cells (madeCells #[.bool false] n) 4)) := by
  have hinfo : (Tryd.prog.info? 4).map (fun i => (i.zero, i.size, i.bytes)) = some (some (.bool false), 1, 1) := by kernel_rfl
  obtain ⟨i, hi, hz0, hz1, hz2⟩ := info_parts hinfo
  have hr := run_make (P := Tryd.prog) w 56 4 i (.bool false) Tryd.underlying56 hi hz0 .i64 .i64 n n (by omega) (by omega) (by rw [hz2]; omega) (by omega)
  simp only [Int.toNat_natCast, hz1, Nat.mul_one] at hr
  exact hr
theorem run_mkS (n : Nat) (hn : n ≤ 10000) (w : World) : (Instr.makeSlice 51 (.int .i64 (n : Nat)) (.int .i64 (n : Nat))).run Tryd.prog w = .ok (.slice (some ⟨w.heap.size, 0, none⟩) n n) (w.alloc (.cells (madeCells #[.slice none 0 0] n) 54)) := by
  have hinfo : (Tryd.prog.info? 54).map (fun i => (i.zero, i.size, i.bytes)) = some (some (.slice none 0 0), 1, 24) := by kernel_rfl
  obtain ⟨i, hi, hz0, hz1, hz2⟩ := info_parts hinfo
  have hr := run_make (P := Tryd.prog) w 51 54 i (.slice none 0 0) Tryd.underlying51 hi hz0 .i64 .i64 n n (by omega) (by omega) (by rw [hz2]; omega) (by omega)
  simp only [Int.toNat_natCast, hz1, Nat.mul_one] at hr
  exact hr
/-- a reader at its beginning -/
theorem Rs.start {wB w : World} {g bM bS : Nat} {vP vC vF vB : Value} {c : Cd} (hb : Below wB.heap.size wB w)
    (hg : w.heap[g]? = some (.cells #[vP, .int .i64 c.M, .int .i64 c.A, vC, vF, .int .i64 c.mn, vB, .int .i64 0, .int .i64 0, .slice none 0 0, .int .i64 0, .slice (some ⟨bM, 0, none⟩) c.B.length c.B.length, .slice (some ⟨bS, 0, none⟩) c.B.length c.B.length, .slice none 0 0] 71 (0, 0)))
    (hM : w.ownsRow 0 4 1 (.slice (some ⟨bM, 0, none⟩) c.B.length c.B.length) c.B.length (List.replicate c.B.length (.bool false))) (hS : w.ownsRow 0 54 1 (.slice (some ⟨bS, 0, none⟩) c.B.length c.B.length) c.B.length (List.replicate c.B.length (.slice none 0 0)))
    (l1 : wB.heap.size ≤ g) (l2 : wB.heap.size ≤ bM) (l3 : wB.heap.size ≤ bS) :
    Rs wB w (fun k => k = g ∨ k = bM ∨ k = bS) g bM bS vP vC vF vB (.slice none 0 0) c ⟨0, 0, []⟩ 0 (.slice none 0 0) (List.replicate c.B.length (.slice none 0 0)) (beginM c) where
  at_ := hg
  mt := by
    have e : bls (beginM c).met = List.replicate c.B.length (.bool false) := by simp [bls, beginM]
    rw [e]
    exact hM
  st := hS
  lf := World.ownsRow_nil _ _ _ _
  row := fun i s v hs hv => by
    have hi : i < c.B.length := by
      have := (List.getElem?_eq_some_iff.1 hv).1
      simpa using this
    have e1 : s = [] := by
      have h9 : (List.replicate c.B.length ([] : List Int))[i]? = some s := hs
      rw [List.getElem?_replicate, if_pos hi] at h9
      exact (Option.some.inj h9).symm
    have e2 : v = .slice none 0 0 := by
      rw [List.getElem?_replicate, if_pos hi] at hv
      exact (Option.some.inj hv).symm
    subst e1 e2
    exact ⟨World.ownsRow_nil _ _ _ _, fun k hk => (by cases hk), fun z hz => (by cases hz), Nat.zero_le _⟩
  ml := by simp [beginM]
  sl := by simp [beginM]
  lb := fun i hi => by cases hi
  ln := Nat.zero_le _
  fg := .inl rfl
  fM := .inr (.inl rfl)
  fS := .inr (.inr rfl)
  fL := fun k hk => by cases hk
  low := fun k hk => by rcases hk with rfl | rfl | rfl <;> assumption
  fb := fun k hk => by
    rcases hk with rfl | rfl | rfl
    · exact lt_of_blk hg
    · exact (own_type hM rfl).2.1
    · exact (own_type hS rfl).2.1
  bel := hb
/-- another function is gone through -/
theorem Rs.entry {wB w w' : World} {F : Nat → Prop} {g bM bS : Nat} {vP vC vF vB vLo vLo' vL : Value} {c : Cd} {f f' : Fn3} {hi hi' : Int} {vs : List Value} {m : Rw16} (h : Rs wB w F g bM bS vP vC vF vB vLo c f hi vL vs m) (t : Tn g w w')
    (hg : w'.heap[g]? = some (.cells #[vP, .int .i64 c.M, .int .i64 c.A, vC, vF, .int .i64 c.mn, vB, .int .i64 f'.st, .int .i64 f'.pa, vLo', .int .i64 hi', .slice (some ⟨bM, 0, none⟩) c.B.length c.B.length, .slice (some ⟨bS, 0, none⟩) c.B.length c.B.length, vL] 71 (0, 0))) :
    Rs wB w' F g bM bS vP vC vF vB vLo' c f' hi' vL vs m ∧ Ch F F w w' :=
  ⟨{ at_ := hg, mt := own_keep h.mt fun k hk => t.blk k (own_type h.mt hk).2.1 (fun e => h.gM ((Option.some.inj hk).trans e).symm), st := own_keep h.st fun k hk => t.blk k (own_type h.st hk).2.1 (fun e => h.gS ((Option.some.inj hk).trans e).symm), lf := own_keep h.lf fun k hk => t.blk k (own_type h.lf hk).2.1 (fun e => h.gL (by rw [hk, e])), row := fun j s v h1 h3 => by
      obtain ⟨q1, q2, q3⟩ := h.row j s v h1 h3
      exact ⟨own_keep q1 fun k hk => t.blk k (own_type q1 hk).2.1 (fun e => q2 k hk (e ▸ h.fg)), q2, q3⟩, ml := h.ml, sl := h.sl, lb := h.lb, ln := h.ln, fg := h.fg, fM := h.fM, fS := h.fS, fL := h.fL, low := h.low, fb := fun k hk => Nat.lt_of_lt_of_le (h.fb k hk) t.size, bel := h.bel.trans (t.bel (h.low g h.fg) h.bel.size) },
   ⟨t.os, t.tape, t.output, t.size, fun k hk hF => t.blk k hk (fun e => hF (e ▸ h.fg)), fun _ hk => .inl hk⟩⟩
section
variable {wB w : World} {F : Nat → Prop} {g bM bS : Nat} {vP vC vF vB vLo vL : Value} {c : Cd} {f : Fn3} {hi : Int} {vs : List Value} {m : Rw16}
theorem Rs.entry4 (h : Rs wB w F g bM bS vP vC vF vB vLo c f hi vL vs m) (a b e : Int) (v : Value) (lo : List Int) :
    Rs wB ((((w.setCell ⟨g, 7, none⟩ (.int .i64 a)).setCell ⟨g, 8, none⟩ (.int .i64 b)).setCell ⟨g, 9, none⟩ v).setCell ⟨g, 10, none⟩ (.int .i64 e)) F g bM bS vP vC vF vB v c ⟨a, b, lo⟩ e vL vs m ∧ Ch F F w ((((w.setCell ⟨g, 7, none⟩ (.int .i64 a)).setCell ⟨g, 8, none⟩ (.int .i64 b)).setCell ⟨g, 9, none⟩ v).setCell ⟨g, 10, none⟩ (.int .i64 e)) := by
  obtain ⟨k1, t1⟩ := set1 h.at_ 7 (.int .i64 a)
  obtain ⟨k2, t2⟩ := set1 k1 8 (.int .i64 b)
  obtain ⟨k3, t3⟩ := set1 k2 9 v
  obtain ⟨k4, t4⟩ := set1 k3 10 (.int .i64 e)
  exact h.entry (t1.trans (t2.trans (t3.trans t4))) k4
theorem Rs.ends (h : Rs wB w F g bM bS vP vC vF vB vLo c f hi vL vs m) (e : Int) : Rs wB (w.setCell ⟨g, 10, none⟩ (.int .i64 e)) F g bM bS vP vC vF vB vLo c f e vL vs m ∧ Ch F F w (w.setCell ⟨g, 10, none⟩ (.int .i64 e)) := by
  obtain ⟨k1, t1⟩ := set1 h.at_ 10 (.int .i64 e)
  exact h.entry t1 k1
end
theorem fn_of {c : Cd} (h : formB c = true) {k : Nat} (hk : k < c.F.length) : 0 ≤ (c.F.getD k zF).st ∧ (c.F.getD k zF).st < c.B.length := by
  unfold formB at h
  simp only [Bool.and_eq_true, List.all_eq_true] at h
  have h1 := h.2.1.1.2 (c.F.getD k zF) (by rw [List.getD_eq_getElem?_getD, List.getElem?_eq_getElem hk]; exact List.getElem_mem hk)
  unfold fnB at h1
  simp only [Bool.and_eq_true] at h1
  obtain ⟨m, hm, hl⟩ := in_of h1.1
  rw [hm]
  omega
theorem body_of {c : Cd} (h : formB c = true) : ∀ x ∈ c.B, insB c x = true := by
  unfold formB at h
  simp only [Bool.and_eq_true, List.all_eq_true] at h
  exact h.2.2
theorem funcs_drop {c : Cd} {k : Nat} (hk : k < c.F.length) (m : Rw16) : funcsM c (c.F.drop k) m = (functionM c (c.F.getD k zF) (if k + 1 < c.F.length then (c.F.getD (k + 1) zF).st else (c.B.length : Int)) m).bind (funcsM c (c.F.drop (k + 1))) := by
  rw [List.drop_eq_getElem_cons hk]
  show (functionM c c.F[k] (endM c (c.F.drop (k + 1))) m).bind _ = _
  have e1 : c.F.getD k zF = c.F[k] := by rw [List.getD_eq_getElem?_getD, List.getElem?_eq_getElem hk]; rfl
  rw [e1]
  congr 1
  congr 1
  by_cases h : k + 1 < c.F.length
  · rw [if_pos h, List.drop_eq_getElem_cons h]
    show c.F[k + 1].st = _
    rw [List.getD_eq_getElem?_getD, List.getElem?_eq_getElem h]
    rfl
  · rw [if_neg h, List.drop_eq_nil_of_le (by omega)]
    rfl
theorem funcs_end (c : Cd) (m : Rw16) : funcsM c (c.F.drop c.F.length) m = some m := by rw [List.drop_length]; rfl
/-- what read answers -/
def ReadP (p : List Addr) (w : World) (c : Cd) (e : Ending) (w' : World) : Prop := Below w.heap.size w w' ∧ match readM c with
  | some st => ∃ v vs, e = .returned (.tuple #[v, .nilIface]) ∧ (st.length = c.B.length ∧ c.B.length ≤ 8192) ∧ w'.ownsRow 0 54 1 v st.length vs ∧ (∀ k, v.ownBlock = some k → w.heap.size ≤ k) ∧ ∀ (i : Nat) (s : List Int) (u : Value), st[i]? = some s → vs[i]? = some u → w'.ownsRow 0 3 1 u s.length (nts s) ∧ Fits s ∧ s.length ≤ 64
  | none => e = .returned (.tuple #[.slice none 0 0, errV p 8])
end Go.Proofs.YtlheflkdapckbaaDoor.Ck

/- Package proofread: what stops a reader is caught. -/
namespace Go.Proofs.YtlheflkdapckbaaDoor.Ck
open Go.RowKit

theorem catchR_idle (a b : Addr) (w : World) :
    CallsD Tryd.prog 25 #[.pointer (some a), .pointer (some b)] .returning w fun e u' w' => e = .returned (.tuple #[]) ∧ u' = .returning ∧ w' = w := by
  refine callsD_of_wpS Tryd.func25 rfl fun c₀ cs hu => ?_
  apply wpS_seq
  apply wpS_region
  simp [wpOpsS, go_sem, recoverD, hu, Tryd.ntmps25, Exit.thenS]
  apply wpS_seq
  refine wpS_of_wp ?_
  go_wp2_with fail
  refine wpS_cond (t := false) (by simp [Act.eval, Array.replicate]) ?_
  simp only [Bool.false_eq_true, if_false]
  refine wpS_of_wp (wp_skip ?_)
  cases c₀
  simp_all [bodyPostS, results, Tryd.results25]
theorem catchR_stop (a b : Nat) (v1 v0 : Value) (p : List Addr) (w : World) (hA : w.heap[a]? = some (.cells #[v1] 51 (0, 0))) (hB : w.heap[b]? = some (.cells #[v0] 32 (0, 0))) :
    CallsD Tryd.prog 25 #[.pointer (some ⟨a, 0, none⟩), .pointer (some ⟨b, 0, none⟩)] (.panicking [{ v := errV p 8, recovered := false }]) w fun e u' w' =>
      e = .returned (.tuple #[]) ∧ u' = .panicking [{ v := errV p 8, recovered := true }] ∧ w'.heap[a]? = some (.cells #[.slice none 0 0] 51 (0, 0)) ∧ w'.heap[b]? = some (.cells #[errV p 8] 32 (0, 0)) ∧ ∀ B, B ≤ a → B ≤ b → Below B w w' := by
  have g0 := blk_frz hA 0
  have d0 := blk_cell hA 0 _ rfl
  have f0 := blk_frz hB 0
  have c0 := blk_cell hB 0 _ rfl
  have hne : a ≠ b := fun e => by
    rw [e, hB] at hA
    have := Option.some.inj hA
    injection this with _ h2 _
    exact absurd h2 (by decide)
  have ha := assert_err p 8
  unfold errV at *
  refine callsD_of_wpS Tryd.func25 rfl fun c₀ cs hu => ?_
  apply wpS_seq
  apply wpS_region
  simp [wpOpsS, go_sem, recoverD, hu, Tryd.ntmps25, Exit.thenS]
  apply wpS_seq
  refine wpS_of_wp ?_
  go_wp2_with fail
  refine wpS_cond (t := true) (by simp [Act.eval, Array.replicate]) ?_
  simp only [if_true]
  refine wpS_of_wp ?_
  change Code.wp _ _ _ { tmps := #[.pointer (some ⟨a, 0, none⟩), .pointer (some ⟨b, 0, none⟩), .iface 116 (.pointer (some (adr p 8))), .iface 116 (.pointer (some (adr p 8))), .iface 116 (.pointer (some (adr p 8))), .bool true, undef, undef], defers := [] } _
  refine wp_region_T (S := fun _ => True) (fun _ => true) mixed trivial (fun hH => ?_)
  have g0 : w.drew.frozen? ⟨a, 0, none⟩ = false := g0
  have d0 : w.drew.cell? ⟨a, 0, none⟩ = some v1 := d0
  have hA' : w.drew.heap[a]? = some (.cells #[v1] 51 (0, 0)) := hA
  have hB' : w.drew.heap[b]? = some (.cells #[v0] 32 (0, 0)) := hB
  have BD : ∀ B, Below B w w.drew := fun B => bel_drawn (Below.refl _ _)
  clear hA hB f0 c0
  generalize w.drew = wd at *
  refine Tm 0 ?_
  simp only [Act.put, SA]
  refine T_move (i := 1) (v := ?_) rfl (by kernel_rfl) (by kernel_rfl) (by kernel_rfl) (fun _ _ _ h => h) (Or.inl ⟨by rfl, ?_⟩) ?_
  rotate_left 1
  · (intro w _; have q := ha w; go_simp <;> with_reducible rfl)
  simp only [Act.put, SA]
  refine Tr 2 (fun K1 hK1 => ?_)
  go_simp
  obtain ⟨k1, t1⟩ := set1 hA' 0 (.slice none 0 0)
  have hB2 := (t1.blk b (lt_of_blk hB') (Ne.symm hne)).trans hB'
  have c0 := blk_cell hB2 0 _ rfl
  have f0 := blk_frz hB2 0
  refine hK1.out _ _ (fun _ => trivial) (fun _ => ?_)
  clear hK1 K1 g0 d0
  refine Tr 3 (fun K1 hK1 => ?_)
  go_simp
  refine hK1.out _ _ (fun _ => trivial) (fun _ => ?_)
  clear hK1 K1
  refine T_done (by kernel_rfl) ?_ _
  obtain ⟨k2, t2⟩ := set1 hB2 0 (.iface 116 (.pointer (some (adr p 8))))
  have hla := lt_of_blk hA'
  have hlb := lt_of_blk hB2
  exact ⟨rfl, _, rfl, _, results_none rfl _ _ _, rfl, rfl, (t2.blk a (lt_of_blk k1) hne).trans k1, k2, fun B h1 h2 => (BD B).trans ((t1.bel h1 (by omega)).trans (t2.bel h2 (by omega)))⟩
theorem results_read {tmps : Array Value} {a b : Nat} {w : World} {v u : Value} (h2 : tmps.getD 2 undef = .pointer (some ⟨a, 0, none⟩)) (h3 : tmps.getD 3 undef = .pointer (some ⟨b, 0, none⟩)) (hA : w.heap[a]? = some (.cells #[v] 51 (0, 0))) (hB : w.heap[b]? = some (.cells #[u] 32 (0, 0))) :
    (results Tryd.f17 tmps).run Tryd.prog w = .ok (.tuple #[v, u]) w := by
  have h2' : tmps[2]?.getD undef = .pointer (some ⟨a, 0, none⟩) := by simpa using h2
  have h3' : tmps[3]?.getD undef = .pointer (some ⟨b, 0, none⟩) := by simpa using h3
  have c0 := blk_cell hA 0 _ rfl
  have d0 := blk_cell hB 0 _ rfl
  simp [results, Tryd.results17, h2', h3', go_sem, c0, d0]
theorem doorR_stop {R : Ending → World → Prop} {tmps : Array Value} {a b : Nat} {w : World} {v1 v0 : Value} {p : List Addr} (h2 : tmps.getD 2 undef = .pointer (some ⟨a, 0, none⟩)) (h3 : tmps.getD 3 undef = .pointer (some ⟨b, 0, none⟩)) (hA : w.heap[a]? = some (.cells #[v1] 51 (0, 0))) (hB : w.heap[b]? = some (.cells #[v0] 32 (0, 0)))
    (hR : ∀ w', (∀ B, B ≤ a → B ≤ b → Below B w w') → R (.returned (.tuple #[.slice none 0 0, errV p 8])) w') :
    Leaves Tryd.prog Tryd.f17 tmps R [{ target := .fn (.func 25) #[.pointer (some ⟨a, 0, none⟩), .pointer (some ⟨b, 0, none⟩)], args := #[] }] (.panicking [{ v := errV p 8, recovered := false }]) w := by
  refine leaves_cons (f := 25) (args := #[.pointer (some ⟨a, 0, none⟩), .pointer (some ⟨b, 0, none⟩)]) (by simp) (by simp [go_sem]) ?_
  refine (catchR_stop a b v1 v0 p w hA hB).mono ?_
  rintro e u' w' ⟨rfl, rfl, k1, k2, hb⟩
  exact ⟨_, results_read h2 h3 k1 k2, hR w' hb⟩
theorem doorR_end {R : Ending → World → Prop} {tmps : Array Value} {a b : Nat} {w : World} {v u : Value} (h2 : tmps.getD 2 undef = .pointer (some ⟨a, 0, none⟩)) (h3 : tmps.getD 3 undef = .pointer (some ⟨b, 0, none⟩)) (hA : w.heap[a]? = some (.cells #[v] 51 (0, 0))) (hB : w.heap[b]? = some (.cells #[u] 32 (0, 0)))
    (hR : R (.returned (.tuple #[v, u])) w) :
    Leaves Tryd.prog Tryd.f17 tmps R [{ target := .fn (.func 25) #[.pointer (some ⟨a, 0, none⟩), .pointer (some ⟨b, 0, none⟩)], args := #[] }] .returning w := by
  refine leaves_cons (f := 25) (args := #[.pointer (some ⟨a, 0, none⟩), .pointer (some ⟨b, 0, none⟩)]) (by simp) (by simp [go_sem]) ?_
  refine (catchR_idle _ _ w).mono ?_
  rintro e u' w' ⟨rfl, rfl, rfl⟩
  exact ⟨_, results_read h2 h3 hA hB, hR⟩
end Go.Proofs.YtlheflkdapckbaaDoor.Ck

/- Package proofread: read. -/
namespace Go.Proofs.YtlheflkdapckbaaDoor.Ck
open Go.RowKit

set_option maxRecDepth 20000 in
set_option maxHeartbeats 4000000 in
theorem read_any {w : World} {p : List Addr} {vP vC vF vB : Value} {c : Cd} (hc : Ec w p) (h : Cv w vP vC vF vB c) : Calls Tryd.prog 17 #[codeA vP vC vF vB c] w (ReadP p w c) := by
  obtain ⟨aB, cB, eB, _⟩ := h.B.form
  obtain ⟨aF, cF, eF, _⟩ := h.F.form
  subst eB eF
  have B0 := bel_new w (codeO vP vC (.slice aF c.F.length cF) (.slice aB c.B.length cB) c)
  have V0 := Go.Deep.blk_alloc_new w (codeO vP vC (.slice aF c.F.length cF) (.slice aB c.B.length cB) c)
  have z0 : (w.alloc (codeO vP vC (.slice aF c.F.length cF) (.slice aB c.B.length cB) c)).heap.size = w.heap.size + 1 := by simp
  obtain ⟨w1, hw1⟩ : ∃ x, x = w.alloc (codeO vP vC (.slice aF c.F.length cF) (.slice aB c.B.length cB) c) := ⟨_, rfl⟩
  rw [← hw1] at B0 V0 z0
  have B1 := bel_new w1 (.cells #[.slice none 0 0] 51)
  have V1 := Go.Deep.blk_alloc_new w1 (.cells #[.slice none 0 0] 51)
  have z1 : (w1.alloc (.cells #[.slice none 0 0] 51)).heap.size = w1.heap.size + 1 := by simp
  obtain ⟨w2, hw2⟩ : ∃ x, x = w1.alloc (.cells #[.slice none 0 0] 51) := ⟨_, rfl⟩
  rw [← hw2] at B1 V1 z1
  have B2 := bel_new w2 (.cells #[.nilIface] 32)
  have V2 := Go.Deep.blk_alloc_new w2 (.cells #[.nilIface] 32)
  have z2 : (w2.alloc (.cells #[.nilIface] 32)).heap.size = w2.heap.size + 1 := by simp
  obtain ⟨w3, hw3⟩ : ∃ x, x = w2.alloc (.cells #[.nilIface] 32) := ⟨_, rfl⟩
  rw [← hw3] at B2 V2 z2
  rw [z0] at V1 z1
  rw [z1] at V2 z2
  have BW : Below w.heap.size w w3 := bel_trans (bel_trans B0 B1) B2
  have K0 : w3.heap[w.heap.size]? = some (codeO vP vC (.slice aF c.F.length cF) (.slice aB c.B.length cB) c) := (B2.block _ (by omega)).trans ((B1.block _ (by omega)).trans V0)
  have K1 : w3.heap[w.heap.size + 1]? = some (.cells #[.slice none 0 0] 51 (0, 0)) := (B2.block _ (by omega)).trans V1
  have CK := hide (check_any (hc.bel BW) (h.bel BW))
  have HW := hide (And.intro hc h)
  have HBW := hide BW
  have HK := hide (And.intro K0 (And.intro K1 V2))
  have EW : Hid (((w.alloc (codeO vP vC (.slice aF c.F.length cF) (.slice aB c.B.length cB) c)).alloc (.cells #[.slice none 0 0] 51)).alloc (.cells #[.nilIface] 32) = w3) := hide (by rw [← hw1, ← hw2, ← hw3])
  have x0 : (((w.alloc (codeO vP vC (.slice aF c.F.length cF) (.slice aB c.B.length cB) c)).alloc (.cells #[.slice none 0 0] 51)).alloc (.cells #[.nilIface] 32)).heap[w.heap.size]? = some (codeO vP vC (.slice aF c.F.length cF) (.slice aB c.B.length cB) c) := by rw [EW.out]; exact K0
  obtain ⟨g0, g1, g2, g3, g4, g5, g6⟩ := cells7 x0
  unfold codeO at *
  unfold codeA at CK ⊢
  clear hc h B0 V0 z0 B1 V1 z1 B2 V2 z2 BW K0 K1 hw1 hw2 hw3 x0
  go_enter_defers Tryd.func17, Tryd.ntmps17
  go_wp2_with fail
  rw [EW.out]
  refine CK.out.mono ?_
  rintro e w4 ⟨rfl, b4⟩
  have B4 := hide (bel_trans HBW.out b4)
  obtain ⟨bz, hbz⟩ : ∃ b, b = w.heap.size := ⟨_, rfl⟩
  have HZ := hide hbz
  rw [← hbz] at HK ⊢
  have Q1 := (b4.block _ (lt_of_blk HK.out.2.1)).trans HK.out.2.1
  have Q2 := (b4.block _ (lt_of_blk HK.out.2.2)).trans HK.out.2.2
  have Q0 := (b4.block _ (lt_of_blk HK.out.1)).trans HK.out.1
  have q1 := blk_cell Q1 0 _ rfl
  have q2 := blk_cell Q2 0 _ rfl
  have r1 := blk_frz Q1 0
  have r2 := blk_frz Q2 0
  have HQ := hide (And.intro Q0 (And.intro Q1 Q2))
  clear g0 g1 g2 g3 g4 g5 g6 b4 CK HBW HK EW hbz Q0 Q1 Q2
  cases hf : formB c with
  | false =>
    have RM : Hid (readM c = none) := hide (by unfold readM; rw [hf]; rfl)
    rw [show erK p false = errV p 8 from rfl]
    unfold errV
    clear hf
    go_wp2_with fail
    obtain ⟨k1, t1⟩ := set1 HQ.out.2.1 0 (.slice none 0 0)
    obtain ⟨k2, t2⟩ := set1 ((t1.blk _ (lt_of_blk HQ.out.2.2) (by omega)).trans HQ.out.2.2) 0 (.iface 116 (.pointer (some (adr p 8))))
    refine ⟨_, results_read rfl rfl ((t2.blk _ (lt_of_blk k1) (by omega)).trans k1) k2, ?_⟩
    have l1 := lt_of_blk HQ.out.2.1
    have l2 := lt_of_blk HQ.out.2.2
    have hz := HZ.out
    refine ⟨B4.out.trans ((t1.bel (by omega) (by omega)).trans (t2.bel (by omega) (Nat.le_trans (by omega) t1.size))), ?_⟩
    rw [RM.out]
  | true =>
    have HF := hide hf
    rw [show erK p true = .nilIface from rfl]
    clear hf
    have NB : Hid (c.B.length ≤ 8192) := hide (by have h1 := HF.out; unfold formB at h1; simp only [Bool.and_eq_true, decide_eq_true_eq] at h1; exact h1.1.1.2)
    go_upto_region 5 with fail
    go_cut [5] from 14 to 24 (fun x5 wc => ∃ g bM bS, x5 = .pointer (some ⟨g, 0, none⟩) ∧ Hid (Rs w4 wc (fun k => k = g ∨ k = bM ∨ k = bS) g bM bS vP vC (.slice aF c.F.length cF) (.slice aB c.B.length cB) (.slice none 0 0) c ⟨0, 0, []⟩ 0 (.slice none 0 0) (List.replicate c.B.length (.slice none 0 0)) (beginM c) ∧ Below w4.heap.size w4 wc))
    case first =>
      obtain ⟨N, hN⟩ : ∃ N, N = c.B.length := ⟨_, rfl⟩
      have HN := hide hN
      have QD : w4.drew.heap[bz]? = some (.cells #[vP, .int .i64 c.M, .int .i64 c.A, vC, .slice aF c.F.length cF, .int .i64 c.mn, .slice aB N cB] 27) := by rw [hN]; exact HQ.out.1
      have MB := run_mkB N (by have := NB.out; omega)
      have MS := run_mkS N (by have := NB.out; omega)
      rw [← hN]
      clear hN
      have BD := hide (show Below w4.heap.size w4 w4.drew from bel_drawn (Below.refl _ _))
      refine wp_region_noPanic ?_
      refine wp_region_T (S := fun wz => wz.heap[bz]? = some (.cells #[vP, .int .i64 c.M, .int .i64 c.A, vC, .slice aF c.F.length cF, .int .i64 c.mn, .slice aB N cB] 27)) (fun _ => true) mixed QD (fun hH => ?_)
      have LD : Hid (w4.heap.size ≤ w4.drew.heap.size) := hide BD.out.size
      clear QD q1 q2 r1 r2
      generalize w4.drew = wd at *
      refine Tl 0 (v := ?_) ?_ hH ?_
      rotate_left 1
      · (intro w hSw; have hq := hSw; obtain ⟨l0, l1, l2, l3, l4, l5, l6⟩ := cells7 hq; clear hSw hq; go_simp <;> with_reducible rfl)
      simp only [Act.put, SA]
      refine Tm 1 ?_
      simp only [Act.put, SA]
      refine Tl 2 (v := ?_) ?_ hH ?_
      rotate_left 1
      · (intro w hSw; have hq := hSw; obtain ⟨l0, l1, l2, l3, l4, l5, l6⟩ := cells7 hq; clear hSw hq; go_simp <;> with_reducible rfl)
      simp only [Act.put, SA]
      refine Tm 3 ?_
      simp only [Act.put, SA]
      refine Tm 5 ?_
      simp only [Act.put, SA]
      refine Tl 6 (v := ?_) ?_ hH ?_
      rotate_left 1
      · (intro w hSw; have hq := hSw; obtain ⟨l0, l1, l2, l3, l4, l5, l6⟩ := cells7 hq; clear hSw hq; go_simp <;> with_reducible rfl)
      simp only [Act.put, SA]
      refine Tm 7 ?_
      simp only [Act.put, SA]
      refine T_ready (rs := [4, 8]) (by kernel_rfl) (by decide) ?_
      refine AllReadyT.cons rfl (fun K1 hK1 => ?_) (AllReadyT.cons rfl (fun K1 hK1 => ?_) AllReadyT.nil)
      · go_simp
        have BA := hide (bel_new wd (.cells (madeCells #[.bool false] N) 4))
        have OA := hide (madeRow wd (.bool false) N 4 (by have := NB.out; have := HN.out; omega))
        have SA5 := hide ((BA.out.block bz (lt_of_blk hH)).trans hH)
        refine hK1.out _ _ (fun _ => SA5.out) (fun _ => ?_)
        clear hK1 K1 hH
        generalize wd.alloc (.cells (madeCells #[.bool false] N) 4) = w5 at *
        have LA := hide (show w4.heap.size ≤ wd.heap.size from LD.out)
        have LX := hide (show wd.heap.size < w5.heap.size from (own_type OA.out (k := wd.heap.size) rfl).2.1)
        generalize hna : wd.heap.size = bM at OA LA LX ⊢
        refine Tr 8 (fun K1 hK1 => ?_)
        go_simp
        have BB := hide (bel_new w5 (.cells (madeCells #[.slice none 0 0] N) 54))
        have OB := hide (madeRow w5 (.slice none 0 0) N 54 (by have := NB.out; have := HN.out; omega))
        have OA2 := hide (own_keep (w' := w5.alloc (.cells (madeCells #[.slice none 0 0] N) 54)) OA.out (fun k hk => BB.out.block k (own_type OA.out hk).2.1))
        have SB := hide ((BB.out.block bz (lt_of_blk SA5.out)).trans SA5.out)
        have LB := hide (show w4.heap.size ≤ w5.heap.size from Nat.le_trans LA.out (Nat.le_of_lt LX.out))
        refine hK1.out _ _ (fun _ => SB.out) (fun _ => ?_)
        clear hK1 K1 OA SA5
        generalize w5.alloc (.cells (madeCells #[.slice none 0 0] N) 54) = w6 at *
        generalize hnb : w5.heap.size = bS at OB LB ⊢
        refine Tm 9 ?_
        simp only [Act.put, SA]
        refine Tr 10 (fun K1 hK1 => ?_)
        go_simp
        have BC := hide (bel_new w6 (.cells #[vP, .int .i64 c.M, .int .i64 c.A, vC, .slice aF c.F.length cF, .int .i64 c.mn, .slice aB N cB, .int .i64 0, .int .i64 0, .slice none 0 0, .int .i64 0, .slice (some ⟨bM, 0, none⟩) N N, .slice (some ⟨bS, 0, none⟩) N N, .slice none 0 0] 71))
        have VC := hide (Go.Deep.blk_alloc_new w6 (.cells #[vP, .int .i64 c.M, .int .i64 c.A, vC, .slice aF c.F.length cF, .int .i64 c.mn, .slice aB N cB, .int .i64 0, .int .i64 0, .slice none 0 0, .int .i64 0, .slice (some ⟨bM, 0, none⟩) N N, .slice (some ⟨bS, 0, none⟩) N N, .slice none 0 0] 71))
        have L6 := hide (show w4.heap.size ≤ w6.heap.size from Nat.le_trans LB.out (Nat.le_of_lt (own_type OB.out (k := bS) rfl).2.1))
        have BX := hide (show Below wd.heap.size wd w6 from BA.out.trans (BB.out.mono BA.out.size))
        have BY := hide (show Below w4.heap.size w4 (w6.alloc (.cells #[vP, .int .i64 c.M, .int .i64 c.A, vC, .slice aF c.F.length cF, .int .i64 c.mn, .slice aB N cB, .int .i64 0, .int .i64 0, .slice none 0 0, .int .i64 0, .slice (some ⟨bM, 0, none⟩) N N, .slice (some ⟨bS, 0, none⟩) N N, .slice none 0 0] 71)) from BD.out.trans ((BX.out.mono BD.out.size).trans (BC.out.mono (Nat.le_trans BD.out.size BX.out.size))))
        have RR := hide (Rs.start (wB := w4) (w := w6.alloc (.cells #[vP, .int .i64 c.M, .int .i64 c.A, vC, .slice aF c.F.length cF, .int .i64 c.mn, .slice aB N cB, .int .i64 0, .int .i64 0, .slice none 0 0, .int .i64 0, .slice (some ⟨bM, 0, none⟩) N N, .slice (some ⟨bS, 0, none⟩) N N, .slice none 0 0] 71)) (g := w6.heap.size) (bM := bM) (bS := bS) (vP := vP) (vC := vC) (vF := .slice aF c.F.length cF) (vB := .slice aB c.B.length cB) (c := c) BY.out (by rw [← HN.out]; exact VC.out) (by rw [← HN.out]; exact own_keep OA2.out (fun k hk => BC.out.block k (own_type OA2.out hk).2.1)) (by rw [← HN.out]; exact own_keep OB.out (fun k hk => BC.out.block k (own_type OB.out hk).2.1)) L6.out LA.out LB.out)
        refine hK1.out _ _ (fun _ => (BC.out.block bz (lt_of_blk SB.out)).trans SB.out) (fun _ => ?_)
        clear hK1 K1
        refine Tm 11 ?_
        simp only [Act.put, SA]
        refine T_done (by kernel_rfl) ?_ _
        refine NoPanic.normal ?_
        have hN2 := HN.out
        subst hN2
        go_wp2_with fail
        go_meet
        case rel => exact ⟨_, bM, bS, rfl, hide ⟨RR.out, BY.out⟩⟩
      · go_simp
        have BA := hide (bel_new wd (.cells (madeCells #[.slice none 0 0] N) 54))
        have OA := hide (madeRow wd (.slice none 0 0) N 54 (by have := NB.out; have := HN.out; omega))
        have SA5 := hide ((BA.out.block bz (lt_of_blk hH)).trans hH)
        refine hK1.out _ _ (fun _ => SA5.out) (fun _ => ?_)
        clear hK1 K1 hH
        generalize wd.alloc (.cells (madeCells #[.slice none 0 0] N) 54) = w5 at *
        have LA := hide (show w4.heap.size ≤ wd.heap.size from LD.out)
        have LX := hide (show wd.heap.size < w5.heap.size from (own_type OA.out (k := wd.heap.size) rfl).2.1)
        generalize hna : wd.heap.size = bS at OA LA LX ⊢
        refine Tr 4 (fun K1 hK1 => ?_)
        go_simp
        have BB := hide (bel_new w5 (.cells (madeCells #[.bool false] N) 4))
        have OB := hide (madeRow w5 (.bool false) N 4 (by have := NB.out; have := HN.out; omega))
        have OA2 := hide (own_keep (w' := w5.alloc (.cells (madeCells #[.bool false] N) 4)) OA.out (fun k hk => BB.out.block k (own_type OA.out hk).2.1))
        have SB := hide ((BB.out.block bz (lt_of_blk SA5.out)).trans SA5.out)
        have LB := hide (show w4.heap.size ≤ w5.heap.size from Nat.le_trans LA.out (Nat.le_of_lt LX.out))
        refine hK1.out _ _ (fun _ => SB.out) (fun _ => ?_)
        clear hK1 K1 OA SA5
        generalize w5.alloc (.cells (madeCells #[.bool false] N) 4) = w6 at *
        generalize hnb : w5.heap.size = bM at OB LB ⊢
        refine Tm 9 ?_
        simp only [Act.put, SA]
        refine Tr 10 (fun K1 hK1 => ?_)
        go_simp
        have BC := hide (bel_new w6 (.cells #[vP, .int .i64 c.M, .int .i64 c.A, vC, .slice aF c.F.length cF, .int .i64 c.mn, .slice aB N cB, .int .i64 0, .int .i64 0, .slice none 0 0, .int .i64 0, .slice (some ⟨bM, 0, none⟩) N N, .slice (some ⟨bS, 0, none⟩) N N, .slice none 0 0] 71))
        have VC := hide (Go.Deep.blk_alloc_new w6 (.cells #[vP, .int .i64 c.M, .int .i64 c.A, vC, .slice aF c.F.length cF, .int .i64 c.mn, .slice aB N cB, .int .i64 0, .int .i64 0, .slice none 0 0, .int .i64 0, .slice (some ⟨bM, 0, none⟩) N N, .slice (some ⟨bS, 0, none⟩) N N, .slice none 0 0] 71))
        have L6 := hide (show w4.heap.size ≤ w6.heap.size from Nat.le_trans LB.out (Nat.le_of_lt (own_type OB.out (k := bM) rfl).2.1))
        have BX := hide (show Below wd.heap.size wd w6 from BA.out.trans (BB.out.mono BA.out.size))
        have BY := hide (show Below w4.heap.size w4 (w6.alloc (.cells #[vP, .int .i64 c.M, .int .i64 c.A, vC, .slice aF c.F.length cF, .int .i64 c.mn, .slice aB N cB, .int .i64 0, .int .i64 0, .slice none 0 0, .int .i64 0, .slice (some ⟨bM, 0, none⟩) N N, .slice (some ⟨bS, 0, none⟩) N N, .slice none 0 0] 71)) from BD.out.trans ((BX.out.mono BD.out.size).trans (BC.out.mono (Nat.le_trans BD.out.size BX.out.size))))
        have RR := hide (Rs.start (wB := w4) (w := w6.alloc (.cells #[vP, .int .i64 c.M, .int .i64 c.A, vC, .slice aF c.F.length cF, .int .i64 c.mn, .slice aB N cB, .int .i64 0, .int .i64 0, .slice none 0 0, .int .i64 0, .slice (some ⟨bM, 0, none⟩) N N, .slice (some ⟨bS, 0, none⟩) N N, .slice none 0 0] 71)) (g := w6.heap.size) (bM := bM) (bS := bS) (vP := vP) (vC := vC) (vF := .slice aF c.F.length cF) (vB := .slice aB c.B.length cB) (c := c) BY.out (by rw [← HN.out]; exact VC.out) (by rw [← HN.out]; exact own_keep OB.out (fun k hk => BC.out.block k (own_type OB.out hk).2.1)) (by rw [← HN.out]; exact own_keep OA2.out (fun k hk => BC.out.block k (own_type OA2.out hk).2.1)) L6.out LB.out LA.out)
        refine hK1.out _ _ (fun _ => (BC.out.block bz (lt_of_blk SB.out)).trans SB.out) (fun _ => ?_)
        clear hK1 K1
        refine Tm 11 ?_
        simp only [Act.put, SA]
        refine T_done (by kernel_rfl) ?_ _
        refine NoPanic.normal ?_
        have hN2 := HN.out
        subst hN2
        go_wp2_with fail
        go_meet
        case rel => exact ⟨_, bM, bS, rfl, hide ⟨RR.out, BY.out⟩⟩
    case rest =>
      obtain ⟨g, bM, bS, rfl, Z0⟩ := hcut
      obtain ⟨o, ho⟩ : ∃ o, funcsM c c.F (beginM c) = o := ⟨_, rfl⟩
      have RM : Hid (readM c = o.map Rw16.st) := hide (by unfold readM; rw [if_pos HF.out, ho])
      have I0 : Hid (∃ F vLo f hi vL vs m, Rs w4 wc F g bM bS vP vC (.slice aF c.F.length cF) (.slice aB c.B.length cB) vLo c f hi vL vs m ∧ Below w4.heap.size w4 wc ∧ funcsM c (c.F.drop 0) m = o) := hide ⟨_, _, _, _, _, _, _, Z0.out.1, Z0.out.2, by rw [List.drop_zero]; exact ho⟩
      clear ho q1 q2 r1 r2
      have E0 := HQ.out.1
      have E1 := (Z0.out.2.block bz (lt_of_blk E0)).trans E0
      have w4' := blk_cell E1 4 _ rfl
      clear E0 E1 Z0
      have HW4 := hide (And.intro (HW.out.1.bel B4.out) (HW.out.2.bel B4.out))
      have FL : Hid (c.F.length ≤ 16) := hide (by have h1 := HF.out; unfold formB at h1; simp only [Bool.and_eq_true, decide_eq_true_eq] at h1; exact h1.1.1.1.2)
      go_wp2_with fail
      clear w4'
      go_loopw [6, 7, 28] (fun x6 x7 x28 wr => ∃ k : Nat, k ≤ c.F.length ∧ x28 = .int .i64 k ∧ Hid (∃ F vLo f hi vL vs m, Rs w4 wr F g bM bS vP vC (.slice aF c.F.length cF) (.slice aB c.B.length cB) vLo c f hi vL vs m ∧ Below w4.heap.size w4 wr ∧ funcsM c (c.F.drop k) m = o)) (fun x6 x7 x28 _ => c.F.length - (intOf x28).toNat)
      case atStart => exact ⟨0, Nat.zero_le _, rfl, I0⟩
      case round =>
        obtain ⟨k, hk, rfl, HI⟩ := hrel
        obtain ⟨F, vLo, f, hi, vL, vs, m, rs, be, fe⟩ := HI.out
        have R := hide rs
        have BE := hide be
        have FE := hide fe
        clear HI I0 rs be fe
        by_cases hlt : k < c.F.length
        · have hlt' : (k : Int) < (c.F.length : Int) := by omega
          have HMS : Hid (k + 1 ≤ c.F.length ∧ c.F.length - (k + 1) < c.F.length - k) := hide ⟨hlt, by omega⟩
          obtain ⟨_, _, e9, _, _, h9⟩ := HW4.out.2.F
          obtain ⟨bF, oF, vl, e8, hbF, q0, q1, q2, sl⟩ := h9 k hlt
          cases e9
          subst e8
          obtain ⟨aL, cL, eL, _⟩ := sl.form
          subst eL
          have z0 := (BE.out.cell (p := ⟨bF, oF + k * 3, none⟩) hbF).trans q0
          have z1 := (BE.out.cell (p := ⟨bF, oF + k * 3 + 1, none⟩) hbF).trans q1
          have z2 := (BE.out.cell (p := ⟨bF, oF + k * 3 + 2, none⟩) hbF).trans q2
          have SLW := hide sl
          have HKL := hide hlt
          have HNX : Hid (∀ hn : k + 1 < c.F.length, ∀ wz, Below w4.heap.size w4 wz → wz.cell? ⟨bF, oF + (k + 1) * 3, none⟩ = some (.int .i64 (c.F.getD (k + 1) zF).st)) := hide (fun hn wz hb => by obtain ⟨b2, o2, _, e2, hb2, p0, _⟩ := h9 (k + 1) hn; cases e2; exact (hb.cell (p := ⟨bF, oF + (k + 1) * 3, none⟩) hb2).trans p0)
          clear hbF q0 q1 q2 sl h9
          generalize hff : c.F.getD k zF = ff at *
          obtain ⟨st, pa, lo⟩ := ff
          simp only at z0 z1 z2 SLW
          have HFF := hide hff
          have HST : Hid (0 ≤ st) := hide (by have h1 := (fn_of HF.out HKL.out).1; rw [HFF.out] at h1; exact h1)
          clear hff
          have BN := hide (bel_new wr (.cells #[.int .i64 st, .int .i64 pa, .slice aL lo.length cL] 46))
          have VN := hide (Go.Deep.blk_alloc_new wr (.cells #[.int .i64 st, .int .i64 pa, .slice aL lo.length cL] 46))
          have RN := hide (R.out.keep BN.out)
          have BE2 := hide (BE.out.trans (BN.out.mono BE.out.size))
          have NE7 := hide (show wr.heap.size ≠ g from fun e => by have := R.out.fb g R.out.fg; omega)
          have NEZ := hide (show bz ≠ g from fun e => by have h1 := R.out.low g R.out.fg; have h2 := lt_of_blk HQ.out.1; omega)
          go_wp2_with fail
          have QZ : Hid ((wr.alloc (.cells #[.int .i64 st, .int .i64 pa, .slice aL lo.length cL] 46)).heap[bz]? = some (.cells #[vP, .int .i64 c.M, .int .i64 c.A, vC, .slice (some ⟨bF, oF, none⟩) c.F.length cF, .int .i64 c.mn, .slice aB c.B.length cB] 27)) := hide ((BE2.out.block bz (lt_of_blk HQ.out.1)).trans HQ.out.1)
          generalize wr.alloc (.cells #[.int .i64 st, .int .i64 pa, .slice aL lo.length cL] 46) = w5 at *
          obtain ⟨b7, hb7⟩ : ∃ b, b = wr.heap.size := ⟨_, rfl⟩
          rw [← hb7] at VN NE7 ⊢
          clear hb7 z0 z1 z2
          have BD := hide (show Below w5.heap.size w5 w5.drew from bel_drawn (Below.refl _ _))
          have RD := hide (RN.out.keep BD.out)
          have BE3 := hide (BE2.out.trans (BD.out.mono BE2.out.size))
          refine wp_region_noPanic ?_
          refine wp_region_T (S := fun wz => wz.heap[b7]? = some (.cells #[.int .i64 st, .int .i64 pa, .slice aL lo.length cL] 46 (0, 0)) ∧ wz.heap[bz]? = some (.cells #[vP, .int .i64 c.M, .int .i64 c.A, vC, .slice (some ⟨bF, oF, none⟩) c.F.length cF, .int .i64 c.mn, .slice aB c.B.length cB] 27 (0, 0))) (fun _ => true) mixed ⟨VN.out, QZ.out⟩ (fun hH => ?_)
          clear R RN BE BE2 BN VN QZ BD
          generalize w5.drew = wd at *
          have x7 := blk_cell RD.out.at_ 7 _ rfl
          have x8 := blk_cell RD.out.at_ 8 _ rfl
          have x9 := blk_cell RD.out.at_ 9 _ rfl
          have f7 := blk_frz RD.out.at_ 7
          have f8 := blk_frz RD.out.at_ 8
          have f9 := blk_frz RD.out.at_ 9
          refine Tm 0 ?_
          simp only [Act.put, SA]
          refine Tm 1 ?_
          simp only [Act.put, SA]
          refine Tl 2 (v := ?_) ?_ hH ?_
          rotate_left 1
          · (intro w hSw; have u0 := blk_cell hSw.1 0 _ rfl; have u1 := blk_cell hSw.1 1 _ rfl; have u2 := blk_cell hSw.1 2 _ rfl; clear hSw; go_simp <;> with_reducible rfl)
          simp only [Act.put, SA]
          refine Tm 3 ?_
          simp only [Act.put, SA]
          refine Tl 4 (v := ?_) ?_ hH ?_
          rotate_left 1
          · (intro w hSw; have u6 := blk_cell hSw.2 6 _ rfl; clear hSw; go_simp <;> with_reducible rfl)
          simp only [Act.put, SA]
          refine Tm 5 ?_
          simp only [Act.put, SA]
          refine Tm 6 ?_
          simp only [Act.put, SA]
          refine Tm 7 ?_
          simp only [Act.put, SA]
          refine Tr 8 (fun K1 hK1 => ?_)
          go_simp
          obtain ⟨k1, t1⟩ := set1 RD.out.at_ 7 (.int .i64 st)
          obtain ⟨k2, t2⟩ := set1 k1 8 (.int .i64 pa)
          obtain ⟨k3, t3⟩ := set1 k2 9 (.slice aL lo.length cL)
          have T3 := hide (t1.trans (t2.trans t3))
          have K3 := hide k3
          refine hK1.out _ _ (fun _ => ⟨(T3.out.blk _ (lt_of_blk hH.1) NE7.out).trans hH.1, (T3.out.blk _ (lt_of_blk hH.2) NEZ.out).trans hH.2⟩) (fun hH2f => ?_)
          have hH2 := hH2f rfl
          clear hH2f
          clear hK1 K1 k1 k2 k3 t1 t2 t3
          have x10 := blk_cell K3.out 10 _ rfl
          have f10 := blk_frz K3.out 10
          refine Tm 9 ?_
          simp only [Act.put, SA]
          refine Tm 10 ?_
          simp only [Act.put, SA]
          refine Tr 11 (fun K1 hK1 => ?_)
          go_simp
          have T4 := hide (set1 K3.out 10 (.int .i64 (c.B.length : Nat))).2
          refine hK1.out _ _ (fun _ => ⟨(T4.out.blk _ (lt_of_blk hH2.1) NE7.out).trans hH2.1, (T4.out.blk _ (lt_of_blk hH2.2) NEZ.out).trans hH2.2⟩) (fun _ => ?_)
          clear hK1 K1 hH hH2 x10 f10 T3 T4 K3
          have E4 := hide (RD.out.entry4 st pa (c.B.length : Int) (.slice aL lo.length cL) lo)
          clear x7 x8 x9 f7 f8 f9
          refine T_done (by kernel_rfl) ?_ _
          refine NoPanic.normal ?_
          generalize (((wd.setCell ⟨g, 7, none⟩ (.int .i64 st)).setCell ⟨g, 8, none⟩ (.int .i64 pa)).setCell ⟨g, 9, none⟩ (.slice aL lo.length cL)).setCell ⟨g, 10, none⟩ (.int .i64 (c.B.length : Nat)) = w6 at *
          have R6 := hide E4.out.1
          have B6 := hide (BE3.out.trans (E4.out.2.bel RD.out.low RD.out.bel.size))
          clear E4 RD BE3
          have Q6 := (B6.out.block bz (lt_of_blk HQ.out.1)).trans HQ.out.1
          have u4 := blk_cell Q6 4 _ rfl
          have hw1 : wrap64 ((k : Int) + 1) = ((k + 1 : Nat) : Int) := by unfold wrap64; have := FL.out; omega
          have HW1 := hide hw1
          by_cases hnx : k + 1 < c.F.length
          · have hnx' : ((k + 1 : Nat) : Int) < (c.F.length : Int) := by omega
            have v0 := HNX.out hnx w6 B6.out
            have x10 := blk_cell R6.out.at_ 10 _ rfl
            have f10 := blk_frz R6.out.at_ 10
            have E5 := hide (R6.out.ends (c.F.getD (k + 1) zF).st)
            have HE : Hid ((if k + 1 < c.F.length then (c.F.getD (k + 1) zF).st else (c.B.length : Int)) = (c.F.getD (k + 1) zF).st) := hide (if_pos hnx)
            have HL := hide (fn_of HF.out hnx)
            generalize hsx : (c.F.getD (k + 1) zF).st = sx at v0 E5 HL ⊢
            have HE2 : Hid ((if k + 1 < c.F.length then (c.F.getD (k + 1) zF).st else (c.B.length : Int)) = sx) := hide (HE.out.trans hsx)
            clear hsx HE
            have HE := HE2
            clear HE2
            go_wp2_with fail
            generalize w6.setCell ⟨g, 10, none⟩ (.int .i64 sx) = w7 at *
            have R7 := hide E5.out.1
            have B7 := hide (B6.out.trans (E5.out.2.bel R6.out.low R6.out.bel.size))
            clear E5 R6 B6 Q6 u4 v0 x10 f10 hnx
            have FU := hide (function_any ⟨HW4.out.1, HW4.out.2, SLW.out, NB.out, fm_of HF.out, HST.out⟩ R7.out (Int.le_of_lt HL.out.2) (body_of HF.out))
            go_wp2_with fail
            refine FU.out.mono ?_
            intro e w8 hp
            have LOW := hide R7.out.low
            have SZ7 := hide R7.out.bel.size
            rcases hp.both with ⟨m8, F8, vL8, vs8, ho8, rfl, r8, c8⟩ | ⟨ho8, rfl, c8⟩
            rotate_left 1
            · have b8 := B7.out.trans (c8.bel LOW.out SZ7.out)
              have A1 := (b8.block _ (lt_of_blk HQ.out.2.1)).trans HQ.out.2.1
              have A2 := (b8.block _ (lt_of_blk HQ.out.2.2)).trans HQ.out.2.2
              refine doorR_stop rfl rfl A1 A2 (fun w' hB => ?_)
              have l1 := lt_of_blk HQ.out.2.1
              have hz := HZ.out
              refine ⟨(B4.out.trans (b8.mono B4.out.size)).trans (hB _ (by omega) (by omega)), ?_⟩
              rw [RM.out, ← FE.out, funcs_drop HKL.out, HFF.out, HE.out, ho8]
              rfl
            have Z := hide (show ∃ F vLo f hi vL vs m, Rs w4 w8 F g bM bS vP vC (.slice (some ⟨bF, oF, none⟩) c.F.length cF) (.slice aB c.B.length cB) vLo c f hi vL vs m ∧ Below w4.heap.size w4 w8 ∧ funcsM c (c.F.drop (k + 1)) m = o from ⟨F8, _, _, _, vL8, vs8, m8, r8, B7.out.trans (c8.bel LOW.out SZ7.out), by rw [← FE.out, funcs_drop HKL.out, HFF.out, HE.out, ho8]; rfl⟩)
            clear hp ho8 r8 c8 FU R7 B7 LOW SZ7
            go_wp2_with fail
            go_roundw
            case rel => exact ⟨k + 1, HMS.out.1, by rw [HW1.out], Z⟩
            case measure => rw [HW1.out]; exact HMS.out.2
          · have hnx' : ¬ ((k + 1 : Nat) : Int) < (c.F.length : Int) := by omega
            have HE : Hid ((if k + 1 < c.F.length then (c.F.getD (k + 1) zF).st else (c.B.length : Int)) = (c.B.length : Int)) := hide (if_neg hnx)
            have R7 := hide R6.out
            have B7 := hide B6.out
            clear R6 B6 Q6 hnx
            have FU := hide (function_any ⟨HW4.out.1, HW4.out.2, SLW.out, NB.out, fm_of HF.out, HST.out⟩ R7.out (Int.le_refl _) (body_of HF.out))
            go_wp2_with fail
            refine FU.out.mono ?_
            intro e w8 hp
            have LOW := hide R7.out.low
            have SZ7 := hide R7.out.bel.size
            rcases hp.both with ⟨m8, F8, vL8, vs8, ho8, rfl, r8, c8⟩ | ⟨ho8, rfl, c8⟩
            rotate_left 1
            · have b8 := B7.out.trans (c8.bel LOW.out SZ7.out)
              have A1 := (b8.block _ (lt_of_blk HQ.out.2.1)).trans HQ.out.2.1
              have A2 := (b8.block _ (lt_of_blk HQ.out.2.2)).trans HQ.out.2.2
              refine doorR_stop rfl rfl A1 A2 (fun w' hB => ?_)
              have l1 := lt_of_blk HQ.out.2.1
              have hz := HZ.out
              refine ⟨(B4.out.trans (b8.mono B4.out.size)).trans (hB _ (by omega) (by omega)), ?_⟩
              rw [RM.out, ← FE.out, funcs_drop HKL.out, HFF.out, HE.out, ho8]
              rfl
            have Z := hide (show ∃ F vLo f hi vL vs m, Rs w4 w8 F g bM bS vP vC (.slice (some ⟨bF, oF, none⟩) c.F.length cF) (.slice aB c.B.length cB) vLo c f hi vL vs m ∧ Below w4.heap.size w4 w8 ∧ funcsM c (c.F.drop (k + 1)) m = o from ⟨F8, _, _, _, vL8, vs8, m8, r8, B7.out.trans (c8.bel LOW.out SZ7.out), by rw [← FE.out, funcs_drop HKL.out, HFF.out, HE.out, ho8]; rfl⟩)
            clear hp ho8 r8 c8 FU R7 B7 LOW SZ7
            go_wp2_with fail
            go_roundw
            case rel => exact ⟨k + 1, HMS.out.1, by rw [HW1.out], Z⟩
            case measure => rw [HW1.out]; exact HMS.out.2
        · have hge : k = c.F.length := by omega
          subst hge
          have EO2 : Hid (o = some m) := hide (by rw [← FE.out]; exact funcs_end c m)
          have y12 : wr.cell? ⟨g, 12, none⟩ = some (.slice (some ⟨bS, 0, none⟩) c.B.length c.B.length) := blk_cell R.out.at_ 12 _ rfl
          have A1 := (BE.out.block _ (lt_of_blk HQ.out.2.1)).trans HQ.out.2.1
          have A2 := (BE.out.block _ (lt_of_blk HQ.out.2.2)).trans HQ.out.2.2
          have s1 := blk_cell A1 0 _ rfl
          have s2 := blk_cell A2 0 _ rfl
          have t1 := blk_frz A1 0
          have t2 := blk_frz A2 0
          have HA := hide (And.intro A1 A2)
          clear A1 A2
          go_wp2_with fail
          obtain ⟨k1, u1⟩ := set1 HA.out.1 0 (.slice (some ⟨bS, 0, none⟩) c.B.length c.B.length)
          obtain ⟨k2, u2⟩ := set1 ((u1.blk _ (lt_of_blk HA.out.2) (by omega)).trans HA.out.2) 0 .nilIface
          refine doorR_end rfl rfl ((u2.blk _ (lt_of_blk k1) (by omega)).trans k1) k2 ?_
          have l1 := lt_of_blk HQ.out.2.1
          have l2 := lt_of_blk HQ.out.2.2
          have hz := HZ.out
          have hs4 := BE.out.size
          have hs0 := B4.out.size
          have hne : ∀ k, w4.heap.size ≤ k → k < wr.heap.size → ((wr.setCell ⟨bz + 1, 0, none⟩ (.slice (some ⟨bS, 0, none⟩) c.B.length c.B.length)).setCell ⟨bz + 1 + 1, 0, none⟩ .nilIface).heap[k]? = wr.heap[k]? := fun k h1 h2 => (u2.blk k (Nat.lt_of_lt_of_le h2 u1.size) (by omega)).trans (u1.blk k h2 (by omega))
          refine ⟨B4.out.trans ((BE.out.mono hs0).trans ((u1.bel (by omega) (by omega)).trans (u2.bel (by omega) (Nat.le_trans (by omega) u1.size)))), ?_⟩
          rw [RM.out, EO2.out]
          refine ⟨_, vs, rfl, ⟨R.out.sl, NB.out⟩, ?_, fun k hk => ?_, fun i s u hs hu => ?_⟩
          · have h1 := R.out.st
            have e1 : m.st.length = c.B.length := R.out.sl
            show World.ownsRow _ 0 _ 1 _ m.st.length vs
            rw [e1]
            exact own_keep h1 fun k hk => hne k (R.out.low k (by have := Option.some.inj hk; rw [← this]; exact R.out.fS)) (own_type h1 hk).2.1
          · have e2 : bS = k := Option.some.inj hk
            have h1 := R.out.low bS R.out.fS
            omega
          · obtain ⟨h1, h2, h3, h4⟩ := R.out.row i s u hs hu
            exact ⟨own_keep h1 fun k hk => (u2.blk k (Nat.lt_of_lt_of_le (own_type h1 hk).2.1 u1.size) (fun e => own_at h1 HA.out.2 (by decide) (by rw [hk, e]))).trans (u1.blk k (own_type h1 hk).2.1 (fun e => own_at h1 HA.out.1 (by decide) (by rw [hk, e]))), h3, h4⟩
end Go.Proofs.YtlheflkdapckbaaDoor.Ck

/- Package proofread: Check, Deep. -/
namespace Go.Proofs.YtlheflkdapckbaaDoor.Ck
open Go.RowKit

theorem ReadP.both {p : List Addr} {w w' : World} {c : Cd} {e : Ending} (h : ReadP p w c e w') : (∃ st v vs, readM c = some st ∧ e = .returned (.tuple #[v, .nilIface]) ∧ (st.length = c.B.length ∧ c.B.length ≤ 8192) ∧ w'.ownsRow 0 54 1 v st.length vs ∧ (∀ k, v.ownBlock = some k → w.heap.size ≤ k) ∧ (∀ (i : Nat) (s : List Int) (u : Value), st[i]? = some s → vs[i]? = some u → w'.ownsRow 0 3 1 u s.length (nts s) ∧ Fits s ∧ s.length ≤ 64) ∧ Below w.heap.size w w') ∨ (readM c = none ∧ e = .returned (.tuple #[.slice none 0 0, errV p 8]) ∧ Below w.heap.size w w') := by
  obtain ⟨h1, h2⟩ := h
  cases hr : readM c with
  | some st =>
    rw [hr] at h2
    obtain ⟨v, vs, q1, q0, q2, q3, q4⟩ := h2
    exact .inl ⟨st, v, vs, rfl, q1, q0, q2, q3, q4, h1⟩
  | none =>
    rw [hr] at h2
    exact .inr ⟨rfl, h2, h1⟩
/-- the error of a code that isn't right -/
def erR (p : List Addr) (o : Option (List (List Int))) : Value := if o.isSome = true then .nilIface else errV p 8
set_option maxRecDepth 20000 in
set_option maxHeartbeats 2000000 in
theorem pcheck_any {w : World} {p : List Addr} {vP vC vF vB : Value} {c : Cd} (hc : Ec w p) (h : Cv w vP vC vF vB c) : Calls Tryd.prog 10 #[codeA vP vC vF vB c] w (Vb w (erR p (readM c))) := by
  have B0 := hide (bel_new w (codeO vP vC vF vB c))
  have RD := hide (read_any (hc.bel B0.out) (h.bel B0.out))
  have V0 := Go.Deep.blk_alloc_new w (codeO vP vC vF vB c)
  obtain ⟨g0, g1, g2, g3, g4, g5, g6⟩ := cells7 V0
  unfold codeO at *
  unfold codeA at RD ⊢
  clear hc h V0
  go_enter Tryd.func10, Tryd.ntmps10
  go_wp2_with fail
  refine RD.out.mono ?_
  intro e w2 hp
  rcases hp.both with ⟨st, v, vs, hr, rfl, _, _, _, _, hb⟩ | ⟨hr, rfl, hb⟩
  · have HB := hide (bel_trans B0.out hb)
    have HR : Hid (erR p (readM c) = .nilIface) := hide (by rw [hr]; rfl)
    clear hp hr hb RD g0 g1 g2 g3 g4 g5 g6
    go_wp2_with fail
    go_ret
    refine ⟨?_, HB.out⟩
    rw [HR.out]
    rfl
  · have HB := hide (bel_trans B0.out hb)
    have HR : Hid (erR p (readM c) = errV p 8) := hide (by rw [hr]; rfl)
    unfold errV at hp HR ⊢
    clear hp hr hb RD g0 g1 g2 g3 g4 g5 g6
    go_wp2_with fail
    go_ret
    refine ⟨?_, HB.out⟩
    rw [HR.out]
    rfl
/-- how deep the deepest of the first k is -/
def deepM (st : List (List Int)) : Nat := st.foldl (fun a s => max a s.length) 0
theorem deep_snoc (l : List (List Int)) (s : List Int) : deepM (l ++ [s]) = max (deepM l) s.length := by unfold deepM; rw [List.foldl_append]; rfl
theorem deep_le (l : List (List Int)) (n : Nat) (h : ∀ s ∈ l, s.length ≤ n) : deepM l ≤ n := by
  have hg : ∀ (m : List (List Int)) (a : Nat), a ≤ n → (∀ s ∈ m, s.length ≤ n) → m.foldl (fun a s => max a s.length) a ≤ n := by
    intro m
    induction m with
    | nil => intro a ha _; exact ha
    | cons s m ih => intro a ha hm; exact ih _ (Nat.max_le.mpr ⟨ha, hm s (by simp)⟩) (fun x hx => hm x (by simp [hx]))
  exact hg l 0 (Nat.zero_le _) h
end Go.Proofs.YtlheflkdapckbaaDoor.Ck

/- Package proofread: Deep. -/
namespace Go.Proofs.YtlheflkdapckbaaDoor.Ck
open Go.RowKit

theorem max_cast2 (x y : Nat) : (if x < y then (y : Int) else (x : Int)) = ((max x y : Nat) : Int) := by
  split <;> omega
theorem deep_take (st : List (List Int)) (k : Nat) (h : k < st.length) : deepM (st.take (k + 1)) = max (deepM (st.take k)) (st.getD k []).length := by
  rw [List.take_add_one, List.getElem?_eq_getElem h, Option.toList_some, deep_snoc, List.getD_eq_getElem?_getD, List.getElem?_eq_getElem h]
  rfl
/-- the stacks that read gives back, one by one -/
theorem row_at16 {w : World} {v : Value} {st : List (List Int)} {vs : List Value} (h : w.ownsRow 0 54 1 v st.length vs) (hr : ∀ (i : Nat) (s : List Int) (u : Value), st[i]? = some s → vs[i]? = some u → w.ownsRow 0 3 1 u s.length (nts s) ∧ Fits s ∧ s.length ≤ 64) (k : Nat) (hk : k < st.length) :
    ∃ b c a cs, v = .slice (some ⟨b, 0, none⟩) st.length c ∧ b < w.heap.size ∧ w.cell? ⟨b, k, none⟩ = some (.slice a (st.getD k []).length cs) ∧ w.ownsRow 0 3 1 (.slice a (st.getD k []).length cs) (st.getD k []).length (nts (st.getD k [])) ∧ (st.getD k []).length ≤ 64 := by
  obtain ⟨b, c, e, _⟩ := own_some h (by omega)
  subst e
  have hv : vs.length = st.length := by have := h.1; omega
  obtain ⟨u, hu⟩ : ∃ u, vs[k]? = some u := ⟨_, List.getElem?_eq_getElem (by omega)⟩
  have hs : st[k]? = some (st.getD k []) := by rw [List.getD_eq_getElem?_getD, List.getElem?_eq_getElem hk]; rfl
  obtain ⟨h1, _, h3⟩ := hr k _ u hs hu
  obtain ⟨a, cs, e, _⟩ := own_slice h1
  subst e
  exact ⟨b, c, a, cs, rfl, (own_type h (k := b) rfl).2.1, (own_cell h k _ hu).1, h1, h3⟩
def deepO (o : Option (List (List Int))) : Int := match o with | some st => (deepM st : Int) | none => 0
set_option maxRecDepth 20000 in
set_option maxHeartbeats 2000000 in
theorem pdeep_any {w : World} {p : List Addr} {vP vC vF vB : Value} {c : Cd} (hc : Ec w p) (h : Cv w vP vC vF vB c) : Calls Tryd.prog 11 #[codeA vP vC vF vB c] w (Vb w (.tuple #[.int .i64 (deepO (readM c)), erR p (readM c)])) := by
  have B0 := hide (bel_new w (codeO vP vC vF vB c))
  have RD := hide (read_any (hc.bel B0.out) (h.bel B0.out))
  have V0 := Go.Deep.blk_alloc_new w (codeO vP vC vF vB c)
  obtain ⟨g0, g1, g2, g3, g4, g5, g6⟩ := cells7 V0
  unfold codeO at *
  unfold codeA at RD ⊢
  clear hc h V0
  go_enter Tryd.func11, Tryd.ntmps11
  go_wp2_with fail
  refine RD.out.mono ?_
  intro e w2 hp
  rcases hp.both with ⟨st, v, vs, hr, rfl, ⟨qa, qb⟩, q1, q2, q3, hb⟩ | ⟨hr, rfl, hb⟩
  · have HB := hide (bel_trans B0.out hb)
    have HR : Hid (deepO (readM c) = (deepM st : Int) ∧ erR p (readM c) = .nilIface) := hide (by rw [hr]; exact ⟨rfl, rfl⟩)
    obtain ⟨a, cc, rfl, l1, l2⟩ := own_slice q1
    have RW := hide (row_at16 q1 q3)
    obtain ⟨n, hn⟩ : ∃ n, n = st.length := ⟨_, rfl⟩
    have HN := hide hn
    rw [← hn] at l1 RW ⊢
    have hnn : n ≤ 8192 := by omega
    have HD : Hid (∀ k, k < n → (if deepM (st.take k) < (st.getD k []).length then ((st.getD k []).length : Int) else (deepM (st.take k) : Int)) = (deepM (st.take (k + 1)) : Int)) := hide (fun k hk => by rw [max_cast2, deep_take st k (by have := HN.out; omega)])
    have HT : Hid (deepM (st.take n) = deepM st) := hide (by rw [HN.out, List.take_length])
    clear hp hr hb RD g0 g1 g2 g3 g4 g5 g6 q1 q2 q3 qa qb hn l1 l2
    go_wp2_with fail
    go_loopw [6, 8, 16] (fun x u8 i wr => ∃ k : Nat, k ≤ n ∧ i = .int .i64 k ∧ x = .int .i64 (deepM (st.take k)) ∧ wr = w2) (fun x u8 i _ => n - (intOf i).toNat)
    case atStart => exact ⟨0, Nat.zero_le _, rfl, rfl, rfl⟩
    case round =>
      obtain ⟨k, hk, rfl, rfl, rfl⟩ := hrel
      by_cases hlt : k < n
      · have hlt' : (k : Int) < (n : Int) := by omega
        obtain ⟨b, c', a1, c1, e, hb, y1, _, _⟩ := RW.out k hlt
        cases e
        have hd := hide (HD.out k hlt)
        clear RW HD HT
        obtain ⟨d2, hd2⟩ : ∃ d, d = deepM (st.take (k + 1)) := ⟨_, rfl⟩
        rw [← hd2] at hd
        have HD2 := hide hd2
        clear hd2
        generalize deepM (st.take k) = d1 at *
        generalize (st.getD k []).length = sl at *
        go_wp2_with fail
        go_roundw
        case rel => exact ⟨k + 1, by omega, by go_num, by rw [hd.out, HD2.out], trivial⟩
        case measure => simp [intOf]; omega
      · obtain rfl : k = n := by omega
        clear RW HD
        go_wp2_with fail
        go_ret2
        refine ⟨?_, HB.out⟩
        rw [HR.out.1, HR.out.2, HT.out]
        rfl
  · have HB := hide (bel_trans B0.out hb)
    have HR : Hid (deepO (readM c) = 0 ∧ erR p (readM c) = errV p 8) := hide (by rw [hr]; exact ⟨rfl, rfl⟩)
    unfold errV at hp HR ⊢
    clear hp hr hb RD g0 g1 g2 g3 g4 g5 g6
    go_wp2_with fail
    go_loopw [6, 8, 16] (fun x u8 i wr => i = .int .i64 0 ∧ x = .int .i64 0 ∧ wr = w2) (fun x u8 i _ => 0)
    case atStart => exact ⟨rfl, rfl, rfl⟩
    case round =>
      obtain ⟨rfl, rfl, rfl⟩ := hrel
      go_wp2_with fail
      go_ret2
      refine ⟨?_, HB.out⟩
      rw [HR.out.1, HR.out.2]
      rfl
end Go.Proofs.YtlheflkdapckbaaDoor.Ck

/- A code without jumps, by the model; ProofreadStack's codes. No Go text is walked here. -/
namespace Go.Proofs.YtlheflkdapckbaaDoor.Ck
open Go.RowKit

/-- what is gone through when i is come to -/
def stS (N : Nat) (ss : Nat → List Int) (i : Nat) : Rw16 := ⟨List.replicate (i + 1) true ++ List.replicate (N - i - 1) false, (List.range (i + 1)).map ss ++ List.replicate (N - i - 1) [], [i]⟩
def stE (N : Nat) (ss : Nat → List Int) (i : Nat) : Rw16 := { stS N ss i with left := [] }
theorem come_str {N : Nat} {ss : Nat → List Int} {i : Nat} (hi : i + 1 < N) (hl : (ss (i + 1)).length ≤ 64) : comeM 0 N (stE N ss i) ((i : Int) + 1) (ss (i + 1)) = some (stS N ss (i + 1)) := by
  have e1 : ((i : Int) + 1).toNat = i + 1 := by omega
  have e2 : N - i - 1 = (N - (i + 1) - 1) + 1 := by omega
  unfold comeM
  rw [if_pos ⟨by omega, by omega⟩, if_pos hl, e1]
  unfold stE stS
  simp only [e2]
  have l1 : (List.replicate (i + 1) true).length = i + 1 := by simp
  have l2 : ((List.range (i + 1)).map ss).length = i + 1 := by simp
  have e3 : (List.replicate (i + 1) true ++ List.replicate (N - (i + 1) - 1 + 1) false).getD (i + 1) false = false := by
    rw [List.getD_eq_getElem?_getD, List.getElem?_append_right (by simp), l1, Nat.sub_self, List.replicate_succ]
    rfl
  rw [e3, if_neg (by simp)]
  have e4 : (List.replicate (i + 1) true ++ List.replicate (N - (i + 1) - 1 + 1) false).set (i + 1) true = List.replicate (i + 1 + 1) true ++ List.replicate (N - (i + 1) - 1) false := by
    rw [List.set_append_right _ _ (by simp), l1, Nat.sub_self, List.replicate_succ (n := N - (i + 1) - 1), List.set_cons_zero, List.replicate_succ' (n := i + 1), List.append_assoc]
    rfl
  have e5 : ((List.range (i + 1)).map ss ++ List.replicate (N - (i + 1) - 1 + 1) []).set (i + 1) (ss (i + 1)) = (List.range (i + 1 + 1)).map ss ++ List.replicate (N - (i + 1) - 1) [] := by
    rw [List.set_append_right _ _ (by simp), l2, Nat.sub_self, List.replicate_succ, List.set_cons_zero, List.range_succ (n := i + 1), List.map_append, List.append_assoc]
    rfl
  rw [e4, e5]
  rfl
theorem st_at {N : Nat} {ss : Nat → List Int} {i : Nat} : (stE N ss i).st.getD i [] = ss i := by
  show ((List.range (i + 1)).map ss ++ List.replicate (N - i - 1) []).getD i [] = ss i
  rw [List.getD_eq_getElem?_getD, List.getElem?_append_left (by simp)]
  simp
/-- an instruction of which the one behind alone is next -/
def Str (c : Cd) (lo : List Int) (ss : Nat → List Int) (i : Nat) : Prop := (c.B.getD i zI).op ≠ 12 ∧ (c.B.getD i zI).op ≠ 13 ∧ (c.B.getD i zI).op ≠ 14 ∧ (c.B.getD i zI).op ≠ 25 ∧ (c.B.getD i zI).op ≠ 26 ∧ changeM c lo (c.B.getD i zI) (ss i) = some (ss (i + 1))
theorem step_str {c : Cd} {f : Fn3} {ss : Nat → List Int} {i : Nat} (hf : f.st = 0) (h : Str c f.lo ss i) : stepM c f c.B.length (stE c.B.length ss i) i = comeM 0 c.B.length (stE c.B.length ss i) ((i : Int) + 1) (ss (i + 1)) := by
  obtain ⟨h1, h2, h3, h4, h5, h6⟩ := h
  unfold stepM
  simp only [st_at]
  rw [if_neg h1, if_neg h2, if_neg h3, if_neg h4, if_neg h5, h6, hf]
  rfl
theorem go_str {c : Cd} {f : Fn3} {ss : Nat → List Int} (hf : f.st = 0) {i k : Nat} (hi : i + 1 < c.B.length) (hl : (ss (i + 1)).length ≤ 64) (h : Str c f.lo ss i) : goM c f c.B.length (k + 1) (stS c.B.length ss i) = goM c f c.B.length k (stS c.B.length ss (i + 1)) := by
  rw [goM_succ (i := i) rfl]
  show (stepM c f c.B.length (stE c.B.length ss i) i).bind _ = _
  rw [step_str hf h, come_str hi hl]
  rfl
theorem go_no {c : Cd} {f : Fn3} {ss : Nat → List Int} (hf : f.st = 0) {i k : Nat} (hl : 64 < (ss (i + 1)).length) (h : Str c f.lo ss i) : goM c f c.B.length (k + 1) (stS c.B.length ss i) = none := by
  rw [goM_succ (i := i) rfl]
  show (stepM c f c.B.length (stE c.B.length ss i) i).bind _ = _
  rw [step_str hf h]
  unfold comeM
  split
  · rw [if_neg (by omega)]
    rfl
  · rfl
theorem go_nil {c : Cd} {f : Fn3} {hi : Int} (k : Nat) {m : Rw16} (h : m.left = []) : goM c f hi k m = some m := by
  cases k with
  | zero => rfl
  | succ k =>
    unfold goM
    rw [h]
    rfl
theorem go_ret {c : Cd} {f : Fn3} {ss : Nat → List Int} {i k : Nat} (h : (c.B.getD i zI).op = 25) (hs : ss i = []) : goM c f c.B.length (k + 1) (stS c.B.length ss i) = some (stE c.B.length ss i) := by
  rw [goM_succ (i := i) rfl]
  show (stepM c f c.B.length (stE c.B.length ss i) i).bind _ = _
  unfold stepM
  simp only [st_at]
  rw [h, hs]
  exact go_nil k rfl
/-- on from i to j, through instructions that have the next one alone -/
theorem go_run {c : Cd} {f : Fn3} {ss : Nat → List Int} (hf : f.st = 0) {i j : Nat} (hj : j < c.B.length) (hij : i ≤ j) (h : ∀ k, i ≤ k → k < j → Str c f.lo ss k ∧ (ss (k + 1)).length ≤ 64) (k : Nat) : goM c f c.B.length (k + (j - i)) (stS c.B.length ss i) = goM c f c.B.length k (stS c.B.length ss j) := by
  obtain ⟨d, hd⟩ : ∃ d, d = j - i := ⟨_, rfl⟩
  rw [← hd]
  induction d generalizing i with
  | zero =>
    obtain rfl : i = j := by omega
    rfl
  | succ d ih =>
    rw [show k + (d + 1) = (k + d) + 1 by omega, go_str hf (by omega) (h i (by omega) (by omega)).2 (h i (by omega) (by omega)).1]
    exact ih (by omega) (fun k h1 h2 => h k (by omega) h2) (by omega)
theorem begin_str {c : Cd} {ss : Nat → List Int} (h0 : ss 0 = []) (hB : 0 < c.B.length) : comeM 0 c.B.length (beginM c) 0 [] = some (stS c.B.length ss 0) := by
  obtain ⟨N, hN⟩ : ∃ N, c.B.length = N + 1 := ⟨c.B.length - 1, by omega⟩
  unfold comeM beginM
  rw [hN, if_pos ⟨by omega, by omega⟩, if_pos (by simp)]
  unfold stS
  simp [List.replicate_succ, h0]
end Go.Proofs.YtlheflkdapckbaaDoor.Ck

/- ProofreadLoops' codes, by the model: no stack has anything. No Go text is walked here. -/
namespace Go.Proofs.YtlheflkdapckbaaDoor.Ck
open Go.RowKit

/-- what is gone through where all stacks are empty -/
def stH (N : Nat) (met : Nat → Bool) (l : List Nat) : Rw16 := ⟨(List.range N).map met, List.replicate N [], l⟩
def updH (met : Nat → Bool) (q : Nat) : Nat → Bool := fun i => if i = q then true else met i
theorem map_upd (N : Nat) (met : Nat → Bool) (q : Nat) : ((List.range N).map met).set q true = (List.range N).map (updH met q) := by
  apply List.ext_getElem?
  intro i
  rw [List.getElem?_set]
  by_cases h : i < N
  · by_cases e : q = i
    · subst e
      simp [h, updH]
    · rw [if_neg e]
      simp [h, updH, show i ≠ q from fun x => e x.symm]
  · rw [List.getElem?_eq_none (l := (List.range N).map (updH met q)) (by simp; omega)]
    split
    · rw [if_neg (by simp; omega)]
    · rw [List.getElem?_eq_none (by simp; omega)]
theorem rep_set (N q : Nat) : (List.replicate N ([] : List Int)).set q [] = List.replicate N [] := by
  apply List.ext_getElem?
  intro i
  rw [List.getElem?_set]
  by_cases h : q = i
  · subst h
    by_cases h2 : q < N
    · simp [h2]
    · simp [h2]
  · rw [if_neg h]
theorem come_h {N : Nat} {met : Nat → Bool} {l : List Nat} {q : Nat} (hq : q < N) : comeM 0 N (stH N met l) (q : Int) [] = some (if met q = true then stH N met l else stH N (updH met q) (l ++ [q])) := by
  unfold comeM
  rw [if_pos ⟨by omega, by omega⟩, if_pos (by simp)]
  have e1 : (stH N met l).met.getD (q : Int).toNat false = met q := by
    show ((List.range N).map met).getD (q : Int).toNat false = met q
    rw [Int.toNat_natCast, List.getD_eq_getElem?_getD]
    simp [hq]
  have e2 : (stH N met l).st.getD (q : Int).toNat [] = [] := by
    show (List.replicate N ([] : List Int)).getD (q : Int).toNat [] = []
    rw [Int.toNat_natCast, List.getD_eq_getElem?_getD]
    simp [hq]
  rw [e1, e2, Int.toNat_natCast]
  cases met q with
  | true => simp
  | false =>
    simp only [Bool.false_eq_true, if_false]
    show some (Rw16.mk (((List.range N).map met).set q true) ((List.replicate N []).set q []) (l ++ [q])) = _
    rw [map_upd, rep_set]
    rfl
/-- an instruction that leaves the stack, and goes on to the next -/
def Pass (c : Cd) (i : Nat) : Prop := (c.B.getD i zI).op = 15 ∨ (c.B.getD i zI).op = 24
theorem step_h {c : Cd} {i : Nat} {met : Nat → Bool} {l : List Nat} (h : Pass c i) : stepM c ⟨0, 0, []⟩ c.B.length (stH c.B.length met l) i = comeM 0 c.B.length (stH c.B.length met l) ((i : Int) + 1) [] := by
  have e2 : (stH c.B.length met l).st.getD i [] = [] := by
    show (List.replicate c.B.length ([] : List Int)).getD i [] = []
    rw [List.getD_eq_getElem?_getD]
    by_cases hi : i < c.B.length <;> simp [hi]
  unfold stepM
  simp only [e2]
  unfold Pass at h
  generalize c.B.getD i zI = x at h ⊢
  rcases h with h | h <;> simp [changeM, h]
theorem goW_h {c : Cd} {i : Nat} {met : Nat → Bool} : goW c ⟨0, 0, []⟩ c.B.length (stH c.B.length met [i]) = (stepM c ⟨0, 0, []⟩ c.B.length (stH c.B.length met []) i).bind (goW c ⟨0, 0, []⟩ c.B.length) :=
  (goW_step (c := c) (f := ⟨0, 0, []⟩) (l := []) (i := i) (by decide) (by show _ ≤ (((List.range c.B.length).map met).length : Int); simp) rfl).1
/-- on from i to j, where what is between passes on and was not come to -/
theorem run_h {c : Cd} {i j : Nat} {met : Nat → Bool} (hij : i ≤ j) (hj : j < c.B.length) (hp : ∀ k, i ≤ k → k < j → Pass c k) (hm : ∀ k, i < k → k ≤ j → met k = false) :
    ∃ met', goW c ⟨0, 0, []⟩ c.B.length (stH c.B.length met [i]) = goW c ⟨0, 0, []⟩ c.B.length (stH c.B.length met' [j]) ∧ ∀ k, met' k = (met k || (decide (i < k) && decide (k ≤ j))) := by
  obtain ⟨d, hd⟩ : ∃ d, d = j - i := ⟨_, rfl⟩
  induction d generalizing i met with
  | zero =>
    obtain rfl : i = j := by omega
    refine ⟨met, rfl, fun k => ?_⟩
    have : (decide (i < k) && decide (k ≤ i)) = false := by simp
    rw [this, Bool.or_false]
  | succ d ih =>
    obtain ⟨met', h1, h2⟩ := ih (i := i + 1) (met := updH met (i + 1)) (by omega) (fun k a b => hp k (by omega) b) (fun k a b => by unfold updH; rw [if_neg (by omega)]; exact hm k (by omega) b) (by omega)
    refine ⟨met', ?_, fun k => ?_⟩
    · rw [goW_h, step_h (hp i (Nat.le_refl _) (by omega)), show (i : Int) + 1 = ((i + 1 : Nat) : Int) by omega, come_h (by omega), hm (i + 1) (by omega) (by omega)]
      exact h1
    · rw [h2]
      unfold updH
      by_cases hk : k = i + 1
      · subst hk
        simp
        omega
      · rw [if_neg hk]
        congr 1
        rw [Bool.eq_iff_iff]
        simp only [Bool.and_eq_true, decide_eq_true_eq]
        omega
/-- the codes of ProofreadLoops -/
def oneM (B : List In5) : Cd := ⟨[], 1, 0, [], [⟨0, 0, []⟩], B, 0⟩
def loopI (m f t i : Nat) : In5 := if i = f then ⟨12, (t : Int), 0, 0, 0⟩ else if i = m - 1 then ⟨25, 0, 0, 0, 0⟩ else if i % 2 = 0 then ⟨24, 0, 0, 0, 0⟩ else ⟨15, 0, 0, 0, 0⟩
def loopL (m f t : Nat) : List In5 := (List.range m).map (loopI m f t)
theorem loop_at {m f t i : Nat} (h : i < m) : (oneM (loopL m f t)).B.getD i zI = loopI m f t i := by
  show ((List.range m).map (loopI m f t)).getD i zI = _
  rw [List.getD_eq_getElem?_getD]
  simp [h]
theorem loop_len {m f t : Nat} : (oneM (loopL m f t)).B.length = m := by
  show ((List.range m).map (loopI m f t)).length = m
  simp
theorem loop_pass {m f t i : Nat} (h : i + 1 < m) (hf : i ≠ f) : Pass (oneM (loopL m f t)) i := by
  unfold Pass
  rw [loop_at (by omega)]
  unfold loopI
  rw [if_neg hf, if_neg (by omega)]
  split
  · exact .inr rfl
  · exact .inl rfl
theorem loop_form {m f t : Nat} (h : 2 ≤ m) (h2 : m ≤ 31) (ht : t < m) : formB (oneM (loopL m f t)) = true := by
  have hb : (loopL m f t).all (insB (oneM (loopL m f t))) = true := by
    rw [List.all_eq_true]
    intro x hx
    obtain ⟨i, _, rfl⟩ := List.mem_map.1 hx
    have hl : (oneM (loopL m f t)).B.length = m := loop_len
    unfold loopI
    split
    · simp [insB, inN, hl]
      omega
    · split
      · rfl
      · split <;> rfl
  unfold formB
  have e0 : (oneM (loopL m f t)).B = loopL m f t := rfl
  have hl : (loopL m f t).length = m := loop_len (f := f) (t := t)
  rw [e0, hb, hl]
  have m0 : mainB (oneM (loopL m f t)) = true := rfl
  rw [m0]
  simp [oneM, fnB, stB, inN]
  omega
/-- which of them are right -/
theorem loop_read {m f t : Nat} (h : 2 ≤ m) (h2 : m ≤ 31) (hf : f + 1 < m) (ht : t < m) : (readM (oneM (loopL m f t))).isSome = (decide (f < t) || (decide (t < f) && decide (t % 2 = 0))) := by
  unfold readM
  rw [if_pos (loop_form h h2 ht)]
  have hl : (oneM (loopL m f t)).B.length = m := loop_len
  obtain ⟨c, hc⟩ : ∃ c, c = oneM (loopL m f t) := ⟨_, rfl⟩
  have hF : (oneM (loopL m f t)).F = [⟨0, 0, []⟩] := rfl
  have hp : ∀ k, k + 1 < m → k ≠ f → Pass c k := fun k a b => by rw [hc]; exact loop_pass a b
  have ha : ∀ k, k < m → c.B.getD k zI = loopI m f t k := fun k a => by rw [hc]; exact loop_at a
  rw [hF, ← hc]
  rw [← hc] at hl
  have e : funcsM c [⟨0, 0, []⟩] (beginM c) = (goW c ⟨0, 0, []⟩ c.B.length (stH c.B.length (updH (fun _ => false) 0) [0])).bind (fun m => some m) := by
    show (functionM c ⟨0, 0, []⟩ c.B.length (beginM c)).bind _ = _
    unfold functionM
    have hb : beginM c = stH c.B.length (fun _ => false) [] := by
      unfold beginM stH
      congr 1
      apply List.ext_getElem?
      intro i
      by_cases hi : i < c.B.length <;> simp [hi]
    have := come_h (N := c.B.length) (met := fun _ => false) (l := []) (q := 0) (by omega)
    rw [hb]
    show ((comeM 0 c.B.length _ ((0 : Nat) : Int) []).bind _).bind _ = _
    rw [this]
    rfl
  have hbs : ∀ (o : Option Rw16), (o.bind fun m => some m) = o := fun o => by cases o <;> rfl
  rw [e, hbs]
  obtain ⟨met, r1, r2⟩ := run_h (c := c) (i := 0) (j := f) (met := updH (fun _ => false) 0) (Nat.zero_le _) (by omega) (fun k _ b => hp k (by omega) (by omega)) (fun k a _ => by unfold updH; rw [if_neg (by omega)])
  have hmet : ∀ k, met k = decide (k ≤ f) := fun k => by
    rw [r2, Bool.eq_iff_iff]
    unfold updH
    split <;> simp <;> omega
  have es : (stH c.B.length met []).st.getD f [] = [] := by
    show (List.replicate c.B.length ([] : List Int)).getD f [] = []
    rw [List.getD_eq_getElem?_getD]
    simp [show f < c.B.length by omega]
  have ef : loopI m f t f = ⟨12, (t : Int), 0, 0, 0⟩ := by unfold loopI; rw [if_pos rfl]
  have ej : stepM c ⟨0, 0, []⟩ c.B.length (stH c.B.length met []) f = jumpM c 0 c.B.length (stH c.B.length met []) f [] := by
    unfold stepM
    simp only [es]
    rw [ha f (by omega), ef]
    rfl
  rw [r1, goW_h, ej]
  unfold jumpM
  rw [ha f (by omega), ef]
  show (Option.map _ ((if (t : Int) > (f : Int) ∨ (c.B.getD (t : Int).toNat zI).op = 24 then comeM 0 c.B.length (stH c.B.length met []) (t : Int) [] else none).bind _)).isSome = _
  rw [Int.toNat_natCast, ha t ht, come_h (by omega), hmet]
  by_cases h3 : f < t
  · have d1 : decide (t ≤ f) = false := decide_eq_false (by omega)
    rw [if_pos (.inl (by omega)), d1]
    simp only [Bool.false_eq_true, if_false, List.nil_append, Option.bind_some]
    obtain ⟨met2, s1, _⟩ := run_h (c := c) (i := t) (j := m - 1) (met := updH met t) (by omega) (by omega) (fun k a b => hp k (by omega) (by omega)) (fun k a _ => by unfold updH; rw [if_neg (by omega), hmet]; exact decide_eq_false (by omega))
    have es2 : (stH c.B.length met2 []).st.getD (m - 1) [] = [] := by
      show (List.replicate c.B.length ([] : List Int)).getD (m - 1) [] = []
      rw [List.getD_eq_getElem?_getD]
      simp [show m - 1 < c.B.length by omega]
    have ee : loopI m f t (m - 1) = ⟨25, 0, 0, 0, 0⟩ := by unfold loopI; rw [if_neg (by omega), if_pos rfl]
    have er : stepM c ⟨0, 0, []⟩ c.B.length (stH c.B.length met2 []) (m - 1) = some (stH c.B.length met2 []) := by
      unfold stepM
      simp only [es2]
      rw [ha (m - 1) (by omega), ee]
      rfl
    rw [s1, goW_h, er, Option.bind_some, goW_end rfl]
    simp [h3]
  · have d1 : decide (t ≤ f) = true := decide_eq_true (by omega)
    rw [d1, if_pos rfl]
    by_cases h4 : t < f ∧ t % 2 = 0
    · have e4 : (loopI m f t t).op = 24 := by unfold loopI; rw [if_neg (by omega), if_neg (by omega), if_pos h4.2]
      rw [if_pos (.inr e4), Option.bind_some, goW_end rfl]
      simp [h4]
    · have e4 : (loopI m f t t).op ≠ 24 := by
        unfold loopI
        by_cases e5 : t = f
        · rw [if_pos e5]
          show (12 : Int) ≠ 24
          decide
        · rw [if_neg e5, if_neg (by omega), if_neg (by omega)]
          decide
      rw [if_neg (fun hh => hh.elim (fun a => by omega) e4)]
      simp only [Option.bind_none, Option.map_none, Option.isSome_none]
      symm
      rw [Bool.eq_false_iff]
      simp
      omega
end Go.Proofs.YtlheflkdapckbaaDoor.Ck

/- Package proofread: Stacks. -/
namespace Go.Proofs.YtlheflkdapckbaaDoor.Ck
open Go.RowKit

theorem infoSl : (Tryd.prog.info? 22).map (fun i => (i.zero, i.size, i.bytes)) = some (some (.slice none 0 0), 1, 24) := by kernel_rfl
theorem belGrown {w w' : World} {B : Nat} {b : Option Nat} (h : w.grownBy w' b) (hb : ∀ k, b = some k → B ≤ k) (hB : B ≤ w.heap.size) : Below B w w' := ⟨h.os, h.tape, h.output, h.size, fun k hk => h.block k (by omega) (fun e => by have := hb k e.symm; omega)⟩
/-- one list more -/
theorem pushS {w : World} {B : Nat} {v : Value} {vs : List Value} {n : Nat} (hn : n = vs.length) (hl : n ≤ 100000) (ho : w.ownsRow B 22 1 v n vs) (hB : B ≤ w.heap.size) (x : Value) (h1 : x.oneCell' = true) (ty : TypeId) :
    ∃ v' w', (Builtin.append_ #[30, 30] ty #[v, .slice (some ⟨w.heap.size, 0, none⟩) 1 1]).run Tryd.prog (w.alloc (.cells #[x] 22)) = .ok v' w' ∧ ((∃ a c, v' = .slice a (n + 1) c) ∧ w'.ownsRow B 22 1 v' (n + 1) (vs ++ [x]) ∧ w.grownBy w' v.ownBlock ∧ (∀ k, v'.ownBlock = some k → B ≤ k)) := by
  obtain ⟨ie, hi, hz0, hz1, hz2⟩ := info_parts infoSl
  have hb := bel_new w (.cells #[x] 22)
  have o1 := own_keep ho (fun k hk => hb.block k (own_type ho hk).2.1)
  have hc : ∀ (j : Nat) (u : Value), ([x] : List Value)[j]? = some u → (w.alloc (.cells #[x] 22)).cell? ((⟨w.heap.size, 0, none⟩ : Addr).add j) = some u := fun j u hu => by
    rw [show (⟨w.heap.size, 0, none⟩ : Addr).add j = ⟨w.heap.size, j, none⟩ by unfold Addr.add; by_cases h : j = 0 <;> simp [h]]
    exact blk_cell (Go.Deep.blk_alloc_new w _) j u (by simpa using hu)
  obtain ⟨v', w', hr, ho', hg, _, hat⟩ := run_append_own_at (P := Tryd.prog) (w.alloc (.cells #[x] 22)) B 30 ty 22 ie _ 1 24 Tryd.underlying30 hi hz0 hz1 hz2 rfl (by decide) v n vs o1 ⟨w.heap.size, 0, none⟩ 1 1 [x] rfl hc (fun u hu => by simp at hu; subst hu; exact h1) (by unfold maxLen; omega) (by omega) (Nat.le_trans hB hb.size)
  obtain ⟨a9, c9, e9, _⟩ := own_slice ho'
  exact ⟨v', w', hr, ⟨_, _, e9⟩, ho', ⟨hg.os, hg.tape, hg.output, Nat.le_trans hb.size hg.size, fun k hk hne => (hg.block k (Nat.lt_of_lt_of_le hk hb.size) hne).trans (hb.block k hk)⟩, fun k hk => (own_type ho' hk).1⟩
/-- what Stacks gives back: the stacks that read finds, in a list of the call's own -/
def StP (p : List Addr) (w : World) (c : Cd) (e : Ending) (w' : World) : Prop := Below w.heap.size w w' ∧ match readM c with
  | some st => ∃ v vs, e = .returned (.tuple #[v, .nilIface]) ∧ (st.length = c.B.length ∧ c.B.length ≤ 8192) ∧ w'.ownsRow w.heap.size 22 1 v st.length vs ∧ ∀ (i : Nat) (s : List Int) (u : Value), st[i]? = some s → vs[i]? = some u → w'.ownsRow 0 3 1 u s.length (nts s) ∧ Fits s ∧ s.length ≤ 64
  | none => e = .returned (.tuple #[.slice none 0 0, errV p 8])
set_option maxRecDepth 20000 in
set_option maxHeartbeats 2000000 in
theorem pstacks_any {w : World} {p : List Addr} {vP vC vF vB : Value} {c : Cd} (hc : Ec w p) (h : Cv w vP vC vF vB c) : Calls Tryd.prog 9 #[codeA vP vC vF vB c] w (StP p w c) := by
  have B0 := hide (bel_new w (codeO vP vC vF vB c))
  have RD := hide (read_any (hc.bel B0.out) (h.bel B0.out))
  have V0 := Go.Deep.blk_alloc_new w (codeO vP vC vF vB c)
  obtain ⟨g0, g1, g2, g3, g4, g5, g6⟩ := cells7 V0
  unfold codeO at *
  unfold codeA at RD ⊢
  clear hc h V0
  go_enter Tryd.func9, Tryd.ntmps9
  go_wp2_with fail
  refine RD.out.mono ?_
  intro e w2 hp
  rcases hp.both with ⟨st, v, vs, hr, rfl, q0, q1, q2, q3, hb⟩ | ⟨hr, rfl, hb⟩
  · have HB := hide (bel_trans B0.out hb)
    have HR := hide hr
    have HQ := hide q0
    obtain ⟨a, cc, rfl, _, _⟩ := own_slice q1
    obtain ⟨n, hn⟩ : ∃ n, n = st.length := ⟨_, rfl⟩
    have HN := hide hn
    have HV := hide (show vs.length = n by have := q1.1; omega)
    have RW := hide (fun k (hk : k < n) wz (bz : Below w2.heap.size w2 wz) => (show ∃ b a1 n1 c1, a = some ⟨b, 0, none⟩ ∧ vs[k]? = some (.slice a1 n1 c1) ∧ wz.cell? ⟨b, k, none⟩ = some (.slice a1 n1 c1) from (by
      obtain ⟨b, c, e, _⟩ := own_some q1 (by omega)
      cases e
      obtain ⟨u, hu⟩ : ∃ u, vs[k]? = some u := ⟨_, List.getElem?_eq_getElem (by have := HV.out; omega)⟩
      have hs : st[k]? = some (st.getD k []) := by rw [List.getD_eq_getElem?_getD, List.getElem?_eq_getElem (by omega)]; rfl
      obtain ⟨h1, _, h3⟩ := q3 k _ u hs hu
      obtain ⟨a, cs, e, _⟩ := own_slice h1
      subst e
      exact ⟨b, _, _, _, rfl, hu, (bz.cell (p := ⟨b, k, none⟩) (own_type q1 (k := b) rfl).2.1).trans (own_cell q1 k _ hu).1⟩)))
    have Q3 := hide q3
    rw [← hn]
    have hnn : n ≤ 8192 := by omega
    clear hp hr hb RD g0 g1 g2 g3 g4 g5 g6 q0 q1 q2 q3 hn
    go_wp2_with fail
    go_loopw [6, 8, 16] (fun x u8 i wr => ∃ k : Nat, k ≤ n ∧ i = .int .i64 k ∧ Hid (wr.ownsRow w2.heap.size 22 1 x k (vs.take k) ∧ Below w2.heap.size w2 wr)) (fun x u8 i _ => n - (intOf i).toNat)
    case atStart => exact ⟨0, Nat.zero_le _, rfl, World.ownsRow_nil _ _ _ _, Below.refl _ _⟩
    case round =>
      obtain ⟨k, hk, rfl, hr⟩ := hrel
      obtain ⟨a6, c6, rfl, _, _⟩ := own_slice hr.out.1
      by_cases hlt : k < n
      · have hlt' : (k : Int) < (n : Int) := by omega
        obtain ⟨b, a1, n1, c1, rfl, hu, y1⟩ := RW.out k hlt wr hr.out.2
        have PU := hide (fun ty => pushS (n := k) (by rw [List.length_take, HV.out]; omega) (by omega) hr.out.1 hr.out.2.size (.slice a1 n1 c1) rfl ty)
        have HU := hide hu
        clear RW hu
        go_wp2_with (first | (at_builtin; refine wpList_appV (TS := 30) rfl (.tmp 20) (.tmp 22) rfl _ _ rfl rfl _ (PU.out _) ?_; rintro v9 w9 ⟨⟨a9, c9, rfl⟩, o9, g9, b9⟩; have R9 := hide (And.intro o9 (And.intro g9 b9)); clear o9 g9 b9))
        go_roundw
        case rel =>
          refine ⟨k + 1, by omega, by go_num, hide ⟨?_, ?_⟩⟩
          · rw [List.take_add_one, HU.out]
            exact R9.out.1
          · exact hr.out.2.trans (belGrown R9.out.2.1 (fun k hk => (own_type hr.out.1 hk).1) hr.out.2.size)
        case measure => simp [intOf]; omega
      · obtain rfl : k = n := by omega
        clear RW
        go_wp2_with fail
        go_ret2
        refine ⟨HB.out.trans (hr.out.2.mono HB.out.size), ?_⟩
        rw [HR.out]
        refine ⟨_, vs, rfl, HQ.out, ?_, fun i s u h1 h2 => ?_⟩
        · have h1 := hr.out.1
          rw [show vs.take k = vs by rw [← HV.out, List.take_length]] at h1
          rw [← HN.out]
          exact own_low h1 HB.out.size
        · obtain ⟨h3, h4⟩ := Q3.out i s u h1 h2
          exact ⟨own_keep h3 fun k hk => hr.out.2.block k (own_type h3 hk).2.1, h4⟩
  · have HB := hide (bel_trans B0.out hb)
    have HR := hide hr
    unfold errV at hp ⊢
    clear hp hr hb RD g0 g1 g2 g3 g4 g5 g6
    go_wp2_with fail
    go_loopw [6, 8, 16] (fun x u8 i wr => i = .int .i64 0 ∧ x = .slice none 0 0 ∧ wr = w2) (fun x u8 i _ => 0)
    case atStart => exact ⟨rfl, rfl, rfl⟩
    case round =>
      obtain ⟨rfl, rfl, rfl⟩ := hrel
      go_wp2_with fail
      go_ret2
      refine ⟨HB.out, ?_⟩
      rw [HR.out]
      rfl
end Go.Proofs.YtlheflkdapckbaaDoor.Ck

/- The examples of the chapter (alive's code of one function). -/
namespace Go.Proofs.YtlheflkdapckbaaDoor.Ck
open Go.RowKit

set_option maxRecDepth 20000 in
set_option maxHeartbeats 2000000 in
theorem alive1_any {w : World} {vB : Value} {B : List In5} (h : SlB w vB B) (hI : ∀ x ∈ B, InX x) (hl : B.length ≤ 100000) : Calls Tryd.prog 16 #[vB] w (fun e w' => ∃ vF, e = .returned (codeA (.slice none 0 0) (.slice none 0 0) vF vB (oneF B)) ∧ Cv w' (.slice none 0 0) (.slice none 0 0) vF vB (oneF B) ∧ Below w.heap.size w w') := by
  obtain ⟨aB, cB, rfl, _⟩ := h.form
  have HB := hide (And.intro h (And.intro hI hl))
  obtain ⟨n, hn⟩ : ∃ n, n = B.length := ⟨_, rfl⟩
  rw [← hn] at HB ⊢
  have HN := hide hn
  unfold codeA
  clear h hI hl hn
  go_enter Tryd.func16, Tryd.ntmps16
  go_wp2_with fail
  obtain ⟨h, hI, hl⟩ := HB.out
  have b1 := bel_new w (.cells #[.slice none 0 0, .int .i64 0, .int .i64 0, .slice none 0 0, .slice (some ⟨w.heap.size + 1, 0, none⟩) 1 1, .int .i64 0, .slice aB n cB] 27)
  have k1 : (w.alloc (.cells #[.slice none 0 0, .int .i64 0, .int .i64 0, .slice none 0 0, .slice (some ⟨w.heap.size + 1, 0, none⟩) 1 1, .int .i64 0, .slice aB n cB] 27)).heap[w.heap.size]? = some (.cells #[.slice none 0 0, .int .i64 0, .int .i64 0, .slice none 0 0, .slice (some ⟨w.heap.size + 1, 0, none⟩) 1 1, .int .i64 0, .slice aB n cB] 27 (0, 0)) := Go.Deep.blk_alloc_new _ _
  have s1 : (w.alloc (.cells #[.slice none 0 0, .int .i64 0, .int .i64 0, .slice none 0 0, .slice (some ⟨w.heap.size + 1, 0, none⟩) 1 1, .int .i64 0, .slice aB n cB] 27)).heap.size = w.heap.size + 1 := by simp
  generalize w.alloc (.cells #[.slice none 0 0, .int .i64 0, .int .i64 0, .slice none 0 0, .slice (some ⟨w.heap.size + 1, 0, none⟩) 1 1, .int .i64 0, .slice aB n cB] 27) = w1 at *
  have b2 := bel_new w1 (.cells #[.int .i64 0, .int .i64 0, .slice none 0 0] 46)
  have k2 : (w1.alloc (.cells #[.int .i64 0, .int .i64 0, .slice none 0 0] 46)).heap[w1.heap.size]? = some (.cells #[.int .i64 0, .int .i64 0, .slice none 0 0] 46 (0, 0)) := Go.Deep.blk_alloc_new _ _
  rw [s1] at k2
  have k1' := (b2.block _ (lt_of_blk k1)).trans k1
  have B2 := bel_trans b1 b2
  exact ret_agg w.heap.size _ rfl rfl rfl k1' Tryd.underlying27 (by kernel_rfl) rfl ⟨_, rfl, Cv.one k2 (h.bel B2) hI (by have e := HN.out; omega), B2⟩
end Go.Proofs.YtlheflkdapckbaaDoor.Ck

/- The examples of the chapter (alive). -/
namespace Go.Proofs.YtlheflkdapckbaaDoor.Ck
open Go.RowKit

theorem SlB.ofL {w : World} {g : Nat} {l : List In5} (h : w.heap[g]? = some (.cells (insL l).toArray 44 (0, 0))) (hl : l.length ≤ 100000) : SlB w (.slice (some ⟨g, 0, none⟩) l.length l.length) l :=
  OwnB.sl (B := 0) ⟨insL_len l, .inr ⟨g, l.length, (insL l).toArray, rfl, Nat.zero_le _, h, Nat.le_refl _, by unfold maxLen; omega, by rw [List.size_toArray, insL_len], by rw [List.take_of_length_le]; rw [insL_len]; exact Nat.le_refl _⟩⟩ hl
abbrev codeN (vF vB : Value) : Value := .agg #[.slice none 0 0, .int .i64 0, .int .i64 0, .slice none 0 0, vF, .int .i64 0, vB]
/-- alive's code, made and asked for -/
theorem alive1_at {w wz : World} (hz : Below w.heap.size w wz) (B : List In5) (n : Nat) (hn : n = B.length) (hI : ∀ x ∈ B, InX x) (hl : B.length ≤ 100000) : Calls Tryd.prog 16 #[.slice (some ⟨wz.heap.size, 0, none⟩) n n] (wz.alloc (.cells (insL B).toArray 44)) (fun e w' => ∃ vF, e = .returned (codeN vF (.slice (some ⟨wz.heap.size, 0, none⟩) n n)) ∧ Cv w' (.slice none 0 0) (.slice none 0 0) vF (.slice (some ⟨wz.heap.size, 0, none⟩) n n) (oneF B) ∧ Below w.heap.size w w') := by
  subst hn
  exact (alive1_any (SlB.ofL (Go.Deep.blk_alloc_new wz _) hl) hI hl).mono fun _ _ ⟨vF, h1, h2, h3⟩ => ⟨vF, h1, h2, hz.trans (((bel_new wz _).mono hz.size).trans (h3.mono (Nat.le_trans hz.size (bel_new wz _).size)))⟩
def x24 : In5 := ⟨24, 0, 0, 0, 0⟩
def x12 : In5 := ⟨12, 0, 0, 0, 0⟩
def x1 : In5 := ⟨1, 1, 0, 0, 0⟩
def x25 : In5 := ⟨25, 0, 0, 0, 0⟩
theorem read_a : readM (oneF [x24, x12]) = some [[], []] := by kernel_rfl
theorem read_b : readM (oneF [x12]) = none := by kernel_rfl
theorem read_c : readM (oneF [x1, x25]) = none := by kernel_rfl
theorem inX_a : ∀ x ∈ [x24, x12], InX x := fun x hx => by
  simp at hx
  rcases hx with rfl | rfl <;> exact inX_of (by decide) (by decide) (by decide)
theorem inX_b : ∀ x ∈ [x12], InX x := fun x hx => by
  simp at hx
  rcases hx with rfl <;> exact inX_of (by decide) (by decide) (by decide)
theorem inX_c : ∀ x ∈ [x1, x25], InX x := fun x hx => by
  simp at hx
  rcases hx with rfl | rfl <;> exact inX_of (by decide) (by decide) (by decide)
set_option maxRecDepth 20000 in
set_option maxHeartbeats 2000000 in
theorem alive16_any {w : World} {p : List Addr} (ev : Errs17 w p) : Calls Tryd.prog 7 #[] w (Vb w (.bool true)) := by
  have P1 := hide (fun wz (hz : Below w.heap.size w wz) => alive1_at hz [x24, x12] 2 rfl inX_a (by decide))
  have P2 := hide (fun wz (hz : Below w.heap.size w wz) => alive1_at hz [x12] 1 rfl inX_b (by decide))
  have P3 := hide (fun wz (hz : Below w.heap.size w wz) => alive1_at hz [x1, x25] 2 rfl inX_c (by decide))
  have PC := hide (fun wz (hz : Below w.heap.size w wz) vF vB B (h : Cv wz (.slice none 0 0) (.slice none 0 0) vF vB (oneF B)) => (show Calls Tryd.prog 10 #[codeN vF vB] wz (Vb wz (erR p (readM (oneF B)))) from pcheck_any (p := p) ((show Ec w p from ev.cell 8 (by omega)).bel hz) h))
  have PN := hide (fun wz (hz : Below w.heap.size w wz) => (show Calls Tryd.prog 13 #[errV p 8] wz (fun e w' => e = .returned (.int .i64 9) ∧ Below wz.heap.size wz w') from num_err p 8 wz (ev.below (Nat.le_refl _) hz) (by omega)))
  clear ev
  go_enter Tryd.func7, Tryd.ntmps7
  go_wp2_with fail
  refine (P1.out _ (Below.refl _ _)).mono ?_
  rintro e w2 ⟨vF, rfl, c2, b2⟩
  have CK := hide (PC.out _ b2 _ _ _ c2)
  have B2 := hide b2
  rw [show erR p (readM (oneF [x24, x12])) = .nilIface by rw [read_a]; rfl] at CK
  clear c2 b2 P1
  go_wp2_with fail
  refine CK.out.mono ?_
  rintro e w3 ⟨rfl, b3⟩
  have B3 := hide (bel_trans B2.out b3)
  clear b3 B2 CK
  go_wp2_with fail
  refine (P2.out _ B3.out).mono ?_
  rintro e w4 ⟨vF, rfl, c2, b2⟩
  have CK := hide (PC.out _ b2 _ _ _ c2)
  have B4 := hide b2
  rw [show erR p (readM (oneF [x12])) = errV p 8 by rw [read_b]; rfl] at CK
  clear c2 b2 P2
  go_wp2_with fail
  refine CK.out.mono ?_
  rintro e w5 ⟨rfl, b3⟩
  have B5 := hide (bel_trans B4.out b3)
  clear b3 B4 CK
  go_wp2_with fail
  refine (PN.out _ B5.out).mono ?_
  rintro e w6 ⟨rfl, b3⟩
  have B6 := hide (bel_trans B5.out b3)
  clear b3 B5
  go_wp2_with fail
  refine (P3.out _ B6.out).mono ?_
  rintro e w7 ⟨vF, rfl, c2, b2⟩
  have CK := hide (PC.out _ b2 _ _ _ c2)
  have B7 := hide b2
  rw [show erR p (readM (oneF [x1, x25])) = errV p 8 by rw [read_c]; rfl] at CK
  clear c2 b2 P3
  go_wp2_with fail
  refine CK.out.mono ?_
  rintro e w8 ⟨rfl, b3⟩
  have B8 := hide (bel_trans B7.out b3)
  clear b3 B7 CK
  go_wp2_with fail
  refine (PN.out _ B8.out).mono ?_
  rintro e w9 ⟨rfl, b3⟩
  have B9 := hide (bel_trans B8.out b3)
  clear b3 B8
  go_wp2_with fail
  go_ret
  exact ⟨rfl, B9.out⟩
end Go.Proofs.YtlheflkdapckbaaDoor.Ck

/- ProofreadStack's codes, by the model. No Go text is walked here. -/
namespace Go.Proofs.YtlheflkdapckbaaDoor.Ck
open Go.RowKit

def i1 : In5 := ⟨1, 0, 0, 0, 0⟩
def i11 : In5 := ⟨11, 1, 0, 0, 0⟩
def i7 : In5 := ⟨7, 0, 0, 0, 0⟩
def i25 : In5 := ⟨25, 0, 0, 0, 0⟩
def oneP (B : List In5) : Cd := ⟨[1], 0, 0, [], [⟨0, 0, []⟩], B, 0⟩
def stackL (n : Nat) : List In5 := List.replicate n i1 ++ List.replicate (n - 1) i11 ++ [i7, i25]
def ssN (n i : Nat) : List Int := List.replicate (min i (2 * n - i)) 1
theorem stack_len {n : Nat} (h : 1 ≤ n) : (stackL n).length = 2 * n + 1 := by
  unfold stackL
  simp
  omega
theorem stack_1 {n i : Nat} (h : i < n) : (stackL n).getD i zI = i1 := by
  unfold stackL
  rw [List.getD_eq_getElem?_getD, List.append_assoc, List.getElem?_append_left (by simpa using h), List.getElem?_replicate, if_pos h]
  rfl
theorem stack_2 {n i : Nat} (h : n ≤ i) (h2 : i < 2 * n - 1) : (stackL n).getD i zI = i11 := by
  unfold stackL
  rw [List.getD_eq_getElem?_getD, List.append_assoc, List.getElem?_append_right (by simpa using h), List.getElem?_append_left (by simp; omega), List.getElem?_replicate, if_pos (by simp; omega)]
  rfl
theorem stack_3 {n : Nat} (h : 1 ≤ n) : (stackL n).getD (2 * n - 1) zI = i7 := by
  unfold stackL
  rw [List.getD_eq_getElem?_getD, List.getElem?_append_right (by simp; omega)]
  simp only [List.length_append, List.length_replicate]
  rw [show 2 * n - 1 - (n + (n - 1)) = 0 by omega]
  rfl
theorem stack_4 {n : Nat} (h : 1 ≤ n) : (stackL n).getD (2 * n) zI = i25 := by
  unfold stackL
  rw [List.getD_eq_getElem?_getD, List.getElem?_append_right (by simp; omega)]
  simp only [List.length_append, List.length_replicate]
  rw [show 2 * n - (n + (n - 1)) = 1 by omega]
  rfl
theorem pop_rep (k : Nat) : popM (List.replicate (k + 1) 1) = some (1, List.replicate k 1) := by
  unfold popM
  rw [List.replicate_succ', List.getLast?_concat, List.dropLast_concat]
theorem bin_rep (k : Nat) : binS 1 (List.replicate (k + 2) 1) = some (List.replicate (k + 1) 1) := by
  unfold binS
  rw [pop_rep (k + 1), Option.bind_some, pop_rep k, Option.bind_some]
  show (binM 1 1 1).map _ = _
  rw [show binM 1 1 1 = some 1 from rfl, List.replicate_succ' (n := k)]
  rfl
theorem stack_str {n i : Nat} (h : i < 2 * n) (lo : List Int) : Str (oneP (stackL n)) lo (ssN n) i := by
  unfold Str
  show _ ∧ _ ∧ _ ∧ _ ∧ _ ∧ changeM (oneP (stackL n)) lo ((stackL n).getD i zI) (ssN n i) = _
  have e0 : (oneP (stackL n)).B = stackL n := rfl
  rw [e0]
  by_cases h1 : i < n
  · rw [stack_1 h1]
    refine ⟨by decide, by decide, by decide, by decide, by decide, ?_⟩
    unfold ssN
    rw [show min i (2 * n - i) = i by omega, show min (i + 1) (2 * n - (i + 1)) = i + 1 by omega, List.replicate_succ']
    rfl
  · by_cases h2 : i < 2 * n - 1
    · rw [stack_2 (by omega) h2]
      refine ⟨by decide, by decide, by decide, by decide, by decide, ?_⟩
      unfold ssN
      obtain ⟨k, hk⟩ : ∃ k, 2 * n - i = k + 2 := ⟨2 * n - i - 2, by omega⟩
      rw [show min i (2 * n - i) = k + 2 by omega, show min (i + 1) (2 * n - (i + 1)) = k + 1 by omega]
      exact bin_rep k
    · obtain rfl : i = 2 * n - 1 := by omega
      rw [stack_3 (by omega)]
      refine ⟨by decide, by decide, by decide, by decide, by decide, ?_⟩
      unfold ssN
      rw [show min (2 * n - 1) (2 * n - (2 * n - 1)) = 1 by omega, show min (2 * n - 1 + 1) (2 * n - (2 * n - 1 + 1)) = 0 by omega]
      rfl
theorem stack_form {n : Nat} (h : 1 ≤ n) (h2 : n ≤ 100) : formB (oneP (stackL n)) = true := by
  have hl := stack_len h
  have e1 : ∀ B, insB (oneP B) i1 = true := fun B => rfl
  have e2 : ∀ B, insB (oneP B) i11 = true := fun B => rfl
  have e3 : ∀ B, insB (oneP B) i7 = true := fun B => rfl
  have e4 : ∀ B, insB (oneP B) i25 = true := fun B => rfl
  have hb : (stackL n).all (insB (oneP (stackL n))) = true := by
    rw [List.all_eq_true]
    intro x hx
    unfold stackL at hx
    simp only [List.mem_append, List.mem_replicate, List.mem_cons, List.not_mem_nil, or_false] at hx
    rcases hx with (⟨_, rfl⟩ | ⟨_, rfl⟩) | rfl | rfl
    · exact e1 _
    · exact e2 _
    · exact e3 _
    · exact e4 _
  unfold formB
  have e0 : (oneP (stackL n)).B = stackL n := rfl
  rw [e0, hb, hl]
  have m0 : mainB (oneP (stackL n)) = true := rfl
  rw [m0]
  simp [oneP, typB, fnB, stB, inN]
  omega
theorem le_deep {l : List (List Int)} {s : List Int} (h : s ∈ l) : s.length ≤ deepM l := by
  have hg : ∀ (m : List (List Int)) (a : Nat), a ≤ m.foldl (fun a s => max a s.length) a ∧ (∀ x ∈ m, x.length ≤ m.foldl (fun a s => max a s.length) a) := by
    intro m
    induction m with
    | nil => exact fun a => ⟨Nat.le_refl _, fun _ h => by cases h⟩
    | cons y m ih =>
      intro a
      obtain ⟨h1, h2⟩ := ih (max a y.length)
      refine ⟨Nat.le_trans (Nat.le_max_left _ _) h1, fun x hx => ?_⟩
      rcases List.mem_cons.1 hx with rfl | hx
      · exact Nat.le_trans (Nat.le_max_right _ _) h1
      · exact h2 x hx
  exact (hg l 0).2 s h
theorem stack_read {n : Nat} (h : 1 ≤ n) (h2 : n ≤ 100) : readM (oneP (stackL n)) = if n ≤ 64 then some ((List.range (2 * n + 1)).map (ssN n)) else none := by
  unfold readM
  rw [if_pos (stack_form h h2)]
  have hl : (oneP (stackL n)).B.length = 2 * n + 1 := stack_len h
  have hs : ∀ i, (ssN n i).length = min i (2 * n - i) := fun i => by unfold ssN; simp
  have e : funcsM (oneP (stackL n)) (oneP (stackL n)).F (beginM (oneP (stackL n))) = (goW (oneP (stackL n)) ⟨0, 0, []⟩ (oneP (stackL n)).B.length (stS (oneP (stackL n)).B.length (ssN n) 0)).bind (fun m => some m) := by
    show (functionM (oneP (stackL n)) ⟨0, 0, []⟩ (oneP (stackL n)).B.length (beginM (oneP (stackL n)))).bind _ = _
    unfold functionM
    rw [begin_str (ss := ssN n) (by unfold ssN; simp) (by omega)]
    rfl
  rw [e]
  unfold goW
  have hm : muW (stS (oneP (stackL n)).B.length (ssN n) 0) = 4 * n + 1 := by
    unfold muW stS
    rw [hl]
    simp
    omega
  rw [hm]
  by_cases h64 : n ≤ 64
  · rw [if_pos h64, show 4 * n + 1 = (2 * n + 1) + (2 * n - 0) by omega, go_run rfl (by omega) (Nat.zero_le _) (fun k _ hk => ⟨stack_str (by omega) _, by rw [hs]; omega⟩), go_ret (c := oneP (stackL n)) (ss := ssN n) (i := 2 * n) (by show ((stackL n).getD (2 * n) zI).op = 25; rw [stack_4 h]; rfl) (by unfold ssN; simp)]
    simp only [Option.bind_some, Option.map_some]
    unfold stE stS
    rw [hl]
    simp
  · rw [if_neg h64, show 4 * n + 1 = (4 * n - 64 + 1) + (64 - 0) by omega, go_run rfl (by omega) (Nat.zero_le _) (fun k _ hk => ⟨stack_str (by omega) _, by rw [hs]; omega⟩), go_no rfl (by rw [hs]; omega) (stack_str (by omega) _)]
    rfl
theorem stack_deep {n : Nat} (h : 1 ≤ n) (h2 : n ≤ 64) : deepM ((List.range (2 * n + 1)).map (ssN n)) = n := by
  apply Nat.le_antisymm
  · refine deep_le _ _ (fun s hs => ?_)
    obtain ⟨i, _, rfl⟩ := List.mem_map.1 hs
    unfold ssN
    simp
    omega
  · have := le_deep (l := (List.range (2 * n + 1)).map (ssN n)) (s := ssN n n) (List.mem_map.2 ⟨n, List.mem_range.2 (by omega), rfl⟩)
    unfold ssN at this
    simp at this
    unfold ssN
    omega
end Go.Proofs.YtlheflkdapckbaaDoor.Ck

/- A code that is made one instruction after another, in memory. No Go text is walked here. -/
namespace Go.Proofs.YtlheflkdapckbaaDoor.Ck
open Go.RowKit

/-- some instructions more -/
theorem pushL {w : World} {B : Nat} {v : Value} {l xs : List In5} {n : Nat} (h : OwnB w B v l) (hn : n = xs.length) (b c : Nat) (hb : w.heap[b]? = some (.cells (insL xs).toArray 44 (0, 0))) (hl : l.length + xs.length ≤ 100000) (hB : B ≤ w.heap.size) (ty : TypeId) :
    ∃ v' w', (Builtin.append_ #[25, 25] ty #[v, .slice (some ⟨b, 0, none⟩) n c]).run Tryd.prog w = .ok v' w' ∧ (OwnB w' B v' (l ++ xs) ∧ Below B w w') := by
  subst hn
  obtain ⟨ie, hi, hz0, hz1, hz2⟩ := info_parts info_ins
  have hn : ∀ j u, (insL xs)[j]? = some u → w.cell? ((⟨b, 0, none⟩ : Addr).add j) = some u := fun j u hu => by
    have e2 : (Addr.mk b 0 none).add j = ⟨b, j, none⟩ := by unfold Addr.add; by_cases h : j = 0 <;> simp [h]
    rw [e2]
    exact blk_cell hb j u (by rw [← hu]; simp)
  obtain ⟨v', w', hr, ho, hg, _⟩ := run_append_own (P := Tryd.prog) w B 25 ty 44 ie (.agg #[.int .i64 0, .int .i64 0, .int .i64 0, .int .u64 0, .int .i64 0]) 5 40 Tryd.underlying25 hi hz0 hz1 hz2 rfl (by decide) v l.length (insL l) h ⟨b, 0, none⟩ xs.length c (insL xs) (insL_len xs) hn (insL_one xs) (by unfold maxLen; omega) (by omega) hB
  have hown : ∀ k, v.ownBlock = some k → B ≤ k := fun k hk => (own_type h hk).1
  refine ⟨v', w', hr, ?_, hg.os, hg.tape, hg.output, hg.size, fun k hk => hg.block k (by omega) (fun e => by have := hown k e.symm; omega)⟩
  unfold OwnB
  rw [insL_app, List.length_append]
  exact ho
/-- the code that is made: its variable, two blocks behind, and what it has -/
structure SG (w wr : World) (v : Value) (L : List In5) : Prop where
  pl : wr.heap[w.heap.size]? = some (.cells #[.int .i64 1] 3 (0, 0))
  fn : wr.heap[w.heap.size + 1]? = some (.cells #[.int .i64 0, .int .i64 0, .slice none 0 0] 46 (0, 0))
  at_ : wr.heap[w.heap.size + 1 + 1]? = some (.cells #[.slice (some ⟨w.heap.size, 0, none⟩) 1 1, .int .i64 0, .int .i64 0, .slice none 0 0, .slice (some ⟨w.heap.size + 1, 0, none⟩) 1 1, .int .i64 0, v] 27 (0, 0))
  own : OwnB wr (w.heap.size + 3) v L
  bel : Below w.heap.size w wr
theorem SG.push {w wr wz : World} {v v' : Value} {L L' : List In5} (h : SG w wr v L) (ho : OwnB wz (w.heap.size + 3) v' L') (hb : Below (w.heap.size + 3) wr wz) : SG w (wz.setCell ⟨w.heap.size + 1 + 1, 6, none⟩ v') v' L' := by
  have hs := lt_of_blk h.at_
  have k0 := (hb.block _ (by omega)).trans h.pl
  have k1 := (hb.block _ (by omega)).trans h.fn
  have k2 := (hb.block _ (by omega)).trans h.at_
  have hz := hb.size
  have hst := size_setCell wz ⟨w.heap.size + 1 + 1, 6, none⟩ v'
  refine ⟨(Below.heap_setCell _ _ _ _ (show w.heap.size ≠ w.heap.size + 1 + 1 by omega)).trans k0, (Below.heap_setCell _ _ _ _ (show w.heap.size + 1 ≠ w.heap.size + 1 + 1 by omega)).trans k1, ?_, ?_, ?_⟩
  · have := heap_setCell_same wz (w.heap.size + 1 + 1) 6 _ _ v' k2
    simpa using this
  · exact own_keep ho fun k hk => Below.heap_setCell _ _ _ _ (fun e => by have h1 := (own_type ho hk).1; have e' : k = w.heap.size + 1 + 1 := e; omega)
  · refine ⟨hb.os.trans h.bel.os, hb.tape.trans h.bel.tape, hb.output.trans h.bel.output, ?_, fun k hk => ?_⟩
    · rw [hst]
      exact Nat.le_trans h.bel.size hb.size
    · exact (Below.heap_setCell _ _ _ _ (show k ≠ w.heap.size + 1 + 1 by omega)).trans ((hb.block k (by omega)).trans (h.bel.block k hk))
theorem SG.cv {w wr : World} {v : Value} {L : List In5} (h : SG w wr v L) (hl : L.length ≤ 100000) (hI : ∀ x ∈ L, InX x) : Cv wr (.slice (some ⟨w.heap.size, 0, none⟩) 1 1) (.slice none 0 0) (.slice (some ⟨w.heap.size + 1, 0, none⟩) 1 1) v (oneP L) := by
  have hF := h.fn
  refine ⟨⟨by show 1 ≤ _; omega, Nat.zero_le _, by show 1 ≤ _; omega, by show L.length ≤ _; omega, fun f hf => ?_, hI, fun h hh => by cases hh⟩, ?_, SlC.nilS wr, ?_, h.own.sl hl⟩
  · simp [oneP] at hf
    subst hf
    exact Nat.zero_le _
  · refine ⟨fun z hz => ?_, some ⟨w.heap.size, 0, none⟩, 1, rfl, Nat.le_refl _, by unfold maxLen; omega, fun i hi => ?_⟩
    · simp [oneP] at hz
      subst hz
      decide
    · obtain rfl : i = 0 := by simp [oneP] at hi; omega
      exact ⟨w.heap.size, 0, rfl, lt_of_blk h.pl, blk_cell h.pl 0 _ rfl⟩
  · refine ⟨some ⟨w.heap.size + 1, 0, none⟩, 1, rfl, Nat.le_refl _, by unfold maxLen; omega, fun i hi => ?_⟩
    obtain rfl : i = 0 := by simp [oneP] at hi; omega
    exact ⟨w.heap.size + 1, 0, .slice none 0 0, rfl, lt_of_blk hF, blk_cell hF 0 _ rfl, blk_cell hF 1 _ rfl, blk_cell hF 2 _ rfl, Sl.nilS wr⟩
end Go.Proofs.YtlheflkdapckbaaDoor.Ck

/- ProofreadLoops walked. -/
namespace Go.Proofs.YtlheflkdapckbaaDoor.Ck
open Go.RowKit

/-- the code that is made: its variable, two blocks behind, and what it has -/
structure SM (w wr : World) (v : Value) (L : List In5) : Prop where
  fn : wr.heap[w.heap.size]? = some (.cells #[.int .i64 0, .int .i64 0, .slice none 0 0] 46 (0, 0))
  at_ : wr.heap[w.heap.size + 1]? = some (.cells #[.slice none 0 0, .int .i64 1, .int .i64 0, .slice none 0 0, .slice (some ⟨w.heap.size, 0, none⟩) 1 1, .int .i64 0, v] 27 (0, 0))
  own : OwnB wr (w.heap.size + 2) v L
  bel : Below w.heap.size w wr
theorem SM.push {w wr wz : World} {v v' : Value} {L L' : List In5} (h : SM w wr v L) (ho : OwnB wz (w.heap.size + 2) v' L') (hb : Below (w.heap.size + 2) wr wz) : SM w (wz.setCell ⟨w.heap.size + 1, 6, none⟩ v') v' L' := by
  have hs := lt_of_blk h.at_
  have k1 := (hb.block _ (by omega)).trans h.fn
  have k2 := (hb.block _ (by omega)).trans h.at_
  have hz := hb.size
  have hst := size_setCell wz ⟨w.heap.size + 1, 6, none⟩ v'
  refine ⟨(Below.heap_setCell _ _ _ _ (show w.heap.size ≠ w.heap.size + 1 by omega)).trans k1, ?_, ?_, ?_⟩
  · have := heap_setCell_same wz (w.heap.size + 1) 6 _ _ v' k2
    simpa using this
  · exact own_keep ho fun k hk => Below.heap_setCell _ _ _ _ (fun e => by have h1 := (own_type ho hk).1; have e' : k = w.heap.size + 1 := e; omega)
  · refine ⟨hb.os.trans h.bel.os, hb.tape.trans h.bel.tape, hb.output.trans h.bel.output, ?_, fun k hk => ?_⟩
    · rw [hst]
      exact Nat.le_trans h.bel.size hb.size
    · exact (Below.heap_setCell _ _ _ _ (show k ≠ w.heap.size + 1 by omega)).trans ((hb.block k (by omega)).trans (h.bel.block k hk))
theorem SM.keep {w wr wz : World} {v : Value} {L : List In5} (h : SM w wr v L) (hb : Below wr.heap.size wr wz) : SM w wz v L :=
  ⟨(hb.block _ (lt_of_blk h.fn)).trans h.fn, (hb.block _ (lt_of_blk h.at_)).trans h.at_, h.own.below hb, bel_trans h.bel hb⟩
theorem SM.cv {w wr : World} {v : Value} {L : List In5} (h : SM w wr v L) (hl : L.length ≤ 100000) (hI : ∀ x ∈ L, InX x) : Cv wr (.slice none 0 0) (.slice none 0 0) (.slice (some ⟨w.heap.size, 0, none⟩) 1 1) v (oneM L) := by
  have hF := h.fn
  refine ⟨⟨Nat.zero_le _, Nat.zero_le _, by show 1 ≤ _; omega, by show L.length ≤ _; omega, fun f hf => ?_, hI, fun h hh => by cases hh⟩, Sl.nilS wr, SlC.nilS wr, ?_, h.own.sl hl⟩
  · simp [oneM] at hf
    subst hf
    exact Nat.zero_le _
  · refine ⟨some ⟨w.heap.size, 0, none⟩, 1, rfl, Nat.le_refl _, by unfold maxLen; omega, fun i hi => ?_⟩
    obtain rfl : i = 0 := by simp [oneM] at hi; omega
    exact ⟨w.heap.size, 0, .slice none 0 0, rfl, lt_of_blk hF, blk_cell hF 0 _ rfl, blk_cell hF 1 _ rfl, blk_cell hF 2 _ rfl, Sl.nilS wr⟩
/-- some instructions more, appended and stored -/
theorem SM.app {w wr : World} {v : Value} {L : List In5} (h : SM w wr v L) (xs : List In5) (n : Nat) (hn : n = xs.length) (hl : L.length + xs.length ≤ 100000) (ty : TypeId) :
    ∃ v' w', (Builtin.append_ #[25, 25] ty #[v, .slice (some ⟨wr.heap.size, 0, none⟩) n n]).run Tryd.prog (wr.alloc (.cells (insL xs).toArray 44)) = .ok v' w' ∧ ((∃ a k c, v' = .slice a k c) ∧ SM w (w'.setCell ⟨w.heap.size + 1, 6, none⟩ v') v' (L ++ xs) ∧ w'.cell? ⟨w.heap.size + 1, 6, none⟩ = some v ∧ w'.frozen? ⟨w.heap.size + 1, 6, none⟩ = false) := by
  have hs := lt_of_blk h.at_
  have hb := bel_new wr (.cells (insL xs).toArray 44)
  obtain ⟨v', w', hr, ho, hg⟩ := pushL (h.own.below hb) hn wr.heap.size n (Go.Deep.blk_alloc_new wr _) hl (by have := hb.size; omega) ty
  obtain ⟨a, c, e⟩ := ho.len
  have hg2 : Below (w.heap.size + 2) wr w' := (hb.mono (by omega)).trans hg
  have hat := (hg2.block _ (by omega)).trans h.at_
  exact ⟨v', w', hr, ⟨_, _, _, e⟩, h.push ho hg2, blk_cell hat 6 _ rfl, blk_frz hat 6⟩
theorem SM.start (w : World) : SM w ((w.alloc (.cells #[.int .i64 0, .int .i64 0, .slice none 0 0] 46)).alloc (.cells #[.slice none 0 0, .int .i64 1, .int .i64 0, .slice none 0 0, .slice (some ⟨w.heap.size, 0, none⟩) 1 1, .int .i64 0, .slice none 0 0] 27)) (.slice none 0 0) [] := by
  have b2 := bel_new w (.cells #[.int .i64 0, .int .i64 0, .slice none 0 0] 46)
  have k2 : (w.alloc (.cells #[.int .i64 0, .int .i64 0, .slice none 0 0] 46)).heap[w.heap.size]? = some (.cells #[.int .i64 0, .int .i64 0, .slice none 0 0] 46 (0, 0)) := Go.Deep.blk_alloc_new _ _
  have s2 : (w.alloc (.cells #[.int .i64 0, .int .i64 0, .slice none 0 0] 46)).heap.size = w.heap.size + 1 := by simp
  generalize w.alloc (.cells #[.int .i64 0, .int .i64 0, .slice none 0 0] 46) = w2 at *
  have b3 := bel_new w2 (.cells #[.slice none 0 0, .int .i64 1, .int .i64 0, .slice none 0 0, .slice (some ⟨w.heap.size, 0, none⟩) 1 1, .int .i64 0, .slice none 0 0] 27)
  have k3 : (w2.alloc (.cells #[.slice none 0 0, .int .i64 1, .int .i64 0, .slice none 0 0, .slice (some ⟨w.heap.size, 0, none⟩) 1 1, .int .i64 0, .slice none 0 0] 27)).heap[w2.heap.size]? = some (.cells #[.slice none 0 0, .int .i64 1, .int .i64 0, .slice none 0 0, .slice (some ⟨w.heap.size, 0, none⟩) 1 1, .int .i64 0, .slice none 0 0] 27 (0, 0)) := Go.Deep.blk_alloc_new _ _
  generalize w2.alloc (.cells #[.slice none 0 0, .int .i64 1, .int .i64 0, .slice none 0 0, .slice (some ⟨w.heap.size, 0, none⟩) 1 1, .int .i64 0, .slice none 0 0] 27) = w3 at *
  rw [s2] at k3
  exact ⟨(b3.block _ (by omega)).trans k2, k3, OwnB.nil _ _, bel_trans b2 b3⟩
theorem SM.appx {w wr : World} {v : Value} {L : List In5} (h : SM w wr v L) (x : In5) (hl : L.length + 1 ≤ 100000) (ty : TypeId) :
    ∃ v' w', (Builtin.append_ #[25, 25] ty #[v, .slice (some ⟨wr.heap.size + 1, 0, none⟩) 1 1]).run Tryd.prog ((wr.alloc (.cells #[.int .i64 x.op, .int .i64 x.a, .int .i64 x.b, .int .u64 x.bits, .int .i64 x.at_] 44)).alloc (.cells #[.int .i64 x.op, .int .i64 x.a, .int .i64 x.b, .int .u64 x.bits, .int .i64 x.at_] 44)) = .ok v' w' ∧ ((∃ a k c, v' = .slice a k c) ∧ SM w (w'.setCell ⟨w.heap.size + 1, 6, none⟩ v') v' (L ++ [x]) ∧ w'.cell? ⟨w.heap.size + 1, 6, none⟩ = some v ∧ w'.frozen? ⟨w.heap.size + 1, 6, none⟩ = false) := by
  have h1 := (h.keep (bel_new wr (.cells #[.int .i64 x.op, .int .i64 x.a, .int .i64 x.b, .int .u64 x.bits, .int .i64 x.at_] 44))).app [x] 1 rfl hl ty
  rw [show (wr.alloc (.cells #[.int .i64 x.op, .int .i64 x.a, .int .i64 x.b, .int .u64 x.bits, .int .i64 x.at_] 44)).heap.size = wr.heap.size + 1 by simp] at h1
  exact h1
theorem loop_in {m f t : Nat} (ht : t ≤ 1000) : ∀ x ∈ loopL m f t, InX x := fun x hx => by
  obtain ⟨i, _, rfl⟩ := List.mem_map.1 hx
  unfold loopI
  split
  · exact inX_of (by decide) (by omega) (by decide)
  · split
    · exact inX_of (by decide) (by decide) (by decide)
    · split <;> exact inX_of (by decide) (by decide) (by decide)
theorem small_mod (y : Int) (c : Nat) (h0 : 0 < c) (h1 : c ≤ 1000) : ∃ m : Nat, m < c ∧ wrap64 ((IntKind.u64.wrap y).tmod c) = m := by
  have hw : 0 ≤ IntKind.u64.wrap y := by
    show 0 ≤ y % 18446744073709551616
    omega
  obtain ⟨n, hn⟩ : ∃ n : Nat, IntKind.u64.wrap y = n := ⟨(IntKind.u64.wrap y).toNat, by omega⟩
  rw [hn]
  refine ⟨n % c, Nat.mod_lt _ h0, ?_⟩
  have h2 := Nat.mod_lt n h0
  rw [show ((n : Int).tmod (c : Int)) = ((n % c : Nat) : Int) from rfl]
  unfold wrap64
  omega
set_option maxRecDepth 20000 in
set_option maxHeartbeats 4000000 in
theorem loops_main {w : World} {p : List Addr} (ev : Errs17 w p) (x y z : Int) : Calls Tryd.prog 6 #[.int .i64 x, .int .i64 y, .int .i64 z] w (Vb w (.bool true)) := by
  have AL := hide (alive16_any ev)
  have E0 := hide ev
  obtain ⟨m0, hm0, em0⟩ := small_mod x 30 (by decide) (by decide)
  obtain ⟨m, hm⟩ : ∃ m, m = m0 + 2 := ⟨_, rfl⟩
  have em : wrap64 (2 + wrap64 ((IntKind.u64.wrap x).tmod 30)) = (m : Int) := by
    have e : wrap64 ((IntKind.u64.wrap x).tmod 30) = (m0 : Int) := em0
    rw [e]
    unfold wrap64
    omega
  obtain ⟨m1, hm1⟩ : ∃ m1, m1 = m - 1 := ⟨_, rfl⟩
  obtain ⟨f, hf, ef⟩ := small_mod y m1 (by omega) (by omega)
  obtain ⟨t, ht, et⟩ := small_mod z m (by omega) (by omega)
  have a1 : wrap64 ((m : Int) - 1) = (m1 : Int) := by unfold wrap64; omega
  have a2 : IntKind.u64.wrap (m1 : Int) = (m1 : Int) := by show (m1 : Int) % 18446744073709551616 = _; omega
  have a3 : IntKind.u64.wrap (m : Int) = (m : Int) := by show (m : Int) % 18446744073709551616 = _; omega
  have a4 : (m1 : Int) ≠ 0 := by omega
  have a5 : (m : Int) ≠ 0 := by omega
  have HM := hide (And.intro hm (And.intro hm0 hm1))
  have EM := hide em
  have EF := hide (And.intro ef et)
  clear ev em0 em hm hm1 ef et
  go_enter Tryd.func6, Tryd.ntmps6
  go_wp2_with fail
  refine AL.out.mono ?_
  rintro e w2 ⟨rfl, b2⟩
  have B2 := hide b2
  clear b2 AL
  go_wp2_with fail
  rw [EM.out]
  go_quiet (fail)
  rw [EF.out.1, EF.out.2]
  go_wp2_with fail
  rw [a1]
  have S0 := hide (SM.start (w2.drewN nq))
  have sz : (w2.drewN nq).heap.size = w2.heap.size := by simp
  have BD := hide (B2.out.trans ((drew_bel w2 nq).mono B2.out.size))
  rw [sz] at S0
  obtain ⟨g, hg⟩ : ∃ g, g = w2.heap.size + 1 := ⟨_, rfl⟩
  have HG : Hid (g = (w2.drewN nq).heap.size + 1) := hide (by rw [sz]; exact hg)
  have SZ := hide sz
  rw [← hg]
  clear hg sz
  generalize w2.drewN nq = wd at *
  generalize (wd.alloc (.cells #[.int .i64 0, .int .i64 0, .slice none 0 0] 46)).alloc (.cells #[.slice none 0 0, .int .i64 1, .int .i64 0, .slice none 0 0, .slice (some ⟨w2.heap.size, 0, none⟩) 1 1, .int .i64 0, .slice none 0 0] 27) = w3 at *
  go_loopw [8, 9, 34] (fun u8 u9 i wr => ∃ k : Nat, k ≤ m ∧ i = .int .i64 k ∧ Hid (∃ v, SM wd wr v ((List.range k).map (loopI m f t)))) (fun u8 u9 i _ => m - (intOf i).toNat)
  case atStart => exact ⟨0, Nat.zero_le _, rfl, _, S0.out⟩
  case round =>
    obtain ⟨k, hk, rfl, hS⟩ := hrel
    obtain ⟨v, hv⟩ := hS.out
    obtain ⟨a, c, rfl⟩ := hv.own.len
    have V := hide hv
    have y6 := blk_cell hv.at_ 6 _ rfl
    have hg1 := lt_of_blk hv.at_
    have y7 := fun cs => ((bel_new wr (.cells cs 44)).cell (p := ⟨wd.heap.size + 1, 6, none⟩) hg1).trans y6
    rw [← HG.out] at y6 y7 hg1
    by_cases hlt : k < m
    · have hlt' : (k : Int) < (m : Int) := by omega
      have hk31 : k ≤ 31 := by have := HM.out; omega
      have PU := hide (fun x ty => hv.appx x (by simp; omega) ty)
      have RL : Hid (∀ x, loopI m f t k = x → (List.range (k + 1)).map (loopI m f t) = (List.range k).map (loopI m f t) ++ [x]) := hide (fun x hx => by rw [List.range_succ, List.map_append, List.map_cons, List.map_nil, hx])
      rw [← HG.out] at PU
      generalize ((List.range k).map (loopI m f t)).length = n at *
      clear hS hv
      have tm : (k : Int).tmod 2 = ((k % 2 : Nat) : Int) := rfl
      by_cases h2 : k % 2 = 0
      · rw [h2] at tm
        by_cases hkf : k = f
        · have hkf' : (k : Int) = (f : Int) := by omega
          have hkm' : (k : Int) ≠ (m1 : Int) := by omega
          have hx : loopI m f t k = ⟨12, (t : Int), 0, 0, 0⟩ := by unfold loopI; rw [if_pos hkf]
          have HX := hide (RL.out _ hx)
          clear hx RL
          go_wp2_with (first | (at_builtin; refine wpList_appB (.tmp 53) (.tmp 55) _ _ _ (PU.out ⟨12, (t : Int), 0, 0, 0⟩) rfl rfl rfl rfl ?_; rintro v9 w9 ⟨⟨a9, k9, c9, rfl⟩, s9, x9, f9⟩; have R9 := hide s9; clear s9))
          go_roundw
          case rel => exact ⟨k + 1, by omega, by go_num, _, by rw [HX.out]; exact R9.out⟩
          case measure => simp [intOf]; omega
        · have hkf' : (k : Int) ≠ (f : Int) := by omega
          by_cases hkm : k = m1
          · have hkm' : (k : Int) = (m1 : Int) := by omega
            have hx : loopI m f t k = ⟨25, 0, 0, 0, 0⟩ := by unfold loopI; rw [if_neg hkf, if_pos (by have := HM.out; omega)]
            have HX := hide (RL.out _ hx)
            clear hx RL
            go_wp2_with (first | (at_builtin; refine wpList_appB (.tmp 53) (.tmp 55) _ _ _ (PU.out ⟨25, 0, 0, 0, 0⟩) rfl rfl rfl rfl ?_; rintro v9 w9 ⟨⟨a9, k9, c9, rfl⟩, s9, x9, f9⟩; have R9 := hide s9; clear s9))
            go_roundw
            case rel => exact ⟨k + 1, by omega, by go_num, _, by rw [HX.out]; exact R9.out⟩
            case measure => simp [intOf]; omega
          · have hkm' : (k : Int) ≠ (m1 : Int) := by omega
            have hx : loopI m f t k = ⟨24, 0, 0, 0, 0⟩ := by unfold loopI; rw [if_neg hkf, if_neg (by have := HM.out; omega), if_pos h2]
            have HX := hide (RL.out _ hx)
            clear hx RL
            go_wp2_with (first | (at_builtin; refine wpList_appB (.tmp 53) (.tmp 55) _ _ _ (PU.out ⟨24, 0, 0, 0, 0⟩) rfl rfl rfl rfl ?_; rintro v9 w9 ⟨⟨a9, k9, c9, rfl⟩, s9, x9, f9⟩; have R9 := hide s9; clear s9))
            go_roundw
            case rel => exact ⟨k + 1, by omega, by go_num, _, by rw [HX.out]; exact R9.out⟩
            case measure => simp [intOf]; omega
      · have h2' : k % 2 = 1 := by omega
        rw [h2'] at tm
        by_cases hkf : k = f
        · have hkf' : (k : Int) = (f : Int) := by omega
          have hkm' : (k : Int) ≠ (m1 : Int) := by omega
          have hx : loopI m f t k = ⟨12, (t : Int), 0, 0, 0⟩ := by unfold loopI; rw [if_pos hkf]
          have HX := hide (RL.out _ hx)
          clear hx RL
          go_wp2_with (first | (at_builtin; refine wpList_appB (.tmp 53) (.tmp 55) _ _ _ (PU.out ⟨12, (t : Int), 0, 0, 0⟩) rfl rfl rfl rfl ?_; rintro v9 w9 ⟨⟨a9, k9, c9, rfl⟩, s9, x9, f9⟩; have R9 := hide s9; clear s9))
          go_roundw
          case rel => exact ⟨k + 1, by omega, by go_num, _, by rw [HX.out]; exact R9.out⟩
          case measure => simp [intOf]; omega
        · have hkf' : (k : Int) ≠ (f : Int) := by omega
          by_cases hkm : k = m1
          · have hkm' : (k : Int) = (m1 : Int) := by omega
            have hx : loopI m f t k = ⟨25, 0, 0, 0, 0⟩ := by unfold loopI; rw [if_neg hkf, if_pos (by have := HM.out; omega)]
            have HX := hide (RL.out _ hx)
            clear hx RL
            go_wp2_with (first | (at_builtin; refine wpList_appB (.tmp 53) (.tmp 55) _ _ _ (PU.out ⟨25, 0, 0, 0, 0⟩) rfl rfl rfl rfl ?_; rintro v9 w9 ⟨⟨a9, k9, c9, rfl⟩, s9, x9, f9⟩; have R9 := hide s9; clear s9))
            go_roundw
            case rel => exact ⟨k + 1, by omega, by go_num, _, by rw [HX.out]; exact R9.out⟩
            case measure => simp [intOf]; omega
          · have hkm' : (k : Int) ≠ (m1 : Int) := by omega
            have hx : loopI m f t k = ⟨15, 0, 0, 0, 0⟩ := by unfold loopI; rw [if_neg hkf, if_neg (by have := HM.out; omega), if_neg h2]
            have HX := hide (RL.out _ hx)
            clear hx RL
            go_wp2_with (first | (at_builtin; refine wpList_appB (.tmp 53) (.tmp 55) _ _ _ (PU.out ⟨15, 0, 0, 0, 0⟩) rfl rfl rfl rfl ?_; rintro v9 w9 ⟨⟨a9, k9, c9, rfl⟩, s9, x9, f9⟩; have R9 := hide s9; clear s9))
            go_roundw
            case rel => exact ⟨k + 1, by omega, by go_num, _, by rw [HX.out]; exact R9.out⟩
            case measure => simp [intOf]; omega
    · obtain rfl : k = m := by omega
      have hat := hv.at_
      rw [← HG.out, SZ.out] at hat
      obtain ⟨g0, g1, g2, g3, g4, g5, g6⟩ := cells7 hat
      have BB := hide (BD.out.trans (hv.bel.mono BD.out.size))
      have LR := hide (loop_read (m := k) (f := f) (t := t) (by have := HM.out; omega) (by have := HM.out; omega) (by have := HM.out; omega) ht)
      have CK := hide (show Calls Tryd.prog 10 #[.agg #[.slice none 0 0, .int .i64 1, .int .i64 0, .slice none 0 0, .slice (some ⟨w2.heap.size, 0, none⟩) 1 1, .int .i64 0, .slice a ((List.range k).map (loopI k f t)).length c]] wr (Vb wr (erR p (readM (oneM (loopL k f t))))) from by
        have h1 := pcheck_any ((show Ec w p from E0.out.cell 8 (by omega)).bel BB.out) (hv.cv (by have := HM.out; simp; omega) (loop_in (by have := HM.out; omega)))
        rw [SZ.out] at h1
        exact h1)
      unfold erR at CK
      rw [LR.out] at CK
      generalize ((List.range k).map (loopI k f t)).length = n at *
      clear hS hv V y6 LR hat
      have tt : (t : Int).tmod 2 = ((t % 2 : Nat) : Int) := rfl
      by_cases q1 : f < t
      · have q1' : (f : Int) < (t : Int) := by omega
        rw [show (decide (f < t) || (decide (t < f) && decide (t % 2 = 0))) = true by simp [q1], if_pos rfl] at CK
        go_wp2_with fail
        refine CK.out.mono ?_
        rintro e w5 ⟨rfl, b5⟩
        have B5 := hide (bel_trans BB.out b5)
        clear b5 CK
        go_wp2_with fail
        go_ret
        exact ⟨rfl, B5.out⟩
      · have q1' : ¬ (f : Int) < (t : Int) := by omega
        by_cases q2 : t < f
        · have q2' : (t : Int) < (f : Int) := by omega
          by_cases q3 : t % 2 = 0
          · rw [q3] at tt
            rw [show (decide (f < t) || (decide (t < f) && decide (t % 2 = 0))) = true by simp [q2, q3], if_pos rfl] at CK
            go_wp2_with fail
            refine CK.out.mono ?_
            rintro e w5 ⟨rfl, b5⟩
            have B5 := hide (bel_trans BB.out b5)
            clear b5 CK
            go_wp2_with fail
            go_ret
            exact ⟨rfl, B5.out⟩
          · rw [show t % 2 = 1 by omega] at tt
            rw [show (decide (f < t) || (decide (t < f) && decide (t % 2 = 0))) = false by simp [q1, q3], if_neg (by simp)] at CK
            go_wp2_with fail
            refine CK.out.mono ?_
            rintro e w5 ⟨rfl, b5⟩
            have B5 := hide (bel_trans BB.out b5)
            clear b5 CK
            go_wp2_with fail
            go_ret
            exact ⟨rfl, B5.out⟩
        · have q2' : ¬ (t : Int) < (f : Int) := by omega
          rw [show (decide (f < t) || (decide (t < f) && decide (t % 2 = 0))) = false by simp [q1, q2], if_neg (by simp)] at CK
          go_wp2_with fail
          refine CK.out.mono ?_
          rintro e w5 ⟨rfl, b5⟩
          have B5 := hide (bel_trans BB.out b5)
          clear b5 CK
          go_wp2_with fail
          go_ret
          exact ⟨rfl, B5.out⟩
end Go.Proofs.YtlheflkdapckbaaDoor.Ck
