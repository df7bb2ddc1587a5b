/- Package sync: equal queues. (Written by mk_y.py.) -/
import Derived.Test.YtghfjnnmpmfboaaDoorXc
namespace Go.Proofs.YtghfjnnmpmfboaaDoor.Ck
open Go.RowKit

theorem eqIn_cc (w : World) (a b a' b' : Int) : (Op.equalIn 10000 52 (.agg #[.int .i64 a, .int .i64 b]) (.agg #[.int .i64 a', .int .i64 b'])).run Tryd.prog w = .ok (a == a' && b == b') w := by
  have hi : ∀ (x y : Int) (w : World), (Op.equalIn 9999 3 (.int .i64 x) (.int .i64 y)).run Tryd.prog w = .ok (x == y) w := fun x y w => run_equalIn_int w 9998 3 .i64 .i64 x y Tryd.underlying3
  have e : Tryd.prog.underlying 52 = some (.struct (Tryd.prog.fieldsOf 52)) := by kernel_rfl
  rw [show (10000 : Nat) = 9999 + 1 from rfl, run_equalIn_agg w 9999 52 _ _ e (by kernel_rfl)]
  have hf : (Tryd.prog.fieldsOf 52).toList.map (fun f => (f.name, f.type, f.offset)) = [("Type", 3, 0), ("Room", 3, 1)] := by kernel_rfl
  generalize (Tryd.prog.fieldsOf 52).toList = l at hf
  obtain ⟨f1, l1, rfl, h1, hf⟩ := List.map_eq_cons_iff.1 hf
  obtain ⟨f2, l2, rfl, h2, hf⟩ := List.map_eq_cons_iff.1 hf
  obtain rfl := List.map_eq_nil_iff.1 hf
  simp only [Prod.mk.injEq] at h1 h2
  simp [go_sem, Op.eqFields, h1, h2, hi]
  by_cases ha : a = a' <;> by_cases hb : b = b' <;> simp [ha, hb]
theorem eq_cc (w : World) (a b a' b' : Int) : (binOp .eql 52 (.agg #[.int .i64 a, .int .i64 b]) (.agg #[.int .i64 a', .int .i64 b'])).run Tryd.prog w = .ok (.bool (a == a' && b == b')) w := by
  rw [run_eql_struct, eqIn_cc]
  rfl
theorem neq_cc (w : World) (a b a' b' : Int) : (binOp .neq 52 (.agg #[.int .i64 a, .int .i64 b]) (.agg #[.int .i64 a', .int .i64 b'])).run Tryd.prog w = .ok (.bool (!(a == a' && b == b'))) w := by
  rw [run_neq_struct, eqIn_cc]
  rfl
def eqQ (q q' : Qu) : Bool := (q.t == q'.t && q.room == q'.room) && sameV q.l q'.l
def sameC : List Qu → List Qu → Bool
  | [], [] => true
  | q :: C, q' :: C' => eqQ q q' && sameC C C'
  | _, _ => false
theorem sameC_not : ∀ (C C' : List Qu) (k : Nat) (q q' : Qu), C[k]? = some q → C'[k]? = some q' → eqQ q q' = false → sameC C C' = false
  | [], _, k, q, q', h, _, _ => by simp at h
  | x :: C, [], k, q, q', _, h, _ => by simp at h
  | x :: C, y :: C', 0, q, q', h, h', e => by
    simp at h h'
    subst h h'
    simp [sameC, e]
  | x :: C, y :: C', k + 1, q, q', h, h', e => by simp [sameC, sameC_not C C' k q q' (by simpa using h) (by simpa using h') e]
theorem sameC_all : ∀ (C C' : List Qu), C.length = C'.length → (∀ (j : Nat) q q', C[j]? = some q → C'[j]? = some q' → eqQ q q' = true) → sameC C C' = true
  | [], [], _, _ => rfl
  | [], y :: C', h, _ => by simp at h
  | x :: C, [], h, _ => by simp at h
  | x :: C, y :: C', h, hall => by
    simp only [sameC, Bool.and_eq_true]
    exact ⟨hall 0 x y rfl rfl, sameC_all C C' (by simpa using h) (fun j q q' h1 h2 => hall (j + 1) q q' (by simpa using h1) (by simpa using h2))⟩
theorem sameC_len : ∀ (C C' : List Qu), C.length ≠ C'.length → sameC C C' = false
  | [], [], h => absurd rfl h
  | [], y :: C', _ => rfl
  | x :: C, [], _ => rfl
  | x :: C, y :: C', h => by simp [sameC, sameC_len C C' (by simpa using h)]
set_option maxRecDepth 20000 in
set_option maxHeartbeats 2000000 in
theorem sameQ {w : World} {t r t' r' : Int} {a a' : Option Addr} {n c n' c' : Nat} {l l' : List V3} (h1 : w.ownsRow 0 41 3 (.slice a n c) l.length (vcs l)) (h2 : w.ownsRow 0 41 3 (.slice a' n' c') l'.length (vcs l')) (hn : l.length ≤ 1000 ∧ l'.length ≤ 1000) :
    Calls Tryd.prog 63 #[.agg #[.int .i64 t, .int .i64 r, .slice a n c], .agg #[.int .i64 t', .int .i64 r', .slice a' n' c']] w (Vb w (.bool (eqQ ⟨t, r, l⟩ ⟨t', r', l'⟩))) := by
  have hb := bel_al (bel_new w (.cells #[.int .i64 t, .int .i64 r, .slice a n c] 98)) (.cells #[.int .i64 t', .int .i64 r', .slice a' n' c'] 98)
  have EF := hide (eqfV (own_keep h1 (fun k hk => hb.block k (own_type h1 hk).2.1)) (own_keep h2 (fun k hk => hb.block k (own_type h2 hk).2.1)) hn)
  have HB := hide hb
  have EC := eq_cc
  obtain ⟨x, hx⟩ : ∃ x, (t == t' && r == r') = x := ⟨_, rfl⟩
  have HE : Hid (eqQ ⟨t, r, l⟩ ⟨t', r', l'⟩ = (x && sameV l l')) := hide (by rw [← hx]; rfl)
  clear hb h1 h2
  generalize eqQ ⟨t, r, l⟩ ⟨t', r', l'⟩ = res at *
  generalize sameV l l' = y at *
  cases x with
  | true =>
    have he := HE.out
    rw [Bool.true_and] at he
    subst he
    clear HE
    go_enter Tryd.func63, Tryd.ntmps63
    go_wp2_with fail
    refine EF.out.mono ?_
    rintro e w1 ⟨rfl, hb1⟩
    go_wp2_with fail
    go_ret
    exact Vb.mk (by simp) (bel_trans HB.out hb1)
  | false =>
    have he := HE.out
    rw [Bool.false_and] at he
    subst he
    clear HE EF
    go_enter Tryd.func63, Tryd.ntmps63
    go_wp2_with fail
    go_ret
    exact Vb.mk (by simp) HB.out
set_option maxRecDepth 20000 in
set_option maxHeartbeats 2000000 in
theorem eqfQ {w : World} {v1 v2 : Value} {C C' : List Qu} {vs vs' : List Value} (h1 : w.ownsRow 0 98 3 v1 C.length (qcs C vs)) (h2 : w.ownsRow 0 98 3 v2 C'.length (qcs C' vs')) (hn : C.length ≤ 32 ∧ C'.length ≤ 32) (hv : vs.length = C.length) (hv' : vs'.length = C'.length)
    (hq : ∀ (i : Nat) (q : Qu) (v : Value), C[i]? = some q → vs[i]? = some v → w.ownsRow 0 41 3 v q.l.length (vcs q.l) ∧ q.l.length ≤ 1000) (hq' : ∀ (i : Nat) (q : Qu) (v : Value), C'[i]? = some q → vs'[i]? = some v → w.ownsRow 0 41 3 v q.l.length (vcs q.l) ∧ q.l.length ≤ 1000) :
    Calls Tryd.prog 62 #[v1, v2, .func (.func 63) #[] #[]] w (Vb w (.bool (sameC C C'))) := by
  obtain ⟨a1, c1, e1, _⟩ := own_slice h1
  obtain ⟨a2, c2, e2, _⟩ := own_slice h2
  subst e1 e2
  by_cases hl : C.length = C'.length
  · obtain ⟨n, hn1⟩ : ∃ n, n = C.length := ⟨_, rfl⟩
    have hs : Hid ((∀ (j : Nat) q q', j < n → C[j]? = some q → C'[j]? = some q' → eqQ q q' = true) → sameC C C' = true) := fun h => sameC_all C C' hl (fun j q q' h1 h2 => h j q q' (by have := (List.getElem?_eq_some_iff.1 h1).1; omega) h1 h2)
    have hs2 : Hid (∀ (k : Nat) q q', C[k]? = some q → C'[k]? = some q' → eqQ q q' = false → sameC C C' = false) := fun k q q' h1 h2 h3 => sameC_not C C' k q q' h1 h2 h3
    have H1 := hide h1
    have H2 := hide h2
    have HQ := hide (And.intro hq hq')
    have HL := hide (And.intro hn1 (And.intro hl (And.intro hv hv')))
    have hnn : n ≤ 32 := by omega
    rw [← hl, ← hn1]
    clear hl hn1 h1 h2 hn hq hq' hv hv'
    generalize sameC C C' = r at *
    go_enter Tryd.func62, Tryd.ntmps62
    go_wp2_with fail
    go_loopw [7, 8, 9, 17] (fun x7 x8 x9 i wr => ∃ k : Nat, k ≤ n ∧ i = .int .i64 k ∧ Hid (∀ (j : Nat) q q', j < k → C[j]? = some q → C'[j]? = some q' → eqQ q q' = true) ∧ Hid (Below w.heap.size w wr)) (fun x7 x8 x9 i _ => n - (intOf i).toNat)
    case atStart => exact ⟨0, Nat.zero_le _, rfl, fun j q q' hj => absurd hj (Nat.not_lt_zero _), Below.refl _ _⟩
    case round =>
      obtain ⟨k, hk, rfl, hall, hbel⟩ := hrel
      by_cases hlt : k < n
      · have hlt' : (k : Int) < (n : Int) := by omega
        obtain ⟨x, hx⟩ : ∃ x, C[k]? = some x := ⟨_, List.getElem?_eq_getElem (by have := HL.out; omega)⟩
        obtain ⟨y, hy⟩ : ∃ y, C'[k]? = some y := ⟨_, List.getElem?_eq_getElem (by have := HL.out; omega)⟩
        obtain ⟨vx, hvx⟩ : ∃ v, vs[k]? = some v := ⟨_, List.getElem?_eq_getElem (by have := HL.out; omega)⟩
        obtain ⟨vy, hvy⟩ : ∃ v, vs'[k]? = some v := ⟨_, List.getElem?_eq_getElem (by have := HL.out; omega)⟩
        obtain ⟨ox, nx⟩ := HQ.out.1 k x vx hx hvx
        obtain ⟨oy, ny⟩ := HQ.out.2 k y vy hy hvy
        obtain ⟨b1, c1', e1, _⟩ := own_some H1.out (by have := HL.out; omega)
        obtain ⟨b2, c2', e2, _⟩ := own_some H2.out (by have := HL.out; omega)
        cases e1
        cases e2
        obtain ⟨p0, p1, p2⟩ := qcs_at _ _ _ _ _ hx hvx
        obtain ⟨q0, q1, q2⟩ := qcs_at _ _ _ _ _ hy hvy
        rw [Nat.mul_comm] at p0 p1 p2 q0 q1 q2
        have hb1 := (own_type H1.out (k := b1) rfl).2.1
        have hb2 := (own_type H2.out (k := b2) rfl).2.1
        have r0 := (hbel.out.cell (p := ⟨b1, k * 3, none⟩) hb1).trans (own_cell H1.out _ _ p0).1
        have r1 := (hbel.out.cell (p := ⟨b1, k * 3 + 1, none⟩) hb1).trans (own_cell H1.out _ _ p1).1
        have r2 := (hbel.out.cell (p := ⟨b1, k * 3 + 2, none⟩) hb1).trans (own_cell H1.out _ _ p2).1
        have s0 := (hbel.out.cell (p := ⟨b2, k * 3, none⟩) hb2).trans (own_cell H2.out _ _ q0).1
        have s1 := (hbel.out.cell (p := ⟨b2, k * 3 + 1, none⟩) hb2).trans (own_cell H2.out _ _ q1).1
        have s2 := (hbel.out.cell (p := ⟨b2, k * 3 + 2, none⟩) hb2).trans (own_cell H2.out _ _ q2).1
        have hb1r : b1 < wr.heap.size := Nat.lt_of_lt_of_le hb1 hbel.out.size
        have hb2r : b2 < wr.heap.size := Nat.lt_of_lt_of_le hb2 hbel.out.size
        obtain ⟨t, rm, l⟩ := x
        obtain ⟨t', rm', l'⟩ := y
        simp only at ox oy nx ny r0 r1 r2 s0 s1 s2
        obtain ⟨ax, cx, ex, _⟩ := own_slice ox
        obtain ⟨ay, cy, ey, _⟩ := own_slice oy
        subst ex ey
        obtain ⟨nl, hnl⟩ : ∃ nl, nl = l.length := ⟨_, rfl⟩
        obtain ⟨nl', hnl'⟩ : ∃ nl, nl = l'.length := ⟨_, rfl⟩
        obtain ⟨bb, hbb⟩ : ∃ bb, eqQ ⟨t, rm, l⟩ ⟨t', rm', l'⟩ = bb := ⟨_, rfl⟩
        have HB := hide (bel_al (bel_al hbel.out (.cells #[.int .i64 t, .int .i64 rm, .slice ax l.length cx] 98)) (.cells #[.int .i64 t', .int .i64 rm', .slice ay l'.length cy] 98))
        have SM := hide (sameQ (t := t) (r := rm) (t' := t') (r' := rm') (own_keep ox (fun k hk => HB.out.block k (own_type ox hk).2.1)) (own_keep oy (fun k hk => HB.out.block k (own_type oy hk).2.1)) ⟨nx, ny⟩)
        rw [hbb] at SM
        have HY : Hid (bb = true → ∀ (j : Nat) q q', j < k + 1 → C[j]? = some q → C'[j]? = some q' → eqQ q q' = true) := fun e j q q' hj h1 h2 => by
          by_cases ej : j = k
          · subst ej
            rw [hx] at h1
            rw [hy] at h2
            cases h1
            cases h2
            exact hbb.trans e
          · exact hall.out j q q' (by omega) h1 h2
        have HNO : Hid (bb = false → r = false) := fun e => hs2.out k _ _ hx hy (hbb.trans e)
        clear hs hs2 hall hx hy p0 p1 p2 q0 q1 q2 hbb hbel H1 H2 HQ ox oy hvx hvy
        rw [← hnl] at r2 HB SM
        rw [← hnl'] at s2 HB SM
        clear hnl hnl'
        go_wp2_with fail
        refine SM.out.mono ?_
        rintro e w9 ⟨rfl, hb9⟩
        have HB9 := hide (bel_trans HB.out hb9)
        clear hb9 HB
        cases bb with
        | true =>
          have hy2 := hide (HY.out rfl)
          clear HY HNO
          go_wp2_with fail
          go_roundw
          case rel => exact ⟨k + 1, by omega, by go_num, hy2, HB9⟩
          case measure => simp [intOf]; omega
        | false =>
          have hn2 := HNO.out rfl
          subst hn2
          clear HY HNO
          go_wp2_with fail
          go_ret
          exact Vb.mk rfl HB9.out
      · obtain rfl : k = n := by omega
        have hr := hs.out (fun j q q' hj => hall.out j q q' hj)
        subst hr
        clear hs hs2 hall H1 H2 HQ
        go_wp2_with fail
        go_ret
        exact Vb.mk rfl hbel.out
  · have hs := sameC_len C C' hl
    rw [hs]
    have ht : ((C.length : Int) != (C'.length : Int)) = true := by rw [bne_iff_ne]; omega
    clear h1 h2 hs hl hq hq'
    go_enter Tryd.func62, Tryd.ntmps62
    go_wp2_with fail
    go_ret
    exact Vb.mk rfl (Below.refl _ _)
end Go.Proofs.YtghfjnnmpmfboaaDoor.Ck
