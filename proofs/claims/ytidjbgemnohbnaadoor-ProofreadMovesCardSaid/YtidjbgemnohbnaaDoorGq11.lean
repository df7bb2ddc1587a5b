/- Texts of this proof, packed. -/
import Derived.Test.YtidjbgemnohbnaaDoorGq10
/- Package proofread: Check, Deep. -/
namespace Go.Proofs.YtidjbgemnohbnaaDoor.Ck
open Go.RowKit

theorem ReadP.both {p : List Addr} {w w' : World} {c : Cd} {e : Ending} (h : ReadP p w c e w') : (∃ st v vs, readM c = some st ∧ e = .returned (.tuple #[v, .nilIface]) ∧ (st.length = c.B.length ∧ c.B.length ≤ 8192) ∧ w'.ownsRow 0 51 1 v st.length vs ∧ (∀ k, v.ownBlock = some k → w.heap.size ≤ k) ∧ (∀ (i : Nat) (s : List Int) (u : Value), st[i]? = some s → vs[i]? = some u → w'.ownsRow 0 3 1 u s.length (nts s) ∧ Fits s ∧ s.length ≤ 64) ∧ Below w.heap.size w w') ∨ (readM c = none ∧ e = .returned (.tuple #[.slice none 0 0, errV p 8]) ∧ Below w.heap.size w w') := by
  obtain ⟨h1, h2⟩ := h
  cases hr : readM c with
  | some st =>
    rw [hr] at h2
    obtain ⟨v, vs, q1, q0, q2, q3, q4⟩ := h2
    exact .inl ⟨st, v, vs, rfl, q1, q0, q2, q3, q4, h1⟩
  | none =>
    rw [hr] at h2
    exact .inr ⟨rfl, h2, h1⟩
/-- the error of a code that isn't right -/
def erR (p : List Addr) (o : Option (List (List Int))) : Value := if o.isSome = true then .nilIface else errV p 8
set_option maxRecDepth 20000 in
set_option maxHeartbeats 2000000 in
theorem pcheck_any {w : World} {p : List Addr} {vP vC vF vB : Value} {c : Cd} (hc : Ec w p) (h : Cv w vP vC vF vB c) : Calls Tryd.prog 8 #[codeA vP vC vF vB c] w (Vb w (erR p (readM c))) := by
  have B0 := hide (bel_new w (codeO vP vC vF vB c))
  have RD := hide (read_any (hc.bel B0.out) (h.bel B0.out))
  have V0 := Go.Deep.blk_alloc_new w (codeO vP vC vF vB c)
  obtain ⟨g0, g1, g2, g3, g4, g5, g6⟩ := cells7 V0
  unfold codeO at *
  unfold codeA at RD ⊢
  clear hc h V0
  go_enter Tryd.func8, Tryd.ntmps8
  go_wp2_with fail
  refine RD.out.mono ?_
  intro e w2 hp
  rcases hp.both with ⟨st, v, vs, hr, rfl, _, _, _, _, hb⟩ | ⟨hr, rfl, hb⟩
  · have HB := hide (bel_trans B0.out hb)
    have HR : Hid (erR p (readM c) = .nilIface) := hide (by rw [hr]; rfl)
    clear hp hr hb RD g0 g1 g2 g3 g4 g5 g6
    go_wp2_with fail
    go_ret
    refine ⟨?_, HB.out⟩
    rw [HR.out]
    rfl
  · have HB := hide (bel_trans B0.out hb)
    have HR : Hid (erR p (readM c) = errV p 8) := hide (by rw [hr]; rfl)
    unfold errV at hp HR ⊢
    clear hp hr hb RD g0 g1 g2 g3 g4 g5 g6
    go_wp2_with fail
    go_ret
    refine ⟨?_, HB.out⟩
    rw [HR.out]
    rfl
/-- how deep the deepest of the first k is -/
def deepM (st : List (List Int)) : Nat := st.foldl (fun a s => max a s.length) 0
theorem deep_snoc (l : List (List Int)) (s : List Int) : deepM (l ++ [s]) = max (deepM l) s.length := by unfold deepM; rw [List.foldl_append]; rfl
theorem deep_le (l : List (List Int)) (n : Nat) (h : ∀ s ∈ l, s.length ≤ n) : deepM l ≤ n := by
  have hg : ∀ (m : List (List Int)) (a : Nat), a ≤ n → (∀ s ∈ m, s.length ≤ n) → m.foldl (fun a s => max a s.length) a ≤ n := by
    intro m
    induction m with
    | nil => intro a ha _; exact ha
    | cons s m ih => intro a ha hm; exact ih _ (Nat.max_le.mpr ⟨ha, hm s (by simp)⟩) (fun x hx => hm x (by simp [hx]))
  exact hg l 0 (Nat.zero_le _) h
end Go.Proofs.YtidjbgemnohbnaaDoor.Ck

/- Package proofread: Deep. -/
namespace Go.Proofs.YtidjbgemnohbnaaDoor.Ck
open Go.RowKit

theorem max_cast2 (x y : Nat) : (if x < y then (y : Int) else (x : Int)) = ((max x y : Nat) : Int) := by
  split <;> omega
theorem deep_take (st : List (List Int)) (k : Nat) (h : k < st.length) : deepM (st.take (k + 1)) = max (deepM (st.take k)) (st.getD k []).length := by
  rw [List.take_add_one, List.getElem?_eq_getElem h, Option.toList_some, deep_snoc, List.getD_eq_getElem?_getD, List.getElem?_eq_getElem h]
  rfl
/-- the stacks that read gives back, one by one -/
theorem row_at16 {w : World} {v : Value} {st : List (List Int)} {vs : List Value} (h : w.ownsRow 0 51 1 v st.length vs) (hr : ∀ (i : Nat) (s : List Int) (u : Value), st[i]? = some s → vs[i]? = some u → w.ownsRow 0 3 1 u s.length (nts s) ∧ Fits s ∧ s.length ≤ 64) (k : Nat) (hk : k < st.length) :
    ∃ b c a cs, v = .slice (some ⟨b, 0, none⟩) st.length c ∧ b < w.heap.size ∧ w.cell? ⟨b, k, none⟩ = some (.slice a (st.getD k []).length cs) ∧ w.ownsRow 0 3 1 (.slice a (st.getD k []).length cs) (st.getD k []).length (nts (st.getD k [])) ∧ (st.getD k []).length ≤ 64 := by
  obtain ⟨b, c, e, _⟩ := own_some h (by omega)
  subst e
  have hv : vs.length = st.length := by have := h.1; omega
  obtain ⟨u, hu⟩ : ∃ u, vs[k]? = some u := ⟨_, List.getElem?_eq_getElem (by omega)⟩
  have hs : st[k]? = some (st.getD k []) := by rw [List.getD_eq_getElem?_getD, List.getElem?_eq_getElem hk]; rfl
  obtain ⟨h1, _, h3⟩ := hr k _ u hs hu
  obtain ⟨a, cs, e, _⟩ := own_slice h1
  subst e
  exact ⟨b, c, a, cs, rfl, (own_type h (k := b) rfl).2.1, (own_cell h k _ hu).1, h1, h3⟩
def deepO (o : Option (List (List Int))) : Int := match o with | some st => (deepM st : Int) | none => 0
set_option maxRecDepth 20000 in
set_option maxHeartbeats 2000000 in
theorem pdeep_any {w : World} {p : List Addr} {vP vC vF vB : Value} {c : Cd} (hc : Ec w p) (h : Cv w vP vC vF vB c) : Calls Tryd.prog 9 #[codeA vP vC vF vB c] w (Vb w (.tuple #[.int .i64 (deepO (readM c)), erR p (readM c)])) := by
  have B0 := hide (bel_new w (codeO vP vC vF vB c))
  have RD := hide (read_any (hc.bel B0.out) (h.bel B0.out))
  have V0 := Go.Deep.blk_alloc_new w (codeO vP vC vF vB c)
  obtain ⟨g0, g1, g2, g3, g4, g5, g6⟩ := cells7 V0
  unfold codeO at *
  unfold codeA at RD ⊢
  clear hc h V0
  go_enter Tryd.func9, Tryd.ntmps9
  go_wp2_with fail
  refine RD.out.mono ?_
  intro e w2 hp
  rcases hp.both with ⟨st, v, vs, hr, rfl, ⟨qa, qb⟩, q1, q2, q3, hb⟩ | ⟨hr, rfl, hb⟩
  · have HB := hide (bel_trans B0.out hb)
    have HR : Hid (deepO (readM c) = (deepM st : Int) ∧ erR p (readM c) = .nilIface) := hide (by rw [hr]; exact ⟨rfl, rfl⟩)
    obtain ⟨a, cc, rfl, l1, l2⟩ := own_slice q1
    have RW := hide (row_at16 q1 q3)
    obtain ⟨n, hn⟩ : ∃ n, n = st.length := ⟨_, rfl⟩
    have HN := hide hn
    rw [← hn] at l1 RW ⊢
    have hnn : n ≤ 8192 := by omega
    have HD : Hid (∀ k, k < n → (if deepM (st.take k) < (st.getD k []).length then ((st.getD k []).length : Int) else (deepM (st.take k) : Int)) = (deepM (st.take (k + 1)) : Int)) := hide (fun k hk => by rw [max_cast2, deep_take st k (by have := HN.out; omega)])
    have HT : Hid (deepM (st.take n) = deepM st) := hide (by rw [HN.out, List.take_length])
    clear hp hr hb RD g0 g1 g2 g3 g4 g5 g6 q1 q2 q3 qa qb hn l1 l2
    go_wp2_with fail
    go_loopw [6, 8, 16] (fun x u8 i wr => ∃ k : Nat, k ≤ n ∧ i = .int .i64 k ∧ x = .int .i64 (deepM (st.take k)) ∧ wr = w2) (fun x u8 i _ => n - (intOf i).toNat)
    case atStart => exact ⟨0, Nat.zero_le _, rfl, rfl, rfl⟩
    case round =>
      obtain ⟨k, hk, rfl, rfl, rfl⟩ := hrel
      by_cases hlt : k < n
      · have hlt' : (k : Int) < (n : Int) := by omega
        obtain ⟨b, c', a1, c1, e, hb, y1, _, _⟩ := RW.out k hlt
        cases e
        have hd := hide (HD.out k hlt)
        clear RW HD HT
        obtain ⟨d2, hd2⟩ : ∃ d, d = deepM (st.take (k + 1)) := ⟨_, rfl⟩
        rw [← hd2] at hd
        have HD2 := hide hd2
        clear hd2
        generalize deepM (st.take k) = d1 at *
        generalize (st.getD k []).length = sl at *
        go_wp2_with fail
        go_roundw
        case rel => exact ⟨k + 1, by omega, by go_num, by rw [hd.out, HD2.out], trivial⟩
        case measure => simp [intOf]; omega
      · obtain rfl : k = n := by omega
        clear RW HD
        go_wp2_with fail
        go_ret2
        refine ⟨?_, HB.out⟩
        rw [HR.out.1, HR.out.2, HT.out]
        rfl
  · have HB := hide (bel_trans B0.out hb)
    have HR : Hid (deepO (readM c) = 0 ∧ erR p (readM c) = errV p 8) := hide (by rw [hr]; exact ⟨rfl, rfl⟩)
    unfold errV at hp HR ⊢
    clear hp hr hb RD g0 g1 g2 g3 g4 g5 g6
    go_wp2_with fail
    go_loopw [6, 8, 16] (fun x u8 i wr => i = .int .i64 0 ∧ x = .int .i64 0 ∧ wr = w2) (fun x u8 i _ => 0)
    case atStart => exact ⟨rfl, rfl, rfl⟩
    case round =>
      obtain ⟨rfl, rfl, rfl⟩ := hrel
      go_wp2_with fail
      go_ret2
      refine ⟨?_, HB.out⟩
      rw [HR.out.1, HR.out.2]
      rfl
end Go.Proofs.YtidjbgemnohbnaaDoor.Ck

/- Package proofread: Stacks. -/
namespace Go.Proofs.YtidjbgemnohbnaaDoor.Ck
open Go.RowKit

theorem infoSl : (Tryd.prog.info? 22).map (fun i => (i.zero, i.size, i.bytes)) = some (some (.slice none 0 0), 1, 24) := by kernel_rfl
theorem belGrown {w w' : World} {B : Nat} {b : Option Nat} (h : w.grownBy w' b) (hb : ∀ k, b = some k → B ≤ k) (hB : B ≤ w.heap.size) : Below B w w' := ⟨h.os, h.tape, h.output, h.size, fun k hk => h.block k (by omega) (fun e => by have := hb k e.symm; omega)⟩
/-- one list more -/
theorem pushS {w : World} {B : Nat} {v : Value} {vs : List Value} {n : Nat} (hn : n = vs.length) (hl : n ≤ 100000) (ho : w.ownsRow B 22 1 v n vs) (hB : B ≤ w.heap.size) (x : Value) (h1 : x.oneCell' = true) (ty : TypeId) :
    ∃ v' w', (Builtin.append_ #[30, 30] ty #[v, .slice (some ⟨w.heap.size, 0, none⟩) 1 1]).run Tryd.prog (w.alloc (.cells #[x] 22)) = .ok v' w' ∧ ((∃ a c, v' = .slice a (n + 1) c) ∧ w'.ownsRow B 22 1 v' (n + 1) (vs ++ [x]) ∧ w.grownBy w' v.ownBlock ∧ (∀ k, v'.ownBlock = some k → B ≤ k)) := by
  obtain ⟨ie, hi, hz0, hz1, hz2⟩ := info_parts infoSl
  have hb := bel_new w (.cells #[x] 22)
  have o1 := own_keep ho (fun k hk => hb.block k (own_type ho hk).2.1)
  have hc : ∀ (j : Nat) (u : Value), ([x] : List Value)[j]? = some u → (w.alloc (.cells #[x] 22)).cell? ((⟨w.heap.size, 0, none⟩ : Addr).add j) = some u := fun j u hu => by
    rw [show (⟨w.heap.size, 0, none⟩ : Addr).add j = ⟨w.heap.size, j, none⟩ by unfold Addr.add; by_cases h : j = 0 <;> simp [h]]
    exact blk_cell (Go.Deep.blk_alloc_new w _) j u (by simpa using hu)
  obtain ⟨v', w', hr, ho', hg, _, hat⟩ := run_append_own_at (P := Tryd.prog) (w.alloc (.cells #[x] 22)) B 30 ty 22 ie _ 1 24 Tryd.underlying30 hi hz0 hz1 hz2 rfl (by decide) v n vs o1 ⟨w.heap.size, 0, none⟩ 1 1 [x] rfl hc (fun u hu => by simp at hu; subst hu; exact h1) (by unfold maxLen; omega) (by omega) (Nat.le_trans hB hb.size)
  obtain ⟨a9, c9, e9, _⟩ := own_slice ho'
  exact ⟨v', w', hr, ⟨_, _, e9⟩, ho', ⟨hg.os, hg.tape, hg.output, Nat.le_trans hb.size hg.size, fun k hk hne => (hg.block k (Nat.lt_of_lt_of_le hk hb.size) hne).trans (hb.block k hk)⟩, fun k hk => (own_type ho' hk).1⟩
/-- what Stacks gives back: the stacks that read finds, in a list of the call's own -/
def StP (p : List Addr) (w : World) (c : Cd) (e : Ending) (w' : World) : Prop := Below w.heap.size w w' ∧ match readM c with
  | some st => ∃ v vs, e = .returned (.tuple #[v, .nilIface]) ∧ (st.length = c.B.length ∧ c.B.length ≤ 8192) ∧ w'.ownsRow w.heap.size 22 1 v st.length vs ∧ ∀ (i : Nat) (s : List Int) (u : Value), st[i]? = some s → vs[i]? = some u → w'.ownsRow 0 3 1 u s.length (nts s) ∧ Fits s ∧ s.length ≤ 64
  | none => e = .returned (.tuple #[.slice none 0 0, errV p 8])
set_option maxRecDepth 20000 in
set_option maxHeartbeats 2000000 in
theorem pstacks_any {w : World} {p : List Addr} {vP vC vF vB : Value} {c : Cd} (hc : Ec w p) (h : Cv w vP vC vF vB c) : Calls Tryd.prog 7 #[codeA vP vC vF vB c] w (StP p w c) := by
  have B0 := hide (bel_new w (codeO vP vC vF vB c))
  have RD := hide (read_any (hc.bel B0.out) (h.bel B0.out))
  have V0 := Go.Deep.blk_alloc_new w (codeO vP vC vF vB c)
  obtain ⟨g0, g1, g2, g3, g4, g5, g6⟩ := cells7 V0
  unfold codeO at *
  unfold codeA at RD ⊢
  clear hc h V0
  go_enter Tryd.func7, Tryd.ntmps7
  go_wp2_with fail
  refine RD.out.mono ?_
  intro e w2 hp
  rcases hp.both with ⟨st, v, vs, hr, rfl, q0, q1, q2, q3, hb⟩ | ⟨hr, rfl, hb⟩
  · have HB := hide (bel_trans B0.out hb)
    have HR := hide hr
    have HQ := hide q0
    obtain ⟨a, cc, rfl, _, _⟩ := own_slice q1
    obtain ⟨n, hn⟩ : ∃ n, n = st.length := ⟨_, rfl⟩
    have HN := hide hn
    have HV := hide (show vs.length = n by have := q1.1; omega)
    have RW := hide (fun k (hk : k < n) wz (bz : Below w2.heap.size w2 wz) => (show ∃ b a1 n1 c1, a = some ⟨b, 0, none⟩ ∧ vs[k]? = some (.slice a1 n1 c1) ∧ wz.cell? ⟨b, k, none⟩ = some (.slice a1 n1 c1) from (by
      obtain ⟨b, c, e, _⟩ := own_some q1 (by omega)
      cases e
      obtain ⟨u, hu⟩ : ∃ u, vs[k]? = some u := ⟨_, List.getElem?_eq_getElem (by have := HV.out; omega)⟩
      have hs : st[k]? = some (st.getD k []) := by rw [List.getD_eq_getElem?_getD, List.getElem?_eq_getElem (by omega)]; rfl
      obtain ⟨h1, _, h3⟩ := q3 k _ u hs hu
      obtain ⟨a, cs, e, _⟩ := own_slice h1
      subst e
      exact ⟨b, _, _, _, rfl, hu, (bz.cell (p := ⟨b, k, none⟩) (own_type q1 (k := b) rfl).2.1).trans (own_cell q1 k _ hu).1⟩)))
    have Q3 := hide q3
    rw [← hn]
    have hnn : n ≤ 8192 := by omega
    clear hp hr hb RD g0 g1 g2 g3 g4 g5 g6 q0 q1 q2 q3 hn
    go_wp2_with fail
    go_loopw [6, 8, 16] (fun x u8 i wr => ∃ k : Nat, k ≤ n ∧ i = .int .i64 k ∧ Hid (wr.ownsRow w2.heap.size 22 1 x k (vs.take k) ∧ Below w2.heap.size w2 wr)) (fun x u8 i _ => n - (intOf i).toNat)
    case atStart => exact ⟨0, Nat.zero_le _, rfl, World.ownsRow_nil _ _ _ _, Below.refl _ _⟩
    case round =>
      obtain ⟨k, hk, rfl, hr⟩ := hrel
      obtain ⟨a6, c6, rfl, _, _⟩ := own_slice hr.out.1
      by_cases hlt : k < n
      · have hlt' : (k : Int) < (n : Int) := by omega
        obtain ⟨b, a1, n1, c1, rfl, hu, y1⟩ := RW.out k hlt wr hr.out.2
        have PU := hide (fun ty => pushS (n := k) (by rw [List.length_take, HV.out]; omega) (by omega) hr.out.1 hr.out.2.size (.slice a1 n1 c1) rfl ty)
        have HU := hide hu
        clear RW hu
        go_wp2_with (first | (at_builtin; refine wpList_appV (TS := 30) rfl (.tmp 20) (.tmp 22) rfl _ _ rfl rfl _ (PU.out _) ?_; rintro v9 w9 ⟨⟨a9, c9, rfl⟩, o9, g9, b9⟩; have R9 := hide (And.intro o9 (And.intro g9 b9)); clear o9 g9 b9))
        go_roundw
        case rel =>
          refine ⟨k + 1, by omega, by go_num, hide ⟨?_, ?_⟩⟩
          · rw [List.take_add_one, HU.out]
            exact R9.out.1
          · exact hr.out.2.trans (belGrown R9.out.2.1 (fun k hk => (own_type hr.out.1 hk).1) hr.out.2.size)
        case measure => simp [intOf]; omega
      · obtain rfl : k = n := by omega
        clear RW
        go_wp2_with fail
        go_ret2
        refine ⟨HB.out.trans (hr.out.2.mono HB.out.size), ?_⟩
        rw [HR.out]
        refine ⟨_, vs, rfl, HQ.out, ?_, fun i s u h1 h2 => ?_⟩
        · have h1 := hr.out.1
          rw [show vs.take k = vs by rw [← HV.out, List.take_length]] at h1
          rw [← HN.out]
          exact own_low h1 HB.out.size
        · obtain ⟨h3, h4⟩ := Q3.out i s u h1 h2
          exact ⟨own_keep h3 fun k hk => hr.out.2.block k (own_type h3 hk).2.1, h4⟩
  · have HB := hide (bel_trans B0.out hb)
    have HR := hide hr
    unfold errV at hp ⊢
    clear hp hr hb RD g0 g1 g2 g3 g4 g5 g6
    go_wp2_with fail
    go_loopw [6, 8, 16] (fun x u8 i wr => i = .int .i64 0 ∧ x = .slice none 0 0 ∧ wr = w2) (fun x u8 i _ => 0)
    case atStart => exact ⟨rfl, rfl, rfl⟩
    case round =>
      obtain ⟨rfl, rfl, rfl⟩ := hrel
      go_wp2_with fail
      go_ret2
      refine ⟨HB.out, ?_⟩
      rw [HR.out]
      rfl
end Go.Proofs.YtidjbgemnohbnaaDoor.Ck
