/- Texts of this proof, packed: contracts of the program's functions, and the plain model that they are held against. -/
import Derived.Test.YtghfjnnmpmfboaaDoorQao
import Derived.SizedLaws
set_option maxRecDepth 20000
set_option maxHeartbeats 4000000
namespace Go.Proofs.YtghfjnnmpmfboaaDoor.Ck
open Go.RowKit
def wrows : List Wt -> List Value -> List Value
 | x :: l, va :: vas => wcs x va ++ wrows l vas
 | _, _ => []
theorem wrows_snoc : ∀ (l : List Wt) (vas : List Value) (x : Wt) (va : Value), vas.length = l.length -> wrows (l ++ [x]) (vas ++ [va]) = wrows l vas ++ wcs x va
 | [], [], x, va, _ => by simp [wrows]
 | y :: l, vy :: vas, x, va, h => by simp [wrows, wrows_snoc l vas x va (by simpa using h)]
theorem wrows_at : ∀ (l : List Wt) (vas : List Value) (i j : Nat) (x : Wt) (va u : Value), l[i]? = some x -> vas[i]? = some va -> (wcs x va)[j]? = some u -> (wrows l vas)[7 * i + j]? = some u
 | [], vas, i, j, x, va, u, h, _, _ => by simp at h
 | y :: l, [], i, j, x, va, u, _, h, _ => by simp at h
 | y :: l, vy :: vas, 0, j, x, va, u, h, h', hu => by
  simp at h h'
  subst h h'
  have hj : j < (wcs y vy).length := (List.getElem?_eq_some_iff.1 hu).1
  simp only [wrows]
  rw [List.getElem?_append_left (by omega)]
  simpa using hu
 | y :: l, vy :: vas, i + 1, j, x, va, u, h, h', hu => by
  have := wrows_at l vas i j x va u (by simpa using h) (by simpa using h') hu
  simp only [wrows]
  rw [List.getElem?_append_right (by simp [wcs]; omega)]
  rw [show 7 * (i + 1) + j - (wcs y vy).length = 7 * i + j by simp [wcs]; omega]
  exact this
theorem info_wt : (Tryd.prog.info? 135).map (fun i => (i.zero, i.size, i.bytes)) = some (some (.agg #[.int .i64 0, .int .i64 0, .int .i64 0, .int .i64 0, .int .i64 0, .int .u64 0, .slice none 0 0]), 7, 72) := by kernel_rfl
theorem info_sw : (Tryd.prog.info? 83).map (fun i => (i.zero, i.size, i.bytes)) = some (some (.slice none 0 0), 1, 24) := by kernel_rfl
theorem run_mkS (n : Nat) (hn : n <= 2000) (w : World) : (Instr.makeSlice 59 (.int .i64 (n : Nat)) (.int .i64 (n : Nat))).run Tryd.prog w = .ok (.slice (some ⟨w.heap.size, 0, none⟩) n n) (w.alloc (.cells (madeCells #[.slice none 0 0] n) 83)) := by
 obtain ⟨i, hi, hz0, hz1, hz2⟩ := info_parts info_sw
 have hr := run_make (P := Tryd.prog) w 59 83 i (.slice none 0 0) Tryd.underlying59 hi hz0 .i64 .i64 n n (by omega) (by omega) (by rw [hz2]; omega) (by omega)
 simp only [Int.toNat_natCast, hz1, Nat.mul_one] at hr
 exact hr
theorem own_madeS (w : World) (n : Nat) (hn : n <= 2000) : (w.alloc (.cells (madeCells #[.slice none 0 0] n) 83)).ownsRow 0 83 1 (.slice (some ⟨w.heap.size, 0, none⟩) n n) n (List.replicate n (.slice none 0 0)) :=
 ⟨by simp, .inr ⟨w.heap.size, n, _, rfl, Nat.zero_le _, B_ _ _, Nat.le_refl _, by unfold maxLen; omega, by simp [madeCells], by
  rw [List.take_of_length_le]
  · apply List.ext_getElem?
    intro m
    by_cases hm : m < n
    · simp [madeCells, Nat.mod_one, hm]
    · simp [madeCells, Nat.mod_one, hm]
  · simp [madeCells]⟩⟩
theorem push_w {w : World} {B : Nat} {v : Value} {l : List Wt} {vas : List Value} {n : Nat} (hn : n = l.length) (hv : vas.length = l.length) (ho : w.ownsRow B 135 7 v n (wrows l vas)) (hl : l.length <= 2000) (hB : B <= w.heap.size) (x : Wt) (va : Value) (hva : va.oneCell' = true) (ty : TypeId) :
    ∃ v' w', (Builtin.append_ #[83, 83] ty #[v, .slice (some ⟨w.heap.size, 0, none⟩) 1 1]).run Tryd.prog (w.alloc (.cells #[.int .i64 x.k, .int .i64 x.o, .int .i64 x.a, .int .i64 x.v.1, .int .i64 x.v.2.1, .int .u64 x.v.2.2, va] 135)) = .ok v' w' ∧
      ((∃ a c, v' = .slice a (n + 1) c) /\ w'.ownsRow B 135 7 v' (n + 1) (wrows (l ++ [x]) (vas ++ [va])) /\ w.grownBy w' v.ownBlock /\ (∀ k, v'.ownBlock = some k -> v.ownBlock = some k ∨ w.heap.size <= k)) := by
  obtain ⟨ie, hi, hz0, hz1, hz2⟩ := info_parts info_wt
  have hb := Zd w (.cells #[.int .i64 x.k, .int .i64 x.o, .int .i64 x.a, .int .i64 x.v.1, .int .i64 x.v.2.1, .int .u64 x.v.2.2, va] 135)
  have o1 := Zk ho (fun k hk => hb.block k (Zf ho hk).2.1)
  have hc : ∀ (j : Nat) (u : Value), (wcs x va)[j]? = some u -> (w.alloc (.cells #[.int .i64 x.k, .int .i64 x.o, .int .i64 x.a, .int .i64 x.v.1, .int .i64 x.v.2.1, .int .u64 x.v.2.2, va] 135)).cell? ((⟨w.heap.size, 0, none⟩ : Addr).add j) = some u := fun j u hu => by
    rw [show (⟨w.heap.size, 0, none⟩ : Addr).add j = ⟨w.heap.size, j, none⟩ by unfold Addr.add; by_cases h : j = 0 <;> simp [h]]
    exact Zb (B_ w _) j u (by simpa [wcs] using hu)
  obtain ⟨v', w', hr, ho', hg, _, hat⟩ := run_append_own_at (P := Tryd.prog) (w.alloc (.cells #[.int .i64 x.k, .int .i64 x.o, .int .i64 x.a, .int .i64 x.v.1, .int .i64 x.v.2.1, .int .u64 x.v.2.2, va] 135)) B 83 ty 135 ie _ 7 72 Tryd.underlying83 hi hz0 hz1 hz2 rfl (by decide) v n (wrows l vas) o1 ⟨w.heap.size, 0, none⟩ 1 1 (wcs x va) rfl hc (fun u hu => by
      simp only [wcs, List.mem_cons, List.mem_nil_iff, or_false] at hu
      rcases hu with rfl | rfl | rfl | rfl | rfl | rfl | rfl
      all_goals first | rfl | exact hva) (by unfold maxLen; omega) (by omega) (Nat.le_trans hB hb.size)
  obtain ⟨a9, c9, e9, _⟩ := Zo ho'
  refine ⟨v', w', hr, ⟨_, _, e9⟩, by rw [wrows_snoc _ _ _ _ hv]; exact ho', ⟨hg.os, hg.tape, hg.output, Nat.le_trans hb.size hg.size, fun k hk hne => (hg.block k (Nat.lt_of_lt_of_le hk hb.size) hne).trans (hb.block k hk)⟩, fun k hk => ?_⟩
  rcases hat with e | e
  · exact .inl (e.symm.trans hk)
  · rw [e] at hk
    right
    have := Option.some.inj hk
    simp at this
    omega
def ArgC (w : World) (va : Value) : Prop := ∃ (a : Option Addr) (n c : Nat) (xs : List Value), va = .slice a n c /\ n <= 2000 /\ (∀ u ∈ xs, u.oneCell' = true) /\ ∀ w', Below w.heap.size w w' -> Calls Tryd.prog 42 #[va] w' (ClP w' 41 3 n xs)
theorem ArgC.bel {w w' : World} {va : Value} (h : ArgC w va) (hb : Below w.heap.size w w') : ArgC w' va := by
 obtain ⟨a, n, c, xs, h1, h2, h3, h4⟩ := h
 exact ⟨a, n, c, xs, h1, h2, h3, fun w'' h => h4 w'' (Zi hb h)⟩
theorem ArgC.nilS (w : World) : ArgC w (.slice none 0 0) := ⟨none, 0, 0, [], rfl, (by omega), (fun _ h => by cases h), (fun w' _ => cloneV2 (Yf _ _ _) (by omega) (fun _ h => by cases h))⟩
def WSrc (w : World) (v : Value) (l : List Wt) : Prop := ∃ (a : Option Addr) (c : Nat), v = .slice a l.length c /\ l.length <= 2000 /\ ∀ (j : Nat) (x : Wt), l[j]? = some x -> ∃ (b o : Nat) (va : Value), a = some ⟨b, o, none⟩ /\ b < w.heap.size /\ (∀ (q : Nat) (u : Value), (wcs x va)[q]? = some u -> w.cell? ⟨b, o + j * 7 + q, none⟩ = some u) /\ ArgC w va
def SSrc (w : World) (v : Value) (S : List (List Wt)) : Prop := ∃ (a : Option Addr) (c : Nat), v = .slice a S.length c /\ S.length <= 2000 /\ ∀ (i : Nat) (l : List Wt), S[i]? = some l -> ∃ (b o : Nat) (vi : Value), a = some ⟨b, o, none⟩ /\ b < w.heap.size /\ w.cell? ⟨b, o + i, none⟩ = some vi /\ WSrc w vi l
theorem WSrc.bel {w w' : World} {v : Value} {l : List Wt} (h : WSrc w v l) (hb : Below w.heap.size w w') : WSrc w' v l := by
 obtain ⟨a, c, h1, h2, h3⟩ := h
 refine ⟨a, c, h1, h2, fun j x hx => ?_⟩
 obtain ⟨b, o, va, e1, e2, e3, e4⟩ := h3 j x hx
 exact ⟨b, o, va, e1, Nat.lt_of_lt_of_le e2 hb.size, fun q u hu => (hb.cell (p := ⟨b, o + j * 7 + q, none⟩) e2).trans (e3 q u hu), e4.bel hb⟩
theorem SSrc.bel {w w' : World} {v : Value} {S : List (List Wt)} (h : SSrc w v S) (hb : Below w.heap.size w w') : SSrc w' v S := by
 obtain ⟨a, c, h1, h2, h3⟩ := h
 refine ⟨a, c, h1, h2, fun i l hl => ?_⟩
 obtain ⟨b, o, vi, e1, e2, e3, e4⟩ := h3 i l hl
 exact ⟨b, o, vi, e1, Nat.lt_of_lt_of_le e2 hb.size, (hb.cell (p := ⟨b, o + i, none⟩) e2).trans e3, e4.bel hb⟩
structure Sc (w wr : World) (vb ob n : Nat) (R : Nat -> Prop) (S : List (List Wt)) (i j : Nat) (vs : List Value) : Prop where
 var : wr.heap[vb]? = some (.cells #[.slice (some ⟨ob, 0, none⟩) n n] 59 (0, 0))
 row : wr.ownsRow 0 83 1 (.slice (some ⟨ob, 0, none⟩) n n) n vs
 old : ∀ (m : Nat) (l : List Wt) (v : Value), m < i -> S[m]? = some l -> vs[m]? = some v -> WRow wr R v l
 cur : ∀ (l : List Wt) (v : Value), S[i]? = some l -> vs[i]? = some v -> ∃ vas : List Value, vas.length = j /\ (∀ va ∈ vas, YA wr R va) /\ wr.ownsRow w.heap.size 135 7 v j (wrows (l.take j) vas) /\ ∀ k, v.ownBlock = some k -> ¬ R k
 new : ∀ (m : Nat) (v : Value), i < m -> vs[m]? = some v -> v = .slice none 0 0
 rr : ∀ k, R k -> w.heap.size <= k /\ k < wr.heap.size /\ k ≠ ob /\ k ≠ vb
 lo : w.heap.size <= ob /\ w.heap.size <= vb
 bel : Below w.heap.size w wr
section
variable {w wr wr' : World} {vb ob n : Nat} {R : Nat → Prop} {S : List (List Wt)} {i j : Nat} {vs : List Value}
theorem Sc.al (h : Sc w wr vb ob n R S i j vs) (hb : Below wr.heap.size wr wr') : Sc w wr' vb ob n R S i j vs := by
 have hR : ∀ k, R k -> wr'.heap[k]? = wr.heap[k]? := fun k hk => hb.block k (h.rr k hk).2.1
 exact { h with
  var := (hb.block vb (Ze h.var)).trans h.var
  row := Zk h.row fun k hk => hb.block k (Zf h.row hk).2.1
  old := fun m l v hm hl hv => (h.old m l v hm hl hv).keep hR fun _ h => h
  cur := fun l v hl hv => by
   obtain ⟨vas, h1, h2, h3, h4⟩ := h.cur l v hl hv
   exact ⟨vas, h1, fun va hva => (h2 va hva).keep hR fun _ h => h, Zk h3 fun k hk => hb.block k (Zf h3 hk).2.1, h4⟩
  rr := fun k hk => ⟨(h.rr k hk).1, Nat.lt_of_lt_of_le (h.rr k hk).2.1 hb.size, (h.rr k hk).2.2⟩
  bel := Zi h.bel hb }
theorem Sc.next (h : Sc w wr vb ob n R S i j vs) {l : List Wt} (hl : S[i]? = some l) (hj : j = l.length) (hn : n = S.length) : ∃ R', Sc w wr vb ob n R' S (i + 1) 0 vs := by
 have hi : i < n := by rw [hn]; exact (List.getElem?_eq_some_iff.1 hl).1
 have hvl : vs.length = n := by have := h.row.1; omega
 obtain ⟨v, hv⟩ : ∃ v, vs[i]? = some v := ⟨_, List.getElem?_eq_getElem (by omega)⟩
 obtain ⟨vas, c1, c2, c3, c4⟩ := h.cur l v hl hv
 rw [hj, List.take_length] at c3
 have hblk : ∀ k, v.ownBlock = some k -> w.heap.size <= k /\ k < wr.heap.size /\ k ≠ ob /\ k ≠ vb := fun k hk => ⟨(Zf c3 hk).1, (Zf c3 hk).2.1, fun e => Zp c3 h.row (by decide) k hk (by rw [e]; rfl), fun e => Zt c3 h.var (by decide) (by rw [hk, e])⟩
 refine ⟨fun k => R k ∨ v.ownBlock = some k, { h with
  old := fun m l' v' hm hl' hv' => ?_
  cur := fun l' v' hl' hv' => ?_
  new := fun m v' hm hv' => h.new m v' (by omega) hv'
  rr := fun k hk => hk.elim (h.rr k) (hblk k) }⟩
 · by_cases e : m = i
   · subst e
     rw [hl] at hl'
     rw [hv] at hv'
     cases hl'
     cases hv'
     obtain ⟨a, c, e1, e2, e3⟩ := Zo c3
     refine ⟨a, c, e1, e2, e3, fun q x hx => ?_⟩
     have hq : q < l.length := (List.getElem?_eq_some_iff.1 hx).1
     obtain ⟨va, hva⟩ : ∃ va, vas[q]? = some va := ⟨_, List.getElem?_eq_getElem (by omega)⟩
     obtain ⟨b, c', eb, _⟩ := Zv c3 (by omega)
     rw [e1] at eb
     cases eb
     subst e1
     refine ⟨b, 0, va, rfl, .inr rfl, fun p u hu => ?_, (c2 va (List.mem_of_getElem? hva)).keep (fun _ _ => rfl) fun _ h => .inl h⟩
     rw [Nat.zero_add]
     exact (Zm c3 _ _ (wrows_at l vas q p x va u hx hva hu)).1
   · exact (h.old m l' v' (by omega) hl' hv').keep (fun _ _ => rfl) fun _ h => .inl h
 · have := h.new (i + 1) v' (by omega) hv'
   subst this
   exact ⟨[], rfl, fun _ h => (by cases h), (by simp [wrows]; exact World.ownsRow_nil _ _ _ _), fun k hk => (by cases hk)⟩
theorem Sc.push (h : Sc w wr vb ob n R S i j vs) {l : List Wt} {x : Wt} (hl : S[i]? = some l) (hx : l[j]? = some x) (hin : i < n) {v va v' : Value} {w3 w9 : World} {vas : List Value} (hv : vs[i]? = some v) (c1 : vas.length = j) (c2 : ∀ va ∈ vas, YA wr R va) (c4 : ∀ k, v.ownBlock = some k -> ¬ R k /\ k < wr.heap.size)
    (hb3 : Below wr.heap.size wr w3) (ha : Ys wr.heap.size w3 va) (ho : w9.ownsRow w.heap.size 135 7 v' (j + 1) (wrows (l.take j ++ [x]) (vas ++ [va]))) (hg : w3.grownBy w9 v.ownBlock) (hb : ∀ k, v'.ownBlock = some k -> v.ownBlock = some k ∨ w3.heap.size <= k) (hvt : ∀ k, v.ownBlock = some k -> ∃ c, wr.heap[k]? = some (.cells c 135 (0, 0))) :
    ∃ R', Sc w (w9.setCell ⟨ob, i, none⟩ v') vb ob n R' S i (j + 1) (vs.set i v') := by
  have hne : ∀ {k : Nat}, k < wr.heap.size -> v.ownBlock ≠ some k -> k ≠ ob -> (w9.setCell ⟨ob, i, none⟩ v').heap[k]? = wr.heap[k]? := fun {k} hk h1 h2 => (Below.heap_setCell _ _ _ _ h2).trans ((hg.block k (Nat.lt_of_lt_of_le hk hb3.size) (fun e => h1 e.symm)).trans (hb3.block k hk))
  have hsz : (w9.setCell ⟨ob, i, none⟩ v').heap.size = w9.heap.size := Zg _ _ _
  have hvv : v.ownBlock ≠ some vb := fun e => by
    obtain ⟨c, hc⟩ := hvt vb e
    exact absurd rfl (Zn hc h.var (by decide))
  have hvo : v.ownBlock ≠ some ob := fun e => by
    obtain ⟨c, hc⟩ := hvt ob e
    exact Zt h.row hc (by decide) rfl
  have hvb : vb ≠ ob := fun e => Zt h.row h.var (by decide) (by rw [e]; rfl)
  have hobl : ob < wr.heap.size := (Zf h.row (k := ob) rfl).2.1
  have hR : ∀ k, R k -> (w9.setCell ⟨ob, i, none⟩ v').heap[k]? = wr.heap[k]? := fun k hk => hne (h.rr k hk).2.1 (fun e => (c4 k e).1 hk) (h.rr k hk).2.2.1
  have hva : ∀ k, va.ownBlock = some k -> wr.heap.size <= k /\ k < w3.heap.size := fun k hk => ha.at hk
  have hrow9 : w9.ownsRow 0 83 1 (.slice (some ⟨ob, 0, none⟩) n n) n vs := Zk h.row fun k hk => (hg.block k (Nat.lt_of_lt_of_le (Zf h.row hk).2.1 hb3.size) (fun e => hvo (by cases hk; exact e.symm))).trans (hb3.block k (Zf h.row hk).2.1)
  have hbel : Below w.heap.size w (w9.setCell ⟨ob, i, none⟩ v') := ((Zi h.bel hb3).grown hg (Nat.le_trans h.bel.size hb3.size) (fun k hk => by
    obtain ⟨vas', q1, q2, q3, q4⟩ := h.cur l v hl hv
    exact (Zf q3 hk).1)).setCell (p := ⟨ob, i, none⟩) h.lo.1 _
  refine ⟨fun k => R k ∨ va.ownBlock = some k, { var := (hne (Ze h.var) hvv hvb).trans h.var, row := Ye hrow9 i v', old := fun m l' v0 hm hl' hv0 => ?_, cur := fun l' v0 hl' hv0 => ?_, new := fun m v0 hm hv0 => ?_, rr := fun k hk => ?_, lo := h.lo, bel := hbel }⟩
  · rw [List.getElem?_set_ne (by omega)] at hv0
    exact (h.old m l' v0 hm hl' hv0).keep hR fun _ h => .inl h
  · rw [hl] at hl'
    cases hl'
    rw [List.getElem?_set_self (by have := h.row.1; omega)] at hv0
    cases hv0
    refine ⟨vas ++ [va], by simp [c1], fun u hu => ?_, ?_, fun k hk hR' => ?_⟩
    · rcases List.mem_append.1 hu with h1 | h1
      · exact (c2 u h1).keep hR fun _ h => .inl h
      · simp at h1
        subst h1
        refine YA.keep (w := w3) (R := fun k => u.ownBlock = some k) (ha.args (fun _ h => h)) (fun k hk => ?_) (fun _ h => .inr h)
        have h2 := hva k hk
        refine (Below.heap_setCell _ _ _ _ (by show k ≠ ob; omega)).trans (hg.block k h2.2 (fun e => ?_))
        have := (c4 k e.symm).2
        omega
    · have e : l.take (j + 1) = l.take j ++ [x] := by rw [List.take_add_one, hx]; rfl
      rw [e]
      exact Zk ho fun k hk => Below.heap_setCell _ _ _ _ (fun e => Zp ho hrow9 (by decide) k hk (by have e' : k = ob := e; rw [e']; rfl))
    · rcases hb k hk with h1 | h1
      · rcases hR' with h2 | h2
        · exact (c4 k h1).1 h2
        · have := (c4 k h1).2
          have := hva k h2
          omega
      · rcases hR' with h2 | h2
        · have := (h.rr k h2).2.1
          have := hb3.size
          omega
        · have := hva k h2
          omega
  · rw [List.getElem?_set_ne (by omega)] at hv0
    exact h.new m v0 hm hv0
  · have h9 := hg.size
    have h3 := hb3.size
    rw [hsz]
    rcases hk with h1 | h1
    · have := h.rr k h1
      exact ⟨this.1, by omega, this.2.2⟩
    · have h2 := hva k h1
      have h4 := h.bel.size
      have h5 := Ze h.var
      exact ⟨by omega, by omega, by omega, by omega⟩
end
theorem wclone_c {w : World} (k o a v0 v1 v2 : Int) (va : Value) (hA : ArgC w va) : Calls Tryd.prog 76 #[.agg #[.int .i64 k, .int .i64 o, .int .i64 a, .int .i64 v0, .int .i64 v1, .int .u64 v2, va]] w (WclP w k o a v0 v1 v2) := by
 obtain ⟨aa, n, ca, xs, rfl, hn, h1, hC⟩ := hA
 have B0 := Za (Zu (Zd w (.cells #[.int .i64 k, .int .i64 o, .int .i64 a, .int .i64 v0, .int .i64 v1, .int .u64 v2, .slice aa n ca] 135)) (.cells #[.int .i64 0, .int .i64 0, .int .i64 0, .int .i64 0, .int .i64 0, .int .u64 0, .slice none 0 0] 135))
 have V0 := Za ((Wv.new w k o a v0 v1 v2 (.slice aa n ca)).al (Zd _ (.cells #[.int .i64 0, .int .i64 0, .int .i64 0, .int .i64 0, .int .i64 0, .int .u64 0, .slice none 0 0] 135)))
 have V1 := Za (Wv.new (w.alloc (.cells #[.int .i64 k, .int .i64 o, .int .i64 a, .int .i64 v0, .int .i64 v1, .int .u64 v2, .slice aa n ca] 135)) 0 0 0 0 0 0 (.slice none 0 0))
 have hsz : (w.alloc (.cells #[.int .i64 k, .int .i64 o, .int .i64 a, .int .i64 v0, .int .i64 v1, .int .u64 v2, .slice aa n ca] 135)).heap.size = w.heap.size + 1 := by simp
 rw [hsz] at V1
 have CL := Za (hC _ B0.out)
 have H1 := Za h1
 clear h1 hC hsz
 go_enter Tryd.func76, Tryd.ntmps76
 go_wp2_with fail
 generalize (w.alloc _).alloc _ = w1 at *
 refine CL.out.mono ?_
 rintro e w2 ⟨a2, c2, rfl, o2, hb⟩
 have X1 := V0.out.al hb
 have X2 := V1.out.al hb
 obtain ⟨q0, q1, q2, q3, q4, q5, q6⟩ := X1.all
 obtain ⟨r0, r1, r2, r3, r4, r5, r6⟩ := X2.all
 have f6 := X1.frz 6
 have g0 := X2.frz 0
 have g1 := X2.frz 1
 have g2 := X2.frz 2
 have g3 := X2.frz 3
 have g4 := X2.frz 4
 have g5 := X2.frz 5
 have g6 := X2.frz 6
 have HX2 := Za X2
 have V1' := Za V1.out
 have B2 := Za (Zi B0.out hb)
 have O2 := Za (And.intro o2 B0.out.size)
 clear V0 V1 CL hb X1 X2 o2
 go_wp2_with fail
 have Y := ZQ ((Below.heap_setCell w2 ⟨w.heap.size, 6, none⟩ (.slice a2 n c2) (w.heap.size + 1) (by simp)).trans HX2.out) (.int .i64 k) (.int .i64 o) (.int .i64 a) (.int .i64 v0) (.int .i64 v1) (.int .u64 v2) (.slice a2 n c2)
 refine ret_wt (w.heap.size + 1) (v := (v0, v1, v2)) rfl rfl ⟨_, _, _, rfl⟩ Y rfl ⟨_, rfl, ⟨_, _, _, xs, rfl, hn, ?_, ?_⟩, ?_⟩
 · have hne : ∀ b, b = w.heap.size ∨ b = w.heap.size + 1 -> (Value.slice a2 n c2).ownBlock ≠ some b := fun b hb e => by
    have h1 := (Zf O2.out.1 e).1
    have h2 := Ze HX2.out
    have h3 := Ze V1'.out
    omega
   exact Zk (own_low O2.out.1 O2.out.2) fun k hk => (ZC (o := 0) (fun e => hne k (.inr e) hk)).trans (Below.heap_setCell _ _ _ _ (fun e => hne k (.inl e) hk))
 · exact H1.out
 · exact ZK (o := 0) (B2.out.setCell (p := ⟨w.heap.size, 6, none⟩) (Nat.le_refl _) _) (Nat.le_succ _)
def ScriptP (w : World) (S : List (List Wt)) (e : Ending) (w' : World) : Prop := ∃ vB R, e = .returned vB /\ Beg w' R vB S /\ (∀ k, R k -> w.heap.size <= k /\ k < w'.heap.size) /\ Below w.heap.size w w'
theorem Sc.beg {w wr : World} {vb ob n : Nat} {R : Nat -> Prop} {S : List (List Wt)} {vs : List Value} (h : Sc w wr vb ob n R S n 0 vs) (hn : n = S.length) (h2 : S.length <= 2000) : ∃ R', Beg wr R' (.func (.func 93) #[] #[.pointer (some ⟨vb, 0, none⟩)]) S /\ ∀ k, R' k -> w.heap.size <= k /\ k < wr.heap.size := by
 refine ⟨fun k => R k ∨ k = vb ∨ k = ob, ⟨vb, _, vs, rfl, .inr (.inl rfl), h.var, by rw [← hn]; exact h.row, fun k hk => by cases hk; exact .inr (.inr rfl), h2, fun i l v hl hv => (h.old i l v (by rw [hn]; exact (List.getElem?_eq_some_iff.1 hl).1) hl hv).keep (fun _ _ => rfl) fun _ h => .inl h⟩, fun k hk => ?_⟩
 rcases hk with h1 | rfl | rfl
 · exact ⟨(h.rr k h1).1, (h.rr k h1).2.1⟩
 · exact ⟨h.lo.2, Ze h.var⟩
 · exact ⟨h.lo.1, (Zf h.row rfl).2.1⟩
theorem scripted_any {w : World} {v : Value} {S : List (List Wt)} (h : SSrc w v S) : Calls Tryd.prog 67 #[v] w (ScriptP w S) := by
  have HS := Za h
  obtain ⟨a, c, rfl, h2, h3⟩ := h
  have H2 := Za h2
  obtain ⟨n, hn⟩ : ∃ n, n = S.length := ⟨_, rfl⟩
  rw [← hn] at h2 ⊢
  have HN := Za hn
  have hmk := run_mkS n h2
  have hmf : ∀ (fn : Fn) (first cap : Array Value) (w : World), (Instr.makeFunc fn first cap).run Tryd.prog w = .ok (.func fn first cap) w := fun _ _ _ _ => rfl
  have I0 : Hid (∃ R vs, Sc w ((w.alloc (.cells (madeCells #[.slice none 0 0] n) 83)).alloc (.cells #[.slice (some ⟨w.heap.size, 0, none⟩) n n] 59)) (w.heap.size + 1) w.heap.size n R S 0 0 vs) := Za (by
    have e1 := B_ (w.alloc (.cells (madeCells #[.slice none 0 0] n) 83)) (.cells #[.slice (some ⟨w.heap.size, 0, none⟩) n n] 59)
    have hs : (w.alloc (.cells (madeCells #[.slice none 0 0] n) 83)).heap.size = w.heap.size + 1 := by simp
    rw [hs] at e1
    have o1 := own_madeS w n h2
    refine ⟨fun _ => False, List.replicate n (.slice none 0 0), { var := e1, row := Zk o1 (fun k hk => (Zd _ _).block k (Zf o1 hk).2.1), old := fun m l v hm => absurd hm (Nat.not_lt_zero _), cur := fun l v hl hv => ?_, new := fun m v hm hv => ?_, rr := fun k hk => hk.elim, lo := ⟨Nat.le_refl _, Nat.le_succ _⟩, bel := Zu (Zd _ _) _ }⟩
    · have := List.eq_of_mem_replicate (List.mem_of_getElem? hv)
      subst this
      exact ⟨[], rfl, fun _ h => (by cases h), (by simp [wrows]; exact World.ownsRow_nil _ _ _ _), fun k hk => (by cases hk)⟩
    · exact List.eq_of_mem_replicate (List.mem_of_getElem? hv))
  clear h3 hn
  go_enter Tryd.func67, Tryd.ntmps67
  go_wp2_with fail
  generalize (w.alloc (.cells (madeCells #[.slice none 0 0] n) 83)).alloc _ = W0 at *
  have OB : Hid (w.heap.size < w.heap.size + 1) := Za (Nat.lt_succ_self _)
  obtain ⟨ob, hob⟩ : ∃ ob, ob = w.heap.size := ⟨_, rfl⟩
  obtain ⟨vb, hvb⟩ : ∃ vb, vb = w.heap.size + 1 := ⟨_, rfl⟩
  rw [← hvb] at I0 ⊢
  rw [← hob] at I0
  clear OB hmk hob hvb
  go_loopw [4, 5, 7, 13] (fun x4 x5 x7 i wr => ∃ (k : Nat), k <= n /\ i = .int .i64 k /\ Hid (∃ R vs, Sc w wr vb ob n R S k 0 vs)) (fun x4 x5 x7 i _ => n - (intOf i).toNat)
  case atStart => exact ⟨0, Nat.zero_le _, rfl, I0⟩
  case round =>
    obtain ⟨k, hk, rfl, HI⟩ := hrel
    by_cases hlt : k < n
    · have hlt' : (k : Int) < (n : Int) := by omega
      obtain ⟨l, hl⟩ : ∃ l, S[k]? = some l := ⟨_, List.getElem?_eq_getElem (by rw [← HN.out]; exact hlt)⟩
      have HW : Hid (∃ b o vi, a = some ⟨b, o, none⟩ /\ b < wr.heap.size /\ wr.cell? ⟨b, o + k, none⟩ = some vi /\ WSrc w vi l) := Za (by
        obtain ⟨R, vs, sc⟩ := HI.out
        obtain ⟨a', c', e', _, h3⟩ := HS.out
        cases e'
        obtain ⟨b, o, vi, e1, e2, e3, e4⟩ := h3 k l hl
        exact ⟨b, o, vi, e1, Nat.lt_of_lt_of_le e2 sc.bel.size, (sc.bel.cell (p := ⟨b, o + k, none⟩) e2).trans e3, e4⟩)
      obtain ⟨b, o, vi, rfl, hbl, hc1, hws⟩ := HW.out
      have HWS := Za hws
      obtain ⟨ai, ci, rfl, hm2, hws3⟩ := hws
      obtain ⟨m, hm⟩ : ∃ m, m = l.length := ⟨_, rfl⟩
      rw [← hm] at hc1 hm2 HWS
      have HM := Za hm
      have HL := Za hl
      clear HW hws3 hl hm
      go_wp2_with fail
      go_loopw [7, 20] (fun x7 i2 wr => ∃ (j : Nat), j <= m /\ i2 = .int .i64 j /\ Hid (∃ R vs, Sc w wr vb ob n R S k j vs)) (fun x7 i2 _ => m - (intOf i2).toNat)
      case atStart => exact ⟨0, Nat.zero_le _, rfl, HI⟩
      case round =>
        obtain ⟨j, hj, rfl, HJ⟩ := hrel
        by_cases hjt : j < m
        · have hjt' : (j : Int) < (m : Int) := by omega
          obtain ⟨R, vs, sc⟩ := HJ.out
          obtain ⟨x, hxj⟩ : ∃ x, l[j]? = some x := ⟨_, List.getElem?_eq_getElem (by rw [← HM.out]; exact hjt)⟩
          have HQ := HWS.out.bel sc.bel
          obtain ⟨ai', ci', ei', hq2, hq3⟩ := HQ
          cases ei'
          obtain ⟨b2, o2, va, rfl, hb2, hcl, hac⟩ := hq3 j x hxj
          obtain ⟨ax, nx, cx, xs, rfl, _⟩ := id hac
          obtain ⟨xk, xo, xa, x0, x1, x2⟩ := x
          have e0 : wr.cell? ⟨b2, o2 + j * 7, none⟩ = some (.int .i64 xk) := hcl 0 _ rfl
          have e1 : wr.cell? ⟨b2, o2 + j * 7 + 1, none⟩ = some (.int .i64 xo) := hcl 1 _ rfl
          have e2 : wr.cell? ⟨b2, o2 + j * 7 + 2, none⟩ = some (.int .i64 xa) := hcl 2 _ rfl
          have e3 : wr.cell? ⟨b2, o2 + j * 7 + 3, none⟩ = some (.int .i64 x0) := hcl 3 _ rfl
          have e4 : wr.cell? ⟨b2, o2 + j * 7 + 4, none⟩ = some (.int .i64 x1) := hcl 4 _ rfl
          have e5 : wr.cell? ⟨b2, o2 + j * 7 + 5, none⟩ = some (.int .u64 x2) := hcl 5 _ rfl
          have e6 : wr.cell? ⟨b2, o2 + j * 7 + 6, none⟩ = some (.slice ax nx cx) := hcl 6 _ rfl
          obtain ⟨v, hv⟩ : ∃ v, vs[k]? = some v := ⟨_, List.getElem?_eq_getElem (by have := sc.row.1; omega)⟩
          obtain ⟨vas0, d1, d2, d3, d4⟩ := sc.cur l v HL.out hv
          obtain ⟨av, cv, ev, _⟩ := Zo d3
          subst ev
          have HXJ := Za hxj
          have HV := Za hv
          have VL0 := Za (fun (q : Nat) (hq : (Value.slice av j cv).ownBlock = some q) => (Zf d3 hq).2.1)
          have AC := Za (hac.bel (Zd wr (.cells #[.int .i64 xk, .int .i64 xo, .int .i64 xa, .int .i64 x0, .int .i64 x1, .int .u64 x2, .slice ax nx cx] 135)))
          have SC := Za (sc.al (Zd wr (.cells #[.int .i64 xk, .int .i64 xo, .int .i64 xa, .int .i64 x0, .int .i64 x1, .int .u64 x2, .slice ax nx cx] 135)))
          have V7 := Za (Wv.new wr xk xo xa x0 x1 x2 (.slice ax nx cx))
          have OB : Hid (ob ≠ vb /\ ob < wr.heap.size /\ vb < wr.heap.size) := Za ⟨fun e => Zt sc.row sc.var (by decide) (by rw [e]; rfl), (Zf sc.row (k := ob) rfl).2.1, Ze sc.var⟩
          have KL0 : Hid (∀ q ∈ [vb, wr.heap.size], q < (wr.alloc (.cells #[.int .i64 xk, .int .i64 xo, .int .i64 xa, .int .i64 x0, .int .i64 x1, .int .u64 x2, .slice ax nx cx] 135)).drew.heap.size) := Za (fun q hq => by
            have h1 := V7.out.lt
            have h2 := OB.out
            show q < (wr.alloc (.cells #[.int .i64 xk, .int .i64 xo, .int .i64 xa, .int .i64 x0, .int .i64 x1, .int .u64 x2, .slice ax nx cx] 135)).heap.size
            simp only [List.mem_cons, List.mem_nil_iff, or_false] at hq
            rcases hq with rfl | rfl <;> omega)
          clear hq3 hcl hac hxj hv d1 d2 d3 d4 sc HJ
          go_upto_region 8 with fail
          obtain ⟨lw, hlw⟩ : ∃ lw, wr.heap.size = lw := ⟨_, rfl⟩
          rw [hlw] at V7 OB KL0 VL0 ⊢
          have VL := VL0
          generalize wr.alloc _ = W1 at *
          clear e0 e1 e2 e3 e4 e5 e6 hlw VL0
          refine wp_region_held_drew (S := fun w' => Yi [vb, lw] W1.drew w') ZU (Yi.refl KL0.out) (fun hH => ?_)
          have SC' := Za (SC.out.al (wr' := W1.drew) (below_drewN (Below.refl _ _) 1))
          clear SC
          have SC := SC'
          clear SC'
          have V7' : Hid (Wv W1.drew lw xk xo xa (x0, x1, x2) (.slice ax nx cx)) := V7
          clear V7
          have V7 := V7'
          clear V7'
          have CL := Za (wclone_c (w := W1.drew) xk xo xa x0 x1 x2 (.slice ax nx cx) (AC.out.bel (w' := W1.drew) (below_drewN (Below.refl _ _) 1)))
          obtain ⟨vas, cc1, cc2, cc3, cc4⟩ := SC.out.cur l _ HL.out HV.out
          have HC : Hid (vas.length = j /\ (∀ va ∈ vas, YA W1.drew R va) /\ W1.drew.ownsRow w.heap.size 135 7 (.slice av j cv) j (wrows (l.take j) vas) /\ ∀ k, (Value.slice av j cv).ownBlock = some k -> ¬ R k) := Za ⟨cc1, cc2, cc3, cc4⟩
          clear cc1 cc2 cc3 cc4
          have VN : Hid (∀ q ∈ [vb, lw], (Value.slice av j cv).ownBlock ≠ some q) := Za (fun q hq => by
            simp only [List.mem_cons, List.mem_nil_iff, or_false] at hq
            rcases hq with rfl | rfl
            · exact Zt HC.out.2.2.1 SC.out.var (by decide)
            · exact fun e => absurd (VL.out _ e) (by omega))
          have VO : Hid ((Value.slice av j cv).ownBlock ≠ some ob) := Za (fun e => Zp HC.out.2.2.1 SC.out.row (by decide) ob e rfl)
          have C0 : Hid (W1.drew.cell? ⟨vb, 0, none⟩ = some (.slice (some ⟨ob, 0, none⟩) n n)) := Za (Zb SC.out.var 0 _ rfl)
          generalize W1.drew = Y0 at *
          refine H_ 0 (v := ?_) ?_ hH ?_
          rotate_left 1
          · (intro w hSw; have q := hSw.cell (by simp) C0.out; clear hSw; go_simp <;> with_reducible rfl)
          simp only [Act.put, S_]
          refine H_ 1 (v := ?_) ?_ hH ?_
          rotate_left 1
          · (intro w _; go_simp <;> with_reducible rfl)
          simp only [Act.put, S_]
          refine H_ 2 (v := ?_) ?_ hH ?_
          rotate_left 1
          · (intro w hSw; have q := hSw.cell (by simp) C0.out; clear hSw; go_simp <;> with_reducible rfl)
          simp only [Act.put, S_]
          refine H_ 3 (v := ?_) ?_ hH ?_
          rotate_left 1
          · (intro w _; go_simp <;> with_reducible rfl)
          simp only [Act.put, S_]
          refine H_ 4 (v := ?_) ?_ hH ?_
          rotate_left 1
          · (intro w _; go_simp <;> with_reducible rfl)
          simp only [Act.put, S_]
          refine H_ 6 (v := ?_) ?_ hH ?_
          rotate_left 1
          · (intro w hSw; obtain ⟨z0, z1, z2, z3, z4, z5, z6⟩ := V7.out.all; have q0 := hSw.cell (by simp) z0; have q1 := hSw.cell (by simp) z1; have q2 := hSw.cell (by simp) z2; have q3 := hSw.cell (by simp) z3; have q4 := hSw.cell (by simp) z4; have q5 := hSw.cell (by simp) z5; have q6 := hSw.cell (by simp) z6; clear hSw; go_simp <;> with_reducible rfl)
          simp only [Act.put, S_]
          refine wpAnyH_ready (rs := [5, 7]) (by kernel_rfl) (by decide) ?_
          refine AllReadyH.cons rfl (fun K1 hK1 => ?_) (AllReadyH.cons rfl (fun K1 hK1 => ?_) AllReadyH.nil)
          · have q := (show Y0.cell? ⟨ob, k, none⟩ = some (.slice av j cv) from (Zm SC.out.row k _ HV.out).1)
            go_simp
            refine hK1.out _ _ hH (fun hH => ?_)
            clear hK1 K1 q
            refine wpAnyH_ready (rs := [7]) (by kernel_rfl) (by decide) ?_
            refine AllReadyH.cons rfl (fun K1 hK1 => ?_) AllReadyH.nil
            go_simp
            refine CL.out.mono ?_
            rintro e w3 ⟨v3, rfl, a3, b3⟩
            obtain ⟨a5, n5, c5, x5, rfl, _⟩ := id a3
            refine hK1.out _ _ (hH.al b3) (fun hH => ?_)
            clear hK1 K1
            have SC3 := Za (SC.out.al b3)
            have A3 := Za (And.intro a3 b3)
            clear a3 b3
            have PU := Za (fun ty => push_w (w := w3) (n := j) (l := l.take j) (vas := vas) (by simp; omega) (by simp; have := HC.out.1; omega) (Zk HC.out.2.2.1 (fun k hk => A3.out.2.block k (Zf HC.out.2.2.1 hk).2.1)) (by simp; omega) (Nat.le_trans SC.out.bel.size A3.out.2.size) ⟨xk, xo, xa, (x0, x1, x2)⟩ (.slice a5 n5 c5) rfl ty)
            refine wpAnyH_ready (rs := [8]) (by kernel_rfl) (by decide) ?_
            refine AllReadyH.cons rfl (fun K1 hK1 => ?_) AllReadyH.nil
            go_simp
            refine hK1.out _ _ (hH.al (Zd w3 _)) (fun hH => ?_)
            clear hK1 K1
            refine wpAnyH_ready (rs := [9]) (by kernel_rfl) (by decide) ?_
            refine AllReadyH.cons rfl (fun K1 hK1 => ?_) AllReadyH.nil
            refine Zz (TS := 83) (.tmp 29) (.tmp 32) _ _ _ (fun ty => PU.out ty) rfl rfl rfl rfl ?_
            rintro v9 w9 ⟨⟨a9, c9, rfl⟩, o9, g9, b9⟩
            refine hK1.out _ _ ⟨Nat.le_trans A3.out.2.size g9.size, hH.2.1, fun q hq => (g9.block q (Nat.lt_of_lt_of_le (hH.2.1 q hq) A3.out.2.size) (fun e => VN.out q hq e.symm)).trans (A3.out.2.block q (hH.2.1 q hq))⟩ (fun hH => ?_)
            clear hK1 K1
            have R9 := Za (And.intro o9 (And.intro g9 b9))
            clear o9 g9 b9
            refine H_ 10 (v := ?_) ?_ hH ?_
            rotate_left 1
            · (intro w _; go_simp <;> with_reducible rfl)
            simp only [Act.put, S_]
            refine wpAnyH_ready (rs := [11]) (by kernel_rfl) (by decide) ?_
            refine AllReadyH.cons rfl (fun K1 hK1 => ?_) AllReadyH.nil
            have OR : w9.ownsRow 0 83 1 (.slice (some ⟨ob, 0, none⟩) n n) n vs := Zk SC3.out.row (fun q hq => R9.out.2.1.block q (Zf SC3.out.row hq).2.1 (fun e => VO.out (by cases hq; exact e.symm)))
            obtain ⟨z1, z2⟩ := Zm OR k _ HV.out
            go_simp
            refine hK1.out _ _ (hH.turn (t := ob) (by rw [Zg]; exact Nat.le_refl _) (fun q _ hq => Below.heap_setCell _ _ _ _ hq) (fun hm => by have := OB.out; simp at hm; omega)) (fun hH => ?_)
            clear hK1 K1 z1 z2 OR
            refine wpAnyH_done (by kernel_rfl) ?_ _
            clear hH
            go_wp2_with fail
            go_roundw
            case rel =>
              obtain ⟨R', s9⟩ := SC.out.push HL.out HXJ.out (by omega) HV.out HC.out.1 HC.out.2.1 (fun q hq => ⟨HC.out.2.2.2 q hq, (Zf HC.out.2.2.1 hq).2.1⟩) A3.out.2 A3.out.1 (by have := R9.out.1; exact this) R9.out.2.1 R9.out.2.2 (fun q hq => (Zf HC.out.2.2.1 hq).2.2)
              exact ⟨j + 1, by omega, by go_num, Za ⟨R', _, s9⟩⟩
            case measure => simp [intOf]; omega
          · go_simp
            refine CL.out.mono ?_
            rintro e w3 ⟨v3, rfl, a3, b3⟩
            obtain ⟨a5, n5, c5, x5, rfl, _⟩ := id a3
            refine hK1.out _ _ (hH.al b3) (fun hH => ?_)
            clear hK1 K1
            have SC3 := Za (SC.out.al b3)
            have A3 := Za (And.intro a3 b3)
            clear a3 b3
            have PU := Za (fun ty => push_w (w := w3) (n := j) (l := l.take j) (vas := vas) (by simp; omega) (by simp; have := HC.out.1; omega) (Zk HC.out.2.2.1 (fun k hk => A3.out.2.block k (Zf HC.out.2.2.1 hk).2.1)) (by simp; omega) (Nat.le_trans SC.out.bel.size A3.out.2.size) ⟨xk, xo, xa, (x0, x1, x2)⟩ (.slice a5 n5 c5) rfl ty)
            refine wpAnyH_ready (rs := [5, 8]) (by kernel_rfl) (by decide) ?_
            refine AllReadyH.cons rfl (fun K1 hK1 => ?_) (AllReadyH.cons rfl (fun K1 hK1 => ?_) AllReadyH.nil)
            · have q := (show w3.cell? ⟨ob, k, none⟩ = some (.slice av j cv) from (Zm SC3.out.row k _ HV.out).1)
              go_simp
              refine hK1.out _ _ hH (fun hH => ?_)
              clear hK1 K1 q
              refine wpAnyH_ready (rs := [8]) (by kernel_rfl) (by decide) ?_
              refine AllReadyH.cons rfl (fun K1 hK1 => ?_) AllReadyH.nil
              go_simp
              refine hK1.out _ _ (hH.al (Zd w3 _)) (fun hH => ?_)
              clear hK1 K1
              refine wpAnyH_ready (rs := [9]) (by kernel_rfl) (by decide) ?_
              refine AllReadyH.cons rfl (fun K1 hK1 => ?_) AllReadyH.nil
              refine Zz (TS := 83) (.tmp 29) (.tmp 32) _ _ _ (fun ty => PU.out ty) rfl rfl rfl rfl ?_
              rintro v9 w9 ⟨⟨a9, c9, rfl⟩, o9, g9, b9⟩
              refine hK1.out _ _ ⟨Nat.le_trans A3.out.2.size g9.size, hH.2.1, fun q hq => (g9.block q (Nat.lt_of_lt_of_le (hH.2.1 q hq) A3.out.2.size) (fun e => VN.out q hq e.symm)).trans (A3.out.2.block q (hH.2.1 q hq))⟩ (fun hH => ?_)
              clear hK1 K1
              have R9 := Za (And.intro o9 (And.intro g9 b9))
              clear o9 g9 b9
              refine H_ 10 (v := ?_) ?_ hH ?_
              rotate_left 1
              · (intro w _; go_simp <;> with_reducible rfl)
              simp only [Act.put, S_]
              refine wpAnyH_ready (rs := [11]) (by kernel_rfl) (by decide) ?_
              refine AllReadyH.cons rfl (fun K1 hK1 => ?_) AllReadyH.nil
              have OR : w9.ownsRow 0 83 1 (.slice (some ⟨ob, 0, none⟩) n n) n vs := Zk SC3.out.row (fun q hq => R9.out.2.1.block q (Zf SC3.out.row hq).2.1 (fun e => VO.out (by cases hq; exact e.symm)))
              obtain ⟨z1, z2⟩ := Zm OR k _ HV.out
              go_simp
              refine hK1.out _ _ (hH.turn (t := ob) (by rw [Zg]; exact Nat.le_refl _) (fun q _ hq => Below.heap_setCell _ _ _ _ hq) (fun hm => by have := OB.out; simp at hm; omega)) (fun hH => ?_)
              clear hK1 K1 z1 z2 OR
              refine wpAnyH_done (by kernel_rfl) ?_ _
              clear hH
              go_wp2_with fail
              go_roundw
              case rel =>
                obtain ⟨R', s9⟩ := SC.out.push HL.out HXJ.out (by omega) HV.out HC.out.1 HC.out.2.1 (fun q hq => ⟨HC.out.2.2.2 q hq, (Zf HC.out.2.2.1 hq).2.1⟩) A3.out.2 A3.out.1 (by have := R9.out.1; exact this) R9.out.2.1 R9.out.2.2 (fun q hq => (Zf HC.out.2.2.1 hq).2.2)
                exact ⟨j + 1, by omega, by go_num, Za ⟨R', _, s9⟩⟩
              case measure => simp [intOf]; omega
            · go_simp
              refine hK1.out _ _ (hH.al (Zd w3 _)) (fun hH => ?_)
              clear hK1 K1
              refine wpAnyH_ready (rs := [5]) (by kernel_rfl) (by decide) ?_
              refine AllReadyH.cons rfl (fun K1 hK1 => ?_) AllReadyH.nil
              have q := (show (w3.alloc (.cells #[.int .i64 xk, .int .i64 xo, .int .i64 xa, .int .i64 x0, .int .i64 x1, .int .u64 x2, .slice a5 n5 c5] 135)).cell? ⟨ob, k, none⟩ = some (.slice av j cv) from (Zm (SC3.out.al (Zd w3 (.cells #[.int .i64 xk, .int .i64 xo, .int .i64 xa, .int .i64 x0, .int .i64 x1, .int .u64 x2, .slice a5 n5 c5] 135))).row k _ HV.out).1)
              go_simp
              refine hK1.out _ _ hH (fun hH => ?_)
              clear hK1 K1 q
              refine wpAnyH_ready (rs := [9]) (by kernel_rfl) (by decide) ?_
              refine AllReadyH.cons rfl (fun K1 hK1 => ?_) AllReadyH.nil
              refine Zz (TS := 83) (.tmp 29) (.tmp 32) _ _ _ (fun ty => PU.out ty) rfl rfl rfl rfl ?_
              rintro v9 w9 ⟨⟨a9, c9, rfl⟩, o9, g9, b9⟩
              refine hK1.out _ _ ⟨Nat.le_trans A3.out.2.size g9.size, hH.2.1, fun q hq => (g9.block q (Nat.lt_of_lt_of_le (hH.2.1 q hq) A3.out.2.size) (fun e => VN.out q hq e.symm)).trans (A3.out.2.block q (hH.2.1 q hq))⟩ (fun hH => ?_)
              clear hK1 K1
              have R9 := Za (And.intro o9 (And.intro g9 b9))
              clear o9 g9 b9
              refine H_ 10 (v := ?_) ?_ hH ?_
              rotate_left 1
              · (intro w _; go_simp <;> with_reducible rfl)
              simp only [Act.put, S_]
              refine wpAnyH_ready (rs := [11]) (by kernel_rfl) (by decide) ?_
              refine AllReadyH.cons rfl (fun K1 hK1 => ?_) AllReadyH.nil
              have OR : w9.ownsRow 0 83 1 (.slice (some ⟨ob, 0, none⟩) n n) n vs := Zk SC3.out.row (fun q hq => R9.out.2.1.block q (Zf SC3.out.row hq).2.1 (fun e => VO.out (by cases hq; exact e.symm)))
              obtain ⟨z1, z2⟩ := Zm OR k _ HV.out
              go_simp
              refine hK1.out _ _ (hH.turn (t := ob) (by rw [Zg]; exact Nat.le_refl _) (fun q _ hq => Below.heap_setCell _ _ _ _ hq) (fun hm => by have := OB.out; simp at hm; omega)) (fun hH => ?_)
              clear hK1 K1 z1 z2 OR
              refine wpAnyH_done (by kernel_rfl) ?_ _
              clear hH
              go_wp2_with fail
              go_roundw
              case rel =>
                obtain ⟨R', s9⟩ := SC.out.push HL.out HXJ.out (by omega) HV.out HC.out.1 HC.out.2.1 (fun q hq => ⟨HC.out.2.2.2 q hq, (Zf HC.out.2.2.1 hq).2.1⟩) A3.out.2 A3.out.1 (by have := R9.out.1; exact this) R9.out.2.1 R9.out.2.2 (fun q hq => (Zf HC.out.2.2.1 hq).2.2)
                exact ⟨j + 1, by omega, by go_num, Za ⟨R', _, s9⟩⟩
              case measure => simp [intOf]; omega
        · have ej : j = m := by omega
          subst ej
          have HJ2 : Hid (∃ R vs, Sc w wr vb ob n R S (k + 1) 0 vs) := Za (by
            obtain ⟨R, vs, sc⟩ := HJ.out
            obtain ⟨R', sc'⟩ := sc.next HL.out HM.out HN.out
            exact ⟨R', vs, sc'⟩)
          clear HJ
          go_wp2_with fail
          go_roundw
          case rel => exact ⟨k + 1, by omega, by go_num, HJ2⟩
          case measure => simp [intOf]; omega
    · have ek : k = n := by omega
      subst ek
      go_wp2_with fail
      go_ret
      obtain ⟨R, vs, sc⟩ := HI.out
      obtain ⟨R', b1, b2⟩ := sc.beg HN.out H2.out
      exact ⟨_, R', rfl, b1, b2, sc.bel⟩
end Go.Proofs.YtghfjnnmpmfboaaDoor.Ck
namespace Go.Proofs.YtghfjnnmpmfboaaDoor.Ck
open Go.ChangeShapes Go.WideShapes Go.ChangeAt Go.RowKit
theorem app_srcV {w : World} {T TS : TypeId} {sz bytes : Nat} {z src : Value} {n k B : Nat} {xs : List Value} (hu : Tryd.prog.underlying TS = some (.slice T)) (hinfo : (Tryd.prog.info? T).map (fun i => (i.zero, i.size, i.bytes)) = some (some z, sz, bytes)) (hz : z.cells.size = sz) (hby : bytes <= 100)
 (hk : w.heap[k]? = some (.cells #[] T (0, 0))) (hBk : B <= k) (hlen : xs.length = n * sz) (hS : Src Tryd.prog sz TS src n xs w) (hn : n <= 10000000) (hB : B <= w.heap.size) (ty : TypeId) :
 ∃ v' w', (Builtin.append_ #[TS, TS] ty #[.slice (some ⟨k, 0, none⟩) 0 0, src]).run Tryd.prog w = .ok v' w' /\ (∃ a c, v' = .slice a n c) /\ w'.ownsRow B T sz v' n xs /\ Below w.heap.size w w' := by
 obtain ⟨i, hi, hz0, hz1, hz2⟩ := info_parts hinfo
 have own0 : w.ownsRow B T sz (.slice (some ⟨k, 0, none⟩) 0 0) 0 [] := ⟨by simp, .inr ⟨k, 0, #[], rfl, hBk, hk, Nat.le_refl _, by unfold maxLen; omega, by simp, by simp⟩⟩
 rw [← hz1] at hS
 by_cases hn0 : n = 0
 · subst hn0
   have e : xs = [] := by simpa using hlen
   subst e
   have hr := run_append_room_src (P := Tryd.prog) w TS TS ty T i hu hi k 0 0 0 src 0 [] hS (Nat.le_refl _) (fun j hj => absurd hj (Nat.not_lt_zero _)) (fun j hj => absurd hj (Nat.not_lt_zero _))
   exact ⟨_, w, hr, ⟨_, _, rfl⟩, own0, Below.refl _ _⟩
 · have hfit : Builtin.nextslicecap (0 + n) 0 * i.bytes <= 281474976710656 := growslice_fits (by omega) (by rw [hz2]; have : (0 + n) * bytes <= 10000000 * 100 := Nat.mul_le_mul (by omega) hby; omega)
   have hr := run_append_grow_src (P := Tryd.prog) w TS TS ty T i z hu hi hz0 (some ⟨k, 0, none⟩) 0 0 [] (run_firstCells_some w.drew i.size 0 ⟨k, 0, none⟩ 0 0 [] (by simp) (fun j u hj => by simp at hj)) src n xs hS (by omega) (by omega) hfit
   have hge := grownCap_ge w (0 + n) 0 T
   have hle := grownCap_le_maxLen w (0 + n) 0 T (by unfold maxLen; omega)
   refine ⟨_, _, hr, ⟨_, _, by rw [Nat.zero_add]⟩, ⟨hlen, .inr ⟨w.heap.size, grownCap w (0 + n) 0 T, _, by rw [Nat.zero_add], hB, B_ w.drew _, by omega, hle, ?_, ?_⟩⟩, (Zs (Below.refl _ _)).alloc (Nat.le_refl _) _⟩
   · simp [size_zeroCells, hz, hlen]
     have h3 : n * sz + (grownCap w n 0 T - n) * sz = grownCap w n 0 T * sz := by
      rw [← Nat.add_mul]
      rw [Nat.zero_add] at hge
      rw [show n + (grownCap w n 0 T - n) = grownCap w n 0 T from Nat.add_sub_cancel' hge]
     exact h3
   · simp only [List.nil_append, Array.toList_append]
     exact List.take_left' hlen
theorem cloneA {w : World} {a : Option Addr} {n c : Nat} {xs : List Value} (hlen : xs.length = n * 3) (h0 : a = none -> n = 0) (hc : ∀ (ad : Addr), a = some ad -> ∀ (j : Nat) (u : Value), xs[j]? = some u -> w.cell? (ad.add j) = some u /\ ad.block < w.heap.size) (hn : n <= 2000) (h1 : ∀ u ∈ xs, u.oneCell' = true) : Calls Tryd.prog 42 #[.slice a n c] w (ClP w 41 3 n xs) := by
  cases a with
  | none =>
    obtain rfl := h0 rfl
    have e : xs = [] := by simpa using hlen
    subst e
    clear hc hn h1 hlen h0
    have hE : ∀ w, (binOp .eql 46 (.slice none 0 c) (.slice none 0 0)).run Tryd.prog w = .ok (.bool true) w := fun w => by kernel_rfl
    go_enter Tryd.func42, Tryd.ntmps42
    go_wp2_with fail
    go_ret
    exact ⟨_, _, rfl, World.ownsRow_nil _ _ _ _, Below.refl _ _⟩
  | some ad =>
    have hb := Zd w (.cells #[] 41)
    have hS : Src Tryd.prog 3 46 (.slice (some ad) n c) n xs (w.alloc (.cells #[] 41)) := Src.ofSlice _ Tryd.underlying46 ad n c xs hlen (fun j u hj => by
      obtain ⟨h2, h3⟩ := hc ad rfl j u hj
      have hbl : (ad.add j).block < w.heap.size := by
        have : (ad.add j).block = ad.block := by unfold Addr.add; split <;> rfl
        omega
      exact (hb.cell hbl).trans h2) h1
    have AP := Za (fun ty => app_srcV (B := w.heap.size) Tryd.underlying46 info_val rfl (by decide) (B_ w (.cells #[] 41)) (Nat.le_refl _) hlen hS (by omega) hb.size ty)
    have HB := Za hb
    clear hb h1 hS hc h0 hlen hn
    have hE : ∀ w, (binOp .eql 46 (.slice (some ad) n c) (.slice none 0 0)).run Tryd.prog w = .ok (.bool false) w := fun w => by kernel_rfl
    go_enter Tryd.func42, Tryd.ntmps42
    go_wp2_with (first | (at_builtin; refine ZW (TS := 46) rfl (.tmp 5) (.tmp 6) rfl _ _ rfl rfl _ (AP.out _) ?_; rintro v9 w9 ⟨⟨a9, c9, rfl⟩, o9, b9⟩; have R9 := Za (And.intro o9 b9); clear o9 b9))
    go_ret
    exact ⟨_, _, rfl, R9.out.1, Zi HB.out R9.out.2⟩
def Wok {H : Type} (t : TypeId) (d : DataW H) : Prop := ∀ n ∈ d.weights Tryd.prog t, n <= reachBytes
theorem weights_all {H : Type} {e : TypeId} : ∀ {ds : List (DataW H)} {i : Nat} {d : DataW H}, ds[i]? = some d -> ∀ n ∈ d.weights Tryd.prog e, n ∈ DataW.weightsAll Tryd.prog e ds
 | [], i, d, h, n, _ => by simp at h
 | x :: ds, 0, d, h, n, hn => by
  simp at h
  subst h
  simp only [DataW.weightsAll, List.mem_append]
  exact .inl hn
 | x :: ds, i + 1, d, h, n, hn => by
  simp only [DataW.weightsAll, List.mem_append]
  exact .inr (weights_all (by simpa using h) n hn)
theorem wok_elem {H : Type} {TS T : TypeId} {elems rest : List (DataW H × List MemPlace)} {i : Nat} {y : DataW H × List MemPlace} (hu : Tryd.prog.underlying TS = some (.slice T)) (h : Wok TS (DataW.slice (elems.map (·.1)) (rest.map (·.1)))) (hy : elems[i]? = some y) : Wok T y.1 := fun n hn => by
 refine h n ?_
 simp only [DataW.weights, hu, List.mem_cons, List.mem_append]
 exact .inr (.inl (weights_all (i := i) (by rw [List.getElem?_map, hy]; rfl) n hn))
theorem wok_field {H : Type} {t : TypeId} {fs : Array Field} {xs : List (DataW H × List MemPlace)} {i : Nat} {y : DataW H × List MemPlace} {f : Field} (hu : Tryd.prog.underlying t = some (.struct fs)) (h : Wok t (DataW.agg (xs.map (·.1)))) (hf : fs[i]? = some f) (hy : xs[i]? = some y) : Wok f.type y.1 := fun n hn => by
 refine h n ?_
 simp only [DataW.weights, hu]
 exact DataW.weights_mem_each (j := i) (by rw [List.getElem?_map, Array.getElem?_toList, hf]; rfl) (by rw [List.getElem?_map, hy]; rfl) n hn
theorem rows_w {α : Type} (d0 : α) {H : Type} {enc : TypeId × Value -> H} {W : World} {TS T : TypeId} {n fuel : Nat} {v : Value} {x : DataW H × List MemPlace} (hu : Tryd.prog.underlying TS = some (.slice T)) (hc : Tryd.prog.cellsOf T = n) (hn : 0 < n) (Q : α -> List Value -> Prop)
 (hP : ∀ (f : Nat) (cs : List Value) (y : DataW H × List MemPlace), f < fuel -> DataW.trod enc Tryd.prog W 0 (fun _ => true) true f T cs = some y -> Wok T y.1 -> ∃ x, Q x cs) (hw : Wok TS x.1) (h : DataW.trod enc Tryd.prog W 0 (fun _ => true) true fuel TS [v] = some x) :
 ∃ (a : Option Addr) (cap : Nat) (l : List α), v = .slice a l.length cap /\ l.length * Tryd.prog.bytesOf T <= reachBytes /\ ∀ (i : Nat) (y : α), l[i]? = some y -> ∃ (b o : Nat) (cs : List Value), a = some ⟨b, o, none⟩ /\ b < W.heap.size /\ Q y cs /\ cs.length = n /\ ∀ (j : Nat) (u : Value), cs[j]? = some u -> W.cell? ⟨b, o + i * n + j, none⟩ = some u := by
 rcases DataW.trod_slice hu h with ⟨e, _⟩ | ⟨a, len, cap, elems, rest, m, hm, e, ex, _, hl1, hl2, hl3, hel, _⟩
 · simp at e
   subst e
   exact ⟨none, 0, [], rfl, by simp, fun i y hy => by simp at hy⟩
 · simp at e
   subst e
   have key : ∀ i, i < len -> ∃ (y : α) (b o : Nat) (cs : List Value), some a = some ⟨b, o, none⟩ /\ b < W.heap.size /\ Q y cs /\ cs.length = n /\ ∀ (j : Nat) (u : Value), cs[j]? = some u -> W.cell? ⟨b, o + i * n + j, none⟩ = some u := fun i hi => by
    have h9 := hel i hi
    rw [List.getElem?_eq_getElem (show i < elems.length by omega), hc] at h9
    cases hcs : W.cells? 0 (a.add (i * n)) n with
    | none => rw [hcs] at h9; cases h9
    | some cs =>
     rw [hcs] at h9
     obtain ⟨y, hy⟩ := hP m cs _ (by omega) h9 (wok_elem hu (by rw [ex] at hw; exact hw) (List.getElem?_eq_getElem (show i < elems.length by omega)))
     have hlen := cells_len hcs
     have hcell : ∀ k, k < n -> W.cell? (a.add (i * n + k)) = cs[k]? := fun k hk => by
      rw [← cells_at hcs k hk, Go.Deep.add_add]
     obtain ⟨c0, hc0⟩ : ∃ c, cs[0]? = some c := ⟨_, List.getElem?_eq_getElem (by omega)⟩
     obtain ⟨b, off, spot⟩ := a
     have hspot : spot = none := by
      have h8 := hel 0 (by omega)
      rw [List.getElem?_eq_getElem (show 0 < elems.length by omega), hc] at h8
      cases hz : W.cells? 0 ((Addr.mk b off spot).add (0 * n)) n with
      | none => rw [hz] at h8; cases h8
      | some zs =>
       have h7 := cells_at hz 0 hn
       rw [List.getElem?_eq_getElem (show 0 < zs.length by rw [cells_len hz]; exact hn)] at h7
       simpa [Addr.add] using World.cell?_spot h7
     subst hspot
     have h0 := (hcell 0 hn).trans hc0
     rw [add_plain] at h0
     refine ⟨y, b, off, cs, rfl, block_lt h0, hy, hlen, fun j u hu => ?_⟩
     have hj := (List.getElem?_eq_some_iff.1 hu).1
     have := (hcell j (by omega)).trans hu
     rw [add_plain] at this
     rw [Nat.add_assoc]
     exact this
   have hch : ∃ fn : Nat -> α, ∀ i, i < len -> ∃ (b o : Nat) (cs : List Value), some a = some ⟨b, o, none⟩ /\ b < W.heap.size /\ Q (fn i) cs /\ cs.length = n /\ ∀ (j : Nat) (u : Value), cs[j]? = some u -> W.cell? ⟨b, o + i * n + j, none⟩ = some u :=
    ⟨fun i => if h : i < len then Classical.choose (key i h) else d0, fun i hi => by dsimp only; rw [dif_pos hi]; exact Classical.choose_spec (key i hi)⟩
   obtain ⟨fn, hfn⟩ := hch
   refine ⟨some a, cap, (List.range len).map fn, by simp, ?_, fun i y hy => ?_⟩
   · have h8 := hw ((elems.length + rest.length) * Tryd.prog.bytesOf T) (by rw [ex]; simp [DataW.weights, hu])
     simp only [List.length_map, List.length_range]
     exact Nat.le_trans (Nat.mul_le_mul_right _ (by omega)) h8
   obtain ⟨hj1, hj2⟩ := List.getElem?_eq_some_iff.1 hy
   simp at hj1 hj2
   rw [← hj2]
   exact hfn i hj1
def ArgU (w : World) (va : Value) : Prop := ∃ (a : Option Addr) (n c : Nat), va = .slice a n c /\ n <= 140737488351232 /\ (n <= 2000 -> ArgC w va)
def WSrcU (w : World) (v : Value) (l : List Wt) : Prop := ∃ (a : Option Addr) (c : Nat), v = .slice a l.length c /\ l.length <= 140737488351232 /\ ∀ (j : Nat) (x : Wt), l[j]? = some x -> ∃ (b o : Nat) (va : Value), a = some ⟨b, o, none⟩ /\ b < w.heap.size /\ (∀ (q : Nat) (u : Value), (wcs x va)[q]? = some u -> w.cell? ⟨b, o + j * 7 + q, none⟩ = some u) /\ ArgU w va
def SSrcU (w : World) (v : Value) (S : List (List Wt)) : Prop := ∃ (a : Option Addr) (c : Nat), v = .slice a S.length c /\ S.length <= 140737488351232 /\ ∀ (i : Nat) (l : List Wt), S[i]? = some l -> ∃ (b o : Nat) (vi : Value), a = some ⟨b, o, none⟩ /\ b < w.heap.size /\ w.cell? ⟨b, o + i, none⟩ = some vi /\ WSrcU w vi l
theorem ArgU.bel {w w' : World} {va : Value} (h : ArgU w va) (hb : Below w.heap.size w w') : ArgU w' va := by
 obtain ⟨a, n, c, h1, h2, h3⟩ := h
 exact ⟨a, n, c, h1, h2, fun h => (h3 h).bel hb⟩
theorem WSrcU.bel {w w' : World} {v : Value} {l : List Wt} (h : WSrcU w v l) (hb : Below w.heap.size w w') : WSrcU w' v l := by
 obtain ⟨a, c, h1, h2, h3⟩ := h
 refine ⟨a, c, h1, h2, fun j x hx => ?_⟩
 obtain ⟨b, o, va, e1, e2, e3, e4⟩ := h3 j x hx
 exact ⟨b, o, va, e1, Nat.lt_of_lt_of_le e2 hb.size, fun q u hu => (hb.cell (p := ⟨b, o + j * 7 + q, none⟩) e2).trans (e3 q u hu), e4.bel hb⟩
theorem SSrcU.bel {w w' : World} {v : Value} {S : List (List Wt)} (h : SSrcU w v S) (hb : Below w.heap.size w w') : SSrcU w' v S := by
 obtain ⟨a, c, h1, h2, h3⟩ := h
 refine ⟨a, c, h1, h2, fun i l hl => ?_⟩
 obtain ⟨b, o, vi, e1, e2, e3, e4⟩ := h3 i l hl
 exact ⟨b, o, vi, e1, Nat.lt_of_lt_of_le e2 hb.size, (hb.cell (p := ⟨b, o + i, none⟩) e2).trans e3, e4.bel hb⟩
def v3c (x : V3) : List Value := [.int .i64 x.1, .int .i64 x.2.1, .int .u64 x.2.2]
theorem vcs_get : ∀ (l : List V3) (j : Nat) (u : Value), (vcs l)[j]? = some u -> ∃ (i : Nat) (y : V3) (r : Nat), l[i]? = some y /\ j = i * 3 + r /\ (v3c y)[r]? = some u
 | [], j, u, h => by simp [vcs] at h
 | y :: l, 0, u, h => ⟨0, y, 0, rfl, rfl, h⟩
 | y :: l, 1, u, h => ⟨0, y, 1, rfl, rfl, h⟩
 | y :: l, 2, u, h => ⟨0, y, 2, rfl, rfl, h⟩
 | y :: l, j + 3, u, h => by
  obtain ⟨i, z, r, h1, h2, h3⟩ := vcs_get l j u (by simpa [vcs] using h)
  exact ⟨i + 1, z, r, by simpa using h1, by omega, h3⟩
section
variable {H : Type} {enc : TypeId × Value → H} {W : World} {fuel : Nat} {v : Value} {cs : List Value} {x : DataW H × List MemPlace}
theorem args_of (h : DataW.trod enc Tryd.prog W 0 (fun _ => true) true fuel 46 [v] = some x) (hw : Wok 46 x.1) : ArgU W v := by
  obtain ⟨a, cap, l, e, h1, h3⟩ := rows_w ((0, 0, 0) : V3) Tryd.underlying46 cellsValue (by omega) (fun (c : V3) cs => cs = v3c c) (fun f cs y _ hy _ => by
    obtain ⟨t, n, b, e, _⟩ := val_of hy
    exact ⟨(t, n, b), e⟩) hw h
  rw [show Tryd.prog.bytesOf 41 = 24 by kernel_rfl, show reachBytes = 140737488351232 from rfl] at h1
  refine ⟨a, l.length, cap, e, by omega, fun hn => ⟨a, l.length, cap, vcs l, e, hn, vcs_one l, fun w' hb => ?_⟩⟩
  subst e
  refine cloneA (vcs_len l) (fun ha => ?_) (fun ad ha j u hj => ?_) hn (vcs_one l)
  · cases l with
    | nil => rfl
    | cons y l =>
      obtain ⟨b, o, cs, ea, _⟩ := h3 0 y rfl
      rw [ha] at ea
      cases ea
  · obtain ⟨i, y, r, h4, h5, h6⟩ := vcs_get l j u hj
    obtain ⟨b, o, cs, ea, hbl, rfl, _, hc⟩ := h3 i y h4
    rw [ha] at ea
    cases ea
    rw [add_plain, h5, ← Nat.add_assoc]
    exact ⟨(hb.cell (p := ⟨b, o + i * 3 + r, none⟩) hbl).trans (hc r u h6), Nat.lt_of_lt_of_le hbl hb.size⟩
theorem wait_of (h : DataW.trod enc Tryd.prog W 0 (fun _ => true) true fuel 135 cs = some x) (hw : Wok 135 x.1) : ∃ y : Wt × Value, cs = wcs y.1 y.2 /\ ArgU W y.2 := by
 obtain ⟨xs, f, hfu, ex, hl, hlen, hf⟩ := DataW.trod_struct Tryd.underlying135 h
 rw [show Tryd.prog.cellsOf 135 = 7 by kernel_rfl] at hl
 clear h
 have hx : xs.length = 5 := hlen
 match cs, hl with
 | [c0, c1, c2, c3, c4, c5, c6], _ =>
  have h0 : DataW.trod enc Tryd.prog W 0 (fun _ => true) true f 3 (([c0, c1, c2, c3, c4, c5, c6].drop 0).take (Tryd.prog.cellsOf 3)) = xs[0]? := hf 0 _ rfl
  have h1 : DataW.trod enc Tryd.prog W 0 (fun _ => true) true f 3 (([c0, c1, c2, c3, c4, c5, c6].drop 1).take (Tryd.prog.cellsOf 3)) = xs[1]? := hf 1 _ rfl
  have h2 : DataW.trod enc Tryd.prog W 0 (fun _ => true) true f 3 (([c0, c1, c2, c3, c4, c5, c6].drop 2).take (Tryd.prog.cellsOf 3)) = xs[2]? := hf 2 _ rfl
  have h3 : DataW.trod enc Tryd.prog W 0 (fun _ => true) true f 41 (([c0, c1, c2, c3, c4, c5, c6].drop 3).take (Tryd.prog.cellsOf 41)) = xs[3]? := hf 3 _ rfl
  have h4 : DataW.trod enc Tryd.prog W 0 (fun _ => true) true f 46 (([c0, c1, c2, c3, c4, c5, c6].drop 6).take (Tryd.prog.cellsOf 46)) = xs[4]? := hf 4 _ rfl
  clear hf
  simp only [cells1, cellsValue, show Tryd.prog.cellsOf 46 = 1 by kernel_rfl, List.drop_zero, List.drop_succ_cons, List.take_succ_cons, List.take_zero] at h0 h1 h2 h3 h4
  rw [List.getElem?_eq_getElem (by omega)] at h0 h1 h2 h3 h4
  obtain ⟨z0, q0, _⟩ := DataW.trod_int Tryd.underlying3 h0
  obtain ⟨z1, q1, _⟩ := DataW.trod_int Tryd.underlying3 h1
  obtain ⟨z2, q2, _⟩ := DataW.trod_int Tryd.underlying3 h2
  obtain ⟨t, n, b, q3, _⟩ := val_of h3
  simp at q0 q1 q2 q3
  obtain ⟨rfl, rfl, rfl⟩ := q3
  subst q0 q1 q2
  exact ⟨(⟨z0, z1, z2, (t, n, b)⟩, c6), rfl, args_of h4 (wok_field (i := 4) Tryd.underlying135 (by rw [ex] at hw; exact hw) rfl (List.getElem?_eq_getElem (by omega)))⟩
theorem script_of (h : DataW.trod enc Tryd.prog W 0 (fun _ => true) true fuel 83 [v] = some x) (hw : Wok 83 x.1) : ∃ l, WSrcU W v l := by
 obtain ⟨a, cap, l, e, h1, h3⟩ := rows_w ((⟨0, 0, 0, (0, 0, 0)⟩, .slice none 0 0) : Wt × Value) Tryd.underlying83 (show Tryd.prog.cellsOf 135 = 7 by kernel_rfl) (by omega) (fun (c : Wt × Value) cs => cs = wcs c.1 c.2 /\ ArgU W c.2) (fun f cs y _ hy hz => wait_of hy hz) hw h
 rw [show Tryd.prog.bytesOf 135 = 72 by kernel_rfl, show reachBytes = 140737488351232 from rfl] at h1
 refine ⟨l.map Prod.fst, a, cap, by rw [List.length_map]; exact e, by rw [List.length_map]; omega, fun j y hy => ?_⟩
 rw [List.getElem?_map] at hy
 obtain ⟨z, hz, rfl⟩ := Option.map_eq_some_iff.1 hy
 obtain ⟨b, o, cs, ea, hb, ⟨rfl, ha⟩, _, hc⟩ := h3 j z hz
 exact ⟨b, o, z.2, ea, hb, hc, ha⟩
theorem scripts_of (h : DataW.trod enc Tryd.prog W 0 (fun _ => true) true fuel 59 [v] = some x) (hw : Wok 59 x.1) : ∃ S, SSrcU W v S := by
  obtain ⟨a, cap, l, e, h1, h3⟩ := rows_w ([] : List Wt) Tryd.underlying59 (show Tryd.prog.cellsOf 83 = 1 by kernel_rfl) (by omega) (fun (l : List Wt) cs => ∃ vi, cs = [vi] /\ WSrcU W vi l) (fun f cs y _ hy hz => by
    have hcs : ∃ vi, cs = [vi] := by
      rcases DataW.trod_slice Tryd.underlying83 hy with ⟨e, _⟩ | ⟨a, len, cap, elems, rest, m, hm, e, _⟩
      · exact ⟨_, e⟩
      · exact ⟨_, e⟩
    obtain ⟨vi, rfl⟩ := hcs
    obtain ⟨l, hl⟩ := script_of hy hz
    exact ⟨l, vi, rfl, hl⟩) hw h
  rw [show Tryd.prog.bytesOf 83 = 24 by kernel_rfl, show reachBytes = 140737488351232 from rfl] at h1
  refine ⟨l, a, cap, e, by omega, fun i y hy => ?_⟩
  obtain ⟨b, o, cs, ea, hb, ⟨vi, rfl, hw⟩, _, hc⟩ := h3 i y hy
  refine ⟨b, o, vi, ea, hb, ?_, hw⟩
  have := hc 0 vi rfl
  rw [Nat.mul_one] at this
  exact this
theorem len_of {TS T : TypeId} {l c n : Nat} {a : Option Addr} (hu : Tryd.prog.underlying TS = some (.slice T)) (hb : Tryd.prog.bytesOf T = n) (hn : 0 < n) (h : DataW.trod enc Tryd.prog W 0 (fun _ => true) true fuel TS [.slice a l c] = some x) (hw : Wok TS x.1) : l <= 140737488351232 := by
 rcases DataW.trod_slice hu h with ⟨e, _⟩ | ⟨a', len, cap, elems, rest, m, hm, e, ex, _, hl1, hl2, hl3, hel, _⟩
 · simp at e
   omega
 · simp at e
   obtain ⟨rfl, rfl, rfl⟩ := e
   have h8 := hw ((elems.length + rest.length) * Tryd.prog.bytesOf T) (by rw [ex]; simp [DataW.weights, hu])
   rw [hb, show reachBytes = 140737488351232 from rfl] at h8
   have := Nat.le_mul_of_pos_right (elems.length + rest.length) hn
   omega
theorem case_of (h : DataW.trod enc Tryd.prog W 0 (fun _ => true) true fuel 61 cs = some x) (hw : Wok 61 x.1) :
 ∃ vP m a vC vS fn ps qs S, cs = [vP, .int .i64 m, .int .i64 a, vC, vS, .int .i64 fn] /\ (Sl W vP ps /\ ps.length <= 140737488351232) /\ (SlC W vC qs /\ qs.length <= 140737488351232) /\ SSrcU W vS S := by
 obtain ⟨xs, f, hfu, ex, hl, hlen, hf⟩ := DataW.trod_struct Tryd.underlying61 h
 rw [show Tryd.prog.cellsOf 61 = 6 by kernel_rfl] at hl
 clear h
 have hx : xs.length = 6 := hlen
 match cs, hl with
 | [c0, c1, c2, c3, c4, c5], _ =>
  have h0 : DataW.trod enc Tryd.prog W 0 (fun _ => true) true f 22 (([c0, c1, c2, c3, c4, c5].drop 0).take (Tryd.prog.cellsOf 22)) = xs[0]? := hf 0 _ rfl
  have h1 : DataW.trod enc Tryd.prog W 0 (fun _ => true) true f 3 (([c0, c1, c2, c3, c4, c5].drop 1).take (Tryd.prog.cellsOf 3)) = xs[1]? := hf 1 _ rfl
  have h2 : DataW.trod enc Tryd.prog W 0 (fun _ => true) true f 3 (([c0, c1, c2, c3, c4, c5].drop 2).take (Tryd.prog.cellsOf 3)) = xs[2]? := hf 2 _ rfl
  have h3 : DataW.trod enc Tryd.prog W 0 (fun _ => true) true f 23 (([c0, c1, c2, c3, c4, c5].drop 3).take (Tryd.prog.cellsOf 23)) = xs[3]? := hf 3 _ rfl
  have h4 : DataW.trod enc Tryd.prog W 0 (fun _ => true) true f 59 (([c0, c1, c2, c3, c4, c5].drop 4).take (Tryd.prog.cellsOf 59)) = xs[4]? := hf 4 _ rfl
  have h5 : DataW.trod enc Tryd.prog W 0 (fun _ => true) true f 3 (([c0, c1, c2, c3, c4, c5].drop 5).take (Tryd.prog.cellsOf 3)) = xs[5]? := hf 5 _ rfl
  clear hf
  simp only [cells1, show Tryd.prog.cellsOf 22 = 1 by kernel_rfl, show Tryd.prog.cellsOf 23 = 1 by kernel_rfl, show Tryd.prog.cellsOf 59 = 1 by kernel_rfl, List.drop_zero, List.drop_succ_cons, List.take_succ_cons, List.take_zero] at h0 h1 h2 h3 h4 h5
  rw [List.getElem?_eq_getElem (by omega)] at h0 h1 h2 h3 h4 h5
  obtain ⟨z1, q1, _⟩ := DataW.trod_int Tryd.underlying3 h1
  obtain ⟨z2, q2, _⟩ := DataW.trod_int Tryd.underlying3 h2
  obtain ⟨z5, q5, _⟩ := DataW.trod_int Tryd.underlying3 h5
  simp at q1 q2 q5
  subst q1 q2 q5
  obtain ⟨ps, hp⟩ := sl_of h0
  obtain ⟨qs, hc⟩ := chans_of h3
  rw [ex] at hw
  obtain ⟨S, hS⟩ := scripts_of h4 (wok_field (i := 4) Tryd.underlying61 hw rfl (List.getElem?_eq_getElem (by omega)))
  have w0 := wok_field (i := 0) Tryd.underlying61 hw rfl (List.getElem?_eq_getElem (show 0 < xs.length by omega))
  have w3 := wok_field (i := 3) Tryd.underlying61 hw rfl (List.getElem?_eq_getElem (show 3 < xs.length by omega))
  refine ⟨c0, z1, z2, c3, c4, z5, ps, qs, S, rfl, ⟨hp, ?_⟩, ⟨hc, ?_⟩, hS⟩
  · obtain ⟨aP, lP, cP, e, hlP⟩ := hp.slice
    subst e
    have := len_of Tryd.underlying22 (show Tryd.prog.bytesOf 3 = 8 by kernel_rfl) (by omega) h0 w0
    omega
  · obtain ⟨aC, cC, e, _⟩ := hc
    subst e
    exact len_of Tryd.underlying23 (show Tryd.prog.bytesOf 52 = 16 by kernel_rfl) (by omega) h3 w3
end
theorem case_open {H : Type} {enc : TypeId × Value -> H} {W : World} {c : Array Value} {d : DataW H} {p : List MemPlace} (h : DataW.Trod enc Tryd.prog W 0 (fun _ => true) true 61 (.agg c) d p) (hw : Wok 61 d) :
 ∃ vP m a vC vS fn ps qs S, Value.agg c = .agg #[vP, .int .i64 m, .int .i64 a, vC, vS, .int .i64 fn] /\ (Sl W vP ps /\ ps.length <= 140737488351232) /\ (SlC W vC qs /\ qs.length <= 140737488351232) /\ SSrcU W vS S := by
 obtain ⟨fuel, h⟩ := h
 obtain ⟨vP, m, a, vC, vS, fn, ps, qs, S, e, h1, h2, h3⟩ := case_of h hw
 refine ⟨vP, m, a, vC, vS, fn, ps, qs, S, ?_, h1, h2, h3⟩
 congr 1
 have e' : c.toList = [vP, .int .i64 m, .int .i64 a, vC, vS, .int .i64 fn] := e
 rw [← Array.toArray_toList (xs := c), e']
theorem wok_arg {H : Type} {ts : List TypeId} {ds : List (DataW H)} {j : Nat} {t : TypeId} {d : DataW H} (h : (DataW.weightsEach Tryd.prog ts ds).all (· <= reachBytes) = true) (ht : ts[j]? = some t) (hd : ds[j]? = some d) : Wok t d := fun n hn => by
 simpa using List.all_eq_true.1 h n (DataW.weights_mem_each ht hd n hn)
def runK (r : Rm) (k : Nat) : List Int := ((List.range k).filter fun (i : Nat) => can r i).map fun (i : Nat) => (i : Int)
theorem runK_yes {r : Rm} {k : Nat} (h : can r (k : Int) = true) : runK r (k + 1) = runK r k ++ [(k : Int)] := by
 unfold runK
 rw [List.range_succ, List.filter_append]
 simp [h]
theorem runK_no {r : Rm} {k : Nat} (h : can r (k : Int) = false) : runK r (k + 1) = runK r k := by
 unfold runK
 rw [List.range_succ, List.filter_append]
 simp [h]
theorem runK_len (r : Rm) (k : Nat) : (runK r k).length <= k := by
 unfold runK
 rw [List.length_map]
 have := List.length_filter_le (fun (i : Nat) => can r i) (List.range k)
 simpa using this
def RunnP (w : World) (l : List Int) (e : Ending) (w' : World) : Prop := ∃ a c, e = .returned (.slice a l.length c) /\ w'.ownsRow w.heap.size 3 1 (.slice a l.length c) l.length (nts l) /\ Below w.heap.size w w'
theorem Runnable_any {w : World} {G : Nat -> Prop} {g : Nat} {S : List (List Wt)} {r : Rm} {p : List Addr} (h : Rn w G g S r) (h17 : E2 w p) : Calls Tryd.prog 69 #[.pointer (some ⟨g, 0, none⟩)] w (RunnP w (Yy r)) := by
  have EN := Za (ended_any h h17)
  have HR := Za h
  have H7 := Za h17
  unfold Yy
  cases hr : Yz r with
  | false =>
    rw [hr] at EN
    clear h h17 hr
    go_enter Tryd.func69, Tryd.ntmps69
    go_wp2_with fail
    refine EN.out.mono ?_
    rintro e w1 ⟨rfl, hb⟩
    go_wp2_with fail
    go_ret
    exact ⟨_, _, rfl, World.ownsRow_nil _ _ _ _, hb⟩
  | true =>
    rw [hr] at EN
    have hn8 : r.gs.length <= 8 := by
      obtain ⟨_, _, _, _, _, _, _, _, _, _, h', _⟩ := h
      exact h'.n8
    obtain ⟨n, hn⟩ : ∃ n, n = r.gs.length := ⟨_, rfl⟩
    have c3 : Hid (∃ aG cG, ∀ w1, Below w.heap.size w w1 -> w1.cell? ⟨g, 3, none⟩ = some (.slice aG n cG) /\ g < w1.heap.size) := Za (by
      obtain ⟨_, _, _, _, _, _, vG, _, _, _, h', _⟩ := h
      obtain ⟨aG, cG, e, _⟩ := Zo h'.go
      refine ⟨aG, cG, fun w1 hb => ⟨?_, Nat.lt_of_lt_of_le (h'.fb g h'.fg) hb.size⟩⟩
      have := (h'.bel hb).cells.1.2.2.2.1
      rw [e, ← hn] at this
      exact this)
    rw [if_pos rfl]
    have e0 : ((List.range r.gs.length).filter fun (i : Nat) => can r i).map (fun (i : Nat) => (i : Int)) = runK r n := by rw [hn]; rfl
    rw [e0]
    rw [← hn] at hn8
    clear h h17 hr e0 hn
    obtain ⟨aG, cG, C3⟩ := c3.out
    have C3 := Za C3
    clear c3
    go_enter Tryd.func69, Tryd.ntmps69
    go_wp2_with fail
    refine EN.out.mono ?_
    rintro e w1 ⟨rfl, hb⟩
    obtain ⟨c3, hgl⟩ := C3.out w1 hb
    have HB := Za hb
    clear hb EN
    go_wp2_with fail
    go_loopw [3, 4, 13] (fun x3 x4 i wr => ∃ (k m : Nat) (a : Option Addr) (c : Nat), k <= n /\ i = .int .i64 k /\ x3 = .slice a m c /\ m <= k /\ Hid (m = (runK r k).length /\ wr.ownsRow w.heap.size 3 1 (.slice a m c) m (nts (runK r k)) /\ Below w.heap.size w wr)) (fun x3 x4 i _ => n - (intOf i).toNat)
    case atStart => exact ⟨0, 0, none, 0, Nat.zero_le _, rfl, rfl, Nat.le_refl _, Za ⟨rfl, World.ownsRow_nil _ _ _ _, HB.out⟩⟩
    case round =>
      obtain ⟨k, m, a, c, hk, rfl, rfl, hmk, HI⟩ := hrel
      by_cases hlt : k < n
      · have hlt' : (k : Int) < (n : Int) := by omega
        have CR := Za (canRun_any (HR.out.bel HI.out.2.2) (H7.out.below (Nat.le_refl _) HI.out.2.2) (k : Int))
        have yes := Za (fun h => runK_yes (r := r) (k := k) h)
        have no := Za (fun h => runK_no (r := r) (k := k) h)
        generalize can r (k : Int) = z at *
        go_wp2_with fail
        refine CR.out.mono ?_
        rintro e w2 ⟨rfl, hb2⟩
        have HI2 : Hid (m = (runK r k).length /\ w2.ownsRow w.heap.size 3 1 (.slice a m c) m (nts (runK r k)) /\ Below w.heap.size w w2) := Za ⟨HI.out.1, Zk HI.out.2.1 (fun q hq => hb2.block q (Zf HI.out.2.1 hq).2.1), Zi HI.out.2.2 hb2⟩
        clear HI hb2 CR
        cases z with
        | false =>
          have no2 := Za (no.out rfl)
          clear yes no
          go_wp2_with fail
          go_roundw
          case rel => exact ⟨k + 1, m, a, c, by omega, by go_num, rfl, by omega, Za (by rw [no2.out]; exact HI2.out)⟩
          case measure => simp [intOf]; omega
        | true =>
          have yes2 := Za (yes.out rfl)
          clear yes no
          have PU := Za (fun ty => push_i2 (n := m) (l := runK r k) HI2.out.1 (by have := runK_len r k; omega) HI2.out.2.1 HI2.out.2.2.size (k : Int) ty)
          go_wp2_with (first | (at_builtin; refine wpList_appV (TS := 22) rfl (.tmp 19) (.tmp 21) rfl _ _ rfl rfl _ (PU.out _) ?_; rintro v9 w9 ⟨⟨a9, c9, rfl⟩, r9⟩; have R9 := Za r9; clear r9))
          go_roundw
          case rel =>
            refine ⟨k + 1, m + 1, a9, c9, by omega, by go_num, rfl, by omega, Za ⟨?_, ?_, HI2.out.2.2.grown R9.out.2.1 HI2.out.2.2.size (fun q hq => (Zf HI2.out.2.1 hq).1)⟩⟩
            · rw [yes2.out, HI2.out.1]; simp
            · rw [yes2.out]; exact R9.out.1
          case measure => simp [intOf]; omega
      · have ek : k = n := by omega
        subst ek
        go_wp2_with fail
        go_ret
        refine ⟨a, c, ?_, ?_, HI.out.2.2⟩
        · rw [← HI.out.1]; rfl
        · rw [← HI.out.1]; exact HI.out.2.1
def S0 : List (List Wt) := [[⟨10, 1, 0, (0, 0, 0)⟩, ⟨3, 0, 0, (0, 0, 0)⟩, ⟨4, 0, 0, (0, 0, 0)⟩], [⟨3, 0, 0, (0, 0, 0)⟩]]
def s0 : St := ⟨[], [false], [], []⟩
def r0 : Rm := startR S0 s0 0
def r1 : Rm := doR S0 r0 0
def r2 : Rm := doR S0 r1 1
def r3 : Rm := doR S0 r2 1
theorem src0 (w1 : World) : SSrc (((w1.alloc (.cells #[.int .i64 10, .int .i64 1, .int .i64 0, .int .i64 0, .int .i64 0, .int .u64 0, .slice none 0 0, .int .i64 3, .int .i64 0, .int .i64 0, .int .i64 0, .int .i64 0, .int .u64 0, .slice none 0 0, .int .i64 4, .int .i64 0, .int .i64 0, .int .i64 0, .int .i64 0, .int .u64 0, .slice none 0 0] 135)).alloc (.cells #[.int .i64 3, .int .i64 0, .int .i64 0, .int .i64 0, .int .i64 0, .int .u64 0, .slice none 0 0] 135)).alloc (.cells #[.slice (some ⟨w1.heap.size, 0, none⟩) 3 3, .slice (some ⟨w1.heap.size + 1, 0, none⟩) 1 1] 83)) (.slice (some ⟨w1.heap.size + 1 + 1, 0, none⟩) 2 2) S0 := by
 have hs1 : (w1.alloc (.cells #[.int .i64 10, .int .i64 1, .int .i64 0, .int .i64 0, .int .i64 0, .int .u64 0, .slice none 0 0, .int .i64 3, .int .i64 0, .int .i64 0, .int .i64 0, .int .i64 0, .int .u64 0, .slice none 0 0, .int .i64 4, .int .i64 0, .int .i64 0, .int .i64 0, .int .i64 0, .int .u64 0, .slice none 0 0] 135)).heap.size = w1.heap.size + 1 := by simp
 have hs2 : ((w1.alloc (.cells #[.int .i64 10, .int .i64 1, .int .i64 0, .int .i64 0, .int .i64 0, .int .u64 0, .slice none 0 0, .int .i64 3, .int .i64 0, .int .i64 0, .int .i64 0, .int .i64 0, .int .u64 0, .slice none 0 0, .int .i64 4, .int .i64 0, .int .i64 0, .int .i64 0, .int .i64 0, .int .u64 0, .slice none 0 0] 135)).alloc (.cells #[.int .i64 3, .int .i64 0, .int .i64 0, .int .i64 0, .int .i64 0, .int .u64 0, .slice none 0 0] 135)).heap.size = w1.heap.size + 1 + 1 := by simp
 have e1 := B_ w1 (.cells #[.int .i64 10, .int .i64 1, .int .i64 0, .int .i64 0, .int .i64 0, .int .u64 0, .slice none 0 0, .int .i64 3, .int .i64 0, .int .i64 0, .int .i64 0, .int .i64 0, .int .u64 0, .slice none 0 0, .int .i64 4, .int .i64 0, .int .i64 0, .int .i64 0, .int .i64 0, .int .u64 0, .slice none 0 0] 135)
 have e2 := B_ (w1.alloc (.cells #[.int .i64 10, .int .i64 1, .int .i64 0, .int .i64 0, .int .i64 0, .int .u64 0, .slice none 0 0, .int .i64 3, .int .i64 0, .int .i64 0, .int .i64 0, .int .i64 0, .int .u64 0, .slice none 0 0, .int .i64 4, .int .i64 0, .int .i64 0, .int .i64 0, .int .i64 0, .int .u64 0, .slice none 0 0] 135)) (.cells #[.int .i64 3, .int .i64 0, .int .i64 0, .int .i64 0, .int .i64 0, .int .u64 0, .slice none 0 0] 135)
 have e3 := B_ ((w1.alloc (.cells #[.int .i64 10, .int .i64 1, .int .i64 0, .int .i64 0, .int .i64 0, .int .u64 0, .slice none 0 0, .int .i64 3, .int .i64 0, .int .i64 0, .int .i64 0, .int .i64 0, .int .u64 0, .slice none 0 0, .int .i64 4, .int .i64 0, .int .i64 0, .int .i64 0, .int .i64 0, .int .u64 0, .slice none 0 0] 135)).alloc (.cells #[.int .i64 3, .int .i64 0, .int .i64 0, .int .i64 0, .int .i64 0, .int .u64 0, .slice none 0 0] 135)) (.cells #[.slice (some ⟨w1.heap.size, 0, none⟩) 3 3, .slice (some ⟨w1.heap.size + 1, 0, none⟩) 1 1] 83)
 rw [hs1] at e2
 rw [hs2] at e3
 replace e2 := ((Zd ((w1.alloc (.cells #[.int .i64 10, .int .i64 1, .int .i64 0, .int .i64 0, .int .i64 0, .int .u64 0, .slice none 0 0, .int .i64 3, .int .i64 0, .int .i64 0, .int .i64 0, .int .i64 0, .int .u64 0, .slice none 0 0, .int .i64 4, .int .i64 0, .int .i64 0, .int .i64 0, .int .i64 0, .int .u64 0, .slice none 0 0] 135)).alloc (.cells #[.int .i64 3, .int .i64 0, .int .i64 0, .int .i64 0, .int .i64 0, .int .u64 0, .slice none 0 0] 135)) (.cells #[.slice (some ⟨w1.heap.size, 0, none⟩) 3 3, .slice (some ⟨w1.heap.size + 1, 0, none⟩) 1 1] 83)).block _ (Ze e2)).trans e2
 replace e1 := ((Zu (Zd (w1.alloc (.cells #[.int .i64 10, .int .i64 1, .int .i64 0, .int .i64 0, .int .i64 0, .int .u64 0, .slice none 0 0, .int .i64 3, .int .i64 0, .int .i64 0, .int .i64 0, .int .i64 0, .int .u64 0, .slice none 0 0, .int .i64 4, .int .i64 0, .int .i64 0, .int .i64 0, .int .i64 0, .int .u64 0, .slice none 0 0] 135)) (.cells #[.int .i64 3, .int .i64 0, .int .i64 0, .int .i64 0, .int .i64 0, .int .u64 0, .slice none 0 0] 135)) (.cells #[.slice (some ⟨w1.heap.size, 0, none⟩) 3 3, .slice (some ⟨w1.heap.size + 1, 0, none⟩) 1 1] 83)).block _ (Ze e1)).trans e1
 generalize ((w1.alloc _).alloc _).alloc _ = W at *
 have w3 : WSrc W (.slice (some ⟨w1.heap.size, 0, none⟩) 3 3) [⟨10, 1, 0, (0, 0, 0)⟩, ⟨3, 0, 0, (0, 0, 0)⟩, ⟨4, 0, 0, (0, 0, 0)⟩] := by
  refine ⟨_, 3, rfl, by simp, fun j x hx => ⟨w1.heap.size, 0, .slice none 0 0, rfl, Ze e1, fun q u hu => ?_, ArgC.nilS W⟩⟩
  refine Zb e1 _ _ ?_
  match j, hx with
  | 0, hx => cases hx; match q, hu with
   | 0, hu | 1, hu | 2, hu | 3, hu | 4, hu | 5, hu | 6, hu => cases hu; rfl
  | 1, hx => cases hx; match q, hu with
   | 0, hu | 1, hu | 2, hu | 3, hu | 4, hu | 5, hu | 6, hu => cases hu; rfl
  | 2, hx => cases hx; match q, hu with
   | 0, hu | 1, hu | 2, hu | 3, hu | 4, hu | 5, hu | 6, hu => cases hu; rfl
 have w1' : WSrc W (.slice (some ⟨w1.heap.size + 1, 0, none⟩) 1 1) [⟨3, 0, 0, (0, 0, 0)⟩] := by
  refine ⟨_, 1, rfl, by simp, fun j x hx => ⟨w1.heap.size + 1, 0, .slice none 0 0, rfl, Ze e2, fun q u hu => ?_, ArgC.nilS W⟩⟩
  refine Zb e2 _ _ ?_
  match j, hx with
  | 0, hx => cases hx; match q, hu with
   | 0, hu | 1, hu | 2, hu | 3, hu | 4, hu | 5, hu | 6, hu => cases hu; rfl
 refine ⟨_, 2, rfl, by simp [S0], fun i l hl => ?_⟩
 match i, hl with
 | 0, hl => cases hl; exact ⟨w1.heap.size + 1 + 1, 0, _, rfl, Ze e3, Zb e3 0 _ rfl, w3⟩
 | 1, hl => cases hl; exact ⟨w1.heap.size + 1 + 1, 0, _, rfl, Ze e3, Zb e3 1 _ rfl, w1'⟩
theorem ask_ev (r : Rm) (i : Nat) : (Yk r i).1.ev = r.ev := by
 unfold Yk
 split
 · split <;> rfl
 · rfl
theorem note_ev {r : Rm} {i : Nat} {x : Gr} (hx : r.gs[i]? = some x) (o : Int) : (ZG r i o).ev.length = r.ev.length + 1 := by
 unfold ZG
 rw [hx]
 simp
theorem note_ge (r : Rm) (i : Nat) (o : Int) : r.ev.length <= (ZG r i o).ev.length := by
 unfold ZG
 split <;> simp
theorem fault_stops (r : Rm) (g : Nat) (h : V3) : Yz (settleR (faultR r g h)) = false := by
 unfold Yz settleR faultR endR
 simp
theorem settle_ev (r : Rm) : (settleR r).ev = r.ev := rfl
theorem step_ev {S : List (List Wt)} {r : Rm} {g : Nat} {x : Gr} (hx : r.gs[g]? = some x) (hc : ZX r x.w = true) : r.ev.length + 1 <= (ZY S r g).ev.length ∨ Yz (settleR (ZY S r g)) = false := by
 unfold ZY
 rw [hx]
 simp only
 split
 · exact .inr (fault_stops _ _ _)
 split
 · unfold splitR
   split
   · exact .inr (fault_stops _ _ _)
   · unfold enterR
     split
     · exact .inr (fault_stops _ _ _)
     · rename_i r1 hr1
       left
       have hx1 : r1.gs[g]? = some x := by
        cases hl : lk S x.w.o with
        | none => rw [hl] at hr1; cases hr1
        | some l =>
         rw [hl] at hr1
         cases hr1
         exact (List.getElem?_append_left (List.getElem?_eq_some_iff.1 hx).1).trans hx
       have he1 : r1.ev = r.ev := by
        cases hl : lk S x.w.o with
        | none => rw [hl] at hr1; cases hr1
        | some l =>
         rw [hl] at hr1
         cases hr1
         rfl
       have h2 := note_ev hx1 (r.gs.length : Int)
       have h3 := ask_ev (ZG r1 g r.gs.length) g
       generalize Yk (ZG r1 g r.gs.length) g = q at *
       obtain ⟨r2, b⟩ := q
       simp only at h3
       cases b with
       | true =>
        simp only
        rw [ask_ev, h3, h2, he1]
        exact Nat.le_refl _
       | false =>
        simp only
        rw [h3, h2, he1]
        exact Nat.le_refl _
 split
 · rename_i h5
   unfold meetR
   split
   · rename_i t ht
     left
     have h2 := note_ev hx x.w.o
     have h3 := ask_ev (ZG (ZG r g x.w.o) t x.w.o) g
     have h4 := note_ge (ZG r g x.w.o) t x.w.o
     generalize Yk (ZG (ZG r g x.w.o) t x.w.o) g = q at *
     obtain ⟨r2, b⟩ := q
     simp only at h3
     cases b with
     | true =>
      simp only
      rw [ask_ev, h3]
      omega
     | false =>
      simp only
      rw [h3]
      omega
   · rename_i ht
     exfalso
     have hc' : canS r x.w = true := by
      unfold ZX at hc
      rw [if_neg (by omega), if_neg (by omega), if_neg (by omega), if_pos h5.1] at hc
      exact hc
     unfold canS at hc'
     have hz := h5.2
     unfold roomZ at hz
     cases hl : lk r.s.C x.w.o with
     | none => rw [hl] at hc'; cases hc'
     | some q =>
      rw [hl] at hc' hz
      simp only [Bool.and_eq_true] at hc'
      rw [if_pos (by simpa using hz), ht] at hc'
      simp at hc'
 split
 · left
   show r.ev.length + 1 <= (ZG r g x.w.o).ev.length
   rw [note_ev hx]
   exact Nat.le_refl _
 · left
   rw [ask_ev]
   have := note_ev (r := { r with s := (ZL r.s x.w).1 }) hx x.w.o
   rw [this]
   exact Nat.le_refl _
theorem runn_mem {r : Rm} {k : Int} (h : k ∈ Yy r) : ∃ i : Nat, k = i /\ can r (i : Int) = true /\ Yz r = true := by
 unfold Yy at h
 split at h
 · rename_i hr
   obtain ⟨i, hi, rfl⟩ := List.mem_map.1 h
   exact ⟨i, rfl, (List.mem_filter.1 hi).2, hr⟩
 · cases h
theorem runn_some {r : Rm} (h : Yz r = true) (he : r.e.o = 0) : 0 < (Yy r).length := by
 unfold Yz endR at h
 rw [if_pos he] at h
 have ho : outR r = 0 := by simpa using h
 unfold outR at ho
 split at ho
 · rename_i ha
   obtain ⟨x, hx, hc⟩ := List.any_eq_true.1 ha
   obtain ⟨i, hi, rfl⟩ := List.mem_iff_getElem.1 hx
   unfold Yy
   rw [if_pos (by unfold Yz endR; rw [if_pos he]; simpa using h)]
   rw [List.length_map, List.length_pos_iff_exists_mem]
   exact ⟨i, List.mem_filter.2 ⟨List.mem_range.2 hi, by rw [can_at (List.getElem?_eq_getElem hi)]; exact hc⟩⟩
 · split at ho <;> cases ho
theorem runs_e {r : Rm} (h : Yz r = true) : r.e.o = 0 := by
 unfold Yz endR at h
 split at h
 · assumption
 · rename_i hn
   simp at h
   exact absurd h hn
theorem choose_mem {L l : List Int} {n : Nat} (h : 0 < L.length) : (Ya L l n).1 ∈ L := by
 unfold Ya
 split
 · rw [List.getD_eq_getElem?_getD, List.getElem?_eq_getElem h]
   exact List.getElem_mem h
 · have hm := Nat.mod_lt (max (pickR l n).1 0).toNat h
   rw [List.getD_eq_getElem?_getD, List.getElem?_eq_getElem hm]
   exact List.getElem_mem hm
def left (fuel : Int) (r : Rm) : Nat := if Yz r = true then (fuel - r.ev.length).toNat + 1 else 0
theorem do_left {S : List (List Wt)} {r : Rm} {g : Nat} {fuel : Int} (hr : Yz r = true) (hc : can r (g : Int) = true) (hf : (r.ev.length : Int) < fuel) : left fuel (doR S r g) < left fuel r := by
 have hx : ∃ x, r.gs[g]? = some x /\ ZX r x.w = true := by
  unfold can at hc
  rw [lk_nat] at hc
  cases hx : r.gs[g]? with
  | none => rw [hx] at hc; cases hc
  | some x => rw [hx] at hc; exact ⟨x, rfl, hc⟩
 obtain ⟨x, hx, hcw⟩ := hx
 unfold left
 rw [if_pos hr]
 rcases step_ev (S := S) hx hcw with h | h
 · split
   · have e : (doR S r g).ev = (ZY S r g).ev := rfl
     rw [e]
     omega
   · omega
 · rw [if_neg (by unfold doR; rw [h]; simp)]
   omega
def playW (S : List (List Wt)) (l : List Int) (fuel : Int) (r : Rm) (n : Nat) : Rm × Nat := playR S l fuel (left fuel r) r n
theorem playR_stop (S : List (List Wt)) (l : List Int) (fuel : Int) (f : Nat) (r : Rm) (n : Nat) (h : ¬ (Yz r = true /\ (r.ev.length : Int) < fuel)) : playR S l fuel f r n = (r, n) := by
 cases f with
 | zero => rfl
 | succ f => unfold playR; rw [if_neg h]
theorem playR_more (S : List (List Wt)) (l : List Int) (fuel : Int) : ∀ (f k : Nat) (r : Rm) (n : Nat), left fuel r <= f -> left fuel r <= k -> playR S l fuel f r n = playR S l fuel k r n := by
 intro f
 induction f with
 | zero =>
  intro k r n h hk
  have h0 : left fuel r = 0 := by omega
  have hgo : ¬ (Yz r = true /\ (r.ev.length : Int) < fuel) := fun h1 => by
   unfold left at h0
   rw [if_pos h1.1] at h0
   omega
  rw [playR_stop S l fuel k r n hgo]
  rfl
 | succ f ih =>
  intro k r n h hk
  by_cases hgo : Yz r = true /\ (r.ev.length : Int) < fuel
  · have hm := choose_mem (l := l) (n := n) (runn_some hgo.1 (runs_e hgo.1))
    obtain ⟨i, hi, hc, _⟩ := runn_mem hm
    have hl := do_left (S := S) hgo.1 hc hgo.2
    obtain ⟨k', rfl⟩ : ∃ k', k = k' + 1 := ⟨k - 1, by omega⟩
    unfold playR
    rw [if_pos hgo, if_pos hgo]
    have e : (Ya (Yy r) l n).1.toNat = i := by rw [hi]; simp
    rw [e]
    exact ih k' _ _ (by omega) (by omega)
  · rw [playR_stop S l fuel (f + 1) r n hgo, playR_stop S l fuel k r n hgo]
theorem playW_stop {S : List (List Wt)} {l : List Int} {fuel : Int} {r : Rm} {n : Nat} (h : ¬ (Yz r = true /\ (r.ev.length : Int) < fuel)) : playW S l fuel r n = (r, n) := playR_stop _ _ _ _ _ _ h
theorem playW_step {S : List (List Wt)} {l : List Int} {fuel : Int} {r : Rm} {n i : Nat} (h : Yz r = true /\ (r.ev.length : Int) < fuel) (hi : (Ya (Yy r) l n).1 = i) (hc : can r (i : Int) = true) : playW S l fuel r n = playW S l fuel (doR S r i) (Ya (Yy r) l n).2 := by
 have hl := do_left (S := S) h.1 hc h.2
 unfold playW
 obtain ⟨k, hk⟩ : ∃ k, left fuel r = k + 1 := ⟨left fuel r - 1, by omega⟩
 rw [hk]
 conv => lhs; unfold playR
 rw [if_pos h]
 have e : (Ya (Yy r) l n).1.toNat = i := by rw [hi]; simp
 rw [e]
 exact playR_more S l fuel k _ _ _ (by omega) (Nat.le_refl _)
theorem getD_at {L : List Int} {i : Nat} (h : i < L.length) : L[i]? = some (L.getD i 0) := by simp [List.getD, h]
def ChooseP (w : World) (F : Nat -> Prop) (v : Value) (L l : List Int) (n : Nat) (e : Ending) (w' : World) : Prop := e = .returned (.int .i64 (Ya L l n).1) /\ Pks w' F v l (Ya L l n).2 /\ Ch F F w w'
theorem choose_any {w : World} {B : Nat} {a : Option Addr} {c : Nat} {L l : List Int} {n ob nb : Nat} {F : Nat -> Prop} (ho : w.ownsRow B 3 1 (.slice a L.length c) L.length (nts L)) (h0 : 0 < L.length) (h8 : L.length <= 8) (hp : Pks w F (.func (.func 73) #[] #[.pointer (some ⟨ob, 0, none⟩), .pointer (some ⟨nb, 0, none⟩)]) l n) (hd : ∀ k, (Value.slice a L.length c).ownBlock = some k -> ¬ F k) :
 Calls Tryd.prog 72 #[.slice a L.length c, .func (.func 73) #[] #[.pointer (some ⟨ob, 0, none⟩), .pointer (some ⟨nb, 0, none⟩)]] w (ChooseP w F (.func (.func 73) #[] #[.pointer (some ⟨ob, 0, none⟩), .pointer (some ⟨nb, 0, none⟩)]) L l n) := by
 obtain ⟨b, c', e, _⟩ := Zv ho h0
 cases e
 obtain ⟨m, hm⟩ : ∃ m, m = L.length := ⟨_, rfl⟩
 by_cases h1 : L.length = 1
 · have hc : Hid (Ya L l n = (L.getD 0 0, n)) := Za (by unfold Ya; rw [if_pos h1])
   have d0 := (Zm ho 0 _ (nts_at (getD_at h0))).1
   have HP := Za hp
   rw [h1]
   generalize L.getD 0 0 = y at *
   clear ho hp hd h0 h8 hm h1
   go_enter Tryd.func72, Tryd.ntmps72
   go_wp2_with fail
   go_ret
   exact ⟨by rw [hc.out]; rfl, by rw [hc.out]; exact HP.out, Ch.refl _ _⟩
 · obtain ⟨pv, hpv⟩ : ∃ pv, pickR l n = pv := ⟨_, rfl⟩
   have PK := Za (fun k => pick_any hp k)
   obtain ⟨q, hq⟩ : ∃ q, (max pv.1 0).toNat % L.length = q := ⟨_, rfl⟩
   have hqm : q < L.length := by rw [← hq]; exact Nat.mod_lt _ h0
   have hc : Hid (Ya L l n = (L.getD q 0, pv.2)) := Za (by unfold Ya; rw [if_neg h1, hpv, hq])
   have HO := Za (And.intro ho hd)
   have HY := Za (getD_at hqm)
   rw [← hm] at hq hqm h8 h0 h1 ⊢
   have h1b : ((m : Int) == 1) = false := by simp; omega
   have hmb : ((m : Int) == 0) = false := by simp; omega
   have hqi : (q : Int) < (m : Int) := by omega
   have hbl := (Zf ho (k := b) rfl).2.1
   have hmx : ∃ mx : Int, mx = max pv.1 0 /\ 0 <= mx /\ mx.tmod (m : Int) = (q : Int) := ⟨_, rfl, by omega, by
    rw [Int.tmod_eq_emod_of_nonneg (by omega), ← hq]
    have e : max pv.1 0 = (((max pv.1 0).toNat : Nat) : Int) := by omega
    rw [e]
    simp⟩
   obtain ⟨mx, hmx1, hmx2, hmx3⟩ := hmx
   obtain ⟨p0, p1⟩ := pv
   simp only at hmx1
   have HPV := Za hpv
   have OW := Za (fun (w1 : World) (ch : Ch F F w w1) => (Zm (Zk (w' := w1) ho (fun k hk => ch.blk k (Zf ho hk).2.1 (hd k hk))) q _ (nts_at HY.out)).1)
   rw [← hm] at HO
   generalize L.getD q 0 = y at *
   clear ho hp hd hm hpv hq
   by_cases hp0 : 0 <= p0
   · have em : mx = p0 := by omega
     rw [em] at hmx3
     clear hmx1 hmx2 em
     go_enter Tryd.func72, Tryd.ntmps72
     go_wp2_with fail
     refine (PK.out _).mono ?_
     rintro e w1 ⟨rfl, pk, ch⟩
     rw [HPV.out] at pk ⊢
     have Z := Za (And.intro pk ch)
     have d1 := OW.out w1 ch
     clear pk ch
     go_wp2_with fail
     go_ret
     exact ⟨by rw [hc.out]; rfl, by rw [hc.out]; exact Z.out.1, Z.out.2⟩
   · have em : mx = 0 := by omega
     have hp0' : p0 < 0 := by omega
     have h0m : (0 : Int).tmod (m : Int) = 0 := by simp
     rw [em] at hmx3
     have eq0 : (q : Int) = 0 := by rw [← hmx3]; simp
     have eq0' : q = 0 := by omega
     subst eq0'
     clear hmx1 hmx2 em hmx3 eq0 hp0
     go_enter Tryd.func72, Tryd.ntmps72
     go_wp2_with fail
     refine (PK.out _).mono ?_
     rintro e w1 ⟨rfl, pk, ch⟩
     rw [HPV.out] at pk ⊢
     have Z := Za (And.intro pk ch)
     have d1 := OW.out w1 ch
     clear pk ch
     go_wp2_with fail
     go_ret
     exact ⟨by rw [hc.out]; rfl, by rw [hc.out]; exact Z.out.1, Z.out.2⟩
end Go.Proofs.YtghfjnnmpmfboaaDoor.Ck
