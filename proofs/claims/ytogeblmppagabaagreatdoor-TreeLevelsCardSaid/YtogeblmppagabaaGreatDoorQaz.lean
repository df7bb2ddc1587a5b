/- Texts of this proof, packed: contracts of the program's functions, and the plain model that they are held against. -/
import Derived.Test.YtogeblmppagabaaGreatDoorQay
import Derived.Maps.AppendAt
/- Rows of nodes in the making; a node's variable, and the result's, beside the parser. -/
namespace Go.Proofs.YtogeblmppagabaaGreatDoor.Ck
open Go.RowKit

theorem Tn.belB {g B : Nat} {w0 w w' : World} (h : Tn g w0 w) (hb : Below B w w') (hB : w0.heap.size ≤ B) : Tn g w0 w' :=
  ⟨hb.os.trans h.os, hb.tape.trans h.tape, hb.output.trans h.output, Nat.le_trans h.size hb.size, fun k hk hg => (hb.block k (Nat.lt_of_lt_of_le hk hB)).trans (h.blk k hk hg)⟩
theorem Rowt.belB {w w' : World} {B g : Nat} {ts : List Tk} (h : Rowt w g ts) (hb : Below B w w') (hg : g < B) : Rowt w' g ts := by
  obtain ⟨cur, h1, h2⟩ := h.blk
  refine ⟨⟨cur, (hb.block g hg).trans h1, h2⟩, fun j hj => ?_⟩
  obtain ⟨c0, c1, c2, c3, c4⟩ := h.tok j hj
  exact ⟨(hb.cell (p := ⟨g, _, none⟩) hg).trans c0, (hb.cell (p := ⟨g, _, none⟩) hg).trans c1, (hb.cell (p := ⟨g, _, none⟩) hg).trans c2, (hb.cell (p := ⟨g, _, none⟩) hg).trans c3, (hb.cell (p := ⟨g, _, none⟩) hg).trans c4⟩
theorem Er.belB {w w' : World} {B : Nat} {p : List Addr} (h : Er w p) (hb : Below B w w') (hB : 23 ≤ B) : Er w' p := by
  obtain ⟨te, pe, hs⟩ := h.cs
  have hc : ∀ {k : Nat} {u : Value}, k < 23 → w.cell? ⟨k, 0, none⟩ = some u → w'.cell? ⟨k, 0, none⟩ = some u := fun hk hu => (hb.cell (p := ⟨_, 0, none⟩) (Nat.lt_of_lt_of_le hk hB)).trans hu
  exact ⟨hc (by omega) h.c0, hc (by omega) h.c1, hc (by omega) h.c5, te, pe, hc (by omega) hs⟩
theorem Ps.belB {w w' : World} {B : Nat} {p : List Addr} {g gT : Nat} {L : List Tk} {i l : Nat} (h : Ps w p g gT L i l) (hb : Below B w w') (hg : g < B) (hT : gT < B) : Ps w' p g gT L i l := by
  obtain ⟨cap, h1, h2⟩ := h.blk
  have := h.big
  exact ⟨⟨cap, (hb.block g hg).trans h1, h2⟩, h.row.belB hb hT, h.ne, h.er.belB hb (by omega), (hb.cell (p := ⟨2, 0, none⟩) (show 2 < B by omega)).trans h.ed, h.big, h.lt, h.len⟩

/-- a row of nodes in the making, from block B on: the trees in it lie in no block of its own -/
def Row (w : World) (B : Nat) (ks : List Nd) (v : Value) : Prop :=
  (v = .slice none 0 0 ∧ ks = []) ∨ ∃ g cap cur, v = .slice (some ⟨g, 0, none⟩) ks.length cap ∧ B ≤ g ∧ w.heap[g]? = some (.cells cur 27 (0, 0)) ∧ ks.length ≤ cap ∧ cap ≤ maxLen ∧ cur.size = cap * 9 ∧ RowV w (Of B g) g 0 ks ∧ 0 < ks.length
theorem RowV.lowS {w : World} {S S' : Nat → Prop} (hS : ∀ k, S k → S' k) {g : Nat} : ∀ {ks : List Nd} {o : Nat}, RowV w S g o ks → RowV w S' g o ks
  | [], _, _ => by unfold RowV; trivial
  | n :: ks, o, h => by
    unfold RowV at h ⊢
    exact ⟨h.1.lowS hS, RowV.lowS hS h.2⟩
theorem Row.nil (w : World) (B : Nat) : Row w B [] (.slice none 0 0) := .inl ⟨rfl, rfl⟩
theorem Row.kids {w : World} {B : Nat} {ks : List Nd} {v : Value} (h : Row w B ks v) : KidsV w (Fr B) ks v := by
  rcases h with ⟨rfl, rfl⟩ | ⟨g, cap, cur, rfl, hB, hg, h1, h2, h3, h4, h5⟩
  · unfold KidsV; rfl
  · cases ks with
    | nil => simp at h5
    | cons n ks =>
      unfold RowV at h4
      unfold KidsV
      exact ⟨g, cap, cur, rfl, hB, hg, h1, h2, h3, h4.1.lowS (fun k h => h.1), RowV.lowS (fun k h => h.1) h4.2⟩
theorem Row.len {w : World} {B : Nat} {ks : List Nd} {v : Value} (h : Row w B ks v) : ∃ a c, v = .slice a ks.length c := by
  rcases h with ⟨rfl, rfl⟩ | ⟨g, cap, cur, rfl, _⟩
  · exact ⟨none, 0, rfl⟩
  · exact ⟨_, _, rfl⟩
theorem Row.keep {w w' : World} {B : Nat} {ks : List Nd} {v : Value} (h : Row w B ks v) (hk : ∀ k, B ≤ k → k < w.heap.size → w'.heap[k]? = w.heap[k]?) : Row w' B ks v := by
  rcases h with h0 | ⟨g, cap, cur, hv, hB, hg, h1, h2, h3, h4, h5⟩
  · exact .inl h0
  · have e := hk g hB (lt_of_blk hg)
    exact .inr ⟨g, cap, cur, hv, hB, e.trans hg, h1, h2, h3, RowV.keep (fun _ h => h) (fun k hS hl => hk k hS.1 hl) g 0 e ks h4, h5⟩
theorem Row.tn {w w' : World} {B n : Nat} {ks : List Nd} {v : Value} (h : Row w B ks v) (t : Tn n w w') (hn : n < B) : Row w' B ks v := h.keep (fun k h1 h2 => t.blk k h2 (by omega))
theorem Row.bel {w w' : World} {B : Nat} {ks : List Nd} {v : Value} (h : Row w B ks v) (hb : Below w.heap.size w w') : Row w' B ks v := h.keep (fun k _ h2 => hb.block k h2)
theorem Row.base {w : World} {A B : Nat} {ks : List Nd} {v : Value} (h : Row w B ks v) (hA : A ≤ B) : Row w A ks v := by
  rcases h with h0 | ⟨g, cap, cur, hv, hB, hg, h1, h2, h3, h4, h5⟩
  · exact .inl h0
  · exact .inr ⟨g, cap, cur, hv, Nat.le_trans hA hB, hg, h1, h2, h3, RowV.lowS (fun k h => ⟨Nat.le_trans hA h.1, h.2⟩) h4, h5⟩
theorem Row.own {w : World} {B : Nat} {ks : List Nd} {v : Value} (h : Row w B ks v) : ∀ k, v.ownBlock = some k → B ≤ k ∧ k < w.heap.size := fun k hk => by
  rcases h with ⟨rfl, _⟩ | ⟨g, cap, cur, rfl, hB, hg, _⟩
  · cases hk
  · cases hk
    exact ⟨hB, lt_of_blk hg⟩
theorem nodeAt_of {w w' : World} {g g' : Nat} {o : Nat} (h : ∀ j, j < 9 → cD w' g' (o + j) = cD w g (o + j)) : nodeAt w' g' o = nodeAt w g o := by
  unfold nodeAt
  rw [h 1 (by omega), h 2 (by omega), h 3 (by omega), h 4 (by omega), h 5 (by omega), h 6 (by omega), h 7 (by omega), h 8 (by omega)]
  have := h 0 (by omega)
  rw [Nat.add_zero] at this
  rw [this]
theorem RowV.move {w w' : World} {S S' : Nat → Prop} {g g' : Nat} (hS : ∀ k, S k → k < w.heap.size → S' k) (hk : ∀ k, S k → k < w.heap.size → w'.heap[k]? = w.heap[k]?) : ∀ (ks : List Nd) (o : Nat), (∀ j, j < o + 9 * ks.length → cD w' g' j = cD w g j) → RowV w S g o ks → RowV w' S' g' o ks
  | [], _, _, _ => by unfold RowV; trivial
  | n :: ks, o, hc, h => by
    unfold RowV at h ⊢
    have hl : (n :: ks).length = ks.length + 1 := rfl
    refine ⟨?_, RowV.move hS hk ks (o + 9) (fun j hj => hc j (by omega)) h.2⟩
    rw [nodeAt_of (fun j hj => hc (o + j) (by omega))]
    exact NodeV.keep (S := fun k => S k ∧ k < w.heap.size) (fun k h => hS k h.1 h.2) (fun k h _ => hk k h.1 h.2) n _ h.1.within
theorem RowV.snoc {w : World} {S : Nat → Prop} {g : Nat} (n : Nd) : ∀ (ks : List Nd) (o : Nat), RowV w S g o ks → NodeV w S n (nodeAt w g (o + 9 * ks.length)) → RowV w S g o (ks ++ [n])
  | [], o, _, h => by
    show RowV w S g o [n]
    unfold RowV
    exact ⟨by simpa using h, by unfold RowV; trivial⟩
  | m :: ks, o, h, hn => by
    unfold RowV at h
    show RowV w S g o (m :: (ks ++ [n]))
    unfold RowV
    refine ⟨h.1, RowV.snoc n ks (o + 9) h.2 ?_⟩
    rw [show o + 9 + 9 * ks.length = o + 9 * (m :: ks).length by rw [List.length_cons]; omega]
    exact hn
/-- a node more -/
theorem Row.push {w : World} {B C b c : Nat} {ks : List Nd} {v : Value} (h : Row w B ks v) (hB : B ≤ C) (hC : ∀ k, v.ownBlock = some k → k < C) (hw : C ≤ w.heap.size) (hl : ks.length ≤ 5000)
    {kd p : Int} {nm : ByteArray} {t n z o bits_ : Int} {ks' : List Nd} {s : Value} (hk : KidsV w (Fr C) ks' s)
    (hb : w.heap[b]? = some (.cells #[.int .i64 kd, .int .i64 p, .string nm, .int .i64 t, .int .i64 n, .int .i64 z, .int .i64 o, .int .u64 bits_, s] 27 (0, 0))) (ty : TypeId) :
    ∃ v' w', (Builtin.append_ #[25, 25] ty #[v, .slice (some ⟨b, 0, none⟩) 1 c]).run Tryz.prog w = .ok v' w' ∧ (Row w' B (ks ++ [.mk kd p nm t n z o bits_ ks']) v' ∧ Below B w w') := by
  obtain ⟨ie, hi, hz0, hz1, hz2⟩ := info_parts info_nod
  have hn : ∀ j u, ([.int .i64 kd, .int .i64 p, .string nm, .int .i64 t, .int .i64 n, .int .i64 z, .int .i64 o, .int .u64 bits_, s] : List Value)[j]? = some u → w.cell? ((⟨b, 0, none⟩ : Addr).add j) = some u := fun j u hu => by
    have e2 : (Addr.mk b 0 none).add j = ⟨b, j, none⟩ := by unfold Addr.add; by_cases h : j = 0 <;> simp [h]
    rw [e2]
    exact blk_cell hb j u (by rw [← hu]; simp)
  have h1 : ∀ u ∈ ([.int .i64 kd, .int .i64 p, .string nm, .int .i64 t, .int .i64 n, .int .i64 z, .int .i64 o, .int .u64 bits_, s] : List Value), u.oneCell' = true := fun u hu => by
    simp at hu
    rcases hu with rfl | rfl | rfl | rfl | rfl | rfl | rfl | rfl | rfl
    all_goals first | rfl | exact hk.one
  obtain ⟨xs, hown⟩ : ∃ xs, w.ownsRow B 27 9 v ks.length xs := by
    rcases h with ⟨rfl, rfl⟩ | ⟨g, cap, cur, rfl, hB, hg, h1, h2, h3, h4, h5⟩
    · exact ⟨[], rfl, .inl ⟨rfl, rfl⟩⟩
    · refine ⟨cur.toList.take (ks.length * 9), ?_, .inr ⟨g, cap, cur, rfl, hB, hg, h1, h2, h3, rfl⟩⟩
      have e : cur.toList.length = cap * 9 := h3
      rw [List.length_take, e]
      have := Nat.mul_le_mul_right 9 h1
      omega
  obtain ⟨v', w', hr, ho, hg, _, hat⟩ := run_append_own_at (P := Tryz.prog) w B 25 ty 27 ie (.agg #[.int .i64 0, .int .i64 0, .string ⟨#[]⟩, .int .i64 0, .int .i64 0, .int .i64 0, .int .i64 0, .int .u64 0, .slice none 0 0]) 9 96 Tryz.underlying25 hi hz0 hz1 hz2 rfl (by decide) v ks.length xs hown ⟨b, 0, none⟩ 1 c _ rfl hn h1 (by unfold maxLen; omega) (by omega) (Nat.le_trans hB hw)
  have hbel : Below B w w' := ⟨hg.os, hg.tape, hg.output, hg.size, fun k hk2 => hg.block k (Nat.lt_of_lt_of_le hk2 (Nat.le_trans hB hw)) (fun e => by have := (h.own k e.symm).1; omega)⟩
  refine ⟨v', w', hr, ?_, hbel⟩
  rcases ho.2 with ⟨_, h0⟩ | ⟨g', cap', cur', hv', hBg', hc', hl1, hl2, hl3, hl4⟩
  · simp at h0
  subst hv'
  have hxl : xs.length = ks.length * 9 := hown.1
  have hcell : ∀ j u, (xs ++ ([.int .i64 kd, .int .i64 p, .string nm, .int .i64 t, .int .i64 n, .int .i64 z, .int .i64 o, .int .u64 bits_, s] : List Value))[j]? = some u → cD w' g' j = u := fun j u hu => by
    unfold cD
    rw [blk_cell hc' j u ?_]
    · rfl
    · have hj : j < (ks.length + 1) * 9 := by
        have := (List.getElem?_eq_some_iff.1 hu).1
        rw [List.length_append, hxl] at this
        simp at this
        omega
      rw [← Array.getElem?_toList, ← List.getElem?_take_of_lt hj, hl4]
      exact hu
  have hold : ∀ g, v.ownBlock = some g → ∀ j, j < ks.length * 9 → cD w' g' j = cD w g j := fun g hgv j hj => by
    rcases hown.2 with ⟨rfl, h0⟩ | ⟨g2, cap, cur, rfl, hB2, hg2, m1, m2, m3, m4⟩
    · cases hgv
    · cases hgv
      have hx : xs[j]? = some xs[j] := List.getElem?_eq_getElem (by omega)
      have e1 : cD w g2 j = xs[j] := by
        unfold cD
        rw [blk_cell hg2 j xs[j] ?_]
        · rfl
        · rw [← Array.getElem?_toList, ← List.getElem?_take_of_lt hj, m4]
          exact hx
      rw [e1]
      exact hcell j _ (by rw [List.getElem?_append_left (by omega)]; exact hx)
  have hnew : ∀ j, j < 9 → ∀ u, ([.int .i64 kd, .int .i64 p, .string nm, .int .i64 t, .int .i64 n, .int .i64 z, .int .i64 o, .int .u64 bits_, s] : List Value)[j]? = some u → cD w' g' (0 + 9 * ks.length + j) = u := fun j hj u hu => by
    refine hcell _ u ?_
    rw [List.getElem?_append_right (by omega), show 0 + 9 * ks.length + j - xs.length = j by omega]
    exact hu
  have hlen : (ks ++ [Nd.mk kd p nm t n z o bits_ ks']).length = ks.length + 1 := by simp
  have hfresh : ∀ k, k < w.heap.size → v.ownBlock ≠ some k → k ≠ g' := fun k hk2 hne e => by
    subst e
    rcases hat with h2 | h2
    · exact hne (h2.symm.trans rfl)
    · have : some k = some w.heap.size := h2
      cases this
      omega
  have hsame : ∀ k, k < w.heap.size → v.ownBlock ≠ some k → w'.heap[k]? = w.heap[k]? := fun k hk2 hne => hg.block k hk2 (fun e => hne e.symm)
  refine .inr ⟨g', cap', cur', by rw [hlen], hBg', hc', by rw [hlen]; exact hl1, hl2, hl3, ?_, by rw [hlen]; omega⟩
  refine RowV.snoc _ ks 0 ?_ ?_
  · rcases h with ⟨rfl, rfl⟩ | ⟨g, cap, cur, rfl, hB2, hg2, m1, m2, m3, m4, m5⟩
    · unfold RowV; trivial
    · have hgv : ∀ k, k ≠ g → Value.ownBlock (.slice (some ⟨g, 0, none⟩) ks.length cap) ≠ some k := fun k hk2 e => by
        have : some g = some k := e
        cases this
        exact hk2 rfl
      exact RowV.move (fun k hS hl3 => ⟨hS.1, hfresh k hl3 (hgv k hS.2)⟩) (fun k hS hl3 => hsame k hl3 (hgv k hS.2)) ks 0 (fun j hj => hold g rfl j (by omega)) m4
  · have hgC : ∀ k, C ≤ k → v.ownBlock ≠ some k := fun k hk2 e => by have := hC k e; omega
    unfold NodeV
    refine ⟨s, ?_, KidsV.keep (S := fun k => Fr C k ∧ k < w.heap.size) (fun k h => ⟨Nat.le_trans hB h.1, hfresh k h.2 (hgC k h.1)⟩) (fun k h _ => hsame k h.2 (hgC k h.1)) ks' s hk.within⟩
    unfold nodeAt
    have e0 := hnew 0 (by omega) _ rfl
    rw [Nat.add_zero] at e0
    rw [e0, hnew 1 (by omega) _ rfl, hnew 2 (by omega) _ rfl, hnew 3 (by omega) _ rfl, hnew 4 (by omega) _ rfl, hnew 5 (by omega) _ rfl, hnew 6 (by omega) _ rfl, hnew 7 (by omega) _ rfl, hnew 8 (by omega) _ rfl]

inductive OutL where
  | ok (ns : List Nd) (j : Nat)
  | bad (k j : Nat)
/-- how a method that gives a row of nodes ends -/
def PostR (p : List Addr) (g gT : Nat) (L : List Tk) (l : Nat) (w : World) (e : Ending) (w' : World) : OutL → Prop
  | .ok ns j => ∃ s, e = .returned s ∧ Row w' w.heap.size ns s ∧ Ps w' p g gT L j l ∧ Tn g w w'
  | .bad k j => e = stop (errV p k) (tkAt L j).pos ∧ Tn g w w'
def RuleL (K : Nat) (p : List Addr) (g gT : Nat) (L : List Tk) (l i : Nat) (o : OutL) : Prop :=
  ∀ w, Ps w p g gT L i l → Calls Tryz.prog K #[.pointer (some ⟨g, 0, none⟩)] w fun e w' => PostR p g gT L l w e w' o

/-- the first node of a row that a literal makes -/
theorem Row.one {w : World} {B : Nat} (hB : B ≤ w.heap.size) {kd p : Int} {nm : ByteArray} {t n z o bits_ : Int} {ks : List Nd} {s : Value} (hk : KidsV w (Fr B) ks s) :
    Row (w.alloc (.cells #[.int .i64 kd, .int .i64 p, .string nm, .int .i64 t, .int .i64 n, .int .i64 z, .int .i64 o, .int .u64 bits_, s] 27)) B [.mk kd p nm t n z o bits_ ks] (.slice (some ⟨w.heap.size, 0, none⟩) 1 1) := by
  have hb := bel_new w (.cells #[.int .i64 kd, .int .i64 p, .string nm, .int .i64 t, .int .i64 n, .int .i64 z, .int .i64 o, .int .u64 bits_, s] 27)
  have hx : (w.alloc (.cells #[.int .i64 kd, .int .i64 p, .string nm, .int .i64 t, .int .i64 n, .int .i64 z, .int .i64 o, .int .u64 bits_, s] 27)).heap[w.heap.size]? = some (.cells #[.int .i64 kd, .int .i64 p, .string nm, .int .i64 t, .int .i64 n, .int .i64 z, .int .i64 o, .int .u64 bits_, s] 27 (0, 0)) := Go.Deep.blk_alloc_new _ _
  refine .inr ⟨w.heap.size, 1, _, rfl, hB, hx, Nat.le_refl _, by unfold maxLen; omega, rfl, ?_, by simp⟩
  unfold RowV
  refine ⟨?_, by unfold RowV; trivial⟩
  unfold NodeV
  refine ⟨s, ?_, KidsV.keep (S := fun k => Fr B k ∧ k < w.heap.size) (fun k h => ⟨h.1, Nat.ne_of_lt h.2⟩) (fun k h _ => hb.block k h.2) ks s hk.within⟩
  unfold nodeAt cD
  rw [blk_cell hx 0 _ rfl, blk_cell hx (0 + 1) _ rfl, blk_cell hx (0 + 2) _ rfl, blk_cell hx (0 + 3) _ rfl, blk_cell hx (0 + 4) _ rfl, blk_cell hx (0 + 5) _ rfl, blk_cell hx (0 + 6) _ rfl, blk_cell hx (0 + 7) _ rfl, blk_cell hx (0 + 8) _ rfl]
  rfl

/-- blocks from B on, but two -/
def Ot (B z n k : Nat) : Prop := B ≤ k ∧ k ≠ z ∧ k ≠ n
/-- a rule's method under way: entered at w, its result's variable in block z, a node's variable in block n, the parser -/
structure Sn (w wr : World) (p : List Addr) (g gT : Nat) (L : List Tk) (i l z n : Nat) (kd ps : Int) (nm : ByteArray) (t nz : Int) (a : Option Addr) (len ck : Nat) (ks : List Nd) : Prop where
  pr : Ps wr p g gT L i l
  tn : Tn g w wr
  zr : Nod wr z (.int .i64 0) (.int .i64 0) (.string ⟨#[]⟩) (.int .i64 0) (.int .i64 0) (.int .i64 0) (.int .i64 0) (.int .u64 0) (.slice none 0 0)
  vr : Nod wr n (.int .i64 kd) (.int .i64 ps) (.string nm) (.int .i64 t) (.int .i64 nz) (.int .i64 0) (.int .i64 0) (.int .u64 0) (.slice a len ck)
  kv : KidsV wr (Ot w.heap.size z n) ks (.slice a len ck)
  ng : g < w.heap.size
  nT : gT < w.heap.size
  nn : w.heap.size ≤ n
  nz' : w.heap.size ≤ z
  ne : z ≠ n
section
variable {w wr w' : World} {p : List Addr} {g gT : Nat} {L : List Tk} {i l z n : Nat} {kd ps : Int} {nm : ByteArray} {t nz : Int} {a : Option Addr} {len ck : Nat} {ks : List Nd}
theorem Sn.call {j l' : Nat} (h : Sn w wr p g gT L i l z n kd ps nm t nz a len ck ks) (r1 : Ps w' p g gT L j l') (r2 : Tn g wr w') : Sn w w' p g gT L j l' z n kd ps nm t nz a len ck ks := by
  have h1 := h.ng
  have h2 := h.nn
  have h3 := h.nz'
  exact ⟨r1, h.tn.trans r2, h.zr.tn r2 (by omega), h.vr.tn r2 (by omega), h.kv.tnS r2 (fun e => by have := e.1; omega), h.ng, h.nT, h.nn, h.nz', h.ne⟩
theorem Sn.bel (h : Sn w wr p g gT L i l z n kd ps nm t nz a len ck ks) (hb : Below wr.heap.size wr w') : Sn w w' p g gT L i l z n kd ps nm t nz a len ck ks :=
  h.call (h.pr.below hb) (Tn.of_bel hb)
theorem Sn.drew (h : Sn w wr p g gT L i l z n kd ps nm t nz a len ck ks) : Sn w wr.drew p g gT L i l z n kd ps nm t nz a len ck ks := h.bel (bel_drawn (Below.refl _ _))
theorem Sn.own (h : Sn w wr p g gT L i l z n kd ps nm t nz a len ck ks) (r2 : Tn n wr w') : Ps w' p g gT L i l ∧ Tn g w w' ∧ Nod w' z (.int .i64 0) (.int .i64 0) (.string ⟨#[]⟩) (.int .i64 0) (.int .i64 0) (.int .i64 0) (.int .i64 0) (.int .u64 0) (.slice none 0 0) ∧ KidsV w' (Ot w.heap.size z n) ks (.slice a len ck) := by
  have h1 := h.ng
  have h2 := h.nT
  have h3 := h.nn
  have h4 := h.pr.big
  exact ⟨h.pr.tn r2 (by omega) (by omega) (by omega), h.tn.own r2 (by omega), h.zr.tn r2 h.ne, h.kv.tnS r2 (fun e => e.2.2 rfl)⟩
theorem Sn.setK (h : Sn w wr p g gT L i l z n kd ps nm t nz a len ck ks) (y : Int) : Sn w (wr.setCell ⟨n, 0, none⟩ (.int .i64 y)) p g gT L i l z n y ps nm t nz a len ck ks := by
  obtain ⟨x, s⟩ := set1 h.vr 0 (.int .i64 y)
  obtain ⟨k1, k2, k3, k4⟩ := h.own s
  exact ⟨k1, k2, k3, x, k4, h.ng, h.nT, h.nn, h.nz', h.ne⟩
theorem Sn.setName (h : Sn w wr p g gT L i l z n kd ps nm t nz a len ck ks) (y : ByteArray) : Sn w (wr.setCell ⟨n, 2, none⟩ (.string y)) p g gT L i l z n kd ps y t nz a len ck ks := by
  obtain ⟨x, s⟩ := set1 h.vr 2 (.string y)
  obtain ⟨k1, k2, k3, k4⟩ := h.own s
  exact ⟨k1, k2, k3, x, k4, h.ng, h.nT, h.nn, h.nz', h.ne⟩
theorem Sn.setT (h : Sn w wr p g gT L i l z n kd ps nm t nz a len ck ks) (y : Int) : Sn w (wr.setCell ⟨n, 3, none⟩ (.int .i64 y)) p g gT L i l z n kd ps nm y nz a len ck ks := by
  obtain ⟨x, s⟩ := set1 h.vr 3 (.int .i64 y)
  obtain ⟨k1, k2, k3, k4⟩ := h.own s
  exact ⟨k1, k2, k3, x, k4, h.ng, h.nT, h.nn, h.nz', h.ne⟩
theorem Sn.setN (h : Sn w wr p g gT L i l z n kd ps nm t nz a len ck ks) (y : Int) : Sn w (wr.setCell ⟨n, 4, none⟩ (.int .i64 y)) p g gT L i l z n kd ps nm t y a len ck ks := by
  obtain ⟨x, s⟩ := set1 h.vr 4 (.int .i64 y)
  obtain ⟨k1, k2, k3, k4⟩ := h.own s
  exact ⟨k1, k2, k3, x, k4, h.ng, h.nT, h.nn, h.nz', h.ne⟩
theorem Sn.setKids {a' : Option Addr} {len' ck' : Nat} {ks' : List Nd} (h : Sn w wr p g gT L i l z n kd ps nm t nz a len ck ks) {C : Nat} (hz : z < C) (hn : n < C) (hk : KidsV wr (Fr C) ks' (.slice a' len' ck')) : Sn w (wr.setCell ⟨n, 8, none⟩ (.slice a' len' ck')) p g gT L i l z n kd ps nm t nz a' len' ck' ks' := by
  obtain ⟨x, s⟩ := set1 h.vr 8 (.slice a' len' ck')
  obtain ⟨k1, k2, k3, k4⟩ := h.own s
  have h3 := h.nn
  exact ⟨k1, k2, k3, x, (hk.lowS (fun k hk => show Ot w.heap.size z n k from ⟨by have : C ≤ k := hk; omega, by have : C ≤ k := hk; omega, by have : C ≤ k := hk; omega⟩)).tnS s (fun e => e.2.2 rfl), h.ng, h.nT, h.nn, h.nz', h.ne⟩
theorem Sn.lt (h : Sn w wr p g gT L i l z n kd ps nm t nz a len ck ks) : n < wr.heap.size := lt_of_blk h.vr
theorem Sn.ltz (h : Sn w wr p g gT L i l z n kd ps nm t nz a len ck ks) : z < wr.heap.size := lt_of_blk h.zr
/-- the result is what the variable holds -/
theorem Sn.done (h : Sn w wr p g gT L i l z n kd ps nm t nz a len ck ks) :
    ∃ w9, w9 = (((((((((wr.setCell ⟨z, 0, none⟩ (.int .i64 kd)).setCell ⟨z, 1, none⟩ (.int .i64 ps)).setCell ⟨z, 2, none⟩ (.string nm)).setCell ⟨z, 3, none⟩ (.int .i64 t)).setCell ⟨z, 4, none⟩ (.int .i64 nz)).setCell ⟨z, 5, none⟩ (.int .i64 0)).setCell ⟨z, 6, none⟩ (.int .i64 0)).setCell ⟨z, 7, none⟩ (.int .u64 0)).setCell ⟨z, 8, none⟩ (.slice a len ck)) ∧
      Nod w9 z (.int .i64 kd) (.int .i64 ps) (.string nm) (.int .i64 t) (.int .i64 nz) (.int .i64 0) (.int .i64 0) (.int .u64 0) (.slice a len ck) ∧
      NodeV w9 (Fr w.heap.size) (.mk kd ps nm t nz 0 0 0 ks) (.agg #[.int .i64 kd, .int .i64 ps, .string nm, .int .i64 t, .int .i64 nz, .int .i64 0, .int .i64 0, .int .u64 0, .slice a len ck]) ∧ Ps w9 p g gT L i l ∧ Tn g w w9 := by
  obtain ⟨z9, s9⟩ := set9 h.zr (.int .i64 kd) (.int .i64 ps) (.string nm) (.int .i64 t) (.int .i64 nz) (.int .i64 0) (.int .i64 0) (.int .u64 0) (.slice a len ck)
  have h1 := h.ng
  have h2 := h.nT
  have h3 := h.pr.big
  have h4 := h.nz'
  refine ⟨_, rfl, z9, ?_, h.pr.tn s9 (by omega) (by omega) (by omega), h.tn.own s9 h4⟩
  unfold NodeV
  exact ⟨_, rfl, (h.kv.tnS s9 (fun e => e.2.1 rfl)).lowS (fun k hk => hk.1)⟩
end

end Go.Proofs.YtogeblmppagabaaGreatDoor.Ck
