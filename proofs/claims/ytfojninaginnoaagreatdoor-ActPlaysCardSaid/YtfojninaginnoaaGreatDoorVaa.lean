/- Texts of this proof, packed: contracts of the program's functions, and the plain model that they are held against. -/
import Derived.Test.YtfojninaginnoaaGreatDoorChecked
import Derived.WalkKit
import Derived.Outline
import Derived.BigQuiet
import Derived.Deep.QuietTactic
import Derived.WalkSmall
import Derived.Deep.OwnRows
import Derived.Test.YtfojninaginnoaaGreatDoorRows
import Derived.LaidMore
import Derived.MakeChecks
import Derived.Stop.LaidErr
import Derived.Stop.Joined
import Derived.LaidEql
import Derived.Stop.Asserts
import Derived.WalkLawsBesides
import Derived.LaidEqlPtr
import Derived.Maps.AppendAt
import Derived.OwnWalk
import Derived.Deep.RegionHeld3
import Derived.Deep.RegionHeld3
set_option maxRecDepth 20000
set_option maxHeartbeats 4000000
namespace Go.Proofs.YtfojninaginnoaaGreatDoor.Ck
theorem S_ : (∀ {α : Type} (a : List α) (i : Nat) (h : i < a.toArray.size), a.toArray[i] = a[i]'(by simpa using h)) ∧ (∀ {α : Type} (a : α) (l : List α) (h : 0 < (a :: l).length), (a :: l)[0] = a) ∧ (∀ {α : Type} (a : α) (l : List α) (i : Nat) (h : i + 1 < (a :: l).length), (a :: l)[i + 1] = l[i]'(Nat.lt_of_succ_lt_succ h)) ∧ (∀ {α : Type} (l : List α) (i : Nat) (a : α), l.toArray.setIfInBounds i a = (l.set i a).toArray) ∧ (∀ {α : Type} (l : List α) (x a : α), (a :: l).set 0 x = x :: l) ∧ (∀ {α : Type} (l : List α) (i : Nat) (x a : α), (a :: l).set (i + 1) x = a :: l.set i x) :=
  ⟨fun _ _ _ => List.getElem_toArray _, fun _ _ _ => rfl, fun _ _ _ _ => rfl, fun _ _ _ => List.setIfInBounds_toArray _ _ _, fun _ _ _ => rfl, fun _ _ _ _ => rfl⟩
abbrev I_ (x : Int) : Value := .int .i64 x
abbrev P_ (g : Nat) : Value := .pointer (some ⟨g, 0, none⟩)
theorem G_ {α : Type} {l : List α} {i : Nat} {x : α} (h : l[i]? = some x) : i < l.length := (List.getElem?_eq_some_iff.1 h).1
section
variable {P : Program} {ops : Array Oper} {Q : Exit → Act → World → Prop} {md : Region.Mode} {S : World → Prop} {oi : Oper} {fuel : Nat} {listed : Array Bool} {a : Act} {w : World}
theorem T_ (i : Nat) {v : Value} (hy : ∀ w, (execOp a.eval oi).run P w = .ok (.value v) w) (h : wpAny P md ops Q fuel (listed.setIfInBounds i true) (a.put oi.dst v) w) (hi : ops[i]? = some oi := by rfl) (hs : Region.noSelect ops = true := by kernel_rfl) (hf : Region.free md ops listed i = true := by kernel_rfl) (hr : (Region.ready md ops listed).contains i = true := by kernel_rfl)
    (hQ : ∀ c a w, Q (.panic c) (a.put oi.dst v) w → Q (.panic c) a w := by exact fun _ _ _ h => h) (hw : Region.wanted oi (yielded ops a.tmps) = true := by rfl) : wpAny P md ops Q (fuel + 1) listed a w := wpAny_take hi hs hf hr hQ (Or.inl ⟨hw, hy⟩) h
theorem H_ (i : Nat) {v : Value} (hy : ∀ w, S w → (execOp a.eval oi).run P w = .ok (.value v) w) (hS : S w) (h : wpAnyH P md ops Q S fuel (listed.setIfInBounds i true) (a.put oi.dst v) w) (hi : ops[i]? = some oi := by rfl) (hs : Region.noSelect ops = true := by kernel_rfl) (hf : Region.free md ops listed i = true := by kernel_rfl) (hr : (Region.ready md ops listed).contains i = true := by kernel_rfl)
    (hQ : ∀ c a w, Q (.panic c) (a.put oi.dst v) w → Q (.panic c) a w := by exact fun _ _ _ h => h) (hw : Region.wanted oi (yielded ops a.tmps) = true := by rfl) : wpAnyH P md ops Q S (fuel + 1) listed a w := wpAnyH_take hi hs hf hr hQ (Or.inl ⟨hw, hy⟩) hS h
theorem T2_ (i : Nat) {v : Value} (h : wpAny P md ops Q fuel (listed.setIfInBounds i true) (a.put oi.dst v) w) (hi : ops[i]? = some oi := by rfl) (hy : ∀ w, (execOp a.eval oi).run P w = .ok (.value v) w := by (intro w; go_simp <;> with_reducible rfl)) (hs : Region.noSelect ops = true := by kernel_rfl) (hf : Region.free md ops listed i = true := by kernel_rfl) (hr : (Region.ready md ops listed).contains i = true := by kernel_rfl)
    (hQ : ∀ c a w, Q (.panic c) (a.put oi.dst v) w → Q (.panic c) a w := by exact fun _ _ _ h => h) (hw : Region.wanted oi (yielded ops a.tmps) = true := by rfl) : wpAny P md ops Q (fuel + 1) listed a w := wpAny_take hi hs hf hr hQ (Or.inl ⟨hw, hy⟩) h
theorem H2_ (i : Nat) {v : Value} (hS : S w) (h : wpAnyH P md ops Q S fuel (listed.setIfInBounds i true) (a.put oi.dst v) w) (hi : ops[i]? = some oi := by rfl) (hy : ∀ w, S w → (execOp a.eval oi).run P w = .ok (.value v) w := by (intro w _; go_simp <;> with_reducible rfl)) (hs : Region.noSelect ops = true := by kernel_rfl) (hf : Region.free md ops listed i = true := by kernel_rfl) (hr : (Region.ready md ops listed).contains i = true := by kernel_rfl)
    (hQ : ∀ c a w, Q (.panic c) (a.put oi.dst v) w → Q (.panic c) a w := by exact fun _ _ _ h => h) (hw : Region.wanted oi (yielded ops a.tmps) = true := by rfl) : wpAnyH P md ops Q S (fuel + 1) listed a w := wpAnyH_take hi hs hf hr hQ (Or.inl ⟨hw, hy⟩) hS h
theorem RH_ (i : Nat) (h : ∀ K' : Act → World → Prop, Shut (∀ a w, S w → (S w → wpAnyH P md ops Q S fuel (listed.setIfInBounds i true) a w) → K' a w) → if Region.wanted oi (yielded ops a.tmps) = true then Oper.wp P oi a w K' Q else K' (a.put oi.dst undef) w) (hr : Region.ready md ops listed = [i] := by kernel_rfl) (ho : ops[i]? = some oi := by rfl) : wpAnyH P md ops Q S (fuel + 1) listed a w :=
  wpAnyH_ready hr (by simp) (AllReadyH.cons ho h AllReadyH.nil)
theorem B_ (w : World) (o : Obj) : (w.alloc o).heap[w.heap.size]? = some o := Go.Deep.blk_alloc_new w o
theorem R_ (i : Nat) (h : ∀ K' : Act → World → Prop, (∀ a w, wpAny P md ops Q fuel (listed.setIfInBounds i true) a w → K' a w) → if Region.wanted oi (yielded ops a.tmps) = true then Oper.wp P oi a w K' Q else K' (a.put oi.dst undef) w) (hr : Region.ready md ops listed = [i] := by kernel_rfl) (ho : ops[i]? = some oi := by rfl) : wpAny P md ops Q (fuel + 1) listed a w :=
  wpAny_ready hr (by simp) (AllReady.cons ho h AllReady.nil)
end
end Go.Proofs.YtfojninaginnoaaGreatDoor.Ck
namespace Go.Proofs.YtfojninaginnoaaGreatDoor.Ck
open Go.RowKit
def Fits (c : List Int) : Prop := ∀ z ∈ c, -9223372036854775808 <= z /\ z <= 9223372036854775807
def Sl (w : World) (v : Value) (zs : List Int) : Prop :=
 Fits zs /\ ∃ a cap, v = .slice a zs.length cap /\ zs.length <= cap /\ cap <= maxLen ∧
  ∀ i, i < zs.length -> ∃ b off, a = some ⟨b, off, none⟩ /\ b < w.heap.size /\ w.cell? ⟨b, off + i, none⟩ = some (I_ (zs.getD i 0))
theorem Sl.below {w w' : World} {v : Value} {zs : List Int} (h : Sl w v zs) {B : Nat} (hB : w.heap.size <= B) (hb : Below B w w') : Sl w' v zs := by
 obtain ⟨hf, a, cap, hv, h1, h2, h3⟩ := h
 refine ⟨hf, a, cap, hv, h1, h2, fun i hi => ?_⟩
 obtain ⟨b, off, ha, hlt, hc⟩ := h3 i hi
 exact ⟨b, off, ha, Nat.lt_of_lt_of_le hlt hb.size, by rw [hb.cell (p := ⟨b, off + i, none⟩) (Nat.lt_of_lt_of_le hlt hB)]; exact hc⟩
theorem Zg {w w1 w2 : World} (h : Below w.heap.size w w1) (h2 : Below w1.heap.size w1 w2) : Below w.heap.size w w2 := h.trans (h2.mono h.size)
theorem Zv {w w1 : World} (h : Below w.heap.size w w1) (o : Obj) : Below w.heap.size w (w1.alloc o) := h.alloc h.size o
theorem Zd (w : World) (o : Obj) : Below w.heap.size w (w.alloc o) := (Below.refl _ _).alloc (Nat.le_refl _) o
theorem Sl.nilS (w : World) : Sl w (.slice none 0 0) [] :=
 ⟨fun _ h => (by cases h), none, 0, rfl, Nat.le_refl _, Nat.zero_le _, fun _ h => absurd h (Nat.not_lt_zero _)⟩
theorem Sl.slice {w : World} {v : Value} {zs : List Int} (h : Sl w v zs) : ∃ a n c, v = .slice a n c /\ n = zs.length := by
 obtain ⟨_, a, c, rfl, _⟩ := h
 exact ⟨_, _, _, rfl, rfl⟩
theorem Sl.at {w : World} {a : Option Addr} {n c : Nat} {zs : List Int} (h : Sl w (.slice a n c) zs) (i : Nat) (hi : i < n) :
 ∃ b off, a = some ⟨b, off, none⟩ /\ b < w.heap.size /\ w.cell? ⟨b, off + i, none⟩ = some (I_ (zs.getD i 0)) := by
 obtain ⟨_, a', c', e, _, _, hc⟩ := h
 cases e
 exact hc i hi
theorem ret_bool {a b : Bool} (h : a = b) : Ending.returned (.bool a) = .returned (.bool b) := by rw [h]
theorem info3 : (Tryz.prog.info? 3).map (fun i => (i.zero, i.size, i.bytes)) = some (some (I_ 0), 1, 8) := by kernel_rfl
end Go.Proofs.YtfojninaginnoaaGreatDoor.Ck
namespace Go.Proofs.YtfojninaginnoaaGreatDoor.Ck
open Go.ChangeShapes Go.WideShapes Go.RowKit
theorem own : ownKnob Tryz.prog.godebug = none := by kernel_rfl
theorem laidOut : laidOutB Tryz.prog = true := by kernel_rfl
theorem star : "*" ++ "errors.errorString" = "*errors.errorString" := by decide
theorem rowEs (u : TypeId) (h : Tryz.prog.typeName? 3 u = some "*errors.errorString") : u = 203 :=
 typeName_ptr_named (nm := "errors.errorString") (by rw [star]; kernel_rfl) (by kernel_rfl) (by decide) u (by rw [star]; exact h)
theorem cellsEs : Tryz.prog.cellsOf 228 = 1 := by kernel_rfl
theorem cells9 : Tryz.prog.cellsOf 9 = 1 := by kernel_rfl
end Go.Proofs.YtfojninaginnoaaGreatDoor.Ck
namespace Go.Proofs.YtfojninaginnoaaGreatDoor.Ck
open Go.ChangeShapes Go.WideShapes Go.RowKit
def sentD (t : List UInt8) : DataW Unit := .iface "*errors.errorString" (.ptr (.agg [.lit (.string t)]))
def Sents (W : World) : List Nat -> List Addr -> Prop
 | [], [] => True
 | g :: gs, a :: av => (g < W.heap.size /\ W.cell? ⟨g, 0, none⟩ = some (.iface 203 (.pointer (some a))) /\ ∃ c t, W.heap[a.block]? = some (.cells c t (0, 0))) /\ Sents W gs av
 | _, _ => False
theorem Sents.at {W : World} {gs : List Nat} {av : List Addr} (h : Sents W gs av) (i : Nat) (hi : i < gs.length) :
 (gs.getD i 0 < W.heap.size /\ W.cell? ⟨gs.getD i 0, 0, none⟩ = some (.iface 203 (.pointer (some (av.getD i ⟨0, 0, none⟩)))) /\ ∃ c t, W.heap[(av.getD i ⟨0, 0, none⟩).block]? = some (.cells c t (0, 0))) := by
 induction gs generalizing av i with
 | nil => exact absurd hi (Nat.not_lt_zero _)
 | cons g gs ih =>
  cases av with
  | nil => exact absurd h (fun h => h)
  | cons a av =>
   cases i with
   | zero => exact h.1
   | succ i => exact ih h.2 i (by simpa using hi)
theorem Sents.len {W : World} {gs : List Nat} {av : List Addr} (h : Sents W gs av) : av.length = gs.length := by
 induction gs generalizing av with
 | nil => cases av with
  | nil => rfl
  | cons a av => exact absurd h (fun h => h)
 | cons g gs ih => cases av with
  | nil => exact absurd h (fun h => h)
  | cons a av => simp [ih h.2]
def placeOf (a : Addr) : MemPlace := .cell a.block a.off
theorem sents_of {W : World} (l : List (String × List UInt8)) (gs : List Nat) (ps : List MemPlace) (hlen : l.length = gs.length)
    (hg : ∀ i, i < l.length -> Tryz.prog.globalNamed (l.getD i ("", [])).1 = some (gs.getD i 0) /\ (Tryz.prog.globals[gs.getD i 0]?).map (·.type) = some 34)
    (h : DataW.LaidVars Tryz.prog W (l.map fun x => (x.1, sentD x.2)) ps)
    (hrows : ∀ b off, MemPlace.cell b off ∈ ps -> (∃ c t, W.heap[b]? = some (.cells c t (0, 0))) /\ ∀ u v, W.cell? ⟨b, off, none⟩ = some (.iface u v) -> Value.okWide Tryz.prog W .any 0 u v) :
    ∃ av, Sents W gs av /\ (av.map placeOf).Sublist ps := by
  induction l generalizing gs ps with
  | nil =>
    cases gs with
    | nil => exact ⟨[], trivial, by simp⟩
    | cons g gs => simp at hlen
  | cons x l ih =>
    cases gs with
    | nil => simp at hlen
    | cons g gs =>
      obtain ⟨g0, t0, cs0, f0, p0, q0, hg0, ht0, hv0, hd0, hq0, e0⟩ := h
      have h0 := hg 0 (by simp)
      simp at h0
      obtain rfl := Option.some.inj (h0.1.symm.trans hg0)
      have ht : t0 = 34 := by
        have h1 := ht0
        simp only [Option.map_eq_some_iff] at h1
        obtain ⟨gl, hgl, hgt⟩ := h1
        obtain ⟨gl', hgl', hgt'⟩ := h0.2
        rw [hgl] at hgl'
        cases hgl'
        exact hgt.symm.trans hgt'
      subst ht
      subst e0
      obtain ⟨l0⟩ := cs0
      obtain ⟨a, s0, rfl, hc0, _, _, rfl⟩ := errorString_of_trod Tryz.underlying34 rowEs Tryz.underlying203 Tryz.underlying228 rfl rfl Tryz.underlying9 cellsEs cells9 hd0 (fun u v e => by
        subst e
        exact (hrows g 0 (by simp [MemPlace.row])).2 u v (by simpa using World.var?_cell hg0 hv0 0))
      have hcell := World.var?_cell hg0 hv0 0
      obtain ⟨c, t, hb⟩ := (hrows a.block a.off (by simp [MemPlace.row])).1
      obtain ⟨av, hs, hsub⟩ := ih gs q0 (by simpa using hlen) (fun i hi => by simpa using hg (i + 1) (by simpa using hi)) hq0 (fun b off hm => hrows b off (List.mem_append_right _ hm))
      refine ⟨a :: av, ⟨⟨?_, by simpa using hcell, c, t, hb⟩, hs⟩, ?_⟩
      · rcases Nat.lt_or_ge g W.heap.size with h' | h'
        · exact h'
        · simp [World.cell?, Array.getElem?_eq_none h'] at hcell
      · have e1 : (placeOf a :: av.map placeOf).Sublist (MemPlace.row a 1 ++ q0) := by
          have : MemPlace.row a 1 = [placeOf a] := by simp [MemPlace.row, placeOf]
          rw [this]
          exact List.Sublist.cons_cons _ hsub
        rw [List.append_assoc]
        exact List.Sublist.trans e1 (List.sublist_append_right _ _)
theorem callTypeOf (v : Value) (w : World) : (callFunc 73 #[.iface 203 v]).run Tryz.prog w = .ok (.value (.iface 181 (.agg #[.pointer (some ⟨17, 203, none⟩)]))) w := by kernel_rfl
theorem callComparable (w : World) : (callFunc 131 #[.agg #[.pointer (some ⟨17, 203, none⟩)]]).run Tryz.prog w = .ok (.value (.bool true)) w := by kernel_rfl
theorem methodComparable (v : Value) (w : World) : (Go.method 340 181 v "Comparable").run Tryz.prog w = .ok (131, v) w := by kernel_rfl
theorem isComp : (Tryz.prog.info? 203).map (·.comparable) = some true := by kernel_rfl
theorem isSize : (Tryz.prog.info? 228).map (·.size) = some 1 := by kernel_rfl
theorem noIsE (v : Value) (xT : TypeId) (w : World) : (Instr.typeAssert (.iface 203 v) xT 183 true).run Tryz.prog w = .ok (.tuple #[.nilIface, .bool false]) w := run_typeAssert_lacksB Tryz.underlying183 (by kernel_rfl) (by kernel_rfl) v xT w
theorem noUnwrapE (v : Value) (xT : TypeId) (w : World) : (Instr.typeAssert (.iface 203 v) xT 186 true).run Tryz.prog w = .ok (.tuple #[.nilIface, .bool false]) w := run_typeAssert_lacksB Tryz.underlying186 (by kernel_rfl) (by kernel_rfl) v xT w
theorem noUnwrapsE (v : Value) (xT : TypeId) (w : World) : (Instr.typeAssert (.iface 203 v) xT 188 true).run Tryz.prog w = .ok (.tuple #[.nilIface, .bool false]) w := run_typeAssert_lacksB Tryz.underlying188 (by kernel_rfl) (by kernel_rfl) v xT w
theorem is_same (a : Addr) (w : World) :
 Calls Tryz.prog 33 #[.iface 203 (.pointer (some a)), .iface 203 (.pointer (some a))] w fun e w' => e = .returned (.bool true) /\ w = w' := by
 obtain ⟨i, hi, hcmp⟩ := Option.map_eq_some_iff.1 isComp
 obtain ⟨j, hj, hjs⟩ := Option.map_eq_some_iff.1 isSize
 have h8 := callTypeOf
 have h32 := callComparable
 have mR := methodComparable
 have heq := run_eql_iface_ptr_same (P := Tryz.prog) w a Tryz.underlying34 Tryz.underlying203 hi hcmp hj
 go_enter Tryz.func33, Tryz.ntmps33
 go_wp2
 refine wp_loop_rounds 1 ?_
 rw [rounds_succ]
 go_wp2
 go_ret
 exact ⟨rfl, rfl⟩
theorem is_other (a b : Addr) (ca cb : Array Value) (ta tb : TypeId) (w : World) (hne : a ≠ b) (ha : w.heap[a.block]? = some (.cells ca ta (0, 0))) (hb : w.heap[b.block]? = some (.cells cb tb (0, 0))) :
 Calls Tryz.prog 33 #[.iface 203 (.pointer (some a)), .iface 203 (.pointer (some b))] w fun e w' => e = .returned (.bool false) /\ w = w' := by
 obtain ⟨i, hi, hcmp⟩ := Option.map_eq_some_iff.1 isComp
 obtain ⟨j, hj, hjs⟩ := Option.map_eq_some_iff.1 isSize
 have h8 := callTypeOf
 have h32 := callComparable
 have mR := methodComparable
 have nE := noIsE
 have uE := noUnwrapE
 have vE := noUnwrapsE
 have heq := run_eql_iface_ptr_other (P := Tryz.prog) w Tryz.underlying34 Tryz.underlying203 hi hcmp hj (by rw [hjs]; decide) hne ha hb
 go_enter Tryz.func33, Tryz.ntmps33
 go_wp2
 refine wp_loop_rounds 1 ?_
 rw [rounds_succ]
 go_wp2
 go_ret
 exact ⟨rfl, rfl⟩
def gl : List Nat := [1, 2, 3, 4, 5, 6, 7, 8, 9, 0, 10, 11, 12, 13, 14, 15, 16]
def adr (p : List Addr) (i : Nat) : Addr := p.getD i ⟨0, 0, none⟩
abbrev errV (p : List Addr) (i : Nat) : Value := .iface 203 (.pointer (some (adr p i)))
structure Ym (w : World) (p : List Addr) : Prop where
 sents : Sents w gl p
 nodup : p.Nodup
theorem Sents.below {w w' : World} {B : Nat} (hB : w.heap.size <= B) (hb : Below B w w') {gs : List Nat} {p : List Addr} (h : Sents w gs p) : Sents w' gs p := by
 induction gs generalizing p with
 | nil => cases p with
  | nil => trivial
  | cons a p => exact h
 | cons g gs ih => cases p with
  | nil => exact h
  | cons a p =>
   obtain ⟨⟨h1, h2, c, t, h3⟩, h4⟩ := h
   have hlt : a.block < w.heap.size := by
    rcases Nat.lt_or_ge a.block w.heap.size with h' | h'
    · exact h'
    · simp [Array.getElem?_eq_none h'] at h3
   exact ⟨⟨Nat.lt_of_lt_of_le h1 hb.size, by rw [hb.cell (p := ⟨g, 0, none⟩) (Nat.lt_of_lt_of_le h1 hB)]; exact h2, c, t, by rw [hb.block _ (Nat.lt_of_lt_of_le hlt hB)]; exact h3⟩, ih h4⟩
theorem Ym.below {w w' : World} {p : List Addr} (h : Ym w p) {B : Nat} (hB : w.heap.size <= B) (hb : Below B w w') : Ym w' p := ⟨h.sents.below hB hb, h.nodup⟩
theorem Ym.ne {w : World} {p : List Addr} (h : Ym w p) {i j : Nat} (hi : i < 17) (hj : j < 17) (hij : i ≠ j) : adr p i ≠ adr p j := by
 have hl : p.length = 17 := h.sents.len
 unfold adr
 have e1 : p.getD i ⟨0, 0, none⟩ = p[i]'(by omega) := by simp [List.getD, List.getElem?_eq_getElem (show i < p.length by omega)]
 have e2 : p.getD j ⟨0, 0, none⟩ = p[j]'(by omega) := by simp [List.getD, List.getElem?_eq_getElem (show j < p.length by omega)]
 rw [e1, e2]
 rcases Nat.lt_or_gt_of_ne hij with hlt | hlt
 · exact List.pairwise_iff_getElem.1 h.nodup i j (by omega) (by omega) hlt
 · exact fun e => List.pairwise_iff_getElem.1 h.nodup j i (by omega) (by omega) hlt e.symm
theorem Ym.row {w : World} {p : List Addr} (h : Ym w p) {i : Nat} (hi : i < 17) : ∃ c t, w.heap[(adr p i).block]? = some (.cells c t (0, 0)) := (h.sents.at i hi).2.2
theorem Ym.cell {w : World} {p : List Addr} (h : Ym w p) (i : Nat) (hi : i < 17) : w.cell? ⟨gl.getD i 0, 0, none⟩ = some (errV p i) := (h.sents.at i hi).2.1
def listV (p : List Addr) : Array Value := #[errV p 0, errV p 1, errV p 2, errV p 3, errV p 4, errV p 5, errV p 6, errV p 7, errV p 8, errV p 9, errV p 10, errV p 11, errV p 12, errV p 13, errV p 14, errV p 15, errV p 16]
theorem listV_at (p : List Addr) (k : Nat) (h : k < 17) : (listV p)[k]? = some (errV p k) := by
 have : k = 0 ∨ k = 1 ∨ k = 2 ∨ k = 3 ∨ k = 4 ∨ k = 5 ∨ k = 6 ∨ k = 7 ∨ k = 8 ∨ k = 9 ∨ k = 10 ∨ k = 11 ∨ k = 12 ∨ k = 13 ∨ k = 14 ∨ k = 15 ∨ k = 16 := by omega
 rcases this with h | h | h | h | h | h | h | h | h | h | h | h | h | h | h | h | h <;> subst h <;> rfl
theorem num_err (p : List Addr) (j : Nat) (w : World) (he : Ym w p) (hj : j < 17) :
 Calls Tryz.prog 10 #[errV p j] w fun e w' => e = .returned (I_ (j + 1)) /\ Below w.heap.size w w' := by
 have c0 := he.cell 0 (by omega)
 have c1 := he.cell 1 (by omega)
 have c2 := he.cell 2 (by omega)
 have c3 := he.cell 3 (by omega)
 have c4 := he.cell 4 (by omega)
 have c5 := he.cell 5 (by omega)
 have c6 := he.cell 6 (by omega)
 have c7 := he.cell 7 (by omega)
 have c8 := he.cell 8 (by omega)
 have c9 := he.cell 9 (by omega)
 have c10 := he.cell 10 (by omega)
 have c11 := he.cell 11 (by omega)
 have c12 := he.cell 12 (by omega)
 have c13 := he.cell 13 (by omega)
 have c14 := he.cell 14 (by omega)
 have c15 := he.cell 15 (by omega)
 have c16 := he.cell 16 (by omega)
 simp only [gl, List.getD, List.getElem?_cons_zero, List.getElem?_cons_succ, Option.getD_some] at c0 c1 c2 c3 c4 c5 c6 c7 c8 c9 c10 c11 c12 c13 c14 c15 c16
 have hb : Below w.heap.size w (w.alloc (.cells (listV p) 34)) := Zd w _
 have he2 := he.below (Nat.le_refl _) hb
 have HC : Hid (∀ k, k < 17 -> (w.alloc (.cells (listV p) 34)).cell? ⟨w.heap.size, k, none⟩ = some (errV p k)) := fun k hk =>
  (World.rowIs_alloc w (listV p) 34 (errV p) (fun i hi => listV_at p i hi)).cell hk
 have HS : Hid (∀ wx, Calls Tryz.prog 33 #[.iface 203 (.pointer (some (adr p j))), errV p j] wx fun e w' => e = .returned (.bool true) /\ wx = w') := fun wx => is_same _ wx
 have HO : Hid (∀ k, k < 17 -> k ≠ j -> Calls Tryz.prog 33 #[.iface 203 (.pointer (some (adr p j))), errV p k] (w.alloc (.cells (listV p) 34)) fun e w' => e = .returned (.bool false) /\ (w.alloc (.cells (listV p) 34)) = w') := fun k hk hkj => by
  obtain ⟨ca, ta, hca⟩ := he2.row hj
  obtain ⟨cb, tb, hcb⟩ := he2.row hk
  exact is_other _ _ ca cb ta tb _ (he2.ne hj hk (Ne.symm hkj)) hca hcb
 clear he2 he
 go_enter Tryz.func10, Tryz.ntmps10
 go_wp2_with fail
 clear c0 c1 c2 c3 c4 c5 c6 c7 c8 c9 c10 c11 c12 c13 c14 c15 c16
 go_loopw [28] (fun i wr => ∃ k : Nat, k <= j /\ i = I_ k /\ Hid (wr = w.alloc (.cells (listV p) 34))) (fun i _ => 17 - (intOf i).toNat)
 case atStart => exact ⟨0, Nat.zero_le _, rfl, rfl⟩
 case round =>
  obtain ⟨k, hk, rfl, Hw⟩ := hrel
  have hc : wr.cell? ⟨w.heap.size, k, none⟩ = some (errV p k) := by rw [Hw.out]; exact HC.out k (by omega)
  have hbw : Below w.heap.size w wr := by rw [Hw.out]; exact hb
  have hk17 : (k : Int) < 17 := by omega
  by_cases e : k = j
  · subst e
    clear HO HC hb
    go_wp2_with fail
    refine (HS.out _).mono ?_
    rintro e w' ⟨rfl, rfl⟩
    go_wp2_with fail
    go_ret
    exact ⟨rfl, hbw⟩
  · have ho : Hid (Calls Tryz.prog 33 #[.iface 203 (.pointer (some (adr p j))), errV p k] wr fun e w' => e = .returned (.bool false) /\ wr = w') := by
     rw [Hw.out]
     exact HO.out k (by omega) e
    clear HO HC hb HS
    go_wp2_with fail
    refine ho.out.mono ?_
    rintro e w' ⟨rfl, rfl⟩
    go_wp2_with fail
    exact ⟨⟨k + 1, by omega, by go_num, Hw⟩, by simp [intOf]; omega⟩
end Go.Proofs.YtfojninaginnoaaGreatDoor.Ck
namespace Go.Proofs.YtfojninaginnoaaGreatDoor.Ck
open Go.ChangeShapes Go.WideShapes Go.RowKit
def laid17 : List (String × DataW Unit) := [("stockade/api.ErrRange", Rows.laid_stockade_api_ErrRange), ("stockade/api.ErrText", Rows.laid_stockade_api_ErrText), ("stockade/api.ErrDepth", Rows.laid_stockade_api_ErrDepth), ("stockade/api.ErrName", Rows.laid_stockade_api_ErrName), ("stockade/api.ErrType", Rows.laid_stockade_api_ErrType), ("stockade/api.ErrLarge", Rows.laid_stockade_api_ErrLarge), ("stockade/api.ErrFull", Rows.laid_stockade_api_ErrFull), ("stockade/api.ErrNone", Rows.laid_stockade_api_ErrNone), ("stockade/api.ErrCode", Rows.laid_stockade_api_ErrCode), ("stockade/api.ErrState", Rows.laid_stockade_api_ErrState), ("stockade/api.ErrFrame", Rows.laid_stockade_api_ErrFrame), ("stockade/api.ErrMac", Rows.laid_stockade_api_ErrMac), ("stockade/api.ErrReplay", Rows.laid_stockade_api_ErrReplay), ("stockade/api.ErrArena", Rows.laid_stockade_api_ErrArena), ("stockade/api.ErrClock", Rows.laid_stockade_api_ErrClock), ("stockade/api.ErrQuota", Rows.laid_stockade_api_ErrQuota), ("stockade/api.ErrTenant", Rows.laid_stockade_api_ErrTenant)]
def l17 : List (String × List UInt8) := [("stockade/api.ErrRange", [115, 116, 111, 99, 107, 97, 100, 101, 58, 32, 114, 97, 110, 103, 101]), ("stockade/api.ErrText", [115, 116, 111, 99, 107, 97, 100, 101, 58, 32, 116, 101, 120, 116]), ("stockade/api.ErrDepth", [115, 116, 111, 99, 107, 97, 100, 101, 58, 32, 100, 101, 112, 116, 104]), ("stockade/api.ErrName", [115, 116, 111, 99, 107, 97, 100, 101, 58, 32, 110, 97, 109, 101]), ("stockade/api.ErrType", [115, 116, 111, 99, 107, 97, 100, 101, 58, 32, 116, 121, 112, 101]), ("stockade/api.ErrLarge", [115, 116, 111, 99, 107, 97, 100, 101, 58, 32, 108, 97, 114, 103, 101]), ("stockade/api.ErrFull", [115, 116, 111, 99, 107, 97, 100, 101, 58, 32, 102, 117, 108, 108]), ("stockade/api.ErrNone", [115, 116, 111, 99, 107, 97, 100, 101, 58, 32, 110, 111, 110, 101]), ("stockade/api.ErrCode", [115, 116, 111, 99, 107, 97, 100, 101, 58, 32, 99, 111, 100, 101]), ("stockade/api.ErrState", [115, 116, 111, 99, 107, 97, 100, 101, 58, 32, 115, 116, 97, 116, 101]), ("stockade/api.ErrFrame", [115, 116, 111, 99, 107, 97, 100, 101, 58, 32, 102, 114, 97, 109, 101]), ("stockade/api.ErrMac", [115, 116, 111, 99, 107, 97, 100, 101, 58, 32, 109, 97, 99]), ("stockade/api.ErrReplay", [115, 116, 111, 99, 107, 97, 100, 101, 58, 32, 114, 101, 112, 108, 97, 121]), ("stockade/api.ErrArena", [115, 116, 111, 99, 107, 97, 100, 101, 58, 32, 97, 114, 101, 110, 97]), ("stockade/api.ErrClock", [115, 116, 111, 99, 107, 97, 100, 101, 58, 32, 99, 108, 111, 99, 107]), ("stockade/api.ErrQuota", [115, 116, 111, 99, 107, 97, 100, 101, 58, 32, 113, 117, 111, 116, 97]), ("stockade/api.ErrTenant", [115, 116, 111, 99, 107, 97, 100, 101, 58, 32, 116, 101, 110, 97, 110, 116])]
theorem laid17_eq : laid17 = l17.map fun x => (x.1, sentD x.2) := rfl
theorem named17 : ((List.range 17).all fun i => Tryz.prog.globalNamed (l17.getD i ("", [])).1 == some (gl.getD i 0) && (Tryz.prog.globals[gl.getD i 0]?).map (·.type) == some 34) = true := by kernel_rfl
theorem nodup_of_map {l : List Addr} (h : (l.map placeOf).Nodup) : l.Nodup := by
 induction l with
 | nil => exact List.nodup_nil
 | cons a l ih =>
  simp only [List.map_cons, List.nodup_cons] at h ⊢
  exact ⟨fun hm => h.1 (List.mem_map_of_mem hm), ih h.2⟩
theorem errs17_of_laid {W : World} (h : laidMetH Tryz.prog laid17 W) : ∃ p, Ym W p := by
  rw [MakeChecks.laidMetH_plain _ _ _ (by kernel_rfl), laid17_eq] at h
  obtain ⟨ps, hv, hnd, hrows⟩ := h
  obtain ⟨p, hs, hsub⟩ := sents_of l17 gl ps rfl (fun i hi => by
    have h1 := List.all_eq_true.1 named17 i (List.mem_range.2 hi)
    simp only [Bool.and_eq_true, beq_iff_eq] at h1
    exact h1) hv hrows
  exact ⟨p, hs, nodup_of_map (hnd.sublist hsub)⟩
theorem door_met17 (os : Os) (args : Array Value) : laidMetH Tryz.prog laid17 ((World.doorLaid Tryz.prog 332 os).forCall (fun _ _ => 0) ⟨#[], args, []⟩).memory :=
 laidMetH_of_parts3 (fuel := 8) (laidMet_of_run' 8 (by kernel_rfl) (by kernel_rfl)) (by kernel_rfl) (by kernel_rfl)
theorem Za {p : Prop} (h : p) : Hid p := h
theorem Zp {n : Nat} {w w' : World} (h : Below n w w') : Below n w w'.drew := ⟨h.os, h.tape, h.output, h.size, h.block⟩
theorem ZJ : Tryz.prog.follows .mixedOrders = true := by kernel_rfl
structure E2 (w : World) (p : List Addr) : Prop where
 l0 : 1 < w.heap.size
 l4 : 5 < w.heap.size
 c0 : w.cell? ⟨1, 0, none⟩ = some (errV p 0)
 c4 : w.cell? ⟨5, 0, none⟩ = some (errV p 4)
theorem E2.below {w w' : World} {p : List Addr} (h : E2 w p) {B : Nat} (hB : w.heap.size <= B) (hb : Below B w w') : E2 w' p :=
 ⟨Nat.lt_of_lt_of_le h.l0 hb.size, Nat.lt_of_lt_of_le h.l4 hb.size, (hb.cell (p := ⟨1, 0, none⟩) (Nat.lt_of_lt_of_le h.l0 hB)).trans h.c0, (hb.cell (p := ⟨5, 0, none⟩) (Nat.lt_of_lt_of_le h.l4 hB)).trans h.c4⟩
theorem Ym.e2 {w : World} {p : List Addr} (h : Ym w p) : E2 w p := ⟨(h.sents.at 0 (by decide)).1, (h.sents.at 4 (by decide)).1, h.cell 0 (by omega), h.cell 4 (by omega)⟩
theorem Zb {w : World} {g : Nat} {c : Array Value} {T : TypeId} {r : Nat × Nat} (h : w.heap[g]? = some (.cells c T r)) (i : Nat) (v : Value) (hv : c[i]? = some v) : w.cell? ⟨g, i, none⟩ = some v := by simp [World.cell?, h, hv]
theorem vf0 (a b c : Value) (w : World) : (Instr.field 64 (.agg #[a, b, c]) 0).run Tryz.prog w = .ok a w := by kernel_rfl
theorem eqIn_vv (w : World) (a b c a' b' c' : Int) : (Op.equalIn 10000 64 (.agg #[I_ a, I_ b, .int .u64 c]) (.agg #[I_ a', I_ b', .int .u64 c'])).run Tryz.prog w = .ok (a == a' && (b == b' && c == c')) w := by
 have hi : ∀ (x y : Int) (w : World), (Op.equalIn 9999 3 (I_ x) (I_ y)).run Tryz.prog w = .ok (x == y) w := fun x y w => run_equalIn_int w 9998 3 .i64 .i64 x y Tryz.underlying3
 have hu : ∀ (x y : Int) (w : World), (Op.equalIn 9999 62 (.int .u64 x) (.int .u64 y)).run Tryz.prog w = .ok (x == y) w := fun x y w => run_equalIn_int w 9998 62 .u64 .u64 x y Tryz.underlying62
 have e : Tryz.prog.underlying 64 = some (.struct (Tryz.prog.fieldsOf 64)) := by kernel_rfl
 rw [show (10000 : Nat) = 9999 + 1 from rfl, run_equalIn_agg w 9999 64 _ _ e (by kernel_rfl)]
 have hf : (Tryz.prog.fieldsOf 64).toList.map (fun f => (f.name, f.type, f.offset)) = [("Type", 3, 0), ("N", 3, 1), ("Bits", 62, 2)] := by kernel_rfl
 generalize (Tryz.prog.fieldsOf 64).toList = l at hf
 obtain ⟨f1, l1, rfl, h1, hf⟩ := List.map_eq_cons_iff.1 hf
 obtain ⟨f2, l2, rfl, h2, hf⟩ := List.map_eq_cons_iff.1 hf
 obtain ⟨f3, l3, rfl, h3, hf⟩ := List.map_eq_cons_iff.1 hf
 obtain rfl := List.map_eq_nil_iff.1 hf
 simp only [Prod.mk.injEq] at h1 h2 h3
 simp [go_sem, Op.eqFields, h1, h2, h3, hi, hu]
 by_cases ha : a = a' <;> by_cases hb : b = b' <;> by_cases hc : c = c' <;> simp [ha, hb, hc]
theorem neq_vv (w : World) (a b c a' b' c' : Int) : (binOp .neq 64 (.agg #[I_ a, I_ b, .int .u64 c]) (.agg #[I_ a', I_ b', .int .u64 c'])).run Tryz.prog w = .ok (.bool (!(a == a' && (b == b' && c == c')))) w := by
 rw [run_neq_struct, eqIn_vv]
 rfl
def Yk (t n b : Int) : Bool := (t == 1 && b == 0) || (t == 2 && n == 0) || (t == 3 && (n == 0 || n == 1) && b == 0)
def Vb (w : World) (v : Value) (e : Ending) (w' : World) : Prop := e = .returned v /\ Below w.heap.size w w'
theorem Vb.mk {w w' : World} {v v' : Value} (h : v = v') (hb : Below w.heap.size w w') : Vb w v' (.returned v) w' := ⟨by rw [h], hb⟩
theorem good_any (t n b : Int) (w : World) : Calls Tryz.prog 103 #[.agg #[I_ t, I_ n, .int .u64 b]] w (Vb w (.bool (Yk t n b))) := by
 have HB := Za (Zd w (.cells #[I_ t, I_ n, .int .u64 b] 64))
 obtain ⟨g, hg⟩ : ∃ g, Yk t n b = g := ⟨_, rfl⟩
 rw [hg]
 have HG := Za hg
 clear hg
 by_cases h1 : t = 1
 · subst h1
   go_enter Tryz.func103, Tryz.ntmps103
   go_wp2_with fail
   all_goals
    go_ret
    exact Vb.mk (congrArg Value.bool (by rw [← HG.out]; simp [Yk])) HB.out
 by_cases h2 : t = 2
 · subst h2
   go_enter Tryz.func103, Tryz.ntmps103
   go_wp2_with fail
   all_goals
    go_ret
    exact Vb.mk (congrArg Value.bool (by rw [← HG.out]; simp [Yk])) HB.out
 by_cases h3 : t = 3
 · subst h3
   go_enter Tryz.func103, Tryz.ntmps103
   by_cases h4 : n = 0
   · subst h4
     go_wp2_with fail
     all_goals
      go_ret
      exact Vb.mk (congrArg Value.bool (by rw [← HG.out]; simp [Yk])) HB.out
   by_cases h5 : n = 1
   · subst h5
     go_wp2_with fail
     all_goals
      go_ret
      exact Vb.mk (congrArg Value.bool (by rw [← HG.out]; simp [Yk])) HB.out
   go_wp2_with fail
   all_goals
    go_ret
    exact Vb.mk (congrArg Value.bool (by rw [← HG.out]; simp [Yk, h4, h5])) HB.out
 go_enter Tryz.func103, Tryz.ntmps103
 go_wp2_with fail
 all_goals
  go_ret
  exact Vb.mk (congrArg Value.bool (by rw [← HG.out]; simp [Yk, h1, h2, h3])) HB.out
def Val (w : World) (g : Nat) (t n b : Int) : Prop := w.heap[g]? = some (.cells #[I_ t, I_ n, .int .u64 b] 64 (0, 0))
theorem Val.new (w : World) (t n b : Int) : Val (w.alloc (.cells #[I_ t, I_ n, .int .u64 b] 64)) w.heap.size t n b := B_ _ _
theorem Val.bel {w w' : World} {g N : Nat} {t n b : Int} (h : Val w g t n b) (hb : Below N w w') (hg : g < N) : Val w' g t n b := (hb.block g hg).trans h
theorem Val.lt {w : World} {g : Nat} {t n b : Int} (h : Val w g t n b) : g < w.heap.size := by
 unfold Val at h
 by_cases hg : g < w.heap.size
 · exact hg
 · rw [Array.getElem?_eq_none (by omega)] at h; cases h
theorem Val.al {w w' : World} {g : Nat} {t n b : Int} (h : Val w g t n b) (hb : Below w.heap.size w w') : Val w' g t n b := h.bel hb h.lt
theorem Val.all {w : World} {g : Nat} {t n b : Int} (h : Val w g t n b) :
 (w.frozen? ⟨g, 0, none⟩ = false /\ w.frozen? ⟨g, 1, none⟩ = false /\ w.frozen? ⟨g, 2, none⟩ = false) /\ w.cell? ⟨g, 0, none⟩ = some (I_ t) /\ w.cell? ⟨g, 1, none⟩ = some (I_ n) /\ w.cell? ⟨g, 2, none⟩ = some (.int .u64 b) := by
 unfold Val at h
 simp [World.frozen?, World.cell?, h]
theorem Val.set {w : World} {g : Nat} {t n b : Int} (h : Val w g t n b) (t' n' b' : Int) : Val (((w.setCell ⟨g, 0, none⟩ (I_ t')).setCell ⟨g, 1, none⟩ (I_ n')).setCell ⟨g, 2, none⟩ (.int .u64 b')) g t' n' b' :=
 heap_setCell_same _ _ _ _ _ _ (heap_setCell_same _ _ _ _ _ _ (heap_setCell_same _ _ _ _ _ _ h))
theorem Zt {w w2 : World} {N g : Nat} (h : Below N w w2) (hg : N <= g) (x y z : Value) : Below N w (((w2.setCell ⟨g, 0, none⟩ x).setCell ⟨g, 1, none⟩ y).setCell ⟨g, 2, none⟩ z) :=
 ((h.setCell (p := ⟨g, 0, none⟩) hg x).setCell (p := ⟨g, 1, none⟩) hg y).setCell (p := ⟨g, 2, none⟩) hg z
theorem ret_v {fn : Func} {R : Ending -> World -> Prop} {a : Act} {w : World} {p : Tmp} (g : Nat) {t n b : Int} (hf : fn.results = #[.cell p 64]) (hp : a.tmps.getD p undef = P_ g)
    (h : Val w g t n b) (hdf : a.defers = []) (hR : R (.returned (.agg #[I_ t, I_ n, .int .u64 b])) w) : bodyPost Tryz.prog fn R .ret a w :=
  bodyPost_ret (by
    have hp' : a.tmps[p]?.getD undef = P_ g := by simpa using hp
    obtain ⟨_, c0, c1, c2⟩ := h.all
    simp [results, hf, hp', go_sem, c0, c1, c2]) hdf hR
def Vv (w : World) (t n b : Int) (e : Ending) (w' : World) : Prop := e = .returned (.agg #[I_ t, I_ n, .int .u64 b]) /\ Below w.heap.size w w'
theorem Vv.mk {w w' : World} {t n b t' n' b' : Int} (h : t = t' /\ n = n' /\ b = b') (hb : Below w.heap.size w w') : Vv w t' n' b' (.returned (.agg #[I_ t, I_ n, .int .u64 b])) w' := by
 obtain ⟨rfl, rfl, rfl⟩ := h; exact ⟨rfl, hb⟩
theorem int_any (n : Int) (w : World) : Calls Tryz.prog 97 #[I_ n] w (Vv w 1 n 0) := by
 go_enter Tryz.func97, Tryz.ntmps97
 go_wp2_with fail
 exact ret_v w.heap.size rfl rfl (Val.new w _ _ _) rfl (Vv.mk ⟨rfl, rfl, rfl⟩ (Zd _ _))
def Yf (t : Int) : Int := if t = 1 ∨ t = 2 ∨ t = 3 then t else 0
theorem zero_any (t : Int) (w : World) : Calls Tryz.prog 53 #[I_ t] w (Vv w (Yf t) 0 0) := by
 obtain ⟨z, hz⟩ : ∃ z, Yf t = z := ⟨_, rfl⟩
 rw [hz]
 have HZ := Za hz
 clear hz
 go_enter Tryz.func53, Tryz.ntmps53
 go_wp2_with fail
 all_goals
  refine ret_v w.heap.size rfl rfl (Val.new w _ _ _) rfl (Vv.mk ⟨?_, rfl, rfl⟩ (Zd _ _))
  rw [← HZ.out]
  simp_all [Yf]
theorem noType_any (t : Int) (w : World) : Calls Tryz.prog 50 #[I_ t] w (Vb w (.bool (Yf t == 0))) := by
 have f0 := vf0
 go_enter Tryz.func50, Tryz.ntmps50
 go_wp2_with fail
 refine (zero_any _ _).mono ?_
 rintro e w1 ⟨rfl, hb⟩
 go_wp2_with fail
 go_ret
 exact Vb.mk rfl hb
theorem fits_any (n : Int) (w : World) : Calls Tryz.prog 48 #[I_ n] w fun e w' => e = .returned (.bool (decide (0 <= n) && decide (n <= 32))) /\ w = w' := by
 by_cases h0 : 0 <= n
 · by_cases h1 : n <= 32
   · have h2 : (decide (0 <= n) && decide (n <= 32)) = true := by simp [h0, h1]
     rw [h2]
     clear h2
     go_enter Tryz.func48, Tryz.ntmps48
     go_wp2_with fail
     go_ret
     exact ⟨rfl, rfl⟩
   · have h2 : (decide (0 <= n) && decide (n <= 32)) = false := by simp [h1]
     rw [h2]
     clear h2
     go_enter Tryz.func48, Tryz.ntmps48
     go_wp2_with fail
     go_ret
     exact ⟨rfl, rfl⟩
 · have h2 : (decide (0 <= n) && decide (n <= 32)) = false := by simp [h0]
   rw [h2]
   clear h2
   go_enter Tryz.func48, Tryz.ntmps48
   go_wp2_with fail
   go_ret
   exact ⟨rfl, rfl⟩
def chanB (t r : Int) : Bool := Yf t == 0 || (decide (r < 0) || decide (8 < r))
theorem noChan_any (t r : Int) (w : World) : Calls Tryz.prog 52 #[.agg #[I_ t, I_ r]] w (Vb w (.bool (chanB t r))) := by
 have HB := Za (Zd w (.cells #[I_ t, I_ r] 94))
 obtain ⟨z, hz⟩ : ∃ z, (Yf t == 0) = z := ⟨_, rfl⟩
 have NT : ∀ w, Calls Tryz.prog 50 #[I_ t] w (Vb w (.bool z)) := fun w => by
  have := noType_any t w
  rw [hz] at this
  exact this
 obtain ⟨g, hg⟩ : ∃ g, chanB t r = g := ⟨_, rfl⟩
 rw [hg]
 unfold chanB at hg
 rw [hz] at hg
 have HG := Za hg
 clear hg hz
 have c0 : (w.alloc (.cells #[I_ t, I_ r] 94)).cell? ⟨w.heap.size, 1, none⟩ = some (I_ r) := Zb (B_ w _) 1 _ rfl
 cases z with
 | true =>
  go_enter Tryz.func52, Tryz.ntmps52
  go_wp2_with fail
  refine (NT _).mono ?_
  rintro e w1 ⟨rfl, hb⟩
  go_wp2_with fail
  go_ret
  exact Vb.mk (congrArg Value.bool (by rw [← HG.out]; rfl)) (Zg HB.out hb)
 | false =>
  by_cases h1 : r < 0
  · have E : g = true := by rw [← HG.out]; simp [h1]
    subst E
    clear HG
    go_enter Tryz.func52, Tryz.ntmps52
    go_wp2_with fail
    refine (NT _).mono ?_
    rintro e w1 ⟨rfl, hb⟩
    have c1 : w1.cell? ⟨w.heap.size, 1, none⟩ = some (I_ r) := (hb.cell (p := ⟨w.heap.size, 1, none⟩) (by simp)).trans c0
    go_wp2_with fail
    go_ret
    exact Vb.mk rfl (Zg HB.out hb)
  · have E : g = decide (8 < r) := by rw [← HG.out]; simp [h1]
    subst E
    clear HG
    go_enter Tryz.func52, Tryz.ntmps52
    go_wp2_with fail
    refine (NT _).mono ?_
    rintro e w1 ⟨rfl, hb⟩
    have c1 : w1.cell? ⟨w.heap.size, 1, none⟩ = some (I_ r) := (hb.cell (p := ⟨w.heap.size, 1, none⟩) (by simp)).trans c0
    go_wp2_with fail
    all_goals
     go_ret
     exact Vb.mk (by simp; try omega) (Zg HB.out hb)
def isB (t n b ty : Int) : Bool := Yk t n b && t == ty
theorem isOf_any (t n b ty : Int) (w : World) : Calls Tryz.prog 108 #[.agg #[I_ t, I_ n, .int .u64 b], I_ ty] w (Vb w (.bool (isB t n b ty))) := by
 have HB := Za (Zd w (.cells #[I_ t, I_ n, .int .u64 b] 64))
 have V0 := Val.new w t n b
 obtain ⟨z, hz⟩ : ∃ z, Yk t n b = z := ⟨_, rfl⟩
 have GA : ∀ w, Calls Tryz.prog 103 #[.agg #[I_ t, I_ n, .int .u64 b]] w (Vb w (.bool z)) := fun w => by
  have := good_any t n b w
  rw [hz] at this
  exact this
 obtain ⟨g, hg⟩ : ∃ g, isB t n b ty = g := ⟨_, rfl⟩
 rw [hg]
 unfold isB at hg
 rw [hz] at hg
 have HG := Za hg
 clear hg hz
 cases z with
 | true =>
  go_enter Tryz.func108, Tryz.ntmps108
  go_wp2_with fail
  refine (GA _).mono ?_
  rintro e w1 ⟨rfl, hb⟩
  obtain ⟨_, c0, _, _⟩ := (V0.al hb).all
  go_wp2_with fail
  go_ret
  exact Vb.mk (congrArg Value.bool (by rw [← HG.out]; simp)) (Zg HB.out hb)
 | false =>
  go_enter Tryz.func108, Tryz.ntmps108
  go_wp2_with fail
  refine (GA _).mono ?_
  rintro e w1 ⟨rfl, hb⟩
  go_wp2_with fail
  go_ret
  exact Vb.mk (congrArg Value.bool (by rw [← HG.out]; simp)) (Zg HB.out hb)
abbrev V3 := Int × Int × Int
def vcs : List V3 -> List Value
 | [] => []
 | v :: l => .int .i64 v.1 :: .int .i64 v.2.1 :: .int .u64 v.2.2 :: vcs l
structure Qu where
 t : Int
 room : Int
 l : List V3
structure St where
 P : List V3
 M : List Bool
 C : List Qu
 A : List Int
def qcs : List Qu -> List Value -> List Value
 | q :: C, v :: vs => .int .i64 q.t :: .int .i64 q.room :: v :: qcs C vs
 | _, _ => []
def bls (l : List Bool) : List Value := l.map Value.bool
def nts (l : List Int) : List Value := l.map (Value.int .i64)
theorem vcs_len : ∀ l, (vcs l).length = l.length * 3
 | [] => rfl
 | v :: l => by
  simp only [vcs, List.length_cons, vcs_len l]
  omega
theorem vcs_app : ∀ a b, vcs (a ++ b) = vcs a ++ vcs b
 | [], b => rfl
 | v :: a, b => by simp [vcs, vcs_app a b]
theorem vcs_at : ∀ (l : List V3) (i : Nat) (v : V3), l[i]? = some v -> (vcs l)[3 * i]? = some (I_ v.1) /\ (vcs l)[3 * i + 1]? = some (I_ v.2.1) /\ (vcs l)[3 * i + 2]? = some (.int .u64 v.2.2)
 | [], i, v, h => by simp at h
 | x :: l, 0, v, h => by
  simp at h
  subst h
  exact ⟨rfl, rfl, rfl⟩
 | x :: l, i + 1, v, h => vcs_at l i v (by simpa using h)
theorem vcs_set : ∀ (l : List V3) (i : Nat) (v : V3), vcs (l.set i v) = (((vcs l).set (3 * i) (I_ v.1)).set (3 * i + 1) (I_ v.2.1)).set (3 * i + 2) (.int .u64 v.2.2)
 | [], i, v => by simp [vcs]
 | x :: l, 0, v => by simp [vcs]
 | x :: l, i + 1, v => by
  rw [show 3 * (i + 1) + 2 = 3 * i + 2 + 1 + 1 + 1 by omega, show 3 * (i + 1) + 1 = 3 * i + 1 + 1 + 1 + 1 by omega, show 3 * (i + 1) = 3 * i + 1 + 1 + 1 by omega]
  simp only [List.set_cons_succ, vcs, vcs_set l i v]
theorem Yq (l : List V3) : ∀ u ∈ vcs l, u.oneCell' = true := by
 induction l with
 | nil => intro u h; simp [vcs] at h
 | cons v l ih =>
  intro u h
  simp only [vcs, List.mem_cons] at h
  rcases h with rfl | rfl | rfl | h
  · rfl
  · rfl
  · rfl
  · exact ih u h
theorem qcs_app : ∀ (C : List Qu) (vs : List Value) (q : Qu) (v : Value), vs.length = C.length -> qcs (C ++ [q]) (vs ++ [v]) = qcs C vs ++ [I_ q.t, I_ q.room, v]
 | [], [], q, v, _ => rfl
 | x :: C, y :: vs, q, v, h => by simp [qcs, qcs_app C vs q v (by simpa using h)]
theorem qcs_at : ∀ (C : List Qu) (vs : List Value) (i : Nat) (q : Qu) (v : Value), C[i]? = some q -> vs[i]? = some v -> (qcs C vs)[3 * i]? = some (I_ q.t) /\ (qcs C vs)[3 * i + 1]? = some (I_ q.room) /\ (qcs C vs)[3 * i + 2]? = some v
 | [], vs, i, q, v, h, _ => by simp at h
 | q :: C, [], i, q', v, _, h => by simp at h
 | q :: C, x :: vs, 0, q', v, h, h' => by
  simp at h h'
  subst h h'
  exact ⟨rfl, rfl, rfl⟩
 | q :: C, x :: vs, i + 1, q', v, h, h' => qcs_at C vs i q' v (by simpa using h) (by simpa using h')
theorem qcs_set : ∀ (C : List Qu) (vs : List Value) (i : Nat) (q q' : Qu) (v : Value), vs.length = C.length -> C[i]? = some q -> q'.t = q.t -> q'.room = q.room -> qcs (C.set i q') (vs.set i v) = (qcs C vs).set (3 * i + 2) v
 | [], [], i, q, q', v, _, h, _, _ => by simp at h
 | x :: C, y :: vs, 0, q, q', v, _, h, h1, h2 => by
  simp at h
  subst h
  simp [qcs, h1, h2]
 | x :: C, y :: vs, i + 1, q, q', v, hl, h, h1, h2 => by
  have e : 3 * (i + 1) + 2 = 3 * i + 2 + 1 + 1 + 1 := by omega
  simp only [List.set_cons_succ, qcs, e, qcs_set C vs i q q' v (by simpa using hl) (by simpa using h) h1 h2]
theorem Ze {w : World} {g : Nat} {o : Obj} (h : w.heap[g]? = some o) : g < w.heap.size := (Array.getElem?_eq_some_iff.1 h).1
theorem Zc {w : World} {g : Nat} {c : Array Value} {T : TypeId} (h : w.heap[g]? = some (.cells c T (0, 0))) (i : Nat) : w.frozen? ⟨g, i, none⟩ = false := frozen_of_row w g i _ T h
theorem Zi (w : World) (a : Addr) (v : Value) : (w.setCell a v).heap.size = w.heap.size := by
 simp only [World.setCell]
 split <;> simp
section
variable {w w' : World} {B : Nat} {T : TypeId} {n : Nat} {v : Value} {len : Nat} {xs : List Value}
theorem Zf (h : w.ownsRow B T n v len xs) {k : Nat} (hk : v.ownBlock = some k) : B <= k /\ k < w.heap.size /\ ∃ c, w.heap[k]? = some (.cells c T (0, 0)) := by
 obtain ⟨hl, h0 | ⟨gb, cap, cur, rfl, hB, hg, r⟩⟩ := h
 · rw [h0.1] at hk
   cases hk
 · have e : gb = k := Option.some.inj hk
   subst e
   exact ⟨hB, Ze hg, cur, hg⟩
theorem Zj (h : w.ownsRow B T n v len xs) (hb : ∀ k, v.ownBlock = some k -> w'.heap[k]? = w.heap[k]?) : w'.ownsRow B T n v len xs := by
 obtain ⟨hl, h0 | ⟨gb, cap, cur, rfl, hB, hg, r⟩⟩ := h
 · exact ⟨hl, .inl h0⟩
 · exact ⟨hl, .inr ⟨gb, cap, cur, rfl, hB, (hb gb rfl).trans hg, r⟩⟩
theorem own_form (h : w.ownsRow B T n v len xs) : (v = .slice none 0 0 /\ len = 0) ∨ ∃ b c, v = .slice (some ⟨b, 0, none⟩) len c /\ len <= c /\ c <= maxLen := by
 obtain ⟨hl, h0 | ⟨gb, cap, cur, rfl, hB, hg, h1, h2, r⟩⟩ := h
 · exact .inl h0
 · exact .inr ⟨_, _, rfl, h1, h2⟩
theorem Zl (h : w.ownsRow B T n v len xs) : ∃ a c, v = .slice a len c /\ len <= c /\ c <= maxLen := by
 rcases own_form h with ⟨rfl, rfl⟩ | ⟨b, c, rfl, h1, h2⟩
 · exact ⟨_, _, rfl, by omega, by unfold maxLen; omega⟩
 · exact ⟨_, _, rfl, h1, h2⟩
theorem Zq (h : w.ownsRow B T n v len xs) (hl : 0 < len) : ∃ b c, v = .slice (some ⟨b, 0, none⟩) len c /\ len <= c /\ c <= maxLen := by
 rcases own_form h with ⟨_, e⟩ | h
 · omega
 · exact h
theorem Zk {b m c : Nat} (h : w.ownsRow B T n (.slice (some ⟨b, 0, none⟩) m c) len xs) (j : Nat) (u : Value) (hu : xs[j]? = some u) : w.cell? ⟨b, j, none⟩ = some u /\ w.frozen? ⟨b, j, none⟩ = false := by
 obtain ⟨hl, ⟨h0, _⟩ | ⟨gb, cap, cur, e, hB, hg, h1, h2, h3, h4⟩⟩ := h
 · cases h0
 · simp only [Value.slice.injEq, Option.some.injEq, Addr.mk.injEq, and_true] at e
   obtain ⟨rfl, rfl, rfl⟩ := e
   refine ⟨?_, Zc hg j⟩
   have hj : j < xs.length := (G_ hu)
   have e2 : (cur.toList.take (m * n))[j]? = xs[j]? := by rw [h4]
   rw [List.getElem?_take_of_lt (by omega), hu] at e2
   exact Zb hg j u (by rw [← Array.getElem?_toList]; exact e2)
theorem ZT {b m c : Nat} (h : w.ownsRow B T n (.slice (some ⟨b, 0, none⟩) m c) len xs) (j : Nat) (u : Value) : (w.setCell ⟨b, j, none⟩ u).ownsRow B T n (.slice (some ⟨b, 0, none⟩) m c) len (xs.set j u) := by
 obtain ⟨hl, ⟨h0, _⟩ | ⟨gb, cap, cur, e, hB, hg, h1, h2, h3, h4⟩⟩ := h
 · cases h0
 · simp only [Value.slice.injEq, Option.some.injEq, Addr.mk.injEq, and_true] at e
   obtain ⟨rfl, rfl, rfl⟩ := e
   refine ⟨by simpa using hl, .inr ⟨b, c, cur.setIfInBounds j u, rfl, hB, heap_setCell_same w b j _ T _ hg, h1, h2, by simpa using h3, ?_⟩⟩
   rw [Array.toList_setIfInBounds, List.take_set, h4]
end
theorem Zo {w : World} {B B' : Nat} {T T' : TypeId} {n n' : Nat} {v v' : Value} {len len' : Nat} {xs xs' : List Value} (h : w.ownsRow B T n v len xs) (h' : w.ownsRow B' T' n' v' len' xs') (hT : T ≠ T') : ∀ k, v.ownBlock = some k -> v'.ownBlock ≠ some k := fun k hk hk' => by
 obtain ⟨_, _, c, hc⟩ := Zf h hk
 obtain ⟨_, _, c', hc'⟩ := Zf h' hk'
 rw [hc] at hc'
 have := Option.some.inj hc'
 injection this with _ h2 _
 exact hT h2
theorem Zu {w : World} {B : Nat} {T T' : TypeId} {n : Nat} {v : Value} {len : Nat} {xs : List Value} (h : w.ownsRow B T n v len xs) {g : Nat} {c : Array Value} (hg : w.heap[g]? = some (.cells c T' (0, 0))) (hT : T ≠ T') : v.ownBlock ≠ some g := fun e => by
 obtain ⟨_, _, c', hc⟩ := Zf h e
 rw [hg] at hc
 have := Option.some.inj hc
 injection this with _ h2 _
 exact hT h2.symm
structure Ch (F F' : Nat -> Prop) (w w' : World) : Prop where
 os : w'.os = w.os
 tape : w'.tape = w.tape
 output : w'.output = w.output
 size : w.heap.size <= w'.heap.size
 blk : ∀ k, k < w.heap.size -> ¬ F k -> w'.heap[k]? = w.heap[k]?
 grow : ∀ k, F' k -> F k ∨ w.heap.size <= k
theorem Ch.refl (F : Nat -> Prop) (w : World) : Ch F F w w := ⟨rfl, rfl, rfl, Nat.le_refl _, fun _ _ _ => rfl, fun _ h => .inl h⟩
theorem Ch.trans {F F' F'' : Nat -> Prop} {a b c : World} (h : Ch F F' a b) (k : Ch F' F'' b c) : Ch F F'' a c :=
  ⟨k.os.trans h.os, k.tape.trans h.tape, k.output.trans h.output, Nat.le_trans h.size k.size, fun i hi hF => (k.blk i (Nat.lt_of_lt_of_le hi h.size) (fun hF' => by
    rcases h.grow i hF' with h1 | h1
    · exact hF h1
    · omega)).trans (h.blk i hi hF), fun i hi => by
    rcases k.grow i hi with h1 | h1
    · exact h.grow i h1
    · exact .inr (Nat.le_trans h.size h1)⟩
theorem Ch.of_bel {F : Nat -> Prop} {w w' : World} (h : Below w.heap.size w w') : Ch F F w w' := ⟨h.os, h.tape, h.output, h.size, fun k hk _ => h.block k hk, fun _ h => .inl h⟩
theorem Ch.bel {F F' : Nat -> Prop} {w w' : World} {B : Nat} (h : Ch F F' w w') (hF : ∀ k, F k -> B <= k) (hB : B <= w.heap.size) : Below B w w' :=
 ⟨h.os, h.tape, h.output, h.size, fun k hk => h.blk k (by omega) (fun e => by have := hF k e; omega)⟩
theorem Ch.drew {F F' : Nat -> Prop} {w w' : World} (h : Ch F F' w w') : Ch F F' w w'.drew := ⟨h.os, h.tape, h.output, h.size, h.blk, h.grow⟩
theorem Ch.below {F F' : Nat -> Prop} {w wa wb : World} (h : Ch F F' w wa) (k : Below w.heap.size wa wb) : Ch F F' w wb :=
 ⟨k.os.trans h.os, k.tape.trans h.tape, k.output.trans h.output, Nat.le_trans h.size k.size, fun i hi hF => (k.block i hi).trans (h.blk i hi hF), h.grow⟩
theorem Ch.low {F F' : Nat -> Prop} {w w' : World} {B : Nat} (h : Ch F F' w w') (hF : ∀ k, F k -> B <= k) (hB : B <= w.heap.size) : ∀ k, F' k -> B <= k := fun k hk => by
 rcases h.grow k hk with h1 | h1
 · exact hF k h1
 · omega
structure Sv (w : World) (F : Nat -> Prop) (g : Nat) (s : St) (vP vM vC vA : Value) (vs : List Value) : Prop where
 at_ : w.heap[g]? = some (.cells #[vP, vM, vC, vA] 110 (0, 0))
 pl : w.ownsRow 0 64 3 vP s.P.length (vcs s.P)
 mu : w.ownsRow 0 4 1 vM s.M.length (bls s.M)
 ch : w.ownsRow 0 113 3 vC s.C.length (qcs s.C vs)
 ato : w.ownsRow 0 3 1 vA s.A.length (nts s.A)
 len : vs.length = s.C.length
 q : ∀ (i : Nat) (q : Qu) (v : Value), s.C[i]? = some q -> vs[i]? = some v -> w.ownsRow 0 64 3 v q.l.length (vcs q.l) /\ ∀ k, v.ownBlock = some k -> F k /\ vP.ownBlock ≠ some k
 ne : ∀ (i j : Nat) (v v' : Value) (k : Nat), i ≠ j -> vs[i]? = some v -> vs[j]? = some v' -> v.ownBlock = some k -> v'.ownBlock ≠ some k
 fg : F g
 fP : ∀ k, vP.ownBlock = some k -> F k
 fM : ∀ k, vM.ownBlock = some k -> F k
 fC : ∀ k, vC.ownBlock = some k -> F k
 fA : ∀ k, vA.ownBlock = some k -> F k
 fb : ∀ k, F k -> k < w.heap.size
 small : s.P.length <= 128 /\ s.M.length <= 32 /\ s.C.length <= 32 /\ s.A.length <= 32
 rooms : ∀ q ∈ s.C, 0 <= q.room /\ q.room <= 8 /\ (q.l.length : Int) <= q.room
def Stt (w : World) (F : Nat -> Prop) (g : Nat) (s : St) : Prop := ∃ vP vM vC vA vs, Sv w F g s vP vM vC vA vs
section
variable {w w' : World} {F F' G : Nat → Prop} {g : Nat} {s : St} {vP vM vC vA : Value} {vs : List Value}
theorem Sv.keep (h : Sv w F g s vP vM vC vA vs) (hb : ∀ k, F k -> w'.heap[k]? = w.heap[k]?) (hs : w.heap.size <= w'.heap.size) : Sv w' F g s vP vM vC vA vs :=
 { h with
  at_ := (hb g h.fg).trans h.at_
  pl := Zj h.pl fun k hk => hb k (h.fP k hk)
  mu := Zj h.mu fun k hk => hb k (h.fM k hk)
  ch := Zj h.ch fun k hk => hb k (h.fC k hk)
  ato := Zj h.ato fun k hk => hb k (h.fA k hk)
  q := fun i q v hq hv => ⟨Zj (h.q i q v hq hv).1 fun k hk => hb k ((h.q i q v hq hv).2 k hk).1, (h.q i q v hq hv).2⟩
  fb := fun k hk => Nat.lt_of_lt_of_le (h.fb k hk) hs }
theorem Sv.bel (h : Sv w F g s vP vM vC vA vs) (hb : Below w.heap.size w w') : Sv w' F g s vP vM vC vA vs := h.keep (fun k hk => hb.block k (h.fb k hk)) hb.size
theorem Sv.var (h : Sv w F g s vP vM vC vA vs) {k : Nat} (hk : ¬ F k) (x y z : Value) : Sv (((w.setCell ⟨k, 0, none⟩ x).setCell ⟨k, 1, none⟩ y).setCell ⟨k, 2, none⟩ z) F g s vP vM vC vA vs :=
  h.keep (fun j hj => by
    have hn : j ≠ k := fun e => hk (e ▸ hj)
    exact (Below.heap_setCell _ _ _ _ hn).trans ((Below.heap_setCell _ _ _ _ hn).trans (Below.heap_setCell _ _ _ _ hn))) (by rw [Zi, Zi, Zi]; exact Nat.le_refl _)
theorem Sv.cells (h : Sv w F g s vP vM vC vA vs) : w.cell? ⟨g, 0, none⟩ = some vP /\ w.cell? ⟨g, 1, none⟩ = some vM /\ w.cell? ⟨g, 2, none⟩ = some vC /\ w.cell? ⟨g, 3, none⟩ = some vA :=
 ⟨Zb h.at_ 0 _ rfl, Zb h.at_ 1 _ rfl, Zb h.at_ 2 _ rfl, Zb h.at_ 3 _ rfl⟩
theorem Stt.bel (h : Stt w F g s) (hb : Below w.heap.size w w') : Stt w' F g s := by
 obtain ⟨vP, vM, vC, vA, vs, h⟩ := h
 exact ⟨_, _, _, _, _, h.bel hb⟩
theorem Stt.lt (h : Stt w F g s) : g < w.heap.size := by
 obtain ⟨vP, vM, vC, vA, vs, h⟩ := h
 exact h.fb g h.fg
theorem Stt.fb (h : Stt w F g s) : ∀ k, F k -> k < w.heap.size := by
 obtain ⟨vP, vM, vC, vA, vs, h⟩ := h
 exact h.fb
theorem ZM {b j : Nat} (hb : F b) (u : Value) : Ch F F w (w.setCell ⟨b, j, none⟩ u) :=
 ⟨rfl, rfl, rfl, by rw [Zi]; exact Nat.le_refl _, fun k _ hk => Below.heap_setCell _ _ _ _ (fun e => hk (by rw [e]; exact hb)), fun _ h => .inl h⟩
theorem Sv.setM {b n c : Nat} (h : Sv w F g s vP (.slice (some ⟨b, 0, none⟩) n c) vC vA vs) (hn : n = s.M.length) (i : Nat) (x : Bool) :
 Sv (w.setCell ⟨b, i, none⟩ (.bool x)) F g { s with M := s.M.set i x } vP (.slice (some ⟨b, 0, none⟩) n c) vC vA vs /\ Ch F F w (w.setCell ⟨b, i, none⟩ (.bool x)) := by
 subst hn
 have hF := h.fM b rfl
 have ho : ∀ k, k ≠ b -> (w.setCell ⟨b, i, none⟩ (.bool x)).heap[k]? = w.heap[k]? := fun k hk => Below.heap_setCell _ _ _ _ hk
 have hap : ∀ {T : TypeId} {n : Nat} {v : Value} {len : Nat} {xs : List Value}, w.ownsRow 0 T n v len xs -> T ≠ 4 -> (w.setCell ⟨b, i, none⟩ (.bool x)).ownsRow 0 T n v len xs := fun hr hT =>
  Zj hr fun k hk => ho k (fun e => by subst e; exact Zo hr h.mu hT k hk rfl)
 refine ⟨?_, ZM hF _⟩
 exact { h with
  at_ := (ho g (fun e => Zu h.mu h.at_ (by decide) (by rw [e]; rfl))).trans h.at_
  pl := hap h.pl (by decide)
  mu := by
   have := ZT h.mu i (.bool x)
   simp only [bls, List.length_set, List.map_set] at this ⊢
   exact this
  ch := hap h.ch (by decide)
  ato := hap h.ato (by decide)
  q := fun i q v hq hv => ⟨hap (h.q i q v hq hv).1 (by decide), (h.q i q v hq hv).2⟩
  fb := fun k hk => by rw [Zi]; exact h.fb k hk
  small := by simpa using h.small }
theorem Sv.setA {b n c : Nat} (h : Sv w F g s vP vM vC (.slice (some ⟨b, 0, none⟩) n c) vs) (hn : n = s.A.length) (i : Nat) (x : Int) :
 Sv (w.setCell ⟨b, i, none⟩ (I_ x)) F g { s with A := s.A.set i x } vP vM vC (.slice (some ⟨b, 0, none⟩) n c) vs /\ Ch F F w (w.setCell ⟨b, i, none⟩ (I_ x)) := by
 subst hn
 have hF := h.fA b rfl
 have ho : ∀ k, k ≠ b -> (w.setCell ⟨b, i, none⟩ (I_ x)).heap[k]? = w.heap[k]? := fun k hk => Below.heap_setCell _ _ _ _ hk
 have hap : ∀ {T : TypeId} {n : Nat} {v : Value} {len : Nat} {xs : List Value}, w.ownsRow 0 T n v len xs -> T ≠ 3 -> (w.setCell ⟨b, i, none⟩ (I_ x)).ownsRow 0 T n v len xs := fun hr hT =>
  Zj hr fun k hk => ho k (fun e => by subst e; exact Zo hr h.ato hT k hk rfl)
 refine ⟨?_, ZM hF _⟩
 exact { h with
  at_ := (ho g (fun e => Zu h.ato h.at_ (by decide) (by rw [e]; rfl))).trans h.at_
  pl := hap h.pl (by decide)
  mu := hap h.mu (by decide)
  ch := hap h.ch (by decide)
  ato := by
   have := ZT h.ato i (I_ x)
   simp only [nts, List.length_set, List.map_set] at this ⊢
   exact this
  q := fun i q v hq hv => ⟨hap (h.q i q v hq hv).1 (by decide), (h.q i q v hq hv).2⟩
  fb := fun k hk => by rw [Zi]; exact h.fb k hk
  small := by simpa using h.small }
theorem Sv.setP {b n c : Nat} (h : Sv w F g s (.slice (some ⟨b, 0, none⟩) n c) vM vC vA vs) (hn : n = s.P.length) (i : Nat) (x : V3) :
 Sv (((w.setCell ⟨b, 3 * i, none⟩ (I_ x.1)).setCell ⟨b, 3 * i + 1, none⟩ (I_ x.2.1)).setCell ⟨b, 3 * i + 2, none⟩ (.int .u64 x.2.2)) F g { s with P := s.P.set i x } (.slice (some ⟨b, 0, none⟩) n c) vM vC vA vs ∧
  Ch F F w (((w.setCell ⟨b, 3 * i, none⟩ (I_ x.1)).setCell ⟨b, 3 * i + 1, none⟩ (I_ x.2.1)).setCell ⟨b, 3 * i + 2, none⟩ (.int .u64 x.2.2)) := by
 subst hn
 have hF := h.fP b rfl
 generalize hw : ((w.setCell ⟨b, 3 * i, none⟩ (I_ x.1)).setCell ⟨b, 3 * i + 1, none⟩ (I_ x.2.1)).setCell ⟨b, 3 * i + 2, none⟩ (.int .u64 x.2.2) = w'
 have ho : ∀ k, k ≠ b -> w'.heap[k]? = w.heap[k]? := fun k hk => by
  rw [← hw]
  exact (Below.heap_setCell _ _ _ _ hk).trans ((Below.heap_setCell _ _ _ _ hk).trans (Below.heap_setCell _ _ _ _ hk))
 have hap : ∀ {T : TypeId} {n : Nat} {v : Value} {len : Nat} {xs : List Value}, w.ownsRow 0 T n v len xs -> v.ownBlock ≠ some b -> w'.ownsRow 0 T n v len xs := fun hr hT =>
  Zj hr fun k hk => ho k (fun e => by subst e; exact hT hk)
 have hne : ∀ {T : TypeId} {n : Nat} {v : Value} {len : Nat} {xs : List Value}, w.ownsRow 0 T n v len xs -> T ≠ 64 -> v.ownBlock ≠ some b := fun hr hT e => Zo hr h.pl hT b e rfl
 refine ⟨?_, by rw [← hw]; exact (ZM hF _).trans ((ZM hF _).trans (ZM hF _))⟩
 exact { h with
  at_ := (ho g (fun e => Zu h.pl h.at_ (by decide) (by rw [e]; rfl))).trans h.at_
  pl := by
   have := ZT (ZT (ZT h.pl (3 * i) (I_ x.1)) (3 * i + 1) (I_ x.2.1)) (3 * i + 2) (.int .u64 x.2.2)
   rw [hw] at this
   simp only [List.length_set, vcs_set]
   exact this
  mu := hap h.mu (hne h.mu (by decide))
  ch := hap h.ch (hne h.ch (by decide))
  ato := hap h.ato (hne h.ato (by decide))
  q := fun i q v hq hv => ⟨hap (h.q i q v hq hv).1 (fun e => ((h.q i q v hq hv).2 b e).2 rfl), (h.q i q v hq hv).2⟩
  fb := fun k hk => by rw [← hw, Zi, Zi, Zi]; exact h.fb k hk
  small := by simpa using h.small }
theorem Sv.chan {b n c : Nat} (h : Sv w F g s vP vM (.slice (some ⟨b, 0, none⟩) n c) vA vs) (hn : n = s.C.length) (i : Nat) {q : Qu} {vq v' : Value} {l' : List V3} {w2 : World} (hq : s.C[i]? = some q) (hv : vs[i]? = some vq)
 (hg : w.grownBy w2 vq.ownBlock) (ho : w2.ownsRow 0 64 3 v' l'.length (vcs l')) (hb : ∀ k, v'.ownBlock = some k -> vq.ownBlock = some k ∨ w.heap.size <= k) (hl : (l'.length : Int) <= q.room) :
 Sv (w2.setCell ⟨b, 3 * i + 2, none⟩ v') (fun k => F k ∨ v'.ownBlock = some k) g { s with C := s.C.set i { q with l := l' } } vP vM (.slice (some ⟨b, 0, none⟩) n c) vA (vs.set i v') /\ Ch F (fun k => F k ∨ v'.ownBlock = some k) w (w2.setCell ⟨b, 3 * i + 2, none⟩ v') := by
 subst hn
 have hF := h.fC b rfl
 obtain ⟨oq, fq⟩ := h.q i q vq hq hv
 have hi : i < s.C.length := (G_ hq)
 have hsz : (w2.setCell ⟨b, 3 * i + 2, none⟩ v').heap.size = w2.heap.size := Zi _ _ _
 have ho2 : ∀ k, k ≠ b -> (w2.setCell ⟨b, 3 * i + 2, none⟩ v').heap[k]? = w2.heap[k]? := fun k hk => Below.heap_setCell _ _ _ _ hk
 have hlt : ∀ {T : TypeId} {n : Nat} {v : Value} {len : Nat} {xs : List Value}, w.ownsRow 0 T n v len xs -> ∀ k, v.ownBlock = some k -> k < w.heap.size := fun hr k hk => (Zf hr hk).2.1
 have hk2 : ∀ {T : TypeId} {n : Nat} {v : Value} {len : Nat} {xs : List Value}, w.ownsRow 0 T n v len xs -> (∀ k, v.ownBlock = some k -> vq.ownBlock ≠ some k) -> w2.ownsRow 0 T n v len xs := fun hr hne =>
  Zj hr fun k hk => hg.block k (hlt hr k hk) (fun e => hne k hk e.symm)
 have hk3 : ∀ {T : TypeId} {n : Nat} {v : Value} {len : Nat} {xs : List Value}, w.ownsRow 0 T n v len xs -> (∀ k, v.ownBlock = some k -> vq.ownBlock ≠ some k) -> v.ownBlock ≠ some b -> (w2.setCell ⟨b, 3 * i + 2, none⟩ v').ownsRow 0 T n v len xs := fun hr hne hb' =>
  Zj (hk2 hr hne) fun k hk => ho2 k (fun e => by subst e; exact hb' hk)
 have bq : vq.ownBlock ≠ some b := fun e => Zo oq h.ch (by decide) b e rfl
 have bv : v'.ownBlock ≠ some b := fun e => by
  rcases hb b e with h1 | h1
  · exact bq h1
  · have := hlt h.ch b rfl
    omega
 refine ⟨?_, ⟨hg.os, hg.tape, hg.output, by rw [hsz]; exact hg.size, fun k hk hFk => (ho2 k (fun e => hFk (by rw [e]; exact hF))).trans (hg.block k hk (fun e => hFk (fq k e.symm).1)), fun k hk => ?_⟩⟩
 · exact { h with
    at_ := (ho2 g (fun e => Zu h.ch h.at_ (by decide) (by rw [e]; rfl))).trans ((hg.block g (Ze h.at_) (fun e => Zu oq h.at_ (by decide) e.symm)).trans h.at_)
    pl := hk3 h.pl (fun k hk e => (fq k e).2 hk) (fun e => Zo h.pl h.ch (by decide) b e rfl)
    mu := hk3 h.mu (fun k hk => Zo h.mu oq (by decide) k hk) (fun e => Zo h.mu h.ch (by decide) b e rfl)
    ch := by
     have h1 := ZT (hk2 h.ch (fun k hk => Zo h.ch oq (by decide) k hk)) (3 * i + 2) v'
     rw [← qcs_set s.C vs i q { q with l := l' } v' h.len hq rfl rfl] at h1
     simpa using h1
    ato := hk3 h.ato (fun k hk => Zo h.ato oq (by decide) k hk) (fun e => Zo h.ato h.ch (by decide) b e rfl)
    len := by simpa using h.len
    q := fun j q' v hq' hv' => by
     by_cases e : i = j
     · subst e
       rw [List.getElem?_set_self (by omega)] at hq'
       rw [List.getElem?_set_self (by rw [h.len]; omega)] at hv'
       cases hq'
       cases hv'
       refine ⟨Zj ho fun k hk => ho2 k (fun e => by subst e; exact bv hk), fun k hk => ⟨.inr hk, fun e => ?_⟩⟩
       rcases hb k hk with h1 | h1
       · exact (fq k h1).2 e
       · have := hlt h.pl k e
         omega
     · rw [List.getElem?_set_ne e] at hq' hv'
       obtain ⟨o1, o2⟩ := h.q j q' v hq' hv'
       exact ⟨hk3 o1 (fun k hk e2 => h.ne i j vq v k e hv hv' e2 hk) (fun e2 => Zo o1 h.ch (by decide) b e2 rfl), fun k hk => ⟨.inl (o2 k hk).1, (o2 k hk).2⟩⟩
    ne := fun a c x y k hac hx hy hk => by
     have old : ∀ j u, i ≠ j -> vs[j]? = some u -> ∀ k, u.ownBlock = some k -> v'.ownBlock ≠ some k := fun j u hij hu k hk e => by
      have hj : j < s.C.length := by rw [← h.len]; exact (G_ hu)
      rcases hb k e with h1 | h1
      · exact h.ne i j vq u k hij hv hu h1 hk
      · have := hlt (h.q j s.C[j] u (List.getElem?_eq_getElem hj) hu).1 k hk
        omega
     by_cases e1 : i = a
     · subst e1
       rw [List.getElem?_set_self (by rw [h.len]; omega)] at hx
       rw [List.getElem?_set_ne hac] at hy
       cases hx
       exact fun e2 => old c y hac hy k e2 hk
     · rw [List.getElem?_set_ne e1] at hx
       by_cases e2 : i = c
       · subst e2
         rw [List.getElem?_set_self (by rw [h.len]; omega)] at hy
         cases hy
         exact old a x e1 hx k hk
       · rw [List.getElem?_set_ne e2] at hy
         exact h.ne a c x y k hac hx hy hk
    fg := .inl h.fg
    fP := fun k hk => .inl (h.fP k hk)
    fM := fun k hk => .inl (h.fM k hk)
    fC := fun k hk => .inl (h.fC k hk)
    fA := fun k hk => .inl (h.fA k hk)
    fb := fun k hk => by
     rw [hsz]
     rcases hk with hk | hk
     · exact Nat.lt_of_lt_of_le (h.fb k hk) hg.size
     · exact (Zf ho hk).2.1
    small := by simpa using h.small
    rooms := fun q' hq' => by
     rcases List.mem_or_eq_of_mem_set hq' with h1 | h1
     · exact h.rooms q' h1
     · subst h1
       have := h.rooms q (List.mem_of_getElem? hq)
       exact ⟨this.1, this.2.1, hl⟩ }
 · rcases hk with hk | hk
   · exact .inl hk
   · rcases hb k hk with h1 | h1
     · exact .inl (fq k h1).1
     · exact .inr h1
end
theorem Ys (b n c i : Nat) (w : World) (hi : i < n) : Calls Tryz.prog 89 #[.slice (some ⟨b, 0, none⟩) n c, I_ (i : Nat)] w fun e w' => e = .returned (.tuple #[.pointer (some ⟨b, i, none⟩), .nilIface]) /\ w = w' := by
 go_enter Tryz.func89, Tryz.ntmps89
 go_wp2_with fail
 go_ret2
 exact ⟨rfl, rfl⟩
theorem in_syncelementint (b n c i : Nat) (w : World) (hi : i < n) : Calls Tryz.prog 107 #[.slice (some ⟨b, 0, none⟩) n c, I_ (i : Nat)] w fun e w' => e = .returned (.tuple #[.pointer (some ⟨b, i, none⟩), .nilIface]) /\ w = w' := by
 go_enter Tryz.func107, Tryz.ntmps107
 go_wp2_with fail
 go_ret2
 exact ⟨rfl, rfl⟩
theorem in_syncelementapiValue (b n c i o : Nat) (w : World) (hi : i < n) (ho : Hid (o = 3 * i)) : Calls Tryz.prog 102 #[.slice (some ⟨b, 0, none⟩) n c, I_ (i : Nat)] w fun e w' => e = .returned (.tuple #[.pointer (some ⟨b, o, none⟩), .nilIface]) /\ w = w' := by
 go_enter Tryz.func102, Tryz.ntmps102
 go_wp2_with fail
 go_ret2
 exact ⟨by rw [ho.out, Nat.mul_comm 3 i]; rfl, rfl⟩
theorem ZP (b n c i o : Nat) (w : World) (hi : i < n) (ho : Hid (o = 3 * i)) : Calls Tryz.prog 91 #[.slice (some ⟨b, 0, none⟩) n c, I_ (i : Nat)] w fun e w' => e = .returned (.tuple #[.pointer (some ⟨b, o, none⟩), .nilIface]) /\ w = w' := by
 go_enter Tryz.func91, Tryz.ntmps91
 go_wp2_with fail
 go_ret2
 exact ⟨by rw [ho.out, Nat.mul_comm 3 i]; rfl, rfl⟩
theorem out_syncelementbool (a : Option Addr) (n c : Nat) (i : Int) (w : World) {p : List Addr} (h17 : E2 w p) (hi : i < 0 ∨ (n : Int) <= i) : Calls Tryz.prog 89 #[.slice a n c, I_ i] w (Vb w (.tuple #[.pointer none, errV p 0])) := by
 have x0 : w.cell? ⟨1, 0, none⟩ = some (errV p 0) := h17.c0
 clear h17
 generalize errV p 0 = ev at *
 by_cases h0 : i < 0
 · clear hi
   go_enter Tryz.func89, Tryz.ntmps89
   go_wp2_with fail
   go_quiet (fail)
   go_wp2_with fail
   go_ret2
   exact Vb.mk rfl (below_drewN (Below.refl _ _) _)
 · have h1 : (n : Int) <= i := by omega
   have h2 : 0 <= i := by omega
   clear hi h0
   go_enter Tryz.func89, Tryz.ntmps89
   go_wp2_with fail
   go_quiet (fail)
   go_wp2_with fail
   go_ret2
   exact Vb.mk rfl (below_drewN (Below.refl _ _) _)
theorem out_syncelementint (a : Option Addr) (n c : Nat) (i : Int) (w : World) {p : List Addr} (h17 : E2 w p) (hi : i < 0 ∨ (n : Int) <= i) : Calls Tryz.prog 107 #[.slice a n c, I_ i] w (Vb w (.tuple #[.pointer none, errV p 0])) := by
 have x0 : w.cell? ⟨1, 0, none⟩ = some (errV p 0) := h17.c0
 clear h17
 generalize errV p 0 = ev at *
 by_cases h0 : i < 0
 · clear hi
   go_enter Tryz.func107, Tryz.ntmps107
   go_wp2_with fail
   go_quiet (fail)
   go_wp2_with fail
   go_ret2
   exact Vb.mk rfl (below_drewN (Below.refl _ _) _)
 · have h1 : (n : Int) <= i := by omega
   have h2 : 0 <= i := by omega
   clear hi h0
   go_enter Tryz.func107, Tryz.ntmps107
   go_wp2_with fail
   go_quiet (fail)
   go_wp2_with fail
   go_ret2
   exact Vb.mk rfl (below_drewN (Below.refl _ _) _)
theorem out_syncelementapiValue (a : Option Addr) (n c : Nat) (i : Int) (w : World) {p : List Addr} (h17 : E2 w p) (hi : i < 0 ∨ (n : Int) <= i) : Calls Tryz.prog 102 #[.slice a n c, I_ i] w (Vb w (.tuple #[.pointer none, errV p 0])) := by
 have x0 : w.cell? ⟨1, 0, none⟩ = some (errV p 0) := h17.c0
 clear h17
 generalize errV p 0 = ev at *
 by_cases h0 : i < 0
 · clear hi
   go_enter Tryz.func102, Tryz.ntmps102
   go_wp2_with fail
   go_quiet (fail)
   go_wp2_with fail
   go_ret2
   exact Vb.mk rfl (below_drewN (Below.refl _ _) _)
 · have h1 : (n : Int) <= i := by omega
   have h2 : 0 <= i := by omega
   clear hi h0
   go_enter Tryz.func102, Tryz.ntmps102
   go_wp2_with fail
   go_quiet (fail)
   go_wp2_with fail
   go_ret2
   exact Vb.mk rfl (below_drewN (Below.refl _ _) _)
theorem YC (a : Option Addr) (n c : Nat) (i : Int) (w : World) {p : List Addr} (h17 : E2 w p) (hi : i < 0 ∨ (n : Int) <= i) : Calls Tryz.prog 91 #[.slice a n c, I_ i] w (Vb w (.tuple #[.pointer none, errV p 0])) := by
 have x0 : w.cell? ⟨1, 0, none⟩ = some (errV p 0) := h17.c0
 clear h17
 generalize errV p 0 = ev at *
 by_cases h0 : i < 0
 · clear hi
   go_enter Tryz.func91, Tryz.ntmps91
   go_wp2_with fail
   go_quiet (fail)
   go_wp2_with fail
   go_ret2
   exact Vb.mk rfl (below_drewN (Below.refl _ _) _)
 · have h1 : (n : Int) <= i := by omega
   have h2 : 0 <= i := by omega
   clear hi h0
   go_enter Tryz.func91, Tryz.ntmps91
   go_wp2_with fail
   go_quiet (fail)
   go_wp2_with fail
   go_ret2
   exact Vb.mk rfl (below_drewN (Below.refl _ _) _)
def Sp (w : World) (F : Nat -> Prop) (g : Nat) (s' : St) (v : Value) (e : Ending) (w' : World) : Prop := e = .returned v /\ ∃ F', Stt w' F' g s' /\ Ch F F' w w'
theorem Sp.mk {w w' : World} {F F' : Nat -> Prop} {g : Nat} {s' : St} {v v' : Value} (hv : v = v') (h : Stt w' F' g s') (hc : Ch F F' w w') : Sp w F g s' v' (.returned v) w' := ⟨by rw [hv], F', h, hc⟩
theorem set_same {α : Type} : ∀ (l : List α) (i : Nat) (x : α), l[i]? = some x -> l.set i x = l
 | [], i, x, h => by simp at h
 | y :: l, 0, x, h => by simp at h; simp [h]
 | y :: l, i + 1, x, h => by rw [List.set_cons_succ, set_same l i x (by simpa using h)]
theorem bls_at {l : List Bool} {i : Nat} {x : Bool} (h : l[i]? = some x) : (bls l)[i]? = some (.bool x) := by simp [bls, h]
theorem nts_at {l : List Int} {i : Nat} {x : Int} (h : l[i]? = some x) : (nts l)[i]? = some (I_ x) := by simp [nts, h]
theorem turn_in {w : World} {F : Nat -> Prop} {g : Nat} {s : St} (h : Stt w F g s) (i : Nat) (x y : Bool) (hx : s.M[i]? = some x) : Calls Tryz.prog 104 #[P_ g, I_ (i : Nat), .bool y] w (Sp w F g { s with M := s.M.set i y } (.tuple #[.bool (x != y), .nilIface])) := by
 obtain ⟨vP, vM, vC, vA, vs, h⟩ := h
 have hi : i < s.M.length := (G_ hx)
 obtain ⟨b, c, e, hc, hm⟩ := Zq h.mu (by omega)
 have hsm := h.small
 obtain ⟨n, hn⟩ : ∃ n, n = s.M.length := ⟨_, rfl⟩
 rw [← hn] at e hi hc
 have hn32 : n <= 32 := by omega
 subst e
 have HN := Za hn
 have c1 := h.cells.2.1
 obtain ⟨d1, d2⟩ := Zk h.mu i _ (bls_at hx)
 have SM := Za (h.setM hn i y)
 have S0 := Za h
 have hl := (h.fb b (h.fM b rfl))
 clear h hsm hc hm hn
 by_cases e : x = y
 · subst e
   have hse : Hid (s.M.set i x = s.M) := set_same _ _ _ hx
   go_enter Tryz.func104, Tryz.ntmps104
   go_wp2_with fail
   refine (Ys b n c i _ hi).mono ?_
   rintro e w1 ⟨rfl, rfl⟩
   go_wp2_with fail
   go_ret2
   exact Sp.mk (by simp) ⟨_, _, _, _, _, by rw [hse.out]; exact S0.out⟩ (Ch.refl _ _)
 · have e2 : (x == y) = false := by simp [e]
   have E := Za e
   clear e
   go_enter Tryz.func104, Tryz.ntmps104
   go_wp2_with fail
   refine (Ys b n c i _ hi).mono ?_
   rintro e w1 ⟨rfl, rfl⟩
   go_wp2_with fail
   go_ret2
   exact Sp.mk (by simp [bne, e2]) ⟨_, _, _, _, _, SM.out.1⟩ SM.out.2
theorem turn_out {w : World} {F : Nat -> Prop} {g : Nat} {s : St} (h : Stt w F g s) {p : List Addr} (h17 : E2 w p) (i : Int) (y : Bool) (hi : i < 0 ∨ (s.M.length : Int) <= i) : Calls Tryz.prog 104 #[P_ g, I_ i, .bool y] w (Vb w (.tuple #[.bool false, errV p 0])) := by
 obtain ⟨vP, vM, vC, vA, vs, h⟩ := h
 obtain ⟨a, c, e, hc, hm⟩ := Zl h.mu
 subst e
 obtain ⟨n, hn⟩ : ∃ n, n = s.M.length := ⟨_, rfl⟩
 rw [← hn] at hi
 have c1 := h.cells.2.1
 rw [← hn] at c1
 have EO := Za (fun w' (h17 : E2 w' p) => out_syncelementbool a n c i w' h17 hi)
 have H7 := Za h17
 unfold errV at *
 generalize adr p 0 = ad at *
 clear h hc hm hi hn h17
 go_enter Tryz.func104, Tryz.ntmps104
 go_wp2_with fail
 refine (EO.out _ H7.out).mono ?_
 rintro e w1 ⟨rfl, hb⟩
 go_wp2_with fail
 go_ret2
 exact Vb.mk rfl hb
theorem Lock_in {w : World} {F : Nat -> Prop} {g : Nat} {s : St} (h : Stt w F g s) (i : Nat) (x : Bool) (hx : s.M[i]? = some x) : Calls Tryz.prog 94 #[P_ g, I_ (i : Nat)] w (Sp w F g { s with M := s.M.set i true } (.tuple #[.bool (!x), .nilIface])) := by
 have T := Za (turn_in h i x true hx)
 clear h hx
 go_enter Tryz.func94, Tryz.ntmps94
 go_wp2_with fail
 refine T.out.mono ?_
 rintro e w1 ⟨rfl, hs⟩
 go_wp2_with fail
 go_ret2
 exact ⟨rfl, hs⟩
theorem Unlock_in {w : World} {F : Nat -> Prop} {g : Nat} {s : St} (h : Stt w F g s) (i : Nat) (x : Bool) (hx : s.M[i]? = some x) : Calls Tryz.prog 88 #[P_ g, I_ (i : Nat)] w (Sp w F g { s with M := s.M.set i false } (.tuple #[.bool x, .nilIface])) := by
 have T := Za (turn_in h i x false hx)
 clear h hx
 go_enter Tryz.func88, Tryz.ntmps88
 go_wp2_with fail
 refine T.out.mono ?_
 rintro e w1 ⟨rfl, hs⟩
 go_wp2_with fail
 go_ret2
 exact ⟨rfl, hs⟩
theorem Unlock_out {w : World} {F : Nat -> Prop} {g : Nat} {s : St} (h : Stt w F g s) {p : List Addr} (h17 : E2 w p) (i : Int) (hi : i < 0 ∨ (s.M.length : Int) <= i) : Calls Tryz.prog 88 #[P_ g, I_ i] w (Vb w (.tuple #[.bool false, errV p 0])) := by
 have T := Za (turn_out h h17 i false hi)
 clear h hi h17
 unfold errV at *
 generalize adr p 0 = ad at *
 go_enter Tryz.func88, Tryz.ntmps88
 go_wp2_with fail
 refine T.out.mono ?_
 rintro e w1 ⟨rfl, hb⟩
 go_wp2_with fail
 go_ret2
 exact Vb.mk rfl hb
theorem Locked_in {w : World} {F : Nat -> Prop} {g : Nat} {s : St} (h : Stt w F g s) (i : Nat) (x : Bool) (hx : s.M[i]? = some x) : Calls Tryz.prog 64 #[P_ g, I_ (i : Nat)] w fun e w' => e = .returned (.bool x) /\ w = w' := by
 obtain ⟨vP, vM, vC, vA, vs, h⟩ := h
 have hi : i < s.M.length := (G_ hx)
 obtain ⟨b, c, e, hc, hm⟩ := Zq h.mu (by omega)
 have hsm := h.small
 obtain ⟨n, hn⟩ : ∃ n, n = s.M.length := ⟨_, rfl⟩
 rw [← hn] at e hi hc
 have hn32 : n <= 32 := by omega
 subst e
 have HN := Za hn
 have c1 := h.cells.2.1
 obtain ⟨d1, d2⟩ := Zk h.mu i _ (bls_at hx)
 clear h hsm hc hm hn
 go_enter Tryz.func64, Tryz.ntmps64
 go_wp2_with fail
 refine (Ys b n c i _ hi).mono ?_
 rintro e w1 ⟨rfl, rfl⟩
 go_wp2_with fail
 go_ret
 exact ⟨by simp, rfl⟩
theorem Locked_out {w : World} {F : Nat -> Prop} {g : Nat} {s : St} (h : Stt w F g s) {p : List Addr} (h17 : E2 w p) (i : Int) (hi : i < 0 ∨ (s.M.length : Int) <= i) : Calls Tryz.prog 64 #[P_ g, I_ i] w (Vb w (.bool false)) := by
 obtain ⟨vP, vM, vC, vA, vs, h⟩ := h
 obtain ⟨a, c, e, hc, hm⟩ := Zl h.mu
 subst e
 obtain ⟨n, hn⟩ : ∃ n, n = s.M.length := ⟨_, rfl⟩
 rw [← hn] at hi
 have c1 := h.cells.2.1
 rw [← hn] at c1
 have EO := Za (fun w' (h17 : E2 w' p) => out_syncelementbool a n c i w' h17 hi)
 have H7 := Za h17
 unfold errV at *
 generalize adr p 0 = ad at *
 clear h hc hm hi hn h17
 go_enter Tryz.func64, Tryz.ntmps64
 go_wp2_with fail
 refine (EO.out _ H7.out).mono ?_
 rintro e w1 ⟨rfl, hb⟩
 go_wp2_with fail
 go_ret
 exact Vb.mk rfl hb
theorem Get_in {w : World} {F : Nat -> Prop} {g : Nat} {s : St} (h : Stt w F g s) (i : Nat) (x : Int) (hx : s.A[i]? = some x) : Calls Tryz.prog 92 #[P_ g, I_ (i : Nat)] w fun e w' => e = .returned (.tuple #[I_ x, .nilIface]) /\ w = w' := by
 obtain ⟨vP, vM, vC, vA, vs, h⟩ := h
 have hi : i < s.A.length := (G_ hx)
 obtain ⟨b, c, e, hc, hm⟩ := Zq h.ato (by omega)
 have hsm := h.small
 obtain ⟨n, hn⟩ : ∃ n, n = s.A.length := ⟨_, rfl⟩
 rw [← hn] at e hi hc
 have hn32 : n <= 32 := by omega
 subst e
 have HN := Za hn
 have c1 := h.cells.2.2.2
 obtain ⟨d1, d2⟩ := Zk h.ato i _ (nts_at hx)
 clear h hsm hc hm hn
 go_enter Tryz.func92, Tryz.ntmps92
 go_wp2_with fail
 refine (in_syncelementint b n c i _ hi).mono ?_
 rintro e w1 ⟨rfl, rfl⟩
 go_wp2_with fail
 go_ret2
 exact ⟨rfl, rfl⟩
theorem Get_out {w : World} {F : Nat -> Prop} {g : Nat} {s : St} (h : Stt w F g s) {p : List Addr} (h17 : E2 w p) (i : Int) (hi : i < 0 ∨ (s.A.length : Int) <= i) : Calls Tryz.prog 92 #[P_ g, I_ i] w (Vb w (.tuple #[I_ 0, errV p 0])) := by
 obtain ⟨vP, vM, vC, vA, vs, h⟩ := h
 obtain ⟨a, c, e, hc, hm⟩ := Zl h.ato
 subst e
 obtain ⟨n, hn⟩ : ∃ n, n = s.A.length := ⟨_, rfl⟩
 rw [← hn] at hi
 have c1 := h.cells.2.2.2
 rw [← hn] at c1
 have EO := Za (fun w' (h17 : E2 w' p) => out_syncelementint a n c i w' h17 hi)
 have H7 := Za h17
 unfold errV at *
 generalize adr p 0 = ad at *
 clear h hc hm hi hn h17
 go_enter Tryz.func92, Tryz.ntmps92
 go_wp2_with fail
 refine (EO.out _ H7.out).mono ?_
 rintro e w1 ⟨rfl, hb⟩
 go_wp2_with fail
 go_ret2
 exact Vb.mk rfl hb
theorem Put_in {w : World} {F : Nat -> Prop} {g : Nat} {s : St} (h : Stt w F g s) (i : Nat) (x y : Int) (hx : s.A[i]? = some x) : Calls Tryz.prog 98 #[P_ g, I_ (i : Nat), I_ y] w (Sp w F g { s with A := s.A.set i y } .nilIface) := by
 obtain ⟨vP, vM, vC, vA, vs, h⟩ := h
 have hi : i < s.A.length := (G_ hx)
 obtain ⟨b, c, e, hc, hm⟩ := Zq h.ato (by omega)
 have hsm := h.small
 obtain ⟨n, hn⟩ : ∃ n, n = s.A.length := ⟨_, rfl⟩
 rw [← hn] at e hi hc
 have hn32 : n <= 32 := by omega
 subst e
 have HN := Za hn
 have c1 := h.cells.2.2.2
 obtain ⟨d1, d2⟩ := Zk h.ato i _ (nts_at hx)
 have SM := Za (h.setA hn i y)
 have hl := (h.fb b (h.fA b rfl))
 clear h hsm hc hm hn
 go_enter Tryz.func98, Tryz.ntmps98
 go_wp2_with fail
 refine (in_syncelementint b n c i _ hi).mono ?_
 rintro e w1 ⟨rfl, rfl⟩
 go_wp2_with fail
 go_ret
 exact Sp.mk rfl ⟨_, _, _, _, _, SM.out.1⟩ SM.out.2
theorem Add_in {w : World} {F : Nat -> Prop} {g : Nat} {s : St} (h : Stt w F g s) (i : Nat) (x y : Int) (hx : s.A[i]? = some x) : Calls Tryz.prog 99 #[P_ g, I_ (i : Nat), I_ y] w (Sp w F g { s with A := s.A.set i (wrap64 (x + y)) } .nilIface) := by
 obtain ⟨vP, vM, vC, vA, vs, h⟩ := h
 have hi : i < s.A.length := (G_ hx)
 obtain ⟨b, c, e, hc, hm⟩ := Zq h.ato (by omega)
 have hsm := h.small
 obtain ⟨n, hn⟩ : ∃ n, n = s.A.length := ⟨_, rfl⟩
 rw [← hn] at e hi hc
 have hn32 : n <= 32 := by omega
 subst e
 have HN := Za hn
 have c1 := h.cells.2.2.2
 obtain ⟨d1, d2⟩ := Zk h.ato i _ (nts_at hx)
 have SM := Za (h.setA hn i (wrap64 (x + y)))
 have hl := (h.fb b (h.fA b rfl))
 clear h hsm hc hm hn
 go_enter Tryz.func99, Tryz.ntmps99
 go_wp2_with fail
 refine (in_syncelementint b n c i _ hi).mono ?_
 rintro e w1 ⟨rfl, rfl⟩
 go_wp2_with fail
 go_ret
 exact Sp.mk rfl ⟨_, _, _, _, _, SM.out.1⟩ SM.out.2
theorem Len_in {w : World} {F : Nat -> Prop} {g : Nat} {s : St} (h : Stt w F g s) (i : Nat) (q : Qu) (hx : s.C[i]? = some q) : Calls Tryz.prog 66 #[P_ g, I_ (i : Nat)] w fun e w' => e = .returned (I_ (q.l.length : Nat)) /\ w = w' := by
 obtain ⟨vP, vM, vC, vA, vs, h⟩ := h
 have hi : i < s.C.length := (G_ hx)
 obtain ⟨b, c, e, hc, hm⟩ := Zq h.ch (by omega)
 have hsm := h.small
 obtain ⟨n, hn⟩ : ∃ n, n = s.C.length := ⟨_, rfl⟩
 rw [← hn] at e hi hc
 have hn32 : n <= 32 := by omega
 subst e
 have HN := Za hn
 have c1 := h.cells.2.2.1
 have hvi : i < vs.length := by rw [h.len]; omega
 obtain ⟨vq, hv⟩ : ∃ v, vs[i]? = some v := ⟨_, List.getElem?_eq_getElem hvi⟩
 obtain ⟨oq, fq⟩ := h.q i q vq hx hv
 obtain ⟨aq, cq, eq, hcq, hmq⟩ := Zl oq
 obtain ⟨o, ho⟩ : ∃ o, o = 3 * i := ⟨_, rfl⟩
 obtain ⟨q0, q1, q2⟩ := qcs_at _ _ _ _ _ hx hv
 rw [← ho] at q0 q1 q2
 obtain ⟨d0, f0⟩ := Zk h.ch _ _ q0
 obtain ⟨d1, f1⟩ := Zk h.ch _ _ q1
 obtain ⟨d2, f2⟩ := Zk h.ch _ _ q2
 have HO := Za ho
 have hl := h.fb b (h.fC b rfl)
 have hgl := h.fb g h.fg
 rw [eq] at d2
 clear h hsm hc hm hn eq oq fq hv hvi q0 q1 q2 ho
 go_enter Tryz.func66, Tryz.ntmps66
 go_wp2_with fail
 refine (ZP b n c i o _ hi HO).mono ?_
 rintro e w1 ⟨rfl, rfl⟩
 go_wp2_with fail
 go_ret
 exact ⟨rfl, rfl⟩
theorem Len_out {w : World} {F : Nat -> Prop} {g : Nat} {s : St} (h : Stt w F g s) {p : List Addr} (h17 : E2 w p) (i : Int) (hi : i < 0 ∨ (s.C.length : Int) <= i) : Calls Tryz.prog 66 #[P_ g, I_ i] w (Vb w (I_ 0)) := by
 obtain ⟨vP, vM, vC, vA, vs, h⟩ := h
 obtain ⟨a, c, e, hc, hm⟩ := Zl h.ch
 subst e
 obtain ⟨n, hn⟩ : ∃ n, n = s.C.length := ⟨_, rfl⟩
 rw [← hn] at hi
 have c1 := h.cells.2.2.1
 rw [← hn] at c1
 have EO := Za (fun w' (h17 : E2 w' p) => YC a n c i w' h17 hi)
 have H7 := Za h17
 unfold errV at *
 generalize adr p 0 = ad at *
 clear h hc hm hi hn h17
 go_enter Tryz.func66, Tryz.ntmps66
 go_wp2_with fail
 refine (EO.out _ H7.out).mono ?_
 rintro e w1 ⟨rfl, hb⟩
 go_wp2_with fail
 go_ret
 exact Vb.mk rfl hb
theorem Room_in {w : World} {F : Nat -> Prop} {g : Nat} {s : St} (h : Stt w F g s) (i : Nat) (q : Qu) (hx : s.C[i]? = some q) : Calls Tryz.prog 69 #[P_ g, I_ (i : Nat)] w fun e w' => e = .returned (I_ q.room) /\ w = w' := by
 obtain ⟨vP, vM, vC, vA, vs, h⟩ := h
 have hi : i < s.C.length := (G_ hx)
 obtain ⟨b, c, e, hc, hm⟩ := Zq h.ch (by omega)
 have hsm := h.small
 obtain ⟨n, hn⟩ : ∃ n, n = s.C.length := ⟨_, rfl⟩
 rw [← hn] at e hi hc
 have hn32 : n <= 32 := by omega
 subst e
 have HN := Za hn
 have c1 := h.cells.2.2.1
 have hvi : i < vs.length := by rw [h.len]; omega
 obtain ⟨vq, hv⟩ : ∃ v, vs[i]? = some v := ⟨_, List.getElem?_eq_getElem hvi⟩
 obtain ⟨oq, fq⟩ := h.q i q vq hx hv
 obtain ⟨aq, cq, eq, hcq, hmq⟩ := Zl oq
 obtain ⟨o, ho⟩ : ∃ o, o = 3 * i := ⟨_, rfl⟩
 obtain ⟨q0, q1, q2⟩ := qcs_at _ _ _ _ _ hx hv
 rw [← ho] at q0 q1 q2
 obtain ⟨d0, f0⟩ := Zk h.ch _ _ q0
 obtain ⟨d1, f1⟩ := Zk h.ch _ _ q1
 obtain ⟨d2, f2⟩ := Zk h.ch _ _ q2
 have HO := Za ho
 have hl := h.fb b (h.fC b rfl)
 have hgl := h.fb g h.fg
 clear h hsm hc hm hn eq oq fq hv hvi q0 q1 q2 ho
 go_enter Tryz.func69, Tryz.ntmps69
 go_wp2_with fail
 refine (ZP b n c i o _ hi HO).mono ?_
 rintro e w1 ⟨rfl, rfl⟩
 go_wp2_with fail
 go_ret
 exact ⟨rfl, rfl⟩
theorem ret_ve {fn : Func} {R : Ending -> World -> Prop} {a : Act} {w : World} {p q : Tmp} (g : Nat) {t n b : Int} {ev : Value} (hf : fn.results = #[.cell p 64, .tmp q]) (hp : a.tmps.getD p undef = P_ g) (hq : a.tmps.getD q undef = ev)
    (h : Val w g t n b) (hdf : a.defers = []) (hR : R (.returned (.tuple #[.agg #[I_ t, I_ n, .int .u64 b], ev])) w) : bodyPost Tryz.prog fn R .ret a w :=
  bodyPost_ret (by
    have hp' : a.tmps[p]?.getD undef = P_ g := by simpa using hp
    have hq' : a.tmps[q]?.getD undef = ev := by simpa using hq
    obtain ⟨_, c0, c1, c2⟩ := h.all
    simp [results, hf, hp', hq', go_sem, c0, c1, c2]) hdf hR
theorem Read_in {w : World} {F : Nat -> Prop} {g : Nat} {s : St} (h : Stt w F g s) (i : Nat) (x : V3) (hx : s.P[i]? = some x) : Calls Tryz.prog 86 #[P_ g, I_ (i : Nat)] w (Vb w (.tuple #[.agg #[I_ x.1, I_ x.2.1, .int .u64 x.2.2], .nilIface])) := by
 obtain ⟨vP, vM, vC, vA, vs, h⟩ := h
 have hi : i < s.P.length := (G_ hx)
 obtain ⟨b, c, e, hc, hm⟩ := Zq h.pl (by omega)
 have hsm := h.small
 obtain ⟨n, hn⟩ : ∃ n, n = s.P.length := ⟨_, rfl⟩
 rw [← hn] at e hi hc
 have hn32 : n <= 128 := by omega
 subst e
 have HN := Za hn
 have c1 := h.cells.1
 obtain ⟨x0, x1, x2⟩ := x
 obtain ⟨o, ho⟩ : ∃ o, o = 3 * i := ⟨_, rfl⟩
 obtain ⟨q0, q1, q2⟩ := vcs_at _ _ _ hx
 rw [← ho] at q0 q1 q2
 obtain ⟨d0, f0⟩ := Zk h.pl _ _ q0
 obtain ⟨d1, f1⟩ := Zk h.pl _ _ q1
 obtain ⟨d2, f2⟩ := Zk h.pl _ _ q2
 have HO := Za ho
 have hl := h.fb b (h.fP b rfl)
 have hgl := h.fb g h.fg
 simp only at d0 d1 d2
 clear h hsm hc hm hn q0 q1 q2 ho
 go_enter Tryz.func86, Tryz.ntmps86
 go_wp2_with fail
 refine (in_syncelementapiValue b n c i o _ hi HO).mono ?_
 rintro e w1 ⟨rfl, rfl⟩
 go_wp2_with fail
 exact ret_ve w.heap.size rfl rfl rfl (Val.new w _ _ _) rfl (Vb.mk rfl (Zd _ _))
theorem Read_out {w : World} {F : Nat -> Prop} {g : Nat} {s : St} (h : Stt w F g s) {p : List Addr} (h17 : E2 w p) (i : Int) (hi : i < 0 ∨ (s.P.length : Int) <= i) : Calls Tryz.prog 86 #[P_ g, I_ i] w (Vb w (.tuple #[.agg #[I_ 0, I_ 0, .int .u64 0], errV p 0])) := by
 obtain ⟨vP, vM, vC, vA, vs, h⟩ := h
 obtain ⟨a, c, e, hc, hm⟩ := Zl h.pl
 subst e
 obtain ⟨n, hn⟩ : ∃ n, n = s.P.length := ⟨_, rfl⟩
 rw [← hn] at hi
 have c1 := h.cells.1
 rw [← hn] at c1
 have EO := Za (fun w' (h17 : E2 w' p) => out_syncelementapiValue a n c i w' h17 hi)
 have H7 := Za h17
 unfold errV at *
 generalize adr p 0 = ad at *
 have HGL := Za (h.fb g h.fg)
 clear h hc hm hi hn h17
 have H7a := Za (H7.out.below (Nat.le_refl _) (Zd w (.cells #[I_ 0, I_ 0, .int .u64 0] 64)))
 have hgl := HGL.out
 have V0 := Za (Val.new w 0 0 0)
 go_enter Tryz.func86, Tryz.ntmps86
 go_wp2_with fail
 refine (EO.out _ H7a.out).mono ?_
 rintro e w1 ⟨rfl, hb⟩
 have V1 := V0.out.al hb
 obtain ⟨⟨f0, f1, f2⟩, v0, v1, v2⟩ := V1.all
 go_wp2_with fail
 exact ret_ve w.heap.size rfl rfl rfl (V1.set 0 0 0) rfl (Vb.mk rfl (Zt (Zg (Zd _ _) hb) (Nat.le_refl _) _ _ _))
theorem Write_in {w : World} {F : Nat -> Prop} {g : Nat} {s : St} (h : Stt w F g s) {p : List Addr} (h17 : E2 w p) (i : Nat) (x : V3) (hx : s.P[i]? = some x) (t m z : Int) (hB : isB t m z x.1 = true) : Calls Tryz.prog 93 #[P_ g, I_ (i : Nat), .agg #[I_ t, I_ m, .int .u64 z]] w (Sp w F g { s with P := s.P.set i (t, m, z) } .nilIface) := by
 obtain ⟨vP, vM, vC, vA, vs, h⟩ := h
 have hi : i < s.P.length := (G_ hx)
 obtain ⟨b, c, e, hc, hm⟩ := Zq h.pl (by omega)
 have hsm := h.small
 obtain ⟨n, hn⟩ : ∃ n, n = s.P.length := ⟨_, rfl⟩
 rw [← hn] at e hi hc
 have hn32 : n <= 128 := by omega
 subst e
 have HN := Za hn
 have c1 := h.cells.1
 obtain ⟨x0, x1, x2⟩ := x
 obtain ⟨o, ho⟩ : ∃ o, o = 3 * i := ⟨_, rfl⟩
 have HO := Za ho
 have hgl := h.fb g h.fg
 have hbl := h.fb b (h.fP b rfl)
 simp only at hB
 have IS : ∀ wx, Calls Tryz.prog 108 #[.agg #[I_ t, I_ m, .int .u64 z], I_ x0] wx (Vb wx (.bool true)) := fun wx => by
  have := isOf_any t m z x0 wx
  rw [hB] at this
  exact this
 have W1 := Za (And.intro (h.bel (Zd w (.cells #[I_ t, I_ m, .int .u64 z] 64))) (And.intro (Zd w (.cells #[I_ t, I_ m, .int .u64 z] 64)) (And.intro (Val.new w t m z) (h17.below (Nat.le_refl _) (Zd w (.cells #[I_ t, I_ m, .int .u64 z] 64))))))
 have HX := Za hx
 have HGE := Za hbl
 clear h hsm hc hm hn h17 hB ho hx
 go_enter Tryz.func93, Tryz.ntmps93
 go_wp2_with fail
 refine (in_syncelementapiValue b n c i o _ hi HO).mono ?_
 rintro e w1 ⟨rfl, rfl⟩
 go_wp2_with fail
 generalize w.alloc _ = w1 at *
 obtain ⟨h1, hb1, V1, x1'⟩ := W1.out
 obtain ⟨q0, q1, q2⟩ := vcs_at _ _ _ HX.out
 rw [← HO.out] at q0 q1 q2
 have d0 := (Zk h1.pl _ _ q0).1
 obtain ⟨_, v0, v1, v2⟩ := V1.all
 simp only at d0
 have K1 := Za (And.intro h1 (And.intro hb1 (And.intro V1 x1')))
 clear W1 h1 hb1 V1 x1' q0 q1 q2 c1
 go_region_held3 (fun w' => (w'.cell? ⟨w.heap.size, 0, none⟩ = some (I_ t) /\ w'.cell? ⟨w.heap.size, 1, none⟩ = some (I_ m) /\ w'.cell? ⟨w.heap.size, 2, none⟩ = some (.int .u64 z)) /\ w'.cell? ⟨b, o, none⟩ = some (I_ x0)) (first | (exact ⟨⟨by assumption, by assumption, by assumption⟩, by assumption⟩)) (first | (go_at_call 108; refine (IS _).mono ?_; rintro e w2 ⟨rfl, hb⟩; replace hb : Below w1.heap.size w1 w2 := ⟨hb.os, hb.tape, hb.output, hb.size, hb.block⟩; have K2 := Za (And.intro (K1.out.1.bel hb) (And.intro (Zg K1.out.2.1 hb) (And.intro (K1.out.2.2.1.al hb) (K1.out.2.2.2.below (Nat.le_refl _) hb)))); obtain ⟨_, v0', v1', v2'⟩ := K2.out.2.2.1.all; have d0' : w2.cell? ⟨b, o, none⟩ = some (I_ x0) := (hb.cell (p := ⟨b, o, none⟩) (K1.out.1.fb b (K1.out.1.fP b rfl))).trans d0))
 obtain ⟨q0, q1, q2⟩ := vcs_at _ _ _ HX.out
 rw [← HO.out] at q0 q1 q2
 obtain ⟨e0, f0⟩ := Zk K2.out.1.pl _ _ q0
 obtain ⟨e1, f1⟩ := Zk K2.out.1.pl _ _ q1
 obtain ⟨e2, f2⟩ := Zk K2.out.1.pl _ _ q2
 have SP := K2.out.1.setP HN.out i (t, m, z)
 rw [← HO.out] at SP
 have SP2 := Za SP
 clear SP q0 q1 q2
 go_wp2_with fail
 go_ret
 exact Sp.mk rfl ⟨_, _, _, _, _, SP2.out.1⟩ ((Ch.of_bel K2.out.2.1).trans SP2.out.2)
end Go.Proofs.YtfojninaginnoaaGreatDoor.Ck
