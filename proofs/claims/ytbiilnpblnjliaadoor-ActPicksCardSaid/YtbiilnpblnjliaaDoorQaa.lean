/- Texts of this proof, packed: contracts of the program's functions, and the plain model that they are held against. -/
import Derived.Test.YtbiilnpblnjliaaDoorChecked
import Derived.WalkKit
import Derived.Outline
import Derived.BigQuiet
import Derived.Deep.QuietTactic
import Derived.WalkSmall
import Derived.Deep.OwnRows
import Derived.Test.YtbiilnpblnjliaaDoorRows
import Derived.LaidMore
import Derived.MakeChecks
import Derived.Stop.LaidErr
import Derived.Stop.Joined
import Derived.LaidEql
import Derived.Stop.Asserts
import Derived.WalkLawsBesides
import Derived.LaidEqlPtr
/- Slices of ints in memory, by the list that they hold; no Go text is walked here. -/
namespace Go.Proofs.YtbiilnpblnjliaaDoor.Ck
open Go.RowKit

def Fits (c : List Int) : Prop := ∀ z ∈ c, -9223372036854775808 ≤ z ∧ z ≤ 9223372036854775807

/-- a slice value that holds the list zs in the world w -/
def Sl (w : World) (v : Value) (zs : List Int) : Prop :=
  Fits zs ∧ ∃ a cap, v = .slice a zs.length cap ∧ zs.length ≤ cap ∧ cap ≤ maxLen ∧
    ∀ i, i < zs.length → ∃ b off, a = some ⟨b, off, none⟩ ∧ b < w.heap.size ∧ w.cell? ⟨b, off + i, none⟩ = some (.int .i64 (zs.getD i 0))

theorem Sl.below {w w' : World} {v : Value} {zs : List Int} (h : Sl w v zs) {B : Nat} (hB : w.heap.size ≤ B) (hb : Below B w w') : Sl w' v zs := by
  obtain ⟨hf, a, cap, hv, h1, h2, h3⟩ := h
  refine ⟨hf, a, cap, hv, h1, h2, fun i hi => ?_⟩
  obtain ⟨b, off, ha, hlt, hc⟩ := h3 i hi
  exact ⟨b, off, ha, Nat.lt_of_lt_of_le hlt hb.size, by rw [hb.cell (p := ⟨b, off + i, none⟩) (Nat.lt_of_lt_of_le hlt hB)]; exact hc⟩

theorem bel_trans {w w1 w2 : World} (h : Below w.heap.size w w1) (h2 : Below w1.heap.size w1 w2) : Below w.heap.size w w2 := h.trans (h2.mono h.size)
theorem bel_al {w w1 : World} (h : Below w.heap.size w w1) (o : Obj) : Below w.heap.size w (w1.alloc o) := h.alloc h.size o
theorem bel_new (w : World) (o : Obj) : Below w.heap.size w (w.alloc o) := (Below.refl _ _).alloc (Nat.le_refl _) o

/-- a row of the call's own, read as a slice -/
theorem Sl.of_row {w : World} {b : Nat} {t : TypeId} {n : Nat} {f : Nat → Value} {zs : List Int} (h : w.rowIs b t n f) (hn : zs.length ≤ n) (hm : n ≤ maxLen) (hf : Fits zs)
    (he : ∀ i, i < zs.length → f i = .int .i64 (zs.getD i 0)) : Sl w (.slice (some ⟨b, 0, none⟩) zs.length n) zs :=
  ⟨hf, _, _, rfl, hn, hm, fun i hi => ⟨b, 0, rfl, h.lt, by rw [Nat.zero_add, h.cell (Nat.lt_of_lt_of_le hi hn), he i hi]⟩⟩

theorem Sl.nilS (w : World) : Sl w (.slice none 0 0) [] :=
  ⟨fun _ h => (by cases h), none, 0, rfl, Nat.le_refl _, Nat.zero_le _, fun _ h => absurd h (Nat.not_lt_zero _)⟩

theorem Sl.fits {w : World} {v : Value} {zs : List Int} (h : Sl w v zs) : Fits zs := h.1
theorem Sl.slice {w : World} {v : Value} {zs : List Int} (h : Sl w v zs) : ∃ a n c, v = .slice a n c ∧ n = zs.length := by
  obtain ⟨_, a, c, rfl, _⟩ := h
  exact ⟨_, _, _, rfl, rfl⟩
theorem Sl.len {W : World} {a : Option Addr} {len cap : Nat} {zs : List Int} (h : Sl W (.slice a len cap) zs) : len = zs.length := by
  obtain ⟨_, a', c', e, _⟩ := h
  cases e
  rfl
theorem Sl.at {w : World} {a : Option Addr} {n c : Nat} {zs : List Int} (h : Sl w (.slice a n c) zs) (i : Nat) (hi : i < n) :
    ∃ b off, a = some ⟨b, off, none⟩ ∧ b < w.heap.size ∧ w.cell? ⟨b, off + i, none⟩ = some (.int .i64 (zs.getD i 0)) := by
  obtain ⟨_, a', c', e, _, _, hc⟩ := h
  cases e
  exact hc i hi
theorem ret_int {k : IntKind} {a b : Int} (h : a = b) : Ending.returned (.int k a) = .returned (.int k b) := by rw [h]
theorem ret_slice {a : Option Addr} {n m c : Nat} (h : n = m) : Ending.returned (.slice a n c) = .returned (.slice a m c) := by rw [h]
theorem ret_bool {a b : Bool} (h : a = b) : Ending.returned (.bool a) = .returned (.bool b) := by rw [h]
theorem info3 : (Tryd.prog.info? 3).map (fun i => (i.zero, i.size, i.bytes)) = some (some (.int .i64 0), 1, 8) := by kernel_rfl
theorem Sl.built {w : World} (xs : List Int) (hf : Fits xs) (hl : xs.length ≤ 1000) :
    Sl (w.alloc (.cells (xs.map (Value.int .i64)).toArray 3)) (.slice (some ⟨w.heap.size, 0, none⟩) xs.length xs.length) xs := by
  refine Sl.of_row (t := 3) (f := fun i => .int .i64 (xs.getD i 0)) ⟨_, Go.Deep.blk_alloc_new _ _, by simp, fun i hi => ?_⟩ (Nat.le_refl _) (by unfold maxLen; omega) hf (fun i _ => rfl)
  simp [List.getD, hi]


end Go.Proofs.YtbiilnpblnjliaaDoor.Ck

/- Facts on the program that a row's listed variables ask for. -/
namespace Go.Proofs.YtbiilnpblnjliaaDoor.Ck
open Go.ChangeShapes Go.WideShapes Go.RowKit

theorem own : ownKnob Tryd.prog.godebug = none := by kernel_rfl
theorem laidOut : laidOutB Tryd.prog = true := by kernel_rfl
theorem star : "*" ++ "errors.errorString" = "*errors.errorString" := by decide
theorem rowEs (u : TypeId) (h : Tryd.prog.typeName? 3 u = some "*errors.errorString") : u = 221 :=
  typeName_ptr_named (nm := "errors.errorString") (by rw [star]; kernel_rfl) (by kernel_rfl) (by decide) u (by rw [star]; exact h)
theorem cellsEs : Tryd.prog.cellsOf 246 = 1 := by kernel_rfl
theorem cells9 : Tryd.prog.cellsOf 9 = 1 := by kernel_rfl

end Go.Proofs.YtbiilnpblnjliaaDoor.Ck

/- What a list of sentinel errors among the row's variables gives: each variable holds a pointer of its own, and no two are one. -/
namespace Go.Proofs.YtbiilnpblnjliaaDoor.Ck
open Go.ChangeShapes Go.WideShapes Go.RowKit

def sentD (t : List UInt8) : DataW Unit := .iface "*errors.errorString" (.ptr (.agg [.lit (.string t)]))

/-- each of the variables gs holds the pointer of the list's place, and the row behind it may be written -/
def Sents (W : World) : List Nat → List Addr → Prop
  | [], [] => True
  | g :: gs, a :: av => (g < W.heap.size ∧ W.cell? ⟨g, 0, none⟩ = some (.iface 221 (.pointer (some a))) ∧ ∃ c t, W.heap[a.block]? = some (.cells c t (0, 0))) ∧ Sents W gs av
  | _, _ => False

theorem Sents.at {W : World} {gs : List Nat} {av : List Addr} (h : Sents W gs av) (i : Nat) (hi : i < gs.length) :
    (gs.getD i 0 < W.heap.size ∧ W.cell? ⟨gs.getD i 0, 0, none⟩ = some (.iface 221 (.pointer (some (av.getD i ⟨0, 0, none⟩)))) ∧ ∃ c t, W.heap[(av.getD i ⟨0, 0, none⟩).block]? = some (.cells c t (0, 0))) := by
  induction gs generalizing av i with
  | nil => exact absurd hi (Nat.not_lt_zero _)
  | cons g gs ih =>
    cases av with
    | nil => exact absurd h (fun h => h)
    | cons a av =>
      cases i with
      | zero => exact h.1
      | succ i => exact ih h.2 i (by simpa using hi)
theorem Sents.len {W : World} {gs : List Nat} {av : List Addr} (h : Sents W gs av) : av.length = gs.length := by
  induction gs generalizing av with
  | nil => cases av with
    | nil => rfl
    | cons a av => exact absurd h (fun h => h)
  | cons g gs ih => cases av with
    | nil => exact absurd h (fun h => h)
    | cons a av => simp [ih h.2]

def placeOf (a : Addr) : MemPlace := .cell a.block a.off

set_option maxRecDepth 100000 in
theorem sents_of {W : World} (l : List (String × List UInt8)) (gs : List Nat) (ps : List MemPlace) (hlen : l.length = gs.length)
    (hg : ∀ i, i < l.length → Tryd.prog.globalNamed (l.getD i ("", [])).1 = some (gs.getD i 0) ∧ (Tryd.prog.globals[gs.getD i 0]?).map (·.type) = some 30)
    (h : DataW.LaidVars Tryd.prog W (l.map fun x => (x.1, sentD x.2)) ps)
    (hrows : ∀ b off, MemPlace.cell b off ∈ ps → (∃ c t, W.heap[b]? = some (.cells c t (0, 0))) ∧ ∀ u v, W.cell? ⟨b, off, none⟩ = some (.iface u v) → Value.okWide Tryd.prog W .any 0 u v) :
    ∃ av, Sents W gs av ∧ (av.map placeOf).Sublist ps := by
  induction l generalizing gs ps with
  | nil =>
    cases gs with
    | nil => exact ⟨[], trivial, by simp⟩
    | cons g gs => simp at hlen
  | cons x l ih =>
    cases gs with
    | nil => simp at hlen
    | cons g gs =>
      obtain ⟨g0, t0, cs0, f0, p0, q0, hg0, ht0, hv0, hd0, hq0, e0⟩ := h
      have h0 := hg 0 (by simp)
      simp at h0
      obtain rfl := Option.some.inj (h0.1.symm.trans hg0)
      have ht : t0 = 30 := by
        have h1 := ht0
        simp only [Option.map_eq_some_iff] at h1
        obtain ⟨gl, hgl, hgt⟩ := h1
        obtain ⟨gl', hgl', hgt'⟩ := h0.2
        rw [hgl] at hgl'
        cases hgl'
        exact hgt.symm.trans hgt'
      subst ht
      subst e0
      obtain ⟨l0⟩ := cs0
      obtain ⟨a, s0, rfl, hc0, _, _, rfl⟩ := errorString_of_trod Tryd.underlying30 rowEs Tryd.underlying221 Tryd.underlying246 rfl rfl Tryd.underlying9 cellsEs cells9 hd0 (fun u v e => by
        subst e
        exact (hrows g 0 (by simp [MemPlace.row])).2 u v (by simpa using World.var?_cell hg0 hv0 0))
      have hcell := World.var?_cell hg0 hv0 0
      obtain ⟨c, t, hb⟩ := (hrows a.block a.off (by simp [MemPlace.row])).1
      obtain ⟨av, hs, hsub⟩ := ih gs q0 (by simpa using hlen) (fun i hi => by simpa using hg (i + 1) (by simpa using hi)) hq0 (fun b off hm => hrows b off (List.mem_append_right _ hm))
      refine ⟨a :: av, ⟨⟨?_, by simpa using hcell, c, t, hb⟩, hs⟩, ?_⟩
      · rcases Nat.lt_or_ge g W.heap.size with h' | h'
        · exact h'
        · simp [World.cell?, Array.getElem?_eq_none h'] at hcell
      · have e1 : (placeOf a :: av.map placeOf).Sublist (MemPlace.row a 1 ++ q0) := by
          have : MemPlace.row a 1 = [placeOf a] := by simp [MemPlace.row, placeOf]
          rw [this]
          exact List.Sublist.cons_cons _ hsub
        rw [List.append_assoc]
        exact List.Sublist.trans e1 (List.sublist_append_right _ _)

end Go.Proofs.YtbiilnpblnjliaaDoor.Ck

/- errors.Is at two pointers of errors.New's make: true just where they are one. -/
namespace Go.Proofs.YtbiilnpblnjliaaDoor.Ck
open Go.RowKit

theorem callTypeOf (v : Value) (w : World) : (callFunc 81 #[.iface 221 v]).run Tryd.prog w = .ok (.value (.iface 196 (.agg #[.pointer (some ⟨17, 221, none⟩)]))) w := by kernel_rfl
theorem callComparable (w : World) : (callFunc 138 #[.agg #[.pointer (some ⟨17, 221, none⟩)]]).run Tryd.prog w = .ok (.value (.bool true)) w := by kernel_rfl
theorem methodComparable (v : Value) (w : World) : (Go.method 358 196 v "Comparable").run Tryd.prog w = .ok (138, v) w := by kernel_rfl
theorem isComp : (Tryd.prog.info? 221).map (·.comparable) = some true := by kernel_rfl
theorem isSize : (Tryd.prog.info? 246).map (·.size) = some 1 := by kernel_rfl
theorem noIsE (v : Value) (xT : TypeId) (w : World) : (Instr.typeAssert (.iface 221 v) xT 198 true).run Tryd.prog w = .ok (.tuple #[.nilIface, .bool false]) w := run_typeAssert_lacksB Tryd.underlying198 (by kernel_rfl) (by kernel_rfl) v xT w
theorem noUnwrapE (v : Value) (xT : TypeId) (w : World) : (Instr.typeAssert (.iface 221 v) xT 201 true).run Tryd.prog w = .ok (.tuple #[.nilIface, .bool false]) w := run_typeAssert_lacksB Tryd.underlying201 (by kernel_rfl) (by kernel_rfl) v xT w
theorem noUnwrapsE (v : Value) (xT : TypeId) (w : World) : (Instr.typeAssert (.iface 221 v) xT 203 true).run Tryd.prog w = .ok (.tuple #[.nilIface, .bool false]) w := run_typeAssert_lacksB Tryd.underlying203 (by kernel_rfl) (by kernel_rfl) v xT w

theorem is_same (a : Addr) (w : World) :
    Calls Tryd.prog 40 #[.iface 221 (.pointer (some a)), .iface 221 (.pointer (some a))] w fun e w' => e = .returned (.bool true) ∧ w = w' := by
  obtain ⟨i, hi, hcmp⟩ := Option.map_eq_some_iff.1 isComp
  obtain ⟨j, hj, hjs⟩ := Option.map_eq_some_iff.1 isSize
  have h8 := callTypeOf
  have h32 := callComparable
  have mR := methodComparable
  have heq := run_eql_iface_ptr_same (P := Tryd.prog) w a Tryd.underlying30 Tryd.underlying221 hi hcmp hj
  go_enter Tryd.func40, Tryd.ntmps40
  go_wp2
  refine wp_loop_rounds 1 ?_
  rw [rounds_succ]
  go_wp2
  go_ret
  exact ⟨rfl, rfl⟩

theorem is_other (a b : Addr) (ca cb : Array Value) (ta tb : TypeId) (w : World) (hne : a ≠ b) (ha : w.heap[a.block]? = some (.cells ca ta (0, 0))) (hb : w.heap[b.block]? = some (.cells cb tb (0, 0))) :
    Calls Tryd.prog 40 #[.iface 221 (.pointer (some a)), .iface 221 (.pointer (some b))] w fun e w' => e = .returned (.bool false) ∧ w = w' := by
  obtain ⟨i, hi, hcmp⟩ := Option.map_eq_some_iff.1 isComp
  obtain ⟨j, hj, hjs⟩ := Option.map_eq_some_iff.1 isSize
  have h8 := callTypeOf
  have h32 := callComparable
  have mR := methodComparable
  have nE := noIsE
  have uE := noUnwrapE
  have vE := noUnwrapsE
  have heq := run_eql_iface_ptr_other (P := Tryd.prog) w Tryd.underlying30 Tryd.underlying221 hi hcmp hj (by rw [hjs]; decide) hne ha hb
  go_enter Tryd.func40, Tryd.ntmps40
  go_wp2
  refine wp_loop_rounds 1 ?_
  rw [rounds_succ]
  go_wp2
  go_ret
  exact ⟨rfl, rfl⟩

end Go.Proofs.YtbiilnpblnjliaaDoor.Ck

/- The contract of the statements' own Num: the number of a sentinel error is its place in the document's table. -/
namespace Go.Proofs.YtbiilnpblnjliaaDoor.Ck
open Go.RowKit

/-- the variables' numbers, in the order of the document's table -/
def gl : List Nat := [0, 1, 2, 3, 4, 5, 6, 7, 8, 9, 10, 11, 12, 13, 14, 15, 16]
def adr (p : List Addr) (i : Nat) : Addr := p.getD i ⟨0, 0, none⟩
abbrev errV (p : List Addr) (i : Nat) : Value := .iface 221 (.pointer (some (adr p i)))

/-- the package's errors are there, no two of them one -/
structure Errs17 (w : World) (p : List Addr) : Prop where
  sents : Sents w gl p
  nodup : p.Nodup

theorem Sents.below {w w' : World} {B : Nat} (hB : w.heap.size ≤ B) (hb : Below B w w') {gs : List Nat} {p : List Addr} (h : Sents w gs p) : Sents w' gs p := by
  induction gs generalizing p with
  | nil => cases p with
    | nil => trivial
    | cons a p => exact h
  | cons g gs ih => cases p with
    | nil => exact h
    | cons a p =>
      obtain ⟨⟨h1, h2, c, t, h3⟩, h4⟩ := h
      have hlt : a.block < w.heap.size := by
        rcases Nat.lt_or_ge a.block w.heap.size with h' | h'
        · exact h'
        · simp [Array.getElem?_eq_none h'] at h3
      exact ⟨⟨Nat.lt_of_lt_of_le h1 hb.size, by rw [hb.cell (p := ⟨g, 0, none⟩) (Nat.lt_of_lt_of_le h1 hB)]; exact h2, c, t, by rw [hb.block _ (Nat.lt_of_lt_of_le hlt hB)]; exact h3⟩, ih h4⟩
theorem Errs17.below {w w' : World} {p : List Addr} (h : Errs17 w p) {B : Nat} (hB : w.heap.size ≤ B) (hb : Below B w w') : Errs17 w' p := ⟨h.sents.below hB hb, h.nodup⟩

theorem Errs17.ne {w : World} {p : List Addr} (h : Errs17 w p) {i j : Nat} (hi : i < 17) (hj : j < 17) (hij : i ≠ j) : adr p i ≠ adr p j := by
  have hl : p.length = 17 := h.sents.len
  unfold adr
  have e1 : p.getD i ⟨0, 0, none⟩ = p[i]'(by omega) := by simp [List.getD, List.getElem?_eq_getElem (show i < p.length by omega)]
  have e2 : p.getD j ⟨0, 0, none⟩ = p[j]'(by omega) := by simp [List.getD, List.getElem?_eq_getElem (show j < p.length by omega)]
  rw [e1, e2]
  rcases Nat.lt_or_gt_of_ne hij with hlt | hlt
  · exact List.pairwise_iff_getElem.1 h.nodup i j (by omega) (by omega) hlt
  · exact fun e => List.pairwise_iff_getElem.1 h.nodup j i (by omega) (by omega) hlt e.symm
theorem Errs17.row {w : World} {p : List Addr} (h : Errs17 w p) {i : Nat} (hi : i < 17) : ∃ c t, w.heap[(adr p i).block]? = some (.cells c t (0, 0)) := (h.sents.at i hi).2.2
theorem Errs17.cell {w : World} {p : List Addr} (h : Errs17 w p) (i : Nat) (hi : i < 17) : w.cell? ⟨gl.getD i 0, 0, none⟩ = some (errV p i) := (h.sents.at i hi).2.1

theorem num_nil (w : World) : Calls Tryd.prog 10 #[.nilIface] w fun e w' => e = .returned (.int .i64 0) ∧ w = w' := by
  go_enter Tryd.func10, Tryd.ntmps10
  go_wp2
  go_ret
  exact ⟨rfl, rfl⟩

def listV (p : List Addr) : Array Value := #[errV p 0, errV p 1, errV p 2, errV p 3, errV p 4, errV p 5, errV p 6, errV p 7, errV p 8, errV p 9, errV p 10, errV p 11, errV p 12, errV p 13, errV p 14, errV p 15, errV p 16]
theorem listV_at (p : List Addr) (k : Nat) (h : k < 17) : (listV p)[k]? = some (errV p k) := by
  have : k = 0 ∨ k = 1 ∨ k = 2 ∨ k = 3 ∨ k = 4 ∨ k = 5 ∨ k = 6 ∨ k = 7 ∨ k = 8 ∨ k = 9 ∨ k = 10 ∨ k = 11 ∨ k = 12 ∨ k = 13 ∨ k = 14 ∨ k = 15 ∨ k = 16 := by omega
  rcases this with h | h | h | h | h | h | h | h | h | h | h | h | h | h | h | h | h <;> subst h <;> rfl

set_option maxHeartbeats 400000 in
theorem num_err (p : List Addr) (j : Nat) (w : World) (he : Errs17 w p) (hj : j < 17) :
    Calls Tryd.prog 10 #[errV p j] w fun e w' => e = .returned (.int .i64 (j + 1)) ∧ Below w.heap.size w w' := by
  have c0 := he.cell 0 (by omega)
  have c1 := he.cell 1 (by omega)
  have c2 := he.cell 2 (by omega)
  have c3 := he.cell 3 (by omega)
  have c4 := he.cell 4 (by omega)
  have c5 := he.cell 5 (by omega)
  have c6 := he.cell 6 (by omega)
  have c7 := he.cell 7 (by omega)
  have c8 := he.cell 8 (by omega)
  have c9 := he.cell 9 (by omega)
  have c10 := he.cell 10 (by omega)
  have c11 := he.cell 11 (by omega)
  have c12 := he.cell 12 (by omega)
  have c13 := he.cell 13 (by omega)
  have c14 := he.cell 14 (by omega)
  have c15 := he.cell 15 (by omega)
  have c16 := he.cell 16 (by omega)
  simp only [gl, List.getD, List.getElem?_cons_zero, List.getElem?_cons_succ, Option.getD_some] at c0 c1 c2 c3 c4 c5 c6 c7 c8 c9 c10 c11 c12 c13 c14 c15 c16
  have hb : Below w.heap.size w (w.alloc (.cells (listV p) 30)) := bel_new w _
  have he2 := he.below (Nat.le_refl _) hb
  have HC : Hid (∀ k, k < 17 → (w.alloc (.cells (listV p) 30)).cell? ⟨w.heap.size, k, none⟩ = some (errV p k)) := fun k hk =>
    (World.rowIs_alloc w (listV p) 30 (errV p) (fun i hi => listV_at p i hi)).cell hk
  have HS : Hid (∀ wx, Calls Tryd.prog 40 #[.iface 221 (.pointer (some (adr p j))), errV p j] wx fun e w' => e = .returned (.bool true) ∧ wx = w') := fun wx => is_same _ wx
  have HO : Hid (∀ k, k < 17 → k ≠ j → Calls Tryd.prog 40 #[.iface 221 (.pointer (some (adr p j))), errV p k] (w.alloc (.cells (listV p) 30)) fun e w' => e = .returned (.bool false) ∧ (w.alloc (.cells (listV p) 30)) = w') := fun k hk hkj => by
    obtain ⟨ca, ta, hca⟩ := he2.row hj
    obtain ⟨cb, tb, hcb⟩ := he2.row hk
    exact is_other _ _ ca cb ta tb _ (he2.ne hj hk (Ne.symm hkj)) hca hcb
  clear he2 he
  go_enter Tryd.func10, Tryd.ntmps10
  go_wp2_with fail
  clear c0 c1 c2 c3 c4 c5 c6 c7 c8 c9 c10 c11 c12 c13 c14 c15 c16
  go_loopw [28] (fun i wr => ∃ k : Nat, k ≤ j ∧ i = .int .i64 k ∧ Hid (wr = w.alloc (.cells (listV p) 30))) (fun i _ => 17 - (intOf i).toNat)
  case atStart => exact ⟨0, Nat.zero_le _, rfl, rfl⟩
  case round =>
    obtain ⟨k, hk, rfl, Hw⟩ := hrel
    have hc : wr.cell? ⟨w.heap.size, k, none⟩ = some (errV p k) := by rw [Hw.out]; exact HC.out k (by omega)
    have hbw : Below w.heap.size w wr := by rw [Hw.out]; exact hb
    have hk17 : (k : Int) < 17 := by omega
    by_cases e : k = j
    · subst e
      clear HO HC hb
      go_wp2_with fail
      refine (HS.out _).mono ?_
      rintro e w' ⟨rfl, rfl⟩
      go_wp2_with fail
      go_ret
      exact ⟨rfl, hbw⟩
    · have ho : Hid (Calls Tryd.prog 40 #[.iface 221 (.pointer (some (adr p j))), errV p k] wr fun e w' => e = .returned (.bool false) ∧ wr = w') := by
        rw [Hw.out]
        exact HO.out k (by omega) e
      clear HO HC hb HS
      go_wp2_with fail
      refine ho.out.mono ?_
      rintro e w' ⟨rfl, rfl⟩
      go_wp2_with fail
      exact ⟨⟨k + 1, by omega, by go_num, Hw⟩, by simp [intOf]; omega⟩

end Go.Proofs.YtbiilnpblnjliaaDoor.Ck

/- Values (api.Value) in memory; package value's calls that package sync makes. (After wip/value's V0, V1, V2.) -/
namespace Go.Proofs.YtbiilnpblnjliaaDoor.Ck
open Go.RowKit

theorem hide {p : Prop} (h : p) : Hid p := h
theorem bel_drawn {n : Nat} {w w' : World} (h : Below n w w') : Below n w w'.drew := ⟨h.os, h.tape, h.output, h.size, h.block⟩
theorem mixed : Tryd.prog.follows .mixedOrders = true := by kernel_rfl
/-- the two errors that package sync answers are there -/
structure E2 (w : World) (p : List Addr) : Prop where
  l0 : 0 < w.heap.size
  l4 : 4 < w.heap.size
  c0 : w.cell? ⟨0, 0, none⟩ = some (errV p 0)
  c4 : w.cell? ⟨4, 0, none⟩ = some (errV p 4)
theorem E2.below {w w' : World} {p : List Addr} (h : E2 w p) {B : Nat} (hB : w.heap.size ≤ B) (hb : Below B w w') : E2 w' p :=
  ⟨Nat.lt_of_lt_of_le h.l0 hb.size, Nat.lt_of_lt_of_le h.l4 hb.size, (hb.cell (p := ⟨0, 0, none⟩) (Nat.lt_of_lt_of_le h.l0 hB)).trans h.c0, (hb.cell (p := ⟨4, 0, none⟩) (Nat.lt_of_lt_of_le h.l4 hB)).trans h.c4⟩
theorem Errs17.e2 {w : World} {p : List Addr} (h : Errs17 w p) : E2 w p := ⟨(h.sents.at 0 (by decide)).1, (h.sents.at 4 (by decide)).1, h.cell 0 (by omega), h.cell 4 (by omega)⟩
theorem blk_cell {w : World} {g : Nat} {c : Array Value} {T : TypeId} {r : Nat × Nat} (h : w.heap[g]? = some (.cells c T r)) (i : Nat) (v : Value) (hv : c[i]? = some v) : w.cell? ⟨g, i, none⟩ = some v := by simp [World.cell?, h, hv]
theorem vf0 (a b c : Value) (w : World) : (Instr.field 41 (.agg #[a, b, c]) 0).run Tryd.prog w = .ok a w := by kernel_rfl
theorem vf1 (a b c : Value) (w : World) : (Instr.field 41 (.agg #[a, b, c]) 1).run Tryd.prog w = .ok b w := by kernel_rfl
theorem vf2 (a b c : Value) (w : World) : (Instr.field 41 (.agg #[a, b, c]) 2).run Tryd.prog w = .ok c w := by kernel_rfl
theorem eqIn_vv (w : World) (a b c a' b' c' : Int) : (Op.equalIn 10000 41 (.agg #[.int .i64 a, .int .i64 b, .int .u64 c]) (.agg #[.int .i64 a', .int .i64 b', .int .u64 c'])).run Tryd.prog w = .ok (a == a' && (b == b' && c == c')) w := by
  have hi : ∀ (x y : Int) (w : World), (Op.equalIn 9999 3 (.int .i64 x) (.int .i64 y)).run Tryd.prog w = .ok (x == y) w := fun x y w => run_equalIn_int w 9998 3 .i64 .i64 x y Tryd.underlying3
  have hu : ∀ (x y : Int) (w : World), (Op.equalIn 9999 39 (.int .u64 x) (.int .u64 y)).run Tryd.prog w = .ok (x == y) w := fun x y w => run_equalIn_int w 9998 39 .u64 .u64 x y Tryd.underlying39
  have e : Tryd.prog.underlying 41 = some (.struct (Tryd.prog.fieldsOf 41)) := by kernel_rfl
  rw [show (10000 : Nat) = 9999 + 1 from rfl, run_equalIn_agg w 9999 41 _ _ e (by kernel_rfl)]
  have hf : (Tryd.prog.fieldsOf 41).toList.map (fun f => (f.name, f.type, f.offset)) = [("Type", 3, 0), ("N", 3, 1), ("Bits", 39, 2)] := by kernel_rfl
  generalize (Tryd.prog.fieldsOf 41).toList = l at hf
  obtain ⟨f1, l1, rfl, h1, hf⟩ := List.map_eq_cons_iff.1 hf
  obtain ⟨f2, l2, rfl, h2, hf⟩ := List.map_eq_cons_iff.1 hf
  obtain ⟨f3, l3, rfl, h3, hf⟩ := List.map_eq_cons_iff.1 hf
  obtain rfl := List.map_eq_nil_iff.1 hf
  simp only [Prod.mk.injEq] at h1 h2 h3
  simp [go_sem, Op.eqFields, h1, h2, h3, hi, hu]
  by_cases ha : a = a' <;> by_cases hb : b = b' <;> by_cases hc : c = c' <;> simp [ha, hb, hc]

theorem eq_vv (w : World) (a b c a' b' c' : Int) : (binOp .eql 41 (.agg #[.int .i64 a, .int .i64 b, .int .u64 c]) (.agg #[.int .i64 a', .int .i64 b', .int .u64 c'])).run Tryd.prog w = .ok (.bool (a == a' && (b == b' && c == c'))) w := by
  rw [run_eql_struct, eqIn_vv]
  rfl
theorem neq_vv (w : World) (a b c a' b' c' : Int) : (binOp .neq 41 (.agg #[.int .i64 a, .int .i64 b, .int .u64 c]) (.agg #[.int .i64 a', .int .i64 b', .int .u64 c'])).run Tryd.prog w = .ok (.bool (!(a == a' && (b == b' && c == c')))) w := by
  rw [run_neq_struct, eqIn_vv]
  rfl

/-- is a value in form? -/
def goodB (t n b : Int) : Bool := (t == 1 && b == 0) || (t == 2 && n == 0) || (t == 3 && (n == 0 || n == 1) && b == 0)
def Vb (w : World) (v : Value) (e : Ending) (w' : World) : Prop := e = .returned v ∧ Below w.heap.size w w'
theorem Vb.mk {w w' : World} {v v' : Value} (h : v = v') (hb : Below w.heap.size w w') : Vb w v' (.returned v) w' := ⟨by rw [h], hb⟩

set_option maxRecDepth 20000 in
set_option maxHeartbeats 1000000 in
theorem good_any (t n b : Int) (w : World) : Calls Tryd.prog 99 #[.agg #[.int .i64 t, .int .i64 n, .int .u64 b]] w (Vb w (.bool (goodB t n b))) := by
  have HB := hide (bel_new w (.cells #[.int .i64 t, .int .i64 n, .int .u64 b] 41))
  obtain ⟨g, hg⟩ : ∃ g, goodB t n b = g := ⟨_, rfl⟩
  rw [hg]
  have HG := hide hg
  clear hg
  by_cases h1 : t = 1
  · subst h1
    go_enter Tryd.func99, Tryd.ntmps99
    go_wp2_with fail
    all_goals
      go_ret
      exact Vb.mk (congrArg Value.bool (by rw [← HG.out]; simp [goodB])) HB.out
  by_cases h2 : t = 2
  · subst h2
    go_enter Tryd.func99, Tryd.ntmps99
    go_wp2_with fail
    all_goals
      go_ret
      exact Vb.mk (congrArg Value.bool (by rw [← HG.out]; simp [goodB])) HB.out
  by_cases h3 : t = 3
  · subst h3
    go_enter Tryd.func99, Tryd.ntmps99
    by_cases h4 : n = 0
    · subst h4
      go_wp2_with fail
      all_goals
        go_ret
        exact Vb.mk (congrArg Value.bool (by rw [← HG.out]; simp [goodB])) HB.out
    by_cases h5 : n = 1
    · subst h5
      go_wp2_with fail
      all_goals
        go_ret
        exact Vb.mk (congrArg Value.bool (by rw [← HG.out]; simp [goodB])) HB.out
    go_wp2_with fail
    all_goals
      go_ret
      exact Vb.mk (congrArg Value.bool (by rw [← HG.out]; simp [goodB, h4, h5])) HB.out
  go_enter Tryd.func99, Tryd.ntmps99
  go_wp2_with fail
  all_goals
    go_ret
    exact Vb.mk (congrArg Value.bool (by rw [← HG.out]; simp [goodB, h1, h2, h3])) HB.out
/-- a variable of a value's type, in block g -/
def Val (w : World) (g : Nat) (t n b : Int) : Prop := w.heap[g]? = some (.cells #[.int .i64 t, .int .i64 n, .int .u64 b] 41 (0, 0))
theorem Val.new (w : World) (t n b : Int) : Val (w.alloc (.cells #[.int .i64 t, .int .i64 n, .int .u64 b] 41)) w.heap.size t n b := Go.Deep.blk_alloc_new _ _
theorem Val.bel {w w' : World} {g N : Nat} {t n b : Int} (h : Val w g t n b) (hb : Below N w w') (hg : g < N) : Val w' g t n b := (hb.block g hg).trans h
theorem Val.lt {w : World} {g : Nat} {t n b : Int} (h : Val w g t n b) : g < w.heap.size := by
  unfold Val at h
  by_cases hg : g < w.heap.size
  · exact hg
  · rw [Array.getElem?_eq_none (by omega)] at h; cases h
theorem Val.al {w w' : World} {g : Nat} {t n b : Int} (h : Val w g t n b) (hb : Below w.heap.size w w') : Val w' g t n b := h.bel hb h.lt
theorem Val.drew {w : World} {g : Nat} {t n b : Int} (h : Val w g t n b) : Val w.drew g t n b := h
theorem Val.all {w : World} {g : Nat} {t n b : Int} (h : Val w g t n b) :
    (w.frozen? ⟨g, 0, none⟩ = false ∧ w.frozen? ⟨g, 1, none⟩ = false ∧ w.frozen? ⟨g, 2, none⟩ = false) ∧ w.cell? ⟨g, 0, none⟩ = some (.int .i64 t) ∧ w.cell? ⟨g, 1, none⟩ = some (.int .i64 n) ∧ w.cell? ⟨g, 2, none⟩ = some (.int .u64 b) := by
  unfold Val at h
  simp [World.frozen?, World.cell?, h]
theorem Val.set {w : World} {g : Nat} {t n b : Int} (h : Val w g t n b) (t' n' b' : Int) : Val (((w.setCell ⟨g, 0, none⟩ (.int .i64 t')).setCell ⟨g, 1, none⟩ (.int .i64 n')).setCell ⟨g, 2, none⟩ (.int .u64 b')) g t' n' b' :=
  heap_setCell_same _ _ _ _ _ _ (heap_setCell_same _ _ _ _ _ _ (heap_setCell_same _ _ _ _ _ _ h))
theorem bel_set {w w2 : World} {N g : Nat} (h : Below N w w2) (hg : N ≤ g) (x y z : Value) : Below N w (((w2.setCell ⟨g, 0, none⟩ x).setCell ⟨g, 1, none⟩ y).setCell ⟨g, 2, none⟩ z) :=
  ((h.setCell (p := ⟨g, 0, none⟩) hg x).setCell (p := ⟨g, 1, none⟩) hg y).setCell (p := ⟨g, 2, none⟩) hg z

theorem ret_v {fn : Func} {R : Ending → World → Prop} {a : Act} {w : World} {p : Tmp} (g : Nat) {t n b : Int} (hf : fn.results = #[.cell p 41]) (hp : a.tmps.getD p undef = .pointer (some ⟨g, 0, none⟩))
    (h : Val w g t n b) (hdf : a.defers = []) (hR : R (.returned (.agg #[.int .i64 t, .int .i64 n, .int .u64 b])) w) : bodyPost Tryd.prog fn R .ret a w :=
  bodyPost_ret (by
    have hp' : a.tmps[p]?.getD undef = .pointer (some ⟨g, 0, none⟩) := by simpa using hp
    obtain ⟨_, c0, c1, c2⟩ := h.all
    simp [results, hf, hp', go_sem, c0, c1, c2]) hdf hR
/-- a value that is answered -/
def Vv (w : World) (t n b : Int) (e : Ending) (w' : World) : Prop := e = .returned (.agg #[.int .i64 t, .int .i64 n, .int .u64 b]) ∧ Below w.heap.size w w'
theorem Vv.mk {w w' : World} {t n b t' n' b' : Int} (h : t = t' ∧ n = n' ∧ b = b') (hb : Below w.heap.size w w') : Vv w t' n' b' (.returned (.agg #[.int .i64 t, .int .i64 n, .int .u64 b])) w' := by
  obtain ⟨rfl, rfl, rfl⟩ := h; exact ⟨rfl, hb⟩
set_option maxRecDepth 20000 in
theorem int_any (n : Int) (w : World) : Calls Tryd.prog 32 #[.int .i64 n] w (Vv w 1 n 0) := by
  go_enter Tryd.func32, Tryd.ntmps32
  go_wp2_with fail
  exact ret_v w.heap.size rfl rfl (Val.new w _ _ _) rfl (Vv.mk ⟨rfl, rfl, rfl⟩ (bel_new _ _))
def zeroT (t : Int) : Int := if t = 1 ∨ t = 2 ∨ t = 3 then t else 0
set_option maxRecDepth 20000 in
theorem zero_any (t : Int) (w : World) : Calls Tryd.prog 39 #[.int .i64 t] w (Vv w (zeroT t) 0 0) := by
  obtain ⟨z, hz⟩ : ∃ z, zeroT t = z := ⟨_, rfl⟩
  rw [hz]
  have HZ := hide hz
  clear hz
  go_enter Tryd.func39, Tryd.ntmps39
  go_wp2_with fail
  all_goals
    refine ret_v w.heap.size rfl rfl (Val.new w _ _ _) rfl (Vv.mk ⟨?_, rfl, rfl⟩ (bel_new _ _))
    rw [← HZ.out]
    simp_all [zeroT]
set_option maxRecDepth 20000 in
theorem same_any (t n b t' n' b' : Int) (w : World) : Calls Tryd.prog 59 #[.agg #[.int .i64 t, .int .i64 n, .int .u64 b], .agg #[.int .i64 t', .int .i64 n', .int .u64 b']] w (Vb w (.bool (t == t' && (n == n' && b == b')))) := by
  have HB := hide (bel_al (bel_new w (.cells #[.int .i64 t, .int .i64 n, .int .u64 b] 41)) (.cells #[.int .i64 t', .int .i64 n', .int .u64 b'] 41))
  have HE := fun w => eq_vv w t n b t' n' b'
  go_enter Tryd.func59, Tryd.ntmps59
  go_wp2_with fail
  go_ret
  exact Vb.mk rfl HB.out
set_option maxRecDepth 20000 in
theorem noType_any (t : Int) (w : World) : Calls Tryd.prog 36 #[.int .i64 t] w (Vb w (.bool (zeroT t == 0))) := by
  have f0 := vf0
  go_enter Tryd.func36, Tryd.ntmps36
  go_wp2_with fail
  refine (zero_any _ _).mono ?_
  rintro e w1 ⟨rfl, hb⟩
  go_wp2_with fail
  go_ret
  exact Vb.mk rfl hb
set_option maxRecDepth 20000 in
theorem fits_any (n : Int) (w : World) : Calls Tryd.prog 34 #[.int .i64 n] w fun e w' => e = .returned (.bool (decide (0 ≤ n) && decide (n ≤ 32))) ∧ w = w' := by
  by_cases h0 : 0 ≤ n
  · by_cases h1 : n ≤ 32
    · have h2 : (decide (0 ≤ n) && decide (n ≤ 32)) = true := by simp [h0, h1]
      rw [h2]
      clear h2
      go_enter Tryd.func34, Tryd.ntmps34
      go_wp2_with fail
      go_ret
      exact ⟨rfl, rfl⟩
    · have h2 : (decide (0 ≤ n) && decide (n ≤ 32)) = false := by simp [h1]
      rw [h2]
      clear h2
      go_enter Tryd.func34, Tryd.ntmps34
      go_wp2_with fail
      go_ret
      exact ⟨rfl, rfl⟩
  · have h2 : (decide (0 ≤ n) && decide (n ≤ 32)) = false := by simp [h0]
    rw [h2]
    clear h2
    go_enter Tryd.func34, Tryd.ntmps34
    go_wp2_with fail
    go_ret
    exact ⟨rfl, rfl⟩
def chanB (t r : Int) : Bool := zeroT t == 0 || (decide (r < 0) || decide (8 < r))
set_option maxRecDepth 20000 in
theorem noChan_any (t r : Int) (w : World) : Calls Tryd.prog 38 #[.agg #[.int .i64 t, .int .i64 r]] w (Vb w (.bool (chanB t r))) := by
  have HB := hide (bel_new w (.cells #[.int .i64 t, .int .i64 r] 52))
  obtain ⟨z, hz⟩ : ∃ z, (zeroT t == 0) = z := ⟨_, rfl⟩
  have NT : ∀ w, Calls Tryd.prog 36 #[.int .i64 t] w (Vb w (.bool z)) := fun w => by
    have := noType_any t w
    rw [hz] at this
    exact this
  obtain ⟨g, hg⟩ : ∃ g, chanB t r = g := ⟨_, rfl⟩
  rw [hg]
  unfold chanB at hg
  rw [hz] at hg
  have HG := hide hg
  clear hg hz
  have c0 : (w.alloc (.cells #[.int .i64 t, .int .i64 r] 52)).cell? ⟨w.heap.size, 1, none⟩ = some (.int .i64 r) := blk_cell (Go.Deep.blk_alloc_new w _) 1 _ rfl
  cases z with
  | true =>
    go_enter Tryd.func38, Tryd.ntmps38
    go_wp2_with fail
    refine (NT _).mono ?_
    rintro e w1 ⟨rfl, hb⟩
    go_wp2_with fail
    go_ret
    exact Vb.mk (congrArg Value.bool (by rw [← HG.out]; rfl)) (bel_trans HB.out hb)
  | false =>
    by_cases h1 : r < 0
    · have E : g = true := by rw [← HG.out]; simp [h1]
      subst E
      clear HG
      go_enter Tryd.func38, Tryd.ntmps38
      go_wp2_with fail
      refine (NT _).mono ?_
      rintro e w1 ⟨rfl, hb⟩
      have c1 : w1.cell? ⟨w.heap.size, 1, none⟩ = some (.int .i64 r) := (hb.cell (p := ⟨w.heap.size, 1, none⟩) (by simp)).trans c0
      go_wp2_with fail
      go_ret
      exact Vb.mk rfl (bel_trans HB.out hb)
    · have E : g = decide (8 < r) := by rw [← HG.out]; simp [h1]
      subst E
      clear HG
      go_enter Tryd.func38, Tryd.ntmps38
      go_wp2_with fail
      refine (NT _).mono ?_
      rintro e w1 ⟨rfl, hb⟩
      have c1 : w1.cell? ⟨w.heap.size, 1, none⟩ = some (.int .i64 r) := (hb.cell (p := ⟨w.heap.size, 1, none⟩) (by simp)).trans c0
      go_wp2_with fail
      all_goals
        go_ret
        exact Vb.mk (by simp; try omega) (bel_trans HB.out hb)
def isB (t n b ty : Int) : Bool := goodB t n b && t == ty
set_option maxRecDepth 20000 in
theorem isOf_any (t n b ty : Int) (w : World) : Calls Tryd.prog 76 #[.agg #[.int .i64 t, .int .i64 n, .int .u64 b], .int .i64 ty] w (Vb w (.bool (isB t n b ty))) := by
  have HB := hide (bel_new w (.cells #[.int .i64 t, .int .i64 n, .int .u64 b] 41))
  have V0 := Val.new w t n b
  obtain ⟨z, hz⟩ : ∃ z, goodB t n b = z := ⟨_, rfl⟩
  have GA : ∀ w, Calls Tryd.prog 99 #[.agg #[.int .i64 t, .int .i64 n, .int .u64 b]] w (Vb w (.bool z)) := fun w => by
    have := good_any t n b w
    rw [hz] at this
    exact this
  obtain ⟨g, hg⟩ : ∃ g, isB t n b ty = g := ⟨_, rfl⟩
  rw [hg]
  unfold isB at hg
  rw [hz] at hg
  have HG := hide hg
  clear hg hz
  cases z with
  | true =>
    go_enter Tryd.func76, Tryd.ntmps76
    go_wp2_with fail
    refine (GA _).mono ?_
    rintro e w1 ⟨rfl, hb⟩
    obtain ⟨_, c0, _, _⟩ := (V0.al hb).all
    go_wp2_with fail
    go_ret
    exact Vb.mk (congrArg Value.bool (by rw [← HG.out]; simp)) (bel_trans HB.out hb)
  | false =>
    go_enter Tryd.func76, Tryd.ntmps76
    go_wp2_with fail
    refine (GA _).mono ?_
    rintro e w1 ⟨rfl, hb⟩
    go_wp2_with fail
    go_ret
    exact Vb.mk (congrArg Value.bool (by rw [← HG.out]; simp)) (bel_trans HB.out hb)
end Go.Proofs.YtbiilnpblnjliaaDoor.Ck
