/- Texts of this proof, packed: contracts of the program's functions, and the plain model that they are held against. -/
import Derived.Test.YtogeblmppagabaaGreatDoorChecked
import Derived.WalkKit
import Derived.Outline
import Derived.BigQuiet
import Derived.Deep.QuietTactic
import Derived.WalkSmall
import Derived.Deep.OwnRows
import Derived.Test.YtogeblmppagabaaGreatDoorRows
import Derived.LaidMore
import Derived.MakeChecks
import Derived.Stop.LaidErr
import Derived.Stop.Joined
import Derived.LaidEql
import Derived.Stop.Asserts
/- The contracts of package token's questions on one byte. -/
namespace Go.Proofs.YtogeblmppagabaaGreatDoor.Ck
open Go.RowKit

def isBlank (c : Int) : Bool := c == 32 || c == 9 || c == 10 || c == 13
def isLetter (c : Int) : Bool := decide (97 ≤ c ∧ c ≤ 122) || decide (65 ≤ c ∧ c ≤ 90) || c == 95
def isDigit (c : Int) : Bool := decide (48 ≤ c ∧ c ≤ 57)
def isHex (c : Int) : Bool := isDigit c || decide (97 ≤ c ∧ c ≤ 102)
def isWord (c : Int) : Bool := isLetter c || isDigit c
def notNl (c : Int) : Bool := c != 10

theorem blank_any (c : Int) (w : World) : Calls Tryz.prog 107 #[.int .u8 c] w fun e w' => e = .returned (.bool (isBlank c)) ∧ w = w' := by
  go_enter Tryz.func107, Tryz.ntmps107
  go_wp2_with (fail)
  all_goals
    go_ret
    refine ⟨congrArg Ending.returned (congrArg Value.bool ?_), rfl⟩
    rw [Bool.eq_iff_iff]
    first
      | (simp [isBlank] <;> done)
      | (simp [isBlank] <;> omega)
      | (simp_all [isBlank] <;> done)
      | (simp_all [isBlank] <;> omega)
theorem digit_any (c : Int) (w : World) : Calls Tryz.prog 112 #[.int .u8 c] w fun e w' => e = .returned (.bool (isDigit c)) ∧ w = w' := by
  go_enter Tryz.func112, Tryz.ntmps112
  go_wp2_with (fail)
  all_goals
    go_ret
    refine ⟨congrArg Ending.returned (congrArg Value.bool ?_), rfl⟩
    rw [Bool.eq_iff_iff]
    first
      | (simp [isDigit] <;> done)
      | (simp [isDigit] <;> omega)
      | (simp_all [isDigit] <;> done)
      | (simp_all [isDigit] <;> omega)
theorem letter_any (c : Int) (w : World) : Calls Tryz.prog 110 #[.int .u8 c] w fun e w' => e = .returned (.bool (isLetter c)) ∧ w = w' := by
  go_enter Tryz.func110, Tryz.ntmps110
  go_wp2_with (fail)
  all_goals
    go_ret
    refine ⟨congrArg Ending.returned (congrArg Value.bool ?_), rfl⟩
    rw [Bool.eq_iff_iff]
    first
      | (simp [isLetter] <;> done)
      | (simp [isLetter] <;> omega)
      | (simp_all [isLetter] <;> done)
      | (simp_all [isLetter] <;> omega)
theorem wordByte_any (c : Int) (w : World) : Calls Tryz.prog 140 #[.int .u8 c] w fun e w' => e = .returned (.bool (isWord c)) ∧ w = w' := by
  go_enter Tryz.func140, Tryz.ntmps140
  go_wp2_with (first | (go_at_call 110; refine (letter_any _ _).mono ?_; rintro e w' ⟨rfl, rfl⟩) | (go_at_call 112; refine (digit_any _ _).mono ?_; rintro e w' ⟨rfl, rfl⟩))
  all_goals
    go_ret
    refine ⟨congrArg Ending.returned (congrArg Value.bool ?_), rfl⟩
    rw [Bool.eq_iff_iff]
    first
      | (simp [isWord] <;> done)
      | (simp [isWord] <;> omega)
      | (simp_all [isWord] <;> done)
      | (simp_all [isWord] <;> omega)
theorem hexDigit_any (c : Int) (w : World) : Calls Tryz.prog 146 #[.int .u8 c] w fun e w' => e = .returned (.bool (isHex c)) ∧ w = w' := by
  go_enter Tryz.func146, Tryz.ntmps146
  go_wp2_with (first | (go_at_call 110; refine (letter_any _ _).mono ?_; rintro e w' ⟨rfl, rfl⟩) | (go_at_call 112; refine (digit_any _ _).mono ?_; rintro e w' ⟨rfl, rfl⟩))
  all_goals
    go_ret
    refine ⟨congrArg Ending.returned (congrArg Value.bool ?_), rfl⟩
    rw [Bool.eq_iff_iff]
    first
      | (simp [isHex] <;> done)
      | (simp [isHex] <;> omega)
      | (simp_all [isHex] <;> done)
      | (simp_all [isHex] <;> omega)
theorem notNl_any (c : Int) (w : World) : Calls Tryz.prog 109 #[.int .u8 c] w fun e w' => e = .returned (.bool (notNl c)) ∧ w = w' := by
  go_enter Tryz.func109, Tryz.ntmps109
  go_wp2_with (fail)
  all_goals
    go_ret
    refine ⟨congrArg Ending.returned (congrArg Value.bool ?_), rfl⟩
    rw [Bool.eq_iff_iff]
    first
      | (simp [notNl] <;> done)
      | (simp [notNl] <;> omega)
      | (simp_all [notNl] <;> done)
      | (simp_all [notNl] <;> omega)

end Go.Proofs.YtogeblmppagabaaGreatDoor.Ck

/- Slices of ints in memory, by the list that they hold; no Go text is walked here. -/
namespace Go.Proofs.YtogeblmppagabaaGreatDoor.Ck
open Go.RowKit

def Fits (c : List Int) : Prop := ∀ z ∈ c, -9223372036854775808 ≤ z ∧ z ≤ 9223372036854775807

/-- a slice value that holds the list zs in the world w -/
def Sl (w : World) (v : Value) (zs : List Int) : Prop :=
  Fits zs ∧ ∃ a cap, v = .slice a zs.length cap ∧ zs.length ≤ cap ∧ cap ≤ maxLen ∧
    ∀ i, i < zs.length → ∃ b off, a = some ⟨b, off, none⟩ ∧ b < w.heap.size ∧ w.cell? ⟨b, off + i, none⟩ = some (.int .i64 (zs.getD i 0))

theorem Sl.below {w w' : World} {v : Value} {zs : List Int} (h : Sl w v zs) {B : Nat} (hB : w.heap.size ≤ B) (hb : Below B w w') : Sl w' v zs := by
  obtain ⟨hf, a, cap, hv, h1, h2, h3⟩ := h
  refine ⟨hf, a, cap, hv, h1, h2, fun i hi => ?_⟩
  obtain ⟨b, off, ha, hlt, hc⟩ := h3 i hi
  exact ⟨b, off, ha, Nat.lt_of_lt_of_le hlt hb.size, by rw [hb.cell (p := ⟨b, off + i, none⟩) (Nat.lt_of_lt_of_le hlt hB)]; exact hc⟩

theorem bel_trans {w w1 w2 : World} (h : Below w.heap.size w w1) (h2 : Below w1.heap.size w1 w2) : Below w.heap.size w w2 := h.trans (h2.mono h.size)
theorem bel_al {w w1 : World} (h : Below w.heap.size w w1) (o : Obj) : Below w.heap.size w (w1.alloc o) := h.alloc h.size o
theorem bel_new (w : World) (o : Obj) : Below w.heap.size w (w.alloc o) := (Below.refl _ _).alloc (Nat.le_refl _) o

/-- a row of the call's own, read as a slice -/
theorem Sl.of_row {w : World} {b : Nat} {t : TypeId} {n : Nat} {f : Nat → Value} {zs : List Int} (h : w.rowIs b t n f) (hn : zs.length ≤ n) (hm : n ≤ maxLen) (hf : Fits zs)
    (he : ∀ i, i < zs.length → f i = .int .i64 (zs.getD i 0)) : Sl w (.slice (some ⟨b, 0, none⟩) zs.length n) zs :=
  ⟨hf, _, _, rfl, hn, hm, fun i hi => ⟨b, 0, rfl, h.lt, by rw [Nat.zero_add, h.cell (Nat.lt_of_lt_of_le hi hn), he i hi]⟩⟩

theorem Sl.nilS (w : World) : Sl w (.slice none 0 0) [] :=
  ⟨fun _ h => (by cases h), none, 0, rfl, Nat.le_refl _, Nat.zero_le _, fun _ h => absurd h (Nat.not_lt_zero _)⟩

theorem Sl.fits {w : World} {v : Value} {zs : List Int} (h : Sl w v zs) : Fits zs := h.1
theorem Sl.slice {w : World} {v : Value} {zs : List Int} (h : Sl w v zs) : ∃ a n c, v = .slice a n c ∧ n = zs.length := by
  obtain ⟨_, a, c, rfl, _⟩ := h
  exact ⟨_, _, _, rfl, rfl⟩
theorem Sl.len {W : World} {a : Option Addr} {len cap : Nat} {zs : List Int} (h : Sl W (.slice a len cap) zs) : len = zs.length := by
  obtain ⟨_, a', c', e, _⟩ := h
  cases e
  rfl
theorem Sl.at {w : World} {a : Option Addr} {n c : Nat} {zs : List Int} (h : Sl w (.slice a n c) zs) (i : Nat) (hi : i < n) :
    ∃ b off, a = some ⟨b, off, none⟩ ∧ b < w.heap.size ∧ w.cell? ⟨b, off + i, none⟩ = some (.int .i64 (zs.getD i 0)) := by
  obtain ⟨_, a', c', e, _, _, hc⟩ := h
  cases e
  exact hc i hi
theorem ret_int {k : IntKind} {a b : Int} (h : a = b) : Ending.returned (.int k a) = .returned (.int k b) := by rw [h]
theorem ret_slice {a : Option Addr} {n m c : Nat} (h : n = m) : Ending.returned (.slice a n c) = .returned (.slice a m c) := by rw [h]
theorem ret_bool {a b : Bool} (h : a = b) : Ending.returned (.bool a) = .returned (.bool b) := by rw [h]
theorem info3 : (Tryz.prog.info? 3).map (fun i => (i.zero, i.size, i.bytes)) = some (some (.int .i64 0), 1, 8) := by kernel_rfl
theorem Sl.built {w : World} (xs : List Int) (hf : Fits xs) (hl : xs.length ≤ 1000) :
    Sl (w.alloc (.cells (xs.map (Value.int .i64)).toArray 3)) (.slice (some ⟨w.heap.size, 0, none⟩) xs.length xs.length) xs := by
  refine Sl.of_row (t := 3) (f := fun i => .int .i64 (xs.getD i 0)) ⟨_, Go.Deep.blk_alloc_new _ _, by simp, fun i hi => ?_⟩ (Nat.le_refl _) (by unfold maxLen; omega) hf (fun i _ => rfl)
  simp [List.getD, hi]


end Go.Proofs.YtogeblmppagabaaGreatDoor.Ck

/- Facts on the program that a row's listed variables ask for. -/
namespace Go.Proofs.YtogeblmppagabaaGreatDoor.Ck
open Go.ChangeShapes Go.WideShapes Go.RowKit

theorem own : ownKnob Tryz.prog.godebug = none := by kernel_rfl
theorem laidOut : laidOutB Tryz.prog = true := by kernel_rfl
theorem star : "*" ++ "errors.errorString" = "*errors.errorString" := by decide
theorem rowEs (u : TypeId) (h : Tryz.prog.typeName? 3 u = some "*errors.errorString") : u = 184 :=
  typeName_ptr_named (nm := "errors.errorString") (by rw [star]; kernel_rfl) (by kernel_rfl) (by decide) u (by rw [star]; exact h)
theorem cellsEs : Tryz.prog.cellsOf 186 = 1 := by kernel_rfl
theorem cells9 : Tryz.prog.cellsOf 9 = 1 := by kernel_rfl

end Go.Proofs.YtogeblmppagabaaGreatDoor.Ck

/- What a list of sentinel errors among the row's variables gives: each variable holds a pointer of its own, and no two are one. -/
namespace Go.Proofs.YtogeblmppagabaaGreatDoor.Ck
open Go.ChangeShapes Go.WideShapes Go.RowKit

def sentD (t : List UInt8) : DataW Unit := .iface "*errors.errorString" (.ptr (.agg [.lit (.string t)]))

/-- each of the variables gs holds the pointer of the list's place, and the row behind it may be written -/
def Sents (W : World) : List Nat → List Addr → Prop
  | [], [] => True
  | g :: gs, a :: av => (g < W.heap.size ∧ W.cell? ⟨g, 0, none⟩ = some (.iface 184 (.pointer (some a))) ∧ ∃ c t, W.heap[a.block]? = some (.cells c t (0, 0))) ∧ Sents W gs av
  | _, _ => False

theorem Sents.at {W : World} {gs : List Nat} {av : List Addr} (h : Sents W gs av) (i : Nat) (hi : i < gs.length) :
    (gs.getD i 0 < W.heap.size ∧ W.cell? ⟨gs.getD i 0, 0, none⟩ = some (.iface 184 (.pointer (some (av.getD i ⟨0, 0, none⟩)))) ∧ ∃ c t, W.heap[(av.getD i ⟨0, 0, none⟩).block]? = some (.cells c t (0, 0))) := by
  induction gs generalizing av i with
  | nil => exact absurd hi (Nat.not_lt_zero _)
  | cons g gs ih =>
    cases av with
    | nil => exact absurd h (fun h => h)
    | cons a av =>
      cases i with
      | zero => exact h.1
      | succ i => exact ih h.2 i (by simpa using hi)
theorem Sents.len {W : World} {gs : List Nat} {av : List Addr} (h : Sents W gs av) : av.length = gs.length := by
  induction gs generalizing av with
  | nil => cases av with
    | nil => rfl
    | cons a av => exact absurd h (fun h => h)
  | cons g gs ih => cases av with
    | nil => exact absurd h (fun h => h)
    | cons a av => simp [ih h.2]

def placeOf (a : Addr) : MemPlace := .cell a.block a.off

set_option maxRecDepth 100000 in
theorem sents_of {W : World} (l : List (String × List UInt8)) (gs : List Nat) (ps : List MemPlace) (hlen : l.length = gs.length)
    (hg : ∀ i, i < l.length → Tryz.prog.globalNamed (l.getD i ("", [])).1 = some (gs.getD i 0) ∧ (Tryz.prog.globals[gs.getD i 0]?).map (·.type) = some 29)
    (h : DataW.LaidVars Tryz.prog W (l.map fun x => (x.1, sentD x.2)) ps)
    (hrows : ∀ b off, MemPlace.cell b off ∈ ps → (∃ c t, W.heap[b]? = some (.cells c t (0, 0))) ∧ ∀ u v, W.cell? ⟨b, off, none⟩ = some (.iface u v) → Value.okWide Tryz.prog W .any 0 u v) :
    ∃ av, Sents W gs av ∧ (av.map placeOf).Sublist ps := by
  induction l generalizing gs ps with
  | nil =>
    cases gs with
    | nil => exact ⟨[], trivial, by simp⟩
    | cons g gs => simp at hlen
  | cons x l ih =>
    cases gs with
    | nil => simp at hlen
    | cons g gs =>
      obtain ⟨g0, t0, cs0, f0, p0, q0, hg0, ht0, hv0, hd0, hq0, e0⟩ := h
      have h0 := hg 0 (by simp)
      simp at h0
      obtain rfl := Option.some.inj (h0.1.symm.trans hg0)
      have ht : t0 = 29 := by
        have h1 := ht0
        simp only [Option.map_eq_some_iff] at h1
        obtain ⟨gl, hgl, hgt⟩ := h1
        obtain ⟨gl', hgl', hgt'⟩ := h0.2
        rw [hgl] at hgl'
        cases hgl'
        exact hgt.symm.trans hgt'
      subst ht
      subst e0
      obtain ⟨l0⟩ := cs0
      obtain ⟨a, s0, rfl, hc0, _, _, rfl⟩ := errorString_of_trod Tryz.underlying29 rowEs Tryz.underlying184 Tryz.underlying186 rfl rfl Tryz.underlying9 cellsEs cells9 hd0 (fun u v e => by
        subst e
        exact (hrows g 0 (by simp [MemPlace.row])).2 u v (by simpa using World.var?_cell hg0 hv0 0))
      have hcell := World.var?_cell hg0 hv0 0
      obtain ⟨c, t, hb⟩ := (hrows a.block a.off (by simp [MemPlace.row])).1
      obtain ⟨av, hs, hsub⟩ := ih gs q0 (by simpa using hlen) (fun i hi => by simpa using hg (i + 1) (by simpa using hi)) hq0 (fun b off hm => hrows b off (List.mem_append_right _ hm))
      refine ⟨a :: av, ⟨⟨?_, by simpa using hcell, c, t, hb⟩, hs⟩, ?_⟩
      · rcases Nat.lt_or_ge g W.heap.size with h' | h'
        · exact h'
        · simp [World.cell?, Array.getElem?_eq_none h'] at hcell
      · have e1 : (placeOf a :: av.map placeOf).Sublist (MemPlace.row a 1 ++ q0) := by
          have : MemPlace.row a 1 = [placeOf a] := by simp [MemPlace.row, placeOf]
          rw [this]
          exact List.Sublist.cons_cons _ hsub
        rw [List.append_assoc]
        exact List.Sublist.trans e1 (List.sublist_append_right _ _)

end Go.Proofs.YtogeblmppagabaaGreatDoor.Ck

/- errors.Is at two pointers of errors.New's make: true just where they are one. -/
namespace Go.Proofs.YtogeblmppagabaaGreatDoor.Ck
open Go.RowKit

theorem callTypeOf (v : Value) (w : World) : (callFunc 64 #[.iface 184 v]).run Tryz.prog w = .ok (.value (.iface 109 (.agg #[.pointer (some ⟨23, 184, none⟩)]))) w := by kernel_rfl
theorem callComparable (w : World) : (callFunc 236 #[.agg #[.pointer (some ⟨23, 184, none⟩)]]).run Tryz.prog w = .ok (.value (.bool true)) w := by kernel_rfl
theorem methodComparable (v : Value) (w : World) : (Go.method 318 109 v "Comparable").run Tryz.prog w = .ok (236, v) w := by kernel_rfl
theorem isComp : (Tryz.prog.info? 184).map (·.comparable) = some true := by kernel_rfl
theorem isSize : (Tryz.prog.info? 186).map (·.size) = some 1 := by kernel_rfl
theorem noIsE (v : Value) (xT : TypeId) (w : World) : (Instr.typeAssert (.iface 184 v) xT 111 true).run Tryz.prog w = .ok (.tuple #[.nilIface, .bool false]) w := run_typeAssert_lacksB Tryz.underlying111 (by kernel_rfl) (by kernel_rfl) v xT w
theorem noUnwrapE (v : Value) (xT : TypeId) (w : World) : (Instr.typeAssert (.iface 184 v) xT 114 true).run Tryz.prog w = .ok (.tuple #[.nilIface, .bool false]) w := run_typeAssert_lacksB Tryz.underlying114 (by kernel_rfl) (by kernel_rfl) v xT w
theorem noUnwrapsE (v : Value) (xT : TypeId) (w : World) : (Instr.typeAssert (.iface 184 v) xT 116 true).run Tryz.prog w = .ok (.tuple #[.nilIface, .bool false]) w := run_typeAssert_lacksB Tryz.underlying116 (by kernel_rfl) (by kernel_rfl) v xT w

theorem is_same (a : Addr) (w : World) :
    Calls Tryz.prog 38 #[.iface 184 (.pointer (some a)), .iface 184 (.pointer (some a))] w fun e w' => e = .returned (.bool true) ∧ w = w' := by
  obtain ⟨i, hi, hcmp⟩ := Option.map_eq_some_iff.1 isComp
  obtain ⟨j, hj, hjs⟩ := Option.map_eq_some_iff.1 isSize
  have h8 := callTypeOf
  have h32 := callComparable
  have mR := methodComparable
  have heq := run_eql_iface_ptr_same (P := Tryz.prog) w a Tryz.underlying29 Tryz.underlying184 hi hcmp hj
  go_enter Tryz.func38, Tryz.ntmps38
  go_wp2
  refine wp_loop_rounds 1 ?_
  rw [rounds_succ]
  go_wp2
  go_ret
  exact ⟨rfl, rfl⟩

theorem is_other (a b : Addr) (ca cb : Array Value) (ta tb : TypeId) (w : World) (hne : a ≠ b) (ha : w.heap[a.block]? = some (.cells ca ta (0, 0))) (hb : w.heap[b.block]? = some (.cells cb tb (0, 0))) :
    Calls Tryz.prog 38 #[.iface 184 (.pointer (some a)), .iface 184 (.pointer (some b))] w fun e w' => e = .returned (.bool false) ∧ w = w' := by
  obtain ⟨i, hi, hcmp⟩ := Option.map_eq_some_iff.1 isComp
  obtain ⟨j, hj, hjs⟩ := Option.map_eq_some_iff.1 isSize
  have h8 := callTypeOf
  have h32 := callComparable
  have mR := methodComparable
  have nE := noIsE
  have uE := noUnwrapE
  have vE := noUnwrapsE
  have heq := run_eql_iface_ptr_other (P := Tryz.prog) w Tryz.underlying29 Tryz.underlying184 hi hcmp hj (by rw [hjs]; decide) hne ha hb
  go_enter Tryz.func38, Tryz.ntmps38
  go_wp2
  refine wp_loop_rounds 1 ?_
  rw [rounds_succ]
  go_wp2
  go_ret
  exact ⟨rfl, rfl⟩

end Go.Proofs.YtogeblmppagabaaGreatDoor.Ck

/- The contract of the statements' own Num: the number of a sentinel error is its place in the document's table. -/
namespace Go.Proofs.YtogeblmppagabaaGreatDoor.Ck
open Go.RowKit

/-- the variables' numbers, in the order of the document's table -/
def gl : List Nat := [0, 1, 2, 3, 4, 5, 6, 7, 8, 9, 10, 11, 12, 13, 14, 15, 16]
def adr (p : List Addr) (i : Nat) : Addr := p.getD i ⟨0, 0, none⟩
abbrev errV (p : List Addr) (i : Nat) : Value := .iface 184 (.pointer (some (adr p i)))

/-- the package's errors are there, no two of them one -/
structure Errs17 (w : World) (p : List Addr) : Prop where
  sents : Sents w gl p
  nodup : p.Nodup

theorem Sents.below {w w' : World} {B : Nat} (hB : w.heap.size ≤ B) (hb : Below B w w') {gs : List Nat} {p : List Addr} (h : Sents w gs p) : Sents w' gs p := by
  induction gs generalizing p with
  | nil => cases p with
    | nil => trivial
    | cons a p => exact h
  | cons g gs ih => cases p with
    | nil => exact h
    | cons a p =>
      obtain ⟨⟨h1, h2, c, t, h3⟩, h4⟩ := h
      have hlt : a.block < w.heap.size := by
        rcases Nat.lt_or_ge a.block w.heap.size with h' | h'
        · exact h'
        · simp [Array.getElem?_eq_none h'] at h3
      exact ⟨⟨Nat.lt_of_lt_of_le h1 hb.size, by rw [hb.cell (p := ⟨g, 0, none⟩) (Nat.lt_of_lt_of_le h1 hB)]; exact h2, c, t, by rw [hb.block _ (Nat.lt_of_lt_of_le hlt hB)]; exact h3⟩, ih h4⟩
theorem Errs17.below {w w' : World} {p : List Addr} (h : Errs17 w p) {B : Nat} (hB : w.heap.size ≤ B) (hb : Below B w w') : Errs17 w' p := ⟨h.sents.below hB hb, h.nodup⟩

theorem Errs17.ne {w : World} {p : List Addr} (h : Errs17 w p) {i j : Nat} (hi : i < 17) (hj : j < 17) (hij : i ≠ j) : adr p i ≠ adr p j := by
  have hl : p.length = 17 := h.sents.len
  unfold adr
  have e1 : p.getD i ⟨0, 0, none⟩ = p[i]'(by omega) := by simp [List.getD, List.getElem?_eq_getElem (show i < p.length by omega)]
  have e2 : p.getD j ⟨0, 0, none⟩ = p[j]'(by omega) := by simp [List.getD, List.getElem?_eq_getElem (show j < p.length by omega)]
  rw [e1, e2]
  rcases Nat.lt_or_gt_of_ne hij with hlt | hlt
  · exact List.pairwise_iff_getElem.1 h.nodup i j (by omega) (by omega) hlt
  · exact fun e => List.pairwise_iff_getElem.1 h.nodup j i (by omega) (by omega) hlt e.symm
theorem Errs17.row {w : World} {p : List Addr} (h : Errs17 w p) {i : Nat} (hi : i < 17) : ∃ c t, w.heap[(adr p i).block]? = some (.cells c t (0, 0)) := (h.sents.at i hi).2.2
theorem Errs17.cell {w : World} {p : List Addr} (h : Errs17 w p) (i : Nat) (hi : i < 17) : w.cell? ⟨gl.getD i 0, 0, none⟩ = some (errV p i) := (h.sents.at i hi).2.1

theorem num_nil (w : World) : Calls Tryz.prog 16 #[.nilIface] w fun e w' => e = .returned (.int .i64 0) ∧ w = w' := by
  go_enter Tryz.func16, Tryz.ntmps16
  go_wp2
  go_ret
  exact ⟨rfl, rfl⟩

def listV (p : List Addr) : Array Value := #[errV p 0, errV p 1, errV p 2, errV p 3, errV p 4, errV p 5, errV p 6, errV p 7, errV p 8, errV p 9, errV p 10, errV p 11, errV p 12, errV p 13, errV p 14, errV p 15, errV p 16]
theorem listV_at (p : List Addr) (k : Nat) (h : k < 17) : (listV p)[k]? = some (errV p k) := by
  have : k = 0 ∨ k = 1 ∨ k = 2 ∨ k = 3 ∨ k = 4 ∨ k = 5 ∨ k = 6 ∨ k = 7 ∨ k = 8 ∨ k = 9 ∨ k = 10 ∨ k = 11 ∨ k = 12 ∨ k = 13 ∨ k = 14 ∨ k = 15 ∨ k = 16 := by omega
  rcases this with h | h | h | h | h | h | h | h | h | h | h | h | h | h | h | h | h <;> subst h <;> rfl

set_option maxHeartbeats 400000 in
theorem num_err (p : List Addr) (j : Nat) (w : World) (he : Errs17 w p) (hj : j < 17) :
    Calls Tryz.prog 16 #[errV p j] w fun e w' => e = .returned (.int .i64 (j + 1)) ∧ Below w.heap.size w w' := by
  have c0 := he.cell 0 (by omega)
  have c1 := he.cell 1 (by omega)
  have c2 := he.cell 2 (by omega)
  have c3 := he.cell 3 (by omega)
  have c4 := he.cell 4 (by omega)
  have c5 := he.cell 5 (by omega)
  have c6 := he.cell 6 (by omega)
  have c7 := he.cell 7 (by omega)
  have c8 := he.cell 8 (by omega)
  have c9 := he.cell 9 (by omega)
  have c10 := he.cell 10 (by omega)
  have c11 := he.cell 11 (by omega)
  have c12 := he.cell 12 (by omega)
  have c13 := he.cell 13 (by omega)
  have c14 := he.cell 14 (by omega)
  have c15 := he.cell 15 (by omega)
  have c16 := he.cell 16 (by omega)
  simp only [gl, List.getD, List.getElem?_cons_zero, List.getElem?_cons_succ, Option.getD_some] at c0 c1 c2 c3 c4 c5 c6 c7 c8 c9 c10 c11 c12 c13 c14 c15 c16
  have hb : Below w.heap.size w (w.alloc (.cells (listV p) 29)) := bel_new w _
  have he2 := he.below (Nat.le_refl _) hb
  have HC : Hid (∀ k, k < 17 → (w.alloc (.cells (listV p) 29)).cell? ⟨w.heap.size, k, none⟩ = some (errV p k)) := fun k hk =>
    (World.rowIs_alloc w (listV p) 29 (errV p) (fun i hi => listV_at p i hi)).cell hk
  have HS : Hid (∀ wx, Calls Tryz.prog 38 #[.iface 184 (.pointer (some (adr p j))), errV p j] wx fun e w' => e = .returned (.bool true) ∧ wx = w') := fun wx => is_same _ wx
  have HO : Hid (∀ k, k < 17 → k ≠ j → Calls Tryz.prog 38 #[.iface 184 (.pointer (some (adr p j))), errV p k] (w.alloc (.cells (listV p) 29)) fun e w' => e = .returned (.bool false) ∧ (w.alloc (.cells (listV p) 29)) = w') := fun k hk hkj => by
    obtain ⟨ca, ta, hca⟩ := he2.row hj
    obtain ⟨cb, tb, hcb⟩ := he2.row hk
    exact is_other _ _ ca cb ta tb _ (he2.ne hj hk (Ne.symm hkj)) hca hcb
  clear he2 he
  go_enter Tryz.func16, Tryz.ntmps16
  go_wp2_with fail
  clear c0 c1 c2 c3 c4 c5 c6 c7 c8 c9 c10 c11 c12 c13 c14 c15 c16
  go_loopw [28] (fun i wr => ∃ k : Nat, k ≤ j ∧ i = .int .i64 k ∧ Hid (wr = w.alloc (.cells (listV p) 29))) (fun i _ => 17 - (intOf i).toNat)
  case atStart => exact ⟨0, Nat.zero_le _, rfl, rfl⟩
  case round =>
    obtain ⟨k, hk, rfl, Hw⟩ := hrel
    have hc : wr.cell? ⟨w.heap.size, k, none⟩ = some (errV p k) := by rw [Hw.out]; exact HC.out k (by omega)
    have hbw : Below w.heap.size w wr := by rw [Hw.out]; exact hb
    have hk17 : (k : Int) < 17 := by omega
    by_cases e : k = j
    · subst e
      clear HO HC hb
      go_wp2_with fail
      refine (HS.out _).mono ?_
      rintro e w' ⟨rfl, rfl⟩
      go_wp2_with fail
      go_ret
      exact ⟨rfl, hbw⟩
    · have ho : Hid (Calls Tryz.prog 38 #[.iface 184 (.pointer (some (adr p j))), errV p k] wr fun e w' => e = .returned (.bool false) ∧ wr = w') := by
        rw [Hw.out]
        exact HO.out k (by omega) e
      clear HO HC hb HS
      go_wp2_with fail
      refine ho.out.mono ?_
      rintro e w' ⟨rfl, rfl⟩
      go_wp2_with fail
      exact ⟨⟨k + 1, by omega, by go_num, Hw⟩, by simp [intOf]; omega⟩

end Go.Proofs.YtogeblmppagabaaGreatDoor.Ck
