/- Texts of this proof, packed: contracts of the program's functions, and the plain model that they are held against. -/
import Derived.Test.YtfnplhfjfolojaaGreatDoorChecked
import Derived.WalkKit
import Derived.Outline
import Derived.BigQuiet
import Derived.Deep.QuietTactic
import Derived.WalkSmall
import Derived.Deep.OwnRows
import Derived.Test.YtfnplhfjfolojaaGreatDoorRows
import Derived.LaidMore
import Derived.MakeChecks
import Derived.Stop.LaidErr
import Derived.Stop.Joined
import Derived.LaidEql
import Derived.Stop.Asserts
import Derived.Deep.RegionHeld3
import Derived.Lib.AtoiAll
import Derived.Shelf.LaysC
import Derived.Shelf.LaysM
import Derived.Shelf.Slices.Turned
import Derived.Shelf.Small.Strs
import Derived.Shelf.Small.Wraps
import Derived.Shelf.Strconv.AtoiAll
import Derived.Shelf.Strconv.Clone
import Derived.Shelf.Strconv.Itoa3
import Derived.Shelf.Strings.Prefix
import Derived.Shelf.Strings.Repeat
import Derived.Test.YtfnplhfjfolojaaGreatDoorProg
import Derived.StillTailTactics
import Derived.Deep.RegionHeld3
set_option maxRecDepth 20000
set_option maxHeartbeats 4000000
namespace Go.Proofs.YtfnplhfjfolojaaGreatDoor.Ck
theorem S_ : (∀ {α : Type} (a : List α) (i : Nat) (h : i < a.toArray.size), a.toArray[i] = a[i]'(by simpa using h)) ∧ (∀ {α : Type} (a : α) (l : List α) (h : 0 < (a :: l).length), (a :: l)[0] = a) ∧ (∀ {α : Type} (a : α) (l : List α) (i : Nat) (h : i + 1 < (a :: l).length), (a :: l)[i + 1] = l[i]'(Nat.lt_of_succ_lt_succ h)) ∧ (∀ {α : Type} (l : List α) (i : Nat) (a : α), l.toArray.setIfInBounds i a = (l.set i a).toArray) ∧ (∀ {α : Type} (l : List α) (x a : α), (a :: l).set 0 x = x :: l) ∧ (∀ {α : Type} (l : List α) (i : Nat) (x a : α), (a :: l).set (i + 1) x = a :: l.set i x) :=
  ⟨fun _ _ _ => List.getElem_toArray _, fun _ _ _ => rfl, fun _ _ _ _ => rfl, fun _ _ _ => List.setIfInBounds_toArray _ _ _, fun _ _ _ => rfl, fun _ _ _ _ => rfl⟩
section
variable {P : Program} {ops : Array Oper} {Q : Exit → Act → World → Prop} {md : Region.Mode} {S : World → Prop} {oi : Oper} {fuel : Nat} {listed : Array Bool} {a : Act} {w : World}
theorem T_ (i : Nat) {v : Value} (hy : ∀ w, (execOp a.eval oi).run P w = .ok (.value v) w) (h : wpAny P md ops Q fuel (listed.setIfInBounds i true) (a.put oi.dst v) w) (hi : ops[i]? = some oi := by rfl) (hs : Region.noSelect ops = true := by kernel_rfl) (hf : Region.free md ops listed i = true := by kernel_rfl) (hr : (Region.ready md ops listed).contains i = true := by kernel_rfl)
    (hQ : ∀ c a w, Q (.panic c) (a.put oi.dst v) w → Q (.panic c) a w := by exact fun _ _ _ h => h) (hw : Region.wanted oi (yielded ops a.tmps) = true := by rfl) : wpAny P md ops Q (fuel + 1) listed a w := wpAny_take hi hs hf hr hQ (Or.inl ⟨hw, hy⟩) h
theorem H_ (i : Nat) {v : Value} (hy : ∀ w, S w → (execOp a.eval oi).run P w = .ok (.value v) w) (hS : S w) (h : wpAnyH P md ops Q S fuel (listed.setIfInBounds i true) (a.put oi.dst v) w) (hi : ops[i]? = some oi := by rfl) (hs : Region.noSelect ops = true := by kernel_rfl) (hf : Region.free md ops listed i = true := by kernel_rfl) (hr : (Region.ready md ops listed).contains i = true := by kernel_rfl)
    (hQ : ∀ c a w, Q (.panic c) (a.put oi.dst v) w → Q (.panic c) a w := by exact fun _ _ _ h => h) (hw : Region.wanted oi (yielded ops a.tmps) = true := by rfl) : wpAnyH P md ops Q S (fuel + 1) listed a w := wpAnyH_take hi hs hf hr hQ (Or.inl ⟨hw, hy⟩) hS h
theorem B_ (w : World) (o : Obj) : (w.alloc o).heap[w.heap.size]? = some o := Go.Deep.blk_alloc_new w o
theorem R_ (i : Nat) (h : ∀ K' : Act → World → Prop, (∀ a w, wpAny P md ops Q fuel (listed.setIfInBounds i true) a w → K' a w) → if Region.wanted oi (yielded ops a.tmps) = true then Oper.wp P oi a w K' Q else K' (a.put oi.dst undef) w) (hr : Region.ready md ops listed = [i] := by kernel_rfl) (ho : ops[i]? = some oi := by rfl) : wpAny P md ops Q (fuel + 1) listed a w :=
  wpAny_ready hr (by simp) (AllReady.cons ho h AllReady.nil)
end
end Go.Proofs.YtfnplhfjfolojaaGreatDoor.Ck
namespace Go.Proofs.YtfnplhfjfolojaaGreatDoor.Ck
open Go.RowKit
def Yc (c : Int) : Bool := c == 32 || c == 9 || c == 10 || c == 13
def ZV (c : Int) : Bool := decide (97 <= c /\ c <= 122) || decide (65 <= c /\ c <= 90) || c == 95
def ZK (c : Int) : Bool := decide (48 <= c /\ c <= 57)
def isHex (c : Int) : Bool := ZK c || decide (97 <= c /\ c <= 102)
def ZJ (c : Int) : Bool := ZV c || ZK c
def notNl (c : Int) : Bool := c != 10
theorem blank_any (c : Int) (w : World) : Calls Tryz.prog 151 #[.int .u8 c] w fun e w' => e = .returned (.bool (Yc c)) /\ w = w' := by
 go_enter Tryz.func151, Tryz.ntmps151
 go_wp2_with (fail)
 all_goals
  go_ret
  refine ⟨congrArg Ending.returned (congrArg Value.bool ?_), rfl⟩
  rw [Bool.eq_iff_iff]
  first
   | (simp [Yc] <;> done)
   | (simp [Yc] <;> omega)
   | (simp_all [Yc] <;> done)
   | (simp_all [Yc] <;> omega)
theorem digit_any (c : Int) (w : World) : Calls Tryz.prog 156 #[.int .u8 c] w fun e w' => e = .returned (.bool (ZK c)) /\ w = w' := by
 go_enter Tryz.func156, Tryz.ntmps156
 go_wp2_with (fail)
 all_goals
  go_ret
  refine ⟨congrArg Ending.returned (congrArg Value.bool ?_), rfl⟩
  rw [Bool.eq_iff_iff]
  first
   | (simp [ZK] <;> done)
   | (simp [ZK] <;> omega)
   | (simp_all [ZK] <;> done)
   | (simp_all [ZK] <;> omega)
theorem letter_any (c : Int) (w : World) : Calls Tryz.prog 154 #[.int .u8 c] w fun e w' => e = .returned (.bool (ZV c)) /\ w = w' := by
 go_enter Tryz.func154, Tryz.ntmps154
 go_wp2_with (fail)
 all_goals
  go_ret
  refine ⟨congrArg Ending.returned (congrArg Value.bool ?_), rfl⟩
  rw [Bool.eq_iff_iff]
  first
   | (simp [ZV] <;> done)
   | (simp [ZV] <;> omega)
   | (simp_all [ZV] <;> done)
   | (simp_all [ZV] <;> omega)
theorem wordByte_any (c : Int) (w : World) : Calls Tryz.prog 190 #[.int .u8 c] w fun e w' => e = .returned (.bool (ZJ c)) /\ w = w' := by
 go_enter Tryz.func190, Tryz.ntmps190
 go_wp2_with (first | (go_at_call 154; refine (letter_any _ _).mono ?_; rintro e w' ⟨rfl, rfl⟩) | (go_at_call 156; refine (digit_any _ _).mono ?_; rintro e w' ⟨rfl, rfl⟩))
 all_goals
  go_ret
  refine ⟨congrArg Ending.returned (congrArg Value.bool ?_), rfl⟩
  rw [Bool.eq_iff_iff]
  first
   | (simp [ZJ] <;> done)
   | (simp [ZJ] <;> omega)
   | (simp_all [ZJ] <;> done)
   | (simp_all [ZJ] <;> omega)
theorem hexDigit_any (c : Int) (w : World) : Calls Tryz.prog 196 #[.int .u8 c] w fun e w' => e = .returned (.bool (isHex c)) /\ w = w' := by
 go_enter Tryz.func196, Tryz.ntmps196
 go_wp2_with (first | (go_at_call 154; refine (letter_any _ _).mono ?_; rintro e w' ⟨rfl, rfl⟩) | (go_at_call 156; refine (digit_any _ _).mono ?_; rintro e w' ⟨rfl, rfl⟩))
 all_goals
  go_ret
  refine ⟨congrArg Ending.returned (congrArg Value.bool ?_), rfl⟩
  rw [Bool.eq_iff_iff]
  first
   | (simp [isHex] <;> done)
   | (simp [isHex] <;> omega)
   | (simp_all [isHex] <;> done)
   | (simp_all [isHex] <;> omega)
theorem notNl_any (c : Int) (w : World) : Calls Tryz.prog 153 #[.int .u8 c] w fun e w' => e = .returned (.bool (notNl c)) /\ w = w' := by
 go_enter Tryz.func153, Tryz.ntmps153
 go_wp2_with (fail)
 all_goals
  go_ret
  refine ⟨congrArg Ending.returned (congrArg Value.bool ?_), rfl⟩
  rw [Bool.eq_iff_iff]
  first
   | (simp [notNl] <;> done)
   | (simp [notNl] <;> omega)
   | (simp_all [notNl] <;> done)
   | (simp_all [notNl] <;> omega)
theorem Zc {w w1 w2 : World} (h : Below w.heap.size w w1) (h2 : Below w1.heap.size w1 w2) : Below w.heap.size w w2 := h.trans (h2.mono h.size)
theorem Zd (w : World) (o : Obj) : Below w.heap.size w (w.alloc o) := (Below.refl _ _).alloc (Nat.le_refl _) o
end Go.Proofs.YtfnplhfjfolojaaGreatDoor.Ck
namespace Go.Proofs.YtfnplhfjfolojaaGreatDoor.Ck
open Go.ChangeShapes Go.WideShapes Go.RowKit
theorem own : ownKnob Tryz.prog.godebug = none := by kernel_rfl
theorem star : "*" ++ "errors.errorString" = "*errors.errorString" := by decide
theorem rowEs (u : TypeId) (h : Tryz.prog.typeName? 3 u = some "*errors.errorString") : u = 231 :=
 typeName_ptr_named (nm := "errors.errorString") (by rw [star]; kernel_rfl) (by kernel_rfl) (by decide) u (by rw [star]; exact h)
theorem cellsEs : Tryz.prog.cellsOf 233 = 1 := by kernel_rfl
theorem cells9 : Tryz.prog.cellsOf 9 = 1 := by kernel_rfl
end Go.Proofs.YtfnplhfjfolojaaGreatDoor.Ck
namespace Go.Proofs.YtfnplhfjfolojaaGreatDoor.Ck
open Go.ChangeShapes Go.WideShapes Go.RowKit
def sentD (t : List UInt8) : DataW Unit := .iface "*errors.errorString" (.ptr (.agg [.lit (.string t)]))
def Sents (W : World) : List Nat -> List Addr -> Prop
 | [], [] => True
 | g :: gs, a :: av => (g < W.heap.size /\ W.cell? ⟨g, 0, none⟩ = some (.iface 231 (.pointer (some a))) /\ ∃ c t, W.heap[a.block]? = some (.cells c t (0, 0))) /\ Sents W gs av
 | _, _ => False
theorem Sents.at {W : World} {gs : List Nat} {av : List Addr} (h : Sents W gs av) (i : Nat) (hi : i < gs.length) :
 (gs.getD i 0 < W.heap.size /\ W.cell? ⟨gs.getD i 0, 0, none⟩ = some (.iface 231 (.pointer (some (av.getD i ⟨0, 0, none⟩)))) /\ ∃ c t, W.heap[(av.getD i ⟨0, 0, none⟩).block]? = some (.cells c t (0, 0))) := by
 induction gs generalizing av i with
 | nil => exact absurd hi (Nat.not_lt_zero _)
 | cons g gs ih =>
  cases av with
  | nil => exact absurd h (fun h => h)
  | cons a av =>
   cases i with
   | zero => exact h.1
   | succ i => exact ih h.2 i (by simpa using hi)
def placeOf (a : Addr) : MemPlace := .cell a.block a.off
theorem sents_of {W : World} (l : List (String × List UInt8)) (gs : List Nat) (ps : List MemPlace) (hlen : l.length = gs.length)
    (hg : ∀ i, i < l.length -> Tryz.prog.globalNamed (l.getD i ("", [])).1 = some (gs.getD i 0) /\ (Tryz.prog.globals[gs.getD i 0]?).map (·.type) = some 24)
    (h : DataW.LaidVars Tryz.prog W (l.map fun x => (x.1, sentD x.2)) ps)
    (hrows : ∀ b off, MemPlace.cell b off ∈ ps -> (∃ c t, W.heap[b]? = some (.cells c t (0, 0))) /\ ∀ u v, W.cell? ⟨b, off, none⟩ = some (.iface u v) -> Value.okWide Tryz.prog W .any 0 u v) :
    ∃ av, Sents W gs av /\ (av.map placeOf).Sublist ps := by
  induction l generalizing gs ps with
  | nil =>
    cases gs with
    | nil => exact ⟨[], trivial, by simp⟩
    | cons g gs => simp at hlen
  | cons x l ih =>
    cases gs with
    | nil => simp at hlen
    | cons g gs =>
      obtain ⟨g0, t0, cs0, f0, p0, q0, hg0, ht0, hv0, hd0, hq0, e0⟩ := h
      have h0 := hg 0 (by simp)
      simp at h0
      obtain rfl := Option.some.inj (h0.1.symm.trans hg0)
      have ht : t0 = 24 := by
        have h1 := ht0
        simp only [Option.map_eq_some_iff] at h1
        obtain ⟨gl, hgl, hgt⟩ := h1
        obtain ⟨gl', hgl', hgt'⟩ := h0.2
        rw [hgl] at hgl'
        cases hgl'
        exact hgt.symm.trans hgt'
      subst ht
      subst e0
      obtain ⟨l0⟩ := cs0
      obtain ⟨a, s0, rfl, hc0, _, _, rfl⟩ := errorString_of_trod Tryz.underlying24 rowEs Tryz.underlying231 Tryz.underlying233 rfl rfl Tryz.underlying9 cellsEs cells9 hd0 (fun u v e => by
        subst e
        exact (hrows g 0 (by simp [MemPlace.row])).2 u v (by simpa using World.var?_cell hg0 hv0 0))
      have hcell := World.var?_cell hg0 hv0 0
      obtain ⟨c, t, hb⟩ := (hrows a.block a.off (by simp [MemPlace.row])).1
      obtain ⟨av, hs, hsub⟩ := ih gs q0 (by simpa using hlen) (fun i hi => by simpa using hg (i + 1) (by simpa using hi)) hq0 (fun b off hm => hrows b off (List.mem_append_right _ hm))
      refine ⟨a :: av, ⟨⟨?_, by simpa using hcell, c, t, hb⟩, hs⟩, ?_⟩
      · rcases Nat.lt_or_ge g W.heap.size with h' | h'
        · exact h'
        · simp [World.cell?, Array.getElem?_eq_none h'] at hcell
      · have e1 : (placeOf a :: av.map placeOf).Sublist (MemPlace.row a 1 ++ q0) := by
          have : MemPlace.row a 1 = [placeOf a] := by simp [MemPlace.row, placeOf]
          rw [this]
          exact List.Sublist.cons_cons _ hsub
        rw [List.append_assoc]
        exact List.Sublist.trans e1 (List.sublist_append_right _ _)
def adr (p : List Addr) (i : Nat) : Addr := p.getD i ⟨0, 0, none⟩
abbrev errV (p : List Addr) (i : Nat) : Value := .iface 231 (.pointer (some (adr p i)))
theorem Zb {p : Prop} (h : p) : Hid p := h
theorem Ze {w : World} {g : Nat} {o : Obj} (h : w.heap[g]? = some o) : g < w.heap.size := (Array.getElem?_eq_some_iff.1 h).1
structure Tn (g : Nat) (w w' : World) : Prop where
 os : w'.os = w.os
 tape : w'.tape = w.tape
 output : w'.output = w.output
 size : w.heap.size <= w'.heap.size
 blk : ∀ k, k < w.heap.size -> k ≠ g -> w'.heap[k]? = w.heap[k]?
theorem Tn.refl (g : Nat) (w : World) : Tn g w w := ⟨rfl, rfl, rfl, Nat.le_refl _, fun _ _ _ => rfl⟩
theorem Tn.trans {g : Nat} {a b c : World} (h : Tn g a b) (k : Tn g b c) : Tn g a c :=
 ⟨k.os.trans h.os, k.tape.trans h.tape, k.output.trans h.output, Nat.le_trans h.size k.size, fun x hx hs => (k.blk x (Nat.lt_of_lt_of_le hx h.size) hs).trans (h.blk x hx hs)⟩
theorem Tn.of_bel {g : Nat} {w w' : World} (h : Below w.heap.size w w') : Tn g w w' := ⟨h.os, h.tape, h.output, h.size, fun k hk _ => h.block k hk⟩
theorem Tn.bel {g : Nat} {w w' : World} (h : Tn g w w') {B : Nat} (hB : B <= g) (hw : B <= w.heap.size) : Below B w w' :=
 ⟨h.os, h.tape, h.output, h.size, fun k hk => h.blk k (by omega) (by omega)⟩
def Rdr (w : World) (g : Nat) (s : ByteArray) (i : Nat) : Prop := w.heap[g]? = some (.cells #[.string s, .int .i64 i] 155 (0, 0))
theorem Rdr.src {w : World} {g : Nat} {s : ByteArray} {i : Nat} (h : Rdr w g s i) : w.cell? ⟨g, 0, none⟩ = some (.string s) := by unfold Rdr at h; simp [World.cell?, h]
theorem Rdr.pos {w : World} {g : Nat} {s : ByteArray} {i : Nat} (h : Rdr w g s i) : w.cell? ⟨g, 1, none⟩ = some (.int .i64 i) := by unfold Rdr at h; simp [World.cell?, h]
theorem Rdr.frz {w : World} {g : Nat} {s : ByteArray} {i : Nat} (h : Rdr w g s i) (k : Nat) : w.frozen? ⟨g, k, none⟩ = false := by unfold Rdr at h; simp [World.frozen?, h]
theorem Rdr.drewN {w : World} {g : Nat} {s : ByteArray} {i : Nat} (h : Rdr w g s i) (k : Nat) : Rdr (w.drewN k) g s i := h
theorem Rdr.below {w w' : World} {g : Nat} {s : ByteArray} {i : Nat} (h : Rdr w g s i) (hb : Below w.heap.size w w') : Rdr w' g s i := (hb.block g (Ze h)).trans h
theorem Rdr.set {w : World} {g : Nat} {s : ByteArray} {i : Nat} (h : Rdr w g s i) (j : Nat) (z : Int) (hz : z = j) : Rdr (w.setCell ⟨g, 1, none⟩ (.int .i64 z)) g s j /\ Tn g w (w.setCell ⟨g, 1, none⟩ (.int .i64 z)) := by
 subst hz
 refine ⟨?_, rfl, rfl, rfl, Nat.le_of_eq (by simp [World.setCell]), fun k _ hk => Below.heap_setCell _ _ _ _ hk⟩
 unfold Rdr
 rw [heap_setCell_same _ _ _ _ _ _ h]
 rfl
def ZZ (s : ByteArray) (i : Nat) : Int := ((s.data.getD i 0).toNat : Int)
def ZC (p : Int -> Bool) (s : ByteArray) (i : Nat) : Nat := if i < s.size then if p (ZZ s i) then ZC p s (i + 1) else i else i
termination_by s.size - i
theorem overF_ge (p : Int -> Bool) (s : ByteArray) (i : Nat) : i <= ZC p s i := by
 rw [ZC]
 split
 · split
   · exact Nat.le_trans (Nat.le_succ i) (overF_ge p s (i + 1))
   · exact Nat.le_refl _
 · exact Nat.le_refl _
termination_by s.size - i
theorem YC (p : Int -> Bool) (s : ByteArray) (i : Nat) (h : i <= s.size) : ZC p s i <= s.size := by
 rw [ZC]
 split
 · split
   · exact YC p s (i + 1) (by omega)
   · exact h
 · exact h
termination_by s.size - i
def posAt (w : World) (g : Nat) : Nat := match w.cell? ⟨g, 1, none⟩ with | some (.int _ z) => z.toNat | _ => 0
theorem Rdr.posAt {w : World} {g : Nat} {s : ByteArray} {i : Nat} (h : Rdr w g s i) : posAt w g = i := by unfold Ck.posAt; rw [h.pos]; rfl
theorem Yn (s : ByteArray) (j : Nat) (h : j < s.size) : ZZ s j = ((s[j]'h).toNat : Int) := by
 have h2 : j < s.data.size := h
 show ((s.data.getD j 0).toNat : Int) = _
 rw [Array.getD_eq_getD_getElem?, Array.getElem?_eq_getElem h2]
 rfl
theorem Tn.drewN {g : Nat} {a b : World} (h : Tn g a b) (k : Nat) : Tn g a (b.drewN k) := h.trans (Tn.of_bel (below_drewN (Below.refl _ _) k))
theorem more_any (g : Nat) (s : ByteArray) (i : Nat) (w : World) (h : Rdr w g s i) :
 Calls Tryz.prog 116 #[.pointer (some ⟨g, 0, none⟩)] w fun e w' => e = .returned (.bool (decide (i < s.size))) /\ ∃ k, w' = w.drewN k := by
 have h1 := h.src
 have h2 := h.pos
 clear h
 go_enter Tryz.func116, Tryz.ntmps116
 go_wp2_with fail
 go_quiet (fail)
 go_wp2_with fail
 go_ret
 exact ⟨by simp, _, rfl⟩
theorem Yo {g : Nat} {s : ByteArray} {i : Nat} {w : World} (h : Rdr w g s i) (hi : i < s.size) :
 Calls Tryz.prog 116 #[.pointer (some ⟨g, 0, none⟩)] w fun e w' => e = .returned (.bool true) /\ ∃ k, w' = w.drewN k := by
 have := more_any g s i w h
 rwa [decide_eq_true hi] at this
theorem more_no {g : Nat} {s : ByteArray} {i : Nat} {w : World} (h : Rdr w g s i) (hi : ¬ i < s.size) :
 Calls Tryz.prog 116 #[.pointer (some ⟨g, 0, none⟩)] w fun e w' => e = .returned (.bool false) /\ ∃ k, w' = w.drewN k := by
 have := more_any g s i w h
 rwa [decide_eq_false hi] at this
theorem over_blank (g : Nat) (s : ByteArray) (i : Nat) (w : World) (h : Rdr w g s i) (hi : s.size <= 9000) (hi2 : i <= s.size) :
 Calls Tryz.prog 150 #[.pointer (some ⟨g, 0, none⟩), .func (.func 151) #[] #[]] w fun e w' => e = .returned (.tuple #[]) /\ Rdr w' g s (ZC Yc s i) /\ Tn g w w' := by
 have H := Zb h
 clear h
 go_enter Tryz.func150, Tryz.ntmps150
 go_wp2_with fail
 go_loopw [4] (fun _ wr => ∃ j : Nat, j <= s.size /\ Hid (Rdr wr g s j /\ ZC Yc s i = ZC Yc s j /\ Tn g w wr)) (fun _ wr => s.size - posAt wr g)
 case atStart => exact ⟨i, hi2, H.out, rfl, Tn.refl _ _⟩
 case round =>
  obtain ⟨j, hj, I⟩ := hrel
  have h1 := I.out.1.src
  have h2 := I.out.1.pos
  have h3 := I.out.1.frz 1
  by_cases hjs : j < s.size
  · have hof : ZC Yc s j = if Yc (ZZ s j) = true then ZC Yc s (j + 1) else j := by rw [ZC, if_pos hjs]
    by_cases hp : Yc (ZZ s j) = true
    · have hp2 : Yc ((s[j]'hjs).toNat : Int) = true := by rw [← Yn]; exact hp
      rw [if_pos hp] at hof
      have Hof := Zb hof
      have HS := Zb (fun n z hz => (I.out.1.drewN n).set (j + 1) z hz)
      clear hp hof
      go_wp2_with fail
      go_quiet (first | (go_at_call 116; exact Calls.quiet_of (Yo (I.out.1.drewN _) hjs)) | (go_at_call 151; exact Calls.quiet_of_same ((blank_any _ _).mono fun _ _ h => ⟨h.1, h.2.symm⟩)))
      go_wp2_with fail
      go_roundw
      case rel => exact ⟨j + 1, by omega, (HS.out _ _ (by omega)).1, I.out.2.1.trans Hof.out, (I.out.2.2.drewN _).trans (HS.out _ _ (by omega)).2⟩
      case measure =>
       rw [(HS.out _ _ (by omega)).1.posAt, I.out.1.posAt]
       omega
    · have hp2 : Yc ((s[j]'hjs).toNat : Int) = false := by rw [← Yn]; simpa using hp
      rw [if_neg hp] at hof
      have Hof := Zb hof
      clear hp hof
      go_wp2_with fail
      go_quiet (first | (go_at_call 116; exact Calls.quiet_of (Yo (I.out.1.drewN _) hjs)) | (go_at_call 151; exact Calls.quiet_of_same ((blank_any _ _).mono fun _ _ h => ⟨h.1, h.2.symm⟩)))
      go_wp2_with fail
      go_end0
      exact ⟨rfl, by rw [I.out.2.1, Hof.out]; exact I.out.1.drewN _, I.out.2.2.drewN _⟩
  · have Hof : Hid (ZC Yc s j = j) := by show _ = _; rw [ZC, if_neg hjs]
    go_wp2_with fail
    go_quiet (first | (go_at_call 116; exact Calls.quiet_of (more_no (I.out.1.drewN _) hjs)))
    go_wp2_with fail
    go_end0
    exact ⟨rfl, by rw [I.out.2.1, Hof.out]; exact I.out.1.drewN _, I.out.2.2.drewN _⟩
theorem over_word (g : Nat) (s : ByteArray) (i : Nat) (w : World) (h : Rdr w g s i) (hi : s.size <= 9000) (hi2 : i <= s.size) :
 Calls Tryz.prog 150 #[.pointer (some ⟨g, 0, none⟩), .func (.func 190) #[] #[]] w fun e w' => e = .returned (.tuple #[]) /\ Rdr w' g s (ZC ZJ s i) /\ Tn g w w' := by
 have H := Zb h
 clear h
 go_enter Tryz.func150, Tryz.ntmps150
 go_wp2_with fail
 go_loopw [4] (fun _ wr => ∃ j : Nat, j <= s.size /\ Hid (Rdr wr g s j /\ ZC ZJ s i = ZC ZJ s j /\ Tn g w wr)) (fun _ wr => s.size - posAt wr g)
 case atStart => exact ⟨i, hi2, H.out, rfl, Tn.refl _ _⟩
 case round =>
  obtain ⟨j, hj, I⟩ := hrel
  have h1 := I.out.1.src
  have h2 := I.out.1.pos
  have h3 := I.out.1.frz 1
  by_cases hjs : j < s.size
  · have hof : ZC ZJ s j = if ZJ (ZZ s j) = true then ZC ZJ s (j + 1) else j := by rw [ZC, if_pos hjs]
    by_cases hp : ZJ (ZZ s j) = true
    · have hp2 : ZJ ((s[j]'hjs).toNat : Int) = true := by rw [← Yn]; exact hp
      rw [if_pos hp] at hof
      have Hof := Zb hof
      have HS := Zb (fun n z hz => (I.out.1.drewN n).set (j + 1) z hz)
      clear hp hof
      go_wp2_with fail
      go_quiet (first | (go_at_call 116; exact Calls.quiet_of (Yo (I.out.1.drewN _) hjs)) | (go_at_call 190; exact Calls.quiet_of_same ((wordByte_any _ _).mono fun _ _ h => ⟨h.1, h.2.symm⟩)))
      go_wp2_with fail
      go_roundw
      case rel => exact ⟨j + 1, by omega, (HS.out _ _ (by omega)).1, I.out.2.1.trans Hof.out, (I.out.2.2.drewN _).trans (HS.out _ _ (by omega)).2⟩
      case measure =>
       rw [(HS.out _ _ (by omega)).1.posAt, I.out.1.posAt]
       omega
    · have hp2 : ZJ ((s[j]'hjs).toNat : Int) = false := by rw [← Yn]; simpa using hp
      rw [if_neg hp] at hof
      have Hof := Zb hof
      clear hp hof
      go_wp2_with fail
      go_quiet (first | (go_at_call 116; exact Calls.quiet_of (Yo (I.out.1.drewN _) hjs)) | (go_at_call 190; exact Calls.quiet_of_same ((wordByte_any _ _).mono fun _ _ h => ⟨h.1, h.2.symm⟩)))
      go_wp2_with fail
      go_end0
      exact ⟨rfl, by rw [I.out.2.1, Hof.out]; exact I.out.1.drewN _, I.out.2.2.drewN _⟩
  · have Hof : Hid (ZC ZJ s j = j) := by show _ = _; rw [ZC, if_neg hjs]
    go_wp2_with fail
    go_quiet (first | (go_at_call 116; exact Calls.quiet_of (more_no (I.out.1.drewN _) hjs)))
    go_wp2_with fail
    go_end0
    exact ⟨rfl, by rw [I.out.2.1, Hof.out]; exact I.out.1.drewN _, I.out.2.2.drewN _⟩
theorem over_digit (g : Nat) (s : ByteArray) (i : Nat) (w : World) (h : Rdr w g s i) (hi : s.size <= 9000) (hi2 : i <= s.size) :
 Calls Tryz.prog 150 #[.pointer (some ⟨g, 0, none⟩), .func (.func 156) #[] #[]] w fun e w' => e = .returned (.tuple #[]) /\ Rdr w' g s (ZC ZK s i) /\ Tn g w w' := by
 have H := Zb h
 clear h
 go_enter Tryz.func150, Tryz.ntmps150
 go_wp2_with fail
 go_loopw [4] (fun _ wr => ∃ j : Nat, j <= s.size /\ Hid (Rdr wr g s j /\ ZC ZK s i = ZC ZK s j /\ Tn g w wr)) (fun _ wr => s.size - posAt wr g)
 case atStart => exact ⟨i, hi2, H.out, rfl, Tn.refl _ _⟩
 case round =>
  obtain ⟨j, hj, I⟩ := hrel
  have h1 := I.out.1.src
  have h2 := I.out.1.pos
  have h3 := I.out.1.frz 1
  by_cases hjs : j < s.size
  · have hof : ZC ZK s j = if ZK (ZZ s j) = true then ZC ZK s (j + 1) else j := by rw [ZC, if_pos hjs]
    by_cases hp : ZK (ZZ s j) = true
    · have hp2 : ZK ((s[j]'hjs).toNat : Int) = true := by rw [← Yn]; exact hp
      rw [if_pos hp] at hof
      have Hof := Zb hof
      have HS := Zb (fun n z hz => (I.out.1.drewN n).set (j + 1) z hz)
      clear hp hof
      go_wp2_with fail
      go_quiet (first | (go_at_call 116; exact Calls.quiet_of (Yo (I.out.1.drewN _) hjs)) | (go_at_call 156; exact Calls.quiet_of_same ((digit_any _ _).mono fun _ _ h => ⟨h.1, h.2.symm⟩)))
      go_wp2_with fail
      go_roundw
      case rel => exact ⟨j + 1, by omega, (HS.out _ _ (by omega)).1, I.out.2.1.trans Hof.out, (I.out.2.2.drewN _).trans (HS.out _ _ (by omega)).2⟩
      case measure =>
       rw [(HS.out _ _ (by omega)).1.posAt, I.out.1.posAt]
       omega
    · have hp2 : ZK ((s[j]'hjs).toNat : Int) = false := by rw [← Yn]; simpa using hp
      rw [if_neg hp] at hof
      have Hof := Zb hof
      clear hp hof
      go_wp2_with fail
      go_quiet (first | (go_at_call 116; exact Calls.quiet_of (Yo (I.out.1.drewN _) hjs)) | (go_at_call 156; exact Calls.quiet_of_same ((digit_any _ _).mono fun _ _ h => ⟨h.1, h.2.symm⟩)))
      go_wp2_with fail
      go_end0
      exact ⟨rfl, by rw [I.out.2.1, Hof.out]; exact I.out.1.drewN _, I.out.2.2.drewN _⟩
  · have Hof : Hid (ZC ZK s j = j) := by show _ = _; rw [ZC, if_neg hjs]
    go_wp2_with fail
    go_quiet (first | (go_at_call 116; exact Calls.quiet_of (more_no (I.out.1.drewN _) hjs)))
    go_wp2_with fail
    go_end0
    exact ⟨rfl, by rw [I.out.2.1, Hof.out]; exact I.out.1.drewN _, I.out.2.2.drewN _⟩
theorem over_nl (g : Nat) (s : ByteArray) (i : Nat) (w : World) (h : Rdr w g s i) (hi : s.size <= 9000) (hi2 : i <= s.size) :
 Calls Tryz.prog 150 #[.pointer (some ⟨g, 0, none⟩), .func (.func 153) #[] #[]] w fun e w' => e = .returned (.tuple #[]) /\ Rdr w' g s (ZC notNl s i) /\ Tn g w w' := by
 have H := Zb h
 clear h
 go_enter Tryz.func150, Tryz.ntmps150
 go_wp2_with fail
 go_loopw [4] (fun _ wr => ∃ j : Nat, j <= s.size /\ Hid (Rdr wr g s j /\ ZC notNl s i = ZC notNl s j /\ Tn g w wr)) (fun _ wr => s.size - posAt wr g)
 case atStart => exact ⟨i, hi2, H.out, rfl, Tn.refl _ _⟩
 case round =>
  obtain ⟨j, hj, I⟩ := hrel
  have h1 := I.out.1.src
  have h2 := I.out.1.pos
  have h3 := I.out.1.frz 1
  by_cases hjs : j < s.size
  · have hof : ZC notNl s j = if notNl (ZZ s j) = true then ZC notNl s (j + 1) else j := by rw [ZC, if_pos hjs]
    by_cases hp : notNl (ZZ s j) = true
    · have hp2 : notNl ((s[j]'hjs).toNat : Int) = true := by rw [← Yn]; exact hp
      rw [if_pos hp] at hof
      have Hof := Zb hof
      have HS := Zb (fun n z hz => (I.out.1.drewN n).set (j + 1) z hz)
      clear hp hof
      go_wp2_with fail
      go_quiet (first | (go_at_call 116; exact Calls.quiet_of (Yo (I.out.1.drewN _) hjs)) | (go_at_call 153; exact Calls.quiet_of_same ((notNl_any _ _).mono fun _ _ h => ⟨h.1, h.2.symm⟩)))
      go_wp2_with fail
      go_roundw
      case rel => exact ⟨j + 1, by omega, (HS.out _ _ (by omega)).1, I.out.2.1.trans Hof.out, (I.out.2.2.drewN _).trans (HS.out _ _ (by omega)).2⟩
      case measure =>
       rw [(HS.out _ _ (by omega)).1.posAt, I.out.1.posAt]
       omega
    · have hp2 : notNl ((s[j]'hjs).toNat : Int) = false := by rw [← Yn]; simpa using hp
      rw [if_neg hp] at hof
      have Hof := Zb hof
      clear hp hof
      go_wp2_with fail
      go_quiet (first | (go_at_call 116; exact Calls.quiet_of (Yo (I.out.1.drewN _) hjs)) | (go_at_call 153; exact Calls.quiet_of_same ((notNl_any _ _).mono fun _ _ h => ⟨h.1, h.2.symm⟩)))
      go_wp2_with fail
      go_end0
      exact ⟨rfl, by rw [I.out.2.1, Hof.out]; exact I.out.1.drewN _, I.out.2.2.drewN _⟩
  · have Hof : Hid (ZC notNl s j = j) := by show _ = _; rw [ZC, if_neg hjs]
    go_wp2_with fail
    go_quiet (first | (go_at_call 116; exact Calls.quiet_of (more_no (I.out.1.drewN _) hjs)))
    go_wp2_with fail
    go_end0
    exact ⟨rfl, by rw [I.out.2.1, Hof.out]; exact I.out.1.drewN _, I.out.2.2.drewN _⟩
def badV (ev : Value) (i : Nat) : Value := .iface 37 (.agg #[ev, .int .i64 i])
theorem YF (te : TypeId) (pe : Value) (i : Nat) (w : World) :
 Calls Tryz.prog 117 #[.iface te pe, .int .i64 i] w fun e w' => e = .panicked [{ v := badV (.iface te pe) i, recovered := false }] /\ w = w' := by
 go_enter Tryz.func117, Tryz.ntmps117
 go_wp2_with fail
 exact ⟨rfl, rfl, rfl⟩
theorem overF_pos (p : Int -> Bool) (s : ByteArray) (i : Nat) (hi : i < s.size) (hp : p (ZZ s i) = true) : ZC p s i = ZC p s (i + 1) := by
 rw [ZC, if_pos hi, if_pos hp]
theorem overF_stop (p : Int -> Bool) (s : ByteArray) (i : Nat) (hp : p (ZZ s i) = false) : ZC p s i = i := by
 rw [ZC]
 split
 · rw [if_neg (by simp [hp])]
 · rfl
theorem overF_end (p : Int -> Bool) (s : ByteArray) (i : Nat) (hi : ¬ i < s.size) : ZC p s i = i := by rw [ZC, if_neg hi]
theorem overF_lt (p : Int -> Bool) (s : ByteArray) (i : Nat) (hi : i < s.size) (hp : p (ZZ s i) = true) : i < ZC p s i := by
 rw [overF_pos p s i hi hp]
 exact overF_ge p s (i + 1)
def comm (s : ByteArray) (j : Nat) : Bool := decide (j + 1 < s.size) && (ZZ s j == 47 && ZZ s (j + 1) == 47)
def pastC (s : ByteArray) (j : Nat) : Nat := ZC Yc s (ZC notNl s j)
theorem comm_lt {s : ByteArray} {j : Nat} (h : comm s j = true) : j + 1 < s.size := by
 unfold comm at h
 simp only [Bool.and_eq_true, decide_eq_true_eq] at h
 exact h.1
theorem pastC_gt {s : ByteArray} {j : Nat} (h : comm s j = true) : j < pastC s j := by
 have h1 := comm_lt h
 unfold comm at h
 simp only [Bool.and_eq_true, beq_iff_eq] at h
 have : j < ZC notNl s j := overF_lt _ _ _ (by omega) (by rw [h.2.1]; decide)
 exact Nat.lt_of_lt_of_le this (overF_ge _ _ _)
theorem pastC_le {s : ByteArray} {j : Nat} (h : j <= s.size) : pastC s j <= s.size := YC _ _ _ (YC _ _ _ h)
def skipC (s : ByteArray) (j : Nat) : Nat := if _h : comm s j = true then skipC s (pastC s j) else j
termination_by s.size - j
decreasing_by
 have := pastC_gt _h
 have := comm_lt _h
 omega
theorem skipC_yes {s : ByteArray} {j : Nat} (h : comm s j = true) : skipC s j = skipC s (pastC s j) := by rw [skipC, dif_pos h]
theorem skipC_no {s : ByteArray} {j : Nat} (h : comm s j = false) : skipC s j = j := by rw [skipC, dif_neg (by simp [h])]
theorem skipC_ge (s : ByteArray) (j : Nat) : j <= skipC s j := by
 by_cases h : comm s j = true
 · rw [skipC_yes h]
   have h1 := pastC_gt h
   have h2 := comm_lt h
   exact Nat.le_trans (Nat.le_of_lt h1) (skipC_ge s (pastC s j))
 · rw [skipC_no (by simpa using h)]
   exact Nat.le_refl _
termination_by s.size - j
theorem skipC_le (s : ByteArray) (j : Nat) (hj : j <= s.size) : skipC s j <= s.size := by
 by_cases h : comm s j = true
 · rw [skipC_yes h]
   have h1 := pastC_gt h
   have h2 := comm_lt h
   exact skipC_le s (pastC s j) (pastC_le hj)
 · rw [skipC_no (by simpa using h)]
   exact hj
termination_by s.size - j
def blF (s : ByteArray) (i : Nat) : Nat := skipC s (ZC Yc s i)
theorem blF_ge (s : ByteArray) (i : Nat) : i <= blF s i := Nat.le_trans (overF_ge _ _ _) (skipC_ge _ _)
theorem blF_le (s : ByteArray) (i : Nat) (h : i <= s.size) : blF s i <= s.size := skipC_le _ _ (YC _ _ _ h)
structure Tk where
 kind : Nat
 text : ByteArray
 n : Int
 bits : Nat
 pos : Nat
def Tk.cells (t : Tk) : List Value := [.int .i64 t.kind, .string t.text, .int .i64 t.n, .int .u64 t.bits, .int .i64 t.pos]
def Tk.val (t : Tk) : Value := .agg #[.int .i64 t.kind, .string t.text, .int .i64 t.n, .int .u64 t.bits, .int .i64 t.pos]
def keyTab : List (List UInt8) := [[97, 100, 100], [97, 116, 111, 109, 105, 99], [98, 111, 111, 108], [99, 104, 97, 110], [101, 108, 115, 101], [102, 97, 105, 108], [102, 97, 108, 115, 101], [102, 108, 111, 97, 116], [102, 117, 110, 99], [103, 101, 116], [103, 111], [105, 102], [105, 110, 116], [108, 111, 99, 107], [109, 117, 116, 101, 120], [112, 117, 116], [114, 101, 99, 118], [114, 101, 116, 117, 114, 110], [115, 101, 110, 100], [116, 114, 117, 101], [117, 110, 108, 111, 99, 107], [118, 97, 114], [119, 104, 105, 108, 101]]
def isKey (t : ByteArray) : Bool := keyTab.any (fun k => t.toList == k)
def two (a b : Int) : Bool := (a == 58 && b == 61) || (a == 61 && b == 61) || (a == 33 && b == 61) || (a == 60 && b == 61) || (a == 62 && b == 61) || (a == 38 && b == 38) || (a == 124 && b == 124)
def oneTab : List Int := [43, 45, 42, 47, 37, 60, 62, 61, 33, 40, 41, 123, 125, 91, 93, 44, 59]
def markF (s : ByteArray) (i : Nat) : Nat :=
 if i + 1 < s.size /\ two (ZZ s i) (ZZ s (i + 1)) = true then 2
 else if i < s.size /\ ZZ s i ∈ oneTab then 1 else 0
theorem markF_le (s : ByteArray) (i : Nat) (h : i <= s.size) : i + markF s i <= s.size := by
 unfold markF
 split
 · omega
 · split <;> omega
theorem markF_le2 (s : ByteArray) (i : Nat) : markF s i <= 2 := by
 unfold markF
 split
 · omega
 · split <;> omega
def Yl (s : ByteArray) (i j : Nat) : Nat := if j < s.size then if isHex (ZZ s j) && decide (j - i <= 16) then Yl s i (j + 1) else j else j
termination_by s.size - j
theorem overH_ge (s : ByteArray) (i j : Nat) : j <= Yl s i j := by
 rw [Yl]
 split
 · split
   · exact Nat.le_trans (Nat.le_succ j) (overH_ge s i (j + 1))
   · exact Nat.le_refl _
 · exact Nat.le_refl _
termination_by s.size - j
theorem overH_le (s : ByteArray) (i j : Nat) (h : j <= s.size) : Yl s i j <= s.size := by
 rw [Yl]
 split
 · split
   · exact overH_le s i (j + 1) (by omega)
   · exact h
 · exact h
termination_by s.size - j
def hexV (c : Nat) : Nat := if c <= 57 then c - 48 else c - 87
def hexF (l : List UInt8) : Nat := l.foldl (fun a c => 16 * a + hexV c.toNat) 0
def cut (s : ByteArray) (i j : Nat) : ByteArray := s.extract i j
inductive Got where
 | ok (t : Tk) (e : Nat)
 | bad (k : Nat) (i : Nat)
def wordF (s : ByteArray) (i : Nat) : Got :=
 if 24 < ZC ZJ s i - i then .bad 5 i
 else .ok ⟨if isKey (cut s i (ZC ZJ s i)) = true then 2 else 1, cut s i (ZC ZJ s i), 0, 0, i⟩ (ZC ZJ s i)
def endI (s : ByteArray) (i : Nat) : Nat := if ZZ s i = 48 then i + 1 else ZC ZK s i
def tight (s : ByteArray) (e : Nat) : Bool := decide (e < s.size) && ZJ (ZZ s e)
def intF (s : ByteArray) (i : Nat) : Got :=
 match Lib.atoiAll (cut s i (endI s i)).data.toList with
 | .ok v => if tight s (endI s i) = true then .bad 1 (endI s i) else .ok ⟨3, cut s i (endI s i), v, 0, i⟩ (endI s i)
 | _ => .bad 0 i
def floatF (s : ByteArray) (i : Nat) : Got :=
 if Yl s i (i + 1) - i = 17 then
  if tight s (Yl s i (i + 1)) = true then .bad 1 (Yl s i (i + 1))
  else .ok ⟨4, cut s i (Yl s i (i + 1)), 0, hexF (cut s (i + 1) (Yl s i (i + 1))).data.toList, i⟩ (Yl s i (i + 1))
 else .bad 1 i
def signF (s : ByteArray) (i : Nat) : Got := if markF s i = 0 then .bad 1 i else .ok ⟨5, cut s i (i + markF s i), 0, 0, i⟩ (i + markF s i)
def tokF (s : ByteArray) (i : Nat) : Got :=
 if ZV (ZZ s i) = true then wordF s i
 else if ZK (ZZ s i) = true then intF s i
 else if ZZ s i = 35 then floatF s i
 else signF s i
theorem endI_gt (s : ByteArray) (i : Nat) (h : i < s.size) (hd : ZK (ZZ s i) = true) : i < endI s i /\ endI s i <= s.size := by
 unfold endI
 split
 · omega
 · exact ⟨overF_lt _ _ _ h hd, YC _ _ _ (by omega)⟩
theorem tokF_ok {s : ByteArray} {i : Nat} (h : i < s.size) {t : Tk} {e : Nat} (ht : tokF s i = .ok t e) : i < e /\ e <= s.size := by
 unfold tokF at ht
 split at ht
 · rename_i hl
   unfold wordF at ht
   split at ht
   · cases ht
   · cases ht
     exact ⟨overF_lt _ _ _ h (by unfold ZJ; rw [hl]; rfl), YC _ _ _ (by omega)⟩
 · split at ht
   · rename_i hd
     unfold intF at ht
     split at ht
     · split at ht
       · cases ht
       · cases ht
         exact endI_gt s i h hd
     · cases ht
   · split at ht
     · unfold floatF at ht
       split at ht
       · split at ht
         · cases ht
         · cases ht
           have := overH_le s i (i + 1) (by omega)
           omega
       · cases ht
     · unfold signF at ht
       split at ht
       · cases ht
       · cases ht
         have := markF_le s i (by omega)
         omega
inductive Ended where
 | ok (l : List Tk)
 | bad (k : Nat) (i : Nat)
def rdF (s : ByteArray) (i : Nat) (acc : List Tk) : Ended :=
 if _h : i < s.size then
  if acc.length = 2000 then .bad 5 i
  else match _ht : tokF s i with
   | .bad k j => .bad k j
   | .ok t e => rdF s (blF s e) (acc ++ [t])
 else .ok acc
termination_by s.size - i
decreasing_by
 have h1 := tokF_ok _h _ht
 have h2 := blF_ge s e
 omega
def readF (s : ByteArray) : Ended := rdF s (blF s 0) []
theorem rdF_end {s : ByteArray} {i : Nat} {acc : List Tk} (h : ¬ i < s.size) : rdF s i acc = .ok acc := by rw [rdF, dif_neg h]
theorem rdF_full {s : ByteArray} {i : Nat} {acc : List Tk} (h : i < s.size) (hl : acc.length = 2000) : rdF s i acc = .bad 5 i := by rw [rdF, dif_pos h, if_pos hl]
theorem rdF_bad {s : ByteArray} {i : Nat} {acc : List Tk} (h : i < s.size) (hl : ¬ acc.length = 2000) {k j : Nat} (ht : tokF s i = .bad k j) : rdF s i acc = .bad k j := by
 rw [rdF, dif_pos h, if_neg hl]
 split
 · rename_i h2
   rw [ht] at h2
   cases h2
   rfl
 · rename_i h2
   rw [ht] at h2
   cases h2
theorem rdF_step {s : ByteArray} {i : Nat} {acc : List Tk} (h : i < s.size) (hl : ¬ acc.length = 2000) {t : Tk} {e : Nat} (ht : tokF s i = .ok t e) : rdF s i acc = rdF s (blF s e) (acc ++ [t]) := by
 rw [rdF, dif_pos h, if_neg hl]
 split
 · rename_i h2
   rw [ht] at h2
   cases h2
 · rename_i h2
   rw [ht] at h2
   cases h2
   rfl
end Go.Proofs.YtfnplhfjfolojaaGreatDoor.Ck
namespace Go.Proofs
open Go.Shelf
def Tryz.lays137_ren : Go.Shelf.Ren := ⟨fun | 137 => 219 | 217 => 243 | 266 => 252 | n => n, fun | 9 => 9 | 5 => 5 | 3 => 3 | n => n, fun | n => n⟩
theorem Tryz.lays137 : Go.Proofs.Lays.n137 Tryz.prog Tryz.lays137_ren := {
 mixed := by kernel_rfl
 f137 := Tryz.func219.trans (congrArg some (by kernel_rfl))
 f217 := Tryz.func243.trans (congrArg some (by kernel_rfl))
 f266 := Tryz.func252.trans (congrArg some (by kernel_rfl))
 t3 := Tryz.underlying3
 a3 := Tryz.isAgg3
 z3 := Tryz.sizeOf3
 v3 := Tryz.zeroValue3
 t5 := Tryz.underlying5
 a5 := Tryz.isAgg5
 z5 := Tryz.sizeOf5
 v5 := Tryz.zeroValue5
 t9 := Tryz.underlying9
 a9 := Tryz.isAgg9
 z9 := Tryz.sizeOf9
 v9 := Tryz.zeroValue9 }
open Go.RowKit in
theorem Tryz.strings_IndexByte (s : ByteArray) (c : Int) (w : World) :
 Calls Tryz.prog 219 #[.string s, .int .u8 c] w fun e w' => e = .returned (.int .i64 (Lib.indexByte s.data.toList c.toNat.toUInt8)) /\ w' = w := Any.strings_IndexByte Tryz.lays137 s c w
def Tryz.laysM316_ren : Go.Shelf.Ren := ⟨fun | 316 => 235 | n => n, fun | 9 => 9 | 3 => 3 | 4 => 4 | 37 => 33 | 0 => 0 | 127 => 148 | 5 => 5 | n => n, fun | n => n⟩
theorem Tryz.laysM316 : Go.Proofs.LaysM.n316 Tryz.prog Tryz.laysM316_ren := {
 mixed := by kernel_rfl
 f316 := Tryz.func235.trans (congrArg some (by kernel_rfl))
 t0 := Tryz.underlying0
 a0 := Tryz.isAgg0
 z0 := Tryz.sizeOf0
 v0 := Tryz.zeroValue0
 t3 := Tryz.underlying3
 a3 := Tryz.isAgg3
 z3 := Tryz.sizeOf3
 v3 := Tryz.zeroValue3
 t4 := Tryz.underlying4
 a4 := Tryz.isAgg4
 z4 := Tryz.sizeOf4
 v4 := Tryz.zeroValue4
 t9 := Tryz.underlying9
 a9 := Tryz.isAgg9
 z9 := Tryz.sizeOf9
 v9 := Tryz.zeroValue9
 t37 := Tryz.underlying33
 a37 := Tryz.isAgg33
 z37 := Tryz.sizeOf33
 v37 := Tryz.zeroValue33
 t127 := Tryz.underlying148
 a127 := Tryz.isAgg148
 z127 := Tryz.sizeOf148
 v127 := Tryz.zeroValue148
 t5 := Tryz.underlying5
 a5 := Tryz.isAgg5
 z5 := Tryz.sizeOf5
 v5 := Tryz.zeroValue5
 i0 := by kernel_rfl
 i3 := by kernel_rfl
 i4 := by kernel_rfl
 i5 := by kernel_rfl
 i9 := by kernel_rfl
 i37 := by kernel_rfl
 i127 := by kernel_rfl }
open Go.RowKit in
theorem Tryz.stringslite_Clone (s : ByteArray) (w : World) (hlim : s.size <= 281474976710656) :
 Calls Tryz.prog 235 #[.string s] w fun e w' => e = .returned (.string s) /\ Below w.heap.size w w' := Any.stringslite_Clone Tryz.laysM316 s w hlim
def Tryz.laysC172_ren : Go.Shelf.Ren := ⟨fun | 172 => 193 | 244 => 216 | 245 => 217 | 247 => 236 | 279 => 237 | 280 => 238 | 281 => 239 | 282 => 240 | 287 => 218 | 316 => 235 | 171 => 99 | 205 => 251 | 321 => 241 | 322 => 242 | 243 => 137 | 246 => 176 | 283 => 207 | 284 => 208 | 285 => 209 | 286 => 210 | 129 => 230 | 317 => 229 | 318 => 231 | 319 => 232 | 320 => 233 | 337 => 249 | 338 => 250 | n => n, fun | 9 => 9 | 3 => 3 | 75 => 24 | 76 => 165 | 4 => 4 | 5 => 5 | 167 => 218 | 37 => 33 | 0 => 0 | 85 => 219 | 2 => 2 | 168 => 221 | 53 => 26 | 175 => 190 | 46 => 32 | 210 => 227 | 127 => 148 | 145 => 233 | 143 => 231 | 21 => 21 | 171 => 201 | 173 => 204 | 212 => 213 | 51 => 193 | 20 => 20 | 213 => 214 | 232 => 229 | 233 => 230 | 80 => 100 | n => n, fun | 15 => 19 | 16 => 20 | 17 => 17 | 18 => 21 | 19 => 22 | n => n⟩
theorem Tryz.laysC172 : Go.Proofs.LaysC.n172 Tryz.prog Tryz.laysC172_ren := {
 mixed := by kernel_rfl
 f129 := Tryz.func230.trans (congrArg some (by kernel_rfl))
 f171 := Tryz.func99.trans (congrArg some (by kernel_rfl))
 f172 := Tryz.func193.trans (congrArg some (by kernel_rfl))
 f205 := Tryz.func251.trans (congrArg some (by kernel_rfl))
 f243 := Tryz.func137.trans (congrArg some (by kernel_rfl))
 f244 := Tryz.func216.trans (congrArg some (by kernel_rfl))
 f245 := Tryz.func217.trans (congrArg some (by kernel_rfl))
 f246 := Tryz.func176.trans (congrArg some (by kernel_rfl))
 f247 := Tryz.func236.trans (congrArg some (by kernel_rfl))
 f279 := Tryz.func237.trans (congrArg some (by kernel_rfl))
 f280 := Tryz.func238.trans (congrArg some (by kernel_rfl))
 f281 := Tryz.func239.trans (congrArg some (by kernel_rfl))
 f282 := Tryz.func240.trans (congrArg some (by kernel_rfl))
 f283 := Tryz.func207.trans (congrArg some (by kernel_rfl))
 f284 := Tryz.func208.trans (congrArg some (by kernel_rfl))
 f285 := Tryz.func209.trans (congrArg some (by kernel_rfl))
 f286 := Tryz.func210.trans (congrArg some (by kernel_rfl))
 f287 := Tryz.func218.trans (congrArg some (by kernel_rfl))
 f316 := Tryz.func235.trans (congrArg some (by kernel_rfl))
 f317 := Tryz.func229.trans (congrArg some (by kernel_rfl))
 f318 := Tryz.func231.trans (congrArg some (by kernel_rfl))
 f319 := Tryz.func232.trans (congrArg some (by kernel_rfl))
 f320 := Tryz.func233.trans (congrArg some (by kernel_rfl))
 f321 := Tryz.func241.trans (congrArg some (by kernel_rfl))
 f322 := Tryz.func242.trans (congrArg some (by kernel_rfl))
 f337 := Tryz.func249.trans (congrArg some (by kernel_rfl))
 f338 := Tryz.func250.trans (congrArg some (by kernel_rfl))
 t0 := Tryz.underlying0
 a0 := Tryz.isAgg0
 z0 := Tryz.sizeOf0
 v0 := Tryz.zeroValue0
 t2 := Tryz.underlying2
 a2 := Tryz.isAgg2
 z2 := Tryz.sizeOf2
 v2 := Tryz.zeroValue2
 t3 := Tryz.underlying3
 a3 := Tryz.isAgg3
 z3 := Tryz.sizeOf3
 v3 := Tryz.zeroValue3
 t4 := Tryz.underlying4
 a4 := Tryz.isAgg4
 z4 := Tryz.sizeOf4
 v4 := Tryz.zeroValue4
 t5 := Tryz.underlying5
 a5 := Tryz.isAgg5
 z5 := Tryz.sizeOf5
 v5 := Tryz.zeroValue5
 t9 := Tryz.underlying9
 a9 := Tryz.isAgg9
 z9 := Tryz.sizeOf9
 v9 := Tryz.zeroValue9
 t20 := Tryz.underlying20
 a20 := Tryz.isAgg20
 z20 := Tryz.sizeOf20
 v20 := Tryz.zeroValue20
 t21 := Tryz.underlying21
 a21 := Tryz.isAgg21
 z21 := Tryz.sizeOf21
 v21 := Tryz.zeroValue21
 t37 := Tryz.underlying33
 a37 := Tryz.isAgg33
 z37 := Tryz.sizeOf33
 v37 := Tryz.zeroValue33
 t46 := Tryz.underlying32
 a46 := Tryz.isAgg32
 z46 := Tryz.sizeOf32
 v46 := Tryz.zeroValue32
 t51 := Tryz.underlying193
 a51 := Tryz.isAgg193
 z51 := Tryz.sizeOf193
 v51 := Tryz.zeroValue193
 t53 := Tryz.underlying26
 a53 := Tryz.isAgg26
 z53 := Tryz.sizeOf26
 v53 := Tryz.zeroValue26
 t75 := Tryz.underlying24
 a75 := Tryz.isAgg24
 z75 := Tryz.sizeOf24
 v75 := Tryz.zeroValue24
 t76 := Tryz.underlying165
 a76 := Tryz.isAgg165
 z76 := Tryz.sizeOf165
 v76 := Tryz.zeroValue165
 t85 := Tryz.underlying219
 a85 := Tryz.isAgg219
 z85 := Tryz.sizeOf219
 v85 := Tryz.zeroValue219
 t127 := Tryz.underlying148
 a127 := Tryz.isAgg148
 z127 := Tryz.sizeOf148
 v127 := Tryz.zeroValue148
 t143 := Tryz.underlying231
 a143 := Tryz.isAgg231
 z143 := Tryz.sizeOf231
 v143 := Tryz.zeroValue231
 t145 := Tryz.underlying233
 a145 := Tryz.isAgg233
 z145 := Tryz.sizeOf233
 v145 := Tryz.zeroValue233
 t167 := Tryz.underlying218
 a167 := Tryz.isAgg218
 z167 := Tryz.sizeOf218
 v167 := Tryz.zeroValue218
 t168 := Tryz.underlying221
 a168 := Tryz.isAgg221
 z168 := Tryz.sizeOf221
 v168 := Tryz.zeroValue221
 t171 := Tryz.underlying201
 a171 := Tryz.isAgg201
 z171 := Tryz.sizeOf201
 v171 := Tryz.zeroValue201
 t173 := Tryz.underlying204
 a173 := Tryz.isAgg204
 z173 := Tryz.sizeOf204
 v173 := Tryz.zeroValue204
 t175 := Tryz.underlying190
 a175 := Tryz.isAgg190
 z175 := Tryz.sizeOf190
 v175 := Tryz.zeroValue190
 t210 := Tryz.underlying227
 a210 := Tryz.isAgg227
 z210 := Tryz.sizeOf227
 v210 := Tryz.zeroValue227
 t212 := Tryz.underlying213
 a212 := Tryz.isAgg213
 z212 := Tryz.sizeOf213
 v212 := Tryz.zeroValue213
 t213 := Tryz.underlying214
 a213 := Tryz.isAgg214
 z213 := Tryz.sizeOf214
 t232 := Tryz.underlying229
 a232 := Tryz.isAgg229
 z232 := Tryz.sizeOf229
 v232 := Tryz.zeroValue229
 t233 := Tryz.underlying230
 a233 := Tryz.isAgg230
 z233 := Tryz.sizeOf230
 v233 := Tryz.zeroValue230
 g15 := by kernel_rfl
 g16 := by kernel_rfl
 g17 := by kernel_rfl
 g18 := by kernel_rfl
 g19 := by kernel_rfl
 t80 := Tryz.underlying100
 a80 := Tryz.isAgg100
 z80 := Tryz.sizeOf100
 v80 := Tryz.zeroValue100
 i0 := by kernel_rfl
 i2 := by kernel_rfl
 i3 := by kernel_rfl
 i4 := by kernel_rfl
 i5 := by kernel_rfl
 i9 := by kernel_rfl
 i20 := by kernel_rfl
 i21 := by kernel_rfl
 i37 := by kernel_rfl
 i46 := by kernel_rfl
 i51 := by kernel_rfl
 i53 := by kernel_rfl
 i75 := by kernel_rfl
 i76 := by kernel_rfl
 i80 := by kernel_rfl
 i85 := by kernel_rfl
 i127 := by kernel_rfl
 i143 := by kernel_rfl
 i145 := by kernel_rfl
 i167 := by kernel_rfl
 i168 := by kernel_rfl
 i171 := by kernel_rfl
 i173 := by kernel_rfl
 i175 := by kernel_rfl
 i210 := by kernel_rfl
 i212 := by kernel_rfl
 i232 := by kernel_rfl
 i233 := by kernel_rfl
 m15 := by kernel_rfl
 m16 := by kernel_rfl
 m17 := by kernel_rfl
 m18 := by kernel_rfl
 m19 := by kernel_rfl
 c0 := by kernel_rfl
 c2 := by kernel_rfl
 c3 := by kernel_rfl
 c4 := by kernel_rfl
 c5 := by kernel_rfl
 c9 := by kernel_rfl
 c20 := by kernel_rfl
 c21 := by kernel_rfl
 c37 := by kernel_rfl
 c46 := by kernel_rfl
 c51 := by kernel_rfl
 c53 := by kernel_rfl
 c75 := by kernel_rfl
 c76 := by kernel_rfl
 c80 := by kernel_rfl
 c85 := by kernel_rfl
 c127 := by kernel_rfl
 c143 := by kernel_rfl
 c145 := by kernel_rfl
 c167 := by kernel_rfl
 c168 := by kernel_rfl
 c171 := by kernel_rfl
 c173 := by kernel_rfl
 c175 := by kernel_rfl
 c210 := by kernel_rfl
 c212 := by kernel_rfl
 c213 := by kernel_rfl
 c232 := by kernel_rfl
 c233 := by kernel_rfl }
open Go.RowKit in
theorem Tryz.strconv_Atoi_ok (s : ByteArray) (hmax : s.size <= 9223372036854775806) (v : Int) (h : Lib.atoiAll s.data.toList = .ok v) (w : World) :
 Calls Tryz.prog 193 #[.string s] w fun e w' => e = .returned (.tuple #[.int .i64 v, .nilIface]) /\ (w' = w ∨ ∃ t, w' = Lib.bytesWorld w 5 t) := Any.strconv_Atoi_ok Tryz.laysC172 s hmax v h w
open Go.RowKit in
theorem Tryz.strconv_Atoi_range (s : ByteArray) (hlim : s.size <= 281474976710656) (h : Lib.atoiAll s.data.toList = .range) (ev : Value) (w : World) (hv : w.cell? ⟨20, 0, none⟩ = some ev) (hev : ev = .nilIface ∨ ∃ te pe, ev = .iface te pe) :
 Calls Tryz.prog 193 #[.string s] w fun e w' => ∃ N, e = .returned (.tuple #[.int .i64 (Lib.atoiSat s.data.toList), .iface 221 (.pointer (some ⟨N, 0, none⟩))]) /\ w.heap.size <= N /\ w'.heap[N]? = some (.cells #[.string ⟨#[65, 116, 111, 105]⟩, .string s, ev] 227 (0, 0)) /\ Below w.heap.size w w' := Any.strconv_Atoi_range Tryz.laysC172 s hlim h ev w hv hev
def Tryz.lays99_ren : Go.Shelf.Ren := ⟨fun | 99 => 152 | 206 => 189 | n => n, fun | 9 => 9 | 4 => 4 | 3 => 3 | n => n, fun | n => n⟩
theorem Tryz.lays99 : Go.Proofs.Lays.n99 Tryz.prog Tryz.lays99_ren := {
 mixed := by kernel_rfl
 f99 := Tryz.func152.trans (congrArg some (by kernel_rfl))
 f206 := Tryz.func189.trans (congrArg some (by kernel_rfl))
 t3 := Tryz.underlying3
 a3 := Tryz.isAgg3
 z3 := Tryz.sizeOf3
 v3 := Tryz.zeroValue3
 t4 := Tryz.underlying4
 a4 := Tryz.isAgg4
 z4 := Tryz.sizeOf4
 v4 := Tryz.zeroValue4
 t9 := Tryz.underlying9
 a9 := Tryz.isAgg9
 z9 := Tryz.sizeOf9
 v9 := Tryz.zeroValue9 }
open Go.RowKit Go.Lib in
theorem Tryz.strings_HasPrefix (s p : ByteArray) (w : World) :
 Calls Tryz.prog 152 #[.string s, .string p] w fun e w' => e = .returned (.bool (Lib.hasPrefix s.data.toList p.data.toList)) /\ w' = w := Any.strings_HasPrefix Tryz.lays99 s p w
def Tryz.lays110_ren : Go.Shelf.Ren := ⟨fun | 110 => 134 | 109 => 173 | n => n, fun | 31 => 34 | 9 => 9 | 4 => 4 | 3 => 3 | 0 => 0 | n => n, fun | n => n⟩
theorem Tryz.lays110 : Go.Proofs.Lays.n110 Tryz.prog Tryz.lays110_ren := {
 mixed := by kernel_rfl
 f109 := Tryz.func173.trans (congrArg some (by kernel_rfl))
 f110 := Tryz.func134.trans (congrArg some (by kernel_rfl))
 t0 := Tryz.underlying0
 a0 := Tryz.isAgg0
 z0 := Tryz.sizeOf0
 v0 := Tryz.zeroValue0
 t3 := Tryz.underlying3
 a3 := Tryz.isAgg3
 z3 := Tryz.sizeOf3
 v3 := Tryz.zeroValue3
 t4 := Tryz.underlying4
 a4 := Tryz.isAgg4
 z4 := Tryz.sizeOf4
 v4 := Tryz.zeroValue4
 t9 := Tryz.underlying9
 a9 := Tryz.isAgg9
 z9 := Tryz.sizeOf9
 v9 := Tryz.zeroValue9
 t31 := Tryz.underlying34
 a31 := Tryz.isAgg34
 z31 := Tryz.sizeOf34
 v31 := Tryz.zeroValue34 }
open Go.Lib in
theorem Tryz.slices_Contains_string (b off n c : Nat) (zs : List ByteArray) (x : ByteArray) (w : World) (hz : n <= zs.length) (hbig : n <= 9223372036854775807) (hc : ∀ j, j < zs.length -> w.cell? ⟨b, off + j, none⟩ = some (.string (zs.getD j ByteArray.empty))) :
 Calls Tryz.prog 134 #[.slice (some ⟨b, off, none⟩) n c, .string x] w fun e w' => e = .returned (.bool (Lib.containsS (zs.take n) x)) /\ w' = w := Any.slices_Contains_string Tryz.lays110 b off n c zs x w hz hbig hc
end Go.Proofs
namespace Go.Proofs.YtfnplhfjfolojaaGreatDoor.Ck
open Go.RowKit
theorem cut_list (s : ByteArray) (i j : Nat) : (s.extract i j).data.toList = (s.data.toList.drop i).take (j - i) := by
 rw [ByteArray.data_extract, Array.toList_extract]
theorem cut_end (s : ByteArray) (i : Nat) : (s.extract i s.size).data.toList = s.data.toList.drop i := by
 rw [cut_list]
 exact List.take_of_length_le (by rw [List.length_drop]; exact Nat.le_refl _)
theorem byte_list (s : ByteArray) (i : Nat) (h : i < s.data.toList.length) : ZZ s i = ((s.data.toList[i]'h).toNat : Int) := Yn s i (by simpa using h)
theorem beq47 (a : UInt8) : ((47 : UInt8) == a) = (((a.toNat : Nat) : Int) == 47) := by
 rw [Bool.eq_iff_iff]
 simp only [beq_iff_eq]
 constructor
 · rintro rfl
   rfl
 · intro h
   exact UInt8.toNat_inj.1 (by rw [show a.toNat = 47 by omega]; rfl)
theorem hasP_eq (s : ByteArray) (j : Nat) : Lib.hasPrefix (s.extract j s.size).data.toList [47, 47] = comm s j := by
 rw [cut_end]
 have hl : s.data.toList.length = s.size := rfl
 unfold comm Lib.hasPrefix
 by_cases h : j < s.size
 · rw [List.drop_eq_getElem_cons (by omega)]
   by_cases h1 : j + 1 < s.size
   · rw [List.drop_eq_getElem_cons (by omega), byte_list s j (by omega), byte_list s (j + 1) (by omega), decide_eq_true h1]
     generalize s.data.toList[j] = a
     generalize s.data.toList[j + 1] = b
     simp only [List.isPrefixOf, Bool.true_and, Bool.and_true]
     congr 1
     · exact beq47 a
     · exact beq47 b
   · rw [decide_eq_false h1, List.drop_of_length_le (by omega)]
     simp [List.isPrefixOf]
 · rw [decide_eq_false (by omega), List.drop_of_length_le (by omega)]
   simp [List.isPrefixOf]
theorem pre_any (s : ByteArray) (j : Nat) (w : World) :
 Calls Tryz.prog 152 #[.string (s.extract j s.size), .string ⟨#[47, 47]⟩] w fun e w' => e = .returned (.bool (comm s j)) /\ w' = w := by
 have := Tryz.strings_HasPrefix (s.extract j s.size) ⟨#[47, 47]⟩ w
 rwa [show (ByteArray.mk #[47, 47]).data.toList = [47, 47] from rfl, hasP_eq] at this
theorem blanks_any (g : Nat) (s : ByteArray) (i : Nat) (w : World) (h : Rdr w g s i) (hi : s.size <= 9000) (hi2 : i <= s.size) :
 Calls Tryz.prog 115 #[.pointer (some ⟨g, 0, none⟩)] w fun e w' => e = .returned (.tuple #[]) /\ Rdr w' g s (blF s i) /\ Tn g w w' := by
 have H := Zb h
 clear h
 go_enter Tryz.func115, Tryz.ntmps115
 go_wp2_with fail
 refine (over_blank g s i w H.out hi hi2).mono ?_
 rintro e w1 ⟨rfl, r1, t1⟩
 have R1 := Zb r1
 clear r1
 go_wp2_with fail
 go_loopw [] (fun wr => ∃ j : Nat, j <= s.size /\ Hid (Rdr wr g s j /\ blF s i = skipC s j /\ Tn g w wr)) (fun wr => s.size - posAt wr g)
 case atStart => exact ⟨_, YC _ _ _ hi2, R1.out, rfl, t1⟩
 case round =>
  obtain ⟨j, hj, I⟩ := hrel
  have h1 := I.out.1.src
  have h2 := I.out.1.pos
  by_cases hc : comm s j = true
  · have hp := fun w => pre_any s j w
    rw [hc] at hp
    have HC := Zb hc
    have HP := Zb hp
    clear hc hp
    go_wp2_with fail
    go_quiet (first | (go_at_call 152; exact Calls.quiet_of_same (HP.out _)))
    go_wp2_with fail
    refine (over_nl g s j _ (I.out.1.drewN _) hi hj).mono ?_
    rintro e w2 ⟨rfl, r2, t2⟩
    have R2 := Zb r2
    clear r2
    go_wp2_with fail
    refine (over_blank g s _ _ R2.out hi (YC _ _ _ hj)).mono ?_
    rintro e w3 ⟨rfl, r3, t3⟩
    have R3 := Zb r3
    clear r3
    go_wp2_with fail
    go_roundw
    case rel => exact ⟨pastC s j, pastC_le hj, R3.out, I.out.2.1.trans (skipC_yes HC.out), ((I.out.2.2.drewN _).trans t2).trans t3⟩
    case measure =>
     have h3 : posAt w3 g = pastC s j := R3.out.posAt
     rw [h3, I.out.1.posAt]
     have := pastC_gt HC.out
     have := comm_lt HC.out
     omega
  · have hc : comm s j = false := by simpa using hc
    have hp := fun w => pre_any s j w
    rw [hc] at hp
    have HC := Zb hc
    have HP := Zb hp
    clear hc hp
    go_wp2_with fail
    go_quiet (first | (go_at_call 152; exact Calls.quiet_of_same (HP.out _)))
    go_wp2_with fail
    go_end0
    exact ⟨rfl, by rw [I.out.2.1, skipC_no HC.out]; exact I.out.1.drewN _, I.out.2.2.drewN _⟩
theorem clone_any (s : ByteArray) (w : World) (h : s.size <= 9000) :
 Calls Tryz.prog 215 #[.string s] w fun e w' => e = .returned (.string s) /\ Below w.heap.size w w' := by
 go_enter Tryz.func215, Tryz.ntmps215
 go_wp2_with fail
 refine (Tryz.stringslite_Clone s w (by omega)).mono ?_
 rintro e w1 ⟨rfl, hb⟩
 go_wp2_with fail
 go_ret
 exact ⟨rfl, hb⟩
theorem Zi {w : World} {g : Nat} {c : Array Value} {t : TypeId} (h : w.heap[g]? = some (.cells c t (0, 0))) (k : Nat) : w.frozen? ⟨g, k, none⟩ = false := by simp [World.frozen?, h]
theorem Zf {w : World} {g : Nat} {c : Array Value} {t : TypeId} (h : w.heap[g]? = some (.cells c t (0, 0))) (k : Nat) (v : Value) (hk : c[k]? = some v) : w.cell? ⟨g, k, none⟩ = some v := by simp [World.cell?, h, hk]
theorem Zs {w : World} {g : Nat} {c : Array Value} {t : TypeId} (h : w.heap[g]? = some (.cells c t (0, 0))) (k : Nat) (v : Value) :
 (w.setCell ⟨g, k, none⟩ v).heap[g]? = some (.cells (c.setIfInBounds k v) t (0, 0)) /\ Tn g w (w.setCell ⟨g, k, none⟩ v) :=
 ⟨heap_setCell_same _ _ _ _ _ _ h, rfl, rfl, rfl, Nat.le_of_eq (by simp [World.setCell]), fun _ _ hk => Below.heap_setCell _ _ _ _ hk⟩
def Tok (w : World) (g : Nat) (a b c d e : Value) : Prop := w.heap[g]? = some (.cells #[a, b, c, d, e] 80 (0, 0))
theorem set5 {w : World} {g : Nat} {a b c d e : Value} (h : Tok w g a b c d e) (v0 v1 v2 v3 v4 : Value) :
 Tok (((((w.setCell ⟨g, 0, none⟩ v0).setCell ⟨g, 1, none⟩ v1).setCell ⟨g, 2, none⟩ v2).setCell ⟨g, 3, none⟩ v3).setCell ⟨g, 4, none⟩ v4) g v0 v1 v2 v3 v4 ∧
 Tn g w (((((w.setCell ⟨g, 0, none⟩ v0).setCell ⟨g, 1, none⟩ v1).setCell ⟨g, 2, none⟩ v2).setCell ⟨g, 3, none⟩ v3).setCell ⟨g, 4, none⟩ v4) := by
 obtain ⟨h0, t0⟩ := Zs h 0 v0
 obtain ⟨h1, t1⟩ := Zs h0 1 v1
 obtain ⟨h2, t2⟩ := Zs h1 2 v2
 obtain ⟨h3, t3⟩ := Zs h2 3 v3
 obtain ⟨h4, t4⟩ := Zs h3 4 v4
 exact ⟨h4, (((t0.trans t1).trans t2).trans t3).trans t4⟩
theorem Yy {fn : Func} {R : Ending -> World -> Prop} {a : Act} {w : World} {p : Tmp} (g : Nat) {v0 v1 v2 v3 v4 : Value} (hf : fn.results = #[.cell p 80]) (hp : a.tmps.getD p undef = .pointer (some ⟨g, 0, none⟩))
    (h : Tok w g v0 v1 v2 v3 v4) (hdf : a.defers = []) (hR : R (.returned (.agg #[v0, v1, v2, v3, v4])) w) : bodyPost Tryz.prog fn R .ret a w :=
  bodyPost_ret (by
    have hp' : a.tmps[p]?.getD undef = .pointer (some ⟨g, 0, none⟩) := by simpa using hp
    have cz0 := Zf h 0 _ rfl
    have cz1 := Zf h 1 _ rfl
    have cz2 := Zf h 2 _ rfl
    have cz3 := Zf h 3 _ rfl
    have cz4 := Zf h 4 _ rfl
    simp [results, hf, hp', go_sem, cz0, cz1, cz2, cz3, cz4]) hdf hR
theorem since_any (g : Nat) (s : ByteArray) (i j : Nat) (k : Int) (w : World) (h : Rdr w g s j) (hi : s.size <= 9000) (hij : i <= j) (hj : j <= s.size) :
    Calls Tryz.prog 191 #[.pointer (some ⟨g, 0, none⟩), .int .i64 i, .int .i64 k] w fun e w' =>
      e = .returned (.agg #[.int .i64 k, .string (cut s i j), .int .i64 0, .int .u64 0, .int .i64 i]) /\ Below w.heap.size w w' := by
  have h1 := h.src
  have h2 := h.pos
  have hg := Ze h
  clear h
  have hcl : Hid (∀ wx, Calls Tryz.prog 215 #[.string (s.extract i j)] wx fun e w' => e = .returned (.string (cut s i j)) /\ Below wx.heap.size wx w') := fun wx => clone_any _ wx (by rw [ByteArray.size_extract]; omega)
  go_enter Tryz.func191, Tryz.ntmps191
  go_wp2_with fail
  have hz0 : (w.alloc (.cells #[.int .i64 0, .string ⟨#[]⟩, .int .i64 0, .int .u64 0, .int .i64 0] 80)).heap[w.heap.size]? = some (.cells #[.int .i64 0, .string ⟨#[]⟩, .int .i64 0, .int .u64 0, .int .i64 0] 80 (0, 0)) := B_ _ _
  have hb0 := Zd w (.cells #[.int .i64 0, .string ⟨#[]⟩, .int .i64 0, .int .u64 0, .int .i64 0] 80)
  have g1 := (hb0.cell (p := ⟨g, 0, none⟩) hg).trans h1
  have g2 := (hb0.cell (p := ⟨g, 1, none⟩) hg).trans h2
  have hg0 := Nat.lt_of_lt_of_le hg hb0.size
  have hlt0 := Ze hz0
  have n1 := World.new_ne w ⟨g, 0, none⟩ h1
  have n2 := World.new_ne w ⟨g, 1, none⟩ h2
  clear h1 h2
  generalize w.alloc _ = w0 at *
  go_region_held3 (fun w' => w'.cell? ⟨g, 0, none⟩ = some (.string s) /\ w'.cell? ⟨g, 1, none⟩ = some (.int .i64 j)) (go_keep)
    (first
      | (go_at_call 215; refine (hcl.out _).mono ?_; rintro e w1 ⟨rfl, hb1⟩; have hb1 : Below w0.heap.size w0 w1 := ⟨hb1.os, hb1.tape, hb1.output, hb1.size, hb1.block⟩; have k1 := (hb1.cell (p := ⟨g, 0, none⟩) hg0).trans g1; have k2 := (hb1.cell (p := ⟨g, 1, none⟩) hg0).trans g2; have hz1 := (hb1.block w.heap.size hlt0).trans hz0; have fz0 := Zi hz1 0; have cz0 := Zf hz1 0 _ rfl; have fz1 := Zi hz1 1; have cz1 := Zf hz1 1 _ rfl; have fz2 := Zi hz1 2; have cz2 := Zf hz1 2 _ rfl; have fz3 := Zi hz1 3; have cz3 := Zf hz1 3 _ rfl; have fz4 := Zi hz1 4; have cz4 := Zf hz1 4 _ rfl))
  obtain ⟨hz2, tn2⟩ := set5 hz1 (.int .i64 k) (.string (cut s i j)) (.int .i64 0) (.int .u64 0) (.int .i64 i)
  have hb2 := Tn.bel (hb0.trans (hb1.mono hb0.size) |> Tn.of_bel (g := w.heap.size) |>.trans tn2) (Nat.le_refl _) (Nat.le_refl _)
  clear k1 k2 fz0 fz1 fz2 fz3 fz4 cz0 cz1 cz2 cz3 cz4 hz1 tn2
  generalize ((((w1.setCell ⟨w.heap.size, 0, none⟩ _).setCell ⟨w.heap.size, 1, none⟩ _).setCell ⟨w.heap.size, 2, none⟩ _).setCell ⟨w.heap.size, 3, none⟩ _).setCell ⟨w.heap.size, 4, none⟩ _ = w2 at *
  go_wp2_with fail
  exact Yy w.heap.size rfl rfl hz2 rfl ⟨rfl, hb2⟩
theorem tokenKey_any (t : ByteArray) (w : World) : Calls Tryz.prog 192 #[.string t] w fun e w' => e = .returned (.bool (isKey t)) /\ w = w' := by
 go_enter Tryz.func192, Tryz.ntmps192
 go_wp2_with fail
 all_goals
  first
   | (exfalso; rename_i h1 h2; rw [h1] at h2; cases h2; done)
   | (go_ret; refine ⟨congrArg Ending.returned (congrArg Value.bool ?_), rfl⟩; rename_i h; have e := eq_of_beq h; unfold isKey keyTab; rw [e]; rfl)
   | (go_ret; refine ⟨congrArg Ending.returned (congrArg Value.bool ?_), rfl⟩; simp only [isKey, keyTab, List.any_cons, List.any_nil, Bool.or_false, *])
theorem ref05Key_any (t : ByteArray) (w : World) : Calls Tryz.prog 25 #[.string t] w fun e w' => e = .returned (.bool (isKey t)) /\ w = w' := by
 go_enter Tryz.func25, Tryz.ntmps25
 go_wp2_with fail
 all_goals
  first
   | (exfalso; rename_i h1 h2; rw [h1] at h2; cases h2; done)
   | (go_ret; refine ⟨congrArg Ending.returned (congrArg Value.bool ?_), rfl⟩; rename_i h; have e := eq_of_beq h; unfold isKey keyTab; rw [e]; rfl)
   | (go_ret; refine ⟨congrArg Ending.returned (congrArg Value.bool ?_), rfl⟩; simp only [isKey, keyTab, List.any_cons, List.any_nil, Bool.or_false, *])
def b8 (s : ByteArray) (i : Nat) : UInt8 := s.data.getD i 0
theorem byte_b8 (s : ByteArray) (i : Nat) : ZZ s i = ((b8 s i).toNat : Int) := rfl
theorem drop_b8 (s : ByteArray) (i : Nat) (h : i < s.size) : s.data.toList.drop i = b8 s i :: s.data.toList.drop (i + 1) := by
 have h2 : i < s.data.toList.length := h
 rw [List.drop_eq_getElem_cons h2]
 congr 1
 unfold b8
 have h3 : i < s.data.size := h
 rw [Array.getD_eq_getD_getElem?, Array.getElem?_eq_getElem h3]
 rfl
theorem drop_nil8 (s : ByteArray) (i : Nat) (h : ¬ i < s.size) : s.data.toList.drop i = [] := List.drop_of_length_le (by have : s.data.toList.length = s.size := rfl; omega)
theorem head2 (s : ByteArray) (i : Nat) (hi : i < s.size) :
 ((s.extract i s.size).extract 0 (min 2 ((s.extract i s.size).size : Int)).toNat).toList = if i + 1 < s.size then [b8 s i, b8 s (i + 1)] else [b8 s i] := by
 have hz : (s.extract i s.size).size = s.size - i := by rw [ByteArray.size_extract]; omega
 rw [Lib.extract_toList, cut_end, hz, List.drop_zero, drop_b8 s i hi]
 by_cases h : i + 1 < s.size
 · rw [if_pos h, drop_b8 s (i + 1) h, show (min 2 ((s.size - i : Nat) : Int)).toNat - 0 = 2 by omega]
   rfl
 · rw [if_neg h, drop_nil8 s (i + 1) h, show (min 2 ((s.size - i : Nat) : Int)).toNat - 0 = 1 by omega]
   rfl
def twoTab : List (List UInt8) := [[58, 61], [61, 61], [33, 61], [60, 61], [62, 61], [38, 38], [124, 124]]
theorem eq8 (a : UInt8) (k : Nat) (hk : k < 256) : (((a.toNat : Nat) : Int) == ((k : Nat) : Int)) = (a == UInt8.ofNat k) := by
 rw [Bool.eq_iff_iff]
 simp only [beq_iff_eq]
 constructor
 · intro h
   exact UInt8.toNat_inj.1 (by rw [show a.toNat = k by omega, UInt8.toNat_ofNat']; omega)
 · rintro rfl
   rw [UInt8.toNat_ofNat']
   omega
theorem two_tab (a b : UInt8) : two a.toNat b.toNat = decide ([a, b] ∈ twoTab) := by
 have e : ∀ (x : UInt8) (k : Nat), k < 256 -> (((x.toNat : Nat) : Int) == ((k : Nat) : Int)) = (x == UInt8.ofNat k) := eq8
 unfold two
 rw [show ((58 : Int)) = ((58 : Nat) : Int) from rfl, show ((61 : Int)) = ((61 : Nat) : Int) from rfl, show ((33 : Int)) = ((33 : Nat) : Int) from rfl, show ((60 : Int)) = ((60 : Nat) : Int) from rfl, show ((62 : Int)) = ((62 : Nat) : Int) from rfl, show ((38 : Int)) = ((38 : Nat) : Int) from rfl, show ((124 : Int)) = ((124 : Nat) : Int) from rfl]
 rw [e a 58 (by omega), e a 61 (by omega), e a 33 (by omega), e a 60 (by omega), e a 62 (by omega), e a 38 (by omega), e a 124 (by omega), e b 61 (by omega), e b 38 (by omega), e b 124 (by omega)]
 rw [Bool.eq_iff_iff]
 simp [twoTab, or_assoc]
theorem idx_mem (l : List UInt8) (c : UInt8) : 0 <= Lib.indexByte l c ↔ c ∈ l := by
 induction l with
 | nil => simp [Lib.indexByte]
 | cons b l ih =>
  have hg := Lib.indexByte_ge l c
  unfold Lib.indexByte
  by_cases h : b = c
  · simp [h]
  · have h2 : (b == c) = false := by simpa using h
    rw [h2]
    simp only [Bool.false_eq_true, if_false, List.mem_cons]
    by_cases h3 : Lib.indexByte l c = -1
    · rw [h3] at ih ⊢
      simp only [beq_self_eq_true, if_true]
      constructor
      · intro h4; omega
      · rintro (h4 | h4)
        · exact absurd h4.symm h
        · exact ih.2 h4
    · have h4 : (Lib.indexByte l c == -1) = false := by simpa using h3
      rw [h4]
      simp only [Bool.false_eq_true, if_false]
      constructor
      · intro _; exact .inr (ih.1 (by omega))
      · intro _; omega
theorem one_tab (a : UInt8) : (0 <= Lib.indexByte [43, 45, 42, 47, 37, 60, 62, 61, 33, 40, 41, 123, 125, 91, 93, 44, 59] a) ↔ ((a.toNat : Nat) : Int) ∈ oneTab := by
 rw [idx_mem]
 have h : ∀ n : Fin 256, (UInt8.ofNat n.val ∈ [(43 : UInt8), 45, 42, 47, 37, 60, 62, 61, 33, 40, 41, 123, 125, 91, 93, 44, 59]) ↔ ((n.val : Int) ∈ oneTab) := by decide
 have := h ⟨a.toNat, UInt8.toNat_lt a⟩
 rwa [UInt8.ofNat_toNat] at this
theorem markF_two {s : ByteArray} {i : Nat} {L : List UInt8} (hL : L = if i + 1 < s.size then [b8 s i, b8 s (i + 1)] else [b8 s i]) : (i + 1 < s.size /\ two (ZZ s i) (ZZ s (i + 1)) = true) ↔ L ∈ twoTab := by
 subst hL
 by_cases h : i + 1 < s.size
 · rw [if_pos h, byte_b8, byte_b8, two_tab]
   simp [h]
 · rw [if_neg h]
   constructor
   · intro h2
     exact absurd h2.1 h
   · intro h2
     simp [twoTab] at h2
theorem markLen_core (t : ByteArray) (L : List UInt8) (a : UInt8) (w : World) (h9 : t.size <= 9000) (h0 : 0 < t.size) (ha : t[0] = a) (hL : (t.extract 0 (min 2 (t.size : Int)).toNat).toList = L) :
 Calls Tryz.prog 198 #[.string t] w fun e w' => e = .returned (.int .i64 (if L ∈ twoTab then 2 else if ((a.toNat : Nat) : Int) ∈ oneTab then 1 else 0)) /\ w = w' := by
 by_cases hm : L ∈ twoTab
 · rw [if_pos hm]
   simp [twoTab] at hm
   rcases hm with rfl | rfl | rfl | rfl | rfl | rfl | rfl <;>
   · go_enter Tryz.func198, Tryz.ntmps198
     go_wp2_with fail
     go_ret
     exact ⟨rfl, rfl⟩
 · rw [if_neg hm]
   simp [twoTab] at hm
   obtain ⟨m1, m2, m3, m4, m5, m6, m7⟩ := hm
   have c1 : (L == [58, 61]) = false := by simpa using m1
   have c2 : (L == [61, 61]) = false := by simpa using m2
   have c3 : (L == [33, 61]) = false := by simpa using m3
   have c4 : (L == [60, 61]) = false := by simpa using m4
   have c5 : (L == [62, 61]) = false := by simpa using m5
   have c6 : (L == [38, 38]) = false := by simpa using m6
   have c7 : (L == [124, 124]) = false := by simpa using m7
   clear m1 m2 m3 m4 m5 m6 m7
   have hc : Hid (∀ w, Calls Tryz.prog 219 #[.string ⟨#[43, 45, 42, 47, 37, 60, 62, 61, 33, 40, 41, 123, 125, 91, 93, 44, 59]⟩, .int .u8 (a.toNat : Int)] w fun e w' => e = .returned (.int .i64 (Lib.indexByte [43, 45, 42, 47, 37, 60, 62, 61, 33, 40, 41, 123, 125, 91, 93, 44, 59] a)) /\ w = w') := fun w => by
    have := Tryz.strings_IndexByte ⟨#[43, 45, 42, 47, 37, 60, 62, 61, 33, 40, 41, 123, 125, 91, 93, 44, 59]⟩ (a.toNat : Int) w
    rw [show ((a.toNat : Int).toNat.toUInt8) = a by simp] at this
    exact this.mono fun _ _ h => ⟨h.1, h.2.symm⟩
   have hne : t.toList.isEmpty = false := by
    rw [ByteArray.toList_eq]
    have h1 : t.data.toList.length = t.size := rfl
    cases h2 : t.data.toList with
    | nil => rw [h2] at h1; simp at h1; omega
    | cons x l => rfl
   by_cases hp : ((a.toNat : Nat) : Int) ∈ oneTab
   · rw [if_pos hp]
     have hz := (one_tab a).2 hp
     generalize Lib.indexByte [43, 45, 42, 47, 37, 60, 62, 61, 33, 40, 41, 123, 125, 91, 93, 44, 59] a = z at *
     go_enter Tryz.func198, Tryz.ntmps198
     go_wp2_with (first | (go_at_call 219; refine (hc.out _).mono ?_; rintro e w1 ⟨rfl, rfl⟩))
     go_ret
     exact ⟨rfl, rfl⟩
   · rw [if_neg hp]
     have hz : ¬ 0 <= Lib.indexByte [43, 45, 42, 47, 37, 60, 62, 61, 33, 40, 41, 123, 125, 91, 93, 44, 59] a := fun h => hp ((one_tab a).1 h)
     generalize Lib.indexByte [43, 45, 42, 47, 37, 60, 62, 61, 33, 40, 41, 123, 125, 91, 93, 44, 59] a = z at *
     have hz2 : z < 0 := by omega
     clear hz
     go_enter Tryz.func198, Tryz.ntmps198
     go_wp2_with (first | (go_at_call 219; refine (hc.out _).mono ?_; rintro e w1 ⟨rfl, rfl⟩))
     go_ret
     exact ⟨rfl, rfl⟩
theorem markLen_any (s : ByteArray) (i : Nat) (w : World) (hs : s.size <= 9000) (hi : i < s.size) :
 Calls Tryz.prog 198 #[.string (s.extract i s.size)] w fun e w' => e = .returned (.int .i64 (markF s i)) /\ w = w' := by
 have hsz : (s.extract i s.size).size = s.size - i := by rw [ByteArray.size_extract]; omega
 have h2 := head2 s i hi
 have h3 : (s.extract i s.size)[0]'(by omega) = b8 s i := by
  have e : (s.extract i s.size).data.toList = b8 s i :: s.data.toList.drop (i + 1) := by rw [cut_end, drop_b8 s i hi]
  show (s.extract i s.size).data.toList[0]'_ = _
  simp only [e]
  rfl
 refine (markLen_core _ _ _ w (by omega) (by omega) h3 h2).mono ?_
 rintro e w' ⟨rfl, rfl⟩
 refine ⟨congrArg Ending.returned (congrArg (Value.int .i64) ?_), rfl⟩
 unfold markF
 have hm := markF_two (s := s) (i := i) rfl
 rw [byte_b8] at hm ⊢
 by_cases h : (if i + 1 < s.size then [b8 s i, b8 s (i + 1)] else [b8 s i]) ∈ twoTab
 · rw [if_pos h, if_pos (hm.2 h)]
   rfl
 · rw [if_neg h, if_neg (fun h4 => h (hm.1 h4))]
   by_cases h5 : (((b8 s i).toNat : Nat) : Int) ∈ oneTab
   · rw [if_pos h5, if_pos ⟨hi, h5⟩]
     rfl
   · rw [if_neg h5, if_neg (fun h => h5 h.2)]
     rfl
structure Er (w : World) (p : List Addr) : Prop where
 c0 : w.cell? ⟨1, 0, none⟩ = some (errV p 0)
 c1 : w.cell? ⟨2, 0, none⟩ = some (errV p 1)
 c5 : w.cell? ⟨6, 0, none⟩ = some (errV p 5)
 cs : ∃ te pe, w.cell? ⟨20, 0, none⟩ = some (.iface te pe)
theorem Tn.cell {g : Nat} {w w' : World} (h : Tn g w w') {k i : Nat} {v : Value} (hk : k ≠ g) (hc : w.cell? ⟨k, i, none⟩ = some v) : w'.cell? ⟨k, i, none⟩ = some v := by
 have hlt : k < w.heap.size := World.block_lt_of_cell? w ⟨k, i, none⟩ hc
 simp only [World.cell?, h.blk k hlt hk] at hc ⊢
 exact hc
theorem Er.tn {w w' : World} {p : List Addr} {g : Nat} (h : Er w p) (t : Tn g w w') (hg : 23 <= g) : Er w' p := by
 obtain ⟨te, pe, hs⟩ := h.cs
 exact ⟨t.cell (by omega) h.c0, t.cell (by omega) h.c1, t.cell (by omega) h.c5, te, pe, t.cell (by omega) hs⟩
theorem Er.drewN {w : World} {p : List Addr} (h : Er w p) (k : Nat) : Er (w.drewN k) p := ⟨h.c0, h.c1, h.c5, h.cs⟩
theorem Er.bel {w w' : World} {p : List Addr} (h : Er w p) (hb : Below w.heap.size w w') : Er w' p := by
 have ht : Tn w.heap.size w w' := Tn.of_bel hb
 have h1 : ∀ {k i : Nat} {v : Value}, w.cell? ⟨k, i, none⟩ = some v -> w'.cell? ⟨k, i, none⟩ = some v := fun hc => ht.cell (Nat.ne_of_lt (World.block_lt_of_cell? w _ hc)) hc
 obtain ⟨te, pe, hs⟩ := h.cs
 exact ⟨h1 h.c0, h1 h.c1, h1 h.c5, te, pe, h1 hs⟩
theorem ZI : Tryz.prog.follows .mixedOrders = true := by kernel_rfl
theorem still_of_quiet {P : Program} {ops : Array Oper} {w : World} {Q : Act -> Prop} : ∀ (l : List Oper) (a : Act), wpQuiet P ops (fun w' => w' = w) Q l a -> wpStill P ops w Q l a
 | [], _, h => h
 | o :: rest, a, h => by
  unfold wpQuiet at h
  unfold wpStill
  split
  · rename_i hw
    rw [if_pos hw] at h
    obtain ⟨v, hv, hn⟩ := h
    have hv := hv w rfl
    have hn := still_of_quiet rest _ hn
    unfold Oper.quietAt at hv
    unfold Oper.still
    generalize (execOp a.eval o).run P w = r at *
    cases r with
    | ok n w' =>
     cases n <;> simp only [Oper.quietUpon, Oper.stillUpon] at hv ⊢
     case enter f args => exact ⟨hv.1, v, hv.2, hn⟩
     case value u => exact ⟨hv.1, by rw [hv.2]; exact hn⟩
     case skip => exact ⟨hv.1, by rw [← hv.2]; exact hn⟩
    | halt x w' => simp only [Oper.quietUpon] at hv
  · rename_i hw
    rw [if_neg hw] at h
    exact still_of_quiet rest _ h
theorem wp_quiet_tail {P : Program} {id : Nat} {Q : Exit -> Act -> World -> Prop} {a : Act} {w : World} {l : List Oper} (n : Nat) (hm : P.follows .mixedOrders = true) (hB : Region.lexTailB .any l.toArray n = true)
 (h : wpQuiet P l.toArray (fun w' => w' = w.drew) (fun a' => wpList P l.toArray Q (l.drop n) a' w.drew) (l.take n) a) : (Code.region id l.toArray true).wp P Q a w :=
 wp_region_still_tail n hm hB (still_of_quiet _ _ h)
def stop (ev : Value) (i : Nat) : Ending := .panicked [{ v := badV ev i, recovered := false }]
theorem apart_no (g : Nat) (s : ByteArray) (i : Nat) (w : World) (h : Rdr w g s i) (ht : tight s i = false) :
 Calls Tryz.prog 194 #[.pointer (some ⟨g, 0, none⟩)] w fun e w' => e = .returned (.tuple #[]) /\ ∃ k, w' = w.drewN k := by
 have h1 := h.src
 have h2 := h.pos
 have H := Zb h
 clear h
 unfold tight at ht
 by_cases hi : i < s.size
 · rw [decide_eq_true hi, Bool.true_and, Yn s i hi] at ht
   go_enter Tryz.func194, Tryz.ntmps194
   go_wp2_with fail
   go_quiet (first | (go_at_call 116; exact Calls.quiet_of (Yo (H.out.drewN _) hi)) | (go_at_call 190; exact Calls.quiet_of_same ((wordByte_any _ _).mono fun _ _ h => ⟨h.1, h.2.symm⟩)))
   go_wp2_with fail
   go_end0
   exact ⟨rfl, _, rfl⟩
 · go_enter Tryz.func194, Tryz.ntmps194
   go_wp2_with fail
   go_quiet (first | (go_at_call 116; exact Calls.quiet_of (more_no (H.out.drewN _) hi)))
   go_wp2_with fail
   go_end0
   exact ⟨rfl, _, rfl⟩
theorem apart_yes (g : Nat) (s : ByteArray) (i : Nat) (p : List Addr) (w : World) (h : Rdr w g s i) (he : Er w p) (ht : tight s i = true) :
 Calls Tryz.prog 194 #[.pointer (some ⟨g, 0, none⟩)] w fun e w' => e = stop (errV p 1) i /\ ∃ k, w' = w.drewN k := by
 have h1 := h.src
 have h2 := h.pos
 have h3 := he.c1
 have H := Zb h
 clear h he
 unfold tight at ht
 rw [Bool.and_eq_true] at ht
 have hi : i < s.size := of_decide_eq_true ht.1
 have ht := ht.2
 rw [Yn s i hi] at ht
 go_enter Tryz.func194, Tryz.ntmps194
 go_wp2_with fail
 go_quiet (first | (go_at_call 116; exact Calls.quiet_of (Yo (H.out.drewN _) hi)) | (go_at_call 190; exact Calls.quiet_of_same ((wordByte_any _ _).mono fun _ _ h => ⟨h.1, h.2.symm⟩)))
 go_wp2_with fail
 refine wp_quiet_tail 5 ZI (by kernel_rfl) ?_
 simp only [List.take_succ_cons, List.take_zero, List.drop_succ_cons, List.drop_zero]
 repeat (first | go_big_quiet_skip | (go_big_quiet_want; go_big_quiet_op; go_big_quiet_on))
 refine wpQuiet_nil ?_
 go_wp2_with fail
 refine (YF _ _ i _).mono ?_
 rintro e w1 ⟨rfl, rfl⟩
 exact ⟨rfl, rfl, _, rfl⟩
def Post (g : Nat) (s : ByteArray) (p : List Addr) (w : World) (e : Ending) (w' : World) : Got -> Prop
 | .ok t j => e = .returned t.val /\ Rdr w' g s j /\ Tn g w w'
 | .bad k j => e = stop (errV p k) j /\ Tn g w w'
theorem Tn.own {g n : Nat} {w a b : World} (h : Tn g w a) (k : Tn n a b) (hn : w.heap.size <= n) : Tn g w b :=
 ⟨k.os.trans h.os, k.tape.trans h.tape, k.output.trans h.output, Nat.le_trans h.size k.size, fun x hx hs => (k.blk x (Nat.lt_of_lt_of_le hx h.size) (by omega)).trans (h.blk x hx hs)⟩
theorem Rdr.tn {w w' : World} {g n : Nat} {s : ByteArray} {i : Nat} (h : Rdr w g s i) (t : Tn n w w') (hn : g ≠ n) : Rdr w' g s i := (t.blk g (Ze h) hn).trans h
theorem Tok.tn {w w' : World} {g n : Nat} {a b c d e : Value} (h : Tok w g a b c d e) (t : Tn n w w') (hn : g ≠ n) : Tok w' g a b c d e := (t.blk g (Ze h) hn).trans h
theorem Tok.bel {w w' : World} {g : Nat} {a b c d e : Value} (h : Tok w g a b c d e) (hb : Below w.heap.size w w') : Tok w' g a b c d e := (hb.block g (Ze h)).trans h
theorem bel_drew {w w' : World} (h : Below w.drew.heap.size w.drew w') : Below w.heap.size w w' := ⟨h.os, h.tape, h.output, h.size, h.block⟩
def tokZ : Obj := .cells #[.int .i64 0, .string ⟨#[]⟩, .int .i64 0, .int .u64 0, .int .i64 0] 80
theorem mark_any (g : Nat) (s : ByteArray) (i : Nat) (p : List Addr) (w : World) (h : Rdr w g s i) (he : Er w p) (hG : 23 <= g) (hs : s.size <= 9000) (hi : i < s.size) :
 Calls Tryz.prog 159 #[.pointer (some ⟨g, 0, none⟩)] w fun e w' => Post g s p w e w' (signF s i) := by
 have hb0 := Zb (Zd w tokZ)
 have hz0 : Hid (Tok (w.alloc tokZ) w.heap.size (.int .i64 0) (.string ⟨#[]⟩) (.int .i64 0) (.int .u64 0) (.int .i64 0)) := B_ _ _
 have H0 := Zb (h.below hb0.out)
 have E0 := Zb (he.bel hb0.out)
 have g1 := H0.out.src
 have g2 := H0.out.pos
 have g3 := H0.out.frz 1
 have hne : w.heap.size ≠ g := Nat.ne_of_gt (Ze h)
 have HM := Zb (fun w => markLen_any s i w hs hi)
 have hm2 := markF_le2 s i
 have hme := markF_le s i (Nat.le_of_lt hi)
 have HS := Zb (show signF s i = if markF s i = 0 then .bad 1 i else .ok ⟨5, cut s i (i + markF s i), 0, 0, i⟩ (i + markF s i) from rfl)
 clear h he
 unfold tokZ at *
 go_enter Tryz.func159, Tryz.ntmps159
 go_wp2_with fail
 generalize w.alloc _ = w0 at *
 refine wp_quiet_tail 14 ZI (by kernel_rfl) ?_
 simp only [List.take_succ_cons, List.take_zero, List.drop_succ_cons, List.drop_zero]
 repeat (first | go_big_quiet_skip | (go_big_quiet_want; go_big_quiet_op; first | go_big_quiet_on | (apply Exists.intro; refine ⟨?_, ?_⟩; exact (HM.out _).mono fun _ _ h => ⟨h.1, h.2.symm⟩; go_big_quiet_on)))
 refine wpQuiet_nil ?_
 by_cases hm : markF s i = 0
 · rw [if_pos hm] at HS
   obtain ⟨hr, ht⟩ := H0.out.set i (i : Int) rfl
   have x1 := (E0.out.tn ht hG).c1
   rw [hm]
   clear hme hm2
   have y2 := hr.pos
   go_wp2_with fail
   refine (YF _ _ i _).mono ?_
   rintro e w1 ⟨rfl, rfl⟩
   refine ⟨rfl, ?_⟩
   rw [HS.out]
   exact ⟨rfl, ((Tn.of_bel hb0.out).trans ht).drewN 1⟩
 · rw [if_neg hm] at HS
   generalize markF s i = m at *
   obtain ⟨hr, ht⟩ := H0.out.set (i + m) ((i : Int) + (m : Int)) (by omega)
   have y1 := hr.src
   have y2 := hr.pos
   have Z1 := Zb (hz0.out.tn ht hne)
   have R1 := Zb hr
   have T1 := Zb ((Tn.of_bel hb0.out).trans ht)
   clear hz0 H0 E0 HM ht hr hb0
   go_wp2_with fail
   refine (since_any g s i (i + m) 5 _ (R1.out.drewN 1) hs (by omega) (by omega)).mono ?_
   rintro e w2 ⟨rfl, hb2⟩
   have hb2 := bel_drew hb2
   have z2 := Z1.out.bel hb2
   have R2 := Zb (R1.out.below hb2)
   have T2 := Zb (T1.out.trans (Tn.of_bel hb2))
   have fz0 := Zi z2 0
   have fz1 := Zi z2 1
   have fz2 := Zi z2 2
   have fz3 := Zi z2 3
   have fz4 := Zi z2 4
   have cz0 := Zf z2 0 _ rfl
   have cz1 := Zf z2 1 _ rfl
   have cz2 := Zf z2 2 _ rfl
   have cz3 := Zf z2 3 _ rfl
   have cz4 := Zf z2 4 _ rfl
   obtain ⟨z3, t3⟩ := set5 z2 (.int .i64 5) (.string (cut s i (i + m))) (.int .i64 0) (.int .u64 0) (.int .i64 i)
   have Z3 := Zb z3
   have T3 := Zb t3
   clear hb2 R1 T1 Z1 z2 z3 t3 y1 y2
   go_wp2_with fail
   refine Yy w.heap.size rfl rfl Z3.out rfl ?_
   rw [HS.out]
   exact ⟨rfl, R2.out.tn T3.out (Ne.symm hne), T2.out.own T3.out (Nat.le_refl _)⟩
theorem Tok.all {w : World} {g : Nat} {a b c d e : Value} (h : Tok w g a b c d e) :
 (w.frozen? ⟨g, 0, none⟩ = false /\ w.frozen? ⟨g, 1, none⟩ = false /\ w.frozen? ⟨g, 2, none⟩ = false /\ w.frozen? ⟨g, 3, none⟩ = false /\ w.frozen? ⟨g, 4, none⟩ = false) ∧
 w.cell? ⟨g, 0, none⟩ = some a /\ w.cell? ⟨g, 1, none⟩ = some b /\ w.cell? ⟨g, 2, none⟩ = some c /\ w.cell? ⟨g, 3, none⟩ = some d /\ w.cell? ⟨g, 4, none⟩ = some e :=
 ⟨⟨Zi h 0, Zi h 1, Zi h 2, Zi h 3, Zi h 4⟩, Zf h 0 _ rfl, Zf h 1 _ rfl, Zf h 2 _ rfl, Zf h 3 _ rfl, Zf h 4 _ rfl⟩
theorem Tok.new (w : World) (a b c d e : Value) : Tok (w.alloc (.cells #[a, b, c, d, e] 80)) w.heap.size a b c d e := B_ _ _
theorem word_any (g : Nat) (s : ByteArray) (i : Nat) (p : List Addr) (w : World) (h : Rdr w g s i) (he : Er w p) (hG : 23 <= g) (hs : s.size <= 9000) (hi : i < s.size) :
 Calls Tryz.prog 155 #[.pointer (some ⟨g, 0, none⟩)] w fun e w' => Post g s p w e w' (wordF s i) := by
 have hb0 := Zb (Zd w tokZ)
 have hz0 : Hid (Tok (w.alloc tokZ) w.heap.size (.int .i64 0) (.string ⟨#[]⟩) (.int .i64 0) (.int .u64 0) (.int .i64 0)) := B_ _ _
 have H0 := Zb (h.below hb0.out)
 have E0 := Zb (he.bel hb0.out)
 have g2 := H0.out.pos
 have hne : w.heap.size ≠ g := Nat.ne_of_gt (Ze h)
 have hge := overF_ge ZJ s i
 have hle := YC ZJ s i (Nat.le_of_lt hi)
 have HW : Hid (wordF s i = if 24 < ZC ZJ s i - i then .bad 5 i else .ok ⟨if isKey (cut s i (ZC ZJ s i)) = true then 2 else 1, cut s i (ZC ZJ s i), 0, 0, i⟩ (ZC ZJ s i)) := rfl
 clear h he
 unfold tokZ at *
 go_enter Tryz.func155, Tryz.ntmps155
 go_wp2_with fail
 generalize w.alloc _ = w0 at *
 refine (over_word g s i w0 H0.out hs (Nat.le_of_lt hi)).mono ?_
 rintro e w1 ⟨rfl, r1, t1⟩
 have R1 := Zb r1
 have T1 := Zb ((Tn.of_bel hb0.out).trans t1)
 have E1 := Zb (E0.out.tn t1 hG)
 have Z1 := Zb (hz0.out.tn t1 hne)
 have y2 := r1.pos
 clear r1 t1 hz0 H0 E0 hb0 g2
 generalize ZC ZJ s i = j at *
 by_cases hl : 24 < j - i
 · rw [if_pos hl] at HW
   have x1 := E1.out.c5
   have hl2 : (24 : Int) < (j : Int) - (i : Int) := by omega
   go_wp2_with fail
   refine (YF _ _ i _).mono ?_
   rintro e w2 ⟨rfl, rfl⟩
   refine ⟨rfl, ?_⟩
   rw [HW.out]
   exact ⟨rfl, T1.out⟩
 · rw [if_neg hl] at HW
   have hl2 : ¬ (24 : Int) < (j : Int) - (i : Int) := by omega
   go_wp2_with fail
   refine (since_any g s i j 1 _ R1.out hs hge hle).mono ?_
   rintro e w2 ⟨rfl, hb2⟩
   have R2 := Zb (R1.out.below hb2)
   have T2 := Zb (T1.out.trans (Tn.of_bel hb2))
   have Z2 := Zb (Z1.out.bel hb2)
   have hN2 : w.heap.size < w2.heap.size := Ze Z2.out
   clear R1 E1 Z1 T1 y2
   go_wp2_with fail
   have hb3 := Zd w2 (.cells #[.int .i64 1, .string (cut s i j), .int .i64 0, .int .u64 0, .int .i64 i] 80)
   have Y3 := Zb (Tok.new w2 (.int .i64 1) (.string (cut s i j)) (.int .i64 0) (.int .u64 0) (.int .i64 i))
   have R3 := Zb (R2.out.below hb3)
   have T3 := Zb (T2.out.trans (Tn.of_bel hb3))
   have Z3 := Zb (Z2.out.bel hb3)
   have hgn : g ≠ w2.heap.size := Nat.ne_of_lt (Ze R2.out)
   have hnn : w.heap.size ≠ w2.heap.size := Nat.ne_of_lt hN2
   clear R2 T2 Z2 hb3
   generalize w2.alloc _ = w3 at *
   generalize w2.heap.size = n at *
   refine (tokenKey_any _ _).mono ?_
   rintro e w4 ⟨rfl, rfl⟩
   by_cases hk : isKey (cut s i j) = true
   · rw [if_pos hk] at HW
     rw [hk]
     obtain ⟨⟨f0, f1, f2, f3, f4⟩, c0, c1, c2, c3, c4⟩ := Y3.out.all
     obtain ⟨y4, t4⟩ := Zs Y3.out 0 (.int .i64 2)
     have Y4 : Hid (Tok (w3.setCell ⟨n, 0, none⟩ (.int .i64 2)) n (.int .i64 2) (.string (cut s i j)) (.int .i64 0) (.int .u64 0) (.int .i64 i)) := y4
     have T4 := Zb t4
     have z4 := Z3.out.tn t4 hnn
     obtain ⟨⟨m0, m1, m2, m3, m4⟩, k0, k1, k2, k3, k4⟩ := Y4.out.all
     obtain ⟨⟨a0, a1, a2, a3, a4⟩, b0, b1, b2, b3, b4⟩ := z4.all
     obtain ⟨z5, t5⟩ := set5 z4 (.int .i64 2) (.string (cut s i j)) (.int .i64 0) (.int .u64 0) (.int .i64 i)
     have Z5 := Zb z5
     have T5 := Zb t5
     clear y4 z4 z5 t4 t5
     go_wp2_with fail
     refine Yy w.heap.size rfl rfl Z5.out rfl ?_
     rw [HW.out]
     exact ⟨rfl, (R3.out.tn T4.out hgn).tn T5.out (Ne.symm hne), (T3.out.own T4.out (Nat.le_of_lt hN2)).own T5.out (Nat.le_refl _)⟩
   · have hk : isKey (cut s i j) = false := by simpa using hk
     rw [hk]
     rw [hk] at HW
     obtain ⟨_, c0, c1, c2, c3, c4⟩ := Y3.out.all
     obtain ⟨⟨a0, a1, a2, a3, a4⟩, b0, b1, b2, b3, b4⟩ := Z3.out.all
     obtain ⟨z5, t5⟩ := set5 Z3.out (.int .i64 1) (.string (cut s i j)) (.int .i64 0) (.int .u64 0) (.int .i64 i)
     have Z5 := Zb z5
     have T5 := Zb t5
     clear z5 t5
     go_wp2_with fail
     refine Yy w.heap.size rfl rfl Z5.out rfl ?_
     rw [HW.out]
     exact ⟨rfl, R3.out.tn T5.out (Ne.symm hne), T3.out.own T5.out (Nat.le_refl _)⟩
end Go.Proofs.YtfnplhfjfolojaaGreatDoor.Ck
