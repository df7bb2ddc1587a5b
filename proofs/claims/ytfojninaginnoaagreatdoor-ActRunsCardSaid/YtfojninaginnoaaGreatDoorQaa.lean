/- Texts of this proof, packed: contracts of the program's functions, and the plain model that they are held against. -/
import Derived.Test.YtfojninaginnoaaGreatDoorChecked
import Derived.WalkKit
import Derived.Outline
import Derived.BigQuiet
import Derived.Deep.QuietTactic
import Derived.WalkSmall
import Derived.Deep.OwnRows
import Derived.Test.YtfojninaginnoaaGreatDoorRows
import Derived.LaidMore
import Derived.MakeChecks
import Derived.Stop.LaidErr
import Derived.Stop.Joined
import Derived.LaidEql
import Derived.Stop.Asserts
import Derived.WalkLawsBesides
import Derived.LaidEqlPtr
import Derived.Maps.AppendAt
import Derived.OwnWalk
import Derived.Deep.RegionHeld3
import Derived.Deep.RegionHeld3
set_option maxRecDepth 20000
set_option maxHeartbeats 4000000
namespace Go.Proofs.YtfojninaginnoaaGreatDoor.Ck
theorem S_ : (∀ {α : Type} (a : List α) (i : Nat) (h : i < a.toArray.size), a.toArray[i] = a[i]'(by simpa using h)) ∧ (∀ {α : Type} (a : α) (l : List α) (h : 0 < (a :: l).length), (a :: l)[0] = a) ∧ (∀ {α : Type} (a : α) (l : List α) (i : Nat) (h : i + 1 < (a :: l).length), (a :: l)[i + 1] = l[i]'(Nat.lt_of_succ_lt_succ h)) ∧ (∀ {α : Type} (l : List α) (i : Nat) (a : α), l.toArray.setIfInBounds i a = (l.set i a).toArray) ∧ (∀ {α : Type} (l : List α) (x a : α), (a :: l).set 0 x = x :: l) ∧ (∀ {α : Type} (l : List α) (i : Nat) (x a : α), (a :: l).set (i + 1) x = a :: l.set i x) :=
  ⟨fun _ _ _ => List.getElem_toArray _, fun _ _ _ => rfl, fun _ _ _ _ => rfl, fun _ _ _ => List.setIfInBounds_toArray _ _ _, fun _ _ _ => rfl, fun _ _ _ _ => rfl⟩
abbrev I_ (x : Int) : Value := .int .i64 x
abbrev P_ (g : Nat) : Value := .pointer (some ⟨g, 0, none⟩)
theorem G_ {α : Type} {l : List α} {i : Nat} {x : α} (h : l[i]? = some x) : i < l.length := (List.getElem?_eq_some_iff.1 h).1
section
variable {P : Program} {ops : Array Oper} {Q : Exit → Act → World → Prop} {md : Region.Mode} {S : World → Prop} {oi : Oper} {fuel : Nat} {listed : Array Bool} {a : Act} {w : World}
theorem T_ (i : Nat) {v : Value} (hy : ∀ w, (execOp a.eval oi).run P w = .ok (.value v) w) (h : wpAny P md ops Q fuel (listed.setIfInBounds i true) (a.put oi.dst v) w) (hi : ops[i]? = some oi := by rfl) (hs : Region.noSelect ops = true := by kernel_rfl) (hf : Region.free md ops listed i = true := by kernel_rfl) (hr : (Region.ready md ops listed).contains i = true := by kernel_rfl)
    (hQ : ∀ c a w, Q (.panic c) (a.put oi.dst v) w → Q (.panic c) a w := by exact fun _ _ _ h => h) (hw : Region.wanted oi (yielded ops a.tmps) = true := by rfl) : wpAny P md ops Q (fuel + 1) listed a w := wpAny_take hi hs hf hr hQ (Or.inl ⟨hw, hy⟩) h
theorem H_ (i : Nat) {v : Value} (hy : ∀ w, S w → (execOp a.eval oi).run P w = .ok (.value v) w) (hS : S w) (h : wpAnyH P md ops Q S fuel (listed.setIfInBounds i true) (a.put oi.dst v) w) (hi : ops[i]? = some oi := by rfl) (hs : Region.noSelect ops = true := by kernel_rfl) (hf : Region.free md ops listed i = true := by kernel_rfl) (hr : (Region.ready md ops listed).contains i = true := by kernel_rfl)
    (hQ : ∀ c a w, Q (.panic c) (a.put oi.dst v) w → Q (.panic c) a w := by exact fun _ _ _ h => h) (hw : Region.wanted oi (yielded ops a.tmps) = true := by rfl) : wpAnyH P md ops Q S (fuel + 1) listed a w := wpAnyH_take hi hs hf hr hQ (Or.inl ⟨hw, hy⟩) hS h
theorem T2_ (i : Nat) {v : Value} (h : wpAny P md ops Q fuel (listed.setIfInBounds i true) (a.put oi.dst v) w) (hi : ops[i]? = some oi := by rfl) (hy : ∀ w, (execOp a.eval oi).run P w = .ok (.value v) w := by (intro w; go_simp <;> with_reducible rfl)) (hs : Region.noSelect ops = true := by kernel_rfl) (hf : Region.free md ops listed i = true := by kernel_rfl) (hr : (Region.ready md ops listed).contains i = true := by kernel_rfl)
    (hQ : ∀ c a w, Q (.panic c) (a.put oi.dst v) w → Q (.panic c) a w := by exact fun _ _ _ h => h) (hw : Region.wanted oi (yielded ops a.tmps) = true := by rfl) : wpAny P md ops Q (fuel + 1) listed a w := wpAny_take hi hs hf hr hQ (Or.inl ⟨hw, hy⟩) h
theorem H2_ (i : Nat) {v : Value} (hS : S w) (h : wpAnyH P md ops Q S fuel (listed.setIfInBounds i true) (a.put oi.dst v) w) (hi : ops[i]? = some oi := by rfl) (hy : ∀ w, S w → (execOp a.eval oi).run P w = .ok (.value v) w := by (intro w _; go_simp <;> with_reducible rfl)) (hs : Region.noSelect ops = true := by kernel_rfl) (hf : Region.free md ops listed i = true := by kernel_rfl) (hr : (Region.ready md ops listed).contains i = true := by kernel_rfl)
    (hQ : ∀ c a w, Q (.panic c) (a.put oi.dst v) w → Q (.panic c) a w := by exact fun _ _ _ h => h) (hw : Region.wanted oi (yielded ops a.tmps) = true := by rfl) : wpAnyH P md ops Q S (fuel + 1) listed a w := wpAnyH_take hi hs hf hr hQ (Or.inl ⟨hw, hy⟩) hS h
theorem RH_ (i : Nat) (h : ∀ K' : Act → World → Prop, Shut (∀ a w, S w → (S w → wpAnyH P md ops Q S fuel (listed.setIfInBounds i true) a w) → K' a w) → if Region.wanted oi (yielded ops a.tmps) = true then Oper.wp P oi a w K' Q else K' (a.put oi.dst undef) w) (hr : Region.ready md ops listed = [i] := by kernel_rfl) (ho : ops[i]? = some oi := by rfl) : wpAnyH P md ops Q S (fuel + 1) listed a w :=
  wpAnyH_ready hr (by simp) (AllReadyH.cons ho h AllReadyH.nil)
theorem B_ (w : World) (o : Obj) : (w.alloc o).heap[w.heap.size]? = some o := Go.Deep.blk_alloc_new w o
theorem R_ (i : Nat) (h : ∀ K' : Act → World → Prop, (∀ a w, wpAny P md ops Q fuel (listed.setIfInBounds i true) a w → K' a w) → if Region.wanted oi (yielded ops a.tmps) = true then Oper.wp P oi a w K' Q else K' (a.put oi.dst undef) w) (hr : Region.ready md ops listed = [i] := by kernel_rfl) (ho : ops[i]? = some oi := by rfl) : wpAny P md ops Q (fuel + 1) listed a w :=
  wpAny_ready hr (by simp) (AllReady.cons ho h AllReady.nil)
end
end Go.Proofs.YtfojninaginnoaaGreatDoor.Ck
namespace Go.Proofs.YtfojninaginnoaaGreatDoor.Ck
open Go.RowKit
def Fits (c : List Int) : Prop := ∀ z ∈ c, -9223372036854775808 <= z /\ z <= 9223372036854775807
def Sl (w : World) (v : Value) (zs : List Int) : Prop :=
 Fits zs /\ ∃ a cap, v = .slice a zs.length cap /\ zs.length <= cap /\ cap <= maxLen ∧
  ∀ i, i < zs.length -> ∃ b off, a = some ⟨b, off, none⟩ /\ b < w.heap.size /\ w.cell? ⟨b, off + i, none⟩ = some (I_ (zs.getD i 0))
theorem Sl.below {w w' : World} {v : Value} {zs : List Int} (h : Sl w v zs) {B : Nat} (hB : w.heap.size <= B) (hb : Below B w w') : Sl w' v zs := by
 obtain ⟨hf, a, cap, hv, h1, h2, h3⟩ := h
 refine ⟨hf, a, cap, hv, h1, h2, fun i hi => ?_⟩
 obtain ⟨b, off, ha, hlt, hc⟩ := h3 i hi
 exact ⟨b, off, ha, Nat.lt_of_lt_of_le hlt hb.size, by rw [hb.cell (p := ⟨b, off + i, none⟩) (Nat.lt_of_lt_of_le hlt hB)]; exact hc⟩
theorem Zg {w w1 w2 : World} (h : Below w.heap.size w w1) (h2 : Below w1.heap.size w1 w2) : Below w.heap.size w w2 := h.trans (h2.mono h.size)
theorem Zu {w w1 : World} (h : Below w.heap.size w w1) (o : Obj) : Below w.heap.size w (w1.alloc o) := h.alloc h.size o
theorem Zd (w : World) (o : Obj) : Below w.heap.size w (w.alloc o) := (Below.refl _ _).alloc (Nat.le_refl _) o
theorem Sl.nilS (w : World) : Sl w (.slice none 0 0) [] :=
 ⟨fun _ h => (by cases h), none, 0, rfl, Nat.le_refl _, Nat.zero_le _, fun _ h => absurd h (Nat.not_lt_zero _)⟩
theorem Sl.slice {w : World} {v : Value} {zs : List Int} (h : Sl w v zs) : ∃ a n c, v = .slice a n c /\ n = zs.length := by
 obtain ⟨_, a, c, rfl, _⟩ := h
 exact ⟨_, _, _, rfl, rfl⟩
theorem Sl.at {w : World} {a : Option Addr} {n c : Nat} {zs : List Int} (h : Sl w (.slice a n c) zs) (i : Nat) (hi : i < n) :
 ∃ b off, a = some ⟨b, off, none⟩ /\ b < w.heap.size /\ w.cell? ⟨b, off + i, none⟩ = some (I_ (zs.getD i 0)) := by
 obtain ⟨_, a', c', e, _, _, hc⟩ := h
 cases e
 exact hc i hi
theorem ret_bool {a b : Bool} (h : a = b) : Ending.returned (.bool a) = .returned (.bool b) := by rw [h]
theorem info3 : (Tryz.prog.info? 3).map (fun i => (i.zero, i.size, i.bytes)) = some (some (I_ 0), 1, 8) := by kernel_rfl
end Go.Proofs.YtfojninaginnoaaGreatDoor.Ck
namespace Go.Proofs.YtfojninaginnoaaGreatDoor.Ck
open Go.ChangeShapes Go.WideShapes Go.RowKit
theorem own : ownKnob Tryz.prog.godebug = none := by kernel_rfl
theorem laidOut : laidOutB Tryz.prog = true := by kernel_rfl
theorem star : "*" ++ "errors.errorString" = "*errors.errorString" := by decide
theorem rowEs (u : TypeId) (h : Tryz.prog.typeName? 3 u = some "*errors.errorString") : u = 203 :=
 typeName_ptr_named (nm := "errors.errorString") (by rw [star]; kernel_rfl) (by kernel_rfl) (by decide) u (by rw [star]; exact h)
theorem cellsEs : Tryz.prog.cellsOf 228 = 1 := by kernel_rfl
theorem cells9 : Tryz.prog.cellsOf 9 = 1 := by kernel_rfl
end Go.Proofs.YtfojninaginnoaaGreatDoor.Ck
namespace Go.Proofs.YtfojninaginnoaaGreatDoor.Ck
open Go.ChangeShapes Go.WideShapes Go.RowKit
def sentD (t : List UInt8) : DataW Unit := .iface "*errors.errorString" (.ptr (.agg [.lit (.string t)]))
def Sents (W : World) : List Nat -> List Addr -> Prop
 | [], [] => True
 | g :: gs, a :: av => (g < W.heap.size /\ W.cell? ⟨g, 0, none⟩ = some (.iface 203 (.pointer (some a))) /\ ∃ c t, W.heap[a.block]? = some (.cells c t (0, 0))) /\ Sents W gs av
 | _, _ => False
theorem Sents.at {W : World} {gs : List Nat} {av : List Addr} (h : Sents W gs av) (i : Nat) (hi : i < gs.length) :
 (gs.getD i 0 < W.heap.size /\ W.cell? ⟨gs.getD i 0, 0, none⟩ = some (.iface 203 (.pointer (some (av.getD i ⟨0, 0, none⟩)))) /\ ∃ c t, W.heap[(av.getD i ⟨0, 0, none⟩).block]? = some (.cells c t (0, 0))) := by
 induction gs generalizing av i with
 | nil => exact absurd hi (Nat.not_lt_zero _)
 | cons g gs ih =>
  cases av with
  | nil => exact absurd h (fun h => h)
  | cons a av =>
   cases i with
   | zero => exact h.1
   | succ i => exact ih h.2 i (by simpa using hi)
def placeOf (a : Addr) : MemPlace := .cell a.block a.off
theorem sents_of {W : World} (l : List (String × List UInt8)) (gs : List Nat) (ps : List MemPlace) (hlen : l.length = gs.length)
    (hg : ∀ i, i < l.length -> Tryz.prog.globalNamed (l.getD i ("", [])).1 = some (gs.getD i 0) /\ (Tryz.prog.globals[gs.getD i 0]?).map (·.type) = some 34)
    (h : DataW.LaidVars Tryz.prog W (l.map fun x => (x.1, sentD x.2)) ps)
    (hrows : ∀ b off, MemPlace.cell b off ∈ ps -> (∃ c t, W.heap[b]? = some (.cells c t (0, 0))) /\ ∀ u v, W.cell? ⟨b, off, none⟩ = some (.iface u v) -> Value.okWide Tryz.prog W .any 0 u v) :
    ∃ av, Sents W gs av /\ (av.map placeOf).Sublist ps := by
  induction l generalizing gs ps with
  | nil =>
    cases gs with
    | nil => exact ⟨[], trivial, by simp⟩
    | cons g gs => simp at hlen
  | cons x l ih =>
    cases gs with
    | nil => simp at hlen
    | cons g gs =>
      obtain ⟨g0, t0, cs0, f0, p0, q0, hg0, ht0, hv0, hd0, hq0, e0⟩ := h
      have h0 := hg 0 (by simp)
      simp at h0
      obtain rfl := Option.some.inj (h0.1.symm.trans hg0)
      have ht : t0 = 34 := by
        have h1 := ht0
        simp only [Option.map_eq_some_iff] at h1
        obtain ⟨gl, hgl, hgt⟩ := h1
        obtain ⟨gl', hgl', hgt'⟩ := h0.2
        rw [hgl] at hgl'
        cases hgl'
        exact hgt.symm.trans hgt'
      subst ht
      subst e0
      obtain ⟨l0⟩ := cs0
      obtain ⟨a, s0, rfl, hc0, _, _, rfl⟩ := errorString_of_trod Tryz.underlying34 rowEs Tryz.underlying203 Tryz.underlying228 rfl rfl Tryz.underlying9 cellsEs cells9 hd0 (fun u v e => by
        subst e
        exact (hrows g 0 (by simp [MemPlace.row])).2 u v (by simpa using World.var?_cell hg0 hv0 0))
      have hcell := World.var?_cell hg0 hv0 0
      obtain ⟨c, t, hb⟩ := (hrows a.block a.off (by simp [MemPlace.row])).1
      obtain ⟨av, hs, hsub⟩ := ih gs q0 (by simpa using hlen) (fun i hi => by simpa using hg (i + 1) (by simpa using hi)) hq0 (fun b off hm => hrows b off (List.mem_append_right _ hm))
      refine ⟨a :: av, ⟨⟨?_, by simpa using hcell, c, t, hb⟩, hs⟩, ?_⟩
      · rcases Nat.lt_or_ge g W.heap.size with h' | h'
        · exact h'
        · simp [World.cell?, Array.getElem?_eq_none h'] at hcell
      · have e1 : (placeOf a :: av.map placeOf).Sublist (MemPlace.row a 1 ++ q0) := by
          have : MemPlace.row a 1 = [placeOf a] := by simp [MemPlace.row, placeOf]
          rw [this]
          exact List.Sublist.cons_cons _ hsub
        rw [List.append_assoc]
        exact List.Sublist.trans e1 (List.sublist_append_right _ _)
def adr (p : List Addr) (i : Nat) : Addr := p.getD i ⟨0, 0, none⟩
abbrev errV (p : List Addr) (i : Nat) : Value := .iface 203 (.pointer (some (adr p i)))
theorem Za {p : Prop} (h : p) : Hid p := h
theorem Zp {n : Nat} {w w' : World} (h : Below n w w') : Below n w w'.drew := ⟨h.os, h.tape, h.output, h.size, h.block⟩
theorem ZK : Tryz.prog.follows .mixedOrders = true := by kernel_rfl
structure E2 (w : World) (p : List Addr) : Prop where
 l0 : 1 < w.heap.size
 l4 : 5 < w.heap.size
 c0 : w.cell? ⟨1, 0, none⟩ = some (errV p 0)
 c4 : w.cell? ⟨5, 0, none⟩ = some (errV p 4)
theorem E2.below {w w' : World} {p : List Addr} (h : E2 w p) {B : Nat} (hB : w.heap.size <= B) (hb : Below B w w') : E2 w' p :=
 ⟨Nat.lt_of_lt_of_le h.l0 hb.size, Nat.lt_of_lt_of_le h.l4 hb.size, (hb.cell (p := ⟨1, 0, none⟩) (Nat.lt_of_lt_of_le h.l0 hB)).trans h.c0, (hb.cell (p := ⟨5, 0, none⟩) (Nat.lt_of_lt_of_le h.l4 hB)).trans h.c4⟩
theorem Zb {w : World} {g : Nat} {c : Array Value} {T : TypeId} {r : Nat × Nat} (h : w.heap[g]? = some (.cells c T r)) (i : Nat) (v : Value) (hv : c[i]? = some v) : w.cell? ⟨g, i, none⟩ = some v := by simp [World.cell?, h, hv]
theorem vf0 (a b c : Value) (w : World) : (Instr.field 64 (.agg #[a, b, c]) 0).run Tryz.prog w = .ok a w := by kernel_rfl
theorem eqIn_vv (w : World) (a b c a' b' c' : Int) : (Op.equalIn 10000 64 (.agg #[I_ a, I_ b, .int .u64 c]) (.agg #[I_ a', I_ b', .int .u64 c'])).run Tryz.prog w = .ok (a == a' && (b == b' && c == c')) w := by
 have hi : ∀ (x y : Int) (w : World), (Op.equalIn 9999 3 (I_ x) (I_ y)).run Tryz.prog w = .ok (x == y) w := fun x y w => run_equalIn_int w 9998 3 .i64 .i64 x y Tryz.underlying3
 have hu : ∀ (x y : Int) (w : World), (Op.equalIn 9999 62 (.int .u64 x) (.int .u64 y)).run Tryz.prog w = .ok (x == y) w := fun x y w => run_equalIn_int w 9998 62 .u64 .u64 x y Tryz.underlying62
 have e : Tryz.prog.underlying 64 = some (.struct (Tryz.prog.fieldsOf 64)) := by kernel_rfl
 rw [show (10000 : Nat) = 9999 + 1 from rfl, run_equalIn_agg w 9999 64 _ _ e (by kernel_rfl)]
 have hf : (Tryz.prog.fieldsOf 64).toList.map (fun f => (f.name, f.type, f.offset)) = [("Type", 3, 0), ("N", 3, 1), ("Bits", 62, 2)] := by kernel_rfl
 generalize (Tryz.prog.fieldsOf 64).toList = l at hf
 obtain ⟨f1, l1, rfl, h1, hf⟩ := List.map_eq_cons_iff.1 hf
 obtain ⟨f2, l2, rfl, h2, hf⟩ := List.map_eq_cons_iff.1 hf
 obtain ⟨f3, l3, rfl, h3, hf⟩ := List.map_eq_cons_iff.1 hf
 obtain rfl := List.map_eq_nil_iff.1 hf
 simp only [Prod.mk.injEq] at h1 h2 h3
 simp [go_sem, Op.eqFields, h1, h2, h3, hi, hu]
 by_cases ha : a = a' <;> by_cases hb : b = b' <;> by_cases hc : c = c' <;> simp [ha, hb, hc]
theorem neq_vv (w : World) (a b c a' b' c' : Int) : (binOp .neq 64 (.agg #[I_ a, I_ b, .int .u64 c]) (.agg #[I_ a', I_ b', .int .u64 c'])).run Tryz.prog w = .ok (.bool (!(a == a' && (b == b' && c == c')))) w := by
 rw [run_neq_struct, eqIn_vv]
 rfl
def Yn (t n b : Int) : Bool := (t == 1 && b == 0) || (t == 2 && n == 0) || (t == 3 && (n == 0 || n == 1) && b == 0)
def Vb (w : World) (v : Value) (e : Ending) (w' : World) : Prop := e = .returned v /\ Below w.heap.size w w'
theorem Vb.mk {w w' : World} {v v' : Value} (h : v = v') (hb : Below w.heap.size w w') : Vb w v' (.returned v) w' := ⟨by rw [h], hb⟩
theorem good_any (t n b : Int) (w : World) : Calls Tryz.prog 103 #[.agg #[I_ t, I_ n, .int .u64 b]] w (Vb w (.bool (Yn t n b))) := by
 have HB := Za (Zd w (.cells #[I_ t, I_ n, .int .u64 b] 64))
 obtain ⟨g, hg⟩ : ∃ g, Yn t n b = g := ⟨_, rfl⟩
 rw [hg]
 have HG := Za hg
 clear hg
 by_cases h1 : t = 1
 · subst h1
   go_enter Tryz.func103, Tryz.ntmps103
   go_wp2_with fail
   all_goals
    go_ret
    exact Vb.mk (congrArg Value.bool (by rw [← HG.out]; simp [Yn])) HB.out
 by_cases h2 : t = 2
 · subst h2
   go_enter Tryz.func103, Tryz.ntmps103
   go_wp2_with fail
   all_goals
    go_ret
    exact Vb.mk (congrArg Value.bool (by rw [← HG.out]; simp [Yn])) HB.out
 by_cases h3 : t = 3
 · subst h3
   go_enter Tryz.func103, Tryz.ntmps103
   by_cases h4 : n = 0
   · subst h4
     go_wp2_with fail
     all_goals
      go_ret
      exact Vb.mk (congrArg Value.bool (by rw [← HG.out]; simp [Yn])) HB.out
   by_cases h5 : n = 1
   · subst h5
     go_wp2_with fail
     all_goals
      go_ret
      exact Vb.mk (congrArg Value.bool (by rw [← HG.out]; simp [Yn])) HB.out
   go_wp2_with fail
   all_goals
    go_ret
    exact Vb.mk (congrArg Value.bool (by rw [← HG.out]; simp [Yn, h4, h5])) HB.out
 go_enter Tryz.func103, Tryz.ntmps103
 go_wp2_with fail
 all_goals
  go_ret
  exact Vb.mk (congrArg Value.bool (by rw [← HG.out]; simp [Yn, h1, h2, h3])) HB.out
def Val (w : World) (g : Nat) (t n b : Int) : Prop := w.heap[g]? = some (.cells #[I_ t, I_ n, .int .u64 b] 64 (0, 0))
theorem Val.new (w : World) (t n b : Int) : Val (w.alloc (.cells #[I_ t, I_ n, .int .u64 b] 64)) w.heap.size t n b := B_ _ _
theorem Val.bel {w w' : World} {g N : Nat} {t n b : Int} (h : Val w g t n b) (hb : Below N w w') (hg : g < N) : Val w' g t n b := (hb.block g hg).trans h
theorem Val.lt {w : World} {g : Nat} {t n b : Int} (h : Val w g t n b) : g < w.heap.size := by
 unfold Val at h
 by_cases hg : g < w.heap.size
 · exact hg
 · rw [Array.getElem?_eq_none (by omega)] at h; cases h
theorem Val.al {w w' : World} {g : Nat} {t n b : Int} (h : Val w g t n b) (hb : Below w.heap.size w w') : Val w' g t n b := h.bel hb h.lt
theorem Val.all {w : World} {g : Nat} {t n b : Int} (h : Val w g t n b) :
 (w.frozen? ⟨g, 0, none⟩ = false /\ w.frozen? ⟨g, 1, none⟩ = false /\ w.frozen? ⟨g, 2, none⟩ = false) /\ w.cell? ⟨g, 0, none⟩ = some (I_ t) /\ w.cell? ⟨g, 1, none⟩ = some (I_ n) /\ w.cell? ⟨g, 2, none⟩ = some (.int .u64 b) := by
 unfold Val at h
 simp [World.frozen?, World.cell?, h]
theorem Val.set {w : World} {g : Nat} {t n b : Int} (h : Val w g t n b) (t' n' b' : Int) : Val (((w.setCell ⟨g, 0, none⟩ (I_ t')).setCell ⟨g, 1, none⟩ (I_ n')).setCell ⟨g, 2, none⟩ (.int .u64 b')) g t' n' b' :=
 heap_setCell_same _ _ _ _ _ _ (heap_setCell_same _ _ _ _ _ _ (heap_setCell_same _ _ _ _ _ _ h))
theorem Zt {w w2 : World} {N g : Nat} (h : Below N w w2) (hg : N <= g) (x y z : Value) : Below N w (((w2.setCell ⟨g, 0, none⟩ x).setCell ⟨g, 1, none⟩ y).setCell ⟨g, 2, none⟩ z) :=
 ((h.setCell (p := ⟨g, 0, none⟩) hg x).setCell (p := ⟨g, 1, none⟩) hg y).setCell (p := ⟨g, 2, none⟩) hg z
theorem ret_v {fn : Func} {R : Ending -> World -> Prop} {a : Act} {w : World} {p : Tmp} (g : Nat) {t n b : Int} (hf : fn.results = #[.cell p 64]) (hp : a.tmps.getD p undef = P_ g)
    (h : Val w g t n b) (hdf : a.defers = []) (hR : R (.returned (.agg #[I_ t, I_ n, .int .u64 b])) w) : bodyPost Tryz.prog fn R .ret a w :=
  bodyPost_ret (by
    have hp' : a.tmps[p]?.getD undef = P_ g := by simpa using hp
    obtain ⟨_, c0, c1, c2⟩ := h.all
    simp [results, hf, hp', go_sem, c0, c1, c2]) hdf hR
def Vv (w : World) (t n b : Int) (e : Ending) (w' : World) : Prop := e = .returned (.agg #[I_ t, I_ n, .int .u64 b]) /\ Below w.heap.size w w'
theorem Vv.mk {w w' : World} {t n b t' n' b' : Int} (h : t = t' /\ n = n' /\ b = b') (hb : Below w.heap.size w w') : Vv w t' n' b' (.returned (.agg #[I_ t, I_ n, .int .u64 b])) w' := by
 obtain ⟨rfl, rfl, rfl⟩ := h; exact ⟨rfl, hb⟩
theorem int_any (n : Int) (w : World) : Calls Tryz.prog 97 #[I_ n] w (Vv w 1 n 0) := by
 go_enter Tryz.func97, Tryz.ntmps97
 go_wp2_with fail
 exact ret_v w.heap.size rfl rfl (Val.new w _ _ _) rfl (Vv.mk ⟨rfl, rfl, rfl⟩ (Zd _ _))
def Yj (t : Int) : Int := if t = 1 ∨ t = 2 ∨ t = 3 then t else 0
theorem zero_any (t : Int) (w : World) : Calls Tryz.prog 53 #[I_ t] w (Vv w (Yj t) 0 0) := by
 obtain ⟨z, hz⟩ : ∃ z, Yj t = z := ⟨_, rfl⟩
 rw [hz]
 have HZ := Za hz
 clear hz
 go_enter Tryz.func53, Tryz.ntmps53
 go_wp2_with fail
 all_goals
  refine ret_v w.heap.size rfl rfl (Val.new w _ _ _) rfl (Vv.mk ⟨?_, rfl, rfl⟩ (Zd _ _))
  rw [← HZ.out]
  simp_all [Yj]
theorem noType_any (t : Int) (w : World) : Calls Tryz.prog 50 #[I_ t] w (Vb w (.bool (Yj t == 0))) := by
 have f0 := vf0
 go_enter Tryz.func50, Tryz.ntmps50
 go_wp2_with fail
 refine (zero_any _ _).mono ?_
 rintro e w1 ⟨rfl, hb⟩
 go_wp2_with fail
 go_ret
 exact Vb.mk rfl hb
theorem fits_any (n : Int) (w : World) : Calls Tryz.prog 48 #[I_ n] w fun e w' => e = .returned (.bool (decide (0 <= n) && decide (n <= 32))) /\ w = w' := by
 by_cases h0 : 0 <= n
 · by_cases h1 : n <= 32
   · have h2 : (decide (0 <= n) && decide (n <= 32)) = true := by simp [h0, h1]
     rw [h2]
     clear h2
     go_enter Tryz.func48, Tryz.ntmps48
     go_wp2_with fail
     go_ret
     exact ⟨rfl, rfl⟩
   · have h2 : (decide (0 <= n) && decide (n <= 32)) = false := by simp [h1]
     rw [h2]
     clear h2
     go_enter Tryz.func48, Tryz.ntmps48
     go_wp2_with fail
     go_ret
     exact ⟨rfl, rfl⟩
 · have h2 : (decide (0 <= n) && decide (n <= 32)) = false := by simp [h0]
   rw [h2]
   clear h2
   go_enter Tryz.func48, Tryz.ntmps48
   go_wp2_with fail
   go_ret
   exact ⟨rfl, rfl⟩
def chanB (t r : Int) : Bool := Yj t == 0 || (decide (r < 0) || decide (8 < r))
theorem noChan_any (t r : Int) (w : World) : Calls Tryz.prog 52 #[.agg #[I_ t, I_ r]] w (Vb w (.bool (chanB t r))) := by
 have HB := Za (Zd w (.cells #[I_ t, I_ r] 94))
 obtain ⟨z, hz⟩ : ∃ z, (Yj t == 0) = z := ⟨_, rfl⟩
 have NT : ∀ w, Calls Tryz.prog 50 #[I_ t] w (Vb w (.bool z)) := fun w => by
  have := noType_any t w
  rw [hz] at this
  exact this
 obtain ⟨g, hg⟩ : ∃ g, chanB t r = g := ⟨_, rfl⟩
 rw [hg]
 unfold chanB at hg
 rw [hz] at hg
 have HG := Za hg
 clear hg hz
 have c0 : (w.alloc (.cells #[I_ t, I_ r] 94)).cell? ⟨w.heap.size, 1, none⟩ = some (I_ r) := Zb (B_ w _) 1 _ rfl
 cases z with
 | true =>
  go_enter Tryz.func52, Tryz.ntmps52
  go_wp2_with fail
  refine (NT _).mono ?_
  rintro e w1 ⟨rfl, hb⟩
  go_wp2_with fail
  go_ret
  exact Vb.mk (congrArg Value.bool (by rw [← HG.out]; rfl)) (Zg HB.out hb)
 | false =>
  by_cases h1 : r < 0
  · have E : g = true := by rw [← HG.out]; simp [h1]
    subst E
    clear HG
    go_enter Tryz.func52, Tryz.ntmps52
    go_wp2_with fail
    refine (NT _).mono ?_
    rintro e w1 ⟨rfl, hb⟩
    have c1 : w1.cell? ⟨w.heap.size, 1, none⟩ = some (I_ r) := (hb.cell (p := ⟨w.heap.size, 1, none⟩) (by simp)).trans c0
    go_wp2_with fail
    go_ret
    exact Vb.mk rfl (Zg HB.out hb)
  · have E : g = decide (8 < r) := by rw [← HG.out]; simp [h1]
    subst E
    clear HG
    go_enter Tryz.func52, Tryz.ntmps52
    go_wp2_with fail
    refine (NT _).mono ?_
    rintro e w1 ⟨rfl, hb⟩
    have c1 : w1.cell? ⟨w.heap.size, 1, none⟩ = some (I_ r) := (hb.cell (p := ⟨w.heap.size, 1, none⟩) (by simp)).trans c0
    go_wp2_with fail
    all_goals
     go_ret
     exact Vb.mk (by simp; try omega) (Zg HB.out hb)
def isB (t n b ty : Int) : Bool := Yn t n b && t == ty
theorem isOf_any (t n b ty : Int) (w : World) : Calls Tryz.prog 108 #[.agg #[I_ t, I_ n, .int .u64 b], I_ ty] w (Vb w (.bool (isB t n b ty))) := by
 have HB := Za (Zd w (.cells #[I_ t, I_ n, .int .u64 b] 64))
 have V0 := Val.new w t n b
 obtain ⟨z, hz⟩ : ∃ z, Yn t n b = z := ⟨_, rfl⟩
 have GA : ∀ w, Calls Tryz.prog 103 #[.agg #[I_ t, I_ n, .int .u64 b]] w (Vb w (.bool z)) := fun w => by
  have := good_any t n b w
  rw [hz] at this
  exact this
 obtain ⟨g, hg⟩ : ∃ g, isB t n b ty = g := ⟨_, rfl⟩
 rw [hg]
 unfold isB at hg
 rw [hz] at hg
 have HG := Za hg
 clear hg hz
 cases z with
 | true =>
  go_enter Tryz.func108, Tryz.ntmps108
  go_wp2_with fail
  refine (GA _).mono ?_
  rintro e w1 ⟨rfl, hb⟩
  obtain ⟨_, c0, _, _⟩ := (V0.al hb).all
  go_wp2_with fail
  go_ret
  exact Vb.mk (congrArg Value.bool (by rw [← HG.out]; simp)) (Zg HB.out hb)
 | false =>
  go_enter Tryz.func108, Tryz.ntmps108
  go_wp2_with fail
  refine (GA _).mono ?_
  rintro e w1 ⟨rfl, hb⟩
  go_wp2_with fail
  go_ret
  exact Vb.mk (congrArg Value.bool (by rw [← HG.out]; simp)) (Zg HB.out hb)
abbrev V3 := Int × Int × Int
def vcs : List V3 -> List Value
 | [] => []
 | v :: l => .int .i64 v.1 :: .int .i64 v.2.1 :: .int .u64 v.2.2 :: vcs l
structure Qu where
 t : Int
 room : Int
 l : List V3
structure St where
 P : List V3
 M : List Bool
 C : List Qu
 A : List Int
def qcs : List Qu -> List Value -> List Value
 | q :: C, v :: vs => .int .i64 q.t :: .int .i64 q.room :: v :: qcs C vs
 | _, _ => []
def bls (l : List Bool) : List Value := l.map Value.bool
def nts (l : List Int) : List Value := l.map (Value.int .i64)
theorem vcs_len : ∀ l, (vcs l).length = l.length * 3
 | [] => rfl
 | v :: l => by
  simp only [vcs, List.length_cons, vcs_len l]
  omega
theorem vcs_app : ∀ a b, vcs (a ++ b) = vcs a ++ vcs b
 | [], b => rfl
 | v :: a, b => by simp [vcs, vcs_app a b]
theorem vcs_at : ∀ (l : List V3) (i : Nat) (v : V3), l[i]? = some v -> (vcs l)[3 * i]? = some (I_ v.1) /\ (vcs l)[3 * i + 1]? = some (I_ v.2.1) /\ (vcs l)[3 * i + 2]? = some (.int .u64 v.2.2)
 | [], i, v, h => by simp at h
 | x :: l, 0, v, h => by
  simp at h
  subst h
  exact ⟨rfl, rfl, rfl⟩
 | x :: l, i + 1, v, h => vcs_at l i v (by simpa using h)
theorem vcs_set : ∀ (l : List V3) (i : Nat) (v : V3), vcs (l.set i v) = (((vcs l).set (3 * i) (I_ v.1)).set (3 * i + 1) (I_ v.2.1)).set (3 * i + 2) (.int .u64 v.2.2)
 | [], i, v => by simp [vcs]
 | x :: l, 0, v => by simp [vcs]
 | x :: l, i + 1, v => by
  rw [show 3 * (i + 1) + 2 = 3 * i + 2 + 1 + 1 + 1 by omega, show 3 * (i + 1) + 1 = 3 * i + 1 + 1 + 1 + 1 by omega, show 3 * (i + 1) = 3 * i + 1 + 1 + 1 by omega]
  simp only [List.set_cons_succ, vcs, vcs_set l i v]
theorem Yt (l : List V3) : ∀ u ∈ vcs l, u.oneCell' = true := by
 induction l with
 | nil => intro u h; simp [vcs] at h
 | cons v l ih =>
  intro u h
  simp only [vcs, List.mem_cons] at h
  rcases h with rfl | rfl | rfl | h
  · rfl
  · rfl
  · rfl
  · exact ih u h
theorem qcs_app : ∀ (C : List Qu) (vs : List Value) (q : Qu) (v : Value), vs.length = C.length -> qcs (C ++ [q]) (vs ++ [v]) = qcs C vs ++ [I_ q.t, I_ q.room, v]
 | [], [], q, v, _ => rfl
 | x :: C, y :: vs, q, v, h => by simp [qcs, qcs_app C vs q v (by simpa using h)]
theorem qcs_at : ∀ (C : List Qu) (vs : List Value) (i : Nat) (q : Qu) (v : Value), C[i]? = some q -> vs[i]? = some v -> (qcs C vs)[3 * i]? = some (I_ q.t) /\ (qcs C vs)[3 * i + 1]? = some (I_ q.room) /\ (qcs C vs)[3 * i + 2]? = some v
 | [], vs, i, q, v, h, _ => by simp at h
 | q :: C, [], i, q', v, _, h => by simp at h
 | q :: C, x :: vs, 0, q', v, h, h' => by
  simp at h h'
  subst h h'
  exact ⟨rfl, rfl, rfl⟩
 | q :: C, x :: vs, i + 1, q', v, h, h' => qcs_at C vs i q' v (by simpa using h) (by simpa using h')
theorem qcs_set : ∀ (C : List Qu) (vs : List Value) (i : Nat) (q q' : Qu) (v : Value), vs.length = C.length -> C[i]? = some q -> q'.t = q.t -> q'.room = q.room -> qcs (C.set i q') (vs.set i v) = (qcs C vs).set (3 * i + 2) v
 | [], [], i, q, q', v, _, h, _, _ => by simp at h
 | x :: C, y :: vs, 0, q, q', v, _, h, h1, h2 => by
  simp at h
  subst h
  simp [qcs, h1, h2]
 | x :: C, y :: vs, i + 1, q, q', v, hl, h, h1, h2 => by
  have e : 3 * (i + 1) + 2 = 3 * i + 2 + 1 + 1 + 1 := by omega
  simp only [List.set_cons_succ, qcs, e, qcs_set C vs i q q' v (by simpa using hl) (by simpa using h) h1 h2]
theorem Ze {w : World} {g : Nat} {o : Obj} (h : w.heap[g]? = some o) : g < w.heap.size := (Array.getElem?_eq_some_iff.1 h).1
theorem Zc {w : World} {g : Nat} {c : Array Value} {T : TypeId} (h : w.heap[g]? = some (.cells c T (0, 0))) (i : Nat) : w.frozen? ⟨g, i, none⟩ = false := frozen_of_row w g i _ T h
theorem Zi (w : World) (a : Addr) (v : Value) : (w.setCell a v).heap.size = w.heap.size := by
 simp only [World.setCell]
 split <;> simp
section
variable {w w' : World} {B : Nat} {T : TypeId} {n : Nat} {v : Value} {len : Nat} {xs : List Value}
theorem Zf (h : w.ownsRow B T n v len xs) {k : Nat} (hk : v.ownBlock = some k) : B <= k /\ k < w.heap.size /\ ∃ c, w.heap[k]? = some (.cells c T (0, 0)) := by
 obtain ⟨hl, h0 | ⟨gb, cap, cur, rfl, hB, hg, r⟩⟩ := h
 · rw [h0.1] at hk
   cases hk
 · have e : gb = k := Option.some.inj hk
   subst e
   exact ⟨hB, Ze hg, cur, hg⟩
theorem Zj (h : w.ownsRow B T n v len xs) (hb : ∀ k, v.ownBlock = some k -> w'.heap[k]? = w.heap[k]?) : w'.ownsRow B T n v len xs := by
 obtain ⟨hl, h0 | ⟨gb, cap, cur, rfl, hB, hg, r⟩⟩ := h
 · exact ⟨hl, .inl h0⟩
 · exact ⟨hl, .inr ⟨gb, cap, cur, rfl, hB, (hb gb rfl).trans hg, r⟩⟩
theorem own_form (h : w.ownsRow B T n v len xs) : (v = .slice none 0 0 /\ len = 0) ∨ ∃ b c, v = .slice (some ⟨b, 0, none⟩) len c /\ len <= c /\ c <= maxLen := by
 obtain ⟨hl, h0 | ⟨gb, cap, cur, rfl, hB, hg, h1, h2, r⟩⟩ := h
 · exact .inl h0
 · exact .inr ⟨_, _, rfl, h1, h2⟩
theorem Zl (h : w.ownsRow B T n v len xs) : ∃ a c, v = .slice a len c /\ len <= c /\ c <= maxLen := by
 rcases own_form h with ⟨rfl, rfl⟩ | ⟨b, c, rfl, h1, h2⟩
 · exact ⟨_, _, rfl, by omega, by unfold maxLen; omega⟩
 · exact ⟨_, _, rfl, h1, h2⟩
theorem Zq (h : w.ownsRow B T n v len xs) (hl : 0 < len) : ∃ b c, v = .slice (some ⟨b, 0, none⟩) len c /\ len <= c /\ c <= maxLen := by
 rcases own_form h with ⟨_, e⟩ | h
 · omega
 · exact h
theorem Zk {b m c : Nat} (h : w.ownsRow B T n (.slice (some ⟨b, 0, none⟩) m c) len xs) (j : Nat) (u : Value) (hu : xs[j]? = some u) : w.cell? ⟨b, j, none⟩ = some u /\ w.frozen? ⟨b, j, none⟩ = false := by
 obtain ⟨hl, ⟨h0, _⟩ | ⟨gb, cap, cur, e, hB, hg, h1, h2, h3, h4⟩⟩ := h
 · cases h0
 · simp only [Value.slice.injEq, Option.some.injEq, Addr.mk.injEq, and_true] at e
   obtain ⟨rfl, rfl, rfl⟩ := e
   refine ⟨?_, Zc hg j⟩
   have hj : j < xs.length := (G_ hu)
   have e2 : (cur.toList.take (m * n))[j]? = xs[j]? := by rw [h4]
   rw [List.getElem?_take_of_lt (by omega), hu] at e2
   exact Zb hg j u (by rw [← Array.getElem?_toList]; exact e2)
theorem ZT {b m c : Nat} (h : w.ownsRow B T n (.slice (some ⟨b, 0, none⟩) m c) len xs) (j : Nat) (u : Value) : (w.setCell ⟨b, j, none⟩ u).ownsRow B T n (.slice (some ⟨b, 0, none⟩) m c) len (xs.set j u) := by
 obtain ⟨hl, ⟨h0, _⟩ | ⟨gb, cap, cur, e, hB, hg, h1, h2, h3, h4⟩⟩ := h
 · cases h0
 · simp only [Value.slice.injEq, Option.some.injEq, Addr.mk.injEq, and_true] at e
   obtain ⟨rfl, rfl, rfl⟩ := e
   refine ⟨by simpa using hl, .inr ⟨b, c, cur.setIfInBounds j u, rfl, hB, heap_setCell_same w b j _ T _ hg, h1, h2, by simpa using h3, ?_⟩⟩
   rw [Array.toList_setIfInBounds, List.take_set, h4]
end
theorem Zo {w : World} {B B' : Nat} {T T' : TypeId} {n n' : Nat} {v v' : Value} {len len' : Nat} {xs xs' : List Value} (h : w.ownsRow B T n v len xs) (h' : w.ownsRow B' T' n' v' len' xs') (hT : T ≠ T') : ∀ k, v.ownBlock = some k -> v'.ownBlock ≠ some k := fun k hk hk' => by
 obtain ⟨_, _, c, hc⟩ := Zf h hk
 obtain ⟨_, _, c', hc'⟩ := Zf h' hk'
 rw [hc] at hc'
 have := Option.some.inj hc'
 injection this with _ h2 _
 exact hT h2
theorem Zv {w : World} {B : Nat} {T T' : TypeId} {n : Nat} {v : Value} {len : Nat} {xs : List Value} (h : w.ownsRow B T n v len xs) {g : Nat} {c : Array Value} (hg : w.heap[g]? = some (.cells c T' (0, 0))) (hT : T ≠ T') : v.ownBlock ≠ some g := fun e => by
 obtain ⟨_, _, c', hc⟩ := Zf h e
 rw [hg] at hc
 have := Option.some.inj hc
 injection this with _ h2 _
 exact hT h2.symm
structure Ch (F F' : Nat -> Prop) (w w' : World) : Prop where
 os : w'.os = w.os
 tape : w'.tape = w.tape
 output : w'.output = w.output
 size : w.heap.size <= w'.heap.size
 blk : ∀ k, k < w.heap.size -> ¬ F k -> w'.heap[k]? = w.heap[k]?
 grow : ∀ k, F' k -> F k ∨ w.heap.size <= k
theorem Ch.refl (F : Nat -> Prop) (w : World) : Ch F F w w := ⟨rfl, rfl, rfl, Nat.le_refl _, fun _ _ _ => rfl, fun _ h => .inl h⟩
theorem Ch.trans {F F' F'' : Nat -> Prop} {a b c : World} (h : Ch F F' a b) (k : Ch F' F'' b c) : Ch F F'' a c :=
  ⟨k.os.trans h.os, k.tape.trans h.tape, k.output.trans h.output, Nat.le_trans h.size k.size, fun i hi hF => (k.blk i (Nat.lt_of_lt_of_le hi h.size) (fun hF' => by
    rcases h.grow i hF' with h1 | h1
    · exact hF h1
    · omega)).trans (h.blk i hi hF), fun i hi => by
    rcases k.grow i hi with h1 | h1
    · exact h.grow i h1
    · exact .inr (Nat.le_trans h.size h1)⟩
theorem Ch.of_bel {F : Nat -> Prop} {w w' : World} (h : Below w.heap.size w w') : Ch F F w w' := ⟨h.os, h.tape, h.output, h.size, fun k hk _ => h.block k hk, fun _ h => .inl h⟩
theorem Ch.bel {F F' : Nat -> Prop} {w w' : World} {B : Nat} (h : Ch F F' w w') (hF : ∀ k, F k -> B <= k) (hB : B <= w.heap.size) : Below B w w' :=
 ⟨h.os, h.tape, h.output, h.size, fun k hk => h.blk k (by omega) (fun e => by have := hF k e; omega)⟩
theorem Ch.drew {F F' : Nat -> Prop} {w w' : World} (h : Ch F F' w w') : Ch F F' w w'.drew := ⟨h.os, h.tape, h.output, h.size, h.blk, h.grow⟩
theorem Ch.below {F F' : Nat -> Prop} {w wa wb : World} (h : Ch F F' w wa) (k : Below w.heap.size wa wb) : Ch F F' w wb :=
 ⟨k.os.trans h.os, k.tape.trans h.tape, k.output.trans h.output, Nat.le_trans h.size k.size, fun i hi hF => (k.block i hi).trans (h.blk i hi hF), h.grow⟩
theorem Ch.low {F F' : Nat -> Prop} {w w' : World} {B : Nat} (h : Ch F F' w w') (hF : ∀ k, F k -> B <= k) (hB : B <= w.heap.size) : ∀ k, F' k -> B <= k := fun k hk => by
 rcases h.grow k hk with h1 | h1
 · exact hF k h1
 · omega
structure Sv (w : World) (F : Nat -> Prop) (g : Nat) (s : St) (vP vM vC vA : Value) (vs : List Value) : Prop where
 at_ : w.heap[g]? = some (.cells #[vP, vM, vC, vA] 110 (0, 0))
 pl : w.ownsRow 0 64 3 vP s.P.length (vcs s.P)
 mu : w.ownsRow 0 4 1 vM s.M.length (bls s.M)
 ch : w.ownsRow 0 113 3 vC s.C.length (qcs s.C vs)
 ato : w.ownsRow 0 3 1 vA s.A.length (nts s.A)
 len : vs.length = s.C.length
 q : ∀ (i : Nat) (q : Qu) (v : Value), s.C[i]? = some q -> vs[i]? = some v -> w.ownsRow 0 64 3 v q.l.length (vcs q.l) /\ ∀ k, v.ownBlock = some k -> F k /\ vP.ownBlock ≠ some k
 ne : ∀ (i j : Nat) (v v' : Value) (k : Nat), i ≠ j -> vs[i]? = some v -> vs[j]? = some v' -> v.ownBlock = some k -> v'.ownBlock ≠ some k
 fg : F g
 fP : ∀ k, vP.ownBlock = some k -> F k
 fM : ∀ k, vM.ownBlock = some k -> F k
 fC : ∀ k, vC.ownBlock = some k -> F k
 fA : ∀ k, vA.ownBlock = some k -> F k
 fb : ∀ k, F k -> k < w.heap.size
 small : s.P.length <= 128 /\ s.M.length <= 32 /\ s.C.length <= 32 /\ s.A.length <= 32
 rooms : ∀ q ∈ s.C, 0 <= q.room /\ q.room <= 8 /\ (q.l.length : Int) <= q.room
def Stt (w : World) (F : Nat -> Prop) (g : Nat) (s : St) : Prop := ∃ vP vM vC vA vs, Sv w F g s vP vM vC vA vs
section
variable {w w' : World} {F F' G : Nat → Prop} {g : Nat} {s : St} {vP vM vC vA : Value} {vs : List Value}
theorem Sv.keep (h : Sv w F g s vP vM vC vA vs) (hb : ∀ k, F k -> w'.heap[k]? = w.heap[k]?) (hs : w.heap.size <= w'.heap.size) : Sv w' F g s vP vM vC vA vs :=
 { h with
  at_ := (hb g h.fg).trans h.at_
  pl := Zj h.pl fun k hk => hb k (h.fP k hk)
  mu := Zj h.mu fun k hk => hb k (h.fM k hk)
  ch := Zj h.ch fun k hk => hb k (h.fC k hk)
  ato := Zj h.ato fun k hk => hb k (h.fA k hk)
  q := fun i q v hq hv => ⟨Zj (h.q i q v hq hv).1 fun k hk => hb k ((h.q i q v hq hv).2 k hk).1, (h.q i q v hq hv).2⟩
  fb := fun k hk => Nat.lt_of_lt_of_le (h.fb k hk) hs }
theorem Sv.bel (h : Sv w F g s vP vM vC vA vs) (hb : Below w.heap.size w w') : Sv w' F g s vP vM vC vA vs := h.keep (fun k hk => hb.block k (h.fb k hk)) hb.size
theorem Sv.var (h : Sv w F g s vP vM vC vA vs) {k : Nat} (hk : ¬ F k) (x y z : Value) : Sv (((w.setCell ⟨k, 0, none⟩ x).setCell ⟨k, 1, none⟩ y).setCell ⟨k, 2, none⟩ z) F g s vP vM vC vA vs :=
  h.keep (fun j hj => by
    have hn : j ≠ k := fun e => hk (e ▸ hj)
    exact (Below.heap_setCell _ _ _ _ hn).trans ((Below.heap_setCell _ _ _ _ hn).trans (Below.heap_setCell _ _ _ _ hn))) (by rw [Zi, Zi, Zi]; exact Nat.le_refl _)
theorem Sv.cells (h : Sv w F g s vP vM vC vA vs) : w.cell? ⟨g, 0, none⟩ = some vP /\ w.cell? ⟨g, 1, none⟩ = some vM /\ w.cell? ⟨g, 2, none⟩ = some vC /\ w.cell? ⟨g, 3, none⟩ = some vA :=
 ⟨Zb h.at_ 0 _ rfl, Zb h.at_ 1 _ rfl, Zb h.at_ 2 _ rfl, Zb h.at_ 3 _ rfl⟩
theorem Stt.bel (h : Stt w F g s) (hb : Below w.heap.size w w') : Stt w' F g s := by
 obtain ⟨vP, vM, vC, vA, vs, h⟩ := h
 exact ⟨_, _, _, _, _, h.bel hb⟩
theorem Stt.lt (h : Stt w F g s) : g < w.heap.size := by
 obtain ⟨vP, vM, vC, vA, vs, h⟩ := h
 exact h.fb g h.fg
theorem Stt.fb (h : Stt w F g s) : ∀ k, F k -> k < w.heap.size := by
 obtain ⟨vP, vM, vC, vA, vs, h⟩ := h
 exact h.fb
theorem ZJ {b j : Nat} (hb : F b) (u : Value) : Ch F F w (w.setCell ⟨b, j, none⟩ u) :=
 ⟨rfl, rfl, rfl, by rw [Zi]; exact Nat.le_refl _, fun k _ hk => Below.heap_setCell _ _ _ _ (fun e => hk (by rw [e]; exact hb)), fun _ h => .inl h⟩
theorem Sv.setM {b n c : Nat} (h : Sv w F g s vP (.slice (some ⟨b, 0, none⟩) n c) vC vA vs) (hn : n = s.M.length) (i : Nat) (x : Bool) :
 Sv (w.setCell ⟨b, i, none⟩ (.bool x)) F g { s with M := s.M.set i x } vP (.slice (some ⟨b, 0, none⟩) n c) vC vA vs /\ Ch F F w (w.setCell ⟨b, i, none⟩ (.bool x)) := by
 subst hn
 have hF := h.fM b rfl
 have ho : ∀ k, k ≠ b -> (w.setCell ⟨b, i, none⟩ (.bool x)).heap[k]? = w.heap[k]? := fun k hk => Below.heap_setCell _ _ _ _ hk
 have hap : ∀ {T : TypeId} {n : Nat} {v : Value} {len : Nat} {xs : List Value}, w.ownsRow 0 T n v len xs -> T ≠ 4 -> (w.setCell ⟨b, i, none⟩ (.bool x)).ownsRow 0 T n v len xs := fun hr hT =>
  Zj hr fun k hk => ho k (fun e => by subst e; exact Zo hr h.mu hT k hk rfl)
 refine ⟨?_, ZJ hF _⟩
 exact { h with
  at_ := (ho g (fun e => Zv h.mu h.at_ (by decide) (by rw [e]; rfl))).trans h.at_
  pl := hap h.pl (by decide)
  mu := by
   have := ZT h.mu i (.bool x)
   simp only [bls, List.length_set, List.map_set] at this ⊢
   exact this
  ch := hap h.ch (by decide)
  ato := hap h.ato (by decide)
  q := fun i q v hq hv => ⟨hap (h.q i q v hq hv).1 (by decide), (h.q i q v hq hv).2⟩
  fb := fun k hk => by rw [Zi]; exact h.fb k hk
  small := by simpa using h.small }
theorem Sv.setA {b n c : Nat} (h : Sv w F g s vP vM vC (.slice (some ⟨b, 0, none⟩) n c) vs) (hn : n = s.A.length) (i : Nat) (x : Int) :
 Sv (w.setCell ⟨b, i, none⟩ (I_ x)) F g { s with A := s.A.set i x } vP vM vC (.slice (some ⟨b, 0, none⟩) n c) vs /\ Ch F F w (w.setCell ⟨b, i, none⟩ (I_ x)) := by
 subst hn
 have hF := h.fA b rfl
 have ho : ∀ k, k ≠ b -> (w.setCell ⟨b, i, none⟩ (I_ x)).heap[k]? = w.heap[k]? := fun k hk => Below.heap_setCell _ _ _ _ hk
 have hap : ∀ {T : TypeId} {n : Nat} {v : Value} {len : Nat} {xs : List Value}, w.ownsRow 0 T n v len xs -> T ≠ 3 -> (w.setCell ⟨b, i, none⟩ (I_ x)).ownsRow 0 T n v len xs := fun hr hT =>
  Zj hr fun k hk => ho k (fun e => by subst e; exact Zo hr h.ato hT k hk rfl)
 refine ⟨?_, ZJ hF _⟩
 exact { h with
  at_ := (ho g (fun e => Zv h.ato h.at_ (by decide) (by rw [e]; rfl))).trans h.at_
  pl := hap h.pl (by decide)
  mu := hap h.mu (by decide)
  ch := hap h.ch (by decide)
  ato := by
   have := ZT h.ato i (I_ x)
   simp only [nts, List.length_set, List.map_set] at this ⊢
   exact this
  q := fun i q v hq hv => ⟨hap (h.q i q v hq hv).1 (by decide), (h.q i q v hq hv).2⟩
  fb := fun k hk => by rw [Zi]; exact h.fb k hk
  small := by simpa using h.small }
theorem Sv.setP {b n c : Nat} (h : Sv w F g s (.slice (some ⟨b, 0, none⟩) n c) vM vC vA vs) (hn : n = s.P.length) (i : Nat) (x : V3) :
 Sv (((w.setCell ⟨b, 3 * i, none⟩ (I_ x.1)).setCell ⟨b, 3 * i + 1, none⟩ (I_ x.2.1)).setCell ⟨b, 3 * i + 2, none⟩ (.int .u64 x.2.2)) F g { s with P := s.P.set i x } (.slice (some ⟨b, 0, none⟩) n c) vM vC vA vs ∧
  Ch F F w (((w.setCell ⟨b, 3 * i, none⟩ (I_ x.1)).setCell ⟨b, 3 * i + 1, none⟩ (I_ x.2.1)).setCell ⟨b, 3 * i + 2, none⟩ (.int .u64 x.2.2)) := by
 subst hn
 have hF := h.fP b rfl
 generalize hw : ((w.setCell ⟨b, 3 * i, none⟩ (I_ x.1)).setCell ⟨b, 3 * i + 1, none⟩ (I_ x.2.1)).setCell ⟨b, 3 * i + 2, none⟩ (.int .u64 x.2.2) = w'
 have ho : ∀ k, k ≠ b -> w'.heap[k]? = w.heap[k]? := fun k hk => by
  rw [← hw]
  exact (Below.heap_setCell _ _ _ _ hk).trans ((Below.heap_setCell _ _ _ _ hk).trans (Below.heap_setCell _ _ _ _ hk))
 have hap : ∀ {T : TypeId} {n : Nat} {v : Value} {len : Nat} {xs : List Value}, w.ownsRow 0 T n v len xs -> v.ownBlock ≠ some b -> w'.ownsRow 0 T n v len xs := fun hr hT =>
  Zj hr fun k hk => ho k (fun e => by subst e; exact hT hk)
 have hne : ∀ {T : TypeId} {n : Nat} {v : Value} {len : Nat} {xs : List Value}, w.ownsRow 0 T n v len xs -> T ≠ 64 -> v.ownBlock ≠ some b := fun hr hT e => Zo hr h.pl hT b e rfl
 refine ⟨?_, by rw [← hw]; exact (ZJ hF _).trans ((ZJ hF _).trans (ZJ hF _))⟩
 exact { h with
  at_ := (ho g (fun e => Zv h.pl h.at_ (by decide) (by rw [e]; rfl))).trans h.at_
  pl := by
   have := ZT (ZT (ZT h.pl (3 * i) (I_ x.1)) (3 * i + 1) (I_ x.2.1)) (3 * i + 2) (.int .u64 x.2.2)
   rw [hw] at this
   simp only [List.length_set, vcs_set]
   exact this
  mu := hap h.mu (hne h.mu (by decide))
  ch := hap h.ch (hne h.ch (by decide))
  ato := hap h.ato (hne h.ato (by decide))
  q := fun i q v hq hv => ⟨hap (h.q i q v hq hv).1 (fun e => ((h.q i q v hq hv).2 b e).2 rfl), (h.q i q v hq hv).2⟩
  fb := fun k hk => by rw [← hw, Zi, Zi, Zi]; exact h.fb k hk
  small := by simpa using h.small }
theorem Sv.chan {b n c : Nat} (h : Sv w F g s vP vM (.slice (some ⟨b, 0, none⟩) n c) vA vs) (hn : n = s.C.length) (i : Nat) {q : Qu} {vq v' : Value} {l' : List V3} {w2 : World} (hq : s.C[i]? = some q) (hv : vs[i]? = some vq)
 (hg : w.grownBy w2 vq.ownBlock) (ho : w2.ownsRow 0 64 3 v' l'.length (vcs l')) (hb : ∀ k, v'.ownBlock = some k -> vq.ownBlock = some k ∨ w.heap.size <= k) (hl : (l'.length : Int) <= q.room) :
 Sv (w2.setCell ⟨b, 3 * i + 2, none⟩ v') (fun k => F k ∨ v'.ownBlock = some k) g { s with C := s.C.set i { q with l := l' } } vP vM (.slice (some ⟨b, 0, none⟩) n c) vA (vs.set i v') /\ Ch F (fun k => F k ∨ v'.ownBlock = some k) w (w2.setCell ⟨b, 3 * i + 2, none⟩ v') := by
 subst hn
 have hF := h.fC b rfl
 obtain ⟨oq, fq⟩ := h.q i q vq hq hv
 have hi : i < s.C.length := (G_ hq)
 have hsz : (w2.setCell ⟨b, 3 * i + 2, none⟩ v').heap.size = w2.heap.size := Zi _ _ _
 have ho2 : ∀ k, k ≠ b -> (w2.setCell ⟨b, 3 * i + 2, none⟩ v').heap[k]? = w2.heap[k]? := fun k hk => Below.heap_setCell _ _ _ _ hk
 have hlt : ∀ {T : TypeId} {n : Nat} {v : Value} {len : Nat} {xs : List Value}, w.ownsRow 0 T n v len xs -> ∀ k, v.ownBlock = some k -> k < w.heap.size := fun hr k hk => (Zf hr hk).2.1
 have hk2 : ∀ {T : TypeId} {n : Nat} {v : Value} {len : Nat} {xs : List Value}, w.ownsRow 0 T n v len xs -> (∀ k, v.ownBlock = some k -> vq.ownBlock ≠ some k) -> w2.ownsRow 0 T n v len xs := fun hr hne =>
  Zj hr fun k hk => hg.block k (hlt hr k hk) (fun e => hne k hk e.symm)
 have hk3 : ∀ {T : TypeId} {n : Nat} {v : Value} {len : Nat} {xs : List Value}, w.ownsRow 0 T n v len xs -> (∀ k, v.ownBlock = some k -> vq.ownBlock ≠ some k) -> v.ownBlock ≠ some b -> (w2.setCell ⟨b, 3 * i + 2, none⟩ v').ownsRow 0 T n v len xs := fun hr hne hb' =>
  Zj (hk2 hr hne) fun k hk => ho2 k (fun e => by subst e; exact hb' hk)
 have bq : vq.ownBlock ≠ some b := fun e => Zo oq h.ch (by decide) b e rfl
 have bv : v'.ownBlock ≠ some b := fun e => by
  rcases hb b e with h1 | h1
  · exact bq h1
  · have := hlt h.ch b rfl
    omega
 refine ⟨?_, ⟨hg.os, hg.tape, hg.output, by rw [hsz]; exact hg.size, fun k hk hFk => (ho2 k (fun e => hFk (by rw [e]; exact hF))).trans (hg.block k hk (fun e => hFk (fq k e.symm).1)), fun k hk => ?_⟩⟩
 · exact { h with
    at_ := (ho2 g (fun e => Zv h.ch h.at_ (by decide) (by rw [e]; rfl))).trans ((hg.block g (Ze h.at_) (fun e => Zv oq h.at_ (by decide) e.symm)).trans h.at_)
    pl := hk3 h.pl (fun k hk e => (fq k e).2 hk) (fun e => Zo h.pl h.ch (by decide) b e rfl)
    mu := hk3 h.mu (fun k hk => Zo h.mu oq (by decide) k hk) (fun e => Zo h.mu h.ch (by decide) b e rfl)
    ch := by
     have h1 := ZT (hk2 h.ch (fun k hk => Zo h.ch oq (by decide) k hk)) (3 * i + 2) v'
     rw [← qcs_set s.C vs i q { q with l := l' } v' h.len hq rfl rfl] at h1
     simpa using h1
    ato := hk3 h.ato (fun k hk => Zo h.ato oq (by decide) k hk) (fun e => Zo h.ato h.ch (by decide) b e rfl)
    len := by simpa using h.len
    q := fun j q' v hq' hv' => by
     by_cases e : i = j
     · subst e
       rw [List.getElem?_set_self (by omega)] at hq'
       rw [List.getElem?_set_self (by rw [h.len]; omega)] at hv'
       cases hq'
       cases hv'
       refine ⟨Zj ho fun k hk => ho2 k (fun e => by subst e; exact bv hk), fun k hk => ⟨.inr hk, fun e => ?_⟩⟩
       rcases hb k hk with h1 | h1
       · exact (fq k h1).2 e
       · have := hlt h.pl k e
         omega
     · rw [List.getElem?_set_ne e] at hq' hv'
       obtain ⟨o1, o2⟩ := h.q j q' v hq' hv'
       exact ⟨hk3 o1 (fun k hk e2 => h.ne i j vq v k e hv hv' e2 hk) (fun e2 => Zo o1 h.ch (by decide) b e2 rfl), fun k hk => ⟨.inl (o2 k hk).1, (o2 k hk).2⟩⟩
    ne := fun a c x y k hac hx hy hk => by
     have old : ∀ j u, i ≠ j -> vs[j]? = some u -> ∀ k, u.ownBlock = some k -> v'.ownBlock ≠ some k := fun j u hij hu k hk e => by
      have hj : j < s.C.length := by rw [← h.len]; exact (G_ hu)
      rcases hb k e with h1 | h1
      · exact h.ne i j vq u k hij hv hu h1 hk
      · have := hlt (h.q j s.C[j] u (List.getElem?_eq_getElem hj) hu).1 k hk
        omega
     by_cases e1 : i = a
     · subst e1
       rw [List.getElem?_set_self (by rw [h.len]; omega)] at hx
       rw [List.getElem?_set_ne hac] at hy
       cases hx
       exact fun e2 => old c y hac hy k e2 hk
     · rw [List.getElem?_set_ne e1] at hx
       by_cases e2 : i = c
       · subst e2
         rw [List.getElem?_set_self (by rw [h.len]; omega)] at hy
         cases hy
         exact old a x e1 hx k hk
       · rw [List.getElem?_set_ne e2] at hy
         exact h.ne a c x y k hac hx hy hk
    fg := .inl h.fg
    fP := fun k hk => .inl (h.fP k hk)
    fM := fun k hk => .inl (h.fM k hk)
    fC := fun k hk => .inl (h.fC k hk)
    fA := fun k hk => .inl (h.fA k hk)
    fb := fun k hk => by
     rw [hsz]
     rcases hk with hk | hk
     · exact Nat.lt_of_lt_of_le (h.fb k hk) hg.size
     · exact (Zf ho hk).2.1
    small := by simpa using h.small
    rooms := fun q' hq' => by
     rcases List.mem_or_eq_of_mem_set hq' with h1 | h1
     · exact h.rooms q' h1
     · subst h1
       have := h.rooms q (List.mem_of_getElem? hq)
       exact ⟨this.1, this.2.1, hl⟩ }
 · rcases hk with hk | hk
   · exact .inl hk
   · rcases hb k hk with h1 | h1
     · exact .inl (fq k h1).1
     · exact .inr h1
end
theorem Yu (b n c i : Nat) (w : World) (hi : i < n) : Calls Tryz.prog 89 #[.slice (some ⟨b, 0, none⟩) n c, I_ (i : Nat)] w fun e w' => e = .returned (.tuple #[.pointer (some ⟨b, i, none⟩), .nilIface]) /\ w = w' := by
 go_enter Tryz.func89, Tryz.ntmps89
 go_wp2_with fail
 go_ret2
 exact ⟨rfl, rfl⟩
theorem in_syncelementint (b n c i : Nat) (w : World) (hi : i < n) : Calls Tryz.prog 107 #[.slice (some ⟨b, 0, none⟩) n c, I_ (i : Nat)] w fun e w' => e = .returned (.tuple #[.pointer (some ⟨b, i, none⟩), .nilIface]) /\ w = w' := by
 go_enter Tryz.func107, Tryz.ntmps107
 go_wp2_with fail
 go_ret2
 exact ⟨rfl, rfl⟩
theorem in_syncelementapiValue (b n c i o : Nat) (w : World) (hi : i < n) (ho : Hid (o = 3 * i)) : Calls Tryz.prog 102 #[.slice (some ⟨b, 0, none⟩) n c, I_ (i : Nat)] w fun e w' => e = .returned (.tuple #[.pointer (some ⟨b, o, none⟩), .nilIface]) /\ w = w' := by
 go_enter Tryz.func102, Tryz.ntmps102
 go_wp2_with fail
 go_ret2
 exact ⟨by rw [ho.out, Nat.mul_comm 3 i]; rfl, rfl⟩
theorem ZP (b n c i o : Nat) (w : World) (hi : i < n) (ho : Hid (o = 3 * i)) : Calls Tryz.prog 91 #[.slice (some ⟨b, 0, none⟩) n c, I_ (i : Nat)] w fun e w' => e = .returned (.tuple #[.pointer (some ⟨b, o, none⟩), .nilIface]) /\ w = w' := by
 go_enter Tryz.func91, Tryz.ntmps91
 go_wp2_with fail
 go_ret2
 exact ⟨by rw [ho.out, Nat.mul_comm 3 i]; rfl, rfl⟩
theorem out_syncelementbool (a : Option Addr) (n c : Nat) (i : Int) (w : World) {p : List Addr} (h17 : E2 w p) (hi : i < 0 ∨ (n : Int) <= i) : Calls Tryz.prog 89 #[.slice a n c, I_ i] w (Vb w (.tuple #[.pointer none, errV p 0])) := by
 have x0 : w.cell? ⟨1, 0, none⟩ = some (errV p 0) := h17.c0
 clear h17
 generalize errV p 0 = ev at *
 by_cases h0 : i < 0
 · clear hi
   go_enter Tryz.func89, Tryz.ntmps89
   go_wp2_with fail
   go_quiet (fail)
   go_wp2_with fail
   go_ret2
   exact Vb.mk rfl (below_drewN (Below.refl _ _) _)
 · have h1 : (n : Int) <= i := by omega
   have h2 : 0 <= i := by omega
   clear hi h0
   go_enter Tryz.func89, Tryz.ntmps89
   go_wp2_with fail
   go_quiet (fail)
   go_wp2_with fail
   go_ret2
   exact Vb.mk rfl (below_drewN (Below.refl _ _) _)
theorem out_syncelementint (a : Option Addr) (n c : Nat) (i : Int) (w : World) {p : List Addr} (h17 : E2 w p) (hi : i < 0 ∨ (n : Int) <= i) : Calls Tryz.prog 107 #[.slice a n c, I_ i] w (Vb w (.tuple #[.pointer none, errV p 0])) := by
 have x0 : w.cell? ⟨1, 0, none⟩ = some (errV p 0) := h17.c0
 clear h17
 generalize errV p 0 = ev at *
 by_cases h0 : i < 0
 · clear hi
   go_enter Tryz.func107, Tryz.ntmps107
   go_wp2_with fail
   go_quiet (fail)
   go_wp2_with fail
   go_ret2
   exact Vb.mk rfl (below_drewN (Below.refl _ _) _)
 · have h1 : (n : Int) <= i := by omega
   have h2 : 0 <= i := by omega
   clear hi h0
   go_enter Tryz.func107, Tryz.ntmps107
   go_wp2_with fail
   go_quiet (fail)
   go_wp2_with fail
   go_ret2
   exact Vb.mk rfl (below_drewN (Below.refl _ _) _)
theorem out_syncelementapiValue (a : Option Addr) (n c : Nat) (i : Int) (w : World) {p : List Addr} (h17 : E2 w p) (hi : i < 0 ∨ (n : Int) <= i) : Calls Tryz.prog 102 #[.slice a n c, I_ i] w (Vb w (.tuple #[.pointer none, errV p 0])) := by
 have x0 : w.cell? ⟨1, 0, none⟩ = some (errV p 0) := h17.c0
 clear h17
 generalize errV p 0 = ev at *
 by_cases h0 : i < 0
 · clear hi
   go_enter Tryz.func102, Tryz.ntmps102
   go_wp2_with fail
   go_quiet (fail)
   go_wp2_with fail
   go_ret2
   exact Vb.mk rfl (below_drewN (Below.refl _ _) _)
 · have h1 : (n : Int) <= i := by omega
   have h2 : 0 <= i := by omega
   clear hi h0
   go_enter Tryz.func102, Tryz.ntmps102
   go_wp2_with fail
   go_quiet (fail)
   go_wp2_with fail
   go_ret2
   exact Vb.mk rfl (below_drewN (Below.refl _ _) _)
theorem YG (a : Option Addr) (n c : Nat) (i : Int) (w : World) {p : List Addr} (h17 : E2 w p) (hi : i < 0 ∨ (n : Int) <= i) : Calls Tryz.prog 91 #[.slice a n c, I_ i] w (Vb w (.tuple #[.pointer none, errV p 0])) := by
 have x0 : w.cell? ⟨1, 0, none⟩ = some (errV p 0) := h17.c0
 clear h17
 generalize errV p 0 = ev at *
 by_cases h0 : i < 0
 · clear hi
   go_enter Tryz.func91, Tryz.ntmps91
   go_wp2_with fail
   go_quiet (fail)
   go_wp2_with fail
   go_ret2
   exact Vb.mk rfl (below_drewN (Below.refl _ _) _)
 · have h1 : (n : Int) <= i := by omega
   have h2 : 0 <= i := by omega
   clear hi h0
   go_enter Tryz.func91, Tryz.ntmps91
   go_wp2_with fail
   go_quiet (fail)
   go_wp2_with fail
   go_ret2
   exact Vb.mk rfl (below_drewN (Below.refl _ _) _)
def Sp (w : World) (F : Nat -> Prop) (g : Nat) (s' : St) (v : Value) (e : Ending) (w' : World) : Prop := e = .returned v /\ ∃ F', Stt w' F' g s' /\ Ch F F' w w'
theorem Sp.mk {w w' : World} {F F' : Nat -> Prop} {g : Nat} {s' : St} {v v' : Value} (hv : v = v') (h : Stt w' F' g s') (hc : Ch F F' w w') : Sp w F g s' v' (.returned v) w' := ⟨by rw [hv], F', h, hc⟩
theorem set_same {α : Type} : ∀ (l : List α) (i : Nat) (x : α), l[i]? = some x -> l.set i x = l
 | [], i, x, h => by simp at h
 | y :: l, 0, x, h => by simp at h; simp [h]
 | y :: l, i + 1, x, h => by rw [List.set_cons_succ, set_same l i x (by simpa using h)]
theorem bls_at {l : List Bool} {i : Nat} {x : Bool} (h : l[i]? = some x) : (bls l)[i]? = some (.bool x) := by simp [bls, h]
theorem nts_at {l : List Int} {i : Nat} {x : Int} (h : l[i]? = some x) : (nts l)[i]? = some (I_ x) := by simp [nts, h]
theorem turn_in {w : World} {F : Nat -> Prop} {g : Nat} {s : St} (h : Stt w F g s) (i : Nat) (x y : Bool) (hx : s.M[i]? = some x) : Calls Tryz.prog 104 #[P_ g, I_ (i : Nat), .bool y] w (Sp w F g { s with M := s.M.set i y } (.tuple #[.bool (x != y), .nilIface])) := by
 obtain ⟨vP, vM, vC, vA, vs, h⟩ := h
 have hi : i < s.M.length := (G_ hx)
 obtain ⟨b, c, e, hc, hm⟩ := Zq h.mu (by omega)
 have hsm := h.small
 obtain ⟨n, hn⟩ : ∃ n, n = s.M.length := ⟨_, rfl⟩
 rw [← hn] at e hi hc
 have hn32 : n <= 32 := by omega
 subst e
 have HN := Za hn
 have c1 := h.cells.2.1
 obtain ⟨d1, d2⟩ := Zk h.mu i _ (bls_at hx)
 have SM := Za (h.setM hn i y)
 have S0 := Za h
 have hl := (h.fb b (h.fM b rfl))
 clear h hsm hc hm hn
 by_cases e : x = y
 · subst e
   have hse : Hid (s.M.set i x = s.M) := set_same _ _ _ hx
   go_enter Tryz.func104, Tryz.ntmps104
   go_wp2_with fail
   refine (Yu b n c i _ hi).mono ?_
   rintro e w1 ⟨rfl, rfl⟩
   go_wp2_with fail
   go_ret2
   exact Sp.mk (by simp) ⟨_, _, _, _, _, by rw [hse.out]; exact S0.out⟩ (Ch.refl _ _)
 · have e2 : (x == y) = false := by simp [e]
   have E := Za e
   clear e
   go_enter Tryz.func104, Tryz.ntmps104
   go_wp2_with fail
   refine (Yu b n c i _ hi).mono ?_
   rintro e w1 ⟨rfl, rfl⟩
   go_wp2_with fail
   go_ret2
   exact Sp.mk (by simp [bne, e2]) ⟨_, _, _, _, _, SM.out.1⟩ SM.out.2
theorem turn_out {w : World} {F : Nat -> Prop} {g : Nat} {s : St} (h : Stt w F g s) {p : List Addr} (h17 : E2 w p) (i : Int) (y : Bool) (hi : i < 0 ∨ (s.M.length : Int) <= i) : Calls Tryz.prog 104 #[P_ g, I_ i, .bool y] w (Vb w (.tuple #[.bool false, errV p 0])) := by
 obtain ⟨vP, vM, vC, vA, vs, h⟩ := h
 obtain ⟨a, c, e, hc, hm⟩ := Zl h.mu
 subst e
 obtain ⟨n, hn⟩ : ∃ n, n = s.M.length := ⟨_, rfl⟩
 rw [← hn] at hi
 have c1 := h.cells.2.1
 rw [← hn] at c1
 have EO := Za (fun w' (h17 : E2 w' p) => out_syncelementbool a n c i w' h17 hi)
 have H7 := Za h17
 unfold errV at *
 generalize adr p 0 = ad at *
 clear h hc hm hi hn h17
 go_enter Tryz.func104, Tryz.ntmps104
 go_wp2_with fail
 refine (EO.out _ H7.out).mono ?_
 rintro e w1 ⟨rfl, hb⟩
 go_wp2_with fail
 go_ret2
 exact Vb.mk rfl hb
theorem Lock_in {w : World} {F : Nat -> Prop} {g : Nat} {s : St} (h : Stt w F g s) (i : Nat) (x : Bool) (hx : s.M[i]? = some x) : Calls Tryz.prog 94 #[P_ g, I_ (i : Nat)] w (Sp w F g { s with M := s.M.set i true } (.tuple #[.bool (!x), .nilIface])) := by
 have T := Za (turn_in h i x true hx)
 clear h hx
 go_enter Tryz.func94, Tryz.ntmps94
 go_wp2_with fail
 refine T.out.mono ?_
 rintro e w1 ⟨rfl, hs⟩
 go_wp2_with fail
 go_ret2
 exact ⟨rfl, hs⟩
theorem Unlock_in {w : World} {F : Nat -> Prop} {g : Nat} {s : St} (h : Stt w F g s) (i : Nat) (x : Bool) (hx : s.M[i]? = some x) : Calls Tryz.prog 88 #[P_ g, I_ (i : Nat)] w (Sp w F g { s with M := s.M.set i false } (.tuple #[.bool x, .nilIface])) := by
 have T := Za (turn_in h i x false hx)
 clear h hx
 go_enter Tryz.func88, Tryz.ntmps88
 go_wp2_with fail
 refine T.out.mono ?_
 rintro e w1 ⟨rfl, hs⟩
 go_wp2_with fail
 go_ret2
 exact ⟨rfl, hs⟩
theorem Unlock_out {w : World} {F : Nat -> Prop} {g : Nat} {s : St} (h : Stt w F g s) {p : List Addr} (h17 : E2 w p) (i : Int) (hi : i < 0 ∨ (s.M.length : Int) <= i) : Calls Tryz.prog 88 #[P_ g, I_ i] w (Vb w (.tuple #[.bool false, errV p 0])) := by
 have T := Za (turn_out h h17 i false hi)
 clear h hi h17
 unfold errV at *
 generalize adr p 0 = ad at *
 go_enter Tryz.func88, Tryz.ntmps88
 go_wp2_with fail
 refine T.out.mono ?_
 rintro e w1 ⟨rfl, hb⟩
 go_wp2_with fail
 go_ret2
 exact Vb.mk rfl hb
theorem Locked_in {w : World} {F : Nat -> Prop} {g : Nat} {s : St} (h : Stt w F g s) (i : Nat) (x : Bool) (hx : s.M[i]? = some x) : Calls Tryz.prog 64 #[P_ g, I_ (i : Nat)] w fun e w' => e = .returned (.bool x) /\ w = w' := by
 obtain ⟨vP, vM, vC, vA, vs, h⟩ := h
 have hi : i < s.M.length := (G_ hx)
 obtain ⟨b, c, e, hc, hm⟩ := Zq h.mu (by omega)
 have hsm := h.small
 obtain ⟨n, hn⟩ : ∃ n, n = s.M.length := ⟨_, rfl⟩
 rw [← hn] at e hi hc
 have hn32 : n <= 32 := by omega
 subst e
 have HN := Za hn
 have c1 := h.cells.2.1
 obtain ⟨d1, d2⟩ := Zk h.mu i _ (bls_at hx)
 clear h hsm hc hm hn
 go_enter Tryz.func64, Tryz.ntmps64
 go_wp2_with fail
 refine (Yu b n c i _ hi).mono ?_
 rintro e w1 ⟨rfl, rfl⟩
 go_wp2_with fail
 go_ret
 exact ⟨by simp, rfl⟩
theorem Locked_out {w : World} {F : Nat -> Prop} {g : Nat} {s : St} (h : Stt w F g s) {p : List Addr} (h17 : E2 w p) (i : Int) (hi : i < 0 ∨ (s.M.length : Int) <= i) : Calls Tryz.prog 64 #[P_ g, I_ i] w (Vb w (.bool false)) := by
 obtain ⟨vP, vM, vC, vA, vs, h⟩ := h
 obtain ⟨a, c, e, hc, hm⟩ := Zl h.mu
 subst e
 obtain ⟨n, hn⟩ : ∃ n, n = s.M.length := ⟨_, rfl⟩
 rw [← hn] at hi
 have c1 := h.cells.2.1
 rw [← hn] at c1
 have EO := Za (fun w' (h17 : E2 w' p) => out_syncelementbool a n c i w' h17 hi)
 have H7 := Za h17
 unfold errV at *
 generalize adr p 0 = ad at *
 clear h hc hm hi hn h17
 go_enter Tryz.func64, Tryz.ntmps64
 go_wp2_with fail
 refine (EO.out _ H7.out).mono ?_
 rintro e w1 ⟨rfl, hb⟩
 go_wp2_with fail
 go_ret
 exact Vb.mk rfl hb
theorem Get_in {w : World} {F : Nat -> Prop} {g : Nat} {s : St} (h : Stt w F g s) (i : Nat) (x : Int) (hx : s.A[i]? = some x) : Calls Tryz.prog 92 #[P_ g, I_ (i : Nat)] w fun e w' => e = .returned (.tuple #[I_ x, .nilIface]) /\ w = w' := by
 obtain ⟨vP, vM, vC, vA, vs, h⟩ := h
 have hi : i < s.A.length := (G_ hx)
 obtain ⟨b, c, e, hc, hm⟩ := Zq h.ato (by omega)
 have hsm := h.small
 obtain ⟨n, hn⟩ : ∃ n, n = s.A.length := ⟨_, rfl⟩
 rw [← hn] at e hi hc
 have hn32 : n <= 32 := by omega
 subst e
 have HN := Za hn
 have c1 := h.cells.2.2.2
 obtain ⟨d1, d2⟩ := Zk h.ato i _ (nts_at hx)
 clear h hsm hc hm hn
 go_enter Tryz.func92, Tryz.ntmps92
 go_wp2_with fail
 refine (in_syncelementint b n c i _ hi).mono ?_
 rintro e w1 ⟨rfl, rfl⟩
 go_wp2_with fail
 go_ret2
 exact ⟨rfl, rfl⟩
theorem Get_out {w : World} {F : Nat -> Prop} {g : Nat} {s : St} (h : Stt w F g s) {p : List Addr} (h17 : E2 w p) (i : Int) (hi : i < 0 ∨ (s.A.length : Int) <= i) : Calls Tryz.prog 92 #[P_ g, I_ i] w (Vb w (.tuple #[I_ 0, errV p 0])) := by
 obtain ⟨vP, vM, vC, vA, vs, h⟩ := h
 obtain ⟨a, c, e, hc, hm⟩ := Zl h.ato
 subst e
 obtain ⟨n, hn⟩ : ∃ n, n = s.A.length := ⟨_, rfl⟩
 rw [← hn] at hi
 have c1 := h.cells.2.2.2
 rw [← hn] at c1
 have EO := Za (fun w' (h17 : E2 w' p) => out_syncelementint a n c i w' h17 hi)
 have H7 := Za h17
 unfold errV at *
 generalize adr p 0 = ad at *
 clear h hc hm hi hn h17
 go_enter Tryz.func92, Tryz.ntmps92
 go_wp2_with fail
 refine (EO.out _ H7.out).mono ?_
 rintro e w1 ⟨rfl, hb⟩
 go_wp2_with fail
 go_ret2
 exact Vb.mk rfl hb
theorem Put_in {w : World} {F : Nat -> Prop} {g : Nat} {s : St} (h : Stt w F g s) (i : Nat) (x y : Int) (hx : s.A[i]? = some x) : Calls Tryz.prog 98 #[P_ g, I_ (i : Nat), I_ y] w (Sp w F g { s with A := s.A.set i y } .nilIface) := by
 obtain ⟨vP, vM, vC, vA, vs, h⟩ := h
 have hi : i < s.A.length := (G_ hx)
 obtain ⟨b, c, e, hc, hm⟩ := Zq h.ato (by omega)
 have hsm := h.small
 obtain ⟨n, hn⟩ : ∃ n, n = s.A.length := ⟨_, rfl⟩
 rw [← hn] at e hi hc
 have hn32 : n <= 32 := by omega
 subst e
 have HN := Za hn
 have c1 := h.cells.2.2.2
 obtain ⟨d1, d2⟩ := Zk h.ato i _ (nts_at hx)
 have SM := Za (h.setA hn i y)
 have hl := (h.fb b (h.fA b rfl))
 clear h hsm hc hm hn
 go_enter Tryz.func98, Tryz.ntmps98
 go_wp2_with fail
 refine (in_syncelementint b n c i _ hi).mono ?_
 rintro e w1 ⟨rfl, rfl⟩
 go_wp2_with fail
 go_ret
 exact Sp.mk rfl ⟨_, _, _, _, _, SM.out.1⟩ SM.out.2
theorem Add_in {w : World} {F : Nat -> Prop} {g : Nat} {s : St} (h : Stt w F g s) (i : Nat) (x y : Int) (hx : s.A[i]? = some x) : Calls Tryz.prog 99 #[P_ g, I_ (i : Nat), I_ y] w (Sp w F g { s with A := s.A.set i (wrap64 (x + y)) } .nilIface) := by
 obtain ⟨vP, vM, vC, vA, vs, h⟩ := h
 have hi : i < s.A.length := (G_ hx)
 obtain ⟨b, c, e, hc, hm⟩ := Zq h.ato (by omega)
 have hsm := h.small
 obtain ⟨n, hn⟩ : ∃ n, n = s.A.length := ⟨_, rfl⟩
 rw [← hn] at e hi hc
 have hn32 : n <= 32 := by omega
 subst e
 have HN := Za hn
 have c1 := h.cells.2.2.2
 obtain ⟨d1, d2⟩ := Zk h.ato i _ (nts_at hx)
 have SM := Za (h.setA hn i (wrap64 (x + y)))
 have hl := (h.fb b (h.fA b rfl))
 clear h hsm hc hm hn
 go_enter Tryz.func99, Tryz.ntmps99
 go_wp2_with fail
 refine (in_syncelementint b n c i _ hi).mono ?_
 rintro e w1 ⟨rfl, rfl⟩
 go_wp2_with fail
 go_ret
 exact Sp.mk rfl ⟨_, _, _, _, _, SM.out.1⟩ SM.out.2
theorem Len_in {w : World} {F : Nat -> Prop} {g : Nat} {s : St} (h : Stt w F g s) (i : Nat) (q : Qu) (hx : s.C[i]? = some q) : Calls Tryz.prog 66 #[P_ g, I_ (i : Nat)] w fun e w' => e = .returned (I_ (q.l.length : Nat)) /\ w = w' := by
 obtain ⟨vP, vM, vC, vA, vs, h⟩ := h
 have hi : i < s.C.length := (G_ hx)
 obtain ⟨b, c, e, hc, hm⟩ := Zq h.ch (by omega)
 have hsm := h.small
 obtain ⟨n, hn⟩ : ∃ n, n = s.C.length := ⟨_, rfl⟩
 rw [← hn] at e hi hc
 have hn32 : n <= 32 := by omega
 subst e
 have HN := Za hn
 have c1 := h.cells.2.2.1
 have hvi : i < vs.length := by rw [h.len]; omega
 obtain ⟨vq, hv⟩ : ∃ v, vs[i]? = some v := ⟨_, List.getElem?_eq_getElem hvi⟩
 obtain ⟨oq, fq⟩ := h.q i q vq hx hv
 obtain ⟨aq, cq, eq, hcq, hmq⟩ := Zl oq
 obtain ⟨o, ho⟩ : ∃ o, o = 3 * i := ⟨_, rfl⟩
 obtain ⟨q0, q1, q2⟩ := qcs_at _ _ _ _ _ hx hv
 rw [← ho] at q0 q1 q2
 obtain ⟨d0, f0⟩ := Zk h.ch _ _ q0
 obtain ⟨d1, f1⟩ := Zk h.ch _ _ q1
 obtain ⟨d2, f2⟩ := Zk h.ch _ _ q2
 have HO := Za ho
 have hl := h.fb b (h.fC b rfl)
 have hgl := h.fb g h.fg
 rw [eq] at d2
 clear h hsm hc hm hn eq oq fq hv hvi q0 q1 q2 ho
 go_enter Tryz.func66, Tryz.ntmps66
 go_wp2_with fail
 refine (ZP b n c i o _ hi HO).mono ?_
 rintro e w1 ⟨rfl, rfl⟩
 go_wp2_with fail
 go_ret
 exact ⟨rfl, rfl⟩
theorem Len_out {w : World} {F : Nat -> Prop} {g : Nat} {s : St} (h : Stt w F g s) {p : List Addr} (h17 : E2 w p) (i : Int) (hi : i < 0 ∨ (s.C.length : Int) <= i) : Calls Tryz.prog 66 #[P_ g, I_ i] w (Vb w (I_ 0)) := by
 obtain ⟨vP, vM, vC, vA, vs, h⟩ := h
 obtain ⟨a, c, e, hc, hm⟩ := Zl h.ch
 subst e
 obtain ⟨n, hn⟩ : ∃ n, n = s.C.length := ⟨_, rfl⟩
 rw [← hn] at hi
 have c1 := h.cells.2.2.1
 rw [← hn] at c1
 have EO := Za (fun w' (h17 : E2 w' p) => YG a n c i w' h17 hi)
 have H7 := Za h17
 unfold errV at *
 generalize adr p 0 = ad at *
 clear h hc hm hi hn h17
 go_enter Tryz.func66, Tryz.ntmps66
 go_wp2_with fail
 refine (EO.out _ H7.out).mono ?_
 rintro e w1 ⟨rfl, hb⟩
 go_wp2_with fail
 go_ret
 exact Vb.mk rfl hb
theorem Room_in {w : World} {F : Nat -> Prop} {g : Nat} {s : St} (h : Stt w F g s) (i : Nat) (q : Qu) (hx : s.C[i]? = some q) : Calls Tryz.prog 69 #[P_ g, I_ (i : Nat)] w fun e w' => e = .returned (I_ q.room) /\ w = w' := by
 obtain ⟨vP, vM, vC, vA, vs, h⟩ := h
 have hi : i < s.C.length := (G_ hx)
 obtain ⟨b, c, e, hc, hm⟩ := Zq h.ch (by omega)
 have hsm := h.small
 obtain ⟨n, hn⟩ : ∃ n, n = s.C.length := ⟨_, rfl⟩
 rw [← hn] at e hi hc
 have hn32 : n <= 32 := by omega
 subst e
 have HN := Za hn
 have c1 := h.cells.2.2.1
 have hvi : i < vs.length := by rw [h.len]; omega
 obtain ⟨vq, hv⟩ : ∃ v, vs[i]? = some v := ⟨_, List.getElem?_eq_getElem hvi⟩
 obtain ⟨oq, fq⟩ := h.q i q vq hx hv
 obtain ⟨aq, cq, eq, hcq, hmq⟩ := Zl oq
 obtain ⟨o, ho⟩ : ∃ o, o = 3 * i := ⟨_, rfl⟩
 obtain ⟨q0, q1, q2⟩ := qcs_at _ _ _ _ _ hx hv
 rw [← ho] at q0 q1 q2
 obtain ⟨d0, f0⟩ := Zk h.ch _ _ q0
 obtain ⟨d1, f1⟩ := Zk h.ch _ _ q1
 obtain ⟨d2, f2⟩ := Zk h.ch _ _ q2
 have HO := Za ho
 have hl := h.fb b (h.fC b rfl)
 have hgl := h.fb g h.fg
 clear h hsm hc hm hn eq oq fq hv hvi q0 q1 q2 ho
 go_enter Tryz.func69, Tryz.ntmps69
 go_wp2_with fail
 refine (ZP b n c i o _ hi HO).mono ?_
 rintro e w1 ⟨rfl, rfl⟩
 go_wp2_with fail
 go_ret
 exact ⟨rfl, rfl⟩
theorem ret_ve {fn : Func} {R : Ending -> World -> Prop} {a : Act} {w : World} {p q : Tmp} (g : Nat) {t n b : Int} {ev : Value} (hf : fn.results = #[.cell p 64, .tmp q]) (hp : a.tmps.getD p undef = P_ g) (hq : a.tmps.getD q undef = ev)
    (h : Val w g t n b) (hdf : a.defers = []) (hR : R (.returned (.tuple #[.agg #[I_ t, I_ n, .int .u64 b], ev])) w) : bodyPost Tryz.prog fn R .ret a w :=
  bodyPost_ret (by
    have hp' : a.tmps[p]?.getD undef = P_ g := by simpa using hp
    have hq' : a.tmps[q]?.getD undef = ev := by simpa using hq
    obtain ⟨_, c0, c1, c2⟩ := h.all
    simp [results, hf, hp', hq', go_sem, c0, c1, c2]) hdf hR
theorem Read_in {w : World} {F : Nat -> Prop} {g : Nat} {s : St} (h : Stt w F g s) (i : Nat) (x : V3) (hx : s.P[i]? = some x) : Calls Tryz.prog 86 #[P_ g, I_ (i : Nat)] w (Vb w (.tuple #[.agg #[I_ x.1, I_ x.2.1, .int .u64 x.2.2], .nilIface])) := by
 obtain ⟨vP, vM, vC, vA, vs, h⟩ := h
 have hi : i < s.P.length := (G_ hx)
 obtain ⟨b, c, e, hc, hm⟩ := Zq h.pl (by omega)
 have hsm := h.small
 obtain ⟨n, hn⟩ : ∃ n, n = s.P.length := ⟨_, rfl⟩
 rw [← hn] at e hi hc
 have hn32 : n <= 128 := by omega
 subst e
 have HN := Za hn
 have c1 := h.cells.1
 obtain ⟨x0, x1, x2⟩ := x
 obtain ⟨o, ho⟩ : ∃ o, o = 3 * i := ⟨_, rfl⟩
 obtain ⟨q0, q1, q2⟩ := vcs_at _ _ _ hx
 rw [← ho] at q0 q1 q2
 obtain ⟨d0, f0⟩ := Zk h.pl _ _ q0
 obtain ⟨d1, f1⟩ := Zk h.pl _ _ q1
 obtain ⟨d2, f2⟩ := Zk h.pl _ _ q2
 have HO := Za ho
 have hl := h.fb b (h.fP b rfl)
 have hgl := h.fb g h.fg
 simp only at d0 d1 d2
 clear h hsm hc hm hn q0 q1 q2 ho
 go_enter Tryz.func86, Tryz.ntmps86
 go_wp2_with fail
 refine (in_syncelementapiValue b n c i o _ hi HO).mono ?_
 rintro e w1 ⟨rfl, rfl⟩
 go_wp2_with fail
 exact ret_ve w.heap.size rfl rfl rfl (Val.new w _ _ _) rfl (Vb.mk rfl (Zd _ _))
theorem Read_out {w : World} {F : Nat -> Prop} {g : Nat} {s : St} (h : Stt w F g s) {p : List Addr} (h17 : E2 w p) (i : Int) (hi : i < 0 ∨ (s.P.length : Int) <= i) : Calls Tryz.prog 86 #[P_ g, I_ i] w (Vb w (.tuple #[.agg #[I_ 0, I_ 0, .int .u64 0], errV p 0])) := by
 obtain ⟨vP, vM, vC, vA, vs, h⟩ := h
 obtain ⟨a, c, e, hc, hm⟩ := Zl h.pl
 subst e
 obtain ⟨n, hn⟩ : ∃ n, n = s.P.length := ⟨_, rfl⟩
 rw [← hn] at hi
 have c1 := h.cells.1
 rw [← hn] at c1
 have EO := Za (fun w' (h17 : E2 w' p) => out_syncelementapiValue a n c i w' h17 hi)
 have H7 := Za h17
 unfold errV at *
 generalize adr p 0 = ad at *
 have HGL := Za (h.fb g h.fg)
 clear h hc hm hi hn h17
 have H7a := Za (H7.out.below (Nat.le_refl _) (Zd w (.cells #[I_ 0, I_ 0, .int .u64 0] 64)))
 have hgl := HGL.out
 have V0 := Za (Val.new w 0 0 0)
 go_enter Tryz.func86, Tryz.ntmps86
 go_wp2_with fail
 refine (EO.out _ H7a.out).mono ?_
 rintro e w1 ⟨rfl, hb⟩
 have V1 := V0.out.al hb
 obtain ⟨⟨f0, f1, f2⟩, v0, v1, v2⟩ := V1.all
 go_wp2_with fail
 exact ret_ve w.heap.size rfl rfl rfl (V1.set 0 0 0) rfl (Vb.mk rfl (Zt (Zg (Zd _ _) hb) (Nat.le_refl _) _ _ _))
theorem Write_in {w : World} {F : Nat -> Prop} {g : Nat} {s : St} (h : Stt w F g s) {p : List Addr} (h17 : E2 w p) (i : Nat) (x : V3) (hx : s.P[i]? = some x) (t m z : Int) (hB : isB t m z x.1 = true) : Calls Tryz.prog 93 #[P_ g, I_ (i : Nat), .agg #[I_ t, I_ m, .int .u64 z]] w (Sp w F g { s with P := s.P.set i (t, m, z) } .nilIface) := by
 obtain ⟨vP, vM, vC, vA, vs, h⟩ := h
 have hi : i < s.P.length := (G_ hx)
 obtain ⟨b, c, e, hc, hm⟩ := Zq h.pl (by omega)
 have hsm := h.small
 obtain ⟨n, hn⟩ : ∃ n, n = s.P.length := ⟨_, rfl⟩
 rw [← hn] at e hi hc
 have hn32 : n <= 128 := by omega
 subst e
 have HN := Za hn
 have c1 := h.cells.1
 obtain ⟨x0, x1, x2⟩ := x
 obtain ⟨o, ho⟩ : ∃ o, o = 3 * i := ⟨_, rfl⟩
 have HO := Za ho
 have hgl := h.fb g h.fg
 have hbl := h.fb b (h.fP b rfl)
 simp only at hB
 have IS : ∀ wx, Calls Tryz.prog 108 #[.agg #[I_ t, I_ m, .int .u64 z], I_ x0] wx (Vb wx (.bool true)) := fun wx => by
  have := isOf_any t m z x0 wx
  rw [hB] at this
  exact this
 have W1 := Za (And.intro (h.bel (Zd w (.cells #[I_ t, I_ m, .int .u64 z] 64))) (And.intro (Zd w (.cells #[I_ t, I_ m, .int .u64 z] 64)) (And.intro (Val.new w t m z) (h17.below (Nat.le_refl _) (Zd w (.cells #[I_ t, I_ m, .int .u64 z] 64))))))
 have HX := Za hx
 have HGE := Za hbl
 clear h hsm hc hm hn h17 hB ho hx
 go_enter Tryz.func93, Tryz.ntmps93
 go_wp2_with fail
 refine (in_syncelementapiValue b n c i o _ hi HO).mono ?_
 rintro e w1 ⟨rfl, rfl⟩
 go_wp2_with fail
 generalize w.alloc _ = w1 at *
 obtain ⟨h1, hb1, V1, x1'⟩ := W1.out
 obtain ⟨q0, q1, q2⟩ := vcs_at _ _ _ HX.out
 rw [← HO.out] at q0 q1 q2
 have d0 := (Zk h1.pl _ _ q0).1
 obtain ⟨_, v0, v1, v2⟩ := V1.all
 simp only at d0
 have K1 := Za (And.intro h1 (And.intro hb1 (And.intro V1 x1')))
 clear W1 h1 hb1 V1 x1' q0 q1 q2 c1
 go_region_held3 (fun w' => (w'.cell? ⟨w.heap.size, 0, none⟩ = some (I_ t) /\ w'.cell? ⟨w.heap.size, 1, none⟩ = some (I_ m) /\ w'.cell? ⟨w.heap.size, 2, none⟩ = some (.int .u64 z)) /\ w'.cell? ⟨b, o, none⟩ = some (I_ x0)) (first | (exact ⟨⟨by assumption, by assumption, by assumption⟩, by assumption⟩)) (first | (go_at_call 108; refine (IS _).mono ?_; rintro e w2 ⟨rfl, hb⟩; replace hb : Below w1.heap.size w1 w2 := ⟨hb.os, hb.tape, hb.output, hb.size, hb.block⟩; have K2 := Za (And.intro (K1.out.1.bel hb) (And.intro (Zg K1.out.2.1 hb) (And.intro (K1.out.2.2.1.al hb) (K1.out.2.2.2.below (Nat.le_refl _) hb)))); obtain ⟨_, v0', v1', v2'⟩ := K2.out.2.2.1.all; have d0' : w2.cell? ⟨b, o, none⟩ = some (I_ x0) := (hb.cell (p := ⟨b, o, none⟩) (K1.out.1.fb b (K1.out.1.fP b rfl))).trans d0))
 obtain ⟨q0, q1, q2⟩ := vcs_at _ _ _ HX.out
 rw [← HO.out] at q0 q1 q2
 obtain ⟨e0, f0⟩ := Zk K2.out.1.pl _ _ q0
 obtain ⟨e1, f1⟩ := Zk K2.out.1.pl _ _ q1
 obtain ⟨e2, f2⟩ := Zk K2.out.1.pl _ _ q2
 have SP := K2.out.1.setP HN.out i (t, m, z)
 rw [← HO.out] at SP
 have SP2 := Za SP
 clear SP q0 q1 q2
 go_wp2_with fail
 go_ret
 exact Sp.mk rfl ⟨_, _, _, _, _, SP2.out.1⟩ ((Ch.of_bel K2.out.2.1).trans SP2.out.2)
theorem Zr {TS : TypeId} {w : World} {ops : Array Oper} {o : Oper} {a : Act} {K : Act -> World -> Prop} {Q : Exit -> Act -> World -> Prop} {E : Prop} (s x : Operand) (v vx : Value) (R : Value -> World -> Prop)
 (hrun : ∀ ty, ∃ v' w', (Builtin.append_ #[TS, TS] ty #[v, vx]).run Tryz.prog w = .ok v' w' /\ R v' w') (hw : Region.wanted o (yielded ops a.tmps) = true)
 (ho : o.op = .call { callee := .builtin .append, args := #[s, x], argTypes := #[TS, TS] }) (hs : a.eval s = v) (hx : a.eval x = vx)
 (h : ∀ v' w', R v' w' -> K (a.put o.dst v') w') : if Region.wanted o (yielded ops a.tmps) = true then Oper.wp Tryz.prog o a w K Q else E := by
 rw [if_pos hw]
 obtain ⟨v', w', hr, hR⟩ := hrun o.type
 unfold Oper.wp execOp
 simp only [ho, resolve, invoke, builtin, Sem.run_bind, Sem.run_pure, Result.andThen_ok, List.map_toArray, List.map_cons, List.map_nil, hs, hx, hr]
 exact h v' w' hR
theorem Ym : (Tryz.prog.info? 64).map (fun i => (i.zero, i.size, i.bytes)) = some (some (.agg #[I_ 0, I_ 0, .int .u64 0]), 3, 24) := by kernel_rfl
theorem push_v {w : World} {vq : Value} {l : List V3} {n : Nat} (hn : n = l.length) (oq : w.ownsRow 0 64 3 vq n (vcs l)) (hl : l.length <= 1000) (t m z : Int) (ty : TypeId) :
 ∃ v' w', (Builtin.append_ #[65, 65] ty #[vq, .slice (some ⟨w.heap.size, 0, none⟩) 1 1]).run Tryz.prog (w.alloc (.cells #[I_ t, I_ m, .int .u64 z] 64)) = .ok v' w' ∧
  (w'.ownsRow 0 64 3 v' (n + 1) (vcs (l ++ [(t, m, z)])) /\ w.grownBy w' vq.ownBlock /\ (∀ k, v'.ownBlock = some k -> vq.ownBlock = some k ∨ w.heap.size <= k)) := by
 obtain ⟨ie, hi, hz0, hz1, hz2⟩ := info_parts Ym
 have hb := Zd w (.cells #[I_ t, I_ m, .int .u64 z] 64)
 have o1 := Zj oq (fun k hk => hb.block k (Zf oq hk).2.1)
 have hc : ∀ (j : Nat) (u : Value), (vcs [(t, m, z)])[j]? = some u -> (w.alloc (.cells #[I_ t, I_ m, .int .u64 z] 64)).cell? ((⟨w.heap.size, 0, none⟩ : Addr).add j) = some u := fun j u hu => by
  rw [show (⟨w.heap.size, 0, none⟩ : Addr).add j = ⟨w.heap.size, j, none⟩ by unfold Addr.add; by_cases h : j = 0 <;> simp [h]]
  exact Zb (B_ w _) j u (by simpa [vcs] using hu)
 obtain ⟨v', w', hr, ho, hg, _, hat⟩ := run_append_own_at (P := Tryz.prog) (w.alloc (.cells #[I_ t, I_ m, .int .u64 z] 64)) 0 65 ty 64 ie _ 3 24 Tryz.underlying65 hi hz0 hz1 hz2 rfl (by decide) vq n (vcs l) o1 ⟨w.heap.size, 0, none⟩ 1 1 (vcs [(t, m, z)]) rfl hc (Yt _) (by unfold maxLen; omega) (by omega) (Nat.zero_le _)
 refine ⟨v', w', hr, by rw [vcs_app]; exact ho, ⟨hg.os, hg.tape, hg.output, Nat.le_trans hb.size hg.size, fun k hk hne => (hg.block k (Nat.lt_of_lt_of_le hk hb.size) hne).trans (hb.block k hk)⟩, fun k hk => ?_⟩
 rcases hat with e | e
 · exact .inl (e.symm.trans hk)
 · rw [e] at hk
   right
   have := Option.some.inj hk
   simp at this
   omega
theorem push_q {w W : World} (hW : Below w.heap.size w W) {b o : Nat} {cur : Array Value} (hbq : w.heap[b]? = some (.cells cur 113 (0, 0))) {vq : Value} {l : List V3} {n : Nat} (hn : n = l.length) (d2 : w.cell? ⟨b, o + 2, none⟩ = some vq) (oq : w.ownsRow 0 64 3 vq n (vcs l)) (hl : l.length <= 1000) (t m z : Int) (ty : TypeId) :
 ∃ v' w', (Builtin.append_ #[65, 65] ty #[vq, .slice (some ⟨W.heap.size, 0, none⟩) 1 1]).run Tryz.prog (W.alloc (.cells #[I_ t, I_ m, .int .u64 z] 64)) = .ok v' w' ∧
  ((∃ a l c, v' = .slice a l c) /\ w'.frozen? ⟨b, o + 2, none⟩ = false /\ w'.cell? ⟨b, o + 2, none⟩ = some vq /\ w'.ownsRow 0 64 3 v' (l ++ [(t, m, z)]).length (vcs (l ++ [(t, m, z)])) /\ w.grownBy w' vq.ownBlock /\ (∀ k, v'.ownBlock = some k -> vq.ownBlock = some k ∨ w.heap.size <= k)) := by
 obtain ⟨v', w', hr, ho, hg, hf⟩ := push_v hn (Zj oq (fun k hk => hW.block k (Zf oq hk).2.1)) hl t m z ty
 have hgb : w'.heap[b]? = w.heap[b]? := (hg.block b (Nat.lt_of_lt_of_le (Ze hbq) hW.size) (fun e => Zv oq hbq (by decide) e.symm)).trans (hW.block b (Ze hbq))
 obtain ⟨a, c, e, _⟩ := Zl ho
 refine ⟨v', w', hr, ⟨_, _, _, e⟩, Zc (hgb.trans hbq) _, (World.cell?_of_block (w := w) (a := ⟨b, o + 2, none⟩) hgb).trans d2, ?_, ⟨hg.os.trans hW.os, hg.tape.trans hW.tape, hg.output.trans hW.output, Nat.le_trans hW.size hg.size, fun k hk hne => (hg.block k (Nat.lt_of_lt_of_le hk hW.size) hne).trans (hW.block k hk)⟩, fun k hk => ?_⟩
 · rw [List.length_append, ← hn]
   exact ho
 · rcases hf k hk with h | h
   · exact .inl h
   · exact .inr (Nat.le_trans hW.size h)
def PutP (w : World) (b o : Nat) (vq : Value) (l : List V3) (e : Ending) (w' : World) : Prop := e = .returned (.bool true) /\ ∃ v' w2, w' = w2.setCell ⟨b, o + 2, none⟩ v' /\ w2.ownsRow 0 64 3 v' l.length (vcs l) /\ w.grownBy w2 vq.ownBlock /\ (∀ k, v'.ownBlock = some k -> vq.ownBlock = some k ∨ w.heap.size <= k)
theorem put_full {w : World} (b o : Nat) (cur : Array Value) (hbq : w.heap[b]? = some (.cells cur 113 (0, 0))) (room : Int) (vq : Value) (l : List V3) (d1 : w.cell? ⟨b, o + 1, none⟩ = some (I_ room)) (d2 : w.cell? ⟨b, o + 2, none⟩ = some vq) (oq : w.ownsRow 0 64 3 vq l.length (vcs l)) (hr : room <= l.length) (t m z : Int) : Calls Tryz.prog 109 #[.pointer (some ⟨b, o, none⟩), .agg #[I_ t, I_ m, .int .u64 z]] w (Vb w (.bool false)) := by
 obtain ⟨aq, cq, rfl, hcq, hmq⟩ := Zl oq
 obtain ⟨n, hn⟩ : ∃ n, n = l.length := ⟨_, rfl⟩
 have hbl := Ze hbq
 rw [← hn] at d2 hr oq hcq
 have HN := Za hn
 have W1 := Za (And.intro (Zd w (.cells #[I_ t, I_ m, .int .u64 z] 64)) (Val.new w t m z))
 clear hn oq
 go_enter Tryz.func109, Tryz.ntmps109
 go_wp2_with fail
 go_quiet (fail)
 go_wp2_with fail
 go_ret
 exact Vb.mk rfl (below_drewN (Zd _ _) _)
theorem put_room {w : World} (b o : Nat) (cur : Array Value) (hbq : w.heap[b]? = some (.cells cur 113 (0, 0))) (room : Int) (vq : Value) (l : List V3) (d1 : w.cell? ⟨b, o + 1, none⟩ = some (I_ room)) (d2 : w.cell? ⟨b, o + 2, none⟩ = some vq) (oq : w.ownsRow 0 64 3 vq l.length (vcs l)) (hr : (l.length : Int) < room) (hr8 : room <= 8) (t m z : Int) : Calls Tryz.prog 109 #[.pointer (some ⟨b, o, none⟩), .agg #[I_ t, I_ m, .int .u64 z]] w (PutP w b o vq (l ++ [(t, m, z)])) := by
 obtain ⟨aq, cq, rfl, hcq, hmq⟩ := Zl oq
 obtain ⟨n, hn⟩ : ∃ n, n = l.length := ⟨_, rfl⟩
 have hbl := Ze hbq
 rw [← hn] at d2 hr oq hcq
 have HN := Za hn
 have W1 := Za (And.intro (Zd w (.cells #[I_ t, I_ m, .int .u64 z] 64)) (Val.new w t m z))
 rw [← hn]
 have hl8 : l.length <= 1000 := by omega
 clear hn
 go_enter Tryz.func109, Tryz.ntmps109
 go_wp2_with fail
 go_quiet (fail)
 go_wp2_with fail
 have hbW : Below w.heap.size w ((w.alloc (.cells #[I_ t, I_ m, .int .u64 z] 64)).drewN nq).drew := Zp (below_drewN (Zd _ _) _)
 have G0 := Za (And.intro ((hbW.block b hbl).trans hbq) ((hbW.cell (p := ⟨b, o + 2, none⟩) hbl).trans d2))
 have N0 := Za (show Val ((w.alloc (.cells #[I_ t, I_ m, .int .u64 z] 64)).drewN nq).drew w.heap.size t m z from W1.out.2)
 have PU := Za (fun ty => push_q hbW hbq HN.out d2 oq hl8 t m z ty)
 clear hbW W1 oq hbq d2 d1 hl8
 refine wp_region_any ZK ?_
 change wpAny _ _ _ _ _ _ _ (World.drew _)
 generalize World.drew _ = W0 at *
 refine T2_ 0 ?_
 simp only [Act.put, S_]
 refine T2_ 1 ?_
 simp only [Act.put, S_]
 refine T2_ 2 ?_
 simp only [Act.put, S_]
 refine T2_ 3 ?_
 simp only [Act.put, S_]
 refine wpAny_ready (rs := [4, 5]) (by kernel_rfl) (by decide) ?_
 refine AllReady.cons rfl (fun K1 hK1 => ?_) (AllReady.cons rfl (fun K1 hK1 => ?_) AllReady.nil)
 · have q := (show W0.cell? ⟨b, o + 2, none⟩ = some (.slice aq n cq) from G0.out.2)
   go_simp
   refine hK1 _ _ ?_
   clear hK1 K1 q
   refine R_ 5 (fun K1 hK1 => ?_)
   obtain ⟨_, q0, q1, q2⟩ := N0.out.all
   go_simp
   refine hK1 _ _ ?_
   clear hK1 K1 q0 q1 q2
   refine R_ 6 (fun K1 hK1 => ?_)
   go_simp
   refine hK1 _ _ ?_
   clear hK1 K1
   refine R_ 7 (fun K1 hK1 => ?_)
   refine Zr (TS := 65) (.tmp 20) (.tmp 22) _ _ _ (fun ty => PU.out ty) rfl rfl rfl rfl ?_
   rintro v9 w9 ⟨⟨a9, l9, c9, rfl⟩, z1, z2, r9⟩
   have R9 := Za r9
   clear r9
   refine hK1 _ _ ?_
   clear hK1 K1
   refine T2_ 8 ?_
   simp only [Act.put, S_]
   refine T2_ 9 ?_
   simp only [Act.put, S_]
   refine R_ 10 (fun K1 hK1 => ?_)
   go_simp
   refine hK1 _ _ ?_
   clear hK1 K1 z1 z2
   refine wpAny_done (by kernel_rfl) ?_ _
   go_wp2_with fail
   go_ret
   exact ⟨rfl, _, _, rfl, R9.out⟩
 · obtain ⟨_, q0, q1, q2⟩ := N0.out.all
   go_simp
   refine hK1 _ _ ?_
   clear hK1 K1 q0 q1 q2
   refine wpAny_ready (rs := [4, 6]) (by kernel_rfl) (by decide) ?_
   refine AllReady.cons rfl (fun K1 hK1 => ?_) (AllReady.cons rfl (fun K1 hK1 => ?_) AllReady.nil)
   · have q := (show W0.cell? ⟨b, o + 2, none⟩ = some (.slice aq n cq) from G0.out.2)
     go_simp
     refine hK1 _ _ ?_
     clear hK1 K1 q
     refine R_ 6 (fun K1 hK1 => ?_)
     go_simp
     refine hK1 _ _ ?_
     clear hK1 K1
     refine R_ 7 (fun K1 hK1 => ?_)
     refine Zr (TS := 65) (.tmp 20) (.tmp 22) _ _ _ (fun ty => PU.out ty) rfl rfl rfl rfl ?_
     rintro v9 w9 ⟨⟨a9, l9, c9, rfl⟩, z1, z2, r9⟩
     have R9 := Za r9
     clear r9
     refine hK1 _ _ ?_
     clear hK1 K1
     refine T2_ 8 ?_
     simp only [Act.put, S_]
     refine T2_ 9 ?_
     simp only [Act.put, S_]
     refine R_ 10 (fun K1 hK1 => ?_)
     go_simp
     refine hK1 _ _ ?_
     clear hK1 K1 z1 z2
     refine wpAny_done (by kernel_rfl) ?_ _
     go_wp2_with fail
     go_ret
     exact ⟨rfl, _, _, rfl, R9.out⟩
   · go_simp
     refine hK1 _ _ ?_
     clear hK1 K1
     refine R_ 4 (fun K1 hK1 => ?_)
     have q := (show (W0.alloc (.cells #[I_ t, I_ m, .int .u64 z] 64)).cell? ⟨b, o + 2, none⟩ = some (.slice aq n cq) from ((Zd W0 _).cell (p := ⟨b, o + 2, none⟩) (Ze G0.out.1)).trans G0.out.2)
     go_simp
     refine hK1 _ _ ?_
     clear hK1 K1 q
     refine R_ 7 (fun K1 hK1 => ?_)
     refine Zr (TS := 65) (.tmp 20) (.tmp 22) _ _ _ (fun ty => PU.out ty) rfl rfl rfl rfl ?_
     rintro v9 w9 ⟨⟨a9, l9, c9, rfl⟩, z1, z2, r9⟩
     have R9 := Za r9
     clear r9
     refine hK1 _ _ ?_
     clear hK1 K1
     refine T2_ 8 ?_
     simp only [Act.put, S_]
     refine T2_ 9 ?_
     simp only [Act.put, S_]
     refine R_ 10 (fun K1 hK1 => ?_)
     go_simp
     refine hK1 _ _ ?_
     clear hK1 K1 z1 z2
     refine wpAny_done (by kernel_rfl) ?_ _
     go_wp2_with fail
     go_ret
     exact ⟨rfl, _, _, rfl, R9.out⟩
theorem gb_setCell {w w1 : World} {b : Nat} (h : w.grownBy w1 (some b)) (j : Nat) (u : Value) : w.grownBy (w1.setCell ⟨b, j, none⟩ u) (some b) :=
 ⟨h.os, h.tape, h.output, by rw [Zi]; exact h.size, fun k hk hne => (Below.heap_setCell _ _ _ _ (fun e => hne (congrArg some e))).trans (h.block k hk hne)⟩
theorem gb_drew {w w1 : World} {o : Option Nat} (h : w.drew.grownBy w1 o) : w.grownBy w1 o := ⟨h.os, h.tape, h.output, h.size, h.block⟩
theorem gb_trans {w w1 w2 : World} {o : Option Nat} (h : w.grownBy w1 o) (k : w1.grownBy w2 o) : w.grownBy w2 o :=
 ⟨k.os.trans h.os, k.tape.trans h.tape, k.output.trans h.output, Nat.le_trans h.size k.size, fun i hi hne => (k.block i (Nat.lt_of_lt_of_le hi h.size) hne).trans (h.block i hi hne)⟩
theorem run_clear1 {w : World} {b m c : Nat} {l : List V3} (ho : w.ownsRow 0 64 3 (.slice (some ⟨b, 0, none⟩) m c) l.length (vcs l)) (hc : m < c) (c' : Nat) (ty : TypeId) :
 ∃ w', (Builtin.clear_ #[65] ty #[.slice (some ⟨b, m * 3, none⟩) 1 c']).run Tryz.prog w = .ok (.tuple #[]) w' /\ w'.ownsRow 0 64 3 (.slice (some ⟨b, 0, none⟩) m c) l.length (vcs l) /\ w.grownBy w' (some b) := by
 have hm : m = l.length := by
  obtain ⟨_, ⟨h0, _⟩ | ⟨gb, cap, cur, e, _⟩⟩ := ho
  · cases h0
  · cases e
    rfl
 subst hm
 have hx : ∃ cur, w.heap[b]? = some (.cells cur 64 (0, 0)) /\ cur.size = c * 3 := by
  obtain ⟨_, ⟨h0, _⟩ | ⟨gb, cap, cur, e, _, hg, _, _, hs, _⟩⟩ := ho
  · cases h0
  · cases e
    exact ⟨cur, hg, hs⟩
 obtain ⟨cur, hg, hs⟩ := hx
 have hcell : ∀ j, j < 3 -> (w.cell? ⟨b, l.length * 3 + j, none⟩).isSome = true := fun j hj => by
  rw [Zb hg (l.length * 3 + j) cur[l.length * 3 + j] (Array.getElem?_eq_getElem (by omega))]
  rfl
 have hst := run_storeCells_cells (P := Tryz.prog) b (l.length * 3) [I_ 0, I_ 0, .int .u64 0] 0 w (by simpa using hcell) (fun j _ => Zc hg _) (by intro v hv; simp at hv; rcases hv with rfl | rfl | rfl <;> rfl)
 have h3 := ZT (ZT (ZT ho (l.length * 3) (I_ 0)) (l.length * 3 + 1) (I_ 0)) (l.length * 3 + 2) (.int .u64 0)
 refine ⟨_, ?_, ?_, gb_setCell (gb_setCell (gb_setCell (World.grownBy.refl w _) (l.length * 3) (I_ 0)) (l.length * 3 + 1) (I_ 0)) (l.length * 3 + 2) (.int .u64 0)⟩
 · simp only [Nat.add_zero] at hst
   have hzc : (Builtin.zeroCells (Value.agg #[I_ 0, I_ 0, .int .u64 0]).cells 1).toList = [I_ 0, I_ 0, .int .u64 0] := by kernel_rfl
   simp [Builtin.clear_, run_underlying Tryz.underlying65, hzc, hst, World.setCells]
 · rw [List.set_eq_of_length_le (by simp [vcs_len]), List.set_eq_of_length_le (by simp [vcs_len]), List.set_eq_of_length_le (by simp [vcs_len])] at h3
   exact h3
theorem run_move {w : World} {b c : Nat} {v : V3} {l : List V3} {k : Nat} (hk : k = l.length) (ho : w.ownsRow 0 64 3 (.slice (some ⟨b, 0, none⟩) (k + 1) c) (k + 1) (vcs (v :: l))) (a : Addr) (ha : a = ⟨b, 3, none⟩ ∨ k = 0) (c' : Nat) (ty : TypeId) :
    ∃ v' w', (Builtin.append_ #[65, 65] ty #[.slice (some ⟨b, 0, none⟩) 0 c, .slice (some a) k c']).run Tryz.prog w = .ok v' w' /\ (v' = .slice (some ⟨b, 0, none⟩) k c /\ w'.ownsRow 0 64 3 (.slice (some ⟨b, 0, none⟩) k c) l.length (vcs l) /\ w.grownBy w' (some b)) := by
  subst hk
  obtain ⟨i, hi, hz0, hz1, hz2⟩ := info_parts Ym
  have hx : ∃ cur, w.heap[b]? = some (.cells cur 64 (0, 0)) /\ l.length + 1 <= c /\ c <= maxLen /\ cur.size = c * 3 /\ cur.toList.take ((l.length + 1) * 3) = vcs (v :: l) := by
    obtain ⟨_, ⟨h0, _⟩ | ⟨gb, cap, cur, e, _, hg, h1, h2, hs, ht⟩⟩ := ho
    · cases h0
    · cases e
      exact ⟨cur, hg, h1, h2, hs, ht⟩
  obtain ⟨cur, hg, h1, h2, hs, ht⟩ := hx
  have hr := run_append_room (P := Tryz.prog) w 65 ty 64 i Tryz.underlying65 hi b 0 c cur hg a l.length c' (vcs l) (by rw [vcs_len, hz1]) (fun j u hu => by
    have hj : j < l.length * 3 := by rw [← vcs_len]; exact (G_ hu)
    rcases ha with rfl | e
    · have hu2 : (vcs (v :: l))[3 + j]? = some u := by
        rw [show 3 + j = j + 1 + 1 + 1 by omega]
        simpa [vcs] using hu
      rw [show (⟨b, 3, none⟩ : Addr).add j = ⟨b, 3 + j, none⟩ by unfold Addr.add; by_cases h : j = 0 <;> simp [h]]
      exact (Zk ho (3 + j) u hu2).1
    · omega) (Yt _) (by omega) (by rw [vcs_len, hs]; omega)
  refine ⟨_, _, hr, by simp, ?_, rfl, rfl, rfl, by simp [World.setRow], fun k _ hk => setRow_other w b k _ (fun e => hk (by rw [e]))⟩
  refine ⟨vcs_len l, .inr ⟨b, c, _, rfl, Nat.zero_le _, setRow_heap w b _ _ 64 _ hg, by omega, h2, ?_, ?_⟩⟩
  · simp [vcs_len, hs]
    omega
  · simp only [Nat.zero_mul, List.take_zero, List.nil_append, ← vcs_len l]
    exact List.take_left
theorem delete_any {w : World} {b c : Nat} {v : V3} {l : List V3} {k : Nat} (hk : k = l.length) (hk8 : k <= 1000) (ho : w.ownsRow 0 64 3 (.slice (some ⟨b, 0, none⟩) (k + 1) c) (k + 1) (vcs (v :: l))) :
 Calls Tryz.prog 111 #[.slice (some ⟨b, 0, none⟩) (k + 1) c, I_ 0, I_ 1] w fun e w' => e = .returned (.slice (some ⟨b, 0, none⟩) k c) /\ w'.ownsRow 0 64 3 (.slice (some ⟨b, 0, none⟩) k c) l.length (vcs l) /\ w.grownBy w' (some b) := by
 obtain ⟨_, _, e, hkc, hcm⟩ := Zq ho (by omega)
 cases e
 have HO := Za (And.intro hk ho)
 clear hk ho
 unfold maxLen at hcm
 by_cases h1 : c = 1
 · subst h1
   obtain rfl : k = 0 := by omega
   have MV := Za (fun (ty : TypeId) => run_move (w := w.drew) HO.out.1 HO.out.2 ⟨b, 0, none⟩ (.inr rfl) 0 ty)
   go_enter Tryz.func111, Tryz.ntmps111
   go_wp2_with fail
   refine wp_region_any ZK ?_
   change wpAny _ _ _ _ _ _ _ (World.drew _)
   refine T2_ 0 ?_
   simp only [Act.put, S_]
   refine T2_ 1 ?_
   simp only [Act.put, S_]
   refine T2_ 2 ?_
   simp only [Act.put, S_]
   refine T2_ 3 ?_
   simp only [Act.put, S_]
   refine T2_ 4 ?_
   simp only [Act.put, S_]
   refine T2_ 5 ?_
   simp only [Act.put, S_]
   refine R_ 6 (fun K1 hK1 => ?_)
   refine Zr (TS := 65) (.tmp 22) (.tmp 25) _ _ _ (fun ty => MV.out ty) rfl rfl rfl rfl ?_
   rintro v9 w9 ⟨rfl, r9, g9⟩
   have R9 := Za (And.intro r9 g9)
   clear r9 g9
   refine hK1 _ _ ?_
   clear hK1 K1
   refine R_ 7 (fun K1 hK1 => ?_)
   go_simp
   refine hK1 _ _ ?_
   clear hK1 K1
   refine wpAny_done (by kernel_rfl) ?_ _
   obtain ⟨w10, hcl, r10, g10⟩ := run_clear1 R9.out.1 (show 0 < 1 by omega) 1 0
   simp only [Nat.zero_mul] at hcl
   have R10 := Za (And.intro r10 g10)
   clear r10 g10
   go_wp2_with fail
   go_ret
   exact ⟨rfl, R10.out.1, gb_trans (gb_drew R9.out.2) R10.out.2⟩
 · have h2 : (c = 1) = False := eq_false h1
   have h3 : (1 : Int) <= (k : Int) + 1 := by omega
   have MV := Za (fun (ty : TypeId) => run_move (w := w.drew) HO.out.1 HO.out.2 ⟨b, 3, none⟩ (.inl rfl) (c - 1) ty)
   go_enter Tryz.func111, Tryz.ntmps111
   go_wp2_with fail
   refine wp_region_any ZK ?_
   change wpAny _ _ _ _ _ _ _ (World.drew _)
   refine T2_ 0 ?_
   simp only [Act.put, S_]
   refine T2_ 1 ?_
   simp only [Act.put, S_]
   refine T2_ 2 ?_
   simp only [Act.put, S_]
   refine T2_ 3 ?_
   simp only [Act.put, S_]
   refine T2_ 4 ?_
   simp only [Act.put, S_]
   refine T2_ 5 ?_
   simp only [Act.put, S_]
   refine R_ 6 (fun K1 hK1 => ?_)
   refine Zr (TS := 65) (.tmp 22) (.tmp 25) _ _ _ (fun ty => MV.out ty) rfl rfl rfl rfl ?_
   rintro v9 w9 ⟨rfl, r9, g9⟩
   have R9 := Za (And.intro r9 g9)
   clear r9 g9
   refine hK1 _ _ ?_
   clear hK1 K1
   refine R_ 7 (fun K1 hK1 => ?_)
   go_simp
   refine hK1 _ _ ?_
   clear hK1 K1
   refine wpAny_done (by kernel_rfl) ?_ _
   obtain ⟨w10, hcl, r10, g10⟩ := run_clear1 R9.out.1 (show k < c by omega) (c - k) 0
   have R10 := Za (And.intro r10 g10)
   clear r10 g10
   go_wp2_with fail
   go_ret
   exact ⟨rfl, R10.out.1, gb_trans (gb_drew R9.out.2) R10.out.2⟩
def TakeP (w : World) (b o : Nat) (bq k cq : Nat) (v : V3) (l : List V3) (e : Ending) (w' : World) : Prop := e = .returned (.tuple #[.agg #[I_ v.1, I_ v.2.1, .int .u64 v.2.2], .bool true]) /\ ∃ w2, w2.ownsRow 0 64 3 (.slice (some ⟨bq, 0, none⟩) k cq) l.length (vcs l) /\ w.grownBy w2 (some bq) /\ Below w.heap.size (w2.setCell ⟨b, o + 2, none⟩ (.slice (some ⟨bq, 0, none⟩) k cq)) w'
theorem Val.keep {w w' : World} {g : Nat} {t n b : Int} (h : Val w g t n b) (hb : w'.heap[g]? = w.heap[g]?) : Val w' g t n b := hb.trans h
theorem bel_gb {w w1 w2 : World} {o : Option Nat} (h : Below w.heap.size w w1) (k : w1.grownBy w2 o) : w.grownBy w2 o := ⟨k.os.trans h.os, k.tape.trans h.tape, k.output.trans h.output, Nat.le_trans h.size k.size, fun i hi hne => (k.block i (Nat.lt_of_lt_of_le hi h.size) hne).trans (h.block i hi)⟩
theorem take_some {w : World} (b o : Nat) (cur : Array Value) (hbq : w.heap[b]? = some (.cells cur 113 (0, 0))) (bq cq k : Nat) (v : V3) (l : List V3) (hk : k = l.length) (hk8 : k <= 1000) (d2 : w.cell? ⟨b, o + 2, none⟩ = some (.slice (some ⟨bq, 0, none⟩) (k + 1) cq)) (oq : w.ownsRow 0 64 3 (.slice (some ⟨bq, 0, none⟩) (k + 1) cq) (k + 1) (vcs (v :: l))) : Calls Tryz.prog 110 #[.pointer (some ⟨b, o, none⟩)] w (TakeP w b o bq k cq v l) := by
 have hbl := Ze hbq
 have hql := (Zf oq (k := bq) rfl).2.1
 have hne : b ≠ bq := fun e => Zv oq hbq (by decide) (by rw [e]; rfl)
 obtain ⟨q0, q1, q2⟩ := vcs_at (v :: l) 0 v rfl
 have e0 := (Zk oq _ _ q0).1
 have e1 := (Zk oq _ _ q1).1
 have e2 := (Zk oq _ _ q2).1
 simp only [Nat.mul_zero, Nat.zero_add] at e0 e1 e2
 have hbB : Below w.heap.size w ((w.alloc (.cells #[I_ 0, I_ 0, .int .u64 0] 64)).alloc (.cells #[I_ v.1, I_ v.2.1, .int .u64 v.2.2] 64)) := Zu (Zd w _) _
 have DE := Za (delete_any hk hk8 (Zj oq (fun k hk => hbB.block k (Zf oq hk).2.1)))
 have WB := Za (And.intro hbB (And.intro ((Val.new w 0 0 0).al (Zd (w.alloc (.cells #[I_ 0, I_ 0, .int .u64 0] 64)) (.cells #[I_ v.1, I_ v.2.1, .int .u64 v.2.2] 64))) (Val.new (w.alloc (.cells #[I_ 0, I_ 0, .int .u64 0] 64)) v.1 v.2.1 v.2.2)))
 have HQ := Za (And.intro hbq d2)
 have HNE := Za hne
 clear hbB oq q0 q1 q2 hk hne hbq
 go_enter Tryz.func110, Tryz.ntmps110
 go_wp2_with fail
 refine DE.out.mono ?_
 rintro e w2 ⟨rfl, o2, g2⟩
 obtain ⟨hbB, VA, VB⟩ := WB.out
 have hsz : (w.alloc (.cells #[I_ 0, I_ 0, .int .u64 0] 64)).heap.size = w.heap.size + 1 := by simp
 rw [hsz] at VB
 have VA2 := VA.keep (g2.block _ VA.lt (fun e => by have := Option.some.inj e; omega))
 have VB2 := VB.keep (g2.block _ VB.lt (fun e => by have := Option.some.inj e; omega))
 have hbq2 := (g2.block b (Nat.lt_of_lt_of_le hbl hbB.size) (fun e => HNE.out (Option.some.inj e))).trans ((hbB.block b hbl).trans HQ.out.1)
 have z1 := Zc hbq2 (o + 2)
 have z2 : w2.cell? ⟨b, o + 2, none⟩ = some (.slice (some ⟨bq, 0, none⟩) (k + 1) cq) := (World.cell?_of_block (w := w) (a := ⟨b, o + 2, none⟩) (hbq2.trans HQ.out.1.symm)).trans HQ.out.2
 obtain ⟨⟨fa0, fa1, fa2⟩, va0, va1, va2⟩ := VA2.all
 obtain ⟨_, vb0, vb1, vb2⟩ := VB2.all
 have VA3 := Za (VA2.keep (w' := w2.setCell ⟨b, o + 2, none⟩ (.slice (some ⟨bq, 0, none⟩) k cq)) (Below.heap_setCell _ _ _ _ (by show w.heap.size ≠ b; omega)))
 have G2 := Za (And.intro o2 (bel_gb hbB g2))
 clear VA VB VA2 VB2 hbq2 g2 o2 hbB WB DE HQ e0 e1 e2 d2
 go_wp2_with fail
 exact ret_ve w.heap.size rfl rfl rfl (VA3.out.set v.1 v.2.1 v.2.2) rfl ⟨rfl, w2, G2.out.1, G2.out.2, Zt (Below.refl _ _) (Nat.le_refl _) _ _ _⟩
end Go.Proofs.YtfojninaginnoaaGreatDoor.Ck
