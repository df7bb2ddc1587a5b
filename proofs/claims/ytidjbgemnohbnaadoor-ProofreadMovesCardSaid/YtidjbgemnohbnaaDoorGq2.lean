/- Texts of this proof, packed. -/
import Derived.Test.YtidjbgemnohbnaaDoorGq1
import Derived.Maps.OwnSet
import Derived.Maps.Views
import Derived.RegionTactic
/- Package code: the operators; a map of shapes. -/
namespace Go.Proofs.YtidjbgemnohbnaaDoor.Ck
open Go.RowKit

def opU : Array Value := #[.string ⟨#[45]⟩, .string ⟨#[33]⟩, .string ⟨#[105, 110, 116]⟩, .string ⟨#[102, 108, 111, 97, 116]⟩]
def opB : Array Value := #[.string ⟨#[43]⟩, .string ⟨#[45]⟩, .string ⟨#[42]⟩, .string ⟨#[47]⟩, .string ⟨#[37]⟩, .string ⟨#[61, 61]⟩, .string ⟨#[33, 61]⟩, .string ⟨#[60]⟩, .string ⟨#[60, 61]⟩, .string ⟨#[62]⟩, .string ⟨#[62, 61]⟩]
/-- a slice of strings of one's own, in block g -/
def OpsP (w : World) (n : Nat) (cs : Array Value) (e : Ending) (w' : World) : Prop := ∃ g, e = .returned (.slice (some ⟨g, 0, none⟩) n n) ∧ w'.heap[g]? = some (.cells cs 9 (0, 0)) ∧ Below w.heap.size w w'
theorem operators_un (w : World) : Calls Tryd.prog 57 #[.int .i64 10] w (OpsP w 4 opU) := by
  have HB := hide (fun o => bel_new w o)
  go_enter Tryd.func57, Tryd.ntmps57
  go_wp2_with fail
  go_ret
  exact ⟨_, rfl, Go.Deep.blk_alloc_new _ _, HB.out _⟩
theorem operators_bin (w : World) : Calls Tryd.prog 57 #[.int .i64 11] w (OpsP w 11 opB) := by
  have HB := hide (fun o => bel_new w o)
  go_enter Tryd.func57, Tryd.ntmps57
  go_wp2_with fail
  go_ret
  exact ⟨_, rfl, Go.Deep.blk_alloc_new _ _, HB.out _⟩
theorem operators_no (op : Int) (w : World) (h1 : op ≠ 10) (h2 : op ≠ 11) : Calls Tryd.prog 57 #[.int .i64 op] w fun e w' => e = .returned (.slice none 0 0) ∧ w = w' := by
  have e1 : (op == 10) = false := beq_false_of_ne h1
  have e2 : (op == 11) = false := beq_false_of_ne h2
  clear h1 h2
  go_enter Tryd.func57, Tryd.ntmps57
  go_wp2_with fail
  go_ret
  exact ⟨rfl, rfl⟩

/-- what an instruction's fields may be -/
structure Shp where
  a0 : Int
  a1 : Int
  b0 : Int
  b1 : Int
  bits : Int
abbrev shV (s : Shp) : Value := .agg #[.int .i64 s.a0, .int .i64 s.a1, .int .i64 s.b0, .int .i64 s.b1, .int .u64 s.bits]
def shD (s : Shp) : DataW Unit := .agg [.lit (.int .i64 s.a0), .lit (.int .i64 s.a1), .lit (.int .i64 s.b0), .lit (.int .i64 s.b1), .lit (.int .u64 s.bits)]
def shZ : Shp := ⟨0, 0, 0, 0, 0⟩
def shR (v : Value) : Option (DataW Unit × List MemPlace) := match v with
  | .agg a => (match a.toList with | [.int .i64 x, .int .i64 y, .int .i64 z, .int .i64 u, .int .u64 t] => some (shD ⟨x, y, z, u, t⟩, []) | _ => none)
  | _ => none
theorem shR_v (s : Shp) : shR (shV s) = some (shD s, []) := rfl
theorem shR_inv {v : Value} {s : Shp} {ps : List MemPlace} (h : shR v = some (shD s, ps)) : v = shV s := by
  unfold shR at h
  split at h
  · rename_i a
    split at h
    · rename_i x y z u t hx
      simp [shD] at h
      obtain ⟨⟨e1, e2, e3, e4, e5⟩, _⟩ := h
      have e : a = #[.int .i64 x, .int .i64 y, .int .i64 z, .int .i64 u, .int .u64 t] := Array.toList_inj.1 (by rw [hx])
      rw [e, e1, e2, e3, e4, e5]
    · cases h
  · cases h
/-- block b is a map of at most n shapes; f: what stands for each number -/
def ShM (w : World) (b n : Nat) (f : Int → Option Shp) : Prop :=
  ∃ D, w.ownsMap (H := Unit) Tryd.prog 3 shR b n D ∧ ∀ x : Int, D.atKey (.int .i64 x) (shD shZ) = shD ((f x).getD shZ) ∧ Maps.has D (.int .i64 x) = (f x).isSome
theorem ShM.made (w : World) : ShM (w.alloc (.map #[] 0)) w.heap.size 0 (fun _ => none) := ⟨_, World.ownsMap_made w _ _ _, fun _ => ⟨rfl, rfl⟩⟩
theorem ShM.lt {w : World} {b n : Nat} {f : Int → Option Shp} (h : ShM w b n f) : b < w.heap.size := by
  obtain ⟨D, ⟨es, clock, h1, h2⟩, h3⟩ := h
  exact lt_of_blk h1
theorem ShM.bel {w w' : World} {b n : Nat} {f : Int → Option Shp} (h : ShM w b n f) (hb : Below w.heap.size w w') : ShM w' b n f := by
  obtain ⟨D, ⟨es, clock, h1, h2⟩, h3⟩ := h
  exact ⟨D, ⟨es, clock, (hb.block b (lt_of_blk h1)).trans h1, h2⟩, h3⟩
theorem ShM.mono {w : World} {b n n' : Nat} {f : Int → Option Shp} (h : ShM w b n f) (hn : n ≤ n') : ShM w b n' f := by
  obtain ⟨D, h1, h2⟩ := h
  exact ⟨D, h1.mono hn, h2⟩
theorem ShM.add {w : World} {b n : Nat} {f : Int → Option Shp} (h : ShM w b n f) (hn : n < maxLen) (x : Int) (hw : (Lit.int .i64 x).wf = true) (s : Shp) :
    ∃ w', (Instr.mapUpdate 100 (.map (some b)) (.int .i64 x) (shV s)).run Tryd.prog w = .ok () w' ∧ ShM w' b (n + 1) (fun y => if y = x then some s else f y) ∧ w.grownBy w' (some b) := by
  obtain ⟨D, ho, hD⟩ := h
  have hk := Go.Maps.keyOf_int_mk Tryd.underlying3 hw
  have K := Go.Maps.int_keyed Tryd.underlying3
  obtain ⟨w', r, o, g⟩ := ho.update (t := 100) K Tryd.underlying100 hn hk (d := shD s) (ps := []) (val := shV s) (shR_v s)
  refine ⟨w', r, ⟨_, o, fun y => ?_⟩, g⟩
  dsimp only
  by_cases e : y = x
  · subst e
    rw [if_pos rfl]
    exact ⟨Go.Maps.atKey_put_same ho.isMap (K.key hk) _ _, Go.Maps.has_put_same ho.isMap (K.key hk) _⟩
  · rw [if_neg e]
    exact ⟨(Go.Maps.atKey_put_other (fun h => e (by injection h)) _ _).trans (hD y).1, (Go.Maps.has_put_other (fun h => e (by injection h)) _).trans (hD y).2⟩
theorem wf_int {x : Int} (h1 : -9223372036854775808 ≤ x) (h2 : x ≤ 9223372036854775807) : (Lit.int .i64 x).wf = true := by
  simp [Lit.wf]
  exact ⟨h1, h2⟩
theorem zero_sh (w : World) : (zeroValue 103).run Tryd.prog w = .ok (shV shZ) w := by kernel_rfl
theorem ShM.look {w : World} {b n : Nat} {f : Int → Option Shp} (h : ShM w b n f) (x : Int) (hw : (Lit.int .i64 x).wf = true) :
    (Instr.lookup 100 (.map (some b)) (.int .i64 x) true).run Tryd.prog w = .ok (.tuple #[shV ((f x).getD shZ), .bool (f x).isSome]) w := by
  obtain ⟨D, ho, hD⟩ := h
  have hk := Go.Maps.keyOf_int_mk Tryd.underlying3 hw
  have K := Go.Maps.int_keyed Tryd.underlying3
  obtain ⟨v, ps, hr, hv⟩ := ho.look_ok (t := 100) K Tryd.underlying100 (zero_sh w) (zd := shD shZ) (zp := []) (shR_v shZ) hk
  rw [(hD x).1] at hv
  rw [hr, shR_inv hv, (hD x).2]
end Go.Proofs.YtidjbgemnohbnaaDoor.Ck

/- A region that draws its order, by one condition on what has come up, on the frame and on the world; no Go text is walked here. (After wip/sync's Lo.) -/
namespace Go.Proofs.YtidjbgemnohbnaaDoor.Ck
open Go.RowKit

def cnt : List Bool → Nat
  | [] => 0
  | true :: l => cnt l
  | false :: l => cnt l + 1
theorem cnt_set : ∀ (l : List Bool) (i : Nat), l[i]? = some false → cnt (l.set i true) + 1 = cnt l
  | [], i, h => by simp at h
  | b :: l, 0, h => by
    simp at h
    subst h
    rfl
  | b :: l, i + 1, h => by
    have := cnt_set l i (by simpa using h)
    cases b <;> simp only [List.set_cons_succ, cnt] <;> omega
theorem cnt_zero : ∀ (l : List Bool), cnt l = 0 → ∀ (i : Nat) (b : Bool), l[i]? = some b → b = true
  | [], _, i, b, h => by simp at h
  | true :: l, hc, 0, b, h => by
    simp at h
    exact h
  | true :: l, hc, i + 1, b, h => cnt_zero l hc i b (by simpa using h)
  | false :: l, hc, i, b, h => by simp [cnt] at hc
theorem cnt_first : ∀ (l : List Bool), cnt l ≠ 0 → ∃ j : Nat, l[j]? = some false ∧ ∀ k, k < j → l[k]? = some true
  | [], h => absurd rfl h
  | false :: l, _ => ⟨0, rfl, fun k hk => absurd hk (Nat.not_lt_zero _)⟩
  | true :: l, h => by
    obtain ⟨j, h1, h2⟩ := cnt_first l h
    refine ⟨j + 1, h1, fun k hk => ?_⟩
    cases k with
    | zero => rfl
    | succ k => exact h2 k (by omega)
theorem cnt_rep : ∀ n, cnt (List.replicate n false) = n
  | 0 => rfl
  | n + 1 => by rw [List.replicate_succ, cnt, cnt_rep n]

def upd (u : Nat → Value) (i : Nat) (v : Value) : Nat → Value := fun j => if j = i then v else u j
theorem upd_self (u : Nat → Value) (i : Nat) (v : Value) : upd u i v i = v := by simp [upd]
theorem upd_ne (u : Nat → Value) {i j : Nat} (v : Value) (h : j ≠ i) : upd u i v j = u j := by simp [upd, h]

section
variable {P : Program} {md : Region.Mode} {ops : Array Oper} {Q : Exit → Act → World → Prop} {A : (Nat → Value) → Act} {J : Array Bool → (Nat → Value) → World → Prop}
theorem getD_of {l : Array Bool} {j : Nat} {b d : Bool} (h : l.toList[j]? = some b) : l.getD j d = b := by
  have : l[j]? = some b := by rw [← Array.getElem?_toList]; exact h
  simp [this]
theorem of_getD {l : Array Bool} {j : Nat} (h : l.getD j true = false) : l.toList[j]? = some false := by
  rw [Array.getElem?_toList]
  simp only [Array.getD_eq_getD_getElem?] at h
  cases hj : l[j]? with
  | none => rw [hj] at h; cases h
  | some b => rw [hj] at h; simp at h; rw [h]
theorem wpAny_inv (hord : ∀ j o, ops[j]? = some o → ∀ e ∈ o.after, Region.binds md e = true → e.on < j)
    (hop : ∀ i o L u w, ops[i]? = some o → L.size = ops.size → L.getD i true = false → (∀ e ∈ o.after, Region.binds md e = true → L.getD e.on false = true) → J L u w →
      wpOp P ops Q i (fun a' w' => ∃ v, a' = A (upd u i v) ∧ J (L.setIfInBounds i true) (upd u i v) w') (A u) w)
    (hQ : ∀ L u w, (∀ j, j < ops.size → L.getD j false = true) → J L u w → Q .normal (A u) w) :
    ∀ (fuel : Nat) (L : Array Bool) (u : Nat → Value) (w : World), cnt L.toList = fuel → L.size = ops.size → J L u w → wpAny P md ops Q fuel L (A u) w := by
  intro fuel
  induction fuel with
  | zero =>
    intro L u w hc hs hJ
    refine ⟨?_, hQ L u w (fun j hj => ?_) hJ⟩
    · rw [List.eq_nil_iff_forall_not_mem]
      intro j hj
      have h := of_getD (mem_ready.1 hj).1
      exact absurd (cnt_zero _ hc j false h) (by decide)
    · have hlt : j < L.toList.length := by rw [Array.length_toList, hs]; exact hj
      have hb := cnt_zero _ hc j _ (List.getElem?_eq_getElem hlt)
      exact getD_of ((List.getElem?_eq_getElem hlt).trans (congrArg some hb))
  | succ fuel ih =>
    intro L u w hc hs hJ
    refine ⟨fun h0 => ?_, fun i hi => ?_⟩
    · obtain ⟨j, h1, h2⟩ := cnt_first L.toList (by omega)
      have hlt : j < ops.size := by
        have := (List.getElem?_eq_some_iff.1 h1).1
        rw [Array.length_toList, hs] at this
        exact this
      have : j ∈ Region.ready md ops L := mem_ready.2 ⟨getD_of h1, _, Array.getElem?_eq_getElem hlt, fun e he hb => getD_of (h2 e.on (hord j _ (Array.getElem?_eq_getElem hlt) e he hb))⟩
      rw [h0] at this
      cases this
    · obtain ⟨h0, o, ho, hall⟩ := mem_ready.1 hi
      refine wpOp_mono (fun a' w' h' => ?_) (hop i o L u w ho hs h0 (fun e he hb => hall e he hb) hJ)
      obtain ⟨v, rfl, hj⟩ := h'
      refine ih _ _ _ ?_ (by simpa using hs) hj
      have h3 := cnt_set _ _ (of_getD h0)
      rw [Array.toList_setIfInBounds]
      omega
def depB (ops : Array Oper) (i d : Nat) : Bool := match ops[i]? with
  | some o => o.after.toList.any fun e => Region.binds .any e && e.on == d
  | none => false
def ordB (ops : Array Oper) : Bool := (List.range ops.size).all fun j => match ops[j]? with
  | some o => o.after.all fun e => !Region.binds .any e || decide (e.on < j)
  | none => true
theorem ordB_spec (h : ordB ops = true) : ∀ j o, ops[j]? = some o → ∀ e ∈ o.after, Region.binds .any e = true → e.on < j := fun j o ho e he hb => by
  unfold ordB at h
  rw [List.all_eq_true] at h
  have h1 := h j (List.mem_range.2 (Array.getElem?_eq_some_iff.1 ho).1)
  rw [ho] at h1
  simp only [Array.all_eq_true_iff_forall_mem] at h1
  have h2 := h1 e he
  rw [hb] at h2
  simpa using h2
theorem depB_spec {i d : Nat} (h : depB ops i d = true) : ∃ o, ops[i]? = some o ∧ ∃ e ∈ o.after, Region.binds .any e = true ∧ e.on = d := by
  unfold depB at h
  cases ho : ops[i]? with
  | none => rw [ho] at h; cases h
  | some o =>
    rw [ho] at h
    have h' : (o.after.toList.any fun e => Region.binds .any e && e.on == d) = true := h
    rw [List.any_eq_true] at h'
    obtain ⟨e, he, h2⟩ := h'
    exact ⟨o, rfl, e, by simpa using he, by simpa using h2⟩
/-- such a region, from its beginning -/
theorem wp_region_inv {id : Nat} {u : Nat → Value} {w : World} (hm : P.follows .mixedOrders = true) (hord : ordB ops = true)
    (hop : ∀ i, i < ops.size → ∀ L u w, L.size = ops.size → L.getD i true = false → (∀ d, depB ops i d = true → L.getD d false = true) → J L u w →
      wpOp P ops Q i (fun a' w' => ∃ v, a' = A (upd u i v) ∧ J (L.setIfInBounds i true) (upd u i v) w') (A u) w)
    (hQ : ∀ L u w, (∀ j, j < ops.size → L.getD j false = true) → J L u w → Q .normal (A u) w) (hJ : J (Array.replicate ops.size false) u w.drew) : (Code.region id ops true).wp P Q (A u) w := by
  refine wp_region_any hm ?_
  change wpAny _ _ _ _ _ _ _ (World.drew _)
  refine wpAny_inv (ordB_spec hord) (fun i o L u w ho hs h0 hd hj => hop i (Array.getElem?_eq_some_iff.1 ho).1 L u w hs h0 (fun d hdd => ?_) hj) hQ _ _ u _ (by rw [Array.toList_replicate, cnt_rep]) (by simp) hJ
  obtain ⟨o', ho', e, he, hb2, hei⟩ := depB_spec hdd
  rw [ho] at ho'
  cases ho'
  rw [← hei]
  exact hd e he hb2
theorem L_self {L : Array Bool} {i : Nat} (h : L.getD i true = false) : (L.setIfInBounds i true).getD i false = true := by
  have h1 := (List.getElem?_eq_some_iff.1 (of_getD h)).1
  rw [Array.length_toList] at h1
  simp [h1]
theorem L_ne {L : Array Bool} {i j : Nat} (h : i ≠ j) : (L.setIfInBounds i true).getD j false = L.getD j false := getD_set_ne false h
end
/-- a frame some of whose slots (sl: the number of the operation that fills it) hold u's values -/
def fillL (sl : Nat → Option Nat) (u : Nat → Value) : Nat → List Value → List Value
  | _, [] => []
  | k, x :: l => (match sl k with | some j => u j | none => x) :: fillL sl u (k + 1) l
def fill (sl : Nat → Option Nat) (a : Act) (u : Nat → Value) : Act := { a with tmps := (fillL sl u 0 a.tmps.toList).toArray }
theorem fillL_at (sl : Nat → Option Nat) (u : Nat → Value) : ∀ (l : List Value) (k m : Nat), (fillL sl u k l)[m]? = (l[m]?).map fun x => (match sl (k + m) with | some j => u j | none => x)
  | [], k, m => by simp [fillL]
  | x :: l, k, 0 => by simp [fillL]
  | x :: l, k, m + 1 => by
    have := fillL_at sl u l (k + 1) m
    rw [show k + 1 + m = k + (m + 1) by omega] at this
    simpa [fillL] using this
theorem fillL_set (sl : Nat → Option Nat) (u : Nat → Value) (i d : Nat) (v : Value) (h1 : sl d = some i) (h2 : ∀ k, sl k = some i → k = d) (l : List Value) : (fillL sl u 0 l).set d v = fillL sl (upd u i v) 0 l := by
  apply List.ext_getElem?
  intro m
  rw [fillL_at, Nat.zero_add]
  by_cases e : d = m
  · subst e
    cases hl : l[d]? with
    | none =>
      have : (fillL sl u 0 l)[d]? = none := by rw [fillL_at, hl]; rfl
      rw [List.getElem?_set_self']
      simp [this]
    | some x =>
      have : (fillL sl u 0 l)[d]? = some (u i) := by rw [fillL_at, hl, Nat.zero_add, h1]; rfl
      rw [List.getElem?_set_self']
      simp [this, h1, upd]
  · rw [List.getElem?_set_ne e, fillL_at, Nat.zero_add]
    congr 1
    funext x
    cases hs : sl m with
    | none => rfl
    | some j =>
      have hj : j ≠ i := fun e2 => e (h2 m (by rw [hs, e2])).symm
      simp [upd, hj]
theorem fill_put {sl : Nat → Option Nat} {a : Act} {u : Nat → Value} {i d : Nat} {v : Value} (h1 : sl d = some i) (h2 : ∀ k, sl k = some i → k = d) : (fill sl a u).put (some d) v = fill sl a (upd u i v) := by
  unfold fill Act.put
  simp only [List.setIfInBounds_toArray, fillL_set sl u i d v h1 h2]
theorem fillL_none (sl : Nat → Option Nat) (u : Nat → Value) (i : Nat) (v : Value) (h : ∀ k, sl k ≠ some i) : ∀ (l : List Value) (k : Nat), fillL sl (upd u i v) k l = fillL sl u k l
  | [], _ => rfl
  | x :: l, k => by
    simp only [fillL, fillL_none sl u i v h l (k + 1)]
    congr 1
    cases hs : sl k with
    | none => rfl
    | some j =>
      have hj : j ≠ i := fun e => h k (by rw [hs, e])
      simp [upd, hj]
theorem fill_none {sl : Nat → Option Nat} {a : Act} {u : Nat → Value} {i : Nat} {v x : Value} (h : ∀ k, sl k ≠ some i) : (fill sl a u).put none x = fill sl a (upd u i v) := by
  unfold fill Act.put
  simp only [fillL_none sl u i v h]
theorem fill_in {sl : Nat → Option Nat} {a : Act} {u : Nat → Value} {k j : Nat} (hk : k < a.tmps.size) (h : sl k = some j) : (fill sl a u).eval (.tmp k) = u j := by
  have h1 : (fillL sl u 0 a.tmps.toList)[k]? = some (u j) := by
    rw [fillL_at, List.getElem?_eq_getElem (by simpa using hk), Nat.zero_add, h]
    rfl
  simp [fill, Act.eval, h1]
theorem fill_out {sl : Nat → Option Nat} {a : Act} {u : Nat → Value} {k : Nat} (h : sl k = none) : (fill sl a u).eval (.tmp k) = a.eval (.tmp k) := by
  have h1 : (fillL sl u 0 a.tmps.toList)[k]? = a.tmps[k]? := by
    rw [fillL_at, Nat.zero_add, h, Array.getElem?_toList]
    simp
  simp [fill, Act.eval, h1]
theorem fill_self {sl : Nat → Option Nat} {d : Nat → Nat} (hd : ∀ k j, sl k = some j → d j = k) (a : Act) : fill sl a (fun j => a.tmps.getD (d j) undef) = a := by
  have h : fillL sl (fun j => a.tmps.getD (d j) undef) 0 a.tmps.toList = a.tmps.toList := by
    apply List.ext_getElem?
    intro m
    rw [fillL_at, Nat.zero_add]
    cases hl : a.tmps.toList[m]? with
    | none => rfl
    | some x =>
      cases hs : sl m with
      | none => rfl
      | some j =>
        have e := hd m j hs
        have hl2 : a.tmps[m]? = some x := by rw [← Array.getElem?_toList]; exact hl
        simp [e, hl2]
  unfold fill
  rw [h]
theorem wp_fill {P : Program} {c : Code} {Q : Exit → Act → World → Prop} {a : Act} {w : World} (sl : Nat → Option Nat) (d : Nat → Nat) (hd : ∀ k j, sl k = some j → d j = k) (h : ∀ a0 u0, a0 = a → c.wp P Q (fill sl a0 u0) w) : c.wp P Q a w := by
  have h1 := h a (fun j => a.tmps.getD (d j) undef) rfl
  rw [fill_self hd a] at h1
  exact h1
/-- an operation of such a region, by what its run gives -/
theorem wpOp_val {P : Program} {ops : Array Oper} {Q : Exit → Act → World → Prop} {i : Nat} {o : Oper} {K : Act → World → Prop} {a : Act} {w : World} (ho : ops[i]? = some o) (hgd : o.guard = none) (v : Value) (w1 : World)
    (hrun : (execOp a.eval o).run P w = .ok (.value v) w1) (h : K (a.put o.dst v) w1) : wpOp P ops Q i K a w := by
  refine wpOp_step ho fun K' hK => ?_
  rw [if_pos (by simp [Region.wanted, hgd])]
  unfold Oper.wp
  rw [hrun]
  exact hK _ _ h
theorem wpOp_skip {P : Program} {ops : Array Oper} {Q : Exit → Act → World → Prop} {i : Nat} {o : Oper} {K : Act → World → Prop} {a : Act} {w : World} (ho : ops[i]? = some o) (hgd : o.guard = none) (w1 : World)
    (hrun : (execOp a.eval o).run P w = .ok .skip w1) (h : K (a.put o.dst undef) w1) : wpOp P ops Q i K a w := by
  refine wpOp_step ho fun K' hK => ?_
  rw [if_pos (by simp [Region.wanted, hgd])]
  unfold Oper.wp
  rw [hrun]
  exact hK _ _ h
end Go.Proofs.YtidjbgemnohbnaaDoor.Ck

/- Package code: shapes, what holds on the way. (Written by mk_c.py.) -/
namespace Go.Proofs.YtidjbgemnohbnaaDoor.Ck
open Go.RowKit

def shL (c : Cd) : List Shp := [shZ, ⟨0, 9223372036854775807, 0, 0, 0⟩, ⟨0, 0, 0, 0, 18446744073709551615⟩, ⟨0, 1, 0, 0, 0⟩, ⟨0, 31, 0, 0, 0⟩, ⟨0, 31, 0, 0, 0⟩, ⟨0, ((c.P.length : Int) - 1), 0, 0, 0⟩, ⟨0, ((c.P.length : Int) - 1), 0, 0, 0⟩, ⟨0, ((c.P.length : Int) - 1), 1, 64, 0⟩, ⟨0, ((c.P.length : Int) - 1), 1, 64, 0⟩, ⟨1, 4, 0, 0, 0⟩, ⟨1, 11, 0, 0, 0⟩, ⟨0, ((c.B.length : Int) - 1), 0, 0, 0⟩, ⟨0, ((c.B.length : Int) - 1), 0, 1, 0⟩, ⟨0, ((c.B.length : Int) - 1), 0, 1, 0⟩, ⟨0, (c.M - 1), 0, 0, 0⟩, ⟨0, (c.M - 1), 0, 0, 0⟩, ⟨0, ((c.C.length : Int) - 1), 0, 0, 0⟩, ⟨0, ((c.C.length : Int) - 1), 0, 0, 0⟩, ⟨0, (c.A - 1), 0, 0, 0⟩, ⟨0, (c.A - 1), 0, 0, 0⟩, ⟨0, (c.A - 1), 0, 0, 0⟩, ⟨0, ((c.F.length : Int) - 1), 0, 0, 0⟩, ⟨0, ((c.F.length : Int) - 1), 0, 0, 0⟩, ⟨0, 0, 0, 0, 0⟩, ⟨0, 0, 0, 0, 0⟩, ⟨0, 0, 0, 0, 0⟩]
def shT (c : Cd) (y : Nat) : Shp := (shL c).getD y shZ
/-- what stands for each number -/
def shF (c : Cd) (y : Int) : Option Shp := if 1 ≤ y ∧ y ≤ 26 then some (shT c y.toNat) else none
def sl1 (k : Nat) : Option Nat := if 12 ≤ k ∧ k ≤ 23 then some (k - 12) else if 3 ≤ k ∧ k ≤ 5 then some (k + 9) else none
def dl1 (i : Nat) : Nat := if i < 12 then 12 + i else if i < 15 then i - 9 else 999
theorem sl1_inj {k i : Nat} (h : sl1 k = some i) : dl1 i = k := by
  unfold sl1 at h
  unfold dl1
  split at h
  · have := Option.some.inj h
    rw [if_pos (by omega)]
    omega
  · split at h
    · have := Option.some.inj h
      rw [if_neg (by omega), if_pos (by omega)]
      omega
    · cases h
theorem sl1_no {i : Nat} (h : dl1 i = 999) : ∀ k, sl1 k ≠ some i := fun k hk => by
  have h2 := sl1_inj hk
  rw [h] at h2
  subst h2
  rw [show sl1 999 = none from rfl] at hk
  cases hk
def sl2 (k : Nat) : Option Nat := if 24 ≤ k ∧ k ≤ 33 then some (k - 24) else if 6 ≤ k ∧ k ≤ 8 then some (k + 4) else none
def dl2 (i : Nat) : Nat := if i < 10 then 24 + i else if i < 13 then i - 4 else 999
theorem sl2_inj {k i : Nat} (h : sl2 k = some i) : dl2 i = k := by
  unfold sl2 at h
  unfold dl2
  split at h
  · have := Option.some.inj h
    rw [if_pos (by omega)]
    omega
  · split at h
    · have := Option.some.inj h
      rw [if_neg (by omega), if_pos (by omega)]
      omega
    · cases h
theorem sl2_no {i : Nat} (h : dl2 i = 999) : ∀ k, sl2 k ≠ some i := fun k hk => by
  have h2 := sl2_inj hk
  rw [h] at h2
  subst h2
  rw [show sl2 999 = none from rfl] at hk
  cases hk
def sl4 (k : Nat) : Option Nat := ([none, none, some 84, none, none, none, none, none, none, none, none, none, none, none, none, none, none, none, none, none, none, none, none, none, none, none, none, none, none, none, none, none, none, none, none, none, none, some 0, some 1, some 2, some 4, some 6, some 7, some 9, some 10, some 12, some 13, some 15, some 16, some 18, some 19, some 21, some 22, some 23, some 25, some 26, some 27, some 29, some 30, some 31, some 32, some 34, some 35, some 36, some 37, some 39, some 40, some 42, some 43, some 44, some 46, some 47, some 48, some 50, some 51, some 53, some 54, some 56, some 57, some 59, some 60, some 62, some 63, some 65, some 66, some 68, some 69, some 71, some 72, some 74, some 75, some 77, some 79, some 81, some 83] : List (Option Nat)).getD k none
def dl4 (i : Nat) : Nat := ([37, 38, 39, 999, 40, 999, 41, 42, 999, 43, 44, 999, 45, 46, 999, 47, 48, 999, 49, 50, 999, 51, 52, 53, 999, 54, 55, 56, 999, 57, 58, 59, 60, 999, 61, 62, 63, 64, 999, 65, 66, 999, 67, 68, 69, 999, 70, 71, 72, 999, 73, 74, 999, 75, 76, 999, 77, 78, 999, 79, 80, 999, 81, 82, 999, 83, 84, 999, 85, 86, 999, 87, 88, 999, 89, 90, 999, 91, 999, 92, 999, 93, 999, 94, 2] : List Nat).getD i 999
theorem sl4_inj {k i : Nat} (h : sl4 k = some i) : dl4 i = k := by
  have h1 : ((List.range 95).all fun k => match sl4 k with | some i => dl4 i == k | none => true) = true := by decide +kernel
  rcases Nat.lt_or_ge k 95 with hk | hk
  · have h2 := List.all_eq_true.1 h1 k (List.mem_range.2 hk)
    rw [h] at h2
    simpa using h2
  · have h3 : sl4 k = none := by unfold sl4; rw [List.getD_eq_getElem?_getD, List.getElem?_eq_none (by simpa using hk)]; rfl
    rw [h3] at h
    cases h
theorem sl4_no {i : Nat} (h : dl4 i = 999) : ∀ k, sl4 k ≠ some i := fun k hk => by
  have h2 := sl4_inj hk
  rw [h] at h2
  subst h2
  rw [show sl4 999 = none from rfl] at hk
  cases hk

/-- three spans that are reckoned, and laid into three boxes -/
structure J3 (W0 : World) (vals : List (Option Value)) (q : Nat) (ys : Nat → Int) (L : Array Bool) (u : Nat → Value) (w : World) : Prop where
  bel : Below W0.heap.size W0 w
  val : ∀ j x, vals[j]? = some (some x) → L.getD j false = true → u j = x
  al : ∀ t, t < 3 → L.getD (q + t) false = true → ∃ b, u (q + t) = .pointer (some ⟨b, 0, none⟩) ∧ W0.heap.size ≤ b ∧ w.heap[b]? = some (.cells (if L.getD (q + 3 + t) false = true then #[.int .i64 0, .int .i64 (ys t)] else #[.int .i64 0, .int .i64 0]) 97 (0, 0))
  ne : ∀ t t' b, t < 3 → t' < 3 → t ≠ t' → L.getD (q + t) false = true → L.getD (q + t') false = true → u (q + t) = .pointer (some ⟨b, 0, none⟩) → u (q + t') ≠ .pointer (some ⟨b, 0, none⟩)
  cl : ∀ t, t < 3 → L.getD (q + 3 + t) false = true → L.getD (q + t) false = true
section
variable {W0 w w' : World} {vals : List (Option Value)} {q : Nat} {ys : Nat → Int} {L : Array Bool} {u : Nat → Value}
theorem J3.pure (h : J3 W0 vals q ys L u w) {i : Nat} {x : Value} (hx : vals[i]? = some (some x)) (hi : i < q) (hb : Below w.heap.size w w') : J3 W0 vals q ys (L.setIfInBounds i true) (upd u i x) w' := by
  refine ⟨bel_trans h.bel hb, fun j y hy hj => ?_, fun t ht hl => ?_, fun t t' b ht ht' hne h1 h2 h3 => ?_, fun t ht hl => ?_⟩
  · by_cases e : i = j
    · subst e
      rw [hx] at hy
      rw [upd_self]
      exact Option.some.inj (Option.some.inj hy)
    · rw [upd_ne _ _ (Ne.symm e)]
      exact h.val j y hy (by rw [L_ne e] at hj; exact hj)
  · rw [L_ne (by omega)] at hl
    obtain ⟨b, h1, h2, h3⟩ := h.al t ht hl
    exact ⟨b, by rw [upd_ne _ _ (by omega)]; exact h1, h2, by rw [L_ne (by omega)]; exact (hb.block b (lt_of_blk h3)).trans h3⟩
  · rw [L_ne (by omega)] at h1 h2
    rw [upd_ne _ _ (by omega)] at h3 ⊢
    exact h.ne t t' b ht ht' hne h1 h2 h3
  · rw [L_ne (by omega)] at hl ⊢
    exact h.cl t ht hl
theorem J3.alloc (h : J3 W0 vals q ys L u w) {t : Nat} (ht : t < 3) (h0 : L.getD (q + t) true = false) (hv : vals.length ≤ q) : J3 W0 vals q ys (L.setIfInBounds (q + t) true) (upd u (q + t) (.pointer (some ⟨w.heap.size, 0, none⟩))) (w.alloc (.cells #[.int .i64 0, .int .i64 0] 97)) := by
  have hb := bel_new w (.cells #[.int .i64 0, .int .i64 0] 97)
  have hf : L.getD (q + t) false = false := getD_of (of_getD h0)
  refine ⟨bel_trans h.bel hb, fun j y hy hj => ?_, fun s hs hl => ?_, fun s s' b hs hs' hne h1 h2 h3 => ?_, fun s hs hl => ?_⟩
  · have e : q + t ≠ j := fun e => by rw [← e, List.getElem?_eq_none (by omega)] at hy; cases hy
    rw [upd_ne _ _ (Ne.symm e)]
    exact h.val j y hy (by rw [L_ne e] at hj; exact hj)
  · by_cases e : t = s
    · subst e
      refine ⟨w.heap.size, upd_self _ _ _, h.bel.size, ?_⟩
      have hc : L.getD (q + 3 + t) false = false := by
        cases hq : L.getD (q + 3 + t) false with
        | false => rfl
        | true => rw [h.cl t ht hq] at hf; cases hf
      rw [L_ne (by omega), hc]
      exact Go.Deep.blk_alloc_new _ _
    · rw [L_ne (by omega)] at hl
      obtain ⟨b, h1, h2, h3⟩ := h.al s hs hl
      exact ⟨b, by rw [upd_ne _ _ (by omega)]; exact h1, h2, by rw [L_ne (by omega)]; exact (hb.block b (lt_of_blk h3)).trans h3⟩
  · by_cases e : t = s
    · subst e
      rw [upd_self] at h3
      rw [upd_ne _ _ (by omega)]
      rw [L_ne (by omega)] at h2
      obtain ⟨b', g1, _, g3⟩ := h.al s' hs' h2
      intro e2
      rw [g1] at e2
      cases h3
      cases e2
      have := lt_of_blk g3
      omega
    · by_cases e' : t = s'
      · subst e'
        rw [upd_self]
        rw [upd_ne _ _ (by omega)] at h3
        rw [L_ne (by omega)] at h1
        obtain ⟨b', g1, _, g3⟩ := h.al s hs h1
        intro e2
        cases e2
        rw [g1] at h3
        cases h3
        have := lt_of_blk g3
        omega
      · rw [L_ne (by omega)] at h1 h2
        rw [upd_ne _ _ (by omega)] at h3 ⊢
        exact h.ne s s' b hs hs' hne h1 h2 h3
  · rw [L_ne (by omega)] at hl
    have := h.cl s hs hl
    by_cases e : t = s
    · subst e
      exact L_self h0
    · rw [L_ne (by omega)]
      exact this
theorem J3.store (h : J3 W0 vals q ys L u w) {t b : Nat} (ht : t < 3) (h0 : L.getD (q + 3 + t) true = false) (hv : vals.length ≤ q) (hl0 : L.getD (q + t) false = true) (hu : u (q + t) = .pointer (some ⟨b, 0, none⟩)) (v : Value) :
    J3 W0 vals q ys (L.setIfInBounds (q + 3 + t) true) (upd u (q + 3 + t) v) ((w.setCell ⟨b, 0, none⟩ (.int .i64 0)).setCell ⟨b, 1, none⟩ (.int .i64 (ys t))) := by
  obtain ⟨b', g1, g2, g3⟩ := h.al t ht hl0
  rw [hu] at g1
  cases g1
  have hf : L.getD (q + 3 + t) false = false := getD_of (of_getD h0)
  rw [hf] at g3
  have k3 : w.heap[b]? = some (.cells #[.int .i64 0, .int .i64 0] 97 (0, 0)) := g3
  have k1 := heap_setCell_same w b 0 _ _ (.int .i64 0) k3
  have k2 := heap_setCell_same _ b 1 _ _ (.int .i64 (ys t)) k1
  have hoth : ∀ k, k ≠ b → ((w.setCell ⟨b, 0, none⟩ (.int .i64 0)).setCell ⟨b, 1, none⟩ (.int .i64 (ys t))).heap[k]? = w.heap[k]? := fun k hk => (Below.heap_setCell _ _ _ _ hk).trans (Below.heap_setCell _ _ _ _ hk)
  refine ⟨(h.bel.setCell (p := ⟨b, 0, none⟩) g2 _).setCell (p := ⟨b, 1, none⟩) g2 _, fun j y hy hj => ?_, fun s hs hl => ?_, fun s s' b hs hs' hne h1 h2 h3 => ?_, fun s hs hl => ?_⟩
  · have e : q + 3 + t ≠ j := fun e => by rw [← e, List.getElem?_eq_none (by omega)] at hy; cases hy
    rw [upd_ne _ _ (Ne.symm e)]
    exact h.val j y hy (by rw [L_ne e] at hj; exact hj)
  · rw [L_ne (by omega)] at hl
    obtain ⟨b', h1, h2, h3⟩ := h.al s hs hl
    refine ⟨b', by rw [upd_ne _ _ (by omega)]; exact h1, h2, ?_⟩
    by_cases e : t = s
    · subst e
      rw [hu] at h1
      cases h1
      rw [L_self h0]
      exact k2
    · rw [L_ne (by omega), hoth b' (fun e2 => by subst e2; exact h.ne t s b' ht hs e hl0 hl hu h1)]
      exact h3
  · rw [L_ne (by omega)] at h1 h2
    rw [upd_ne _ _ (by omega)] at h3 ⊢
    exact h.ne s s' b hs hs' hne h1 h2 h3
  · rw [L_ne (by omega)]
    by_cases e : t = s
    · subst e
      exact hl0
    · rw [L_ne (by omega)] at hl
      exact h.cl s hs hl
theorem J3.start (W : World) (n : Nat) (u : Nat → Value) : J3 W vals q ys (Array.replicate n false) u W := by
  have hf : ∀ j, (Array.replicate n false).getD j false = false := fun j => by
    simp only [Array.getD_eq_getD_getElem?, Array.getElem?_replicate]
    split <;> rfl
  exact ⟨Below.refl _ _, fun j x _ hj => (by rw [hf] at hj; cases hj), fun t _ hl => (by rw [hf] at hl; cases hl), fun t t' b _ _ _ h1 => (by rw [hf] at h1; cases h1), fun t _ hl => (by rw [hf] at hl; cases hl)⟩
end
def insI (y : Nat) : Nat := ([999, 3, 5, 8, 11, 14, 17, 20, 24, 28, 33, 38, 41, 45, 49, 52, 55, 58, 61, 64, 67, 70, 73, 76, 78, 80, 82] : List Nat).getD y 999
/-- the entries that have come up -/
def fL (c : Cd) (L : Array Bool) (y : Int) : Option Shp := if (1 ≤ y ∧ y ≤ 26) ∧ L.getD (insI y.toNat) false = true then some (shT c y.toNat) else none
def vals4 (c : Cd) : List (Option Value) := [none, some (.agg #[.int .i64 0, .int .i64 9223372036854775807]), some (shV (shT c 1)), none, some (shV (shT c 2)), none, some (.agg #[.int .i64 0, .int .i64 1]), some (shV (shT c 3)), none, some (.agg #[.int .i64 0, .int .i64 31]), some (shV (shT c 4)), none, some (.agg #[.int .i64 0, .int .i64 31]), some (shV (shT c 5)), none, some (.agg #[.int .i64 0, .int .i64 ((c.P.length : Int) - 1)]), some (shV (shT c 6)), none, some (.agg #[.int .i64 0, .int .i64 ((c.P.length : Int) - 1)]), some (shV (shT c 7)), none, some (.agg #[.int .i64 0, .int .i64 ((c.P.length : Int) - 1)]), some (.agg #[.int .i64 1, .int .i64 64]), some (shV (shT c 8)), none, some (.agg #[.int .i64 0, .int .i64 ((c.P.length : Int) - 1)]), some (.agg #[.int .i64 1, .int .i64 64]), some (shV (shT c 9)), none, none, some (.int .i64 4), some (.agg #[.int .i64 1, .int .i64 4]), some (shV (shT c 10)), none, none, some (.int .i64 11), some (.agg #[.int .i64 1, .int .i64 11]), some (shV (shT c 11)), none, some (.agg #[.int .i64 0, .int .i64 ((c.B.length : Int) - 1)]), some (shV (shT c 12)), none, some (.agg #[.int .i64 0, .int .i64 ((c.B.length : Int) - 1)]), some (.agg #[.int .i64 0, .int .i64 1]), some (shV (shT c 13)), none, some (.agg #[.int .i64 0, .int .i64 ((c.B.length : Int) - 1)]), some (.agg #[.int .i64 0, .int .i64 1]), some (shV (shT c 14)), none, some (.agg #[.int .i64 0, .int .i64 (c.M - 1)]), some (shV (shT c 15)), none, some (.agg #[.int .i64 0, .int .i64 (c.M - 1)]), some (shV (shT c 16)), none, some (.agg #[.int .i64 0, .int .i64 ((c.C.length : Int) - 1)]), some (shV (shT c 17)), none, some (.agg #[.int .i64 0, .int .i64 ((c.C.length : Int) - 1)]), some (shV (shT c 18)), none, some (.agg #[.int .i64 0, .int .i64 (c.A - 1)]), some (shV (shT c 19)), none, some (.agg #[.int .i64 0, .int .i64 (c.A - 1)]), some (shV (shT c 20)), none, some (.agg #[.int .i64 0, .int .i64 (c.A - 1)]), some (shV (shT c 21)), none, some (.agg #[.int .i64 0, .int .i64 ((c.F.length : Int) - 1)]), some (shV (shT c 22)), none, some (.agg #[.int .i64 0, .int .i64 ((c.F.length : Int) - 1)]), some (shV (shT c 23)), none, some (shV (shT c 24)), none, some (shV (shT c 25)), none, some (shV (shT c 26)), none, none, none]
structure J4 (W0 : World) (c : Cd) (L : Array Bool) (u : Nat → Value) (w : World) : Prop where
  bel : Below W0.heap.size W0 w
  val : ∀ j x, (vals4 c)[j]? = some (some x) → L.getD j false = true → u j = x
  c1 : L.getD 29 false = true → ∃ g, u 29 = .slice (some ⟨g, 0, none⟩) 4 4
  c2 : L.getD 34 false = true → ∃ g, u 34 = .slice (some ⟨g, 0, none⟩) 11 11
  mv : L.getD 83 false = true → u 83 = u 0
  ma : L.getD 84 false = true → u 84 = u 0
  m0 : L.getD 83 false = true → L.getD 0 false = true
  m1 : L.getD 84 false = true → L.getD 0 false = true
  ci : ∀ y, y < 27 → L.getD (insI y) false = true → L.getD 0 false = true
  mp : L.getD 0 false = true → ∃ b n, u 0 = .map (some b) ∧ W0.heap.size ≤ b ∧ n + cnt L.toList ≤ 85 ∧ ShM w b n (fL c L)
section
variable {W0 w w' : World} {c : Cd} {L : Array Bool} {u : Nat → Value}
theorem insI_ne {i : Nat} (hi : (List.range 27).all (fun y => insI y != i) = true) {y : Int} (h : 1 ≤ y ∧ y ≤ 26) : insI y.toNat ≠ i := by
  have := List.all_eq_true.1 hi y.toNat (List.mem_range.2 (by omega))
  simpa using this
theorem fL_ne {i : Nat} (hi : (List.range 27).all (fun y => insI y != i) = true) : fL c (L.setIfInBounds i true) = fL c L := by
  funext y
  unfold fL
  by_cases h : 1 ≤ y ∧ y ≤ 26
  · rw [L_ne (Ne.symm (insI_ne hi h))]
  · rw [if_neg (fun h2 => h h2.1), if_neg (fun h2 => h h2.1)]
theorem insI_inj : ∀ a b, a < 27 → b < 27 → 1 ≤ a → 1 ≤ b → insI a = insI b → a = b := by
  have h : ((List.range 27).all fun a => (List.range 27).all fun b => a == 0 || b == 0 || insI a != insI b || a == b) = true := by decide +kernel
  intro a b ha hb h1 h2 he
  have h3 := List.all_eq_true.1 (List.all_eq_true.1 h a (List.mem_range.2 ha)) b (List.mem_range.2 hb)
  simp at h3
  rcases h3 with ((h3 | h3) | h3) | h3
  · omega
  · omega
  · exact absurd he h3
  · exact h3
theorem fL_at {k : Nat} (h1 : 1 ≤ k) (h2 : k ≤ 26) (h0 : L.getD (insI k) true = false) : fL c (L.setIfInBounds (insI k) true) = fun y => if y = (k : Int) then some (shT c k) else fL c L y := by
  funext y
  unfold fL
  by_cases e : y = (k : Int)
  · subst e
    rw [if_pos rfl, if_pos ⟨by omega, by rw [Int.toNat_natCast]; exact L_self h0⟩, Int.toNat_natCast]
  · rw [if_neg e]
    by_cases h : 1 ≤ y ∧ y ≤ 26
    · rw [L_ne (fun e2 => e (by have := insI_inj _ _ (by omega) (by omega) h1 (by omega) e2; omega))]
    · rw [if_neg (fun h2 => h h2.1), if_neg (fun h2 => h h2.1)]
theorem cnt_L {i : Nat} (h0 : L.getD i true = false) : cnt (L.setIfInBounds i true).toList + 1 = cnt L.toList := by
  rw [Array.toList_setIfInBounds]
  exact cnt_set _ _ (of_getD h0)
/-- an operation that is no insert -/
theorem J4.step (h : J4 W0 c L u w) {i : Nat} {x : Value} (h0 : L.getD i true = false) (hx : ∀ y, (vals4 c)[i]? = some (some y) → x = y) (hi : (List.range 27).all (fun y => insI y != i) = true) (hi0 : i ≠ 0) (hb : Below w.heap.size w w')
    (k1 : i = 29 → ∃ g, x = .slice (some ⟨g, 0, none⟩) 4 4) (k2 : i = 34 → ∃ g, x = .slice (some ⟨g, 0, none⟩) 11 11) (k3 : i = 83 → x = u 0 ∧ L.getD 0 false = true) (k4 : i = 84 → x = u 0 ∧ L.getD 0 false = true) : J4 W0 c (L.setIfInBounds i true) (upd u i x) w' := by
  refine ⟨bel_trans h.bel hb, fun j y hy hj => ?_, fun hl => ?_, fun hl => ?_, fun hl => ?_, fun hl => ?_, fun hl => ?_, fun hl => ?_, fun y hy hl => ?_, fun hl => ?_⟩
  · by_cases e : i = j
    · subst e
      rw [upd_self]
      exact hx y hy
    · rw [upd_ne _ _ (Ne.symm e)]
      exact h.val j y hy (by rw [L_ne e] at hj; exact hj)
  · by_cases e : i = 29
    · rw [e, upd_self]; exact k1 e
    · rw [upd_ne _ _ (Ne.symm e)]; exact h.c1 (by rw [L_ne e] at hl; exact hl)
  · by_cases e : i = 34
    · rw [e, upd_self]; exact k2 e
    · rw [upd_ne _ _ (Ne.symm e)]; exact h.c2 (by rw [L_ne e] at hl; exact hl)
  · rw [upd_ne u _ (Ne.symm hi0)]
    by_cases e : i = 83
    · rw [e, upd_self]; exact (k3 e).1
    · rw [upd_ne _ _ (Ne.symm e)]; exact h.mv (by rw [L_ne e] at hl; exact hl)
  · rw [upd_ne u _ (Ne.symm hi0)]
    by_cases e : i = 84
    · rw [e, upd_self]; exact (k4 e).1
    · rw [upd_ne _ _ (Ne.symm e)]; exact h.ma (by rw [L_ne e] at hl; exact hl)
  · rw [L_ne hi0]
    by_cases e : i = 83
    · exact (k3 e).2
    · exact h.m0 (by rw [L_ne e] at hl; exact hl)
  · rw [L_ne hi0]
    by_cases e : i = 84
    · exact (k4 e).2
    · exact h.m1 (by rw [L_ne e] at hl; exact hl)
  · rw [L_ne hi0]
    refine h.ci y hy ?_
    rw [L_ne (fun e => by have := List.all_eq_true.1 hi y (List.mem_range.2 hy); simp at this; exact this e.symm)] at hl
    exact hl
  · rw [L_ne hi0] at hl
    obtain ⟨b, n, g1, g2, g3, g4⟩ := h.mp hl
    have := cnt_L h0
    exact ⟨b, n, by rw [upd_ne _ _ (Ne.symm hi0)]; exact g1, g2, by omega, by rw [fL_ne hi]; exact g4.bel hb⟩
theorem cnt_le : ∀ l : List Bool, cnt l ≤ l.length
  | [] => Nat.le_refl _
  | true :: l => by have := cnt_le l; simp only [cnt, List.length_cons]; omega
  | false :: l => by have := cnt_le l; simp only [cnt, List.length_cons]; omega
theorem J4.make (h : J4 W0 c L u w) (h0 : L.getD 0 true = false) (hs : L.size = 85) : J4 W0 c (L.setIfInBounds 0 true) (upd u 0 (.map (some w.heap.size))) (w.alloc (.map #[] 0)) := by
  have hf : L.getD 0 false = false := getD_of (of_getD h0)
  have hb := bel_new w (.map #[] 0)
  refine ⟨bel_trans h.bel hb, fun j y hy hj => ?_, fun hl => ?_, fun hl => ?_, fun hl => ?_, fun hl => ?_, fun hl => L_self h0, fun hl => L_self h0, fun _ _ _ => L_self h0, fun hl => ?_⟩
  · have e : 0 ≠ j := fun e => by subst e; cases hy
    rw [upd_ne _ _ (Ne.symm e)]
    exact h.val j y hy (by rw [L_ne e] at hj; exact hj)
  · rw [upd_ne _ _ (by decide)]; exact h.c1 (by rw [L_ne (by decide)] at hl; exact hl)
  · rw [upd_ne _ _ (by decide)]; exact h.c2 (by rw [L_ne (by decide)] at hl; exact hl)
  · rw [L_ne (by decide)] at hl
    rw [h.m0 hl] at hf
    cases hf
  · rw [L_ne (by decide)] at hl
    rw [h.m1 hl] at hf
    cases hf
  · have h1 : fL c (L.setIfInBounds 0 true) = fun _ => none := by
      rw [fL_ne (by decide +kernel)]
      funext y
      unfold fL
      refine if_neg (fun h2 => ?_)
      rw [h.ci y.toNat (by omega) h2.2] at hf
      cases hf
    refine ⟨w.heap.size, 0, upd_self _ _ _, h.bel.size, ?_, by rw [h1]; exact ShM.made w⟩
    have h2 := cnt_L h0
    have h3 := cnt_le L.toList
    rw [Array.length_toList, hs] at h3
    omega
theorem J4.ins (h : J4 W0 c L u w) {k : Nat} (h1 : 1 ≤ k) (h2 : k ≤ 26) (h0 : L.getD (insI k) true = false) (hm : L.getD 0 false = true) (hne : insI k ≠ 0 ∧ insI k ≠ 29 ∧ insI k ≠ 34 ∧ insI k ≠ 83 ∧ insI k ≠ 84) (hv : (vals4 c)[insI k]? = some none) (v : Value) :
    ∃ b w', u 0 = .map (some b) ∧ (Instr.mapUpdate 100 (.map (some b)) (.int .i64 (k : Nat)) (shV (shT c k))).run Tryd.prog w = .ok () w' ∧ J4 W0 c (L.setIfInBounds (insI k) true) (upd u (insI k) v) w' := by
  obtain ⟨n0, n1, n2, n3, n4⟩ := hne
  obtain ⟨b, n, g1, g2, g3, g4⟩ := h.mp hm
  have hc := cnt_L h0
  obtain ⟨w', r, g5, g6⟩ := g4.add (by unfold maxLen; omega) (k : Nat) (wf_int (by omega) (by omega)) (shT c k)
  refine ⟨b, w', g1, r, (h.bel.grown g6 h.bel.size (fun q hq => by cases hq; exact g2)), fun j y hy hj => ?_, fun hl => ?_, fun hl => ?_, fun hl => ?_, fun hl => ?_, fun hl => ?_, fun hl => ?_, fun y hy hl => ?_, fun hl => ?_⟩
  · have e : insI k ≠ j := fun e => by rw [← e, hv] at hy; cases hy
    rw [upd_ne _ _ (Ne.symm e)]
    exact h.val j y hy (by rw [L_ne e] at hj; exact hj)
  · rw [upd_ne _ _ (Ne.symm n1)]; exact h.c1 (by rw [L_ne n1] at hl; exact hl)
  · rw [upd_ne _ _ (Ne.symm n2)]; exact h.c2 (by rw [L_ne n2] at hl; exact hl)
  · rw [upd_ne u _ (Ne.symm n0), upd_ne _ _ (Ne.symm n3)]; exact h.mv (by rw [L_ne n3] at hl; exact hl)
  · rw [upd_ne u _ (Ne.symm n0), upd_ne _ _ (Ne.symm n4)]; exact h.ma (by rw [L_ne n4] at hl; exact hl)
  · rw [L_ne n0]; exact hm
  · rw [L_ne n0]; exact hm
  · rw [L_ne n0]; exact hm
  · exact ⟨b, n + 1, by rw [upd_ne _ _ (Ne.symm n0)]; exact g1, g2, by omega, by rw [fL_at h1 h2 h0]; exact g5⟩
theorem insI_lt (k : Nat) (h : k < 27) (h1 : 1 ≤ k) : insI k < 85 := by
  have h2 : ((List.range 27).all fun k => k == 0 || decide (insI k < 85)) = true := by decide +kernel
  have h3 := List.all_eq_true.1 h2 k (List.mem_range.2 h)
  simp at h3
  rcases h3 with h3 | h3
  · omega
  · exact h3
theorem J4.start (W : World) (u : Nat → Value) : J4 W c (Array.replicate 85 false) u W := by
  have hf : ∀ j, (Array.replicate 85 false).getD j false = false := fun j => by
    simp only [Array.getD_eq_getD_getElem?, Array.getElem?_replicate]
    split <;> rfl
  exact ⟨Below.refl _ _, fun j x _ hj => (by rw [hf] at hj; cases hj), fun hl => (by rw [hf] at hl; cases hl), fun hl => (by rw [hf] at hl; cases hl), fun hl => (by rw [hf] at hl; cases hl), fun hl => (by rw [hf] at hl; cases hl), fun hl => (by rw [hf] at hl; cases hl), fun hl => (by rw [hf] at hl; cases hl), fun y _ hl => (by rw [hf] at hl; cases hl), fun hl => (by rw [hf] at hl; cases hl)⟩
end
end Go.Proofs.YtidjbgemnohbnaaDoor.Ck

/- Package code: types, and a code's sizes. -/
namespace Go.Proofs.YtidjbgemnohbnaaDoor.Ck
open Go.RowKit

theorem typ_eq (t : Int) : (t == 1 || t == 2 || t == 3) = typB t := by
  unfold typB
  by_cases h1 : t = 1
  · subst h1; rfl
  by_cases h2 : t = 2
  · subst h2; rfl
  by_cases h3 : t = 3
  · subst h3; rfl
  have e1 : (t == 1) = false := beq_false_of_ne h1
  have e2 : (t == 2) = false := beq_false_of_ne h2
  have e3 : (t == 3) = false := beq_false_of_ne h3
  rw [e1, e2, e3, ← Bool.decide_and, decide_eq_false (by omega)]
  rfl
set_option maxRecDepth 20000 in
set_option maxHeartbeats 1000000 in
theorem types_any {w : World} {p : List Addr} {v : Value} {l : List Int} (hc : Ec w p) (h : Sl w v l) : Calls Tryd.prog 36 #[v] w (Gt p w (l.all typB) (.tuple #[])) := by
  obtain ⟨_, a, c, rfl, hca, hcm, hac⟩ := h
  unfold maxLen at hcm
  obtain ⟨n, hn⟩ : ∃ n, n = l.length := ⟨_, rfl⟩
  have hs : Hid ((∀ j, j < n → typB (l.getD j 0) = true) → l.all typB = true) := fun h => all_yes (fun j hj => h j (by omega))
  have hs2 : Hid (∀ k, k < n → typB (l.getD k 0) = false → l.all typB = false) := fun k hk => all_not k (by omega)
  have hac' : ∀ i, i < n → _ := fun i hi => hac i (by omega)
  rw [← hn] at hca ⊢
  have HC := hide hc
  clear hn hac hc
  generalize l.all typB = r at *
  go_enter Tryd.func36, Tryd.ntmps36
  go_wp2_with fail
  go_loopw [3, 6] (fun u i wr => ∃ k : Nat, k ≤ n ∧ i = .int .i64 k ∧ Hid (∀ j, j < k → typB (l.getD j 0) = true) ∧ Hid (w = wr)) (fun u i _ => n - (intOf i).toNat)
  case atStart => exact ⟨0, Nat.zero_le _, rfl, fun j hj => absurd hj (Nat.not_lt_zero _), rfl⟩
  case round =>
    obtain ⟨k, hk, rfl, hall, hw⟩ := hrel
    obtain rfl := hw.out
    clear hw
    by_cases hlt : k < n
    · obtain ⟨b1, o1, rfl, hb1, hc1⟩ := hac' k hlt
      have h1 : (k : Int) < (n : Int) := by omega
      have hne := hide (hs2.out k hlt)
      have hstep : Hid (typB (l.getD k 0) = true → ∀ j, j < k + 1 → typB (l.getD j 0) = true) := fun e j hj => by
        by_cases ej : j = k
        · rw [ej]; exact e
        · exact hall.out j (by omega)
      clear hac' hs hs2 hall
      generalize l.getD k 0 = y at *
      by_cases y1 : y = 1
      · subst y1
        go_wp2_with fail
        refine (must_yes _).mono ?_
        rintro e w2 ⟨rfl, rfl⟩
        go_wp2_with fail
        go_roundw
        case rel => exact ⟨k + 1, by omega, by go_num, hstep.out rfl, trivial⟩
        case measure => simp [intOf]; omega
      by_cases y2 : y = 2
      · subst y2
        go_wp2_with fail
        refine (must_yes _).mono ?_
        rintro e w2 ⟨rfl, rfl⟩
        go_wp2_with fail
        go_roundw
        case rel => exact ⟨k + 1, by omega, by go_num, hstep.out rfl, trivial⟩
        case measure => simp [intOf]; omega
      by_cases y3 : y = 3
      · subst y3
        go_wp2_with fail
        refine (must_yes _).mono ?_
        rintro e w2 ⟨rfl, rfl⟩
        go_wp2_with fail
        go_roundw
        case rel => exact ⟨k + 1, by omega, by go_num, hstep.out rfl, trivial⟩
        case measure => simp [intOf]; omega
      have e1 : (y == 1) = false := by simp [y1]
      have e2 : (y == 2) = false := by simp [y2]
      have e3 : (y == 3) = false := by simp [y3]
      have hr := hide (hne.out (by rw [← typ_eq, e1, e2, e3]; rfl))
      clear y1 y2 y3
      go_wp2_with fail
      refine (must_no HC.out).mono ?_
      rintro e w2 ⟨rfl, rfl⟩
      exact ⟨rfl, Gt.no hr.out (Below.refl _ _)⟩
    · obtain rfl : k = n := by omega
      have hr := hide (hs.out hall.out)
      clear hac' hs hs2
      go_wp2_with fail
      go_end0
      exact Gt.yes hr.out (Below.refl _ _)
/-- a code's sizes -/
def sizesB (c : Cd) : Bool := decide (c.P.length ≤ 128) && (decide (0 ≤ c.M) && decide (c.M ≤ 32)) && (decide (0 ≤ c.A) && decide (c.A ≤ 32)) && decide (c.M + c.A + c.C.length ≤ 32) && decide (c.F.length ≤ 16) && decide (c.B.length ≤ 8192)
abbrev codeA (vP vC vF vB : Value) (c : Cd) : Value := .agg #[vP, .int .i64 c.M, .int .i64 c.A, vC, vF, .int .i64 c.mn, vB]
abbrev codeO (vP vC vF vB : Value) (c : Cd) : Obj := .cells #[vP, .int .i64 c.M, .int .i64 c.A, vC, vF, .int .i64 c.mn, vB] 27
set_option maxRecDepth 20000 in
set_option maxHeartbeats 1000000 in
theorem sizes_any {w : World} {p : List Addr} {vP vC vF vB : Value} {c : Cd} (hc : Ec w p) (h : Cv w vP vC vF vB c) : Calls Tryd.prog 35 #[codeA vP vC vF vB c] w (Gt p w (sizesB c) (.tuple #[])) := by
  have C0 := hide (hc.bel (bel_new w (codeO vP vC vF vB c)))
  have B0 := hide (bel_new w (codeO vP vC vF vB c))
  obtain ⟨aP, cP, rfl, _, hmP⟩ := h.P.form
  obtain ⟨aC, cC, rfl, _, hmC⟩ := h.C.form
  obtain ⟨aF, cF, rfl, _, hmF⟩ := h.F.form
  obtain ⟨aB, cB, rfl, _, hmB⟩ := h.B.form
  have h1 := h.L.C
  clear hc h hmP hmF hmB hmC
  obtain ⟨r, hr⟩ : ∃ r, sizesB c = r := ⟨_, rfl⟩
  rw [hr]
  unfold sizesB at hr
  generalize c.P.length = nP at *
  generalize c.C.length = nC at *
  generalize c.F.length = nF at *
  generalize c.B.length = nB at *
  unfold codeA codeO at *
  generalize c.M = M at *
  generalize c.A = A at *
  have HR := hide hr
  clear hr
  go_enter Tryd.func35, Tryd.ntmps35
  go_wp2_with fail
  refine (must_any C0.out _).mono ?_
  rintro e w2 ⟨⟨hq1, rfl⟩ | ⟨hq1, rfl⟩, rfl⟩
  case inr =>
    exact ⟨rfl, Gt.no (by rw [← HR.out]; simp at hq1; simp; omega) B0.out⟩
  have hq1 := hide hq1
  by_cases hp2 : 0 ≤ M
  case neg =>
    go_wp2_with fail
    refine (must_no C0.out).mono ?_
    rintro e w2 ⟨rfl, rfl⟩
    exact ⟨rfl, Gt.no (by rw [← HR.out]; simp; omega) B0.out⟩
  go_wp2_with fail
  refine (must_any C0.out _).mono ?_
  rintro e w2 ⟨⟨hq2, rfl⟩ | ⟨hq2, rfl⟩, rfl⟩
  case inr =>
    exact ⟨rfl, Gt.no (by rw [← HR.out]; simp at hq2; simp; omega) B0.out⟩
  have hq2 := hide hq2
  by_cases hp3 : 0 ≤ A
  case neg =>
    go_wp2_with fail
    refine (must_no C0.out).mono ?_
    rintro e w2 ⟨rfl, rfl⟩
    exact ⟨rfl, Gt.no (by rw [← HR.out]; simp; omega) B0.out⟩
  go_wp2_with fail
  refine (must_any C0.out _).mono ?_
  rintro e w2 ⟨⟨hq3, rfl⟩ | ⟨hq3, rfl⟩, rfl⟩
  case inr =>
    exact ⟨rfl, Gt.no (by rw [← HR.out]; simp at hq3; simp; omega) B0.out⟩
  have hq3 := hide hq3
  have g2 := hq2.out
  have g3 := hq3.out
  simp at g2 g3
  have e4 : wrap64 (M + A) = M + A := by unfold wrap64; omega
  have e5 : wrap64 (M + A + (nC : Int)) = M + A + (nC : Int) := by unfold wrap64; omega
  clear g2 g3
  go_wp2_with fail
  refine (must_any C0.out _).mono ?_
  rintro e w2 ⟨⟨hq4, rfl⟩ | ⟨hq4, rfl⟩, rfl⟩
  case inr =>
    exact ⟨rfl, Gt.no (by rw [← HR.out]; simp at hq4; simp; omega) B0.out⟩
  have hq4 := hide hq4
  go_wp2_with fail
  refine (must_any C0.out _).mono ?_
  rintro e w2 ⟨⟨hq5, rfl⟩ | ⟨hq5, rfl⟩, rfl⟩
  case inr =>
    exact ⟨rfl, Gt.no (by rw [← HR.out]; simp at hq5; simp; omega) B0.out⟩
  have hq5 := hide hq5
  go_wp2_with fail
  refine (must_any C0.out _).mono ?_
  rintro e w2 ⟨⟨hq6, rfl⟩ | ⟨hq6, rfl⟩, rfl⟩
  case inr =>
    exact ⟨rfl, Gt.no (by rw [← HR.out]; simp at hq6; simp; omega) B0.out⟩
  have hq6 := hide hq6
  go_wp2_with fail
  go_end0
  exact Gt.yes (by rw [← HR.out]; have g1 := hq1.out; have g2 := hq2.out; have g3 := hq3.out; have g4 := hq4.out; have g5 := hq5.out; have g6 := hq6.out; simp at g1 g2 g3 g4 g5 g6; simp; omega) B0.out
end Go.Proofs.YtidjbgemnohbnaaDoor.Ck

/- Package code: a function, a row of places. (Written by mk_c.py.) -/
namespace Go.Proofs.YtidjbgemnohbnaaDoor.Ck
open Go.RowKit

/-- a function's numbers and types -/
def entB (f : Fn3) : Bool := (decide (0 ≤ f.pa) && decide (f.pa ≤ 4)) && ((decide (f.pa ≤ (f.lo.length : Int)) && decide (f.lo.length ≤ 32)) && f.lo.all typB)
set_option maxRecDepth 20000 in
set_option maxHeartbeats 1000000 in
theorem entry_any {w : World} {p : List Addr} {vl : Value} (f : Fn3) (hc : Ec w p) (h : Sl w vl f.lo) : Calls Tryd.prog 48 #[.agg #[.int .i64 f.st, .int .i64 f.pa, vl]] w (Gt p w (entB f) (.tuple #[])) := by
  have C0 := hide (hc.bel (bel_new w (.cells #[.int .i64 f.st, .int .i64 f.pa, vl] 46)))
  have B0 := hide (bel_new w (.cells #[.int .i64 f.st, .int .i64 f.pa, vl] 46))
  have T0 := hide (types_any C0.out (h.bel B0.out))
  obtain ⟨a, cp, rfl, _, _⟩ := h.form
  obtain ⟨r, hr⟩ : ∃ r, entB f = r := ⟨_, rfl⟩
  rw [hr]
  unfold entB at hr
  have HR := hide hr
  clear hr hc h
  generalize f.lo.all typB = ty at *
  generalize f.lo.length = n at *
  generalize f.pa = pa at *
  generalize f.st = st at *
  go_enter Tryd.func48, Tryd.ntmps48
  by_cases hp1 : 0 ≤ pa
  case neg =>
    go_wp2_with fail
    refine (must_no C0.out).mono ?_
    rintro e w2 ⟨rfl, rfl⟩
    exact ⟨rfl, Gt.no (by rw [← HR.out]; simp; omega) B0.out⟩
  go_wp2_with fail
  refine (must_any C0.out _).mono ?_
  rintro e w2 ⟨⟨hq1, rfl⟩ | ⟨hq1, rfl⟩, rfl⟩
  case inr =>
    exact ⟨rfl, Gt.no (by rw [← HR.out]; simp at hq1; simp; omega) B0.out⟩
  have hq1 := hide hq1
  by_cases hp2 : pa ≤ (n : Int)
  case neg =>
    go_wp2_with fail
    refine (must_no C0.out).mono ?_
    rintro e w2 ⟨rfl, rfl⟩
    exact ⟨rfl, Gt.no (by rw [← HR.out]; simp; omega) B0.out⟩
  go_wp2_with fail
  refine (must_any C0.out _).mono ?_
  rintro e w2 ⟨⟨hq2, rfl⟩ | ⟨hq2, rfl⟩, rfl⟩
  case inr =>
    exact ⟨rfl, Gt.no (by rw [← HR.out]; simp at hq2; simp; omega) B0.out⟩
  have hq2 := hide hq2
  go_wp2_with fail
  refine T0.out.mono ?_
  intro e w2 hp
  rcases hp.both with ⟨h1, rfl, hb⟩ | ⟨h1, rfl, hb⟩
  · go_wp2_with fail
    go_end0
    exact Gt.yes (by rw [← HR.out, h1]; have g1 := hq1.out; have g2 := hq2.out; simp at g1 g2; simp; omega) (bel_trans B0.out hb)
  · exact ⟨rfl, Gt.no (by rw [← HR.out, h1]; simp) (bel_trans B0.out hb)⟩
theorem rowB_no {P : List Int} {a b k : Nat} (hk : k < b) (h : P.getD (a + k) 0 ≠ P.getD a 0) : rowB P a b = false := by
  unfold rowB
  rw [List.all_eq_false]
  exact ⟨k, by simp; omega, by simpa using h⟩
theorem rowB_yes {P : List Int} {a b : Nat} (h : ∀ k, k < b → P.getD (a + k) 0 = P.getD a 0) : rowB P a b = true := by
  unfold rowB
  rw [List.all_eq_true]
  intro k hk
  simp at hk
  simpa using h k hk
set_option maxRecDepth 20000 in
set_option maxHeartbeats 1000000 in
theorem row_any {w : World} {p : List Addr} {v : Value} {P : List Int} (a b : Nat) (hc : Ec w p) (h : Sl w v P) (h1 : a < P.length) (h2 : b ≤ 64) (h3 : P.length ≤ 128) : Calls Tryd.prog 50 #[v, .int .i64 a, .int .i64 b] w (Gt p w (decide (a + b ≤ P.length) && rowB P a b) (.tuple #[])) := by
  obtain ⟨_, av, cp, rfl, hca, hcm, hac⟩ := h
  unfold maxLen at hcm
  obtain ⟨n, hn⟩ : ∃ n, n = P.length := ⟨_, rfl⟩
  have hac' : ∀ i, i < n → _ := fun i hi => hac i (by omega)
  rw [← hn] at h1 h3 hca ⊢
  have C0 := hide hc
  clear hc hac hn
  by_cases hs : a + b ≤ n
  case neg =>
    have hr := hide (show (decide (a + b ≤ n) && rowB P a b) = false by simp; omega)
    generalize (decide (a + b ≤ n) && rowB P a b) = r at *
    have hd : decide ((a : Int) + (b : Int) ≤ (n : Int)) = false := decide_eq_false (by omega)
    clear hs
    go_enter Tryd.func50, Tryd.ntmps50
    go_wp2_with fail
    refine (must_no C0.out).mono ?_
    rintro e w2 ⟨rfl, rfl⟩
    exact ⟨rfl, Gt.no (hr.out) (Below.refl _ _)⟩
  have hs2 : Hid ((∀ k, k < b → P.getD (a + k) 0 = P.getD a 0) → (decide (a + b ≤ n) && rowB P a b) = true) := fun h => by rw [decide_eq_true hs, rowB_yes h]; rfl
  have hs3 : Hid (∀ k, k < b → P.getD (a + k) 0 ≠ P.getD a 0 → (decide (a + b ≤ n) && rowB P a b) = false) := fun k hk h => by rw [rowB_no hk h]; simp
  generalize (decide (a + b ≤ n) && rowB P a b) = r at *
  obtain ⟨b1, o1, rfl, hb1, hc1⟩ := hac' a h1
  have hcs : ∀ k, k < b → w.cell? ⟨b1, o1 + a + k, none⟩ = some (.int .i64 (P.getD (a + k) 0)) := fun k hk => by
    obtain ⟨b2, o2, e2, _, hc2⟩ := hac' (a + k) (by omega)
    cases e2
    rw [Nat.add_assoc]
    exact hc2
  have hz : (cp = a) = False := by simp; omega
  obtain ⟨en, hen⟩ : ∃ en, en = a + b := ⟨_, rfl⟩
  have hse : (a : Int) + (b : Int) = (en : Int) := by omega
  have hs1 : (en : Int) ≤ (n : Int) := by omega
  have hs4 : en - a = b := by omega
  have hs5 : (a : Int) ≤ (en : Int) := by omega
  have hs6 : (en : Int) ≤ (cp : Int) := by omega
  clear hac' hen hs
  go_enter Tryd.func50, Tryd.ntmps50
  go_wp2_with fail
  refine (must_yes _).mono ?_
  rintro e w2 ⟨rfl, rfl⟩
  go_wp2_with fail
  go_loopw [7, 22] (fun u i wr => ∃ k : Nat, k ≤ b ∧ i = .int .i64 k ∧ Hid (∀ j, j < k → P.getD (a + j) 0 = P.getD a 0) ∧ Hid (w = wr)) (fun u i _ => b - (intOf i).toNat)
  case atStart => exact ⟨0, Nat.zero_le _, rfl, fun j hj => absurd hj (Nat.not_lt_zero _), rfl⟩
  case round =>
    obtain ⟨k, hk, rfl, hall, hw⟩ := hrel
    obtain rfl := hw.out
    clear hw
    by_cases hlt : k < b
    · have hck := hcs k hlt
      have h9 : (k : Int) < (b : Int) := by omega
      have h8 : (a : Int) < (n : Int) := by omega
      have hne := hide (hs3.out k hlt)
      have hstep : Hid (P.getD (a + k) 0 = P.getD a 0 → ∀ j, j < k + 1 → P.getD (a + j) 0 = P.getD a 0) := fun e j hj => by
        by_cases ej : j = k
        · rw [ej]; exact e
        · exact hall.out j (by omega)
      clear hcs hs2 hs3 hall
      generalize P.getD (a + k) 0 = y at *
      generalize P.getD a 0 = y0 at *
      by_cases y1 : y = y0
      · have e1 : (y == y0) = true := by simp [y1]
        have hst := hide (hstep.out y1)
        clear y1 hstep hne
        go_wp2_with fail
        refine (must_yes _).mono ?_
        rintro e w2 ⟨rfl, rfl⟩
        go_wp2_with fail
        go_roundw
        case rel => exact ⟨k + 1, by omega, by go_num, hst.out, trivial⟩
        case measure => simp [intOf]; omega
      · have e1 : (y == y0) = false := beq_false_of_ne y1
        have hr := hide (hne.out y1)
        clear y1 hstep hne
        go_wp2_with fail
        refine (must_no C0.out).mono ?_
        rintro e w2 ⟨rfl, rfl⟩
        exact ⟨rfl, Gt.no hr.out (Below.refl _ _)⟩
    · obtain rfl : k = b := by omega
      have hr := hide (hs2.out hall.out)
      clear hcs hs2 hs3
      go_wp2_with fail
      go_end0
      exact Gt.yes hr.out (Below.refl _ _)
end Go.Proofs.YtidjbgemnohbnaaDoor.Ck
