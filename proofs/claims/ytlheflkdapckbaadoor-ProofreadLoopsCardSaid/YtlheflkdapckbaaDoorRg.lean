/- A region that draws its order, by one condition on what has come up, on the frame and on the world; no Go text is walked here. (After wip/sync's Lo.) -/
import Derived.Test.YtlheflkdapckbaaDoorCa
import Derived.RegionTactic
namespace Go.Proofs.YtlheflkdapckbaaDoor.Ck
open Go.RowKit

def cnt : List Bool → Nat
  | [] => 0
  | true :: l => cnt l
  | false :: l => cnt l + 1
theorem cnt_set : ∀ (l : List Bool) (i : Nat), l[i]? = some false → cnt (l.set i true) + 1 = cnt l
  | [], i, h => by simp at h
  | b :: l, 0, h => by
    simp at h
    subst h
    rfl
  | b :: l, i + 1, h => by
    have := cnt_set l i (by simpa using h)
    cases b <;> simp only [List.set_cons_succ, cnt] <;> omega
theorem cnt_zero : ∀ (l : List Bool), cnt l = 0 → ∀ (i : Nat) (b : Bool), l[i]? = some b → b = true
  | [], _, i, b, h => by simp at h
  | true :: l, hc, 0, b, h => by
    simp at h
    exact h
  | true :: l, hc, i + 1, b, h => cnt_zero l hc i b (by simpa using h)
  | false :: l, hc, i, b, h => by simp [cnt] at hc
theorem cnt_first : ∀ (l : List Bool), cnt l ≠ 0 → ∃ j : Nat, l[j]? = some false ∧ ∀ k, k < j → l[k]? = some true
  | [], h => absurd rfl h
  | false :: l, _ => ⟨0, rfl, fun k hk => absurd hk (Nat.not_lt_zero _)⟩
  | true :: l, h => by
    obtain ⟨j, h1, h2⟩ := cnt_first l h
    refine ⟨j + 1, h1, fun k hk => ?_⟩
    cases k with
    | zero => rfl
    | succ k => exact h2 k (by omega)
theorem cnt_rep : ∀ n, cnt (List.replicate n false) = n
  | 0 => rfl
  | n + 1 => by rw [List.replicate_succ, cnt, cnt_rep n]

def upd (u : Nat → Value) (i : Nat) (v : Value) : Nat → Value := fun j => if j = i then v else u j
theorem upd_self (u : Nat → Value) (i : Nat) (v : Value) : upd u i v i = v := by simp [upd]
theorem upd_ne (u : Nat → Value) {i j : Nat} (v : Value) (h : j ≠ i) : upd u i v j = u j := by simp [upd, h]

section
variable {P : Program} {md : Region.Mode} {ops : Array Oper} {Q : Exit → Act → World → Prop} {A : (Nat → Value) → Act} {J : Array Bool → (Nat → Value) → World → Prop}
theorem getD_of {l : Array Bool} {j : Nat} {b d : Bool} (h : l.toList[j]? = some b) : l.getD j d = b := by
  have : l[j]? = some b := by rw [← Array.getElem?_toList]; exact h
  simp [this]
theorem of_getD {l : Array Bool} {j : Nat} (h : l.getD j true = false) : l.toList[j]? = some false := by
  rw [Array.getElem?_toList]
  simp only [Array.getD_eq_getD_getElem?] at h
  cases hj : l[j]? with
  | none => rw [hj] at h; cases h
  | some b => rw [hj] at h; simp at h; rw [h]
theorem wpAny_inv (hord : ∀ j o, ops[j]? = some o → ∀ e ∈ o.after, Region.binds md e = true → e.on < j)
    (hop : ∀ i o L u w, ops[i]? = some o → L.size = ops.size → L.getD i true = false → (∀ e ∈ o.after, Region.binds md e = true → L.getD e.on false = true) → J L u w →
      wpOp P ops Q i (fun a' w' => ∃ v, a' = A (upd u i v) ∧ J (L.setIfInBounds i true) (upd u i v) w') (A u) w)
    (hQ : ∀ L u w, (∀ j, j < ops.size → L.getD j false = true) → J L u w → Q .normal (A u) w) :
    ∀ (fuel : Nat) (L : Array Bool) (u : Nat → Value) (w : World), cnt L.toList = fuel → L.size = ops.size → J L u w → wpAny P md ops Q fuel L (A u) w := by
  intro fuel
  induction fuel with
  | zero =>
    intro L u w hc hs hJ
    refine ⟨?_, hQ L u w (fun j hj => ?_) hJ⟩
    · rw [List.eq_nil_iff_forall_not_mem]
      intro j hj
      have h := of_getD (mem_ready.1 hj).1
      exact absurd (cnt_zero _ hc j false h) (by decide)
    · have hlt : j < L.toList.length := by rw [Array.length_toList, hs]; exact hj
      have hb := cnt_zero _ hc j _ (List.getElem?_eq_getElem hlt)
      exact getD_of ((List.getElem?_eq_getElem hlt).trans (congrArg some hb))
  | succ fuel ih =>
    intro L u w hc hs hJ
    refine ⟨fun h0 => ?_, fun i hi => ?_⟩
    · obtain ⟨j, h1, h2⟩ := cnt_first L.toList (by omega)
      have hlt : j < ops.size := by
        have := (List.getElem?_eq_some_iff.1 h1).1
        rw [Array.length_toList, hs] at this
        exact this
      have : j ∈ Region.ready md ops L := mem_ready.2 ⟨getD_of h1, _, Array.getElem?_eq_getElem hlt, fun e he hb => getD_of (h2 e.on (hord j _ (Array.getElem?_eq_getElem hlt) e he hb))⟩
      rw [h0] at this
      cases this
    · obtain ⟨h0, o, ho, hall⟩ := mem_ready.1 hi
      refine wpOp_mono (fun a' w' h' => ?_) (hop i o L u w ho hs h0 (fun e he hb => hall e he hb) hJ)
      obtain ⟨v, rfl, hj⟩ := h'
      refine ih _ _ _ ?_ (by simpa using hs) hj
      have h3 := cnt_set _ _ (of_getD h0)
      rw [Array.toList_setIfInBounds]
      omega
def depB (ops : Array Oper) (i d : Nat) : Bool := match ops[i]? with
  | some o => o.after.toList.any fun e => Region.binds .any e && e.on == d
  | none => false
def ordB (ops : Array Oper) : Bool := (List.range ops.size).all fun j => match ops[j]? with
  | some o => o.after.all fun e => !Region.binds .any e || decide (e.on < j)
  | none => true
theorem ordB_spec (h : ordB ops = true) : ∀ j o, ops[j]? = some o → ∀ e ∈ o.after, Region.binds .any e = true → e.on < j := fun j o ho e he hb => by
  unfold ordB at h
  rw [List.all_eq_true] at h
  have h1 := h j (List.mem_range.2 (Array.getElem?_eq_some_iff.1 ho).1)
  rw [ho] at h1
  simp only [Array.all_eq_true_iff_forall_mem] at h1
  have h2 := h1 e he
  rw [hb] at h2
  simpa using h2
theorem depB_spec {i d : Nat} (h : depB ops i d = true) : ∃ o, ops[i]? = some o ∧ ∃ e ∈ o.after, Region.binds .any e = true ∧ e.on = d := by
  unfold depB at h
  cases ho : ops[i]? with
  | none => rw [ho] at h; cases h
  | some o =>
    rw [ho] at h
    have h' : (o.after.toList.any fun e => Region.binds .any e && e.on == d) = true := h
    rw [List.any_eq_true] at h'
    obtain ⟨e, he, h2⟩ := h'
    exact ⟨o, rfl, e, by simpa using he, by simpa using h2⟩
/-- such a region, from its beginning -/
theorem wp_region_inv {id : Nat} {u : Nat → Value} {w : World} (hm : P.follows .mixedOrders = true) (hord : ordB ops = true)
    (hop : ∀ i, i < ops.size → ∀ L u w, L.size = ops.size → L.getD i true = false → (∀ d, depB ops i d = true → L.getD d false = true) → J L u w →
      wpOp P ops Q i (fun a' w' => ∃ v, a' = A (upd u i v) ∧ J (L.setIfInBounds i true) (upd u i v) w') (A u) w)
    (hQ : ∀ L u w, (∀ j, j < ops.size → L.getD j false = true) → J L u w → Q .normal (A u) w) (hJ : J (Array.replicate ops.size false) u w.drew) : (Code.region id ops true).wp P Q (A u) w := by
  refine wp_region_any hm ?_
  change wpAny _ _ _ _ _ _ _ (World.drew _)
  refine wpAny_inv (ordB_spec hord) (fun i o L u w ho hs h0 hd hj => hop i (Array.getElem?_eq_some_iff.1 ho).1 L u w hs h0 (fun d hdd => ?_) hj) hQ _ _ u _ (by rw [Array.toList_replicate, cnt_rep]) (by simp) hJ
  obtain ⟨o', ho', e, he, hb2, hei⟩ := depB_spec hdd
  rw [ho] at ho'
  cases ho'
  rw [← hei]
  exact hd e he hb2
theorem L_self {L : Array Bool} {i : Nat} (h : L.getD i true = false) : (L.setIfInBounds i true).getD i false = true := by
  have h1 := (List.getElem?_eq_some_iff.1 (of_getD h)).1
  rw [Array.length_toList] at h1
  simp [h1]
theorem L_ne {L : Array Bool} {i j : Nat} (h : i ≠ j) : (L.setIfInBounds i true).getD j false = L.getD j false := getD_set_ne false h
end
/-- a frame some of whose slots (sl: the number of the operation that fills it) hold u's values -/
def fillL (sl : Nat → Option Nat) (u : Nat → Value) : Nat → List Value → List Value
  | _, [] => []
  | k, x :: l => (match sl k with | some j => u j | none => x) :: fillL sl u (k + 1) l
def fill (sl : Nat → Option Nat) (a : Act) (u : Nat → Value) : Act := { a with tmps := (fillL sl u 0 a.tmps.toList).toArray }
theorem fillL_at (sl : Nat → Option Nat) (u : Nat → Value) : ∀ (l : List Value) (k m : Nat), (fillL sl u k l)[m]? = (l[m]?).map fun x => (match sl (k + m) with | some j => u j | none => x)
  | [], k, m => by simp [fillL]
  | x :: l, k, 0 => by simp [fillL]
  | x :: l, k, m + 1 => by
    have := fillL_at sl u l (k + 1) m
    rw [show k + 1 + m = k + (m + 1) by omega] at this
    simpa [fillL] using this
theorem fillL_set (sl : Nat → Option Nat) (u : Nat → Value) (i d : Nat) (v : Value) (h1 : sl d = some i) (h2 : ∀ k, sl k = some i → k = d) (l : List Value) : (fillL sl u 0 l).set d v = fillL sl (upd u i v) 0 l := by
  apply List.ext_getElem?
  intro m
  rw [fillL_at, Nat.zero_add]
  by_cases e : d = m
  · subst e
    cases hl : l[d]? with
    | none =>
      have : (fillL sl u 0 l)[d]? = none := by rw [fillL_at, hl]; rfl
      rw [List.getElem?_set_self']
      simp [this]
    | some x =>
      have : (fillL sl u 0 l)[d]? = some (u i) := by rw [fillL_at, hl, Nat.zero_add, h1]; rfl
      rw [List.getElem?_set_self']
      simp [this, h1, upd]
  · rw [List.getElem?_set_ne e, fillL_at, Nat.zero_add]
    congr 1
    funext x
    cases hs : sl m with
    | none => rfl
    | some j =>
      have hj : j ≠ i := fun e2 => e (h2 m (by rw [hs, e2])).symm
      simp [upd, hj]
theorem fill_put {sl : Nat → Option Nat} {a : Act} {u : Nat → Value} {i d : Nat} {v : Value} (h1 : sl d = some i) (h2 : ∀ k, sl k = some i → k = d) : (fill sl a u).put (some d) v = fill sl a (upd u i v) := by
  unfold fill Act.put
  simp only [List.setIfInBounds_toArray, fillL_set sl u i d v h1 h2]
theorem fillL_none (sl : Nat → Option Nat) (u : Nat → Value) (i : Nat) (v : Value) (h : ∀ k, sl k ≠ some i) : ∀ (l : List Value) (k : Nat), fillL sl (upd u i v) k l = fillL sl u k l
  | [], _ => rfl
  | x :: l, k => by
    simp only [fillL, fillL_none sl u i v h l (k + 1)]
    congr 1
    cases hs : sl k with
    | none => rfl
    | some j =>
      have hj : j ≠ i := fun e => h k (by rw [hs, e])
      simp [upd, hj]
theorem fill_none {sl : Nat → Option Nat} {a : Act} {u : Nat → Value} {i : Nat} {v x : Value} (h : ∀ k, sl k ≠ some i) : (fill sl a u).put none x = fill sl a (upd u i v) := by
  unfold fill Act.put
  simp only [fillL_none sl u i v h]
theorem fill_in {sl : Nat → Option Nat} {a : Act} {u : Nat → Value} {k j : Nat} (hk : k < a.tmps.size) (h : sl k = some j) : (fill sl a u).eval (.tmp k) = u j := by
  have h1 : (fillL sl u 0 a.tmps.toList)[k]? = some (u j) := by
    rw [fillL_at, List.getElem?_eq_getElem (by simpa using hk), Nat.zero_add, h]
    rfl
  simp [fill, Act.eval, h1]
theorem fill_out {sl : Nat → Option Nat} {a : Act} {u : Nat → Value} {k : Nat} (h : sl k = none) : (fill sl a u).eval (.tmp k) = a.eval (.tmp k) := by
  have h1 : (fillL sl u 0 a.tmps.toList)[k]? = a.tmps[k]? := by
    rw [fillL_at, Nat.zero_add, h, Array.getElem?_toList]
    simp
  simp [fill, Act.eval, h1]
theorem fill_self {sl : Nat → Option Nat} {d : Nat → Nat} (hd : ∀ k j, sl k = some j → d j = k) (a : Act) : fill sl a (fun j => a.tmps.getD (d j) undef) = a := by
  have h : fillL sl (fun j => a.tmps.getD (d j) undef) 0 a.tmps.toList = a.tmps.toList := by
    apply List.ext_getElem?
    intro m
    rw [fillL_at, Nat.zero_add]
    cases hl : a.tmps.toList[m]? with
    | none => rfl
    | some x =>
      cases hs : sl m with
      | none => rfl
      | some j =>
        have e := hd m j hs
        have hl2 : a.tmps[m]? = some x := by rw [← Array.getElem?_toList]; exact hl
        simp [e, hl2]
  unfold fill
  rw [h]
theorem wp_fill {P : Program} {c : Code} {Q : Exit → Act → World → Prop} {a : Act} {w : World} (sl : Nat → Option Nat) (d : Nat → Nat) (hd : ∀ k j, sl k = some j → d j = k) (h : ∀ a0 u0, a0 = a → c.wp P Q (fill sl a0 u0) w) : c.wp P Q a w := by
  have h1 := h a (fun j => a.tmps.getD (d j) undef) rfl
  rw [fill_self hd a] at h1
  exact h1
/-- an operation of such a region, by what its run gives -/
theorem wpOp_val {P : Program} {ops : Array Oper} {Q : Exit → Act → World → Prop} {i : Nat} {o : Oper} {K : Act → World → Prop} {a : Act} {w : World} (ho : ops[i]? = some o) (hgd : o.guard = none) (v : Value) (w1 : World)
    (hrun : (execOp a.eval o).run P w = .ok (.value v) w1) (h : K (a.put o.dst v) w1) : wpOp P ops Q i K a w := by
  refine wpOp_step ho fun K' hK => ?_
  rw [if_pos (by simp [Region.wanted, hgd])]
  unfold Oper.wp
  rw [hrun]
  exact hK _ _ h
theorem wpOp_skip {P : Program} {ops : Array Oper} {Q : Exit → Act → World → Prop} {i : Nat} {o : Oper} {K : Act → World → Prop} {a : Act} {w : World} (ho : ops[i]? = some o) (hgd : o.guard = none) (w1 : World)
    (hrun : (execOp a.eval o).run P w = .ok .skip w1) (h : K (a.put o.dst undef) w1) : wpOp P ops Q i K a w := by
  refine wpOp_step ho fun K' hK => ?_
  rw [if_pos (by simp [Region.wanted, hgd])]
  unfold Oper.wp
  rw [hrun]
  exact hK _ _ h
end Go.Proofs.YtlheflkdapckbaaDoor.Ck
