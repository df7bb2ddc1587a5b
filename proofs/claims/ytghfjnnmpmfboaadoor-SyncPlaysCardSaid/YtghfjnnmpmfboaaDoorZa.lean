/- What the document's state (stockaderef11.State) is in memory; no Go text is walked here. -/
import Derived.Test.YtghfjnnmpmfboaaDoorYt
namespace Go.Proofs.YtghfjnnmpmfboaaDoor.Ck
open Go.RowKit

def ccs : List Qu → List Value
  | [] => []
  | q :: C => .int .i64 q.t :: .int .i64 q.room :: ccs C
theorem ccs_len : ∀ C, (ccs C).length = C.length * 2
  | [] => rfl
  | q :: C => by
    simp only [ccs, List.length_cons, ccs_len C]
    omega
theorem ccs_app : ∀ (C : List Qu) (q : Qu), ccs (C ++ [q]) = ccs C ++ [.int .i64 q.t, .int .i64 q.room]
  | [], q => rfl
  | x :: C, q => by simp [ccs, ccs_app C q]
theorem ccs_at : ∀ (C : List Qu) (i : Nat) (q : Qu), C[i]? = some q → (ccs C)[2 * i]? = some (.int .i64 q.t) ∧ (ccs C)[2 * i + 1]? = some (.int .i64 q.room)
  | [], i, q, h => by simp at h
  | q :: C, 0, q', h => by
    simp at h
    subst h
    exact ⟨rfl, rfl⟩
  | q :: C, i + 1, q', h => ccs_at C i q' (by simpa using h)
theorem ccs_set : ∀ (C : List Qu) (i : Nat) (q q' : Qu), C[i]? = some q → q'.t = q.t → q'.room = q.room → ccs (C.set i q') = ccs C
  | [], i, q, q', h, _, _ => by simp at h
  | x :: C, 0, q, q', h, h1, h2 => by
    simp at h
    subst h
    simp [ccs, h1, h2]
  | x :: C, i + 1, q, q', h, h1, h2 => by simp only [List.set_cons_succ, ccs, ccs_set C i q q' (by simpa using h) h1 h2]
theorem ccs_inj : ∀ (C D : List Qu), ccs C = ccs D → C.map (fun q => (q.t, q.room)) = D.map (fun q => (q.t, q.room))
  | [], [], _ => rfl
  | [], y :: D, h => by simp [ccs] at h
  | x :: C, [], h => by simp [ccs] at h
  | x :: C, y :: D, h => by
    simp only [ccs, List.cons.injEq, Value.int.injEq, true_and] at h
    simp only [List.map_cons, ccs_inj C D h.2.2, h.1, h.2.1]

/-- a row of none stays one, whatever is set in its block -/
theorem own_empty {w : World} {B : Nat} {T : TypeId} {n b j : Nat} {v u : Value} {len : Nat} {xs : List Value} (h : w.ownsRow B T n v len xs) (h0 : len = 0) (hb : v.ownBlock = some b) : (w.setCell ⟨b, j, none⟩ u).ownsRow B T n v len xs := by
  subst h0
  rcases own_form h with ⟨rfl, _⟩ | ⟨b', c, rfl, _⟩
  · cases hb
  · cases hb
    have h2 := own_set h j u
    have e : xs = [] := by
      have := h.1
      simpa using this
    subst e
    exact h2
/-- the document's state in memory: F what it may write, R where all values ever sent lie (nobody writes there), no channel had more than B -/
structure Rv (w : World) (F R : Nat → Prop) (B g : Nat) (s : St) (vP vL vC vS vT vA : Value) (ss : List Value) (tk : List Int) : Prop where
  at_ : w.heap[g]? = some (.cells #[vP, vL, vC, vS, vT, vA] 50 (0, 0))
  pl : w.ownsRow 0 41 3 vP s.P.length (vcs s.P)
  lo : w.ownsRow 0 4 1 vL s.M.length (bls s.M)
  ch : w.ownsRow 0 52 2 vC s.C.length (ccs s.C)
  se : w.ownsRow 0 46 1 vS s.C.length ss
  ta : w.ownsRow 0 3 1 vT s.C.length (nts tk)
  ato : w.ownsRow 0 3 1 vA s.A.length (nts s.A)
  q : ∀ (i : Nat) (q : Qu) (v : Value) (t : Int), s.C[i]? = some q → ss[i]? = some v → tk[i]? = some t → ∃ (f : List V3) (n : Nat), t = n ∧ n ≤ f.length ∧ f.drop n = q.l ∧ f.length ≤ B ∧ w.ownsRow 0 41 3 v f.length (vcs f) ∧ ∀ k, v.ownBlock = some k → R k
  ne : ∀ k, vT.ownBlock = some k → vA.ownBlock = some k → s.C.length = 0 ∨ s.A.length = 0
  fg : F g
  fP : ∀ k, vP.ownBlock = some k → F k
  fL : ∀ k, vL.ownBlock = some k → F k
  fC : ∀ k, vC.ownBlock = some k → F k
  fS : ∀ k, vS.ownBlock = some k → F k
  fT : ∀ k, vT.ownBlock = some k → F k
  fA : ∀ k, vA.ownBlock = some k → F k
  fb : ∀ k, F k → k < w.heap.size
  rb : ∀ k, R k → k < w.heap.size
  fr : ∀ k, R k → ¬ F k
  small : s.P.length ≤ 128 ∧ s.M.length ≤ 32 ∧ s.C.length ≤ 32 ∧ s.A.length ≤ 32
  rooms : ∀ q ∈ s.C, 0 ≤ q.room ∧ q.room ≤ 8 ∧ (q.l.length : Int) ≤ q.room
def Rt (w : World) (F R : Nat → Prop) (B g : Nat) (s : St) : Prop := ∃ vP vL vC vS vT vA ss tk, Rv w F R B g s vP vL vC vS vT vA ss tk
section
variable {w w' : World} {F F' G R R' : Nat → Prop} {B g : Nat} {s : St} {vP vL vC vS vT vA : Value} {ss : List Value} {tk : List Int}
theorem Rv.sl (h : Rv w F R B g s vP vL vC vS vT vA ss tk) : ss.length = s.C.length := by have := h.se.1; omega
theorem Rv.tl (h : Rv w F R B g s vP vL vC vS vT vA ss tk) : tk.length = s.C.length := by have := h.ta.1; simp [nts] at this; omega
theorem Rv.keep (h : Rv w F R B g s vP vL vC vS vT vA ss tk) (hb : ∀ k, F k ∨ R k → w'.heap[k]? = w.heap[k]?) (hs : w.heap.size ≤ w'.heap.size) : Rv w' F R B g s vP vL vC vS vT vA ss tk :=
  { h with
    at_ := (hb g (.inl h.fg)).trans h.at_
    pl := own_keep h.pl fun k hk => hb k (.inl (h.fP k hk))
    lo := own_keep h.lo fun k hk => hb k (.inl (h.fL k hk))
    ch := own_keep h.ch fun k hk => hb k (.inl (h.fC k hk))
    se := own_keep h.se fun k hk => hb k (.inl (h.fS k hk))
    ta := own_keep h.ta fun k hk => hb k (.inl (h.fT k hk))
    ato := own_keep h.ato fun k hk => hb k (.inl (h.fA k hk))
    q := fun i q v t hq hv ht => by
      obtain ⟨f, n, h1, h2, h3, h4, h5, h6⟩ := h.q i q v t hq hv ht
      exact ⟨f, n, h1, h2, h3, h4, own_keep h5 fun k hk => hb k (.inr (h6 k hk)), h6⟩
    fb := fun k hk => Nat.lt_of_lt_of_le (h.fb k hk) hs
    rb := fun k hk => Nat.lt_of_lt_of_le (h.rb k hk) hs }
theorem Rv.bel (h : Rv w F R B g s vP vL vC vS vT vA ss tk) (hb : Below w.heap.size w w') : Rv w' F R B g s vP vL vC vS vT vA ss tk :=
  h.keep (fun k hk => hb.block k (hk.elim (h.fb k) (h.rb k))) hb.size
theorem Rt.bel (h : Rt w F R B g s) (hb : Below w.heap.size w w') : Rt w' F R B g s := by
  obtain ⟨vP, vL, vC, vS, vT, vA, ss, tk, h⟩ := h
  exact ⟨_, _, _, _, _, _, _, _, h.bel hb⟩
theorem Rt.fb (h : Rt w F R B g s) : ∀ k, F k → k < w.heap.size := by
  obtain ⟨vP, vL, vC, vS, vT, vA, ss, tk, h⟩ := h
  exact h.fb
theorem Rt.rb (h : Rt w F R B g s) : ∀ k, R k → k < w.heap.size := by
  obtain ⟨vP, vL, vC, vS, vT, vA, ss, tk, h⟩ := h
  exact h.rb
theorem Rt.fr (h : Rt w F R B g s) : ∀ k, R k → ¬ F k := by
  obtain ⟨vP, vL, vC, vS, vT, vA, ss, tk, h⟩ := h
  exact h.fr
theorem Rt.lt (h : Rt w F R B g s) : g < w.heap.size := by
  obtain ⟨vP, vL, vC, vS, vT, vA, ss, tk, h⟩ := h
  exact h.fb g h.fg
/-- another state's blocks turn -/
theorem Rt.ch (h : Rt w G R B g s) (hc : Ch F F' w w') (hd : ∀ k, G k → ¬ F k) (hr : ∀ k, R k → ¬ F k) : Rt w' G R B g s := by
  obtain ⟨vP, vL, vC, vS, vT, vA, ss, tk, h⟩ := h
  refine ⟨_, _, _, _, _, _, _, _, h.keep (fun k hk => ?_) hc.size⟩
  rcases hk with hk | hk
  · exact hc.blk k (h.fb k hk) (hd k hk)
  · exact hc.blk k (h.rb k hk) (hr k hk)
/-- more may be read -/
theorem Rt.more (h : Rt w F R B g s) {B' : Nat} (hB : B ≤ B') (hR : ∀ k, R k → R' k) (hb : ∀ k, R' k → k < w.heap.size) (hf : ∀ k, R' k → ¬ F k) : Rt w F R' B' g s := by
  obtain ⟨vP, vL, vC, vS, vT, vA, ss, tk, h⟩ := h
  exact ⟨_, _, _, _, _, _, _, _, { h with
    q := fun i q v t hq hv ht => by
      obtain ⟨f, n, h1, h2, h3, h4, h5, h6⟩ := h.q i q v t hq hv ht
      exact ⟨f, n, h1, h2, h3, by omega, h5, fun k hk => hR k (h6 k hk)⟩
    rb := hb
    fr := hf }⟩
theorem Rv.cells (h : Rv w F R B g s vP vL vC vS vT vA ss tk) : w.cell? ⟨g, 0, none⟩ = some vP ∧ w.cell? ⟨g, 1, none⟩ = some vL ∧ w.cell? ⟨g, 2, none⟩ = some vC ∧ w.cell? ⟨g, 3, none⟩ = some vS ∧ w.cell? ⟨g, 4, none⟩ = some vT ∧ w.cell? ⟨g, 5, none⟩ = some vA :=
  ⟨blk_cell h.at_ 0 _ rfl, blk_cell h.at_ 1 _ rfl, blk_cell h.at_ 2 _ rfl, blk_cell h.at_ 3 _ rfl, blk_cell h.at_ 4 _ rfl, blk_cell h.at_ 5 _ rfl⟩
/-- only block b, of F, has turned: what else is kept -/
theorem Rv.other (h : Rv w F R B g s vP vL vC vS vT vA ss tk) {b : Nat} (hb : F b) (ho : ∀ k, k ≠ b → w'.heap[k]? = w.heap[k]?) :
    (∀ {T : TypeId} {n : Nat} {v : Value} {len : Nat} {xs : List Value}, w.ownsRow 0 T n v len xs → v.ownBlock ≠ some b → w'.ownsRow 0 T n v len xs) ∧
    (∀ (i : Nat) (q : Qu) (v : Value) (t : Int), s.C[i]? = some q → ss[i]? = some v → tk[i]? = some t → ∃ (f : List V3) (n : Nat), t = n ∧ n ≤ f.length ∧ f.drop n = q.l ∧ f.length ≤ B ∧ w'.ownsRow 0 41 3 v f.length (vcs f) ∧ ∀ k, v.ownBlock = some k → R k) := by
  have hap : ∀ {T : TypeId} {n : Nat} {v : Value} {len : Nat} {xs : List Value}, w.ownsRow 0 T n v len xs → v.ownBlock ≠ some b → w'.ownsRow 0 T n v len xs := fun hr hT =>
    own_keep hr fun k hk => ho k (fun e => by subst e; exact hT hk)
  refine ⟨hap, fun i q v t hq hv ht => ?_⟩
  obtain ⟨f, n, h1, h2, h3, h4, h5, h6⟩ := h.q i q v t hq hv ht
  exact ⟨f, n, h1, h2, h3, h4, hap h5 (fun e => h.fr b (h6 b e) hb), h6⟩
theorem Rv.setP {b n c : Nat} (h : Rv w F R B g s (.slice (some ⟨b, 0, none⟩) n c) vL vC vS vT vA ss tk) (hn : n = s.P.length) (i : Nat) (x : V3) :
    Rv (((w.setCell ⟨b, 3 * i, none⟩ (.int .i64 x.1)).setCell ⟨b, 3 * i + 1, none⟩ (.int .i64 x.2.1)).setCell ⟨b, 3 * i + 2, none⟩ (.int .u64 x.2.2)) F R B g { s with P := s.P.set i x } (.slice (some ⟨b, 0, none⟩) n c) vL vC vS vT vA ss tk ∧
      Ch F F w (((w.setCell ⟨b, 3 * i, none⟩ (.int .i64 x.1)).setCell ⟨b, 3 * i + 1, none⟩ (.int .i64 x.2.1)).setCell ⟨b, 3 * i + 2, none⟩ (.int .u64 x.2.2)) := by
  subst hn
  have hF := h.fP b rfl
  generalize hw : ((w.setCell ⟨b, 3 * i, none⟩ (.int .i64 x.1)).setCell ⟨b, 3 * i + 1, none⟩ (.int .i64 x.2.1)).setCell ⟨b, 3 * i + 2, none⟩ (.int .u64 x.2.2) = w'
  have ho : ∀ k, k ≠ b → w'.heap[k]? = w.heap[k]? := fun k hk => by
    rw [← hw]
    exact (Below.heap_setCell _ _ _ _ hk).trans ((Below.heap_setCell _ _ _ _ hk).trans (Below.heap_setCell _ _ _ _ hk))
  obtain ⟨hap, hq⟩ := h.other hF ho
  have hne : ∀ {T : TypeId} {n : Nat} {v : Value} {len : Nat} {xs : List Value}, w.ownsRow 0 T n v len xs → T ≠ 41 → v.ownBlock ≠ some b := fun hr hT e => own_apart hr h.pl hT b e rfl
  refine ⟨?_, by rw [← hw]; exact (ch_set hF _).trans ((ch_set hF _).trans (ch_set hF _))⟩
  have hsz : w'.heap.size = w.heap.size := by rw [← hw, size_setCell, size_setCell, size_setCell]
  exact { h with
    at_ := (ho g (fun e => own_at h.pl h.at_ (by decide) (by rw [e]; rfl))).trans h.at_
    pl := by
      have := own_set (own_set (own_set h.pl (3 * i) (.int .i64 x.1)) (3 * i + 1) (.int .i64 x.2.1)) (3 * i + 2) (.int .u64 x.2.2)
      rw [hw] at this
      simp only [List.length_set, vcs_set]
      exact this
    lo := hap h.lo (hne h.lo (by decide))
    ch := hap h.ch (hne h.ch (by decide))
    se := hap h.se (hne h.se (by decide))
    ta := hap h.ta (hne h.ta (by decide))
    ato := hap h.ato (hne h.ato (by decide))
    q := hq
    fb := fun k hk => by rw [hsz]; exact h.fb k hk
    rb := fun k hk => by rw [hsz]; exact h.rb k hk
    small := by simpa using h.small }
theorem Rv.setL {b n c : Nat} (h : Rv w F R B g s vP (.slice (some ⟨b, 0, none⟩) n c) vC vS vT vA ss tk) (hn : n = s.M.length) (i : Nat) (x : Bool) :
    Rv (w.setCell ⟨b, i, none⟩ (.bool x)) F R B g { s with M := s.M.set i x } vP (.slice (some ⟨b, 0, none⟩) n c) vC vS vT vA ss tk ∧ Ch F F w (w.setCell ⟨b, i, none⟩ (.bool x)) := by
  subst hn
  have hF := h.fL b rfl
  have ho : ∀ k, k ≠ b → (w.setCell ⟨b, i, none⟩ (.bool x)).heap[k]? = w.heap[k]? := fun k hk => Below.heap_setCell _ _ _ _ hk
  obtain ⟨hap, hq⟩ := h.other hF ho
  have hne : ∀ {T : TypeId} {n : Nat} {v : Value} {len : Nat} {xs : List Value}, w.ownsRow 0 T n v len xs → T ≠ 4 → v.ownBlock ≠ some b := fun hr hT e => own_apart hr h.lo hT b e rfl
  refine ⟨?_, ch_set hF _⟩
  exact { h with
    at_ := (ho g (fun e => own_at h.lo h.at_ (by decide) (by rw [e]; rfl))).trans h.at_
    pl := hap h.pl (hne h.pl (by decide))
    lo := by
      have := own_set h.lo i (.bool x)
      simp only [bls, List.length_set, List.map_set] at this ⊢
      exact this
    ch := hap h.ch (hne h.ch (by decide))
    se := hap h.se (hne h.se (by decide))
    ta := hap h.ta (hne h.ta (by decide))
    ato := hap h.ato (hne h.ato (by decide))
    q := hq
    fb := fun k hk => by rw [size_setCell]; exact h.fb k hk
    rb := fun k hk => by rw [size_setCell]; exact h.rb k hk
    small := by simpa using h.small }
theorem Rv.setA {b n c : Nat} (h : Rv w F R B g s vP vL vC vS vT (.slice (some ⟨b, 0, none⟩) n c) ss tk) (hn : n = s.A.length) (i : Nat) (hi : i < n) (x : Int) :
    Rv (w.setCell ⟨b, i, none⟩ (.int .i64 x)) F R B g { s with A := s.A.set i x } vP vL vC vS vT (.slice (some ⟨b, 0, none⟩) n c) ss tk ∧ Ch F F w (w.setCell ⟨b, i, none⟩ (.int .i64 x)) := by
  subst hn
  have hF := h.fA b rfl
  have ho : ∀ k, k ≠ b → (w.setCell ⟨b, i, none⟩ (.int .i64 x)).heap[k]? = w.heap[k]? := fun k hk => Below.heap_setCell _ _ _ _ hk
  obtain ⟨hap, hq⟩ := h.other hF ho
  have hne : ∀ {T : TypeId} {n : Nat} {v : Value} {len : Nat} {xs : List Value}, w.ownsRow 0 T n v len xs → T ≠ 3 → v.ownBlock ≠ some b := fun hr hT e => own_apart hr h.ato hT b e rfl
  refine ⟨?_, ch_set hF _⟩
  exact { h with
    at_ := (ho g (fun e => own_at h.ato h.at_ (by decide) (by rw [e]; rfl))).trans h.at_
    pl := hap h.pl (hne h.pl (by decide))
    lo := hap h.lo (hne h.lo (by decide))
    ch := hap h.ch (hne h.ch (by decide))
    se := hap h.se (hne h.se (by decide))
    ne := fun k h1 h2 => by simpa using h.ne k h1 h2
    ta := by
      by_cases e : vT.ownBlock = some b
      · have hA : 0 < s.A.length := by omega
        have h0 : s.C.length = 0 := (h.ne b e rfl).resolve_right (by omega)
        exact own_empty h.ta h0 e
      · exact hap h.ta e
    ato := by
      have := own_set h.ato i (.int .i64 x)
      simp only [nts, List.length_set, List.map_set] at this ⊢
      exact this
    q := hq
    fb := fun k hk => by rw [size_setCell]; exact h.fb k hk
    rb := fun k hk => by rw [size_setCell]; exact h.rb k hk
    small := by simpa using h.small }
/-- a value more is taken -/
theorem Rv.setT {b n c : Nat} (h : Rv w F R B g s vP vL vC vS (.slice (some ⟨b, 0, none⟩) n c) vA ss tk) (hn : n = s.C.length) (i : Nat) (q : Qu) (v : V3) (l : List V3) (t : Int) (hq : s.C[i]? = some q) (hl : q.l = v :: l) (ht : tk[i]? = some t) :
    Rv (w.setCell ⟨b, i, none⟩ (.int .i64 (t + 1))) F R B g { s with C := s.C.set i { q with l := l } } vP vL vC vS (.slice (some ⟨b, 0, none⟩) n c) vA ss (tk.set i (t + 1)) ∧ Ch F F w (w.setCell ⟨b, i, none⟩ (.int .i64 (t + 1))) := by
  subst hn
  have hF := h.fT b rfl
  have hi : i < s.C.length := (List.getElem?_eq_some_iff.1 hq).1
  have htl := h.tl
  have ho : ∀ k, k ≠ b → (w.setCell ⟨b, i, none⟩ (.int .i64 (t + 1))).heap[k]? = w.heap[k]? := fun k hk => Below.heap_setCell _ _ _ _ hk
  obtain ⟨hap, hqq⟩ := h.other hF ho
  have hne : ∀ {T : TypeId} {n : Nat} {v : Value} {len : Nat} {xs : List Value}, w.ownsRow 0 T n v len xs → T ≠ 3 → v.ownBlock ≠ some b := fun hr hT e => own_apart hr h.ta hT b e rfl
  refine ⟨?_, ch_set hF _⟩
  exact { h with
    at_ := (ho g (fun e => own_at h.ta h.at_ (by decide) (by rw [e]; rfl))).trans h.at_
    pl := hap h.pl (hne h.pl (by decide))
    lo := hap h.lo (hne h.lo (by decide))
    ch := by
      rw [ccs_set s.C i q { q with l := l } hq rfl rfl]
      simpa using hap h.ch (hne h.ch (by decide))
    se := by simpa using hap h.se (hne h.se (by decide))
    ta := by
      have := own_set h.ta i (.int .i64 (t + 1))
      simp only [nts, List.length_set, List.map_set] at this ⊢
      exact this
    ato := by
      by_cases e : vA.ownBlock = some b
      · exact own_empty h.ato ((h.ne b rfl e).resolve_left (by omega)) e
      · exact hap h.ato e
    ne := fun k h1 h2 => by simpa using h.ne k h1 h2
    q := fun j q' v' t' hq' hv' ht' => by
      by_cases e : i = j
      · subst e
        rw [List.getElem?_set_self hi] at hq'
        rw [List.getElem?_set_self (by omega)] at ht'
        cases hq'
        cases ht'
        obtain ⟨f, n, h1, h2, h3, h4, h5, h6⟩ := hqq i q v' t hq hv' ht
        have hd : f.drop n = v :: l := h3.trans hl
        have hnl : n < f.length := by
          rcases Nat.lt_or_ge n f.length with h | h
          · exact h
          · rw [List.drop_eq_nil_of_le h] at hd
            cases hd
        refine ⟨f, n + 1, by rw [h1]; rfl, hnl, ?_, h4, h5, h6⟩
        have : f.drop (n + 1) = (f.drop n).tail := by simp
        rw [this, hd]
        rfl
      · rw [List.getElem?_set_ne e] at hq' ht'
        exact hqq j q' v' t' hq' hv' ht'
    fb := fun k hk => by rw [size_setCell]; exact h.fb k hk
    rb := fun k hk => by rw [size_setCell]; exact h.rb k hk
    small := by simpa using h.small
    rooms := fun q' hq' => by
      rcases List.mem_or_eq_of_mem_set hq' with h1 | h1
      · exact h.rooms q' h1
      · subst h1
        have := h.rooms q (List.mem_of_getElem? hq)
        rw [hl] at this
        simp at this
        exact ⟨this.1, this.2.1, by simp; omega⟩ }
/-- a value more is sent: it lies, with those before it, in a row of its own -/
theorem Rv.setS {b n c : Nat} (h : Rv w F R B g s vP vL vC (.slice (some ⟨b, 0, none⟩) n c) vT vA ss tk) (hn : n = s.C.length) (i : Nat) (q : Qu) (x : V3) (v' : Value) (t : Int) (hq : s.C[i]? = some q) (ht : tk[i]? = some t) (hr : (q.l.length : Int) < q.room)
    {f0 : List V3} {n0 : Nat} (g1 : t = n0) (g2 : n0 ≤ f0.length) (g3 : f0.drop n0 = q.l) (g4 : f0.length ≤ B) (hN : w.ownsRow 0 41 3 v' (f0.length + 1) (vcs (f0 ++ [x]))) (hfr : ∀ k, v'.ownBlock = some k → ¬ F k) :
    Rv (w.setCell ⟨b, i, none⟩ v') F (fun k => R k ∨ v'.ownBlock = some k) (B + 1) g { s with C := s.C.set i { q with l := q.l ++ [x] } } vP vL vC (.slice (some ⟨b, 0, none⟩) n c) vT vA (ss.set i v') tk ∧ Ch F F w (w.setCell ⟨b, i, none⟩ v') := by
  subst hn
  have hF := h.fS b rfl
  have hi : i < s.C.length := (List.getElem?_eq_some_iff.1 hq).1
  have hsl := h.sl
  have ho : ∀ k, k ≠ b → (w.setCell ⟨b, i, none⟩ v').heap[k]? = w.heap[k]? := fun k hk => Below.heap_setCell _ _ _ _ hk
  obtain ⟨hap, hqq⟩ := h.other hF ho
  have hne : ∀ {T : TypeId} {n : Nat} {v : Value} {len : Nat} {xs : List Value}, w.ownsRow 0 T n v len xs → T ≠ 46 → v.ownBlock ≠ some b := fun hr hT e => own_apart hr h.se hT b e rfl
  refine ⟨?_, ch_set hF _⟩
  exact { h with
    at_ := (ho g (fun e => own_at h.se h.at_ (by decide) (by rw [e]; rfl))).trans h.at_
    pl := hap h.pl (hne h.pl (by decide))
    lo := hap h.lo (hne h.lo (by decide))
    ch := by
      rw [ccs_set s.C i q { q with l := q.l ++ [x] } hq rfl rfl]
      simpa using hap h.ch (hne h.ch (by decide))
    se := by simpa using own_set h.se i v'
    ta := by simpa using hap h.ta (hne h.ta (by decide))
    ato := hap h.ato (hne h.ato (by decide))
    ne := fun k h1 h2 => by simpa using h.ne k h1 h2
    q := fun j q' v2 t' hq' hv' ht' => by
      by_cases e : i = j
      · subst e
        rw [List.getElem?_set_self hi] at hq'
        rw [List.getElem?_set_self (by omega)] at hv'
        cases hq'
        cases hv'
        rw [ht] at ht'
        cases ht'
        refine ⟨f0 ++ [x], n0, g1, by simp; omega, ?_, by simp; omega, by simpa using hap hN (hne hN (by decide)), fun k hk => .inr hk⟩
        rw [List.drop_append_of_le_length g2, g3]
      · rw [List.getElem?_set_ne e] at hq' hv'
        obtain ⟨f, n, h1, h2, h3, h4, h5, h6⟩ := hqq j q' v2 t' hq' hv' ht'
        exact ⟨f, n, h1, h2, h3, by omega, h5, fun k hk => .inl (h6 k hk)⟩
    fb := fun k hk => by rw [size_setCell]; exact h.fb k hk
    rb := fun k hk => by
      rw [size_setCell]
      rcases hk with hk | hk
      · exact h.rb k hk
      · exact (own_type hN hk).2.1
    fr := fun k hk => by
      rcases hk with hk | hk
      · exact h.fr k hk
      · exact hfr k hk
    small := by simpa using h.small
    rooms := fun q' hq' => by
      rcases List.mem_or_eq_of_mem_set hq' with h1 | h1
      · exact h.rooms q' h1
      · subst h1
        have := h.rooms q (List.mem_of_getElem? hq)
        exact ⟨this.1, this.2.1, by simp; omega⟩ }
end
end Go.Proofs.YtghfjnnmpmfboaaDoor.Ck
