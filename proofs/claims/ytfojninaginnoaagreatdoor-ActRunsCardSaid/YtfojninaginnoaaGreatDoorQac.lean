/- Texts of this proof, packed: contracts of the program's functions, and the plain model that they are held against. -/
import Derived.Test.YtfojninaginnoaaGreatDoorQab
import Derived.RegionTactic
set_option maxRecDepth 20000
set_option maxHeartbeats 4000000
namespace Go.Proofs.YtfojninaginnoaaGreatDoor.Ck
open Go.RowKit
def ccs : List Qu -> List Value
 | [] => []
 | q :: C => .int .i64 q.t :: .int .i64 q.room :: ccs C
theorem ccs_app : ∀ (C : List Qu) (q : Qu), ccs (C ++ [q]) = ccs C ++ [I_ q.t, I_ q.room]
 | [], q => rfl
 | x :: C, q => by simp [ccs, ccs_app C q]
theorem ccs_at : ∀ (C : List Qu) (i : Nat) (q : Qu), C[i]? = some q -> (ccs C)[2 * i]? = some (I_ q.t) /\ (ccs C)[2 * i + 1]? = some (I_ q.room)
 | [], i, q, h => by simp at h
 | q :: C, 0, q', h => by
  simp at h
  subst h
  exact ⟨rfl, rfl⟩
 | q :: C, i + 1, q', h => ccs_at C i q' (by simpa using h)
theorem ccs_set : ∀ (C : List Qu) (i : Nat) (q q' : Qu), C[i]? = some q -> q'.t = q.t -> q'.room = q.room -> ccs (C.set i q') = ccs C
 | [], i, q, q', h, _, _ => by simp at h
 | x :: C, 0, q, q', h, h1, h2 => by
  simp at h
  subst h
  simp [ccs, h1, h2]
 | x :: C, i + 1, q, q', h, h1, h2 => by simp only [List.set_cons_succ, ccs, ccs_set C i q q' (by simpa using h) h1 h2]
theorem own_empty {w : World} {B : Nat} {T : TypeId} {n b j : Nat} {v u : Value} {len : Nat} {xs : List Value} (h : w.ownsRow B T n v len xs) (h0 : len = 0) (hb : v.ownBlock = some b) : (w.setCell ⟨b, j, none⟩ u).ownsRow B T n v len xs := by
 subst h0
 rcases own_form h with ⟨rfl, _⟩ | ⟨b', c, rfl, _⟩
 · cases hb
 · cases hb
   have h2 := ZT h j u
   have e : xs = [] := by
    have := h.1
    simpa using this
   subst e
   exact h2
structure Rv (w : World) (F R : Nat -> Prop) (B g : Nat) (s : St) (vP vL vC vS vT vA : Value) (ss : List Value) (tk : List Int) : Prop where
 at_ : w.heap[g]? = some (.cells #[vP, vL, vC, vS, vT, vA] 91 (0, 0))
 pl : w.ownsRow 0 64 3 vP s.P.length (vcs s.P)
 lo : w.ownsRow 0 4 1 vL s.M.length (bls s.M)
 ch : w.ownsRow 0 94 2 vC s.C.length (ccs s.C)
 se : w.ownsRow 0 65 1 vS s.C.length ss
 ta : w.ownsRow 0 3 1 vT s.C.length (nts tk)
 ato : w.ownsRow 0 3 1 vA s.A.length (nts s.A)
 q : ∀ (i : Nat) (q : Qu) (v : Value) (t : Int), s.C[i]? = some q -> ss[i]? = some v -> tk[i]? = some t -> ∃ (f : List V3) (n : Nat), t = n /\ n <= f.length /\ f.drop n = q.l /\ f.length <= B /\ w.ownsRow 0 64 3 v f.length (vcs f) /\ ∀ k, v.ownBlock = some k -> R k
 ne : ∀ k, vT.ownBlock = some k -> vA.ownBlock = some k -> s.C.length = 0 ∨ s.A.length = 0
 fg : F g
 fP : ∀ k, vP.ownBlock = some k -> F k
 fL : ∀ k, vL.ownBlock = some k -> F k
 fC : ∀ k, vC.ownBlock = some k -> F k
 fS : ∀ k, vS.ownBlock = some k -> F k
 fT : ∀ k, vT.ownBlock = some k -> F k
 fA : ∀ k, vA.ownBlock = some k -> F k
 fb : ∀ k, F k -> k < w.heap.size
 rb : ∀ k, R k -> k < w.heap.size
 fr : ∀ k, R k -> ¬ F k
 small : s.P.length <= 128 /\ s.M.length <= 32 /\ s.C.length <= 32 /\ s.A.length <= 32
 rooms : ∀ q ∈ s.C, 0 <= q.room /\ q.room <= 8 /\ (q.l.length : Int) <= q.room
def Rt (w : World) (F R : Nat -> Prop) (B g : Nat) (s : St) : Prop := ∃ vP vL vC vS vT vA ss tk, Rv w F R B g s vP vL vC vS vT vA ss tk
section
variable {w w' : World} {F F' G R R' : Nat → Prop} {B g : Nat} {s : St} {vP vL vC vS vT vA : Value} {ss : List Value} {tk : List Int}
theorem Rv.sl (h : Rv w F R B g s vP vL vC vS vT vA ss tk) : ss.length = s.C.length := by have := h.se.1; omega
theorem Rv.tl (h : Rv w F R B g s vP vL vC vS vT vA ss tk) : tk.length = s.C.length := by have := h.ta.1; simp [nts] at this; omega
theorem Rv.keep (h : Rv w F R B g s vP vL vC vS vT vA ss tk) (hb : ∀ k, F k ∨ R k -> w'.heap[k]? = w.heap[k]?) (hs : w.heap.size <= w'.heap.size) : Rv w' F R B g s vP vL vC vS vT vA ss tk :=
 { h with
  at_ := (hb g (.inl h.fg)).trans h.at_
  pl := Zj h.pl fun k hk => hb k (.inl (h.fP k hk))
  lo := Zj h.lo fun k hk => hb k (.inl (h.fL k hk))
  ch := Zj h.ch fun k hk => hb k (.inl (h.fC k hk))
  se := Zj h.se fun k hk => hb k (.inl (h.fS k hk))
  ta := Zj h.ta fun k hk => hb k (.inl (h.fT k hk))
  ato := Zj h.ato fun k hk => hb k (.inl (h.fA k hk))
  q := fun i q v t hq hv ht => by
   obtain ⟨f, n, h1, h2, h3, h4, h5, h6⟩ := h.q i q v t hq hv ht
   exact ⟨f, n, h1, h2, h3, h4, Zj h5 fun k hk => hb k (.inr (h6 k hk)), h6⟩
  fb := fun k hk => Nat.lt_of_lt_of_le (h.fb k hk) hs
  rb := fun k hk => Nat.lt_of_lt_of_le (h.rb k hk) hs }
theorem Rv.bel (h : Rv w F R B g s vP vL vC vS vT vA ss tk) (hb : Below w.heap.size w w') : Rv w' F R B g s vP vL vC vS vT vA ss tk :=
 h.keep (fun k hk => hb.block k (hk.elim (h.fb k) (h.rb k))) hb.size
theorem Rt.bel (h : Rt w F R B g s) (hb : Below w.heap.size w w') : Rt w' F R B g s := by
 obtain ⟨vP, vL, vC, vS, vT, vA, ss, tk, h⟩ := h
 exact ⟨_, _, _, _, _, _, _, _, h.bel hb⟩
theorem Rt.fb (h : Rt w F R B g s) : ∀ k, F k -> k < w.heap.size := by
 obtain ⟨vP, vL, vC, vS, vT, vA, ss, tk, h⟩ := h
 exact h.fb
theorem Rt.rb (h : Rt w F R B g s) : ∀ k, R k -> k < w.heap.size := by
 obtain ⟨vP, vL, vC, vS, vT, vA, ss, tk, h⟩ := h
 exact h.rb
theorem Rt.fr (h : Rt w F R B g s) : ∀ k, R k -> ¬ F k := by
 obtain ⟨vP, vL, vC, vS, vT, vA, ss, tk, h⟩ := h
 exact h.fr
theorem Rt.more (h : Rt w F R B g s) {B' : Nat} (hB : B <= B') (hR : ∀ k, R k -> R' k) (hb : ∀ k, R' k -> k < w.heap.size) (hf : ∀ k, R' k -> ¬ F k) : Rt w F R' B' g s := by
 obtain ⟨vP, vL, vC, vS, vT, vA, ss, tk, h⟩ := h
 exact ⟨_, _, _, _, _, _, _, _, { h with
  q := fun i q v t hq hv ht => by
   obtain ⟨f, n, h1, h2, h3, h4, h5, h6⟩ := h.q i q v t hq hv ht
   exact ⟨f, n, h1, h2, h3, by omega, h5, fun k hk => hR k (h6 k hk)⟩
  rb := hb
  fr := hf }⟩
theorem Rv.cells (h : Rv w F R B g s vP vL vC vS vT vA ss tk) : w.cell? ⟨g, 0, none⟩ = some vP /\ w.cell? ⟨g, 1, none⟩ = some vL /\ w.cell? ⟨g, 2, none⟩ = some vC /\ w.cell? ⟨g, 3, none⟩ = some vS /\ w.cell? ⟨g, 4, none⟩ = some vT /\ w.cell? ⟨g, 5, none⟩ = some vA :=
 ⟨Zb h.at_ 0 _ rfl, Zb h.at_ 1 _ rfl, Zb h.at_ 2 _ rfl, Zb h.at_ 3 _ rfl, Zb h.at_ 4 _ rfl, Zb h.at_ 5 _ rfl⟩
theorem Rv.other (h : Rv w F R B g s vP vL vC vS vT vA ss tk) {b : Nat} (hb : F b) (ho : ∀ k, k ≠ b -> w'.heap[k]? = w.heap[k]?) :
 (∀ {T : TypeId} {n : Nat} {v : Value} {len : Nat} {xs : List Value}, w.ownsRow 0 T n v len xs -> v.ownBlock ≠ some b -> w'.ownsRow 0 T n v len xs) ∧
 (∀ (i : Nat) (q : Qu) (v : Value) (t : Int), s.C[i]? = some q -> ss[i]? = some v -> tk[i]? = some t -> ∃ (f : List V3) (n : Nat), t = n /\ n <= f.length /\ f.drop n = q.l /\ f.length <= B /\ w'.ownsRow 0 64 3 v f.length (vcs f) /\ ∀ k, v.ownBlock = some k -> R k) := by
 have hap : ∀ {T : TypeId} {n : Nat} {v : Value} {len : Nat} {xs : List Value}, w.ownsRow 0 T n v len xs -> v.ownBlock ≠ some b -> w'.ownsRow 0 T n v len xs := fun hr hT =>
  Zj hr fun k hk => ho k (fun e => by subst e; exact hT hk)
 refine ⟨hap, fun i q v t hq hv ht => ?_⟩
 obtain ⟨f, n, h1, h2, h3, h4, h5, h6⟩ := h.q i q v t hq hv ht
 exact ⟨f, n, h1, h2, h3, h4, hap h5 (fun e => h.fr b (h6 b e) hb), h6⟩
theorem Rv.setP {b n c : Nat} (h : Rv w F R B g s (.slice (some ⟨b, 0, none⟩) n c) vL vC vS vT vA ss tk) (hn : n = s.P.length) (i : Nat) (x : V3) :
 Rv (((w.setCell ⟨b, 3 * i, none⟩ (I_ x.1)).setCell ⟨b, 3 * i + 1, none⟩ (I_ x.2.1)).setCell ⟨b, 3 * i + 2, none⟩ (.int .u64 x.2.2)) F R B g { s with P := s.P.set i x } (.slice (some ⟨b, 0, none⟩) n c) vL vC vS vT vA ss tk ∧
  Ch F F w (((w.setCell ⟨b, 3 * i, none⟩ (I_ x.1)).setCell ⟨b, 3 * i + 1, none⟩ (I_ x.2.1)).setCell ⟨b, 3 * i + 2, none⟩ (.int .u64 x.2.2)) := by
 subst hn
 have hF := h.fP b rfl
 generalize hw : ((w.setCell ⟨b, 3 * i, none⟩ (I_ x.1)).setCell ⟨b, 3 * i + 1, none⟩ (I_ x.2.1)).setCell ⟨b, 3 * i + 2, none⟩ (.int .u64 x.2.2) = w'
 have ho : ∀ k, k ≠ b -> w'.heap[k]? = w.heap[k]? := fun k hk => by
  rw [← hw]
  exact (Below.heap_setCell _ _ _ _ hk).trans ((Below.heap_setCell _ _ _ _ hk).trans (Below.heap_setCell _ _ _ _ hk))
 obtain ⟨hap, hq⟩ := h.other hF ho
 have hne : ∀ {T : TypeId} {n : Nat} {v : Value} {len : Nat} {xs : List Value}, w.ownsRow 0 T n v len xs -> T ≠ 64 -> v.ownBlock ≠ some b := fun hr hT e => Zo hr h.pl hT b e rfl
 refine ⟨?_, by rw [← hw]; exact (ZJ hF _).trans ((ZJ hF _).trans (ZJ hF _))⟩
 have hsz : w'.heap.size = w.heap.size := by rw [← hw, Zi, Zi, Zi]
 exact { h with
  at_ := (ho g (fun e => Zv h.pl h.at_ (by decide) (by rw [e]; rfl))).trans h.at_
  pl := by
   have := ZT (ZT (ZT h.pl (3 * i) (I_ x.1)) (3 * i + 1) (I_ x.2.1)) (3 * i + 2) (.int .u64 x.2.2)
   rw [hw] at this
   simp only [List.length_set, vcs_set]
   exact this
  lo := hap h.lo (hne h.lo (by decide))
  ch := hap h.ch (hne h.ch (by decide))
  se := hap h.se (hne h.se (by decide))
  ta := hap h.ta (hne h.ta (by decide))
  ato := hap h.ato (hne h.ato (by decide))
  q := hq
  fb := fun k hk => by rw [hsz]; exact h.fb k hk
  rb := fun k hk => by rw [hsz]; exact h.rb k hk
  small := by simpa using h.small }
theorem Rv.setL {b n c : Nat} (h : Rv w F R B g s vP (.slice (some ⟨b, 0, none⟩) n c) vC vS vT vA ss tk) (hn : n = s.M.length) (i : Nat) (x : Bool) :
 Rv (w.setCell ⟨b, i, none⟩ (.bool x)) F R B g { s with M := s.M.set i x } vP (.slice (some ⟨b, 0, none⟩) n c) vC vS vT vA ss tk /\ Ch F F w (w.setCell ⟨b, i, none⟩ (.bool x)) := by
 subst hn
 have hF := h.fL b rfl
 have ho : ∀ k, k ≠ b -> (w.setCell ⟨b, i, none⟩ (.bool x)).heap[k]? = w.heap[k]? := fun k hk => Below.heap_setCell _ _ _ _ hk
 obtain ⟨hap, hq⟩ := h.other hF ho
 have hne : ∀ {T : TypeId} {n : Nat} {v : Value} {len : Nat} {xs : List Value}, w.ownsRow 0 T n v len xs -> T ≠ 4 -> v.ownBlock ≠ some b := fun hr hT e => Zo hr h.lo hT b e rfl
 refine ⟨?_, ZJ hF _⟩
 exact { h with
  at_ := (ho g (fun e => Zv h.lo h.at_ (by decide) (by rw [e]; rfl))).trans h.at_
  pl := hap h.pl (hne h.pl (by decide))
  lo := by
   have := ZT h.lo i (.bool x)
   simp only [bls, List.length_set, List.map_set] at this ⊢
   exact this
  ch := hap h.ch (hne h.ch (by decide))
  se := hap h.se (hne h.se (by decide))
  ta := hap h.ta (hne h.ta (by decide))
  ato := hap h.ato (hne h.ato (by decide))
  q := hq
  fb := fun k hk => by rw [Zi]; exact h.fb k hk
  rb := fun k hk => by rw [Zi]; exact h.rb k hk
  small := by simpa using h.small }
theorem Rv.setA {b n c : Nat} (h : Rv w F R B g s vP vL vC vS vT (.slice (some ⟨b, 0, none⟩) n c) ss tk) (hn : n = s.A.length) (i : Nat) (hi : i < n) (x : Int) :
 Rv (w.setCell ⟨b, i, none⟩ (I_ x)) F R B g { s with A := s.A.set i x } vP vL vC vS vT (.slice (some ⟨b, 0, none⟩) n c) ss tk /\ Ch F F w (w.setCell ⟨b, i, none⟩ (I_ x)) := by
 subst hn
 have hF := h.fA b rfl
 have ho : ∀ k, k ≠ b -> (w.setCell ⟨b, i, none⟩ (I_ x)).heap[k]? = w.heap[k]? := fun k hk => Below.heap_setCell _ _ _ _ hk
 obtain ⟨hap, hq⟩ := h.other hF ho
 have hne : ∀ {T : TypeId} {n : Nat} {v : Value} {len : Nat} {xs : List Value}, w.ownsRow 0 T n v len xs -> T ≠ 3 -> v.ownBlock ≠ some b := fun hr hT e => Zo hr h.ato hT b e rfl
 refine ⟨?_, ZJ hF _⟩
 exact { h with
  at_ := (ho g (fun e => Zv h.ato h.at_ (by decide) (by rw [e]; rfl))).trans h.at_
  pl := hap h.pl (hne h.pl (by decide))
  lo := hap h.lo (hne h.lo (by decide))
  ch := hap h.ch (hne h.ch (by decide))
  se := hap h.se (hne h.se (by decide))
  ne := fun k h1 h2 => by simpa using h.ne k h1 h2
  ta := by
   by_cases e : vT.ownBlock = some b
   · have hA : 0 < s.A.length := by omega
     have h0 : s.C.length = 0 := (h.ne b e rfl).resolve_right (by omega)
     exact own_empty h.ta h0 e
   · exact hap h.ta e
  ato := by
   have := ZT h.ato i (I_ x)
   simp only [nts, List.length_set, List.map_set] at this ⊢
   exact this
  q := hq
  fb := fun k hk => by rw [Zi]; exact h.fb k hk
  rb := fun k hk => by rw [Zi]; exact h.rb k hk
  small := by simpa using h.small }
theorem Rv.setT {b n c : Nat} (h : Rv w F R B g s vP vL vC vS (.slice (some ⟨b, 0, none⟩) n c) vA ss tk) (hn : n = s.C.length) (i : Nat) (q : Qu) (v : V3) (l : List V3) (t : Int) (hq : s.C[i]? = some q) (hl : q.l = v :: l) (ht : tk[i]? = some t) :
 Rv (w.setCell ⟨b, i, none⟩ (I_ (t + 1))) F R B g { s with C := s.C.set i { q with l := l } } vP vL vC vS (.slice (some ⟨b, 0, none⟩) n c) vA ss (tk.set i (t + 1)) /\ Ch F F w (w.setCell ⟨b, i, none⟩ (I_ (t + 1))) := by
 subst hn
 have hF := h.fT b rfl
 have hi : i < s.C.length := (G_ hq)
 have htl := h.tl
 have ho : ∀ k, k ≠ b -> (w.setCell ⟨b, i, none⟩ (I_ (t + 1))).heap[k]? = w.heap[k]? := fun k hk => Below.heap_setCell _ _ _ _ hk
 obtain ⟨hap, hqq⟩ := h.other hF ho
 have hne : ∀ {T : TypeId} {n : Nat} {v : Value} {len : Nat} {xs : List Value}, w.ownsRow 0 T n v len xs -> T ≠ 3 -> v.ownBlock ≠ some b := fun hr hT e => Zo hr h.ta hT b e rfl
 refine ⟨?_, ZJ hF _⟩
 exact { h with
  at_ := (ho g (fun e => Zv h.ta h.at_ (by decide) (by rw [e]; rfl))).trans h.at_
  pl := hap h.pl (hne h.pl (by decide))
  lo := hap h.lo (hne h.lo (by decide))
  ch := by
   rw [ccs_set s.C i q { q with l := l } hq rfl rfl]
   simpa using hap h.ch (hne h.ch (by decide))
  se := by simpa using hap h.se (hne h.se (by decide))
  ta := by
   have := ZT h.ta i (I_ (t + 1))
   simp only [nts, List.length_set, List.map_set] at this ⊢
   exact this
  ato := by
   by_cases e : vA.ownBlock = some b
   · exact own_empty h.ato ((h.ne b rfl e).resolve_left (by omega)) e
   · exact hap h.ato e
  ne := fun k h1 h2 => by simpa using h.ne k h1 h2
  q := fun j q' v' t' hq' hv' ht' => by
   by_cases e : i = j
   · subst e
     rw [List.getElem?_set_self hi] at hq'
     rw [List.getElem?_set_self (by omega)] at ht'
     cases hq'
     cases ht'
     obtain ⟨f, n, h1, h2, h3, h4, h5, h6⟩ := hqq i q v' t hq hv' ht
     have hd : f.drop n = v :: l := h3.trans hl
     have hnl : n < f.length := by
      rcases Nat.lt_or_ge n f.length with h | h
      · exact h
      · rw [List.drop_eq_nil_of_le h] at hd
        cases hd
     refine ⟨f, n + 1, by rw [h1]; rfl, hnl, ?_, h4, h5, h6⟩
     have : f.drop (n + 1) = (f.drop n).tail := by simp
     rw [this, hd]
     rfl
   · rw [List.getElem?_set_ne e] at hq' ht'
     exact hqq j q' v' t' hq' hv' ht'
  fb := fun k hk => by rw [Zi]; exact h.fb k hk
  rb := fun k hk => by rw [Zi]; exact h.rb k hk
  small := by simpa using h.small
  rooms := fun q' hq' => by
   rcases List.mem_or_eq_of_mem_set hq' with h1 | h1
   · exact h.rooms q' h1
   · subst h1
     have := h.rooms q (List.mem_of_getElem? hq)
     rw [hl] at this
     simp at this
     exact ⟨this.1, this.2.1, by simp; omega⟩ }
theorem Rv.setS {b n c : Nat} (h : Rv w F R B g s vP vL vC (.slice (some ⟨b, 0, none⟩) n c) vT vA ss tk) (hn : n = s.C.length) (i : Nat) (q : Qu) (x : V3) (v' : Value) (t : Int) (hq : s.C[i]? = some q) (ht : tk[i]? = some t) (hr : (q.l.length : Int) < q.room)
 {f0 : List V3} {n0 : Nat} (g1 : t = n0) (g2 : n0 <= f0.length) (g3 : f0.drop n0 = q.l) (g4 : f0.length <= B) (hN : w.ownsRow 0 64 3 v' (f0.length + 1) (vcs (f0 ++ [x]))) (hfr : ∀ k, v'.ownBlock = some k -> ¬ F k) :
 Rv (w.setCell ⟨b, i, none⟩ v') F (fun k => R k ∨ v'.ownBlock = some k) (B + 1) g { s with C := s.C.set i { q with l := q.l ++ [x] } } vP vL vC (.slice (some ⟨b, 0, none⟩) n c) vT vA (ss.set i v') tk /\ Ch F F w (w.setCell ⟨b, i, none⟩ v') := by
 subst hn
 have hF := h.fS b rfl
 have hi : i < s.C.length := (G_ hq)
 have hsl := h.sl
 have ho : ∀ k, k ≠ b -> (w.setCell ⟨b, i, none⟩ v').heap[k]? = w.heap[k]? := fun k hk => Below.heap_setCell _ _ _ _ hk
 obtain ⟨hap, hqq⟩ := h.other hF ho
 have hne : ∀ {T : TypeId} {n : Nat} {v : Value} {len : Nat} {xs : List Value}, w.ownsRow 0 T n v len xs -> T ≠ 65 -> v.ownBlock ≠ some b := fun hr hT e => Zo hr h.se hT b e rfl
 refine ⟨?_, ZJ hF _⟩
 exact { h with
  at_ := (ho g (fun e => Zv h.se h.at_ (by decide) (by rw [e]; rfl))).trans h.at_
  pl := hap h.pl (hne h.pl (by decide))
  lo := hap h.lo (hne h.lo (by decide))
  ch := by
   rw [ccs_set s.C i q { q with l := q.l ++ [x] } hq rfl rfl]
   simpa using hap h.ch (hne h.ch (by decide))
  se := by simpa using ZT h.se i v'
  ta := by simpa using hap h.ta (hne h.ta (by decide))
  ato := hap h.ato (hne h.ato (by decide))
  ne := fun k h1 h2 => by simpa using h.ne k h1 h2
  q := fun j q' v2 t' hq' hv' ht' => by
   by_cases e : i = j
   · subst e
     rw [List.getElem?_set_self hi] at hq'
     rw [List.getElem?_set_self (by omega)] at hv'
     cases hq'
     cases hv'
     rw [ht] at ht'
     cases ht'
     refine ⟨f0 ++ [x], n0, g1, by simp; omega, ?_, by simp; omega, by simpa using hap hN (hne hN (by decide)), fun k hk => .inr hk⟩
     rw [List.drop_append_of_le_length g2, g3]
   · rw [List.getElem?_set_ne e] at hq' hv'
     obtain ⟨f, n, h1, h2, h3, h4, h5, h6⟩ := hqq j q' v2 t' hq' hv' ht'
     exact ⟨f, n, h1, h2, h3, by omega, h5, fun k hk => .inl (h6 k hk)⟩
  fb := fun k hk => by rw [Zi]; exact h.fb k hk
  rb := fun k hk => by
   rw [Zi]
   rcases hk with hk | hk
   · exact h.rb k hk
   · exact (Zf hN hk).2.1
  fr := fun k hk => by
   rcases hk with hk | hk
   · exact h.fr k hk
   · exact hfr k hk
  small := by simpa using h.small
  rooms := fun q' hq' => by
   rcases List.mem_or_eq_of_mem_set hq' with h1 | h1
   · exact h.rooms q' h1
   · subst h1
     have := h.rooms q (List.mem_of_getElem? hq)
     exact ⟨this.1, this.2.1, by simp; omega⟩ }
end
theorem form_any (t n b : Int) (w : World) : Calls Tryz.prog 35 #[.agg #[I_ t, I_ n, .int .u64 b]] w (Vb w (.bool (Yn t n b))) := by
 have HB := Za (Zd w (.cells #[I_ t, I_ n, .int .u64 b] 64))
 obtain ⟨g, hg⟩ : ∃ g, Yn t n b = g := ⟨_, rfl⟩
 rw [hg]
 have HG := Za hg
 clear hg
 by_cases h1 : t = 1
 · subst h1
   by_cases h2 : b = 0
   · subst h2
     go_enter Tryz.func35, Tryz.ntmps35
     go_wp2_with fail
     go_ret
     exact Vb.mk (congrArg Value.bool (by rw [← HG.out]; simp [Yn])) HB.out
   go_enter Tryz.func35, Tryz.ntmps35
   go_wp2_with fail
   go_ret
   exact Vb.mk (congrArg Value.bool (by rw [← HG.out]; simp [Yn] <;> omega)) HB.out
 by_cases h2 : t = 2
 · subst h2
   by_cases h3 : n = 0
   · subst h3
     go_enter Tryz.func35, Tryz.ntmps35
     go_wp2_with fail
     go_ret
     exact Vb.mk (congrArg Value.bool (by rw [← HG.out]; simp [Yn])) HB.out
   go_enter Tryz.func35, Tryz.ntmps35
   go_wp2_with fail
   go_ret
   exact Vb.mk (congrArg Value.bool (by rw [← HG.out]; simp [Yn] <;> omega)) HB.out
 by_cases h3 : t = 3
 · subst h3
   by_cases h4 : b = 0
   · subst h4
     by_cases h5 : n < 0
     · go_enter Tryz.func35, Tryz.ntmps35
       go_wp2_with fail
       go_ret
       exact Vb.mk (congrArg Value.bool (by rw [← HG.out]; simp [Yn]; omega)) HB.out
     by_cases h6 : 1 < n
     · have d6 : decide (n <= 1) = false := decide_eq_false (by omega)
       have d7 : Yn 3 n 0 = false := by simp [Yn]; omega
       rw [d7] at HG
       go_enter Tryz.func35, Tryz.ntmps35
       go_wp2_with fail
       go_ret
       exact Vb.mk (congrArg Value.bool (by rw [← HG.out])) HB.out
     have h7 : n = 0 ∨ n = 1 := by omega
     rcases h7 with rfl | rfl
     all_goals
      go_enter Tryz.func35, Tryz.ntmps35
      go_wp2_with fail
      go_ret
      exact Vb.mk (congrArg Value.bool (by rw [← HG.out]; simp [Yn])) HB.out
   go_enter Tryz.func35, Tryz.ntmps35
   go_wp2_with fail
   go_ret
   exact Vb.mk (congrArg Value.bool (by rw [← HG.out]; simp [Yn, h4])) HB.out
 go_enter Tryz.func35, Tryz.ntmps35
 go_wp2_with fail
 all_goals
  go_ret
  exact Vb.mk (congrArg Value.bool (by rw [← HG.out]; simp [Yn, h1, h2, h3])) HB.out
theorem in_yes (i n : Nat) (w : World) (hi : i < n) : Calls Tryz.prog 34 #[I_ (i : Nat), I_ (n : Nat)] w fun e w' => e = .returned (.bool true) /\ w = w' := by
 go_enter Tryz.func34, Tryz.ntmps34
 go_wp2_with fail
 go_ret
 exact ⟨by simp, rfl⟩
theorem in_no (i : Int) (n : Nat) (w : World) (hi : i < 0 ∨ (n : Int) <= i) : Calls Tryz.prog 34 #[I_ i, I_ (n : Nat)] w fun e w' => e = .returned (.bool false) /\ w = w' := by
 by_cases h0 : i < 0
 · clear hi
   go_enter Tryz.func34, Tryz.ntmps34
   go_wp2_with fail
   go_ret
   exact ⟨by simp, rfl⟩
 · have h1 : (n : Int) <= i := by omega
   have h2 : 0 <= i := by omega
   have h3 : decide (i < (n : Int)) = false := decide_eq_false (by omega)
   clear hi h0
   go_enter Tryz.func34, Tryz.ntmps34
   go_wp2_with fail
   go_ret
   exact ⟨by simp, rfl⟩
def Rp (w : World) (F R : Nat -> Prop) (B g : Nat) (s' : St) (v : Value) (e : Ending) (w' : World) : Prop := e = .returned v /\ ∃ F' R', Rt w' F' R' B g s' /\ Ch F F' w w' /\ (∀ k, R k -> R' k) /\ ∀ k, R' k -> R k ∨ w.heap.size <= k
theorem Rp.mk {w w' : World} {F F' R : Nat -> Prop} {B g : Nat} {s' : St} {v v' : Value} (hv : v = v') (h : Rt w' F' R B g s') (hc : Ch F F' w w') : Rp w F R B g s' v' (.returned v) w' := ⟨by rw [hv], F', R, h, hc, fun _ h => h, fun _ h => .inl h⟩
theorem rHeld_q {w : World} {F R : Nat -> Prop} {B g : Nat} {s : St} (h : Rt w F R B g s) (hB : B <= 1000000) (i : Nat) (q : Qu) (hx : s.C[i]? = some q) : Calls Tryz.prog 37 #[P_ g, I_ (i : Nat)] w fun e w' => e = .returned (I_ (q.l.length : Nat)) /\ ∃ k, w' = w.drewN k := by
 obtain ⟨vP, vL, vC, vS, vT, vA, ss, tk, h⟩ := h
 have hi : i < s.C.length := (G_ hx)
 obtain ⟨b, c, e, hc, hm⟩ := Zq h.ch (by omega)
 have hsm := h.small
 obtain ⟨n, hn⟩ : ∃ n, n = s.C.length := ⟨_, rfl⟩
 rw [← hn] at e hi hc
 have hn128 : n <= 128 := by omega
 subst e
 have HN := Za hn
 have c1 := h.cells.2.2.1
 have hgl := h.fb g h.fg
 have hbl : b < w.heap.size := (Zf h.ch (k := b) rfl).2.1
 have hsl := h.sl
 have htl := h.tl
 obtain ⟨vq, hv⟩ : ∃ v, ss[i]? = some v := ⟨_, List.getElem?_eq_getElem (by omega)⟩
 obtain ⟨t0, ht⟩ : ∃ t, tk[i]? = some t := ⟨_, List.getElem?_eq_getElem (by omega)⟩
 obtain ⟨f, tn, e1, hle, hdr, hfB, oq, rq⟩ := h.q i q vq t0 hx hv ht
 subst e1
 obtain ⟨aq, cq, eq, hcq, hmq⟩ := Zl oq
 subst eq
 obtain ⟨bS, cS, eS, _⟩ := Zq h.se (by omega)
 obtain ⟨bT, cT, eT, _⟩ := Zq h.ta (by omega)
 rw [← hn] at eS eT
 subst eS eT
 have hfl : f.length - tn = q.l.length := by rw [← hdr, List.length_drop]
 have c3 := h.cells.2.2.2.1
 have c4 := h.cells.2.2.2.2.1
 have dS := (Zk h.se i _ hv).1
 have dT := (Zk h.ta i _ (nts_at ht)).1
 obtain ⟨fl, hfl1⟩ : ∃ fl, fl = f.length := ⟨_, rfl⟩
 rw [← hfl1] at dS
 have hb1 : fl <= 1000000 := by omega
 have hb2 : tn <= fl := by omega
 have E : Hid ((fl : Int) - (tn : Int) = (q.l.length : Nat)) := Za (by omega)
 clear h hsm hc hm hn hv ht oq rq hfl hdr hle hfB hcq hmq hsl htl hfl1 hB
 go_enter Tryz.func37, Tryz.ntmps37
 go_wp2_with fail
 refine (in_yes i n _ hi).mono ?_
 rintro e w1 ⟨rfl, rfl⟩
 go_wp2_with fail
 go_quiet (fail)
 go_wp2_with fail
 go_ret
 exact ⟨by rw [← E.out]; rfl, _, rfl⟩
def Sw (w : World) (gb : Nat) (t m z : Int) (g fld b off : Nat) (v : Value) (x0 : Int) : Prop := Val w gb t m z /\ w.cell? ⟨g, fld, none⟩ = some v /\ g < w.heap.size /\ w.cell? ⟨b, off, none⟩ = some (I_ x0) /\ b < w.heap.size
theorem Sw.al {w w' : World} {gb : Nat} {t m z : Int} {g fld b off : Nat} {v : Value} {x0 : Int} (h : Sw w gb t m z g fld b off v x0) (hb : Below w.heap.size w w') : Sw w' gb t m z g fld b off v x0 :=
 ⟨h.1.al hb, (hb.cell (p := ⟨g, fld, none⟩) h.2.2.1).trans h.2.1, Nat.lt_of_lt_of_le h.2.2.1 hb.size, (hb.cell (p := ⟨b, off, none⟩) h.2.2.2.2).trans h.2.2.2.1, Nat.lt_of_lt_of_le h.2.2.2.2 hb.size⟩
def cnt : List Bool -> Nat
 | [] => 0
 | true :: l => cnt l
 | false :: l => cnt l + 1
theorem cnt_set : ∀ (l : List Bool) (i : Nat), l[i]? = some false -> cnt (l.set i true) + 1 = cnt l
 | [], i, h => by simp at h
 | b :: l, 0, h => by
  simp at h
  subst h
  rfl
 | b :: l, i + 1, h => by
  have := cnt_set l i (by simpa using h)
  cases b <;> simp only [List.set_cons_succ, cnt] <;> omega
theorem cnt_zero : ∀ (l : List Bool), cnt l = 0 -> ∀ (i : Nat) (b : Bool), l[i]? = some b -> b = true
 | [], _, i, b, h => by simp at h
 | true :: l, hc, 0, b, h => by
  simp at h
  exact h
 | true :: l, hc, i + 1, b, h => cnt_zero l hc i b (by simpa using h)
 | false :: l, hc, i, b, h => by simp [cnt] at hc
theorem cnt_first : ∀ (l : List Bool), cnt l ≠ 0 -> ∃ j : Nat, l[j]? = some false /\ ∀ k, k < j -> l[k]? = some true
 | [], h => absurd rfl h
 | false :: l, _ => ⟨0, rfl, fun k hk => absurd hk (Nat.not_lt_zero _)⟩
 | true :: l, h => by
  obtain ⟨j, h1, h2⟩ := cnt_first l h
  refine ⟨j + 1, h1, fun k hk => ?_⟩
  cases k with
  | zero => rfl
  | succ k => exact h2 k (by omega)
theorem cnt_rep : ∀ n, cnt (List.replicate n false) = n
 | 0 => rfl
 | n + 1 => by rw [List.replicate_succ, cnt, cnt_rep n]
def upd (u : Nat -> Value) (i : Nat) (v : Value) : Nat -> Value := fun j => if j = i then v else u j
theorem ZH (u : Nat -> Value) (i : Nat) (v : Value) : upd u i v i = v := by simp [upd]
theorem Zs (u : Nat -> Value) {i j : Nat} (v : Value) (h : j ≠ i) : upd u i v j = u j := by simp [upd, h]
section
variable {P : Program} {md : Region.Mode} {ops : Array Oper} {Q : Exit → Act → World → Prop} {A : (Nat → Value) → Act} {Fa Ga : Nat → (Nat → Value) → World → Prop} {Rel : Nat → (Nat → Value) → World → World → Prop}
structure Inv (md : Region.Mode) (ops : Array Oper) (Fa Ga : Nat -> (Nat -> Value) -> World -> Prop) (listed : Array Bool) (u : Nat -> Value) (w : World) : Prop where
 size : listed.size = ops.size
 fa : ∀ j, listed.getD j false = true -> Fa j u w
 ga : ∀ j, listed.getD j true = false -> Ga j u w
 cl : ∀ j o, ops[j]? = some o -> listed.getD j false = true -> ∀ e ∈ o.after, Region.binds md e = true -> listed.getD e.on false = true
theorem getD_of {l : Array Bool} {j : Nat} {b d : Bool} (h : l.toList[j]? = some b) : l.getD j d = b := by
 have : l[j]? = some b := by rw [← Array.getElem?_toList]; exact h
 simp [this]
theorem of_getD {l : Array Bool} {j : Nat} (h : l.getD j true = false) : l.toList[j]? = some false := by
 rw [Array.getElem?_toList]
 simp only [Array.getD_eq_getD_getElem?] at h
 cases hj : l[j]? with
 | none => rw [hj] at h; cases h
 | some b => rw [hj] at h; simp at h; rw [h]
theorem wpAny_local (hord : ∀ j o, ops[j]? = some o -> ∀ e ∈ o.after, Region.binds md e = true -> e.on < j)
    (hfa : ∀ i j u v w w', i ≠ j -> (∀ o, ops[j]? = some o -> ∀ e ∈ o.after, Region.binds md e = true -> e.on ≠ i) -> j < ops.size -> Rel i u w w' -> Fa j u w -> Fa j (upd u i v) w') (hga : ∀ i j u v w w', i ≠ j -> Rel i u w w' -> Ga j u w -> Ga j (upd u i v) w')
    (hop : ∀ i o u w, ops[i]? = some o -> (∀ e ∈ o.after, Region.binds md e = true -> Fa e.on u w) -> (∀ j o', ops[j]? = some o' -> (∃ e ∈ o'.after, Region.binds md e = true /\ e.on = i) -> Ga j u w) -> Ga i u w →
      wpOp P ops Q i (fun a' w' => ∃ v, a' = A (upd u i v) /\ Rel i u w w' /\ Fa i (upd u i v) w') (A u) w)
    (hQ : ∀ u w, (∀ j, j < ops.size -> Fa j u w) -> Q .normal (A u) w) :
    ∀ (fuel : Nat) (listed : Array Bool) (u : Nat -> Value) (w : World), cnt listed.toList = fuel -> Inv md ops Fa Ga listed u w -> wpAny P md ops Q fuel listed (A u) w := by
  intro fuel
  induction fuel with
  | zero =>
    intro listed u w hc hI
    refine ⟨?_, hQ u w fun j hj => hI.fa j ?_⟩
    · rw [List.eq_nil_iff_forall_not_mem]
      intro j hj
      have h := of_getD (mem_ready.1 hj).1
      exact absurd (cnt_zero _ hc j false h) (by decide)
    · have hlt : j < listed.toList.length := by rw [Array.length_toList, hI.size]; exact hj
      have hb := cnt_zero _ hc j _ (List.getElem?_eq_getElem hlt)
      exact getD_of ((List.getElem?_eq_getElem hlt).trans (congrArg some hb))
  | succ fuel ih =>
    intro listed u w hc hI
    refine ⟨fun h0 => ?_, fun i hi => ?_⟩
    · obtain ⟨j, h1, h2⟩ := cnt_first listed.toList (by omega)
      have hlt : j < ops.size := by
        have := (G_ h1)
        rw [Array.length_toList, hI.size] at this
        exact this
      have : j ∈ Region.ready md ops listed := mem_ready.2 ⟨getD_of h1, _, Array.getElem?_eq_getElem hlt, fun e he hb => getD_of (h2 e.on (hord j _ (Array.getElem?_eq_getElem hlt) e he hb))⟩
      rw [h0] at this
      cases this
    · obtain ⟨h0, o, ho, hall⟩ := mem_ready.1 hi
      have hif : listed.toList[i]? = some false := of_getD h0
      refine wpOp_mono (fun a' w' h' => ?_) (hop i o u w ho (fun e he hb => hI.fa _ (hall e he hb)) (fun j o' ho' ⟨e, he, hb, hei⟩ => hI.ga j ?_) (hI.ga i h0))
      · obtain ⟨v, rfl, hr, hf⟩ := h'
        refine ih _ _ _ ?_ ⟨by simpa using hI.size, fun j hj => ?_, fun j hj => ?_, fun j o' ho' hj e he hb => ?_⟩
        · have h3 := cnt_set _ _ hif
          rw [Array.toList_setIfInBounds]
          omega
        · by_cases e : i = j
          · subst e
            exact hf
          · rw [getD_set_ne false e] at hj
            refine hfa i j u v w w' e (fun o' ho' e' he' hb' heq => ?_) ?_ hr (hI.fa j hj)
            · have h3 := hI.cl j o' ho' hj e' he' hb'
              rw [heq] at h3
              have h4 := getD_of (d := false) hif
              rw [h3] at h4
              cases h4
            · rw [← hI.size]
              rcases Nat.lt_or_ge j listed.size with h' | h'
              · exact h'
              · simp [Array.getElem?_eq_none h'] at hj
        · by_cases e : i = j
          · subst e
            have hlt : i < listed.size := (G_ hif)
            simp [hlt] at hj
          · rw [getD_set_ne true e] at hj
            exact hga i j u v w w' e hr (hI.ga j hj)
        · by_cases e1 : i = j
          · subst e1
            rw [ho] at ho'
            cases ho'
            exact getD_set_true (hall e he hb)
          · rw [getD_set_ne false e1] at hj
            exact getD_set_true (hI.cl j o' ho' hj e he hb)
      · have hlt : j < listed.size := by rw [hI.size]; exact (Array.getElem?_eq_some_iff.1 ho').1
        cases hb2 : listed[j] with
        | false => simp [hlt, hb2]
        | true =>
          have h3 := hI.cl j o' ho' (by simp [hlt, hb2]) e he hb
          rw [hei] at h3
          have h4 := getD_of (d := false) hif
          rw [h3] at h4
          cases h4
def depB (ops : Array Oper) (i d : Nat) : Bool := match ops[i]? with
 | some o => o.after.toList.any fun e => Region.binds .any e && e.on == d
 | none => false
def ordB (ops : Array Oper) : Bool := (List.range ops.size).all fun j => match ops[j]? with
 | some o => o.after.all fun e => !Region.binds .any e || decide (e.on < j)
 | none => true
theorem ordB_spec (h : ordB ops = true) : ∀ j o, ops[j]? = some o -> ∀ e ∈ o.after, Region.binds .any e = true -> e.on < j := fun j o ho e he hb => by
 unfold ordB at h
 rw [List.all_eq_true] at h
 have h1 := h j (List.mem_range.2 (Array.getElem?_eq_some_iff.1 ho).1)
 rw [ho] at h1
 simp only [Array.all_eq_true_iff_forall_mem] at h1
 have h2 := h1 e he
 rw [hb] at h2
 simpa using h2
theorem depB_spec {i d : Nat} (h : depB ops i d = true) : ∃ o, ops[i]? = some o /\ ∃ e ∈ o.after, Region.binds .any e = true /\ e.on = d := by
 unfold depB at h
 cases ho : ops[i]? with
 | none => rw [ho] at h; cases h
 | some o =>
  rw [ho] at h
  have h' : (o.after.toList.any fun e => Region.binds .any e && e.on == d) = true := h
  rw [List.any_eq_true] at h'
  obtain ⟨e, he, h2⟩ := h'
  exact ⟨o, rfl, e, by simpa using he, by simpa using h2⟩
theorem wp_region_local {id : Nat} {u : Nat -> Value} {w : World} (hm : P.follows .mixedOrders = true) (hord : ordB ops = true)
    (hfa : ∀ i j u v w w', i ≠ j -> depB ops j i = false -> j < ops.size -> Rel i u w w' -> Fa j u w -> Fa j (upd u i v) w') (hga : ∀ i j u v w w', i ≠ j -> Rel i u w w' -> Ga j u w -> Ga j (upd u i v) w')
    (hop : ∀ i, i < ops.size -> ∀ u w, (∀ d, depB ops i d = true -> Fa d u w) -> (∀ j, depB ops j i = true -> Ga j u w) -> Ga i u w →
      wpOp P ops Q i (fun a' w' => ∃ v, a' = A (upd u i v) /\ Rel i u w w' /\ Fa i (upd u i v) w') (A u) w)
    (hQ : ∀ u w, (∀ j, j < ops.size -> Fa j u w) -> Q .normal (A u) w) (hg : ∀ j, Ga j u w.drew) : (Code.region id ops true).wp P Q (A u) w := by
  refine wp_region_any hm ?_
  change wpAny _ _ _ _ _ _ _ (World.drew _)
  refine wpAny_local (ordB_spec hord) (fun i j u v w w' hij hd hj hr hf => hfa i j u v w w' hij ?_ hj hr hf) hga (fun i o u w ho hd hl hg' => hop i (Array.getElem?_eq_some_iff.1 ho).1 u w (fun d hdd => ?_) (fun j hj => ?_) hg') hQ _ _ u _ (by rw [Array.toList_replicate, cnt_rep]) ⟨by simp, fun j hj => ?_, fun j _ => hg j, fun j o _ hj => ?_⟩
  · cases hb : depB ops j i with
    | false => rfl
    | true =>
      obtain ⟨o, ho, e, he, hb2, hei⟩ := depB_spec hb
      exact absurd hei (hd o ho e he hb2)
  · obtain ⟨o', ho', e, he, hb2, hei⟩ := depB_spec hdd
    rw [ho] at ho'
    cases ho'
    rw [← hei]
    exact hd e he hb2
  · obtain ⟨o', ho', e, he, hb2, hei⟩ := depB_spec hj
    exact hl j o' ho' ⟨e, he, hb2, hei⟩
  · simp only [Array.getD_eq_getD_getElem?, Array.getElem?_replicate] at hj
    split at hj <;> cases hj
  · simp only [Array.getD_eq_getD_getElem?, Array.getElem?_replicate] at hj
    split at hj <;> cases hj
end
def fillL (sl : Nat -> Option Nat) (u : Nat -> Value) : Nat -> List Value -> List Value
 | _, [] => []
 | k, x :: l => (match sl k with | some j => u j | none => x) :: fillL sl u (k + 1) l
def ZL (sl : Nat -> Option Nat) (a : Act) (u : Nat -> Value) : Act := { a with tmps := (fillL sl u 0 a.tmps.toList).toArray }
theorem fillL_at (sl : Nat -> Option Nat) (u : Nat -> Value) : ∀ (l : List Value) (k m : Nat), (fillL sl u k l)[m]? = (l[m]?).map fun x => (match sl (k + m) with | some j => u j | none => x)
 | [], k, m => by simp [fillL]
 | x :: l, k, 0 => by simp [fillL]
 | x :: l, k, m + 1 => by
  have := fillL_at sl u l (k + 1) m
  rw [show k + 1 + m = k + (m + 1) by omega] at this
  simpa [fillL] using this
theorem fillL_set (sl : Nat -> Option Nat) (u : Nat -> Value) (i d : Nat) (v : Value) (h1 : sl d = some i) (h2 : ∀ k, sl k = some i -> k = d) (l : List Value) : (fillL sl u 0 l).set d v = fillL sl (upd u i v) 0 l := by
 apply List.ext_getElem?
 intro m
 rw [fillL_at, Nat.zero_add]
 by_cases e : d = m
 · subst e
   cases hl : l[d]? with
   | none =>
    have : (fillL sl u 0 l)[d]? = none := by rw [fillL_at, hl]; rfl
    rw [List.getElem?_set_self']
    simp [this]
   | some x =>
    have : (fillL sl u 0 l)[d]? = some (u i) := by rw [fillL_at, hl, Nat.zero_add, h1]; rfl
    rw [List.getElem?_set_self']
    simp [this, h1, upd]
 · rw [List.getElem?_set_ne e, fillL_at, Nat.zero_add]
   congr 1
   funext x
   cases hs : sl m with
   | none => rfl
   | some j =>
    have hj : j ≠ i := fun e2 => e (h2 m (by rw [hs, e2])).symm
    simp [upd, hj]
theorem ZI {sl : Nat -> Option Nat} {a : Act} {u : Nat -> Value} {i d : Nat} {v : Value} (h1 : sl d = some i) (h2 : ∀ k, sl k = some i -> k = d) : (ZL sl a u).put (some d) v = ZL sl a (upd u i v) := by
 unfold ZL Act.put
 simp only [List.setIfInBounds_toArray, fillL_set sl u i d v h1 h2]
theorem fillL_none (sl : Nat -> Option Nat) (u : Nat -> Value) (i : Nat) (v : Value) (h : ∀ k, sl k ≠ some i) : ∀ (l : List Value) (k : Nat), fillL sl (upd u i v) k l = fillL sl u k l
 | [], _ => rfl
 | x :: l, k => by
  simp only [fillL, fillL_none sl u i v h l (k + 1)]
  congr 1
  cases hs : sl k with
  | none => rfl
  | some j =>
   have hj : j ≠ i := fun e => h k (by rw [hs, e])
   simp [upd, hj]
theorem fill_none {sl : Nat -> Option Nat} {a : Act} {u : Nat -> Value} {i : Nat} {v x : Value} (h : ∀ k, sl k ≠ some i) : (ZL sl a u).put none x = ZL sl a (upd u i v) := by
 unfold ZL Act.put
 simp only [fillL_none sl u i v h]
theorem ZQ {sl : Nat -> Option Nat} {a : Act} {u : Nat -> Value} {k j : Nat} (hk : k < a.tmps.size) (h : sl k = some j) : (ZL sl a u).eval (.tmp k) = u j := by
 have h1 : (fillL sl u 0 a.tmps.toList)[k]? = some (u j) := by
  rw [fillL_at, List.getElem?_eq_getElem (by simpa using hk), Nat.zero_add, h]
  rfl
 simp [ZL, Act.eval, h1]
theorem fill_out {sl : Nat -> Option Nat} {a : Act} {u : Nat -> Value} {k : Nat} (h : sl k = none) : (ZL sl a u).eval (.tmp k) = a.eval (.tmp k) := by
 have h1 : (fillL sl u 0 a.tmps.toList)[k]? = a.tmps[k]? := by
  rw [fillL_at, Nat.zero_add, h, Array.getElem?_toList]
  simp
 simp [ZL, Act.eval, h1]
theorem fill_self {sl : Nat -> Option Nat} {d : Nat -> Nat} (hd : ∀ k j, sl k = some j -> d j = k) (a : Act) : ZL sl a (fun j => a.tmps.getD (d j) undef) = a := by
 have h : fillL sl (fun j => a.tmps.getD (d j) undef) 0 a.tmps.toList = a.tmps.toList := by
  apply List.ext_getElem?
  intro m
  rw [fillL_at, Nat.zero_add]
  cases hl : a.tmps.toList[m]? with
  | none => rfl
  | some x =>
   cases hs : sl m with
   | none => rfl
   | some j =>
    have e := hd m j hs
    have hl2 : a.tmps[m]? = some x := by rw [← Array.getElem?_toList]; exact hl
    simp [e, hl2]
 unfold ZL
 rw [h]
theorem wp_fill {P : Program} {c : Code} {Q : Exit -> Act -> World -> Prop} {a : Act} {w : World} (sl : Nat -> Option Nat) (d : Nat -> Nat) (hd : ∀ k j, sl k = some j -> d j = k) (h : ∀ a0 u0, a0 = a -> c.wp P Q (ZL sl a0 u0) w) : c.wp P Q a w := by
 have h1 := h a (fun j => a.tmps.getD (d j) undef) rfl
 rw [fill_self hd a] at h1
 exact h1
theorem ZG {P : Program} {ops : Array Oper} {Q : Exit -> Act -> World -> Prop} {i : Nat} {o : Oper} {K : Act -> World -> Prop} {a : Act} {w : World} (ho : ops[i]? = some o) (hgd : o.guard = none) (v : Value) (w1 : World)
 (hrun : (execOp a.eval o).run P w = .ok (.value v) w1) (h : K (a.put o.dst v) w1) : wpOp P ops Q i K a w := by
 refine wpOp_step ho fun K' hK => ?_
 rw [if_pos (by simp [Region.wanted, hgd])]
 unfold Oper.wp
 rw [hrun]
 exact hK _ _ h
theorem wpOp_skip {P : Program} {ops : Array Oper} {Q : Exit -> Act -> World -> Prop} {i : Nat} {o : Oper} {K : Act -> World -> Prop} {a : Act} {w : World} (ho : ops[i]? = some o) (hgd : o.guard = none) (w1 : World)
 (hrun : (execOp a.eval o).run P w = .ok .skip w1) (h : K (a.put o.dst undef) w1) : wpOp P ops Q i K a w := by
 refine wpOp_step ho fun K' hK => ?_
 rw [if_pos (by simp [Region.wanted, hgd])]
 unfold Oper.wp
 rw [hrun]
 exact hK _ _ h
def Yy (W0 w : World) (T : TypeId) (sz : Nat) (v : Value) (m : Nat) (xs : List Value) (old : Value) : Prop := (∃ a c, v = .slice a m c) /\ w.ownsRow 0 T sz v m xs /\ ∀ k, v.ownBlock = some k -> old.ownBlock = some k ∨ W0.heap.size <= k
structure NC (W0 : World) (g gb n : Nat) (y1 y2 : Int) (vP vL vC vS vT vA : Value) (xC xS xT : List Value) : Prop where
 g0 : W0.heap[g]? = some (.cells #[vP, vL, vC, vS, vT, vA] 91 (0, 0))
 rC : W0.ownsRow 0 94 2 vC n xC
 rS : W0.ownsRow 0 65 1 vS n xS
 rT : W0.ownsRow 0 3 1 vT n xT
 box : W0.heap[gb]? = some (.cells #[.int .i64 y1, .int .i64 y2] 94 (0, 0))
 boxC : vC.ownBlock ≠ some gb
 nl : n <= 1000
def NBase (W0 : World) (g : Nat) (vP vL vC vS vT vA : Value) (w : World) : Prop := (∃ c2 c3 c4, w.heap[g]? = some (.cells #[vP, vL, c2, c3, c4, vA] 91 (0, 0))) /\ (w.os = W0.os /\ w.tape = W0.tape /\ w.output = W0.output /\ W0.heap.size <= w.heap.size) /\ ∀ k, k < W0.heap.size -> k ≠ g -> vC.ownBlock ≠ some k -> vS.ownBlock ≠ some k -> vT.ownBlock ≠ some k -> w.heap[k]? = W0.heap[k]?
def NF (W0 : World) (g _gb n : Nat) (y1 y2 : Int) (vP vL vC vS vT vA : Value) (xC xS xT : List Value) (j : Nat) (u : Nat -> Value) (w : World) : Prop := NBase W0 g vP vL vC vS vT vA w /\ match j with
 | 0 => u 0 = .pointer (some ⟨g, 0, none⟩)
 | 1 => u 1 = .pointer (some ⟨g, 0, none⟩)
 | 2 => u 2 = .pointer (some ⟨g, 0, none⟩)
 | 3 => u 3 = .pointer (some ⟨g, 0, none⟩)
 | 4 => u 4 = .pointer (some ⟨g, 0, none⟩)
 | 5 => u 5 = .pointer (some ⟨g, 2, none⟩)
 | 6 => u 6 = vC
 | 7 => u 7 = .agg #[.int .i64 y1, .int .i64 y2]
 | 8 => ∃ k, u 8 = .slice (some ⟨k, 0, none⟩) 1 1 /\ W0.heap.size <= k /\ w.heap[k]? = some (.cells #[.int .i64 y1, .int .i64 y2] 94 (0, 0))
 | 9 => Yy W0 w 94 2 (u 9) (n + 1) (xC ++ [.int .i64 y1, .int .i64 y2]) vC
 | 10 => u 10 = .pointer (some ⟨g, 0, none⟩)
 | 11 => u 11 = .pointer (some ⟨g, 0, none⟩)
 | 12 => u 12 = .pointer (some ⟨g, 3, none⟩)
 | 13 => u 13 = vS
 | 14 => ∃ k, u 14 = .slice (some ⟨k, 0, none⟩) 1 1 /\ W0.heap.size <= k /\ w.heap[k]? = some (.cells #[.slice none 0 0] 65 (0, 0))
 | 15 => Yy W0 w 65 1 (u 15) (n + 1) (xS ++ [.slice none 0 0]) vS
 | 16 => u 16 = .pointer (some ⟨g, 0, none⟩)
 | 17 => u 17 = .pointer (some ⟨g, 0, none⟩)
 | 18 => u 18 = .pointer (some ⟨g, 4, none⟩)
 | 19 => u 19 = vT
 | 20 => ∃ k, u 20 = .slice (some ⟨k, 0, none⟩) 1 1 /\ W0.heap.size <= k /\ w.heap[k]? = some (.cells #[.int .i64 0] 3 (0, 0))
 | 21 => Yy W0 w 3 1 (u 21) (n + 1) (xT ++ [.int .i64 0]) vT
 | 22 => u 22 = .pointer (some ⟨g, 0, none⟩)
 | 23 => u 23 = .pointer (some ⟨g, 2, none⟩)
 | 24 => w.cell? ⟨g, 2, none⟩ = some (u 9)
 | 25 => u 25 = .pointer (some ⟨g, 0, none⟩)
 | 26 => u 26 = .pointer (some ⟨g, 3, none⟩)
 | 27 => w.cell? ⟨g, 3, none⟩ = some (u 15)
 | 28 => u 28 = .pointer (some ⟨g, 0, none⟩)
 | 29 => u 29 = .pointer (some ⟨g, 4, none⟩)
 | 30 => w.cell? ⟨g, 4, none⟩ = some (u 21)
 | _ => True
def NG (W0 : World) (g _gb n : Nat) (_y1 _y2 : Int) (vP vL vC vS vT vA : Value) (xC xS xT : List Value) (j : Nat) (_u : Nat -> Value) (w : World) : Prop := NBase W0 g vP vL vC vS vT vA w /\ match j with
 | 9 => w.ownsRow 0 94 2 vC n xC
 | 15 => w.ownsRow 0 65 1 vS n xS
 | 21 => w.ownsRow 0 3 1 vT n xT
 | 24 => w.cell? ⟨g, 2, none⟩ = some vC
 | 27 => w.cell? ⟨g, 3, none⟩ = some vS
 | 30 => w.cell? ⟨g, 4, none⟩ = some vT
 | _ => True
def NRel (g : Nat) (vC vS vT : Value) (i : Nat) (u : Nat -> Value) (w w' : World) : Prop := w.grownBy w' none ∨ (i = 9 /\ w.grownBy w' vC.ownBlock) ∨ (i = 15 /\ w.grownBy w' vS.ownBlock) ∨ (i = 21 /\ w.grownBy w' vT.ownBlock) ∨ (i = 24 /\ w' = w.setCell ⟨g, 2, none⟩ (u 9)) ∨ (i = 27 /\ w' = w.setCell ⟨g, 3, none⟩ (u 15)) ∨ (i = 30 /\ w' = w.setCell ⟨g, 4, none⟩ (u 21))
section
variable {W0 w w' : World} {g gb n : Nat} {y1 y2 : Int} {vP vL vC vS vT vA : Value} {xC xS xT : List Value}
theorem gb_none {w w' : World} (h : Below w.heap.size w w') : w.grownBy w' none := ⟨h.os, h.tape, h.output, h.size, fun k hk _ => h.block k hk⟩
theorem NBase.grown (c : NC W0 g gb n y1 y2 vP vL vC vS vT vA xC xS xT) (h : NBase W0 g vP vL vC vS vT vA w) {D : Option Nat} (hD : D = none ∨ D = vC.ownBlock ∨ D = vS.ownBlock ∨ D = vT.ownBlock) (hg : w.grownBy w' D) : NBase W0 g vP vL vC vS vT vA w' /\ w'.heap[g]? = w.heap[g]? := by
 obtain ⟨⟨c2, c3, c4, h1⟩, ⟨a1, a2, a3, a4⟩, h2⟩ := h
 have hgD : some g ≠ D := by
  rcases hD with rfl | rfl | rfl | rfl
  · exact fun e => by cases e
  · exact fun e => Zv c.rC c.g0 (by decide) e.symm
  · exact fun e => Zv c.rS c.g0 (by decide) e.symm
  · exact fun e => Zv c.rT c.g0 (by decide) e.symm
 have hgg := hg.block g (Ze h1) hgD
 refine ⟨⟨⟨c2, c3, c4, hgg.trans h1⟩, ⟨hg.os.trans a1, hg.tape.trans a2, hg.output.trans a3, Nat.le_trans a4 hg.size⟩, fun k hk n1 n2 n3 n4 => (hg.block k (Nat.lt_of_lt_of_le hk a4) ?_).trans (h2 k hk n1 n2 n3 n4)⟩, hgg⟩
 rcases hD with rfl | rfl | rfl | rfl
 · exact fun e => by cases e
 · exact fun e => n2 e.symm
 · exact fun e => n3 e.symm
 · exact fun e => n4 e.symm
theorem NBase.store (h : NBase W0 g vP vL vC vS vT vA w) (f : Nat) (hf : f = 2 ∨ f = 3 ∨ f = 4) (x : Value) : NBase W0 g vP vL vC vS vT vA (w.setCell ⟨g, f, none⟩ x) /\ (w.setCell ⟨g, f, none⟩ x).cell? ⟨g, f, none⟩ = some x /\ ∀ f', f' ≠ f -> (w.setCell ⟨g, f, none⟩ x).cell? ⟨g, f', none⟩ = w.cell? ⟨g, f', none⟩ := by
 obtain ⟨⟨c2, c3, c4, h1⟩, ⟨a1, a2, a3, a4⟩, h2⟩ := h
 have hs := heap_setCell_same w g f _ _ x h1
 refine ⟨⟨?_, ⟨a1, a2, a3, by rw [Zi]; exact a4⟩, fun k hk n1 n2 n3 n4 => (Below.heap_setCell _ _ _ _ n1).trans (h2 k hk n1 n2 n3 n4)⟩, ?_, fun f' hf' => ?_⟩
 · rcases hf with rfl | rfl | rfl
   · exact ⟨x, c3, c4, hs⟩
   · exact ⟨c2, x, c4, hs⟩
   · exact ⟨c2, c3, x, hs⟩
 · rcases hf with rfl | rfl | rfl
   · exact Zb hs _ _ rfl
   · exact Zb hs _ _ rfl
   · exact Zb hs _ _ rfl
 · exact World.cell?_setCell_other _ _ _ _ (by intro e; injection e with _ e2 _; first | exact hf' e2 | exact hf' e2.symm)
theorem Yy.grown {T : TypeId} {sz m : Nat} {v old : Value} {xs : List Value} (h : Yy W0 w T sz v m xs old) {D : Option Nat} (hD : ∀ k, D = some k -> k < W0.heap.size /\ old.ownBlock ≠ some k) (hg : w.grownBy w' D) : Yy W0 w' T sz v m xs old := by
 obtain ⟨h1, h2, h3⟩ := h
 refine ⟨h1, Zj h2 fun k hk => hg.block k (Zf h2 hk).2.1 (fun e => ?_), h3⟩
 obtain ⟨q1, q2⟩ := hD k e.symm
 rcases h3 k hk with h4 | h4
 · exact q2 h4
 · omega
theorem Yy.store {T : TypeId} {sz m : Nat} {v old : Value} {xs : List Value} (h : Yy W0 w T sz v m xs old) (hB : NBase W0 g vP vL vC vS vT vA w) (hT : T ≠ 91) (f : Nat) (x : Value) : Yy W0 (w.setCell ⟨g, f, none⟩ x) T sz v m xs old := by
 obtain ⟨h1, h2, h3⟩ := h
 obtain ⟨⟨c2, c3, c4, hg⟩, _⟩ := hB
 exact ⟨h1, Zj h2 fun k hk => Below.heap_setCell _ _ _ _ (fun e => Zv h2 hg hT (by rw [hk]; exact congrArg some e)), h3⟩
theorem YC {T : TypeId} {sz m : Nat} {v : Value} {xs : List Value} (h : w.ownsRow 0 T sz v m xs) {D : Option Nat} (hD : ∀ k, D = some k -> v.ownBlock ≠ some k) (hg : w.grownBy w' D) : w'.ownsRow 0 T sz v m xs :=
 Zj h fun k hk => hg.block k (Zf h hk).2.1 (fun e => hD k e.symm hk)
theorem YB {T : TypeId} {sz m : Nat} {v : Value} {xs : List Value} (h : w.ownsRow 0 T sz v m xs) (hB : NBase W0 g vP vL vC vS vT vA w) (hT : T ≠ 91) (f : Nat) (x : Value) : (w.setCell ⟨g, f, none⟩ x).ownsRow 0 T sz v m xs := by
 obtain ⟨⟨c2, c3, c4, hg⟩, _⟩ := hB
 exact Zj h fun k hk => Below.heap_setCell _ _ _ _ (fun e => Zv h hg hT (by rw [hk]; exact congrArg some e))
end
theorem nf_keep {W0 : World} {g gb n : Nat} {y1 y2 : Int} {vP vL vC vS vT vA : Value} {xC xS xT : List Value} (c : NC W0 g gb n y1 y2 vP vL vC vS vT vA xC xS xT) (i j : Nat) (u : Nat -> Value) (v : Value) (w w' : World) (hij : i ≠ j) (hd : (j = 24 -> i ≠ 9) /\ (j = 27 -> i ≠ 15) /\ (j = 30 -> i ≠ 21)) (hj : j < 31) (hr : NRel g vC vS vT i u w w') (hf : NF W0 g gb n y1 y2 vP vL vC vS vT vA xC xS xT j u w) : NF W0 g gb n y1 y2 vP vL vC vS vT vA xC xS xT j (upd u i v) w' := by
 obtain ⟨hB, hf⟩ := hf
 have hB2 : NBase W0 g vP vL vC vS vT vA w' := by
  rcases hr with hr | ⟨rfl, hr⟩ | ⟨rfl, hr⟩ | ⟨rfl, hr⟩ | ⟨rfl, hr⟩ | ⟨rfl, hr⟩ | ⟨rfl, hr⟩
  · exact (hB.grown c (.inl rfl) hr).1
  · exact (hB.grown c (.inr (.inl rfl)) hr).1
  · exact (hB.grown c (.inr (.inr (.inl rfl))) hr).1
  · exact (hB.grown c (.inr (.inr (.inr rfl))) hr).1
  · subst hr; exact (hB.store 2 (by omega) _).1
  · subst hr; exact (hB.store 3 (by omega) _).1
  · subst hr; exact (hB.store 4 (by omega) _).1
 obtain rfl | rfl | rfl | rfl | rfl | rfl | rfl | rfl | rfl | rfl | rfl | rfl | rfl | rfl | rfl | rfl | rfl | rfl | rfl | rfl | rfl | rfl | rfl | rfl | rfl | rfl | rfl | rfl | rfl | rfl | rfl : j = 0 ∨ j = 1 ∨ j = 2 ∨ j = 3 ∨ j = 4 ∨ j = 5 ∨ j = 6 ∨ j = 7 ∨ j = 8 ∨ j = 9 ∨ j = 10 ∨ j = 11 ∨ j = 12 ∨ j = 13 ∨ j = 14 ∨ j = 15 ∨ j = 16 ∨ j = 17 ∨ j = 18 ∨ j = 19 ∨ j = 20 ∨ j = 21 ∨ j = 22 ∨ j = 23 ∨ j = 24 ∨ j = 25 ∨ j = 26 ∨ j = 27 ∨ j = 28 ∨ j = 29 ∨ j = 30 := by omega
 · exact ⟨hB2, (Zs u v (Ne.symm hij)).trans hf⟩
 · exact ⟨hB2, (Zs u v (Ne.symm hij)).trans hf⟩
 · exact ⟨hB2, (Zs u v (Ne.symm hij)).trans hf⟩
 · exact ⟨hB2, (Zs u v (Ne.symm hij)).trans hf⟩
 · exact ⟨hB2, (Zs u v (Ne.symm hij)).trans hf⟩
 · exact ⟨hB2, (Zs u v (Ne.symm hij)).trans hf⟩
 · exact ⟨hB2, (Zs u v (Ne.symm hij)).trans hf⟩
 · exact ⟨hB2, (Zs u v (Ne.symm hij)).trans hf⟩
 · rcases hr with hr | ⟨rfl, hr⟩ | ⟨rfl, hr⟩ | ⟨rfl, hr⟩ | ⟨rfl, hr⟩ | ⟨rfl, hr⟩ | ⟨rfl, hr⟩
   · refine ⟨(hB.grown c (.inl rfl) hr).1, ?_⟩; obtain ⟨k, hf1, hf2, hf3⟩ := hf; exact ⟨k, (Zs u v (Ne.symm hij)).trans hf1, hf2, (hr.block k (Ze hf3) (fun e => by cases e)).trans hf3⟩
   · refine ⟨(hB.grown c (.inr (.inl rfl)) hr).1, ?_⟩; obtain ⟨k, hf1, hf2, hf3⟩ := hf; exact ⟨k, (Zs u v (Ne.symm hij)).trans hf1, hf2, (hr.block k (Ze hf3) (fun e => by have := (Zf c.rC e.symm).2.1; omega)).trans hf3⟩
   · refine ⟨(hB.grown c (.inr (.inr (.inl rfl))) hr).1, ?_⟩; obtain ⟨k, hf1, hf2, hf3⟩ := hf; exact ⟨k, (Zs u v (Ne.symm hij)).trans hf1, hf2, (hr.block k (Ze hf3) (fun e => by have := (Zf c.rS e.symm).2.1; omega)).trans hf3⟩
   · refine ⟨(hB.grown c (.inr (.inr (.inr rfl))) hr).1, ?_⟩; obtain ⟨k, hf1, hf2, hf3⟩ := hf; exact ⟨k, (Zs u v (Ne.symm hij)).trans hf1, hf2, (hr.block k (Ze hf3) (fun e => by have := (Zf c.rT e.symm).2.1; omega)).trans hf3⟩
   · subst hr; refine ⟨(hB.store 2 (by omega) _).1, ?_⟩; obtain ⟨k, hf1, hf2, hf3⟩ := hf; exact ⟨k, (Zs u v (Ne.symm hij)).trans hf1, hf2, (Below.heap_setCell _ _ _ _ (by have := Ze c.g0; show k ≠ g; omega)).trans hf3⟩
   · subst hr; refine ⟨(hB.store 3 (by omega) _).1, ?_⟩; obtain ⟨k, hf1, hf2, hf3⟩ := hf; exact ⟨k, (Zs u v (Ne.symm hij)).trans hf1, hf2, (Below.heap_setCell _ _ _ _ (by have := Ze c.g0; show k ≠ g; omega)).trans hf3⟩
   · subst hr; refine ⟨(hB.store 4 (by omega) _).1, ?_⟩; obtain ⟨k, hf1, hf2, hf3⟩ := hf; exact ⟨k, (Zs u v (Ne.symm hij)).trans hf1, hf2, (Below.heap_setCell _ _ _ _ (by have := Ze c.g0; show k ≠ g; omega)).trans hf3⟩
 · rcases hr with hr | ⟨rfl, hr⟩ | ⟨rfl, hr⟩ | ⟨rfl, hr⟩ | ⟨rfl, hr⟩ | ⟨rfl, hr⟩ | ⟨rfl, hr⟩
   · refine ⟨(hB.grown c (.inl rfl) hr).1, ?_⟩; show Yy W0 _ 94 2 (upd u i v 9) _ _ _; rw [Zs u v (Ne.symm hij)]; exact hf.grown (D := none) (fun k e => by cases e) hr
   · exact absurd rfl hij
   · refine ⟨(hB.grown c (.inr (.inr (.inl rfl))) hr).1, ?_⟩; show Yy W0 _ 94 2 (upd u 15 v 9) _ _ _; rw [Zs u v (Ne.symm hij)]; exact hf.grown (fun k e => ⟨(Zf c.rS e).2.1, Zo c.rS c.rC (by decide) k e⟩) hr
   · refine ⟨(hB.grown c (.inr (.inr (.inr rfl))) hr).1, ?_⟩; show Yy W0 _ 94 2 (upd u 21 v 9) _ _ _; rw [Zs u v (Ne.symm hij)]; exact hf.grown (fun k e => ⟨(Zf c.rT e).2.1, Zo c.rT c.rC (by decide) k e⟩) hr
   · subst hr; refine ⟨(hB.store 2 (by omega) _).1, ?_⟩; show Yy W0 _ 94 2 (upd u 24 v 9) _ _ _; rw [Zs u v (Ne.symm hij)]; exact hf.store hB (by decide) _ _
   · subst hr; refine ⟨(hB.store 3 (by omega) _).1, ?_⟩; show Yy W0 _ 94 2 (upd u 27 v 9) _ _ _; rw [Zs u v (Ne.symm hij)]; exact hf.store hB (by decide) _ _
   · subst hr; refine ⟨(hB.store 4 (by omega) _).1, ?_⟩; show Yy W0 _ 94 2 (upd u 30 v 9) _ _ _; rw [Zs u v (Ne.symm hij)]; exact hf.store hB (by decide) _ _
 · exact ⟨hB2, (Zs u v (Ne.symm hij)).trans hf⟩
 · exact ⟨hB2, (Zs u v (Ne.symm hij)).trans hf⟩
 · exact ⟨hB2, (Zs u v (Ne.symm hij)).trans hf⟩
 · exact ⟨hB2, (Zs u v (Ne.symm hij)).trans hf⟩
 · rcases hr with hr | ⟨rfl, hr⟩ | ⟨rfl, hr⟩ | ⟨rfl, hr⟩ | ⟨rfl, hr⟩ | ⟨rfl, hr⟩ | ⟨rfl, hr⟩
   · refine ⟨(hB.grown c (.inl rfl) hr).1, ?_⟩; obtain ⟨k, hf1, hf2, hf3⟩ := hf; exact ⟨k, (Zs u v (Ne.symm hij)).trans hf1, hf2, (hr.block k (Ze hf3) (fun e => by cases e)).trans hf3⟩
   · refine ⟨(hB.grown c (.inr (.inl rfl)) hr).1, ?_⟩; obtain ⟨k, hf1, hf2, hf3⟩ := hf; exact ⟨k, (Zs u v (Ne.symm hij)).trans hf1, hf2, (hr.block k (Ze hf3) (fun e => by have := (Zf c.rC e.symm).2.1; omega)).trans hf3⟩
   · refine ⟨(hB.grown c (.inr (.inr (.inl rfl))) hr).1, ?_⟩; obtain ⟨k, hf1, hf2, hf3⟩ := hf; exact ⟨k, (Zs u v (Ne.symm hij)).trans hf1, hf2, (hr.block k (Ze hf3) (fun e => by have := (Zf c.rS e.symm).2.1; omega)).trans hf3⟩
   · refine ⟨(hB.grown c (.inr (.inr (.inr rfl))) hr).1, ?_⟩; obtain ⟨k, hf1, hf2, hf3⟩ := hf; exact ⟨k, (Zs u v (Ne.symm hij)).trans hf1, hf2, (hr.block k (Ze hf3) (fun e => by have := (Zf c.rT e.symm).2.1; omega)).trans hf3⟩
   · subst hr; refine ⟨(hB.store 2 (by omega) _).1, ?_⟩; obtain ⟨k, hf1, hf2, hf3⟩ := hf; exact ⟨k, (Zs u v (Ne.symm hij)).trans hf1, hf2, (Below.heap_setCell _ _ _ _ (by have := Ze c.g0; show k ≠ g; omega)).trans hf3⟩
   · subst hr; refine ⟨(hB.store 3 (by omega) _).1, ?_⟩; obtain ⟨k, hf1, hf2, hf3⟩ := hf; exact ⟨k, (Zs u v (Ne.symm hij)).trans hf1, hf2, (Below.heap_setCell _ _ _ _ (by have := Ze c.g0; show k ≠ g; omega)).trans hf3⟩
   · subst hr; refine ⟨(hB.store 4 (by omega) _).1, ?_⟩; obtain ⟨k, hf1, hf2, hf3⟩ := hf; exact ⟨k, (Zs u v (Ne.symm hij)).trans hf1, hf2, (Below.heap_setCell _ _ _ _ (by have := Ze c.g0; show k ≠ g; omega)).trans hf3⟩
 · rcases hr with hr | ⟨rfl, hr⟩ | ⟨rfl, hr⟩ | ⟨rfl, hr⟩ | ⟨rfl, hr⟩ | ⟨rfl, hr⟩ | ⟨rfl, hr⟩
   · refine ⟨(hB.grown c (.inl rfl) hr).1, ?_⟩; show Yy W0 _ 65 1 (upd u i v 15) _ _ _; rw [Zs u v (Ne.symm hij)]; exact hf.grown (D := none) (fun k e => by cases e) hr
   · refine ⟨(hB.grown c (.inr (.inl rfl)) hr).1, ?_⟩; show Yy W0 _ 65 1 (upd u 9 v 15) _ _ _; rw [Zs u v (Ne.symm hij)]; exact hf.grown (fun k e => ⟨(Zf c.rC e).2.1, Zo c.rC c.rS (by decide) k e⟩) hr
   · exact absurd rfl hij
   · refine ⟨(hB.grown c (.inr (.inr (.inr rfl))) hr).1, ?_⟩; show Yy W0 _ 65 1 (upd u 21 v 15) _ _ _; rw [Zs u v (Ne.symm hij)]; exact hf.grown (fun k e => ⟨(Zf c.rT e).2.1, Zo c.rT c.rS (by decide) k e⟩) hr
   · subst hr; refine ⟨(hB.store 2 (by omega) _).1, ?_⟩; show Yy W0 _ 65 1 (upd u 24 v 15) _ _ _; rw [Zs u v (Ne.symm hij)]; exact hf.store hB (by decide) _ _
   · subst hr; refine ⟨(hB.store 3 (by omega) _).1, ?_⟩; show Yy W0 _ 65 1 (upd u 27 v 15) _ _ _; rw [Zs u v (Ne.symm hij)]; exact hf.store hB (by decide) _ _
   · subst hr; refine ⟨(hB.store 4 (by omega) _).1, ?_⟩; show Yy W0 _ 65 1 (upd u 30 v 15) _ _ _; rw [Zs u v (Ne.symm hij)]; exact hf.store hB (by decide) _ _
 · exact ⟨hB2, (Zs u v (Ne.symm hij)).trans hf⟩
 · exact ⟨hB2, (Zs u v (Ne.symm hij)).trans hf⟩
 · exact ⟨hB2, (Zs u v (Ne.symm hij)).trans hf⟩
 · exact ⟨hB2, (Zs u v (Ne.symm hij)).trans hf⟩
 · rcases hr with hr | ⟨rfl, hr⟩ | ⟨rfl, hr⟩ | ⟨rfl, hr⟩ | ⟨rfl, hr⟩ | ⟨rfl, hr⟩ | ⟨rfl, hr⟩
   · refine ⟨(hB.grown c (.inl rfl) hr).1, ?_⟩; obtain ⟨k, hf1, hf2, hf3⟩ := hf; exact ⟨k, (Zs u v (Ne.symm hij)).trans hf1, hf2, (hr.block k (Ze hf3) (fun e => by cases e)).trans hf3⟩
   · refine ⟨(hB.grown c (.inr (.inl rfl)) hr).1, ?_⟩; obtain ⟨k, hf1, hf2, hf3⟩ := hf; exact ⟨k, (Zs u v (Ne.symm hij)).trans hf1, hf2, (hr.block k (Ze hf3) (fun e => by have := (Zf c.rC e.symm).2.1; omega)).trans hf3⟩
   · refine ⟨(hB.grown c (.inr (.inr (.inl rfl))) hr).1, ?_⟩; obtain ⟨k, hf1, hf2, hf3⟩ := hf; exact ⟨k, (Zs u v (Ne.symm hij)).trans hf1, hf2, (hr.block k (Ze hf3) (fun e => by have := (Zf c.rS e.symm).2.1; omega)).trans hf3⟩
   · refine ⟨(hB.grown c (.inr (.inr (.inr rfl))) hr).1, ?_⟩; obtain ⟨k, hf1, hf2, hf3⟩ := hf; exact ⟨k, (Zs u v (Ne.symm hij)).trans hf1, hf2, (hr.block k (Ze hf3) (fun e => by have := (Zf c.rT e.symm).2.1; omega)).trans hf3⟩
   · subst hr; refine ⟨(hB.store 2 (by omega) _).1, ?_⟩; obtain ⟨k, hf1, hf2, hf3⟩ := hf; exact ⟨k, (Zs u v (Ne.symm hij)).trans hf1, hf2, (Below.heap_setCell _ _ _ _ (by have := Ze c.g0; show k ≠ g; omega)).trans hf3⟩
   · subst hr; refine ⟨(hB.store 3 (by omega) _).1, ?_⟩; obtain ⟨k, hf1, hf2, hf3⟩ := hf; exact ⟨k, (Zs u v (Ne.symm hij)).trans hf1, hf2, (Below.heap_setCell _ _ _ _ (by have := Ze c.g0; show k ≠ g; omega)).trans hf3⟩
   · subst hr; refine ⟨(hB.store 4 (by omega) _).1, ?_⟩; obtain ⟨k, hf1, hf2, hf3⟩ := hf; exact ⟨k, (Zs u v (Ne.symm hij)).trans hf1, hf2, (Below.heap_setCell _ _ _ _ (by have := Ze c.g0; show k ≠ g; omega)).trans hf3⟩
 · rcases hr with hr | ⟨rfl, hr⟩ | ⟨rfl, hr⟩ | ⟨rfl, hr⟩ | ⟨rfl, hr⟩ | ⟨rfl, hr⟩ | ⟨rfl, hr⟩
   · refine ⟨(hB.grown c (.inl rfl) hr).1, ?_⟩; show Yy W0 _ 3 1 (upd u i v 21) _ _ _; rw [Zs u v (Ne.symm hij)]; exact hf.grown (D := none) (fun k e => by cases e) hr
   · refine ⟨(hB.grown c (.inr (.inl rfl)) hr).1, ?_⟩; show Yy W0 _ 3 1 (upd u 9 v 21) _ _ _; rw [Zs u v (Ne.symm hij)]; exact hf.grown (fun k e => ⟨(Zf c.rC e).2.1, Zo c.rC c.rT (by decide) k e⟩) hr
   · refine ⟨(hB.grown c (.inr (.inr (.inl rfl))) hr).1, ?_⟩; show Yy W0 _ 3 1 (upd u 15 v 21) _ _ _; rw [Zs u v (Ne.symm hij)]; exact hf.grown (fun k e => ⟨(Zf c.rS e).2.1, Zo c.rS c.rT (by decide) k e⟩) hr
   · exact absurd rfl hij
   · subst hr; refine ⟨(hB.store 2 (by omega) _).1, ?_⟩; show Yy W0 _ 3 1 (upd u 24 v 21) _ _ _; rw [Zs u v (Ne.symm hij)]; exact hf.store hB (by decide) _ _
   · subst hr; refine ⟨(hB.store 3 (by omega) _).1, ?_⟩; show Yy W0 _ 3 1 (upd u 27 v 21) _ _ _; rw [Zs u v (Ne.symm hij)]; exact hf.store hB (by decide) _ _
   · subst hr; refine ⟨(hB.store 4 (by omega) _).1, ?_⟩; show Yy W0 _ 3 1 (upd u 30 v 21) _ _ _; rw [Zs u v (Ne.symm hij)]; exact hf.store hB (by decide) _ _
 · exact ⟨hB2, (Zs u v (Ne.symm hij)).trans hf⟩
 · exact ⟨hB2, (Zs u v (Ne.symm hij)).trans hf⟩
 · rcases hr with hr | ⟨rfl, hr⟩ | ⟨rfl, hr⟩ | ⟨rfl, hr⟩ | ⟨rfl, hr⟩ | ⟨rfl, hr⟩ | ⟨rfl, hr⟩
   · refine ⟨(hB.grown c (.inl rfl) hr).1, ?_⟩; show World.cell? _ ⟨g, 2, none⟩ = some (upd u i v 9); rw [Zs u v (Ne.symm (hd.1 rfl))]; exact (World.cell?_of_block (a := ⟨g, 2, none⟩) (hB.grown c (.inl rfl) hr).2).trans hf
   · exact absurd rfl (hd.1 rfl)
   · refine ⟨(hB.grown c (.inr (.inr (.inl rfl))) hr).1, ?_⟩; show World.cell? _ ⟨g, 2, none⟩ = some (upd u 15 v 9); rw [Zs u v (Ne.symm (hd.1 rfl))]; exact (World.cell?_of_block (a := ⟨g, 2, none⟩) (hB.grown c (.inr (.inr (.inl rfl))) hr).2).trans hf
   · refine ⟨(hB.grown c (.inr (.inr (.inr rfl))) hr).1, ?_⟩; show World.cell? _ ⟨g, 2, none⟩ = some (upd u 21 v 9); rw [Zs u v (Ne.symm (hd.1 rfl))]; exact (World.cell?_of_block (a := ⟨g, 2, none⟩) (hB.grown c (.inr (.inr (.inr rfl))) hr).2).trans hf
   · exact absurd rfl hij
   · subst hr; refine ⟨(hB.store 3 (by omega) _).1, ?_⟩; show World.cell? _ ⟨g, 2, none⟩ = some (upd u 27 v 9); rw [Zs u v (Ne.symm (hd.1 rfl))]; exact ((hB.store 3 (by omega) _).2.2 2 (by omega)).trans hf
   · subst hr; refine ⟨(hB.store 4 (by omega) _).1, ?_⟩; show World.cell? _ ⟨g, 2, none⟩ = some (upd u 30 v 9); rw [Zs u v (Ne.symm (hd.1 rfl))]; exact ((hB.store 4 (by omega) _).2.2 2 (by omega)).trans hf
 · exact ⟨hB2, (Zs u v (Ne.symm hij)).trans hf⟩
 · exact ⟨hB2, (Zs u v (Ne.symm hij)).trans hf⟩
 · rcases hr with hr | ⟨rfl, hr⟩ | ⟨rfl, hr⟩ | ⟨rfl, hr⟩ | ⟨rfl, hr⟩ | ⟨rfl, hr⟩ | ⟨rfl, hr⟩
   · refine ⟨(hB.grown c (.inl rfl) hr).1, ?_⟩; show World.cell? _ ⟨g, 3, none⟩ = some (upd u i v 15); rw [Zs u v (Ne.symm (hd.2.1 rfl))]; exact (World.cell?_of_block (a := ⟨g, 3, none⟩) (hB.grown c (.inl rfl) hr).2).trans hf
   · refine ⟨(hB.grown c (.inr (.inl rfl)) hr).1, ?_⟩; show World.cell? _ ⟨g, 3, none⟩ = some (upd u 9 v 15); rw [Zs u v (Ne.symm (hd.2.1 rfl))]; exact (World.cell?_of_block (a := ⟨g, 3, none⟩) (hB.grown c (.inr (.inl rfl)) hr).2).trans hf
   · exact absurd rfl (hd.2.1 rfl)
   · refine ⟨(hB.grown c (.inr (.inr (.inr rfl))) hr).1, ?_⟩; show World.cell? _ ⟨g, 3, none⟩ = some (upd u 21 v 15); rw [Zs u v (Ne.symm (hd.2.1 rfl))]; exact (World.cell?_of_block (a := ⟨g, 3, none⟩) (hB.grown c (.inr (.inr (.inr rfl))) hr).2).trans hf
   · subst hr; refine ⟨(hB.store 2 (by omega) _).1, ?_⟩; show World.cell? _ ⟨g, 3, none⟩ = some (upd u 24 v 15); rw [Zs u v (Ne.symm (hd.2.1 rfl))]; exact ((hB.store 2 (by omega) _).2.2 3 (by omega)).trans hf
   · exact absurd rfl hij
   · subst hr; refine ⟨(hB.store 4 (by omega) _).1, ?_⟩; show World.cell? _ ⟨g, 3, none⟩ = some (upd u 30 v 15); rw [Zs u v (Ne.symm (hd.2.1 rfl))]; exact ((hB.store 4 (by omega) _).2.2 3 (by omega)).trans hf
 · exact ⟨hB2, (Zs u v (Ne.symm hij)).trans hf⟩
 · exact ⟨hB2, (Zs u v (Ne.symm hij)).trans hf⟩
 · rcases hr with hr | ⟨rfl, hr⟩ | ⟨rfl, hr⟩ | ⟨rfl, hr⟩ | ⟨rfl, hr⟩ | ⟨rfl, hr⟩ | ⟨rfl, hr⟩
   · refine ⟨(hB.grown c (.inl rfl) hr).1, ?_⟩; show World.cell? _ ⟨g, 4, none⟩ = some (upd u i v 21); rw [Zs u v (Ne.symm (hd.2.2 rfl))]; exact (World.cell?_of_block (a := ⟨g, 4, none⟩) (hB.grown c (.inl rfl) hr).2).trans hf
   · refine ⟨(hB.grown c (.inr (.inl rfl)) hr).1, ?_⟩; show World.cell? _ ⟨g, 4, none⟩ = some (upd u 9 v 21); rw [Zs u v (Ne.symm (hd.2.2 rfl))]; exact (World.cell?_of_block (a := ⟨g, 4, none⟩) (hB.grown c (.inr (.inl rfl)) hr).2).trans hf
   · refine ⟨(hB.grown c (.inr (.inr (.inl rfl))) hr).1, ?_⟩; show World.cell? _ ⟨g, 4, none⟩ = some (upd u 15 v 21); rw [Zs u v (Ne.symm (hd.2.2 rfl))]; exact (World.cell?_of_block (a := ⟨g, 4, none⟩) (hB.grown c (.inr (.inr (.inl rfl))) hr).2).trans hf
   · exact absurd rfl (hd.2.2 rfl)
   · subst hr; refine ⟨(hB.store 2 (by omega) _).1, ?_⟩; show World.cell? _ ⟨g, 4, none⟩ = some (upd u 24 v 21); rw [Zs u v (Ne.symm (hd.2.2 rfl))]; exact ((hB.store 2 (by omega) _).2.2 4 (by omega)).trans hf
   · subst hr; refine ⟨(hB.store 3 (by omega) _).1, ?_⟩; show World.cell? _ ⟨g, 4, none⟩ = some (upd u 27 v 21); rw [Zs u v (Ne.symm (hd.2.2 rfl))]; exact ((hB.store 3 (by omega) _).2.2 4 (by omega)).trans hf
   · exact absurd rfl hij
theorem ng_keep {W0 : World} {g gb n : Nat} {y1 y2 : Int} {vP vL vC vS vT vA : Value} {xC xS xT : List Value} (c : NC W0 g gb n y1 y2 vP vL vC vS vT vA xC xS xT) (i j : Nat) (u : Nat -> Value) (v : Value) (w w' : World) (hij : i ≠ j) (hr : NRel g vC vS vT i u w w') (hf : NG W0 g gb n y1 y2 vP vL vC vS vT vA xC xS xT j u w) : NG W0 g gb n y1 y2 vP vL vC vS vT vA xC xS xT j (upd u i v) w' := by
 obtain ⟨hB, hf⟩ := hf
 by_cases h9 : j = 9
 · subst h9
   rcases hr with hr | ⟨rfl, hr⟩ | ⟨rfl, hr⟩ | ⟨rfl, hr⟩ | ⟨rfl, hr⟩ | ⟨rfl, hr⟩ | ⟨rfl, hr⟩
   · refine ⟨(hB.grown c (.inl rfl) hr).1, ?_⟩; exact YC hf (D := none) (fun k e => by cases e) hr
   · exact absurd rfl hij
   · refine ⟨(hB.grown c (.inr (.inr (.inl rfl))) hr).1, ?_⟩; exact YC hf (fun k e => Zo c.rS c.rC (by decide) k e) hr
   · refine ⟨(hB.grown c (.inr (.inr (.inr rfl))) hr).1, ?_⟩; exact YC hf (fun k e => Zo c.rT c.rC (by decide) k e) hr
   · subst hr; refine ⟨(hB.store 2 (by omega) _).1, ?_⟩; exact YB hf hB (by decide) _ _
   · subst hr; refine ⟨(hB.store 3 (by omega) _).1, ?_⟩; exact YB hf hB (by decide) _ _
   · subst hr; refine ⟨(hB.store 4 (by omega) _).1, ?_⟩; exact YB hf hB (by decide) _ _
 by_cases h15 : j = 15
 · subst h15
   rcases hr with hr | ⟨rfl, hr⟩ | ⟨rfl, hr⟩ | ⟨rfl, hr⟩ | ⟨rfl, hr⟩ | ⟨rfl, hr⟩ | ⟨rfl, hr⟩
   · refine ⟨(hB.grown c (.inl rfl) hr).1, ?_⟩; exact YC hf (D := none) (fun k e => by cases e) hr
   · refine ⟨(hB.grown c (.inr (.inl rfl)) hr).1, ?_⟩; exact YC hf (fun k e => Zo c.rC c.rS (by decide) k e) hr
   · exact absurd rfl hij
   · refine ⟨(hB.grown c (.inr (.inr (.inr rfl))) hr).1, ?_⟩; exact YC hf (fun k e => Zo c.rT c.rS (by decide) k e) hr
   · subst hr; refine ⟨(hB.store 2 (by omega) _).1, ?_⟩; exact YB hf hB (by decide) _ _
   · subst hr; refine ⟨(hB.store 3 (by omega) _).1, ?_⟩; exact YB hf hB (by decide) _ _
   · subst hr; refine ⟨(hB.store 4 (by omega) _).1, ?_⟩; exact YB hf hB (by decide) _ _
 by_cases h21 : j = 21
 · subst h21
   rcases hr with hr | ⟨rfl, hr⟩ | ⟨rfl, hr⟩ | ⟨rfl, hr⟩ | ⟨rfl, hr⟩ | ⟨rfl, hr⟩ | ⟨rfl, hr⟩
   · refine ⟨(hB.grown c (.inl rfl) hr).1, ?_⟩; exact YC hf (D := none) (fun k e => by cases e) hr
   · refine ⟨(hB.grown c (.inr (.inl rfl)) hr).1, ?_⟩; exact YC hf (fun k e => Zo c.rC c.rT (by decide) k e) hr
   · refine ⟨(hB.grown c (.inr (.inr (.inl rfl))) hr).1, ?_⟩; exact YC hf (fun k e => Zo c.rS c.rT (by decide) k e) hr
   · exact absurd rfl hij
   · subst hr; refine ⟨(hB.store 2 (by omega) _).1, ?_⟩; exact YB hf hB (by decide) _ _
   · subst hr; refine ⟨(hB.store 3 (by omega) _).1, ?_⟩; exact YB hf hB (by decide) _ _
   · subst hr; refine ⟨(hB.store 4 (by omega) _).1, ?_⟩; exact YB hf hB (by decide) _ _
 by_cases h24 : j = 24
 · subst h24
   rcases hr with hr | ⟨rfl, hr⟩ | ⟨rfl, hr⟩ | ⟨rfl, hr⟩ | ⟨rfl, hr⟩ | ⟨rfl, hr⟩ | ⟨rfl, hr⟩
   · refine ⟨(hB.grown c (.inl rfl) hr).1, ?_⟩; exact (World.cell?_of_block (a := ⟨g, 2, none⟩) (hB.grown c (.inl rfl) hr).2).trans hf
   · refine ⟨(hB.grown c (.inr (.inl rfl)) hr).1, ?_⟩; exact (World.cell?_of_block (a := ⟨g, 2, none⟩) (hB.grown c (.inr (.inl rfl)) hr).2).trans hf
   · refine ⟨(hB.grown c (.inr (.inr (.inl rfl))) hr).1, ?_⟩; exact (World.cell?_of_block (a := ⟨g, 2, none⟩) (hB.grown c (.inr (.inr (.inl rfl))) hr).2).trans hf
   · refine ⟨(hB.grown c (.inr (.inr (.inr rfl))) hr).1, ?_⟩; exact (World.cell?_of_block (a := ⟨g, 2, none⟩) (hB.grown c (.inr (.inr (.inr rfl))) hr).2).trans hf
   · exact absurd rfl hij
   · subst hr; refine ⟨(hB.store 3 (by omega) _).1, ?_⟩; exact ((hB.store 3 (by omega) _).2.2 2 (by omega)).trans hf
   · subst hr; refine ⟨(hB.store 4 (by omega) _).1, ?_⟩; exact ((hB.store 4 (by omega) _).2.2 2 (by omega)).trans hf
 by_cases h27 : j = 27
 · subst h27
   rcases hr with hr | ⟨rfl, hr⟩ | ⟨rfl, hr⟩ | ⟨rfl, hr⟩ | ⟨rfl, hr⟩ | ⟨rfl, hr⟩ | ⟨rfl, hr⟩
   · refine ⟨(hB.grown c (.inl rfl) hr).1, ?_⟩; exact (World.cell?_of_block (a := ⟨g, 3, none⟩) (hB.grown c (.inl rfl) hr).2).trans hf
   · refine ⟨(hB.grown c (.inr (.inl rfl)) hr).1, ?_⟩; exact (World.cell?_of_block (a := ⟨g, 3, none⟩) (hB.grown c (.inr (.inl rfl)) hr).2).trans hf
   · refine ⟨(hB.grown c (.inr (.inr (.inl rfl))) hr).1, ?_⟩; exact (World.cell?_of_block (a := ⟨g, 3, none⟩) (hB.grown c (.inr (.inr (.inl rfl))) hr).2).trans hf
   · refine ⟨(hB.grown c (.inr (.inr (.inr rfl))) hr).1, ?_⟩; exact (World.cell?_of_block (a := ⟨g, 3, none⟩) (hB.grown c (.inr (.inr (.inr rfl))) hr).2).trans hf
   · subst hr; refine ⟨(hB.store 2 (by omega) _).1, ?_⟩; exact ((hB.store 2 (by omega) _).2.2 3 (by omega)).trans hf
   · exact absurd rfl hij
   · subst hr; refine ⟨(hB.store 4 (by omega) _).1, ?_⟩; exact ((hB.store 4 (by omega) _).2.2 3 (by omega)).trans hf
 by_cases h30 : j = 30
 · subst h30
   rcases hr with hr | ⟨rfl, hr⟩ | ⟨rfl, hr⟩ | ⟨rfl, hr⟩ | ⟨rfl, hr⟩ | ⟨rfl, hr⟩ | ⟨rfl, hr⟩
   · refine ⟨(hB.grown c (.inl rfl) hr).1, ?_⟩; exact (World.cell?_of_block (a := ⟨g, 4, none⟩) (hB.grown c (.inl rfl) hr).2).trans hf
   · refine ⟨(hB.grown c (.inr (.inl rfl)) hr).1, ?_⟩; exact (World.cell?_of_block (a := ⟨g, 4, none⟩) (hB.grown c (.inr (.inl rfl)) hr).2).trans hf
   · refine ⟨(hB.grown c (.inr (.inr (.inl rfl))) hr).1, ?_⟩; exact (World.cell?_of_block (a := ⟨g, 4, none⟩) (hB.grown c (.inr (.inr (.inl rfl))) hr).2).trans hf
   · refine ⟨(hB.grown c (.inr (.inr (.inr rfl))) hr).1, ?_⟩; exact (World.cell?_of_block (a := ⟨g, 4, none⟩) (hB.grown c (.inr (.inr (.inr rfl))) hr).2).trans hf
   · subst hr; refine ⟨(hB.store 2 (by omega) _).1, ?_⟩; exact ((hB.store 2 (by omega) _).2.2 4 (by omega)).trans hf
   · subst hr; refine ⟨(hB.store 3 (by omega) _).1, ?_⟩; exact ((hB.store 3 (by omega) _).2.2 4 (by omega)).trans hf
   · exact absurd rfl hij
 have hB' : NBase W0 g vP vL vC vS vT vA w' := by
  rcases hr with hr | ⟨rfl, hr⟩ | ⟨rfl, hr⟩ | ⟨rfl, hr⟩ | ⟨rfl, hr⟩ | ⟨rfl, hr⟩ | ⟨rfl, hr⟩
  · exact (hB.grown c (.inl rfl) hr).1
  · exact (hB.grown c (.inr (.inl rfl)) hr).1
  · exact (hB.grown c (.inr (.inr (.inl rfl))) hr).1
  · exact (hB.grown c (.inr (.inr (.inr rfl))) hr).1
  · subst hr; exact (hB.store 2 (by omega) _).1
  · subst hr; exact (hB.store 3 (by omega) _).1
  · subst hr; exact (hB.store 4 (by omega) _).1
 refine ⟨hB', ?_⟩
 split <;> first | trivial | contradiction
theorem ng_start {W0 : World} {g gb n : Nat} {y1 y2 : Int} {vP vL vC vS vT vA : Value} {xC xS xT : List Value} (c : NC W0 g gb n y1 y2 vP vL vC vS vT vA xC xS xT) (j : Nat) (u : Nat -> Value) : NG W0 g gb n y1 y2 vP vL vC vS vT vA xC xS xT j u W0 := by
 refine ⟨⟨⟨_, _, _, c.g0⟩, ⟨rfl, rfl, rfl, Nat.le_refl _⟩, fun _ _ _ _ _ _ => rfl⟩, ?_⟩
 split
 · exact c.rC
 · exact c.rS
 · exact c.rT
 · exact Zb c.g0 2 _ rfl
 · exact Zb c.g0 3 _ rfl
 · exact Zb c.g0 4 _ rfl
 · trivial
def ZO (k : Nat) : Option Nat := if 93 <= k /\ k <= 116 then some (k - 93) else if k = 117 then some 25 else if k = 118 then some 26 else if k = 119 then some 28 else if k = 120 then some 29 else none
theorem ZC {k i : Nat} (h : ZO k = some i) : (i < 24 /\ k = 93 + i) ∨ (i = 25 /\ k = 117) ∨ (i = 26 /\ k = 118) ∨ (i = 28 /\ k = 119) ∨ (i = 29 /\ k = 120) := by
 unfold ZO at h
 split at h
 · have := Option.some.inj h
   omega
 · split at h
   · have := Option.some.inj h
     omega
   · split at h
     · have := Option.some.inj h
       omega
     · split at h
       · have := Option.some.inj h
         omega
       · split at h
         · have := Option.some.inj h
           omega
         · cases h
theorem push_any {w : World} {T TS : TypeId} {sz bytes : Nat} {z v : Value} {n gx : Nat} {xs ys : List Value} (hu : Tryz.prog.underlying TS = some (.slice T)) (hinfo : (Tryz.prog.info? T).map (fun i => (i.zero, i.size, i.bytes)) = some (some z, sz, bytes)) (hz : z.cells.size = sz) (hsz : 0 < sz) (hby : bytes <= 100)
    (ho : w.ownsRow 0 T sz v n xs) (hn : n <= 1000) (hl : ys.length = 1 * sz) (hy : ∀ (j : Nat) (u : Value), ys[j]? = some u -> w.cell? ⟨gx, j, none⟩ = some u) (h1 : ∀ u ∈ ys, u.oneCell' = true) (ty : TypeId) :
    ∃ v' w', (Builtin.append_ #[TS, TS] ty #[v, .slice (some ⟨gx, 0, none⟩) 1 1]).run Tryz.prog w = .ok v' w' /\ w'.ownsRow 0 T sz v' (n + 1) (xs ++ ys) /\ w.grownBy w' v.ownBlock /\ (∀ k, v'.ownBlock = some k -> v.ownBlock = some k ∨ w.heap.size <= k) := by
  obtain ⟨i, hi, hz0, hz1, hz2⟩ := info_parts hinfo
  obtain ⟨v', w', hr, ho', hg, _, hat⟩ := run_append_own_at (P := Tryz.prog) w 0 TS ty T i z sz bytes hu hi hz0 hz1 hz2 hz hsz v n xs ho ⟨gx, 0, none⟩ 1 1 ys hl (fun j u hu => by
    rw [show (⟨gx, 0, none⟩ : Addr).add j = ⟨gx, j, none⟩ by unfold Addr.add; by_cases h : j = 0 <;> simp [h]]
    exact hy j u hu) h1 (by unfold maxLen; omega) (by have : (n + 1) * bytes <= 1001 * 100 := Nat.mul_le_mul (by omega) hby; omega) (Nat.zero_le _)
  refine ⟨v', w', hr, ho', hg, fun k hk => ?_⟩
  rcases hat with e | e
  · exact .inl (e.symm.trans hk)
  · rw [e] at hk
    right
    have := Option.some.inj hk
    omega
theorem info_chan : (Tryz.prog.info? 94).map (fun i => (i.zero, i.size, i.bytes)) = some (some (.agg #[I_ 0, I_ 0]), 2, 16) := by kernel_rfl
theorem info_slv : (Tryz.prog.info? 65).map (fun i => (i.zero, i.size, i.bytes)) = some (some (.slice none 0 0), 1, 24) := by kernel_rfl
section
variable {w w2 : World} {F R : Nat → Prop} {B g : Nat} {s : St} {vP vL vC vS vT vA v' : Value} {ss : List Value} {tk : List Int}
theorem Rv.placeA (h : Rv w F R B g s vP vL vC vS vT vA ss tk) (x : V3) (hg : w.grownBy w2 vP.ownBlock) (ho : w2.ownsRow 0 64 3 v' (s.P ++ [x]).length (vcs (s.P ++ [x]))) (hb : ∀ k, v'.ownBlock = some k -> vP.ownBlock = some k ∨ w.heap.size <= k) (hl : s.P.length < 128) :
 Rv (w2.setCell ⟨g, 0, none⟩ v') (fun k => F k ∨ v'.ownBlock = some k) R B g { s with P := s.P ++ [x] } v' vL vC vS vT vA ss tk /\ Ch F (fun k => F k ∨ v'.ownBlock = some k) w (w2.setCell ⟨g, 0, none⟩ v') := by
 have hsz : (w2.setCell ⟨g, 0, none⟩ v').heap.size = w2.heap.size := Zi _ _ _
 have ho2 : ∀ k, k ≠ g -> (w2.setCell ⟨g, 0, none⟩ v').heap[k]? = w2.heap[k]? := fun k hk => Below.heap_setCell _ _ _ _ hk
 have gP : vP.ownBlock ≠ some g := Zv h.pl h.at_ (by decide)
 have gv : v'.ownBlock ≠ some g := fun e => by
  rcases hb g e with h1 | h1
  · exact gP h1
  · have := Ze h.at_
    omega
 have hg2 : w2.heap[g]? = some (.cells #[vP, vL, vC, vS, vT, vA] 91 (0, 0)) := (hg.block g (Ze h.at_) (fun e => gP e.symm)).trans h.at_
 have hk3 : ∀ {T : TypeId} {n : Nat} {v : Value} {len : Nat} {xs : List Value}, w.ownsRow 0 T n v len xs -> (∀ k, v.ownBlock = some k -> vP.ownBlock ≠ some k) -> T ≠ 91 -> (w2.setCell ⟨g, 0, none⟩ v').ownsRow 0 T n v len xs := fun hr hne hT =>
  Zj hr fun k hk => (ho2 k (fun e => Zv hr h.at_ hT (e ▸ hk))).trans (hg.block k (Zf hr hk).2.1 (fun e => hne k hk e.symm))
 refine ⟨?_, ⟨hg.os, hg.tape, hg.output, by rw [hsz]; exact hg.size, fun k hk hF => (ho2 k (fun e => hF (e ▸ h.fg))).trans (hg.block k hk (fun e => hF (h.fP k e.symm))), fun k hk => ?_⟩⟩
 · exact { h with
    at_ := by
     rw [heap_setCell_same w2 g 0 _ _ _ hg2]
     rfl
    pl := Zj ho fun k hk => ho2 k (fun e => gv (e ▸ hk))
    lo := hk3 h.lo (fun k hk => Zo h.lo h.pl (by decide) k hk) (by decide)
    ch := hk3 h.ch (fun k hk => Zo h.ch h.pl (by decide) k hk) (by decide)
    se := hk3 h.se (fun k hk => Zo h.se h.pl (by decide) k hk) (by decide)
    ta := hk3 h.ta (fun k hk => Zo h.ta h.pl (by decide) k hk) (by decide)
    ato := hk3 h.ato (fun k hk => Zo h.ato h.pl (by decide) k hk) (by decide)
    q := fun i q v t hq hv ht => by
     obtain ⟨f, n, h1, h2, h3, h4, h5, h6⟩ := h.q i q v t hq hv ht
     exact ⟨f, n, h1, h2, h3, h4, hk3 h5 (fun k hk e => h.fr k (h6 k hk) (h.fP k e)) (by decide), h6⟩
    fg := .inl h.fg
    fP := fun k hk => .inr hk
    fL := fun k hk => .inl (h.fL k hk)
    fC := fun k hk => .inl (h.fC k hk)
    fS := fun k hk => .inl (h.fS k hk)
    fT := fun k hk => .inl (h.fT k hk)
    fA := fun k hk => .inl (h.fA k hk)
    fb := fun k hk => by
     rw [hsz]
     rcases hk with hk | hk
     · exact Nat.lt_of_lt_of_le (h.fb k hk) hg.size
     · exact (Zf ho hk).2.1
    rb := fun k hk => by rw [hsz]; exact Nat.lt_of_lt_of_le (h.rb k hk) hg.size
    fr := fun k hk e => by
     rcases e with e | e
     · exact h.fr k hk e
     · rcases hb k e with h1 | h1
       · exact h.fr k hk (h.fP k h1)
       · have := h.rb k hk
         omega
    small := by
     have := h.small
     simp
     omega }
 · rcases hk with hk | hk
   · exact .inl hk
   · rcases hb k hk with h1 | h1
     · exact .inl (h.fP k h1)
     · exact .inr h1
theorem Rv.pushP (h : Rv w F R B g s vP vL vC vS vT vA ss tk) (x : V3) (hl : s.P.length < 128) (ty : TypeId) :
 ∃ v' w', (Builtin.append_ #[65, 65] ty #[vP, .slice (some ⟨w.heap.size, 0, none⟩) 1 1]).run Tryz.prog (w.alloc (.cells #[I_ x.1, I_ x.2.1, .int .u64 x.2.2] 64)) = .ok v' w' ∧
  ((∃ a l c, v' = .slice a l c) /\ w'.frozen? ⟨g, 0, none⟩ = false /\ w'.cell? ⟨g, 0, none⟩ = some vP /\ Rv (w'.setCell ⟨g, 0, none⟩ v') (fun k => F k ∨ v'.ownBlock = some k) R B g { s with P := s.P ++ [x] } v' vL vC vS vT vA ss tk /\ Ch F (fun k => F k ∨ v'.ownBlock = some k) w (w'.setCell ⟨g, 0, none⟩ v')) := by
 obtain ⟨v', w', hr, ho, hg, hf⟩ := push_v rfl h.pl (by have := h.small; omega) x.1 x.2.1 x.2.2 ty
 have hgb := (hg.block g (Ze h.at_) (fun e => Zv h.pl h.at_ (by decide) e.symm)).trans h.at_
 obtain ⟨a, c, e, _⟩ := Zl ho
 have e1 : s.P.length + 1 = (s.P ++ [x]).length := by simp
 rw [e1] at ho
 exact ⟨v', w', hr, ⟨_, _, _, e⟩, Zc hgb _, Zb hgb 0 _ rfl, h.placeA x hg ho hf hl⟩
end
theorem Rv.chanA {W0 w : World} {F R : Nat -> Prop} {B g n : Nat} {s : St} {vP vL vC vS vT vA uC uS uT : Value} {ss : List Value} {tk : List Int} (h : Rv W0 F R B g s vP vL vC vS vT vA ss tk) (y1 y2 : Int) (hn : n = s.C.length) (hl : n < 32) (hr : 0 <= y2 /\ y2 <= 8)
 (hB : NBase W0 g vP vL vC vS vT vA w) (nC : Yy W0 w 94 2 uC (n + 1) (ccs s.C ++ [I_ y1, I_ y2]) vC) (nS : Yy W0 w 65 1 uS (n + 1) (ss ++ [.slice none 0 0]) vS) (nT : Yy W0 w 3 1 uT (n + 1) (nts tk ++ [I_ 0]) vT)
 (cC : w.cell? ⟨g, 2, none⟩ = some uC) (cS : w.cell? ⟨g, 3, none⟩ = some uS) (cT : w.cell? ⟨g, 4, none⟩ = some uT) (hst : ∀ k, vT.ownBlock = some k -> vA.ownBlock ≠ some k) :
 ∃ F', Rv w F' R B g { s with C := s.C ++ [⟨y1, y2, []⟩] } vP vL uC uS uT vA (ss ++ [.slice none 0 0]) (tk ++ [0]) /\ Ch F F' W0 w /\ ∀ k, uT.ownBlock = some k -> vA.ownBlock ≠ some k := by
 subst hn
 obtain ⟨⟨c2, c3, c4, hg⟩, ⟨a1, a2, a3, a4⟩, hfr⟩ := hB
 have e2 : c2 = uC := Option.some.inj ((Zb hg 2 _ rfl).symm.trans cC)
 have e3 : c3 = uS := Option.some.inj ((Zb hg 3 _ rfl).symm.trans cS)
 have e4 : c4 = uT := Option.some.inj ((Zb hg 4 _ rfl).symm.trans cT)
 subst e2 e3 e4
 have keep : ∀ {T : TypeId} {m : Nat} {v : Value} {len : Nat} {xs : List Value}, W0.ownsRow 0 T m v len xs -> T ≠ 91 -> (∀ k, v.ownBlock = some k -> vC.ownBlock ≠ some k /\ vS.ownBlock ≠ some k /\ vT.ownBlock ≠ some k) -> w.ownsRow 0 T m v len xs := fun hr hT hne =>
  Zj hr fun k hk => hfr k (Zf hr hk).2.1 (fun e => Zv hr h.at_ hT (e ▸ hk)) (hne k hk).1 (hne k hk).2.1 (hne k hk).2.2
 have apart : ∀ {T : TypeId} {m : Nat} {v : Value} {len : Nat} {xs : List Value}, W0.ownsRow 0 T m v len xs -> T ≠ 94 -> T ≠ 65 -> T ≠ 3 -> ∀ k, v.ownBlock = some k -> vC.ownBlock ≠ some k /\ vS.ownBlock ≠ some k /\ vT.ownBlock ≠ some k := fun hr t1 t2 t3 k hk =>
  ⟨Zo hr h.ch t1 k hk, Zo hr h.se t2 k hk, Zo hr h.ta t3 k hk⟩
 have hsA : ∀ k, c4.ownBlock = some k -> vA.ownBlock ≠ some k := fun k hk e => by
  rcases nT.2.2 k hk with h1 | h1
  · exact hst k h1 e
  · have := (Zf h.ato e).2.1
    omega
 have hsl := h.sl
 have htl := h.tl
 have inner : ∀ {v : Value} {len : Nat} {xs : List Value}, W0.ownsRow 0 64 3 v len xs -> w.ownsRow 0 64 3 v len xs := fun hr => keep hr (by decide) (apart hr (by decide) (by decide) (by decide))
 refine ⟨fun k => F k ∨ c2.ownBlock = some k ∨ c3.ownBlock = some k ∨ c4.ownBlock = some k, ?_, ⟨a1, a2, a3, a4, fun k hk hF => hfr k hk (fun e => hF (e ▸ h.fg)) (fun e => hF (h.fC k e)) (fun e => hF (h.fS k e)) (fun e => hF (h.fT k e)), fun k hk => ?_⟩, hsA⟩
 · exact { h with
    at_ := hg
    pl := inner h.pl
    lo := keep h.lo (by decide) (apart h.lo (by decide) (by decide) (by decide))
    ch := by
     rw [ccs_app]
     simpa using nC.2.1
    se := by simpa using nS.2.1
    ta := by
     have := nT.2.1
     unfold nts at this ⊢
     rw [List.map_append]
     simpa using this
    ato := keep h.ato (by decide) (fun k hk => ⟨Zo h.ato h.ch (by decide) k hk, Zo h.ato h.se (by decide) k hk, fun e => hst k e hk⟩)
    q := fun i q v t hq hv ht => by
     by_cases e : i < s.C.length
     · rw [List.getElem?_append_left e] at hq
       rw [List.getElem?_append_left (by omega)] at hv ht
       obtain ⟨f, m, h1, h2, h3, h4, h5, h6⟩ := h.q i q v t hq hv ht
       exact ⟨f, m, h1, h2, h3, h4, inner h5, h6⟩
     · rw [List.getElem?_append_right (by omega)] at hq hv ht
       have e0 : i - s.C.length = 0 := by
        rcases Nat.eq_zero_or_pos (i - s.C.length) with h0 | h0
        · exact h0
        · rw [List.getElem?_eq_none (by simp; omega)] at hq
          cases hq
       rw [hsl, e0] at hv
       rw [htl, e0] at ht
       rw [e0] at hq
       simp at hq hv ht
       subst hq hv ht
       exact ⟨[], 0, rfl, Nat.zero_le _, rfl, Nat.zero_le _, Yl _ _ _, fun k hk => by cases hk⟩
    ne := fun k h1 h2 => absurd h2 (hsA k h1)
    fg := .inl h.fg
    fP := fun k hk => .inl (h.fP k hk)
    fL := fun k hk => .inl (h.fL k hk)
    fC := fun k hk => .inr (.inl hk)
    fS := fun k hk => .inr (.inr (.inl hk))
    fT := fun k hk => .inr (.inr (.inr hk))
    fA := fun k hk => .inl (h.fA k hk)
    fb := fun k hk => by
     rcases hk with hk | hk | hk | hk
     · exact Nat.lt_of_lt_of_le (h.fb k hk) a4
     · exact (Zf nC.2.1 hk).2.1
     · exact (Zf nS.2.1 hk).2.1
     · exact (Zf nT.2.1 hk).2.1
    rb := fun k hk => Nat.lt_of_lt_of_le (h.rb k hk) a4
    fr := fun k hk e => by
     have hlt := h.rb k hk
     rcases e with e | e | e | e
     · exact h.fr k hk e
     · rcases nC.2.2 k e with h1 | h1
       · exact h.fr k hk (h.fC k h1)
       · omega
     · rcases nS.2.2 k e with h1 | h1
       · exact h.fr k hk (h.fS k h1)
       · omega
     · rcases nT.2.2 k e with h1 | h1
       · exact h.fr k hk (h.fT k h1)
       · omega
    small := by
     have := h.small
     simp
     omega
    rooms := fun q' hq' => by
     rcases List.mem_append.1 hq' with h1 | h1
     · exact h.rooms q' h1
     · simp at h1
       subst h1
       exact ⟨hr.1, hr.2, by simp; exact hr.1⟩ }
 · rcases hk with hk | hk | hk | hk
   · exact .inl hk
   · rcases nC.2.2 k hk with h1 | h1
     · exact .inl (h.fC k h1)
     · exact .inr h1
   · rcases nS.2.2 k hk with h1 | h1
     · exact .inl (h.fS k h1)
     · exact .inr h1
   · rcases nT.2.2 k hk with h1 | h1
     · exact .inl (h.fT k h1)
     · exact .inr h1
def RMk (w wc : World) (g : Nat) (s : St) : Prop := ∃ F vP vL vC vS vT vA ss tk, Rv wc F (fun _ => False) 0 g s vP vL vC vS vT vA ss tk /\ (∀ k, F k -> w.heap.size <= k) /\ Below w.heap.size w wc /\ ∀ k, vT.ownBlock = some k -> vA.ownBlock ≠ some k
def RNewP (w : World) (ok : Bool) (s : St) (e : Ending) (w' : World) : Prop := (ok = false /\ e = .returned (.tuple #[.pointer none, .bool false]) /\ Below w.heap.size w w') ∨
 (ok = true /\ ∃ g F, e = .returned (.tuple #[P_ g, .bool true]) /\ Rt w' F (fun _ => False) 0 g s /\ (∀ k, F k -> w.heap.size <= k) /\ Below w.heap.size w w')
theorem rmk_new {w W : World} {gb' gi gs mn an : Nat} (hm : mn <= 32) (ha : an <= 32) {vb vi : Value} (hvb : vb = .slice (some ⟨gb', 0, none⟩) mn mn) (hvi : vi = .slice (some ⟨gi, 0, none⟩) an an) (ob : W.ownsRow 0 4 1 vb mn (List.replicate mn (.bool false))) (oi : W.ownsRow 0 3 1 vi an (List.replicate an (I_ 0)))
 (hg : W.heap[gs]? = some (.cells #[.slice none 0 0, vb, .slice none 0 0, .slice none 0 0, .slice none 0 0, vi] 91 (0, 0))) (hb : w.heap.size <= gb' /\ w.heap.size <= gi /\ w.heap.size <= gs) (hB : Below w.heap.size w W) : RMk w W gs ⟨[], List.replicate mn false, [], List.replicate an 0⟩ := by
 refine ⟨fun k => k = gb' ∨ k = gi ∨ k = gs, .slice none 0 0, vb, .slice none 0 0, .slice none 0 0, .slice none 0 0, vi, [], [], { at_ := hg, pl := Yl _ _ _, lo := (by simpa [bls] using ob), ch := Yl _ _ _, se := Yl _ _ _, ta := Yl _ _ _, ato := (by simpa [nts] using oi), q := fun i q v t h _ _ => (by simp at h), ne := fun k h => (by cases h), fg := .inr (.inr rfl), fP := fun k h => (by cases h), fL := fun k h => ?_, fC := fun k h => (by cases h), fS := fun k h => (by cases h), fT := fun k h => (by cases h), fA := fun k h => ?_, fb := fun k h => ?_, rb := fun k h => h.elim, fr := fun k h => h.elim, small := (by simp; omega), rooms := fun q h => (by cases h) }, fun k h => by omega, hB, fun k h => by cases h⟩
 · subst hvb
   cases h
   exact .inl rfl
 · subst hvi
   cases h
   exact .inr (.inl rfl)
 · rcases h with rfl | rfl | rfl
   · exact (Zf ob (by rw [hvb]; rfl)).2.1
   · exact (Zf oi (by rw [hvi]; rfl)).2.1
   · exact Ze hg
end Go.Proofs.YtfojninaginnoaaGreatDoor.Ck
