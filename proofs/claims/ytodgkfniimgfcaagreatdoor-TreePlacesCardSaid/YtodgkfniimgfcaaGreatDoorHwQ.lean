/- Places of nodes, in the grammar's model: each stands at a token's beginning, kids in order. No Go text is walked here. -/
import Derived.Test.YtodgkfniimgfcaaGreatDoorQbf
namespace Go.Proofs.YtodgkfniimgfcaaGreatDoor.Ck
open Go.RowKit

def Bg (L : List Tk) (x : Int) : Prop := ∃ q, q < L.length ∧ (tkAt L q).pos = x
mutual
def Pl (L : List Tk) : Nd → Prop
  | .mk _ p _ _ _ _ _ _ ks => Bg L p ∧ PlK L p ks
def PlK (L : List Tk) : Int → List Nd → Prop
  | _, [] => True
  | a, n :: ks => a ≤ n.pos ∧ Pl L n ∧ PlK L n.pos ks
end
def lastP : Int → List Nd → Int
  | a, [] => a
  | _, n :: ks => lastP n.pos ks
def Srt (L : List Tk) : Prop := ∀ a b, a ≤ b → b < L.length → ((tkAt L a).pos : Int) ≤ (tkAt L b).pos
def GoN (L : List Tk) (i : Nat) : Out → Prop
  | .ok n j => i ≤ j ∧ j < L.length ∧ (tkAt L i).pos ≤ n.pos ∧ n.pos ≤ (tkAt L j).pos ∧ Pl L n
  | .bad _ j => j < L.length
def GoL (L : List Tk) (i : Nat) : OutL → Prop
  | .ok ns j => i ≤ j ∧ j < L.length ∧ PlK L (tkAt L i).pos ns ∧ lastP (tkAt L i).pos ns ≤ (tkAt L j).pos
  | .bad _ j => j < L.length
def GoI (L : List Tk) (i : Nat) : OutI → Prop
  | .ok _ j => i ≤ j ∧ j < L.length
  | .bad _ j => j < L.length

variable {L : List Tk}
theorem pl_mk {k p : Int} {nm : ByteArray} {t n z o b : Int} {ks : List Nd} (h : Bg L p) (hk : PlK L p ks) : Pl L (.mk k p nm t n z o b ks) := by
  unfold Pl
  exact ⟨h, hk⟩
theorem plk_nil (a : Int) : PlK L a [] := by unfold PlK; trivial
theorem plk_cons {a : Int} {n : Nd} {ks : List Nd} (h : a ≤ n.pos) (hn : Pl L n) (hk : PlK L n.pos ks) : PlK L a (n :: ks) := by
  unfold PlK
  exact ⟨h, hn, hk⟩
theorem plk_one {a : Int} {n : Nd} (h : a ≤ n.pos) (hn : Pl L n) : PlK L a [n] := plk_cons h hn (plk_nil _)
theorem plk_low {a b : Int} {ks : List Nd} (h : b ≤ a) (hk : PlK L a ks) : PlK L b ks := by
  cases ks with
  | nil => exact plk_nil _
  | cons n ks =>
    unfold PlK at hk ⊢
    exact ⟨by omega, hk.2⟩
theorem lastP_low {a b : Int} {ks : List Nd} (h : b ≤ a) : lastP b ks ≤ lastP a ks := by
  cases ks with
  | nil => exact h
  | cons n ks => exact Int.le_refl _
theorem lastP_snoc : ∀ (ks : List Nd) (a : Int) (n : Nd), lastP a (ks ++ [n]) = n.pos
  | [], _, _ => rfl
  | _ :: ks, _, n => lastP_snoc ks _ n
theorem plk_snoc : ∀ (ks : List Nd) (a : Int) (n : Nd), PlK L a ks → lastP a ks ≤ n.pos → Pl L n → PlK L a (ks ++ [n])
  | [], _, _, _, h, hn => plk_one h hn
  | _ :: ks, _, n, hk, h, hn => by
    unfold PlK at hk
    exact plk_cons hk.1 hk.2.1 (plk_snoc ks _ n hk.2.2 h hn)
theorem bg_at {i : Nat} (hi : i < L.length) : Bg L (tkAt L i).pos := ⟨i, hi, rfl⟩
theorem Pl.bg {n : Nd} (h : Pl L n) : Bg L n.pos := by
  obtain ⟨k, p, nm, t, nz, z, o, b, ks⟩ := n
  unfold Pl at h
  exact h.1
theorem nx1 (hE : Ends L) {i : Nat} (hi : i < L.length) {z : ByteArray} (hz : z.size ≠ 0) (h : has L i [z] = true) : i + 1 < L.length := has_next hE hi (by simpa using hz) h
theorem nxk (hE : Ends L) {i : Nat} (hi : i < L.length) {k : Nat} (hk : k ≠ 0) (h : (tkAt L i).kind = k) : i + 1 < L.length := hE i hi (.inr (by omega))
/-- a leaf at token i, read up to j -/
theorem leaf_go (hS : Srt L) {i j : Nat} {k : Int} {nm : ByteArray} {t n z o b : Int} (hi : i ≤ j) (hj : j < L.length) : GoN L i (.ok (.mk k (tkAt L i).pos nm t n z o b []) j) :=
  ⟨hi, hj, Int.le_refl _, hS i j hi hj, pl_mk (bg_at (by omega)) (plk_nil _)⟩
/-- a node at token i over a row that was read from i' up to j, and ends at j' -/
theorem over_go (hS : Srt L) {i i' j j' : Nat} {k : Int} {nm : ByteArray} {t n z o b : Int} {ns : List Nd} (hi : i ≤ i') (h : GoL L i' (.ok ns j)) (hj : j ≤ j') (hl : j' < L.length) : GoN L i (.ok (.mk k (tkAt L i).pos nm t n z o b ns) j') := by
  obtain ⟨a, c, d, e⟩ := h
  exact ⟨by omega, hl, Int.le_refl _, hS i j' (by omega) hl, pl_mk (bg_at (by omega)) (plk_low (hS i i' hi (by omega)) d)⟩
theorem one_go {i j : Nat} {n : Nd} (h : GoN L i (.ok n j)) : GoL L i (.ok [n] j) := by
  obtain ⟨a, b, c, d, e⟩ := h
  exact ⟨a, b, plk_one c e, d⟩
theorem GoN.low (hS : Srt L) {i i' : Nat} {r : Out} (hi : i ≤ i') (hi' : i' < L.length) (h : GoN L i' r) : GoN L i r := by
  cases r with
  | ok n j =>
    obtain ⟨a, b, c, d, e⟩ := h
    have := hS i i' hi hi'
    exact ⟨by omega, b, by omega, d, e⟩
  | bad k j => exact h
theorem GoL.low (hS : Srt L) {i i' : Nat} {r : OutL} (hi : i ≤ i') (hi' : i' < L.length) (h : GoL L i' r) : GoL L i r := by
  cases r with
  | ok n j =>
    obtain ⟨a, b, c, d⟩ := h
    have := hS i i' hi hi'
    exact ⟨by omega, b, plk_low this c, Int.le_trans (lastP_low this) d⟩
  | bad k j => exact h
theorem snoc_go {i j i' j' : Nat} {ns : List Nd} {m : Nd} (hS : Srt L) (h : GoL L i (.ok ns j)) (hj : j ≤ i') (hi' : i' < L.length) (hm : GoN L i' (.ok m j')) : GoL L i (.ok (ns ++ [m]) j') := by
  obtain ⟨a, b, c, d⟩ := h
  obtain ⟨e, f, g, k, q⟩ := hm
  have := hS j i' hj hi'
  exact ⟨by omega, f, plk_snoc _ _ _ c (by omega) q, by rw [lastP_snoc]; exact k⟩
theorem longer_go {i j j' : Nat} {ns : List Nd} (hS : Srt L) (h : GoL L i (.ok ns j)) (hj : j ≤ j') (hl : j' < L.length) : GoL L i (.ok ns j') := by
  obtain ⟨a, b, c, d⟩ := h
  exact ⟨by omega, hl, c, Int.le_trans d (hS j j' hj hl)⟩
theorem further_go {i j j' : Nat} {n : Nd} (hS : Srt L) (h : GoN L i (.ok n j)) (hj : j ≤ j') (hl : j' < L.length) : GoN L i (.ok n j') := by
  obtain ⟨a, b, c, d, e⟩ := h
  exact ⟨by omega, hl, c, Int.le_trans d (hS j j' hj hl), e⟩

theorem wrapO_go (hS : Srt L) (hE : Ends L) {l i : Nat} {op sh : ByteArray} {r : Out} (hi : i < L.length) (ho : op.size ≠ 0) (hs : sh.size ≠ 0) (hr : i + 1 < L.length → GoN L (i + 1) r) : GoN L i (wrapO L l i op sh r) := by
  unfold wrapO
  by_cases h1 : has L i [op] = true
  · rw [if_pos h1]
    have n1 := nx1 hE hi ho h1
    have g := hr n1
    by_cases h2 : l = 16
    · rw [if_pos h2]; exact hi
    rw [if_neg h2]
    cases r with
    | bad k j => exact g
    | ok n j =>
      dsimp only
      by_cases h3 : has L j [sh] = true
      · rw [if_pos h3]
        exact (further_go hS g (Nat.le_succ _) (nx1 hE g.2.1 hs h3)).low hS (Nat.le_succ _) n1
      · rw [if_neg h3]
        exact g.2.1
  · rw [if_neg h1]; exact hi
theorem targetO_go (hS : Srt L) (hE : Ends L) {l i : Nat} {r : Out} (hi : i < L.length) (hr : i + 1 + 1 < L.length → GoN L (i + 1 + 1) r) : GoN L i (targetO L l i r) := by
  unfold targetO
  by_cases h1 : (tkAt L i).kind = 1
  · rw [if_pos h1]
    have n1 := nxk hE hi (by decide) h1
    by_cases h2 : has L (i + 1) [bOpn] = true
    · rw [if_pos h2]
      have g := wrapO_go (l := l) (op := bOpn) (sh := bSht) hS hE n1 (by decide) (by decide) hr
      cases hq : wrapO L l (i + 1) bOpn bSht r with
      | bad k j => rw [hq] at g; exact g
      | ok n j => rw [hq] at g; exact over_go hS (Nat.le_succ _) (one_go g) (Nat.le_refl _) g.2.1
    · rw [if_neg h2]
      exact leaf_go hS (Nat.le_succ _) n1
  · rw [if_neg h1]; exact hi
theorem convO_go (hS : Srt L) (hE : Ends L) {l i : Nat} {r : Out} (hi : i + 1 < L.length) (hr : i + 1 + 1 < L.length → GoN L (i + 1 + 1) r) : GoN L i (convO L l i r) := by
  unfold convO
  have g := wrapO_go (l := l) (op := bOpen) (sh := bShut) hS hE hi (by decide) (by decide) hr
  cases hq : wrapO L l (i + 1) bOpen bShut r with
  | bad k j => rw [hq] at g; exact g
  | ok n j => rw [hq] at g; exact over_go hS (Nat.le_succ _) (one_go g) (Nat.le_refl _) g.2.1
theorem unO_go (hS : Srt L) {l i : Nat} {r : Out} (hi : i < L.length) (hr : GoN L (i + 1) r) : GoN L i (unO L l i r) := by
  unfold unO
  by_cases h2 : l = 16
  · rw [if_pos h2]; exact hi
  rw [if_neg h2]
  cases r with
  | bad k j => exact hr
  | ok n j => exact over_go hS (Nat.le_succ _) (one_go hr) (Nat.le_refl _) hr.2.1
theorem bin_go (hS : Srt L) {i j j' : Nat} {n m : Nd} {op : ByteArray} (h : GoN L i (.ok n j)) (hj : j + 1 < L.length) (hm : GoN L (j + 1) (.ok m j')) : GoN L i (.ok (binN n op m) j') := by
  obtain ⟨a, b, c, d, e⟩ := h
  obtain ⟨a', b', c', d', e'⟩ := hm
  have s1 := hS j (j + 1) (Nat.le_succ _) hj
  have s2 := hS (j + 1) j' a' b'
  exact ⟨by omega, b', c, show n.pos ≤ _ by omega, pl_mk e.bg (plk_cons (Int.le_refl _) e (plk_one (by omega) e'))⟩
theorem rowF_go (hS : Srt L) (hE : Ends L) {rule : Nat → Out} {zs : List ByteArray} (hz : ∀ z ∈ zs, z.size ≠ 0) (hr : ∀ j, j < L.length → GoN L j (rule j)) {i : Nat} :
    ∀ (f j : Nat) (n : Nd), GoN L i (.ok n j) → GoN L i (rowF rule zs L f j n)
  | 0, _, _, h => h.2.1
  | f + 1, j, n, h => by
    unfold rowF
    by_cases h1 : has L j zs = true
    · rw [if_pos h1]
      have n1 := has_next hE h.2.1 hz h1
      have g := hr (j + 1) n1
      cases hq : rule (j + 1) with
      | bad k j' => rw [hq] at g; exact g
      | ok m j' => rw [hq] at g; exact rowF_go hS hE hz hr f j' _ (bin_go hS h n1 g)
    · rw [if_neg h1]; exact h
theorem rowO_go (hS : Srt L) (hE : Ends L) {rule : Nat → Out} {zs : List ByteArray} (hz : ∀ z ∈ zs, z.size ≠ 0) (hr : ∀ j, j < L.length → GoN L j (rule j)) {f i : Nat} (hi : i < L.length) : GoN L i (rowO rule zs L f i) := by
  unfold rowO
  have g := hr i hi
  cases hq : rule i with
  | bad k j => rw [hq] at g; exact g
  | ok n j => rw [hq] at g; exact rowF_go hS hE hz hr f j n g
theorem cmpO_go (hS : Srt L) (hE : Ends L) {rule : Nat → Out} (hr : ∀ j, j < L.length → GoN L j (rule j)) {i : Nat} (hi : i < L.length) : GoN L i (cmpO rule L i) := by
  unfold cmpO
  have g := hr i hi
  cases hq : rule i with
  | bad k j => rw [hq] at g; exact g
  | ok n j =>
    rw [hq] at g
    dsimp only
    by_cases h1 : has L j cmpT = true
    · rw [if_pos h1]
      have n1 := has_next hE g.2.1 (by decide) h1
      have g2 := hr (j + 1) n1
      cases hq2 : rule (j + 1) with
      | bad k j' => rw [hq2] at g2; exact g2
      | ok m j' => rw [hq2] at g2; exact bin_go hS g n1 g2
    · rw [if_neg h1]; exact g
theorem primO_go (hS : Srt L) (hE : Ends L) {l i : Nat} {r1 r2 : Out} (hi : i < L.length) (h1 : i + 1 < L.length → GoN L (i + 1) r1) (h2 : i + 1 + 1 < L.length → GoN L (i + 1 + 1) r2) : GoN L i (primO L l i r1 r2) := by
  unfold primO
  by_cases k3 : (tkAt L i).kind = 3
  · rw [if_pos k3]; exact leaf_go hS (Nat.le_succ _) (nxk hE hi (by decide) k3)
  rw [if_neg k3]
  by_cases k4 : (tkAt L i).kind = 4
  · rw [if_pos k4]; exact leaf_go hS (Nat.le_succ _) (nxk hE hi (by decide) k4)
  rw [if_neg k4]
  by_cases k1 : (tkAt L i).kind = 1
  · rw [if_pos k1]; exact targetO_go hS hE hi h2
  rw [if_neg k1]
  by_cases t1 : has L i [⟨#[116, 114, 117, 101]⟩] = true
  · rw [if_pos t1]; exact leaf_go hS (Nat.le_succ _) (nx1 hE hi (by decide) t1)
  rw [if_neg t1]
  by_cases t2 : has L i [⟨#[102, 97, 108, 115, 101]⟩] = true
  · rw [if_pos t2]; exact leaf_go hS (Nat.le_succ _) (nx1 hE hi (by decide) t2)
  rw [if_neg t2]
  by_cases t3 : has L i [⟨#[105, 110, 116]⟩, ⟨#[102, 108, 111, 97, 116]⟩] = true
  · rw [if_pos t3]; exact convO_go hS hE (has_next hE hi (by decide) t3) h2
  rw [if_neg t3]
  exact wrapO_go hS hE hi (by decide) (by decide) h1
theorem pz_go (hS : Srt L) (hE : Ends L) : ∀ (f rk l i : Nat), i < L.length → GoN L i (pz L f rk l i)
  | 0, _, _, _, hi => by unfold pz; exact hi
  | f + 1, 0, l, i, hi => by rw [pz0]; exact rowO_go hS hE (by decide) (fun j hj => pz_go hS hE f 1 l j hj) hi
  | f + 1, 1, l, i, hi => by rw [pz1]; exact rowO_go hS hE (by decide) (fun j hj => pz_go hS hE f 2 l j hj) hi
  | f + 1, 2, l, i, hi => by rw [pz2]; exact cmpO_go hS hE (fun j hj => pz_go hS hE f 3 l j hj) hi
  | f + 1, 3, l, i, hi => by rw [pz3]; exact rowO_go hS hE (by decide) (fun j hj => pz_go hS hE f 4 l j hj) hi
  | f + 1, 4, l, i, hi => by rw [pz4]; exact rowO_go hS hE (by decide) (fun j hj => pz_go hS hE f 5 l j hj) hi
  | f + 1, 5, l, i, hi => by
    rw [pz5]
    by_cases h1 : has L i unT = true
    · rw [if_pos h1]; exact unO_go hS hi (pz_go hS hE f 5 (l + 1) (i + 1) (has_next hE hi (by decide) h1))
    · rw [if_neg h1]; exact pz_go hS hE f 6 l i hi
  | f + 1, rk + 6, l, i, hi => by
    rw [pz6]
    exact primO_go hS hE hi (pz_go hS hE f 0 (l + 1) (i + 1)) (pz_go hS hE f 0 (l + 1) (i + 1 + 1))

end Go.Proofs.YtodgkfniimgfcaaGreatDoor.Ck
