/- Places of nodes, in the grammar's model: declarations, statements, programs. No Go text is walked here. -/
import Derived.Test.YtodgkfniimgfcaaGreatDoorHwQ
namespace Go.Proofs.YtodgkfniimgfcaaGreatDoor.Ck
open Go.RowKit

variable {L : List Tk}
theorem typedO_go (hE : Ends L) {i : Nat} (hi : i < L.length) : GoI L i (typedO L i) := by
  unfold typedO
  by_cases h1 : has L i [bInt] = true
  · rw [if_pos h1]; exact ⟨Nat.le_succ _, nx1 hE hi (by decide) h1⟩
  rw [if_neg h1]
  by_cases h2 : has L i [bFloat] = true
  · rw [if_pos h2]; exact ⟨Nat.le_succ _, nx1 hE hi (by decide) h2⟩
  rw [if_neg h2]
  by_cases h3 : has L i [bBool] = true
  · rw [if_pos h3]; exact ⟨Nat.le_succ _, nx1 hE hi (by decide) h3⟩
  rw [if_neg h3]
  exact hi
theorem boundO_go (hE : Ends L) {i : Nat} (hi : i < L.length) : GoI L i (boundO L i) := by
  unfold boundO
  by_cases h1 : has L i [bOpn] = true
  · rw [if_pos h1]
    have n1 := nx1 hE hi (by decide) h1
    by_cases h2 : (tkAt L (i + 1)).kind = 3
    · rw [if_pos h2]
      have n2 := nxk hE n1 (by decide) h2
      by_cases h3 : has L (i + 1 + 1) [bSht] = true
      · rw [if_pos h3]; exact ⟨by omega, nx1 hE n2 (by decide) h3⟩
      · rw [if_neg h3]; exact n2
    · rw [if_neg h2]; exact n1
  · rw [if_neg h1]; exact hi
theorem endO_go (hS : Srt L) (hE : Ends L) {i j : Nat} {n : Nd} (h : GoN L i (.ok n j)) : GoN L i (endO L j n) := by
  unfold endO
  by_cases h1 : has L j [bSemi] = true
  · rw [if_pos h1]; exact further_go hS h (Nat.le_succ _) (nx1 hE h.2.1 (by decide) h1)
  · rw [if_neg h1]; exact h.2.1
theorem typed_end (hS : Srt L) (hE : Ends L) {i j : Nat} (k : Int) (nm : ByteArray) (z : Int) (hi : i ≤ j) (hj : j < L.length) :
    GoN L i (match typedO L j with | .ok t j => endO L j (.mk k (tkAt L i).pos nm t z 0 0 0 []) | .bad k j => .bad k j) := by
  have g := typedO_go hE hj
  cases hq : typedO L j with
  | bad k j' => rw [hq] at g; exact g
  | ok t j' => rw [hq] at g; exact endO_go hS hE (leaf_go hS (Nat.le_trans hi g.1) g.2)
theorem variableO_go (hS : Srt L) (hE : Ends L) {i : Nat} (hi : i + 1 < L.length) : GoN L i (variableO L i) := by
  unfold variableO
  by_cases h1 : (tkAt L (i + 1)).kind = 1
  · rw [if_pos h1]
    have n1 := nxk hE hi (by decide) h1
    by_cases h2 : has L (i + 1 + 1) [bOpn] = true
    · rw [if_pos h2]
      have g := boundO_go hE n1
      cases hq : boundO L (i + 1 + 1) with
      | bad k j => rw [hq] at g; exact g
      | ok z j => rw [hq] at g; exact typed_end hS hE 3 _ z (Nat.le_trans (by omega) g.1) g.2
    · rw [if_neg h2]
      exact typed_end hS hE 2 _ 0 (by omega) n1
  · rw [if_neg h1]; exact hi
theorem channelO_go (hS : Srt L) (hE : Ends L) {i : Nat} (hi : i + 1 < L.length) : GoN L i (channelO L i) := by
  unfold channelO
  by_cases h1 : (tkAt L (i + 1)).kind = 1
  · rw [if_pos h1]
    have n1 := nxk hE hi (by decide) h1
    have g := boundO_go hE n1
    cases hq : boundO L (i + 1 + 1) with
    | bad k j => rw [hq] at g; exact g
    | ok z j => rw [hq] at g; exact typed_end hS hE 5 _ z (Nat.le_trans (by omega) g.1) g.2
  · rw [if_neg h1]; exact hi
theorem named0O_go (hS : Srt L) (hE : Ends L) {kd : Int} {i : Nat} (hi : i + 1 < L.length) : GoN L i (named0O L kd i) := by
  unfold named0O
  by_cases h1 : (tkAt L (i + 1)).kind = 1
  · rw [if_pos h1]; exact endO_go hS hE (leaf_go hS (by omega) (nxk hE hi (by decide) h1))
  · rw [if_neg h1]; exact hi
theorem named1O_go (hS : Srt L) (hE : Ends L) {kd : Int} {i : Nat} {r : Out} (hi : i + 1 < L.length) (hr : i + 1 + 1 + 1 < L.length → GoN L (i + 1 + 1 + 1) r) : GoN L i (named1O L kd i r) := by
  unfold named1O
  by_cases h1 : (tkAt L (i + 1)).kind = 1
  · rw [if_pos h1]
    have n1 := nxk hE hi (by decide) h1
    by_cases h2 : has L (i + 1 + 1) [bComma] = true
    · rw [if_pos h2]
      have n2 := nx1 hE n1 (by decide) h2
      have g := hr n2
      cases r with
      | bad k j => exact g
      | ok n j => exact endO_go hS hE (over_go hS (by omega) (one_go g) (Nat.le_refl _) g.2.1)
    · rw [if_neg h2]; exact n1
  · rw [if_neg h1]; exact hi
theorem paramO_go (hS : Srt L) (hE : Ends L) {i : Nat} (hi : i < L.length) : GoN L i (paramO L i) := by
  unfold paramO
  by_cases h1 : (tkAt L i).kind = 1
  · rw [if_pos h1]
    have g := typedO_go hE (nxk hE hi (by decide) h1)
    cases hq : typedO L (i + 1) with
    | bad k j => rw [hq] at g; exact g
    | ok t j => rw [hq] at g; exact leaf_go hS (Nat.le_trans (Nat.le_succ _) g.1) g.2
  · rw [if_neg h1]; exact hi
theorem listF_go (hS : Srt L) (hE : Ends L) {rule : Nat → Out} (hr : ∀ j, j < L.length → GoN L j (rule j)) {i : Nat} :
    ∀ (f j : Nat) (ns : List Nd), GoL L i (.ok ns j) → GoL L i (listF rule L f j ns)
  | 0, _, _, h => h.2.1
  | f + 1, j, ns, h => by
    unfold listF
    by_cases h1 : has L j [bComma] = true
    · rw [if_pos h1]
      have n1 := nx1 hE h.2.1 (by decide) h1
      have g := hr (j + 1) n1
      cases hq : rule (j + 1) with
      | bad k j' => rw [hq] at g; exact g
      | ok m j' => rw [hq] at g; exact listF_go hS hE hr f j' _ (snoc_go hS h (Nat.le_succ _) n1 g)
    · rw [if_neg h1]; exact h
theorem listO_go (hS : Srt L) (hE : Ends L) {rule : Nat → Out} (hr : ∀ j, j < L.length → GoN L j (rule j)) {i : Nat} (hi : i < L.length) : GoL L i (listO rule L i) := by
  unfold listO
  have g := hr i hi
  cases hq : rule i with
  | bad k j => rw [hq] at g; exact g
  | ok n j => rw [hq] at g; exact listF_go hS hE hr _ j _ (one_go g)
theorem none_go {i : Nat} (hi : i < L.length) : GoL L i (.ok [] i) := ⟨Nat.le_refl _, hi, plk_nil _, Int.le_refl _⟩
theorem wrapL_go (hS : Srt L) (hE : Ends L) {l i : Nat} {op sh : ByteArray} {r : OutL} (hi : i < L.length) (ho : op.size ≠ 0) (hs : sh.size ≠ 0) (hr : i + 1 < L.length → GoL L (i + 1) r) : GoL L i (wrapL L l i op sh r) := by
  unfold wrapL
  by_cases h1 : has L i [op] = true
  · rw [if_pos h1]
    have n1 := nx1 hE hi ho h1
    have g := hr n1
    by_cases h2 : l = 16
    · rw [if_pos h2]; exact hi
    rw [if_neg h2]
    cases r with
    | bad k j => exact g
    | ok n j =>
      dsimp only
      by_cases h3 : has L j [sh] = true
      · rw [if_pos h3]
        exact (longer_go hS g (Nat.le_succ _) (nx1 hE g.2.1 hs h3)).low hS (Nat.le_succ _) n1
      · rw [if_neg h3]
        exact g.2.1
  · rw [if_neg h1]; exact hi
theorem argsO_go (hS : Srt L) (hE : Ends L) {rule : Nat → Out} (hr : ∀ j, j < L.length → GoN L j (rule j)) {i : Nat} (hi : i < L.length) : GoL L i (argsO L i rule) := by
  unfold argsO
  by_cases h1 : has L i [bShut] = true
  · rw [if_pos h1]; exact none_go hi
  · rw [if_neg h1]; exact listO_go hS hE hr hi
theorem calledO_go (hS : Srt L) (hE : Ends L) {l i i0 : Nat} {rule : Nat → Out} (hr : ∀ j, j < L.length → GoN L j (rule j)) {mkn : List Nd → Nd} (hi : i < L.length) (hm : ∀ ns j, GoL L i (.ok ns j) → GoN L i0 (.ok (mkn ns) j)) : GoN L i0 (calledO L l i rule mkn) := by
  unfold calledO
  have g := wrapL_go (l := l) (op := bOpen) (sh := bShut) hS hE hi (by decide) (by decide) (fun n1 => argsO_go hS hE hr n1)
  cases hq : wrapL L l i bOpen bShut (argsO L (i + 1) rule) with
  | bad k j => rw [hq] at g; exact g
  | ok ns j => rw [hq] at g; exact endO_go hS hE (hm ns j g)
theorem goesO_go (hS : Srt L) (hE : Ends L) {l i : Nat} {rule : Nat → Out} (hr : ∀ j, j < L.length → GoN L j (rule j)) (hi : i + 1 < L.length) : GoN L i (goesO L l i rule) := by
  unfold goesO
  by_cases h1 : (tkAt L (i + 1)).kind = 1
  · rw [if_pos h1]
    exact calledO_go hS hE hr (nxk hE hi (by decide) h1) (fun ns j g => over_go hS (by omega) g (Nat.le_refl _) g.2.1)
  · rw [if_neg h1]; exact hi
theorem blockO_go (hS : Srt L) (hE : Ends L) {l i : Nat} {r : OutL} (hi : i < L.length) (hr : i + 1 < L.length → GoL L (i + 1) r) : GoN L i (blockO L l i r) := by
  unfold blockO
  have g := wrapL_go (l := l) (op := bCur) (sh := bCue) hS hE hi (by decide) (by decide) hr
  cases hq : wrapL L l i bCur bCue r with
  | bad k j => rw [hq] at g; exact g
  | ok ns j => rw [hq] at g; exact over_go hS (Nat.le_refl _) g (Nat.le_refl _) g.2.1
theorem stmtsF_go (hS : Srt L) {rule : Nat → Out} (hr : ∀ j, j < L.length → GoN L j (rule j)) {i : Nat} :
    ∀ (f j : Nat) (ns : List Nd), GoL L i (.ok ns j) → GoL L i (stmtsF rule L f j ns)
  | 0, _, _, h => h.2.1
  | f + 1, j, ns, h => by
    unfold stmtsF
    by_cases h1 : has L j [bCue] = true
    · rw [if_pos h1]; exact h
    rw [if_neg h1]
    have g := hr j h.2.1
    cases hq : rule j with
    | bad k j' => rw [hq] at g; exact g
    | ok m j' => rw [hq] at g; exact stmtsF_go hS hr f j' _ (snoc_go hS h (Nat.le_refl _) h.2.1 g)
theorem all2O_go (hS : Srt L) {ex bl : Nat → Out} (hx : ∀ j, j < L.length → GoN L j (ex j)) (hb : ∀ j, j < L.length → GoN L j (bl j)) {i : Nat} (hi : i < L.length) : GoL L i (all2O ex bl i) := by
  unfold all2O
  have g := hx i hi
  cases hq : ex i with
  | bad k j => rw [hq] at g; exact g
  | ok n j =>
    rw [hq] at g
    have g2 := hb j g.2.1
    dsimp only
    cases hq2 : bl j with
    | bad k j' => rw [hq2] at g2; exact g2
    | ok m j' => rw [hq2] at g2; exact snoc_go (ns := [n]) hS (one_go g) (Nat.le_refl _) g.2.1 g2
theorem branchO_go (hS : Srt L) (hE : Ends L) {ex bl : Nat → Out} (hx : ∀ j, j < L.length → GoN L j (ex j)) (hb : ∀ j, j < L.length → GoN L j (bl j)) {i : Nat} (hi : i + 1 < L.length) : GoN L i (branchO L i ex bl) := by
  unfold branchO
  have g := all2O_go hS hx hb hi
  cases hq : all2O ex bl (i + 1) with
  | bad k j => rw [hq] at g; exact g
  | ok ns j =>
    rw [hq] at g
    dsimp only
    by_cases h1 : has L j [bElse] = true
    · rw [if_pos h1]
      have n1 := nx1 hE g.2.1 (by decide) h1
      have g2 := hb (j + 1) n1
      cases hq2 : bl (j + 1) with
      | bad k j' => rw [hq2] at g2; exact g2
      | ok m j' =>
        rw [hq2] at g2
        have g3 := snoc_go hS g (Nat.le_succ _) n1 g2
        exact over_go hS (Nat.le_succ _) g3 (Nat.le_refl _) g3.2.1
    · rw [if_neg h1]
      exact over_go hS (Nat.le_succ _) g (Nat.le_refl _) g.2.1
theorem loopO_go (hS : Srt L) {ex bl : Nat → Out} (hx : ∀ j, j < L.length → GoN L j (ex j)) (hb : ∀ j, j < L.length → GoN L j (bl j)) {i : Nat} (hi : i + 1 < L.length) : GoN L i (loopO L i ex bl) := by
  unfold loopO
  have g := all2O_go hS hx hb hi
  cases hq : all2O ex bl (i + 1) with
  | bad k j => rw [hq] at g; exact g
  | ok ns j => rw [hq] at g; exact over_go hS (Nat.le_succ _) g (Nat.le_refl _) g.2.1
theorem leave0O_go (hS : Srt L) (hE : Ends L) {i : Nat} (hi : i + 1 < L.length) : GoN L i (leave0O L i) := endO_go hS hE (leaf_go hS (Nat.le_succ _) hi)
theorem leave1O_go (hS : Srt L) (hE : Ends L) {i : Nat} {r : Out} (hr : GoN L (i + 1) r) : GoN L i (leave1O L i r) := by
  unfold leave1O
  cases r with
  | bad k j => exact hr
  | ok n j => exact endO_go hS hE (over_go hS (Nat.le_succ _) (one_go hr) (Nat.le_refl _) hr.2.1)
/-- a node at the place of one that was read from i up to j, over a row behind it -/
theorem behind_go (hS : Srt L) {i j i' j' : Nat} {n : Nd} {k : Int} {nm : ByteArray} {t nz z o b : Int} {ns : List Nd} (h : GoN L i (.ok n j)) (hj : j ≤ i') (hi' : i' < L.length) (g : GoL L i' (.ok ns j')) : GoN L i (.ok (.mk k n.pos nm t nz z o b ns) j') := by
  obtain ⟨a, b, c, d, e⟩ := h
  obtain ⟨a', b', c', d'⟩ := g
  have s1 := hS j i' hj hi'
  have s2 := hS j j' (by omega) b'
  exact ⟨by omega, b', c, show n.pos ≤ _ by omega, pl_mk e.bg (plk_low (by omega) c')⟩
theorem wordFirstO_go (hS : Srt L) (hE : Ends L) {l i : Nat} {tg : Out} {ex exIn : Nat → Out} (ht : GoN L i tg) (hx : ∀ j, j < L.length → GoN L j (ex j)) (hy : ∀ j, j < L.length → GoN L j (exIn j)) : GoN L i (wordFirstO L l tg ex exIn) := by
  unfold wordFirstO
  cases tg with
  | bad k j => exact ht
  | ok n j =>
    dsimp only
    by_cases h1 : n.kind = 28 ∧ has L j [bOpen] = true
    · rw [if_pos h1]
      exact calledO_go hS hE hy ht.2.1 (fun ns j' g => behind_go hS ht (Nat.le_refl _) ht.2.1 g)
    rw [if_neg h1]
    by_cases h2 : n.kind = 28 ∧ has L j [bLet] = true
    · rw [if_pos h2]
      have n1 := nx1 hE ht.2.1 (by decide) h2.2
      have g := hx (j + 1) n1
      cases hq : ex (j + 1) with
      | bad k j' => rw [hq] at g; exact g
      | ok m j' => rw [hq] at g; exact endO_go hS hE (behind_go hS ht (Nat.le_succ _) n1 (one_go g))
    rw [if_neg h2]
    by_cases h3 : has L j [bSet] = true
    · rw [if_pos h3]
      have n1 := nx1 hE ht.2.1 (by decide) h3
      have g := hx (j + 1) n1
      cases hq : ex (j + 1) with
      | bad k j' => rw [hq] at g; exact g
      | ok m j' =>
        rw [hq] at g
        refine endO_go hS hE ?_
        obtain ⟨a, b, c, d, e⟩ := ht
        obtain ⟨a', b', c', d', e'⟩ := g
        have s1 := hS j (j + 1) (Nat.le_succ _) n1
        have s2 := hS (j + 1) j' a' b'
        exact ⟨by omega, b', c, show n.pos ≤ _ by omega, pl_mk e.bg (plk_cons (Int.le_refl _) e (plk_one (by omega) e'))⟩
    rw [if_neg h3]
    exact ht.2.1
theorem functionO_go (hS : Srt L) (hE : Ends L) {i : Nat} {bl : Nat → Out} (hi : i < L.length) (hb : ∀ j, j < L.length → GoN L j (bl j)) : GoN L i (functionO L i bl) := by
  unfold functionO
  by_cases h1 : has L i [bFunc] = true
  · rw [if_pos h1]
    have n1 := nx1 hE hi (by decide) h1
    by_cases h2 : (tkAt L (i + 1)).kind = 1
    · rw [if_pos h2]
      have n2 := nxk hE n1 (by decide) h2
      by_cases h3 : has L (i + 1 + 1) [bOpen] = true
      · rw [if_pos h3]
        have n3 := nx1 hE n2 (by decide) h3
        have g : GoL L (i + 1 + 1 + 1) (if has L (i + 1 + 1 + 1) [bShut] = true then OutL.ok [] (i + 1 + 1 + 1) else listO (paramO L) L (i + 1 + 1 + 1)) := argsO_go hS hE (fun j hj => paramO_go hS hE hj) n3
        cases hq : (if has L (i + 1 + 1 + 1) [bShut] = true then OutL.ok [] (i + 1 + 1 + 1) else listO (paramO L) L (i + 1 + 1 + 1)) with
        | bad k j => rw [hq] at g; exact g
        | ok ns j =>
          rw [hq] at g
          dsimp only
          by_cases h4 : has L j [bShut] = true
          · rw [if_pos h4]
            have n4 := nx1 hE g.2.1 (by decide) h4
            have g2 := hb (j + 1) n4
            cases hq2 : bl (j + 1) with
            | bad k j' => rw [hq2] at g2; exact g2
            | ok b j' =>
              rw [hq2] at g2
              have g3 := snoc_go hS g (Nat.le_succ _) n4 g2
              exact over_go hS (by omega) g3 (Nat.le_refl _) g3.2.1
          · rw [if_neg h4]; exact g.2.1
      · rw [if_neg h3]; exact n2
    · rw [if_neg h2]; exact n1
  · rw [if_neg h1]; exact hi
theorem stO_go (hS : Srt L) (hE : Ends L) {l i : Nat} {ex exI tg bl : Nat → Out} (hi : i < L.length) (hx : ∀ j, j < L.length → GoN L j (ex j)) (hy : ∀ j, j < L.length → GoN L j (exI j)) (ht : ∀ j, j < L.length → GoN L j (tg j)) (hb : ∀ j, j < L.length → GoN L j (bl j)) : GoN L i (stO L l i ex exI tg bl) := by
  unfold stO
  by_cases h : has L i [⟨#[103, 111]⟩] = true
  · rw [if_pos h]; exact goesO_go hS hE hy (nx1 hE hi (by decide) h)
  rw [if_neg h]; clear h
  by_cases h : has L i [⟨#[108, 111, 99, 107]⟩] = true
  · rw [if_pos h]; exact named0O_go hS hE (nx1 hE hi (by decide) h)
  rw [if_neg h]; clear h
  by_cases h : has L i [⟨#[117, 110, 108, 111, 99, 107]⟩] = true
  · rw [if_pos h]; exact named0O_go hS hE (nx1 hE hi (by decide) h)
  rw [if_neg h]; clear h
  by_cases h : has L i [⟨#[115, 101, 110, 100]⟩] = true
  · rw [if_pos h]; exact named1O_go hS hE (nx1 hE hi (by decide) h) (hx _)
  rw [if_neg h]; clear h
  by_cases h : has L i [⟨#[114, 101, 99, 118]⟩] = true
  · rw [if_pos h]; exact named1O_go hS hE (nx1 hE hi (by decide) h) (ht _)
  rw [if_neg h]; clear h
  by_cases h : has L i [⟨#[97, 100, 100]⟩] = true
  · rw [if_pos h]; exact named1O_go hS hE (nx1 hE hi (by decide) h) (hx _)
  rw [if_neg h]; clear h
  by_cases h : has L i [⟨#[112, 117, 116]⟩] = true
  · rw [if_pos h]; exact named1O_go hS hE (nx1 hE hi (by decide) h) (hx _)
  rw [if_neg h]; clear h
  by_cases h : has L i [⟨#[103, 101, 116]⟩] = true
  · rw [if_pos h]; exact named1O_go hS hE (nx1 hE hi (by decide) h) (ht _)
  rw [if_neg h]; clear h
  by_cases h : has L i [⟨#[105, 102]⟩] = true
  · rw [if_pos h]; exact branchO_go hS hE hx hb (nx1 hE hi (by decide) h)
  rw [if_neg h]; clear h
  by_cases h : has L i [⟨#[119, 104, 105, 108, 101]⟩] = true
  · rw [if_pos h]; exact loopO_go hS hx hb (nx1 hE hi (by decide) h)
  rw [if_neg h]; clear h
  by_cases h : has L i [⟨#[114, 101, 116, 117, 114, 110]⟩] = true
  · rw [if_pos h]; exact leave0O_go hS hE (nx1 hE hi (by decide) h)
  rw [if_neg h]; clear h
  by_cases h : has L i [⟨#[102, 97, 105, 108]⟩] = true
  · rw [if_pos h]; exact leave1O_go hS hE (hx _ (nx1 hE hi (by decide) h))
  rw [if_neg h]; clear h
  exact wordFirstO_go hS hE (ht i hi) hx hy
theorem dcO_go (hS : Srt L) (hE : Ends L) {i : Nat} {bl : Nat → Out} (hi : i < L.length) (hb : ∀ j, j < L.length → GoN L j (bl j)) : GoN L i (dcO L bl i) := by
  unfold dcO
  by_cases h : has L i [⟨#[118, 97, 114]⟩] = true
  · rw [if_pos h]; exact variableO_go hS hE (nx1 hE hi (by decide) h)
  rw [if_neg h]; clear h
  by_cases h : has L i [⟨#[109, 117, 116, 101, 120]⟩] = true
  · rw [if_pos h]; exact named0O_go hS hE (nx1 hE hi (by decide) h)
  rw [if_neg h]; clear h
  by_cases h : has L i [⟨#[99, 104, 97, 110]⟩] = true
  · rw [if_pos h]; exact channelO_go hS hE (nx1 hE hi (by decide) h)
  rw [if_neg h]; clear h
  by_cases h : has L i [⟨#[97, 116, 111, 109, 105, 99]⟩] = true
  · rw [if_pos h]; exact named0O_go hS hE (nx1 hE hi (by decide) h)
  rw [if_neg h]; clear h
  exact functionO_go hS hE hi hb
theorem exD_go (hS : Srt L) (hE : Ends L) (l : Nat) : ∀ j, j < L.length → GoN L j (exD L l j) := fun j hj => pz_go hS hE _ _ _ j hj
theorem tgD_go (hS : Srt L) (hE : Ends L) (l : Nat) : ∀ j, j < L.length → GoN L j (tgD L l j) := fun _ hj => targetO_go hS hE hj (pz_go hS hE _ _ _ _)
theorem stF_go (hS : Srt L) (hE : Ends L) : ∀ (f l i : Nat), i < L.length → GoN L i (stF L f l i)
  | 0, _, _, hi => by unfold stF; exact hi
  | f + 1, l, i, hi => by
    unfold stF
    exact stO_go hS hE hi (exD_go hS hE l) (exD_go hS hE (l + 1)) (tgD_go hS hE l) (fun j hj => blockO_go hS hE hj (fun n1 => stmtsF_go hS (stF_go hS hE f (l + 1)) _ _ _ (none_go n1)))
theorem blD_go (hS : Srt L) (hE : Ends L) (f l : Nat) : ∀ j, j < L.length → GoN L j (blD L f l j) := fun _ hj => blockO_go hS hE hj (fun n1 => stmtsF_go hS (stF_go hS hE f (l + 1)) _ _ _ (none_go n1))
theorem progF_go (hS : Srt L) {dc : Nat → Out} (hr : ∀ j, j < L.length → GoN L j (dc j)) {i : Nat} :
    ∀ (f j : Nat) (ns : List Nd), GoL L i (.ok ns j) → GoL L i (progF dc L f j ns)
  | 0, _, _, h => h.2.1
  | f + 1, j, ns, h => by
    unfold progF
    by_cases h1 : (tkAt L j).kind = 0
    · rw [if_pos h1]; exact h
    rw [if_neg h1]
    have g := hr j h.2.1
    cases hq : dc j with
    | bad k j' => rw [hq] at g; exact g
    | ok m j' => rw [hq] at g; exact progF_go hS hr f j' _ (snoc_go hS h (Nat.le_refl _) h.2.1 g)
/-- a program's nodes stand at tokens' beginnings, kids in order -/
theorem prD_go (hS : Srt L) (hE : Ends L) (h0 : 0 < L.length) : GoN L 0 (prD L) := by
  unfold prD programO
  have g := progF_go hS (dc := dcO L (blD L (L.length + 1) 0)) (fun j hj => dcO_go hS hE hj (blD_go hS hE _ _)) L.length 0 [] (none_go h0)
  cases hq : progF (dcO L (blD L (L.length + 1) 0)) L L.length 0 [] with
  | bad k j => rw [hq] at g; exact g
  | ok ns j => rw [hq] at g; exact over_go hS (Nat.le_refl _) g (Nat.le_refl _) g.2.1

end Go.Proofs.YtodgkfniimgfcaaGreatDoor.Ck
