/- Texts of this proof, packed: contracts of the program's functions, and the plain model that they are held against. -/
import Derived.Test.YtogeblmppagabaaGreatDoorQbo
/- Trees wherever they lie; how many nodes they have. -/
namespace Go.Proofs.YtogeblmppagabaaGreatDoor.Ck
open Go.RowKit

mutual
/-- the nine cells from a + o on are a node -/
def NodeA (w : World) (a : Addr) (o : Nat) : Nd → Prop
  | .mk k p nm t n z ob b ks => ∃ s, w.cell? (a.add o) = some (.int .i64 k) ∧ w.cell? (a.add (o + 1)) = some (.int .i64 p) ∧ w.cell? (a.add (o + 2)) = some (.string nm) ∧ w.cell? (a.add (o + 3)) = some (.int .i64 t) ∧ w.cell? (a.add (o + 4)) = some (.int .i64 n) ∧ w.cell? (a.add (o + 5)) = some (.int .i64 z) ∧ w.cell? (a.add (o + 6)) = some (.int .i64 ob) ∧ w.cell? (a.add (o + 7)) = some (.int .u64 b) ∧ w.cell? (a.add (o + 8)) = some s ∧ KidsR w ks s
def KidsR (w : World) : List Nd → Value → Prop
  | [], s => ∃ a c, s = .slice a 0 c
  | n :: ks, s => ∃ a c, s = .slice (some a) (ks.length + 1) c ∧ ks.length + 1 ≤ c ∧ c ≤ maxLen ∧ NodeA w a 0 n ∧ RowA w a 9 ks
def RowA (w : World) (a : Addr) (o : Nat) : List Nd → Prop
  | [] => True
  | n :: ks => NodeA w a o n ∧ RowA w a (o + 9) ks
end
/-- a value is a tree -/
def NodeR (w : World) : Nd → Value → Prop
  | .mk k p nm t n z ob b ks, v => ∃ s, v = .agg #[.int .i64 k, .int .i64 p, .string nm, .int .i64 t, .int .i64 n, .int .i64 z, .int .i64 ob, .int .u64 b, s] ∧ KidsR w ks s

mutual
theorem NodeA.bel {w w' : World} (hb : Below w.heap.size w w') (a : Addr) (o : Nat) : ∀ (n : Nd), NodeA w a o n → NodeA w' a o n
  | .mk _ _ _ _ _ _ _ _ ks, h => by
    unfold NodeA at h ⊢
    obtain ⟨s, c0, c1, c2, c3, c4, c5, c6, c7, c8, hk⟩ := h
    have hc : ∀ {q : Addr} {u : Value}, w.cell? q = some u → w'.cell? q = some u := fun hu => (hb.cell (World.block_lt_of_cell? w _ hu)).trans hu
    exact ⟨s, hc c0, hc c1, hc c2, hc c3, hc c4, hc c5, hc c6, hc c7, hc c8, KidsR.bel hb ks s hk⟩
theorem KidsR.bel {w w' : World} (hb : Below w.heap.size w w') : ∀ (ks : List Nd) (s : Value), KidsR w ks s → KidsR w' ks s
  | [], _, h => by
    unfold KidsR at h ⊢
    exact h
  | n :: ks, s, h => by
    unfold KidsR at h ⊢
    obtain ⟨a, c, h1, h2, h3, h4, h5⟩ := h
    exact ⟨a, c, h1, h2, h3, NodeA.bel hb a 0 n h4, RowA.bel hb a 9 ks h5⟩
theorem RowA.bel {w w' : World} (hb : Below w.heap.size w w') (a : Addr) (o : Nat) : ∀ (ks : List Nd), RowA w a o ks → RowA w' a o ks
  | [], _ => by
    unfold RowA
    trivial
  | n :: ks, h => by
    unfold RowA at h ⊢
    exact ⟨NodeA.bel hb a o n h.1, RowA.bel hb a (o + 9) ks h.2⟩
end
theorem own_add (g j : Nat) : (Addr.mk g 0 none).add j = ⟨g, j, none⟩ := by unfold Addr.add; by_cases h : j = 0 <;> simp [h]
mutual
theorem NodeA.own {w : World} {S : Nat → Prop} {g o : Nat} {cur : Array Value} (hg : w.heap[g]? = some (.cells cur 27 (0, 0))) (ho : o + 9 ≤ cur.size) : ∀ (n : Nd), NodeV w S n (nodeAt w g o) → NodeA w ⟨g, 0, none⟩ o n
  | .mk kd ps nm t nz z ob bi ks, hn => by
    obtain ⟨s, hc, _⟩ := NodAt.of hg ho hn
    unfold NodeV at hn
    obtain ⟨s2, h1, h2⟩ := hn
    have e : s2 = s := by
      have g8 := hc.c8
      unfold nodeAt at h1
      injection h1 with h1
      have hx : (#[cD w g o, cD w g (o + 1), cD w g (o + 2), cD w g (o + 3), cD w g (o + 4), cD w g (o + 5), cD w g (o + 6), cD w g (o + 7), cD w g (o + 8)] : Array Value)[8]? = some s2 := by rw [h1]; rfl
      have hx : cD w g (o + 8) = s2 := Option.some.inj hx
      unfold cD at hx
      rw [g8] at hx
      exact hx.symm
    subst e
    unfold NodeA
    simp only [own_add]
    exact ⟨s2, hc.c0, hc.c1, hc.c2, hc.c3, hc.c4, hc.c5, hc.c6, hc.c7, hc.c8, KidsV.rd ks s2 h2⟩
theorem KidsV.rd {w : World} {S : Nat → Prop} : ∀ (ks : List Nd) (s : Value), KidsV w S ks s → KidsR w ks s
  | [], _, h => by
    unfold KidsV at h
    unfold KidsR
    exact ⟨none, 0, h⟩
  | n :: ks, s, h => by
    unfold KidsV at h
    obtain ⟨g, cap, cur, h1, h2, h3, h4, h5, h6, h7, h8⟩ := h
    unfold KidsR
    have := Nat.mul_le_mul_right 9 h4
    exact ⟨⟨g, 0, none⟩, cap, h1, h4, h5, NodeA.own h3 (by omega) n h7, RowV.rd h3 ks 9 (by omega) h8⟩
theorem RowV.rd {w : World} {S : Nat → Prop} {g : Nat} {cur : Array Value} (hg : w.heap[g]? = some (.cells cur 27 (0, 0))) : ∀ (ks : List Nd) (o : Nat), o + 9 * ks.length ≤ cur.size → RowV w S g o ks → RowA w ⟨g, 0, none⟩ o ks
  | [], _, _, _ => by
    unfold RowA
    trivial
  | n :: ks, o, ho, h => by
    have hl : (n :: ks).length = ks.length + 1 := rfl
    unfold RowV at h
    unfold RowA
    exact ⟨NodeA.own hg (by omega) n h.1, RowV.rd hg ks (o + 9) (by omega) h.2⟩
end
theorem NodeV.rd {w : World} {S : Nat → Prop} {n : Nd} {v : Value} (h : NodeV w S n v) : NodeR w n v := by
  obtain ⟨kd, ps, nm, t, nz, z, ob, bi, ks⟩ := n
  unfold NodeV at h
  unfold NodeR
  obtain ⟨s, h1, h2⟩ := h
  exact ⟨s, h1, KidsV.rd ks s h2⟩
theorem NodeR.bel {w w' : World} {n : Nd} {v : Value} (h : NodeR w n v) (hb : Below w.heap.size w w') : NodeR w' n v := by
  obtain ⟨kd, ps, nm, t, nz, z, ob, bi, ks⟩ := n
  unfold NodeR at h ⊢
  obtain ⟨s, h1, h2⟩ := h
  exact ⟨s, h1, KidsR.bel hb ks s h2⟩
theorem RowA.at {w : World} {a : Addr} : ∀ {ks : List Nd} {o : Nat} (_ : RowA w a o ks) (j : Nat) (n : Nd), ks[j]? = some n → NodeA w a (o + 9 * j) n
  | [], _, _, _, _, h => by simp at h
  | m :: ks, o, h, 0, n, hn => by
    unfold RowA at h
    simp at hn
    subst hn
    simpa using h.1
  | m :: ks, o, h, j + 1, n, hn => by
    unfold RowA at h
    have := RowA.at h.2 j n (by simpa using hn)
    rw [show o + 9 * (j + 1) = o + 9 + 9 * j by omega]
    exact this
/-- the kids of a slice, one by one -/
theorem KidsR.kid {w : World} {ks : List Nd} {s : Value} (h : KidsR w ks s) :
    ∃ oa cap, s = .slice oa ks.length cap ∧ (ks = [] ∨ ∃ a, oa = some a ∧ ks.length ≤ cap ∧ cap ≤ maxLen ∧ ∀ j n, ks[j]? = some n → NodeA w a (9 * j) n) := by
  cases ks with
  | nil =>
    unfold KidsR at h
    obtain ⟨a, c, rfl⟩ := h
    exact ⟨a, c, rfl, .inl rfl⟩
  | cons m ks =>
    unfold KidsR at h
    obtain ⟨a, c, rfl, h1, h2, h3, h4⟩ := h
    refine ⟨some a, c, rfl, .inr ⟨a, rfl, h1, h2, fun j n hn => ?_⟩⟩
    have := RowA.at (ks := m :: ks) (o := 0) (by unfold RowA; exact ⟨h3, h4⟩) j n hn
    rwa [Nat.zero_add] at this

theorem add_off (a : Addr) (o k : Nat) (hk : k ≠ 0) : a.add (o + k) = ⟨(a.add o).block, (a.add o).off + k, none⟩ := by
  unfold Addr.add
  rw [if_neg (by omega)]
  by_cases h : o = 0
  · subst h
    simp
  · rw [if_neg h]
    simp [Nat.add_assoc]
/-- a node's cells as a walk asks for them behind an index -/
theorem NodeA.cells {w : World} {a : Addr} {j : Nat} {kd ps : Int} {nm : ByteArray} {t nz z ob bi : Int} {ks : List Nd} (h : NodeA w a (9 * j) (.mk kd ps nm t nz z ob bi ks)) :
    ∃ oa cap, w.cell? (a.add (j * 9)) = some (.int .i64 kd) ∧ w.cell? ⟨(a.add (j * 9)).block, (a.add (j * 9)).off + 1, none⟩ = some (.int .i64 ps) ∧ w.cell? ⟨(a.add (j * 9)).block, (a.add (j * 9)).off + 2, none⟩ = some (.string nm) ∧ w.cell? ⟨(a.add (j * 9)).block, (a.add (j * 9)).off + 3, none⟩ = some (.int .i64 t) ∧ w.cell? ⟨(a.add (j * 9)).block, (a.add (j * 9)).off + 4, none⟩ = some (.int .i64 nz) ∧ w.cell? ⟨(a.add (j * 9)).block, (a.add (j * 9)).off + 5, none⟩ = some (.int .i64 z) ∧ w.cell? ⟨(a.add (j * 9)).block, (a.add (j * 9)).off + 6, none⟩ = some (.int .i64 ob) ∧ w.cell? ⟨(a.add (j * 9)).block, (a.add (j * 9)).off + 7, none⟩ = some (.int .u64 bi) ∧ w.cell? ⟨(a.add (j * 9)).block, (a.add (j * 9)).off + 8, none⟩ = some (.slice oa ks.length cap) ∧ KidsR w ks (.slice oa ks.length cap) := by
  unfold NodeA at h
  obtain ⟨s, c0, c1, c2, c3, c4, c5, c6, c7, c8, hk⟩ := h
  obtain ⟨oa, cap, rfl, _⟩ := hk.kid
  rw [Nat.mul_comm 9 j] at c0 c1 c2 c3 c4 c5 c6 c7 c8
  rw [add_off a (j * 9) 1 (by omega)] at c1
  rw [add_off a (j * 9) 2 (by omega)] at c2
  rw [add_off a (j * 9) 3 (by omega)] at c3
  rw [add_off a (j * 9) 4 (by omega)] at c4
  rw [add_off a (j * 9) 5 (by omega)] at c5
  rw [add_off a (j * 9) 6 (by omega)] at c6
  rw [add_off a (j * 9) 7 (by omega)] at c7
  rw [add_off a (j * 9) 8 (by omega)] at c8
  exact ⟨oa, cap, c0, c1, c2, c3, c4, c5, c6, c7, c8, hk⟩
end Go.Proofs.YtogeblmppagabaaGreatDoor.Ck

/- How many nodes a tree has. -/
namespace Go.Proofs.YtogeblmppagabaaGreatDoor.Ck
open Go.RowKit

mutual
/-- how many nodes, as int64s count -/
def cntW : Nd → Int
  | .mk _ _ _ _ _ _ _ _ ks => cntK ks 1
def cntK : List Nd → Int → Int
  | [], c => c
  | n :: ks, c => cntK ks (wrap64 (c + cntW n))
end
theorem cntK_snoc : ∀ (ks : List Nd) (n : Nd) (c : Int), cntK (ks ++ [n]) c = wrap64 (cntK ks c + cntW n)
  | [], n, c => by
    show cntK [n] c = _
    simp only [cntK]
  | m :: ks, n, c => by
    show cntK (m :: (ks ++ [n])) c = _
    simp only [cntK]
    exact cntK_snoc ks n _
mutual
def szN : Nd → Nat
  | .mk _ _ _ _ _ _ _ _ ks => szK ks + 1
def szK : List Nd → Nat
  | [] => 0
  | n :: ks => szN n + szK ks + 1
end
theorem szK_at : ∀ {ks : List Nd} {j : Nat} {n : Nd}, ks[j]? = some n → szN n < szK ks + 1
  | [], _, _, h => by simp at h
  | m :: ks, 0, n, h => by
    simp at h
    subst h
    simp only [szK]
    omega
  | m :: ks, j + 1, n, h => by
    have := szK_at (ks := ks) (j := j) (n := n) (by simpa using h)
    simp only [szK]
    omega
theorem take_snoc {ks : List Nd} {j : Nat} {n : Nd} (h : ks[j]? = some n) : ks.take (j + 1) = ks.take j ++ [n] := by
  rw [List.take_add_one, h]
  rfl


end Go.Proofs.YtogeblmppagabaaGreatDoor.Ck

/- How many nodes of a tree stand in one another. -/
namespace Go.Proofs.YtogeblmppagabaaGreatDoor.Ck
open Go.RowKit

mutual
/-- how many nodes stand in one another, as int64s count -/
def depW : Nd → Int
  | .mk _ _ _ _ _ _ _ _ ks => wrap64 (1 + depK ks 0)
def depK : List Nd → Int → Int
  | [], c => c
  | n :: ks, c => depK ks (max c (depW n))
end
theorem depK_snoc : ∀ (ks : List Nd) (n : Nd) (c : Int), depK (ks ++ [n]) c = max (depK ks c) (depW n)
  | [], n, c => by
    show depK [n] c = _
    simp only [depK]
  | m :: ks, n, c => by
    show depK (m :: (ks ++ [n])) c = _
    simp only [depK]
    exact depK_snoc ks n _

set_option maxRecDepth 20000 in
set_option maxHeartbeats 1000000 in
theorem depth_all : ∀ (m : Nat) (n : Nd), szN n < m → ∀ (w : World) (v : Value), NodeR w n v → Calls Tryz.prog 24 #[v] w fun e w' => e = .returned (.int .i64 (depW n)) ∧ Below w.heap.size w w' := by
  intro m
  induction m with
  | zero => intro n h; omega
  | succ m ih =>
    intro n hm w v hv
    have IH := hide ih
    clear ih
    obtain ⟨kd, ps, nm, t, nz, z, ob, bi, ks⟩ := n
    unfold NodeR at hv
    obtain ⟨s, rfl, hk⟩ := hv
    obtain ⟨oa, cap, rfl, hkk⟩ := hk.kid
    have hb0 := bel_new w (.cells #[.int .i64 kd, .int .i64 ps, .string nm, .int .i64 t, .int .i64 nz, .int .i64 z, .int .i64 ob, .int .u64 bi, .slice oa ks.length cap] 27)
    have B0 := hide hb0
    have HM := hide hm
    have HK := hide hkk
    have hlen : ks.length ≤ 9223372036854775807 := by
      rcases hkk with rfl | ⟨a, _, h1, h2, _⟩
      · simp
      · unfold maxLen at h2
        omega
    obtain ⟨len, hln⟩ : ∃ len, len = ks.length := ⟨_, rfl⟩
    rw [← hln] at B0 hlen ⊢
    have HLN := hide hln
    clear hb0 hm hkk hk hln
    obtain ⟨out, ho⟩ : ∃ out, depW (.mk kd ps nm t nz z ob bi ks) = out := ⟨_, rfl⟩
    rw [ho]
    have HW := hide ho
    clear ho
    go_enter Tryz.func24, Tryz.ntmps24
    go_wp2_with fail
    generalize w.alloc (.cells #[.int .i64 kd, .int .i64 ps, .string nm, .int .i64 t, .int .i64 nz, .int .i64 z, .int .i64 ob, .int .u64 bi, .slice oa len cap] 27) = w0 at *
    go_loopw [3, 9] (fun vc vi wr => ∃ (j : Nat) (c : Int), j ≤ len ∧ vi = .int .i64 j ∧ vc = .int .i64 c ∧ Hid (c = depK (ks.take j) 0 ∧ Below w.heap.size w wr)) (fun _ vi _ => len - (intOf vi).toNat)
    case atStart => exact ⟨0, 0, Nat.zero_le _, rfl, rfl, by simp [depK], B0.out⟩
    case round =>
      clear B0
      obtain ⟨j, c, hj, rfl, rfl, I⟩ := hrel
      by_cases hjl : j < len
      · have hj2 : (j : Int) < (len : Int) := by omega
        obtain ⟨a, rfl, hc1, hc2, hkid⟩ : ∃ a, oa = some a ∧ ks.length ≤ cap ∧ cap ≤ maxLen ∧ ∀ j n, ks[j]? = some n → NodeA w a (9 * j) n := by
          rcases HK.out with h | h
          · exfalso
            have := HLN.out
            rw [h] at this
            simp at this
            omega
          · exact h
        obtain ⟨n, hn⟩ : ∃ n, ks[j]? = some n := ⟨_, List.getElem?_eq_getElem (by have := HLN.out; omega)⟩
        have hsz : szN n < m := by
          have h1 := szK_at hn
          have h2 := HM.out
          simp only [szN] at h2
          omega
        obtain ⟨kd', ps', nm', t', nz', z', ob', bi', ks'⟩ := n
        have hA := NodeA.bel (show Below w.heap.size w wr from I.out.2) a (9 * j) _ (hkid j _ hn)
        obtain ⟨oa', cap', c0, c1, c2, c3, c4, c5, c6, c7, c8, hkk⟩ := hA.cells
        obtain ⟨len', hln'⟩ : ∃ len', len' = ks'.length := ⟨_, rfl⟩
        rw [← hln'] at c8 hkk
        have hb1 := bel_new wr (.cells #[.int .i64 kd', .int .i64 ps', .string nm', .int .i64 t', .int .i64 nz', .int .i64 z', .int .i64 ob', .int .u64 bi', .slice oa' len' cap'] 27)
        have hR : NodeR (wr.alloc (.cells #[.int .i64 kd', .int .i64 ps', .string nm', .int .i64 t', .int .i64 nz', .int .i64 z', .int .i64 ob', .int .u64 bi', .slice oa' len' cap'] 27)) (.mk kd' ps' nm' t' nz' z' ob' bi' ks') (.agg #[.int .i64 kd', .int .i64 ps', .string nm', .int .i64 t', .int .i64 nz', .int .i64 z', .int .i64 ob', .int .u64 bi', .slice oa' len' cap']) := by
          unfold NodeR
          exact ⟨_, rfl, KidsR.bel hb1 _ _ hkk⟩
        have RR := hide (IH.out _ hsz _ _ hR)
        have B1 := hide (bel_trans I.out.2 hb1)
        have HN := hide hn
        unfold maxLen at hc2
        clear hkid hkk hln' hn hsz hc1 hb1 hR hA
        go_wp2_with fail
        refine RR.out.mono ?_
        rintro e w3 ⟨rfl, hb3⟩
        have B3 := hide (bel_trans B1.out hb3)
        have C3 := hide I.out.1
        clear RR B1 hb3 I c0 c1 c2 c3 c4 c5 c6 c7 c8
        go_wp2_with fail
        go_roundw
        case rel =>
          refine ⟨j + 1, _, by omega, by go_num, rfl, ?_, B3.out⟩
          rw [take_snoc HN.out, depK_snoc, ← C3.out]
        case measure =>
          simp [intOf]
          omega
      · have hj2 : ¬ (j : Int) < (len : Int) := by omega
        go_wp2_with fail
        go_ret
        refine ⟨?_, I.out.2⟩
        rw [← HW.out, I.out.1, List.take_of_length_le (by have := HLN.out; omega)]
        rfl
theorem depth_any {w : World} {n : Nd} {v : Value} (h : NodeR w n v) : Calls Tryz.prog 24 #[v] w fun e w' => e = .returned (.int .i64 (depW n)) ∧ Below w.heap.size w w' :=
  depth_all (szN n + 1) n (by omega) w v h

end Go.Proofs.YtogeblmppagabaaGreatDoor.Ck
