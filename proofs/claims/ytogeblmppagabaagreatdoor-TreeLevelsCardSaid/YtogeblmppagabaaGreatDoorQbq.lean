/- Texts of this proof, packed: contracts of the program's functions, and the plain model that they are held against. -/
import Derived.Test.YtogeblmppagabaaGreatDoorQbp
import Derived.Test.YtogeblmppagabaaGreatDoorQai
/- Trees that are the same but for places. -/
namespace Go.Proofs.YtogeblmppagabaaGreatDoor.Ck
open Go.RowKit

mutual
def sameN : Nd → Nd → Bool
  | .mk k _ nm t n z o b ks, .mk k' _ nm' t' n' z' o' b' ks' => decide (k = k') && (decide (nm = nm') && (decide (t = t') && (decide (n = n') && (decide (z = z') && (decide (o = o') && (decide (b = b') && sameK ks ks'))))))
def sameK : List Nd → List Nd → Bool
  | [], [] => true
  | n :: ks, n' :: ks' => sameN n n' && sameK ks ks'
  | _, _ => false
end
theorem sameK_len : ∀ {ks ks' : List Nd}, sameK ks ks' = true → ks.length = ks'.length
  | [], [], _ => rfl
  | [], _ :: _, h => by simp [sameK] at h
  | _ :: _, [], h => by simp [sameK] at h
  | n :: ks, n' :: ks', h => by
    simp only [sameK, Bool.and_eq_true] at h
    simp [sameK_len h.2]
theorem sameK_take : ∀ (ks ks' : List Nd) (j : Nat), sameK ks ks' = true → sameK (ks.take j) (ks'.take j) = true
  | [], [], _, _ => by simp [sameK]
  | [], _ :: _, _, h => by simp [sameK] at h
  | _ :: _, [], _, h => by simp [sameK] at h
  | n :: ks, n' :: ks', 0, _ => by simp [sameK]
  | n :: ks, n' :: ks', j + 1, h => by
    simp only [sameK, Bool.and_eq_true] at h
    simp only [List.take_succ_cons, sameK, Bool.and_eq_true]
    exact ⟨h.1, sameK_take ks ks' j h.2⟩
theorem sameK_at : ∀ {ks ks' : List Nd} {j : Nat} {n n' : Nd}, sameK ks ks' = true → ks[j]? = some n → ks'[j]? = some n' → sameN n n' = true
  | [], _, _, _, _, _, h, _ => by simp at h
  | _ :: _, [], _, _, _, h, _, _ => by simp [sameK] at h
  | m :: ks, m' :: ks', 0, n, n', h, h1, h2 => by
    simp only [sameK, Bool.and_eq_true] at h
    simp at h1 h2
    subst h1
    subst h2
    exact h.1
  | m :: ks, m' :: ks', j + 1, n, n', h, h1, h2 => by
    simp only [sameK, Bool.and_eq_true] at h
    exact sameK_at h.2 (by simpa using h1) (by simpa using h2)
theorem sameK_snoc : ∀ {ks ks' : List Nd} {n n' : Nd}, sameK ks ks' = true → sameN n n' = true → sameK (ks ++ [n]) (ks' ++ [n']) = true
  | [], [], _, _, _, h => by simp [sameK, h]
  | [], _ :: _, _, _, h, _ => by simp [sameK] at h
  | _ :: _, [], _, _, h, _ => by simp [sameK] at h
  | m :: ks, m' :: ks', n, n', h, h1 => by
    simp only [sameK, Bool.and_eq_true] at h
    simp only [List.cons_append, sameK, Bool.and_eq_true]
    exact ⟨h.1, sameK_snoc h.2 h1⟩
theorem str_ne {a b : ByteArray} (h : ¬ a = b) : (a.toList == b.toList) = false := by
  cases hq : (a.toList == b.toList) with
  | false => rfl
  | true =>
    exfalso
    apply h
    have h1 : a.toList = b.toList := by simpa using hq
    rw [ByteArray.toList_eq, ByteArray.toList_eq] at h1
    exact ba_ext h1
/-- the contract of Same at trees of less than m -/
def SameC (m : Nat) : Prop := ∀ (n n' : Nd), szN n < m → ∀ (w : World) (v v' : Value), NodeR w n v → NodeR w n' v' → Calls Tryz.prog 23 #[v, v'] w fun e w' => e = .returned (.bool (sameN n n')) ∧ Below w.heap.size w w'

set_option maxRecDepth 20000 in
set_option maxHeartbeats 1000000 in
theorem equal_at {m : Nat} (ih : SameC m) (ks ks' : List Nd) (hm : szK ks < m) (w : World) (s s' : Value) (hk : KidsR w ks s) (hk' : KidsR w ks' s') :
    Calls Tryz.prog 48 #[s, s', .func (.func 23) #[] #[]] w fun e w' => e = .returned (.bool (sameK ks ks')) ∧ Below w.heap.size w w' := by
  have IH := hide ih
  clear ih
  obtain ⟨oa, cap, rfl, hkk⟩ := hk.kid
  obtain ⟨oa', cap', rfl, hkk'⟩ := hk'.kid
  have HM := hide hm
  have HK := hide hkk
  have HK' := hide hkk'
  have hlen : ks.length ≤ 9223372036854775807 := by
    rcases hkk with rfl | ⟨a, _, h1, h2, _⟩
    · simp
    · unfold maxLen at h2
      omega
  have hlen' : ks'.length ≤ 9223372036854775807 := by
    rcases hkk' with rfl | ⟨a, _, h1, h2, _⟩
    · simp
    · unfold maxLen at h2
      omega
  obtain ⟨len, hln⟩ : ∃ len, len = ks.length := ⟨_, rfl⟩
  obtain ⟨len', hln'⟩ : ∃ len', len' = ks'.length := ⟨_, rfl⟩
  rw [← hln, ← hln']
  rw [← hln] at hlen
  rw [← hln'] at hlen'
  have HLN := hide hln
  have HLN' := hide hln'
  clear hm hkk hk hkk' hk' hln hln'
  by_cases hll : len = len'
  · subst hll
    have hneq : ((len : Int) != (len : Int)) = false := by simp
    go_enter Tryz.func48, Tryz.ntmps48
    go_wp2_with fail
    go_loopw [17] (fun vi wr => ∃ (j : Nat), j ≤ len ∧ vi = .int .i64 j ∧ Hid (sameK (ks.take j) (ks'.take j) = true ∧ Below w.heap.size w wr)) (fun vi _ => len - (intOf vi).toNat)
    case atStart => exact ⟨0, Nat.zero_le _, rfl, by simp [sameK], Below.refl _ _⟩
    case round =>
      obtain ⟨j, hj, rfl, I⟩ := hrel
      by_cases hjl : j < len
      · have hj2 : (j : Int) < (len : Int) := by omega
        obtain ⟨a, rfl, hc1, hc2, hkid⟩ : ∃ a, oa = some a ∧ ks.length ≤ cap ∧ cap ≤ maxLen ∧ ∀ j n, ks[j]? = some n → NodeA w a (9 * j) n := by
          rcases HK.out with h | h
          · exfalso
            have := HLN.out
            rw [h] at this
            simp at this
            omega
          · exact h
        obtain ⟨a', rfl, hc1', hc2', hkid'⟩ : ∃ a, oa' = some a ∧ ks'.length ≤ cap' ∧ cap' ≤ maxLen ∧ ∀ j n, ks'[j]? = some n → NodeA w a (9 * j) n := by
          rcases HK'.out with h | h
          · exfalso
            have := HLN'.out
            rw [h] at this
            simp at this
            omega
          · exact h
        obtain ⟨n, hn⟩ : ∃ n, ks[j]? = some n := ⟨_, List.getElem?_eq_getElem (by have := HLN.out; omega)⟩
        obtain ⟨n', hn'⟩ : ∃ n, ks'[j]? = some n := ⟨_, List.getElem?_eq_getElem (by have := HLN'.out; omega)⟩
        have hsz : szN n < m := by
          have h1 := szK_at hn
          have h2 := HM.out
          omega
        obtain ⟨kx, px, nx, tx', zx, sx, ox, bx, cx⟩ := n
        obtain ⟨ky, py, ny, ty, zy, sy, oy, by', cy⟩ := n'
        have hA := NodeA.bel (show Below w.heap.size w wr from I.out.2) a (9 * j) _ (hkid j _ hn)
        have hA' := NodeA.bel (show Below w.heap.size w wr from I.out.2) a' (9 * j) _ (hkid' j _ hn')
        obtain ⟨ax, px1, c0, c1, c2, c3, c4, c5, c6, c7, c8, hkx⟩ := hA.cells
        obtain ⟨lx, hlx⟩ : ∃ lx, lx = cx.length := ⟨_, rfl⟩
        rw [← hlx] at c8 hkx
        have hb1 := bel_new wr (.cells #[.int .i64 kx, .int .i64 px, .string nx, .int .i64 tx', .int .i64 zx, .int .i64 sx, .int .i64 ox, .int .u64 bx, .slice ax lx px1] 27)
        have hA2 := NodeA.bel hb1 a' (9 * j) _ hA'
        obtain ⟨ay, py1, d0, d1, d2, d3, d4, d5, d6, d7, d8, hky⟩ := hA2.cells
        obtain ⟨ly, hly⟩ : ∃ ly, ly = cy.length := ⟨_, rfl⟩
        rw [← hly] at d8 hky
        have hb2 := bel_new (wr.alloc (.cells #[.int .i64 kx, .int .i64 px, .string nx, .int .i64 tx', .int .i64 zx, .int .i64 sx, .int .i64 ox, .int .u64 bx, .slice ax lx px1] 27)) (.cells #[.int .i64 ky, .int .i64 py, .string ny, .int .i64 ty, .int .i64 zy, .int .i64 sy, .int .i64 oy, .int .u64 by', .slice ay ly py1] 27)
        have hR : NodeR ((wr.alloc (.cells #[.int .i64 kx, .int .i64 px, .string nx, .int .i64 tx', .int .i64 zx, .int .i64 sx, .int .i64 ox, .int .u64 bx, .slice ax lx px1] 27)).alloc (.cells #[.int .i64 ky, .int .i64 py, .string ny, .int .i64 ty, .int .i64 zy, .int .i64 sy, .int .i64 oy, .int .u64 by', .slice ay ly py1] 27)) (.mk kx px nx tx' zx sx ox bx cx) (.agg #[.int .i64 kx, .int .i64 px, .string nx, .int .i64 tx', .int .i64 zx, .int .i64 sx, .int .i64 ox, .int .u64 bx, .slice ax lx px1]) := by
          unfold NodeR
          exact ⟨_, rfl, KidsR.bel hb2 _ _ (KidsR.bel hb1 _ _ hkx)⟩
        have hR' : NodeR ((wr.alloc (.cells #[.int .i64 kx, .int .i64 px, .string nx, .int .i64 tx', .int .i64 zx, .int .i64 sx, .int .i64 ox, .int .u64 bx, .slice ax lx px1] 27)).alloc (.cells #[.int .i64 ky, .int .i64 py, .string ny, .int .i64 ty, .int .i64 zy, .int .i64 sy, .int .i64 oy, .int .u64 by', .slice ay ly py1] 27)) (.mk ky py ny ty zy sy oy by' cy) (.agg #[.int .i64 ky, .int .i64 py, .string ny, .int .i64 ty, .int .i64 zy, .int .i64 sy, .int .i64 oy, .int .u64 by', .slice ay ly py1]) := by
          unfold NodeR
          exact ⟨_, rfl, KidsR.bel hb2 _ _ hky⟩
        have RR := hide (IH.out _ _ hsz _ _ _ hR hR')
        have B1 := hide (bel_trans I.out.2 (bel_trans hb1 hb2))
        have HN := hide hn
        have HN' := hide hn'
        have C0 := hide I.out.1
        unfold maxLen at hc2 hc2'
        obtain ⟨q, hq⟩ : ∃ q, sameN (.mk kx px nx tx' zx sx ox bx cx) (.mk ky py ny ty zy sy oy by' cy) = q := ⟨_, rfl⟩
        rw [hq] at RR
        have HQ := hide hq
        clear hkid hkx hlx hn hsz hc1 hb1 hb2 hR hA hkid' hky hly hn' hc1' hR' hA' hA2 hq I
        go_wp2_with fail
        refine RR.out.mono ?_
        rintro e w3 ⟨rfl, hb3⟩
        have B3 := hide (bel_trans B1.out hb3)
        clear RR B1 hb3 c0 c1 c2 c3 c4 c5 c6 c7 c8 d0 d1 d2 d3 d4 d5 d6 d7 d8
        cases q with
        | true =>
          go_wp2_with fail
          go_roundw
          case rel =>
            refine ⟨j + 1, by omega, by go_num, ?_, B3.out⟩
            rw [take_snoc HN.out, take_snoc HN'.out]
            exact sameK_snoc C0.out HQ.out
          case measure =>
            simp [intOf]
            omega
        | false =>
          go_wp2_with fail
          go_ret
          refine ⟨?_, B3.out⟩
          cases hs : sameK ks ks' with
          | false => rfl
          | true =>
            have := sameK_at hs HN.out HN'.out
            rw [HQ.out] at this
            cases this
      · have hj2 : ¬ (j : Int) < (len : Int) := by omega
        go_wp2_with fail
        go_ret
        refine ⟨?_, I.out.2⟩
        have h1 := I.out.1
        rw [List.take_of_length_le (by have := HLN.out; omega), List.take_of_length_le (by have := HLN'.out; omega)] at h1
        rw [h1]
        rfl
  · have hneq : ((len : Int) != (len' : Int)) = true := by simpa using (fun h : (len : Int) = (len' : Int) => hll (by omega))
    go_enter Tryz.func48, Tryz.ntmps48
    go_wp2_with fail
    go_ret
    refine ⟨?_, Below.refl _ _⟩
    cases hs : sameK ks ks' with
    | false => rfl
    | true =>
      have := sameK_len hs
      rw [← HLN.out, ← HLN'.out] at this
      exact absurd this hll

set_option maxRecDepth 20000 in
set_option maxHeartbeats 1000000 in
theorem same_all : ∀ (m : Nat), SameC m := by
  intro m
  induction m with
  | zero => intro n n' h; omega
  | succ m ih =>
    intro n n' hm w v v' hv hv'
    have IH := hide ih
    clear ih
    obtain ⟨kd, ps, nm, t, nz, z, ob, bi, ks⟩ := n
    obtain ⟨kd', ps', nm', t', nz', z', ob', bi', ks'⟩ := n'
    unfold NodeR at hv hv'
    obtain ⟨s, rfl, hk⟩ := hv
    obtain ⟨s', rfl, hk'⟩ := hv'
    obtain ⟨oa, cap, rfl, _⟩ := hk.kid
    obtain ⟨oa', cap', rfl, _⟩ := hk'.kid
    obtain ⟨len, hln⟩ : ∃ len, len = ks.length := ⟨_, rfl⟩
    obtain ⟨len', hln'⟩ : ∃ len', len' = ks'.length := ⟨_, rfl⟩
    rw [← hln] at hk ⊢
    rw [← hln'] at hk' ⊢
    have hb1 := bel_new w (.cells #[.int .i64 kd, .int .i64 ps, .string nm, .int .i64 t, .int .i64 nz, .int .i64 z, .int .i64 ob, .int .u64 bi, .slice oa len cap] 27)
    have hb2 := bel_new (w.alloc (.cells #[.int .i64 kd, .int .i64 ps, .string nm, .int .i64 t, .int .i64 nz, .int .i64 z, .int .i64 ob, .int .u64 bi, .slice oa len cap] 27)) (.cells #[.int .i64 kd', .int .i64 ps', .string nm', .int .i64 t', .int .i64 nz', .int .i64 z', .int .i64 ob', .int .u64 bi', .slice oa' len' cap'] 27)
    have KR := hide (KidsR.bel hb2 _ _ (KidsR.bel hb1 _ _ hk))
    have KR' := hide (KidsR.bel hb2 _ _ (KidsR.bel hb1 _ _ hk'))
    have B2 := hide (bel_trans hb1 hb2)
    have hs1 : (w.alloc (.cells #[.int .i64 kd, .int .i64 ps, .string nm, .int .i64 t, .int .i64 nz, .int .i64 z, .int .i64 ob, .int .u64 bi, .slice oa len cap] 27)).heap.size = w.heap.size + 1 := by simp
    have k1 : Nod (w.alloc (.cells #[.int .i64 kd, .int .i64 ps, .string nm, .int .i64 t, .int .i64 nz, .int .i64 z, .int .i64 ob, .int .u64 bi, .slice oa len cap] 27)) w.heap.size (.int .i64 kd) (.int .i64 ps) (.string nm) (.int .i64 t) (.int .i64 nz) (.int .i64 z) (.int .i64 ob) (.int .u64 bi) (.slice oa len cap) := Go.Deep.blk_alloc_new _ _
    have k2 : Nod ((w.alloc (.cells #[.int .i64 kd, .int .i64 ps, .string nm, .int .i64 t, .int .i64 nz, .int .i64 z, .int .i64 ob, .int .u64 bi, .slice oa len cap] 27)).alloc (.cells #[.int .i64 kd', .int .i64 ps', .string nm', .int .i64 t', .int .i64 nz', .int .i64 z', .int .i64 ob', .int .u64 bi', .slice oa' len' cap'] 27)) (w.alloc (.cells #[.int .i64 kd, .int .i64 ps, .string nm, .int .i64 t, .int .i64 nz, .int .i64 z, .int .i64 ob, .int .u64 bi, .slice oa len cap] 27)).heap.size (.int .i64 kd') (.int .i64 ps') (.string nm') (.int .i64 t') (.int .i64 nz') (.int .i64 z') (.int .i64 ob') (.int .u64 bi') (.slice oa' len' cap') := Go.Deep.blk_alloc_new _ _
    rw [hs1] at k2
    obtain ⟨_, c0, c1, c2, c3, c4, c5, c6, c7, c8⟩ := (k1.bel hb2).all
    obtain ⟨_, d0, d1, d2, d3, d4, d5, d6, d7, d8⟩ := k2.all
    have hsz : szK ks < m := by simp only [szN] at hm; omega
    have EQ := hide (equal_at IH.out ks ks' hsz _ _ _ KR.out KR'.out)
    clear hm hk hk' hln hln' hb1 hb2 k1 k2 hs1 hsz KR KR' IH
    by_cases hkd : kd = kd'
    rotate_left 1
    · have hne : (kd == kd') = false := by simpa using hkd
      have HN := hide hkd
      clear hkd EQ
      go_enter Tryz.func23, Tryz.ntmps23
      go_wp2_with fail
      go_ret
      refine ⟨?_, B2.out⟩
      simp [sameN, HN.out]
    subst hkd
    by_cases hnm : nm = nm'
    rotate_left 1
    · have hne : (nm.toList == nm'.toList) = false := str_ne hnm
      have HN := hide hnm
      clear hnm EQ
      go_enter Tryz.func23, Tryz.ntmps23
      go_wp2_with fail
      go_ret
      refine ⟨?_, B2.out⟩
      simp [sameN, HN.out]
    subst hnm
    by_cases ht : t = t'
    rotate_left 1
    · have hne : (t == t') = false := by simpa using ht
      have HN := hide ht
      clear ht EQ
      go_enter Tryz.func23, Tryz.ntmps23
      go_wp2_with fail
      go_ret
      refine ⟨?_, B2.out⟩
      simp [sameN, HN.out]
    subst ht
    by_cases hnz : nz = nz'
    rotate_left 1
    · have hne : (nz == nz') = false := by simpa using hnz
      have HN := hide hnz
      clear hnz EQ
      go_enter Tryz.func23, Tryz.ntmps23
      go_wp2_with fail
      go_ret
      refine ⟨?_, B2.out⟩
      simp [sameN, HN.out]
    subst hnz
    by_cases hz : z = z'
    rotate_left 1
    · have hne : (z == z') = false := by simpa using hz
      have HN := hide hz
      clear hz EQ
      go_enter Tryz.func23, Tryz.ntmps23
      go_wp2_with fail
      go_ret
      refine ⟨?_, B2.out⟩
      simp [sameN, HN.out]
    subst hz
    by_cases hob : ob = ob'
    rotate_left 1
    · have hne : (ob == ob') = false := by simpa using hob
      have HN := hide hob
      clear hob EQ
      go_enter Tryz.func23, Tryz.ntmps23
      go_wp2_with fail
      go_ret
      refine ⟨?_, B2.out⟩
      simp [sameN, HN.out]
    subst hob
    by_cases hbi : bi = bi'
    rotate_left 1
    · have hne : (bi == bi') = false := by simpa using hbi
      have HN := hide hbi
      clear hbi EQ
      go_enter Tryz.func23, Tryz.ntmps23
      go_wp2_with fail
      go_ret
      refine ⟨?_, B2.out⟩
      simp [sameN, HN.out]
    subst hbi
    go_enter Tryz.func23, Tryz.ntmps23
    go_wp2_with fail
    refine EQ.out.mono ?_
    rintro e w3 ⟨rfl, hb3⟩
    have B3 := hide (bel_trans B2.out hb3)
    clear EQ B2 hb3
    go_wp2_with fail
    go_ret
    refine ⟨?_, B3.out⟩
    simp [sameN]
theorem same_any {w : World} {n n' : Nd} {v v' : Value} (h : NodeR w n v) (h' : NodeR w n' v') : Calls Tryz.prog 23 #[v, v'] w fun e w' => e = .returned (.bool (sameN n n')) ∧ Below w.heap.size w w' :=
  same_all (szN n + 1) n n' (by omega) w v v' h h'

end Go.Proofs.YtogeblmppagabaaGreatDoor.Ck

/- What the row's list (three tables, all seventeen errors, the library's two) gives; and a world that meets the list. -/
namespace Go.Proofs.YtogeblmppagabaaGreatDoor.Ck
open Go.ChangeShapes Go.WideShapes Go.RowKit

def laidK : List (String × DataW Unit) := [("math/bits.deBruijn32tab", Rows.laid_math_bits_deBruijn32tab), ("math/bits.deBruijn64tab", Rows.laid_math_bits_deBruijn64tab), ("internal/strconv.uint64pow10", Rows.laid_internal_strconv_uint64pow10), ("stockade/api.ErrRange", Rows.laid_stockade_api_ErrRange), ("stockade/api.ErrText", Rows.laid_stockade_api_ErrText), ("stockade/api.ErrDepth", Rows.laid_stockade_api_ErrDepth), ("stockade/api.ErrName", Rows.laid_stockade_api_ErrName), ("stockade/api.ErrType", Rows.laid_stockade_api_ErrType), ("stockade/api.ErrLarge", Rows.laid_stockade_api_ErrLarge), ("stockade/api.ErrFull", Rows.laid_stockade_api_ErrFull), ("stockade/api.ErrNone", Rows.laid_stockade_api_ErrNone), ("stockade/api.ErrCode", Rows.laid_stockade_api_ErrCode), ("stockade/api.ErrState", Rows.laid_stockade_api_ErrState), ("stockade/api.ErrFrame", Rows.laid_stockade_api_ErrFrame), ("stockade/api.ErrMac", Rows.laid_stockade_api_ErrMac), ("stockade/api.ErrReplay", Rows.laid_stockade_api_ErrReplay), ("stockade/api.ErrArena", Rows.laid_stockade_api_ErrArena), ("stockade/api.ErrClock", Rows.laid_stockade_api_ErrClock), ("stockade/api.ErrQuota", Rows.laid_stockade_api_ErrQuota), ("stockade/api.ErrTenant", Rows.laid_stockade_api_ErrTenant), ("strconv.ErrRange", Rows.laid_strconv_ErrRange), ("strconv.ErrSyntax", Rows.laid_strconv_ErrSyntax)]
def l19 : List (String × List UInt8) := [("stockade/api.ErrRange", [115, 116, 111, 99, 107, 97, 100, 101, 58, 32, 114, 97, 110, 103, 101]), ("stockade/api.ErrText", [115, 116, 111, 99, 107, 97, 100, 101, 58, 32, 116, 101, 120, 116]), ("stockade/api.ErrDepth", [115, 116, 111, 99, 107, 97, 100, 101, 58, 32, 100, 101, 112, 116, 104]), ("stockade/api.ErrName", [115, 116, 111, 99, 107, 97, 100, 101, 58, 32, 110, 97, 109, 101]), ("stockade/api.ErrType", [115, 116, 111, 99, 107, 97, 100, 101, 58, 32, 116, 121, 112, 101]), ("stockade/api.ErrLarge", [115, 116, 111, 99, 107, 97, 100, 101, 58, 32, 108, 97, 114, 103, 101]), ("stockade/api.ErrFull", [115, 116, 111, 99, 107, 97, 100, 101, 58, 32, 102, 117, 108, 108]), ("stockade/api.ErrNone", [115, 116, 111, 99, 107, 97, 100, 101, 58, 32, 110, 111, 110, 101]), ("stockade/api.ErrCode", [115, 116, 111, 99, 107, 97, 100, 101, 58, 32, 99, 111, 100, 101]), ("stockade/api.ErrState", [115, 116, 111, 99, 107, 97, 100, 101, 58, 32, 115, 116, 97, 116, 101]), ("stockade/api.ErrFrame", [115, 116, 111, 99, 107, 97, 100, 101, 58, 32, 102, 114, 97, 109, 101]), ("stockade/api.ErrMac", [115, 116, 111, 99, 107, 97, 100, 101, 58, 32, 109, 97, 99]), ("stockade/api.ErrReplay", [115, 116, 111, 99, 107, 97, 100, 101, 58, 32, 114, 101, 112, 108, 97, 121]), ("stockade/api.ErrArena", [115, 116, 111, 99, 107, 97, 100, 101, 58, 32, 97, 114, 101, 110, 97]), ("stockade/api.ErrClock", [115, 116, 111, 99, 107, 97, 100, 101, 58, 32, 99, 108, 111, 99, 107]), ("stockade/api.ErrQuota", [115, 116, 111, 99, 107, 97, 100, 101, 58, 32, 113, 117, 111, 116, 97]), ("stockade/api.ErrTenant", [115, 116, 111, 99, 107, 97, 100, 101, 58, 32, 116, 101, 110, 97, 110, 116]), ("strconv.ErrRange", [118, 97, 108, 117, 101, 32, 111, 117, 116, 32, 111, 102, 32, 114, 97, 110, 103, 101]), ("strconv.ErrSyntax", [105, 110, 118, 97, 108, 105, 100, 32, 115, 121, 110, 116, 97, 120])]
def gl19 : List Nat := [0, 1, 2, 3, 4, 5, 6, 7, 8, 9, 10, 11, 12, 13, 14, 15, 16, 19, 18]
theorem laidK_eq : laidK = ("math/bits.deBruijn32tab", Rows.laid_math_bits_deBruijn32tab) :: ("math/bits.deBruijn64tab", Rows.laid_math_bits_deBruijn64tab) :: ("internal/strconv.uint64pow10", Rows.laid_internal_strconv_uint64pow10) :: l19.map fun x => (x.1, sentD x.2) := rfl
theorem named19 : ((List.range 19).all fun i => Tryz.prog.globalNamed (l19.getD i ("", [])).1 == some (gl19.getD i 0) && (Tryz.prog.globals[gl19.getD i 0]?).map (·.type) == some 29) = true := by kernel_rfl
theorem named_dB : Tryz.prog.globalNamed "math/bits.deBruijn64tab" = some 22 := by kernel_rfl

theorem nodup_of_map {l : List Addr} (h : (l.map placeOf).Nodup) : l.Nodup := by
  induction l with
  | nil => exact List.nodup_nil
  | cons a l ih =>
    simp only [List.map_cons, List.nodup_cons] at h ⊢
    exact ⟨fun hm => h.1 (List.mem_map_of_mem hm), ih h.2⟩
theorem Sents.take {W : World} : ∀ (gs hs : List Nat) (av : List Addr), Sents W (gs ++ hs) av → Sents W gs (av.take gs.length) ∧ Sents W hs (av.drop gs.length)
  | [], _, _, h => ⟨trivial, h⟩
  | _ :: _, _, [], h => absurd h (fun h => h)
  | _ :: gs, hs, _ :: av, h => ⟨⟨h.1, (Sents.take gs hs av h.2).1⟩, (Sents.take gs hs av h.2).2⟩

theorem ev_of_laid {W : World} (h : laidMetH Tryz.prog laidK W) : ∃ p, Ev W p := by
  rw [MakeChecks.laidMetH_plain _ _ _ (by kernel_rfl), laidK_eq] at h
  obtain ⟨ps, hv, hnd, hrows⟩ := h
  obtain ⟨g0, t0, cs0, f0, p0, q0, hg0, ht0, hv0, hd0, hq0, e0⟩ := hv
  obtain ⟨g1, t1, cs1, f1, p1, q1, hg1, ht1, hv1, hd1, hq1, e1⟩ := hq0
  obtain ⟨g2, t2, cs2, f2, p2, q2, hg2, ht2, hv2, hd2, hq2, e2⟩ := hq1
  subst e0 e1 e2
  have hbig : 23 ≤ W.heap.size := by
    simp only [World.var?, named_dB, Option.bind_some] at hv1
    rcases Nat.lt_or_ge 22 W.heap.size with h' | h'
    · omega
    · simp [Array.getElem?_eq_none h'] at hv1
  obtain ⟨p, hs, hsub⟩ := sents_of l19 gl19 q2 rfl (fun i hi => by
    have h1 := List.all_eq_true.1 named19 i (List.mem_range.2 hi)
    simp only [Bool.and_eq_true, beq_iff_eq] at h1
    exact h1) hq2 (fun b off hm => hrows b off (List.mem_append_right _ (List.mem_append_right _ (List.mem_append_right _ hm))))
  have hn := nodup_of_map (hnd.sublist (hsub.trans ((List.sublist_append_right _ _).trans ((List.sublist_append_right _ _).trans (List.sublist_append_right _ _)))))
  obtain ⟨s1, s2⟩ := Sents.take gl [19, 18] p hs
  refine ⟨p.take gl.length, ⟨s1, hn.sublist (List.take_sublist _ _)⟩, ?_, hbig⟩
  cases hd : p.drop gl.length with
  | nil => rw [hd] at s2; exact absurd s2 (fun h => h)
  | cons a r =>
    rw [hd] at s2
    exact ⟨_, _, s2.1.2.1⟩

theorem door_metK (os : Os) (args : Array Value) : laidMetH Tryz.prog laidK ((World.doorLaid Tryz.prog 385 os).forCall (fun _ _ => 0) ⟨#[], args, []⟩).memory :=
  laidMetH_of_parts3 (fuel := 8) (laidMet_of_run' 8 (by kernel_rfl) (by kernel_rfl)) (by kernel_rfl) (by kernel_rfl)

end Go.Proofs.YtogeblmppagabaaGreatDoor.Ck
