/- The document's own counts of a tree. -/
import Derived.Test.YtodgkfniimgfcaaGreatDoorQbq
namespace Go.Proofs.YtodgkfniimgfcaaGreatDoor.Ck
open Go.RowKit

mutual
def nodW : Nd → Int → Int
  | .mk _ _ _ _ _ _ _ _ ks, m => nodK ks 1 m
def nodK : List Nd → Int → Int → Int
  | [], c, _ => c
  | n :: ks, c, m => if m < c then wrap64 (m + 1) else nodK ks (wrap64 (c + nodW n (wrap64 (m - c)))) m
end
theorem drop_at {ks : List Nd} {j : Nat} {n : Nd} (h : ks[j]? = some n) : ks.drop j = n :: ks.drop (j + 1) := by
  obtain ⟨h1, h2⟩ := List.getElem?_eq_some_iff.1 h
  rw [List.drop_eq_getElem_cons h1, h2]

set_option maxRecDepth 20000 in
set_option maxHeartbeats 1000000 in
theorem nodes_all : ∀ (m : Nat) (n : Nd), szN n < m → ∀ (b : Int) (w : World) (v : Value), NodeR w n v → Calls Tryz.prog 15 #[v, .int .i64 b] w fun e w' => e = .returned (.int .i64 (nodW n b)) ∧ Below w.heap.size w w' := by
  intro m
  induction m with
  | zero => intro n h; omega
  | succ m ih =>
    intro n hm b w v hv
    have IH := hide ih
    clear ih
    obtain ⟨kd, ps, nm, t, nz, z, ob, bi, ks⟩ := n
    unfold NodeR at hv
    obtain ⟨s, rfl, hk⟩ := hv
    obtain ⟨oa, cap, rfl, hkk⟩ := hk.kid
    have hb0 := bel_new w (.cells #[.int .i64 kd, .int .i64 ps, .string nm, .int .i64 t, .int .i64 nz, .int .i64 z, .int .i64 ob, .int .u64 bi, .slice oa ks.length cap] 26)
    have B0 := hide hb0
    have HM := hide hm
    have HK := hide hkk
    have hlen : ks.length ≤ 9223372036854775807 := by
      rcases hkk with rfl | ⟨a, _, h1, h2, _⟩
      · simp
      · unfold maxLen at h2
        omega
    obtain ⟨len, hln⟩ : ∃ len, len = ks.length := ⟨_, rfl⟩
    rw [← hln] at B0 hlen ⊢
    have HLN := hide hln
    clear hb0 hm hkk hk hln
    obtain ⟨out, ho⟩ : ∃ out, nodW (.mk kd ps nm t nz z ob bi ks) b = out := ⟨_, rfl⟩
    rw [ho]
    have HW := hide ho
    clear ho
    go_enter Tryz.func15, Tryz.ntmps15
    go_wp2_with fail
    generalize w.alloc (.cells #[.int .i64 kd, .int .i64 ps, .string nm, .int .i64 t, .int .i64 nz, .int .i64 z, .int .i64 ob, .int .u64 bi, .slice oa len cap] 26) = w0 at *
    go_loopw [5, 11] (fun vc vi wr => ∃ (j : Nat) (c : Int), j ≤ len ∧ vi = .int .i64 j ∧ vc = .int .i64 c ∧ Hid (nodK (ks.drop j) c b = out ∧ Below w.heap.size w wr)) (fun _ vi _ => len - (intOf vi).toNat)
    case atStart => exact ⟨0, 1, Nat.zero_le _, rfl, rfl, by rw [← HW.out]; simp [nodW], B0.out⟩
    case round =>
      clear B0
      obtain ⟨j, c, hj, rfl, rfl, I⟩ := hrel
      by_cases hjl : j < len
      · have hj2 : (j : Int) < (len : Int) := by omega
        obtain ⟨a, rfl, hc1, hc2, hkid⟩ : ∃ a, oa = some a ∧ ks.length ≤ cap ∧ cap ≤ maxLen ∧ ∀ j n, ks[j]? = some n → NodeA w a (9 * j) n := by
          rcases HK.out with h | h
          · exfalso
            have := HLN.out
            rw [h] at this
            simp at this
            omega
          · exact h
        obtain ⟨n, hn⟩ : ∃ n, ks[j]? = some n := ⟨_, List.getElem?_eq_getElem (by have := HLN.out; omega)⟩
        have hsz : szN n < m := by
          have h1 := szK_at hn
          have h2 := HM.out
          simp only [szN] at h2
          omega
        obtain ⟨kd', ps', nm', t', nz', z', ob', bi', ks'⟩ := n
        have hA := NodeA.bel (show Below w.heap.size w wr from I.out.2) a (9 * j) _ (hkid j _ hn)
        obtain ⟨oa', cap', c0, c1, c2, c3, c4, c5, c6, c7, c8, hkk⟩ := hA.cells
        obtain ⟨len', hln'⟩ : ∃ len', len' = ks'.length := ⟨_, rfl⟩
        rw [← hln'] at c8 hkk
        have hb1 := bel_new wr (.cells #[.int .i64 kd', .int .i64 ps', .string nm', .int .i64 t', .int .i64 nz', .int .i64 z', .int .i64 ob', .int .u64 bi', .slice oa' len' cap'] 26)
        have hR : NodeR (wr.alloc (.cells #[.int .i64 kd', .int .i64 ps', .string nm', .int .i64 t', .int .i64 nz', .int .i64 z', .int .i64 ob', .int .u64 bi', .slice oa' len' cap'] 26)) (.mk kd' ps' nm' t' nz' z' ob' bi' ks') (.agg #[.int .i64 kd', .int .i64 ps', .string nm', .int .i64 t', .int .i64 nz', .int .i64 z', .int .i64 ob', .int .u64 bi', .slice oa' len' cap']) := by
          unfold NodeR
          exact ⟨_, rfl, KidsR.bel hb1 _ _ hkk⟩
        have RR := hide (IH.out _ hsz (wrap64 (b - c)) _ _ hR)
        have B1 := hide (bel_trans I.out.2 hb1)
        have HD := hide (drop_at hn)
        have HO := hide I.out.1
        unfold maxLen at hc2
        clear hkid hkk hln' hn hsz hc1 hb1 hR hA I
        by_cases hcb : b < c
        · go_wp2_with fail
          go_ret
          refine ⟨?_, B1.out⟩
          have h1 := HO.out
          rw [HD.out] at h1
          simp only [nodK, if_pos hcb] at h1
          rw [← h1]
          rfl
        · go_wp2_with fail
          refine RR.out.mono ?_
          rintro e w3 ⟨rfl, hb3⟩
          have B3 := hide (bel_trans B1.out hb3)
          have C5 := hide hcb
          clear RR B1 hb3 c0 c1 c2 c3 c4 c5 c6 c7 c8 hcb
          go_wp2_with fail
          go_roundw
          case rel =>
            refine ⟨j + 1, _, by omega, by go_num, rfl, ?_, B3.out⟩
            have h1 := HO.out
            rw [HD.out] at h1
            simp only [nodK, if_neg (Int.not_lt.2 C5.out)] at h1
            exact h1
          case measure =>
            simp [intOf]
            omega
      · have hj2 : ¬ (j : Int) < (len : Int) := by omega
        go_wp2_with fail
        go_ret
        refine ⟨?_, I.out.2⟩
        have h1 := I.out.1
        rw [List.drop_of_length_le (by have := HLN.out; omega)] at h1
        simp only [nodK] at h1
        rw [← h1]
        rfl
theorem nodes_any {w : World} {n : Nd} {v : Value} (h : NodeR w n v) (b : Int) : Calls Tryz.prog 15 #[v, .int .i64 b] w fun e w' => e = .returned (.int .i64 (nodW n b)) ∧ Below w.heap.size w w' :=
  nodes_all (szN n + 1) n (by omega) b w v h

end Go.Proofs.YtodgkfniimgfcaaGreatDoor.Ck
