/- The statement's own look at places: a node and its kids stand at tokens, kids in order. -/
import Derived.Test.YtodgkfniimgfcaaGreatDoorHyQ
import Derived.Test.YtodgkfniimgfcaaGreatDoorQbp
import Derived.Maps.Own
namespace Go.Proofs.YtodgkfniimgfcaaGreatDoor.Ck
open Go.RowKit

/-- block b is a map that holds every beginning of a token -/
def Begins (w : World) (b : Nat) (L : List Tk) : Prop :=
  ∃ n D, w.ownsMap (H := Unit) Tryz.prog 3 (plainElem Tryz.prog 4) b n D ∧ ∀ x : Int, Bg L x → ∃ kl, keyOf Tryz.prog 3 (.int .i64 x) = some kl ∧ D.atKey kl (.lit (.bool false)) = .lit (.bool true)
theorem Begins.bel {w w' : World} {b : Nat} {L : List Tk} (h : Begins w b L) (hb : Below w.heap.size w w') : Begins w' b L := by
  obtain ⟨n, D, ⟨es, clock, h1, h2⟩, h3⟩ := h
  exact ⟨n, D, ⟨es, clock, (hb.block b (lt_of_blk h1)).trans h1, h2⟩, h3⟩
theorem Begins.look {w : World} {b : Nat} {L : List Tk} (h : Begins w b L) {x : Int} (hx : Bg L x) : (Instr.lookup 44 (.map (some b)) (.int .i64 x) false).run Tryz.prog w = .ok (.bool true) w := by
  obtain ⟨n, D, ho, hD⟩ := h
  obtain ⟨kl, hk, ha⟩ := hD x hx
  obtain ⟨v, ps, hrun, hv⟩ := ho.lookup (t := 44) (e := 4) (Go.Maps.int_keyed Tryz.underlying3) Tryz.underlying44 (z := .bool false) (by first | exact Tryz.zeroValue4 w | exact Tryz.zero4 w | (unfold zeroValue; go_simp) | kernel_rfl) (plainElem_bool Tryz.underlying4 false) hk
  rw [ha] at hv
  have : v = .bool true := by
    cases v <;> simp [plainElem, Tryz.underlying4] at hv
    rw [hv.1]
  rw [hrun, this]
theorem plk_at : ∀ {ks : List Nd} {L : List Tk} {a : Int} (_ : PlK L a ks) (j : Nat) (n : Nd), ks[j]? = some n → lastP a (ks.take j) ≤ n.pos ∧ Pl L n
  | [], _, _, _, _, _, h => by simp at h
  | m :: ks, L, a, hk, 0, n, h => by
    simp at h
    subst h
    unfold PlK at hk
    exact ⟨hk.1, hk.2.1⟩
  | m :: ks, L, a, hk, j + 1, n, h => by
    unfold PlK at hk
    exact plk_at hk.2.2 j n (by simpa using h)

set_option maxRecDepth 20000 in
set_option maxHeartbeats 1000000 in
theorem placed_all (b : Nat) (L : List Tk) : ∀ (m : Nat) (n : Nd), szN n < m → ∀ (w : World) (v : Value), NodeR w n v → Begins w b L → Pl L n → Calls Tryz.prog 21 #[v, .map (some b)] w fun e w' => e = .returned (.bool true) ∧ Below w.heap.size w w' := by
  intro m
  induction m with
  | zero => intro n h; omega
  | succ m ih =>
    intro n hm w v hv hg hp
    have IH := hide ih
    clear ih
    obtain ⟨kd, ps, nm, t, nz, z, ob, bi, ks⟩ := n
    unfold NodeR at hv
    obtain ⟨s, rfl, hk⟩ := hv
    obtain ⟨oa, cap, rfl, hkk⟩ := hk.kid
    unfold Pl at hp
    have hb0 := bel_new w (.cells #[.int .i64 kd, .int .i64 ps, .string nm, .int .i64 t, .int .i64 nz, .int .i64 z, .int .i64 ob, .int .u64 bi, .slice oa ks.length cap] 26)
    have LK := (hg.bel hb0).look hp.1
    have B0 := hide hb0
    have HM := hide hm
    have HK := hide hkk
    have HP := hide hp.2
    have HG := hide hg
    have hlen : ks.length ≤ 9223372036854775807 := by
      rcases hkk with rfl | ⟨a, _, h1, h2, _⟩
      · simp
      · unfold maxLen at h2
        omega
    obtain ⟨len, hln⟩ : ∃ len, len = ks.length := ⟨_, rfl⟩
    rw [← hln] at B0 hlen LK ⊢
    have HLN := hide hln
    clear hb0 hm hkk hk hln hp hg
    go_enter Tryz.func21, Tryz.ntmps21
    go_wp2_with fail
    clear LK
    generalize w.alloc (.cells #[.int .i64 kd, .int .i64 ps, .string nm, .int .i64 t, .int .i64 nz, .int .i64 z, .int .i64 ob, .int .u64 bi, .slice oa len cap] 26) = w0 at *
    go_loopw [5, 18] (fun vc vi wr => ∃ (j : Nat) (c : Int), j ≤ len ∧ vi = .int .i64 j ∧ vc = .int .i64 c ∧ Hid (c = lastP ps (ks.take j) ∧ Below w.heap.size w wr)) (fun _ vi _ => len - (intOf vi).toNat)
    case atStart => exact ⟨0, ps, Nat.zero_le _, rfl, rfl, by simp [lastP], B0.out⟩
    case round =>
      clear B0
      obtain ⟨j, c, hj, rfl, rfl, I⟩ := hrel
      by_cases hjl : j < len
      · have hj2 : (j : Int) < (len : Int) := by omega
        obtain ⟨a, rfl, hc1, hc2, hkid⟩ : ∃ a, oa = some a ∧ ks.length ≤ cap ∧ cap ≤ maxLen ∧ ∀ j n, ks[j]? = some n → NodeA w a (9 * j) n := by
          rcases HK.out with h | h
          · exfalso
            have := HLN.out
            rw [h] at this
            simp at this
            omega
          · exact h
        obtain ⟨n, hn⟩ : ∃ n, ks[j]? = some n := ⟨_, List.getElem?_eq_getElem (by have := HLN.out; omega)⟩
        have hsz : szN n < m := by
          have h1 := szK_at hn
          have h2 := HM.out
          simp only [szN] at h2
          omega
        obtain ⟨hpl, hpn⟩ := plk_at HP.out j n hn
        rw [← I.out.1] at hpl
        obtain ⟨kd', ps', nm', t', nz', z', ob', bi', ks'⟩ := n
        have hlt : ¬ ps' < c := by
          have : c ≤ ps' := hpl
          omega
        have hA := NodeA.bel (show Below w.heap.size w wr from I.out.2) a (9 * j) _ (hkid j _ hn)
        obtain ⟨oa', cap', c0, c1, c2, c3, c4, c5, c6, c7, c8, hkk⟩ := hA.cells
        obtain ⟨len', hln'⟩ : ∃ len', len' = ks'.length := ⟨_, rfl⟩
        rw [← hln'] at c8 hkk
        have hb1 := bel_new wr (.cells #[.int .i64 kd', .int .i64 ps', .string nm', .int .i64 t', .int .i64 nz', .int .i64 z', .int .i64 ob', .int .u64 bi', .slice oa' len' cap'] 26)
        have hR : NodeR (wr.alloc (.cells #[.int .i64 kd', .int .i64 ps', .string nm', .int .i64 t', .int .i64 nz', .int .i64 z', .int .i64 ob', .int .u64 bi', .slice oa' len' cap'] 26)) (.mk kd' ps' nm' t' nz' z' ob' bi' ks') (.agg #[.int .i64 kd', .int .i64 ps', .string nm', .int .i64 t', .int .i64 nz', .int .i64 z', .int .i64 ob', .int .u64 bi', .slice oa' len' cap']) := by
          unfold NodeR
          exact ⟨_, rfl, KidsR.bel hb1 _ _ hkk⟩
        have B1 := hide (bel_trans I.out.2 hb1)
        have RR := hide (IH.out _ hsz _ _ hR (HG.out.bel B1.out) hpn)
        have K1 : Hid (Nod (wr.alloc (.cells #[.int .i64 kd', .int .i64 ps', .string nm', .int .i64 t', .int .i64 nz', .int .i64 z', .int .i64 ob', .int .u64 bi', .slice oa' len' cap'] 26)) wr.heap.size (.int .i64 kd') (.int .i64 ps') (.string nm') (.int .i64 t') (.int .i64 nz') (.int .i64 z') (.int .i64 ob') (.int .u64 bi') (.slice oa' len' cap')) := Go.Deep.blk_alloc_new _ _
        have HN := hide hn
        unfold maxLen at hc2
        clear hkid hkk hln' hn hsz hc1 hb1 hR hA hpl hpn
        go_wp2_with fail
        refine RR.out.mono ?_
        rintro e w3 ⟨rfl, hb3⟩
        have B3 := hide (bel_trans B1.out hb3)
        obtain ⟨_, e0, e1, e2, e3, e4, e5, e6, e7, e8⟩ := (K1.out.bel hb3).all
        have Iw := hide I.out.1
        clear RR B1 hb3 I c0 c1 c2 c3 c4 c5 c6 c7 c8 K1
        go_wp2_with fail
        go_roundw
        case rel =>
          refine ⟨j + 1, _, by omega, by go_num, rfl, ?_, B3.out⟩
          rw [take_snoc HN.out, lastP_snoc]
          rfl
        case measure =>
          simp [intOf]
          omega
      · have hj2 : ¬ (j : Int) < (len : Int) := by omega
        go_wp2_with fail
        go_ret
        exact ⟨rfl, I.out.2⟩
theorem placed_any {b : Nat} {L : List Tk} {w : World} {n : Nd} {v : Value} (h : NodeR w n v) (hg : Begins w b L) (hp : Pl L n) : Calls Tryz.prog 21 #[v, .map (some b)] w fun e w' => e = .returned (.bool true) ∧ Below w.heap.size w w' :=
  placed_all b L (szN n + 1) n (by omega) w v h hg hp

end Go.Proofs.YtodgkfniimgfcaaGreatDoor.Ck
