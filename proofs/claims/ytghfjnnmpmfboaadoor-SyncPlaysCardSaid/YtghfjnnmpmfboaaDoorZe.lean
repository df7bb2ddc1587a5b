/- The document's New: its frame and its appends. (Written by mk_y.py.) -/
import Derived.Test.YtghfjnnmpmfboaaDoorZd
namespace Go.Proofs.YtghfjnnmpmfboaaDoor.Ck
open Go.RowKit

def sl16 (k : Nat) : Option Nat := if 93 ≤ k ∧ k ≤ 116 then some (k - 93) else if k = 117 then some 25 else if k = 118 then some 26 else if k = 119 then some 28 else if k = 120 then some 29 else none
theorem sl16_inj {k i : Nat} (h : sl16 k = some i) : (i < 24 ∧ k = 93 + i) ∨ (i = 25 ∧ k = 117) ∨ (i = 26 ∧ k = 118) ∨ (i = 28 ∧ k = 119) ∨ (i = 29 ∧ k = 120) := by
  unfold sl16 at h
  split at h
  · have := Option.some.inj h
    omega
  · split at h
    · have := Option.some.inj h
      omega
    · split at h
      · have := Option.some.inj h
        omega
      · split at h
        · have := Option.some.inj h
          omega
        · split at h
          · have := Option.some.inj h
            omega
          · cases h
theorem push_any {w : World} {T TS : TypeId} {sz bytes : Nat} {z v : Value} {n gx : Nat} {xs ys : List Value} (hu : Tryd.prog.underlying TS = some (.slice T)) (hinfo : (Tryd.prog.info? T).map (fun i => (i.zero, i.size, i.bytes)) = some (some z, sz, bytes)) (hz : z.cells.size = sz) (hsz : 0 < sz) (hby : bytes ≤ 100)
    (ho : w.ownsRow 0 T sz v n xs) (hn : n ≤ 1000) (hl : ys.length = 1 * sz) (hy : ∀ (j : Nat) (u : Value), ys[j]? = some u → w.cell? ⟨gx, j, none⟩ = some u) (h1 : ∀ u ∈ ys, u.oneCell' = true) (ty : TypeId) :
    ∃ v' w', (Builtin.append_ #[TS, TS] ty #[v, .slice (some ⟨gx, 0, none⟩) 1 1]).run Tryd.prog w = .ok v' w' ∧ w'.ownsRow 0 T sz v' (n + 1) (xs ++ ys) ∧ w.grownBy w' v.ownBlock ∧ (∀ k, v'.ownBlock = some k → v.ownBlock = some k ∨ w.heap.size ≤ k) := by
  obtain ⟨i, hi, hz0, hz1, hz2⟩ := info_parts hinfo
  obtain ⟨v', w', hr, ho', hg, _, hat⟩ := run_append_own_at (P := Tryd.prog) w 0 TS ty T i z sz bytes hu hi hz0 hz1 hz2 hz hsz v n xs ho ⟨gx, 0, none⟩ 1 1 ys hl (fun j u hu => by
    rw [show (⟨gx, 0, none⟩ : Addr).add j = ⟨gx, j, none⟩ by unfold Addr.add; by_cases h : j = 0 <;> simp [h]]
    exact hy j u hu) h1 (by unfold maxLen; omega) (by have : (n + 1) * bytes ≤ 1001 * 100 := Nat.mul_le_mul (by omega) hby; omega) (Nat.zero_le _)
  refine ⟨v', w', hr, ho', hg, fun k hk => ?_⟩
  rcases hat with e | e
  · exact .inl (e.symm.trans hk)
  · rw [e] at hk
    right
    have := Option.some.inj hk
    omega
theorem info_chan : (Tryd.prog.info? 52).map (fun i => (i.zero, i.size, i.bytes)) = some (some (.agg #[.int .i64 0, .int .i64 0]), 2, 16) := by kernel_rfl
theorem info_slv : (Tryd.prog.info? 46).map (fun i => (i.zero, i.size, i.bytes)) = some (some (.slice none 0 0), 1, 24) := by kernel_rfl
end Go.Proofs.YtghfjnnmpmfboaaDoor.Ck
