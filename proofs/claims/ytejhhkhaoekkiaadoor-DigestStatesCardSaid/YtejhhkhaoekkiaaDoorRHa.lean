/- The document's Hasher in memory; what is asked of its Of. -/
import Derived.Test.YtejhhkhaoekkiaaDoorRNew2
import Derived.Test.YtejhhkhaoekkiaaDoorRPad
namespace Go.Proofs.YtejhhkhaoekkiaaDoor.Ck
open Go.RowKit

/-- a Hasher lies in block gh, its two slices in gS and gT -/
structure Ha (w : World) (gh gS cS gT cT : Nat) : Prop where
  blk : Blk w gh 49 [.slice (some ⟨gS, 0, none⟩) 8 cS, .slice (some ⟨gT, 0, none⟩) 64 cT]
  s : OwnW w 0 gS cS start8
  t : OwnW w 0 gT cT kTab
theorem Ha.bel {w w' : World} {gh gS cS gT cT : Nat} (h : Ha w gh gS cS gT cT) (hb : Below w.heap.size w w') : Ha w' gh gS cS gT cT := ⟨h.blk.bel hb, h.s.below hb, h.t.below hb⟩
theorem Nw.own {w : World} {B : Nat} {v : Value} {zs : List Int} (h : Nw w B v zs) (hz : 0 < zs.length) : ∃ g c, v = .slice (some ⟨g, 0, none⟩) zs.length c ∧ OwnW w B g c zs := by
  rcases h.2 with ⟨_, h2⟩ | ⟨g, cap, cur, h1, h2⟩
  · omega
  · refine ⟨g, cap, h1, ?_⟩
    have h3 := h
    rw [h1] at h3
    exact h3
theorem Hs.ha {w wr : World} {gh : Nat} {vS vT : Value} (h : Hs w wr gh vS vT start8 kTab) : ∃ gS cS gT cT, Ha wr gh gS cS gT cT := by
  obtain ⟨gS, cS, e1, o1⟩ := h.s.own (by decide)
  obtain ⟨gT, cT, e2, o2⟩ := h.t.own (by decide)
  subst e1 e2
  exact ⟨gS, cS, gT, cT, h.blk, o1.down (Nat.zero_le _), o2.down (Nat.zero_le _)⟩
theorem rnew_ha (w : World) : Calls Tryd.prog 7 #[] w fun e w' => ∃ gh gS cS gT cT, e = .returned (.pointer (some ⟨gh, 0, none⟩)) ∧ Ha w' gh gS cS gT cT ∧ Below w.heap.size w w' := by
  refine (rnew_any w).mono ?_
  rintro e w' ⟨vS, vT, rfl, h⟩
  obtain ⟨gS, cS, gT, cT, h2⟩ := h.ha
  exact ⟨_, gS, cS, gT, cT, rfl, h2, h.bel⟩

/-- what is asked of the document's Of -/
def RofC (gh gS cS gT cT : Nat) : Prop := ∀ (v : Value) (m : List Int) (w : World), Ha w gh gS cS gT cT → SB w v m → m.length ≤ 100000 →
  Calls Tryd.prog 14 #[.pointer (some ⟨gh, 0, none⟩), v] w fun e w' => ∃ g cap, e = .returned (.slice (some ⟨g, 0, none⟩) 32 cap) ∧ OwnB w' w.heap.size g cap (sha m) ∧ Below w.heap.size w w'

end Go.Proofs.YtejhhkhaoekkiaaDoor.Ck
