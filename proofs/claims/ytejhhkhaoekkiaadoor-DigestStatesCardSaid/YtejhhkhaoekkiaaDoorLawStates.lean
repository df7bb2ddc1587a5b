/- The walk of the statement DigestStates. -/
import Derived.Test.YtejhhkhaoekkiaaDoorStB
namespace Go.Proofs.YtejhhkhaoekkiaaDoor.Ck
open Go.RowKit

theorem sts_start (w2 w3 : World) (hb : Below w2.heap.size w2 w3) (hs : St w3 w2.heap.size []) :
    Sts w2 (((w3.alloc (.cells #[.pointer (some ⟨w2.heap.size, 0, none⟩)] 26)).alloc (.cells #[] 5)).alloc (.cells #[.slice (some ⟨w3.heap.size + 1, 0, none⟩) 0 0] 29)) w2.heap.size w3.heap.size 1 (w3.heap.size + 2) 1 1 (fun _ => w2.heap.size) (fun _ => .slice (some ⟨w3.heap.size + 1, 0, none⟩) 0 0) (fun _ => []) (fun _ => []) := by
  have h1 := bel_new w3 (.cells #[.pointer (some ⟨w2.heap.size, 0, none⟩)] 26)
  have h2 := bel_new (w3.alloc (.cells #[.pointer (some ⟨w2.heap.size, 0, none⟩)] 26)) (.cells #[] 5)
  have h3 := bel_new ((w3.alloc (.cells #[.pointer (some ⟨w2.heap.size, 0, none⟩)] 26)).alloc (.cells #[] 5)) (.cells #[.slice (some ⟨w3.heap.size + 1, 0, none⟩) 0 0] 29)
  have e1 : ((w3.alloc (.cells #[.pointer (some ⟨w2.heap.size, 0, none⟩)] 26)).alloc (.cells #[] 5)).heap.size = w3.heap.size + 2 := by simp
  have ol := ((OwnV.one (TE := 26) w3 (.pointer (some ⟨w2.heap.size, 0, none⟩)) hb.size).below h2).below h3
  have ot := OwnV.one (TE := 29) ((w3.alloc (.cells #[.pointer (some ⟨w2.heap.size, 0, none⟩)] 26)).alloc (.cells #[] 5)) (.slice (some ⟨w3.heap.size + 1, 0, none⟩) 0 0) (B := w2.heap.size) (by rw [e1]; have := hb.size; omega)
  rw [e1] at ot
  have hsl := hs.lt
  have hoff : ∀ g', OffB g' (.slice (some ⟨w3.heap.size + 1, 0, none⟩) 0 0) := fun g' a n c e hn => by cases e; omega
  refine ⟨ol, ot, by omega, fun i hi => ⟨((hs.bel h1).bel h2).bel h3, Nat.le_refl _, by omega, by omega⟩, fun i j hi hj hij => by omega, fun i hi => ?_, fun i hi => ⟨hoff _, hoff _, fun j _ => hoff _⟩, ?_, ?_⟩
  · exact ⟨fun _ h => (by cases h), _, _, rfl, Nat.le_refl _, by unfold maxLen; omega, fun _ h => absurd h (Nat.not_lt_zero _)⟩
  · exact bel_trans (bel_trans (bel_trans hb h1) h2) h3
  · exact Nat.le_trans (Nat.le_trans (Nat.le_trans hb.size h1.size) h2.size) h3.size

set_option maxRecDepth 1000000 in
set_option maxHeartbeats 4000000 in
theorem states_main (oa : Option Addr) (len oc : Nat) (f : Nat → OpB) (w : World) (ho : OpsAt w oa len f) (htab : Tab w) :
    Calls Tryd.prog 3 #[.slice oa len oc] w fun e w' => e = .returned (.bool true) ∧ Below w.heap.size w w' := by
  go_enter Tryd.func3, Tryd.ntmps3
  go_wp2_with fail
  refine (alive_any w htab).mono ?_
  rintro e w1 ⟨rfl, hb1⟩
  go_wp2_with fail
  refine (rnew_ha w1).mono ?_
  rintro e w2 ⟨gh, gS, cS, gT, cT, rfl, hh2, hb2⟩
  have hb12 := bel_trans hb1 hb2
  have ho2 := hide (ho.below hb12)
  have ht2 := hide (htab.bel hb12)
  have hhh := hide hh2
  go_wp2_with fail
  refine (new_any w2).mono ?_
  rintro e w3 ⟨rfl, hs3, hb3⟩
  have S0 := hide (sts_start w2 w3 hb3 hs3)
  clear hs3 hb3 hh2 ho htab
  go_wp2_with fail
  refine script_loop oa len oc f gh gS cS gT cT _ _ _ _ _ _ w2 _ _ ho2 hhh ht2 S0 ?_
  intro _ _ _ _ _ _ _ _ _ _ _ _ _ _ _ _ _ _ _ _ _ _ _ _ _ _ _ _ _ _ _ _ _ _ _ _ _ _ _ _ _ _ _ _ _ _ _ _ _ _ _ _ _ _ _ _ _ _ _ _ _ _ _ _ _ _ _ _ _ _ _ _ _ _ _ _ _ _ _ _ _ _ _ _ _ _ _ _ _ _ _ _ _ _ _ _ _ _ _ _ _ _ _ _ _ _ _ _ _ _ _ _ _ _ _ _ _ _ _ wr q gl cl gt ct G V M Z hq HM
  have hhr := hhh.out.bel Z.out.bel
  have htr := ht2.out.bel Z.out.bel
  have hbr := bel_trans hb12 Z.out.bel
  clear S0 ho2
  go_wp2_with fail
  refine told_loop w2 w2.heap.size gl cl gt ct q gh gS cS gT cT G V M wr _ Z hhr htr hq HM ?_
  intro _ _ _ _ _ _ _ _ _ _ _ _ _ _ _ _ _ _ _ _ _ _ _ _ _ _ _ _ _ _ _ _ wr2 hb4
  have hbf := bel_trans hbr hb4
  go_wp2_with fail
  go_ret
  exact ⟨rfl, hbf⟩

theorem digestStates_walk {W : World} {a0 : Option Addr} {len0 cap0 : Nat} {f : Nat → OpB} (s0 : OpsAt W a0 len0 f) (hL : laidMetH Tryd.prog laidT W) :
    Calls Tryd.prog 3 #[.slice a0 len0 cap0] W fun e w' => e = .returned (.bool true) ∧ Below W.heap.size W w' :=
  states_main a0 len0 cap0 f W s0 (tab_of_laid hL)

end Go.Proofs.YtejhhkhaoekkiaaDoor.Ck
