/- The statement's own 'do': one call on an arena and on its model; they answer alike. -/
import Derived.Test.YtndhgdjcbegjdaaDoorDq
import Derived.Deep.RegionHeld3
namespace Go.Proofs.YtndhgdjcbegjdaaDoor.Ck
open Go.RowKit

section
variable {w : World} {L : Lay} {R V : Nat → Int} {gm : Nat} {v : Value} {H : List Rn}

/-- a word of a run -/
theorem word_pr (P : Pr w L R V gm v H) {at_ : Int} {i : Nat} (hi : i < H.length) (hW : (rat H i).hasW at_) :
    ∃ kk : Nat, at_ - 16 * ((rat H i).f : Int) = kk ∧ kk < 16 * (rat H i).c ∧ at_.toNat = 16 * (rat H i).f + kk ∧ InRun R L.n at_ ∧ rat H i ∈ H := by
  have hx : rat H i ∈ H := List.mem_of_getElem? (rat_at H i hi)
  obtain ⟨h1, h2⟩ := hW
  exact ⟨(at_ - 16 * ((rat H i).f : Int)).toNat, by omega, by omega, by omega, (P.wr.inRun at_).2 ⟨_, hx, h1, h2⟩, hx⟩
theorem noword_pr (P : Pr w L R V gm v H) {at_ : Int} (hno : ∀ k, k < H.length → ¬ (rat H k).hasW at_) : ¬ InRun R L.n at_ := fun h => by
  obtain ⟨x, hx, hh⟩ := (P.wr.inRun at_).1 h
  obtain ⟨j, hj, rfl⟩ := mem_rat hx
  exact hno j hj hh

theorem set_pr (P : Pr w L R V gm v H) {x : Rn} (hx : x ∈ H) {kk : Nat} (hk : kk < 16 * x.c) {z : Int} (hz : fit z) {w2 : World} (hA : Ar w2 L R (fun k => if k = 16 * x.f + kk then z else V k)) (hM : Rm w2 gm L.n v H V) (hE : Ed L (blks gm v H) w w2) :
    Kept L gm (blks gm v H) w (w2.setCell ⟨x.b, kk, none⟩ (.int .i64 z)) := by
  have hb : ∀ b ∈ blks gm v H, b ∈ blks gm v H ∨ w.heap.size ≤ b := fun b h => .inl h
  obtain ⟨h1, h2⟩ := hM.set hx kk hk z (fun y hy h3 h4 => P.wr.uniqW hx hy (i := 16 * x.f + kk) (by omega) (by omega) h3 h4)
  refine ⟨⟨_, _, _, _, P.mk' (hA.ef P.notin h2) h1 (P.wr.set hx kk hk z) (fun i => ?_) hb, hb⟩, hE.trans (Ed.of_ef h2)⟩
  split
  · exact hz
  · exact P.fits i
theorem same_pr (P : Pr w L R V gm v H) {w2 : World} (hA : Ar w2 L R V) (hM : Rm w2 gm L.n v H V) (hE : Ed L (blks gm v H) w w2) : Kept L gm (blks gm v H) w w2 :=
  have hb : ∀ b ∈ blks gm v H, b ∈ blks gm v H ∨ w.heap.size ≤ b := fun _ h => .inl h
  ⟨⟨_, _, _, _, P.mk' hA hM P.wr P.fits hb, hb⟩, hE⟩
theorem clear_pr (P : Pr w L R V gm v H) {w2 : World} (hA : Ar w2 L (fun _ => 0) (fun _ => 0)) (hM : Rm w2 gm L.n v H V) (hE : Ed L (blks gm v H) w w2) : Kept L gm (blks gm v H) w (w2.setCell ⟨gm, 1, none⟩ (.slice none 0 0)) := by
  obtain ⟨h1, h2⟩ := hM.clear (fun _ => 0)
  have hb : ∀ b ∈ blks gm (.slice none 0 0) [], b ∈ blks gm v H ∨ w.heap.size ≤ b := fun b h => by
    simp [blks, Value.ownBlock] at h
    exact .inl (by simp [blks, h])
  exact ⟨⟨_, _, _, _, P.mk' (hA.ef P.notin h2) h1 (WR.start _) (fun _ => by unfold fit; omega) hb, hb⟩, hE.trans (Ed.of_ef h2)⟩

set_option maxHeartbeats 4000000 in
theorem do_any (P : Pr w L R V gm v H) (K ar at_ z : Int) (p : List Addr) (hN : ∀ w', Ed L (blks gm v H) w w' → Errs17 w' p) (hz : fit z) :
    Calls Tryd.prog 13 #[L.ptr, .pointer (some ⟨gm, 0, none⟩), .agg #[.int .i64 K, .int .i64 ar, .int .i64 at_, .int .i64 z]] w fun e w' => e = .returned (.bool true) ∧ Kept L gm (blks gm v H) w w' := by
  have B0 : Hid (Below w.heap.size w (w.alloc (.cells #[.int .i64 K, .int .i64 ar, .int .i64 at_, .int .i64 z] 45))) := bel_new w _
  have P0 := hide (P.below B0.out)
  have hrow := World.rowIs_alloc w #[.int .i64 K, .int .i64 ar, .int .i64 at_, .int .i64 z] 45 (fun i => .int .i64 (if i = 0 then K else if i = 1 then ar else if i = 2 then at_ else z)) (fun i hi => by
    have : i = 0 ∨ i = 1 ∨ i = 2 ∨ i = 3 := by simp at hi; omega
    rcases this with e | e | e | e <;> subst e <;> rfl)
  have d0 := hrow.cell (i := 0) (by simp)
  have d2 := hrow.cell (i := 2) (by simp)
  have d3 := hrow.cell (i := 3) (by simp)
  simp only [if_pos, if_false, show ¬ (2 = 0) by omega, show ¬ (2 = 1) by omega, show ¬ (3 = 0) by omega, show ¬ (3 = 1) by omega, show ¬ (3 = 2) by omega] at d0 d2 d3
  have HN : Hid (∀ w', Ed L (blks gm v H) (w.alloc (.cells #[.int .i64 K, .int .i64 ar, .int .i64 at_, .int .i64 z] 45)) w' → Errs17 w' p) := fun w' h => hN w' ((Ed.of_bel B0.out).trans h)
  have C : Hid (∀ wi, Ed L (blks gm v H) (w.alloc (.cells #[.int .i64 K, .int .i64 ar, .int .i64 at_, .int .i64 z] 45)) wi → wi.cell? ⟨w.heap.size, 0, none⟩ = some (.int .i64 K) ∧ wi.cell? ⟨w.heap.size, 2, none⟩ = some (.int .i64 at_) ∧ wi.cell? ⟨w.heap.size, 3, none⟩ = some (.int .i64 z)) := fun wi h => by
    have l2 := P.ar.lt2
    have l3 := P.ar.lt3
    have hb : wi.heap[w.heap.size]? = _ := h.blk w.heap.size (by simp) (by omega) (by omega) (fun hs => by have := P.rm.lt _ hs; omega)
    exact ⟨(World.cell?_of_block (a := ⟨w.heap.size, 0, none⟩) hb).trans d0, (World.cell?_of_block (a := ⟨w.heap.size, 2, none⟩) hb).trans d2, (World.cell?_of_block (a := ⟨w.heap.size, 3, none⟩) hb).trans d3⟩
  have Hz := hide hz
  clear P hN hrow hz
  generalize hw0 : w.alloc (.cells #[.int .i64 K, .int .i64 ar, .int .i64 at_, .int .i64 z] 45) = w0 at *
  go_enter Tryd.func13, Tryd.ntmps13
  by_cases h1 : K = 1
  · subst h1
    go_wp2_with fail
    refine (alloc_any L R V z _ p P0.out.ar (HN.out _ (Ed.of_bel (Below.refl _ _))) Hz.out.2).mono ?_
    rintro e w1 ⟨x, ev, R', rfl, hr, hA, u⟩
    obtain ⟨f0, f2, f3⟩ := C.out w1 (Ed.of_upd u)
    have HM := hide (ralloc_pr P0.out hr hA (P0.out.rm.upd P0.out.sep u) (Ed.of_upd u))
    clear hr hA u C
    go_wp2_with fail
    refine HM.out.mono ?_
    rintro e w2 ⟨k, rfl, hk, hK⟩
    have HK := hide hK
    have Hk := hide hk
    have hxx : (x == x) = true := by simp
    have hkk : (k == k) = true := by simp
    clear hK hk HM f0 f2 f3
    go_wp2_with fail
    refine (Hk.out.num _ (HN.out _ HK.out.ed)).mono ?_
    rintro e w3 ⟨rfl, hb3⟩
    have HB := hide hb3
    clear hb3
    go_wp2_with fail
    go_ret
    exact ⟨rfl, (HK.out.below HB.out).pre B0.out⟩
  · by_cases h2 : K = 2
    · subst h2
      clear h1
      obtain ⟨ev, k, R0, V0, F⟩ := fm_any P0.out at_ p
      have FF := hide F
      have Z0 := hide (fun wi (hb : Below w0.heap.size w0 wi) => S7.start (R0 := R0) (V0 := V0) P0.out hb)
      have CC : Hid (∀ wi a m, S7 w0 wi L R V gm v H R0 V0 a m → wi.cell? ⟨w.heap.size, 2, none⟩ = some (.int .i64 at_)) := fun wi _ _ h => (C.out wi h.ed).2.1
      have F7 : Hid (∀ wi m, S7 w0 wi L R V gm v H R0 V0 false m → Calls Tryd.prog 22 #[L.ptr, .int .i64 at_] wi fun e w3 => e = .returned ev ∧ S7 w0 w3 L R V gm v H R0 V0 true m) := fun wi _ h => h.free P0.out F HN.out
      have M7 : Hid (∀ wi a, S7 w0 wi L R V gm v H R0 V0 a false → Calls Tryd.prog 26 #[.pointer (some ⟨gm, 0, none⟩), .int .i64 at_] wi fun e w3 => e = .returned (.int .i64 k) ∧ S7 w0 w3 L R V gm v H R0 V0 a true) := fun wi _ h => h.rfree P0.out F
      have N7 : Hid (∀ wi a m, S7 w0 wi L R V gm v H R0 V0 a m → Calls Tryd.prog 8 #[ev] wi fun e w3 => e = .returned (.int .i64 k) ∧ S7 w0 w3 L R V gm v H R0 V0 a m) := fun wi _ _ h => h.num F HN.out
      have K7 : Hid (∀ wi, S7 w0 wi L R V gm v H R0 V0 true true → Kept L gm (blks gm v H) w wi) := fun wi h => (h.kept P0.out F).pre B0.out
      have hkk : (k == k) = true := by simp
      clear F FF C HN P0 Hz B0
      go_wp2_with fail
      clear d0 d3
      go_region_held3 (fun w' => w'.cell? ⟨w.heap.size, 2, none⟩ = some (.int .i64 at_)) (go_keep)
        (first
          | (go_at_call 22; refine (F7.out _ _ (by first | exact Zm | exact Z0.out _ ((Below.refl _ _).drew))).mono ?_; rintro e wa ⟨rfl, Za⟩; have ca := CC.out _ _ _ Za)
          | (go_at_call 26; refine (M7.out _ _ (by first | exact Zn | exact Za | exact Z0.out _ ((Below.refl _ _).drew))).mono ?_; rintro e wm ⟨rfl, Zm⟩; have cm := CC.out _ _ _ Zm)
          | (go_at_call 8; refine (N7.out _ _ _ (by first | exact Zm | exact Za)).mono ?_; rintro e wn ⟨rfl, Zn⟩; have cn := CC.out _ _ _ Zn))
      all_goals
        go_wp2_with fail
        go_ret
        first
          | exact ⟨rfl, K7.out _ Zn⟩
          | exact ⟨rfl, K7.out _ Zm⟩
    · by_cases h3 : K = 3
      · subst h3
        clear h1 h2
        go_wp2_with fail
        refine (P0.out.rm.word_ at_).mono ?_
        rintro e w1 ⟨⟨u, rfl, hu⟩, hb1⟩
        have HM := hide (P0.out.rm.below hb1)
        have HA := hide (P0.out.ar.below hb1)
        have HE := hide (Ed.of_bel (L := L) (S := blks gm v H) hb1)
        obtain ⟨f0, f2, f3⟩ := C.out w1 HE.out
        rcases hu with ⟨rfl, hno⟩ | ⟨i, hi, rfl, hW⟩
        · have hni := noword_pr P0.out hno
          clear d0 d2 d3 hno hb1
          go_wp2_with fail
          refine (get_u L R V at_ _ p HA.out (HN.out _ HE.out)).mono ?_
          rintro e w2 ⟨x, ev, rfl, hr, hA2, u⟩
          obtain ⟨rfl, rfl⟩ : x = 0 ∧ ev = errV p 0 := by
            rcases hr with ⟨h, _⟩ | ⟨_, h1, h2⟩
            · exact absurd h hni
            · exact ⟨h1, h2⟩
          have HK := hide (same_pr P0.out hA2 (HM.out.upd P0.out.sep u) (HE.out.trans (Ed.of_upd u)))
          clear hA2 u hr hni f0 f2 f3
          go_wp2_with fail
          refine (num_err p 0 _ (HN.out _ HK.out.ed) (by omega)).mono ?_
          rintro e w3 ⟨rfl, hb3⟩
          have HB := hide hb3
          clear hb3
          go_wp2_with fail
          go_ret
          exact ⟨rfl, (HK.out.below HB.out).pre B0.out⟩
        · obtain ⟨kk, hkk, hk, hat, hin, hx⟩ := word_pr P0.out hi hW
          rw [hkk]
          clear d0 d2 d3 hb1 hW
          have HX := hide (And.intro hx (And.intro hk hin))
          have Hat := hide hat
          clear hx hin hat hkk
          go_wp2_with fail
          refine (get_u L R V at_ _ p HA.out (HN.out _ HE.out)).mono ?_
          rintro e w2 ⟨x, ev, rfl, hr, hA2, u⟩
          obtain ⟨rfl, rfl⟩ : x = V (16 * (rat H i).f + kk) ∧ ev = .nilIface := by
            rcases hr with ⟨_, h1, h2⟩ | ⟨h, _⟩
            · exact ⟨by rw [h1, Hat.out], h2⟩
            · exact absurd HX.out.2.2 h
          have hM2 := HM.out.upd P0.out.sep u
          have HK := hide (same_pr P0.out hA2 hM2 (HE.out.trans (Ed.of_upd u)))
          obtain ⟨a, cap, rfl, hcap, hcm, hR⟩ := hM2.slice
          have hrc := hM2.runsC
          obtain ⟨⟨hs1, hs2⟩, b, rfl, hlt, c0, c1, c2⟩ := hR i hi
          have hwc := (hM2.wordC HX.out.1 kk hk).1
          have hvv : ∀ y : Int, (y == y) = true := fun y => by simp
          clear hA2 u hr hR f0 f2 f3 hM2 c0 c1
          have hlen := HM.out.hl
          generalize V (16 * (rat H i).f + kk) = xx at *
          have hxx := hvv xx
          clear hvv
          generalize rat H i = xr at *
          go_wp2_with fail
          go_ret
          exact ⟨rfl, HK.out.pre B0.out⟩
      · by_cases h4 : K = 4
        · subst h4
          clear h1 h2 h3
          go_wp2_with fail
          refine (P0.out.rm.word_ at_).mono ?_
          rintro e w1 ⟨⟨u, rfl, hu⟩, hb1⟩
          have HM := hide (P0.out.rm.below hb1)
          have HA := hide (P0.out.ar.below hb1)
          have HE := hide (Ed.of_bel (L := L) (S := blks gm v H) hb1)
          obtain ⟨f0, f2, f3⟩ := C.out w1 HE.out
          rcases hu with ⟨rfl, hno⟩ | ⟨i, hi, rfl, hW⟩
          · have hni := noword_pr P0.out hno
            clear d0 d2 d3 hno hb1
            go_wp2_with fail
            refine (set_u L R V at_ z _ p HA.out (HN.out _ HE.out)).mono ?_
            rintro e w2 ⟨ev, V', rfl, hr, hA2, u⟩
            obtain ⟨rfl, rfl⟩ : ev = errV p 0 ∧ V' = V := by
              rcases hr with ⟨h, _⟩ | ⟨_, h1, h2⟩
              · exact absurd h hni
              · exact ⟨h1, h2⟩
            have HK := hide (same_pr P0.out hA2 (HM.out.upd P0.out.sep u) (HE.out.trans (Ed.of_upd u)))
            clear hA2 u hr hni f0 f2 f3
            go_wp2_with fail
            refine (num_err p 0 _ (HN.out _ HK.out.ed) (by omega)).mono ?_
            rintro e w3 ⟨rfl, hb3⟩
            have HB := hide hb3
            clear hb3
            go_wp2_with fail
            go_ret
            exact ⟨rfl, (HK.out.below HB.out).pre B0.out⟩
          · obtain ⟨kk, hkk, hk, hat, hin, hx⟩ := word_pr P0.out hi hW
            rw [hkk]
            clear d0 d2 d3 hb1 hW
            have HX := hide (And.intro hx (And.intro hk hin))
            have Hat := hide hat
            clear hx hin hat hkk
            go_wp2_with fail
            refine (set_u L R V at_ z _ p HA.out (HN.out _ HE.out)).mono ?_
            rintro e w2 ⟨ev, V', rfl, hr, hA2, u⟩
            obtain ⟨rfl, rfl⟩ : ev = .nilIface ∧ V' = fun k => if k = 16 * (rat H i).f + kk then z else V k := by
              rcases hr with ⟨_, h1, h2⟩ | ⟨h, _⟩
              · exact ⟨h1, by rw [h2, Hat.out]⟩
              · exact absurd HX.out.2.2 h
            have hM2 := HM.out.upd P0.out.sep u
            have HK := hide (set_pr P0.out HX.out.1 HX.out.2.1 Hz.out hA2 hM2 (HE.out.trans (Ed.of_upd u)))
            obtain ⟨g0, g2, g3⟩ := C.out w2 (HE.out.trans (Ed.of_upd u))
            obtain ⟨a, cap, rfl, hcap, hcm, hR⟩ := hM2.slice
            have hrc := hM2.runsC
            obtain ⟨⟨hs1, hs2⟩, b, rfl, hlt, c0, c1, c2⟩ := hR i hi
            obtain ⟨hwc, hwf⟩ := hM2.wordC HX.out.1 kk hk
            have hlen := HM.out.hl
            clear hA2 u hr hR f0 f2 f3 hM2 c0 c1 HM HA C HE Hat
            generalize V (16 * (rat H i).f + kk) = xx at *
            clear HX
            generalize rat H i = xr at *
            go_wp2_with fail
            go_region
            all_goals go_wp2_with fail
            all_goals go_ret
            all_goals exact ⟨rfl, (HK.out.below ((Below.refl _ _).drew)).pre B0.out⟩
        · by_cases h5 : K = 5
          · subst h5
            clear h1 h2 h3 h4
            go_wp2_with fail
            refine (clear_any L R V _ P0.out.ar).mono ?_
            rintro e w1 ⟨rfl, hA, u⟩
            have hM1 := P0.out.rm.upd P0.out.sep u
            have HK := hide (clear_pr P0.out hA hM1 (Ed.of_upd u))
            have hrc := hM1.runsC
            have hrf := hM1.runsF
            clear hA u hM1 d0 d2 d3 C
            go_wp2_with fail
            go_ret
            exact ⟨rfl, HK.out.pre B0.out⟩
          · have e1 : (K == 1) = false := by simp [h1]
            have e2 : (K == 2) = false := by simp [h2]
            have e3 : (K == 3) = false := by simp [h3]
            have e4 : (K == 4) = false := by simp [h4]
            have e5 : (K == 5) = false := by simp [h5]
            have HK := hide (same_pr P0.out P0.out.ar P0.out.rm (Ed.of_bel (Below.refl _ _)))
            clear h1 h2 h3 h4 h5 C
            go_wp2_with fail
            go_ret
            exact ⟨rfl, HK.out.pre B0.out⟩
end

end Go.Proofs.YtndhgdjcbegjdaaDoor.Ck
