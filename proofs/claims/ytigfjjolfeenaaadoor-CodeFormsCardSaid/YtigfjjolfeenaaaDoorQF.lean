/- Texts of this proof, packed. -/
import Derived.Test.YtigfjjolfeenaaaDoorNum
import Derived.Test.YtigfjjolfeenaaaDoorDa
import Derived.Test.YtigfjjolfeenaaaDoorEi
import Derived.Deep.AppendSrc
import Derived.OwnWalk
import Derived.Laws.BytesString
import Derived.Lib.SlBytesConst
import Derived.Test.YtigfjjolfeenaaaDoorGr
import Derived.Test.YtigfjjolfeenaaaDoorCk
import Derived.Test.YtigfjjolfeenaaaDoorCm
import Derived.Test.YtigfjjolfeenaaaDoorCp
import Derived.Test.YtigfjjolfeenaaaDoorIc
import Derived.Test.YtigfjjolfeenaaaDoorGe
import Derived.Test.YtigfjjolfeenaaaDoorOpen
import Derived.Deep.Slices
import Derived.Lib.SmallJoins
import Derived.ChangeArms
import Derived.SizedLaws
import Derived.Test.YtigfjjolfeenaaaDoorCb
/- What the row's list of all seventeen errors gives; and a world that meets the list. -/
namespace Go.Proofs.YtigfjjolfeenaaaDoor.Ck
open Go.ChangeShapes Go.WideShapes Go.RowKit

def laid17 : List (String × DataW Unit) := [("stockade/api.ErrRange", Rows.laid_stockade_api_ErrRange), ("stockade/api.ErrText", Rows.laid_stockade_api_ErrText), ("stockade/api.ErrDepth", Rows.laid_stockade_api_ErrDepth), ("stockade/api.ErrName", Rows.laid_stockade_api_ErrName), ("stockade/api.ErrType", Rows.laid_stockade_api_ErrType), ("stockade/api.ErrLarge", Rows.laid_stockade_api_ErrLarge), ("stockade/api.ErrFull", Rows.laid_stockade_api_ErrFull), ("stockade/api.ErrNone", Rows.laid_stockade_api_ErrNone), ("stockade/api.ErrCode", Rows.laid_stockade_api_ErrCode), ("stockade/api.ErrState", Rows.laid_stockade_api_ErrState), ("stockade/api.ErrFrame", Rows.laid_stockade_api_ErrFrame), ("stockade/api.ErrMac", Rows.laid_stockade_api_ErrMac), ("stockade/api.ErrReplay", Rows.laid_stockade_api_ErrReplay), ("stockade/api.ErrArena", Rows.laid_stockade_api_ErrArena), ("stockade/api.ErrClock", Rows.laid_stockade_api_ErrClock), ("stockade/api.ErrQuota", Rows.laid_stockade_api_ErrQuota), ("stockade/api.ErrTenant", Rows.laid_stockade_api_ErrTenant)]
def l17 : List (String × List UInt8) := [("stockade/api.ErrRange", [115, 116, 111, 99, 107, 97, 100, 101, 58, 32, 114, 97, 110, 103, 101]), ("stockade/api.ErrText", [115, 116, 111, 99, 107, 97, 100, 101, 58, 32, 116, 101, 120, 116]), ("stockade/api.ErrDepth", [115, 116, 111, 99, 107, 97, 100, 101, 58, 32, 100, 101, 112, 116, 104]), ("stockade/api.ErrName", [115, 116, 111, 99, 107, 97, 100, 101, 58, 32, 110, 97, 109, 101]), ("stockade/api.ErrType", [115, 116, 111, 99, 107, 97, 100, 101, 58, 32, 116, 121, 112, 101]), ("stockade/api.ErrLarge", [115, 116, 111, 99, 107, 97, 100, 101, 58, 32, 108, 97, 114, 103, 101]), ("stockade/api.ErrFull", [115, 116, 111, 99, 107, 97, 100, 101, 58, 32, 102, 117, 108, 108]), ("stockade/api.ErrNone", [115, 116, 111, 99, 107, 97, 100, 101, 58, 32, 110, 111, 110, 101]), ("stockade/api.ErrCode", [115, 116, 111, 99, 107, 97, 100, 101, 58, 32, 99, 111, 100, 101]), ("stockade/api.ErrState", [115, 116, 111, 99, 107, 97, 100, 101, 58, 32, 115, 116, 97, 116, 101]), ("stockade/api.ErrFrame", [115, 116, 111, 99, 107, 97, 100, 101, 58, 32, 102, 114, 97, 109, 101]), ("stockade/api.ErrMac", [115, 116, 111, 99, 107, 97, 100, 101, 58, 32, 109, 97, 99]), ("stockade/api.ErrReplay", [115, 116, 111, 99, 107, 97, 100, 101, 58, 32, 114, 101, 112, 108, 97, 121]), ("stockade/api.ErrArena", [115, 116, 111, 99, 107, 97, 100, 101, 58, 32, 97, 114, 101, 110, 97]), ("stockade/api.ErrClock", [115, 116, 111, 99, 107, 97, 100, 101, 58, 32, 99, 108, 111, 99, 107]), ("stockade/api.ErrQuota", [115, 116, 111, 99, 107, 97, 100, 101, 58, 32, 113, 117, 111, 116, 97]), ("stockade/api.ErrTenant", [115, 116, 111, 99, 107, 97, 100, 101, 58, 32, 116, 101, 110, 97, 110, 116])]
theorem laid17_eq : laid17 = l17.map fun x => (x.1, sentD x.2) := rfl
theorem named17 : ((List.range 17).all fun i => Tryd.prog.globalNamed (l17.getD i ("", [])).1 == some (gl.getD i 0) && (Tryd.prog.globals[gl.getD i 0]?).map (·.type) == some 31) = true := by kernel_rfl

theorem nodup_of_map {l : List Addr} (h : (l.map placeOf).Nodup) : l.Nodup := by
  induction l with
  | nil => exact List.nodup_nil
  | cons a l ih =>
    simp only [List.map_cons, List.nodup_cons] at h ⊢
    exact ⟨fun hm => h.1 (List.mem_map_of_mem hm), ih h.2⟩

theorem errs17_of_laid {W : World} (h : laidMetH Tryd.prog laid17 W) : ∃ p, Errs17 W p := by
  rw [MakeChecks.laidMetH_plain _ _ _ (by kernel_rfl), laid17_eq] at h
  obtain ⟨ps, hv, hnd, hrows⟩ := h
  obtain ⟨p, hs, hsub⟩ := sents_of l17 gl ps rfl (fun i hi => by
    have h1 := List.all_eq_true.1 named17 i (List.mem_range.2 hi)
    simp only [Bool.and_eq_true, beq_iff_eq] at h1
    exact h1) hv hrows
  exact ⟨p, hs, nodup_of_map (hnd.sublist hsub)⟩

theorem door_met17 (os : Os) (args : Array Value) : laidMetH Tryd.prog laid17 ((World.doorLaid Tryd.prog 332 os).forCall (fun _ _ => 0) ⟨#[], args, []⟩).memory :=
  laidMetH_of_parts3 (fuel := 8) (laidMet_of_run' 8 (by kernel_rfl) (by kernel_rfl)) (by kernel_rfl) (by kernel_rfl)

end Go.Proofs.YtigfjjolfeenaaaDoor.Ck

/- Package code: a number is written. -/
namespace Go.Proofs.YtigfjjolfeenaaaDoor.Ck
open Go.RowKit

theorem Wv.drew {w : World} {g : Nat} {G : Nat → Prop} {v : Value} {l : List Int} (h : Wv w g G v l) : Wv w.drew g G v l := h.keep (fun _ _ _ => rfl)
set_option maxRecDepth 20000 in
set_option maxHeartbeats 4000000 in
theorem write_any {w : World} {g : Nat} {G : Nat → Prop} {l : List Int} (h : Wr w g G l) (n : Nat) (hn : n ≤ 8) (u : Nat) (hl : l.length ≤ 900000) : Calls Tryd.prog 58 #[.pointer (some ⟨g, 0, none⟩), .int .i64 n, .int .u64 (u : Int)] w fun e w' => e = .returned (.tuple #[]) ∧ ∃ G', Wr w' g G' (l ++ bigL n u) ∧ Ch G G' w w' := by
  obtain ⟨v0, h0⟩ := h
  have H0 := hide h0
  have HL := hide hl
  clear h0 hl
  have e0 : wrap64 ((n : Int) - 1) = (n : Int) - 1 := by unfold wrap64; omega
  go_enter Tryd.func58, Tryd.ntmps58
  go_wp2_with fail
  go_loopw [6] (fun i wr => ∃ (j : Nat) (G1 : Nat → Prop) (v : Value), j ≤ n ∧ i = .int .i64 ((j : Int) - 1) ∧ Hid (Wv wr g G1 v (l ++ bigL (n - j) ((u : Int) / 2 ^ (8 * j)))) ∧ Hid (Ch G G1 w wr)) (fun i _ => (intOf i + 1).toNat)
  case atStart => exact ⟨n, G, v0, Nat.le_refl _, rfl, hide (by rw [Nat.sub_self]; simpa [bigL] using H0.out), hide (Ch.refl _ _)⟩
  case round =>
    obtain ⟨j, G1, v, hj, rfl, X0, C0⟩ := hrel
    clear e0 H0
    obtain rfl | ⟨m, rfl⟩ : j = 0 ∨ ∃ m, j = m + 1 := by
      cases j with
      | zero => exact .inl rfl
      | succ m => exact .inr ⟨m, rfl⟩
    · rw [show ((0 : Nat) : Int) - 1 = -1 from rfl]
      go_wp2_with fail
      go_end0
      refine ⟨rfl, G1, ⟨v, ?_⟩, C0.out⟩
      have := X0.out
      simpa using this
    · rw [show ((m + 1 : Nat) : Int) - 1 = (m : Int) by omega]
      have ii : (0 : Int) ≤ (m : Int) ∧ (m : Int) ≤ 7 := by omega
      obtain ⟨i8, ei8⟩ : ∃ i8 : Nat, 8 * (m : Int) = (i8 : Int) := ⟨8 * m, by omega⟩
      have ei8n : Hid (8 * m = i8) := by show _ = _; omega
      have ii8 : (0 : Int) ≤ (i8 : Int) ∧ (i8 : Int) ≤ 56 := by omega
      have ew : IntKind.i64.wrap (i8 : Int) = (i8 : Int) := by
        first
        | (rw [show IntKind.i64.wrap (i8 : Int) = wrap64 (i8 : Int) from rfl]; unfold wrap64; omega)
        | (simp [IntKind.wrap, IntKind.signed, IntKind.bits]; omega)
      have BS := hide (big_step n m u (by omega))
      rw [ei8n.out] at BS
      obtain ⟨L, hL⟩ : ∃ L, L = l ++ bigL (n - (m + 1)) ((u : Int) / 2 ^ (8 * (m + 1))) := ⟨_, rfl⟩
      have HLL := hide hL
      have X : Hid (Wv wr g G1 v L) := hide (by rw [hL]; exact X0.out)
      obtain ⟨aV, cV, eV, _⟩ := own_slice X.out.own
      obtain ⟨nV, hnV⟩ : ∃ nV, nV = L.length := ⟨_, rfl⟩
      rw [← hnV] at eV
      subst eV
      have NL := hide hnV
      have NL2 : Hid (nV ≤ 1000000) := hide (by rw [hnV, hL, List.length_append, bigL_len]; have := HL.out; omega)
      clear X0 hL hnV
      go_wp2_with fail
      refine wp_region_T (S := fun w' => w'.heap[g]? = some (.cells #[.slice aV nV cV] 61 (0, 0))) (fun j => decide (j < 14)) mixed X.out.at_ (fun hH => ?_)
      have XD := hide X.out.drew
      have CD := hide C0.out.drew
      clear X C0
      have X := XD
      clear XD
      generalize wr.drew = wd at *
      refine T_move (i := 0) (v := ?_) rfl (by kernel_rfl) (by kernel_rfl) (by kernel_rfl) (fun _ _ _ h => h) (Or.inl ⟨by rfl, ?_⟩) ?_
      rotate_left 1
      · (intro w _; go_simp <;> with_reducible rfl)
      simp only [Act.put, List.getElem_toArray, List.getElem_cons_zero, List.setIfInBounds_toArray, List.set_cons_zero, List.set_cons_succ]
      refine T_move (i := 1) (v := ?_) rfl (by kernel_rfl) (by kernel_rfl) (by kernel_rfl) (fun _ _ _ h => h) (Or.inl ⟨by rfl, ?_⟩) ?_
      rotate_left 1
      · (intro w _; go_simp <;> with_reducible rfl)
      simp only [Act.put, List.getElem_toArray, List.getElem_cons_zero, List.getElem_cons_succ, List.setIfInBounds_toArray, List.set_cons_zero, List.set_cons_succ]
      refine T_move (i := 2) (v := ?_) rfl (by kernel_rfl) (by kernel_rfl) (by kernel_rfl) (fun _ _ _ h => h) (Or.inl ⟨by rfl, ?_⟩) ?_
      rotate_left 1
      · (intro w _; go_simp <;> with_reducible rfl)
      simp only [Act.put, List.getElem_toArray, List.getElem_cons_zero, List.getElem_cons_succ, List.setIfInBounds_toArray, List.set_cons_zero, List.set_cons_succ]
      refine T_move (i := 3) (v := ?_) rfl (by kernel_rfl) (by kernel_rfl) (by kernel_rfl) (fun _ _ _ h => h) (Or.inl ⟨by rfl, ?_⟩) ?_
      rotate_left 1
      · (intro w _; go_simp <;> with_reducible rfl)
      simp only [Act.put, List.getElem_toArray, List.getElem_cons_zero, List.getElem_cons_succ, List.setIfInBounds_toArray, List.set_cons_zero, List.set_cons_succ]
      refine T_take (i := 4) (v := ?_) rfl (by kernel_rfl) (by kernel_rfl) (by kernel_rfl) (by kernel_rfl) (fun _ _ _ h => h) (Or.inl ⟨by rfl, ?_⟩) hH ?_
      rotate_left 1
      · (intro w hSw; have q := blk_cell hSw 0 _ rfl; clear hSw; go_simp <;> with_reducible rfl)
      simp only [Act.put, List.getElem_toArray, List.getElem_cons_zero, List.getElem_cons_succ, List.setIfInBounds_toArray, List.set_cons_zero, List.set_cons_succ]
      refine T_move (i := 5) (v := ?_) rfl (by kernel_rfl) (by kernel_rfl) (by kernel_rfl) (fun _ _ _ h => h) (Or.inl ⟨by rfl, ?_⟩) ?_
      rotate_left 1
      · (intro w _; go_simp <;> with_reducible rfl)
      simp only [Act.put, List.getElem_toArray, List.getElem_cons_zero, List.getElem_cons_succ, List.setIfInBounds_toArray, List.set_cons_zero, List.set_cons_succ]
      refine T_move (i := 6) (v := ?_) rfl (by kernel_rfl) (by kernel_rfl) (by kernel_rfl) (fun _ _ _ h => h) (Or.inl ⟨by rfl, ?_⟩) ?_
      rotate_left 1
      · (intro w _; go_simp <;> with_reducible rfl)
      simp only [Act.put, List.getElem_toArray, List.getElem_cons_zero, List.getElem_cons_succ, List.setIfInBounds_toArray, List.set_cons_zero, List.set_cons_succ]
      refine T_move (i := 7) (v := ?_) rfl (by kernel_rfl) (by kernel_rfl) (by kernel_rfl) (fun _ _ _ h => h) (Or.inl ⟨by rfl, ?_⟩) ?_
      rotate_left 1
      · (intro w _; go_simp <;> with_reducible rfl)
      simp only [Act.put, List.getElem_toArray, List.getElem_cons_zero, List.getElem_cons_succ, List.setIfInBounds_toArray, List.set_cons_zero, List.set_cons_succ]
      refine T_move (i := 8) (v := ?_) rfl (by kernel_rfl) (by kernel_rfl) (by kernel_rfl) (fun _ _ _ h => h) (Or.inl ⟨by rfl, ?_⟩) ?_
      rotate_left 1
      · (intro w _; go_simp <;> with_reducible rfl)
      simp only [Act.put, List.getElem_toArray, List.getElem_cons_zero, List.getElem_cons_succ, List.setIfInBounds_toArray, List.set_cons_zero, List.set_cons_succ]
      refine T_move (i := 9) (v := ?_) rfl (by kernel_rfl) (by kernel_rfl) (by kernel_rfl) (fun _ _ _ h => h) (Or.inl ⟨by rfl, ?_⟩) ?_
      rotate_left 1
      · (intro w _; go_simp <;> with_reducible rfl)
      simp only [Act.put, List.getElem_toArray, List.getElem_cons_zero, List.getElem_cons_succ, List.setIfInBounds_toArray, List.set_cons_zero, List.set_cons_succ]
      clear hH
      refine T_ready (rs := [10]) (by kernel_rfl) (by decide) ?_
      refine AllReadyT.cons rfl (fun K1 hK1 => ?_) AllReadyT.nil
      go_simp
      refine hK1.out _ _ (fun _ => ((bel_new _ _).block g (lt_of_blk X.out.at_)).trans X.out.at_) (fun _ => ?_)
      have E1 := hide (blk_cell (Go.Deep.blk_alloc_new wd (.cells #[.int .u8 ((u : Int) / 2 ^ i8 % 256)] 5)) 0 _ rfl)
      have X1 := hide (X.out.keep (w' := wd.alloc (.cells #[.int .u8 ((u : Int) / 2 ^ i8 % 256)] 5)) (fun k _ hk => (bel_new _ _).block k hk))
      clear hK1 K1
      refine T_ready (rs := [11]) (by kernel_rfl) (by decide) ?_
      refine AllReadyT.cons rfl (fun K1 hK1 => ?_) AllReadyT.nil
      have X1OWN := hide (by have := X1.out.own; rw [← NL.out] at this; exact this : (wd.alloc (.cells #[.int .u8 ((u : Int) / 2 ^ i8 % 256)] 5)).ownsRow 0 5 1 (.slice aV nV cV) nV (yys L))
      have PU := hide (fun ty => pushY (l := L) NL.out NL2.out X1OWN.out ((u : Int) / 2 ^ i8 % 256) E1.out ty)
      refine step_appV (TS := 33) (.tmp 17) (.tmp 23) _ _ _ (fun ty => PU.out ty) rfl rfl rfl rfl ?_
      rintro v9 w9 ⟨⟨a9, c9, rfl⟩, o9, g9, b9⟩
      have X9 := hide (X1.out.put (by rw [← NL.out]; exact o9) g9 b9)
      refine hK1.out _ _ (fun _ => X9.out.1) (fun _ => ?_)
      clear hK1 K1 PU o9 g9 b9
      refine T_move (i := 12) (v := ?_) rfl (by kernel_rfl) (by kernel_rfl) (by kernel_rfl) (fun _ _ _ h => h) (Or.inl ⟨by rfl, ?_⟩) ?_
      rotate_left 1
      · (intro w _; go_simp <;> with_reducible rfl)
      simp only [Act.put, List.getElem_toArray, List.getElem_cons_zero, List.getElem_cons_succ, List.setIfInBounds_toArray, List.set_cons_zero, List.set_cons_succ]
      refine T_move (i := 13) (v := ?_) rfl (by kernel_rfl) (by kernel_rfl) (by kernel_rfl) (fun _ _ _ h => h) (Or.inl ⟨by rfl, ?_⟩) ?_
      rotate_left 1
      · (intro w _; go_simp <;> with_reducible rfl)
      simp only [Act.put, List.getElem_toArray, List.getElem_cons_zero, List.getElem_cons_succ, List.setIfInBounds_toArray, List.set_cons_zero, List.set_cons_succ]
      refine T_ready (rs := [14]) (by kernel_rfl) (by decide) ?_
      refine AllReadyT.cons rfl (fun K1 hK1 => ?_) AllReadyT.nil
      have n1 := blk_cell X9.out.1 0 _ rfl
      have m1 := blk_frz X9.out.1 0
      go_simp
      refine hK1.out _ _ (fun h => absurd h (by decide)) (fun _ => ?_)
      clear hK1 K1 n1 m1
      refine T_done (by kernel_rfl) ?_ _
      obtain ⟨_, G2, V2, C2⟩ := X9.out
      have R2 := hide (And.intro V2 C2)
      have XB := hide (bel_new wd (.cells #[.int .u8 ((u : Int) / 2 ^ i8 % 256)] 5))
      clear V2 C2 X9 X1 E1 X X1OWN
      generalize w9.setCell ⟨g, 0, none⟩ (.slice a9 (nV + 1) c9) = w8 at *
      go_wp2_with fail
      go_roundw
      case rel => exact ⟨m, G2, _, by omega, by first | rfl | go_num, hide (by have := R2.out.1; rw [HLL.out, List.append_assoc, BS.out, ← ei8n.out] at this; exact this), hide ((CD.out.trans (Ch.of_bel XB.out)).trans R2.out.2)⟩
      case measure => simp [intOf]
end Go.Proofs.YtigfjjolfeenaaaDoor.Ck

/- Package code: numbers and an instruction are written. -/
namespace Go.Proofs.YtigfjjolfeenaaaDoor.Ck
open Go.RowKit

theorem Ch.off {G G' : Nat → Prop} {w w' : World} {b : Nat} (h : Ch G G' w w') (hb : b < w.heap.size) (hn : ¬ G b) : ¬ G' b := fun e => by
  rcases h.grow b e with h1 | h1
  · exact hn h1
  · omega
theorem wrapU_nat {z : Nat} (h : z ≤ 9223372036854775807) : IntKind.u64.wrap (z : Int) = (z : Int) := by
  first
  | (simp [IntKind.wrap]; omega)
  | (simp [IntKind.wrap, IntKind.signed, IntKind.bits]; omega)
theorem take_flat {α : Type} {l : List α} {d : α} {f : α → List Int} {k : Nat} (h : k < l.length) : (l.take (k + 1)).flatMap f = (l.take k).flatMap f ++ f (l.getD k d) := by
  rw [List.take_add_one, List.getD_eq_getElem?_getD, List.getElem?_eq_getElem h]
  simp only [Option.toList_some, List.flatMap_append, List.flatMap_cons, List.flatMap_nil, List.append_nil, Option.getD_some]
theorem flat4 (l : List Int) : (l.flatMap (bigL 4)).length = 4 * l.length := by
  induction l with
  | nil => rfl
  | cons a l ih => rw [List.flatMap_cons, List.length_append, ih, bigL_len, List.length_cons]; omega
set_option maxRecDepth 20000 in
set_option maxHeartbeats 4000000 in
theorem numbers_any {w : World} {g : Nat} {G : Nat → Prop} {l : List Int} {v : Value} {zs : List Int} (h : Wr w g G l) (hs : ∀ G' w', Ch G G' w w' → Sl w' v zs) (hz : ∀ z ∈ zs, 0 ≤ z) (hl : l.length + 4 * zs.length ≤ 900000) :
    Calls Tryd.prog 40 #[.pointer (some ⟨g, 0, none⟩), v] w fun e w' => e = .returned (.tuple #[]) ∧ ∃ G', Wr w' g G' (l ++ zs.flatMap (bigL 4)) ∧ Ch G G' w w' := by
  obtain ⟨av, cv, ev, _, _⟩ := (hs G w (Ch.refl _ _)).form
  have HF := hide (hs G w (Ch.refl _ _)).fits
  have HZ := hide hz
  have HS := hide hs
  have H0 := hide h
  have HLL := hide hl
  obtain ⟨n, hn⟩ : ∃ n, n = zs.length := ⟨_, rfl⟩
  rw [← hn] at ev
  subst ev
  have HN := hide hn
  have hn9 : n ≤ 225000 := by omega
  clear h hs hz hl hn
  go_enter Tryd.func40, Tryd.ntmps40
  go_wp2_with fail
  go_loopw [5, 8] (fun u i wr => ∃ (k : Nat) (G1 : Nat → Prop), k ≤ n ∧ i = .int .i64 k ∧ Hid (Wr wr g G1 (l ++ (zs.take k).flatMap (bigL 4))) ∧ Hid (Ch G G1 w wr)) (fun u i _ => n - (intOf i).toNat)
  case atStart => exact ⟨0, G, Nat.zero_le _, rfl, hide (by simpa using H0.out), hide (Ch.refl _ _)⟩
  case round =>
    obtain ⟨k, G1, hk, rfl, X, C⟩ := hrel
    clear H0
    by_cases hlt : k < n
    · have h1 : (k : Int) < (n : Int) := by omega
      obtain ⟨b, off, rfl, hbl, hc⟩ := (HS.out _ _ C.out).at k hlt
      have hmem : zs.getD k 0 ∈ zs := by
        rw [List.getD_eq_getElem?_getD, List.getElem?_eq_getElem (by have := HN.out; omega)]
        exact List.getElem_mem _
      obtain ⟨z, hz⟩ : ∃ z : Nat, zs.getD k 0 = z := ⟨(zs.getD k 0).toNat, by have := HZ.out _ hmem; omega⟩
      have ew := wrapU_nat (z := z) (by have := (HF.out _ hmem).2; omega)
      have TK := hide (take_flat (l := zs) (d := 0) (f := bigL 4) (k := k) (by have := HN.out; omega))
      rw [hz] at hc TK
      have WR := hide (write_any X.out 4 (by decide) z (by rw [List.length_append, flat4, List.length_take]; have := HLL.out; omega))
      clear hz hmem X
      go_wp2_with fail
      refine WR.out.mono ?_
      rintro e w2 ⟨rfl, G2, X2, C2⟩
      rw [List.append_assoc, ← TK.out] at X2
      have R2 := hide (And.intro X2 (C.out.trans C2))
      clear X2 C2 WR TK C hc
      go_wp2_with fail
      go_roundw
      case rel => exact ⟨k + 1, G2, by omega, by go_num, hide R2.out.1, hide R2.out.2⟩
      case measure => simp [intOf]; omega
    · obtain rfl : k = n := by omega
      go_wp2_with fail
      go_end0
      refine ⟨rfl, G1, ?_, C.out⟩
      have := X.out
      rw [HN.out, List.take_length] at this
      exact this
set_option maxRecDepth 20000 in
set_option maxHeartbeats 4000000 in
theorem winstr_any {w : World} {g : Nat} {G : Nat → Prop} {l : List Int} (h : Wr w g G l) (o a b t at_ : Nat) (ho : o ≤ 9223372036854775807) (ha : a ≤ 9223372036854775807) (hb : b ≤ 9223372036854775807) (hat : at_ ≤ 9223372036854775807) (hl : l.length + 25 ≤ 900000) :
    Calls Tryd.prog 41 #[.pointer (some ⟨g, 0, none⟩), .agg #[.int .i64 (o : Int), .int .i64 (a : Int), .int .i64 (b : Int), .int .u64 (t : Int), .int .i64 (at_ : Int)]] w fun e w' => e = .returned (.tuple #[]) ∧ ∃ G', Wr w' g G' (l ++ wIns ⟨o, a, b, t, at_⟩) ∧ Ch G G' w w' := by
  have w1 := wrapU_nat ho
  have w2 := wrapU_nat ha
  have w3 := wrapU_nat hb
  have w5 := wrapU_nat hat
  have HL := hide hl
  obtain ⟨bx, hbx⟩ : ∃ bx, bx = w.heap.size := ⟨_, rfl⟩
  have BX := hide (show (w.alloc (.cells #[.int .i64 (o : Int), .int .i64 (a : Int), .int .i64 (b : Int), .int .u64 (t : Int), .int .i64 (at_ : Int)] 50)).heap[w.heap.size]? = some (.cells #[.int .i64 (o : Int), .int .i64 (a : Int), .int .i64 (b : Int), .int .u64 (t : Int), .int .i64 (at_ : Int)] 50 (0, 0)) from Go.Deep.blk_alloc_new _ _)
  have NG : Hid (¬ G w.heap.size) := hide (fun e => by obtain ⟨v, hv⟩ := h; have := hv.lt e; omega)
  have X0 := hide (h.bel (bel_new w (.cells #[.int .i64 (o : Int), .int .i64 (a : Int), .int .i64 (b : Int), .int .u64 (t : Int), .int .i64 (at_ : Int)] 50)))
  have C0 := hide (Ch.of_bel (F := G) (bel_new w (.cells #[.int .i64 (o : Int), .int .i64 (a : Int), .int .i64 (b : Int), .int .u64 (t : Int), .int .i64 (at_ : Int)] 50)))
  rw [← hbx] at BX NG
  have HBX := hide hbx
  clear h ho ha hb hat hl hbx
  go_enter Tryd.func41, Tryd.ntmps41
  have c0 := blk_cell BX.out 0 _ rfl
  rw [HBX.out] at c0
  go_wp2_with fail
  rw [← HBX.out]
  generalize w.alloc (.cells #[.int .i64 (o : Int), .int .i64 (a : Int), .int .i64 (b : Int), .int .u64 (t : Int), .int .i64 (at_ : Int)] 50) = v0 at *
  clear c0 HBX
  refine (write_any X0.out 1 (by decide) o (by have := HL.out; first | omega | (simp only [List.length_append, bigL_len]; omega))).mono ?_
  rintro e v1 ⟨rfl, G1, x1, c1⟩
  have BX1 := hide ((c1.blk bx (lt_of_blk BX.out) NG.out).trans BX.out)
  have NG1 := hide (c1.off (lt_of_blk BX.out) NG.out)
  have X1 := hide x1
  have C1 := hide (C0.out.trans c1)
  clear x1 c1 X0 C0
  have q1 := blk_cell BX1.out 1 _ rfl
  go_wp2_with fail
  clear q1
  refine (write_any X1.out 8 (by decide) a (by have := HL.out; first | omega | (simp only [List.length_append, bigL_len]; omega))).mono ?_
  rintro e v2 ⟨rfl, G2, x2, c2⟩
  have BX2 := hide ((c2.blk bx (lt_of_blk BX1.out) NG1.out).trans BX1.out)
  have NG2 := hide (c2.off (lt_of_blk BX1.out) NG1.out)
  have X2 := hide x2
  have C2 := hide (C1.out.trans c2)
  clear x2 c2 X1 C1
  have q2 := blk_cell BX2.out 2 _ rfl
  go_wp2_with fail
  clear q2
  refine (write_any X2.out 4 (by decide) b (by have := HL.out; first | omega | (simp only [List.length_append, bigL_len]; omega))).mono ?_
  rintro e v3 ⟨rfl, G3, x3, c3⟩
  have BX3 := hide ((c3.blk bx (lt_of_blk BX2.out) NG2.out).trans BX2.out)
  have NG3 := hide (c3.off (lt_of_blk BX2.out) NG2.out)
  have X3 := hide x3
  have C3 := hide (C2.out.trans c3)
  clear x3 c3 X2 C2
  have q3 := blk_cell BX3.out 3 _ rfl
  go_wp2_with fail
  clear q3
  refine (write_any X3.out 8 (by decide) t (by have := HL.out; first | omega | (simp only [List.length_append, bigL_len]; omega))).mono ?_
  rintro e v4 ⟨rfl, G4, x4, c4⟩
  have BX4 := hide ((c4.blk bx (lt_of_blk BX3.out) NG3.out).trans BX3.out)
  have NG4 := hide (c4.off (lt_of_blk BX3.out) NG3.out)
  have X4 := hide x4
  have C4 := hide (C3.out.trans c4)
  clear x4 c4 X3 C3
  have q4 := blk_cell BX4.out 4 _ rfl
  go_wp2_with fail
  clear q4
  refine (write_any X4.out 4 (by decide) at_ (by have := HL.out; first | omega | (simp only [List.length_append, bigL_len]; omega))).mono ?_
  rintro e v5 ⟨rfl, G5, x5, c5⟩
  have X5 := hide x5
  have C5 := hide (C4.out.trans c5)
  clear x5 c5 X4 C4
  go_wp2_with fail
  go_end0
  refine ⟨rfl, G5, ?_, C5.out⟩
  have := X5.out
  simp only [List.append_assoc] at this
  exact this
end Go.Proofs.YtigfjjolfeenaaaDoor.Ck

/- Package code: a code is written. (Written by mk_d.py.) -/
namespace Go.Proofs.YtigfjjolfeenaaaDoor.Ck
open Go.RowKit

theorem lit_sl {w : World} {b : Nat} {xs : List Int} (hb : w.heap[b]? = some (.cells (xs.map (Value.int .i64)).toArray 3 (0, 0))) (hf : Fits xs) (hl : xs.length ≤ 1000) : Sl w (.slice (some ⟨b, 0, none⟩) xs.length xs.length) xs := by
  refine Sl.of_row (t := 3) (f := fun i => .int .i64 (xs.getD i 0)) ⟨_, hb, by simp, fun i hi => ?_⟩ (Nat.le_refl _) (by unfold maxLen; omega) hf (fun i _ => rfl)
  simp [List.getD, hi]
theorem numbers_lit {w : World} {g : Nat} {G : Nat → Prop} {l : List Int} (h : Wr w g G l) (b : Nat) (hbw : b = w.heap.size) (xs : List Int) (hz : ∀ z ∈ xs, 0 ≤ z ∧ z ≤ 9223372036854775807) (hx : xs.length ≤ 10) (hl : l.length ≤ 800000) :
    Calls Tryd.prog 40 #[.pointer (some ⟨g, 0, none⟩), .slice (some ⟨b, 0, none⟩) xs.length xs.length] (w.alloc (.cells (xs.map (Value.int .i64)).toArray 3)) fun e w' => e = .returned (.tuple #[]) ∧ ∃ G', Wr w' g G' (l ++ xs.flatMap (bigL 4)) ∧ Ch G G' w w' := by
  subst hbw
  have hb := bel_new w (.cells (xs.map (Value.int .i64)).toArray 3)
  have hk : (w.alloc (.cells (xs.map (Value.int .i64)).toArray 3)).heap[w.heap.size]? = some (.cells (xs.map (Value.int .i64)).toArray 3 (0, 0)) := Go.Deep.blk_alloc_new _ _
  have hn : ¬ G w.heap.size := fun e => by obtain ⟨v, hv⟩ := h; have := hv.lt e; omega
  refine (numbers_any (h.bel hb) (fun G' w' hc => lit_sl ((hc.blk _ (lt_of_blk hk) hn).trans hk) (fun z q => ⟨by have := (hz z q).1; omega, (hz z q).2⟩) (by omega)) (fun z q => (hz z q).1) (by omega)).mono ?_
  rintro e w' ⟨rfl, G', x, y⟩
  exact ⟨rfl, G', x, (Ch.of_bel hb).trans y⟩
/-- where the writing stands: W0 the world of what is handed in, bx the block of the code's variable -/
structure Wst (W0 W w : World) (bx g : Nat) (G G1 : Nat → Prop) (cs : Array Value) (l : List Int) : Prop where
  x : Wr w g G1 l
  c : Ch G G1 W w
  k : w.heap[bx]? = some (.cells cs 27 (0, 0))
  n : ¬ G1 bx
  b : Below W0.heap.size W0 w
  lo : ∀ k, G1 k → W0.heap.size ≤ k
theorem Wst.step {W0 W w w' : World} {bx g : Nat} {G G1 G2 : Nat → Prop} {cs : Array Value} {l l' : List Int} (h : Wst W0 W w bx g G G1 cs l) (hx : Wr w' g G2 l') (hc : Ch G1 G2 w w') : Wst W0 W w' bx g G G2 cs l' :=
  ⟨hx, h.c.trans hc, (hc.blk bx (lt_of_blk h.k) h.n).trans h.k, hc.off (lt_of_blk h.k) h.n, h.b.trans (hc.bel h.lo h.b.size), hc.low h.lo h.b.size⟩
theorem Wst.bl {W0 W w w' : World} {bx g : Nat} {G G1 : Nat → Prop} {cs : Array Value} {l : List Int} (h : Wst W0 W w bx g G G1 cs l) (hb : Below w.heap.size w w') : Wst W0 W w' bx g G G1 cs l := h.step (h.x.bel hb) (Ch.of_bel hb)
theorem Wr.lt {w : World} {g : Nat} {G : Nat → Prop} {l : List Int} (h : Wr w g G l) {k : Nat} (hk : G k) : k < w.heap.size := by
  obtain ⟨v, hv⟩ := h
  exact hv.lt hk
theorem flatC (l : List (Int × Int)) : (l.flatMap wChan).length = 8 * l.length := by
  induction l with
  | nil => rfl
  | cons a l ih => rw [List.flatMap_cons, List.length_append, ih, List.length_cons]; simp only [wChan, List.length_append, bigL_len]; omega
theorem flatI (l : List In5) : (l.flatMap wIns).length = 25 * l.length := by
  induction l with
  | nil => rfl
  | cons a l ih => rw [List.flatMap_cons, List.length_append, ih, List.length_cons]; simp only [wIns, List.length_append, bigL_len]; omega
theorem flatF : ∀ (l : List Fn3), (∀ f ∈ l, f.lo.length ≤ 32) → (l.flatMap wFn).length ≤ 140 * l.length
  | [], _ => Nat.le_refl _
  | f :: l, h => by
    have ih := flatF l (fun x hx => h x (List.mem_cons_of_mem _ hx))
    have h1 := h f (List.mem_cons_self ..)
    rw [List.flatMap_cons, List.length_append, List.length_cons]
    simp only [wFn, List.length_append, bigL_len, flat4]
    omega
theorem getD_mem {α : Type} {l : List α} {d : α} {k : Nat} (h : k < l.length) : l.getD k d ∈ l := by
  rw [List.getD_eq_getElem?_getD, List.getElem?_eq_getElem h]
  exact List.getElem_mem h
/-- what a code in form has at most -/
theorem form_len {c : Cd} (h : formB c = true) : c.P.length ≤ 128 ∧ c.C.length ≤ 32 ∧ c.F.length ≤ 16 ∧ c.B.length ≤ 8192 ∧ ∀ f ∈ c.F, f.lo.length ≤ 32 := by
  simp only [formB, Bool.and_eq_true, decide_eq_true_eq, List.all_eq_true] at h
  obtain ⟨⟨⟨⟨⟨⟨⟨hP, hM⟩, hA⟩, hS⟩, hF⟩, hB⟩, hm⟩, ⟨⟨⟨kP, kC⟩, kF⟩, _⟩, kB⟩ := h
  refine ⟨hP, by omega, hF, hB, fun f hf => ?_⟩
  have := kF f hf
  simp only [fnB, Bool.and_eq_true, decide_eq_true_eq] at this
  exact this.2.2.2.2.1
set_option maxRecDepth 20000 in
set_option maxHeartbeats 4000000 in
theorem wcode_any {W0 W : World} {g : Nat} {G : Nat → Prop} {vP vC vF vB : Value} {c : Cd} (h : Wr W g G []) (h0 : Cv W0 vP vC vF vB c) (hW : Below W0.heap.size W0 W) (hG : ∀ k, G k → W0.heap.size ≤ k) (hf : formB c = true) :
    Calls Tryd.prog 25 #[.pointer (some ⟨g, 0, none⟩), codeA vP vC vF vB c] W fun e w' => e = .returned (.tuple #[]) ∧ ∃ G', Wr w' g G' (bytesL c) ∧ Ch G G' W w' := by
  have HS := hide (form_sm hf (fun x hx => (h0.L.I x hx).1))
  obtain ⟨nP, nC, nF, nB, nL⟩ := form_len hf
  have HL := hide nL
  have I1 : Hid (Wst W0 W (W.alloc (codeO vP vC vF vB c)) W.heap.size g G G #[vP, .int .i64 c.M, .int .i64 c.A, vC, vF, .int .i64 c.mn, vB] []) := hide ⟨h.bel (bel_new _ _), Ch.of_bel (bel_new _ _), Go.Deep.blk_alloc_new _ _, fun e => absurd (h.lt e) (by omega), hW.trans ((bel_new _ _).mono hW.size), hG⟩
  have V0 := hide h0
  obtain ⟨aP, cP, eP, _, hmP⟩ := h0.P.form
  obtain ⟨aC, cC, eC, _, hmC⟩ := h0.C.form
  obtain ⟨aF, cF, eF, _, hmF⟩ := h0.F.form
  obtain ⟨aB, cB, eB, _, hmB⟩ := h0.B.form
  subst eP eC eF eB
  clear h h0 hW hG hf nL hmP hmC hmF hmB
  unfold codeA codeO at *
  have N1 := hide (numbers_lit I1.out.x (W.heap.size + 1) (by simp) [(c.P.length : Int), c.M, c.A, (c.C.length : Int), (c.F.length : Int), (c.B.length : Int), c.mn] (fun z hz => by
    have s := HS.out
    simp at hz
    rcases hz with rfl | rfl | rfl | rfl | rfl | rfl | rfl
    · exact ⟨by omega, by omega⟩
    · exact ⟨s.nm.1, by have := s.nm.2; omega⟩
    · exact ⟨s.na.1, by have := s.na.2; omega⟩
    · exact ⟨by omega, by omega⟩
    · exact ⟨by omega, by omega⟩
    · exact ⟨by omega, by omega⟩
    · exact ⟨s.mn.1, by have := s.mn.2; omega⟩) (by simp) (by simp))
  go_enter Tryd.func25, Tryd.ntmps25
  go_wp2_with fail
  refine N1.out.mono ?_
  rintro e w2 ⟨rfl, G2, x2, c2⟩
  have I2 := hide (I1.out.step x2 c2)
  clear x2 c2 N1 I1
  have g0 := blk_cell I2.out.k 0 _ rfl
  go_wp2_with fail
  refine (numbers_any I2.out.x (fun G' w' hc => V0.out.P.bel (I2.out.b.trans (hc.bel I2.out.lo I2.out.b.size))) (fun z hz => (HS.out.ps z hz).1) (by simp [bigL_len]; omega)).mono ?_
  rintro e w3 ⟨rfl, G3, x3, c3⟩
  have I3 := hide (I2.out.step x3 c3)
  clear x3 c3 I2 g0
  have g3 := blk_cell I3.out.k 3 _ rfl
  have g4 := blk_cell I3.out.k 4 _ rfl
  have g6 := blk_cell I3.out.k 6 _ rfl
  obtain ⟨L3, hL3⟩ : ∃ L, L = [(c.P.length : Int), c.M, c.A, (c.C.length : Int), (c.F.length : Int), (c.B.length : Int), c.mn].flatMap (bigL 4) ++ c.P.flatMap (bigL 4) := ⟨_, rfl⟩
  have I3 : Hid (Wst W0 W w3 W.heap.size g G G3 _ L3) := hide (by rw [hL3]; exact I3.out)
  have LL3 : Hid (L3.length ≤ 1000) := hide (by rw [hL3]; simp only [List.length_append, flat4, List.length_cons, List.length_nil]; omega)
  have HL3 := hide hL3
  clear hL3
  have hC := hide (fun i (hi : i < c.C.length) => (by
    obtain ⟨a, cp, e, _, _, h⟩ := V0.out.C
    cases e
    exact h i hi : ∃ b off, aC = some ⟨b, off, none⟩ ∧ b < _ ∧ _))
  have hF := hide (fun i (hi : i < c.F.length) => (by
    obtain ⟨a, cp, e, _, _, h⟩ := V0.out.F
    cases e
    exact h i hi : ∃ b off vl, aF = some ⟨b, off, none⟩ ∧ b < _ ∧ _))
  have hB := hide (fun i (hi : i < c.B.length) => (by
    obtain ⟨a, cp, e, _, _, h⟩ := V0.out.B
    cases e
    exact h i hi : ∃ b off, aB = some ⟨b, off, none⟩ ∧ b < _ ∧ _))
  clear V0
  go_wp2_with fail
  clear g3 g4 g6
  go_loopw [5, 38] (fun u i wr => ∃ (k : Nat) (G1 : Nat → Prop), k ≤ c.C.length ∧ i = .int .i64 k ∧ Hid (Wst W0 W wr W.heap.size g G G1 #[.slice aP c.P.length cP, .int .i64 c.M, .int .i64 c.A, .slice aC c.C.length cC, .slice aF c.F.length cF, .int .i64 c.mn, .slice aB c.B.length cB] (L3 ++ (c.C.take k).flatMap wChan))) (fun u i _ => c.C.length - (intOf i).toNat)
  case atStart => exact ⟨0, G3, Nat.zero_le _, rfl, hide (by simpa using I3.out)⟩
  case round =>
    obtain ⟨k, G1, hk, rfl, X⟩ := hrel
    clear I3
    by_cases hlt : k < c.C.length
    · have h1 : (k : Int) < (c.C.length : Int) := by omega
      obtain ⟨b1, o1, rfl, hbk, f1, f2⟩ := hC.out k hlt
      have q1 := (X.out.b.cell (p := ⟨b1, _, none⟩) hbk).trans f1
      have q2 := (X.out.b.cell (p := ⟨b1, _, none⟩) hbk).trans f2
      have TK := hide (take_flat (l := c.C) (d := z2) (f := wChan) hlt)
      have sc := HS.out.cs _ (getD_mem (d := z2) hlt)
      have LK : Hid ((L3 ++ (c.C.take k).flatMap wChan).length ≤ 2000) := hide (by rw [List.length_append, flatC, List.length_take]; have := LL3.out; omega)
      clear f1 f2 hC hF hB
      generalize c.C.getD k z2 = ch at *
      obtain ⟨t, rm⟩ := ch
      obtain ⟨tn, ht⟩ : ∃ tn : Nat, t = tn := ⟨t.toNat, by have := sc.1.1; simp at this; omega⟩
      obtain ⟨rn, hr⟩ : ∃ rn : Nat, rm = rn := ⟨rm.toNat, by have := sc.2.1; simp at this; omega⟩
      subst ht hr
      have q1' : wr.cell? ⟨b1, o1 + k * 2, none⟩ = some (.int .i64 (tn : Int)) := q1
      have q2' : wr.cell? ⟨b1, o1 + k * 2 + 1, none⟩ = some (.int .i64 (rn : Int)) := q2
      have Xb := hide (X.out.bl (bel_new wr (.cells #[.int .i64 (tn : Int), .int .i64 (rn : Int)] 56)))
      have NL := hide (numbers_lit Xb.out.x (wr.heap.size + 1) (by simp) [(tn : Int), (rn : Int)] (fun z hz => by
        simp at hz
        rcases hz with rfl | rfl
        · exact ⟨by omega, by have := sc.1.2; simp at this; omega⟩
        · exact ⟨by omega, by have := sc.2.2; simp at this; omega⟩) (by simp) (by have := LK.out; omega))
      clear sc q1 q2 X LK
      go_wp2_with fail
      refine NL.out.mono ?_
      rintro e w5 ⟨rfl, G5, x5, c5⟩
      have I5 := hide (Xb.out.step x5 c5)
      clear x5 c5 NL Xb q1' q2'
      go_wp2_with fail
      go_roundw
      case rel => exact ⟨k + 1, G5, by omega, by go_num, hide (by have := I5.out; rw [TK.out]; simpa [wChan, List.append_assoc] using this)⟩
      case measure => simp [intOf]; omega
    · obtain rfl : k = c.C.length := by omega
      rw [List.take_length] at X
      obtain ⟨L4, hL4⟩ : ∃ L, L = L3 ++ c.C.flatMap wChan := ⟨_, rfl⟩
      rw [← hL4] at X
      have LL4 : Hid (L4.length ≤ 2000) := hide (by rw [hL4, List.length_append, flatC]; have := LL3.out; omega)
      have HL4 := hide hL4
      have g4 := blk_cell X.out.k 4 _ rfl
      clear hL4 hC LL3
      go_wp2_with fail
      clear g4
      go_loopw [7, 53] (fun u i wr => ∃ (k : Nat) (G1 : Nat → Prop), k ≤ c.F.length ∧ i = .int .i64 k ∧ Hid (Wst W0 W wr W.heap.size g G G1 #[.slice aP c.P.length cP, .int .i64 c.M, .int .i64 c.A, .slice aC c.C.length cC, .slice aF c.F.length cF, .int .i64 c.mn, .slice aB c.B.length cB] (L4 ++ (c.F.take k).flatMap wFn))) (fun u i _ => c.F.length - (intOf i).toNat)
      case atStart => exact ⟨0, G1, Nat.zero_le _, rfl, hide (by simpa using X.out)⟩
      case round =>
        clear X
        obtain ⟨k, G1, hk, rfl, X⟩ := hrel
        by_cases hlt : k < c.F.length
        · have h1 : (k : Int) < (c.F.length : Int) := by omega
          obtain ⟨b1, o1, vl, rfl, hbk, f1, f2, f3, f4⟩ := hF.out k hlt
          have q1 := (X.out.b.cell (p := ⟨b1, _, none⟩) hbk).trans f1
          have q2 := (X.out.b.cell (p := ⟨b1, _, none⟩) hbk).trans f2
          have q3 := (X.out.b.cell (p := ⟨b1, _, none⟩) hbk).trans f3
          have TK := hide (take_flat (l := c.F) (d := zF) (f := wFn) hlt)
          have sf := hide (HS.out.fs _ (getD_mem (d := zF) hlt))
          have hl32 := HL.out _ (getD_mem (d := zF) hlt)
          have LK : Hid ((L4 ++ (c.F.take k).flatMap wFn).length ≤ 5000) := hide (by
            have h1 := flatF (c.F.take k) (fun f hf => HL.out f (List.mem_of_mem_take hf))
            rw [List.length_take] at h1
            rw [List.length_append]
            have := LL4.out
            omega)
          clear f1 f2 f3 hF hB
          generalize c.F.getD k zF = f at *
          obtain ⟨st, pa, lo⟩ := f
          obtain ⟨al, cl, rfl, _, _⟩ := f4.form
          have F4 := hide f4
          clear f4
          obtain ⟨sn, hs⟩ : ∃ sn : Nat, st = sn := ⟨st.toNat, by have := sf.out.1.1; simp at this; omega⟩
          obtain ⟨pn, hp⟩ : ∃ pn : Nat, pa = pn := ⟨pa.toNat, by have := sf.out.2.1.1; simp at this; omega⟩
          subst hs hp
          have q1' : wr.cell? ⟨b1, o1 + k * 3, none⟩ = some (.int .i64 (sn : Int)) := q1
          have q2' : wr.cell? ⟨b1, o1 + k * 3 + 1, none⟩ = some (.int .i64 (pn : Int)) := q2
          have q3' : wr.cell? ⟨b1, o1 + k * 3 + 2, none⟩ = some (.slice al lo.length cl) := q3
          have hl32' : lo.length ≤ 32 := hl32
          have Xb := hide (X.out.bl (bel_new wr (.cells #[.int .i64 (sn : Int), .int .i64 (pn : Int), .slice al lo.length cl] 47)))
          have KB := hide (show (wr.alloc (.cells #[.int .i64 (sn : Int), .int .i64 (pn : Int), .slice al lo.length cl] 47)).heap[wr.heap.size]? = some (.cells #[.int .i64 (sn : Int), .int .i64 (pn : Int), .slice al lo.length cl] 47 (0, 0)) from Go.Deep.blk_alloc_new _ _)
          have NB : Hid (¬ G1 wr.heap.size) := hide (fun e => absurd (X.out.x.lt e) (by omega))
          have NL := hide (numbers_lit Xb.out.x (wr.heap.size + 1) (by simp) [(sn : Int), (pn : Int), (lo.length : Int)] (fun z hz => by
            simp at hz
            rcases hz with rfl | rfl | rfl
            · exact ⟨by omega, by have := sf.out.1.2; simp at this; omega⟩
            · exact ⟨by omega, by have := sf.out.2.1.2; simp at this; omega⟩
            · exact ⟨by omega, by omega⟩) (by simp) (by have := LK.out; omega))
          clear q1 q2 q3 X hl32
          go_wp2_with fail
          refine NL.out.mono ?_
          rintro e w5 ⟨rfl, G5, x5, c5⟩
          have I5 := hide (Xb.out.step x5 c5)
          have K5 := hide ((c5.blk wr.heap.size (lt_of_blk KB.out) NB.out).trans KB.out)
          have k2 := blk_cell K5.out 2 _ rfl
          clear x5 c5 NL Xb q1' q2' q3' KB NB
          go_wp2_with fail
          clear k2
          refine (numbers_any I5.out.x (fun G' w' hc => F4.out.bel (I5.out.b.trans (hc.bel I5.out.lo I5.out.b.size))) (fun z hz => (sf.out.2.2.2 z hz).1) (by have := LK.out; simp only [List.length_append, flat4, List.length_cons, List.length_nil] at this ⊢; omega)).mono ?_
          rintro e w6 ⟨rfl, G6, x6, c6⟩
          have I6 := hide (I5.out.step x6 c6)
          clear x6 c6 I5 K5
          go_wp2_with fail
          go_roundw
          case rel => exact ⟨k + 1, G6, by omega, by go_num, hide (by have := I6.out; rw [TK.out]; simpa [wFn, List.append_assoc] using this)⟩
          case measure => simp [intOf]; omega
        · obtain rfl : k = c.F.length := by omega
          rw [List.take_length] at X
          obtain ⟨L5, hL5⟩ : ∃ L, L = L4 ++ c.F.flatMap wFn := ⟨_, rfl⟩
          rw [← hL5] at X
          have LL5 : Hid (L5.length ≤ 5000) := hide (by
            have h1 := flatF c.F HL.out
            rw [hL5, List.length_append]
            have := LL4.out
            omega)
          have HL5 := hide hL5
          have g6 := blk_cell X.out.k 6 _ rfl
          clear hL5 hF LL4
          go_wp2_with fail
          clear g6
          go_loopw [9, 75] (fun u i wr => ∃ (k : Nat) (G1 : Nat → Prop), k ≤ c.B.length ∧ i = .int .i64 k ∧ Hid (Wst W0 W wr W.heap.size g G G1 #[.slice aP c.P.length cP, .int .i64 c.M, .int .i64 c.A, .slice aC c.C.length cC, .slice aF c.F.length cF, .int .i64 c.mn, .slice aB c.B.length cB] (L5 ++ (c.B.take k).flatMap wIns))) (fun u i _ => c.B.length - (intOf i).toNat)
          case atStart => exact ⟨0, G1, Nat.zero_le _, rfl, hide (by simpa using X.out)⟩
          case round =>
            clear X
            obtain ⟨k, G1, hk, rfl, X⟩ := hrel
            by_cases hlt : k < c.B.length
            · have h1 : (k : Int) < (c.B.length : Int) := by omega
              obtain ⟨b1, o1, rfl, hbk, f1, f2, f3, f4, f5⟩ := hB.out k hlt
              have q1 := (X.out.b.cell (p := ⟨b1, _, none⟩) hbk).trans f1
              have q2 := (X.out.b.cell (p := ⟨b1, _, none⟩) hbk).trans f2
              have q3 := (X.out.b.cell (p := ⟨b1, _, none⟩) hbk).trans f3
              have q4 := (X.out.b.cell (p := ⟨b1, _, none⟩) hbk).trans f4
              have q5 := (X.out.b.cell (p := ⟨b1, _, none⟩) hbk).trans f5
              have TK := hide (take_flat (l := c.B) (d := zI) (f := wIns) hlt)
              have si := hide (HS.out.bs _ (getD_mem (d := zI) hlt))
              have LK : Hid ((L5 ++ (c.B.take k).flatMap wIns).length ≤ 300000) := hide (by rw [List.length_append, flatI, List.length_take]; have := LL5.out; omega)
              clear f1 f2 f3 f4 f5 hB
              generalize c.B.getD k zI = x at *
              obtain ⟨op, a, b, t, at_⟩ := x
              obtain ⟨on, e1⟩ : ∃ n : Nat, op = n := ⟨op.toNat, by have := si.out.1.1; simp at this; omega⟩
              obtain ⟨an, e2⟩ : ∃ n : Nat, a = n := ⟨a.toNat, by have := si.out.2.1.1; simp at this; omega⟩
              obtain ⟨bn, e3⟩ : ∃ n : Nat, b = n := ⟨b.toNat, by have := si.out.2.2.1.1; simp at this; omega⟩
              obtain ⟨tn, e4⟩ : ∃ n : Nat, t = n := ⟨t.toNat, by have := si.out.2.2.2.1.1; simp at this; omega⟩
              obtain ⟨sn, e5⟩ : ∃ n : Nat, at_ = n := ⟨at_.toNat, by have := si.out.2.2.2.2.1; simp at this; omega⟩
              subst e1 e2 e3 e4 e5
              have q1' : wr.cell? ⟨b1, o1 + k * 5, none⟩ = some (.int .i64 (on : Int)) := q1
              have q2' : wr.cell? ⟨b1, o1 + k * 5 + 1, none⟩ = some (.int .i64 (an : Int)) := q2
              have q3' : wr.cell? ⟨b1, o1 + k * 5 + 2, none⟩ = some (.int .i64 (bn : Int)) := q3
              have q4' : wr.cell? ⟨b1, o1 + k * 5 + 3, none⟩ = some (.int .u64 (tn : Int)) := q4
              have q5' : wr.cell? ⟨b1, o1 + k * 5 + 4, none⟩ = some (.int .i64 (sn : Int)) := q5
              have Xb := hide (X.out.bl (bel_new wr (.cells #[.int .i64 (on : Int), .int .i64 (an : Int), .int .i64 (bn : Int), .int .u64 (tn : Int), .int .i64 (sn : Int)] 50)))
              have NL := hide (winstr_any Xb.out.x on an bn tn sn (by have := si.out.1.2; simp at this; omega) (by have := si.out.2.1.2; simp at this; omega) (by have := si.out.2.2.1.2; simp at this; omega) (by have := si.out.2.2.2.2.2; simp at this; omega) (by have := LK.out; omega))
              clear q1 q2 q3 q4 q5 X LK
              go_wp2_with fail
              refine NL.out.mono ?_
              rintro e w6 ⟨rfl, G6, x6, c6⟩
              have I6 := hide (Xb.out.step x6 c6)
              clear x6 c6 NL Xb q1' q2' q3' q4' q5'
              go_wp2_with fail
              go_roundw
              case rel => exact ⟨k + 1, G6, by omega, by go_num, hide (by have := I6.out; rw [TK.out, ← List.append_assoc]; exact this)⟩
              case measure => simp [intOf]; omega
            · obtain rfl : k = c.B.length := by omega
              rw [List.take_length] at X
              clear hB
              go_wp2_with fail
              go_end0
              refine ⟨rfl, G1, ?_, X.out.c⟩
              have := X.out.x
              rw [HL5.out, HL4.out, HL3.out] at this
              simpa [bytesL, List.append_assoc] using this
end Go.Proofs.YtigfjjolfeenaaaDoor.Ck

/- Package code: Put. (Written by mk_d.py.) -/
namespace Go.Proofs.YtigfjjolfeenaaaDoor.Ck
open Go.RowKit

/-- bytes of a call's own, in a block that was made after w -/
structure SlY (w w' : World) (v : Value) (l : List Int) : Prop where
  own : w'.ownsRow 0 5 1 v l.length (yys l)
  new : ∀ k, v.ownBlock = some k → w.heap.size ≤ k
theorem Wr.start (w : World) : Wr (w.alloc (.cells #[.slice none 0 0] 61)) w.heap.size (fun k => k = w.heap.size) [] :=
  ⟨.slice none 0 0, Go.Deep.blk_alloc_new _ _, ⟨rfl, .inl ⟨rfl, rfl⟩⟩, fun e => (by cases e), fun k => ⟨fun e => .inl e, fun e => e.elim id (fun e => (by cases e))⟩⟩
set_option maxRecDepth 20000 in
set_option maxHeartbeats 4000000 in
theorem put_any {w : World} {p : List Addr} {vP vC vF vB : Value} {c : Cd} (hc : Ec w p) (h : Cv w vP vC vF vB c) : Calls Tryd.prog 9 #[codeA vP vC vF vB c] w fun e w' =>
    (formB c = false ∧ e = .returned (.tuple #[.slice none 0 0, errV p 8]) ∨ formB c = true ∧ ∃ v, e = .returned (.tuple #[v, .nilIface]) ∧ SlY w w' v (bytesL c)) ∧ Below w.heap.size w w' := by
  have B0 := hide (bel_new w (codeO vP vC vF vB c))
  have K0 := hide (show (w.alloc (codeO vP vC vF vB c)).heap[w.heap.size]? = some (.cells #[vP, .int .i64 c.M, .int .i64 c.A, vC, vF, .int .i64 c.mn, vB] 27 (0, 0)) from Go.Deep.blk_alloc_new _ _)
  have CK := hide (check_any (hc.bel B0.out) (h.bel B0.out))
  have V0 := hide h
  obtain ⟨g0, g1, g2, g3, g4, g5, g6⟩ := cells7 K0.out
  obtain ⟨aP, cP, eP, _, hmP⟩ := h.P.form
  obtain ⟨aC, cC, eC, _, hmC⟩ := h.C.form
  obtain ⟨aF, cF, eF, _, hmF⟩ := h.F.form
  obtain ⟨aB, cB, eB, _, hmB⟩ := h.B.form
  subst eP eC eF eB
  clear h hc hmP hmC hmF hmB g0 g1 g2 g3 g4 g5 g6
  unfold codeA codeO at *
  go_enter Tryd.func9, Tryd.ntmps9
  go_wp2_with fail
  refine CK.out.mono ?_
  rintro e w2 ⟨rfl, b2⟩
  have B2 := hide (bel_trans B0.out b2)
  have K2 := hide ((b2.block _ (lt_of_blk K0.out)).trans K0.out)
  clear b2 CK K0
  cases hf : formB c with
  | false =>
    rw [show erK p false = .iface 119 (.pointer (some (adr p 8))) from rfl]
    go_wp2_with fail
    go_ret2
    exact ⟨.inl ⟨hf, rfl⟩, B2.out⟩
  | true =>
    rw [show erK p true = .nilIface from rfl]
    have B3 := hide (bel_trans B2.out (bel_new w2 (.cells #[.slice none 0 0] 61)))
    have K3 := hide (((bel_new w2 (.cells #[.slice none 0 0] 61)).block _ (lt_of_blk K2.out)).trans K2.out)
    have WC := hide (wcode_any (Wr.start w2) V0.out B3.out (fun k hk => by rw [hk]; exact B2.out.size) hf)
    obtain ⟨g0, g1, g2, g3, g4, g5, g6⟩ := cells7 K3.out
    have HF := hide hf
    clear hf
    unfold codeA at WC
    go_wp2_with fail
    refine WC.out.mono ?_
    rintro e w4 ⟨rfl, G4, x4, c4⟩
    have B4 := hide (B3.out.trans (c4.bel (B := w.heap.size) (fun k hk => by rw [hk]; exact B2.out.size) B3.out.size))
    have N4 : Hid (∀ k, G4 k → w.heap.size ≤ k) := hide (c4.low (fun k hk => by rw [hk]; exact B2.out.size) B3.out.size)
    clear c4 WC g0 g1 g2 g3 g4 g5 g6 K3
    obtain ⟨v4, y4⟩ := x4
    obtain ⟨a4, k4, e4, _⟩ := own_slice y4.own
    have c0 := blk_cell y4.at_ 0 _ rfl
    have Y4 := hide y4
    clear y4
    subst e4
    go_wp2_with fail
    go_ret2
    exact ⟨.inr ⟨HF.out, _, rfl, Y4.out.own, fun k hk => N4.out k ((Y4.out.gg k).2 (.inr hk))⟩, B4.out⟩
end Go.Proofs.YtigfjjolfeenaaaDoor.Ck

/- Bytes of a call's own: more of them, pieces of them; how many a code has; no Go text is walked here. -/
namespace Go.Proofs.YtigfjjolfeenaaaDoor.Ck
open Go.RowKit

theorem yys_app (l m : List Int) : yys (l ++ m) = yys l ++ yys m := by simp [yys]
theorem yys_at (l : List Int) (i : Nat) (hi : i < l.length) : (yys l)[i]? = some (.int .u8 (l.getD i 0)) := by
  simp [yys, hi, List.getD]
/-- bytes behind bytes of one's own -/
theorem pushM {w : World} {B : Nat} {v : Value} {l m : List Int} {n k gx cx : Nat} (hn : n = l.length) (hk : k = m.length) (hl : n + k ≤ 10000000) (ho : w.ownsRow B 5 1 v n (yys l)) (hx : ∀ j, j < k → w.cell? ⟨gx, j, none⟩ = some (.int .u8 (m.getD j 0))) (hB : B ≤ w.heap.size) (ty : TypeId) :
    ∃ v' w', (Builtin.append_ #[33, 33] ty #[v, .slice (some ⟨gx, 0, none⟩) k cx]).run Tryd.prog w = .ok v' w' ∧ ((∃ a c, v' = .slice a (n + k) c) ∧ w'.ownsRow B 5 1 v' (n + k) (yys (l ++ m)) ∧ w.grownBy w' v.ownBlock) := by
  obtain ⟨ie, hi, hz0, hz1, hz2⟩ := info_parts info_u8
  have hc : ∀ (j : Nat) (u : Value), (yys m)[j]? = some u → w.cell? ((⟨gx, 0, none⟩ : Addr).add j) = some u := fun j u hu => by
    have hj : j < m.length := by
      have := (List.getElem?_eq_some_iff.1 hu).1
      simpa [yys] using this
    rw [yys_at m j hj] at hu
    rw [show (Addr.mk gx 0 none).add j = ⟨gx, j, none⟩ by unfold Addr.add; by_cases h : j = 0 <;> simp [h], hx j (by omega)]
    exact hu
  obtain ⟨v', w', hr, ho', hg, _⟩ := run_append_own (P := Tryd.prog) w B 33 ty 5 ie _ 1 1 Tryd.underlying33 hi hz0 hz1 hz2 rfl (by decide) v n (yys l) ho ⟨gx, 0, none⟩ k cx (yys m) (by simp [yys, hk]) hc (fun u hu => by
    obtain ⟨x, _, rfl⟩ := List.mem_map.1 (show u ∈ m.map (Value.int .u8) from hu)
    rfl) (by unfold maxLen; omega) (by omega) hB
  obtain ⟨a9, c9, e9, _⟩ := own_slice ho'
  exact ⟨v', w', hr, ⟨a9, c9, e9⟩, by rw [yys_app]; exact ho', hg⟩
theorem own_none {w : World} {B k : Nat} {T : TypeId} {sz : Nat} (hk : w.heap[k]? = some (.cells #[] T (0, 0))) (hBk : B ≤ k) : w.ownsRow B T sz (.slice (some ⟨k, 0, none⟩) 0 0) 0 [] :=
  ⟨by simp, .inr ⟨k, 0, #[], rfl, hBk, hk, Nat.le_refl _, by unfold maxLen; omega, by simp, by simp⟩⟩
/-- an append of bytes to none: a copy -/
theorem pushM0 {w : World} {B : Nat} {m : List Int} {k gx cx b : Nat} (hk : k = m.length) (hl : k ≤ 10000000) (hb : w.heap[b]? = some (.cells #[] 5 (0, 0))) (hBb : B ≤ b) (hx : ∀ j, j < k → w.cell? ⟨gx, j, none⟩ = some (.int .u8 (m.getD j 0))) (hB : B ≤ w.heap.size) (ty : TypeId) :
    ∃ v' w', (Builtin.append_ #[33, 33] ty #[.slice (some ⟨b, 0, none⟩) 0 0, .slice (some ⟨gx, 0, none⟩) k cx]).run Tryd.prog w = .ok v' w' ∧ ((∃ a c, v' = .slice a k c) ∧ w'.ownsRow B 5 1 v' k (yys m) ∧ w.grownBy w' (some b)) := by
  have := pushM (l := []) (m := m) (n := 0) rfl hk (by omega) (own_none (sz := 1) hb hBb) hx hB ty (cx := cx)
  rw [Nat.zero_add, List.nil_append] at this
  exact this
theorem Below.grown {w w' : World} {B : Nat} {b : Option Nat} (h : w.grownBy w' b) (hb : ∀ k, b = some k → B ≤ k) (hB : B ≤ w.heap.size) : Below B w w' := ⟨h.os, h.tape, h.output, h.size, fun k hk => h.block k (by omega) (fun e => by have := hb k e.symm; omega)⟩
theorem Ys.of_own {w : World} {B : Nat} {v : Value} {l : List Int} (h : w.ownsRow B 5 1 v l.length (yys l)) : Ys w v l := by
  rcases own_cells h with ⟨rfl, h0⟩ | ⟨g, cap, rfl, h1, h2, h3, h4⟩
  · have : l = [] := List.length_eq_zero_iff.1 h0
    subst this
    exact ⟨none, 0, rfl, Nat.le_refl _, Nat.zero_le _, fun i hi => absurd hi (Nat.not_lt_zero _)⟩
  · exact ⟨_, cap, rfl, h1, h2, fun i hi => ⟨g, 0, rfl, h3, Nat.ne_of_lt h3, by rw [Nat.zero_add]; exact h4 i _ (by omega) (yys_at l i hi)⟩⟩
theorem Ys.take {w : World} {a : Option Addr} {n cap k : Nat} {l : List Int} (h : Ys w (.slice a n cap) l) (hk : k ≤ l.length) : Ys w (.slice a k cap) (l.take k) := by
  obtain ⟨a', cap', e, h1, h2, h3⟩ := h
  cases e
  refine ⟨_, _, by rw [List.length_take, Nat.min_eq_left hk], by rw [List.length_take]; omega, h2, fun i hi => ?_⟩
  rw [List.length_take] at hi
  obtain ⟨b, off, ea, hb, hn, hc⟩ := h3 i (by omega)
  refine ⟨b, off, ea, hb, hn, ?_⟩
  rw [hc, List.getD_eq_getElem?_getD, List.getD_eq_getElem?_getD, List.getElem?_take_of_lt (by omega)]
theorem flat_len {α β : Type} (f : α → List β) (n : Nat) : ∀ (l : List α), (∀ x ∈ l, (f x).length ≤ n) → (l.flatMap f).length ≤ l.length * n
  | [], _ => by simp
  | x :: l, h => by
    have ih := flat_len f n l (fun y hy => h y (List.mem_cons_of_mem _ hy))
    have h1 := h x (List.mem_cons_self ..)
    rw [List.flatMap_cons, List.length_append, List.length_cons, Nat.add_mul, Nat.one_mul]
    omega
theorem bytes_len {c : Cd} (hf : formB c = true) : 28 ≤ (bytesL c).length ∧ (bytesL c).length ≤ 300000 := by
  simp only [formB, fnB, Bool.and_eq_true, decide_eq_true_eq, List.all_eq_true] at hf
  obtain ⟨⟨⟨⟨⟨⟨⟨hP, hM⟩, hA⟩, hS⟩, hF⟩, hB⟩, hm⟩, ⟨⟨⟨_, _⟩, kF⟩, _⟩, _⟩ := hf
  have l1 := flat_len (bigL 4) 4 c.P (fun x _ => by rw [bigL_len]; exact Nat.le_refl _)
  have l2 := flat_len wChan 8 c.C (fun x _ => by simp [wChan, bigL_len])
  have l3 := flat_len wFn 140 c.F (fun f hf => by
    have h1 := flat_len (bigL 4) 4 f.lo (fun x _ => by rw [bigL_len]; exact Nat.le_refl _)
    have := (kF f hf).2.2.2.2.1
    simp only [wFn, List.length_append, bigL_len]
    omega)
  have l4 := flat_len wIns 25 c.B (fun x _ => by simp [wIns, bigL_len])
  simp only [bytesL, List.length_append, bigL_len]
  omega
theorem Byt.app {l m : List Int} (h1 : Byt l) (h2 : Byt m) : Byt (l ++ m) := fun b hb => (List.mem_append.1 hb).elim (h1 b) (h2 b)
theorem Byt.flat {α : Type} {f : α → List Int} {l : List α} (h : ∀ x, Byt (f x)) : Byt (l.flatMap f) := fun b hb => by
  obtain ⟨x, _, hx⟩ := List.mem_flatMap.1 hb
  exact h x b hx
theorem bytes_byt (c : Cd) : Byt (bytesL c) :=
  (bigL_byt _ _).app ((bigL_byt _ _).app ((bigL_byt _ _).app ((bigL_byt _ _).app ((bigL_byt _ _).app ((bigL_byt _ _).app ((bigL_byt _ _).app ((Byt.flat (fun _ => bigL_byt _ _)).app ((Byt.flat (fun _ => (bigL_byt _ _).app (bigL_byt _ _))).app ((Byt.flat (fun _ => (bigL_byt _ _).app ((bigL_byt _ _).app ((bigL_byt _ _).app (Byt.flat (fun _ => bigL_byt _ _)))))).app (Byt.flat (fun _ => (bigL_byt _ _).app ((bigL_byt _ _).app ((bigL_byt _ _).app ((bigL_byt _ _).app (bigL_byt _ _)))))))))))))))
theorem Cl.inw {c : Cd} (h : Cl c) : ∀ x ∈ c.B, InW x := fun x hx => (h.I x hx).1
end Go.Proofs.YtigfjjolfeenaaaDoor.Ck

/- Slices of bytes, by the list that they hold; make and append on those that the call itself made; as strings; the statements' own Bytes and Kept. (Written by mk_k.py.) -/
namespace Go.Proofs.YtigfjjolfeenaaaDoor.Ck
open Go.RowKit

def Blk (w : World) (g : Nat) (t : TypeId) (cs : List Value) : Prop := w.heap[g]? = some (.cells cs.toArray t (0, 0))
theorem bel_tn {g : Nat} {w w1 w2 : World} (h : Below w.heap.size w w1) (k : Tn g w1 w2) (hg : w.heap.size ≤ g) : Below w.heap.size w w2 := h.trans (k.bel hg h.size)
theorem Blk.lt {w : World} {g : Nat} {t : TypeId} {cs : List Value} (h : Blk w g t cs) : g < w.heap.size := (Array.getElem?_eq_some_iff.1 h).1
theorem Blk.tn {w w' : World} {g k : Nat} {t : TypeId} {cs : List Value} (h : Blk w k t cs) (ht : Tn g w w') (hk : k ≠ g) : Blk w' k t cs := (ht.blk k h.lt hk).trans h
theorem Blk.bel {w w' : World} {k : Nat} {t : TypeId} {cs : List Value} (h : Blk w k t cs) (hb : Below w.heap.size w w') : Blk w' k t cs := (hb.block k h.lt).trans h
theorem Blk.cell {w : World} {g : Nat} {t : TypeId} {cs : List Value} (h : Blk w g t cs) (i : Nat) : w.cell? ⟨g, i, none⟩ = cs[i]? := by
  rw [cell_of_row w g i _ t _ h]; simp
theorem Blk.frozen {w : World} {g : Nat} {t : TypeId} {cs : List Value} (h : Blk w g t cs) (i : Nat) : w.frozen? ⟨g, i, none⟩ = false := frozen_of_row w g i _ t h
theorem Blk.new (w : World) (cs : List Value) (t : TypeId) : Blk (w.alloc (.cells cs.toArray t)) w.heap.size t cs := Go.Deep.blk_alloc_new _ _
theorem wpList_val {P : Program} {w : World} {ops : Array Oper} {rest : List Oper} {o : Oper} {a : Act} {Q : Exit → Act → World → Prop} (hgd : o.guard = none) (v : Value) (w1 : World)
    (hrun : (execOp a.eval o).run P w = .ok (.value v) w1) (h : wpList P ops Q rest (a.put o.dst v) w1) : wpList P ops Q (o :: rest) a w :=
  wpList_plain hgd fun _ hK => by
    unfold Oper.wp
    rw [hrun]
    exact hK _ _ h
theorem Tn.cell {g : Nat} {w w' : World} (h : Tn g w w') (x : Addr) (h1 : x.block < w.heap.size) (h2 : x.block ≠ g) : w'.cell? x = w.cell? x := by
  simp only [World.cell?, h.blk x.block h1 h2]
theorem Tn.frozen {g : Nat} {w w' : World} (h : Tn g w w') (x : Addr) (h1 : x.block < w.heap.size) (h2 : x.block ≠ g) : w'.frozen? x = w.frozen? x := by
  simp only [World.frozen?, h.blk x.block h1 h2]
def bv (B : List Int) : List Value := B.map (Value.int .u8)
theorem bv_len (B : List Int) : (bv B).length = B.length := by simp [bv]
theorem bv_one (B : List Int) : ∀ v ∈ bv B, v.oneCell' = true := fun u hu => by obtain ⟨z, _, rfl⟩ := List.mem_map.1 hu; rfl
theorem bv_at (B : List Int) (i : Nat) (h : i < B.length) : (bv B)[i]? = some (.int .u8 (B.getD i 0)) := by simp [bv, List.getD, h]


/-- a slice value that holds the list zs in the world w -/
def SB (w : World) (v : Value) (zs : List Int) : Prop :=
  Byt zs ∧ ∃ a cap, v = .slice a zs.length cap ∧ zs.length ≤ cap ∧ cap ≤ maxLen ∧
    ∀ i, i < zs.length → ∃ b off, a = some ⟨b, off, none⟩ ∧ b < w.heap.size ∧ w.cell? ⟨b, off + i, none⟩ = some (.int .u8 (zs.getD i 0))

theorem SB.below {w w' : World} {v : Value} {zs : List Int} (h : SB w v zs) {B : Nat} (hB : w.heap.size ≤ B) (hb : Below B w w') : SB w' v zs := by
  obtain ⟨hf, a, cap, hv, h1, h2, h3⟩ := h
  refine ⟨hf, a, cap, hv, h1, h2, fun i hi => ?_⟩
  obtain ⟨b, off, ha, hlt, hc⟩ := h3 i hi
  exact ⟨b, off, ha, Nat.lt_of_lt_of_le hlt hb.size, by rw [hb.cell (p := ⟨b, off + i, none⟩) (Nat.lt_of_lt_of_le hlt hB)]; exact hc⟩
theorem SB.bel {w w' : World} {v : Value} {zs : List Int} (h : SB w v zs) (hb : Below w.heap.size w w') : SB w' v zs := h.below (Nat.le_refl _) hb
/-- the slice doesn't lie in block g -/
def OffB (g : Nat) (v : Value) : Prop := ∀ a n c, v = .slice (some a) n c → 0 < n → a.block ≠ g
theorem SB.tn {g : Nat} {w w' : World} {v : Value} {zs : List Int} (h : SB w v zs) (ho : OffB g v) (ht : Tn g w w') : SB w' v zs := by
  obtain ⟨hf, a, cap, hv, h1, h2, h3⟩ := h
  refine ⟨hf, a, cap, hv, h1, h2, fun i hi => ?_⟩
  obtain ⟨b, off, ha, hlt, hc⟩ := h3 i hi
  exact ⟨b, off, ha, Nat.lt_of_lt_of_le hlt ht.size, (ht.cell ⟨b, off + i, none⟩ hlt (ho ⟨b, off, none⟩ _ _ (by rw [hv, ha]) (by omega))).trans hc⟩
theorem SB.lt {w : World} {v : Value} {zs : List Int} (h : SB w v zs) : ∀ a n c, v = .slice (some a) n c → 0 < n → a.block < w.heap.size := by
  intro a n c e hn
  obtain ⟨_, a', c', hv, _, _, hc⟩ := h
  rw [e] at hv
  cases hv
  obtain ⟨b, off, ha, hlt, _⟩ := hc 0 hn
  cases ha
  exact hlt
theorem SB.off {w : World} {v : Value} {zs : List Int} (h : SB w v zs) {g : Nat} (hg : w.heap.size ≤ g) : OffB g v := fun a n c e hn => by
  have := h.lt a n c e hn
  omega
theorem SB.nilS (w : World) : SB w (.slice none 0 0) [] :=
  ⟨fun _ h => (by cases h), none, 0, rfl, Nat.le_refl _, Nat.zero_le _, fun _ h => absurd h (Nat.not_lt_zero _)⟩
theorem SB.fits {w : World} {v : Value} {zs : List Int} (h : SB w v zs) : Byt zs := h.1
theorem SB.len {W : World} {a : Option Addr} {len cap : Nat} {zs : List Int} (h : SB W (.slice a len cap) zs) : len = zs.length := by
  obtain ⟨_, a', c', e, _⟩ := h
  cases e
  rfl
theorem SB.cap {W : World} {a : Option Addr} {len cap : Nat} {zs : List Int} (h : SB W (.slice a len cap) zs) : len ≤ cap ∧ cap ≤ maxLen := by
  obtain ⟨_, a', c', e, h1, h2, _⟩ := h
  cases e
  exact ⟨h1, h2⟩
theorem SB.form {w : World} {v : Value} {zs : List Int} (h : SB w v zs) : ∃ a c, v = .slice a zs.length c ∧ zs.length ≤ c ∧ c ≤ maxLen := by
  obtain ⟨_, a, c, rfl, h1, h2, _⟩ := h
  exact ⟨_, _, rfl, h1, h2⟩
theorem SB.at {w : World} {a : Option Addr} {n c : Nat} {zs : List Int} (h : SB w (.slice a n c) zs) (i : Nat) (hi : i < n) :
    ∃ b off, a = some ⟨b, off, none⟩ ∧ b < w.heap.size ∧ w.cell? ⟨b, off + i, none⟩ = some (.int .u8 (zs.getD i 0)) := by
  obtain ⟨_, a', c', e, _, _, hc⟩ := h
  cases e
  exact hc i hi
theorem SB.of_blk {w : World} {b : Nat} {t : TypeId} {zs : List Int} (h : Blk w b t (bv zs)) (hm : zs.length ≤ maxLen) (hf : Byt zs) : SB w (.slice (some ⟨b, 0, none⟩) zs.length zs.length) zs :=
  ⟨hf, _, _, rfl, Nat.le_refl _, hm, fun i hi => ⟨b, 0, rfl, h.lt, by rw [Nat.zero_add, h.cell, bv_at _ _ hi]⟩⟩

theorem infoB : (Tryd.prog.info? 5).map (fun i => (i.zero, i.size, i.bytes)) = some (some (.int .u8 0), 1, 1) := by kernel_rfl
theorem szB : (Tryd.prog.info? 5).map (·.size) = some 1 := by kernel_rfl
theorem bv_app (zs ms : List Int) : bv zs ++ bv ms = bv (zs ++ ms) := by simp [bv]
theorem bv_get (zs : List Int) (j : Nat) (u : Value) (h : (bv zs)[j]? = some u) : j < zs.length ∧ u = .int .u8 (zs.getD j 0) := by
  unfold bv at h
  rw [List.getElem?_map] at h
  cases hz : zs[j]? with
  | none => rw [hz] at h; cases h
  | some z =>
    rw [hz] at h
    have hl : j < zs.length := (List.getElem?_eq_some_iff.1 hz).1
    cases h
    exact ⟨hl, by simp [List.getD, hz]⟩

/-- the slice of block g, of the call's own, with room for cap, holds zs -/
def OwnY (w : World) (B g cap : Nat) (zs : List Int) : Prop := w.ownsRow B 5 1 (.slice (some ⟨g, 0, none⟩) zs.length cap) zs.length (bv zs)

theorem OwnY.parts {w : World} {B g cap : Nat} {zs : List Int} (h : OwnY w B g cap zs) :
    ∃ cur : Array Value, B ≤ g ∧ w.heap[g]? = some (.cells cur 5 (0, 0)) ∧ zs.length ≤ cap ∧ cap ≤ maxLen ∧ cur.size = cap ∧ cur.toList.take zs.length = bv zs := by
  rcases h.2 with ⟨h, _⟩ | ⟨g', cap', cur, h, hbg, hg, hnc, hcm, hcs, htake⟩
  · simp at h
  · simp only [Value.slice.injEq, Option.some.injEq, Addr.mk.injEq, and_true, true_and] at h
    obtain ⟨rfl, rfl⟩ := h
    exact ⟨cur, hbg, hg, hnc, hcm, by simpa using hcs, by simpa using htake⟩
theorem OwnY.mk {w : World} {B g cap : Nat} {zs : List Int} (cur : Array Value) (h1 : B ≤ g) (h2 : w.heap[g]? = some (.cells cur 5 (0, 0))) (h3 : zs.length ≤ cap) (h4 : cap ≤ maxLen) (h5 : cur.size = cap) (h6 : cur.toList.take zs.length = bv zs) : OwnY w B g cap zs :=
  ⟨by rw [bv_len]; simp, .inr ⟨g, cap, cur, rfl, h1, h2, h3, h4, by simpa using h5, by simpa using h6⟩⟩
theorem OwnY.ge {w : World} {B g cap : Nat} {zs : List Int} (h : OwnY w B g cap zs) : B ≤ g := by obtain ⟨_, h1, _⟩ := h.parts; exact h1
theorem OwnY.lt {w : World} {B g cap : Nat} {zs : List Int} (h : OwnY w B g cap zs) : g < w.heap.size := by obtain ⟨_, _, h1, _⟩ := h.parts; exact (Array.getElem?_eq_some_iff.1 h1).1
theorem OwnY.cell {w : World} {B g cap : Nat} {zs : List Int} (h : OwnY w B g cap zs) (i : Nat) (hi : i < zs.length) : w.cell? ⟨g, i, none⟩ = some (.int .u8 (zs.getD i 0)) := by
  obtain ⟨cur, _, hg, hnc, _, hcs, ht⟩ := h.parts
  have e : (cur.toList.take zs.length)[i]? = (bv zs)[i]? := by rw [ht]
  rw [List.getElem?_take_of_lt hi, bv_at zs i hi] at e
  simp only [World.cell?, hg]
  rw [← Array.getElem?_toList]
  exact e
theorem OwnY.sl {w : World} {B g cap : Nat} {zs : List Int} (h : OwnY w B g cap zs) (hf : Byt zs) : SB w (.slice (some ⟨g, 0, none⟩) zs.length cap) zs := by
  obtain ⟨cur, _, hg, hnc, hcm, hcs, ht⟩ := h.parts
  exact ⟨hf, _, _, rfl, hnc, hcm, fun i hi => ⟨g, 0, rfl, (Array.getElem?_eq_some_iff.1 hg).1, by rw [Nat.zero_add]; exact h.cell i hi⟩⟩
theorem OwnY.below {w w' : World} {B g cap : Nat} {zs : List Int} (h : OwnY w B g cap zs) (hb : Below w.heap.size w w') : OwnY w' B g cap zs := by
  obtain ⟨cur, h1, hg, h3, h4, h5, h6⟩ := h.parts
  exact OwnY.mk cur h1 ((hb.block g (Array.getElem?_eq_some_iff.1 hg).1).trans hg) h3 h4 h5 h6
theorem OwnY.tn {w w' : World} {B g cap x : Nat} {zs : List Int} (h : OwnY w B g cap zs) (hb : Tn x w w') (hx : g ≠ x) : OwnY w' B g cap zs := by
  obtain ⟨cur, h1, hg, h3, h4, h5, h6⟩ := h.parts
  exact OwnY.mk cur h1 ((hb.blk g (Array.getElem?_eq_some_iff.1 hg).1 hx).trans hg) h3 h4 h5 h6
theorem OwnY.down {w : World} {B B' g cap : Nat} {zs : List Int} (h : OwnY w B g cap zs) (hB : B' ≤ B) : OwnY w B' g cap zs := by
  obtain ⟨cur, h1, hg, h3, h4, h5, h6⟩ := h.parts
  exact OwnY.mk cur (Nat.le_trans hB h1) hg h3 h4 h5 h6
theorem OwnY.alloc {w : World} {B g cap : Nat} {zs : List Int} (h : OwnY w B g cap zs) (o : Obj) : OwnY (w.alloc o) B g cap zs := h.below (bel_new w o)
theorem OwnY.made (w : World) (c : Nat) (hc : c ≤ 1000000) : OwnY (w.alloc (.cells (madeCells #[.int .u8 0] c) 5)) w.heap.size w.heap.size c [] :=
  OwnY.mk _ (Nat.le_refl _) (Go.Deep.blk_alloc_new _ _) (Nat.zero_le _) (by unfold maxLen; omega) (by simp [madeCells]) (by simp [bv])
theorem OwnY.empty (w : World) : OwnY (w.alloc (.cells #[] 5)) w.heap.size w.heap.size 0 [] :=
  OwnY.mk _ (Nat.le_refl _) (Go.Deep.blk_alloc_new _ _) (Nat.zero_le _) (by unfold maxLen; omega) (by simp) (by simp [bv])
theorem OwnY.ofL (w : World) (zs : List Int) (hz : zs.length ≤ 1000000) : OwnY (w.alloc (.cells (bv zs).toArray 5)) w.heap.size w.heap.size zs.length zs :=
  OwnY.mk _ (Nat.le_refl _) (Go.Deep.blk_alloc_new _ _) (Nat.le_refl _) (by unfold maxLen; omega) (by simp [bv_len]) (by simp [← bv_len zs])

theorem app_srcB {w : World} {vx : Value} {ms : List Int} (h : SB w vx ms) :
    (∃ ad c, vx = .slice (some ad) ms.length c ∧ ∀ j u, (bv ms)[j]? = some u → w.cell? (ad.add j) = some u) ∨ (∃ c, vx = .slice none 0 c ∧ ms = []) := by
  obtain ⟨_, a, c, rfl, _, _, hc⟩ := h
  cases a with
  | none =>
    right
    cases ms with
    | nil => exact ⟨c, rfl, rfl⟩
    | cons m ms => obtain ⟨b, off, e, _⟩ := hc 0 (by simp); cases e
  | some ad =>
    left
    refine ⟨ad, c, rfl, fun j u hu => ?_⟩
    obtain ⟨hj, rfl⟩ := bv_get ms j u hu
    obtain ⟨b, off, e, _, hcell⟩ := hc j hj
    cases e
    have e2 : (Addr.mk b off none).add j = ⟨b, off + j, none⟩ := by unfold Addr.add; by_cases h : j = 0 <;> simp [h]
    rw [e2]
    exact hcell

theorem app_fitsB {w : World} {B g cap : Nat} {zs ms : List Int} {vx : Value} (ty : TypeId) (h : OwnY w B g cap zs) (hx : SB w vx ms) (hroom : zs.length + ms.length ≤ cap) :
    ∃ w', (Builtin.append_ #[33, 33] ty #[.slice (some ⟨g, 0, none⟩) zs.length cap, vx]).run Tryd.prog w = .ok (.slice (some ⟨g, 0, none⟩) (zs.length + ms.length) cap) w' ∧ OwnY w' B g cap (zs ++ ms) ∧ w.grownBy w' (some g) := by
  obtain ⟨i, hi, hz0, hz1, hz2⟩ := info_parts infoB
  rcases app_srcB hx with ⟨ad, c, rfl, hnews⟩ | ⟨c, rfl, rfl⟩
  · obtain ⟨w', hr, ho, hg⟩ := run_append_fits (P := Tryd.prog) w B 33 ty 5 i 1 Tryd.underlying33 hi hz1 g zs.length cap (bv zs) h ad ms.length c (bv ms) (by rw [bv_len]; simp) hnews (bv_one ms) hroom
    refine ⟨w', hr, ?_, hg⟩
    unfold OwnY
    rw [List.length_append, ← bv_app]
    exact ho
  · have hs := Src.ofNil (P := Tryd.prog) w (size := i.size) Tryd.underlying33 c
    have hr := run_append_room_src (P := Tryd.prog) w 33 33 ty 5 i Tryd.underlying33 hi g 0 zs.length cap (.slice none 0 c) 0 [] hs hroom (fun j hj => absurd hj (Nat.not_lt_zero _)) (fun j hj => absurd hj (Nat.not_lt_zero _))
    refine ⟨w, hr, by rw [List.append_nil]; exact h, ⟨rfl, rfl, rfl, Nat.le_refl _, fun _ _ _ => rfl⟩⟩

theorem app_ownB {w : World} {B g cap : Nat} {zs ms : List Int} {vx : Value} (ty : TypeId) (h : OwnY w B g cap zs) (hx : SB w vx ms) (hlen : zs.length + ms.length ≤ 2000000) (hB : B ≤ w.heap.size) :
    ∃ v' w', (Builtin.append_ #[33, 33] ty #[.slice (some ⟨g, 0, none⟩) zs.length cap, vx]).run Tryd.prog w = .ok v' w' ∧ (∃ g' cap', v' = .slice (some ⟨g', 0, none⟩) (zs ++ ms).length cap' ∧ OwnY w' B g' cap' (zs ++ ms)) ∧ w.grownBy w' (some g) := by
  obtain ⟨i, hi, hz0, hz1, hz2⟩ := info_parts infoB
  rcases app_srcB hx with ⟨ad, c, rfl, hnews⟩ | ⟨c, rfl, rfl⟩
  · obtain ⟨v', w', hr, ho, hg, hn⟩ := run_append_own (P := Tryd.prog) w B 33 ty 5 i (.int .u8 0) 1 1 Tryd.underlying33 hi hz0 hz1 hz2 rfl (by decide) _ zs.length (bv zs) h ad ms.length c (bv ms) (by rw [bv_len]; simp) hnews (bv_one ms) (by unfold maxLen; omega) (by omega) hB
    refine ⟨v', w', hr, ?_, hg⟩
    have ho2 := ho
    rcases ho.2 with ⟨h1, _⟩ | ⟨g', cap', cur, h1, _⟩
    · have := hn.1 h1
      simp at this
    · refine ⟨g', cap', by rw [h1, List.length_append], ?_⟩
      unfold OwnY
      rw [List.length_append, ← bv_app]
      rw [h1] at ho2
      exact ho2
  · obtain ⟨_, _, _, hnc, _⟩ := h.parts
    obtain ⟨w', hr, ho, hg⟩ := app_fitsB (ms := []) ty h hx (by simpa using hnc)
    exact ⟨_, w', hr, ⟨g, cap, by simp, ho⟩, hg⟩

/-- what an append on a slice of one's own leaves: it, and the rest of the world -/
theorem app_tnB {w : World} {B g cap : Nat} {zs ms : List Int} {vx : Value} (ty : TypeId) (h : OwnY w B g cap zs) (hx : SB w vx ms) (hlen : zs.length + ms.length ≤ 2000000) (hB : B ≤ w.heap.size) :
    ∃ v' w', (Builtin.append_ #[33, 33] ty #[.slice (some ⟨g, 0, none⟩) zs.length cap, vx]).run Tryd.prog w = .ok v' w' ∧ (∃ g' cap', v' = .slice (some ⟨g', 0, none⟩) (zs.length + ms.length) cap' ∧ OwnY w' B g' cap' (zs ++ ms)) ∧ Tn g w w' := by
  obtain ⟨v', w', h1, ⟨g', cap', h2, h3⟩, h4⟩ := app_ownB ty h hx hlen hB
  exact ⟨v', w', h1, ⟨g', cap', by rw [h2, List.length_append], h3⟩, h4.1, h4.2, h4.3, h4.4, fun k hk hg => h4.5 k hk (by simpa using hg)⟩

theorem one_builtB (w : World) (x : Int) (hx : Byt [x]) : SB (w.alloc (.cells #[.int .u8 x] 5)) (.slice (some ⟨w.heap.size, 0, none⟩) 1 1) [x] :=
  SB.of_blk (zs := [x]) (Blk.new w (bv [x]) 5) (by simp [maxLen]) hx
/-- one more, where there is room -/
theorem push_fitsB {w : World} {B g cap n : Nat} {zs : List Int} {x : Int} (ty : TypeId) (h : OwnY w B g cap zs) (hn : n = zs.length) (hx : Byt [x]) (hroom : n + 1 ≤ cap) :
    ∃ v' w', (Builtin.append_ #[33, 33] ty #[.slice (some ⟨g, 0, none⟩) n cap, .slice (some ⟨w.heap.size, 0, none⟩) 1 1]).run Tryd.prog (w.alloc (.cells #[.int .u8 x] 5)) = .ok v' w' ∧
      (v' = .slice (some ⟨g, 0, none⟩) (n + 1) cap ∧ OwnY w' B g cap (zs ++ [x]) ∧ Tn g w w') := by
  subst hn
  obtain ⟨w', h1, h2, h3⟩ := app_fitsB ty (h.alloc _) (one_builtB w x hx) (by simpa using hroom)
  exact ⟨_, w', h1, rfl, h2, (Tn.of_bel (bel_new w _)).trans ⟨h3.1, h3.2, h3.3, h3.4, fun k hk hg => h3.5 k hk (by simpa using hg)⟩⟩
/-- one more -/
theorem pushY8 {w : World} {B g cap n : Nat} {zs : List Int} {x : Int} (ty : TypeId) (h : OwnY w B g cap zs) (hn : n = zs.length) (hx : Byt [x]) (hlen : n + 1 ≤ 2000000) (hB : B ≤ w.heap.size) :
    ∃ v' w', (Builtin.append_ #[33, 33] ty #[.slice (some ⟨g, 0, none⟩) n cap, .slice (some ⟨w.heap.size, 0, none⟩) 1 1]).run Tryd.prog (w.alloc (.cells #[.int .u8 x] 5)) = .ok v' w' ∧
      ((∃ g' cap', v' = .slice (some ⟨g', 0, none⟩) (n + 1) cap' ∧ OwnY w' B g' cap' (zs ++ [x])) ∧ Tn g w w') := by
  subst hn
  obtain ⟨v', w', h1, ⟨g', cap', h2, h3⟩, h4⟩ := app_tnB ty (h.alloc _) (one_builtB w x hx) (by simpa using hlen) (by simp; omega)
  exact ⟨v', w', h1, ⟨g', cap', by rw [h2]; rfl, h3⟩, (Tn.of_bel (bel_new w _)).trans h4⟩
theorem OwnY.set {w : World} {B g cap : Nat} {zs : List Int} (h : OwnY w B g cap zs) (i : Nat) (z : Int) : OwnY (w.setCell ⟨g, i, none⟩ (.int .u8 z)) B g cap (zs.set i z) ∧ Tn g w (w.setCell ⟨g, i, none⟩ (.int .u8 z)) := by
  obtain ⟨cur, h1, hg, h3, h4, h5, h6⟩ := h.parts
  refine ⟨OwnY.mk (cur.setIfInBounds i (.int .u8 z)) h1 (heap_setCell_same w g i _ 5 _ hg) (by simpa using h3) h4 (by simpa using h5) ?_, rfl, rfl, rfl, by simp [World.setCell], fun k _ hk => Below.heap_setCell _ _ _ _ hk⟩
  rw [List.length_set, Array.toList_setIfInBounds, List.take_set, h6]
  unfold bv
  rw [List.map_set]
theorem OwnY.frozen {w : World} {B g cap : Nat} {zs : List Int} (h : OwnY w B g cap zs) (i : Nat) : w.frozen? ⟨g, i, none⟩ = false := by
  obtain ⟨cur, _, hg, _⟩ := h.parts
  exact frozen_of_row w g i _ 5 hg
theorem wpList_makeB {w : World} {ops : Array Oper} {rest : List Oper} {o : Oper} {a : Act} {Q : Exit → Act → World → Prop} (l c : Operand) (x y : Int) (n cp : Nat) (hx : x = (n : Int)) (hy : y = (cp : Int)) (hnc : n ≤ cp) (hcp : cp ≤ 1000000)
    (hgd : o.guard = none) (ho : o.op = .makeSlice 33 l c) (hl : a.eval l = .int .i64 x) (hc : a.eval c = .int .i64 y)
    (h : ∀ w1 g, Hid (g = w.heap.size) → OwnY w1 w.heap.size g cp (List.replicate n 0) → Below w.heap.size w w1 → wpList Tryd.prog ops Q rest (a.put o.dst (.slice (some ⟨g, 0, none⟩) n cp)) w1) : wpList Tryd.prog ops Q (o :: rest) a w := by
  obtain ⟨i, hi, hz0, hz1, hz2⟩ := info_parts infoB
  have hr := run_make (P := Tryd.prog) w 33 5 i (.int .u8 0) Tryd.underlying33 hi hz0 .i64 .i64 n cp (by omega) (by omega) (by rw [hz2]; omega) (by omega)
  simp only [Int.toNat_natCast, hz1, Nat.mul_one] at hr
  refine wpList_val hgd (.slice (some ⟨w.heap.size, 0, none⟩) n cp) (w.alloc (.cells (madeCells #[.int .u8 0] cp) 5)) ?_ (h _ _ rfl ?_ (bel_new w _))
  · unfold execOp
    subst hx hy
    simp only [ho, hl, hc, Sem.run_bind, Sem.run_pure]
    first | (rw [hr]; rfl) | (erw [hr]; rfl)
  · refine OwnY.mk _ (Nat.le_refl _) (Go.Deep.blk_alloc_new _ _) (by simpa using hnc) (by unfold maxLen; omega) (by simp [madeCells]) ?_
    apply List.ext_getElem
    · simp [madeCells, bv]; omega
    · intro j h1 h2
      simp [madeCells, bv, Nat.mod_one]



def strOf (bs : List Int) : ByteArray := bs.foldl (fun r n => r.push (UInt8.ofNat n.toNat)) ByteArray.empty
theorem foldl_push (bs : List Int) : ∀ s : ByteArray, (bs.foldl (fun r n => r.push (UInt8.ofNat n.toNat)) s).data.toList = s.data.toList ++ bs.map (fun n => UInt8.ofNat n.toNat) := by
  induction bs with
  | nil => intro s; simp
  | cons b bs ih =>
    intro s
    rw [List.foldl_cons, ih]
    simp [ByteArray.push]
theorem strOf_toList (bs : List Int) : (strOf bs).toList = bs.map (fun n => UInt8.ofNat n.toNat) := by
  rw [ByteArray.toList_eq]
  unfold strOf
  rw [foldl_push]
  rfl
theorem strOf_eq {a b : List Int} (ha : Byt a) (hb : Byt b) : ((strOf a).toList == (strOf b).toList) = decide (a = b) := by
  rw [strOf_toList, strOf_toList]
  have key : ∀ (a b : List Int), Byt a → Byt b → (a.map (fun n => UInt8.ofNat n.toNat) = b.map (fun n => UInt8.ofNat n.toNat) ↔ a = b) := by
    intro a
    induction a with
    | nil => intro b _ _; cases b <;> simp
    | cons x a ih =>
      intro b ha hb
      cases b with
      | nil => simp
      | cons y b =>
        have h1 := ha x (by simp)
        have h2 := hb y (by simp)
        have e : UInt8.ofNat x.toNat = UInt8.ofNat y.toNat ↔ x = y := by
          constructor
          · intro h
            have := congrArg UInt8.toNat h
            simp at this
            omega
          · intro h; rw [h]
        simp only [List.map_cons, List.cons.injEq, e, ih b (fun z hz => ha z (by simp [hz])) (fun z hz => hb z (by simp [hz]))]
  by_cases h : a = b
  · subst h; simp
  · have h2 : ¬ a.map (fun n => UInt8.ofNat n.toNat) = b.map (fun n => UInt8.ofNat n.toNat) := fun e => h ((key a b ha hb).1 e)
    rw [decide_eq_false h]
    simpa using h2
theorem conv_str {w : World} {v : Value} {bs : List Int} (h : SB w v bs) : (convert 33 9 v).run Tryd.prog w = .ok (.string (strOf bs)) w := by
  rcases app_srcB h with ⟨ad, c, rfl, hc⟩ | ⟨c, rfl, rfl⟩
  · rw [run_convert_bytes_string w 33 9 5 _ _ _ Tryd.underlying33 Tryd.underlying5 Tryd.underlying9]
    have hl := run_loadCells_list (P := Tryd.prog) w ad (bv bs) hc
    rw [bv_len] at hl
    exact run_bytesToString w ad bs.length c bs hl
  · rw [run_convert_bytes_string w 33 9 5 _ _ _ Tryd.underlying33 Tryd.underlying5 Tryd.underlying9]
    rfl
theorem SB.marked (w : World) (zs : List Int) (fr : Nat × Nat) (hm : zs.length ≤ maxLen) (hf : Byt zs) : SB (w.alloc (.cells (bv zs).toArray 5 fr)) (.slice (some ⟨w.heap.size, 0, none⟩) zs.length zs.length) zs := by
  refine ⟨hf, _, _, rfl, Nat.le_refl _, hm, fun i hi => ⟨w.heap.size, 0, rfl, by simp, ?_⟩⟩
  rw [Nat.zero_add, cell_of_row _ _ i (bv zs).toArray 5 fr (heap_alloc_new w _)]
  simpa using bv_at zs i hi



def marks6 : List Int := [201, 202, 203, 204, 205, 206]
theorem marks6_fit : Byt marks6 := by unfold Byt marks6; decide
theorem marks6_built (w : World) : SB (w.alloc (.cells #[.int .u8 201, .int .u8 202, .int .u8 203, .int .u8 204, .int .u8 205, .int .u8 206] 5)) (.slice (some ⟨w.heap.size, 0, none⟩) 6 6) marks6 :=
  SB.of_blk (zs := marks6) (Blk.new w (bv marks6) 5) (by decide) marks6_fit
theorem tn_of_grown {w w' : World} {g : Nat} (h : w.grownBy w' (some g)) : Tn g w w' := ⟨h.1, h.2, h.3, h.4, fun k hk hg => h.5 k hk (by simpa using hg)⟩

set_option maxRecDepth 10000 in
set_option maxHeartbeats 400000 in
theorem bytes8_any (va : Value) (a : List Int) (w : World) (ha : SB w va a) (hla : a.length ≤ 900000) :
    Calls Tryd.prog 14 #[va] w fun e w' => ∃ g, e = .returned (.slice (some ⟨g, 0, none⟩) a.length (a.length + 6)) ∧ OwnY w' w.heap.size g (a.length + 6) (a ++ marks6) ∧ Below w.heap.size w w' := by
  obtain ⟨aa, ca, rfl, hca, hcm⟩ := ha.form
  unfold maxLen at hcm
  obtain ⟨n, en⟩ : ∃ n, n = a.length := ⟨_, rfl⟩
  have En := hide en
  rw [← en] at ha hca hla ⊢
  clear en
  have hx2 : Hid ((n : Int) + 6 = ((n + 6 : Nat) : Int)) := by show _ = _; omega
  have hx3 : Hid (0 ≤ n + 6 ∧ n + 6 ≤ 1000000) := ⟨by omega, by omega⟩
  have H1 : Hid (∀ (w1 : World) (g1 : Nat), OwnY w1 w.heap.size g1 (n + 6) [] → Below w.heap.size w w1 → ∀ ty, ∃ v' w', (Builtin.append_ #[33, 33] ty #[.slice (some ⟨g1, 0, none⟩) 0 (n + 6), .slice aa n ca]).run Tryd.prog w1 = .ok v' w' ∧ (v' = .slice (some ⟨g1, 0, none⟩) n (n + 6) ∧ OwnY w' w.heap.size g1 (n + 6) a ∧ Tn g1 w1 w')) := fun w1 g1 o1 hb1 ty => by
    obtain ⟨w', hr, ho, hg⟩ := app_fitsB ty o1 (ha.bel hb1) (by simp; have := En.out; omega)
    refine ⟨_, w', hr, by simp [← En.out], by simpa using ho, tn_of_grown hg⟩
  have H2 : Hid (∀ (w2 : World) (g1 : Nat), OwnY w2 w.heap.size g1 (n + 6) a → ∀ ty, ∃ v' w', (Builtin.append_ #[33, 33] ty #[.slice (some ⟨g1, 0, none⟩) n (n + 6), .slice (some ⟨w2.heap.size, 0, none⟩) 6 6]).run Tryd.prog (w2.alloc (.cells #[.int .u8 201, .int .u8 202, .int .u8 203, .int .u8 204, .int .u8 205, .int .u8 206] 5)) = .ok v' w' ∧ (v' = .slice (some ⟨g1, 0, none⟩) (n + 6) (n + 6) ∧ OwnY w' w.heap.size g1 (n + 6) (a ++ marks6) ∧ Tn g1 w2 w')) := fun w2 g1 o2 ty => by
    obtain ⟨w', hr, ho, hg⟩ := app_fitsB ty (o2.alloc _) (marks6_built w2) (by rw [← En.out]; exact Nat.le_refl _)
    rw [← En.out] at hr
    exact ⟨_, w', hr, rfl, ho, (Tn.of_bel (bel_new w2 _)).trans (tn_of_grown hg)⟩
  have i1 : (0 : Int) ≤ (n : Int) ∧ (n : Int) ≤ (n : Int) + 6 := by omega
  go_enter Tryd.func14, Tryd.ntmps14
  go_wp2_with (first | (refine wpList_makeB (.const (.int .i64 0)) (.tmp 6) 0 _ 0 (n + 6) rfl hx2.out hx3.out.1 hx3.out.2 rfl rfl rfl rfl ?_; intro w1 g1 e1 o1 hb1) | (at_builtin; refine wpList_appG (TS := 33) (.tmp 7) (.tmp 8) _ _ _ (H1.out w1 g1 o1 hb1) rfl rfl rfl rfl ?_; rintro v2 w2 ⟨rfl, o2, t2⟩) | (at_builtin; refine wpList_appG (TS := 33) (.tmp 9) (.tmp 10) _ _ _ (H2.out w2 g1 o2) rfl rfl rfl rfl ?_; rintro v3 w3 ⟨rfl, o3, t3⟩))
  go_ret
  exact ⟨g1, rfl, o3, bel_tn (bel_tn hb1 t2 o2.ge) t3 o3.ge⟩

theorem marks6_at (a : List Int) (k : Nat) (hk : k < 6) : (a ++ marks6).getD (a.length + k) 0 = 201 + k := by
  have : k = 0 ∨ k = 1 ∨ k = 2 ∨ k = 3 ∨ k = 4 ∨ k = 5 := by omega
  rcases this with h | h | h | h | h | h <;> subst h <;> simp [List.getD, marks6]



set_option maxRecDepth 10000 in
set_option maxHeartbeats 400000 in
theorem keptB_any (vw : Value) (a : List Int) (g B : Nat) (w : World) (ha : SB w vw a) (ho : OwnY w B g (a.length + 6) (a ++ marks6)) (hla : a.length ≤ 900000) :
    Calls Tryd.prog 16 #[.slice (some ⟨g, 0, none⟩) a.length (a.length + 6), vw] w fun e w' => e = .returned (.bool true) ∧ Below w.heap.size w w' := by
  obtain ⟨aa, ca, rfl, hca, hcm⟩ := ha.form
  unfold maxLen at hcm
  obtain ⟨n, en⟩ : ∃ n, n = a.length := ⟨_, rfl⟩
  have En := hide en
  have hfits := ha.fits
  rw [← en] at ha hca hla ho ⊢
  have hs : SB w (.slice (some ⟨g, 0, none⟩) n (n + 6)) a := by
    refine ⟨hfits, some ⟨g, 0, none⟩, n + 6, by rw [en], by omega, by unfold maxLen; omega, fun i hi => ⟨g, 0, rfl, ho.lt, ?_⟩⟩
    rw [Nat.zero_add, ho.cell i (by simp; omega)]
    simp only [List.getD, List.getElem?_append_left hi]
  have HC : Hid (∀ k, k < 6 → w.cell? ⟨g, n + k, none⟩ = some (.int .u8 (201 + k))) := fun k hk => by
    rw [ho.cell (n + k) (by simp [marks6]; omega), en, marks6_at a k hk]
  have k1 : ∀ j : Nat, (convert 33 9 (.slice (some ⟨g, 0, none⟩) n (n + 6))).run Tryd.prog (w.drewN j) = .ok (.string (strOf a)) (w.drewN j) := fun j => conv_str (w := w.drewN j) hs
  have k2 : ∀ j : Nat, (convert 33 9 (.slice aa n ca)).run Tryd.prog (w.drewN j) = .ok (.string (strOf a)) (w.drewN j) := fun j => conv_str (w := w.drewN j) ha
  have d1 : decide ((n : Int) + 6 < (n : Int) + 6) = false := by simp
  have i1 : (0 : Int) ≤ (n : Int) ∧ (n : Int) ≤ (n : Int) + 6 := by omega
  have hglt := ho.lt
  clear ho en hfits
  go_enter Tryd.func16, Tryd.ntmps16
  go_wp2_with fail
  go_quiet (fail)
  have hbq : Below w.heap.size w (w.drewN nq) := below_drewN (Below.refl _ _) nq
  have HC : Hid (∀ k, k < 6 → (w.drewN nq).cell? ⟨g, n + k, none⟩ = some (.int .u8 (201 + k))) := HC
  clear k1 k2
  generalize w.drewN nq = wq at *
  go_wp2_with fail
  go_loop [6] (fun i => ∃ k : Nat, k ≤ 6 ∧ i = .int .i64 k) (fun i => 6 - (intOf i).toNat)
  case atStart => exact ⟨0, Nat.zero_le _, rfl⟩
  case round =>
    obtain ⟨k, hk, rfl⟩ := hrel
    by_cases hk6 : k < 6
    · have hcell := HC.out k hk6
      have hx : ((201 + (k : Int)) != (201 + (k : Int))) = false := by simp
      have hj : (201 + (k : Int)) % 256 = 201 + (k : Int) := by omega
      have hi : (0 : Int) ≤ (n : Int) + (k : Int) ∧ (n : Int) + (k : Int) < (n : Int) + 6 := by omega
      go_wp2_with fail
      go_round
      case rel => exact ⟨k + 1, by omega, by go_num⟩
      case measure => simp [intOf]; omega
    · have e : k = 6 := by omega
      subst e
      go_wp2_with fail
      go_ret
      exact ⟨rfl, hbq⟩

end Go.Proofs.YtigfjjolfeenaaaDoor.Ck

/- The document: a number as so many bytes. (Written by mk_k.py.) -/
namespace Go.Proofs.YtigfjjolfeenaaaDoor.Ck
open Go.RowKit

theorem bigL_front : ∀ (m : Nat) (u : Int), bigL (m + 1) u = (u / 256 ^ m % 256) :: bigL m u
  | 0, u => by simp [bigL]
  | m + 1, u => by
    show bigL (m + 1) (u / 256) ++ [u % 256] = _
    rw [bigL_front m (u / 256), Int.ediv_ediv_of_nonneg (by decide : (0 : Int) ≤ 256), show (256 : Int) * 256 ^ m = 256 ^ (m + 1) by rw [Int.pow_succ, Int.mul_comm]]
    rfl
theorem div_more (n m : Nat) (u : Int) (h : m < n) : u / 256 ^ (n - m) = u / 256 ^ (n - (m + 1)) / 256 := by
  rw [show n - m = (n - (m + 1)) + 1 by omega, Int.pow_succ, Int.ediv_ediv_of_nonneg (Int.pow_nonneg (by decide))]
theorem big_more (n m : Nat) (u : Int) (h : m < n) : (List.replicate (m + 1) (0 : Int) ++ bigL (n - (m + 1)) u).set m (u / 256 ^ (n - (m + 1)) % 256) = List.replicate m 0 ++ bigL (n - m) u := by
  rw [show n - m = (n - (m + 1)) + 1 by omega, bigL_front, List.replicate_succ', List.append_assoc, List.set_append_right _ _ (by simp)]
  simp
set_option maxRecDepth 20000 in
set_option maxHeartbeats 4000000 in
theorem rbig4_any {w : World} (u : Nat) (hu : u < 18446744073709551616) : Calls Tryd.prog 29 #[.int .u64 (u : Int), .int .i64 4] w fun e w' => ∃ g, e = .returned (.slice (some ⟨g, 0, none⟩) 4 4) ∧ OwnY w' w.heap.size g 4 (bigL 4 u) ∧ Below w.heap.size w w' := by
  have HU := hide hu
  clear hu
  go_enter Tryd.func29, Tryd.ntmps29
  go_wp2_with (first | (refine wpList_makeB (.tmp 7) (.tmp 7) 4 4 4 4 rfl rfl (Nat.le_refl _) (by decide) rfl rfl rfl rfl ?_; intro w1 g e1 o1 hb1))
  have O1 := hide o1
  have B1 := hide hb1
  have E1 := hide e1
  clear o1 hb1 e1
  go_loopw [0, 6] (fun x i wr => ∃ j : Nat, j ≤ 4 ∧ i = .int .i64 ((j : Int) - 1) ∧ x = .int .u64 ((u : Int) / 256 ^ (4 - j)) ∧ Hid (OwnY wr w.heap.size g 4 (List.replicate j 0 ++ bigL (4 - j) u)) ∧ Hid (Below w.heap.size w wr)) (fun x i _ => (intOf i + 1).toNat)
  case atStart => exact ⟨4, Nat.le_refl _, rfl, by simp, hide (by simpa [bigL] using O1.out), B1⟩
  case round =>
    obtain ⟨j, hj, rfl, rfl, O, B⟩ := hrel
    clear O1 B1
    obtain rfl | ⟨m, rfl⟩ : j = 0 ∨ ∃ m, j = m + 1 := by
      cases j with
      | zero => exact .inl rfl
      | succ m => exact .inr ⟨m, rfl⟩
    · rw [show ((0 : Nat) : Int) - 1 = -1 from rfl]
      generalize (u : Int) / 256 ^ (4 - 0) = x at *
      go_wp2_with fail
      go_ret
      exact ⟨g, rfl, by simpa using O.out, B.out⟩
    · rw [show ((m + 1 : Nat) : Int) - 1 = (m : Int) by omega]
      have hm : (0 : Int) ≤ (m : Int) ∧ (m : Int) < 4 := by omega
      have hl : (List.replicate (m + 1) (0 : Int) ++ bigL (4 - (m + 1)) u).length = 4 := by rw [List.length_append, List.length_replicate, bigL_len]; omega
      have cl := O.out.cell m (by rw [hl]; omega)
      have fz := O.out.frozen m
      have S1 := hide (O.out.set m (((u : Int) / 256 ^ (4 - (m + 1))) % 256))
      have ST := hide (big_more 4 m u (by omega))
      have SQ := hide (div_more 4 m u (by omega))
      have GE := hide O.out.ge
      generalize (u : Int) / 256 ^ (4 - (m + 1)) = x at *
      obtain ⟨c0, hc0⟩ : ∃ c, (List.replicate (m + 1) (0 : Int) ++ bigL (4 - (m + 1)) u).getD m 0 = c := ⟨_, rfl⟩
      rw [hc0] at cl
      clear hc0 hl O
      go_wp2_with fail
      have B2 := hide (bel_tn B.out S1.out.2 GE.out)
      generalize wr.setCell ⟨g, m, none⟩ (.int .u8 (x % 256)) = w2 at *
      go_wp2_with fail
      go_roundw
      case rel => exact ⟨m, by omega, by go_num, by rw [SQ.out], hide (by rw [← ST.out]; exact S1.out.1), B2⟩
      case measure => simp [intOf]
set_option maxRecDepth 20000 in
set_option maxHeartbeats 4000000 in
theorem rbig8_any {w : World} (u : Nat) (hu : u < 18446744073709551616) : Calls Tryd.prog 29 #[.int .u64 (u : Int), .int .i64 8] w fun e w' => ∃ g, e = .returned (.slice (some ⟨g, 0, none⟩) 8 8) ∧ OwnY w' w.heap.size g 8 (bigL 8 u) ∧ Below w.heap.size w w' := by
  have HU := hide hu
  clear hu
  go_enter Tryd.func29, Tryd.ntmps29
  go_wp2_with (first | (refine wpList_makeB (.tmp 7) (.tmp 7) 8 8 8 8 rfl rfl (Nat.le_refl _) (by decide) rfl rfl rfl rfl ?_; intro w1 g e1 o1 hb1))
  have O1 := hide o1
  have B1 := hide hb1
  have E1 := hide e1
  clear o1 hb1 e1
  go_loopw [0, 6] (fun x i wr => ∃ j : Nat, j ≤ 8 ∧ i = .int .i64 ((j : Int) - 1) ∧ x = .int .u64 ((u : Int) / 256 ^ (8 - j)) ∧ Hid (OwnY wr w.heap.size g 8 (List.replicate j 0 ++ bigL (8 - j) u)) ∧ Hid (Below w.heap.size w wr)) (fun x i _ => (intOf i + 1).toNat)
  case atStart => exact ⟨8, Nat.le_refl _, rfl, by simp, hide (by simpa [bigL] using O1.out), B1⟩
  case round =>
    obtain ⟨j, hj, rfl, rfl, O, B⟩ := hrel
    clear O1 B1
    obtain rfl | ⟨m, rfl⟩ : j = 0 ∨ ∃ m, j = m + 1 := by
      cases j with
      | zero => exact .inl rfl
      | succ m => exact .inr ⟨m, rfl⟩
    · rw [show ((0 : Nat) : Int) - 1 = -1 from rfl]
      generalize (u : Int) / 256 ^ (8 - 0) = x at *
      go_wp2_with fail
      go_ret
      exact ⟨g, rfl, by simpa using O.out, B.out⟩
    · rw [show ((m + 1 : Nat) : Int) - 1 = (m : Int) by omega]
      have hm : (0 : Int) ≤ (m : Int) ∧ (m : Int) < 8 := by omega
      have hl : (List.replicate (m + 1) (0 : Int) ++ bigL (8 - (m + 1)) u).length = 8 := by rw [List.length_append, List.length_replicate, bigL_len]; omega
      have cl := O.out.cell m (by rw [hl]; omega)
      have fz := O.out.frozen m
      have S1 := hide (O.out.set m (((u : Int) / 256 ^ (8 - (m + 1))) % 256))
      have ST := hide (big_more 8 m u (by omega))
      have SQ := hide (div_more 8 m u (by omega))
      have GE := hide O.out.ge
      generalize (u : Int) / 256 ^ (8 - (m + 1)) = x at *
      obtain ⟨c0, hc0⟩ : ∃ c, (List.replicate (m + 1) (0 : Int) ++ bigL (8 - (m + 1)) u).getD m 0 = c := ⟨_, rfl⟩
      rw [hc0] at cl
      clear hc0 hl O
      go_wp2_with fail
      have B2 := hide (bel_tn B.out S1.out.2 GE.out)
      generalize wr.setCell ⟨g, m, none⟩ (.int .u8 (x % 256)) = w2 at *
      go_wp2_with fail
      go_roundw
      case rel => exact ⟨m, by omega, by go_num, by rw [SQ.out], hide (by rw [← ST.out]; exact S1.out.1), B2⟩
      case measure => simp [intOf]
end Go.Proofs.YtigfjjolfeenaaaDoor.Ck

/- Bytes of a call's own that grow, beside a block that stays; no Go text is walked here. (Written by mk_l.py.) -/
namespace Go.Proofs.YtigfjjolfeenaaaDoor.Ck
open Go.RowKit

/-- bytes of one's own, made since w0, and a block g that is another one's -/
structure By (w0 wr : World) (v : Value) (L : List Int) (g : Nat) (o : Obj) : Prop where
  own : wr.ownsRow w0.heap.size 5 1 v L.length (yys L)
  b : Below w0.heap.size w0 wr
  k : wr.heap[g]? = some o
  n : v.ownBlock ≠ some g
theorem By.bel {w0 wr w2 : World} {v : Value} {L : List Int} {g : Nat} {o : Obj} (h : By w0 wr v L g o) (hb : Below wr.heap.size wr w2) : By w0 w2 v L g o :=
  ⟨own_keep h.own (fun k hk => hb.block k (own_type h.own hk).2.1), bel_trans h.b hb, (hb.block g (Array.getElem?_eq_some_iff.1 h.k).1).trans h.k, h.n⟩
theorem By.box {w0 wr : World} {v : Value} {L : List Int} {g : Nat} {o : Obj} (h : By w0 wr v L g o) (cs : Array Value) (T : TypeId) : By w0 (wr.alloc (.cells cs T)) v L wr.heap.size (.cells cs T (0, 0)) :=
  have h2 := h.bel (bel_new wr (.cells cs T))
  ⟨h2.own, h2.b, Go.Deep.blk_alloc_new _ _, fun e => by have := (own_type h.own e).2.1; omega⟩
theorem By.to {w0 wr : World} {v : Value} {L : List Int} {g g' : Nat} {o o' : Obj} (h : By w0 wr v L g o) (hk : w0.heap[g']? = some o') : By w0 wr v L g' o' :=
  have hl := (Array.getElem?_eq_some_iff.1 hk).1
  ⟨h.own, h.b, (h.b.block g' hl).trans hk, fun e => by have := (own_type h.own e).1; omega⟩
theorem By.app {w0 w2 : World} {v : Value} {L : List Int} {g : Nat} {o : Obj} (h : By w0 w2 v L g o) {m : List Int} {gx cx k : Nat} (hk : k = m.length) (hl : L.length + k ≤ 1000000) (hx : ∀ j, j < k → w2.cell? ⟨gx, j, none⟩ = some (.int .u8 (m.getD j 0))) (ty : TypeId) :
    ∃ v' w', (Builtin.append_ #[33, 33] ty #[v, .slice (some ⟨gx, 0, none⟩) k cx]).run Tryd.prog w2 = .ok v' w' ∧ By w0 w' v' (L ++ m) g o := by
  obtain ⟨ie, hi, hz0, hz1, hz2⟩ := info_parts info_u8
  have hc : ∀ (j : Nat) (u : Value), (yys m)[j]? = some u → w2.cell? ((⟨gx, 0, none⟩ : Addr).add j) = some u := fun j u hu => by
    have hj : j < m.length := by
      have := (List.getElem?_eq_some_iff.1 hu).1
      simpa [yys] using this
    rw [yys_at m j hj] at hu
    rw [show (Addr.mk gx 0 none).add j = ⟨gx, j, none⟩ by unfold Addr.add; by_cases h : j = 0 <;> simp [h], hx j (by omega)]
    exact hu
  obtain ⟨v', w', hr, ho', hg, _, hat⟩ := run_append_own_at (P := Tryd.prog) w2 w0.heap.size 33 ty 5 ie _ 1 1 Tryd.underlying33 hi hz0 hz1 hz2 rfl (by decide) v L.length (yys L) h.own ⟨gx, 0, none⟩ k cx (yys m) (by simp [yys, hk]) hc (fun u hu => by
    obtain ⟨x, _, rfl⟩ := List.mem_map.1 (show u ∈ m.map (Value.int .u8) from hu)
    rfl) (by unfold maxLen; omega) (by omega) h.b.size
  have hgl := (Array.getElem?_eq_some_iff.1 h.k).1
  refine ⟨v', w', hr, by rw [yys_app, List.length_append, ← hk]; exact ho', h.b.trans (Below.grown hg (fun k e => (own_type h.own e).1) h.b.size), (hg.block g hgl (fun e => h.n e.symm)).trans h.k, fun e => ?_⟩
  rcases hat with q | q
  · exact h.n (q.symm.trans e)
  · rw [q] at e
    have := Option.some.inj e
    omega
theorem nat_of {z : Int} (h : Sm z) : ∃ n : Nat, z = n ∧ n < 4294967296 := ⟨z.toNat, by have := h.1; have := h.2; omega, by have := h.2; omega⟩
theorem nat8_of {z : Int} (h0 : 0 ≤ z) (h1 : z < 9223372036854775808) : ∃ n : Nat, z = n ∧ n ≤ 9223372036854775807 := ⟨z.toNat, by omega, by omega⟩
end Go.Proofs.YtigfjjolfeenaaaDoor.Ck

/- The document: a code's bytes. (Written by mk_l.py.) -/
namespace Go.Proofs.YtigfjjolfeenaaaDoor.Ck
open Go.RowKit

def hdL (c : Cd) : List Int := [(c.P.length : Int), c.M, c.A, (c.C.length : Int), (c.F.length : Int), (c.B.length : Int), c.mn]
set_option maxRecDepth 20000 in
set_option maxHeartbeats 8000000 in
theorem rbytes_any {w : World} {vP vC vF vB : Value} {c : Cd} (h : Cv w vP vC vF vB c) (hf : formB c = true) : Calls Tryd.prog 12 #[codeA vP vC vF vB c] w fun e w' => ∃ v, e = .returned v ∧ w'.ownsRow (w.heap.size + 1) 5 1 v (bytesL c).length (yys (bytesL c)) ∧ Below w.heap.size w w' := by
  have HS := hide (form_sm hf (fun x hx => (h.L.I x hx).1))
  obtain ⟨nP, nC, nF, nB, nL⟩ := form_len hf
  have HL := hide nL
  obtain ⟨aP, cP, aC, cC, aF, cF, aB, cB, eP, eC, eF, eB⟩ := h.form
  subst eP eC eF eB
  obtain ⟨w0, hw0⟩ : ∃ w0, w0 = w.alloc (.cells #[.slice aP c.P.length cP, .int .i64 c.M, .int .i64 c.A, .slice aC c.C.length cC, .slice aF c.F.length cF, .int .i64 c.mn, .slice aB c.B.length cB] 27) := ⟨_, rfl⟩
  have hz0 : w0.heap.size = w.heap.size + 1 := by rw [hw0]; simp
  have KC : Hid (w0.heap[w.heap.size]? = some (.cells #[.slice aP c.P.length cP, .int .i64 c.M, .int .i64 c.A, .slice aC c.C.length cC, .slice aF c.F.length cF, .int .i64 c.mn, .slice aB c.B.length cB] 27 (0, 0))) := hide (by rw [hw0]; exact Go.Deep.blk_alloc_new _ _)
  have BW : Hid (Below w.heap.size w w0) := hide (by rw [hw0]; exact bel_new _ _)
  have V0 := hide (h.bel BW.out)
  have HD := hide (show ∀ z ∈ hdL c, Sm z from fun z hz => by
    have s := HS.out
    simp [hdL] at hz
    rcases hz with rfl | rfl | rfl | rfl | rfl | rfl | rfl
    · exact ⟨by omega, by omega⟩
    · exact s.nm
    · exact s.na
    · exact ⟨by omega, by omega⟩
    · exact ⟨by omega, by omega⟩
    · exact ⟨by omega, by omega⟩
    · exact s.mn)
  have Y0 : Hid (By w0 ((w0.alloc (.cells #[] 5)).alloc (.cells #[.int .i64 (c.P.length : Int), .int .i64 c.M, .int .i64 c.A, .int .i64 (c.C.length : Int), .int .i64 (c.F.length : Int), .int .i64 (c.B.length : Int), .int .i64 c.mn] 3)) (.slice (some ⟨w.heap.size + 1, 0, none⟩) 0 0) [] (w.heap.size + 1 + 1) (.cells ((hdL c).map (Value.int .i64)).toArray 3 (0, 0))) := hide (by
    have k0 : (w0.alloc (.cells #[] 5)).heap[w0.heap.size]? = some (.cells #[] 5 (0, 0)) := Go.Deep.blk_alloc_new _ _
    rw [hz0] at k0
    have o0 := own_none (sz := 1) (B := w0.heap.size) k0 (by omega)
    have y0 : By w0 (w0.alloc (.cells #[] 5)) (.slice (some ⟨w.heap.size + 1, 0, none⟩) 0 0) [] w.heap.size (.cells #[.slice aP c.P.length cP, .int .i64 c.M, .int .i64 c.A, .slice aC c.C.length cC, .slice aF c.F.length cF, .int .i64 c.mn, .slice aB c.B.length cB] 27 (0, 0)) := ⟨o0, bel_new _ _, ((bel_new w0 (.cells #[] 5)).block _ (by omega)).trans KC.out, fun e => by simp [Value.ownBlock] at e⟩
    have y1 := y0.box ((hdL c).map (Value.int .i64)).toArray 3
    rw [show (w0.alloc (.cells #[] 5)).heap.size = w.heap.size + 1 + 1 by simp [hz0]] at y1
    exact y1)
  have HC := hide (fun i (hi : i < c.C.length) => (by
    obtain ⟨a, cp, e, _, _, h⟩ := V0.out.C
    cases e
    exact h i hi : ∃ b off, aC = some ⟨b, off, none⟩ ∧ b < _ ∧ _))
  have HF := hide (fun i (hi : i < c.F.length) => (by
    obtain ⟨a, cp, e, _, _, h⟩ := V0.out.F
    cases e
    exact h i hi : ∃ b off vl, aF = some ⟨b, off, none⟩ ∧ b < _ ∧ _))
  have HB := hide (fun i (hi : i < c.B.length) => (by
    obtain ⟨a, cp, e, _, _, h⟩ := V0.out.B
    cases e
    exact h i hi : ∃ b off, aB = some ⟨b, off, none⟩ ∧ b < _ ∧ _))
  have HP := hide (fun i (hi : i < c.P.length) => V0.out.P.at i hi)
  clear h hf nL V0
  unfold codeA
  go_enter Tryd.func12, Tryd.ntmps12
  go_wp2_with fail
  rw [← hw0]
  generalize (w0.alloc (.cells #[] 5)).alloc (.cells #[.int .i64 (c.P.length : Int), .int .i64 c.M, .int .i64 c.A, .int .i64 (c.C.length : Int), .int .i64 (c.F.length : Int), .int .i64 (c.B.length : Int), .int .i64 c.mn] 3) = w1 at *
  have HZ := hide hz0
  clear hw0 hz0
  go_loopw [3, 5, 37] (fun b x5 i wr => ∃ k : Nat, k ≤ 7 ∧ i = .int .i64 k ∧ Hid (By w0 wr b (((hdL c).take k).flatMap (bigL 4)) (w.heap.size + 1 + 1) (.cells ((hdL c).map (Value.int .i64)).toArray 3 (0, 0)))) (fun b x5 i _ => 7 - (intOf i).toNat)
  case atStart => exact ⟨0, Nat.zero_le _, rfl, Y0⟩
  case round =>
    obtain ⟨k, hk, rfl, Y⟩ := hrel
    clear Y0
    by_cases hlt : k < 7
    · have h1 : (k : Int) < 7 := by omega
      obtain ⟨z, ez, hz⟩ := nat_of (HD.out _ (getD_mem (d := 0) (show k < (hdL c).length from hlt)))
      have cc : wr.cell? ⟨w.heap.size + 1 + 1, k, none⟩ = some (.int .i64 (z : Int)) := by
        rw [blk_cell Y.out.k k (.int .i64 ((hdL c).getD k 0)) (by
          have hl : k < (hdL c).length := hlt
          simp [List.getD, hl]), ez]
      have ew := wrapU_nat (z := z) (by omega)
      have TK := hide (take_flat (l := hdL c) (d := 0) (f := bigL 4) (show k < (hdL c).length from hlt))
      rw [ez] at TK
      have LB : Hid ((((hdL c).take k).flatMap (bigL 4)).length + 4 ≤ 1000) := hide (by rw [flat4, List.length_take]; have : (hdL c).length = 7 := rfl; omega)
      clear ez
      generalize w.heap.size + 1 + 1 = gl at *
      generalize ((hdL c).take k).flatMap (bigL 4) = L at *
      go_wp2_with fail
      refine (rbig4_any z (by omega)).mono ?_
      rintro e wa1 ⟨ga1, rfl, oa1, ba1⟩
      have Ya1 := hide (Y.out.bel ba1)
      have PU1 := hide (fun ty => Ya1.out.app (m := bigL 4 z) (gx := ga1) (cx := 4) (k := 4) (bigL_len _ _).symm (by have := LB.out; omega) (fun j hj => oa1.cell j (by rw [bigL_len]; exact hj)) ty)
      clear oa1 ba1 Y
      go_wp2_with (first | (at_builtin; refine wpList_appG (TS := 33) (.tmp 41) (.tmp 44) _ _ _ PU1.out rfl rfl rfl rfl ?_; rintro vb1 wb1 yb1; clear PU1 Ya1; have Y2 := hide yb1; clear yb1))
      go_roundw
      case rel => exact ⟨k + 1, by omega, by go_num, hide (by rw [TK.out]; exact Y2.out)⟩
      case measure => simp [intOf]; omega
    · obtain rfl : k = 7 := by omega
      rw [show ((7 : Nat) : Int) = 7 from rfl]
      obtain ⟨L0, hL0⟩ : ∃ L, L = (hdL c).flatMap (bigL 4) := ⟨_, rfl⟩
      rw [show (hdL c).take 7 = hdL c from rfl, ← hL0] at Y
      have LL0 : Hid (L0.length ≤ 40) := hide (by rw [hL0, flat4]; show 4 * 7 ≤ 40; omega)
      have HL0 := hide hL0
      have Y1 : Hid (By w0 wr u3 L0 w.heap.size (.cells #[.slice aP c.P.length cP, .int .i64 c.M, .int .i64 c.A, .slice aC c.C.length cC, .slice aF c.F.length cF, .int .i64 c.mn, .slice aB c.B.length cB] 27 (0, 0))) := hide (Y.out.to KC.out)
      have g0 := blk_cell Y1.out.k 0 _ rfl
      clear hL0 HD Y
      go_wp2_with fail
      clear g0
      go_loopw [3, 7, 50] (fun b x7 i wr => ∃ k : Nat, k ≤ c.P.length ∧ i = .int .i64 k ∧ Hid (By w0 wr b (L0 ++ (c.P.take k).flatMap (bigL 4)) w.heap.size (.cells #[.slice aP c.P.length cP, .int .i64 c.M, .int .i64 c.A, .slice aC c.C.length cC, .slice aF c.F.length cF, .int .i64 c.mn, .slice aB c.B.length cB] 27 (0, 0)))) (fun b x7 i _ => c.P.length - (intOf i).toNat)
      case atStart => exact ⟨0, Nat.zero_le _, rfl, hide (by simpa using Y1.out)⟩
      case round =>
        obtain ⟨k, hk, rfl, Y⟩ := hrel
        clear Y1
        by_cases hlt : k < c.P.length
        · have h1 : (k : Int) < (c.P.length : Int) := by omega
          obtain ⟨b1, o1, rfl, hb1, hc1⟩ := HP.out k hlt
          obtain ⟨z, ez, hz⟩ := nat_of (HS.out.ps _ (getD_mem (d := 0) hlt))
          rw [ez] at hc1
          have cc := (Y.out.b.cell (p := ⟨b1, _, none⟩) hb1).trans hc1
          have ew := wrapU_nat (z := z) (by omega)
          have TK := hide (take_flat (l := c.P) (d := 0) (f := bigL 4) hlt)
          rw [ez] at TK
          have LB : Hid ((L0 ++ (c.P.take k).flatMap (bigL 4)).length + 4 ≤ 1000) := hide (by rw [List.length_append, flat4, List.length_take]; have := LL0.out; omega)
          clear ez hc1 hb1
          generalize (c.P.take k).flatMap (bigL 4) = L at *
          go_wp2_with fail
          refine (rbig4_any z (by omega)).mono ?_
          rintro e wa2 ⟨ga2, rfl, oa2, ba2⟩
          have Ya2 := hide (Y.out.bel ba2)
          have PU2 := hide (fun ty => Ya2.out.app (m := bigL 4 z) (gx := ga2) (cx := 4) (k := 4) (bigL_len _ _).symm (by have := LB.out; omega) (fun j hj => oa2.cell j (by rw [bigL_len]; exact hj)) ty)
          clear oa2 ba2 Y
          go_wp2_with (first | (at_builtin; refine wpList_appG (TS := 33) (.tmp 54) (.tmp 57) _ _ _ PU2.out rfl rfl rfl rfl ?_; rintro vb2 wb2 yb2; clear PU2 Ya2; have Y2 := hide yb2; clear yb2))
          go_roundw
          case rel => exact ⟨k + 1, by omega, by go_num, hide (by rw [TK.out, ← List.append_assoc]; exact Y2.out)⟩
          case measure => simp [intOf]; omega
        · obtain rfl : k = c.P.length := by omega
          obtain ⟨L1, hL1⟩ : ∃ L, L = L0 ++ c.P.flatMap (bigL 4) := ⟨_, rfl⟩
          rw [List.take_length, ← hL1] at Y
          have LL1 : Hid (L1.length ≤ 600) := hide (by rw [hL1, List.length_append, flat4]; have := LL0.out; omega)
          have HL1 := hide hL1
          have g3 := blk_cell Y.out.k 3 _ rfl
          clear hL1 HP LL0
          go_wp2_with fail
          clear g3
          go_loopw [3, 9, 63] (fun b x9 i wr => ∃ k : Nat, k ≤ c.C.length ∧ i = .int .i64 k ∧ Hid (By w0 wr b (L1 ++ (c.C.take k).flatMap wChan) w.heap.size (.cells #[.slice aP c.P.length cP, .int .i64 c.M, .int .i64 c.A, .slice aC c.C.length cC, .slice aF c.F.length cF, .int .i64 c.mn, .slice aB c.B.length cB] 27 (0, 0)))) (fun b x9 i _ => c.C.length - (intOf i).toNat)
          case atStart => exact ⟨0, Nat.zero_le _, rfl, hide (by simpa using Y.out)⟩
          case round =>
            clear Y
            obtain ⟨k, hk, rfl, Y⟩ := hrel
            by_cases hlt : k < c.C.length
            · have h1 : (k : Int) < (c.C.length : Int) := by omega
              obtain ⟨b1, o1, rfl, hbk, f1, f2⟩ := HC.out k hlt
              have q1 := (Y.out.b.cell (p := ⟨b1, _, none⟩) hbk).trans f1
              have q2 := (Y.out.b.cell (p := ⟨b1, _, none⟩) hbk).trans f2
              have TK := hide (take_flat (l := c.C) (d := z2) (f := wChan) hlt)
              have sc := HS.out.cs _ (getD_mem (d := z2) hlt)
              have LB : Hid ((L1 ++ (c.C.take k).flatMap wChan).length + 8 ≤ 2000) := hide (by rw [List.length_append, flatC, List.length_take]; have := LL1.out; omega)
              clear f1 f2 hbk
              generalize c.C.getD k z2 = ch at *
              obtain ⟨t, rm⟩ := ch
              obtain ⟨tn, ht, ht2⟩ := nat_of sc.1
              obtain ⟨rn, hr, hr2⟩ := nat_of sc.2
              replace ht : t = (tn : Int) := ht
              replace hr : rm = (rn : Int) := hr
              subst ht hr
              have q1' : wr.cell? ⟨b1, o1 + k * 2, none⟩ = some (.int .i64 (tn : Int)) := q1
              have q2' : wr.cell? ⟨b1, o1 + k * 2 + 1, none⟩ = some (.int .i64 (rn : Int)) := q2
              have Yb := hide (Y.out.box #[.int .i64 (tn : Int), .int .i64 (rn : Int)] 56)
              have e1 := wrapU_nat (z := tn) (by omega)
              have e2 := wrapU_nat (z := rn) (by omega)
              generalize (c.C.take k).flatMap wChan = L at *
              clear sc q1 q2 Y
              go_wp2_with fail
              refine (rbig4_any tn (by omega)).mono ?_
              rintro e wa3 ⟨ga3, rfl, oa3, ba3⟩
              have Ya3 := hide (Yb.out.bel ba3)
              have PU3 := hide (fun ty => Ya3.out.app (m := bigL 4 tn) (gx := ga3) (cx := 4) (k := 4) (bigL_len _ _).symm (by have := LB.out; omega) (fun j hj => oa3.cell j (by rw [bigL_len]; exact hj)) ty)
              clear oa3 ba3 Yb
              go_wp2_with (first | (at_builtin; refine wpList_appG (TS := 33) (.tmp 67) (.tmp 71) _ _ _ PU3.out rfl rfl rfl rfl ?_; rintro vb3 wb3 yb3; clear PU3 Ya3; have Y2 := hide yb3; clear yb3; have r1 := blk_cell Y2.out.k 1 _ rfl))
              refine (rbig4_any rn (by omega)).mono ?_
              rintro e wa4 ⟨ga4, rfl, oa4, ba4⟩
              have Ya4 := hide (Y2.out.bel ba4)
              have PU4 := hide (fun ty => Ya4.out.app (m := bigL 4 rn) (gx := ga4) (cx := 4) (k := 4) (bigL_len _ _).symm (by rw [List.length_append, bigL_len]; have := LB.out; omega) (fun j hj => oa4.cell j (by rw [bigL_len]; exact hj)) ty)
              clear oa4 ba4 Y2
              go_wp2_with (first | (at_builtin; refine wpList_appG (TS := 33) (.tmp 73) (.tmp 77) _ _ _ PU4.out rfl rfl rfl rfl ?_; rintro vb4 wb4 yb4; clear PU4 Ya4; have Y3 := hide yb4; clear yb4))
              go_roundw
              case rel => exact ⟨k + 1, by omega, by go_num, hide (by have := Y3.out.to KC.out; rw [TK.out]; simpa [wChan, List.append_assoc] using this)⟩
              case measure => simp [intOf]; omega
            · obtain rfl : k = c.C.length := by omega
              obtain ⟨L2, hL2⟩ : ∃ L, L = L1 ++ c.C.flatMap wChan := ⟨_, rfl⟩
              rw [List.take_length, ← hL2] at Y
              have LL2 : Hid (L2.length ≤ 1000) := hide (by rw [hL2, List.length_append, flatC]; have := LL1.out; omega)
              have HL2 := hide hL2
              have g4 := blk_cell Y.out.k 4 _ rfl
              clear hL2 HC LL1
              go_wp2_with fail
              clear g4
              go_loopw [3, 11, 13, 83] (fun b x11 x13 i wr => ∃ k : Nat, k ≤ c.F.length ∧ i = .int .i64 k ∧ Hid (By w0 wr b (L2 ++ (c.F.take k).flatMap wFn) w.heap.size (.cells #[.slice aP c.P.length cP, .int .i64 c.M, .int .i64 c.A, .slice aC c.C.length cC, .slice aF c.F.length cF, .int .i64 c.mn, .slice aB c.B.length cB] 27 (0, 0)))) (fun b x11 x13 i _ => c.F.length - (intOf i).toNat)
              case atStart => exact ⟨0, Nat.zero_le _, rfl, hide (by simpa using Y.out)⟩
              case round =>
                clear Y
                obtain ⟨k, hk, rfl, Y⟩ := hrel
                by_cases hlt : k < c.F.length
                · have h1 : (k : Int) < (c.F.length : Int) := by omega
                  obtain ⟨b1, o1, vl, rfl, hbk, f1, f2, f3, f4⟩ := HF.out k hlt
                  have q1 := (Y.out.b.cell (p := ⟨b1, _, none⟩) hbk).trans f1
                  have q2 := (Y.out.b.cell (p := ⟨b1, _, none⟩) hbk).trans f2
                  have q3 := (Y.out.b.cell (p := ⟨b1, _, none⟩) hbk).trans f3
                  have TK := hide (take_flat (l := c.F) (d := zF) (f := wFn) hlt)
                  have sf := hide (HS.out.fs _ (getD_mem (d := zF) hlt))
                  have hl32 := HL.out _ (getD_mem (d := zF) hlt)
                  have LB : Hid ((L2 ++ (c.F.take k).flatMap wFn).length + 140 ≤ 5000) := hide (by
                    have h1 := flatF (c.F.take k) (fun f hf => HL.out f (List.mem_of_mem_take hf))
                    rw [List.length_take] at h1
                    rw [List.length_append]
                    have := LL2.out
                    omega)
                  clear f1 f2 f3 hbk
                  generalize c.F.getD k zF = f at *
                  obtain ⟨st, pa, lo⟩ := f
                  obtain ⟨al, cl, rfl, _, _⟩ := f4.form
                  have F4 := hide f4
                  clear f4
                  obtain ⟨sn, hs, hs2⟩ := nat_of sf.out.1
                  obtain ⟨pn, hp, hp2⟩ := nat_of sf.out.2.1
                  replace hs : st = (sn : Int) := hs
                  replace hp : pa = (pn : Int) := hp
                  subst hs hp
                  have q1' : wr.cell? ⟨b1, o1 + k * 3, none⟩ = some (.int .i64 (sn : Int)) := q1
                  have q2' : wr.cell? ⟨b1, o1 + k * 3 + 1, none⟩ = some (.int .i64 (pn : Int)) := q2
                  have q3' : wr.cell? ⟨b1, o1 + k * 3 + 2, none⟩ = some (.slice al lo.length cl) := q3
                  have hl32' : lo.length ≤ 32 := hl32
                  have Yb := hide (Y.out.box #[.int .i64 (sn : Int), .int .i64 (pn : Int), .slice al lo.length cl] 47)
                  have e1 := wrapU_nat (z := sn) (by omega)
                  have e2 := wrapU_nat (z := pn) (by omega)
                  have e3 := wrapU_nat (z := lo.length) (by omega)
                  have LFX := hide (show ∀ z ∈ lo, Sm z from fun z hz => sf.out.2.2.2 z hz)
                  generalize (c.F.take k).flatMap wFn = L at *
                  clear q1 q2 q3 Y hl32 sf
                  go_wp2_with fail
                  refine (rbig4_any sn (by omega)).mono ?_
                  rintro e wa5 ⟨ga5, rfl, oa5, ba5⟩
                  have Ya5 := hide (Yb.out.bel ba5)
                  have PU5 := hide (fun ty => Ya5.out.app (m := bigL 4 sn) (gx := ga5) (cx := 4) (k := 4) (bigL_len _ _).symm (by have := LB.out; omega) (fun j hj => oa5.cell j (by rw [bigL_len]; exact hj)) ty)
                  clear oa5 ba5 Yb
                  go_wp2_with (first | (at_builtin; refine wpList_appG (TS := 33) (.tmp 87) (.tmp 91) _ _ _ PU5.out rfl rfl rfl rfl ?_; rintro vb5 wb5 yb5; clear PU5 Ya5; have Y2 := hide yb5; clear yb5; have r1 := blk_cell Y2.out.k 1 _ rfl))
                  refine (rbig4_any pn (by omega)).mono ?_
                  rintro e wa6 ⟨ga6, rfl, oa6, ba6⟩
                  have Ya6 := hide (Y2.out.bel ba6)
                  have PU6 := hide (fun ty => Ya6.out.app (m := bigL 4 pn) (gx := ga6) (cx := 4) (k := 4) (bigL_len _ _).symm (by rw [List.length_append, bigL_len]; have := LB.out; omega) (fun j hj => oa6.cell j (by rw [bigL_len]; exact hj)) ty)
                  clear oa6 ba6 Y2
                  go_wp2_with (first | (at_builtin; refine wpList_appG (TS := 33) (.tmp 93) (.tmp 97) _ _ _ PU6.out rfl rfl rfl rfl ?_; rintro vb6 wb6 yb6; clear PU6 Ya6; have Y3 := hide yb6; clear yb6; have r2 := blk_cell Y3.out.k 2 _ rfl))
                  refine (rbig4_any lo.length (by omega)).mono ?_
                  rintro e wa7 ⟨ga7, rfl, oa7, ba7⟩
                  have Ya7 := hide (Y3.out.bel ba7)
                  have PU7 := hide (fun ty => Ya7.out.app (m := bigL 4 lo.length) (gx := ga7) (cx := 4) (k := 4) (bigL_len _ _).symm (by have := LB.out; simp only [List.length_append, bigL_len] at this ⊢; omega) (fun j hj => oa7.cell j (by rw [bigL_len]; exact hj)) ty)
                  clear oa7 ba7 Y3
                  go_wp2_with (first | (at_builtin; refine wpList_appG (TS := 33) (.tmp 99) (.tmp 104) _ _ _ PU7.out rfl rfl rfl rfl ?_; rintro vb7 wb7 yb7; clear PU7 Ya7; have Y4 := hide yb7; clear yb7; have r3 := blk_cell Y4.out.k 2 _ rfl))
                  clear r3
                  obtain ⟨L3, hL3⟩ : ∃ X, X = L2 ++ L ++ bigL 4 (sn : Int) ++ bigL 4 (pn : Int) ++ bigL 4 (lo.length : Int) := ⟨_, rfl⟩
                  rw [← hL3] at Y4
                  have LL3 : Hid (L3.length + 128 ≤ 5000) := hide (by rw [hL3]; have := LB.out; simp only [List.length_append, bigL_len] at this ⊢; omega)
                  have HL3 := hide hL3
                  generalize wr.heap.size = gb at *
                  clear hL3 q1' q2' q3' e1 e2 e3 LB
                  go_loopw [3, 13, 109] (fun b x13 i wr => ∃ j : Nat, j ≤ lo.length ∧ i = .int .i64 j ∧ Hid (By w0 wr b (L3 ++ (lo.take j).flatMap (bigL 4)) gb (.cells #[.int .i64 (sn : Int), .int .i64 (pn : Int), .slice al lo.length cl] 47 (0, 0)))) (fun b x13 i _ => lo.length - (intOf i).toNat)
                  case atStart => exact ⟨0, Nat.zero_le _, rfl, hide (by simpa using Y4.out)⟩
                  case round =>
                    clear Y4
                    obtain ⟨j, hj, rfl, Y⟩ := hrel
                    by_cases hjt : j < lo.length
                    · have hjt' : (j : Int) < (lo.length : Int) := by omega
                      obtain ⟨b2, o2, rfl, hb2, hc2⟩ := (F4.out.bel Y.out.b).at j hjt
                      obtain ⟨z, ez, hz⟩ := nat_of (LFX.out _ (getD_mem (d := 0) hjt))
                      rw [ez] at hc2
                      have ew := wrapU_nat (z := z) (by omega)
                      have TJ := hide (take_flat (l := lo) (d := 0) (f := bigL 4) hjt)
                      rw [ez] at TJ
                      have LB : Hid ((L3 ++ (lo.take j).flatMap (bigL 4)).length + 4 ≤ 6000) := hide (by rw [List.length_append, flat4, List.length_take]; have := LL3.out; omega)
                      clear ez
                      generalize (lo.take j).flatMap (bigL 4) = M at *
                      go_wp2_with fail
                      refine (rbig4_any z (by omega)).mono ?_
                      rintro e wa8 ⟨ga8, rfl, oa8, ba8⟩
                      have Ya8 := hide (Y.out.bel ba8)
                      have PU8 := hide (fun ty => Ya8.out.app (m := bigL 4 z) (gx := ga8) (cx := 4) (k := 4) (bigL_len _ _).symm (by have := LB.out; omega) (fun j hj => oa8.cell j (by rw [bigL_len]; exact hj)) ty)
                      clear oa8 ba8 Y
                      go_wp2_with (first | (at_builtin; refine wpList_appG (TS := 33) (.tmp 113) (.tmp 116) _ _ _ PU8.out rfl rfl rfl rfl ?_; rintro vb8 wb8 yb8; clear PU8 Ya8; have Y2 := hide yb8; clear yb8))
                      go_roundw
                      case rel => exact ⟨j + 1, by omega, by go_num, hide (by rw [TJ.out, ← List.append_assoc]; exact Y2.out)⟩
                      case measure => simp [intOf]; omega
                    · obtain rfl : j = lo.length := by omega
                      rw [List.take_length] at Y
                      go_wp2_with fail
                      go_roundw
                      case rel => exact ⟨k + 1, by omega, by go_num, hide (by have := Y.out.to KC.out; rw [TK.out]; rw [HL3.out] at this; simpa [wFn, List.append_assoc] using this)⟩
                      case measure => simp [intOf]; omega
                · obtain rfl : k = c.F.length := by omega
                  obtain ⟨L3, hL3⟩ : ∃ L, L = L2 ++ c.F.flatMap wFn := ⟨_, rfl⟩
                  rw [List.take_length, ← hL3] at Y
                  have LL3 : Hid (L3.length ≤ 5000) := hide (by rw [hL3, List.length_append]; have h1 := flatF c.F HL.out; have := LL2.out; omega)
                  have HL3 := hide hL3
                  have g6 := blk_cell Y.out.k 6 _ rfl
                  clear hL3 HF LL2
                  go_wp2_with fail
                  clear g6
                  go_loopw [3, 15, 123] (fun b x15 i wr => ∃ k : Nat, k ≤ c.B.length ∧ i = .int .i64 k ∧ Hid (By w0 wr b (L3 ++ (c.B.take k).flatMap wIns) w.heap.size (.cells #[.slice aP c.P.length cP, .int .i64 c.M, .int .i64 c.A, .slice aC c.C.length cC, .slice aF c.F.length cF, .int .i64 c.mn, .slice aB c.B.length cB] 27 (0, 0)))) (fun b x15 i _ => c.B.length - (intOf i).toNat)
                  case atStart => exact ⟨0, Nat.zero_le _, rfl, hide (by simpa using Y.out)⟩
                  case round =>
                    clear Y
                    obtain ⟨k, hk, rfl, Y⟩ := hrel
                    by_cases hlt : k < c.B.length
                    · have h1 : (k : Int) < (c.B.length : Int) := by omega
                      obtain ⟨b1, o1, rfl, hbk, f1, f2, f3, f4, f5⟩ := HB.out k hlt
                      have q1 := (Y.out.b.cell (p := ⟨b1, _, none⟩) hbk).trans f1
                      have q2 := (Y.out.b.cell (p := ⟨b1, _, none⟩) hbk).trans f2
                      have q3 := (Y.out.b.cell (p := ⟨b1, _, none⟩) hbk).trans f3
                      have q4 := (Y.out.b.cell (p := ⟨b1, _, none⟩) hbk).trans f4
                      have q5 := (Y.out.b.cell (p := ⟨b1, _, none⟩) hbk).trans f5
                      have TK := hide (take_flat (l := c.B) (d := zI) (f := wIns) hlt)
                      have si := hide (HS.out.bs _ (getD_mem (d := zI) hlt))
                      have LB : Hid ((L3 ++ (c.B.take k).flatMap wIns).length + 30 ≤ 300000) := hide (by rw [List.length_append, flatI, List.length_take]; have := LL3.out; omega)
                      clear f1 f2 f3 f4 f5 hbk
                      generalize c.B.getD k zI = x at *
                      obtain ⟨op, a, bb, t, at_⟩ := x
                      obtain ⟨on, e1, l1⟩ : ∃ n : Nat, op = n ∧ n < 256 := ⟨op.toNat, by have := si.out.1; simp at this; omega, by have := si.out.1; simp at this; omega⟩
                      obtain ⟨an, e2, l2⟩ : ∃ n : Nat, a = n ∧ n ≤ 9223372036854775807 := ⟨a.toNat, by have := si.out.2.1; simp at this; omega, by have := si.out.2.1; simp at this; omega⟩
                      obtain ⟨bn, e3, l3⟩ := nat_of si.out.2.2.1
                      obtain ⟨tn, e4, l4⟩ : ∃ n : Nat, t = n ∧ n < 18446744073709551616 := ⟨t.toNat, by have := si.out.2.2.2.1; simp at this; omega, by have := si.out.2.2.2.1; simp at this; omega⟩
                      obtain ⟨sn, e5, l5⟩ := nat_of si.out.2.2.2.2
                      replace e3 : bb = (bn : Int) := e3
                      replace e5 : at_ = (sn : Int) := e5
                      subst e1 e2 e3 e4 e5
                      have q1' : wr.cell? ⟨b1, o1 + k * 5, none⟩ = some (.int .i64 (on : Int)) := q1
                      have q2' : wr.cell? ⟨b1, o1 + k * 5 + 1, none⟩ = some (.int .i64 (an : Int)) := q2
                      have q3' : wr.cell? ⟨b1, o1 + k * 5 + 2, none⟩ = some (.int .i64 (bn : Int)) := q3
                      have q4' : wr.cell? ⟨b1, o1 + k * 5 + 3, none⟩ = some (.int .u64 (tn : Int)) := q4
                      have q5' : wr.cell? ⟨b1, o1 + k * 5 + 4, none⟩ = some (.int .i64 (sn : Int)) := q5
                      have Yb := hide (Y.out.box #[.int .i64 (on : Int), .int .i64 (an : Int), .int .i64 (bn : Int), .int .u64 (tn : Int), .int .i64 (sn : Int)] 50)
                      have HI := hide si.out
                      have u1 : IntKind.u8.wrap (on : Int) = (on : Int) := by rw [IntKind.wrap_u8]; omega
                      have u2 := wrapU_nat (z := an) l2
                      have u3 := wrapU_nat (z := bn) (by omega)
                      have u5 := wrapU_nat (z := sn) (by omega)
                      have LO := hide (And.intro l1 (And.intro l2 (And.intro l3 (And.intro l4 l5))))
                      generalize (c.B.take k).flatMap wIns = L at *
                      have Yc := hide (Yb.out.bel (bel_new _ (.cells #[.int .u8 (on : Int)] 5)))
                      have PU := hide (fun ty => Yc.out.app (m := [(on : Int)]) (gx := wr.heap.size + 1) (cx := 1) (k := 1) rfl (by have := LB.out; omega) (fun j hj => by
                        obtain rfl : j = 0 := by omega
                        have hs : (wr.alloc (.cells #[.int .i64 (on : Int), .int .i64 (an : Int), .int .i64 (bn : Int), .int .u64 (tn : Int), .int .i64 (sn : Int)] 50)).heap.size = wr.heap.size + 1 := by simp
                        have := blk_cell (Go.Deep.blk_alloc_new (wr.alloc (.cells #[.int .i64 (on : Int), .int .i64 (an : Int), .int .i64 (bn : Int), .int .u64 (tn : Int), .int .i64 (sn : Int)] 50)) (.cells #[.int .u8 (on : Int)] 5)) 0 (.int .u8 (on : Int)) rfl
                        rw [hs] at this
                        exact this) ty)
                      clear q1 q2 q3 q4 q5 Y si l1 l2 l3 l4 l5
                      go_wp2_with (first | (at_builtin; refine wpList_appG (TS := 33) (.tmp 127) (.tmp 131) _ _ _ PU.out rfl rfl rfl rfl ?_; rintro vb wb yb; clear PU Yb Yc; have Y2 := hide yb; clear yb; have r1 := blk_cell Y2.out.k 1 _ rfl))
                      refine (rbig8_any an (by have := LO.out.2.1; omega)).mono ?_
                      rintro e wa9 ⟨ga9, rfl, oa9, ba9⟩
                      have Ya9 := hide (Y2.out.bel ba9)
                      have PU9 := hide (fun ty => Ya9.out.app (m := bigL 8 an) (gx := ga9) (cx := 8) (k := 8) (bigL_len _ _).symm (by rw [List.length_append]; simp only [List.length_singleton]; have := LB.out; omega) (fun j hj => oa9.cell j (by rw [bigL_len]; exact hj)) ty)
                      clear oa9 ba9 Y2
                      go_wp2_with (first | (at_builtin; refine wpList_appG (TS := 33) (.tmp 133) (.tmp 137) _ _ _ PU9.out rfl rfl rfl rfl ?_; rintro vb9 wb9 yb9; clear PU9 Ya9; have Y3 := hide yb9; clear yb9; have r2 := blk_cell Y3.out.k 2 _ rfl))
                      refine (rbig4_any bn (by have := LO.out.2.2.1; omega)).mono ?_
                      rintro e wa10 ⟨ga10, rfl, oa10, ba10⟩
                      have Ya10 := hide (Y3.out.bel ba10)
                      have PU10 := hide (fun ty => Ya10.out.app (m := bigL 4 bn) (gx := ga10) (cx := 4) (k := 4) (bigL_len _ _).symm (by have := LB.out; simp only [List.length_append, bigL_len, List.length_singleton] at this ⊢; omega) (fun j hj => oa10.cell j (by rw [bigL_len]; exact hj)) ty)
                      clear oa10 ba10 Y3
                      go_wp2_with (first | (at_builtin; refine wpList_appG (TS := 33) (.tmp 139) (.tmp 143) _ _ _ PU10.out rfl rfl rfl rfl ?_; rintro vb10 wb10 yb10; clear PU10 Ya10; have Y4 := hide yb10; clear yb10; have r3 := blk_cell Y4.out.k 3 _ rfl))
                      refine (rbig8_any tn LO.out.2.2.2.1).mono ?_
                      rintro e wa11 ⟨ga11, rfl, oa11, ba11⟩
                      have Ya11 := hide (Y4.out.bel ba11)
                      have PU11 := hide (fun ty => Ya11.out.app (m := bigL 8 tn) (gx := ga11) (cx := 8) (k := 8) (bigL_len _ _).symm (by have := LB.out; simp only [List.length_append, bigL_len, List.length_singleton] at this ⊢; omega) (fun j hj => oa11.cell j (by rw [bigL_len]; exact hj)) ty)
                      clear oa11 ba11 Y4
                      go_wp2_with (first | (at_builtin; refine wpList_appG (TS := 33) (.tmp 145) (.tmp 148) _ _ _ PU11.out rfl rfl rfl rfl ?_; rintro vb11 wb11 yb11; clear PU11 Ya11; have Y5 := hide yb11; clear yb11; have r4 := blk_cell Y5.out.k 4 _ rfl))
                      refine (rbig4_any sn (by have := LO.out.2.2.2.2; omega)).mono ?_
                      rintro e wa12 ⟨ga12, rfl, oa12, ba12⟩
                      have Ya12 := hide (Y5.out.bel ba12)
                      have PU12 := hide (fun ty => Ya12.out.app (m := bigL 4 sn) (gx := ga12) (cx := 4) (k := 4) (bigL_len _ _).symm (by have := LB.out; simp only [List.length_append, bigL_len, List.length_singleton] at this ⊢; omega) (fun j hj => oa12.cell j (by rw [bigL_len]; exact hj)) ty)
                      clear oa12 ba12 Y5
                      go_wp2_with (first | (at_builtin; refine wpList_appG (TS := 33) (.tmp 150) (.tmp 154) _ _ _ PU12.out rfl rfl rfl rfl ?_; rintro vb12 wb12 yb12; clear PU12 Ya12; have Y6 := hide yb12; clear yb12))
                      go_roundw
                      case rel => exact ⟨k + 1, by omega, by go_num, hide (by
                        have := Y6.out.to KC.out
                        have h1 := LO.out.1
                        rw [TK.out]
                        unfold wIns
                        rw [show bigL 1 (on : Int) = [(on : Int)] by simp [bigL]; omega]
                        simpa only [List.append_assoc] using this)⟩
                      case measure => simp [intOf]; omega
                    · obtain rfl : k = c.B.length := by omega
                      rw [List.take_length] at Y
                      clear HB
                      go_wp2_with fail
                      go_ret
                      refine ⟨u3, rfl, ?_, BW.out.trans (Y.out.b.mono BW.out.size)⟩
                      have := Y.out.own
                      rw [HL3.out, HL2.out, HL1.out, HL0.out, HZ.out] at this
                      rw [show bytesL c = (hdL c).flatMap (bigL 4) ++ c.P.flatMap (bigL 4) ++ c.C.flatMap wChan ++ c.F.flatMap wFn ++ c.B.flatMap wIns by simp [bytesL, hdL, List.append_assoc]]
                      exact this
end Go.Proofs.YtigfjjolfeenaaaDoor.Ck

/- What the statements of layer 14 ask of a code's length (long). -/
namespace Go.Proofs.YtigfjjolfeenaaaDoor.Ck
open Go.RowKit

theorem wrapS {z : Int} (h1 : 0 ≤ z) (h2 : z ≤ 9000000000000000000) : wrap64 z = z := by unfold wrap64; omega
theorem add_len {m n : Nat} (h1 : m ≤ 422212465053696) (h2 : n ≤ 140737488351232) : wrap64 (1 + (n : Int)) = 1 + (n : Int) ∧ wrap64 ((m : Int) + (1 + (n : Int))) = ((m + (1 + n) : Nat) : Int) := by
  refine ⟨wrapS (by omega) (by omega), ?_⟩
  have e := wrapS (z := (m : Int) + (1 + (n : Int))) (by omega) (by omega)
  rw [e]
  omega
theorem big_of {m2 m N s n : Nat} (h1 : m2 = m + (1 + n)) (h2 : m = N + s) (h : 20000 < m2) : 20000 < N + s + (1 + n) := by omega
theorem next_of {m2 m N s s2 n : Nat} (h1 : m2 = m + (1 + n)) (h2 : m = N + s) (h3 : s2 = s + (1 + n)) : m2 = N + s2 := by omega
theorem dec_cast (m : Nat) : decide ((20000 : Int) < (m : Int)) = decide (20000 < m) := decide_eq_decide.2 (by omega)
theorem succ_len {k n : Nat} (h : k < n) (h2 : n ≤ 140737488351232) : wrap64 ((k : Int) + 1) = ((k + 1 : Nat) : Int) := by
  rw [wrapS (z := (k : Int) + 1) (by omega) (by omega)]
  omega
theorem three_len {a b d n : Nat} (h1 : a ≤ 140737488351232) (h2 : b ≤ 140737488351232) (h3 : d ≤ 140737488351232) (hn : n = a + b + d) : wrap64 ((a : Int) + (b : Int)) = (a : Int) + (b : Int) ∧ wrap64 ((a : Int) + (b : Int) + (d : Int)) = (n : Int) ∧ n ≤ 422212465053696 := by
  refine ⟨wrapS (by omega) (by omega), ?_, by omega⟩
  rw [wrapS (by omega) (by omega)]
  omega
theorem meas_len {n k : Nat} {z : Int} (h : z = ((k + 1 : Nat) : Int)) (hlt : k < n) : n - (intOf (.int .i64 z)).toNat < n - (intOf (.int .i64 (k : Int))).toNat := by
  subst h
  simp only [intOf, Int.toNat_natCast]
  omega
def sumL (F : List Fn3) : Nat := (F.map (fun f => 1 + f.lo.length)).sum
def lenC (c : Cd) : Nat := c.P.length + c.C.length + c.B.length + sumL c.F
def longB (c : Cd) : Bool := decide (20000 < lenC c)
theorem sum_take (F : List Fn3) (k : Nat) (h : k < F.length) : sumL (F.take (k + 1)) = sumL (F.take k) + (1 + (F.getD k zF).lo.length) := by
  unfold sumL
  rw [List.take_add_one, List.getD_eq_getElem?_getD, List.getElem?_eq_getElem h]
  simp only [Option.toList_some, List.map_append, List.map_cons, List.map_nil, List.sum_append, List.sum_cons, List.sum_nil, Option.getD_some, Nat.add_zero]
theorem sum_le (F : List Fn3) (k : Nat) : sumL (F.take k) ≤ sumL F := by
  have h := congrArg (fun l => sumL l) (List.take_append_drop k F)
  simp only [sumL, List.map_append, List.sum_append] at h ⊢
  omega
set_option maxRecDepth 20000 in
set_option maxHeartbeats 4000000 in
theorem long_any {w : World} {vP vC vF vB : Value} {c : Cd} (h : Cv w vP vC vF vB c) : Calls Tryd.prog 6 #[codeA vP vC vF vB c] w (Vb w (.bool (longB c))) := by
  have B0 := hide (bel_new w (codeO vP vC vF vB c))
  have V0 := hide (fun wz (hb : Below (w.alloc (codeO vP vC vF vB c)).heap.size (w.alloc (codeO vP vC vF vB c)) wz) => h.bel (bel_trans B0.out hb))
  have X0 := hide (fun wz (hb : Below (w.alloc (codeO vP vC vF vB c)).heap.size (w.alloc (codeO vP vC vF vB c)) wz) => (hb.block w.heap.size (by simp)).trans (show (w.alloc (codeO vP vC vF vB c)).heap[w.heap.size]? = some (codeO vP vC vF vB c) from Go.Deep.blk_alloc_new _ _))
  have hL := h.L
  obtain ⟨aP, cP, rfl, _, hmP⟩ := h.P.form
  obtain ⟨aC, cC, rfl, _, hmC⟩ := h.C.form
  obtain ⟨aF, cF, rfl, _, hmF⟩ := h.F.form
  obtain ⟨aB, cB, rfl, _, hmB⟩ := h.B.form
  have hF := hide (fun wz (hb : Below (w.alloc (.cells #[.slice aP c.P.length cP, .int .i64 c.M, .int .i64 c.A, .slice aC c.C.length cC, .slice aF c.F.length cF, .int .i64 c.mn, .slice aB c.B.length cB] 27)).heap.size (w.alloc (.cells #[.slice aP c.P.length cP, .int .i64 c.M, .int .i64 c.A, .slice aC c.C.length cC, .slice aF c.F.length cF, .int .i64 c.mn, .slice aB c.B.length cB] 27)) wz) i (hi : i < c.F.length) => (by
    obtain ⟨a, cp, e, _, _, h⟩ := (V0.out wz hb).F
    cases e
    exact h i hi : ∃ b off vl, aF = some ⟨b, off, none⟩ ∧ b < _ ∧ _))
  have HLo := hide (fun k (hk : k < c.F.length) => (show (c.F.getD k zF).lo.length ≤ 140737488351232 by
    refine hL.L _ ?_
    rw [List.getD_eq_getElem?_getD, List.getElem?_eq_getElem hk]
    exact List.getElem_mem hk))
  have l1 := hL.P
  have l2 := hL.C
  have l3 := hL.B
  have HLF := hide hL.F
  obtain ⟨N0, hN0⟩ : ∃ N0, N0 = c.P.length + c.C.length + c.B.length := ⟨_, rfl⟩
  have HY := hide (fun k (hk : k < c.F.length) (hs : 20000 < N0 + sumL (c.F.take k) + (1 + (c.F.getD k zF).lo.length)) => (show longB c = true by
    have h1 := sum_take c.F k hk
    have h2 := sum_le c.F (k + 1)
    unfold longB lenC
    rw [decide_eq_true_eq]
    omega))
  have HZ : Hid (longB c = decide (20000 < N0 + sumL c.F)) := hide (by unfold longB lenC; rw [hN0])
  obtain ⟨hn1, hn2, hN1⟩ := three_len l1 l2 l3 hN0
  generalize longB c = r at *
  clear h hL hmP hmC hmF hmB hN0 l1 l2 l3
  unfold codeA codeO at *
  go_enter Tryd.func6, Tryd.ntmps6
  go_wp2_with fail
  generalize w.alloc (.cells #[.slice aP c.P.length cP, .int .i64 c.M, .int .i64 c.A, .slice aC c.C.length cC, .slice aF c.F.length cF, .int .i64 c.mn, .slice aB c.B.length cB] 27) = W1 at *
  generalize hnF : c.F.length = nF at *
  have HnF := hide hnF
  have HN2 := hide hn2
  have HN1 := hide hN1
  clear hnF hn1 hn2 hN1
  go_loopw [3, 5, 20] (fun a u5 i wr => ∃ (k m : Nat), k ≤ nF ∧ i = .int .i64 k ∧ a = .int .i64 m ∧ Hid (m = N0 + sumL (c.F.take k)) ∧ Hid (k = 0 ∨ m ≤ 20000) ∧ Hid (Below W1.heap.size W1 wr)) (fun a u5 i _ => nF - (intOf i).toNat)
  case atStart => exact ⟨0, N0, Nat.zero_le _, rfl, congrArg (Value.int .i64) HN2.out, hide (by simp [sumL]), hide (.inl rfl), hide (Below.refl _ _)⟩
  case round =>
    obtain ⟨k, m, hk, rfl, rfl, hm, hm2, hbel⟩ := hrel
    by_cases hlt : k < nF
    · have h1 : (k : Int) < (nF : Int) := by omega
      obtain ⟨b1, o1, vk, rfl, hbk, f1, f2, f3, f4⟩ := hF.out _ hbel.out k hlt
      have hlo := HLo.out k hlt
      have hy := hide (HY.out k hlt)
      have hst := hide (sum_take c.F k (by rw [HnF.out]; exact hlt))
      obtain ⟨ak, ck, rfl, _, _⟩ := f4.form
      generalize c.F.getD k zF = f at *
      have HM : Hid (m ≤ 422212465053696) := hide (hm2.out.elim (fun h => by
        have h9 := hm.out
        rw [h] at h9
        simp [sumL] at h9
        rw [h9]
        exact HN1.out) (fun h => Nat.le_trans h (by decide)))
      obtain ⟨e1, e2⟩ := add_len HM.out hlo
      obtain ⟨m2, hm3⟩ : ∃ m2 : Nat, m2 = m + (1 + f.lo.length) := ⟨_, rfl⟩
      rw [← hm3] at e2
      have HM3 := hide hm3
      have Bb := hide (bel_trans hbel.out (bel_new wr (.cells #[.int .i64 f.st, .int .i64 f.pa, .slice ak f.lo.length ck] 47)))
      clear hlo hm3 HM f4 HLo hF HY HZ hm2
      generalize f.lo.length = nk at *
      by_cases hbig : 20000 < m2
      · have hb1 : decide ((20000 : Int) < (m2 : Int)) = true := by rw [dec_cast]; exact decide_eq_true hbig
        have hr := hy.out (big_of HM3.out hm.out hbig)
        subst hr
        clear hbig
        go_wp2_with fail
        go_ret
        exact ⟨rfl, bel_trans B0.out Bb.out⟩
      · have hb1 : decide ((20000 : Int) < (m2 : Int)) = false := by rw [dec_cast]; exact decide_eq_false hbig
        have E2 := hide e2
        have HK1 := hide (succ_len hlt HLF.out)
        have HB2 : Hid (m2 ≤ 20000) := hide (Nat.le_of_not_lt hbig)
        clear hbig
        go_wp2_with fail
        clear e1 e2 hb1 h1
        refine ⟨⟨k + 1, m2, Nat.succ_le_of_lt hlt, ?_, ?_, hide (next_of HM3.out hm.out hst.out), hide (Or.inr HB2.out), Bb⟩, ?_⟩
        · rw [HK1.out]
        · rw [E2.out]
        · exact meas_len HK1.out hlt
    · obtain rfl : k = nF := by omega
      have hm' : m = N0 + sumL c.F := by rw [hm.out, ← HnF.out, List.take_length]
      rw [← hm'] at HZ
      have hz := HZ.out
      have HBB := hide (bel_trans B0.out hbel.out)
      rw [← dec_cast] at hz
      subst hz
      clear hF HY HLo hm hm2 hm' HnF
      go_wp2_with fail
      go_ret
      exact ⟨rfl, HBB.out⟩
end Go.Proofs.YtigfjjolfeenaaaDoor.Ck

/- A code's block filled; lists that are not too long; no Go text is walked here. (Written by mk_ls.py.) -/
namespace Go.Proofs.YtigfjjolfeenaaaDoor.Ck
open Go.RowKit

theorem set7 {w : World} {g : Nat} {z0 z1 z2 z3 z4 z5 z6 : Value} {T : TypeId} (h : w.heap[g]? = some (.cells #[z0, z1, z2, z3, z4, z5, z6] T (0, 0))) (v0 v1 v2 v3 v4 v5 v6 : Value) :
    (((((((w.setCell ⟨g, 0, none⟩ v0).setCell ⟨g, 1, none⟩ v1).setCell ⟨g, 2, none⟩ v2).setCell ⟨g, 3, none⟩ v3).setCell ⟨g, 4, none⟩ v4).setCell ⟨g, 5, none⟩ v5).setCell ⟨g, 6, none⟩ v6).heap[g]? = some (.cells #[v0, v1, v2, v3, v4, v5, v6] T (0, 0)) ∧ Tn g w (((((((w.setCell ⟨g, 0, none⟩ v0).setCell ⟨g, 1, none⟩ v1).setCell ⟨g, 2, none⟩ v2).setCell ⟨g, 3, none⟩ v3).setCell ⟨g, 4, none⟩ v4).setCell ⟨g, 5, none⟩ v5).setCell ⟨g, 6, none⟩ v6) := by
  obtain ⟨k0, t0⟩ := set1 h 0 v0
  have k0 : _ = some (Obj.cells #[v0, z1, z2, z3, z4, z5, z6] T (0, 0)) := k0
  obtain ⟨k1, t1⟩ := set1 k0 1 v1
  have k1 : _ = some (Obj.cells #[v0, v1, z2, z3, z4, z5, z6] T (0, 0)) := k1
  obtain ⟨k2, t2⟩ := set1 k1 2 v2
  have k2 : _ = some (Obj.cells #[v0, v1, v2, z3, z4, z5, z6] T (0, 0)) := k2
  obtain ⟨k3, t3⟩ := set1 k2 3 v3
  have k3 : _ = some (Obj.cells #[v0, v1, v2, v3, z4, z5, z6] T (0, 0)) := k3
  obtain ⟨k4, t4⟩ := set1 k3 4 v4
  have k4 : _ = some (Obj.cells #[v0, v1, v2, v3, v4, z5, z6] T (0, 0)) := k4
  obtain ⟨k5, t5⟩ := set1 k4 5 v5
  have k5 : _ = some (Obj.cells #[v0, v1, v2, v3, v4, v5, z6] T (0, 0)) := k5
  obtain ⟨k6, t6⟩ := set1 k5 6 v6
  have k6 : _ = some (Obj.cells #[v0, v1, v2, v3, v4, v5, v6] T (0, 0)) := k6
  exact ⟨k6, (((((t0.trans t1).trans t2).trans t3).trans t4).trans t5).trans t6⟩
theorem sum_mem : ∀ (F : List Fn3) (f : Fn3), f ∈ F → f.lo.length ≤ sumL F
  | [], _, h => by cases h
  | x :: F, f, h => by
    simp only [sumL, List.map_cons, List.sum_cons]
    rcases List.mem_cons.1 h with rfl | h
    · omega
    · have := sum_mem F f h
      unfold sumL at this
      omega
theorem sum_len : ∀ (F : List Fn3), F.length ≤ sumL F
  | [] => Nat.zero_le _
  | x :: F => by
    have := sum_len F
    simp only [sumL, List.map_cons, List.sum_cons, List.length_cons] at this ⊢
    omega
theorem sml_of {c : Cd} (h : longB c = false) : Sml c := by
  unfold longB lenC at h
  have h' := of_decide_eq_false h
  have h2 := sum_len c.F
  exact ⟨by omega, by omega, by omega, by omega, fun f hf => by have := sum_mem c.F f hf; omega⟩
end Go.Proofs.YtigfjjolfeenaaaDoor.Ck

/- Package code: the operators and their numbers. -/
namespace Go.Proofs.YtigfjjolfeenaaaDoor.Ck
open Go.RowKit

def ops10 : List ByteArray := [⟨#[45]⟩, ⟨#[33]⟩, ⟨#[105, 110, 116]⟩, ⟨#[102, 108, 111, 97, 116]⟩]
def ops11 : List ByteArray := [⟨#[43]⟩, ⟨#[45]⟩, ⟨#[42]⟩, ⟨#[47]⟩, ⟨#[37]⟩, ⟨#[61, 61]⟩, ⟨#[33, 61]⟩, ⟨#[60]⟩, ⟨#[60, 61]⟩, ⟨#[62]⟩, ⟨#[62, 61]⟩]
def opsL (op : Int) : List ByteArray := if op = 10 then ops10 else if op = 11 then ops11 else []
/-- a slice of texts -/
def SlS (w : World) (v : Value) (l : List ByteArray) : Prop := ∃ a cap, v = .slice a l.length cap ∧ l.length ≤ cap ∧ ∀ i, i < l.length → ∃ b off, a = some ⟨b, off, none⟩ ∧ w.cell? ⟨b, off + i, none⟩ = some (.string (l.getD i ⟨#[]⟩))
theorem SlS.new (w : World) (l : List ByteArray) : SlS (w.alloc (.cells (l.map Value.string).toArray 9)) (.slice (some ⟨w.heap.size, 0, none⟩) l.length l.length) l := by
  refine ⟨_, _, rfl, Nat.le_refl _, fun i hi => ⟨_, _, rfl, ?_⟩⟩
  rw [Nat.zero_add]
  refine blk_cell (Go.Deep.blk_alloc_new _ _) i _ ?_
  rw [List.getElem?_toArray, List.getElem?_map, List.getD_eq_getElem?_getD, List.getElem?_eq_getElem hi]
  rfl
/-- the number of a text among some: 0 where it is none of them -/
def numF : List ByteArray → ByteArray → Nat → Int
  | [], _, _ => 0
  | x :: l, s, k => if s.toList = x.toList then (k : Int) + 1 else numF l s (k + 1)
theorem numF_at : ∀ (l : List ByteArray) (s : ByteArray) (m k : Nat), k < l.length → (∀ j, j < k → s.toList ≠ (l.getD j ⟨#[]⟩).toList) → s.toList = (l.getD k ⟨#[]⟩).toList → numF l s m = (m : Int) + k + 1
  | [], _, _, k, h, _, _ => absurd h (Nat.not_lt_zero _)
  | x :: l, s, m, 0, _, _, h => by
    unfold numF
    rw [if_pos (show s.toList = x.toList from h)]
    omega
  | x :: l, s, m, k + 1, h, h1, h2 => by
    unfold numF
    rw [if_neg (show ¬ s.toList = x.toList from h1 0 (by omega)), numF_at l s (m + 1) k (by simpa using h) (fun j hj => h1 (j + 1) (by omega)) h2]
    omega
theorem numF_none : ∀ (l : List ByteArray) (s : ByteArray) (m : Nat), (∀ j, j < l.length → s.toList ≠ (l.getD j ⟨#[]⟩).toList) → numF l s m = 0
  | [], _, _, _ => rfl
  | x :: l, s, m, h => by
    unfold numF
    rw [if_neg (show ¬ s.toList = x.toList from h 0 (by simp)), numF_none l s (m + 1) (fun j hj => h (j + 1) (by simpa using hj))]
theorem numF_rng : ∀ (l : List ByteArray) (s : ByteArray) (m : Nat), 0 ≤ numF l s m ∧ numF l s m ≤ (m : Int) + l.length
  | [], _, _ => by simp [numF]
  | x :: l, s, m => by
    have h := numF_rng l s (m + 1)
    unfold numF
    split
    · simp; omega
    · simp at h ⊢; omega
theorem opsL_len (op : Int) : (opsL op).length ≤ 11 := by
  unfold opsL
  split
  · decide
  · split <;> decide
set_option maxRecDepth 20000 in
theorem operators_any (op : Int) (w : World) : Calls Tryd.prog 33 #[.int .i64 op] w fun e w' => ∃ v, e = .returned v ∧ SlS w' v (opsL op) ∧ Below w.heap.size w w' := by
  by_cases h1 : op = 10
  · subst h1
    go_enter Tryd.func33, Tryd.ntmps33
    go_wp2_with fail
    go_ret
    exact ⟨_, rfl, SlS.new w ops10, bel_new _ _⟩
  by_cases h2 : op = 11
  · subst h2
    clear h1
    go_enter Tryd.func33, Tryd.ntmps33
    go_wp2_with fail
    go_ret
    exact ⟨_, rfl, SlS.new w ops11, bel_new _ _⟩
  · have e : opsL op = [] := by unfold opsL; rw [if_neg h1, if_neg h2]
    rw [e]
    have e1 : (op == 10) = false := beq_false_of_ne h1
    have e2 : (op == 11) = false := beq_false_of_ne h2
    clear h1 h2 e
    go_enter Tryd.func33, Tryd.ntmps33
    go_wp2_with fail
    go_ret
    exact ⟨_, rfl, ⟨none, 0, rfl, Nat.le_refl _, fun i hi => absurd hi (Nat.not_lt_zero _)⟩, Below.refl _ _⟩
set_option maxRecDepth 20000 in
set_option maxHeartbeats 1000000 in
theorem index_any {w : World} {v : Value} {l : List ByteArray} (s : ByteArray) (h : SlS w v l) (hl : l.length ≤ 16) : Calls Tryd.prog 52 #[v, .string s] w fun e w' => e = .returned (.int .i64 (numF l s 0 - 1)) ∧ w = w' := by
  obtain ⟨a, cap, rfl, hca, hac⟩ := h
  obtain ⟨n, hn⟩ : ∃ n, n = l.length := ⟨_, rfl⟩
  have HA := hide (fun (k : Nat) (hk : k < n) (h1 : ∀ j, j < k → s.toList ≠ (l.getD j ⟨#[]⟩).toList) (h2 : s.toList = (l.getD k ⟨#[]⟩).toList) => (show numF l s 0 - 1 = k by rw [numF_at l s 0 k (by omega) h1 h2]; omega))
  have HZ := hide (fun (h1 : ∀ j, j < n → s.toList ≠ (l.getD j ⟨#[]⟩).toList) => (show numF l s 0 - 1 = -1 by rw [numF_none l s 0 (fun j hj => h1 j (by omega))]; omega))
  have hac' : ∀ i, i < n → _ := fun i hi => hac i (by omega)
  rw [← hn] at hca hl ⊢
  generalize numF l s 0 - 1 = r at *
  have HC := hide hac'
  clear hac hac' hn
  go_enter Tryd.func52, Tryd.ntmps52
  go_wp2_with fail
  go_loopw [5, 8] (fun u i wr => ∃ k : Nat, k ≤ n ∧ i = .int .i64 k ∧ Hid (∀ j, j < k → s.toList ≠ (l.getD j ⟨#[]⟩).toList) ∧ Hid (w = wr)) (fun u i _ => n - (intOf i).toNat)
  case atStart => exact ⟨0, Nat.zero_le _, rfl, fun j hj => absurd hj (Nat.not_lt_zero _), rfl⟩
  case round =>
    obtain ⟨k, hk, rfl, hall, hw⟩ := hrel
    obtain rfl := hw.out
    clear hw
    by_cases hlt : k < n
    · have h9 : (k : Int) < (n : Int) := by omega
      obtain ⟨b, off, rfl, hck⟩ := HC.out k hlt
      have hA := hide (HA.out k hlt hall.out)
      have hstep : Hid (s.toList ≠ (l.getD k ⟨#[]⟩).toList → ∀ j, j < k + 1 → s.toList ≠ (l.getD j ⟨#[]⟩).toList) := fun e j hj => by
        by_cases ej : j = k
        · rw [ej]; exact e
        · exact hall.out j (by omega)
      clear HA HZ HC hall
      generalize l.getD k ⟨#[]⟩ = y at *
      by_cases y1 : s.toList = y.toList
      · have e1 : (s.toList == y.toList) = true := by rw [y1]; simp
        have hr := hide (hA.out y1)
        clear y1 hA hstep
        go_wp2_with fail
        go_ret
        exact ⟨by rw [hr.out]; rfl, rfl⟩
      · have e1 : (s.toList == y.toList) = false := beq_false_of_ne y1
        have hst := hide (hstep.out y1)
        clear y1 hA hstep
        go_wp2_with fail
        go_roundw
        case rel => exact ⟨k + 1, by omega, by go_num, hst.out, trivial⟩
        case measure => simp [intOf]; omega
    · obtain rfl : k = n := by omega
      have hr := hide (HZ.out hall.out)
      clear HA HZ HC hall
      go_wp2_with fail
      go_ret
      exact ⟨by rw [hr.out]; rfl, rfl⟩
set_option maxRecDepth 20000 in
theorem numbered_any (op : Int) (s : ByteArray) (w : World) : Calls Tryd.prog 32 #[.int .i64 op, .string s] w (Vb w (.int .i64 (numF (opsL op) s 0))) := by
  have hr := numF_rng (opsL op) s 0
  have hl := opsL_len op
  have IX := hide (fun (v : Value) (wz : World) (h : SlS wz v (opsL op)) => index_any s h (Nat.le_trans hl (by decide)))
  obtain ⟨r, hr0⟩ : ∃ r, r = numF (opsL op) s 0 := ⟨_, rfl⟩
  rw [← hr0] at hr IX ⊢
  have E2 : Hid (wrap64 r = r) := hide (by unfold wrap64; omega)
  clear hr hl hr0
  go_enter Tryd.func32, Tryd.ntmps32
  go_wp2_with fail
  refine (operators_any op w).mono ?_
  rintro e w2 ⟨v, rfl, hs, hb⟩
  have HB := hide hb
  have HX := hide (IX.out v w2 hs)
  obtain ⟨a, cap, rfl, _, _⟩ := hs
  clear hb IX
  go_wp2_with fail
  refine HX.out.mono ?_
  rintro e w3 ⟨rfl, rfl⟩
  clear HX
  go_wp2_with fail
  go_ret
  exact ⟨congrArg (fun z => Ending.returned (.int .i64 z)) E2.out, HB.out⟩
theorem binary_any (s : ByteArray) (w : World) : Calls Tryd.prog 17 #[.string s] w (Vb w (.int .i64 (numF ops11 s 0))) := by
  have HN := hide (numbered_any 11 s w)
  rw [show opsL 11 = ops11 from rfl] at HN
  go_enter Tryd.func17, Tryd.ntmps17
  go_wp2_with fail
  refine HN.out.mono ?_
  rintro e w2 ⟨rfl, hb⟩
  have HB := hide hb
  clear hb HN
  go_wp2_with fail
  go_ret
  exact ⟨rfl, HB.out⟩
/-- the operator of a number -/
def opN (op a : Int) : ByteArray := if 1 ≤ a ∧ a ≤ ((opsL op).length : Int) then (opsL op).getD (a - 1).toNat ⟨#[]⟩ else ⟨#[]⟩
set_option maxRecDepth 20000 in
theorem operator_any (op a : Int) (w : World) : Calls Tryd.prog 18 #[.int .i64 op, .int .i64 a] w (Vb w (.string (opN op a))) := by
  have hl := opsL_len op
  obtain ⟨r, hr⟩ : ∃ r, r = opN op a := ⟨_, rfl⟩
  rw [← hr]
  unfold opN at hr
  have HR := hide hr
  clear hr
  go_enter Tryd.func18, Tryd.ntmps18
  go_wp2_with fail
  refine (operators_any op w).mono ?_
  rintro e w2 ⟨v, rfl, hs, hb⟩
  have HB := hide hb
  obtain ⟨ad, cap, rfl, hcap, hcs⟩ := hs
  generalize opsL op = l at *
  obtain ⟨n, hn⟩ : ∃ n, n = l.length := ⟨_, rfl⟩
  rw [← hn] at HR hl hcs hcap ⊢
  clear hb hn
  by_cases h1 : 1 ≤ a
  · have h1' : decide (a < 1) = false := decide_eq_false (by omega)
    by_cases h2 : a ≤ (n : Int)
    · have h2' : decide ((n : Int) < a) = false := decide_eq_false (by omega)
      obtain ⟨k, hk⟩ : ∃ k : Nat, a - 1 = k := ⟨(a - 1).toNat, by omega⟩
      obtain ⟨b, off, rfl, hc⟩ := hcs k (by omega)
      have e1 : wrap64 (a - 1) = (k : Int) := by unfold wrap64; omega
      have hkn : (k : Int) < (n : Int) := by omega
      rw [if_pos ⟨h1, h2⟩, hk, Int.toNat_natCast] at HR
      rw [← HR.out] at hc
      clear hcs h1 h2 hk HR
      go_wp2_with fail
      go_ret
      exact ⟨rfl, HB.out⟩
    · have h2' : decide ((n : Int) < a) = true := decide_eq_true (by omega)
      rw [if_neg (fun h => h2 h.2)] at HR
      have hr := HR.out
      subst hr
      clear hcs h1 h2 HR
      go_wp2_with fail
      go_ret
      exact ⟨rfl, HB.out⟩
  · have h1' : decide (a < 1) = true := decide_eq_true (by omega)
    rw [if_neg (fun h => h1 h.1)] at HR
    have hr := HR.out
    subst hr
    clear hcs h1 HR
    go_wp2_with fail
    go_ret
    exact ⟨rfl, HB.out⟩
end Go.Proofs.YtigfjjolfeenaaaDoor.Ck

/- The operators' numbers, as plain choices. -/
namespace Go.Proofs.YtigfjjolfeenaaaDoor.Ck
open Go.RowKit

theorem tl_0 : (⟨#[45]⟩ : ByteArray).toList = [45] := by first | rfl | simp | decide +kernel
theorem tl_1 : (⟨#[33]⟩ : ByteArray).toList = [33] := by first | rfl | simp | decide +kernel
theorem tl_2 : (⟨#[105, 110, 116]⟩ : ByteArray).toList = [105, 110, 116] := by first | rfl | simp | decide +kernel
theorem tl_3 : (⟨#[102, 108, 111, 97, 116]⟩ : ByteArray).toList = [102, 108, 111, 97, 116] := by first | rfl | simp | decide +kernel
theorem tl_4 : (⟨#[43]⟩ : ByteArray).toList = [43] := by first | rfl | simp | decide +kernel
theorem tl_5 : (⟨#[42]⟩ : ByteArray).toList = [42] := by first | rfl | simp | decide +kernel
theorem tl_6 : (⟨#[47]⟩ : ByteArray).toList = [47] := by first | rfl | simp | decide +kernel
theorem tl_7 : (⟨#[37]⟩ : ByteArray).toList = [37] := by first | rfl | simp | decide +kernel
theorem tl_8 : (⟨#[61, 61]⟩ : ByteArray).toList = [61, 61] := by first | rfl | simp | decide +kernel
theorem tl_9 : (⟨#[33, 61]⟩ : ByteArray).toList = [33, 61] := by first | rfl | simp | decide +kernel
theorem tl_10 : (⟨#[60]⟩ : ByteArray).toList = [60] := by first | rfl | simp | decide +kernel
theorem tl_11 : (⟨#[60, 61]⟩ : ByteArray).toList = [60, 61] := by first | rfl | simp | decide +kernel
theorem tl_12 : (⟨#[62]⟩ : ByteArray).toList = [62] := by first | rfl | simp | decide +kernel
theorem tl_13 : (⟨#[62, 61]⟩ : ByteArray).toList = [62, 61] := by first | rfl | simp | decide +kernel

theorem num10 (s : ByteArray) : numF ops10 s 0 = if s.toList = [45] then 1 else (if s.toList = [33] then 2 else (if s.toList = [105, 110, 116] then 3 else (if s.toList = [102, 108, 111, 97, 116] then 4 else 0))) := by
  simp only [numF, ops10, tl_0, tl_1, tl_2, tl_3]
  rfl
theorem num11 (s : ByteArray) : numF ops11 s 0 = if s.toList = [43] then 1 else (if s.toList = [45] then 2 else (if s.toList = [42] then 3 else (if s.toList = [47] then 4 else (if s.toList = [37] then 5 else (if s.toList = [61, 61] then 6 else (if s.toList = [33, 61] then 7 else (if s.toList = [60] then 8 else (if s.toList = [60, 61] then 9 else (if s.toList = [62] then 10 else (if s.toList = [62, 61] then 11 else 0)))))))))) := by
  simp only [numF, ops11, tl_0, tl_4, tl_5, tl_6, tl_7, tl_8, tl_9, tl_10, tl_11, tl_12, tl_13]
  rfl
end Go.Proofs.YtigfjjolfeenaaaDoor.Ck

/- The examples of the chapter (alive). -/
namespace Go.Proofs.YtigfjjolfeenaaaDoor.Ck
open Go.RowKit

theorem num_eqeq : numF ops11 ⟨#[61, 61]⟩ 0 = 6 := by
  rw [num11]
  simp
theorem op_int : opN 10 3 = ⟨#[105, 110, 116]⟩ := by
  unfold opN
  rw [show opsL 10 = ops10 from rfl, if_pos (by decide)]
  rfl
theorem alive_at {w : World} {p : List Addr} (hc : Ec w p) : Cv (((w.alloc (.cells #[.int .i64 0, .int .i64 0, .slice none 0 0] 47)).alloc (.cells #[.int .i64 25, .int .i64 0, .int .i64 0, .int .u64 0, .int .i64 0] 50)).alloc (.cells #[.slice none 0 0, .int .i64 0, .int .i64 0, .slice none 0 0, .slice (some ⟨w.heap.size, 0, none⟩) 1 1, .int .i64 0, .slice (some ⟨w.heap.size + 1, 0, none⟩) 1 1] 27)) (.slice none 0 0) (.slice none 0 0) (.slice (some ⟨w.heap.size, 0, none⟩) 1 1) (.slice (some ⟨w.heap.size + 1, 0, none⟩) 1 1) (oneF [⟨25, 0, 0, 0, 0⟩]) ∧ Ec (((w.alloc (.cells #[.int .i64 0, .int .i64 0, .slice none 0 0] 47)).alloc (.cells #[.int .i64 25, .int .i64 0, .int .i64 0, .int .u64 0, .int .i64 0] 50)).alloc (.cells #[.slice none 0 0, .int .i64 0, .int .i64 0, .slice none 0 0, .slice (some ⟨w.heap.size, 0, none⟩) 1 1, .int .i64 0, .slice (some ⟨w.heap.size + 1, 0, none⟩) 1 1] 27)) p ∧ Below w.heap.size w (((w.alloc (.cells #[.int .i64 0, .int .i64 0, .slice none 0 0] 47)).alloc (.cells #[.int .i64 25, .int .i64 0, .int .i64 0, .int .u64 0, .int .i64 0] 50)).alloc (.cells #[.slice none 0 0, .int .i64 0, .int .i64 0, .slice none 0 0, .slice (some ⟨w.heap.size, 0, none⟩) 1 1, .int .i64 0, .slice (some ⟨w.heap.size + 1, 0, none⟩) 1 1] 27)) ∧ (((w.alloc (.cells #[.int .i64 0, .int .i64 0, .slice none 0 0] 47)).alloc (.cells #[.int .i64 25, .int .i64 0, .int .i64 0, .int .u64 0, .int .i64 0] 50)).alloc (.cells #[.slice none 0 0, .int .i64 0, .int .i64 0, .slice none 0 0, .slice (some ⟨w.heap.size, 0, none⟩) 1 1, .int .i64 0, .slice (some ⟨w.heap.size + 1, 0, none⟩) 1 1] 27)).heap[w.heap.size + 1 + 1]? = some (.cells #[.slice none 0 0, .int .i64 0, .int .i64 0, .slice none 0 0, .slice (some ⟨w.heap.size, 0, none⟩) 1 1, .int .i64 0, .slice (some ⟨w.heap.size + 1, 0, none⟩) 1 1] 27 (0, 0)) := by
  have b1 := bel_new w (.cells #[.int .i64 0, .int .i64 0, .slice none 0 0] 47)
  have k1 : (w.alloc (.cells #[.int .i64 0, .int .i64 0, .slice none 0 0] 47)).heap[w.heap.size]? = some (.cells #[.int .i64 0, .int .i64 0, .slice none 0 0] 47 (0, 0)) := Go.Deep.blk_alloc_new _ _
  have s1 : (w.alloc (.cells #[.int .i64 0, .int .i64 0, .slice none 0 0] 47)).heap.size = w.heap.size + 1 := by simp
  generalize w.alloc (.cells #[.int .i64 0, .int .i64 0, .slice none 0 0] 47) = w1 at *
  have b2 := bel_new w1 (.cells #[.int .i64 25, .int .i64 0, .int .i64 0, .int .u64 0, .int .i64 0] 50)
  have k2 : (w1.alloc (.cells #[.int .i64 25, .int .i64 0, .int .i64 0, .int .u64 0, .int .i64 0] 50)).heap[w1.heap.size]? = some (.cells #[.int .i64 25, .int .i64 0, .int .i64 0, .int .u64 0, .int .i64 0] 50 (0, 0)) := Go.Deep.blk_alloc_new _ _
  have s2 : (w1.alloc (.cells #[.int .i64 25, .int .i64 0, .int .i64 0, .int .u64 0, .int .i64 0] 50)).heap.size = w1.heap.size + 1 := by simp
  generalize w1.alloc (.cells #[.int .i64 25, .int .i64 0, .int .i64 0, .int .u64 0, .int .i64 0] 50) = w2 at *
  have b3 := bel_new w2 (.cells #[.slice none 0 0, .int .i64 0, .int .i64 0, .slice none 0 0, .slice (some ⟨w.heap.size, 0, none⟩) 1 1, .int .i64 0, .slice (some ⟨w.heap.size + 1, 0, none⟩) 1 1] 27)
  have k3 : (w2.alloc (.cells #[.slice none 0 0, .int .i64 0, .int .i64 0, .slice none 0 0, .slice (some ⟨w.heap.size, 0, none⟩) 1 1, .int .i64 0, .slice (some ⟨w.heap.size + 1, 0, none⟩) 1 1] 27)).heap[w2.heap.size]? = some (.cells #[.slice none 0 0, .int .i64 0, .int .i64 0, .slice none 0 0, .slice (some ⟨w.heap.size, 0, none⟩) 1 1, .int .i64 0, .slice (some ⟨w.heap.size + 1, 0, none⟩) 1 1] 27 (0, 0)) := Go.Deep.blk_alloc_new _ _
  generalize w2.alloc (.cells #[.slice none 0 0, .int .i64 0, .int .i64 0, .slice none 0 0, .slice (some ⟨w.heap.size, 0, none⟩) 1 1, .int .i64 0, .slice (some ⟨w.heap.size + 1, 0, none⟩) 1 1] 27) = w3 at *
  rw [s1] at k2 s2
  rw [s2] at k3
  have k1' := (b3.block _ (by omega)).trans ((b2.block _ (by omega)).trans k1)
  have k2' := (b3.block _ (by omega)).trans k2
  refine ⟨Cv.one k1' (SlB.one (x := ⟨25, 0, 0, 0, 0⟩) k2') (fun x hx => ?_) (by decide), ((hc.bel b1).bel b2).bel b3, bel_trans (bel_trans b1 b2) b3, k3⟩
  have : x = ⟨25, 0, 0, 0, 0⟩ := by simpa using hx
  subst this
  exact inX_of (by decide) (by decide) (by decide)
set_option maxRecDepth 20000 in
set_option maxHeartbeats 1000000 in
theorem alive_any {w : World} {p : List Addr} (hc : Ec w p) : Calls Tryd.prog 5 #[] w (Vb w (.bool true)) := by
  obtain ⟨v3, e3, b3, k3⟩ := alive_at hc
  have BI := hide (binary_any ⟨#[61, 61]⟩ (((w.alloc (.cells #[.int .i64 0, .int .i64 0, .slice none 0 0] 47)).alloc (.cells #[.int .i64 25, .int .i64 0, .int .i64 0, .int .u64 0, .int .i64 0] 50)).alloc (.cells #[.slice none 0 0, .int .i64 0, .int .i64 0, .slice none 0 0, .slice (some ⟨w.heap.size, 0, none⟩) 1 1, .int .i64 0, .slice (some ⟨w.heap.size + 1, 0, none⟩) 1 1] 27)))
  rw [num_eqeq] at BI
  have OP := hide (fun wz => operator_any 10 3 wz)
  rw [op_int] at OP
  have CK : Hid (∀ wz, Below (((w.alloc (.cells #[.int .i64 0, .int .i64 0, .slice none 0 0] 47)).alloc (.cells #[.int .i64 25, .int .i64 0, .int .i64 0, .int .u64 0, .int .i64 0] 50)).alloc (.cells #[.slice none 0 0, .int .i64 0, .int .i64 0, .slice none 0 0, .slice (some ⟨w.heap.size, 0, none⟩) 1 1, .int .i64 0, .slice (some ⟨w.heap.size + 1, 0, none⟩) 1 1] 27)).heap.size (((w.alloc (.cells #[.int .i64 0, .int .i64 0, .slice none 0 0] 47)).alloc (.cells #[.int .i64 25, .int .i64 0, .int .i64 0, .int .u64 0, .int .i64 0] 50)).alloc (.cells #[.slice none 0 0, .int .i64 0, .int .i64 0, .slice none 0 0, .slice (some ⟨w.heap.size, 0, none⟩) 1 1, .int .i64 0, .slice (some ⟨w.heap.size + 1, 0, none⟩) 1 1] 27)) wz → Calls Tryd.prog 8 #[.agg #[.slice none 0 0, .int .i64 0, .int .i64 0, .slice none 0 0, .slice (some ⟨w.heap.size, 0, none⟩) 1 1, .int .i64 0, .slice (some ⟨w.heap.size + 1, 0, none⟩) 1 1]] wz fun e w' => e = .returned .nilIface ∧ Below wz.heap.size wz w') := hide (fun wz hb => by
    have := check_any (e3.bel hb) (v3.bel hb)
    rw [alive_form] at this
    exact this)
  have X3 := hide (fun wz (hb : Below (((w.alloc (.cells #[.int .i64 0, .int .i64 0, .slice none 0 0] 47)).alloc (.cells #[.int .i64 25, .int .i64 0, .int .i64 0, .int .u64 0, .int .i64 0] 50)).alloc (.cells #[.slice none 0 0, .int .i64 0, .int .i64 0, .slice none 0 0, .slice (some ⟨w.heap.size, 0, none⟩) 1 1, .int .i64 0, .slice (some ⟨w.heap.size + 1, 0, none⟩) 1 1] 27)).heap.size (((w.alloc (.cells #[.int .i64 0, .int .i64 0, .slice none 0 0] 47)).alloc (.cells #[.int .i64 25, .int .i64 0, .int .i64 0, .int .u64 0, .int .i64 0] 50)).alloc (.cells #[.slice none 0 0, .int .i64 0, .int .i64 0, .slice none 0 0, .slice (some ⟨w.heap.size, 0, none⟩) 1 1, .int .i64 0, .slice (some ⟨w.heap.size + 1, 0, none⟩) 1 1] 27)) wz) => cells7 ((hb.block _ (lt_of_blk k3)).trans k3))
  have B3 := hide b3
  clear v3 e3 b3 k3 hc
  go_enter Tryd.func5, Tryd.ntmps5
  go_wp2_with fail
  refine BI.out.mono ?_
  rintro e w4 ⟨rfl, hb4⟩
  generalize ((w.alloc (.cells #[.int .i64 0, .int .i64 0, .slice none 0 0] 47)).alloc (.cells #[.int .i64 25, .int .i64 0, .int .i64 0, .int .u64 0, .int .i64 0] 50)).alloc (.cells #[.slice none 0 0, .int .i64 0, .int .i64 0, .slice none 0 0, .slice (some ⟨w.heap.size, 0, none⟩) 1 1, .int .i64 0, .slice (some ⟨w.heap.size + 1, 0, none⟩) 1 1] 27) = w3 at *
  have B4 := hide hb4
  clear hb4 BI
  go_wp2_with fail
  refine (OP.out w4).mono ?_
  rintro e w5 ⟨rfl, hb5⟩
  have B5 := hide (bel_trans B4.out hb5)
  clear hb5 OP B4
  obtain ⟨g0, g1, g2, g3, g4, g5, g6⟩ := X3.out _ B5.out
  go_wp2_with fail
  refine (CK.out _ B5.out).mono ?_
  rintro e w6 ⟨rfl, hb6⟩
  have B6 := hide (bel_trans B5.out hb6)
  clear hb6 CK B5 g0 g1 g2 g3 g4 g5 g6
  go_wp2_with fail
  go_ret
  exact ⟨rfl, bel_trans B3.out B6.out⟩
end Go.Proofs.YtigfjjolfeenaaaDoor.Ck

/- CodeForms walked. (Written by mk_lf.py.) -/
namespace Go.Proofs.YtigfjjolfeenaaaDoor.Ck
open Go.RowKit

theorem SB.of_own {w : World} {B : Nat} {v : Value} {l : List Int} (h : w.ownsRow B 5 1 v l.length (yys l)) (hb : Byt l) : SB w v l := by
  rcases own_cells h with ⟨rfl, h0⟩ | ⟨g, cap, rfl, h1, h2, h3, h4⟩
  · have : l = [] := List.length_eq_zero_iff.1 h0
    subst this
    exact SB.nilS w
  · exact ⟨hb, _, cap, rfl, h1, h2, fun i hi => ⟨g, 0, rfl, h3, by rw [Nat.zero_add]; exact h4 i _ (by omega) (yys_at l i hi)⟩⟩
set_option maxRecDepth 20000 in
set_option maxHeartbeats 8000000 in
theorem forms_main {w : World} {p : List Addr} {vP vC vF vB : Value} {c : Cd} (ev : Errs17 w p) (h : Cv w vP vC vF vB c) :
    Calls Tryd.prog 3 #[codeA vP vC vF vB c] w (Vb w (.bool true)) := by
  have hc : Ec w p := ev.cell 8 (by omega)
  have HC := hide hc
  have V0 := hide h
  have E0 := hide ev
  obtain ⟨aP, cP, aC, cC, aF, cF, aB, cB, eP, eC, eF, eB⟩ := h.form
  subst eP eC eF eB
  have B0 := hide (bel_new w (.cells #[.slice aP c.P.length cP, .int .i64 c.M, .int .i64 c.A, .slice aC c.C.length cC, .slice aF c.F.length cF, .int .i64 c.mn, .slice aB c.B.length cB] 27))
  have K0 := hide (show (w.alloc (.cells #[.slice aP c.P.length cP, .int .i64 c.M, .int .i64 c.A, .slice aC c.C.length cC, .slice aF c.F.length cF, .int .i64 c.mn, .slice aB c.B.length cB] 27)).heap[w.heap.size]? = some (.cells #[.slice aP c.P.length cP, .int .i64 c.M, .int .i64 c.A, .slice aC c.C.length cC, .slice aF c.F.length cF, .int .i64 c.mn, .slice aB c.B.length cB] 27 (0, 0)) from Go.Deep.blk_alloc_new _ _)
  have AL := hide (alive_any (hc.bel B0.out))
  clear h hc ev
  unfold codeA
  go_enter Tryd.func3, Tryd.ntmps3
  go_wp2_with fail
  refine AL.out.mono ?_
  rintro e w2 ⟨rfl, b2⟩
  have B2 := hide (bel_trans B0.out b2)
  have K2 := hide ((b2.block _ (lt_of_blk K0.out)).trans K0.out)
  clear b2 AL K0 B0
  obtain ⟨g0, g1, g2, g3, g4, g5, g6⟩ := cells7 K2.out
  have LO := hide (long_any (V0.out.bel B2.out))
  unfold codeA at LO
  go_wp2_with fail
  refine LO.out.mono ?_
  rintro e w3 ⟨rfl, b3⟩
  have B3 := hide (bel_trans B2.out b3)
  have K3 := hide ((b3.block _ (lt_of_blk K2.out)).trans K2.out)
  clear b3 LO K2 B2 g0 g1 g2 g3 g4 g5 g6
  cases hlo : longB c with
  | true =>
    go_wp2_with fail
    go_ret
    exact ⟨rfl, B3.out⟩
  | false =>
  have SM := hide (sml_of hlo)
  clear hlo
  obtain ⟨g0, g1, g2, g3, g4, g5, g6⟩ := cells7 K3.out
  have RF := hide (rform_any (V0.out.bel B3.out) SM.out)
  unfold codeA at RF
  go_wp2_with fail
  refine RF.out.mono ?_
  rintro e w4 ⟨rfl, b4⟩
  have B4 := hide (bel_trans B3.out b4)
  have K4 := hide ((b4.block _ (lt_of_blk K3.out)).trans K3.out)
  clear b4 RF K3 B3 g0 g1 g2 g3 g4 g5 g6
  obtain ⟨g0, g1, g2, g3, g4, g5, g6⟩ := cells7 K4.out
  have CK := hide (check_any (HC.out.bel B4.out) (V0.out.bel B4.out))
  unfold codeA at CK
  cases hf : formB c with
  | false =>
    rw [hf] at CK
    rw [show erK p false = errV p 8 from rfl] at CK
    unfold errV at CK
    have HF := hide hf
    clear hf
    go_wp2_with fail
    refine CK.out.mono ?_
    rintro e w5 ⟨rfl, b5⟩
    have B5 := hide (bel_trans B4.out b5)
    have K5 := hide ((b5.block _ (lt_of_blk K4.out)).trans K4.out)
    clear b5 CK K4 B4 g0 g1 g2 g3 g4 g5 g6
    obtain ⟨g0, g1, g2, g3, g4, g5, g6⟩ := cells7 K5.out
    have PU := hide (put_any (HC.out.bel B5.out) (V0.out.bel B5.out))
    unfold codeA at PU
    go_wp2_with fail
    refine PU.out.mono ?_
    rintro e w6 ⟨hp, b6⟩
    have B6 := hide (bel_trans B5.out b6)
    clear b6 PU K5 g0 g1 g2 g3 g4 g5 g6
    rcases hp with ⟨_, rfl⟩ | ⟨hf, v, rfl, y⟩
    case inr => rw [HF.out] at hf; cases hf
    have NE := hide (num_err p 8 w6 (E0.out.below (Nat.le_refl _) B6.out) (by omega))
    unfold errV at NE
    unfold errV
    go_wp2_with fail
    refine NE.out.mono ?_
    rintro e w7 ⟨rfl, b7⟩
    have B7 := hide (bel_trans B6.out b7)
    have NF := hide (num_err p 8 w7 (E0.out.below (Nat.le_refl _) B7.out) (by omega))
    unfold errV at NF
    clear b7 NE
    go_wp2_with fail
    refine NF.out.mono ?_
    rintro e w8 ⟨rfl, b8⟩
    have B8 := hide (bel_trans B7.out b8)
    clear b8 NF
    go_wp2_with fail
    go_ret
    exact ⟨rfl, B8.out⟩
  | true =>
    rw [hf] at CK
    rw [show erK p true = .nilIface from rfl] at CK
    have HF := hide hf
    clear hf
    go_wp2_with fail
    refine CK.out.mono ?_
    rintro e w5 ⟨rfl, b5⟩
    have B5 := hide (bel_trans B4.out b5)
    have K5 := hide ((b5.block _ (lt_of_blk K4.out)).trans K4.out)
    clear b5 CK K4 B4 g0 g1 g2 g3 g4 g5 g6
    obtain ⟨g0, g1, g2, g3, g4, g5, g6⟩ := cells7 K5.out
    have PU := hide (put_any (HC.out.bel B5.out) (V0.out.bel B5.out))
    unfold codeA at PU
    go_wp2_with fail
    refine PU.out.mono ?_
    rintro e w6 ⟨hp, b6⟩
    have B6 := hide (bel_trans B5.out b6)
    have K6 := hide ((b6.block _ (lt_of_blk K5.out)).trans K5.out)
    clear b6 PU K5 g0 g1 g2 g3 g4 g5 g6
    rcases hp with ⟨hf, _⟩ | ⟨_, v, rfl, y⟩
    case inl => rw [HF.out] at hf; cases hf
    obtain ⟨hlo, hhi⟩ := bytes_len HF.out
    rcases own_cells y.own with ⟨_, h0⟩ | ⟨gx, k4, e4, h41, h42, hgx, hcell⟩
    · omega
    subst e4
    have BY := hide (bytes_byt c)
    have SB4 := hide (SB.of_own y.own BY.out)
    have YS := hide (Ys.of_own y.own)
    have HCD := hide (form_sm HF.out V0.out.L.inw)
    have GE := hide (get_any (HC.out.bel B6.out) YS.out BY.out (by omega))
    obtain ⟨n, hn⟩ : ∃ n, n = (bytesL c).length := ⟨_, rfl⟩
    rw [← hn] at SB4 GE ⊢
    have HN := hide hn
    clear hn hlo hhi h41 h42 hgx hcell y YS
    go_wp2_with fail
    refine GE.out.mono ?_
    rintro e w7 ⟨b7, hp⟩
    have cb := code_bytes HF.out HCD.out
    rcases hp with ⟨q, _⟩ | ⟨d, uP, uC, uF, uB, q, rfl, R7, Q7⟩
    case inl => rw [q] at cb; cases cb
    have hd : c = d := Option.some.inj (cb.symm.trans q)
    subst hd
    have UV0 := R7.cv Q7
    obtain ⟨bP, dP, bC, dC, bF, dF, bB, dB, fP, fC, fF, fB⟩ := UV0.form
    subst fP fC fF fB
    have nb := bel_new w7 (.cells #[.slice bP c.P.length dP, .int .i64 c.M, .int .i64 c.A, .slice bC c.C.length dC, .slice bF c.F.length dF, .int .i64 c.mn, .slice bB c.B.length dB] 27)
    have UV := hide (UV0.bel nb)
    have BK := hide (show (w7.alloc (.cells #[.slice bP c.P.length dP, .int .i64 c.M, .int .i64 c.A, .slice bC c.C.length dC, .slice bF c.F.length dF, .int .i64 c.mn, .slice bB c.B.length dB] 27)).heap[w7.heap.size]? = some (.cells #[.slice bP c.P.length dP, .int .i64 c.M, .int .i64 c.A, .slice bC c.C.length dC, .slice bF c.F.length dF, .int .i64 c.mn, .slice bB c.B.length dB] 27 (0, 0)) from Go.Deep.blk_alloc_new _ _)
    have B67 := hide (bel_trans b7 nb)
    have V4 := hide (V0.out.bel (bel_trans B6.out B67.out))
    have B7 := hide (bel_trans B6.out B67.out)
    have K7 := hide ((B67.out.block _ (lt_of_blk K6.out)).trans K6.out)
    have SB7 := hide (SB4.out.bel B67.out)
    clear SB4 cb q R7 Q7 UV0 b7 nb GE B67 K6
    have SB4 := SB7
    clear SB7
    unfold codeA
    go_wp2_with fail
    obtain ⟨bk, hbk⟩ : ∃ bk, bk = w7.heap.size := ⟨_, rfl⟩
    rw [← hbk] at BK ⊢
    clear hbk
    have BDn := hide (bel_drawn (Below.refl (w7.alloc (.cells #[.slice bP c.P.length dP, .int .i64 c.M, .int .i64 c.A, .slice bC c.C.length dC, .slice bF c.F.length dF, .int .i64 c.mn, .slice bB c.B.length dB] 27)).heap.size (w7.alloc (.cells #[.slice bP c.P.length dP, .int .i64 c.M, .int .i64 c.A, .slice bC c.C.length dC, .slice bF c.F.length dF, .int .i64 c.mn, .slice bB c.B.length dB] 27))))
    refine wp_region_T (S := fun wz => ((convert 33 9 (.slice (some ⟨gx, 0, none⟩) n k4)).run Tryd.prog wz = .ok (.string (strOf (bytesL c))) wz) ∧ wz.heap[w.heap.size]? = some (.cells #[.slice aP c.P.length cP, .int .i64 c.M, .int .i64 c.A, .slice aC c.C.length cC, .slice aF c.F.length cF, .int .i64 c.mn, .slice aB c.B.length cB] 27 (0, 0)) ∧ wz.heap[bk]? = some (.cells #[.slice bP c.P.length dP, .int .i64 c.M, .int .i64 c.A, .slice bC c.C.length dC, .slice bF c.F.length dF, .int .i64 c.mn, .slice bB c.B.length dB] 27 (0, 0))) (fun _ => true) mixed ⟨conv_str (SB4.out.bel BDn.out), (BDn.out.block _ (lt_of_blk K7.out)).trans K7.out, (BDn.out.block _ (lt_of_blk BK.out)).trans BK.out⟩ (fun hH => ?_)
    have BDm := hide (bel_trans B7.out BDn.out)
    replace UV := hide (UV.out.bel BDn.out)
    replace V4 := hide (V4.out.bel BDn.out)
    replace SB4 := hide (SB4.out.bel BDn.out)
    clear BDn B7 K7 BK
    generalize World.drew _ = wd at *
    have BD := hide (Below.refl wd.heap.size wd)
    refine T_move (i := 0) (v := ?_) rfl (by kernel_rfl) (by kernel_rfl) (by kernel_rfl) (fun _ _ _ h => h) (Or.inl ⟨by rfl, ?_⟩) ?_
    rotate_left 1
    · (intro w _; go_simp <;> with_reducible rfl)
    simp only [Act.put, List.getElem_toArray, List.getElem_cons_zero, List.setIfInBounds_toArray, List.set_cons_zero, List.set_cons_succ]
    refine T_move (i := 1) (v := ?_) rfl (by kernel_rfl) (by kernel_rfl) (by kernel_rfl) (fun _ _ _ h => h) (Or.inl ⟨by rfl, ?_⟩) ?_
    rotate_left 1
    · (intro w _; go_simp <;> with_reducible rfl)
    simp only [Act.put, List.getElem_toArray, List.getElem_cons_zero, List.getElem_cons_succ, List.setIfInBounds_toArray, List.set_cons_zero, List.set_cons_succ]
    refine T_move (i := 2) (v := ?_) rfl (by kernel_rfl) (by kernel_rfl) (by kernel_rfl) (fun _ _ _ h => h) (Or.inl ⟨by rfl, ?_⟩) ?_
    rotate_left 1
    · (intro w _; go_simp <;> with_reducible rfl)
    simp only [Act.put, List.getElem_toArray, List.getElem_cons_zero, List.getElem_cons_succ, List.setIfInBounds_toArray, List.set_cons_zero, List.set_cons_succ]
    refine T_move (i := 3) (v := ?_) rfl (by kernel_rfl) (by kernel_rfl) (by kernel_rfl) (fun _ _ _ h => h) (Or.inl ⟨by rfl, ?_⟩) ?_
    rotate_left 1
    · (intro w _; go_simp <;> with_reducible rfl)
    simp only [Act.put, List.getElem_toArray, List.getElem_cons_zero, List.getElem_cons_succ, List.setIfInBounds_toArray, List.set_cons_zero, List.set_cons_succ]
    refine T_move (i := 4) (v := ?_) rfl (by kernel_rfl) (by kernel_rfl) (by kernel_rfl) (fun _ _ _ h => h) (Or.inl ⟨by rfl, ?_⟩) ?_
    rotate_left 1
    · (intro w _; go_simp <;> with_reducible rfl)
    simp only [Act.put, List.getElem_toArray, List.getElem_cons_zero, List.getElem_cons_succ, List.setIfInBounds_toArray, List.set_cons_zero, List.set_cons_succ]
    refine T_move (i := 5) (v := ?_) rfl (by kernel_rfl) (by kernel_rfl) (by kernel_rfl) (fun _ _ _ h => h) (Or.inl ⟨by rfl, ?_⟩) ?_
    rotate_left 1
    · (intro w _; go_simp <;> with_reducible rfl)
    simp only [Act.put, List.getElem_toArray, List.getElem_cons_zero, List.getElem_cons_succ, List.setIfInBounds_toArray, List.set_cons_zero, List.set_cons_succ]
    refine T_move (i := 6) (v := ?_) rfl (by kernel_rfl) (by kernel_rfl) (by kernel_rfl) (fun _ _ _ h => h) (Or.inl ⟨by rfl, ?_⟩) ?_
    rotate_left 1
    · (intro w _; go_simp <;> with_reducible rfl)
    simp only [Act.put, List.getElem_toArray, List.getElem_cons_zero, List.getElem_cons_succ, List.setIfInBounds_toArray, List.set_cons_zero, List.set_cons_succ]
    refine T_move (i := 7) (v := ?_) rfl (by kernel_rfl) (by kernel_rfl) (by kernel_rfl) (fun _ _ _ h => h) (Or.inl ⟨by rfl, ?_⟩) ?_
    rotate_left 1
    · (intro w _; go_simp <;> with_reducible rfl)
    simp only [Act.put, List.getElem_toArray, List.getElem_cons_zero, List.getElem_cons_succ, List.setIfInBounds_toArray, List.set_cons_zero, List.set_cons_succ]
    refine T_move (i := 8) (v := ?_) rfl (by kernel_rfl) (by kernel_rfl) (by kernel_rfl) (fun _ _ _ h => h) (Or.inl ⟨by rfl, ?_⟩) ?_
    rotate_left 1
    · (intro w _; go_simp <;> with_reducible rfl)
    simp only [Act.put, List.getElem_toArray, List.getElem_cons_zero, List.getElem_cons_succ, List.setIfInBounds_toArray, List.set_cons_zero, List.set_cons_succ]
    refine T_move (i := 9) (v := ?_) rfl (by kernel_rfl) (by kernel_rfl) (by kernel_rfl) (fun _ _ _ h => h) (Or.inl ⟨by rfl, ?_⟩) ?_
    rotate_left 1
    · (intro w _; go_simp <;> with_reducible rfl)
    simp only [Act.put, List.getElem_toArray, List.getElem_cons_zero, List.getElem_cons_succ, List.setIfInBounds_toArray, List.set_cons_zero, List.set_cons_succ]
    refine T_move (i := 10) (v := ?_) rfl (by kernel_rfl) (by kernel_rfl) (by kernel_rfl) (fun _ _ _ h => h) (Or.inl ⟨by rfl, ?_⟩) ?_
    rotate_left 1
    · (intro w _; go_simp <;> with_reducible rfl)
    simp only [Act.put, List.getElem_toArray, List.getElem_cons_zero, List.getElem_cons_succ, List.setIfInBounds_toArray, List.set_cons_zero, List.set_cons_succ]
    refine T_move (i := 11) (v := ?_) rfl (by kernel_rfl) (by kernel_rfl) (by kernel_rfl) (fun _ _ _ h => h) (Or.inl ⟨by rfl, ?_⟩) ?_
    rotate_left 1
    · (intro w _; go_simp <;> with_reducible rfl)
    simp only [Act.put, List.getElem_toArray, List.getElem_cons_zero, List.getElem_cons_succ, List.setIfInBounds_toArray, List.set_cons_zero, List.set_cons_succ]
    refine T_take (i := 12) (v := ?_) rfl (by kernel_rfl) (by kernel_rfl) (by kernel_rfl) (by kernel_rfl) (fun _ _ _ h => h) (Or.inl ⟨by rfl, ?_⟩) hH ?_
    rotate_left 1
    · (intro w hSw; have cv := hSw.1; clear hSw; go_simp <;> with_reducible rfl)
    simp only [Act.put, List.getElem_toArray, List.getElem_cons_zero, List.getElem_cons_succ, List.setIfInBounds_toArray, List.set_cons_zero, List.set_cons_succ]
    refine T_take (i := 13) (v := ?_) rfl (by kernel_rfl) (by kernel_rfl) (by kernel_rfl) (by kernel_rfl) (fun _ _ _ h => h) (Or.inl ⟨by rfl, ?_⟩) hH ?_
    rotate_left 1
    · (intro w hSw; obtain ⟨g0, g1, g2, g3, g4, g5, g6⟩ := cells7 hSw.2.1; clear hSw; go_simp <;> with_reducible rfl)
    simp only [Act.put, List.getElem_toArray, List.getElem_cons_zero, List.getElem_cons_succ, List.setIfInBounds_toArray, List.set_cons_zero, List.set_cons_succ]
    refine T_ready (rs := [14]) (by kernel_rfl) (by decide) ?_
    refine AllReadyT.cons rfl (fun K1 hK1 => ?_) AllReadyT.nil
    have CT := hide (rbytes_any (V4.out.bel BD.out) HF.out)
    unfold codeA at CT
    go_simp
    refine CT.out.mono ?_
    rintro e w8 ⟨v8, rfl, o8, b9⟩
    have B8 := hide (bel_trans BD.out b9)
    refine hK1.out _ _ (fun _ => ⟨conv_str (SB4.out.bel B8.out), (b9.block _ (lt_of_blk hH.2.1)).trans hH.2.1, (b9.block _ (lt_of_blk hH.2.2)).trans hH.2.2⟩) (fun hh => ?_)
    replace hH := hh rfl
    clear hK1 K1 CT hh
    have S8 := hide (SB.of_own o8 BY.out)
    clear o8 b9
    refine T_ready (rs := [15]) (by kernel_rfl) (by decide) ?_
    refine AllReadyT.cons rfl (fun K1 hK1 => ?_) AllReadyT.nil
    have cv := conv_str S8.out
    go_simp
    refine hK1.out _ _ (fun _ => hH) (fun hh => ?_)
    clear hK1 K1 hh cv
    refine T_move (i := 16) (v := ?_) rfl (by kernel_rfl) (by kernel_rfl) (by kernel_rfl) (fun _ _ _ h => h) (Or.inl ⟨by rfl, ?_⟩) ?_
    rotate_left 1
    · (intro w _; go_simp <;> with_reducible rfl)
    simp only [Act.put, List.getElem_toArray, List.getElem_cons_zero, List.getElem_cons_succ, List.setIfInBounds_toArray, List.set_cons_zero, List.set_cons_succ]
    refine T_move (i := 17) (v := ?_) rfl (by kernel_rfl) (by kernel_rfl) (by kernel_rfl) (fun _ _ _ h => h) (Or.inl ⟨by rfl, ?_⟩) ?_
    rotate_left 1
    · (intro w _; go_simp <;> with_reducible rfl)
    simp only [Act.put, List.getElem_toArray, List.getElem_cons_zero, List.getElem_cons_succ, List.setIfInBounds_toArray, List.set_cons_zero, List.set_cons_succ]
    refine T_move (i := 18) (v := ?_) rfl (by kernel_rfl) (by kernel_rfl) (by kernel_rfl) (fun _ _ _ h => h) (Or.inl ⟨by rfl, ?_⟩) ?_
    rotate_left 1
    · (intro w _; go_simp <;> with_reducible rfl)
    simp only [Act.put, List.getElem_toArray, List.getElem_cons_zero, List.getElem_cons_succ, List.setIfInBounds_toArray, List.set_cons_zero, List.set_cons_succ]
    refine T_take (i := 19) (v := ?_) rfl (by kernel_rfl) (by kernel_rfl) (by kernel_rfl) (by kernel_rfl) (fun _ _ _ h => h) (Or.inl ⟨by rfl, ?_⟩) hH ?_
    rotate_left 1
    · (intro w hSw; obtain ⟨g0, g1, g2, g3, g4, g5, g6⟩ := cells7 hSw.2.2; clear hSw; go_simp <;> with_reducible rfl)
    simp only [Act.put, List.getElem_toArray, List.getElem_cons_zero, List.getElem_cons_succ, List.setIfInBounds_toArray, List.set_cons_zero, List.set_cons_succ]
    refine T_take (i := 20) (v := ?_) rfl (by kernel_rfl) (by kernel_rfl) (by kernel_rfl) (by kernel_rfl) (fun _ _ _ h => h) (Or.inl ⟨by rfl, ?_⟩) hH ?_
    rotate_left 1
    · (intro w hSw; obtain ⟨g0, g1, g2, g3, g4, g5, g6⟩ := cells7 hSw.2.1; clear hSw; go_simp <;> with_reducible rfl)
    simp only [Act.put, List.getElem_toArray, List.getElem_cons_zero, List.getElem_cons_succ, List.setIfInBounds_toArray, List.set_cons_zero, List.set_cons_succ]
    refine T_ready (rs := [21]) (by kernel_rfl) (by decide) ?_
    refine AllReadyT.cons rfl (fun K1 hK1 => ?_) AllReadyT.nil
    have CT := hide (rSame_any (UV.out.bel B8.out) (V4.out.bel B8.out) SM.out SM.out)
    unfold codeA at CT
    go_simp
    refine CT.out.mono ?_
    rintro e w9 ⟨rfl, b9⟩
    have B9 := hide (bel_trans B8.out b9)
    refine hK1.out _ _ (fun _ => ⟨conv_str (SB4.out.bel B9.out), (b9.block _ (lt_of_blk hH.2.1)).trans hH.2.1, (b9.block _ (lt_of_blk hH.2.2)).trans hH.2.2⟩) (fun hh => ?_)
    replace hH := hh rfl
    clear hK1 K1 CT hh
    rw [same_self]
    refine T_move (i := 22) (v := ?_) rfl (by kernel_rfl) (by kernel_rfl) (by kernel_rfl) (fun _ _ _ h => h) (Or.inl ⟨by rfl, ?_⟩) ?_
    rotate_left 1
    · (intro w _; go_simp <;> with_reducible rfl)
    simp only [Act.put, List.getElem_toArray, List.getElem_cons_zero, List.getElem_cons_succ, List.setIfInBounds_toArray, List.set_cons_zero, List.set_cons_succ]
    refine T_move (i := 23) (v := ?_) rfl (by kernel_rfl) (by kernel_rfl) (by kernel_rfl) (fun _ _ _ h => h) (Or.inl ⟨by rfl, ?_⟩) ?_
    rotate_left 1
    · (intro w _; go_simp <;> with_reducible rfl)
    simp only [Act.put, List.getElem_toArray, List.getElem_cons_zero, List.getElem_cons_succ, List.setIfInBounds_toArray, List.set_cons_zero, List.set_cons_succ]
    refine T_done (by kernel_rfl) ?_ _
    go_wp2_with fail
    go_ret
    exact ⟨rfl, bel_trans BDm.out B9.out⟩
end Go.Proofs.YtigfjjolfeenaaaDoor.Ck

/- A slice that is handed in, as a list of what its elements are. -/
namespace Go.Proofs.YtigfjjolfeenaaaDoor.Ck
open Go.ChangeShapes Go.WideShapes Go.ChangeAt Go.RowKit

theorem cells_at {W : World} {ad : Addr} {n : Nat} {cs : List Value} (h : W.cells? 0 ad n = some cs) (i : Nat) (hi : i < n) : W.cell? (ad.add i) = cs[i]? := by
  unfold World.cells? at h
  rw [if_pos (Nat.zero_le _)] at h
  exact mapM_some_get h i i (by rw [List.getElem?_range hi])
theorem cells_len {W : World} {ad : Addr} {n : Nat} {cs : List Value} (h : W.cells? 0 ad n = some cs) : cs.length = n := by
  unfold World.cells? at h
  rw [if_pos (Nat.zero_le _)] at h
  simpa using mapM_some_length h
set_option maxRecDepth 100000 in
theorem rows_of {α : Type} (d0 : α) {H : Type} {enc : TypeId × Value → H} {W : World} {TS T : TypeId} {n fuel : Nat} {v : Value} {x : DataW H × List MemPlace} (hu : Tryd.prog.underlying TS = some (.slice T)) (hc : Tryd.prog.cellsOf T = n) (hn : 0 < n) (Q : α → List Value → Prop)
    (hP : ∀ (f : Nat) (cs : List Value) (y : DataW H × List MemPlace), f < fuel → DataW.trod enc Tryd.prog W 0 (fun _ => true) true f T cs = some y → ∃ x, Q x cs) (h : DataW.trod enc Tryd.prog W 0 (fun _ => true) true fuel TS [v] = some x) :
    ∃ (a : Option Addr) (cap : Nat) (l : List α), v = .slice a l.length cap ∧ l.length ≤ cap ∧ cap ≤ maxLen ∧ ∀ (i : Nat) (y : α), l[i]? = some y → ∃ (b o : Nat) (cs : List Value), a = some ⟨b, o, none⟩ ∧ b < W.heap.size ∧ Q y cs ∧ cs.length = n ∧ ∀ (j : Nat) (u : Value), cs[j]? = some u → W.cell? ⟨b, o + i * n + j, none⟩ = some u := by
  rcases DataW.trod_slice hu h with ⟨e, _⟩ | ⟨a, len, cap, elems, rest, m, hm, e, _, _, hl1, hl2, hl3, hel, _⟩
  · simp at e
    subst e
    exact ⟨none, 0, [], rfl, Nat.le_refl _, Nat.zero_le _, fun i y hy => by simp at hy⟩
  · simp at e
    subst e
    have key : ∀ i, i < len → ∃ (y : α) (b o : Nat) (cs : List Value), some a = some ⟨b, o, none⟩ ∧ b < W.heap.size ∧ Q y cs ∧ cs.length = n ∧ ∀ (j : Nat) (u : Value), cs[j]? = some u → W.cell? ⟨b, o + i * n + j, none⟩ = some u := fun i hi => by
      have h9 := hel i hi
      rw [List.getElem?_eq_getElem (show i < elems.length by omega), hc] at h9
      cases hcs : W.cells? 0 (a.add (i * n)) n with
      | none => rw [hcs] at h9; cases h9
      | some cs =>
        rw [hcs] at h9
        obtain ⟨y, hy⟩ := hP m cs _ (by omega) h9
        have hlen := cells_len hcs
        have hcell : ∀ k, k < n → W.cell? (a.add (i * n + k)) = cs[k]? := fun k hk => by
          rw [← cells_at hcs k hk, Go.Deep.add_add]
        obtain ⟨c0, hc0⟩ : ∃ c, cs[0]? = some c := ⟨_, List.getElem?_eq_getElem (by omega)⟩
        obtain ⟨b, off, spot⟩ := a
        have hspot : spot = none := by
          have h8 := hel 0 (by omega)
          rw [List.getElem?_eq_getElem (show 0 < elems.length by omega), hc] at h8
          cases hz : W.cells? 0 ((Addr.mk b off spot).add (0 * n)) n with
          | none => rw [hz] at h8; cases h8
          | some zs =>
            have h7 := cells_at hz 0 hn
            rw [List.getElem?_eq_getElem (show 0 < zs.length by rw [cells_len hz]; exact hn)] at h7
            simpa [Addr.add] using World.cell?_spot h7
        subst hspot
        have h0 := (hcell 0 hn).trans hc0
        rw [add_plain] at h0
        refine ⟨y, b, off, cs, rfl, block_lt h0, hy, hlen, fun j u hu => ?_⟩
        have hj := (List.getElem?_eq_some_iff.1 hu).1
        have := (hcell j (by omega)).trans hu
        rw [add_plain] at this
        rw [Nat.add_assoc]
        exact this
    have hch : ∃ fn : Nat → α, ∀ i, i < len → ∃ (b o : Nat) (cs : List Value), some a = some ⟨b, o, none⟩ ∧ b < W.heap.size ∧ Q (fn i) cs ∧ cs.length = n ∧ ∀ (j : Nat) (u : Value), cs[j]? = some u → W.cell? ⟨b, o + i * n + j, none⟩ = some u :=
      ⟨fun i => if h : i < len then Classical.choose (key i h) else d0, fun i hi => by dsimp only; rw [dif_pos hi]; exact Classical.choose_spec (key i hi)⟩
    obtain ⟨fn, hfn⟩ := hch
    refine ⟨some a, cap, (List.range len).map fn, by simp, by simpa using hl1, hl2, fun i y hy => ?_⟩
    obtain ⟨hj1, hj2⟩ := List.getElem?_eq_some_iff.1 hy
    simp at hj1 hj2
    rw [← hj2]
    exact hfn i hj1
theorem sl_of {H : Type} {enc : TypeId × Value → H} {W : World} {fuel : Nat} {v : Value} {x : DataW H × List MemPlace} (h : DataW.trod enc Tryd.prog W 0 (fun _ => true) true fuel 22 [v] = some x) : ∃ zs, Sl W v zs := by
  rcases DataW.trod_slice Tryd.underlying22 h with ⟨e, _⟩ | ⟨a, len, cap, elems, rest, m, hm, e, _⟩
  · simp at e
    subst e
    exact ⟨[], Sl.nilS W⟩
  · simp at e
    subst e
    exact sl_open (d := x.1) (p := x.2) ⟨fuel, h⟩
end Go.Proofs.YtigfjjolfeenaaaDoor.Ck

/- Arguments whose slices lie within one another, with their sizes. -/
namespace Go.Proofs.YtigfjjolfeenaaaDoor.Ck
open Go.ChangeShapes Go.WideShapes Go.ChangeAt Go.RowKit

/-- no slice within takes more than the reach -/
def Wok {H : Type} (t : TypeId) (d : DataW H) : Prop := ∀ n ∈ d.weights Tryd.prog t, n ≤ reachBytes
theorem weights_all {H : Type} {e : TypeId} : ∀ {ds : List (DataW H)} {i : Nat} {d : DataW H}, ds[i]? = some d → ∀ n ∈ d.weights Tryd.prog e, n ∈ DataW.weightsAll Tryd.prog e ds
  | [], i, d, h, n, _ => by simp at h
  | x :: ds, 0, d, h, n, hn => by
    simp at h
    subst h
    simp only [DataW.weightsAll, List.mem_append]
    exact .inl hn
  | x :: ds, i + 1, d, h, n, hn => by
    simp only [DataW.weightsAll, List.mem_append]
    exact .inr (weights_all (by simpa using h) n hn)
theorem wok_elem {H : Type} {TS T : TypeId} {elems rest : List (DataW H × List MemPlace)} {i : Nat} {y : DataW H × List MemPlace} (hu : Tryd.prog.underlying TS = some (.slice T)) (h : Wok TS (DataW.slice (elems.map (·.1)) (rest.map (·.1)))) (hy : elems[i]? = some y) : Wok T y.1 := fun n hn => by
  refine h n ?_
  simp only [DataW.weights, hu, List.mem_cons, List.mem_append]
  exact .inr (.inl (weights_all (i := i) (by rw [List.getElem?_map, hy]; rfl) n hn))
theorem wok_field {H : Type} {t : TypeId} {fs : Array Field} {xs : List (DataW H × List MemPlace)} {i : Nat} {y : DataW H × List MemPlace} {f : Field} (hu : Tryd.prog.underlying t = some (.struct fs)) (h : Wok t (DataW.agg (xs.map (·.1)))) (hf : fs[i]? = some f) (hy : xs[i]? = some y) : Wok f.type y.1 := fun n hn => by
  refine h n ?_
  simp only [DataW.weights, hu]
  exact DataW.weights_mem_each (j := i) (by rw [List.getElem?_map, Array.getElem?_toList, hf]; rfl) (by rw [List.getElem?_map, hy]; rfl) n hn
set_option maxRecDepth 100000 in
theorem rows_w {α : Type} (d0 : α) {H : Type} {enc : TypeId × Value → H} {W : World} {TS T : TypeId} {n fuel : Nat} {v : Value} {x : DataW H × List MemPlace} (hu : Tryd.prog.underlying TS = some (.slice T)) (hc : Tryd.prog.cellsOf T = n) (hn : 0 < n) (Q : α → List Value → Prop)
    (hP : ∀ (f : Nat) (cs : List Value) (y : DataW H × List MemPlace), f < fuel → DataW.trod enc Tryd.prog W 0 (fun _ => true) true f T cs = some y → Wok T y.1 → ∃ x, Q x cs) (hw : Wok TS x.1) (h : DataW.trod enc Tryd.prog W 0 (fun _ => true) true fuel TS [v] = some x) :
    ∃ (a : Option Addr) (cap : Nat) (l : List α), v = .slice a l.length cap ∧ l.length ≤ cap ∧ cap ≤ maxLen ∧ l.length * Tryd.prog.bytesOf T ≤ reachBytes ∧ ∀ (i : Nat) (y : α), l[i]? = some y → ∃ (b o : Nat) (cs : List Value), a = some ⟨b, o, none⟩ ∧ b < W.heap.size ∧ Q y cs ∧ cs.length = n ∧ ∀ (j : Nat) (u : Value), cs[j]? = some u → W.cell? ⟨b, o + i * n + j, none⟩ = some u := by
  rcases DataW.trod_slice hu h with ⟨e, _⟩ | ⟨a, len, cap, elems, rest, m, hm, e, ex, _, hl1, hl2, hl3, hel, _⟩
  · simp at e
    subst e
    exact ⟨none, 0, [], rfl, Nat.le_refl _, Nat.zero_le _, by simp, fun i y hy => by simp at hy⟩
  · simp at e
    subst e
    have key : ∀ i, i < len → ∃ (y : α) (b o : Nat) (cs : List Value), some a = some ⟨b, o, none⟩ ∧ b < W.heap.size ∧ Q y cs ∧ cs.length = n ∧ ∀ (j : Nat) (u : Value), cs[j]? = some u → W.cell? ⟨b, o + i * n + j, none⟩ = some u := fun i hi => by
      have h9 := hel i hi
      rw [List.getElem?_eq_getElem (show i < elems.length by omega), hc] at h9
      cases hcs : W.cells? 0 (a.add (i * n)) n with
      | none => rw [hcs] at h9; cases h9
      | some cs =>
        rw [hcs] at h9
        obtain ⟨y, hy⟩ := hP m cs _ (by omega) h9 (wok_elem hu (by rw [ex] at hw; exact hw) (List.getElem?_eq_getElem (show i < elems.length by omega)))
        have hlen := cells_len hcs
        have hcell : ∀ k, k < n → W.cell? (a.add (i * n + k)) = cs[k]? := fun k hk => by
          rw [← cells_at hcs k hk, Go.Deep.add_add]
        obtain ⟨c0, hc0⟩ : ∃ c, cs[0]? = some c := ⟨_, List.getElem?_eq_getElem (by omega)⟩
        obtain ⟨b, off, spot⟩ := a
        have hspot : spot = none := by
          have h8 := hel 0 (by omega)
          rw [List.getElem?_eq_getElem (show 0 < elems.length by omega), hc] at h8
          cases hz : W.cells? 0 ((Addr.mk b off spot).add (0 * n)) n with
          | none => rw [hz] at h8; cases h8
          | some zs =>
            have h7 := cells_at hz 0 hn
            rw [List.getElem?_eq_getElem (show 0 < zs.length by rw [cells_len hz]; exact hn)] at h7
            simpa [Addr.add] using World.cell?_spot h7
        subst hspot
        have h0 := (hcell 0 hn).trans hc0
        rw [add_plain] at h0
        refine ⟨y, b, off, cs, rfl, block_lt h0, hy, hlen, fun j u hu => ?_⟩
        have hj := (List.getElem?_eq_some_iff.1 hu).1
        have := (hcell j (by omega)).trans hu
        rw [add_plain] at this
        rw [Nat.add_assoc]
        exact this
    have hch : ∃ fn : Nat → α, ∀ i, i < len → ∃ (b o : Nat) (cs : List Value), some a = some ⟨b, o, none⟩ ∧ b < W.heap.size ∧ Q (fn i) cs ∧ cs.length = n ∧ ∀ (j : Nat) (u : Value), cs[j]? = some u → W.cell? ⟨b, o + i * n + j, none⟩ = some u :=
      ⟨fun i => if h : i < len then Classical.choose (key i h) else d0, fun i hi => by dsimp only; rw [dif_pos hi]; exact Classical.choose_spec (key i hi)⟩
    obtain ⟨fn, hfn⟩ := hch
    refine ⟨some a, cap, (List.range len).map fn, by simp, by simpa using hl1, hl2, ?_, fun i y hy => ?_⟩
    · have h8 := hw ((elems.length + rest.length) * Tryd.prog.bytesOf T) (by rw [ex]; simp [DataW.weights, hu])
      simp only [List.length_map, List.length_range]
      exact Nat.le_trans (Nat.mul_le_mul_right _ (by omega)) h8
    obtain ⟨hj1, hj2⟩ := List.getElem?_eq_some_iff.1 hy
    simp at hj1 hj2
    rw [← hj2]
    exact hfn i hj1
section
variable {H : Type} {enc : TypeId × Value → H} {W : World} {fuel : Nat} {x : DataW H × List MemPlace}
theorem len_of {TS T : TypeId} {l c n : Nat} {a : Option Addr} (hu : Tryd.prog.underlying TS = some (.slice T)) (hb : Tryd.prog.bytesOf T = n) (hn : 0 < n) (h : DataW.trod enc Tryd.prog W 0 (fun _ => true) true fuel TS [.slice a l c] = some x) (hw : Wok TS x.1) : l ≤ 140737488351232 := by
  rcases DataW.trod_slice hu h with ⟨e, _⟩ | ⟨a', len, cap, elems, rest, m, hm, e, ex, _, hl1, hl2, hl3, hel, _⟩
  · simp at e
    omega
  · simp at e
    obtain ⟨rfl, rfl, rfl⟩ := e
    have h8 := hw ((elems.length + rest.length) * Tryd.prog.bytesOf T) (by rw [ex]; simp [DataW.weights, hu])
    rw [hb, show reachBytes = 140737488351232 from rfl] at h8
    have := Nat.le_mul_of_pos_right (elems.length + rest.length) hn
    omega
end
theorem wok_arg {H : Type} {ts : List TypeId} {ds : List (DataW H)} {j : Nat} {t : TypeId} {d : DataW H} (h : (DataW.weightsEach Tryd.prog ts ds).all (· ≤ reachBytes) = true) (ht : ts[j]? = some t) (hd : ds[j]? = some d) : Wok t d := fun n hn => by
  simpa using List.all_eq_true.1 h n (DataW.weights_mem_each ht hd n hn)
end Go.Proofs.YtigfjjolfeenaaaDoor.Ck

/- A code that is handed in. -/
namespace Go.Proofs.YtigfjjolfeenaaaDoor.Ck
open Go.ChangeShapes Go.WideShapes Go.ChangeAt Go.RowKit

theorem wf_u8 {z : Int} (h : (Lit.int .u8 z).wf = true) : 0 ≤ z ∧ z < 256 := by
  simp [Lit.wf] at h
  have h' : 0 ≤ z ∧ z ≤ 255 := h
  omega
theorem wf_u64 {z : Int} (h : (Lit.int .u64 z).wf = true) : 0 ≤ z ∧ z < 18446744073709551616 := by
  simp [Lit.wf] at h
  have h' : 0 ≤ z ∧ z ≤ 18446744073709551615 := h
  omega
section
variable {H : Type} {enc : TypeId × Value → H} {W : World} {fuel : Nat} {v : Value} {cs : List Value} {x : DataW H × List MemPlace}
set_option maxRecDepth 100000 in
theorem chan_of (h : DataW.trod enc Tryd.prog W 0 (fun _ => true) true fuel 56 cs = some x) : ∃ c : Int × Int, cs = [.int .i64 c.1, .int .i64 c.2] ∧ -9223372036854775808 ≤ c.1 ∧ c.1 ≤ 9223372036854775807 := by
  obtain ⟨xs, f, hfu, _, hl, hlen, hf⟩ := DataW.trod_struct Tryd.underlying56 h
  rw [show Tryd.prog.cellsOf 56 = 2 by kernel_rfl] at hl
  clear h
  have hx : xs.length = 2 := hlen
  match cs, hl with
  | [c0, c1], _ =>
    have h0 : DataW.trod enc Tryd.prog W 0 (fun _ => true) true f 3 (([c0, c1].drop 0).take (Tryd.prog.cellsOf 3)) = xs[0]? := hf 0 _ rfl
    have h1 : DataW.trod enc Tryd.prog W 0 (fun _ => true) true f 3 (([c0, c1].drop 1).take (Tryd.prog.cellsOf 3)) = xs[1]? := hf 1 _ rfl
    clear hf
    simp only [show Tryd.prog.cellsOf 3 = 1 by kernel_rfl, List.drop_zero, List.drop_succ_cons, List.take_succ_cons, List.take_zero] at h0 h1
    rw [List.getElem?_eq_getElem (by omega)] at h0 h1
    obtain ⟨z0, q0, _, s0⟩ := DataW.trod_int Tryd.underlying3 h0
    obtain ⟨z1, q1, _⟩ := DataW.trod_int Tryd.underlying3 h1
    simp at q0 q1
    subst q0 q1
    exact ⟨(z0, z1), rfl, wf_i64 s0⟩
theorem chans_of (h : DataW.trod enc Tryd.prog W 0 (fun _ => true) true fuel 23 [v] = some x) (hw : Wok 23 x.1) : ∃ l, SlC W v l ∧ l.length ≤ 140737488351232 ∧ ∀ h ∈ l, -9223372036854775808 ≤ h.1 ∧ h.1 ≤ 9223372036854775807 := by
  obtain ⟨a, cap, l, e, h1, h2, h4, h3⟩ := rows_w ((0, 0) : Int × Int) Tryd.underlying23 (show Tryd.prog.cellsOf 56 = 2 by kernel_rfl) (by omega) (fun (c : Int × Int) cs => cs = [.int .i64 c.1, .int .i64 c.2] ∧ -9223372036854775808 ≤ c.1 ∧ c.1 ≤ 9223372036854775807) (fun f cs y _ hy _ => chan_of hy) hw h
  rw [show Tryd.prog.bytesOf 56 = 16 by kernel_rfl, show reachBytes = 140737488351232 from rfl] at h4
  refine ⟨l, ⟨a, cap, e, h1, h2, fun i hi => ?_⟩, by omega, fun y hy => ?_⟩
  · obtain ⟨b, o, cs, ea, hb, ⟨rfl, _⟩, _, hc⟩ := h3 i _ (List.getElem?_eq_getElem hi)
    have e2 : l.getD i z2 = l[i] := by simp [List.getD, hi]
    rw [e2]
    exact ⟨b, o, ea, hb, hc 0 _ rfl, hc 1 _ rfl⟩
  · obtain ⟨i, hi, rfl⟩ := List.mem_iff_getElem.1 hy
    obtain ⟨b, o, cs, ea, hb, ⟨_, hr⟩, _⟩ := h3 i _ (List.getElem?_eq_getElem hi)
    exact hr
set_option maxRecDepth 100000 in
theorem ins_of (h : DataW.trod enc Tryd.prog W 0 (fun _ => true) true fuel 50 cs = some x) : ∃ c : In5, cs = [.int .i64 c.op, .int .i64 c.a, .int .i64 c.b, .int .u64 c.bits, .int .i64 c.at_] ∧ InX c := by
  obtain ⟨xs, f, hfu, _, hl, hlen, hf⟩ := DataW.trod_struct Tryd.underlying50 h
  rw [show Tryd.prog.cellsOf 50 = 5 by kernel_rfl] at hl
  clear h
  have hx : xs.length = 5 := hlen
  match cs, hl with
  | [c0, c1, c2, c3, c4], _ =>
    have h0 : DataW.trod enc Tryd.prog W 0 (fun _ => true) true f 3 (([c0, c1, c2, c3, c4].drop 0).take (Tryd.prog.cellsOf 3)) = xs[0]? := hf 0 _ rfl
    have h1 : DataW.trod enc Tryd.prog W 0 (fun _ => true) true f 3 (([c0, c1, c2, c3, c4].drop 1).take (Tryd.prog.cellsOf 3)) = xs[1]? := hf 1 _ rfl
    have h2 : DataW.trod enc Tryd.prog W 0 (fun _ => true) true f 3 (([c0, c1, c2, c3, c4].drop 2).take (Tryd.prog.cellsOf 3)) = xs[2]? := hf 2 _ rfl
    have h3 : DataW.trod enc Tryd.prog W 0 (fun _ => true) true f 48 (([c0, c1, c2, c3, c4].drop 3).take (Tryd.prog.cellsOf 48)) = xs[3]? := hf 3 _ rfl
    have h4 : DataW.trod enc Tryd.prog W 0 (fun _ => true) true f 3 (([c0, c1, c2, c3, c4].drop 4).take (Tryd.prog.cellsOf 3)) = xs[4]? := hf 4 _ rfl
    clear hf
    simp only [show Tryd.prog.cellsOf 3 = 1 by kernel_rfl, show Tryd.prog.cellsOf 48 = 1 by kernel_rfl, List.drop_zero, List.drop_succ_cons, List.take_succ_cons, List.take_zero] at h0 h1 h2 h3 h4
    rw [List.getElem?_eq_getElem (by omega)] at h0 h1 h2 h3 h4
    obtain ⟨z0, q0, _, s0⟩ := DataW.trod_int Tryd.underlying3 h0
    obtain ⟨z1, q1, _, s1⟩ := DataW.trod_int Tryd.underlying3 h1
    obtain ⟨z2, q2, _⟩ := DataW.trod_int Tryd.underlying3 h2
    obtain ⟨z3, q3, _, s3⟩ := DataW.trod_int Tryd.underlying48 h3
    obtain ⟨z4, q4, _⟩ := DataW.trod_int Tryd.underlying3 h4
    simp at q0 q1 q2 q3 q4
    subst q0 q1 q2 q3 q4
    have r0 := wf_i64 s0
    have r1 := wf_i64 s1
    have r3 := wf_u64 s3
    exact ⟨⟨z0, z1, z2, z3, z4⟩, rfl, ⟨by show z1 < _; omega, r3⟩, r0⟩
theorem inss_of (h : DataW.trod enc Tryd.prog W 0 (fun _ => true) true fuel 25 [v] = some x) (hw : Wok 25 x.1) : ∃ l, SlB W v l ∧ l.length ≤ 140737488351232 ∧ ∀ h ∈ l, InX h := by
  obtain ⟨a, cap, l, e, h1, h2, h4, h3⟩ := rows_w zI Tryd.underlying25 (show Tryd.prog.cellsOf 50 = 5 by kernel_rfl) (by omega) (fun (c : In5) cs => cs = [.int .i64 c.op, .int .i64 c.a, .int .i64 c.b, .int .u64 c.bits, .int .i64 c.at_] ∧ InX c) (fun f cs y _ hy _ => ins_of hy) hw h
  rw [show Tryd.prog.bytesOf 50 = 40 by kernel_rfl, show reachBytes = 140737488351232 from rfl] at h4
  refine ⟨l, ⟨a, cap, e, h1, h2, fun i hi => ?_⟩, by omega, fun y hy => ?_⟩
  · obtain ⟨b, o, cs, ea, hb, ⟨rfl, _⟩, _, hc⟩ := h3 i _ (List.getElem?_eq_getElem hi)
    have e2 : l.getD i zI = l[i] := by simp [List.getD, hi]
    rw [e2]
    exact ⟨b, o, ea, hb, hc 0 _ rfl, hc 1 _ rfl, hc 2 _ rfl, hc 3 _ rfl, hc 4 _ rfl⟩
  · obtain ⟨i, hi, rfl⟩ := List.mem_iff_getElem.1 hy
    obtain ⟨b, o, cs, ea, hb, ⟨_, hr⟩, _⟩ := h3 i _ (List.getElem?_eq_getElem hi)
    exact hr
set_option maxRecDepth 100000 in
theorem entry_of (h : DataW.trod enc Tryd.prog W 0 (fun _ => true) true fuel 47 cs = some x) (hw : Wok 47 x.1) : ∃ y : Fn3 × Value, cs = [.int .i64 y.1.st, .int .i64 y.1.pa, y.2] ∧ Sl W y.2 y.1.lo ∧ y.1.lo.length ≤ 140737488351232 := by
  obtain ⟨xs, f, hfu, ex, hl, hlen, hf⟩ := DataW.trod_struct Tryd.underlying47 h
  rw [show Tryd.prog.cellsOf 47 = 3 by kernel_rfl] at hl
  clear h
  have hx : xs.length = 3 := hlen
  match cs, hl with
  | [c0, c1, c2], _ =>
    have h0 : DataW.trod enc Tryd.prog W 0 (fun _ => true) true f 3 (([c0, c1, c2].drop 0).take (Tryd.prog.cellsOf 3)) = xs[0]? := hf 0 _ rfl
    have h1 : DataW.trod enc Tryd.prog W 0 (fun _ => true) true f 3 (([c0, c1, c2].drop 1).take (Tryd.prog.cellsOf 3)) = xs[1]? := hf 1 _ rfl
    have h2 : DataW.trod enc Tryd.prog W 0 (fun _ => true) true f 22 (([c0, c1, c2].drop 2).take (Tryd.prog.cellsOf 22)) = xs[2]? := hf 2 _ rfl
    clear hf
    simp only [show Tryd.prog.cellsOf 3 = 1 by kernel_rfl, show Tryd.prog.cellsOf 22 = 1 by kernel_rfl, List.drop_zero, List.drop_succ_cons, List.take_succ_cons, List.take_zero] at h0 h1 h2
    rw [List.getElem?_eq_getElem (by omega)] at h0 h1 h2
    obtain ⟨z0, q0, _⟩ := DataW.trod_int Tryd.underlying3 h0
    obtain ⟨z1, q1, _⟩ := DataW.trod_int Tryd.underlying3 h1
    simp at q0 q1
    subst q0 q1
    obtain ⟨lo, hlo⟩ := sl_of h2
    rw [ex] at hw
    have w2 := wok_field (i := 2) Tryd.underlying47 hw rfl (List.getElem?_eq_getElem (show 2 < xs.length by omega))
    refine ⟨(⟨z0, z1, lo⟩, c2), rfl, hlo, ?_⟩
    obtain ⟨aP, lP, cP, e, hlP⟩ := hlo.slice
    subst e
    have := len_of Tryd.underlying22 (show Tryd.prog.bytesOf 3 = 8 by kernel_rfl) (by omega) h2 w2
    show lo.length ≤ _
    omega
theorem entries_of (h : DataW.trod enc Tryd.prog W 0 (fun _ => true) true fuel 24 [v] = some x) (hw : Wok 24 x.1) : ∃ l, SlF W v l ∧ l.length ≤ 140737488351232 ∧ ∀ f ∈ l, f.lo.length ≤ 140737488351232 := by
  obtain ⟨a, cap, l, e, h1, h2, h4, h3⟩ := rows_w ((zF, .slice none 0 0) : Fn3 × Value) Tryd.underlying24 (show Tryd.prog.cellsOf 47 = 3 by kernel_rfl) (by omega) (fun (y : Fn3 × Value) cs => cs = [.int .i64 y.1.st, .int .i64 y.1.pa, y.2] ∧ Sl W y.2 y.1.lo ∧ y.1.lo.length ≤ 140737488351232) (fun f cs y _ hy hz => entry_of hy hz) hw h
  rw [show Tryd.prog.bytesOf 47 = 40 by kernel_rfl, show reachBytes = 140737488351232 from rfl] at h4
  refine ⟨l.map Prod.fst, ⟨a, cap, by rw [List.length_map]; exact e, by rw [List.length_map]; exact h1, h2, fun i hi => ?_⟩, by rw [List.length_map]; omega, fun f hf => ?_⟩
  · rw [List.length_map] at hi
    obtain ⟨b, o, cs, ea, hb, ⟨rfl, hs, _⟩, _, hc⟩ := h3 i _ (List.getElem?_eq_getElem hi)
    have e2 : (l.map Prod.fst).getD i zF = l[i].1 := by simp [List.getD, hi]
    rw [e2]
    exact ⟨b, o, _, ea, hb, hc 0 _ rfl, hc 1 _ rfl, hc 2 _ rfl, hs⟩
  · obtain ⟨y, hy, rfl⟩ := List.mem_map.1 hf
    obtain ⟨i, hi, rfl⟩ := List.mem_iff_getElem.1 hy
    obtain ⟨b, o, cs, ea, hb, ⟨_, _, hr⟩, _⟩ := h3 i _ (List.getElem?_eq_getElem hi)
    exact hr
set_option maxRecDepth 100000 in
theorem code_of (h : DataW.trod enc Tryd.prog W 0 (fun _ => true) true fuel 27 cs = some x) (hw : Wok 27 x.1) : ∃ vP vC vF vB c, cs = [vP, .int .i64 c.M, .int .i64 c.A, vC, vF, .int .i64 c.mn, vB] ∧ Cv W vP vC vF vB c := by
  obtain ⟨xs, f, hfu, ex, hl, hlen, hf⟩ := DataW.trod_struct Tryd.underlying27 h
  rw [show Tryd.prog.cellsOf 27 = 7 by kernel_rfl] at hl
  clear h
  have hx : xs.length = 7 := hlen
  match cs, hl with
  | [c0, c1, c2, c3, c4, c5, c6], _ =>
    have h0 : DataW.trod enc Tryd.prog W 0 (fun _ => true) true f 22 (([c0, c1, c2, c3, c4, c5, c6].drop 0).take (Tryd.prog.cellsOf 22)) = xs[0]? := hf 0 _ rfl
    have h1 : DataW.trod enc Tryd.prog W 0 (fun _ => true) true f 3 (([c0, c1, c2, c3, c4, c5, c6].drop 1).take (Tryd.prog.cellsOf 3)) = xs[1]? := hf 1 _ rfl
    have h2 : DataW.trod enc Tryd.prog W 0 (fun _ => true) true f 3 (([c0, c1, c2, c3, c4, c5, c6].drop 2).take (Tryd.prog.cellsOf 3)) = xs[2]? := hf 2 _ rfl
    have h3 : DataW.trod enc Tryd.prog W 0 (fun _ => true) true f 23 (([c0, c1, c2, c3, c4, c5, c6].drop 3).take (Tryd.prog.cellsOf 23)) = xs[3]? := hf 3 _ rfl
    have h4 : DataW.trod enc Tryd.prog W 0 (fun _ => true) true f 24 (([c0, c1, c2, c3, c4, c5, c6].drop 4).take (Tryd.prog.cellsOf 24)) = xs[4]? := hf 4 _ rfl
    have h5 : DataW.trod enc Tryd.prog W 0 (fun _ => true) true f 3 (([c0, c1, c2, c3, c4, c5, c6].drop 5).take (Tryd.prog.cellsOf 3)) = xs[5]? := hf 5 _ rfl
    have h6 : DataW.trod enc Tryd.prog W 0 (fun _ => true) true f 25 (([c0, c1, c2, c3, c4, c5, c6].drop 6).take (Tryd.prog.cellsOf 25)) = xs[6]? := hf 6 _ rfl
    clear hf
    simp only [show Tryd.prog.cellsOf 3 = 1 by kernel_rfl, show Tryd.prog.cellsOf 22 = 1 by kernel_rfl, show Tryd.prog.cellsOf 23 = 1 by kernel_rfl, show Tryd.prog.cellsOf 24 = 1 by kernel_rfl, show Tryd.prog.cellsOf 25 = 1 by kernel_rfl, List.drop_zero, List.drop_succ_cons, List.take_succ_cons, List.take_zero] at h0 h1 h2 h3 h4 h5 h6
    rw [List.getElem?_eq_getElem (by omega)] at h0 h1 h2 h3 h4 h5 h6
    obtain ⟨z1, q1, _⟩ := DataW.trod_int Tryd.underlying3 h1
    obtain ⟨z2, q2, _⟩ := DataW.trod_int Tryd.underlying3 h2
    obtain ⟨z5, q5, _⟩ := DataW.trod_int Tryd.underlying3 h5
    simp at q1 q2 q5
    subst q1 q2 q5
    rw [ex] at hw
    have w0 := wok_field (i := 0) Tryd.underlying27 hw rfl (List.getElem?_eq_getElem (show 0 < xs.length by omega))
    have w3 := wok_field (i := 3) Tryd.underlying27 hw rfl (List.getElem?_eq_getElem (show 3 < xs.length by omega))
    have w4 := wok_field (i := 4) Tryd.underlying27 hw rfl (List.getElem?_eq_getElem (show 4 < xs.length by omega))
    have w6 := wok_field (i := 6) Tryd.underlying27 hw rfl (List.getElem?_eq_getElem (show 6 < xs.length by omega))
    obtain ⟨P, hP⟩ := sl_of h0
    obtain ⟨C, hC, lC, kC⟩ := chans_of h3 w3
    obtain ⟨F, hF, lF, kF⟩ := entries_of h4 w4
    obtain ⟨B, hB, lB, kB⟩ := inss_of h6 w6
    have lP : P.length ≤ 140737488351232 := by
      obtain ⟨aP, lP, cP, e, hlP⟩ := hP.slice
      subst e
      have := len_of Tryd.underlying22 (show Tryd.prog.bytesOf 3 = 8 by kernel_rfl) (by omega) h0 w0
      omega
    exact ⟨c0, c3, c4, c6, ⟨P, z1, z2, C, F, B, z5⟩, rfl, ⟨lP, lC, lF, lB, kF, kB, kC⟩, hP, hC, hF, hB⟩
end
theorem code_open {H : Type} {enc : TypeId × Value → H} {W : World} {a : Array Value} {d : DataW H} {p : List MemPlace} (h : DataW.Trod enc Tryd.prog W 0 (fun _ => true) true 27 (.agg a) d p) (hw : Wok 27 d) :
    ∃ vP vC vF vB c, Value.agg a = .agg #[vP, .int .i64 c.M, .int .i64 c.A, vC, vF, .int .i64 c.mn, vB] ∧ Cv W vP vC vF vB c := by
  obtain ⟨fuel, h⟩ := h
  obtain ⟨vP, vC, vF, vB, c, e, h1⟩ := code_of h hw
  refine ⟨vP, vC, vF, vB, c, ?_, h1⟩
  congr 1
  have e' : a.toList = [vP, .int .i64 c.M, .int .i64 c.A, vC, vF, .int .i64 c.mn, vB] := e
  rw [← Array.toArray_toList (xs := a), e']
end Go.Proofs.YtigfjjolfeenaaaDoor.Ck
