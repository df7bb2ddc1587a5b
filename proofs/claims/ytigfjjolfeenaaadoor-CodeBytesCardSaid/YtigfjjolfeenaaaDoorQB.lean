/- Texts of this proof, packed. -/
import Derived.Test.YtigfjjolfeenaaaDoorNum
import Derived.Test.YtigfjjolfeenaaaDoorEb
import Derived.Test.YtigfjjolfeenaaaDoorGr
import Derived.Test.YtigfjjolfeenaaaDoorEh
import Derived.Test.YtigfjjolfeenaaaDoorDa
import Derived.Test.YtigfjjolfeenaaaDoorEi
import Derived.Deep.AppendSrc
import Derived.OwnWalk
import Derived.Laws.BytesString
import Derived.Lib.SlBytesConst
import Derived.Test.YtigfjjolfeenaaaDoorCk
import Derived.Test.YtigfjjolfeenaaaDoorIc
import Derived.Deep.CutBlock
import Derived.Deep.CutRange
import Derived.Test.YtigfjjolfeenaaaDoorCm
import Derived.Test.YtigfjjolfeenaaaDoorCp
import Derived.Test.YtigfjjolfeenaaaDoorGe
import Derived.Test.YtigfjjolfeenaaaDoorOpen
/- What the row's list of all seventeen errors gives; and a world that meets the list. -/
namespace Go.Proofs.YtigfjjolfeenaaaDoor.Ck
open Go.ChangeShapes Go.WideShapes Go.RowKit

def laid17 : List (String × DataW Unit) := [("stockade/api.ErrRange", Rows.laid_stockade_api_ErrRange), ("stockade/api.ErrText", Rows.laid_stockade_api_ErrText), ("stockade/api.ErrDepth", Rows.laid_stockade_api_ErrDepth), ("stockade/api.ErrName", Rows.laid_stockade_api_ErrName), ("stockade/api.ErrType", Rows.laid_stockade_api_ErrType), ("stockade/api.ErrLarge", Rows.laid_stockade_api_ErrLarge), ("stockade/api.ErrFull", Rows.laid_stockade_api_ErrFull), ("stockade/api.ErrNone", Rows.laid_stockade_api_ErrNone), ("stockade/api.ErrCode", Rows.laid_stockade_api_ErrCode), ("stockade/api.ErrState", Rows.laid_stockade_api_ErrState), ("stockade/api.ErrFrame", Rows.laid_stockade_api_ErrFrame), ("stockade/api.ErrMac", Rows.laid_stockade_api_ErrMac), ("stockade/api.ErrReplay", Rows.laid_stockade_api_ErrReplay), ("stockade/api.ErrArena", Rows.laid_stockade_api_ErrArena), ("stockade/api.ErrClock", Rows.laid_stockade_api_ErrClock), ("stockade/api.ErrQuota", Rows.laid_stockade_api_ErrQuota), ("stockade/api.ErrTenant", Rows.laid_stockade_api_ErrTenant)]
def l17 : List (String × List UInt8) := [("stockade/api.ErrRange", [115, 116, 111, 99, 107, 97, 100, 101, 58, 32, 114, 97, 110, 103, 101]), ("stockade/api.ErrText", [115, 116, 111, 99, 107, 97, 100, 101, 58, 32, 116, 101, 120, 116]), ("stockade/api.ErrDepth", [115, 116, 111, 99, 107, 97, 100, 101, 58, 32, 100, 101, 112, 116, 104]), ("stockade/api.ErrName", [115, 116, 111, 99, 107, 97, 100, 101, 58, 32, 110, 97, 109, 101]), ("stockade/api.ErrType", [115, 116, 111, 99, 107, 97, 100, 101, 58, 32, 116, 121, 112, 101]), ("stockade/api.ErrLarge", [115, 116, 111, 99, 107, 97, 100, 101, 58, 32, 108, 97, 114, 103, 101]), ("stockade/api.ErrFull", [115, 116, 111, 99, 107, 97, 100, 101, 58, 32, 102, 117, 108, 108]), ("stockade/api.ErrNone", [115, 116, 111, 99, 107, 97, 100, 101, 58, 32, 110, 111, 110, 101]), ("stockade/api.ErrCode", [115, 116, 111, 99, 107, 97, 100, 101, 58, 32, 99, 111, 100, 101]), ("stockade/api.ErrState", [115, 116, 111, 99, 107, 97, 100, 101, 58, 32, 115, 116, 97, 116, 101]), ("stockade/api.ErrFrame", [115, 116, 111, 99, 107, 97, 100, 101, 58, 32, 102, 114, 97, 109, 101]), ("stockade/api.ErrMac", [115, 116, 111, 99, 107, 97, 100, 101, 58, 32, 109, 97, 99]), ("stockade/api.ErrReplay", [115, 116, 111, 99, 107, 97, 100, 101, 58, 32, 114, 101, 112, 108, 97, 121]), ("stockade/api.ErrArena", [115, 116, 111, 99, 107, 97, 100, 101, 58, 32, 97, 114, 101, 110, 97]), ("stockade/api.ErrClock", [115, 116, 111, 99, 107, 97, 100, 101, 58, 32, 99, 108, 111, 99, 107]), ("stockade/api.ErrQuota", [115, 116, 111, 99, 107, 97, 100, 101, 58, 32, 113, 117, 111, 116, 97]), ("stockade/api.ErrTenant", [115, 116, 111, 99, 107, 97, 100, 101, 58, 32, 116, 101, 110, 97, 110, 116])]
theorem laid17_eq : laid17 = l17.map fun x => (x.1, sentD x.2) := rfl
theorem named17 : ((List.range 17).all fun i => Tryd.prog.globalNamed (l17.getD i ("", [])).1 == some (gl.getD i 0) && (Tryd.prog.globals[gl.getD i 0]?).map (·.type) == some 31) = true := by kernel_rfl

theorem nodup_of_map {l : List Addr} (h : (l.map placeOf).Nodup) : l.Nodup := by
  induction l with
  | nil => exact List.nodup_nil
  | cons a l ih =>
    simp only [List.map_cons, List.nodup_cons] at h ⊢
    exact ⟨fun hm => h.1 (List.mem_map_of_mem hm), ih h.2⟩

theorem errs17_of_laid {W : World} (h : laidMetH Tryd.prog laid17 W) : ∃ p, Errs17 W p := by
  rw [MakeChecks.laidMetH_plain _ _ _ (by kernel_rfl), laid17_eq] at h
  obtain ⟨ps, hv, hnd, hrows⟩ := h
  obtain ⟨p, hs, hsub⟩ := sents_of l17 gl ps rfl (fun i hi => by
    have h1 := List.all_eq_true.1 named17 i (List.mem_range.2 hi)
    simp only [Bool.and_eq_true, beq_iff_eq] at h1
    exact h1) hv hrows
  exact ⟨p, hs, nodup_of_map (hnd.sublist hsub)⟩

theorem door_met17 (os : Os) (args : Array Value) : laidMetH Tryd.prog laid17 ((World.doorLaid Tryd.prog 332 os).forCall (fun _ _ => 0) ⟨#[], args, []⟩).memory :=
  laidMetH_of_parts3 (fuel := 8) (laidMet_of_run' 8 (by kernel_rfl) (by kernel_rfl)) (by kernel_rfl) (by kernel_rfl)

end Go.Proofs.YtigfjjolfeenaaaDoor.Ck

/- The document: a number is read. (Written by mk_n.py.) -/
namespace Go.Proofs.YtigfjjolfeenaaaDoor.Ck
open Go.RowKit

/-- the document's reader, in block g: all bytes L, how many are behind it, and what is left as long as it is fine -/
structure Rr (w : World) (g B : Nat) (vb : Value) (L : List Int) (a : Nat) (s : Option (List Int)) : Prop where
  at_ : w.heap[g]? = some (.cells #[vb, .int .i64 (a : Int), .bool s.isSome] 71 (0, 0))
  al : a ≤ L.length
  rest : ∀ r, s = some r → r = L.drop a
  sy : SY w g B vb L
  gB : g < B
  BW : B ≤ w.heap.size
  byt : Byt L
  len : L.length ≤ 1000000
theorem Rr.keep {w w' : World} {g B : Nat} {vb : Value} {L : List Int} {a : Nat} {s : Option (List Int)} (h : Rr w g B vb L a s) (hs : B ≤ w'.heap.size) (t : ∀ b, b < B → w'.heap[b]? = w.heap[b]?) : Rr w' g B vb L a s :=
  ⟨(t g h.gB).trans h.at_, h.al, h.rest, h.sy.keep (fun b hb _ => t b hb), h.gB, hs, h.byt, h.len⟩
theorem Rr.bel {w w' : World} {g B : Nat} {vb : Value} {L : List Int} {a : Nat} {s : Option (List Int)} (h : Rr w g B vb L a s) (hb : Below w.heap.size w w') : Rr w' g B vb L a s := h.keep (Nat.le_trans h.BW hb.size) (fun b hk => hb.block b (Nat.lt_of_lt_of_le hk h.BW))
theorem Rr.tn {w w' : World} {g B c : Nat} {vb : Value} {L : List Int} {a : Nat} {s : Option (List Int)} (h : Rr w g B vb L a s) (t : Tn c w w') (hc : B ≤ c) : Rr w' g B vb L a s := h.keep (Nat.le_trans h.BW t.size) (fun b hk => t.blk b (Nat.lt_of_lt_of_le hk h.BW) (by omega))
def nextS (n : Nat) : Option (List Int) → Option (List Int)
  | some r => if n ≤ r.length then some (r.drop n) else none
  | none => none
def NumP (n : Nat) (w : World) (g B : Nat) (vb : Value) (L : List Int) (a : Nat) (s : Option (List Int)) (e : Ending) (w' : World) : Prop :=
  ∃ (y : Int) (a' : Nat), e = .returned (.int .i64 (wrap64 y)) ∧ (0 ≤ y ∧ y < 256 ^ n) ∧ Rr w' g B vb L a' (nextS n s) ∧ Tn g w w' ∧ a ≤ a' ∧ (∀ r y2 r2, s = some r → rNum n r = some (y2, r2) → y2 = y ∧ r2 = r.drop n ∧ a' = a + n)
set_option maxRecDepth 20000 in
set_option maxHeartbeats 4000000 in
theorem rnum_no {w : World} {g B : Nat} {vb : Value} {L : List Int} {a : Nat} {s : Option (List Int)} (h : Rr w g B vb L a s) (n : Nat) (hn : n ≤ 8) (hl : L.length < a + n) : Calls Tryd.prog 31 #[.pointer (some ⟨g, 0, none⟩), .int .i64 n] w (NumP n w g B vb L a s) := by
  obtain ⟨av, cv, rfl, _⟩ := h.sy
  have c0 := blk_cell h.at_ 0 _ rfl
  have c1 := blk_cell h.at_ 1 _ rfl
  obtain ⟨m, hm⟩ : ∃ m, m = L.length := ⟨_, rfl⟩
  have HR := hide h
  rw [← hm] at c0 HR hl ⊢
  have hma : m ≤ 1000000 := by rw [hm]; exact h.len
  have haa : a ≤ m := by rw [hm]; exact h.al
  have hsub : wrap64 ((m : Int) - (a : Int)) = (m : Int) - (a : Int) := by unfold wrap64; omega
  have hd : decide ((m : Int) - (a : Int) < (n : Int)) = true := decide_eq_true (by omega)
  have HM := hide hm
  have HL := hide hl
  clear h hm hma haa hl
  go_enter Tryd.func31, Tryd.ntmps31
  go_wp2_with fail
  go_quiet (fail)
  have HQ := hide (HR.out.bel (drew_bel w nq))
  have TQ := hide (Tn.of_bel (g := g) (drew_bel w nq))
  clear c0 c1 HR
  generalize w.drewN nq = wq at *
  have c2 := blk_cell HQ.out.at_ 2 _ rfl
  have f2 := blk_frz HQ.out.at_ 2
  go_wp2_with fail
  go_ret
  obtain ⟨k, t⟩ := set1 HQ.out.at_ 2 (.bool false)
  have hh := HQ.out
  have hn2 : nextS n s = none := by
    unfold nextS
    cases s with
    | none => rfl
    | some r =>
      have e := hh.rest r rfl
      show (if n ≤ r.length then _ else _) = _
      rw [if_neg (by rw [e, List.length_drop]; have := HL.out; have := HM.out; have := hh.al; omega)]
  refine ⟨0, a, (by rw [show wrap64 0 = 0 by unfold wrap64; omega]; rfl), ⟨Int.le_refl _, Int.pow_pos (by decide)⟩, ?_, TQ.out.trans t, Nat.le_refl _, fun r y2 r2 e1 e2 => ?_⟩
  · rw [hn2]
    exact ⟨k, hh.al, fun _ e => (by cases e), hh.sy.keep (fun b hb hg => t.blk b (Nat.lt_of_lt_of_le hb hh.BW) hg), hh.gB, Nat.le_trans hh.BW t.size, hh.byt, hh.len⟩
  · exfalso
    have e := hh.rest r e1
    unfold rNum at e2
    rw [if_neg (by rw [e, List.length_drop]; have := HL.out; have := HM.out; have := hh.al; omega)] at e2
    cases e2
set_option maxRecDepth 20000 in
set_option maxHeartbeats 4000000 in
theorem rnum_yes {w : World} {g B : Nat} {vb : Value} {L : List Int} {a : Nat} {s : Option (List Int)} (h : Rr w g B vb L a s) (n : Nat) (hn0 : 1 ≤ n) (hn : n ≤ 8) (hl : a + n ≤ L.length) : Calls Tryd.prog 31 #[.pointer (some ⟨g, 0, none⟩), .int .i64 n] w (NumP n w g B vb L a s) := by
  obtain ⟨av, cv, rfl, hcap, hmax, hcs⟩ := h.sy
  have c0 := blk_cell h.at_ 0 _ rfl
  have c1 := blk_cell h.at_ 1 _ rfl
  obtain ⟨b0, o0, rfl, hb0, hn0', _⟩ := hcs a (by omega)
  have HC := hide (fun i (hi : i < n) => (by
    obtain ⟨b, off, e, h2, _, h3⟩ := hcs (a + i) (by omega)
    cases e
    rw [show L.getD (a + i) 0 = (L.drop a).getD i 0 by simp [List.getD_eq_getElem?_getD, List.getElem?_drop]] at h3
    exact h3 : w.cell? ⟨b0, o0 + (a + i), none⟩ = some (.int .u8 ((L.drop a).getD i 0))))
  have hld : n ≤ (L.drop a).length := by rw [List.length_drop]; omega
  have hbd : Byt (L.drop a) := fun b hb => h.byt b (List.mem_of_mem_drop hb)
  have HBy := hide (fun i (hi : i < n) => hbd ((L.drop a).getD i 0) (by rw [List.getD_eq_getElem?_getD, List.getElem?_eq_getElem (by omega)]; exact List.getElem_mem _))
  have HK := hide (numK_num (L.drop a) hbd n hn hld)
  have HN := hide (num_rng n ((L.drop a).take n) (by rw [List.length_take]; omega) (fun b hb => hbd b (List.mem_of_mem_take hb)))
  obtain ⟨m, hm⟩ : ∃ m, m = L.length := ⟨_, rfl⟩
  have HR := hide h
  rw [← hm] at c0 HR hl ⊢
  have hma : m ≤ 1000000 := by rw [hm]; exact h.len
  have haa : a ≤ m := by omega
  have hsub : wrap64 ((m : Int) - (a : Int)) = (m : Int) - (a : Int) := by unfold wrap64; omega
  have hd : decide ((m : Int) - (a : Int) < (n : Int)) = false := decide_eq_false (by omega)
  have HD := hide hld
  have HM := hide hm
  clear h hm hcs hcap hmax hb0 hn0' hld hbd
  go_enter Tryd.func31, Tryd.ntmps31
  go_wp2_with fail
  go_quiet (fail)
  have HQ := hide (show ∃ q, w.drewN nq = w.drewN q from ⟨nq, rfl⟩)
  generalize w.drewN nq = wq at *
  have K0 := hide c0
  have K1 := hide c1
  clear c0 c1 hsub hd
  go_wp2_with fail
  go_loopw [5, 6] (fun u i wr => ∃ k : Nat, k ≤ n ∧ i = .int .i64 k ∧ u = .int .u64 (numK (L.drop a) k) ∧ Hid (∃ q, wr = w.drewN q)) (fun u i _ => n - (intOf i).toNat)
  case atStart => exact ⟨0, Nat.zero_le _, rfl, rfl, HQ⟩
  case round =>
    obtain ⟨k, hk, rfl, rfl, hw⟩ := hrel
    obtain ⟨q, hq⟩ := hw.out
    clear HQ hw
    by_cases hlt : k < n
    · have h1 : (k : Int) < (n : Int) := by omega
      have g0 := drew_at hq K0.out
      have g1 := drew_at hq K1.out
      have hc := drew_at hq (HC.out k hlt)
      obtain ⟨ak, hak⟩ : ∃ ak : Nat, ak = a + k := ⟨_, rfl⟩
      rw [← hak] at hc
      have hadd : wrap64 ((a : Int) + (k : Int)) = (ak : Int) := by unfold wrap64; omega
      have hin : (0 : Int) ≤ (ak : Int) ∧ (ak : Int) < (m : Int) := by omega
      have hx := HBy.out k hlt
      have hNf := numK_fit (L.drop a) k
      have EN : Hid (numK (L.drop a) (k + 1) = (256 * numK (L.drop a) k + (L.drop a).getD k 0) % 18446744073709551616) := rfl
      have EO := hide (or_low (numK (L.drop a) k) ((L.drop a).getD k 0) hx)
      generalize numK (L.drop a) k = u at *
      generalize (L.drop a).getD k 0 = x at *
      have HQQ := hide hq
      clear hma haa hak hl HC hq
      go_wp2_with fail
      go_quiet (fail)
      have HQ2 := hide (drew_more HQQ.out nq)
      go_wp2_with fail
      go_roundw
      case rel => exact ⟨k + 1, by omega, by go_num, by rw [EN.out, ← EO.out, show IntKind.u64.wrap (u * 256) = 256 * u % 18446744073709551616 by rw [IntKind.wrap_u64, Int.mul_comm]], hide ⟨_, HQ2.out⟩⟩
      case measure => simp [intOf]; omega
    · obtain rfl : k = n := by omega
      rw [HK.out]
      have hb : Below w.heap.size w wr := by rw [hq]; exact drew_bel w q
      have HX := hide (HR.out.bel hb)
      have TX := hide (Tn.of_bel (g := g) hb)
      have c1 := blk_cell HX.out.at_ 1 _ rfl
      have f1 := blk_frz HX.out.at_ 1
      obtain ⟨ak, hak⟩ : ∃ ak : Nat, ak = a + k := ⟨_, rfl⟩
      have hadd : wrap64 ((a : Int) + (k : Int)) = (ak : Int) := by unfold wrap64; omega
      have HAK := hide hak
      have HLL := hide hl
      obtain ⟨y, hy⟩ : ∃ y, y = numL ((L.drop a).take k) := ⟨_, rfl⟩
      have HY := hide hy
      rw [← hy]
      clear hak hq hb HC HBy HR hl hma haa hy K0 K1
      go_wp2_with fail
      go_ret
      obtain ⟨kk, t⟩ := set1 HX.out.at_ 1 (.int .i64 (ak : Int))
      have hh := HX.out
      have hs2 : ∀ r, s = some r → k ≤ r.length ∧ r.drop k = L.drop ak := fun r e => by
        have e2 := hh.rest r e
        rw [e2, List.length_drop, List.drop_drop, HAK.out]
        exact ⟨by have := HLL.out; have := HM.out; omega, rfl⟩
      have hsm : (nextS k s).isSome = s.isSome := by
        cases s with
        | none => rfl
        | some r => simp [nextS, (hs2 r rfl).1]
      refine ⟨y, ak, by first | rfl | (congr 2), by rw [HY.out]; exact HN.out, ⟨by rw [hsm]; exact kk, by have := HLL.out; have := HAK.out; have := HM.out; omega, fun r e => ?_, hh.sy.keep (fun b hb hg => t.blk b (Nat.lt_of_lt_of_le hb hh.BW) hg), hh.gB, Nat.le_trans hh.BW t.size, hh.byt, hh.len⟩, TX.out.trans t, by have := HAK.out; omega, fun r y2 r2 e1 e2 => ?_⟩
      · cases s with
        | none => cases e
        | some r0 =>
          have h1 := hs2 r0 rfl
          simp only [nextS, if_pos h1.1] at e
          cases e
          exact h1.2
      · have h1 := hs2 r e1
        unfold rNum at e2
        rw [if_pos h1.1] at e2
        cases e2
        refine ⟨?_, rfl, HAK.out⟩
        rw [HY.out, hh.rest r e1]
theorem rnum_any {w : World} {g B : Nat} {vb : Value} {L : List Int} {a : Nat} {s : Option (List Int)} (h : Rr w g B vb L a s) (n : Nat) (hn0 : 1 ≤ n) (hn : n ≤ 8) : Calls Tryd.prog 31 #[.pointer (some ⟨g, 0, none⟩), .int .i64 n] w (NumP n w g B vb L a s) := by
  by_cases hl : a + n ≤ L.length
  · exact rnum_yes h n hn0 hn hl
  · exact rnum_no h n hn (by omega)
end Go.Proofs.YtigfjjolfeenaaaDoor.Ck

/- The document's reading of a code: what is read so far, and where it lies; no Go text is walked here. -/
namespace Go.Proofs.YtigfjjolfeenaaaDoor.Ck
open Go.RowKit

theorem rBind_assoc {α β γ : Type} (p : Pz α) (f : α → Pz β) (g : β → Pz γ) : rBind (rBind p f) g = rBind p (fun x => rBind (f x) g) := by
  funext l
  unfold rBind
  cases p l with
  | none => rfl
  | some q => rfl
theorem rBind_pure {α β : Type} (x : α) (f : α → Pz β) : rBind (rPure x) f = f x := rfl
/-- the code of all bytes is what K reads from here, as long as it is fine -/
def Fin (L : List Int) (s : Option (List Int)) (K : Pz Cd) : Prop := rCode L = match s with | some r => K r | none => none
theorem Fin.none {L : List Int} {K K' : Pz Cd} (h : Fin L none K) : Fin L none K' := h
theorem Fin.rep0 {α : Type} {L : List Int} {s : Option (List Int)} {P : Pz α} {xs : List α} {f : List α → Pz Cd} (h : Fin L s (rBind (rRep P 0) fun ys => f (xs ++ ys))) : Fin L s (f xs) := by
  have e : (rBind (rRep P 0) fun ys => f (xs ++ ys)) = f xs := by
    show f (xs ++ []) = _
    rw [List.append_nil]
  rw [e] at h
  exact h
theorem Fin.rep {α : Type} {L : List Int} {s : Option (List Int)} {P : Pz α} {m : Nat} {xs : List α} {f : List α → Pz Cd} (h : Fin L s (rBind (rRep P (m + 1)) fun ys => f (xs ++ ys))) : Fin L s (rBind P fun x => rBind (rRep P m) fun ys => f ((xs ++ [x]) ++ ys)) := by
  have e : (rBind (rRep P (m + 1)) fun ys => f (xs ++ ys)) = rBind P fun x => rBind (rRep P m) fun ys => f ((xs ++ [x]) ++ ys) := by
    show rBind (rBind P _) _ = _
    rw [rBind_assoc]
    congr 1
    funext x
    rw [rBind_assoc]
    congr 1
    funext l
    rw [rBind_pure, List.append_assoc]
    rfl
  rw [e] at h
  exact h
def cr (s : Option (List Int)) : Nat := if s.isSome then 0 else 4
/-- a number that was read, and what that turned -/
def NumQ (n : Nat) (w : World) (g B : Nat) (vb : Value) (L : List Int) (a : Nat) (s : Option (List Int)) (e : Ending) (w' : World) : Prop :=
  ∃ (y : Int) (a' : Nat) (s' : Option (List Int)), e = .returned (.int .i64 (wrap64 y)) ∧ (0 ≤ y ∧ y < 256 ^ n) ∧ Rr w' g B vb L a' s' ∧ Tn g w w' ∧ (a ≤ a' ∧ (s'.isSome = true → s.isSome = true ∧ a' = a + n)) ∧ (∀ f : Int → Pz Cd, Fin L s (rBind (rNum n) f) → Fin L s' (f y))
theorem NumP.q {n : Nat} {w w' : World} {g B : Nat} {vb : Value} {L : List Int} {a : Nat} {s : Option (List Int)} {e : Ending} (h : NumP n w g B vb L a s e w') : NumQ n w g B vb L a s e w' := by
  obtain ⟨y, a', h1, h2, h3, h4, h5, h6⟩ := h
  refine ⟨y, a', _, h1, h2, h3, h4, ⟨h5, fun hs => ?_⟩, fun f hf => ?_⟩
  · cases s with
    | none => simp [nextS] at hs
    | some r =>
      refine ⟨rfl, ?_⟩
      by_cases hn : n ≤ r.length
      · exact (h6 r _ _ rfl (show rNum n r = some (numL (r.take n), r.drop n) by unfold rNum; rw [if_pos hn])).2.2
      · simp [nextS, hn] at hs
  · cases s with
    | none => exact hf
    | some r =>
      unfold Fin at hf ⊢
      rw [hf]
      show rBind (rNum n) f r = _
      by_cases hn : n ≤ r.length
      · have e1 : rNum n r = some (numL (r.take n), r.drop n) := by unfold rNum; rw [if_pos hn]
        rw [rBind_some e1, (h6 r _ _ rfl e1).1]
        simp [nextS, hn]
      · have e1 : rNum n r = none := by unfold rNum; rw [if_neg hn]
        rw [rBind_none e1]
        simp [nextS, hn]
theorem num_q {w : World} {g B : Nat} {vb : Value} {L : List Int} {a : Nat} {s : Option (List Int)} (h : Rr w g B vb L a s) (n : Nat) (hn0 : 1 ≤ n) (hn : n ≤ 8) : Calls Tryd.prog 31 #[.pointer (some ⟨g, 0, none⟩), .int .i64 n] w (NumQ n w g B vb L a s) := (rnum_any h n hn0 hn).mono fun _ _ q => q.q
/-- four bytes: a number as it is -/
def Num4 (w : World) (g B : Nat) (vb : Value) (L : List Int) (a : Nat) (s : Option (List Int)) (e : Ending) (w' : World) : Prop :=
  ∃ (y : Int) (a' : Nat) (s' : Option (List Int)), e = .returned (.int .i64 y) ∧ Sm y ∧ Rr w' g B vb L a' s' ∧ Tn g w w' ∧ (a ≤ a' ∧ (s'.isSome = true → s.isSome = true ∧ a' = a + 4)) ∧ (∀ f : Int → Pz Cd, Fin L s (rBind (rNum 4) f) → Fin L s' (f y))
theorem num_4 {w : World} {g B : Nat} {vb : Value} {L : List Int} {a : Nat} {s : Option (List Int)} (h : Rr w g B vb L a s) : Calls Tryd.prog 31 #[.pointer (some ⟨g, 0, none⟩), .int .i64 4] w (Num4 w g B vb L a s) := (num_q h 4 (by omega) (by omega)).mono fun e w' q => by
  obtain ⟨y, a', s', h1, h2, h3⟩ := q
  rw [p256_4] at h2
  refine ⟨y, a', s', ?_, h2, h3⟩
  rw [h1, show wrap64 y = y by unfold wrap64; omega]
/-- the seven numbers ahead, and what is behind them -/
def rTail (ns : List Int) : Pz Cd :=
  rBind (rRep (rNum 4) (ns.getD 0 0).toNat) fun P => rBind (rRep rChan (ns.getD 3 0).toNat) fun C => rBind (rRep rFn (ns.getD 4 0).toNat) fun F => rBind (rRep rIns (ns.getD 5 0).toNat) fun B => rPure ⟨P, ns.getD 1 0, ns.getD 2 0, C, F, B, ns.getD 6 0⟩
theorem code_tail : rCode = rBind (rRep (rNum 4) 7) fun ys => rTail ([] ++ ys) := by
  simp only [rRep, rBind_assoc, rBind_pure]
  rfl
theorem Fin.start {L : List Int} : Fin L (some L) (rBind (rRep (rNum 4) 7) fun ys => rTail ([] ++ ys)) := by
  unfold Fin
  rw [← code_tail]
/-- where the reading stands: W the world ahead, H the seven numbers' block, c what is read so far -/
structure Rf (W : World) (L : List Int) (vb : Value) (H : Array Value) (q : Nat) (w : World) (vP vC vF vB : Value) (c : Cd) (a : Nat) (s : Option (List Int)) : Prop where
  hq : W.heap.size + 3 ≤ q
  rd : Rr w (W.heap.size + 1) (W.heap.size + 2) vb L a s
  kz : w.heap[W.heap.size]? = some (.cells #[.slice none 0 0, .int .i64 0, .int .i64 0, .slice none 0 0, .slice none 0 0, .int .i64 0, .slice none 0 0] 27 (0, 0))
  kh : w.heap[W.heap.size + 2]? = some (.cells H 72 (0, 0))
  kc : w.heap[q]? = some (.cells #[vP, .int .i64 c.M, .int .i64 c.A, vC, vF, .int .i64 c.mn, vB] 27 (0, 0))
  cd : CdR (q + 1) w vP vC vF vB c
  b : Below W.heap.size W w
theorem CdR.kpS {S : Nat} {w w' : World} {vP vC vF vB : Value} {c : Cd} (h : CdR S w vP vC vF vB c) (t : Kp S w w') : CdR S w' vP vC vF vB c := ⟨h.P.kp t, h.C.kp t, h.F.kp t, h.B.kp t⟩
section
variable {W : World} {L : List Int} {vb : Value} {H : Array Value} {q : Nat} {w w' : World} {vP vC vF vB : Value} {c : Cd} {a a' : Nat} {s s' : Option (List Int)}
theorem Rf.num (h : Rf W L vb H q w vP vC vF vB c a s) (t : Tn (W.heap.size + 1) w w') (r : Rr w' (W.heap.size + 1) (W.heap.size + 2) vb L a' s') : Rf W L vb H q w' vP vC vF vB c a' s' :=
  have hq := h.hq
  ⟨hq, r, (t.blk _ (lt_of_blk h.kz) (by omega)).trans h.kz, (t.blk _ (lt_of_blk h.kh) (by omega)).trans h.kh, (t.blk _ (lt_of_blk h.kc) (by omega)).trans h.kc, h.cd.kpS (Kp.tn t (by omega)), h.b.trans (t.bel (by omega) h.b.size)⟩
theorem Rf.bel (h : Rf W L vb H q w vP vC vF vB c a s) (hb : Below w.heap.size w w') : Rf W L vb H q w' vP vC vF vB c a s := h.num (Tn.of_bel hb) (h.rd.bel hb)
/-- a row has grown, and is put in -/
theorem Rf.put (h : Rf W L vb H q w vP vC vF vB c a s) {v v' uP uC uF uB : Value} {c' : Cd} {i : Nat} (hg : w.grownBy w' v.ownBlock) (hown : ∀ k, v.ownBlock = some k → q + 1 ≤ k)
    (hi : #[vP, .int .i64 c.M, .int .i64 c.A, vC, vF, .int .i64 c.mn, vB].setIfInBounds i v' = #[uP, .int .i64 c'.M, .int .i64 c'.A, uC, uF, .int .i64 c'.mn, uB]) (hcd : CdR (q + 1) w' uP uC uF uB c') :
    w'.heap[q]? = some (.cells #[vP, .int .i64 c.M, .int .i64 c.A, vC, vF, .int .i64 c.mn, vB] 27 (0, 0)) ∧ Rf W L vb H q (w'.setCell ⟨q, i, none⟩ v') uP uC uF uB c' a s := by
  have hq := h.hq
  have hk : ∀ k, k < q + 1 → k < w.heap.size → w'.heap[k]? = w.heap[k]? := fun k h1 h2 => hg.block k h2 (fun e => by have := hown k e.symm; omega)
  have k3 := (hk _ (by omega) (lt_of_blk h.kc)).trans h.kc
  obtain ⟨k4, t⟩ := set1 k3 i v'
  rw [hi] at k4
  have hk2 : ∀ k, k < q → k < w.heap.size → (w'.setCell ⟨q, i, none⟩ v').heap[k]? = w.heap[k]? := fun k h1 h2 => (t.blk k (Nat.lt_of_lt_of_le h2 hg.size) (by omega)).trans (hk k (by omega) h2)
  have hsz : w.heap.size ≤ (w'.setCell ⟨q, i, none⟩ v').heap.size := Nat.le_trans hg.size t.size
  refine ⟨k3, hq, h.rd.keep (Nat.le_trans h.rd.BW hsz) (fun b hb => hk2 b (by omega) (Nat.lt_of_lt_of_le hb h.rd.BW)), (hk2 _ (by omega) (lt_of_blk h.kz)).trans h.kz, (hk2 _ (by omega) (lt_of_blk h.kh)).trans h.kh, k4, hcd.kpS (Kp.tn t (by omega)), ?_⟩
  exact ⟨t.os.trans (hg.os.trans h.b.os), t.tape.trans (hg.tape.trans h.b.tape), t.output.trans (hg.output.trans h.b.output), Nat.le_trans h.b.size hsz, fun k hk3 => (hk2 k (by omega) (Nat.lt_of_lt_of_le hk3 h.b.size)).trans (h.b.block k hk3)⟩
end
/-- one more of a row of one's own -/
theorem pushO {TS T : TypeId} {sz byt : Nat} {z : Value} (hu : Tryd.prog.underlying TS = some (.slice T)) (hinfo : (Tryd.prog.info? T).map (fun i => (i.zero, i.size, i.bytes)) = some (some z, sz, byt)) (hz : z.cells.size = sz) (hsz : 0 < sz) (hby : byt ≤ 100)
    {w : World} {lo n b : Nat} {v : Value} {xs news : List Value} (h : w.ownsRow lo T sz v n xs) (hl : news.length = sz) (hb : w.heap[b]? = some (.cells news.toArray T (0, 0))) (h1 : ∀ u ∈ news, u.oneCell' = true) (hn : n ≤ 100000) (hlo : lo ≤ w.heap.size) (ty : TypeId) :
    ∃ v' w', (Builtin.append_ #[TS, TS] ty #[v, .slice (some ⟨b, 0, none⟩) 1 1]).run Tryd.prog w = .ok v' w' ∧ ((∃ a c, v' = .slice a (n + 1) c) ∧ w'.ownsRow lo T sz v' (n + 1) (xs ++ news) ∧ w.grownBy w' v.ownBlock) := by
  obtain ⟨ie, hi, hz0, hz1, hz2⟩ := info_parts hinfo
  have hn' : ∀ j u, news[j]? = some u → w.cell? ((⟨b, 0, none⟩ : Addr).add j) = some u := fun j u hu => by
    have e2 : (Addr.mk b 0 none).add j = ⟨b, j, none⟩ := by unfold Addr.add; by_cases h : j = 0 <;> simp [h]
    rw [e2]
    exact blk_cell hb j u (by rw [← hu]; simp)
  obtain ⟨v', w', hr, ho, hg, _⟩ := run_append_own (P := Tryd.prog) w lo TS ty T ie z sz byt hu hi hz0 hz1 hz2 hz hsz v n xs h ⟨b, 0, none⟩ 1 1 news (by omega) hn' h1 (by unfold maxLen; omega) (by have : (n + 1) * byt ≤ 100001 * 100 := Nat.mul_le_mul (by omega) hby; omega) hlo
  obtain ⟨a9, c9, e9, _⟩ := own_slice ho
  exact ⟨v', w', hr, ⟨a9, c9, e9⟩, ho, hg⟩
theorem OwnR.nil {S : Nat} {T : TypeId} {sz : Nat} {w : World} : OwnR S T sz w (.slice none 0 0) 0 [] := ⟨World.ownsRow_nil _ _ _ _⟩
theorem Ents.nil {S : Nat} {w : World} : Ents S w (.slice none 0 0) [] := ⟨[], rfl, World.ownsRow_nil _ _ _ _, fun y hy => (by cases hy)⟩
/-- a grown row leaves those of other types -/
theorem OwnR.off {S S2 : Nat} {T T2 : TypeId} {sz n2 : Nat} {w w' : World} {v v2 : Value} {n len2 : Nat} {xs xs2 : List Value} (h : OwnR S T sz w v n xs) (h2 : w.ownsRow S2 T2 n2 v2 len2 xs2) (ht : T ≠ T2) (g : w.grownBy w' v2.ownBlock) : OwnR S T sz w' v n xs := ⟨own_other h.own h2 ht g⟩
theorem Ents.off {S S2 : Nat} {T2 : TypeId} {n2 : Nat} {w w' : World} {v v2 : Value} {F : List Fn3} {len2 : Nat} {xs2 : List Value} (h : Ents S w v F) (h2 : w.ownsRow S2 T2 n2 v2 len2 xs2) (ht : 47 ≠ T2) (ht2 : 3 ≠ T2) (g : w.grownBy w' v2.ownBlock) : Ents S w' v F := by
  obtain ⟨ys, e, h1, hL⟩ := h
  exact ⟨ys, e, own_other h1 h2 ht g, fun y hy => own_other (hL y hy) h2 ht2 g⟩
section
variable {W : World} {L : List Int} {vb : Value} {H : Array Value} {q : Nat} {w : World} {vP vC vF vB : Value} {P : List Int} {M A mn : Int} {C : List (Int × Int)} {F : List Fn3} {B : List In5} {a : Nat} {s : Option (List Int)}
theorem Rf.pushP (h : Rf W L vb H q w vP (.slice none 0 0) (.slice none 0 0) (.slice none 0 0) ⟨P, M, A, [], [], [], mn⟩ a s) {x : Int} {b : Nat} (hb : w.heap[b]? = some (.cells #[.int .i64 x] 3 (0, 0))) (hn : P.length ≤ 100000) (ty : TypeId) :
    ∃ v' w', (Builtin.append_ #[22, 22] ty #[vP, .slice (some ⟨b, 0, none⟩) 1 1]).run Tryd.prog w = .ok v' w' ∧ ((∃ a c, v' = .slice a (P.length + 1) c) ∧ w'.heap[q]? = some (.cells #[vP, .int .i64 M, .int .i64 A, .slice none 0 0, .slice none 0 0, .int .i64 mn, .slice none 0 0] 27 (0, 0)) ∧
      Rf W L vb H q (w'.setCell ⟨q, 0, none⟩ v') v' (.slice none 0 0) (.slice none 0 0) (.slice none 0 0) ⟨P ++ [x], M, A, [], [], [], mn⟩ a s) := by
  obtain ⟨v', w', hr, hf, ho, hg⟩ := pushO (news := cl_int x) Tryd.underlying22 info_int rfl (by decide) (by decide) h.cd.P.own rfl hb (fun u hu => by simp [cl_int] at hu; subst hu; rfl) hn (by have := lt_of_blk h.kc; omega) ty
  have q := h.put (v' := v') (uP := v') (uC := .slice none 0 0) (uF := .slice none 0 0) (uB := .slice none 0 0) (c' := ⟨P ++ [x], M, A, [], [], [], mn⟩) (i := 0) hg (fun k hk => (own_type h.cd.P.own hk).1) rfl ⟨⟨by rw [List.length_append, show cls_int (P ++ [x]) = cls_int P ++ cl_int x by simp [cls_int]]; exact ho⟩, OwnR.nil, Ents.nil, OwnR.nil⟩
  exact ⟨v', w', hr, hf, q.1, q.2⟩
theorem Rf.pushC (h : Rf W L vb H q w vP vC (.slice none 0 0) (.slice none 0 0) ⟨P, M, A, C, [], [], mn⟩ a s) {x : Int × Int} {b : Nat} (hb : w.heap[b]? = some (.cells #[.int .i64 x.1, .int .i64 x.2] 56 (0, 0))) (hn : C.length ≤ 100000) (ty : TypeId) :
    ∃ v' w', (Builtin.append_ #[23, 23] ty #[vC, .slice (some ⟨b, 0, none⟩) 1 1]).run Tryd.prog w = .ok v' w' ∧ ((∃ a c, v' = .slice a (C.length + 1) c) ∧ w'.heap[q]? = some (.cells #[vP, .int .i64 M, .int .i64 A, vC, .slice none 0 0, .int .i64 mn, .slice none 0 0] 27 (0, 0)) ∧
      Rf W L vb H q (w'.setCell ⟨q, 3, none⟩ v') vP v' (.slice none 0 0) (.slice none 0 0) ⟨P, M, A, C ++ [x], [], [], mn⟩ a s) := by
  obtain ⟨v', w', hr, hf, ho, hg⟩ := pushO (news := cl_apiChan x) Tryd.underlying23 info_apiChan rfl (by decide) (by decide) h.cd.C.own rfl hb (fun u hu => by simp [cl_apiChan] at hu; rcases hu with rfl | rfl <;> rfl) hn (by have := lt_of_blk h.kc; omega) ty
  have q := h.put (v' := v') (uP := vP) (uC := v') (uF := .slice none 0 0) (uB := .slice none 0 0) (c' := ⟨P, M, A, C ++ [x], [], [], mn⟩) (i := 3) hg (fun k hk => (own_type h.cd.C.own hk).1) rfl ⟨h.cd.P.off h.cd.C.own (by decide) hg, ⟨by rw [List.length_append, show cls_apiChan (C ++ [x]) = cls_apiChan C ++ cl_apiChan x by simp [cls_apiChan]]; exact ho⟩, Ents.nil, OwnR.nil⟩
  exact ⟨v', w', hr, hf, q.1, q.2⟩
theorem Rf.pushF (h : Rf W L vb H q w vP vC vF (.slice none 0 0) ⟨P, M, A, C, F, [], mn⟩ a s) {x : Fn3} {vl : Value} {b : Nat} (hb : w.heap[b]? = some (.cells #[.int .i64 x.st, .int .i64 x.pa, vl] 47 (0, 0))) (hl : w.ownsRow (q + 1) 3 1 vl x.lo.length (cls_int x.lo)) (hn : F.length ≤ 100000) (ty : TypeId) :
    ∃ v' w', (Builtin.append_ #[24, 24] ty #[vF, .slice (some ⟨b, 0, none⟩) 1 1]).run Tryd.prog w = .ok v' w' ∧ ((∃ a c, v' = .slice a (F.length + 1) c) ∧ w'.heap[q]? = some (.cells #[vP, .int .i64 M, .int .i64 A, vC, vF, .int .i64 mn, .slice none 0 0] 27 (0, 0)) ∧
      Rf W L vb H q (w'.setCell ⟨q, 4, none⟩ v') vP vC v' (.slice none 0 0) ⟨P, M, A, C, F ++ [x], [], mn⟩ a s) := by
  obtain ⟨ys, ey, o, hL⟩ := h.cd.F
  replace ey : ys.map Prod.fst = F := ey
  replace o : w.ownsRow (q + 1) 47 3 vF F.length (cls_E ys) := o
  obtain ⟨al, cl, el, _⟩ := own_slice hl
  obtain ⟨v', w', hr, hf, ho, hg⟩ := pushO (news := cl_E (x, vl)) Tryd.underlying24 info_E rfl (by decide) (by decide) o rfl hb (fun u hu => by simp [cl_E, el] at hu; rcases hu with rfl | rfl | rfl <;> rfl) hn (by have := lt_of_blk h.kc; omega) ty
  have hL2 : Los (q + 1) w' (ys ++ [(x, vl)]) := fun y hy => own_other ((hL.snoc (y := (x, vl)) hl) y hy) o (by decide) hg
  have hE : Ents (q + 1) w' v' (F ++ [x]) := ⟨ys ++ [(x, vl)], by rw [List.map_append, ey]; rfl, by rw [List.length_append, show cls_E (ys ++ [(x, vl)]) = cls_E ys ++ cl_E (x, vl) by simp [cls_E]]; exact ho, hL2⟩
  have q := h.put (v' := v') (uP := vP) (uC := vC) (uF := v') (uB := .slice none 0 0) (c' := ⟨P, M, A, C, F ++ [x], [], mn⟩) (i := 4) hg (fun k hk => (own_type o hk).1) rfl ⟨h.cd.P.off o (by decide) hg, h.cd.C.off o (by decide) hg, hE, OwnR.nil⟩
  exact ⟨v', w', hr, hf, q.1, q.2⟩
theorem Rf.pushB (h : Rf W L vb H q w vP vC vF vB ⟨P, M, A, C, F, B, mn⟩ a s) {x : In5} {b : Nat} (hb : w.heap[b]? = some (.cells #[.int .i64 x.op, .int .i64 x.a, .int .i64 x.b, .int .u64 x.bits, .int .i64 x.at_] 50 (0, 0))) (hn : B.length ≤ 100000) (ty : TypeId) :
    ∃ v' w', (Builtin.append_ #[25, 25] ty #[vB, .slice (some ⟨b, 0, none⟩) 1 1]).run Tryd.prog w = .ok v' w' ∧ ((∃ a c, v' = .slice a (B.length + 1) c) ∧ w'.heap[q]? = some (.cells #[vP, .int .i64 M, .int .i64 A, vC, vF, .int .i64 mn, vB] 27 (0, 0)) ∧
      Rf W L vb H q (w'.setCell ⟨q, 6, none⟩ v') vP vC vF v' ⟨P, M, A, C, F, B ++ [x], mn⟩ a s) := by
  obtain ⟨v', w', hr, hf, ho, hg⟩ := pushO (news := cl_apiInstr x) Tryd.underlying25 info_apiInstr rfl (by decide) (by decide) h.cd.B.own rfl hb (fun u hu => by simp [cl_apiInstr] at hu; rcases hu with rfl | rfl | rfl | rfl | rfl <;> rfl) hn (by have := lt_of_blk h.kc; omega) ty
  have q := h.put (v' := v') (uP := vP) (uC := vC) (uF := vF) (uB := v') (c' := ⟨P, M, A, C, F, B ++ [x], mn⟩) (i := 6) hg (fun k hk => (own_type h.cd.B.own hk).1) rfl ⟨h.cd.P.off h.cd.B.own (by decide) hg, h.cd.C.off h.cd.B.own (by decide) hg, h.cd.F.off h.cd.B.own (by decide) (by decide) hg, ⟨by rw [List.length_append, show cls_apiInstr (B ++ [x]) = cls_apiInstr B ++ cl_apiInstr x by simp [cls_apiInstr]]; exact ho⟩⟩
  exact ⟨v', w', hr, hf, q.1, q.2⟩
end
end Go.Proofs.YtigfjjolfeenaaaDoor.Ck

/- Package code: a number is written. -/
namespace Go.Proofs.YtigfjjolfeenaaaDoor.Ck
open Go.RowKit

theorem Wv.drew {w : World} {g : Nat} {G : Nat → Prop} {v : Value} {l : List Int} (h : Wv w g G v l) : Wv w.drew g G v l := h.keep (fun _ _ _ => rfl)
set_option maxRecDepth 20000 in
set_option maxHeartbeats 4000000 in
theorem write_any {w : World} {g : Nat} {G : Nat → Prop} {l : List Int} (h : Wr w g G l) (n : Nat) (hn : n ≤ 8) (u : Nat) (hl : l.length ≤ 900000) : Calls Tryd.prog 58 #[.pointer (some ⟨g, 0, none⟩), .int .i64 n, .int .u64 (u : Int)] w fun e w' => e = .returned (.tuple #[]) ∧ ∃ G', Wr w' g G' (l ++ bigL n u) ∧ Ch G G' w w' := by
  obtain ⟨v0, h0⟩ := h
  have H0 := hide h0
  have HL := hide hl
  clear h0 hl
  have e0 : wrap64 ((n : Int) - 1) = (n : Int) - 1 := by unfold wrap64; omega
  go_enter Tryd.func58, Tryd.ntmps58
  go_wp2_with fail
  go_loopw [6] (fun i wr => ∃ (j : Nat) (G1 : Nat → Prop) (v : Value), j ≤ n ∧ i = .int .i64 ((j : Int) - 1) ∧ Hid (Wv wr g G1 v (l ++ bigL (n - j) ((u : Int) / 2 ^ (8 * j)))) ∧ Hid (Ch G G1 w wr)) (fun i _ => (intOf i + 1).toNat)
  case atStart => exact ⟨n, G, v0, Nat.le_refl _, rfl, hide (by rw [Nat.sub_self]; simpa [bigL] using H0.out), hide (Ch.refl _ _)⟩
  case round =>
    obtain ⟨j, G1, v, hj, rfl, X0, C0⟩ := hrel
    clear e0 H0
    obtain rfl | ⟨m, rfl⟩ : j = 0 ∨ ∃ m, j = m + 1 := by
      cases j with
      | zero => exact .inl rfl
      | succ m => exact .inr ⟨m, rfl⟩
    · rw [show ((0 : Nat) : Int) - 1 = -1 from rfl]
      go_wp2_with fail
      go_end0
      refine ⟨rfl, G1, ⟨v, ?_⟩, C0.out⟩
      have := X0.out
      simpa using this
    · rw [show ((m + 1 : Nat) : Int) - 1 = (m : Int) by omega]
      have ii : (0 : Int) ≤ (m : Int) ∧ (m : Int) ≤ 7 := by omega
      obtain ⟨i8, ei8⟩ : ∃ i8 : Nat, 8 * (m : Int) = (i8 : Int) := ⟨8 * m, by omega⟩
      have ei8n : Hid (8 * m = i8) := by show _ = _; omega
      have ii8 : (0 : Int) ≤ (i8 : Int) ∧ (i8 : Int) ≤ 56 := by omega
      have ew : IntKind.i64.wrap (i8 : Int) = (i8 : Int) := by
        first
        | (rw [show IntKind.i64.wrap (i8 : Int) = wrap64 (i8 : Int) from rfl]; unfold wrap64; omega)
        | (simp [IntKind.wrap, IntKind.signed, IntKind.bits]; omega)
      have BS := hide (big_step n m u (by omega))
      rw [ei8n.out] at BS
      obtain ⟨L, hL⟩ : ∃ L, L = l ++ bigL (n - (m + 1)) ((u : Int) / 2 ^ (8 * (m + 1))) := ⟨_, rfl⟩
      have HLL := hide hL
      have X : Hid (Wv wr g G1 v L) := hide (by rw [hL]; exact X0.out)
      obtain ⟨aV, cV, eV, _⟩ := own_slice X.out.own
      obtain ⟨nV, hnV⟩ : ∃ nV, nV = L.length := ⟨_, rfl⟩
      rw [← hnV] at eV
      subst eV
      have NL := hide hnV
      have NL2 : Hid (nV ≤ 1000000) := hide (by rw [hnV, hL, List.length_append, bigL_len]; have := HL.out; omega)
      clear X0 hL hnV
      go_wp2_with fail
      refine wp_region_T (S := fun w' => w'.heap[g]? = some (.cells #[.slice aV nV cV] 61 (0, 0))) (fun j => decide (j < 14)) mixed X.out.at_ (fun hH => ?_)
      have XD := hide X.out.drew
      have CD := hide C0.out.drew
      clear X C0
      have X := XD
      clear XD
      generalize wr.drew = wd at *
      refine T_move (i := 0) (v := ?_) rfl (by kernel_rfl) (by kernel_rfl) (by kernel_rfl) (fun _ _ _ h => h) (Or.inl ⟨by rfl, ?_⟩) ?_
      rotate_left 1
      · (intro w _; go_simp <;> with_reducible rfl)
      simp only [Act.put, List.getElem_toArray, List.getElem_cons_zero, List.setIfInBounds_toArray, List.set_cons_zero, List.set_cons_succ]
      refine T_move (i := 1) (v := ?_) rfl (by kernel_rfl) (by kernel_rfl) (by kernel_rfl) (fun _ _ _ h => h) (Or.inl ⟨by rfl, ?_⟩) ?_
      rotate_left 1
      · (intro w _; go_simp <;> with_reducible rfl)
      simp only [Act.put, List.getElem_toArray, List.getElem_cons_zero, List.getElem_cons_succ, List.setIfInBounds_toArray, List.set_cons_zero, List.set_cons_succ]
      refine T_move (i := 2) (v := ?_) rfl (by kernel_rfl) (by kernel_rfl) (by kernel_rfl) (fun _ _ _ h => h) (Or.inl ⟨by rfl, ?_⟩) ?_
      rotate_left 1
      · (intro w _; go_simp <;> with_reducible rfl)
      simp only [Act.put, List.getElem_toArray, List.getElem_cons_zero, List.getElem_cons_succ, List.setIfInBounds_toArray, List.set_cons_zero, List.set_cons_succ]
      refine T_move (i := 3) (v := ?_) rfl (by kernel_rfl) (by kernel_rfl) (by kernel_rfl) (fun _ _ _ h => h) (Or.inl ⟨by rfl, ?_⟩) ?_
      rotate_left 1
      · (intro w _; go_simp <;> with_reducible rfl)
      simp only [Act.put, List.getElem_toArray, List.getElem_cons_zero, List.getElem_cons_succ, List.setIfInBounds_toArray, List.set_cons_zero, List.set_cons_succ]
      refine T_take (i := 4) (v := ?_) rfl (by kernel_rfl) (by kernel_rfl) (by kernel_rfl) (by kernel_rfl) (fun _ _ _ h => h) (Or.inl ⟨by rfl, ?_⟩) hH ?_
      rotate_left 1
      · (intro w hSw; have q := blk_cell hSw 0 _ rfl; clear hSw; go_simp <;> with_reducible rfl)
      simp only [Act.put, List.getElem_toArray, List.getElem_cons_zero, List.getElem_cons_succ, List.setIfInBounds_toArray, List.set_cons_zero, List.set_cons_succ]
      refine T_move (i := 5) (v := ?_) rfl (by kernel_rfl) (by kernel_rfl) (by kernel_rfl) (fun _ _ _ h => h) (Or.inl ⟨by rfl, ?_⟩) ?_
      rotate_left 1
      · (intro w _; go_simp <;> with_reducible rfl)
      simp only [Act.put, List.getElem_toArray, List.getElem_cons_zero, List.getElem_cons_succ, List.setIfInBounds_toArray, List.set_cons_zero, List.set_cons_succ]
      refine T_move (i := 6) (v := ?_) rfl (by kernel_rfl) (by kernel_rfl) (by kernel_rfl) (fun _ _ _ h => h) (Or.inl ⟨by rfl, ?_⟩) ?_
      rotate_left 1
      · (intro w _; go_simp <;> with_reducible rfl)
      simp only [Act.put, List.getElem_toArray, List.getElem_cons_zero, List.getElem_cons_succ, List.setIfInBounds_toArray, List.set_cons_zero, List.set_cons_succ]
      refine T_move (i := 7) (v := ?_) rfl (by kernel_rfl) (by kernel_rfl) (by kernel_rfl) (fun _ _ _ h => h) (Or.inl ⟨by rfl, ?_⟩) ?_
      rotate_left 1
      · (intro w _; go_simp <;> with_reducible rfl)
      simp only [Act.put, List.getElem_toArray, List.getElem_cons_zero, List.getElem_cons_succ, List.setIfInBounds_toArray, List.set_cons_zero, List.set_cons_succ]
      refine T_move (i := 8) (v := ?_) rfl (by kernel_rfl) (by kernel_rfl) (by kernel_rfl) (fun _ _ _ h => h) (Or.inl ⟨by rfl, ?_⟩) ?_
      rotate_left 1
      · (intro w _; go_simp <;> with_reducible rfl)
      simp only [Act.put, List.getElem_toArray, List.getElem_cons_zero, List.getElem_cons_succ, List.setIfInBounds_toArray, List.set_cons_zero, List.set_cons_succ]
      refine T_move (i := 9) (v := ?_) rfl (by kernel_rfl) (by kernel_rfl) (by kernel_rfl) (fun _ _ _ h => h) (Or.inl ⟨by rfl, ?_⟩) ?_
      rotate_left 1
      · (intro w _; go_simp <;> with_reducible rfl)
      simp only [Act.put, List.getElem_toArray, List.getElem_cons_zero, List.getElem_cons_succ, List.setIfInBounds_toArray, List.set_cons_zero, List.set_cons_succ]
      clear hH
      refine T_ready (rs := [10]) (by kernel_rfl) (by decide) ?_
      refine AllReadyT.cons rfl (fun K1 hK1 => ?_) AllReadyT.nil
      go_simp
      refine hK1.out _ _ (fun _ => ((bel_new _ _).block g (lt_of_blk X.out.at_)).trans X.out.at_) (fun _ => ?_)
      have E1 := hide (blk_cell (Go.Deep.blk_alloc_new wd (.cells #[.int .u8 ((u : Int) / 2 ^ i8 % 256)] 5)) 0 _ rfl)
      have X1 := hide (X.out.keep (w' := wd.alloc (.cells #[.int .u8 ((u : Int) / 2 ^ i8 % 256)] 5)) (fun k _ hk => (bel_new _ _).block k hk))
      clear hK1 K1
      refine T_ready (rs := [11]) (by kernel_rfl) (by decide) ?_
      refine AllReadyT.cons rfl (fun K1 hK1 => ?_) AllReadyT.nil
      have X1OWN := hide (by have := X1.out.own; rw [← NL.out] at this; exact this : (wd.alloc (.cells #[.int .u8 ((u : Int) / 2 ^ i8 % 256)] 5)).ownsRow 0 5 1 (.slice aV nV cV) nV (yys L))
      have PU := hide (fun ty => pushY (l := L) NL.out NL2.out X1OWN.out ((u : Int) / 2 ^ i8 % 256) E1.out ty)
      refine step_appV (TS := 33) (.tmp 17) (.tmp 23) _ _ _ (fun ty => PU.out ty) rfl rfl rfl rfl ?_
      rintro v9 w9 ⟨⟨a9, c9, rfl⟩, o9, g9, b9⟩
      have X9 := hide (X1.out.put (by rw [← NL.out]; exact o9) g9 b9)
      refine hK1.out _ _ (fun _ => X9.out.1) (fun _ => ?_)
      clear hK1 K1 PU o9 g9 b9
      refine T_move (i := 12) (v := ?_) rfl (by kernel_rfl) (by kernel_rfl) (by kernel_rfl) (fun _ _ _ h => h) (Or.inl ⟨by rfl, ?_⟩) ?_
      rotate_left 1
      · (intro w _; go_simp <;> with_reducible rfl)
      simp only [Act.put, List.getElem_toArray, List.getElem_cons_zero, List.getElem_cons_succ, List.setIfInBounds_toArray, List.set_cons_zero, List.set_cons_succ]
      refine T_move (i := 13) (v := ?_) rfl (by kernel_rfl) (by kernel_rfl) (by kernel_rfl) (fun _ _ _ h => h) (Or.inl ⟨by rfl, ?_⟩) ?_
      rotate_left 1
      · (intro w _; go_simp <;> with_reducible rfl)
      simp only [Act.put, List.getElem_toArray, List.getElem_cons_zero, List.getElem_cons_succ, List.setIfInBounds_toArray, List.set_cons_zero, List.set_cons_succ]
      refine T_ready (rs := [14]) (by kernel_rfl) (by decide) ?_
      refine AllReadyT.cons rfl (fun K1 hK1 => ?_) AllReadyT.nil
      have n1 := blk_cell X9.out.1 0 _ rfl
      have m1 := blk_frz X9.out.1 0
      go_simp
      refine hK1.out _ _ (fun h => absurd h (by decide)) (fun _ => ?_)
      clear hK1 K1 n1 m1
      refine T_done (by kernel_rfl) ?_ _
      obtain ⟨_, G2, V2, C2⟩ := X9.out
      have R2 := hide (And.intro V2 C2)
      have XB := hide (bel_new wd (.cells #[.int .u8 ((u : Int) / 2 ^ i8 % 256)] 5))
      clear V2 C2 X9 X1 E1 X X1OWN
      generalize w9.setCell ⟨g, 0, none⟩ (.slice a9 (nV + 1) c9) = w8 at *
      go_wp2_with fail
      go_roundw
      case rel => exact ⟨m, G2, _, by omega, by first | rfl | go_num, hide (by have := R2.out.1; rw [HLL.out, List.append_assoc, BS.out, ← ei8n.out] at this; exact this), hide ((CD.out.trans (Ch.of_bel XB.out)).trans R2.out.2)⟩
      case measure => simp [intOf]
end Go.Proofs.YtigfjjolfeenaaaDoor.Ck

/- Package code: numbers and an instruction are written. -/
namespace Go.Proofs.YtigfjjolfeenaaaDoor.Ck
open Go.RowKit

theorem Ch.off {G G' : Nat → Prop} {w w' : World} {b : Nat} (h : Ch G G' w w') (hb : b < w.heap.size) (hn : ¬ G b) : ¬ G' b := fun e => by
  rcases h.grow b e with h1 | h1
  · exact hn h1
  · omega
theorem wrapU_nat {z : Nat} (h : z ≤ 9223372036854775807) : IntKind.u64.wrap (z : Int) = (z : Int) := by
  first
  | (simp [IntKind.wrap]; omega)
  | (simp [IntKind.wrap, IntKind.signed, IntKind.bits]; omega)
theorem take_flat {α : Type} {l : List α} {d : α} {f : α → List Int} {k : Nat} (h : k < l.length) : (l.take (k + 1)).flatMap f = (l.take k).flatMap f ++ f (l.getD k d) := by
  rw [List.take_add_one, List.getD_eq_getElem?_getD, List.getElem?_eq_getElem h]
  simp only [Option.toList_some, List.flatMap_append, List.flatMap_cons, List.flatMap_nil, List.append_nil, Option.getD_some]
theorem flat4 (l : List Int) : (l.flatMap (bigL 4)).length = 4 * l.length := by
  induction l with
  | nil => rfl
  | cons a l ih => rw [List.flatMap_cons, List.length_append, ih, bigL_len, List.length_cons]; omega
set_option maxRecDepth 20000 in
set_option maxHeartbeats 4000000 in
theorem numbers_any {w : World} {g : Nat} {G : Nat → Prop} {l : List Int} {v : Value} {zs : List Int} (h : Wr w g G l) (hs : ∀ G' w', Ch G G' w w' → Sl w' v zs) (hz : ∀ z ∈ zs, 0 ≤ z) (hl : l.length + 4 * zs.length ≤ 900000) :
    Calls Tryd.prog 40 #[.pointer (some ⟨g, 0, none⟩), v] w fun e w' => e = .returned (.tuple #[]) ∧ ∃ G', Wr w' g G' (l ++ zs.flatMap (bigL 4)) ∧ Ch G G' w w' := by
  obtain ⟨av, cv, ev, _, _⟩ := (hs G w (Ch.refl _ _)).form
  have HF := hide (hs G w (Ch.refl _ _)).fits
  have HZ := hide hz
  have HS := hide hs
  have H0 := hide h
  have HLL := hide hl
  obtain ⟨n, hn⟩ : ∃ n, n = zs.length := ⟨_, rfl⟩
  rw [← hn] at ev
  subst ev
  have HN := hide hn
  have hn9 : n ≤ 225000 := by omega
  clear h hs hz hl hn
  go_enter Tryd.func40, Tryd.ntmps40
  go_wp2_with fail
  go_loopw [5, 8] (fun u i wr => ∃ (k : Nat) (G1 : Nat → Prop), k ≤ n ∧ i = .int .i64 k ∧ Hid (Wr wr g G1 (l ++ (zs.take k).flatMap (bigL 4))) ∧ Hid (Ch G G1 w wr)) (fun u i _ => n - (intOf i).toNat)
  case atStart => exact ⟨0, G, Nat.zero_le _, rfl, hide (by simpa using H0.out), hide (Ch.refl _ _)⟩
  case round =>
    obtain ⟨k, G1, hk, rfl, X, C⟩ := hrel
    clear H0
    by_cases hlt : k < n
    · have h1 : (k : Int) < (n : Int) := by omega
      obtain ⟨b, off, rfl, hbl, hc⟩ := (HS.out _ _ C.out).at k hlt
      have hmem : zs.getD k 0 ∈ zs := by
        rw [List.getD_eq_getElem?_getD, List.getElem?_eq_getElem (by have := HN.out; omega)]
        exact List.getElem_mem _
      obtain ⟨z, hz⟩ : ∃ z : Nat, zs.getD k 0 = z := ⟨(zs.getD k 0).toNat, by have := HZ.out _ hmem; omega⟩
      have ew := wrapU_nat (z := z) (by have := (HF.out _ hmem).2; omega)
      have TK := hide (take_flat (l := zs) (d := 0) (f := bigL 4) (k := k) (by have := HN.out; omega))
      rw [hz] at hc TK
      have WR := hide (write_any X.out 4 (by decide) z (by rw [List.length_append, flat4, List.length_take]; have := HLL.out; omega))
      clear hz hmem X
      go_wp2_with fail
      refine WR.out.mono ?_
      rintro e w2 ⟨rfl, G2, X2, C2⟩
      rw [List.append_assoc, ← TK.out] at X2
      have R2 := hide (And.intro X2 (C.out.trans C2))
      clear X2 C2 WR TK C hc
      go_wp2_with fail
      go_roundw
      case rel => exact ⟨k + 1, G2, by omega, by go_num, hide R2.out.1, hide R2.out.2⟩
      case measure => simp [intOf]; omega
    · obtain rfl : k = n := by omega
      go_wp2_with fail
      go_end0
      refine ⟨rfl, G1, ?_, C.out⟩
      have := X.out
      rw [HN.out, List.take_length] at this
      exact this
set_option maxRecDepth 20000 in
set_option maxHeartbeats 4000000 in
theorem winstr_any {w : World} {g : Nat} {G : Nat → Prop} {l : List Int} (h : Wr w g G l) (o a b t at_ : Nat) (ho : o ≤ 9223372036854775807) (ha : a ≤ 9223372036854775807) (hb : b ≤ 9223372036854775807) (hat : at_ ≤ 9223372036854775807) (hl : l.length + 25 ≤ 900000) :
    Calls Tryd.prog 41 #[.pointer (some ⟨g, 0, none⟩), .agg #[.int .i64 (o : Int), .int .i64 (a : Int), .int .i64 (b : Int), .int .u64 (t : Int), .int .i64 (at_ : Int)]] w fun e w' => e = .returned (.tuple #[]) ∧ ∃ G', Wr w' g G' (l ++ wIns ⟨o, a, b, t, at_⟩) ∧ Ch G G' w w' := by
  have w1 := wrapU_nat ho
  have w2 := wrapU_nat ha
  have w3 := wrapU_nat hb
  have w5 := wrapU_nat hat
  have HL := hide hl
  obtain ⟨bx, hbx⟩ : ∃ bx, bx = w.heap.size := ⟨_, rfl⟩
  have BX := hide (show (w.alloc (.cells #[.int .i64 (o : Int), .int .i64 (a : Int), .int .i64 (b : Int), .int .u64 (t : Int), .int .i64 (at_ : Int)] 50)).heap[w.heap.size]? = some (.cells #[.int .i64 (o : Int), .int .i64 (a : Int), .int .i64 (b : Int), .int .u64 (t : Int), .int .i64 (at_ : Int)] 50 (0, 0)) from Go.Deep.blk_alloc_new _ _)
  have NG : Hid (¬ G w.heap.size) := hide (fun e => by obtain ⟨v, hv⟩ := h; have := hv.lt e; omega)
  have X0 := hide (h.bel (bel_new w (.cells #[.int .i64 (o : Int), .int .i64 (a : Int), .int .i64 (b : Int), .int .u64 (t : Int), .int .i64 (at_ : Int)] 50)))
  have C0 := hide (Ch.of_bel (F := G) (bel_new w (.cells #[.int .i64 (o : Int), .int .i64 (a : Int), .int .i64 (b : Int), .int .u64 (t : Int), .int .i64 (at_ : Int)] 50)))
  rw [← hbx] at BX NG
  have HBX := hide hbx
  clear h ho ha hb hat hl hbx
  go_enter Tryd.func41, Tryd.ntmps41
  have c0 := blk_cell BX.out 0 _ rfl
  rw [HBX.out] at c0
  go_wp2_with fail
  rw [← HBX.out]
  generalize w.alloc (.cells #[.int .i64 (o : Int), .int .i64 (a : Int), .int .i64 (b : Int), .int .u64 (t : Int), .int .i64 (at_ : Int)] 50) = v0 at *
  clear c0 HBX
  refine (write_any X0.out 1 (by decide) o (by have := HL.out; first | omega | (simp only [List.length_append, bigL_len]; omega))).mono ?_
  rintro e v1 ⟨rfl, G1, x1, c1⟩
  have BX1 := hide ((c1.blk bx (lt_of_blk BX.out) NG.out).trans BX.out)
  have NG1 := hide (c1.off (lt_of_blk BX.out) NG.out)
  have X1 := hide x1
  have C1 := hide (C0.out.trans c1)
  clear x1 c1 X0 C0
  have q1 := blk_cell BX1.out 1 _ rfl
  go_wp2_with fail
  clear q1
  refine (write_any X1.out 8 (by decide) a (by have := HL.out; first | omega | (simp only [List.length_append, bigL_len]; omega))).mono ?_
  rintro e v2 ⟨rfl, G2, x2, c2⟩
  have BX2 := hide ((c2.blk bx (lt_of_blk BX1.out) NG1.out).trans BX1.out)
  have NG2 := hide (c2.off (lt_of_blk BX1.out) NG1.out)
  have X2 := hide x2
  have C2 := hide (C1.out.trans c2)
  clear x2 c2 X1 C1
  have q2 := blk_cell BX2.out 2 _ rfl
  go_wp2_with fail
  clear q2
  refine (write_any X2.out 4 (by decide) b (by have := HL.out; first | omega | (simp only [List.length_append, bigL_len]; omega))).mono ?_
  rintro e v3 ⟨rfl, G3, x3, c3⟩
  have BX3 := hide ((c3.blk bx (lt_of_blk BX2.out) NG2.out).trans BX2.out)
  have NG3 := hide (c3.off (lt_of_blk BX2.out) NG2.out)
  have X3 := hide x3
  have C3 := hide (C2.out.trans c3)
  clear x3 c3 X2 C2
  have q3 := blk_cell BX3.out 3 _ rfl
  go_wp2_with fail
  clear q3
  refine (write_any X3.out 8 (by decide) t (by have := HL.out; first | omega | (simp only [List.length_append, bigL_len]; omega))).mono ?_
  rintro e v4 ⟨rfl, G4, x4, c4⟩
  have BX4 := hide ((c4.blk bx (lt_of_blk BX3.out) NG3.out).trans BX3.out)
  have NG4 := hide (c4.off (lt_of_blk BX3.out) NG3.out)
  have X4 := hide x4
  have C4 := hide (C3.out.trans c4)
  clear x4 c4 X3 C3
  have q4 := blk_cell BX4.out 4 _ rfl
  go_wp2_with fail
  clear q4
  refine (write_any X4.out 4 (by decide) at_ (by have := HL.out; first | omega | (simp only [List.length_append, bigL_len]; omega))).mono ?_
  rintro e v5 ⟨rfl, G5, x5, c5⟩
  have X5 := hide x5
  have C5 := hide (C4.out.trans c5)
  clear x5 c5 X4 C4
  go_wp2_with fail
  go_end0
  refine ⟨rfl, G5, ?_, C5.out⟩
  have := X5.out
  simp only [List.append_assoc] at this
  exact this
end Go.Proofs.YtigfjjolfeenaaaDoor.Ck

/- Package code: a code is written. (Written by mk_d.py.) -/
namespace Go.Proofs.YtigfjjolfeenaaaDoor.Ck
open Go.RowKit

theorem lit_sl {w : World} {b : Nat} {xs : List Int} (hb : w.heap[b]? = some (.cells (xs.map (Value.int .i64)).toArray 3 (0, 0))) (hf : Fits xs) (hl : xs.length ≤ 1000) : Sl w (.slice (some ⟨b, 0, none⟩) xs.length xs.length) xs := by
  refine Sl.of_row (t := 3) (f := fun i => .int .i64 (xs.getD i 0)) ⟨_, hb, by simp, fun i hi => ?_⟩ (Nat.le_refl _) (by unfold maxLen; omega) hf (fun i _ => rfl)
  simp [List.getD, hi]
theorem numbers_lit {w : World} {g : Nat} {G : Nat → Prop} {l : List Int} (h : Wr w g G l) (b : Nat) (hbw : b = w.heap.size) (xs : List Int) (hz : ∀ z ∈ xs, 0 ≤ z ∧ z ≤ 9223372036854775807) (hx : xs.length ≤ 10) (hl : l.length ≤ 800000) :
    Calls Tryd.prog 40 #[.pointer (some ⟨g, 0, none⟩), .slice (some ⟨b, 0, none⟩) xs.length xs.length] (w.alloc (.cells (xs.map (Value.int .i64)).toArray 3)) fun e w' => e = .returned (.tuple #[]) ∧ ∃ G', Wr w' g G' (l ++ xs.flatMap (bigL 4)) ∧ Ch G G' w w' := by
  subst hbw
  have hb := bel_new w (.cells (xs.map (Value.int .i64)).toArray 3)
  have hk : (w.alloc (.cells (xs.map (Value.int .i64)).toArray 3)).heap[w.heap.size]? = some (.cells (xs.map (Value.int .i64)).toArray 3 (0, 0)) := Go.Deep.blk_alloc_new _ _
  have hn : ¬ G w.heap.size := fun e => by obtain ⟨v, hv⟩ := h; have := hv.lt e; omega
  refine (numbers_any (h.bel hb) (fun G' w' hc => lit_sl ((hc.blk _ (lt_of_blk hk) hn).trans hk) (fun z q => ⟨by have := (hz z q).1; omega, (hz z q).2⟩) (by omega)) (fun z q => (hz z q).1) (by omega)).mono ?_
  rintro e w' ⟨rfl, G', x, y⟩
  exact ⟨rfl, G', x, (Ch.of_bel hb).trans y⟩
/-- where the writing stands: W0 the world of what is handed in, bx the block of the code's variable -/
structure Wst (W0 W w : World) (bx g : Nat) (G G1 : Nat → Prop) (cs : Array Value) (l : List Int) : Prop where
  x : Wr w g G1 l
  c : Ch G G1 W w
  k : w.heap[bx]? = some (.cells cs 27 (0, 0))
  n : ¬ G1 bx
  b : Below W0.heap.size W0 w
  lo : ∀ k, G1 k → W0.heap.size ≤ k
theorem Wst.step {W0 W w w' : World} {bx g : Nat} {G G1 G2 : Nat → Prop} {cs : Array Value} {l l' : List Int} (h : Wst W0 W w bx g G G1 cs l) (hx : Wr w' g G2 l') (hc : Ch G1 G2 w w') : Wst W0 W w' bx g G G2 cs l' :=
  ⟨hx, h.c.trans hc, (hc.blk bx (lt_of_blk h.k) h.n).trans h.k, hc.off (lt_of_blk h.k) h.n, h.b.trans (hc.bel h.lo h.b.size), hc.low h.lo h.b.size⟩
theorem Wst.bl {W0 W w w' : World} {bx g : Nat} {G G1 : Nat → Prop} {cs : Array Value} {l : List Int} (h : Wst W0 W w bx g G G1 cs l) (hb : Below w.heap.size w w') : Wst W0 W w' bx g G G1 cs l := h.step (h.x.bel hb) (Ch.of_bel hb)
theorem Wr.lt {w : World} {g : Nat} {G : Nat → Prop} {l : List Int} (h : Wr w g G l) {k : Nat} (hk : G k) : k < w.heap.size := by
  obtain ⟨v, hv⟩ := h
  exact hv.lt hk
theorem flatC (l : List (Int × Int)) : (l.flatMap wChan).length = 8 * l.length := by
  induction l with
  | nil => rfl
  | cons a l ih => rw [List.flatMap_cons, List.length_append, ih, List.length_cons]; simp only [wChan, List.length_append, bigL_len]; omega
theorem flatI (l : List In5) : (l.flatMap wIns).length = 25 * l.length := by
  induction l with
  | nil => rfl
  | cons a l ih => rw [List.flatMap_cons, List.length_append, ih, List.length_cons]; simp only [wIns, List.length_append, bigL_len]; omega
theorem flatF : ∀ (l : List Fn3), (∀ f ∈ l, f.lo.length ≤ 32) → (l.flatMap wFn).length ≤ 140 * l.length
  | [], _ => Nat.le_refl _
  | f :: l, h => by
    have ih := flatF l (fun x hx => h x (List.mem_cons_of_mem _ hx))
    have h1 := h f (List.mem_cons_self ..)
    rw [List.flatMap_cons, List.length_append, List.length_cons]
    simp only [wFn, List.length_append, bigL_len, flat4]
    omega
theorem getD_mem {α : Type} {l : List α} {d : α} {k : Nat} (h : k < l.length) : l.getD k d ∈ l := by
  rw [List.getD_eq_getElem?_getD, List.getElem?_eq_getElem h]
  exact List.getElem_mem h
/-- what a code in form has at most -/
theorem form_len {c : Cd} (h : formB c = true) : c.P.length ≤ 128 ∧ c.C.length ≤ 32 ∧ c.F.length ≤ 16 ∧ c.B.length ≤ 8192 ∧ ∀ f ∈ c.F, f.lo.length ≤ 32 := by
  simp only [formB, Bool.and_eq_true, decide_eq_true_eq, List.all_eq_true] at h
  obtain ⟨⟨⟨⟨⟨⟨⟨hP, hM⟩, hA⟩, hS⟩, hF⟩, hB⟩, hm⟩, ⟨⟨⟨kP, kC⟩, kF⟩, _⟩, kB⟩ := h
  refine ⟨hP, by omega, hF, hB, fun f hf => ?_⟩
  have := kF f hf
  simp only [fnB, Bool.and_eq_true, decide_eq_true_eq] at this
  exact this.2.2.2.2.1
set_option maxRecDepth 20000 in
set_option maxHeartbeats 4000000 in
theorem wcode_any {W0 W : World} {g : Nat} {G : Nat → Prop} {vP vC vF vB : Value} {c : Cd} (h : Wr W g G []) (h0 : Cv W0 vP vC vF vB c) (hW : Below W0.heap.size W0 W) (hG : ∀ k, G k → W0.heap.size ≤ k) (hf : formB c = true) :
    Calls Tryd.prog 25 #[.pointer (some ⟨g, 0, none⟩), codeA vP vC vF vB c] W fun e w' => e = .returned (.tuple #[]) ∧ ∃ G', Wr w' g G' (bytesL c) ∧ Ch G G' W w' := by
  have HS := hide (form_sm hf (fun x hx => (h0.L.I x hx).1))
  obtain ⟨nP, nC, nF, nB, nL⟩ := form_len hf
  have HL := hide nL
  have I1 : Hid (Wst W0 W (W.alloc (codeO vP vC vF vB c)) W.heap.size g G G #[vP, .int .i64 c.M, .int .i64 c.A, vC, vF, .int .i64 c.mn, vB] []) := hide ⟨h.bel (bel_new _ _), Ch.of_bel (bel_new _ _), Go.Deep.blk_alloc_new _ _, fun e => absurd (h.lt e) (by omega), hW.trans ((bel_new _ _).mono hW.size), hG⟩
  have V0 := hide h0
  obtain ⟨aP, cP, eP, _, hmP⟩ := h0.P.form
  obtain ⟨aC, cC, eC, _, hmC⟩ := h0.C.form
  obtain ⟨aF, cF, eF, _, hmF⟩ := h0.F.form
  obtain ⟨aB, cB, eB, _, hmB⟩ := h0.B.form
  subst eP eC eF eB
  clear h h0 hW hG hf nL hmP hmC hmF hmB
  unfold codeA codeO at *
  have N1 := hide (numbers_lit I1.out.x (W.heap.size + 1) (by simp) [(c.P.length : Int), c.M, c.A, (c.C.length : Int), (c.F.length : Int), (c.B.length : Int), c.mn] (fun z hz => by
    have s := HS.out
    simp at hz
    rcases hz with rfl | rfl | rfl | rfl | rfl | rfl | rfl
    · exact ⟨by omega, by omega⟩
    · exact ⟨s.nm.1, by have := s.nm.2; omega⟩
    · exact ⟨s.na.1, by have := s.na.2; omega⟩
    · exact ⟨by omega, by omega⟩
    · exact ⟨by omega, by omega⟩
    · exact ⟨by omega, by omega⟩
    · exact ⟨s.mn.1, by have := s.mn.2; omega⟩) (by simp) (by simp))
  go_enter Tryd.func25, Tryd.ntmps25
  go_wp2_with fail
  refine N1.out.mono ?_
  rintro e w2 ⟨rfl, G2, x2, c2⟩
  have I2 := hide (I1.out.step x2 c2)
  clear x2 c2 N1 I1
  have g0 := blk_cell I2.out.k 0 _ rfl
  go_wp2_with fail
  refine (numbers_any I2.out.x (fun G' w' hc => V0.out.P.bel (I2.out.b.trans (hc.bel I2.out.lo I2.out.b.size))) (fun z hz => (HS.out.ps z hz).1) (by simp [bigL_len]; omega)).mono ?_
  rintro e w3 ⟨rfl, G3, x3, c3⟩
  have I3 := hide (I2.out.step x3 c3)
  clear x3 c3 I2 g0
  have g3 := blk_cell I3.out.k 3 _ rfl
  have g4 := blk_cell I3.out.k 4 _ rfl
  have g6 := blk_cell I3.out.k 6 _ rfl
  obtain ⟨L3, hL3⟩ : ∃ L, L = [(c.P.length : Int), c.M, c.A, (c.C.length : Int), (c.F.length : Int), (c.B.length : Int), c.mn].flatMap (bigL 4) ++ c.P.flatMap (bigL 4) := ⟨_, rfl⟩
  have I3 : Hid (Wst W0 W w3 W.heap.size g G G3 _ L3) := hide (by rw [hL3]; exact I3.out)
  have LL3 : Hid (L3.length ≤ 1000) := hide (by rw [hL3]; simp only [List.length_append, flat4, List.length_cons, List.length_nil]; omega)
  have HL3 := hide hL3
  clear hL3
  have hC := hide (fun i (hi : i < c.C.length) => (by
    obtain ⟨a, cp, e, _, _, h⟩ := V0.out.C
    cases e
    exact h i hi : ∃ b off, aC = some ⟨b, off, none⟩ ∧ b < _ ∧ _))
  have hF := hide (fun i (hi : i < c.F.length) => (by
    obtain ⟨a, cp, e, _, _, h⟩ := V0.out.F
    cases e
    exact h i hi : ∃ b off vl, aF = some ⟨b, off, none⟩ ∧ b < _ ∧ _))
  have hB := hide (fun i (hi : i < c.B.length) => (by
    obtain ⟨a, cp, e, _, _, h⟩ := V0.out.B
    cases e
    exact h i hi : ∃ b off, aB = some ⟨b, off, none⟩ ∧ b < _ ∧ _))
  clear V0
  go_wp2_with fail
  clear g3 g4 g6
  go_loopw [5, 38] (fun u i wr => ∃ (k : Nat) (G1 : Nat → Prop), k ≤ c.C.length ∧ i = .int .i64 k ∧ Hid (Wst W0 W wr W.heap.size g G G1 #[.slice aP c.P.length cP, .int .i64 c.M, .int .i64 c.A, .slice aC c.C.length cC, .slice aF c.F.length cF, .int .i64 c.mn, .slice aB c.B.length cB] (L3 ++ (c.C.take k).flatMap wChan))) (fun u i _ => c.C.length - (intOf i).toNat)
  case atStart => exact ⟨0, G3, Nat.zero_le _, rfl, hide (by simpa using I3.out)⟩
  case round =>
    obtain ⟨k, G1, hk, rfl, X⟩ := hrel
    clear I3
    by_cases hlt : k < c.C.length
    · have h1 : (k : Int) < (c.C.length : Int) := by omega
      obtain ⟨b1, o1, rfl, hbk, f1, f2⟩ := hC.out k hlt
      have q1 := (X.out.b.cell (p := ⟨b1, _, none⟩) hbk).trans f1
      have q2 := (X.out.b.cell (p := ⟨b1, _, none⟩) hbk).trans f2
      have TK := hide (take_flat (l := c.C) (d := z2) (f := wChan) hlt)
      have sc := HS.out.cs _ (getD_mem (d := z2) hlt)
      have LK : Hid ((L3 ++ (c.C.take k).flatMap wChan).length ≤ 2000) := hide (by rw [List.length_append, flatC, List.length_take]; have := LL3.out; omega)
      clear f1 f2 hC hF hB
      generalize c.C.getD k z2 = ch at *
      obtain ⟨t, rm⟩ := ch
      obtain ⟨tn, ht⟩ : ∃ tn : Nat, t = tn := ⟨t.toNat, by have := sc.1.1; simp at this; omega⟩
      obtain ⟨rn, hr⟩ : ∃ rn : Nat, rm = rn := ⟨rm.toNat, by have := sc.2.1; simp at this; omega⟩
      subst ht hr
      have q1' : wr.cell? ⟨b1, o1 + k * 2, none⟩ = some (.int .i64 (tn : Int)) := q1
      have q2' : wr.cell? ⟨b1, o1 + k * 2 + 1, none⟩ = some (.int .i64 (rn : Int)) := q2
      have Xb := hide (X.out.bl (bel_new wr (.cells #[.int .i64 (tn : Int), .int .i64 (rn : Int)] 56)))
      have NL := hide (numbers_lit Xb.out.x (wr.heap.size + 1) (by simp) [(tn : Int), (rn : Int)] (fun z hz => by
        simp at hz
        rcases hz with rfl | rfl
        · exact ⟨by omega, by have := sc.1.2; simp at this; omega⟩
        · exact ⟨by omega, by have := sc.2.2; simp at this; omega⟩) (by simp) (by have := LK.out; omega))
      clear sc q1 q2 X LK
      go_wp2_with fail
      refine NL.out.mono ?_
      rintro e w5 ⟨rfl, G5, x5, c5⟩
      have I5 := hide (Xb.out.step x5 c5)
      clear x5 c5 NL Xb q1' q2'
      go_wp2_with fail
      go_roundw
      case rel => exact ⟨k + 1, G5, by omega, by go_num, hide (by have := I5.out; rw [TK.out]; simpa [wChan, List.append_assoc] using this)⟩
      case measure => simp [intOf]; omega
    · obtain rfl : k = c.C.length := by omega
      rw [List.take_length] at X
      obtain ⟨L4, hL4⟩ : ∃ L, L = L3 ++ c.C.flatMap wChan := ⟨_, rfl⟩
      rw [← hL4] at X
      have LL4 : Hid (L4.length ≤ 2000) := hide (by rw [hL4, List.length_append, flatC]; have := LL3.out; omega)
      have HL4 := hide hL4
      have g4 := blk_cell X.out.k 4 _ rfl
      clear hL4 hC LL3
      go_wp2_with fail
      clear g4
      go_loopw [7, 53] (fun u i wr => ∃ (k : Nat) (G1 : Nat → Prop), k ≤ c.F.length ∧ i = .int .i64 k ∧ Hid (Wst W0 W wr W.heap.size g G G1 #[.slice aP c.P.length cP, .int .i64 c.M, .int .i64 c.A, .slice aC c.C.length cC, .slice aF c.F.length cF, .int .i64 c.mn, .slice aB c.B.length cB] (L4 ++ (c.F.take k).flatMap wFn))) (fun u i _ => c.F.length - (intOf i).toNat)
      case atStart => exact ⟨0, G1, Nat.zero_le _, rfl, hide (by simpa using X.out)⟩
      case round =>
        clear X
        obtain ⟨k, G1, hk, rfl, X⟩ := hrel
        by_cases hlt : k < c.F.length
        · have h1 : (k : Int) < (c.F.length : Int) := by omega
          obtain ⟨b1, o1, vl, rfl, hbk, f1, f2, f3, f4⟩ := hF.out k hlt
          have q1 := (X.out.b.cell (p := ⟨b1, _, none⟩) hbk).trans f1
          have q2 := (X.out.b.cell (p := ⟨b1, _, none⟩) hbk).trans f2
          have q3 := (X.out.b.cell (p := ⟨b1, _, none⟩) hbk).trans f3
          have TK := hide (take_flat (l := c.F) (d := zF) (f := wFn) hlt)
          have sf := hide (HS.out.fs _ (getD_mem (d := zF) hlt))
          have hl32 := HL.out _ (getD_mem (d := zF) hlt)
          have LK : Hid ((L4 ++ (c.F.take k).flatMap wFn).length ≤ 5000) := hide (by
            have h1 := flatF (c.F.take k) (fun f hf => HL.out f (List.mem_of_mem_take hf))
            rw [List.length_take] at h1
            rw [List.length_append]
            have := LL4.out
            omega)
          clear f1 f2 f3 hF hB
          generalize c.F.getD k zF = f at *
          obtain ⟨st, pa, lo⟩ := f
          obtain ⟨al, cl, rfl, _, _⟩ := f4.form
          have F4 := hide f4
          clear f4
          obtain ⟨sn, hs⟩ : ∃ sn : Nat, st = sn := ⟨st.toNat, by have := sf.out.1.1; simp at this; omega⟩
          obtain ⟨pn, hp⟩ : ∃ pn : Nat, pa = pn := ⟨pa.toNat, by have := sf.out.2.1.1; simp at this; omega⟩
          subst hs hp
          have q1' : wr.cell? ⟨b1, o1 + k * 3, none⟩ = some (.int .i64 (sn : Int)) := q1
          have q2' : wr.cell? ⟨b1, o1 + k * 3 + 1, none⟩ = some (.int .i64 (pn : Int)) := q2
          have q3' : wr.cell? ⟨b1, o1 + k * 3 + 2, none⟩ = some (.slice al lo.length cl) := q3
          have hl32' : lo.length ≤ 32 := hl32
          have Xb := hide (X.out.bl (bel_new wr (.cells #[.int .i64 (sn : Int), .int .i64 (pn : Int), .slice al lo.length cl] 47)))
          have KB := hide (show (wr.alloc (.cells #[.int .i64 (sn : Int), .int .i64 (pn : Int), .slice al lo.length cl] 47)).heap[wr.heap.size]? = some (.cells #[.int .i64 (sn : Int), .int .i64 (pn : Int), .slice al lo.length cl] 47 (0, 0)) from Go.Deep.blk_alloc_new _ _)
          have NB : Hid (¬ G1 wr.heap.size) := hide (fun e => absurd (X.out.x.lt e) (by omega))
          have NL := hide (numbers_lit Xb.out.x (wr.heap.size + 1) (by simp) [(sn : Int), (pn : Int), (lo.length : Int)] (fun z hz => by
            simp at hz
            rcases hz with rfl | rfl | rfl
            · exact ⟨by omega, by have := sf.out.1.2; simp at this; omega⟩
            · exact ⟨by omega, by have := sf.out.2.1.2; simp at this; omega⟩
            · exact ⟨by omega, by omega⟩) (by simp) (by have := LK.out; omega))
          clear q1 q2 q3 X hl32
          go_wp2_with fail
          refine NL.out.mono ?_
          rintro e w5 ⟨rfl, G5, x5, c5⟩
          have I5 := hide (Xb.out.step x5 c5)
          have K5 := hide ((c5.blk wr.heap.size (lt_of_blk KB.out) NB.out).trans KB.out)
          have k2 := blk_cell K5.out 2 _ rfl
          clear x5 c5 NL Xb q1' q2' q3' KB NB
          go_wp2_with fail
          clear k2
          refine (numbers_any I5.out.x (fun G' w' hc => F4.out.bel (I5.out.b.trans (hc.bel I5.out.lo I5.out.b.size))) (fun z hz => (sf.out.2.2.2 z hz).1) (by have := LK.out; simp only [List.length_append, flat4, List.length_cons, List.length_nil] at this ⊢; omega)).mono ?_
          rintro e w6 ⟨rfl, G6, x6, c6⟩
          have I6 := hide (I5.out.step x6 c6)
          clear x6 c6 I5 K5
          go_wp2_with fail
          go_roundw
          case rel => exact ⟨k + 1, G6, by omega, by go_num, hide (by have := I6.out; rw [TK.out]; simpa [wFn, List.append_assoc] using this)⟩
          case measure => simp [intOf]; omega
        · obtain rfl : k = c.F.length := by omega
          rw [List.take_length] at X
          obtain ⟨L5, hL5⟩ : ∃ L, L = L4 ++ c.F.flatMap wFn := ⟨_, rfl⟩
          rw [← hL5] at X
          have LL5 : Hid (L5.length ≤ 5000) := hide (by
            have h1 := flatF c.F HL.out
            rw [hL5, List.length_append]
            have := LL4.out
            omega)
          have HL5 := hide hL5
          have g6 := blk_cell X.out.k 6 _ rfl
          clear hL5 hF LL4
          go_wp2_with fail
          clear g6
          go_loopw [9, 75] (fun u i wr => ∃ (k : Nat) (G1 : Nat → Prop), k ≤ c.B.length ∧ i = .int .i64 k ∧ Hid (Wst W0 W wr W.heap.size g G G1 #[.slice aP c.P.length cP, .int .i64 c.M, .int .i64 c.A, .slice aC c.C.length cC, .slice aF c.F.length cF, .int .i64 c.mn, .slice aB c.B.length cB] (L5 ++ (c.B.take k).flatMap wIns))) (fun u i _ => c.B.length - (intOf i).toNat)
          case atStart => exact ⟨0, G1, Nat.zero_le _, rfl, hide (by simpa using X.out)⟩
          case round =>
            clear X
            obtain ⟨k, G1, hk, rfl, X⟩ := hrel
            by_cases hlt : k < c.B.length
            · have h1 : (k : Int) < (c.B.length : Int) := by omega
              obtain ⟨b1, o1, rfl, hbk, f1, f2, f3, f4, f5⟩ := hB.out k hlt
              have q1 := (X.out.b.cell (p := ⟨b1, _, none⟩) hbk).trans f1
              have q2 := (X.out.b.cell (p := ⟨b1, _, none⟩) hbk).trans f2
              have q3 := (X.out.b.cell (p := ⟨b1, _, none⟩) hbk).trans f3
              have q4 := (X.out.b.cell (p := ⟨b1, _, none⟩) hbk).trans f4
              have q5 := (X.out.b.cell (p := ⟨b1, _, none⟩) hbk).trans f5
              have TK := hide (take_flat (l := c.B) (d := zI) (f := wIns) hlt)
              have si := hide (HS.out.bs _ (getD_mem (d := zI) hlt))
              have LK : Hid ((L5 ++ (c.B.take k).flatMap wIns).length ≤ 300000) := hide (by rw [List.length_append, flatI, List.length_take]; have := LL5.out; omega)
              clear f1 f2 f3 f4 f5 hB
              generalize c.B.getD k zI = x at *
              obtain ⟨op, a, b, t, at_⟩ := x
              obtain ⟨on, e1⟩ : ∃ n : Nat, op = n := ⟨op.toNat, by have := si.out.1.1; simp at this; omega⟩
              obtain ⟨an, e2⟩ : ∃ n : Nat, a = n := ⟨a.toNat, by have := si.out.2.1.1; simp at this; omega⟩
              obtain ⟨bn, e3⟩ : ∃ n : Nat, b = n := ⟨b.toNat, by have := si.out.2.2.1.1; simp at this; omega⟩
              obtain ⟨tn, e4⟩ : ∃ n : Nat, t = n := ⟨t.toNat, by have := si.out.2.2.2.1.1; simp at this; omega⟩
              obtain ⟨sn, e5⟩ : ∃ n : Nat, at_ = n := ⟨at_.toNat, by have := si.out.2.2.2.2.1; simp at this; omega⟩
              subst e1 e2 e3 e4 e5
              have q1' : wr.cell? ⟨b1, o1 + k * 5, none⟩ = some (.int .i64 (on : Int)) := q1
              have q2' : wr.cell? ⟨b1, o1 + k * 5 + 1, none⟩ = some (.int .i64 (an : Int)) := q2
              have q3' : wr.cell? ⟨b1, o1 + k * 5 + 2, none⟩ = some (.int .i64 (bn : Int)) := q3
              have q4' : wr.cell? ⟨b1, o1 + k * 5 + 3, none⟩ = some (.int .u64 (tn : Int)) := q4
              have q5' : wr.cell? ⟨b1, o1 + k * 5 + 4, none⟩ = some (.int .i64 (sn : Int)) := q5
              have Xb := hide (X.out.bl (bel_new wr (.cells #[.int .i64 (on : Int), .int .i64 (an : Int), .int .i64 (bn : Int), .int .u64 (tn : Int), .int .i64 (sn : Int)] 50)))
              have NL := hide (winstr_any Xb.out.x on an bn tn sn (by have := si.out.1.2; simp at this; omega) (by have := si.out.2.1.2; simp at this; omega) (by have := si.out.2.2.1.2; simp at this; omega) (by have := si.out.2.2.2.2.2; simp at this; omega) (by have := LK.out; omega))
              clear q1 q2 q3 q4 q5 X LK
              go_wp2_with fail
              refine NL.out.mono ?_
              rintro e w6 ⟨rfl, G6, x6, c6⟩
              have I6 := hide (Xb.out.step x6 c6)
              clear x6 c6 NL Xb q1' q2' q3' q4' q5'
              go_wp2_with fail
              go_roundw
              case rel => exact ⟨k + 1, G6, by omega, by go_num, hide (by have := I6.out; rw [TK.out, ← List.append_assoc]; exact this)⟩
              case measure => simp [intOf]; omega
            · obtain rfl : k = c.B.length := by omega
              rw [List.take_length] at X
              clear hB
              go_wp2_with fail
              go_end0
              refine ⟨rfl, G1, ?_, X.out.c⟩
              have := X.out.x
              rw [HL5.out, HL4.out, HL3.out] at this
              simpa [bytesL, List.append_assoc] using this
end Go.Proofs.YtigfjjolfeenaaaDoor.Ck

/- Package code: Put. (Written by mk_d.py.) -/
namespace Go.Proofs.YtigfjjolfeenaaaDoor.Ck
open Go.RowKit

/-- bytes of a call's own, in a block that was made after w -/
structure SlY (w w' : World) (v : Value) (l : List Int) : Prop where
  own : w'.ownsRow 0 5 1 v l.length (yys l)
  new : ∀ k, v.ownBlock = some k → w.heap.size ≤ k
theorem Wr.start (w : World) : Wr (w.alloc (.cells #[.slice none 0 0] 61)) w.heap.size (fun k => k = w.heap.size) [] :=
  ⟨.slice none 0 0, Go.Deep.blk_alloc_new _ _, ⟨rfl, .inl ⟨rfl, rfl⟩⟩, fun e => (by cases e), fun k => ⟨fun e => .inl e, fun e => e.elim id (fun e => (by cases e))⟩⟩
set_option maxRecDepth 20000 in
set_option maxHeartbeats 4000000 in
theorem put_any {w : World} {p : List Addr} {vP vC vF vB : Value} {c : Cd} (hc : Ec w p) (h : Cv w vP vC vF vB c) : Calls Tryd.prog 9 #[codeA vP vC vF vB c] w fun e w' =>
    (formB c = false ∧ e = .returned (.tuple #[.slice none 0 0, errV p 8]) ∨ formB c = true ∧ ∃ v, e = .returned (.tuple #[v, .nilIface]) ∧ SlY w w' v (bytesL c)) ∧ Below w.heap.size w w' := by
  have B0 := hide (bel_new w (codeO vP vC vF vB c))
  have K0 := hide (show (w.alloc (codeO vP vC vF vB c)).heap[w.heap.size]? = some (.cells #[vP, .int .i64 c.M, .int .i64 c.A, vC, vF, .int .i64 c.mn, vB] 27 (0, 0)) from Go.Deep.blk_alloc_new _ _)
  have CK := hide (check_any (hc.bel B0.out) (h.bel B0.out))
  have V0 := hide h
  obtain ⟨g0, g1, g2, g3, g4, g5, g6⟩ := cells7 K0.out
  obtain ⟨aP, cP, eP, _, hmP⟩ := h.P.form
  obtain ⟨aC, cC, eC, _, hmC⟩ := h.C.form
  obtain ⟨aF, cF, eF, _, hmF⟩ := h.F.form
  obtain ⟨aB, cB, eB, _, hmB⟩ := h.B.form
  subst eP eC eF eB
  clear h hc hmP hmC hmF hmB g0 g1 g2 g3 g4 g5 g6
  unfold codeA codeO at *
  go_enter Tryd.func9, Tryd.ntmps9
  go_wp2_with fail
  refine CK.out.mono ?_
  rintro e w2 ⟨rfl, b2⟩
  have B2 := hide (bel_trans B0.out b2)
  have K2 := hide ((b2.block _ (lt_of_blk K0.out)).trans K0.out)
  clear b2 CK K0
  cases hf : formB c with
  | false =>
    rw [show erK p false = .iface 119 (.pointer (some (adr p 8))) from rfl]
    go_wp2_with fail
    go_ret2
    exact ⟨.inl ⟨hf, rfl⟩, B2.out⟩
  | true =>
    rw [show erK p true = .nilIface from rfl]
    have B3 := hide (bel_trans B2.out (bel_new w2 (.cells #[.slice none 0 0] 61)))
    have K3 := hide (((bel_new w2 (.cells #[.slice none 0 0] 61)).block _ (lt_of_blk K2.out)).trans K2.out)
    have WC := hide (wcode_any (Wr.start w2) V0.out B3.out (fun k hk => by rw [hk]; exact B2.out.size) hf)
    obtain ⟨g0, g1, g2, g3, g4, g5, g6⟩ := cells7 K3.out
    have HF := hide hf
    clear hf
    unfold codeA at WC
    go_wp2_with fail
    refine WC.out.mono ?_
    rintro e w4 ⟨rfl, G4, x4, c4⟩
    have B4 := hide (B3.out.trans (c4.bel (B := w.heap.size) (fun k hk => by rw [hk]; exact B2.out.size) B3.out.size))
    have N4 : Hid (∀ k, G4 k → w.heap.size ≤ k) := hide (c4.low (fun k hk => by rw [hk]; exact B2.out.size) B3.out.size)
    clear c4 WC g0 g1 g2 g3 g4 g5 g6 K3
    obtain ⟨v4, y4⟩ := x4
    obtain ⟨a4, k4, e4, _⟩ := own_slice y4.own
    have c0 := blk_cell y4.at_ 0 _ rfl
    have Y4 := hide y4
    clear y4
    subst e4
    go_wp2_with fail
    go_ret2
    exact ⟨.inr ⟨HF.out, _, rfl, Y4.out.own, fun k hk => N4.out k ((Y4.out.gg k).2 (.inr hk))⟩, B4.out⟩
end Go.Proofs.YtigfjjolfeenaaaDoor.Ck

/- Bytes of a call's own: more of them, pieces of them; how many a code has; no Go text is walked here. -/
namespace Go.Proofs.YtigfjjolfeenaaaDoor.Ck
open Go.RowKit

theorem yys_app (l m : List Int) : yys (l ++ m) = yys l ++ yys m := by simp [yys]
theorem yys_at (l : List Int) (i : Nat) (hi : i < l.length) : (yys l)[i]? = some (.int .u8 (l.getD i 0)) := by
  simp [yys, hi, List.getD]
/-- bytes behind bytes of one's own -/
theorem pushM {w : World} {B : Nat} {v : Value} {l m : List Int} {n k gx cx : Nat} (hn : n = l.length) (hk : k = m.length) (hl : n + k ≤ 10000000) (ho : w.ownsRow B 5 1 v n (yys l)) (hx : ∀ j, j < k → w.cell? ⟨gx, j, none⟩ = some (.int .u8 (m.getD j 0))) (hB : B ≤ w.heap.size) (ty : TypeId) :
    ∃ v' w', (Builtin.append_ #[33, 33] ty #[v, .slice (some ⟨gx, 0, none⟩) k cx]).run Tryd.prog w = .ok v' w' ∧ ((∃ a c, v' = .slice a (n + k) c) ∧ w'.ownsRow B 5 1 v' (n + k) (yys (l ++ m)) ∧ w.grownBy w' v.ownBlock) := by
  obtain ⟨ie, hi, hz0, hz1, hz2⟩ := info_parts info_u8
  have hc : ∀ (j : Nat) (u : Value), (yys m)[j]? = some u → w.cell? ((⟨gx, 0, none⟩ : Addr).add j) = some u := fun j u hu => by
    have hj : j < m.length := by
      have := (List.getElem?_eq_some_iff.1 hu).1
      simpa [yys] using this
    rw [yys_at m j hj] at hu
    rw [show (Addr.mk gx 0 none).add j = ⟨gx, j, none⟩ by unfold Addr.add; by_cases h : j = 0 <;> simp [h], hx j (by omega)]
    exact hu
  obtain ⟨v', w', hr, ho', hg, _⟩ := run_append_own (P := Tryd.prog) w B 33 ty 5 ie _ 1 1 Tryd.underlying33 hi hz0 hz1 hz2 rfl (by decide) v n (yys l) ho ⟨gx, 0, none⟩ k cx (yys m) (by simp [yys, hk]) hc (fun u hu => by
    obtain ⟨x, _, rfl⟩ := List.mem_map.1 (show u ∈ m.map (Value.int .u8) from hu)
    rfl) (by unfold maxLen; omega) (by omega) hB
  obtain ⟨a9, c9, e9, _⟩ := own_slice ho'
  exact ⟨v', w', hr, ⟨a9, c9, e9⟩, by rw [yys_app]; exact ho', hg⟩
theorem own_none {w : World} {B k : Nat} {T : TypeId} {sz : Nat} (hk : w.heap[k]? = some (.cells #[] T (0, 0))) (hBk : B ≤ k) : w.ownsRow B T sz (.slice (some ⟨k, 0, none⟩) 0 0) 0 [] :=
  ⟨by simp, .inr ⟨k, 0, #[], rfl, hBk, hk, Nat.le_refl _, by unfold maxLen; omega, by simp, by simp⟩⟩
/-- an append of bytes to none: a copy -/
theorem pushM0 {w : World} {B : Nat} {m : List Int} {k gx cx b : Nat} (hk : k = m.length) (hl : k ≤ 10000000) (hb : w.heap[b]? = some (.cells #[] 5 (0, 0))) (hBb : B ≤ b) (hx : ∀ j, j < k → w.cell? ⟨gx, j, none⟩ = some (.int .u8 (m.getD j 0))) (hB : B ≤ w.heap.size) (ty : TypeId) :
    ∃ v' w', (Builtin.append_ #[33, 33] ty #[.slice (some ⟨b, 0, none⟩) 0 0, .slice (some ⟨gx, 0, none⟩) k cx]).run Tryd.prog w = .ok v' w' ∧ ((∃ a c, v' = .slice a k c) ∧ w'.ownsRow B 5 1 v' k (yys m) ∧ w.grownBy w' (some b)) := by
  have := pushM (l := []) (m := m) (n := 0) rfl hk (by omega) (own_none (sz := 1) hb hBb) hx hB ty (cx := cx)
  rw [Nat.zero_add, List.nil_append] at this
  exact this
theorem Below.grown {w w' : World} {B : Nat} {b : Option Nat} (h : w.grownBy w' b) (hb : ∀ k, b = some k → B ≤ k) (hB : B ≤ w.heap.size) : Below B w w' := ⟨h.os, h.tape, h.output, h.size, fun k hk => h.block k (by omega) (fun e => by have := hb k e.symm; omega)⟩
theorem Ys.of_own {w : World} {B : Nat} {v : Value} {l : List Int} (h : w.ownsRow B 5 1 v l.length (yys l)) : Ys w v l := by
  rcases own_cells h with ⟨rfl, h0⟩ | ⟨g, cap, rfl, h1, h2, h3, h4⟩
  · have : l = [] := List.length_eq_zero_iff.1 h0
    subst this
    exact ⟨none, 0, rfl, Nat.le_refl _, Nat.zero_le _, fun i hi => absurd hi (Nat.not_lt_zero _)⟩
  · exact ⟨_, cap, rfl, h1, h2, fun i hi => ⟨g, 0, rfl, h3, Nat.ne_of_lt h3, by rw [Nat.zero_add]; exact h4 i _ (by omega) (yys_at l i hi)⟩⟩
theorem Ys.take {w : World} {a : Option Addr} {n cap k : Nat} {l : List Int} (h : Ys w (.slice a n cap) l) (hk : k ≤ l.length) : Ys w (.slice a k cap) (l.take k) := by
  obtain ⟨a', cap', e, h1, h2, h3⟩ := h
  cases e
  refine ⟨_, _, by rw [List.length_take, Nat.min_eq_left hk], by rw [List.length_take]; omega, h2, fun i hi => ?_⟩
  rw [List.length_take] at hi
  obtain ⟨b, off, ea, hb, hn, hc⟩ := h3 i (by omega)
  refine ⟨b, off, ea, hb, hn, ?_⟩
  rw [hc, List.getD_eq_getElem?_getD, List.getD_eq_getElem?_getD, List.getElem?_take_of_lt (by omega)]
theorem flat_len {α β : Type} (f : α → List β) (n : Nat) : ∀ (l : List α), (∀ x ∈ l, (f x).length ≤ n) → (l.flatMap f).length ≤ l.length * n
  | [], _ => by simp
  | x :: l, h => by
    have ih := flat_len f n l (fun y hy => h y (List.mem_cons_of_mem _ hy))
    have h1 := h x (List.mem_cons_self ..)
    rw [List.flatMap_cons, List.length_append, List.length_cons, Nat.add_mul, Nat.one_mul]
    omega
theorem bytes_len {c : Cd} (hf : formB c = true) : 28 ≤ (bytesL c).length ∧ (bytesL c).length ≤ 300000 := by
  simp only [formB, fnB, Bool.and_eq_true, decide_eq_true_eq, List.all_eq_true] at hf
  obtain ⟨⟨⟨⟨⟨⟨⟨hP, hM⟩, hA⟩, hS⟩, hF⟩, hB⟩, hm⟩, ⟨⟨⟨_, _⟩, kF⟩, _⟩, _⟩ := hf
  have l1 := flat_len (bigL 4) 4 c.P (fun x _ => by rw [bigL_len]; exact Nat.le_refl _)
  have l2 := flat_len wChan 8 c.C (fun x _ => by simp [wChan, bigL_len])
  have l3 := flat_len wFn 140 c.F (fun f hf => by
    have h1 := flat_len (bigL 4) 4 f.lo (fun x _ => by rw [bigL_len]; exact Nat.le_refl _)
    have := (kF f hf).2.2.2.2.1
    simp only [wFn, List.length_append, bigL_len]
    omega)
  have l4 := flat_len wIns 25 c.B (fun x _ => by simp [wIns, bigL_len])
  simp only [bytesL, List.length_append, bigL_len]
  omega
theorem Byt.app {l m : List Int} (h1 : Byt l) (h2 : Byt m) : Byt (l ++ m) := fun b hb => (List.mem_append.1 hb).elim (h1 b) (h2 b)
theorem Byt.flat {α : Type} {f : α → List Int} {l : List α} (h : ∀ x, Byt (f x)) : Byt (l.flatMap f) := fun b hb => by
  obtain ⟨x, _, hx⟩ := List.mem_flatMap.1 hb
  exact h x b hx
theorem bytes_byt (c : Cd) : Byt (bytesL c) :=
  (bigL_byt _ _).app ((bigL_byt _ _).app ((bigL_byt _ _).app ((bigL_byt _ _).app ((bigL_byt _ _).app ((bigL_byt _ _).app ((bigL_byt _ _).app ((Byt.flat (fun _ => bigL_byt _ _)).app ((Byt.flat (fun _ => (bigL_byt _ _).app (bigL_byt _ _))).app ((Byt.flat (fun _ => (bigL_byt _ _).app ((bigL_byt _ _).app ((bigL_byt _ _).app (Byt.flat (fun _ => bigL_byt _ _)))))).app (Byt.flat (fun _ => (bigL_byt _ _).app ((bigL_byt _ _).app ((bigL_byt _ _).app ((bigL_byt _ _).app (bigL_byt _ _)))))))))))))))
theorem Cl.inw {c : Cd} (h : Cl c) : ∀ x ∈ c.B, InW x := fun x hx => (h.I x hx).1
end Go.Proofs.YtigfjjolfeenaaaDoor.Ck

/- Slices of bytes, by the list that they hold; make and append on those that the call itself made; as strings; the statements' own Bytes and Kept. (Written by mk_k.py.) -/
namespace Go.Proofs.YtigfjjolfeenaaaDoor.Ck
open Go.RowKit

def Blk (w : World) (g : Nat) (t : TypeId) (cs : List Value) : Prop := w.heap[g]? = some (.cells cs.toArray t (0, 0))
theorem bel_tn {g : Nat} {w w1 w2 : World} (h : Below w.heap.size w w1) (k : Tn g w1 w2) (hg : w.heap.size ≤ g) : Below w.heap.size w w2 := h.trans (k.bel hg h.size)
theorem Blk.lt {w : World} {g : Nat} {t : TypeId} {cs : List Value} (h : Blk w g t cs) : g < w.heap.size := (Array.getElem?_eq_some_iff.1 h).1
theorem Blk.tn {w w' : World} {g k : Nat} {t : TypeId} {cs : List Value} (h : Blk w k t cs) (ht : Tn g w w') (hk : k ≠ g) : Blk w' k t cs := (ht.blk k h.lt hk).trans h
theorem Blk.bel {w w' : World} {k : Nat} {t : TypeId} {cs : List Value} (h : Blk w k t cs) (hb : Below w.heap.size w w') : Blk w' k t cs := (hb.block k h.lt).trans h
theorem Blk.cell {w : World} {g : Nat} {t : TypeId} {cs : List Value} (h : Blk w g t cs) (i : Nat) : w.cell? ⟨g, i, none⟩ = cs[i]? := by
  rw [cell_of_row w g i _ t _ h]; simp
theorem Blk.frozen {w : World} {g : Nat} {t : TypeId} {cs : List Value} (h : Blk w g t cs) (i : Nat) : w.frozen? ⟨g, i, none⟩ = false := frozen_of_row w g i _ t h
theorem Blk.new (w : World) (cs : List Value) (t : TypeId) : Blk (w.alloc (.cells cs.toArray t)) w.heap.size t cs := Go.Deep.blk_alloc_new _ _
theorem wpList_val {P : Program} {w : World} {ops : Array Oper} {rest : List Oper} {o : Oper} {a : Act} {Q : Exit → Act → World → Prop} (hgd : o.guard = none) (v : Value) (w1 : World)
    (hrun : (execOp a.eval o).run P w = .ok (.value v) w1) (h : wpList P ops Q rest (a.put o.dst v) w1) : wpList P ops Q (o :: rest) a w :=
  wpList_plain hgd fun _ hK => by
    unfold Oper.wp
    rw [hrun]
    exact hK _ _ h
theorem Tn.cell {g : Nat} {w w' : World} (h : Tn g w w') (x : Addr) (h1 : x.block < w.heap.size) (h2 : x.block ≠ g) : w'.cell? x = w.cell? x := by
  simp only [World.cell?, h.blk x.block h1 h2]
theorem Tn.frozen {g : Nat} {w w' : World} (h : Tn g w w') (x : Addr) (h1 : x.block < w.heap.size) (h2 : x.block ≠ g) : w'.frozen? x = w.frozen? x := by
  simp only [World.frozen?, h.blk x.block h1 h2]
def bv (B : List Int) : List Value := B.map (Value.int .u8)
theorem bv_len (B : List Int) : (bv B).length = B.length := by simp [bv]
theorem bv_one (B : List Int) : ∀ v ∈ bv B, v.oneCell' = true := fun u hu => by obtain ⟨z, _, rfl⟩ := List.mem_map.1 hu; rfl
theorem bv_at (B : List Int) (i : Nat) (h : i < B.length) : (bv B)[i]? = some (.int .u8 (B.getD i 0)) := by simp [bv, List.getD, h]


/-- a slice value that holds the list zs in the world w -/
def SB (w : World) (v : Value) (zs : List Int) : Prop :=
  Byt zs ∧ ∃ a cap, v = .slice a zs.length cap ∧ zs.length ≤ cap ∧ cap ≤ maxLen ∧
    ∀ i, i < zs.length → ∃ b off, a = some ⟨b, off, none⟩ ∧ b < w.heap.size ∧ w.cell? ⟨b, off + i, none⟩ = some (.int .u8 (zs.getD i 0))

theorem SB.below {w w' : World} {v : Value} {zs : List Int} (h : SB w v zs) {B : Nat} (hB : w.heap.size ≤ B) (hb : Below B w w') : SB w' v zs := by
  obtain ⟨hf, a, cap, hv, h1, h2, h3⟩ := h
  refine ⟨hf, a, cap, hv, h1, h2, fun i hi => ?_⟩
  obtain ⟨b, off, ha, hlt, hc⟩ := h3 i hi
  exact ⟨b, off, ha, Nat.lt_of_lt_of_le hlt hb.size, by rw [hb.cell (p := ⟨b, off + i, none⟩) (Nat.lt_of_lt_of_le hlt hB)]; exact hc⟩
theorem SB.bel {w w' : World} {v : Value} {zs : List Int} (h : SB w v zs) (hb : Below w.heap.size w w') : SB w' v zs := h.below (Nat.le_refl _) hb
/-- the slice doesn't lie in block g -/
def OffB (g : Nat) (v : Value) : Prop := ∀ a n c, v = .slice (some a) n c → 0 < n → a.block ≠ g
theorem SB.tn {g : Nat} {w w' : World} {v : Value} {zs : List Int} (h : SB w v zs) (ho : OffB g v) (ht : Tn g w w') : SB w' v zs := by
  obtain ⟨hf, a, cap, hv, h1, h2, h3⟩ := h
  refine ⟨hf, a, cap, hv, h1, h2, fun i hi => ?_⟩
  obtain ⟨b, off, ha, hlt, hc⟩ := h3 i hi
  exact ⟨b, off, ha, Nat.lt_of_lt_of_le hlt ht.size, (ht.cell ⟨b, off + i, none⟩ hlt (ho ⟨b, off, none⟩ _ _ (by rw [hv, ha]) (by omega))).trans hc⟩
theorem SB.lt {w : World} {v : Value} {zs : List Int} (h : SB w v zs) : ∀ a n c, v = .slice (some a) n c → 0 < n → a.block < w.heap.size := by
  intro a n c e hn
  obtain ⟨_, a', c', hv, _, _, hc⟩ := h
  rw [e] at hv
  cases hv
  obtain ⟨b, off, ha, hlt, _⟩ := hc 0 hn
  cases ha
  exact hlt
theorem SB.off {w : World} {v : Value} {zs : List Int} (h : SB w v zs) {g : Nat} (hg : w.heap.size ≤ g) : OffB g v := fun a n c e hn => by
  have := h.lt a n c e hn
  omega
theorem SB.nilS (w : World) : SB w (.slice none 0 0) [] :=
  ⟨fun _ h => (by cases h), none, 0, rfl, Nat.le_refl _, Nat.zero_le _, fun _ h => absurd h (Nat.not_lt_zero _)⟩
theorem SB.fits {w : World} {v : Value} {zs : List Int} (h : SB w v zs) : Byt zs := h.1
theorem SB.len {W : World} {a : Option Addr} {len cap : Nat} {zs : List Int} (h : SB W (.slice a len cap) zs) : len = zs.length := by
  obtain ⟨_, a', c', e, _⟩ := h
  cases e
  rfl
theorem SB.cap {W : World} {a : Option Addr} {len cap : Nat} {zs : List Int} (h : SB W (.slice a len cap) zs) : len ≤ cap ∧ cap ≤ maxLen := by
  obtain ⟨_, a', c', e, h1, h2, _⟩ := h
  cases e
  exact ⟨h1, h2⟩
theorem SB.form {w : World} {v : Value} {zs : List Int} (h : SB w v zs) : ∃ a c, v = .slice a zs.length c ∧ zs.length ≤ c ∧ c ≤ maxLen := by
  obtain ⟨_, a, c, rfl, h1, h2, _⟩ := h
  exact ⟨_, _, rfl, h1, h2⟩
theorem SB.at {w : World} {a : Option Addr} {n c : Nat} {zs : List Int} (h : SB w (.slice a n c) zs) (i : Nat) (hi : i < n) :
    ∃ b off, a = some ⟨b, off, none⟩ ∧ b < w.heap.size ∧ w.cell? ⟨b, off + i, none⟩ = some (.int .u8 (zs.getD i 0)) := by
  obtain ⟨_, a', c', e, _, _, hc⟩ := h
  cases e
  exact hc i hi
theorem SB.of_blk {w : World} {b : Nat} {t : TypeId} {zs : List Int} (h : Blk w b t (bv zs)) (hm : zs.length ≤ maxLen) (hf : Byt zs) : SB w (.slice (some ⟨b, 0, none⟩) zs.length zs.length) zs :=
  ⟨hf, _, _, rfl, Nat.le_refl _, hm, fun i hi => ⟨b, 0, rfl, h.lt, by rw [Nat.zero_add, h.cell, bv_at _ _ hi]⟩⟩

theorem infoB : (Tryd.prog.info? 5).map (fun i => (i.zero, i.size, i.bytes)) = some (some (.int .u8 0), 1, 1) := by kernel_rfl
theorem szB : (Tryd.prog.info? 5).map (·.size) = some 1 := by kernel_rfl
theorem bv_app (zs ms : List Int) : bv zs ++ bv ms = bv (zs ++ ms) := by simp [bv]
theorem bv_get (zs : List Int) (j : Nat) (u : Value) (h : (bv zs)[j]? = some u) : j < zs.length ∧ u = .int .u8 (zs.getD j 0) := by
  unfold bv at h
  rw [List.getElem?_map] at h
  cases hz : zs[j]? with
  | none => rw [hz] at h; cases h
  | some z =>
    rw [hz] at h
    have hl : j < zs.length := (List.getElem?_eq_some_iff.1 hz).1
    cases h
    exact ⟨hl, by simp [List.getD, hz]⟩

/-- the slice of block g, of the call's own, with room for cap, holds zs -/
def OwnY (w : World) (B g cap : Nat) (zs : List Int) : Prop := w.ownsRow B 5 1 (.slice (some ⟨g, 0, none⟩) zs.length cap) zs.length (bv zs)

theorem OwnY.parts {w : World} {B g cap : Nat} {zs : List Int} (h : OwnY w B g cap zs) :
    ∃ cur : Array Value, B ≤ g ∧ w.heap[g]? = some (.cells cur 5 (0, 0)) ∧ zs.length ≤ cap ∧ cap ≤ maxLen ∧ cur.size = cap ∧ cur.toList.take zs.length = bv zs := by
  rcases h.2 with ⟨h, _⟩ | ⟨g', cap', cur, h, hbg, hg, hnc, hcm, hcs, htake⟩
  · simp at h
  · simp only [Value.slice.injEq, Option.some.injEq, Addr.mk.injEq, and_true, true_and] at h
    obtain ⟨rfl, rfl⟩ := h
    exact ⟨cur, hbg, hg, hnc, hcm, by simpa using hcs, by simpa using htake⟩
theorem OwnY.mk {w : World} {B g cap : Nat} {zs : List Int} (cur : Array Value) (h1 : B ≤ g) (h2 : w.heap[g]? = some (.cells cur 5 (0, 0))) (h3 : zs.length ≤ cap) (h4 : cap ≤ maxLen) (h5 : cur.size = cap) (h6 : cur.toList.take zs.length = bv zs) : OwnY w B g cap zs :=
  ⟨by rw [bv_len]; simp, .inr ⟨g, cap, cur, rfl, h1, h2, h3, h4, by simpa using h5, by simpa using h6⟩⟩
theorem OwnY.ge {w : World} {B g cap : Nat} {zs : List Int} (h : OwnY w B g cap zs) : B ≤ g := by obtain ⟨_, h1, _⟩ := h.parts; exact h1
theorem OwnY.lt {w : World} {B g cap : Nat} {zs : List Int} (h : OwnY w B g cap zs) : g < w.heap.size := by obtain ⟨_, _, h1, _⟩ := h.parts; exact (Array.getElem?_eq_some_iff.1 h1).1
theorem OwnY.cell {w : World} {B g cap : Nat} {zs : List Int} (h : OwnY w B g cap zs) (i : Nat) (hi : i < zs.length) : w.cell? ⟨g, i, none⟩ = some (.int .u8 (zs.getD i 0)) := by
  obtain ⟨cur, _, hg, hnc, _, hcs, ht⟩ := h.parts
  have e : (cur.toList.take zs.length)[i]? = (bv zs)[i]? := by rw [ht]
  rw [List.getElem?_take_of_lt hi, bv_at zs i hi] at e
  simp only [World.cell?, hg]
  rw [← Array.getElem?_toList]
  exact e
theorem OwnY.sl {w : World} {B g cap : Nat} {zs : List Int} (h : OwnY w B g cap zs) (hf : Byt zs) : SB w (.slice (some ⟨g, 0, none⟩) zs.length cap) zs := by
  obtain ⟨cur, _, hg, hnc, hcm, hcs, ht⟩ := h.parts
  exact ⟨hf, _, _, rfl, hnc, hcm, fun i hi => ⟨g, 0, rfl, (Array.getElem?_eq_some_iff.1 hg).1, by rw [Nat.zero_add]; exact h.cell i hi⟩⟩
theorem OwnY.below {w w' : World} {B g cap : Nat} {zs : List Int} (h : OwnY w B g cap zs) (hb : Below w.heap.size w w') : OwnY w' B g cap zs := by
  obtain ⟨cur, h1, hg, h3, h4, h5, h6⟩ := h.parts
  exact OwnY.mk cur h1 ((hb.block g (Array.getElem?_eq_some_iff.1 hg).1).trans hg) h3 h4 h5 h6
theorem OwnY.tn {w w' : World} {B g cap x : Nat} {zs : List Int} (h : OwnY w B g cap zs) (hb : Tn x w w') (hx : g ≠ x) : OwnY w' B g cap zs := by
  obtain ⟨cur, h1, hg, h3, h4, h5, h6⟩ := h.parts
  exact OwnY.mk cur h1 ((hb.blk g (Array.getElem?_eq_some_iff.1 hg).1 hx).trans hg) h3 h4 h5 h6
theorem OwnY.down {w : World} {B B' g cap : Nat} {zs : List Int} (h : OwnY w B g cap zs) (hB : B' ≤ B) : OwnY w B' g cap zs := by
  obtain ⟨cur, h1, hg, h3, h4, h5, h6⟩ := h.parts
  exact OwnY.mk cur (Nat.le_trans hB h1) hg h3 h4 h5 h6
theorem OwnY.alloc {w : World} {B g cap : Nat} {zs : List Int} (h : OwnY w B g cap zs) (o : Obj) : OwnY (w.alloc o) B g cap zs := h.below (bel_new w o)
theorem OwnY.made (w : World) (c : Nat) (hc : c ≤ 1000000) : OwnY (w.alloc (.cells (madeCells #[.int .u8 0] c) 5)) w.heap.size w.heap.size c [] :=
  OwnY.mk _ (Nat.le_refl _) (Go.Deep.blk_alloc_new _ _) (Nat.zero_le _) (by unfold maxLen; omega) (by simp [madeCells]) (by simp [bv])
theorem OwnY.empty (w : World) : OwnY (w.alloc (.cells #[] 5)) w.heap.size w.heap.size 0 [] :=
  OwnY.mk _ (Nat.le_refl _) (Go.Deep.blk_alloc_new _ _) (Nat.zero_le _) (by unfold maxLen; omega) (by simp) (by simp [bv])
theorem OwnY.ofL (w : World) (zs : List Int) (hz : zs.length ≤ 1000000) : OwnY (w.alloc (.cells (bv zs).toArray 5)) w.heap.size w.heap.size zs.length zs :=
  OwnY.mk _ (Nat.le_refl _) (Go.Deep.blk_alloc_new _ _) (Nat.le_refl _) (by unfold maxLen; omega) (by simp [bv_len]) (by simp [← bv_len zs])

theorem app_srcB {w : World} {vx : Value} {ms : List Int} (h : SB w vx ms) :
    (∃ ad c, vx = .slice (some ad) ms.length c ∧ ∀ j u, (bv ms)[j]? = some u → w.cell? (ad.add j) = some u) ∨ (∃ c, vx = .slice none 0 c ∧ ms = []) := by
  obtain ⟨_, a, c, rfl, _, _, hc⟩ := h
  cases a with
  | none =>
    right
    cases ms with
    | nil => exact ⟨c, rfl, rfl⟩
    | cons m ms => obtain ⟨b, off, e, _⟩ := hc 0 (by simp); cases e
  | some ad =>
    left
    refine ⟨ad, c, rfl, fun j u hu => ?_⟩
    obtain ⟨hj, rfl⟩ := bv_get ms j u hu
    obtain ⟨b, off, e, _, hcell⟩ := hc j hj
    cases e
    have e2 : (Addr.mk b off none).add j = ⟨b, off + j, none⟩ := by unfold Addr.add; by_cases h : j = 0 <;> simp [h]
    rw [e2]
    exact hcell

theorem app_fitsB {w : World} {B g cap : Nat} {zs ms : List Int} {vx : Value} (ty : TypeId) (h : OwnY w B g cap zs) (hx : SB w vx ms) (hroom : zs.length + ms.length ≤ cap) :
    ∃ w', (Builtin.append_ #[33, 33] ty #[.slice (some ⟨g, 0, none⟩) zs.length cap, vx]).run Tryd.prog w = .ok (.slice (some ⟨g, 0, none⟩) (zs.length + ms.length) cap) w' ∧ OwnY w' B g cap (zs ++ ms) ∧ w.grownBy w' (some g) := by
  obtain ⟨i, hi, hz0, hz1, hz2⟩ := info_parts infoB
  rcases app_srcB hx with ⟨ad, c, rfl, hnews⟩ | ⟨c, rfl, rfl⟩
  · obtain ⟨w', hr, ho, hg⟩ := run_append_fits (P := Tryd.prog) w B 33 ty 5 i 1 Tryd.underlying33 hi hz1 g zs.length cap (bv zs) h ad ms.length c (bv ms) (by rw [bv_len]; simp) hnews (bv_one ms) hroom
    refine ⟨w', hr, ?_, hg⟩
    unfold OwnY
    rw [List.length_append, ← bv_app]
    exact ho
  · have hs := Src.ofNil (P := Tryd.prog) w (size := i.size) Tryd.underlying33 c
    have hr := run_append_room_src (P := Tryd.prog) w 33 33 ty 5 i Tryd.underlying33 hi g 0 zs.length cap (.slice none 0 c) 0 [] hs hroom (fun j hj => absurd hj (Nat.not_lt_zero _)) (fun j hj => absurd hj (Nat.not_lt_zero _))
    refine ⟨w, hr, by rw [List.append_nil]; exact h, ⟨rfl, rfl, rfl, Nat.le_refl _, fun _ _ _ => rfl⟩⟩

theorem app_ownB {w : World} {B g cap : Nat} {zs ms : List Int} {vx : Value} (ty : TypeId) (h : OwnY w B g cap zs) (hx : SB w vx ms) (hlen : zs.length + ms.length ≤ 2000000) (hB : B ≤ w.heap.size) :
    ∃ v' w', (Builtin.append_ #[33, 33] ty #[.slice (some ⟨g, 0, none⟩) zs.length cap, vx]).run Tryd.prog w = .ok v' w' ∧ (∃ g' cap', v' = .slice (some ⟨g', 0, none⟩) (zs ++ ms).length cap' ∧ OwnY w' B g' cap' (zs ++ ms)) ∧ w.grownBy w' (some g) := by
  obtain ⟨i, hi, hz0, hz1, hz2⟩ := info_parts infoB
  rcases app_srcB hx with ⟨ad, c, rfl, hnews⟩ | ⟨c, rfl, rfl⟩
  · obtain ⟨v', w', hr, ho, hg, hn⟩ := run_append_own (P := Tryd.prog) w B 33 ty 5 i (.int .u8 0) 1 1 Tryd.underlying33 hi hz0 hz1 hz2 rfl (by decide) _ zs.length (bv zs) h ad ms.length c (bv ms) (by rw [bv_len]; simp) hnews (bv_one ms) (by unfold maxLen; omega) (by omega) hB
    refine ⟨v', w', hr, ?_, hg⟩
    have ho2 := ho
    rcases ho.2 with ⟨h1, _⟩ | ⟨g', cap', cur, h1, _⟩
    · have := hn.1 h1
      simp at this
    · refine ⟨g', cap', by rw [h1, List.length_append], ?_⟩
      unfold OwnY
      rw [List.length_append, ← bv_app]
      rw [h1] at ho2
      exact ho2
  · obtain ⟨_, _, _, hnc, _⟩ := h.parts
    obtain ⟨w', hr, ho, hg⟩ := app_fitsB (ms := []) ty h hx (by simpa using hnc)
    exact ⟨_, w', hr, ⟨g, cap, by simp, ho⟩, hg⟩

/-- what an append on a slice of one's own leaves: it, and the rest of the world -/
theorem app_tnB {w : World} {B g cap : Nat} {zs ms : List Int} {vx : Value} (ty : TypeId) (h : OwnY w B g cap zs) (hx : SB w vx ms) (hlen : zs.length + ms.length ≤ 2000000) (hB : B ≤ w.heap.size) :
    ∃ v' w', (Builtin.append_ #[33, 33] ty #[.slice (some ⟨g, 0, none⟩) zs.length cap, vx]).run Tryd.prog w = .ok v' w' ∧ (∃ g' cap', v' = .slice (some ⟨g', 0, none⟩) (zs.length + ms.length) cap' ∧ OwnY w' B g' cap' (zs ++ ms)) ∧ Tn g w w' := by
  obtain ⟨v', w', h1, ⟨g', cap', h2, h3⟩, h4⟩ := app_ownB ty h hx hlen hB
  exact ⟨v', w', h1, ⟨g', cap', by rw [h2, List.length_append], h3⟩, h4.1, h4.2, h4.3, h4.4, fun k hk hg => h4.5 k hk (by simpa using hg)⟩

theorem one_builtB (w : World) (x : Int) (hx : Byt [x]) : SB (w.alloc (.cells #[.int .u8 x] 5)) (.slice (some ⟨w.heap.size, 0, none⟩) 1 1) [x] :=
  SB.of_blk (zs := [x]) (Blk.new w (bv [x]) 5) (by simp [maxLen]) hx
/-- one more, where there is room -/
theorem push_fitsB {w : World} {B g cap n : Nat} {zs : List Int} {x : Int} (ty : TypeId) (h : OwnY w B g cap zs) (hn : n = zs.length) (hx : Byt [x]) (hroom : n + 1 ≤ cap) :
    ∃ v' w', (Builtin.append_ #[33, 33] ty #[.slice (some ⟨g, 0, none⟩) n cap, .slice (some ⟨w.heap.size, 0, none⟩) 1 1]).run Tryd.prog (w.alloc (.cells #[.int .u8 x] 5)) = .ok v' w' ∧
      (v' = .slice (some ⟨g, 0, none⟩) (n + 1) cap ∧ OwnY w' B g cap (zs ++ [x]) ∧ Tn g w w') := by
  subst hn
  obtain ⟨w', h1, h2, h3⟩ := app_fitsB ty (h.alloc _) (one_builtB w x hx) (by simpa using hroom)
  exact ⟨_, w', h1, rfl, h2, (Tn.of_bel (bel_new w _)).trans ⟨h3.1, h3.2, h3.3, h3.4, fun k hk hg => h3.5 k hk (by simpa using hg)⟩⟩
/-- one more -/
theorem pushY8 {w : World} {B g cap n : Nat} {zs : List Int} {x : Int} (ty : TypeId) (h : OwnY w B g cap zs) (hn : n = zs.length) (hx : Byt [x]) (hlen : n + 1 ≤ 2000000) (hB : B ≤ w.heap.size) :
    ∃ v' w', (Builtin.append_ #[33, 33] ty #[.slice (some ⟨g, 0, none⟩) n cap, .slice (some ⟨w.heap.size, 0, none⟩) 1 1]).run Tryd.prog (w.alloc (.cells #[.int .u8 x] 5)) = .ok v' w' ∧
      ((∃ g' cap', v' = .slice (some ⟨g', 0, none⟩) (n + 1) cap' ∧ OwnY w' B g' cap' (zs ++ [x])) ∧ Tn g w w') := by
  subst hn
  obtain ⟨v', w', h1, ⟨g', cap', h2, h3⟩, h4⟩ := app_tnB ty (h.alloc _) (one_builtB w x hx) (by simpa using hlen) (by simp; omega)
  exact ⟨v', w', h1, ⟨g', cap', by rw [h2]; rfl, h3⟩, (Tn.of_bel (bel_new w _)).trans h4⟩
theorem OwnY.set {w : World} {B g cap : Nat} {zs : List Int} (h : OwnY w B g cap zs) (i : Nat) (z : Int) : OwnY (w.setCell ⟨g, i, none⟩ (.int .u8 z)) B g cap (zs.set i z) ∧ Tn g w (w.setCell ⟨g, i, none⟩ (.int .u8 z)) := by
  obtain ⟨cur, h1, hg, h3, h4, h5, h6⟩ := h.parts
  refine ⟨OwnY.mk (cur.setIfInBounds i (.int .u8 z)) h1 (heap_setCell_same w g i _ 5 _ hg) (by simpa using h3) h4 (by simpa using h5) ?_, rfl, rfl, rfl, by simp [World.setCell], fun k _ hk => Below.heap_setCell _ _ _ _ hk⟩
  rw [List.length_set, Array.toList_setIfInBounds, List.take_set, h6]
  unfold bv
  rw [List.map_set]
theorem OwnY.frozen {w : World} {B g cap : Nat} {zs : List Int} (h : OwnY w B g cap zs) (i : Nat) : w.frozen? ⟨g, i, none⟩ = false := by
  obtain ⟨cur, _, hg, _⟩ := h.parts
  exact frozen_of_row w g i _ 5 hg
theorem wpList_makeB {w : World} {ops : Array Oper} {rest : List Oper} {o : Oper} {a : Act} {Q : Exit → Act → World → Prop} (l c : Operand) (x y : Int) (n cp : Nat) (hx : x = (n : Int)) (hy : y = (cp : Int)) (hnc : n ≤ cp) (hcp : cp ≤ 1000000)
    (hgd : o.guard = none) (ho : o.op = .makeSlice 33 l c) (hl : a.eval l = .int .i64 x) (hc : a.eval c = .int .i64 y)
    (h : ∀ w1 g, Hid (g = w.heap.size) → OwnY w1 w.heap.size g cp (List.replicate n 0) → Below w.heap.size w w1 → wpList Tryd.prog ops Q rest (a.put o.dst (.slice (some ⟨g, 0, none⟩) n cp)) w1) : wpList Tryd.prog ops Q (o :: rest) a w := by
  obtain ⟨i, hi, hz0, hz1, hz2⟩ := info_parts infoB
  have hr := run_make (P := Tryd.prog) w 33 5 i (.int .u8 0) Tryd.underlying33 hi hz0 .i64 .i64 n cp (by omega) (by omega) (by rw [hz2]; omega) (by omega)
  simp only [Int.toNat_natCast, hz1, Nat.mul_one] at hr
  refine wpList_val hgd (.slice (some ⟨w.heap.size, 0, none⟩) n cp) (w.alloc (.cells (madeCells #[.int .u8 0] cp) 5)) ?_ (h _ _ rfl ?_ (bel_new w _))
  · unfold execOp
    subst hx hy
    simp only [ho, hl, hc, Sem.run_bind, Sem.run_pure]
    first | (rw [hr]; rfl) | (erw [hr]; rfl)
  · refine OwnY.mk _ (Nat.le_refl _) (Go.Deep.blk_alloc_new _ _) (by simpa using hnc) (by unfold maxLen; omega) (by simp [madeCells]) ?_
    apply List.ext_getElem
    · simp [madeCells, bv]; omega
    · intro j h1 h2
      simp [madeCells, bv, Nat.mod_one]



def strOf (bs : List Int) : ByteArray := bs.foldl (fun r n => r.push (UInt8.ofNat n.toNat)) ByteArray.empty
theorem foldl_push (bs : List Int) : ∀ s : ByteArray, (bs.foldl (fun r n => r.push (UInt8.ofNat n.toNat)) s).data.toList = s.data.toList ++ bs.map (fun n => UInt8.ofNat n.toNat) := by
  induction bs with
  | nil => intro s; simp
  | cons b bs ih =>
    intro s
    rw [List.foldl_cons, ih]
    simp [ByteArray.push]
theorem strOf_toList (bs : List Int) : (strOf bs).toList = bs.map (fun n => UInt8.ofNat n.toNat) := by
  rw [ByteArray.toList_eq]
  unfold strOf
  rw [foldl_push]
  rfl
theorem strOf_eq {a b : List Int} (ha : Byt a) (hb : Byt b) : ((strOf a).toList == (strOf b).toList) = decide (a = b) := by
  rw [strOf_toList, strOf_toList]
  have key : ∀ (a b : List Int), Byt a → Byt b → (a.map (fun n => UInt8.ofNat n.toNat) = b.map (fun n => UInt8.ofNat n.toNat) ↔ a = b) := by
    intro a
    induction a with
    | nil => intro b _ _; cases b <;> simp
    | cons x a ih =>
      intro b ha hb
      cases b with
      | nil => simp
      | cons y b =>
        have h1 := ha x (by simp)
        have h2 := hb y (by simp)
        have e : UInt8.ofNat x.toNat = UInt8.ofNat y.toNat ↔ x = y := by
          constructor
          · intro h
            have := congrArg UInt8.toNat h
            simp at this
            omega
          · intro h; rw [h]
        simp only [List.map_cons, List.cons.injEq, e, ih b (fun z hz => ha z (by simp [hz])) (fun z hz => hb z (by simp [hz]))]
  by_cases h : a = b
  · subst h; simp
  · have h2 : ¬ a.map (fun n => UInt8.ofNat n.toNat) = b.map (fun n => UInt8.ofNat n.toNat) := fun e => h ((key a b ha hb).1 e)
    rw [decide_eq_false h]
    simpa using h2
theorem conv_str {w : World} {v : Value} {bs : List Int} (h : SB w v bs) : (convert 33 9 v).run Tryd.prog w = .ok (.string (strOf bs)) w := by
  rcases app_srcB h with ⟨ad, c, rfl, hc⟩ | ⟨c, rfl, rfl⟩
  · rw [run_convert_bytes_string w 33 9 5 _ _ _ Tryd.underlying33 Tryd.underlying5 Tryd.underlying9]
    have hl := run_loadCells_list (P := Tryd.prog) w ad (bv bs) hc
    rw [bv_len] at hl
    exact run_bytesToString w ad bs.length c bs hl
  · rw [run_convert_bytes_string w 33 9 5 _ _ _ Tryd.underlying33 Tryd.underlying5 Tryd.underlying9]
    rfl
theorem SB.marked (w : World) (zs : List Int) (fr : Nat × Nat) (hm : zs.length ≤ maxLen) (hf : Byt zs) : SB (w.alloc (.cells (bv zs).toArray 5 fr)) (.slice (some ⟨w.heap.size, 0, none⟩) zs.length zs.length) zs := by
  refine ⟨hf, _, _, rfl, Nat.le_refl _, hm, fun i hi => ⟨w.heap.size, 0, rfl, by simp, ?_⟩⟩
  rw [Nat.zero_add, cell_of_row _ _ i (bv zs).toArray 5 fr (heap_alloc_new w _)]
  simpa using bv_at zs i hi



def marks6 : List Int := [201, 202, 203, 204, 205, 206]
theorem marks6_fit : Byt marks6 := by unfold Byt marks6; decide
theorem marks6_built (w : World) : SB (w.alloc (.cells #[.int .u8 201, .int .u8 202, .int .u8 203, .int .u8 204, .int .u8 205, .int .u8 206] 5)) (.slice (some ⟨w.heap.size, 0, none⟩) 6 6) marks6 :=
  SB.of_blk (zs := marks6) (Blk.new w (bv marks6) 5) (by decide) marks6_fit
theorem tn_of_grown {w w' : World} {g : Nat} (h : w.grownBy w' (some g)) : Tn g w w' := ⟨h.1, h.2, h.3, h.4, fun k hk hg => h.5 k hk (by simpa using hg)⟩

set_option maxRecDepth 10000 in
set_option maxHeartbeats 400000 in
theorem bytes8_any (va : Value) (a : List Int) (w : World) (ha : SB w va a) (hla : a.length ≤ 900000) :
    Calls Tryd.prog 14 #[va] w fun e w' => ∃ g, e = .returned (.slice (some ⟨g, 0, none⟩) a.length (a.length + 6)) ∧ OwnY w' w.heap.size g (a.length + 6) (a ++ marks6) ∧ Below w.heap.size w w' := by
  obtain ⟨aa, ca, rfl, hca, hcm⟩ := ha.form
  unfold maxLen at hcm
  obtain ⟨n, en⟩ : ∃ n, n = a.length := ⟨_, rfl⟩
  have En := hide en
  rw [← en] at ha hca hla ⊢
  clear en
  have hx2 : Hid ((n : Int) + 6 = ((n + 6 : Nat) : Int)) := by show _ = _; omega
  have hx3 : Hid (0 ≤ n + 6 ∧ n + 6 ≤ 1000000) := ⟨by omega, by omega⟩
  have H1 : Hid (∀ (w1 : World) (g1 : Nat), OwnY w1 w.heap.size g1 (n + 6) [] → Below w.heap.size w w1 → ∀ ty, ∃ v' w', (Builtin.append_ #[33, 33] ty #[.slice (some ⟨g1, 0, none⟩) 0 (n + 6), .slice aa n ca]).run Tryd.prog w1 = .ok v' w' ∧ (v' = .slice (some ⟨g1, 0, none⟩) n (n + 6) ∧ OwnY w' w.heap.size g1 (n + 6) a ∧ Tn g1 w1 w')) := fun w1 g1 o1 hb1 ty => by
    obtain ⟨w', hr, ho, hg⟩ := app_fitsB ty o1 (ha.bel hb1) (by simp; have := En.out; omega)
    refine ⟨_, w', hr, by simp [← En.out], by simpa using ho, tn_of_grown hg⟩
  have H2 : Hid (∀ (w2 : World) (g1 : Nat), OwnY w2 w.heap.size g1 (n + 6) a → ∀ ty, ∃ v' w', (Builtin.append_ #[33, 33] ty #[.slice (some ⟨g1, 0, none⟩) n (n + 6), .slice (some ⟨w2.heap.size, 0, none⟩) 6 6]).run Tryd.prog (w2.alloc (.cells #[.int .u8 201, .int .u8 202, .int .u8 203, .int .u8 204, .int .u8 205, .int .u8 206] 5)) = .ok v' w' ∧ (v' = .slice (some ⟨g1, 0, none⟩) (n + 6) (n + 6) ∧ OwnY w' w.heap.size g1 (n + 6) (a ++ marks6) ∧ Tn g1 w2 w')) := fun w2 g1 o2 ty => by
    obtain ⟨w', hr, ho, hg⟩ := app_fitsB ty (o2.alloc _) (marks6_built w2) (by rw [← En.out]; exact Nat.le_refl _)
    rw [← En.out] at hr
    exact ⟨_, w', hr, rfl, ho, (Tn.of_bel (bel_new w2 _)).trans (tn_of_grown hg)⟩
  have i1 : (0 : Int) ≤ (n : Int) ∧ (n : Int) ≤ (n : Int) + 6 := by omega
  go_enter Tryd.func14, Tryd.ntmps14
  go_wp2_with (first | (refine wpList_makeB (.const (.int .i64 0)) (.tmp 6) 0 _ 0 (n + 6) rfl hx2.out hx3.out.1 hx3.out.2 rfl rfl rfl rfl ?_; intro w1 g1 e1 o1 hb1) | (at_builtin; refine wpList_appG (TS := 33) (.tmp 7) (.tmp 8) _ _ _ (H1.out w1 g1 o1 hb1) rfl rfl rfl rfl ?_; rintro v2 w2 ⟨rfl, o2, t2⟩) | (at_builtin; refine wpList_appG (TS := 33) (.tmp 9) (.tmp 10) _ _ _ (H2.out w2 g1 o2) rfl rfl rfl rfl ?_; rintro v3 w3 ⟨rfl, o3, t3⟩))
  go_ret
  exact ⟨g1, rfl, o3, bel_tn (bel_tn hb1 t2 o2.ge) t3 o3.ge⟩

theorem marks6_at (a : List Int) (k : Nat) (hk : k < 6) : (a ++ marks6).getD (a.length + k) 0 = 201 + k := by
  have : k = 0 ∨ k = 1 ∨ k = 2 ∨ k = 3 ∨ k = 4 ∨ k = 5 := by omega
  rcases this with h | h | h | h | h | h <;> subst h <;> simp [List.getD, marks6]



set_option maxRecDepth 10000 in
set_option maxHeartbeats 400000 in
theorem keptB_any (vw : Value) (a : List Int) (g B : Nat) (w : World) (ha : SB w vw a) (ho : OwnY w B g (a.length + 6) (a ++ marks6)) (hla : a.length ≤ 900000) :
    Calls Tryd.prog 16 #[.slice (some ⟨g, 0, none⟩) a.length (a.length + 6), vw] w fun e w' => e = .returned (.bool true) ∧ Below w.heap.size w w' := by
  obtain ⟨aa, ca, rfl, hca, hcm⟩ := ha.form
  unfold maxLen at hcm
  obtain ⟨n, en⟩ : ∃ n, n = a.length := ⟨_, rfl⟩
  have En := hide en
  have hfits := ha.fits
  rw [← en] at ha hca hla ho ⊢
  have hs : SB w (.slice (some ⟨g, 0, none⟩) n (n + 6)) a := by
    refine ⟨hfits, some ⟨g, 0, none⟩, n + 6, by rw [en], by omega, by unfold maxLen; omega, fun i hi => ⟨g, 0, rfl, ho.lt, ?_⟩⟩
    rw [Nat.zero_add, ho.cell i (by simp; omega)]
    simp only [List.getD, List.getElem?_append_left hi]
  have HC : Hid (∀ k, k < 6 → w.cell? ⟨g, n + k, none⟩ = some (.int .u8 (201 + k))) := fun k hk => by
    rw [ho.cell (n + k) (by simp [marks6]; omega), en, marks6_at a k hk]
  have k1 : ∀ j : Nat, (convert 33 9 (.slice (some ⟨g, 0, none⟩) n (n + 6))).run Tryd.prog (w.drewN j) = .ok (.string (strOf a)) (w.drewN j) := fun j => conv_str (w := w.drewN j) hs
  have k2 : ∀ j : Nat, (convert 33 9 (.slice aa n ca)).run Tryd.prog (w.drewN j) = .ok (.string (strOf a)) (w.drewN j) := fun j => conv_str (w := w.drewN j) ha
  have d1 : decide ((n : Int) + 6 < (n : Int) + 6) = false := by simp
  have i1 : (0 : Int) ≤ (n : Int) ∧ (n : Int) ≤ (n : Int) + 6 := by omega
  have hglt := ho.lt
  clear ho en hfits
  go_enter Tryd.func16, Tryd.ntmps16
  go_wp2_with fail
  go_quiet (fail)
  have hbq : Below w.heap.size w (w.drewN nq) := below_drewN (Below.refl _ _) nq
  have HC : Hid (∀ k, k < 6 → (w.drewN nq).cell? ⟨g, n + k, none⟩ = some (.int .u8 (201 + k))) := HC
  clear k1 k2
  generalize w.drewN nq = wq at *
  go_wp2_with fail
  go_loop [6] (fun i => ∃ k : Nat, k ≤ 6 ∧ i = .int .i64 k) (fun i => 6 - (intOf i).toNat)
  case atStart => exact ⟨0, Nat.zero_le _, rfl⟩
  case round =>
    obtain ⟨k, hk, rfl⟩ := hrel
    by_cases hk6 : k < 6
    · have hcell := HC.out k hk6
      have hx : ((201 + (k : Int)) != (201 + (k : Int))) = false := by simp
      have hj : (201 + (k : Int)) % 256 = 201 + (k : Int) := by omega
      have hi : (0 : Int) ≤ (n : Int) + (k : Int) ∧ (n : Int) + (k : Int) < (n : Int) + 6 := by omega
      go_wp2_with fail
      go_round
      case rel => exact ⟨k + 1, by omega, by go_num⟩
      case measure => simp [intOf]; omega
    · have e : k = 6 := by omega
      subst e
      go_wp2_with fail
      go_ret
      exact ⟨rfl, hbq⟩

end Go.Proofs.YtigfjjolfeenaaaDoor.Ck

/- The document: a number as so many bytes. (Written by mk_k.py.) -/
namespace Go.Proofs.YtigfjjolfeenaaaDoor.Ck
open Go.RowKit

theorem bigL_front : ∀ (m : Nat) (u : Int), bigL (m + 1) u = (u / 256 ^ m % 256) :: bigL m u
  | 0, u => by simp [bigL]
  | m + 1, u => by
    show bigL (m + 1) (u / 256) ++ [u % 256] = _
    rw [bigL_front m (u / 256), Int.ediv_ediv_of_nonneg (by decide : (0 : Int) ≤ 256), show (256 : Int) * 256 ^ m = 256 ^ (m + 1) by rw [Int.pow_succ, Int.mul_comm]]
    rfl
theorem div_more (n m : Nat) (u : Int) (h : m < n) : u / 256 ^ (n - m) = u / 256 ^ (n - (m + 1)) / 256 := by
  rw [show n - m = (n - (m + 1)) + 1 by omega, Int.pow_succ, Int.ediv_ediv_of_nonneg (Int.pow_nonneg (by decide))]
theorem big_more (n m : Nat) (u : Int) (h : m < n) : (List.replicate (m + 1) (0 : Int) ++ bigL (n - (m + 1)) u).set m (u / 256 ^ (n - (m + 1)) % 256) = List.replicate m 0 ++ bigL (n - m) u := by
  rw [show n - m = (n - (m + 1)) + 1 by omega, bigL_front, List.replicate_succ', List.append_assoc, List.set_append_right _ _ (by simp)]
  simp
set_option maxRecDepth 20000 in
set_option maxHeartbeats 4000000 in
theorem rbig4_any {w : World} (u : Nat) (hu : u < 18446744073709551616) : Calls Tryd.prog 29 #[.int .u64 (u : Int), .int .i64 4] w fun e w' => ∃ g, e = .returned (.slice (some ⟨g, 0, none⟩) 4 4) ∧ OwnY w' w.heap.size g 4 (bigL 4 u) ∧ Below w.heap.size w w' := by
  have HU := hide hu
  clear hu
  go_enter Tryd.func29, Tryd.ntmps29
  go_wp2_with (first | (refine wpList_makeB (.tmp 7) (.tmp 7) 4 4 4 4 rfl rfl (Nat.le_refl _) (by decide) rfl rfl rfl rfl ?_; intro w1 g e1 o1 hb1))
  have O1 := hide o1
  have B1 := hide hb1
  have E1 := hide e1
  clear o1 hb1 e1
  go_loopw [0, 6] (fun x i wr => ∃ j : Nat, j ≤ 4 ∧ i = .int .i64 ((j : Int) - 1) ∧ x = .int .u64 ((u : Int) / 256 ^ (4 - j)) ∧ Hid (OwnY wr w.heap.size g 4 (List.replicate j 0 ++ bigL (4 - j) u)) ∧ Hid (Below w.heap.size w wr)) (fun x i _ => (intOf i + 1).toNat)
  case atStart => exact ⟨4, Nat.le_refl _, rfl, by simp, hide (by simpa [bigL] using O1.out), B1⟩
  case round =>
    obtain ⟨j, hj, rfl, rfl, O, B⟩ := hrel
    clear O1 B1
    obtain rfl | ⟨m, rfl⟩ : j = 0 ∨ ∃ m, j = m + 1 := by
      cases j with
      | zero => exact .inl rfl
      | succ m => exact .inr ⟨m, rfl⟩
    · rw [show ((0 : Nat) : Int) - 1 = -1 from rfl]
      generalize (u : Int) / 256 ^ (4 - 0) = x at *
      go_wp2_with fail
      go_ret
      exact ⟨g, rfl, by simpa using O.out, B.out⟩
    · rw [show ((m + 1 : Nat) : Int) - 1 = (m : Int) by omega]
      have hm : (0 : Int) ≤ (m : Int) ∧ (m : Int) < 4 := by omega
      have hl : (List.replicate (m + 1) (0 : Int) ++ bigL (4 - (m + 1)) u).length = 4 := by rw [List.length_append, List.length_replicate, bigL_len]; omega
      have cl := O.out.cell m (by rw [hl]; omega)
      have fz := O.out.frozen m
      have S1 := hide (O.out.set m (((u : Int) / 256 ^ (4 - (m + 1))) % 256))
      have ST := hide (big_more 4 m u (by omega))
      have SQ := hide (div_more 4 m u (by omega))
      have GE := hide O.out.ge
      generalize (u : Int) / 256 ^ (4 - (m + 1)) = x at *
      obtain ⟨c0, hc0⟩ : ∃ c, (List.replicate (m + 1) (0 : Int) ++ bigL (4 - (m + 1)) u).getD m 0 = c := ⟨_, rfl⟩
      rw [hc0] at cl
      clear hc0 hl O
      go_wp2_with fail
      have B2 := hide (bel_tn B.out S1.out.2 GE.out)
      generalize wr.setCell ⟨g, m, none⟩ (.int .u8 (x % 256)) = w2 at *
      go_wp2_with fail
      go_roundw
      case rel => exact ⟨m, by omega, by go_num, by rw [SQ.out], hide (by rw [← ST.out]; exact S1.out.1), B2⟩
      case measure => simp [intOf]
set_option maxRecDepth 20000 in
set_option maxHeartbeats 4000000 in
theorem rbig8_any {w : World} (u : Nat) (hu : u < 18446744073709551616) : Calls Tryd.prog 29 #[.int .u64 (u : Int), .int .i64 8] w fun e w' => ∃ g, e = .returned (.slice (some ⟨g, 0, none⟩) 8 8) ∧ OwnY w' w.heap.size g 8 (bigL 8 u) ∧ Below w.heap.size w w' := by
  have HU := hide hu
  clear hu
  go_enter Tryd.func29, Tryd.ntmps29
  go_wp2_with (first | (refine wpList_makeB (.tmp 7) (.tmp 7) 8 8 8 8 rfl rfl (Nat.le_refl _) (by decide) rfl rfl rfl rfl ?_; intro w1 g e1 o1 hb1))
  have O1 := hide o1
  have B1 := hide hb1
  have E1 := hide e1
  clear o1 hb1 e1
  go_loopw [0, 6] (fun x i wr => ∃ j : Nat, j ≤ 8 ∧ i = .int .i64 ((j : Int) - 1) ∧ x = .int .u64 ((u : Int) / 256 ^ (8 - j)) ∧ Hid (OwnY wr w.heap.size g 8 (List.replicate j 0 ++ bigL (8 - j) u)) ∧ Hid (Below w.heap.size w wr)) (fun x i _ => (intOf i + 1).toNat)
  case atStart => exact ⟨8, Nat.le_refl _, rfl, by simp, hide (by simpa [bigL] using O1.out), B1⟩
  case round =>
    obtain ⟨j, hj, rfl, rfl, O, B⟩ := hrel
    clear O1 B1
    obtain rfl | ⟨m, rfl⟩ : j = 0 ∨ ∃ m, j = m + 1 := by
      cases j with
      | zero => exact .inl rfl
      | succ m => exact .inr ⟨m, rfl⟩
    · rw [show ((0 : Nat) : Int) - 1 = -1 from rfl]
      generalize (u : Int) / 256 ^ (8 - 0) = x at *
      go_wp2_with fail
      go_ret
      exact ⟨g, rfl, by simpa using O.out, B.out⟩
    · rw [show ((m + 1 : Nat) : Int) - 1 = (m : Int) by omega]
      have hm : (0 : Int) ≤ (m : Int) ∧ (m : Int) < 8 := by omega
      have hl : (List.replicate (m + 1) (0 : Int) ++ bigL (8 - (m + 1)) u).length = 8 := by rw [List.length_append, List.length_replicate, bigL_len]; omega
      have cl := O.out.cell m (by rw [hl]; omega)
      have fz := O.out.frozen m
      have S1 := hide (O.out.set m (((u : Int) / 256 ^ (8 - (m + 1))) % 256))
      have ST := hide (big_more 8 m u (by omega))
      have SQ := hide (div_more 8 m u (by omega))
      have GE := hide O.out.ge
      generalize (u : Int) / 256 ^ (8 - (m + 1)) = x at *
      obtain ⟨c0, hc0⟩ : ∃ c, (List.replicate (m + 1) (0 : Int) ++ bigL (8 - (m + 1)) u).getD m 0 = c := ⟨_, rfl⟩
      rw [hc0] at cl
      clear hc0 hl O
      go_wp2_with fail
      have B2 := hide (bel_tn B.out S1.out.2 GE.out)
      generalize wr.setCell ⟨g, m, none⟩ (.int .u8 (x % 256)) = w2 at *
      go_wp2_with fail
      go_roundw
      case rel => exact ⟨m, by omega, by go_num, by rw [SQ.out], hide (by rw [← ST.out]; exact S1.out.1), B2⟩
      case measure => simp [intOf]
end Go.Proofs.YtigfjjolfeenaaaDoor.Ck

/- Bytes of a call's own that grow, beside a block that stays; no Go text is walked here. (Written by mk_l.py.) -/
namespace Go.Proofs.YtigfjjolfeenaaaDoor.Ck
open Go.RowKit

/-- bytes of one's own, made since w0, and a block g that is another one's -/
structure By (w0 wr : World) (v : Value) (L : List Int) (g : Nat) (o : Obj) : Prop where
  own : wr.ownsRow w0.heap.size 5 1 v L.length (yys L)
  b : Below w0.heap.size w0 wr
  k : wr.heap[g]? = some o
  n : v.ownBlock ≠ some g
theorem By.bel {w0 wr w2 : World} {v : Value} {L : List Int} {g : Nat} {o : Obj} (h : By w0 wr v L g o) (hb : Below wr.heap.size wr w2) : By w0 w2 v L g o :=
  ⟨own_keep h.own (fun k hk => hb.block k (own_type h.own hk).2.1), bel_trans h.b hb, (hb.block g (Array.getElem?_eq_some_iff.1 h.k).1).trans h.k, h.n⟩
theorem By.box {w0 wr : World} {v : Value} {L : List Int} {g : Nat} {o : Obj} (h : By w0 wr v L g o) (cs : Array Value) (T : TypeId) : By w0 (wr.alloc (.cells cs T)) v L wr.heap.size (.cells cs T (0, 0)) :=
  have h2 := h.bel (bel_new wr (.cells cs T))
  ⟨h2.own, h2.b, Go.Deep.blk_alloc_new _ _, fun e => by have := (own_type h.own e).2.1; omega⟩
theorem By.to {w0 wr : World} {v : Value} {L : List Int} {g g' : Nat} {o o' : Obj} (h : By w0 wr v L g o) (hk : w0.heap[g']? = some o') : By w0 wr v L g' o' :=
  have hl := (Array.getElem?_eq_some_iff.1 hk).1
  ⟨h.own, h.b, (h.b.block g' hl).trans hk, fun e => by have := (own_type h.own e).1; omega⟩
theorem By.app {w0 w2 : World} {v : Value} {L : List Int} {g : Nat} {o : Obj} (h : By w0 w2 v L g o) {m : List Int} {gx cx k : Nat} (hk : k = m.length) (hl : L.length + k ≤ 1000000) (hx : ∀ j, j < k → w2.cell? ⟨gx, j, none⟩ = some (.int .u8 (m.getD j 0))) (ty : TypeId) :
    ∃ v' w', (Builtin.append_ #[33, 33] ty #[v, .slice (some ⟨gx, 0, none⟩) k cx]).run Tryd.prog w2 = .ok v' w' ∧ By w0 w' v' (L ++ m) g o := by
  obtain ⟨ie, hi, hz0, hz1, hz2⟩ := info_parts info_u8
  have hc : ∀ (j : Nat) (u : Value), (yys m)[j]? = some u → w2.cell? ((⟨gx, 0, none⟩ : Addr).add j) = some u := fun j u hu => by
    have hj : j < m.length := by
      have := (List.getElem?_eq_some_iff.1 hu).1
      simpa [yys] using this
    rw [yys_at m j hj] at hu
    rw [show (Addr.mk gx 0 none).add j = ⟨gx, j, none⟩ by unfold Addr.add; by_cases h : j = 0 <;> simp [h], hx j (by omega)]
    exact hu
  obtain ⟨v', w', hr, ho', hg, _, hat⟩ := run_append_own_at (P := Tryd.prog) w2 w0.heap.size 33 ty 5 ie _ 1 1 Tryd.underlying33 hi hz0 hz1 hz2 rfl (by decide) v L.length (yys L) h.own ⟨gx, 0, none⟩ k cx (yys m) (by simp [yys, hk]) hc (fun u hu => by
    obtain ⟨x, _, rfl⟩ := List.mem_map.1 (show u ∈ m.map (Value.int .u8) from hu)
    rfl) (by unfold maxLen; omega) (by omega) h.b.size
  have hgl := (Array.getElem?_eq_some_iff.1 h.k).1
  refine ⟨v', w', hr, by rw [yys_app, List.length_append, ← hk]; exact ho', h.b.trans (Below.grown hg (fun k e => (own_type h.own e).1) h.b.size), (hg.block g hgl (fun e => h.n e.symm)).trans h.k, fun e => ?_⟩
  rcases hat with q | q
  · exact h.n (q.symm.trans e)
  · rw [q] at e
    have := Option.some.inj e
    omega
theorem nat_of {z : Int} (h : Sm z) : ∃ n : Nat, z = n ∧ n < 4294967296 := ⟨z.toNat, by have := h.1; have := h.2; omega, by have := h.2; omega⟩
theorem nat8_of {z : Int} (h0 : 0 ≤ z) (h1 : z < 9223372036854775808) : ∃ n : Nat, z = n ∧ n ≤ 9223372036854775807 := ⟨z.toNat, by omega, by omega⟩
end Go.Proofs.YtigfjjolfeenaaaDoor.Ck

/- What the statements of layer 14 ask of a code's length (long). -/
namespace Go.Proofs.YtigfjjolfeenaaaDoor.Ck
open Go.RowKit

theorem wrapS {z : Int} (h1 : 0 ≤ z) (h2 : z ≤ 9000000000000000000) : wrap64 z = z := by unfold wrap64; omega
theorem add_len {m n : Nat} (h1 : m ≤ 422212465053696) (h2 : n ≤ 140737488351232) : wrap64 (1 + (n : Int)) = 1 + (n : Int) ∧ wrap64 ((m : Int) + (1 + (n : Int))) = ((m + (1 + n) : Nat) : Int) := by
  refine ⟨wrapS (by omega) (by omega), ?_⟩
  have e := wrapS (z := (m : Int) + (1 + (n : Int))) (by omega) (by omega)
  rw [e]
  omega
theorem big_of {m2 m N s n : Nat} (h1 : m2 = m + (1 + n)) (h2 : m = N + s) (h : 20000 < m2) : 20000 < N + s + (1 + n) := by omega
theorem next_of {m2 m N s s2 n : Nat} (h1 : m2 = m + (1 + n)) (h2 : m = N + s) (h3 : s2 = s + (1 + n)) : m2 = N + s2 := by omega
theorem dec_cast (m : Nat) : decide ((20000 : Int) < (m : Int)) = decide (20000 < m) := decide_eq_decide.2 (by omega)
theorem succ_len {k n : Nat} (h : k < n) (h2 : n ≤ 140737488351232) : wrap64 ((k : Int) + 1) = ((k + 1 : Nat) : Int) := by
  rw [wrapS (z := (k : Int) + 1) (by omega) (by omega)]
  omega
theorem three_len {a b d n : Nat} (h1 : a ≤ 140737488351232) (h2 : b ≤ 140737488351232) (h3 : d ≤ 140737488351232) (hn : n = a + b + d) : wrap64 ((a : Int) + (b : Int)) = (a : Int) + (b : Int) ∧ wrap64 ((a : Int) + (b : Int) + (d : Int)) = (n : Int) ∧ n ≤ 422212465053696 := by
  refine ⟨wrapS (by omega) (by omega), ?_, by omega⟩
  rw [wrapS (by omega) (by omega)]
  omega
theorem meas_len {n k : Nat} {z : Int} (h : z = ((k + 1 : Nat) : Int)) (hlt : k < n) : n - (intOf (.int .i64 z)).toNat < n - (intOf (.int .i64 (k : Int))).toNat := by
  subst h
  simp only [intOf, Int.toNat_natCast]
  omega
def sumL (F : List Fn3) : Nat := (F.map (fun f => 1 + f.lo.length)).sum
def lenC (c : Cd) : Nat := c.P.length + c.C.length + c.B.length + sumL c.F
def longB (c : Cd) : Bool := decide (20000 < lenC c)
theorem sum_take (F : List Fn3) (k : Nat) (h : k < F.length) : sumL (F.take (k + 1)) = sumL (F.take k) + (1 + (F.getD k zF).lo.length) := by
  unfold sumL
  rw [List.take_add_one, List.getD_eq_getElem?_getD, List.getElem?_eq_getElem h]
  simp only [Option.toList_some, List.map_append, List.map_cons, List.map_nil, List.sum_append, List.sum_cons, List.sum_nil, Option.getD_some, Nat.add_zero]
theorem sum_le (F : List Fn3) (k : Nat) : sumL (F.take k) ≤ sumL F := by
  have h := congrArg (fun l => sumL l) (List.take_append_drop k F)
  simp only [sumL, List.map_append, List.sum_append] at h ⊢
  omega
set_option maxRecDepth 20000 in
set_option maxHeartbeats 4000000 in
theorem long_any {w : World} {vP vC vF vB : Value} {c : Cd} (h : Cv w vP vC vF vB c) : Calls Tryd.prog 6 #[codeA vP vC vF vB c] w (Vb w (.bool (longB c))) := by
  have B0 := hide (bel_new w (codeO vP vC vF vB c))
  have V0 := hide (fun wz (hb : Below (w.alloc (codeO vP vC vF vB c)).heap.size (w.alloc (codeO vP vC vF vB c)) wz) => h.bel (bel_trans B0.out hb))
  have X0 := hide (fun wz (hb : Below (w.alloc (codeO vP vC vF vB c)).heap.size (w.alloc (codeO vP vC vF vB c)) wz) => (hb.block w.heap.size (by simp)).trans (show (w.alloc (codeO vP vC vF vB c)).heap[w.heap.size]? = some (codeO vP vC vF vB c) from Go.Deep.blk_alloc_new _ _))
  have hL := h.L
  obtain ⟨aP, cP, rfl, _, hmP⟩ := h.P.form
  obtain ⟨aC, cC, rfl, _, hmC⟩ := h.C.form
  obtain ⟨aF, cF, rfl, _, hmF⟩ := h.F.form
  obtain ⟨aB, cB, rfl, _, hmB⟩ := h.B.form
  have hF := hide (fun wz (hb : Below (w.alloc (.cells #[.slice aP c.P.length cP, .int .i64 c.M, .int .i64 c.A, .slice aC c.C.length cC, .slice aF c.F.length cF, .int .i64 c.mn, .slice aB c.B.length cB] 27)).heap.size (w.alloc (.cells #[.slice aP c.P.length cP, .int .i64 c.M, .int .i64 c.A, .slice aC c.C.length cC, .slice aF c.F.length cF, .int .i64 c.mn, .slice aB c.B.length cB] 27)) wz) i (hi : i < c.F.length) => (by
    obtain ⟨a, cp, e, _, _, h⟩ := (V0.out wz hb).F
    cases e
    exact h i hi : ∃ b off vl, aF = some ⟨b, off, none⟩ ∧ b < _ ∧ _))
  have HLo := hide (fun k (hk : k < c.F.length) => (show (c.F.getD k zF).lo.length ≤ 140737488351232 by
    refine hL.L _ ?_
    rw [List.getD_eq_getElem?_getD, List.getElem?_eq_getElem hk]
    exact List.getElem_mem hk))
  have l1 := hL.P
  have l2 := hL.C
  have l3 := hL.B
  have HLF := hide hL.F
  obtain ⟨N0, hN0⟩ : ∃ N0, N0 = c.P.length + c.C.length + c.B.length := ⟨_, rfl⟩
  have HY := hide (fun k (hk : k < c.F.length) (hs : 20000 < N0 + sumL (c.F.take k) + (1 + (c.F.getD k zF).lo.length)) => (show longB c = true by
    have h1 := sum_take c.F k hk
    have h2 := sum_le c.F (k + 1)
    unfold longB lenC
    rw [decide_eq_true_eq]
    omega))
  have HZ : Hid (longB c = decide (20000 < N0 + sumL c.F)) := hide (by unfold longB lenC; rw [hN0])
  obtain ⟨hn1, hn2, hN1⟩ := three_len l1 l2 l3 hN0
  generalize longB c = r at *
  clear h hL hmP hmC hmF hmB hN0 l1 l2 l3
  unfold codeA codeO at *
  go_enter Tryd.func6, Tryd.ntmps6
  go_wp2_with fail
  generalize w.alloc (.cells #[.slice aP c.P.length cP, .int .i64 c.M, .int .i64 c.A, .slice aC c.C.length cC, .slice aF c.F.length cF, .int .i64 c.mn, .slice aB c.B.length cB] 27) = W1 at *
  generalize hnF : c.F.length = nF at *
  have HnF := hide hnF
  have HN2 := hide hn2
  have HN1 := hide hN1
  clear hnF hn1 hn2 hN1
  go_loopw [3, 5, 20] (fun a u5 i wr => ∃ (k m : Nat), k ≤ nF ∧ i = .int .i64 k ∧ a = .int .i64 m ∧ Hid (m = N0 + sumL (c.F.take k)) ∧ Hid (k = 0 ∨ m ≤ 20000) ∧ Hid (Below W1.heap.size W1 wr)) (fun a u5 i _ => nF - (intOf i).toNat)
  case atStart => exact ⟨0, N0, Nat.zero_le _, rfl, congrArg (Value.int .i64) HN2.out, hide (by simp [sumL]), hide (.inl rfl), hide (Below.refl _ _)⟩
  case round =>
    obtain ⟨k, m, hk, rfl, rfl, hm, hm2, hbel⟩ := hrel
    by_cases hlt : k < nF
    · have h1 : (k : Int) < (nF : Int) := by omega
      obtain ⟨b1, o1, vk, rfl, hbk, f1, f2, f3, f4⟩ := hF.out _ hbel.out k hlt
      have hlo := HLo.out k hlt
      have hy := hide (HY.out k hlt)
      have hst := hide (sum_take c.F k (by rw [HnF.out]; exact hlt))
      obtain ⟨ak, ck, rfl, _, _⟩ := f4.form
      generalize c.F.getD k zF = f at *
      have HM : Hid (m ≤ 422212465053696) := hide (hm2.out.elim (fun h => by
        have h9 := hm.out
        rw [h] at h9
        simp [sumL] at h9
        rw [h9]
        exact HN1.out) (fun h => Nat.le_trans h (by decide)))
      obtain ⟨e1, e2⟩ := add_len HM.out hlo
      obtain ⟨m2, hm3⟩ : ∃ m2 : Nat, m2 = m + (1 + f.lo.length) := ⟨_, rfl⟩
      rw [← hm3] at e2
      have HM3 := hide hm3
      have Bb := hide (bel_trans hbel.out (bel_new wr (.cells #[.int .i64 f.st, .int .i64 f.pa, .slice ak f.lo.length ck] 47)))
      clear hlo hm3 HM f4 HLo hF HY HZ hm2
      generalize f.lo.length = nk at *
      by_cases hbig : 20000 < m2
      · have hb1 : decide ((20000 : Int) < (m2 : Int)) = true := by rw [dec_cast]; exact decide_eq_true hbig
        have hr := hy.out (big_of HM3.out hm.out hbig)
        subst hr
        clear hbig
        go_wp2_with fail
        go_ret
        exact ⟨rfl, bel_trans B0.out Bb.out⟩
      · have hb1 : decide ((20000 : Int) < (m2 : Int)) = false := by rw [dec_cast]; exact decide_eq_false hbig
        have E2 := hide e2
        have HK1 := hide (succ_len hlt HLF.out)
        have HB2 : Hid (m2 ≤ 20000) := hide (Nat.le_of_not_lt hbig)
        clear hbig
        go_wp2_with fail
        clear e1 e2 hb1 h1
        refine ⟨⟨k + 1, m2, Nat.succ_le_of_lt hlt, ?_, ?_, hide (next_of HM3.out hm.out hst.out), hide (Or.inr HB2.out), Bb⟩, ?_⟩
        · rw [HK1.out]
        · rw [E2.out]
        · exact meas_len HK1.out hlt
    · obtain rfl : k = nF := by omega
      have hm' : m = N0 + sumL c.F := by rw [hm.out, ← HnF.out, List.take_length]
      rw [← hm'] at HZ
      have hz := HZ.out
      have HBB := hide (bel_trans B0.out hbel.out)
      rw [← dec_cast] at hz
      subst hz
      clear hF HY HLo hm hm2 hm' HnF
      go_wp2_with fail
      go_ret
      exact ⟨rfl, HBB.out⟩
end Go.Proofs.YtigfjjolfeenaaaDoor.Ck

/- A code's block filled; lists that are not too long; no Go text is walked here. (Written by mk_ls.py.) -/
namespace Go.Proofs.YtigfjjolfeenaaaDoor.Ck
open Go.RowKit

theorem set7 {w : World} {g : Nat} {z0 z1 z2 z3 z4 z5 z6 : Value} {T : TypeId} (h : w.heap[g]? = some (.cells #[z0, z1, z2, z3, z4, z5, z6] T (0, 0))) (v0 v1 v2 v3 v4 v5 v6 : Value) :
    (((((((w.setCell ⟨g, 0, none⟩ v0).setCell ⟨g, 1, none⟩ v1).setCell ⟨g, 2, none⟩ v2).setCell ⟨g, 3, none⟩ v3).setCell ⟨g, 4, none⟩ v4).setCell ⟨g, 5, none⟩ v5).setCell ⟨g, 6, none⟩ v6).heap[g]? = some (.cells #[v0, v1, v2, v3, v4, v5, v6] T (0, 0)) ∧ Tn g w (((((((w.setCell ⟨g, 0, none⟩ v0).setCell ⟨g, 1, none⟩ v1).setCell ⟨g, 2, none⟩ v2).setCell ⟨g, 3, none⟩ v3).setCell ⟨g, 4, none⟩ v4).setCell ⟨g, 5, none⟩ v5).setCell ⟨g, 6, none⟩ v6) := by
  obtain ⟨k0, t0⟩ := set1 h 0 v0
  have k0 : _ = some (Obj.cells #[v0, z1, z2, z3, z4, z5, z6] T (0, 0)) := k0
  obtain ⟨k1, t1⟩ := set1 k0 1 v1
  have k1 : _ = some (Obj.cells #[v0, v1, z2, z3, z4, z5, z6] T (0, 0)) := k1
  obtain ⟨k2, t2⟩ := set1 k1 2 v2
  have k2 : _ = some (Obj.cells #[v0, v1, v2, z3, z4, z5, z6] T (0, 0)) := k2
  obtain ⟨k3, t3⟩ := set1 k2 3 v3
  have k3 : _ = some (Obj.cells #[v0, v1, v2, v3, z4, z5, z6] T (0, 0)) := k3
  obtain ⟨k4, t4⟩ := set1 k3 4 v4
  have k4 : _ = some (Obj.cells #[v0, v1, v2, v3, v4, z5, z6] T (0, 0)) := k4
  obtain ⟨k5, t5⟩ := set1 k4 5 v5
  have k5 : _ = some (Obj.cells #[v0, v1, v2, v3, v4, v5, z6] T (0, 0)) := k5
  obtain ⟨k6, t6⟩ := set1 k5 6 v6
  have k6 : _ = some (Obj.cells #[v0, v1, v2, v3, v4, v5, v6] T (0, 0)) := k6
  exact ⟨k6, (((((t0.trans t1).trans t2).trans t3).trans t4).trans t5).trans t6⟩
theorem sum_mem : ∀ (F : List Fn3) (f : Fn3), f ∈ F → f.lo.length ≤ sumL F
  | [], _, h => by cases h
  | x :: F, f, h => by
    simp only [sumL, List.map_cons, List.sum_cons]
    rcases List.mem_cons.1 h with rfl | h
    · omega
    · have := sum_mem F f h
      unfold sumL at this
      omega
theorem sum_len : ∀ (F : List Fn3), F.length ≤ sumL F
  | [] => Nat.zero_le _
  | x :: F => by
    have := sum_len F
    simp only [sumL, List.map_cons, List.sum_cons, List.length_cons] at this ⊢
    omega
theorem sml_of {c : Cd} (h : longB c = false) : Sml c := by
  unfold longB lenC at h
  have h' := of_decide_eq_false h
  have h2 := sum_len c.F
  exact ⟨by omega, by omega, by omega, by omega, fun f hf => by have := sum_mem c.F f hf; omega⟩
end Go.Proofs.YtigfjjolfeenaaaDoor.Ck

/- The document: the code of bytes. (Written by mk_o.py.) -/
namespace Go.Proofs.YtigfjjolfeenaaaDoor.Ck
open Go.RowKit

def fB (P : List Int) (M A : Int) (C : List (Int × Int)) (F : List Fn3) (mn : Int) : List In5 → Pz Cd := fun B => rPure ⟨P, M, A, C, F, B, mn⟩
def fF (n5 : Nat) (P : List Int) (M A : Int) (C : List (Int × Int)) (mn : Int) : List Fn3 → Pz Cd := fun F => rBind (rRep rIns n5) (fB P M A C F mn)
def fC (n4 n5 : Nat) (P : List Int) (M A mn : Int) : List (Int × Int) → Pz Cd := fun C => rBind (rRep rFn n4) (fF n5 P M A C mn)
def fP (n3 n4 n5 : Nat) (M A mn : Int) : List Int → Pz Cd := fun P => rBind (rRep rChan n3) (fC n4 n5 P M A mn)
/-- what is read so far is numbers as they can be -/
structure CdE (c : Cd) : Prop where
  P : ∀ x ∈ c.P, Sm x
  C : ∀ h ∈ c.C, Sm h.1 ∧ Sm h.2
  F : ∀ f ∈ c.F, f.lo.length ≤ 100000 ∧ ∀ x ∈ f.lo, Sm x
  B : ∀ x ∈ c.B, InX x
  nP : c.P.length ≤ 100000
  nC : c.C.length ≤ 100000
  nF : c.F.length ≤ 100000
  nB : c.B.length ≤ 100000
theorem mem_snoc {α : Type} {l : List α} {x : α} {Q : α → Prop} (h : ∀ y ∈ l, Q y) (hx : Q x) : ∀ y ∈ l ++ [x], Q y := fun y hy => by
  rcases List.mem_append.1 hy with hy | hy
  · exact h y hy
  · simp at hy
    subst hy
    exact hx
section
variable {P : List Int} {M A mn : Int} {C : List (Int × Int)} {F : List Fn3} {B : List In5}
theorem CdE.p (h : CdE ⟨P, M, A, C, F, B, mn⟩) {x : Int} (hx : Sm x) (hl : P.length + 1 ≤ 100000) : CdE ⟨P ++ [x], M, A, C, F, B, mn⟩ := ⟨mem_snoc h.P hx, h.C, h.F, h.B, by simpa using hl, h.nC, h.nF, h.nB⟩
theorem CdE.c (h : CdE ⟨P, M, A, C, F, B, mn⟩) {x : Int × Int} (hx : Sm x.1 ∧ Sm x.2) (hl : C.length + 1 ≤ 100000) : CdE ⟨P, M, A, C ++ [x], F, B, mn⟩ := ⟨h.P, mem_snoc h.C hx, h.F, h.B, h.nP, by simpa using hl, h.nF, h.nB⟩
theorem CdE.f (h : CdE ⟨P, M, A, C, F, B, mn⟩) {x : Fn3} (hx : x.lo.length ≤ 100000 ∧ ∀ y ∈ x.lo, Sm y) (hl : F.length + 1 ≤ 100000) : CdE ⟨P, M, A, C, F ++ [x], B, mn⟩ := ⟨h.P, h.C, mem_snoc h.F hx, h.B, h.nP, h.nC, by simpa using hl, h.nB⟩
theorem CdE.b (h : CdE ⟨P, M, A, C, F, B, mn⟩) {x : In5} (hx : InX x) (hl : B.length + 1 ≤ 100000) : CdE ⟨P, M, A, C, F, B ++ [x], mn⟩ := ⟨h.P, h.C, h.F, mem_snoc h.B hx, h.nP, h.nC, h.nF, by simpa using hl⟩
end
theorem CdE.sml {c : Cd} (h : CdE c) : Sml c := ⟨h.nP, h.nC, h.nF, h.nB, fun f hf => (h.F f hf).1⟩
theorem CdR.cvE {S : Nat} {w : World} {vP vC vF vB : Value} {c : Cd} (h : CdR S w vP vC vF vB c) (q : CdE c) : Cv w vP vC vF vB c := by
  refine ⟨⟨?_, ?_, ?_, ?_, fun f hf => ?_, q.B, fun h hh => (q.C h hh).1.fit⟩, Sl.of_own h.P.own (fun x hx => (q.P x hx).fit), SlC.of_own h.C.own, SlF.of_own h.F (fun f hf x hx => ((q.F f hf).2 x hx).fit), OwnB.sl (show OwnB w S vB c.B from h.B.own) ?_⟩
  · exact Nat.le_trans q.nP (by decide)
  · exact Nat.le_trans q.nC (by decide)
  · exact Nat.le_trans q.nF (by decide)
  · exact Nat.le_trans q.nB (by decide)
  · exact Nat.le_trans (q.F f hf).1 (by decide)
  · exact Nat.le_trans q.nB (by decide)
/-- the seven numbers are being read -/
structure R7 (W : World) (L : List Int) (vb : Value) (w : World) (xs : List Int) (a : Nat) (s : Option (List Int)) : Prop where
  rd : Rr w (W.heap.size + 1) (W.heap.size + 2) vb L a s
  kz : w.heap[W.heap.size]? = some (.cells #[.slice none 0 0, .int .i64 0, .int .i64 0, .slice none 0 0, .slice none 0 0, .int .i64 0, .slice none 0 0] 27 (0, 0))
  kh : w.heap[W.heap.size + 2]? = some (.cells (xs.map (Value.int .i64) ++ List.replicate (7 - xs.length) (Value.int .i64 0)).toArray 72 (0, 0))
  b : Below W.heap.size W w
  sm : ∀ x ∈ xs, Sm x
theorem seven_set {xs : List Int} {x : Int} (h : xs.length < 7) : ((xs.map (Value.int .i64) ++ List.replicate (7 - xs.length) (Value.int .i64 0)).toArray).setIfInBounds xs.length (.int .i64 x) = ((xs ++ [x]).map (Value.int .i64) ++ List.replicate (7 - (xs ++ [x]).length) (Value.int .i64 0)).toArray := by
  rw [List.length_append, List.length_singleton, show 7 - xs.length = (7 - (xs.length + 1)) + 1 by omega, List.replicate_succ]
  rw [List.setIfInBounds_toArray, List.set_append_right _ _ (by simp)]
  simp
theorem seven_at {xs : List Int} (h : xs.length < 7) : ((xs.map (Value.int .i64) ++ List.replicate (7 - xs.length) (Value.int .i64 0)).toArray)[xs.length]? = some (.int .i64 0) := by
  rw [show 7 - xs.length = (6 - xs.length) + 1 by omega, List.replicate_succ]
  simp
theorem R7.num {W w w' : World} {L : List Int} {vb : Value} {xs : List Int} {a a' : Nat} {s s' : Option (List Int)} (h : R7 W L vb w xs a s) (t : Tn (W.heap.size + 1) w w') (r : Rr w' (W.heap.size + 1) (W.heap.size + 2) vb L a' s') : R7 W L vb w' xs a' s' :=
  ⟨r, (t.blk _ (lt_of_blk h.kz) (by omega)).trans h.kz, (t.blk _ (lt_of_blk h.kh) (by omega)).trans h.kh, h.b.trans (t.bel (by omega) h.b.size), h.sm⟩
theorem R7.put {W w : World} {L : List Int} {vb : Value} {xs : List Int} {a : Nat} {s : Option (List Int)} (h : R7 W L vb w xs a s) {x : Int} (hx : Sm x) (hl : xs.length < 7) : R7 W L vb (w.setCell ⟨W.heap.size + 2, xs.length, none⟩ (.int .i64 x)) (xs ++ [x]) a s := by
  obtain ⟨k, t⟩ := set1 h.kh xs.length (.int .i64 x)
  rw [seven_set hl] at k
  exact ⟨h.rd.tn t (Nat.le_refl _), (t.blk _ (lt_of_blk h.kz) (by omega)).trans h.kz, k, h.b.trans (t.bel (by omega) h.b.size), mem_snoc h.sm hx⟩
theorem list7 {xs : List Int} (h : xs.length = 7) : ∃ a b c d e f g, xs = [a, b, c, d, e, f, g] := by
  match xs, h with
  | [a, b, c, d, e, f, g], _ => exact ⟨a, b, c, d, e, f, g, rfl⟩
theorem CdR.nil {S : Nat} {w : World} {M A mn : Int} : CdR S w (.slice none 0 0) (.slice none 0 0) (.slice none 0 0) (.slice none 0 0) ⟨[], M, A, [], [], [], mn⟩ := ⟨OwnR.nil, OwnR.nil, Ents.nil, OwnR.nil⟩
theorem CdE.nil {M A mn : Int} : CdE ⟨[], M, A, [], [], [], mn⟩ := ⟨fun _ h => (by cases h), fun _ h => (by cases h), fun _ h => (by cases h), fun _ h => (by cases h), Nat.zero_le _, Nat.zero_le _, Nat.zero_le _, Nat.zero_le _⟩
theorem chan_step {L : List Int} {s : Option (List Int)} {m : Nat} {xs : List (Int × Int)} {f : List (Int × Int) → Pz Cd} (h : Fin L s (rBind (rRep rChan (m + 1)) fun ys => f (xs ++ ys))) : Fin L s (rBind (rNum 4) fun t => rBind (rNum 4) fun r => rBind (rRep rChan m) fun ys => f ((xs ++ [(t, r)]) ++ ys)) := by
  have h2 := h.rep
  unfold rChan at h2 ⊢
  simp only [rBind_assoc, rBind_pure] at h2 ⊢
  exact h2
theorem fn_step {L : List Int} {s : Option (List Int)} {m : Nat} {xs : List Fn3} {f : List Fn3 → Pz Cd} (h : Fin L s (rBind (rRep rFn (m + 1)) fun ys => f (xs ++ ys))) : Fin L s (rBind (rNum 4) fun t => rBind (rNum 4) fun p => rBind (rNum 4) fun n => rBind (rRep (rNum 4) n.toNat) fun lo => rBind (rRep rFn m) fun ys => f ((xs ++ [⟨t, p, lo⟩]) ++ ys)) := by
  have h2 := h.rep
  rw [show rFn = rBind (rNum 4) fun s => rBind (rNum 4) fun p => rBind (rNum 4) fun n => rBind (rRep (rNum 4) n.toNat) fun l => rPure ⟨s, p, l⟩ from rfl] at h2
  simp only [rBind_assoc, rBind_pure] at h2
  exact h2
theorem ins_step {L : List Int} {s : Option (List Int)} {m : Nat} {xs : List In5} {f : List In5 → Pz Cd} (h : Fin L s (rBind (rRep rIns (m + 1)) fun ys => f (xs ++ ys))) : Fin L s (rBind (rNum 1) fun o => rBind (rNum 8) fun a => rBind (rNum 4) fun b => rBind (rNum 8) fun t => rBind (rNum 4) fun k => rBind (rRep rIns m) fun ys => f ((xs ++ [⟨o, wrap64 a, b, t, k⟩]) ++ ys)) := by
  have h2 := h.rep
  rw [show rIns = rBind (rNum 1) fun o => rBind (rNum 8) fun a => rBind (rNum 4) fun b => rBind (rNum 8) fun t => rBind (rNum 4) fun k => rPure ⟨o, wrap64 a, b, t, k⟩ from rfl] at h2
  simp only [rBind_assoc, rBind_pure] at h2
  exact h2
def finC (c : Cd) : Option (List Int) → Option Cd
  | some [] => if formB c = true then some c else none
  | _ => none
theorem fin_code {L : List Int} {s : Option (List Int)} {c : Cd} (h : Fin L s (rPure c)) : codeB L = finC c s := by
  unfold Fin at h
  unfold codeB
  rw [h]
  cases s with
  | none => rfl
  | some r => cases r <;> rfl
theorem credit {k a a' : Nat} {s' : Option (List Int)} {r : List Int} (h : 4 * k ≤ a + cr (some r)) (m : a ≤ a' ∧ (s'.isSome = true → (some r).isSome = true ∧ a' = a + 4)) : 4 * (k + 1) ≤ a' + cr s' := by
  simp only [cr, Option.isSome_some, if_true] at h ⊢
  cases hs : s'.isSome with
  | true =>
    have := (m.2 hs).2
    simp
    omega
  | false => simp; omega
theorem more2 {n m a a1 a2 : Nat} {s s1 s2 : Option (List Int)} (h1 : a ≤ a1 ∧ (s1.isSome = true → s.isSome = true ∧ a1 = a + n)) (h2 : a1 ≤ a2 ∧ (s2.isSome = true → s1.isSome = true ∧ a2 = a1 + m)) : a ≤ a2 ∧ (s2.isSome = true → s.isSome = true ∧ a2 = a + (n + m)) :=
  ⟨Nat.le_trans h1.1 h2.1, fun h => by
    obtain ⟨h3, h4⟩ := h2.2 h
    obtain ⟨h5, h6⟩ := h1.2 h3
    exact ⟨h5, by omega⟩⟩
theorem credits {n k a a' : Nat} {s' : Option (List Int)} {r : List Int} (h : 4 * k ≤ a + cr (some r)) (m : a ≤ a' ∧ (s'.isSome = true → (some r).isSome = true ∧ a' = a + n)) (hn : 4 ≤ n := by decide) : 4 * (k + 1) ≤ a' + cr s' := by
  simp only [cr, Option.isSome_some, if_true] at h ⊢
  cases hs : s'.isSome with
  | true =>
    have := (m.2 hs).2
    simp
    omega
  | false => simp; omega
def fLo (d n5 : Nat) (P : List Int) (M A : Int) (C : List (Int × Int)) (mn : Int) (xs : List Fn3) (st pa : Int) : List Int → Pz Cd := fun lo => rBind (rRep rFn d) fun zs => fF n5 P M A C mn ((xs ++ [⟨st, pa, lo⟩]) ++ zs)
/-- an entry is being read, in block gf, which was made in wo -/
structure Lf (W wo : World) (l : List Int) (vb : Value) (gf : Nat) (w : World) (st pa : Int) (vl : Value) (lo : List Int) (a : Nat) (s : Option (List Int)) : Prop where
  hg : wo.heap.size = gf
  hw : W.heap.size + 2 ≤ gf
  k : w.heap[gf]? = some (.cells #[.int .i64 st, .int .i64 pa, vl] 47 (0, 0))
  o : w.ownsRow (gf + 1) 3 1 vl lo.length (cls_int lo)
  r : Rr w (W.heap.size + 1) (W.heap.size + 2) vb l a s
  t : Tn (W.heap.size + 1) wo w
section
variable {W wo w w' : World} {l : List Int} {vb : Value} {gf : Nat} {st pa : Int} {vl : Value} {lo : List Int} {a a' : Nat} {s s' : Option (List Int)}
theorem Lf.num (h : Lf W wo l vb gf w st pa vl lo a s) (t : Tn (W.heap.size + 1) w w') (r : Rr w' (W.heap.size + 1) (W.heap.size + 2) vb l a' s') : Lf W wo l vb gf w' st pa vl lo a' s' :=
  have hw := h.hw
  ⟨h.hg, h.hw, (t.blk _ (lt_of_blk h.k) (by omega)).trans h.k, own_keep h.o (fun k hk => t.blk k (own_type h.o hk).2.1 (by have := (own_type h.o hk).1; omega)), r, h.t.trans t⟩
theorem Lf.bel (h : Lf W wo l vb gf w st pa vl lo a s) (hb : Below w.heap.size w w') : Lf W wo l vb gf w' st pa vl lo a s := h.num (Tn.of_bel hb) (h.r.bel hb)
theorem Lf.turn (h : Lf W wo l vb gf w st pa vl lo a s) {vl' : Value} {lo' : List Int} {st' pa' : Int} (hk : w'.heap[gf]? = some (.cells #[.int .i64 st', .int .i64 pa', vl'] 47 (0, 0))) (ho : w'.ownsRow (gf + 1) 3 1 vl' lo'.length (cls_int lo')) (hs : w.heap.size ≤ w'.heap.size) (h1 : w'.os = w.os) (h2 : w'.tape = w.tape) (h3 : w'.output = w.output) (hb : ∀ k, k < gf → w'.heap[k]? = w.heap[k]?) : Lf W wo l vb gf w' st' pa' vl' lo' a s :=
  have hw := h.hw
  have hg := h.hg
  ⟨h.hg, h.hw, hk, ho, h.r.keep (Nat.le_trans h.r.BW hs) (fun b hbb => hb b (by omega)), h1.trans h.t.os, h2.trans h.t.tape, h3.trans h.t.output, Nat.le_trans h.t.size hs, fun k hk hn => (hb k (by omega)).trans (h.t.blk k hk hn)⟩
theorem Lf.set (h : Lf W wo l vb gf w st pa vl lo a s) {i : Nat} {v : Value} {st' pa' : Int} (hi : #[Value.int .i64 st, .int .i64 pa, vl].setIfInBounds i v = #[.int .i64 st', .int .i64 pa', vl]) : Lf W wo l vb gf (w.setCell ⟨gf, i, none⟩ v) st' pa' vl lo a s := by
  obtain ⟨k, t⟩ := set1 h.k i v
  rw [hi] at k
  exact h.turn k (own_keep h.o (fun k hk => t.blk k (own_type h.o hk).2.1 (by have := (own_type h.o hk).1; omega))) t.size t.os t.tape t.output (fun k hk => t.blk k (by have := lt_of_blk h.k; omega) (by omega))
theorem Lf.push (h : Lf W wo l vb gf w st pa vl lo a s) {x : Int} {b : Nat} (hb : w.heap[b]? = some (.cells #[.int .i64 x] 3 (0, 0))) (hn : lo.length ≤ 100000) (ty : TypeId) :
    ∃ v' w', (Builtin.append_ #[22, 22] ty #[vl, .slice (some ⟨b, 0, none⟩) 1 1]).run Tryd.prog w = .ok v' w' ∧ ((∃ a c, v' = .slice a (lo.length + 1) c) ∧ w'.heap[gf]? = some (.cells #[.int .i64 st, .int .i64 pa, vl] 47 (0, 0)) ∧ Lf W wo l vb gf (w'.setCell ⟨gf, 2, none⟩ v') st pa v' (lo ++ [x]) a s) := by
  obtain ⟨v', w', hr, hf, ho, hg⟩ := pushO (news := cl_int x) Tryd.underlying22 info_int rfl (by decide) (by decide) h.o rfl hb (fun u hu => by simp [cl_int] at hu; subst hu; rfl) hn (by have := lt_of_blk h.k; omega) ty
  have hown : ∀ k, k < gf + 1 → some k ≠ vl.ownBlock := fun k hk e => by have := (own_type h.o e.symm).1; omega
  have k1 := (hg.block gf (lt_of_blk h.k) (hown gf (by omega))).trans h.k
  obtain ⟨k2, t⟩ := set1 k1 2 v'
  refine ⟨v', w', hr, hf, k1, h.turn k2 ?_ (Nat.le_trans hg.size t.size) (t.os.trans hg.os) (t.tape.trans hg.tape) (t.output.trans hg.output) (fun k hk => (t.blk k (by have := lt_of_blk h.k; have := hg.size; omega) (by omega)).trans (hg.block k (by have := lt_of_blk h.k; omega) (hown k (by omega))))⟩
  rw [List.length_append, show cls_int (lo ++ [x]) = cls_int lo ++ cl_int x by simp [cls_int]]
  exact own_keep ho (fun k hk => t.blk k (own_type ho hk).2.1 (by have := (own_type ho hk).1; omega))
end
/-- an instruction is being read, in block gi, which was made in wo -/
structure Li (W wo : World) (l : List Int) (vb : Value) (gi : Nat) (w : World) (x : In5) (a : Nat) (s : Option (List Int)) : Prop where
  hg : wo.heap.size = gi
  hw : W.heap.size + 2 ≤ gi
  k : w.heap[gi]? = some (.cells #[.int .i64 x.op, .int .i64 x.a, .int .i64 x.b, .int .u64 x.bits, .int .i64 x.at_] 50 (0, 0))
  r : Rr w (W.heap.size + 1) (W.heap.size + 2) vb l a s
  t : Tn (W.heap.size + 1) wo w
section
variable {W wo w w' : World} {l : List Int} {vb : Value} {gi : Nat} {x : In5} {a a' : Nat} {s s' : Option (List Int)}
theorem Li.num (h : Li W wo l vb gi w x a s) (t : Tn (W.heap.size + 1) w w') (r : Rr w' (W.heap.size + 1) (W.heap.size + 2) vb l a' s') : Li W wo l vb gi w' x a' s' :=
  have hw := h.hw
  ⟨h.hg, h.hw, (t.blk _ (lt_of_blk h.k) (by omega)).trans h.k, r, h.t.trans t⟩
theorem Li.set (h : Li W wo l vb gi w x a s) {i : Nat} {v : Value} {x' : In5} (hi : #[Value.int .i64 x.op, .int .i64 x.a, .int .i64 x.b, .int .u64 x.bits, .int .i64 x.at_].setIfInBounds i v = #[.int .i64 x'.op, .int .i64 x'.a, .int .i64 x'.b, .int .u64 x'.bits, .int .i64 x'.at_]) : Li W wo l vb gi (w.setCell ⟨gi, i, none⟩ v) x' a s := by
  obtain ⟨k, t⟩ := set1 h.k i v
  rw [hi] at k
  have hw := h.hw
  have hg := h.hg
  exact ⟨h.hg, h.hw, k, h.r.tn t (by omega), h.t.next t (by omega)⟩
end
theorem creditM {k a a' : Nat} {s' : Option (List Int)} {r : List Int} (h : 4 * k ≤ a + cr (some r)) (m : a ≤ a' ∧ (s'.isSome = true → a + 4 ≤ a')) : 4 * (k + 1) ≤ a' + cr s' := by
  simp only [cr, Option.isSome_some, if_true] at h ⊢
  cases hs : s'.isSome with
  | true =>
    have := m.2 hs
    simp
    omega
  | false => simp; omega
def DocR (l : List Int) (w : World) (e : Ending) (w' : World) : Prop := Below w.heap.size w w' ∧ ((codeB l = none ∧ e = .returned (.tuple #[.agg #[.slice none 0 0, .int .i64 0, .int .i64 0, .slice none 0 0, .slice none 0 0, .int .i64 0, .slice none 0 0], .bool false])) ∨ ∃ c vP vC vF vB, codeB l = some c ∧ e = .returned (.tuple #[codeA vP vC vF vB c, .bool true]) ∧ Cv w' vP vC vF vB c ∧ Sml c)
set_option maxRecDepth 20000 in
set_option maxHeartbeats 8000000 in
theorem rcode_doc {w : World} {vb : Value} {l : List Int} (hy : Ys w vb l) (hbyt : Byt l) (hlen : l.length ≤ 200000) : Calls Tryd.prog 15 #[vb] w (DocR l w) := by
  have X0 : Hid (R7 w l vb (((w.alloc (.cells #[.slice none 0 0, .int .i64 0, .int .i64 0, .slice none 0 0, .slice none 0 0, .int .i64 0, .slice none 0 0] 27)).alloc (.cells #[vb, .int .i64 0, .bool true] 71)).alloc (.cells #[.int .i64 0, .int .i64 0, .int .i64 0, .int .i64 0, .int .i64 0, .int .i64 0, .int .i64 0] 72)) [] 0 (some l)) := hide (by
    have b1 := bel_new w (.cells #[.slice none 0 0, .int .i64 0, .int .i64 0, .slice none 0 0, .slice none 0 0, .int .i64 0, .slice none 0 0] 27)
    have b2 := bel_new (w.alloc (.cells #[.slice none 0 0, .int .i64 0, .int .i64 0, .slice none 0 0, .slice none 0 0, .int .i64 0, .slice none 0 0] 27)) (.cells #[vb, .int .i64 0, .bool true] 71)
    have b3 := bel_new ((w.alloc (.cells #[.slice none 0 0, .int .i64 0, .int .i64 0, .slice none 0 0, .slice none 0 0, .int .i64 0, .slice none 0 0] 27)).alloc (.cells #[vb, .int .i64 0, .bool true] 71)) (.cells #[.int .i64 0, .int .i64 0, .int .i64 0, .int .i64 0, .int .i64 0, .int .i64 0, .int .i64 0] 72)
    have s1 : (w.alloc (.cells #[.slice none 0 0, .int .i64 0, .int .i64 0, .slice none 0 0, .slice none 0 0, .int .i64 0, .slice none 0 0] 27)).heap.size = w.heap.size + 1 := by simp
    have s2 : ((w.alloc (.cells #[.slice none 0 0, .int .i64 0, .int .i64 0, .slice none 0 0, .slice none 0 0, .int .i64 0, .slice none 0 0] 27)).alloc (.cells #[vb, .int .i64 0, .bool true] 71)).heap.size = w.heap.size + 2 := by simp
    have hb := bel_trans (bel_trans b1 b2) b3
    have k0 : (w.alloc (.cells #[.slice none 0 0, .int .i64 0, .int .i64 0, .slice none 0 0, .slice none 0 0, .int .i64 0, .slice none 0 0] 27)).heap[w.heap.size]? = some (.cells #[.slice none 0 0, .int .i64 0, .int .i64 0, .slice none 0 0, .slice none 0 0, .int .i64 0, .slice none 0 0] 27 (0, 0)) := Go.Deep.blk_alloc_new _ _
    have k1 : ((w.alloc (.cells #[.slice none 0 0, .int .i64 0, .int .i64 0, .slice none 0 0, .slice none 0 0, .int .i64 0, .slice none 0 0] 27)).alloc (.cells #[vb, .int .i64 0, .bool true] 71)).heap[w.heap.size + 1]? = some (.cells #[vb, .int .i64 0, .bool true] 71 (0, 0)) := by rw [← s1]; exact Go.Deep.blk_alloc_new _ _
    have k2 : (((w.alloc (.cells #[.slice none 0 0, .int .i64 0, .int .i64 0, .slice none 0 0, .slice none 0 0, .int .i64 0, .slice none 0 0] 27)).alloc (.cells #[vb, .int .i64 0, .bool true] 71)).alloc (.cells #[.int .i64 0, .int .i64 0, .int .i64 0, .int .i64 0, .int .i64 0, .int .i64 0, .int .i64 0] 72)).heap[w.heap.size + 2]? = some (.cells #[.int .i64 0, .int .i64 0, .int .i64 0, .int .i64 0, .int .i64 0, .int .i64 0, .int .i64 0] 72 (0, 0)) := by rw [← s2]; exact Go.Deep.blk_alloc_new _ _
    have y1 : SY (((w.alloc (.cells #[.slice none 0 0, .int .i64 0, .int .i64 0, .slice none 0 0, .slice none 0 0, .int .i64 0, .slice none 0 0] 27)).alloc (.cells #[vb, .int .i64 0, .bool true] 71)).alloc (.cells #[.int .i64 0, .int .i64 0, .int .i64 0, .int .i64 0, .int .i64 0, .int .i64 0, .int .i64 0] 72)) (w.heap.size + 1) (w.heap.size + 2) vb l := by
      obtain ⟨a, cap, e, h1, h2, h3⟩ := hy
      refine ⟨a, cap, e, h1, h2, fun i hi => ?_⟩
      obtain ⟨b, off, ea, hb', hn, hc⟩ := h3 i hi
      exact ⟨b, off, ea, by omega, by omega, (hb.cell (p := ⟨b, off + i, none⟩) hb').trans hc⟩
    exact ⟨⟨(b3.block _ (by rw [s2]; omega)).trans k1, Nat.zero_le _, fun r e => by cases e; rfl, y1, by omega, by have := b3.size; rw [s2] at this; exact this, hbyt, by omega⟩, (b3.block _ (by rw [s2]; omega)).trans ((b2.block _ (by rw [s1]; omega)).trans k0), k2, hb, fun _ h => (by cases h)⟩)
  have F0 : Hid (Fin l (some l) (rBind (rRep (rNum 4) (7 - 0)) fun ys => rTail ([] ++ ys))) := hide Fin.start
  have HLEN := hide hlen
  obtain ⟨av, cv, ev, _⟩ := hy
  subst ev
  clear hbyt hlen
  go_enter Tryd.func15, Tryd.ntmps15
  go_wp2_with fail
  generalize ((w.alloc (.cells #[.slice none 0 0, .int .i64 0, .int .i64 0, .slice none 0 0, .slice none 0 0, .int .i64 0, .slice none 0 0] 27)).alloc (.cells #[.slice av l.length cv, .int .i64 0, .bool true] 71)).alloc (.cells #[.int .i64 0, .int .i64 0, .int .i64 0, .int .i64 0, .int .i64 0, .int .i64 0, .int .i64 0] 72) = w1 at *
  go_loopw [6, 21] (fun x6 i wr => ∃ (k : Nat) (xs : List Int) (a : Nat) (s : Option (List Int)), k ≤ 7 ∧ i = .int .i64 k ∧ Hid (xs.length = k) ∧ Hid (R7 w l (.slice av l.length cv) wr xs a s) ∧ Hid (Fin l s (rBind (rRep (rNum 4) (7 - k)) fun ys => rTail (xs ++ ys)))) (fun x6 i _ => 7 - (intOf i).toNat)
  case atStart => exact ⟨0, [], 0, some l, Nat.zero_le _, rfl, rfl, X0, F0⟩
  case round =>
    obtain ⟨k, xs, a, s, hk, rfl, HK, X, FI⟩ := hrel
    clear X0 F0
    by_cases hlt : k < 7
    · have h1 : (k : Int) < 7 := by omega
      obtain ⟨d, hd⟩ : ∃ d, 7 - k = d + 1 := ⟨6 - k, by omega⟩
      rw [hd] at FI
      have HD := hide hd
      have FJ := hide (FI.out.rep)
      clear FI hd
      go_wp2_with fail
      refine (num_4 X.out.rd).mono ?_
      rintro e w3 ⟨y, a', s', rfl, ySm, r3, t3, m3, f3⟩
      have X3 := hide (X.out.num t3 r3)
      have F3 := hide (f3 _ FJ.out)
      have X4 := hide (X3.out.put ySm (by rw [HK.out]; exact hlt))
      rw [HK.out] at X4
      have c0 := blk_cell X3.out.kh xs.length (.int .i64 0) (seven_at (by rw [HK.out]; exact hlt))
      rw [HK.out] at c0
      have z0 := blk_frz X3.out.kh k
      clear X FJ m3 f3 r3 t3 ySm X3
      go_wp2_with fail
      clear c0 z0
      generalize w3.setCell ⟨w.heap.size + 2, k, none⟩ (.int .i64 y) = w4 at *
      go_wp2_with fail
      go_roundw
      case rel => exact ⟨k + 1, xs ++ [y], a', s', by omega, by go_num, hide (by rw [List.length_append, HK.out]; rfl), X4, hide (by have := F3.out; rw [show 7 - (k + 1) = d by have := HD.out; omega]; exact this)⟩
      case measure => simp [intOf]; omega
    · obtain rfl : k = 7 := by omega
      obtain ⟨x0, xM, xA, x3, x4, x5, xm, rfl⟩ := list7 HK.out
      have FI2 := hide FI.out.rep0
      have SM := X.out.sm
      obtain ⟨n0, rfl, _⟩ := nat_of (SM x0 (by simp))
      obtain ⟨n3, rfl, _⟩ := nat_of (SM x3 (by simp))
      obtain ⟨n4, rfl, _⟩ := nat_of (SM x4 (by simp))
      obtain ⟨n5, rfl, _⟩ := nat_of (SM x5 (by simp))
      have hM := SM xM (by simp)
      have hA := SM xA (by simp)
      have hm := SM xm (by simp)
      have FN : Hid (Fin l s (rBind (rRep (rNum 4) (n0 - 0)) fun ys => fP n3 n4 n5 xM xA xm ([] ++ ys))) := hide FI2.out
      have KH := hide (show wr.heap[w.heap.size + 2]? = some (.cells #[.int .i64 (n0 : Int), .int .i64 xM, .int .i64 xA, .int .i64 (n3 : Int), .int .i64 (n4 : Int), .int .i64 (n5 : Int), .int .i64 xm] 72 (0, 0)) from X.out.kh)
      have nb := bel_new wr (.cells #[.slice none 0 0, .int .i64 xM, .int .i64 xA, .slice none 0 0, .slice none 0 0, .int .i64 xm, .slice none 0 0] 27)
      have hq : w.heap.size + 3 ≤ wr.heap.size := by have := lt_of_blk KH.out; omega
      have XN : Hid (Rf w l (.slice av l.length cv) #[.int .i64 (n0 : Int), .int .i64 xM, .int .i64 xA, .int .i64 (n3 : Int), .int .i64 (n4 : Int), .int .i64 (n5 : Int), .int .i64 xm] wr.heap.size (wr.alloc (.cells #[.slice none 0 0, .int .i64 xM, .int .i64 xA, .slice none 0 0, .slice none 0 0, .int .i64 xm, .slice none 0 0] 27)) (.slice none 0 0) (.slice none 0 0) (.slice none 0 0) (.slice none 0 0) ⟨[], xM, xA, [], [], [], xm⟩ a s) :=
        hide ⟨hq, X.out.rd.bel nb, (nb.block _ (lt_of_blk X.out.kz)).trans X.out.kz, (nb.block _ (lt_of_blk KH.out)).trans KH.out, Go.Deep.blk_alloc_new _ _, CdR.nil, bel_trans X.out.b nb⟩
      have h1 := blk_cell KH.out 1 _ rfl
      have h2 := blk_cell KH.out 2 _ rfl
      have h6 := blk_cell KH.out 6 _ rfl
      rw [show ((7 : Nat) : Int) = 7 from rfl]
      clear X HK FI FI2 SM hk hlt nb hM hA hm
      go_upto_block 2 with fail
      clear h1 h2 h6 KH
      generalize wr.alloc (.cells #[.slice none 0 0, .int .i64 xM, .int .i64 xA, .slice none 0 0, .slice none 0 0, .int .i64 xm, .slice none 0 0] 27) = w5 at *
      generalize wr.heap.size = q at *
      clear hq
      go_cut [] from 8 (fun wc => ∃ (P : List Int) (vP : Value) (a : Nat) (s : Option (List Int)), Hid (Rf w l (.slice av l.length cv) #[.int .i64 (n0 : Int), .int .i64 xM, .int .i64 xA, .int .i64 (n3 : Int), .int .i64 (n4 : Int), .int .i64 (n5 : Int), .int .i64 xm] q wc vP (.slice none 0 0) (.slice none 0 0) (.slice none 0 0) ⟨P, xM, xA, [], [], [], xm⟩ a s) ∧ Hid (Fin l s (fP n3 n4 n5 xM xA xm P)) ∧ Hid (CdE ⟨P, xM, xA, [], [], [], xm⟩))
      case first =>
        go_wp2_with fail
        go_loopw [8] (fun i wr => ∃ (k : Nat) (xs : List Int) (vP : Value) (a : Nat) (s : Option (List Int)), k ≤ n0 ∧ i = .int .i64 k ∧ Hid (xs.length = k ∧ 4 * k ≤ a + cr s) ∧ Hid (Rf w l (.slice av l.length cv) #[.int .i64 (n0 : Int), .int .i64 xM, .int .i64 xA, .int .i64 (n3 : Int), .int .i64 (n4 : Int), .int .i64 (n5 : Int), .int .i64 xm] q wr vP (.slice none 0 0) (.slice none 0 0) (.slice none 0 0) ⟨xs, xM, xA, [], [], [], xm⟩ a s) ∧ Hid (Fin l s (rBind (rRep (rNum 4) (n0 - k)) fun ys => fP n3 n4 n5 xM xA xm (xs ++ ys))) ∧ Hid (CdE ⟨xs, xM, xA, [], [], [], xm⟩)) (fun i _ => n0 - (intOf i).toNat)
        case atStart => exact ⟨0, [], .slice none 0 0, a, s, Nat.zero_le _, rfl, hide ⟨rfl, Nat.zero_le _⟩, XN, FN, hide CdE.nil⟩
        case round =>
          clear XN FN
          obtain ⟨k, xs, vP, a, s, hk, rfl, HS, X, FI, CE⟩ := hrel
          have c2 := blk_cell X.out.rd.at_ 2 _ rfl
          cases s with
          | none =>
            have c2 : wr.cell? ⟨w.heap.size + 1, 2, none⟩ = some (.bool false) := c2
            go_wp2_with fail
            go_meet
            case rel => exact ⟨xs, vP, a, none, X, FI, CE⟩
          | some r =>
            have c2 : wr.cell? ⟨w.heap.size + 1, 2, none⟩ = some (.bool true) := c2
            have hh := blk_cell X.out.kh 0 _ rfl
            by_cases hlt : k < n0
            · have h1 : (k : Int) < (n0 : Int) := by omega
              obtain ⟨d, hd⟩ : ∃ d, n0 - k = d + 1 := ⟨n0 - k - 1, by omega⟩
              rw [hd] at FI
              have HD := hide hd
              have FJ := hide (FI.out.rep)
              have HLEN : Hid (xs.length ≤ 60000) := hide (by have h1 := HS.out.1; have h2 := HS.out.2; have h3 := X.out.rd.al; have := HLEN.out; simp only [cr, Option.isSome_some, if_true] at h2; omega)
              obtain ⟨aP, cP, eP⟩ := X.out.cd.P.form
              replace eP : vP = .slice aP xs.length cP := eP
              subst eP
              clear FI hd
              go_wp2_with fail
              clear c2 hh
              refine wp_region_T (S := fun wz => wz.heap[q]? = some (.cells #[.slice aP xs.length cP, .int .i64 xM, .int .i64 xA, .slice none 0 0, .slice none 0 0, .int .i64 xm, .slice none 0 0] 27 (0, 0))) (fun j => decide (j < 7)) mixed X.out.kc (fun hH => ?_)
              have XD := hide (X.out.bel (bel_drawn (Below.refl _ _)))
              clear X
              generalize World.drew wr = wd at *
              refine T_move (i := 0) (v := ?_) rfl (by kernel_rfl) (by kernel_rfl) (by kernel_rfl) (fun _ _ _ h => h) (Or.inl ⟨by rfl, ?_⟩) ?_
              rotate_left 1
              · (intro w _; go_simp <;> with_reducible rfl)
              simp only [Act.put, List.getElem_toArray, List.getElem_cons_zero, List.setIfInBounds_toArray, List.set_cons_zero, List.set_cons_succ]
              refine T_take (i := 1) (v := ?_) rfl (by kernel_rfl) (by kernel_rfl) (by kernel_rfl) (by kernel_rfl) (fun _ _ _ h => h) (Or.inl ⟨by rfl, ?_⟩) hH ?_
              rotate_left 1
              · (intro w hSw; have q0 := blk_cell hSw 0 _ rfl; clear hSw; go_simp <;> with_reducible rfl)
              simp only [Act.put, List.getElem_toArray, List.getElem_cons_zero, List.getElem_cons_succ, List.setIfInBounds_toArray, List.set_cons_zero, List.set_cons_succ]
              refine T_move (i := 2) (v := ?_) rfl (by kernel_rfl) (by kernel_rfl) (by kernel_rfl) (fun _ _ _ h => h) (Or.inl ⟨by rfl, ?_⟩) ?_
              rotate_left 1
              · (intro w _; go_simp <;> with_reducible rfl)
              simp only [Act.put, List.getElem_toArray, List.getElem_cons_zero, List.getElem_cons_succ, List.setIfInBounds_toArray, List.set_cons_zero, List.set_cons_succ]
              clear hH
              refine T_ready (rs := [3]) (by kernel_rfl) (by decide) ?_
              refine AllReadyT.cons rfl (fun K1 hK1 => ?_) AllReadyT.nil
              go_simp
              refine (num_4 XD.out.rd).mono ?_
              rintro e w3 ⟨y, a', s', rfl, ySm, r3, t3, m3, f3⟩
              have X3 := hide (XD.out.num t3 r3)
              refine hK1.out _ _ (fun _ => X3.out.kc) (fun _ => ?_)
              clear hK1 K1
              have YS := hide ySm
              have MM := hide m3
              have FF := hide f3
              clear ySm m3 f3 r3 t3 XD
              refine T_ready (rs := [4]) (by kernel_rfl) (by decide) ?_
              refine AllReadyT.cons rfl (fun K1 hK1 => ?_) AllReadyT.nil
              have nb := bel_new w3 (.cells #[.int .i64 y] 3)
              go_simp
              refine hK1.out _ _ (fun _ => (nb.block _ (lt_of_blk X3.out.kc)).trans X3.out.kc) (fun _ => ?_)
              clear hK1 K1
              have X4 := hide (X3.out.bel nb)
              have E4 := hide (show (w3.alloc (.cells #[.int .i64 y] 3)).heap[w3.heap.size]? = some (.cells #[.int .i64 y] 3 (0, 0)) from Go.Deep.blk_alloc_new _ _)
              clear nb X3
              refine T_ready (rs := [5]) (by kernel_rfl) (by decide) ?_
              refine AllReadyT.cons rfl (fun K1 hK1 => ?_) AllReadyT.nil
              have PU := hide (fun ty => X4.out.pushP E4.out (by have := HLEN.out; omega) ty)
              refine step_appV (TS := 22) (.tmp 49) (.tmp 52) _ _ _ (fun ty => PU.out ty) rfl rfl rfl rfl ?_
              rintro v9 w9 ⟨⟨a9, c9, rfl⟩, k9, x9⟩
              refine hK1.out _ _ (fun _ => k9) (fun _ => ?_)
              clear hK1 K1 PU X4 E4
              refine T_move (i := 6) (v := ?_) rfl (by kernel_rfl) (by kernel_rfl) (by kernel_rfl) (fun _ _ _ h => h) (Or.inl ⟨by rfl, ?_⟩) ?_
              rotate_left 1
              · (intro w _; go_simp <;> with_reducible rfl)
              simp only [Act.put, List.getElem_toArray, List.getElem_cons_zero, List.getElem_cons_succ, List.setIfInBounds_toArray, List.set_cons_zero, List.set_cons_succ]
              refine T_ready (rs := [7]) (by kernel_rfl) (by decide) ?_
              refine AllReadyT.cons rfl (fun K1 hK1 => ?_) AllReadyT.nil
              have n1 := blk_cell k9 0 _ rfl
              have m1 := blk_frz k9 0
              go_simp
              refine hK1.out _ _ (fun h => absurd h (by decide)) (fun _ => ?_)
              clear hK1 K1 n1 m1
              refine T_done (by kernel_rfl) ?_ _
              have XF := hide x9
              clear k9 x9
              generalize w9.setCell ⟨q, 0, none⟩ (.slice a9 (xs.length + 1) c9) = w8 at *
              go_wp2_with fail
              go_roundw
              case rel => exact ⟨k + 1, xs ++ [y], _, a', s', by omega, by go_num, hide ⟨by rw [List.length_append, HS.out.1]; rfl, credit HS.out.2 MM.out⟩, XF, hide (by have := FF.out _ FJ.out; rw [show n0 - (k + 1) = d by have := HD.out; omega]; exact this), hide (CE.out.p YS.out (by have := HLEN.out; omega))⟩
              case measure => simp [intOf]; omega
            · obtain rfl : k = n0 := by omega
              rw [Nat.sub_self] at FI
              have FI2 := hide FI.out.rep0
              go_wp2_with fail
              go_meet
              case rel => exact ⟨xs, vP, a, some r, X, FI2, CE⟩
      case rest =>
        obtain ⟨P, vP, a, s, XN, FI, CE⟩ := hcut
        clear FN
        have FN : Hid (Fin l s (rBind (rRep rChan (n3 - 0)) fun ys => fC n4 n5 P xM xA xm ([] ++ ys))) := hide FI.out
        clear FI
        go_upto_block 4 with fail
        go_cut [] from 9 (fun wc => ∃ (C : List (Int × Int)) (vC : Value) (a : Nat) (s : Option (List Int)), Hid (Rf w l (.slice av l.length cv) #[.int .i64 (n0 : Int), .int .i64 xM, .int .i64 xA, .int .i64 (n3 : Int), .int .i64 (n4 : Int), .int .i64 (n5 : Int), .int .i64 xm] q wc vP vC (.slice none 0 0) (.slice none 0 0) ⟨P, xM, xA, C, [], [], xm⟩ a s) ∧ Hid (Fin l s (fC n4 n5 P xM xA xm C)) ∧ Hid (CdE ⟨P, xM, xA, C, [], [], xm⟩))
        case first =>
          go_wp2_with fail
          go_loopw [9, 10] (fun i x10 wr => ∃ (k : Nat) (xs : List (Int × Int)) (vC : Value) (a : Nat) (s : Option (List Int)), k ≤ n3 ∧ i = .int .i64 k ∧ Hid (xs.length = k ∧ 4 * k ≤ a + cr s) ∧ Hid (Rf w l (.slice av l.length cv) #[.int .i64 (n0 : Int), .int .i64 xM, .int .i64 xA, .int .i64 (n3 : Int), .int .i64 (n4 : Int), .int .i64 (n5 : Int), .int .i64 xm] q wr vP vC (.slice none 0 0) (.slice none 0 0) ⟨P, xM, xA, xs, [], [], xm⟩ a s) ∧ Hid (Fin l s (rBind (rRep rChan (n3 - k)) fun ys => fC n4 n5 P xM xA xm (xs ++ ys))) ∧ Hid (CdE ⟨P, xM, xA, xs, [], [], xm⟩)) (fun i x10 _ => n3 - (intOf i).toNat)
          case atStart => exact ⟨0, [], .slice none 0 0, a, s, Nat.zero_le _, rfl, hide ⟨rfl, Nat.zero_le _⟩, XN, FN, CE⟩
          case round =>
            clear XN FN CE
            obtain ⟨k, xs, vC, a, s, hk, rfl, HS, X, FI, CE⟩ := hrel
            have c2 := blk_cell X.out.rd.at_ 2 _ rfl
            cases s with
            | none =>
              have c2 : wr.cell? ⟨w.heap.size + 1, 2, none⟩ = some (.bool false) := c2
              go_wp2_with fail
              go_meet
              case rel => exact ⟨xs, vC, a, none, X, FI, CE⟩
            | some r =>
              have c2 : wr.cell? ⟨w.heap.size + 1, 2, none⟩ = some (.bool true) := c2
              have hh := blk_cell X.out.kh 3 _ rfl
              by_cases hlt : k < n3
              · have h1 : (k : Int) < (n3 : Int) := by omega
                obtain ⟨d, hd⟩ : ∃ d, n3 - k = d + 1 := ⟨n3 - k - 1, by omega⟩
                rw [hd] at FI
                have HD := hide hd
                have FJ := hide (chan_step FI.out)
                have HLEN : Hid (xs.length ≤ 60000) := hide (by have h1 := HS.out.1; have h2 := HS.out.2; have h3 := X.out.rd.al; have := HLEN.out; simp only [cr, Option.isSome_some, if_true] at h2; omega)
                clear FI hd
                go_wp2_with fail
                clear c2 hh
                refine (num_4 X.out.rd).mono ?_
                rintro e wr ⟨t, a1, s1, rfl, tSm, r1, t1, m1, f1⟩
                have X1 := hide (X.out.num t1 r1)
                have F1 := hide (f1 _ FJ.out)
                have TS := hide tSm
                have M1 := hide m1
                clear X FJ r1 t1 f1 tSm m1
                have X := X1
                clear X1
                obtain ⟨aC, cC, eC⟩ := X.out.cd.C.form
                replace eC : vC = .slice aC xs.length cC := eC
                subst eC
                go_wp2_with fail
                refine wp_region_T (S := fun wz => wz.heap[q]? = some (.cells #[vP, .int .i64 xM, .int .i64 xA, .slice aC xs.length cC, .slice none 0 0, .int .i64 xm, .slice none 0 0] 27 (0, 0))) (fun j => decide (j < 9)) mixed X.out.kc (fun hH => ?_)
                have XD := hide (X.out.bel (bel_drawn (Below.refl _ _)))
                clear X
                generalize World.drew wr = wd at *
                refine T_move (i := 0) (v := ?_) rfl (by kernel_rfl) (by kernel_rfl) (by kernel_rfl) (fun _ _ _ h => h) (Or.inl ⟨by rfl, ?_⟩) ?_
                rotate_left 1
                · (intro w _; go_simp <;> with_reducible rfl)
                simp only [Act.put, List.getElem_toArray, List.getElem_cons_zero, List.setIfInBounds_toArray, List.set_cons_zero, List.set_cons_succ]
                refine T_take (i := 1) (v := ?_) rfl (by kernel_rfl) (by kernel_rfl) (by kernel_rfl) (by kernel_rfl) (fun _ _ _ h => h) (Or.inl ⟨by rfl, ?_⟩) hH ?_
                rotate_left 1
                · (intro w hSw; have q3 := blk_cell hSw 3 _ rfl; clear hSw; go_simp <;> with_reducible rfl)
                simp only [Act.put, List.getElem_toArray, List.getElem_cons_zero, List.getElem_cons_succ, List.setIfInBounds_toArray, List.set_cons_zero, List.set_cons_succ]
                refine T_move (i := 2) (v := ?_) rfl (by kernel_rfl) (by kernel_rfl) (by kernel_rfl) (fun _ _ _ h => h) (Or.inl ⟨by rfl, ?_⟩) ?_
                rotate_left 1
                · (intro w _; go_simp <;> with_reducible rfl)
                simp only [Act.put, List.getElem_toArray, List.getElem_cons_zero, List.getElem_cons_succ, List.setIfInBounds_toArray, List.set_cons_zero, List.set_cons_succ]
                refine T_move (i := 3) (v := ?_) rfl (by kernel_rfl) (by kernel_rfl) (by kernel_rfl) (fun _ _ _ h => h) (Or.inl ⟨by rfl, ?_⟩) ?_
                rotate_left 1
                · (intro w _; go_simp <;> with_reducible rfl)
                simp only [Act.put, List.getElem_toArray, List.getElem_cons_zero, List.getElem_cons_succ, List.setIfInBounds_toArray, List.set_cons_zero, List.set_cons_succ]
                clear hH
                refine T_ready (rs := [4]) (by kernel_rfl) (by decide) ?_
                refine AllReadyT.cons rfl (fun K1 hK1 => ?_) AllReadyT.nil
                go_simp
                refine (num_4 XD.out.rd).mono ?_
                rintro e w3 ⟨y, a', s', rfl, ySm, r3, t3, m3, f3⟩
                have X3 := hide (XD.out.num t3 r3)
                refine hK1.out _ _ (fun _ => X3.out.kc) (fun _ => ?_)
                clear hK1 K1
                have YS := hide ySm
                have MM := hide m3
                have FF := hide f3
                clear ySm m3 f3 r3 t3 XD
                refine T_move (i := 5) (v := ?_) rfl (by kernel_rfl) (by kernel_rfl) (by kernel_rfl) (fun _ _ _ h => h) (Or.inl ⟨by rfl, ?_⟩) ?_
                rotate_left 1
                · (intro w _; go_simp <;> with_reducible rfl)
                simp only [Act.put, List.getElem_toArray, List.getElem_cons_zero, List.getElem_cons_succ, List.setIfInBounds_toArray, List.set_cons_zero, List.set_cons_succ]
                refine T_ready (rs := [6]) (by kernel_rfl) (by decide) ?_
                refine AllReadyT.cons rfl (fun K1 hK1 => ?_) AllReadyT.nil
                have nb := bel_new w3 (.cells #[.int .i64 t, .int .i64 y] 56)
                go_simp
                refine hK1.out _ _ (fun _ => (nb.block _ (lt_of_blk X3.out.kc)).trans X3.out.kc) (fun _ => ?_)
                clear hK1 K1
                have X4 := hide (X3.out.bel nb)
                have E4 := hide (show (w3.alloc (.cells #[.int .i64 t, .int .i64 y] 56)).heap[w3.heap.size]? = some (.cells #[.int .i64 t, .int .i64 y] 56 (0, 0)) from Go.Deep.blk_alloc_new _ _)
                clear nb X3
                refine T_ready (rs := [7]) (by kernel_rfl) (by decide) ?_
                refine AllReadyT.cons rfl (fun K1 hK1 => ?_) AllReadyT.nil
                have PU := hide (fun ty => X4.out.pushC (x := (t, y)) E4.out (by have := HLEN.out; omega) ty)
                refine step_appV (TS := 23) (.tmp 70) (.tmp 75) _ _ _ (fun ty => PU.out ty) rfl rfl rfl rfl ?_
                rintro v9 w9 ⟨⟨a9, c9, rfl⟩, k9, x9⟩
                refine hK1.out _ _ (fun _ => k9) (fun _ => ?_)
                clear hK1 K1 PU X4 E4
                refine T_move (i := 8) (v := ?_) rfl (by kernel_rfl) (by kernel_rfl) (by kernel_rfl) (fun _ _ _ h => h) (Or.inl ⟨by rfl, ?_⟩) ?_
                rotate_left 1
                · (intro w _; go_simp <;> with_reducible rfl)
                simp only [Act.put, List.getElem_toArray, List.getElem_cons_zero, List.getElem_cons_succ, List.setIfInBounds_toArray, List.set_cons_zero, List.set_cons_succ]
                refine T_ready (rs := [9]) (by kernel_rfl) (by decide) ?_
                refine AllReadyT.cons rfl (fun K1 hK1 => ?_) AllReadyT.nil
                have n1 := blk_cell k9 3 _ rfl
                have m1 := blk_frz k9 3
                go_simp
                refine hK1.out _ _ (fun h => absurd h (by decide)) (fun _ => ?_)
                clear hK1 K1 n1 m1
                refine T_done (by kernel_rfl) ?_ _
                have XF := hide x9
                clear k9 x9
                generalize w9.setCell ⟨q, 3, none⟩ (.slice a9 (xs.length + 1) c9) = w8 at *
                go_wp2_with fail
                go_roundw
                case rel => exact ⟨k + 1, xs ++ [(t, y)], _, a', s', by omega, by go_num, hide ⟨by rw [List.length_append, HS.out.1]; rfl, credits HS.out.2 (more2 M1.out MM.out)⟩, XF, hide (by have := FF.out _ F1.out; rw [show n3 - (k + 1) = d by have := HD.out; omega]; exact this), hide (CE.out.c ⟨TS.out, YS.out⟩ (by have := HLEN.out; omega))⟩
                case measure => simp [intOf]; omega
              · obtain rfl : k = n3 := by omega
                rw [Nat.sub_self] at FI
                have FI2 := hide FI.out.rep0
                go_wp2_with fail
                go_meet
                case rel => exact ⟨xs, vC, a, some r, X, FI2, CE⟩
        case rest =>
          obtain ⟨C, vC, a, s, XN, FI, CE⟩ := hcut
          clear FN
          have FN : Hid (Fin l s (rBind (rRep rFn (n4 - 0)) fun ys => fF n5 P xM xA C xm ([] ++ ys))) := hide FI.out
          clear FI
          go_upto_block 6 with fail
          go_cut [] from 11 (fun wc => ∃ (F : List Fn3) (vF : Value) (a : Nat) (s : Option (List Int)), Hid (Rf w l (.slice av l.length cv) #[.int .i64 (n0 : Int), .int .i64 xM, .int .i64 xA, .int .i64 (n3 : Int), .int .i64 (n4 : Int), .int .i64 (n5 : Int), .int .i64 xm] q wc vP vC vF (.slice none 0 0) ⟨P, xM, xA, C, F, [], xm⟩ a s) ∧ Hid (Fin l s (fF n5 P xM xA C xm F)) ∧ Hid (CdE ⟨P, xM, xA, C, F, [], xm⟩))
          case first =>
            go_wp2_with fail
            go_loopw [11, 12, 13, 14] (fun i x12 x13 x14 wr => ∃ (k : Nat) (xs : List Fn3) (vF : Value) (a : Nat) (s : Option (List Int)), k ≤ n4 ∧ i = .int .i64 k ∧ Hid (xs.length = k ∧ 4 * k ≤ a + cr s) ∧ Hid (Rf w l (.slice av l.length cv) #[.int .i64 (n0 : Int), .int .i64 xM, .int .i64 xA, .int .i64 (n3 : Int), .int .i64 (n4 : Int), .int .i64 (n5 : Int), .int .i64 xm] q wr vP vC vF (.slice none 0 0) ⟨P, xM, xA, C, xs, [], xm⟩ a s) ∧ Hid (Fin l s (rBind (rRep rFn (n4 - k)) fun ys => fF n5 P xM xA C xm (xs ++ ys))) ∧ Hid (CdE ⟨P, xM, xA, C, xs, [], xm⟩)) (fun i x12 x13 x14 _ => n4 - (intOf i).toNat)
            case atStart => exact ⟨0, [], .slice none 0 0, a, s, Nat.zero_le _, rfl, hide ⟨rfl, Nat.zero_le _⟩, XN, FN, CE⟩
            case round =>
              clear XN FN CE
              obtain ⟨k, xs, vF, a, s, hk, rfl, HS, X, FI, CE⟩ := hrel
              have c2 := blk_cell X.out.rd.at_ 2 _ rfl
              cases s with
              | none =>
                have c2 : wr.cell? ⟨w.heap.size + 1, 2, none⟩ = some (.bool false) := c2
                go_wp2_with fail
                go_meet
                case rel => exact ⟨xs, vF, a, none, X, FI, CE⟩
              | some r =>
                have c2 : wr.cell? ⟨w.heap.size + 1, 2, none⟩ = some (.bool true) := c2
                have hh := blk_cell X.out.kh 4 _ rfl
                by_cases hlt : k < n4
                · have h1 : (k : Int) < (n4 : Int) := by omega
                  obtain ⟨d, hd⟩ : ∃ d, n4 - k = d + 1 := ⟨n4 - k - 1, by omega⟩
                  rw [hd] at FI
                  have HD := hide hd
                  have FJ := hide (fn_step FI.out)
                  have HXL : Hid (xs.length ≤ 60000) := hide (by have h1 := HS.out.1; have h2 := HS.out.2; have h3 := X.out.rd.al; have := HLEN.out; simp only [cr, Option.isSome_some, if_true] at h2; omega)
                  have nb := bel_new wr (.cells #[.int .i64 0, .int .i64 0, .slice none 0 0] 47)
                  have Y0 : Hid (Lf w wr l (.slice av l.length cv) wr.heap.size (wr.alloc (.cells #[.int .i64 0, .int .i64 0, .slice none 0 0] 47)) 0 0 (.slice none 0 0) [] a (some r)) := hide ⟨rfl, X.out.rd.BW, Go.Deep.blk_alloc_new _ _, World.ownsRow_nil _ _ _ _, X.out.rd.bel nb, Tn.of_bel nb⟩
                  clear FI hd nb
                  go_wp2_with fail
                  clear c2 hh
                  generalize wr.alloc (.cells #[.int .i64 0, .int .i64 0, .slice none 0 0] 47) = wq at *
                  generalize hgf : wr.heap.size = gf at *
                  have HGF := hide hgf
                  clear hgf
                  refine (num_4 Y0.out.r).mono ?_
                  rintro e w2 ⟨st, a1, s1, rfl, stS, r1, t1, m1, f1⟩
                  have Y1 := hide (Y0.out.num t1 r1)
                  have F1 := hide (f1 _ FJ.out)
                  have M1 := hide m1
                  have S1 := hide stS
                  clear Y0 FJ r1 t1 f1 m1 stS
                  have q0 := blk_cell Y1.out.k 0 _ rfl
                  have z0 := blk_frz Y1.out.k 0
                  have Y2 := hide (Y1.out.set (i := 0) (v := .int .i64 st) (st' := st) (pa' := 0) rfl)
                  clear Y1
                  go_wp2_with fail
                  clear q0 z0
                  generalize w2.setCell ⟨gf, 0, none⟩ (.int .i64 st) = w3 at *
                  refine (num_4 Y2.out.r).mono ?_
                  rintro e w4 ⟨pa, a2, s2, rfl, paS, r2, t2, m2, f2⟩
                  have Y3 := hide (Y2.out.num t2 r2)
                  have F2 := hide (f2 _ F1.out)
                  have M2 := hide (more2 M1.out m2)
                  have S2 := hide paS
                  clear Y2 F1 r2 t2 f2 m2 paS M1
                  have q0 := blk_cell Y3.out.k 1 _ rfl
                  have z0 := blk_frz Y3.out.k 1
                  have Y4 := hide (Y3.out.set (i := 1) (v := .int .i64 pa) (st' := st) (pa' := pa) rfl)
                  clear Y3
                  go_wp2_with fail
                  clear q0 z0
                  generalize w4.setCell ⟨gf, 1, none⟩ (.int .i64 pa) = w5 at *
                  refine (num_4 Y4.out.r).mono ?_
                  rintro e w6 ⟨nz, a3, s3, rfl, nzS, r3, t3, m3, f3⟩
                  obtain ⟨nn, rfl, _⟩ := nat_of nzS
                  have Y5 := hide (Y4.out.num t3 r3)
                  have F3 : Hid (Fin l s3 (rBind (rRep (rNum 4) (nn - 0)) fun ys => fLo d n5 P xM xA C xm xs st pa ([] ++ ys))) := hide (f3 _ F2.out)
                  have M3 := hide (more2 M2.out m3)
                  clear Y4 F2 r3 t3 f3 m3 nzS M2
                  obtain ⟨wo, rfl⟩ : ∃ wo : World, wo = wr := ⟨_, rfl⟩
                  go_upto_block 8 with fail
                  go_cut [14] from 99 to 116 (fun x14 wc => ∃ (lo : List Int) (vl : Value) (a' : Nat) (s' : Option (List Int)), Hid (Lf w wo l (.slice av l.length cv) gf wc st pa vl lo a' s') ∧ Hid (Fin l s' (fLo d n5 P xM xA C xm xs st pa lo)) ∧ Hid (lo.length ≤ 100000 ∧ ∀ x ∈ lo, Sm x) ∧ Hid (a ≤ a' ∧ (s'.isSome = true → a + 4 ≤ a')))
                  case first =>
                    go_wp2_with fail
                    go_loopw [14] (fun i wr => ∃ (j : Nat) (lo : List Int) (vl : Value) (a' : Nat) (s' : Option (List Int)), j ≤ nn ∧ i = .int .i64 j ∧ Hid (lo.length = j ∧ 4 * j ≤ a' + cr s') ∧ Hid (Lf w wo l (.slice av l.length cv) gf wr st pa vl lo a' s') ∧ Hid (Fin l s' (rBind (rRep (rNum 4) (nn - j)) fun ys => fLo d n5 P xM xA C xm xs st pa (lo ++ ys))) ∧ Hid (∀ x ∈ lo, Sm x) ∧ Hid (a ≤ a' ∧ (s'.isSome = true → a + 4 ≤ a'))) (fun i _ => nn - (intOf i).toNat)
                    case atStart => exact ⟨0, [], .slice none 0 0, a3, s3, Nat.zero_le _, rfl, hide ⟨rfl, Nat.zero_le _⟩, Y5, F3, hide (fun _ h => (by cases h)), hide ⟨M3.out.1, fun h => by have := (M3.out.2 h).2; omega⟩⟩
                    case round =>
                      clear Y5 F3 M3
                      obtain ⟨j, lo, vl, a', s', hj, rfl, HJ, X, FI, LS, MO⟩ := hrel
                      have HL2 : Hid (lo.length ≤ 60000) := hide (by have h1 := HJ.out.1; have h2 := HJ.out.2; have h3 := X.out.r.al; have := HLEN.out; unfold cr at h2; split at h2 <;> omega)
                      have c2 := blk_cell X.out.r.at_ 2 _ rfl
                      cases s' with
                      | none =>
                        have c2 : wr.cell? ⟨w.heap.size + 1, 2, none⟩ = some (.bool false) := c2
                        go_wp2_with fail
                        go_meet
                        case rel => exact ⟨lo, vl, a', none, X, hide FI.out.none, hide ⟨by have := HL2.out; omega, LS.out⟩, MO⟩
                      | some r' =>
                        have c2 : wr.cell? ⟨w.heap.size + 1, 2, none⟩ = some (.bool true) := c2
                        by_cases hjt : j < nn
                        · have h2 : (j : Int) < (nn : Int) := by omega
                          obtain ⟨d2, hd2⟩ : ∃ d2, nn - j = d2 + 1 := ⟨nn - j - 1, by omega⟩
                          rw [hd2] at FI
                          have HD2 := hide hd2
                          have FJ2 := hide (FI.out.rep)
                          have HLEN2 := HL2
                          obtain ⟨al, cl, el, _⟩ := own_slice X.out.o
                          subst el
                          clear FI hd2
                          go_wp2_with fail
                          clear c2
                          refine wp_region_T (S := fun wz => wz.heap[gf]? = some (.cells #[.int .i64 st, .int .i64 pa, .slice al lo.length cl] 47 (0, 0))) (fun j => decide (j < 7)) mixed X.out.k (fun hH => ?_)
                          have XD := hide (X.out.bel (bel_drawn (Below.refl _ _)))
                          clear X
                          generalize World.drew wr = wd at *
                          refine T_move (i := 0) (v := ?_) rfl (by kernel_rfl) (by kernel_rfl) (by kernel_rfl) (fun _ _ _ h => h) (Or.inl ⟨by rfl, ?_⟩) ?_
                          rotate_left 1
                          · (intro w _; go_simp <;> with_reducible rfl)
                          simp only [Act.put, List.getElem_toArray, List.getElem_cons_zero, List.setIfInBounds_toArray, List.set_cons_zero, List.set_cons_succ]
                          refine T_take (i := 1) (v := ?_) rfl (by kernel_rfl) (by kernel_rfl) (by kernel_rfl) (by kernel_rfl) (fun _ _ _ h => h) (Or.inl ⟨by rfl, ?_⟩) hH ?_
                          rotate_left 1
                          · (intro w hSw; have q2 := blk_cell hSw 2 _ rfl; clear hSw; go_simp <;> with_reducible rfl)
                          simp only [Act.put, List.getElem_toArray, List.getElem_cons_zero, List.getElem_cons_succ, List.setIfInBounds_toArray, List.set_cons_zero, List.set_cons_succ]
                          refine T_move (i := 2) (v := ?_) rfl (by kernel_rfl) (by kernel_rfl) (by kernel_rfl) (fun _ _ _ h => h) (Or.inl ⟨by rfl, ?_⟩) ?_
                          rotate_left 1
                          · (intro w _; go_simp <;> with_reducible rfl)
                          simp only [Act.put, List.getElem_toArray, List.getElem_cons_zero, List.getElem_cons_succ, List.setIfInBounds_toArray, List.set_cons_zero, List.set_cons_succ]
                          clear hH
                          refine T_ready (rs := [3]) (by kernel_rfl) (by decide) ?_
                          refine AllReadyT.cons rfl (fun K1 hK1 => ?_) AllReadyT.nil
                          go_simp
                          refine (num_4 XD.out.r).mono ?_
                          rintro e w3 ⟨y, a', s', rfl, ySm, r3, t3, m3, f3⟩
                          have X3 := hide (XD.out.num t3 r3)
                          refine hK1.out _ _ (fun _ => X3.out.k) (fun _ => ?_)
                          clear hK1 K1
                          have YS := hide ySm
                          have MM := hide m3
                          have FF := hide f3
                          clear ySm m3 f3 r3 t3 XD
                          refine T_ready (rs := [4]) (by kernel_rfl) (by decide) ?_
                          refine AllReadyT.cons rfl (fun K1 hK1 => ?_) AllReadyT.nil
                          have nb := bel_new w3 (.cells #[.int .i64 y] 3)
                          go_simp
                          refine hK1.out _ _ (fun _ => (nb.block _ (lt_of_blk X3.out.k)).trans X3.out.k) (fun _ => ?_)
                          clear hK1 K1
                          have X4 := hide (X3.out.bel nb)
                          have E4 := hide (show (w3.alloc (.cells #[.int .i64 y] 3)).heap[w3.heap.size]? = some (.cells #[.int .i64 y] 3 (0, 0)) from Go.Deep.blk_alloc_new _ _)
                          clear nb X3
                          refine T_ready (rs := [5]) (by kernel_rfl) (by decide) ?_
                          refine AllReadyT.cons rfl (fun K1 hK1 => ?_) AllReadyT.nil
                          have PU := hide (fun ty => X4.out.push E4.out (by have := HLEN2.out; omega) ty)
                          refine step_appV (TS := 22) (.tmp 111) (.tmp 114) _ _ _ (fun ty => PU.out ty) rfl rfl rfl rfl ?_
                          rintro v9 w9 ⟨⟨a9, c9, rfl⟩, k9, x9⟩
                          refine hK1.out _ _ (fun _ => k9) (fun _ => ?_)
                          clear hK1 K1 PU X4 E4
                          refine T_move (i := 6) (v := ?_) rfl (by kernel_rfl) (by kernel_rfl) (by kernel_rfl) (fun _ _ _ h => h) (Or.inl ⟨by rfl, ?_⟩) ?_
                          rotate_left 1
                          · (intro w _; go_simp <;> with_reducible rfl)
                          simp only [Act.put, List.getElem_toArray, List.getElem_cons_zero, List.getElem_cons_succ, List.setIfInBounds_toArray, List.set_cons_zero, List.set_cons_succ]
                          refine T_ready (rs := [7]) (by kernel_rfl) (by decide) ?_
                          refine AllReadyT.cons rfl (fun K1 hK1 => ?_) AllReadyT.nil
                          have n1 := blk_cell k9 2 _ rfl
                          have m1 := blk_frz k9 2
                          go_simp
                          refine hK1.out _ _ (fun h => absurd h (by decide)) (fun _ => ?_)
                          clear hK1 K1 n1 m1
                          refine T_done (by kernel_rfl) ?_ _
                          have XF := hide x9
                          clear k9 x9
                          generalize w9.setCell ⟨gf, 2, none⟩ (.slice a9 (lo.length + 1) c9) = w8 at *
                          go_wp2_with fail
                          go_roundw
                          case rel => exact ⟨j + 1, lo ++ [y], _, _, s', by omega, by go_num, hide ⟨by rw [List.length_append, HJ.out.1]; rfl, credit HJ.out.2 MM.out⟩, XF, hide (by have := FF.out _ FJ2.out; rw [show nn - (j + 1) = d2 by have := HD2.out; omega]; exact this), hide (mem_snoc LS.out YS.out), hide ⟨Nat.le_trans MO.out.1 MM.out.1, fun h => by have := (MM.out.2 h).2; have := MO.out.2 rfl; omega⟩⟩
                          case measure => simp [intOf]; omega
                        · obtain rfl : j = nn := by omega
                          rw [Nat.sub_self] at FI
                          have FI2 := hide FI.out.rep0
                          go_wp2_with fail
                          go_meet
                          case rel => exact ⟨lo, vl, a', some r', X, FI2, hide ⟨by have := HL2.out; omega, LS.out⟩, MO⟩
                  case rest =>
                    obtain ⟨lo, vl, a', s', Y, FZ, LQ, MO⟩ := hcut
                    clear Y5 F3 M3
                    have XR := hide (X.out.num Y.out.t Y.out.r)
                    obtain ⟨aF, cF, eF⟩ := X.out.cd.F.form
                    replace eF : vF = .slice aF xs.length cF := eF
                    obtain ⟨al, cl, el, _⟩ := own_slice Y.out.o
                    subst eF el
                    have hqg : q + 1 ≤ gf + 1 := by have := lt_of_blk X.out.kc; have := HGF.out; omega
                    have nb := bel_new wc (.cells #[.int .i64 st, .int .i64 pa, .slice al lo.length cl] 47)
                    have PU := hide (fun ty => (XR.out.bel nb).pushF (x := ⟨st, pa, lo⟩) (Go.Deep.blk_alloc_new wc (.cells #[.int .i64 st, .int .i64 pa, .slice al lo.length cl] 47)) (own_low (own_keep Y.out.o (fun k hk => nb.block k (own_type Y.out.o hk).2.1)) hqg) (by have := HXL.out; omega) ty)
                    have q4 := blk_cell XR.out.kc 4 _ rfl
                    have f0 := blk_cell Y.out.k 0 _ rfl
                    have f1 := blk_cell Y.out.k 1 _ rfl
                    have f2 := blk_cell Y.out.k 2 _ rfl
                    clear X Y XR nb hqg
                    go_wp2_with (first | (at_builtin; refine wpList_appG (TS := 24) (.tmp 118) (.tmp 120) _ _ _ PU.out rfl rfl rfl rfl ?_; rintro v9 w9 ⟨⟨a9, c9, rfl⟩, k9, x9⟩; clear q4 f0 f1 f2 PU; have n1 := blk_cell k9 4 _ rfl; have m1 := blk_frz k9 4))
                    go_roundw
                    case rel => exact ⟨k + 1, xs ++ [⟨st, pa, lo⟩], _, a', s', by omega, by go_num, hide ⟨by rw [List.length_append, HS.out.1]; rfl, creditM HS.out.2 MO.out⟩, hide x9, hide (by rw [show n4 - (k + 1) = d by have := HD.out; omega]; exact FZ.out), hide (CE.out.f ⟨LQ.out.1, LQ.out.2⟩ (by have := HXL.out; omega))⟩
                    case measure => simp [intOf]; omega
                · obtain rfl : k = n4 := by omega
                  rw [Nat.sub_self] at FI
                  have FI2 := hide FI.out.rep0
                  go_wp2_with fail
                  go_meet
                  case rel => exact ⟨xs, vF, a, some r, X, FI2, CE⟩
          case rest =>
            obtain ⟨F, vF, a, s, XN, FI, CE⟩ := hcut
            clear FN
            have FN : Hid (Fin l s (rBind (rRep rIns (n5 - 0)) fun ys => fB P xM xA C F xm ([] ++ ys))) := hide FI.out
            clear FI
            go_upto_block 10 with fail
            go_cut [] from 15 (fun wc => ∃ (B : List In5) (vB : Value) (a : Nat) (s : Option (List Int)), Hid (Rf w l (.slice av l.length cv) #[.int .i64 (n0 : Int), .int .i64 xM, .int .i64 xA, .int .i64 (n3 : Int), .int .i64 (n4 : Int), .int .i64 (n5 : Int), .int .i64 xm] q wc vP vC vF vB ⟨P, xM, xA, C, F, B, xm⟩ a s) ∧ Hid (Fin l s (fB P xM xA C F xm B)) ∧ Hid (CdE ⟨P, xM, xA, C, F, B, xm⟩))
            case first =>
              go_wp2_with fail
              go_loopw [15, 16] (fun i x16 wr => ∃ (k : Nat) (xs : List In5) (vB : Value) (a : Nat) (s : Option (List Int)), k ≤ n5 ∧ i = .int .i64 k ∧ Hid (xs.length = k ∧ 4 * k ≤ a + cr s) ∧ Hid (Rf w l (.slice av l.length cv) #[.int .i64 (n0 : Int), .int .i64 xM, .int .i64 xA, .int .i64 (n3 : Int), .int .i64 (n4 : Int), .int .i64 (n5 : Int), .int .i64 xm] q wr vP vC vF vB ⟨P, xM, xA, C, F, xs, xm⟩ a s) ∧ Hid (Fin l s (rBind (rRep rIns (n5 - k)) fun ys => fB P xM xA C F xm (xs ++ ys))) ∧ Hid (CdE ⟨P, xM, xA, C, F, xs, xm⟩)) (fun i x16 _ => n5 - (intOf i).toNat)
              case atStart => exact ⟨0, [], .slice none 0 0, a, s, Nat.zero_le _, rfl, hide ⟨rfl, Nat.zero_le _⟩, XN, FN, CE⟩
              case round =>
                clear XN FN CE
                obtain ⟨k, xs, vB, a, s, hk, rfl, HS, X, FI, CE⟩ := hrel
                have c2 := blk_cell X.out.rd.at_ 2 _ rfl
                cases s with
                | none =>
                  have c2 : wr.cell? ⟨w.heap.size + 1, 2, none⟩ = some (.bool false) := c2
                  go_wp2_with fail
                  go_meet
                  case rel => exact ⟨xs, vB, a, none, X, FI, CE⟩
                | some r =>
                  have c2 : wr.cell? ⟨w.heap.size + 1, 2, none⟩ = some (.bool true) := c2
                  have hh := blk_cell X.out.kh 5 _ rfl
                  by_cases hlt : k < n5
                  · have h1 : (k : Int) < (n5 : Int) := by omega
                    obtain ⟨d, hd⟩ : ∃ d, n5 - k = d + 1 := ⟨n5 - k - 1, by omega⟩
                    rw [hd] at FI
                    have HD := hide hd
                    have FJ := hide (ins_step FI.out)
                    have HXL : Hid (xs.length ≤ 60000) := hide (by have h1 := HS.out.1; have h2 := HS.out.2; have h3 := X.out.rd.al; have := HLEN.out; simp only [cr, Option.isSome_some, if_true] at h2; omega)
                    have nb := bel_new wr (.cells #[.int .i64 0, .int .i64 0, .int .i64 0, .int .u64 0, .int .i64 0] 50)
                    have Y0 : Hid (Li w wr l (.slice av l.length cv) wr.heap.size (wr.alloc (.cells #[.int .i64 0, .int .i64 0, .int .i64 0, .int .u64 0, .int .i64 0] 50)) ⟨0, 0, 0, 0, 0⟩ a (some r)) := hide ⟨rfl, X.out.rd.BW, Go.Deep.blk_alloc_new _ _, X.out.rd.bel nb, Tn.of_bel nb⟩
                    clear FI hd nb
                    go_wp2_with fail
                    clear c2 hh
                    generalize wr.alloc (.cells #[.int .i64 0, .int .i64 0, .int .i64 0, .int .u64 0, .int .i64 0] 50) = wq at *
                    generalize hgf : wr.heap.size = gf at *
                    have HGF := hide hgf
                    clear hgf
                    refine (num_q Y0.out.r 1 (by omega) (by omega)).mono ?_
                    rintro e w2 ⟨op, a1, s1, rfl, opS, r1, t1, m1, f1⟩
                    rw [p256_1] at opS
                    rw [show wrap64 op = op by unfold wrap64; omega]
                    have Y1 := hide (Y0.out.num t1 r1)
                    have F1 := hide (f1 _ FJ.out)
                    have M1 := hide m1
                    have S1 := hide opS
                    clear Y0 FJ r1 t1 f1 m1 opS
                    have q0 := blk_cell Y1.out.k 0 _ rfl
                    have z0 := blk_frz Y1.out.k 0
                    have Y2 := hide (Y1.out.set (i := 0) (v := .int .i64 op) (x' := ⟨op, 0, 0, 0, 0⟩) rfl)
                    clear Y1
                    go_wp2_with fail
                    clear q0 z0
                    generalize w2.setCell ⟨gf, 0, none⟩ (.int .i64 op) = w3 at *
                    refine (num_q Y2.out.r 8 (by omega) (by omega)).mono ?_
                    rintro e w4 ⟨ya, a2, s2, rfl, yaS, r2, t2, m2, f2⟩
                    have Y3 := hide (Y2.out.num t2 r2)
                    have F2 := hide (f2 _ F1.out)
                    have M2 := hide (more2 M1.out m2)
                    clear Y2 F1 r2 t2 f2 m2 yaS M1
                    have LA := hide (show -9223372036854775808 ≤ wrap64 ya ∧ wrap64 ya < 9223372036854775808 by unfold wrap64; omega)
                    generalize wrap64 ya = xa at *
                    have q0 := blk_cell Y3.out.k 1 _ rfl
                    have z0 := blk_frz Y3.out.k 1
                    have Y4 := hide (Y3.out.set (i := 1) (v := .int .i64 xa) (x' := ⟨op, xa, 0, 0, 0⟩) rfl)
                    clear Y3
                    go_wp2_with fail
                    clear q0 z0
                    generalize w4.setCell ⟨gf, 1, none⟩ (.int .i64 xa) = w5 at *
                    refine (num_4 Y4.out.r).mono ?_
                    rintro e w6 ⟨xb, a3, s3, rfl, xbS, r3, t3, m3, f3⟩
                    have Y5 := hide (Y4.out.num t3 r3)
                    have F3 := hide (f3 _ F2.out)
                    have M3 := hide (more2 M2.out m3)
                    clear Y4 F2 r3 t3 f3 m3 xbS M2
                    have q0 := blk_cell Y5.out.k 2 _ rfl
                    have z0 := blk_frz Y5.out.k 2
                    have Y6 := hide (Y5.out.set (i := 2) (v := .int .i64 xb) (x' := ⟨op, xa, xb, 0, 0⟩) rfl)
                    clear Y5
                    go_wp2_with fail
                    clear q0 z0
                    generalize w6.setCell ⟨gf, 2, none⟩ (.int .i64 xb) = w7 at *
                    refine (num_q Y6.out.r 8 (by omega) (by omega)).mono ?_
                    rintro e w8 ⟨yt, a4, s4, rfl, ytS, r4, t4, m4, f4⟩
                    rw [p256_8] at ytS
                    have et : IntKind.u64.wrap (wrap64 yt) = yt := by rw [IntKind.wrap_u64]; unfold wrap64; omega
                    have LT := hide ytS
                    have Y7 := hide (Y6.out.num t4 r4)
                    have F4 := hide (f4 _ F3.out)
                    have M4 := hide (more2 M3.out m4)
                    clear Y6 F3 r4 t4 f4 m4 ytS M3
                    generalize wrap64 yt = zt at *
                    have q0 := blk_cell Y7.out.k 3 _ rfl
                    have z0 := blk_frz Y7.out.k 3
                    have Y8 := hide (Y7.out.set (i := 3) (v := .int .u64 yt) (x' := ⟨op, xa, xb, yt, 0⟩) rfl)
                    clear Y7
                    go_wp2_with fail
                    clear q0 z0 et
                    generalize w8.setCell ⟨gf, 3, none⟩ (.int .u64 yt) = w9 at *
                    refine (num_4 Y8.out.r).mono ?_
                    rintro e wA ⟨xk, a5, s5, rfl, xkS, r5, t5, m5, f5⟩
                    have Y9 := hide (Y8.out.num t5 r5)
                    have F5 := hide (f5 _ F4.out)
                    have M5 := hide (more2 M4.out m5)
                    clear Y8 F4 r5 t5 f5 m5 xkS M4
                    have q0 := blk_cell Y9.out.k 4 _ rfl
                    have z0 := blk_frz Y9.out.k 4
                    have YA := hide (Y9.out.set (i := 4) (v := .int .i64 xk) (x' := ⟨op, xa, xb, yt, xk⟩) rfl)
                    clear Y9
                    go_upto_region 39 with fail
                    clear q0 z0
                    generalize wA.setCell ⟨gf, 4, none⟩ (.int .i64 xk) = wB at *
                    have XR := hide (X.out.num YA.out.t YA.out.r)
                    obtain ⟨aB, cB, eB⟩ := X.out.cd.B.form
                    replace eB : vB = .slice aB xs.length cB := eB
                    subst eB
                    have nb := bel_new wB (.cells #[.int .i64 op, .int .i64 xa, .int .i64 xb, .int .u64 yt, .int .i64 xk] 50)
                    have PU := hide (fun ty => (XR.out.bel nb).pushB (x := ⟨op, xa, xb, yt, xk⟩) (Go.Deep.blk_alloc_new wB (.cells #[.int .i64 op, .int .i64 xa, .int .i64 xb, .int .u64 yt, .int .i64 xk] 50)) (by have := HXL.out; omega) ty)
                    have q6 := blk_cell XR.out.kc 6 _ rfl
                    have g0 := blk_cell YA.out.k 0 _ rfl
                    have g1 := blk_cell YA.out.k 1 _ rfl
                    have g2 := blk_cell YA.out.k 2 _ rfl
                    have g3 := blk_cell YA.out.k 3 _ rfl
                    have g4 := blk_cell YA.out.k 4 _ rfl
                    have IX : Hid (InX ⟨op, xa, xb, yt, xk⟩) := hide ⟨⟨LA.out.2, LT.out.1, LT.out.2⟩, by have := S1.out.1; show _ ≤ op; omega, by have := S1.out.2; show op ≤ _; omega⟩
                    clear X YA XR nb LA LT S1
                    go_wp2_with (first | (at_builtin; refine wpList_appG (TS := 25) (.tmp 153) (.tmp 155) _ _ _ PU.out rfl rfl rfl rfl ?_; rintro v9 w9 ⟨⟨a9, c9, rfl⟩, k9, x9⟩; clear q6 g0 g1 g2 g3 g4 PU; have n1 := blk_cell k9 6 _ rfl; have m1 := blk_frz k9 6))
                    go_roundw
                    case rel => exact ⟨k + 1, xs ++ [⟨op, xa, xb, yt, xk⟩], _, a5, s5, by omega, by go_num, hide ⟨by rw [List.length_append, HS.out.1]; rfl, credits HS.out.2 M5.out⟩, hide x9, hide (by rw [show n5 - (k + 1) = d by have := HD.out; omega]; exact F5.out), hide (CE.out.b IX.out (by have := HXL.out; omega))⟩
                    case measure => simp [intOf]; omega
                  · obtain rfl : k = n5 := by omega
                    rw [Nat.sub_self] at FI
                    have FI2 := hide FI.out.rep0
                    go_wp2_with fail
                    go_meet
                    case rel => exact ⟨xs, vB, a, some r, X, FI2, CE⟩
            case rest =>
              obtain ⟨B, vB, a, s, X, FI, CE⟩ := hcut
              clear FN XN
              have HB := hide (fin_code (c := ⟨P, xM, xA, C, F, B, xm⟩) FI.out)
              clear FI
              have c2 := blk_cell X.out.rd.at_ 2 _ rfl
              have c1 := blk_cell X.out.rd.at_ 1 _ rfl
              have y0 := blk_cell X.out.kz 0 _ rfl
              obtain ⟨aP, cP, eP⟩ := X.out.cd.P.form
              obtain ⟨aC, cC, eC⟩ := X.out.cd.C.form
              obtain ⟨aF, cF, eF⟩ := X.out.cd.F.form
              obtain ⟨aB, cB, eB⟩ := X.out.cd.B.form
              replace eP : vP = .slice aP P.length cP := eP
              replace eC : vC = .slice aC C.length cC := eC
              replace eF : vF = .slice aF F.length cF := eF
              replace eB : vB = .slice aB B.length cB := eB
              subst eP eC eF eB
              have hal := X.out.rd.al
              have hrest := X.out.rd.rest
              have KZ0 := X.out.kz
              have KZ := hide KZ0
              obtain ⟨z0, z1, z2, z3, z4, z5, z6⟩ := cells7 KZ0
              have fz := fun i => blk_frz KZ0 i
              have fz0 := fz 0
              have fz1 := fz 1
              have fz2 := fz 2
              have fz3 := fz 3
              have fz4 := fz 4
              have fz5 := fz 5
              have fz6 := fz 6
              obtain ⟨y, ty⟩ := set7 KZ0 (.slice none 0 0) (.int .i64 0) (.int .i64 0) (.slice none 0 0) (.slice none 0 0) (.int .i64 0) (.slice none 0 0)
              have YZ := hide y
              have BZ := hide (X.out.b.trans (ty.bel (B := w.heap.size) (Nat.le_refl _) X.out.b.size))
              clear y ty KZ0 fz y0
              cases s with
              | none =>
                have c2 : wc.cell? ⟨w.heap.size + 1, 2, none⟩ = some (.bool false) := c2
                clear hrest hal
                go_wp2_with fail
                exact ret_code w.heap.size rfl rfl rfl YZ.out rfl ⟨BZ.out, .inl ⟨HB.out, rfl⟩⟩
              | some r =>
                have c2 : wc.cell? ⟨w.heap.size + 1, 2, none⟩ = some (.bool true) := c2
                have hr := hrest r rfl
                by_cases hl : a = l.length
                case neg =>
                  have d1 : ((a : Int) != (l.length : Int)) = true := by rw [bne_iff_ne]; omega
                  have hn : codeB l = none := by
                    have := HB.out
                    cases hrr : r with
                    | nil => rw [hrr] at hr; have := congrArg List.length hr; rw [List.length_drop] at this; simp at this; omega
                    | cons b bs => rw [hrr] at this; exact this
                  have HN := hide hn
                  clear hrest hal hr hl hn
                  go_wp2_with fail
                  exact ret_code w.heap.size rfl rfl rfl YZ.out rfl ⟨BZ.out, .inl ⟨HN.out, rfl⟩⟩
                have d1 : ((a : Int) != (l.length : Int)) = false := by rw [bne_eq_false_iff_eq]; omega
                have hr0 : r = [] := by rw [hr, hl, List.drop_length]
                subst hr0
                have CV := hide (X.out.cd.cvE CE.out)
                have RF := hide (rform_any CV.out CE.out.sml)
                unfold codeA at RF
                obtain ⟨g0, g1, g2, g3, g4, g5, g6⟩ := cells7 X.out.kc
                clear hrest hal hr hl z0 z1 z2 z3 z4 z5 z6 fz0 fz1 fz2 fz3 fz4 fz5 fz6 YZ BZ
                go_wp2_with fail
                refine RF.out.mono ?_
                rintro e wd ⟨rfl, bd⟩
                have KD := hide ((bd.block _ (lt_of_blk KZ.out)).trans KZ.out)
                have QD := hide ((bd.block _ (lt_of_blk X.out.kc)).trans X.out.kc)
                have BD := hide (bel_trans X.out.b bd)
                have XD := hide (X.out.bel bd)
                obtain ⟨z0, z1, z2, z3, z4, z5, z6⟩ := cells7 KD.out
                have fz := fun i => blk_frz KD.out i
                have fz0 := fz 0
                have fz1 := fz 1
                have fz2 := fz 2
                have fz3 := fz 3
                have fz4 := fz 4
                have fz5 := fz 5
                have fz6 := fz 6
                clear fz c1 c2 g0 g1 g2 g3 g4 g5 g6 X CV RF bd
                cases hf : formB ⟨P, xM, xA, C, F, B, xm⟩ with
                | false =>
                  obtain ⟨y, ty⟩ := set7 KD.out (.slice none 0 0) (.int .i64 0) (.int .i64 0) (.slice none 0 0) (.slice none 0 0) (.int .i64 0) (.slice none 0 0)
                  have YZ := hide y
                  have BZ := hide (BD.out.trans (ty.bel (B := w.heap.size) (Nat.le_refl _) BD.out.size))
                  have HN : Hid (codeB l = none) := hide (by simpa [finC, hf] using HB.out)
                  clear y ty hf
                  go_wp2_with fail
                  exact ret_code w.heap.size rfl rfl rfl YZ.out rfl ⟨BZ.out, .inl ⟨HN.out, rfl⟩⟩
                | true =>
                  obtain ⟨y, ty⟩ := set7 KD.out (.slice aP P.length cP) (.int .i64 xM) (.int .i64 xA) (.slice aC C.length cC) (.slice aF F.length cF) (.int .i64 xm) (.slice aB B.length cB)
                  have YZ := hide y
                  have BZ := hide (BD.out.trans (ty.bel (B := w.heap.size) (Nat.le_refl _) BD.out.size))
                  have hqw := XD.out.hq
                  have CV := hide ((XD.out.cd.kpS (Kp.tn ty (by omega))).cvE CE.out)
                  have HN : Hid (codeB l = some ⟨P, xM, xA, C, F, B, xm⟩) := hide (by simpa [finC, hf] using HB.out)
                  obtain ⟨g0, g1, g2, g3, g4, g5, g6⟩ := cells7 QD.out
                  clear y ty hf hqw XD
                  go_wp2_with fail
                  exact ret_code w.heap.size rfl rfl rfl YZ.out rfl ⟨BZ.out, .inr ⟨⟨P, xM, xA, C, F, B, xm⟩, _, _, _, _, HN.out, rfl, CV.out, CE.out.sml⟩⟩
end Go.Proofs.YtigfjjolfeenaaaDoor.Ck

/- Package code: the operators and their numbers. -/
namespace Go.Proofs.YtigfjjolfeenaaaDoor.Ck
open Go.RowKit

def ops10 : List ByteArray := [⟨#[45]⟩, ⟨#[33]⟩, ⟨#[105, 110, 116]⟩, ⟨#[102, 108, 111, 97, 116]⟩]
def ops11 : List ByteArray := [⟨#[43]⟩, ⟨#[45]⟩, ⟨#[42]⟩, ⟨#[47]⟩, ⟨#[37]⟩, ⟨#[61, 61]⟩, ⟨#[33, 61]⟩, ⟨#[60]⟩, ⟨#[60, 61]⟩, ⟨#[62]⟩, ⟨#[62, 61]⟩]
def opsL (op : Int) : List ByteArray := if op = 10 then ops10 else if op = 11 then ops11 else []
/-- a slice of texts -/
def SlS (w : World) (v : Value) (l : List ByteArray) : Prop := ∃ a cap, v = .slice a l.length cap ∧ l.length ≤ cap ∧ ∀ i, i < l.length → ∃ b off, a = some ⟨b, off, none⟩ ∧ w.cell? ⟨b, off + i, none⟩ = some (.string (l.getD i ⟨#[]⟩))
theorem SlS.new (w : World) (l : List ByteArray) : SlS (w.alloc (.cells (l.map Value.string).toArray 9)) (.slice (some ⟨w.heap.size, 0, none⟩) l.length l.length) l := by
  refine ⟨_, _, rfl, Nat.le_refl _, fun i hi => ⟨_, _, rfl, ?_⟩⟩
  rw [Nat.zero_add]
  refine blk_cell (Go.Deep.blk_alloc_new _ _) i _ ?_
  rw [List.getElem?_toArray, List.getElem?_map, List.getD_eq_getElem?_getD, List.getElem?_eq_getElem hi]
  rfl
/-- the number of a text among some: 0 where it is none of them -/
def numF : List ByteArray → ByteArray → Nat → Int
  | [], _, _ => 0
  | x :: l, s, k => if s.toList = x.toList then (k : Int) + 1 else numF l s (k + 1)
theorem numF_at : ∀ (l : List ByteArray) (s : ByteArray) (m k : Nat), k < l.length → (∀ j, j < k → s.toList ≠ (l.getD j ⟨#[]⟩).toList) → s.toList = (l.getD k ⟨#[]⟩).toList → numF l s m = (m : Int) + k + 1
  | [], _, _, k, h, _, _ => absurd h (Nat.not_lt_zero _)
  | x :: l, s, m, 0, _, _, h => by
    unfold numF
    rw [if_pos (show s.toList = x.toList from h)]
    omega
  | x :: l, s, m, k + 1, h, h1, h2 => by
    unfold numF
    rw [if_neg (show ¬ s.toList = x.toList from h1 0 (by omega)), numF_at l s (m + 1) k (by simpa using h) (fun j hj => h1 (j + 1) (by omega)) h2]
    omega
theorem numF_none : ∀ (l : List ByteArray) (s : ByteArray) (m : Nat), (∀ j, j < l.length → s.toList ≠ (l.getD j ⟨#[]⟩).toList) → numF l s m = 0
  | [], _, _, _ => rfl
  | x :: l, s, m, h => by
    unfold numF
    rw [if_neg (show ¬ s.toList = x.toList from h 0 (by simp)), numF_none l s (m + 1) (fun j hj => h (j + 1) (by simpa using hj))]
theorem numF_rng : ∀ (l : List ByteArray) (s : ByteArray) (m : Nat), 0 ≤ numF l s m ∧ numF l s m ≤ (m : Int) + l.length
  | [], _, _ => by simp [numF]
  | x :: l, s, m => by
    have h := numF_rng l s (m + 1)
    unfold numF
    split
    · simp; omega
    · simp at h ⊢; omega
theorem opsL_len (op : Int) : (opsL op).length ≤ 11 := by
  unfold opsL
  split
  · decide
  · split <;> decide
set_option maxRecDepth 20000 in
theorem operators_any (op : Int) (w : World) : Calls Tryd.prog 33 #[.int .i64 op] w fun e w' => ∃ v, e = .returned v ∧ SlS w' v (opsL op) ∧ Below w.heap.size w w' := by
  by_cases h1 : op = 10
  · subst h1
    go_enter Tryd.func33, Tryd.ntmps33
    go_wp2_with fail
    go_ret
    exact ⟨_, rfl, SlS.new w ops10, bel_new _ _⟩
  by_cases h2 : op = 11
  · subst h2
    clear h1
    go_enter Tryd.func33, Tryd.ntmps33
    go_wp2_with fail
    go_ret
    exact ⟨_, rfl, SlS.new w ops11, bel_new _ _⟩
  · have e : opsL op = [] := by unfold opsL; rw [if_neg h1, if_neg h2]
    rw [e]
    have e1 : (op == 10) = false := beq_false_of_ne h1
    have e2 : (op == 11) = false := beq_false_of_ne h2
    clear h1 h2 e
    go_enter Tryd.func33, Tryd.ntmps33
    go_wp2_with fail
    go_ret
    exact ⟨_, rfl, ⟨none, 0, rfl, Nat.le_refl _, fun i hi => absurd hi (Nat.not_lt_zero _)⟩, Below.refl _ _⟩
set_option maxRecDepth 20000 in
set_option maxHeartbeats 1000000 in
theorem index_any {w : World} {v : Value} {l : List ByteArray} (s : ByteArray) (h : SlS w v l) (hl : l.length ≤ 16) : Calls Tryd.prog 52 #[v, .string s] w fun e w' => e = .returned (.int .i64 (numF l s 0 - 1)) ∧ w = w' := by
  obtain ⟨a, cap, rfl, hca, hac⟩ := h
  obtain ⟨n, hn⟩ : ∃ n, n = l.length := ⟨_, rfl⟩
  have HA := hide (fun (k : Nat) (hk : k < n) (h1 : ∀ j, j < k → s.toList ≠ (l.getD j ⟨#[]⟩).toList) (h2 : s.toList = (l.getD k ⟨#[]⟩).toList) => (show numF l s 0 - 1 = k by rw [numF_at l s 0 k (by omega) h1 h2]; omega))
  have HZ := hide (fun (h1 : ∀ j, j < n → s.toList ≠ (l.getD j ⟨#[]⟩).toList) => (show numF l s 0 - 1 = -1 by rw [numF_none l s 0 (fun j hj => h1 j (by omega))]; omega))
  have hac' : ∀ i, i < n → _ := fun i hi => hac i (by omega)
  rw [← hn] at hca hl ⊢
  generalize numF l s 0 - 1 = r at *
  have HC := hide hac'
  clear hac hac' hn
  go_enter Tryd.func52, Tryd.ntmps52
  go_wp2_with fail
  go_loopw [5, 8] (fun u i wr => ∃ k : Nat, k ≤ n ∧ i = .int .i64 k ∧ Hid (∀ j, j < k → s.toList ≠ (l.getD j ⟨#[]⟩).toList) ∧ Hid (w = wr)) (fun u i _ => n - (intOf i).toNat)
  case atStart => exact ⟨0, Nat.zero_le _, rfl, fun j hj => absurd hj (Nat.not_lt_zero _), rfl⟩
  case round =>
    obtain ⟨k, hk, rfl, hall, hw⟩ := hrel
    obtain rfl := hw.out
    clear hw
    by_cases hlt : k < n
    · have h9 : (k : Int) < (n : Int) := by omega
      obtain ⟨b, off, rfl, hck⟩ := HC.out k hlt
      have hA := hide (HA.out k hlt hall.out)
      have hstep : Hid (s.toList ≠ (l.getD k ⟨#[]⟩).toList → ∀ j, j < k + 1 → s.toList ≠ (l.getD j ⟨#[]⟩).toList) := fun e j hj => by
        by_cases ej : j = k
        · rw [ej]; exact e
        · exact hall.out j (by omega)
      clear HA HZ HC hall
      generalize l.getD k ⟨#[]⟩ = y at *
      by_cases y1 : s.toList = y.toList
      · have e1 : (s.toList == y.toList) = true := by rw [y1]; simp
        have hr := hide (hA.out y1)
        clear y1 hA hstep
        go_wp2_with fail
        go_ret
        exact ⟨by rw [hr.out]; rfl, rfl⟩
      · have e1 : (s.toList == y.toList) = false := beq_false_of_ne y1
        have hst := hide (hstep.out y1)
        clear y1 hA hstep
        go_wp2_with fail
        go_roundw
        case rel => exact ⟨k + 1, by omega, by go_num, hst.out, trivial⟩
        case measure => simp [intOf]; omega
    · obtain rfl : k = n := by omega
      have hr := hide (HZ.out hall.out)
      clear HA HZ HC hall
      go_wp2_with fail
      go_ret
      exact ⟨by rw [hr.out]; rfl, rfl⟩
set_option maxRecDepth 20000 in
theorem numbered_any (op : Int) (s : ByteArray) (w : World) : Calls Tryd.prog 32 #[.int .i64 op, .string s] w (Vb w (.int .i64 (numF (opsL op) s 0))) := by
  have hr := numF_rng (opsL op) s 0
  have hl := opsL_len op
  have IX := hide (fun (v : Value) (wz : World) (h : SlS wz v (opsL op)) => index_any s h (Nat.le_trans hl (by decide)))
  obtain ⟨r, hr0⟩ : ∃ r, r = numF (opsL op) s 0 := ⟨_, rfl⟩
  rw [← hr0] at hr IX ⊢
  have E2 : Hid (wrap64 r = r) := hide (by unfold wrap64; omega)
  clear hr hl hr0
  go_enter Tryd.func32, Tryd.ntmps32
  go_wp2_with fail
  refine (operators_any op w).mono ?_
  rintro e w2 ⟨v, rfl, hs, hb⟩
  have HB := hide hb
  have HX := hide (IX.out v w2 hs)
  obtain ⟨a, cap, rfl, _, _⟩ := hs
  clear hb IX
  go_wp2_with fail
  refine HX.out.mono ?_
  rintro e w3 ⟨rfl, rfl⟩
  clear HX
  go_wp2_with fail
  go_ret
  exact ⟨congrArg (fun z => Ending.returned (.int .i64 z)) E2.out, HB.out⟩
theorem binary_any (s : ByteArray) (w : World) : Calls Tryd.prog 17 #[.string s] w (Vb w (.int .i64 (numF ops11 s 0))) := by
  have HN := hide (numbered_any 11 s w)
  rw [show opsL 11 = ops11 from rfl] at HN
  go_enter Tryd.func17, Tryd.ntmps17
  go_wp2_with fail
  refine HN.out.mono ?_
  rintro e w2 ⟨rfl, hb⟩
  have HB := hide hb
  clear hb HN
  go_wp2_with fail
  go_ret
  exact ⟨rfl, HB.out⟩
/-- the operator of a number -/
def opN (op a : Int) : ByteArray := if 1 ≤ a ∧ a ≤ ((opsL op).length : Int) then (opsL op).getD (a - 1).toNat ⟨#[]⟩ else ⟨#[]⟩
set_option maxRecDepth 20000 in
theorem operator_any (op a : Int) (w : World) : Calls Tryd.prog 18 #[.int .i64 op, .int .i64 a] w (Vb w (.string (opN op a))) := by
  have hl := opsL_len op
  obtain ⟨r, hr⟩ : ∃ r, r = opN op a := ⟨_, rfl⟩
  rw [← hr]
  unfold opN at hr
  have HR := hide hr
  clear hr
  go_enter Tryd.func18, Tryd.ntmps18
  go_wp2_with fail
  refine (operators_any op w).mono ?_
  rintro e w2 ⟨v, rfl, hs, hb⟩
  have HB := hide hb
  obtain ⟨ad, cap, rfl, hcap, hcs⟩ := hs
  generalize opsL op = l at *
  obtain ⟨n, hn⟩ : ∃ n, n = l.length := ⟨_, rfl⟩
  rw [← hn] at HR hl hcs hcap ⊢
  clear hb hn
  by_cases h1 : 1 ≤ a
  · have h1' : decide (a < 1) = false := decide_eq_false (by omega)
    by_cases h2 : a ≤ (n : Int)
    · have h2' : decide ((n : Int) < a) = false := decide_eq_false (by omega)
      obtain ⟨k, hk⟩ : ∃ k : Nat, a - 1 = k := ⟨(a - 1).toNat, by omega⟩
      obtain ⟨b, off, rfl, hc⟩ := hcs k (by omega)
      have e1 : wrap64 (a - 1) = (k : Int) := by unfold wrap64; omega
      have hkn : (k : Int) < (n : Int) := by omega
      rw [if_pos ⟨h1, h2⟩, hk, Int.toNat_natCast] at HR
      rw [← HR.out] at hc
      clear hcs h1 h2 hk HR
      go_wp2_with fail
      go_ret
      exact ⟨rfl, HB.out⟩
    · have h2' : decide ((n : Int) < a) = true := decide_eq_true (by omega)
      rw [if_neg (fun h => h2 h.2)] at HR
      have hr := HR.out
      subst hr
      clear hcs h1 h2 HR
      go_wp2_with fail
      go_ret
      exact ⟨rfl, HB.out⟩
  · have h1' : decide (a < 1) = true := decide_eq_true (by omega)
    rw [if_neg (fun h => h1 h.1)] at HR
    have hr := HR.out
    subst hr
    clear hcs h1 HR
    go_wp2_with fail
    go_ret
    exact ⟨rfl, HB.out⟩
end Go.Proofs.YtigfjjolfeenaaaDoor.Ck

/- The operators' numbers, as plain choices. -/
namespace Go.Proofs.YtigfjjolfeenaaaDoor.Ck
open Go.RowKit

theorem tl_0 : (⟨#[45]⟩ : ByteArray).toList = [45] := by first | rfl | simp | decide +kernel
theorem tl_1 : (⟨#[33]⟩ : ByteArray).toList = [33] := by first | rfl | simp | decide +kernel
theorem tl_2 : (⟨#[105, 110, 116]⟩ : ByteArray).toList = [105, 110, 116] := by first | rfl | simp | decide +kernel
theorem tl_3 : (⟨#[102, 108, 111, 97, 116]⟩ : ByteArray).toList = [102, 108, 111, 97, 116] := by first | rfl | simp | decide +kernel
theorem tl_4 : (⟨#[43]⟩ : ByteArray).toList = [43] := by first | rfl | simp | decide +kernel
theorem tl_5 : (⟨#[42]⟩ : ByteArray).toList = [42] := by first | rfl | simp | decide +kernel
theorem tl_6 : (⟨#[47]⟩ : ByteArray).toList = [47] := by first | rfl | simp | decide +kernel
theorem tl_7 : (⟨#[37]⟩ : ByteArray).toList = [37] := by first | rfl | simp | decide +kernel
theorem tl_8 : (⟨#[61, 61]⟩ : ByteArray).toList = [61, 61] := by first | rfl | simp | decide +kernel
theorem tl_9 : (⟨#[33, 61]⟩ : ByteArray).toList = [33, 61] := by first | rfl | simp | decide +kernel
theorem tl_10 : (⟨#[60]⟩ : ByteArray).toList = [60] := by first | rfl | simp | decide +kernel
theorem tl_11 : (⟨#[60, 61]⟩ : ByteArray).toList = [60, 61] := by first | rfl | simp | decide +kernel
theorem tl_12 : (⟨#[62]⟩ : ByteArray).toList = [62] := by first | rfl | simp | decide +kernel
theorem tl_13 : (⟨#[62, 61]⟩ : ByteArray).toList = [62, 61] := by first | rfl | simp | decide +kernel

theorem num10 (s : ByteArray) : numF ops10 s 0 = if s.toList = [45] then 1 else (if s.toList = [33] then 2 else (if s.toList = [105, 110, 116] then 3 else (if s.toList = [102, 108, 111, 97, 116] then 4 else 0))) := by
  simp only [numF, ops10, tl_0, tl_1, tl_2, tl_3]
  rfl
theorem num11 (s : ByteArray) : numF ops11 s 0 = if s.toList = [43] then 1 else (if s.toList = [45] then 2 else (if s.toList = [42] then 3 else (if s.toList = [47] then 4 else (if s.toList = [37] then 5 else (if s.toList = [61, 61] then 6 else (if s.toList = [33, 61] then 7 else (if s.toList = [60] then 8 else (if s.toList = [60, 61] then 9 else (if s.toList = [62] then 10 else (if s.toList = [62, 61] then 11 else 0)))))))))) := by
  simp only [numF, ops11, tl_0, tl_4, tl_5, tl_6, tl_7, tl_8, tl_9, tl_10, tl_11, tl_12, tl_13]
  rfl
end Go.Proofs.YtigfjjolfeenaaaDoor.Ck

/- The examples of the chapter (alive). -/
namespace Go.Proofs.YtigfjjolfeenaaaDoor.Ck
open Go.RowKit

theorem num_eqeq : numF ops11 ⟨#[61, 61]⟩ 0 = 6 := by
  rw [num11]
  simp
theorem op_int : opN 10 3 = ⟨#[105, 110, 116]⟩ := by
  unfold opN
  rw [show opsL 10 = ops10 from rfl, if_pos (by decide)]
  rfl
theorem alive_at {w : World} {p : List Addr} (hc : Ec w p) : Cv (((w.alloc (.cells #[.int .i64 0, .int .i64 0, .slice none 0 0] 47)).alloc (.cells #[.int .i64 25, .int .i64 0, .int .i64 0, .int .u64 0, .int .i64 0] 50)).alloc (.cells #[.slice none 0 0, .int .i64 0, .int .i64 0, .slice none 0 0, .slice (some ⟨w.heap.size, 0, none⟩) 1 1, .int .i64 0, .slice (some ⟨w.heap.size + 1, 0, none⟩) 1 1] 27)) (.slice none 0 0) (.slice none 0 0) (.slice (some ⟨w.heap.size, 0, none⟩) 1 1) (.slice (some ⟨w.heap.size + 1, 0, none⟩) 1 1) (oneF [⟨25, 0, 0, 0, 0⟩]) ∧ Ec (((w.alloc (.cells #[.int .i64 0, .int .i64 0, .slice none 0 0] 47)).alloc (.cells #[.int .i64 25, .int .i64 0, .int .i64 0, .int .u64 0, .int .i64 0] 50)).alloc (.cells #[.slice none 0 0, .int .i64 0, .int .i64 0, .slice none 0 0, .slice (some ⟨w.heap.size, 0, none⟩) 1 1, .int .i64 0, .slice (some ⟨w.heap.size + 1, 0, none⟩) 1 1] 27)) p ∧ Below w.heap.size w (((w.alloc (.cells #[.int .i64 0, .int .i64 0, .slice none 0 0] 47)).alloc (.cells #[.int .i64 25, .int .i64 0, .int .i64 0, .int .u64 0, .int .i64 0] 50)).alloc (.cells #[.slice none 0 0, .int .i64 0, .int .i64 0, .slice none 0 0, .slice (some ⟨w.heap.size, 0, none⟩) 1 1, .int .i64 0, .slice (some ⟨w.heap.size + 1, 0, none⟩) 1 1] 27)) ∧ (((w.alloc (.cells #[.int .i64 0, .int .i64 0, .slice none 0 0] 47)).alloc (.cells #[.int .i64 25, .int .i64 0, .int .i64 0, .int .u64 0, .int .i64 0] 50)).alloc (.cells #[.slice none 0 0, .int .i64 0, .int .i64 0, .slice none 0 0, .slice (some ⟨w.heap.size, 0, none⟩) 1 1, .int .i64 0, .slice (some ⟨w.heap.size + 1, 0, none⟩) 1 1] 27)).heap[w.heap.size + 1 + 1]? = some (.cells #[.slice none 0 0, .int .i64 0, .int .i64 0, .slice none 0 0, .slice (some ⟨w.heap.size, 0, none⟩) 1 1, .int .i64 0, .slice (some ⟨w.heap.size + 1, 0, none⟩) 1 1] 27 (0, 0)) := by
  have b1 := bel_new w (.cells #[.int .i64 0, .int .i64 0, .slice none 0 0] 47)
  have k1 : (w.alloc (.cells #[.int .i64 0, .int .i64 0, .slice none 0 0] 47)).heap[w.heap.size]? = some (.cells #[.int .i64 0, .int .i64 0, .slice none 0 0] 47 (0, 0)) := Go.Deep.blk_alloc_new _ _
  have s1 : (w.alloc (.cells #[.int .i64 0, .int .i64 0, .slice none 0 0] 47)).heap.size = w.heap.size + 1 := by simp
  generalize w.alloc (.cells #[.int .i64 0, .int .i64 0, .slice none 0 0] 47) = w1 at *
  have b2 := bel_new w1 (.cells #[.int .i64 25, .int .i64 0, .int .i64 0, .int .u64 0, .int .i64 0] 50)
  have k2 : (w1.alloc (.cells #[.int .i64 25, .int .i64 0, .int .i64 0, .int .u64 0, .int .i64 0] 50)).heap[w1.heap.size]? = some (.cells #[.int .i64 25, .int .i64 0, .int .i64 0, .int .u64 0, .int .i64 0] 50 (0, 0)) := Go.Deep.blk_alloc_new _ _
  have s2 : (w1.alloc (.cells #[.int .i64 25, .int .i64 0, .int .i64 0, .int .u64 0, .int .i64 0] 50)).heap.size = w1.heap.size + 1 := by simp
  generalize w1.alloc (.cells #[.int .i64 25, .int .i64 0, .int .i64 0, .int .u64 0, .int .i64 0] 50) = w2 at *
  have b3 := bel_new w2 (.cells #[.slice none 0 0, .int .i64 0, .int .i64 0, .slice none 0 0, .slice (some ⟨w.heap.size, 0, none⟩) 1 1, .int .i64 0, .slice (some ⟨w.heap.size + 1, 0, none⟩) 1 1] 27)
  have k3 : (w2.alloc (.cells #[.slice none 0 0, .int .i64 0, .int .i64 0, .slice none 0 0, .slice (some ⟨w.heap.size, 0, none⟩) 1 1, .int .i64 0, .slice (some ⟨w.heap.size + 1, 0, none⟩) 1 1] 27)).heap[w2.heap.size]? = some (.cells #[.slice none 0 0, .int .i64 0, .int .i64 0, .slice none 0 0, .slice (some ⟨w.heap.size, 0, none⟩) 1 1, .int .i64 0, .slice (some ⟨w.heap.size + 1, 0, none⟩) 1 1] 27 (0, 0)) := Go.Deep.blk_alloc_new _ _
  generalize w2.alloc (.cells #[.slice none 0 0, .int .i64 0, .int .i64 0, .slice none 0 0, .slice (some ⟨w.heap.size, 0, none⟩) 1 1, .int .i64 0, .slice (some ⟨w.heap.size + 1, 0, none⟩) 1 1] 27) = w3 at *
  rw [s1] at k2 s2
  rw [s2] at k3
  have k1' := (b3.block _ (by omega)).trans ((b2.block _ (by omega)).trans k1)
  have k2' := (b3.block _ (by omega)).trans k2
  refine ⟨Cv.one k1' (SlB.one (x := ⟨25, 0, 0, 0, 0⟩) k2') (fun x hx => ?_) (by decide), ((hc.bel b1).bel b2).bel b3, bel_trans (bel_trans b1 b2) b3, k3⟩
  have : x = ⟨25, 0, 0, 0, 0⟩ := by simpa using hx
  subst this
  exact inX_of (by decide) (by decide) (by decide)
set_option maxRecDepth 20000 in
set_option maxHeartbeats 1000000 in
theorem alive_any {w : World} {p : List Addr} (hc : Ec w p) : Calls Tryd.prog 5 #[] w (Vb w (.bool true)) := by
  obtain ⟨v3, e3, b3, k3⟩ := alive_at hc
  have BI := hide (binary_any ⟨#[61, 61]⟩ (((w.alloc (.cells #[.int .i64 0, .int .i64 0, .slice none 0 0] 47)).alloc (.cells #[.int .i64 25, .int .i64 0, .int .i64 0, .int .u64 0, .int .i64 0] 50)).alloc (.cells #[.slice none 0 0, .int .i64 0, .int .i64 0, .slice none 0 0, .slice (some ⟨w.heap.size, 0, none⟩) 1 1, .int .i64 0, .slice (some ⟨w.heap.size + 1, 0, none⟩) 1 1] 27)))
  rw [num_eqeq] at BI
  have OP := hide (fun wz => operator_any 10 3 wz)
  rw [op_int] at OP
  have CK : Hid (∀ wz, Below (((w.alloc (.cells #[.int .i64 0, .int .i64 0, .slice none 0 0] 47)).alloc (.cells #[.int .i64 25, .int .i64 0, .int .i64 0, .int .u64 0, .int .i64 0] 50)).alloc (.cells #[.slice none 0 0, .int .i64 0, .int .i64 0, .slice none 0 0, .slice (some ⟨w.heap.size, 0, none⟩) 1 1, .int .i64 0, .slice (some ⟨w.heap.size + 1, 0, none⟩) 1 1] 27)).heap.size (((w.alloc (.cells #[.int .i64 0, .int .i64 0, .slice none 0 0] 47)).alloc (.cells #[.int .i64 25, .int .i64 0, .int .i64 0, .int .u64 0, .int .i64 0] 50)).alloc (.cells #[.slice none 0 0, .int .i64 0, .int .i64 0, .slice none 0 0, .slice (some ⟨w.heap.size, 0, none⟩) 1 1, .int .i64 0, .slice (some ⟨w.heap.size + 1, 0, none⟩) 1 1] 27)) wz → Calls Tryd.prog 8 #[.agg #[.slice none 0 0, .int .i64 0, .int .i64 0, .slice none 0 0, .slice (some ⟨w.heap.size, 0, none⟩) 1 1, .int .i64 0, .slice (some ⟨w.heap.size + 1, 0, none⟩) 1 1]] wz fun e w' => e = .returned .nilIface ∧ Below wz.heap.size wz w') := hide (fun wz hb => by
    have := check_any (e3.bel hb) (v3.bel hb)
    rw [alive_form] at this
    exact this)
  have X3 := hide (fun wz (hb : Below (((w.alloc (.cells #[.int .i64 0, .int .i64 0, .slice none 0 0] 47)).alloc (.cells #[.int .i64 25, .int .i64 0, .int .i64 0, .int .u64 0, .int .i64 0] 50)).alloc (.cells #[.slice none 0 0, .int .i64 0, .int .i64 0, .slice none 0 0, .slice (some ⟨w.heap.size, 0, none⟩) 1 1, .int .i64 0, .slice (some ⟨w.heap.size + 1, 0, none⟩) 1 1] 27)).heap.size (((w.alloc (.cells #[.int .i64 0, .int .i64 0, .slice none 0 0] 47)).alloc (.cells #[.int .i64 25, .int .i64 0, .int .i64 0, .int .u64 0, .int .i64 0] 50)).alloc (.cells #[.slice none 0 0, .int .i64 0, .int .i64 0, .slice none 0 0, .slice (some ⟨w.heap.size, 0, none⟩) 1 1, .int .i64 0, .slice (some ⟨w.heap.size + 1, 0, none⟩) 1 1] 27)) wz) => cells7 ((hb.block _ (lt_of_blk k3)).trans k3))
  have B3 := hide b3
  clear v3 e3 b3 k3 hc
  go_enter Tryd.func5, Tryd.ntmps5
  go_wp2_with fail
  refine BI.out.mono ?_
  rintro e w4 ⟨rfl, hb4⟩
  generalize ((w.alloc (.cells #[.int .i64 0, .int .i64 0, .slice none 0 0] 47)).alloc (.cells #[.int .i64 25, .int .i64 0, .int .i64 0, .int .u64 0, .int .i64 0] 50)).alloc (.cells #[.slice none 0 0, .int .i64 0, .int .i64 0, .slice none 0 0, .slice (some ⟨w.heap.size, 0, none⟩) 1 1, .int .i64 0, .slice (some ⟨w.heap.size + 1, 0, none⟩) 1 1] 27) = w3 at *
  have B4 := hide hb4
  clear hb4 BI
  go_wp2_with fail
  refine (OP.out w4).mono ?_
  rintro e w5 ⟨rfl, hb5⟩
  have B5 := hide (bel_trans B4.out hb5)
  clear hb5 OP B4
  obtain ⟨g0, g1, g2, g3, g4, g5, g6⟩ := X3.out _ B5.out
  go_wp2_with fail
  refine (CK.out _ B5.out).mono ?_
  rintro e w6 ⟨rfl, hb6⟩
  have B6 := hide (bel_trans B5.out hb6)
  clear hb6 CK B5 g0 g1 g2 g3 g4 g5 g6
  go_wp2_with fail
  go_ret
  exact ⟨rfl, bel_trans B3.out B6.out⟩
end Go.Proofs.YtigfjjolfeenaaaDoor.Ck

/- CodeBytes walked. -/
namespace Go.Proofs.YtigfjjolfeenaaaDoor.Ck
open Go.RowKit

theorem Ys.of_sb {w : World} {v : Value} {l : List Int} (h : SB w v l) : Ys w v l := by
  obtain ⟨_, a, cap, e, h1, h2, h3⟩ := h
  exact ⟨a, cap, e, h1, h2, fun i hi => by
    obtain ⟨b, off, ea, hb, hc⟩ := h3 i hi
    exact ⟨b, off, ea, hb, Nat.ne_of_lt hb, hc⟩⟩
theorem OwnY.pre {w : World} {B g n : Nat} {a : List Int} (ho : OwnY w B g (a.length + 6) (a ++ marks6)) (hf : Byt a) (hl : a.length ≤ 900000) (hn : n = a.length) : SB w (.slice (some ⟨g, 0, none⟩) n (n + 6)) a := by
  subst hn
  refine ⟨hf, some ⟨g, 0, none⟩, a.length + 6, rfl, by omega, by unfold maxLen; omega, fun i hi => ⟨g, 0, rfl, ho.lt, ?_⟩⟩
  rw [Nat.zero_add, ho.cell i (by simp; omega)]
  simp only [List.getD, List.getElem?_append_left hi]
theorem sb_own {w : World} {B : Nat} {v : Value} {l : List Int} (h : w.ownsRow B 5 1 v l.length (yys l)) (hb : Byt l) : SB w v l := by
  rcases own_cells h with ⟨rfl, h0⟩ | ⟨g, cap, rfl, h1, h2, h3, h4⟩
  · have : l = [] := List.length_eq_zero_iff.1 h0
    subst this
    exact SB.nilS w
  · exact ⟨hb, _, cap, rfl, h1, h2, fun i hi => ⟨g, 0, rfl, h3, by rw [Nat.zero_add]; exact h4 i _ (by omega) (yys_at l i hi)⟩⟩
theorem cv_zero (w : World) : Cv w (.slice none 0 0) (.slice none 0 0) (.slice none 0 0) (.slice none 0 0) ⟨[], 0, 0, [], [], [], 0⟩ := CdR.cvE (S := 0) CdR.nil CdE.nil
set_option maxRecDepth 20000 in
set_option maxHeartbeats 8000000 in
theorem bytes_main {w : World} {p : List Addr} {va : Value} {l : List Int} (ev : Errs17 w p) (h : SB w va l) : Calls Tryd.prog 4 #[va] w (Vb w (.bool true)) := by
  have hc : Ec w p := ev.cell 8 (by omega)
  have HC := hide hc
  have E0 := hide ev
  have HB := hide h.fits
  obtain ⟨av, cv, rfl, _, _⟩ := h.form
  have S0 := hide h
  have AL := hide (alive_any hc)
  clear h hc ev
  go_enter Tryd.func4, Tryd.ntmps4
  go_wp2_with fail
  refine AL.out.mono ?_
  rintro e w2 ⟨rfl, b2⟩
  have B2 := hide b2
  clear b2 AL
  by_cases hl : l.length ≤ 200000
  case neg =>
    have d : decide (200000 < l.length) = true := decide_eq_true (by omega)
    have d' : decide ((200000 : Int) < (l.length : Int)) = true := decide_eq_true (by omega)
    go_wp2_with fail
    go_ret
    exact ⟨rfl, B2.out⟩
  have d : decide (200000 < l.length) = false := decide_eq_false (by omega)
  have d' : decide ((200000 : Int) < (l.length : Int)) = false := decide_eq_false (by omega)
  have HL := hide hl
  obtain ⟨n, hn⟩ : ∃ n, n = l.length := ⟨_, rfl⟩
  have HN := hide hn
  have BY := hide (bytes8_any _ l w2 (S0.out.bel B2.out) (by omega))
  rw [← hn] at d d' S0 BY ⊢
  clear hl hn
  go_wp2_with fail
  refine BY.out.mono ?_
  rintro e w3 ⟨g, rfl, o3, b3⟩
  have B3 := hide (bel_trans B2.out b3)
  have O3 := hide o3
  clear o3 b3 BY d d' B2
  rw [HN.out] at O3
  have GE := hide (get_any (HC.out.bel B3.out) (Ys.of_sb (O3.out.pre HB.out (by have := HL.out; omega) HN.out)) HB.out (by have := HL.out; omega))
  go_wp2_with fail
  refine GE.out.mono ?_
  rintro e w4 ⟨b4, hp⟩
  have B4 := hide (bel_trans B3.out b4)
  have O4 := hide (O3.out.below b4)
  clear b4 GE B3 O3
  rcases hp with ⟨hq, rfl⟩ | ⟨c, vP, vC, vF, vB, hq, rfl, R4, Q4⟩
  · have HQ := hide hq
    clear hq
    have nb := bel_new w4 (.cells #[.slice none 0 0, .int .i64 0, .int .i64 0, .slice none 0 0, .slice none 0 0, .int .i64 0, .slice none 0 0] 27)
    have KA := hide (show (w4.alloc (.cells #[.slice none 0 0, .int .i64 0, .int .i64 0, .slice none 0 0, .slice none 0 0, .int .i64 0, .slice none 0 0] 27)).heap[w4.heap.size]? = some (.cells #[.slice none 0 0, .int .i64 0, .int .i64 0, .slice none 0 0, .slice none 0 0, .int .i64 0, .slice none 0 0] 27 (0, 0)) from Go.Deep.blk_alloc_new _ _)
    have B5 := hide (bel_trans B4.out nb)
    have O5 := hide (O4.out.below nb)
    have DC := hide (rcode_doc (Ys.of_sb (S0.out.bel B5.out)) HB.out HL.out)
    clear nb B4 O4
    go_wp2_with fail
    generalize w4.alloc (.cells #[.slice none 0 0, .int .i64 0, .int .i64 0, .slice none 0 0, .slice none 0 0, .int .i64 0, .slice none 0 0] 27) = w5 at *
    generalize w4.heap.size = ba at *
    refine DC.out.mono ?_
    rintro e w6 ⟨b6, hp⟩
    rcases hp with ⟨_, rfl⟩ | ⟨c, uP, uC, uF, uB, hq2, _⟩
    case inr => rw [HQ.out] at hq2; cases hq2
    have nb := bel_new w6 (.cells #[.slice none 0 0, .int .i64 0, .int .i64 0, .slice none 0 0, .slice none 0 0, .int .i64 0, .slice none 0 0] 27)
    have b67 := bel_trans b6 nb
    have KA7 := hide ((b67.block _ (lt_of_blk KA.out)).trans KA.out)
    have KB := hide (show (w6.alloc (.cells #[.slice none 0 0, .int .i64 0, .int .i64 0, .slice none 0 0, .slice none 0 0, .int .i64 0, .slice none 0 0] 27)).heap[w6.heap.size]? = some (.cells #[.slice none 0 0, .int .i64 0, .int .i64 0, .slice none 0 0, .slice none 0 0, .int .i64 0, .slice none 0 0] 27 (0, 0)) from Go.Deep.blk_alloc_new _ _)
    have B7 := hide (bel_trans B5.out b67)
    have O7 := hide (O5.out.below b67)
    clear nb b67 b6 DC B5 O5 KA
    have NE := hide (num_err p 8 _ (E0.out.below (Nat.le_refl _) B7.out) (by omega))
    unfold errV at NE
    unfold errV
    go_wp2_with fail
    generalize w6.alloc (.cells #[.slice none 0 0, .int .i64 0, .int .i64 0, .slice none 0 0, .slice none 0 0, .int .i64 0, .slice none 0 0] 27) = w7 at *
    generalize w6.heap.size = bb at *
    refine NE.out.mono ?_
    rintro e w8 ⟨rfl, b8⟩
    have B8 := hide (bel_trans B7.out b8)
    have O8 := hide (O7.out.below b8)
    have KA8 := hide ((b8.block _ (lt_of_blk KA7.out)).trans KA7.out)
    have KB8 := hide ((b8.block _ (lt_of_blk KB.out)).trans KB.out)
    have RS := hide (rSame_any (cv_zero w8) (cv_zero w8) CdE.nil.sml CdE.nil.sml)
    rw [same_self] at RS
    unfold codeA at RS
    clear b8 NE B7 O7 KA7 KB
    obtain ⟨g0, g1, g2, g3, g4, g5, g6⟩ := cells7 KA8.out
    obtain ⟨k0, k1, k2, k3, k4, k5, k6⟩ := cells7 KB8.out
    go_wp2_with fail
    refine RS.out.mono ?_
    rintro e w9 ⟨rfl, b9⟩
    have B9 := hide (bel_trans B8.out b9)
    have O9 := hide (O8.out.below b9)
    have KE := hide (keptB_any _ l g _ w9 (S0.out.bel B9.out) O9.out (by have := HL.out; omega))
    rw [← HN.out] at KE
    clear b9 RS B8 O8 KA8 KB8 g0 g1 g2 g3 g4 g5 g6 k0 k1 k2 k3 k4 k5 k6
    go_wp2_with fail
    refine KE.out.mono ?_
    rintro e wA ⟨rfl, bA⟩
    have BA := hide (bel_trans B9.out bA)
    clear bA KE B9 O9
    go_wp2_with fail
    go_ret
    exact ⟨rfl, BA.out⟩
  · have HQ := hide hq
    have V4 := R4.cv Q4
    obtain ⟨aP, cP, aC, cC, aF, cF, aB, cB, eP, eC, eF, eB⟩ := V4.form
    subst eP eC eF eB
    have SM4 := hide (show Sml c from ⟨Nat.le_trans Q4.P.1 (by decide), Nat.le_trans Q4.C.1 (by decide), Nat.le_trans Q4.F.1 (by decide), Nat.le_trans Q4.B.1 (by decide), fun f hf => Nat.le_trans (Q4.F.2 f hf).1 (by decide)⟩)
    obtain ⟨hb1, hb2⟩ := bytes_code HB.out hq
    have HBC := hide hb1
    have HFC := hide hb2
    have VV := hide V4
    unfold codeA
    clear hq R4 Q4 V4 hb1 hb2
    have nb := bel_new w4 (.cells #[.slice aP c.P.length cP, .int .i64 c.M, .int .i64 c.A, .slice aC c.C.length cC, .slice aF c.F.length cF, .int .i64 c.mn, .slice aB c.B.length cB] 27)
    have KA := hide (show (w4.alloc (.cells #[.slice aP c.P.length cP, .int .i64 c.M, .int .i64 c.A, .slice aC c.C.length cC, .slice aF c.F.length cF, .int .i64 c.mn, .slice aB c.B.length cB] 27)).heap[w4.heap.size]? = some (.cells #[.slice aP c.P.length cP, .int .i64 c.M, .int .i64 c.A, .slice aC c.C.length cC, .slice aF c.F.length cF, .int .i64 c.mn, .slice aB c.B.length cB] 27 (0, 0)) from Go.Deep.blk_alloc_new _ _)
    have B5 := hide (bel_trans B4.out nb)
    have O5 := hide (O4.out.below nb)
    have V5 := hide (VV.out.bel nb)
    clear VV
    have DC := hide (rcode_doc (Ys.of_sb (S0.out.bel B5.out)) HB.out HL.out)
    clear nb B4 O4
    go_wp2_with fail
    generalize w4.alloc (.cells #[.slice aP c.P.length cP, .int .i64 c.M, .int .i64 c.A, .slice aC c.C.length cC, .slice aF c.F.length cF, .int .i64 c.mn, .slice aB c.B.length cB] 27) = w5 at *
    generalize w4.heap.size = ba at *
    refine DC.out.mono ?_
    rintro e w6 ⟨b6, hp⟩
    rcases hp with ⟨hq2, _⟩ | ⟨d, uP, uC, uF, uB, hq2, rfl, UV0, _⟩
    case inl => rw [HQ.out] at hq2; cases hq2
    have hd : c = d := Option.some.inj (HQ.out.symm.trans hq2)
    subst hd
    obtain ⟨bP, dP, bC, dC, bF, dF, bB, dB, fP, fC, fF, fB⟩ := UV0.form
    subst fP fC fF fB
    unfold codeA
    clear hq2
    have nb := bel_new w6 (.cells #[.slice bP c.P.length dP, .int .i64 c.M, .int .i64 c.A, .slice bC c.C.length dC, .slice bF c.F.length dF, .int .i64 c.mn, .slice bB c.B.length dB] 27)
    have b67 := bel_trans b6 nb
    have KA7 := hide ((b67.block _ (lt_of_blk KA.out)).trans KA.out)
    have KB := hide (show (w6.alloc (.cells #[.slice bP c.P.length dP, .int .i64 c.M, .int .i64 c.A, .slice bC c.C.length dC, .slice bF c.F.length dF, .int .i64 c.mn, .slice bB c.B.length dB] 27)).heap[w6.heap.size]? = some (.cells #[.slice bP c.P.length dP, .int .i64 c.M, .int .i64 c.A, .slice bC c.C.length dC, .slice bF c.F.length dF, .int .i64 c.mn, .slice bB c.B.length dB] 27 (0, 0)) from Go.Deep.blk_alloc_new _ _)
    have B7 := hide (bel_trans B5.out b67)
    have O7 := hide (O5.out.below b67)
    have V7 := hide (V5.out.bel b67)
    have U7 := hide (UV0.bel nb)
    clear V5 UV0
    clear nb b67 b6 DC B5 O5 KA
    go_upto_region 8 with fail
    generalize w6.alloc (.cells #[.slice bP c.P.length dP, .int .i64 c.M, .int .i64 c.A, .slice bC c.C.length dC, .slice bF c.F.length dF, .int .i64 c.mn, .slice bB c.B.length dB] 27) = w7 at *
    generalize w6.heap.size = bb at *
    have KA8 := KA7
    have KB8 := KB
    have B8 := B7
    have O8 := O7
    obtain ⟨w8, hw8⟩ : ∃ w8, w8 = w7 := ⟨_, rfl⟩
    rw [← hw8] at KA8 KB8 B8 O8 V7 U7 ⊢
    have RS := hide (rSame_any V7.out U7.out SM4.out SM4.out)
    rw [same_self] at RS
    unfold codeA at RS
    clear B7 O7 KA7 KB U7 hw8
    obtain ⟨g0, g1, g2, g3, g4, g5, g6⟩ := cells7 KA8.out
    obtain ⟨k0, k1, k2, k3, k4, k5, k6⟩ := cells7 KB8.out
    go_wp2_with fail
    refine RS.out.mono ?_
    rintro e w9 ⟨rfl, b9⟩
    have B9 := hide (bel_trans B8.out b9)
    have O9 := hide (O8.out.below b9)
    have KE := hide (keptB_any _ l g _ w9 (S0.out.bel B9.out) O9.out (by have := HL.out; omega))
    rw [← HN.out] at KE
    have KA9 := hide ((b9.block _ (lt_of_blk KA8.out)).trans KA8.out)
    have V9 := hide (V7.out.bel b9)
    clear b9 RS B8 O8 KA8 KB8 V7 g0 g1 g2 g3 g4 g5 g6 k0 k1 k2 k3 k4 k5 k6
    go_wp2_with fail
    refine KE.out.mono ?_
    rintro e wA ⟨rfl, bA⟩
    have BA := hide (bel_trans B9.out bA)
    have VA := hide (V9.out.bel bA)
    have KAA := hide ((bA.block _ (lt_of_blk KA9.out)).trans KA9.out)
    obtain ⟨g0, g1, g2, g3, g4, g5, g6⟩ := cells7 KAA.out
    have PU := hide (put_any (HC.out.bel BA.out) VA.out)
    unfold codeA at PU
    clear bA KE B9 O9 V9 KA9
    go_wp2_with fail
    refine PU.out.mono ?_
    rintro e wB ⟨hp, bB⟩
    have BB := hide (bel_trans BA.out bB)
    clear bB PU KAA VA g0 g1 g2 g3 g4 g5 g6
    rcases hp with ⟨hf, _⟩ | ⟨_, v, rfl, y⟩
    case inl => rw [HFC.out] at hf; cases hf
    have yo := y.own
    rw [HBC.out] at yo
    have cw := conv_str (sb_own yo HB.out)
    have ca := conv_str (S0.out.bel BB.out)
    have ss : ((strOf l).toList == (strOf l).toList) = true := by simp
    clear y yo
    go_wp2_with fail
    go_ret
    exact ⟨rfl, BB.out⟩
end Go.Proofs.YtigfjjolfeenaaaDoor.Ck

/- A slice of bytes as an argument. -/
namespace Go.Proofs.YtigfjjolfeenaaaDoor.Ck
open Go.ChangeShapes Go.WideShapes Go.ChangeAt Go.RowKit

theorem wf8 {z : Int} (h : (Lit.int .u8 z).wf = true) : 0 ≤ z ∧ z < 256 := by
  simp [Lit.wf, IntKind.min, IntKind.max, IntKind.bits, IntKind.signed] at h
  omega

theorem sb_open {H : Type} {enc : TypeId × Value → H} {W : World} {a : Option Addr} {len cap : Nat} {d : DataW H} {p : List MemPlace}
    (h : DataW.Trod enc Tryd.prog W 0 (fun _ => true) true 33 (.slice a len cap) d p) : ∃ zs, SB W (.slice a len cap) zs := by
  obtain ⟨fuel, hf⟩ := h
  rcases open_ints Tryd.underlying33 Tryd.underlying5 (by kernel_rfl) hf with ⟨hcs, _⟩ | ⟨x, l, c, zs, hcs, _, hl, hm, hz, _, hcell, hwz⟩
  · simp [Value.cells] at hcs
    obtain ⟨rfl, rfl, rfl⟩ := hcs
    exact ⟨[], SB.nilS W⟩
  · simp [Value.cells] at hcs
    obtain ⟨rfl, rfl, rfl⟩ := hcs
    have hz' : zs.length = cap := by simpa using hz
    have hlen : (zs.take len).length = len := by simp; omega
    refine ⟨zs.take len, fun z hm' => wf8 (hwz z (List.mem_of_mem_take hm')), some x, cap, by rw [hlen], by omega, hm, fun i hi => ?_⟩
    rw [hlen] at hi
    have hc := hcell i (by omega)
    obtain ⟨b, off, spot⟩ := x
    have hspot : spot = none := by simpa [Addr.add] using World.cell?_spot (hcell 0 (by omega))
    subst hspot
    rw [add_plain] at hc
    refine ⟨b, off, rfl, block_lt hc, ?_⟩
    have e : (zs.take len).getD i 0 = zs.getD i 0 := by simp [List.getD, hi]
    rw [e]
    exact hc

end Go.Proofs.YtigfjjolfeenaaaDoor.Ck
