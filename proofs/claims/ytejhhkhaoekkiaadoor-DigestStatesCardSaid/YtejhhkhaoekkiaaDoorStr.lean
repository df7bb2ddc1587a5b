/- A slice of bytes as a string. -/
import Derived.Test.YtejhhkhaoekkiaaDoorTag2
import Derived.Laws.BytesString
import Derived.Lib.SlBytesConst
namespace Go.Proofs.YtejhhkhaoekkiaaDoor.Ck
open Go.RowKit

def strOf (bs : List Int) : ByteArray := bs.foldl (fun r n => r.push (UInt8.ofNat n.toNat)) ByteArray.empty
theorem foldl_push (bs : List Int) : ∀ s : ByteArray, (bs.foldl (fun r n => r.push (UInt8.ofNat n.toNat)) s).data.toList = s.data.toList ++ bs.map (fun n => UInt8.ofNat n.toNat) := by
  induction bs with
  | nil => intro s; simp
  | cons b bs ih =>
    intro s
    rw [List.foldl_cons, ih]
    simp [ByteArray.push]
theorem strOf_toList (bs : List Int) : (strOf bs).toList = bs.map (fun n => UInt8.ofNat n.toNat) := by
  rw [ByteArray.toList_eq]
  unfold strOf
  rw [foldl_push]
  rfl
theorem strOf_eq {a b : List Int} (ha : Fit8 a) (hb : Fit8 b) : ((strOf a).toList == (strOf b).toList) = decide (a = b) := by
  rw [strOf_toList, strOf_toList]
  have key : ∀ (a b : List Int), Fit8 a → Fit8 b → (a.map (fun n => UInt8.ofNat n.toNat) = b.map (fun n => UInt8.ofNat n.toNat) ↔ a = b) := by
    intro a
    induction a with
    | nil => intro b _ _; cases b <;> simp
    | cons x a ih =>
      intro b ha hb
      cases b with
      | nil => simp
      | cons y b =>
        have h1 := ha x (by simp)
        have h2 := hb y (by simp)
        have e : UInt8.ofNat x.toNat = UInt8.ofNat y.toNat ↔ x = y := by
          constructor
          · intro h
            have := congrArg UInt8.toNat h
            simp at this
            omega
          · intro h; rw [h]
        simp only [List.map_cons, List.cons.injEq, e, ih b (fun z hz => ha z (by simp [hz])) (fun z hz => hb z (by simp [hz]))]
  by_cases h : a = b
  · subst h; simp
  · have h2 : ¬ a.map (fun n => UInt8.ofNat n.toNat) = b.map (fun n => UInt8.ofNat n.toNat) := fun e => h ((key a b ha hb).1 e)
    rw [decide_eq_false h]
    simpa using h2
theorem conv_str {w : World} {v : Value} {bs : List Int} (h : SB w v bs) : (convert 29 9 v).run Tryd.prog w = .ok (.string (strOf bs)) w := by
  rcases app_srcB h with ⟨ad, c, rfl, hc⟩ | ⟨c, rfl, rfl⟩
  · rw [run_convert_bytes_string w 29 9 5 _ _ _ Tryd.underlying29 Tryd.underlying5 Tryd.underlying9]
    have hl := run_loadCells_list (P := Tryd.prog) w ad (bv bs) hc
    rw [bv_len] at hl
    exact run_bytesToString w ad bs.length c bs hl
  · rw [run_convert_bytes_string w 29 9 5 _ _ _ Tryd.underlying29 Tryd.underlying5 Tryd.underlying9]
    rfl
theorem SB.marked (w : World) (zs : List Int) (fr : Nat × Nat) (hm : zs.length ≤ maxLen) (hf : Fit8 zs) : SB (w.alloc (.cells (bv zs).toArray 5 fr)) (.slice (some ⟨w.heap.size, 0, none⟩) zs.length zs.length) zs := by
  refine ⟨hf, _, _, rfl, Nat.le_refl _, hm, fun i hi => ⟨w.heap.size, 0, rfl, by simp, ?_⟩⟩
  rw [Nat.zero_add, cell_of_row _ _ i (bv zs).toArray 5 fr (heap_alloc_new w _)]
  simpa using bv_at zs i hi

end Go.Proofs.YtejhhkhaoekkiaaDoor.Ck
