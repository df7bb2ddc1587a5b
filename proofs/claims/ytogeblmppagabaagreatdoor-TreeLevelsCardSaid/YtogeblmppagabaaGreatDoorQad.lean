/- Texts of this proof, packed: contracts of the program's functions, and the plain model that they are held against. -/
import Derived.Test.YtogeblmppagabaaGreatDoorQac
import Derived.StillTailTactics
/- The contracts of marks. -/
namespace Go.Proofs.YtogeblmppagabaaGreatDoor.Ck
open Go.RowKit

def b8 (s : ByteArray) (i : Nat) : UInt8 := s.data.getD i 0
theorem byte_b8 (s : ByteArray) (i : Nat) : byte s i = ((b8 s i).toNat : Int) := rfl
theorem drop_b8 (s : ByteArray) (i : Nat) (h : i < s.size) : s.data.toList.drop i = b8 s i :: s.data.toList.drop (i + 1) := by
  have h2 : i < s.data.toList.length := h
  rw [List.drop_eq_getElem_cons h2]
  congr 1
  unfold b8
  have h3 : i < s.data.size := h
  rw [Array.getD_eq_getD_getElem?, Array.getElem?_eq_getElem h3]
  rfl
theorem drop_nil8 (s : ByteArray) (i : Nat) (h : ¬ i < s.size) : s.data.toList.drop i = [] := List.drop_of_length_le (by have : s.data.toList.length = s.size := rfl; omega)
theorem head2 (s : ByteArray) (i : Nat) (hi : i < s.size) :
    ((s.extract i s.size).extract 0 (min 2 ((s.extract i s.size).size : Int)).toNat).toList = if i + 1 < s.size then [b8 s i, b8 s (i + 1)] else [b8 s i] := by
  have hz : (s.extract i s.size).size = s.size - i := by rw [ByteArray.size_extract]; omega
  rw [Lib.extract_toList, cut_end, hz, List.drop_zero, drop_b8 s i hi]
  by_cases h : i + 1 < s.size
  · rw [if_pos h, drop_b8 s (i + 1) h, show (min 2 ((s.size - i : Nat) : Int)).toNat - 0 = 2 by omega]
    rfl
  · rw [if_neg h, drop_nil8 s (i + 1) h, show (min 2 ((s.size - i : Nat) : Int)).toNat - 0 = 1 by omega]
    rfl
def twoTab : List (List UInt8) := [[58, 61], [61, 61], [33, 61], [60, 61], [62, 61], [38, 38], [124, 124]]
theorem eq8 (a : UInt8) (k : Nat) (hk : k < 256) : (((a.toNat : Nat) : Int) == ((k : Nat) : Int)) = (a == UInt8.ofNat k) := by
  rw [Bool.eq_iff_iff]
  simp only [beq_iff_eq]
  constructor
  · intro h
    exact UInt8.toNat_inj.1 (by rw [show a.toNat = k by omega, UInt8.toNat_ofNat']; omega)
  · rintro rfl
    rw [UInt8.toNat_ofNat']
    omega
theorem two_tab (a b : UInt8) : two a.toNat b.toNat = decide ([a, b] ∈ twoTab) := by
  have e : ∀ (x : UInt8) (k : Nat), k < 256 → (((x.toNat : Nat) : Int) == ((k : Nat) : Int)) = (x == UInt8.ofNat k) := eq8
  unfold two
  rw [show ((58 : Int)) = ((58 : Nat) : Int) from rfl, show ((61 : Int)) = ((61 : Nat) : Int) from rfl, show ((33 : Int)) = ((33 : Nat) : Int) from rfl, show ((60 : Int)) = ((60 : Nat) : Int) from rfl, show ((62 : Int)) = ((62 : Nat) : Int) from rfl, show ((38 : Int)) = ((38 : Nat) : Int) from rfl, show ((124 : Int)) = ((124 : Nat) : Int) from rfl]
  rw [e a 58 (by omega), e a 61 (by omega), e a 33 (by omega), e a 60 (by omega), e a 62 (by omega), e a 38 (by omega), e a 124 (by omega), e b 61 (by omega), e b 38 (by omega), e b 124 (by omega)]
  rw [Bool.eq_iff_iff]
  simp [twoTab, or_assoc]
theorem idx_mem (l : List UInt8) (c : UInt8) : 0 ≤ Lib.indexByte l c ↔ c ∈ l := by
  induction l with
  | nil => simp [Lib.indexByte]
  | cons b l ih =>
    have hg := Lib.indexByte_ge l c
    unfold Lib.indexByte
    by_cases h : b = c
    · simp [h]
    · have h2 : (b == c) = false := by simpa using h
      rw [h2]
      simp only [Bool.false_eq_true, if_false, List.mem_cons]
      by_cases h3 : Lib.indexByte l c = -1
      · rw [h3] at ih ⊢
        simp only [beq_self_eq_true, if_true]
        constructor
        · intro h4; omega
        · rintro (h4 | h4)
          · exact absurd h4.symm h
          · exact ih.2 h4
      · have h4 : (Lib.indexByte l c == -1) = false := by simpa using h3
        rw [h4]
        simp only [Bool.false_eq_true, if_false]
        constructor
        · intro _; exact .inr (ih.1 (by omega))
        · intro _; omega
set_option maxRecDepth 100000 in
theorem one_tab (a : UInt8) : (0 ≤ Lib.indexByte [43, 45, 42, 47, 37, 60, 62, 61, 33, 40, 41, 123, 125, 91, 93, 44, 59] a) ↔ ((a.toNat : Nat) : Int) ∈ oneTab := by
  rw [idx_mem]
  have h : ∀ n : Fin 256, (UInt8.ofNat n.val ∈ [(43 : UInt8), 45, 42, 47, 37, 60, 62, 61, 33, 40, 41, 123, 125, 91, 93, 44, 59]) ↔ ((n.val : Int) ∈ oneTab) := by decide
  have := h ⟨a.toNat, UInt8.toNat_lt a⟩
  rwa [UInt8.ofNat_toNat] at this
theorem markF_two {s : ByteArray} {i : Nat} {L : List UInt8} (hL : L = if i + 1 < s.size then [b8 s i, b8 s (i + 1)] else [b8 s i]) : (i + 1 < s.size ∧ two (byte s i) (byte s (i + 1)) = true) ↔ L ∈ twoTab := by
  subst hL
  by_cases h : i + 1 < s.size
  · rw [if_pos h, byte_b8, byte_b8, two_tab]
    simp [h]
  · rw [if_neg h]
    constructor
    · intro h2
      exact absurd h2.1 h
    · intro h2
      simp [twoTab] at h2

theorem markLen_core (t : ByteArray) (L : List UInt8) (a : UInt8) (w : World) (h9 : t.size ≤ 9000) (h0 : 0 < t.size) (ha : t[0] = a) (hL : (t.extract 0 (min 2 (t.size : Int)).toNat).toList = L) :
    Calls Tryz.prog 148 #[.string t] w fun e w' => e = .returned (.int .i64 (if L ∈ twoTab then 2 else if ((a.toNat : Nat) : Int) ∈ oneTab then 1 else 0)) ∧ w = w' := by
  by_cases hm : L ∈ twoTab
  · rw [if_pos hm]
    simp [twoTab] at hm
    rcases hm with rfl | rfl | rfl | rfl | rfl | rfl | rfl <;>
    · go_enter Tryz.func148, Tryz.ntmps148
      go_wp2_with fail
      go_ret
      exact ⟨rfl, rfl⟩
  · rw [if_neg hm]
    simp [twoTab] at hm
    obtain ⟨m1, m2, m3, m4, m5, m6, m7⟩ := hm
    have c1 : (L == [58, 61]) = false := by simpa using m1
    have c2 : (L == [61, 61]) = false := by simpa using m2
    have c3 : (L == [33, 61]) = false := by simpa using m3
    have c4 : (L == [60, 61]) = false := by simpa using m4
    have c5 : (L == [62, 61]) = false := by simpa using m5
    have c6 : (L == [38, 38]) = false := by simpa using m6
    have c7 : (L == [124, 124]) = false := by simpa using m7
    clear m1 m2 m3 m4 m5 m6 m7
    have hc : Hid (∀ w, Calls Tryz.prog 168 #[.string ⟨#[43, 45, 42, 47, 37, 60, 62, 61, 33, 40, 41, 123, 125, 91, 93, 44, 59]⟩, .int .u8 (a.toNat : Int)] w fun e w' => e = .returned (.int .i64 (Lib.indexByte [43, 45, 42, 47, 37, 60, 62, 61, 33, 40, 41, 123, 125, 91, 93, 44, 59] a)) ∧ w = w') := fun w => by
      have := Tryz.strings_IndexByte ⟨#[43, 45, 42, 47, 37, 60, 62, 61, 33, 40, 41, 123, 125, 91, 93, 44, 59]⟩ (a.toNat : Int) w
      rw [show ((a.toNat : Int).toNat.toUInt8) = a by simp] at this
      exact this.mono fun _ _ h => ⟨h.1, h.2.symm⟩
    have hne : t.toList.isEmpty = false := by
      rw [ByteArray.toList_eq]
      have h1 : t.data.toList.length = t.size := rfl
      cases h2 : t.data.toList with
      | nil => rw [h2] at h1; simp at h1; omega
      | cons x l => rfl
    by_cases hp : ((a.toNat : Nat) : Int) ∈ oneTab
    · rw [if_pos hp]
      have hz := (one_tab a).2 hp
      generalize Lib.indexByte [43, 45, 42, 47, 37, 60, 62, 61, 33, 40, 41, 123, 125, 91, 93, 44, 59] a = z at *
      go_enter Tryz.func148, Tryz.ntmps148
      go_wp2_with (first | (go_at_call 168; refine (hc.out _).mono ?_; rintro e w1 ⟨rfl, rfl⟩))
      go_ret
      exact ⟨rfl, rfl⟩
    · rw [if_neg hp]
      have hz : ¬ 0 ≤ Lib.indexByte [43, 45, 42, 47, 37, 60, 62, 61, 33, 40, 41, 123, 125, 91, 93, 44, 59] a := fun h => hp ((one_tab a).1 h)
      generalize Lib.indexByte [43, 45, 42, 47, 37, 60, 62, 61, 33, 40, 41, 123, 125, 91, 93, 44, 59] a = z at *
      have hz2 : z < 0 := by omega
      clear hz
      go_enter Tryz.func148, Tryz.ntmps148
      go_wp2_with (first | (go_at_call 168; refine (hc.out _).mono ?_; rintro e w1 ⟨rfl, rfl⟩))
      go_ret
      exact ⟨rfl, rfl⟩
theorem markLen_any (s : ByteArray) (i : Nat) (w : World) (hs : s.size ≤ 9000) (hi : i < s.size) :
    Calls Tryz.prog 148 #[.string (s.extract i s.size)] w fun e w' => e = .returned (.int .i64 (markF s i)) ∧ w = w' := by
  have hsz : (s.extract i s.size).size = s.size - i := by rw [ByteArray.size_extract]; omega
  have h2 := head2 s i hi
  have h3 : (s.extract i s.size)[0]'(by omega) = b8 s i := by
    have e : (s.extract i s.size).data.toList = b8 s i :: s.data.toList.drop (i + 1) := by rw [cut_end, drop_b8 s i hi]
    show (s.extract i s.size).data.toList[0]'_ = _
    simp only [e]
    rfl
  refine (markLen_core _ _ _ w (by omega) (by omega) h3 h2).mono ?_
  rintro e w' ⟨rfl, rfl⟩
  refine ⟨congrArg Ending.returned (congrArg (Value.int .i64) ?_), rfl⟩
  unfold markF
  have hm := markF_two (s := s) (i := i) rfl
  rw [byte_b8] at hm ⊢
  by_cases h : (if i + 1 < s.size then [b8 s i, b8 s (i + 1)] else [b8 s i]) ∈ twoTab
  · rw [if_pos h, if_pos (hm.2 h)]
    rfl
  · rw [if_neg h, if_neg (fun h4 => h (hm.1 h4))]
    by_cases h5 : (((b8 s i).toNat : Nat) : Int) ∈ oneTab
    · rw [if_pos h5, if_pos ⟨hi, h5⟩]
      rfl
    · rw [if_neg h5, if_neg (fun h => h5 h.2)]
      rfl

end Go.Proofs.YtogeblmppagabaaGreatDoor.Ck

/- The contracts of the reader's mark, word and of what must stand apart. -/
namespace Go.Proofs.YtogeblmppagabaaGreatDoor.Ck
open Go.RowKit

/-- the errors that a reader can give up with -/
structure Er (w : World) (p : List Addr) : Prop where
  c0 : w.cell? ⟨0, 0, none⟩ = some (errV p 0)
  c1 : w.cell? ⟨1, 0, none⟩ = some (errV p 1)
  c5 : w.cell? ⟨5, 0, none⟩ = some (errV p 5)
  cs : ∃ te pe, w.cell? ⟨19, 0, none⟩ = some (.iface te pe)
theorem Tn.cell {g : Nat} {w w' : World} (h : Tn g w w') {k i : Nat} {v : Value} (hk : k ≠ g) (hc : w.cell? ⟨k, i, none⟩ = some v) : w'.cell? ⟨k, i, none⟩ = some v := by
  have hlt : k < w.heap.size := World.block_lt_of_cell? w ⟨k, i, none⟩ hc
  simp only [World.cell?, h.blk k hlt hk] at hc ⊢
  exact hc
theorem Er.tn {w w' : World} {p : List Addr} {g : Nat} (h : Er w p) (t : Tn g w w') (hg : 23 ≤ g) : Er w' p := by
  obtain ⟨te, pe, hs⟩ := h.cs
  exact ⟨t.cell (by omega) h.c0, t.cell (by omega) h.c1, t.cell (by omega) h.c5, te, pe, t.cell (by omega) hs⟩
theorem Er.drewN {w : World} {p : List Addr} (h : Er w p) (k : Nat) : Er (w.drewN k) p := ⟨h.c0, h.c1, h.c5, h.cs⟩
theorem Er.bel {w w' : World} {p : List Addr} (h : Er w p) (hb : Below w.heap.size w w') : Er w' p := by
  have ht : Tn w.heap.size w w' := Tn.of_bel hb
  have h1 : ∀ {k i : Nat} {v : Value}, w.cell? ⟨k, i, none⟩ = some v → w'.cell? ⟨k, i, none⟩ = some v := fun hc => ht.cell (Nat.ne_of_lt (World.block_lt_of_cell? w _ hc)) hc
  obtain ⟨te, pe, hs⟩ := h.cs
  exact ⟨h1 h.c0, h1 h.c1, h1 h.c5, te, pe, h1 hs⟩

theorem mixed : Tryz.prog.follows .mixedOrders = true := by kernel_rfl
theorem still_of_quiet {P : Program} {ops : Array Oper} {w : World} {Q : Act → Prop} : ∀ (l : List Oper) (a : Act), wpQuiet P ops (fun w' => w' = w) Q l a → wpStill P ops w Q l a
  | [], _, h => h
  | o :: rest, a, h => by
    unfold wpQuiet at h
    unfold wpStill
    split
    · rename_i hw
      rw [if_pos hw] at h
      obtain ⟨v, hv, hn⟩ := h
      have hv := hv w rfl
      have hn := still_of_quiet rest _ hn
      unfold Oper.quietAt at hv
      unfold Oper.still
      generalize (execOp a.eval o).run P w = r at *
      cases r with
      | ok n w' =>
        cases n <;> simp only [Oper.quietUpon, Oper.stillUpon] at hv ⊢
        case enter f args => exact ⟨hv.1, v, hv.2, hn⟩
        case value u => exact ⟨hv.1, by rw [hv.2]; exact hn⟩
        case skip => exact ⟨hv.1, by rw [← hv.2]; exact hn⟩
      | halt x w' => simp only [Oper.quietUpon] at hv
    · rename_i hw
      rw [if_neg hw] at h
      exact still_of_quiet rest _ h

/-- a region that draws its order, all but the end of which only reads, and whose end is forced -/
theorem wp_quiet_tail {P : Program} {id : Nat} {Q : Exit → Act → World → Prop} {a : Act} {w : World} {l : List Oper} (n : Nat) (hm : P.follows .mixedOrders = true) (hB : Region.lexTailB .any l.toArray n = true)
    (h : wpQuiet P l.toArray (fun w' => w' = w.drew) (fun a' => wpList P l.toArray Q (l.drop n) a' w.drew) (l.take n) a) : (Code.region id l.toArray true).wp P Q a w :=
  wp_region_still_tail n hm hB (still_of_quiet _ _ h)

def stop (ev : Value) (i : Nat) : Ending := .panicked [{ v := badV ev i, recovered := false }]

set_option maxHeartbeats 1000000 in
theorem apart_no (g : Nat) (s : ByteArray) (i : Nat) (w : World) (h : Rdr w g s i) (ht : tight s i = false) :
    Calls Tryz.prog 144 #[.pointer (some ⟨g, 0, none⟩)] w fun e w' => e = .returned (.tuple #[]) ∧ ∃ k, w' = w.drewN k := by
  have h1 := h.src
  have h2 := h.pos
  have H := hide h
  clear h
  unfold tight at ht
  by_cases hi : i < s.size
  · rw [decide_eq_true hi, Bool.true_and, byte_eq s i hi] at ht
    go_enter Tryz.func144, Tryz.ntmps144
    go_wp2_with fail
    go_quiet (first | (go_at_call 78; exact Calls.quiet_of (more_yes (H.out.drewN _) hi)) | (go_at_call 140; exact Calls.quiet_of_same ((wordByte_any _ _).mono fun _ _ h => ⟨h.1, h.2.symm⟩)))
    go_wp2_with fail
    go_end0
    exact ⟨rfl, _, rfl⟩
  · go_enter Tryz.func144, Tryz.ntmps144
    go_wp2_with fail
    go_quiet (first | (go_at_call 78; exact Calls.quiet_of (more_no (H.out.drewN _) hi)))
    go_wp2_with fail
    go_end0
    exact ⟨rfl, _, rfl⟩

set_option maxHeartbeats 1000000 in
theorem apart_yes (g : Nat) (s : ByteArray) (i : Nat) (p : List Addr) (w : World) (h : Rdr w g s i) (he : Er w p) (ht : tight s i = true) :
    Calls Tryz.prog 144 #[.pointer (some ⟨g, 0, none⟩)] w fun e w' => e = stop (errV p 1) i ∧ ∃ k, w' = w.drewN k := by
  have h1 := h.src
  have h2 := h.pos
  have h3 := he.c1
  have H := hide h
  clear h he
  unfold tight at ht
  rw [Bool.and_eq_true] at ht
  have hi : i < s.size := of_decide_eq_true ht.1
  have ht := ht.2
  rw [byte_eq s i hi] at ht
  go_enter Tryz.func144, Tryz.ntmps144
  go_wp2_with fail
  go_quiet (first | (go_at_call 78; exact Calls.quiet_of (more_yes (H.out.drewN _) hi)) | (go_at_call 140; exact Calls.quiet_of_same ((wordByte_any _ _).mono fun _ _ h => ⟨h.1, h.2.symm⟩)))
  go_wp2_with fail
  refine wp_quiet_tail 5 mixed (by kernel_rfl) ?_
  simp only [List.take_succ_cons, List.take_zero, List.drop_succ_cons, List.drop_zero]
  repeat (first | go_big_quiet_skip | (go_big_quiet_want; go_big_quiet_op; go_big_quiet_on))
  refine wpQuiet_nil ?_
  go_wp2_with fail
  refine (refuse_any _ _ i _).mono ?_
  rintro e w1 ⟨rfl, rfl⟩
  exact ⟨rfl, rfl, _, rfl⟩

end Go.Proofs.YtogeblmppagabaaGreatDoor.Ck

/- The contracts of the reader's mark and word. -/
namespace Go.Proofs.YtogeblmppagabaaGreatDoor.Ck
open Go.RowKit

/-- how a reading method ends -/
def Post (g : Nat) (s : ByteArray) (p : List Addr) (w : World) (e : Ending) (w' : World) : Got → Prop
  | .ok t j => e = .returned t.val ∧ Rdr w' g s j ∧ Tn g w w'
  | .bad k j => e = stop (errV p k) j ∧ Tn g w w'

theorem Tn.own {g n : Nat} {w a b : World} (h : Tn g w a) (k : Tn n a b) (hn : w.heap.size ≤ n) : Tn g w b :=
  ⟨k.os.trans h.os, k.tape.trans h.tape, k.output.trans h.output, Nat.le_trans h.size k.size, fun x hx hs => (k.blk x (Nat.lt_of_lt_of_le hx h.size) (by omega)).trans (h.blk x hx hs)⟩
theorem Rdr.tn {w w' : World} {g n : Nat} {s : ByteArray} {i : Nat} (h : Rdr w g s i) (t : Tn n w w') (hn : g ≠ n) : Rdr w' g s i := (t.blk g (lt_of_blk h) hn).trans h
theorem Tok.tn {w w' : World} {g n : Nat} {a b c d e : Value} (h : Tok w g a b c d e) (t : Tn n w w') (hn : g ≠ n) : Tok w' g a b c d e := (t.blk g (lt_of_blk h) hn).trans h
theorem Tok.bel {w w' : World} {g : Nat} {a b c d e : Value} (h : Tok w g a b c d e) (hb : Below w.heap.size w w') : Tok w' g a b c d e := (hb.block g (lt_of_blk h)).trans h
theorem bel_drew {w w' : World} (h : Below w.drew.heap.size w.drew w') : Below w.heap.size w w' := ⟨h.os, h.tape, h.output, h.size, h.block⟩

def tokZ : Obj := .cells #[.int .i64 0, .string ⟨#[]⟩, .int .i64 0, .int .u64 0, .int .i64 0] 67

set_option maxHeartbeats 1000000 in
theorem mark_any (g : Nat) (s : ByteArray) (i : Nat) (p : List Addr) (w : World) (h : Rdr w g s i) (he : Er w p) (hG : 23 ≤ g) (hs : s.size ≤ 9000) (hi : i < s.size) :
    Calls Tryz.prog 115 #[.pointer (some ⟨g, 0, none⟩)] w fun e w' => Post g s p w e w' (signF s i) := by
  have hb0 := hide (bel_new w tokZ)
  have hz0 : Hid (Tok (w.alloc tokZ) w.heap.size (.int .i64 0) (.string ⟨#[]⟩) (.int .i64 0) (.int .u64 0) (.int .i64 0)) := Go.Deep.blk_alloc_new _ _
  have H0 := hide (h.below hb0.out)
  have E0 := hide (he.bel hb0.out)
  have g1 := H0.out.src
  have g2 := H0.out.pos
  have g3 := H0.out.frz 1
  have hne : w.heap.size ≠ g := Nat.ne_of_gt (lt_of_blk h)
  have HM := hide (fun w => markLen_any s i w hs hi)
  have hm2 := markF_le2 s i
  have hme := markF_le s i (Nat.le_of_lt hi)
  have HS := hide (show signF s i = if markF s i = 0 then .bad 1 i else .ok ⟨5, cut s i (i + markF s i), 0, 0, i⟩ (i + markF s i) from rfl)
  clear h he
  unfold tokZ at *
  go_enter Tryz.func115, Tryz.ntmps115
  go_wp2_with fail
  generalize w.alloc (.cells #[.int .i64 0, .string ⟨#[]⟩, .int .i64 0, .int .u64 0, .int .i64 0] 67) = w0 at *
  refine wp_quiet_tail 14 mixed (by kernel_rfl) ?_
  simp only [List.take_succ_cons, List.take_zero, List.drop_succ_cons, List.drop_zero]
  repeat (first | go_big_quiet_skip | (go_big_quiet_want; go_big_quiet_op; first | go_big_quiet_on | (apply Exists.intro; refine ⟨?_, ?_⟩; exact (HM.out _).mono fun _ _ h => ⟨h.1, h.2.symm⟩; go_big_quiet_on)))
  refine wpQuiet_nil ?_
  by_cases hm : markF s i = 0
  · rw [if_pos hm] at HS
    obtain ⟨hr, ht⟩ := H0.out.set i (i : Int) rfl
    have x1 := (E0.out.tn ht hG).c1
    rw [hm]
    clear hme hm2
    have y2 := hr.pos
    go_wp2_with fail
    refine (refuse_any _ _ i _).mono ?_
    rintro e w1 ⟨rfl, rfl⟩
    refine ⟨rfl, ?_⟩
    rw [HS.out]
    exact ⟨rfl, ((Tn.of_bel hb0.out).trans ht).drewN 1⟩
  · rw [if_neg hm] at HS
    generalize markF s i = m at *
    obtain ⟨hr, ht⟩ := H0.out.set (i + m) ((i : Int) + (m : Int)) (by omega)
    have y1 := hr.src
    have y2 := hr.pos
    have Z1 := hide (hz0.out.tn ht hne)
    have R1 := hide hr
    have T1 := hide ((Tn.of_bel hb0.out).trans ht)
    clear hz0 H0 E0 HM ht hr hb0
    go_wp2_with fail
    refine (since_any g s i (i + m) 5 _ (R1.out.drewN 1) hs (by omega) (by omega)).mono ?_
    rintro e w2 ⟨rfl, hb2⟩
    have hb2 := bel_drew hb2
    have z2 := Z1.out.bel hb2
    have R2 := hide (R1.out.below hb2)
    have T2 := hide (T1.out.trans (Tn.of_bel hb2))
    have fz0 := blk_frz z2 0
    have fz1 := blk_frz z2 1
    have fz2 := blk_frz z2 2
    have fz3 := blk_frz z2 3
    have fz4 := blk_frz z2 4
    have cz0 := blk_cell z2 0 _ rfl
    have cz1 := blk_cell z2 1 _ rfl
    have cz2 := blk_cell z2 2 _ rfl
    have cz3 := blk_cell z2 3 _ rfl
    have cz4 := blk_cell z2 4 _ rfl
    obtain ⟨z3, t3⟩ := set5 z2 (.int .i64 5) (.string (cut s i (i + m))) (.int .i64 0) (.int .u64 0) (.int .i64 i)
    have Z3 := hide z3
    have T3 := hide t3
    clear hb2 R1 T1 Z1 z2 z3 t3 y1 y2
    go_wp2_with fail
    refine ret_tok w.heap.size rfl rfl Z3.out rfl ?_
    rw [HS.out]
    exact ⟨rfl, R2.out.tn T3.out (Ne.symm hne), T2.out.own T3.out (Nat.le_refl _)⟩

end Go.Proofs.YtogeblmppagabaaGreatDoor.Ck

/- The contract of the reader's word. -/
namespace Go.Proofs.YtogeblmppagabaaGreatDoor.Ck
open Go.RowKit

/-- what a walk asks of a token's variable -/
theorem Tok.all {w : World} {g : Nat} {a b c d e : Value} (h : Tok w g a b c d e) :
    (w.frozen? ⟨g, 0, none⟩ = false ∧ w.frozen? ⟨g, 1, none⟩ = false ∧ w.frozen? ⟨g, 2, none⟩ = false ∧ w.frozen? ⟨g, 3, none⟩ = false ∧ w.frozen? ⟨g, 4, none⟩ = false) ∧
    w.cell? ⟨g, 0, none⟩ = some a ∧ w.cell? ⟨g, 1, none⟩ = some b ∧ w.cell? ⟨g, 2, none⟩ = some c ∧ w.cell? ⟨g, 3, none⟩ = some d ∧ w.cell? ⟨g, 4, none⟩ = some e :=
  ⟨⟨blk_frz h 0, blk_frz h 1, blk_frz h 2, blk_frz h 3, blk_frz h 4⟩, blk_cell h 0 _ rfl, blk_cell h 1 _ rfl, blk_cell h 2 _ rfl, blk_cell h 3 _ rfl, blk_cell h 4 _ rfl⟩
theorem Tok.new (w : World) (a b c d e : Value) : Tok (w.alloc (.cells #[a, b, c, d, e] 67)) w.heap.size a b c d e := Go.Deep.blk_alloc_new _ _

set_option maxHeartbeats 1000000 in
theorem word_any (g : Nat) (s : ByteArray) (i : Nat) (p : List Addr) (w : World) (h : Rdr w g s i) (he : Er w p) (hG : 23 ≤ g) (hs : s.size ≤ 9000) (hi : i < s.size) :
    Calls Tryz.prog 111 #[.pointer (some ⟨g, 0, none⟩)] w fun e w' => Post g s p w e w' (wordF s i) := by
  have hb0 := hide (bel_new w tokZ)
  have hz0 : Hid (Tok (w.alloc tokZ) w.heap.size (.int .i64 0) (.string ⟨#[]⟩) (.int .i64 0) (.int .u64 0) (.int .i64 0)) := Go.Deep.blk_alloc_new _ _
  have H0 := hide (h.below hb0.out)
  have E0 := hide (he.bel hb0.out)
  have g2 := H0.out.pos
  have hne : w.heap.size ≠ g := Nat.ne_of_gt (lt_of_blk h)
  have hge := overF_ge isWord s i
  have hle := overF_le isWord s i (Nat.le_of_lt hi)
  have HW : Hid (wordF s i = if 24 < overF isWord s i - i then .bad 5 i else .ok ⟨if isKey (cut s i (overF isWord s i)) = true then 2 else 1, cut s i (overF isWord s i), 0, 0, i⟩ (overF isWord s i)) := rfl
  clear h he
  unfold tokZ at *
  go_enter Tryz.func111, Tryz.ntmps111
  go_wp2_with fail
  generalize w.alloc (.cells #[.int .i64 0, .string ⟨#[]⟩, .int .i64 0, .int .u64 0, .int .i64 0] 67) = w0 at *
  refine (over_word g s i w0 H0.out hs (Nat.le_of_lt hi)).mono ?_
  rintro e w1 ⟨rfl, r1, t1⟩
  have R1 := hide r1
  have T1 := hide ((Tn.of_bel hb0.out).trans t1)
  have E1 := hide (E0.out.tn t1 hG)
  have Z1 := hide (hz0.out.tn t1 hne)
  have y2 := r1.pos
  clear r1 t1 hz0 H0 E0 hb0 g2
  generalize overF isWord s i = j at *
  by_cases hl : 24 < j - i
  · rw [if_pos hl] at HW
    have x1 := E1.out.c5
    have hl2 : (24 : Int) < (j : Int) - (i : Int) := by omega
    go_wp2_with fail
    refine (refuse_any _ _ i _).mono ?_
    rintro e w2 ⟨rfl, rfl⟩
    refine ⟨rfl, ?_⟩
    rw [HW.out]
    exact ⟨rfl, T1.out⟩
  · rw [if_neg hl] at HW
    have hl2 : ¬ (24 : Int) < (j : Int) - (i : Int) := by omega
    go_wp2_with fail
    refine (since_any g s i j 1 _ R1.out hs hge hle).mono ?_
    rintro e w2 ⟨rfl, hb2⟩
    have R2 := hide (R1.out.below hb2)
    have T2 := hide (T1.out.trans (Tn.of_bel hb2))
    have Z2 := hide (Z1.out.bel hb2)
    have hN2 : w.heap.size < w2.heap.size := lt_of_blk Z2.out
    clear R1 E1 Z1 T1 y2
    go_wp2_with fail
    have hb3 := bel_new w2 (.cells #[.int .i64 1, .string (cut s i j), .int .i64 0, .int .u64 0, .int .i64 i] 67)
    have Y3 := hide (Tok.new w2 (.int .i64 1) (.string (cut s i j)) (.int .i64 0) (.int .u64 0) (.int .i64 i))
    have R3 := hide (R2.out.below hb3)
    have T3 := hide (T2.out.trans (Tn.of_bel hb3))
    have Z3 := hide (Z2.out.bel hb3)
    have hgn : g ≠ w2.heap.size := Nat.ne_of_lt (lt_of_blk R2.out)
    have hnn : w.heap.size ≠ w2.heap.size := Nat.ne_of_lt hN2
    clear R2 T2 Z2 hb3
    generalize w2.alloc (.cells #[.int .i64 1, .string (cut s i j), .int .i64 0, .int .u64 0, .int .i64 i] 67) = w3 at *
    generalize w2.heap.size = n at *
    refine (tokenKey_any _ _).mono ?_
    rintro e w4 ⟨rfl, rfl⟩
    by_cases hk : isKey (cut s i j) = true
    · rw [if_pos hk] at HW
      rw [hk]
      obtain ⟨⟨f0, f1, f2, f3, f4⟩, c0, c1, c2, c3, c4⟩ := Y3.out.all
      obtain ⟨y4, t4⟩ := set1 Y3.out 0 (.int .i64 2)
      have Y4 : Hid (Tok (w3.setCell ⟨n, 0, none⟩ (.int .i64 2)) n (.int .i64 2) (.string (cut s i j)) (.int .i64 0) (.int .u64 0) (.int .i64 i)) := y4
      have T4 := hide t4
      have z4 := Z3.out.tn t4 hnn
      obtain ⟨⟨m0, m1, m2, m3, m4⟩, k0, k1, k2, k3, k4⟩ := Y4.out.all
      obtain ⟨⟨a0, a1, a2, a3, a4⟩, b0, b1, b2, b3, b4⟩ := z4.all
      obtain ⟨z5, t5⟩ := set5 z4 (.int .i64 2) (.string (cut s i j)) (.int .i64 0) (.int .u64 0) (.int .i64 i)
      have Z5 := hide z5
      have T5 := hide t5
      clear y4 z4 z5 t4 t5
      go_wp2_with fail
      refine ret_tok w.heap.size rfl rfl Z5.out rfl ?_
      rw [HW.out]
      exact ⟨rfl, (R3.out.tn T4.out hgn).tn T5.out (Ne.symm hne), (T3.out.own T4.out (Nat.le_of_lt hN2)).own T5.out (Nat.le_refl _)⟩
    · have hk : isKey (cut s i j) = false := by simpa using hk
      rw [hk]
      rw [hk] at HW
      obtain ⟨_, c0, c1, c2, c3, c4⟩ := Y3.out.all
      obtain ⟨⟨a0, a1, a2, a3, a4⟩, b0, b1, b2, b3, b4⟩ := Z3.out.all
      obtain ⟨z5, t5⟩ := set5 Z3.out (.int .i64 1) (.string (cut s i j)) (.int .i64 0) (.int .u64 0) (.int .i64 i)
      have Z5 := hide z5
      have T5 := hide t5
      clear z5 t5
      go_wp2_with fail
      refine ret_tok w.heap.size rfl rfl Z5.out rfl ?_
      rw [HW.out]
      exact ⟨rfl, R3.out.tn T5.out (Ne.symm hne), T3.out.own T5.out (Nat.le_refl _)⟩

end Go.Proofs.YtogeblmppagabaaGreatDoor.Ck
