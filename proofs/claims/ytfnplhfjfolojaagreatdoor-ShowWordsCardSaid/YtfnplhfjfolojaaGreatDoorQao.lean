/- Texts of this proof, packed: contracts of the program's functions, and the plain model that they are held against. -/
import Derived.Test.YtfnplhfjfolojaaGreatDoorQan
set_option maxRecDepth 20000
set_option maxHeartbeats 4000000
namespace Go.Proofs.YtfnplhfjfolojaaGreatDoor.Ck
open Go.RowKit
def wdo (s : ByteArray) (j : Nat) : Bool := ZV (ZZ s j) || (decide (0 < j) && ZK (ZZ s j))
def wd7 (s : ByteArray) : Bool := (List.range s.size).all (wdo s) && (decide (1 <= s.size) && (decide (s.size <= 24) && !isKey s))
theorem wd7_no {s : ByteArray} {j : Nat} (hj : j < s.size) (h : wdo s j = false) : wd7 s = false := by
 unfold wd7
 have h1 : (List.range s.size).all (wdo s) = false := by
  rw [List.all_eq_false]
  exact ⟨j, List.mem_range.2 hj, by simp [h]⟩
 rw [h1]
 rfl
theorem wd7_yes {s : ByteArray} (h : ∀ i, i < s.size -> wdo s i = true) : wd7 s = (decide (1 <= s.size) && (decide (s.size <= 24) && !isKey s)) := by
 unfold wd7
 have h1 : (List.range s.size).all (wdo s) = true := List.all_eq_true.2 (fun i hi => h i (List.mem_range.1 hi))
 rw [h1]
 rfl
theorem rword_any (s : ByteArray) (hs : s.size <= 9000) (w : World) : Calls Tryz.prog 11 #[.string s] w fun e w' => e = .returned (.bool (wd7 s)) /\ Below w.heap.size w w' := by
  go_enter Tryz.func11, Tryz.ntmps11
  go_wp2_with fail
  go_loopw [3] (fun vi wr => ∃ j : Nat, j <= s.size /\ vi = .int .i64 j /\ wr = w /\ Hid (∀ i, i < j -> wdo s i = true)) (fun vi _ => s.size - (intOf vi).toNat)
  case atStart => exact ⟨0, Nat.zero_le _, rfl, rfl, fun i hi => absurd hi (Nat.not_lt_zero i)⟩
  case round =>
    obtain ⟨j, hj, rfl, rfl, I⟩ := hrel
    by_cases hjs : j < s.size
    · have hj2 : (j : Int) < (s.size : Int) := by omega
      have WD := Zb (show wdo s j = (ZV ((s[j]'hjs).toNat : Int) || (decide (0 < j) && ZK ((s[j]'hjs).toNat : Int))) by unfold wdo; rw [Yn s j hjs])
      go_wp2_with fail
      all_goals
        rename_i h3 h2 h1
        try simp only [Bool.not_eq_eq_eq_not, Bool.not_true, Bool.not_false, decide_eq_true_eq, decide_eq_false_iff_not, beq_eq_false_iff_ne, beq_iff_eq, ne_eq] at h1
        try simp only [Bool.not_eq_eq_eq_not, Bool.not_true, decide_eq_false_iff_not, beq_eq_false_iff_ne, ne_eq] at h2
        try simp only [Bool.not_eq_eq_eq_not, Bool.not_true, decide_eq_false_iff_not, beq_eq_false_iff_ne, ne_eq] at h3
        first
          | (exfalso; omega)
          | (have hq : wdo s j = true := (by rw [WD.out]; simp only [ZV, ZK, Bool.or_eq_true, Bool.and_eq_true, decide_eq_true_eq, beq_iff_eq]; omega)
             have I2 := Zb (show ∀ i, i < j + 1 -> wdo s i = true from fun i hi => (by
               rcases Nat.lt_or_ge i j with h | h
               · exact I.out i h
               · have : i = j := by omega
                 rw [this]; exact hq))
             refine ⟨⟨j + 1, by omega, congrArg (Value.int .i64) (by omega), trivial, I2⟩, ?_⟩
             simp [intOf]
             omega)
          | (have hq : wdo s j = false := (by rw [WD.out, Bool.eq_false_iff]; simp only [ne_eq, ZV, ZK, Bool.or_eq_true, Bool.and_eq_true, decide_eq_true_eq, beq_iff_eq]; omega)
             go_ret
             exact ⟨congrArg Ending.returned (congrArg Value.bool (wd7_no hjs hq).symm), Below.refl _ _⟩)
    · have hj2 : ¬ (j : Int) < (s.size : Int) := by omega
      have hje : j = s.size := by omega
      subst hje
      have Y := Zb (wd7_yes (s := s) I.out)
      go_wp2_with (first | (go_at_call 25; refine (ref05Key_any _ _).mono ?_; rintro e w4 ⟨rfl, rfl⟩))
      all_goals
        go_ret
        refine ⟨congrArg Ending.returned (congrArg Value.bool ?_), Below.refl _ _⟩
        rw [Y.out]
        first
          | (rw [decide_eq_true (show 1 <= s.size by omega), decide_eq_true (show s.size <= 24 by omega)]; rfl)
          | (rw [decide_eq_true (show 1 <= s.size by omega), decide_eq_false (show ¬ s.size <= 24 by omega)]; rfl)
          | (rw [decide_eq_false (show ¬ 1 <= s.size by omega)]; rfl)
end Go.Proofs.YtfnplhfjfolojaaGreatDoor.Ck
namespace Go.Proofs.YtfnplhfjfolojaaGreatDoor.Ck.Sho
open Go.RowKit
theorem rdF_pre (s : ByteArray) : ∀ (k i : Nat) (acc l : List Tk), s.size - i <= k -> rdF s i acc = .ok l -> ∃ r, l = acc ++ r := by
 intro k
 induction k with
 | zero =>
  intro i acc l h0 hr
  rw [rdF_end (by omega)] at hr
  injection hr with hr
  exact ⟨[], by rw [List.append_nil]; exact hr.symm⟩
 | succ k ih =>
  intro i acc l h0 hr
  by_cases hi : i < s.size
  · by_cases hl : acc.length = 2000
    · rw [rdF_full hi hl] at hr
      cases hr
    · cases ht : tokF s i with
      | bad q j =>
       rw [rdF_bad hi hl ht] at hr
       cases hr
      | ok t e =>
       rw [rdF_step hi hl ht] at hr
       have h1 := tokF_ok hi ht
       have h2 := blF_ge s e
       obtain ⟨r, hr2⟩ := ih (Ck.blF s e) (acc ++ [t]) l (by omega) hr
       exact ⟨t :: r, by rw [hr2, List.append_assoc]; rfl⟩
  · rw [rdF_end hi] at hr
    injection hr with hr
    exact ⟨[], by rw [List.append_nil]; exact hr.symm⟩
theorem overF_all (p : Int -> Bool) (s : ByteArray) : ∀ (k i : Nat), s.size - i <= k -> ∀ j, i <= j -> j < ZC p s i -> p (ZZ s j) = true := by
 intro k
 induction k with
 | zero =>
  intro i h0 j h1 h2
  rw [overF_end _ _ _ (by omega)] at h2
  omega
 | succ k ih =>
  intro i h0 j h1 h2
  by_cases hi : i < s.size
  · cases hp : p (ZZ s i) with
    | true =>
     rw [overF_pos _ _ _ hi hp] at h2
     by_cases hj : j = i
     · rw [hj]
       exact hp
     · exact ih (i + 1) (by omega) j (by omega) h2
    | false =>
     rw [overF_stop _ _ _ hp] at h2
     omega
  · rw [overF_end _ _ _ hi] at h2
    omega
theorem overF_to (p : Int -> Bool) (s : ByteArray) : ∀ (k i : Nat), s.size - i <= k -> i <= s.size -> (∀ j, i <= j -> j < s.size -> p (ZZ s j) = true) -> ZC p s i = s.size := by
 intro k
 induction k with
 | zero =>
  intro i h0 h1 h2
  rw [overF_end _ _ _ (by omega)]
  omega
 | succ k ih =>
  intro i h0 h1 h2
  by_cases hi : i < s.size
  · rw [overF_pos _ _ _ hi (h2 i (Nat.le_refl _) hi)]
    exact ih (i + 1) (by omega) (by omega) (fun j h3 h4 => h2 j (by omega) h4)
  · rw [overF_end _ _ _ hi]
    omega
theorem cut_all (s : ByteArray) : cut s 0 s.size = s := by
 unfold cut
 simp
theorem tok_one {s : ByteArray} {i : Nat} {t : Tk} {e : Nat} (h : tokF s i = .ok t e) (hk : t.kind = 1) : ZV (ZZ s i) = true /\ ¬ 24 < ZC ZJ s i - i /\ t.text = cut s i (ZC ZJ s i) /\ isKey (cut s i (ZC ZJ s i)) = false := by
 unfold tokF at h
 split at h
 · rename_i hl
   unfold wordF at h
   split at h
   · cases h
   · rename_i h24
     injection h with h1 h2
     subst h1
     refine ⟨hl, h24, rfl, ?_⟩
     cases hq : isKey (cut s i (ZC ZJ s i)) with
     | false => rfl
     | true =>
      simp [hq] at hk
 · split at h
   · unfold intF at h
     split at h
     · split at h
       · cases h
       · injection h with h1 h2
         subst h1
         simp at hk
     · cases h
   · split at h
     · unfold floatF at h
       (repeat' split at h)
       all_goals first
        | (cases h; done)
        | (injection h with h1 h2; subst h1; simp at hk)
     · unfold signF at h
       split at h
       · cases h
       · injection h with h1 h2
         subst h1
         simp at hk
theorem word_same (s : ByteArray) (hs : s.size <= 8192) : ZU s = wd7 s := by
 rw [Bool.eq_iff_iff]
 constructor
 · intro h
   unfold ZU toksF at h
   rw [if_pos hs] at h
   split at h
   · rename_i t hr
     simp only [Bool.and_eq_true, beq_iff_eq] at h
     obtain ⟨hk, ht⟩ := h
     have hk : t.kind = 1 := by omega
     unfold readF at hr
     by_cases hi : Ck.blF s 0 < s.size
     · cases htk : tokF s (Ck.blF s 0) with
       | bad q j =>
        rw [rdF_bad hi (by simp) htk] at hr
        cases hr
       | ok t1 e =>
        rw [rdF_step hi (by simp) htk] at hr
        obtain ⟨r, hr2⟩ := rdF_pre s _ _ _ _ (Nat.le_refl _) hr
        have e1 : t = t1 := by
         simp at hr2
         exact hr2.1
        subst e1
        obtain ⟨h1, h2, h3, h4⟩ := tok_one htk hk
        have hle := YC ZJ s (Ck.blF s 0) (by omega)
        have hge := overF_ge ZJ s (Ck.blF s 0)
        have hz : (cut s (Ck.blF s 0) (ZC ZJ s (Ck.blF s 0))).size = s.size := by
         have : t.text.data.toList.length = s.data.toList.length := by
          have e2 : t.text.toList = s.toList := ht
          rw [ByteArray.toList_eq, ByteArray.toList_eq] at e2
          rw [e2]
         rw [← h3]
         simpa using this
        have hz2 : (cut s (Ck.blF s 0) (ZC ZJ s (Ck.blF s 0))).size = ZC ZJ s (Ck.blF s 0) - Ck.blF s 0 := by
         unfold cut
         rw [ByteArray.size_extract]
         omega
        have h0 : Ck.blF s 0 = 0 := by omega
        rw [h0] at h1 h2 h3 h4 hz hz2 hle hge
        have hall := overF_all ZJ s _ 0 (Nat.le_refl _)
        have ho : ZC ZJ s 0 = s.size := by omega
        rw [ho, cut_all] at h4
        rw [wd7_yes]
        · rw [h4, decide_eq_true (show 1 <= s.size by omega), decide_eq_true (show s.size <= 24 by omega)]
          rfl
        · intro j hj
          have hw := hall j (Nat.zero_le _) (by omega)
          unfold ZJ at hw
          unfold wdo
          by_cases hj0 : j = 0
          · subst hj0
            rw [h1]
            rfl
          · rw [decide_eq_true (show 0 < j by omega), Bool.true_and]
            exact hw
     · rw [rdF_end hi] at hr
       injection hr with hr
       cases hr
   · cases h
 · intro h
   unfold wd7 at h
   simp only [Bool.and_eq_true, List.all_eq_true, List.mem_range, decide_eq_true_eq, Bool.not_eq_true'] at h
   obtain ⟨hall, h1, h24, hkey⟩ := h
   have hl : ZV (ZZ s 0) = true := by
    have := hall 0 (by omega)
    unfold wdo at this
    simpa using this
   have hword : ∀ j, 0 <= j -> j < s.size -> ZJ (ZZ s j) = true := fun j _ hj => by
    have := hall j hj
    unfold wdo at this
    unfold ZJ
    simp only [Bool.or_eq_true, Bool.and_eq_true] at this ⊢
    rcases this with h | h
    · exact .inl h
    · exact .inr h.2
   have ho := overF_to ZJ s _ 0 (Nat.le_refl _) (Nat.zero_le _) hword
   have hb : Yc (ZZ s 0) = false := by
    rw [Bool.eq_false_iff]
    intro hb
    unfold ZV at hl
    unfold Yc at hb
    simp only [Bool.or_eq_true, decide_eq_true_eq, beq_iff_eq] at hl hb
    omega
   have hc : comm s 0 = false := by
    rw [Bool.eq_false_iff]
    intro hb
    unfold ZV at hl
    unfold comm at hb
    simp only [Bool.or_eq_true, Bool.and_eq_true, decide_eq_true_eq, beq_iff_eq] at hl hb
    omega
   have hbl : Ck.blF s 0 = 0 := by
    unfold Ck.blF
    rw [overF_stop _ _ _ hb, skipC_no hc]
   have htk : tokF s 0 = .ok ⟨1, s, 0, 0, 0⟩ s.size := by
    unfold tokF
    rw [if_pos hl]
    unfold wordF
    rw [ho, if_neg (by omega), cut_all, hkey]
    rfl
   unfold ZU toksF readF
   rw [if_pos hs, hbl, rdF_step (by omega) (by simp) htk, rdF_end (by have := blF_ge s s.size; omega)]
   simp
theorem ZB {w : World} {B g : Nat} {bo : Option Nat} {l : List UInt8} {ms mt : Value} {k : Int} (h : Pg w B g bo l ms mt k) (b : Nat) (hb : b = w.heap.size) (ts : List ByteArray) (c : Nat) (hn : ts.length <= 100) (hl : l.length + (Zv ts).length <= 140737488355328) :
 Calls Tryz.prog 98 #[.pointer (some ⟨g, 0, none⟩), .slice (some ⟨b, 0, none⟩) ts.length c] (w.alloc (.cells (ts.map Value.string).toArray 9)) fun e w' => e = .returned (.tuple #[]) /\ ∃ bo', Pg w' B g bo' (l ++ Zv ts) ms mt k /\ Fx g bo w bo' w' := by
 subst hb
 exact put_new h ts c hn hl
theorem Zw (a : ByteArray) : (Zv [a]).length = a.data.toList.length := by simp [Zv]
theorem Ym (a b : ByteArray) : (Zv [a, b]).length = a.data.toList.length + b.data.toList.length := by simp [Zv]
theorem Yp (a b c : ByteArray) : (Zv [a, b, c]).length = a.data.toList.length + (b.data.toList.length + c.data.toList.length) := by simp [Zv]
theorem lenB5 (a b c d e : ByteArray) : (Zv [a, b, c, d, e]).length = a.data.toList.length + (b.data.toList.length + (c.data.toList.length + (d.data.toList.length + e.data.toList.length))) := by simp [Zv]
def RuleP (K : Nat) (tx : Nd -> List UInt8) (wB : World) (n : Nd) : Prop :=
 ∀ (w : World) (g : Nat) (bo : Option Nat) (l : List UInt8) (ms mt : Value) (k : Int) (v : Value), Pg w wB.heap.size g bo l ms mt k -> Below wB.heap.size wB w -> Zq wB n v -> l.length + (tx n).length <= 140737488355328 →
  Calls Tryz.prog K #[.pointer (some ⟨g, 0, none⟩), v] w fun e w' => e = .returned (.tuple #[]) /\ ∃ bo', Pg w' wB.heap.size g bo' (l ++ tx n) ms mt k /\ Fx g bo w bo' w'
theorem within_from {wB w : World} {g : Nat} {bo : Option Nat} {l : List UInt8} {ms mt : Value} {k : Int} (hp : Pg w wB.heap.size g bo l ms mt k) (hB : Below wB.heap.size wB w) (o c : ByteArray) (n : Nd) (v : Value) (hv : Zq wB n v) (tx : Nd -> List UInt8) (hr : RuleP 64 tx wB n) (hl : l.length + (o.data.toList ++ (tx n ++ c.data.toList)).length <= 140737488355328) :
 Calls Tryz.prog 102 #[.pointer (some ⟨g, 0, none⟩), .string o, v, .string c] w fun e w' => e = .returned (.tuple #[]) /\ ∃ bo', Pg w' wB.heap.size g bo' (l ++ (o.data.toList ++ (tx n ++ c.data.toList))) ms mt k /\ Fx g bo w bo' w' := by
 have hv0 := hv
 obtain ⟨kd, ps, nm, t, nz, z, ob, bi, ks⟩ := n
 unfold Zq at hv
 obtain ⟨s, rfl, hkk⟩ := hv
 obtain ⟨oa, cap, rfl, hsh⟩ := hkk.kid
 obtain ⟨len, hln⟩ : ∃ len, len = ks.length := ⟨_, rfl⟩
 rw [← hln] at hkk hv0 ⊢
 obtain ⟨T, hT⟩ : ∃ T, T = tx (.mk kd ps nm t nz z ob bi ks) := ⟨_, rfl⟩
 rw [← hT] at hl ⊢
 have HR := Zb (fun w' g' bo' l' ms' mt' k' hp' hB' hl' => hr w' g' bo' l' ms' mt' k' _ hp' hB' hv0 (by rw [← hT]; exact hl'))
 rw [← hT] at HR
 have hb1 := Zd w (.cells #[.int .i64 kd, .int .i64 ps, .string nm, .int .i64 t, .int .i64 nz, .int .i64 z, .int .i64 ob, .int .u64 bi, .slice oa len cap] 29)
 have Na0 := Zb (show Nod (w.alloc (.cells #[.int .i64 kd, .int .i64 ps, .string nm, .int .i64 t, .int .i64 nz, .int .i64 z, .int .i64 ob, .int .u64 bi, .slice oa len cap] 29)) w.heap.size (.int .i64 kd) (.int .i64 ps) (.string nm) (.int .i64 t) (.int .i64 nz) (.int .i64 z) (.int .i64 ob) (.int .u64 bi) (.slice oa len cap) from B_ _ _)
 have Qa0 := Zb (hp.new (Nat.le_refl w.heap.size))
 have P0 := Zb (hp.bel hb1)
 have F0 := Zb (Fx.of_bel (g := g) (bo := bo) hb1)
 have W0 := Zb (hB.trans (hb1.mono hB.size))
 have HL := Zb hl
 have S1 := Zb (show w.heap.size + 1 = (w.alloc (.cells #[.int .i64 kd, .int .i64 ps, .string nm, .int .i64 t, .int .i64 nz, .int .i64 z, .int .i64 ob, .int .u64 bi, .slice oa len cap] 29)).heap.size by simp)
 clear hp hB hl hr hkk hln hsh hb1 hT hv0
 go_enter Tryz.func102, Tryz.ntmps102
 go_wp2_with fail
 generalize w.alloc _ = w1 at *
 refine (ZB P0.out (w.heap.size + 1) S1.out [o] 1 (by simp) (by have hz := HL.out; have z0 := Zw o; first | omega | (simp only [List.length_append] at hz ⊢; omega) | (simp only [List.length_append] at hz; omega) | (simp only [List.length_append]; omega))).mono ?_
 rintro e y0 ⟨rfl, bb0, pp, tt⟩
 have P1 := Zb pp
 have F1 := Zb (F0.out.trans (tt))
 have W1 := Zb (W0.out.trans ((tt).bel P0.out))
 have Na1 := Zb (Nod.fx Na0.out (tt) Qa0.out.1 Qa0.out.2)
 have Qa1 := Zb (And.intro Qa0.out.1 ((tt).ne (Ze Na0.out) Qa0.out.2))
 clear pp tt P0 F0 W0 Na0 Qa0 
 obtain ⟨_, va0, va1, va2, va3, va4, va5, va6, va7, va8⟩ := Na1.out.all
 go_wp2_with fail
 refine (HR.out _ _ _ _ _ _ _ P1.out W1.out (by have hz := HL.out; have z0 := Zw o; first | omega | (simp only [List.length_append] at hz ⊢; omega) | (simp only [List.length_append] at hz; omega) | (simp only [List.length_append]; omega))).mono ?_
 rintro e y1 ⟨rfl, bb1, pp, tt⟩
 have P2 := Zb pp
 have F2 := Zb (F1.out.trans (tt))
 have W2 := Zb (W1.out.trans ((tt).bel P1.out))
 have Na2 := Zb (Nod.fx Na1.out (tt) Qa1.out.1 Qa1.out.2)
 have Qa2 := Zb (And.intro Qa1.out.1 ((tt).ne (Ze Na1.out) Qa1.out.2))
 clear pp tt P1 F1 W1 Na1 Qa1 va0 va1 va2 va3 va4 va5 va6 va7 va8
 go_wp2_with fail
 refine (ZB P2.out _ rfl [c] 1 (by simp) (by have hz := HL.out; have z0 := Zw o; have z1 := Zw c; first | omega | (simp only [List.length_append] at hz ⊢; omega) | (simp only [List.length_append] at hz; omega) | (simp only [List.length_append]; omega))).mono ?_
 rintro e y2 ⟨rfl, bb2, pp, tt⟩
 have P3 := Zb pp
 have F3 := Zb (F2.out.trans (tt))
 have W3 := Zb (W2.out.trans ((tt).bel P2.out))
 have Na3 := Zb (Nod.fx Na2.out (tt) Qa2.out.1 Qa2.out.2)
 have Qa3 := Zb (And.intro Qa2.out.1 ((tt).ne (Ze Na2.out) Qa2.out.2))
 clear pp tt P2 F2 W2 Na2 Qa2 
 go_wp2_with fail
 go_end0
 exact ⟨rfl, _, by simpa [Zv] using P3.out, F3.out⟩
def loB (n : Nd) : Bool := decide (holdF n.kind n.name < 6)
def prt (b : Bool) (t : List UInt8) : List UInt8 := if b = true then 40 :: (t ++ [41]) else t
theorem part_from {wB w : World} {g : Nat} {bo : Option Nat} {l : List UInt8} {ms mt : Value} {k : Int} (hp : Pg w wB.heap.size g bo l ms mt k) (hB : Below wB.heap.size wB w) (n : Nd) (v : Value) (hv : Zq wB n v) (b : Bool) (tx : Nd -> List UInt8) (hr : RuleP 64 tx wB n) (hl : l.length + (prt b (tx n)).length <= 140737488355328) :
 Calls Tryz.prog 141 #[.pointer (some ⟨g, 0, none⟩), v, .bool b] w fun e w' => e = .returned (.tuple #[]) /\ ∃ bo', Pg w' wB.heap.size g bo' (l ++ (prt b (tx n))) ms mt k /\ Fx g bo w bo' w' := by
 have hv0 := hv
 obtain ⟨kd, ps, nm, t, nz, z, ob, bi, ks⟩ := n
 unfold Zq at hv
 obtain ⟨s, rfl, hkk⟩ := hv
 obtain ⟨oa, cap, rfl, hsh⟩ := hkk.kid
 obtain ⟨len, hln⟩ : ∃ len, len = ks.length := ⟨_, rfl⟩
 rw [← hln] at hkk hv0 ⊢
 obtain ⟨T, hT⟩ : ∃ T, T = tx (.mk kd ps nm t nz z ob bi ks) := ⟨_, rfl⟩
 have HR := Zb (fun w' g' bo' l' ms' mt' k' hp' hB' hl' => hr w' g' bo' l' ms' mt' k' _ hp' hB' hv0 (by rw [← hT]; exact hl'))
 have hi := Zb (fun (w' : World) (bo' : Option Nat) (l' : List UInt8) hp' hB' hl' => within_from (w := w') (g := g) (bo := bo') (l := l') (ms := ms) (mt := mt) (k := k) hp' hB' ⟨#[40]⟩ ⟨#[41]⟩ _ _ hv0 tx hr hl')
 rw [← hT] at hl HR hi ⊢
 have hb1 := Zd w (.cells #[.int .i64 kd, .int .i64 ps, .string nm, .int .i64 t, .int .i64 nz, .int .i64 z, .int .i64 ob, .int .u64 bi, .slice oa len cap] 29)
 have Na0 := Zb (show Nod (w.alloc (.cells #[.int .i64 kd, .int .i64 ps, .string nm, .int .i64 t, .int .i64 nz, .int .i64 z, .int .i64 ob, .int .u64 bi, .slice oa len cap] 29)) w.heap.size (.int .i64 kd) (.int .i64 ps) (.string nm) (.int .i64 t) (.int .i64 nz) (.int .i64 z) (.int .i64 ob) (.int .u64 bi) (.slice oa len cap) from B_ _ _)
 have Qa0 := Zb (hp.new (Nat.le_refl w.heap.size))
 have P0 := Zb (hp.bel hb1)
 have F0 := Zb (Fx.of_bel (g := g) (bo := bo) hb1)
 have W0 := Zb (hB.trans (hb1.mono hB.size))
 have HL := Zb hl
 have S1 := Zb (show w.heap.size + 1 = (w.alloc (.cells #[.int .i64 kd, .int .i64 ps, .string nm, .int .i64 t, .int .i64 nz, .int .i64 z, .int .i64 ob, .int .u64 bi, .slice oa len cap] 29)).heap.size by simp)
 clear hp hB hr hkk hln hsh hb1 hT hv0
 cases b with
 | true =>
  unfold prt at hl ⊢
  rw [if_pos rfl] at hl ⊢
  have HL2 := Zb (show l.length + (([40] : List UInt8) ++ (T ++ [41])).length <= 140737488355328 from hl)
  clear hl
  go_enter Tryz.func141, Tryz.ntmps141
  go_wp2_with fail
  generalize w.alloc _ = w1 at *
  refine (hi.out w1 bo l P0.out W0.out HL2.out).mono ?_
  rintro e y ⟨rfl, b1, p1, t1⟩
  have R := Zb (And.intro p1 (F0.out.trans t1))
  clear p1 t1
  go_wp2_with fail
  go_end0
  exact ⟨rfl, b1, R.out.1, R.out.2⟩
 | false =>
  unfold prt at hl ⊢
  rw [if_neg (by decide)] at hl ⊢
  have HL2 := Zb hl
  clear hl
  go_enter Tryz.func141, Tryz.ntmps141
  go_wp2_with fail
  generalize w.alloc _ = w1 at *
  refine (HR.out w1 g bo l ms mt k P0.out W0.out HL2.out).mono ?_
  rintro e y ⟨rfl, b1, p1, t1⟩
  have R := Zb (And.intro p1 (F0.out.trans t1))
  clear p1 t1
  go_wp2_with fail
  go_end0
  exact ⟨rfl, b1, R.out.1, R.out.2⟩
theorem unary_from {wB w : World} {g : Nat} {bo : Option Nat} {l : List UInt8} {ms mt : Value} {k : Int} (hp : Pg w wB.heap.size g bo l ms mt k) (hB : Below wB.heap.size wB w) (ps : Int) (nm : ByteArray) (t nz z ob bi : Int) (x : Nd) (v : Value) (hv : Zq wB (.mk 30 ps nm t nz z ob bi [x]) v) (tx : Nd -> List UInt8) (hr : RuleP 64 tx wB x) (hl : l.length + (nm.data.toList ++ (if sgnF nm = true then prt (loB x) (tx x) else 40 :: (tx x ++ [41]))).length <= 140737488355328) :
 Calls Tryz.prog 103 #[.pointer (some ⟨g, 0, none⟩), v] w fun e w' => e = .returned (.tuple #[]) /\ ∃ bo', Pg w' wB.heap.size g bo' (l ++ (nm.data.toList ++ (if sgnF nm = true then prt (loB x) (tx x) else 40 :: (tx x ++ [41])))) ms mt k /\ Fx g bo w bo' w' := by
 unfold Zq at hv
 obtain ⟨s, rfl, hkk⟩ := hv
 obtain ⟨oa, cap, rfl, hsh⟩ := hkk.kid
 obtain ⟨a, rfl, hc1, hc2, hkid⟩ : ∃ a, oa = some a /\ ([x] : List Nd).length <= cap /\ cap <= maxLen /\ ∀ j n, ([x] : List Nd)[j]? = some n -> ZD wB a (9 * j) n := by
  rcases hsh with h | h
  · cases h
  · exact h
 unfold maxLen at hc2
 have hc1 : 1 <= cap := by simpa using hc1
 have kA0 := hkid 0 _ rfl
 simp only [List.length_cons, List.length_nil, Nat.zero_add] at hkk ⊢
 have hb1 := Zd w (.cells #[.int .i64 30, .int .i64 ps, .string nm, .int .i64 t, .int .i64 nz, .int .i64 z, .int .i64 ob, .int .u64 bi, .slice (some a) 1 cap] 29)
 have Wx := hB.trans (hb1.mono hB.size)
 obtain ⟨kd', ps', nm', t', nz', z', ob', bi', ks'⟩ := x
 obtain ⟨lo, hlo⟩ : ∃ lo, lo = loB (.mk kd' ps' nm' t' nz' z' ob' bi' ks') := ⟨_, rfl⟩
 rw [← hlo] at hl ⊢
 have HLO := Zb hlo
 clear hlo
 have hA := ZD.bel hB a (9 * 0) _ kA0
 obtain ⟨oa', cap', c0, c1, c2, c3, c4, c5, c6, c7, c8, _⟩ := (ZD.bel Wx a (9 * 0) _ kA0).cells
 obtain ⟨oa2, cap2, e0, e1, e2, e3, e4, e5, e6, e7, e8, hk2⟩ := kA0.cells
 have hbw := Wx.cell (World.block_lt_of_cell? wB _ e8)
 rw [c8, e8] at hbw
 injection hbw with hbw
 injection hbw with h1 h2 h3
 subst h1 h3
 obtain ⟨len', hln'⟩ : ∃ len', len' = ks'.length := ⟨_, rfl⟩
 rw [← hln'] at c8 hk2
 rw [Nat.zero_mul, ZO] at c0 c1 c2 c3 c4 c5 c6 c7 c8
 have hx : Zq wB (.mk kd' ps' nm' t' nz' z' ob' bi' ks') (.agg #[.int .i64 kd', .int .i64 ps', .string nm', .int .i64 t', .int .i64 nz', .int .i64 z', .int .i64 ob', .int .u64 bi', .slice oa' len' cap']) := by unfold Zq; exact ⟨_, rfl, hk2⟩
 obtain ⟨T, hT⟩ : ∃ T, T = tx (.mk kd' ps' nm' t' nz' z' ob' bi' ks') := ⟨_, rfl⟩
 have HI := Zb (fun (w' : World) (bo' : Option Nat) (l' : List UInt8) hp' hB' hl' => within_from (w := w') (g := g) (bo := bo') (l := l') (ms := ms) (mt := mt) (k := k) hp' hB' ⟨#[40]⟩ ⟨#[41]⟩ _ _ hx tx hr hl')
 have HP := Zb (fun (w' : World) (bo' : Option Nat) (l' : List UInt8) b' hp' hB' hl' => part_from (w := w') (g := g) (bo := bo') (l := l') (ms := ms) (mt := mt) (k := k) hp' hB' _ _ hx b' tx hr hl')
 rw [← hT] at hl HI HP ⊢
 have hb2 := Zd (w.alloc (.cells #[.int .i64 30, .int .i64 ps, .string nm, .int .i64 t, .int .i64 nz, .int .i64 z, .int .i64 ob, .int .u64 bi, .slice (some a) 1 cap] 29)) (.cells #[.int .i64 kd', .int .i64 ps', .string nm', .int .i64 t', .int .i64 nz', .int .i64 z', .int .i64 ob', .int .u64 bi', .slice oa' len' cap'] 29)
 have s1 : (w.alloc (.cells #[.int .i64 30, .int .i64 ps, .string nm, .int .i64 t, .int .i64 nz, .int .i64 z, .int .i64 ob, .int .u64 bi, .slice (some a) 1 cap] 29)).heap.size = w.heap.size + 1 := by simp
 have Na0 := Zb (show Nod ((w.alloc (.cells #[.int .i64 30, .int .i64 ps, .string nm, .int .i64 t, .int .i64 nz, .int .i64 z, .int .i64 ob, .int .u64 bi, .slice (some a) 1 cap] 29)).alloc (.cells #[.int .i64 kd', .int .i64 ps', .string nm', .int .i64 t', .int .i64 nz', .int .i64 z', .int .i64 ob', .int .u64 bi', .slice oa' len' cap'] 29)) w.heap.size (.int .i64 30) (.int .i64 ps) (.string nm) (.int .i64 t) (.int .i64 nz) (.int .i64 z) (.int .i64 ob) (.int .u64 bi) (.slice (some a) 1 cap) from (hb2.block _ (by rw [s1]; omega)).trans (B_ w _))
 have Nb0 := (show Nod ((w.alloc (.cells #[.int .i64 30, .int .i64 ps, .string nm, .int .i64 t, .int .i64 nz, .int .i64 z, .int .i64 ob, .int .u64 bi, .slice (some a) 1 cap] 29)).alloc (.cells #[.int .i64 kd', .int .i64 ps', .string nm', .int .i64 t', .int .i64 nz', .int .i64 z', .int .i64 ob', .int .u64 bi', .slice oa' len' cap'] 29)) (w.alloc (.cells #[.int .i64 30, .int .i64 ps, .string nm, .int .i64 t, .int .i64 nz, .int .i64 z, .int .i64 ob, .int .u64 bi, .slice (some a) 1 cap] 29)).heap.size (.int .i64 kd') (.int .i64 ps') (.string nm') (.int .i64 t') (.int .i64 nz') (.int .i64 z') (.int .i64 ob') (.int .u64 bi') (.slice oa' len' cap') from B_ _ _)
 rw [s1] at Nb0
 have Nb0 := Zb Nb0
 have Qa0 := Zb (hp.new (Nat.le_refl w.heap.size))
 have Qb0 := Zb (hp.new (Nat.le_succ w.heap.size))
 have hb12 := Zc hb1 hb2
 have P0 := Zb (hp.bel hb12)
 have F0 := Zb (Fx.of_bel (g := g) (bo := bo) hb12)
 have W0 := Zb (hB.trans (hb12.mono hB.size))
 have S1 := Zb (show w.heap.size + 1 + 1 = ((w.alloc (.cells #[.int .i64 30, .int .i64 ps, .string nm, .int .i64 t, .int .i64 nz, .int .i64 z, .int .i64 ob, .int .u64 bi, .slice (some a) 1 cap] 29)).alloc (.cells #[.int .i64 kd', .int .i64 ps', .string nm', .int .i64 t', .int .i64 nz', .int .i64 z', .int .i64 ob', .int .u64 bi', .slice oa' len' cap'] 29)).heap.size by simp)
 clear hp hB hr hkk hsh hb1 hb2 hb12 hT hkid kA0 hA Wx e0 e1 e2 e3 e4 e5 e6 e7 e8 hk2 hx hln' s1
 cases hsg : sgnF nm with
 | true =>
  have HSG := Zb hsg
  rw [hsg, if_pos rfl] at hl
  rw [if_pos rfl]
  have HL := Zb hl
  clear hl hsg
  go_enter Tryz.func103, Tryz.ntmps103
  go_wp2_with fail
  generalize (w.alloc _).alloc _ = w1 at *
  refine (ZB P0.out (w.heap.size + 1 + 1) S1.out [nm] 1 (by simp) (by have hz := HL.out; have z0 := Zw nm; first | omega | (simp only [List.length_append] at hz ⊢; omega) | (simp only [List.length_append] at hz; omega) | (simp only [List.length_append]; omega))).mono ?_
  rintro e y0 ⟨rfl, bb0, pp, tt⟩
  have P1 := Zb pp
  have F1 := Zb (F0.out.trans (tt))
  have W1 := Zb (W0.out.trans ((tt).bel P0.out))
  have Na1 := Zb (Nod.fx Na0.out (tt) Qa0.out.1 Qa0.out.2)
  have Qa1 := Zb (And.intro Qa0.out.1 ((tt).ne (Ze Na0.out) Qa0.out.2))
  have Nb1 := Zb (Nod.fx Nb0.out (tt) Qb0.out.1 Qb0.out.2)
  have Qb1 := Zb (And.intro Qb0.out.1 ((tt).ne (Ze Nb0.out) Qb0.out.2))
  clear pp tt P0 F0 W0 Na0 Qa0 Nb0 Qb0 
  obtain ⟨_, va0, va1, va2, va3, va4, va5, va6, va7, va8⟩ := Na1.out.all
  go_wp2_with fail
  refine (sign_any nm _).mono ?_
  rintro e yy ⟨rfl, rfl⟩
  rw [HSG.out]
  clear va0 va1 va2 va3 va4 va5 va6 va7 va8 c0 c1 c2 c3 c4 c5 c6 c7 c8
  go_wp2_with fail
  refine wp_region_held_drew (S := fun w' => Nod w' (w.heap.size + 1) (.int .i64 kd') (.int .i64 ps') (.string nm') (.int .i64 t') (.int .i64 nz') (.int .i64 z') (.int .i64 ob') (.int .u64 bi') (.slice oa' len' cap')) ZI Nb1.out (fun hH => ?_)
  have J0 := Zb (show Below y0.heap.size y0 y0.drew from Zm (Below.refl _ _))
  generalize y0.drew = d0 at *
  refine H_ 0 (v := ?_) ?_ hH ?_
  rotate_left 1
  · (intro w _; go_simp <;> with_reducible rfl)
  simp only [Act.put, S_]
  refine H_ 1 (v := ?_) ?_ hH ?_
  rotate_left 1
  · (intro w hSw; obtain ⟨_, e0, e1, e2, e3, e4, e5, e6, e7, e8⟩ := hSw.all; clear hSw; go_simp <;> with_reducible rfl)
  simp only [Act.put, S_]
  refine H_ 2 (v := ?_) ?_ hH ?_
  rotate_left 1
  · (intro w hSw; obtain ⟨_, e0, e1, e2, e3, e4, e5, e6, e7, e8⟩ := hSw.all; clear hSw; go_simp <;> with_reducible rfl)
  simp only [Act.put, S_]
  refine wpAnyH_ready (rs := [3]) (by kernel_rfl) (by decide) ?_
  refine AllReadyH.cons rfl (fun K1 hK1 => ?_) AllReadyH.nil
  go_simp
  refine (Yu d0 kd' ps' nm' t' nz' z' ob' bi' oa' len' cap').mono ?_
  rintro e d1 ⟨rfl, hb⟩
  have J1 := Zb (Zc J0.out hb)
  refine hK1.out _ _ (hH.bel hb) (fun hH => ?_)
  clear hK1 K1 hb
  refine H_ 4 (v := ?_) ?_ hH ?_
  rotate_left 1
  · (intro w _; go_simp <;> with_reducible rfl)
  simp only [Act.put, S_]
  refine wpAnyH_ready (rs := [5]) (by kernel_rfl) (by decide) ?_
  refine AllReadyH.cons rfl (fun K1 hK1 => ?_) AllReadyH.nil
  go_simp
  rw [show decide (holdF kd' nm' < 6) = lo from HLO.out.symm]
  refine (HP.out d1 bb0 _ lo (P1.out.bel J1.out) (W1.out.trans (J1.out.mono (Nat.le_trans P1.out.big (Nat.le_refl _)))) (by have hz := HL.out; have z0 := Zw nm; first | omega | (simp only [List.length_append] at hz ⊢; omega) | (simp only [List.length_append] at hz; omega) | (simp only [List.length_append]; omega))).mono ?_
  rintro e d2 ⟨rfl, b2, p2, t2⟩
  refine hK1.out _ _ (Nod.fx hH t2 Qb1.out.1 Qb1.out.2) (fun hH => ?_)
  clear hK1 K1
  have R := Zb (And.intro p2 (F1.out.trans ((Fx.of_bel J1.out).trans t2)))
  clear p2 t2
  refine wpAnyH_done (by kernel_rfl) ?_ _
  go_wp2_with fail
  go_end0
  exact ⟨rfl, b2, by simpa [Zv] using R.out.1, R.out.2⟩
 | false =>
  have HSG := Zb hsg
  rw [hsg, if_neg (by decide)] at hl
  rw [if_neg (by decide)]
  have HL := Zb hl
  clear hl hsg
  go_enter Tryz.func103, Tryz.ntmps103
  go_wp2_with fail
  generalize (w.alloc _).alloc _ = w1 at *
  refine (ZB P0.out (w.heap.size + 1 + 1) S1.out [nm] 1 (by simp) (by have hz := HL.out; have z0 := Zw nm; first | omega | (simp only [List.length_append] at hz ⊢; omega) | (simp only [List.length_append] at hz; omega) | (simp only [List.length_append]; omega))).mono ?_
  rintro e y0 ⟨rfl, bb0, pp, tt⟩
  have P1 := Zb pp
  have F1 := Zb (F0.out.trans (tt))
  have W1 := Zb (W0.out.trans ((tt).bel P0.out))
  have Na1 := Zb (Nod.fx Na0.out (tt) Qa0.out.1 Qa0.out.2)
  have Qa1 := Zb (And.intro Qa0.out.1 ((tt).ne (Ze Na0.out) Qa0.out.2))
  have Nb1 := Zb (Nod.fx Nb0.out (tt) Qb0.out.1 Qb0.out.2)
  have Qb1 := Zb (And.intro Qb0.out.1 ((tt).ne (Ze Nb0.out) Qb0.out.2))
  clear pp tt P0 F0 W0 Na0 Qa0 Nb0 Qb0 
  obtain ⟨_, va0, va1, va2, va3, va4, va5, va6, va7, va8⟩ := Na1.out.all
  go_wp2_with fail
  refine (sign_any nm _).mono ?_
  rintro e yy ⟨rfl, rfl⟩
  rw [HSG.out]
  clear va0 va1 va2 va3 va4 va5 va6 va7 va8 c0 c1 c2 c3 c4 c5 c6 c7 c8
  obtain ⟨_, vb0, vb1, vb2, vb3, vb4, vb5, vb6, vb7, vb8⟩ := Nb1.out.all
  go_wp2_with fail
  refine (HI.out y0 bb0 _ P1.out W1.out (by have hz := HL.out; have z0 := Zw nm; simp only [List.length_append, List.length_cons, List.length_nil] at hz ⊢; omega)).mono ?_
  rintro e d2 ⟨rfl, b2, p2, t2⟩
  have R := Zb (And.intro p2 (F1.out.trans t2))
  clear p2 t2
  go_wp2_with fail
  go_end0
  exact ⟨rfl, b2, by simpa [Zv] using R.out.1, R.out.2⟩
end Go.Proofs.YtfnplhfjfolojaaGreatDoor.Ck.Sho
