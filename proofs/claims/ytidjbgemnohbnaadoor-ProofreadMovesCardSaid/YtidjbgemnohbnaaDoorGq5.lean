/- Texts of this proof, packed. -/
import Derived.Test.YtidjbgemnohbnaaDoorGq1
import Derived.Test.YtidjbgemnohbnaaDoorGq4
import Derived.BigQuiet
import Derived.Deep.QuietTactic
/- Package proofread: what operators give (unary, binary). (Written by mk_p.py.) -/
namespace Go.Proofs.YtidjbgemnohbnaaDoor.Ck
open Go.RowKit

/-- a call that tells a type, or gives up -/
def TyP (p : List Addr) (w : World) (o : Option Int) (e : Ending) (w' : World) : Prop := w = w' ∧ e = match o with
  | some r => .returned (.int .i64 r)
  | none => codeStop p
theorem opU1 : opN 10 1 = ⟨#[45]⟩ := by
  unfold opN
  rw [show opsL 10 = ops10 from rfl, if_pos (by decide)]
  rfl
theorem opU2 : opN 10 2 = ⟨#[33]⟩ := by
  unfold opN
  rw [show opsL 10 = ops10 from rfl, if_pos (by decide)]
  rfl
theorem opU3 : opN 10 3 = ⟨#[105, 110, 116]⟩ := by
  unfold opN
  rw [show opsL 10 = ops10 from rfl, if_pos (by decide)]
  rfl
theorem opU4 : opN 10 4 = ⟨#[102, 108, 111, 97, 116]⟩ := by
  unfold opN
  rw [show opsL 10 = ops10 from rfl, if_pos (by decide)]
  rfl
theorem opB1 : opN 11 1 = ⟨#[43]⟩ := by
  unfold opN
  rw [show opsL 11 = ops11 from rfl, if_pos (by decide)]
  rfl
theorem opB2 : opN 11 2 = ⟨#[45]⟩ := by
  unfold opN
  rw [show opsL 11 = ops11 from rfl, if_pos (by decide)]
  rfl
theorem opB3 : opN 11 3 = ⟨#[42]⟩ := by
  unfold opN
  rw [show opsL 11 = ops11 from rfl, if_pos (by decide)]
  rfl
theorem opB4 : opN 11 4 = ⟨#[47]⟩ := by
  unfold opN
  rw [show opsL 11 = ops11 from rfl, if_pos (by decide)]
  rfl
theorem opB5 : opN 11 5 = ⟨#[37]⟩ := by
  unfold opN
  rw [show opsL 11 = ops11 from rfl, if_pos (by decide)]
  rfl
theorem opB6 : opN 11 6 = ⟨#[61, 61]⟩ := by
  unfold opN
  rw [show opsL 11 = ops11 from rfl, if_pos (by decide)]
  rfl
theorem opB7 : opN 11 7 = ⟨#[33, 61]⟩ := by
  unfold opN
  rw [show opsL 11 = ops11 from rfl, if_pos (by decide)]
  rfl
theorem opB8 : opN 11 8 = ⟨#[60]⟩ := by
  unfold opN
  rw [show opsL 11 = ops11 from rfl, if_pos (by decide)]
  rfl
theorem opB9 : opN 11 9 = ⟨#[60, 61]⟩ := by
  unfold opN
  rw [show opsL 11 = ops11 from rfl, if_pos (by decide)]
  rfl
theorem opB10 : opN 11 10 = ⟨#[62]⟩ := by
  unfold opN
  rw [show opsL 11 = ops11 from rfl, if_pos (by decide)]
  rfl
theorem opB11 : opN 11 11 = ⟨#[62, 61]⟩ := by
  unfold opN
  rw [show opsL 11 = ops11 from rfl, if_pos (by decide)]
  rfl
set_option maxRecDepth 20000 in
set_option maxHeartbeats 2000000 in
theorem punary_1 {w : World} {p : List Addr} (hc : Ec w p) (t : Int) : Calls Tryd.prog 58 #[.string ⟨#[45]⟩, .int .i64 t] w (TyP p w (unM 1 t)) := by
  unfold Ec errV at hc
  obtain ⟨s, hs⟩ : ∃ s : ByteArray, s = ⟨#[45]⟩ := ⟨_, rfl⟩
  have h0 : s.toList = [45] := by rw [hs]; first | rfl | simp | decide +kernel
  rw [← hs]
  clear hs
  by_cases ht : t = 3
  · subst ht
    rw [show unM 1 3 = none by simp [unM]]
    go_enter Tryd.func58, Tryd.ntmps58
    go_wp2_with fail
    exact ⟨rfl, rfl, rfl⟩
  · have htb : (t == 3) = false := by simp [ht]
    have htn : (t != 3) = true := by simp [ht]
    rw [show unM 1 t = some (t) by simp [unM, ht]]
    go_enter Tryd.func58, Tryd.ntmps58
    go_wp2_with fail
    go_ret
    exact ⟨rfl, rfl⟩
set_option maxRecDepth 20000 in
set_option maxHeartbeats 2000000 in
theorem punary_2 {w : World} {p : List Addr} (hc : Ec w p) (t : Int) : Calls Tryd.prog 58 #[.string ⟨#[33]⟩, .int .i64 t] w (TyP p w (unM 2 t)) := by
  unfold Ec errV at hc
  obtain ⟨s, hs⟩ : ∃ s : ByteArray, s = ⟨#[33]⟩ := ⟨_, rfl⟩
  have h0 : s.toList = [33] := by rw [hs]; first | rfl | simp | decide +kernel
  rw [← hs]
  clear hs
  by_cases ht : t = 3
  · subst ht
    rw [show unM 2 3 = some (3) by simp [unM]]
    go_enter Tryd.func58, Tryd.ntmps58
    go_wp2_with fail
    go_ret
    exact ⟨rfl, rfl⟩
  · have htb : (t == 3) = false := by simp [ht]
    have htn : (t != 3) = true := by simp [ht]
    rw [show unM 2 t = none by simp [unM, ht]]
    go_enter Tryd.func58, Tryd.ntmps58
    go_wp2_with fail
    exact ⟨rfl, rfl, rfl⟩
set_option maxRecDepth 20000 in
set_option maxHeartbeats 2000000 in
theorem punary_3 {w : World} {p : List Addr} (hc : Ec w p) (t : Int) : Calls Tryd.prog 58 #[.string ⟨#[105, 110, 116]⟩, .int .i64 t] w (TyP p w (unM 3 t)) := by
  unfold Ec errV at hc
  obtain ⟨s, hs⟩ : ∃ s : ByteArray, s = ⟨#[105, 110, 116]⟩ := ⟨_, rfl⟩
  have h0 : s.toList = [105, 110, 116] := by rw [hs]; first | rfl | simp | decide +kernel
  rw [← hs]
  clear hs
  by_cases ht : t = 2
  · subst ht
    rw [show unM 3 2 = some (1) by simp [unM]]
    go_enter Tryd.func58, Tryd.ntmps58
    go_wp2_with fail
    go_ret
    exact ⟨rfl, rfl⟩
  · have htb : (t == 2) = false := by simp [ht]
    have htn : (t != 2) = true := by simp [ht]
    rw [show unM 3 t = none by simp [unM, ht]]
    go_enter Tryd.func58, Tryd.ntmps58
    go_wp2_with fail
    exact ⟨rfl, rfl, rfl⟩
set_option maxRecDepth 20000 in
set_option maxHeartbeats 2000000 in
theorem punary_4 {w : World} {p : List Addr} (hc : Ec w p) (t : Int) : Calls Tryd.prog 58 #[.string ⟨#[102, 108, 111, 97, 116]⟩, .int .i64 t] w (TyP p w (unM 4 t)) := by
  unfold Ec errV at hc
  obtain ⟨s, hs⟩ : ∃ s : ByteArray, s = ⟨#[102, 108, 111, 97, 116]⟩ := ⟨_, rfl⟩
  have h0 : s.toList = [102, 108, 111, 97, 116] := by rw [hs]; first | rfl | simp | decide +kernel
  rw [← hs]
  clear hs
  by_cases ht : t = 1
  · subst ht
    rw [show unM 4 1 = some (2) by simp [unM]]
    go_enter Tryd.func58, Tryd.ntmps58
    go_wp2_with fail
    go_ret
    exact ⟨rfl, rfl⟩
  · have htb : (t == 1) = false := by simp [ht]
    have htn : (t != 1) = true := by simp [ht]
    rw [show unM 4 t = none by simp [unM, ht]]
    go_enter Tryd.func58, Tryd.ntmps58
    go_wp2_with fail
    exact ⟨rfl, rfl, rfl⟩
theorem punary_any {w : World} {p : List Addr} (hc : Ec w p) (a t : Int) (h1 : 1 ≤ a) (h4 : a ≤ 4) : Calls Tryd.prog 58 #[.string (opN 10 a), .int .i64 t] w (TyP p w (unM a t)) := by
  have h : a = 1 ∨ a = 2 ∨ a = 3 ∨ a = 4 := by omega
  rcases h with rfl | rfl | rfl | rfl
  · rw [opU1]
    exact punary_1 hc t
  · rw [opU2]
    exact punary_2 hc t
  · rw [opU3]
    exact punary_3 hc t
  · rw [opU4]
    exact punary_4 hc t
set_option maxRecDepth 20000 in
set_option maxHeartbeats 2000000 in
theorem pbinary_ne {w : World} {p : List Addr} (hc : Ec w p) (s : ByteArray) (a f t : Int) (h : f ≠ t) : Calls Tryd.prog 59 #[.string s, .int .i64 f, .int .i64 t] w (TyP p w (binM a f t)) := by
  rw [show binM a f t = none by simp [binM, h]]
  have MN := hide (pmust_no hc)
  have hb : (f == t) = false := by simp [h]
  clear h hc
  go_enter Tryd.func59, Tryd.ntmps59
  go_wp2_with fail
  refine MN.out.mono ?_
  rintro e w1 ⟨rfl, rfl⟩
  exact ⟨rfl, rfl, rfl⟩
set_option maxRecDepth 20000 in
set_option maxHeartbeats 2000000 in
theorem pbinary_1 {w : World} {p : List Addr} (hc : Ec w p) (t : Int) : Calls Tryd.prog 59 #[.string ⟨#[43]⟩, .int .i64 t, .int .i64 t] w (TyP p w (binM 1 t t)) := by
  have MN := hide (pmust_no hc)
  clear hc
  obtain ⟨s, hs⟩ : ∃ s : ByteArray, s = ⟨#[43]⟩ := ⟨_, rfl⟩
  have h0 : s.toList = [43] := by rw [hs]; first | rfl | simp | decide +kernel
  rw [← hs]
  clear hs
  by_cases ht : t = 3
  · subst ht
    rw [show binM 1 3 3 = none by simp [binM]]
    go_enter Tryd.func59, Tryd.ntmps59
    go_wp2_with fail
    refine (pmust_yes _).mono ?_
    rintro e w1 ⟨rfl, rfl⟩
    go_wp2_with fail
    refine MN.out.mono ?_
    rintro e w1 ⟨rfl, rfl⟩
    exact ⟨rfl, rfl, rfl⟩
  · have htb : (t == 3) = false := by simp [ht]
    have htn : (t != 3) = true := by simp [ht]
    rw [show binM 1 t t = some t by simp [binM, ht]]
    clear ht
    go_enter Tryd.func59, Tryd.ntmps59
    go_wp2_with fail
    refine (pmust_yes _).mono ?_
    rintro e w1 ⟨rfl, rfl⟩
    go_wp2_with fail
    refine (pmust_yes _).mono ?_
    rintro e w1 ⟨rfl, rfl⟩
    go_wp2_with fail
    go_ret
    exact ⟨rfl, rfl⟩
set_option maxRecDepth 20000 in
set_option maxHeartbeats 2000000 in
theorem pbinary_2 {w : World} {p : List Addr} (hc : Ec w p) (t : Int) : Calls Tryd.prog 59 #[.string ⟨#[45]⟩, .int .i64 t, .int .i64 t] w (TyP p w (binM 2 t t)) := by
  have MN := hide (pmust_no hc)
  clear hc
  obtain ⟨s, hs⟩ : ∃ s : ByteArray, s = ⟨#[45]⟩ := ⟨_, rfl⟩
  have h0 : s.toList = [45] := by rw [hs]; first | rfl | simp | decide +kernel
  rw [← hs]
  clear hs
  by_cases ht : t = 3
  · subst ht
    rw [show binM 2 3 3 = none by simp [binM]]
    go_enter Tryd.func59, Tryd.ntmps59
    go_wp2_with fail
    refine (pmust_yes _).mono ?_
    rintro e w1 ⟨rfl, rfl⟩
    go_wp2_with fail
    refine MN.out.mono ?_
    rintro e w1 ⟨rfl, rfl⟩
    exact ⟨rfl, rfl, rfl⟩
  · have htb : (t == 3) = false := by simp [ht]
    have htn : (t != 3) = true := by simp [ht]
    rw [show binM 2 t t = some t by simp [binM, ht]]
    clear ht
    go_enter Tryd.func59, Tryd.ntmps59
    go_wp2_with fail
    refine (pmust_yes _).mono ?_
    rintro e w1 ⟨rfl, rfl⟩
    go_wp2_with fail
    refine (pmust_yes _).mono ?_
    rintro e w1 ⟨rfl, rfl⟩
    go_wp2_with fail
    go_ret
    exact ⟨rfl, rfl⟩
set_option maxRecDepth 20000 in
set_option maxHeartbeats 2000000 in
theorem pbinary_3 {w : World} {p : List Addr} (hc : Ec w p) (t : Int) : Calls Tryd.prog 59 #[.string ⟨#[42]⟩, .int .i64 t, .int .i64 t] w (TyP p w (binM 3 t t)) := by
  have MN := hide (pmust_no hc)
  clear hc
  obtain ⟨s, hs⟩ : ∃ s : ByteArray, s = ⟨#[42]⟩ := ⟨_, rfl⟩
  have h0 : s.toList = [42] := by rw [hs]; first | rfl | simp | decide +kernel
  rw [← hs]
  clear hs
  by_cases ht : t = 3
  · subst ht
    rw [show binM 3 3 3 = none by simp [binM]]
    go_enter Tryd.func59, Tryd.ntmps59
    go_wp2_with fail
    refine (pmust_yes _).mono ?_
    rintro e w1 ⟨rfl, rfl⟩
    go_wp2_with fail
    refine MN.out.mono ?_
    rintro e w1 ⟨rfl, rfl⟩
    exact ⟨rfl, rfl, rfl⟩
  · have htb : (t == 3) = false := by simp [ht]
    have htn : (t != 3) = true := by simp [ht]
    rw [show binM 3 t t = some t by simp [binM, ht]]
    clear ht
    go_enter Tryd.func59, Tryd.ntmps59
    go_wp2_with fail
    refine (pmust_yes _).mono ?_
    rintro e w1 ⟨rfl, rfl⟩
    go_wp2_with fail
    refine (pmust_yes _).mono ?_
    rintro e w1 ⟨rfl, rfl⟩
    go_wp2_with fail
    go_ret
    exact ⟨rfl, rfl⟩
set_option maxRecDepth 20000 in
set_option maxHeartbeats 2000000 in
theorem pbinary_4 {w : World} {p : List Addr} (hc : Ec w p) (t : Int) : Calls Tryd.prog 59 #[.string ⟨#[47]⟩, .int .i64 t, .int .i64 t] w (TyP p w (binM 4 t t)) := by
  have MN := hide (pmust_no hc)
  clear hc
  obtain ⟨s, hs⟩ : ∃ s : ByteArray, s = ⟨#[47]⟩ := ⟨_, rfl⟩
  have h0 : s.toList = [47] := by rw [hs]; first | rfl | simp | decide +kernel
  rw [← hs]
  clear hs
  by_cases ht : t = 3
  · subst ht
    rw [show binM 4 3 3 = none by simp [binM]]
    go_enter Tryd.func59, Tryd.ntmps59
    go_wp2_with fail
    refine (pmust_yes _).mono ?_
    rintro e w1 ⟨rfl, rfl⟩
    go_wp2_with fail
    refine MN.out.mono ?_
    rintro e w1 ⟨rfl, rfl⟩
    exact ⟨rfl, rfl, rfl⟩
  · have htb : (t == 3) = false := by simp [ht]
    have htn : (t != 3) = true := by simp [ht]
    rw [show binM 4 t t = some t by simp [binM, ht]]
    clear ht
    go_enter Tryd.func59, Tryd.ntmps59
    go_wp2_with fail
    refine (pmust_yes _).mono ?_
    rintro e w1 ⟨rfl, rfl⟩
    go_wp2_with fail
    refine (pmust_yes _).mono ?_
    rintro e w1 ⟨rfl, rfl⟩
    go_wp2_with fail
    go_ret
    exact ⟨rfl, rfl⟩
set_option maxRecDepth 20000 in
set_option maxHeartbeats 2000000 in
theorem pbinary_5 {w : World} {p : List Addr} (hc : Ec w p) (t : Int) : Calls Tryd.prog 59 #[.string ⟨#[37]⟩, .int .i64 t, .int .i64 t] w (TyP p w (binM 5 t t)) := by
  have MN := hide (pmust_no hc)
  clear hc
  obtain ⟨s, hs⟩ : ∃ s : ByteArray, s = ⟨#[37]⟩ := ⟨_, rfl⟩
  have h0 : s.toList = [37] := by rw [hs]; first | rfl | simp | decide +kernel
  rw [← hs]
  clear hs
  by_cases ht : t = 1
  · subst ht
    rw [show binM 5 1 1 = some 1 by simp [binM]]
    go_enter Tryd.func59, Tryd.ntmps59
    go_wp2_with fail
    refine (pmust_yes _).mono ?_
    rintro e w1 ⟨rfl, rfl⟩
    go_wp2_with fail
    refine (pmust_yes _).mono ?_
    rintro e w1 ⟨rfl, rfl⟩
    go_wp2_with fail
    go_ret
    exact ⟨rfl, rfl⟩
  · have htb : (t == 1) = false := by simp [ht]
    rw [show binM 5 t t = none by simp [binM, ht]]
    clear ht
    go_enter Tryd.func59, Tryd.ntmps59
    go_wp2_with fail
    refine (pmust_yes _).mono ?_
    rintro e w1 ⟨rfl, rfl⟩
    go_wp2_with fail
    refine MN.out.mono ?_
    rintro e w1 ⟨rfl, rfl⟩
    exact ⟨rfl, rfl, rfl⟩
set_option maxRecDepth 20000 in
set_option maxHeartbeats 2000000 in
theorem pbinary_6 {w : World} {p : List Addr} (hc : Ec w p) (t : Int) : Calls Tryd.prog 59 #[.string ⟨#[61, 61]⟩, .int .i64 t, .int .i64 t] w (TyP p w (binM 6 t t)) := by
  have MN := hide (pmust_no hc)
  clear hc
  obtain ⟨s, hs⟩ : ∃ s : ByteArray, s = ⟨#[61, 61]⟩ := ⟨_, rfl⟩
  have h0 : s.toList = [61, 61] := by rw [hs]; first | rfl | simp | decide +kernel
  rw [← hs]
  clear hs
  rw [show binM 6 t t = some 3 by simp [binM]]
  go_enter Tryd.func59, Tryd.ntmps59
  go_wp2_with fail
  refine (pmust_yes _).mono ?_
  rintro e w1 ⟨rfl, rfl⟩
  go_wp2_with fail
  go_ret
  exact ⟨rfl, rfl⟩
set_option maxRecDepth 20000 in
set_option maxHeartbeats 2000000 in
theorem pbinary_7 {w : World} {p : List Addr} (hc : Ec w p) (t : Int) : Calls Tryd.prog 59 #[.string ⟨#[33, 61]⟩, .int .i64 t, .int .i64 t] w (TyP p w (binM 7 t t)) := by
  have MN := hide (pmust_no hc)
  clear hc
  obtain ⟨s, hs⟩ : ∃ s : ByteArray, s = ⟨#[33, 61]⟩ := ⟨_, rfl⟩
  have h0 : s.toList = [33, 61] := by rw [hs]; first | rfl | simp | decide +kernel
  rw [← hs]
  clear hs
  rw [show binM 7 t t = some 3 by simp [binM]]
  go_enter Tryd.func59, Tryd.ntmps59
  go_wp2_with fail
  refine (pmust_yes _).mono ?_
  rintro e w1 ⟨rfl, rfl⟩
  go_wp2_with fail
  go_ret
  exact ⟨rfl, rfl⟩
set_option maxRecDepth 20000 in
set_option maxHeartbeats 2000000 in
theorem pbinary_8 {w : World} {p : List Addr} (hc : Ec w p) (t : Int) : Calls Tryd.prog 59 #[.string ⟨#[60]⟩, .int .i64 t, .int .i64 t] w (TyP p w (binM 8 t t)) := by
  have MN := hide (pmust_no hc)
  clear hc
  obtain ⟨s, hs⟩ : ∃ s : ByteArray, s = ⟨#[60]⟩ := ⟨_, rfl⟩
  have h0 : s.toList = [60] := by rw [hs]; first | rfl | simp | decide +kernel
  rw [← hs]
  clear hs
  by_cases ht : t = 3
  · subst ht
    rw [show binM 8 3 3 = none by simp [binM]]
    go_enter Tryd.func59, Tryd.ntmps59
    go_wp2_with fail
    refine (pmust_yes _).mono ?_
    rintro e w1 ⟨rfl, rfl⟩
    go_wp2_with fail
    refine MN.out.mono ?_
    rintro e w1 ⟨rfl, rfl⟩
    exact ⟨rfl, rfl, rfl⟩
  · have htb : (t == 3) = false := by simp [ht]
    have htn : (t != 3) = true := by simp [ht]
    rw [show binM 8 t t = some 3 by simp [binM, ht]]
    clear ht
    go_enter Tryd.func59, Tryd.ntmps59
    go_wp2_with fail
    refine (pmust_yes _).mono ?_
    rintro e w1 ⟨rfl, rfl⟩
    go_wp2_with fail
    refine (pmust_yes _).mono ?_
    rintro e w1 ⟨rfl, rfl⟩
    go_wp2_with fail
    go_ret
    exact ⟨rfl, rfl⟩
set_option maxRecDepth 20000 in
set_option maxHeartbeats 2000000 in
theorem pbinary_9 {w : World} {p : List Addr} (hc : Ec w p) (t : Int) : Calls Tryd.prog 59 #[.string ⟨#[60, 61]⟩, .int .i64 t, .int .i64 t] w (TyP p w (binM 9 t t)) := by
  have MN := hide (pmust_no hc)
  clear hc
  obtain ⟨s, hs⟩ : ∃ s : ByteArray, s = ⟨#[60, 61]⟩ := ⟨_, rfl⟩
  have h0 : s.toList = [60, 61] := by rw [hs]; first | rfl | simp | decide +kernel
  rw [← hs]
  clear hs
  by_cases ht : t = 3
  · subst ht
    rw [show binM 9 3 3 = none by simp [binM]]
    go_enter Tryd.func59, Tryd.ntmps59
    go_wp2_with fail
    refine (pmust_yes _).mono ?_
    rintro e w1 ⟨rfl, rfl⟩
    go_wp2_with fail
    refine MN.out.mono ?_
    rintro e w1 ⟨rfl, rfl⟩
    exact ⟨rfl, rfl, rfl⟩
  · have htb : (t == 3) = false := by simp [ht]
    have htn : (t != 3) = true := by simp [ht]
    rw [show binM 9 t t = some 3 by simp [binM, ht]]
    clear ht
    go_enter Tryd.func59, Tryd.ntmps59
    go_wp2_with fail
    refine (pmust_yes _).mono ?_
    rintro e w1 ⟨rfl, rfl⟩
    go_wp2_with fail
    refine (pmust_yes _).mono ?_
    rintro e w1 ⟨rfl, rfl⟩
    go_wp2_with fail
    go_ret
    exact ⟨rfl, rfl⟩
set_option maxRecDepth 20000 in
set_option maxHeartbeats 2000000 in
theorem pbinary_10 {w : World} {p : List Addr} (hc : Ec w p) (t : Int) : Calls Tryd.prog 59 #[.string ⟨#[62]⟩, .int .i64 t, .int .i64 t] w (TyP p w (binM 10 t t)) := by
  have MN := hide (pmust_no hc)
  clear hc
  obtain ⟨s, hs⟩ : ∃ s : ByteArray, s = ⟨#[62]⟩ := ⟨_, rfl⟩
  have h0 : s.toList = [62] := by rw [hs]; first | rfl | simp | decide +kernel
  rw [← hs]
  clear hs
  by_cases ht : t = 3
  · subst ht
    rw [show binM 10 3 3 = none by simp [binM]]
    go_enter Tryd.func59, Tryd.ntmps59
    go_wp2_with fail
    refine (pmust_yes _).mono ?_
    rintro e w1 ⟨rfl, rfl⟩
    go_wp2_with fail
    refine MN.out.mono ?_
    rintro e w1 ⟨rfl, rfl⟩
    exact ⟨rfl, rfl, rfl⟩
  · have htb : (t == 3) = false := by simp [ht]
    have htn : (t != 3) = true := by simp [ht]
    rw [show binM 10 t t = some 3 by simp [binM, ht]]
    clear ht
    go_enter Tryd.func59, Tryd.ntmps59
    go_wp2_with fail
    refine (pmust_yes _).mono ?_
    rintro e w1 ⟨rfl, rfl⟩
    go_wp2_with fail
    refine (pmust_yes _).mono ?_
    rintro e w1 ⟨rfl, rfl⟩
    go_wp2_with fail
    go_ret
    exact ⟨rfl, rfl⟩
set_option maxRecDepth 20000 in
set_option maxHeartbeats 2000000 in
theorem pbinary_11 {w : World} {p : List Addr} (hc : Ec w p) (t : Int) : Calls Tryd.prog 59 #[.string ⟨#[62, 61]⟩, .int .i64 t, .int .i64 t] w (TyP p w (binM 11 t t)) := by
  have MN := hide (pmust_no hc)
  clear hc
  obtain ⟨s, hs⟩ : ∃ s : ByteArray, s = ⟨#[62, 61]⟩ := ⟨_, rfl⟩
  have h0 : s.toList = [62, 61] := by rw [hs]; first | rfl | simp | decide +kernel
  rw [← hs]
  clear hs
  by_cases ht : t = 3
  · subst ht
    rw [show binM 11 3 3 = none by simp [binM]]
    go_enter Tryd.func59, Tryd.ntmps59
    go_wp2_with fail
    refine (pmust_yes _).mono ?_
    rintro e w1 ⟨rfl, rfl⟩
    go_wp2_with fail
    refine MN.out.mono ?_
    rintro e w1 ⟨rfl, rfl⟩
    exact ⟨rfl, rfl, rfl⟩
  · have htb : (t == 3) = false := by simp [ht]
    have htn : (t != 3) = true := by simp [ht]
    rw [show binM 11 t t = some 3 by simp [binM, ht]]
    clear ht
    go_enter Tryd.func59, Tryd.ntmps59
    go_wp2_with fail
    refine (pmust_yes _).mono ?_
    rintro e w1 ⟨rfl, rfl⟩
    go_wp2_with fail
    refine (pmust_yes _).mono ?_
    rintro e w1 ⟨rfl, rfl⟩
    go_wp2_with fail
    go_ret
    exact ⟨rfl, rfl⟩
theorem pbinary_any {w : World} {p : List Addr} (hc : Ec w p) (a f t : Int) (h1 : 1 ≤ a) (h4 : a ≤ 11) : Calls Tryd.prog 59 #[.string (opN 11 a), .int .i64 f, .int .i64 t] w (TyP p w (binM a f t)) := by
  by_cases hf : f = t
  · subst hf
    have h : a = 1 ∨ a = 2 ∨ a = 3 ∨ a = 4 ∨ a = 5 ∨ a = 6 ∨ a = 7 ∨ a = 8 ∨ a = 9 ∨ a = 10 ∨ a = 11 := by omega
    rcases h with rfl | rfl | rfl | rfl | rfl | rfl | rfl | rfl | rfl | rfl | rfl
    · rw [opB1]
      exact pbinary_1 hc f
    · rw [opB2]
      exact pbinary_2 hc f
    · rw [opB3]
      exact pbinary_3 hc f
    · rw [opB4]
      exact pbinary_4 hc f
    · rw [opB5]
      exact pbinary_5 hc f
    · rw [opB6]
      exact pbinary_6 hc f
    · rw [opB7]
      exact pbinary_7 hc f
    · rw [opB8]
      exact pbinary_8 hc f
    · rw [opB9]
      exact pbinary_9 hc f
    · rw [opB10]
      exact pbinary_10 hc f
    · rw [opB11]
      exact pbinary_11 hc f
  · exact pbinary_ne hc _ a f t hf
end Go.Proofs.YtidjbgemnohbnaaDoor.Ck

/- Package proofread: operators on a stack; a function's local. -/
namespace Go.Proofs.YtidjbgemnohbnaaDoor.Ck
open Go.RowKit

/-- a call that turns nothing below B: the stack that it leaves, or that it gives up -/
def GkP (p : List Addr) (w : World) (b B : Nat) (o : Option (List Int)) (e : Ending) (w' : World) : Prop := Below B w w' ∧ match o with
  | some s' => e = .returned (.tuple #[]) ∧ ∃ v', Sk w' b B v' s'
  | none => e = codeStop p
theorem GkP.of {p : List Addr} {w w' : World} {b B : Nat} {o : Option (List Int)} {e : Ending} (h : TkP p w b B o e w') (hB : B ≤ b) (hw : B ≤ w.heap.size) : GkP p w b B o e w' := ⟨h.1.bel hB hw, h.2⟩
theorem GkP.from {p : List Addr} {w w1 w' : World} {b B : Nat} {o : Option (List Int)} {e : Ending} (h : GkP p w1 b B o e w') (hb : Below B w w1) : GkP p w b B o e w' := ⟨hb.trans h.1, h.2⟩
theorem GkP.both {p : List Addr} {w w' : World} {b B : Nat} {o : Option (List Int)} {e : Ending} (h : GkP p w b B o e w') : (∃ s' v', o = some s' ∧ e = .returned (.tuple #[]) ∧ Sk w' b B v' s' ∧ Below B w w') ∨ (o = none ∧ e = codeStop p ∧ Below B w w') := by
  obtain ⟨h1, h2⟩ := h
  cases o with
  | some s' => exact .inl ⟨s', _, rfl, h2.1, h2.2.choose_spec, h1⟩
  | none => exact .inr ⟨rfl, h2, h1⟩
theorem GkP.yes {p : List Addr} {w w' : World} {b B : Nat} {o : Option (List Int)} {s : List Int} {v : Value} (ho : o = some s) (hk : Sk w' b B v s) (hb : Below B w w') : GkP p w b B o (.returned (.tuple #[])) w' := by
  subst ho
  exact ⟨hb, rfl, v, hk⟩
theorem GkP.no {p : List Addr} {w w' : World} {b B : Nat} {o : Option (List Int)} (ho : o = none) (hb : Below B w w') : GkP p w b B o (codeStop p) w' := by
  subst ho
  exact ⟨hb, rfl⟩
theorem Sk.low {w : World} {b B : Nat} {v : Value} {s : List Int} (h : Sk w b B v s) : B ≤ w.heap.size := by
  have := lt_of_blk h.at_
  have := h.hb
  omega
theorem Ec.low {w w' : World} {p : List Addr} {B : Nat} (h : Ec w p) (hb : Below B w w') (hB : 8 < B) : Ec w' p := (hb.cell (p := ⟨8, 0, none⟩) hB).trans h
theorem snoc_or (s : List Int) : s = [] ∨ ∃ s' t, s = s' ++ [t] := by
  rcases List.eq_nil_or_concat s with h | ⟨s', t, h⟩
  · exact .inl h
  · exact .inr ⟨s', t, by simpa using h⟩
set_option maxRecDepth 20000 in
set_option maxHeartbeats 2000000 in
theorem unary_stk {w : World} {p : List Addr} {b B : Nat} {v : Value} {s : List Int} (hc : Ec w p) (hg : 8 < B) (h : Sk w b B v s) (a : Int) (h1 : 1 ≤ a) (h4 : a ≤ 4) (hs : s.length ≤ 900) : Calls Tryd.prog 54 #[.pointer (some ⟨b, 0, none⟩), .string (opN 10 a)] w (GkP p w b B (unS a s)) := by
  have HL := hide h.low
  have HB := hide h.hb
  rcases snoc_or s with rfl | ⟨s1, t, rfl⟩
  · have PN := hide (pop_none hc h)
    obtain ⟨z, hz⟩ : ∃ z, opN 10 a = z := ⟨_, rfl⟩
    rw [hz]
    clear hc h hz
    go_enter Tryd.func54, Tryd.ntmps54
    go_wp2_with fail
    refine PN.out.mono ?_
    rintro e w1 ⟨rfl, rfl⟩
    exact ⟨rfl, GkP.no rfl (Below.refl _ _)⟩
  · have HS : Hid (s1.length ≤ 900) := hide (by simp at hs; omega)
    have PN := hide (pop_some h)
    have PU := hide (fun w1 (hb : Below B w w1) => punary_any (hc.low hb hg) a t h1 h4)
    have EU : Hid (unS a (s1 ++ [t]) = (unM a t).map fun r => s1 ++ [r]) := hide (by unfold unS; rw [popM_snoc]; rfl)
    generalize unS a (s1 ++ [t]) = o at *
    obtain ⟨z, hz⟩ : ∃ z, opN 10 a = z := ⟨_, rfl⟩
    rw [hz] at PU ⊢
    clear hc h hs hz
    go_enter Tryd.func54, Tryd.ntmps54
    go_wp2_with fail
    refine PN.out.mono ?_
    rintro e w1 ⟨rfl, ⟨v1, k1⟩, t1⟩
    have B1 := hide (t1.bel HB.out HL.out)
    have K1 := hide k1
    have P1 := hide (PU.out w1 B1.out)
    clear k1 t1 PU PN
    cases hu : unM a t with
    | none =>
      rw [hu] at P1
      have HU := hide hu
      clear hu
      go_wp2_with fail
      refine P1.out.mono ?_
      rintro e w2 ⟨rfl, rfl⟩
      exact ⟨rfl, GkP.no (by rw [EU.out, HU.out]; rfl) B1.out⟩
    | some r =>
      rw [hu] at P1
      have HU := hide hu
      have PS := hide (push_stk K1.out r HS.out)
      clear hu
      go_wp2_with fail
      refine P1.out.mono ?_
      rintro e w2 ⟨rfl, rfl⟩
      go_wp2_with fail
      refine PS.out.mono ?_
      rintro e w3 ⟨rfl, ⟨v3, k3⟩, b3⟩
      go_wp2_with fail
      go_end0
      exact GkP.yes (by rw [EU.out, HU.out]; rfl) k3 (B1.out.trans b3)
set_option maxRecDepth 20000 in
set_option maxHeartbeats 2000000 in
theorem binary_stk {w : World} {p : List Addr} {b B : Nat} {v : Value} {s : List Int} (hc : Ec w p) (hg : 8 < B) (h : Sk w b B v s) (a : Int) (h1 : 1 ≤ a) (h4 : a ≤ 11) (hs : s.length ≤ 900) : Calls Tryd.prog 56 #[.pointer (some ⟨b, 0, none⟩), .string (opN 11 a)] w (GkP p w b B (binS a s)) := by
  have HL := hide h.low
  have HB := hide h.hb
  obtain ⟨z, hz⟩ : ∃ z, opN 11 a = z := ⟨_, rfl⟩
  rcases snoc_or s with rfl | ⟨s1, t, rfl⟩
  · have PN := hide (pop_none hc h)
    rw [hz]
    clear hc h hz
    go_enter Tryd.func56, Tryd.ntmps56
    go_wp2_with fail
    refine PN.out.mono ?_
    rintro e w1 ⟨rfl, rfl⟩
    exact ⟨rfl, GkP.no rfl (Below.refl _ _)⟩
  · have PN := hide (pop_some h)
    have HC := hide hc
    have EU : Hid (binS a (s1 ++ [t]) = (popM s1).bind fun q => (binM a q.1 t).map fun r => q.2 ++ [r]) := hide (by unfold binS; rw [popM_snoc]; rfl)
    generalize binS a (s1 ++ [t]) = o at *
    have PU := hide (fun w1 (hb : Below B w w1) (f : Int) => pbinary_any (hc.low hb hg) a f t h1 h4)
    have HS : Hid (s1.length ≤ 900) := hide (by simp at hs; omega)
    rw [hz] at PU ⊢
    have HG := hide hg
    clear hc h hs hz hg
    go_enter Tryd.func56, Tryd.ntmps56
    go_wp2_with fail
    refine PN.out.mono ?_
    rintro e w1 ⟨rfl, ⟨v1, k1⟩, t1⟩
    have B1 := hide (t1.bel HB.out HL.out)
    have K1 := hide k1
    clear k1 t1 PN
    rcases snoc_or s1 with rfl | ⟨s2, t2, rfl⟩
    · have PN := hide (pop_none (HC.out.low B1.out HG.out) K1.out)
      go_wp2_with fail
      refine PN.out.mono ?_
      rintro e w2 ⟨rfl, rfl⟩
      exact ⟨rfl, GkP.no (by rw [EU.out]; rfl) B1.out⟩
    · have PN := hide (pop_some K1.out)
      have EU2 : Hid (o = (binM a t2 t).map fun r => s2 ++ [r]) := hide (by rw [EU.out, popM_snoc]; rfl)
      have HS2 : Hid (s2.length ≤ 900) := hide (by have := HS.out; simp at this; omega)
      have L1 := hide K1.out.low
      clear EU HS
      go_wp2_with fail
      refine PN.out.mono ?_
      rintro e w2 ⟨rfl, ⟨v2, k2⟩, t2'⟩
      have B2 := hide (B1.out.trans (t2'.bel HB.out L1.out))
      have K2 := hide k2
      have P2 := hide (PU.out w2 B2.out t2)
      clear k2 t2' PN K1
      cases hu : binM a t2 t with
      | none =>
        rw [hu] at P2
        have HU := hide hu
        clear hu
        go_wp2_with fail
        refine P2.out.mono ?_
        rintro e w3 ⟨rfl, rfl⟩
        exact ⟨rfl, GkP.no (by rw [EU2.out, HU.out]; rfl) B2.out⟩
      | some r =>
        rw [hu] at P2
        have HU := hide hu
        have PS := hide (push_stk K2.out r HS2.out)
        clear hu
        go_wp2_with fail
        refine P2.out.mono ?_
        rintro e w3 ⟨rfl, rfl⟩
        go_wp2_with fail
        refine PS.out.mono ?_
        rintro e w4 ⟨rfl, ⟨v4, k4⟩, b4⟩
        go_wp2_with fail
        go_end0
        exact GkP.yes (by rw [EU2.out, HU.out]; rfl) k4 (B2.out.trans b4)
/-- a reader in memory: its code, its function; what is gone through -/
structure Rdv (w : World) (g : Nat) (vP vC vF vB : Value) (c : Cd) (f : Fn3) (vLo : Value) (hi : Int) (vM vS vL : Value) : Prop where
  at_ : w.heap[g]? = some (.cells #[vP, .int .i64 c.M, .int .i64 c.A, vC, vF, .int .i64 c.mn, vB, .int .i64 f.st, .int .i64 f.pa, vLo, .int .i64 hi, vM, vS, vL] 69 (0, 0))
  cv : Cv w vP vC vF vB c
  lo : Sl w vLo f.lo
theorem Rdv.low {w w' : World} {g : Nat} {vP vC vF vB vLo vM vS vL : Value} {c : Cd} {f : Fn3} {hi : Int} (h : Rdv w g vP vC vF vB c f vLo hi vM vS vL) (hb : Below w.heap.size w w') : Rdv w' g vP vC vF vB c f vLo hi vM vS vL := ⟨(hb.block g (lt_of_blk h.at_)).trans h.at_, h.cv.bel hb, h.lo.bel hb⟩
set_option maxRecDepth 20000 in
set_option maxHeartbeats 2000000 in
theorem local_any {w : World} {p : List Addr} {g : Nat} {vP vC vF vB vLo vM vS vL : Value} {c : Cd} {f : Fn3} {hi : Int} (hc : Ec w p) (h : Rdv w g vP vC vF vB c f vLo hi vM vS vL) (n : Nat) : Calls Tryd.prog 53 #[.pointer (some ⟨g, 0, none⟩), .int .i64 (n : Nat)] w (TyP p w (if (n : Int) < f.lo.length then some (f.lo.getD n 0) else none)) := by
  obtain ⟨a, cc, rfl, h1, h2⟩ := h.lo.form
  have x9 := blk_cell h.at_ 9 _ rfl
  have MN := hide (pmust_no hc)
  obtain ⟨m, hm⟩ : ∃ m, m = f.lo.length := ⟨_, rfl⟩
  have HL := hide (fun hn => h.lo.at n hn)
  rw [← hm] at x9 HL ⊢
  by_cases hn : n < m
  · obtain ⟨b, o, rfl, _, hc1⟩ := HL.out hn
    have hn1 : (n : Int) < (m : Int) := by omega
    rw [if_pos hn1]
    generalize f.lo.getD n 0 = t at *
    clear h h1 h2 hm HL MN
    go_enter Tryd.func53, Tryd.ntmps53
    go_wp2_with fail
    refine (pmust_yes _).mono ?_
    rintro e w1 ⟨rfl, rfl⟩
    go_wp2_with fail
    go_ret
    exact ⟨rfl, rfl⟩
  · have hn1 : ¬ (n : Int) < (m : Int) := by omega
    rw [if_neg hn1]
    have hd : decide ((n : Int) < (m : Int)) = false := decide_eq_false hn1
    clear h h1 h2 hm HL hn
    go_enter Tryd.func53, Tryd.ntmps53
    go_wp2_with fail
    refine MN.out.mono ?_
    rintro e w1 ⟨rfl, rfl⟩
    exact ⟨rfl, rfl, rfl⟩
end Go.Proofs.YtidjbgemnohbnaaDoor.Ck

/- Package proofread: what change wants of a code in form; short rows of types. (Written by mk_f.py.) -/
namespace Go.Proofs.YtidjbgemnohbnaaDoor.Ck
open Go.RowKit

theorem sl_one1 {w : World} {g : Nat} {t : Int} (h : w.heap[g]? = some (.cells #[.int .i64 t] 3 (0, 0))) (hf : Fits [t]) : Sl w (.slice (some ⟨g, 0, none⟩) [t].length 1) [t] :=
  ⟨hf, _, 1, rfl, Nat.le_refl _, by unfold maxLen; omega, fun i hi => by
    obtain rfl : i = 0 := by simpa using hi
    exact ⟨g, 0, rfl, lt_of_blk h, blk_cell h 0 _ rfl⟩⟩
theorem sl_two1 {w : World} {g : Nat} {t u : Int} (h : w.heap[g]? = some (.cells #[.int .i64 t, .int .i64 u] 3 (0, 0))) (hf : Fits [t, u]) : Sl w (.slice (some ⟨g, 0, none⟩) [t, u].length 2) [t, u] :=
  ⟨hf, _, 2, rfl, Nat.le_refl _, by unfold maxLen; omega, fun i hi => by
    have h2 : i = 0 ∨ i = 1 := by simp at hi; omega
    rcases h2 with rfl | rfl
    · exact ⟨g, 0, rfl, lt_of_blk h, blk_cell h 0 _ rfl⟩
    · exact ⟨g, 0, rfl, lt_of_blk h, blk_cell h 1 _ rfl⟩⟩
theorem sl_pre {w : World} {a : Option Addr} {n c k : Nat} {l : List Int} (h : Sl w (.slice a n c) l) (hk : k ≤ n) : Sl w (.slice a (l.take k).length c) (l.take k) := by
  have hn := h.len
  obtain ⟨hf, a', c', e, h1, h2, h3⟩ := h
  cases e
  have hl : (l.take k).length = k := by rw [List.length_take]; omega
  refine ⟨fun z hz => hf z (List.mem_of_mem_take hz), a, c, rfl, by omega, h2, fun i hi => ?_⟩
  rw [hl] at hi
  obtain ⟨b, o, ha, hb, hc⟩ := h3 i (by omega)
  refine ⟨b, o, ha, hb, ?_⟩
  rw [List.getD_eq_getElem?_getD, List.getElem?_take_of_lt hi, ← List.getD_eq_getElem?_getD]
  exact hc
theorem fits1 {l : List Int} (h : Fits l) {i : Nat} (hi : i < l.length) : Fits [l.getD i 0] := fun z hz => by
  obtain rfl : z = l.getD i 0 := by simpa using hz
  rw [List.getD_eq_getElem?_getD, List.getElem?_eq_getElem hi]
  exact h _ (List.getElem_mem hi)
theorem alloc_drew (w : World) (o : Obj) : w.drew.alloc o = (w.alloc o).drew := rfl
theorem fits_1 {t : Int} (h : -9223372036854775808 ≤ t ∧ t ≤ 9223372036854775807) : Fits [t] := fun z hz => by
  obtain rfl : z = t := by simpa using hz
  exact h
theorem fits_2 {t u : Int} (h : Fits [t]) (h2 : Fits [u]) : Fits [t, u] := fun z hz => (List.mem_cons.1 hz).elim (fun e => h z (by rw [e]; exact List.mem_singleton.2 rfl)) (fun e => h2 z e)
theorem fits_k {k : Int} (h0 : 0 ≤ k) (h1 : k ≤ 3) : Fits [k] := fun z hz => by
  obtain rfl : z = k := by simpa using hz
  omega
/-- what change is called at: w0 the world at the step's beginning -/
structure Cg (w0 w : World) (p : List Addr) (g b : Nat) (vP vC vF vB : Value) (c : Cd) (f : Fn3) (vLo : Value) (hi : Int) (vM vS vL v : Value) (s : List Int) : Prop where
  ec : Ec w0 p
  rd : Rdv w0 g vP vC vF vB c f vLo hi vM vS vL
  bel : Below w0.heap.size w0 w
  sk : Sk w b w0.heap.size v s
  n : s.length ≤ 900
section
variable {w0 w w' : World} {p : List Addr} {g b : Nat} {vP vC vF vB vLo vM vS vL v v' : Value} {c : Cd} {f : Fn3} {hi : Int} {s s' : List Int}
theorem Cg.low (h : Cg w0 w p g b vP vC vF vB c f vLo hi vM vS vL v s) (hb : Below w.heap.size w w') : Cg w0 w' p g b vP vC vF vB c f vLo hi vM vS vL v s := ⟨h.ec, h.rd, h.bel.trans (hb.mono h.bel.size), h.sk.bel hb, h.n⟩
theorem Cg.next (h : Cg w0 w p g b vP vC vF vB c f vLo hi vM vS vL v s) (hk : Sk w' b w0.heap.size v' s') (hb : Below w0.heap.size w w') (hn : s'.length ≤ 900) : Cg w0 w' p g b vP vC vF vB c f vLo hi vM vS vL v' s' := ⟨h.ec, h.rd, h.bel.trans hb, hk, hn⟩
theorem Cg.er (h : Cg w0 w p g b vP vC vF vB c f vLo hi vM vS vL v s) : Ec w p := h.ec.bel h.bel
theorem Cg.rr (h : Cg w0 w p g b vP vC vF vB c f vLo hi vM vS vL v s) : Rdv w g vP vC vF vB c f vLo hi vM vS vL := h.rd.low h.bel
theorem Cg.gc (h : Cg w0 w p g b vP vC vF vB c f vLo hi vM vS vL v s) : 8 < w0.heap.size := World.block_lt_of_cell? w0 _ h.ec
theorem Cg.take (h : Cg w0 w p g b vP vC vF vB c f vLo hi vM vS vL v s) {ts : List Int} {aT : Option Addr} {cT : Nat} (hT : Sl w (.slice aT ts.length cT) ts) (hn : ts.length ≤ 1000) : Calls Tryd.prog 44 #[.pointer (some ⟨b, 0, none⟩), .slice aT ts.length cT] w (GkP p w b w0.heap.size (takeM ts s)) :=
  (take_any h.er h.sk hT hn).mono fun _ _ q => GkP.of q h.sk.hb h.sk.low
theorem Cg.push (h : Cg w0 w p g b vP vC vF vB c f vLo hi vM vS vL v s) (t : Int) : Calls Tryd.prog 52 #[.pointer (some ⟨b, 0, none⟩), .int .i64 t] w (GkP p w b w0.heap.size (some (s ++ [t]))) :=
  (push_stk h.sk t h.n).mono fun _ _ ⟨h1, ⟨_, h2⟩, h3⟩ => by
    subst h1
    exact GkP.yes rfl h2 h3
end
theorem Cg.take1 {w0 w : World} {p : List Addr} {g b : Nat} {vP vC vF vB vLo vM vS vL v : Value} {c : Cd} {f : Fn3} {hi : Int} {s : List Int} (h : Cg w0 w p g b vP vC vF vB c f vLo hi vM vS vL v s) (t : Int) (hf : Fits [t]) : Calls Tryd.prog 44 #[.pointer (some ⟨b, 0, none⟩), .slice (some ⟨w.heap.size, 0, none⟩) 1 1] (w.alloc (.cells #[.int .i64 t] 3)) (GkP p w b w0.heap.size (takeM [t] s)) :=
  (Cg.take (h.low (bel_new w _)) (sl_one1 (Go.Deep.blk_alloc_new w _) hf) (by simp)).mono fun _ _ q => q.from ((bel_new w _).mono h.sk.low)
theorem Cg.tk1 {w0 w : World} {p : List Addr} {g b : Nat} {vP vC vF vB vLo vM vS vL v : Value} {c : Cd} {f : Fn3} {hi : Int} {s : List Int} (h : Cg w0 w p g b vP vC vF vB c f vLo hi vM vS vL v s) (t : Int) (hf : Fits [t]) : Calls Tryd.prog 44 #[.pointer (some ⟨b, 0, none⟩), .slice (some ⟨w.heap.size, 0, none⟩) 1 1] (w.alloc (.cells #[.int .i64 t] 3)) (TkP p (w.alloc (.cells #[.int .i64 t] 3)) b w0.heap.size (takeM [t] s)) :=
  take_any (h.low (bel_new w _)).er (h.low (bel_new w _)).sk (sl_one1 (Go.Deep.blk_alloc_new w _) hf) (by simp)
theorem Cg.tk2 {w0 w : World} {p : List Addr} {g b : Nat} {vP vC vF vB vLo vM vS vL v : Value} {c : Cd} {f : Fn3} {hi : Int} {s : List Int} (h : Cg w0 w p g b vP vC vF vB c f vLo hi vM vS vL v s) (t u : Int) (hf : Fits [t, u]) : Calls Tryd.prog 44 #[.pointer (some ⟨b, 0, none⟩), .slice (some ⟨w.heap.size, 0, none⟩) 2 2] (w.alloc (.cells #[.int .i64 t, .int .i64 u] 3)) (TkP p (w.alloc (.cells #[.int .i64 t, .int .i64 u] 3)) b w0.heap.size (takeM [t, u] s)) :=
  take_any (h.low (bel_new w _)).er (h.low (bel_new w _)).sk (sl_two1 (Go.Deep.blk_alloc_new w _) hf) (by simp)
theorem Tn.cell {b : Nat} {w w' : World} (t : Tn b w w') {k i : Nat} {v : Value} (h : w.cell? ⟨k, i, none⟩ = some v) (hk : k ≠ b) : w'.cell? ⟨k, i, none⟩ = some v := by
  have hl := World.block_lt_of_cell? w _ h
  unfold World.cell? at h ⊢
  rw [t.blk k hl hk]
  exact h
theorem cell_new {w : World} {k i : Nat} {v : Value} (h : w.cell? ⟨k, i, none⟩ = some v) (o : Obj) : (w.alloc o).cell? ⟨k, i, none⟩ = some v := ((bel_new w o).cell (p := ⟨k, i, none⟩) (World.block_lt_of_cell? w _ h)).trans h
theorem TkP.both {p : List Addr} {w w' : World} {b B : Nat} {o : Option (List Int)} {e : Ending} (h : TkP p w b B o e w') : (∃ s' v', o = some s' ∧ e = .returned (.tuple #[]) ∧ Sk w' b B v' s' ∧ Tn b w w') ∨ (o = none ∧ e = codeStop p ∧ Tn b w w') := by
  obtain ⟨h1, h2⟩ := h
  cases o with
  | some s' => exact .inl ⟨s', _, rfl, h2.1, h2.2.choose_spec, h1⟩
  | none => exact .inr ⟨rfl, h2, h1⟩
theorem Cg.take2 {w0 w : World} {p : List Addr} {g b : Nat} {vP vC vF vB vLo vM vS vL v : Value} {c : Cd} {f : Fn3} {hi : Int} {s : List Int} (h : Cg w0 w p g b vP vC vF vB c f vLo hi vM vS vL v s) (t u : Int) (hf : Fits [t, u]) : Calls Tryd.prog 44 #[.pointer (some ⟨b, 0, none⟩), .slice (some ⟨w.heap.size, 0, none⟩) 2 2] (w.alloc (.cells #[.int .i64 t, .int .i64 u] 3)) (GkP p w b w0.heap.size (takeM [t, u] s)) :=
  (Cg.take (h.low (bel_new w _)) (sl_two1 (Go.Deep.blk_alloc_new w _) hf) (by simp)).mono fun _ _ q => q.from ((bel_new w _).mono h.sk.low)
/-- a code in form, as far as change asks -/
structure Fm (c : Cd) : Prop where
  f : ∀ x ∈ c.F, 0 ≤ x.pa ∧ x.pa ≤ x.lo.length ∧ x.lo.length ≤ 32
theorem fm_of {c : Cd} (h : formB c = true) : Fm c := by
  unfold formB at h
  simp only [Bool.and_eq_true, List.all_eq_true] at h
  refine ⟨fun x hx => ?_⟩
  have h1 := h.2.1.1.2 x hx
  unfold fnB at h1
  simp only [Bool.and_eq_true, decide_eq_true_eq] at h1
  exact ⟨h1.2.1, h1.2.2.2.1, h1.2.2.2.2.1⟩
theorem in_of {n : Int} {k : Nat} (h : inN n k = true) : ∃ m : Nat, n = m ∧ m < k := by
  unfold inN at h
  simp only [Bool.and_eq_true, decide_eq_true_eq] at h
  exact ⟨n.toNat, by omega, by omega⟩
theorem inI_of {n k : Int} (h : inI n k = true) : ∃ m : Nat, n = m ∧ (m : Int) < k := by
  unfold inI at h
  simp only [Bool.and_eq_true, decide_eq_true_eq] at h
  exact ⟨n.toNat, by omega, by omega⟩
theorem insB_at {c : Cd} {op a b bits at_ : Int} (h : insB c ⟨op, a, b, bits, at_⟩ = true) : (op = 4 ∨ op = 5 → inI a 32 = true) ∧ (op = 6 ∨ op = 7 → inN a c.P.length = true) ∧ (op = 8 ∨ op = 9 → inN a c.P.length = true) ∧ (op = 10 → 1 ≤ a ∧ a ≤ 4) ∧ (op = 11 → 1 ≤ a ∧ a ≤ 11) ∧ (op = 12 → inN a c.B.length = true) ∧ (op = 13 ∨ op = 14 → inN a c.B.length = true) ∧ (op = 17 ∨ op = 18 → inN a c.C.length = true) ∧ (op = 22 ∨ op = 23 → inN a c.F.length = true) ∧ 1 ≤ op ∧ op ≤ 26 := by
  unfold insB at h
  simp only [Bool.and_eq_true, decide_eq_true_eq] at h
  obtain ⟨_, _, h⟩ := h
  have hr : 1 ≤ op ∧ op ≤ 26 := by
    by_cases h1 : 1 ≤ op ∧ op ≤ 26
    · exact h1
    · exfalso
      rw [if_neg (by omega), if_neg (by omega), if_neg (by omega), if_neg (by omega), if_neg (by omega), if_neg (by omega), if_neg (by omega), if_neg (by omega), if_neg (by omega), if_neg (by omega), if_neg (by omega), if_neg (by omega), if_neg (by omega), if_neg (by omega), if_neg (by omega)] at h
      cases h
  refine ⟨fun e => ?_, fun e => ?_, fun e => ?_, fun e => ?_, fun e => ?_, fun e => ?_, fun e => ?_, fun e => ?_, fun e => ?_, hr⟩
  · rcases e with rfl | rfl <;> simp at h <;> exact h.1
  · rcases e with rfl | rfl <;> simp at h <;> exact h.1
  · rcases e with rfl | rfl <;> simp at h <;> exact h.1.1.1.2
  · subst e; simp at h; exact h.1
  · subst e; simp at h; exact h.1
  · subst e; simp at h; exact h.1
  · rcases e with rfl | rfl <;> simp at h <;> exact h.1.1
  · rcases e with rfl | rfl <;> simp at h <;> exact h.1
  · rcases e with rfl | rfl <;> simp at h <;> exact h.1
end Go.Proofs.YtidjbgemnohbnaaDoor.Ck

/- When codes are the same; no Go text is walked here (but comparing structs). -/
namespace Go.Proofs.YtidjbgemnohbnaaDoor.Ck
open Go.RowKit

def sameL {α : Type} (f : α → α → Bool) : List α → List α → Bool
  | [], [] => true
  | x :: l, y :: m => f x y && sameL f l m
  | _, _ => false
theorem sameL_not {α : Type} {f : α → α → Bool} (d : α) : ∀ (l m : List α) (k : Nat), k < l.length → k < m.length → f (l.getD k d) (m.getD k d) = false → sameL f l m = false
  | [], _, _, h, _, _ => absurd h (Nat.not_lt_zero _)
  | _ :: _, [], _, _, h, _ => absurd h (Nat.not_lt_zero _)
  | x :: l, y :: m, 0, _, _, e => by
    have e' : f x y = false := e
    simp [sameL, e']
  | x :: l, y :: m, k + 1, h, h', e => by simp [sameL, sameL_not d l m k (by simpa using h) (by simpa using h') e]
theorem sameL_all {α : Type} {f : α → α → Bool} (d : α) : ∀ (l m : List α), l.length = m.length → (∀ j, j < l.length → f (l.getD j d) (m.getD j d) = true) → sameL f l m = true
  | [], [], _, _ => rfl
  | [], _ :: _, h, _ => by simp at h
  | _ :: _, [], h, _ => by simp at h
  | x :: l, y :: m, h, ha => by
    simp only [sameL, Bool.and_eq_true]
    exact ⟨ha 0 (by simp), sameL_all d l m (by simpa using h) (fun j hj => ha (j + 1) (by simpa using hj))⟩
theorem sameL_len {α : Type} {f : α → α → Bool} : ∀ (l m : List α), l.length ≠ m.length → sameL f l m = false
  | [], [], h => absurd rfl h
  | [], _ :: _, _ => rfl
  | _ :: _, [], _ => rfl
  | x :: l, y :: m, h => by simp [sameL, sameL_len l m (by simpa using h)]
theorem sameL_refl {α : Type} {f : α → α → Bool} (h : ∀ x, f x x = true) : ∀ l : List α, sameL f l l = true
  | [] => rfl
  | x :: l => by simp [sameL, h x, sameL_refl h l]
def eqN (x y : Int) : Bool := x == y
def eqC (x y : Int × Int) : Bool := x.1 == y.1 && x.2 == y.2
def eqI (x y : In5) : Bool := x.op == y.op && (x.a == y.a && (x.b == y.b && (x.bits == y.bits && x.at_ == y.at_)))
def eqF (x y : Fn3) : Bool := x.st == y.st && (x.pa == y.pa && sameL eqN x.lo y.lo)
def sameCd (a b : Cd) : Bool := a.M == b.M && (a.A == b.A && (a.mn == b.mn && (sameL eqN a.P b.P && (sameL eqC a.C b.C && (sameL eqF a.F b.F && sameL eqI a.B b.B)))))
theorem eqN_refl (x : Int) : eqN x x = true := by simp [eqN]
theorem eqF_refl (x : Fn3) : eqF x x = true := by simp [eqF, sameL_refl eqN_refl]
theorem same_self (a : Cd) : sameCd a a = true := by
  simp only [sameCd, sameL_refl eqN_refl, sameL_refl (f := eqC) (fun x => by simp [eqC]), sameL_refl eqF_refl, sameL_refl (f := eqI) (fun x => by simp [eqI])]
  simp
/-- what is answered by a call that only draws -/
def Dr (w : World) (v : Value) (e : Ending) (w' : World) : Prop := e = .returned v ∧ ∃ k, w' = w.drewN k
theorem drew_bel (w : World) (k : Nat) : Below w.heap.size w (w.drewN k) := below_drewN (Below.refl _ _) k
theorem Dr.vb {w : World} {v : Value} {e : Ending} {w' : World} (h : Dr w v e w') : Vb w v e w' := by
  obtain ⟨h1, k, rfl⟩ := h
  exact ⟨h1, drew_bel w k⟩
theorem Dr.mk {w : World} {v v' : Value} {k : Nat} (h : v = v') : Dr w v' (.returned v) (w.drewN k) := ⟨by rw [h], k, rfl⟩
theorem drew_cell (w : World) (k : Nat) (a : Addr) : (w.drewN k).cell? a = w.cell? a := by simp [World.cell?]
theorem drew_at {w wr : World} {q : Nat} {a : Addr} {u : Value} (hq : wr = w.drewN q) (h : w.cell? a = some u) : wr.cell? a = some u := by rw [hq, drew_cell]; exact h
theorem drew_more {w wr : World} {q : Nat} (hq : wr = w.drewN q) (k : Nat) : wr.drewN k = w.drewN (q + k) := by rw [hq, World.drewN_drewN]
theorem drew_lt {w wr : World} {q b : Nat} (hq : wr = w.drewN q) (h : b < w.heap.size) : b < wr.heap.size := by rw [hq]; simpa using h
theorem eqIn_cc (w : World) (a b a' b' : Int) : (Op.equalIn 10000 65 (.agg #[.int .i64 a, .int .i64 b]) (.agg #[.int .i64 a', .int .i64 b'])).run Tryd.prog w = .ok (a == a' && b == b') w := by
  have hi : ∀ (x y : Int) (w : World), (Op.equalIn 9999 3 (.int .i64 x) (.int .i64 y)).run Tryd.prog w = .ok (x == y) w := fun x y w => run_equalIn_int w 9998 3 .i64 .i64 x y Tryd.underlying3
  have e : Tryd.prog.underlying 65 = some (.struct (Tryd.prog.fieldsOf 65)) := by kernel_rfl
  rw [show (10000 : Nat) = 9999 + 1 from rfl, run_equalIn_agg w 9999 65 _ _ e (by kernel_rfl)]
  have hf : (Tryd.prog.fieldsOf 65).toList.map (fun f => (f.name, f.type, f.offset)) = [("Type", 3, 0), ("Room", 3, 1)] := by kernel_rfl
  generalize (Tryd.prog.fieldsOf 65).toList = l at hf
  obtain ⟨f1, l1, rfl, h1, hf⟩ := List.map_eq_cons_iff.1 hf
  obtain ⟨f2, l2, rfl, h2, hf⟩ := List.map_eq_cons_iff.1 hf
  obtain rfl := List.map_eq_nil_iff.1 hf
  simp only [Prod.mk.injEq] at h1 h2
  simp [go_sem, Op.eqFields, h1, h2, hi]
  by_cases ha : a = a' <;> by_cases hb : b = b' <;> simp [ha, hb]
theorem neq_cc (w : World) (x y : Int × Int) : (binOp .neq 65 (.agg #[.int .i64 x.1, .int .i64 x.2]) (.agg #[.int .i64 y.1, .int .i64 y.2])).run Tryd.prog w = .ok (.bool (!(eqC x y))) w := by
  rw [run_neq_struct, eqIn_cc]
  rfl
theorem eqIn_ii (w : World) (x y : In5) : (Op.equalIn 10000 44 (.agg #[.int .i64 x.op, .int .i64 x.a, .int .i64 x.b, .int .u64 x.bits, .int .i64 x.at_]) (.agg #[.int .i64 y.op, .int .i64 y.a, .int .i64 y.b, .int .u64 y.bits, .int .i64 y.at_])).run Tryd.prog w = .ok (eqI x y) w := by
  have hi : ∀ (x y : Int) (w : World), (Op.equalIn 9999 3 (.int .i64 x) (.int .i64 y)).run Tryd.prog w = .ok (x == y) w := fun x y w => run_equalIn_int w 9998 3 .i64 .i64 x y Tryd.underlying3
  have hu : ∀ (x y : Int) (w : World), (Op.equalIn 9999 42 (.int .u64 x) (.int .u64 y)).run Tryd.prog w = .ok (x == y) w := fun x y w => run_equalIn_int w 9998 42 .u64 .u64 x y Tryd.underlying42
  have e : Tryd.prog.underlying 44 = some (.struct (Tryd.prog.fieldsOf 44)) := by kernel_rfl
  rw [show (10000 : Nat) = 9999 + 1 from rfl, run_equalIn_agg w 9999 44 _ _ e (by kernel_rfl)]
  have hf : (Tryd.prog.fieldsOf 44).toList.map (fun f => (f.name, f.type, f.offset)) = [("Op", 3, 0), ("A", 3, 1), ("B", 3, 2), ("Bits", 42, 3), ("At", 3, 4)] := by kernel_rfl
  generalize (Tryd.prog.fieldsOf 44).toList = l at hf
  obtain ⟨f1, l1, rfl, h1, hf⟩ := List.map_eq_cons_iff.1 hf
  obtain ⟨f2, l2, rfl, h2, hf⟩ := List.map_eq_cons_iff.1 hf
  obtain ⟨f3, l3, rfl, h3, hf⟩ := List.map_eq_cons_iff.1 hf
  obtain ⟨f4, l4, rfl, h4, hf⟩ := List.map_eq_cons_iff.1 hf
  obtain ⟨f5, l5, rfl, h5, hf⟩ := List.map_eq_cons_iff.1 hf
  obtain rfl := List.map_eq_nil_iff.1 hf
  simp only [Prod.mk.injEq] at h1 h2 h3 h4 h5
  unfold eqI
  simp [go_sem, Op.eqFields, h1, h2, h3, h4, h5, hi, hu]
  by_cases h1 : x.op = y.op <;> by_cases h2 : x.a = y.a <;> by_cases h3 : x.b = y.b <;> by_cases h4 : x.bits = y.bits <;> by_cases h5 : x.at_ = y.at_ <;> simp [h1, h2, h3, h4, h5]
theorem neq_ii (w : World) (x y : In5) : (binOp .neq 44 (.agg #[.int .i64 x.op, .int .i64 x.a, .int .i64 x.b, .int .u64 x.bits, .int .i64 x.at_]) (.agg #[.int .i64 y.op, .int .i64 y.a, .int .i64 y.b, .int .u64 y.bits, .int .i64 y.at_])).run Tryd.prog w = .ok (.bool (!(eqI x y))) w := by
  rw [run_neq_struct, eqIn_ii]
  rfl
end Go.Proofs.YtidjbgemnohbnaaDoor.Ck

/- Package slices, of stacks: Equal, Clone. (Written by mk_j.py.) -/
namespace Go.Proofs.YtidjbgemnohbnaaDoor.Ck
open Go.RowKit

set_option maxRecDepth 20000 in
set_option maxHeartbeats 4000000 in
theorem eq_stk {w : World} {v1 v2 : Value} {l1 l2 : List Int} (h1 : Sl w v1 l1) (h2 : Sl w v2 l2) (hn : l1.length ≤ 100000 ∧ l2.length ≤ 100000) : Calls Tryd.prog 41 #[v1, v2] w (Dr w (.bool (sameL eqN l1 l2))) := by
  obtain ⟨_, a1, c1, e1, p1, p2, h1⟩ := h1
  obtain ⟨_, a2, c2, e2, p3, p4, h2⟩ := h2
  subst e1 e2
  by_cases hl : l1.length = l2.length
  · obtain ⟨n, hn1⟩ : ∃ n, n = l1.length := ⟨_, rfl⟩
    have hs : Hid ((∀ j, j < n → eqN (l1.getD j 0) (l2.getD j 0) = true) → sameL eqN l1 l2 = true) := fun h => sameL_all 0 l1 l2 hl (fun j hj => h j (by omega))
    have hs2 : Hid (∀ k : Nat, k < n → eqN (l1.getD k 0) (l2.getD k 0) = false → sameL eqN l1 l2 = false) := fun k hk => sameL_not 0 l1 l2 k (by omega) (by omega)
    have H1 := hide h1
    have H2 := hide h2
    have HL := hide (And.intro hn1 hl)
    have hnn : n ≤ 100000 := by omega
    rw [← hl, ← hn1]
    clear hl hn1 h1 h2 hn p1 p2 p3 p4
    generalize sameL eqN l1 l2 = r at *
    go_enter Tryd.func41, Tryd.ntmps41
    go_wp2_with fail
    go_loopw [5, 13] (fun x5 i wr => ∃ k : Nat, k ≤ n ∧ i = .int .i64 k ∧ Hid (∀ j, j < k → eqN (l1.getD j 0) (l2.getD j 0) = true) ∧ Hid (∃ q, wr = w.drewN q)) (fun x5 i _ => n - (intOf i).toNat)
    case atStart => exact ⟨0, Nat.zero_le _, rfl, fun j hj => absurd hj (Nat.not_lt_zero _), 0, rfl⟩
    case round =>
      obtain ⟨k, hk, rfl, hall, hw⟩ := hrel
      obtain ⟨q, hq⟩ := hw.out
      have HQ := hide hq
      clear hw
      by_cases hlt : k < n
      · have hlt' : (k : Int) < (n : Int) := by omega
        obtain ⟨b1, o1, e1, hb1, r1⟩ := H1.out k (by have := HL.out; omega)
        obtain ⟨b2, o2, e2, hb2, s1⟩ := H2.out k (by have := HL.out; omega)
        subst e1 e2
        have t0 := drew_at hq r1
        have t1 := drew_at hq s1
        have hb1' := drew_lt hq hb1
        have hb2' := drew_lt hq hb2
        have HY : Hid (eqN (l1.getD k 0) (l2.getD k 0) = true → ∀ j, j < k + 1 → eqN (l1.getD j 0) (l2.getD j 0) = true) := fun e j hj => by
          by_cases ej : j = k
          · rw [ej]; exact e
          · exact hall.out j (by omega)
        have HNO : Hid (eqN (l1.getD k 0) (l2.getD k 0) = false → r = false) := fun e => hs2.out k hlt e
        clear hs hs2 hall H1 H2 hq hb1 hb2 r1 s1
        generalize l1.getD k 0 = x at *
        generalize l2.getD k 0 = y at *
        cases hxy : eqN x y with
        | true =>
          have hy2 := hide (HY.out hxy)
          have hne : (x != y) = false := by rw [eq_of_beq hxy]; simp
          clear HY HNO hxy
          go_wp2_with fail
          go_quiet (fail)
          go_wp2_with fail
          go_roundw
          case rel => exact ⟨k + 1, by omega, by go_num, hy2, q + _, drew_more HQ.out _⟩
          case measure => simp [intOf]; omega
        | false =>
          have hn2 := HNO.out hxy
          subst hn2
          have hne : (x != y) = true := by simpa [eqN] using hxy
          clear HY HNO hxy
          go_wp2_with fail
          go_quiet (fail)
          go_wp2_with fail
          go_ret
          exact ⟨rfl, q + _, drew_more HQ.out _⟩
      · obtain rfl : k = n := by omega
        have hr := hs.out hall.out
        subst hr
        clear hs hs2 hall H1 H2 hq
        go_wp2_with fail
        go_ret
        exact ⟨rfl, q, HQ.out⟩
  · rw [sameL_len l1 l2 hl]
    have ht : ((l1.length : Int) != (l2.length : Int)) = true := by rw [bne_iff_ne]; omega
    clear h1 h2 hl
    go_enter Tryd.func41, Tryd.ntmps41
    go_wp2_with fail
    go_ret
    exact ⟨rfl, 0, rfl⟩
theorem nts_one (l : List Int) : ∀ u ∈ nts l, u.oneCell' = true := fun u hu => by unfold nts at hu; obtain ⟨x, _, rfl⟩ := List.mem_map.1 hu; rfl
theorem app_new {w : World} {ad : Addr} {c : Nat} {l : List Int} (h : Sl w (.slice (some ad) l.length c) l) (hl : l.length ≤ 100000) (ty : TypeId) :
    ∃ v' w', (Builtin.append_ #[51, 51] ty #[.slice (some ⟨w.heap.size, 0, none⟩) 0 0, .slice (some ad) l.length c]).run Tryd.prog (w.alloc (.cells #[] 3)) = .ok v' w' ∧ ((∃ a c, v' = .slice a l.length c) ∧ w'.ownsRow w.heap.size 3 1 v' l.length (nts l) ∧ Below w.heap.size w w') := by
  obtain ⟨ie, hi, hz0, hz1, hz2⟩ := info_parts info3
  have hb := bel_new w (.cells #[] 3)
  have o1 : (w.alloc (.cells #[] 3)).ownsRow w.heap.size 3 1 (.slice (some ⟨w.heap.size, 0, none⟩) 0 0) 0 [] := ⟨rfl, .inr ⟨w.heap.size, 0, _, rfl, Nat.le_refl _, Go.Deep.blk_alloc_new _ _, Nat.le_refl _, Nat.zero_le _, rfl, rfl⟩⟩
  have hc : ∀ (j : Nat) (u : Value), (nts l)[j]? = some u → (w.alloc (.cells #[] 3)).cell? (ad.add j) = some u := fun j u hu => by
    have hj : j < l.length := by
      have := (List.getElem?_eq_some_iff.1 hu).1
      rwa [nts_len] at this
    obtain ⟨b, o, e, hlt, h2⟩ := h.at j hj
    cases e
    rw [show (⟨b, o, none⟩ : Addr).add j = ⟨b, o + j, none⟩ by unfold Addr.add; by_cases h : j = 0 <;> simp [h]]
    have e3 : (nts l)[j]? = some (.int .i64 (l.getD j 0)) := nts_at (by rw [List.getD_eq_getElem?_getD, List.getElem?_eq_getElem hj]; rfl)
    rw [e3] at hu
    cases hu
    exact (hb.cell (p := ⟨b, o + j, none⟩) hlt).trans h2
  obtain ⟨v', w', hr, ho', hg, _⟩ := run_append_own (P := Tryd.prog) (w.alloc (.cells #[] 3)) w.heap.size 51 ty 3 ie _ 1 8 Tryd.underlying51 hi hz0 hz1 hz2 rfl (by decide) _ 0 [] o1 ad l.length c (nts l) (by rw [nts_len]; simp) hc (nts_one l) (by unfold maxLen; omega) (by omega) hb.size
  simp only [Nat.zero_add, List.nil_append] at ho'
  obtain ⟨a9, c9, e9, _⟩ := own_slice ho'
  refine ⟨v', w', hr, ⟨_, _, e9⟩, ho', ⟨hg.os, hg.tape, hg.output, Nat.le_trans hb.size hg.size, fun k hk => (hg.block k (Nat.lt_of_lt_of_le hk hb.size) (fun e => ?_)).trans (hb.block k hk)⟩⟩
  have e2 : w.heap.size = k := Option.some.inj e.symm
  omega
set_option maxRecDepth 20000 in
set_option maxHeartbeats 2000000 in
theorem clone_stk {w : World} {v : Value} {l : List Int} (h : Sl w v l) (hn : l.length ≤ 100000) : Calls Tryd.prog 42 #[v] w fun e w' => ∃ v', e = .returned v' ∧ (∃ a c, v' = .slice a l.length c) ∧ w'.ownsRow w.heap.size 3 1 v' l.length (nts l) ∧ Below w.heap.size w w' := by
  obtain ⟨a, n, c, rfl, en⟩ := h.slice
  cases a with
  | none =>
    have hz : l = [] := by
      cases l with
      | nil => rfl
      | cons z l =>
        obtain ⟨_, a', c', e, _, _, h3⟩ := h
        obtain ⟨b, o, e', _⟩ := h3 0 (by simp)
        cases e
        cases e'
    subst hz
    have e0 : n = 0 := en
    subst e0
    clear h hn en
    have hE : ∀ w, (binOp .eql 51 (.slice none 0 c) (.slice none 0 0)).run Tryd.prog w = .ok (.bool true) w := fun w => by kernel_rfl
    go_enter Tryd.func42, Tryd.ntmps42
    go_wp2_with fail
    go_ret
    exact ⟨_, rfl, ⟨_, _, rfl⟩, World.ownsRow_nil _ _ _ _, Below.refl _ _⟩
  | some ad =>
    subst en
    have AP := hide (fun ty => app_new h hn ty)
    obtain ⟨m, hm⟩ : ∃ m, m = l.length := ⟨_, rfl⟩
    rw [← hm] at AP ⊢
    have hE : ∀ w, (binOp .eql 51 (.slice (some ad) m c) (.slice none 0 0)).run Tryd.prog w = .ok (.bool false) w := fun w => by kernel_rfl
    clear h hn hm
    go_enter Tryd.func42, Tryd.ntmps42
    go_wp2_with (first | (at_builtin; refine wpList_appV (TS := 51) rfl (.tmp 5) (.tmp 6) rfl _ _ rfl rfl _ (AP.out _) ?_; rintro v9 w9 ⟨⟨a9, c9, rfl⟩, o9⟩; have R9 := hide o9; clear o9))
    go_ret
    exact ⟨_, rfl, ⟨_, _, rfl⟩, R9.out.1, R9.out.2⟩
end Go.Proofs.YtidjbgemnohbnaaDoor.Ck

/- The operators' numbers, as plain choices. -/
namespace Go.Proofs.YtidjbgemnohbnaaDoor.Ck
open Go.RowKit

theorem tl_0 : (⟨#[45]⟩ : ByteArray).toList = [45] := by first | rfl | simp | decide +kernel
theorem tl_1 : (⟨#[33]⟩ : ByteArray).toList = [33] := by first | rfl | simp | decide +kernel
theorem tl_2 : (⟨#[105, 110, 116]⟩ : ByteArray).toList = [105, 110, 116] := by first | rfl | simp | decide +kernel
theorem tl_3 : (⟨#[102, 108, 111, 97, 116]⟩ : ByteArray).toList = [102, 108, 111, 97, 116] := by first | rfl | simp | decide +kernel
theorem tl_4 : (⟨#[43]⟩ : ByteArray).toList = [43] := by first | rfl | simp | decide +kernel
theorem tl_5 : (⟨#[42]⟩ : ByteArray).toList = [42] := by first | rfl | simp | decide +kernel
theorem tl_6 : (⟨#[47]⟩ : ByteArray).toList = [47] := by first | rfl | simp | decide +kernel
theorem tl_7 : (⟨#[37]⟩ : ByteArray).toList = [37] := by first | rfl | simp | decide +kernel
theorem tl_8 : (⟨#[61, 61]⟩ : ByteArray).toList = [61, 61] := by first | rfl | simp | decide +kernel
theorem tl_9 : (⟨#[33, 61]⟩ : ByteArray).toList = [33, 61] := by first | rfl | simp | decide +kernel
theorem tl_10 : (⟨#[60]⟩ : ByteArray).toList = [60] := by first | rfl | simp | decide +kernel
theorem tl_11 : (⟨#[60, 61]⟩ : ByteArray).toList = [60, 61] := by first | rfl | simp | decide +kernel
theorem tl_12 : (⟨#[62]⟩ : ByteArray).toList = [62] := by first | rfl | simp | decide +kernel
theorem tl_13 : (⟨#[62, 61]⟩ : ByteArray).toList = [62, 61] := by first | rfl | simp | decide +kernel

theorem num10 (s : ByteArray) : numF ops10 s 0 = if s.toList = [45] then 1 else (if s.toList = [33] then 2 else (if s.toList = [105, 110, 116] then 3 else (if s.toList = [102, 108, 111, 97, 116] then 4 else 0))) := by
  simp only [numF, ops10, tl_0, tl_1, tl_2, tl_3]
  rfl
theorem num11 (s : ByteArray) : numF ops11 s 0 = if s.toList = [43] then 1 else (if s.toList = [45] then 2 else (if s.toList = [42] then 3 else (if s.toList = [47] then 4 else (if s.toList = [37] then 5 else (if s.toList = [61, 61] then 6 else (if s.toList = [33, 61] then 7 else (if s.toList = [60] then 8 else (if s.toList = [60, 61] then 9 else (if s.toList = [62] then 10 else (if s.toList = [62, 61] then 11 else 0)))))))))) := by
  simp only [numF, ops11, tl_0, tl_4, tl_5, tl_6, tl_7, tl_8, tl_9, tl_10, tl_11, tl_12, tl_13]
  rfl
end Go.Proofs.YtidjbgemnohbnaaDoor.Ck
