/- Package proofread: what operators give (unary, binary). (Written by mk_p.py.) -/
import Derived.Test.YtlheflkdapckbaaDoorPc
import Derived.Test.YtlheflkdapckbaaDoorCn
namespace Go.Proofs.YtlheflkdapckbaaDoor.Ck
open Go.RowKit

/-- a call that tells a type, or gives up -/
def TyP (p : List Addr) (w : World) (o : Option Int) (e : Ending) (w' : World) : Prop := w = w' ∧ e = match o with
  | some r => .returned (.int .i64 r)
  | none => codeStop p
theorem opU1 : opN 10 1 = ⟨#[45]⟩ := by
  unfold opN
  rw [show opsL 10 = ops10 from rfl, if_pos (by decide)]
  rfl
theorem opU2 : opN 10 2 = ⟨#[33]⟩ := by
  unfold opN
  rw [show opsL 10 = ops10 from rfl, if_pos (by decide)]
  rfl
theorem opU3 : opN 10 3 = ⟨#[105, 110, 116]⟩ := by
  unfold opN
  rw [show opsL 10 = ops10 from rfl, if_pos (by decide)]
  rfl
theorem opU4 : opN 10 4 = ⟨#[102, 108, 111, 97, 116]⟩ := by
  unfold opN
  rw [show opsL 10 = ops10 from rfl, if_pos (by decide)]
  rfl
theorem opB1 : opN 11 1 = ⟨#[43]⟩ := by
  unfold opN
  rw [show opsL 11 = ops11 from rfl, if_pos (by decide)]
  rfl
theorem opB2 : opN 11 2 = ⟨#[45]⟩ := by
  unfold opN
  rw [show opsL 11 = ops11 from rfl, if_pos (by decide)]
  rfl
theorem opB3 : opN 11 3 = ⟨#[42]⟩ := by
  unfold opN
  rw [show opsL 11 = ops11 from rfl, if_pos (by decide)]
  rfl
theorem opB4 : opN 11 4 = ⟨#[47]⟩ := by
  unfold opN
  rw [show opsL 11 = ops11 from rfl, if_pos (by decide)]
  rfl
theorem opB5 : opN 11 5 = ⟨#[37]⟩ := by
  unfold opN
  rw [show opsL 11 = ops11 from rfl, if_pos (by decide)]
  rfl
theorem opB6 : opN 11 6 = ⟨#[61, 61]⟩ := by
  unfold opN
  rw [show opsL 11 = ops11 from rfl, if_pos (by decide)]
  rfl
theorem opB7 : opN 11 7 = ⟨#[33, 61]⟩ := by
  unfold opN
  rw [show opsL 11 = ops11 from rfl, if_pos (by decide)]
  rfl
theorem opB8 : opN 11 8 = ⟨#[60]⟩ := by
  unfold opN
  rw [show opsL 11 = ops11 from rfl, if_pos (by decide)]
  rfl
theorem opB9 : opN 11 9 = ⟨#[60, 61]⟩ := by
  unfold opN
  rw [show opsL 11 = ops11 from rfl, if_pos (by decide)]
  rfl
theorem opB10 : opN 11 10 = ⟨#[62]⟩ := by
  unfold opN
  rw [show opsL 11 = ops11 from rfl, if_pos (by decide)]
  rfl
theorem opB11 : opN 11 11 = ⟨#[62, 61]⟩ := by
  unfold opN
  rw [show opsL 11 = ops11 from rfl, if_pos (by decide)]
  rfl
set_option maxRecDepth 20000 in
set_option maxHeartbeats 2000000 in
theorem punary_1 {w : World} {p : List Addr} (hc : Ec w p) (t : Int) : Calls Tryd.prog 60 #[.string ⟨#[45]⟩, .int .i64 t] w (TyP p w (unM 1 t)) := by
  unfold Ec errV at hc
  obtain ⟨s, hs⟩ : ∃ s : ByteArray, s = ⟨#[45]⟩ := ⟨_, rfl⟩
  have h0 : s.toList = [45] := by rw [hs]; first | rfl | simp | decide +kernel
  rw [← hs]
  clear hs
  by_cases ht : t = 3
  · subst ht
    rw [show unM 1 3 = none by simp [unM]]
    go_enter Tryd.func60, Tryd.ntmps60
    go_wp2_with fail
    exact ⟨rfl, rfl, rfl⟩
  · have htb : (t == 3) = false := by simp [ht]
    have htn : (t != 3) = true := by simp [ht]
    rw [show unM 1 t = some (t) by simp [unM, ht]]
    go_enter Tryd.func60, Tryd.ntmps60
    go_wp2_with fail
    go_ret
    exact ⟨rfl, rfl⟩
set_option maxRecDepth 20000 in
set_option maxHeartbeats 2000000 in
theorem punary_2 {w : World} {p : List Addr} (hc : Ec w p) (t : Int) : Calls Tryd.prog 60 #[.string ⟨#[33]⟩, .int .i64 t] w (TyP p w (unM 2 t)) := by
  unfold Ec errV at hc
  obtain ⟨s, hs⟩ : ∃ s : ByteArray, s = ⟨#[33]⟩ := ⟨_, rfl⟩
  have h0 : s.toList = [33] := by rw [hs]; first | rfl | simp | decide +kernel
  rw [← hs]
  clear hs
  by_cases ht : t = 3
  · subst ht
    rw [show unM 2 3 = some (3) by simp [unM]]
    go_enter Tryd.func60, Tryd.ntmps60
    go_wp2_with fail
    go_ret
    exact ⟨rfl, rfl⟩
  · have htb : (t == 3) = false := by simp [ht]
    have htn : (t != 3) = true := by simp [ht]
    rw [show unM 2 t = none by simp [unM, ht]]
    go_enter Tryd.func60, Tryd.ntmps60
    go_wp2_with fail
    exact ⟨rfl, rfl, rfl⟩
set_option maxRecDepth 20000 in
set_option maxHeartbeats 2000000 in
theorem punary_3 {w : World} {p : List Addr} (hc : Ec w p) (t : Int) : Calls Tryd.prog 60 #[.string ⟨#[105, 110, 116]⟩, .int .i64 t] w (TyP p w (unM 3 t)) := by
  unfold Ec errV at hc
  obtain ⟨s, hs⟩ : ∃ s : ByteArray, s = ⟨#[105, 110, 116]⟩ := ⟨_, rfl⟩
  have h0 : s.toList = [105, 110, 116] := by rw [hs]; first | rfl | simp | decide +kernel
  rw [← hs]
  clear hs
  by_cases ht : t = 2
  · subst ht
    rw [show unM 3 2 = some (1) by simp [unM]]
    go_enter Tryd.func60, Tryd.ntmps60
    go_wp2_with fail
    go_ret
    exact ⟨rfl, rfl⟩
  · have htb : (t == 2) = false := by simp [ht]
    have htn : (t != 2) = true := by simp [ht]
    rw [show unM 3 t = none by simp [unM, ht]]
    go_enter Tryd.func60, Tryd.ntmps60
    go_wp2_with fail
    exact ⟨rfl, rfl, rfl⟩
set_option maxRecDepth 20000 in
set_option maxHeartbeats 2000000 in
theorem punary_4 {w : World} {p : List Addr} (hc : Ec w p) (t : Int) : Calls Tryd.prog 60 #[.string ⟨#[102, 108, 111, 97, 116]⟩, .int .i64 t] w (TyP p w (unM 4 t)) := by
  unfold Ec errV at hc
  obtain ⟨s, hs⟩ : ∃ s : ByteArray, s = ⟨#[102, 108, 111, 97, 116]⟩ := ⟨_, rfl⟩
  have h0 : s.toList = [102, 108, 111, 97, 116] := by rw [hs]; first | rfl | simp | decide +kernel
  rw [← hs]
  clear hs
  by_cases ht : t = 1
  · subst ht
    rw [show unM 4 1 = some (2) by simp [unM]]
    go_enter Tryd.func60, Tryd.ntmps60
    go_wp2_with fail
    go_ret
    exact ⟨rfl, rfl⟩
  · have htb : (t == 1) = false := by simp [ht]
    have htn : (t != 1) = true := by simp [ht]
    rw [show unM 4 t = none by simp [unM, ht]]
    go_enter Tryd.func60, Tryd.ntmps60
    go_wp2_with fail
    exact ⟨rfl, rfl, rfl⟩
theorem punary_any {w : World} {p : List Addr} (hc : Ec w p) (a t : Int) (h1 : 1 ≤ a) (h4 : a ≤ 4) : Calls Tryd.prog 60 #[.string (opN 10 a), .int .i64 t] w (TyP p w (unM a t)) := by
  have h : a = 1 ∨ a = 2 ∨ a = 3 ∨ a = 4 := by omega
  rcases h with rfl | rfl | rfl | rfl
  · rw [opU1]
    exact punary_1 hc t
  · rw [opU2]
    exact punary_2 hc t
  · rw [opU3]
    exact punary_3 hc t
  · rw [opU4]
    exact punary_4 hc t
set_option maxRecDepth 20000 in
set_option maxHeartbeats 2000000 in
theorem pbinary_ne {w : World} {p : List Addr} (hc : Ec w p) (s : ByteArray) (a f t : Int) (h : f ≠ t) : Calls Tryd.prog 61 #[.string s, .int .i64 f, .int .i64 t] w (TyP p w (binM a f t)) := by
  rw [show binM a f t = none by simp [binM, h]]
  have MN := hide (pmust_no hc)
  have hb : (f == t) = false := by simp [h]
  clear h hc
  go_enter Tryd.func61, Tryd.ntmps61
  go_wp2_with fail
  refine MN.out.mono ?_
  rintro e w1 ⟨rfl, rfl⟩
  exact ⟨rfl, rfl, rfl⟩
set_option maxRecDepth 20000 in
set_option maxHeartbeats 2000000 in
theorem pbinary_1 {w : World} {p : List Addr} (hc : Ec w p) (t : Int) : Calls Tryd.prog 61 #[.string ⟨#[43]⟩, .int .i64 t, .int .i64 t] w (TyP p w (binM 1 t t)) := by
  have MN := hide (pmust_no hc)
  clear hc
  obtain ⟨s, hs⟩ : ∃ s : ByteArray, s = ⟨#[43]⟩ := ⟨_, rfl⟩
  have h0 : s.toList = [43] := by rw [hs]; first | rfl | simp | decide +kernel
  rw [← hs]
  clear hs
  by_cases ht : t = 3
  · subst ht
    rw [show binM 1 3 3 = none by simp [binM]]
    go_enter Tryd.func61, Tryd.ntmps61
    go_wp2_with fail
    refine (pmust_yes _).mono ?_
    rintro e w1 ⟨rfl, rfl⟩
    go_wp2_with fail
    refine MN.out.mono ?_
    rintro e w1 ⟨rfl, rfl⟩
    exact ⟨rfl, rfl, rfl⟩
  · have htb : (t == 3) = false := by simp [ht]
    have htn : (t != 3) = true := by simp [ht]
    rw [show binM 1 t t = some t by simp [binM, ht]]
    clear ht
    go_enter Tryd.func61, Tryd.ntmps61
    go_wp2_with fail
    refine (pmust_yes _).mono ?_
    rintro e w1 ⟨rfl, rfl⟩
    go_wp2_with fail
    refine (pmust_yes _).mono ?_
    rintro e w1 ⟨rfl, rfl⟩
    go_wp2_with fail
    go_ret
    exact ⟨rfl, rfl⟩
set_option maxRecDepth 20000 in
set_option maxHeartbeats 2000000 in
theorem pbinary_2 {w : World} {p : List Addr} (hc : Ec w p) (t : Int) : Calls Tryd.prog 61 #[.string ⟨#[45]⟩, .int .i64 t, .int .i64 t] w (TyP p w (binM 2 t t)) := by
  have MN := hide (pmust_no hc)
  clear hc
  obtain ⟨s, hs⟩ : ∃ s : ByteArray, s = ⟨#[45]⟩ := ⟨_, rfl⟩
  have h0 : s.toList = [45] := by rw [hs]; first | rfl | simp | decide +kernel
  rw [← hs]
  clear hs
  by_cases ht : t = 3
  · subst ht
    rw [show binM 2 3 3 = none by simp [binM]]
    go_enter Tryd.func61, Tryd.ntmps61
    go_wp2_with fail
    refine (pmust_yes _).mono ?_
    rintro e w1 ⟨rfl, rfl⟩
    go_wp2_with fail
    refine MN.out.mono ?_
    rintro e w1 ⟨rfl, rfl⟩
    exact ⟨rfl, rfl, rfl⟩
  · have htb : (t == 3) = false := by simp [ht]
    have htn : (t != 3) = true := by simp [ht]
    rw [show binM 2 t t = some t by simp [binM, ht]]
    clear ht
    go_enter Tryd.func61, Tryd.ntmps61
    go_wp2_with fail
    refine (pmust_yes _).mono ?_
    rintro e w1 ⟨rfl, rfl⟩
    go_wp2_with fail
    refine (pmust_yes _).mono ?_
    rintro e w1 ⟨rfl, rfl⟩
    go_wp2_with fail
    go_ret
    exact ⟨rfl, rfl⟩
set_option maxRecDepth 20000 in
set_option maxHeartbeats 2000000 in
theorem pbinary_3 {w : World} {p : List Addr} (hc : Ec w p) (t : Int) : Calls Tryd.prog 61 #[.string ⟨#[42]⟩, .int .i64 t, .int .i64 t] w (TyP p w (binM 3 t t)) := by
  have MN := hide (pmust_no hc)
  clear hc
  obtain ⟨s, hs⟩ : ∃ s : ByteArray, s = ⟨#[42]⟩ := ⟨_, rfl⟩
  have h0 : s.toList = [42] := by rw [hs]; first | rfl | simp | decide +kernel
  rw [← hs]
  clear hs
  by_cases ht : t = 3
  · subst ht
    rw [show binM 3 3 3 = none by simp [binM]]
    go_enter Tryd.func61, Tryd.ntmps61
    go_wp2_with fail
    refine (pmust_yes _).mono ?_
    rintro e w1 ⟨rfl, rfl⟩
    go_wp2_with fail
    refine MN.out.mono ?_
    rintro e w1 ⟨rfl, rfl⟩
    exact ⟨rfl, rfl, rfl⟩
  · have htb : (t == 3) = false := by simp [ht]
    have htn : (t != 3) = true := by simp [ht]
    rw [show binM 3 t t = some t by simp [binM, ht]]
    clear ht
    go_enter Tryd.func61, Tryd.ntmps61
    go_wp2_with fail
    refine (pmust_yes _).mono ?_
    rintro e w1 ⟨rfl, rfl⟩
    go_wp2_with fail
    refine (pmust_yes _).mono ?_
    rintro e w1 ⟨rfl, rfl⟩
    go_wp2_with fail
    go_ret
    exact ⟨rfl, rfl⟩
set_option maxRecDepth 20000 in
set_option maxHeartbeats 2000000 in
theorem pbinary_4 {w : World} {p : List Addr} (hc : Ec w p) (t : Int) : Calls Tryd.prog 61 #[.string ⟨#[47]⟩, .int .i64 t, .int .i64 t] w (TyP p w (binM 4 t t)) := by
  have MN := hide (pmust_no hc)
  clear hc
  obtain ⟨s, hs⟩ : ∃ s : ByteArray, s = ⟨#[47]⟩ := ⟨_, rfl⟩
  have h0 : s.toList = [47] := by rw [hs]; first | rfl | simp | decide +kernel
  rw [← hs]
  clear hs
  by_cases ht : t = 3
  · subst ht
    rw [show binM 4 3 3 = none by simp [binM]]
    go_enter Tryd.func61, Tryd.ntmps61
    go_wp2_with fail
    refine (pmust_yes _).mono ?_
    rintro e w1 ⟨rfl, rfl⟩
    go_wp2_with fail
    refine MN.out.mono ?_
    rintro e w1 ⟨rfl, rfl⟩
    exact ⟨rfl, rfl, rfl⟩
  · have htb : (t == 3) = false := by simp [ht]
    have htn : (t != 3) = true := by simp [ht]
    rw [show binM 4 t t = some t by simp [binM, ht]]
    clear ht
    go_enter Tryd.func61, Tryd.ntmps61
    go_wp2_with fail
    refine (pmust_yes _).mono ?_
    rintro e w1 ⟨rfl, rfl⟩
    go_wp2_with fail
    refine (pmust_yes _).mono ?_
    rintro e w1 ⟨rfl, rfl⟩
    go_wp2_with fail
    go_ret
    exact ⟨rfl, rfl⟩
set_option maxRecDepth 20000 in
set_option maxHeartbeats 2000000 in
theorem pbinary_5 {w : World} {p : List Addr} (hc : Ec w p) (t : Int) : Calls Tryd.prog 61 #[.string ⟨#[37]⟩, .int .i64 t, .int .i64 t] w (TyP p w (binM 5 t t)) := by
  have MN := hide (pmust_no hc)
  clear hc
  obtain ⟨s, hs⟩ : ∃ s : ByteArray, s = ⟨#[37]⟩ := ⟨_, rfl⟩
  have h0 : s.toList = [37] := by rw [hs]; first | rfl | simp | decide +kernel
  rw [← hs]
  clear hs
  by_cases ht : t = 1
  · subst ht
    rw [show binM 5 1 1 = some 1 by simp [binM]]
    go_enter Tryd.func61, Tryd.ntmps61
    go_wp2_with fail
    refine (pmust_yes _).mono ?_
    rintro e w1 ⟨rfl, rfl⟩
    go_wp2_with fail
    refine (pmust_yes _).mono ?_
    rintro e w1 ⟨rfl, rfl⟩
    go_wp2_with fail
    go_ret
    exact ⟨rfl, rfl⟩
  · have htb : (t == 1) = false := by simp [ht]
    rw [show binM 5 t t = none by simp [binM, ht]]
    clear ht
    go_enter Tryd.func61, Tryd.ntmps61
    go_wp2_with fail
    refine (pmust_yes _).mono ?_
    rintro e w1 ⟨rfl, rfl⟩
    go_wp2_with fail
    refine MN.out.mono ?_
    rintro e w1 ⟨rfl, rfl⟩
    exact ⟨rfl, rfl, rfl⟩
set_option maxRecDepth 20000 in
set_option maxHeartbeats 2000000 in
theorem pbinary_6 {w : World} {p : List Addr} (hc : Ec w p) (t : Int) : Calls Tryd.prog 61 #[.string ⟨#[61, 61]⟩, .int .i64 t, .int .i64 t] w (TyP p w (binM 6 t t)) := by
  have MN := hide (pmust_no hc)
  clear hc
  obtain ⟨s, hs⟩ : ∃ s : ByteArray, s = ⟨#[61, 61]⟩ := ⟨_, rfl⟩
  have h0 : s.toList = [61, 61] := by rw [hs]; first | rfl | simp | decide +kernel
  rw [← hs]
  clear hs
  rw [show binM 6 t t = some 3 by simp [binM]]
  go_enter Tryd.func61, Tryd.ntmps61
  go_wp2_with fail
  refine (pmust_yes _).mono ?_
  rintro e w1 ⟨rfl, rfl⟩
  go_wp2_with fail
  go_ret
  exact ⟨rfl, rfl⟩
set_option maxRecDepth 20000 in
set_option maxHeartbeats 2000000 in
theorem pbinary_7 {w : World} {p : List Addr} (hc : Ec w p) (t : Int) : Calls Tryd.prog 61 #[.string ⟨#[33, 61]⟩, .int .i64 t, .int .i64 t] w (TyP p w (binM 7 t t)) := by
  have MN := hide (pmust_no hc)
  clear hc
  obtain ⟨s, hs⟩ : ∃ s : ByteArray, s = ⟨#[33, 61]⟩ := ⟨_, rfl⟩
  have h0 : s.toList = [33, 61] := by rw [hs]; first | rfl | simp | decide +kernel
  rw [← hs]
  clear hs
  rw [show binM 7 t t = some 3 by simp [binM]]
  go_enter Tryd.func61, Tryd.ntmps61
  go_wp2_with fail
  refine (pmust_yes _).mono ?_
  rintro e w1 ⟨rfl, rfl⟩
  go_wp2_with fail
  go_ret
  exact ⟨rfl, rfl⟩
set_option maxRecDepth 20000 in
set_option maxHeartbeats 2000000 in
theorem pbinary_8 {w : World} {p : List Addr} (hc : Ec w p) (t : Int) : Calls Tryd.prog 61 #[.string ⟨#[60]⟩, .int .i64 t, .int .i64 t] w (TyP p w (binM 8 t t)) := by
  have MN := hide (pmust_no hc)
  clear hc
  obtain ⟨s, hs⟩ : ∃ s : ByteArray, s = ⟨#[60]⟩ := ⟨_, rfl⟩
  have h0 : s.toList = [60] := by rw [hs]; first | rfl | simp | decide +kernel
  rw [← hs]
  clear hs
  by_cases ht : t = 3
  · subst ht
    rw [show binM 8 3 3 = none by simp [binM]]
    go_enter Tryd.func61, Tryd.ntmps61
    go_wp2_with fail
    refine (pmust_yes _).mono ?_
    rintro e w1 ⟨rfl, rfl⟩
    go_wp2_with fail
    refine MN.out.mono ?_
    rintro e w1 ⟨rfl, rfl⟩
    exact ⟨rfl, rfl, rfl⟩
  · have htb : (t == 3) = false := by simp [ht]
    have htn : (t != 3) = true := by simp [ht]
    rw [show binM 8 t t = some 3 by simp [binM, ht]]
    clear ht
    go_enter Tryd.func61, Tryd.ntmps61
    go_wp2_with fail
    refine (pmust_yes _).mono ?_
    rintro e w1 ⟨rfl, rfl⟩
    go_wp2_with fail
    refine (pmust_yes _).mono ?_
    rintro e w1 ⟨rfl, rfl⟩
    go_wp2_with fail
    go_ret
    exact ⟨rfl, rfl⟩
set_option maxRecDepth 20000 in
set_option maxHeartbeats 2000000 in
theorem pbinary_9 {w : World} {p : List Addr} (hc : Ec w p) (t : Int) : Calls Tryd.prog 61 #[.string ⟨#[60, 61]⟩, .int .i64 t, .int .i64 t] w (TyP p w (binM 9 t t)) := by
  have MN := hide (pmust_no hc)
  clear hc
  obtain ⟨s, hs⟩ : ∃ s : ByteArray, s = ⟨#[60, 61]⟩ := ⟨_, rfl⟩
  have h0 : s.toList = [60, 61] := by rw [hs]; first | rfl | simp | decide +kernel
  rw [← hs]
  clear hs
  by_cases ht : t = 3
  · subst ht
    rw [show binM 9 3 3 = none by simp [binM]]
    go_enter Tryd.func61, Tryd.ntmps61
    go_wp2_with fail
    refine (pmust_yes _).mono ?_
    rintro e w1 ⟨rfl, rfl⟩
    go_wp2_with fail
    refine MN.out.mono ?_
    rintro e w1 ⟨rfl, rfl⟩
    exact ⟨rfl, rfl, rfl⟩
  · have htb : (t == 3) = false := by simp [ht]
    have htn : (t != 3) = true := by simp [ht]
    rw [show binM 9 t t = some 3 by simp [binM, ht]]
    clear ht
    go_enter Tryd.func61, Tryd.ntmps61
    go_wp2_with fail
    refine (pmust_yes _).mono ?_
    rintro e w1 ⟨rfl, rfl⟩
    go_wp2_with fail
    refine (pmust_yes _).mono ?_
    rintro e w1 ⟨rfl, rfl⟩
    go_wp2_with fail
    go_ret
    exact ⟨rfl, rfl⟩
set_option maxRecDepth 20000 in
set_option maxHeartbeats 2000000 in
theorem pbinary_10 {w : World} {p : List Addr} (hc : Ec w p) (t : Int) : Calls Tryd.prog 61 #[.string ⟨#[62]⟩, .int .i64 t, .int .i64 t] w (TyP p w (binM 10 t t)) := by
  have MN := hide (pmust_no hc)
  clear hc
  obtain ⟨s, hs⟩ : ∃ s : ByteArray, s = ⟨#[62]⟩ := ⟨_, rfl⟩
  have h0 : s.toList = [62] := by rw [hs]; first | rfl | simp | decide +kernel
  rw [← hs]
  clear hs
  by_cases ht : t = 3
  · subst ht
    rw [show binM 10 3 3 = none by simp [binM]]
    go_enter Tryd.func61, Tryd.ntmps61
    go_wp2_with fail
    refine (pmust_yes _).mono ?_
    rintro e w1 ⟨rfl, rfl⟩
    go_wp2_with fail
    refine MN.out.mono ?_
    rintro e w1 ⟨rfl, rfl⟩
    exact ⟨rfl, rfl, rfl⟩
  · have htb : (t == 3) = false := by simp [ht]
    have htn : (t != 3) = true := by simp [ht]
    rw [show binM 10 t t = some 3 by simp [binM, ht]]
    clear ht
    go_enter Tryd.func61, Tryd.ntmps61
    go_wp2_with fail
    refine (pmust_yes _).mono ?_
    rintro e w1 ⟨rfl, rfl⟩
    go_wp2_with fail
    refine (pmust_yes _).mono ?_
    rintro e w1 ⟨rfl, rfl⟩
    go_wp2_with fail
    go_ret
    exact ⟨rfl, rfl⟩
set_option maxRecDepth 20000 in
set_option maxHeartbeats 2000000 in
theorem pbinary_11 {w : World} {p : List Addr} (hc : Ec w p) (t : Int) : Calls Tryd.prog 61 #[.string ⟨#[62, 61]⟩, .int .i64 t, .int .i64 t] w (TyP p w (binM 11 t t)) := by
  have MN := hide (pmust_no hc)
  clear hc
  obtain ⟨s, hs⟩ : ∃ s : ByteArray, s = ⟨#[62, 61]⟩ := ⟨_, rfl⟩
  have h0 : s.toList = [62, 61] := by rw [hs]; first | rfl | simp | decide +kernel
  rw [← hs]
  clear hs
  by_cases ht : t = 3
  · subst ht
    rw [show binM 11 3 3 = none by simp [binM]]
    go_enter Tryd.func61, Tryd.ntmps61
    go_wp2_with fail
    refine (pmust_yes _).mono ?_
    rintro e w1 ⟨rfl, rfl⟩
    go_wp2_with fail
    refine MN.out.mono ?_
    rintro e w1 ⟨rfl, rfl⟩
    exact ⟨rfl, rfl, rfl⟩
  · have htb : (t == 3) = false := by simp [ht]
    have htn : (t != 3) = true := by simp [ht]
    rw [show binM 11 t t = some 3 by simp [binM, ht]]
    clear ht
    go_enter Tryd.func61, Tryd.ntmps61
    go_wp2_with fail
    refine (pmust_yes _).mono ?_
    rintro e w1 ⟨rfl, rfl⟩
    go_wp2_with fail
    refine (pmust_yes _).mono ?_
    rintro e w1 ⟨rfl, rfl⟩
    go_wp2_with fail
    go_ret
    exact ⟨rfl, rfl⟩
theorem pbinary_any {w : World} {p : List Addr} (hc : Ec w p) (a f t : Int) (h1 : 1 ≤ a) (h4 : a ≤ 11) : Calls Tryd.prog 61 #[.string (opN 11 a), .int .i64 f, .int .i64 t] w (TyP p w (binM a f t)) := by
  by_cases hf : f = t
  · subst hf
    have h : a = 1 ∨ a = 2 ∨ a = 3 ∨ a = 4 ∨ a = 5 ∨ a = 6 ∨ a = 7 ∨ a = 8 ∨ a = 9 ∨ a = 10 ∨ a = 11 := by omega
    rcases h with rfl | rfl | rfl | rfl | rfl | rfl | rfl | rfl | rfl | rfl | rfl
    · rw [opB1]
      exact pbinary_1 hc f
    · rw [opB2]
      exact pbinary_2 hc f
    · rw [opB3]
      exact pbinary_3 hc f
    · rw [opB4]
      exact pbinary_4 hc f
    · rw [opB5]
      exact pbinary_5 hc f
    · rw [opB6]
      exact pbinary_6 hc f
    · rw [opB7]
      exact pbinary_7 hc f
    · rw [opB8]
      exact pbinary_8 hc f
    · rw [opB9]
      exact pbinary_9 hc f
    · rw [opB10]
      exact pbinary_10 hc f
    · rw [opB11]
      exact pbinary_11 hc f
  · exact pbinary_ne hc _ a f t hf
end Go.Proofs.YtlheflkdapckbaaDoor.Ck
