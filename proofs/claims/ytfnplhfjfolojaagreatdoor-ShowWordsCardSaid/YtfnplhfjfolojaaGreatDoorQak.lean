/- Texts of this proof, packed: contracts of the program's functions, and the plain model that they are held against. -/
import Derived.Test.YtfnplhfjfolojaaGreatDoorQaj
set_option maxRecDepth 20000
set_option maxHeartbeats 4000000
namespace Go.Proofs.YtfnplhfjfolojaaGreatDoor.Ck.Sho
open Go.RowKit
def ZR (K : Nat) (p : List Addr) (ok : Nd -> Bool) (n : Nd) : Prop := ∀ w v, Ev w p -> Zq w n v -> Calls Tryz.prog K #[v] w fun e w' => Gt p w (ok n) (.tuple #[]) e w'
theorem each_showdecl {w : World} {p : List Addr} (he : Ev w p) (kd ps : Int) (nm : ByteArray) (t nz z ob bi : Int) (oa : Option Addr) (len cap : Nat) (ks : List Nd) (hk : Zr w ks (.slice oa len cap)) (ok : Nd -> Bool) (hr : ∀ n ∈ ks, ZR 40 p ok n) :
 Calls Tryz.prog 39 #[.agg #[.int .i64 kd, .int .i64 ps, .string nm, .int .i64 t, .int .i64 nz, .int .i64 z, .int .i64 ob, .int .u64 bi, .slice oa len cap], .func (.func 40) #[] #[]] w fun e w' => Gt p w (ks.all ok) (.agg #[.int .i64 kd, .int .i64 ps, .string nm, .int .i64 t, .int .i64 nz, .int .i64 z, .int .i64 ob, .int .u64 bi, .slice none 0 0]) e w' := by
 obtain ⟨oa1, cap1, hs, hkk⟩ := hk.kid
 injection hs with hs1 hs2 hs3
 subst hs1 hs3
 have hb1 := Zd w (.cells #[.int .i64 kd, .int .i64 ps, .string nm, .int .i64 t, .int .i64 nz, .int .i64 z, .int .i64 ob, .int .u64 bi, .slice oa len cap] 29)
 have k1 : Nod (w.alloc (.cells #[.int .i64 kd, .int .i64 ps, .string nm, .int .i64 t, .int .i64 nz, .int .i64 z, .int .i64 ob, .int .u64 bi, .slice oa len cap] 29)) w.heap.size (.int .i64 kd) (.int .i64 ps) (.string nm) (.int .i64 t) (.int .i64 nz) (.int .i64 z) (.int .i64 ob) (.int .u64 bi) (.slice oa len cap) := B_ _ _
 have s1 : (w.alloc (.cells #[.int .i64 kd, .int .i64 ps, .string nm, .int .i64 t, .int .i64 nz, .int .i64 z, .int .i64 ob, .int .u64 bi, .slice oa len cap] 29)).heap.size = w.heap.size + 1 := by simp
 have hb2 := Zd (w.alloc (.cells #[.int .i64 kd, .int .i64 ps, .string nm, .int .i64 t, .int .i64 nz, .int .i64 z, .int .i64 ob, .int .u64 bi, .slice oa len cap] 29)) Zh
 have k2 : Nod ((w.alloc (.cells #[.int .i64 kd, .int .i64 ps, .string nm, .int .i64 t, .int .i64 nz, .int .i64 z, .int .i64 ob, .int .u64 bi, .slice oa len cap] 29)).alloc Zh) (w.alloc (.cells #[.int .i64 kd, .int .i64 ps, .string nm, .int .i64 t, .int .i64 nz, .int .i64 z, .int .i64 ob, .int .u64 bi, .slice oa len cap] 29)).heap.size (.int .i64 0) (.int .i64 0) (.string ⟨#[]⟩) (.int .i64 0) (.int .i64 0) (.int .i64 0) (.int .i64 0) (.int .u64 0) (.slice none 0 0) := B_ _ _
 rw [s1] at k2
 have B0 := Zb (Zc hb1 hb2)
 have N0 := Zb (k1.bel hb2)
 have Z0 := Zb k2
 have E0 := Zb (he.bel B0.out)
 have HK := Zb hkk
 have HR := Zb hr
 have HLN := Zb hs2
 have hlen : len <= 9223372036854775807 := by
  rw [hs2]
  rcases hkk with rfl | ⟨a, _, h1, h2, _⟩
  · simp
  · unfold maxLen at h2
    omega
 have hb0 := Zb (show Below w.heap.size w _ from B0.out)
 clear he hk hkk hr hs2 hb1 k1 s1 hb2 k2
 unfold Zh at *
 go_enter Tryz.func39, Tryz.ntmps39
 obtain ⟨out, ho⟩ : ∃ out, ks.all ok = out := ⟨_, rfl⟩
 rw [ho]
 have HW := Zb ho
 clear ho
 go_wp2_with fail
 generalize (w.alloc _).alloc _ = w0 at *
 go_loopw [10] (fun vi wr => ∃ (j : Nat), j <= len /\ vi = .int .i64 j /\ Hid ((ks.take j).all ok = true /\ Below w0.heap.size w0 wr)) (fun vi _ => len - (intOf vi).toNat)
 case atStart => exact ⟨0, Nat.zero_le _, rfl, by simp, Below.refl _ _⟩
 case round =>
  obtain ⟨j, hj, rfl, I⟩ := hrel
  by_cases hjl : j < len
  · have hj2 : (j : Int) < (len : Int) := by omega
    obtain ⟨a, rfl, hc1, hc2, hkid⟩ : ∃ a, oa = some a /\ ks.length <= cap /\ cap <= maxLen /\ ∀ j n, ks[j]? = some n -> ZD w a (9 * j) n := by
     rcases HK.out with h | h
     · exfalso
       have := HLN.out
       rw [h] at this
       simp at this
       omega
     · exact h
    obtain ⟨n, hn⟩ : ∃ n, ks[j]? = some n := ⟨_, List.getElem?_eq_getElem (by have := HLN.out; omega)⟩
    have hrn := HR.out n (List.mem_of_getElem? hn)
    have HN := Zb hn
    have BW := Zb (Zc hb0.out I.out.2)
    obtain ⟨on, hon⟩ : ∃ on, ok n = on := ⟨_, rfl⟩
    have HON := Zb hon
    obtain ⟨kd', ps', nm', t', nz', z', ob', bi', ks'⟩ := n
    have hA := ZD.bel BW.out a (9 * j) _ (hkid j _ hn)
    obtain ⟨oa', cap', c0, c1, c2, c3, c4, c5, c6, c7, c8, hkk⟩ := hA.cells
    obtain ⟨len', hln'⟩ : ∃ len', len' = ks'.length := ⟨_, rfl⟩
    rw [← hln'] at c8 hkk
    have hb1 := Zd wr (.cells #[.int .i64 kd', .int .i64 ps', .string nm', .int .i64 t', .int .i64 nz', .int .i64 z', .int .i64 ob', .int .u64 bi', .slice oa' len' cap'] 29)
    have hR : Zq (wr.alloc (.cells #[.int .i64 kd', .int .i64 ps', .string nm', .int .i64 t', .int .i64 nz', .int .i64 z', .int .i64 ob', .int .u64 bi', .slice oa' len' cap'] 29)) (.mk kd' ps' nm' t' nz' z' ob' bi' ks') (.agg #[.int .i64 kd', .int .i64 ps', .string nm', .int .i64 t', .int .i64 nz', .int .i64 z', .int .i64 ob', .int .u64 bi', .slice oa' len' cap']) := by
     unfold Zq
     exact ⟨_, rfl, Zr.bel hb1 _ _ hkk⟩
    have RR := Zb (hrn _ _ ((E0.out.bel I.out.2).bel hb1) hR)
    rw [hon] at RR
    have B1 := Zb (Zc I.out.2 hb1)
    unfold maxLen at hc2
    clear hkid hkk hln' hn hrn hc1 hb1 hR hA hon BW
    go_wp2_with fail
    refine RR.out.mono ?_
    intro e w3 hp
    rcases hp.both with ⟨h1, rfl, hb3⟩ | ⟨h1, rfl, hb3⟩
    · have B3 := Zb (Zc B1.out hb3)
      have O3 := Zb (And.intro h1 I.out.1)
      clear RR B1 hb3 I c0 c1 c2 c3 c4 c5 c6 c7 c8 h1 hp
      go_wp2_with fail
      go_roundw
      case rel =>
       refine ⟨j + 1, by omega, by go_num, ?_, B3.out⟩
       rw [YI HN.out, List.all_append, O3.out.2, Bool.true_and]
       simp [HON.out, O3.out.1]
      case measure =>
       simp [intOf]
       omega
    · refine ⟨rfl, Gt.no ?_ (Zc hb0.out (Zc B1.out hb3))⟩
      rw [← HW.out]
      cases hh : ks.all ok with
      | false => rfl
      | true =>
       have := List.all_eq_true.1 hh _ (List.mem_of_getElem? HN.out)
       rw [HON.out, h1] at this
       cases this
  · have hj2 : ¬ (j : Int) < (len : Int) := by omega
    have n1 := N0.out.bel I.out.2
    have z1 := Z0.out.bel I.out.2
    have b1' := Zc hb0.out I.out.2
    obtain ⟨⟨f0, f1, f2, f3, f4, f5, f6, f7, f8⟩, b0, b1, b2, b3, b4, b5, b6, b7, b8⟩ := n1.all
    obtain ⟨⟨g0, g1, g2, g3, g4, g5, g6, g7, g8⟩, c0, c1, c2, c3, c4, c5, c6, c7, c8⟩ := z1.all
    obtain ⟨k3, t3⟩ := Zs n1 8 (.slice none 0 0)
    obtain ⟨k4, t4⟩ := Zy (z1.tn t3 (by omega)) (.int .i64 kd) (.int .i64 ps) (.string nm) (.int .i64 t) (.int .i64 nz) (.int .i64 z) (.int .i64 ob) (.int .u64 bi) (.slice none 0 0)
    have K4 := Zb k4
    have B4 := Zb ((b1'.trans (t3.bel (by omega) b1'.size)).trans (t4.bel (by omega) (Nat.le_trans b1'.size t3.size)))
    have HT : out = true := by
     rw [← HW.out]
     have := I.out.1
     rwa [List.take_of_length_le (by have := HLN.out; omega)] at this
    clear k3 t3 k4 t4 n1 z1 b1' I
    go_wp2_with fail
    refine Zg (w.heap.size + 1) rfl rfl K4.out rfl ?_
    first | exact Gt.yes HT B4.out | exact Gt.yes rfl B4.out
theorem each_showparam {w : World} {p : List Addr} (he : Ev w p) (kd ps : Int) (nm : ByteArray) (t nz z ob bi : Int) (oa : Option Addr) (len cap : Nat) (ks : List Nd) (hk : Zr w ks (.slice oa len cap)) (ok : Nd -> Bool) (hr : ∀ n ∈ ks, ZR 109 p ok n) :
 Calls Tryz.prog 39 #[.agg #[.int .i64 kd, .int .i64 ps, .string nm, .int .i64 t, .int .i64 nz, .int .i64 z, .int .i64 ob, .int .u64 bi, .slice oa len cap], .func (.func 109) #[] #[]] w fun e w' => Gt p w (ks.all ok) (.agg #[.int .i64 kd, .int .i64 ps, .string nm, .int .i64 t, .int .i64 nz, .int .i64 z, .int .i64 ob, .int .u64 bi, .slice none 0 0]) e w' := by
 obtain ⟨oa1, cap1, hs, hkk⟩ := hk.kid
 injection hs with hs1 hs2 hs3
 subst hs1 hs3
 have hb1 := Zd w (.cells #[.int .i64 kd, .int .i64 ps, .string nm, .int .i64 t, .int .i64 nz, .int .i64 z, .int .i64 ob, .int .u64 bi, .slice oa len cap] 29)
 have k1 : Nod (w.alloc (.cells #[.int .i64 kd, .int .i64 ps, .string nm, .int .i64 t, .int .i64 nz, .int .i64 z, .int .i64 ob, .int .u64 bi, .slice oa len cap] 29)) w.heap.size (.int .i64 kd) (.int .i64 ps) (.string nm) (.int .i64 t) (.int .i64 nz) (.int .i64 z) (.int .i64 ob) (.int .u64 bi) (.slice oa len cap) := B_ _ _
 have s1 : (w.alloc (.cells #[.int .i64 kd, .int .i64 ps, .string nm, .int .i64 t, .int .i64 nz, .int .i64 z, .int .i64 ob, .int .u64 bi, .slice oa len cap] 29)).heap.size = w.heap.size + 1 := by simp
 have hb2 := Zd (w.alloc (.cells #[.int .i64 kd, .int .i64 ps, .string nm, .int .i64 t, .int .i64 nz, .int .i64 z, .int .i64 ob, .int .u64 bi, .slice oa len cap] 29)) Zh
 have k2 : Nod ((w.alloc (.cells #[.int .i64 kd, .int .i64 ps, .string nm, .int .i64 t, .int .i64 nz, .int .i64 z, .int .i64 ob, .int .u64 bi, .slice oa len cap] 29)).alloc Zh) (w.alloc (.cells #[.int .i64 kd, .int .i64 ps, .string nm, .int .i64 t, .int .i64 nz, .int .i64 z, .int .i64 ob, .int .u64 bi, .slice oa len cap] 29)).heap.size (.int .i64 0) (.int .i64 0) (.string ⟨#[]⟩) (.int .i64 0) (.int .i64 0) (.int .i64 0) (.int .i64 0) (.int .u64 0) (.slice none 0 0) := B_ _ _
 rw [s1] at k2
 have B0 := Zb (Zc hb1 hb2)
 have N0 := Zb (k1.bel hb2)
 have Z0 := Zb k2
 have E0 := Zb (he.bel B0.out)
 have HK := Zb hkk
 have HR := Zb hr
 have HLN := Zb hs2
 have hlen : len <= 9223372036854775807 := by
  rw [hs2]
  rcases hkk with rfl | ⟨a, _, h1, h2, _⟩
  · simp
  · unfold maxLen at h2
    omega
 have hb0 := Zb (show Below w.heap.size w _ from B0.out)
 clear he hk hkk hr hs2 hb1 k1 s1 hb2 k2
 unfold Zh at *
 go_enter Tryz.func39, Tryz.ntmps39
 obtain ⟨out, ho⟩ : ∃ out, ks.all ok = out := ⟨_, rfl⟩
 rw [ho]
 have HW := Zb ho
 clear ho
 go_wp2_with fail
 generalize (w.alloc _).alloc _ = w0 at *
 go_loopw [10] (fun vi wr => ∃ (j : Nat), j <= len /\ vi = .int .i64 j /\ Hid ((ks.take j).all ok = true /\ Below w0.heap.size w0 wr)) (fun vi _ => len - (intOf vi).toNat)
 case atStart => exact ⟨0, Nat.zero_le _, rfl, by simp, Below.refl _ _⟩
 case round =>
  obtain ⟨j, hj, rfl, I⟩ := hrel
  by_cases hjl : j < len
  · have hj2 : (j : Int) < (len : Int) := by omega
    obtain ⟨a, rfl, hc1, hc2, hkid⟩ : ∃ a, oa = some a /\ ks.length <= cap /\ cap <= maxLen /\ ∀ j n, ks[j]? = some n -> ZD w a (9 * j) n := by
     rcases HK.out with h | h
     · exfalso
       have := HLN.out
       rw [h] at this
       simp at this
       omega
     · exact h
    obtain ⟨n, hn⟩ : ∃ n, ks[j]? = some n := ⟨_, List.getElem?_eq_getElem (by have := HLN.out; omega)⟩
    have hrn := HR.out n (List.mem_of_getElem? hn)
    have HN := Zb hn
    have BW := Zb (Zc hb0.out I.out.2)
    obtain ⟨on, hon⟩ : ∃ on, ok n = on := ⟨_, rfl⟩
    have HON := Zb hon
    obtain ⟨kd', ps', nm', t', nz', z', ob', bi', ks'⟩ := n
    have hA := ZD.bel BW.out a (9 * j) _ (hkid j _ hn)
    obtain ⟨oa', cap', c0, c1, c2, c3, c4, c5, c6, c7, c8, hkk⟩ := hA.cells
    obtain ⟨len', hln'⟩ : ∃ len', len' = ks'.length := ⟨_, rfl⟩
    rw [← hln'] at c8 hkk
    have hb1 := Zd wr (.cells #[.int .i64 kd', .int .i64 ps', .string nm', .int .i64 t', .int .i64 nz', .int .i64 z', .int .i64 ob', .int .u64 bi', .slice oa' len' cap'] 29)
    have hR : Zq (wr.alloc (.cells #[.int .i64 kd', .int .i64 ps', .string nm', .int .i64 t', .int .i64 nz', .int .i64 z', .int .i64 ob', .int .u64 bi', .slice oa' len' cap'] 29)) (.mk kd' ps' nm' t' nz' z' ob' bi' ks') (.agg #[.int .i64 kd', .int .i64 ps', .string nm', .int .i64 t', .int .i64 nz', .int .i64 z', .int .i64 ob', .int .u64 bi', .slice oa' len' cap']) := by
     unfold Zq
     exact ⟨_, rfl, Zr.bel hb1 _ _ hkk⟩
    have RR := Zb (hrn _ _ ((E0.out.bel I.out.2).bel hb1) hR)
    rw [hon] at RR
    have B1 := Zb (Zc I.out.2 hb1)
    unfold maxLen at hc2
    clear hkid hkk hln' hn hrn hc1 hb1 hR hA hon BW
    go_wp2_with fail
    refine RR.out.mono ?_
    intro e w3 hp
    rcases hp.both with ⟨h1, rfl, hb3⟩ | ⟨h1, rfl, hb3⟩
    · have B3 := Zb (Zc B1.out hb3)
      have O3 := Zb (And.intro h1 I.out.1)
      clear RR B1 hb3 I c0 c1 c2 c3 c4 c5 c6 c7 c8 h1 hp
      go_wp2_with fail
      go_roundw
      case rel =>
       refine ⟨j + 1, by omega, by go_num, ?_, B3.out⟩
       rw [YI HN.out, List.all_append, O3.out.2, Bool.true_and]
       simp [HON.out, O3.out.1]
      case measure =>
       simp [intOf]
       omega
    · refine ⟨rfl, Gt.no ?_ (Zc hb0.out (Zc B1.out hb3))⟩
      rw [← HW.out]
      cases hh : ks.all ok with
      | false => rfl
      | true =>
       have := List.all_eq_true.1 hh _ (List.mem_of_getElem? HN.out)
       rw [HON.out, h1] at this
       cases this
  · have hj2 : ¬ (j : Int) < (len : Int) := by omega
    have n1 := N0.out.bel I.out.2
    have z1 := Z0.out.bel I.out.2
    have b1' := Zc hb0.out I.out.2
    obtain ⟨⟨f0, f1, f2, f3, f4, f5, f6, f7, f8⟩, b0, b1, b2, b3, b4, b5, b6, b7, b8⟩ := n1.all
    obtain ⟨⟨g0, g1, g2, g3, g4, g5, g6, g7, g8⟩, c0, c1, c2, c3, c4, c5, c6, c7, c8⟩ := z1.all
    obtain ⟨k3, t3⟩ := Zs n1 8 (.slice none 0 0)
    obtain ⟨k4, t4⟩ := Zy (z1.tn t3 (by omega)) (.int .i64 kd) (.int .i64 ps) (.string nm) (.int .i64 t) (.int .i64 nz) (.int .i64 z) (.int .i64 ob) (.int .u64 bi) (.slice none 0 0)
    have K4 := Zb k4
    have B4 := Zb ((b1'.trans (t3.bel (by omega) b1'.size)).trans (t4.bel (by omega) (Nat.le_trans b1'.size t3.size)))
    have HT : out = true := by
     rw [← HW.out]
     have := I.out.1
     rwa [List.take_of_length_le (by have := HLN.out; omega)] at this
    clear k3 t3 k4 t4 n1 z1 b1' I
    go_wp2_with fail
    refine Zg (w.heap.size + 1) rfl rfl K4.out rfl ?_
    first | exact Gt.yes HT B4.out | exact Gt.yes rfl B4.out
theorem each_showstmt {w : World} {p : List Addr} (he : Ev w p) (kd ps : Int) (nm : ByteArray) (t nz z ob bi : Int) (oa : Option Addr) (len cap : Nat) (ks : List Nd) (hk : Zr w ks (.slice oa len cap)) (ok : Nd -> Bool) (hr : ∀ n ∈ ks, ZR 146 p ok n) :
 Calls Tryz.prog 39 #[.agg #[.int .i64 kd, .int .i64 ps, .string nm, .int .i64 t, .int .i64 nz, .int .i64 z, .int .i64 ob, .int .u64 bi, .slice oa len cap], .func (.func 146) #[] #[]] w fun e w' => Gt p w (ks.all ok) (.agg #[.int .i64 kd, .int .i64 ps, .string nm, .int .i64 t, .int .i64 nz, .int .i64 z, .int .i64 ob, .int .u64 bi, .slice none 0 0]) e w' := by
 obtain ⟨oa1, cap1, hs, hkk⟩ := hk.kid
 injection hs with hs1 hs2 hs3
 subst hs1 hs3
 have hb1 := Zd w (.cells #[.int .i64 kd, .int .i64 ps, .string nm, .int .i64 t, .int .i64 nz, .int .i64 z, .int .i64 ob, .int .u64 bi, .slice oa len cap] 29)
 have k1 : Nod (w.alloc (.cells #[.int .i64 kd, .int .i64 ps, .string nm, .int .i64 t, .int .i64 nz, .int .i64 z, .int .i64 ob, .int .u64 bi, .slice oa len cap] 29)) w.heap.size (.int .i64 kd) (.int .i64 ps) (.string nm) (.int .i64 t) (.int .i64 nz) (.int .i64 z) (.int .i64 ob) (.int .u64 bi) (.slice oa len cap) := B_ _ _
 have s1 : (w.alloc (.cells #[.int .i64 kd, .int .i64 ps, .string nm, .int .i64 t, .int .i64 nz, .int .i64 z, .int .i64 ob, .int .u64 bi, .slice oa len cap] 29)).heap.size = w.heap.size + 1 := by simp
 have hb2 := Zd (w.alloc (.cells #[.int .i64 kd, .int .i64 ps, .string nm, .int .i64 t, .int .i64 nz, .int .i64 z, .int .i64 ob, .int .u64 bi, .slice oa len cap] 29)) Zh
 have k2 : Nod ((w.alloc (.cells #[.int .i64 kd, .int .i64 ps, .string nm, .int .i64 t, .int .i64 nz, .int .i64 z, .int .i64 ob, .int .u64 bi, .slice oa len cap] 29)).alloc Zh) (w.alloc (.cells #[.int .i64 kd, .int .i64 ps, .string nm, .int .i64 t, .int .i64 nz, .int .i64 z, .int .i64 ob, .int .u64 bi, .slice oa len cap] 29)).heap.size (.int .i64 0) (.int .i64 0) (.string ⟨#[]⟩) (.int .i64 0) (.int .i64 0) (.int .i64 0) (.int .i64 0) (.int .u64 0) (.slice none 0 0) := B_ _ _
 rw [s1] at k2
 have B0 := Zb (Zc hb1 hb2)
 have N0 := Zb (k1.bel hb2)
 have Z0 := Zb k2
 have E0 := Zb (he.bel B0.out)
 have HK := Zb hkk
 have HR := Zb hr
 have HLN := Zb hs2
 have hlen : len <= 9223372036854775807 := by
  rw [hs2]
  rcases hkk with rfl | ⟨a, _, h1, h2, _⟩
  · simp
  · unfold maxLen at h2
    omega
 have hb0 := Zb (show Below w.heap.size w _ from B0.out)
 clear he hk hkk hr hs2 hb1 k1 s1 hb2 k2
 unfold Zh at *
 go_enter Tryz.func39, Tryz.ntmps39
 obtain ⟨out, ho⟩ : ∃ out, ks.all ok = out := ⟨_, rfl⟩
 rw [ho]
 have HW := Zb ho
 clear ho
 go_wp2_with fail
 generalize (w.alloc _).alloc _ = w0 at *
 go_loopw [10] (fun vi wr => ∃ (j : Nat), j <= len /\ vi = .int .i64 j /\ Hid ((ks.take j).all ok = true /\ Below w0.heap.size w0 wr)) (fun vi _ => len - (intOf vi).toNat)
 case atStart => exact ⟨0, Nat.zero_le _, rfl, by simp, Below.refl _ _⟩
 case round =>
  obtain ⟨j, hj, rfl, I⟩ := hrel
  by_cases hjl : j < len
  · have hj2 : (j : Int) < (len : Int) := by omega
    obtain ⟨a, rfl, hc1, hc2, hkid⟩ : ∃ a, oa = some a /\ ks.length <= cap /\ cap <= maxLen /\ ∀ j n, ks[j]? = some n -> ZD w a (9 * j) n := by
     rcases HK.out with h | h
     · exfalso
       have := HLN.out
       rw [h] at this
       simp at this
       omega
     · exact h
    obtain ⟨n, hn⟩ : ∃ n, ks[j]? = some n := ⟨_, List.getElem?_eq_getElem (by have := HLN.out; omega)⟩
    have hrn := HR.out n (List.mem_of_getElem? hn)
    have HN := Zb hn
    have BW := Zb (Zc hb0.out I.out.2)
    obtain ⟨on, hon⟩ : ∃ on, ok n = on := ⟨_, rfl⟩
    have HON := Zb hon
    obtain ⟨kd', ps', nm', t', nz', z', ob', bi', ks'⟩ := n
    have hA := ZD.bel BW.out a (9 * j) _ (hkid j _ hn)
    obtain ⟨oa', cap', c0, c1, c2, c3, c4, c5, c6, c7, c8, hkk⟩ := hA.cells
    obtain ⟨len', hln'⟩ : ∃ len', len' = ks'.length := ⟨_, rfl⟩
    rw [← hln'] at c8 hkk
    have hb1 := Zd wr (.cells #[.int .i64 kd', .int .i64 ps', .string nm', .int .i64 t', .int .i64 nz', .int .i64 z', .int .i64 ob', .int .u64 bi', .slice oa' len' cap'] 29)
    have hR : Zq (wr.alloc (.cells #[.int .i64 kd', .int .i64 ps', .string nm', .int .i64 t', .int .i64 nz', .int .i64 z', .int .i64 ob', .int .u64 bi', .slice oa' len' cap'] 29)) (.mk kd' ps' nm' t' nz' z' ob' bi' ks') (.agg #[.int .i64 kd', .int .i64 ps', .string nm', .int .i64 t', .int .i64 nz', .int .i64 z', .int .i64 ob', .int .u64 bi', .slice oa' len' cap']) := by
     unfold Zq
     exact ⟨_, rfl, Zr.bel hb1 _ _ hkk⟩
    have RR := Zb (hrn _ _ ((E0.out.bel I.out.2).bel hb1) hR)
    rw [hon] at RR
    have B1 := Zb (Zc I.out.2 hb1)
    unfold maxLen at hc2
    clear hkid hkk hln' hn hrn hc1 hb1 hR hA hon BW
    go_wp2_with fail
    refine RR.out.mono ?_
    intro e w3 hp
    rcases hp.both with ⟨h1, rfl, hb3⟩ | ⟨h1, rfl, hb3⟩
    · have B3 := Zb (Zc B1.out hb3)
      have O3 := Zb (And.intro h1 I.out.1)
      clear RR B1 hb3 I c0 c1 c2 c3 c4 c5 c6 c7 c8 h1 hp
      go_wp2_with fail
      go_roundw
      case rel =>
       refine ⟨j + 1, by omega, by go_num, ?_, B3.out⟩
       rw [YI HN.out, List.all_append, O3.out.2, Bool.true_and]
       simp [HON.out, O3.out.1]
      case measure =>
       simp [intOf]
       omega
    · refine ⟨rfl, Gt.no ?_ (Zc hb0.out (Zc B1.out hb3))⟩
      rw [← HW.out]
      cases hh : ks.all ok with
      | false => rfl
      | true =>
       have := List.all_eq_true.1 hh _ (List.mem_of_getElem? HN.out)
       rw [HON.out, h1] at this
       cases this
  · have hj2 : ¬ (j : Int) < (len : Int) := by omega
    have n1 := N0.out.bel I.out.2
    have z1 := Z0.out.bel I.out.2
    have b1' := Zc hb0.out I.out.2
    obtain ⟨⟨f0, f1, f2, f3, f4, f5, f6, f7, f8⟩, b0, b1, b2, b3, b4, b5, b6, b7, b8⟩ := n1.all
    obtain ⟨⟨g0, g1, g2, g3, g4, g5, g6, g7, g8⟩, c0, c1, c2, c3, c4, c5, c6, c7, c8⟩ := z1.all
    obtain ⟨k3, t3⟩ := Zs n1 8 (.slice none 0 0)
    obtain ⟨k4, t4⟩ := Zy (z1.tn t3 (by omega)) (.int .i64 kd) (.int .i64 ps) (.string nm) (.int .i64 t) (.int .i64 nz) (.int .i64 z) (.int .i64 ob) (.int .u64 bi) (.slice none 0 0)
    have K4 := Zb k4
    have B4 := Zb ((b1'.trans (t3.bel (by omega) b1'.size)).trans (t4.bel (by omega) (Nat.le_trans b1'.size t3.size)))
    have HT : out = true := by
     rw [← HW.out]
     have := I.out.1
     rwa [List.take_of_length_le (by have := HLN.out; omega)] at this
    clear k3 t3 k4 t4 n1 z1 b1' I
    go_wp2_with fail
    refine Zg (w.heap.size + 1) rfl rfl K4.out rfl ?_
    first | exact Gt.yes HT B4.out | exact Gt.yes rfl B4.out
theorem each_showexpr {w : World} {p : List Addr} (he : Ev w p) (kd ps : Int) (nm : ByteArray) (t nz z ob bi : Int) (oa : Option Addr) (len cap : Nat) (ks : List Nd) (hk : Zr w ks (.slice oa len cap)) (ok : Nd -> Bool) (hr : ∀ n ∈ ks, ZR 33 p ok n) :
 Calls Tryz.prog 39 #[.agg #[.int .i64 kd, .int .i64 ps, .string nm, .int .i64 t, .int .i64 nz, .int .i64 z, .int .i64 ob, .int .u64 bi, .slice oa len cap], .func (.func 33) #[] #[]] w fun e w' => Gt p w (ks.all ok) (.agg #[.int .i64 kd, .int .i64 ps, .string nm, .int .i64 t, .int .i64 nz, .int .i64 z, .int .i64 ob, .int .u64 bi, .slice none 0 0]) e w' := by
 obtain ⟨oa1, cap1, hs, hkk⟩ := hk.kid
 injection hs with hs1 hs2 hs3
 subst hs1 hs3
 have hb1 := Zd w (.cells #[.int .i64 kd, .int .i64 ps, .string nm, .int .i64 t, .int .i64 nz, .int .i64 z, .int .i64 ob, .int .u64 bi, .slice oa len cap] 29)
 have k1 : Nod (w.alloc (.cells #[.int .i64 kd, .int .i64 ps, .string nm, .int .i64 t, .int .i64 nz, .int .i64 z, .int .i64 ob, .int .u64 bi, .slice oa len cap] 29)) w.heap.size (.int .i64 kd) (.int .i64 ps) (.string nm) (.int .i64 t) (.int .i64 nz) (.int .i64 z) (.int .i64 ob) (.int .u64 bi) (.slice oa len cap) := B_ _ _
 have s1 : (w.alloc (.cells #[.int .i64 kd, .int .i64 ps, .string nm, .int .i64 t, .int .i64 nz, .int .i64 z, .int .i64 ob, .int .u64 bi, .slice oa len cap] 29)).heap.size = w.heap.size + 1 := by simp
 have hb2 := Zd (w.alloc (.cells #[.int .i64 kd, .int .i64 ps, .string nm, .int .i64 t, .int .i64 nz, .int .i64 z, .int .i64 ob, .int .u64 bi, .slice oa len cap] 29)) Zh
 have k2 : Nod ((w.alloc (.cells #[.int .i64 kd, .int .i64 ps, .string nm, .int .i64 t, .int .i64 nz, .int .i64 z, .int .i64 ob, .int .u64 bi, .slice oa len cap] 29)).alloc Zh) (w.alloc (.cells #[.int .i64 kd, .int .i64 ps, .string nm, .int .i64 t, .int .i64 nz, .int .i64 z, .int .i64 ob, .int .u64 bi, .slice oa len cap] 29)).heap.size (.int .i64 0) (.int .i64 0) (.string ⟨#[]⟩) (.int .i64 0) (.int .i64 0) (.int .i64 0) (.int .i64 0) (.int .u64 0) (.slice none 0 0) := B_ _ _
 rw [s1] at k2
 have B0 := Zb (Zc hb1 hb2)
 have N0 := Zb (k1.bel hb2)
 have Z0 := Zb k2
 have E0 := Zb (he.bel B0.out)
 have HK := Zb hkk
 have HR := Zb hr
 have HLN := Zb hs2
 have hlen : len <= 9223372036854775807 := by
  rw [hs2]
  rcases hkk with rfl | ⟨a, _, h1, h2, _⟩
  · simp
  · unfold maxLen at h2
    omega
 have hb0 := Zb (show Below w.heap.size w _ from B0.out)
 clear he hk hkk hr hs2 hb1 k1 s1 hb2 k2
 unfold Zh at *
 go_enter Tryz.func39, Tryz.ntmps39
 obtain ⟨out, ho⟩ : ∃ out, ks.all ok = out := ⟨_, rfl⟩
 rw [ho]
 have HW := Zb ho
 clear ho
 go_wp2_with fail
 generalize (w.alloc _).alloc _ = w0 at *
 go_loopw [10] (fun vi wr => ∃ (j : Nat), j <= len /\ vi = .int .i64 j /\ Hid ((ks.take j).all ok = true /\ Below w0.heap.size w0 wr)) (fun vi _ => len - (intOf vi).toNat)
 case atStart => exact ⟨0, Nat.zero_le _, rfl, by simp, Below.refl _ _⟩
 case round =>
  obtain ⟨j, hj, rfl, I⟩ := hrel
  by_cases hjl : j < len
  · have hj2 : (j : Int) < (len : Int) := by omega
    obtain ⟨a, rfl, hc1, hc2, hkid⟩ : ∃ a, oa = some a /\ ks.length <= cap /\ cap <= maxLen /\ ∀ j n, ks[j]? = some n -> ZD w a (9 * j) n := by
     rcases HK.out with h | h
     · exfalso
       have := HLN.out
       rw [h] at this
       simp at this
       omega
     · exact h
    obtain ⟨n, hn⟩ : ∃ n, ks[j]? = some n := ⟨_, List.getElem?_eq_getElem (by have := HLN.out; omega)⟩
    have hrn := HR.out n (List.mem_of_getElem? hn)
    have HN := Zb hn
    have BW := Zb (Zc hb0.out I.out.2)
    obtain ⟨on, hon⟩ : ∃ on, ok n = on := ⟨_, rfl⟩
    have HON := Zb hon
    obtain ⟨kd', ps', nm', t', nz', z', ob', bi', ks'⟩ := n
    have hA := ZD.bel BW.out a (9 * j) _ (hkid j _ hn)
    obtain ⟨oa', cap', c0, c1, c2, c3, c4, c5, c6, c7, c8, hkk⟩ := hA.cells
    obtain ⟨len', hln'⟩ : ∃ len', len' = ks'.length := ⟨_, rfl⟩
    rw [← hln'] at c8 hkk
    have hb1 := Zd wr (.cells #[.int .i64 kd', .int .i64 ps', .string nm', .int .i64 t', .int .i64 nz', .int .i64 z', .int .i64 ob', .int .u64 bi', .slice oa' len' cap'] 29)
    have hR : Zq (wr.alloc (.cells #[.int .i64 kd', .int .i64 ps', .string nm', .int .i64 t', .int .i64 nz', .int .i64 z', .int .i64 ob', .int .u64 bi', .slice oa' len' cap'] 29)) (.mk kd' ps' nm' t' nz' z' ob' bi' ks') (.agg #[.int .i64 kd', .int .i64 ps', .string nm', .int .i64 t', .int .i64 nz', .int .i64 z', .int .i64 ob', .int .u64 bi', .slice oa' len' cap']) := by
     unfold Zq
     exact ⟨_, rfl, Zr.bel hb1 _ _ hkk⟩
    have RR := Zb (hrn _ _ ((E0.out.bel I.out.2).bel hb1) hR)
    rw [hon] at RR
    have B1 := Zb (Zc I.out.2 hb1)
    unfold maxLen at hc2
    clear hkid hkk hln' hn hrn hc1 hb1 hR hA hon BW
    go_wp2_with fail
    refine RR.out.mono ?_
    intro e w3 hp
    rcases hp.both with ⟨h1, rfl, hb3⟩ | ⟨h1, rfl, hb3⟩
    · have B3 := Zb (Zc B1.out hb3)
      have O3 := Zb (And.intro h1 I.out.1)
      clear RR B1 hb3 I c0 c1 c2 c3 c4 c5 c6 c7 c8 h1 hp
      go_wp2_with fail
      go_roundw
      case rel =>
       refine ⟨j + 1, by omega, by go_num, ?_, B3.out⟩
       rw [YI HN.out, List.all_append, O3.out.2, Bool.true_and]
       simp [HON.out, O3.out.1]
      case measure =>
       simp [intOf]
       omega
    · refine ⟨rfl, Gt.no ?_ (Zc hb0.out (Zc B1.out hb3))⟩
      rw [← HW.out]
      cases hh : ks.all ok with
      | false => rfl
      | true =>
       have := List.all_eq_true.1 hh _ (List.mem_of_getElem? HN.out)
       rw [HON.out, h1] at this
       cases this
  · have hj2 : ¬ (j : Int) < (len : Int) := by omega
    have n1 := N0.out.bel I.out.2
    have z1 := Z0.out.bel I.out.2
    have b1' := Zc hb0.out I.out.2
    obtain ⟨⟨f0, f1, f2, f3, f4, f5, f6, f7, f8⟩, b0, b1, b2, b3, b4, b5, b6, b7, b8⟩ := n1.all
    obtain ⟨⟨g0, g1, g2, g3, g4, g5, g6, g7, g8⟩, c0, c1, c2, c3, c4, c5, c6, c7, c8⟩ := z1.all
    obtain ⟨k3, t3⟩ := Zs n1 8 (.slice none 0 0)
    obtain ⟨k4, t4⟩ := Zy (z1.tn t3 (by omega)) (.int .i64 kd) (.int .i64 ps) (.string nm) (.int .i64 t) (.int .i64 nz) (.int .i64 z) (.int .i64 ob) (.int .u64 bi) (.slice none 0 0)
    have K4 := Zb k4
    have B4 := Zb ((b1'.trans (t3.bel (by omega) b1'.size)).trans (t4.bel (by omega) (Nat.le_trans b1'.size t3.size)))
    have HT : out = true := by
     rw [← HW.out]
     have := I.out.1
     rwa [List.take_of_length_le (by have := HLN.out; omega)] at this
    clear k3 t3 k4 t4 n1 z1 b1' I
    go_wp2_with fail
    refine Zg (w.heap.size + 1) rfl rfl K4.out rfl ?_
    first | exact Gt.yes HT B4.out | exact Gt.yes rfl B4.out
theorem ZO (a : Addr) : a.add 0 = a := by unfold Addr.add; simp
theorem add_lit (a : Addr) (n : Nat) (h : n ≠ 0) : a.add n = ⟨a.block, a.off + n, none⟩ := by unfold Addr.add; rw [if_neg h]
def Yz (ok0 : Nd -> Bool) : List Nd -> Bool | [a] => ok0 a | _ => false
def all2B (ok0 ok1 : Nd -> Bool) : List Nd -> Bool | [a, b] => ok0 a && ok1 b | _ => false
def all3B (ok0 ok1 ok2 : Nd -> Bool) : List Nd -> Bool | [a, b, c] => ok0 a && (ok1 b && ok2 c) | _ => false
theorem all_tgex {w : World} {p : List Addr} (he : Ev w p) (kd ps : Int) (nm : ByteArray) (t nz z ob bi : Int) (oa : Option Addr) (len cap : Nat) (ks : List Nd) (hk : Zr w ks (.slice oa len cap)) (b c : Nat) (hc0 : w.cell? ⟨b, 0, none⟩ = some (.func (.func 62) #[] #[])) (hc1 : w.cell? ⟨b, 1, none⟩ = some (.func (.func 33) #[] #[])) (ok0 : Nd -> Bool) (ok1 : Nd -> Bool) (hr0 : ∀ x, ks[0]? = some x -> ZR 62 p ok0 x) (hr1 : ∀ x, ks[1]? = some x -> ZR 33 p ok1 x) :
 Calls Tryz.prog 58 #[.agg #[.int .i64 kd, .int .i64 ps, .string nm, .int .i64 t, .int .i64 nz, .int .i64 z, .int .i64 ob, .int .u64 bi, .slice oa len cap], .slice (some ⟨b, 0, none⟩) 2 c] w fun e w' => Gt p w (all2B ok0 ok1 ks) (.agg #[.int .i64 kd, .int .i64 ps, .string nm, .int .i64 t, .int .i64 nz, .int .i64 z, .int .i64 ob, .int .u64 bi, .slice none 0 0]) e w' := by
 obtain ⟨oa1, cap1, hs, hkk⟩ := hk.kid
 injection hs with hs1 hs2 hs3
 subst hs1 hs3
 have hb1 := Zd w (.cells #[.int .i64 kd, .int .i64 ps, .string nm, .int .i64 t, .int .i64 nz, .int .i64 z, .int .i64 ob, .int .u64 bi, .slice oa len cap] 29)
 have k1 : Nod (w.alloc (.cells #[.int .i64 kd, .int .i64 ps, .string nm, .int .i64 t, .int .i64 nz, .int .i64 z, .int .i64 ob, .int .u64 bi, .slice oa len cap] 29)) w.heap.size (.int .i64 kd) (.int .i64 ps) (.string nm) (.int .i64 t) (.int .i64 nz) (.int .i64 z) (.int .i64 ob) (.int .u64 bi) (.slice oa len cap) := B_ _ _
 have s1 : (w.alloc (.cells #[.int .i64 kd, .int .i64 ps, .string nm, .int .i64 t, .int .i64 nz, .int .i64 z, .int .i64 ob, .int .u64 bi, .slice oa len cap] 29)).heap.size = w.heap.size + 1 := by simp
 have hb2 := Zd (w.alloc (.cells #[.int .i64 kd, .int .i64 ps, .string nm, .int .i64 t, .int .i64 nz, .int .i64 z, .int .i64 ob, .int .u64 bi, .slice oa len cap] 29)) Zh
 have k2 : Nod ((w.alloc (.cells #[.int .i64 kd, .int .i64 ps, .string nm, .int .i64 t, .int .i64 nz, .int .i64 z, .int .i64 ob, .int .u64 bi, .slice oa len cap] 29)).alloc Zh) (w.alloc (.cells #[.int .i64 kd, .int .i64 ps, .string nm, .int .i64 t, .int .i64 nz, .int .i64 z, .int .i64 ob, .int .u64 bi, .slice oa len cap] 29)).heap.size (.int .i64 0) (.int .i64 0) (.string ⟨#[]⟩) (.int .i64 0) (.int .i64 0) (.int .i64 0) (.int .i64 0) (.int .u64 0) (.slice none 0 0) := B_ _ _
 rw [s1] at k2
 have B0 := Zb (Zc hb1 hb2)
 have N0 := Zb (k1.bel hb2)
 have Z0 := Zb k2
 have E0 := Zb (he.bel B0.out)
 have hb0 := Zb (show Below w.heap.size w _ from B0.out)
 have F0 := Zb ((B0.out.cell (p := ⟨b, 0, none⟩) (World.block_lt_of_cell? w _ hc0)).trans hc0)
 have F1 := Zb ((B0.out.cell (p := ⟨b, 1, none⟩) (World.block_lt_of_cell? w _ hc1)).trans hc1)
 have HK := Zb hkk
 clear he hk hkk hb1 k1 s1 hb2 k2 hc0 hc1
 unfold Zh at *
 obtain ⟨out, ho⟩ : ∃ out, all2B ok0 ok1 ks = out := ⟨_, rfl⟩
 rw [ho]
 have HW := Zb ho
 clear ho
 by_cases hl : len = 2
 · subst hl
   obtain ⟨x0, x1, rfl⟩ : ∃ x0 x1, ks = [x0, x1] := by
    match ks, hs2 with
    | [x0, x1], _ => exact ⟨x0, x1, rfl⟩
   clear hs2
   obtain ⟨a, rfl, hc1, hc2, hkid⟩ : ∃ a, oa = some a /\ ([x0, x1] : List Nd).length <= cap /\ cap <= maxLen /\ ∀ j n, ([x0, x1] : List Nd)[j]? = some n -> ZD w a (9 * j) n := by
    rcases HK.out with h | h
    · cases h
    · exact h
   unfold maxLen at hc2
   have hc1 : 2 <= cap := by simpa using hc1
   have HO : Hid (out = (ok0 x0 && (ok1 x1))) := HW.out.symm
   have k0 := Zb (hkid 0 _ rfl)
   have R0 := Zb (hr0 x0 rfl)
   obtain ⟨o0, e0⟩ : ∃ o0, ok0 x0 = o0 := ⟨_, rfl⟩
   have EO0 := Zb e0
   clear e0
   have k1 := Zb (hkid 1 _ rfl)
   have R1 := Zb (hr1 x1 rfl)
   obtain ⟨o1, e1⟩ : ∃ o1, ok1 x1 = o1 := ⟨_, rfl⟩
   have EO1 := Zb e1
   clear e1
   clear hkid HW HK hr0 hr1
   go_enter Tryz.func58, Tryz.ntmps58
   go_wp2_with fail
   generalize (w.alloc _).alloc _ = w0 at *
   refine (ZP _).mono ?_
   rintro e wN ⟨rfl, rfl⟩
   go_wp2_with fail
   refine wp_loop_rounds 3 ?_
   rw [rounds_succ]
   have I0 := Zb (Below.refl wN.heap.size wN)
   obtain ⟨kd', ps', nm', t', nz', z', ob', bi', ks'⟩ := x0
   have hA := ZD.bel (Zc hb0.out I0.out) a (9 * 0) _ k0.out
   obtain ⟨oa', cap', c0, c1, c2, c3, c4, c5, c6, c7, c8, hkk⟩ := hA.cells
   obtain ⟨len', hln'⟩ : ∃ len', len' = ks'.length := ⟨_, rfl⟩
   rw [← hln'] at c8 hkk
   have hR : Zq wN (.mk kd' ps' nm' t' nz' z' ob' bi' ks') (.agg #[.int .i64 kd', .int .i64 ps', .string nm', .int .i64 t', .int .i64 nz', .int .i64 z', .int .i64 ob', .int .u64 bi', .slice oa' len' cap']) := by
    unfold Zq
    exact ⟨_, rfl, hkk⟩
   have RR := Zb (R0.out _ _ (E0.out.bel I0.out) hR)
   rw [EO0.out] at RR
   have f0 := (I0.out.cell (p := ⟨b, 0, none⟩) (World.block_lt_of_cell? wN _ F0.out)).trans F0.out
   have n0 := (N0.out.bel I0.out).all.2.2.2.2.2.2.2.2.2
   rw [Nat.zero_mul, ZO] at c0 c1 c2 c3 c4 c5 c6 c7 c8
   clear hkk hln' hR hA k0 R0
   go_wp2_with fail
   refine RR.out.mono ?_
   intro e u0 hp
   rcases hp.both with ⟨h1, rfl, hb3⟩ | ⟨h1, rfl, hb3⟩
   rotate_left 1
   · refine ⟨rfl, Gt.no ?_ (Zc hb0.out (Zc I0.out hb3))⟩
     rw [HO.out]
     simp [EO0.out, h1]
   have I1 := Zb (Zc I0.out hb3)
   have T0 := Zb h1
   clear RR hb3 hp h1 c0 c1 c2 c3 c4 c5 c6 c7 c8 f0 n0 I0
   go_wp2_with fail
   rw [rounds_succ]
   obtain ⟨kd', ps', nm', t', nz', z', ob', bi', ks'⟩ := x1
   have hA := ZD.bel (Zc hb0.out I1.out) a (9 * 1) _ k1.out
   obtain ⟨oa', cap', c0, c1, c2, c3, c4, c5, c6, c7, c8, hkk⟩ := hA.cells
   obtain ⟨len', hln'⟩ : ∃ len', len' = ks'.length := ⟨_, rfl⟩
   rw [← hln'] at c8 hkk
   have hR : Zq u0 (.mk kd' ps' nm' t' nz' z' ob' bi' ks') (.agg #[.int .i64 kd', .int .i64 ps', .string nm', .int .i64 t', .int .i64 nz', .int .i64 z', .int .i64 ob', .int .u64 bi', .slice oa' len' cap']) := by
    unfold Zq
    exact ⟨_, rfl, hkk⟩
   have RR := Zb (R1.out _ _ (E0.out.bel I1.out) hR)
   rw [EO1.out] at RR
   have f0 := (I1.out.cell (p := ⟨b, 1, none⟩) (World.block_lt_of_cell? wN _ F1.out)).trans F1.out
   have n0 := (N0.out.bel I1.out).all.2.2.2.2.2.2.2.2.2
   rw [show 1 * 9 = 9 from rfl, add_lit a 9 (by decide)] at c0 c1 c2 c3 c4 c5 c6 c7 c8
   dsimp only at c1 c2 c3 c4 c5 c6 c7 c8
   clear hkk hln' hR hA k1 R1
   go_wp2_with fail
   refine RR.out.mono ?_
   intro e u1 hp
   rcases hp.both with ⟨h1, rfl, hb3⟩ | ⟨h1, rfl, hb3⟩
   rotate_left 1
   · refine ⟨rfl, Gt.no ?_ (Zc hb0.out (Zc I1.out hb3))⟩
     rw [HO.out]
     simp [EO0.out, EO1.out, h1, T0.out]
   have I2 := Zb (Zc I1.out hb3)
   have T1 := Zb h1
   clear RR hb3 hp h1 c0 c1 c2 c3 c4 c5 c6 c7 c8 f0 n0 I1
   go_wp2_with fail
   rw [rounds_succ]
   have n1 := N0.out.bel I2.out
   have z1 := Z0.out.bel I2.out
   have b1' := Zc hb0.out I2.out
   obtain ⟨⟨f0, f1, f2, f3, f4, f5, f6, f7, f8⟩, b0, b1, b2, b3, b4, b5, b6, b7, b8⟩ := n1.all
   obtain ⟨⟨g0, g1, g2, g3, g4, g5, g6, g7, g8⟩, c0, c1, c2, c3, c4, c5, c6, c7, c8⟩ := z1.all
   obtain ⟨k3, t3⟩ := Zs n1 8 (.slice none 0 0)
   obtain ⟨k4, t4⟩ := Zy (z1.tn t3 (by omega)) (.int .i64 kd) (.int .i64 ps) (.string nm) (.int .i64 t) (.int .i64 nz) (.int .i64 z) (.int .i64 ob) (.int .u64 bi) (.slice none 0 0)
   have K4 := Zb k4
   have B4 := Zb ((b1'.trans (t3.bel (by omega) b1'.size)).trans (t4.bel (by omega) (Nat.le_trans b1'.size t3.size)))
   have HT : out = true := by
    rw [HO.out]
    simp [EO0.out, T0.out, EO1.out, T1.out]
   have HT := Zb HT
   clear k3 t3 k4 t4 n1 z1 b1' I2
   go_wp2_with fail
   refine Zg (w.heap.size + 1) rfl rfl K4.out rfl ?_
   exact Gt.yes HT.out B4.out
 · have hout : out = false := by
    rw [← HW.out]
    match ks, hs2 with
    | [], _ => rfl
    | [_], _ => rfl
    | [_, _], h => exact absurd h hl
    | _ :: _ :: _ :: _, _ => rfl
   subst hout
   have hd : ((len : Int) == 2) = false := by simp; omega
   clear HW HK hs2
   go_enter Tryz.func58, Tryz.ntmps58
   go_wp2_with fail
   generalize (w.alloc _).alloc _ = w0 at *
   refine (Yb (ZE E0.out)).mono ?_
   rintro e wN ⟨rfl, rfl⟩
   exact ⟨rfl, Gt.no rfl B0.out⟩
theorem all_ex {w : World} {p : List Addr} (he : Ev w p) (kd ps : Int) (nm : ByteArray) (t nz z ob bi : Int) (oa : Option Addr) (len cap : Nat) (ks : List Nd) (hk : Zr w ks (.slice oa len cap)) (b c : Nat) (hc0 : w.cell? ⟨b, 0, none⟩ = some (.func (.func 33) #[] #[])) (ok0 : Nd -> Bool) (hr0 : ∀ x, ks[0]? = some x -> ZR 33 p ok0 x) :
 Calls Tryz.prog 58 #[.agg #[.int .i64 kd, .int .i64 ps, .string nm, .int .i64 t, .int .i64 nz, .int .i64 z, .int .i64 ob, .int .u64 bi, .slice oa len cap], .slice (some ⟨b, 0, none⟩) 1 c] w fun e w' => Gt p w (Yz ok0 ks) (.agg #[.int .i64 kd, .int .i64 ps, .string nm, .int .i64 t, .int .i64 nz, .int .i64 z, .int .i64 ob, .int .u64 bi, .slice none 0 0]) e w' := by
 obtain ⟨oa1, cap1, hs, hkk⟩ := hk.kid
 injection hs with hs1 hs2 hs3
 subst hs1 hs3
 have hb1 := Zd w (.cells #[.int .i64 kd, .int .i64 ps, .string nm, .int .i64 t, .int .i64 nz, .int .i64 z, .int .i64 ob, .int .u64 bi, .slice oa len cap] 29)
 have k1 : Nod (w.alloc (.cells #[.int .i64 kd, .int .i64 ps, .string nm, .int .i64 t, .int .i64 nz, .int .i64 z, .int .i64 ob, .int .u64 bi, .slice oa len cap] 29)) w.heap.size (.int .i64 kd) (.int .i64 ps) (.string nm) (.int .i64 t) (.int .i64 nz) (.int .i64 z) (.int .i64 ob) (.int .u64 bi) (.slice oa len cap) := B_ _ _
 have s1 : (w.alloc (.cells #[.int .i64 kd, .int .i64 ps, .string nm, .int .i64 t, .int .i64 nz, .int .i64 z, .int .i64 ob, .int .u64 bi, .slice oa len cap] 29)).heap.size = w.heap.size + 1 := by simp
 have hb2 := Zd (w.alloc (.cells #[.int .i64 kd, .int .i64 ps, .string nm, .int .i64 t, .int .i64 nz, .int .i64 z, .int .i64 ob, .int .u64 bi, .slice oa len cap] 29)) Zh
 have k2 : Nod ((w.alloc (.cells #[.int .i64 kd, .int .i64 ps, .string nm, .int .i64 t, .int .i64 nz, .int .i64 z, .int .i64 ob, .int .u64 bi, .slice oa len cap] 29)).alloc Zh) (w.alloc (.cells #[.int .i64 kd, .int .i64 ps, .string nm, .int .i64 t, .int .i64 nz, .int .i64 z, .int .i64 ob, .int .u64 bi, .slice oa len cap] 29)).heap.size (.int .i64 0) (.int .i64 0) (.string ⟨#[]⟩) (.int .i64 0) (.int .i64 0) (.int .i64 0) (.int .i64 0) (.int .u64 0) (.slice none 0 0) := B_ _ _
 rw [s1] at k2
 have B0 := Zb (Zc hb1 hb2)
 have N0 := Zb (k1.bel hb2)
 have Z0 := Zb k2
 have E0 := Zb (he.bel B0.out)
 have hb0 := Zb (show Below w.heap.size w _ from B0.out)
 have F0 := Zb ((B0.out.cell (p := ⟨b, 0, none⟩) (World.block_lt_of_cell? w _ hc0)).trans hc0)
 have HK := Zb hkk
 clear he hk hkk hb1 k1 s1 hb2 k2 hc0
 unfold Zh at *
 obtain ⟨out, ho⟩ : ∃ out, Yz ok0 ks = out := ⟨_, rfl⟩
 rw [ho]
 have HW := Zb ho
 clear ho
 by_cases hl : len = 1
 · subst hl
   obtain ⟨x0, rfl⟩ : ∃ x0, ks = [x0] := by
    match ks, hs2 with
    | [x0], _ => exact ⟨x0, rfl⟩
   clear hs2
   obtain ⟨a, rfl, hc1, hc2, hkid⟩ : ∃ a, oa = some a /\ ([x0] : List Nd).length <= cap /\ cap <= maxLen /\ ∀ j n, ([x0] : List Nd)[j]? = some n -> ZD w a (9 * j) n := by
    rcases HK.out with h | h
    · cases h
    · exact h
   unfold maxLen at hc2
   have hc1 : 1 <= cap := by simpa using hc1
   have HO : Hid (out = (ok0 x0)) := HW.out.symm
   have k0 := Zb (hkid 0 _ rfl)
   have R0 := Zb (hr0 x0 rfl)
   obtain ⟨o0, e0⟩ : ∃ o0, ok0 x0 = o0 := ⟨_, rfl⟩
   have EO0 := Zb e0
   clear e0
   clear hkid HW HK hr0
   go_enter Tryz.func58, Tryz.ntmps58
   go_wp2_with fail
   generalize (w.alloc _).alloc _ = w0 at *
   refine (ZP _).mono ?_
   rintro e wN ⟨rfl, rfl⟩
   go_wp2_with fail
   refine wp_loop_rounds 2 ?_
   rw [rounds_succ]
   have I0 := Zb (Below.refl wN.heap.size wN)
   obtain ⟨kd', ps', nm', t', nz', z', ob', bi', ks'⟩ := x0
   have hA := ZD.bel (Zc hb0.out I0.out) a (9 * 0) _ k0.out
   obtain ⟨oa', cap', c0, c1, c2, c3, c4, c5, c6, c7, c8, hkk⟩ := hA.cells
   obtain ⟨len', hln'⟩ : ∃ len', len' = ks'.length := ⟨_, rfl⟩
   rw [← hln'] at c8 hkk
   have hR : Zq wN (.mk kd' ps' nm' t' nz' z' ob' bi' ks') (.agg #[.int .i64 kd', .int .i64 ps', .string nm', .int .i64 t', .int .i64 nz', .int .i64 z', .int .i64 ob', .int .u64 bi', .slice oa' len' cap']) := by
    unfold Zq
    exact ⟨_, rfl, hkk⟩
   have RR := Zb (R0.out _ _ (E0.out.bel I0.out) hR)
   rw [EO0.out] at RR
   have f0 := (I0.out.cell (p := ⟨b, 0, none⟩) (World.block_lt_of_cell? wN _ F0.out)).trans F0.out
   have n0 := (N0.out.bel I0.out).all.2.2.2.2.2.2.2.2.2
   rw [Nat.zero_mul, ZO] at c0 c1 c2 c3 c4 c5 c6 c7 c8
   clear hkk hln' hR hA k0 R0
   go_wp2_with fail
   refine RR.out.mono ?_
   intro e u0 hp
   rcases hp.both with ⟨h1, rfl, hb3⟩ | ⟨h1, rfl, hb3⟩
   rotate_left 1
   · refine ⟨rfl, Gt.no ?_ (Zc hb0.out (Zc I0.out hb3))⟩
     rw [HO.out]
     simp [EO0.out, h1]
   have I1 := Zb (Zc I0.out hb3)
   have T0 := Zb h1
   clear RR hb3 hp h1 c0 c1 c2 c3 c4 c5 c6 c7 c8 f0 n0 I0
   go_wp2_with fail
   rw [rounds_succ]
   have n1 := N0.out.bel I1.out
   have z1 := Z0.out.bel I1.out
   have b1' := Zc hb0.out I1.out
   obtain ⟨⟨f0, f1, f2, f3, f4, f5, f6, f7, f8⟩, b0, b1, b2, b3, b4, b5, b6, b7, b8⟩ := n1.all
   obtain ⟨⟨g0, g1, g2, g3, g4, g5, g6, g7, g8⟩, c0, c1, c2, c3, c4, c5, c6, c7, c8⟩ := z1.all
   obtain ⟨k3, t3⟩ := Zs n1 8 (.slice none 0 0)
   obtain ⟨k4, t4⟩ := Zy (z1.tn t3 (by omega)) (.int .i64 kd) (.int .i64 ps) (.string nm) (.int .i64 t) (.int .i64 nz) (.int .i64 z) (.int .i64 ob) (.int .u64 bi) (.slice none 0 0)
   have K4 := Zb k4
   have B4 := Zb ((b1'.trans (t3.bel (by omega) b1'.size)).trans (t4.bel (by omega) (Nat.le_trans b1'.size t3.size)))
   have HT : out = true := by
    rw [HO.out]
    simp [EO0.out, T0.out]
   have HT := Zb HT
   clear k3 t3 k4 t4 n1 z1 b1' I1
   go_wp2_with fail
   refine Zg (w.heap.size + 1) rfl rfl K4.out rfl ?_
   exact Gt.yes HT.out B4.out
 · have hout : out = false := by
    rw [← HW.out]
    match ks, hs2 with
    | [], _ => rfl
    | [_], h => exact absurd h hl
    | _ :: _ :: _, _ => rfl
   subst hout
   have hd : ((len : Int) == 1) = false := by simp; omega
   clear HW HK hs2
   go_enter Tryz.func58, Tryz.ntmps58
   go_wp2_with fail
   generalize (w.alloc _).alloc _ = w0 at *
   refine (Yb (ZE E0.out)).mono ?_
   rintro e wN ⟨rfl, rfl⟩
   exact ⟨rfl, Gt.no rfl B0.out⟩
theorem all_tg {w : World} {p : List Addr} (he : Ev w p) (kd ps : Int) (nm : ByteArray) (t nz z ob bi : Int) (oa : Option Addr) (len cap : Nat) (ks : List Nd) (hk : Zr w ks (.slice oa len cap)) (b c : Nat) (hc0 : w.cell? ⟨b, 0, none⟩ = some (.func (.func 62) #[] #[])) (ok0 : Nd -> Bool) (hr0 : ∀ x, ks[0]? = some x -> ZR 62 p ok0 x) :
 Calls Tryz.prog 58 #[.agg #[.int .i64 kd, .int .i64 ps, .string nm, .int .i64 t, .int .i64 nz, .int .i64 z, .int .i64 ob, .int .u64 bi, .slice oa len cap], .slice (some ⟨b, 0, none⟩) 1 c] w fun e w' => Gt p w (Yz ok0 ks) (.agg #[.int .i64 kd, .int .i64 ps, .string nm, .int .i64 t, .int .i64 nz, .int .i64 z, .int .i64 ob, .int .u64 bi, .slice none 0 0]) e w' := by
 obtain ⟨oa1, cap1, hs, hkk⟩ := hk.kid
 injection hs with hs1 hs2 hs3
 subst hs1 hs3
 have hb1 := Zd w (.cells #[.int .i64 kd, .int .i64 ps, .string nm, .int .i64 t, .int .i64 nz, .int .i64 z, .int .i64 ob, .int .u64 bi, .slice oa len cap] 29)
 have k1 : Nod (w.alloc (.cells #[.int .i64 kd, .int .i64 ps, .string nm, .int .i64 t, .int .i64 nz, .int .i64 z, .int .i64 ob, .int .u64 bi, .slice oa len cap] 29)) w.heap.size (.int .i64 kd) (.int .i64 ps) (.string nm) (.int .i64 t) (.int .i64 nz) (.int .i64 z) (.int .i64 ob) (.int .u64 bi) (.slice oa len cap) := B_ _ _
 have s1 : (w.alloc (.cells #[.int .i64 kd, .int .i64 ps, .string nm, .int .i64 t, .int .i64 nz, .int .i64 z, .int .i64 ob, .int .u64 bi, .slice oa len cap] 29)).heap.size = w.heap.size + 1 := by simp
 have hb2 := Zd (w.alloc (.cells #[.int .i64 kd, .int .i64 ps, .string nm, .int .i64 t, .int .i64 nz, .int .i64 z, .int .i64 ob, .int .u64 bi, .slice oa len cap] 29)) Zh
 have k2 : Nod ((w.alloc (.cells #[.int .i64 kd, .int .i64 ps, .string nm, .int .i64 t, .int .i64 nz, .int .i64 z, .int .i64 ob, .int .u64 bi, .slice oa len cap] 29)).alloc Zh) (w.alloc (.cells #[.int .i64 kd, .int .i64 ps, .string nm, .int .i64 t, .int .i64 nz, .int .i64 z, .int .i64 ob, .int .u64 bi, .slice oa len cap] 29)).heap.size (.int .i64 0) (.int .i64 0) (.string ⟨#[]⟩) (.int .i64 0) (.int .i64 0) (.int .i64 0) (.int .i64 0) (.int .u64 0) (.slice none 0 0) := B_ _ _
 rw [s1] at k2
 have B0 := Zb (Zc hb1 hb2)
 have N0 := Zb (k1.bel hb2)
 have Z0 := Zb k2
 have E0 := Zb (he.bel B0.out)
 have hb0 := Zb (show Below w.heap.size w _ from B0.out)
 have F0 := Zb ((B0.out.cell (p := ⟨b, 0, none⟩) (World.block_lt_of_cell? w _ hc0)).trans hc0)
 have HK := Zb hkk
 clear he hk hkk hb1 k1 s1 hb2 k2 hc0
 unfold Zh at *
 obtain ⟨out, ho⟩ : ∃ out, Yz ok0 ks = out := ⟨_, rfl⟩
 rw [ho]
 have HW := Zb ho
 clear ho
 by_cases hl : len = 1
 · subst hl
   obtain ⟨x0, rfl⟩ : ∃ x0, ks = [x0] := by
    match ks, hs2 with
    | [x0], _ => exact ⟨x0, rfl⟩
   clear hs2
   obtain ⟨a, rfl, hc1, hc2, hkid⟩ : ∃ a, oa = some a /\ ([x0] : List Nd).length <= cap /\ cap <= maxLen /\ ∀ j n, ([x0] : List Nd)[j]? = some n -> ZD w a (9 * j) n := by
    rcases HK.out with h | h
    · cases h
    · exact h
   unfold maxLen at hc2
   have hc1 : 1 <= cap := by simpa using hc1
   have HO : Hid (out = (ok0 x0)) := HW.out.symm
   have k0 := Zb (hkid 0 _ rfl)
   have R0 := Zb (hr0 x0 rfl)
   obtain ⟨o0, e0⟩ : ∃ o0, ok0 x0 = o0 := ⟨_, rfl⟩
   have EO0 := Zb e0
   clear e0
   clear hkid HW HK hr0
   go_enter Tryz.func58, Tryz.ntmps58
   go_wp2_with fail
   generalize (w.alloc _).alloc _ = w0 at *
   refine (ZP _).mono ?_
   rintro e wN ⟨rfl, rfl⟩
   go_wp2_with fail
   refine wp_loop_rounds 2 ?_
   rw [rounds_succ]
   have I0 := Zb (Below.refl wN.heap.size wN)
   obtain ⟨kd', ps', nm', t', nz', z', ob', bi', ks'⟩ := x0
   have hA := ZD.bel (Zc hb0.out I0.out) a (9 * 0) _ k0.out
   obtain ⟨oa', cap', c0, c1, c2, c3, c4, c5, c6, c7, c8, hkk⟩ := hA.cells
   obtain ⟨len', hln'⟩ : ∃ len', len' = ks'.length := ⟨_, rfl⟩
   rw [← hln'] at c8 hkk
   have hR : Zq wN (.mk kd' ps' nm' t' nz' z' ob' bi' ks') (.agg #[.int .i64 kd', .int .i64 ps', .string nm', .int .i64 t', .int .i64 nz', .int .i64 z', .int .i64 ob', .int .u64 bi', .slice oa' len' cap']) := by
    unfold Zq
    exact ⟨_, rfl, hkk⟩
   have RR := Zb (R0.out _ _ (E0.out.bel I0.out) hR)
   rw [EO0.out] at RR
   have f0 := (I0.out.cell (p := ⟨b, 0, none⟩) (World.block_lt_of_cell? wN _ F0.out)).trans F0.out
   have n0 := (N0.out.bel I0.out).all.2.2.2.2.2.2.2.2.2
   rw [Nat.zero_mul, ZO] at c0 c1 c2 c3 c4 c5 c6 c7 c8
   clear hkk hln' hR hA k0 R0
   go_wp2_with fail
   refine RR.out.mono ?_
   intro e u0 hp
   rcases hp.both with ⟨h1, rfl, hb3⟩ | ⟨h1, rfl, hb3⟩
   rotate_left 1
   · refine ⟨rfl, Gt.no ?_ (Zc hb0.out (Zc I0.out hb3))⟩
     rw [HO.out]
     simp [EO0.out, h1]
   have I1 := Zb (Zc I0.out hb3)
   have T0 := Zb h1
   clear RR hb3 hp h1 c0 c1 c2 c3 c4 c5 c6 c7 c8 f0 n0 I0
   go_wp2_with fail
   rw [rounds_succ]
   have n1 := N0.out.bel I1.out
   have z1 := Z0.out.bel I1.out
   have b1' := Zc hb0.out I1.out
   obtain ⟨⟨f0, f1, f2, f3, f4, f5, f6, f7, f8⟩, b0, b1, b2, b3, b4, b5, b6, b7, b8⟩ := n1.all
   obtain ⟨⟨g0, g1, g2, g3, g4, g5, g6, g7, g8⟩, c0, c1, c2, c3, c4, c5, c6, c7, c8⟩ := z1.all
   obtain ⟨k3, t3⟩ := Zs n1 8 (.slice none 0 0)
   obtain ⟨k4, t4⟩ := Zy (z1.tn t3 (by omega)) (.int .i64 kd) (.int .i64 ps) (.string nm) (.int .i64 t) (.int .i64 nz) (.int .i64 z) (.int .i64 ob) (.int .u64 bi) (.slice none 0 0)
   have K4 := Zb k4
   have B4 := Zb ((b1'.trans (t3.bel (by omega) b1'.size)).trans (t4.bel (by omega) (Nat.le_trans b1'.size t3.size)))
   have HT : out = true := by
    rw [HO.out]
    simp [EO0.out, T0.out]
   have HT := Zb HT
   clear k3 t3 k4 t4 n1 z1 b1' I1
   go_wp2_with fail
   refine Zg (w.heap.size + 1) rfl rfl K4.out rfl ?_
   exact Gt.yes HT.out B4.out
 · have hout : out = false := by
    rw [← HW.out]
    match ks, hs2 with
    | [], _ => rfl
    | [_], h => exact absurd h hl
    | _ :: _ :: _, _ => rfl
   subst hout
   have hd : ((len : Int) == 1) = false := by simp; omega
   clear HW HK hs2
   go_enter Tryz.func58, Tryz.ntmps58
   go_wp2_with fail
   generalize (w.alloc _).alloc _ = w0 at *
   refine (Yb (ZE E0.out)).mono ?_
   rintro e wN ⟨rfl, rfl⟩
   exact ⟨rfl, Gt.no rfl B0.out⟩
theorem all_exblbl {w : World} {p : List Addr} (he : Ev w p) (kd ps : Int) (nm : ByteArray) (t nz z ob bi : Int) (oa : Option Addr) (len cap : Nat) (ks : List Nd) (hk : Zr w ks (.slice oa len cap)) (b c : Nat) (hc0 : w.cell? ⟨b, 0, none⟩ = some (.func (.func 33) #[] #[])) (hc1 : w.cell? ⟨b, 1, none⟩ = some (.func (.func 108) #[] #[])) (hc2 : w.cell? ⟨b, 2, none⟩ = some (.func (.func 108) #[] #[])) (ok0 : Nd -> Bool) (ok1 : Nd -> Bool) (ok2 : Nd -> Bool) (hr0 : ∀ x, ks[0]? = some x -> ZR 33 p ok0 x) (hr1 : ∀ x, ks[1]? = some x -> ZR 108 p ok1 x) (hr2 : ∀ x, ks[2]? = some x -> ZR 108 p ok2 x) :
 Calls Tryz.prog 58 #[.agg #[.int .i64 kd, .int .i64 ps, .string nm, .int .i64 t, .int .i64 nz, .int .i64 z, .int .i64 ob, .int .u64 bi, .slice oa len cap], .slice (some ⟨b, 0, none⟩) 3 c] w fun e w' => Gt p w (all3B ok0 ok1 ok2 ks) (.agg #[.int .i64 kd, .int .i64 ps, .string nm, .int .i64 t, .int .i64 nz, .int .i64 z, .int .i64 ob, .int .u64 bi, .slice none 0 0]) e w' := by
 obtain ⟨oa1, cap1, hs, hkk⟩ := hk.kid
 injection hs with hs1 hs2 hs3
 subst hs1 hs3
 have hb1 := Zd w (.cells #[.int .i64 kd, .int .i64 ps, .string nm, .int .i64 t, .int .i64 nz, .int .i64 z, .int .i64 ob, .int .u64 bi, .slice oa len cap] 29)
 have k1 : Nod (w.alloc (.cells #[.int .i64 kd, .int .i64 ps, .string nm, .int .i64 t, .int .i64 nz, .int .i64 z, .int .i64 ob, .int .u64 bi, .slice oa len cap] 29)) w.heap.size (.int .i64 kd) (.int .i64 ps) (.string nm) (.int .i64 t) (.int .i64 nz) (.int .i64 z) (.int .i64 ob) (.int .u64 bi) (.slice oa len cap) := B_ _ _
 have s1 : (w.alloc (.cells #[.int .i64 kd, .int .i64 ps, .string nm, .int .i64 t, .int .i64 nz, .int .i64 z, .int .i64 ob, .int .u64 bi, .slice oa len cap] 29)).heap.size = w.heap.size + 1 := by simp
 have hb2 := Zd (w.alloc (.cells #[.int .i64 kd, .int .i64 ps, .string nm, .int .i64 t, .int .i64 nz, .int .i64 z, .int .i64 ob, .int .u64 bi, .slice oa len cap] 29)) Zh
 have k2 : Nod ((w.alloc (.cells #[.int .i64 kd, .int .i64 ps, .string nm, .int .i64 t, .int .i64 nz, .int .i64 z, .int .i64 ob, .int .u64 bi, .slice oa len cap] 29)).alloc Zh) (w.alloc (.cells #[.int .i64 kd, .int .i64 ps, .string nm, .int .i64 t, .int .i64 nz, .int .i64 z, .int .i64 ob, .int .u64 bi, .slice oa len cap] 29)).heap.size (.int .i64 0) (.int .i64 0) (.string ⟨#[]⟩) (.int .i64 0) (.int .i64 0) (.int .i64 0) (.int .i64 0) (.int .u64 0) (.slice none 0 0) := B_ _ _
 rw [s1] at k2
 have B0 := Zb (Zc hb1 hb2)
 have N0 := Zb (k1.bel hb2)
 have Z0 := Zb k2
 have E0 := Zb (he.bel B0.out)
 have hb0 := Zb (show Below w.heap.size w _ from B0.out)
 have F0 := Zb ((B0.out.cell (p := ⟨b, 0, none⟩) (World.block_lt_of_cell? w _ hc0)).trans hc0)
 have F1 := Zb ((B0.out.cell (p := ⟨b, 1, none⟩) (World.block_lt_of_cell? w _ hc1)).trans hc1)
 have F2 := Zb ((B0.out.cell (p := ⟨b, 2, none⟩) (World.block_lt_of_cell? w _ hc2)).trans hc2)
 have HK := Zb hkk
 clear he hk hkk hb1 k1 s1 hb2 k2 hc0 hc1 hc2
 unfold Zh at *
 obtain ⟨out, ho⟩ : ∃ out, all3B ok0 ok1 ok2 ks = out := ⟨_, rfl⟩
 rw [ho]
 have HW := Zb ho
 clear ho
 by_cases hl : len = 3
 · subst hl
   obtain ⟨x0, x1, x2, rfl⟩ : ∃ x0 x1 x2, ks = [x0, x1, x2] := by
    match ks, hs2 with
    | [x0, x1, x2], _ => exact ⟨x0, x1, x2, rfl⟩
   clear hs2
   obtain ⟨a, rfl, hc1, hc2, hkid⟩ : ∃ a, oa = some a /\ ([x0, x1, x2] : List Nd).length <= cap /\ cap <= maxLen /\ ∀ j n, ([x0, x1, x2] : List Nd)[j]? = some n -> ZD w a (9 * j) n := by
    rcases HK.out with h | h
    · cases h
    · exact h
   unfold maxLen at hc2
   have hc1 : 3 <= cap := by simpa using hc1
   have HO : Hid (out = (ok0 x0 && (ok1 x1 && (ok2 x2)))) := HW.out.symm
   have k0 := Zb (hkid 0 _ rfl)
   have R0 := Zb (hr0 x0 rfl)
   obtain ⟨o0, e0⟩ : ∃ o0, ok0 x0 = o0 := ⟨_, rfl⟩
   have EO0 := Zb e0
   clear e0
   have k1 := Zb (hkid 1 _ rfl)
   have R1 := Zb (hr1 x1 rfl)
   obtain ⟨o1, e1⟩ : ∃ o1, ok1 x1 = o1 := ⟨_, rfl⟩
   have EO1 := Zb e1
   clear e1
   have k2 := Zb (hkid 2 _ rfl)
   have R2 := Zb (hr2 x2 rfl)
   obtain ⟨o2, e2⟩ : ∃ o2, ok2 x2 = o2 := ⟨_, rfl⟩
   have EO2 := Zb e2
   clear e2
   clear hkid HW HK hr0 hr1 hr2
   go_enter Tryz.func58, Tryz.ntmps58
   go_wp2_with fail
   generalize (w.alloc _).alloc _ = w0 at *
   refine (ZP _).mono ?_
   rintro e wN ⟨rfl, rfl⟩
   go_wp2_with fail
   refine wp_loop_rounds 4 ?_
   rw [rounds_succ]
   have I0 := Zb (Below.refl wN.heap.size wN)
   obtain ⟨kd', ps', nm', t', nz', z', ob', bi', ks'⟩ := x0
   have hA := ZD.bel (Zc hb0.out I0.out) a (9 * 0) _ k0.out
   obtain ⟨oa', cap', c0, c1, c2, c3, c4, c5, c6, c7, c8, hkk⟩ := hA.cells
   obtain ⟨len', hln'⟩ : ∃ len', len' = ks'.length := ⟨_, rfl⟩
   rw [← hln'] at c8 hkk
   have hR : Zq wN (.mk kd' ps' nm' t' nz' z' ob' bi' ks') (.agg #[.int .i64 kd', .int .i64 ps', .string nm', .int .i64 t', .int .i64 nz', .int .i64 z', .int .i64 ob', .int .u64 bi', .slice oa' len' cap']) := by
    unfold Zq
    exact ⟨_, rfl, hkk⟩
   have RR := Zb (R0.out _ _ (E0.out.bel I0.out) hR)
   rw [EO0.out] at RR
   have f0 := (I0.out.cell (p := ⟨b, 0, none⟩) (World.block_lt_of_cell? wN _ F0.out)).trans F0.out
   have n0 := (N0.out.bel I0.out).all.2.2.2.2.2.2.2.2.2
   rw [Nat.zero_mul, ZO] at c0 c1 c2 c3 c4 c5 c6 c7 c8
   clear hkk hln' hR hA k0 R0
   go_wp2_with fail
   refine RR.out.mono ?_
   intro e u0 hp
   rcases hp.both with ⟨h1, rfl, hb3⟩ | ⟨h1, rfl, hb3⟩
   rotate_left 1
   · refine ⟨rfl, Gt.no ?_ (Zc hb0.out (Zc I0.out hb3))⟩
     rw [HO.out]
     simp [EO0.out, h1]
   have I1 := Zb (Zc I0.out hb3)
   have T0 := Zb h1
   clear RR hb3 hp h1 c0 c1 c2 c3 c4 c5 c6 c7 c8 f0 n0 I0
   go_wp2_with fail
   rw [rounds_succ]
   obtain ⟨kd', ps', nm', t', nz', z', ob', bi', ks'⟩ := x1
   have hA := ZD.bel (Zc hb0.out I1.out) a (9 * 1) _ k1.out
   obtain ⟨oa', cap', c0, c1, c2, c3, c4, c5, c6, c7, c8, hkk⟩ := hA.cells
   obtain ⟨len', hln'⟩ : ∃ len', len' = ks'.length := ⟨_, rfl⟩
   rw [← hln'] at c8 hkk
   have hR : Zq u0 (.mk kd' ps' nm' t' nz' z' ob' bi' ks') (.agg #[.int .i64 kd', .int .i64 ps', .string nm', .int .i64 t', .int .i64 nz', .int .i64 z', .int .i64 ob', .int .u64 bi', .slice oa' len' cap']) := by
    unfold Zq
    exact ⟨_, rfl, hkk⟩
   have RR := Zb (R1.out _ _ (E0.out.bel I1.out) hR)
   rw [EO1.out] at RR
   have f0 := (I1.out.cell (p := ⟨b, 1, none⟩) (World.block_lt_of_cell? wN _ F1.out)).trans F1.out
   have n0 := (N0.out.bel I1.out).all.2.2.2.2.2.2.2.2.2
   rw [show 1 * 9 = 9 from rfl, add_lit a 9 (by decide)] at c0 c1 c2 c3 c4 c5 c6 c7 c8
   dsimp only at c1 c2 c3 c4 c5 c6 c7 c8
   clear hkk hln' hR hA k1 R1
   go_wp2_with fail
   refine RR.out.mono ?_
   intro e u1 hp
   rcases hp.both with ⟨h1, rfl, hb3⟩ | ⟨h1, rfl, hb3⟩
   rotate_left 1
   · refine ⟨rfl, Gt.no ?_ (Zc hb0.out (Zc I1.out hb3))⟩
     rw [HO.out]
     simp [EO0.out, EO1.out, h1, T0.out]
   have I2 := Zb (Zc I1.out hb3)
   have T1 := Zb h1
   clear RR hb3 hp h1 c0 c1 c2 c3 c4 c5 c6 c7 c8 f0 n0 I1
   go_wp2_with fail
   rw [rounds_succ]
   obtain ⟨kd', ps', nm', t', nz', z', ob', bi', ks'⟩ := x2
   have hA := ZD.bel (Zc hb0.out I2.out) a (9 * 2) _ k2.out
   obtain ⟨oa', cap', c0, c1, c2, c3, c4, c5, c6, c7, c8, hkk⟩ := hA.cells
   obtain ⟨len', hln'⟩ : ∃ len', len' = ks'.length := ⟨_, rfl⟩
   rw [← hln'] at c8 hkk
   have hR : Zq u1 (.mk kd' ps' nm' t' nz' z' ob' bi' ks') (.agg #[.int .i64 kd', .int .i64 ps', .string nm', .int .i64 t', .int .i64 nz', .int .i64 z', .int .i64 ob', .int .u64 bi', .slice oa' len' cap']) := by
    unfold Zq
    exact ⟨_, rfl, hkk⟩
   have RR := Zb (R2.out _ _ (E0.out.bel I2.out) hR)
   rw [EO2.out] at RR
   have f0 := (I2.out.cell (p := ⟨b, 2, none⟩) (World.block_lt_of_cell? wN _ F2.out)).trans F2.out
   have n0 := (N0.out.bel I2.out).all.2.2.2.2.2.2.2.2.2
   rw [show 2 * 9 = 18 from rfl, add_lit a 18 (by decide)] at c0 c1 c2 c3 c4 c5 c6 c7 c8
   dsimp only at c1 c2 c3 c4 c5 c6 c7 c8
   clear hkk hln' hR hA k2 R2
   go_wp2_with fail
   refine RR.out.mono ?_
   intro e u2 hp
   rcases hp.both with ⟨h1, rfl, hb3⟩ | ⟨h1, rfl, hb3⟩
   rotate_left 1
   · refine ⟨rfl, Gt.no ?_ (Zc hb0.out (Zc I2.out hb3))⟩
     rw [HO.out]
     simp [EO0.out, EO1.out, EO2.out, h1, T0.out, T1.out]
   have I3 := Zb (Zc I2.out hb3)
   have T2 := Zb h1
   clear RR hb3 hp h1 c0 c1 c2 c3 c4 c5 c6 c7 c8 f0 n0 I2
   go_wp2_with fail
   rw [rounds_succ]
   have n1 := N0.out.bel I3.out
   have z1 := Z0.out.bel I3.out
   have b1' := Zc hb0.out I3.out
   obtain ⟨⟨f0, f1, f2, f3, f4, f5, f6, f7, f8⟩, b0, b1, b2, b3, b4, b5, b6, b7, b8⟩ := n1.all
   obtain ⟨⟨g0, g1, g2, g3, g4, g5, g6, g7, g8⟩, c0, c1, c2, c3, c4, c5, c6, c7, c8⟩ := z1.all
   obtain ⟨k3, t3⟩ := Zs n1 8 (.slice none 0 0)
   obtain ⟨k4, t4⟩ := Zy (z1.tn t3 (by omega)) (.int .i64 kd) (.int .i64 ps) (.string nm) (.int .i64 t) (.int .i64 nz) (.int .i64 z) (.int .i64 ob) (.int .u64 bi) (.slice none 0 0)
   have K4 := Zb k4
   have B4 := Zb ((b1'.trans (t3.bel (by omega) b1'.size)).trans (t4.bel (by omega) (Nat.le_trans b1'.size t3.size)))
   have HT : out = true := by
    rw [HO.out]
    simp [EO0.out, T0.out, EO1.out, T1.out, EO2.out, T2.out]
   have HT := Zb HT
   clear k3 t3 k4 t4 n1 z1 b1' I3
   go_wp2_with fail
   refine Zg (w.heap.size + 1) rfl rfl K4.out rfl ?_
   exact Gt.yes HT.out B4.out
 · have hout : out = false := by
    rw [← HW.out]
    match ks, hs2 with
    | [], _ => rfl
    | [_], _ => rfl
    | [_, _], _ => rfl
    | [_, _, _], h => exact absurd h hl
    | _ :: _ :: _ :: _ :: _, _ => rfl
   subst hout
   have hd : ((len : Int) == 3) = false := by simp; omega
   clear HW HK hs2
   go_enter Tryz.func58, Tryz.ntmps58
   go_wp2_with fail
   generalize (w.alloc _).alloc _ = w0 at *
   refine (Yb (ZE E0.out)).mono ?_
   rintro e wN ⟨rfl, rfl⟩
   exact ⟨rfl, Gt.no rfl B0.out⟩
theorem all_exbl {w : World} {p : List Addr} (he : Ev w p) (kd ps : Int) (nm : ByteArray) (t nz z ob bi : Int) (oa : Option Addr) (len cap : Nat) (ks : List Nd) (hk : Zr w ks (.slice oa len cap)) (b c : Nat) (hc0 : w.cell? ⟨b, 0, none⟩ = some (.func (.func 33) #[] #[])) (hc1 : w.cell? ⟨b, 1, none⟩ = some (.func (.func 108) #[] #[])) (ok0 : Nd -> Bool) (ok1 : Nd -> Bool) (hr0 : ∀ x, ks[0]? = some x -> ZR 33 p ok0 x) (hr1 : ∀ x, ks[1]? = some x -> ZR 108 p ok1 x) :
 Calls Tryz.prog 58 #[.agg #[.int .i64 kd, .int .i64 ps, .string nm, .int .i64 t, .int .i64 nz, .int .i64 z, .int .i64 ob, .int .u64 bi, .slice oa len cap], .slice (some ⟨b, 0, none⟩) 2 c] w fun e w' => Gt p w (all2B ok0 ok1 ks) (.agg #[.int .i64 kd, .int .i64 ps, .string nm, .int .i64 t, .int .i64 nz, .int .i64 z, .int .i64 ob, .int .u64 bi, .slice none 0 0]) e w' := by
 obtain ⟨oa1, cap1, hs, hkk⟩ := hk.kid
 injection hs with hs1 hs2 hs3
 subst hs1 hs3
 have hb1 := Zd w (.cells #[.int .i64 kd, .int .i64 ps, .string nm, .int .i64 t, .int .i64 nz, .int .i64 z, .int .i64 ob, .int .u64 bi, .slice oa len cap] 29)
 have k1 : Nod (w.alloc (.cells #[.int .i64 kd, .int .i64 ps, .string nm, .int .i64 t, .int .i64 nz, .int .i64 z, .int .i64 ob, .int .u64 bi, .slice oa len cap] 29)) w.heap.size (.int .i64 kd) (.int .i64 ps) (.string nm) (.int .i64 t) (.int .i64 nz) (.int .i64 z) (.int .i64 ob) (.int .u64 bi) (.slice oa len cap) := B_ _ _
 have s1 : (w.alloc (.cells #[.int .i64 kd, .int .i64 ps, .string nm, .int .i64 t, .int .i64 nz, .int .i64 z, .int .i64 ob, .int .u64 bi, .slice oa len cap] 29)).heap.size = w.heap.size + 1 := by simp
 have hb2 := Zd (w.alloc (.cells #[.int .i64 kd, .int .i64 ps, .string nm, .int .i64 t, .int .i64 nz, .int .i64 z, .int .i64 ob, .int .u64 bi, .slice oa len cap] 29)) Zh
 have k2 : Nod ((w.alloc (.cells #[.int .i64 kd, .int .i64 ps, .string nm, .int .i64 t, .int .i64 nz, .int .i64 z, .int .i64 ob, .int .u64 bi, .slice oa len cap] 29)).alloc Zh) (w.alloc (.cells #[.int .i64 kd, .int .i64 ps, .string nm, .int .i64 t, .int .i64 nz, .int .i64 z, .int .i64 ob, .int .u64 bi, .slice oa len cap] 29)).heap.size (.int .i64 0) (.int .i64 0) (.string ⟨#[]⟩) (.int .i64 0) (.int .i64 0) (.int .i64 0) (.int .i64 0) (.int .u64 0) (.slice none 0 0) := B_ _ _
 rw [s1] at k2
 have B0 := Zb (Zc hb1 hb2)
 have N0 := Zb (k1.bel hb2)
 have Z0 := Zb k2
 have E0 := Zb (he.bel B0.out)
 have hb0 := Zb (show Below w.heap.size w _ from B0.out)
 have F0 := Zb ((B0.out.cell (p := ⟨b, 0, none⟩) (World.block_lt_of_cell? w _ hc0)).trans hc0)
 have F1 := Zb ((B0.out.cell (p := ⟨b, 1, none⟩) (World.block_lt_of_cell? w _ hc1)).trans hc1)
 have HK := Zb hkk
 clear he hk hkk hb1 k1 s1 hb2 k2 hc0 hc1
 unfold Zh at *
 obtain ⟨out, ho⟩ : ∃ out, all2B ok0 ok1 ks = out := ⟨_, rfl⟩
 rw [ho]
 have HW := Zb ho
 clear ho
 by_cases hl : len = 2
 · subst hl
   obtain ⟨x0, x1, rfl⟩ : ∃ x0 x1, ks = [x0, x1] := by
    match ks, hs2 with
    | [x0, x1], _ => exact ⟨x0, x1, rfl⟩
   clear hs2
   obtain ⟨a, rfl, hc1, hc2, hkid⟩ : ∃ a, oa = some a /\ ([x0, x1] : List Nd).length <= cap /\ cap <= maxLen /\ ∀ j n, ([x0, x1] : List Nd)[j]? = some n -> ZD w a (9 * j) n := by
    rcases HK.out with h | h
    · cases h
    · exact h
   unfold maxLen at hc2
   have hc1 : 2 <= cap := by simpa using hc1
   have HO : Hid (out = (ok0 x0 && (ok1 x1))) := HW.out.symm
   have k0 := Zb (hkid 0 _ rfl)
   have R0 := Zb (hr0 x0 rfl)
   obtain ⟨o0, e0⟩ : ∃ o0, ok0 x0 = o0 := ⟨_, rfl⟩
   have EO0 := Zb e0
   clear e0
   have k1 := Zb (hkid 1 _ rfl)
   have R1 := Zb (hr1 x1 rfl)
   obtain ⟨o1, e1⟩ : ∃ o1, ok1 x1 = o1 := ⟨_, rfl⟩
   have EO1 := Zb e1
   clear e1
   clear hkid HW HK hr0 hr1
   go_enter Tryz.func58, Tryz.ntmps58
   go_wp2_with fail
   generalize (w.alloc _).alloc _ = w0 at *
   refine (ZP _).mono ?_
   rintro e wN ⟨rfl, rfl⟩
   go_wp2_with fail
   refine wp_loop_rounds 3 ?_
   rw [rounds_succ]
   have I0 := Zb (Below.refl wN.heap.size wN)
   obtain ⟨kd', ps', nm', t', nz', z', ob', bi', ks'⟩ := x0
   have hA := ZD.bel (Zc hb0.out I0.out) a (9 * 0) _ k0.out
   obtain ⟨oa', cap', c0, c1, c2, c3, c4, c5, c6, c7, c8, hkk⟩ := hA.cells
   obtain ⟨len', hln'⟩ : ∃ len', len' = ks'.length := ⟨_, rfl⟩
   rw [← hln'] at c8 hkk
   have hR : Zq wN (.mk kd' ps' nm' t' nz' z' ob' bi' ks') (.agg #[.int .i64 kd', .int .i64 ps', .string nm', .int .i64 t', .int .i64 nz', .int .i64 z', .int .i64 ob', .int .u64 bi', .slice oa' len' cap']) := by
    unfold Zq
    exact ⟨_, rfl, hkk⟩
   have RR := Zb (R0.out _ _ (E0.out.bel I0.out) hR)
   rw [EO0.out] at RR
   have f0 := (I0.out.cell (p := ⟨b, 0, none⟩) (World.block_lt_of_cell? wN _ F0.out)).trans F0.out
   have n0 := (N0.out.bel I0.out).all.2.2.2.2.2.2.2.2.2
   rw [Nat.zero_mul, ZO] at c0 c1 c2 c3 c4 c5 c6 c7 c8
   clear hkk hln' hR hA k0 R0
   go_wp2_with fail
   refine RR.out.mono ?_
   intro e u0 hp
   rcases hp.both with ⟨h1, rfl, hb3⟩ | ⟨h1, rfl, hb3⟩
   rotate_left 1
   · refine ⟨rfl, Gt.no ?_ (Zc hb0.out (Zc I0.out hb3))⟩
     rw [HO.out]
     simp [EO0.out, h1]
   have I1 := Zb (Zc I0.out hb3)
   have T0 := Zb h1
   clear RR hb3 hp h1 c0 c1 c2 c3 c4 c5 c6 c7 c8 f0 n0 I0
   go_wp2_with fail
   rw [rounds_succ]
   obtain ⟨kd', ps', nm', t', nz', z', ob', bi', ks'⟩ := x1
   have hA := ZD.bel (Zc hb0.out I1.out) a (9 * 1) _ k1.out
   obtain ⟨oa', cap', c0, c1, c2, c3, c4, c5, c6, c7, c8, hkk⟩ := hA.cells
   obtain ⟨len', hln'⟩ : ∃ len', len' = ks'.length := ⟨_, rfl⟩
   rw [← hln'] at c8 hkk
   have hR : Zq u0 (.mk kd' ps' nm' t' nz' z' ob' bi' ks') (.agg #[.int .i64 kd', .int .i64 ps', .string nm', .int .i64 t', .int .i64 nz', .int .i64 z', .int .i64 ob', .int .u64 bi', .slice oa' len' cap']) := by
    unfold Zq
    exact ⟨_, rfl, hkk⟩
   have RR := Zb (R1.out _ _ (E0.out.bel I1.out) hR)
   rw [EO1.out] at RR
   have f0 := (I1.out.cell (p := ⟨b, 1, none⟩) (World.block_lt_of_cell? wN _ F1.out)).trans F1.out
   have n0 := (N0.out.bel I1.out).all.2.2.2.2.2.2.2.2.2
   rw [show 1 * 9 = 9 from rfl, add_lit a 9 (by decide)] at c0 c1 c2 c3 c4 c5 c6 c7 c8
   dsimp only at c1 c2 c3 c4 c5 c6 c7 c8
   clear hkk hln' hR hA k1 R1
   go_wp2_with fail
   refine RR.out.mono ?_
   intro e u1 hp
   rcases hp.both with ⟨h1, rfl, hb3⟩ | ⟨h1, rfl, hb3⟩
   rotate_left 1
   · refine ⟨rfl, Gt.no ?_ (Zc hb0.out (Zc I1.out hb3))⟩
     rw [HO.out]
     simp [EO0.out, EO1.out, h1, T0.out]
   have I2 := Zb (Zc I1.out hb3)
   have T1 := Zb h1
   clear RR hb3 hp h1 c0 c1 c2 c3 c4 c5 c6 c7 c8 f0 n0 I1
   go_wp2_with fail
   rw [rounds_succ]
   have n1 := N0.out.bel I2.out
   have z1 := Z0.out.bel I2.out
   have b1' := Zc hb0.out I2.out
   obtain ⟨⟨f0, f1, f2, f3, f4, f5, f6, f7, f8⟩, b0, b1, b2, b3, b4, b5, b6, b7, b8⟩ := n1.all
   obtain ⟨⟨g0, g1, g2, g3, g4, g5, g6, g7, g8⟩, c0, c1, c2, c3, c4, c5, c6, c7, c8⟩ := z1.all
   obtain ⟨k3, t3⟩ := Zs n1 8 (.slice none 0 0)
   obtain ⟨k4, t4⟩ := Zy (z1.tn t3 (by omega)) (.int .i64 kd) (.int .i64 ps) (.string nm) (.int .i64 t) (.int .i64 nz) (.int .i64 z) (.int .i64 ob) (.int .u64 bi) (.slice none 0 0)
   have K4 := Zb k4
   have B4 := Zb ((b1'.trans (t3.bel (by omega) b1'.size)).trans (t4.bel (by omega) (Nat.le_trans b1'.size t3.size)))
   have HT : out = true := by
    rw [HO.out]
    simp [EO0.out, T0.out, EO1.out, T1.out]
   have HT := Zb HT
   clear k3 t3 k4 t4 n1 z1 b1' I2
   go_wp2_with fail
   refine Zg (w.heap.size + 1) rfl rfl K4.out rfl ?_
   exact Gt.yes HT.out B4.out
 · have hout : out = false := by
    rw [← HW.out]
    match ks, hs2 with
    | [], _ => rfl
    | [_], _ => rfl
    | [_, _], h => exact absurd h hl
    | _ :: _ :: _ :: _, _ => rfl
   subst hout
   have hd : ((len : Int) == 2) = false := by simp; omega
   clear HW HK hs2
   go_enter Tryz.func58, Tryz.ntmps58
   go_wp2_with fail
   generalize (w.alloc _).alloc _ = w0 at *
   refine (Yb (ZE E0.out)).mono ?_
   rintro e wN ⟨rfl, rfl⟩
   exact ⟨rfl, Gt.no rfl B0.out⟩
theorem all_exex {w : World} {p : List Addr} (he : Ev w p) (kd ps : Int) (nm : ByteArray) (t nz z ob bi : Int) (oa : Option Addr) (len cap : Nat) (ks : List Nd) (hk : Zr w ks (.slice oa len cap)) (b c : Nat) (hc0 : w.cell? ⟨b, 0, none⟩ = some (.func (.func 33) #[] #[])) (hc1 : w.cell? ⟨b, 1, none⟩ = some (.func (.func 33) #[] #[])) (ok0 : Nd -> Bool) (ok1 : Nd -> Bool) (hr0 : ∀ x, ks[0]? = some x -> ZR 33 p ok0 x) (hr1 : ∀ x, ks[1]? = some x -> ZR 33 p ok1 x) :
 Calls Tryz.prog 58 #[.agg #[.int .i64 kd, .int .i64 ps, .string nm, .int .i64 t, .int .i64 nz, .int .i64 z, .int .i64 ob, .int .u64 bi, .slice oa len cap], .slice (some ⟨b, 0, none⟩) 2 c] w fun e w' => Gt p w (all2B ok0 ok1 ks) (.agg #[.int .i64 kd, .int .i64 ps, .string nm, .int .i64 t, .int .i64 nz, .int .i64 z, .int .i64 ob, .int .u64 bi, .slice none 0 0]) e w' := by
 obtain ⟨oa1, cap1, hs, hkk⟩ := hk.kid
 injection hs with hs1 hs2 hs3
 subst hs1 hs3
 have hb1 := Zd w (.cells #[.int .i64 kd, .int .i64 ps, .string nm, .int .i64 t, .int .i64 nz, .int .i64 z, .int .i64 ob, .int .u64 bi, .slice oa len cap] 29)
 have k1 : Nod (w.alloc (.cells #[.int .i64 kd, .int .i64 ps, .string nm, .int .i64 t, .int .i64 nz, .int .i64 z, .int .i64 ob, .int .u64 bi, .slice oa len cap] 29)) w.heap.size (.int .i64 kd) (.int .i64 ps) (.string nm) (.int .i64 t) (.int .i64 nz) (.int .i64 z) (.int .i64 ob) (.int .u64 bi) (.slice oa len cap) := B_ _ _
 have s1 : (w.alloc (.cells #[.int .i64 kd, .int .i64 ps, .string nm, .int .i64 t, .int .i64 nz, .int .i64 z, .int .i64 ob, .int .u64 bi, .slice oa len cap] 29)).heap.size = w.heap.size + 1 := by simp
 have hb2 := Zd (w.alloc (.cells #[.int .i64 kd, .int .i64 ps, .string nm, .int .i64 t, .int .i64 nz, .int .i64 z, .int .i64 ob, .int .u64 bi, .slice oa len cap] 29)) Zh
 have k2 : Nod ((w.alloc (.cells #[.int .i64 kd, .int .i64 ps, .string nm, .int .i64 t, .int .i64 nz, .int .i64 z, .int .i64 ob, .int .u64 bi, .slice oa len cap] 29)).alloc Zh) (w.alloc (.cells #[.int .i64 kd, .int .i64 ps, .string nm, .int .i64 t, .int .i64 nz, .int .i64 z, .int .i64 ob, .int .u64 bi, .slice oa len cap] 29)).heap.size (.int .i64 0) (.int .i64 0) (.string ⟨#[]⟩) (.int .i64 0) (.int .i64 0) (.int .i64 0) (.int .i64 0) (.int .u64 0) (.slice none 0 0) := B_ _ _
 rw [s1] at k2
 have B0 := Zb (Zc hb1 hb2)
 have N0 := Zb (k1.bel hb2)
 have Z0 := Zb k2
 have E0 := Zb (he.bel B0.out)
 have hb0 := Zb (show Below w.heap.size w _ from B0.out)
 have F0 := Zb ((B0.out.cell (p := ⟨b, 0, none⟩) (World.block_lt_of_cell? w _ hc0)).trans hc0)
 have F1 := Zb ((B0.out.cell (p := ⟨b, 1, none⟩) (World.block_lt_of_cell? w _ hc1)).trans hc1)
 have HK := Zb hkk
 clear he hk hkk hb1 k1 s1 hb2 k2 hc0 hc1
 unfold Zh at *
 obtain ⟨out, ho⟩ : ∃ out, all2B ok0 ok1 ks = out := ⟨_, rfl⟩
 rw [ho]
 have HW := Zb ho
 clear ho
 by_cases hl : len = 2
 · subst hl
   obtain ⟨x0, x1, rfl⟩ : ∃ x0 x1, ks = [x0, x1] := by
    match ks, hs2 with
    | [x0, x1], _ => exact ⟨x0, x1, rfl⟩
   clear hs2
   obtain ⟨a, rfl, hc1, hc2, hkid⟩ : ∃ a, oa = some a /\ ([x0, x1] : List Nd).length <= cap /\ cap <= maxLen /\ ∀ j n, ([x0, x1] : List Nd)[j]? = some n -> ZD w a (9 * j) n := by
    rcases HK.out with h | h
    · cases h
    · exact h
   unfold maxLen at hc2
   have hc1 : 2 <= cap := by simpa using hc1
   have HO : Hid (out = (ok0 x0 && (ok1 x1))) := HW.out.symm
   have k0 := Zb (hkid 0 _ rfl)
   have R0 := Zb (hr0 x0 rfl)
   obtain ⟨o0, e0⟩ : ∃ o0, ok0 x0 = o0 := ⟨_, rfl⟩
   have EO0 := Zb e0
   clear e0
   have k1 := Zb (hkid 1 _ rfl)
   have R1 := Zb (hr1 x1 rfl)
   obtain ⟨o1, e1⟩ : ∃ o1, ok1 x1 = o1 := ⟨_, rfl⟩
   have EO1 := Zb e1
   clear e1
   clear hkid HW HK hr0 hr1
   go_enter Tryz.func58, Tryz.ntmps58
   go_wp2_with fail
   generalize (w.alloc _).alloc _ = w0 at *
   refine (ZP _).mono ?_
   rintro e wN ⟨rfl, rfl⟩
   go_wp2_with fail
   refine wp_loop_rounds 3 ?_
   rw [rounds_succ]
   have I0 := Zb (Below.refl wN.heap.size wN)
   obtain ⟨kd', ps', nm', t', nz', z', ob', bi', ks'⟩ := x0
   have hA := ZD.bel (Zc hb0.out I0.out) a (9 * 0) _ k0.out
   obtain ⟨oa', cap', c0, c1, c2, c3, c4, c5, c6, c7, c8, hkk⟩ := hA.cells
   obtain ⟨len', hln'⟩ : ∃ len', len' = ks'.length := ⟨_, rfl⟩
   rw [← hln'] at c8 hkk
   have hR : Zq wN (.mk kd' ps' nm' t' nz' z' ob' bi' ks') (.agg #[.int .i64 kd', .int .i64 ps', .string nm', .int .i64 t', .int .i64 nz', .int .i64 z', .int .i64 ob', .int .u64 bi', .slice oa' len' cap']) := by
    unfold Zq
    exact ⟨_, rfl, hkk⟩
   have RR := Zb (R0.out _ _ (E0.out.bel I0.out) hR)
   rw [EO0.out] at RR
   have f0 := (I0.out.cell (p := ⟨b, 0, none⟩) (World.block_lt_of_cell? wN _ F0.out)).trans F0.out
   have n0 := (N0.out.bel I0.out).all.2.2.2.2.2.2.2.2.2
   rw [Nat.zero_mul, ZO] at c0 c1 c2 c3 c4 c5 c6 c7 c8
   clear hkk hln' hR hA k0 R0
   go_wp2_with fail
   refine RR.out.mono ?_
   intro e u0 hp
   rcases hp.both with ⟨h1, rfl, hb3⟩ | ⟨h1, rfl, hb3⟩
   rotate_left 1
   · refine ⟨rfl, Gt.no ?_ (Zc hb0.out (Zc I0.out hb3))⟩
     rw [HO.out]
     simp [EO0.out, h1]
   have I1 := Zb (Zc I0.out hb3)
   have T0 := Zb h1
   clear RR hb3 hp h1 c0 c1 c2 c3 c4 c5 c6 c7 c8 f0 n0 I0
   go_wp2_with fail
   rw [rounds_succ]
   obtain ⟨kd', ps', nm', t', nz', z', ob', bi', ks'⟩ := x1
   have hA := ZD.bel (Zc hb0.out I1.out) a (9 * 1) _ k1.out
   obtain ⟨oa', cap', c0, c1, c2, c3, c4, c5, c6, c7, c8, hkk⟩ := hA.cells
   obtain ⟨len', hln'⟩ : ∃ len', len' = ks'.length := ⟨_, rfl⟩
   rw [← hln'] at c8 hkk
   have hR : Zq u0 (.mk kd' ps' nm' t' nz' z' ob' bi' ks') (.agg #[.int .i64 kd', .int .i64 ps', .string nm', .int .i64 t', .int .i64 nz', .int .i64 z', .int .i64 ob', .int .u64 bi', .slice oa' len' cap']) := by
    unfold Zq
    exact ⟨_, rfl, hkk⟩
   have RR := Zb (R1.out _ _ (E0.out.bel I1.out) hR)
   rw [EO1.out] at RR
   have f0 := (I1.out.cell (p := ⟨b, 1, none⟩) (World.block_lt_of_cell? wN _ F1.out)).trans F1.out
   have n0 := (N0.out.bel I1.out).all.2.2.2.2.2.2.2.2.2
   rw [show 1 * 9 = 9 from rfl, add_lit a 9 (by decide)] at c0 c1 c2 c3 c4 c5 c6 c7 c8
   dsimp only at c1 c2 c3 c4 c5 c6 c7 c8
   clear hkk hln' hR hA k1 R1
   go_wp2_with fail
   refine RR.out.mono ?_
   intro e u1 hp
   rcases hp.both with ⟨h1, rfl, hb3⟩ | ⟨h1, rfl, hb3⟩
   rotate_left 1
   · refine ⟨rfl, Gt.no ?_ (Zc hb0.out (Zc I1.out hb3))⟩
     rw [HO.out]
     simp [EO0.out, EO1.out, h1, T0.out]
   have I2 := Zb (Zc I1.out hb3)
   have T1 := Zb h1
   clear RR hb3 hp h1 c0 c1 c2 c3 c4 c5 c6 c7 c8 f0 n0 I1
   go_wp2_with fail
   rw [rounds_succ]
   have n1 := N0.out.bel I2.out
   have z1 := Z0.out.bel I2.out
   have b1' := Zc hb0.out I2.out
   obtain ⟨⟨f0, f1, f2, f3, f4, f5, f6, f7, f8⟩, b0, b1, b2, b3, b4, b5, b6, b7, b8⟩ := n1.all
   obtain ⟨⟨g0, g1, g2, g3, g4, g5, g6, g7, g8⟩, c0, c1, c2, c3, c4, c5, c6, c7, c8⟩ := z1.all
   obtain ⟨k3, t3⟩ := Zs n1 8 (.slice none 0 0)
   obtain ⟨k4, t4⟩ := Zy (z1.tn t3 (by omega)) (.int .i64 kd) (.int .i64 ps) (.string nm) (.int .i64 t) (.int .i64 nz) (.int .i64 z) (.int .i64 ob) (.int .u64 bi) (.slice none 0 0)
   have K4 := Zb k4
   have B4 := Zb ((b1'.trans (t3.bel (by omega) b1'.size)).trans (t4.bel (by omega) (Nat.le_trans b1'.size t3.size)))
   have HT : out = true := by
    rw [HO.out]
    simp [EO0.out, T0.out, EO1.out, T1.out]
   have HT := Zb HT
   clear k3 t3 k4 t4 n1 z1 b1' I2
   go_wp2_with fail
   refine Zg (w.heap.size + 1) rfl rfl K4.out rfl ?_
   exact Gt.yes HT.out B4.out
 · have hout : out = false := by
    rw [← HW.out]
    match ks, hs2 with
    | [], _ => rfl
    | [_], _ => rfl
    | [_, _], h => exact absurd h hl
    | _ :: _ :: _ :: _, _ => rfl
   subst hout
   have hd : ((len : Int) == 2) = false := by simp; omega
   clear HW HK hs2
   go_enter Tryz.func58, Tryz.ntmps58
   go_wp2_with fail
   generalize (w.alloc _).alloc _ = w0 at *
   refine (Yb (ZE E0.out)).mono ?_
   rintro e wN ⟨rfl, rfl⟩
   exact ⟨rfl, Gt.no rfl B0.out⟩
end Go.Proofs.YtfnplhfjfolojaaGreatDoor.Ck.Sho
