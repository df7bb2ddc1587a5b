/- Texts of this proof, packed: contracts of the program's functions, and the plain model that they are held against. -/
import Derived.Test.YtfnplhfjfolojaaGreatDoorQam
import Derived.Shelf.Strings.Builder1
import Derived.Lib.AppendIntMem
import Derived.Lib.LaidTab
set_option maxRecDepth 20000
set_option maxHeartbeats 4000000
namespace Go.Proofs.YtfnplhfjfolojaaGreatDoor.Ck.Sho
open Go.RowKit
def typB (t : Int) : Bool := t == 1 || (t == 2 || t == 3)
theorem typed_any' {w : World} {p : List Addr} (hc : Cd w p) (kd ps : Int) (nm : ByteArray) (t nz z ob bi : Int) (oa : Option Addr) (len cap : Nat) :
 Calls Tryz.prog 67 #[.agg #[.int .i64 kd, .int .i64 ps, .string nm, .int .i64 t, .int .i64 nz, .int .i64 z, .int .i64 ob, .int .u64 bi, .slice oa len cap]] w fun e w' => Gt p w (typB t) (.agg #[.int .i64 kd, .int .i64 ps, .string nm, .int .i64 0, .int .i64 nz, .int .i64 z, .int .i64 ob, .int .u64 bi, .slice oa len cap]) e w' := typed_any hc kd ps nm t nz z ob bi oa len cap
def pmB : Nd -> Bool
 | .mk k _ nm t n z o b ks => if k = 8 then ZU nm && (typB t && ZH ⟨#[]⟩ 0 n z o b ks.length) else false
def fnr (bl : Nd -> Bool) : Nd -> Bool
 | .mk k _ nm t n z o b ks =>
  if k = 7 then match ks.getLast? with
   | none => false
   | some l => decide (n = (ks.length - 1 : Nat)) && (bl l && (ZU nm && (ks.dropLast.all pmB && ZH ⟨#[]⟩ t 0 z o b 0)))
  else false
def dcr (bl : Nd -> Bool) : Nd -> Bool
 | .mk k ps nm t n z o b ks =>
  if k = 2 then ZU nm && (typB t && ZH ⟨#[]⟩ 0 n z o b ks.length)
  else if k = 3 ∨ k = 5 then ZU nm && (typB t && (decide (0 <= n) && ZH ⟨#[]⟩ 0 0 z o b ks.length))
  else if k = 4 ∨ k = 6 then ZU nm && ZH ⟨#[]⟩ t n z o b ks.length
  else fnr bl (.mk k ps nm t n z o b ks)
def prr (dc : Nd -> Bool) : Nd -> Bool
 | .mk k _ nm t n z o b ks => if k = 1 then ks.all dc && ZH nm t n z o b 0 else false
def prF (m : Nat) (n : Nd) : Bool := prr (dcr (blr (stF m))) n
theorem kids_init {w : World} {ks : List Nd} {oa : Option Addr} {len cap : Nat} (h : Zr w ks (.slice oa len cap)) (hne : ks ≠ []) : Zr w ks.dropLast (.slice oa (len - 1) cap) := by
  obtain ⟨oa1, cap1, hs, hkk⟩ := h.kid
  injection hs with hs1 hs2 hs3
  subst hs1 hs3
  rcases hkk with hk | ⟨a, rfl, h1, h2, h3⟩
  · exact absurd hk hne
  · have hl : ks.dropLast.length = ks.length - 1 := by simp
    have := Zr.of (w := w) (a := a) (cap := cap) ks.dropLast (by omega) h2 (fun j n hj => h3 j n (by
      obtain ⟨hj1, hj2⟩ := List.getElem?_eq_some_iff.1 hj
      rw [List.getElem?_eq_getElem (by omega), ← hj2, List.getElem_dropLast]))
    rw [hl, ← hs2] at this
    exact this
theorem param_any {p : List Addr} (n : Nd) : ZR 109 p (pmB) n := by
 intro w v he hv
 obtain ⟨kd, ps, nm, t, nz, z, ob, bi, ks⟩ := n
 unfold Zq at hv
 obtain ⟨s, rfl, hkk⟩ := hv
 obtain ⟨oa, cap, rfl, hsh⟩ := hkk.kid
 have hlen : ks.length <= 9223372036854775807 := by
  rcases hsh with rfl | ⟨a, _, h1, h2, _⟩
  · simp
  · unfold maxLen at h2
    omega
 obtain ⟨len, hln⟩ : ∃ len, len = ks.length := ⟨_, rfl⟩
 rw [← hln] at hkk hlen ⊢
 have BA := Zb (fun o => Zd w o)
 have EA := Zb (fun o => he.bel (Zd w o))
 have KA := Zb (fun o => Zr.bel (Zd w o) _ _ hkk)
 have HLN := Zb hln
 have HSH := Zb hsh
 obtain ⟨out, ho⟩ : ∃ out, (pmB) (.mk kd ps nm t nz z ob bi ks) = out := ⟨_, rfl⟩
 rw [ho]
 have HO := Zb ho
 clear ho he hkk hln hsh
 go_enter Tryz.func109, Tryz.ntmps109
 by_cases h8 : kd = 8
 · subst h8
   have HX := Zb (show (ZU nm && (typB t && ZH ⟨#[]⟩ 0 nz z ob bi len)) = out from (by rw [HLN.out]; simpa [pmB] using HO.out))
   clear HO
   go_wp2_with fail
   have N0 := Zb (show Nod (w.alloc (.cells #[.int .i64 8, .int .i64 ps, .string nm, .int .i64 t, .int .i64 nz, .int .i64 z, .int .i64 ob, .int .u64 bi, .slice oa len cap] 29)) w.heap.size (.int .i64 8) (.int .i64 ps) (.string nm) (.int .i64 t) (.int .i64 nz) (.int .i64 z) (.int .i64 ob) (.int .u64 bi) (.slice oa len cap) from B_ _ _)
   have B0 := Zb (BA.out (.cells #[.int .i64 8, .int .i64 ps, .string nm, .int .i64 t, .int .i64 nz, .int .i64 z, .int .i64 ob, .int .u64 bi, .slice oa len cap] 29))
   have E0 := Zb (EA.out (.cells #[.int .i64 8, .int .i64 ps, .string nm, .int .i64 t, .int .i64 nz, .int .i64 z, .int .i64 ob, .int .u64 bi, .slice oa len cap] 29))
   have K0 := Zb (KA.out (.cells #[.int .i64 8, .int .i64 ps, .string nm, .int .i64 t, .int .i64 nz, .int .i64 z, .int .i64 ob, .int .u64 bi, .slice oa len cap] 29))
   generalize w.alloc _ = w0 at *
   obtain ⟨_, b0, b1, b2, b3, b4, b5, b6, b7, b8⟩ := N0.out.all
   refine (ZP _).mono ?_
   rintro e uu ⟨rfl, hu⟩
   subst uu
   go_wp2_with fail
   have I0 := Zb (Below.refl w0.heap.size w0)
   refine (ZN (E0.out.bel I0.out) 8 ps nm t nz z ob bi oa len cap).mono ?_
   intro e u0 hp
   rcases hp.both with ⟨h1, rfl, hb⟩ | ⟨h1, rfl, hb⟩
   rotate_left 1
   · exact ⟨rfl, Gt.no (by rw [← HX.out]; simp [h1]) (Zc B0.out (Zc I0.out hb))⟩
   have I1 := Zb (Zc I0.out hb)
   have T0 := Zb h1
   clear hb hp h1 I0 b0 b1 b2 b3 b4 b5 b6 b7 b8
   go_wp2_with fail
   refine (typed_any' (ZE (E0.out.bel I1.out)) 8 ps ⟨#[]⟩ t nz z ob bi oa len cap).mono ?_
   intro e u1 hp
   rcases hp.both with ⟨h1, rfl, hb⟩ | ⟨h1, rfl, hb⟩
   rotate_left 1
   · exact ⟨rfl, Gt.no (by rw [← HX.out]; simp [T0.out, h1]) (Zc B0.out (Zc I1.out hb))⟩
   have I2 := Zb (Zc I1.out hb)
   have T1 := Zb h1
   clear hb hp h1 I1
   go_wp2_with fail
   refine (Zl (ZE (E0.out.bel I2.out)) 8 ps ⟨#[]⟩ 0 nz z ob bi oa len cap).mono ?_
   intro e u2 hp
   rcases hp.both with ⟨h1, rfl, hb⟩ | ⟨h1, rfl, hb⟩
   rotate_left 1
   · exact ⟨rfl, Gt.no (by rw [← HX.out]; simp [T0.out, T1.out, h1]) (Zc B0.out (Zc I2.out hb))⟩
   have I3 := Zb (Zc I2.out hb)
   have T2 := Zb h1
   clear hb hp h1 I2
   go_wp2_with fail
   go_end0
   exact Gt.yes (by rw [← HX.out]; simp [T0.out, T1.out, T2.out]) (Zc B0.out I3.out)
 have hout : out = false := by rw [← HO.out]; simp [pmB, h8]
 subst hout
 have d8 : (kd == 8) = false := by simp [h8]
 go_wp2_with fail
 have N0 := Zb (show Nod (w.alloc (.cells #[.int .i64 kd, .int .i64 ps, .string nm, .int .i64 t, .int .i64 nz, .int .i64 z, .int .i64 ob, .int .u64 bi, .slice oa len cap] 29)) w.heap.size (.int .i64 kd) (.int .i64 ps) (.string nm) (.int .i64 t) (.int .i64 nz) (.int .i64 z) (.int .i64 ob) (.int .u64 bi) (.slice oa len cap) from B_ _ _)
 have B0 := Zb (BA.out (.cells #[.int .i64 kd, .int .i64 ps, .string nm, .int .i64 t, .int .i64 nz, .int .i64 z, .int .i64 ob, .int .u64 bi, .slice oa len cap] 29))
 have E0 := Zb (EA.out (.cells #[.int .i64 kd, .int .i64 ps, .string nm, .int .i64 t, .int .i64 nz, .int .i64 z, .int .i64 ob, .int .u64 bi, .slice oa len cap] 29))
 have K0 := Zb (KA.out (.cells #[.int .i64 kd, .int .i64 ps, .string nm, .int .i64 t, .int .i64 nz, .int .i64 z, .int .i64 ob, .int .u64 bi, .slice oa len cap] 29))
 generalize w.alloc _ = w0 at *
 obtain ⟨_, b0, b1, b2, b3, b4, b5, b6, b7, b8⟩ := N0.out.all
 refine (Yb (ZE E0.out)).mono ?_
 rintro e uu ⟨rfl, rfl⟩
 exact ⟨rfl, Gt.no rfl B0.out⟩
theorem program_from {p : List Addr} (dc : Nd -> Bool) (n : Nd) (hd : ∀ k ∈ n.kids, ZR 40 p dc k) : ZR 24 p (prr dc) n := by
 intro w v he hv
 obtain ⟨kd, ps, nm, t, nz, z, ob, bi, ks⟩ := n
 unfold Zq at hv
 obtain ⟨s, rfl, hkk⟩ := hv
 obtain ⟨oa, cap, rfl, hsh⟩ := hkk.kid
 have hlen : ks.length <= 9223372036854775807 := by
  rcases hsh with rfl | ⟨a, _, h1, h2, _⟩
  · simp
  · unfold maxLen at h2
    omega
 obtain ⟨len, hln⟩ : ∃ len, len = ks.length := ⟨_, rfl⟩
 rw [← hln] at hkk hlen ⊢
 have BA := Zb (fun o => Zd w o)
 have EA := Zb (fun o => he.bel (Zd w o))
 have KA := Zb (fun o => Zr.bel (Zd w o) _ _ hkk)
 have HLN := Zb hln
 have HSH := Zb hsh
 obtain ⟨out, ho⟩ : ∃ out, (prr dc) (.mk kd ps nm t nz z ob bi ks) = out := ⟨_, rfl⟩
 rw [ho]
 have HO := Zb ho
 clear ho he hkk hln hsh
 go_enter Tryz.func24, Tryz.ntmps24
 by_cases h1 : kd = 1
 · subst h1
   have HX := Zb (show (ks.all dc && ZH nm t nz z ob bi 0) = out from (by simpa [prr] using HO.out))
   clear HO
   go_wp2_with fail
   have N0 := Zb (show Nod (w.alloc (.cells #[.int .i64 1, .int .i64 ps, .string nm, .int .i64 t, .int .i64 nz, .int .i64 z, .int .i64 ob, .int .u64 bi, .slice oa len cap] 29)) w.heap.size (.int .i64 1) (.int .i64 ps) (.string nm) (.int .i64 t) (.int .i64 nz) (.int .i64 z) (.int .i64 ob) (.int .u64 bi) (.slice oa len cap) from B_ _ _)
   have B0 := Zb (BA.out (.cells #[.int .i64 1, .int .i64 ps, .string nm, .int .i64 t, .int .i64 nz, .int .i64 z, .int .i64 ob, .int .u64 bi, .slice oa len cap] 29))
   have E0 := Zb (EA.out (.cells #[.int .i64 1, .int .i64 ps, .string nm, .int .i64 t, .int .i64 nz, .int .i64 z, .int .i64 ob, .int .u64 bi, .slice oa len cap] 29))
   have K0 := Zb (KA.out (.cells #[.int .i64 1, .int .i64 ps, .string nm, .int .i64 t, .int .i64 nz, .int .i64 z, .int .i64 ob, .int .u64 bi, .slice oa len cap] 29))
   generalize w.alloc _ = w0 at *
   obtain ⟨_, b0, b1, b2, b3, b4, b5, b6, b7, b8⟩ := N0.out.all
   refine (ZP _).mono ?_
   rintro e uu ⟨rfl, hu⟩
   subst uu
   go_wp2_with fail
   have I0 := Zb (Below.refl w0.heap.size w0)
   refine (each_showdecl (E0.out.bel I0.out) 1 ps nm t nz z ob bi oa len cap ks (Zr.bel I0.out _ _ K0.out) dc hd).mono ?_
   intro e u0 hp
   rcases hp.both with ⟨h1, rfl, hb⟩ | ⟨h1, rfl, hb⟩
   rotate_left 1
   · exact ⟨rfl, Gt.no (by rw [← HX.out]; simp [h1]) (Zc B0.out (Zc I0.out hb))⟩
   have I1 := Zb (Zc I0.out hb)
   have T0 := Zb h1
   clear hb hp h1 I0 b0 b1 b2 b3 b4 b5 b6 b7 b8
   go_wp2_with fail
   refine (Zl (ZE (E0.out.bel I1.out)) 1 ps nm t nz z ob bi none 0 0).mono ?_
   intro e u1 hp
   rcases hp.both with ⟨h1, rfl, hb⟩ | ⟨h1, rfl, hb⟩
   rotate_left 1
   · exact ⟨rfl, Gt.no (by rw [← HX.out]; simp [T0.out, h1]) (Zc B0.out (Zc I1.out hb))⟩
   have I2 := Zb (Zc I1.out hb)
   have T1 := Zb h1
   clear hb hp h1 I1
   go_wp2_with fail
   go_end0
   exact Gt.yes (by rw [← HX.out]; simp [T0.out, T1.out]) (Zc B0.out I2.out)
 have hout : out = false := by rw [← HO.out]; simp [prr, h1]
 subst hout
 have d1 : (kd == 1) = false := by simp [h1]
 go_wp2_with fail
 have N0 := Zb (show Nod (w.alloc (.cells #[.int .i64 kd, .int .i64 ps, .string nm, .int .i64 t, .int .i64 nz, .int .i64 z, .int .i64 ob, .int .u64 bi, .slice oa len cap] 29)) w.heap.size (.int .i64 kd) (.int .i64 ps) (.string nm) (.int .i64 t) (.int .i64 nz) (.int .i64 z) (.int .i64 ob) (.int .u64 bi) (.slice oa len cap) from B_ _ _)
 have B0 := Zb (BA.out (.cells #[.int .i64 kd, .int .i64 ps, .string nm, .int .i64 t, .int .i64 nz, .int .i64 z, .int .i64 ob, .int .u64 bi, .slice oa len cap] 29))
 have E0 := Zb (EA.out (.cells #[.int .i64 kd, .int .i64 ps, .string nm, .int .i64 t, .int .i64 nz, .int .i64 z, .int .i64 ob, .int .u64 bi, .slice oa len cap] 29))
 have K0 := Zb (KA.out (.cells #[.int .i64 kd, .int .i64 ps, .string nm, .int .i64 t, .int .i64 nz, .int .i64 z, .int .i64 ob, .int .u64 bi, .slice oa len cap] 29))
 generalize w.alloc _ = w0 at *
 obtain ⟨_, b0, b1, b2, b3, b4, b5, b6, b7, b8⟩ := N0.out.all
 refine (Yb (ZE E0.out)).mono ?_
 rintro e uu ⟨rfl, rfl⟩
 exact ⟨rfl, Gt.no rfl B0.out⟩
theorem function_from {p : List Addr} (bl : Nd -> Bool) (n : Nd) (hB : ∀ k ∈ n.kids, ZR 108 p bl k) : ZR 69 p (fnr bl) n := by
  intro w v he hv
  obtain ⟨kd, ps, nm, t, nz, z, ob, bi, ks⟩ := n
  unfold Zq at hv
  obtain ⟨s, rfl, hkk⟩ := hv
  obtain ⟨oa, cap, rfl, hsh⟩ := hkk.kid
  have hlen : ks.length <= 9223372036854775807 := by
    rcases hsh with rfl | ⟨a, _, h1, h2, _⟩
    · simp
    · unfold maxLen at h2
      omega
  obtain ⟨len, hln⟩ : ∃ len, len = ks.length := ⟨_, rfl⟩
  rw [← hln] at hkk hlen ⊢
  have BA := Zb (fun o => Zd w o)
  have EA := Zb (fun o => he.bel (Zd w o))
  have KA := Zb (fun o => Zr.bel (Zd w o) _ _ hkk)
  have EW := Zb he
  have KW := Zb hkk
  have HLN := Zb hln
  have HSH := Zb hsh
  obtain ⟨out, ho⟩ : ∃ out, (fnr bl) (.mk kd ps nm t nz z ob bi ks) = out := ⟨_, rfl⟩
  rw [ho]
  have HO := Zb ho
  clear ho he hkk hln hsh
  go_enter Tryz.func69, Tryz.ntmps69
  by_cases hg : kd = 7 /\ ks ≠ [] /\ nz = ((len - 1 : Nat) : Int)
  rotate_left 1
  · have hout : out = false := by
      rw [← HO.out]
      show (if kd = 7 then _ else false) = false
      by_cases h7 : kd = 7
      · rw [if_pos h7]
        cases hl : ks.getLast? with
        | none => rfl
        | some l =>
          dsimp only
          rw [decide_eq_false (fun h => hg ⟨h7, fun e => (by rw [e] at hl; cases hl), (by rw [HLN.out]; exact h)⟩)]
          rfl
      · rw [if_neg h7]
    subst hout
    by_cases h7 : kd = 7
    · subst h7
      by_cases hn : ks = []
      · have hz : len = 0 := by rw [HLN.out, hn]; rfl
        subst hz
        go_wp2_with fail
        have N0 := Zb (show Nod (w.alloc (.cells #[.int .i64 7, .int .i64 ps, .string nm, .int .i64 t, .int .i64 nz, .int .i64 z, .int .i64 ob, .int .u64 bi, .slice oa 0 cap] 29)) w.heap.size (.int .i64 7) (.int .i64 ps) (.string nm) (.int .i64 t) (.int .i64 nz) (.int .i64 z) (.int .i64 ob) (.int .u64 bi) (.slice oa 0 cap) from B_ _ _)
        have B0 := Zb (BA.out (.cells #[.int .i64 7, .int .i64 ps, .string nm, .int .i64 t, .int .i64 nz, .int .i64 z, .int .i64 ob, .int .u64 bi, .slice oa 0 cap] 29))
        have E0 := Zb (EA.out (.cells #[.int .i64 7, .int .i64 ps, .string nm, .int .i64 t, .int .i64 nz, .int .i64 z, .int .i64 ob, .int .u64 bi, .slice oa 0 cap] 29))
        have K0 := Zb (KA.out (.cells #[.int .i64 7, .int .i64 ps, .string nm, .int .i64 t, .int .i64 nz, .int .i64 z, .int .i64 ob, .int .u64 bi, .slice oa 0 cap] 29))
        generalize w.alloc _ = w0 at *
        obtain ⟨_, b0, b1, b2, b3, b4, b5, b6, b7, b8⟩ := N0.out.all
        refine (Yb (ZE E0.out)).mono ?_
        rintro e uu ⟨rfl, rfl⟩
        exact ⟨rfl, Gt.no rfl B0.out⟩
      · have hz : 0 < len := by rw [HLN.out]; exact List.length_pos_iff.2 hn
        have hne : ¬ nz = (len : Int) - 1 := fun h => hg ⟨rfl, hn, by omega⟩
        have d1 : ((nz : Int) == (len : Int) - 1) = false := by simp [hne]
        clear hg hn
        go_wp2_with fail
        have N0 := Zb (show Nod (w.alloc (.cells #[.int .i64 7, .int .i64 ps, .string nm, .int .i64 t, .int .i64 nz, .int .i64 z, .int .i64 ob, .int .u64 bi, .slice oa len cap] 29)) w.heap.size (.int .i64 7) (.int .i64 ps) (.string nm) (.int .i64 t) (.int .i64 nz) (.int .i64 z) (.int .i64 ob) (.int .u64 bi) (.slice oa len cap) from B_ _ _)
        have B0 := Zb (BA.out (.cells #[.int .i64 7, .int .i64 ps, .string nm, .int .i64 t, .int .i64 nz, .int .i64 z, .int .i64 ob, .int .u64 bi, .slice oa len cap] 29))
        have E0 := Zb (EA.out (.cells #[.int .i64 7, .int .i64 ps, .string nm, .int .i64 t, .int .i64 nz, .int .i64 z, .int .i64 ob, .int .u64 bi, .slice oa len cap] 29))
        have K0 := Zb (KA.out (.cells #[.int .i64 7, .int .i64 ps, .string nm, .int .i64 t, .int .i64 nz, .int .i64 z, .int .i64 ob, .int .u64 bi, .slice oa len cap] 29))
        generalize w.alloc _ = w0 at *
        obtain ⟨_, b0, b1, b2, b3, b4, b5, b6, b7, b8⟩ := N0.out.all
        refine (Yb (ZE E0.out)).mono ?_
        rintro e uu ⟨rfl, rfl⟩
        exact ⟨rfl, Gt.no rfl B0.out⟩
    · have d7 : (kd == 7) = false := by simp [h7]
      clear hg
      go_wp2_with fail
      have N0 := Zb (show Nod (w.alloc (.cells #[.int .i64 kd, .int .i64 ps, .string nm, .int .i64 t, .int .i64 nz, .int .i64 z, .int .i64 ob, .int .u64 bi, .slice oa len cap] 29)) w.heap.size (.int .i64 kd) (.int .i64 ps) (.string nm) (.int .i64 t) (.int .i64 nz) (.int .i64 z) (.int .i64 ob) (.int .u64 bi) (.slice oa len cap) from B_ _ _)
      have B0 := Zb (BA.out (.cells #[.int .i64 kd, .int .i64 ps, .string nm, .int .i64 t, .int .i64 nz, .int .i64 z, .int .i64 ob, .int .u64 bi, .slice oa len cap] 29))
      have E0 := Zb (EA.out (.cells #[.int .i64 kd, .int .i64 ps, .string nm, .int .i64 t, .int .i64 nz, .int .i64 z, .int .i64 ob, .int .u64 bi, .slice oa len cap] 29))
      have K0 := Zb (KA.out (.cells #[.int .i64 kd, .int .i64 ps, .string nm, .int .i64 t, .int .i64 nz, .int .i64 z, .int .i64 ob, .int .u64 bi, .slice oa len cap] 29))
      generalize w.alloc _ = w0 at *
      obtain ⟨_, b0, b1, b2, b3, b4, b5, b6, b7, b8⟩ := N0.out.all
      refine (Yb (ZE E0.out)).mono ?_
      rintro e uu ⟨rfl, rfl⟩
      exact ⟨rfl, Gt.no rfl B0.out⟩
  obtain ⟨rfl, hne, hnz⟩ := hg
  obtain ⟨k, hk⟩ : ∃ k, len = k + 1 := ⟨len - 1, by have h1 := HLN.out; have h2 := List.length_pos_iff.2 hne; omega⟩
  have hnz : nz = (k : Int) := by rw [hnz, hk]; simp
  subst hk hnz
  obtain ⟨l, hl⟩ : ∃ l, ks.getLast? = some l := ⟨_, List.getLast?_eq_some_getLast hne⟩
  have hlk : ks[k]? = some l := by
    rw [List.getLast?_eq_getElem?] at hl
    rw [← hl]
    congr 1
    have := HLN.out
    omega
  have HX := Zb (show (bl l && (ZU nm && (ks.dropLast.all pmB && ZH ⟨#[]⟩ t 0 z ob bi 0))) = out from (by
    rw [← HO.out]
    show _ = (if (7 : Int) = 7 then _ else false)
    rw [hl]
    dsimp only
    rw [decide_eq_true (show ((k + 1 - 1 : Nat) : Int) = ((ks.length - 1 : Nat) : Int) by rw [← HLN.out]), Bool.true_and]
    exact (if_pos rfl).symm))
  have RB := Zb (hB l (List.mem_of_getElem? hlk))
  obtain ⟨a, rfl, hc1, hc2, hkid⟩ : ∃ a, oa = some a /\ ks.length <= cap /\ cap <= maxLen /\ ∀ j n, ks[j]? = some n -> ZD w a (9 * j) n := by
    rcases HSH.out with h | h
    · exact absurd h hne
    · exact h
  have hA0 := Zb (hkid k l hlk)
  have hkc : k + 1 <= cap := by rw [HLN.out]; exact hc1
  have HNE := Zb hne
  unfold maxLen at hc2
  clear hl hlk hkid hB HO HSH hc1 hne
  go_wp2_with fail
  have N0 := Zb (show Nod (w.alloc (.cells #[.int .i64 7, .int .i64 ps, .string nm, .int .i64 t, .int .i64 (k : Int), .int .i64 z, .int .i64 ob, .int .u64 bi, .slice (some a) (k + 1) cap] 29)) w.heap.size (.int .i64 7) (.int .i64 ps) (.string nm) (.int .i64 t) (.int .i64 (k : Int)) (.int .i64 z) (.int .i64 ob) (.int .u64 bi) (.slice (some a) (k + 1) cap) from B_ _ _)
  have B0 := Zb (BA.out (.cells #[.int .i64 7, .int .i64 ps, .string nm, .int .i64 t, .int .i64 (k : Int), .int .i64 z, .int .i64 ob, .int .u64 bi, .slice (some a) (k + 1) cap] 29))
  have E0 := Zb (EA.out (.cells #[.int .i64 7, .int .i64 ps, .string nm, .int .i64 t, .int .i64 (k : Int), .int .i64 z, .int .i64 ob, .int .u64 bi, .slice (some a) (k + 1) cap] 29))
  have K0 := Zb (KA.out (.cells #[.int .i64 7, .int .i64 ps, .string nm, .int .i64 t, .int .i64 (k : Int), .int .i64 z, .int .i64 ob, .int .u64 bi, .slice (some a) (k + 1) cap] 29))
  generalize w.alloc _ = w0 at *
  obtain ⟨_, b0, b1, b2, b3, b4, b5, b6, b7, b8⟩ := N0.out.all
  refine (ZP _).mono ?_
  rintro e uu ⟨rfl, hu⟩
  subst uu
  obtain ⟨lo, hlo⟩ : ∃ lo, bl l = lo := ⟨_, rfl⟩
  have HLO := Zb hlo
  obtain ⟨kd', ps', nm', t', nz', z', ob', bi', ks'⟩ := l
  have hA := ZD.bel B0.out a (9 * k) _ hA0.out
  obtain ⟨oa', cap', c0, c1, c2, c3, c4, c5, c6, c7, c8, hkk⟩ := hA.cells
  obtain ⟨len', hln'⟩ : ∃ len', len' = ks'.length := ⟨_, rfl⟩
  rw [← hln'] at c8 hkk
  have RR := Zb (RB.out w0 (.agg #[.int .i64 kd', .int .i64 ps', .string nm', .int .i64 t', .int .i64 nz', .int .i64 z', .int .i64 ob', .int .u64 bi', .slice oa' len' cap']) E0.out (by unfold Zq; exact ⟨_, rfl, hkk⟩))
  rw [hlo] at RR
  rw [hlo] at HX
  clear hA hA0 RB hkk hln' hlo
  go_wp2_with fail
  refine RR.out.mono ?_
  intro e u0 hp
  rcases hp.both with ⟨h1, rfl, hb⟩ | ⟨h1, rfl, hb⟩
  rotate_left 1
  · exact ⟨rfl, Gt.no (by rw [← HX.out]; simp [h1]) (Zc B0.out hb)⟩
  have TL := Zb h1
  have hkc2 : k <= cap := by omega
  have n1 := Zb ((N0.out.bel hb).drew)
  have bq := Zb (show Below w0.heap.size w0 u0.drew from Zm hb)
  clear RR c0 c1 c2 c3 c4 c5 c6 c7 c8 h1 hp b0 b1 b2 b3 b4 b5 b6 b7 b8 hb
  go_wp2_with fail
  refine wp_region_any ZI ?_
  change wpAny _ _ _ _ _ _ _ (World.drew _)
  generalize u0.drew = y at *
  have n1 := n1.out
  have bq := bq.out
  obtain ⟨⟨f0, f1, f2, f3, f4, f5, f6, f7, f8⟩, b0, b1, b2, b3, b4, b5, b6, b7, b8⟩ := n1.all
  obtain ⟨k3, t3⟩ := Zs n1 4 (.int .i64 0)
  have k3 : Nod (y.setCell ⟨w.heap.size, 4, none⟩ (.int .i64 0)) w.heap.size (.int .i64 7) (.int .i64 ps) (.string nm) (.int .i64 t) (.int .i64 0) (.int .i64 z) (.int .i64 ob) (.int .u64 bi) (.slice (some a) (k + 1) cap) := k3
  obtain ⟨k4, t4⟩ := Zs k3 8 (.slice (some a) k cap)
  have N4 := Zb (show Nod _ w.heap.size (.int .i64 7) (.int .i64 ps) (.string nm) (.int .i64 t) (.int .i64 0) (.int .i64 z) (.int .i64 ob) (.int .u64 bi) (.slice (some a) k cap) from k4)
  have B4 := Zb (((Zc B0.out bq).trans (t3.bel (Nat.le_refl _) (Zc B0.out bq).size)).trans (t4.bel (Nat.le_refl _) (Nat.le_trans (Zc B0.out bq).size t3.size)))
  have W4 := Zb (And.intro (EW.out.bel B4.out) (Zr.bel B4.out _ _ (kids_init KW.out HNE.out)))
  clear k3 t3 k4 t4 n1 bq
  refine T_ 0 (v := ?_) (fun w => ?_) ?_
  rotate_left 1
  · (go_simp <;> with_reducible rfl)
  simp only [Act.put, S_]
  refine T_ 2 (v := ?_) (fun w => ?_) ?_
  rotate_left 1
  · (go_simp <;> with_reducible rfl)
  simp only [Act.put, S_]
  refine R_ 1 (fun K1 hK1 => ?_)
  go_simp
  refine hK1 _ _ ?_
  clear hK1 K1
  refine T_ 3 (v := ?_) (fun w => ?_) ?_
  rotate_left 1
  · (go_simp <;> with_reducible rfl)
  simp only [Act.put, S_]
  refine T_ 4 (v := ?_) (fun w => ?_) ?_
  rotate_left 1
  · (go_simp <;> with_reducible rfl)
  simp only [Act.put, S_]
  refine R_ 5 (fun K1 hK1 => ?_)
  go_simp
  refine hK1 _ _ ?_
  clear hK1 K1
  refine T_ 6 (v := ?_) (fun w => ?_) ?_
  rotate_left 1
  · (go_simp <;> with_reducible rfl)
  simp only [Act.put, S_]
  refine R_ 7 (fun K1 hK1 => ?_)
  go_simp
  refine hK1 _ _ ?_
  clear hK1 K1
  refine wpAny_done (by kernel_rfl) ?_ _
  generalize (y.setCell ⟨w.heap.size, 4, none⟩ (.int .i64 0)).setCell ⟨w.heap.size, 8, none⟩ (.slice (some a) k cap) = w4 at *
  clear f0 f1 f2 f3 f4 f5 f6 f7 f8 b0 b1 b2 b3 b4 b5 b6 b7 b8
  obtain ⟨_, b0, b1, b2, b3, b4, b5, b6, b7, b8⟩ := N4.out.all
  have E0 := Zb W4.out.1
  have K0 := Zb (show Zr w4 ks.dropLast (.slice (some a) k cap) from W4.out.2)
  have B0 := B4
  clear W4
  go_wp2_with fail
  have I0 := Zb (Below.refl w4.heap.size w4)
  refine (ZN (E0.out.bel I0.out) 7 ps nm t 0 z ob bi (some a) k cap).mono ?_
  intro e u0 hp
  rcases hp.both with ⟨h1, rfl, hb⟩ | ⟨h1, rfl, hb⟩
  rotate_left 1
  · exact ⟨rfl, Gt.no (by rw [← HX.out]; simp [TL.out, h1]) (Zc B0.out (Zc I0.out hb))⟩
  have I1 := Zb (Zc I0.out hb)
  have T0 := Zb h1
  clear hb hp h1 I0 b0 b1 b2 b3 b4 b5 b6 b7 b8
  go_wp2_with fail
  refine (each_showparam (E0.out.bel I1.out) 7 ps ⟨#[]⟩ t 0 z ob bi (some a) k cap ks.dropLast (Zr.bel I1.out _ _ K0.out) pmB (fun k _ => param_any k)).mono ?_
  intro e u1 hp
  rcases hp.both with ⟨h1, rfl, hb⟩ | ⟨h1, rfl, hb⟩
  rotate_left 1
  · exact ⟨rfl, Gt.no (by rw [← HX.out]; simp [TL.out, T0.out, h1]) (Zc B0.out (Zc I1.out hb))⟩
  have I2 := Zb (Zc I1.out hb)
  have T1 := Zb h1
  clear hb hp h1 I1
  go_wp2_with fail
  refine (Zl (ZE (E0.out.bel I2.out)) 7 ps ⟨#[]⟩ t 0 z ob bi none 0 0).mono ?_
  intro e u2 hp
  rcases hp.both with ⟨h1, rfl, hb⟩ | ⟨h1, rfl, hb⟩
  rotate_left 1
  · exact ⟨rfl, Gt.no (by rw [← HX.out]; simp [TL.out, T0.out, T1.out, h1]) (Zc B0.out (Zc I2.out hb))⟩
  have I3 := Zb (Zc I2.out hb)
  have T2 := Zb h1
  clear hb hp h1 I2
  go_wp2_with fail
  go_end0
  exact Gt.yes (by rw [← HX.out]; simp [TL.out, T0.out, T1.out, T2.out]) (Zc B0.out I3.out)
theorem decl_from {p : List Addr} (bl : Nd -> Bool) (n : Nd) (hB : ∀ k ∈ n.kids, ZR 108 p bl k) : ZR 40 p (dcr bl) n := by
 have HF := Zb (function_from bl n hB)
 intro w v he hv
 obtain ⟨kd, ps, nm, t, nz, z, ob, bi, ks⟩ := n
 unfold Zq at hv
 obtain ⟨s, rfl, hkk⟩ := hv
 obtain ⟨oa, cap, rfl, hsh⟩ := hkk.kid
 have hlen : ks.length <= 9223372036854775807 := by
  rcases hsh with rfl | ⟨a, _, h1, h2, _⟩
  · simp
  · unfold maxLen at h2
    omega
 obtain ⟨len, hln⟩ : ∃ len, len = ks.length := ⟨_, rfl⟩
 rw [← hln] at hkk hlen ⊢
 have BA := Zb (fun o => Zd w o)
 have EA := Zb (fun o => he.bel (Zd w o))
 have KA := Zb (fun o => Zr.bel (Zd w o) _ _ hkk)
 have HLN := Zb hln
 have HSH := Zb hsh
 obtain ⟨out, ho⟩ : ∃ out, (dcr bl) (.mk kd ps nm t nz z ob bi ks) = out := ⟨_, rfl⟩
 rw [ho]
 have HO := Zb ho
 clear ho he hkk hln hsh
 go_enter Tryz.func40, Tryz.ntmps40
 by_cases h2 : kd = 2
 · subst h2
   have HX := Zb (show (ZU nm && (typB t && ZH ⟨#[]⟩ 0 nz z ob bi len)) = out from (by rw [HLN.out]; simpa [dcr] using HO.out))
   clear HO
   go_wp2_with fail
   have N0 := Zb (show Nod (w.alloc (.cells #[.int .i64 2, .int .i64 ps, .string nm, .int .i64 t, .int .i64 nz, .int .i64 z, .int .i64 ob, .int .u64 bi, .slice oa len cap] 29)) w.heap.size (.int .i64 2) (.int .i64 ps) (.string nm) (.int .i64 t) (.int .i64 nz) (.int .i64 z) (.int .i64 ob) (.int .u64 bi) (.slice oa len cap) from B_ _ _)
   have B0 := Zb (BA.out (.cells #[.int .i64 2, .int .i64 ps, .string nm, .int .i64 t, .int .i64 nz, .int .i64 z, .int .i64 ob, .int .u64 bi, .slice oa len cap] 29))
   have E0 := Zb (EA.out (.cells #[.int .i64 2, .int .i64 ps, .string nm, .int .i64 t, .int .i64 nz, .int .i64 z, .int .i64 ob, .int .u64 bi, .slice oa len cap] 29))
   have K0 := Zb (KA.out (.cells #[.int .i64 2, .int .i64 ps, .string nm, .int .i64 t, .int .i64 nz, .int .i64 z, .int .i64 ob, .int .u64 bi, .slice oa len cap] 29))
   generalize w.alloc _ = w0 at *
   obtain ⟨_, b0, b1, b2, b3, b4, b5, b6, b7, b8⟩ := N0.out.all
   have I0 := Zb (Below.refl w0.heap.size w0)
   refine (ZN (E0.out.bel I0.out) 2 ps nm t nz z ob bi oa len cap).mono ?_
   intro e u0 hp
   rcases hp.both with ⟨h1, rfl, hb⟩ | ⟨h1, rfl, hb⟩
   rotate_left 1
   · exact ⟨rfl, Gt.no (by rw [← HX.out]; simp [h1]) (Zc B0.out (Zc I0.out hb))⟩
   have I1 := Zb (Zc I0.out hb)
   have T0 := Zb h1
   clear hb hp h1 I0 b0 b1 b2 b3 b4 b5 b6 b7 b8
   go_wp2_with fail
   refine (typed_any' (ZE (E0.out.bel I1.out)) 2 ps ⟨#[]⟩ t nz z ob bi oa len cap).mono ?_
   intro e u1 hp
   rcases hp.both with ⟨h1, rfl, hb⟩ | ⟨h1, rfl, hb⟩
   rotate_left 1
   · exact ⟨rfl, Gt.no (by rw [← HX.out]; simp [T0.out, h1]) (Zc B0.out (Zc I1.out hb))⟩
   have I2 := Zb (Zc I1.out hb)
   have T1 := Zb h1
   clear hb hp h1 I1
   go_wp2_with fail
   refine (Zl (ZE (E0.out.bel I2.out)) 2 ps ⟨#[]⟩ 0 nz z ob bi oa len cap).mono ?_
   intro e u2 hp
   rcases hp.both with ⟨h1, rfl, hb⟩ | ⟨h1, rfl, hb⟩
   rotate_left 1
   · exact ⟨rfl, Gt.no (by rw [← HX.out]; simp [T0.out, T1.out, h1]) (Zc B0.out (Zc I2.out hb))⟩
   have I3 := Zb (Zc I2.out hb)
   have T2 := Zb h1
   clear hb hp h1 I2
   go_wp2_with fail
   go_end0
   exact Gt.yes (by rw [← HX.out]; simp [T0.out, T1.out, T2.out]) (Zc B0.out I3.out)
 by_cases h3 : kd = 3
 · subst h3
   have HX := Zb (show (ZU nm && (typB t && (decide (0 <= nz) && ZH ⟨#[]⟩ 0 0 z ob bi len))) = out from (by rw [HLN.out]; simpa [dcr] using HO.out))
   clear HO
   go_wp2_with fail
   have N0 := Zb (show Nod (w.alloc (.cells #[.int .i64 3, .int .i64 ps, .string nm, .int .i64 t, .int .i64 nz, .int .i64 z, .int .i64 ob, .int .u64 bi, .slice oa len cap] 29)) w.heap.size (.int .i64 3) (.int .i64 ps) (.string nm) (.int .i64 t) (.int .i64 nz) (.int .i64 z) (.int .i64 ob) (.int .u64 bi) (.slice oa len cap) from B_ _ _)
   have B0 := Zb (BA.out (.cells #[.int .i64 3, .int .i64 ps, .string nm, .int .i64 t, .int .i64 nz, .int .i64 z, .int .i64 ob, .int .u64 bi, .slice oa len cap] 29))
   have E0 := Zb (EA.out (.cells #[.int .i64 3, .int .i64 ps, .string nm, .int .i64 t, .int .i64 nz, .int .i64 z, .int .i64 ob, .int .u64 bi, .slice oa len cap] 29))
   have K0 := Zb (KA.out (.cells #[.int .i64 3, .int .i64 ps, .string nm, .int .i64 t, .int .i64 nz, .int .i64 z, .int .i64 ob, .int .u64 bi, .slice oa len cap] 29))
   generalize w.alloc _ = w0 at *
   obtain ⟨_, b0, b1, b2, b3, b4, b5, b6, b7, b8⟩ := N0.out.all
   have I0 := Zb (Below.refl w0.heap.size w0)
   refine (ZN (E0.out.bel I0.out) 3 ps nm t nz z ob bi oa len cap).mono ?_
   intro e u0 hp
   rcases hp.both with ⟨h1, rfl, hb⟩ | ⟨h1, rfl, hb⟩
   rotate_left 1
   · exact ⟨rfl, Gt.no (by rw [← HX.out]; simp [h1]) (Zc B0.out (Zc I0.out hb))⟩
   have I1 := Zb (Zc I0.out hb)
   have T0 := Zb h1
   clear hb hp h1 I0 b0 b1 b2 b3 b4 b5 b6 b7 b8
   go_wp2_with fail
   refine (typed_any' (ZE (E0.out.bel I1.out)) 3 ps ⟨#[]⟩ t nz z ob bi oa len cap).mono ?_
   intro e u1 hp
   rcases hp.both with ⟨h1, rfl, hb⟩ | ⟨h1, rfl, hb⟩
   rotate_left 1
   · exact ⟨rfl, Gt.no (by rw [← HX.out]; simp [T0.out, h1]) (Zc B0.out (Zc I1.out hb))⟩
   have I2 := Zb (Zc I1.out hb)
   have T1 := Zb h1
   clear hb hp h1 I1
   go_wp2_with fail
   refine (counted_any (ZE (E0.out.bel I2.out)) 3 ps ⟨#[]⟩ 0 nz z ob bi oa len cap).mono ?_
   intro e u2 hp
   rcases hp.both with ⟨h1, rfl, hb⟩ | ⟨h1, rfl, hb⟩
   rotate_left 1
   · exact ⟨rfl, Gt.no (by rw [← HX.out]; simp [T0.out, T1.out, h1]) (Zc B0.out (Zc I2.out hb))⟩
   have I3 := Zb (Zc I2.out hb)
   have T2 := Zb h1
   clear hb hp h1 I2
   go_wp2_with fail
   refine (Zl (ZE (E0.out.bel I3.out)) 3 ps ⟨#[]⟩ 0 0 z ob bi oa len cap).mono ?_
   intro e u3 hp
   rcases hp.both with ⟨h1, rfl, hb⟩ | ⟨h1, rfl, hb⟩
   rotate_left 1
   · exact ⟨rfl, Gt.no (by rw [← HX.out]; simp [T0.out, T1.out, T2.out, h1]) (Zc B0.out (Zc I3.out hb))⟩
   have I4 := Zb (Zc I3.out hb)
   have T3 := Zb h1
   clear hb hp h1 I3
   go_wp2_with fail
   go_end0
   exact Gt.yes (by rw [← HX.out]; simp [T0.out, T1.out, T2.out, T3.out]) (Zc B0.out I4.out)
 by_cases h5 : kd = 5
 · subst h5
   have HX := Zb (show (ZU nm && (typB t && (decide (0 <= nz) && ZH ⟨#[]⟩ 0 0 z ob bi len))) = out from (by rw [HLN.out]; simpa [dcr] using HO.out))
   clear HO
   go_wp2_with fail
   have N0 := Zb (show Nod (w.alloc (.cells #[.int .i64 5, .int .i64 ps, .string nm, .int .i64 t, .int .i64 nz, .int .i64 z, .int .i64 ob, .int .u64 bi, .slice oa len cap] 29)) w.heap.size (.int .i64 5) (.int .i64 ps) (.string nm) (.int .i64 t) (.int .i64 nz) (.int .i64 z) (.int .i64 ob) (.int .u64 bi) (.slice oa len cap) from B_ _ _)
   have B0 := Zb (BA.out (.cells #[.int .i64 5, .int .i64 ps, .string nm, .int .i64 t, .int .i64 nz, .int .i64 z, .int .i64 ob, .int .u64 bi, .slice oa len cap] 29))
   have E0 := Zb (EA.out (.cells #[.int .i64 5, .int .i64 ps, .string nm, .int .i64 t, .int .i64 nz, .int .i64 z, .int .i64 ob, .int .u64 bi, .slice oa len cap] 29))
   have K0 := Zb (KA.out (.cells #[.int .i64 5, .int .i64 ps, .string nm, .int .i64 t, .int .i64 nz, .int .i64 z, .int .i64 ob, .int .u64 bi, .slice oa len cap] 29))
   generalize w.alloc _ = w0 at *
   obtain ⟨_, b0, b1, b2, b3, b4, b5, b6, b7, b8⟩ := N0.out.all
   have I0 := Zb (Below.refl w0.heap.size w0)
   refine (ZN (E0.out.bel I0.out) 5 ps nm t nz z ob bi oa len cap).mono ?_
   intro e u0 hp
   rcases hp.both with ⟨h1, rfl, hb⟩ | ⟨h1, rfl, hb⟩
   rotate_left 1
   · exact ⟨rfl, Gt.no (by rw [← HX.out]; simp [h1]) (Zc B0.out (Zc I0.out hb))⟩
   have I1 := Zb (Zc I0.out hb)
   have T0 := Zb h1
   clear hb hp h1 I0 b0 b1 b2 b3 b4 b5 b6 b7 b8
   go_wp2_with fail
   refine (typed_any' (ZE (E0.out.bel I1.out)) 5 ps ⟨#[]⟩ t nz z ob bi oa len cap).mono ?_
   intro e u1 hp
   rcases hp.both with ⟨h1, rfl, hb⟩ | ⟨h1, rfl, hb⟩
   rotate_left 1
   · exact ⟨rfl, Gt.no (by rw [← HX.out]; simp [T0.out, h1]) (Zc B0.out (Zc I1.out hb))⟩
   have I2 := Zb (Zc I1.out hb)
   have T1 := Zb h1
   clear hb hp h1 I1
   go_wp2_with fail
   refine (counted_any (ZE (E0.out.bel I2.out)) 5 ps ⟨#[]⟩ 0 nz z ob bi oa len cap).mono ?_
   intro e u2 hp
   rcases hp.both with ⟨h1, rfl, hb⟩ | ⟨h1, rfl, hb⟩
   rotate_left 1
   · exact ⟨rfl, Gt.no (by rw [← HX.out]; simp [T0.out, T1.out, h1]) (Zc B0.out (Zc I2.out hb))⟩
   have I3 := Zb (Zc I2.out hb)
   have T2 := Zb h1
   clear hb hp h1 I2
   go_wp2_with fail
   refine (Zl (ZE (E0.out.bel I3.out)) 5 ps ⟨#[]⟩ 0 0 z ob bi oa len cap).mono ?_
   intro e u3 hp
   rcases hp.both with ⟨h1, rfl, hb⟩ | ⟨h1, rfl, hb⟩
   rotate_left 1
   · exact ⟨rfl, Gt.no (by rw [← HX.out]; simp [T0.out, T1.out, T2.out, h1]) (Zc B0.out (Zc I3.out hb))⟩
   have I4 := Zb (Zc I3.out hb)
   have T3 := Zb h1
   clear hb hp h1 I3
   go_wp2_with fail
   go_end0
   exact Gt.yes (by rw [← HX.out]; simp [T0.out, T1.out, T2.out, T3.out]) (Zc B0.out I4.out)
 by_cases h4 : kd = 4
 · subst h4
   have HX := Zb (show (ZU nm && ZH ⟨#[]⟩ t nz z ob bi len) = out from (by rw [HLN.out]; simpa [dcr] using HO.out))
   clear HO
   go_wp2_with fail
   have N0 := Zb (show Nod (w.alloc (.cells #[.int .i64 4, .int .i64 ps, .string nm, .int .i64 t, .int .i64 nz, .int .i64 z, .int .i64 ob, .int .u64 bi, .slice oa len cap] 29)) w.heap.size (.int .i64 4) (.int .i64 ps) (.string nm) (.int .i64 t) (.int .i64 nz) (.int .i64 z) (.int .i64 ob) (.int .u64 bi) (.slice oa len cap) from B_ _ _)
   have B0 := Zb (BA.out (.cells #[.int .i64 4, .int .i64 ps, .string nm, .int .i64 t, .int .i64 nz, .int .i64 z, .int .i64 ob, .int .u64 bi, .slice oa len cap] 29))
   have E0 := Zb (EA.out (.cells #[.int .i64 4, .int .i64 ps, .string nm, .int .i64 t, .int .i64 nz, .int .i64 z, .int .i64 ob, .int .u64 bi, .slice oa len cap] 29))
   have K0 := Zb (KA.out (.cells #[.int .i64 4, .int .i64 ps, .string nm, .int .i64 t, .int .i64 nz, .int .i64 z, .int .i64 ob, .int .u64 bi, .slice oa len cap] 29))
   generalize w.alloc _ = w0 at *
   obtain ⟨_, b0, b1, b2, b3, b4, b5, b6, b7, b8⟩ := N0.out.all
   have I0 := Zb (Below.refl w0.heap.size w0)
   refine (ZN (E0.out.bel I0.out) 4 ps nm t nz z ob bi oa len cap).mono ?_
   intro e u0 hp
   rcases hp.both with ⟨h1, rfl, hb⟩ | ⟨h1, rfl, hb⟩
   rotate_left 1
   · exact ⟨rfl, Gt.no (by rw [← HX.out]; simp [h1]) (Zc B0.out (Zc I0.out hb))⟩
   have I1 := Zb (Zc I0.out hb)
   have T0 := Zb h1
   clear hb hp h1 I0 b0 b1 b2 b3 b4 b5 b6 b7 b8
   go_wp2_with fail
   refine (Zl (ZE (E0.out.bel I1.out)) 4 ps ⟨#[]⟩ t nz z ob bi oa len cap).mono ?_
   intro e u1 hp
   rcases hp.both with ⟨h1, rfl, hb⟩ | ⟨h1, rfl, hb⟩
   rotate_left 1
   · exact ⟨rfl, Gt.no (by rw [← HX.out]; simp [T0.out, h1]) (Zc B0.out (Zc I1.out hb))⟩
   have I2 := Zb (Zc I1.out hb)
   have T1 := Zb h1
   clear hb hp h1 I1
   go_wp2_with fail
   go_end0
   exact Gt.yes (by rw [← HX.out]; simp [T0.out, T1.out]) (Zc B0.out I2.out)
 by_cases h6 : kd = 6
 · subst h6
   have HX := Zb (show (ZU nm && ZH ⟨#[]⟩ t nz z ob bi len) = out from (by rw [HLN.out]; simpa [dcr] using HO.out))
   clear HO
   go_wp2_with fail
   have N0 := Zb (show Nod (w.alloc (.cells #[.int .i64 6, .int .i64 ps, .string nm, .int .i64 t, .int .i64 nz, .int .i64 z, .int .i64 ob, .int .u64 bi, .slice oa len cap] 29)) w.heap.size (.int .i64 6) (.int .i64 ps) (.string nm) (.int .i64 t) (.int .i64 nz) (.int .i64 z) (.int .i64 ob) (.int .u64 bi) (.slice oa len cap) from B_ _ _)
   have B0 := Zb (BA.out (.cells #[.int .i64 6, .int .i64 ps, .string nm, .int .i64 t, .int .i64 nz, .int .i64 z, .int .i64 ob, .int .u64 bi, .slice oa len cap] 29))
   have E0 := Zb (EA.out (.cells #[.int .i64 6, .int .i64 ps, .string nm, .int .i64 t, .int .i64 nz, .int .i64 z, .int .i64 ob, .int .u64 bi, .slice oa len cap] 29))
   have K0 := Zb (KA.out (.cells #[.int .i64 6, .int .i64 ps, .string nm, .int .i64 t, .int .i64 nz, .int .i64 z, .int .i64 ob, .int .u64 bi, .slice oa len cap] 29))
   generalize w.alloc _ = w0 at *
   obtain ⟨_, b0, b1, b2, b3, b4, b5, b6, b7, b8⟩ := N0.out.all
   have I0 := Zb (Below.refl w0.heap.size w0)
   refine (ZN (E0.out.bel I0.out) 6 ps nm t nz z ob bi oa len cap).mono ?_
   intro e u0 hp
   rcases hp.both with ⟨h1, rfl, hb⟩ | ⟨h1, rfl, hb⟩
   rotate_left 1
   · exact ⟨rfl, Gt.no (by rw [← HX.out]; simp [h1]) (Zc B0.out (Zc I0.out hb))⟩
   have I1 := Zb (Zc I0.out hb)
   have T0 := Zb h1
   clear hb hp h1 I0 b0 b1 b2 b3 b4 b5 b6 b7 b8
   go_wp2_with fail
   refine (Zl (ZE (E0.out.bel I1.out)) 6 ps ⟨#[]⟩ t nz z ob bi oa len cap).mono ?_
   intro e u1 hp
   rcases hp.both with ⟨h1, rfl, hb⟩ | ⟨h1, rfl, hb⟩
   rotate_left 1
   · exact ⟨rfl, Gt.no (by rw [← HX.out]; simp [T0.out, h1]) (Zc B0.out (Zc I1.out hb))⟩
   have I2 := Zb (Zc I1.out hb)
   have T1 := Zb h1
   clear hb hp h1 I1
   go_wp2_with fail
   go_end0
   exact Gt.yes (by rw [← HX.out]; simp [T0.out, T1.out]) (Zc B0.out I2.out)
 have HX := Zb (show fnr bl (.mk kd ps nm t nz z ob bi ks) = out from (by simpa [dcr, h2, h3, h5, h4, h6] using HO.out))
 clear HO
 go_wp2_with fail
 have N0 := Zb (show Nod (w.alloc (.cells #[.int .i64 kd, .int .i64 ps, .string nm, .int .i64 t, .int .i64 nz, .int .i64 z, .int .i64 ob, .int .u64 bi, .slice oa len cap] 29)) w.heap.size (.int .i64 kd) (.int .i64 ps) (.string nm) (.int .i64 t) (.int .i64 nz) (.int .i64 z) (.int .i64 ob) (.int .u64 bi) (.slice oa len cap) from B_ _ _)
 have B0 := Zb (BA.out (.cells #[.int .i64 kd, .int .i64 ps, .string nm, .int .i64 t, .int .i64 nz, .int .i64 z, .int .i64 ob, .int .u64 bi, .slice oa len cap] 29))
 have E0 := Zb (EA.out (.cells #[.int .i64 kd, .int .i64 ps, .string nm, .int .i64 t, .int .i64 nz, .int .i64 z, .int .i64 ob, .int .u64 bi, .slice oa len cap] 29))
 have K0 := Zb (KA.out (.cells #[.int .i64 kd, .int .i64 ps, .string nm, .int .i64 t, .int .i64 nz, .int .i64 z, .int .i64 ob, .int .u64 bi, .slice oa len cap] 29))
 generalize w.alloc _ = w0 at *
 obtain ⟨_, b0, b1, b2, b3, b4, b5, b6, b7, b8⟩ := N0.out.all
 refine (HF.out w0 (.agg #[.int .i64 kd, .int .i64 ps, .string nm, .int .i64 t, .int .i64 nz, .int .i64 z, .int .i64 ob, .int .u64 bi, .slice oa len cap]) E0.out (by unfold Zq; exact ⟨_, rfl, K0.out⟩)).mono ?_
 intro e u hp
 rcases hp.both with ⟨h1, rfl, hb⟩ | ⟨h1, rfl, hb⟩
 rotate_left 1
 · exact ⟨rfl, Gt.no (by rw [← HX.out]; exact h1) (Zc B0.out hb)⟩
 have U := Zb (And.intro h1 (Zc B0.out hb))
 clear hp h1 hb b0 b1 b2 b3 b4 b5 b6 b7 b8
 go_wp2_with fail
 go_end0
 exact Gt.yes (by rw [← HX.out]; exact U.out.1) U.out.2
theorem program_rule {p : List Addr} (m : Nat) (n : Nd) (h : szN n < m + 1) : ZR 24 p (prF m) n :=
 program_from _ n (fun d hd => decl_from _ d (fun b hb => block_rule m b (by have h1 := sz_kid hd; have h2 := sz_kid hb; omega)))
theorem assert_err (p : List Addr) (w : World) : (Instr.typeAssert (errV p 8) 20 24 false).run Tryz.prog w = .ok (errV p 8) w := by
 kernel_rfl
theorem catch_idle (a : Addr) (w : World) :
 CallsD Tryz.prog 36 #[.pointer (some a)] .returning w fun e u' w' => e = .returned (.tuple #[]) /\ u' = .returning /\ w' = w := by
 refine callsD_of_wpS Tryz.func36 rfl fun c₀ cs hu => ?_
 apply wpS_seq
 apply wpS_region
 simp [wpOpsS, go_sem, recoverD, hu, Tryz.ntmps36, Exit.thenS]
 apply wpS_seq
 refine wpS_of_wp ?_
 go_wp2_with fail
 refine wpS_cond (t := false) (by simp [Act.eval, Array.replicate]) ?_
 simp only [Bool.false_eq_true, if_false]
 refine wpS_of_wp (wp_skip ?_)
 cases c₀
 simp_all [bodyPostS, results, Tryz.results36]
def One (w : World) (g : Nat) (v : Value) : Prop := w.heap[g]? = some (.cells #[v] 24 (0, 0))
theorem catch_stop (b : Nat) (z0 : Value) (p : List Addr) (w : World) (hB : One w b z0) :
 CallsD Tryz.prog 36 #[.pointer (some ⟨b, 0, none⟩)] (.panicking [{ v := errV p 8, recovered := false }]) w fun e u' w' =>
  e = .returned (.tuple #[]) /\ u' = .panicking [{ v := errV p 8, recovered := true }] /\ One w' b (errV p 8) /\ ∀ B, B <= b -> Below B w w' := by
 have g1 := Zi hB 0
 have d1 := Zf hB 0 _ rfl
 have ha := fun w => assert_err p w
 unfold errV at *
 refine callsD_of_wpS Tryz.func36 rfl fun c₀ cs hu => ?_
 apply wpS_seq
 apply wpS_region
 simp [wpOpsS, go_sem, recoverD, hu, Tryz.ntmps36, Exit.thenS]
 apply wpS_seq
 refine wpS_of_wp ?_
 go_wp2_with fail
 refine wpS_cond (t := true) (by simp [Act.eval, Array.replicate]) ?_
 simp only [if_true]
 refine wpS_of_wp ?_
 change Code.wp _ _ _ { tmps := #[.pointer (some ⟨b, 0, none⟩), .iface 231 (.pointer (some (adr p 8))), .iface 231 (.pointer (some (adr p 8))), .iface 231 (.pointer (some (adr p 8))), .bool true, undef, undef], defers := [] } _
 obtain ⟨k1, t1⟩ := Zs hB 0 (.iface 231 (.pointer (some (adr p 8))))
 have K1 := Zb k1
 have T1 := Zb t1
 have HLT := Zb (Ze hB)
 clear k1 t1
 go_wp2_with fail
 refine ⟨rfl, _, rfl, _, results_none rfl _ _ _, rfl, rfl, K1.out, fun B h1 => T1.out.bel h1 (Nat.le_trans h1 (Nat.le_of_lt HLT.out))⟩
theorem results_follows {tmps : Array Value} {b : Nat} {w : World} {v : Value} (h : tmps.getD 4 undef = .pointer (some ⟨b, 0, none⟩)) (hB : One w b v) :
 (results Tryz.f23 tmps).run Tryz.prog w = .ok v w := by
 have h' : tmps[4]?.getD undef = .pointer (some ⟨b, 0, none⟩) := by simpa using h
 have d1 := Zf hB 0 _ rfl
 simp [results, Tryz.results23, h', go_sem, d1]
theorem door_stop {R : Ending -> World -> Prop} {tmps : Array Value} {b : Nat} {w : World} {z0 : Value} {p : List Addr} (h : tmps.getD 4 undef = .pointer (some ⟨b, 0, none⟩)) (hB : One w b z0)
 (hR : ∀ w', (∀ B, B <= b -> Below B w w') -> R (.returned (errV p 8)) w') :
 Leaves Tryz.prog Tryz.f23 tmps R [{ target := .fn (.func 36) #[.pointer (some ⟨b, 0, none⟩)], args := #[] }] (.panicking [{ v := errV p 8, recovered := false }]) w := by
 refine leaves_cons (f := 36) (args := #[.pointer (some ⟨b, 0, none⟩)]) (by simp) (by simp [go_sem]) ?_
 refine (catch_stop b z0 p w hB).mono ?_
 rintro e u' w' ⟨rfl, rfl, k1, hb⟩
 exact ⟨_, results_follows h k1, hR w' hb⟩
theorem door_end {R : Ending -> World -> Prop} {tmps : Array Value} {b : Nat} {w : World} {v : Value} (h : tmps.getD 4 undef = .pointer (some ⟨b, 0, none⟩)) (hB : One w b v) (hR : R (.returned v) w) :
 Leaves Tryz.prog Tryz.f23 tmps R [{ target := .fn (.func 36) #[.pointer (some ⟨b, 0, none⟩)], args := #[] }] .returning w := by
 refine leaves_cons (f := 36) (args := #[.pointer (some ⟨b, 0, none⟩)]) (by simp) (by simp [go_sem]) ?_
 refine (catch_idle _ w).mono ?_
 rintro e u' w' ⟨rfl, rfl, rfl⟩
 exact ⟨_, results_follows h hB, hR⟩
def okV (p : List Addr) (ok : Bool) : Value := if ok = true then .nilIface else errV p 8
theorem follows_showprogram {w : World} {p : List Addr} (he : Ev w p) (n : Nd) (v : Value) (hv : Zq w n v) (ok : Nd -> Bool) (hr : ZR 24 p ok n) :
 Calls Tryz.prog 23 #[v, .func (.func 24) #[] #[]] w fun e w' => e = .returned (okV p (ok n)) /\ Below w.heap.size w w' := by
 obtain ⟨out, ho⟩ : ∃ out, ok n = out := ⟨_, rfl⟩
 rw [ho]
 have HO := Zb ho
 clear ho
 obtain ⟨kd, ps, nm, t, nz, z, ob, bi, ks⟩ := n
 unfold Zq at hv
 obtain ⟨s, rfl, hkk⟩ := hv
 obtain ⟨oa, cap, rfl, _⟩ := hkk.kid
 obtain ⟨len, hln⟩ : ∃ len, len = ks.length := ⟨_, rfl⟩
 rw [← hln] at hkk ⊢
 have hmf : ∀ (fn : Fn) (first cap : Array Value) (w : World), (Instr.makeFunc fn first cap).run Tryz.prog w = .ok (.func fn first cap) w := fun _ _ _ _ => rfl
 have hb1 := Zd w (.cells #[.int .i64 kd, .int .i64 ps, .string nm, .int .i64 t, .int .i64 nz, .int .i64 z, .int .i64 ob, .int .u64 bi, .slice oa len cap] 29)
 have s1 : (w.alloc (.cells #[.int .i64 kd, .int .i64 ps, .string nm, .int .i64 t, .int .i64 nz, .int .i64 z, .int .i64 ob, .int .u64 bi, .slice oa len cap] 29)).heap.size = w.heap.size + 1 := by simp
 have hb2 := Zd (w.alloc (.cells #[.int .i64 kd, .int .i64 ps, .string nm, .int .i64 t, .int .i64 nz, .int .i64 z, .int .i64 ob, .int .u64 bi, .slice oa len cap] 29)) (.cells #[.nilIface] 24)
 have k2 : One ((w.alloc (.cells #[.int .i64 kd, .int .i64 ps, .string nm, .int .i64 t, .int .i64 nz, .int .i64 z, .int .i64 ob, .int .u64 bi, .slice oa len cap] 29)).alloc (.cells #[.nilIface] 24)) (w.alloc (.cells #[.int .i64 kd, .int .i64 ps, .string nm, .int .i64 t, .int .i64 nz, .int .i64 z, .int .i64 ob, .int .u64 bi, .slice oa len cap] 29)).heap.size .nilIface := B_ _ _
 rw [s1] at k2
 have B0 := Zb (Zc hb1 hb2)
 have K0 := Zb k2
 have N0 := Zb (show Nod ((w.alloc (.cells #[.int .i64 kd, .int .i64 ps, .string nm, .int .i64 t, .int .i64 nz, .int .i64 z, .int .i64 ob, .int .u64 bi, .slice oa len cap] 29)).alloc (.cells #[.nilIface] 24)) w.heap.size (.int .i64 kd) (.int .i64 ps) (.string nm) (.int .i64 t) (.int .i64 nz) (.int .i64 z) (.int .i64 ob) (.int .u64 bi) (.slice oa len cap) from (hb2.block _ (by rw [s1]; omega)).trans (B_ w _))
 have RR := Zb (hr _ (.agg #[.int .i64 kd, .int .i64 ps, .string nm, .int .i64 t, .int .i64 nz, .int .i64 z, .int .i64 ob, .int .u64 bi, .slice oa len cap]) (he.bel B0.out) (by unfold Zq; exact ⟨_, rfl, Zr.bel B0.out _ _ hkk⟩))
 rw [HO.out] at RR
 clear he hkk hln hb1 hb2 s1 k2 hr HO
 go_enter_defers Tryz.func23, Tryz.ntmps23
 go_wp2_with fail
 generalize (w.alloc _).alloc _ = w0 at *
 obtain ⟨_, b0, b1, b2, b3, b4, b5, b6, b7, b8⟩ := N0.out.all
 go_wp2_with fail
 refine RR.out.mono ?_
 intro e w1 hp
 rcases hp.both with ⟨rfl, rfl, hb⟩ | ⟨rfl, rfl, hb⟩
 · have k1 : One w1 (w.heap.size + 1) .nilIface := (hb.block _ (Ze K0.out)).trans K0.out
   have c1 := Zf k1 0 _ rfl
   have f1 := Zi k1 0
   obtain ⟨k2, t2⟩ := Zs k1 0 .nilIface
   have K2 := Zb (show One _ (w.heap.size + 1) .nilIface from k2)
   have bb := Zc B0.out hb
   have B2 := Zb (bb.trans (t2.bel (Nat.le_succ _) bb.size))
   clear k2 t2 k1 bb hb hp RR b0 b1 b2 b3 b4 b5 b6 b7 b8
   go_wp2_with fail
   exact door_end rfl K2.out ⟨rfl, B2.out⟩
 · refine door_stop (p := p) rfl (show One w1 (w.heap.size + 1) .nilIface from (hb.block _ (Ze K0.out)).trans K0.out) (fun w' hb2 => ?_)
   have bb := Zc B0.out hb
   exact ⟨rfl, bb.trans (hb2 _ (Nat.le_succ _))⟩
theorem follows_showexpr {w : World} {p : List Addr} (he : Ev w p) (n : Nd) (v : Value) (hv : Zq w n v) (ok : Nd -> Bool) (hr : ZR 33 p ok n) :
 Calls Tryz.prog 23 #[v, .func (.func 33) #[] #[]] w fun e w' => e = .returned (okV p (ok n)) /\ Below w.heap.size w w' := by
 obtain ⟨out, ho⟩ : ∃ out, ok n = out := ⟨_, rfl⟩
 rw [ho]
 have HO := Zb ho
 clear ho
 obtain ⟨kd, ps, nm, t, nz, z, ob, bi, ks⟩ := n
 unfold Zq at hv
 obtain ⟨s, rfl, hkk⟩ := hv
 obtain ⟨oa, cap, rfl, _⟩ := hkk.kid
 obtain ⟨len, hln⟩ : ∃ len, len = ks.length := ⟨_, rfl⟩
 rw [← hln] at hkk ⊢
 have hmf : ∀ (fn : Fn) (first cap : Array Value) (w : World), (Instr.makeFunc fn first cap).run Tryz.prog w = .ok (.func fn first cap) w := fun _ _ _ _ => rfl
 have hb1 := Zd w (.cells #[.int .i64 kd, .int .i64 ps, .string nm, .int .i64 t, .int .i64 nz, .int .i64 z, .int .i64 ob, .int .u64 bi, .slice oa len cap] 29)
 have s1 : (w.alloc (.cells #[.int .i64 kd, .int .i64 ps, .string nm, .int .i64 t, .int .i64 nz, .int .i64 z, .int .i64 ob, .int .u64 bi, .slice oa len cap] 29)).heap.size = w.heap.size + 1 := by simp
 have hb2 := Zd (w.alloc (.cells #[.int .i64 kd, .int .i64 ps, .string nm, .int .i64 t, .int .i64 nz, .int .i64 z, .int .i64 ob, .int .u64 bi, .slice oa len cap] 29)) (.cells #[.nilIface] 24)
 have k2 : One ((w.alloc (.cells #[.int .i64 kd, .int .i64 ps, .string nm, .int .i64 t, .int .i64 nz, .int .i64 z, .int .i64 ob, .int .u64 bi, .slice oa len cap] 29)).alloc (.cells #[.nilIface] 24)) (w.alloc (.cells #[.int .i64 kd, .int .i64 ps, .string nm, .int .i64 t, .int .i64 nz, .int .i64 z, .int .i64 ob, .int .u64 bi, .slice oa len cap] 29)).heap.size .nilIface := B_ _ _
 rw [s1] at k2
 have B0 := Zb (Zc hb1 hb2)
 have K0 := Zb k2
 have N0 := Zb (show Nod ((w.alloc (.cells #[.int .i64 kd, .int .i64 ps, .string nm, .int .i64 t, .int .i64 nz, .int .i64 z, .int .i64 ob, .int .u64 bi, .slice oa len cap] 29)).alloc (.cells #[.nilIface] 24)) w.heap.size (.int .i64 kd) (.int .i64 ps) (.string nm) (.int .i64 t) (.int .i64 nz) (.int .i64 z) (.int .i64 ob) (.int .u64 bi) (.slice oa len cap) from (hb2.block _ (by rw [s1]; omega)).trans (B_ w _))
 have RR := Zb (hr _ (.agg #[.int .i64 kd, .int .i64 ps, .string nm, .int .i64 t, .int .i64 nz, .int .i64 z, .int .i64 ob, .int .u64 bi, .slice oa len cap]) (he.bel B0.out) (by unfold Zq; exact ⟨_, rfl, Zr.bel B0.out _ _ hkk⟩))
 rw [HO.out] at RR
 clear he hkk hln hb1 hb2 s1 k2 hr HO
 go_enter_defers Tryz.func23, Tryz.ntmps23
 go_wp2_with fail
 generalize (w.alloc _).alloc _ = w0 at *
 obtain ⟨_, b0, b1, b2, b3, b4, b5, b6, b7, b8⟩ := N0.out.all
 go_wp2_with fail
 refine RR.out.mono ?_
 intro e w1 hp
 rcases hp.both with ⟨rfl, rfl, hb⟩ | ⟨rfl, rfl, hb⟩
 · have k1 : One w1 (w.heap.size + 1) .nilIface := (hb.block _ (Ze K0.out)).trans K0.out
   have c1 := Zf k1 0 _ rfl
   have f1 := Zi k1 0
   obtain ⟨k2, t2⟩ := Zs k1 0 .nilIface
   have K2 := Zb (show One _ (w.heap.size + 1) .nilIface from k2)
   have bb := Zc B0.out hb
   have B2 := Zb (bb.trans (t2.bel (Nat.le_succ _) bb.size))
   clear k2 t2 k1 bb hb hp RR b0 b1 b2 b3 b4 b5 b6 b7 b8
   go_wp2_with fail
   exact door_end rfl K2.out ⟨rfl, B2.out⟩
 · refine door_stop (p := p) rfl (show One w1 (w.heap.size + 1) .nilIface from (hb.block _ (Ze K0.out)).trans K0.out) (fun w' hb2 => ?_)
   have bb := Zc B0.out hb
   exact ⟨rfl, bb.trans (hb2 _ (Nat.le_succ _))⟩
theorem check_any {w : World} {p : List Addr} (he : Ev w p) (m : Nat) (n : Nd) (hm : szN n < m + 1) (v : Value) (hv : Zq w n v) :
 Calls Tryz.prog 10 #[v] w fun e w' => e = .returned (okV p (prF m n)) /\ Below w.heap.size w w' := by
 have HR := Zb (program_rule (p := p) m n hm)
 obtain ⟨out, ho⟩ : ∃ out, okV p (prF m n) = out := ⟨_, rfl⟩
 rw [ho]
 have HO := Zb ho
 obtain ⟨kd, ps, nm, t, nz, z, ob, bi, ks⟩ := n
 unfold Zq at hv
 obtain ⟨s, rfl, hkk⟩ := hv
 obtain ⟨oa, cap, rfl, _⟩ := hkk.kid
 obtain ⟨len, hln⟩ : ∃ len, len = ks.length := ⟨_, rfl⟩
 rw [← hln] at hkk ⊢
 have hb1 := Zd w (.cells #[.int .i64 kd, .int .i64 ps, .string nm, .int .i64 t, .int .i64 nz, .int .i64 z, .int .i64 ob, .int .u64 bi, .slice oa len cap] 29)
 have RR := Zb (follows_showprogram (he.bel hb1) _ (.agg #[.int .i64 kd, .int .i64 ps, .string nm, .int .i64 t, .int .i64 nz, .int .i64 z, .int .i64 ob, .int .u64 bi, .slice oa len cap]) (by unfold Zq; exact ⟨_, rfl, Zr.bel hb1 _ _ hkk⟩) _ HR.out)
 rw [ho] at RR
 have B0 := Zb hb1
 clear he hkk hln hb1 ho HR hm
 go_enter Tryz.func10, Tryz.ntmps10
 go_wp2_with fail
 refine RR.out.mono ?_
 rintro e w1 ⟨rfl, hb⟩
 have B1 := Zb (Zc B0.out hb)
 clear hb RR
 go_wp2_with fail
 go_ret
 exact ⟨rfl, B1.out⟩
theorem info_byte : (Tryz.prog.info? 5).map (fun i => (i.zero, i.size, i.bytes)) = some (some (.int .u8 0), 1, 1) := by kernel_rfl
theorem size_bld : (Tryz.prog.info? 103).map (·.size) = some 2 := by kernel_rfl
theorem lies_bld : liesAt Tryz.prog Tryz.prog.depth 106 (5 / Tryz.prog.cellsOf 106) 0 103 1 = true := by kernel_rfl
theorem cells_byte : Tryz.prog.cellsOf 5 = 1 := by kernel_rfl
structure Pg (w : World) (B g : Nat) (bo : Option Nat) (l : List UInt8) (ms mt : Value) (k : Int) : Prop where
 at_ : ∃ ad v, w.heap[g]? = some (.cells #[ad, v, ms, mt, .int .i64 k] 106 (0, 0)) /\ (ad = .pointer none ∨ ad = .pointer (some ⟨g, 0, none⟩)) /\ w.ownsRow B 5 1 v l.length (Lib.byteCells l) /\ v.ownBlock = bo
 low : B <= g
 big : B <= w.heap.size
theorem Pg.lt {w : World} {B g : Nat} {bo : Option Nat} {l : List UInt8} {ms mt : Value} {k : Int} (h : Pg w B g bo l ms mt k) : g < w.heap.size := by
 obtain ⟨_, _, h1, _⟩ := h.at_
 exact Ze h1
theorem own_tn {w w' : World} {B : Nat} {T : TypeId} {n : Nat} {v : Value} {len : Nat} {xs : List Value} (h : w.ownsRow B T n v len xs) {g : Nat} (t : Tn g w w') (hne : v.ownBlock ≠ some g) : w'.ownsRow B T n v len xs := by
 obtain ⟨hl, h0 | ⟨gb, cap, cur, rfl, hB, hg, r⟩⟩ := h
 · exact ⟨hl, .inl h0⟩
 · exact ⟨hl, .inr ⟨gb, cap, cur, rfl, hB, (t.blk gb (Ze hg) (fun e => hne (by rw [e]; rfl))).trans hg, r⟩⟩
theorem own_bel {w w' : World} {B : Nat} {T : TypeId} {n : Nat} {v : Value} {len : Nat} {xs : List Value} (h : w.ownsRow B T n v len xs) (hb : Below w.heap.size w w') : w'.ownsRow B T n v len xs := by
 obtain ⟨hl, h0 | ⟨gb, cap, cur, rfl, hB, hg, r⟩⟩ := h
 · exact ⟨hl, .inl h0⟩
 · exact ⟨hl, .inr ⟨gb, cap, cur, rfl, hB, (hb.block gb (Ze hg)).trans hg, r⟩⟩
theorem own_blk {w : World} {B : Nat} {T : TypeId} {n : Nat} {v : Value} {len : Nat} {xs : List Value} (h : w.ownsRow B T n v len xs) {x : Nat} (hx : v.ownBlock = some x) : B <= x /\ x < w.heap.size := by
 obtain ⟨hl, h0 | ⟨gb, cap, cur, rfl, hB, hg, r⟩⟩ := h
 · rw [h0.1] at hx
   cases hx
 · have e : gb = x := Option.some.inj hx
   subst e
   exact ⟨hB, Ze hg⟩
theorem own_ne {w : World} {B : Nat} {n : Nat} {v : Value} {len : Nat} {xs : List Value} (h : w.ownsRow B 5 n v len xs) {g : Nat} {c : Array Value} (hg : w.heap[g]? = some (.cells c 106 (0, 0))) : v.ownBlock ≠ some g := by
 obtain ⟨hl, h0 | ⟨gb, cap, cur, rfl, hB, hgb, r⟩⟩ := h
 · rw [h0.1]
   exact fun e => by cases e
 · intro e
   have e' : gb = g := Option.some.inj e
   rw [e', hg] at hgb
   have := Option.some.inj hgb
   injection this with _ h2 _
   exact absurd h2 (by decide)
theorem Pg.bel {w w' : World} {B g : Nat} {bo : Option Nat} {l : List UInt8} {ms mt : Value} {k : Int} (h : Pg w B g bo l ms mt k) (hb : Below w.heap.size w w') : Pg w' B g bo l ms mt k := by
 obtain ⟨ad, v, h1, h2, h3, h4⟩ := h.at_
 exact ⟨⟨ad, v, (hb.block g h.lt).trans h1, h2, own_bel h3 hb, h4⟩, h.low, Nat.le_trans h.big hb.size⟩
structure Fx (g : Nat) (bo : Option Nat) (w : World) (bo' : Option Nat) (w' : World) : Prop where
 os : w'.os = w.os
 tape : w'.tape = w.tape
 output : w'.output = w.output
 size : w.heap.size <= w'.heap.size
 blk : ∀ k, k < w.heap.size -> k ≠ g -> bo ≠ some k -> w'.heap[k]? = w.heap[k]?
 buf : bo' = bo ∨ ∃ x, bo' = some x /\ w.heap.size <= x
theorem Fx.ne {g : Nat} {bo bo' : Option Nat} {w w' : World} (h : Fx g bo w bo' w') {q : Nat} (hq : q < w.heap.size) (hb : bo ≠ some q) : bo' ≠ some q := by
 rcases h.buf with e | ⟨x, e, hx⟩
 · rw [e]; exact hb
 · rw [e]
   intro e2
   have := Option.some.inj e2
   omega
theorem Fx.trans {g : Nat} {bo bo' bo'' : Option Nat} {w w' w'' : World} (h : Fx g bo w bo' w') (k : Fx g bo' w' bo'' w'') : Fx g bo w bo'' w'' := by
 refine ⟨k.os.trans h.os, k.tape.trans h.tape, k.output.trans h.output, Nat.le_trans h.size k.size, fun q hq h1 h2 => (k.blk q (Nat.lt_of_lt_of_le hq h.size) h1 (h.ne hq h2)).trans (h.blk q hq h1 h2), ?_⟩
 rcases k.buf with e | ⟨x, e, hx⟩
 · rw [e]; exact h.buf
 · exact .inr ⟨x, e, Nat.le_trans h.size hx⟩
theorem Fx.of_bel {g : Nat} {bo : Option Nat} {w w' : World} (h : Below w.heap.size w w') : Fx g bo w bo w' := ⟨h.os, h.tape, h.output, h.size, fun k hk _ _ => h.block k hk, .inl rfl⟩
theorem Fx.of_tn {g : Nat} {bo : Option Nat} {w w' : World} (h : Tn g w w') : Fx g bo w bo w' := ⟨h.os, h.tape, h.output, h.size, fun k hk h1 _ => h.blk k hk h1, .inl rfl⟩
theorem Fx.bel {w w' : World} {B g : Nat} {bo bo' : Option Nat} {l : List UInt8} {ms mt : Value} {k : Int} (h : Fx g bo w bo' w') (hp : Pg w B g bo l ms mt k) : Below B w w' := by
 obtain ⟨ad, v, h1, h2, h3, h4⟩ := hp.at_
 refine ⟨h.os, h.tape, h.output, h.size, fun q hq => h.blk q (Nat.lt_of_lt_of_le hq hp.big) (by have := hp.low; omega) (fun e => ?_)⟩
 have := (own_blk h3 (h4.trans e)).1
 omega
theorem Nod.fx {g : Nat} {bo bo' : Option Nat} {w w' : World} {q : Nat} {v0 v1 v2 v3 v4 v5 v6 v7 v8 : Value} (h : Nod w q v0 v1 v2 v3 v4 v5 v6 v7 v8) (t : Fx g bo w bo' w') (h1 : q ≠ g) (h2 : bo ≠ some q) : Nod w' q v0 v1 v2 v3 v4 v5 v6 v7 v8 := (t.blk q (Ze h) h1 h2).trans h
theorem Pg.new {w : World} {B g : Nat} {bo : Option Nat} {l : List UInt8} {ms mt : Value} {k : Int} (hp : Pg w B g bo l ms mt k) {q : Nat} (hq : w.heap.size <= q) : q ≠ g /\ bo ≠ some q := by
 obtain ⟨ad, v, h1, h2, h3, h4⟩ := hp.at_
 refine ⟨by have := Ze h1; omega, fun e => ?_⟩
 have := (own_blk h3 (h4.trans e)).2
 omega
theorem check_used (g : Nat) (c : Array Value) (w : World) (h : w.heap[g]? = some (.cells c 106 (0, 0))) (h0 : c[0]? = some (.pointer (some ⟨g, 0, none⟩))) :
 Calls Tryz.prog 175 #[.pointer (some ⟨g, 0, none⟩)] w fun e w' => e = .returned (.tuple #[]) /\ w = w' := by
 have c0 := Zf h 0 _ h0
 go_enter Tryz.func175, Tryz.ntmps175
 obtain ⟨j, hj, hjs⟩ := Option.map_eq_some_iff.1 size_bld
 go_wp2_with fail
 rw [Lib.run_neq_ptr_same w _ Tryz.underlying101 hj]
 go_wp2
 go_end0
 exact ⟨rfl, rfl⟩
theorem check_fresh (g : Nat) (v ms mt : Value) (k : Int) (w : World) (h : w.heap[g]? = some (.cells #[.pointer none, v, ms, mt, .int .i64 k] 106 (0, 0))) :
 Calls Tryz.prog 175 #[.pointer (some ⟨g, 0, none⟩)] w fun e w' => e = .returned (.tuple #[]) /\ w' = w.setCell ⟨g, 0, none⟩ (.pointer (some ⟨g, 0, none⟩)) := by
 have c0 := Zf h 0 _ rfl
 have f0 := Zi h 0
 have hsh : w.shape? g = some (106, 5) := by simp [World.shape?, h]
 obtain ⟨j, hj, hjs⟩ := Option.map_eq_some_iff.1 size_bld
 go_enter Tryz.func175, Tryz.ntmps175
 go_wp2
 rw [Lib.run_to_unsafe w ⟨g, 0, none⟩ Tryz.underlying101 Tryz.underlying199 hj (by rw [hjs]; decide) hsh (by show 0 < 5; decide)]
 simp only [Result.andThen]
 rw [Oper.upon_value]
 go_wp2
 rw [run_callFunc_extern Tryz.func206 (by kernel_rfl) (by kernel_rfl) (by kernel_rfl) (e := Extern.AbiNoEscape.same) (by kernel_rfl)]
 rw [Lib.run_noEscape]
 simp only [Result.andThen]
 rw [Oper.upon_value]
 go_wp2
 rw [Lib.run_from_unsafe w ⟨g, 0, none⟩ Tryz.underlying199 Tryz.underlying101 hj hsh lies_bld]
 simp only [Result.andThen]
 rw [Oper.upon_value]
 go_wp2
 go_end0
 exact ⟨rfl, rfl⟩
theorem str_push {w : World} {B : Nat} {v : Value} {n : Nat} {xs : List Value} (hown : w.ownsRow B 5 1 v n xs) (s : ByteArray) (hl : n + s.size <= 140737488355328) (hB : B <= w.heap.size) (ty : TypeId) :
 ∃ v' w', (Builtin.append_ #[33, 9] ty #[v, .string s]).run Tryz.prog w = .ok v' w' /\ (w'.ownsRow B 5 1 v' (n + s.size) (xs ++ Lib.strCells s) /\ w.grownBy w' v.ownBlock /\ (v'.ownBlock = v.ownBlock ∨ v'.ownBlock = some w.heap.size)) := by
 obtain ⟨i0, hi, hz0, hz1, hz2⟩ := info_parts info_byte
 obtain ⟨v', w', hr, h1, h2, h3⟩ := Lib.run_append_own_string (P := Tryz.prog) w B 33 9 ty 5 i0 Tryz.underlying33 Tryz.underlying9 hi hz0 hz1 hz2 v n xs hown s (by unfold maxLen; omega) hl hB
 refine ⟨v', w', hr, h1, h2, ?_⟩
 have hx := hown
 obtain ⟨hlen, ⟨rfl, rfl⟩ | ⟨g, cap, cur, rfl, hbg, hg, hnc, hcm, hcs, htake⟩⟩ := hx
 · by_cases hm : s.size = 0
   · left
     rw [h3.2 ⟨rfl, hm⟩]
   · right
     have hr2 := run_append_nil_string (P := Tryz.prog) w 33 9 ty 5 i0 (.int .u8 0) Tryz.underlying33 Tryz.underlying9 hi hz0 s (by omega) (by omega) (by rw [hz2]; omega)
     have e := (Result.ok.inj (hr2.symm.trans hr)).1
     rw [← e]
     rfl
 · by_cases hroom : n + s.size <= cap
   · left
     have hcs' : cur.size = cap := by simpa using hcs
     have hr2 := Lib.run_append_room_string (P := Tryz.prog) w 33 9 ty 5 i0 Tryz.underlying33 Tryz.underlying9 hi hz1 g n cap cur hg s hroom (by omega)
     have e := (Result.ok.inj (hr2.symm.trans hr)).1
     rw [← e]
     rfl
   · right
     have hr2 := Lib.run_append_grow_string (P := Tryz.prog) w 33 9 ty 5 i0 (.int .u8 0) Tryz.underlying33 Tryz.underlying9 hi hz0 ⟨g, 0, none⟩ n cap xs (by rw [hz1]; simpa using hlen) (hown.cells (g := g) rfl) s (by omega) (by omega) (by rw [hz2]; exact growslice_fits (by omega) (by omega))
     have e := (Result.ok.inj (hr2.symm.trans hr)).1
     rw [← e]
     rfl
theorem wpList_appS {w : World} {ops : Array Oper} {rest : List Oper} {o : Oper} {a : Act} {Q : Exit -> Act -> World -> Prop} (s x : Operand) (v vx : Value) (R : Value -> World -> Prop)
 (hrun : ∀ ty, ∃ v' w', (Builtin.append_ #[33, 9] ty #[v, vx]).run Tryz.prog w = .ok v' w' /\ R v' w') (hgd : o.guard = none)
 (ho : o.op = .call { callee := .builtin .append, args := #[s, x], argTypes := #[33, 9] }) (hs : a.eval s = v) (hx : a.eval x = vx)
 (h : ∀ v' w', R v' w' -> wpList Tryz.prog ops Q rest (a.put o.dst v') w') : wpList Tryz.prog ops Q (o :: rest) a w :=
 wpList_plain hgd fun _ hK => by
  obtain ⟨v', w', hr, hR⟩ := hrun o.type
  unfold Oper.wp execOp
  simp only [ho, resolve, invoke, builtin, Sem.run_bind, Sem.run_pure, Result.andThen_ok, List.map_toArray, List.map_cons, List.map_nil, hs, hx, hr]
  exact hK _ _ (h v' w' hR)
theorem write_any {w : World} {B g : Nat} {bo : Option Nat} {l : List UInt8} {ms mt : Value} {k : Int} (h : Pg w B g bo l ms mt k) (s : ByteArray) (hl : l.length + s.size <= 140737488355328) :
    Calls Tryz.prog 136 #[.pointer (some ⟨g, 0, none⟩), .string s] w fun e w' => e = .returned (.tuple #[.int .i64 s.size, .nilIface]) /\ ∃ bo', Pg w' B g bo' (l ++ s.data.toList) ms mt k /\ Fx g bo w bo' w' := by
  obtain ⟨ad, v, h1, h2, h3, h4⟩ := h.at_
  have hlow := h.low
  have hbig := h.big
  have hgl := h.lt
  obtain ⟨i0, hi, hz0, hz1, hz2⟩ := info_parts info_byte
  have CK : Hid (Calls Tryz.prog 175 #[.pointer (some ⟨g, 0, none⟩)] w fun e w' => e = .returned (.tuple #[]) /\ w'.heap[g]? = some (.cells #[.pointer (some ⟨g, 0, none⟩), v, ms, mt, .int .i64 k] 106 (0, 0)) /\ Tn g w w' /\ w'.ownsRow B 5 1 v l.length (Lib.byteCells l) /\ w'.heap.size = w.heap.size) := by
    rcases h2 with rfl | rfl
    · refine (check_fresh g v ms mt k w h1).mono ?_
      rintro e w' ⟨rfl, rfl⟩
      obtain ⟨k2, t2⟩ := Zs h1 0 (.pointer (some ⟨g, 0, none⟩))
      exact ⟨rfl, k2, t2, own_tn h3 t2 (own_ne h3 h1), by simp [World.setCell]⟩
    · refine (check_used g _ w h1 rfl).mono ?_
      rintro e w' ⟨rfl, rfl⟩
      exact ⟨rfl, h1, Tn.refl _ _, h3, rfl⟩
  clear h h1 h2 h3
  have HLL := Zb hl
  go_enter Tryz.func136, Tryz.ntmps136
  go_wp2_with fail
  refine CK.out.mono ?_
  rintro e w1 ⟨rfl, k1, hb1, hown, hsz⟩
  have c1 := Zf k1 1 _ rfl
  have PU := Zb (fun ty => str_push hown s (by have := HLL.out; omega) (by omega) ty)
  have K1 := Zb (And.intro k1 (And.intro hb1 (And.intro hown hsz)))
  have H4 := Zb h4
  clear k1 hb1 hown hsz h4
  go_wp2_with (first | (at_builtin; refine wpList_appS (.tmp 12) (.tmp 13) _ _ _ PU.out rfl rfl rfl rfl ?_; rintro v' w2 ⟨hown', hgrow, hwhere⟩; have R2 := Zb (And.intro hown' (And.intro hgrow hwhere)); clear hown' hgrow hwhere PU; obtain ⟨ao, n', cap, rfl⟩ : ∃ ao n' cap, v' = .slice ao n' cap := (by rcases R2.out.1.2 with ⟨hv, _⟩ | ⟨g, cap, cur, hv, _⟩ <;> exact ⟨_, _, _, hv⟩); have d1 : w2.cell? ⟨g, 1, none⟩ = some v := Zf (show w2.heap[g]? = some (.cells #[.pointer (some ⟨g, 0, none⟩), v, ms, mt, .int .i64 k] 106 (0, 0)) from (by rw [R2.out.2.1.block g (by have := K1.out.2.2.2; omega) (fun e => own_ne K1.out.2.2.1 K1.out.1 e.symm)]; exact K1.out.1)) 1 _ rfl; have f1 : w2.frozen? ⟨g, 1, none⟩ = false := Zi (show w2.heap[g]? = some (.cells #[.pointer (some ⟨g, 0, none⟩), v, ms, mt, .int .i64 k] 106 (0, 0)) from (by rw [R2.out.2.1.block g (by have := K1.out.2.2.2; omega) (fun e => own_ne K1.out.2.2.1 K1.out.1 e.symm)]; exact K1.out.1)) 1))
  obtain ⟨k1, hb1, hown, hsz⟩ := K1.out
  obtain ⟨hown', hgrow, hwhere⟩ := R2.out
  have h4 := H4.out
  clear d1 f1
  have hb2 : w2.heap[g]? = some (.cells #[.pointer (some ⟨g, 0, none⟩), v, ms, mt, .int .i64 k] 106 (0, 0)) := by
    rw [hgrow.block g (by omega) (fun e => own_ne hown k1 e.symm)]
    exact k1
  obtain ⟨k3, t3⟩ := Zs hb2 1 (.slice ao n' cap)
  have hs2 := hgrow.size
  have hbuf : (Value.slice ao n' cap).ownBlock = bo ∨ ∃ x, (Value.slice ao n' cap).ownBlock = some x /\ w.heap.size <= x := by
    rcases hwhere with e | e
    · exact .inl (e.trans h4)
    · exact .inr ⟨_, e, by omega⟩
  have P3 := (show Pg (w2.setCell ⟨g, 1, none⟩ (.slice ao n' cap)) B g (Value.slice ao n' cap).ownBlock (l ++ s.data.toList) ms mt k from
    ⟨⟨_, _, k3, .inr rfl, own_tn (by rw [List.length_append]; simpa [Lib.byteCells, Lib.strCells] using hown') t3 (own_ne hown' hb2), rfl⟩, hlow, Nat.le_trans (by omega) t3.size⟩)
  have B3 := (show Fx g bo w (Value.slice ao n' cap).ownBlock (w2.setCell ⟨g, 1, none⟩ (.slice ao n' cap)) from
    ⟨t3.os.trans (hgrow.os.trans hb1.os), t3.tape.trans (hgrow.tape.trans hb1.tape), t3.output.trans (hgrow.output.trans hb1.output), Nat.le_trans hb1.size (Nat.le_trans hs2 t3.size),
     fun q hq hq1 hq2 => (t3.blk q (by omega) hq1).trans ((hgrow.block q (by omega) (fun e => hq2 (h4.symm.trans e.symm))).trans (hb1.blk q hq hq1)), hbuf⟩)
  go_ret2
  exact ⟨rfl, _, P3, B3⟩
def Strs (w : World) (b : Nat) (ts : List ByteArray) : Prop := ∀ i s, ts[i]? = some s -> w.cell? ⟨b, i, none⟩ = some (.string s)
def Zv (ts : List ByteArray) : List UInt8 := ts.flatMap (fun s => s.data.toList)
theorem flatB_snoc (ts : List ByteArray) (s : ByteArray) : Zv (ts ++ [s]) = Zv ts ++ s.data.toList := by simp [Zv]
theorem takeB_snoc {ts : List ByteArray} {j : Nat} {s : ByteArray} (h : ts[j]? = some s) : ts.take (j + 1) = ts.take j ++ [s] := by
 rw [List.take_add_one, h]
 rfl
theorem flatB_take (ts : List ByteArray) (j : Nat) : (Zv (ts.take j)).length <= (Zv ts).length := by
 have h := congrArg (fun x => (Zv x).length) (List.take_append_drop j ts)
 simp only [Zv, List.flatMap_append, List.length_append] at h ⊢
 omega
theorem Fx.refl (g : Nat) (bo : Option Nat) (w : World) : Fx g bo w bo w := ⟨rfl, rfl, rfl, Nat.le_refl _, fun _ _ _ _ => rfl, .inl rfl⟩
theorem Strs.fx {w w' : World} {b : Nat} {ts : List ByteArray} (h : Strs w b ts) {g : Nat} {bo bo' : Option Nat} (t : Fx g bo w bo' w') (h1 : b ≠ g) (h2 : bo ≠ some b) : Strs w' b ts := fun i s hs => by
 have hc := h i s hs
 have hlt : b < w.heap.size := World.block_lt_of_cell? w _ hc
 simp only [World.cell?, t.blk b hlt h1 h2] at hc ⊢
 exact hc
theorem put_any {w : World} {B g : Nat} {bo : Option Nat} {l : List UInt8} {ms mt : Value} {k : Int} (h : Pg w B g bo l ms mt k) (b c : Nat) (ts : List ByteArray) (hs : Strs w b ts) (h1 : b ≠ g) (h2 : bo ≠ some b) (hn : ts.length <= 100) (hl : l.length + (Zv ts).length <= 140737488355328) :
    Calls Tryz.prog 98 #[.pointer (some ⟨g, 0, none⟩), .slice (some ⟨b, 0, none⟩) ts.length c] w fun e w' => e = .returned (.tuple #[]) /\ ∃ bo', Pg w' B g bo' (l ++ Zv ts) ms mt k /\ Fx g bo w bo' w' := by
  have HP := Zb h
  have HS := Zb (And.intro hs (And.intro h1 h2))
  have HL := Zb hl
  obtain ⟨n, hnn⟩ : ∃ n, n = ts.length := ⟨_, rfl⟩
  rw [← hnn] at hn ⊢
  have HN := Zb hnn
  clear h hs h1 h2 hl hnn
  go_enter Tryz.func98, Tryz.ntmps98
  go_wp2_with fail
  go_loopw [8] (fun vi wr => ∃ (j : Nat), j <= n /\ vi = .int .i64 j /\ Hid (∃ bo', Pg wr B g bo' (l ++ Zv (ts.take j)) ms mt k /\ Fx g bo w bo' wr)) (fun vi _ => n - (intOf vi).toNat)
  case atStart => exact ⟨0, Nat.zero_le _, rfl, bo, by simpa [Zv] using HP.out, Fx.refl _ _ _⟩
  case round =>
    obtain ⟨j, hj, rfl, I⟩ := hrel
    by_cases hjl : j < n
    · have hj2 : (j : Int) < (n : Int) := by omega
      obtain ⟨s, hs⟩ : ∃ s, ts[j]? = some s := ⟨_, List.getElem?_eq_getElem (by have := HN.out; omega)⟩
      obtain ⟨bo1, p1, t1⟩ := I.out
      have c1 := (HS.out.1.fx t1 HS.out.2.1 HS.out.2.2) j s hs
      have WW := Zb (write_any p1 s (by
        have e1 : s.data.toList.length = s.size := rfl
        have e2 := flatB_take ts (j + 1)
        have e3 := HL.out
        rw [takeB_snoc hs, flatB_snoc, List.length_append] at e2
        rw [List.length_append]
        omega))
      have T1 := Zb t1
      have SJ := Zb hs
      clear p1 t1 hs I
      go_wp2_with fail
      refine WW.out.mono ?_
      rintro e w2 ⟨rfl, bo2, p2, t2⟩
      have R2 := Zb (show ∃ bo', Pg w2 B g bo' (l ++ Zv (ts.take (j + 1))) ms mt k /\ Fx g bo w bo' w2 from ⟨bo2, by rw [takeB_snoc SJ.out, flatB_snoc, ← List.append_assoc]; exact p2, T1.out.trans t2⟩)
      clear p2 t2 WW c1 T1
      go_wp2_with fail
      go_roundw
      case rel => exact ⟨j + 1, by omega, by go_num, R2.out⟩
      case measure =>
        simp [intOf]
        omega
    · have hj2 : ¬ (j : Int) < (n : Int) := by omega
      go_wp2_with fail
      go_end0
      have := I.out
      rw [List.take_of_length_le (by have := HN.out; omega)] at this
      exact ⟨rfl, this⟩
theorem put_nil {w : World} (g : Nat) : Calls Tryz.prog 98 #[.pointer (some ⟨g, 0, none⟩), .slice none 0 0] w fun e w' => e = .returned (.tuple #[]) /\ w = w' := by
 go_enter Tryz.func98, Tryz.ntmps98
 go_wp2_with fail
 refine wp_loop_rounds 1 ?_
 rw [rounds_succ]
 go_wp2_with fail
 go_end0
 exact ⟨rfl, rfl⟩
theorem put_new {w : World} {B g : Nat} {bo : Option Nat} {l : List UInt8} {ms mt : Value} {k : Int} (h : Pg w B g bo l ms mt k) (ts : List ByteArray) (c : Nat) (hn : ts.length <= 100) (hl : l.length + (Zv ts).length <= 140737488355328) :
 Calls Tryz.prog 98 #[.pointer (some ⟨g, 0, none⟩), .slice (some ⟨w.heap.size, 0, none⟩) ts.length c] (w.alloc (.cells (ts.map Value.string).toArray 9)) fun e w' => e = .returned (.tuple #[]) /\ ∃ bo', Pg w' B g bo' (l ++ Zv ts) ms mt k /\ Fx g bo w bo' w' := by
 have hb := Zd w (.cells (ts.map Value.string).toArray 9)
 refine (put_any (h.bel hb) w.heap.size c ts (fun i s hs => Zf (B_ w _) i _ (by simp [hs])) (h.new (Nat.le_refl _)).1 (h.new (Nat.le_refl _)).2 hn hl).mono ?_
 rintro e w' ⟨rfl, bo', p, t⟩
 exact ⟨rfl, bo', p, (Fx.of_bel hb).trans t⟩
end Go.Proofs.YtfnplhfjfolojaaGreatDoor.Ck.Sho
namespace Go.Proofs
open Go.Shelf
def Tryz.lays121_ren : Go.Shelf.Ren := ⟨fun | 121 => 101 | 214 => 140 | n => n, fun | 4 => 4 | 9 => 9 | n => n, fun | n => n⟩
theorem Tryz.lays121 : Go.Proofs.Lays.n121 Tryz.prog Tryz.lays121_ren := {
 mixed := by kernel_rfl
 f121 := Tryz.func101.trans (congrArg some (by kernel_rfl))
 f214 := Tryz.func140.trans (congrArg some (by kernel_rfl))
 t4 := Tryz.underlying4
 a4 := Tryz.isAgg4
 z4 := Tryz.sizeOf4
 v4 := Tryz.zeroValue4
 t9 := Tryz.underlying9
 a9 := Tryz.isAgg9
 z9 := Tryz.sizeOf9
 v9 := Tryz.zeroValue9 }
open Go.RowKit in
theorem Tryz.strconv_FormatBool (b : Bool) (w : World) :
 Calls Tryz.prog 101 #[.bool b] w fun e w' => e = .returned (.string ⟨(Lib.formatBool b).toArray⟩) /\ w' = w := Any.strconv_FormatBool Tryz.lays121 b w
def Tryz.laysM171_ren : Go.Shelf.Ren := ⟨fun | 171 => 99 | 243 => 137 | 246 => 176 | 283 => 207 | 284 => 208 | 285 => 209 | 286 => 210 | 129 => 230 | 317 => 229 | 318 => 231 | 319 => 232 | 320 => 233 | 337 => 249 | 338 => 250 | n => n, fun | 3 => 3 | 9 => 9 | 2 => 2 | 4 => 4 | 171 => 201 | 0 => 0 | 53 => 26 | 37 => 33 | 5 => 5 | 173 => 204 | 212 => 213 | 51 => 193 | 20 => 20 | 213 => 214 | 46 => 32 | 232 => 229 | 233 => 230 | n => n, fun | 17 => 17 | 18 => 21 | 19 => 22 | n => n⟩
theorem Tryz.laysM171 : Go.Proofs.LaysM.n171 Tryz.prog Tryz.laysM171_ren := {
 mixed := by kernel_rfl
 f129 := Tryz.func230.trans (congrArg some (by kernel_rfl))
 f171 := Tryz.func99.trans (congrArg some (by kernel_rfl))
 f243 := Tryz.func137.trans (congrArg some (by kernel_rfl))
 f246 := Tryz.func176.trans (congrArg some (by kernel_rfl))
 f283 := Tryz.func207.trans (congrArg some (by kernel_rfl))
 f284 := Tryz.func208.trans (congrArg some (by kernel_rfl))
 f285 := Tryz.func209.trans (congrArg some (by kernel_rfl))
 f286 := Tryz.func210.trans (congrArg some (by kernel_rfl))
 f317 := Tryz.func229.trans (congrArg some (by kernel_rfl))
 f318 := Tryz.func231.trans (congrArg some (by kernel_rfl))
 f319 := Tryz.func232.trans (congrArg some (by kernel_rfl))
 f320 := Tryz.func233.trans (congrArg some (by kernel_rfl))
 f337 := Tryz.func249.trans (congrArg some (by kernel_rfl))
 f338 := Tryz.func250.trans (congrArg some (by kernel_rfl))
 t0 := Tryz.underlying0
 a0 := Tryz.isAgg0
 z0 := Tryz.sizeOf0
 v0 := Tryz.zeroValue0
 t2 := Tryz.underlying2
 a2 := Tryz.isAgg2
 z2 := Tryz.sizeOf2
 v2 := Tryz.zeroValue2
 t3 := Tryz.underlying3
 a3 := Tryz.isAgg3
 z3 := Tryz.sizeOf3
 v3 := Tryz.zeroValue3
 t4 := Tryz.underlying4
 a4 := Tryz.isAgg4
 z4 := Tryz.sizeOf4
 v4 := Tryz.zeroValue4
 t5 := Tryz.underlying5
 a5 := Tryz.isAgg5
 z5 := Tryz.sizeOf5
 v5 := Tryz.zeroValue5
 t9 := Tryz.underlying9
 a9 := Tryz.isAgg9
 z9 := Tryz.sizeOf9
 v9 := Tryz.zeroValue9
 t20 := Tryz.underlying20
 a20 := Tryz.isAgg20
 z20 := Tryz.sizeOf20
 v20 := Tryz.zeroValue20
 t37 := Tryz.underlying33
 a37 := Tryz.isAgg33
 z37 := Tryz.sizeOf33
 v37 := Tryz.zeroValue33
 t46 := Tryz.underlying32
 a46 := Tryz.isAgg32
 z46 := Tryz.sizeOf32
 v46 := Tryz.zeroValue32
 t51 := Tryz.underlying193
 a51 := Tryz.isAgg193
 z51 := Tryz.sizeOf193
 v51 := Tryz.zeroValue193
 t53 := Tryz.underlying26
 a53 := Tryz.isAgg26
 z53 := Tryz.sizeOf26
 v53 := Tryz.zeroValue26
 t171 := Tryz.underlying201
 a171 := Tryz.isAgg201
 z171 := Tryz.sizeOf201
 v171 := Tryz.zeroValue201
 t173 := Tryz.underlying204
 a173 := Tryz.isAgg204
 z173 := Tryz.sizeOf204
 v173 := Tryz.zeroValue204
 t212 := Tryz.underlying213
 a212 := Tryz.isAgg213
 z212 := Tryz.sizeOf213
 v212 := Tryz.zeroValue213
 t213 := Tryz.underlying214
 a213 := Tryz.isAgg214
 z213 := Tryz.sizeOf214
 t232 := Tryz.underlying229
 a232 := Tryz.isAgg229
 z232 := Tryz.sizeOf229
 v232 := Tryz.zeroValue229
 t233 := Tryz.underlying230
 a233 := Tryz.isAgg230
 z233 := Tryz.sizeOf230
 v233 := Tryz.zeroValue230
 g17 := by kernel_rfl
 g18 := by kernel_rfl
 g19 := by kernel_rfl
 i0 := by kernel_rfl
 i2 := by kernel_rfl
 i3 := by kernel_rfl
 i4 := by kernel_rfl
 i5 := by kernel_rfl
 i9 := by kernel_rfl
 i20 := by kernel_rfl
 i37 := by kernel_rfl
 i46 := by kernel_rfl
 i51 := by kernel_rfl
 i53 := by kernel_rfl
 i171 := by kernel_rfl
 i173 := by kernel_rfl
 i212 := by kernel_rfl
 i232 := by kernel_rfl
 i233 := by kernel_rfl
 m17 := by kernel_rfl
 m18 := by kernel_rfl
 m19 := by kernel_rfl }
open Go.RowKit Go.Sort Go.Lib in
theorem Tryz.strconv_Itoa (n : Int) (h0 : -9223372036854775808 <= n) (h1 : n <= 9223372036854775807) (w : World) (htab : Lib.TabIs Tryz.prog w "internal/strconv.uint64pow10" .u64 Lib.pow10Tab) :
 Calls Tryz.prog 99 #[.int .i64 n] w fun e w' => e = .returned (.string ⟨(Lib.itoa n).toArray⟩) /\ ∃ k os, w' = grow (w.drewN k) os := Any.strconv_Itoa Tryz.laysM171 n h0 h1 w htab
def Tryz.lays105_ren : Go.Shelf.Ren := ⟨fun | 105 => 139 | 212 => 164 | 99 => 152 | 165 => 178 | 166 => 136 | 170 => 179 | 169 => 65 | 263 => 202 | 264 => 203 | 206 => 189 | 240 => 175 | 241 => 211 | 276 => 206 | 277 => 234 | n => n, fun | 9 => 9 | 3 => 3 | 4 => 4 | 20 => 20 | 0 => 0 | 46 => 32 | 109 => 178 | 5 => 5 | 72 => 103 | 76 => 165 | 51 => 193 | 146 => 194 | 53 => 26 | 148 => 196 | 70 => 101 | 37 => 33 | 75 => 24 | 127 => 148 | 164 => 199 | 80 => 100 | n => n, fun | n => n⟩
theorem Tryz.lays105 : Go.Proofs.Lays.n105 Tryz.prog Tryz.lays105_ren := {
 mixed := by kernel_rfl
 f99 := Tryz.func152.trans (congrArg some (by kernel_rfl))
 f105 := Tryz.func139.trans (congrArg some (by kernel_rfl))
 f165 := Tryz.func178.trans (congrArg some (by kernel_rfl))
 f166 := Tryz.func136.trans (congrArg some (by kernel_rfl))
 f169 := Tryz.func65.trans (congrArg some (by kernel_rfl))
 f170 := Tryz.func179.trans (congrArg some (by kernel_rfl))
 f206 := Tryz.func189.trans (congrArg some (by kernel_rfl))
 f212 := Tryz.func164.trans (congrArg some (by kernel_rfl))
 f240 := Tryz.func175.trans (congrArg some (by kernel_rfl))
 f241 := Tryz.func211.trans (congrArg some (by kernel_rfl))
 f263 := Tryz.func202.trans (congrArg some (by kernel_rfl))
 f264 := Tryz.func203.trans (congrArg some (by kernel_rfl))
 f276 := Tryz.func206.trans (congrArg some (by kernel_rfl))
 f277 := Tryz.func234.trans (congrArg some (by kernel_rfl))
 t0 := Tryz.underlying0
 a0 := Tryz.isAgg0
 z0 := Tryz.sizeOf0
 v0 := Tryz.zeroValue0
 t3 := Tryz.underlying3
 a3 := Tryz.isAgg3
 z3 := Tryz.sizeOf3
 v3 := Tryz.zeroValue3
 t4 := Tryz.underlying4
 a4 := Tryz.isAgg4
 z4 := Tryz.sizeOf4
 v4 := Tryz.zeroValue4
 t5 := Tryz.underlying5
 a5 := Tryz.isAgg5
 z5 := Tryz.sizeOf5
 v5 := Tryz.zeroValue5
 t9 := Tryz.underlying9
 a9 := Tryz.isAgg9
 z9 := Tryz.sizeOf9
 v9 := Tryz.zeroValue9
 t20 := Tryz.underlying20
 a20 := Tryz.isAgg20
 z20 := Tryz.sizeOf20
 v20 := Tryz.zeroValue20
 t37 := Tryz.underlying33
 a37 := Tryz.isAgg33
 z37 := Tryz.sizeOf33
 v37 := Tryz.zeroValue33
 t46 := Tryz.underlying32
 a46 := Tryz.isAgg32
 z46 := Tryz.sizeOf32
 v46 := Tryz.zeroValue32
 t51 := Tryz.underlying193
 a51 := Tryz.isAgg193
 z51 := Tryz.sizeOf193
 v51 := Tryz.zeroValue193
 t53 := Tryz.underlying26
 a53 := Tryz.isAgg26
 z53 := Tryz.sizeOf26
 v53 := Tryz.zeroValue26
 t70 := Tryz.underlying101
 a70 := Tryz.isAgg101
 z70 := Tryz.sizeOf101
 v70 := Tryz.zeroValue101
 t72 := Tryz.underlying103
 a72 := Tryz.isAgg103
 z72 := Tryz.sizeOf103
 v72 := Tryz.zeroValue103
 t75 := Tryz.underlying24
 a75 := Tryz.isAgg24
 z75 := Tryz.sizeOf24
 v75 := Tryz.zeroValue24
 t76 := Tryz.underlying165
 a76 := Tryz.isAgg165
 z76 := Tryz.sizeOf165
 v76 := Tryz.zeroValue165
 t109 := Tryz.underlying178
 a109 := Tryz.isAgg178
 z109 := Tryz.sizeOf178
 v109 := Tryz.zeroValue178
 t127 := Tryz.underlying148
 a127 := Tryz.isAgg148
 z127 := Tryz.sizeOf148
 v127 := Tryz.zeroValue148
 t146 := Tryz.underlying194
 a146 := Tryz.isAgg194
 z146 := Tryz.sizeOf194
 v146 := Tryz.zeroValue194
 t148 := Tryz.underlying196
 a148 := Tryz.isAgg196
 z148 := Tryz.sizeOf196
 v148 := Tryz.zeroValue196
 t164 := Tryz.underlying199
 a164 := Tryz.isAgg199
 z164 := Tryz.sizeOf199
 v164 := Tryz.zeroValue199 }
end Go.Proofs
namespace Go.Proofs.YtfnplhfjfolojaaGreatDoor.Ck
open Go.RowKit
def hd (k : Nat) : UInt8 := if k <= 9 then UInt8.ofNat (48 + k) else UInt8.ofNat (87 + k)
def hxs (u : Nat) (k : Nat) : List UInt8 := (List.range k).map (fun j => hd (u / 16 ^ (15 - j) % 16))
end Go.Proofs.YtfnplhfjfolojaaGreatDoor.Ck
namespace Go.Proofs.YtfnplhfjfolojaaGreatDoor.Ck.Sho
open Go.RowKit
def Tb (w : World) : Prop := Lib.TabIs Tryz.prog w "internal/strconv.uint64pow10" .u64 Lib.pow10Tab
theorem named_pow : Tryz.prog.globalNamed "internal/strconv.uint64pow10" = some 17 := by kernel_rfl
theorem Tb.bel {w w' : World} (h : Tb w) {B : Nat} (hb : Below B w w') (hB : 23 <= B) : Tb w' := by
 unfold Tb Lib.TabIs World.var? at h ⊢
 rw [named_pow] at h ⊢
 simp only [Option.bind_some] at h ⊢
 rw [hb.block 17 (by omega)]
 exact h
theorem dec_digits (n : Nat) : ∀ acc, decT n acc = Lib.decDigits n ++ acc := by
 induction n using Nat.strongRecOn with
 | ind n ih =>
  intro acc
  by_cases h : 9 < n
  · have e : Lib.decDigits n = Lib.decDigits (n / 10) ++ [UInt8.ofNat (48 + n % 10)] := by
     rw [Lib.decDigits, dif_neg (by omega)]
    rw [dec_big n acc h, ih (n / 10) (by omega), e, List.append_assoc]
    rfl
  · have e : Lib.decDigits n = [UInt8.ofNat (48 + n)] := by
     rw [Lib.decDigits, dif_pos (by omega)]
    rw [dec_small n acc h, e]
    rfl
theorem itoa_any {w : World} (ht : Tb w) (n : Int) (h0 : 0 <= n) (h1 : n <= 9223372036854775807) : Calls Tryz.prog 99 #[.int .i64 n] w fun e w' => e = .returned (.string ⟨(decT n.toNat []).toArray⟩) /\ Below w.heap.size w w' := by
 refine (Tryz.strconv_Itoa n (by omega) h1 w ht).mono ?_
 rintro e w' ⟨rfl, k, os, rfl⟩
 refine ⟨?_, Lib.below_grow _ w (Nat.le_refl _) k os⟩
 rw [dec_digits, List.append_nil]
 unfold Lib.itoa
 rw [if_neg (by omega)]
theorem bool_any (b : Bool) (w : World) : Calls Tryz.prog 101 #[.bool b] w fun e w' => e = .returned (.string ⟨(if b = true then [116, 114, 117, 101] else [102, 97, 108, 115, 101] : List UInt8).toArray⟩) /\ w = w' := by
 refine (Tryz.strconv_FormatBool b w).mono ?_
 rintro e w' ⟨rfl, rfl⟩
 cases b <;> exact ⟨rfl, rfl⟩
theorem bld_extra : Go.Proofs.Builder.Extra Tryz.prog Tryz.lays105_ren where
 sizeBuilder := by kernel_rfl
 liesBuilder := by kernel_rfl
 t5 := Tryz.underlying5
 a5 := Tryz.isAgg5
 z5 := Tryz.sizeOf5
 v5 := Tryz.zeroValue5
 infoByte := by kernel_rfl
 cellsByte := by kernel_rfl
 sizeByte := by kernel_rfl
 neB5 := by decide
theorem rep_any (s : ByteArray) (c : Nat) (w : World) (hc : c <= 9223372036854775807) (hl : s.size * c <= 140737488355328) :
 Calls Tryz.prog 139 #[.string s, .int .i64 c] w fun e w' => e = .returned (.string ⟨(Lib.repeatL s.data.toList c).toArray⟩) /\ Below w.heap.size w w' := Any.strings_Repeat Tryz.lays105 bld_extra s c w hc hl
end Go.Proofs.YtfnplhfjfolojaaGreatDoor.Ck.Sho
namespace Go.Proofs.YtfnplhfjfolojaaGreatDoor.Ck.Sho
open Go.ChangeShapes Go.WideShapes Go.RowKit
def l7 : List (String × List UInt8) := [("stockade/api.ErrRange", [115, 116, 111, 99, 107, 97, 100, 101, 58, 32, 114, 97, 110, 103, 101]), ("stockade/api.ErrText", [115, 116, 111, 99, 107, 97, 100, 101, 58, 32, 116, 101, 120, 116]), ("stockade/api.ErrDepth", [115, 116, 111, 99, 107, 97, 100, 101, 58, 32, 100, 101, 112, 116, 104]), ("stockade/api.ErrLarge", [115, 116, 111, 99, 107, 97, 100, 101, 58, 32, 108, 97, 114, 103, 101]), ("stockade/api.ErrCode", [115, 116, 111, 99, 107, 97, 100, 101, 58, 32, 99, 111, 100, 101]), ("strconv.ErrRange", [118, 97, 108, 117, 101, 32, 111, 117, 116, 32, 111, 102, 32, 114, 97, 110, 103, 101]), ("strconv.ErrSyntax", [105, 110, 118, 97, 108, 105, 100, 32, 115, 121, 110, 116, 97, 120])]
def gl7 : List Nat := [1, 2, 3, 6, 0, 20, 19]
def laidW : List (String × DataW Unit) := [("math/bits.deBruijn32tab", Rows.laid_math_bits_deBruijn32tab), ("math/bits.deBruijn64tab", Rows.laid_math_bits_deBruijn64tab), ("internal/strconv.uint64pow10", Rows.laid_internal_strconv_uint64pow10), ("stockade/api.ErrRange", Rows.laid_stockade_api_ErrRange), ("stockade/api.ErrText", Rows.laid_stockade_api_ErrText), ("stockade/api.ErrDepth", Rows.laid_stockade_api_ErrDepth), ("stockade/api.ErrLarge", Rows.laid_stockade_api_ErrLarge), ("stockade/api.ErrCode", Rows.laid_stockade_api_ErrCode), ("strconv.ErrRange", Rows.laid_strconv_ErrRange), ("strconv.ErrSyntax", Rows.laid_strconv_ErrSyntax)]
theorem laidW_eq : laidW = ("math/bits.deBruijn32tab", Rows.laid_math_bits_deBruijn32tab) :: ("math/bits.deBruijn64tab", Rows.laid_math_bits_deBruijn64tab) :: ("internal/strconv.uint64pow10", Rows.laid_internal_strconv_uint64pow10) :: l7.map fun x => (x.1, sentD x.2) := rfl
theorem named7 : ((List.range 7).all fun i => Tryz.prog.globalNamed (l7.getD i ("", [])).1 == some (gl7.getD i 0) && (Tryz.prog.globals[gl7.getD i 0]?).map (·.type) == some 24) = true := by kernel_rfl
theorem named_pw : Tryz.prog.globalNamed "internal/strconv.uint64pow10" = some 17 := by kernel_rfl
theorem type_pw : (Tryz.prog.globals[17]?).map (·.type) = some 213 := by kernel_rfl
theorem cells_u64 : Tryz.prog.cellsOf 26 = 1 := by kernel_rfl
theorem cells_pw : Tryz.prog.cellsOf 213 = 20 := by kernel_rfl
theorem data_pw : (Rows.laid_internal_strconv_uint64pow10 : DataW Unit) = Lib.tabData .u64 Lib.pow10Tab := by kernel_rfl
theorem ev_of_laidW {W : World} (h : laidMetH Tryz.prog laidW W) : ∃ p, Ev W p /\ Tb W := by
  rw [MakeChecks.laidMetH_plain _ _ _ (by kernel_rfl), laidW_eq] at h
  obtain ⟨ps, hv, hnd, hrows⟩ := h
  obtain ⟨g0, t0, cs0, f0, p0, q0, hg0, ht0, hv0, hd0, hq0, e0⟩ := hv
  obtain ⟨g1, t1, cs1, f1, p1, q1, hg1, ht1, hv1, hd1, hq1, e1⟩ := hq0
  obtain ⟨g2, t2, cs2, f2, p2, q2, hg2, ht2, hv2, hd2, hq2, e2⟩ := hq1
  subst e0 e1 e2
  have hbig : 23 <= W.heap.size := by
    have hdB : Tryz.prog.globalNamed "math/bits.deBruijn64tab" = some 22 := by kernel_rfl
    simp only [World.var?, hdB, Option.bind_some] at hv1
    rcases Nat.lt_or_ge 22 W.heap.size with h' | h'
    · omega
    · simp [Array.getElem?_eq_none h'] at hv1
  obtain ⟨p, hs, hsub⟩ := sents_of l7 gl7 q2 rfl (fun i hi => by
    have h1 := List.all_eq_true.1 named7 i (List.mem_range.2 hi)
    simp only [Bool.and_eq_true, beq_iff_eq] at h1
    exact h1) hq2 (fun b off hm => hrows b off (List.mem_append_right _ (List.mem_append_right _ (List.mem_append_right _ hm))))
  have hc := fun i hi => (hs.at i hi).2.1
  refine ⟨[p.getD 0 ⟨0, 0, none⟩, p.getD 1 ⟨0, 0, none⟩, p.getD 2 ⟨0, 0, none⟩, ⟨0, 0, none⟩, ⟨0, 0, none⟩, p.getD 3 ⟨0, 0, none⟩, ⟨0, 0, none⟩, ⟨0, 0, none⟩, p.getD 4 ⟨0, 0, none⟩], ⟨⟨hc 0 (by decide), hc 1 (by decide), hc 2 (by decide), hc 3 (by decide), hc 4 (by decide)⟩, ⟨_, _, hc 5 (by decide)⟩, hbig⟩, ?_⟩
  obtain rfl := Option.some.inj (named_pw.symm.trans hg2)
  obtain rfl := Option.some.inj (type_pw.symm.trans ht2)
  rw [data_pw] at hd2
  unfold Tb Lib.TabIs
  rw [hv2, ← Lib.cells_of_tab Tryz.underlying213 Tryz.underlying26 cells_u64 cells_pw hd2]
theorem door_metW (os : Os) (args : Array Value) : laidMetH Tryz.prog laidW ((World.doorLaid Tryz.prog 385 os).forCall (fun _ _ => 0) ⟨#[], args, []⟩).memory :=
 laidMetH_of_parts3 (fuel := 8) (laidMet_of_run' 8 (by kernel_rfl) (by kernel_rfl)) (by kernel_rfl) (by kernel_rfl)
end Go.Proofs.YtfnplhfjfolojaaGreatDoor.Ck.Sho
