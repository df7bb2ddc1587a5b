/- Texts of this proof, packed: contracts of the program's functions, and the plain model that they are held against. -/
import Derived.Test.YtfnplhfjfolojaaGreatDoorQaq
set_option maxRecDepth 20000
set_option maxHeartbeats 4000000
namespace Go.Proofs.YtfnplhfjfolojaaGreatDoor.Ck.Sho
open Go.RowKit
def clT (ex : Nd -> List UInt8) (nm : ByteArray) (ks : List Nd) : List UInt8 := nm.data.toList ++ (40 :: (lsT ex ks ++ [41]))
def smT (ex bd : Nd -> List UInt8) : Nd -> List UInt8
 | .mk k _ nm _ _ _ _ _ ks =>
  if k = 21 ∨ k = 22 then brT ex bd k ks
  else if k = 10 then (match ks with | [x, y] => ex x ++ ([32, 61, 32] ++ (ex y ++ [59])) | _ => [])
  else if k = 11 then (match ks with | [x] => nm.data.toList ++ ([32, 58, 61, 32] ++ (ex x ++ [59])) | _ => [])
  else if k = 13 then clT ex nm ks ++ [59]
  else if k = 12 then Zz k ++ ([32] ++ (clT ex nm ks ++ [59]))
  else if k = 14 ∨ k = 15 then Zz k ++ ([32] ++ (nm.data.toList ++ [59]))
  else if k = 23 then Zz k ++ [59]
  else if k = 24 then (match ks with | [x] => Zz k ++ ([32] ++ (ex x ++ [59])) | _ => [])
  else (match ks with | [x] => Zz k ++ ([32] ++ (nm.data.toList ++ ([44, 32] ++ (ex x ++ [59])))) | _ => [])
theorem all3_shape {o1 o2 o3 : Nd -> Bool} {ks : List Nd} (h : all3B o1 o2 o3 ks = true) : ∃ x y z, ks = [x, y, z] /\ o1 x = true /\ o2 y = true /\ o3 z = true := by
 match ks, h with
 | [x, y, z], h =>
  have h : (o1 x && (o2 y && o3 z)) = true := h
  simp only [Bool.and_eq_true] at h
  exact ⟨x, y, z, rfl, h.1, h.2.1, h.2.2⟩
theorem pstmt_from {wB : World} {k : Nat} (exo blo : Nd -> Bool) (ex bd : Nd -> List UInt8) (n : Nd) (hin : str exo blo n = true) (hE : ∀ x ∈ n.kids, (exo x = true ∨ tgt exo x = true) -> Yk 64 ex wB k x) (hD : ∀ x ∈ n.kids, blo x = true -> Yk 145 bd wB k x) : Yk 181 (smT ex bd) wB k n := by
 intro w g bo l b1 b2 v hp hB hv hl
 have hv0 := hv
 obtain ⟨kd, ps, nm, t, nz, z, ob, bi, ks⟩ := n
 unfold Zq at hv
 obtain ⟨s, rfl, hkk⟩ := hv
 obtain ⟨oa, cap, rfl, hsh⟩ := hkk.kid
 obtain ⟨len, hln⟩ : ∃ len, len = ks.length := ⟨_, rfl⟩
 rw [← hln] at hkk hv0 ⊢
 by_cases h11 : kd = 11
 · subst h11
   obtain ⟨x, rfl, hx⟩ := Yg (ks := ks) (by simp [str] at hin; exact hin.2.1)
   obtain ⟨TT, hTT⟩ : ∃ TT, TT = smT ex bd (.mk 11 ps nm t nz z ob bi [x]) := ⟨_, rfl⟩
   have ET := Zb (show nm.data.toList ++ ([32, 58, 61, 32] ++ (ex x ++ [59])) = TT by rw [hTT]; simp [smT])
   rw [← hTT] at hl ⊢
   rw [← ET.out] at hl
   clear hTT
   have HW := Zb (show (Lit.int .i64 11).wf = true by decide)
   have hr0 := hE x (by simp [Nd.kids]) (.inl hx)
   have hk := hkk
   obtain ⟨oa1, cap1, hs, hsh⟩ := hk.kid
   injection hs with hs1 hs2 hs3
   subst hs1 hs3
   obtain ⟨a, rfl, hc1, hc2, hkid⟩ : ∃ a, oa = some a /\ ([x] : List Nd).length <= cap /\ cap <= maxLen /\ ∀ j n, ([x] : List Nd)[j]? = some n -> ZD wB a (9 * j) n := by
    rcases hsh with h | h
    · cases h
    · exact h
   unfold maxLen at hc2
   have hc1 : 1 <= cap := by simpa using hc1
   replace hs2 : len = 1 := by simpa using hs2
   subst hs2
   have kA0 := Zb (hkid 0 _ rfl)
   clear hkid hsh
   obtain ⟨T0, hT0⟩ : ∃ T0, T0 = ex x := ⟨_, rfl⟩
   have HR0 := Zb (fun (w' : World) (g' : Nat) (bo' : Option Nat) (l' : List UInt8) (b1' b2' : Nat) (v' : Value) hp' hB' hv' hl' => hr0 w' g' bo' l' b1' b2' v' hp' hB' hv' (by rw [← hT0]; exact hl'))
   rw [← hT0] at hl HR0 ET
   clear hr0 hT0 hk hln
   have HL := Zb hl
   have HKK := Zb hkk
   have HE := Zb hE
   have hb1 := Zd w (.cells #[.int .i64 11, .int .i64 ps, .string nm, .int .i64 t, .int .i64 nz, .int .i64 z, .int .i64 ob, .int .u64 bi, .slice (some a) 1 cap] 29)
   have Na0 := Zb (show Nod (w.alloc (.cells #[.int .i64 11, .int .i64 ps, .string nm, .int .i64 t, .int .i64 nz, .int .i64 z, .int .i64 ob, .int .u64 bi, .slice (some a) 1 cap] 29)) w.heap.size (.int .i64 11) (.int .i64 ps) (.string nm) (.int .i64 t) (.int .i64 nz) (.int .i64 z) (.int .i64 ob) (.int .u64 bi) (.slice (some a) 1 cap) from B_ _ _)
   have Qa0 := Zb (hp.pg.new (Nat.le_refl w.heap.size))
   have M0 := Zb (hp.bel hb1)
   have F0 := Zb (Fx.of_bel (g := g) (bo := bo) hb1)
   have W0 := Zb (hB.trans (hb1.mono hB.size))
   have S1 := Zb (show w.heap.size + 1 = (w.alloc (.cells #[.int .i64 11, .int .i64 ps, .string nm, .int .i64 t, .int .i64 nz, .int .i64 z, .int .i64 ob, .int .u64 bi, .slice (some a) 1 cap] 29)).heap.size by simp)
   clear hp hB hl hb1 hkk hE hD hv0 hin hsh
   go_enter Tryz.func181, Tryz.ntmps181
   go_wp2_with fail
   generalize w.alloc _ = w1 at *
   refine (ZB M0.out.pg (w.heap.size + 1) S1.out [nm, ⟨#[32, 58, 61, 32]⟩] 2 (by simp) (by have hz := HL.out; have z0 := Ym nm ⟨#[32, 58, 61, 32]⟩; simp only [List.length_append, List.length_cons, List.length_nil] at *; omega)).mono ?_
   rintro e y0 ⟨rfl, bb0, pp, tt⟩
   have M1 := Zb (M0.out.step pp tt)
   have F1 := Zb (F0.out.trans tt)
   have W1 := Zb (W0.out.trans (tt.bel M0.out.pg))
   have Na1 := Zb (Nod.fx Na0.out tt Qa0.out.1 Qa0.out.2)
   have Qa1 := Zb (And.intro Qa0.out.1 (tt.ne (Ze Na0.out) Qa0.out.2))
   clear pp tt M0 F0 W0 Na0 Qa0 
   obtain ⟨kd0, ps0, nm0, t0, nz0, z0, ob0, bi0, ks0⟩ := x
   obtain ⟨oa0, len0, cap0, at0, hx0⟩ := Yi kA0.out W1.out
   rw [Nat.zero_mul, ZO] at at0
   obtain ⟨c0, c1, c2, c3, c4, c5, c6, c7, c8⟩ := at0
   have HX0 := Zb hx0
   clear hx0
   obtain ⟨_, va0, va1, va2, va3, va4, va5, va6, va7, va8⟩ := Na1.out.all
   go_wp2_with fail
   refine (HR0.out y0 g _ _ b1 b2 _ M1.out W1.out HX0.out (by have hz := HL.out; have z0 := Ym nm ⟨#[32, 58, 61, 32]⟩; simp only [List.length_append, List.length_cons, List.length_nil] at *; omega)).mono ?_
   rintro e y1 ⟨rfl, bb1, pp, tt⟩
   have M2 := Zb (pp)
   have F2 := Zb (F1.out.trans tt)
   have W2 := Zb (W1.out.trans (tt.bel M1.out.pg))
   have Na2 := Zb (Nod.fx Na1.out tt Qa1.out.1 Qa1.out.2)
   have Qa2 := Zb (And.intro Qa1.out.1 (tt.ne (Ze Na1.out) Qa1.out.2))
   clear pp tt M1 F1 W1 Na1 Qa1 va0 va1 va2 va3 va4 va5 va6 va7 va8 c0 c1 c2 c3 c4 c5 c6 c7 c8 HX0
   obtain ⟨_, va0, va1, va2, va3, va4, va5, va6, va7, va8⟩ := Na2.out.all
   go_wp2_with fail
   refine (ZB M2.out.pg _ rfl [⟨#[59]⟩] 1 (by simp) (by have hz := HL.out; have z0 := Ym nm ⟨#[32, 58, 61, 32]⟩; have z1 := Zw ⟨#[59]⟩; simp only [List.length_append, List.length_cons, List.length_nil] at *; omega)).mono ?_
   rintro e y2 ⟨rfl, bb2, pp, tt⟩
   have M3 := Zb (M2.out.step pp tt)
   have F3 := Zb (F2.out.trans tt)
   have W3 := Zb (W2.out.trans (tt.bel M2.out.pg))
   have Na3 := Zb (Nod.fx Na2.out tt Qa2.out.1 Qa2.out.2)
   have Qa3 := Zb (And.intro Qa2.out.1 (tt.ne (Ze Na2.out) Qa2.out.2))
   clear pp tt M2 F2 W2 Na2 Qa2 va0 va1 va2 va3 va4 va5 va6 va7 va8
   go_wp2_with fail
   go_end0
   exact ⟨rfl, _, by rw [← ET.out]; have hm := M3.out; simpa [Zv, clT] using hm, F3.out⟩
 by_cases h14 : kd = 14
 · subst h14
   obtain ⟨TT, hTT⟩ : ∃ TT, TT = smT ex bd (.mk 14 ps nm t nz z ob bi ks) := ⟨_, rfl⟩
   have ET := Zb (show Zz 14 ++ ([32] ++ (nm.data.toList ++ [59])) = TT by rw [hTT]; simp [smT])
   rw [← hTT] at hl ⊢
   rw [← ET.out] at hl
   clear hTT
   have HW := Zb (show (Lit.int .i64 14).wf = true by decide)
   have HL := Zb hl
   have HKK := Zb hkk
   have HE := Zb hE
   have hb1 := Zd w (.cells #[.int .i64 14, .int .i64 ps, .string nm, .int .i64 t, .int .i64 nz, .int .i64 z, .int .i64 ob, .int .u64 bi, .slice oa len cap] 29)
   have Na0 := Zb (show Nod (w.alloc (.cells #[.int .i64 14, .int .i64 ps, .string nm, .int .i64 t, .int .i64 nz, .int .i64 z, .int .i64 ob, .int .u64 bi, .slice oa len cap] 29)) w.heap.size (.int .i64 14) (.int .i64 ps) (.string nm) (.int .i64 t) (.int .i64 nz) (.int .i64 z) (.int .i64 ob) (.int .u64 bi) (.slice oa len cap) from B_ _ _)
   have Qa0 := Zb (hp.pg.new (Nat.le_refl w.heap.size))
   have M0 := Zb (hp.bel hb1)
   have F0 := Zb (Fx.of_bel (g := g) (bo := bo) hb1)
   have W0 := Zb (hB.trans (hb1.mono hB.size))
   have S1 := Zb (show w.heap.size + 1 = (w.alloc (.cells #[.int .i64 14, .int .i64 ps, .string nm, .int .i64 t, .int .i64 nz, .int .i64 z, .int .i64 ob, .int .u64 bi, .slice oa len cap] 29)).heap.size by simp)
   clear hp hB hl hb1 hkk hE hD hv0 hin hsh hln
   go_enter Tryz.func181, Tryz.ntmps181
   go_wp2_with fail
   generalize w.alloc _ = w1 at *
   refine (ZT M0.out 14 ps nm t nz z ob bi oa len cap HW.out (w.heap.size + 1) S1.out [⟨#[32]⟩, nm] 2 (by simp) (by have hz := HL.out; have z0 := Ym ⟨#[32]⟩ nm; simp only [List.length_append, List.length_cons, List.length_nil] at *; omega)).mono ?_
   rintro e y0 ⟨rfl, bb0, pp, tt⟩
   have M1 := Zb (pp)
   have F1 := Zb (F0.out.trans tt)
   have W1 := Zb (W0.out.trans (tt.bel M0.out.pg))
   have Na1 := Zb (Nod.fx Na0.out tt Qa0.out.1 Qa0.out.2)
   have Qa1 := Zb (And.intro Qa0.out.1 (tt.ne (Ze Na0.out) Qa0.out.2))
   clear pp tt M0 F0 W0 Na0 Qa0 
   go_wp2_with fail
   refine (ZB M1.out.pg _ rfl [⟨#[59]⟩] 1 (by simp) (by have hz := HL.out; have z0 := Ym ⟨#[32]⟩ nm; have z1 := Zw ⟨#[59]⟩; simp only [List.length_append, List.length_cons, List.length_nil] at *; omega)).mono ?_
   rintro e y1 ⟨rfl, bb1, pp, tt⟩
   have M2 := Zb (M1.out.step pp tt)
   have F2 := Zb (F1.out.trans tt)
   have W2 := Zb (W1.out.trans (tt.bel M1.out.pg))
   have Na2 := Zb (Nod.fx Na1.out tt Qa1.out.1 Qa1.out.2)
   have Qa2 := Zb (And.intro Qa1.out.1 (tt.ne (Ze Na1.out) Qa1.out.2))
   clear pp tt M1 F1 W1 Na1 Qa1 
   go_wp2_with fail
   go_end0
   exact ⟨rfl, _, by rw [← ET.out]; have hm := M2.out; simpa [Zv, clT] using hm, F2.out⟩
 by_cases h15 : kd = 15
 · subst h15
   obtain ⟨TT, hTT⟩ : ∃ TT, TT = smT ex bd (.mk 15 ps nm t nz z ob bi ks) := ⟨_, rfl⟩
   have ET := Zb (show Zz 15 ++ ([32] ++ (nm.data.toList ++ [59])) = TT by rw [hTT]; simp [smT])
   rw [← hTT] at hl ⊢
   rw [← ET.out] at hl
   clear hTT
   have HW := Zb (show (Lit.int .i64 15).wf = true by decide)
   have HL := Zb hl
   have HKK := Zb hkk
   have HE := Zb hE
   have hb1 := Zd w (.cells #[.int .i64 15, .int .i64 ps, .string nm, .int .i64 t, .int .i64 nz, .int .i64 z, .int .i64 ob, .int .u64 bi, .slice oa len cap] 29)
   have Na0 := Zb (show Nod (w.alloc (.cells #[.int .i64 15, .int .i64 ps, .string nm, .int .i64 t, .int .i64 nz, .int .i64 z, .int .i64 ob, .int .u64 bi, .slice oa len cap] 29)) w.heap.size (.int .i64 15) (.int .i64 ps) (.string nm) (.int .i64 t) (.int .i64 nz) (.int .i64 z) (.int .i64 ob) (.int .u64 bi) (.slice oa len cap) from B_ _ _)
   have Qa0 := Zb (hp.pg.new (Nat.le_refl w.heap.size))
   have M0 := Zb (hp.bel hb1)
   have F0 := Zb (Fx.of_bel (g := g) (bo := bo) hb1)
   have W0 := Zb (hB.trans (hb1.mono hB.size))
   have S1 := Zb (show w.heap.size + 1 = (w.alloc (.cells #[.int .i64 15, .int .i64 ps, .string nm, .int .i64 t, .int .i64 nz, .int .i64 z, .int .i64 ob, .int .u64 bi, .slice oa len cap] 29)).heap.size by simp)
   clear hp hB hl hb1 hkk hE hD hv0 hin hsh hln
   go_enter Tryz.func181, Tryz.ntmps181
   go_wp2_with fail
   generalize w.alloc _ = w1 at *
   refine (ZT M0.out 15 ps nm t nz z ob bi oa len cap HW.out (w.heap.size + 1) S1.out [⟨#[32]⟩, nm] 2 (by simp) (by have hz := HL.out; have z0 := Ym ⟨#[32]⟩ nm; simp only [List.length_append, List.length_cons, List.length_nil] at *; omega)).mono ?_
   rintro e y0 ⟨rfl, bb0, pp, tt⟩
   have M1 := Zb (pp)
   have F1 := Zb (F0.out.trans tt)
   have W1 := Zb (W0.out.trans (tt.bel M0.out.pg))
   have Na1 := Zb (Nod.fx Na0.out tt Qa0.out.1 Qa0.out.2)
   have Qa1 := Zb (And.intro Qa0.out.1 (tt.ne (Ze Na0.out) Qa0.out.2))
   clear pp tt M0 F0 W0 Na0 Qa0 
   go_wp2_with fail
   refine (ZB M1.out.pg _ rfl [⟨#[59]⟩] 1 (by simp) (by have hz := HL.out; have z0 := Ym ⟨#[32]⟩ nm; have z1 := Zw ⟨#[59]⟩; simp only [List.length_append, List.length_cons, List.length_nil] at *; omega)).mono ?_
   rintro e y1 ⟨rfl, bb1, pp, tt⟩
   have M2 := Zb (M1.out.step pp tt)
   have F2 := Zb (F1.out.trans tt)
   have W2 := Zb (W1.out.trans (tt.bel M1.out.pg))
   have Na2 := Zb (Nod.fx Na1.out tt Qa1.out.1 Qa1.out.2)
   have Qa2 := Zb (And.intro Qa1.out.1 (tt.ne (Ze Na1.out) Qa1.out.2))
   clear pp tt M1 F1 W1 Na1 Qa1 
   go_wp2_with fail
   go_end0
   exact ⟨rfl, _, by rw [← ET.out]; have hm := M2.out; simpa [Zv, clT] using hm, F2.out⟩
 by_cases h24 : kd = 24
 · subst h24
   obtain ⟨x, rfl, hx⟩ := Yg (ks := ks) (by simp [str] at hin; exact hin.1)
   obtain ⟨TT, hTT⟩ : ∃ TT, TT = smT ex bd (.mk 24 ps nm t nz z ob bi [x]) := ⟨_, rfl⟩
   have ET := Zb (show Zz 24 ++ ([32] ++ (ex x ++ [59])) = TT by rw [hTT]; simp [smT])
   rw [← hTT] at hl ⊢
   rw [← ET.out] at hl
   clear hTT
   have HW := Zb (show (Lit.int .i64 24).wf = true by decide)
   have hr0 := hE x (by simp [Nd.kids]) (.inl hx)
   have hk := hkk
   obtain ⟨oa1, cap1, hs, hsh⟩ := hk.kid
   injection hs with hs1 hs2 hs3
   subst hs1 hs3
   obtain ⟨a, rfl, hc1, hc2, hkid⟩ : ∃ a, oa = some a /\ ([x] : List Nd).length <= cap /\ cap <= maxLen /\ ∀ j n, ([x] : List Nd)[j]? = some n -> ZD wB a (9 * j) n := by
    rcases hsh with h | h
    · cases h
    · exact h
   unfold maxLen at hc2
   have hc1 : 1 <= cap := by simpa using hc1
   replace hs2 : len = 1 := by simpa using hs2
   subst hs2
   have kA0 := Zb (hkid 0 _ rfl)
   clear hkid hsh
   obtain ⟨T0, hT0⟩ : ∃ T0, T0 = ex x := ⟨_, rfl⟩
   have HR0 := Zb (fun (w' : World) (g' : Nat) (bo' : Option Nat) (l' : List UInt8) (b1' b2' : Nat) (v' : Value) hp' hB' hv' hl' => hr0 w' g' bo' l' b1' b2' v' hp' hB' hv' (by rw [← hT0]; exact hl'))
   rw [← hT0] at hl HR0 ET
   clear hr0 hT0 hk hln
   have HL := Zb hl
   have HKK := Zb hkk
   have HE := Zb hE
   have hb1 := Zd w (.cells #[.int .i64 24, .int .i64 ps, .string nm, .int .i64 t, .int .i64 nz, .int .i64 z, .int .i64 ob, .int .u64 bi, .slice (some a) 1 cap] 29)
   have Na0 := Zb (show Nod (w.alloc (.cells #[.int .i64 24, .int .i64 ps, .string nm, .int .i64 t, .int .i64 nz, .int .i64 z, .int .i64 ob, .int .u64 bi, .slice (some a) 1 cap] 29)) w.heap.size (.int .i64 24) (.int .i64 ps) (.string nm) (.int .i64 t) (.int .i64 nz) (.int .i64 z) (.int .i64 ob) (.int .u64 bi) (.slice (some a) 1 cap) from B_ _ _)
   have Qa0 := Zb (hp.pg.new (Nat.le_refl w.heap.size))
   have M0 := Zb (hp.bel hb1)
   have F0 := Zb (Fx.of_bel (g := g) (bo := bo) hb1)
   have W0 := Zb (hB.trans (hb1.mono hB.size))
   have S1 := Zb (show w.heap.size + 1 = (w.alloc (.cells #[.int .i64 24, .int .i64 ps, .string nm, .int .i64 t, .int .i64 nz, .int .i64 z, .int .i64 ob, .int .u64 bi, .slice (some a) 1 cap] 29)).heap.size by simp)
   clear hp hB hl hb1 hkk hE hD hv0 hin hsh
   go_enter Tryz.func181, Tryz.ntmps181
   go_wp2_with fail
   generalize w.alloc _ = w1 at *
   refine (ZT M0.out 24 ps nm t nz z ob bi (some a) 1 cap HW.out (w.heap.size + 1) S1.out [⟨#[32]⟩] 1 (by simp) (by have hz := HL.out; have z0 := Zw ⟨#[32]⟩; simp only [List.length_append, List.length_cons, List.length_nil] at *; omega)).mono ?_
   rintro e y0 ⟨rfl, bb0, pp, tt⟩
   have M1 := Zb (pp)
   have F1 := Zb (F0.out.trans tt)
   have W1 := Zb (W0.out.trans (tt.bel M0.out.pg))
   have Na1 := Zb (Nod.fx Na0.out tt Qa0.out.1 Qa0.out.2)
   have Qa1 := Zb (And.intro Qa0.out.1 (tt.ne (Ze Na0.out) Qa0.out.2))
   clear pp tt M0 F0 W0 Na0 Qa0 
   obtain ⟨kd0, ps0, nm0, t0, nz0, z0, ob0, bi0, ks0⟩ := x
   obtain ⟨oa0, len0, cap0, at0, hx0⟩ := Yi kA0.out W1.out
   rw [Nat.zero_mul, ZO] at at0
   obtain ⟨c0, c1, c2, c3, c4, c5, c6, c7, c8⟩ := at0
   have HX0 := Zb hx0
   clear hx0
   obtain ⟨_, va0, va1, va2, va3, va4, va5, va6, va7, va8⟩ := Na1.out.all
   go_wp2_with fail
   refine (HR0.out y0 g _ _ b1 b2 _ M1.out W1.out HX0.out (by have hz := HL.out; have z0 := Zw ⟨#[32]⟩; simp only [List.length_append, List.length_cons, List.length_nil] at *; omega)).mono ?_
   rintro e y1 ⟨rfl, bb1, pp, tt⟩
   have M2 := Zb (pp)
   have F2 := Zb (F1.out.trans tt)
   have W2 := Zb (W1.out.trans (tt.bel M1.out.pg))
   have Na2 := Zb (Nod.fx Na1.out tt Qa1.out.1 Qa1.out.2)
   have Qa2 := Zb (And.intro Qa1.out.1 (tt.ne (Ze Na1.out) Qa1.out.2))
   clear pp tt M1 F1 W1 Na1 Qa1 va0 va1 va2 va3 va4 va5 va6 va7 va8 c0 c1 c2 c3 c4 c5 c6 c7 c8 HX0
   obtain ⟨_, va0, va1, va2, va3, va4, va5, va6, va7, va8⟩ := Na2.out.all
   go_wp2_with fail
   refine (ZB M2.out.pg _ rfl [⟨#[59]⟩] 1 (by simp) (by have hz := HL.out; have z0 := Zw ⟨#[32]⟩; have z1 := Zw ⟨#[59]⟩; simp only [List.length_append, List.length_cons, List.length_nil] at *; omega)).mono ?_
   rintro e y2 ⟨rfl, bb2, pp, tt⟩
   have M3 := Zb (M2.out.step pp tt)
   have F3 := Zb (F2.out.trans tt)
   have W3 := Zb (W2.out.trans (tt.bel M2.out.pg))
   have Na3 := Zb (Nod.fx Na2.out tt Qa2.out.1 Qa2.out.2)
   have Qa3 := Zb (And.intro Qa2.out.1 (tt.ne (Ze Na2.out) Qa2.out.2))
   clear pp tt M2 F2 W2 Na2 Qa2 va0 va1 va2 va3 va4 va5 va6 va7 va8
   go_wp2_with fail
   go_end0
   exact ⟨rfl, _, by rw [← ET.out]; have hm := M3.out; simpa [Zv, clT] using hm, F3.out⟩
 by_cases h16 : kd = 16
 · subst h16
   obtain ⟨x, rfl, hx⟩ := Yg (ks := ks) (by simp [str] at hin; exact hin.2.1)
   obtain ⟨TT, hTT⟩ : ∃ TT, TT = smT ex bd (.mk 16 ps nm t nz z ob bi [x]) := ⟨_, rfl⟩
   have ET := Zb (show Zz 16 ++ ([32] ++ (nm.data.toList ++ ([44, 32] ++ (ex x ++ [59])))) = TT by rw [hTT]; simp [smT])
   rw [← hTT] at hl ⊢
   rw [← ET.out] at hl
   clear hTT
   have HW := Zb (show (Lit.int .i64 16).wf = true by decide)
   have hr0 := hE x (by simp [Nd.kids]) (.inl hx)
   have hk := hkk
   obtain ⟨oa1, cap1, hs, hsh⟩ := hk.kid
   injection hs with hs1 hs2 hs3
   subst hs1 hs3
   obtain ⟨a, rfl, hc1, hc2, hkid⟩ : ∃ a, oa = some a /\ ([x] : List Nd).length <= cap /\ cap <= maxLen /\ ∀ j n, ([x] : List Nd)[j]? = some n -> ZD wB a (9 * j) n := by
    rcases hsh with h | h
    · cases h
    · exact h
   unfold maxLen at hc2
   have hc1 : 1 <= cap := by simpa using hc1
   replace hs2 : len = 1 := by simpa using hs2
   subst hs2
   have kA0 := Zb (hkid 0 _ rfl)
   clear hkid hsh
   obtain ⟨T0, hT0⟩ : ∃ T0, T0 = ex x := ⟨_, rfl⟩
   have HR0 := Zb (fun (w' : World) (g' : Nat) (bo' : Option Nat) (l' : List UInt8) (b1' b2' : Nat) (v' : Value) hp' hB' hv' hl' => hr0 w' g' bo' l' b1' b2' v' hp' hB' hv' (by rw [← hT0]; exact hl'))
   rw [← hT0] at hl HR0 ET
   clear hr0 hT0 hk hln
   have HL := Zb hl
   have HKK := Zb hkk
   have HE := Zb hE
   have hb1 := Zd w (.cells #[.int .i64 16, .int .i64 ps, .string nm, .int .i64 t, .int .i64 nz, .int .i64 z, .int .i64 ob, .int .u64 bi, .slice (some a) 1 cap] 29)
   have Na0 := Zb (show Nod (w.alloc (.cells #[.int .i64 16, .int .i64 ps, .string nm, .int .i64 t, .int .i64 nz, .int .i64 z, .int .i64 ob, .int .u64 bi, .slice (some a) 1 cap] 29)) w.heap.size (.int .i64 16) (.int .i64 ps) (.string nm) (.int .i64 t) (.int .i64 nz) (.int .i64 z) (.int .i64 ob) (.int .u64 bi) (.slice (some a) 1 cap) from B_ _ _)
   have Qa0 := Zb (hp.pg.new (Nat.le_refl w.heap.size))
   have M0 := Zb (hp.bel hb1)
   have F0 := Zb (Fx.of_bel (g := g) (bo := bo) hb1)
   have W0 := Zb (hB.trans (hb1.mono hB.size))
   have S1 := Zb (show w.heap.size + 1 = (w.alloc (.cells #[.int .i64 16, .int .i64 ps, .string nm, .int .i64 t, .int .i64 nz, .int .i64 z, .int .i64 ob, .int .u64 bi, .slice (some a) 1 cap] 29)).heap.size by simp)
   clear hp hB hl hb1 hkk hE hD hv0 hin hsh
   go_enter Tryz.func181, Tryz.ntmps181
   go_wp2_with fail
   generalize w.alloc _ = w1 at *
   refine (ZT M0.out 16 ps nm t nz z ob bi (some a) 1 cap HW.out (w.heap.size + 1) S1.out [⟨#[32]⟩, nm, ⟨#[44, 32]⟩] 3 (by simp) (by have hz := HL.out; have z0 := Yp ⟨#[32]⟩ nm ⟨#[44, 32]⟩; simp only [List.length_append, List.length_cons, List.length_nil] at *; omega)).mono ?_
   rintro e y0 ⟨rfl, bb0, pp, tt⟩
   have M1 := Zb (pp)
   have F1 := Zb (F0.out.trans tt)
   have W1 := Zb (W0.out.trans (tt.bel M0.out.pg))
   have Na1 := Zb (Nod.fx Na0.out tt Qa0.out.1 Qa0.out.2)
   have Qa1 := Zb (And.intro Qa0.out.1 (tt.ne (Ze Na0.out) Qa0.out.2))
   clear pp tt M0 F0 W0 Na0 Qa0 
   obtain ⟨kd0, ps0, nm0, t0, nz0, z0, ob0, bi0, ks0⟩ := x
   obtain ⟨oa0, len0, cap0, at0, hx0⟩ := Yi kA0.out W1.out
   rw [Nat.zero_mul, ZO] at at0
   obtain ⟨c0, c1, c2, c3, c4, c5, c6, c7, c8⟩ := at0
   have HX0 := Zb hx0
   clear hx0
   obtain ⟨_, va0, va1, va2, va3, va4, va5, va6, va7, va8⟩ := Na1.out.all
   go_wp2_with fail
   refine (HR0.out y0 g _ _ b1 b2 _ M1.out W1.out HX0.out (by have hz := HL.out; have z0 := Yp ⟨#[32]⟩ nm ⟨#[44, 32]⟩; simp only [List.length_append, List.length_cons, List.length_nil] at *; omega)).mono ?_
   rintro e y1 ⟨rfl, bb1, pp, tt⟩
   have M2 := Zb (pp)
   have F2 := Zb (F1.out.trans tt)
   have W2 := Zb (W1.out.trans (tt.bel M1.out.pg))
   have Na2 := Zb (Nod.fx Na1.out tt Qa1.out.1 Qa1.out.2)
   have Qa2 := Zb (And.intro Qa1.out.1 (tt.ne (Ze Na1.out) Qa1.out.2))
   clear pp tt M1 F1 W1 Na1 Qa1 va0 va1 va2 va3 va4 va5 va6 va7 va8 c0 c1 c2 c3 c4 c5 c6 c7 c8 HX0
   obtain ⟨_, va0, va1, va2, va3, va4, va5, va6, va7, va8⟩ := Na2.out.all
   go_wp2_with fail
   refine (ZB M2.out.pg _ rfl [⟨#[59]⟩] 1 (by simp) (by have hz := HL.out; have z0 := Yp ⟨#[32]⟩ nm ⟨#[44, 32]⟩; have z1 := Zw ⟨#[59]⟩; simp only [List.length_append, List.length_cons, List.length_nil] at *; omega)).mono ?_
   rintro e y2 ⟨rfl, bb2, pp, tt⟩
   have M3 := Zb (M2.out.step pp tt)
   have F3 := Zb (F2.out.trans tt)
   have W3 := Zb (W2.out.trans (tt.bel M2.out.pg))
   have Na3 := Zb (Nod.fx Na2.out tt Qa2.out.1 Qa2.out.2)
   have Qa3 := Zb (And.intro Qa2.out.1 (tt.ne (Ze Na2.out) Qa2.out.2))
   clear pp tt M2 F2 W2 Na2 Qa2 va0 va1 va2 va3 va4 va5 va6 va7 va8
   go_wp2_with fail
   go_end0
   exact ⟨rfl, _, by rw [← ET.out]; have hm := M3.out; simpa [Zv, clT] using hm, F3.out⟩
 by_cases h18 : kd = 18
 · subst h18
   obtain ⟨x, rfl, hx⟩ := Yg (ks := ks) (by simp [str] at hin; exact hin.2.1)
   obtain ⟨TT, hTT⟩ : ∃ TT, TT = smT ex bd (.mk 18 ps nm t nz z ob bi [x]) := ⟨_, rfl⟩
   have ET := Zb (show Zz 18 ++ ([32] ++ (nm.data.toList ++ ([44, 32] ++ (ex x ++ [59])))) = TT by rw [hTT]; simp [smT])
   rw [← hTT] at hl ⊢
   rw [← ET.out] at hl
   clear hTT
   have HW := Zb (show (Lit.int .i64 18).wf = true by decide)
   have hr0 := hE x (by simp [Nd.kids]) (.inl hx)
   have hk := hkk
   obtain ⟨oa1, cap1, hs, hsh⟩ := hk.kid
   injection hs with hs1 hs2 hs3
   subst hs1 hs3
   obtain ⟨a, rfl, hc1, hc2, hkid⟩ : ∃ a, oa = some a /\ ([x] : List Nd).length <= cap /\ cap <= maxLen /\ ∀ j n, ([x] : List Nd)[j]? = some n -> ZD wB a (9 * j) n := by
    rcases hsh with h | h
    · cases h
    · exact h
   unfold maxLen at hc2
   have hc1 : 1 <= cap := by simpa using hc1
   replace hs2 : len = 1 := by simpa using hs2
   subst hs2
   have kA0 := Zb (hkid 0 _ rfl)
   clear hkid hsh
   obtain ⟨T0, hT0⟩ : ∃ T0, T0 = ex x := ⟨_, rfl⟩
   have HR0 := Zb (fun (w' : World) (g' : Nat) (bo' : Option Nat) (l' : List UInt8) (b1' b2' : Nat) (v' : Value) hp' hB' hv' hl' => hr0 w' g' bo' l' b1' b2' v' hp' hB' hv' (by rw [← hT0]; exact hl'))
   rw [← hT0] at hl HR0 ET
   clear hr0 hT0 hk hln
   have HL := Zb hl
   have HKK := Zb hkk
   have HE := Zb hE
   have hb1 := Zd w (.cells #[.int .i64 18, .int .i64 ps, .string nm, .int .i64 t, .int .i64 nz, .int .i64 z, .int .i64 ob, .int .u64 bi, .slice (some a) 1 cap] 29)
   have Na0 := Zb (show Nod (w.alloc (.cells #[.int .i64 18, .int .i64 ps, .string nm, .int .i64 t, .int .i64 nz, .int .i64 z, .int .i64 ob, .int .u64 bi, .slice (some a) 1 cap] 29)) w.heap.size (.int .i64 18) (.int .i64 ps) (.string nm) (.int .i64 t) (.int .i64 nz) (.int .i64 z) (.int .i64 ob) (.int .u64 bi) (.slice (some a) 1 cap) from B_ _ _)
   have Qa0 := Zb (hp.pg.new (Nat.le_refl w.heap.size))
   have M0 := Zb (hp.bel hb1)
   have F0 := Zb (Fx.of_bel (g := g) (bo := bo) hb1)
   have W0 := Zb (hB.trans (hb1.mono hB.size))
   have S1 := Zb (show w.heap.size + 1 = (w.alloc (.cells #[.int .i64 18, .int .i64 ps, .string nm, .int .i64 t, .int .i64 nz, .int .i64 z, .int .i64 ob, .int .u64 bi, .slice (some a) 1 cap] 29)).heap.size by simp)
   clear hp hB hl hb1 hkk hE hD hv0 hin hsh
   go_enter Tryz.func181, Tryz.ntmps181
   go_wp2_with fail
   generalize w.alloc _ = w1 at *
   refine (ZT M0.out 18 ps nm t nz z ob bi (some a) 1 cap HW.out (w.heap.size + 1) S1.out [⟨#[32]⟩, nm, ⟨#[44, 32]⟩] 3 (by simp) (by have hz := HL.out; have z0 := Yp ⟨#[32]⟩ nm ⟨#[44, 32]⟩; simp only [List.length_append, List.length_cons, List.length_nil] at *; omega)).mono ?_
   rintro e y0 ⟨rfl, bb0, pp, tt⟩
   have M1 := Zb (pp)
   have F1 := Zb (F0.out.trans tt)
   have W1 := Zb (W0.out.trans (tt.bel M0.out.pg))
   have Na1 := Zb (Nod.fx Na0.out tt Qa0.out.1 Qa0.out.2)
   have Qa1 := Zb (And.intro Qa0.out.1 (tt.ne (Ze Na0.out) Qa0.out.2))
   clear pp tt M0 F0 W0 Na0 Qa0 
   obtain ⟨kd0, ps0, nm0, t0, nz0, z0, ob0, bi0, ks0⟩ := x
   obtain ⟨oa0, len0, cap0, at0, hx0⟩ := Yi kA0.out W1.out
   rw [Nat.zero_mul, ZO] at at0
   obtain ⟨c0, c1, c2, c3, c4, c5, c6, c7, c8⟩ := at0
   have HX0 := Zb hx0
   clear hx0
   obtain ⟨_, va0, va1, va2, va3, va4, va5, va6, va7, va8⟩ := Na1.out.all
   go_wp2_with fail
   refine (HR0.out y0 g _ _ b1 b2 _ M1.out W1.out HX0.out (by have hz := HL.out; have z0 := Yp ⟨#[32]⟩ nm ⟨#[44, 32]⟩; simp only [List.length_append, List.length_cons, List.length_nil] at *; omega)).mono ?_
   rintro e y1 ⟨rfl, bb1, pp, tt⟩
   have M2 := Zb (pp)
   have F2 := Zb (F1.out.trans tt)
   have W2 := Zb (W1.out.trans (tt.bel M1.out.pg))
   have Na2 := Zb (Nod.fx Na1.out tt Qa1.out.1 Qa1.out.2)
   have Qa2 := Zb (And.intro Qa1.out.1 (tt.ne (Ze Na1.out) Qa1.out.2))
   clear pp tt M1 F1 W1 Na1 Qa1 va0 va1 va2 va3 va4 va5 va6 va7 va8 c0 c1 c2 c3 c4 c5 c6 c7 c8 HX0
   obtain ⟨_, va0, va1, va2, va3, va4, va5, va6, va7, va8⟩ := Na2.out.all
   go_wp2_with fail
   refine (ZB M2.out.pg _ rfl [⟨#[59]⟩] 1 (by simp) (by have hz := HL.out; have z0 := Yp ⟨#[32]⟩ nm ⟨#[44, 32]⟩; have z1 := Zw ⟨#[59]⟩; simp only [List.length_append, List.length_cons, List.length_nil] at *; omega)).mono ?_
   rintro e y2 ⟨rfl, bb2, pp, tt⟩
   have M3 := Zb (M2.out.step pp tt)
   have F3 := Zb (F2.out.trans tt)
   have W3 := Zb (W2.out.trans (tt.bel M2.out.pg))
   have Na3 := Zb (Nod.fx Na2.out tt Qa2.out.1 Qa2.out.2)
   have Qa3 := Zb (And.intro Qa2.out.1 (tt.ne (Ze Na2.out) Qa2.out.2))
   clear pp tt M2 F2 W2 Na2 Qa2 va0 va1 va2 va3 va4 va5 va6 va7 va8
   go_wp2_with fail
   go_end0
   exact ⟨rfl, _, by rw [← ET.out]; have hm := M3.out; simpa [Zv, clT] using hm, F3.out⟩
 by_cases h19 : kd = 19
 · subst h19
   obtain ⟨x, rfl, hx⟩ := Yg (ks := ks) (by simp [str] at hin; exact hin.2.1)
   obtain ⟨TT, hTT⟩ : ∃ TT, TT = smT ex bd (.mk 19 ps nm t nz z ob bi [x]) := ⟨_, rfl⟩
   have ET := Zb (show Zz 19 ++ ([32] ++ (nm.data.toList ++ ([44, 32] ++ (ex x ++ [59])))) = TT by rw [hTT]; simp [smT])
   rw [← hTT] at hl ⊢
   rw [← ET.out] at hl
   clear hTT
   have HW := Zb (show (Lit.int .i64 19).wf = true by decide)
   have hr0 := hE x (by simp [Nd.kids]) (.inl hx)
   have hk := hkk
   obtain ⟨oa1, cap1, hs, hsh⟩ := hk.kid
   injection hs with hs1 hs2 hs3
   subst hs1 hs3
   obtain ⟨a, rfl, hc1, hc2, hkid⟩ : ∃ a, oa = some a /\ ([x] : List Nd).length <= cap /\ cap <= maxLen /\ ∀ j n, ([x] : List Nd)[j]? = some n -> ZD wB a (9 * j) n := by
    rcases hsh with h | h
    · cases h
    · exact h
   unfold maxLen at hc2
   have hc1 : 1 <= cap := by simpa using hc1
   replace hs2 : len = 1 := by simpa using hs2
   subst hs2
   have kA0 := Zb (hkid 0 _ rfl)
   clear hkid hsh
   obtain ⟨T0, hT0⟩ : ∃ T0, T0 = ex x := ⟨_, rfl⟩
   have HR0 := Zb (fun (w' : World) (g' : Nat) (bo' : Option Nat) (l' : List UInt8) (b1' b2' : Nat) (v' : Value) hp' hB' hv' hl' => hr0 w' g' bo' l' b1' b2' v' hp' hB' hv' (by rw [← hT0]; exact hl'))
   rw [← hT0] at hl HR0 ET
   clear hr0 hT0 hk hln
   have HL := Zb hl
   have HKK := Zb hkk
   have HE := Zb hE
   have hb1 := Zd w (.cells #[.int .i64 19, .int .i64 ps, .string nm, .int .i64 t, .int .i64 nz, .int .i64 z, .int .i64 ob, .int .u64 bi, .slice (some a) 1 cap] 29)
   have Na0 := Zb (show Nod (w.alloc (.cells #[.int .i64 19, .int .i64 ps, .string nm, .int .i64 t, .int .i64 nz, .int .i64 z, .int .i64 ob, .int .u64 bi, .slice (some a) 1 cap] 29)) w.heap.size (.int .i64 19) (.int .i64 ps) (.string nm) (.int .i64 t) (.int .i64 nz) (.int .i64 z) (.int .i64 ob) (.int .u64 bi) (.slice (some a) 1 cap) from B_ _ _)
   have Qa0 := Zb (hp.pg.new (Nat.le_refl w.heap.size))
   have M0 := Zb (hp.bel hb1)
   have F0 := Zb (Fx.of_bel (g := g) (bo := bo) hb1)
   have W0 := Zb (hB.trans (hb1.mono hB.size))
   have S1 := Zb (show w.heap.size + 1 = (w.alloc (.cells #[.int .i64 19, .int .i64 ps, .string nm, .int .i64 t, .int .i64 nz, .int .i64 z, .int .i64 ob, .int .u64 bi, .slice (some a) 1 cap] 29)).heap.size by simp)
   clear hp hB hl hb1 hkk hE hD hv0 hin hsh
   go_enter Tryz.func181, Tryz.ntmps181
   go_wp2_with fail
   generalize w.alloc _ = w1 at *
   refine (ZT M0.out 19 ps nm t nz z ob bi (some a) 1 cap HW.out (w.heap.size + 1) S1.out [⟨#[32]⟩, nm, ⟨#[44, 32]⟩] 3 (by simp) (by have hz := HL.out; have z0 := Yp ⟨#[32]⟩ nm ⟨#[44, 32]⟩; simp only [List.length_append, List.length_cons, List.length_nil] at *; omega)).mono ?_
   rintro e y0 ⟨rfl, bb0, pp, tt⟩
   have M1 := Zb (pp)
   have F1 := Zb (F0.out.trans tt)
   have W1 := Zb (W0.out.trans (tt.bel M0.out.pg))
   have Na1 := Zb (Nod.fx Na0.out tt Qa0.out.1 Qa0.out.2)
   have Qa1 := Zb (And.intro Qa0.out.1 (tt.ne (Ze Na0.out) Qa0.out.2))
   clear pp tt M0 F0 W0 Na0 Qa0 
   obtain ⟨kd0, ps0, nm0, t0, nz0, z0, ob0, bi0, ks0⟩ := x
   obtain ⟨oa0, len0, cap0, at0, hx0⟩ := Yi kA0.out W1.out
   rw [Nat.zero_mul, ZO] at at0
   obtain ⟨c0, c1, c2, c3, c4, c5, c6, c7, c8⟩ := at0
   have HX0 := Zb hx0
   clear hx0
   obtain ⟨_, va0, va1, va2, va3, va4, va5, va6, va7, va8⟩ := Na1.out.all
   go_wp2_with fail
   refine (HR0.out y0 g _ _ b1 b2 _ M1.out W1.out HX0.out (by have hz := HL.out; have z0 := Yp ⟨#[32]⟩ nm ⟨#[44, 32]⟩; simp only [List.length_append, List.length_cons, List.length_nil] at *; omega)).mono ?_
   rintro e y1 ⟨rfl, bb1, pp, tt⟩
   have M2 := Zb (pp)
   have F2 := Zb (F1.out.trans tt)
   have W2 := Zb (W1.out.trans (tt.bel M1.out.pg))
   have Na2 := Zb (Nod.fx Na1.out tt Qa1.out.1 Qa1.out.2)
   have Qa2 := Zb (And.intro Qa1.out.1 (tt.ne (Ze Na1.out) Qa1.out.2))
   clear pp tt M1 F1 W1 Na1 Qa1 va0 va1 va2 va3 va4 va5 va6 va7 va8 c0 c1 c2 c3 c4 c5 c6 c7 c8 HX0
   obtain ⟨_, va0, va1, va2, va3, va4, va5, va6, va7, va8⟩ := Na2.out.all
   go_wp2_with fail
   refine (ZB M2.out.pg _ rfl [⟨#[59]⟩] 1 (by simp) (by have hz := HL.out; have z0 := Yp ⟨#[32]⟩ nm ⟨#[44, 32]⟩; have z1 := Zw ⟨#[59]⟩; simp only [List.length_append, List.length_cons, List.length_nil] at *; omega)).mono ?_
   rintro e y2 ⟨rfl, bb2, pp, tt⟩
   have M3 := Zb (M2.out.step pp tt)
   have F3 := Zb (F2.out.trans tt)
   have W3 := Zb (W2.out.trans (tt.bel M2.out.pg))
   have Na3 := Zb (Nod.fx Na2.out tt Qa2.out.1 Qa2.out.2)
   have Qa3 := Zb (And.intro Qa2.out.1 (tt.ne (Ze Na2.out) Qa2.out.2))
   clear pp tt M2 F2 W2 Na2 Qa2 va0 va1 va2 va3 va4 va5 va6 va7 va8
   go_wp2_with fail
   go_end0
   exact ⟨rfl, _, by rw [← ET.out]; have hm := M3.out; simpa [Zv, clT] using hm, F3.out⟩
 by_cases h17 : kd = 17
 · subst h17
   obtain ⟨x, rfl, hx⟩ := Yg (ks := ks) (by simp [str] at hin; exact hin.2.1)
   obtain ⟨TT, hTT⟩ : ∃ TT, TT = smT ex bd (.mk 17 ps nm t nz z ob bi [x]) := ⟨_, rfl⟩
   have ET := Zb (show Zz 17 ++ ([32] ++ (nm.data.toList ++ ([44, 32] ++ (ex x ++ [59])))) = TT by rw [hTT]; simp [smT])
   rw [← hTT] at hl ⊢
   rw [← ET.out] at hl
   clear hTT
   have HW := Zb (show (Lit.int .i64 17).wf = true by decide)
   have hr0 := hE x (by simp [Nd.kids]) (.inr hx)
   have hk := hkk
   obtain ⟨oa1, cap1, hs, hsh⟩ := hk.kid
   injection hs with hs1 hs2 hs3
   subst hs1 hs3
   obtain ⟨a, rfl, hc1, hc2, hkid⟩ : ∃ a, oa = some a /\ ([x] : List Nd).length <= cap /\ cap <= maxLen /\ ∀ j n, ([x] : List Nd)[j]? = some n -> ZD wB a (9 * j) n := by
    rcases hsh with h | h
    · cases h
    · exact h
   unfold maxLen at hc2
   have hc1 : 1 <= cap := by simpa using hc1
   replace hs2 : len = 1 := by simpa using hs2
   subst hs2
   have kA0 := Zb (hkid 0 _ rfl)
   clear hkid hsh
   obtain ⟨T0, hT0⟩ : ∃ T0, T0 = ex x := ⟨_, rfl⟩
   have HR0 := Zb (fun (w' : World) (g' : Nat) (bo' : Option Nat) (l' : List UInt8) (b1' b2' : Nat) (v' : Value) hp' hB' hv' hl' => hr0 w' g' bo' l' b1' b2' v' hp' hB' hv' (by rw [← hT0]; exact hl'))
   rw [← hT0] at hl HR0 ET
   clear hr0 hT0 hk hln
   have HL := Zb hl
   have HKK := Zb hkk
   have HE := Zb hE
   have hb1 := Zd w (.cells #[.int .i64 17, .int .i64 ps, .string nm, .int .i64 t, .int .i64 nz, .int .i64 z, .int .i64 ob, .int .u64 bi, .slice (some a) 1 cap] 29)
   have Na0 := Zb (show Nod (w.alloc (.cells #[.int .i64 17, .int .i64 ps, .string nm, .int .i64 t, .int .i64 nz, .int .i64 z, .int .i64 ob, .int .u64 bi, .slice (some a) 1 cap] 29)) w.heap.size (.int .i64 17) (.int .i64 ps) (.string nm) (.int .i64 t) (.int .i64 nz) (.int .i64 z) (.int .i64 ob) (.int .u64 bi) (.slice (some a) 1 cap) from B_ _ _)
   have Qa0 := Zb (hp.pg.new (Nat.le_refl w.heap.size))
   have M0 := Zb (hp.bel hb1)
   have F0 := Zb (Fx.of_bel (g := g) (bo := bo) hb1)
   have W0 := Zb (hB.trans (hb1.mono hB.size))
   have S1 := Zb (show w.heap.size + 1 = (w.alloc (.cells #[.int .i64 17, .int .i64 ps, .string nm, .int .i64 t, .int .i64 nz, .int .i64 z, .int .i64 ob, .int .u64 bi, .slice (some a) 1 cap] 29)).heap.size by simp)
   clear hp hB hl hb1 hkk hE hD hv0 hin hsh
   go_enter Tryz.func181, Tryz.ntmps181
   go_wp2_with fail
   generalize w.alloc _ = w1 at *
   refine (ZT M0.out 17 ps nm t nz z ob bi (some a) 1 cap HW.out (w.heap.size + 1) S1.out [⟨#[32]⟩, nm, ⟨#[44, 32]⟩] 3 (by simp) (by have hz := HL.out; have z0 := Yp ⟨#[32]⟩ nm ⟨#[44, 32]⟩; simp only [List.length_append, List.length_cons, List.length_nil] at *; omega)).mono ?_
   rintro e y0 ⟨rfl, bb0, pp, tt⟩
   have M1 := Zb (pp)
   have F1 := Zb (F0.out.trans tt)
   have W1 := Zb (W0.out.trans (tt.bel M0.out.pg))
   have Na1 := Zb (Nod.fx Na0.out tt Qa0.out.1 Qa0.out.2)
   have Qa1 := Zb (And.intro Qa0.out.1 (tt.ne (Ze Na0.out) Qa0.out.2))
   clear pp tt M0 F0 W0 Na0 Qa0 
   obtain ⟨kd0, ps0, nm0, t0, nz0, z0, ob0, bi0, ks0⟩ := x
   obtain ⟨oa0, len0, cap0, at0, hx0⟩ := Yi kA0.out W1.out
   rw [Nat.zero_mul, ZO] at at0
   obtain ⟨c0, c1, c2, c3, c4, c5, c6, c7, c8⟩ := at0
   have HX0 := Zb hx0
   clear hx0
   obtain ⟨_, va0, va1, va2, va3, va4, va5, va6, va7, va8⟩ := Na1.out.all
   go_wp2_with fail
   refine (HR0.out y0 g _ _ b1 b2 _ M1.out W1.out HX0.out (by have hz := HL.out; have z0 := Yp ⟨#[32]⟩ nm ⟨#[44, 32]⟩; simp only [List.length_append, List.length_cons, List.length_nil] at *; omega)).mono ?_
   rintro e y1 ⟨rfl, bb1, pp, tt⟩
   have M2 := Zb (pp)
   have F2 := Zb (F1.out.trans tt)
   have W2 := Zb (W1.out.trans (tt.bel M1.out.pg))
   have Na2 := Zb (Nod.fx Na1.out tt Qa1.out.1 Qa1.out.2)
   have Qa2 := Zb (And.intro Qa1.out.1 (tt.ne (Ze Na1.out) Qa1.out.2))
   clear pp tt M1 F1 W1 Na1 Qa1 va0 va1 va2 va3 va4 va5 va6 va7 va8 c0 c1 c2 c3 c4 c5 c6 c7 c8 HX0
   obtain ⟨_, va0, va1, va2, va3, va4, va5, va6, va7, va8⟩ := Na2.out.all
   go_wp2_with fail
   refine (ZB M2.out.pg _ rfl [⟨#[59]⟩] 1 (by simp) (by have hz := HL.out; have z0 := Yp ⟨#[32]⟩ nm ⟨#[44, 32]⟩; have z1 := Zw ⟨#[59]⟩; simp only [List.length_append, List.length_cons, List.length_nil] at *; omega)).mono ?_
   rintro e y2 ⟨rfl, bb2, pp, tt⟩
   have M3 := Zb (M2.out.step pp tt)
   have F3 := Zb (F2.out.trans tt)
   have W3 := Zb (W2.out.trans (tt.bel M2.out.pg))
   have Na3 := Zb (Nod.fx Na2.out tt Qa2.out.1 Qa2.out.2)
   have Qa3 := Zb (And.intro Qa2.out.1 (tt.ne (Ze Na2.out) Qa2.out.2))
   clear pp tt M2 F2 W2 Na2 Qa2 va0 va1 va2 va3 va4 va5 va6 va7 va8
   go_wp2_with fail
   go_end0
   exact ⟨rfl, _, by rw [← ET.out]; have hm := M3.out; simpa [Zv, clT] using hm, F3.out⟩
 by_cases h20 : kd = 20
 · subst h20
   obtain ⟨x, rfl, hx⟩ := Yg (ks := ks) (by simp [str] at hin; exact hin.2.1)
   obtain ⟨TT, hTT⟩ : ∃ TT, TT = smT ex bd (.mk 20 ps nm t nz z ob bi [x]) := ⟨_, rfl⟩
   have ET := Zb (show Zz 20 ++ ([32] ++ (nm.data.toList ++ ([44, 32] ++ (ex x ++ [59])))) = TT by rw [hTT]; simp [smT])
   rw [← hTT] at hl ⊢
   rw [← ET.out] at hl
   clear hTT
   have HW := Zb (show (Lit.int .i64 20).wf = true by decide)
   have hr0 := hE x (by simp [Nd.kids]) (.inr hx)
   have hk := hkk
   obtain ⟨oa1, cap1, hs, hsh⟩ := hk.kid
   injection hs with hs1 hs2 hs3
   subst hs1 hs3
   obtain ⟨a, rfl, hc1, hc2, hkid⟩ : ∃ a, oa = some a /\ ([x] : List Nd).length <= cap /\ cap <= maxLen /\ ∀ j n, ([x] : List Nd)[j]? = some n -> ZD wB a (9 * j) n := by
    rcases hsh with h | h
    · cases h
    · exact h
   unfold maxLen at hc2
   have hc1 : 1 <= cap := by simpa using hc1
   replace hs2 : len = 1 := by simpa using hs2
   subst hs2
   have kA0 := Zb (hkid 0 _ rfl)
   clear hkid hsh
   obtain ⟨T0, hT0⟩ : ∃ T0, T0 = ex x := ⟨_, rfl⟩
   have HR0 := Zb (fun (w' : World) (g' : Nat) (bo' : Option Nat) (l' : List UInt8) (b1' b2' : Nat) (v' : Value) hp' hB' hv' hl' => hr0 w' g' bo' l' b1' b2' v' hp' hB' hv' (by rw [← hT0]; exact hl'))
   rw [← hT0] at hl HR0 ET
   clear hr0 hT0 hk hln
   have HL := Zb hl
   have HKK := Zb hkk
   have HE := Zb hE
   have hb1 := Zd w (.cells #[.int .i64 20, .int .i64 ps, .string nm, .int .i64 t, .int .i64 nz, .int .i64 z, .int .i64 ob, .int .u64 bi, .slice (some a) 1 cap] 29)
   have Na0 := Zb (show Nod (w.alloc (.cells #[.int .i64 20, .int .i64 ps, .string nm, .int .i64 t, .int .i64 nz, .int .i64 z, .int .i64 ob, .int .u64 bi, .slice (some a) 1 cap] 29)) w.heap.size (.int .i64 20) (.int .i64 ps) (.string nm) (.int .i64 t) (.int .i64 nz) (.int .i64 z) (.int .i64 ob) (.int .u64 bi) (.slice (some a) 1 cap) from B_ _ _)
   have Qa0 := Zb (hp.pg.new (Nat.le_refl w.heap.size))
   have M0 := Zb (hp.bel hb1)
   have F0 := Zb (Fx.of_bel (g := g) (bo := bo) hb1)
   have W0 := Zb (hB.trans (hb1.mono hB.size))
   have S1 := Zb (show w.heap.size + 1 = (w.alloc (.cells #[.int .i64 20, .int .i64 ps, .string nm, .int .i64 t, .int .i64 nz, .int .i64 z, .int .i64 ob, .int .u64 bi, .slice (some a) 1 cap] 29)).heap.size by simp)
   clear hp hB hl hb1 hkk hE hD hv0 hin hsh
   go_enter Tryz.func181, Tryz.ntmps181
   go_wp2_with fail
   generalize w.alloc _ = w1 at *
   refine (ZT M0.out 20 ps nm t nz z ob bi (some a) 1 cap HW.out (w.heap.size + 1) S1.out [⟨#[32]⟩, nm, ⟨#[44, 32]⟩] 3 (by simp) (by have hz := HL.out; have z0 := Yp ⟨#[32]⟩ nm ⟨#[44, 32]⟩; simp only [List.length_append, List.length_cons, List.length_nil] at *; omega)).mono ?_
   rintro e y0 ⟨rfl, bb0, pp, tt⟩
   have M1 := Zb (pp)
   have F1 := Zb (F0.out.trans tt)
   have W1 := Zb (W0.out.trans (tt.bel M0.out.pg))
   have Na1 := Zb (Nod.fx Na0.out tt Qa0.out.1 Qa0.out.2)
   have Qa1 := Zb (And.intro Qa0.out.1 (tt.ne (Ze Na0.out) Qa0.out.2))
   clear pp tt M0 F0 W0 Na0 Qa0 
   obtain ⟨kd0, ps0, nm0, t0, nz0, z0, ob0, bi0, ks0⟩ := x
   obtain ⟨oa0, len0, cap0, at0, hx0⟩ := Yi kA0.out W1.out
   rw [Nat.zero_mul, ZO] at at0
   obtain ⟨c0, c1, c2, c3, c4, c5, c6, c7, c8⟩ := at0
   have HX0 := Zb hx0
   clear hx0
   obtain ⟨_, va0, va1, va2, va3, va4, va5, va6, va7, va8⟩ := Na1.out.all
   go_wp2_with fail
   refine (HR0.out y0 g _ _ b1 b2 _ M1.out W1.out HX0.out (by have hz := HL.out; have z0 := Yp ⟨#[32]⟩ nm ⟨#[44, 32]⟩; simp only [List.length_append, List.length_cons, List.length_nil] at *; omega)).mono ?_
   rintro e y1 ⟨rfl, bb1, pp, tt⟩
   have M2 := Zb (pp)
   have F2 := Zb (F1.out.trans tt)
   have W2 := Zb (W1.out.trans (tt.bel M1.out.pg))
   have Na2 := Zb (Nod.fx Na1.out tt Qa1.out.1 Qa1.out.2)
   have Qa2 := Zb (And.intro Qa1.out.1 (tt.ne (Ze Na1.out) Qa1.out.2))
   clear pp tt M1 F1 W1 Na1 Qa1 va0 va1 va2 va3 va4 va5 va6 va7 va8 c0 c1 c2 c3 c4 c5 c6 c7 c8 HX0
   obtain ⟨_, va0, va1, va2, va3, va4, va5, va6, va7, va8⟩ := Na2.out.all
   go_wp2_with fail
   refine (ZB M2.out.pg _ rfl [⟨#[59]⟩] 1 (by simp) (by have hz := HL.out; have z0 := Yp ⟨#[32]⟩ nm ⟨#[44, 32]⟩; have z1 := Zw ⟨#[59]⟩; simp only [List.length_append, List.length_cons, List.length_nil] at *; omega)).mono ?_
   rintro e y2 ⟨rfl, bb2, pp, tt⟩
   have M3 := Zb (M2.out.step pp tt)
   have F3 := Zb (F2.out.trans tt)
   have W3 := Zb (W2.out.trans (tt.bel M2.out.pg))
   have Na3 := Zb (Nod.fx Na2.out tt Qa2.out.1 Qa2.out.2)
   have Qa3 := Zb (And.intro Qa2.out.1 (tt.ne (Ze Na2.out) Qa2.out.2))
   clear pp tt M2 F2 W2 Na2 Qa2 va0 va1 va2 va3 va4 va5 va6 va7 va8
   go_wp2_with fail
   go_end0
   exact ⟨rfl, _, by rw [← ET.out]; have hm := M3.out; simpa [Zv, clT] using hm, F3.out⟩
 by_cases h23 : kd = 23
 · subst h23
   obtain ⟨TT, hTT⟩ : ∃ TT, TT = smT ex bd (.mk 23 ps nm t nz z ob bi ks) := ⟨_, rfl⟩
   have ET := Zb (show Zz 23 ++ [59] = TT by rw [hTT]; simp [smT])
   rw [← hTT] at hl ⊢
   rw [← ET.out] at hl
   clear hTT
   have HW := Zb (show (Lit.int .i64 23).wf = true by decide)
   have HL := Zb hl
   have HKK := Zb hkk
   have HE := Zb hE
   have hb1 := Zd w (.cells #[.int .i64 23, .int .i64 ps, .string nm, .int .i64 t, .int .i64 nz, .int .i64 z, .int .i64 ob, .int .u64 bi, .slice oa len cap] 29)
   have Na0 := Zb (show Nod (w.alloc (.cells #[.int .i64 23, .int .i64 ps, .string nm, .int .i64 t, .int .i64 nz, .int .i64 z, .int .i64 ob, .int .u64 bi, .slice oa len cap] 29)) w.heap.size (.int .i64 23) (.int .i64 ps) (.string nm) (.int .i64 t) (.int .i64 nz) (.int .i64 z) (.int .i64 ob) (.int .u64 bi) (.slice oa len cap) from B_ _ _)
   have Qa0 := Zb (hp.pg.new (Nat.le_refl w.heap.size))
   have M0 := Zb (hp.bel hb1)
   have F0 := Zb (Fx.of_bel (g := g) (bo := bo) hb1)
   have W0 := Zb (hB.trans (hb1.mono hB.size))
   have S1 := Zb (show w.heap.size + 1 = (w.alloc (.cells #[.int .i64 23, .int .i64 ps, .string nm, .int .i64 t, .int .i64 nz, .int .i64 z, .int .i64 ob, .int .u64 bi, .slice oa len cap] 29)).heap.size by simp)
   clear hp hB hl hb1 hkk hE hD hv0 hin hsh hln
   go_enter Tryz.func181, Tryz.ntmps181
   go_wp2_with fail
   generalize w.alloc _ = w1 at *
   refine (start_from M0.out 23 ps nm t nz z ob bi oa len cap HW.out [] _ (.inl ⟨rfl, rfl⟩) (by simp) (by have hz := HL.out; simp only [Zv, List.flatMap_nil, List.append_nil, List.length_append] at hz ⊢; omega)).mono ?_
   rintro e y0 ⟨rfl, bb0, pp, tt⟩
   have M1 := Zb (pp)
   have F1 := Zb (F0.out.trans tt)
   have W1 := Zb (W0.out.trans (tt.bel M0.out.pg))
   have Na1 := Zb (Nod.fx Na0.out tt Qa0.out.1 Qa0.out.2)
   have Qa1 := Zb (And.intro Qa0.out.1 (tt.ne (Ze Na0.out) Qa0.out.2))
   clear pp tt M0 F0 W0 Na0 Qa0 
   go_wp2_with fail
   refine (ZB M1.out.pg _ rfl [⟨#[59]⟩] 1 (by simp) (by have hz := HL.out; have z9 : (Zv []).length = 0 := rfl; have z0 := Zw ⟨#[59]⟩; simp only [List.length_append, List.length_cons, List.length_nil] at *; omega)).mono ?_
   rintro e y1 ⟨rfl, bb1, pp, tt⟩
   have M2 := Zb (M1.out.step pp tt)
   have F2 := Zb (F1.out.trans tt)
   have W2 := Zb (W1.out.trans (tt.bel M1.out.pg))
   have Na2 := Zb (Nod.fx Na1.out tt Qa1.out.1 Qa1.out.2)
   have Qa2 := Zb (And.intro Qa1.out.1 (tt.ne (Ze Na1.out) Qa1.out.2))
   clear pp tt M1 F1 W1 Na1 Qa1 
   go_wp2_with fail
   go_end0
   exact ⟨rfl, _, by rw [← ET.out]; have hm := M2.out; simpa [Zv, clT] using hm, F2.out⟩
 by_cases h13 : kd = 13
 · subst h13
   have hA : ∀ x ∈ ks, Yk 64 ex wB k x := fun x hx => hE x hx (.inl (by simp [str] at hin; exact hin.2.1 x hx))
   have HA := Zb hA
   clear hA
   obtain ⟨TT, hTT⟩ : ∃ TT, TT = smT ex bd (.mk 13 ps nm t nz z ob bi ks) := ⟨_, rfl⟩
   have ET := Zb (show clT ex nm ks ++ [59] = TT by rw [hTT]; simp [smT])
   rw [← hTT] at hl ⊢
   rw [← ET.out] at hl
   clear hTT
   have HW := Zb (show (Lit.int .i64 13).wf = true by decide)
   have HL := Zb hl
   have HKK := Zb hkk
   have HE := Zb hE
   have hb1 := Zd w (.cells #[.int .i64 13, .int .i64 ps, .string nm, .int .i64 t, .int .i64 nz, .int .i64 z, .int .i64 ob, .int .u64 bi, .slice oa len cap] 29)
   have Na0 := Zb (show Nod (w.alloc (.cells #[.int .i64 13, .int .i64 ps, .string nm, .int .i64 t, .int .i64 nz, .int .i64 z, .int .i64 ob, .int .u64 bi, .slice oa len cap] 29)) w.heap.size (.int .i64 13) (.int .i64 ps) (.string nm) (.int .i64 t) (.int .i64 nz) (.int .i64 z) (.int .i64 ob) (.int .u64 bi) (.slice oa len cap) from B_ _ _)
   have Qa0 := Zb (hp.pg.new (Nat.le_refl w.heap.size))
   have M0 := Zb (hp.bel hb1)
   have F0 := Zb (Fx.of_bel (g := g) (bo := bo) hb1)
   have W0 := Zb (hB.trans (hb1.mono hB.size))
   have S1 := Zb (show w.heap.size + 1 = (w.alloc (.cells #[.int .i64 13, .int .i64 ps, .string nm, .int .i64 t, .int .i64 nz, .int .i64 z, .int .i64 ob, .int .u64 bi, .slice oa len cap] 29)).heap.size by simp)
   clear hp hB hl hb1 hkk hE hD hv0 hin hsh hln
   go_enter Tryz.func181, Tryz.ntmps181
   go_wp2_with fail
   generalize w.alloc _ = w1 at *
   refine (call_from M0.out W0.out 13 ps nm t nz z ob bi oa len cap ks HKK.out ex HA.out (by have hz := HL.out; simp only [clT, List.length_append, List.length_cons, List.length_nil] at *; omega)).mono ?_
   rintro e y0 ⟨rfl, bb0, pp, tt⟩
   have M1 := Zb (pp)
   have F1 := Zb (F0.out.trans tt)
   have W1 := Zb (W0.out.trans (tt.bel M0.out.pg))
   have Na1 := Zb (Nod.fx Na0.out tt Qa0.out.1 Qa0.out.2)
   have Qa1 := Zb (And.intro Qa0.out.1 (tt.ne (Ze Na0.out) Qa0.out.2))
   clear pp tt M0 F0 W0 Na0 Qa0 
   go_wp2_with fail
   refine (ZB M1.out.pg _ rfl [⟨#[59]⟩] 1 (by simp) (by have hz := HL.out; have z0 := Zw ⟨#[59]⟩; simp only [clT, List.length_append, List.length_cons, List.length_nil] at *; omega)).mono ?_
   rintro e y1 ⟨rfl, bb1, pp, tt⟩
   have M2 := Zb (M1.out.step pp tt)
   have F2 := Zb (F1.out.trans tt)
   have W2 := Zb (W1.out.trans (tt.bel M1.out.pg))
   have Na2 := Zb (Nod.fx Na1.out tt Qa1.out.1 Qa1.out.2)
   have Qa2 := Zb (And.intro Qa1.out.1 (tt.ne (Ze Na1.out) Qa1.out.2))
   clear pp tt M1 F1 W1 Na1 Qa1 
   go_wp2_with fail
   go_end0
   exact ⟨rfl, _, by rw [← ET.out]; have hm := M2.out; simpa [Zv, clT] using hm, F2.out⟩
 by_cases h12 : kd = 12
 · subst h12
   have hA : ∀ x ∈ ks, Yk 64 ex wB k x := fun x hx => hE x hx (.inl (by simp [str] at hin; exact hin.2.1 x hx))
   have HA := Zb hA
   clear hA
   obtain ⟨TT, hTT⟩ : ∃ TT, TT = smT ex bd (.mk 12 ps nm t nz z ob bi ks) := ⟨_, rfl⟩
   have ET := Zb (show Zz 12 ++ ([32] ++ (clT ex nm ks ++ [59])) = TT by rw [hTT]; simp [smT])
   rw [← hTT] at hl ⊢
   rw [← ET.out] at hl
   clear hTT
   have HW := Zb (show (Lit.int .i64 12).wf = true by decide)
   have HL := Zb hl
   have HKK := Zb hkk
   have HE := Zb hE
   have hb1 := Zd w (.cells #[.int .i64 12, .int .i64 ps, .string nm, .int .i64 t, .int .i64 nz, .int .i64 z, .int .i64 ob, .int .u64 bi, .slice oa len cap] 29)
   have Na0 := Zb (show Nod (w.alloc (.cells #[.int .i64 12, .int .i64 ps, .string nm, .int .i64 t, .int .i64 nz, .int .i64 z, .int .i64 ob, .int .u64 bi, .slice oa len cap] 29)) w.heap.size (.int .i64 12) (.int .i64 ps) (.string nm) (.int .i64 t) (.int .i64 nz) (.int .i64 z) (.int .i64 ob) (.int .u64 bi) (.slice oa len cap) from B_ _ _)
   have Qa0 := Zb (hp.pg.new (Nat.le_refl w.heap.size))
   have M0 := Zb (hp.bel hb1)
   have F0 := Zb (Fx.of_bel (g := g) (bo := bo) hb1)
   have W0 := Zb (hB.trans (hb1.mono hB.size))
   have S1 := Zb (show w.heap.size + 1 = (w.alloc (.cells #[.int .i64 12, .int .i64 ps, .string nm, .int .i64 t, .int .i64 nz, .int .i64 z, .int .i64 ob, .int .u64 bi, .slice oa len cap] 29)).heap.size by simp)
   clear hp hB hl hb1 hkk hE hD hv0 hin hsh hln
   go_enter Tryz.func181, Tryz.ntmps181
   go_wp2_with fail
   generalize w.alloc _ = w1 at *
   refine (ZT M0.out 12 ps nm t nz z ob bi oa len cap HW.out (w.heap.size + 1) S1.out [⟨#[32]⟩] 1 (by simp) (by have hz := HL.out; have z0 := Zw ⟨#[32]⟩; simp only [clT, List.length_append, List.length_cons, List.length_nil] at *; omega)).mono ?_
   rintro e y0 ⟨rfl, bb0, pp, tt⟩
   have M1 := Zb (pp)
   have F1 := Zb (F0.out.trans tt)
   have W1 := Zb (W0.out.trans (tt.bel M0.out.pg))
   have Na1 := Zb (Nod.fx Na0.out tt Qa0.out.1 Qa0.out.2)
   have Qa1 := Zb (And.intro Qa0.out.1 (tt.ne (Ze Na0.out) Qa0.out.2))
   clear pp tt M0 F0 W0 Na0 Qa0 
   obtain ⟨_, va0, va1, va2, va3, va4, va5, va6, va7, va8⟩ := Na1.out.all
   go_wp2_with fail
   refine (call_from M1.out W1.out 12 ps nm t nz z ob bi oa len cap ks HKK.out ex HA.out (by have hz := HL.out; have z0 := Zw ⟨#[32]⟩; simp only [clT, List.length_append, List.length_cons, List.length_nil] at *; omega)).mono ?_
   rintro e y1 ⟨rfl, bb1, pp, tt⟩
   have M2 := Zb (pp)
   have F2 := Zb (F1.out.trans tt)
   have W2 := Zb (W1.out.trans (tt.bel M1.out.pg))
   have Na2 := Zb (Nod.fx Na1.out tt Qa1.out.1 Qa1.out.2)
   have Qa2 := Zb (And.intro Qa1.out.1 (tt.ne (Ze Na1.out) Qa1.out.2))
   clear pp tt M1 F1 W1 Na1 Qa1 va0 va1 va2 va3 va4 va5 va6 va7 va8
   go_wp2_with fail
   refine (ZB M2.out.pg _ rfl [⟨#[59]⟩] 1 (by simp) (by have hz := HL.out; have z0 := Zw ⟨#[32]⟩; have z1 := Zw ⟨#[59]⟩; simp only [clT, List.length_append, List.length_cons, List.length_nil] at *; omega)).mono ?_
   rintro e y2 ⟨rfl, bb2, pp, tt⟩
   have M3 := Zb (M2.out.step pp tt)
   have F3 := Zb (F2.out.trans tt)
   have W3 := Zb (W2.out.trans (tt.bel M2.out.pg))
   have Na3 := Zb (Nod.fx Na2.out tt Qa2.out.1 Qa2.out.2)
   have Qa3 := Zb (And.intro Qa2.out.1 (tt.ne (Ze Na2.out) Qa2.out.2))
   clear pp tt M2 F2 W2 Na2 Qa2 
   go_wp2_with fail
   go_end0
   exact ⟨rfl, _, by rw [← ET.out]; have hm := M3.out; simpa [Zv, clT] using hm, F3.out⟩
 by_cases h10 : kd = 10
 · subst h10
   obtain ⟨x, y, rfl, hx, hy⟩ := all2_shape (ks := ks) (by simp [str] at hin; exact hin.1)
   obtain ⟨TT, hTT⟩ : ∃ TT, TT = smT ex bd (.mk 10 ps nm t nz z ob bi [x, y]) := ⟨_, rfl⟩
   have ET := Zb (show ex x ++ ([32, 61, 32] ++ (ex y ++ [59])) = TT by rw [hTT]; simp [smT])
   rw [← hTT] at hl ⊢
   rw [← ET.out] at hl
   clear hTT
   have HW := Zb (show (Lit.int .i64 10).wf = true by decide)
   have hr0 := hE x (by simp [Nd.kids]) (.inr hx)
   have hr1 := hE y (by simp [Nd.kids]) (.inl hy)
   have hk := hkk
   obtain ⟨oa1, cap1, hs, hsh⟩ := hk.kid
   injection hs with hs1 hs2 hs3
   subst hs1 hs3
   obtain ⟨a, rfl, hc1, hc2, hkid⟩ : ∃ a, oa = some a /\ ([x, y] : List Nd).length <= cap /\ cap <= maxLen /\ ∀ j n, ([x, y] : List Nd)[j]? = some n -> ZD wB a (9 * j) n := by
    rcases hsh with h | h
    · cases h
    · exact h
   unfold maxLen at hc2
   have hc1 : 2 <= cap := by simpa using hc1
   replace hs2 : len = 2 := by simpa using hs2
   subst hs2
   have kA0 := Zb (hkid 0 _ rfl)
   have kA1 := Zb (hkid 1 _ rfl)
   clear hkid hsh
   obtain ⟨T0, hT0⟩ : ∃ T0, T0 = ex x := ⟨_, rfl⟩
   obtain ⟨T1, hT1⟩ : ∃ T1, T1 = ex y := ⟨_, rfl⟩
   have HR0 := Zb (fun (w' : World) (g' : Nat) (bo' : Option Nat) (l' : List UInt8) (b1' b2' : Nat) (v' : Value) hp' hB' hv' hl' => hr0 w' g' bo' l' b1' b2' v' hp' hB' hv' (by rw [← hT0]; exact hl'))
   have HR1 := Zb (fun (w' : World) (g' : Nat) (bo' : Option Nat) (l' : List UInt8) (b1' b2' : Nat) (v' : Value) hp' hB' hv' hl' => hr1 w' g' bo' l' b1' b2' v' hp' hB' hv' (by rw [← hT1]; exact hl'))
   rw [← hT0] at hl HR0 ET
   rw [← hT1] at hl HR1 ET
   clear hr0 hT0 hr1 hT1 hk hln
   have HL := Zb hl
   have HKK := Zb hkk
   have HE := Zb hE
   have hb1 := Zd w (.cells #[.int .i64 10, .int .i64 ps, .string nm, .int .i64 t, .int .i64 nz, .int .i64 z, .int .i64 ob, .int .u64 bi, .slice (some a) 2 cap] 29)
   have Na0 := Zb (show Nod (w.alloc (.cells #[.int .i64 10, .int .i64 ps, .string nm, .int .i64 t, .int .i64 nz, .int .i64 z, .int .i64 ob, .int .u64 bi, .slice (some a) 2 cap] 29)) w.heap.size (.int .i64 10) (.int .i64 ps) (.string nm) (.int .i64 t) (.int .i64 nz) (.int .i64 z) (.int .i64 ob) (.int .u64 bi) (.slice (some a) 2 cap) from B_ _ _)
   have Qa0 := Zb (hp.pg.new (Nat.le_refl w.heap.size))
   have M0 := Zb (hp.bel hb1)
   have F0 := Zb (Fx.of_bel (g := g) (bo := bo) hb1)
   have W0 := Zb (hB.trans (hb1.mono hB.size))
   have S1 := Zb (show w.heap.size + 1 = (w.alloc (.cells #[.int .i64 10, .int .i64 ps, .string nm, .int .i64 t, .int .i64 nz, .int .i64 z, .int .i64 ob, .int .u64 bi, .slice (some a) 2 cap] 29)).heap.size by simp)
   clear hp hB hl hb1 hkk hE hD hv0 hin hsh
   obtain ⟨kd0, ps0, nm0, t0, nz0, z0, ob0, bi0, ks0⟩ := x
   obtain ⟨oa0, len0, cap0, at0, hx0⟩ := Yi kA0.out W0.out
   rw [Nat.zero_mul, ZO] at at0
   obtain ⟨c0, c1, c2, c3, c4, c5, c6, c7, c8⟩ := at0
   have HX0 := Zb hx0
   clear hx0 hx hy
   go_enter Tryz.func181, Tryz.ntmps181
   go_wp2_with fail
   generalize w.alloc _ = w1 at *
   refine (HR0.out w1 g _ _ b1 b2 _ M0.out W0.out HX0.out (by have hz := HL.out; simp only [List.length_append, List.length_cons, List.length_nil] at *; omega)).mono ?_
   rintro e y0 ⟨rfl, bb0, pp, tt⟩
   have M1 := Zb (pp)
   have F1 := Zb (F0.out.trans tt)
   have W1 := Zb (W0.out.trans (tt.bel M0.out.pg))
   have Na1 := Zb (Nod.fx Na0.out tt Qa0.out.1 Qa0.out.2)
   have Qa1 := Zb (And.intro Qa0.out.1 (tt.ne (Ze Na0.out) Qa0.out.2))
   clear pp tt M0 F0 W0 Na0 Qa0 c0 c1 c2 c3 c4 c5 c6 c7 c8 HX0
   go_wp2_with fail
   refine (ZB M1.out.pg _ rfl [⟨#[32, 61, 32]⟩] 1 (by simp) (by have hz := HL.out; have z0 := Zw ⟨#[32, 61, 32]⟩; simp only [List.length_append, List.length_cons, List.length_nil] at *; omega)).mono ?_
   rintro e y1 ⟨rfl, bb1, pp, tt⟩
   have M2 := Zb (M1.out.step pp tt)
   have F2 := Zb (F1.out.trans tt)
   have W2 := Zb (W1.out.trans (tt.bel M1.out.pg))
   have Na2 := Zb (Nod.fx Na1.out tt Qa1.out.1 Qa1.out.2)
   have Qa2 := Zb (And.intro Qa1.out.1 (tt.ne (Ze Na1.out) Qa1.out.2))
   clear pp tt M1 F1 W1 Na1 Qa1 
   obtain ⟨kd1, ps1, nm1, t1, nz1, z1, ob1, bi1, ks1⟩ := y
   obtain ⟨oa1, len1, cap1, at1, hx1⟩ := Yi kA1.out W2.out
   rw [show 1 * 9 = 9 from rfl, add_lit a 9 (by decide)] at at1
   obtain ⟨c0, c1, c2, c3, c4, c5, c6, c7, c8⟩ := at1
   dsimp only at c1 c2 c3 c4 c5 c6 c7 c8
   have HX1 := Zb hx1
   clear hx1
   obtain ⟨_, va0, va1, va2, va3, va4, va5, va6, va7, va8⟩ := Na2.out.all
   go_wp2_with fail
   refine (HR1.out y1 g _ _ b1 b2 _ M2.out W2.out HX1.out (by have hz := HL.out; have z0 := Zw ⟨#[32, 61, 32]⟩; simp only [List.length_append, List.length_cons, List.length_nil] at *; omega)).mono ?_
   rintro e y2 ⟨rfl, bb2, pp, tt⟩
   have M3 := Zb (pp)
   have F3 := Zb (F2.out.trans tt)
   have W3 := Zb (W2.out.trans (tt.bel M2.out.pg))
   have Na3 := Zb (Nod.fx Na2.out tt Qa2.out.1 Qa2.out.2)
   have Qa3 := Zb (And.intro Qa2.out.1 (tt.ne (Ze Na2.out) Qa2.out.2))
   clear pp tt M2 F2 W2 Na2 Qa2 va0 va1 va2 va3 va4 va5 va6 va7 va8 c0 c1 c2 c3 c4 c5 c6 c7 c8 HX1
   obtain ⟨_, va0, va1, va2, va3, va4, va5, va6, va7, va8⟩ := Na3.out.all
   go_wp2_with fail
   refine (ZB M3.out.pg _ rfl [⟨#[59]⟩] 1 (by simp) (by have hz := HL.out; have z0 := Zw ⟨#[32, 61, 32]⟩; have z1 := Zw ⟨#[59]⟩; simp only [List.length_append, List.length_cons, List.length_nil] at *; omega)).mono ?_
   rintro e y3 ⟨rfl, bb3, pp, tt⟩
   have M4 := Zb (M3.out.step pp tt)
   have F4 := Zb (F3.out.trans tt)
   have W4 := Zb (W3.out.trans (tt.bel M3.out.pg))
   have Na4 := Zb (Nod.fx Na3.out tt Qa3.out.1 Qa3.out.2)
   have Qa4 := Zb (And.intro Qa3.out.1 (tt.ne (Ze Na3.out) Qa3.out.2))
   clear pp tt M3 F3 W3 Na3 Qa3 va0 va1 va2 va3 va4 va5 va6 va7 va8
   go_wp2_with fail
   go_end0
   exact ⟨rfl, _, by rw [← ET.out]; have hm := M4.out; simpa [Zv, clT] using hm, F4.out⟩
 by_cases h21 : kd = 21
 · subst h21
   have hb0 : (all3B exo blo blo ks = true) ∨ (all2B exo blo ks = true) := by
    simp [str, brr] at hin
    split at hin
    · exact .inl hin.1
    · exact .inr hin.1
   rcases hb0 with hb | hb
   · skip
     obtain ⟨x, y, z0, rfl, hx, hy, hz⟩ := all3_shape (ks := ks) hb
     obtain ⟨TT, hTT⟩ : ∃ TT, TT = smT ex bd (.mk 21 ps nm t nz z ob bi [x, y, z0]) := ⟨_, rfl⟩
     have ET := Zb (show Zz 21 ++ ([32] ++ (ex x ++ ([32] ++ (bd y ++ (elseT ++ bd z0))))) = TT by rw [hTT]; simp [smT, brT])
     rw [← hTT] at hl ⊢
     rw [← ET.out] at hl
     clear hTT
     have HL := Zb hl
     have HKK := Zb hkk
     have HR0 := Zb (hE x (by simp [Nd.kids]) (.inl hx))
     have HR1 := Zb (hD y (by simp [Nd.kids]) hy)
     have HR2 := Zb (hD z0 (by simp [Nd.kids]) hz)
     have hb1 := Zd w (.cells #[.int .i64 21, .int .i64 ps, .string nm, .int .i64 t, .int .i64 nz, .int .i64 z, .int .i64 ob, .int .u64 bi, .slice oa len cap] 29)
     have Na0 := Zb (show Nod (w.alloc (.cells #[.int .i64 21, .int .i64 ps, .string nm, .int .i64 t, .int .i64 nz, .int .i64 z, .int .i64 ob, .int .u64 bi, .slice oa len cap] 29)) w.heap.size (.int .i64 21) (.int .i64 ps) (.string nm) (.int .i64 t) (.int .i64 nz) (.int .i64 z) (.int .i64 ob) (.int .u64 bi) (.slice oa len cap) from B_ _ _)
     have Qa0 := Zb (hp.pg.new (Nat.le_refl w.heap.size))
     have M0 := Zb (hp.bel hb1)
     have F0 := Zb (Fx.of_bel (g := g) (bo := bo) hb1)
     have W0 := Zb (hB.trans (hb1.mono hB.size))
     have S1 := Zb (show w.heap.size + 1 = (w.alloc (.cells #[.int .i64 21, .int .i64 ps, .string nm, .int .i64 t, .int .i64 nz, .int .i64 z, .int .i64 ob, .int .u64 bi, .slice oa len cap] 29)).heap.size by simp)
     clear hp hB hl hb1 hkk hE hD hv0 hin hsh hln hb hx hy hz
     go_enter Tryz.func181, Tryz.ntmps181
     go_wp2_with fail
     generalize w.alloc _ = w1 at *
     refine (branch3_from M0.out W0.out 21 ps nm t nz z ob bi oa len cap (by decide) x y z0 HKK.out ex bd (HR0.out) (HR1.out) (HR2.out) HL.out).mono ?_
     rintro e y1 ⟨rfl, c1, p1, t1⟩
     have RR := Zb (And.intro p1 (F0.out.trans t1))
     clear p1 t1
     go_wp2_with fail
     refine bodyPost_ret (results_none rfl _ _ _) rfl ?_
     exact ⟨rfl, c1, by rw [← ET.out]; exact RR.out.1, RR.out.2⟩
   · skip
     obtain ⟨x, y, rfl, hx, hy⟩ := all2_shape (ks := ks) hb
     obtain ⟨TT, hTT⟩ : ∃ TT, TT = smT ex bd (.mk 21 ps nm t nz z ob bi [x, y]) := ⟨_, rfl⟩
     have ET := Zb (show Zz 21 ++ ([32] ++ (ex x ++ ([32] ++ bd y))) = TT by rw [hTT]; simp [smT, brT])
     rw [← hTT] at hl ⊢
     rw [← ET.out] at hl
     clear hTT
     have HL := Zb hl
     have HKK := Zb hkk
     have HR0 := Zb (hE x (by simp [Nd.kids]) (.inl hx))
     have HR1 := Zb (hD y (by simp [Nd.kids]) hy)
     have hb1 := Zd w (.cells #[.int .i64 21, .int .i64 ps, .string nm, .int .i64 t, .int .i64 nz, .int .i64 z, .int .i64 ob, .int .u64 bi, .slice oa len cap] 29)
     have Na0 := Zb (show Nod (w.alloc (.cells #[.int .i64 21, .int .i64 ps, .string nm, .int .i64 t, .int .i64 nz, .int .i64 z, .int .i64 ob, .int .u64 bi, .slice oa len cap] 29)) w.heap.size (.int .i64 21) (.int .i64 ps) (.string nm) (.int .i64 t) (.int .i64 nz) (.int .i64 z) (.int .i64 ob) (.int .u64 bi) (.slice oa len cap) from B_ _ _)
     have Qa0 := Zb (hp.pg.new (Nat.le_refl w.heap.size))
     have M0 := Zb (hp.bel hb1)
     have F0 := Zb (Fx.of_bel (g := g) (bo := bo) hb1)
     have W0 := Zb (hB.trans (hb1.mono hB.size))
     have S1 := Zb (show w.heap.size + 1 = (w.alloc (.cells #[.int .i64 21, .int .i64 ps, .string nm, .int .i64 t, .int .i64 nz, .int .i64 z, .int .i64 ob, .int .u64 bi, .slice oa len cap] 29)).heap.size by simp)
     clear hp hB hl hb1 hkk hE hD hv0 hin hsh hln hb hx hy
     go_enter Tryz.func181, Tryz.ntmps181
     go_wp2_with fail
     generalize w.alloc _ = w1 at *
     refine (branch2_from M0.out W0.out 21 ps nm t nz z ob bi oa len cap (by decide) x y HKK.out ex bd (HR0.out) (HR1.out) HL.out).mono ?_
     rintro e y1 ⟨rfl, c1, p1, t1⟩
     have RR := Zb (And.intro p1 (F0.out.trans t1))
     clear p1 t1
     go_wp2_with fail
     refine bodyPost_ret (results_none rfl _ _ _) rfl ?_
     exact ⟨rfl, c1, by rw [← ET.out]; exact RR.out.1, RR.out.2⟩
 by_cases h22 : kd = 22
 · subst h22
   have hb : all2B exo blo ks = true := by
    simp [str, brr] at hin
    exact hin.1
   · skip
     obtain ⟨x, y, rfl, hx, hy⟩ := all2_shape (ks := ks) hb
     obtain ⟨TT, hTT⟩ : ∃ TT, TT = smT ex bd (.mk 22 ps nm t nz z ob bi [x, y]) := ⟨_, rfl⟩
     have ET := Zb (show Zz 22 ++ ([32] ++ (ex x ++ ([32] ++ bd y))) = TT by rw [hTT]; simp [smT, brT])
     rw [← hTT] at hl ⊢
     rw [← ET.out] at hl
     clear hTT
     have HL := Zb hl
     have HKK := Zb hkk
     have HR0 := Zb (hE x (by simp [Nd.kids]) (.inl hx))
     have HR1 := Zb (hD y (by simp [Nd.kids]) hy)
     have hb1 := Zd w (.cells #[.int .i64 22, .int .i64 ps, .string nm, .int .i64 t, .int .i64 nz, .int .i64 z, .int .i64 ob, .int .u64 bi, .slice oa len cap] 29)
     have Na0 := Zb (show Nod (w.alloc (.cells #[.int .i64 22, .int .i64 ps, .string nm, .int .i64 t, .int .i64 nz, .int .i64 z, .int .i64 ob, .int .u64 bi, .slice oa len cap] 29)) w.heap.size (.int .i64 22) (.int .i64 ps) (.string nm) (.int .i64 t) (.int .i64 nz) (.int .i64 z) (.int .i64 ob) (.int .u64 bi) (.slice oa len cap) from B_ _ _)
     have Qa0 := Zb (hp.pg.new (Nat.le_refl w.heap.size))
     have M0 := Zb (hp.bel hb1)
     have F0 := Zb (Fx.of_bel (g := g) (bo := bo) hb1)
     have W0 := Zb (hB.trans (hb1.mono hB.size))
     have S1 := Zb (show w.heap.size + 1 = (w.alloc (.cells #[.int .i64 22, .int .i64 ps, .string nm, .int .i64 t, .int .i64 nz, .int .i64 z, .int .i64 ob, .int .u64 bi, .slice oa len cap] 29)).heap.size by simp)
     clear hp hB hl hb1 hkk hE hD hv0 hin hsh hln hb hx hy
     go_enter Tryz.func181, Tryz.ntmps181
     go_wp2_with fail
     generalize w.alloc _ = w1 at *
     refine (branch2_from M0.out W0.out 22 ps nm t nz z ob bi oa len cap (by decide) x y HKK.out ex bd (HR0.out) (HR1.out) HL.out).mono ?_
     rintro e y1 ⟨rfl, c1, p1, t1⟩
     have RR := Zb (And.intro p1 (F0.out.trans t1))
     clear p1 t1
     go_wp2_with fail
     refine bodyPost_ret (results_none rfl _ _ _) rfl ?_
     exact ⟨rfl, c1, by rw [← ET.out]; exact RR.out.1, RR.out.2⟩
 exfalso
 simp [str, brr, h10, h11, h12, h13, h14, h15, h16, h17, h18, h19, h20, h21, h22, h23, h24] at hin
theorem all1_mono {f g : Nd -> Bool} {ks : List Nd} (h : ∀ k ∈ ks, f k = true -> g k = true) (ha : Yz f ks = true) : Yz g ks = true := by
 obtain ⟨x, rfl, hx⟩ := Yg ha
 exact h x (by simp) hx
theorem all2_mono {f g : Nd -> Bool} {ks : List Nd} (h : ∀ k ∈ ks, f k = true -> g k = true) (ha : all2B f f ks = true) : all2B g g ks = true := by
 obtain ⟨x, y, rfl, hx, hy⟩ := all2_shape ha
 show (g x && g y) = true
 rw [h x (by simp) hx, h y (by simp) hy]
 rfl
theorem tgt_mono {f g : Nd -> Bool} {n : Nd} (h : ∀ k ∈ n.kids, f k = true -> g k = true) (ha : tgt f n = true) : tgt g n = true := by
 obtain ⟨kd, ps, nm, t, nz, z, ob, bi, ks⟩ := n
 unfold tgt at ha ⊢
 dsimp only at ha ⊢
 split
 · rename_i e
   rw [if_pos e] at ha
   exact ha
 · rename_i e
   rw [if_neg e] at ha
   split
   · rename_i e2
     rw [if_pos e2] at ha
     simp only [Bool.and_eq_true] at ha ⊢
     exact ⟨ha.1, all1_mono h ha.2.1, ha.2.2⟩
   · rename_i e2
     rw [if_neg e2] at ha
     exact ha
theorem exr_mono {f g : Nd -> Bool} {n : Nd} (h : ∀ k ∈ n.kids, f k = true -> g k = true) (ha : exr f n = true) : exr g n = true := by
 obtain ⟨kd, ps, nm, t, nz, z, ob, bi, ks⟩ := n
 unfold exr at ha ⊢
 dsimp only at ha ⊢
 by_cases e1 : kd = 25
 · rw [if_pos e1] at ha ⊢; exact ha
 rw [if_neg e1] at ha ⊢
 by_cases e2 : kd = 26
 · rw [if_pos e2] at ha ⊢; exact ha
 rw [if_neg e2] at ha ⊢
 by_cases e3 : kd = 27
 · rw [if_pos e3] at ha ⊢; exact ha
 rw [if_neg e3] at ha ⊢
 by_cases e4 : kd = 30
 · rw [if_pos e4] at ha ⊢
   simp only [Bool.and_eq_true] at ha ⊢
   exact ⟨ha.1, all1_mono h ha.2.1, ha.2.2⟩
 rw [if_neg e4] at ha ⊢
 by_cases e5 : kd = 31
 · rw [if_pos e5] at ha ⊢
   simp only [Bool.and_eq_true] at ha ⊢
   exact ⟨ha.1, all2_mono h ha.2.1, ha.2.2⟩
 rw [if_neg e5] at ha ⊢
 exact tgt_mono h ha
theorem ex_mono : ∀ (m : Nat) (n : Nd), exF m n = true -> exF (m + 1) n = true
 | 0, _, h => by cases h
 | m + 1, _, h => exr_mono (fun k _ hk => ex_mono m k hk) h
theorem tg_ex {m : Nat} {n : Nd} (h : tgt (exF m) n = true) : exF (m + 1) n = true := by
 have h0 := h
 obtain ⟨kd, ps, nm, t, nz, z, ob, bi, ks⟩ := n
 unfold tgt at h
 dsimp only at h
 have hkd : kd = 28 ∨ kd = 29 := by
  by_cases e : kd = 28
  · exact .inl e
  · rw [if_neg e] at h
    by_cases e2 : kd = 29
    · exact .inr e2
    · rw [if_neg e2] at h; cases h
 show exr (exF m) _ = true
 unfold exr
 dsimp only
 rw [if_neg (by omega), if_neg (by omega), if_neg (by omega), if_neg (by omega), if_neg (by omega)]
 exact h0
theorem rg_mono : ∀ (m : Nat) (n : Nd), RgF m n -> RgF (m + 1) n
 | 0, _, h => h.elim
 | m + 1, _, h => ⟨h.1, fun k hk => rg_mono m k (h.2 k hk)⟩
def smF : Nat -> Nat -> Nd -> List UInt8
 | 0, _, _ => []
 | m + 1, k, n => smT (wrF (m + 1)) (fun x => bdT (smF m (k + 1)) k x.kids) n
theorem body_rule {wB : World} {m k : Nat} {x : Nd} (hr : ∀ y ∈ x.kids, Yk 181 (smF m (k + 1)) wB (k + 1) y) : Yk 145 (fun x => bdT (smF m (k + 1)) k x.kids) wB k x := by
 intro w g bo l b1 b2 v hp hB hv hl
 obtain ⟨kd, ps, nm, t, nz, z, ob, bi, ks⟩ := x
 unfold Zq at hv
 obtain ⟨s, rfl, hkk⟩ := hv
 obtain ⟨oa, cap, rfl, _⟩ := hkk.kid
 exact body_from hp hB kd ps nm t nz z ob bi oa ks.length cap ks hkk (smF m (k + 1)) hr hl
theorem bl_kids {st : Nd -> Bool} {x : Nd} (h : blr st x = true) : ∀ y ∈ x.kids, st y = true := by
 obtain ⟨kd, ps, nm, t, nz, z, ob, bi, ks⟩ := x
 unfold blr at h
 dsimp only at h
 split at h
 · simp only [Bool.and_eq_true, List.all_eq_true] at h
   exact h.1
 · cases h
theorem pstmt_rule {wB : World} (ht : Tb wB) (hG : 23 <= wB.heap.size) : ∀ (m k : Nat) (n : Nd), stF m n = true -> RgF m n -> Yk 181 (smF m k) wB k n
  | 0, _, _, h, _ => by cases h
  | m + 1, k, n, h, hg => pstmt_from (exF m) (blr (stF m)) (wrF (m + 1)) (fun x => bdT (smF m (k + 1)) k x.kids) n h
    (fun x hx hh => (pexpr_rule ht hG (m + 1) x (hh.elim (fun a => ex_mono m x a) tg_ex) (rg_mono m x (hg.2 x hx))).toL k)
    (fun x hx hh => body_rule (fun y hy => pstmt_rule ht hG m (k + 1) y (bl_kids hh y hy) (by
      have h1 := hg.2 x hx
      cases m with
      | zero => exact h1.elim
      | succ j => exact rg_mono j y (h1.2 y hy))))
theorem pbody_rule {wB : World} (ht : Tb wB) (hG : 23 <= wB.heap.size) (m k : Nat) (x : Nd) (h : blr (stF m) x = true) (hg : RgF (m + 1) x) : Yk 145 (fun x => bdT (smF m (k + 1)) k x.kids) wB k x :=
 body_rule (fun y hy => pstmt_rule ht hG m (k + 1) y (bl_kids h y hy) (hg.2 y hy))
def pmT : Nd -> List UInt8 | .mk _ _ nm t _ _ _ _ _ => nm.data.toList ++ (32 :: Yf t)
def fnT (bd : Nd -> List UInt8) (ks : List Nd) : List UInt8 := match ks.getLast? with
 | none => []
 | some x => [40] ++ (lsT pmT ks.dropLast ++ ([41, 32] ++ bd x))
theorem param_rule {wB : World} {k : Nat} (n : Nd) (h : pmB n = true) : Yk 144 pmT wB k n := by
 intro w g bo l b1 b2 v hp hB hv hl
 obtain ⟨kd, ps, nm, t, nz, z, ob, bi, ks⟩ := n
 unfold Zq at hv
 obtain ⟨s, rfl, hkk⟩ := hv
 obtain ⟨oa, cap, rfl, _⟩ := hkk.kid
 have ht : (Lit.int .i64 t).wf = true := by
  unfold pmB at h
  dsimp only at h
  split at h
  · simp only [Bool.and_eq_true] at h
    have h2 := h.2.1
    unfold typB at h2
    simp only [Bool.or_eq_true, beq_iff_eq] at h2
    rcases h2 with rfl | rfl | rfl <;> rfl
  · cases h
 exact param_from hp hB kd ps nm t nz z ob bi oa ks.length cap ht hl
theorem pfunction_at {wB w : World} {g : Nat} {bo : Option Nat} {l : List UInt8} {b1 b2 : Nat} {k : Nat} (hp : Pm w wB.heap.size g bo l b1 b2 k) (hB : Below wB.heap.size wB w) (kd ps : Int) (nm : ByteArray) (t : Int) (m : Nat) (z ob bi : Int) (a : Addr) (cap : Nat) (ks : List Nd) (hk : Zr wB ks (.slice (some a) (m + 1) cap)) (x : Nd) (hx : ks[m]? = some x) (bd : Nd -> List UInt8) (hr : ∀ n ∈ ks.dropLast, Yk 144 pmT wB k n) (hr1 : Yk 145 bd wB k x) (hl : l.length + ([40] ++ (lsT pmT ks.dropLast ++ ([41, 32] ++ bd x))).length <= 140737488355328) :
 Calls Tryz.prog 106 #[.pointer (some ⟨g, 0, none⟩), .agg #[.int .i64 kd, .int .i64 ps, .string nm, .int .i64 t, .int .i64 (m : Int), .int .i64 z, .int .i64 ob, .int .u64 bi, .slice (some a) (m + 1) cap]] w fun e w' => e = .returned (.tuple #[]) /\ ∃ bo', Pm w' wB.heap.size g bo' (l ++ ([40] ++ (lsT pmT ks.dropLast ++ ([41, 32] ++ bd x)))) b1 b2 k /\ Fx g bo w bo' w' := by
 obtain ⟨T0, hT0⟩ : ∃ T0, T0 = lsT pmT ks.dropLast := ⟨_, rfl⟩
 obtain ⟨T1, hT1⟩ : ∃ T1, T1 = bd x := ⟨_, rfl⟩
 have hne : ks ≠ [] := fun e => (by rw [e] at hx; cases hx)
 have hki := kids_init hk hne
 have LI := Zb (fun (w' : World) (bo' : Option Nat) (l' : List UInt8) hp' hB' hl' => list_showpageparam (w := w') (g := g) (bo := bo') (l := l') (b1 := b1) (b2 := b2) (k := k) hp' hB' ks.dropLast (some a) m cap hki pmT hr hl')
 have HR1 := Zb (fun (w' : World) (g' : Nat) (bo' : Option Nat) (l' : List UInt8) (b1' b2' : Nat) (v' : Value) hp' hB' hv' hl' => hr1 w' g' bo' l' b1' b2' v' hp' hB' hv' (by rw [← hT1]; exact hl'))
 rw [← hT0] at hl LI ⊢
 rw [← hT1] at hl HR1 ⊢
 have HL := Zb hl
 obtain ⟨oa1, cap1, hs, hsh⟩ := hk.kid
 injection hs with hs1 hs2 hs3
 subst hs1 hs3
 obtain ⟨a1, ha1, hc1, hc2, hkid⟩ : ∃ a1, some a = some a1 /\ ks.length <= cap /\ cap <= maxLen /\ ∀ j n, ks[j]? = some n -> ZD wB a1 (9 * j) n := by
  rcases hsh with h | h
  · exact absurd h hne
  · exact h
 injection ha1 with ha1
 subst ha1
 unfold maxLen at hc2
 have hkc : m + 1 <= cap := by omega
 have hkc2 : m <= cap := by omega
 have kA0 := Zb (hkid m _ hx)
 have hmf : ∀ (fn : Fn) (first cap : Array Value) (w : World), (Instr.makeFunc fn first cap).run Tryz.prog w = .ok (.func fn first cap) w := fun _ _ _ _ => rfl
 clear hkid hsh hc1 hx hs2 hki hne
 have hb1 := Zd w (.cells #[.int .i64 kd, .int .i64 ps, .string nm, .int .i64 t, .int .i64 (m : Int), .int .i64 z, .int .i64 ob, .int .u64 bi, .slice (some a) (m + 1) cap] 29)
 have Na0 := Zb (show Nod (w.alloc (.cells #[.int .i64 kd, .int .i64 ps, .string nm, .int .i64 t, .int .i64 (m : Int), .int .i64 z, .int .i64 ob, .int .u64 bi, .slice (some a) (m + 1) cap] 29)) w.heap.size (.int .i64 kd) (.int .i64 ps) (.string nm) (.int .i64 t) (.int .i64 (m : Int)) (.int .i64 z) (.int .i64 ob) (.int .u64 bi) (.slice (some a) (m + 1) cap) from B_ _ _)
 have Qa0 := Zb (hp.pg.new (Nat.le_refl w.heap.size))
 have M0 := Zb (hp.bel hb1)
 have F0 := Zb (Fx.of_bel (g := g) (bo := bo) hb1)
 have W0 := Zb (hB.trans (hb1.mono hB.size))
 have S1 := Zb (show w.heap.size + 1 = (w.alloc (.cells #[.int .i64 kd, .int .i64 ps, .string nm, .int .i64 t, .int .i64 (m : Int), .int .i64 z, .int .i64 ob, .int .u64 bi, .slice (some a) (m + 1) cap] 29)).heap.size by simp)
 clear hp hB hl hb1 hk hr hr1 hT0 hT1
 go_enter Tryz.func106, Tryz.ntmps106
 go_wp2_with fail
 generalize w.alloc _ = w1 at *
 refine (ZB M0.out.pg (w.heap.size + 1) S1.out [⟨#[40]⟩] 1 (by simp) (by have hz := HL.out; have z0 := Zw ⟨#[40]⟩; simp only [List.length_append, List.length_cons, List.length_nil] at *; omega)).mono ?_
 rintro e y0 ⟨rfl, bb0, pp, tt⟩
 have M1 := Zb (M0.out.step pp tt)
 have F1 := Zb (F0.out.trans tt)
 have W1 := Zb (W0.out.trans (tt.bel M0.out.pg))
 have Na1 := Zb (Nod.fx Na0.out tt Qa0.out.1 Qa0.out.2)
 have Qa1 := Zb (And.intro Qa0.out.1 (tt.ne (Ze Na0.out) Qa0.out.2))
 clear pp tt M0 F0 W0 Na0 Qa0 
 obtain ⟨_, va0, va1, va2, va3, va4, va5, va6, va7, va8⟩ := Na1.out.all
 go_wp2_with fail
 refine (LI.out _ _ _ M1.out W1.out (by have hz := HL.out; have z0 := Zw ⟨#[40]⟩; simp only [List.length_append, List.length_cons, List.length_nil] at *; omega)).mono ?_
 rintro e y1 ⟨rfl, bb1, pp, tt⟩
 have M2 := Zb (pp)
 have F2 := Zb (F1.out.trans tt)
 have W2 := Zb (W1.out.trans (tt.bel M1.out.pg))
 have Na2 := Zb (Nod.fx Na1.out tt Qa1.out.1 Qa1.out.2)
 have Qa2 := Zb (And.intro Qa1.out.1 (tt.ne (Ze Na1.out) Qa1.out.2))
 clear pp tt M1 F1 W1 Na1 Qa1 va0 va1 va2 va3 va4 va5 va6 va7 va8
 go_wp2_with fail
 refine (ZB M2.out.pg _ rfl [⟨#[41, 32]⟩] 1 (by simp) (by have hz := HL.out; have z0 := Zw ⟨#[40]⟩; have z1 := Zw ⟨#[41, 32]⟩; simp only [List.length_append, List.length_cons, List.length_nil] at *; omega)).mono ?_
 rintro e y2 ⟨rfl, bb2, pp, tt⟩
 have M3 := Zb (M2.out.step pp tt)
 have F3 := Zb (F2.out.trans tt)
 have W3 := Zb (W2.out.trans (tt.bel M2.out.pg))
 have Na3 := Zb (Nod.fx Na2.out tt Qa2.out.1 Qa2.out.2)
 have Qa3 := Zb (And.intro Qa2.out.1 (tt.ne (Ze Na2.out) Qa2.out.2))
 clear pp tt M2 F2 W2 Na2 Qa2 
 obtain ⟨kd0, ps0, nm0, t0, nz0, z0, ob0, bi0, ks0⟩ := x
 obtain ⟨oa0, len0, cap0, at0, hx0⟩ := Yi kA0.out W3.out
 obtain ⟨c0, c1, c2, c3, c4, c5, c6, c7, c8⟩ := at0
 have HX0 := Zb hx0
 clear hx0
 obtain ⟨_, va0, va1, va2, va3, va4, va5, va6, va7, va8⟩ := Na3.out.all
 go_wp2_with fail
 refine (HR1.out y2 g _ _ b1 b2 _ M3.out W3.out HX0.out (by have hz := HL.out; have z0 := Zw ⟨#[40]⟩; have z1 := Zw ⟨#[41, 32]⟩; simp only [List.length_append, List.length_cons, List.length_nil] at *; omega)).mono ?_
 rintro e y3 ⟨rfl, bb3, pp, tt⟩
 have M4 := Zb (pp)
 have F4 := Zb (F3.out.trans tt)
 have W4 := Zb (W3.out.trans (tt.bel M3.out.pg))
 have Na4 := Zb (Nod.fx Na3.out tt Qa3.out.1 Qa3.out.2)
 have Qa4 := Zb (And.intro Qa3.out.1 (tt.ne (Ze Na3.out) Qa3.out.2))
 clear pp tt M3 F3 W3 Na3 Qa3 va0 va1 va2 va3 va4 va5 va6 va7 va8 c0 c1 c2 c3 c4 c5 c6 c7 c8 HX0
 go_wp2_with fail
 go_end0
 exact ⟨rfl, _, by have hm := M4.out; simpa [Zv] using hm, F4.out⟩
end Go.Proofs.YtfnplhfjfolojaaGreatDoor.Ck.Sho
