/- Texts of this proof, packed: contracts of the program's functions, and the plain model that they are held against. -/
import Derived.Test.YtfnplhfjfolojaaGreatDoorQak
set_option maxRecDepth 20000
set_option maxHeartbeats 4000000
namespace Go.Proofs.YtfnplhfjfolojaaGreatDoor.Ck.Sho
open Go.RowKit
def tgt (ex : Nd -> Bool) : Nd -> Bool
 | .mk k _ nm t n z o b ks => if k = 28 then ZU nm && ZH ⟨#[]⟩ t n z o b ks.length else if k = 29 then ZU nm && (Yz ex ks && ZH ⟨#[]⟩ t n z o b 0) else false
def exr (ex : Nd -> Bool) : Nd -> Bool
 | .mk k ps nm t n z o b ks =>
  if k = 25 then decide (0 <= n) && ZH nm t 0 z o b ks.length
  else if k = 26 then ZH nm t n z o 0 ks.length
  else if k = 27 then decide (n <= 1) && (decide (0 <= n) && ZH nm t 0 z o b ks.length)
  else if k = 30 then prefF nm && (Yz ex ks && ZH ⟨#[]⟩ t n z o b 0)
  else if k = 31 then decide (0 < rankF nm) && (all2B ex ex ks && ZH ⟨#[]⟩ t n z o b 0)
  else tgt ex (.mk k ps nm t n z o b ks)
def exF : Nat -> Nd -> Bool
 | 0, _ => false
 | m + 1, n => exr (exF m) n
theorem sz_kid {n k : Nd} (h : k ∈ n.kids) : szN k < szN n := by
 obtain ⟨kd, ps, nm, t, nz, z, ob, bi, ks⟩ := n
 obtain ⟨j, hj⟩ := List.mem_iff_getElem?.1 (show k ∈ ks from h)
 have := szK_at hj
 simp only [szN]
 omega
theorem target_from {p : List Addr} (ex : Nd -> Bool) (n : Nd) (hk : ∀ k ∈ n.kids, ZR 33 p ex k) : ZR 62 p (tgt ex) n := by
 intro w v he hv
 obtain ⟨kd, ps, nm, t, nz, z, ob, bi, ks⟩ := n
 unfold Zq at hv
 obtain ⟨s, rfl, hkk⟩ := hv
 obtain ⟨oa, cap, rfl, hsh⟩ := hkk.kid
 have hlen : ks.length <= 9223372036854775807 := by
  rcases hsh with rfl | ⟨a, _, h1, h2, _⟩
  · simp
  · unfold maxLen at h2
    omega
 obtain ⟨len, hln⟩ : ∃ len, len = ks.length := ⟨_, rfl⟩
 rw [← hln] at hkk hlen ⊢
 have BA := Zb (fun o => Zd w o)
 have EA := Zb (fun o => he.bel (Zd w o))
 have KA := Zb (fun o => Zr.bel (Zd w o) _ _ hkk)
 have HLN := Zb hln
 have HSH := Zb hsh
 obtain ⟨out, ho⟩ : ∃ out, (tgt ex) (.mk kd ps nm t nz z ob bi ks) = out := ⟨_, rfl⟩
 rw [ho]
 have HO := Zb ho
 clear ho he hkk hln hsh
 go_enter Tryz.func62, Tryz.ntmps62
 by_cases h28 : kd = 28
 · subst h28
   have HX := Zb (show (ZU nm && ZH ⟨#[]⟩ t nz z ob bi len) = out from (by rw [HLN.out]; simpa [tgt] using HO.out))
   clear HO
   go_wp2_with fail
   have N0 := Zb (show Nod (w.alloc (.cells #[.int .i64 28, .int .i64 ps, .string nm, .int .i64 t, .int .i64 nz, .int .i64 z, .int .i64 ob, .int .u64 bi, .slice oa len cap] 29)) w.heap.size (.int .i64 28) (.int .i64 ps) (.string nm) (.int .i64 t) (.int .i64 nz) (.int .i64 z) (.int .i64 ob) (.int .u64 bi) (.slice oa len cap) from B_ _ _)
   have B0 := Zb (BA.out (.cells #[.int .i64 28, .int .i64 ps, .string nm, .int .i64 t, .int .i64 nz, .int .i64 z, .int .i64 ob, .int .u64 bi, .slice oa len cap] 29))
   have E0 := Zb (EA.out (.cells #[.int .i64 28, .int .i64 ps, .string nm, .int .i64 t, .int .i64 nz, .int .i64 z, .int .i64 ob, .int .u64 bi, .slice oa len cap] 29))
   have K0 := Zb (KA.out (.cells #[.int .i64 28, .int .i64 ps, .string nm, .int .i64 t, .int .i64 nz, .int .i64 z, .int .i64 ob, .int .u64 bi, .slice oa len cap] 29))
   generalize w.alloc _ = w0 at *
   obtain ⟨_, b0, b1, b2, b3, b4, b5, b6, b7, b8⟩ := N0.out.all
   refine (ZP _).mono ?_
   rintro e uu ⟨rfl, hu⟩
   subst uu
   go_wp2_with fail
   have I0 := Zb (Below.refl w0.heap.size w0)
   refine (ZN (E0.out.bel I0.out) 28 ps nm t nz z ob bi oa len cap).mono ?_
   intro e u0 hp
   rcases hp.both with ⟨h1, rfl, hb⟩ | ⟨h1, rfl, hb⟩
   rotate_left 1
   · exact ⟨rfl, Gt.no (by rw [← HX.out]; simp [h1]) (Zc B0.out (Zc I0.out hb))⟩
   have I1 := Zb (Zc I0.out hb)
   have T0 := Zb h1
   clear hb hp h1 I0 b0 b1 b2 b3 b4 b5 b6 b7 b8
   go_wp2_with fail
   refine (Zl (ZE (E0.out.bel I1.out)) 28 ps ⟨#[]⟩ t nz z ob bi oa len cap).mono ?_
   intro e u1 hp
   rcases hp.both with ⟨h1, rfl, hb⟩ | ⟨h1, rfl, hb⟩
   rotate_left 1
   · exact ⟨rfl, Gt.no (by rw [← HX.out]; simp [T0.out, h1]) (Zc B0.out (Zc I1.out hb))⟩
   have I2 := Zb (Zc I1.out hb)
   have T1 := Zb h1
   clear hb hp h1 I1
   go_wp2_with fail
   go_end0
   exact Gt.yes (by rw [← HX.out]; simp [T0.out, T1.out]) (Zc B0.out I2.out)
 by_cases h29 : kd = 29
 · subst h29
   have HX := Zb (show (ZU nm && (Yz ex ks && ZH ⟨#[]⟩ t nz z ob bi 0)) = out from (by simpa [tgt] using HO.out))
   clear HO
   go_wp2_with fail
   have N0 := Zb (show Nod (w.alloc (.cells #[.int .i64 29, .int .i64 ps, .string nm, .int .i64 t, .int .i64 nz, .int .i64 z, .int .i64 ob, .int .u64 bi, .slice oa len cap] 29)) w.heap.size (.int .i64 29) (.int .i64 ps) (.string nm) (.int .i64 t) (.int .i64 nz) (.int .i64 z) (.int .i64 ob) (.int .u64 bi) (.slice oa len cap) from B_ _ _)
   have B0 := Zb (BA.out (.cells #[.int .i64 29, .int .i64 ps, .string nm, .int .i64 t, .int .i64 nz, .int .i64 z, .int .i64 ob, .int .u64 bi, .slice oa len cap] 29))
   have E0 := Zb (EA.out (.cells #[.int .i64 29, .int .i64 ps, .string nm, .int .i64 t, .int .i64 nz, .int .i64 z, .int .i64 ob, .int .u64 bi, .slice oa len cap] 29))
   have K0 := Zb (KA.out (.cells #[.int .i64 29, .int .i64 ps, .string nm, .int .i64 t, .int .i64 nz, .int .i64 z, .int .i64 ob, .int .u64 bi, .slice oa len cap] 29))
   generalize w.alloc _ = w0 at *
   obtain ⟨_, b0, b1, b2, b3, b4, b5, b6, b7, b8⟩ := N0.out.all
   refine (ZP _).mono ?_
   rintro e uu ⟨rfl, hu⟩
   subst uu
   go_wp2_with fail
   have I0 := Zb (Below.refl w0.heap.size w0)
   refine (ZN (E0.out.bel I0.out) 29 ps nm t nz z ob bi oa len cap).mono ?_
   intro e u0 hp
   rcases hp.both with ⟨h1, rfl, hb⟩ | ⟨h1, rfl, hb⟩
   rotate_left 1
   · exact ⟨rfl, Gt.no (by rw [← HX.out]; simp [h1]) (Zc B0.out (Zc I0.out hb))⟩
   have I1 := Zb (Zc I0.out hb)
   have T0 := Zb h1
   clear hb hp h1 I0 b0 b1 b2 b3 b4 b5 b6 b7 b8
   go_wp2_with fail
   refine (all_ex (((E0.out.bel I1.out)).bel (Zd u0 (.cells #[.func (.func 33) #[] #[]] 64))) 29 ps ⟨#[]⟩ t nz z ob bi oa len cap ks (Zr.bel (Zc I1.out (Zd u0 (.cells #[.func (.func 33) #[] #[]] 64))) _ _ K0.out) u0.heap.size 1 (Zf (B_ u0 (.cells #[.func (.func 33) #[] #[]] 64)) 0 _ rfl) ex (fun x hx => hk x (List.mem_of_getElem? hx))).mono ?_
   intro e u1 hp
   rcases hp.both with ⟨h1, rfl, hb⟩ | ⟨h1, rfl, hb⟩
   rotate_left 1
   · exact ⟨rfl, Gt.no (by rw [← HX.out]; simp [T0.out, h1]) (Zc B0.out (Zc I1.out (Zc (Zd u0 _) hb)))⟩
   have I2 := Zb (Zc I1.out (Zc (Zd u0 _) hb))
   have T1 := Zb h1
   clear hb hp h1 I1
   go_wp2_with fail
   refine (Zl (ZE (E0.out.bel I2.out)) 29 ps ⟨#[]⟩ t nz z ob bi none 0 0).mono ?_
   intro e u2 hp
   rcases hp.both with ⟨h1, rfl, hb⟩ | ⟨h1, rfl, hb⟩
   rotate_left 1
   · exact ⟨rfl, Gt.no (by rw [← HX.out]; simp [T0.out, T1.out, h1]) (Zc B0.out (Zc I2.out hb))⟩
   have I3 := Zb (Zc I2.out hb)
   have T2 := Zb h1
   clear hb hp h1 I2
   go_wp2_with fail
   go_end0
   exact Gt.yes (by rw [← HX.out]; simp [T0.out, T1.out, T2.out]) (Zc B0.out I3.out)
 have hout : out = false := by rw [← HO.out]; simp [tgt, h28, h29]
 subst hout
 have d28 : (kd == 28) = false := by simp [h28]
 have d29 : (kd == 29) = false := by simp [h29]
 go_wp2_with fail
 have N0 := Zb (show Nod (w.alloc (.cells #[.int .i64 kd, .int .i64 ps, .string nm, .int .i64 t, .int .i64 nz, .int .i64 z, .int .i64 ob, .int .u64 bi, .slice oa len cap] 29)) w.heap.size (.int .i64 kd) (.int .i64 ps) (.string nm) (.int .i64 t) (.int .i64 nz) (.int .i64 z) (.int .i64 ob) (.int .u64 bi) (.slice oa len cap) from B_ _ _)
 have B0 := Zb (BA.out (.cells #[.int .i64 kd, .int .i64 ps, .string nm, .int .i64 t, .int .i64 nz, .int .i64 z, .int .i64 ob, .int .u64 bi, .slice oa len cap] 29))
 have E0 := Zb (EA.out (.cells #[.int .i64 kd, .int .i64 ps, .string nm, .int .i64 t, .int .i64 nz, .int .i64 z, .int .i64 ob, .int .u64 bi, .slice oa len cap] 29))
 have K0 := Zb (KA.out (.cells #[.int .i64 kd, .int .i64 ps, .string nm, .int .i64 t, .int .i64 nz, .int .i64 z, .int .i64 ob, .int .u64 bi, .slice oa len cap] 29))
 generalize w.alloc _ = w0 at *
 obtain ⟨_, b0, b1, b2, b3, b4, b5, b6, b7, b8⟩ := N0.out.all
 refine (Yb (ZE E0.out)).mono ?_
 rintro e uu ⟨rfl, rfl⟩
 exact ⟨rfl, Gt.no rfl B0.out⟩
theorem expr_from {p : List Addr} (ex : Nd -> Bool) (n : Nd) (hk : ∀ k ∈ n.kids, ZR 33 p ex k) : ZR 33 p (exr ex) n := by
 have HT := Zb (target_from ex n hk)
 intro w v he hv
 obtain ⟨kd, ps, nm, t, nz, z, ob, bi, ks⟩ := n
 unfold Zq at hv
 obtain ⟨s, rfl, hkk⟩ := hv
 obtain ⟨oa, cap, rfl, hsh⟩ := hkk.kid
 have hlen : ks.length <= 9223372036854775807 := by
  rcases hsh with rfl | ⟨a, _, h1, h2, _⟩
  · simp
  · unfold maxLen at h2
    omega
 obtain ⟨len, hln⟩ : ∃ len, len = ks.length := ⟨_, rfl⟩
 rw [← hln] at hkk hlen ⊢
 have BA := Zb (fun o => Zd w o)
 have EA := Zb (fun o => he.bel (Zd w o))
 have KA := Zb (fun o => Zr.bel (Zd w o) _ _ hkk)
 have HLN := Zb hln
 have HSH := Zb hsh
 obtain ⟨out, ho⟩ : ∃ out, (exr ex) (.mk kd ps nm t nz z ob bi ks) = out := ⟨_, rfl⟩
 rw [ho]
 have HO := Zb ho
 clear ho he hkk hln hsh
 go_enter Tryz.func33, Tryz.ntmps33
 by_cases h25 : kd = 25
 · subst h25
   have HX := Zb (show (decide (0 <= nz) && ZH nm t 0 z ob bi len) = out from (by rw [HLN.out]; simpa [exr] using HO.out))
   clear HO
   go_wp2_with fail
   have N0 := Zb (show Nod (w.alloc (.cells #[.int .i64 25, .int .i64 ps, .string nm, .int .i64 t, .int .i64 nz, .int .i64 z, .int .i64 ob, .int .u64 bi, .slice oa len cap] 29)) w.heap.size (.int .i64 25) (.int .i64 ps) (.string nm) (.int .i64 t) (.int .i64 nz) (.int .i64 z) (.int .i64 ob) (.int .u64 bi) (.slice oa len cap) from B_ _ _)
   have B0 := Zb (BA.out (.cells #[.int .i64 25, .int .i64 ps, .string nm, .int .i64 t, .int .i64 nz, .int .i64 z, .int .i64 ob, .int .u64 bi, .slice oa len cap] 29))
   have E0 := Zb (EA.out (.cells #[.int .i64 25, .int .i64 ps, .string nm, .int .i64 t, .int .i64 nz, .int .i64 z, .int .i64 ob, .int .u64 bi, .slice oa len cap] 29))
   have K0 := Zb (KA.out (.cells #[.int .i64 25, .int .i64 ps, .string nm, .int .i64 t, .int .i64 nz, .int .i64 z, .int .i64 ob, .int .u64 bi, .slice oa len cap] 29))
   generalize w.alloc _ = w0 at *
   obtain ⟨_, b0, b1, b2, b3, b4, b5, b6, b7, b8⟩ := N0.out.all
   have I0 := Zb (Below.refl w0.heap.size w0)
   refine (counted_any (ZE (E0.out.bel I0.out)) 25 ps nm t nz z ob bi oa len cap).mono ?_
   intro e u0 hp
   rcases hp.both with ⟨h1, rfl, hb⟩ | ⟨h1, rfl, hb⟩
   rotate_left 1
   · exact ⟨rfl, Gt.no (by rw [← HX.out]; simp [h1]) (Zc B0.out (Zc I0.out hb))⟩
   have I1 := Zb (Zc I0.out hb)
   have T0 := Zb h1
   clear hb hp h1 I0 b0 b1 b2 b3 b4 b5 b6 b7 b8
   go_wp2_with fail
   refine (Zl (ZE (E0.out.bel I1.out)) 25 ps nm t 0 z ob bi oa len cap).mono ?_
   intro e u1 hp
   rcases hp.both with ⟨h1, rfl, hb⟩ | ⟨h1, rfl, hb⟩
   rotate_left 1
   · exact ⟨rfl, Gt.no (by rw [← HX.out]; simp [T0.out, h1]) (Zc B0.out (Zc I1.out hb))⟩
   have I2 := Zb (Zc I1.out hb)
   have T1 := Zb h1
   clear hb hp h1 I1
   go_wp2_with fail
   go_end0
   exact Gt.yes (by rw [← HX.out]; simp [T0.out, T1.out]) (Zc B0.out I2.out)
 by_cases h26 : kd = 26
 · subst h26
   have HX := Zb (show (ZH nm t nz z ob 0 len) = out from (by rw [HLN.out]; simpa [exr] using HO.out))
   clear HO
   go_wp2_with fail
   have N0 := Zb (show Nod (w.alloc (.cells #[.int .i64 26, .int .i64 ps, .string nm, .int .i64 t, .int .i64 nz, .int .i64 z, .int .i64 ob, .int .u64 0, .slice oa len cap] 29)) w.heap.size (.int .i64 26) (.int .i64 ps) (.string nm) (.int .i64 t) (.int .i64 nz) (.int .i64 z) (.int .i64 ob) (.int .u64 0) (.slice oa len cap) from B_ _ _)
   have B0 := Zb (BA.out (.cells #[.int .i64 26, .int .i64 ps, .string nm, .int .i64 t, .int .i64 nz, .int .i64 z, .int .i64 ob, .int .u64 0, .slice oa len cap] 29))
   have E0 := Zb (EA.out (.cells #[.int .i64 26, .int .i64 ps, .string nm, .int .i64 t, .int .i64 nz, .int .i64 z, .int .i64 ob, .int .u64 0, .slice oa len cap] 29))
   have K0 := Zb (KA.out (.cells #[.int .i64 26, .int .i64 ps, .string nm, .int .i64 t, .int .i64 nz, .int .i64 z, .int .i64 ob, .int .u64 0, .slice oa len cap] 29))
   generalize w.alloc _ = w0 at *
   obtain ⟨_, b0, b1, b2, b3, b4, b5, b6, b7, b8⟩ := N0.out.all
   have I0 := Zb (Below.refl w0.heap.size w0)
   refine (Zl (ZE (E0.out.bel I0.out)) 26 ps nm t nz z ob 0 oa len cap).mono ?_
   intro e u0 hp
   rcases hp.both with ⟨h1, rfl, hb⟩ | ⟨h1, rfl, hb⟩
   rotate_left 1
   · exact ⟨rfl, Gt.no (by rw [← HX.out]; simp [h1]) (Zc B0.out (Zc I0.out hb))⟩
   have I1 := Zb (Zc I0.out hb)
   have T0 := Zb h1
   clear hb hp h1 I0 b0 b1 b2 b3 b4 b5 b6 b7 b8
   go_wp2_with fail
   go_end0
   exact Gt.yes (by rw [← HX.out]; simp [T0.out]) (Zc B0.out I1.out)
 by_cases h27 : kd = 27
 · by_cases hn1 : nz <= 1
   · subst h27
     have HX := Zb (show (decide (0 <= nz) && ZH nm t 0 z ob bi len) = out from (by rw [HLN.out]; simpa [exr, hn1] using HO.out))
     clear HO
     go_wp2_with fail
     have N0 := Zb (show Nod (w.alloc (.cells #[.int .i64 27, .int .i64 ps, .string nm, .int .i64 t, .int .i64 nz, .int .i64 z, .int .i64 ob, .int .u64 bi, .slice oa len cap] 29)) w.heap.size (.int .i64 27) (.int .i64 ps) (.string nm) (.int .i64 t) (.int .i64 nz) (.int .i64 z) (.int .i64 ob) (.int .u64 bi) (.slice oa len cap) from B_ _ _)
     have B0 := Zb (BA.out (.cells #[.int .i64 27, .int .i64 ps, .string nm, .int .i64 t, .int .i64 nz, .int .i64 z, .int .i64 ob, .int .u64 bi, .slice oa len cap] 29))
     have E0 := Zb (EA.out (.cells #[.int .i64 27, .int .i64 ps, .string nm, .int .i64 t, .int .i64 nz, .int .i64 z, .int .i64 ob, .int .u64 bi, .slice oa len cap] 29))
     have K0 := Zb (KA.out (.cells #[.int .i64 27, .int .i64 ps, .string nm, .int .i64 t, .int .i64 nz, .int .i64 z, .int .i64 ob, .int .u64 bi, .slice oa len cap] 29))
     generalize w.alloc _ = w0 at *
     obtain ⟨_, b0, b1, b2, b3, b4, b5, b6, b7, b8⟩ := N0.out.all
     refine (ZP _).mono ?_
     rintro e uu ⟨rfl, hu⟩
     subst uu
     go_wp2_with fail
     have I0 := Zb (Below.refl w0.heap.size w0)
     refine (counted_any (ZE (E0.out.bel I0.out)) 27 ps nm t nz z ob bi oa len cap).mono ?_
     intro e u0 hp
     rcases hp.both with ⟨h1, rfl, hb⟩ | ⟨h1, rfl, hb⟩
     rotate_left 1
     · exact ⟨rfl, Gt.no (by rw [← HX.out]; simp [h1]) (Zc B0.out (Zc I0.out hb))⟩
     have I1 := Zb (Zc I0.out hb)
     have T0 := Zb h1
     clear hb hp h1 I0 b0 b1 b2 b3 b4 b5 b6 b7 b8
     go_wp2_with fail
     refine (Zl (ZE (E0.out.bel I1.out)) 27 ps nm t 0 z ob bi oa len cap).mono ?_
     intro e u1 hp
     rcases hp.both with ⟨h1, rfl, hb⟩ | ⟨h1, rfl, hb⟩
     rotate_left 1
     · exact ⟨rfl, Gt.no (by rw [← HX.out]; simp [T0.out, h1]) (Zc B0.out (Zc I1.out hb))⟩
     have I2 := Zb (Zc I1.out hb)
     have T1 := Zb h1
     clear hb hp h1 I1
     go_wp2_with fail
     go_end0
     exact Gt.yes (by rw [← HX.out]; simp [T0.out, T1.out]) (Zc B0.out I2.out)
   · subst h27
     have hout : out = false := by rw [← HO.out]; simp [exr, hn1]
     subst hout
     go_wp2_with fail
     have N0 := Zb (show Nod (w.alloc (.cells #[.int .i64 27, .int .i64 ps, .string nm, .int .i64 t, .int .i64 nz, .int .i64 z, .int .i64 ob, .int .u64 bi, .slice oa len cap] 29)) w.heap.size (.int .i64 27) (.int .i64 ps) (.string nm) (.int .i64 t) (.int .i64 nz) (.int .i64 z) (.int .i64 ob) (.int .u64 bi) (.slice oa len cap) from B_ _ _)
     have B0 := Zb (BA.out (.cells #[.int .i64 27, .int .i64 ps, .string nm, .int .i64 t, .int .i64 nz, .int .i64 z, .int .i64 ob, .int .u64 bi, .slice oa len cap] 29))
     have E0 := Zb (EA.out (.cells #[.int .i64 27, .int .i64 ps, .string nm, .int .i64 t, .int .i64 nz, .int .i64 z, .int .i64 ob, .int .u64 bi, .slice oa len cap] 29))
     have K0 := Zb (KA.out (.cells #[.int .i64 27, .int .i64 ps, .string nm, .int .i64 t, .int .i64 nz, .int .i64 z, .int .i64 ob, .int .u64 bi, .slice oa len cap] 29))
     generalize w.alloc _ = w0 at *
     obtain ⟨_, b0, b1, b2, b3, b4, b5, b6, b7, b8⟩ := N0.out.all
     refine (Yb (ZE E0.out)).mono ?_
     rintro e uu ⟨rfl, rfl⟩
     exact ⟨rfl, Gt.no rfl B0.out⟩
 by_cases h30 : kd = 30
 · subst h30
   have HX := Zb (show (prefF nm && (Yz ex ks && ZH ⟨#[]⟩ t nz z ob bi 0)) = out from (by simpa [exr] using HO.out))
   clear HO
   go_wp2_with fail
   have N0 := Zb (show Nod (w.alloc (.cells #[.int .i64 30, .int .i64 ps, .string nm, .int .i64 t, .int .i64 nz, .int .i64 z, .int .i64 ob, .int .u64 bi, .slice oa len cap] 29)) w.heap.size (.int .i64 30) (.int .i64 ps) (.string nm) (.int .i64 t) (.int .i64 nz) (.int .i64 z) (.int .i64 ob) (.int .u64 bi) (.slice oa len cap) from B_ _ _)
   have B0 := Zb (BA.out (.cells #[.int .i64 30, .int .i64 ps, .string nm, .int .i64 t, .int .i64 nz, .int .i64 z, .int .i64 ob, .int .u64 bi, .slice oa len cap] 29))
   have E0 := Zb (EA.out (.cells #[.int .i64 30, .int .i64 ps, .string nm, .int .i64 t, .int .i64 nz, .int .i64 z, .int .i64 ob, .int .u64 bi, .slice oa len cap] 29))
   have K0 := Zb (KA.out (.cells #[.int .i64 30, .int .i64 ps, .string nm, .int .i64 t, .int .i64 nz, .int .i64 z, .int .i64 ob, .int .u64 bi, .slice oa len cap] 29))
   generalize w.alloc _ = w0 at *
   obtain ⟨_, b0, b1, b2, b3, b4, b5, b6, b7, b8⟩ := N0.out.all
   clear b0 b1 b2 b3 b4 b5 b6 b7 b8
   refine wp_region_held_drew (S := fun w' => Nod w' w.heap.size (.int .i64 30) (.int .i64 ps) (.string nm) (.int .i64 t) (.int .i64 nz) (.int .i64 z) (.int .i64 ob) (.int .u64 bi) (.slice oa len cap)) ZI N0.out (fun hH => ?_)
   have J0 := Zb (show Below w0.heap.size w0 w0.drew from Zm (Below.refl _ _))
   generalize w0.drew = y0 at *
   refine H_ 0 (v := ?_) ?_ hH ?_
   rotate_left 1
   · (intro w hSw; obtain ⟨_, e0, e1, e2, e3, e4, e5, e6, e7, e8⟩ := hSw.all; clear hSw; go_simp <;> with_reducible rfl)
   simp only [Act.put, S_]
   refine H_ 1 (v := ?_) ?_ hH ?_
   rotate_left 1
   · (intro w _; go_simp <;> with_reducible rfl)
   simp only [Act.put, S_]
   refine H_ 2 (v := ?_) ?_ hH ?_
   rotate_left 1
   · (intro w hSw; obtain ⟨_, e0, e1, e2, e3, e4, e5, e6, e7, e8⟩ := hSw.all; clear hSw; go_simp <;> with_reducible rfl)
   simp only [Act.put, S_]
   refine wpAnyH_ready (rs := [3, 5]) (by kernel_rfl) (by decide) ?_
   refine AllReadyH.cons rfl (fun K1 hK1 => ?_) (AllReadyH.cons rfl (fun K1 hK1 => ?_) AllReadyH.nil)
   · go_simp
     refine (prefix_any nm y0).mono ?_
     rintro e yy ⟨rfl, rfl⟩
     refine hK1.out _ _ hH (fun hH => ?_)
     clear hK1 K1
     refine wpAnyH_ready (rs := [4, 5]) (by kernel_rfl) (by decide) ?_
     refine AllReadyH.cons rfl (fun K1 hK1 => ?_) (AllReadyH.cons rfl (fun K1 hK1 => ?_) AllReadyH.nil)
     · go_simp
       refine (Yw (ZE (E0.out.bel J0.out)) 30 ps nm t nz z ob bi oa len cap (prefF nm)).mono ?_
       intro e y1 hp
       rcases hp.both with ⟨h1, rfl, hb⟩ | ⟨h1, rfl, hb⟩
       rotate_left 1
       · exact ⟨rfl, Gt.no (by rw [← HX.out]; simp [h1]) (Zc B0.out (Zc J0.out hb))⟩
       refine hK1.out _ _ (hH.bel hb) (fun hH => ?_)
       clear hK1 K1
       have J1 := Zb (Zc J0.out hb)
       have T0 := Zb h1
       clear hb hp h1
       refine wpAnyH_ready (rs := [5]) (by kernel_rfl) (by decide) ?_
       refine AllReadyH.cons rfl (fun K1 hK1 => ?_) AllReadyH.nil
       go_simp
       refine hK1.out _ _ (hH.bel (Zd y1 (.cells #[.func (.func 33) #[] #[]] 64))) (fun hH => ?_)
       clear hK1 K1
       have FC0 := Zb (Zf (B_ y1 (.cells #[.func (.func 33) #[] #[]] 64)) 0 _ rfl)
       have J2 := Zb (Zc J1.out (Zd y1 (.cells #[.func (.func 33) #[] #[]] 64)))
       generalize y1.alloc _ = y2 at *
       generalize y1.heap.size = gb at *
       refine wpAnyH_ready (rs := [6]) (by kernel_rfl) (by decide) ?_
       refine AllReadyH.cons rfl (fun K1 hK1 => ?_) AllReadyH.nil
       go_simp
       refine (all_ex (E0.out.bel J2.out) 30 ps ⟨#[]⟩ t nz z ob bi oa len cap ks (Zr.bel J2.out _ _ K0.out) gb 1 FC0.out ex (fun x hx => hk x (List.mem_of_getElem? hx))).mono ?_
       intro e y3 hp
       rcases hp.both with ⟨h1, rfl, hb⟩ | ⟨h1, rfl, hb⟩
       rotate_left 1
       · exact ⟨rfl, Gt.no (by rw [← HX.out]; simp [T0.out, h1]) (Zc B0.out (Zc J2.out hb))⟩
       refine hK1.out _ _ (hH.bel hb) (fun hH => ?_)
       clear hK1 K1
       have J3 := Zb (Zc J2.out hb)
       have FC0 := Zb ((hb.cell (p := ⟨gb, 0, none⟩) (World.block_lt_of_cell? y2 _ FC0.out)).trans FC0.out)
       have T2 := Zb h1
       clear hb hp h1
       refine wpAnyH_ready (rs := [7]) (by kernel_rfl) (by decide) ?_
       refine AllReadyH.cons rfl (fun K1 hK1 => ?_) AllReadyH.nil
       go_simp
       refine (Zl (ZE (E0.out.bel J3.out)) 30 ps ⟨#[]⟩ t nz z ob bi none 0 0).mono ?_
       intro e y4 hp
       rcases hp.both with ⟨h1, rfl, hb⟩ | ⟨h1, rfl, hb⟩
       rotate_left 1
       · exact ⟨rfl, Gt.no (by rw [← HX.out]; simp [T0.out, T2.out, h1]) (Zc B0.out (Zc J3.out hb))⟩
       refine hK1.out _ _ (hH.bel hb) (fun hH => ?_)
       clear hK1 K1
       have J4 := Zb (Zc J3.out hb)
       have FC0 := Zb ((hb.cell (p := ⟨gb, 0, none⟩) (World.block_lt_of_cell? y3 _ FC0.out)).trans FC0.out)
       have T3 := Zb h1
       clear hb hp h1
       refine wpAnyH_done (by kernel_rfl) ?_ _
       go_wp2_with fail
       go_end0
       exact Gt.yes (by rw [← HX.out]; simp [T0.out, T2.out, T3.out]) (Zc B0.out J4.out)
     · go_simp
       refine hK1.out _ _ (hH.bel (Zd y0 (.cells #[.func (.func 33) #[] #[]] 64))) (fun hH => ?_)
       clear hK1 K1
       have FC0 := Zb (Zf (B_ y0 (.cells #[.func (.func 33) #[] #[]] 64)) 0 _ rfl)
       have J1 := Zb (Zc J0.out (Zd y0 (.cells #[.func (.func 33) #[] #[]] 64)))
       generalize y0.alloc _ = y1 at *
       generalize y0.heap.size = gb at *
       refine wpAnyH_ready (rs := [4]) (by kernel_rfl) (by decide) ?_
       refine AllReadyH.cons rfl (fun K1 hK1 => ?_) AllReadyH.nil
       go_simp
       refine (Yw (ZE (E0.out.bel J1.out)) 30 ps nm t nz z ob bi oa len cap (prefF nm)).mono ?_
       intro e y2 hp
       rcases hp.both with ⟨h1, rfl, hb⟩ | ⟨h1, rfl, hb⟩
       rotate_left 1
       · exact ⟨rfl, Gt.no (by rw [← HX.out]; simp [h1]) (Zc B0.out (Zc J1.out hb))⟩
       refine hK1.out _ _ (hH.bel hb) (fun hH => ?_)
       clear hK1 K1
       have J2 := Zb (Zc J1.out hb)
       have FC0 := Zb ((hb.cell (p := ⟨gb, 0, none⟩) (World.block_lt_of_cell? y1 _ FC0.out)).trans FC0.out)
       have T1 := Zb h1
       clear hb hp h1
       refine wpAnyH_ready (rs := [6]) (by kernel_rfl) (by decide) ?_
       refine AllReadyH.cons rfl (fun K1 hK1 => ?_) AllReadyH.nil
       go_simp
       refine (all_ex (E0.out.bel J2.out) 30 ps ⟨#[]⟩ t nz z ob bi oa len cap ks (Zr.bel J2.out _ _ K0.out) gb 1 FC0.out ex (fun x hx => hk x (List.mem_of_getElem? hx))).mono ?_
       intro e y3 hp
       rcases hp.both with ⟨h1, rfl, hb⟩ | ⟨h1, rfl, hb⟩
       rotate_left 1
       · exact ⟨rfl, Gt.no (by rw [← HX.out]; simp [T1.out, h1]) (Zc B0.out (Zc J2.out hb))⟩
       refine hK1.out _ _ (hH.bel hb) (fun hH => ?_)
       clear hK1 K1
       have J3 := Zb (Zc J2.out hb)
       have FC0 := Zb ((hb.cell (p := ⟨gb, 0, none⟩) (World.block_lt_of_cell? y2 _ FC0.out)).trans FC0.out)
       have T2 := Zb h1
       clear hb hp h1
       refine wpAnyH_ready (rs := [7]) (by kernel_rfl) (by decide) ?_
       refine AllReadyH.cons rfl (fun K1 hK1 => ?_) AllReadyH.nil
       go_simp
       refine (Zl (ZE (E0.out.bel J3.out)) 30 ps ⟨#[]⟩ t nz z ob bi none 0 0).mono ?_
       intro e y4 hp
       rcases hp.both with ⟨h1, rfl, hb⟩ | ⟨h1, rfl, hb⟩
       rotate_left 1
       · exact ⟨rfl, Gt.no (by rw [← HX.out]; simp [T1.out, T2.out, h1]) (Zc B0.out (Zc J3.out hb))⟩
       refine hK1.out _ _ (hH.bel hb) (fun hH => ?_)
       clear hK1 K1
       have J4 := Zb (Zc J3.out hb)
       have FC0 := Zb ((hb.cell (p := ⟨gb, 0, none⟩) (World.block_lt_of_cell? y3 _ FC0.out)).trans FC0.out)
       have T3 := Zb h1
       clear hb hp h1
       refine wpAnyH_done (by kernel_rfl) ?_ _
       go_wp2_with fail
       go_end0
       exact Gt.yes (by rw [← HX.out]; simp [T1.out, T2.out, T3.out]) (Zc B0.out J4.out)
   · go_simp
     refine hK1.out _ _ (hH.bel (Zd y0 (.cells #[.func (.func 33) #[] #[]] 64))) (fun hH => ?_)
     clear hK1 K1
     have FC0 := Zb (Zf (B_ y0 (.cells #[.func (.func 33) #[] #[]] 64)) 0 _ rfl)
     have J1 := Zb (Zc J0.out (Zd y0 (.cells #[.func (.func 33) #[] #[]] 64)))
     generalize y0.alloc _ = y1 at *
     generalize y0.heap.size = gb at *
     refine wpAnyH_ready (rs := [3]) (by kernel_rfl) (by decide) ?_
     refine AllReadyH.cons rfl (fun K1 hK1 => ?_) AllReadyH.nil
     go_simp
     refine (prefix_any nm y1).mono ?_
     rintro e yy ⟨rfl, rfl⟩
     refine hK1.out _ _ hH (fun hH => ?_)
     clear hK1 K1
     refine wpAnyH_ready (rs := [4]) (by kernel_rfl) (by decide) ?_
     refine AllReadyH.cons rfl (fun K1 hK1 => ?_) AllReadyH.nil
     go_simp
     refine (Yw (ZE (E0.out.bel J1.out)) 30 ps nm t nz z ob bi oa len cap (prefF nm)).mono ?_
     intro e y2 hp
     rcases hp.both with ⟨h1, rfl, hb⟩ | ⟨h1, rfl, hb⟩
     rotate_left 1
     · exact ⟨rfl, Gt.no (by rw [← HX.out]; simp [h1]) (Zc B0.out (Zc J1.out hb))⟩
     refine hK1.out _ _ (hH.bel hb) (fun hH => ?_)
     clear hK1 K1
     have J2 := Zb (Zc J1.out hb)
     have FC0 := Zb ((hb.cell (p := ⟨gb, 0, none⟩) (World.block_lt_of_cell? y1 _ FC0.out)).trans FC0.out)
     have T1 := Zb h1
     clear hb hp h1
     refine wpAnyH_ready (rs := [6]) (by kernel_rfl) (by decide) ?_
     refine AllReadyH.cons rfl (fun K1 hK1 => ?_) AllReadyH.nil
     go_simp
     refine (all_ex (E0.out.bel J2.out) 30 ps ⟨#[]⟩ t nz z ob bi oa len cap ks (Zr.bel J2.out _ _ K0.out) gb 1 FC0.out ex (fun x hx => hk x (List.mem_of_getElem? hx))).mono ?_
     intro e y3 hp
     rcases hp.both with ⟨h1, rfl, hb⟩ | ⟨h1, rfl, hb⟩
     rotate_left 1
     · exact ⟨rfl, Gt.no (by rw [← HX.out]; simp [T1.out, h1]) (Zc B0.out (Zc J2.out hb))⟩
     refine hK1.out _ _ (hH.bel hb) (fun hH => ?_)
     clear hK1 K1
     have J3 := Zb (Zc J2.out hb)
     have FC0 := Zb ((hb.cell (p := ⟨gb, 0, none⟩) (World.block_lt_of_cell? y2 _ FC0.out)).trans FC0.out)
     have T2 := Zb h1
     clear hb hp h1
     refine wpAnyH_ready (rs := [7]) (by kernel_rfl) (by decide) ?_
     refine AllReadyH.cons rfl (fun K1 hK1 => ?_) AllReadyH.nil
     go_simp
     refine (Zl (ZE (E0.out.bel J3.out)) 30 ps ⟨#[]⟩ t nz z ob bi none 0 0).mono ?_
     intro e y4 hp
     rcases hp.both with ⟨h1, rfl, hb⟩ | ⟨h1, rfl, hb⟩
     rotate_left 1
     · exact ⟨rfl, Gt.no (by rw [← HX.out]; simp [T1.out, T2.out, h1]) (Zc B0.out (Zc J3.out hb))⟩
     refine hK1.out _ _ (hH.bel hb) (fun hH => ?_)
     clear hK1 K1
     have J4 := Zb (Zc J3.out hb)
     have FC0 := Zb ((hb.cell (p := ⟨gb, 0, none⟩) (World.block_lt_of_cell? y3 _ FC0.out)).trans FC0.out)
     have T3 := Zb h1
     clear hb hp h1
     refine wpAnyH_done (by kernel_rfl) ?_ _
     go_wp2_with fail
     go_end0
     exact Gt.yes (by rw [← HX.out]; simp [T1.out, T2.out, T3.out]) (Zc B0.out J4.out)
 by_cases h31 : kd = 31
 · subst h31
   have HX := Zb (show (decide (0 < rankF nm) && (all2B ex ex ks && ZH ⟨#[]⟩ t nz z ob bi 0)) = out from (by simpa [exr] using HO.out))
   clear HO
   go_wp2_with fail
   have N0 := Zb (show Nod (w.alloc (.cells #[.int .i64 31, .int .i64 ps, .string nm, .int .i64 t, .int .i64 nz, .int .i64 z, .int .i64 ob, .int .u64 bi, .slice oa len cap] 29)) w.heap.size (.int .i64 31) (.int .i64 ps) (.string nm) (.int .i64 t) (.int .i64 nz) (.int .i64 z) (.int .i64 ob) (.int .u64 bi) (.slice oa len cap) from B_ _ _)
   have B0 := Zb (BA.out (.cells #[.int .i64 31, .int .i64 ps, .string nm, .int .i64 t, .int .i64 nz, .int .i64 z, .int .i64 ob, .int .u64 bi, .slice oa len cap] 29))
   have E0 := Zb (EA.out (.cells #[.int .i64 31, .int .i64 ps, .string nm, .int .i64 t, .int .i64 nz, .int .i64 z, .int .i64 ob, .int .u64 bi, .slice oa len cap] 29))
   have K0 := Zb (KA.out (.cells #[.int .i64 31, .int .i64 ps, .string nm, .int .i64 t, .int .i64 nz, .int .i64 z, .int .i64 ob, .int .u64 bi, .slice oa len cap] 29))
   generalize w.alloc _ = w0 at *
   obtain ⟨_, b0, b1, b2, b3, b4, b5, b6, b7, b8⟩ := N0.out.all
   clear b0 b1 b2 b3 b4 b5 b6 b7 b8
   refine wp_region_held_drew (S := fun w' => Nod w' w.heap.size (.int .i64 31) (.int .i64 ps) (.string nm) (.int .i64 t) (.int .i64 nz) (.int .i64 z) (.int .i64 ob) (.int .u64 bi) (.slice oa len cap)) ZI N0.out (fun hH => ?_)
   have J0 := Zb (show Below w0.heap.size w0 w0.drew from Zm (Below.refl _ _))
   generalize w0.drew = y0 at *
   refine H_ 0 (v := ?_) ?_ hH ?_
   rotate_left 1
   · (intro w hSw; obtain ⟨_, e0, e1, e2, e3, e4, e5, e6, e7, e8⟩ := hSw.all; clear hSw; go_simp <;> with_reducible rfl)
   simp only [Act.put, S_]
   refine H_ 1 (v := ?_) ?_ hH ?_
   rotate_left 1
   · (intro w _; go_simp <;> with_reducible rfl)
   simp only [Act.put, S_]
   refine H_ 2 (v := ?_) ?_ hH ?_
   rotate_left 1
   · (intro w hSw; obtain ⟨_, e0, e1, e2, e3, e4, e5, e6, e7, e8⟩ := hSw.all; clear hSw; go_simp <;> with_reducible rfl)
   simp only [Act.put, S_]
   refine wpAnyH_ready (rs := [3, 6]) (by kernel_rfl) (by decide) ?_
   refine AllReadyH.cons rfl (fun K1 hK1 => ?_) (AllReadyH.cons rfl (fun K1 hK1 => ?_) AllReadyH.nil)
   · go_simp
     refine (rank_any nm y0).mono ?_
     rintro e yy ⟨rfl, rfl⟩
     refine hK1.out _ _ hH (fun hH => ?_)
     clear hK1 K1
     refine H_ 4 (v := ?_) ?_ hH ?_
     rotate_left 1
     · (intro w _; go_simp <;> with_reducible rfl)
     simp only [Act.put, S_]
     refine wpAnyH_ready (rs := [5, 6]) (by kernel_rfl) (by decide) ?_
     refine AllReadyH.cons rfl (fun K1 hK1 => ?_) (AllReadyH.cons rfl (fun K1 hK1 => ?_) AllReadyH.nil)
     · go_simp
       refine (Yw (ZE (E0.out.bel J0.out)) 31 ps nm t nz z ob bi oa len cap (decide (0 < rankF nm))).mono ?_
       intro e y1 hp
       rcases hp.both with ⟨h1, rfl, hb⟩ | ⟨h1, rfl, hb⟩
       rotate_left 1
       · exact ⟨rfl, Gt.no (by rw [← HX.out]; simp [h1]) (Zc B0.out (Zc J0.out hb))⟩
       refine hK1.out _ _ (hH.bel hb) (fun hH => ?_)
       clear hK1 K1
       have J1 := Zb (Zc J0.out hb)
       have T0 := Zb h1
       clear hb hp h1
       refine wpAnyH_ready (rs := [6]) (by kernel_rfl) (by decide) ?_
       refine AllReadyH.cons rfl (fun K1 hK1 => ?_) AllReadyH.nil
       go_simp
       refine hK1.out _ _ (hH.bel (Zd y1 (.cells #[.func (.func 33) #[] #[], .func (.func 33) #[] #[]] 64))) (fun hH => ?_)
       clear hK1 K1
       have FC0 := Zb (Zf (B_ y1 (.cells #[.func (.func 33) #[] #[], .func (.func 33) #[] #[]] 64)) 0 _ rfl)
       have FC1 := Zb (Zf (B_ y1 (.cells #[.func (.func 33) #[] #[], .func (.func 33) #[] #[]] 64)) 1 _ rfl)
       have J2 := Zb (Zc J1.out (Zd y1 (.cells #[.func (.func 33) #[] #[], .func (.func 33) #[] #[]] 64)))
       generalize y1.alloc _ = y2 at *
       generalize y1.heap.size = gb at *
       refine wpAnyH_ready (rs := [7]) (by kernel_rfl) (by decide) ?_
       refine AllReadyH.cons rfl (fun K1 hK1 => ?_) AllReadyH.nil
       go_simp
       refine (all_exex (E0.out.bel J2.out) 31 ps ⟨#[]⟩ t nz z ob bi oa len cap ks (Zr.bel J2.out _ _ K0.out) gb 2 FC0.out FC1.out ex ex (fun x hx => hk x (List.mem_of_getElem? hx)) (fun x hx => hk x (List.mem_of_getElem? hx))).mono ?_
       intro e y3 hp
       rcases hp.both with ⟨h1, rfl, hb⟩ | ⟨h1, rfl, hb⟩
       rotate_left 1
       · exact ⟨rfl, Gt.no (by rw [← HX.out]; simp [T0.out, h1]) (Zc B0.out (Zc J2.out hb))⟩
       refine hK1.out _ _ (hH.bel hb) (fun hH => ?_)
       clear hK1 K1
       have J3 := Zb (Zc J2.out hb)
       have FC0 := Zb ((hb.cell (p := ⟨gb, 0, none⟩) (World.block_lt_of_cell? y2 _ FC0.out)).trans FC0.out)
       have FC1 := Zb ((hb.cell (p := ⟨gb, 1, none⟩) (World.block_lt_of_cell? y2 _ FC1.out)).trans FC1.out)
       have T2 := Zb h1
       clear hb hp h1
       refine wpAnyH_ready (rs := [8]) (by kernel_rfl) (by decide) ?_
       refine AllReadyH.cons rfl (fun K1 hK1 => ?_) AllReadyH.nil
       go_simp
       refine (Zl (ZE (E0.out.bel J3.out)) 31 ps ⟨#[]⟩ t nz z ob bi none 0 0).mono ?_
       intro e y4 hp
       rcases hp.both with ⟨h1, rfl, hb⟩ | ⟨h1, rfl, hb⟩
       rotate_left 1
       · exact ⟨rfl, Gt.no (by rw [← HX.out]; simp [T0.out, T2.out, h1]) (Zc B0.out (Zc J3.out hb))⟩
       refine hK1.out _ _ (hH.bel hb) (fun hH => ?_)
       clear hK1 K1
       have J4 := Zb (Zc J3.out hb)
       have FC0 := Zb ((hb.cell (p := ⟨gb, 0, none⟩) (World.block_lt_of_cell? y3 _ FC0.out)).trans FC0.out)
       have FC1 := Zb ((hb.cell (p := ⟨gb, 1, none⟩) (World.block_lt_of_cell? y3 _ FC1.out)).trans FC1.out)
       have T3 := Zb h1
       clear hb hp h1
       refine wpAnyH_done (by kernel_rfl) ?_ _
       go_wp2_with fail
       go_end0
       exact Gt.yes (by rw [← HX.out]; simp [T0.out, T2.out, T3.out]) (Zc B0.out J4.out)
     · go_simp
       refine hK1.out _ _ (hH.bel (Zd y0 (.cells #[.func (.func 33) #[] #[], .func (.func 33) #[] #[]] 64))) (fun hH => ?_)
       clear hK1 K1
       have FC0 := Zb (Zf (B_ y0 (.cells #[.func (.func 33) #[] #[], .func (.func 33) #[] #[]] 64)) 0 _ rfl)
       have FC1 := Zb (Zf (B_ y0 (.cells #[.func (.func 33) #[] #[], .func (.func 33) #[] #[]] 64)) 1 _ rfl)
       have J1 := Zb (Zc J0.out (Zd y0 (.cells #[.func (.func 33) #[] #[], .func (.func 33) #[] #[]] 64)))
       generalize y0.alloc _ = y1 at *
       generalize y0.heap.size = gb at *
       refine wpAnyH_ready (rs := [5]) (by kernel_rfl) (by decide) ?_
       refine AllReadyH.cons rfl (fun K1 hK1 => ?_) AllReadyH.nil
       go_simp
       refine (Yw (ZE (E0.out.bel J1.out)) 31 ps nm t nz z ob bi oa len cap (decide (0 < rankF nm))).mono ?_
       intro e y2 hp
       rcases hp.both with ⟨h1, rfl, hb⟩ | ⟨h1, rfl, hb⟩
       rotate_left 1
       · exact ⟨rfl, Gt.no (by rw [← HX.out]; simp [h1]) (Zc B0.out (Zc J1.out hb))⟩
       refine hK1.out _ _ (hH.bel hb) (fun hH => ?_)
       clear hK1 K1
       have J2 := Zb (Zc J1.out hb)
       have FC0 := Zb ((hb.cell (p := ⟨gb, 0, none⟩) (World.block_lt_of_cell? y1 _ FC0.out)).trans FC0.out)
       have FC1 := Zb ((hb.cell (p := ⟨gb, 1, none⟩) (World.block_lt_of_cell? y1 _ FC1.out)).trans FC1.out)
       have T1 := Zb h1
       clear hb hp h1
       refine wpAnyH_ready (rs := [7]) (by kernel_rfl) (by decide) ?_
       refine AllReadyH.cons rfl (fun K1 hK1 => ?_) AllReadyH.nil
       go_simp
       refine (all_exex (E0.out.bel J2.out) 31 ps ⟨#[]⟩ t nz z ob bi oa len cap ks (Zr.bel J2.out _ _ K0.out) gb 2 FC0.out FC1.out ex ex (fun x hx => hk x (List.mem_of_getElem? hx)) (fun x hx => hk x (List.mem_of_getElem? hx))).mono ?_
       intro e y3 hp
       rcases hp.both with ⟨h1, rfl, hb⟩ | ⟨h1, rfl, hb⟩
       rotate_left 1
       · exact ⟨rfl, Gt.no (by rw [← HX.out]; simp [T1.out, h1]) (Zc B0.out (Zc J2.out hb))⟩
       refine hK1.out _ _ (hH.bel hb) (fun hH => ?_)
       clear hK1 K1
       have J3 := Zb (Zc J2.out hb)
       have FC0 := Zb ((hb.cell (p := ⟨gb, 0, none⟩) (World.block_lt_of_cell? y2 _ FC0.out)).trans FC0.out)
       have FC1 := Zb ((hb.cell (p := ⟨gb, 1, none⟩) (World.block_lt_of_cell? y2 _ FC1.out)).trans FC1.out)
       have T2 := Zb h1
       clear hb hp h1
       refine wpAnyH_ready (rs := [8]) (by kernel_rfl) (by decide) ?_
       refine AllReadyH.cons rfl (fun K1 hK1 => ?_) AllReadyH.nil
       go_simp
       refine (Zl (ZE (E0.out.bel J3.out)) 31 ps ⟨#[]⟩ t nz z ob bi none 0 0).mono ?_
       intro e y4 hp
       rcases hp.both with ⟨h1, rfl, hb⟩ | ⟨h1, rfl, hb⟩
       rotate_left 1
       · exact ⟨rfl, Gt.no (by rw [← HX.out]; simp [T1.out, T2.out, h1]) (Zc B0.out (Zc J3.out hb))⟩
       refine hK1.out _ _ (hH.bel hb) (fun hH => ?_)
       clear hK1 K1
       have J4 := Zb (Zc J3.out hb)
       have FC0 := Zb ((hb.cell (p := ⟨gb, 0, none⟩) (World.block_lt_of_cell? y3 _ FC0.out)).trans FC0.out)
       have FC1 := Zb ((hb.cell (p := ⟨gb, 1, none⟩) (World.block_lt_of_cell? y3 _ FC1.out)).trans FC1.out)
       have T3 := Zb h1
       clear hb hp h1
       refine wpAnyH_done (by kernel_rfl) ?_ _
       go_wp2_with fail
       go_end0
       exact Gt.yes (by rw [← HX.out]; simp [T1.out, T2.out, T3.out]) (Zc B0.out J4.out)
   · go_simp
     refine hK1.out _ _ (hH.bel (Zd y0 (.cells #[.func (.func 33) #[] #[], .func (.func 33) #[] #[]] 64))) (fun hH => ?_)
     clear hK1 K1
     have FC0 := Zb (Zf (B_ y0 (.cells #[.func (.func 33) #[] #[], .func (.func 33) #[] #[]] 64)) 0 _ rfl)
     have FC1 := Zb (Zf (B_ y0 (.cells #[.func (.func 33) #[] #[], .func (.func 33) #[] #[]] 64)) 1 _ rfl)
     have J1 := Zb (Zc J0.out (Zd y0 (.cells #[.func (.func 33) #[] #[], .func (.func 33) #[] #[]] 64)))
     generalize y0.alloc _ = y1 at *
     generalize y0.heap.size = gb at *
     refine wpAnyH_ready (rs := [3]) (by kernel_rfl) (by decide) ?_
     refine AllReadyH.cons rfl (fun K1 hK1 => ?_) AllReadyH.nil
     go_simp
     refine (rank_any nm y1).mono ?_
     rintro e yy ⟨rfl, rfl⟩
     refine hK1.out _ _ hH (fun hH => ?_)
     clear hK1 K1
     refine H_ 4 (v := ?_) ?_ hH ?_
     rotate_left 1
     · (intro w _; go_simp <;> with_reducible rfl)
     simp only [Act.put, S_]
     refine wpAnyH_ready (rs := [5]) (by kernel_rfl) (by decide) ?_
     refine AllReadyH.cons rfl (fun K1 hK1 => ?_) AllReadyH.nil
     go_simp
     refine (Yw (ZE (E0.out.bel J1.out)) 31 ps nm t nz z ob bi oa len cap (decide (0 < rankF nm))).mono ?_
     intro e y2 hp
     rcases hp.both with ⟨h1, rfl, hb⟩ | ⟨h1, rfl, hb⟩
     rotate_left 1
     · exact ⟨rfl, Gt.no (by rw [← HX.out]; simp [h1]) (Zc B0.out (Zc J1.out hb))⟩
     refine hK1.out _ _ (hH.bel hb) (fun hH => ?_)
     clear hK1 K1
     have J2 := Zb (Zc J1.out hb)
     have FC0 := Zb ((hb.cell (p := ⟨gb, 0, none⟩) (World.block_lt_of_cell? y1 _ FC0.out)).trans FC0.out)
     have FC1 := Zb ((hb.cell (p := ⟨gb, 1, none⟩) (World.block_lt_of_cell? y1 _ FC1.out)).trans FC1.out)
     have T1 := Zb h1
     clear hb hp h1
     refine wpAnyH_ready (rs := [7]) (by kernel_rfl) (by decide) ?_
     refine AllReadyH.cons rfl (fun K1 hK1 => ?_) AllReadyH.nil
     go_simp
     refine (all_exex (E0.out.bel J2.out) 31 ps ⟨#[]⟩ t nz z ob bi oa len cap ks (Zr.bel J2.out _ _ K0.out) gb 2 FC0.out FC1.out ex ex (fun x hx => hk x (List.mem_of_getElem? hx)) (fun x hx => hk x (List.mem_of_getElem? hx))).mono ?_
     intro e y3 hp
     rcases hp.both with ⟨h1, rfl, hb⟩ | ⟨h1, rfl, hb⟩
     rotate_left 1
     · exact ⟨rfl, Gt.no (by rw [← HX.out]; simp [T1.out, h1]) (Zc B0.out (Zc J2.out hb))⟩
     refine hK1.out _ _ (hH.bel hb) (fun hH => ?_)
     clear hK1 K1
     have J3 := Zb (Zc J2.out hb)
     have FC0 := Zb ((hb.cell (p := ⟨gb, 0, none⟩) (World.block_lt_of_cell? y2 _ FC0.out)).trans FC0.out)
     have FC1 := Zb ((hb.cell (p := ⟨gb, 1, none⟩) (World.block_lt_of_cell? y2 _ FC1.out)).trans FC1.out)
     have T2 := Zb h1
     clear hb hp h1
     refine wpAnyH_ready (rs := [8]) (by kernel_rfl) (by decide) ?_
     refine AllReadyH.cons rfl (fun K1 hK1 => ?_) AllReadyH.nil
     go_simp
     refine (Zl (ZE (E0.out.bel J3.out)) 31 ps ⟨#[]⟩ t nz z ob bi none 0 0).mono ?_
     intro e y4 hp
     rcases hp.both with ⟨h1, rfl, hb⟩ | ⟨h1, rfl, hb⟩
     rotate_left 1
     · exact ⟨rfl, Gt.no (by rw [← HX.out]; simp [T1.out, T2.out, h1]) (Zc B0.out (Zc J3.out hb))⟩
     refine hK1.out _ _ (hH.bel hb) (fun hH => ?_)
     clear hK1 K1
     have J4 := Zb (Zc J3.out hb)
     have FC0 := Zb ((hb.cell (p := ⟨gb, 0, none⟩) (World.block_lt_of_cell? y3 _ FC0.out)).trans FC0.out)
     have FC1 := Zb ((hb.cell (p := ⟨gb, 1, none⟩) (World.block_lt_of_cell? y3 _ FC1.out)).trans FC1.out)
     have T3 := Zb h1
     clear hb hp h1
     refine wpAnyH_done (by kernel_rfl) ?_ _
     go_wp2_with fail
     go_end0
     exact Gt.yes (by rw [← HX.out]; simp [T1.out, T2.out, T3.out]) (Zc B0.out J4.out)
 have HX := Zb (show tgt ex (.mk kd ps nm t nz z ob bi ks) = out from (by simpa [exr, h25, h26, h27, h30, h31] using HO.out))
 clear HO
 go_wp2_with fail
 have N0 := Zb (show Nod (w.alloc (.cells #[.int .i64 kd, .int .i64 ps, .string nm, .int .i64 t, .int .i64 nz, .int .i64 z, .int .i64 ob, .int .u64 bi, .slice oa len cap] 29)) w.heap.size (.int .i64 kd) (.int .i64 ps) (.string nm) (.int .i64 t) (.int .i64 nz) (.int .i64 z) (.int .i64 ob) (.int .u64 bi) (.slice oa len cap) from B_ _ _)
 have B0 := Zb (BA.out (.cells #[.int .i64 kd, .int .i64 ps, .string nm, .int .i64 t, .int .i64 nz, .int .i64 z, .int .i64 ob, .int .u64 bi, .slice oa len cap] 29))
 have E0 := Zb (EA.out (.cells #[.int .i64 kd, .int .i64 ps, .string nm, .int .i64 t, .int .i64 nz, .int .i64 z, .int .i64 ob, .int .u64 bi, .slice oa len cap] 29))
 have K0 := Zb (KA.out (.cells #[.int .i64 kd, .int .i64 ps, .string nm, .int .i64 t, .int .i64 nz, .int .i64 z, .int .i64 ob, .int .u64 bi, .slice oa len cap] 29))
 generalize w.alloc _ = w0 at *
 obtain ⟨_, b0, b1, b2, b3, b4, b5, b6, b7, b8⟩ := N0.out.all
 refine (HT.out w0 (.agg #[.int .i64 kd, .int .i64 ps, .string nm, .int .i64 t, .int .i64 nz, .int .i64 z, .int .i64 ob, .int .u64 bi, .slice oa len cap]) E0.out (by unfold Zq; exact ⟨_, rfl, K0.out⟩)).mono ?_
 intro e u hp
 rcases hp.both with ⟨h1, rfl, hb⟩ | ⟨h1, rfl, hb⟩
 rotate_left 1
 · exact ⟨rfl, Gt.no (by rw [← HX.out]; exact h1) (Zc B0.out hb)⟩
 have U := Zb (And.intro h1 (Zc B0.out hb))
 clear hp h1 hb b0 b1 b2 b3 b4 b5 b6 b7 b8
 go_wp2_with fail
 go_end0
 exact Gt.yes (by rw [← HX.out]; exact U.out.1) U.out.2
theorem expr_rule {p : List Addr} : ∀ (m : Nat) (n : Nd), szN n < m -> ZR 33 p (exF m) n
  | 0, _, h => absurd h (Nat.not_lt_zero _)
  | m + 1, n, h => expr_from (exF m) n (fun k hk => expr_rule m k (by
      have h1 := sz_kid hk
      omega))
theorem target_rule {p : List Addr} (m : Nat) (n : Nd) (h : szN n < m + 1) : ZR 62 p (tgt (exF m)) n :=
  target_from (exF m) n (fun k hk => expr_rule m k (by
      have h1 := sz_kid hk
      omega))
end Go.Proofs.YtfnplhfjfolojaaGreatDoor.Ck.Sho
