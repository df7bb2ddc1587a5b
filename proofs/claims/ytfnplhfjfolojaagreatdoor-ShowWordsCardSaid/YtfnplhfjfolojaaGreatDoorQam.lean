/- Texts of this proof, packed: contracts of the program's functions, and the plain model that they are held against. -/
import Derived.Test.YtfnplhfjfolojaaGreatDoorQal
import Derived.Deep.Slices
import Derived.Lib.SmallJoins
import Derived.ChangeArms
set_option maxRecDepth 20000
set_option maxHeartbeats 4000000
namespace Go.Proofs.YtfnplhfjfolojaaGreatDoor.Ck.Sho
open Go.RowKit
def blr (st : Nd -> Bool) : Nd -> Bool
 | .mk k _ nm t n z o b ks => if k = 9 then ks.all st && ZH nm t n z o b 0 else false
def brr (ex bl : Nd -> Bool) : Nd -> Bool
 | .mk k _ nm t n z o b ks =>
  if k = 21 /\ ks.length = 3 then all3B ex bl bl ks && ZH nm t n z o b 0
  else if k = 21 ∨ k = 22 then all2B ex bl ks && ZH nm t n z o b 0 else false
def str (ex bl : Nd -> Bool) : Nd -> Bool
 | .mk k ps nm t n z o b ks =>
  if k = 10 then all2B (tgt ex) ex ks && ZH nm t n z o b 0
  else if k = 11 ∨ k = 16 ∨ k = 18 ∨ k = 19 then ZU nm && (Yz ex ks && ZH ⟨#[]⟩ t n z o b 0)
  else if k = 17 ∨ k = 20 then ZU nm && (Yz (tgt ex) ks && ZH ⟨#[]⟩ t n z o b 0)
  else if k = 12 ∨ k = 13 then ZU nm && (ks.all ex && ZH ⟨#[]⟩ t n z o b 0)
  else if k = 14 ∨ k = 15 then ZU nm && ZH ⟨#[]⟩ t n z o b ks.length
  else if k = 23 then ZH nm t n z o b ks.length
  else if k = 24 then Yz ex ks && ZH nm t n z o b 0
  else brr ex bl (.mk k ps nm t n z o b ks)
def stF : Nat -> Nd -> Bool
 | 0, _ => false
 | m + 1, n => str (exF m) (blr (stF m)) n
theorem block_from {p : List Addr} (st : Nd -> Bool) (n : Nd) (hs : ∀ k ∈ n.kids, ZR 146 p st k) : ZR 108 p (blr st) n := by
 intro w v he hv
 obtain ⟨kd, ps, nm, t, nz, z, ob, bi, ks⟩ := n
 unfold Zq at hv
 obtain ⟨s, rfl, hkk⟩ := hv
 obtain ⟨oa, cap, rfl, hsh⟩ := hkk.kid
 have hlen : ks.length <= 9223372036854775807 := by
  rcases hsh with rfl | ⟨a, _, h1, h2, _⟩
  · simp
  · unfold maxLen at h2
    omega
 obtain ⟨len, hln⟩ : ∃ len, len = ks.length := ⟨_, rfl⟩
 rw [← hln] at hkk hlen ⊢
 have BA := Zb (fun o => Zd w o)
 have EA := Zb (fun o => he.bel (Zd w o))
 have KA := Zb (fun o => Zr.bel (Zd w o) _ _ hkk)
 have HLN := Zb hln
 have HSH := Zb hsh
 obtain ⟨out, ho⟩ : ∃ out, (blr st) (.mk kd ps nm t nz z ob bi ks) = out := ⟨_, rfl⟩
 rw [ho]
 have HO := Zb ho
 clear ho he hkk hln hsh
 go_enter Tryz.func108, Tryz.ntmps108
 by_cases h9 : kd = 9
 · subst h9
   have HX := Zb (show (ks.all st && ZH nm t nz z ob bi 0) = out from (by simpa [blr] using HO.out))
   clear HO
   go_wp2_with fail
   have N0 := Zb (show Nod (w.alloc (.cells #[.int .i64 9, .int .i64 ps, .string nm, .int .i64 t, .int .i64 nz, .int .i64 z, .int .i64 ob, .int .u64 bi, .slice oa len cap] 29)) w.heap.size (.int .i64 9) (.int .i64 ps) (.string nm) (.int .i64 t) (.int .i64 nz) (.int .i64 z) (.int .i64 ob) (.int .u64 bi) (.slice oa len cap) from B_ _ _)
   have B0 := Zb (BA.out (.cells #[.int .i64 9, .int .i64 ps, .string nm, .int .i64 t, .int .i64 nz, .int .i64 z, .int .i64 ob, .int .u64 bi, .slice oa len cap] 29))
   have E0 := Zb (EA.out (.cells #[.int .i64 9, .int .i64 ps, .string nm, .int .i64 t, .int .i64 nz, .int .i64 z, .int .i64 ob, .int .u64 bi, .slice oa len cap] 29))
   have K0 := Zb (KA.out (.cells #[.int .i64 9, .int .i64 ps, .string nm, .int .i64 t, .int .i64 nz, .int .i64 z, .int .i64 ob, .int .u64 bi, .slice oa len cap] 29))
   generalize w.alloc _ = w0 at *
   obtain ⟨_, b0, b1, b2, b3, b4, b5, b6, b7, b8⟩ := N0.out.all
   refine (ZP _).mono ?_
   rintro e uu ⟨rfl, hu⟩
   subst uu
   go_wp2_with fail
   have I0 := Zb (Below.refl w0.heap.size w0)
   refine (each_showstmt (E0.out.bel I0.out) 9 ps nm t nz z ob bi oa len cap ks (Zr.bel I0.out _ _ K0.out) st hs).mono ?_
   intro e u0 hp
   rcases hp.both with ⟨h1, rfl, hb⟩ | ⟨h1, rfl, hb⟩
   rotate_left 1
   · exact ⟨rfl, Gt.no (by rw [← HX.out]; simp [h1]) (Zc B0.out (Zc I0.out hb))⟩
   have I1 := Zb (Zc I0.out hb)
   have T0 := Zb h1
   clear hb hp h1 I0 b0 b1 b2 b3 b4 b5 b6 b7 b8
   go_wp2_with fail
   refine (Zl (ZE (E0.out.bel I1.out)) 9 ps nm t nz z ob bi none 0 0).mono ?_
   intro e u1 hp
   rcases hp.both with ⟨h1, rfl, hb⟩ | ⟨h1, rfl, hb⟩
   rotate_left 1
   · exact ⟨rfl, Gt.no (by rw [← HX.out]; simp [T0.out, h1]) (Zc B0.out (Zc I1.out hb))⟩
   have I2 := Zb (Zc I1.out hb)
   have T1 := Zb h1
   clear hb hp h1 I1
   go_wp2_with fail
   go_end0
   exact Gt.yes (by rw [← HX.out]; simp [T0.out, T1.out]) (Zc B0.out I2.out)
 have hout : out = false := by rw [← HO.out]; simp [blr, h9]
 subst hout
 have d9 : (kd == 9) = false := by simp [h9]
 go_wp2_with fail
 have N0 := Zb (show Nod (w.alloc (.cells #[.int .i64 kd, .int .i64 ps, .string nm, .int .i64 t, .int .i64 nz, .int .i64 z, .int .i64 ob, .int .u64 bi, .slice oa len cap] 29)) w.heap.size (.int .i64 kd) (.int .i64 ps) (.string nm) (.int .i64 t) (.int .i64 nz) (.int .i64 z) (.int .i64 ob) (.int .u64 bi) (.slice oa len cap) from B_ _ _)
 have B0 := Zb (BA.out (.cells #[.int .i64 kd, .int .i64 ps, .string nm, .int .i64 t, .int .i64 nz, .int .i64 z, .int .i64 ob, .int .u64 bi, .slice oa len cap] 29))
 have E0 := Zb (EA.out (.cells #[.int .i64 kd, .int .i64 ps, .string nm, .int .i64 t, .int .i64 nz, .int .i64 z, .int .i64 ob, .int .u64 bi, .slice oa len cap] 29))
 have K0 := Zb (KA.out (.cells #[.int .i64 kd, .int .i64 ps, .string nm, .int .i64 t, .int .i64 nz, .int .i64 z, .int .i64 ob, .int .u64 bi, .slice oa len cap] 29))
 generalize w.alloc _ = w0 at *
 obtain ⟨_, b0, b1, b2, b3, b4, b5, b6, b7, b8⟩ := N0.out.all
 refine (Yb (ZE E0.out)).mono ?_
 rintro e uu ⟨rfl, rfl⟩
 exact ⟨rfl, Gt.no rfl B0.out⟩
theorem branch_from {p : List Addr} (ex bl : Nd -> Bool) (n : Nd) (hk : ∀ k ∈ n.kids, ZR 33 p ex k) (hB : ∀ k ∈ n.kids, ZR 108 p bl k) : ZR 182 p (brr ex bl) n := by
 intro w v he hv
 obtain ⟨kd, ps, nm, t, nz, z, ob, bi, ks⟩ := n
 unfold Zq at hv
 obtain ⟨s, rfl, hkk⟩ := hv
 obtain ⟨oa, cap, rfl, hsh⟩ := hkk.kid
 have hlen : ks.length <= 9223372036854775807 := by
  rcases hsh with rfl | ⟨a, _, h1, h2, _⟩
  · simp
  · unfold maxLen at h2
    omega
 obtain ⟨len, hln⟩ : ∃ len, len = ks.length := ⟨_, rfl⟩
 rw [← hln] at hkk hlen ⊢
 have BA := Zb (fun o => Zd w o)
 have EA := Zb (fun o => he.bel (Zd w o))
 have KA := Zb (fun o => Zr.bel (Zd w o) _ _ hkk)
 have HLN := Zb hln
 have HSH := Zb hsh
 obtain ⟨out, ho⟩ : ∃ out, (brr ex bl) (.mk kd ps nm t nz z ob bi ks) = out := ⟨_, rfl⟩
 rw [ho]
 have HO := Zb ho
 clear ho he hkk hln hsh
 go_enter Tryz.func182, Tryz.ntmps182
 by_cases h21 : kd = 21
 · by_cases hl3 : len = 3
   · skip
     subst h21
     subst hl3
     have hl4 : ks.length = 3 := HLN.out.symm
     have HX := Zb (show (all3B ex bl bl ks && ZH nm t nz z ob bi 0) = out from (by simpa [brr, hl4] using HO.out))
     clear HO hl4
     go_wp2_with fail
     have N0 := Zb (show Nod (w.alloc (.cells #[.int .i64 21, .int .i64 ps, .string nm, .int .i64 t, .int .i64 nz, .int .i64 z, .int .i64 ob, .int .u64 bi, .slice oa 3 cap] 29)) w.heap.size (.int .i64 21) (.int .i64 ps) (.string nm) (.int .i64 t) (.int .i64 nz) (.int .i64 z) (.int .i64 ob) (.int .u64 bi) (.slice oa 3 cap) from B_ _ _)
     have B0 := Zb (BA.out (.cells #[.int .i64 21, .int .i64 ps, .string nm, .int .i64 t, .int .i64 nz, .int .i64 z, .int .i64 ob, .int .u64 bi, .slice oa 3 cap] 29))
     have E0 := Zb (EA.out (.cells #[.int .i64 21, .int .i64 ps, .string nm, .int .i64 t, .int .i64 nz, .int .i64 z, .int .i64 ob, .int .u64 bi, .slice oa 3 cap] 29))
     have K0 := Zb (KA.out (.cells #[.int .i64 21, .int .i64 ps, .string nm, .int .i64 t, .int .i64 nz, .int .i64 z, .int .i64 ob, .int .u64 bi, .slice oa 3 cap] 29))
     generalize w.alloc _ = w0 at *
     obtain ⟨_, b0, b1, b2, b3, b4, b5, b6, b7, b8⟩ := N0.out.all
     refine (ZP _).mono ?_
     rintro e uu ⟨rfl, hu⟩
     subst uu
     go_wp2_with fail
     have I0 := Zb (Below.refl w0.heap.size w0)
     refine (all_exblbl (((E0.out.bel I0.out)).bel (Zd w0 (.cells #[.func (.func 33) #[] #[], .func (.func 108) #[] #[], .func (.func 108) #[] #[]] 64))) 21 ps nm t nz z ob bi oa 3 cap ks (Zr.bel (Zc I0.out (Zd w0 (.cells #[.func (.func 33) #[] #[], .func (.func 108) #[] #[], .func (.func 108) #[] #[]] 64))) _ _ K0.out) w0.heap.size 3 (Zf (B_ w0 (.cells #[.func (.func 33) #[] #[], .func (.func 108) #[] #[], .func (.func 108) #[] #[]] 64)) 0 _ rfl) (Zf (B_ w0 (.cells #[.func (.func 33) #[] #[], .func (.func 108) #[] #[], .func (.func 108) #[] #[]] 64)) 1 _ rfl) (Zf (B_ w0 (.cells #[.func (.func 33) #[] #[], .func (.func 108) #[] #[], .func (.func 108) #[] #[]] 64)) 2 _ rfl) ex bl bl (fun x hx => hk x (List.mem_of_getElem? hx)) (fun x hx => hB x (List.mem_of_getElem? hx)) (fun x hx => hB x (List.mem_of_getElem? hx))).mono ?_
     intro e u0 hp
     rcases hp.both with ⟨h1, rfl, hb⟩ | ⟨h1, rfl, hb⟩
     rotate_left 1
     · exact ⟨rfl, Gt.no (by rw [← HX.out]; simp [h1]) (Zc B0.out (Zc I0.out (Zc (Zd w0 _) hb)))⟩
     have I1 := Zb (Zc I0.out (Zc (Zd w0 _) hb))
     have T0 := Zb h1
     clear hb hp h1 I0 b0 b1 b2 b3 b4 b5 b6 b7 b8
     go_wp2_with fail
     refine (Zl (ZE (E0.out.bel I1.out)) 21 ps nm t nz z ob bi none 0 0).mono ?_
     intro e u1 hp
     rcases hp.both with ⟨h1, rfl, hb⟩ | ⟨h1, rfl, hb⟩
     rotate_left 1
     · exact ⟨rfl, Gt.no (by rw [← HX.out]; simp [T0.out, h1]) (Zc B0.out (Zc I1.out hb))⟩
     have I2 := Zb (Zc I1.out hb)
     have T1 := Zb h1
     clear hb hp h1 I1
     go_wp2_with fail
     go_end0
     exact Gt.yes (by rw [← HX.out]; simp [T0.out, T1.out]) (Zc B0.out I2.out)
   · skip
     subst h21
     have hl4 : ¬ ks.length = 3 := by rw [← HLN.out]; exact hl3
     have HX := Zb (show (all2B ex bl ks && ZH nm t nz z ob bi 0) = out from (by simpa [brr, hl4] using HO.out))
     clear HO hl4
     have d3 : ((len : Int) == 3) = false := by simp; omega
     go_wp2_with fail
     have N0 := Zb (show Nod (w.alloc (.cells #[.int .i64 21, .int .i64 ps, .string nm, .int .i64 t, .int .i64 nz, .int .i64 z, .int .i64 ob, .int .u64 bi, .slice oa len cap] 29)) w.heap.size (.int .i64 21) (.int .i64 ps) (.string nm) (.int .i64 t) (.int .i64 nz) (.int .i64 z) (.int .i64 ob) (.int .u64 bi) (.slice oa len cap) from B_ _ _)
     have B0 := Zb (BA.out (.cells #[.int .i64 21, .int .i64 ps, .string nm, .int .i64 t, .int .i64 nz, .int .i64 z, .int .i64 ob, .int .u64 bi, .slice oa len cap] 29))
     have E0 := Zb (EA.out (.cells #[.int .i64 21, .int .i64 ps, .string nm, .int .i64 t, .int .i64 nz, .int .i64 z, .int .i64 ob, .int .u64 bi, .slice oa len cap] 29))
     have K0 := Zb (KA.out (.cells #[.int .i64 21, .int .i64 ps, .string nm, .int .i64 t, .int .i64 nz, .int .i64 z, .int .i64 ob, .int .u64 bi, .slice oa len cap] 29))
     generalize w.alloc _ = w0 at *
     obtain ⟨_, b0, b1, b2, b3, b4, b5, b6, b7, b8⟩ := N0.out.all
     refine (ZP _).mono ?_
     rintro e uu ⟨rfl, hu⟩
     subst uu
     go_wp2_with fail
     have I0 := Zb (Below.refl w0.heap.size w0)
     refine (all_exbl (((E0.out.bel I0.out)).bel (Zd w0 (.cells #[.func (.func 33) #[] #[], .func (.func 108) #[] #[]] 64))) 21 ps nm t nz z ob bi oa len cap ks (Zr.bel (Zc I0.out (Zd w0 (.cells #[.func (.func 33) #[] #[], .func (.func 108) #[] #[]] 64))) _ _ K0.out) w0.heap.size 2 (Zf (B_ w0 (.cells #[.func (.func 33) #[] #[], .func (.func 108) #[] #[]] 64)) 0 _ rfl) (Zf (B_ w0 (.cells #[.func (.func 33) #[] #[], .func (.func 108) #[] #[]] 64)) 1 _ rfl) ex bl (fun x hx => hk x (List.mem_of_getElem? hx)) (fun x hx => hB x (List.mem_of_getElem? hx))).mono ?_
     intro e u0 hp
     rcases hp.both with ⟨h1, rfl, hb⟩ | ⟨h1, rfl, hb⟩
     rotate_left 1
     · exact ⟨rfl, Gt.no (by rw [← HX.out]; simp [h1]) (Zc B0.out (Zc I0.out (Zc (Zd w0 _) hb)))⟩
     have I1 := Zb (Zc I0.out (Zc (Zd w0 _) hb))
     have T0 := Zb h1
     clear hb hp h1 I0 b0 b1 b2 b3 b4 b5 b6 b7 b8
     go_wp2_with fail
     refine (Zl (ZE (E0.out.bel I1.out)) 21 ps nm t nz z ob bi none 0 0).mono ?_
     intro e u1 hp
     rcases hp.both with ⟨h1, rfl, hb⟩ | ⟨h1, rfl, hb⟩
     rotate_left 1
     · exact ⟨rfl, Gt.no (by rw [← HX.out]; simp [T0.out, h1]) (Zc B0.out (Zc I1.out hb))⟩
     have I2 := Zb (Zc I1.out hb)
     have T1 := Zb h1
     clear hb hp h1 I1
     go_wp2_with fail
     go_end0
     exact Gt.yes (by rw [← HX.out]; simp [T0.out, T1.out]) (Zc B0.out I2.out)
 by_cases h22 : kd = 22
 · have hz := h22
   · skip
     clear hz
     subst h22
     have HX := Zb (show (all2B ex bl ks && ZH nm t nz z ob bi 0) = out from (by simpa [brr] using HO.out))
     clear HO
     go_wp2_with fail
     have N0 := Zb (show Nod (w.alloc (.cells #[.int .i64 22, .int .i64 ps, .string nm, .int .i64 t, .int .i64 nz, .int .i64 z, .int .i64 ob, .int .u64 bi, .slice oa len cap] 29)) w.heap.size (.int .i64 22) (.int .i64 ps) (.string nm) (.int .i64 t) (.int .i64 nz) (.int .i64 z) (.int .i64 ob) (.int .u64 bi) (.slice oa len cap) from B_ _ _)
     have B0 := Zb (BA.out (.cells #[.int .i64 22, .int .i64 ps, .string nm, .int .i64 t, .int .i64 nz, .int .i64 z, .int .i64 ob, .int .u64 bi, .slice oa len cap] 29))
     have E0 := Zb (EA.out (.cells #[.int .i64 22, .int .i64 ps, .string nm, .int .i64 t, .int .i64 nz, .int .i64 z, .int .i64 ob, .int .u64 bi, .slice oa len cap] 29))
     have K0 := Zb (KA.out (.cells #[.int .i64 22, .int .i64 ps, .string nm, .int .i64 t, .int .i64 nz, .int .i64 z, .int .i64 ob, .int .u64 bi, .slice oa len cap] 29))
     generalize w.alloc _ = w0 at *
     obtain ⟨_, b0, b1, b2, b3, b4, b5, b6, b7, b8⟩ := N0.out.all
     refine (ZP _).mono ?_
     rintro e uu ⟨rfl, hu⟩
     subst uu
     go_wp2_with fail
     have I0 := Zb (Below.refl w0.heap.size w0)
     refine (all_exbl (((E0.out.bel I0.out)).bel (Zd w0 (.cells #[.func (.func 33) #[] #[], .func (.func 108) #[] #[]] 64))) 22 ps nm t nz z ob bi oa len cap ks (Zr.bel (Zc I0.out (Zd w0 (.cells #[.func (.func 33) #[] #[], .func (.func 108) #[] #[]] 64))) _ _ K0.out) w0.heap.size 2 (Zf (B_ w0 (.cells #[.func (.func 33) #[] #[], .func (.func 108) #[] #[]] 64)) 0 _ rfl) (Zf (B_ w0 (.cells #[.func (.func 33) #[] #[], .func (.func 108) #[] #[]] 64)) 1 _ rfl) ex bl (fun x hx => hk x (List.mem_of_getElem? hx)) (fun x hx => hB x (List.mem_of_getElem? hx))).mono ?_
     intro e u0 hp
     rcases hp.both with ⟨h1, rfl, hb⟩ | ⟨h1, rfl, hb⟩
     rotate_left 1
     · exact ⟨rfl, Gt.no (by rw [← HX.out]; simp [h1]) (Zc B0.out (Zc I0.out (Zc (Zd w0 _) hb)))⟩
     have I1 := Zb (Zc I0.out (Zc (Zd w0 _) hb))
     have T0 := Zb h1
     clear hb hp h1 I0 b0 b1 b2 b3 b4 b5 b6 b7 b8
     go_wp2_with fail
     refine (Zl (ZE (E0.out.bel I1.out)) 22 ps nm t nz z ob bi none 0 0).mono ?_
     intro e u1 hp
     rcases hp.both with ⟨h1, rfl, hb⟩ | ⟨h1, rfl, hb⟩
     rotate_left 1
     · exact ⟨rfl, Gt.no (by rw [← HX.out]; simp [T0.out, h1]) (Zc B0.out (Zc I1.out hb))⟩
     have I2 := Zb (Zc I1.out hb)
     have T1 := Zb h1
     clear hb hp h1 I1
     go_wp2_with fail
     go_end0
     exact Gt.yes (by rw [← HX.out]; simp [T0.out, T1.out]) (Zc B0.out I2.out)
 have hout : out = false := by rw [← HO.out]; simp [brr, h21, h22]
 subst hout
 have d21 : (kd == 21) = false := by simp [h21]
 have d22 : (kd == 22) = false := by simp [h22]
 go_wp2_with fail
 have N0 := Zb (show Nod (w.alloc (.cells #[.int .i64 kd, .int .i64 ps, .string nm, .int .i64 t, .int .i64 nz, .int .i64 z, .int .i64 ob, .int .u64 bi, .slice oa len cap] 29)) w.heap.size (.int .i64 kd) (.int .i64 ps) (.string nm) (.int .i64 t) (.int .i64 nz) (.int .i64 z) (.int .i64 ob) (.int .u64 bi) (.slice oa len cap) from B_ _ _)
 have B0 := Zb (BA.out (.cells #[.int .i64 kd, .int .i64 ps, .string nm, .int .i64 t, .int .i64 nz, .int .i64 z, .int .i64 ob, .int .u64 bi, .slice oa len cap] 29))
 have E0 := Zb (EA.out (.cells #[.int .i64 kd, .int .i64 ps, .string nm, .int .i64 t, .int .i64 nz, .int .i64 z, .int .i64 ob, .int .u64 bi, .slice oa len cap] 29))
 have K0 := Zb (KA.out (.cells #[.int .i64 kd, .int .i64 ps, .string nm, .int .i64 t, .int .i64 nz, .int .i64 z, .int .i64 ob, .int .u64 bi, .slice oa len cap] 29))
 generalize w.alloc _ = w0 at *
 obtain ⟨_, b0, b1, b2, b3, b4, b5, b6, b7, b8⟩ := N0.out.all
 refine (Yb (ZE E0.out)).mono ?_
 rintro e uu ⟨rfl, rfl⟩
 exact ⟨rfl, Gt.no rfl B0.out⟩
theorem stmt_from {p : List Addr} (ex bl : Nd -> Bool) (n : Nd) (hk : ∀ k ∈ n.kids, ZR 33 p ex k) (hT : ∀ k ∈ n.kids, ZR 62 p (tgt ex) k) (hB : ∀ k ∈ n.kids, ZR 108 p bl k) : ZR 146 p (str ex bl) n := by
 have HB := Zb (branch_from ex bl n hk hB)
 intro w v he hv
 obtain ⟨kd, ps, nm, t, nz, z, ob, bi, ks⟩ := n
 unfold Zq at hv
 obtain ⟨s, rfl, hkk⟩ := hv
 obtain ⟨oa, cap, rfl, hsh⟩ := hkk.kid
 have hlen : ks.length <= 9223372036854775807 := by
  rcases hsh with rfl | ⟨a, _, h1, h2, _⟩
  · simp
  · unfold maxLen at h2
    omega
 obtain ⟨len, hln⟩ : ∃ len, len = ks.length := ⟨_, rfl⟩
 rw [← hln] at hkk hlen ⊢
 have BA := Zb (fun o => Zd w o)
 have EA := Zb (fun o => he.bel (Zd w o))
 have KA := Zb (fun o => Zr.bel (Zd w o) _ _ hkk)
 have HLN := Zb hln
 have HSH := Zb hsh
 obtain ⟨out, ho⟩ : ∃ out, (str ex bl) (.mk kd ps nm t nz z ob bi ks) = out := ⟨_, rfl⟩
 rw [ho]
 have HO := Zb ho
 clear ho he hkk hln hsh
 go_enter Tryz.func146, Tryz.ntmps146
 by_cases h10 : kd = 10
 · subst h10
   have HX := Zb (show (all2B (tgt ex) ex ks && ZH nm t nz z ob bi 0) = out from (by simpa [str] using HO.out))
   clear HO
   go_wp2_with fail
   have s1 : (w.alloc (.cells #[.int .i64 10, .int .i64 ps, .string nm, .int .i64 t, .int .i64 nz, .int .i64 z, .int .i64 ob, .int .u64 bi, .slice oa len cap] 29)).heap.size = w.heap.size + 1 := by simp
   have FC0 := Zf (B_ (w.alloc (.cells #[.int .i64 10, .int .i64 ps, .string nm, .int .i64 t, .int .i64 nz, .int .i64 z, .int .i64 ob, .int .u64 bi, .slice oa len cap] 29)) (.cells #[.func (.func 62) #[] #[], .func (.func 33) #[] #[]] 64)) 0 _ rfl
   have FC1 := Zf (B_ (w.alloc (.cells #[.int .i64 10, .int .i64 ps, .string nm, .int .i64 t, .int .i64 nz, .int .i64 z, .int .i64 ob, .int .u64 bi, .slice oa len cap] 29)) (.cells #[.func (.func 62) #[] #[], .func (.func 33) #[] #[]] 64)) 1 _ rfl
   rw [s1] at FC0 FC1
   have FC0 := Zb FC0
   have FC1 := Zb FC1
   clear s1
   have N0 := Zb (show Nod (w.alloc (.cells #[.int .i64 10, .int .i64 ps, .string nm, .int .i64 t, .int .i64 nz, .int .i64 z, .int .i64 ob, .int .u64 bi, .slice oa len cap] 29)) w.heap.size (.int .i64 10) (.int .i64 ps) (.string nm) (.int .i64 t) (.int .i64 nz) (.int .i64 z) (.int .i64 ob) (.int .u64 bi) (.slice oa len cap) from B_ _ _)
   have B0 := Zb (BA.out (.cells #[.int .i64 10, .int .i64 ps, .string nm, .int .i64 t, .int .i64 nz, .int .i64 z, .int .i64 ob, .int .u64 bi, .slice oa len cap] 29))
   have E0 := Zb (EA.out (.cells #[.int .i64 10, .int .i64 ps, .string nm, .int .i64 t, .int .i64 nz, .int .i64 z, .int .i64 ob, .int .u64 bi, .slice oa len cap] 29))
   have K0 := Zb (KA.out (.cells #[.int .i64 10, .int .i64 ps, .string nm, .int .i64 t, .int .i64 nz, .int .i64 z, .int .i64 ob, .int .u64 bi, .slice oa len cap] 29))
   generalize w.alloc _ = w0 at *
   obtain ⟨_, b0, b1, b2, b3, b4, b5, b6, b7, b8⟩ := N0.out.all
   have I0 := Zb (Below.refl w0.heap.size w0)
   refine (all_tgex (((E0.out.bel I0.out)).bel (Zd w0 (.cells #[.func (.func 62) #[] #[], .func (.func 33) #[] #[]] 64))) 10 ps nm t nz z ob bi oa len cap ks (Zr.bel (Zc I0.out (Zd w0 (.cells #[.func (.func 62) #[] #[], .func (.func 33) #[] #[]] 64))) _ _ K0.out) (w.heap.size + 1) 2 FC0.out FC1.out (tgt ex) ex (fun x hx => hT x (List.mem_of_getElem? hx)) (fun x hx => hk x (List.mem_of_getElem? hx))).mono ?_
   intro e u0 hp
   rcases hp.both with ⟨h1, rfl, hb⟩ | ⟨h1, rfl, hb⟩
   rotate_left 1
   · exact ⟨rfl, Gt.no (by rw [← HX.out]; simp [h1]) (Zc B0.out (Zc I0.out (Zc (Zd w0 _) hb)))⟩
   have I1 := Zb (Zc I0.out (Zc (Zd w0 _) hb))
   have T0 := Zb h1
   clear hb hp h1 I0 b0 b1 b2 b3 b4 b5 b6 b7 b8
   go_wp2_with fail
   refine (Zl (ZE (E0.out.bel I1.out)) 10 ps nm t nz z ob bi none 0 0).mono ?_
   intro e u1 hp
   rcases hp.both with ⟨h1, rfl, hb⟩ | ⟨h1, rfl, hb⟩
   rotate_left 1
   · exact ⟨rfl, Gt.no (by rw [← HX.out]; simp [T0.out, h1]) (Zc B0.out (Zc I1.out hb))⟩
   have I2 := Zb (Zc I1.out hb)
   have T1 := Zb h1
   clear hb hp h1 I1
   go_wp2_with fail
   go_end0
   exact Gt.yes (by rw [← HX.out]; simp [T0.out, T1.out]) (Zc B0.out I2.out)
 by_cases h11 : kd = 11
 · subst h11
   have HX := Zb (show (ZU nm && (Yz ex ks && ZH ⟨#[]⟩ t nz z ob bi 0)) = out from (by simpa [str] using HO.out))
   clear HO
   go_wp2_with fail
   have N0 := Zb (show Nod (w.alloc (.cells #[.int .i64 11, .int .i64 ps, .string nm, .int .i64 t, .int .i64 nz, .int .i64 z, .int .i64 ob, .int .u64 bi, .slice oa len cap] 29)) w.heap.size (.int .i64 11) (.int .i64 ps) (.string nm) (.int .i64 t) (.int .i64 nz) (.int .i64 z) (.int .i64 ob) (.int .u64 bi) (.slice oa len cap) from B_ _ _)
   have B0 := Zb (BA.out (.cells #[.int .i64 11, .int .i64 ps, .string nm, .int .i64 t, .int .i64 nz, .int .i64 z, .int .i64 ob, .int .u64 bi, .slice oa len cap] 29))
   have E0 := Zb (EA.out (.cells #[.int .i64 11, .int .i64 ps, .string nm, .int .i64 t, .int .i64 nz, .int .i64 z, .int .i64 ob, .int .u64 bi, .slice oa len cap] 29))
   have K0 := Zb (KA.out (.cells #[.int .i64 11, .int .i64 ps, .string nm, .int .i64 t, .int .i64 nz, .int .i64 z, .int .i64 ob, .int .u64 bi, .slice oa len cap] 29))
   generalize w.alloc _ = w0 at *
   obtain ⟨_, b0, b1, b2, b3, b4, b5, b6, b7, b8⟩ := N0.out.all
   have I0 := Zb (Below.refl w0.heap.size w0)
   refine (ZN (E0.out.bel I0.out) 11 ps nm t nz z ob bi oa len cap).mono ?_
   intro e u0 hp
   rcases hp.both with ⟨h1, rfl, hb⟩ | ⟨h1, rfl, hb⟩
   rotate_left 1
   · exact ⟨rfl, Gt.no (by rw [← HX.out]; simp [h1]) (Zc B0.out (Zc I0.out hb))⟩
   have I1 := Zb (Zc I0.out hb)
   have T0 := Zb h1
   clear hb hp h1 I0 b0 b1 b2 b3 b4 b5 b6 b7 b8
   go_wp2_with fail
   refine (all_ex (((E0.out.bel I1.out)).bel (Zd u0 (.cells #[.func (.func 33) #[] #[]] 64))) 11 ps ⟨#[]⟩ t nz z ob bi oa len cap ks (Zr.bel (Zc I1.out (Zd u0 (.cells #[.func (.func 33) #[] #[]] 64))) _ _ K0.out) u0.heap.size 1 (Zf (B_ u0 (.cells #[.func (.func 33) #[] #[]] 64)) 0 _ rfl) ex (fun x hx => hk x (List.mem_of_getElem? hx))).mono ?_
   intro e u1 hp
   rcases hp.both with ⟨h1, rfl, hb⟩ | ⟨h1, rfl, hb⟩
   rotate_left 1
   · exact ⟨rfl, Gt.no (by rw [← HX.out]; simp [T0.out, h1]) (Zc B0.out (Zc I1.out (Zc (Zd u0 _) hb)))⟩
   have I2 := Zb (Zc I1.out (Zc (Zd u0 _) hb))
   have T1 := Zb h1
   clear hb hp h1 I1
   go_wp2_with fail
   refine (Zl (ZE (E0.out.bel I2.out)) 11 ps ⟨#[]⟩ t nz z ob bi none 0 0).mono ?_
   intro e u2 hp
   rcases hp.both with ⟨h1, rfl, hb⟩ | ⟨h1, rfl, hb⟩
   rotate_left 1
   · exact ⟨rfl, Gt.no (by rw [← HX.out]; simp [T0.out, T1.out, h1]) (Zc B0.out (Zc I2.out hb))⟩
   have I3 := Zb (Zc I2.out hb)
   have T2 := Zb h1
   clear hb hp h1 I2
   go_wp2_with fail
   go_end0
   exact Gt.yes (by rw [← HX.out]; simp [T0.out, T1.out, T2.out]) (Zc B0.out I3.out)
 by_cases h16 : kd = 16
 · subst h16
   have HX := Zb (show (ZU nm && (Yz ex ks && ZH ⟨#[]⟩ t nz z ob bi 0)) = out from (by simpa [str] using HO.out))
   clear HO
   go_wp2_with fail
   have N0 := Zb (show Nod (w.alloc (.cells #[.int .i64 16, .int .i64 ps, .string nm, .int .i64 t, .int .i64 nz, .int .i64 z, .int .i64 ob, .int .u64 bi, .slice oa len cap] 29)) w.heap.size (.int .i64 16) (.int .i64 ps) (.string nm) (.int .i64 t) (.int .i64 nz) (.int .i64 z) (.int .i64 ob) (.int .u64 bi) (.slice oa len cap) from B_ _ _)
   have B0 := Zb (BA.out (.cells #[.int .i64 16, .int .i64 ps, .string nm, .int .i64 t, .int .i64 nz, .int .i64 z, .int .i64 ob, .int .u64 bi, .slice oa len cap] 29))
   have E0 := Zb (EA.out (.cells #[.int .i64 16, .int .i64 ps, .string nm, .int .i64 t, .int .i64 nz, .int .i64 z, .int .i64 ob, .int .u64 bi, .slice oa len cap] 29))
   have K0 := Zb (KA.out (.cells #[.int .i64 16, .int .i64 ps, .string nm, .int .i64 t, .int .i64 nz, .int .i64 z, .int .i64 ob, .int .u64 bi, .slice oa len cap] 29))
   generalize w.alloc _ = w0 at *
   obtain ⟨_, b0, b1, b2, b3, b4, b5, b6, b7, b8⟩ := N0.out.all
   have I0 := Zb (Below.refl w0.heap.size w0)
   refine (ZN (E0.out.bel I0.out) 16 ps nm t nz z ob bi oa len cap).mono ?_
   intro e u0 hp
   rcases hp.both with ⟨h1, rfl, hb⟩ | ⟨h1, rfl, hb⟩
   rotate_left 1
   · exact ⟨rfl, Gt.no (by rw [← HX.out]; simp [h1]) (Zc B0.out (Zc I0.out hb))⟩
   have I1 := Zb (Zc I0.out hb)
   have T0 := Zb h1
   clear hb hp h1 I0 b0 b1 b2 b3 b4 b5 b6 b7 b8
   go_wp2_with fail
   refine (all_ex (((E0.out.bel I1.out)).bel (Zd u0 (.cells #[.func (.func 33) #[] #[]] 64))) 16 ps ⟨#[]⟩ t nz z ob bi oa len cap ks (Zr.bel (Zc I1.out (Zd u0 (.cells #[.func (.func 33) #[] #[]] 64))) _ _ K0.out) u0.heap.size 1 (Zf (B_ u0 (.cells #[.func (.func 33) #[] #[]] 64)) 0 _ rfl) ex (fun x hx => hk x (List.mem_of_getElem? hx))).mono ?_
   intro e u1 hp
   rcases hp.both with ⟨h1, rfl, hb⟩ | ⟨h1, rfl, hb⟩
   rotate_left 1
   · exact ⟨rfl, Gt.no (by rw [← HX.out]; simp [T0.out, h1]) (Zc B0.out (Zc I1.out (Zc (Zd u0 _) hb)))⟩
   have I2 := Zb (Zc I1.out (Zc (Zd u0 _) hb))
   have T1 := Zb h1
   clear hb hp h1 I1
   go_wp2_with fail
   refine (Zl (ZE (E0.out.bel I2.out)) 16 ps ⟨#[]⟩ t nz z ob bi none 0 0).mono ?_
   intro e u2 hp
   rcases hp.both with ⟨h1, rfl, hb⟩ | ⟨h1, rfl, hb⟩
   rotate_left 1
   · exact ⟨rfl, Gt.no (by rw [← HX.out]; simp [T0.out, T1.out, h1]) (Zc B0.out (Zc I2.out hb))⟩
   have I3 := Zb (Zc I2.out hb)
   have T2 := Zb h1
   clear hb hp h1 I2
   go_wp2_with fail
   go_end0
   exact Gt.yes (by rw [← HX.out]; simp [T0.out, T1.out, T2.out]) (Zc B0.out I3.out)
 by_cases h18 : kd = 18
 · subst h18
   have HX := Zb (show (ZU nm && (Yz ex ks && ZH ⟨#[]⟩ t nz z ob bi 0)) = out from (by simpa [str] using HO.out))
   clear HO
   go_wp2_with fail
   have N0 := Zb (show Nod (w.alloc (.cells #[.int .i64 18, .int .i64 ps, .string nm, .int .i64 t, .int .i64 nz, .int .i64 z, .int .i64 ob, .int .u64 bi, .slice oa len cap] 29)) w.heap.size (.int .i64 18) (.int .i64 ps) (.string nm) (.int .i64 t) (.int .i64 nz) (.int .i64 z) (.int .i64 ob) (.int .u64 bi) (.slice oa len cap) from B_ _ _)
   have B0 := Zb (BA.out (.cells #[.int .i64 18, .int .i64 ps, .string nm, .int .i64 t, .int .i64 nz, .int .i64 z, .int .i64 ob, .int .u64 bi, .slice oa len cap] 29))
   have E0 := Zb (EA.out (.cells #[.int .i64 18, .int .i64 ps, .string nm, .int .i64 t, .int .i64 nz, .int .i64 z, .int .i64 ob, .int .u64 bi, .slice oa len cap] 29))
   have K0 := Zb (KA.out (.cells #[.int .i64 18, .int .i64 ps, .string nm, .int .i64 t, .int .i64 nz, .int .i64 z, .int .i64 ob, .int .u64 bi, .slice oa len cap] 29))
   generalize w.alloc _ = w0 at *
   obtain ⟨_, b0, b1, b2, b3, b4, b5, b6, b7, b8⟩ := N0.out.all
   have I0 := Zb (Below.refl w0.heap.size w0)
   refine (ZN (E0.out.bel I0.out) 18 ps nm t nz z ob bi oa len cap).mono ?_
   intro e u0 hp
   rcases hp.both with ⟨h1, rfl, hb⟩ | ⟨h1, rfl, hb⟩
   rotate_left 1
   · exact ⟨rfl, Gt.no (by rw [← HX.out]; simp [h1]) (Zc B0.out (Zc I0.out hb))⟩
   have I1 := Zb (Zc I0.out hb)
   have T0 := Zb h1
   clear hb hp h1 I0 b0 b1 b2 b3 b4 b5 b6 b7 b8
   go_wp2_with fail
   refine (all_ex (((E0.out.bel I1.out)).bel (Zd u0 (.cells #[.func (.func 33) #[] #[]] 64))) 18 ps ⟨#[]⟩ t nz z ob bi oa len cap ks (Zr.bel (Zc I1.out (Zd u0 (.cells #[.func (.func 33) #[] #[]] 64))) _ _ K0.out) u0.heap.size 1 (Zf (B_ u0 (.cells #[.func (.func 33) #[] #[]] 64)) 0 _ rfl) ex (fun x hx => hk x (List.mem_of_getElem? hx))).mono ?_
   intro e u1 hp
   rcases hp.both with ⟨h1, rfl, hb⟩ | ⟨h1, rfl, hb⟩
   rotate_left 1
   · exact ⟨rfl, Gt.no (by rw [← HX.out]; simp [T0.out, h1]) (Zc B0.out (Zc I1.out (Zc (Zd u0 _) hb)))⟩
   have I2 := Zb (Zc I1.out (Zc (Zd u0 _) hb))
   have T1 := Zb h1
   clear hb hp h1 I1
   go_wp2_with fail
   refine (Zl (ZE (E0.out.bel I2.out)) 18 ps ⟨#[]⟩ t nz z ob bi none 0 0).mono ?_
   intro e u2 hp
   rcases hp.both with ⟨h1, rfl, hb⟩ | ⟨h1, rfl, hb⟩
   rotate_left 1
   · exact ⟨rfl, Gt.no (by rw [← HX.out]; simp [T0.out, T1.out, h1]) (Zc B0.out (Zc I2.out hb))⟩
   have I3 := Zb (Zc I2.out hb)
   have T2 := Zb h1
   clear hb hp h1 I2
   go_wp2_with fail
   go_end0
   exact Gt.yes (by rw [← HX.out]; simp [T0.out, T1.out, T2.out]) (Zc B0.out I3.out)
 by_cases h19 : kd = 19
 · subst h19
   have HX := Zb (show (ZU nm && (Yz ex ks && ZH ⟨#[]⟩ t nz z ob bi 0)) = out from (by simpa [str] using HO.out))
   clear HO
   go_wp2_with fail
   have N0 := Zb (show Nod (w.alloc (.cells #[.int .i64 19, .int .i64 ps, .string nm, .int .i64 t, .int .i64 nz, .int .i64 z, .int .i64 ob, .int .u64 bi, .slice oa len cap] 29)) w.heap.size (.int .i64 19) (.int .i64 ps) (.string nm) (.int .i64 t) (.int .i64 nz) (.int .i64 z) (.int .i64 ob) (.int .u64 bi) (.slice oa len cap) from B_ _ _)
   have B0 := Zb (BA.out (.cells #[.int .i64 19, .int .i64 ps, .string nm, .int .i64 t, .int .i64 nz, .int .i64 z, .int .i64 ob, .int .u64 bi, .slice oa len cap] 29))
   have E0 := Zb (EA.out (.cells #[.int .i64 19, .int .i64 ps, .string nm, .int .i64 t, .int .i64 nz, .int .i64 z, .int .i64 ob, .int .u64 bi, .slice oa len cap] 29))
   have K0 := Zb (KA.out (.cells #[.int .i64 19, .int .i64 ps, .string nm, .int .i64 t, .int .i64 nz, .int .i64 z, .int .i64 ob, .int .u64 bi, .slice oa len cap] 29))
   generalize w.alloc _ = w0 at *
   obtain ⟨_, b0, b1, b2, b3, b4, b5, b6, b7, b8⟩ := N0.out.all
   have I0 := Zb (Below.refl w0.heap.size w0)
   refine (ZN (E0.out.bel I0.out) 19 ps nm t nz z ob bi oa len cap).mono ?_
   intro e u0 hp
   rcases hp.both with ⟨h1, rfl, hb⟩ | ⟨h1, rfl, hb⟩
   rotate_left 1
   · exact ⟨rfl, Gt.no (by rw [← HX.out]; simp [h1]) (Zc B0.out (Zc I0.out hb))⟩
   have I1 := Zb (Zc I0.out hb)
   have T0 := Zb h1
   clear hb hp h1 I0 b0 b1 b2 b3 b4 b5 b6 b7 b8
   go_wp2_with fail
   refine (all_ex (((E0.out.bel I1.out)).bel (Zd u0 (.cells #[.func (.func 33) #[] #[]] 64))) 19 ps ⟨#[]⟩ t nz z ob bi oa len cap ks (Zr.bel (Zc I1.out (Zd u0 (.cells #[.func (.func 33) #[] #[]] 64))) _ _ K0.out) u0.heap.size 1 (Zf (B_ u0 (.cells #[.func (.func 33) #[] #[]] 64)) 0 _ rfl) ex (fun x hx => hk x (List.mem_of_getElem? hx))).mono ?_
   intro e u1 hp
   rcases hp.both with ⟨h1, rfl, hb⟩ | ⟨h1, rfl, hb⟩
   rotate_left 1
   · exact ⟨rfl, Gt.no (by rw [← HX.out]; simp [T0.out, h1]) (Zc B0.out (Zc I1.out (Zc (Zd u0 _) hb)))⟩
   have I2 := Zb (Zc I1.out (Zc (Zd u0 _) hb))
   have T1 := Zb h1
   clear hb hp h1 I1
   go_wp2_with fail
   refine (Zl (ZE (E0.out.bel I2.out)) 19 ps ⟨#[]⟩ t nz z ob bi none 0 0).mono ?_
   intro e u2 hp
   rcases hp.both with ⟨h1, rfl, hb⟩ | ⟨h1, rfl, hb⟩
   rotate_left 1
   · exact ⟨rfl, Gt.no (by rw [← HX.out]; simp [T0.out, T1.out, h1]) (Zc B0.out (Zc I2.out hb))⟩
   have I3 := Zb (Zc I2.out hb)
   have T2 := Zb h1
   clear hb hp h1 I2
   go_wp2_with fail
   go_end0
   exact Gt.yes (by rw [← HX.out]; simp [T0.out, T1.out, T2.out]) (Zc B0.out I3.out)
 by_cases h17 : kd = 17
 · subst h17
   have HX := Zb (show (ZU nm && (Yz (tgt ex) ks && ZH ⟨#[]⟩ t nz z ob bi 0)) = out from (by simpa [str] using HO.out))
   clear HO
   go_wp2_with fail
   have N0 := Zb (show Nod (w.alloc (.cells #[.int .i64 17, .int .i64 ps, .string nm, .int .i64 t, .int .i64 nz, .int .i64 z, .int .i64 ob, .int .u64 bi, .slice oa len cap] 29)) w.heap.size (.int .i64 17) (.int .i64 ps) (.string nm) (.int .i64 t) (.int .i64 nz) (.int .i64 z) (.int .i64 ob) (.int .u64 bi) (.slice oa len cap) from B_ _ _)
   have B0 := Zb (BA.out (.cells #[.int .i64 17, .int .i64 ps, .string nm, .int .i64 t, .int .i64 nz, .int .i64 z, .int .i64 ob, .int .u64 bi, .slice oa len cap] 29))
   have E0 := Zb (EA.out (.cells #[.int .i64 17, .int .i64 ps, .string nm, .int .i64 t, .int .i64 nz, .int .i64 z, .int .i64 ob, .int .u64 bi, .slice oa len cap] 29))
   have K0 := Zb (KA.out (.cells #[.int .i64 17, .int .i64 ps, .string nm, .int .i64 t, .int .i64 nz, .int .i64 z, .int .i64 ob, .int .u64 bi, .slice oa len cap] 29))
   generalize w.alloc _ = w0 at *
   obtain ⟨_, b0, b1, b2, b3, b4, b5, b6, b7, b8⟩ := N0.out.all
   have I0 := Zb (Below.refl w0.heap.size w0)
   refine (ZN (E0.out.bel I0.out) 17 ps nm t nz z ob bi oa len cap).mono ?_
   intro e u0 hp
   rcases hp.both with ⟨h1, rfl, hb⟩ | ⟨h1, rfl, hb⟩
   rotate_left 1
   · exact ⟨rfl, Gt.no (by rw [← HX.out]; simp [h1]) (Zc B0.out (Zc I0.out hb))⟩
   have I1 := Zb (Zc I0.out hb)
   have T0 := Zb h1
   clear hb hp h1 I0 b0 b1 b2 b3 b4 b5 b6 b7 b8
   go_wp2_with fail
   refine (all_tg (((E0.out.bel I1.out)).bel (Zd u0 (.cells #[.func (.func 62) #[] #[]] 64))) 17 ps ⟨#[]⟩ t nz z ob bi oa len cap ks (Zr.bel (Zc I1.out (Zd u0 (.cells #[.func (.func 62) #[] #[]] 64))) _ _ K0.out) u0.heap.size 1 (Zf (B_ u0 (.cells #[.func (.func 62) #[] #[]] 64)) 0 _ rfl) (tgt ex) (fun x hx => hT x (List.mem_of_getElem? hx))).mono ?_
   intro e u1 hp
   rcases hp.both with ⟨h1, rfl, hb⟩ | ⟨h1, rfl, hb⟩
   rotate_left 1
   · exact ⟨rfl, Gt.no (by rw [← HX.out]; simp [T0.out, h1]) (Zc B0.out (Zc I1.out (Zc (Zd u0 _) hb)))⟩
   have I2 := Zb (Zc I1.out (Zc (Zd u0 _) hb))
   have T1 := Zb h1
   clear hb hp h1 I1
   go_wp2_with fail
   refine (Zl (ZE (E0.out.bel I2.out)) 17 ps ⟨#[]⟩ t nz z ob bi none 0 0).mono ?_
   intro e u2 hp
   rcases hp.both with ⟨h1, rfl, hb⟩ | ⟨h1, rfl, hb⟩
   rotate_left 1
   · exact ⟨rfl, Gt.no (by rw [← HX.out]; simp [T0.out, T1.out, h1]) (Zc B0.out (Zc I2.out hb))⟩
   have I3 := Zb (Zc I2.out hb)
   have T2 := Zb h1
   clear hb hp h1 I2
   go_wp2_with fail
   go_end0
   exact Gt.yes (by rw [← HX.out]; simp [T0.out, T1.out, T2.out]) (Zc B0.out I3.out)
 by_cases h20 : kd = 20
 · subst h20
   have HX := Zb (show (ZU nm && (Yz (tgt ex) ks && ZH ⟨#[]⟩ t nz z ob bi 0)) = out from (by simpa [str] using HO.out))
   clear HO
   go_wp2_with fail
   have N0 := Zb (show Nod (w.alloc (.cells #[.int .i64 20, .int .i64 ps, .string nm, .int .i64 t, .int .i64 nz, .int .i64 z, .int .i64 ob, .int .u64 bi, .slice oa len cap] 29)) w.heap.size (.int .i64 20) (.int .i64 ps) (.string nm) (.int .i64 t) (.int .i64 nz) (.int .i64 z) (.int .i64 ob) (.int .u64 bi) (.slice oa len cap) from B_ _ _)
   have B0 := Zb (BA.out (.cells #[.int .i64 20, .int .i64 ps, .string nm, .int .i64 t, .int .i64 nz, .int .i64 z, .int .i64 ob, .int .u64 bi, .slice oa len cap] 29))
   have E0 := Zb (EA.out (.cells #[.int .i64 20, .int .i64 ps, .string nm, .int .i64 t, .int .i64 nz, .int .i64 z, .int .i64 ob, .int .u64 bi, .slice oa len cap] 29))
   have K0 := Zb (KA.out (.cells #[.int .i64 20, .int .i64 ps, .string nm, .int .i64 t, .int .i64 nz, .int .i64 z, .int .i64 ob, .int .u64 bi, .slice oa len cap] 29))
   generalize w.alloc _ = w0 at *
   obtain ⟨_, b0, b1, b2, b3, b4, b5, b6, b7, b8⟩ := N0.out.all
   have I0 := Zb (Below.refl w0.heap.size w0)
   refine (ZN (E0.out.bel I0.out) 20 ps nm t nz z ob bi oa len cap).mono ?_
   intro e u0 hp
   rcases hp.both with ⟨h1, rfl, hb⟩ | ⟨h1, rfl, hb⟩
   rotate_left 1
   · exact ⟨rfl, Gt.no (by rw [← HX.out]; simp [h1]) (Zc B0.out (Zc I0.out hb))⟩
   have I1 := Zb (Zc I0.out hb)
   have T0 := Zb h1
   clear hb hp h1 I0 b0 b1 b2 b3 b4 b5 b6 b7 b8
   go_wp2_with fail
   refine (all_tg (((E0.out.bel I1.out)).bel (Zd u0 (.cells #[.func (.func 62) #[] #[]] 64))) 20 ps ⟨#[]⟩ t nz z ob bi oa len cap ks (Zr.bel (Zc I1.out (Zd u0 (.cells #[.func (.func 62) #[] #[]] 64))) _ _ K0.out) u0.heap.size 1 (Zf (B_ u0 (.cells #[.func (.func 62) #[] #[]] 64)) 0 _ rfl) (tgt ex) (fun x hx => hT x (List.mem_of_getElem? hx))).mono ?_
   intro e u1 hp
   rcases hp.both with ⟨h1, rfl, hb⟩ | ⟨h1, rfl, hb⟩
   rotate_left 1
   · exact ⟨rfl, Gt.no (by rw [← HX.out]; simp [T0.out, h1]) (Zc B0.out (Zc I1.out (Zc (Zd u0 _) hb)))⟩
   have I2 := Zb (Zc I1.out (Zc (Zd u0 _) hb))
   have T1 := Zb h1
   clear hb hp h1 I1
   go_wp2_with fail
   refine (Zl (ZE (E0.out.bel I2.out)) 20 ps ⟨#[]⟩ t nz z ob bi none 0 0).mono ?_
   intro e u2 hp
   rcases hp.both with ⟨h1, rfl, hb⟩ | ⟨h1, rfl, hb⟩
   rotate_left 1
   · exact ⟨rfl, Gt.no (by rw [← HX.out]; simp [T0.out, T1.out, h1]) (Zc B0.out (Zc I2.out hb))⟩
   have I3 := Zb (Zc I2.out hb)
   have T2 := Zb h1
   clear hb hp h1 I2
   go_wp2_with fail
   go_end0
   exact Gt.yes (by rw [← HX.out]; simp [T0.out, T1.out, T2.out]) (Zc B0.out I3.out)
 by_cases h12 : kd = 12
 · subst h12
   have HX := Zb (show (ZU nm && (ks.all ex && ZH ⟨#[]⟩ t nz z ob bi 0)) = out from (by simpa [str] using HO.out))
   clear HO
   go_wp2_with fail
   have N0 := Zb (show Nod (w.alloc (.cells #[.int .i64 12, .int .i64 ps, .string nm, .int .i64 t, .int .i64 nz, .int .i64 z, .int .i64 ob, .int .u64 bi, .slice oa len cap] 29)) w.heap.size (.int .i64 12) (.int .i64 ps) (.string nm) (.int .i64 t) (.int .i64 nz) (.int .i64 z) (.int .i64 ob) (.int .u64 bi) (.slice oa len cap) from B_ _ _)
   have B0 := Zb (BA.out (.cells #[.int .i64 12, .int .i64 ps, .string nm, .int .i64 t, .int .i64 nz, .int .i64 z, .int .i64 ob, .int .u64 bi, .slice oa len cap] 29))
   have E0 := Zb (EA.out (.cells #[.int .i64 12, .int .i64 ps, .string nm, .int .i64 t, .int .i64 nz, .int .i64 z, .int .i64 ob, .int .u64 bi, .slice oa len cap] 29))
   have K0 := Zb (KA.out (.cells #[.int .i64 12, .int .i64 ps, .string nm, .int .i64 t, .int .i64 nz, .int .i64 z, .int .i64 ob, .int .u64 bi, .slice oa len cap] 29))
   generalize w.alloc _ = w0 at *
   obtain ⟨_, b0, b1, b2, b3, b4, b5, b6, b7, b8⟩ := N0.out.all
   have I0 := Zb (Below.refl w0.heap.size w0)
   refine (ZN (E0.out.bel I0.out) 12 ps nm t nz z ob bi oa len cap).mono ?_
   intro e u0 hp
   rcases hp.both with ⟨h1, rfl, hb⟩ | ⟨h1, rfl, hb⟩
   rotate_left 1
   · exact ⟨rfl, Gt.no (by rw [← HX.out]; simp [h1]) (Zc B0.out (Zc I0.out hb))⟩
   have I1 := Zb (Zc I0.out hb)
   have T0 := Zb h1
   clear hb hp h1 I0 b0 b1 b2 b3 b4 b5 b6 b7 b8
   go_wp2_with fail
   refine (each_showexpr (E0.out.bel I1.out) 12 ps ⟨#[]⟩ t nz z ob bi oa len cap ks (Zr.bel I1.out _ _ K0.out) ex hk).mono ?_
   intro e u1 hp
   rcases hp.both with ⟨h1, rfl, hb⟩ | ⟨h1, rfl, hb⟩
   rotate_left 1
   · exact ⟨rfl, Gt.no (by rw [← HX.out]; simp [T0.out, h1]) (Zc B0.out (Zc I1.out hb))⟩
   have I2 := Zb (Zc I1.out hb)
   have T1 := Zb h1
   clear hb hp h1 I1
   go_wp2_with fail
   refine (Zl (ZE (E0.out.bel I2.out)) 12 ps ⟨#[]⟩ t nz z ob bi none 0 0).mono ?_
   intro e u2 hp
   rcases hp.both with ⟨h1, rfl, hb⟩ | ⟨h1, rfl, hb⟩
   rotate_left 1
   · exact ⟨rfl, Gt.no (by rw [← HX.out]; simp [T0.out, T1.out, h1]) (Zc B0.out (Zc I2.out hb))⟩
   have I3 := Zb (Zc I2.out hb)
   have T2 := Zb h1
   clear hb hp h1 I2
   go_wp2_with fail
   go_end0
   exact Gt.yes (by rw [← HX.out]; simp [T0.out, T1.out, T2.out]) (Zc B0.out I3.out)
 by_cases h13 : kd = 13
 · subst h13
   have HX := Zb (show (ZU nm && (ks.all ex && ZH ⟨#[]⟩ t nz z ob bi 0)) = out from (by simpa [str] using HO.out))
   clear HO
   go_wp2_with fail
   have N0 := Zb (show Nod (w.alloc (.cells #[.int .i64 13, .int .i64 ps, .string nm, .int .i64 t, .int .i64 nz, .int .i64 z, .int .i64 ob, .int .u64 bi, .slice oa len cap] 29)) w.heap.size (.int .i64 13) (.int .i64 ps) (.string nm) (.int .i64 t) (.int .i64 nz) (.int .i64 z) (.int .i64 ob) (.int .u64 bi) (.slice oa len cap) from B_ _ _)
   have B0 := Zb (BA.out (.cells #[.int .i64 13, .int .i64 ps, .string nm, .int .i64 t, .int .i64 nz, .int .i64 z, .int .i64 ob, .int .u64 bi, .slice oa len cap] 29))
   have E0 := Zb (EA.out (.cells #[.int .i64 13, .int .i64 ps, .string nm, .int .i64 t, .int .i64 nz, .int .i64 z, .int .i64 ob, .int .u64 bi, .slice oa len cap] 29))
   have K0 := Zb (KA.out (.cells #[.int .i64 13, .int .i64 ps, .string nm, .int .i64 t, .int .i64 nz, .int .i64 z, .int .i64 ob, .int .u64 bi, .slice oa len cap] 29))
   generalize w.alloc _ = w0 at *
   obtain ⟨_, b0, b1, b2, b3, b4, b5, b6, b7, b8⟩ := N0.out.all
   have I0 := Zb (Below.refl w0.heap.size w0)
   refine (ZN (E0.out.bel I0.out) 13 ps nm t nz z ob bi oa len cap).mono ?_
   intro e u0 hp
   rcases hp.both with ⟨h1, rfl, hb⟩ | ⟨h1, rfl, hb⟩
   rotate_left 1
   · exact ⟨rfl, Gt.no (by rw [← HX.out]; simp [h1]) (Zc B0.out (Zc I0.out hb))⟩
   have I1 := Zb (Zc I0.out hb)
   have T0 := Zb h1
   clear hb hp h1 I0 b0 b1 b2 b3 b4 b5 b6 b7 b8
   go_wp2_with fail
   refine (each_showexpr (E0.out.bel I1.out) 13 ps ⟨#[]⟩ t nz z ob bi oa len cap ks (Zr.bel I1.out _ _ K0.out) ex hk).mono ?_
   intro e u1 hp
   rcases hp.both with ⟨h1, rfl, hb⟩ | ⟨h1, rfl, hb⟩
   rotate_left 1
   · exact ⟨rfl, Gt.no (by rw [← HX.out]; simp [T0.out, h1]) (Zc B0.out (Zc I1.out hb))⟩
   have I2 := Zb (Zc I1.out hb)
   have T1 := Zb h1
   clear hb hp h1 I1
   go_wp2_with fail
   refine (Zl (ZE (E0.out.bel I2.out)) 13 ps ⟨#[]⟩ t nz z ob bi none 0 0).mono ?_
   intro e u2 hp
   rcases hp.both with ⟨h1, rfl, hb⟩ | ⟨h1, rfl, hb⟩
   rotate_left 1
   · exact ⟨rfl, Gt.no (by rw [← HX.out]; simp [T0.out, T1.out, h1]) (Zc B0.out (Zc I2.out hb))⟩
   have I3 := Zb (Zc I2.out hb)
   have T2 := Zb h1
   clear hb hp h1 I2
   go_wp2_with fail
   go_end0
   exact Gt.yes (by rw [← HX.out]; simp [T0.out, T1.out, T2.out]) (Zc B0.out I3.out)
 by_cases h14 : kd = 14
 · subst h14
   have HX := Zb (show (ZU nm && ZH ⟨#[]⟩ t nz z ob bi len) = out from (by rw [HLN.out]; simpa [str] using HO.out))
   clear HO
   go_wp2_with fail
   have N0 := Zb (show Nod (w.alloc (.cells #[.int .i64 14, .int .i64 ps, .string nm, .int .i64 t, .int .i64 nz, .int .i64 z, .int .i64 ob, .int .u64 bi, .slice oa len cap] 29)) w.heap.size (.int .i64 14) (.int .i64 ps) (.string nm) (.int .i64 t) (.int .i64 nz) (.int .i64 z) (.int .i64 ob) (.int .u64 bi) (.slice oa len cap) from B_ _ _)
   have B0 := Zb (BA.out (.cells #[.int .i64 14, .int .i64 ps, .string nm, .int .i64 t, .int .i64 nz, .int .i64 z, .int .i64 ob, .int .u64 bi, .slice oa len cap] 29))
   have E0 := Zb (EA.out (.cells #[.int .i64 14, .int .i64 ps, .string nm, .int .i64 t, .int .i64 nz, .int .i64 z, .int .i64 ob, .int .u64 bi, .slice oa len cap] 29))
   have K0 := Zb (KA.out (.cells #[.int .i64 14, .int .i64 ps, .string nm, .int .i64 t, .int .i64 nz, .int .i64 z, .int .i64 ob, .int .u64 bi, .slice oa len cap] 29))
   generalize w.alloc _ = w0 at *
   obtain ⟨_, b0, b1, b2, b3, b4, b5, b6, b7, b8⟩ := N0.out.all
   have I0 := Zb (Below.refl w0.heap.size w0)
   refine (ZN (E0.out.bel I0.out) 14 ps nm t nz z ob bi oa len cap).mono ?_
   intro e u0 hp
   rcases hp.both with ⟨h1, rfl, hb⟩ | ⟨h1, rfl, hb⟩
   rotate_left 1
   · exact ⟨rfl, Gt.no (by rw [← HX.out]; simp [h1]) (Zc B0.out (Zc I0.out hb))⟩
   have I1 := Zb (Zc I0.out hb)
   have T0 := Zb h1
   clear hb hp h1 I0 b0 b1 b2 b3 b4 b5 b6 b7 b8
   go_wp2_with fail
   refine (Zl (ZE (E0.out.bel I1.out)) 14 ps ⟨#[]⟩ t nz z ob bi oa len cap).mono ?_
   intro e u1 hp
   rcases hp.both with ⟨h1, rfl, hb⟩ | ⟨h1, rfl, hb⟩
   rotate_left 1
   · exact ⟨rfl, Gt.no (by rw [← HX.out]; simp [T0.out, h1]) (Zc B0.out (Zc I1.out hb))⟩
   have I2 := Zb (Zc I1.out hb)
   have T1 := Zb h1
   clear hb hp h1 I1
   go_wp2_with fail
   go_end0
   exact Gt.yes (by rw [← HX.out]; simp [T0.out, T1.out]) (Zc B0.out I2.out)
 by_cases h15 : kd = 15
 · subst h15
   have HX := Zb (show (ZU nm && ZH ⟨#[]⟩ t nz z ob bi len) = out from (by rw [HLN.out]; simpa [str] using HO.out))
   clear HO
   go_wp2_with fail
   have N0 := Zb (show Nod (w.alloc (.cells #[.int .i64 15, .int .i64 ps, .string nm, .int .i64 t, .int .i64 nz, .int .i64 z, .int .i64 ob, .int .u64 bi, .slice oa len cap] 29)) w.heap.size (.int .i64 15) (.int .i64 ps) (.string nm) (.int .i64 t) (.int .i64 nz) (.int .i64 z) (.int .i64 ob) (.int .u64 bi) (.slice oa len cap) from B_ _ _)
   have B0 := Zb (BA.out (.cells #[.int .i64 15, .int .i64 ps, .string nm, .int .i64 t, .int .i64 nz, .int .i64 z, .int .i64 ob, .int .u64 bi, .slice oa len cap] 29))
   have E0 := Zb (EA.out (.cells #[.int .i64 15, .int .i64 ps, .string nm, .int .i64 t, .int .i64 nz, .int .i64 z, .int .i64 ob, .int .u64 bi, .slice oa len cap] 29))
   have K0 := Zb (KA.out (.cells #[.int .i64 15, .int .i64 ps, .string nm, .int .i64 t, .int .i64 nz, .int .i64 z, .int .i64 ob, .int .u64 bi, .slice oa len cap] 29))
   generalize w.alloc _ = w0 at *
   obtain ⟨_, b0, b1, b2, b3, b4, b5, b6, b7, b8⟩ := N0.out.all
   have I0 := Zb (Below.refl w0.heap.size w0)
   refine (ZN (E0.out.bel I0.out) 15 ps nm t nz z ob bi oa len cap).mono ?_
   intro e u0 hp
   rcases hp.both with ⟨h1, rfl, hb⟩ | ⟨h1, rfl, hb⟩
   rotate_left 1
   · exact ⟨rfl, Gt.no (by rw [← HX.out]; simp [h1]) (Zc B0.out (Zc I0.out hb))⟩
   have I1 := Zb (Zc I0.out hb)
   have T0 := Zb h1
   clear hb hp h1 I0 b0 b1 b2 b3 b4 b5 b6 b7 b8
   go_wp2_with fail
   refine (Zl (ZE (E0.out.bel I1.out)) 15 ps ⟨#[]⟩ t nz z ob bi oa len cap).mono ?_
   intro e u1 hp
   rcases hp.both with ⟨h1, rfl, hb⟩ | ⟨h1, rfl, hb⟩
   rotate_left 1
   · exact ⟨rfl, Gt.no (by rw [← HX.out]; simp [T0.out, h1]) (Zc B0.out (Zc I1.out hb))⟩
   have I2 := Zb (Zc I1.out hb)
   have T1 := Zb h1
   clear hb hp h1 I1
   go_wp2_with fail
   go_end0
   exact Gt.yes (by rw [← HX.out]; simp [T0.out, T1.out]) (Zc B0.out I2.out)
 by_cases h23 : kd = 23
 · subst h23
   have HX := Zb (show (ZH nm t nz z ob bi len) = out from (by rw [HLN.out]; simpa [str] using HO.out))
   clear HO
   go_wp2_with fail
   have N0 := Zb (show Nod (w.alloc (.cells #[.int .i64 23, .int .i64 ps, .string nm, .int .i64 t, .int .i64 nz, .int .i64 z, .int .i64 ob, .int .u64 bi, .slice oa len cap] 29)) w.heap.size (.int .i64 23) (.int .i64 ps) (.string nm) (.int .i64 t) (.int .i64 nz) (.int .i64 z) (.int .i64 ob) (.int .u64 bi) (.slice oa len cap) from B_ _ _)
   have B0 := Zb (BA.out (.cells #[.int .i64 23, .int .i64 ps, .string nm, .int .i64 t, .int .i64 nz, .int .i64 z, .int .i64 ob, .int .u64 bi, .slice oa len cap] 29))
   have E0 := Zb (EA.out (.cells #[.int .i64 23, .int .i64 ps, .string nm, .int .i64 t, .int .i64 nz, .int .i64 z, .int .i64 ob, .int .u64 bi, .slice oa len cap] 29))
   have K0 := Zb (KA.out (.cells #[.int .i64 23, .int .i64 ps, .string nm, .int .i64 t, .int .i64 nz, .int .i64 z, .int .i64 ob, .int .u64 bi, .slice oa len cap] 29))
   generalize w.alloc _ = w0 at *
   obtain ⟨_, b0, b1, b2, b3, b4, b5, b6, b7, b8⟩ := N0.out.all
   have I0 := Zb (Below.refl w0.heap.size w0)
   refine (Zl (ZE (E0.out.bel I0.out)) 23 ps nm t nz z ob bi oa len cap).mono ?_
   intro e u0 hp
   rcases hp.both with ⟨h1, rfl, hb⟩ | ⟨h1, rfl, hb⟩
   rotate_left 1
   · exact ⟨rfl, Gt.no (by rw [← HX.out]; simp [h1]) (Zc B0.out (Zc I0.out hb))⟩
   have I1 := Zb (Zc I0.out hb)
   have T0 := Zb h1
   clear hb hp h1 I0 b0 b1 b2 b3 b4 b5 b6 b7 b8
   go_wp2_with fail
   go_end0
   exact Gt.yes (by rw [← HX.out]; simp [T0.out]) (Zc B0.out I1.out)
 by_cases h24 : kd = 24
 · subst h24
   have HX := Zb (show (Yz ex ks && ZH nm t nz z ob bi 0) = out from (by simpa [str] using HO.out))
   clear HO
   go_wp2_with fail
   have s1 : (w.alloc (.cells #[.int .i64 24, .int .i64 ps, .string nm, .int .i64 t, .int .i64 nz, .int .i64 z, .int .i64 ob, .int .u64 bi, .slice oa len cap] 29)).heap.size = w.heap.size + 1 := by simp
   have FC0 := Zf (B_ (w.alloc (.cells #[.int .i64 24, .int .i64 ps, .string nm, .int .i64 t, .int .i64 nz, .int .i64 z, .int .i64 ob, .int .u64 bi, .slice oa len cap] 29)) (.cells #[.func (.func 33) #[] #[]] 64)) 0 _ rfl
   rw [s1] at FC0
   have FC0 := Zb FC0
   clear s1
   have N0 := Zb (show Nod (w.alloc (.cells #[.int .i64 24, .int .i64 ps, .string nm, .int .i64 t, .int .i64 nz, .int .i64 z, .int .i64 ob, .int .u64 bi, .slice oa len cap] 29)) w.heap.size (.int .i64 24) (.int .i64 ps) (.string nm) (.int .i64 t) (.int .i64 nz) (.int .i64 z) (.int .i64 ob) (.int .u64 bi) (.slice oa len cap) from B_ _ _)
   have B0 := Zb (BA.out (.cells #[.int .i64 24, .int .i64 ps, .string nm, .int .i64 t, .int .i64 nz, .int .i64 z, .int .i64 ob, .int .u64 bi, .slice oa len cap] 29))
   have E0 := Zb (EA.out (.cells #[.int .i64 24, .int .i64 ps, .string nm, .int .i64 t, .int .i64 nz, .int .i64 z, .int .i64 ob, .int .u64 bi, .slice oa len cap] 29))
   have K0 := Zb (KA.out (.cells #[.int .i64 24, .int .i64 ps, .string nm, .int .i64 t, .int .i64 nz, .int .i64 z, .int .i64 ob, .int .u64 bi, .slice oa len cap] 29))
   generalize w.alloc _ = w0 at *
   obtain ⟨_, b0, b1, b2, b3, b4, b5, b6, b7, b8⟩ := N0.out.all
   have I0 := Zb (Below.refl w0.heap.size w0)
   refine (all_ex (((E0.out.bel I0.out)).bel (Zd w0 (.cells #[.func (.func 33) #[] #[]] 64))) 24 ps nm t nz z ob bi oa len cap ks (Zr.bel (Zc I0.out (Zd w0 (.cells #[.func (.func 33) #[] #[]] 64))) _ _ K0.out) (w.heap.size + 1) 1 FC0.out ex (fun x hx => hk x (List.mem_of_getElem? hx))).mono ?_
   intro e u0 hp
   rcases hp.both with ⟨h1, rfl, hb⟩ | ⟨h1, rfl, hb⟩
   rotate_left 1
   · exact ⟨rfl, Gt.no (by rw [← HX.out]; simp [h1]) (Zc B0.out (Zc I0.out (Zc (Zd w0 _) hb)))⟩
   have I1 := Zb (Zc I0.out (Zc (Zd w0 _) hb))
   have T0 := Zb h1
   clear hb hp h1 I0 b0 b1 b2 b3 b4 b5 b6 b7 b8
   go_wp2_with fail
   refine (Zl (ZE (E0.out.bel I1.out)) 24 ps nm t nz z ob bi none 0 0).mono ?_
   intro e u1 hp
   rcases hp.both with ⟨h1, rfl, hb⟩ | ⟨h1, rfl, hb⟩
   rotate_left 1
   · exact ⟨rfl, Gt.no (by rw [← HX.out]; simp [T0.out, h1]) (Zc B0.out (Zc I1.out hb))⟩
   have I2 := Zb (Zc I1.out hb)
   have T1 := Zb h1
   clear hb hp h1 I1
   go_wp2_with fail
   go_end0
   exact Gt.yes (by rw [← HX.out]; simp [T0.out, T1.out]) (Zc B0.out I2.out)
 have HX := Zb (show brr ex bl (.mk kd ps nm t nz z ob bi ks) = out from (by simpa [str, h10, h11, h16, h18, h19, h17, h20, h12, h13, h14, h15, h23, h24] using HO.out))
 clear HO
 go_wp2_with fail
 have N0 := Zb (show Nod (w.alloc (.cells #[.int .i64 kd, .int .i64 ps, .string nm, .int .i64 t, .int .i64 nz, .int .i64 z, .int .i64 ob, .int .u64 bi, .slice oa len cap] 29)) w.heap.size (.int .i64 kd) (.int .i64 ps) (.string nm) (.int .i64 t) (.int .i64 nz) (.int .i64 z) (.int .i64 ob) (.int .u64 bi) (.slice oa len cap) from B_ _ _)
 have B0 := Zb (BA.out (.cells #[.int .i64 kd, .int .i64 ps, .string nm, .int .i64 t, .int .i64 nz, .int .i64 z, .int .i64 ob, .int .u64 bi, .slice oa len cap] 29))
 have E0 := Zb (EA.out (.cells #[.int .i64 kd, .int .i64 ps, .string nm, .int .i64 t, .int .i64 nz, .int .i64 z, .int .i64 ob, .int .u64 bi, .slice oa len cap] 29))
 have K0 := Zb (KA.out (.cells #[.int .i64 kd, .int .i64 ps, .string nm, .int .i64 t, .int .i64 nz, .int .i64 z, .int .i64 ob, .int .u64 bi, .slice oa len cap] 29))
 generalize w.alloc _ = w0 at *
 obtain ⟨_, b0, b1, b2, b3, b4, b5, b6, b7, b8⟩ := N0.out.all
 refine (HB.out w0 (.agg #[.int .i64 kd, .int .i64 ps, .string nm, .int .i64 t, .int .i64 nz, .int .i64 z, .int .i64 ob, .int .u64 bi, .slice oa len cap]) E0.out (by unfold Zq; exact ⟨_, rfl, K0.out⟩)).mono ?_
 intro e u hp
 rcases hp.both with ⟨h1, rfl, hb⟩ | ⟨h1, rfl, hb⟩
 rotate_left 1
 · exact ⟨rfl, Gt.no (by rw [← HX.out]; exact h1) (Zc B0.out hb)⟩
 have U := Zb (And.intro h1 (Zc B0.out hb))
 clear hp h1 hb b0 b1 b2 b3 b4 b5 b6 b7 b8
 go_wp2_with fail
 go_end0
 exact Gt.yes (by rw [← HX.out]; exact U.out.1) U.out.2
theorem stmt_rule {p : List Addr} : ∀ (m : Nat) (n : Nd), szN n < m -> ZR 146 p (stF m) n
 | 0, _, h => absurd h (Nat.not_lt_zero _)
 | m + 1, n, h => stmt_from (exF m) (blr (stF m)) n
  (fun k hk => expr_rule m k (by have h1 := sz_kid hk; omega))
  (fun k hk => target_rule m k (by have h1 := sz_kid hk; omega))
  (fun k hk => block_from (stF m) k (fun j hj => stmt_rule m j (by have h1 := sz_kid hk; have h2 := sz_kid hj; omega)))
theorem block_rule {p : List Addr} (m : Nat) (n : Nd) (h : szN n < m + 1) : ZR 108 p (blr (stF m)) n :=
 block_from (stF m) n (fun j hj => stmt_rule m j (by have h2 := sz_kid hj; omega))
end Go.Proofs.YtfnplhfjfolojaaGreatDoor.Ck.Sho
namespace Go.Proofs.YtfnplhfjfolojaaGreatDoor.Ck
open Go.ChangeShapes Go.WideShapes Go.ChangeAt Go.RowKit
theorem RowA.of {w : World} {a : Addr} : ∀ (ks : List Nd) (o : Nat), (∀ j n, ks[j]? = some n -> ZD w a (o + 9 * j) n) -> RowA w a o ks
 | [], _, _ => by unfold RowA; trivial
 | n :: ks, o, h => by
  unfold RowA
  refine ⟨by have := h 0 n rfl; simpa using this, RowA.of ks (o + 9) (fun j m hj => ?_)⟩
  have := h (j + 1) m (by simpa using hj)
  rw [show o + 9 + 9 * j = o + 9 * (j + 1) by omega]
  exact this
theorem Zr.of {w : World} {a : Addr} {cap : Nat} (ks : List Nd) (h1 : ks.length <= cap) (h2 : cap <= maxLen) (h : ∀ j n, ks[j]? = some n -> ZD w a (9 * j) n) : Zr w ks (.slice (some a) ks.length cap) := by
 cases ks with
 | nil =>
  unfold Zr
  exact ⟨_, _, rfl⟩
 | cons n ks =>
  unfold Zr
  have hr := RowA.of (n :: ks) 0 (fun j m hj => by rw [Nat.zero_add]; exact h j m hj)
  unfold RowA at hr
  exact ⟨a, cap, rfl, h1, h2, hr.1, hr.2⟩
end Go.Proofs.YtfnplhfjfolojaaGreatDoor.Ck
