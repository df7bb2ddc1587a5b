/- Texts of this proof, packed: contracts of the program's functions, and the plain model that they are held against. -/
import Derived.Test.YtfnplhfjfolojaaGreatDoorQap
import Derived.Maps.OwnSet
import Derived.Maps.Views
set_option maxRecDepth 20000
set_option maxHeartbeats 4000000
namespace Go.Proofs.YtfnplhfjfolojaaGreatDoor.Ck.Sho
open Go.RowKit
def kwR (v : Value) : Option (DataW Unit × List MemPlace) := match v with | .agg a => (match a.toList with | [.string s] => some (.lit (.string s.data.toList), []) | _ => none) | _ => none
theorem kwR_inv {v : Value} {s : List UInt8} {ps : List MemPlace} (h : kwR v = some (.lit (.string s), ps)) : v = .agg #[.string ⟨s.toArray⟩] := by
 unfold kwR at h
 split at h
 · rename_i a
   split at h
   · rename_i x hx
     simp at h
     have e : a = #[.string x] := Array.toList_inj.1 (by rw [hx])
     rw [e, ← h.1]
   · cases h
 · cases h
def Km (w : World) (b n : Nat) (f : Int -> List UInt8) : Prop :=
 ∃ D, w.ownsMap (H := Unit) Tryz.prog 3 kwR b n D /\ ∀ x : Int, D.atKey (.int .i64 x) (.lit (.string [])) = .lit (.string (f x))
theorem Km.made (w : World) : Km (w.alloc (.map #[] 0)) w.heap.size 0 (fun _ => []) := ⟨_, World.ownsMap_made w _ _ _, fun _ => rfl⟩
theorem Km.lt {w : World} {b n : Nat} {f : Int -> List UInt8} (h : Km w b n f) : b < w.heap.size := by
 obtain ⟨D, ⟨es, clock, h1, h2⟩, h3⟩ := h
 exact Ze h1
theorem Km.bel {w w' : World} {b n : Nat} {f : Int -> List UInt8} (h : Km w b n f) (hb : Below w.heap.size w w') : Km w' b n f := by
 obtain ⟨D, ⟨es, clock, h1, h2⟩, h3⟩ := h
 exact ⟨D, ⟨es, clock, (hb.block b (Ze h1)).trans h1, h2⟩, h3⟩
theorem Km.fx {w w' : World} {b n : Nat} {f : Int -> List UInt8} (h : Km w b n f) {g : Nat} {bo bo' : Option Nat} (t : Fx g bo w bo' w') (h1 : b ≠ g) (h2 : bo ≠ some b) : Km w' b n f := by
 obtain ⟨D, ⟨es, clock, k1, k2⟩, k3⟩ := h
 exact ⟨D, ⟨es, clock, (t.blk b (Ze k1) h1 h2).trans k1, k2⟩, k3⟩
theorem Km.add {w : World} {b n : Nat} {f : Int -> List UInt8} (h : Km w b n f) (hn : n < maxLen) (x : Int) (hw : (Lit.int .i64 x).wf = true) (s : ByteArray) :
 ∃ w', (Instr.mapUpdate 104 (.map (some b)) (.int .i64 x) (.agg #[.string s])).run Tryz.prog w = .ok () w' /\ Km w' b (n + 1) (fun y => if y = x then s.data.toList else f y) /\ w.grownBy w' (some b) := by
 obtain ⟨D, ho, hD⟩ := h
 have hk := Go.Maps.keyOf_int_mk Tryz.underlying3 hw
 have K := Go.Maps.int_keyed Tryz.underlying3
 obtain ⟨w', r, o, g⟩ := ho.update (t := 104) K Tryz.underlying104 hn hk (d := .lit (.string s.data.toList)) (ps := []) (val := .agg #[.string s]) rfl
 have hs := Go.Maps.atKey_put_same ho.isMap (K.key hk) (.lit (.string s.data.toList)) (.lit (.string []))
 refine ⟨w', r, ⟨_, o, fun y => ?_⟩, g⟩
 show _ = DataW.lit (Lit.string (if y = x then s.data.toList else f y))
 by_cases e : y = x
 · subst e
   rw [if_pos rfl]
   exact hs
 · rw [if_neg e]
   exact (Go.Maps.atKey_put_other (fun h => e (by injection h)) _ _).trans (hD y)
theorem zero_kw (w : World) : (zeroValue 151).run Tryz.prog w = .ok (.agg #[.string ⟨#[]⟩]) w := by kernel_rfl
theorem Km.look {w : World} {b n : Nat} {f : Int -> List UInt8} (h : Km w b n f) (x : Int) (hw : (Lit.int .i64 x).wf = true) :
 (Instr.lookup 104 (.map (some b)) (.int .i64 x) false).run Tryz.prog w = .ok (.agg #[.string ⟨(f x).toArray⟩]) w := by
 obtain ⟨D, ho, hD⟩ := h
 have hk := Go.Maps.keyOf_int_mk Tryz.underlying3 hw
 have K := Go.Maps.int_keyed Tryz.underlying3
 obtain ⟨v, ps, hr, hv⟩ := ho.lookup (t := 104) K Tryz.underlying104 (zero_kw w) (zd := .lit (.string [])) (zp := []) rfl hk
 rw [hD x] at hv
 rw [hr, kwR_inv hv]
def Yf : Int -> List UInt8 := fun y => if y = 3 then [98, 111, 111, 108] else if y = 2 then [102, 108, 111, 97, 116] else if y = 1 then [105, 110, 116] else []
theorem types_any (w : World) : Calls Tryz.prog 97 #[] w fun e w' => ∃ b, e = .returned (.map (some b)) /\ Km w' b 3 Yf /\ w.heap.size <= b /\ Below w.heap.size w w' := by
 have hm := run_makeMap (P := Tryz.prog) 104 w
 have k0 := Km.made w
 have G0 := Zb (Zd w (.map #[] 0))
 obtain ⟨x1, r1, k1, g1⟩ := k0.add (by unfold maxLen; omega) 1 (by decide) ⟨#[105, 110, 116]⟩
 have G1 := Zb ((G0.out).grown g1 G0.out.size (fun q hq => by cases hq; exact Nat.le_refl _))
 clear g1 k0 G0
 obtain ⟨x2, r2, k2, g2⟩ := k1.add (by unfold maxLen; omega) 2 (by decide) ⟨#[102, 108, 111, 97, 116]⟩
 have G2 := Zb ((G1.out).grown g2 G1.out.size (fun q hq => by cases hq; exact Nat.le_refl _))
 clear g2 k1 G1
 obtain ⟨x3, r3, k3, g3⟩ := k2.add (by unfold maxLen; omega) 3 (by decide) ⟨#[98, 111, 111, 108]⟩
 have G3 := Zb ((G2.out).grown g3 G2.out.size (fun q hq => by cases hq; exact Nat.le_refl _))
 clear g3 k2 G2
 have KK := Zb k3
 clear k3
 go_enter Tryz.func97, Tryz.ntmps97
 go_wp2_with fail
 go_ret
 exact ⟨_, rfl, KK.out, Nat.le_refl _, G3.out⟩
def Zz : Int -> List UInt8 := fun y => if y = 24 then [102, 97, 105, 108] else if y = 23 then [114, 101, 116, 117, 114, 110] else if y = 22 then [119, 104, 105, 108, 101] else if y = 21 then [105, 102] else if y = 20 then [103, 101, 116] else if y = 19 then [112, 117, 116] else if y = 18 then [97, 100, 100] else if y = 17 then [114, 101, 99, 118] else if y = 16 then [115, 101, 110, 100] else if y = 15 then [117, 110, 108, 111, 99, 107] else if y = 14 then [108, 111, 99, 107] else if y = 12 then [103, 111] else if y = 7 then [102, 117, 110, 99] else if y = 6 then [97, 116, 111, 109, 105, 99] else if y = 5 then [99, 104, 97, 110] else if y = 4 then [109, 117, 116, 101, 120] else if y = 3 then [118, 97, 114] else if y = 2 then [118, 97, 114] else []
theorem starts_any (w : World) : Calls Tryz.prog 96 #[] w fun e w' => ∃ b, e = .returned (.map (some b)) /\ Km w' b 18 Zz /\ w.heap.size <= b /\ Below w.heap.size w w' := by
 have hm := run_makeMap (P := Tryz.prog) 104 w
 have k0 := Km.made w
 have G0 := Zb (Zd w (.map #[] 0))
 obtain ⟨x1, r1, k1, g1⟩ := k0.add (by unfold maxLen; omega) 2 (by decide) ⟨#[118, 97, 114]⟩
 have G1 := Zb ((G0.out).grown g1 G0.out.size (fun q hq => by cases hq; exact Nat.le_refl _))
 clear g1 k0 G0
 obtain ⟨x2, r2, k2, g2⟩ := k1.add (by unfold maxLen; omega) 3 (by decide) ⟨#[118, 97, 114]⟩
 have G2 := Zb ((G1.out).grown g2 G1.out.size (fun q hq => by cases hq; exact Nat.le_refl _))
 clear g2 k1 G1
 obtain ⟨x3, r3, k3, g3⟩ := k2.add (by unfold maxLen; omega) 4 (by decide) ⟨#[109, 117, 116, 101, 120]⟩
 have G3 := Zb ((G2.out).grown g3 G2.out.size (fun q hq => by cases hq; exact Nat.le_refl _))
 clear g3 k2 G2
 obtain ⟨x4, r4, k4, g4⟩ := k3.add (by unfold maxLen; omega) 5 (by decide) ⟨#[99, 104, 97, 110]⟩
 have G4 := Zb ((G3.out).grown g4 G3.out.size (fun q hq => by cases hq; exact Nat.le_refl _))
 clear g4 k3 G3
 obtain ⟨x5, r5, k5, g5⟩ := k4.add (by unfold maxLen; omega) 6 (by decide) ⟨#[97, 116, 111, 109, 105, 99]⟩
 have G5 := Zb ((G4.out).grown g5 G4.out.size (fun q hq => by cases hq; exact Nat.le_refl _))
 clear g5 k4 G4
 obtain ⟨x6, r6, k6, g6⟩ := k5.add (by unfold maxLen; omega) 7 (by decide) ⟨#[102, 117, 110, 99]⟩
 have G6 := Zb ((G5.out).grown g6 G5.out.size (fun q hq => by cases hq; exact Nat.le_refl _))
 clear g6 k5 G5
 obtain ⟨x7, r7, k7, g7⟩ := k6.add (by unfold maxLen; omega) 12 (by decide) ⟨#[103, 111]⟩
 have G7 := Zb ((G6.out).grown g7 G6.out.size (fun q hq => by cases hq; exact Nat.le_refl _))
 clear g7 k6 G6
 obtain ⟨x8, r8, k8, g8⟩ := k7.add (by unfold maxLen; omega) 14 (by decide) ⟨#[108, 111, 99, 107]⟩
 have G8 := Zb ((G7.out).grown g8 G7.out.size (fun q hq => by cases hq; exact Nat.le_refl _))
 clear g8 k7 G7
 obtain ⟨x9, r9, k9, g9⟩ := k8.add (by unfold maxLen; omega) 15 (by decide) ⟨#[117, 110, 108, 111, 99, 107]⟩
 have G9 := Zb ((G8.out).grown g9 G8.out.size (fun q hq => by cases hq; exact Nat.le_refl _))
 clear g9 k8 G8
 obtain ⟨x10, r10, k10, g10⟩ := k9.add (by unfold maxLen; omega) 16 (by decide) ⟨#[115, 101, 110, 100]⟩
 have G10 := Zb ((G9.out).grown g10 G9.out.size (fun q hq => by cases hq; exact Nat.le_refl _))
 clear g10 k9 G9
 obtain ⟨x11, r11, k11, g11⟩ := k10.add (by unfold maxLen; omega) 17 (by decide) ⟨#[114, 101, 99, 118]⟩
 have G11 := Zb ((G10.out).grown g11 G10.out.size (fun q hq => by cases hq; exact Nat.le_refl _))
 clear g11 k10 G10
 obtain ⟨x12, r12, k12, g12⟩ := k11.add (by unfold maxLen; omega) 18 (by decide) ⟨#[97, 100, 100]⟩
 have G12 := Zb ((G11.out).grown g12 G11.out.size (fun q hq => by cases hq; exact Nat.le_refl _))
 clear g12 k11 G11
 obtain ⟨x13, r13, k13, g13⟩ := k12.add (by unfold maxLen; omega) 19 (by decide) ⟨#[112, 117, 116]⟩
 have G13 := Zb ((G12.out).grown g13 G12.out.size (fun q hq => by cases hq; exact Nat.le_refl _))
 clear g13 k12 G12
 obtain ⟨x14, r14, k14, g14⟩ := k13.add (by unfold maxLen; omega) 20 (by decide) ⟨#[103, 101, 116]⟩
 have G14 := Zb ((G13.out).grown g14 G13.out.size (fun q hq => by cases hq; exact Nat.le_refl _))
 clear g14 k13 G13
 obtain ⟨x15, r15, k15, g15⟩ := k14.add (by unfold maxLen; omega) 21 (by decide) ⟨#[105, 102]⟩
 have G15 := Zb ((G14.out).grown g15 G14.out.size (fun q hq => by cases hq; exact Nat.le_refl _))
 clear g15 k14 G14
 obtain ⟨x16, r16, k16, g16⟩ := k15.add (by unfold maxLen; omega) 22 (by decide) ⟨#[119, 104, 105, 108, 101]⟩
 have G16 := Zb ((G15.out).grown g16 G15.out.size (fun q hq => by cases hq; exact Nat.le_refl _))
 clear g16 k15 G15
 obtain ⟨x17, r17, k17, g17⟩ := k16.add (by unfold maxLen; omega) 23 (by decide) ⟨#[114, 101, 116, 117, 114, 110]⟩
 have G17 := Zb ((G16.out).grown g17 G16.out.size (fun q hq => by cases hq; exact Nat.le_refl _))
 clear g17 k16 G16
 obtain ⟨x18, r18, k18, g18⟩ := k17.add (by unfold maxLen; omega) 24 (by decide) ⟨#[102, 97, 105, 108]⟩
 have G18 := Zb ((G17.out).grown g18 G17.out.size (fun q hq => by cases hq; exact Nat.le_refl _))
 clear g18 k17 G17
 have KK := Zb k18
 clear k18
 go_enter Tryz.func96, Tryz.ntmps96
 go_wp2_with fail
 go_ret
 exact ⟨_, rfl, KK.out, Nat.le_refl _, G18.out⟩
theorem newPage_any (w : World) : Calls Tryz.prog 63 #[] w fun e w' => ∃ g b1 b2, e = .returned (.pointer (some ⟨g, 0, none⟩)) /\ Pg w' w.heap.size g none [] (.map (some b1)) (.map (some b2)) 0 /\ Km w' b1 18 Zz /\ Km w' b2 3 Yf /\ b1 ≠ g /\ b2 ≠ g /\ Below w.heap.size w w' := by
 go_enter Tryz.func63, Tryz.ntmps63
 go_wp2_with fail
 refine (starts_any w).mono ?_
 rintro e w1 ⟨b1, rfl, k1, l1, hb1⟩
 have K1 := Zb (And.intro k1 (And.intro l1 hb1))
 clear k1 l1 hb1
 go_wp2_with fail
 refine (types_any w1).mono ?_
 rintro e w2 ⟨b2, rfl, k2, l2, hb2⟩
 have K2 := Zb (And.intro k2 (And.intro l2 hb2))
 clear k2 l2 hb2
 go_wp2_with fail
 go_ret
 have hb := Zd w2 (.cells #[.pointer none, .slice none 0 0, .map (some b1), .map (some b2), .int .i64 0] 106)
 have h1 := K1.out.1.bel K2.out.2.2
 refine ⟨_, b1, b2, rfl, ⟨⟨_, _, B_ w2 _, .inl rfl, World.ownsRow_nil _ _ _ _, rfl⟩, (Zc K1.out.2.2 K2.out.2.2).size, (Zc (Zc K1.out.2.2 K2.out.2.2) hb).size⟩, h1.bel hb, K2.out.1.bel hb, Nat.ne_of_lt h1.lt, Nat.ne_of_lt K2.out.1.lt, Zc (Zc K1.out.2.2 K2.out.2.2) hb⟩
theorem string_any {w : World} {B g : Nat} {bo : Option Nat} {l : List UInt8} {ms mt : Value} {k : Int} (h : Pg w B g bo l ms mt k) (h0 : l ≠ []) :
 Calls Tryz.prog 65 #[.pointer (some ⟨g, 0, none⟩)] w fun e w' => e = .returned (.string ⟨l.toArray⟩) /\ Below B w w' := by
 obtain ⟨ad, v, hbk, _, hown, _⟩ := h.at_
 have hl0 : l.length ≠ 0 := by simpa using h0
 have hown2 := hown
 obtain ⟨hlen, ⟨_, hz⟩ | ⟨gb, cap, cur, rfl, hbg, hgc, hnc, hcm, hcs, htake⟩⟩ := hown
 · exact absurd hz hl0
 have c1 : w.drew.cell? ⟨g, 1, none⟩ = some (.slice (some ⟨gb, 0, none⟩) l.length cap) := Zf (show w.drew.heap[g]? = _ from hbk) 1 _ rfl
 have hSD : (Builtin.unsafeSliceData_ #[33] 148 #[.slice (some ⟨gb, 0, none⟩) l.length cap]).run Tryz.prog w.drew = .ok (.pointer (some ⟨gb, 0, none⟩)) w.drew :=
  Lib.run_unsafeSliceData_row _ _ _ _ _ _ (by omega)
 have hUS : (Builtin.unsafeString_ #[148, 3] 9 #[.pointer (some ⟨gb, 0, none⟩), .int .i64 l.length]).run Tryz.prog w.drew = .ok (.string ⟨l.toArray⟩) (w.drew.freeze ⟨gb, 0, none⟩ l.length) := by
  refine Lib.run_unsafeString_row w.drew 148 3 9 5 Tryz.underlying148 cells_byte gb cur.size (by have hg' : w.drew.heap[gb]? = some (.cells cur 5 (0, 0)) := hgc; simp [World.shape?, hg']) l h0 (by omega) (by unfold maxLen at hcm; omega) ?_
  intro j x hx
  exact hown2.cells (g := gb) rfl j (.int .u8 x.toNat) (by simp [Lib.byteCells, hx])
 have BF := Zb (Lib.below_freeze (Zm (Below.refl B w)) (p := ⟨gb, 0, none⟩) hbg l.length)
 obtain ⟨n, hn⟩ : ∃ n, l.length = n := ⟨_, rfl⟩
 rw [hn] at c1 hSD hUS BF
 clear hown2 hgc hcs htake hlen hbk h hn hl0
 have hmix := ZI
 go_enter Tryz.func65, Tryz.ntmps65
 go_wp2_with fail
 go_region_o
 all_goals (go_wp2; go_ret; exact ⟨rfl, BF.out⟩)
theorem exprText_any {w : World} (ht : Tb w) (hG : 23 <= w.heap.size) (m : Nat) (n : Nd) (hin : exF m n = true) (hg : RgF m n) (v : Value) (hv : Zq w n v) (h0 : wrF m n ≠ []) (hl : (wrF m n).length <= 140737488355328) :
 Calls Tryz.prog 34 #[v] w fun e w' => e = .returned (.string ⟨(wrF m n).toArray⟩) /\ Below w.heap.size w w' := by
 have hv0 := hv
 obtain ⟨kd, ps, nm, t, nz, z, ob, bi, ks⟩ := n
 unfold Zq at hv
 obtain ⟨s, rfl, hkk⟩ := hv
 obtain ⟨oa, cap, rfl, hsh⟩ := hkk.kid
 obtain ⟨len, hln⟩ : ∃ len, len = ks.length := ⟨_, rfl⟩
 rw [← hln] at hkk hv0 ⊢
 obtain ⟨T, hT⟩ : ∃ T, T = wrF m (.mk kd ps nm t nz z ob bi ks) := ⟨_, rfl⟩
 have hb1 := Zd w (.cells #[.int .i64 kd, .int .i64 ps, .string nm, .int .i64 t, .int .i64 nz, .int .i64 z, .int .i64 ob, .int .u64 bi, .slice oa len cap] 29)
 have RR := Zb (fun w' g' bo' l' ms' mt' k' => pexpr_rule (ht.bel hb1 hG) (Nat.le_trans hG hb1.size) m _ hin hg w' g' bo' l' ms' mt' k' (.agg #[.int .i64 kd, .int .i64 ps, .string nm, .int .i64 t, .int .i64 nz, .int .i64 z, .int .i64 ob, .int .u64 bi, .slice oa len cap]))
 rw [← hT] at h0 hl ⊢
 have HT := Zb hT
 have B0 := Zb hb1
 have HV := Zb (hv0.bel hb1)
 have HZ := Zb (And.intro h0 hl)
 have N0 := Zb (show Nod (w.alloc (.cells #[.int .i64 kd, .int .i64 ps, .string nm, .int .i64 t, .int .i64 nz, .int .i64 z, .int .i64 ob, .int .u64 bi, .slice oa len cap] 29)) w.heap.size (.int .i64 kd) (.int .i64 ps) (.string nm) (.int .i64 t) (.int .i64 nz) (.int .i64 z) (.int .i64 ob) (.int .u64 bi) (.slice oa len cap) from B_ _ _)
 clear ht hin hg hkk hln hsh hv0 hT hb1 h0 hl
 go_enter Tryz.func34, Tryz.ntmps34
 go_wp2_with fail
 generalize w.alloc _ = w1 at *
 refine (newPage_any w1).mono ?_
 rintro e w2 ⟨g, b1, b2, rfl, hp, _, _, _, _, hb2⟩
 have P2 := Zb hp
 have B2 := Zb hb2
 have n2 := N0.out.bel hb2
 obtain ⟨_, v0, v1, v2, v3, v4, v5, v6, v7, v8⟩ := n2.all
 clear hp hb2 n2
 go_wp2_with fail
 refine (RR.out w2 g none [] _ _ 0 P2.out B2.out HV.out (by rw [← HT.out]; simpa using HZ.out.2)).mono ?_
 rintro e w3 ⟨rfl, b3, p3, t3⟩
 rw [← HT.out, List.nil_append] at p3
 have P3 := Zb p3
 have B3 := Zb (B2.out.trans (t3.bel P2.out))
 clear p3 t3 v0 v1 v2 v3 v4 v5 v6 v7 v8
 go_wp2_with fail
 refine (string_any P3.out HZ.out.1).mono ?_
 rintro e w4 ⟨rfl, hb4⟩
 have B4 := Zb (Zc B0.out (B3.out.trans hb4))
 clear hb4
 go_wp2_with fail
 go_ret
 exact ⟨rfl, B4.out⟩
theorem showExpr_any {w : World} {p : List Addr} (he : Ev w p) (ht : Tb w) (m : Nat) (n : Nd) (hm : szN n < m) (hg : RgF m n) (v : Value) (hv : Zq w n v) (h0 : exF m n = true -> wrF m n ≠ []) (hl : (wrF m n).length <= 140737488355328) :
 Calls Tryz.prog 21 #[v] w fun e w' => e = .returned (.tuple #[.string (if exF m n = true then ⟨(wrF m n).toArray⟩ else ⟨#[]⟩), okV p (exF m n)]) /\ Below w.heap.size w w' := by
 have HR := Zb (expr_rule (p := p) m n hm)
 have hG := he.big
 have hv0 := hv
 obtain ⟨kd, ps, nm, t, nz, z, ob, bi, ks⟩ := n
 unfold Zq at hv
 obtain ⟨s, rfl, hkk⟩ := hv
 obtain ⟨oa, cap, rfl, hsh⟩ := hkk.kid
 obtain ⟨len, hln⟩ : ∃ len, len = ks.length := ⟨_, rfl⟩
 rw [← hln] at hkk hv0 ⊢
 have hb1 := Zd w (.cells #[.int .i64 kd, .int .i64 ps, .string nm, .int .i64 t, .int .i64 nz, .int .i64 z, .int .i64 ob, .int .u64 bi, .slice oa len cap] 29)
 have FF := Zb (follows_showexpr (he.bel hb1) _ (.agg #[.int .i64 kd, .int .i64 ps, .string nm, .int .i64 t, .int .i64 nz, .int .i64 z, .int .i64 ob, .int .u64 bi, .slice oa len cap]) (hv0.bel hb1) _ HR.out)
 have N0 := Zb (show Nod (w.alloc (.cells #[.int .i64 kd, .int .i64 ps, .string nm, .int .i64 t, .int .i64 nz, .int .i64 z, .int .i64 ob, .int .u64 bi, .slice oa len cap] 29)) w.heap.size (.int .i64 kd) (.int .i64 ps) (.string nm) (.int .i64 t) (.int .i64 nz) (.int .i64 z) (.int .i64 ob) (.int .u64 bi) (.slice oa len cap) from B_ _ _)
 have B0 := Zb hb1
 have V0 := Zb (hv0.bel hb1)
 have T0 := Zb (ht.bel hb1 hG)
 have Z0 := Zb (And.intro h0 (And.intro hl hg))
 clear he ht hkk hln hsh hv0 hb1 h0 hl hg HR hm
 obtain ⟨ok, hok⟩ : ∃ ok, exF m (.mk kd ps nm t nz z ob bi ks) = ok := ⟨_, rfl⟩
 rw [hok] at FF ⊢
 have HOK := Zb hok
 clear hok
 cases ok with
 | true =>
  rw [if_pos rfl]
  obtain ⟨T, hT⟩ : ∃ T, T = wrF m (.mk kd ps nm t nz z ob bi ks) := ⟨_, rfl⟩
  rw [← hT]
  have HT := Zb hT
  clear hT
  have e0 : okV p true = .nilIface := rfl
  rw [e0] at FF ⊢
  clear e0
  go_enter Tryz.func21, Tryz.ntmps21
  go_wp2_with fail
  generalize w.alloc _ = w1 at *
  refine FF.out.mono ?_
  rintro e w2 ⟨rfl, hb⟩
  have n2 := N0.out.bel hb
  obtain ⟨_, v0, v1, v2, v3, v4, v5, v6, v7, v8⟩ := n2.all
  have TX := Zb (exprText_any (T0.out.bel hb (Nat.le_trans hG B0.out.size)) (Nat.le_trans (Nat.le_trans hG B0.out.size) hb.size) m _ HOK.out Z0.out.2.2 (.agg #[.int .i64 kd, .int .i64 ps, .string nm, .int .i64 t, .int .i64 nz, .int .i64 z, .int .i64 ob, .int .u64 bi, .slice oa len cap]) (V0.out.bel hb) (Z0.out.1 HOK.out) Z0.out.2.1)
  rw [← HT.out] at TX
  have B2 := Zb (Zc B0.out hb)
  clear hb n2 FF
  go_wp2_with fail
  refine TX.out.mono ?_
  rintro e w3 ⟨rfl, hb⟩
  have B3 := Zb (Zc B2.out hb)
  clear hb TX v0 v1 v2 v3 v4 v5 v6 v7 v8
  go_wp2_with fail
  go_ret2
  exact ⟨rfl, B3.out⟩
 | false =>
  rw [if_neg (by decide)]
  have e0 : okV p false = errV p 8 := rfl
  rw [e0] at FF ⊢
  clear e0
  unfold errV at *
  go_enter Tryz.func21, Tryz.ntmps21
  go_wp2_with fail
  generalize w.alloc _ = w1 at *
  refine FF.out.mono ?_
  rintro e w2 ⟨rfl, hb⟩
  have B2 := Zb (Zc B0.out hb)
  clear hb FF
  go_wp2_with fail
  go_ret2
  exact ⟨rfl, B2.out⟩
structure Pm (w : World) (B g : Nat) (bo : Option Nat) (l : List UInt8) (b1 b2 : Nat) (k : Int) : Prop where
 pg : Pg w B g bo l (.map (some b1)) (.map (some b2)) k
 k1 : Km w b1 18 Zz
 k2 : Km w b2 3 Yf
theorem Km.ne {w : World} {b n : Nat} {f : Int -> List UInt8} (h : Km w b n f) {B g : Nat} {bo : Option Nat} {l : List UInt8} {ms mt : Value} {k : Int} (hp : Pg w B g bo l ms mt k) : b ≠ g /\ bo ≠ some b := by
 obtain ⟨D, ⟨es, clock, h1, _⟩, _⟩ := h
 obtain ⟨ad, v, p1, _, p3, p4⟩ := hp.at_
 constructor
 · rintro rfl
   rw [h1] at p1
   cases p1
 · intro e
   obtain ⟨_, h0 | ⟨gb, cap, cur, rfl, hB, hgb, r⟩⟩ := p3
   · rw [h0.1] at p4
     rw [← p4] at e
     cases e
   · rw [← p4] at e
     have e' : gb = b := Option.some.inj e
     rw [e', h1] at hgb
     cases hgb
theorem Pm.bel {w w' : World} {B g : Nat} {bo : Option Nat} {l : List UInt8} {b1 b2 : Nat} {k : Int} (h : Pm w B g bo l b1 b2 k) (hb : Below w.heap.size w w') : Pm w' B g bo l b1 b2 k := ⟨h.pg.bel hb, h.k1.bel hb, h.k2.bel hb⟩
theorem Pm.step {w w' : World} {B g : Nat} {bo bo' : Option Nat} {l l' : List UInt8} {b1 b2 : Nat} {k k' : Int} (h : Pm w B g bo l b1 b2 k) (p : Pg w' B g bo' l' (.map (some b1)) (.map (some b2)) k') (t : Fx g bo w bo' w') : Pm w' B g bo' l' b1 b2 k' :=
 ⟨p, h.k1.fx t (h.k1.ne h.pg).1 (h.k1.ne h.pg).2, h.k2.fx t (h.k2.ne h.pg).1 (h.k2.ne h.pg).2⟩
theorem Pg.cells {w : World} {B g : Nat} {bo : Option Nat} {l : List UInt8} {ms mt : Value} {k : Int} (h : Pg w B g bo l ms mt k) : w.cell? ⟨g, 2, none⟩ = some ms /\ w.cell? ⟨g, 3, none⟩ = some mt /\ w.cell? ⟨g, 4, none⟩ = some (.int .i64 k) /\ w.frozen? ⟨g, 4, none⟩ = false := by
 obtain ⟨ad, v, h1, _⟩ := h.at_
 exact ⟨Zf h1 2 _ rfl, Zf h1 3 _ rfl, Zf h1 4 _ rfl, Zi h1 4⟩
theorem kwf (s : Value) (w : World) : (Instr.field 151 (.agg #[s]) 0).run Tryz.prog w = .ok s w := by kernel_rfl
theorem start_from {w : World} {B g : Nat} {bo : Option Nat} {l : List UInt8} {b1 b2 : Nat} {k : Int} (hp : Pm w B g bo l b1 b2 k) (kd ps : Int) (nm : ByteArray) (t nz z ob bi : Int) (oa : Option Addr) (len cap : Nat) (hw : (Lit.int .i64 kd).wf = true) (ts : List ByteArray) (va : Value)
 (hva : (va = .slice none 0 0 /\ ts = []) ∨ ∃ b c, va = .slice (some ⟨b, 0, none⟩) ts.length c /\ Strs w b ts /\ b < w.heap.size /\ b ≠ g /\ bo ≠ some b) (hn : ts.length <= 100) (hl : l.length + (Zz kd ++ Zv ts).length <= 140737488355328) :
 Calls Tryz.prog 105 #[.pointer (some ⟨g, 0, none⟩), .agg #[.int .i64 kd, .int .i64 ps, .string nm, .int .i64 t, .int .i64 nz, .int .i64 z, .int .i64 ob, .int .u64 bi, .slice oa len cap], va] w fun e w' => e = .returned (.tuple #[]) /\ ∃ bo', Pm w' B g bo' (l ++ (Zz kd ++ Zv ts)) b1 b2 k /\ Fx g bo w bo' w' := by
 obtain ⟨S, hS⟩ : ∃ S, S = Zz kd := ⟨_, rfl⟩
 have HLK := Zb (fun (w' : World) (h : Km w' b1 18 Zz) => h.look kd hw)
 rw [← hS] at hl HLK ⊢
 have hb1 := Zd w (.cells #[.int .i64 kd, .int .i64 ps, .string nm, .int .i64 t, .int .i64 nz, .int .i64 z, .int .i64 ob, .int .u64 bi, .slice oa len cap] 29)
 have Na0 := Zb (show Nod (w.alloc (.cells #[.int .i64 kd, .int .i64 ps, .string nm, .int .i64 t, .int .i64 nz, .int .i64 z, .int .i64 ob, .int .u64 bi, .slice oa len cap] 29)) w.heap.size (.int .i64 kd) (.int .i64 ps) (.string nm) (.int .i64 t) (.int .i64 nz) (.int .i64 z) (.int .i64 ob) (.int .u64 bi) (.slice oa len cap) from B_ _ _)
 have Qa0 := Zb (hp.pg.new (Nat.le_refl w.heap.size))
 have P0 := Zb (hp.bel hb1)
 have F0 := Zb (Fx.of_bel (g := g) (bo := bo) hb1)
 have HL := Zb hl
 have HVA := Zb hva
 have HN := Zb hn
 clear hp hl hb1 hS hva hn hw
 go_enter Tryz.func105, Tryz.ntmps105
 go_wp2_with fail
 generalize w.alloc _ = w1 at *
 refine wp_region_held_drew (S := fun w' => w'.cell? ⟨g, 2, none⟩ = some (.map (some b1)) /\ Nod w' w.heap.size (.int .i64 kd) (.int .i64 ps) (.string nm) (.int .i64 t) (.int .i64 nz) (.int .i64 z) (.int .i64 ob) (.int .u64 bi) (.slice oa len cap) /\ Km w' b1 18 Zz) ZI ⟨P0.out.pg.cells.1, Na0.out, P0.out.k1⟩ (fun hH => ?_)
 have J0 := Zb (show Below w1.heap.size w1 w1.drew from Zm (Below.refl _ _))
 generalize w1.drew = d0 at *
 refine H_ 0 (v := ?_) ?_ hH ?_
 rotate_left 1
 · (intro w _; go_simp <;> with_reducible rfl)
 simp only [Act.put, S_]
 refine H_ 1 (v := ?_) ?_ hH ?_
 rotate_left 1
 · (intro w _; go_simp <;> with_reducible rfl)
 simp only [Act.put, S_]
 refine H_ 2 (v := ?_) ?_ hH ?_
 rotate_left 1
 · (intro w _; go_simp <;> with_reducible rfl)
 simp only [Act.put, S_]
 refine H_ 3 (v := ?_) ?_ hH ?_
 rotate_left 1
 · (intro w _; go_simp <;> with_reducible rfl)
 simp only [Act.put, S_]
 refine H_ 4 (v := ?_) ?_ hH ?_
 rotate_left 1
 · (intro w hSw; have f0 := hSw.1; obtain ⟨_, e0, e1, e2, e3, e4, e5, e6, e7, e8⟩ := hSw.2.1.all; have lk := HLK.out w hSw.2.2; have kf := kwf (.string ⟨S.toArray⟩) w; clear hSw; go_simp <;> with_reducible rfl)
 simp only [Act.put, S_]
 refine H_ 5 (v := ?_) ?_ hH ?_
 rotate_left 1
 · (intro w _; go_simp <;> with_reducible rfl)
 simp only [Act.put, S_]
 refine H_ 6 (v := ?_) ?_ hH ?_
 rotate_left 1
 · (intro w hSw; have f0 := hSw.1; obtain ⟨_, e0, e1, e2, e3, e4, e5, e6, e7, e8⟩ := hSw.2.1.all; have lk := HLK.out w hSw.2.2; have kf := kwf (.string ⟨S.toArray⟩) w; clear hSw; go_simp <;> with_reducible rfl)
 simp only [Act.put, S_]
 refine H_ 7 (v := ?_) ?_ hH ?_
 rotate_left 1
 · (intro w hSw; have f0 := hSw.1; obtain ⟨_, e0, e1, e2, e3, e4, e5, e6, e7, e8⟩ := hSw.2.1.all; have lk := HLK.out w hSw.2.2; have kf := kwf (.string ⟨S.toArray⟩) w; clear hSw; go_simp <;> with_reducible rfl)
 simp only [Act.put, S_]
 refine H_ 8 (v := ?_) ?_ hH ?_
 rotate_left 1
 · (intro w hSw; have f0 := hSw.1; obtain ⟨_, e0, e1, e2, e3, e4, e5, e6, e7, e8⟩ := hSw.2.1.all; have lk := HLK.out w hSw.2.2; have kf := kwf (.string ⟨S.toArray⟩) w; clear hSw; go_simp <;> with_reducible rfl)
 simp only [Act.put, S_]
 refine wpAnyH_ready (rs := [9]) (by kernel_rfl) (by decide) ?_
 refine AllReadyH.cons rfl (fun K1 hK1 => ?_) AllReadyH.nil
 go_simp
 refine hK1.out _ _ ⟨((Zd d0 (.cells #[.string ⟨S.toArray⟩] 9)).cell (World.block_lt_of_cell? d0 _ hH.1)).trans hH.1, hH.2.1.bel (Zd d0 (.cells #[.string ⟨S.toArray⟩] 9)), hH.2.2.bel (Zd d0 (.cells #[.string ⟨S.toArray⟩] 9))⟩ (fun hH2 => ?_)
 clear hK1 K1
 refine wpAnyH_ready (rs := [10]) (by kernel_rfl) (by decide) ?_
 refine AllReadyH.cons rfl (fun K1 hK1 => ?_) AllReadyH.nil
 go_simp
 refine (ZB (P0.out.pg.bel J0.out) _ rfl [⟨S.toArray⟩] 1 (by simp) (by have hz := HL.out; have z0 := lenT1 S; simp only [List.length_append] at hz; omega)).mono ?_
 rintro e y0 ⟨rfl, c0, p0, t0⟩
 have tt := (Fx.of_bel (g := g) (bo := bo) J0.out).trans t0
 have P1 := Zb (P0.out.step p0 tt)
 have F1 := Zb (F0.out.trans tt)
 refine hK1.out _ _ ⟨p0.cells.1, Nod.fx Na0.out tt Qa0.out.1 Qa0.out.2, P1.out.k1⟩ (fun hH3 => ?_)
 clear hK1 K1 p0 t0 hH hH2 hH3
 refine wpAnyH_done (by kernel_rfl) ?_ _
 rcases HVA.out with ⟨rfl, rfl⟩ | ⟨b, cc, rfl, hst, hbl, hbg, hbo⟩
 · have TT := Zb tt
   clear tt HVA
   go_wp2_with fail
   refine (put_nil g).mono ?_
   rintro e y1 ⟨rfl, rfl⟩
   go_wp2_with fail
   go_end0
   exact ⟨rfl, c0, by simpa [Zv] using P1.out, F1.out⟩
 · obtain ⟨nt, hnt⟩ : ∃ nt, nt = ts.length := ⟨_, rfl⟩
   have PP := Zb (put_any P1.out.pg b cc ts (hst.fx F1.out hbg hbo) hbg (F1.out.ne hbl hbo) HN.out (by have hz := HL.out; have z0 := lenT1 S; simp only [List.length_append] at hz ⊢; omega))
   rw [← hnt] at PP ⊢
   clear hst hbl hbg hbo hnt HVA tt
   go_wp2_with fail
   refine PP.out.mono ?_
   rintro e y1 ⟨rfl, c1, p1, t1⟩
   have P2 := Zb (P1.out.step p1 t1)
   have F2 := Zb (F1.out.trans t1)
   clear p1 t1 PP
   go_wp2_with fail
   go_end0
   exact ⟨rfl, c1, by have := P2.out; rw [List.append_assoc] at this; simpa [Zv] using this, F2.out⟩
def Yk (K : Nat) (tx : Nd -> List UInt8) (wB : World) (k : Nat) (n : Nd) : Prop :=
 ∀ (w : World) (g : Nat) (bo : Option Nat) (l : List UInt8) (b1 b2 : Nat) (v : Value), Pm w wB.heap.size g bo l b1 b2 k -> Below wB.heap.size wB w -> Zq wB n v -> l.length + (tx n).length <= 140737488355328 →
  Calls Tryz.prog K #[.pointer (some ⟨g, 0, none⟩), v] w fun e w' => e = .returned (.tuple #[]) /\ ∃ bo', Pm w' wB.heap.size g bo' (l ++ tx n) b1 b2 k /\ Fx g bo w bo' w'
theorem RuleP.toL {K : Nat} {tx : Nd -> List UInt8} {wB : World} {n : Nd} (h : RuleP K tx wB n) (k : Nat) : Yk K tx wB k n := fun w g bo l _ _ v hp hB hv hl =>
 (h w g bo l _ _ k v hp.pg hB hv hl).mono (fun _ _ ⟨e, bo', p, t⟩ => ⟨e, bo', hp.step p t, t⟩)
def tabT (k : Nat) : List UInt8 := Lib.repeatL [9] k
theorem tab_len (k : Nat) : (tabT k).length = k := by
 unfold tabT
 induction k with
 | zero => rfl
 | succ k ih =>
  simp [Lib.repeatL] at ih ⊢
  exact ih
def lsT (tx : Nd -> List UInt8) : List Nd -> List UInt8
 | [] => []
 | a :: r => tx a ++ r.flatMap (fun n => [44, 32] ++ tx n)
theorem lsT_snoc (tx : Nd -> List UInt8) (ks : List Nd) (n : Nd) : lsT tx (ks ++ [n]) = lsT tx ks ++ ((if ks = [] then [] else [44, 32]) ++ tx n) := by
 cases ks with
 | nil => simp [lsT]
 | cons a r => simp [lsT]
theorem lsT_take (tx : Nd -> List UInt8) (ks : List Nd) (j : Nat) : (lsT tx (ks.take j)).length <= (lsT tx ks).length := by
 cases ks with
 | nil => simp [lsT]
 | cons a r =>
  cases j with
  | zero => simp [lsT]
  | succ j =>
   have h := congrArg (fun x => (x.flatMap (fun n => [44, 32] ++ tx n)).length) (List.take_append_drop j r)
   simp only [List.flatMap_append, List.length_append] at h
   simp only [List.take_succ_cons, lsT, List.length_append]
   omega
theorem indent_any {wB w : World} {g : Nat} {bo : Option Nat} {l : List UInt8} {b1 b2 : Nat} {k : Nat} (hp : Pm w wB.heap.size g bo l b1 b2 k) (hl : l.length + (tabT k).length <= 140737488355328) :
 Calls Tryz.prog 180 #[.pointer (some ⟨g, 0, none⟩)] w fun e w' => e = .returned (.tuple #[]) /\ ∃ bo', Pm w' wB.heap.size g bo' (l ++ tabT k) b1 b2 k /\ Fx g bo w bo' w' := by
 have c4 := hp.pg.cells.2.2.1
 have hk := tab_len k
 have HP := Zb hp
 have RP := Zb (rep_any ⟨#[9]⟩ k w (by omega) (by show 1 * k <= _; omega))
 have HL := Zb hl
 clear hp hl hk
 go_enter Tryz.func180, Tryz.ntmps180
 go_wp2_with fail
 refine RP.out.mono ?_
 rintro e w1 ⟨rfl, hb⟩
 have P1 := Zb (HP.out.bel hb)
 have F1 := Zb (Fx.of_bel (g := g) (bo := bo) hb)
 have e1 : (Lib.repeatL (⟨#[9]⟩ : ByteArray).data.toList k) = tabT k := rfl
 rw [e1]
 clear hb c4 e1 RP
 obtain ⟨T, hT⟩ : ∃ T, T = tabT k := ⟨_, rfl⟩
 rw [← hT] at HL ⊢
 have HT := Zb hT
 clear hT
 go_wp2_with fail
 refine (ZB P1.out.pg _ rfl [⟨T.toArray⟩] 1 (by simp) (by have hz := HL.out; have z0 := lenT1 T; omega)).mono ?_
 rintro e w2 ⟨rfl, bo2, p2, t2⟩
 have R := Zb (And.intro (P1.out.step p2 t2) (F1.out.trans t2))
 clear p2 t2
 go_wp2_with fail
 go_end0
 exact ⟨rfl, bo2, by rw [← HT.out]; simpa [Zv] using R.out.1, R.out.2⟩
theorem list_showpageexpr {wB w : World} {g : Nat} {bo : Option Nat} {l : List UInt8} {b1 b2 : Nat} {k : Nat} (hp : Pm w wB.heap.size g bo l b1 b2 k) (hB : Below wB.heap.size wB w) (ks : List Nd) (oa : Option Addr) (len cap : Nat) (hk : Zr wB ks (.slice oa len cap)) (tx : Nd -> List UInt8) (hr : ∀ n ∈ ks, Yk 64 tx wB k n) (hl : l.length + (lsT tx ks).length <= 140737488355328) :
 Calls Tryz.prog 143 #[.pointer (some ⟨g, 0, none⟩), .slice oa len cap, .func (.func 64) #[.pointer (some ⟨g, 0, none⟩)] #[]] w fun e w' => e = .returned (.tuple #[]) /\ ∃ bo', Pm w' wB.heap.size g bo' (l ++ lsT tx ks) b1 b2 k /\ Fx g bo w bo' w' := by
 obtain ⟨oa1, cap1, hs, hkk⟩ := hk.kid
 injection hs with hs1 hs2 hs3
 subst hs1 hs3
 have HP := Zb (And.intro hp hB)
 have HK := Zb hkk
 have HR := Zb hr
 have HLN := Zb hs2
 have HL := Zb hl
 have hlen : len <= 9223372036854775807 := by
  rw [hs2]
  rcases hkk with rfl | ⟨a, _, h1, h2, _⟩
  · simp
  · unfold maxLen at h2
    omega
 clear hp hB hk hkk hr hs2 hl
 go_enter Tryz.func143, Tryz.ntmps143
 go_wp2_with fail
 go_loopw [10] (fun vi wr => ∃ (j : Nat), j <= len /\ vi = .int .i64 j /\ Hid (∃ bo', Pm wr wB.heap.size g bo' (l ++ lsT tx (ks.take j)) b1 b2 k /\ Fx g bo w bo' wr)) (fun vi _ => len - (intOf vi).toNat)
 case atStart => exact ⟨0, Nat.zero_le _, rfl, bo, by simpa [lsT] using HP.out.1, Fx.refl _ _ _⟩
 case round =>
  obtain ⟨j, hj, rfl, I⟩ := hrel
  by_cases hjl : j < len
  · have hj2 : (j : Int) < (len : Int) := by omega
    obtain ⟨a, rfl, hc1, hc2, hkid⟩ : ∃ a, oa = some a /\ ks.length <= cap /\ cap <= maxLen /\ ∀ j n, ks[j]? = some n -> ZD wB a (9 * j) n := by
     rcases HK.out with h | h
     · exfalso
       have := HLN.out
       rw [h] at this
       simp at this
       omega
     · exact h
    obtain ⟨n, hn⟩ : ∃ n, ks[j]? = some n := ⟨_, List.getElem?_eq_getElem (by have := HLN.out; omega)⟩
    have HRN := Zb (HR.out n (List.mem_of_getElem? hn))
    obtain ⟨bo1, m1, t1⟩ := I.out
    have w1 := HP.out.2.trans (t1.bel HP.out.1.pg)
    obtain ⟨T, hT⟩ : ∃ T, T = tx n := ⟨_, rfl⟩
    have hsn : lsT tx (ks.take (j + 1)) = lsT tx (ks.take j) ++ ((if ks.take j = [] then [] else [44, 32]) ++ T) := by rw [YI hn, lsT_snoc, hT]
    have hle := lsT_take tx ks (j + 1)
    rw [hsn] at hle
    have hem : ks.take j = [] ↔ j = 0 := by
     constructor
     · intro h
       rcases List.take_eq_nil_iff.1 h with h | h
       · exact h
       · rw [h] at hn
         simp at hn
     · rintro rfl
       rfl
    obtain ⟨kd', ps', nm', t', nz', z', ob', bi', ks'⟩ := n
    obtain ⟨oa', len', cap', atx, hx⟩ := Yi (hkid j _ hn) w1
    obtain ⟨c0, c1, c2, c3, c4, c5, c6, c7, c8⟩ := atx
    have hb1 := Zd wr (.cells #[.int .i64 kd', .int .i64 ps', .string nm', .int .i64 t', .int .i64 nz', .int .i64 z', .int .i64 ob', .int .u64 bi', .slice oa' len' cap'] 29)
    have Na0 := Zb (show Nod (wr.alloc (.cells #[.int .i64 kd', .int .i64 ps', .string nm', .int .i64 t', .int .i64 nz', .int .i64 z', .int .i64 ob', .int .u64 bi', .slice oa' len' cap'] 29)) wr.heap.size (.int .i64 kd') (.int .i64 ps') (.string nm') (.int .i64 t') (.int .i64 nz') (.int .i64 z') (.int .i64 ob') (.int .u64 bi') (.slice oa' len' cap') from B_ _ _)
    have Qa0 := Zb (m1.pg.new (Nat.le_refl wr.heap.size))
    have M0 := Zb (m1.bel hb1)
    have F0 := Zb (t1.trans (Fx.of_bel hb1))
    have W0 := Zb (w1.trans (hb1.mono m1.pg.big))
    have S1 := Zb (show wr.heap.size + 1 = (wr.alloc (.cells #[.int .i64 kd', .int .i64 ps', .string nm', .int .i64 t', .int .i64 nz', .int .i64 z', .int .i64 ob', .int .u64 bi', .slice oa' len' cap'] 29)).heap.size by simp)
    have HX := Zb hx
    have HT := Zb hT
    have HSN := Zb (And.intro hsn (And.intro hle hem))
    unfold maxLen at hc2
    clear hkid hn hc1 hb1 m1 t1 w1 hx hT hsn hle hem I
    by_cases hj0 : j = 0
    · have e0 := Zb (HSN.out.2.2.2 hj0)
      have hj3 : ¬ (0 : Int) < (j : Int) := by omega
      clear hj0
      go_wp2_with fail
      generalize wr.alloc _ = w1 at *
      refine (HRN.out w1 g bo1 _ b1 b2 _ M0.out W0.out HX.out (by rw [← HT.out]; have hz := HL.out; have h2 := HSN.out.2.1; rw [if_pos e0.out] at h2; simp only [List.length_append, List.length_nil] at h2 ⊢; omega)).mono ?_
      rintro e y0 ⟨rfl, b3, p3, t3⟩
      have R := Zb (show ∃ bo', Pm y0 wB.heap.size g bo' (l ++ lsT tx (ks.take (j + 1))) b1 b2 k /\ Fx g bo w bo' y0 from ⟨b3, by rw [HSN.out.1, if_pos e0.out, List.nil_append, ← List.append_assoc, HT.out]; exact p3, F0.out.trans t3⟩)
      clear p3 t3 c0 c1 c2 c3 c4 c5 c6 c7 c8 M0 F0 W0 Na0 Qa0 e0
      go_wp2_with fail
      go_roundw
      case rel => exact ⟨j + 1, by omega, by go_num, R.out⟩
      case measure =>
       simp [intOf]
       omega
    · have e0 := Zb (fun h => hj0 (HSN.out.2.2.1 h))
      have hj3 : (0 : Int) < (j : Int) := by omega
      clear hj0
      go_wp2_with fail
      generalize wr.alloc _ = w1 at *
      have hlb := Zb (show (l ++ lsT tx (ks.take j)).length + (2 + T.length) <= 140737488355328 by have hz := HL.out; have h2 := HSN.out.2.1; rw [if_neg e0.out] at h2; simp only [List.length_append, List.length_cons, List.length_nil] at h2 ⊢; omega)
      refine (ZB M0.out.pg (wr.heap.size + 1) S1.out [⟨#[44, 32]⟩] 1 (by simp) (by have hz := hlb.out; have z0 := Zw ⟨#[44, 32]⟩; simp only [List.length_cons, List.length_nil] at z0; omega)).mono ?_
      rintro e y0 ⟨rfl, b3, p3, t3⟩
      have M1 := Zb (M0.out.step p3 t3)
      have F1 := Zb (F0.out.trans t3)
      have W1 := Zb (W0.out.trans (t3.bel M0.out.pg))
      have n1 := Nod.fx Na0.out t3 Qa0.out.1 Qa0.out.2
      obtain ⟨_, v0, v1, v2, v3, v4, v5, v6, v7, v8⟩ := n1.all
      clear p3 t3 c0 c1 c2 c3 c4 c5 c6 c7 c8 M0 F0 W0 Na0 Qa0 n1
      go_wp2_with fail
      refine (HRN.out y0 g b3 _ b1 b2 _ M1.out W1.out HX.out (by rw [← HT.out]; have hz := hlb.out; have z0 := Zw ⟨#[44, 32]⟩; simp only [List.length_append, List.length_cons, List.length_nil] at z0 hz ⊢; omega)).mono ?_
      rintro e y1 ⟨rfl, b4, p4, t4⟩
      have R := Zb (show ∃ bo', Pm y1 wB.heap.size g bo' (l ++ lsT tx (ks.take (j + 1))) b1 b2 k /\ Fx g bo w bo' y1 from ⟨b4, by rw [HSN.out.1, if_neg e0.out, HT.out]; simpa [Zv] using p4, F1.out.trans t4⟩)
      clear p4 t4 v0 v1 v2 v3 v4 v5 v6 v7 v8 M1 F1 W1
      go_wp2_with fail
      go_roundw
      case rel => exact ⟨j + 1, by omega, by go_num, R.out⟩
      case measure =>
       simp [intOf]
       omega
  · have hj2 : ¬ (j : Int) < (len : Int) := by omega
    go_wp2_with fail
    go_end0
    have := I.out
    rw [List.take_of_length_le (by have := HLN.out; omega)] at this
    exact ⟨rfl, this⟩
theorem list_showpageparam {wB w : World} {g : Nat} {bo : Option Nat} {l : List UInt8} {b1 b2 : Nat} {k : Nat} (hp : Pm w wB.heap.size g bo l b1 b2 k) (hB : Below wB.heap.size wB w) (ks : List Nd) (oa : Option Addr) (len cap : Nat) (hk : Zr wB ks (.slice oa len cap)) (tx : Nd -> List UInt8) (hr : ∀ n ∈ ks, Yk 144 tx wB k n) (hl : l.length + (lsT tx ks).length <= 140737488355328) :
 Calls Tryz.prog 143 #[.pointer (some ⟨g, 0, none⟩), .slice oa len cap, .func (.func 144) #[.pointer (some ⟨g, 0, none⟩)] #[]] w fun e w' => e = .returned (.tuple #[]) /\ ∃ bo', Pm w' wB.heap.size g bo' (l ++ lsT tx ks) b1 b2 k /\ Fx g bo w bo' w' := by
 obtain ⟨oa1, cap1, hs, hkk⟩ := hk.kid
 injection hs with hs1 hs2 hs3
 subst hs1 hs3
 have HP := Zb (And.intro hp hB)
 have HK := Zb hkk
 have HR := Zb hr
 have HLN := Zb hs2
 have HL := Zb hl
 have hlen : len <= 9223372036854775807 := by
  rw [hs2]
  rcases hkk with rfl | ⟨a, _, h1, h2, _⟩
  · simp
  · unfold maxLen at h2
    omega
 clear hp hB hk hkk hr hs2 hl
 go_enter Tryz.func143, Tryz.ntmps143
 go_wp2_with fail
 go_loopw [10] (fun vi wr => ∃ (j : Nat), j <= len /\ vi = .int .i64 j /\ Hid (∃ bo', Pm wr wB.heap.size g bo' (l ++ lsT tx (ks.take j)) b1 b2 k /\ Fx g bo w bo' wr)) (fun vi _ => len - (intOf vi).toNat)
 case atStart => exact ⟨0, Nat.zero_le _, rfl, bo, by simpa [lsT] using HP.out.1, Fx.refl _ _ _⟩
 case round =>
  obtain ⟨j, hj, rfl, I⟩ := hrel
  by_cases hjl : j < len
  · have hj2 : (j : Int) < (len : Int) := by omega
    obtain ⟨a, rfl, hc1, hc2, hkid⟩ : ∃ a, oa = some a /\ ks.length <= cap /\ cap <= maxLen /\ ∀ j n, ks[j]? = some n -> ZD wB a (9 * j) n := by
     rcases HK.out with h | h
     · exfalso
       have := HLN.out
       rw [h] at this
       simp at this
       omega
     · exact h
    obtain ⟨n, hn⟩ : ∃ n, ks[j]? = some n := ⟨_, List.getElem?_eq_getElem (by have := HLN.out; omega)⟩
    have HRN := Zb (HR.out n (List.mem_of_getElem? hn))
    obtain ⟨bo1, m1, t1⟩ := I.out
    have w1 := HP.out.2.trans (t1.bel HP.out.1.pg)
    obtain ⟨T, hT⟩ : ∃ T, T = tx n := ⟨_, rfl⟩
    have hsn : lsT tx (ks.take (j + 1)) = lsT tx (ks.take j) ++ ((if ks.take j = [] then [] else [44, 32]) ++ T) := by rw [YI hn, lsT_snoc, hT]
    have hle := lsT_take tx ks (j + 1)
    rw [hsn] at hle
    have hem : ks.take j = [] ↔ j = 0 := by
     constructor
     · intro h
       rcases List.take_eq_nil_iff.1 h with h | h
       · exact h
       · rw [h] at hn
         simp at hn
     · rintro rfl
       rfl
    obtain ⟨kd', ps', nm', t', nz', z', ob', bi', ks'⟩ := n
    obtain ⟨oa', len', cap', atx, hx⟩ := Yi (hkid j _ hn) w1
    obtain ⟨c0, c1, c2, c3, c4, c5, c6, c7, c8⟩ := atx
    have hb1 := Zd wr (.cells #[.int .i64 kd', .int .i64 ps', .string nm', .int .i64 t', .int .i64 nz', .int .i64 z', .int .i64 ob', .int .u64 bi', .slice oa' len' cap'] 29)
    have Na0 := Zb (show Nod (wr.alloc (.cells #[.int .i64 kd', .int .i64 ps', .string nm', .int .i64 t', .int .i64 nz', .int .i64 z', .int .i64 ob', .int .u64 bi', .slice oa' len' cap'] 29)) wr.heap.size (.int .i64 kd') (.int .i64 ps') (.string nm') (.int .i64 t') (.int .i64 nz') (.int .i64 z') (.int .i64 ob') (.int .u64 bi') (.slice oa' len' cap') from B_ _ _)
    have Qa0 := Zb (m1.pg.new (Nat.le_refl wr.heap.size))
    have M0 := Zb (m1.bel hb1)
    have F0 := Zb (t1.trans (Fx.of_bel hb1))
    have W0 := Zb (w1.trans (hb1.mono m1.pg.big))
    have S1 := Zb (show wr.heap.size + 1 = (wr.alloc (.cells #[.int .i64 kd', .int .i64 ps', .string nm', .int .i64 t', .int .i64 nz', .int .i64 z', .int .i64 ob', .int .u64 bi', .slice oa' len' cap'] 29)).heap.size by simp)
    have HX := Zb hx
    have HT := Zb hT
    have HSN := Zb (And.intro hsn (And.intro hle hem))
    unfold maxLen at hc2
    clear hkid hn hc1 hb1 m1 t1 w1 hx hT hsn hle hem I
    by_cases hj0 : j = 0
    · have e0 := Zb (HSN.out.2.2.2 hj0)
      have hj3 : ¬ (0 : Int) < (j : Int) := by omega
      clear hj0
      go_wp2_with fail
      generalize wr.alloc _ = w1 at *
      refine (HRN.out w1 g bo1 _ b1 b2 _ M0.out W0.out HX.out (by rw [← HT.out]; have hz := HL.out; have h2 := HSN.out.2.1; rw [if_pos e0.out] at h2; simp only [List.length_append, List.length_nil] at h2 ⊢; omega)).mono ?_
      rintro e y0 ⟨rfl, b3, p3, t3⟩
      have R := Zb (show ∃ bo', Pm y0 wB.heap.size g bo' (l ++ lsT tx (ks.take (j + 1))) b1 b2 k /\ Fx g bo w bo' y0 from ⟨b3, by rw [HSN.out.1, if_pos e0.out, List.nil_append, ← List.append_assoc, HT.out]; exact p3, F0.out.trans t3⟩)
      clear p3 t3 c0 c1 c2 c3 c4 c5 c6 c7 c8 M0 F0 W0 Na0 Qa0 e0
      go_wp2_with fail
      go_roundw
      case rel => exact ⟨j + 1, by omega, by go_num, R.out⟩
      case measure =>
       simp [intOf]
       omega
    · have e0 := Zb (fun h => hj0 (HSN.out.2.2.1 h))
      have hj3 : (0 : Int) < (j : Int) := by omega
      clear hj0
      go_wp2_with fail
      generalize wr.alloc _ = w1 at *
      have hlb := Zb (show (l ++ lsT tx (ks.take j)).length + (2 + T.length) <= 140737488355328 by have hz := HL.out; have h2 := HSN.out.2.1; rw [if_neg e0.out] at h2; simp only [List.length_append, List.length_cons, List.length_nil] at h2 ⊢; omega)
      refine (ZB M0.out.pg (wr.heap.size + 1) S1.out [⟨#[44, 32]⟩] 1 (by simp) (by have hz := hlb.out; have z0 := Zw ⟨#[44, 32]⟩; simp only [List.length_cons, List.length_nil] at z0; omega)).mono ?_
      rintro e y0 ⟨rfl, b3, p3, t3⟩
      have M1 := Zb (M0.out.step p3 t3)
      have F1 := Zb (F0.out.trans t3)
      have W1 := Zb (W0.out.trans (t3.bel M0.out.pg))
      have n1 := Nod.fx Na0.out t3 Qa0.out.1 Qa0.out.2
      obtain ⟨_, v0, v1, v2, v3, v4, v5, v6, v7, v8⟩ := n1.all
      clear p3 t3 c0 c1 c2 c3 c4 c5 c6 c7 c8 M0 F0 W0 Na0 Qa0 n1
      go_wp2_with fail
      refine (HRN.out y0 g b3 _ b1 b2 _ M1.out W1.out HX.out (by rw [← HT.out]; have hz := hlb.out; have z0 := Zw ⟨#[44, 32]⟩; simp only [List.length_append, List.length_cons, List.length_nil] at z0 hz ⊢; omega)).mono ?_
      rintro e y1 ⟨rfl, b4, p4, t4⟩
      have R := Zb (show ∃ bo', Pm y1 wB.heap.size g bo' (l ++ lsT tx (ks.take (j + 1))) b1 b2 k /\ Fx g bo w bo' y1 from ⟨b4, by rw [HSN.out.1, if_neg e0.out, HT.out]; simpa [Zv] using p4, F1.out.trans t4⟩)
      clear p4 t4 v0 v1 v2 v3 v4 v5 v6 v7 v8 M1 F1 W1
      go_wp2_with fail
      go_roundw
      case rel => exact ⟨j + 1, by omega, by go_num, R.out⟩
      case measure =>
       simp [intOf]
       omega
  · have hj2 : ¬ (j : Int) < (len : Int) := by omega
    go_wp2_with fail
    go_end0
    have := I.out
    rw [List.take_of_length_le (by have := HLN.out; omega)] at this
    exact ⟨rfl, this⟩
theorem param_from {wB w : World} {g : Nat} {bo : Option Nat} {l : List UInt8} {b1 b2 : Nat} {k : Nat} (hp : Pm w wB.heap.size g bo l b1 b2 k) (hB : Below wB.heap.size wB w) (kd ps : Int) (nm : ByteArray) (t nz z ob bi : Int) (oa : Option Addr) (len cap : Nat) (hw : (Lit.int .i64 t).wf = true) (hl : l.length + (nm.data.toList ++ (32 :: Yf t)).length <= 140737488355328) :
 Calls Tryz.prog 144 #[.pointer (some ⟨g, 0, none⟩), .agg #[.int .i64 kd, .int .i64 ps, .string nm, .int .i64 t, .int .i64 nz, .int .i64 z, .int .i64 ob, .int .u64 bi, .slice oa len cap]] w fun e w' => e = .returned (.tuple #[]) /\ ∃ bo', Pm w' wB.heap.size g bo' (l ++ (nm.data.toList ++ (32 :: Yf t))) b1 b2 k /\ Fx g bo w bo' w' := by
 obtain ⟨S, hS⟩ : ∃ S, S = Yf t := ⟨_, rfl⟩
 have HLK := Zb (fun (w' : World) (h : Km w' b2 3 Yf) => h.look t hw)
 rw [← hS] at hl HLK ⊢
 have HL := Zb hl
 have hb1 := Zd w (.cells #[.int .i64 kd, .int .i64 ps, .string nm, .int .i64 t, .int .i64 nz, .int .i64 z, .int .i64 ob, .int .u64 bi, .slice oa len cap] 29)
 have Na0 := Zb (show Nod (w.alloc (.cells #[.int .i64 kd, .int .i64 ps, .string nm, .int .i64 t, .int .i64 nz, .int .i64 z, .int .i64 ob, .int .u64 bi, .slice oa len cap] 29)) w.heap.size (.int .i64 kd) (.int .i64 ps) (.string nm) (.int .i64 t) (.int .i64 nz) (.int .i64 z) (.int .i64 ob) (.int .u64 bi) (.slice oa len cap) from B_ _ _)
 have Qa0 := Zb (hp.pg.new (Nat.le_refl w.heap.size))
 have M0 := Zb (hp.bel hb1)
 have F0 := Zb (Fx.of_bel (g := g) (bo := bo) hb1)
 have W0 := Zb (hB.trans (hb1.mono hB.size))
 have S1 := Zb (show w.heap.size + 1 = (w.alloc (.cells #[.int .i64 kd, .int .i64 ps, .string nm, .int .i64 t, .int .i64 nz, .int .i64 z, .int .i64 ob, .int .u64 bi, .slice oa len cap] 29)).heap.size by simp)
 clear hp hB hl hb1 hS hw
 go_enter Tryz.func144, Tryz.ntmps144
 go_wp2_with fail
 generalize w.alloc _ = w1 at *
 refine wp_region_held_drew (S := fun w' => w'.cell? ⟨g, 3, none⟩ = some (.map (some b2)) /\ Nod w' w.heap.size (.int .i64 kd) (.int .i64 ps) (.string nm) (.int .i64 t) (.int .i64 nz) (.int .i64 z) (.int .i64 ob) (.int .u64 bi) (.slice oa len cap) /\ Km w' b2 3 Yf) ZI ⟨M0.out.pg.cells.2.1, Na0.out, M0.out.k2⟩ (fun hH => ?_)
 have J0 := Zb (show Below w1.heap.size w1 w1.drew from Zm (Below.refl _ _))
 generalize w1.drew = d0 at *
 refine H_ 0 (v := ?_) ?_ hH ?_
 rotate_left 1
 · (intro w _; go_simp <;> with_reducible rfl)
 simp only [Act.put, S_]
 refine H_ 1 (v := ?_) ?_ hH ?_
 rotate_left 1
 · (intro w _; go_simp <;> with_reducible rfl)
 simp only [Act.put, S_]
 refine H_ 2 (v := ?_) ?_ hH ?_
 rotate_left 1
 · (intro w hSw; have f0 := hSw.1; obtain ⟨_, e0, e1, e2, e3, e4, e5, e6, e7, e8⟩ := hSw.2.1.all; have lk := HLK.out w hSw.2.2; have kf := kwf (.string ⟨S.toArray⟩) w; clear hSw; go_simp <;> with_reducible rfl)
 simp only [Act.put, S_]
 refine H_ 3 (v := ?_) ?_ hH ?_
 rotate_left 1
 · (intro w _; go_simp <;> with_reducible rfl)
 simp only [Act.put, S_]
 refine H_ 4 (v := ?_) ?_ hH ?_
 rotate_left 1
 · (intro w _; go_simp <;> with_reducible rfl)
 simp only [Act.put, S_]
 refine H_ 5 (v := ?_) ?_ hH ?_
 rotate_left 1
 · (intro w _; go_simp <;> with_reducible rfl)
 simp only [Act.put, S_]
 refine H_ 6 (v := ?_) ?_ hH ?_
 rotate_left 1
 · (intro w hSw; have f0 := hSw.1; obtain ⟨_, e0, e1, e2, e3, e4, e5, e6, e7, e8⟩ := hSw.2.1.all; have lk := HLK.out w hSw.2.2; have kf := kwf (.string ⟨S.toArray⟩) w; clear hSw; go_simp <;> with_reducible rfl)
 simp only [Act.put, S_]
 refine H_ 7 (v := ?_) ?_ hH ?_
 rotate_left 1
 · (intro w _; go_simp <;> with_reducible rfl)
 simp only [Act.put, S_]
 refine H_ 8 (v := ?_) ?_ hH ?_
 rotate_left 1
 · (intro w hSw; have f0 := hSw.1; obtain ⟨_, e0, e1, e2, e3, e4, e5, e6, e7, e8⟩ := hSw.2.1.all; have lk := HLK.out w hSw.2.2; have kf := kwf (.string ⟨S.toArray⟩) w; clear hSw; go_simp <;> with_reducible rfl)
 simp only [Act.put, S_]
 refine H_ 9 (v := ?_) ?_ hH ?_
 rotate_left 1
 · (intro w hSw; have f0 := hSw.1; obtain ⟨_, e0, e1, e2, e3, e4, e5, e6, e7, e8⟩ := hSw.2.1.all; have lk := HLK.out w hSw.2.2; have kf := kwf (.string ⟨S.toArray⟩) w; clear hSw; go_simp <;> with_reducible rfl)
 simp only [Act.put, S_]
 refine H_ 10 (v := ?_) ?_ hH ?_
 rotate_left 1
 · (intro w hSw; have f0 := hSw.1; obtain ⟨_, e0, e1, e2, e3, e4, e5, e6, e7, e8⟩ := hSw.2.1.all; have lk := HLK.out w hSw.2.2; have kf := kwf (.string ⟨S.toArray⟩) w; clear hSw; go_simp <;> with_reducible rfl)
 simp only [Act.put, S_]
 refine wpAnyH_ready (rs := [11]) (by kernel_rfl) (by decide) ?_
 refine AllReadyH.cons rfl (fun K1 hK1 => ?_) AllReadyH.nil
 go_simp
 refine hK1.out _ _ ⟨((Zd d0 (.cells #[.string nm, .string ⟨#[32]⟩, .string ⟨S.toArray⟩] 9)).cell (World.block_lt_of_cell? d0 _ hH.1)).trans hH.1, hH.2.1.bel (Zd d0 (.cells #[.string nm, .string ⟨#[32]⟩, .string ⟨S.toArray⟩] 9)), hH.2.2.bel (Zd d0 (.cells #[.string nm, .string ⟨#[32]⟩, .string ⟨S.toArray⟩] 9))⟩ (fun hH2 => ?_)
 clear hK1 K1
 refine wpAnyH_ready (rs := [12]) (by kernel_rfl) (by decide) ?_
 refine AllReadyH.cons rfl (fun K1 hK1 => ?_) AllReadyH.nil
 go_simp
 refine (ZB (M0.out.pg.bel J0.out) _ rfl [nm, ⟨#[32]⟩, ⟨S.toArray⟩] 3 (by simp) (by have hz := HL.out; have z0 := Yp nm ⟨#[32]⟩ ⟨S.toArray⟩; simp only [List.length_append, List.length_cons, List.length_nil] at hz z0 ⊢; omega)).mono ?_
 rintro e y0 ⟨rfl, c0, p0, t0⟩
 have tt := (Fx.of_bel (g := g) (bo := bo) J0.out).trans t0
 have P1 := Zb (M0.out.step p0 tt)
 have F1 := Zb (F0.out.trans tt)
 refine hK1.out _ _ ⟨p0.cells.2.1, Nod.fx Na0.out tt Qa0.out.1 Qa0.out.2, P1.out.k2⟩ (fun hH3 => ?_)
 clear hK1 K1 p0 t0 hH hH2 hH3 tt
 refine wpAnyH_done (by kernel_rfl) ?_ _
 go_wp2_with fail
 go_end0
 exact ⟨rfl, c0, by simpa [Zv] using P1.out, F1.out⟩
theorem call_from {wB w : World} {g : Nat} {bo : Option Nat} {l : List UInt8} {b1 b2 : Nat} {k : Nat} (hp : Pm w wB.heap.size g bo l b1 b2 k) (hB : Below wB.heap.size wB w) (kd ps : Int) (nm : ByteArray) (t nz z ob bi : Int) (oa : Option Addr) (len cap : Nat) (ks : List Nd) (hk : Zr wB ks (.slice oa len cap)) (tx : Nd -> List UInt8) (hr : ∀ n ∈ ks, Yk 64 tx wB k n) (hl : l.length + (nm.data.toList ++ (40 :: (lsT tx ks ++ [41]))).length <= 140737488355328) :
 Calls Tryz.prog 213 #[.pointer (some ⟨g, 0, none⟩), .agg #[.int .i64 kd, .int .i64 ps, .string nm, .int .i64 t, .int .i64 nz, .int .i64 z, .int .i64 ob, .int .u64 bi, .slice oa len cap]] w fun e w' => e = .returned (.tuple #[]) /\ ∃ bo', Pm w' wB.heap.size g bo' (l ++ (nm.data.toList ++ (40 :: (lsT tx ks ++ [41])))) b1 b2 k /\ Fx g bo w bo' w' := by
 obtain ⟨T, hT⟩ : ∃ T, T = lsT tx ks := ⟨_, rfl⟩
 have LI := Zb (fun (w' : World) (bo' : Option Nat) (l' : List UInt8) hp' hB' hl' => list_showpageexpr (w := w') (g := g) (bo := bo') (l := l') (b1 := b1) (b2 := b2) (k := k) hp' hB' ks oa len cap hk tx hr hl')
 rw [← hT] at hl LI ⊢
 have HL := Zb hl
 have hmf : ∀ (fn : Fn) (first cap : Array Value) (w : World), (Instr.makeFunc fn first cap).run Tryz.prog w = .ok (.func fn first cap) w := fun _ _ _ _ => rfl
 have hb1 := Zd w (.cells #[.int .i64 kd, .int .i64 ps, .string nm, .int .i64 t, .int .i64 nz, .int .i64 z, .int .i64 ob, .int .u64 bi, .slice oa len cap] 29)
 have Na0 := Zb (show Nod (w.alloc (.cells #[.int .i64 kd, .int .i64 ps, .string nm, .int .i64 t, .int .i64 nz, .int .i64 z, .int .i64 ob, .int .u64 bi, .slice oa len cap] 29)) w.heap.size (.int .i64 kd) (.int .i64 ps) (.string nm) (.int .i64 t) (.int .i64 nz) (.int .i64 z) (.int .i64 ob) (.int .u64 bi) (.slice oa len cap) from B_ _ _)
 have Qa0 := Zb (hp.pg.new (Nat.le_refl w.heap.size))
 have M0 := Zb (hp.bel hb1)
 have F0 := Zb (Fx.of_bel (g := g) (bo := bo) hb1)
 have W0 := Zb (hB.trans (hb1.mono hB.size))
 have S1 := Zb (show w.heap.size + 1 = (w.alloc (.cells #[.int .i64 kd, .int .i64 ps, .string nm, .int .i64 t, .int .i64 nz, .int .i64 z, .int .i64 ob, .int .u64 bi, .slice oa len cap] 29)).heap.size by simp)
 clear hp hB hl hb1 hT hk hr
 go_enter Tryz.func213, Tryz.ntmps213
 go_wp2_with fail
 generalize w.alloc _ = w1 at *
 refine (ZB M0.out.pg (w.heap.size + 1) S1.out [nm, ⟨#[40]⟩] 2 (by simp) (by have hz := HL.out; have z0 := Ym nm ⟨#[40]⟩; simp only [List.length_append, List.length_cons, List.length_nil] at *; omega)).mono ?_
 rintro e y0 ⟨rfl, bb0, pp, tt⟩
 have M1 := Zb (M0.out.step pp tt)
 have F1 := Zb (F0.out.trans tt)
 have W1 := Zb (W0.out.trans (tt.bel M0.out.pg))
 have Na1 := Zb (Nod.fx Na0.out tt Qa0.out.1 Qa0.out.2)
 have Qa1 := Zb (And.intro Qa0.out.1 (tt.ne (Ze Na0.out) Qa0.out.2))
 clear pp tt M0 F0 W0 Na0 Qa0 
 obtain ⟨_, va0, va1, va2, va3, va4, va5, va6, va7, va8⟩ := Na1.out.all
 go_wp2_with fail
 refine (LI.out _ _ _ M1.out W1.out (by have hz := HL.out; have z0 := Ym nm ⟨#[40]⟩; simp only [List.length_append, List.length_cons, List.length_nil] at *; omega)).mono ?_
 rintro e y1 ⟨rfl, bb1, pp, tt⟩
 have M2 := Zb (pp)
 have F2 := Zb (F1.out.trans tt)
 have W2 := Zb (W1.out.trans (tt.bel M1.out.pg))
 have Na2 := Zb (Nod.fx Na1.out tt Qa1.out.1 Qa1.out.2)
 have Qa2 := Zb (And.intro Qa1.out.1 (tt.ne (Ze Na1.out) Qa1.out.2))
 clear pp tt M1 F1 W1 Na1 Qa1 va0 va1 va2 va3 va4 va5 va6 va7 va8
 go_wp2_with fail
 refine (ZB M2.out.pg _ rfl [⟨#[41]⟩] 1 (by simp) (by have hz := HL.out; have z0 := Ym nm ⟨#[40]⟩; have z1 := Zw ⟨#[41]⟩; simp only [List.length_append, List.length_cons, List.length_nil] at *; omega)).mono ?_
 rintro e y2 ⟨rfl, bb2, pp, tt⟩
 have M3 := Zb (M2.out.step pp tt)
 have F3 := Zb (F2.out.trans tt)
 have W3 := Zb (W2.out.trans (tt.bel M2.out.pg))
 have Na3 := Zb (Nod.fx Na2.out tt Qa2.out.1 Qa2.out.2)
 have Qa3 := Zb (And.intro Qa2.out.1 (tt.ne (Ze Na2.out) Qa2.out.2))
 clear pp tt M2 F2 W2 Na2 Qa2 
 go_wp2_with fail
 go_end0
 exact ⟨rfl, _, by have hm := M3.out; simpa [Zv] using hm, F3.out⟩
def lnT (st : Nd -> List UInt8) (k : Nat) (n : Nd) : List UInt8 := tabT (k + 1) ++ (st n ++ [10])
def bdT (st : Nd -> List UInt8) (k : Nat) (ks : List Nd) : List UInt8 := [123, 10] ++ (ks.flatMap (lnT st k) ++ (tabT k ++ [125]))
theorem Pm.setk {w : World} {B g : Nat} {bo : Option Nat} {l : List UInt8} {b1 b2 : Nat} {k : Int} (h : Pm w B g bo l b1 b2 k) (k' : Int) : Pm (w.setCell ⟨g, 4, none⟩ (.int .i64 k')) B g bo l b1 b2 k' /\ Fx g bo w bo (w.setCell ⟨g, 4, none⟩ (.int .i64 k')) := by
 obtain ⟨ad, v, h1, h2, h3, h4⟩ := h.pg.at_
 obtain ⟨k3, t3⟩ := Zs h1 4 (.int .i64 k')
 have p : Pg (w.setCell ⟨g, 4, none⟩ (.int .i64 k')) B g bo l (.map (some b1)) (.map (some b2)) k' := ⟨⟨ad, v, k3, h2, own_tn h3 t3 (own_ne h3 h1), h4⟩, h.pg.low, Nat.le_trans h.pg.big t3.size⟩
 exact ⟨h.step p (Fx.of_tn t3), Fx.of_tn t3⟩
theorem fm_snoc (f : Nd -> List UInt8) (ks : List Nd) (n : Nd) : (ks ++ [n]).flatMap f = ks.flatMap f ++ f n := by simp
theorem fm_take (f : Nd -> List UInt8) (ks : List Nd) (j : Nat) : ((ks.take j).flatMap f).length <= (ks.flatMap f).length := by
 have h := congrArg (fun x => (x.flatMap f).length) (List.take_append_drop j ks)
 simp only [List.flatMap_append, List.length_append] at h
 omega
theorem body_from {wB w : World} {g : Nat} {bo : Option Nat} {l : List UInt8} {b1 b2 : Nat} {k : Nat} (hp : Pm w wB.heap.size g bo l b1 b2 k) (hB : Below wB.heap.size wB w) (kd ps : Int) (nm : ByteArray) (t nz z ob bi : Int) (oa : Option Addr) (len cap : Nat) (ks : List Nd) (hk : Zr wB ks (.slice oa len cap)) (st : Nd -> List UInt8) (hr : ∀ n ∈ ks, Yk 181 st wB (k + 1) n) (hl : l.length + (bdT st k ks).length <= 140737488355328) :
    Calls Tryz.prog 145 #[.pointer (some ⟨g, 0, none⟩), .agg #[.int .i64 kd, .int .i64 ps, .string nm, .int .i64 t, .int .i64 nz, .int .i64 z, .int .i64 ob, .int .u64 bi, .slice oa len cap]] w fun e w' => e = .returned (.tuple #[]) /\ ∃ bo', Pm w' wB.heap.size g bo' (l ++ bdT st k ks) b1 b2 k /\ Fx g bo w bo' w' := by
  obtain ⟨oa1, cap1, hs, hkk⟩ := hk.kid
  injection hs with hs1 hs2 hs3
  subst hs1 hs3
  have HK := Zb hkk
  have HR := Zb hr
  have HLN := Zb hs2
  have hlen : len <= 9223372036854775807 := by
    rw [hs2]
    rcases hkk with rfl | ⟨a, _, h1, h2, _⟩
    · simp
    · unfold maxLen at h2
      omega
  have hkl : k <= 140737488355328 := by
    have h1 := tab_len k
    unfold bdT at hl
    simp only [List.length_append] at hl
    omega
  have HL := Zb (show l.length + (2 + ((ks.flatMap (lnT st k)).length + (k + 1))) <= 140737488355328 by
    have h1 := tab_len k
    unfold bdT at hl
    simp only [List.length_append, List.length_cons, List.length_nil] at hl
    omega)
  have hb1 := Zd w (.cells #[.int .i64 kd, .int .i64 ps, .string nm, .int .i64 t, .int .i64 nz, .int .i64 z, .int .i64 ob, .int .u64 bi, .slice oa len cap] 29)
  have Na0 := Zb (show Nod (w.alloc (.cells #[.int .i64 kd, .int .i64 ps, .string nm, .int .i64 t, .int .i64 nz, .int .i64 z, .int .i64 ob, .int .u64 bi, .slice oa len cap] 29)) w.heap.size (.int .i64 kd) (.int .i64 ps) (.string nm) (.int .i64 t) (.int .i64 nz) (.int .i64 z) (.int .i64 ob) (.int .u64 bi) (.slice oa len cap) from B_ _ _)
  have Qa0 := Zb (hp.pg.new (Nat.le_refl w.heap.size))
  have M0 := Zb (hp.bel hb1)
  have F0 := Zb (Fx.of_bel (g := g) (bo := bo) hb1)
  have W0 := Zb (hB.trans (hb1.mono hB.size))
  have S1 := Zb (show w.heap.size + 1 = (w.alloc (.cells #[.int .i64 kd, .int .i64 ps, .string nm, .int .i64 t, .int .i64 nz, .int .i64 z, .int .i64 ob, .int .u64 bi, .slice oa len cap] 29)).heap.size by simp)
  clear hp hB hl hb1 hk hkk hr hs2
  go_enter Tryz.func145, Tryz.ntmps145
  go_wp2_with fail
  generalize w.alloc _ = w1 at *
  refine (ZB M0.out.pg (w.heap.size + 1) S1.out [⟨#[123, 10]⟩] 1 (by simp) (by have hz := HL.out; have z0 := Zw ⟨#[123, 10]⟩; simp only [List.length_cons, List.length_nil] at z0; omega)).mono ?_
  rintro e y0 ⟨rfl, c0, p0, t0⟩
  have m1 := M0.out.step p0 t0
  have W1 := Zb (W0.out.trans (t0.bel M0.out.pg))
  have F1 := Zb (F0.out.trans t0)
  have n1 := Nod.fx Na0.out t0 Qa0.out.1 Qa0.out.2
  have q1 := And.intro Qa0.out.1 (t0.ne (Ze Na0.out) Qa0.out.2)
  obtain ⟨_, _, pc, pf⟩ := m1.pg.cells
  obtain ⟨m2, f2⟩ := m1.setk ((k : Int) + 1)
  have n2 := Nod.fx n1 f2 q1.1 q1.2
  have M2 := Zb (show Pm _ wB.heap.size g c0 (l ++ Zv [⟨#[123, 10]⟩]) b1 b2 ((k + 1 : Nat) : Int) from (by rw [show ((k + 1 : Nat) : Int) = (k : Int) + 1 by omega]; exact m2))
  have F2 := Zb (F1.out.trans f2)
  have W2 := Zb (W1.out.trans (f2.bel m1.pg))
  obtain ⟨_, v0, v1, v2, v3, v4, v5, v6, v7, v8⟩ := n2.all
  clear p0 t0 m1 W1 F1 n1 q1 m2 f2 n2 M0 W0 F0 Na0 Qa0
  go_wp2_with fail
  clear v0 v1 v2 v3 v4 v5 v6 v7 v8 pc pf
  generalize y0.setCell ⟨g, 4, none⟩ (.int .i64 ((k : Int) + 1)) = y1 at *
  go_loopw [19] (fun vi wr => ∃ (j : Nat), j <= len /\ vi = .int .i64 j /\ Hid (∃ bo', Pm wr wB.heap.size g bo' (l ++ Zv [⟨#[123, 10]⟩] ++ (ks.take j).flatMap (lnT st k)) b1 b2 ((k + 1 : Nat) : Int) /\ Fx g bo w bo' wr /\ Below wB.heap.size wB wr)) (fun vi _ => len - (intOf vi).toNat)
  case atStart => exact ⟨0, Nat.zero_le _, rfl, c0, by simpa using M2.out, F2.out, W2.out⟩
  case round =>
    obtain ⟨j, hj, rfl, I⟩ := hrel
    by_cases hjl : j < len
    · have hj2 : (j : Int) < (len : Int) := by omega
      obtain ⟨a, rfl, hc1, hc2, hkid⟩ : ∃ a, oa = some a /\ ks.length <= cap /\ cap <= maxLen /\ ∀ j n, ks[j]? = some n -> ZD wB a (9 * j) n := by
        rcases HK.out with h | h
        · exfalso
          have := HLN.out
          rw [h] at this
          simp at this
          omega
        · exact h
      obtain ⟨n, hn⟩ : ∃ n, ks[j]? = some n := ⟨_, List.getElem?_eq_getElem (by have := HLN.out; omega)⟩
      have HRN := Zb (HR.out n (List.mem_of_getElem? hn))
      obtain ⟨bo1, m1, t1, w1⟩ := I.out
      obtain ⟨T, hT⟩ : ∃ T, T = st n := ⟨_, rfl⟩
      have hsn : (ks.take (j + 1)).flatMap (lnT st k) = (ks.take j).flatMap (lnT st k) ++ (tabT (k + 1) ++ (T ++ [10])) := by rw [YI hn, fm_snoc, hT]; rfl
      have hle := fm_take (lnT st k) ks (j + 1)
      rw [hsn] at hle
      have hlb := Zb (show (l ++ Zv [⟨#[123, 10]⟩] ++ (ks.take j).flatMap (lnT st k)).length + (k + 1 + (T.length + 1)) <= 140737488355328 by
        have hz := HL.out
        have z0 := Zw ⟨#[123, 10]⟩
        have h1 := tab_len (k + 1)
        simp only [List.length_append, List.length_cons, List.length_nil] at hle z0 ⊢
        omega)
      obtain ⟨kd', ps', nm', t', nz', z', ob', bi', ks'⟩ := n
      obtain ⟨oa', len', cap', atx, hx⟩ := Yi (hkid j _ hn) w1
      obtain ⟨c0, c1, c2, c3, c4, c5, c6, c7, c8⟩ := atx
      have hb1 := Zd wr (.cells #[.int .i64 kd', .int .i64 ps', .string nm', .int .i64 t', .int .i64 nz', .int .i64 z', .int .i64 ob', .int .u64 bi', .slice oa' len' cap'] 29)
      have Na0 := Zb (show Nod (wr.alloc (.cells #[.int .i64 kd', .int .i64 ps', .string nm', .int .i64 t', .int .i64 nz', .int .i64 z', .int .i64 ob', .int .u64 bi', .slice oa' len' cap'] 29)) wr.heap.size (.int .i64 kd') (.int .i64 ps') (.string nm') (.int .i64 t') (.int .i64 nz') (.int .i64 z') (.int .i64 ob') (.int .u64 bi') (.slice oa' len' cap') from B_ _ _)
      have Qa0 := Zb (m1.pg.new (Nat.le_refl wr.heap.size))
      have M0 := Zb (m1.bel hb1)
      have F0 := Zb (t1.trans (Fx.of_bel hb1))
      have W0 := Zb (w1.trans (hb1.mono m1.pg.big))
      have HX := Zb hx
      have HT := Zb hT
      have HSN := Zb hsn
      unfold maxLen at hc2
      clear hkid hn hc1 hb1 m1 t1 w1 hx hT hsn hle I
      go_wp2_with fail
      generalize wr.alloc _ = u1 at *
      refine (indent_any M0.out (by have hz := hlb.out; have h1 := tab_len (k + 1); omega)).mono ?_
      rintro e y2 ⟨rfl, b3, p3, t3⟩
      have M1 := Zb p3
      have F1 := Zb (F0.out.trans t3)
      have W1 := Zb (W0.out.trans (t3.bel M0.out.pg))
      have n1 := Nod.fx Na0.out t3 Qa0.out.1 Qa0.out.2
      obtain ⟨_, v0, v1, v2, v3, v4, v5, v6, v7, v8⟩ := n1.all
      clear p3 t3 c0 c1 c2 c3 c4 c5 c6 c7 c8 M0 F0 W0 Na0 Qa0 n1
      go_wp2_with fail
      refine (HRN.out y2 g b3 _ b1 b2 _ M1.out W1.out HX.out (by rw [← HT.out]; have hz := hlb.out; have h1 := tab_len (k + 1); simp only [List.length_append] at hz ⊢; omega)).mono ?_
      rintro e y3 ⟨rfl, b4, p4, t4⟩
      have M2 := Zb p4
      have F2 := Zb (F1.out.trans t4)
      have W2 := Zb (W1.out.trans (t4.bel M1.out.pg))
      clear p4 t4 v0 v1 v2 v3 v4 v5 v6 v7 v8 M1 F1 W1
      go_wp2_with fail
      refine (ZB M2.out.pg _ rfl [⟨#[10]⟩] 1 (by simp) (by rw [← HT.out]; have hz := hlb.out; have h1 := tab_len (k + 1); have z0 := Zw ⟨#[10]⟩; simp only [List.length_append, List.length_cons, List.length_nil] at hz z0 ⊢; omega)).mono ?_
      rintro e y4 ⟨rfl, b5, p5, t5⟩
      have R := Zb (show ∃ bo', Pm y4 wB.heap.size g bo' (l ++ Zv [⟨#[123, 10]⟩] ++ (ks.take (j + 1)).flatMap (lnT st k)) b1 b2 ((k + 1 : Nat) : Int) /\ Fx g bo w bo' y4 /\ Below wB.heap.size wB y4 from ⟨b5, (by rw [HSN.out, HT.out]; have := M2.out.step p5 t5; simpa [Zv] using this), F2.out.trans t5, W2.out.trans (t5.bel M2.out.pg)⟩)
      clear p5 t5 M2 F2 W2
      go_wp2_with fail
      go_roundw
      case rel => exact ⟨j + 1, by omega, by go_num, R.out⟩
      case measure =>
        simp [intOf]
        omega
    · have hj2 : ¬ (j : Int) < (len : Int) := by omega
      obtain ⟨bo1, m1, t1, w1⟩ := I.out
      rw [List.take_of_length_le (by have := HLN.out; omega)] at m1
      obtain ⟨_, _, pc, pf⟩ := m1.pg.cells
      obtain ⟨m2, f2⟩ := m1.setk (k : Int)
      rw [show ((k + 1 : Nat) : Int) = (k : Int) + 1 by omega] at pc
      have M2 := Zb m2
      have F2 := Zb (t1.trans f2)
      clear m1 m2 t1 f2 w1 I
      go_wp2_with fail
      generalize wr.setCell ⟨g, 4, none⟩ (.int .i64 (k : Int)) = y2 at *
      clear pc pf
      refine (indent_any M2.out (by have hz := HL.out; have h1 := tab_len k; have z0 := Zw ⟨#[123, 10]⟩; simp only [List.length_append, List.length_cons, List.length_nil] at z0 ⊢; omega)).mono ?_
      rintro e y3 ⟨rfl, b3, p3, t3⟩
      have M3 := Zb p3
      have F3 := Zb (F2.out.trans t3)
      clear p3 t3 M2 F2
      go_wp2_with fail
      refine (ZB M3.out.pg _ rfl [⟨#[125]⟩] 1 (by simp) (by have hz := HL.out; have h1 := tab_len k; have z0 := Zw ⟨#[123, 10]⟩; have z1 := Zw ⟨#[125]⟩; simp only [List.length_append, List.length_cons, List.length_nil] at z0 z1 ⊢; omega)).mono ?_
      rintro e y4 ⟨rfl, b4, p4, t4⟩
      have R := Zb (And.intro (M3.out.step p4 t4) (F3.out.trans t4))
      clear p4 t4 M3 F3
      go_wp2_with fail
      go_end0
      exact ⟨rfl, b4, by have hm := R.out.1; simpa [Zv, bdT] using hm, R.out.2⟩
theorem ZT {w : World} {B g : Nat} {bo : Option Nat} {l : List UInt8} {b1 b2 : Nat} {k : Int} (hp : Pm w B g bo l b1 b2 k) (kd ps : Int) (nm : ByteArray) (t nz z ob bi : Int) (oa : Option Addr) (len cap : Nat) (hw : (Lit.int .i64 kd).wf = true) (b : Nat) (hb : b = w.heap.size) (ts : List ByteArray) (c : Nat) (hn : ts.length <= 100) (hl : l.length + (Zz kd ++ Zv ts).length <= 140737488355328) :
 Calls Tryz.prog 105 #[.pointer (some ⟨g, 0, none⟩), .agg #[.int .i64 kd, .int .i64 ps, .string nm, .int .i64 t, .int .i64 nz, .int .i64 z, .int .i64 ob, .int .u64 bi, .slice oa len cap], .slice (some ⟨b, 0, none⟩) ts.length c] (w.alloc (.cells (ts.map Value.string).toArray 9)) fun e w' => e = .returned (.tuple #[]) /\ ∃ bo', Pm w' B g bo' (l ++ (Zz kd ++ Zv ts)) b1 b2 k /\ Fx g bo w bo' w' := by
 subst hb
 have hb := Zd w (.cells (ts.map Value.string).toArray 9)
 refine (start_from (hp.bel hb) kd ps nm t nz z ob bi oa len cap hw ts _ (.inr ⟨w.heap.size, c, rfl, fun i s hs => Zf (B_ w _) i _ (by simp [hs]), by simp, (hp.pg.new (Nat.le_refl _)).1, (hp.pg.new (Nat.le_refl _)).2⟩) hn hl).mono ?_
 rintro e w' ⟨rfl, bo', p, t⟩
 exact ⟨rfl, bo', p, (Fx.of_bel hb).trans t⟩
def elseT : List UInt8 := [32, 101, 108, 115, 101, 32]
def brT (ex bd : Nd -> List UInt8) (kd : Int) : List Nd -> List UInt8
 | [e, b] => Zz kd ++ ([32] ++ (ex e ++ ([32] ++ bd b)))
 | [e, b, c] => Zz kd ++ ([32] ++ (ex e ++ ([32] ++ (bd b ++ (elseT ++ bd c)))))
 | _ => []
theorem branch2_from {wB w : World} {g : Nat} {bo : Option Nat} {l : List UInt8} {b1 b2 : Nat} {k : Nat} (hp : Pm w wB.heap.size g bo l b1 b2 k) (hB : Below wB.heap.size wB w) (kd ps : Int) (nm : ByteArray) (t nz z ob bi : Int) (oa : Option Addr) (len cap : Nat) (hw : (Lit.int .i64 kd).wf = true) (ke kb : Nd) (hk : Zr wB [ke, kb] (.slice oa len cap)) (ex bd : Nd -> List UInt8) (hr0 : Yk 64 ex wB k ke) (hr1 : Yk 145 bd wB k kb) (hl : l.length + (Zz kd ++ ([32] ++ (ex ke ++ ([32] ++ bd kb)))).length <= 140737488355328) :
 Calls Tryz.prog 212 #[.pointer (some ⟨g, 0, none⟩), .agg #[.int .i64 kd, .int .i64 ps, .string nm, .int .i64 t, .int .i64 nz, .int .i64 z, .int .i64 ob, .int .u64 bi, .slice oa len cap]] w fun e w' => e = .returned (.tuple #[]) /\ ∃ bo', Pm w' wB.heap.size g bo' (l ++ (Zz kd ++ ([32] ++ (ex ke ++ ([32] ++ bd kb))))) b1 b2 k /\ Fx g bo w bo' w' := by
 obtain ⟨oa1, cap1, hs, hsh⟩ := hk.kid
 injection hs with hs1 hs2 hs3
 subst hs1 hs3
 obtain ⟨a, rfl, hc1, hc2, hkid⟩ : ∃ a, oa = some a /\ ([ke, kb] : List Nd).length <= cap /\ cap <= maxLen /\ ∀ j n, ([ke, kb] : List Nd)[j]? = some n -> ZD wB a (9 * j) n := by
  rcases hsh with h | h
  · cases h
  · exact h
 unfold maxLen at hc2
 have hc1 : 2 <= cap := by simpa using hc1
 have hs2 : len = 2 := by simpa using hs2
 subst hs2
 have kA0 := Zb (hkid 0 _ rfl)
 have kA1 := Zb (hkid 1 _ rfl)
 clear hkid hsh
 obtain ⟨T0, hT0⟩ : ∃ T0, T0 = ex ke := ⟨_, rfl⟩
 obtain ⟨T1, hT1⟩ : ∃ T1, T1 = bd kb := ⟨_, rfl⟩
 have HW := Zb hw
 have HR0 := Zb (fun (w' : World) (g' : Nat) (bo' : Option Nat) (l' : List UInt8) (b1' b2' : Nat) (v' : Value) hp' hB' hv' hl' => hr0 w' g' bo' l' b1' b2' v' hp' hB' hv' (by rw [← hT0]; exact hl'))
 have HR1 := Zb (fun (w' : World) (g' : Nat) (bo' : Option Nat) (l' : List UInt8) (b1' b2' : Nat) (v' : Value) hp' hB' hv' hl' => hr1 w' g' bo' l' b1' b2' v' hp' hB' hv' (by rw [← hT1]; exact hl'))
 rw [← hT0] at hl HR0 ⊢
 rw [← hT1] at hl HR1 ⊢
 obtain ⟨S, hS⟩ : ∃ S, S = Zz kd := ⟨_, rfl⟩
 have HS := Zb hS
 have HL := Zb hl
 have hb1 := Zd w (.cells #[.int .i64 kd, .int .i64 ps, .string nm, .int .i64 t, .int .i64 nz, .int .i64 z, .int .i64 ob, .int .u64 bi, .slice (some a) 2 cap] 29)
 have Na0 := Zb (show Nod (w.alloc (.cells #[.int .i64 kd, .int .i64 ps, .string nm, .int .i64 t, .int .i64 nz, .int .i64 z, .int .i64 ob, .int .u64 bi, .slice (some a) 2 cap] 29)) w.heap.size (.int .i64 kd) (.int .i64 ps) (.string nm) (.int .i64 t) (.int .i64 nz) (.int .i64 z) (.int .i64 ob) (.int .u64 bi) (.slice (some a) 2 cap) from B_ _ _)
 have Qa0 := Zb (hp.pg.new (Nat.le_refl w.heap.size))
 have M0 := Zb (hp.bel hb1)
 have F0 := Zb (Fx.of_bel (g := g) (bo := bo) hb1)
 have W0 := Zb (hB.trans (hb1.mono hB.size))
 have S1 := Zb (show w.heap.size + 1 = (w.alloc (.cells #[.int .i64 kd, .int .i64 ps, .string nm, .int .i64 t, .int .i64 nz, .int .i64 z, .int .i64 ob, .int .u64 bi, .slice (some a) 2 cap] 29)).heap.size by simp)
 clear hp hB hl hb1 hk hr0 hT0 hr1 hT1 hw hS
 go_enter Tryz.func212, Tryz.ntmps212
 go_wp2_with fail
 generalize w.alloc _ = w1 at *
 refine (ZT M0.out kd ps nm t nz z ob bi (some a) 2 cap HW.out (w.heap.size + 1) S1.out [⟨#[32]⟩] 1 (by simp) (by have hz := HL.out; have z0 := Zw ⟨#[32]⟩; simp only [List.length_append, List.length_cons, List.length_nil] at *; omega)).mono ?_
 rintro e y0 ⟨rfl, bb0, pp, tt⟩
 have M1 := Zb (pp)
 have F1 := Zb (F0.out.trans tt)
 have W1 := Zb (W0.out.trans (tt.bel M0.out.pg))
 have Na1 := Zb (Nod.fx Na0.out tt Qa0.out.1 Qa0.out.2)
 have Qa1 := Zb (And.intro Qa0.out.1 (tt.ne (Ze Na0.out) Qa0.out.2))
 clear pp tt M0 F0 W0 Na0 Qa0 
 obtain ⟨kd0, ps0, nm0, t0, nz0, z0, ob0, bi0, ks0⟩ := ke
 obtain ⟨oa0, len0, cap0, at0, hx0⟩ := Yi kA0.out W1.out
 rw [Nat.zero_mul, ZO] at at0
 obtain ⟨c0, c1, c2, c3, c4, c5, c6, c7, c8⟩ := at0
 have HX0 := Zb hx0
 clear hx0
 obtain ⟨_, va0, va1, va2, va3, va4, va5, va6, va7, va8⟩ := Na1.out.all
 go_wp2_with fail
 refine (HR0.out y0 g _ _ b1 b2 _ M1.out W1.out HX0.out (by have hz := HL.out; have z0 := Zw ⟨#[32]⟩; simp only [List.length_append, List.length_cons, List.length_nil] at *; omega)).mono ?_
 rintro e y1 ⟨rfl, bb1, pp, tt⟩
 have M2 := Zb (pp)
 have F2 := Zb (F1.out.trans tt)
 have W2 := Zb (W1.out.trans (tt.bel M1.out.pg))
 have Na2 := Zb (Nod.fx Na1.out tt Qa1.out.1 Qa1.out.2)
 have Qa2 := Zb (And.intro Qa1.out.1 (tt.ne (Ze Na1.out) Qa1.out.2))
 clear pp tt M1 F1 W1 Na1 Qa1 va0 va1 va2 va3 va4 va5 va6 va7 va8 c0 c1 c2 c3 c4 c5 c6 c7 c8 HX0
 obtain ⟨_, va0, va1, va2, va3, va4, va5, va6, va7, va8⟩ := Na2.out.all
 go_wp2_with fail
 refine (ZB M2.out.pg _ rfl [⟨#[32]⟩] 1 (by simp) (by have hz := HL.out; have z0 := Zw ⟨#[32]⟩; have z1 := Zw ⟨#[32]⟩; simp only [List.length_append, List.length_cons, List.length_nil] at *; omega)).mono ?_
 rintro e y2 ⟨rfl, bb2, pp, tt⟩
 have M3 := Zb (M2.out.step pp tt)
 have F3 := Zb (F2.out.trans tt)
 have W3 := Zb (W2.out.trans (tt.bel M2.out.pg))
 have Na3 := Zb (Nod.fx Na2.out tt Qa2.out.1 Qa2.out.2)
 have Qa3 := Zb (And.intro Qa2.out.1 (tt.ne (Ze Na2.out) Qa2.out.2))
 clear pp tt M2 F2 W2 Na2 Qa2 va0 va1 va2 va3 va4 va5 va6 va7 va8
 obtain ⟨kd1, ps1, nm1, t1, nz1, z1, ob1, bi1, ks1⟩ := kb
 obtain ⟨oa1, len1, cap1, at1, hx1⟩ := Yi kA1.out W3.out
 rw [show 1 * 9 = 9 from rfl, add_lit a 9 (by decide)] at at1
 obtain ⟨c0, c1, c2, c3, c4, c5, c6, c7, c8⟩ := at1
 dsimp only at c1 c2 c3 c4 c5 c6 c7 c8
 have HX1 := Zb hx1
 clear hx1
 obtain ⟨_, va0, va1, va2, va3, va4, va5, va6, va7, va8⟩ := Na3.out.all
 go_wp2_with fail
 refine (HR1.out y2 g _ _ b1 b2 _ M3.out W3.out HX1.out (by have hz := HL.out; have z0 := Zw ⟨#[32]⟩; have z1 := Zw ⟨#[32]⟩; simp only [List.length_append, List.length_cons, List.length_nil] at *; omega)).mono ?_
 rintro e y3 ⟨rfl, bb3, pp, tt⟩
 have M4 := Zb (pp)
 have F4 := Zb (F3.out.trans tt)
 have W4 := Zb (W3.out.trans (tt.bel M3.out.pg))
 have Na4 := Zb (Nod.fx Na3.out tt Qa3.out.1 Qa3.out.2)
 have Qa4 := Zb (And.intro Qa3.out.1 (tt.ne (Ze Na3.out) Qa3.out.2))
 clear pp tt M3 F3 W3 Na3 Qa3 va0 va1 va2 va3 va4 va5 va6 va7 va8 c0 c1 c2 c3 c4 c5 c6 c7 c8 HX1
 obtain ⟨_, va0, va1, va2, va3, va4, va5, va6, va7, va8⟩ := Na4.out.all
 go_wp2_with fail
 go_end0
 exact ⟨rfl, _, by have hm := M4.out; simpa [Zv] using hm, F4.out⟩
theorem branch3_from {wB w : World} {g : Nat} {bo : Option Nat} {l : List UInt8} {b1 b2 : Nat} {k : Nat} (hp : Pm w wB.heap.size g bo l b1 b2 k) (hB : Below wB.heap.size wB w) (kd ps : Int) (nm : ByteArray) (t nz z ob bi : Int) (oa : Option Addr) (len cap : Nat) (hw : (Lit.int .i64 kd).wf = true) (ke kb kc : Nd) (hk : Zr wB [ke, kb, kc] (.slice oa len cap)) (ex bd : Nd -> List UInt8) (hr0 : Yk 64 ex wB k ke) (hr1 : Yk 145 bd wB k kb) (hr2 : Yk 145 bd wB k kc) (hl : l.length + (Zz kd ++ ([32] ++ (ex ke ++ ([32] ++ (bd kb ++ (elseT ++ bd kc)))))).length <= 140737488355328) :
 Calls Tryz.prog 212 #[.pointer (some ⟨g, 0, none⟩), .agg #[.int .i64 kd, .int .i64 ps, .string nm, .int .i64 t, .int .i64 nz, .int .i64 z, .int .i64 ob, .int .u64 bi, .slice oa len cap]] w fun e w' => e = .returned (.tuple #[]) /\ ∃ bo', Pm w' wB.heap.size g bo' (l ++ (Zz kd ++ ([32] ++ (ex ke ++ ([32] ++ (bd kb ++ (elseT ++ bd kc))))))) b1 b2 k /\ Fx g bo w bo' w' := by
 obtain ⟨oa1, cap1, hs, hsh⟩ := hk.kid
 injection hs with hs1 hs2 hs3
 subst hs1 hs3
 obtain ⟨a, rfl, hc1, hc2, hkid⟩ : ∃ a, oa = some a /\ ([ke, kb, kc] : List Nd).length <= cap /\ cap <= maxLen /\ ∀ j n, ([ke, kb, kc] : List Nd)[j]? = some n -> ZD wB a (9 * j) n := by
  rcases hsh with h | h
  · cases h
  · exact h
 unfold maxLen at hc2
 have hc1 : 3 <= cap := by simpa using hc1
 have hs2 : len = 3 := by simpa using hs2
 subst hs2
 have kA0 := Zb (hkid 0 _ rfl)
 have kA1 := Zb (hkid 1 _ rfl)
 have kA2 := Zb (hkid 2 _ rfl)
 clear hkid hsh
 obtain ⟨T0, hT0⟩ : ∃ T0, T0 = ex ke := ⟨_, rfl⟩
 obtain ⟨T1, hT1⟩ : ∃ T1, T1 = bd kb := ⟨_, rfl⟩
 obtain ⟨T2, hT2⟩ : ∃ T2, T2 = bd kc := ⟨_, rfl⟩
 have HW := Zb hw
 have HR0 := Zb (fun (w' : World) (g' : Nat) (bo' : Option Nat) (l' : List UInt8) (b1' b2' : Nat) (v' : Value) hp' hB' hv' hl' => hr0 w' g' bo' l' b1' b2' v' hp' hB' hv' (by rw [← hT0]; exact hl'))
 have HR1 := Zb (fun (w' : World) (g' : Nat) (bo' : Option Nat) (l' : List UInt8) (b1' b2' : Nat) (v' : Value) hp' hB' hv' hl' => hr1 w' g' bo' l' b1' b2' v' hp' hB' hv' (by rw [← hT1]; exact hl'))
 have HR2 := Zb (fun (w' : World) (g' : Nat) (bo' : Option Nat) (l' : List UInt8) (b1' b2' : Nat) (v' : Value) hp' hB' hv' hl' => hr2 w' g' bo' l' b1' b2' v' hp' hB' hv' (by rw [← hT2]; exact hl'))
 rw [← hT0] at hl HR0 ⊢
 rw [← hT1] at hl HR1 ⊢
 rw [← hT2] at hl HR2 ⊢
 obtain ⟨S, hS⟩ : ∃ S, S = Zz kd := ⟨_, rfl⟩
 have HS := Zb hS
 have HL := Zb hl
 have hb1 := Zd w (.cells #[.int .i64 kd, .int .i64 ps, .string nm, .int .i64 t, .int .i64 nz, .int .i64 z, .int .i64 ob, .int .u64 bi, .slice (some a) 3 cap] 29)
 have Na0 := Zb (show Nod (w.alloc (.cells #[.int .i64 kd, .int .i64 ps, .string nm, .int .i64 t, .int .i64 nz, .int .i64 z, .int .i64 ob, .int .u64 bi, .slice (some a) 3 cap] 29)) w.heap.size (.int .i64 kd) (.int .i64 ps) (.string nm) (.int .i64 t) (.int .i64 nz) (.int .i64 z) (.int .i64 ob) (.int .u64 bi) (.slice (some a) 3 cap) from B_ _ _)
 have Qa0 := Zb (hp.pg.new (Nat.le_refl w.heap.size))
 have M0 := Zb (hp.bel hb1)
 have F0 := Zb (Fx.of_bel (g := g) (bo := bo) hb1)
 have W0 := Zb (hB.trans (hb1.mono hB.size))
 have S1 := Zb (show w.heap.size + 1 = (w.alloc (.cells #[.int .i64 kd, .int .i64 ps, .string nm, .int .i64 t, .int .i64 nz, .int .i64 z, .int .i64 ob, .int .u64 bi, .slice (some a) 3 cap] 29)).heap.size by simp)
 clear hp hB hl hb1 hk hr0 hT0 hr1 hT1 hr2 hT2 hw hS
 go_enter Tryz.func212, Tryz.ntmps212
 go_wp2_with fail
 generalize w.alloc _ = w1 at *
 refine (ZT M0.out kd ps nm t nz z ob bi (some a) 3 cap HW.out (w.heap.size + 1) S1.out [⟨#[32]⟩] 1 (by simp) (by have hz := HL.out; have z0 := Zw ⟨#[32]⟩; simp only [List.length_append, List.length_cons, List.length_nil] at *; omega)).mono ?_
 rintro e y0 ⟨rfl, bb0, pp, tt⟩
 have M1 := Zb (pp)
 have F1 := Zb (F0.out.trans tt)
 have W1 := Zb (W0.out.trans (tt.bel M0.out.pg))
 have Na1 := Zb (Nod.fx Na0.out tt Qa0.out.1 Qa0.out.2)
 have Qa1 := Zb (And.intro Qa0.out.1 (tt.ne (Ze Na0.out) Qa0.out.2))
 clear pp tt M0 F0 W0 Na0 Qa0 
 obtain ⟨kd0, ps0, nm0, t0, nz0, z0, ob0, bi0, ks0⟩ := ke
 obtain ⟨oa0, len0, cap0, at0, hx0⟩ := Yi kA0.out W1.out
 rw [Nat.zero_mul, ZO] at at0
 obtain ⟨c0, c1, c2, c3, c4, c5, c6, c7, c8⟩ := at0
 have HX0 := Zb hx0
 clear hx0
 obtain ⟨_, va0, va1, va2, va3, va4, va5, va6, va7, va8⟩ := Na1.out.all
 go_wp2_with fail
 refine (HR0.out y0 g _ _ b1 b2 _ M1.out W1.out HX0.out (by have hz := HL.out; have z0 := Zw ⟨#[32]⟩; simp only [List.length_append, List.length_cons, List.length_nil, elseT] at *; omega)).mono ?_
 rintro e y1 ⟨rfl, bb1, pp, tt⟩
 have M2 := Zb (pp)
 have F2 := Zb (F1.out.trans tt)
 have W2 := Zb (W1.out.trans (tt.bel M1.out.pg))
 have Na2 := Zb (Nod.fx Na1.out tt Qa1.out.1 Qa1.out.2)
 have Qa2 := Zb (And.intro Qa1.out.1 (tt.ne (Ze Na1.out) Qa1.out.2))
 clear pp tt M1 F1 W1 Na1 Qa1 va0 va1 va2 va3 va4 va5 va6 va7 va8 c0 c1 c2 c3 c4 c5 c6 c7 c8 HX0
 obtain ⟨_, va0, va1, va2, va3, va4, va5, va6, va7, va8⟩ := Na2.out.all
 go_wp2_with fail
 refine (ZB M2.out.pg _ rfl [⟨#[32]⟩] 1 (by simp) (by have hz := HL.out; have z0 := Zw ⟨#[32]⟩; have z1 := Zw ⟨#[32]⟩; simp only [List.length_append, List.length_cons, List.length_nil, elseT] at *; omega)).mono ?_
 rintro e y2 ⟨rfl, bb2, pp, tt⟩
 have M3 := Zb (M2.out.step pp tt)
 have F3 := Zb (F2.out.trans tt)
 have W3 := Zb (W2.out.trans (tt.bel M2.out.pg))
 have Na3 := Zb (Nod.fx Na2.out tt Qa2.out.1 Qa2.out.2)
 have Qa3 := Zb (And.intro Qa2.out.1 (tt.ne (Ze Na2.out) Qa2.out.2))
 clear pp tt M2 F2 W2 Na2 Qa2 va0 va1 va2 va3 va4 va5 va6 va7 va8
 obtain ⟨kd1, ps1, nm1, t1, nz1, z1, ob1, bi1, ks1⟩ := kb
 obtain ⟨oa1, len1, cap1, at1, hx1⟩ := Yi kA1.out W3.out
 rw [show 1 * 9 = 9 from rfl, add_lit a 9 (by decide)] at at1
 obtain ⟨c0, c1, c2, c3, c4, c5, c6, c7, c8⟩ := at1
 dsimp only at c1 c2 c3 c4 c5 c6 c7 c8
 have HX1 := Zb hx1
 clear hx1
 obtain ⟨_, va0, va1, va2, va3, va4, va5, va6, va7, va8⟩ := Na3.out.all
 go_wp2_with fail
 refine (HR1.out y2 g _ _ b1 b2 _ M3.out W3.out HX1.out (by have hz := HL.out; have z0 := Zw ⟨#[32]⟩; have z1 := Zw ⟨#[32]⟩; simp only [List.length_append, List.length_cons, List.length_nil, elseT] at *; omega)).mono ?_
 rintro e y3 ⟨rfl, bb3, pp, tt⟩
 have M4 := Zb (pp)
 have F4 := Zb (F3.out.trans tt)
 have W4 := Zb (W3.out.trans (tt.bel M3.out.pg))
 have Na4 := Zb (Nod.fx Na3.out tt Qa3.out.1 Qa3.out.2)
 have Qa4 := Zb (And.intro Qa3.out.1 (tt.ne (Ze Na3.out) Qa3.out.2))
 clear pp tt M3 F3 W3 Na3 Qa3 va0 va1 va2 va3 va4 va5 va6 va7 va8 c0 c1 c2 c3 c4 c5 c6 c7 c8 HX1
 obtain ⟨_, va0, va1, va2, va3, va4, va5, va6, va7, va8⟩ := Na4.out.all
 go_wp2_with fail
 refine (ZB M4.out.pg _ rfl [⟨#[32, 101, 108, 115, 101, 32]⟩] 1 (by simp) (by have hz := HL.out; have z0 := Zw ⟨#[32]⟩; have z1 := Zw ⟨#[32]⟩; have z2 := Zw ⟨#[32, 101, 108, 115, 101, 32]⟩; simp only [List.length_append, List.length_cons, List.length_nil, elseT] at *; omega)).mono ?_
 rintro e y4 ⟨rfl, bb4, pp, tt⟩
 have M5 := Zb (M4.out.step pp tt)
 have F5 := Zb (F4.out.trans tt)
 have W5 := Zb (W4.out.trans (tt.bel M4.out.pg))
 have Na5 := Zb (Nod.fx Na4.out tt Qa4.out.1 Qa4.out.2)
 have Qa5 := Zb (And.intro Qa4.out.1 (tt.ne (Ze Na4.out) Qa4.out.2))
 clear pp tt M4 F4 W4 Na4 Qa4 va0 va1 va2 va3 va4 va5 va6 va7 va8
 obtain ⟨kd2, ps2, nm2, t2, nz2, z2, ob2, bi2, ks2⟩ := kc
 obtain ⟨oa2, len2, cap2, at2, hx2⟩ := Yi kA2.out W5.out
 rw [show 2 * 9 = 18 from rfl, add_lit a 18 (by decide)] at at2
 obtain ⟨c0, c1, c2, c3, c4, c5, c6, c7, c8⟩ := at2
 dsimp only at c1 c2 c3 c4 c5 c6 c7 c8
 have HX2 := Zb hx2
 clear hx2
 obtain ⟨_, va0, va1, va2, va3, va4, va5, va6, va7, va8⟩ := Na5.out.all
 go_wp2_with fail
 refine (HR2.out y4 g _ _ b1 b2 _ M5.out W5.out HX2.out (by have hz := HL.out; have z0 := Zw ⟨#[32]⟩; have z1 := Zw ⟨#[32]⟩; have z2 := Zw ⟨#[32, 101, 108, 115, 101, 32]⟩; simp only [List.length_append, List.length_cons, List.length_nil, elseT] at *; omega)).mono ?_
 rintro e y5 ⟨rfl, bb5, pp, tt⟩
 have M6 := Zb (pp)
 have F6 := Zb (F5.out.trans tt)
 have W6 := Zb (W5.out.trans (tt.bel M5.out.pg))
 have Na6 := Zb (Nod.fx Na5.out tt Qa5.out.1 Qa5.out.2)
 have Qa6 := Zb (And.intro Qa5.out.1 (tt.ne (Ze Na5.out) Qa5.out.2))
 clear pp tt M5 F5 W5 Na5 Qa5 va0 va1 va2 va3 va4 va5 va6 va7 va8 c0 c1 c2 c3 c4 c5 c6 c7 c8 HX2
 obtain ⟨_, va0, va1, va2, va3, va4, va5, va6, va7, va8⟩ := Na6.out.all
 go_wp2_with fail
 go_end0
 exact ⟨rfl, _, by have hm := M6.out; simpa [Zv, elseT] using hm, F6.out⟩
end Go.Proofs.YtfnplhfjfolojaaGreatDoor.Ck.Sho
