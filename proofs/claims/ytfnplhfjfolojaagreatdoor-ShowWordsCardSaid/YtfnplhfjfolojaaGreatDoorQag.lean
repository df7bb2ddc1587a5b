/- Texts of this proof, packed: contracts of the program's functions, and the plain model that they are held against. -/
import Derived.Test.YtfnplhfjfolojaaGreatDoorQaf
import Derived.Maps.AppendAt
set_option maxRecDepth 20000
set_option maxHeartbeats 4000000
namespace Go.Proofs.YtfnplhfjfolojaaGreatDoor.Ck
open Go.RowKit
theorem Tn.belB {g B : Nat} {w0 w w' : World} (h : Tn g w0 w) (hb : Below B w w') (hB : w0.heap.size <= B) : Tn g w0 w' :=
 ⟨hb.os.trans h.os, hb.tape.trans h.tape, hb.output.trans h.output, Nat.le_trans h.size hb.size, fun k hk hg => (hb.block k (Nat.lt_of_lt_of_le hk hB)).trans (h.blk k hk hg)⟩
theorem Rowt.belB {w w' : World} {B g : Nat} {ts : List Tk} (h : Rowt w g ts) (hb : Below B w w') (hg : g < B) : Rowt w' g ts := by
 obtain ⟨cur, h1, h2⟩ := h.blk
 refine ⟨⟨cur, (hb.block g hg).trans h1, h2⟩, fun j hj => ?_⟩
 obtain ⟨c0, c1, c2, c3, c4⟩ := h.tok j hj
 exact ⟨(hb.cell (p := ⟨g, _, none⟩) hg).trans c0, (hb.cell (p := ⟨g, _, none⟩) hg).trans c1, (hb.cell (p := ⟨g, _, none⟩) hg).trans c2, (hb.cell (p := ⟨g, _, none⟩) hg).trans c3, (hb.cell (p := ⟨g, _, none⟩) hg).trans c4⟩
theorem Er.belB {w w' : World} {B : Nat} {p : List Addr} (h : Er w p) (hb : Below B w w') (hB : 23 <= B) : Er w' p := by
 obtain ⟨te, pe, hs⟩ := h.cs
 have hc : ∀ {k : Nat} {u : Value}, k < 23 -> w.cell? ⟨k, 0, none⟩ = some u -> w'.cell? ⟨k, 0, none⟩ = some u := fun hk hu => (hb.cell (p := ⟨_, 0, none⟩) (Nat.lt_of_lt_of_le hk hB)).trans hu
 exact ⟨hc (by omega) h.c0, hc (by omega) h.c1, hc (by omega) h.c5, te, pe, hc (by omega) hs⟩
theorem Ps.belB {w w' : World} {B : Nat} {p : List Addr} {g gT : Nat} {L : List Tk} {i l : Nat} (h : Ps w p g gT L i l) (hb : Below B w w') (hg : g < B) (hT : gT < B) : Ps w' p g gT L i l := by
 obtain ⟨cap, h1, h2⟩ := h.blk
 have := h.big
 exact ⟨⟨cap, (hb.block g hg).trans h1, h2⟩, h.row.belB hb hT, h.ne, h.er.belB hb (by omega), (hb.cell (p := ⟨3, 0, none⟩) (show 3 < B by omega)).trans h.ed, h.big, h.lt, h.len⟩
def Row (w : World) (B : Nat) (ks : List Nd) (v : Value) : Prop :=
 (v = .slice none 0 0 /\ ks = []) ∨ ∃ g cap cur, v = .slice (some ⟨g, 0, none⟩) ks.length cap /\ B <= g /\ w.heap[g]? = some (.cells cur 29 (0, 0)) /\ ks.length <= cap /\ cap <= maxLen /\ cur.size = cap * 9 /\ ZW w (Of B g) g 0 ks /\ 0 < ks.length
theorem ZW.lowS {w : World} {S S' : Nat -> Prop} (hS : ∀ k, S k -> S' k) {g : Nat} : ∀ {ks : List Nd} {o : Nat}, ZW w S g o ks -> ZW w S' g o ks
 | [], _, _ => by unfold ZW; trivial
 | n :: ks, o, h => by
  unfold ZW at h ⊢
  exact ⟨h.1.lowS hS, ZW.lowS hS h.2⟩
theorem Row.nil (w : World) (B : Nat) : Row w B [] (.slice none 0 0) := .inl ⟨rfl, rfl⟩
theorem Row.kids {w : World} {B : Nat} {ks : List Nd} {v : Value} (h : Row w B ks v) : Zt w (Fr B) ks v := by
 rcases h with ⟨rfl, rfl⟩ | ⟨g, cap, cur, rfl, hB, hg, h1, h2, h3, h4, h5⟩
 · unfold Zt; rfl
 · cases ks with
   | nil => simp at h5
   | cons n ks =>
    unfold ZW at h4
    unfold Zt
    exact ⟨g, cap, cur, rfl, hB, hg, h1, h2, h3, h4.1.lowS (fun k h => h.1), ZW.lowS (fun k h => h.1) h4.2⟩
theorem Row.len {w : World} {B : Nat} {ks : List Nd} {v : Value} (h : Row w B ks v) : ∃ a c, v = .slice a ks.length c := by
 rcases h with ⟨rfl, rfl⟩ | ⟨g, cap, cur, rfl, _⟩
 · exact ⟨none, 0, rfl⟩
 · exact ⟨_, _, rfl⟩
theorem Row.keep {w w' : World} {B : Nat} {ks : List Nd} {v : Value} (h : Row w B ks v) (hk : ∀ k, B <= k -> k < w.heap.size -> w'.heap[k]? = w.heap[k]?) : Row w' B ks v := by
 rcases h with h0 | ⟨g, cap, cur, hv, hB, hg, h1, h2, h3, h4, h5⟩
 · exact .inl h0
 · have e := hk g hB (Ze hg)
   exact .inr ⟨g, cap, cur, hv, hB, e.trans hg, h1, h2, h3, ZW.keep (fun _ h => h) (fun k hS hl => hk k hS.1 hl) g 0 e ks h4, h5⟩
theorem Row.tn {w w' : World} {B n : Nat} {ks : List Nd} {v : Value} (h : Row w B ks v) (t : Tn n w w') (hn : n < B) : Row w' B ks v := h.keep (fun k h1 h2 => t.blk k h2 (by omega))
theorem Row.bel {w w' : World} {B : Nat} {ks : List Nd} {v : Value} (h : Row w B ks v) (hb : Below w.heap.size w w') : Row w' B ks v := h.keep (fun k _ h2 => hb.block k h2)
theorem Row.base {w : World} {A B : Nat} {ks : List Nd} {v : Value} (h : Row w B ks v) (hA : A <= B) : Row w A ks v := by
 rcases h with h0 | ⟨g, cap, cur, hv, hB, hg, h1, h2, h3, h4, h5⟩
 · exact .inl h0
 · exact .inr ⟨g, cap, cur, hv, Nat.le_trans hA hB, hg, h1, h2, h3, ZW.lowS (fun k h => ⟨Nat.le_trans hA h.1, h.2⟩) h4, h5⟩
theorem Row.own {w : World} {B : Nat} {ks : List Nd} {v : Value} (h : Row w B ks v) : ∀ k, v.ownBlock = some k -> B <= k /\ k < w.heap.size := fun k hk => by
 rcases h with ⟨rfl, _⟩ | ⟨g, cap, cur, rfl, hB, hg, _⟩
 · cases hk
 · cases hk
   exact ⟨hB, Ze hg⟩
theorem nodeAt_of {w w' : World} {g g' : Nat} {o : Nat} (h : ∀ j, j < 9 -> cD w' g' (o + j) = cD w g (o + j)) : Yq w' g' o = Yq w g o := by
 unfold Yq
 rw [h 1 (by omega), h 2 (by omega), h 3 (by omega), h 4 (by omega), h 5 (by omega), h 6 (by omega), h 7 (by omega), h 8 (by omega)]
 have := h 0 (by omega)
 rw [Nat.add_zero] at this
 rw [this]
theorem ZW.move {w w' : World} {S S' : Nat -> Prop} {g g' : Nat} (hS : ∀ k, S k -> k < w.heap.size -> S' k) (hk : ∀ k, S k -> k < w.heap.size -> w'.heap[k]? = w.heap[k]?) : ∀ (ks : List Nd) (o : Nat), (∀ j, j < o + 9 * ks.length -> cD w' g' j = cD w g j) -> ZW w S g o ks -> ZW w' S' g' o ks
 | [], _, _, _ => by unfold ZW; trivial
 | n :: ks, o, hc, h => by
  unfold ZW at h ⊢
  have hl : (n :: ks).length = ks.length + 1 := rfl
  refine ⟨?_, ZW.move hS hk ks (o + 9) (fun j hj => hc j (by omega)) h.2⟩
  rw [nodeAt_of (fun j hj => hc (o + j) (by omega))]
  exact Zj.keep (S := fun k => S k /\ k < w.heap.size) (fun k h => hS k h.1 h.2) (fun k h _ => hk k h.1 h.2) n _ h.1.within
theorem ZW.snoc {w : World} {S : Nat -> Prop} {g : Nat} (n : Nd) : ∀ (ks : List Nd) (o : Nat), ZW w S g o ks -> Zj w S n (Yq w g (o + 9 * ks.length)) -> ZW w S g o (ks ++ [n])
 | [], o, _, h => by
  show ZW w S g o [n]
  unfold ZW
  exact ⟨by simpa using h, by unfold ZW; trivial⟩
 | m :: ks, o, h, hn => by
  unfold ZW at h
  show ZW w S g o (m :: (ks ++ [n]))
  unfold ZW
  refine ⟨h.1, ZW.snoc n ks (o + 9) h.2 ?_⟩
  rw [show o + 9 + 9 * ks.length = o + 9 * (m :: ks).length by rw [List.length_cons]; omega]
  exact hn
theorem Row.push {w : World} {B C b c : Nat} {ks : List Nd} {v : Value} (h : Row w B ks v) (hB : B <= C) (hC : ∀ k, v.ownBlock = some k -> k < C) (hw : C <= w.heap.size) (hl : ks.length <= 5000)
 {kd p : Int} {nm : ByteArray} {t n z o bits_ : Int} {ks' : List Nd} {s : Value} (hk : Zt w (Fr C) ks' s)
 (hb : w.heap[b]? = some (.cells #[.int .i64 kd, .int .i64 p, .string nm, .int .i64 t, .int .i64 n, .int .i64 z, .int .i64 o, .int .u64 bits_, s] 29 (0, 0))) (ty : TypeId) :
 ∃ v' w', (Builtin.append_ #[27, 27] ty #[v, .slice (some ⟨b, 0, none⟩) 1 c]).run Tryz.prog w = .ok v' w' /\ (Row w' B (ks ++ [.mk kd p nm t n z o bits_ ks']) v' /\ Below B w w') := by
 obtain ⟨ie, hi, hz0, hz1, hz2⟩ := info_parts info_nod
 have hn : ∀ j u, ([.int .i64 kd, .int .i64 p, .string nm, .int .i64 t, .int .i64 n, .int .i64 z, .int .i64 o, .int .u64 bits_, s] : List Value)[j]? = some u -> w.cell? ((⟨b, 0, none⟩ : Addr).add j) = some u := fun j u hu => by
  have e2 : (Addr.mk b 0 none).add j = ⟨b, j, none⟩ := by unfold Addr.add; by_cases h : j = 0 <;> simp [h]
  rw [e2]
  exact Zf hb j u (by rw [← hu]; simp)
 have h1 : ∀ u ∈ ([.int .i64 kd, .int .i64 p, .string nm, .int .i64 t, .int .i64 n, .int .i64 z, .int .i64 o, .int .u64 bits_, s] : List Value), u.oneCell' = true := fun u hu => by
  simp at hu
  rcases hu with rfl | rfl | rfl | rfl | rfl | rfl | rfl | rfl | rfl
  all_goals first | rfl | exact hk.one
 obtain ⟨xs, hown⟩ : ∃ xs, w.ownsRow B 29 9 v ks.length xs := by
  rcases h with ⟨rfl, rfl⟩ | ⟨g, cap, cur, rfl, hB, hg, h1, h2, h3, h4, h5⟩
  · exact ⟨[], rfl, .inl ⟨rfl, rfl⟩⟩
  · refine ⟨cur.toList.take (ks.length * 9), ?_, .inr ⟨g, cap, cur, rfl, hB, hg, h1, h2, h3, rfl⟩⟩
    have e : cur.toList.length = cap * 9 := h3
    rw [List.length_take, e]
    have := Nat.mul_le_mul_right 9 h1
    omega
 obtain ⟨v', w', hr, ho, hg, _, hat⟩ := run_append_own_at (P := Tryz.prog) w B 27 ty 29 ie (.agg #[.int .i64 0, .int .i64 0, .string ⟨#[]⟩, .int .i64 0, .int .i64 0, .int .i64 0, .int .i64 0, .int .u64 0, .slice none 0 0]) 9 96 Tryz.underlying27 hi hz0 hz1 hz2 rfl (by decide) v ks.length xs hown ⟨b, 0, none⟩ 1 c _ rfl hn h1 (by unfold maxLen; omega) (by omega) (Nat.le_trans hB hw)
 have hbel : Below B w w' := ⟨hg.os, hg.tape, hg.output, hg.size, fun k hk2 => hg.block k (Nat.lt_of_lt_of_le hk2 (Nat.le_trans hB hw)) (fun e => by have := (h.own k e.symm).1; omega)⟩
 refine ⟨v', w', hr, ?_, hbel⟩
 rcases ho.2 with ⟨_, h0⟩ | ⟨g', cap', cur', hv', hBg', hc', hl1, hl2, hl3, hl4⟩
 · simp at h0
 subst hv'
 have hxl : xs.length = ks.length * 9 := hown.1
 have hcell : ∀ j u, (xs ++ ([.int .i64 kd, .int .i64 p, .string nm, .int .i64 t, .int .i64 n, .int .i64 z, .int .i64 o, .int .u64 bits_, s] : List Value))[j]? = some u -> cD w' g' j = u := fun j u hu => by
  unfold cD
  rw [Zf hc' j u ?_]
  · rfl
  · have hj : j < (ks.length + 1) * 9 := by
     have := (List.getElem?_eq_some_iff.1 hu).1
     rw [List.length_append, hxl] at this
     simp at this
     omega
    rw [← Array.getElem?_toList, ← List.getElem?_take_of_lt hj, hl4]
    exact hu
 have hold : ∀ g, v.ownBlock = some g -> ∀ j, j < ks.length * 9 -> cD w' g' j = cD w g j := fun g hgv j hj => by
  rcases hown.2 with ⟨rfl, h0⟩ | ⟨g2, cap, cur, rfl, hB2, hg2, m1, m2, m3, m4⟩
  · cases hgv
  · cases hgv
    have hx : xs[j]? = some xs[j] := List.getElem?_eq_getElem (by omega)
    have e1 : cD w g2 j = xs[j] := by
     unfold cD
     rw [Zf hg2 j xs[j] ?_]
     · rfl
     · rw [← Array.getElem?_toList, ← List.getElem?_take_of_lt hj, m4]
       exact hx
    rw [e1]
    exact hcell j _ (by rw [List.getElem?_append_left (by omega)]; exact hx)
 have hnew : ∀ j, j < 9 -> ∀ u, ([.int .i64 kd, .int .i64 p, .string nm, .int .i64 t, .int .i64 n, .int .i64 z, .int .i64 o, .int .u64 bits_, s] : List Value)[j]? = some u -> cD w' g' (0 + 9 * ks.length + j) = u := fun j hj u hu => by
  refine hcell _ u ?_
  rw [List.getElem?_append_right (by omega), show 0 + 9 * ks.length + j - xs.length = j by omega]
  exact hu
 have hlen : (ks ++ [Nd.mk kd p nm t n z o bits_ ks']).length = ks.length + 1 := by simp
 have hfresh : ∀ k, k < w.heap.size -> v.ownBlock ≠ some k -> k ≠ g' := fun k hk2 hne e => by
  subst e
  rcases hat with h2 | h2
  · exact hne (h2.symm.trans rfl)
  · have : some k = some w.heap.size := h2
    cases this
    omega
 have hsame : ∀ k, k < w.heap.size -> v.ownBlock ≠ some k -> w'.heap[k]? = w.heap[k]? := fun k hk2 hne => hg.block k hk2 (fun e => hne e.symm)
 refine .inr ⟨g', cap', cur', by rw [hlen], hBg', hc', by rw [hlen]; exact hl1, hl2, hl3, ?_, by rw [hlen]; omega⟩
 refine ZW.snoc _ ks 0 ?_ ?_
 · rcases h with ⟨rfl, rfl⟩ | ⟨g, cap, cur, rfl, hB2, hg2, m1, m2, m3, m4, m5⟩
   · unfold ZW; trivial
   · have hgv : ∀ k, k ≠ g -> Value.ownBlock (.slice (some ⟨g, 0, none⟩) ks.length cap) ≠ some k := fun k hk2 e => by
      have : some g = some k := e
      cases this
      exact hk2 rfl
     exact ZW.move (fun k hS hl3 => ⟨hS.1, hfresh k hl3 (hgv k hS.2)⟩) (fun k hS hl3 => hsame k hl3 (hgv k hS.2)) ks 0 (fun j hj => hold g rfl j (by omega)) m4
 · have hgC : ∀ k, C <= k -> v.ownBlock ≠ some k := fun k hk2 e => by have := hC k e; omega
   unfold Zj
   refine ⟨s, ?_, Zt.keep (S := fun k => Fr C k /\ k < w.heap.size) (fun k h => ⟨Nat.le_trans hB h.1, hfresh k h.2 (hgC k h.1)⟩) (fun k h _ => hsame k h.2 (hgC k h.1)) ks' s hk.within⟩
   unfold Yq
   have e0 := hnew 0 (by omega) _ rfl
   rw [Nat.add_zero] at e0
   rw [e0, hnew 1 (by omega) _ rfl, hnew 2 (by omega) _ rfl, hnew 3 (by omega) _ rfl, hnew 4 (by omega) _ rfl, hnew 5 (by omega) _ rfl, hnew 6 (by omega) _ rfl, hnew 7 (by omega) _ rfl, hnew 8 (by omega) _ rfl]
inductive OutL where
 | ok (ns : List Nd) (j : Nat)
 | bad (k j : Nat)
def PostR (p : List Addr) (g gT : Nat) (L : List Tk) (l : Nat) (w : World) (e : Ending) (w' : World) : OutL -> Prop
 | .ok ns j => ∃ s, e = .returned s /\ Row w' w.heap.size ns s /\ Ps w' p g gT L j l /\ Tn g w w'
 | .bad k j => e = stop (errV p k) (Zk L j).pos /\ Tn g w w'
def Yk (K : Nat) (p : List Addr) (g gT : Nat) (L : List Tk) (l i : Nat) (o : OutL) : Prop :=
 ∀ w, Ps w p g gT L i l -> Calls Tryz.prog K #[.pointer (some ⟨g, 0, none⟩)] w fun e w' => PostR p g gT L l w e w' o
theorem Row.one {w : World} {B : Nat} (hB : B <= w.heap.size) {kd p : Int} {nm : ByteArray} {t n z o bits_ : Int} {ks : List Nd} {s : Value} (hk : Zt w (Fr B) ks s) :
 Row (w.alloc (.cells #[.int .i64 kd, .int .i64 p, .string nm, .int .i64 t, .int .i64 n, .int .i64 z, .int .i64 o, .int .u64 bits_, s] 29)) B [.mk kd p nm t n z o bits_ ks] (.slice (some ⟨w.heap.size, 0, none⟩) 1 1) := by
 have hb := Zd w (.cells #[.int .i64 kd, .int .i64 p, .string nm, .int .i64 t, .int .i64 n, .int .i64 z, .int .i64 o, .int .u64 bits_, s] 29)
 have hx : (w.alloc (.cells #[.int .i64 kd, .int .i64 p, .string nm, .int .i64 t, .int .i64 n, .int .i64 z, .int .i64 o, .int .u64 bits_, s] 29)).heap[w.heap.size]? = some (.cells #[.int .i64 kd, .int .i64 p, .string nm, .int .i64 t, .int .i64 n, .int .i64 z, .int .i64 o, .int .u64 bits_, s] 29 (0, 0)) := B_ _ _
 refine .inr ⟨w.heap.size, 1, _, rfl, hB, hx, Nat.le_refl _, by unfold maxLen; omega, rfl, ?_, by simp⟩
 unfold ZW
 refine ⟨?_, by unfold ZW; trivial⟩
 unfold Zj
 refine ⟨s, ?_, Zt.keep (S := fun k => Fr B k /\ k < w.heap.size) (fun k h => ⟨h.1, Nat.ne_of_lt h.2⟩) (fun k h _ => hb.block k h.2) ks s hk.within⟩
 unfold Yq cD
 rw [Zf hx 0 _ rfl, Zf hx (0 + 1) _ rfl, Zf hx (0 + 2) _ rfl, Zf hx (0 + 3) _ rfl, Zf hx (0 + 4) _ rfl, Zf hx (0 + 5) _ rfl, Zf hx (0 + 6) _ rfl, Zf hx (0 + 7) _ rfl, Zf hx (0 + 8) _ rfl]
 rfl
def Ot (B z n k : Nat) : Prop := B <= k /\ k ≠ z /\ k ≠ n
structure Sn (w wr : World) (p : List Addr) (g gT : Nat) (L : List Tk) (i l z n : Nat) (kd ps : Int) (nm : ByteArray) (t nz : Int) (a : Option Addr) (len ck : Nat) (ks : List Nd) : Prop where
 pr : Ps wr p g gT L i l
 tn : Tn g w wr
 zr : Nod wr z (.int .i64 0) (.int .i64 0) (.string ⟨#[]⟩) (.int .i64 0) (.int .i64 0) (.int .i64 0) (.int .i64 0) (.int .u64 0) (.slice none 0 0)
 vr : Nod wr n (.int .i64 kd) (.int .i64 ps) (.string nm) (.int .i64 t) (.int .i64 nz) (.int .i64 0) (.int .i64 0) (.int .u64 0) (.slice a len ck)
 kv : Zt wr (Ot w.heap.size z n) ks (.slice a len ck)
 ng : g < w.heap.size
 nT : gT < w.heap.size
 nn : w.heap.size <= n
 nz' : w.heap.size <= z
 ne : z ≠ n
section
variable {w wr w' : World} {p : List Addr} {g gT : Nat} {L : List Tk} {i l z n : Nat} {kd ps : Int} {nm : ByteArray} {t nz : Int} {a : Option Addr} {len ck : Nat} {ks : List Nd}
theorem Sn.call {j l' : Nat} (h : Sn w wr p g gT L i l z n kd ps nm t nz a len ck ks) (r1 : Ps w' p g gT L j l') (r2 : Tn g wr w') : Sn w w' p g gT L j l' z n kd ps nm t nz a len ck ks := by
 have h1 := h.ng
 have h2 := h.nn
 have h3 := h.nz'
 exact ⟨r1, h.tn.trans r2, h.zr.tn r2 (by omega), h.vr.tn r2 (by omega), h.kv.tnS r2 (fun e => by have := e.1; omega), h.ng, h.nT, h.nn, h.nz', h.ne⟩
theorem Sn.bel (h : Sn w wr p g gT L i l z n kd ps nm t nz a len ck ks) (hb : Below wr.heap.size wr w') : Sn w w' p g gT L i l z n kd ps nm t nz a len ck ks :=
 h.call (h.pr.below hb) (Tn.of_bel hb)
theorem Sn.drew (h : Sn w wr p g gT L i l z n kd ps nm t nz a len ck ks) : Sn w wr.drew p g gT L i l z n kd ps nm t nz a len ck ks := h.bel (Zm (Below.refl _ _))
theorem Sn.own (h : Sn w wr p g gT L i l z n kd ps nm t nz a len ck ks) (r2 : Tn n wr w') : Ps w' p g gT L i l /\ Tn g w w' /\ Nod w' z (.int .i64 0) (.int .i64 0) (.string ⟨#[]⟩) (.int .i64 0) (.int .i64 0) (.int .i64 0) (.int .i64 0) (.int .u64 0) (.slice none 0 0) /\ Zt w' (Ot w.heap.size z n) ks (.slice a len ck) := by
 have h1 := h.ng
 have h2 := h.nT
 have h3 := h.nn
 have h4 := h.pr.big
 exact ⟨h.pr.tn r2 (by omega) (by omega) (by omega), h.tn.own r2 (by omega), h.zr.tn r2 h.ne, h.kv.tnS r2 (fun e => e.2.2 rfl)⟩
theorem Sn.setK (h : Sn w wr p g gT L i l z n kd ps nm t nz a len ck ks) (y : Int) : Sn w (wr.setCell ⟨n, 0, none⟩ (.int .i64 y)) p g gT L i l z n y ps nm t nz a len ck ks := by
 obtain ⟨x, s⟩ := Zs h.vr 0 (.int .i64 y)
 obtain ⟨k1, k2, k3, k4⟩ := h.own s
 exact ⟨k1, k2, k3, x, k4, h.ng, h.nT, h.nn, h.nz', h.ne⟩
theorem Sn.setName (h : Sn w wr p g gT L i l z n kd ps nm t nz a len ck ks) (y : ByteArray) : Sn w (wr.setCell ⟨n, 2, none⟩ (.string y)) p g gT L i l z n kd ps y t nz a len ck ks := by
 obtain ⟨x, s⟩ := Zs h.vr 2 (.string y)
 obtain ⟨k1, k2, k3, k4⟩ := h.own s
 exact ⟨k1, k2, k3, x, k4, h.ng, h.nT, h.nn, h.nz', h.ne⟩
theorem Sn.setT (h : Sn w wr p g gT L i l z n kd ps nm t nz a len ck ks) (y : Int) : Sn w (wr.setCell ⟨n, 3, none⟩ (.int .i64 y)) p g gT L i l z n kd ps nm y nz a len ck ks := by
 obtain ⟨x, s⟩ := Zs h.vr 3 (.int .i64 y)
 obtain ⟨k1, k2, k3, k4⟩ := h.own s
 exact ⟨k1, k2, k3, x, k4, h.ng, h.nT, h.nn, h.nz', h.ne⟩
theorem Sn.setN (h : Sn w wr p g gT L i l z n kd ps nm t nz a len ck ks) (y : Int) : Sn w (wr.setCell ⟨n, 4, none⟩ (.int .i64 y)) p g gT L i l z n kd ps nm t y a len ck ks := by
 obtain ⟨x, s⟩ := Zs h.vr 4 (.int .i64 y)
 obtain ⟨k1, k2, k3, k4⟩ := h.own s
 exact ⟨k1, k2, k3, x, k4, h.ng, h.nT, h.nn, h.nz', h.ne⟩
theorem Sn.setKids {a' : Option Addr} {len' ck' : Nat} {ks' : List Nd} (h : Sn w wr p g gT L i l z n kd ps nm t nz a len ck ks) {C : Nat} (hz : z < C) (hn : n < C) (hk : Zt wr (Fr C) ks' (.slice a' len' ck')) : Sn w (wr.setCell ⟨n, 8, none⟩ (.slice a' len' ck')) p g gT L i l z n kd ps nm t nz a' len' ck' ks' := by
 obtain ⟨x, s⟩ := Zs h.vr 8 (.slice a' len' ck')
 obtain ⟨k1, k2, k3, k4⟩ := h.own s
 have h3 := h.nn
 exact ⟨k1, k2, k3, x, (hk.lowS (fun k hk => show Ot w.heap.size z n k from ⟨by have : C <= k := hk; omega, by have : C <= k := hk; omega, by have : C <= k := hk; omega⟩)).tnS s (fun e => e.2.2 rfl), h.ng, h.nT, h.nn, h.nz', h.ne⟩
theorem Sn.lt (h : Sn w wr p g gT L i l z n kd ps nm t nz a len ck ks) : n < wr.heap.size := Ze h.vr
theorem Sn.ltz (h : Sn w wr p g gT L i l z n kd ps nm t nz a len ck ks) : z < wr.heap.size := Ze h.zr
theorem Sn.done (h : Sn w wr p g gT L i l z n kd ps nm t nz a len ck ks) :
 ∃ w9, w9 = (((((((((wr.setCell ⟨z, 0, none⟩ (.int .i64 kd)).setCell ⟨z, 1, none⟩ (.int .i64 ps)).setCell ⟨z, 2, none⟩ (.string nm)).setCell ⟨z, 3, none⟩ (.int .i64 t)).setCell ⟨z, 4, none⟩ (.int .i64 nz)).setCell ⟨z, 5, none⟩ (.int .i64 0)).setCell ⟨z, 6, none⟩ (.int .i64 0)).setCell ⟨z, 7, none⟩ (.int .u64 0)).setCell ⟨z, 8, none⟩ (.slice a len ck)) ∧
  Nod w9 z (.int .i64 kd) (.int .i64 ps) (.string nm) (.int .i64 t) (.int .i64 nz) (.int .i64 0) (.int .i64 0) (.int .u64 0) (.slice a len ck) ∧
  Zj w9 (Fr w.heap.size) (.mk kd ps nm t nz 0 0 0 ks) (.agg #[.int .i64 kd, .int .i64 ps, .string nm, .int .i64 t, .int .i64 nz, .int .i64 0, .int .i64 0, .int .u64 0, .slice a len ck]) /\ Ps w9 p g gT L i l /\ Tn g w w9 := by
 obtain ⟨z9, s9⟩ := Zy h.zr (.int .i64 kd) (.int .i64 ps) (.string nm) (.int .i64 t) (.int .i64 nz) (.int .i64 0) (.int .i64 0) (.int .u64 0) (.slice a len ck)
 have h1 := h.ng
 have h2 := h.nT
 have h3 := h.pr.big
 have h4 := h.nz'
 refine ⟨_, rfl, z9, ?_, h.pr.tn s9 (by omega) (by omega) (by omega), h.tn.own s9 h4⟩
 unfold Zj
 exact ⟨_, rfl, (h.kv.tnS s9 (fun e => e.2.1 rfl)).lowS (fun k hk => hk.1)⟩
end
inductive OutI where
 | ok (z : Int) (j : Nat)
 | bad (k j : Nat)
def YL : ByteArray := ⟨#[59]⟩
def bComma : ByteArray := ⟨#[44]⟩
def bInt : ByteArray := ⟨#[105, 110, 116]⟩
def bFloat : ByteArray := ⟨#[102, 108, 111, 97, 116]⟩
def bBool : ByteArray := ⟨#[98, 111, 111, 108]⟩
def bFunc : ByteArray := ⟨#[102, 117, 110, 99]⟩
def bCur : ByteArray := ⟨#[123]⟩
def bCue : ByteArray := ⟨#[125]⟩
def bElse : ByteArray := ⟨#[101, 108, 115, 101]⟩
def bLet : ByteArray := ⟨#[58, 61]⟩
def bSet : ByteArray := ⟨#[61]⟩
def YA (L : List Tk) (i : Nat) : OutI :=
 if has L i [bInt] = true then .ok 1 (i + 1) else if has L i [bFloat] = true then .ok 2 (i + 1) else if has L i [bBool] = true then .ok 3 (i + 1) else .bad 1 i
def boundO (L : List Tk) (i : Nat) : OutI :=
 if has L i [bOpn] = true then if (Zk L (i + 1)).kind = 3 then if has L (i + 1 + 1) [bSht] = true then .ok (Zk L (i + 1)).n (i + 1 + 1 + 1) else .bad 1 (i + 1 + 1) else .bad 1 (i + 1) else .bad 1 i
def ZX (L : List Tk) (j : Nat) (n : Nd) : Out := if has L j [YL] = true then .ok n (j + 1) else .bad 1 j
def Ye (L : List Tk) (i : Nat) : Out :=
 if (Zk L (i + 1)).kind = 1 then
  if has L (i + 1 + 1) [bOpn] = true then
   match boundO L (i + 1 + 1) with
   | .ok z j => match YA L j with | .ok t j => ZX L j (.mk 3 (Zk L i).pos (tx L (i + 1)) t z 0 0 0 []) | .bad k j => .bad k j
   | .bad k j => .bad k j
  else match YA L (i + 1 + 1) with | .ok t j => ZX L j (.mk 2 (Zk L i).pos (tx L (i + 1)) t 0 0 0 0 []) | .bad k j => .bad k j
 else .bad 1 (i + 1)
def YD (L : List Tk) (i : Nat) : Out :=
 if (Zk L (i + 1)).kind = 1 then
  match boundO L (i + 1 + 1) with
  | .ok z j => match YA L j with | .ok t j => ZX L j (.mk 5 (Zk L i).pos (tx L (i + 1)) t z 0 0 0 []) | .bad k j => .bad k j
  | .bad k j => .bad k j
 else .bad 1 (i + 1)
def named0O (L : List Tk) (kd : Int) (i : Nat) : Out :=
 if (Zk L (i + 1)).kind = 1 then ZX L (i + 1 + 1) (.mk kd (Zk L i).pos (tx L (i + 1)) 0 0 0 0 0 []) else .bad 1 (i + 1)
def ZL (L : List Tk) (kd : Int) (i : Nat) (r : Out) : Out :=
 if (Zk L (i + 1)).kind = 1 then
  if has L (i + 1 + 1) [bComma] = true then match r with | .ok n j => ZX L j (.mk kd (Zk L i).pos (tx L (i + 1)) 0 0 0 0 0 [n]) | .bad k j => .bad k j
  else .bad 1 (i + 1 + 1)
 else .bad 1 (i + 1)
def paramO (L : List Tk) (i : Nat) : Out :=
 if (Zk L i).kind = 1 then match YA L (i + 1) with | .ok t j => .ok (.mk 8 (Zk L i).pos (tx L i) t 0 0 0 0 []) j | .bad k j => .bad k j else .bad 1 i
def YK (rule : Nat -> Out) (L : List Tk) : Nat -> Nat -> List Nd -> OutL
 | 0, j, _ => .bad 0 j
 | f + 1, j, ns => if has L j [bComma] = true then (match rule (j + 1) with | .ok m j' => YK rule L f j' (ns ++ [m]) | .bad k j' => .bad k j') else .ok ns j
def listO (rule : Nat -> Out) (L : List Tk) (i : Nat) : OutL :=
 match rule i with | .ok n j => YK rule L L.length j [n] | .bad k j => .bad k j
def YG (L : List Tk) (l i : Nat) (op sh : ByteArray) (r : OutL) : OutL :=
 if has L i [op] = true then (if l = 16 then .bad 2 i else match r with | .ok n j => if has L j [sh] = true then .ok n (j + 1) else .bad 1 j | .bad k j => .bad k j) else .bad 1 i
def argsO (L : List Tk) (i : Nat) (rule : Nat -> Out) : OutL := if has L i [bShut] = true then .ok [] i else listO rule L i
def calledO (L : List Tk) (l i : Nat) (rule : Nat -> Out) (mkn : List Nd -> Nd) : Out :=
 match YG L l i bOpen bShut (argsO L (i + 1) rule) with | .ok ns j => ZX L j (mkn ns) | .bad k j => .bad k j
def goesO (L : List Tk) (l i : Nat) (rule : Nat -> Out) : Out :=
 if (Zk L (i + 1)).kind = 1 then calledO L l (i + 1 + 1) rule (fun ns => .mk 12 (Zk L i).pos (tx L (i + 1)) 0 0 0 0 0 ns) else .bad 1 (i + 1)
def blockO (L : List Tk) (l i : Nat) (r : OutL) : Out :=
 match YG L l i bCur bCue r with | .ok ns j => .ok (.mk 9 (Zk L i).pos ⟨#[]⟩ 0 0 0 0 0 ns) j | .bad k j => .bad k j
def stmtsF (rule : Nat -> Out) (L : List Tk) : Nat -> Nat -> List Nd -> OutL
 | 0, j, _ => .bad 0 j
 | f + 1, j, ns => if has L j [bCue] = true then .ok ns j else match rule j with | .ok m j' => stmtsF rule L f j' (ns ++ [m]) | .bad k j' => .bad k j'
def all2O (ex bl : Nat -> Out) (i : Nat) : OutL :=
 match ex i with | .ok n j => (match bl j with | .ok m j' => .ok [n, m] j' | .bad k j' => .bad k j') | .bad k j => .bad k j
def YE (L : List Tk) (i : Nat) (ex bl : Nat -> Out) : Out :=
 match all2O ex bl (i + 1) with
 | .ok ns j => if has L j [bElse] = true then (match bl (j + 1) with | .ok m j' => .ok (.mk 21 (Zk L i).pos ⟨#[]⟩ 0 0 0 0 0 (ns ++ [m])) j' | .bad k j' => .bad k j') else .ok (.mk 21 (Zk L i).pos ⟨#[]⟩ 0 0 0 0 0 ns) j
 | .bad k j => .bad k j
def loopO (L : List Tk) (i : Nat) (ex bl : Nat -> Out) : Out :=
 match all2O ex bl (i + 1) with | .ok ns j => .ok (.mk 22 (Zk L i).pos ⟨#[]⟩ 0 0 0 0 0 ns) j | .bad k j => .bad k j
def leave0O (L : List Tk) (i : Nat) : Out := ZX L (i + 1) (.mk 23 (Zk L i).pos ⟨#[]⟩ 0 0 0 0 0 [])
def leave1O (L : List Tk) (i : Nat) (r : Out) : Out := match r with | .ok n j => ZX L j (.mk 24 (Zk L i).pos ⟨#[]⟩ 0 0 0 0 0 [n]) | .bad k j => .bad k j
def Zu (L : List Tk) (l : Nat) (tg : Out) (ex : Nat -> Out) (exIn : Nat -> Out) : Out :=
 match tg with
 | .bad k j => .bad k j
 | .ok n j =>
  if n.kind = 28 /\ has L j [bOpen] = true then calledO L l j exIn (fun ns => .mk 13 n.pos n.name 0 0 0 0 0 ns)
  else if n.kind = 28 /\ has L j [bLet] = true then (match ex (j + 1) with | .ok m j' => ZX L j' (.mk 11 n.pos n.name 0 0 0 0 0 [m]) | .bad k j' => .bad k j')
  else if has L j [bSet] = true then (match ex (j + 1) with | .ok m j' => ZX L j' (.mk 10 n.pos ⟨#[]⟩ 0 0 0 0 0 [n, m]) | .bad k j' => .bad k j')
  else .bad 1 j
def ZM (L : List Tk) (i : Nat) (bl : Nat -> Out) : Out :=
 if has L i [bFunc] = true then
  if (Zk L (i + 1)).kind = 1 then
   if has L (i + 1 + 1) [bOpen] = true then
    match (if has L (i + 1 + 1 + 1) [bShut] = true then OutL.ok [] (i + 1 + 1 + 1) else listO (paramO L) L (i + 1 + 1 + 1)) with
    | .ok ns j => if has L j [bShut] = true then (match bl (j + 1) with | .ok b j' => .ok (.mk 7 (Zk L i).pos (tx L (i + 1)) 0 ns.length 0 0 0 (ns ++ [b])) j' | .bad k j' => .bad k j') else .bad 1 j
    | .bad k j => .bad k j
   else .bad 1 (i + 1 + 1)
  else .bad 1 (i + 1)
 else .bad 1 i
section
variable {w : World} {p : List Addr} {g gT : Nat} {L : List Tk} {i l : Nat}
theorem Zx (h : Ps w p g gT L i l) (hE : Ya L) (text : ByteArray) (hz : text.size ≠ 0) :
 Calls Tryz.prog 123 #[.pointer (some ⟨g, 0, none⟩), .slice (some ⟨w.heap.size, 0, none⟩) 1 1] (w.alloc (.cells #[.string text] 9)) fun e w' =>
  (¬ has L i [text] = true /\ e = stop (errV p 1) (Zk L i).pos /\ Tn g w w') ∨ (has L i [text] = true /\ e = .returned (.tuple #[]) /\ Ps w' p g gT L (i + 1) l /\ Tn g w w') := by
 by_cases hh : has L i [text] = true
 · exact (take_new h text hh (ZF hE h.lt (by simpa using hz) hh)).mono (fun e w' r => .inr ⟨hh, r⟩)
 · exact (take_not h text (by simpa using hh)).mono (fun e w' r => .inl ⟨hh, r⟩)
theorem taken_both (h : Ps w p g gT L i l) (hE : Ya L) (text : ByteArray) (hz : text.size ≠ 0) :
 Calls Tryz.prog 161 #[.pointer (some ⟨g, 0, none⟩), .string text] w fun e w' =>
  (has L i [text] = true /\ e = .returned (.bool true) /\ Ps w' p g gT L (i + 1) l /\ Tn g w w') ∨ (¬ has L i [text] = true /\ e = .returned (.bool false) /\ Ps w' p g gT L i l /\ Tn g w w') := by
 by_cases hh : has L i [text] = true
 · exact (taken_yes h text hh (ZF hE h.lt (by simpa using hz) hh)).mono (fun e w' r => .inl ⟨hh, r⟩)
 · exact (taken_no h text (by simpa using hh)).mono (fun e w' r => .inr ⟨hh, r.1, h.below r.2, Tn.of_bel r.2⟩)
theorem sees_both (h : Ps w p g gT L i l) (text : ByteArray) :
    Calls Tryz.prog 92 #[.pointer (some ⟨g, 0, none⟩), .slice (some ⟨w.heap.size, 0, none⟩) 1 1] (w.alloc (.cells #[.string text] 9)) fun e w' =>
      (has L i [text] = true /\ e = .returned (.bool true) /\ Below w.heap.size w w') ∨ (¬ has L i [text] = true /\ e = .returned (.bool false) /\ Below w.heap.size w w') :=
  (Ys h [text] 1 _ rfl rfl (by omega)).mono (fun e w' r => by
    by_cases hh : has L i [text] = true
    · exact .inl ⟨hh, by rw [r.1, hh], r.2⟩
    · have hh' : has L i [text] = false := by simpa using hh
      exact .inr ⟨hh, by rw [r.1, hh'], r.2⟩)
theorem YH (h : Ps w p g gT L i l) (hE : Ya L) :
 Calls Tryz.prog 120 #[.pointer (some ⟨g, 0, none⟩)] w fun e w' =>
  (¬ (Zk L i).kind = 1 /\ e = stop (errV p 1) (Zk L i).pos /\ Tn g w w') ∨ ((Zk L i).kind = 1 /\ e = .returned (.string (tx L i)) /\ Ps w' p g gT L (i + 1) l /\ Tn g w w') := by
 by_cases hh : (Zk L i).kind = 1
 · exact (word_yes h hh (hE i h.lt (.inr (by omega)))).mono (fun e w' r => .inr ⟨hh, r⟩)
 · exact (word_no h hh).mono (fun e w' r => .inl ⟨hh, r⟩)
theorem takeKind_both (h : Ps w p g gT L i l) (hE : Ya L) (k : Nat) (hk : k ≠ 0) :
 Calls Tryz.prog 160 #[.pointer (some ⟨g, 0, none⟩), .int .i64 k] w fun e w' =>
  (¬ (Zk L i).kind = k /\ e = stop (errV p 1) (Zk L i).pos /\ Tn g w w') ∨ ((Zk L i).kind = k /\ e = .returned (Zk L i).val /\ Ps w' p g gT L (i + 1) l /\ Tn g w w') := by
 by_cases hh : (Zk L i).kind = k
 · exact (takeKind_yes h k hh (hE i h.lt (.inr (by omega)))).mono (fun e w' r => .inr ⟨hh, r⟩)
 · exact (takeKind_no h k hh).mono (fun e w' r => .inl ⟨hh, r⟩)
theorem Sn.start {w0 w1 : World} {j l' : Nat} (h : Ps w p g gT L i l) (hb0 : Below w.heap.size w w0) (hz0 : Nod w0 w.heap.size (.int .i64 0) (.int .i64 0) (.string ⟨#[]⟩) (.int .i64 0) (.int .i64 0) (.int .i64 0) (.int .i64 0) (.int .u64 0) (.slice none 0 0))
 (r1 : Ps w1 p g gT L j l') (r2 : Tn g w0 w1) (kd ps : Int) (nm : ByteArray) (t nz : Int) :
 Sn w (w1.alloc (.cells #[.int .i64 kd, .int .i64 ps, .string nm, .int .i64 t, .int .i64 nz, .int .i64 0, .int .i64 0, .int .u64 0, .slice none 0 0] 29)) p g gT L j l' w.heap.size w1.heap.size kd ps nm t nz none 0 0 [] := by
 have hb := Zd w1 (.cells #[.int .i64 kd, .int .i64 ps, .string nm, .int .i64 t, .int .i64 nz, .int .i64 0, .int .i64 0, .int .u64 0, .slice none 0 0] 29)
 have hgl := h.lt_g
 exact ⟨r1.below hb, ((Tn.of_bel hb0).trans r2).trans (Tn.of_bel hb), (hz0.tn r2 (by omega)).bel hb, B_ _ _, by unfold Zt; rfl, hgl, h.row.lt, Nat.le_of_lt (Nat.lt_of_lt_of_le (Ze hz0) r2.size), Nat.le_refl _, Nat.ne_of_lt (Nat.lt_of_lt_of_le (Ze hz0) r2.size)⟩
def PostI (p : List Addr) (g gT : Nat) (L : List Tk) (l : Nat) (w : World) (e : Ending) (w' : World) : OutI -> Prop
 | .ok z j => e = .returned (.int .i64 z) /\ Ps w' p g gT L j l /\ Tn g w w'
 | .bad k j => e = stop (errV p k) (Zk L j).pos /\ Tn g w w'
theorem PostI.both {e : Ending} {w' : World} {o : OutI} (h : PostI p g gT L l w e w' o) :
 (∃ k j, o = .bad k j /\ e = stop (errV p k) (Zk L j).pos /\ Tn g w w') ∨ (∃ z j, o = .ok z j /\ e = .returned (.int .i64 z) /\ Ps w' p g gT L j l /\ Tn g w w') := by
 cases o with
 | bad k j => exact .inl ⟨k, j, rfl, h⟩
 | ok z j => exact .inr ⟨z, j, rfl, h⟩
theorem Zo.both {e : Ending} {w' : World} {o : Out} (h : Zo p g gT L l w e w' o) :
 (∃ k j, o = .bad k j /\ e = stop (errV p k) (Zk L j).pos /\ Tn g w w') ∨
 (∃ kd ps nm t nz z ob bi ks a len ck j, o = .ok (.mk kd ps nm t nz z ob bi ks) j /\ e = .returned (.agg #[.int .i64 kd, .int .i64 ps, .string nm, .int .i64 t, .int .i64 nz, .int .i64 z, .int .i64 ob, .int .u64 bi, .slice a len ck]) /\ Zt w' (Fr w.heap.size) ks (.slice a len ck) /\ Ps w' p g gT L j l /\ Tn g w w') := by
 cases o with
 | bad k j => exact .inl ⟨k, j, rfl, h⟩
 | ok n j =>
  obtain ⟨v, rfl, hv, h1, h2⟩ := h
  obtain ⟨kd, ps, nm, t, nz, z, ob, bi, ks⟩ := n
  unfold Zj at hv
  obtain ⟨s, rfl, hk⟩ := hv
  obtain ⟨a, len, ck, rfl⟩ := hk.shape
  exact .inr ⟨kd, ps, nm, t, nz, z, ob, bi, ks, a, len, ck, j, rfl, rfl, hk, h1, h2⟩
theorem PostR.both {e : Ending} {w' : World} {o : OutL} (h : PostR p g gT L l w e w' o) :
 (∃ k j, o = .bad k j /\ e = stop (errV p k) (Zk L j).pos /\ Tn g w w') ∨ (∃ ns a n ck j, n = ns.length /\ o = .ok ns j /\ e = .returned (.slice a n ck) /\ Row w' w.heap.size ns (.slice a n ck) /\ Ps w' p g gT L j l /\ Tn g w w') := by
 cases o with
 | bad k j => exact .inl ⟨k, j, rfl, h⟩
 | ok ns j =>
  obtain ⟨s, rfl, hs, h1, h2⟩ := h
  obtain ⟨a, c, rfl⟩ := hs.len
  exact .inr ⟨ns, a, ns.length, c, j, rfl, rfl, rfl, hs, h1, h2⟩
theorem PostK.both {e : Ending} {w' : World} {o : Out} (h : PostK p g gT L l w e w' o) :
 (∃ k j, o = .bad k j /\ e = stop (errV p k) (Zk L j).pos /\ Tn g w w') ∨ (∃ n gk ck j, o = .ok n j /\ e = .returned (.slice (some ⟨gk, 0, none⟩) 1 ck) /\ Zt w' (Fr w.heap.size) [n] (.slice (some ⟨gk, 0, none⟩) 1 ck) /\ Ps w' p g gT L j l /\ Tn g w w') := by
 cases o with
 | bad k j => exact .inl ⟨k, j, rfl, h⟩
 | ok n j =>
  obtain ⟨s, rfl, hs, h1, h2⟩ := h
  obtain ⟨gk, ck, rfl⟩ := hs.form
  exact .inr ⟨n, gk, ck, j, rfl, rfl, hs, h1, h2⟩
structure Zn (w wr : World) (p : List Addr) (g gT : Nat) (L : List Tk) (i l : Nat) : Prop where
 pr : Ps wr p g gT L i l
 tn : Tn g w wr
 zr : Nod wr w.heap.size (.int .i64 0) (.int .i64 0) (.string ⟨#[]⟩) (.int .i64 0) (.int .i64 0) (.int .i64 0) (.int .i64 0) (.int .u64 0) (.slice none 0 0)
 ng : g < w.heap.size
 nT : gT < w.heap.size
theorem Zn.start {w0 : World} (h : Ps w p g gT L i l) (hb0 : Below w.heap.size w w0) (hz0 : Nod w0 w.heap.size (.int .i64 0) (.int .i64 0) (.string ⟨#[]⟩) (.int .i64 0) (.int .i64 0) (.int .i64 0) (.int .i64 0) (.int .u64 0) (.slice none 0 0)) : Zn w w0 p g gT L i l :=
 ⟨h.below hb0, Tn.of_bel hb0, hz0, h.lt_g, h.row.lt⟩
theorem Zn.call {wr w' : World} {j l' : Nat} (h : Zn w wr p g gT L i l) (r1 : Ps w' p g gT L j l') (r2 : Tn g wr w') : Zn w w' p g gT L j l' := by
 have := h.ng
 exact ⟨r1, h.tn.trans r2, h.zr.tn r2 (by omega), h.ng, h.nT⟩
theorem Zn.bel {wr w' : World} (h : Zn w wr p g gT L i l) (hb : Below wr.heap.size wr w') : Zn w w' p g gT L i l := h.call (h.pr.below hb) (Tn.of_bel hb)
theorem Zn.lt {wr : World} (h : Zn w wr p g gT L i l) : w.heap.size < wr.heap.size := Ze h.zr
theorem Zn.done {wr : World} {kd ps : Int} {nm : ByteArray} {t nz z ob bi : Int} {ks : List Nd} {a : Option Addr} {len ck : Nat} (h : Zn w wr p g gT L i l) {C : Nat} (hC : w.heap.size < C) (hk : Zt wr (Fr C) ks (.slice a len ck)) :
 ∃ w9, w9 = (((((((((wr.setCell ⟨w.heap.size, 0, none⟩ (.int .i64 kd)).setCell ⟨w.heap.size, 1, none⟩ (.int .i64 ps)).setCell ⟨w.heap.size, 2, none⟩ (.string nm)).setCell ⟨w.heap.size, 3, none⟩ (.int .i64 t)).setCell ⟨w.heap.size, 4, none⟩ (.int .i64 nz)).setCell ⟨w.heap.size, 5, none⟩ (.int .i64 z)).setCell ⟨w.heap.size, 6, none⟩ (.int .i64 ob)).setCell ⟨w.heap.size, 7, none⟩ (.int .u64 bi)).setCell ⟨w.heap.size, 8, none⟩ (.slice a len ck)) ∧
  Nod w9 w.heap.size (.int .i64 kd) (.int .i64 ps) (.string nm) (.int .i64 t) (.int .i64 nz) (.int .i64 z) (.int .i64 ob) (.int .u64 bi) (.slice a len ck) ∧
  Zj w9 (Fr w.heap.size) (.mk kd ps nm t nz z ob bi ks) (.agg #[.int .i64 kd, .int .i64 ps, .string nm, .int .i64 t, .int .i64 nz, .int .i64 z, .int .i64 ob, .int .u64 bi, .slice a len ck]) /\ Ps w9 p g gT L i l /\ Tn g w w9 := by
 obtain ⟨z9, s9⟩ := Zy h.zr (.int .i64 kd) (.int .i64 ps) (.string nm) (.int .i64 t) (.int .i64 nz) (.int .i64 z) (.int .i64 ob) (.int .u64 bi) (.slice a len ck)
 have h1 := h.ng
 have h2 := h.nT
 have h3 := h.pr.big
 refine ⟨_, rfl, z9, ?_, h.pr.tn s9 (by omega) (by omega) (by omega), h.tn.own s9 (Nat.le_refl _)⟩
 unfold Zj
 exact ⟨_, rfl, (hk.tnS s9 (fun e => by have : C <= w.heap.size := e; omega)).lowS (fun k hk => by have : C <= k := hk; show w.heap.size <= k; omega)⟩
theorem Sn.boxed (h : Ps w p g gT L i l) (kd ps : Int) (nm : ByteArray) (t nz : Int) :
 Sn w ((w.alloc (.cells #[.int .i64 kd, .int .i64 ps, .string nm, .int .i64 t, .int .i64 nz, .int .i64 0, .int .i64 0, .int .u64 0, .slice none 0 0] 29)).alloc Zh) p g gT L i l (w.heap.size + 1) w.heap.size kd ps nm t nz none 0 0 [] := by
 have hb := Zd w (.cells #[.int .i64 kd, .int .i64 ps, .string nm, .int .i64 t, .int .i64 nz, .int .i64 0, .int .i64 0, .int .u64 0, .slice none 0 0] 29)
 have k1 : Nod (w.alloc (.cells #[.int .i64 kd, .int .i64 ps, .string nm, .int .i64 t, .int .i64 nz, .int .i64 0, .int .i64 0, .int .u64 0, .slice none 0 0] 29)) w.heap.size (.int .i64 kd) (.int .i64 ps) (.string nm) (.int .i64 t) (.int .i64 nz) (.int .i64 0) (.int .i64 0) (.int .u64 0) (.slice none 0 0) := B_ _ _
 have s1 : (w.alloc (.cells #[.int .i64 kd, .int .i64 ps, .string nm, .int .i64 t, .int .i64 nz, .int .i64 0, .int .i64 0, .int .u64 0, .slice none 0 0] 29)).heap.size = w.heap.size + 1 := by simp
 generalize w.alloc _ = w1 at *
 have hb2 := Zd w1 Zh
 have k2 : Nod (w1.alloc Zh) w1.heap.size (.int .i64 0) (.int .i64 0) (.string ⟨#[]⟩) (.int .i64 0) (.int .i64 0) (.int .i64 0) (.int .i64 0) (.int .u64 0) (.slice none 0 0) := B_ _ _
 rw [s1] at k2
 exact ⟨(h.below hb).below hb2, Tn.of_bel (Zc hb hb2), k2, k1.bel hb2, by unfold Zt; rfl, h.lt_g, h.row.lt, Nat.le_refl _, Nat.le_succ _, by omega⟩
theorem Sn.zn {wr : World} {n : Nat} {kd ps : Int} {nm : ByteArray} {t nz : Int} {a : Option Addr} {len ck : Nat} {ks : List Nd} (h : Sn w wr p g gT L i l w.heap.size n kd ps nm t nz a len ck ks) : Zn w wr p g gT L i l := ⟨h.pr, h.tn, h.zr, h.ng, h.nT⟩
theorem Sn.grown {wr w' : World} {z n : Nat} {kd ps : Int} {nm : ByteArray} {t nz : Int} {a a' : Option Addr} {len ck len' ck' : Nat} {ks ks' : List Nd} (h : Sn w wr p g gT L i l z n kd ps nm t nz a len ck ks) (hb : Below (n + 1) wr w') (hz : z < n) (hr : Row w' (n + 1) ks' (.slice a' len' ck')) :
 w'.cell? ⟨n, 8, none⟩ = some (.slice a len ck) /\ w'.frozen? ⟨n, 8, none⟩ = false /\ Sn w (w'.setCell ⟨n, 8, none⟩ (.slice a' len' ck')) p g gT L i l z n kd ps nm t nz a' len' ck' ks' /\ Row (w'.setCell ⟨n, 8, none⟩ (.slice a' len' ck')) (n + 1) ks' (.slice a' len' ck') := by
 have h1 := h.ng
 have h2 := h.nT
 have h3 := h.nn
 have h4 := h.pr.big
 have vr : Nod w' n (.int .i64 kd) (.int .i64 ps) (.string nm) (.int .i64 t) (.int .i64 nz) (.int .i64 0) (.int .i64 0) (.int .u64 0) (.slice a len ck) := (hb.block n (by omega)).trans h.vr
 have zr : Nod w' z (.int .i64 0) (.int .i64 0) (.string ⟨#[]⟩) (.int .i64 0) (.int .i64 0) (.int .i64 0) (.int .i64 0) (.int .u64 0) (.slice none 0 0) := (hb.block z (by omega)).trans h.zr
 obtain ⟨x, s⟩ := Zs vr 8 (.slice a' len' ck')
 have hr2 := hr.tn s (Nat.lt_succ_self _)
 exact ⟨Zf vr 8 _ rfl, Zi vr 8, ⟨(h.pr.belB hb (by omega) (by omega)).tn s (by omega) (by omega) (by omega), (h.tn.belB hb (by omega)).own s (by omega), zr.tn s h.ne, x, hr2.kids.lowS (fun k hk => ⟨by have : n + 1 <= k := hk; omega, by have : n + 1 <= k := hk; omega, by have : n + 1 <= k := hk; omega⟩), h.ng, h.nT, h.nn, h.nz', h.ne⟩, hr2⟩
theorem ZQ {w : World} {ops : Array Oper} {o : Oper} {a : Act} {K : Act -> World -> Prop} {Q : Exit -> Act -> World -> Prop} {E : Prop} (s x : Operand) (v vx : Value) (R : Value -> World -> Prop)
 (hrun : ∀ ty, ∃ v' w', (Builtin.append_ #[27, 27] ty #[v, vx]).run Tryz.prog w = .ok v' w' /\ R v' w') (hgd : o.guard = none)
 (ho : o.op = .call { callee := .builtin .append, args := #[s, x], argTypes := #[27, 27] }) (hs : a.eval s = v) (hx : a.eval x = vx)
 (h : ∀ v' w', R v' w' -> K (a.put o.dst v') w') : if Region.wanted o (yielded ops a.tmps) = true then Oper.wp Tryz.prog o a w K Q else E := by
 have hw : Region.wanted o (yielded ops a.tmps) = true := by simp [Region.wanted, hgd]
 rw [if_pos hw]
 obtain ⟨v', w', hr, hR⟩ := hrun o.type
 unfold Oper.wp execOp
 simp only [ho, resolve, invoke, builtin, Sem.run_bind, Sem.run_pure, Result.andThen_ok, List.map_toArray, List.map_cons, List.map_nil, hs, hx, hr]
 exact h v' w' hR
theorem ZG (w : World) : Nod (w.alloc Zh) w.heap.size (.int .i64 0) (.int .i64 0) (.string ⟨#[]⟩) (.int .i64 0) (.int .i64 0) (.int .i64 0) (.int .i64 0) (.int .u64 0) (.slice none 0 0) := B_ _ _
end
theorem typed_any {w : World} {p : List Addr} {g gT : Nat} {L : List Tk} {i l : Nat} (h : Ps w p g gT L i l) (hE : Ya L) :
 Calls Tryz.prog 122 #[.pointer (some ⟨g, 0, none⟩)] w fun e w' => PostI p g gT L l w e w' (YA L i) := by
 have HP := Zb h
 have HE := Zb hE
 obtain ⟨out, ho⟩ : ∃ out, YA L i = out := ⟨_, rfl⟩
 rw [ho]
 have HW := Zb ho
 clear h hE ho
 go_enter Tryz.func122, Tryz.ntmps122
 go_wp2_with fail
 refine (taken_both HP.out HE.out bInt (by decide)).mono ?_
 rintro e w1 (⟨c1, rfl, r1, r2⟩ | ⟨c1, rfl, r1, r2⟩)
 · have C1 := Zb c1
   have R := Zb (And.intro r1 r2)
   clear c1 r1 r2
   go_wp2_with fail
   go_ret
   have hw := HW.out
   simp only [YA, if_pos C1.out] at hw
   subst hw
   exact ⟨rfl, R.out⟩
 have C1 := Zb c1
 have H1 := Zb r1
 have T1 := Zb r2
 clear c1 r1 r2
 go_wp2_with fail
 refine (taken_both H1.out HE.out bFloat (by decide)).mono ?_
 rintro e w2 (⟨c2, rfl, r1, r2⟩ | ⟨c2, rfl, r1, r2⟩)
 · have C2 := Zb c2
   have R := Zb (And.intro r1 r2)
   clear c2 r1 r2
   go_wp2_with fail
   go_ret
   have hw := HW.out
   simp only [YA, if_neg C1.out, if_pos C2.out] at hw
   subst hw
   exact ⟨rfl, ⟨R.out.1, T1.out.trans R.out.2⟩⟩
 have C2 := Zb c2
 have H2 := Zb r1
 have T2 := Zb (T1.out.trans r2)
 clear c2 r1 r2
 go_wp2_with fail
 refine (Zx H2.out HE.out bBool (by decide)).mono ?_
 rintro e w3 (⟨c3, rfl, r2⟩ | ⟨c3, rfl, r1, r2⟩)
 · have hw := HW.out
   simp only [YA, if_neg C1.out, if_neg C2.out, if_neg c3] at hw
   subst hw
   exact ⟨rfl, rfl, T2.out.trans r2⟩
 have C3 := Zb c3
 have R := Zb (And.intro r1 (T2.out.trans r2))
 clear c3 r1 r2
 go_wp2_with fail
 go_ret
 have hw := HW.out
 simp only [YA, if_neg C1.out, if_neg C2.out, if_pos C3.out] at hw
 subst hw
 exact ⟨rfl, R.out⟩
theorem bound_any {w : World} {p : List Addr} {g gT : Nat} {L : List Tk} {i l : Nat} (h : Ps w p g gT L i l) (hE : Ya L) :
 Calls Tryz.prog 121 #[.pointer (some ⟨g, 0, none⟩)] w fun e w' => PostI p g gT L l w e w' (boundO L i) := by
 have HP := Zb h
 have HE := Zb hE
 obtain ⟨tk, htk⟩ : ∃ tk, Zk L (i + 1) = tk := ⟨_, rfl⟩
 have HK := Zb htk
 clear htk
 obtain ⟨kind, text, nn, bits_, pos⟩ := tk
 have hf2 := tf2 (.int .i64 kind) (.string text) (.int .i64 nn) (.int .u64 bits_) (.int .i64 pos)
 obtain ⟨out, ho⟩ : ∃ out, boundO L i = out := ⟨_, rfl⟩
 rw [ho]
 have HW := Zb ho
 clear h hE ho
 go_enter Tryz.func121, Tryz.ntmps121
 go_wp2_with fail
 refine (Zx HP.out HE.out bOpn (by decide)).mono ?_
 rintro e w1 (⟨c1, rfl, r2⟩ | ⟨c1, rfl, r1, r2⟩)
 · have hw := HW.out
   simp only [boundO, if_neg c1] at hw
   subst hw
   exact ⟨rfl, rfl, r2⟩
 have C1 := Zb c1
 have H1 := Zb r1
 have T1 := Zb r2
 clear c1 r1 r2
 go_wp2_with fail
 refine (takeKind_both H1.out HE.out 3 (by decide)).mono ?_
 rintro e w2 (⟨c2, rfl, r2⟩ | ⟨c2, he, r1, r2⟩)
 · have hw := HW.out
   simp only [boundO, if_pos C1.out, if_neg c2] at hw
   subst hw
   exact ⟨rfl, rfl, T1.out.trans r2⟩
 rw [HK.out] at he
 dsimp only [Tk.val] at he
 subst he
 have C2 := Zb c2
 have H2 := Zb r1
 have T2 := Zb (T1.out.trans r2)
 clear c2 r1 r2
 go_wp2_with fail
 refine (Zx H2.out HE.out bSht (by decide)).mono ?_
 rintro e w3 (⟨c3, rfl, r2⟩ | ⟨c3, rfl, r1, r2⟩)
 · have hw := HW.out
   simp only [boundO, if_pos C1.out, if_pos C2.out, if_neg c3] at hw
   subst hw
   exact ⟨rfl, rfl, T2.out.trans r2⟩
 have C3 := Zb c3
 have R := Zb (And.intro r1 (T2.out.trans r2))
 clear c3 r1 r2 hf2
 go_wp2_with fail
 go_ret
 have hw := HW.out
 simp only [boundO, if_pos C1.out, if_pos C2.out, if_pos C3.out] at hw
 subst hw
 refine ⟨?_, R.out⟩
 rw [HK.out]
 rfl
theorem channel_any {w : World} {p : List Addr} {g gT : Nat} {L : List Tk} {i l : Nat} (h : Ps w p g gT L i l) (hE : Ya L) (hi : i + 1 < L.length) :
 Calls Tryz.prog 77 #[.pointer (some ⟨g, 0, none⟩)] w fun e w' => Zo p g gT L l w e w' (YD L i) := by
 have HP := Zb h
 have HE := Zb hE
 have HI := Zb hi
 have hb0 := Zb (Zd w Zh)
 have hz0 := Zb (ZG w)
 have H0 := Zb (h.below hb0.out)
 obtain ⟨out, ho⟩ : ∃ out, YD L i = out := ⟨_, rfl⟩
 rw [ho]
 have HW := Zb ho
 clear h hE ho hi
 unfold Zh at *
 go_enter Tryz.func77, Tryz.ntmps77
 go_wp2_with fail
 generalize w.alloc _ = w0 at *
 refine (Yt H0.out (5) HI.out).mono ?_
 rintro e w1 ⟨rfl, r1, r2⟩
 have S2 := Zb (Sn.start HP.out hb0.out hz0.out r1 r2 (5) (Zk L i).pos ⟨#[]⟩ 0 0)
 clear r1 r2 hb0 hz0 H0
 go_wp2_with fail
 generalize w1.alloc _ = w2 at *
 generalize w1.heap.size = n at *
 refine (YH S2.out.pr HE.out ).mono ?_
 rintro e w3 (⟨c3, rfl, r2⟩ | ⟨c3, rfl, r1, r2⟩)
 · have hw := HW.out
   simp only [YD, ZX, if_neg c3] at hw
   subst hw
   exact ⟨rfl, rfl, S2.out.tn.trans r2⟩
 have C3 := Zb c3
 have S3 := Zb (S2.out.call r1 r2)
 clear c3 r1 r2 S2
 obtain ⟨⟨fr0, fr1, fr2, fr3, fr4, fr5, fr6, fr7, fr8⟩, ce0, ce1, ce2, ce3, ce4, ce5, ce6, ce7, ce8⟩ := S3.out.vr.all
 have S4 := Zb (S3.out.setName (tx L (i + 1)))
 clear S3
 go_wp2_with fail
 clear fr0 fr1 fr2 fr3 fr4 fr5 fr6 fr7 fr8 ce0 ce1 ce2 ce3 ce4 ce5 ce6 ce7 ce8
 generalize w3.setCell ⟨n, 2, none⟩ (.string (tx L (i + 1))) = w4 at *
 refine (bound_any S4.out.pr HE.out).mono ?_
 intro e w5 hp
 rcases hp.both with ⟨kb, jb, c5, rfl, r2⟩ | ⟨z5, j5, c5, rfl, r1, r2⟩
 · have hw := HW.out
   simp only [YD, if_pos C3.out, c5] at hw
   subst hw
   exact ⟨rfl, rfl, S4.out.tn.trans r2⟩
 have C5 := Zb c5
 have S5 := Zb (S4.out.call r1 r2)
 clear c5 r1 r2 S4
 obtain ⟨⟨fr0, fr1, fr2, fr3, fr4, fr5, fr6, fr7, fr8⟩, ce0, ce1, ce2, ce3, ce4, ce5, ce6, ce7, ce8⟩ := S5.out.vr.all
 have S6 := Zb (S5.out.setN (z5))
 clear S5
 go_wp2_with fail
 clear fr0 fr1 fr2 fr3 fr4 fr5 fr6 fr7 fr8 ce0 ce1 ce2 ce3 ce4 ce5 ce6 ce7 ce8
 generalize w5.setCell ⟨n, 4, none⟩ (.int .i64 (z5)) = w6 at *
 refine (typed_any S6.out.pr HE.out).mono ?_
 intro e w7 hp
 rcases hp.both with ⟨kb, jb, c7, rfl, r2⟩ | ⟨t7, j7, c7, rfl, r1, r2⟩
 · have hw := HW.out
   simp only [YD, if_pos C3.out, C5.out, c7] at hw
   subst hw
   exact ⟨rfl, rfl, S6.out.tn.trans r2⟩
 have C7 := Zb c7
 have S7 := Zb (S6.out.call r1 r2)
 clear c7 r1 r2 S6
 obtain ⟨⟨fr0, fr1, fr2, fr3, fr4, fr5, fr6, fr7, fr8⟩, ce0, ce1, ce2, ce3, ce4, ce5, ce6, ce7, ce8⟩ := S7.out.vr.all
 have S8 := Zb (S7.out.setT (t7))
 clear S7
 go_wp2_with fail
 clear fr0 fr1 fr2 fr3 fr4 fr5 fr6 fr7 fr8 ce0 ce1 ce2 ce3 ce4 ce5 ce6 ce7 ce8
 have e8 : (w7.setCell ⟨n, 3, none⟩ (.int .i64 (t7))).heap.size = w7.heap.size := by simp
 generalize w7.setCell ⟨n, 3, none⟩ (.int .i64 (t7)) = w8 at *
 rw [← e8]
 clear e8
 refine (Zx S8.out.pr HE.out YL (by decide)).mono ?_
 rintro e w9 (⟨c9, rfl, r2⟩ | ⟨c9, rfl, r1, r2⟩)
 · have hw := HW.out
   simp only [YD, ZX, if_pos C3.out, C5.out, C7.out, if_neg c9] at hw
   subst hw
   exact ⟨rfl, rfl, S8.out.tn.trans r2⟩
 have C9 := Zb c9
 have S9 := Zb (S8.out.call r1 r2)
 clear c9 r1 r2 S8
 obtain ⟨⟨fz0, fz1, fz2, fz3, fz4, fz5, fz6, fz7, fz8⟩, bz0, bz1, bz2, bz3, bz4, bz5, bz6, bz7, bz8⟩ := S9.out.zr.all
 obtain ⟨_, cg0, cg1, cg2, cg3, cg4, cg5, cg6, cg7, cg8⟩ := S9.out.vr.all
 obtain ⟨_, rfl, z9, v9, p9, t9⟩ := S9.out.done
 have Z9 := Zb z9
 have D9 := Zb (And.intro v9 (And.intro p9 t9))
 clear z9 v9 p9 t9 S9
 go_wp2_with fail
 refine Zg (w.heap.size) rfl rfl Z9.out rfl ?_
 have hw := HW.out
 simp only [YD, ZX, if_pos C3.out, C5.out, C7.out, if_pos C9.out] at hw
 subst hw
 exact ⟨_, rfl, D9.out⟩
theorem param_any {w : World} {p : List Addr} {g gT : Nat} {L : List Tk} {i l : Nat} (h : Ps w p g gT L i l) (hE : Ya L) :
 Calls Tryz.prog 125 #[.pointer (some ⟨g, 0, none⟩)] w fun e w' => Zo p g gT L l w e w' (paramO L i) := by
 have HP := Zb h
 have HE := Zb hE
 have hb0 := Zb (Zd w Zh)
 have hz0 := Zb (ZG w)
 have H0 := Zb (h.below hb0.out)
 obtain ⟨tk, htk⟩ : ∃ tk, Zk L i = tk := ⟨_, rfl⟩
 have HK := Zb htk
 clear htk
 obtain ⟨kind, text, nn, bits_, pos⟩ := tk
 have hf4 := tf4 (.int .i64 kind) (.string text) (.int .i64 nn) (.int .u64 bits_) (.int .i64 pos)
 obtain ⟨out, ho⟩ : ∃ out, paramO L i = out := ⟨_, rfl⟩
 rw [ho]
 have HW := Zb ho
 clear h hE ho
 unfold Zh at *
 go_enter Tryz.func125, Tryz.ntmps125
 go_wp2_with fail
 generalize w.alloc _ = w0 at *
 refine (Zp H0.out).mono ?_
 rintro e w1 ⟨he, hb1⟩
 rw [HK.out] at he
 dsimp only [Tk.val] at he
 subst he
 have S2 := Zb (Sn.start HP.out hb0.out hz0.out (H0.out.below hb1) (Tn.of_bel hb1) 8 pos ⟨#[]⟩ 0 0)
 clear hb1 hb0 hz0 H0
 go_wp2_with fail
 generalize w1.alloc _ = w2 at *
 generalize w1.heap.size = n at *
 clear hf4
 refine (YH S2.out.pr HE.out ).mono ?_
 rintro e w3 (⟨c3, rfl, r2⟩ | ⟨c3, rfl, r1, r2⟩)
 · have hw := HW.out
   simp only [paramO, if_neg c3] at hw
   subst hw
   exact ⟨rfl, rfl, S2.out.tn.trans r2⟩
 have C3 := Zb c3
 have S3 := Zb (S2.out.call r1 r2)
 clear c3 r1 r2 S2
 obtain ⟨⟨fr0, fr1, fr2, fr3, fr4, fr5, fr6, fr7, fr8⟩, ce0, ce1, ce2, ce3, ce4, ce5, ce6, ce7, ce8⟩ := S3.out.vr.all
 have S4 := Zb (S3.out.setName (tx L i))
 clear S3
 go_wp2_with fail
 clear fr0 fr1 fr2 fr3 fr4 fr5 fr6 fr7 fr8 ce0 ce1 ce2 ce3 ce4 ce5 ce6 ce7 ce8
 generalize w3.setCell ⟨n, 2, none⟩ (.string (tx L i)) = w4 at *
 refine (typed_any S4.out.pr HE.out).mono ?_
 intro e w5 hp
 rcases hp.both with ⟨kb, jb, c5, rfl, r2⟩ | ⟨t5, j5, c5, rfl, r1, r2⟩
 · have hw := HW.out
   simp only [paramO, if_pos C3.out, c5] at hw
   subst hw
   exact ⟨rfl, rfl, S4.out.tn.trans r2⟩
 have C5 := Zb c5
 have S5 := Zb (S4.out.call r1 r2)
 clear c5 r1 r2 S4
 obtain ⟨⟨fr0, fr1, fr2, fr3, fr4, fr5, fr6, fr7, fr8⟩, ce0, ce1, ce2, ce3, ce4, ce5, ce6, ce7, ce8⟩ := S5.out.vr.all
 have S6 := Zb (S5.out.setT (t5))
 obtain ⟨⟨fz0, fz1, fz2, fz3, fz4, fz5, fz6, fz7, fz8⟩, bz0, bz1, bz2, bz3, bz4, bz5, bz6, bz7, bz8⟩ := S6.out.zr.all
 obtain ⟨_, cg0, cg1, cg2, cg3, cg4, cg5, cg6, cg7, cg8⟩ := S6.out.vr.all
 obtain ⟨_, rfl, z9, v9, p9, t9⟩ := S6.out.done
 have Z9 := Zb z9
 have D9 := Zb (And.intro v9 (And.intro p9 t9))
 clear z9 v9 p9 t9 S5 S6
 go_wp2_with fail
 refine Zg (w.heap.size) rfl rfl Z9.out rfl ?_
 have hw := HW.out
 simp only [paramO, if_pos C3.out, C5.out] at hw
 subst hw
 rw [HK.out]
 exact ⟨_, rfl, D9.out⟩
theorem list_param {w : World} {p : List Addr} {g gT : Nat} {L : List Tk} {i l : Nat} (h : Ps w p g gT L i l) (hE : Ya L) (rule : Nat -> Out) (hge : ∀ j m j', rule j = .ok m j' -> j <= j') (hr : ∀ j, i <= j -> ZS 125 p g gT L l j (rule j)) :
 Calls Tryz.prog 124 #[.pointer (some ⟨g, 0, none⟩), .func (.func 125) #[.pointer (some ⟨g, 0, none⟩)] #[]] w fun e w' => PostR p g gT L l w e w' (listO rule L i) := by
 have HP := Zb h
 have HE := Zb hE
 have HR := Zb hr
 have HG := Zb hge
 have hgl := h.lt_g
 have hT := h.row.lt
 have hL := h.len
 obtain ⟨out, ho⟩ : ∃ out, listO rule L i = out := ⟨_, rfl⟩
 rw [ho]
 have HW := Zb ho
 clear h hE ho hr hge
 go_enter Tryz.func124, Tryz.ntmps124
 go_wp2_with fail
 refine (HR.out i (Nat.le_refl _) _ HP.out).mono ?_
 intro e w1 hp
 rcases hp.both with ⟨kb, jb, c1, rfl, r2⟩ | ⟨kd, ps, nm, t, nz, z, ob, bi, ks, a, len, ck, j0, c1, rfl, hk, r1, r2⟩
 · have hw := HW.out
   simp only [listO, c1] at hw
   subst hw
   exact ⟨rfl, rfl, r2⟩
 have hj0 := HG.out i _ j0 c1
 have hb2 := Zd w1 (.cells #[.int .i64 kd, .int .i64 ps, .string nm, .int .i64 t, .int .i64 nz, .int .i64 z, .int .i64 ob, .int .u64 bi, .slice a len ck] 29)
 have M0 : Hid (∃ f', L.length - j0 <= f' /\ YK rule L f' j0 [Nd.mk kd ps nm t nz z ob bi ks] = out) := by
  have hw := HW.out
  simp only [listO, c1] at hw
  exact ⟨L.length, Nat.sub_le _ _, hw⟩
 have I0 := Zb (And.intro (Row.one (kd := kd) (p := ps) (nm := nm) (t := t) (n := nz) (z := z) (o := ob) (bits_ := bi) r2.size hk) (And.intro (r1.below hb2) (r2.trans (Tn.of_bel hb2))))
 clear hk r1 r2 hb2 c1 HW
 go_wp2_with fail
 generalize w1.alloc _ = w2 at *
 generalize w1.heap.size = b1 at *
 go_loopw [5] (fun v wr => ∃ (j : Nat) (ns : List Nd) (a : Option Addr) (n ck : Nat), i <= j /\ v = .slice a n ck /\ ns.length <= j + 1 /\ Hid (n = ns.length /\ Row wr w.heap.size ns (.slice a n ck) /\ Ps wr p g gT L j l /\ Tn g w wr /\ ∃ f', L.length - j <= f' /\ YK rule L f' j ns = out)) (fun _ wr => L.length - nextAt wr g)
 case atStart => exact ⟨j0, [Nd.mk kd ps nm t nz z ob bi ks], _, 1, 1, hj0, rfl, by simp, rfl, I0.out.1, I0.out.2.1, I0.out.2.2, M0.out⟩
 case round =>
  clear I0 M0 hj0
  obtain ⟨j, ns, a, n, ck, hij, rfl, hnl, I⟩ := hrel
  have N3 := Zb I.out.2.2.1.next
  go_wp2_with fail
  refine (taken_both I.out.2.2.1 HE.out bComma (by decide)).mono ?_
  rintro e w4 (⟨c4, rfl, r1, r2⟩ | ⟨c4, rfl, r1, r2⟩)
  · have C4 := Zb c4
    have H4 := Zb r1
    have T4 := Zb (I.out.2.2.2.1.trans r2)
    have R4 := Zb (I.out.2.1.tn r2 hgl)
    have EN := Zb I.out.1
    have hlt := I.out.2.2.1.lt
    have F4 := Zb I.out.2.2.2.2
    clear c4 r1 r2 I
    go_wp2_with fail
    refine (HR.out (j + 1) (by omega) _ H4.out).mono ?_
    intro e w5 hp
    rcases hp.both with ⟨kb, jb, c5, rfl, r2⟩ | ⟨kd, ps, nm, t, nz, z, ob, bi, ks, a', len, ck', j', c5, rfl, hk, r1, r2⟩
    · obtain ⟨f', hf1, hf2⟩ := F4.out
      obtain ⟨f2, rfl⟩ : ∃ f2, f' = f2 + 1 := ⟨f' - 1, by omega⟩
      simp only [YK, if_pos C4.out, c5] at hf2
      subst hf2
      exact ⟨rfl, rfl, T4.out.trans r2⟩
    have hj' := HG.out _ _ j' c5
    have F5 : Hid (∃ f', L.length - j' <= f' /\ YK rule L f' j' (ns ++ [Nd.mk kd ps nm t nz z ob bi ks]) = out) := by
     obtain ⟨f', hf1, hf2⟩ := F4.out
     obtain ⟨f2, rfl⟩ : ∃ f2, f' = f2 + 1 := ⟨f' - 1, by omega⟩
     simp only [YK, if_pos C4.out, c5] at hf2
     exact ⟨f2, by omega, hf2⟩
    clear c5 C4 F4
    have hb6 := Zd w5 (.cells #[.int .i64 kd, .int .i64 ps, .string nm, .int .i64 t, .int .i64 nz, .int .i64 z, .int .i64 ob, .int .u64 bi, .slice a' len ck'] 29)
    have hC : ∀ k, _ -> k < w4.heap.size := fun k hk => (R4.out.own k hk).2
    have PU := Zb (fun ty => Row.push (c := 1) ((R4.out.tn r2 (hgl)).bel hb6) (T4.out.size) hC (Nat.le_trans r2.size hb6.size) (by omega) (hk.bel hb6) (B_ w5 _) ty)
    have R6 := Zb (And.intro (r1.below hb6) ((T4.out.trans r2).trans (Tn.of_bel hb6)))
    clear hk hb6 r1 r2 hC R4 T4 H4
    go_wp2_with (first | (at_builtin; refine Yv (.tmp 11) (.tmp 14) _ _ _ PU.out rfl rfl rfl rfl ?_; rintro v7 w7 ⟨o7, t7⟩))
    obtain ⟨a7, c7, e7⟩ := o7.len
    obtain ⟨n7, hn7⟩ : ∃ n7, n7 = (ns ++ [Nd.mk kd ps nm t nz z ob bi ks]).length := ⟨_, rfl⟩
    rw [← hn7] at e7
    subst e7
    have I7 := Zb (And.intro hn7 (And.intro o7 (And.intro (R6.out.1.belB t7 hgl hT) (R6.out.2.belB t7 (Nat.le_refl _)))))
    clear hn7 o7 t7 PU R6
    go_wp2_with fail
    go_roundw
    case rel => exact ⟨j', _, _, _, _, by omega, rfl, by rw [List.length_append, List.length_singleton]; omega, I7.out.1, I7.out.2.1, I7.out.2.2.1, I7.out.2.2.2, F5.out⟩
    case measure =>
     have h7 := I7.out.2.2.1.next
     rw [h7, N3.out]
     omega
  · have R4 := Zb (I.out.2.1.tn r2 hgl)
    have H4 := Zb (And.intro r1 (I.out.2.2.2.1.trans r2))
    have hw : OutL.ok ns j = out := by
     obtain ⟨f', hf1, hf2⟩ := I.out.2.2.2.2
     have hlt := I.out.2.2.1.lt
     obtain ⟨f2, rfl⟩ : ∃ f2, f' = f2 + 1 := ⟨f' - 1, by omega⟩
     simp only [YK, if_neg c4] at hf2
     exact hf2
    have HW := Zb hw
    clear hw c4 r1 r2 I
    go_wp2_with fail
    go_ret
    have hw := HW.out
    subst hw
    exact ⟨_, rfl, R4.out, H4.out⟩
theorem typedO_gt {L : List Tk} {i : Nat} {t : Int} {j : Nat} (h : YA L i = .ok t j) : i < j := by
 unfold YA at h
 split at h
 · cases h; omega
 split at h
 · cases h; omega
 split at h
 · cases h; omega
 · cases h
theorem paramO_gt {L : List Tk} {i : Nat} {n : Nd} {j : Nat} (h : paramO L i = .ok n j) : i < j := by
 unfold paramO at h
 split at h
 · cases hq : YA L (i + 1) with
   | bad k a => rw [hq] at h; cases h
   | ok t a =>
    rw [hq] at h
    have := typedO_gt hq
    cases h
    omega
 · cases h
theorem listF_ge {rule : Nat -> Out} {L : List Tk} (hgt : ∀ j m j', rule j = .ok m j' -> j < j') : ∀ (f j : Nat) (ns ms : List Nd) (j' : Nat), YK rule L f j ns = .ok ms j' -> ns.length <= j -> j <= j' /\ ms.length <= j'
 | 0, _, _, _, _, h, _ => by unfold YK at h; cases h
 | f + 1, j, ns, ms, j', h, hl => by
  unfold YK at h
  split at h
  · cases hq : rule (j + 1) with
    | bad k a => rw [hq] at h; cases h
    | ok m a =>
     rw [hq] at h
     have h1 := hgt _ _ _ hq
     have h2 := listF_ge hgt f a _ ms j' h (by rw [List.length_append, List.length_singleton]; omega)
     omega
  · cases h
    exact ⟨Nat.le_refl _, hl⟩
theorem listO_ge {rule : Nat -> Out} {L : List Tk} {i : Nat} {ns : List Nd} {j : Nat} (hgt : ∀ j m j', rule j = .ok m j' -> j < j') (h : listO rule L i = .ok ns j) : i <= j /\ ns.length <= j := by
 unfold listO at h
 cases hq : rule i with
 | bad k a => rw [hq] at h; cases h
 | ok m a =>
  rw [hq] at h
  have h1 := hgt _ _ _ hq
  have h2 := listF_ge hgt _ _ _ _ _ h (by rw [List.length_singleton]; omega)
  omega
theorem function_any {w : World} {p : List Addr} {g gT : Nat} {L : List Tk} {i l : Nat} (h : Ps w p g gT L i l) (hE : Ya L) (bl : Nat -> Out) (hbl : ∀ j, i <= j -> ZS 126 p g gT L l j (bl j)) :
 Calls Tryz.prog 78 #[.pointer (some ⟨g, 0, none⟩)] w fun e w' => Zo p g gT L l w e w' (ZM L i bl) := by
 have HP := Zb h
 have HE := Zb hE
 have HB := Zb hbl
 have hb0 := Zb (Zd w Zh)
 have hz0 := Zb (ZG w)
 have H0 := Zb (h.below hb0.out)
 obtain ⟨tk, htk⟩ : ∃ tk, Zk L i = tk := ⟨_, rfl⟩
 have HK := Zb htk
 clear htk
 obtain ⟨kind, text, nn, bits_, pos⟩ := tk
 have hf4 := tf4 (.int .i64 kind) (.string text) (.int .i64 nn) (.int .u64 bits_) (.int .i64 pos)
 have hL := h.len
 obtain ⟨out, ho⟩ : ∃ out, ZM L i bl = out := ⟨_, rfl⟩
 rw [ho]
 have HW := Zb ho
 clear h hE ho hbl
 unfold Zh at *
 go_enter Tryz.func78, Tryz.ntmps78
 go_wp2_with fail
 generalize w.alloc _ = w0 at *
 refine (Zp H0.out).mono ?_
 rintro e w1 ⟨he, hb1⟩
 rw [HK.out] at he
 dsimp only [Tk.val] at he
 subst he
 have S2 := Zb (Sn.start HP.out hb0.out hz0.out (H0.out.below hb1) (Tn.of_bel hb1) 7 pos ⟨#[]⟩ 0 0)
 clear hb1 hb0 hz0 H0
 go_wp2_with fail
 have e2 : (w1.alloc (.cells #[.int .i64 7, .int .i64 pos, .string ⟨#[]⟩, .int .i64 0, .int .i64 0, .int .i64 0, .int .i64 0, .int .u64 0, .slice none 0 0] 29)).heap.size = w1.heap.size + 1 := by simp
 generalize w1.alloc _ = w2 at *
 generalize w1.heap.size = n at *
 rw [← e2]
 clear e2
 clear hf4
 refine (Zx S2.out.pr HE.out bFunc (by decide)).mono ?_
 rintro e w3 (⟨c3, rfl, r2⟩ | ⟨c3, rfl, r1, r2⟩)
 · have hw := HW.out
   simp only [ZM, if_neg c3] at hw
   subst hw
   exact ⟨rfl, rfl, S2.out.tn.trans r2⟩
 have C3 := Zb c3
 have S3 := Zb (S2.out.call r1 r2)
 clear c3 r1 r2 S2
 go_wp2_with fail
 refine (YH S3.out.pr HE.out ).mono ?_
 rintro e w4 (⟨c4, rfl, r2⟩ | ⟨c4, rfl, r1, r2⟩)
 · have hw := HW.out
   simp only [ZM, if_pos C3.out, if_neg c4] at hw
   subst hw
   exact ⟨rfl, rfl, S3.out.tn.trans r2⟩
 have C4 := Zb c4
 have S4 := Zb (S3.out.call r1 r2)
 clear c4 r1 r2 S3
 obtain ⟨⟨fr0, fr1, fr2, fr3, fr4, fr5, fr6, fr7, fr8⟩, ce0, ce1, ce2, ce3, ce4, ce5, ce6, ce7, ce8⟩ := S4.out.vr.all
 have S5 := Zb (S4.out.setName (tx L (i + 1)))
 clear S4
 go_wp2_with fail
 clear fr0 fr1 fr2 fr3 fr4 fr5 fr6 fr7 fr8 ce0 ce1 ce2 ce3 ce4 ce5 ce6 ce7 ce8
 have e5 : (w4.setCell ⟨n, 2, none⟩ (.string (tx L (i + 1)))).heap.size = w4.heap.size := by simp
 generalize w4.setCell ⟨n, 2, none⟩ (.string (tx L (i + 1))) = w5 at *
 rw [← e5]
 clear e5
 refine (Zx S5.out.pr HE.out bOpen (by decide)).mono ?_
 rintro e w6 (⟨c6, rfl, r2⟩ | ⟨c6, rfl, r1, r2⟩)
 · have hw := HW.out
   simp only [ZM, if_pos C3.out, if_pos C4.out, if_neg c6] at hw
   subst hw
   exact ⟨rfl, rfl, S5.out.tn.trans r2⟩
 have C6 := Zb c6
 have S6 := Zb (S5.out.call r1 r2)
 clear c6 r1 r2 S5
 go_wp2_with fail
 refine (sees_both S6.out.pr bShut).mono ?_
 rintro e w7 (⟨c7, rfl, hb⟩ | ⟨c7, rfl, hb⟩)
 · have C7 := Zb c7
   have S7 := Zb (S6.out.bel hb)
   clear c7 hb S6
   go_wp2_with fail
   refine (Zx S7.out.pr HE.out bShut (by decide)).mono ?_
   rintro e w8 (⟨c8, rfl, r2⟩ | ⟨c8, rfl, r1, r2⟩)
   · exact absurd C7.out c8
   have C8 := Zb c8
   have S8 := Zb (S7.out.call r1 r2)
   clear c8 r1 r2 S7
   clear C8
   obtain ⟨⟨fr0, fr1, fr2, fr3, fr4, fr5, fr6, fr7, fr8⟩, ce0, ce1, ce2, ce3, ce4, ce5, ce6, ce7, ce8⟩ := S8.out.vr.all
   have S9 := Zb (S8.out.setN (0))
   clear S8
   go_wp2_with fail
   clear fr0 fr1 fr2 fr3 fr4 fr5 fr6 fr7 fr8 ce0 ce1 ce2 ce3 ce4 ce5 ce6 ce7 ce8
   generalize w8.setCell ⟨n, 4, none⟩ (.int .i64 (0)) = w9 at *
   have RY : Hid (Row w9 (n + 1) [] (.slice none 0 0)) := Row.nil _ _
   refine wp_region_any ZI ?_
   change wpAny _ _ _ _ _ _ _ (World.drew _)
   have SW0 := Zb S9.out.drew
   have RW0 := Zb (RY.out.bel (Zm (Below.refl _ _)))
   have hgn : g < n + 1 := by have := SW0.out.ng; have := SW0.out.nn; omega
   have hzn : w.heap.size < n := by have := SW0.out.ne; have := SW0.out.nn; omega
   clear S9 RY
   generalize World.drew w9 = W0 at *
   refine T_ 0 (v := ?_) (fun w => ?_) ?_
   rotate_left 1
   · (go_simp <;> with_reducible rfl)
   simp only [Act.put, S_]
   refine T_ 2 (v := ?_) (fun w => ?_) ?_
   rotate_left 1
   · (go_simp <;> with_reducible rfl)
   simp only [Act.put, S_]
   refine wpAny_ready (rs := [1, 3]) (by kernel_rfl) (by decide) ?_
   refine AllReady.cons rfl (fun K1 hK1 => ?_) (AllReady.cons rfl (fun K1 hK1 => ?_) AllReady.nil)
   · obtain ⟨_, _, _, _, _, _, _, _, _, yq⟩ := SW0.out.vr.all
     go_simp
     refine hK1 _ _ ?_
     clear hK1 K1 yq
     refine R_ 3 (fun K1 hK1 => ?_)
     go_simp
     refine (HB.out (i + 1 + 1 + 1 + 1) (by omega) _ SW0.out.pr).mono ?_
     intro e W1 hp
     rcases hp.both with ⟨kb, jb, cq, rfl, r2⟩ | ⟨kd', ps', nm', t', nz', z', ob', bi', ks', a', len', ck', jq, cq, rfl, hk, r1, r2⟩
     · have hw := HW.out
       simp only [ZM, if_pos C3.out, if_pos C4.out, if_pos C6.out, if_pos C7.out, cq] at hw
       subst hw
       exact ⟨rfl, rfl, SW0.out.tn.trans r2⟩
     have CQ := Zb cq
     have SW1 := Zb (SW0.out.call r1 r2)
     have RW1 := Zb (RW0.out.tn r2 hgn)
     have JW1 := Zb hk
     have HC : Hid (∀ k, Value.ownBlock (.slice none 0 0) = some k -> k < W0.heap.size) := fun k hk => (RW0.out.own k hk).2
     have HWs := Zb r2.size
     have HN1 := Zb (show n + 1 <= W0.heap.size from SW0.out.lt)
     clear cq hk r1 r2
     refine hK1 _ _ ?_
     clear hK1 K1
     refine R_ 4 (fun K1 hK1 => ?_)
     go_simp
     have hb := Zd W1 (.cells #[.int .i64 kd', .int .i64 ps', .string nm', .int .i64 t', .int .i64 nz', .int .i64 z', .int .i64 ob', .int .u64 bi', .slice a' len' ck'] 29)
     have SW2 := Zb (SW1.out.bel hb)
     have RW2 := Zb (RW1.out.bel hb)
     have PU := Zb (fun ty => Row.push (c := 1) RW2.out HN1.out HC.out (Nat.le_trans HWs.out hb.size) (by simp) (JW1.out.bel hb) (B_ W1 _) ty)
     clear hb JW1
     generalize W1.alloc _ = W2 at *
     generalize W1.heap.size = bx at *
     refine hK1 _ _ ?_
     clear hK1 K1
     refine R_ 5 (fun K1 hK1 => ?_)
     refine ZQ (.tmp 34) (.tmp 37) _ _ _ PU.out rfl rfl rfl rfl ?_
     rintro v7 w7 ⟨o7, t7⟩
     obtain ⟨a7, c7, e7⟩ := o7.len
     obtain ⟨m7, hm7⟩ : ∃ m7, m7 = ([] ++ [Nd.mk kd' ps' nm' t' nz' z' ob' bi' ks']).length := ⟨_, rfl⟩
     rw [← hm7] at e7
     subst e7
     obtain ⟨x8, f8, s8, r8⟩ := SW2.out.grown t7 hzn o7
     have S8 := Zb s8
     have R8 := Zb r8
     have M8 := Zb hm7
     clear s8 r8 hm7 o7 t7 PU SW2 RW2
     refine hK1 _ _ ?_
     clear hK1 K1
     refine T_ 6 (v := ?_) (fun w => ?_) ?_
     rotate_left 1
     · (go_simp <;> with_reducible rfl)
     simp only [Act.put, S_]
     refine R_ 7 (fun K1 hK1 => ?_)
     go_simp
     refine hK1 _ _ ?_
     clear hK1 K1
     refine wpAny_done (by kernel_rfl) ?_ _
     clear x8 f8
     generalize w7.setCell ⟨n, 8, none⟩ (.slice a7 m7 c7) = w8 at *
     clear R8 M8
     obtain ⟨⟨fz0, fz1, fz2, fz3, fz4, fz5, fz6, fz7, fz8⟩, bz0, bz1, bz2, bz3, bz4, bz5, bz6, bz7, bz8⟩ := S8.out.zr.all
     obtain ⟨_, cg0, cg1, cg2, cg3, cg4, cg5, cg6, cg7, cg8⟩ := S8.out.vr.all
     obtain ⟨_, rfl, z9, v9, p9, t9⟩ := S8.out.done
     have Z9 := Zb z9
     have D9 := Zb (And.intro v9 (And.intro p9 t9))
     clear z9 v9 p9 t9 S8
     go_wp2_with fail
     refine Zg (w.heap.size) rfl rfl Z9.out rfl ?_
     have hw := HW.out
     simp only [ZM, if_pos C3.out, if_pos C4.out, if_pos C6.out, if_pos C7.out, CQ.out] at hw
     subst hw
     rw [HK.out]
     exact ⟨_, rfl, D9.out⟩
   · go_simp
     refine (HB.out (i + 1 + 1 + 1 + 1) (by omega) _ SW0.out.pr).mono ?_
     intro e W1 hp
     rcases hp.both with ⟨kb, jb, cq, rfl, r2⟩ | ⟨kd', ps', nm', t', nz', z', ob', bi', ks', a', len', ck', jq, cq, rfl, hk, r1, r2⟩
     · have hw := HW.out
       simp only [ZM, if_pos C3.out, if_pos C4.out, if_pos C6.out, if_pos C7.out, cq] at hw
       subst hw
       exact ⟨rfl, rfl, SW0.out.tn.trans r2⟩
     have CQ := Zb cq
     have SW1 := Zb (SW0.out.call r1 r2)
     have RW1 := Zb (RW0.out.tn r2 hgn)
     have JW1 := Zb hk
     have HC : Hid (∀ k, Value.ownBlock (.slice none 0 0) = some k -> k < W0.heap.size) := fun k hk => (RW0.out.own k hk).2
     have HWs := Zb r2.size
     have HN1 := Zb (show n + 1 <= W0.heap.size from SW0.out.lt)
     clear cq hk r1 r2
     refine hK1 _ _ ?_
     clear hK1 K1
     refine wpAny_ready (rs := [1, 4]) (by kernel_rfl) (by decide) ?_
     refine AllReady.cons rfl (fun K1 hK1 => ?_) (AllReady.cons rfl (fun K1 hK1 => ?_) AllReady.nil)
     · obtain ⟨_, _, _, _, _, _, _, _, _, yq⟩ := SW1.out.vr.all
       go_simp
       refine hK1 _ _ ?_
       clear hK1 K1 yq
       refine R_ 4 (fun K1 hK1 => ?_)
       go_simp
       have hb := Zd W1 (.cells #[.int .i64 kd', .int .i64 ps', .string nm', .int .i64 t', .int .i64 nz', .int .i64 z', .int .i64 ob', .int .u64 bi', .slice a' len' ck'] 29)
       have SW2 := Zb (SW1.out.bel hb)
       have RW2 := Zb (RW1.out.bel hb)
       have PU := Zb (fun ty => Row.push (c := 1) RW2.out HN1.out HC.out (Nat.le_trans HWs.out hb.size) (by simp) (JW1.out.bel hb) (B_ W1 _) ty)
       clear hb JW1
       generalize W1.alloc _ = W2 at *
       generalize W1.heap.size = bx at *
       refine hK1 _ _ ?_
       clear hK1 K1
       refine R_ 5 (fun K1 hK1 => ?_)
       refine ZQ (.tmp 34) (.tmp 37) _ _ _ PU.out rfl rfl rfl rfl ?_
       rintro v7 w7 ⟨o7, t7⟩
       obtain ⟨a7, c7, e7⟩ := o7.len
       obtain ⟨m7, hm7⟩ : ∃ m7, m7 = ([] ++ [Nd.mk kd' ps' nm' t' nz' z' ob' bi' ks']).length := ⟨_, rfl⟩
       rw [← hm7] at e7
       subst e7
       obtain ⟨x8, f8, s8, r8⟩ := SW2.out.grown t7 hzn o7
       have S8 := Zb s8
       have R8 := Zb r8
       have M8 := Zb hm7
       clear s8 r8 hm7 o7 t7 PU SW2 RW2
       refine hK1 _ _ ?_
       clear hK1 K1
       refine T_ 6 (v := ?_) (fun w => ?_) ?_
       rotate_left 1
       · (go_simp <;> with_reducible rfl)
       simp only [Act.put, S_]
       refine R_ 7 (fun K1 hK1 => ?_)
       go_simp
       refine hK1 _ _ ?_
       clear hK1 K1
       refine wpAny_done (by kernel_rfl) ?_ _
       clear x8 f8
       generalize w7.setCell ⟨n, 8, none⟩ (.slice a7 m7 c7) = w8 at *
       clear R8 M8
       obtain ⟨⟨fz0, fz1, fz2, fz3, fz4, fz5, fz6, fz7, fz8⟩, bz0, bz1, bz2, bz3, bz4, bz5, bz6, bz7, bz8⟩ := S8.out.zr.all
       obtain ⟨_, cg0, cg1, cg2, cg3, cg4, cg5, cg6, cg7, cg8⟩ := S8.out.vr.all
       obtain ⟨_, rfl, z9, v9, p9, t9⟩ := S8.out.done
       have Z9 := Zb z9
       have D9 := Zb (And.intro v9 (And.intro p9 t9))
       clear z9 v9 p9 t9 S8
       go_wp2_with fail
       refine Zg (w.heap.size) rfl rfl Z9.out rfl ?_
       have hw := HW.out
       simp only [ZM, if_pos C3.out, if_pos C4.out, if_pos C6.out, if_pos C7.out, CQ.out] at hw
       subst hw
       rw [HK.out]
       exact ⟨_, rfl, D9.out⟩
     · go_simp
       have hb := Zd W1 (.cells #[.int .i64 kd', .int .i64 ps', .string nm', .int .i64 t', .int .i64 nz', .int .i64 z', .int .i64 ob', .int .u64 bi', .slice a' len' ck'] 29)
       have SW2 := Zb (SW1.out.bel hb)
       have RW2 := Zb (RW1.out.bel hb)
       have PU := Zb (fun ty => Row.push (c := 1) RW2.out HN1.out HC.out (Nat.le_trans HWs.out hb.size) (by simp) (JW1.out.bel hb) (B_ W1 _) ty)
       clear hb JW1
       generalize W1.alloc _ = W2 at *
       generalize W1.heap.size = bx at *
       refine hK1 _ _ ?_
       clear hK1 K1
       refine R_ 1 (fun K1 hK1 => ?_)
       obtain ⟨_, _, _, _, _, _, _, _, _, yq⟩ := SW2.out.vr.all
       go_simp
       refine hK1 _ _ ?_
       clear hK1 K1 yq
       refine R_ 5 (fun K1 hK1 => ?_)
       refine ZQ (.tmp 34) (.tmp 37) _ _ _ PU.out rfl rfl rfl rfl ?_
       rintro v7 w7 ⟨o7, t7⟩
       obtain ⟨a7, c7, e7⟩ := o7.len
       obtain ⟨m7, hm7⟩ : ∃ m7, m7 = ([] ++ [Nd.mk kd' ps' nm' t' nz' z' ob' bi' ks']).length := ⟨_, rfl⟩
       rw [← hm7] at e7
       subst e7
       obtain ⟨x8, f8, s8, r8⟩ := SW2.out.grown t7 hzn o7
       have S8 := Zb s8
       have R8 := Zb r8
       have M8 := Zb hm7
       clear s8 r8 hm7 o7 t7 PU SW2 RW2
       refine hK1 _ _ ?_
       clear hK1 K1
       refine T_ 6 (v := ?_) (fun w => ?_) ?_
       rotate_left 1
       · (go_simp <;> with_reducible rfl)
       simp only [Act.put, S_]
       refine R_ 7 (fun K1 hK1 => ?_)
       go_simp
       refine hK1 _ _ ?_
       clear hK1 K1
       refine wpAny_done (by kernel_rfl) ?_ _
       clear x8 f8
       generalize w7.setCell ⟨n, 8, none⟩ (.slice a7 m7 c7) = w8 at *
       clear R8 M8
       obtain ⟨⟨fz0, fz1, fz2, fz3, fz4, fz5, fz6, fz7, fz8⟩, bz0, bz1, bz2, bz3, bz4, bz5, bz6, bz7, bz8⟩ := S8.out.zr.all
       obtain ⟨_, cg0, cg1, cg2, cg3, cg4, cg5, cg6, cg7, cg8⟩ := S8.out.vr.all
       obtain ⟨_, rfl, z9, v9, p9, t9⟩ := S8.out.done
       have Z9 := Zb z9
       have D9 := Zb (And.intro v9 (And.intro p9 t9))
       clear z9 v9 p9 t9 S8
       go_wp2_with fail
       refine Zg (w.heap.size) rfl rfl Z9.out rfl ?_
       have hw := HW.out
       simp only [ZM, if_pos C3.out, if_pos C4.out, if_pos C6.out, if_pos C7.out, CQ.out] at hw
       subst hw
       rw [HK.out]
       exact ⟨_, rfl, D9.out⟩
 · have C7 := Zb c7
   have S7 := Zb (S6.out.bel hb)
   clear c7 hb S6
   go_wp2_with fail
   have hz8 := S7.out.ltz
   have hn8 := S7.out.lt
   refine (list_param S7.out.pr HE.out (paramO L) (fun j m j' hh => Nat.le_of_lt (paramO_gt hh)) (fun j _ w' hw' => param_any hw' HE.out)).mono ?_
   intro e w8 hp
   rcases hp.both with ⟨kb, jb, c8, rfl, r2⟩ | ⟨ns, a, m, ck, j8, hm, c8, rfl, hrow, r1, r2⟩
   · have hw := HW.out
     simp only [ZM, if_pos C3.out, if_pos C4.out, if_pos C6.out, if_neg C7.out, c8] at hw
     subst hw
     exact ⟨rfl, rfl, S7.out.tn.trans r2⟩
   have HJ : Hid (i <= j8 /\ ns.length <= 5000) := ⟨by have := (listO_ge (fun j m j' hh => paramO_gt hh) c8).1; omega, by have := (listO_ge (fun j m j' hh => paramO_gt hh) c8).2; have := r1.lt; omega⟩
   have R8 := Zb hrow
   have M8 := Zb hm
   have C8 := Zb c8
   have S8 := Zb (S7.out.call r1 r2)
   clear c8 r1 r2 hrow hm S7
   have hgn : g < n + 1 := by have := S8.out.ng; have := S8.out.nn; omega
   have RR := Zb ((R8.out.base (show n + 1 <= w7.heap.size from hn8)).tn (Zs S8.out.vr 8 (.slice a m ck)).2 (Nat.lt_succ_self n))
   obtain ⟨⟨fr0, fr1, fr2, fr3, fr4, fr5, fr6, fr7, fr8⟩, ce0, ce1, ce2, ce3, ce4, ce5, ce6, ce7, ce8⟩ := S8.out.vr.all
   have S9 := Zb (S8.out.setKids hz8 hn8 R8.out.kids)
   clear S8
   go_wp2_with fail
   clear fr0 fr1 fr2 fr3 fr4 fr5 fr6 fr7 fr8 ce0 ce1 ce2 ce3 ce4 ce5 ce6 ce7 ce8
   have e9 : (w8.setCell ⟨n, 8, none⟩ (.slice a m ck)).heap.size = w8.heap.size := by simp
   generalize w8.setCell ⟨n, 8, none⟩ (.slice a m ck) = w9 at *
   rw [← e9]
   clear e9
   refine (Zx S9.out.pr HE.out bShut (by decide)).mono ?_
   rintro e w10 (⟨c10, rfl, r2⟩ | ⟨c10, rfl, r1, r2⟩)
   · have hw := HW.out
     simp only [ZM, if_pos C3.out, if_pos C4.out, if_pos C6.out, if_neg C7.out, C8.out, if_neg c10] at hw
     subst hw
     exact ⟨rfl, rfl, S9.out.tn.trans r2⟩
   have RR := Zb (RR.out.tn r2 hgn)
   have C10 := Zb c10
   have S10 := Zb (S9.out.call r1 r2)
   clear c10 r1 r2 S9
   have RR := Zb (RR.out.tn (Zs S10.out.vr 4 (.int .i64 (m : Int))).2 (Nat.lt_succ_self n))
   obtain ⟨⟨fr0, fr1, fr2, fr3, fr4, fr5, fr6, fr7, fr8⟩, ce0, ce1, ce2, ce3, ce4, ce5, ce6, ce7, ce8⟩ := S10.out.vr.all
   have S11 := Zb (S10.out.setN ((m : Int)))
   clear S10
   go_wp2_with fail
   clear fr0 fr1 fr2 fr3 fr4 fr5 fr6 fr7 fr8 ce0 ce1 ce2 ce3 ce4 ce5 ce6 ce7 ce8
   generalize w10.setCell ⟨n, 4, none⟩ (.int .i64 ((m : Int))) = w11 at *
   refine wp_region_any ZI ?_
   change wpAny _ _ _ _ _ _ _ (World.drew _)
   have SW0 := Zb S11.out.drew
   have RW0 := Zb (RR.out.bel (Zm (Below.refl _ _)))
   have hgn : g < n + 1 := by have := SW0.out.ng; have := SW0.out.nn; omega
   have hzn : w.heap.size < n := by have := SW0.out.ne; have := SW0.out.nn; omega
   clear S11 RR
   generalize World.drew w11 = W0 at *
   refine T_ 0 (v := ?_) (fun w => ?_) ?_
   rotate_left 1
   · (go_simp <;> with_reducible rfl)
   simp only [Act.put, S_]
   refine T_ 2 (v := ?_) (fun w => ?_) ?_
   rotate_left 1
   · (go_simp <;> with_reducible rfl)
   simp only [Act.put, S_]
   refine wpAny_ready (rs := [1, 3]) (by kernel_rfl) (by decide) ?_
   refine AllReady.cons rfl (fun K1 hK1 => ?_) (AllReady.cons rfl (fun K1 hK1 => ?_) AllReady.nil)
   · obtain ⟨_, _, _, _, _, _, _, _, _, yq⟩ := SW0.out.vr.all
     go_simp
     refine hK1 _ _ ?_
     clear hK1 K1 yq
     refine R_ 3 (fun K1 hK1 => ?_)
     go_simp
     refine (HB.out (j8 + 1) (by have := HJ.out.1; omega) _ SW0.out.pr).mono ?_
     intro e W1 hp
     rcases hp.both with ⟨kb, jb, cq, rfl, r2⟩ | ⟨kd', ps', nm', t', nz', z', ob', bi', ks', a', len', ck', jq, cq, rfl, hk, r1, r2⟩
     · have hw := HW.out
       simp only [ZM, if_pos C3.out, if_pos C4.out, if_pos C6.out, if_neg C7.out, C8.out, if_pos C10.out, cq] at hw
       subst hw
       exact ⟨rfl, rfl, SW0.out.tn.trans r2⟩
     have CQ := Zb cq
     have SW1 := Zb (SW0.out.call r1 r2)
     have RW1 := Zb (RW0.out.tn r2 hgn)
     have JW1 := Zb hk
     have HC : Hid (∀ k, Value.ownBlock (.slice a m ck) = some k -> k < W0.heap.size) := fun k hk => (RW0.out.own k hk).2
     have HWs := Zb r2.size
     have HN1 := Zb (show n + 1 <= W0.heap.size from SW0.out.lt)
     clear cq hk r1 r2
     refine hK1 _ _ ?_
     clear hK1 K1
     refine R_ 4 (fun K1 hK1 => ?_)
     go_simp
     have hb := Zd W1 (.cells #[.int .i64 kd', .int .i64 ps', .string nm', .int .i64 t', .int .i64 nz', .int .i64 z', .int .i64 ob', .int .u64 bi', .slice a' len' ck'] 29)
     have SW2 := Zb (SW1.out.bel hb)
     have RW2 := Zb (RW1.out.bel hb)
     have PU := Zb (fun ty => Row.push (c := 1) RW2.out HN1.out HC.out (Nat.le_trans HWs.out hb.size) HJ.out.2 (JW1.out.bel hb) (B_ W1 _) ty)
     clear hb JW1
     generalize W1.alloc _ = W2 at *
     generalize W1.heap.size = bx at *
     refine hK1 _ _ ?_
     clear hK1 K1
     refine R_ 5 (fun K1 hK1 => ?_)
     refine ZQ (.tmp 34) (.tmp 37) _ _ _ PU.out rfl rfl rfl rfl ?_
     rintro v7 w7 ⟨o7, t7⟩
     obtain ⟨a7, c7, e7⟩ := o7.len
     obtain ⟨m7, hm7⟩ : ∃ m7, m7 = (ns ++ [Nd.mk kd' ps' nm' t' nz' z' ob' bi' ks']).length := ⟨_, rfl⟩
     rw [← hm7] at e7
     subst e7
     obtain ⟨x8, f8, s8, r8⟩ := SW2.out.grown t7 hzn o7
     have S8 := Zb s8
     have R8 := Zb r8
     have M8 := Zb hm7
     clear s8 r8 hm7 o7 t7 PU SW2 RW2
     refine hK1 _ _ ?_
     clear hK1 K1
     refine T_ 6 (v := ?_) (fun w => ?_) ?_
     rotate_left 1
     · (go_simp <;> with_reducible rfl)
     simp only [Act.put, S_]
     refine R_ 7 (fun K1 hK1 => ?_)
     go_simp
     refine hK1 _ _ ?_
     clear hK1 K1
     refine wpAny_done (by kernel_rfl) ?_ _
     clear x8 f8
     generalize w7.setCell ⟨n, 8, none⟩ (.slice a7 m7 c7) = w8 at *
     clear R8 M8
     obtain ⟨⟨fz0, fz1, fz2, fz3, fz4, fz5, fz6, fz7, fz8⟩, bz0, bz1, bz2, bz3, bz4, bz5, bz6, bz7, bz8⟩ := S8.out.zr.all
     obtain ⟨_, cg0, cg1, cg2, cg3, cg4, cg5, cg6, cg7, cg8⟩ := S8.out.vr.all
     obtain ⟨_, rfl, z9, v9, p9, t9⟩ := S8.out.done
     have Z9 := Zb z9
     have D9 := Zb (And.intro v9 (And.intro p9 t9))
     clear z9 v9 p9 t9 S8
     go_wp2_with fail
     refine Zg (w.heap.size) rfl rfl Z9.out rfl ?_
     have hw := HW.out
     simp only [ZM, if_pos C3.out, if_pos C4.out, if_pos C6.out, if_neg C7.out, C8.out, if_pos C10.out, CQ.out] at hw
     subst hw
     rw [HK.out]
     rw [← M8.out]
     exact ⟨_, rfl, D9.out⟩
   · go_simp
     refine (HB.out (j8 + 1) (by have := HJ.out.1; omega) _ SW0.out.pr).mono ?_
     intro e W1 hp
     rcases hp.both with ⟨kb, jb, cq, rfl, r2⟩ | ⟨kd', ps', nm', t', nz', z', ob', bi', ks', a', len', ck', jq, cq, rfl, hk, r1, r2⟩
     · have hw := HW.out
       simp only [ZM, if_pos C3.out, if_pos C4.out, if_pos C6.out, if_neg C7.out, C8.out, if_pos C10.out, cq] at hw
       subst hw
       exact ⟨rfl, rfl, SW0.out.tn.trans r2⟩
     have CQ := Zb cq
     have SW1 := Zb (SW0.out.call r1 r2)
     have RW1 := Zb (RW0.out.tn r2 hgn)
     have JW1 := Zb hk
     have HC : Hid (∀ k, Value.ownBlock (.slice a m ck) = some k -> k < W0.heap.size) := fun k hk => (RW0.out.own k hk).2
     have HWs := Zb r2.size
     have HN1 := Zb (show n + 1 <= W0.heap.size from SW0.out.lt)
     clear cq hk r1 r2
     refine hK1 _ _ ?_
     clear hK1 K1
     refine wpAny_ready (rs := [1, 4]) (by kernel_rfl) (by decide) ?_
     refine AllReady.cons rfl (fun K1 hK1 => ?_) (AllReady.cons rfl (fun K1 hK1 => ?_) AllReady.nil)
     · obtain ⟨_, _, _, _, _, _, _, _, _, yq⟩ := SW1.out.vr.all
       go_simp
       refine hK1 _ _ ?_
       clear hK1 K1 yq
       refine R_ 4 (fun K1 hK1 => ?_)
       go_simp
       have hb := Zd W1 (.cells #[.int .i64 kd', .int .i64 ps', .string nm', .int .i64 t', .int .i64 nz', .int .i64 z', .int .i64 ob', .int .u64 bi', .slice a' len' ck'] 29)
       have SW2 := Zb (SW1.out.bel hb)
       have RW2 := Zb (RW1.out.bel hb)
       have PU := Zb (fun ty => Row.push (c := 1) RW2.out HN1.out HC.out (Nat.le_trans HWs.out hb.size) HJ.out.2 (JW1.out.bel hb) (B_ W1 _) ty)
       clear hb JW1
       generalize W1.alloc _ = W2 at *
       generalize W1.heap.size = bx at *
       refine hK1 _ _ ?_
       clear hK1 K1
       refine R_ 5 (fun K1 hK1 => ?_)
       refine ZQ (.tmp 34) (.tmp 37) _ _ _ PU.out rfl rfl rfl rfl ?_
       rintro v7 w7 ⟨o7, t7⟩
       obtain ⟨a7, c7, e7⟩ := o7.len
       obtain ⟨m7, hm7⟩ : ∃ m7, m7 = (ns ++ [Nd.mk kd' ps' nm' t' nz' z' ob' bi' ks']).length := ⟨_, rfl⟩
       rw [← hm7] at e7
       subst e7
       obtain ⟨x8, f8, s8, r8⟩ := SW2.out.grown t7 hzn o7
       have S8 := Zb s8
       have R8 := Zb r8
       have M8 := Zb hm7
       clear s8 r8 hm7 o7 t7 PU SW2 RW2
       refine hK1 _ _ ?_
       clear hK1 K1
       refine T_ 6 (v := ?_) (fun w => ?_) ?_
       rotate_left 1
       · (go_simp <;> with_reducible rfl)
       simp only [Act.put, S_]
       refine R_ 7 (fun K1 hK1 => ?_)
       go_simp
       refine hK1 _ _ ?_
       clear hK1 K1
       refine wpAny_done (by kernel_rfl) ?_ _
       clear x8 f8
       generalize w7.setCell ⟨n, 8, none⟩ (.slice a7 m7 c7) = w8 at *
       clear R8 M8
       obtain ⟨⟨fz0, fz1, fz2, fz3, fz4, fz5, fz6, fz7, fz8⟩, bz0, bz1, bz2, bz3, bz4, bz5, bz6, bz7, bz8⟩ := S8.out.zr.all
       obtain ⟨_, cg0, cg1, cg2, cg3, cg4, cg5, cg6, cg7, cg8⟩ := S8.out.vr.all
       obtain ⟨_, rfl, z9, v9, p9, t9⟩ := S8.out.done
       have Z9 := Zb z9
       have D9 := Zb (And.intro v9 (And.intro p9 t9))
       clear z9 v9 p9 t9 S8
       go_wp2_with fail
       refine Zg (w.heap.size) rfl rfl Z9.out rfl ?_
       have hw := HW.out
       simp only [ZM, if_pos C3.out, if_pos C4.out, if_pos C6.out, if_neg C7.out, C8.out, if_pos C10.out, CQ.out] at hw
       subst hw
       rw [HK.out]
       rw [← M8.out]
       exact ⟨_, rfl, D9.out⟩
     · go_simp
       have hb := Zd W1 (.cells #[.int .i64 kd', .int .i64 ps', .string nm', .int .i64 t', .int .i64 nz', .int .i64 z', .int .i64 ob', .int .u64 bi', .slice a' len' ck'] 29)
       have SW2 := Zb (SW1.out.bel hb)
       have RW2 := Zb (RW1.out.bel hb)
       have PU := Zb (fun ty => Row.push (c := 1) RW2.out HN1.out HC.out (Nat.le_trans HWs.out hb.size) HJ.out.2 (JW1.out.bel hb) (B_ W1 _) ty)
       clear hb JW1
       generalize W1.alloc _ = W2 at *
       generalize W1.heap.size = bx at *
       refine hK1 _ _ ?_
       clear hK1 K1
       refine R_ 1 (fun K1 hK1 => ?_)
       obtain ⟨_, _, _, _, _, _, _, _, _, yq⟩ := SW2.out.vr.all
       go_simp
       refine hK1 _ _ ?_
       clear hK1 K1 yq
       refine R_ 5 (fun K1 hK1 => ?_)
       refine ZQ (.tmp 34) (.tmp 37) _ _ _ PU.out rfl rfl rfl rfl ?_
       rintro v7 w7 ⟨o7, t7⟩
       obtain ⟨a7, c7, e7⟩ := o7.len
       obtain ⟨m7, hm7⟩ : ∃ m7, m7 = (ns ++ [Nd.mk kd' ps' nm' t' nz' z' ob' bi' ks']).length := ⟨_, rfl⟩
       rw [← hm7] at e7
       subst e7
       obtain ⟨x8, f8, s8, r8⟩ := SW2.out.grown t7 hzn o7
       have S8 := Zb s8
       have R8 := Zb r8
       have M8 := Zb hm7
       clear s8 r8 hm7 o7 t7 PU SW2 RW2
       refine hK1 _ _ ?_
       clear hK1 K1
       refine T_ 6 (v := ?_) (fun w => ?_) ?_
       rotate_left 1
       · (go_simp <;> with_reducible rfl)
       simp only [Act.put, S_]
       refine R_ 7 (fun K1 hK1 => ?_)
       go_simp
       refine hK1 _ _ ?_
       clear hK1 K1
       refine wpAny_done (by kernel_rfl) ?_ _
       clear x8 f8
       generalize w7.setCell ⟨n, 8, none⟩ (.slice a7 m7 c7) = w8 at *
       clear R8 M8
       obtain ⟨⟨fz0, fz1, fz2, fz3, fz4, fz5, fz6, fz7, fz8⟩, bz0, bz1, bz2, bz3, bz4, bz5, bz6, bz7, bz8⟩ := S8.out.zr.all
       obtain ⟨_, cg0, cg1, cg2, cg3, cg4, cg5, cg6, cg7, cg8⟩ := S8.out.vr.all
       obtain ⟨_, rfl, z9, v9, p9, t9⟩ := S8.out.done
       have Z9 := Zb z9
       have D9 := Zb (And.intro v9 (And.intro p9 t9))
       clear z9 v9 p9 t9 S8
       go_wp2_with fail
       refine Zg (w.heap.size) rfl rfl Z9.out rfl ?_
       have hw := HW.out
       simp only [ZM, if_pos C3.out, if_pos C4.out, if_pos C6.out, if_neg C7.out, C8.out, if_pos C10.out, CQ.out] at hw
       subst hw
       rw [HK.out]
       rw [← M8.out]
       exact ⟨_, rfl, D9.out⟩
theorem all0_any (w : World) (g : Nat) :
 Calls Tryz.prog 228 #[.pointer (some ⟨g, 0, none⟩), .slice none 0 0] w fun e w' => e = .returned (.slice none 0 0) /\ w' = w := by
 go_enter Tryz.func228, Tryz.ntmps228
 go_wp2_with fail
 refine wp_loop_rounds 1 ?_
 rw [rounds_succ]
 go_wp2_with fail
 go_ret
 exact ⟨rfl, rfl⟩
theorem all2_any {w : World} {p : List Addr} {g gT : Nat} {L : List Tk} {i l : Nat} (h : Ps w p g gT L i l) (ex bl : Nat -> Out) (he : ZS 32 p g gT L l i (ex i)) (hbl : ∀ n j, ex i = .ok n j -> ZS 126 p g gT L l j (bl j)) :
 Calls Tryz.prog 228 #[.pointer (some ⟨g, 0, none⟩), .slice (some ⟨w.heap.size, 0, none⟩) 2 2] (w.alloc (.cells #[.func (.func 32) #[.pointer (some ⟨g, 0, none⟩)] #[], .func (.func 126) #[.pointer (some ⟨g, 0, none⟩)] #[]] 68)) fun e w' => PostR p g gT L l w e w' (all2O ex bl i) := by
 have hb0 := Zd w (.cells #[.func (.func 32) #[.pointer (some ⟨g, 0, none⟩)] #[], .func (.func 126) #[.pointer (some ⟨g, 0, none⟩)] #[]] 68)
 have hgl := h.lt_g
 have hT := h.row.lt
 have HP := Zb (h.below hb0)
 have T0 := Zb (Tn.of_bel (g := g) hb0)
 have k0 : (w.alloc (.cells #[.func (.func 32) #[.pointer (some ⟨g, 0, none⟩)] #[], .func (.func 126) #[.pointer (some ⟨g, 0, none⟩)] #[]] 68)).heap[w.heap.size]? = some (.cells #[.func (.func 32) #[.pointer (some ⟨g, 0, none⟩)] #[], .func (.func 126) #[.pointer (some ⟨g, 0, none⟩)] #[]] 68 (0, 0)) := B_ _ _
 have c0 := Zf k0 0 _ rfl
 have K0 := Zb (Zf k0 1 _ rfl)
 have hs0 : (w.alloc (.cells #[.func (.func 32) #[.pointer (some ⟨g, 0, none⟩)] #[], .func (.func 126) #[.pointer (some ⟨g, 0, none⟩)] #[]] 68)).heap.size = w.heap.size + 1 := by simp
 have HR := Zb he
 have HB := Zb hbl
 obtain ⟨out, ho⟩ : ∃ out, all2O ex bl i = out := ⟨_, rfl⟩
 rw [ho]
 have HW := Zb ho
 clear h he hbl ho hb0 k0
 generalize w.alloc _ = w0 at *
 obtain ⟨b0, hb0⟩ : ∃ b0, b0 = w.heap.size := ⟨_, rfl⟩
 rw [← hb0] at c0 K0 hs0 hgl hT ⊢
 have HB0 := Zb hb0
 have HS0 := Zb hs0
 clear hb0 hs0
 go_enter Tryz.func228, Tryz.ntmps228
 go_wp2_with fail
 refine wp_loop_rounds 3 ?_
 rw [rounds_succ]
 go_wp2_with fail
 refine (HR.out _ HP.out).mono ?_
 intro e w4 hp
 rcases hp.both with ⟨kb, jb, c1, rfl, r2⟩ | ⟨kd, ps, nm, t, nz, z, ob, bi, ks, a, len, ck, j, c1, rfl, hk, r1, r2⟩
 · have hw := HW.out
   simp only [all2O, c1] at hw
   subst hw
   exact ⟨rfl, rfl, T0.out.trans r2⟩
 have C1 := Zb c1
 have hb6 := Zd w4 (.cells #[.int .i64 kd, .int .i64 ps, .string nm, .int .i64 t, .int .i64 nz, .int .i64 z, .int .i64 ob, .int .u64 bi, .slice a len ck] 29)
 have PU := Zb (fun ty => Row.push (B := b0 + 1) (c := 1) (Row.nil _ _) (Nat.le_of_eq HS0.out.symm) (fun k hk => by cases hk) (Nat.le_trans r2.size hb6.size) (by simp) (hk.bel hb6) (B_ w4 _) ty)
 have R6 := Zb (And.intro (r1.below hb6) ((T0.out.trans r2).trans (Tn.of_bel hb6)))
 have K6 := Zb (((Tn.trans r2 (Tn.of_bel hb6))).cell (show b0 ≠ g by omega) K0.out)
 clear hk hb6 r1 r2 c1 c0 HR K0
 go_wp2_with (first | (at_builtin; refine Yv (.tmp 14) (.tmp 17) _ _ _ PU.out rfl rfl rfl rfl ?_; rintro v7 w7 ⟨o7, t7⟩))
 have o7 : Row w7 (b0 + 1) [Nd.mk kd ps nm t nz z ob bi ks] v7 := o7
 obtain ⟨a7, c7, e7⟩ := o7.len
 rw [List.length_singleton] at e7
 subst e7
 have H7 := Zb (R6.out.1.belB t7 (by omega) (by omega))
 have T7 := Zb (R6.out.2.belB t7 (by have := HB0.out; omega))
 have R7 := Zb o7
 have c8 := (t7.cell (p := ⟨b0, 1, none⟩) (Nat.lt_succ_self b0)).trans K6.out
 have hs7 : b0 < w7.heap.size := World.block_lt_of_cell? w7 _ c8
 clear o7 t7 PU R6 K6
 rw [rounds_succ]
 go_wp2_with fail
 refine (HB.out _ _ C1.out _ H7.out).mono ?_
 intro e w8 hp
 rcases hp.both with ⟨kb, jb, c2, rfl, r2⟩ | ⟨kd', ps', nm', t', nz', z', ob', bi', ks', a', len', ck', j', c2, rfl, hk, r1, r2⟩
 · have hw := HW.out
   simp only [all2O, C1.out, c2] at hw
   subst hw
   exact ⟨rfl, rfl, T7.out.trans r2⟩
 have C2 := Zb c2
 have hb9 := Zd w8 (.cells #[.int .i64 kd', .int .i64 ps', .string nm', .int .i64 t', .int .i64 nz', .int .i64 z', .int .i64 ob', .int .u64 bi', .slice a' len' ck'] 29)
 have PU := Zb (fun ty => Row.push (c := 1) ((R7.out.tn r2 (by omega)).bel hb9) hs7 (fun k hk => (R7.out.own k hk).2) (Nat.le_trans r2.size hb9.size) (by simp) (hk.bel hb9) (B_ w8 _) ty)
 have R9 := Zb (And.intro (r1.below hb9) ((T7.out.trans r2).trans (Tn.of_bel hb9)))
 clear hk hb9 r1 r2 c2 c8 HB R7
 go_wp2_with (first | (at_builtin; refine Yv (.tmp 14) (.tmp 17) _ _ _ PU.out rfl rfl rfl rfl ?_; rintro v9 w9 ⟨o9, t9⟩))
 have R10 := Zb (o9.base (show w.heap.size <= b0 + 1 by have := HB0.out; omega))
 have H10 := Zb (And.intro (R9.out.1.belB t9 (by omega) (by omega)) (R9.out.2.belB t9 (by have := HB0.out; omega)))
 clear o9 t9 PU R9
 rw [rounds_succ]
 go_wp2_with fail
 go_ret
 have hw := HW.out
 simp only [all2O, C1.out, C2.out] at hw
 subst hw
 exact ⟨_, rfl, R10.out, H10.out⟩
end Go.Proofs.YtfnplhfjfolojaaGreatDoor.Ck
