/- Package code: the operators; a map of shapes. -/
import Derived.Test.YtlheflkdapckbaaDoorCa
import Derived.Maps.OwnSet
import Derived.Maps.Views
namespace Go.Proofs.YtlheflkdapckbaaDoor.Ck
open Go.RowKit

def opU : Array Value := #[.string ⟨#[45]⟩, .string ⟨#[33]⟩, .string ⟨#[105, 110, 116]⟩, .string ⟨#[102, 108, 111, 97, 116]⟩]
def opB : Array Value := #[.string ⟨#[43]⟩, .string ⟨#[45]⟩, .string ⟨#[42]⟩, .string ⟨#[47]⟩, .string ⟨#[37]⟩, .string ⟨#[61, 61]⟩, .string ⟨#[33, 61]⟩, .string ⟨#[60]⟩, .string ⟨#[60, 61]⟩, .string ⟨#[62]⟩, .string ⟨#[62, 61]⟩]
/-- a slice of strings of one's own, in block g -/
def OpsP (w : World) (n : Nat) (cs : Array Value) (e : Ending) (w' : World) : Prop := ∃ g, e = .returned (.slice (some ⟨g, 0, none⟩) n n) ∧ w'.heap[g]? = some (.cells cs 9 (0, 0)) ∧ Below w.heap.size w w'
theorem operators_un (w : World) : Calls Tryd.prog 59 #[.int .i64 10] w (OpsP w 4 opU) := by
  have HB := hide (fun o => bel_new w o)
  go_enter Tryd.func59, Tryd.ntmps59
  go_wp2_with fail
  go_ret
  exact ⟨_, rfl, Go.Deep.blk_alloc_new _ _, HB.out _⟩
theorem operators_bin (w : World) : Calls Tryd.prog 59 #[.int .i64 11] w (OpsP w 11 opB) := by
  have HB := hide (fun o => bel_new w o)
  go_enter Tryd.func59, Tryd.ntmps59
  go_wp2_with fail
  go_ret
  exact ⟨_, rfl, Go.Deep.blk_alloc_new _ _, HB.out _⟩
theorem operators_no (op : Int) (w : World) (h1 : op ≠ 10) (h2 : op ≠ 11) : Calls Tryd.prog 59 #[.int .i64 op] w fun e w' => e = .returned (.slice none 0 0) ∧ w = w' := by
  have e1 : (op == 10) = false := beq_false_of_ne h1
  have e2 : (op == 11) = false := beq_false_of_ne h2
  clear h1 h2
  go_enter Tryd.func59, Tryd.ntmps59
  go_wp2_with fail
  go_ret
  exact ⟨rfl, rfl⟩

/-- what an instruction's fields may be -/
structure Shp where
  a0 : Int
  a1 : Int
  b0 : Int
  b1 : Int
  bits : Int
abbrev shV (s : Shp) : Value := .agg #[.int .i64 s.a0, .int .i64 s.a1, .int .i64 s.b0, .int .i64 s.b1, .int .u64 s.bits]
def shD (s : Shp) : DataW Unit := .agg [.lit (.int .i64 s.a0), .lit (.int .i64 s.a1), .lit (.int .i64 s.b0), .lit (.int .i64 s.b1), .lit (.int .u64 s.bits)]
def shZ : Shp := ⟨0, 0, 0, 0, 0⟩
def shR (v : Value) : Option (DataW Unit × List MemPlace) := match v with
  | .agg a => (match a.toList with | [.int .i64 x, .int .i64 y, .int .i64 z, .int .i64 u, .int .u64 t] => some (shD ⟨x, y, z, u, t⟩, []) | _ => none)
  | _ => none
theorem shR_v (s : Shp) : shR (shV s) = some (shD s, []) := rfl
theorem shR_inv {v : Value} {s : Shp} {ps : List MemPlace} (h : shR v = some (shD s, ps)) : v = shV s := by
  unfold shR at h
  split at h
  · rename_i a
    split at h
    · rename_i x y z u t hx
      simp [shD] at h
      obtain ⟨⟨e1, e2, e3, e4, e5⟩, _⟩ := h
      have e : a = #[.int .i64 x, .int .i64 y, .int .i64 z, .int .i64 u, .int .u64 t] := Array.toList_inj.1 (by rw [hx])
      rw [e, e1, e2, e3, e4, e5]
    · cases h
  · cases h
/-- block b is a map of at most n shapes; f: what stands for each number -/
def ShM (w : World) (b n : Nat) (f : Int → Option Shp) : Prop :=
  ∃ D, w.ownsMap (H := Unit) Tryd.prog 3 shR b n D ∧ ∀ x : Int, D.atKey (.int .i64 x) (shD shZ) = shD ((f x).getD shZ) ∧ Maps.has D (.int .i64 x) = (f x).isSome
theorem ShM.made (w : World) : ShM (w.alloc (.map #[] 0)) w.heap.size 0 (fun _ => none) := ⟨_, World.ownsMap_made w _ _ _, fun _ => ⟨rfl, rfl⟩⟩
theorem ShM.lt {w : World} {b n : Nat} {f : Int → Option Shp} (h : ShM w b n f) : b < w.heap.size := by
  obtain ⟨D, ⟨es, clock, h1, h2⟩, h3⟩ := h
  exact lt_of_blk h1
theorem ShM.bel {w w' : World} {b n : Nat} {f : Int → Option Shp} (h : ShM w b n f) (hb : Below w.heap.size w w') : ShM w' b n f := by
  obtain ⟨D, ⟨es, clock, h1, h2⟩, h3⟩ := h
  exact ⟨D, ⟨es, clock, (hb.block b (lt_of_blk h1)).trans h1, h2⟩, h3⟩
theorem ShM.mono {w : World} {b n n' : Nat} {f : Int → Option Shp} (h : ShM w b n f) (hn : n ≤ n') : ShM w b n' f := by
  obtain ⟨D, h1, h2⟩ := h
  exact ⟨D, h1.mono hn, h2⟩
theorem ShM.add {w : World} {b n : Nat} {f : Int → Option Shp} (h : ShM w b n f) (hn : n < maxLen) (x : Int) (hw : (Lit.int .i64 x).wf = true) (s : Shp) :
    ∃ w', (Instr.mapUpdate 102 (.map (some b)) (.int .i64 x) (shV s)).run Tryd.prog w = .ok () w' ∧ ShM w' b (n + 1) (fun y => if y = x then some s else f y) ∧ w.grownBy w' (some b) := by
  obtain ⟨D, ho, hD⟩ := h
  have hk := Go.Maps.keyOf_int_mk Tryd.underlying3 hw
  have K := Go.Maps.int_keyed Tryd.underlying3
  obtain ⟨w', r, o, g⟩ := ho.update (t := 102) K Tryd.underlying102 hn hk (d := shD s) (ps := []) (val := shV s) (shR_v s)
  refine ⟨w', r, ⟨_, o, fun y => ?_⟩, g⟩
  dsimp only
  by_cases e : y = x
  · subst e
    rw [if_pos rfl]
    exact ⟨Go.Maps.atKey_put_same ho.isMap (K.key hk) _ _, Go.Maps.has_put_same ho.isMap (K.key hk) _⟩
  · rw [if_neg e]
    exact ⟨(Go.Maps.atKey_put_other (fun h => e (by injection h)) _ _).trans (hD y).1, (Go.Maps.has_put_other (fun h => e (by injection h)) _).trans (hD y).2⟩
theorem wf_int {x : Int} (h1 : -9223372036854775808 ≤ x) (h2 : x ≤ 9223372036854775807) : (Lit.int .i64 x).wf = true := by
  simp [Lit.wf]
  exact ⟨h1, h2⟩
theorem zero_sh (w : World) : (zeroValue 105).run Tryd.prog w = .ok (shV shZ) w := by kernel_rfl
theorem ShM.look {w : World} {b n : Nat} {f : Int → Option Shp} (h : ShM w b n f) (x : Int) (hw : (Lit.int .i64 x).wf = true) :
    (Instr.lookup 102 (.map (some b)) (.int .i64 x) true).run Tryd.prog w = .ok (.tuple #[shV ((f x).getD shZ), .bool (f x).isSome]) w := by
  obtain ⟨D, ho, hD⟩ := h
  have hk := Go.Maps.keyOf_int_mk Tryd.underlying3 hw
  have K := Go.Maps.int_keyed Tryd.underlying3
  obtain ⟨v, ps, hr, hv⟩ := ho.look_ok (t := 102) K Tryd.underlying102 (zero_sh w) (zd := shD shZ) (zp := []) (shR_v shZ) hk
  rw [(hD x).1] at hv
  rw [hr, shR_inv hv, (hD x).2]
end Go.Proofs.YtlheflkdapckbaaDoor.Ck
