/- Texts of this proof, packed: contracts of the program's functions, and the plain model that they are held against. -/
import Derived.Test.YtogeblmppagabaaGreatDoorQaz
import Derived.Deep.RegionLaw
/- The grammar of declarations and statements, as plain functions; the parser's steps, both ways at once. -/
namespace Go.Proofs.YtogeblmppagabaaGreatDoor.Ck
open Go.RowKit

inductive OutI where
  | ok (z : Int) (j : Nat)
  | bad (k j : Nat)
def bSemi : ByteArray := ⟨#[59]⟩
def bComma : ByteArray := ⟨#[44]⟩
def bInt : ByteArray := ⟨#[105, 110, 116]⟩
def bFloat : ByteArray := ⟨#[102, 108, 111, 97, 116]⟩
def bBool : ByteArray := ⟨#[98, 111, 111, 108]⟩
def bFunc : ByteArray := ⟨#[102, 117, 110, 99]⟩
def bCur : ByteArray := ⟨#[123]⟩
def bCue : ByteArray := ⟨#[125]⟩
def bElse : ByteArray := ⟨#[101, 108, 115, 101]⟩
def bLet : ByteArray := ⟨#[58, 61]⟩
def bSet : ByteArray := ⟨#[61]⟩
def typedO (L : List Tk) (i : Nat) : OutI :=
  if has L i [bInt] = true then .ok 1 (i + 1) else if has L i [bFloat] = true then .ok 2 (i + 1) else if has L i [bBool] = true then .ok 3 (i + 1) else .bad 1 i
def boundO (L : List Tk) (i : Nat) : OutI :=
  if has L i [bOpn] = true then if (tkAt L (i + 1)).kind = 3 then if has L (i + 1 + 1) [bSht] = true then .ok (tkAt L (i + 1)).n (i + 1 + 1 + 1) else .bad 1 (i + 1 + 1) else .bad 1 (i + 1) else .bad 1 i
/-- a node, if a semicolon ends it -/
def endO (L : List Tk) (j : Nat) (n : Nd) : Out := if has L j [bSemi] = true then .ok n (j + 1) else .bad 1 j
def variableO (L : List Tk) (i : Nat) : Out :=
  if (tkAt L (i + 1)).kind = 1 then
    if has L (i + 1 + 1) [bOpn] = true then
      match boundO L (i + 1 + 1) with
      | .ok z j => match typedO L j with | .ok t j => endO L j (.mk 3 (tkAt L i).pos (tx L (i + 1)) t z 0 0 0 []) | .bad k j => .bad k j
      | .bad k j => .bad k j
    else match typedO L (i + 1 + 1) with | .ok t j => endO L j (.mk 2 (tkAt L i).pos (tx L (i + 1)) t 0 0 0 0 []) | .bad k j => .bad k j
  else .bad 1 (i + 1)
def channelO (L : List Tk) (i : Nat) : Out :=
  if (tkAt L (i + 1)).kind = 1 then
    match boundO L (i + 1 + 1) with
    | .ok z j => match typedO L j with | .ok t j => endO L j (.mk 5 (tkAt L i).pos (tx L (i + 1)) t z 0 0 0 []) | .bad k j => .bad k j
    | .bad k j => .bad k j
  else .bad 1 (i + 1)
def named0O (L : List Tk) (kd : Int) (i : Nat) : Out :=
  if (tkAt L (i + 1)).kind = 1 then endO L (i + 1 + 1) (.mk kd (tkAt L i).pos (tx L (i + 1)) 0 0 0 0 0 []) else .bad 1 (i + 1)
def named1O (L : List Tk) (kd : Int) (i : Nat) (r : Out) : Out :=
  if (tkAt L (i + 1)).kind = 1 then
    if has L (i + 1 + 1) [bComma] = true then match r with | .ok n j => endO L j (.mk kd (tkAt L i).pos (tx L (i + 1)) 0 0 0 0 0 [n]) | .bad k j => .bad k j
    else .bad 1 (i + 1 + 1)
  else .bad 1 (i + 1)
def paramO (L : List Tk) (i : Nat) : Out :=
  if (tkAt L i).kind = 1 then match typedO L (i + 1) with | .ok t j => .ok (.mk 8 (tkAt L i).pos (tx L i) t 0 0 0 0 []) j | .bad k j => .bad k j else .bad 1 i
/-- what stands by a rule, with a comma between each two -/
def listF (rule : Nat → Out) (L : List Tk) : Nat → Nat → List Nd → OutL
  | 0, j, _ => .bad 0 j
  | f + 1, j, ns => if has L j [bComma] = true then (match rule (j + 1) with | .ok m j' => listF rule L f j' (ns ++ [m]) | .bad k j' => .bad k j') else .ok ns j
def listO (rule : Nat → Out) (L : List Tk) (i : Nat) : OutL :=
  match rule i with | .ok n j => listF rule L L.length j [n] | .bad k j => .bad k j
/-- what stands between two brackets, of which the inner comes out so -/
def wrapL (L : List Tk) (l i : Nat) (op sh : ByteArray) (r : OutL) : OutL :=
  if has L i [op] = true then (if l = 16 then .bad 2 i else match r with | .ok n j => if has L j [sh] = true then .ok n (j + 1) else .bad 1 j | .bad k j => .bad k j) else .bad 1 i
def argsO (L : List Tk) (i : Nat) (rule : Nat → Out) : OutL := if has L i [bShut] = true then .ok [] i else listO rule L i
/-- the end of a call whose head stands before token i -/
def calledO (L : List Tk) (l i : Nat) (rule : Nat → Out) (mkn : List Nd → Nd) : Out :=
  match wrapL L l i bOpen bShut (argsO L (i + 1) rule) with | .ok ns j => endO L j (mkn ns) | .bad k j => .bad k j
def goesO (L : List Tk) (l i : Nat) (rule : Nat → Out) : Out :=
  if (tkAt L (i + 1)).kind = 1 then calledO L l (i + 1 + 1) rule (fun ns => .mk 12 (tkAt L i).pos (tx L (i + 1)) 0 0 0 0 0 ns) else .bad 1 (i + 1)
def blockO (L : List Tk) (l i : Nat) (r : OutL) : Out :=
  match wrapL L l i bCur bCue r with | .ok ns j => .ok (.mk 9 (tkAt L i).pos ⟨#[]⟩ 0 0 0 0 0 ns) j | .bad k j => .bad k j
def stmtsF (rule : Nat → Out) (L : List Tk) : Nat → Nat → List Nd → OutL
  | 0, j, _ => .bad 0 j
  | f + 1, j, ns => if has L j [bCue] = true then .ok ns j else match rule j with | .ok m j' => stmtsF rule L f j' (ns ++ [m]) | .bad k j' => .bad k j'
/-- two rules, one behind the other -/
def all2O (ex bl : Nat → Out) (i : Nat) : OutL :=
  match ex i with | .ok n j => (match bl j with | .ok m j' => .ok [n, m] j' | .bad k j' => .bad k j') | .bad k j => .bad k j
def branchO (L : List Tk) (i : Nat) (ex bl : Nat → Out) : Out :=
  match all2O ex bl (i + 1) with
  | .ok ns j => if has L j [bElse] = true then (match bl (j + 1) with | .ok m j' => .ok (.mk 21 (tkAt L i).pos ⟨#[]⟩ 0 0 0 0 0 (ns ++ [m])) j' | .bad k j' => .bad k j') else .ok (.mk 21 (tkAt L i).pos ⟨#[]⟩ 0 0 0 0 0 ns) j
  | .bad k j => .bad k j
def loopO (L : List Tk) (i : Nat) (ex bl : Nat → Out) : Out :=
  match all2O ex bl (i + 1) with | .ok ns j => .ok (.mk 22 (tkAt L i).pos ⟨#[]⟩ 0 0 0 0 0 ns) j | .bad k j => .bad k j
def leave0O (L : List Tk) (i : Nat) : Out := endO L (i + 1) (.mk 23 (tkAt L i).pos ⟨#[]⟩ 0 0 0 0 0 [])
def leave1O (L : List Tk) (i : Nat) (r : Out) : Out := match r with | .ok n j => endO L j (.mk 24 (tkAt L i).pos ⟨#[]⟩ 0 0 0 0 0 [n]) | .bad k j => .bad k j
/-- a statement that begins with a word -/
def wordFirstO (L : List Tk) (l : Nat) (tg : Out) (ex : Nat → Out) (exIn : Nat → Out) : Out :=
  match tg with
  | .bad k j => .bad k j
  | .ok n j =>
    if n.kind = 28 ∧ has L j [bOpen] = true then calledO L l j exIn (fun ns => .mk 13 n.pos n.name 0 0 0 0 0 ns)
    else if n.kind = 28 ∧ has L j [bLet] = true then (match ex (j + 1) with | .ok m j' => endO L j' (.mk 11 n.pos n.name 0 0 0 0 0 [m]) | .bad k j' => .bad k j')
    else if has L j [bSet] = true then (match ex (j + 1) with | .ok m j' => endO L j' (.mk 10 n.pos ⟨#[]⟩ 0 0 0 0 0 [n, m]) | .bad k j' => .bad k j')
    else .bad 1 j
def functionO (L : List Tk) (i : Nat) (bl : Nat → Out) : Out :=
  if has L i [bFunc] = true then
    if (tkAt L (i + 1)).kind = 1 then
      if has L (i + 1 + 1) [bOpen] = true then
        match (if has L (i + 1 + 1 + 1) [bShut] = true then OutL.ok [] (i + 1 + 1 + 1) else listO (paramO L) L (i + 1 + 1 + 1)) with
        | .ok ns j => if has L j [bShut] = true then (match bl (j + 1) with | .ok b j' => .ok (.mk 7 (tkAt L i).pos (tx L (i + 1)) 0 ns.length 0 0 0 (ns ++ [b])) j' | .bad k j' => .bad k j') else .bad 1 j
        | .bad k j => .bad k j
      else .bad 1 (i + 1 + 1)
    else .bad 1 (i + 1)
  else .bad 1 i

section
variable {w : World} {p : List Addr} {g gT : Nat} {L : List Tk} {i l : Nat}
theorem take_both (h : Ps w p g gT L i l) (hE : Ends L) (text : ByteArray) (hz : text.size ≠ 0) :
    Calls Tryz.prog 135 #[.pointer (some ⟨g, 0, none⟩), .slice (some ⟨w.heap.size, 0, none⟩) 1 1] (w.alloc (.cells #[.string text] 9)) fun e w' =>
      (¬ has L i [text] = true ∧ e = stop (errV p 1) (tkAt L i).pos ∧ Tn g w w') ∨ (has L i [text] = true ∧ e = .returned (.tuple #[]) ∧ Ps w' p g gT L (i + 1) l ∧ Tn g w w') := by
  by_cases hh : has L i [text] = true
  · exact (take_new h text hh (has_next hE h.lt (by simpa using hz) hh)).mono (fun e w' r => .inr ⟨hh, r⟩)
  · exact (take_not h text (by simpa using hh)).mono (fun e w' r => .inl ⟨hh, r⟩)
theorem taken_both (h : Ps w p g gT L i l) (hE : Ends L) (text : ByteArray) (hz : text.size ≠ 0) :
    Calls Tryz.prog 161 #[.pointer (some ⟨g, 0, none⟩), .string text] w fun e w' =>
      (has L i [text] = true ∧ e = .returned (.bool true) ∧ Ps w' p g gT L (i + 1) l ∧ Tn g w w') ∨ (¬ has L i [text] = true ∧ e = .returned (.bool false) ∧ Ps w' p g gT L i l ∧ Tn g w w') := by
  by_cases hh : has L i [text] = true
  · exact (taken_yes h text hh (has_next hE h.lt (by simpa using hz) hh)).mono (fun e w' r => .inl ⟨hh, r⟩)
  · exact (taken_no h text (by simpa using hh)).mono (fun e w' r => .inr ⟨hh, r.1, h.below r.2, Tn.of_bel r.2⟩)
theorem sees_both (h : Ps w p g gT L i l) (text : ByteArray) :
    Calls Tryz.prog 81 #[.pointer (some ⟨g, 0, none⟩), .slice (some ⟨w.heap.size, 0, none⟩) 1 1] (w.alloc (.cells #[.string text] 9)) fun e w' =>
      (has L i [text] = true ∧ e = .returned (.bool true) ∧ Below w.heap.size w w') ∨ (¬ has L i [text] = true ∧ e = .returned (.bool false) ∧ Below w.heap.size w w') :=
  (sees_new h [text] 1 _ rfl rfl (by omega)).mono (fun e w' r => by
    by_cases hh : has L i [text] = true
    · exact .inl ⟨hh, by rw [r.1, hh], r.2⟩
    · have hh' : has L i [text] = false := by simpa using hh
      exact .inr ⟨hh, by rw [r.1, hh'], r.2⟩)
theorem word_both (h : Ps w p g gT L i l) (hE : Ends L) :
    Calls Tryz.prog 132 #[.pointer (some ⟨g, 0, none⟩)] w fun e w' =>
      (¬ (tkAt L i).kind = 1 ∧ e = stop (errV p 1) (tkAt L i).pos ∧ Tn g w w') ∨ ((tkAt L i).kind = 1 ∧ e = .returned (.string (tx L i)) ∧ Ps w' p g gT L (i + 1) l ∧ Tn g w w') := by
  by_cases hh : (tkAt L i).kind = 1
  · exact (word_yes h hh (hE i h.lt (.inr (by omega)))).mono (fun e w' r => .inr ⟨hh, r⟩)
  · exact (word_no h hh).mono (fun e w' r => .inl ⟨hh, r⟩)
theorem takeKind_both (h : Ps w p g gT L i l) (hE : Ends L) (k : Nat) (hk : k ≠ 0) :
    Calls Tryz.prog 160 #[.pointer (some ⟨g, 0, none⟩), .int .i64 k] w fun e w' =>
      (¬ (tkAt L i).kind = k ∧ e = stop (errV p 1) (tkAt L i).pos ∧ Tn g w w') ∨ ((tkAt L i).kind = k ∧ e = .returned (tkAt L i).val ∧ Ps w' p g gT L (i + 1) l ∧ Tn g w w') := by
  by_cases hh : (tkAt L i).kind = k
  · exact (takeKind_yes h k hh (hE i h.lt (.inr (by omega)))).mono (fun e w' r => .inr ⟨hh, r⟩)
  · exact (takeKind_no h k hh).mono (fun e w' r => .inl ⟨hh, r⟩)
theorem Sn.start {w0 w1 : World} {j l' : Nat} (h : Ps w p g gT L i l) (hb0 : Below w.heap.size w w0) (hz0 : Nod w0 w.heap.size (.int .i64 0) (.int .i64 0) (.string ⟨#[]⟩) (.int .i64 0) (.int .i64 0) (.int .i64 0) (.int .i64 0) (.int .u64 0) (.slice none 0 0))
    (r1 : Ps w1 p g gT L j l') (r2 : Tn g w0 w1) (kd ps : Int) (nm : ByteArray) (t nz : Int) :
    Sn w (w1.alloc (.cells #[.int .i64 kd, .int .i64 ps, .string nm, .int .i64 t, .int .i64 nz, .int .i64 0, .int .i64 0, .int .u64 0, .slice none 0 0] 27)) p g gT L j l' w.heap.size w1.heap.size kd ps nm t nz none 0 0 [] := by
  have hb := bel_new w1 (.cells #[.int .i64 kd, .int .i64 ps, .string nm, .int .i64 t, .int .i64 nz, .int .i64 0, .int .i64 0, .int .u64 0, .slice none 0 0] 27)
  have hgl := h.lt_g
  exact ⟨r1.below hb, ((Tn.of_bel hb0).trans r2).trans (Tn.of_bel hb), (hz0.tn r2 (by omega)).bel hb, Go.Deep.blk_alloc_new _ _, by unfold KidsV; rfl, hgl, h.row.lt, Nat.le_of_lt (Nat.lt_of_lt_of_le (lt_of_blk hz0) r2.size), Nat.le_refl _, Nat.ne_of_lt (Nat.lt_of_lt_of_le (lt_of_blk hz0) r2.size)⟩
/-- how a method that gives a number ends -/
def PostI (p : List Addr) (g gT : Nat) (L : List Tk) (l : Nat) (w : World) (e : Ending) (w' : World) : OutI → Prop
  | .ok z j => e = .returned (.int .i64 z) ∧ Ps w' p g gT L j l ∧ Tn g w w'
  | .bad k j => e = stop (errV p k) (tkAt L j).pos ∧ Tn g w w'
theorem PostI.both {e : Ending} {w' : World} {o : OutI} (h : PostI p g gT L l w e w' o) :
    (∃ k j, o = .bad k j ∧ e = stop (errV p k) (tkAt L j).pos ∧ Tn g w w') ∨ (∃ z j, o = .ok z j ∧ e = .returned (.int .i64 z) ∧ Ps w' p g gT L j l ∧ Tn g w w') := by
  cases o with
  | bad k j => exact .inl ⟨k, j, rfl, h⟩
  | ok z j => exact .inr ⟨z, j, rfl, h⟩
theorem PostN.both {e : Ending} {w' : World} {o : Out} (h : PostN p g gT L l w e w' o) :
    (∃ k j, o = .bad k j ∧ e = stop (errV p k) (tkAt L j).pos ∧ Tn g w w') ∨
    (∃ kd ps nm t nz z ob bi ks a len ck j, o = .ok (.mk kd ps nm t nz z ob bi ks) j ∧ e = .returned (.agg #[.int .i64 kd, .int .i64 ps, .string nm, .int .i64 t, .int .i64 nz, .int .i64 z, .int .i64 ob, .int .u64 bi, .slice a len ck]) ∧ KidsV w' (Fr w.heap.size) ks (.slice a len ck) ∧ Ps w' p g gT L j l ∧ Tn g w w') := by
  cases o with
  | bad k j => exact .inl ⟨k, j, rfl, h⟩
  | ok n j =>
    obtain ⟨v, rfl, hv, h1, h2⟩ := h
    obtain ⟨kd, ps, nm, t, nz, z, ob, bi, ks⟩ := n
    unfold NodeV at hv
    obtain ⟨s, rfl, hk⟩ := hv
    obtain ⟨a, len, ck, rfl⟩ := hk.shape
    exact .inr ⟨kd, ps, nm, t, nz, z, ob, bi, ks, a, len, ck, j, rfl, rfl, hk, h1, h2⟩
theorem PostR.both {e : Ending} {w' : World} {o : OutL} (h : PostR p g gT L l w e w' o) :
    (∃ k j, o = .bad k j ∧ e = stop (errV p k) (tkAt L j).pos ∧ Tn g w w') ∨ (∃ ns a n ck j, n = ns.length ∧ o = .ok ns j ∧ e = .returned (.slice a n ck) ∧ Row w' w.heap.size ns (.slice a n ck) ∧ Ps w' p g gT L j l ∧ Tn g w w') := by
  cases o with
  | bad k j => exact .inl ⟨k, j, rfl, h⟩
  | ok ns j =>
    obtain ⟨s, rfl, hs, h1, h2⟩ := h
    obtain ⟨a, c, rfl⟩ := hs.len
    exact .inr ⟨ns, a, ns.length, c, j, rfl, rfl, rfl, hs, h1, h2⟩
theorem PostK.both {e : Ending} {w' : World} {o : Out} (h : PostK p g gT L l w e w' o) :
    (∃ k j, o = .bad k j ∧ e = stop (errV p k) (tkAt L j).pos ∧ Tn g w w') ∨ (∃ n gk ck j, o = .ok n j ∧ e = .returned (.slice (some ⟨gk, 0, none⟩) 1 ck) ∧ KidsV w' (Fr w.heap.size) [n] (.slice (some ⟨gk, 0, none⟩) 1 ck) ∧ Ps w' p g gT L j l ∧ Tn g w w') := by
  cases o with
  | bad k j => exact .inl ⟨k, j, rfl, h⟩
  | ok n j =>
    obtain ⟨s, rfl, hs, h1, h2⟩ := h
    obtain ⟨gk, ck, rfl⟩ := hs.form
    exact .inr ⟨n, gk, ck, j, rfl, rfl, hs, h1, h2⟩
/-- a method that hands another one's node on: entered at w, its result's variable, the parser -/
structure Zn (w wr : World) (p : List Addr) (g gT : Nat) (L : List Tk) (i l : Nat) : Prop where
  pr : Ps wr p g gT L i l
  tn : Tn g w wr
  zr : Nod wr w.heap.size (.int .i64 0) (.int .i64 0) (.string ⟨#[]⟩) (.int .i64 0) (.int .i64 0) (.int .i64 0) (.int .i64 0) (.int .u64 0) (.slice none 0 0)
  ng : g < w.heap.size
  nT : gT < w.heap.size
theorem Zn.start {w0 : World} (h : Ps w p g gT L i l) (hb0 : Below w.heap.size w w0) (hz0 : Nod w0 w.heap.size (.int .i64 0) (.int .i64 0) (.string ⟨#[]⟩) (.int .i64 0) (.int .i64 0) (.int .i64 0) (.int .i64 0) (.int .u64 0) (.slice none 0 0)) : Zn w w0 p g gT L i l :=
  ⟨h.below hb0, Tn.of_bel hb0, hz0, h.lt_g, h.row.lt⟩
theorem Zn.call {wr w' : World} {j l' : Nat} (h : Zn w wr p g gT L i l) (r1 : Ps w' p g gT L j l') (r2 : Tn g wr w') : Zn w w' p g gT L j l' := by
  have := h.ng
  exact ⟨r1, h.tn.trans r2, h.zr.tn r2 (by omega), h.ng, h.nT⟩
theorem Zn.bel {wr w' : World} (h : Zn w wr p g gT L i l) (hb : Below wr.heap.size wr w') : Zn w w' p g gT L i l := h.call (h.pr.below hb) (Tn.of_bel hb)
theorem Zn.lt {wr : World} (h : Zn w wr p g gT L i l) : w.heap.size < wr.heap.size := lt_of_blk h.zr
theorem Zn.done {wr : World} {kd ps : Int} {nm : ByteArray} {t nz z ob bi : Int} {ks : List Nd} {a : Option Addr} {len ck : Nat} (h : Zn w wr p g gT L i l) {C : Nat} (hC : w.heap.size < C) (hk : KidsV wr (Fr C) ks (.slice a len ck)) :
    ∃ w9, w9 = (((((((((wr.setCell ⟨w.heap.size, 0, none⟩ (.int .i64 kd)).setCell ⟨w.heap.size, 1, none⟩ (.int .i64 ps)).setCell ⟨w.heap.size, 2, none⟩ (.string nm)).setCell ⟨w.heap.size, 3, none⟩ (.int .i64 t)).setCell ⟨w.heap.size, 4, none⟩ (.int .i64 nz)).setCell ⟨w.heap.size, 5, none⟩ (.int .i64 z)).setCell ⟨w.heap.size, 6, none⟩ (.int .i64 ob)).setCell ⟨w.heap.size, 7, none⟩ (.int .u64 bi)).setCell ⟨w.heap.size, 8, none⟩ (.slice a len ck)) ∧
      Nod w9 w.heap.size (.int .i64 kd) (.int .i64 ps) (.string nm) (.int .i64 t) (.int .i64 nz) (.int .i64 z) (.int .i64 ob) (.int .u64 bi) (.slice a len ck) ∧
      NodeV w9 (Fr w.heap.size) (.mk kd ps nm t nz z ob bi ks) (.agg #[.int .i64 kd, .int .i64 ps, .string nm, .int .i64 t, .int .i64 nz, .int .i64 z, .int .i64 ob, .int .u64 bi, .slice a len ck]) ∧ Ps w9 p g gT L i l ∧ Tn g w w9 := by
  obtain ⟨z9, s9⟩ := set9 h.zr (.int .i64 kd) (.int .i64 ps) (.string nm) (.int .i64 t) (.int .i64 nz) (.int .i64 z) (.int .i64 ob) (.int .u64 bi) (.slice a len ck)
  have h1 := h.ng
  have h2 := h.nT
  have h3 := h.pr.big
  refine ⟨_, rfl, z9, ?_, h.pr.tn s9 (by omega) (by omega) (by omega), h.tn.own s9 (Nat.le_refl _)⟩
  unfold NodeV
  exact ⟨_, rfl, (hk.tnS s9 (fun e => by have : C ≤ w.heap.size := e; omega)).lowS (fun k hk => by have : C ≤ k := hk; show w.heap.size ≤ k; omega)⟩
/-- called's own start: the node that was handed in is boxed first -/
theorem Sn.boxed (h : Ps w p g gT L i l) (kd ps : Int) (nm : ByteArray) (t nz : Int) :
    Sn w ((w.alloc (.cells #[.int .i64 kd, .int .i64 ps, .string nm, .int .i64 t, .int .i64 nz, .int .i64 0, .int .i64 0, .int .u64 0, .slice none 0 0] 27)).alloc nodZ) p g gT L i l (w.heap.size + 1) w.heap.size kd ps nm t nz none 0 0 [] := by
  have hb := bel_new w (.cells #[.int .i64 kd, .int .i64 ps, .string nm, .int .i64 t, .int .i64 nz, .int .i64 0, .int .i64 0, .int .u64 0, .slice none 0 0] 27)
  have k1 : Nod (w.alloc (.cells #[.int .i64 kd, .int .i64 ps, .string nm, .int .i64 t, .int .i64 nz, .int .i64 0, .int .i64 0, .int .u64 0, .slice none 0 0] 27)) w.heap.size (.int .i64 kd) (.int .i64 ps) (.string nm) (.int .i64 t) (.int .i64 nz) (.int .i64 0) (.int .i64 0) (.int .u64 0) (.slice none 0 0) := Go.Deep.blk_alloc_new _ _
  have s1 : (w.alloc (.cells #[.int .i64 kd, .int .i64 ps, .string nm, .int .i64 t, .int .i64 nz, .int .i64 0, .int .i64 0, .int .u64 0, .slice none 0 0] 27)).heap.size = w.heap.size + 1 := by simp
  generalize w.alloc (.cells #[.int .i64 kd, .int .i64 ps, .string nm, .int .i64 t, .int .i64 nz, .int .i64 0, .int .i64 0, .int .u64 0, .slice none 0 0] 27) = w1 at *
  have hb2 := bel_new w1 nodZ
  have k2 : Nod (w1.alloc nodZ) w1.heap.size (.int .i64 0) (.int .i64 0) (.string ⟨#[]⟩) (.int .i64 0) (.int .i64 0) (.int .i64 0) (.int .i64 0) (.int .u64 0) (.slice none 0 0) := Go.Deep.blk_alloc_new _ _
  rw [s1] at k2
  exact ⟨(h.below hb).below hb2, Tn.of_bel (bel_trans hb hb2), k2, k1.bel hb2, by unfold KidsV; rfl, h.lt_g, h.row.lt, Nat.le_refl _, Nat.le_succ _, by omega⟩
theorem Sn.zn {wr : World} {n : Nat} {kd ps : Int} {nm : ByteArray} {t nz : Int} {a : Option Addr} {len ck : Nat} {ks : List Nd} (h : Sn w wr p g gT L i l w.heap.size n kd ps nm t nz a len ck ks) : Zn w wr p g gT L i l := ⟨h.pr, h.tn, h.zr, h.ng, h.nT⟩
/-- the variable's row has grown, in place or elsewhere, and is stored back -/
theorem Sn.grown {wr w' : World} {z n : Nat} {kd ps : Int} {nm : ByteArray} {t nz : Int} {a a' : Option Addr} {len ck len' ck' : Nat} {ks ks' : List Nd} (h : Sn w wr p g gT L i l z n kd ps nm t nz a len ck ks) (hb : Below (n + 1) wr w') (hz : z < n) (hr : Row w' (n + 1) ks' (.slice a' len' ck')) :
    w'.cell? ⟨n, 8, none⟩ = some (.slice a len ck) ∧ w'.frozen? ⟨n, 8, none⟩ = false ∧ Sn w (w'.setCell ⟨n, 8, none⟩ (.slice a' len' ck')) p g gT L i l z n kd ps nm t nz a' len' ck' ks' ∧ Row (w'.setCell ⟨n, 8, none⟩ (.slice a' len' ck')) (n + 1) ks' (.slice a' len' ck') := by
  have h1 := h.ng
  have h2 := h.nT
  have h3 := h.nn
  have h4 := h.pr.big
  have vr : Nod w' n (.int .i64 kd) (.int .i64 ps) (.string nm) (.int .i64 t) (.int .i64 nz) (.int .i64 0) (.int .i64 0) (.int .u64 0) (.slice a len ck) := (hb.block n (by omega)).trans h.vr
  have zr : Nod w' z (.int .i64 0) (.int .i64 0) (.string ⟨#[]⟩) (.int .i64 0) (.int .i64 0) (.int .i64 0) (.int .i64 0) (.int .u64 0) (.slice none 0 0) := (hb.block z (by omega)).trans h.zr
  obtain ⟨x, s⟩ := set1 vr 8 (.slice a' len' ck')
  have hr2 := hr.tn s (Nat.lt_succ_self _)
  exact ⟨blk_cell vr 8 _ rfl, blk_frz vr 8, ⟨(h.pr.belB hb (by omega) (by omega)).tn s (by omega) (by omega) (by omega), (h.tn.belB hb (by omega)).own s (by omega), zr.tn s h.ne, x, hr2.kids.lowS (fun k hk => ⟨by have : n + 1 ≤ k := hk; omega, by have : n + 1 ≤ k := hk; omega, by have : n + 1 ≤ k := hk; omega⟩), h.ng, h.nT, h.nn, h.nz', h.ne⟩, hr2⟩
theorem step_appN {w : World} {ops : Array Oper} {o : Oper} {a : Act} {K : Act → World → Prop} {Q : Exit → Act → World → Prop} {E : Prop} (s x : Operand) (v vx : Value) (R : Value → World → Prop)
    (hrun : ∀ ty, ∃ v' w', (Builtin.append_ #[25, 25] ty #[v, vx]).run Tryz.prog w = .ok v' w' ∧ R v' w') (hgd : o.guard = none)
    (ho : o.op = .call { callee := .builtin .append, args := #[s, x], argTypes := #[25, 25] }) (hs : a.eval s = v) (hx : a.eval x = vx)
    (h : ∀ v' w', R v' w' → K (a.put o.dst v') w') : if Region.wanted o (yielded ops a.tmps) = true then Oper.wp Tryz.prog o a w K Q else E := by
  have hw : Region.wanted o (yielded ops a.tmps) = true := by simp [Region.wanted, hgd]
  rw [if_pos hw]
  obtain ⟨v', w', hr, hR⟩ := hrun o.type
  unfold Oper.wp execOp
  simp only [ho, resolve, invoke, builtin, Sem.run_bind, Sem.run_pure, Result.andThen_ok, List.map_toArray, List.map_cons, List.map_nil, hs, hx, hr]
  exact h v' w' hR
theorem nod_new (w : World) : Nod (w.alloc nodZ) w.heap.size (.int .i64 0) (.int .i64 0) (.string ⟨#[]⟩) (.int .i64 0) (.int .i64 0) (.int .i64 0) (.int .i64 0) (.int .u64 0) (.slice none 0 0) := Go.Deep.blk_alloc_new _ _
end

end Go.Proofs.YtogeblmppagabaaGreatDoor.Ck

/- Types and bounds. -/
namespace Go.Proofs.YtogeblmppagabaaGreatDoor.Ck
open Go.RowKit

set_option maxRecDepth 20000 in
set_option maxHeartbeats 1000000 in
theorem typed_any {w : World} {p : List Addr} {g gT : Nat} {L : List Tk} {i l : Nat} (h : Ps w p g gT L i l) (hE : Ends L) :
    Calls Tryz.prog 134 #[.pointer (some ⟨g, 0, none⟩)] w fun e w' => PostI p g gT L l w e w' (typedO L i) := by
  have HP := hide h
  have HE := hide hE
  obtain ⟨out, ho⟩ : ∃ out, typedO L i = out := ⟨_, rfl⟩
  rw [ho]
  have HW := hide ho
  clear h hE ho
  go_enter Tryz.func134, Tryz.ntmps134
  go_wp2_with fail
  refine (taken_both HP.out HE.out bInt (by decide)).mono ?_
  rintro e w1 (⟨c1, rfl, r1, r2⟩ | ⟨c1, rfl, r1, r2⟩)
  · have C1 := hide c1
    have R := hide (And.intro r1 r2)
    clear c1 r1 r2
    go_wp2_with fail
    go_ret
    have hw := HW.out
    simp only [typedO, if_pos C1.out] at hw
    subst hw
    exact ⟨rfl, R.out⟩
  have C1 := hide c1
  have H1 := hide r1
  have T1 := hide r2
  clear c1 r1 r2
  go_wp2_with fail
  refine (taken_both H1.out HE.out bFloat (by decide)).mono ?_
  rintro e w2 (⟨c2, rfl, r1, r2⟩ | ⟨c2, rfl, r1, r2⟩)
  · have C2 := hide c2
    have R := hide (And.intro r1 r2)
    clear c2 r1 r2
    go_wp2_with fail
    go_ret
    have hw := HW.out
    simp only [typedO, if_neg C1.out, if_pos C2.out] at hw
    subst hw
    exact ⟨rfl, ⟨R.out.1, T1.out.trans R.out.2⟩⟩
  have C2 := hide c2
  have H2 := hide r1
  have T2 := hide (T1.out.trans r2)
  clear c2 r1 r2
  go_wp2_with fail
  refine (take_both H2.out HE.out bBool (by decide)).mono ?_
  rintro e w3 (⟨c3, rfl, r2⟩ | ⟨c3, rfl, r1, r2⟩)
  · have hw := HW.out
    simp only [typedO, if_neg C1.out, if_neg C2.out, if_neg c3] at hw
    subst hw
    exact ⟨rfl, rfl, T2.out.trans r2⟩
  have C3 := hide c3
  have R := hide (And.intro r1 (T2.out.trans r2))
  clear c3 r1 r2
  go_wp2_with fail
  go_ret
  have hw := HW.out
  simp only [typedO, if_neg C1.out, if_neg C2.out, if_pos C3.out] at hw
  subst hw
  exact ⟨rfl, R.out⟩

set_option maxRecDepth 20000 in
set_option maxHeartbeats 1000000 in
theorem bound_any {w : World} {p : List Addr} {g gT : Nat} {L : List Tk} {i l : Nat} (h : Ps w p g gT L i l) (hE : Ends L) :
    Calls Tryz.prog 133 #[.pointer (some ⟨g, 0, none⟩)] w fun e w' => PostI p g gT L l w e w' (boundO L i) := by
  have HP := hide h
  have HE := hide hE
  obtain ⟨tk, htk⟩ : ∃ tk, tkAt L (i + 1) = tk := ⟨_, rfl⟩
  have HK := hide htk
  clear htk
  obtain ⟨kind, text, nn, bits_, pos⟩ := tk
  have hf2 := tf2 (.int .i64 kind) (.string text) (.int .i64 nn) (.int .u64 bits_) (.int .i64 pos)
  obtain ⟨out, ho⟩ : ∃ out, boundO L i = out := ⟨_, rfl⟩
  rw [ho]
  have HW := hide ho
  clear h hE ho
  go_enter Tryz.func133, Tryz.ntmps133
  go_wp2_with fail
  refine (take_both HP.out HE.out bOpn (by decide)).mono ?_
  rintro e w1 (⟨c1, rfl, r2⟩ | ⟨c1, rfl, r1, r2⟩)
  · have hw := HW.out
    simp only [boundO, if_neg c1] at hw
    subst hw
    exact ⟨rfl, rfl, r2⟩
  have C1 := hide c1
  have H1 := hide r1
  have T1 := hide r2
  clear c1 r1 r2
  go_wp2_with fail
  refine (takeKind_both H1.out HE.out 3 (by decide)).mono ?_
  rintro e w2 (⟨c2, rfl, r2⟩ | ⟨c2, he, r1, r2⟩)
  · have hw := HW.out
    simp only [boundO, if_pos C1.out, if_neg c2] at hw
    subst hw
    exact ⟨rfl, rfl, T1.out.trans r2⟩
  rw [HK.out] at he
  dsimp only [Tk.val] at he
  subst he
  have C2 := hide c2
  have H2 := hide r1
  have T2 := hide (T1.out.trans r2)
  clear c2 r1 r2
  go_wp2_with fail
  refine (take_both H2.out HE.out bSht (by decide)).mono ?_
  rintro e w3 (⟨c3, rfl, r2⟩ | ⟨c3, rfl, r1, r2⟩)
  · have hw := HW.out
    simp only [boundO, if_pos C1.out, if_pos C2.out, if_neg c3] at hw
    subst hw
    exact ⟨rfl, rfl, T2.out.trans r2⟩
  have C3 := hide c3
  have R := hide (And.intro r1 (T2.out.trans r2))
  clear c3 r1 r2 hf2
  go_wp2_with fail
  go_ret
  have hw := HW.out
  simp only [boundO, if_pos C1.out, if_pos C2.out, if_pos C3.out] at hw
  subst hw
  refine ⟨?_, R.out⟩
  rw [HK.out]
  rfl

end Go.Proofs.YtogeblmppagabaaGreatDoor.Ck
