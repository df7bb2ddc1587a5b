/- What package act does, as plain functions; no Go text is walked here. -/
import Derived.Test.YtghfjnnmpmfboaaDoorYt
namespace Go.Proofs.YtghfjnnmpmfboaaDoor.Ck
open Go.RowKit

/-- a wait, but its arguments -/
structure Wt where
  k : Int
  o : Int
  a : Int
  v : V3
/-- a goroutine: what its script has left, and its wait -/
structure Gr where
  rest : List Wt
  w : Wt
structure Evt where
  g : Int
  k : Int
  o : Int
  a : Int
structure En where
  o : Int
  f : Int
  g : Int
  n : Int
  a : Int
structure Rm where
  s : St
  gs : List Gr
  ev : List Evt
  e : En
def z3 : V3 := (0, 0, 0)
def zW : Wt := ⟨0, 0, 0, z3⟩
def zE : En := ⟨0, 0, 0, 0, 0⟩
/-- a list's element of this number -/
def lk {α : Type} (l : List α) (i : Int) : Option α := if 0 ≤ i then l[i.toNat]? else none
def isV (v : V3) (t : Int) : Bool := isB v.1 v.2.1 v.2.2 t
/-- who waits to receive -/
def recvs (c : Int) (x : Gr) : Bool := x.w.k == 6 && x.w.o == c
def recvR (gs : List Gr) (c : Int) : Option Nat := gs.findIdx? (recvs c)
def canA (s : St) (w : Wt) : Bool := match lk s.P w.o with
  | some x => w.k == 1 || isV w.v x.1
  | none => false
def canS (r : Rm) (w : Wt) : Bool := match lk r.s.C w.o with
  | some q => isV w.v q.t && (if q.room = 0 then (recvR r.gs w.o).isSome else decide ((q.l.length : Int) < q.room))
  | none => false
def canC (s : St) (w : Wt) : Bool := match lk s.A w.o with
  | some _ => w.k == 7 || isV w.v 1
  | none => false
def canL (s : St) (w : Wt) : Bool := match lk s.M w.o with
  | some b => !b
  | none => false
def canR (s : St) (w : Wt) : Bool := match lk s.C w.o with
  | some q => decide (0 < q.l.length)
  | none => false
/-- can a goroutine with this wait run? -/
def canW (r : Rm) (w : Wt) : Bool :=
  if w.k = 1 ∨ w.k = 2 then canA r.s w
  else if w.k = 3 then canL r.s w
  else if w.k = 4 then (lk r.s.M w.o).isSome
  else if w.k = 5 then canS r w
  else if w.k = 6 then canR r.s w
  else if w.k = 7 ∨ w.k = 8 ∨ w.k = 9 then canC r.s w
  else decide (w.k = 10 ∨ w.k = 11 ∨ w.k = 12)
def can (r : Rm) (g : Int) : Bool := match lk r.gs g with
  | some x => canW r x.w
  | none => false
def nextR : List Wt → (Wt × V3) × List Wt
  | [] => ((⟨12, 0, 0, z3⟩, z3), [])
  | x :: l => if x.k = 0 then ((zW, (7, x.v.2.1, x.a)), l) else ((x, z3), l)
def faultR (r : Rm) (g : Nat) (h : V3) : Rm := { r with e := ⟨3, h.1, g, h.2.1, h.2.2⟩ }
def askR (r : Rm) (g : Nat) : Rm × Bool := match r.gs[g]? with
  | some x =>
    if (nextR x.rest).1.2.1 = 0 then ({ r with gs := r.gs.set g ⟨(nextR x.rest).2, (nextR x.rest).1.1⟩ }, true)
    else (faultR { r with gs := r.gs.set g ⟨(nextR x.rest).2, x.w⟩ } g (nextR x.rest).1.2, false)
  | none => (r, false)
def noteR (r : Rm) (g : Nat) (o : Int) : Rm := match r.gs[g]? with
  | some x => { r with ev := r.ev ++ [⟨g, x.w.k, o, x.w.a⟩] }
  | none => r
def enterR (S : List (List Wt)) (r : Rm) (fn : Int) : Option Rm := match lk S fn with
  | some l => some { r with gs := r.gs ++ [⟨l, zW⟩] }
  | none => none
/-- what a wait's call of layer 11 does, and what it gives -/
def shareR (s : St) (w : Wt) : St × V3 :=
  if w.k = 1 then (s, (lk s.P w.o).getD z3)
  else if w.k = 2 then ({ s with P := s.P.set w.o.toNat w.v }, z3)
  else if w.k = 3 then ({ s with M := s.M.set w.o.toNat true }, z3)
  else if w.k = 4 then ({ s with M := s.M.set w.o.toNat false }, z3)
  else if w.k = 5 then (match lk s.C w.o with | some q => ({ s with C := s.C.set w.o.toNat { q with l := q.l ++ [w.v] } }, z3) | none => (s, z3))
  else if w.k = 6 then (match lk s.C w.o with | some q => ({ s with C := s.C.set w.o.toNat { q with l := q.l.tail } }, q.l.headD z3) | none => (s, z3))
  else if w.k = 7 then (s, (1, (lk s.A w.o).getD 0, 0))
  else if w.k = 8 then ({ s with A := s.A.set w.o.toNat w.v.2.1 }, z3)
  else if w.k = 9 then ({ s with A := s.A.set w.o.toNat (wrap64 ((lk s.A w.o).getD 0 + w.v.2.1)) }, z3)
  else (s, z3)
def splitR (S : List (List Wt)) (r : Rm) (g : Nat) (w : Wt) : Rm :=
  if 8 ≤ r.gs.length then faultR r g (5, 0, w.a)
  else match enterR S r w.o with
    | none => faultR r g (5, 0, w.a)
    | some r1 => match askR (noteR r1 g r.gs.length) g with
      | (r2, true) => (askR r2 r.gs.length).1
      | (r2, false) => r2
def meetR (r : Rm) (g : Nat) (w : Wt) : Rm := match recvR r.gs w.o with
  | some t => match askR (noteR (noteR r g w.o) t w.o) g with
    | (r2, true) => (askR r2 t).1
    | (r2, false) => r2
  | none => r
def roomZ (s : St) (c : Int) : Bool := match lk s.C c with
  | some q => q.room == 0
  | none => true
def stepR (S : List (List Wt)) (r : Rm) (g : Nat) : Rm := match r.gs[g]? with
  | none => r
  | some x =>
    if x.w.k = 4 ∧ lk r.s.M x.w.o ≠ some true then faultR r g (4, 0, x.w.a)
    else if x.w.k = 10 then splitR S r g x.w
    else if x.w.k = 5 ∧ roomZ r.s x.w.o = true then meetR r g x.w
    else if x.w.k = 12 then { noteR r g x.w.o with gs := r.gs.set g ⟨x.rest, zW⟩ }
    else (askR (noteR { r with s := (shareR r.s x.w).1 } g x.w.o) g).1
def outR (r : Rm) : Int := if r.gs.any (fun x => canW r x.w) then 0 else if r.gs.any (fun x => x.w.k != 0) then 2 else 1
def endR (r : Rm) : En := if r.e.o = 0 then ⟨outR r, 0, 0, 0, 0⟩ else r.e
def settleR (r : Rm) : Rm := { r with e := endR r }
def runs (r : Rm) : Bool := (endR r).o == 0
def runnR (r : Rm) : List Int := if runs r then ((List.range r.gs.length).filter fun (i : Nat) => can r i).map fun (i : Nat) => (i : Int) else []
def doR (S : List (List Wt)) (r : Rm) (g : Nat) : Rm := settleR (stepR S r g)
def startR (S : List (List Wt)) (s : St) (fn : Int) : Rm :=
  settleR (match enterR S ⟨s, [], [], zE⟩ fn with
    | some r => (askR r 0).1
    | none => faultR ⟨s, [], [], zE⟩ 0 (5, 0, 0))
/-- the pick of a list, and the list's next place -/
def pickR (l : List Int) (n : Nat) : Int × Nat := match l[n]? with
  | some x => (x, (n + 1) % l.length)
  | none => (0, n)
def chooseR (L : List Int) (l : List Int) (n : Nat) : Int × Nat :=
  if L.length = 1 then (L.getD 0 0, n) else (L.getD ((max (pickR l n).1 0).toNat % L.length) 0, (pickR l n).2)
def playR (S : List (List Wt)) (l : List Int) (fuel : Int) : Nat → Rm → Nat → Rm × Nat
  | 0, r, n => (r, n)
  | f + 1, r, n =>
    if runs r = true ∧ (r.ev.length : Int) < fuel then playR S l fuel f (doR S r (chooseR (runnR r) l n).1.toNat) (chooseR (runnR r) l n).2
    else (r, n)
end Go.Proofs.YtghfjnnmpmfboaaDoor.Ck
