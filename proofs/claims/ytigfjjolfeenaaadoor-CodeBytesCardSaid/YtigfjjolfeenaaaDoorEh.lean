/- What was read is a code in memory; the code of bytes, by what package code reads; no Go text is walked here. -/
import Derived.Test.YtigfjjolfeenaaaDoorEg
namespace Go.Proofs.YtigfjjolfeenaaaDoor.Ck
open Go.RowKit

theorem flat_at {α β : Type} (f : α → List β) (n : Nat) (d : α) (hf : ∀ x, (f x).length = n) : ∀ (l : List α) (i j : Nat), i < l.length → j < n → (l.flatMap f)[i * n + j]? = (f (l.getD i d))[j]?
  | [], _, _, h, _ => absurd h (Nat.not_lt_zero _)
  | x :: l, 0, j, _, hj => by
    rw [List.flatMap_cons, Nat.zero_mul, Nat.zero_add, List.getElem?_append_left (by rw [hf]; exact hj)]
    rfl
  | x :: l, i + 1, j, h, hj => by
    have ih := flat_at f n d hf l i j (by simpa using h) hj
    have e : (i + 1) * n = n + i * n := by rw [Nat.add_mul, Nat.one_mul, Nat.add_comm]
    rw [List.flatMap_cons, List.getElem?_append_right (by rw [hf, e]; omega), hf, show (i + 1) * n + j - n = i * n + j by rw [e]; omega, ih]
    rfl
theorem own_cells {w : World} {B : Nat} {T : TypeId} {n : Nat} {v : Value} {len : Nat} {xs : List Value} (h : w.ownsRow B T n v len xs) : (v = .slice none 0 0 ∧ len = 0) ∨ ∃ g cap, v = .slice (some ⟨g, 0, none⟩) len cap ∧ len ≤ cap ∧ cap ≤ maxLen ∧ g < w.heap.size ∧ ∀ k u, k < len * n → xs[k]? = some u → w.cell? ⟨g, k, none⟩ = some u := by
  rcases h.2 with h0 | ⟨g, cap, cur, rfl, hg, hb, hl1, hl2, hl3, hl4⟩
  · exact .inl h0
  · exact .inr ⟨g, cap, rfl, hl1, hl2, lt_of_blk hb, fun k u hk hu => blk_cell hb _ u (by
      rw [← hl4, List.getElem?_take_of_lt hk] at hu
      rw [← Array.getElem?_toList]
      exact hu)⟩
theorem at_lt {i j n len : Nat} (hi : i < len) (hj : j < n) : i * n + j < len * n := by
  have := Nat.mul_le_mul_right n (show i + 1 ≤ len from hi)
  rw [Nat.add_mul, Nat.one_mul] at this
  omega
theorem Sl.of_own {w : World} {B : Nat} {v : Value} {l : List Int} (h : w.ownsRow B 3 1 v l.length (cls_int l)) (hf : Fits l) : Sl w v l := by
  rcases own_cells h with ⟨rfl, h0⟩ | ⟨g, cap, rfl, h1, h2, h3, h4⟩
  · have : l = [] := List.length_eq_zero_iff.1 h0
    subst this
    exact Sl.nilS w
  · refine ⟨hf, _, cap, rfl, h1, h2, fun i hi => ⟨g, 0, rfl, h3, ?_⟩⟩
    have e := flat_at cl_int 1 0 (fun _ => rfl) l i 0 hi (by omega)
    rw [Nat.mul_one, Nat.add_zero] at e
    rw [Nat.zero_add]
    exact h4 i _ (by omega) e
theorem SlC.of_own {w : World} {B : Nat} {v : Value} {l : List (Int × Int)} (h : w.ownsRow B 56 2 v l.length (cls_apiChan l)) : SlC w v l := by
  rcases own_cells h with ⟨rfl, h0⟩ | ⟨g, cap, rfl, h1, h2, h3, h4⟩
  · have : l = [] := List.length_eq_zero_iff.1 h0
    subst this
    exact SlC.nilS w
  · refine ⟨_, cap, rfl, h1, h2, fun i hi => ⟨g, 0, rfl, h3, ?_, ?_⟩⟩
    · rw [Nat.zero_add]
      exact h4 (i * 2 + 0) _ (at_lt hi (by omega)) (flat_at cl_apiChan 2 z2 (fun _ => rfl) l i 0 hi (by omega))
    · rw [Nat.zero_add]
      exact h4 (i * 2 + 1) _ (at_lt hi (by omega)) (flat_at cl_apiChan 2 z2 (fun _ => rfl) l i 1 hi (by omega))
theorem SlF.of_own {w : World} {B : Nat} {v : Value} {F : List Fn3} (h : Ents B w v F) (hf : ∀ f ∈ F, Fits f.lo) : SlF w v F := by
  obtain ⟨ys, rfl, h, hL⟩ := h
  rcases own_cells h with ⟨rfl, h0⟩ | ⟨g, cap, rfl, h1, h2, h3, h4⟩
  · have : ys.map Prod.fst = [] := List.length_eq_zero_iff.1 h0
    rw [this]
    exact SlF.nilS w
  · refine ⟨_, cap, rfl, h1, h2, fun i hi => ?_⟩
    have hi' : i < ys.length := by simpa using hi
    have ey : (ys.map Prod.fst).getD i zF = (ys.getD i (zF, .slice none 0 0)).1 := by simp [List.getD, hi']
    have hm : ys.getD i (zF, .slice none 0 0) ∈ ys := by
      rw [List.getD_eq_getElem?_getD, List.getElem?_eq_getElem hi']
      exact List.getElem_mem hi'
    have key := fun j (hj : j < 3) => flat_at cl_E 3 (zF, .slice none 0 0) (fun _ => rfl) ys i j hi' hj
    rw [ey]
    refine ⟨g, 0, (ys.getD i (zF, .slice none 0 0)).2, rfl, h3, ?_, ?_, ?_, Sl.of_own (hL _ hm) (hf _ (List.mem_map_of_mem hm))⟩
    · rw [Nat.zero_add]
      exact h4 (i * 3 + 0) _ (at_lt hi (by omega)) (key 0 (by omega))
    · rw [Nat.zero_add]
      exact h4 (i * 3 + 1) _ (at_lt hi (by omega)) (key 1 (by omega))
    · rw [Nat.zero_add]
      exact h4 (i * 3 + 2) _ (at_lt hi (by omega)) (key 2 (by omega))
/-- p reads nothing but what is Q -/
def Okp {α : Type} (p : Pz α) (Q : α → Prop) : Prop := ∀ l x r, Byt l → p l = some (x, r) → Q x ∧ Byt r
theorem okp_num (n : Nat) : Okp (rNum n) (fun x => 0 ≤ x ∧ x < 256 ^ n) := fun l x r hb h => by
  refine ⟨rNum_rng h hb, ?_⟩
  unfold rNum at h
  split at h
  · cases h
    exact fun b hq => hb b (List.mem_of_mem_drop hq)
  · cases h
theorem okp_bind {α β : Type} {p : Pz α} {f : α → Pz β} {Q : α → Prop} {R : β → Prop} (h1 : Okp p Q) (h2 : ∀ x, Q x → Okp (f x) R) : Okp (rBind p f) R := fun l y r hb h => by
  unfold rBind at h
  cases hp : p l with
  | none => rw [hp] at h; cases h
  | some q =>
    obtain ⟨x, m⟩ := q
    rw [hp] at h
    obtain ⟨a, b⟩ := h1 l x m hb hp
    exact h2 x a m y r b h
theorem okp_pure {α : Type} {x : α} {Q : α → Prop} (h : Q x) : Okp (rPure x) Q := fun l y r hb e => by cases e; exact ⟨h, hb⟩
theorem okp_end {α : Type} {x : α} {Q : α → Prop} (h : Q x) : Okp (rEnd x) Q := fun l y r hb e => by
  unfold rEnd at e
  split at e
  · cases e; exact ⟨h, hb⟩
  · cases e
theorem okp_rep {α : Type} {p : Pz α} {Q : α → Prop} (hp : Okp p Q) : ∀ n, Okp (rRep p n) (fun xs => xs.length = n ∧ ∀ x ∈ xs, Q x)
  | 0 => okp_pure ⟨rfl, fun x hx => by cases hx⟩
  | n + 1 => okp_bind hp fun x hx => okp_bind (okp_rep hp n) fun xs hxs => okp_pure ⟨by simp [hxs.1], fun y hy => by
    rcases List.mem_cons.1 hy with rfl | hy
    · exact hx
    · exact hxs.2 y hy⟩
theorem okp_sev {α : Type} {p : Pz α} {Q : α → Prop} (hp : Okp p Q) (n : Int) : Okp (rSev p n) (fun xs => xs.length ≤ 8192 ∧ ∀ x ∈ xs, Q x) := fun l x r hb h => by
  unfold rSev at h
  split at h
  · obtain ⟨⟨a, b⟩, c⟩ := okp_rep hp n.toNat l x r hb h
    exact ⟨⟨by omega, b⟩, c⟩
  · cases h
theorem sm4 {x : Int} (h : 0 ≤ x ∧ x < 256 ^ 4) : Sm x := by rw [p256_4] at h; exact h
structure CdQ (c : Cd) : Prop where
  P : c.P.length ≤ 8192 ∧ ∀ x ∈ c.P, Sm x
  C : c.C.length ≤ 8192 ∧ ∀ h ∈ c.C, Sm h.1 ∧ Sm h.2
  F : c.F.length ≤ 8192 ∧ ∀ f ∈ c.F, f.lo.length ≤ 8192 ∧ ∀ x ∈ f.lo, Sm x
  B : c.B.length ≤ 8192 ∧ ∀ x ∈ c.B, InX x
theorem okp_code : Okp rCodeS CdQ :=
  okp_bind (okp_num 4) fun _ _ => okp_bind (okp_num 4) fun _ _ => okp_bind (okp_num 4) fun _ _ => okp_bind (okp_num 4) fun _ _ => okp_bind (okp_num 4) fun _ _ => okp_bind (okp_num 4) fun _ _ => okp_bind (okp_num 4) fun _ _ =>
    okp_bind (okp_sev (okp_num 4) _) fun _ hP => okp_bind (okp_sev (Q := fun h => Sm h.1 ∧ Sm h.2) (okp_bind (okp_num 4) fun _ h1 => okp_bind (okp_num 4) fun _ h2 => okp_pure ⟨sm4 h1, sm4 h2⟩) _) fun _ hC =>
      okp_bind (okp_sev (Q := fun f => f.lo.length ≤ 8192 ∧ ∀ x ∈ f.lo, Sm x) (okp_bind (okp_num 4) fun _ _ => okp_bind (okp_num 4) fun _ _ => okp_bind (okp_num 4) fun _ _ => okp_bind (okp_sev (okp_num 4) _) fun _ hl => okp_pure ⟨hl.1, fun x hx => sm4 (hl.2 x hx)⟩) _) fun _ hF =>
        okp_bind (okp_sev (Q := InX) (okp_bind (okp_num 1) fun o h1 => okp_bind (okp_num 8) fun a h2 => okp_bind (okp_num 4) fun b h3 => okp_bind (okp_num 8) fun t h4 => okp_bind (okp_num 4) fun k h5 => okp_pure ⟨⟨by show wrap64 a < _; unfold wrap64; omega, by rw [p256_8] at h4; exact h4⟩, by rw [p256_1] at h1; exact ⟨by show _ ≤ o; omega, by show o ≤ _; omega⟩⟩) _) fun _ hB =>
          okp_end ⟨⟨hP.1, fun x hx => sm4 (hP.2 x hx)⟩, hC, hF, hB⟩
theorem Sm.fit {x : Int} (h : Sm x) : -9223372036854775808 ≤ x ∧ x ≤ 9223372036854775807 := by
  obtain ⟨h1, h2⟩ := h
  omega
theorem CdR.cv {S : Nat} {w : World} {vP vC vF vB : Value} {c : Cd} (h : CdR S w vP vC vF vB c) (q : CdQ c) : Cv w vP vC vF vB c := by
  refine ⟨⟨?_, ?_, ?_, ?_, fun f hf => ?_, q.B.2, fun h hh => (q.C.2 h hh).1.fit⟩, Sl.of_own h.P.own (fun x hx => (q.P.2 x hx).fit), SlC.of_own h.C.own, SlF.of_own h.F (fun f hf x hx => ((q.F.2 f hf).2 x hx).fit), OwnB.sl (show OwnB w S vB c.B from h.B.own) ?_⟩
  · exact Nat.le_trans q.P.1 (by decide)
  · exact Nat.le_trans q.C.1 (by decide)
  · exact Nat.le_trans q.F.1 (by decide)
  · exact Nat.le_trans q.B.1 (by decide)
  · exact Nat.le_trans (q.F.2 f hf).1 (by decide)
  · exact Nat.le_trans q.B.1 (by decide)
/-- p' reads what p reads -/
def Subp {α : Type} (p' p : Pz α) : Prop := ∀ l x r, p' l = some (x, r) → p l = some (x, r)
theorem subp_bind {α β : Type} {p p' : Pz α} {f f' : α → Pz β} (h : Subp p' p) (hf : ∀ x, Subp (f' x) (f x)) : Subp (rBind p' f') (rBind p f) := fun l y r e => by
  unfold rBind at e ⊢
  cases hp : p' l with
  | none => rw [hp] at e; cases e
  | some q =>
    obtain ⟨x, m⟩ := q
    rw [hp] at e
    rw [h l x m hp]
    exact hf x m y r e
theorem subp_rfl {α : Type} (p : Pz α) : Subp p p := fun _ _ _ h => h
theorem subp_rep {α : Type} {p p' : Pz α} (h : Subp p' p) : ∀ n, Subp (rRep p' n) (rRep p n)
  | 0 => subp_rfl _
  | n + 1 => subp_bind h fun _ => subp_bind (subp_rep h n) fun _ => subp_rfl _
theorem subp_sev {α : Type} {p p' : Pz α} (h : Subp p' p) (n : Int) : Subp (rSev p' n) (rRep p n.toNat) := fun l x r e => by
  unfold rSev at e
  split at e
  · exact subp_rep h _ l x r e
  · cases e
theorem subp_end {α : Type} (x : α) : Subp (rEnd x) (rPure x) := fun l y r e => by
  unfold rEnd at e
  split at e
  · exact e
  · cases e
theorem subp_fn : Subp rFnS rFn := subp_bind (subp_rfl _) fun _ => subp_bind (subp_rfl _) fun _ => subp_bind (subp_rfl _) fun _ => subp_bind (subp_sev (subp_rfl _) _) fun _ => subp_rfl _
theorem subp_code : Subp rCodeS rCode :=
  subp_bind (subp_rfl _) fun _ => subp_bind (subp_rfl _) fun _ => subp_bind (subp_rfl _) fun _ => subp_bind (subp_rfl _) fun _ => subp_bind (subp_rfl _) fun _ => subp_bind (subp_rfl _) fun _ => subp_bind (subp_rfl _) fun _ =>
    subp_bind (subp_sev (subp_rfl _) _) fun _ => subp_bind (subp_sev (subp_rfl _) _) fun _ => subp_bind (subp_sev subp_fn _) fun _ => subp_bind (subp_sev (subp_rfl _) _) fun _ => subp_end _
/-- where what p read is Q, p' reads it too -/
def Supp {α : Type} (p' p : Pz α) (Q : α → Prop) : Prop := ∀ l x r, p l = some (x, r) → Q x → p' l = some (x, r)
theorem rRep_len {α : Type} {p : Pz α} : ∀ n l (xs : List α) r, rRep p n l = some (xs, r) → xs.length = n
  | 0, l, xs, r, h => by cases h; rfl
  | n + 1, l, xs, r, h => by
    simp only [rRep, rBind] at h
    cases hp : p l with
    | none => rw [hp] at h; cases h
    | some q =>
      obtain ⟨x, m⟩ := q
      rw [hp] at h
      cases hq : rRep p n m with
      | none => simp only [hq] at h; cases h
      | some q2 =>
        obtain ⟨ys, m2⟩ := q2
        simp only [hq] at h
        cases h
        simp [rRep_len n m ys _ hq]
theorem supp_rep {α : Type} {p p' : Pz α} {Q : α → Prop} (h : Supp p' p Q) : ∀ n, Supp (rRep p' n) (rRep p n) (fun xs => ∀ x ∈ xs, Q x)
  | 0 => fun _ _ _ e _ => e
  | n + 1 => fun l xs r e hq => by
    simp only [rRep, rBind] at e ⊢
    cases hp : p l with
    | none => rw [hp] at e; cases e
    | some q =>
      obtain ⟨x, m⟩ := q
      rw [hp] at e
      cases hr : rRep p n m with
      | none => simp only [hr] at e; cases e
      | some q2 =>
        obtain ⟨ys, m2⟩ := q2
        simp only [hr] at e
        cases e
        rw [h l x m hp (hq x (List.mem_cons_self ..))]
        simp only [supp_rep h n m ys _ hr (fun y hy => hq y (List.mem_cons_of_mem _ hy))]
        rfl
theorem supp_sev {α : Type} {p p' : Pz α} {Q : α → Prop} (h : Supp p' p Q) (n : Int) : Supp (rSev p' n) (rRep p n.toNat) (fun xs => xs.length ≤ 8192 ∧ ∀ x ∈ xs, Q x) := fun l x r e hq => by
  unfold rSev
  have := rRep_len _ _ _ _ e
  rw [if_pos (by omega)]
  exact supp_rep h _ l x r e hq.2
theorem bind_cases {α β : Type} {p : Pz α} {f : α → Pz β} {l : List Int} {y : β} {r : List Int} (h : rBind p f l = some (y, r)) : ∃ x m, p l = some (x, m) ∧ f x m = some (y, r) := by
  unfold rBind at h
  cases hp : p l with
  | none => rw [hp] at h; cases h
  | some q =>
    obtain ⟨x, m⟩ := q
    rw [hp] at h
    exact ⟨x, m, rfl, h⟩
theorem supp_fn : Supp rFnS rFn (fun f => f.lo.length ≤ 8192) := fun l f r e hq => by
  obtain ⟨a, m1, e1, e⟩ := bind_cases e
  obtain ⟨b, m2, e2, e⟩ := bind_cases e
  obtain ⟨n, m3, e3, e⟩ := bind_cases e
  obtain ⟨lo, m4, e4, e⟩ := bind_cases e
  cases e
  exact (rBind_some e1).trans ((rBind_some e2).trans ((rBind_some e3).trans ((rBind_some (supp_sev (Q := fun _ => True) (fun _ _ _ h _ => h) n m3 lo _ e4 ⟨hq, fun _ _ => trivial⟩)).trans rfl)))
theorem supp_code {l : List Int} {c : Cd} (e : rCode l = some (c, [])) (hP : c.P.length ≤ 8192) (hC : c.C.length ≤ 8192) (hF : c.F.length ≤ 8192) (hB : c.B.length ≤ 8192) (hL : ∀ f ∈ c.F, f.lo.length ≤ 8192) : rCodeS l = some (c, []) := by
  obtain ⟨n0, m0, e0, e⟩ := bind_cases e
  obtain ⟨n1, m1, e1, e⟩ := bind_cases e
  obtain ⟨n2, m2, e2, e⟩ := bind_cases e
  obtain ⟨n3, m3, e3, e⟩ := bind_cases e
  obtain ⟨n4, m4, e4, e⟩ := bind_cases e
  obtain ⟨n5, m5, e5, e⟩ := bind_cases e
  obtain ⟨n6, m6, e6, e⟩ := bind_cases e
  obtain ⟨P, m7, e7, e⟩ := bind_cases e
  obtain ⟨C, m8, e8, e⟩ := bind_cases e
  obtain ⟨F, m9, e9, e⟩ := bind_cases e
  obtain ⟨B, m10, e10, e⟩ := bind_cases e
  cases e
  have s7 := supp_sev (Q := fun _ => True) (fun _ _ _ h _ => h) n0 m6 P _ e7 ⟨hP, fun _ _ => trivial⟩
  have s8 := supp_sev (Q := fun _ => True) (fun _ _ _ h _ => h) n3 m7 C _ e8 ⟨hC, fun _ _ => trivial⟩
  have s9 := supp_sev supp_fn n4 m8 F _ e9 ⟨hF, hL⟩
  have s10 := supp_sev (Q := fun _ => True) (fun _ _ _ h _ => h) n5 m9 B _ e10 ⟨hB, fun _ _ => trivial⟩
  exact (rBind_some e0).trans ((rBind_some e1).trans ((rBind_some e2).trans ((rBind_some e3).trans ((rBind_some e4).trans ((rBind_some e5).trans ((rBind_some e6).trans ((rBind_some s7).trans ((rBind_some s8).trans ((rBind_some s9).trans ((rBind_some s10).trans rfl))))))))))
theorem end_nil {l : List Int} {c : Cd} {r : List Int} (e : rCodeS l = some (c, r)) : r = [] := by
  obtain ⟨n0, m0, e0, e⟩ := bind_cases e
  obtain ⟨n1, m1, e1, e⟩ := bind_cases e
  obtain ⟨n2, m2, e2, e⟩ := bind_cases e
  obtain ⟨n3, m3, e3, e⟩ := bind_cases e
  obtain ⟨n4, m4, e4, e⟩ := bind_cases e
  obtain ⟨n5, m5, e5, e⟩ := bind_cases e
  obtain ⟨n6, m6, e6, e⟩ := bind_cases e
  obtain ⟨P, m7, e7, e⟩ := bind_cases e
  obtain ⟨C, m8, e8, e⟩ := bind_cases e
  obtain ⟨F, m9, e9, e⟩ := bind_cases e
  obtain ⟨B, m10, e10, e⟩ := bind_cases e
  unfold rEnd at e
  split at e
  · rename_i h
    cases e
    exact List.length_eq_zero_iff.1 h
  · cases e
/-- the code of bytes, as package code reads it -/
theorem code_sev (l : List Int) : codeB l = match rCodeS l with | some (c, _) => if formB c = true then some c else none | none => none := by
  cases hs : rCodeS l with
  | some q =>
    obtain ⟨c, r⟩ := q
    have := end_nil hs
    subst this
    unfold codeB
    rw [subp_code l c [] hs]
  | none =>
    cases hb : codeB l with
    | none => rfl
    | some c =>
      exfalso
      unfold codeB at hb
      cases hc : rCode l with
      | none => rw [hc] at hb; cases hb
      | some q =>
        obtain ⟨d, r⟩ := q
        rw [hc] at hb
        cases r with
        | cons a r => cases hb
        | nil =>
          have h2 : (if formB d = true then some d else none) = some c := hb
          split at h2
          · rename_i hf
            simp only [formB, fnB, Bool.and_eq_true, decide_eq_true_eq, List.all_eq_true] at hf
            obtain ⟨⟨⟨⟨⟨⟨⟨hP, _⟩, _⟩, hS⟩, hF⟩, hB⟩, hm⟩, ⟨⟨⟨_, _⟩, kF⟩, _⟩, _⟩ := hf
            have := supp_code hc (by omega) (by omega) (by omega) hB (fun f hf => by
              have := (kF f hf).2.2.2.2.1
              omega)
            rw [hs] at this
            cases this
          · cases h2
end Go.Proofs.YtigfjjolfeenaaaDoor.Ck
