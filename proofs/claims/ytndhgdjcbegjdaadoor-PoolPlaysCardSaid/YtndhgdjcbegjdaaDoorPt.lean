/- The statement's state: one more arena and its model; the words of the whole; no Go text is walked here. -/
import Derived.Test.YtndhgdjcbegjdaaDoorPs
namespace Go.Proofs.YtndhgdjcbegjdaaDoor.Ck
open Go.RowKit

section
variable {w wr : World} {c : Cn} {gl cl gq cq k : Nat} {gm : Nat → Nat} {vv : Nat → Value} {H : Nat → List Rn}

theorem PS.start {w0 wn : World} {pages : Nat} {s : List Int} {v : Value} (h : NewRes w0 wn pages s v) (hb0 : Below w.heap.size w w0) (hb : Below w0.heap.size w0 wn) (h8 : s.length ≤ 8) :
    ∃ c : Cn, c.pages = pages ∧ c.s = s ∧ v = .pointer (some ⟨c.pp, 0, none⟩) ∧
      PS w ((wn.alloc (.cells #[] 37)).alloc (.cells #[] 40)) c wn.heap.size 0 (wn.heap.size + 1) 0 0 (fun _ => 0) (fun _ _ => 0) (fun _ _ => 0) (fun _ => .slice none 0 0) (fun _ => []) := by
  obtain ⟨pp, pb, qb, rb, rfl, hP⟩ := h
  have e1 : (wn.alloc (.cells #[] 37)).heap.size = wn.heap.size + 1 := by simp
  have hq := OwnV.none_ (TE := 40) (B := wn.heap.size) (wn.alloc (.cells #[] 37)) (by omega)
  rw [e1] at hq
  have hbb : Below wn.heap.size wn ((wn.alloc (.cells #[] 37)).alloc (.cells #[] 40)) := bel_al (bel_new wn _) _
  exact ⟨⟨pages, s, w0.heap.size, wn.heap.size, pp, pb, qb, rb⟩, rfl, rfl, rfl, {
    is := hP.grow hbb, kl := Nat.zero_le _, s8 := h8, bel := bel_trans (bel_trans hb0 hb) hbb, low := ⟨hb0.size, hb.size, hbb.size⟩,
    up := ⟨hP.lt.1, hP.lt.2.1, hP.lt.2.2, fun j hj => (hP.rbs j hj).2.1⟩,
    rm := fun j hj => absurd hj (Nat.not_lt_zero _), wrs := fun j hj => absurd hj (Nat.not_lt_zero _), fits := fun _ _ => by unfold fit; omega,
    big := fun j hj => absurd hj (Nat.not_lt_zero _), dis := fun j _ hj => absurd hj (Nat.not_lt_zero _),
    l := (OwnV.none_ (TE := 37) (B := wn.heap.size) wn (Nat.le_refl _)).below (bel_new _ _), q := hq, lq := by omega, ln := fun j hj => absurd hj (Nat.not_lt_zero _) }⟩

theorem PS.push (h : PS w wr c gl cl gq cq k gm (fun _ _ => 0) (fun _ _ => 0) vv H) (hk : k < c.s.length) (hn : sh c.s k ≤ 256) {x1 x4 : Obj} {w2 w5 : World} {gl' cl' gq' cq' : Nat}
    (ol : OwnV 37 w2 c.U gl' cl' (c.ptrs k ++ [(c.lay k).ptr])) (hgl : gl' = gl ∨ gl' = (wr.alloc x1).heap.size) (e1 : Ef [gl] (wr.alloc x1) w2)
    (oq : OwnV 40 w5 c.U gq' cq' (mods gm k ++ [.pointer (some ⟨w2.heap.size, 0, none⟩)])) (hgq : gq' = gq ∨ gq' = ((w2.alloc (.cells #[.int .i64 (sh c.s k), .slice none 0 0] 43)).alloc x4).heap.size)
    (e2 : Ef [gq] ((w2.alloc (.cells #[.int .i64 (sh c.s k), .slice none 0 0] 43)).alloc x4) w5) :
    PS w w5 c gl' cl' gq' cq' (k + 1) (fun j => if j = k then w2.heap.size else gm j) (fun _ _ => 0) (fun _ _ => 0) (fun j => if j = k then .slice none 0 0 else vv j) (fun j => if j = k then [] else H j) := by
  have hs1 : (wr.alloc x1).heap.size = wr.heap.size + 1 := by simp
  have hs4 : ((w2.alloc (.cells #[.int .i64 (sh c.s k), .slice none 0 0] 43)).alloc x4).heap.size = w2.heap.size + 2 := by simp
  rw [hs1] at hgl
  rw [hs4] at hgq
  have z1 := e1.size
  rw [hs1] at z1
  have z5 := e2.size
  rw [hs4] at z5
  have hl1 := h.l.lt
  have hq1 := h.q.lt
  have hl0 := h.l.ge
  have hq0 := h.q.ge
  have hlq := h.lq
  have hlow := h.low
  have hup := h.up
  have hl2 := ol.lt
  have E : Ef [gl, gq] wr w5 :=
    ((Ef.of_bel (bel_new wr x1)).trans (e1.mono (fun b hb => by simp at hb; simp [hb]))).trans ((Ef.of_bel (bel_al (bel_new w2 _) _)).trans (e2.mono (fun b hb => by simp at hb; simp [hb])))
  have kb : ∀ b, b < wr.heap.size → b ≠ gl → b ≠ gq → w5.heap[b]? = wr.heap[b]? := fun b h1 h2 h3 => E.blk b h1 (by simp [h2, h3])
  have hgl' : gl' ≠ gq := by omega
  have hblk : blks w2.heap.size (.slice none 0 0) [] = [w2.heap.size] := by simp [blks, Value.ownBlock]
  have hold : ∀ j, j < k → ∀ b ∈ blks (gm j) (vv j) (H j), b < wr.heap.size ∧ b ≠ gl ∧ b ≠ gq := fun j hj b hb =>
    ⟨(h.rm j hj).lt b hb, fun e => (h.ln j hj).1 (e ▸ hb), fun e => (h.ln j hj).2 (e ▸ hb)⟩
  have hRk : Rm w5 w2.heap.size (sh c.s k) (.slice none 0 0) [] (fun _ => 0) :=
    ((Rm.start w2 (sh c.s k) hn (fun _ => 0)).below (bel_new _ x4)).other (fun b hb => by rw [hblk] at hb; simp at hb; simp; omega) e2
  refine {
    is := h.is.blks_ E.size (kb _ (by omega) (by omega) (by omega)) (kb _ (by omega) (by omega) (by omega)) (kb _ (by omega) (by omega) (by omega)) (fun j hj => by have := hup.2.2.2 j hj; exact kb _ (by omega) (by omega) (by omega)),
    kl := hk, s8 := h.s8, bel := h.bel.trans (E.bel (fun b hb => by simp at hb; omega) (by omega)), low := ⟨hlow.1, hlow.2.1, by have := E.size; omega⟩, up := hup,
    rm := fun j hj => ?_, wrs := fun j hj => ?_, fits := h.fits, big := fun j hj b hb => ?_, dis := fun i j hi hj hij b hb => ?_,
    l := ?_, q := ?_, lq := by omega, ln := fun j hj => ?_ }
  · by_cases e : j = k
    · subst e
      simp only [if_pos]
      exact hRk
    · simp only [if_neg e]
      exact (h.rm j (by omega)).keep (fun b hb => by have := hold j (by omega) b hb; exact kb b this.1 this.2.1 this.2.2)
  · by_cases e : j = k
    · subst e
      simp only [if_pos]
      exact WR.start _
    · simp only [if_neg e]
      exact h.wrs j (by omega)
  · by_cases e : j = k
    · subst e
      simp only [if_pos] at hb
      rw [hblk] at hb
      simp at hb
      omega
    · simp only [if_neg e] at hb
      exact h.big j (by omega) b hb
  · by_cases e : i = k
    · subst e
      have e2 : ¬ j = i := Ne.symm hij
      simp only [if_pos] at hb
      simp only [if_neg e2]
      rw [hblk] at hb
      simp at hb
      intro hb'
      have := hold j (by omega) b hb'
      omega
    · simp only [if_neg e] at hb
      have h1 := hold i (by omega) b hb
      by_cases e2 : j = k
      · subst e2
        simp only [if_pos]
        rw [hblk]
        simp
        omega
      · simp only [if_neg e2]
        exact h.dis i j (by omega) (by omega) hij b hb
  · rw [ptrs_succ]
    exact ((ol.below (bel_new _ _)).below (bel_new _ _)).ef e2 (by simp; exact hgl')
  · rw [mods_succ, if_pos rfl, mods_congr (gm' := gm) (fun j hj => if_neg (by omega))]
    exact oq
  · by_cases e : j = k
    · subst e
      simp only [if_pos]
      rw [hblk]
      simp
      omega
    · simp only [if_neg e]
      have h1 := h.ln j (by omega)
      refine ⟨fun hb => ?_, fun hb => ?_⟩
      · have := hold j (by omega) _ hb
        omega
      · have := hold j (by omega) _ hb
        omega
end

section
variable {w wr : World} {c : Cn} {gl cl gq cq k : Nat} {gm : Nat → Nat} {R V : Nat → Nat → Int} {vv : Nat → Value} {H : Nat → List Rn}

theorem psum_take (H : List Rn) (k : Nat) (hk : k ≤ H.length) : psum (rat H) k = ((H.take k).map Rn.c).sum := by
  induction k with
  | zero => rfl
  | succ k ih => rw [psum, ih (by omega), List.take_add_one, rat_at H k (by omega)]; simp
theorem psum_sum (H : List Rn) : psum (rat H) H.length = (H.map Rn.c).sum := by rw [psum_take H _ (Nat.le_refl _), List.take_length]

/-- the words of the whole -/
def Cn.wd (c : Cn) (V : Nat → Nat → Int) : Nat → Int := pw c.s V c.s.length
def Cn.words (c : Cn) (V : Nat → Nat → Int) (n : Nat) : List Int := (List.range n).map (c.wd V)
theorem words_len (c : Cn) (V : Nat → Nat → Int) (n : Nat) : (c.words V n).length = n := by simp [Cn.words]
theorem words_app (c : Cn) (V : Nat → Nat → Int) (k : Nat) (hk : k < c.s.length) : c.words V (16 * pre c.s k) ++ (List.range (16 * sh c.s k)).map (V k) = c.words V (16 * pre c.s (k + 1)) := by
  have e : 16 * pre c.s (k + 1) = 16 * pre c.s k + 16 * sh c.s k := by rw [pre]; omega
  unfold Cn.words
  rw [e, List.range_add, List.map_append, List.map_map]
  congr 1
  apply List.map_congr_left
  intro i hi
  have hi := List.mem_range.1 hi
  show V k i = c.wd V (16 * pre c.s k + i)
  unfold Cn.wd
  rw [pw_in c.s V c.s.length k _ hk (by omega) (by omega)]
  congr 1
  omega
theorem words_zero (c : Cn) (V : Nat → Nat → Int) (n : Nat) (hn : 16 * pre c.s c.s.length ≤ n) : c.words V n ++ [0] = c.words V (n + 1) := by
  unfold Cn.words
  rw [List.range_succ, List.map_append]
  congr 1
  simp only [List.map_cons, List.map_nil]
  rw [Cn.wd, pw_out c.s V c.s.length n hn]
theorem words_fits (c : Cn) {V : Nat → Nat → Int} (h : ∀ j i, fit (V j i)) (n : Nat) : Fits (c.words V n) := fun z hz => by
  obtain ⟨i, _, rfl⟩ := List.mem_map.1 hz
  exact fit_pw c.s V h c.s.length i

/-- Dump of the document -/
theorem PS.rdump (h : PS w wr c gl cl gq cq k gm R V vv H) {j : Nat} (hj : j < k) :
    Calls Tryd.prog 18 #[.pointer (some ⟨gm j, 0, none⟩)] wr fun e w' => e = .returned (.slice (some ⟨wr.heap.size, 0, none⟩) (16 * sh c.s j) (16 * sh c.s j)) ∧
      Sl w' (.slice (some ⟨wr.heap.size, 0, none⟩) (16 * sh c.s j) (16 * sh c.s j)) ((List.range (16 * sh c.s j)).map (V j)) ∧ Below wr.heap.size wr w' := by
  refine (rdump_any (h.rm j hj)).mono ?_
  rintro e w' ⟨rfl, D, hD⟩
  have hW := h.wrs j hj
  have hDV : ∀ i, i < 16 * sh c.s j → D i = V j i := fun i hi => by
    by_cases hz : R j (i / 16) = 0
    · rcases hD.val i with e | e
      · exact e
      · rw [e, hW.zero i hi hz]
    · obtain ⟨x, hx, hh⟩ := hW.free (i / 16) (by omega) hz
      obtain ⟨n, hn, rfl⟩ := mem_rat hx
      exact hD.hit i n hn hh
  refine ⟨rfl, ?_, hD.bel⟩
  have hl : ((List.range (16 * sh c.s j)).map (V j)).length = 16 * sh c.s j := by simp
  have hs := (h.rm j hj).small
  have hrow : w'.rowIs wr.heap.size 3 (16 * sh c.s j) (fun i => .int .i64 (D i)) := ⟨_, hD.row, by simp [arr], fun i hi => by simp [arr, hi]⟩
  have := Sl.of_row (zs := (List.range (16 * sh c.s j)).map (V j)) hrow (by rw [hl]; exact Nat.le_refl _) (by unfold maxLen; omega) (fun z hz => by obtain ⟨i, _, rfl⟩ := List.mem_map.1 hz; exact h.fits j i) (fun i hi => by
    rw [hl] at hi
    rw [hDV i hi]
    simp [List.getD, hi])
  rw [hl] at this
  exact this
theorem PS.dump (h : PS w wr c gl cl gq cq k gm R V vv H) (hp : c.pages ≤ 256) :
    Calls Tryd.prog 20 #[.pointer (some ⟨c.pp, 0, none⟩)] wr fun e w' => (∃ g, e = .returned (.slice (some ⟨g, 0, none⟩) (16 * c.pages) (16 * c.pages)) ∧ Sl w' (.slice (some ⟨g, 0, none⟩) (16 * c.pages) (16 * c.pages)) (c.words V (16 * c.pages))) ∧ Below wr.heap.size wr w' :=
  dump_row (c.wd V) c.pp c.pb c.pages wr hp h.is.lt.1 h.is.lt.2.1 h.is.ph (fun i hi => h.is.words i hi) (fun i => fit_pw c.s V h.fits c.s.length i)
end

end Go.Proofs.YtndhgdjcbegjdaaDoor.Ck
