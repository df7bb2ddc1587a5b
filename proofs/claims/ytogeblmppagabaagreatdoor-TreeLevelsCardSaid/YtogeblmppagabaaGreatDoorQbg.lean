/- Texts of this proof, packed: contracts of the program's functions, and the plain model that they are held against. -/
import Derived.Test.YtogeblmppagabaaGreatDoorQba
import Derived.Test.YtogeblmppagabaaGreatDoorQbf
import Derived.Test.YtogeblmppagabaaGreatDoorQbd
/- Arguments within brackets. -/
namespace Go.Proofs.YtogeblmppagabaaGreatDoor.Ck
open Go.RowKit

set_option maxRecDepth 20000 in
set_option maxHeartbeats 1000000 in
theorem within_args {w : World} {p : List Addr} {g gT : Nat} {L : List Tk} {i l : Nat} (h : Ps w p g gT L i l) (hE : Ends L) (hl : l ≤ 16) (op sh : ByteArray) (hop : op.size ≠ 0) (hsh : sh.size ≠ 0) (r : OutL) (hr : l ≠ 16 → has L i [op] = true → RuleL 216 p g gT L (l + 1) (i + 1) r) :
    Calls Tryz.prog 162 #[.pointer (some ⟨g, 0, none⟩), .string op, .func (.func 216) #[.pointer (some ⟨g, 0, none⟩)] #[], .string sh] w fun e w' => PostR p g gT L l w e w' (wrapL L l i op sh r) := by
  have HP := hide h
  have HE := hide hE
  have HR := hide hr
  have hi := h.lt
  have hgl := h.lt_g
  have HS := hide hsh
  obtain ⟨out, ho⟩ : ∃ out, wrapL L l i op sh r = out := ⟨_, rfl⟩
  rw [ho]
  have HW := hide ho
  clear h ho hr
  by_cases h1 : has L i [op] = true
  · by_cases h2 : l = 16
    · have HB := hide (begin_deep HP.out op h1 h2)
      have hw := HW.out
      simp only [wrapL, if_pos h1, if_pos h2] at hw
      clear h1 h2 hE hop hsh hi hl HR HP
      go_enter Tryz.func162, Tryz.ntmps162
      go_wp2_with fail
      refine HB.out.mono ?_
      rintro e w1 ⟨rfl, r2⟩
      subst hw
      exact ⟨rfl, rfl, r2⟩
    · have HB := hide (begin_yes HP.out op h1 (has_next hE hi (by simpa using hop) h1) (by omega))
      have HR := hide (HR.out h2 h1)
      have C1 := hide h1
      have C2 := hide h2
      have hl2 : l < 16 := by omega
      clear h1 h2 hE hop hsh hi HP
      go_enter Tryz.func162, Tryz.ntmps162
      go_wp2_with fail
      refine HB.out.mono ?_
      rintro e w1 ⟨rfl, r1, r2⟩
      have H1 := hide r1
      have T1 := hide r2
      clear r1 r2 HB
      go_wp2_with fail
      refine (HR.out _ H1.out).mono ?_
      intro e w2 hp
      rcases hp.both with ⟨kb, jb, c2, rfl, r2⟩ | ⟨ns, a, n, ck, j, hn, c2, rfl, hrow, r1, r2⟩
      · have hw := HW.out
        simp only [wrapL, if_pos C1.out, if_neg C2.out, c2] at hw
        subst hw
        exact ⟨rfl, rfl, T1.out.trans r2⟩
      have C3 := hide c2
      have H2 := hide r1
      have T2 := hide (T1.out.trans r2)
      have R2 := hide hrow
      have EN := hide hn
      clear c2 r1 r2 hrow HR hn
      go_wp2_with fail
      refine (take_both H2.out HE.out sh HS.out).mono ?_
      rintro e w3 (⟨c3, rfl, r2⟩ | ⟨c3, rfl, r1, r2⟩)
      · have hw := HW.out
        simp only [wrapL, if_pos C1.out, if_neg C2.out, C3.out, if_neg c3] at hw
        subst hw
        exact ⟨rfl, rfl, T2.out.trans r2⟩
      have C4 := hide c3
      have HN := hide (end_any r1 (by omega) (by omega))
      have hg1 := Nat.lt_of_lt_of_le hgl T1.out.size
      have R3 := hide (R2.out.tn r2 hg1)
      have T3 := hide (T2.out.trans r2)
      clear c3 r1 r2
      go_wp2_with fail
      refine HN.out.mono ?_
      rintro e w4 ⟨rfl, r1, r2⟩
      rw [Nat.add_sub_cancel] at r1
      have R4 := hide ((R3.out.tn r2 hg1).base T1.out.size)
      have H4 := hide (And.intro r1 (T3.out.trans r2))
      clear r1 r2 HN
      go_wp2_with fail
      go_ret
      have hw := HW.out
      simp only [wrapL, if_pos C1.out, if_neg C2.out, C3.out, if_pos C4.out] at hw
      subst hw
      exact ⟨_, rfl, R4.out, H4.out⟩
  · have HB := hide (begin_no HP.out op (by simpa using h1))
    have hw := HW.out
    simp only [wrapL, if_neg h1] at hw
    clear h1 hE hop hsh hi hl HR HP
    go_enter Tryz.func162, Tryz.ntmps162
    go_wp2_with fail
    refine HB.out.mono ?_
    rintro e w1 ⟨rfl, r2⟩
    subst hw
    exact ⟨rfl, rfl, r2⟩

end Go.Proofs.YtogeblmppagabaaGreatDoor.Ck

/- Arguments; calls. -/
namespace Go.Proofs.YtogeblmppagabaaGreatDoor.Ck
open Go.RowKit

set_option maxRecDepth 20000 in
set_option maxHeartbeats 1000000 in
theorem args_any {w : World} {p : List Addr} {g gT : Nat} {L : List Tk} {i l : Nat} (h : Ps w p g gT L i l) (hE : Ends L) (rule : Nat → Out) (hge : ∀ j m j', rule j = .ok m j' → j ≤ j') (hr : ∀ j, i ≤ j → Rule 27 p g gT L l j (rule j)) :
    Calls Tryz.prog 216 #[.pointer (some ⟨g, 0, none⟩)] w fun e w' => PostR p g gT L l w e w' (argsO L i rule) := by
  have HP := hide h
  have HE := hide hE
  have HR := hide hr
  have HG := hide hge
  obtain ⟨out, ho⟩ : ∃ out, argsO L i rule = out := ⟨_, rfl⟩
  rw [ho]
  have HW := hide ho
  clear h hE ho hr hge
  go_enter Tryz.func216, Tryz.ntmps216
  go_wp2_with fail
  refine (sees_both HP.out bShut).mono ?_
  rintro e w1 (⟨c1, rfl, hb⟩ | ⟨c1, rfl, hb⟩)
  · have C1 := hide c1
    have H1 := hide (And.intro (HP.out.below hb) (Tn.of_bel (g := g) hb))
    clear c1 hb
    go_wp2_with fail
    go_ret
    have hw := HW.out
    simp only [argsO, if_pos C1.out] at hw
    subst hw
    exact ⟨_, rfl, Row.nil _ _, H1.out⟩
  have C1 := hide c1
  have H1 := hide (HP.out.below hb)
  have T1 := hide (Tn.of_bel (g := g) hb)
  clear c1 hb
  go_wp2_with fail
  refine (list_expr H1.out HE.out rule HG.out HR.out).mono ?_
  intro e w2 hp
  rcases hp.both with ⟨kb, jb, c2, rfl, r2⟩ | ⟨ns, a, m, ck, j, hm, c2, rfl, hrow, r1, r2⟩
  · have hw := HW.out
    simp only [argsO, if_neg C1.out, c2] at hw
    subst hw
    exact ⟨rfl, rfl, T1.out.trans r2⟩
  have C2 := hide c2
  have R2 := hide (hrow.base T1.out.size)
  have H2 := hide (And.intro r1 (T1.out.trans r2))
  have EN := hide hm
  clear c2 hrow r1 r2 hm
  go_wp2_with fail
  go_ret
  have hw := HW.out
  simp only [argsO, if_neg C1.out, C2.out] at hw
  subst hw
  exact ⟨_, rfl, R2.out, H2.out⟩

set_option maxRecDepth 20000 in
set_option maxHeartbeats 1000000 in
theorem called_any {w : World} {p : List Addr} {g gT : Nat} {L : List Tk} {i l : Nat} (h : Ps w p g gT L i l) (hE : Ends L) (hl : l ≤ 16) (kd ps : Int) (nm : ByteArray) (t nz : Int) (rule : Nat → Out) (hge : ∀ j m j', rule j = .ok m j' → j ≤ j') (hr : l ≠ 16 → ∀ j, i + 1 ≤ j → Rule 27 p g gT L (l + 1) j (rule j)) :
    Calls Tryz.prog 215 #[.pointer (some ⟨g, 0, none⟩), .agg #[.int .i64 kd, .int .i64 ps, .string nm, .int .i64 t, .int .i64 nz, .int .i64 0, .int .i64 0, .int .u64 0, .slice none 0 0]] w fun e w' => PostN p g gT L l w e w' (calledO L l i rule (fun ns => .mk kd ps nm t nz 0 0 0 ns)) := by
  have S2 := hide (Sn.boxed h kd ps nm t nz)
  have HE := hide hE
  have HR := hide hr
  have HG := hide hge
  obtain ⟨out, ho⟩ : ∃ out, calledO L l i rule (fun ns => .mk kd ps nm t nz 0 0 0 ns) = out := ⟨_, rfl⟩
  rw [ho]
  have HW := hide ho
  clear h hE ho hr hge
  unfold nodZ at *
  go_enter Tryz.func215, Tryz.ntmps215
  go_wp2_with fail
  generalize (w.alloc (.cells #[.int .i64 kd, .int .i64 ps, .string nm, .int .i64 t, .int .i64 nz, .int .i64 0, .int .i64 0, .int .u64 0, .slice none 0 0] 27)).alloc (.cells #[.int .i64 0, .int .i64 0, .string ⟨#[]⟩, .int .i64 0, .int .i64 0, .int .i64 0, .int .i64 0, .int .u64 0, .slice none 0 0] 27) = w2 at *
  have hz3 := S2.out.ltz
  have hn3 := S2.out.lt
  refine (within_args S2.out.pr HE.out hl bOpen bShut (by decide) (by decide) _ (fun a _ w' hw' => args_any hw' HE.out rule HG.out (HR.out a))).mono ?_
  intro e w3 hp
  rcases hp.both with ⟨kb, jb, c3, rfl, r2⟩ | ⟨ns, a, m, ck, j3, hm, c3, rfl, hrow, r1, r2⟩
  · have hw := HW.out
    simp only [calledO, c3] at hw
    subst hw
    exact ⟨rfl, rfl, S2.out.tn.trans r2⟩
  have R3 := hide hrow
  have M3 := hide hm
  have C3 := hide c3
  have S3 := hide (S2.out.call r1 r2)
  clear c3 r1 r2 hrow hm S2
  obtain ⟨⟨fr0, fr1, fr2, fr3, fr4, fr5, fr6, fr7, fr8⟩, ce0, ce1, ce2, ce3, ce4, ce5, ce6, ce7, ce8⟩ := S3.out.vr.all
  have S4 := hide (S3.out.setKids hz3 hn3 R3.out.kids)
  clear S3
  go_wp2_with fail
  clear fr0 fr1 fr2 fr3 fr4 fr5 fr6 fr7 fr8 ce0 ce1 ce2 ce3 ce4 ce5 ce6 ce7 ce8
  have e4 : (w3.setCell ⟨w.heap.size, 8, none⟩ (.slice a m ck)).heap.size = w3.heap.size := by simp
  generalize w3.setCell ⟨w.heap.size, 8, none⟩ (.slice a m ck) = w4 at *
  rw [← e4]
  clear e4
  refine (take_both S4.out.pr HE.out bSemi (by decide)).mono ?_
  rintro e w5 (⟨c5, rfl, r2⟩ | ⟨c5, rfl, r1, r2⟩)
  · have hw := HW.out
    simp only [calledO, C3.out, endO, if_neg c5] at hw
    subst hw
    exact ⟨rfl, rfl, S4.out.tn.trans r2⟩
  have C5 := hide c5
  have S5 := hide (S4.out.call r1 r2)
  clear c5 r1 r2 S4
  obtain ⟨⟨fz0, fz1, fz2, fz3, fz4, fz5, fz6, fz7, fz8⟩, bz0, bz1, bz2, bz3, bz4, bz5, bz6, bz7, bz8⟩ := S5.out.zr.all
  obtain ⟨_, cg0, cg1, cg2, cg3, cg4, cg5, cg6, cg7, cg8⟩ := S5.out.vr.all
  obtain ⟨_, rfl, z9, v9, p9, t9⟩ := S5.out.done
  have Z9 := hide z9
  have D9 := hide (And.intro v9 (And.intro p9 t9))
  clear z9 v9 p9 t9 S5
  go_wp2_with fail
  refine ret_nod (w.heap.size + 1) rfl rfl Z9.out rfl ?_
  have hw := HW.out
  simp only [calledO, C3.out, endO, if_pos C5.out] at hw
  subst hw
  exact ⟨_, rfl, D9.out⟩

end Go.Proofs.YtogeblmppagabaaGreatDoor.Ck

/- Go statements. -/
namespace Go.Proofs.YtogeblmppagabaaGreatDoor.Ck
open Go.RowKit

set_option maxRecDepth 20000 in
set_option maxHeartbeats 1000000 in
theorem goes_any {w : World} {p : List Addr} {g gT : Nat} {L : List Tk} {i l : Nat} (h : Ps w p g gT L i l) (hE : Ends L) (hl : l ≤ 16) (hi : i + 1 < L.length) (rule : Nat → Out) (hge : ∀ j m j', rule j = .ok m j' → j ≤ j') (hr : l ≠ 16 → ∀ j, i + 1 + 1 + 1 ≤ j → Rule 27 p g gT L (l + 1) j (rule j)) :
    Calls Tryz.prog 201 #[.pointer (some ⟨g, 0, none⟩)] w fun e w' => PostN p g gT L l w e w' (goesO L l i rule) := by
  have HP := hide h
  have HE := hide hE
  have HI := hide hi
  have HR := hide hr
  have HG := hide hge
  have hb0 := hide (bel_new w nodZ)
  have hz0 := hide (nod_new w)
  have H0 := hide (h.below hb0.out)
  obtain ⟨out, ho⟩ : ∃ out, goesO L l i rule = out := ⟨_, rfl⟩
  rw [ho]
  have HW := hide ho
  clear h hE ho hi hr hge
  unfold nodZ at *
  go_enter Tryz.func201, Tryz.ntmps201
  go_wp2_with fail
  generalize w.alloc (.cells #[.int .i64 0, .int .i64 0, .string ⟨#[]⟩, .int .i64 0, .int .i64 0, .int .i64 0, .int .i64 0, .int .u64 0, .slice none 0 0] 27) = w0 at *
  refine (open_any H0.out (12) HI.out).mono ?_
  rintro e w1 ⟨rfl, r1, r2⟩
  have S2 := hide (Sn.start HP.out hb0.out hz0.out r1 r2 (12) (tkAt L i).pos ⟨#[]⟩ 0 0)
  clear r1 r2 hb0 hz0 H0
  go_wp2_with fail
  generalize w1.alloc (.cells #[.int .i64 (12), .int .i64 (tkAt L i).pos, .string ⟨#[]⟩, .int .i64 0, .int .i64 0, .int .i64 0, .int .i64 0, .int .u64 0, .slice none 0 0] 27) = w2 at *
  generalize w1.heap.size = n at *
  refine (word_both S2.out.pr HE.out ).mono ?_
  rintro e w3 (⟨c3, rfl, r2⟩ | ⟨c3, rfl, r1, r2⟩)
  · have hw := HW.out
    simp only [goesO, if_neg c3] at hw
    subst hw
    exact ⟨rfl, rfl, S2.out.tn.trans r2⟩
  have C3 := hide c3
  have S3 := hide (S2.out.call r1 r2)
  clear c3 r1 r2 S2
  obtain ⟨⟨fr0, fr1, fr2, fr3, fr4, fr5, fr6, fr7, fr8⟩, ce0, ce1, ce2, ce3, ce4, ce5, ce6, ce7, ce8⟩ := S3.out.vr.all
  have S4 := hide (S3.out.setName (tx L (i + 1)))
  obtain ⟨_, cg0, cg1, cg2, cg3, cg4, cg5, cg6, cg7, cg8⟩ := S4.out.vr.all
  clear S3
  go_wp2_with fail
  clear fr0 fr1 fr2 fr3 fr4 fr5 fr6 fr7 fr8 ce0 ce1 ce2 ce3 ce4 ce5 ce6 ce7 ce8 cg0 cg1 cg2 cg3 cg4 cg5 cg6 cg7 cg8
  generalize w3.setCell ⟨n, 2, none⟩ (.string (tx L (i + 1))) = w4 at *
  have hC := S4.out.ltz
  refine (called_any S4.out.pr HE.out hl 12 (tkAt L i).pos (tx L (i + 1)) 0 0 rule HG.out HR.out).mono ?_
  intro e w5 hp
  rcases hp.both with ⟨kb, jb, c5, rfl, r2⟩ | ⟨kd, ps, nm, t, nz, z, ob, bi, ks, a, len, ck, j5, c5, rfl, hk, r1, r2⟩
  · have hw := HW.out
    simp only [goesO, if_pos C3.out, c5] at hw
    subst hw
    exact ⟨rfl, rfl, S4.out.tn.trans r2⟩
  have Z5 := hide (S4.out.zn.call r1 r2)
  have C5 := hide c5
  clear c5 r1 r2 S4
  obtain ⟨⟨fz0, fz1, fz2, fz3, fz4, fz5, fz6, fz7, fz8⟩, bz0, bz1, bz2, bz3, bz4, bz5, bz6, bz7, bz8⟩ := Z5.out.zr.all
  obtain ⟨_, rfl, z9, v9, p9, t9⟩ := Z5.out.done (kd := kd) (ps := ps) (nm := nm) (t := t) (nz := nz) (z := z) (ob := ob) (bi := bi) hC hk
  have Z9 := hide z9
  have D9 := hide (And.intro v9 (And.intro p9 t9))
  clear z9 v9 p9 t9 hk Z5
  go_wp2_with fail
  refine ret_nod w.heap.size rfl rfl Z9.out rfl ?_
  have hw := HW.out
  simp only [goesO, if_pos C3.out, C5.out] at hw
  subst hw
  exact ⟨_, rfl, D9.out⟩

end Go.Proofs.YtogeblmppagabaaGreatDoor.Ck

/- Statements within brackets. -/
namespace Go.Proofs.YtogeblmppagabaaGreatDoor.Ck
open Go.RowKit

set_option maxRecDepth 20000 in
set_option maxHeartbeats 1000000 in
theorem within_stmts {w : World} {p : List Addr} {g gT : Nat} {L : List Tk} {i l : Nat} (h : Ps w p g gT L i l) (hE : Ends L) (hl : l ≤ 16) (op sh : ByteArray) (hop : op.size ≠ 0) (hsh : sh.size ≠ 0) (r : OutL) (hr : l ≠ 16 → has L i [op] = true → RuleL 163 p g gT L (l + 1) (i + 1) r) :
    Calls Tryz.prog 162 #[.pointer (some ⟨g, 0, none⟩), .string op, .func (.func 163) #[.pointer (some ⟨g, 0, none⟩)] #[], .string sh] w fun e w' => PostR p g gT L l w e w' (wrapL L l i op sh r) := by
  have HP := hide h
  have HE := hide hE
  have HR := hide hr
  have hi := h.lt
  have hgl := h.lt_g
  have HS := hide hsh
  obtain ⟨out, ho⟩ : ∃ out, wrapL L l i op sh r = out := ⟨_, rfl⟩
  rw [ho]
  have HW := hide ho
  clear h ho hr
  by_cases h1 : has L i [op] = true
  · by_cases h2 : l = 16
    · have HB := hide (begin_deep HP.out op h1 h2)
      have hw := HW.out
      simp only [wrapL, if_pos h1, if_pos h2] at hw
      clear h1 h2 hE hop hsh hi hl HR HP
      go_enter Tryz.func162, Tryz.ntmps162
      go_wp2_with fail
      refine HB.out.mono ?_
      rintro e w1 ⟨rfl, r2⟩
      subst hw
      exact ⟨rfl, rfl, r2⟩
    · have HB := hide (begin_yes HP.out op h1 (has_next hE hi (by simpa using hop) h1) (by omega))
      have HR := hide (HR.out h2 h1)
      have C1 := hide h1
      have C2 := hide h2
      have hl2 : l < 16 := by omega
      clear h1 h2 hE hop hsh hi HP
      go_enter Tryz.func162, Tryz.ntmps162
      go_wp2_with fail
      refine HB.out.mono ?_
      rintro e w1 ⟨rfl, r1, r2⟩
      have H1 := hide r1
      have T1 := hide r2
      clear r1 r2 HB
      go_wp2_with fail
      refine (HR.out _ H1.out).mono ?_
      intro e w2 hp
      rcases hp.both with ⟨kb, jb, c2, rfl, r2⟩ | ⟨ns, a, n, ck, j, hn, c2, rfl, hrow, r1, r2⟩
      · have hw := HW.out
        simp only [wrapL, if_pos C1.out, if_neg C2.out, c2] at hw
        subst hw
        exact ⟨rfl, rfl, T1.out.trans r2⟩
      have C3 := hide c2
      have H2 := hide r1
      have T2 := hide (T1.out.trans r2)
      have R2 := hide hrow
      have EN := hide hn
      clear c2 r1 r2 hrow HR hn
      go_wp2_with fail
      refine (take_both H2.out HE.out sh HS.out).mono ?_
      rintro e w3 (⟨c3, rfl, r2⟩ | ⟨c3, rfl, r1, r2⟩)
      · have hw := HW.out
        simp only [wrapL, if_pos C1.out, if_neg C2.out, C3.out, if_neg c3] at hw
        subst hw
        exact ⟨rfl, rfl, T2.out.trans r2⟩
      have C4 := hide c3
      have HN := hide (end_any r1 (by omega) (by omega))
      have hg1 := Nat.lt_of_lt_of_le hgl T1.out.size
      have R3 := hide (R2.out.tn r2 hg1)
      have T3 := hide (T2.out.trans r2)
      clear c3 r1 r2
      go_wp2_with fail
      refine HN.out.mono ?_
      rintro e w4 ⟨rfl, r1, r2⟩
      rw [Nat.add_sub_cancel] at r1
      have R4 := hide ((R3.out.tn r2 hg1).base T1.out.size)
      have H4 := hide (And.intro r1 (T3.out.trans r2))
      clear r1 r2 HN
      go_wp2_with fail
      go_ret
      have hw := HW.out
      simp only [wrapL, if_pos C1.out, if_neg C2.out, C3.out, if_pos C4.out] at hw
      subst hw
      exact ⟨_, rfl, R4.out, H4.out⟩
  · have HB := hide (begin_no HP.out op (by simpa using h1))
    have hw := HW.out
    simp only [wrapL, if_neg h1] at hw
    clear h1 hE hop hsh hi hl HR HP
    go_enter Tryz.func162, Tryz.ntmps162
    go_wp2_with fail
    refine HB.out.mono ?_
    rintro e w1 ⟨rfl, r2⟩
    subst hw
    exact ⟨rfl, rfl, r2⟩

end Go.Proofs.YtogeblmppagabaaGreatDoor.Ck

/- Blocks. -/
namespace Go.Proofs.YtogeblmppagabaaGreatDoor.Ck
open Go.RowKit

set_option maxRecDepth 20000 in
set_option maxHeartbeats 1000000 in
theorem block_any {w : World} {p : List Addr} {g gT : Nat} {L : List Tk} {i l : Nat} (h : Ps w p g gT L i l) (hE : Ends L) (hl : l ≤ 16) (r : OutL) (hr : l ≠ 16 → has L i [bCur] = true → RuleL 163 p g gT L (l + 1) (i + 1) r) :
    Calls Tryz.prog 138 #[.pointer (some ⟨g, 0, none⟩)] w fun e w' => PostN p g gT L l w e w' (blockO L l i r) := by
  have HP := hide h
  have HE := hide hE
  have HR := hide hr
  have hb0 := hide (bel_new w nodZ)
  have hz0 := hide (nod_new w)
  have H0 := hide (h.below hb0.out)
  obtain ⟨tk, htk⟩ : ∃ tk, tkAt L i = tk := ⟨_, rfl⟩
  have HK := hide htk
  clear htk
  obtain ⟨kind, text, nn, bits_, pos⟩ := tk
  have hf4 := tf4 (.int .i64 kind) (.string text) (.int .i64 nn) (.int .u64 bits_) (.int .i64 pos)
  obtain ⟨out, ho⟩ : ∃ out, blockO L l i r = out := ⟨_, rfl⟩
  rw [ho]
  have HW := hide ho
  clear h hE ho hr
  unfold nodZ at *
  go_enter Tryz.func138, Tryz.ntmps138
  go_wp2_with fail
  generalize w.alloc (.cells #[.int .i64 0, .int .i64 0, .string ⟨#[]⟩, .int .i64 0, .int .i64 0, .int .i64 0, .int .i64 0, .int .u64 0, .slice none 0 0] 27) = w0 at *
  refine (here_any H0.out).mono ?_
  rintro e w1 ⟨he, hb1⟩
  rw [HK.out] at he
  dsimp only [Tk.val] at he
  subst he
  have S2 := hide (Sn.start HP.out hb0.out hz0.out (H0.out.below hb1) (Tn.of_bel hb1) 9 pos ⟨#[]⟩ 0 0)
  clear hb1 hb0 hz0 H0
  go_wp2_with fail
  generalize w1.alloc (.cells #[.int .i64 9, .int .i64 pos, .string ⟨#[]⟩, .int .i64 0, .int .i64 0, .int .i64 0, .int .i64 0, .int .u64 0, .slice none 0 0] 27) = w2 at *
  generalize w1.heap.size = n at *
  clear hf4
  have hz3 := S2.out.ltz
  have hn3 := S2.out.lt
  refine (within_stmts S2.out.pr HE.out hl bCur bCue (by decide) (by decide) r HR.out).mono ?_
  intro e w3 hp
  rcases hp.both with ⟨kb, jb, c3, rfl, r2⟩ | ⟨ns, a, m, ck, j3, hm, c3, rfl, hrow, r1, r2⟩
  · have hw := HW.out
    simp only [blockO, c3] at hw
    subst hw
    exact ⟨rfl, rfl, S2.out.tn.trans r2⟩
  have R3 := hide hrow
  have M3 := hide hm
  have C3 := hide c3
  have S3 := hide (S2.out.call r1 r2)
  clear c3 r1 r2 hrow hm S2
  obtain ⟨⟨fr0, fr1, fr2, fr3, fr4, fr5, fr6, fr7, fr8⟩, ce0, ce1, ce2, ce3, ce4, ce5, ce6, ce7, ce8⟩ := S3.out.vr.all
  have S4 := hide (S3.out.setKids hz3 hn3 R3.out.kids)
  obtain ⟨⟨fz0, fz1, fz2, fz3, fz4, fz5, fz6, fz7, fz8⟩, bz0, bz1, bz2, bz3, bz4, bz5, bz6, bz7, bz8⟩ := S4.out.zr.all
  obtain ⟨_, cg0, cg1, cg2, cg3, cg4, cg5, cg6, cg7, cg8⟩ := S4.out.vr.all
  obtain ⟨_, rfl, z9, v9, p9, t9⟩ := S4.out.done
  have Z9 := hide z9
  have D9 := hide (And.intro v9 (And.intro p9 t9))
  clear z9 v9 p9 t9 S3 S4
  go_wp2_with fail
  refine ret_nod (w.heap.size) rfl rfl Z9.out rfl ?_
  have hw := HW.out
  simp only [blockO, C3.out] at hw
  subst hw
  rw [HK.out]
  exact ⟨_, rfl, D9.out⟩

end Go.Proofs.YtogeblmppagabaaGreatDoor.Ck

/- Loops. -/
namespace Go.Proofs.YtogeblmppagabaaGreatDoor.Ck
open Go.RowKit

set_option maxRecDepth 20000 in
set_option maxHeartbeats 1000000 in
theorem loop_any {w : World} {p : List Addr} {g gT : Nat} {L : List Tk} {i l : Nat} (h : Ps w p g gT L i l) (hE : Ends L) (hi : i + 1 < L.length) (ex bl : Nat → Out) (he : Rule 27 p g gT L l (i + 1) (ex (i + 1))) (hbl : ∀ n j, ex (i + 1) = .ok n j → Rule 138 p g gT L l j (bl j)) :
    Calls Tryz.prog 204 #[.pointer (some ⟨g, 0, none⟩)] w fun e w' => PostN p g gT L l w e w' (loopO L i ex bl) := by
  have HP := hide h
  have HE := hide hE
  have HI := hide hi
  have HR := hide he
  have HB := hide hbl
  have hb0 := hide (bel_new w nodZ)
  have hz0 := hide (nod_new w)
  have H0 := hide (h.below hb0.out)
  obtain ⟨out, ho⟩ : ∃ out, loopO L i ex bl = out := ⟨_, rfl⟩
  rw [ho]
  have HW := hide ho
  clear h hE ho hi he hbl
  unfold nodZ at *
  go_enter Tryz.func204, Tryz.ntmps204
  go_wp2_with fail
  generalize w.alloc (.cells #[.int .i64 0, .int .i64 0, .string ⟨#[]⟩, .int .i64 0, .int .i64 0, .int .i64 0, .int .i64 0, .int .u64 0, .slice none 0 0] 27) = w0 at *
  refine (open_any H0.out (22) HI.out).mono ?_
  rintro e w1 ⟨rfl, r1, r2⟩
  have S2 := hide (Sn.start HP.out hb0.out hz0.out r1 r2 (22) (tkAt L i).pos ⟨#[]⟩ 0 0)
  clear r1 r2 hb0 hz0 H0
  go_wp2_with fail
  have e2 : (w1.alloc (.cells #[.int .i64 (22), .int .i64 (tkAt L i).pos, .string ⟨#[]⟩, .int .i64 0, .int .i64 0, .int .i64 0, .int .i64 0, .int .u64 0, .slice none 0 0] 27)).heap.size = w1.heap.size + 1 := by simp
  generalize w1.alloc (.cells #[.int .i64 (22), .int .i64 (tkAt L i).pos, .string ⟨#[]⟩, .int .i64 0, .int .i64 0, .int .i64 0, .int .i64 0, .int .u64 0, .slice none 0 0] 27) = w2 at *
  generalize w1.heap.size = n at *
  rw [← e2]
  clear e2
  have hz3 := S2.out.ltz
  have hn3 := S2.out.lt
  refine (all2_any S2.out.pr ex bl HR.out HB.out).mono ?_
  intro e w3 hp
  rcases hp.both with ⟨kb, jb, c3, rfl, r2⟩ | ⟨ns, a, m, ck, j3, hm, c3, rfl, hrow, r1, r2⟩
  · have hw := HW.out
    simp only [loopO, c3] at hw
    subst hw
    exact ⟨rfl, rfl, S2.out.tn.trans r2⟩
  have R3 := hide hrow
  have M3 := hide hm
  have C3 := hide c3
  have S3 := hide (S2.out.call r1 r2)
  clear c3 r1 r2 hrow hm S2
  obtain ⟨⟨fr0, fr1, fr2, fr3, fr4, fr5, fr6, fr7, fr8⟩, ce0, ce1, ce2, ce3, ce4, ce5, ce6, ce7, ce8⟩ := S3.out.vr.all
  have S4 := hide (S3.out.setKids hz3 hn3 R3.out.kids)
  obtain ⟨⟨fz0, fz1, fz2, fz3, fz4, fz5, fz6, fz7, fz8⟩, bz0, bz1, bz2, bz3, bz4, bz5, bz6, bz7, bz8⟩ := S4.out.zr.all
  obtain ⟨_, cg0, cg1, cg2, cg3, cg4, cg5, cg6, cg7, cg8⟩ := S4.out.vr.all
  obtain ⟨_, rfl, z9, v9, p9, t9⟩ := S4.out.done
  have Z9 := hide z9
  have D9 := hide (And.intro v9 (And.intro p9 t9))
  clear z9 v9 p9 t9 S3 S4
  go_wp2_with fail
  refine ret_nod (w.heap.size) rfl rfl Z9.out rfl ?_
  have hw := HW.out
  simp only [loopO, C3.out] at hw
  subst hw
  exact ⟨_, rfl, D9.out⟩

end Go.Proofs.YtogeblmppagabaaGreatDoor.Ck

/- Statements of a name. -/
namespace Go.Proofs.YtogeblmppagabaaGreatDoor.Ck
open Go.RowKit

set_option maxRecDepth 20000 in
set_option maxHeartbeats 1000000 in
theorem named0_any {w : World} {p : List Addr} {g gT : Nat} {L : List Tk} {i l : Nat} (h : Ps w p g gT L i l) (hE : Ends L) (hi : i + 1 < L.length) (kd : Int) :
    Calls Tryz.prog 103 #[.pointer (some ⟨g, 0, none⟩), .int .i64 kd, .slice none 0 0] w fun e w' => PostN p g gT L l w e w' (named0O L kd i) := by
  have HP := hide h
  have HE := hide hE
  have HI := hide hi
  have hb0 := hide (bel_new w nodZ)
  have hz0 := hide (nod_new w)
  have H0 := hide (h.below hb0.out)
  obtain ⟨out, ho⟩ : ∃ out, named0O L kd i = out := ⟨_, rfl⟩
  rw [ho]
  have HW := hide ho
  clear h hE ho hi
  unfold nodZ at *
  go_enter Tryz.func103, Tryz.ntmps103
  go_wp2_with fail
  generalize w.alloc (.cells #[.int .i64 0, .int .i64 0, .string ⟨#[]⟩, .int .i64 0, .int .i64 0, .int .i64 0, .int .i64 0, .int .u64 0, .slice none 0 0] 27) = w0 at *
  refine (open_any H0.out (kd) HI.out).mono ?_
  rintro e w1 ⟨rfl, r1, r2⟩
  have S2 := hide (Sn.start HP.out hb0.out hz0.out r1 r2 (kd) (tkAt L i).pos ⟨#[]⟩ 0 0)
  clear r1 r2 hb0 hz0 H0
  go_wp2_with fail
  generalize w1.alloc (.cells #[.int .i64 (kd), .int .i64 (tkAt L i).pos, .string ⟨#[]⟩, .int .i64 0, .int .i64 0, .int .i64 0, .int .i64 0, .int .u64 0, .slice none 0 0] 27) = w2 at *
  generalize w1.heap.size = n at *
  refine (word_both S2.out.pr HE.out ).mono ?_
  rintro e w3 (⟨c3, rfl, r2⟩ | ⟨c3, rfl, r1, r2⟩)
  · have hw := HW.out
    simp only [named0O, if_neg c3] at hw
    subst hw
    exact ⟨rfl, rfl, S2.out.tn.trans r2⟩
  have C3 := hide c3
  have S3 := hide (S2.out.call r1 r2)
  clear c3 r1 r2 S2
  obtain ⟨⟨fr0, fr1, fr2, fr3, fr4, fr5, fr6, fr7, fr8⟩, ce0, ce1, ce2, ce3, ce4, ce5, ce6, ce7, ce8⟩ := S3.out.vr.all
  have S4 := hide (S3.out.setName (tx L (i + 1)))
  clear S3
  go_wp2_with fail
  clear fr0 fr1 fr2 fr3 fr4 fr5 fr6 fr7 fr8 ce0 ce1 ce2 ce3 ce4 ce5 ce6 ce7 ce8
  generalize w3.setCell ⟨n, 2, none⟩ (.string (tx L (i + 1))) = w4 at *
  refine wp_loop_rounds 1 ?_
  rw [rounds_succ]
  go_wp2_with fail
  refine (take_both S4.out.pr HE.out bSemi (by decide)).mono ?_
  rintro e w5 (⟨c5, rfl, r2⟩ | ⟨c5, rfl, r1, r2⟩)
  · have hw := HW.out
    simp only [named0O, if_pos C3.out, endO, if_neg c5] at hw
    subst hw
    exact ⟨rfl, rfl, S4.out.tn.trans r2⟩
  have C5 := hide c5
  have S5 := hide (S4.out.call r1 r2)
  clear c5 r1 r2 S4
  obtain ⟨⟨fz0, fz1, fz2, fz3, fz4, fz5, fz6, fz7, fz8⟩, bz0, bz1, bz2, bz3, bz4, bz5, bz6, bz7, bz8⟩ := S5.out.zr.all
  obtain ⟨_, cg0, cg1, cg2, cg3, cg4, cg5, cg6, cg7, cg8⟩ := S5.out.vr.all
  obtain ⟨_, rfl, z9, v9, p9, t9⟩ := S5.out.done
  have Z9 := hide z9
  have D9 := hide (And.intro v9 (And.intro p9 t9))
  clear z9 v9 p9 t9 S5
  go_wp2_with fail
  refine ret_nod (w.heap.size) rfl rfl Z9.out rfl ?_
  have hw := HW.out
  simp only [named0O, if_pos C3.out, endO, if_pos C5.out] at hw
  subst hw
  exact ⟨_, rfl, D9.out⟩

end Go.Proofs.YtogeblmppagabaaGreatDoor.Ck
