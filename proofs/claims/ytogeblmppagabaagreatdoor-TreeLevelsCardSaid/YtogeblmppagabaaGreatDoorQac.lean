/- Texts of this proof, packed: contracts of the program's functions, and the plain model that they are held against. -/
import Derived.Shelf.LaysC
import Derived.Shelf.LaysM
import Derived.Shelf.Slices.Turned
import Derived.Shelf.Small.Strs
import Derived.Shelf.Strconv.AtoiAll
import Derived.Shelf.Strconv.Clone
import Derived.Shelf.Strings.Prefix
import Derived.Test.YtogeblmppagabaaGreatDoorProg
import Derived.Test.YtogeblmppagabaaGreatDoorQab
/- Contracts of the library's shelf, laid at this program. -/
namespace Go.Proofs
open Go.Shelf
def Tryz.lays137_ren : Go.Shelf.Ren := ⟨fun | 137 => 168 | 217 => 192 | 266 => 208 | n => n, fun | 9 => 9 | 5 => 5 | 3 => 3 | n => n, fun | n => n⟩
theorem Tryz.lays137 : Go.Proofs.Lays.n137 Tryz.prog Tryz.lays137_ren := {
  mixed := by kernel_rfl
  f137 := Tryz.func168.trans (congrArg some (by kernel_rfl))
  f217 := Tryz.func192.trans (congrArg some (by kernel_rfl))
  f266 := Tryz.func208.trans (congrArg some (by kernel_rfl))
  t3 := Tryz.underlying3
  a3 := Tryz.isAgg3
  z3 := Tryz.sizeOf3
  v3 := Tryz.zeroValue3
  t5 := Tryz.underlying5
  a5 := Tryz.isAgg5
  z5 := Tryz.sizeOf5
  v5 := Tryz.zeroValue5
  t9 := Tryz.underlying9
  a9 := Tryz.isAgg9
  z9 := Tryz.sizeOf9
  v9 := Tryz.zeroValue9 }
open Go.RowKit in
theorem Tryz.strings_IndexByte (s : ByteArray) (c : Int) (w : World) :
    Calls Tryz.prog 168 #[.string s, .int .u8 c] w fun e w' => e = .returned (.int .i64 (Lib.indexByte s.data.toList c.toNat.toUInt8)) ∧ w' = w := Any.strings_IndexByte Tryz.lays137 s c w
def Tryz.laysM316_ren : Go.Shelf.Ren := ⟨fun | 316 => 184 | n => n, fun | 9 => 9 | 3 => 3 | 4 => 4 | 37 => 79 | 0 => 0 | 127 => 107 | 5 => 5 | n => n, fun | n => n⟩
theorem Tryz.laysM316 : Go.Proofs.LaysM.n316 Tryz.prog Tryz.laysM316_ren := {
  mixed := by kernel_rfl
  f316 := Tryz.func184.trans (congrArg some (by kernel_rfl))
  t0 := Tryz.underlying0
  a0 := Tryz.isAgg0
  z0 := Tryz.sizeOf0
  v0 := Tryz.zeroValue0
  t3 := Tryz.underlying3
  a3 := Tryz.isAgg3
  z3 := Tryz.sizeOf3
  v3 := Tryz.zeroValue3
  t4 := Tryz.underlying4
  a4 := Tryz.isAgg4
  z4 := Tryz.sizeOf4
  v4 := Tryz.zeroValue4
  t9 := Tryz.underlying9
  a9 := Tryz.isAgg9
  z9 := Tryz.sizeOf9
  v9 := Tryz.zeroValue9
  t37 := Tryz.underlying79
  a37 := Tryz.isAgg79
  z37 := Tryz.sizeOf79
  v37 := Tryz.zeroValue79
  t127 := Tryz.underlying107
  a127 := Tryz.isAgg107
  z127 := Tryz.sizeOf107
  v127 := Tryz.zeroValue107
  t5 := Tryz.underlying5
  a5 := Tryz.isAgg5
  z5 := Tryz.sizeOf5
  v5 := Tryz.zeroValue5
  i0 := by kernel_rfl
  i3 := by kernel_rfl
  i4 := by kernel_rfl
  i5 := by kernel_rfl
  i9 := by kernel_rfl
  i37 := by kernel_rfl
  i127 := by kernel_rfl }
open Go.RowKit in
theorem Tryz.stringslite_Clone (s : ByteArray) (w : World) (hlim : s.size ≤ 281474976710656) :
    Calls Tryz.prog 184 #[.string s] w fun e w' => e = .returned (.string s) ∧ Below w.heap.size w w' := Any.stringslite_Clone Tryz.laysM316 s w hlim
def Tryz.laysC172_ren : Go.Shelf.Ren := ⟨fun | 172 => 143 | 244 => 165 | 245 => 166 | 247 => 185 | 279 => 186 | 280 => 187 | 281 => 188 | 282 => 189 | 287 => 167 | 316 => 184 | 171 => 93 | 205 => 207 | 321 => 190 | 322 => 191 | 243 => 122 | 246 => 153 | 283 => 172 | 284 => 173 | 285 => 174 | 286 => 175 | 129 => 196 | 317 => 195 | 318 => 197 | 319 => 198 | 320 => 199 | 337 => 213 | 338 => 214 | n => n, fun | 9 => 9 | 3 => 3 | 75 => 29 | 76 => 128 | 4 => 4 | 5 => 5 | 167 => 166 | 37 => 79 | 0 => 0 | 85 => 167 | 2 => 2 | 168 => 169 | 53 => 24 | 175 => 139 | 46 => 143 | 210 => 181 | 127 => 107 | 145 => 186 | 143 => 184 | 21 => 21 | 171 => 155 | 173 => 158 | 212 => 176 | 51 => 160 | 20 => 20 | 213 => 177 | 232 => 187 | 233 => 188 | 80 => 77 | n => n, fun | 15 => 18 | 16 => 19 | 17 => 17 | 18 => 21 | 19 => 22 | n => n⟩
theorem Tryz.laysC172 : Go.Proofs.LaysC.n172 Tryz.prog Tryz.laysC172_ren := {
  mixed := by kernel_rfl
  f129 := Tryz.func196.trans (congrArg some (by kernel_rfl))
  f171 := Tryz.func93.trans (congrArg some (by kernel_rfl))
  f172 := Tryz.func143.trans (congrArg some (by kernel_rfl))
  f205 := Tryz.func207.trans (congrArg some (by kernel_rfl))
  f243 := Tryz.func122.trans (congrArg some (by kernel_rfl))
  f244 := Tryz.func165.trans (congrArg some (by kernel_rfl))
  f245 := Tryz.func166.trans (congrArg some (by kernel_rfl))
  f246 := Tryz.func153.trans (congrArg some (by kernel_rfl))
  f247 := Tryz.func185.trans (congrArg some (by kernel_rfl))
  f279 := Tryz.func186.trans (congrArg some (by kernel_rfl))
  f280 := Tryz.func187.trans (congrArg some (by kernel_rfl))
  f281 := Tryz.func188.trans (congrArg some (by kernel_rfl))
  f282 := Tryz.func189.trans (congrArg some (by kernel_rfl))
  f283 := Tryz.func172.trans (congrArg some (by kernel_rfl))
  f284 := Tryz.func173.trans (congrArg some (by kernel_rfl))
  f285 := Tryz.func174.trans (congrArg some (by kernel_rfl))
  f286 := Tryz.func175.trans (congrArg some (by kernel_rfl))
  f287 := Tryz.func167.trans (congrArg some (by kernel_rfl))
  f316 := Tryz.func184.trans (congrArg some (by kernel_rfl))
  f317 := Tryz.func195.trans (congrArg some (by kernel_rfl))
  f318 := Tryz.func197.trans (congrArg some (by kernel_rfl))
  f319 := Tryz.func198.trans (congrArg some (by kernel_rfl))
  f320 := Tryz.func199.trans (congrArg some (by kernel_rfl))
  f321 := Tryz.func190.trans (congrArg some (by kernel_rfl))
  f322 := Tryz.func191.trans (congrArg some (by kernel_rfl))
  f337 := Tryz.func213.trans (congrArg some (by kernel_rfl))
  f338 := Tryz.func214.trans (congrArg some (by kernel_rfl))
  t0 := Tryz.underlying0
  a0 := Tryz.isAgg0
  z0 := Tryz.sizeOf0
  v0 := Tryz.zeroValue0
  t2 := Tryz.underlying2
  a2 := Tryz.isAgg2
  z2 := Tryz.sizeOf2
  v2 := Tryz.zeroValue2
  t3 := Tryz.underlying3
  a3 := Tryz.isAgg3
  z3 := Tryz.sizeOf3
  v3 := Tryz.zeroValue3
  t4 := Tryz.underlying4
  a4 := Tryz.isAgg4
  z4 := Tryz.sizeOf4
  v4 := Tryz.zeroValue4
  t5 := Tryz.underlying5
  a5 := Tryz.isAgg5
  z5 := Tryz.sizeOf5
  v5 := Tryz.zeroValue5
  t9 := Tryz.underlying9
  a9 := Tryz.isAgg9
  z9 := Tryz.sizeOf9
  v9 := Tryz.zeroValue9
  t20 := Tryz.underlying20
  a20 := Tryz.isAgg20
  z20 := Tryz.sizeOf20
  v20 := Tryz.zeroValue20
  t21 := Tryz.underlying21
  a21 := Tryz.isAgg21
  z21 := Tryz.sizeOf21
  v21 := Tryz.zeroValue21
  t37 := Tryz.underlying79
  a37 := Tryz.isAgg79
  z37 := Tryz.sizeOf79
  v37 := Tryz.zeroValue79
  t46 := Tryz.underlying143
  a46 := Tryz.isAgg143
  z46 := Tryz.sizeOf143
  v46 := Tryz.zeroValue143
  t51 := Tryz.underlying160
  a51 := Tryz.isAgg160
  z51 := Tryz.sizeOf160
  v51 := Tryz.zeroValue160
  t53 := Tryz.underlying24
  a53 := Tryz.isAgg24
  z53 := Tryz.sizeOf24
  v53 := Tryz.zeroValue24
  t75 := Tryz.underlying29
  a75 := Tryz.isAgg29
  z75 := Tryz.sizeOf29
  v75 := Tryz.zeroValue29
  t76 := Tryz.underlying128
  a76 := Tryz.isAgg128
  z76 := Tryz.sizeOf128
  v76 := Tryz.zeroValue128
  t85 := Tryz.underlying167
  a85 := Tryz.isAgg167
  z85 := Tryz.sizeOf167
  v85 := Tryz.zeroValue167
  t127 := Tryz.underlying107
  a127 := Tryz.isAgg107
  z127 := Tryz.sizeOf107
  v127 := Tryz.zeroValue107
  t143 := Tryz.underlying184
  a143 := Tryz.isAgg184
  z143 := Tryz.sizeOf184
  v143 := Tryz.zeroValue184
  t145 := Tryz.underlying186
  a145 := Tryz.isAgg186
  z145 := Tryz.sizeOf186
  v145 := Tryz.zeroValue186
  t167 := Tryz.underlying166
  a167 := Tryz.isAgg166
  z167 := Tryz.sizeOf166
  v167 := Tryz.zeroValue166
  t168 := Tryz.underlying169
  a168 := Tryz.isAgg169
  z168 := Tryz.sizeOf169
  v168 := Tryz.zeroValue169
  t171 := Tryz.underlying155
  a171 := Tryz.isAgg155
  z171 := Tryz.sizeOf155
  v171 := Tryz.zeroValue155
  t173 := Tryz.underlying158
  a173 := Tryz.isAgg158
  z173 := Tryz.sizeOf158
  v173 := Tryz.zeroValue158
  t175 := Tryz.underlying139
  a175 := Tryz.isAgg139
  z175 := Tryz.sizeOf139
  v175 := Tryz.zeroValue139
  t210 := Tryz.underlying181
  a210 := Tryz.isAgg181
  z210 := Tryz.sizeOf181
  v210 := Tryz.zeroValue181
  t212 := Tryz.underlying176
  a212 := Tryz.isAgg176
  z212 := Tryz.sizeOf176
  v212 := Tryz.zeroValue176
  t213 := Tryz.underlying177
  a213 := Tryz.isAgg177
  z213 := Tryz.sizeOf177
  t232 := Tryz.underlying187
  a232 := Tryz.isAgg187
  z232 := Tryz.sizeOf187
  v232 := Tryz.zeroValue187
  t233 := Tryz.underlying188
  a233 := Tryz.isAgg188
  z233 := Tryz.sizeOf188
  v233 := Tryz.zeroValue188
  g15 := by kernel_rfl
  g16 := by kernel_rfl
  g17 := by kernel_rfl
  g18 := by kernel_rfl
  g19 := by kernel_rfl
  t80 := Tryz.underlying77
  a80 := Tryz.isAgg77
  z80 := Tryz.sizeOf77
  v80 := Tryz.zeroValue77
  i0 := by kernel_rfl
  i2 := by kernel_rfl
  i3 := by kernel_rfl
  i4 := by kernel_rfl
  i5 := by kernel_rfl
  i9 := by kernel_rfl
  i20 := by kernel_rfl
  i21 := by kernel_rfl
  i37 := by kernel_rfl
  i46 := by kernel_rfl
  i51 := by kernel_rfl
  i53 := by kernel_rfl
  i75 := by kernel_rfl
  i76 := by kernel_rfl
  i80 := by kernel_rfl
  i85 := by kernel_rfl
  i127 := by kernel_rfl
  i143 := by kernel_rfl
  i145 := by kernel_rfl
  i167 := by kernel_rfl
  i168 := by kernel_rfl
  i171 := by kernel_rfl
  i173 := by kernel_rfl
  i175 := by kernel_rfl
  i210 := by kernel_rfl
  i212 := by kernel_rfl
  i232 := by kernel_rfl
  i233 := by kernel_rfl
  m15 := by kernel_rfl
  m16 := by kernel_rfl
  m17 := by kernel_rfl
  m18 := by kernel_rfl
  m19 := by kernel_rfl
  c0 := by kernel_rfl
  c2 := by kernel_rfl
  c3 := by kernel_rfl
  c4 := by kernel_rfl
  c5 := by kernel_rfl
  c9 := by kernel_rfl
  c20 := by kernel_rfl
  c21 := by kernel_rfl
  c37 := by kernel_rfl
  c46 := by kernel_rfl
  c51 := by kernel_rfl
  c53 := by kernel_rfl
  c75 := by kernel_rfl
  c76 := by kernel_rfl
  c80 := by kernel_rfl
  c85 := by kernel_rfl
  c127 := by kernel_rfl
  c143 := by kernel_rfl
  c145 := by kernel_rfl
  c167 := by kernel_rfl
  c168 := by kernel_rfl
  c171 := by kernel_rfl
  c173 := by kernel_rfl
  c175 := by kernel_rfl
  c210 := by kernel_rfl
  c212 := by kernel_rfl
  c213 := by kernel_rfl
  c232 := by kernel_rfl
  c233 := by kernel_rfl }
open Go.RowKit in
theorem Tryz.strconv_Atoi_ok (s : ByteArray) (hmax : s.size ≤ 9223372036854775806) (v : Int) (h : Lib.atoiAll s.data.toList = .ok v) (w : World) :
    Calls Tryz.prog 143 #[.string s] w fun e w' => e = .returned (.tuple #[.int .i64 v, .nilIface]) ∧ (w' = w ∨ ∃ t, w' = Lib.bytesWorld w 5 t) := Any.strconv_Atoi_ok Tryz.laysC172 s hmax v h w
open Go.RowKit in
theorem Tryz.strconv_Atoi_range (s : ByteArray) (hlim : s.size ≤ 281474976710656) (h : Lib.atoiAll s.data.toList = .range) (ev : Value) (w : World) (hv : w.cell? ⟨19, 0, none⟩ = some ev) (hev : ev = .nilIface ∨ ∃ te pe, ev = .iface te pe) :
    Calls Tryz.prog 143 #[.string s] w fun e w' => ∃ N, e = .returned (.tuple #[.int .i64 (Lib.atoiSat s.data.toList), .iface 169 (.pointer (some ⟨N, 0, none⟩))]) ∧ w.heap.size ≤ N ∧ w'.heap[N]? = some (.cells #[.string ⟨#[65, 116, 111, 105]⟩, .string s, ev] 181 (0, 0)) ∧ Below w.heap.size w w' := Any.strconv_Atoi_range Tryz.laysC172 s hlim h ev w hv hev
def Tryz.lays99_ren : Go.Shelf.Ren := ⟨fun | 99 => 108 | 206 => 139 | n => n, fun | 9 => 9 | 4 => 4 | 3 => 3 | n => n, fun | n => n⟩
theorem Tryz.lays99 : Go.Proofs.Lays.n99 Tryz.prog Tryz.lays99_ren := {
  mixed := by kernel_rfl
  f99 := Tryz.func108.trans (congrArg some (by kernel_rfl))
  f206 := Tryz.func139.trans (congrArg some (by kernel_rfl))
  t3 := Tryz.underlying3
  a3 := Tryz.isAgg3
  z3 := Tryz.sizeOf3
  v3 := Tryz.zeroValue3
  t4 := Tryz.underlying4
  a4 := Tryz.isAgg4
  z4 := Tryz.sizeOf4
  v4 := Tryz.zeroValue4
  t9 := Tryz.underlying9
  a9 := Tryz.isAgg9
  z9 := Tryz.sizeOf9
  v9 := Tryz.zeroValue9 }
open Go.RowKit Go.Lib in
theorem Tryz.strings_HasPrefix (s p : ByteArray) (w : World) :
    Calls Tryz.prog 108 #[.string s, .string p] w fun e w' => e = .returned (.bool (Lib.hasPrefix s.data.toList p.data.toList)) ∧ w' = w := Any.strings_HasPrefix Tryz.lays99 s p w
def Tryz.lays110_ren : Go.Shelf.Ren := ⟨fun | 110 => 116 | 109 => 149 | n => n, fun | 31 => 98 | 9 => 9 | 4 => 4 | 3 => 3 | 0 => 0 | n => n, fun | n => n⟩
theorem Tryz.lays110 : Go.Proofs.Lays.n110 Tryz.prog Tryz.lays110_ren := {
  mixed := by kernel_rfl
  f109 := Tryz.func149.trans (congrArg some (by kernel_rfl))
  f110 := Tryz.func116.trans (congrArg some (by kernel_rfl))
  t0 := Tryz.underlying0
  a0 := Tryz.isAgg0
  z0 := Tryz.sizeOf0
  v0 := Tryz.zeroValue0
  t3 := Tryz.underlying3
  a3 := Tryz.isAgg3
  z3 := Tryz.sizeOf3
  v3 := Tryz.zeroValue3
  t4 := Tryz.underlying4
  a4 := Tryz.isAgg4
  z4 := Tryz.sizeOf4
  v4 := Tryz.zeroValue4
  t9 := Tryz.underlying9
  a9 := Tryz.isAgg9
  z9 := Tryz.sizeOf9
  v9 := Tryz.zeroValue9
  t31 := Tryz.underlying98
  a31 := Tryz.isAgg98
  z31 := Tryz.sizeOf98
  v31 := Tryz.zeroValue98 }
open Go.Lib in
theorem Tryz.slices_Contains_string (b off n c : Nat) (zs : List ByteArray) (x : ByteArray) (w : World) (hz : n ≤ zs.length) (hbig : n ≤ 9223372036854775807) (hc : ∀ j, j < zs.length → w.cell? ⟨b, off + j, none⟩ = some (.string (zs.getD j ByteArray.empty))) :
    Calls Tryz.prog 116 #[.slice (some ⟨b, off, none⟩) n c, .string x] w fun e w' => e = .returned (.bool (Lib.containsS (zs.take n) x)) ∧ w' = w := Any.slices_Contains_string Tryz.lays110 b off n c zs x w hz hbig hc
end Go.Proofs

/- The contract of the reader's blanks. -/
namespace Go.Proofs.YtogeblmppagabaaGreatDoor.Ck
open Go.RowKit

theorem cut_list (s : ByteArray) (i j : Nat) : (s.extract i j).data.toList = (s.data.toList.drop i).take (j - i) := by
  rw [ByteArray.data_extract, Array.toList_extract]
theorem cut_end (s : ByteArray) (i : Nat) : (s.extract i s.size).data.toList = s.data.toList.drop i := by
  rw [cut_list]
  exact List.take_of_length_le (by rw [List.length_drop]; exact Nat.le_refl _)
theorem byte_list (s : ByteArray) (i : Nat) (h : i < s.data.toList.length) : byte s i = ((s.data.toList[i]'h).toNat : Int) := byte_eq s i (by simpa using h)
theorem beq47 (a : UInt8) : ((47 : UInt8) == a) = (((a.toNat : Nat) : Int) == 47) := by
  rw [Bool.eq_iff_iff]
  simp only [beq_iff_eq]
  constructor
  · rintro rfl
    rfl
  · intro h
    exact UInt8.toNat_inj.1 (by rw [show a.toNat = 47 by omega]; rfl)
theorem hasP_eq (s : ByteArray) (j : Nat) : Lib.hasPrefix (s.extract j s.size).data.toList [47, 47] = comm s j := by
  rw [cut_end]
  have hl : s.data.toList.length = s.size := rfl
  unfold comm Lib.hasPrefix
  by_cases h : j < s.size
  · rw [List.drop_eq_getElem_cons (by omega)]
    by_cases h1 : j + 1 < s.size
    · rw [List.drop_eq_getElem_cons (by omega), byte_list s j (by omega), byte_list s (j + 1) (by omega), decide_eq_true h1]
      generalize s.data.toList[j] = a
      generalize s.data.toList[j + 1] = b
      simp only [List.isPrefixOf, Bool.true_and, Bool.and_true]
      congr 1
      · exact beq47 a
      · exact beq47 b
    · rw [decide_eq_false h1, List.drop_of_length_le (by omega)]
      simp [List.isPrefixOf]
  · rw [decide_eq_false (by omega), List.drop_of_length_le (by omega)]
    simp [List.isPrefixOf]
theorem pre_any (s : ByteArray) (j : Nat) (w : World) :
    Calls Tryz.prog 108 #[.string (s.extract j s.size), .string ⟨#[47, 47]⟩] w fun e w' => e = .returned (.bool (comm s j)) ∧ w' = w := by
  have := Tryz.strings_HasPrefix (s.extract j s.size) ⟨#[47, 47]⟩ w
  rwa [show (ByteArray.mk #[47, 47]).data.toList = [47, 47] from rfl, hasP_eq] at this

set_option maxHeartbeats 1000000 in
theorem blanks_any (g : Nat) (s : ByteArray) (i : Nat) (w : World) (h : Rdr w g s i) (hi : s.size ≤ 9000) (hi2 : i ≤ s.size) :
    Calls Tryz.prog 77 #[.pointer (some ⟨g, 0, none⟩)] w fun e w' => e = .returned (.tuple #[]) ∧ Rdr w' g s (blF s i) ∧ Tn g w w' := by
  have H := hide h
  clear h
  go_enter Tryz.func77, Tryz.ntmps77
  go_wp2_with fail
  refine (over_blank g s i w H.out hi hi2).mono ?_
  rintro e w1 ⟨rfl, r1, t1⟩
  have R1 := hide r1
  clear r1
  go_wp2_with fail
  go_loopw [] (fun wr => ∃ j : Nat, j ≤ s.size ∧ Hid (Rdr wr g s j ∧ blF s i = skipC s j ∧ Tn g w wr)) (fun wr => s.size - posAt wr g)
  case atStart => exact ⟨_, overF_le _ _ _ hi2, R1.out, rfl, t1⟩
  case round =>
    obtain ⟨j, hj, I⟩ := hrel
    have h1 := I.out.1.src
    have h2 := I.out.1.pos
    by_cases hc : comm s j = true
    · have hp := fun w => pre_any s j w
      rw [hc] at hp
      have HC := hide hc
      have HP := hide hp
      clear hc hp
      go_wp2_with fail
      go_quiet (first | (go_at_call 108; exact Calls.quiet_of_same (HP.out _)))
      go_wp2_with fail
      refine (over_nl g s j _ (I.out.1.drewN _) hi hj).mono ?_
      rintro e w2 ⟨rfl, r2, t2⟩
      have R2 := hide r2
      clear r2
      go_wp2_with fail
      refine (over_blank g s _ _ R2.out hi (overF_le _ _ _ hj)).mono ?_
      rintro e w3 ⟨rfl, r3, t3⟩
      have R3 := hide r3
      clear r3
      go_wp2_with fail
      go_roundw
      case rel => exact ⟨pastC s j, pastC_le hj, R3.out, I.out.2.1.trans (skipC_yes HC.out), ((I.out.2.2.drewN _).trans t2).trans t3⟩
      case measure =>
        have h3 : posAt w3 g = pastC s j := R3.out.posAt
        rw [h3, I.out.1.posAt]
        have := pastC_gt HC.out
        have := comm_lt HC.out
        omega
    · have hc : comm s j = false := by simpa using hc
      have hp := fun w => pre_any s j w
      rw [hc] at hp
      have HC := hide hc
      have HP := hide hp
      clear hc hp
      go_wp2_with fail
      go_quiet (first | (go_at_call 108; exact Calls.quiet_of_same (HP.out _)))
      go_wp2_with fail
      go_end0
      exact ⟨rfl, by rw [I.out.2.1, skipC_no HC.out]; exact I.out.1.drewN _, I.out.2.2.drewN _⟩

end Go.Proofs.YtogeblmppagabaaGreatDoor.Ck

/- The contracts of a copied text, of the keywords and of the token that the reader has gone over. -/
namespace Go.Proofs.YtogeblmppagabaaGreatDoor.Ck
open Go.RowKit

theorem clone_any (s : ByteArray) (w : World) (h : s.size ≤ 9000) :
    Calls Tryz.prog 164 #[.string s] w fun e w' => e = .returned (.string s) ∧ Below w.heap.size w w' := by
  go_enter Tryz.func164, Tryz.ntmps164
  go_wp2_with fail
  refine (Tryz.stringslite_Clone s w (by omega)).mono ?_
  rintro e w1 ⟨rfl, hb⟩
  go_wp2_with fail
  go_ret
  exact ⟨rfl, hb⟩

theorem Tn.mine {g g2 : Nat} {w w' : World} (h : Tn g2 w w') (hg : w.heap.size ≤ g2) : Tn g w w' := ⟨h.os, h.tape, h.output, h.size, fun k hk _ => h.blk k hk (by omega)⟩

theorem blk_frz {w : World} {g : Nat} {c : Array Value} {t : TypeId} (h : w.heap[g]? = some (.cells c t (0, 0))) (k : Nat) : w.frozen? ⟨g, k, none⟩ = false := by simp [World.frozen?, h]
theorem blk_cell {w : World} {g : Nat} {c : Array Value} {t : TypeId} (h : w.heap[g]? = some (.cells c t (0, 0))) (k : Nat) (v : Value) (hk : c[k]? = some v) : w.cell? ⟨g, k, none⟩ = some v := by simp [World.cell?, h, hk]

theorem set1 {w : World} {g : Nat} {c : Array Value} {t : TypeId} (h : w.heap[g]? = some (.cells c t (0, 0))) (k : Nat) (v : Value) :
    (w.setCell ⟨g, k, none⟩ v).heap[g]? = some (.cells (c.setIfInBounds k v) t (0, 0)) ∧ Tn g w (w.setCell ⟨g, k, none⟩ v) :=
  ⟨heap_setCell_same _ _ _ _ _ _ h, rfl, rfl, rfl, Nat.le_of_eq (by simp [World.setCell]), fun _ _ hk => Below.heap_setCell _ _ _ _ hk⟩
/-- a variable of a token's type, in block g -/
def Tok (w : World) (g : Nat) (a b c d e : Value) : Prop := w.heap[g]? = some (.cells #[a, b, c, d, e] 67 (0, 0))
theorem set5 {w : World} {g : Nat} {a b c d e : Value} (h : Tok w g a b c d e) (v0 v1 v2 v3 v4 : Value) :
    Tok (((((w.setCell ⟨g, 0, none⟩ v0).setCell ⟨g, 1, none⟩ v1).setCell ⟨g, 2, none⟩ v2).setCell ⟨g, 3, none⟩ v3).setCell ⟨g, 4, none⟩ v4) g v0 v1 v2 v3 v4 ∧
    Tn g w (((((w.setCell ⟨g, 0, none⟩ v0).setCell ⟨g, 1, none⟩ v1).setCell ⟨g, 2, none⟩ v2).setCell ⟨g, 3, none⟩ v3).setCell ⟨g, 4, none⟩ v4) := by
  obtain ⟨h0, t0⟩ := set1 h 0 v0
  obtain ⟨h1, t1⟩ := set1 h0 1 v1
  obtain ⟨h2, t2⟩ := set1 h1 2 v2
  obtain ⟨h3, t3⟩ := set1 h2 3 v3
  obtain ⟨h4, t4⟩ := set1 h3 4 v4
  exact ⟨h4, (((t0.trans t1).trans t2).trans t3).trans t4⟩

theorem ret_tok {fn : Func} {R : Ending → World → Prop} {a : Act} {w : World} {p : Tmp} (g : Nat) {v0 v1 v2 v3 v4 : Value} (hf : fn.results = #[.cell p 67]) (hp : a.tmps.getD p undef = .pointer (some ⟨g, 0, none⟩))
    (h : Tok w g v0 v1 v2 v3 v4) (hdf : a.defers = []) (hR : R (.returned (.agg #[v0, v1, v2, v3, v4])) w) : bodyPost Tryz.prog fn R .ret a w :=
  bodyPost_ret (by
    have hp' : a.tmps[p]?.getD undef = .pointer (some ⟨g, 0, none⟩) := by simpa using hp
    have cz0 := blk_cell h 0 _ rfl
    have cz1 := blk_cell h 1 _ rfl
    have cz2 := blk_cell h 2 _ rfl
    have cz3 := blk_cell h 3 _ rfl
    have cz4 := blk_cell h 4 _ rfl
    simp [results, hf, hp', go_sem, cz0, cz1, cz2, cz3, cz4]) hdf hR

set_option maxHeartbeats 1000000 in
theorem since_any (g : Nat) (s : ByteArray) (i j : Nat) (k : Int) (w : World) (h : Rdr w g s j) (hi : s.size ≤ 9000) (hij : i ≤ j) (hj : j ≤ s.size) :
    Calls Tryz.prog 141 #[.pointer (some ⟨g, 0, none⟩), .int .i64 i, .int .i64 k] w fun e w' =>
      e = .returned (.agg #[.int .i64 k, .string (cut s i j), .int .i64 0, .int .u64 0, .int .i64 i]) ∧ Below w.heap.size w w' := by
  have h1 := h.src
  have h2 := h.pos
  have hg := lt_of_blk h
  clear h
  have hcl : Hid (∀ wx, Calls Tryz.prog 164 #[.string (s.extract i j)] wx fun e w' => e = .returned (.string (cut s i j)) ∧ Below wx.heap.size wx w') := fun wx => clone_any _ wx (by rw [ByteArray.size_extract]; omega)
  go_enter Tryz.func141, Tryz.ntmps141
  go_wp2_with fail
  have hz0 : (w.alloc (.cells #[.int .i64 0, .string ⟨#[]⟩, .int .i64 0, .int .u64 0, .int .i64 0] 67)).heap[w.heap.size]? = some (.cells #[.int .i64 0, .string ⟨#[]⟩, .int .i64 0, .int .u64 0, .int .i64 0] 67 (0, 0)) := Go.Deep.blk_alloc_new _ _
  have hb0 := bel_new w (.cells #[.int .i64 0, .string ⟨#[]⟩, .int .i64 0, .int .u64 0, .int .i64 0] 67)
  have g1 := (hb0.cell (p := ⟨g, 0, none⟩) hg).trans h1
  have g2 := (hb0.cell (p := ⟨g, 1, none⟩) hg).trans h2
  have hg0 := Nat.lt_of_lt_of_le hg hb0.size
  have hlt0 := lt_of_blk hz0
  have n1 := World.new_ne w ⟨g, 0, none⟩ h1
  have n2 := World.new_ne w ⟨g, 1, none⟩ h2
  clear h1 h2
  generalize w.alloc (.cells #[.int .i64 0, .string ⟨#[]⟩, .int .i64 0, .int .u64 0, .int .i64 0] 67) = w0 at *
  go_region_held3 (fun w' => w'.cell? ⟨g, 0, none⟩ = some (.string s) ∧ w'.cell? ⟨g, 1, none⟩ = some (.int .i64 j)) (go_keep)
    (first
      | (go_at_call 164; refine (hcl.out _).mono ?_; rintro e w1 ⟨rfl, hb1⟩; have hb1 : Below w0.heap.size w0 w1 := ⟨hb1.os, hb1.tape, hb1.output, hb1.size, hb1.block⟩; have k1 := (hb1.cell (p := ⟨g, 0, none⟩) hg0).trans g1; have k2 := (hb1.cell (p := ⟨g, 1, none⟩) hg0).trans g2; have hz1 := (hb1.block w.heap.size hlt0).trans hz0; have fz0 := blk_frz hz1 0; have cz0 := blk_cell hz1 0 _ rfl; have fz1 := blk_frz hz1 1; have cz1 := blk_cell hz1 1 _ rfl; have fz2 := blk_frz hz1 2; have cz2 := blk_cell hz1 2 _ rfl; have fz3 := blk_frz hz1 3; have cz3 := blk_cell hz1 3 _ rfl; have fz4 := blk_frz hz1 4; have cz4 := blk_cell hz1 4 _ rfl))
  obtain ⟨hz2, tn2⟩ := set5 hz1 (.int .i64 k) (.string (cut s i j)) (.int .i64 0) (.int .u64 0) (.int .i64 i)
  have hb2 := Tn.bel (hb0.trans (hb1.mono hb0.size) |> Tn.of_bel (g := w.heap.size) |>.trans tn2) (Nat.le_refl _) (Nat.le_refl _)
  clear k1 k2 fz0 fz1 fz2 fz3 fz4 cz0 cz1 cz2 cz3 cz4 hz1 tn2
  generalize ((((w1.setCell ⟨w.heap.size, 0, none⟩ _).setCell ⟨w.heap.size, 1, none⟩ _).setCell ⟨w.heap.size, 2, none⟩ _).setCell ⟨w.heap.size, 3, none⟩ _).setCell ⟨w.heap.size, 4, none⟩ _ = w2 at *
  go_wp2_with fail
  exact ret_tok w.heap.size rfl rfl hz2 rfl ⟨rfl, hb2⟩

theorem tokenKey_any (t : ByteArray) (w : World) : Calls Tryz.prog 142 #[.string t] w fun e w' => e = .returned (.bool (isKey t)) ∧ w = w' := by
  go_enter Tryz.func142, Tryz.ntmps142
  go_wp2_with fail
  all_goals
    first
      | (exfalso; rename_i h1 h2; rw [h1] at h2; cases h2; done)
      | (go_ret; refine ⟨congrArg Ending.returned (congrArg Value.bool ?_), rfl⟩; rename_i h; have e := eq_of_beq h; unfold isKey keyTab; rw [e]; rfl)
      | (go_ret; refine ⟨congrArg Ending.returned (congrArg Value.bool ?_), rfl⟩; simp only [isKey, keyTab, List.any_cons, List.any_nil, Bool.or_false, *])
theorem ref05Key_any (t : ByteArray) (w : World) : Calls Tryz.prog 49 #[.string t] w fun e w' => e = .returned (.bool (isKey t)) ∧ w = w' := by
  go_enter Tryz.func49, Tryz.ntmps49
  go_wp2_with fail
  all_goals
    first
      | (exfalso; rename_i h1 h2; rw [h1] at h2; cases h2; done)
      | (go_ret; refine ⟨congrArg Ending.returned (congrArg Value.bool ?_), rfl⟩; rename_i h; have e := eq_of_beq h; unfold isKey keyTab; rw [e]; rfl)
      | (go_ret; refine ⟨congrArg Ending.returned (congrArg Value.bool ?_), rfl⟩; simp only [isKey, keyTab, List.any_cons, List.any_nil, Bool.or_false, *])

end Go.Proofs.YtogeblmppagabaaGreatDoor.Ck
