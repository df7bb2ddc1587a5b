/- SHA-256 by itself, on lists of numbers, as plain functions; no Go text is walked here. -/
import Derived.Test.YtejhhkhaoekkiaaDoorMem
namespace Go.Proofs.YtejhhkhaoekkiaaDoor.Ck
open Go.RowKit

def rotr (x c : Int) : Int := bits .or .u32 (x * 2 ^ (32 - c).toNat % 4294967296) (x / 2 ^ c.toNat)
def wd (a b c d : Int) : Int := bits .or .u32 (bits .or .u32 (bits .or .u32 (a * 16777216) (b * 65536)) (c * 256)) d
def sg0 (x : Int) : Int := bits .xor .u32 (bits .xor .u32 (rotr x 7) (rotr x 18)) (x / 8)
def sg1 (x : Int) : Int := bits .xor .u32 (bits .xor .u32 (rotr x 17) (rotr x 19)) (x / 1024)
def nextW (a b x y : Int) : Int := (a + b + sg0 x + sg1 y) % 4294967296

theorem bits_comm (x y : Int) : bits .or .u32 x y = bits .or .u32 y x := by
  show IntKind.u32.wrap ((BitVec.ofInt 32 x ||| BitVec.ofInt 32 y).toNat : Int) = IntKind.u32.wrap ((BitVec.ofInt 32 y ||| BitVec.ofInt 32 x).toNat : Int)
  rw [BitVec.or_comm]

/-- the words of a block's turns, the first t of them -/
def schedL (B : List Int) : Nat → List Int
  | 0 => []
  | t + 1 => let L := schedL B t; L ++ [if t < 16 then wd (B.getD (4 * t) 0) (B.getD (4 * t + 1) 0) (B.getD (4 * t + 2) 0) (B.getD (4 * t + 3) 0) else nextW (L.getD (t - 16) 0) (L.getD (t - 7) 0) (L.getD (t - 15) 0) (L.getD (t - 2) 0)]
def wS (B : List Int) (t : Nat) : Int := (schedL B (t + 1)).getD t 0

theorem schedL_len (B : List Int) (t : Nat) : (schedL B t).length = t := by
  induction t with
  | zero => rfl
  | succ t ih => simp [schedL, ih]
theorem schedL_at (B : List Int) (i : Nat) : ∀ t, i < t → (schedL B t).getD i 0 = wS B i := by
  intro t
  induction t with
  | zero => intro h; omega
  | succ t ih =>
    intro h
    by_cases e : i = t
    · subst e; rfl
    · have hl := schedL_len B t
      have : (schedL B (t + 1)).getD i 0 = (schedL B t).getD i 0 := by
        simp only [schedL, List.getD]
        rw [List.getElem?_append_left (by omega)]
      rw [this, ih (by omega)]
theorem wS_lo (B : List Int) (t : Nat) (h : t < 16) : wS B t = wd (B.getD (4 * t) 0) (B.getD (4 * t + 1) 0) (B.getD (4 * t + 2) 0) (B.getD (4 * t + 3) 0) := by
  have hl := schedL_len B t
  simp only [wS, schedL, List.getD]
  rw [List.getElem?_append_right (by omega), hl, Nat.sub_self, if_pos h]
  rfl
theorem wS_hi (B : List Int) (t : Nat) (h : 16 ≤ t) : wS B t = nextW (wS B (t - 16)) (wS B (t - 7)) (wS B (t - 15)) (wS B (t - 2)) := by
  have hl := schedL_len B t
  have e : wS B t = nextW ((schedL B t).getD (t - 16) 0) ((schedL B t).getD (t - 7) 0) ((schedL B t).getD (t - 15) 0) ((schedL B t).getD (t - 2) 0) := by
    simp only [wS, schedL, List.getD]
    rw [List.getElem?_append_right (by omega), hl, Nat.sub_self, if_neg (by omega)]
    rfl
  rw [e, schedL_at B _ t (by omega), schedL_at B _ t (by omega), schedL_at B _ t (by omega), schedL_at B _ t (by omega)]

structure V8 where
  a : Int
  b : Int
  c : Int
  d : Int
  e : Int
  f : Int
  g : Int
  h : Int

def pv (v : V8) (k w : Int) : Int := (v.h + bits .xor .u32 (bits .xor .u32 (rotr v.e 6) (rotr v.e 11)) (rotr v.e 25) + bits .xor .u32 (bits .and .u32 v.e v.f) (bits .and .u32 (bits .xor .u32 IntKind.u32.max v.e) v.g) + k + w) % 4294967296
def qv (v : V8) : Int := (bits .xor .u32 (bits .xor .u32 (rotr v.a 2) (rotr v.a 13)) (rotr v.a 22) + bits .xor .u32 (bits .xor .u32 (bits .and .u32 v.a v.b) (bits .and .u32 v.a v.c)) (bits .and .u32 v.b v.c)) % 4294967296
def stepV (v : V8) (k w : Int) : V8 := ⟨(pv v k w + qv v) % 4294967296, v.a, v.b, v.c, (v.d + pv v k w) % 4294967296, v.e, v.f, v.g⟩
def V8.ofL (H : List Int) : V8 := ⟨H.getD 0 0, H.getD 1 0, H.getD 2 0, H.getD 3 0, H.getD 4 0, H.getD 5 0, H.getD 6 0, H.getD 7 0⟩
def V8.toL (v : V8) : List Int := [v.a, v.b, v.c, v.d, v.e, v.f, v.g, v.h]
def kTab : List Int := [1116352408, 1899447441, 3049323471, 3921009573, 961987163, 1508970993, 2453635748, 2870763221, 3624381080, 310598401, 607225278, 1426881987, 1925078388, 2162078206, 2614888103, 3248222580, 3835390401, 4022224774, 264347078, 604807628, 770255983, 1249150122, 1555081692, 1996064986, 2554220882, 2821834349, 2952996808, 3210313671, 3336571891, 3584528711, 113926993, 338241895, 666307205, 773529912, 1294757372, 1396182291, 1695183700, 1986661051, 2177026350, 2456956037, 2730485921, 2820302411, 3259730800, 3345764771, 3516065817, 3600352804, 4094571909, 275423344, 430227734, 506948616, 659060556, 883997877, 958139571, 1322822218, 1537002063, 1747873779, 1955562222, 2024104815, 2227730452, 2361852424, 2428436474, 2756734187, 3204031479, 3329325298]
/-- the eight numbers behind t turns -/
def roundsV (H B : List Int) : Nat → V8
  | 0 => V8.ofL H
  | t + 1 => stepV (roundsV H B t) (kTab.getD t 0) (wS B t)
/-- the first k of the words have been added to -/
def addK (H V : List Int) (k : Nat) : List Int := (List.range 8).map fun i => if i < k then (H.getD i 0 + V.getD i 0) % 4294967296 else H.getD i 0
def mixL (H B : List Int) : List Int := addK H (roundsV H B 64).toL 8
def start8 : List Int := [1779033703, 3144134277, 1013904242, 2773480762, 1359893119, 2600822924, 528734635, 1541459225]
/-- the words behind the first k blocks of m -/
def blkOf (m : List Int) (k : Nat) : List Int := (m.drop (64 * k)).take 64
def hashB (m : List Int) : Nat → List Int
  | 0 => start8
  | k + 1 => mixL (hashB m k) (blkOf m k)
/-- what stands behind n bytes -/
def len8 (n : Nat) : List Int := [56, 48, 40, 32, 24, 16, 8, 0].map fun s => (((8 * n / 2 ^ s % 256 : Nat)) : Int)
def padZ (n : Nat) : Nat := (119 - n % 64) % 64
def endL (n : Nat) : List Int := (128 :: List.replicate (padZ n) 0) ++ len8 n
def rowB (H : List Int) : List Int := (List.range 32).map fun i => (H.getD (i / 4) 0) / 2 ^ (24 - i % 4 * 8) % 256
def sha (m : List Int) : List Int := rowB (hashB (m ++ endL m.length) ((m.length + 72) / 64))
def pad64 (key : List Int) : List Int := let k := if key.length > 64 then sha key else key; k ++ List.replicate (64 - k.length) 0
def veil (pad : List Int) (mask : Int) : List Int := pad.map fun x => bits .xor .u8 x mask
def hmac (key m : List Int) : List Int := sha (veil (pad64 key) 92 ++ sha (veil (pad64 key) 54 ++ m))

theorem addK_len (H V : List Int) (k : Nat) : (addK H V k).length = 8 := by simp [addK]
theorem mixL_len (H B : List Int) : (mixL H B).length = 8 := addK_len _ _ _
theorem hashB_len (m : List Int) (k : Nat) : (hashB m k).length = 8 := match k with
  | 0 => rfl
  | _ + 1 => mixL_len _ _
theorem rowB_len (H : List Int) : (rowB H).length = 32 := by simp [rowB]
theorem sha_len (m : List Int) : (sha m).length = 32 := rowB_len _

end Go.Proofs.YtejhhkhaoekkiaaDoor.Ck
