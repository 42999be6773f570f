/- Plain facts on images as lists of bytes: texels, tiles, the image of tiles. -/
import Derived.Test.YtbpdaijmclcbdaaImSmall
namespace Go.Proofs.Ytbpdaijmclcbdaa
namespace Im

/-- A channel, clamped. -/
def cl (z : Int) : Nat := (max 0 (min z 255)).toNat
theorem cl_lt (z : Int) : cl z < 256 := by unfold cl; omega
theorem cl_eq (z : Int) : ((cl z : Nat) : Int) = max 0 (min z 255) := by unfold cl; omega
theorem cl_byte (x : Nat) (h : x < 256) : cl (x : Int) = x := by unfold cl; omega

theorem cl_if (z : Int) : (if 0 < (if 255 < z then (255 : Int) else z) then (if 255 < z then (255 : Int) else z) else 0) = ((cl z : Nat) : Int) := by unfold cl; split <;> split <;> omega

/-- Where a texel's bytes begin. -/
def plc (W x y : Int) : Nat := (4 * (y * W + x)).toNat
theorem plc_ok {W H x y : Int} {n : Nat} (hr : rightP W H n) (hi : insP x y W H) : 4 * (y * W + x) = (plc W x y : Int) ∧ plc W x y + 4 ≤ n ∧ 0 ≤ y * W ∧ y * W ≤ 16777216 ∧ 0 ≤ x ∧ x ≤ 4096 ∧ n ≤ 67108864 := by
  obtain ⟨hs, hn⟩ := hr
  have hm := mul_sz hs
  obtain ⟨a, b, c, d⟩ := hs
  obtain ⟨i1, i2, i3, i4⟩ := hi
  have h0 : 0 ≤ y * W := Int.mul_nonneg i3 (by omega)
  have h1 : (y + 1) * W ≤ H * W := Int.mul_le_mul_of_nonneg_right (by omega) (by omega)
  have h2 : (y + 1) * W = y * W + W := by rw [Int.add_mul, Int.one_mul]
  have h3 : H * W = W * H := Int.mul_comm _ _
  have h4 : 4 * W * H = 4 * (W * H) := by rw [Int.mul_assoc]
  unfold plc
  generalize y * W = q at *
  generalize W * H = r at *
  refine ⟨by omega, by omega, by omega, by omega, by omega, by omega, by omega⟩

/-- The texel at p, the first k channels. -/
def texK (xs : List Nat) (p : Nat) : Nat → List Int
  | 0 => [0, 0, 0, 0]
  | k + 1 => (texK xs p k).set k (xs.getD (p + k) 0 : Nat)
theorem texK_length (xs : List Nat) (p : Nat) : ∀ k, (texK xs p k).length = 4
  | 0 => rfl
  | k + 1 => by simp [texK, texK_length xs p k]
def tex (xs : List Nat) (p : Nat) : List Int := texK xs p 4
theorem tex_length (xs : List Nat) (p : Nat) : (tex xs p).length = 4 := texK_length xs p 4
theorem tex_eq (xs : List Nat) (p : Nat) : tex xs p = [((xs.getD p 0 : Nat) : Int), ((xs.getD (p + 1) 0 : Nat) : Int), ((xs.getD (p + 2) 0 : Nat) : Int), ((xs.getD (p + 3) 0 : Nat) : Int)] := rfl

/-- A texel over the bytes at p, the first k channels. -/
def putK (xs : List Nat) (p : Nat) (t : List Int) : Nat → List Nat
  | 0 => xs
  | k + 1 => (putK xs p t k).set (p + k) (cl (t.getD k 0))
theorem putK_length (xs : List Nat) (p : Nat) (t : List Int) : ∀ k, (putK xs p t k).length = xs.length
  | 0 => rfl
  | k + 1 => by simp [putK, putK_length xs p t k]
theorem putK_lt {xs : List Nat} (h : ∀ x ∈ xs, x < 256) (p : Nat) (t : List Int) : ∀ k, ∀ x ∈ putK xs p t k, x < 256
  | 0 => h
  | k + 1 => by
    intro x hx
    rcases List.mem_or_eq_of_mem_set hx with h' | rfl
    · exact putK_lt h p t k x h'
    · exact cl_lt _
def put (xs : List Nat) (p : Nat) (t : List Int) : List Nat := putK xs p t 4

def mn (a b : Int) : Int := if b < a then b else a
theorem mn_cases (a b : Int) : (b < a ∧ mn a b = b) ∨ (a ≤ b ∧ mn a b = a) := by unfold mn; split <;> omega
def z64 : List Int := List.replicate 64 0
/-- The tile at x, y of an image, the first k texels of it. -/
def gatK (W H : Int) (xs : List Nat) (x y : Int) : Nat → List Int
  | 0 => z64
  | k + 1 => spl (gatK W H xs x y k) (k * 4) (tex xs (plc W (mn (x * 4 + (k : Int) % 4) (W - 1)) (mn (y * 4 + (k : Int) / 4) (H - 1))))
theorem gatK_length (W H : Int) (xs : List Nat) (x y : Int) : ∀ k, (gatK W H xs x y k).length = 64
  | 0 => by simp [gatK, z64]
  | k + 1 => by rw [gatK, spl_length, gatK_length W H xs x y k]
theorem mn_ins {W H X Y : Int} {n : Nat} (hr : rightP W H n) (hX : 0 ≤ X) (hY : 0 ≤ Y) : insP (mn X (W - 1)) (mn Y (H - 1)) W H := by
  obtain ⟨⟨a, _, c, _⟩, _⟩ := hr
  unfold insP mn
  split <;> split <;> omega
/-- The texel k of a tile. -/
def tx (t : List Int) (k : Nat) : List Int := (t.drop (k * 4)).take 4
theorem tx_length {t : List Int} (h : t.length = 64) {k : Nat} (hk : k < 16) : (tx t k).length = 4 := by simp [tx]; omega
/-- A tile over the bytes of an image, the first k texels of it. -/
def layK (W H : Int) (xs : List Nat) (x y : Int) (t : List Int) : Nat → List Nat
  | 0 => xs
  | k + 1 => if x * 4 + (k : Int) % 4 < W ∧ y * 4 + (k : Int) / 4 < H then put (layK W H xs x y t k) (plc W (x * 4 + (k : Int) % 4) (y * 4 + (k : Int) / 4)) (tx t k) else layK W H xs x y t k
theorem put_length' (xs : List Nat) (p : Nat) (t : List Int) : (put xs p t).length = xs.length := putK_length xs p t 4
theorem layK_length (W H : Int) (xs : List Nat) (x y : Int) (t : List Int) : ∀ k, (layK W H xs x y t k).length = xs.length
  | 0 => rfl
  | k + 1 => by
    rw [layK]
    split
    · rw [put_length', layK_length W H xs x y t k]
    · exact layK_length W H xs x y t k
theorem layK_lt {xs : List Nat} (h : ∀ x ∈ xs, x < 256) (W H x y : Int) (t : List Int) : ∀ k, ∀ z ∈ layK W H xs x y t k, z < 256
  | 0 => h
  | k + 1 => by
    rw [layK]
    split
    · exact putK_lt (layK_lt h W H x y t k) _ _ 4
    · exact layK_lt h W H x y t k
/-- The bytes of the image of tiles, the first i tiles of a row of a; ts holds their texels. -/
def whK (W H : Int) (n : Nat) (a : Nat) (ts : List Int) : Nat → List Nat
  | 0 => List.replicate n 0
  | i + 1 => layK W H (whK W H n a ts i) ((i % a : Nat) : Int) ((i / a : Nat) : Int) ((ts.drop (i * 64)).take 64) 16
theorem whK_length (W H : Int) (n a : Nat) (ts : List Int) : ∀ i, (whK W H n a ts i).length = n
  | 0 => by simp [whK]
  | i + 1 => by rw [whK, layK_length, whK_length W H n a ts i]
/-- How far the tiles go. -/
theorem tl_in {W H x y : Int} {n : Nat} (h : hasP W H n x y) : 0 ≤ x ∧ x ≤ 1023 ∧ 0 ≤ y ∧ y ≤ 1023 ∧ x * 4 < W ∧ y * 4 < H := by
  obtain ⟨⟨⟨a, b, c, d⟩, _⟩, i1, i2, i3, i4⟩ := h
  rw [tl, if_neg (by omega)] at i2 i4
  omega
end Im
end Go.Proofs.Ytbpdaijmclcbdaa
