/- Blocks of BC7, as plain functions: the modes, where a block's fields lie, endpoints, weights, texels. -/
import Derived.Test.YtnoailihkjccbaaDoorBtAwake
import Derived.Test.YtnoailihkjccbaaDoorG2
import Derived.Test.YtnoailihkjccbaaDoorG5
set_option linter.all false
namespace Go.Proofs.YtnoailihkjccbaaDoor.B7
open Bi Lv Bt

/-! Modes. -/
structure Md where
  P : Nat
  W : Nat
  T : Nat
  C : Nat
  L : Nat
  A : Nat
  E : Nat
  O : Nat
  F : Nat
  S : Nat
def md (k : Nat) : Md :=
  let f := fun j => (modesL.getD (10 * k + j) 0).toNat
  ⟨f 0, f 1, f 2, f 3, f 4, f 5, f 6, f 7, f 8, f 9⟩
def Md.vals (m : Md) : List Int := [(m.P : Int), (m.W : Int), (m.T : Int), (m.C : Int), (m.L : Int), (m.A : Int), (m.E : Int), (m.O : Int), (m.F : Int), (m.S : Int)]
theorem Md.vals_length (m : Md) : m.vals.length = 10 := rfl
theorem md_vals : ∀ k, k < 8 → (modesL.drop (10 * k)).take 10 = (md k).vals := by decide +kernel
theorem md_cells (k : Nat) (h : k < 8) : ((i64s modesL).drop (10 * k)).take 10 = i64s (md k).vals := by
  unfold i64s
  rw [← md_vals k h, ← List.map_drop, ← List.map_take]

/-! Where the fields lie. -/
def wd (m : Md) (c : Nat) : Nat := if c = 3 then m.A else m.L
/-- Where channel c's numbers begin. -/
def cb (m : Md) (p : Nat) : Nat → Nat
  | 0 => p
  | c + 1 => cb m p c + 2 * m.P * wd m c
/-- The bits of a p-bit. -/
def ex (m : Md) : Nat := m.E + m.O
/-- Where the reader stands ahead of endpoint i's p-bit. -/
def mpos (m : Md) (q i : Nat) : Nat := if m.O = 0 then q + i * m.E else q + (i + 1) / 2
/-- Where endpoint i's p-bit lies. -/
def mat (m : Md) (q i : Nat) : Nat := if m.O = 0 then q + i * m.E else q + i / 2
def b1 (b : Bool) : Nat := if b then 1 else 0
theorem b1_le (b : Bool) : b1 b ≤ 1 := by cases b <;> decide
/-- Where index i lies. -/
def ipos (p F : Nat) (l : Nat → Bool) : Nat → Nat
  | 0 => p
  | i + 1 => ipos p F l i + (F - b1 (l i))
def cnt (l : Nat → Bool) : Nat → Nat
  | 0 => 0
  | i + 1 => cnt l i + b1 (l i)
/-- Texel i is the anchor of its part. -/
def isA (P way : Nat) (i : Nat) : Bool := decide (anchorV P way (partV P way i) = i)
def is0 (i : Nat) : Bool := decide (i = 0)
/-- A mode whose fields fit from p on. -/
structure Ok (m : Md) (p : Nat) : Prop where
  P1 : 1 ≤ m.P
  P3 : m.P ≤ 3
  W6 : m.W ≤ 6
  T2 : m.T ≤ 2
  C1 : m.C ≤ 1
  L1 : 1 ≤ m.L
  L8 : m.L ≤ 7
  A8 : m.A ≤ 8
  E1 : m.E ≤ 1
  O1 : m.O ≤ 1
  EO : m.E + m.O ≤ 1
  LE : m.L + ex m ≤ 8
  AE : m.A + ex m ≤ 8
  F2 : 2 ≤ m.F
  F4 : m.F ≤ 4
  S3 : m.S ≤ 3
  S1 : m.S ≠ 1
  CS : m.S = 0 → m.C = 0
  all : mpos m (cb m (p + m.W + m.T + m.C) 4) (2 * m.P) + (16 * m.F - m.P) + (16 * m.S - 1) ≤ 128
theorem md_ok : ∀ k, k < 8 → Ok (md k) (k + 1) := by
  intro k hk
  have h : ∀ k, k < 8 → (1 ≤ (md k).P ∧ (md k).P ≤ 3 ∧ (md k).W ≤ 6 ∧ (md k).T ≤ 2 ∧ (md k).C ≤ 1 ∧ 1 ≤ (md k).L ∧ (md k).L ≤ 7 ∧ (md k).A ≤ 8 ∧ (md k).E ≤ 1 ∧ (md k).O ≤ 1 ∧ (md k).E + (md k).O ≤ 1 ∧ (md k).L + ex (md k) ≤ 8 ∧ (md k).A + ex (md k) ≤ 8 ∧ 2 ≤ (md k).F ∧ (md k).F ≤ 4 ∧ (md k).S ≤ 3 ∧ (md k).S ≠ 1 ∧ ((md k).S = 0 → (md k).C = 0) ∧ mpos (md k) (cb (md k) (k + 1 + (md k).W + (md k).T + (md k).C) 4) (2 * (md k).P) + (16 * (md k).F - (md k).P) + (16 * (md k).S - 1) ≤ 128) := by decide +kernel
  obtain ⟨a1, a2, a3, a4, a5, a6, a7, a8, a9, a10, a11, a12, a13, a14, a15, a16, a17, a18, a19⟩ := h k hk
  exact ⟨a1, a2, a3, a4, a5, a6, a7, a8, a9, a10, a11, a12, a13, a14, a15, a16, a17, a18, a19⟩
theorem cb_mono (m : Md) (p c d : Nat) (h : c ≤ d) : cb m p c ≤ cb m p d := by
  induction d with
  | zero => obtain rfl : c = 0 := by omega
            exact Nat.le_refl _
  | succ d ih =>
    rcases Nat.lt_or_ge d c with h1 | h1
    · obtain rfl : c = d + 1 := by omega
      exact Nat.le_refl _
    · exact Nat.le_trans (ih h1) (Nat.le_add_right _ _)
theorem cb_in (m : Md) (p c i : Nat) (hi : i < 2 * m.P) : cb m p c + i * wd m c + wd m c ≤ cb m p (c + 1) := by
  have h := Nat.mul_le_mul_right (wd m c) (show i + 1 ≤ 2 * m.P from hi)
  rw [Nat.succ_mul] at h
  rw [cb]
  omega
theorem ipos_cnt (p F : Nat) (l : Nat → Bool) (hF : 1 ≤ F) : ∀ i, ipos p F l i + cnt l i = p + i * F
  | 0 => by simp [ipos, cnt]
  | i + 1 => by
    have := ipos_cnt p F l hF i
    have := b1_le (l i)
    rw [ipos, cnt, Nat.succ_mul]
    omega
theorem ipos_mono (p F : Nat) (l : Nat → Bool) (i j : Nat) (h : i ≤ j) : ipos p F l i ≤ ipos p F l j := by
  induction j with
  | zero => obtain rfl : i = 0 := by omega
            exact Nat.le_refl _
  | succ j ih =>
    rcases Nat.lt_or_ge j i with h1 | h1
    · obtain rfl : i = j + 1 := by omega
      exact Nat.le_refl _
    · exact Nat.le_trans (ih h1) (Nat.le_add_right _ _)
theorem cnt_isA : ∀ P, P < 4 → 1 ≤ P → ∀ way, way < 64 → cnt (isA P way) 16 = P := by decide +kernel
theorem cnt_is0 : cnt is0 16 = 1 := by decide +kernel
/-- The document's way of telling an anchor. -/
def rless (P way i : Nat) : Bool := decide (i = 0) || (decide (1 < P) && decide (anchorV P way 1 = i)) || (decide (2 < P) && decide (anchorV P way 2 = i))
theorem rless_isA : ∀ P, P < 4 → 1 ≤ P → ∀ way, way < 64 → ∀ i, i < 16 → rless P way i = isA P way i := by decide +kernel
theorem partV_lt : ∀ P : Nat, P < 4 → 1 ≤ P → ∀ way : Nat, way < 64 → ∀ i : Nat, i < 16 → 0 ≤ partV P way i ∧ partV P way i < P := by decide +kernel

/-! What the fields hold. -/
def G (xs : List Nat) (p m : Nat) : Int := ((getN xs false p m : Nat) : Int)
theorem G_lt (xs : List Nat) (p m : Nat) : 0 ≤ G xs p m ∧ G xs p m < 2 ^ m := by
  have h := getN_lt xs false p m m (Nat.le_refl _)
  have e : ((2 ^ m : Nat) : Int) = 2 ^ m := by simp
  unfold G
  omega
theorem G_zero (xs : List Nat) (p : Nat) : G xs p 0 = 0 := by have := G_lt xs p 0; simp at this; omega
/-- The mode's number: of the first bit that is 1. -/
def mdP (x : Nat) : Nat → Nat
  | 0 => 8
  | f + 1 => if x.testBit (7 - f) then 7 - f else mdP x f
def modeN (x : Nat) : Nat := mdP x 8
theorem mdP_le (x : Nat) : ∀ f, mdP x f ≤ 8
  | 0 => Nat.le_refl _
  | f + 1 => by rw [mdP]; split; omega; exact mdP_le x f

/-! Endpoints. -/
def z24 : List Int := List.replicate 24 0
theorem z24_length : z24.length = 24 := by simp [z24]
/-- Endpoint i's number in channel c. -/
def num (m : Md) (xs : List Nat) (p i c : Nat) : Int := G xs (cb m p c + i * wd m c) (wd m c)
/-- The numbers, those of the first c channels, and i of the next one, laid. -/
def nuP (m : Md) (xs : List Nat) (p c i : Nat) : List Int := (List.range 24).map fun j => if j / 4 < 2 * m.P ∧ (j % 4 < c ∨ (j % 4 = c ∧ j / 4 < i)) then num m xs p (j / 4) (j % 4) else 0
theorem nuP_length (m : Md) (xs : List Nat) (p c i : Nat) : (nuP m xs p c i).length = 24 := by simp [nuP]
theorem nuP_zero (m : Md) (xs : List Nat) (p : Nat) : nuP m xs p 0 0 = z24 := by
  unfold z24
  apply List.ext_getElem (by simp [nuP])
  intro j h1 h2
  rw [List.getElem_replicate]
  simp only [nuP, List.getElem_map, List.getElem_range]
  exact if_neg (by omega)
theorem nuP_set (m : Md) (xs : List Nat) (p c i : Nat) (hi : i < 2 * m.P) (hc : c < 4) : (nuP m xs p c i).set (i * 4 + c) (num m xs p i c) = nuP m xs p c (i + 1) := by
  apply List.ext_getElem (by simp [nuP])
  intro j h1 h2
  rw [List.getElem_set]
  by_cases h : i * 4 + c = j
  · subst h
    rw [if_pos rfl]
    have e1 : (i * 4 + c) / 4 = i := by omega
    have e2 : (i * 4 + c) % 4 = c := by omega
    simp only [nuP, List.getElem_map, List.getElem_range]
    rw [e1, e2]
    exact (if_pos ⟨hi, .inr ⟨rfl, by omega⟩⟩).symm
  · rw [if_neg h]
    simp only [nuP, List.getElem_map, List.getElem_range]
    by_cases h3 : j / 4 < 2 * m.P ∧ (j % 4 < c ∨ (j % 4 = c ∧ j / 4 < i))
    · rw [if_pos h3, if_pos (by omega)]
    · rw [if_neg h3, if_neg (by omega)]
theorem nuP_next (m : Md) (xs : List Nat) (p c : Nat) : nuP m xs p c (2 * m.P) = nuP m xs p (c + 1) 0 := by
  apply List.ext_getElem (by simp [nuP])
  intro j h1 h2
  simp only [nuP, List.getElem_map, List.getElem_range]
  by_cases h3 : j / 4 < 2 * m.P ∧ (j % 4 < c ∨ (j % 4 = c ∧ j / 4 < 2 * m.P))
  · rw [if_pos h3, if_pos (by omega)]
  · rw [if_neg h3, if_neg (by omega)]
/-- The four numbers of an endpoint. -/
def nums (m : Md) (xs : List Nat) (p i : Nat) : List Int := [num m xs p i 0, num m xs p i 1, num m xs p i 2, num m xs p i 3]
theorem nuP_row (m : Md) (xs : List Nat) (p i : Nat) (h3 : m.P ≤ 3) (hi : i < 2 * m.P) : ((nuP m xs p 4 0).drop (i * 4)).take 4 = nums m xs p i := by
  apply List.ext_getElem (by simp [nuP, nums]; omega)
  intro j h1 h2
  have hj : j < 4 := by simpa [nums] using h2
  simp only [nuP, List.getElem_take, List.getElem_drop, List.getElem_map, List.getElem_range]
  have e1 : (i * 4 + j) / 4 = i := by omega
  have e2 : (i * 4 + j) % 4 = j := by omega
  rw [e1, e2, if_pos (by omega)]
  obtain rfl | rfl | rfl | rfl : j = 0 ∨ j = 1 ∨ j = 2 ∨ j = 3 := by omega
  all_goals rfl
/-- The colour of an endpoint, of its numbers and its p-bit. -/
def lv (m : Md) (ns : List Int) (x : Int) (c : Nat) : Int := wideV (ns.getD c 0 * 2 ^ ex m + x) ((wd m c : Int) + (ex m : Int))
def colV (m : Md) (ns : List Int) (x : Int) : List Int := [lv m ns x 0, lv m ns x 1, lv m ns x 2, if m.A = 0 then 255 else lv m ns x 3]
theorem colV_length (m : Md) (ns : List Int) (x : Int) : (colV m ns x).length = 4 := rfl
/-- Its channels, the first k of them laid. -/
def coP (m : Md) (ns : List Int) (x : Int) : Nat → List Int
  | 0 => [0, 0, 0, 0]
  | k + 1 => (coP m ns x k).set k (lv m ns x k)
theorem coP_length (m : Md) (ns : List Int) (x : Int) : ∀ k, (coP m ns x k).length = 4
  | 0 => rfl
  | k + 1 => by rw [coP, List.length_set, coP_length m ns x k]
theorem coP_yes (m : Md) (ns : List Int) (x : Int) (h : m.A ≠ 0) : coP m ns x 4 = colV m ns x := by rw [colV, if_neg h]; rfl
theorem coP_no (m : Md) (ns : List Int) (x : Int) (h : m.A = 0) : (coP m ns x 4).set 3 255 = colV m ns x := by rw [colV, if_pos h]; rfl
/-- Endpoint i's p-bit. -/
def mo (m : Md) (xs : List Nat) (q i : Nat) : Int := G xs (mat m q i) (ex m)
/-- Rows of four numbers, the first k of them laid over z. -/
def fl (z : List Int) (f : Nat → List Int) : Nat → List Int
  | 0 => z
  | k + 1 => spl (fl z f k) (k * 4) (f k)
theorem fl_length (z : List Int) (f : Nat → List Int) : ∀ k, (fl z f k).length = z.length
  | 0 => rfl
  | k + 1 => by rw [fl, spl_length, fl_length z f k]
theorem fl_getD (z : List Int) (f : Nat → List Int) (hf : ∀ i, (f i).length = 4) : ∀ k, k * 4 ≤ z.length → ∀ j, (fl z f k).getD j 0 = if j / 4 < k then (f (j / 4)).getD (j % 4) 0 else z.getD j 0
  | 0, _, j => by simp [fl]
  | k + 1, h, j => by
    rw [fl, spl_getD _ _ _ _ (by rw [fl_length, hf]; omega), hf]
    by_cases h1 : k * 4 ≤ j ∧ j < k * 4 + 4
    · rw [if_pos h1, if_pos (by omega), show j / 4 = k by omega, show j - k * 4 = j % 4 by omega]
    · rw [if_neg h1, fl_getD z f hf k (by omega)]
      by_cases h2 : j / 4 < k
      · rw [if_pos h2, if_pos (by omega)]
      · rw [if_neg h2, if_neg (by omega)]
theorem getD_ext {xs ys : List Int} (hl : xs.length = ys.length) (h : ∀ j, j < xs.length → xs.getD j 0 = ys.getD j 0) : xs = ys := by
  apply List.ext_getElem hl
  intro j h1 h2
  have := h j h1
  simpa [List.getD_eq_getElem?_getD, List.getElem?_eq_getElem h1, List.getElem?_eq_getElem h2] using this
theorem fl_row (z : List Int) (f : Nat → List Int) (hf : ∀ i, (f i).length = 4) (n : Nat) (hn : n * 4 ≤ z.length) (i : Nat) (hi : i < n) : ((fl z f n).drop (i * 4)).take 4 = f i := by
  refine getD_ext (by rw [List.length_take, List.length_drop, fl_length, hf]; omega) fun j hj => ?_
  have hj4 : j < 4 := by rw [List.length_take] at hj; omega
  have e : (((fl z f n).drop (i * 4)).take 4).getD j 0 = (fl z f n).getD (i * 4 + j) 0 := by
    rw [List.getD_eq_getElem?_getD, List.getElem?_take, if_pos hj4, List.getElem?_drop, ← List.getD_eq_getElem?_getD]
  rw [e, fl_getD z f hf n hn, if_pos (by omega), show (i * 4 + j) / 4 = i by omega, show (i * 4 + j) % 4 = j by omega]
/-- Endpoint i's colour; all of them. -/
def epV (m : Md) (xs : List Nat) (p i : Nat) : List Int := colV m (nums m xs p i) (mo m xs (cb m p 4) i)
theorem epV_length (m : Md) (xs : List Nat) (p i : Nat) : (epV m xs p i).length = 4 := rfl
def enV (m : Md) (xs : List Nat) (p : Nat) : List Int := fl z24 (epV m xs p) (2 * m.P)
theorem enV_length (m : Md) (xs : List Nat) (p : Nat) : (enV m xs p).length = 24 := by rw [enV, fl_length, z24_length]

/-! Weights. -/
def wl (F : Nat) : List Int := if F = 2 then w2 else if F = 3 then w3 else if F = 4 then w4 else []
def wtP (xs : List Nat) (p F : Nat) (l : Nat → Bool) (k : Nat) : List Int := (List.range 16).map fun i => if i < k then (wl F).getD (getN xs false (ipos p F l i) (F - b1 (l i))) 0 else 0
def wtV (xs : List Nat) (p F : Nat) (l : Nat → Bool) : List Int := (List.range 16).map fun i => (wl F).getD (getN xs false (ipos p F l i) (F - b1 (l i))) 0
theorem wtP_length (xs : List Nat) (p F : Nat) (l : Nat → Bool) (k : Nat) : (wtP xs p F l k).length = 16 := by simp [wtP]
theorem wtV_length (xs : List Nat) (p F : Nat) (l : Nat → Bool) : (wtV xs p F l).length = 16 := by simp [wtV]
theorem wtP_zero (xs : List Nat) (p F : Nat) (l : Nat → Bool) : wtP xs p F l 0 = Bc.z16 := by
  apply List.ext_getElem (by simp [wtP, Bc.z16])
  intro j h1 h2
  have hj : j < 16 := by simpa [wtP] using h1
  have e : Bc.z16[j]? = some 0 := by
    have : ∀ j, j < 16 → Bc.z16[j]? = some 0 := by decide
    exact this j hj
  rw [List.getElem?_eq_getElem h2] at e
  rw [Option.some.inj e]
  simp [wtP]
theorem wtP_full (xs : List Nat) (p F : Nat) (l : Nat → Bool) : wtP xs p F l 16 = wtV xs p F l := by
  apply List.ext_getElem (by simp [wtP, wtV])
  intro j h1 h2
  have hj : j < 16 := by simpa [wtP] using h1
  simp [wtP, wtV, hj]
theorem wtP_set (xs : List Nat) (p F : Nat) (l : Nat → Bool) (k : Nat) : (wtP xs p F l k).set k ((wl F).getD (getN xs false (ipos p F l k) (F - b1 (l k))) 0) = wtP xs p F l (k + 1) := by
  apply List.ext_getElem (by simp [wtP])
  intro j h1 h2
  rw [List.getElem_set]
  by_cases h : k = j
  · subst h
    simp [wtP]
  · rw [if_neg h]
    simp only [wtP, List.getElem_map, List.getElem_range]
    by_cases h3 : j < k
    · rw [if_pos h3, if_pos (by omega)]
    · rw [if_neg h3, if_neg (by omega)]
theorem wl_length (F : Nat) (h2 : 2 ≤ F) (h4 : F ≤ 4) : (wl F).length = 2 ^ F := by
  obtain rfl | rfl | rfl : F = 2 ∨ F = 3 ∨ F = 4 := by omega
  all_goals rfl
theorem wl_bd (F i : Nat) : 0 ≤ (wl F).getD i 0 ∧ (wl F).getD i 0 ≤ 64 := by
  have h : ∀ ys : List Int, (∀ y ∈ ys, 0 ≤ y ∧ y ≤ 64) → 0 ≤ ys.getD i 0 ∧ ys.getD i 0 ≤ 64 := fun ys hy => by
    rcases Nat.lt_or_ge i ys.length with h1 | h1
    · rw [List.getD_eq_getElem?_getD, List.getElem?_eq_getElem h1]
      exact hy _ (List.getElem_mem h1)
    · rw [List.getD_eq_getElem?_getD, List.getElem?_eq_none h1]
      decide
  unfold wl
  split
  · exact h _ (by decide)
  · split
    · exact h _ (by decide)
    · split
      · exact h _ (by decide)
      · exact h _ (by decide)

/-! Texels. -/
def mix64 (a b k : Int) : Int := mixV a b k 64 32
def btV (a b : List Int) (k j : Int) : List Int := [mix64 (a.getD 0 0) (b.getD 0 0) k, mix64 (a.getD 1 0) (b.getD 1 0) k, mix64 (a.getD 2 0) (b.getD 2 0) k, mix64 (a.getD 3 0) (b.getD 3 0) j]
def kk (k j : Int) (c : Nat) : Int := if c = 3 then j else k
def btP (a b : List Int) (k j : Int) : Nat → List Int
  | 0 => [0, 0, 0, 0]
  | c + 1 => (btP a b k j c).set c (mix64 (a.getD c 0) (b.getD c 0) (kk k j c))
theorem btP_length (a b : List Int) (k j : Int) : ∀ c, (btP a b k j c).length = 4
  | 0 => rfl
  | c + 1 => by rw [btP, List.length_set, btP_length a b k j c]
theorem btP_four (a b : List Int) (k j : Int) : btP a b k j 4 = btV a b k j := rfl
theorem btV_length (a b : List Int) (k j : Int) : (btV a b k j).length = 4 := rfl
/-- Alpha exchanged with another channel. -/
def tuV (t : List Int) (n : Int) : List Int := if n = 0 then t else (t.set (n.toNat - 1) (t.getD 3 0)).set 3 (t.getD (n.toNat - 1) 0)
theorem tuV_length (t : List Int) (n : Int) : (tuV t n).length = t.length := by unfold tuV; split <;> simp
/-- A texel of a block: of the endpoints, the weights, the parts, the turn. -/
def txV (e : List Int) (cw aw : List Int) (pt : Nat → Nat) (turn : Int) (i : Nat) : List Int :=
  tuV (btV ((e.drop (2 * pt i * 4)).take 4) ((e.drop ((2 * pt i + 1) * 4)).take 4) (cw.getD i 0) (aw.getD i 0)) turn
theorem txV_length (e : List Int) (cw aw : List Int) (pt : Nat → Nat) (turn : Int) (i : Nat) : (txV e cw aw pt turn i).length = 4 := by rw [txV, tuV_length]; rfl
/-- Where the parts of a block of mode m begin, from its partition number on at p. -/
def wayN (m : Md) (xs : List Nat) (p : Nat) : Nat := getN xs false p m.W
def q1 (m : Md) (p : Nat) : Nat := p + m.W + m.T + m.C
def q2 (m : Md) (p : Nat) : Nat := mpos m (cb m (q1 m p) 4) (2 * m.P)
def q3 (m : Md) (xs : List Nat) (p : Nat) : Nat := ipos (q2 m p) m.F (isA m.P (wayN m xs p)) 16
def cw0 (m : Md) (xs : List Nat) (p : Nat) : List Int := wtV xs (q2 m p) m.F (isA m.P (wayN m xs p))
def aw0 (m : Md) (xs : List Nat) (p : Nat) : List Int := if m.S = 0 then cw0 m xs p else wtV xs (q3 m xs p) m.S is0
def chN (m : Md) (xs : List Nat) (p : Nat) : Int := G xs (p + m.W + m.T) m.C
def cwV (m : Md) (xs : List Nat) (p : Nat) : List Int := if chN m xs p = 1 then aw0 m xs p else cw0 m xs p
def awV (m : Md) (xs : List Nat) (p : Nat) : List Int := if chN m xs p = 1 then cw0 m xs p else aw0 m xs p
def ptN (m : Md) (xs : List Nat) (p i : Nat) : Nat := (partV m.P (wayN m xs p) i).toNat
def tileV (m : Md) (xs : List Nat) (p : Nat) : List Int := fl (List.replicate 64 0) (txV (enV m xs (q1 m p)) (cwV m xs p) (awV m xs p) (ptN m xs p) (G xs (p + m.W) m.T)) 16
theorem tileV_length (m : Md) (xs : List Nat) (p : Nat) : (tileV m xs p).length = 64 := by rw [tileV, fl_length]; simp
/-- The texels of a block. -/
def decV (xs : List Nat) : List Int :=
  let k := modeN (xs.getD 0 0)
  if k = 8 then List.replicate 64 0 else tileV (md k) xs (k + 1)
end Go.Proofs.YtnoailihkjccbaaDoor.B7
