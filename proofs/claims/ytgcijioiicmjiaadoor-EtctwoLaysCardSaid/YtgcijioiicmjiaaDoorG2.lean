/- BitPlain, LvPlain, LvWide, LvRef: merged. -/
import Derived.Laws.BitsAllLaws
import Derived.Lib.Hide
import Derived.Test.YtgcijioiicmjiaaDoorProg
import Derived.Test.YtgcijioiicmjiaaDoorG1
set_option linter.all false
namespace Go.Proofs.YtgcijioiicmjiaaDoor.Bi

/-- How far up bit i of a byte stands. -/
def pl (i : Nat) (hi : Bool) : Nat := if hi then 7 - i else i
theorem pl_lt {i : Nat} (h : i < 8) (hi : Bool) : pl i hi < 8 := by unfold pl; split <;> omega
theorem pl_pl {i : Nat} (h : i < 8) (hi : Bool) : pl (pl i hi) hi = i := by unfold pl; split <;> omega

theorem b_lt (b : Bool) : b.toNat < 2 := by cases b <;> decide
theorem b_bit (b : Bool) (m k : Nat) : (b.toNat * 2 ^ m).testBit k = (decide (k = m) && b) := by
  cases b
  · simp
  · simp [Nat.testBit_two_pow, eq_comm]

/-- The number of the bits f 0, f 1 .., the lowest first. -/
def nm (f : Nat → Bool) : Nat → Nat
  | 0 => 0
  | m + 1 => nm f m ||| (f m).toNat * 2 ^ m

theorem nm_bit (f : Nat → Bool) (m k : Nat) : (nm f m).testBit k = (decide (k < m) && f k) := by
  induction m with
  | zero => simp [nm]
  | succ m ih =>
    rw [nm, Nat.testBit_or, ih, b_bit]
    by_cases h : k < m
    · simp [h, show k < m + 1 by omega, show k ≠ m by omega]
    · by_cases h2 : k = m
      · subst h2; simp
      · simp [h, h2, show ¬ k < m + 1 by omega]

theorem nm_lt (f : Nat → Bool) (m : Nat) : nm f m < 2 ^ m := by
  apply Nat.lt_pow_two_of_testBit
  intro i hi
  rw [nm_bit]
  simp; omega

theorem nm_congr {f g : Nat → Bool} {m : Nat} (h : ∀ k, k < m → f k = g k) : nm f m = nm g m := by
  apply Nat.eq_of_testBit_eq
  intro k
  rw [nm_bit, nm_bit]
  by_cases hk : k < m
  · rw [h k hk]
  · simp [hk]

theorem nm_eq {N m : Nat} {f : Nat → Bool} (hN : N < 2 ^ m) (h : ∀ k, k < m → N.testBit k = f k) : N = nm f m := by
  apply Nat.eq_of_testBit_eq
  intro k
  rw [nm_bit]
  by_cases hk : k < m
  · rw [h k hk]; simp [hk]
  · simp [hk]
    exact Nat.testBit_lt_two_pow (Nat.lt_of_lt_of_le hN (Nat.pow_le_pow_right (by omega) (by omega)))

theorem nm_self {N m : Nat} (hN : N < 2 ^ m) : nm (fun k => N.testBit k) m = N := (nm_eq hN fun _ _ => rfl).symm

/-- A bit more at the low end. -/
theorem nm_cons (f : Nat → Bool) (m : Nat) : nm f (m + 1) = 2 * nm (fun k => f (k + 1)) m + (f 0).toNat := by
  apply Nat.eq_of_testBit_eq
  intro k
  rw [nm_bit]
  have h1 := nm_bit (fun k => f (k + 1)) m
  have hb := b_lt (f 0)
  cases k with
  | zero =>
    rw [Nat.testBit_zero]
    rw [show (2 * nm (fun k => f (k + 1)) m + (f 0).toNat) % 2 = (f 0).toNat by omega]
    cases f 0 <;> simp
  | succ k =>
    rw [Nat.testBit_succ, show (2 * nm (fun k => f (k + 1)) m + (f 0).toNat) / 2 = nm (fun k => f (k + 1)) m by omega, h1 k]
    simp

/-- Bit i of the bytes. -/
def bt (xs : List Nat) (hi : Bool) (i : Nat) : Bool := (xs.getD (i / 8) 0).testBit (pl (i % 8) hi)

/-- The number of m bits from p on, the first one the lowest. -/
def rd (xs : List Nat) (hi : Bool) (p m : Nat) : Nat := nm (fun k => bt xs hi (p + k)) m
/-- The number of m bits from p on, in their own order. -/
def getN (xs : List Nat) (hi : Bool) (p m : Nat) : Nat := nm (fun k => bt xs hi (if hi then p + (m - 1 - k) else p + k)) m

theorem rd_step (xs : List Nat) (hi : Bool) (p k : Nat) : rd xs hi p k ||| (bt xs hi (p + k)).toNat * 2 ^ k = rd xs hi p (k + 1) := rfl
theorem rd_low (xs : List Nat) (p m : Nat) : getN xs false p m = rd xs false p m := by simp [getN, rd]
/-- The reference's steps. -/
theorem low_step (xs : List Nat) (p i m : Nat) (h : i < m) : 2 * rd xs false (p + m - i) i + (bt xs false (p + m - 1 - i)).toNat = rd xs false (p + m - (i + 1)) (i + 1) := by
  unfold rd
  rw [nm_cons]
  have e : p + m - (i + 1) + 0 = p + m - 1 - i := by omega
  rw [e]
  congr 2
  apply nm_congr
  intro k _
  congr 1
  omega
theorem high_step (xs : List Nat) (p i : Nat) : 2 * getN xs true p i + (bt xs true (p + i)).toNat = getN xs true p (i + 1) := by
  unfold getN
  rw [nm_cons]
  simp only [if_true]
  have e : p + (i + 1 - 1 - 0) = p + i := by omega
  rw [e]
  congr 2
  apply nm_congr
  intro k _
  congr 1
  omega

def getE (n : Nat) (p m : Int) : Int := if p < 0 ∨ m < 0 ∨ 64 < m then 1 else if 8 * (n : Int) - p < m then 2 else 0
theorem getE_ok {n : Nat} {p m : Int} (h : getE n p m = 0) : 0 ≤ p ∧ 0 ≤ m ∧ m ≤ 64 ∧ p + m ≤ 8 * n := by
  unfold getE at h
  split at h
  · omega
  · split at h <;> omega
theorem getE_one {n : Nat} {p m : Int} (h : p < 0 ∨ m < 0 ∨ 64 < m) : getE n p m = 1 := by unfold getE; rw [if_pos h]
theorem getE_two {n : Nat} {p m : Int} (h : ¬ (p < 0 ∨ m < 0 ∨ 64 < m)) (k : 8 * (n : Int) - p < m) : getE n p m = 2 := by unfold getE; rw [if_neg h, if_pos k]
theorem getE_zero {n : Nat} {p m : Int} (h : ¬ (p < 0 ∨ m < 0 ∨ 64 < m)) (k : ¬ 8 * (n : Int) - p < m) : getE n p m = 0 := by unfold getE; rw [if_neg h, if_neg k]
def getV (xs : List Nat) (hi : Bool) (p m : Int) : Int := if getE xs.length p m = 0 then ((getN xs hi p.toNat m.toNat : Nat) : Int) else 0

def setE (n : Nat) (p m : Int) (N : Nat) : Int := if getE n p m = 0 then (if N < 2 ^ m.toNat then 0 else 10) else getE n p m

/-- The bytes with bits g 0, g 1 .. laid from p on, m of them. -/
def lay (xs : List Nat) (hi : Bool) (p m : Nat) (g : Nat → Bool) : List Nat :=
  (List.range xs.length).map fun j => nm (fun q => if p ≤ 8 * j + pl q hi ∧ 8 * j + pl q hi < p + m then g (8 * j + pl q hi - p) else (xs.getD j 0).testBit q) 8
/-- The bytes with N laid, in its own order. -/
def st (xs : List Nat) (hi : Bool) (p m N : Nat) : List Nat := lay xs hi p m fun k => N.testBit (if hi then m - 1 - k else k)
def setV (xs : List Nat) (hi : Bool) (p m : Int) (N : Nat) : List Nat := if setE xs.length p m N = 0 then st xs hi p.toNat m.toNat N else []

theorem lay_length (xs : List Nat) (hi : Bool) (p m : Nat) (g : Nat → Bool) : (lay xs hi p m g).length = xs.length := by simp [lay]
theorem lay_lt (xs : List Nat) (hi : Bool) (p m : Nat) (g : Nat → Bool) : ∀ x ∈ lay xs hi p m g, x < 256 := by
  intro x hx
  obtain ⟨j, _, rfl⟩ := List.mem_map.1 hx
  exact nm_lt _ 8
theorem lay_getD (xs : List Nat) (hi : Bool) (p m : Nat) (g : Nat → Bool) (j : Nat) (hj : j < xs.length) :
    (lay xs hi p m g).getD j 0 = nm (fun q => if p ≤ 8 * j + pl q hi ∧ 8 * j + pl q hi < p + m then g (8 * j + pl q hi - p) else (xs.getD j 0).testBit q) 8 := by
  simp [lay, hj]
theorem lay_bit (xs : List Nat) (hi : Bool) (p m : Nat) (g : Nat → Bool) (i : Nat) (h : i < 8 * xs.length) :
    bt (lay xs hi p m g) hi i = if p ≤ i ∧ i < p + m then g (i - p) else bt xs hi i := by
  unfold bt
  have h8 : i % 8 < 8 := Nat.mod_lt _ (by omega)
  rw [lay_getD _ _ _ _ _ _ (by omega), nm_bit, pl_pl h8]
  simp only [pl_lt h8, decide_true, Bool.true_and, show 8 * (i / 8) + i % 8 = i by omega]

theorem getD_lt' {xs : List Nat} (h : ∀ x ∈ xs, x < 256) (i : Nat) : xs.getD i 0 < 256 := by
  by_cases hi : i < xs.length
  · have := h (xs[i]) (List.getElem_mem hi)
    simpa [List.getD_eq_getElem?_getD, List.getElem?_eq_getElem hi] using this
  · simp [List.getD_eq_getElem?_getD, List.getElem?_eq_none (Nat.le_of_not_lt hi)]

/-- Bytes of the same bits are the same. -/
theorem ext_bits {xs ys : List Nat} (hi : Bool) (hl : xs.length = ys.length) (hx : ∀ x ∈ xs, x < 256) (hy : ∀ y ∈ ys, y < 256) (h : ∀ i, i < 8 * xs.length → bt xs hi i = bt ys hi i) : xs = ys := by
  apply List.ext_getElem hl
  intro j h1 h2
  have e1 : xs.getD j 0 = xs[j] := by simp [List.getD_eq_getElem?_getD, List.getElem?_eq_getElem h1]
  have e2 : ys.getD j 0 = ys[j] := by simp [List.getD_eq_getElem?_getD, List.getElem?_eq_getElem h2]
  rw [← e1, ← e2]
  have hx' : xs.getD j 0 < 2 ^ 8 := getD_lt' hx j
  have hy' : ys.getD j 0 < 2 ^ 8 := getD_lt' hy j
  rw [← nm_self hx', ← nm_self hy']
  apply nm_congr
  intro q hq
  have hp := pl_lt hq hi
  have := h (8 * j + pl q hi) (by omega)
  unfold bt at this
  rw [show (8 * j + pl q hi) / 8 = j by omega, show (8 * j + pl q hi) % 8 = pl q hi by omega, pl_pl hq] at this
  exact this

theorem lay_zero (xs : List Nat) (hi : Bool) (p : Nat) (g : Nat → Bool) (hx : ∀ x ∈ xs, x < 256) : lay xs hi p 0 g = xs := by
  apply ext_bits hi (lay_length _ _ _ _ _) (lay_lt _ _ _ _ _) hx
  intro i h
  rw [lay_length] at h
  rw [lay_bit _ _ _ _ _ _ h, if_neg (by omega)]

theorem lay_congr {xs : List Nat} {hi : Bool} {p m : Nat} {f g : Nat → Bool} (hx : ∀ x ∈ xs, x < 256) (h : ∀ k, k < m → f k = g k) : lay xs hi p m f = lay xs hi p m g := by
  apply ext_bits hi (by rw [lay_length, lay_length]) (lay_lt _ _ _ _ _) (lay_lt _ _ _ _ _)
  intro i hi'
  rw [lay_length] at hi'
  rw [lay_bit _ _ _ _ _ _ hi', lay_bit _ _ _ _ _ _ hi']
  split
  · exact h _ (by omega)
  · rfl

theorem getD_set (xs : List Nat) (j k v : Nat) (h : j < xs.length) : (xs.set j v).getD k 0 = if k = j then v else xs.getD k 0 := by
  simp only [List.getD_eq_getElem?_getD, List.getElem?_set]
  by_cases hk : k = j
  · subst hk; simp [h]
  · simp [hk, show ¬ j = k from fun h => hk h.symm]

/-- One byte of what is being laid. -/
theorem lay_byte (xs : List Nat) (hi : Bool) (p k : Nat) (g : Nat → Bool) (e : Nat) (he : e ≤ 8) (h0 : (p + k) % 8 ≤ e) (hlen : p + k < 8 * xs.length) :
    (lay xs hi p k g).set ((p + k) / 8) (nm (fun q => if (p + k) % 8 ≤ pl q hi ∧ pl q hi < e then g (k + pl q hi - (p + k) % 8) else ((lay xs hi p k g).getD ((p + k) / 8) 0).testBit q) 8) = lay xs hi p (k + (e - (p + k) % 8)) g := by
  have hj : (p + k) / 8 < (lay xs hi p k g).length := by rw [lay_length]; omega
  apply ext_bits hi
  · simp [lay_length]
  · intro x hx
    rcases List.mem_or_eq_of_mem_set hx with h | rfl
    · exact lay_lt _ _ _ _ _ x h
    · exact nm_lt _ 8
  · exact lay_lt _ _ _ _ _
  intro i hi'
  rw [List.length_set, lay_length] at hi'
  rw [lay_bit _ _ _ _ _ _ hi']
  have hb := lay_bit xs hi p k g i hi'
  have h8 : i % 8 < 8 := Nat.mod_lt _ (by omega)
  have hp8 := pl_lt h8 hi
  unfold bt at hb ⊢
  rw [getD_set _ _ _ _ hj]
  by_cases hk : i / 8 = (p + k) / 8
  · rw [if_pos hk, nm_bit, pl_pl h8]
    simp only [hp8, decide_true, Bool.true_and]
    rw [← hk, hb]
    by_cases c1 : (p + k) % 8 ≤ i % 8 ∧ i % 8 < e
    · rw [if_pos c1, if_pos (by omega)]
      congr 1
      omega
    · rw [if_neg c1]
      by_cases c2 : p ≤ i ∧ i < p + k
      · rw [if_pos c2, if_pos (by omega)]
      · rw [if_neg c2, if_neg (by omega)]
  · rw [if_neg hk, hb]
    by_cases c2 : p ≤ i ∧ i < p + k
    · rw [if_pos c2, if_pos (by omega)]
    · rw [if_neg c2, if_neg (by omega)]

/-- One bit laid behind. -/
theorem lay_bit_up (xs : List Nat) (hi : Bool) (p k : Nat) (g : Nat → Bool) (hlen : p + k < 8 * xs.length) :
    (lay xs hi p k g).set ((p + k) / 8) (nm (fun q => if q = pl ((p + k) % 8) hi then g k else ((lay xs hi p k g).getD ((p + k) / 8) 0).testBit q) 8) = lay xs hi p (k + 1) g := by
  have hj : (p + k) / 8 < (lay xs hi p k g).length := by rw [lay_length]; omega
  apply ext_bits hi
  · simp [lay_length]
  · intro x hx
    rcases List.mem_or_eq_of_mem_set hx with h | rfl
    · exact lay_lt _ _ _ _ _ x h
    · exact nm_lt _ 8
  · exact lay_lt _ _ _ _ _
  intro i hi'
  rw [List.length_set, lay_length] at hi'
  rw [lay_bit _ _ _ _ _ _ hi']
  have hb := lay_bit xs hi p k g i hi'
  have h8 : i % 8 < 8 := Nat.mod_lt _ (by omega)
  have h8' : (p + k) % 8 < 8 := Nat.mod_lt _ (by omega)
  have hp8 := pl_lt h8 hi
  have hinj : pl (i % 8) hi = pl ((p + k) % 8) hi ↔ i % 8 = (p + k) % 8 :=
    ⟨fun h => by have := congrArg (fun z => pl z hi) h; simpa [pl_pl h8, pl_pl h8'] using this, fun h => by rw [h]⟩
  unfold bt at hb ⊢
  rw [getD_set _ _ _ _ hj]
  by_cases hk : i / 8 = (p + k) / 8
  · rw [if_pos hk, nm_bit]
    simp only [hp8, decide_true, Bool.true_and, hinj]
    rw [← hk, hb]
    by_cases c1 : i % 8 = (p + k) % 8
    · obtain rfl : i = p + k := by omega
      rw [if_pos c1, if_pos (by omega)]
      congr 1
      omega
    · rw [if_neg c1]
      by_cases c2 : p ≤ i ∧ i < p + k
      · rw [if_pos c2, if_pos (by omega)]
      · rw [if_neg c2, if_neg (by omega)]
  · rw [if_neg hk, hb]
    by_cases c2 : p ≤ i ∧ i < p + k
    · rw [if_pos c2, if_pos (by omega)]
    · rw [if_neg c2, if_neg (by omega)]

/-- One bit laid in front. -/
theorem lay_bit_down (xs : List Nat) (hi : Bool) (p k : Nat) (g g' : Nat → Bool) (hlen : p < 8 * xs.length) (hg : ∀ i, i < k → g' (i + 1) = g i) :
    (lay xs hi (p + 1) k g).set (p / 8) (nm (fun q => if q = pl (p % 8) hi then g' 0 else ((lay xs hi (p + 1) k g).getD (p / 8) 0).testBit q) 8) = lay xs hi p (k + 1) g' := by
  have hj : p / 8 < (lay xs hi (p + 1) k g).length := by rw [lay_length]; omega
  apply ext_bits hi
  · simp [lay_length]
  · intro x hx
    rcases List.mem_or_eq_of_mem_set hx with h | rfl
    · exact lay_lt _ _ _ _ _ x h
    · exact nm_lt _ 8
  · exact lay_lt _ _ _ _ _
  intro i hi'
  rw [List.length_set, lay_length] at hi'
  rw [lay_bit _ _ _ _ _ _ hi']
  have hb := lay_bit xs hi (p + 1) k g i hi'
  have h8 : i % 8 < 8 := Nat.mod_lt _ (by omega)
  have h8' : p % 8 < 8 := Nat.mod_lt _ (by omega)
  have hp8 := pl_lt h8 hi
  have hinj : pl (i % 8) hi = pl (p % 8) hi ↔ i % 8 = p % 8 :=
    ⟨fun h => by have := congrArg (fun z => pl z hi) h; simpa [pl_pl h8, pl_pl h8'] using this, fun h => by rw [h]⟩
  have hgo : ∀ i, p + 1 ≤ i → i < p + 1 + k → g (i - (p + 1)) = g' (i - p) := fun i h1 h2 => by
    rw [← hg (i - (p + 1)) (by omega)]
    congr 1
    omega
  unfold bt at hb ⊢
  rw [getD_set _ _ _ _ hj]
  by_cases hk : i / 8 = p / 8
  · rw [if_pos hk, nm_bit]
    simp only [hp8, decide_true, Bool.true_and, hinj]
    rw [← hk, hb]
    by_cases c1 : i % 8 = p % 8
    · obtain rfl : i = p := by omega
      rw [if_pos c1, if_pos (by omega)]
      congr 1
      omega
    · rw [if_neg c1]
      by_cases c2 : p + 1 ≤ i ∧ i < p + 1 + k
      · rw [if_pos c2, if_pos (by omega), hgo i c2.1 c2.2]
      · rw [if_neg c2, if_neg (by omega)]
  · rw [if_neg hk, hb]
    by_cases c2 : p + 1 ≤ i ∧ i < p + 1 + k
    · rw [if_pos c2, if_pos (by omega), hgo i c2.1 c2.2]
    · rw [if_neg c2, if_neg (by omega)]

/-- Eight bits as a row of bytes. -/
def bl (f : Nat → Bool) : List Nat := (List.range 8).map fun i => (f i).toNat
theorem bl_length (f : Nat → Bool) : (bl f).length = 8 := by simp [bl]
theorem bl_getD (f : Nat → Bool) (i : Nat) (h : i < 8) : (bl f).getD i 0 = (f i).toNat := by simp [bl, h]
theorem bl_set (f : Nat → Bool) (i : Nat) (b : Bool) : (bl f).set i b.toNat = bl fun j => if j = i then b else f j := by
  apply List.ext_getElem (by simp [bl])
  intro j h1 h2
  simp [bl, List.getElem_set]
  by_cases h : i = j
  · subst h; simp
  · simp [h, show ¬ j = i from fun h' => h h'.symm]
theorem bl_congr {f g : Nat → Bool} (h : ∀ i, i < 8 → f i = g i) : bl f = bl g := by
  unfold bl
  apply List.map_congr_left
  intro i hi
  rw [h i (by simpa using hi)]
/-- What join has put together of k bits. -/
def jn (f : Nat → Bool) (hi : Bool) (k : Nat) : Nat := nm (fun q => decide (pl q hi < k) && f (pl q hi)) 8
theorem jn_zero (f : Nat → Bool) (hi : Bool) : jn f hi 0 = 0 := by
  unfold jn
  apply Nat.eq_of_testBit_eq
  intro k
  rw [nm_bit]
  simp
theorem jn_lt (f : Nat → Bool) (hi : Bool) (k : Nat) : jn f hi k < 256 := nm_lt _ 8
theorem jn_full (f : Nat → Bool) (hi : Bool) : jn f hi 8 = nm (fun q => f (pl q hi)) 8 := nm_congr fun k hk => by simp [pl_lt hk]
theorem jn_step (f : Nat → Bool) (hi : Bool) (k : Nat) (h : k < 8) : jn f hi k ||| (f k).toNat * 2 ^ pl k hi = jn f hi (k + 1) := by
  apply Nat.eq_of_testBit_eq
  intro q
  unfold jn
  rw [Nat.testBit_or, nm_bit, nm_bit, b_bit]
  by_cases hq : q < 8
  · by_cases h2 : q = pl k hi
    · subst h2
      simp [pl_lt h, pl_pl h]
    · have h3 : pl q hi ≠ k := fun e => h2 (by rw [← e, pl_pl hq])
      simp [hq, h2, show pl q hi < k + 1 ↔ pl q hi < k from ⟨fun _ => by omega, fun _ => by omega⟩]
  · have := pl_lt h hi
    simp [hq]
    intro e
    omega

/-- A bit by dividing. -/
theorem bit_div (x k : Nat) : x / 2 ^ k % 2 = (x.testBit k).toNat := by
  rw [Nat.testBit_eq_decide_div_mod_eq]
  have : x / 2 ^ k % 2 < 2 := Nat.mod_lt _ (by omega)
  rcases Nat.lt_or_ge (x / 2 ^ k % 2) 1 with h | h
  · simp [show x / 2 ^ k % 2 = 0 by omega]
  · simp [show x / 2 ^ k % 2 = 1 by omega]

section
/-- A step of turning 64 bits about: places k and k xor s change. -/
theorem swap_step (x M s : Nat) (hx : x < 2 ^ 64)
    (hM : ∀ k, k < 64 → if M.testBit k then (k ^^^ s = k + s ∧ (k < s ∨ M.testBit (k - s) = false)) else (s ≤ k ∧ k ^^^ s = k - s ∧ M.testBit (k - s) = true))
    (k : Nat) (hk : k < 64) : ((x / 2 ^ s &&& M) ||| (x &&& M) * 2 ^ s % 2 ^ 64).testBit k = x.testBit (k ^^^ s) := by
  have h := hM k hk
  rw [Nat.testBit_or, Nat.testBit_and, Nat.testBit_div_two_pow, Nat.testBit_mod_two_pow, Nat.testBit_mul_two_pow, Nat.testBit_and]
  by_cases hm : M.testBit k
  · rw [if_pos hm] at h
    rw [hm, h.1]
    rcases h.2 with h2 | h2
    · simp [hk, show ¬ s ≤ k by omega]
    · simp [h2]
  · rw [if_neg hm] at h
    simp [hm, hk, h.1, h.2.1, h.2.2]

/-- 64 bits, turned about. -/
def rv (x : Nat) : Nat := nm (fun k => x.testBit (63 - k)) 64

def s1 (x : Nat) : Nat := (x / 2 ^ 1 &&& 6148914691236517205) ||| (x &&& 6148914691236517205) * 2 ^ 1 % 2 ^ 64
def s2 (x : Nat) : Nat := (x / 2 ^ 2 &&& 3689348814741910323) ||| (x &&& 3689348814741910323) * 2 ^ 2 % 2 ^ 64
def s3 (x : Nat) : Nat := (x / 2 ^ 4 &&& 1085102592571150095) ||| (x &&& 1085102592571150095) * 2 ^ 4 % 2 ^ 64
def s4 (x : Nat) : Nat := (x / 2 ^ 8 &&& 71777214294589695) ||| (x &&& 71777214294589695) * 2 ^ 8 % 2 ^ 64
def s5 (x : Nat) : Nat := (x / 2 ^ 16 &&& 281470681808895) ||| (x &&& 281470681808895) * 2 ^ 16 % 2 ^ 64
def s6 (x : Nat) : Nat := x / 2 ^ 32 ||| x * 2 ^ 32 % 2 ^ 64

theorem s_lt (x M s : Nat) (hx : x < 2 ^ 64) : ((x / 2 ^ s &&& M) ||| (x &&& M) * 2 ^ s % 2 ^ 64) < 2 ^ 64 :=
  Nat.or_lt_two_pow (Nat.lt_of_le_of_lt Nat.and_le_left (Nat.lt_of_le_of_lt (Nat.div_le_self _ _) hx)) (Nat.mod_lt _ (by decide))
theorem s6_lt (x : Nat) (hx : x < 2 ^ 64) : s6 x < 2 ^ 64 := Nat.or_lt_two_pow (Nat.lt_of_le_of_lt (Nat.div_le_self _ _) hx) (Nat.mod_lt _ (by decide))

theorem s6_bit (x : Nat) (hx : x < 2 ^ 64) (k : Nat) (hk : k < 64) : (s6 x).testBit k = x.testBit (k ^^^ 32) := by
  unfold s6
  have e : ∀ k, k < 64 → k ^^^ 32 = if k < 32 then k + 32 else k - 32 := by decide +kernel
  rw [Nat.testBit_or, Nat.testBit_div_two_pow, Nat.testBit_mod_two_pow, Nat.testBit_mul_two_pow, e k hk]
  by_cases h : k < 32
  · simp [h, hk, show ¬ 32 ≤ k by omega]
  · have h0 : x.testBit (k + 32) = false := Nat.testBit_lt_two_pow (Nat.lt_of_lt_of_le hx (Nat.pow_le_pow_right (by omega) (show 64 ≤ k + 32 by omega)))
    simp [h, hk, show 32 ≤ k by omega, h0]

theorem xor_all : ∀ k, k < 64 → (k ^^^ 32 < 64 ∧ k ^^^ 32 ^^^ 16 < 64 ∧ k ^^^ 32 ^^^ 16 ^^^ 8 < 64 ∧ k ^^^ 32 ^^^ 16 ^^^ 8 ^^^ 4 < 64 ∧ k ^^^ 32 ^^^ 16 ^^^ 8 ^^^ 4 ^^^ 2 < 64 ∧ k ^^^ 32 ^^^ 16 ^^^ 8 ^^^ 4 ^^^ 2 ^^^ 1 = 63 - k) := by decide +kernel

theorem rv_steps (x : Nat) (hx : x < 2 ^ 64) : s6 (s5 (s4 (s3 (s2 (s1 x))))) = rv x := by
  have h1 : s1 x < 2 ^ 64 := s_lt _ _ _ hx
  have h2 : s2 (s1 x) < 2 ^ 64 := s_lt _ _ _ h1
  have h3 : s3 (s2 (s1 x)) < 2 ^ 64 := s_lt _ _ _ h2
  have h4 : s4 (s3 (s2 (s1 x))) < 2 ^ 64 := s_lt _ _ _ h3
  have h5 : s5 (s4 (s3 (s2 (s1 x)))) < 2 ^ 64 := s_lt _ _ _ h4
  have h6 := s6_lt _ h5
  refine nm_eq h6 fun k hk => ?_
  obtain ⟨a1, a2, a3, a4, a5, a6⟩ := xor_all k hk
  rw [s6_bit _ h5 k hk]
  unfold s5
  rw [swap_step _ _ _ h4 (by decide +kernel) _ a1]
  unfold s4
  rw [swap_step _ _ _ h3 (by decide +kernel) _ a2]
  unfold s3
  rw [swap_step _ _ _ h2 (by decide +kernel) _ a3]
  unfold s2
  rw [swap_step _ _ _ h1 (by decide +kernel) _ a4]
  unfold s1
  rw [swap_step _ _ _ hx (by decide +kernel) _ a5, a6]

theorem rv_lt (x : Nat) : rv x < 2 ^ 64 := nm_lt _ 64
/-- The m lowest bits, turned about. -/
theorem rv_bit (x m k : Nat) (hm : m ≤ 64) : (rv x / 2 ^ (64 - m)).testBit k = (decide (k < m) && x.testBit (m - 1 - k)) := by
  rw [Nat.testBit_div_two_pow]
  unfold rv
  rw [nm_bit]
  by_cases h : k < m
  · simp [h, show k + (64 - m) < 64 by omega, show 63 - (k + (64 - m)) = m - 1 - k by omega]
  · simp [h]
    intro h2
    omega
end

/-- High's number is what read reads, turned about. -/
theorem turn_get (xs : List Nat) (p m : Nat) (hm : m ≤ 64) : rv (rd xs true p m) / 2 ^ (64 - m) = getN xs true p m := by
  apply Nat.eq_of_testBit_eq
  intro k
  rw [rv_bit _ _ _ hm]
  unfold rd getN
  rw [nm_bit, nm_bit]
  by_cases h : k < m
  · simp [h, show m - 1 - k < m by omega]
  · simp [h]
/-- And what is laid for N is N turned about. -/
theorem turn_lay (xs : List Nat) (p m N : Nat) (hm : m ≤ 64) (hx : ∀ x ∈ xs, x < 256) : lay xs true p m (fun k => (rv N / 2 ^ (64 - m)).testBit k) = st xs true p m N := by
  unfold st
  apply lay_congr hx
  intro k hk
  rw [rv_bit _ _ _ hm]
  simp [hk]
theorem low_lay (xs : List Nat) (p m N : Nat) : lay xs false p m (fun k => N.testBit k) = st xs false p m N := by simp [st]
end Go.Proofs.YtgcijioiicmjiaaDoor.Bi
set_option linter.all false
namespace Go.Proofs.YtgcijioiicmjiaaDoor
namespace Lv

/-- The rounds of Wide: w of h bits, and the b bits of v behind it, until there are eight. -/
def wGo (b v : Nat) : Nat → Nat → Nat → Nat
  | 0, w, _ => w
  | f + 1, w, h => if h < 8 then wGo b v f (w * 2 ^ b + v) (h + b) else w / 2 ^ (h - 8)
def wN (b v : Nat) : Nat := wGo b v 9 v b
theorem all8 (p : Nat → Nat → Bool) (h : ((List.range 8).all fun b => (List.range (2 ^ (b + 1))).all fun v => p (b + 1) v) = true) (b v : Nat) (hb : 1 ≤ b) (hb8 : b ≤ 8) (hv : v < 2 ^ b) : p b v = true := by
  rw [List.all_eq_true] at h
  have h1 := h (b - 1) (by simp; omega)
  rw [show b - 1 + 1 = b from by omega, List.all_eq_true] at h1
  exact h1 v (by simpa using hv)

theorem wN_lt (b v : Nat) (hb : 1 ≤ b) (hb8 : b ≤ 8) (hv : v < 2 ^ b) : wN b v < 256 := by
  have := all8 (fun b v => decide (wN b v < 256)) (by decide +kernel) b v hb hb8 hv
  simpa using this
/-- A level of some bits as one of 8. -/
def wideV (v bits : Int) : Int := if 1 ≤ bits ∧ bits ≤ 8 then (wN bits.toNat (v % 2 ^ bits.toNat).toNat : Int) else 0

theorem wideV_no {v bits : Int} (h : ¬ (1 ≤ bits ∧ bits ≤ 8)) : wideV v bits = 0 := if_neg h
theorem modp (v : Int) (b : Nat) : ((v % 2 ^ b).toNat : Int) = v % 2 ^ b ∧ (v % 2 ^ b).toNat < 2 ^ b := by
  have hp : (0 : Int) < 2 ^ b := Int.pow_pos (by omega)
  have h1 := Int.emod_nonneg v (Int.ne_of_gt hp)
  have h2 := Int.emod_lt_of_pos v hp
  refine ⟨Int.toNat_of_nonneg h1, ?_⟩
  have h3 : (((v % 2 ^ b).toNat : Nat) : Int) < ((2 ^ b : Nat) : Int) := by
    rw [Int.toNat_of_nonneg h1]; simpa using h2
  exact Int.ofNat_lt.1 h3
theorem wideV_bd (v bits : Int) : 0 ≤ wideV v bits ∧ wideV v bits < 256 := by
  unfold wideV
  split
  · rename_i h
    have := wN_lt bits.toNat (v % 2 ^ bits.toNat).toNat (by omega) (by omega) (modp v _).2
    omega
  · omega

/-- The first of k numbers with the least cost. -/
def argm (c : Nat → Int) : Nat → Nat
  | 0 => 0
  | k + 1 => if c k < c (argm c k) then k else argm c k

/-- The level that is nearest. -/
def nearC (n : Int) (b : Int) (v : Nat) : Int := (wideV v b - n) * (wideV v b - n)
def nearV (n bits : Int) : Int := if 1 ≤ bits ∧ bits ≤ 8 then (argm (nearC n bits) (2 ^ bits.toNat) : Int) else 0

def clampV (n most : Int) : Int := max 0 (min n most)
def mixV (a b k of_ add : Int) : Int := if of_ < 1 then 0 else (a * (of_ - k) + b * k + add) / of_

/-- How far a number is from all of some. -/
def sumV (x : Int) : List Int → Int
  | [] => 0
  | n :: l => (x - n) * (x - n) + sumV x l
theorem tmod_neg (n o : Int) (ho : 1 ≤ o) (h : n.tmod o < 0) : n.tmod o + o = n % o ∧ n.tdiv o - 1 = n / o := by
  rw [Int.tmod_eq_emod] at h ⊢
  rw [Int.tdiv_eq_ediv]
  have hs : o.sign = 1 := Int.sign_eq_one_of_pos (by omega)
  have := Int.emod_nonneg n (show o ≠ 0 by omega)
  split at h
  · omega
  · rename_i h0
    rw [if_neg h0, if_neg h0]
    omega
theorem tmod_pos (n o : Int) (ho : 1 ≤ o) (h : 0 ≤ n.tmod o) : n.tmod o = n % o ∧ n.tdiv o = n / o := by
  rw [Int.tmod_eq_emod] at h ⊢
  rw [Int.tdiv_eq_ediv]
  have := Int.emod_lt_of_pos n (show 0 < o by omega)
  split at h
  · rename_i h0
    rw [if_pos h0, if_pos h0]
    omega
  · omega
theorem ediv_bd (n o B : Int) (ho : 1 ≤ o) (h0 : -B ≤ n) (h1 : n ≤ B) (hB : 0 ≤ B) : -B ≤ n / o ∧ n / o ≤ B := by
  constructor
  · apply Int.le_ediv_of_mul_le (by omega)
    have := Int.mul_le_mul_of_nonneg_left ho hB
    rw [Int.neg_mul]
    omega
  · refine Int.le_of_lt_add_one (Int.ediv_lt_of_lt_mul (by omega) ?_)
    have := Int.mul_le_mul_of_nonneg_left ho (show 0 ≤ B + 1 by omega)
    omega
theorem floor_sub (n o : Int) (ho : 1 ≤ o) : (n - n % o).tdiv o = n / o := by
  rw [show n - n % o = o * (n / o) from by have := Int.mul_ediv_add_emod n o; omega]
  exact Int.mul_tdiv_cancel_left _ (by omega)
theorem mul_bd (x y : Int) (A B : Nat) (h0 : -A ≤ x) (h1 : x ≤ A) (h2 : -B ≤ y) (h3 : y ≤ B) : -((A * B : Nat) : Int) ≤ x * y ∧ x * y ≤ ((A * B : Nat) : Int) := by
  have h := Nat.mul_le_mul (show x.natAbs ≤ A by omega) (show y.natAbs ≤ B by omega)
  rw [← Int.natAbs_mul] at h
  omega
end Lv
end Go.Proofs.YtgcijioiicmjiaaDoor
set_option linter.all false
namespace Go.Proofs.YtgcijioiicmjiaaDoor
open Go.RowKit
open Lv

theorem isWidth_any (b : Int) (w : World) :
    Calls Tryd.prog 81 #[.int .i64 b] w fun e w' => e = .returned (.bool (decide (1 ≤ b ∧ b ≤ 8))) ∧ w = w' := by
  by_cases h1 : 1 ≤ b <;> by_cases h2 : b ≤ 8
  all_goals
    go_enter Tryd.func81, Tryd.ntmps81
    go_wp2
    go_ret
    exact ⟨ret_bool (by simp [h1, h2]), rfl⟩

theorem rmod_any (n o : Int) (w : World) (ho : 1 ≤ o) (h2 : o ≤ 9223372036854775807) :
    Calls Tryd.prog 73 #[.int .i64 n, .int .i64 o] w fun e w' => e = .returned (.int .i64 (n % o)) ∧ w = w' := by
  have hlo := Lib.hid (Int.emod_nonneg n (show o ≠ 0 by omega))
  have hhi := Lib.hid (Int.emod_lt_of_pos n (show 0 < o by omega))
  go_enter Tryd.func73, Tryd.ntmps73
  go_wp2
  · rename_i h
    go_ret
    have := (tmod_neg n o ho h).1
    have := hlo.out
    have := hhi.out
    exact ⟨ret_int (by rw [wrap64_small _ (by omega) (by omega)]; omega), rfl⟩
  · rename_i h
    go_ret
    exact ⟨ret_int (tmod_pos n o ho h).1, rfl⟩

/-- A number that is small. -/
def sm (z : Int) : Prop := -1048576 ≤ z ∧ z ≤ 1048576
theorem mix_num (a b k o add : Int) (ha : sm a) (hb : sm b) (hk : sm k) (ho : sm o) (hd : sm add) :
    wrap64 (wrap64 (wrap64 (a * wrap64 (o - k)) + wrap64 (b * k)) + add) = a * (o - k) + b * k + add ∧ -8796093022208 ≤ a * (o - k) + b * k + add ∧ a * (o - k) + b * k + add ≤ 8796093022208 := by
  unfold sm at *
  have h1 := mul_bd a (o - k) 1048576 2097152 (by omega) (by omega) (by omega) (by omega)
  have h2 := mul_bd b k 1048576 1048576 (by omega) (by omega) (by omega) (by omega)
  rw [wrap64_small (o - k) (by omega) (by omega)]
  generalize a * (o - k) = p at *
  generalize b * k = q at *
  rw [wrap64_small p (by omega) (by omega), wrap64_small q (by omega) (by omega), wrap64_small (p + q) (by omega) (by omega), wrap64_small _ (by omega) (by omega)]
  omega

set_option maxHeartbeats 400000 in
theorem rmix_any (a b k o add : Int) (w : World) (ha : sm a) (hb : sm b) (hk : sm k) (ho : sm o) (hd : sm add) :
    Calls Tryd.prog 44 #[.int .i64 a, .int .i64 b, .int .i64 k, .int .i64 o, .int .i64 add] w fun e w' => e = .returned (.int .i64 (mixV a b k o add)) ∧ w = w' := by
  have hN := Lib.hid (mix_num a b k o add ha hb hk ho hd)
  have ho3 : o ≤ 1048576 := ho.2
  have ho2 : o ≤ 9223372036854775807 := by omega
  clear ha hb hk ho hd
  by_cases h1 : o < 1
  · go_enter Tryd.func44, Tryd.ntmps44
    go_wp2
    go_ret
    exact ⟨ret_int (by rw [mixV, if_pos h1]), rfl⟩
  · have h3 : 1 ≤ o := by omega
    go_enter Tryd.func44, Tryd.ntmps44
    go_wp2_with (go_at_call 73; refine (rmod_any _ o _ h3 ho2).mono ?_; rw [hN.out.1]; rintro e w' ⟨rfl, rfl⟩)
    go_ret
    obtain ⟨e1, e2, e3⟩ := hN.out
    have hlo := Int.emod_nonneg (a * (o - k) + b * k + add) (show o ≠ 0 by omega)
    have hhi := Int.emod_lt_of_pos (a * (o - k) + b * k + add) (show 0 < o by omega)
    have hq := ediv_bd _ o 8796093022208 (by omega) e2 e3 (by omega)
    refine ⟨ret_int ?_, rfl⟩
    rw [mixV, if_neg (show ¬ o < 1 by omega), wrap64_small (_ - _) (by omega) (by omega), floor_sub _ _ h3, wrap64_small _ (by omega) (by omega)]
theorem and_mask (v : Int) (b : Nat) (hb : b ≤ 8) : bits .and .i64 v (wrap64 (wrap64 (2 ^ b) - 1)) = (((v % 2 ^ b).toNat : Nat) : Int) := by
  have h1 : 2 ^ b ≤ 2 ^ 8 := Nat.pow_le_pow_right (by omega) hb
  have h0 : 0 < 2 ^ b := Nat.two_pow_pos b
  have e0 : (2 : Int) ^ b = ((2 ^ b : Nat) : Int) := by simp
  rw [e0, wrap64_small ((2 ^ b : Nat) : Int) (by omega) (by omega), wrap64_small _ (by omega) (by omega), show ((2 ^ b : Nat) : Int) - 1 = ((2 ^ b - 1 : Nat) : Int) from by omega]
  show IntKind.i64.wrap ((BitVec.ofInt 64 v &&& BitVec.ofInt 64 ((2 ^ b - 1 : Nat) : Int)).toNat : Int) = _
  rw [BitVec.toNat_and, ofInt_i64 _ (by omega), Nat.and_two_pow_sub_one_eq_mod, BitVec.toNat_ofInt]
  have h2 : (v % ((2 ^ 64 : Nat) : Int)).toNat % 2 ^ b = (v % ((2 ^ b : Nat) : Int)).toNat := by
    have hd : ((2 ^ b : Nat) : Int) ∣ ((2 ^ 64 : Nat) : Int) := Int.natCast_dvd_natCast.2 (Nat.pow_dvd_pow 2 (by omega))
    have := Int.emod_emod_of_dvd v hd
    apply Int.ofNat.inj
    show (((v % ((2 ^ 64 : Nat) : Int)).toNat % 2 ^ b : Nat) : Int) = ((v % ((2 ^ b : Nat) : Int)).toNat : Int)
    rw [Int.natCast_emod, Int.toNat_of_nonneg (Int.emod_nonneg _ (by decide)), Int.toNat_of_nonneg (Int.emod_nonneg _ (by omega)), this]
  rw [h2]
  have h3 : (v % ((2 ^ b : Nat) : Int)).toNat < 2 ^ b := by
    have := Int.emod_lt_of_pos v (show (0 : Int) < ((2 ^ b : Nat) : Int) by omega)
    have := Int.emod_nonneg v (show ((2 ^ b : Nat) : Int) ≠ 0 by omega)
    omega
  rw [IntKind.wrap_i64]
  omega

theorem shl_or (x v b : Nat) (hb : b ≤ 8) (hv : v < 2 ^ b) (hx : x < 65536) : bits .or .i64 (wrap64 ((x : Int) * 2 ^ b)) (v : Int) = ((x * 2 ^ b + v : Nat) : Int) := by
  have h1 : 2 ^ b ≤ 2 ^ 8 := Nat.pow_le_pow_right (by omega) hb
  have h2 : x * 2 ^ b ≤ 65536 * 2 ^ 8 := Nat.mul_le_mul (by omega) h1
  rw [show (x : Int) * 2 ^ b = ((x * 2 ^ b : Nat) : Int) from by simp, wrap64_small _ (by omega) (by omega), i64_or_nat _ _ (by omega) (by omega)]
  congr 1
  rw [Nat.mul_comm, Nat.two_pow_add_eq_or_of_lt hv]

set_option maxHeartbeats 400000 in
theorem wide_no (v bits : Int) (w : World) (hb : ¬ (1 ≤ bits ∧ bits ≤ 8)) :
    Calls Tryd.prog 53 #[.int .i64 v, .int .i64 bits] w fun e w' => e = .returned (.int .i64 (wideV v bits)) ∧ w = w' := by
  rw [wideV_no hb]
  have hd := Lib.hid (show decide (1 ≤ bits ∧ bits ≤ 8) = false from by simpa using hb)
  clear hb
  go_enter Tryd.func53, Tryd.ntmps53
  go_wp2_with (go_at_call 81; refine (isWidth_any _ _).mono ?_; rw [hd.out]; rintro e w' ⟨rfl, rfl⟩)
  go_ret
  exact ⟨rfl, rfl⟩

set_option maxHeartbeats 1000000 in
theorem wide_ok (v : Int) (b : Nat) (w : World) (hb : 1 ≤ b) (hb8 : b ≤ 8) :
    Calls Tryd.prog 53 #[.int .i64 v, .int .i64 b] w fun e w' => e = .returned (.int .i64 (wideV v b)) ∧ w = w' := by
  have hW := Lib.hid (show wideV v b = (wN b (v % 2 ^ b).toNat : Int) from by rw [wideV, if_pos (by omega)]; simp)
  have hM := Lib.hid (and_mask v b hb8)
  have hx := Lib.hid (modp v b).2
  generalize (v % 2 ^ b).toNat = x at *
  have hp8 : 2 ^ b ≤ 2 ^ 8 := Nat.pow_le_pow_right (by omega) hb8
  go_enter Tryd.func53, Tryd.ntmps53
  go_wp2_with (go_at_call 81; refine (isWidth_any _ _).mono ?_; rw [show decide (1 ≤ (b : Int) ∧ (b : Int) ≤ 8) = true from by simp; omega]; rintro e w' ⟨rfl, rfl⟩)
  rw [hM.out]
  go_loop [5, 6] (fun t i => ∃ y h f : Nat, h < 16 ∧ i = .int .i64 h ∧ t = .int .i64 y ∧ Hid (y < 2 ^ h ∧ (1 ≤ f ∧ 8 < f + h) ∧ wGo b x f y h = wN b x)) (fun _ i => 16 - (intOf i).toNat)
  case atStart => exact ⟨x, b, 9, by omega, rfl, rfl, ⟨hx.out, by omega, rfl⟩⟩
  case round =>
    obtain ⟨y, h, f, hh, rfl, rfl, hI⟩ := hrel
    obtain ⟨i1, i2, i3⟩ := hI.out
    have hy : y < 65536 := Nat.lt_of_lt_of_le i1 (Nat.pow_le_pow_right (n := 2) (by omega) (show h ≤ 16 by omega))
    have hS := Lib.hid (shl_or y x b hb8 hx.out hy)
    have hN := Lib.hid (show y * 2 ^ b + x < 2 ^ (h + b) from by
      have h4 := hx.out
      rw [Nat.pow_add]
      have := Nat.mul_le_mul_right (2 ^ b) (show y + 1 ≤ 2 ^ h from i1)
      rw [Nat.add_mul] at this
      omega)
    clear i1 i2 i3
    by_cases hlt : h < 8
    · go_wp2
      go_round
      case rel =>
        obtain ⟨i1, i2, i3⟩ := hI.out
        obtain ⟨g, rfl⟩ : ∃ g, f = g + 1 := ⟨f - 1, by omega⟩
        refine ⟨y * 2 ^ b + x, h + b, g, by omega, by go_num, ?_, ⟨hN.out, by omega, ?_⟩⟩
        · rw [hS.out]
        · rw [wGo, if_pos hlt] at i3
          exact i3
      case measure => simp [intOf]; omega
    · go_wp2
      go_ret
      refine ⟨ret_int ?_, rfl⟩
      obtain ⟨i1, i2, i3⟩ := hI.out
      obtain ⟨g, rfl⟩ : ∃ g, f = g + 1 := ⟨f - 1, by omega⟩
      rw [wGo, if_neg hlt] at i3
      rw [hW.out, ← i3]
      simp
theorem wide_any (v bits : Int) (w : World) :
    Calls Tryd.prog 53 #[.int .i64 v, .int .i64 bits] w fun e w' => e = .returned (.int .i64 (wideV v bits)) ∧ w = w' := by
  by_cases hb : 1 ≤ bits ∧ bits ≤ 8
  · obtain ⟨b, rfl⟩ := Int.eq_ofNat_of_zero_le (show 0 ≤ bits by omega)
    exact wide_ok v b w (by omega) (by omega)
  · exact wide_no v bits w hb

set_option maxHeartbeats 400000 in
theorem clamp_any (n most : Int) (w : World) :
    Calls Tryd.prog 42 #[.int .i64 n, .int .i64 most] w fun e w' => e = .returned (.int .i64 (clampV n most)) ∧ w = w' := by
  go_enter Tryd.func42, Tryd.ntmps42
  go_wp2
  all_goals
    go_ret
    exact ⟨ret_int (by unfold clampV; split at * <;> omega), rfl⟩
set_option maxHeartbeats 400000 in
theorem rclamp_any (n most : Int) (w : World) :
    Calls Tryd.prog 43 #[.int .i64 n, .int .i64 most] w fun e w' => e = .returned (.int .i64 (clampV n most)) ∧ w = w' := by
  by_cases h1 : n > most
  · by_cases h2 : most < 0
    all_goals
      go_enter Tryd.func43, Tryd.ntmps43
      go_wp2
      go_ret
      exact ⟨ret_int (by unfold clampV; omega), rfl⟩
  · by_cases h2 : n < 0
    all_goals
      go_enter Tryd.func43, Tryd.ntmps43
      go_wp2
      go_ret
      exact ⟨ret_int (by unfold clampV; omega), rfl⟩
end Go.Proofs.YtgcijioiicmjiaaDoor
set_option linter.all false
namespace Go.Proofs.YtgcijioiicmjiaaDoor
open Go.RowKit
open Lv

end Go.Proofs.YtgcijioiicmjiaaDoor
