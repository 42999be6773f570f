/- B7Lp, B7Ix, B7Tx: merged. -/
import Derived.Test.YtnoailihkjccbaaDoorB7Rpl
import Derived.Test.YtnoailihkjccbaaDoorB7Mode
import Derived.Deep.DeepCutAuto
import Derived.StillTailTactics
set_option linter.all false
namespace Go.Proofs.YtnoailihkjccbaaDoor

def loopsC : Code → List Code
  | .loop c => .loop c :: loopsC c
  | .seq a b => loopsC a ++ loopsC b
  | .block _ c => loopsC c
  | .scope c => loopsC c
  | .cond _ a b => loopsC a ++ loopsC b
  | _ => []
noncomputable def lp9 (n : Nat) : Code := ((Tryd.f10.body.map loopsC).getD []).getD n .skip
/-- Of all ends that one alone. -/
def onlyExit (n : Nat) (K : Act → World → Prop) : Exit → Act → World → Prop
  | .exit id, a, w => id = n ∧ K a w
  | _, _, _ => False
theorem onlyExit_intro {n : Nat} {K : Act → World → Prop} {a : Act} {w : World} (h : K a w) : onlyExit n K (.exit n) a w := ⟨rfl, h⟩
theorem wp_only {P : Program} {c : Code} {Q : Exit → Act → World → Prop} {a : Act} {w : World} {n : Nat} {K : Act → World → Prop} (h : c.wp P (onlyExit n K) a w) (hk : ∀ a' w', K a' w' → Q (.exit n) a' w') : c.wp P Q a w := by
  refine wp_mono h ?_
  intro e a' w' hq
  cases e with
  | exit id => exact hq.1 ▸ hk _ _ hq.2
  | normal => exact hq.elim
  | goto l => exact hq.elim
  | ret => exact hq.elim
  | panic ch => exact hq.elim
  | outgrown => exact hq.elim
theorem wp_only' {P : Program} {c : Code} {Q : Exit → Act → World → Prop} {a : Act} {w : World} {n : Nat} (h : c.wp P (onlyExit n (fun a w => Q (.exit n) a w)) a w) : c.wp P Q a w := wp_only h fun _ _ k => k
end Go.Proofs.YtnoailihkjccbaaDoor
set_option linter.all false
namespace Go.Proofs.YtnoailihkjccbaaDoor.B7
open Bi Lv Bt

/-- The first k numbers of texels, the others 0. -/
def ixN (xs : List Nat) (p F : Nat) (l : Nat → Bool) (i : Nat) : Nat := getN xs false (ipos p F l i) (F - b1 (l i))
def ixP (xs : List Nat) (p F : Nat) (l : Nat → Bool) (k : Nat) : List Int := (List.range 16).map fun i => if i < k then ((ixN xs p F l i : Nat) : Int) else 0
theorem ixP_length (xs : List Nat) (p F : Nat) (l : Nat → Bool) (k : Nat) : (ixP xs p F l k).length = 16 := by simp [ixP]
theorem ixP_getD (xs : List Nat) (p F : Nat) (l : Nat → Bool) (k j : Nat) (h : j < 16) : (ixP xs p F l k).getD j 0 = if j < k then ((ixN xs p F l j : Nat) : Int) else 0 := by simp [ixP, h]
theorem z16_getD (j : Nat) (h : j < 16) : Bc.z16.getD j 0 = 0 := by
  have : ∀ j, j < 16 → Bc.z16.getD j 0 = 0 := by decide
  exact this j h
theorem ixP_zero (xs : List Nat) (p F : Nat) (l : Nat → Bool) : ixP xs p F l 0 = Bc.z16 := by
  refine getD_ext (by rw [ixP_length]; rfl) fun j hj => ?_
  rw [ixP_length] at hj
  rw [ixP_getD _ _ _ _ _ _ hj, z16_getD j hj, if_neg (by omega)]
theorem ixP_set (xs : List Nat) (p F : Nat) (l : Nat → Bool) (k : Nat) (hk : k < 16) : (ixP xs p F l k).set k ((ixN xs p F l k : Nat) : Int) = ixP xs p F l (k + 1) := by
  refine getD_ext (by rw [List.length_set, ixP_length, ixP_length]) fun j hj => ?_
  rw [List.length_set, ixP_length] at hj
  rw [ixP_getD _ _ _ _ _ _ hj]
  by_cases h : k = j
  · subst h
    rw [if_pos (by omega)]
    simp [List.getD_eq_getElem?_getD, ixP_length, hk]
  · have e : ((ixP xs p F l k).set k ((ixN xs p F l k : Nat) : Int)).getD j 0 = (ixP xs p F l k).getD j 0 := by
      simp [List.getD_eq_getElem?_getD, List.getElem?_set, h]
    rw [e, ixP_getD _ _ _ _ _ _ hj]
    by_cases h2 : j < k
    · rw [if_pos h2, if_pos (by omega)]
    · rw [if_neg h2, if_neg (by omega)]
/-- Is a bit lacking, as far as the parts ahead of j tell? -/
def lessL (P wy i j : Nat) : Int := ((b1 (decide (i = 0) || (decide (1 < j) && decide (anchorV P wy 1 = i)) || (decide (2 < j) && decide (anchorV P wy 2 = i))) : Nat) : Int)
theorem lessL_one (P wy i : Nat) : lessL P wy i 1 = ((b1 (decide (i = 0)) : Nat) : Int) := by unfold lessL; simp
theorem lessL_step (P wy i j : Nat) (h1 : 1 ≤ j) (h2 : j < 3) : lessL P wy i (j + 1) = if anchorV P wy j = (i : Int) then 1 else lessL P wy i j := by
  obtain rfl | rfl : j = 1 ∨ j = 2 := by omega
  · show ((b1 (decide (i = 0) || (true && decide (anchorV P wy 1 = i)) || (false && _)) : Nat) : Int) = if anchorV P wy ((1 : Nat) : Int) = (i : Int) then 1 else ((b1 (decide (i = 0) || (false && _) || (false && _)) : Nat) : Int)
    by_cases h : anchorV P wy 1 = (i : Int)
    · rw [if_pos (by exact h), decide_eq_true h]; simp [b1]
    · rw [if_neg (by exact h), decide_eq_false h]; simp
  · show ((b1 (decide (i = 0) || (true && decide (anchorV P wy 1 = i)) || (true && decide (anchorV P wy 2 = i))) : Nat) : Int) = if anchorV P wy ((2 : Nat) : Int) = (i : Int) then 1 else ((b1 (decide (i = 0) || (true && decide (anchorV P wy 1 = i)) || (false && _)) : Nat) : Int)
    by_cases h : anchorV P wy 2 = (i : Int)
    · rw [if_pos (by exact h), decide_eq_true h]; simp [b1]
    · rw [if_neg (by exact h), decide_eq_false h]; simp
theorem lessL_all (P wy i : Nat) (h : P < 4) (h1 : 1 ≤ P) (hw : wy < 64) (hi : i < 16) : lessL P wy i P = ((b1 (isA P wy i) : Nat) : Int) := by
  rw [← rless_isA P h h1 wy hw i hi]
  rfl
theorem ipos_next (p F : Nat) (l : Nat → Bool) (i : Nat) (hi : i < 16) : ipos p F l i + (F - b1 (l i)) ≤ ipos p F l 16 := ipos_mono p F l (i + 1) 16 (by omega)
theorem ipos_end (p F : Nat) (l : Nat → Bool) (c : Nat) (hF : 1 ≤ F) (hc : cnt l 16 = c) (hcF : c ≤ 16 * F) : ipos p F l 16 = p + (16 * F - c) := by
  have := ipos_cnt p F l hF 16
  omega
/-- The second numbers. -/
def secV (m : Md) (xs : List Nat) (p : Nat) : List Int := if m.S = 0 then Bc.z16 else ixP xs p m.S is0 16
end Go.Proofs.YtnoailihkjccbaaDoor.B7
set_option linter.all false
namespace Go.Proofs.YtnoailihkjccbaaDoor.B7
open Bi Lv Bt

/-- From place o on the first c numbers of f. -/
def oP (O : List Int) (o : Nat) (f : Nat → Int) : Nat → List Int
  | 0 => O
  | c + 1 => (oP O o f c).set (o + c) (f c)
theorem oP_length (O : List Int) (o : Nat) (f : Nat → Int) : ∀ c, (oP O o f c).length = O.length
  | 0 => rfl
  | c + 1 => by rw [oP, List.length_set, oP_length O o f c]
theorem getD_set' (xs : List Int) (j k : Nat) (v : Int) (h : j < xs.length) : (xs.set j v).getD k 0 = if k = j then v else xs.getD k 0 := by
  simp only [List.getD_eq_getElem?_getD, List.getElem?_set]
  by_cases hk : k = j
  · subst hk; simp [h]
  · simp [hk, show ¬ j = k from fun h => hk h.symm]
theorem oP_getD (O : List Int) (o : Nat) (f : Nat → Int) (h : o + 4 ≤ O.length) : ∀ c, c ≤ 4 → ∀ j, (oP O o f c).getD j 0 = if o ≤ j ∧ j < o + c then f (j - o) else O.getD j 0
  | 0, _, j => by rw [oP, if_neg (by omega)]
  | c + 1, hc, j => by
    rw [oP, getD_set' _ _ _ _ (by rw [oP_length]; omega), oP_getD O o f h c (by omega) j]
    by_cases hj : j = o + c
    · rw [if_pos hj, if_pos (by omega), show j - o = c by omega]
    · rw [if_neg hj]
      by_cases h2 : o ≤ j ∧ j < o + c
      · rw [if_pos h2, if_pos (by omega)]
      · rw [if_neg h2, if_neg (by omega)]
theorem oP_four (O : List Int) (o : Nat) (f : Nat → Int) (h : o + 4 ≤ O.length) : oP O o f 4 = spl O o [f 0, f 1, f 2, f 3] := by
  refine getD_ext (by rw [oP_length, spl_length]) fun j hj => ?_
  rw [oP_getD O o f h 4 (by omega), spl_getD _ _ _ _ (by show o + 4 ≤ _; exact h)]
  show _ = if o ≤ j ∧ j < o + 4 then _ else _
  by_cases hc : o ≤ j ∧ j < o + 4
  · rw [if_pos hc, if_pos hc]
    obtain hk | hk | hk | hk : j - o = 0 ∨ j - o = 1 ∨ j - o = 2 ∨ j - o = 3 := by omega
    all_goals rw [hk]; rfl
  · rw [if_neg hc, if_neg hc]
theorem oP_turn0 (O : List Int) (o : Nat) (f : Nat → Int) (h : o + 4 ≤ O.length) : oP O o f 4 = spl O o (tuV [f 0, f 1, f 2, f 3] 0) := oP_four O o f h
theorem oP_turn (O : List Int) (o : Nat) (f : Nat → Int) (t : Nat) (ht : t < 3) (h : o + 4 ≤ O.length) : ((oP O o f 4).set (o + 3) (f t)).set (o + t) (f 3) = spl O o (tuV [f 0, f 1, f 2, f 3] ((t + 1 : Nat) : Int)) := by
  have hl : (tuV [f 0, f 1, f 2, f 3] ((t + 1 : Nat) : Int)).length = 4 := by rw [tuV_length]; rfl
  have ht' : tuV [f 0, f 1, f 2, f 3] ((t + 1 : Nat) : Int) = ([f 0, f 1, f 2, f 3].set t (f 3)).set 3 ([f 0, f 1, f 2, f 3].getD t 0) := by
    unfold tuV
    rw [if_neg (by omega), show ((t + 1 : Nat) : Int).toNat - 1 = t by omega]
    rfl
  rw [ht'] at hl ⊢
  refine getD_ext (by rw [List.length_set, List.length_set, oP_length, spl_length]) fun j hj => ?_
  rw [getD_set' _ _ _ _ (by rw [List.length_set, oP_length]; omega), getD_set' _ _ _ _ (by rw [oP_length]; omega), oP_getD O o f h 4 (by omega), spl_getD _ _ _ _ (by rw [hl]; exact h), hl]
  clear hl ht' hj
  by_cases hc : o ≤ j ∧ j < o + 4
  · simp only [if_pos hc]
    obtain ht0 | ht0 | ht0 : t = 0 ∨ t = 1 ∨ t = 2 := by omega
    all_goals
      subst ht0
      obtain hk | hk | hk | hk : j = o ∨ j = o + 1 ∨ j = o + 2 ∨ j = o + 3 := by omega
      all_goals subst hk; simp
  · rw [if_neg (by omega), if_neg (by omega), if_neg hc, if_neg hc]
/-- The four numbers between two colours. -/
def mixF (a b : List Int) (k j : Int) (c : Nat) : Int := mix64 (a.getD c 0) (b.getD c 0) (if c = 3 then j else k)
theorem mixF_bt (a b : List Int) (k j : Int) : [mixF a b k j 0, mixF a b k j 1, mixF a b k j 2, mixF a b k j 3] = btV a b k j := rfl
/-- The document's texel i. -/
def rTX (m : Md) (xs : List Nat) (p : Nat) (i : Nat) : List Int := txV (enV m xs (q1 m p)) (cwV m xs p) (awV m xs p) (ptN m xs p) (G xs (p + m.W) m.T) i
theorem tile_rTX (m : Md) (xs : List Nat) (p : Nat) : tileV m xs p = fl (List.replicate 64 0) (rTX m xs p) 16 := rfl
theorem wtV_getD (xs : List Nat) (p F : Nat) (l : Nat → Bool) (i : Nat) (hi : i < 16) : (wtV xs p F l).getD i 0 = (wl F).getD (ixN xs p F l i) 0 := by simp [wtV, hi, ixN]
/-- The numbers and their bits that a texel is mixed by. -/
def cN (m : Md) (xs : List Nat) (p i : Nat) : Nat := if chN m xs p = 1 then ixN xs (q3 m xs p) m.S is0 i else ixN xs (q2 m p) m.F (isA m.P (wayN m xs p)) i
def cB (m : Md) (xs : List Nat) (p : Nat) : Nat := if chN m xs p = 1 then m.S else m.F
def a0N (m : Md) (xs : List Nat) (p i : Nat) : Nat := if m.S = 0 then ixN xs (q2 m p) m.F (isA m.P (wayN m xs p)) i else ixN xs (q3 m xs p) m.S is0 i
def a0B (m : Md) : Nat := if m.S = 0 then m.F else m.S
def aN (m : Md) (xs : List Nat) (p i : Nat) : Nat := if chN m xs p = 1 then ixN xs (q2 m p) m.F (isA m.P (wayN m xs p)) i else a0N m xs p i
def aB (m : Md) (xs : List Nat) (p : Nat) : Nat := if chN m xs p = 1 then m.F else a0B m
theorem aw0_getD (m : Md) (xs : List Nat) (p i : Nat) (hi : i < 16) : (aw0 m xs p).getD i 0 = (wl (a0B m)).getD (a0N m xs p i) 0 := by
  unfold aw0 a0B a0N
  by_cases h : m.S = 0
  · rw [if_pos h, if_pos h, if_pos h]; exact wtV_getD _ _ _ _ _ hi
  · rw [if_neg h, if_neg h, if_neg h]; exact wtV_getD _ _ _ _ _ hi
theorem awV_getD (m : Md) (xs : List Nat) (p i : Nat) (hi : i < 16) : (awV m xs p).getD i 0 = (wl (aB m xs p)).getD (aN m xs p i) 0 := by
  unfold awV aB aN
  by_cases h : chN m xs p = 1
  · rw [if_pos h, if_pos h, if_pos h]; exact wtV_getD _ _ _ _ _ hi
  · rw [if_neg h, if_neg h, if_neg h]; exact aw0_getD _ _ _ _ hi
theorem cwV_getD (m : Md) (xs : List Nat) (p i : Nat) (hi : i < 16) (hs : chN m xs p = 1 → m.S ≠ 0) : (cwV m xs p).getD i 0 = (wl (cB m xs p)).getD (cN m xs p i) 0 := by
  unfold cwV cB cN
  by_cases h : chN m xs p = 1
  · rw [if_pos h, if_pos h, if_pos h]
    unfold aw0
    rw [if_neg (hs h)]
    exact wtV_getD _ _ _ _ _ hi
  · rw [if_neg h, if_neg h, if_neg h]; exact wtV_getD _ _ _ _ _ hi
theorem ixN_lt (xs : List Nat) (p F : Nat) (l : Nat → Bool) (i : Nat) : ixN xs p F l i < 2 ^ F := getN_lt xs false _ _ F (by omega)
end Go.Proofs.YtnoailihkjccbaaDoor.B7
