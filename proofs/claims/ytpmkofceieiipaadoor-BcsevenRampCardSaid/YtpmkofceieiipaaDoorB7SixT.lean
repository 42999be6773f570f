/- The texels of a block of Six. -/
import Derived.Test.YtpmkofceieiipaaDoorB7Awake
import Derived.Test.YtpmkofceieiipaaDoorB7Ref6
set_option linter.all false
namespace Go.Proofs.YtpmkofceieiipaaDoor.B7
open Bi Lv Bt

theorem siV_ok' {X M W : List Int} (h : okS X M W) : siV X M W = lay zz false 0 128 (sb X M W) := if_pos h
theorem getN_lay (f : Nat → Bool) (p m N : Nat) (hN : N < 2 ^ m) (h : ∀ k, k < m → N.testBit k = f (p + k)) (hp : p + m ≤ 128) : getN (lay zz false 0 128 f) false p m = N := by
  refine (nm_eq hN fun k hk => ?_).symm
  simp only [Bool.false_eq_true, if_false]
  rw [lay_bit _ _ _ _ _ _ (by show p + k < 8 * 16; omega), if_pos (by omega), Nat.sub_zero]
  exact h k hk
theorem int_lt {n : Int} {m : Nat} (h : fitsI n m) : n.toNat < 2 ^ m ∧ ((n.toNat : Nat) : Int) = n := by
  have e : ((2 ^ m : Nat) : Int) = 2 ^ m := by simp
  have h2 := h.2
  rw [← e] at h2
  have := h.1
  omega
section
variable {X M W : List Int} (ok : okS X M W)
include ok
theorem six_X (t : Nat) (ht : t < 8) : G (siV X M W) (7 + 7 * t) 7 = X.getD (fx t) 0 := by
  have hf := int_lt (ok.1.1 t ht)
  unfold G
  rw [(siV_ok' ok), getN_lay _ _ _ _ hf.1 (fun k hk => sb_X X M W t ht k hk) (by omega), hf.2]
theorem six_M (i : Nat) (hi : i < 2) : G (siV X M W) (63 + i) 1 = M.getD i 0 := by
  have hf := int_lt (ok.1.2 i hi)
  unfold G
  rw [(siV_ok' ok), getN_lay _ _ _ _ hf.1 (fun k hk => sb_M X M W i hi k hk) (by omega), hf.2]
theorem six_W (j : Nat) (hj : j < 16) : getN (siV X M W) false (wq j) (wb j) = (W.getD j 0).toNat := by
  have hf := int_lt (ok.2 j hj)
  rw [(siV_ok' ok)]
  exact getN_lay _ _ _ _ hf.1 (fun k hk => sb_W X M W j hj k hk) (by unfold wq wb; split <;> omega)
theorem six_mode : modeN ((siV X M W).getD 0 0) = 6 := by
  have h : ∀ k, k < 7 → (((siV X M W).getD 0 0).testBit k).toNat = ((64 : Nat).testBit k).toNat := fun k hk => by
    rw [← getN_bit _ k (by omega), siV_ok' ok, getN_lay _ k 1 ((64 : Nat).testBit k).toNat (by cases (64 : Nat).testBit k <;> decide) (fun j hj => by
      obtain rfl : j = 0 := by omega
      rw [Nat.add_zero]
      have hs := sb_0 X M W k hk
      rw [Nat.zero_add] at hs
      rw [← hs]
      show ((64 : Nat).testBit k).toNat.testBit 0 = (64 : Nat).testBit k
      cases (64 : Nat).testBit k <;> rfl) (by omega)]
  have hb : ∀ (a b : Bool), a.toNat = b.toNat → a = b := by decide
  refine modeN_at (by omega) (fun j hj => ?_) ?_
  · rw [hb _ _ (h j (by omega))]
    have : ∀ j, j < 6 → (64 : Nat).testBit j = false := by decide
    exact this j hj
  · rw [hb _ _ (h 6 (by omega))]
    decide
end
theorem md_6 : md 6 = m6 := by rfl
theorem cb_6 (c : Nat) (hc : c ≤ 4) : cb m6 7 c = 7 + 14 * c := by
  obtain rfl | rfl | rfl | rfl | rfl : c = 0 ∨ c = 1 ∨ c = 2 ∨ c = 3 ∨ c = 4 := by omega
  all_goals rfl
theorem wd_6 (c : Nat) : wd m6 c = 7 := by unfold wd; split <;> rfl
section
variable {X M W : List Int} (hX : X.length = 8) (ok : okS X M W)
include hX ok
theorem six_num (i c : Nat) (hi : i < 2) (hc : c < 4) : num m6 (siV X M W) 7 i c = X.getD (i * 4 + c) 0 := by
  unfold num
  rw [cb_6 c (by omega), wd_6]
  have h := six_X ok (2 * c + i) (by omega)
  rw [show 7 + 7 * (2 * c + i) = 7 + 14 * c + i * 7 by omega, show fx (2 * c + i) = i * 4 + c by unfold fx; omega] at h
  exact h
theorem six_ep (i : Nat) (hi : i < 2) : epV m6 (siV X M W) 7 i = exR X M i := by
  have hmo : mo m6 (siV X M W) (cb m6 7 4) i = M.getD i 0 := by
    unfold mo
    rw [cb_6 4 (by omega)]
    have h := six_M ok i hi
    have e : mat m6 (7 + 14 * 4) i = 63 + i := by unfold mat; rw [if_pos (show m6.O = 0 from rfl)]; show 63 + i * 1 = _; omega
    rw [e]
    exact h
  have hr : ((X.drop (i * 4)).take 4).length = 4 := by rw [List.length_take, List.length_drop]; omega
  have hn : nums m6 (siV X M W) 7 i = mkP ((X.drop (i * 4)).take 4) 4 := by
    refine getD_ext (by rw [mkP_length, hr]; rfl) fun j hj => ?_
    have hj4 : j < 4 := hj
    rw [mkP_getD _ 4 j (by omega), if_pos hj4]
    have e : ((X.drop (i * 4)).take 4).getD j 0 = X.getD (i * 4 + j) 0 := by
      rw [List.getD_eq_getElem?_getD, List.getElem?_take, if_pos hj4, List.getElem?_drop, ← List.getD_eq_getElem?_getD]
    have hf : fitsI (X.getD (i * 4 + j) 0) 7 := by
      have := ok.1.1 (2 * j + i) (by omega)
      rw [show fx (2 * j + i) = i * 4 + j by unfold fx; omega] at this
      exact this
    have hf2 : X.getD (i * 4 + j) 0 < 128 := hf.2
    rw [e, Int.emod_eq_of_lt hf.1 hf2]
    have hnum := six_num hX ok i j hi hj4
    obtain rfl | rfl | rfl | rfl : j = 0 ∨ j = 1 ∨ j = 2 ∨ j = 3 := by omega
    all_goals exact hnum
  have hM2 : M.getD i 0 % 2 = M.getD i 0 := by
    have hf := ok.1.2 i hi
    have hf2 : M.getD i 0 < 2 := hf.2
    exact Int.emod_eq_of_lt hf.1 hf2
  unfold epV
  rw [hmo, hn, ← colV6 X M hX i hi, hM2]
end
theorem isA_6 (i : Nat) (hi : i < 16) : isA 1 0 i = is0 i := by
  have h : ∀ i, i < 16 → isA 1 0 i = is0 i := by decide +kernel
  exact h i hi
theorem ipos_6 : ∀ j, j ≤ 16 → ipos 65 4 (isA 1 0) j = wq j := by decide +kernel
section
variable {X M W : List Int} (hX : X.length = 8) (ok : okS X M W)
include hX ok
theorem six_way : wayN m6 (siV X M W) 7 = 0 := by
  have := G_zero (siV X M W) 7
  unfold wayN
  unfold G at this
  show getN _ false 7 0 = 0
  omega
theorem six_cw (i : Nat) (hi : i < 16) : (cw0 m6 (siV X M W) 7).getD i 0 = w4.getD (W.getD i 0).toNat 0 := by
  unfold cw0
  rw [six_way hX ok]
  have e : (wtV (siV X M W) (q2 m6 7) m6.F (isA m6.P 0)).getD i 0 = (wl 4).getD (getN (siV X M W) false (ipos 65 4 (isA 1 0) i) (4 - b1 (isA 1 0 i))) 0 := by
    show (wtV (siV X M W) 65 4 (isA 1 0)).getD i 0 = _
    simp [wtV, hi]
  rw [e, ipos_6 i (by omega), isA_6 i hi]
  have e2 : 4 - b1 (is0 i) = wb i := by
    unfold is0 b1 wb
    by_cases h : i = 0
    · subst h; rfl
    · simp [h]
  rw [e2, six_W ok i hi]
  rfl
/-- The texels of a block of Six. -/
theorem six_tex (i : Nat) (hi : i < 16) : ((decV (siV X M W)).drop (i * 4)).take 4 = raR (exR X M 0) (exR X M 1) (W.getD i 0).toNat := by
  have hd : decV (siV X M W) = tileV m6 (siV X M W) 7 := by
    unfold decV
    simp only
    rw [six_mode ok, if_neg (by decide), md_6]
  have hch : chN m6 (siV X M W) 7 = 0 := G_zero _ _
  have hcw : cwV m6 (siV X M W) 7 = cw0 m6 (siV X M W) 7 := by unfold cwV; rw [hch, if_neg (by decide)]
  have haw : awV m6 (siV X M W) 7 = cw0 m6 (siV X M W) 7 := by unfold awV; rw [hch, if_neg (by decide)]; rfl
  rw [hd]
  unfold tileV
  rw [fl_row _ _ (fun i => txV_length _ _ _ _ _ _) 16 (by simp) i hi, hcw, haw]
  have hpt : ptN m6 (siV X M W) 7 i = 0 := by
    unfold ptN
    rw [six_way hX ok]
    have := partV_lt 1 (by omega) (by omega) 0 (by omega) i hi
    show (partV ((1 : Nat) : Int) ((0 : Nat) : Int) i).toNat = 0
    omega
  have htu : G (siV X M W) (7 + m6.W) m6.T = 0 := G_zero _ _
  have hq1 : q1 m6 7 = 7 := rfl
  unfold txV
  rw [hpt, htu, hq1, six_cw hX ok i hi]
  unfold tuV
  rw [if_pos rfl]
  unfold enV
  rw [show 2 * 0 * 4 = 0 * 4 from rfl, show (2 * 0 + 1) * 4 = 1 * 4 from rfl, show 2 * m6.P = 2 from rfl]
  rw [fl_row z24 _ (fun i => rfl) 2 (by rw [z24_length]; omega) 0 (by omega), fl_row z24 _ (fun i => rfl) 2 (by rw [z24_length]; omega) 1 (by omega), six_ep hX ok 0 (by omega), six_ep hX ok 1 (by omega)]
  rfl
end
theorem w4_turn : ∀ i, i < 16 → w4.getD (15 - i) 0 = 64 - w4.getD i 0 := by decide
theorem mix_turn (a b k : Int) : mix64 a b k = mix64 b a (64 - k) := by
  unfold mix64 mixV
  rw [if_neg (by decide), if_neg (by decide), show (64 : Int) - (64 - k) = k by omega, Int.add_comm (a * (64 - k))]
theorem ra_turn (a b : List Int) (i : Nat) (hi : i < 16) : raR a b i = raR b a (15 - i) := by
  unfold raR btV
  rw [w4_turn i hi, ← mix_turn, ← mix_turn, ← mix_turn, ← mix_turn]
theorem mix_0 (a b : Int) : mix64 a b 0 = a := by
  unfold mix64 mixV
  rw [if_neg (by decide)]
  omega
theorem mix_64 (a b : Int) : mix64 a b 64 = b := by
  unfold mix64 mixV
  rw [if_neg (by decide)]
  omega
theorem ra_row (a b : List Int) (i : Nat) (hi : i < 16) : ((raV a b).drop (i * 4)).take 4 = raR a b i := by
  unfold raV
  exact fl_row _ _ (fun _ => rfl) 16 (by rw [Bc.z64_length]; omega) i hi
theorem ra_0 (X M : List Int) (i j : Nat) : raR (exR X M i) (exR X M j) 0 = exR X M i := by
  show [mix64 _ _ 0, mix64 _ _ 0, mix64 _ _ 0, mix64 _ _ 0] = _
  rw [mix_0, mix_0, mix_0, mix_0]
  rfl
theorem ra_15 (X M : List Int) (i j : Nat) : raR (exR X M i) (exR X M j) 15 = exR X M j := by
  show [mix64 _ _ 64, mix64 _ _ 64, mix64 _ _ 64, mix64 _ _ 64] = _
  rw [mix_64, mix_64, mix_64, mix_64]
  rfl
theorem ex_row (X M : List Int) (i : Nat) (hi : i < 2) : ((exV X M).drop (i * 4)).take 4 = exR X M i := by
  unfold exV
  exact fl_row _ _ (fun _ => rfl) 2 (by show 2 * 4 ≤ 8; omega) i hi
theorem exR_sm (X M : List Int) (i j : Nat) : sm ((exR X M i).getD j 0) := by
  refine getD4_bd _ _ _ _ sm ?_ ?_ ?_ ?_ (by unfold sm; omega) j
  all_goals (unfold exE sm; omega)
end Go.Proofs.YtpmkofceieiipaaDoor.B7
