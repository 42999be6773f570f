/- A block of mode 4 or 5 with another turn: what its texels are. -/
import Derived.Test.YtpmkofceieiipaaDoorB7Awake
import Derived.Test.YtpmkofceieiipaaDoorB7End6
set_option linter.all false
namespace Go.Proofs.YtpmkofceieiipaaDoor.B7
open Bi Lv Bt

/-- All bits but those from p to p + m are as they were. -/
theorem bt_st (xs : List Nat) (p m N i : Nat) (h : i < p ∨ p + m ≤ i) : bt (st xs false p m N) false i = bt xs false i := by
  unfold st
  rcases Nat.lt_or_ge i (8 * xs.length) with h1 | h1
  · rw [lay_bit _ _ _ _ _ _ h1, if_neg (by omega)]
  · unfold bt
    rw [List.getD_eq_getElem?_getD, List.getD_eq_getElem?_getD, List.getElem?_eq_none (by rw [lay_length]; omega), List.getElem?_eq_none (by omega)]
theorem getN_st (xs : List Nat) (p m N q n : Nat) (h : q + n ≤ p ∨ p + m ≤ q) : getN (st xs false p m N) false q n = getN xs false q n := by
  unfold getN
  refine nm_congr fun k hk => ?_
  simp only [Bool.false_eq_true, if_false]
  exact bt_st xs p m N (q + k) (by omega)
theorem getN_self (xs : List Nat) (p m N : Nat) (hN : N < 2 ^ m) (hp : p + m ≤ 8 * xs.length) : getN (st xs false p m N) false p m = N := by
  refine (nm_eq hN fun k hk => ?_).symm
  simp only [Bool.false_eq_true, if_false]
  unfold st
  rw [lay_bit _ _ _ _ _ _ (by omega), if_pos (by omega), show p + k - p = k by omega]
  simp
theorem modeN_st (xs : List Nat) (k N : Nat) (hk : k < 8) (h : modeN (xs.getD 0 0) = k) : modeN ((st xs false (k + 1) 2 N).getD 0 0) = k := by
  have hbit : ∀ j, j < 8 → j < k + 1 → ((st xs false (k + 1) 2 N).getD 0 0).testBit j = (xs.getD 0 0).testBit j := fun j hj h1 => by
    have e := bt_st xs (k + 1) 2 N j (.inl h1)
    unfold bt pl at e
    rw [show j / 8 = 0 by omega, show j % 8 = j by omega] at e
    simpa using e
  have hall : ∀ j, j < k → (xs.getD 0 0).testBit j = false := fun j hj => by
    rcases Bool.eq_false_or_eq_true ((xs.getD 0 0).testBit j) with e | e
    · exfalso
      have : ∀ d, ∀ j, j < 8 → j + d = k → d ≠ 0 → (xs.getD 0 0).testBit j = true → False := by
        intro d j hj8 hd hd0 hb
        -- the first bit that is 1 stands at j or ahead of it
        have hex : ∃ q, q ≤ j ∧ (xs.getD 0 0).testBit q = true ∧ ∀ r, r < q → (xs.getD 0 0).testBit r = false := by
          clear hd hd0
          induction j using Nat.strongRecOn with
          | ind j ih =>
            by_cases hr : ∃ r, r < j ∧ (xs.getD 0 0).testBit r = true
            · obtain ⟨r, hr1, hr2⟩ := hr
              obtain ⟨q, hq1, hq2, hq3⟩ := ih r hr1 (by omega) hr2
              exact ⟨q, by omega, hq2, hq3⟩
            · exact ⟨j, Nat.le_refl _, hb, fun r hr1 => by
                rcases Bool.eq_false_or_eq_true ((xs.getD 0 0).testBit r) with e2 | e2
                · exact absurd ⟨r, hr1, e2⟩ hr
                · exact e2⟩
        obtain ⟨q, hq1, hq2, hq3⟩ := hex
        have := modeN_at (x := xs.getD 0 0) (k := q) (by omega) hq3 hq2
        omega
      exact this (k - j) j (by omega) (by omega) (by omega) e
    · exact e
  have hone : (xs.getD 0 0).testBit k = true := by
    rcases Bool.eq_false_or_eq_true ((xs.getD 0 0).testBit k) with e | e
    · exact e
    · exfalso
      by_cases hn : ∀ j, j < 8 → (xs.getD 0 0).testBit j = false
      · have := modeN_none hn
        omega
      · have hex : ∃ q, q < 8 ∧ (xs.getD 0 0).testBit q = true ∧ ∀ r, r < q → (xs.getD 0 0).testBit r = false := by
          have hx : ∃ q, q < 8 ∧ (xs.getD 0 0).testBit q = true := by
            by_cases hc : ∃ q, q < 8 ∧ (xs.getD 0 0).testBit q = true
            · exact hc
            · exact absurd (fun j hj => by
                rcases Bool.eq_false_or_eq_true ((xs.getD 0 0).testBit j) with e2 | e2
                · exact absurd ⟨j, hj, e2⟩ hc
                · exact e2) hn
          obtain ⟨q, hq1, hq2⟩ := hx
          induction q using Nat.strongRecOn with
          | ind q ih =>
            by_cases hr : ∃ r, r < q ∧ (xs.getD 0 0).testBit r = true
            · obtain ⟨r, hr1, hr2⟩ := hr
              exact ih r hr1 (by omega) hr2
            · exact ⟨q, hq1, hq2, fun r hr1 => by
                rcases Bool.eq_false_or_eq_true ((xs.getD 0 0).testBit r) with e2 | e2
                · exact absurd ⟨r, hr1, e2⟩ hr
                · exact e2⟩
        obtain ⟨q, hq1, hq2, hq3⟩ := hex
        have := modeN_at hq1 hq3 hq2
        rw [h] at this
        subst this
        rw [hq2] at e
        cases e
  exact modeN_at hk (fun j hj => by rw [hbit j (by omega) (by omega)]; exact hall j hj) (by rw [hbit k hk (by omega)]; exact hone)
theorem cb_ge (m : Md) (p c : Nat) : p ≤ cb m p c := cb_mono m p 0 c (by omega)
theorem ipos_ge (p F : Nat) (l : Nat → Bool) (i : Nat) : p ≤ ipos p F l i := ipos_mono p F l 0 i (by omega)
section
variable {m : Md} {xs ys : List Nat} {p : Nat} (h : ∀ q n, p + m.W + m.T ≤ q → getN ys false q n = getN xs false q n) (hw : getN ys false p m.W = getN xs false p m.W)
include h
theorem G_same (q n : Nat) (hq : p + m.W + m.T ≤ q) : G ys q n = G xs q n := by unfold G; rw [h q n hq]
theorem enV_same (q : Nat) (hq : p + m.W + m.T ≤ q) : enV m ys q = enV m xs q := by
  have e : epV m ys q = epV m xs q := by
    funext i
    have hn : ∀ c, num m ys q i c = num m xs q i c := fun c => by
      unfold num
      exact G_same h _ _ (by have := cb_ge m q c; omega)
    have ho : mo m ys (cb m q 4) i = mo m xs (cb m q 4) i := by
      unfold mo
      refine G_same h _ _ ?_
      have := cb_ge m q 4
      unfold mat
      split <;> omega
    unfold epV nums
    rw [hn, hn, hn, hn, ho]
  unfold enV
  rw [e]
theorem wtV_same (q F : Nat) (l : Nat → Bool) (hq : p + m.W + m.T ≤ q) : wtV ys q F l = wtV xs q F l := by
  unfold wtV
  refine List.map_congr_left fun i _ => ?_
  rw [h _ _ (Nat.le_trans hq (ipos_ge q F l i))]
include hw
theorem tile_same : tileV m ys p = fl (List.replicate 64 0) (txV (enV m xs (q1 m p)) (cwV m xs p) (awV m xs p) (ptN m xs p) (G ys (p + m.W) m.T)) 16 := by
  have hq1 : p + m.W + m.T ≤ q1 m p := by unfold q1; omega
  have hq2 : p + m.W + m.T ≤ q2 m p := by
    have := cb_ge m (q1 m p) 4
    have : cb m (q1 m p) 4 ≤ q2 m p := by unfold q2 mpos; split <;> omega
    omega
  have hwn : wayN m ys p = wayN m xs p := hw
  have h3 : q3 m ys p = q3 m xs p := by unfold q3; rw [hwn]
  have hq3 : p + m.W + m.T ≤ q3 m xs p := by unfold q3; exact Nat.le_trans hq2 (ipos_ge _ _ _ _)
  have hc0 : cw0 m ys p = cw0 m xs p := by unfold cw0; rw [hwn, wtV_same h _ _ _ hq2]
  have ha0 : aw0 m ys p = aw0 m xs p := by unfold aw0; rw [hc0, h3, wtV_same h _ _ _ hq3]
  have hch : chN m ys p = chN m xs p := by unfold chN; exact G_same h _ _ (Nat.le_refl _)
  have hcw : cwV m ys p = cwV m xs p := by unfold cwV; rw [hch, hc0, ha0]
  have haw : awV m ys p = awV m xs p := by unfold awV; rw [hch, hc0, ha0]
  have hpt : ptN m ys p = ptN m xs p := by funext i; unfold ptN; rw [hwn]
  unfold tileV
  rw [enV_same h _ hq1, hcw, haw, hpt]
end
theorem md_45 : ∀ k, k = 4 ∨ k = 5 → (md k).W = 0 ∧ (md k).T = 2 := by
  intro k hk
  rcases hk with rfl | rfl <;> exact ⟨rfl, rfl⟩
/-- The texels before any turn. -/
def baV (xs : List Nat) (k i : Nat) : List Int := txV (enV (md k) xs (q1 (md k) (k + 1))) (cwV (md k) xs (k + 1)) (awV (md k) xs (k + 1)) (ptN (md k) xs (k + 1)) 0 i
theorem baV_length (xs : List Nat) (k i : Nat) : (baV xs k i).length = 4 := txV_length _ _ _ _ _ _
theorem dec_st (xs : List Nat) (k N : Nat) (hk : k = 4 ∨ k = 5) (hm : modeN (xs.getD 0 0) = k) (hN : N < 4) (hl : xs.length = 16) : decV (st xs false (k + 1) 2 N) = fl (List.replicate 64 0) (fun i => tuV (baV xs k i) (N : Int)) 16 := by
  have h8 : k < 8 := by omega
  have hm' := modeN_st xs k N h8 hm
  obtain ⟨hW, hT⟩ := md_45 k hk
  unfold decV
  simp only
  rw [hm', if_neg (by omega)]
  have hG : G (st xs false (k + 1) 2 N) (k + 1 + (md k).W) (md k).T = (N : Int) := by
    rw [hW, hT]
    unfold G
    rw [Nat.add_zero, getN_self xs (k + 1) 2 N hN (by omega)]
  rw [tile_same (m := md k) (xs := xs) (ys := st xs false (k + 1) 2 N) (p := k + 1) (fun q n hq => getN_st xs (k + 1) 2 N q n (.inr (by rw [hW, hT] at hq; omega))) (by
    rw [hW]
    have h1 := getN_lt (st xs false (k + 1) 2 N) false (k + 1) 0 0 (Nat.le_refl _)
    have h2 := getN_lt xs false (k + 1) 0 0 (Nat.le_refl _)
    omega), hG]
  rfl
/-- The texels with the first i of them exchanged. -/
def swP (T U : List Int) (i : Nat) : List Int := (List.range 64).map fun j => if j / 4 < i then U.getD j 0 else T.getD j 0
theorem swP_length (T U : List Int) (i : Nat) : (swP T U i).length = 64 := by simp [swP]
theorem swP_getD (T U : List Int) (i j : Nat) (hj : j < 64) : (swP T U i).getD j 0 = if j / 4 < i then U.getD j 0 else T.getD j 0 := by simp [swP, hj]
theorem swP_zero (T U : List Int) (hT : T.length = 64) : swP T U 0 = T := by
  refine getD_ext (by rw [swP_length, hT]) fun j hj => ?_
  rw [swP_length] at hj
  rw [swP_getD _ _ _ _ hj, if_neg (by omega)]
theorem swP_all (T U : List Int) (hU : U.length = 64) : swP T U 16 = U := by
  refine getD_ext (by rw [swP_length, hU]) fun j hj => ?_
  rw [swP_length] at hj
  rw [swP_getD _ _ _ _ hj, if_pos (by omega)]
theorem swP_step (T U : List Int) (i t : Nat) (hi : i < 16) (ht : t < 3) (h1 : U.getD (i * 4 + 3) 0 = T.getD (i * 4 + t) 0) (h2 : U.getD (i * 4 + t) 0 = T.getD (i * 4 + 3) 0) (h3 : ∀ c, c < 3 → c ≠ t → U.getD (i * 4 + c) 0 = T.getD (i * 4 + c) 0) :
    ((swP T U i).set (i * 4 + 3) (T.getD (i * 4 + t) 0)).set (i * 4 + t) (T.getD (i * 4 + 3) 0) = swP T U (i + 1) := by
  refine getD_ext (by rw [List.length_set, List.length_set, swP_length, swP_length]) fun j hj => ?_
  rw [List.length_set, List.length_set, swP_length] at hj
  rw [swP_getD _ _ _ _ hj, List.getD_eq_getElem?_getD, List.getElem?_set, List.length_set, swP_length]
  by_cases e1 : i * 4 + t = j
  · subst e1
    rw [if_pos rfl, if_pos (by omega), if_pos (by omega), h2]
    rfl
  · rw [if_neg e1, List.getElem?_set, swP_length]
    by_cases e2 : i * 4 + 3 = j
    · subst e2
      rw [if_pos rfl, if_pos (by omega), if_pos (by omega), h1]
      rfl
    · rw [if_neg e2, ← List.getD_eq_getElem?_getD, swP_getD _ _ _ _ hj]
      by_cases e3 : j / 4 < i
      · rw [if_pos e3, if_pos (by omega)]
      · rw [if_neg e3]
        by_cases e4 : j / 4 < i + 1
        · rw [if_pos e4]
          have hc := h3 (j - i * 4) (by omega) (by omega)
          rw [show i * 4 + (j - i * 4) = j by omega] at hc
          exact hc.symm
        · rw [if_neg e4]
/-- What an exchange does to one texel. -/
theorem tuV_get (b : List Int) (t : Nat) (hb : b.length = 4) (ht : t < 3) : (tuV b ((t : Int) + 1)).getD 3 0 = b.getD t 0 ∧ (tuV b ((t : Int) + 1)).getD t 0 = b.getD 3 0 ∧ ∀ c, c < 3 → c ≠ t → (tuV b ((t : Int) + 1)).getD c 0 = b.getD c 0 := by
  match b, hb with
  | [x, y, z, u], _ =>
    obtain rfl | rfl | rfl : t = 0 ∨ t = 1 ∨ t = 2 := by omega
    · exact ⟨rfl, rfl, fun c h1 h2 => by obtain rfl | rfl : c = 1 ∨ c = 2 := by omega
                                         all_goals rfl⟩
    · exact ⟨rfl, rfl, fun c h1 h2 => by obtain rfl | rfl : c = 0 ∨ c = 2 := by omega
                                         all_goals rfl⟩
    · exact ⟨rfl, rfl, fun c h1 h2 => by obtain rfl | rfl : c = 0 ∨ c = 1 := by omega
                                         all_goals rfl⟩
theorem rows_get (f : Nat → List Int) (hf : ∀ i, (f i).length = 4) (i c : Nat) (hi : i < 16) (hc : c < 4) : (fl (List.replicate 64 0) f 16).getD (i * 4 + c) 0 = (f i).getD c 0 := by
  rw [fl_getD _ f hf 16 (by simp), if_pos (by omega), show (i * 4 + c) / 4 = i by omega, show (i * 4 + c) % 4 = c by omega]
end Go.Proofs.YtpmkofceieiipaaDoor.B7
