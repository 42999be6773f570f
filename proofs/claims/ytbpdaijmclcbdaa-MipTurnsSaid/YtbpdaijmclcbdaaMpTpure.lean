/- The half of a turned image is the turned half; an image of one colour, halved. -/
import Derived.Test.YtbpdaijmclcbdaaMpTurn
import Derived.Test.YtbpdaijmclcbdaaMpRchain
namespace Go.Proofs.Ytbpdaijmclcbdaa
open Im
namespace Mp

theorem snoc4 {f : Nat → Nat} {l : List Nat} {n k t ch : Nat} (hl : l.length = 4 * k) (hn : n = 4 * t + ch) (hc : ch < 4) (ht : t < k + 1) (hb : t < k → l.getD n 0 = f ch) (he : t = k → ∀ c, c < 4 → [f 0, f 1, f 2, f 3].getD c 0 = f c) (f' : Nat → Nat) (hf : t = k → ∀ c, f' c = f c) : (l ++ [f' 0, f' 1, f' 2, f' 3]).getD n 0 = f ch := by
  subst hn
  by_cases e : t = k
  · subst e
    rw [List.getD_eq_getElem?_getD, List.getElem?_append_right (by omega), hl, show 4 * t + ch - 4 * t = ch from by omega, ← List.getD_eq_getElem?_getD]
    rw [hf rfl, hf rfl, hf rfl, hf rfl]
    exact he rfl ch hc
  · rw [List.getD_eq_getElem?_getD, List.getElem?_append_left (by omega), ← List.getD_eq_getElem?_getD]
    exact hb (by omega)
theorem four_get (f : Nat → Nat) (c : Nat) (h : c < 4) : [f 0, f 1, f 2, f 3].getD c 0 = f c := by
  have : c = 0 ∨ c = 1 ∨ c = 2 ∨ c = 3 := by omega
  rcases this with rfl | rfl | rfl | rfl <;> rfl
theorem hfK_at (W H : Int) (xs : List Nat) (a : Nat) : ∀ k t ch, t < k → ch < 4 → (hfK W H xs a k).getD (4 * t + ch) 0 = hfB W H xs ((t % a : Nat) : Int) ((t / a : Nat) : Int) ch
  | 0, t, _, h, _ => absurd h (by omega)
  | k + 1, t, ch, h, hc => by
    rw [hfK, hfT]
    exact snoc4 (f := hfB W H xs ((t % a : Nat) : Int) ((t / a : Nat) : Int)) (hfK_length W H xs a k) rfl hc h (fun h' => hfK_at W H xs a k t ch h' hc) (fun _ c h => four_get _ c h) (hfB W H xs ((k % a : Nat) : Int) ((k / a : Nat) : Int)) (fun e c => by rw [e])
theorem tuK_at (W : Int) (xs : List Nat) (a : Nat) : ∀ k t ch, t < k → ch < 4 → (tuK W xs a k).getD (4 * t + ch) 0 = tuB W xs (t % a) (t / a) ch
  | 0, t, _, h, _ => absurd h (by omega)
  | k + 1, t, ch, h, hc => by
    rw [tuK, tuT]
    exact snoc4 (f := tuB W xs (t % a) (t / a)) (tuK_length W xs a k) rfl hc h (fun h' => tuK_at W xs a k t ch h' hc) (fun _ c h => four_get _ c h) (tuB W xs (k % a) (k / a)) (fun e c => by rw [e])
theorem plc_nat (a q k : Nat) : plc (a : Int) (q : Int) (k : Int) = 4 * (k * a + q) := by
  unfold plc
  have : ((k : Int) * (a : Int) + (q : Int)) = ((k * a + q : Nat) : Int) := by simp
  rw [this]
  omega
theorem row_lt {a d k q : Nat} (hk : k < d) (hq : q < a) : k * a + q < a * d := by
  have : (k + 1) * a ≤ d * a := Nat.mul_le_mul_right a hk
  rw [Nat.add_mul, Nat.one_mul, Nat.mul_comm d a] at this
  omega
/-- A byte of the half, by its place. -/
theorem hf_get {W H : Int} (xs : List Nat) {a d k q : Nat} (ha : hv W = (a : Int)) (hd : hv H = (d : Int)) (hk : k < d) (hq : q < a) {ch : Nat} (hc : ch < 4) :
    (hf W H xs).getD (plc (a : Int) (q : Int) (k : Int) + ch) 0 = hfB W H xs (q : Int) (k : Int) ch := by
  have hfe : hf W H xs = hfK W H xs a (a * d) := by unfold hf; rw [ha, hd]; rfl
  rw [plc_nat, hfe, hfK_at _ _ _ _ _ _ _ (row_lt hk hq) hc, (mod_step hq).1, (mod_step hq).2]
/-- A byte of the turned image, by its place. -/
theorem tu_get (d a : Nat) (xs : List Nat) {k q : Nat} (hk : k < d) (hq : q < a) {ch : Nat} (hc : ch < 4) :
    (tu (d : Int) (a : Int) xs).getD (plc (a : Int) (q : Int) (k : Int) + ch) 0 = xs.getD (plc (d : Int) (k : Int) (q : Int) + ch) 0 := by
  have hfe : tu (d : Int) (a : Int) xs = tuK (d : Int) xs a (a * d) := rfl
  rw [plc_nat a q k, hfe, tuK_at _ _ _ _ _ _ (row_lt hk hq) hc, (mod_step hq).1, (mod_step hq).2]
  rfl
theorem tu_getI {d a : Nat} (xs : List Nat) {X Y : Int} (h : insP X Y (a : Int) (d : Int)) {ch : Nat} (hc : ch < 4) :
    (tu (d : Int) (a : Int) xs).getD (plc (a : Int) X Y + ch) 0 = xs.getD (plc (d : Int) Y X + ch) 0 := by
  obtain ⟨h1, h2, h3, h4⟩ := h
  obtain ⟨q, rfl⟩ : ∃ q : Nat, X = (q : Int) := ⟨X.toNat, by omega⟩
  obtain ⟨k, rfl⟩ : ∃ k : Nat, Y = (k : Int) := ⟨Y.toNat, by omega⟩
  exact tu_get d a xs (by omega) (by omega) hc
theorem mid_swap (a b c d : Nat) : mid a b c d = mid a c b d := by unfold mid; omega
theorem list_ext {l l' : List Nat} {m : Nat} (h1 : l.length = 4 * m) (h2 : l'.length = 4 * m) (h : ∀ t ch, t < m → ch < 4 → l.getD (4 * t + ch) 0 = l'.getD (4 * t + ch) 0) : l = l' := by
  apply List.ext_getElem (by omega)
  intro i hi hi'
  have e := h (i / 4) (i % 4) (by omega) (by omega)
  rw [show 4 * (i / 4) + i % 4 = i from by omega] at e
  simpa [List.getD_eq_getElem?_getD, List.getElem?_eq_getElem hi, List.getElem?_eq_getElem hi'] using e
/-- The half of the turned image is the turned half. -/
theorem hf_tu (d a : Nat) (xs : List Nat) (hs : szP (d : Int) (a : Int)) : hf (a : Int) (d : Int) (tu (d : Int) (a : Int) xs) = tu (hv (d : Int)) (hv (a : Int)) (hf (d : Int) (a : Int) xs) := by
  obtain ⟨d', hd'⟩ : ∃ k : Nat, hv (d : Int) = (k : Int) := ⟨(hv (d : Int)).toNat, by have := hv_pos (d : Int); omega⟩
  obtain ⟨a', ha'⟩ : ∃ k : Nat, hv (a : Int) = (k : Int) := ⟨(hv (a : Int)).toNat, by have := hv_pos (a : Int); omega⟩
  have ha1 : 1 ≤ a' := by have := hv_pos (a : Int); omega
  have hsz : szP (a : Int) (d : Int) := ⟨hs.2.2.1, hs.2.2.2, hs.1, hs.2.1⟩
  have e1 : hf (a : Int) (d : Int) (tu (d : Int) (a : Int) xs) = hfK (a : Int) (d : Int) (tu (d : Int) (a : Int) xs) a' (a' * d') := by unfold hf; rw [ha', hd']; rfl
  have e2 : tu (hv (d : Int)) (hv (a : Int)) (hf (d : Int) (a : Int) xs) = tuK (d' : Int) (hf (d : Int) (a : Int) xs) a' (a' * d') := by rw [ha', hd']; rfl
  rw [e1, e2]
  refine list_ext (m := a' * d') (hfK_length _ _ _ _ _) (tuK_length _ _ _ _) fun t ch ht hc => ?_
  rw [hfK_at _ _ _ _ _ _ _ ht hc, tuK_at _ _ _ _ _ _ ht hc]
  have hq : t % a' < a' := Nat.mod_lt _ ha1
  have hk : t / a' < d' := Nat.div_lt_of_lt_mul ht
  generalize t % a' = q at *
  generalize t / a' = k at *
  have hi : insP (q : Int) (k : Int) (hv (a : Int)) (hv (d : Int)) := by rw [ha', hd']; exact ⟨by omega, by omega, by omega, by omega⟩
  obtain ⟨i1, i2, i3, i4⟩ := four_in hsz hi
  show _ = (hf (d : Int) (a : Int) xs).getD (plc (d' : Int) (k : Int) (q : Int) + ch) 0
  rw [hf_get xs hd' ha' hq hk hc]
  unfold hfB
  rw [tu_getI xs i1 hc, tu_getI xs i2 hc, tu_getI xs i3 hc, tu_getI xs i4 hc]
  exact mid_swap _ _ _ _

/-- An image of one colour. -/
def OneC (W H : Int) (xs : List Nat) (f : Nat → Nat) : Prop := ∀ X Y : Int, insP X Y W H → ∀ ch, ch < 4 → xs.getD (plc W X Y + ch) 0 = f ch
theorem OneC.half {W H : Int} {xs : List Nat} {f : Nat → Nat} (h : OneC W H xs f) (hs : szP W H) : OneC (hv W) (hv H) (hf W H xs) f := by
  intro X Y hi ch hc
  obtain ⟨a', ha'⟩ : ∃ k : Nat, hv W = (k : Int) := ⟨(hv W).toNat, by have := hv_pos W; omega⟩
  obtain ⟨d', hd'⟩ : ∃ k : Nat, hv H = (k : Int) := ⟨(hv H).toNat, by have := hv_pos H; omega⟩
  obtain ⟨i1, i2, i3, i4⟩ := four_in hs hi
  obtain ⟨h1, h2, h3, h4⟩ := hi
  obtain ⟨q, rfl⟩ : ∃ q : Nat, X = (q : Int) := ⟨X.toNat, by omega⟩
  obtain ⟨k, rfl⟩ : ∃ k : Nat, Y = (k : Int) := ⟨Y.toNat, by omega⟩
  rw [ha', hf_get xs ha' hd' (by omega) (by omega) hc]
  unfold hfB
  rw [h _ _ i1 ch hc, h _ _ i2 ch hc, h _ _ i3 ch hc, h _ _ i4 ch hc]
  unfold mid
  omega
theorem OneC.chain {W H : Int} {xs : List Nat} {f : Nat → Nat} (h : OneC W H xs f) (hr : rightP W H xs.length) : ∀ i, OneC (chA W H xs i).1 (chA W H xs i).2.1 (chA W H xs i).2.2 f
  | 0 => h
  | i + 1 => OneC.half (OneC.chain h hr i) (chA_right hr i).1
/-- The sizes of the chain. -/
theorem chA_size (W H : Int) (xs : List Nat) : ∀ i, (chA W H xs i).1 = hvN i W ∧ (chA W H xs i).2.1 = hvN i H
  | 0 => ⟨rfl, rfl⟩
  | i + 1 => by
    obtain ⟨h1, h2⟩ := chA_size W H xs i
    have hx : ∀ k x, hv (hvN k x) = hvN (k + 1) x := by
      intro k
      induction k with
      | zero => intro x; rfl
      | succ k ih => intro x; show hv (hvN k (hv x)) = hvN (k + 1) (hv x); exact ih (hv x)
    exact ⟨by show hv (chA W H xs i).1 = _; rw [h1, hx], by show hv (chA W H xs i).2.1 = _; rw [h2, hx]⟩
theorem lv_last : ∀ f w h, 1 ≤ w → 1 ≤ h → w < 2 ^ (f + 1) → h < 2 ^ (f + 1) → hvN (lv f w h - 1) w = 1 ∧ hvN (lv f w h - 1) h = 1
  | 0, w, h, h1, h2, h3, h4 => by
    have e1 : w = 1 := by simp at h3; omega
    have e2 : h = 1 := by simp at h4; omega
    subst e1 e2
    exact ⟨rfl, rfl⟩
  | f + 1, w, h, h1, h2, h3, h4 => by
    unfold lv
    by_cases hg : goes w h
    · rw [if_pos hg]
      have e1 : (2 : Int) ^ (f + 1 + 1) = 2 * 2 ^ (f + 1) := by rw [Int.pow_succ, Int.mul_comm]
      have e3 : (1 : Int) < 2 ^ (f + 1) := by rw [Int.pow_succ]; have : (0 : Int) < 2 ^ f := Int.pow_pos (by decide); omega
      have ih := lv_last f (hv w) (hv h) (hv_pos w) (hv_pos h) (by unfold hv; split <;> omega) (by unfold hv; split <;> omega)
      have hp := lv_pos f (hv w) (hv h)
      obtain ⟨m, hm⟩ : ∃ m, lv f (hv w) (hv h) = m + 1 := ⟨lv f (hv w) (hv h) - 1, by omega⟩
      rw [hm] at ih ⊢
      simp only [Nat.add_sub_cancel] at ih ⊢
      exact ih
    · rw [if_neg hg]
      unfold goes at hg
      have e1 : w = 1 := by omega
      have e2 : h = 1 := by omega
      subst e1 e2
      exact ⟨rfl, rfl⟩
end Mp
end Go.Proofs.Ytbpdaijmclcbdaa
