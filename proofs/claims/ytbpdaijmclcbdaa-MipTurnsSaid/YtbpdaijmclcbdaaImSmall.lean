/- The small questions of package image and of its reference: sizes, places, tiles. -/
import Derived.Test.YtbpdaijmclcbdaaProg
import Derived.Test.YtbpdaijmclcbdaaRet
import Derived.Test.YtbpdaijmclcbdaaNum
import Derived.Test.YtbpdaijmclcbdaaInts
import Derived.Test.YtbpdaijmclcbdaaTile
namespace Go.Proofs.Ytbpdaijmclcbdaa
open Go.RowKit

/-- An image, by value. -/
abbrev img (W H : Int) (A : Option Addr) (n c : Nat) : Value := .agg #[.int .i64 W, .int .i64 H, .slice A n c]

namespace Im
def szP (W H : Int) : Prop := 1 ≤ W ∧ W ≤ 4096 ∧ 1 ≤ H ∧ H ≤ 4096
instance (W H : Int) : Decidable (szP W H) := inferInstanceAs (Decidable (_ ∧ _))
def rightP (W H : Int) (n : Nat) : Prop := szP W H ∧ (n : Int) = 4 * W * H
instance (W H : Int) (n : Nat) : Decidable (rightP W H n) := inferInstanceAs (Decidable (_ ∧ _))
def insP (x y a b : Int) : Prop := 0 ≤ x ∧ x < a ∧ 0 ≤ y ∧ y < b
instance (x y a b : Int) : Decidable (insP x y a b) := inferInstanceAs (Decidable (_ ∧ _))
/-- How many tiles along a side w, beside a side h. -/
def tl (w h : Int) : Int := if w < 1 ∨ h < 1 then 0 else (w - 1) / 4 + 1
def hasP (W H : Int) (n : Nat) (x y : Int) : Prop := rightP W H n ∧ insP x y (tl W H) (tl H W)
instance (W H : Int) (n : Nat) (x y : Int) : Decidable (hasP W H n x y) := inferInstanceAs (Decidable (_ ∧ _))
end Im
open Im

theorem isSize_any (W H : Int) (w : World) :
    Calls Try.prog 49 #[.int .i64 W, .int .i64 H] w fun e w' => e = .returned (.bool (decide (szP W H))) ∧ w = w' := by
  by_cases h1 : 1 ≤ W <;> by_cases h2 : W ≤ 4096 <;> by_cases h3 : 1 ≤ H <;> by_cases h4 : H ≤ 4096 <;>
  · go_enter Try.func49, Try.ntmps49
    go_wp2
    go_ret
    exact ⟨ret_bool (by first | (symm; apply decide_eq_true; unfold szP; omega) | (symm; apply decide_eq_false; unfold szP; omega)), rfl⟩

theorem isInside_any (x y a b : Int) (w : World) :
    Calls Try.prog 57 #[.int .i64 x, .int .i64 y, .int .i64 a, .int .i64 b] w fun e w' => e = .returned (.bool (decide (insP x y a b))) ∧ w = w' := by
  by_cases h1 : 0 ≤ x <;> by_cases h2 : x < a <;> by_cases h3 : 0 ≤ y <;> by_cases h4 : y < b <;>
  · go_enter Try.func57, Try.ntmps57
    go_wp2
    go_ret
    exact ⟨ret_bool (by first | (symm; apply decide_eq_true; unfold insP; omega) | (symm; apply decide_eq_false; unfold insP; omega)), rfl⟩

theorem along_any (n : Int) (w : World) (h1 : 1 ≤ n) (h2 : n ≤ 9223372036854775807) :
    Calls Try.prog 45 #[.int .i64 n] w fun e w' => e = .returned (.int .i64 ((n - 1) / 4 + 1)) ∧ w = w' := by
  go_enter Try.func45, Try.ntmps45
  go_wp2
  go_ret
  exact ⟨ret_int (by go_num), rfl⟩

theorem tl_ok {W H : Int} (h : 1 ≤ W) (h' : 1 ≤ H) : tl W H = (W - 1) / 4 + 1 := by rw [tl, if_neg (by omega)]
theorem tl_no {W H : Int} (h : W < 1 ∨ H < 1) : tl W H = 0 := by rw [tl, if_pos h]
theorem tiles_any (W H : Int) (w : World) (h2 : W ≤ 9223372036854775807) (h3 : H ≤ 9223372036854775807) :
    Calls Try.prog 15 #[.int .i64 W, .int .i64 H] w fun e w' => e = .returned (.tuple #[.int .i64 (tl W H), .int .i64 (tl H W)]) ∧ w = w' := by
  by_cases ha : W < 1
  · rw [tl_no (.inl ha), tl_no (.inr ha)]
    go_enter Try.func15, Try.ntmps15
    go_wp2
    go_ret2
    exact ⟨rfl, rfl⟩
  · by_cases hb : H < 1
    · rw [tl_no (.inl hb), tl_no (.inr hb)]
      go_enter Try.func15, Try.ntmps15
      go_wp2
      go_ret2
      exact ⟨rfl, rfl⟩
    · rw [tl_ok (by omega) (by omega), tl_ok (by omega) (by omega)]
      have g1 := Lib.hid (fun w => along_any W w (by omega) h2)
      have g2 := Lib.hid (fun w => along_any H w (by omega) h3)
      generalize (W - 1) / 4 + 1 = a at *
      generalize (H - 1) / 4 + 1 = b at *
      go_enter Try.func15, Try.ntmps15
      go_wp2_with (go_at_call 45; first | (with_reducible refine (g1.out _).mono ?_; rintro e w' ⟨rfl, rfl⟩) | (with_reducible refine (g2.out _).mono ?_; rintro e w' ⟨rfl, rfl⟩))
      go_ret2
      exact ⟨rfl, rfl⟩

theorem rtiles_any (W H : Int) (w : World) (h2 : W ≤ 9223372036854775807) (h3 : H ≤ 9223372036854775807) :
    Calls Try.prog 16 #[.int .i64 W, .int .i64 H] w fun e w' => e = .returned (.tuple #[.int .i64 (tl W H), .int .i64 (tl H W)]) ∧ w = w' := by
  by_cases ha : W < 1
  · rw [tl_no (.inl ha), tl_no (.inr ha)]
    go_enter Try.func16, Try.ntmps16
    go_wp2
    go_ret2
    exact ⟨rfl, rfl⟩
  · by_cases hb : H < 1
    · rw [tl_no (.inl hb), tl_no (.inr hb)]
      go_enter Try.func16, Try.ntmps16
      go_wp2
      go_ret2
      exact ⟨rfl, rfl⟩
    · rw [tl_ok (by omega) (by omega), tl_ok (by omega) (by omega)]
      go_enter Try.func16, Try.ntmps16
      go_wp2
      go_ret2
      exact ⟨ret2_eq (by go_num) (by go_num), rfl⟩

/-- What a boxed argument leaves. -/
theorem Below.box (w : World) (o : Obj) : Below w.heap.size w (w.alloc o) := (Below.refl w.heap.size w).alloc (Nat.le_refl _) o

theorem mul_sz {W H : Int} (h : szP W H) : 1 ≤ W * H ∧ W * H ≤ 16777216 := by
  obtain ⟨a, b, c, d⟩ := h
  have h1 : W * H ≤ 4096 * 4096 := Int.mul_le_mul b d (by omega) (by omega)
  have h2 : 1 * 1 ≤ W * H := Int.mul_le_mul a c (by omega) (by omega)
  omega

theorem wrap_area {W H : Int} (h : szP W H) : wrap64 (4 * W * H) = 4 * W * H := by
  have hm := mul_sz h
  have hp : 4 * W * H = 4 * (W * H) := by rw [Int.mul_assoc]
  exact wrap64_small _ (by omega) (by omega)

theorem right_any (W H : Int) (A : Option Addr) (n c : Nat) (w : World) (hn : n ≤ 9223372036854775807) :
    Calls Try.prog 20 #[img W H A n c] w fun e w' => e = .returned (.bool (decide (rightP W H n))) ∧ Below w.heap.size w w' := by
  have hS := Lib.hid (fun w => isSize_any W H w)
  by_cases hs : szP W H
  · have hW := Lib.hid (wrap_area hs)
    rw [show decide (rightP W H n) = decide ((n : Int) = 4 * W * H) from by simp [rightP, hs]]
    rw [decide_eq_true hs] at hS
    obtain ⟨a, b, cc, d⟩ := hs
    go_enter Try.func20, Try.ntmps20
    go_wp2_with (go_at_call 49; with_reducible refine (hS.out _).mono ?_; rintro e w' ⟨rfl, rfl⟩)
    go_ret
    refine ⟨ret_bool ?_, Below.box _ _⟩
    rw [hW.out]
    rfl
  · rw [show decide (rightP W H n) = false from by simp [rightP, hs]]
    rw [decide_eq_false hs] at hS
    go_enter Try.func20, Try.ntmps20
    go_wp2_with (go_at_call 49; with_reducible refine (hS.out _).mono ?_; rintro e w' ⟨rfl, rfl⟩)
    go_ret
    exact ⟨rfl, Below.box _ _⟩

set_option maxHeartbeats 400000 in
theorem rright_any (W H : Int) (A : Option Addr) (n c : Nat) (w : World) (hn : n ≤ 9223372036854775807) :
    Calls Try.prog 51 #[img W H A n c] w fun e w' => e = .returned (.bool (decide (rightP W H n))) ∧ Below w.heap.size w w' := by
  by_cases hs : szP W H
  · have hW := Lib.hid (wrap_area hs)
    rw [show decide (rightP W H n) = decide ((n : Int) = 4 * W * H) from by simp [rightP, hs]]
    obtain ⟨a, b, cc, d⟩ := hs
    go_enter Try.func51, Try.ntmps51
    go_wp2
    go_ret
    refine ⟨ret_bool ?_, Below.box _ _⟩
    rw [hW.out]
    rfl
  · rw [show decide (rightP W H n) = false from by simp [rightP, hs]]
    unfold szP at hs
    have hc : W < 1 ∨ (1 ≤ W ∧ H < 1) ∨ (1 ≤ W ∧ 1 ≤ H ∧ 4096 < W) ∨ (1 ≤ W ∧ 1 ≤ H ∧ W ≤ 4096 ∧ 4096 < H) := by omega
    clear hs
    rcases hc with h1 | ⟨h1, h2⟩ | ⟨h1, h2, h3⟩ | ⟨h1, h2, h3, h4⟩
    · go_enter Try.func51, Try.ntmps51
      go_wp2
      go_ret
      exact ⟨rfl, Below.box _ _⟩
    · go_enter Try.func51, Try.ntmps51
      go_wp2
      go_ret
      exact ⟨rfl, Below.box _ _⟩
    · go_enter Try.func51, Try.ntmps51
      go_wp2
      go_ret
      exact ⟨rfl, Below.box _ _⟩
    · go_enter Try.func51, Try.ntmps51
      go_wp2
      go_ret
      exact ⟨rfl, Below.box _ _⟩

/-- Block g is just an image. -/
abbrev imL (W H : Int) (A : Option Addr) (n c : Nat) : List Value := [.int .i64 W, .int .i64 H, .slice A n c]
theorem Below.fresh {w w' : World} (o : Obj) (hb : Below (w.alloc o).heap.size (w.alloc o) w') : Below w.heap.size w w' :=
  ((Below.refl w.heap.size w).alloc (Nat.le_refl _) o).trans (hb.mono (by simp))

set_option maxHeartbeats 400000 in
theorem hasTexel_any (W H : Int) (A : Option Addr) (n c : Nat) (x y : Int) (w : World) (hn : n ≤ 9223372036854775807) :
    Calls Try.prog 54 #[img W H A n c, .int .i64 x, .int .i64 y] w fun e w' => e = .returned (.bool (decide (rightP W H n ∧ insP x y W H))) ∧ Below w.heap.size w w' := by
  have hR := Lib.hid (fun w => right_any W H A n c w hn)
  have hI := Lib.hid (fun w => isInside_any x y W H w)
  have hN := Lib.hid (Row.new w 24 (imL W H A n c))
  by_cases hr : rightP W H n
  · rw [decide_eq_true hr] at hR
    rw [show decide (rightP W H n ∧ insP x y W H) = decide (insP x y W H) from by simp [hr]]
    generalize decide (insP x y W H) = r at *
    clear hr
    go_enter Try.func54, Try.ntmps54
    go_wp2_with (first
      | (go_at_call 20; with_reducible refine (hR.out _).mono ?_; rintro e w' ⟨rfl, hb⟩; have hB := Lib.hid hb; clear hb; have R := Lib.hid (hN.out.below hB.out (by simp)); have c0 := R.out.cell 0 _ rfl; have c1 := R.out.cell 1 _ rfl)
      | (go_at_call 57; with_reducible refine (hI.out _).mono ?_; rintro e w2 ⟨rfl, rfl⟩))
    go_ret
    exact ⟨rfl, Below.fresh _ hB.out⟩
  · rw [decide_eq_false hr] at hR
    rw [show decide (rightP W H n ∧ insP x y W H) = false from by simp [hr]]
    clear hr
    go_enter Try.func54, Try.ntmps54
    go_wp2_with (first
      | (go_at_call 20; with_reducible refine (hR.out _).mono ?_; rintro e w' ⟨rfl, hb⟩; have hB := Lib.hid hb; clear hb)
      | (go_at_call 57; with_reducible refine (hI.out _).mono ?_; rintro e w2 ⟨rfl, rfl⟩))
    go_ret
    exact ⟨rfl, Below.fresh _ hB.out⟩

set_option maxHeartbeats 400000 in
theorem hasTile_any (W H : Int) (A : Option Addr) (n c : Nat) (x y : Int) (w : World) (hn : n ≤ 9223372036854775807) (h2 : W ≤ 9223372036854775807) (h3 : H ≤ 9223372036854775807) :
    Calls Try.prog 36 #[img W H A n c, .int .i64 x, .int .i64 y] w fun e w' => e = .returned (.bool (decide (hasP W H n x y))) ∧ Below w.heap.size w w' := by
  have hR := Lib.hid (fun w => right_any W H A n c w hn)
  have hT := Lib.hid (fun w => tiles_any W H w h2 h3)
  have hI := Lib.hid (fun w => isInside_any x y (tl W H) (tl H W) w)
  by_cases hr : rightP W H n
  · rw [decide_eq_true hr] at hR
    rw [show decide (hasP W H n x y) = decide (insP x y (tl W H) (tl H W)) from by simp [hasP, hr]]
    generalize decide (insP x y (tl W H) (tl H W)) = r at *
    generalize tl W H = a at *
    generalize tl H W = b at *
    clear hr
    go_enter Try.func36, Try.ntmps36
    go_wp2_with (first
      | (go_at_call 20; with_reducible refine (hR.out _).mono ?_; rintro e w' ⟨rfl, hb⟩; have hB := Lib.hid hb; clear hb)
      | (go_at_call 15; with_reducible refine (hT.out _).mono ?_; rintro e w2 ⟨rfl, rfl⟩)
      | (go_at_call 57; with_reducible refine (hI.out _).mono ?_; rintro e w2 ⟨rfl, rfl⟩))
    go_ret
    exact ⟨rfl, Below.fresh _ hB.out⟩
  · rw [decide_eq_false hr] at hR
    rw [show decide (hasP W H n x y) = false from by simp [hasP, hr]]
    generalize tl W H = a at *
    generalize tl H W = b at *
    clear hr
    go_enter Try.func36, Try.ntmps36
    go_wp2_with (first
      | (go_at_call 20; with_reducible refine (hR.out _).mono ?_; rintro e w' ⟨rfl, hb⟩; have hB := Lib.hid hb; clear hb)
      | (go_at_call 15; with_reducible refine (hT.out _).mono ?_; rintro e w2 ⟨rfl, rfl⟩))
    go_ret
    exact ⟨rfl, Below.fresh _ hB.out⟩

set_option maxHeartbeats 400000 in
theorem has_any (W H : Int) (A : Option Addr) (n c : Nat) (x y : Int) (w : World) (hn : n ≤ 9223372036854775807) (h2 : W ≤ 9223372036854775807) (h3 : H ≤ 9223372036854775807) :
    Calls Try.prog 40 #[img W H A n c, .int .i64 x, .int .i64 y] w fun e w' => e = .returned (.bool (decide (hasP W H n x y))) ∧ Below w.heap.size w w' := by
  have hR := Lib.hid (fun w => rright_any W H A n c w hn)
  have hT := Lib.hid (fun w => rtiles_any W H w h2 h3)
  by_cases hr : rightP W H n
  · rw [decide_eq_true hr] at hR
    rw [show decide (hasP W H n x y) = decide (insP x y (tl W H) (tl H W)) from by simp [hasP, hr]]
    generalize tl W H = a at *
    generalize tl H W = b at *
    clear hr
    have hc : x < 0 ∨ (0 ≤ x ∧ y < 0) ∨ (0 ≤ x ∧ 0 ≤ y ∧ a ≤ x) ∨ (0 ≤ x ∧ 0 ≤ y ∧ x < a ∧ b ≤ y) ∨ (0 ≤ x ∧ 0 ≤ y ∧ x < a ∧ y < b) := by omega
    rcases hc with h1 | ⟨h1, h2⟩ | ⟨h1, h2, h3⟩ | ⟨h1, h2, h3, h4⟩ | ⟨h1, h2, h3, h4⟩
    iterate 4
      rw [show decide (insP x y a b) = false from by apply decide_eq_false; unfold insP; omega]
      go_enter Try.func40, Try.ntmps40
      go_wp2_with (first
        | (go_at_call 51; with_reducible refine (hR.out _).mono ?_; rintro e w' ⟨rfl, hb⟩; have hB := Lib.hid hb; clear hb)
        | (go_at_call 16; with_reducible refine (hT.out _).mono ?_; rintro e w2 ⟨rfl, rfl⟩))
      go_ret
      refine ⟨ret_bool ?_, Below.fresh _ hB.out⟩
      first | rfl | (simp; done) | (simp; omega) | trace_state
    rw [show decide (insP x y a b) = true from by apply decide_eq_true; unfold insP; omega]
    go_enter Try.func40, Try.ntmps40
    go_wp2_with (first
      | (go_at_call 51; with_reducible refine (hR.out _).mono ?_; rintro e w' ⟨rfl, hb⟩; have hB := Lib.hid hb; clear hb)
      | (go_at_call 16; with_reducible refine (hT.out _).mono ?_; rintro e w2 ⟨rfl, rfl⟩))
    go_ret
    exact ⟨rfl, Below.fresh _ hB.out⟩
  · rw [decide_eq_false hr] at hR
    rw [show decide (hasP W H n x y) = false from by simp [hasP, hr]]
    generalize tl W H = a at *
    generalize tl H W = b at *
    clear hr
    go_enter Try.func40, Try.ntmps40
    go_wp2_with (first
      | (go_at_call 51; with_reducible refine (hR.out _).mono ?_; rintro e w' ⟨rfl, hb⟩; have hB := Lib.hid hb; clear hb)
      | (go_at_call 16; with_reducible refine (hT.out _).mono ?_; rintro e w2 ⟨rfl, rfl⟩))
    go_ret
    exact ⟨rfl, Below.fresh _ hB.out⟩

/-- May it be gone through? -/
def Im.lightB (W H : Int) (n : Nat) : Bool := decide (n ≤ 4096) && (decide (4096 < W) || decide (4096 < H) || decide (wrap64 (W * H) ≤ 1024))
theorem lightB_le {W H : Int} {n : Nat} (h : lightB W H n = true) : n ≤ 4096 := by
  unfold lightB at h
  rw [Bool.and_eq_true] at h
  exact of_decide_eq_true h.1
set_option maxHeartbeats 400000 in
theorem light_any (W H : Int) (A : Option Addr) (n c : Nat) (w : World) (hn : n ≤ 9223372036854775807) :
    Calls Try.prog 9 #[img W H A n c] w fun e w' => e = .returned (.bool (lightB W H n)) ∧ Below w.heap.size w w' := by
  have hc : 4096 < n ∨ (n ≤ 4096 ∧ 4096 < W) ∨ (n ≤ 4096 ∧ W ≤ 4096 ∧ 4096 < H) ∨ (n ≤ 4096 ∧ W ≤ 4096 ∧ H ≤ 4096) := by omega
  rcases hc with h1 | ⟨h1, h2⟩ | ⟨h1, h2, h3⟩ | ⟨h1, h2, h3⟩
  · rw [show lightB W H n = false from by simp [lightB]; omega]
    go_enter Try.func9, Try.ntmps9
    go_wp2
    go_ret
    exact ⟨rfl, Below.box _ _⟩
  · rw [show lightB W H n = true from by simp [lightB, h1, h2]]
    go_enter Try.func9, Try.ntmps9
    go_wp2
    go_ret
    exact ⟨rfl, Below.box _ _⟩
  · rw [show lightB W H n = true from by simp [lightB, h1, h3]]
    go_enter Try.func9, Try.ntmps9
    go_wp2
    go_ret
    exact ⟨rfl, Below.box _ _⟩
  · rw [show lightB W H n = decide (wrap64 (W * H) ≤ 1024) from by rw [lightB, decide_eq_true h1, decide_eq_false (by omega), decide_eq_false (by omega)]; rfl]
    go_enter Try.func9, Try.ntmps9
    go_wp2
    go_ret
    refine ⟨ret_bool ?_, Below.box _ _⟩
    first | rfl | (simp; done) | (simp; omega) | trace_state
end Go.Proofs.Ytbpdaijmclcbdaa
