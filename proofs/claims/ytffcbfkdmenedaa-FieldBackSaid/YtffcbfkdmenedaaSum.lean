/- What Sum and Times of package field answer, and those of the reference: the same numbers. -/
import Derived.Test.YtffcbfkdmenedaaProg
import Derived.Test.YtffcbfkdmenedaaSmall
import Derived.WalkKit
import Derived.ProofKit
import Derived.Lib.Hide
namespace Go.Proofs.Ytffcbfkdmenedaa
open Go.RowKit
open Pl


set_option maxHeartbeats 400000 in
theorem sum_any (a b : Int) (w : World) (a1 : -9223372036854775808 ≤ a) (a2 : a ≤ 9223372036854775807) (b1 : -9223372036854775808 ≤ b) (b2 : b ≤ 9223372036854775807) :
    Calls Try.prog 14 #[.int .i64 a, .int .i64 b] w fun e w' => e = .returned (.tuple #[.int .i64 (sumV a b), .int .i64 (sumE a b)]) ∧ w = w' := by
  by_cases ha : a < 0
  · have hE := Lib.hid (show sumE a b = 1 from by unfold sumE; rw [if_pos (by omega)])
    have hV := Lib.hid (show sumV a b = 0 from by unfold sumV; rw [if_pos (by omega)])
    go_enter Try.func14, Try.ntmps14
    go_wp2
    go_ret2
    exact ⟨ret2_eq hV.out.symm hE.out.symm, rfl⟩
  · by_cases hb : b < 0
    · have hE := Lib.hid (show sumE a b = 1 from by unfold sumE; rw [if_pos (by omega)])
      have hV := Lib.hid (show sumV a b = 0 from by unfold sumV; rw [if_pos (by omega)])
      go_enter Try.func14, Try.ntmps14
      go_wp2
      go_ret2
      exact ⟨ret2_eq hV.out.symm hE.out.symm, rfl⟩
    · by_cases hc : 2147483647 - b < a
      · have hE := Lib.hid (show sumE a b = 10 from by unfold sumE; rw [if_neg (by omega), if_pos hc])
        have hV := Lib.hid (show sumV a b = 0 from by unfold sumV; rw [if_neg (by omega), if_pos hc])
        go_enter Try.func14, Try.ntmps14
        go_wp2
        go_ret2
        exact ⟨ret2_eq hV.out.symm hE.out.symm, rfl⟩
      · have hE := Lib.hid (show sumE a b = 0 from by unfold sumE; rw [if_neg (by omega), if_neg hc])
        have hV := Lib.hid (show sumV a b = a + b from by unfold sumV; rw [if_neg (by omega), if_neg hc])
        go_enter Try.func14, Try.ntmps14
        go_wp2
        go_ret2
        exact ⟨ret2_eq hV.out.symm hE.out.symm, rfl⟩

set_option maxHeartbeats 400000 in
theorem rsum_any (a b : Int) (w : World) (a1 : -9223372036854775808 ≤ a) (a2 : a ≤ 9223372036854775807) (b1 : -9223372036854775808 ≤ b) (b2 : b ≤ 9223372036854775807) :
    Calls Try.prog 15 #[.int .i64 a, .int .i64 b] w fun e w' => e = .returned (.tuple #[.int .i64 (sumV a b), .int .i64 (sumE a b)]) ∧ w = w' := by
  by_cases ha : a < 0
  · have hE := Lib.hid (show sumE a b = 1 from by unfold sumE; rw [if_pos (by omega)])
    have hV := Lib.hid (show sumV a b = 0 from by unfold sumV; rw [if_pos (by omega)])
    go_enter Try.func15, Try.ntmps15
    go_wp2
    go_ret2
    exact ⟨ret2_eq hV.out.symm hE.out.symm, rfl⟩
  · by_cases hb : b < 0
    · have hE := Lib.hid (show sumE a b = 1 from by unfold sumE; rw [if_pos (by omega)])
      have hV := Lib.hid (show sumV a b = 0 from by unfold sumV; rw [if_pos (by omega)])
      go_enter Try.func15, Try.ntmps15
      go_wp2
      go_ret2
      exact ⟨ret2_eq hV.out.symm hE.out.symm, rfl⟩
    · by_cases hd : 2147483647 < a
      · have hE := Lib.hid (show sumE a b = 10 from by unfold sumE; rw [if_neg (by omega), if_pos (by omega)])
        have hV := Lib.hid (show sumV a b = 0 from by unfold sumV; rw [if_neg (by omega), if_pos (by omega)])
        go_enter Try.func15, Try.ntmps15
        go_wp2
        go_ret2
        exact ⟨ret2_eq hV.out.symm hE.out.symm, rfl⟩
      · by_cases hc : 2147483647 - a < b
        · have hE := Lib.hid (show sumE a b = 10 from by unfold sumE; rw [if_neg (by omega), if_pos (by omega)])
          have hV := Lib.hid (show sumV a b = 0 from by unfold sumV; rw [if_neg (by omega), if_pos (by omega)])
          go_enter Try.func15, Try.ntmps15
          go_wp2
          go_ret2
          exact ⟨ret2_eq hV.out.symm hE.out.symm, rfl⟩
        · have hE := Lib.hid (show sumE a b = 0 from by unfold sumE; rw [if_neg (by omega), if_neg (by omega)])
          have hV := Lib.hid (show sumV a b = a + b from by unfold sumV; rw [if_neg (by omega), if_neg (by omega)])
          go_enter Try.func15, Try.ntmps15
          go_wp2
          go_ret2
          exact ⟨ret2_eq hV.out.symm hE.out.symm, rfl⟩

set_option maxHeartbeats 400000 in
theorem times_any (a b : Int) (w : World) (a1 : -9223372036854775808 ≤ a) (a2 : a ≤ 9223372036854775807) (b1 : -9223372036854775808 ≤ b) (b2 : b ≤ 9223372036854775807) :
    Calls Try.prog 16 #[.int .i64 a, .int .i64 b] w fun e w' => e = .returned (.tuple #[.int .i64 (timesV a b), .int .i64 (timesE a b)]) ∧ w = w' := by
  by_cases ha : a < 0
  · have hE := Lib.hid (show timesE a b = 1 from by unfold timesE; rw [if_pos (by omega)])
    have hV := Lib.hid (show timesV a b = 0 from by unfold timesV; rw [if_pos (by omega)])
    go_enter Try.func16, Try.ntmps16
    go_wp2
    go_ret2
    exact ⟨ret2_eq hV.out.symm hE.out.symm, rfl⟩
  · by_cases hb : b < 0
    · have hE := Lib.hid (show timesE a b = 1 from by unfold timesE; rw [if_pos (by omega)])
      have hV := Lib.hid (show timesV a b = 0 from by unfold timesV; rw [if_pos (by omega)])
      go_enter Try.func16, Try.ntmps16
      go_wp2
      go_ret2
      exact ⟨ret2_eq hV.out.symm hE.out.symm, rfl⟩
    · by_cases h0 : a = 0
      · subst h0
        have hE := Lib.hid (show timesE 0 b = 0 from by unfold timesE; rw [if_neg (by omega), if_neg (by omega)])
        have hV := Lib.hid (show timesV 0 b = 0 from by unfold timesV; rw [if_neg (by omega), if_neg (by omega)]; simp)
        go_enter Try.func16, Try.ntmps16
        go_wp2
        go_ret2
        exact ⟨ret2_eq hV.out.symm hE.out.symm, rfl⟩
      · have hp : 0 < a := by omega
        by_cases hc : 2147483647 / a < b
        · have hm := (times_lt hp (by omega)).1 hc
          have hE := Lib.hid (show timesE a b = 10 from by unfold timesE; rw [if_neg (by omega), if_pos hm])
          have hV := Lib.hid (show timesV a b = 0 from by unfold timesV; rw [if_neg (by omega), if_pos hm])
          clear hm
          go_enter Try.func16, Try.ntmps16
          go_wp2
          go_ret2
          exact ⟨ret2_eq hV.out.symm hE.out.symm, rfl⟩
        · have hm : ¬ (2147483647 < a * b) := fun h => hc ((times_lt hp (by omega)).2 h)
          have hE := Lib.hid (show timesE a b = 0 from by unfold timesE; rw [if_neg (by omega), if_neg hm])
          have hV := Lib.hid (show timesV a b = a * b from by unfold timesV; rw [if_neg (by omega), if_neg hm])
          have hn := mul_nonneg' (show 0 ≤ a by omega) (show 0 ≤ b by omega)
          go_enter Try.func16, Try.ntmps16
          go_wp2
          go_ret2
          exact ⟨ret2_eq hV.out.symm hE.out.symm, rfl⟩

set_option maxHeartbeats 400000 in
theorem rtimes_any (a b : Int) (w : World) (a1 : -9223372036854775808 ≤ a) (a2 : a ≤ 9223372036854775807) (b1 : -9223372036854775808 ≤ b) (b2 : b ≤ 9223372036854775807) :
    Calls Try.prog 17 #[.int .i64 a, .int .i64 b] w fun e w' => e = .returned (.tuple #[.int .i64 (timesV a b), .int .i64 (timesE a b)]) ∧ w = w' := by
  by_cases ha : a < 0
  · have hE := Lib.hid (show timesE a b = 1 from by unfold timesE; rw [if_pos (by omega)])
    have hV := Lib.hid (show timesV a b = 0 from by unfold timesV; rw [if_pos (by omega)])
    go_enter Try.func17, Try.ntmps17
    go_wp2
    go_ret2
    exact ⟨ret2_eq hV.out.symm hE.out.symm, rfl⟩
  · by_cases hb : b < 0
    · have hE := Lib.hid (show timesE a b = 1 from by unfold timesE; rw [if_pos (by omega)])
      have hV := Lib.hid (show timesV a b = 0 from by unfold timesV; rw [if_pos (by omega)])
      go_enter Try.func17, Try.ntmps17
      go_wp2
      go_ret2
      exact ⟨ret2_eq hV.out.symm hE.out.symm, rfl⟩
    · by_cases h0 : a = 0
      · subst h0
        have hE := Lib.hid (show timesE 0 b = 0 from by unfold timesE; rw [if_neg (by omega), if_neg (by omega)])
        have hV := Lib.hid (show timesV 0 b = 0 from by unfold timesV; rw [if_neg (by omega), if_neg (by omega)]; simp)
        go_enter Try.func17, Try.ntmps17
        go_wp2
        go_ret2
        exact ⟨ret2_eq hV.out.symm hE.out.symm, rfl⟩
      · have hp : 0 < a := by omega
        have q1 : (a == 0) = false := by simpa using h0
        by_cases h1 : b = 0
        · subst h1
          have hE := Lib.hid (show timesE a 0 = 0 from by unfold timesE; rw [if_neg (by omega), if_neg (by omega)])
          have hV := Lib.hid (show timesV a 0 = 0 from by unfold timesV; rw [if_neg (by omega), if_neg (by omega)]; simp)
          go_enter Try.func17, Try.ntmps17
          go_wp2
          go_ret2
          exact ⟨ret2_eq hV.out.symm hE.out.symm, rfl⟩
        · have hq : 0 < b := by omega
          have q2 : (b == 0) = false := by simpa using h1
          by_cases hc : 2147483647 / b < a
          · have hm := (times_lt' (by omega) hq).1 hc
            have hE := Lib.hid (show timesE a b = 10 from by unfold timesE; rw [if_neg (by omega), if_pos hm])
            have hV := Lib.hid (show timesV a b = 0 from by unfold timesV; rw [if_neg (by omega), if_pos hm])
            clear hm
            go_enter Try.func17, Try.ntmps17
            go_wp2
            go_ret2
            exact ⟨ret2_eq hV.out.symm hE.out.symm, rfl⟩
          · have hm : ¬ (2147483647 < a * b) := fun h => hc ((times_lt' (by omega) hq).2 h)
            have hE := Lib.hid (show timesE a b = 0 from by unfold timesE; rw [if_neg (by omega), if_neg hm])
            have hV := Lib.hid (show timesV a b = a * b from by unfold timesV; rw [if_neg (by omega), if_neg hm])
            have hn := mul_nonneg' (show 0 ≤ a by omega) (show 0 ≤ b by omega)
            go_enter Try.func17, Try.ntmps17
            go_wp2
            go_ret2
            exact ⟨ret2_eq hV.out.symm hE.out.symm, rfl⟩
end Go.Proofs.Ytffcbfkdmenedaa
