/- The mode of a block: the program's and the document's. -/
import Derived.Test.YtnoailihkjccbaaDoorB7Kept
set_option linter.all false
namespace Go.Proofs.YtnoailihkjccbaaDoor
open Go.RowKit
open Bi Lv Bt B7

namespace B7
theorem mdP_none (x : Nat) (h : ∀ j, j < 8 → x.testBit j = false) : ∀ f, f ≤ 8 → mdP x f = 8
  | 0, _ => rfl
  | f + 1, hf => by rw [mdP, h (7 - f) (by omega)]; exact mdP_none x h f (by omega)
theorem mdP_at (x k : Nat) (hk : k < 8) (h : ∀ j, j < k → x.testBit j = false) (hx : x.testBit k = true) : ∀ f, f ≤ 8 → 8 - f ≤ k → mdP x f = k
  | 0, _, h1 => by omega
  | f + 1, hf, h1 => by
    rw [mdP]
    by_cases e : 7 - f = k
    · rw [e, hx]; rfl
    · rw [h (7 - f) (by omega)]
      exact mdP_at x k hk h hx f (by omega) (by omega)
theorem modeN_none {x : Nat} (h : ∀ j, j < 8 → x.testBit j = false) : modeN x = 8 := mdP_none x h 8 (by omega)
theorem modeN_at {x k : Nat} (hk : k < 8) (h : ∀ j, j < k → x.testBit j = false) (hx : x.testBit k = true) : modeN x = k := mdP_at x k hk h hx 8 (by omega) (by omega)
theorem modeN_le (x : Nat) : modeN x ≤ 8 := mdP_le x 8
theorem bit_u8 (x k : Nat) (hx : x < 256) (hk : k < 8) : bits .and .u8 ((x : Int) / 2 ^ k) 1 = (((x.testBit k).toNat : Nat) : Int) := by
  have h : ∀ x, x < 256 → ∀ k, k < 8 → bits .and .u8 (((x / 2 ^ k : Nat) : Int)) 1 = (((x.testBit k).toNat : Nat) : Int) := by decide +kernel
  rw [show ((x : Int) / 2 ^ k) = ((x / 2 ^ k : Nat) : Int) from by rw [Int.natCast_ediv]; simp]
  exact h x hx k hk
end B7
theorem mode_no (A : Option Addr) (n c : Nat) (w : World) (hn : n ≠ 16) (_ : n ≤ 9223372036854775807) : Calls Tryd.prog 11 #[.slice A n c] w fun e w' => e = .returned (.int .i64 8) ∧ w = w' := by
  have hn' : ((n : Int) != 16) = true := by simp; omega
  go_enter Tryd.func11, Tryd.ntmps11
  go_wp2
  go_ret
  exact ⟨rfl, rfl⟩
set_option maxHeartbeats 2000000 in
theorem mode_ok (A : Option Addr) (c : Nat) (xs : List Nat) (w : World) (h : Bs w w.heap.size A 16 xs) : Calls Tryd.prog 11 #[.slice A 16 c] w fun e w' => e = .returned (.int .i64 ((modeN (xs.getD 0 0) : Nat) : Int)) ∧ w = w' := by
  obtain ⟨b, off, rfl, _, hc⟩ := h.2.2 (by omega)
  have hc0 := hc 0 (by omega)
  have hb : xs.getD 0 0 < 256 := h.getD_lt 0
  rw [Nat.add_zero] at hc0
  have HN := Lib.hid (fun (h : ∀ j, j < 8 → (xs.getD 0 0).testBit j = false) => modeN_none h)
  have HA := Lib.hid (fun k (hk : k < 8) (h : ∀ j, j < k → (xs.getD 0 0).testBit j = false) (hx : (xs.getD 0 0).testBit k = true) => modeN_at hk h hx)
  have HB := Lib.hid (fun k (hk : k < 8) => bit_u8 (xs.getD 0 0) k hb hk)
  clear hc h
  generalize modeN (xs.getD 0 0) = M at *
  generalize xs.getD 0 0 = x at *
  go_enter Tryd.func11, Tryd.ntmps11
  go_wp2
  go_loop [7] (fun i => ∃ k : Nat, k ≤ 8 ∧ i = .int .i64 k ∧ ∀ j, j < k → x.testBit j = false) (fun i => 8 - (intOf i).toNat)
  case atStart => exact ⟨0, by omega, rfl, fun j hj => absurd hj (by omega)⟩
  case round =>
    obtain ⟨k, hk, rfl, hall⟩ := hrel
    by_cases hlt : k < 8
    · have hbk := HB.out k hlt
      by_cases hx : x.testBit k = true
      · have hM := HA.out k hlt hall hx
        rw [hx] at hbk
        replace hbk : bits .and .u8 ((x : Int) / 2 ^ k) 1 = 1 := hbk
        replace hM := Lib.hid hM
        clear HN HA HB hall hx
        go_wp2
        go_ret
        exact ⟨ret_int (by rw [hM.out]), rfl⟩
      · have hx' : x.testBit k = false := by simpa using hx
        rw [hx'] at hbk
        replace hbk : bits .and .u8 ((x : Int) / 2 ^ k) 1 = 0 := hbk
        have hall' : Hid (∀ j, j < k + 1 → x.testBit j = false) := fun j hj => by
          rcases Nat.lt_or_ge j k with h | h
          · exact hall j h
          · obtain rfl : j = k := by omega
            exact hx'
        clear HN HA HB hall hx hx'
        go_wp2
        go_round
        case rel => exact ⟨k + 1, by omega, by go_num, hall'.out⟩
        case measure => simp [intOf]; omega
    · obtain rfl : k = 8 := by omega
      have hM := Lib.hid (HN.out hall)
      clear HN HA HB hall
      go_wp2
      go_ret
      exact ⟨ret_int (by rw [hM.out]; rfl), rfl⟩
theorem rmode_no (A : Option Addr) (n c : Nat) (w : World) (hn : n ≠ 16) (_ : n ≤ 9223372036854775807) : Calls Tryd.prog 12 #[.slice A n c] w fun e w' => e = .returned (.int .i64 8) ∧ w = w' := by
  have hn' : ((n : Int) != 16) = true := by simp; omega
  go_enter Tryd.func12, Tryd.ntmps12
  go_wp2
  go_ret
  exact ⟨rfl, rfl⟩
namespace B7
theorem getN_bit (xs : List Nat) (k : Nat) (hk : k < 8) : getN xs false k 1 = ((xs.getD 0 0).testBit k).toNat := by
  have h8 : k / 8 = 0 := by omega
  have h9 : k % 8 = k := by omega
  simp [getN, nm, bt, pl, h8, h9]
end B7
set_option maxHeartbeats 2000000 in
theorem rmode_ok (A : Option Addr) (c : Nat) (xs : List Nat) (w : World) (h : Bs w w.heap.size A 16 xs) : Calls Tryd.prog 12 #[.slice A 16 c] w fun e w' => e = .returned (.int .i64 ((modeN (xs.getD 0 0) : Nat) : Int)) ∧ w = w' := by
  have HN := Lib.hid (fun (h : ∀ j, j < 8 → (xs.getD 0 0).testBit j = false) => modeN_none h)
  have HA := Lib.hid (fun k (hk : k < 8) (h : ∀ j, j < k → (xs.getD 0 0).testBit j = false) (hx : (xs.getD 0 0).testBit k = true) => modeN_at hk h hx)
  have HF := Lib.hid (fun (k : Nat) (hk : k < 8) => show Calls Tryd.prog 31 #[.slice A 16 c, .int .i64 (k : Int), .int .i64 1] w (fun e w' => e = .returned (.int .i64 (((((xs.getD 0 0).testBit k).toNat : Nat) : Int))) ∧ w = w') from by
    rw [← getN_bit xs k hk]
    exact field_ok A 16 c (k : Int) k 1 rfl xs w h (by omega) (by omega) (by omega))
  clear h
  generalize modeN (xs.getD 0 0) = M at *
  generalize xs.getD 0 0 = x at *
  go_enter Tryd.func12, Tryd.ntmps12
  go_wp2
  go_loop [3] (fun i => ∃ k : Nat, k ≤ 8 ∧ i = .int .i64 k ∧ ∀ j, j < k → x.testBit j = false) (fun i => 8 - (intOf i).toNat)
  case atStart => exact ⟨0, by omega, rfl, fun j hj => absurd hj (by omega)⟩
  case round =>
    obtain ⟨k, hk, rfl, hall⟩ := hrel
    by_cases hlt : k < 8
    · have hF := HF.out k hlt
      by_cases hx : x.testBit k = true
      · have hM := HA.out k hlt hall hx
        rw [hx] at hF
        replace hF : Hid (Calls Tryd.prog 31 #[.slice A 16 c, .int .i64 (k : Int), .int .i64 1] w (fun e w' => e = .returned (.int .i64 1) ∧ w = w')) := hF
        replace hM := Lib.hid hM
        clear HN HA HF hall hx
        go_wp2_with (go_at_call 31; refine hF.out.mono ?_; rintro e w1 ⟨rfl, rfl⟩)
        go_ret
        exact ⟨ret_int (by rw [hM.out]), rfl⟩
      · have hx' : x.testBit k = false := by simpa using hx
        rw [hx'] at hF
        replace hF : Hid (Calls Tryd.prog 31 #[.slice A 16 c, .int .i64 (k : Int), .int .i64 1] w (fun e w' => e = .returned (.int .i64 0) ∧ w = w')) := hF
        have hall' : Hid (∀ j, j < k + 1 → x.testBit j = false) := fun j hj => by
          rcases Nat.lt_or_ge j k with h | h
          · exact hall j h
          · obtain rfl : j = k := by omega
            exact hx'
        clear HN HA HF hall hx hx'
        go_wp2_with (go_at_call 31; refine hF.out.mono ?_; rintro e w1 ⟨rfl, rfl⟩)
        go_round
        case rel => exact ⟨k + 1, by omega, by go_num, hall'.out⟩
        case measure => simp [intOf]; omega
    · obtain rfl : k = 8 := by omega
      have hM := Lib.hid (HN.out hall)
      clear HN HA HF hall
      go_wp2
      go_ret
      exact ⟨ret_int (by rw [hM.out]; rfl), rfl⟩
end Go.Proofs.YtnoailihkjccbaaDoor
