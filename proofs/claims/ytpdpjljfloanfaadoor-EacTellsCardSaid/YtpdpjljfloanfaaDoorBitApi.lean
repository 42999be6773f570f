/- What Low, High, SetLow and SetHigh of package bits answer, for whatever arguments. -/
import Derived.Test.YtpdpjljfloanfaaDoorBitWrite
set_option linter.all false
namespace Go.Proofs.YtpdpjljfloanfaaDoor
open Go.RowKit
open Bi

set_option maxHeartbeats 400000 in
theorem holds_yes (A : Option Addr) (n c : Nat) (p m : Int) (w : World) (hn : n ≤ 140737488355328) (h0 : 0 ≤ p) (p2 : p ≤ 9223372036854775807) (h : m ≤ 8 * (n : Int) - p) :
    Calls Tryd.prog 38 #[.slice A n c, .int .i64 p, .int .i64 m] w fun e w' => e = .returned (.bool true) ∧ w = w' := by
  have hd : decide (m ≤ 8 * (n : Int) - p) = true := by simp; omega
  clear h
  go_enter Tryd.func38, Tryd.ntmps38
  go_wp2
  go_ret
  exact ⟨rfl, rfl⟩

set_option maxHeartbeats 400000 in
theorem holds_no (A : Option Addr) (n c : Nat) (p m : Int) (w : World) (hn : n ≤ 140737488355328) (h0 : 0 ≤ p) (p2 : p ≤ 9223372036854775807) (h : 8 * (n : Int) - p < m) :
    Calls Tryd.prog 38 #[.slice A n c, .int .i64 p, .int .i64 m] w fun e w' => e = .returned (.bool false) ∧ w = w' := by
  have hd : decide (m ≤ 8 * (n : Int) - p) = false := by simp; omega
  clear h
  go_enter Tryd.func38, Tryd.ntmps38
  go_wp2
  go_ret
  exact ⟨rfl, rfl⟩

set_option maxHeartbeats 400000 in
theorem check_any (A : Option Addr) (n c : Nat) (p m : Int) (w : World) (hn : n ≤ 140737488355328) (p2 : p ≤ 9223372036854775807) :
    Calls Tryd.prog 30 #[.slice A n c, .int .i64 p, .int .i64 m] w fun e w' => e = .returned (.int .i64 (getE n p m)) ∧ w = w' := by
  by_cases h1 : p < 0
  · rw [getE_one (Or.inl h1)]
    go_enter Tryd.func30, Tryd.ntmps30
    go_wp2
    go_ret
    exact ⟨rfl, rfl⟩
  · by_cases h2 : m < 0
    · rw [getE_one (Or.inr (Or.inl h2))]
      go_enter Tryd.func30, Tryd.ntmps30
      go_wp2
      go_ret
      exact ⟨rfl, rfl⟩
    · by_cases h3 : 64 < m
      · rw [getE_one (Or.inr (Or.inr h3))]
        go_enter Tryd.func30, Tryd.ntmps30
        go_wp2
        go_ret
        exact ⟨rfl, rfl⟩
      · by_cases h4 : 8 * (n : Int) - p < m
        · rw [getE_two (by omega) h4]
          have H4 := Lib.hid h4
          clear h4
          go_enter Tryd.func30, Tryd.ntmps30
          go_wp2_with (go_at_call 38; refine (holds_no _ _ _ _ _ _ hn (by omega) p2 H4.out).mono ?_; rintro e w' ⟨rfl, rfl⟩)
          go_ret
          exact ⟨rfl, rfl⟩
        · rw [getE_zero (by omega) h4]
          have H4 := Lib.hid (Int.not_lt.1 h4)
          clear h4
          go_enter Tryd.func30, Tryd.ntmps30
          go_wp2_with (go_at_call 38; refine (holds_yes _ _ _ _ _ _ hn (by omega) p2 H4.out).mono ?_; rintro e w' ⟨rfl, rfl⟩)
          go_ret
          exact ⟨rfl, rfl⟩

/-- A number, an error's number, and memory that is new alone. -/
def Got (w : World) (N E : Int) (e : Ending) (w' : World) : Prop := e = .returned (.tuple #[.int .u64 N, .int .i64 E]) ∧ Below w.heap.size w w'
/-- A slice that reads as xs, and an error's number. -/
def Laid (w : World) (xs : List Nat) (E : Int) (e : Ending) (w' : World) : Prop :=
  ∃ A n c, e = .returned (.tuple #[.slice A n c, .int .i64 E]) ∧ Bs w' w'.heap.size A n xs ∧ n ≤ c ∧ c ≤ 9223372036854775807 ∧ Below w.heap.size w w'

theorem getV_bad {xs : List Nat} {hi : Bool} {n : Nat} {p m : Int} (hx : xs.length = n) (h : getE n p m ≠ 0) : getV xs hi p m = 0 := by unfold getV; rw [hx, if_neg h]
theorem getV_ok {xs : List Nat} {hi : Bool} {n p m : Nat} (hx : xs.length = n) (h : getE n p m = 0) : getV xs hi p m = ((getN xs hi p m : Nat) : Int) := by unfold getV; rw [hx, if_pos h]; simp

set_option maxHeartbeats 400000 in
theorem high_bad (A : Option Addr) (n c : Nat) (p m : Int) (w : World) (hn : n ≤ 140737488355328) (p2 : p ≤ 9223372036854775807) (h : getE n p m ≠ 0) :
    Calls Tryd.prog 20 #[.slice A n c, .int .i64 p, .int .i64 m] w (Got w 0 (getE n p m)) := by
  have hb : (getE n p m != 0) = true := by simpa using h
  clear h
  go_enter Tryd.func20, Tryd.ntmps20
  go_wp2_with (go_at_call 30; refine (check_any _ _ _ _ _ _ hn p2).mono ?_; rintro e w' ⟨rfl, rfl⟩)
  go_ret2
  exact ⟨rfl, Below.refl _ _⟩

set_option maxHeartbeats 400000 in
theorem high_ok (A : Option Addr) (n c p m : Nat) (xs : List Nat) (w : World) (h : Bs w w.heap.size A n xs) (hn : n ≤ 140737488355328) (hm : m ≤ 64) (hp : p + m ≤ 8 * n) :
    Calls Tryd.prog 20 #[.slice A n c, .int .i64 (p : Int), .int .i64 (m : Int)] w (Got w ((getN xs true p m : Nat) : Int) 0) := by
  have hE := Lib.hid (show getE n p m = 0 from getE_zero (by omega) (by omega))
  rw [← turn_get xs p m hm]
  have H := Lib.hid h
  clear h
  go_enter Tryd.func20, Tryd.ntmps20
  go_wp2_with (first
    | (go_at_call 30; refine (check_any _ _ _ _ _ _ hn (by omega)).mono ?_; rw [hE.out]; rintro e w' ⟨rfl, rfl⟩)
    | (go_at_call 32; refine (read_any A n c p m true xs _ H.out hn hm hp).mono ?_; rintro e w1 ⟨rfl, hb1⟩)
    | (go_at_call 31; refine (turn_any _ m _ (rd_lt _ _ _ _ hm) hm).mono ?_; rintro e w' ⟨rfl, rfl⟩))
  go_ret2
  exact ⟨rfl, hb1⟩

theorem high_any (A : Option Addr) (n c : Nat) (p m : Int) (xs : List Nat) (w : World) (h : Bs w w.heap.size A n xs) (hn : n ≤ 140737488355328) (p2 : p ≤ 9223372036854775807) :
    Calls Tryd.prog 20 #[.slice A n c, .int .i64 p, .int .i64 m] w (Got w (getV xs true p m) (getE n p m)) := by
  by_cases hE : getE n p m = 0
  · obtain ⟨q1, q2, q3, q4⟩ := getE_ok hE
    obtain ⟨p', rfl⟩ := Int.eq_ofNat_of_zero_le q1
    obtain ⟨m', rfl⟩ := Int.eq_ofNat_of_zero_le q2
    rw [hE, getV_ok h.1 hE]
    exact high_ok A n c p' m' xs w h hn (by omega) (by omega)
  · rw [getV_bad h.1 hE]
    exact high_bad A n c p m w hn p2 hE

theorem quo_set (N m : Nat) : ((N : Int) / 2 ^ m != 0) = !decide (N < 2 ^ m) := by
  rw [show (N : Int) / 2 ^ m = ((N / 2 ^ m : Nat) : Int) from by simp]
  have hp : 0 < 2 ^ m := Nat.pow_pos (by omega)
  by_cases h : N < 2 ^ m
  · rw [Nat.div_eq_of_lt h]; simp [h]
  · have : 1 ≤ N / 2 ^ m := (Nat.le_div_iff_mul_le hp).2 (by omega)
    rw [show (((N / 2 ^ m : Nat) : Int) != 0) = true from bne_iff_ne.2 (by omega)]
    simp [h]

set_option maxHeartbeats 400000 in
theorem checkSet_any (A : Option Addr) (n c : Nat) (p m : Int) (N : Nat) (w : World) (hn : n ≤ 140737488355328) (p2 : p ≤ 9223372036854775807) :
    Calls Tryd.prog 34 #[.slice A n c, .int .i64 p, .int .i64 m, .int .u64 (N : Int)] w fun e w' => e = .returned (.int .i64 (setE n p m N)) ∧ w = w' := by
  by_cases hE : getE n p m = 0
  · obtain ⟨q1, q2, q3, q4⟩ := getE_ok hE
    obtain ⟨m', rfl⟩ := Int.eq_ofNat_of_zero_le q2
    have hq := quo_set N m'
    have hE' := Lib.hid hE
    by_cases hN : N < 2 ^ m'
    · have hS := Lib.hid (show setE n p m' N = 0 from by unfold setE; rw [if_pos hE]; simp [hN])
      have hq' : ((N : Int) / 2 ^ m' != 0) = false := by rw [hq]; simp [hN]
      rw [hS.out]
      clear hq hN hE
      go_enter Tryd.func34, Tryd.ntmps34
      go_wp2_with (go_at_call 30; refine (check_any _ _ _ _ _ _ hn p2).mono ?_; rw [hE'.out]; rintro e w' ⟨rfl, rfl⟩)
      go_ret
      exact ⟨rfl, rfl⟩
    · have hS := Lib.hid (show setE n p m' N = 10 from by unfold setE; rw [if_pos hE]; simp [hN])
      have hq' : ((N : Int) / 2 ^ m' != 0) = true := by rw [hq]; simp [hN]
      rw [hS.out]
      clear hq hN hE
      go_enter Tryd.func34, Tryd.ntmps34
      go_wp2_with (go_at_call 30; refine (check_any _ _ _ _ _ _ hn p2).mono ?_; rw [hE'.out]; rintro e w' ⟨rfl, rfl⟩)
      go_ret
      exact ⟨rfl, rfl⟩
  · have hS := Lib.hid (show setE n p m N = getE n p m from by unfold setE; rw [if_neg hE])
    have hb : (getE n p m != 0) = true := by simpa using hE
    rw [hS.out]
    clear hE
    go_enter Tryd.func34, Tryd.ntmps34
    go_wp2_with (go_at_call 30; refine (check_any _ _ _ _ _ _ hn p2).mono ?_; rintro e w' ⟨rfl, rfl⟩)
    go_ret
    exact ⟨rfl, rfl⟩

theorem setE_ok {n : Nat} {p m : Int} {N : Nat} (h : setE n p m N = 0) : getE n p m = 0 ∧ N < 2 ^ m.toNat := by
  unfold setE at h
  split at h
  · split at h
    · exact ⟨‹_›, ‹_›⟩
    · omega
  · contradiction

theorem setV_bad {xs : List Nat} {hi : Bool} {n : Nat} {p m : Int} {N : Nat} (hx : xs.length = n) (h : setE n p m N ≠ 0) : setV xs hi p m N = [] := by unfold setV; rw [hx, if_neg h]
theorem setV_ok {xs : List Nat} {hi : Bool} {n p m N : Nat} (hx : xs.length = n) (h : setE n p m N = 0) : setV xs hi p m N = st xs hi p m N := by unfold setV; rw [hx, if_pos h]; simp
theorem st_lt (xs : List Nat) (hi : Bool) (p m N : Nat) : ∀ x ∈ st xs hi p m N, x < 256 := lay_lt _ _ _ _ _
theorem st_length (xs : List Nat) (hi : Bool) (p m N : Nat) : (st xs hi p m N).length = xs.length := lay_length _ _ _ _ _

set_option maxHeartbeats 400000 in
theorem setHigh_bad (A : Option Addr) (n c : Nat) (p m : Int) (N : Nat) (w : World) (hn : n ≤ 140737488355328) (p2 : p ≤ 9223372036854775807) (h : setE n p m N ≠ 0) :
    Calls Tryd.prog 25 #[.slice A n c, .int .i64 p, .int .i64 m, .int .u64 (N : Int)] w (Laid w [] (setE n p m N)) := by
  have hb : (setE n p m N != 0) = true := by simpa using h
  clear h
  go_enter Tryd.func25, Tryd.ntmps25
  go_wp2_with (go_at_call 34; refine (checkSet_any _ _ _ _ _ _ _ hn p2).mono ?_; rintro e w' ⟨rfl, rfl⟩)
  go_ret2
  exact ⟨none, 0, 0, rfl, Bs.nil _ _ _, Nat.le_refl _, by omega, Below.refl _ _⟩

set_option maxHeartbeats 400000 in
theorem setHigh_ok (A : Option Addr) (n c p m N : Nat) (xs : List Nat) (w : World) (h : Bs w w.heap.size A n xs) (hn : n ≤ 140737488355328) (hm : m ≤ 64) (hp : p + m ≤ 8 * n) (hN : N < 18446744073709551616) (hS0 : setE n p m N = 0) :
    Calls Tryd.prog 25 #[.slice A n c, .int .i64 (p : Int), .int .i64 (m : Int), .int .u64 (N : Int)] w (Laid w (st xs true p m N) 0) := by
  have hS := Lib.hid hS0
  rw [← turn_lay xs p m N hm h.2.1]
  have H := Lib.hid h
  have hR := Lib.hid (show rv N / 2 ^ (64 - m) < 18446744073709551616 from Nat.lt_of_le_of_lt (Nat.div_le_self _ _) (rv_lt N))
  clear h hS0
  go_enter Tryd.func25, Tryd.ntmps25
  go_wp2_with (first
    | (go_at_call 34; refine (checkSet_any _ _ _ _ _ _ _ hn (by omega)).mono ?_; rw [hS.out]; rintro e w' ⟨rfl, rfl⟩)
    | (go_at_call 31; refine (turn_any N m _ hN hm).mono ?_; rintro e w' ⟨rfl, rfl⟩)
    | (go_at_call 35; refine (write_any A n c p m (rv N / 2 ^ (64 - m)) true xs _ H.out hn hm hp hR.out).mono ?_; rintro e w1 ⟨g, rfl, hg, hblk, hb1⟩))
  go_ret2
  exact ⟨_, n, n, rfl, hblk.bs (lay_lt _ _ _ _ _) n (by rw [lay_length, H.out.1]), Nat.le_refl _, by omega, hb1⟩

theorem setHigh_any (A : Option Addr) (n c : Nat) (p m : Int) (N : Nat) (xs : List Nat) (w : World) (h : Bs w w.heap.size A n xs) (hn : n ≤ 140737488355328) (p2 : p ≤ 9223372036854775807) (hN : N < 18446744073709551616) :
    Calls Tryd.prog 25 #[.slice A n c, .int .i64 p, .int .i64 m, .int .u64 (N : Int)] w (Laid w (setV xs true p m N) (setE n p m N)) := by
  by_cases hS : setE n p m N = 0
  · obtain ⟨q1, q2, q3, q4⟩ := getE_ok (setE_ok hS).1
    obtain ⟨p', rfl⟩ := Int.eq_ofNat_of_zero_le q1
    obtain ⟨m', rfl⟩ := Int.eq_ofNat_of_zero_le q2
    rw [hS, setV_ok h.1 hS]
    exact setHigh_ok A n c p' m' N xs w h hn (by omega) (by omega) hN hS
  · rw [setV_bad h.1 hS]
    exact setHigh_bad A n c p m N w hn p2 hS
end Go.Proofs.YtpdpjljfloanfaaDoor
