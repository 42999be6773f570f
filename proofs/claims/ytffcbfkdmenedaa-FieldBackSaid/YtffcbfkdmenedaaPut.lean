/- What Put of package field answers: a copy with the number, or an error. -/
import Derived.Test.YtffcbfkdmenedaaSmall
import Derived.Test.YtffcbfkdmenedaaNum
namespace Go.Proofs.Ytffcbfkdmenedaa
open Go.RowKit
open Pl

/-- A new row of n bytes that reads as xs, and no error. -/
def Made (w : World) (n : Nat) (xs : List Nat) (e : Ending) (w' : World) : Prop :=
  ∃ g, e = .returned (.tuple #[.slice (some ⟨g, 0, none⟩) n n, .int .i64 0]) ∧ w.heap.size ≤ g ∧ Blk w' g 5 xs ∧ Below w.heap.size w w'

theorem quo_true (N : Int) (m : Nat) (h0 : 0 ≤ N) (h : 256 ^ m ≤ N) : (N / 2 ^ (8 * m) != 0) = true := by
  have e : (2 : Int) ^ (8 * m) = 256 ^ m := by rw [Int.pow_mul]; rfl
  have hp : (0 : Int) < 256 ^ m := Int.pow_pos (by omega)
  have : 1 ≤ N / 256 ^ m := by rw [Int.le_ediv_iff_mul_le hp]; omega
  rw [e]
  simp
  omega

theorem quo_false (N m : Nat) (h : N < 256 ^ m) : ((N : Int) / 2 ^ (8 * m) != 0) = false := by
  have e : ((2 : Int) ^ (8 * m)) = ((256 ^ m : Nat) : Int) := by rw [Int.pow_mul]; simp
  rw [e, ← Int.natCast_ediv, Nat.div_eq_of_lt h]
  rfl

set_option maxHeartbeats 400000 in
theorem put_bad (A : Option Addr) (n c : Nat) (p m N : Int) (big : Bool) (w : World) (hn : n ≤ 9223372036854775807) (p2 : p ≤ 9223372036854775807) (h : getE n p m ≠ 0) :
    Calls Try.prog 9 #[.slice A n c, .int .i64 p, .int .i64 m, .bool big, .int .i64 N] w fun e w' => e = .returned (.tuple #[.slice none 0 0, .int .i64 (getE n p m)]) ∧ w = w' := by
  have hb : (getE n p m != 0) = true := by simpa using h
  clear h
  go_enter Try.func9, Try.ntmps9
  go_wp2_with (go_at_call 18; refine (check_any _ _ _ _ _ _ hn p2).mono ?_; rintro e w' ⟨rfl, rfl⟩)
  go_ret2
  exact ⟨rfl, rfl⟩

set_option maxHeartbeats 400000 in
theorem put_over (A : Option Addr) (n c p m : Nat) (N : Int) (big : Bool) (w : World) (hn : n ≤ 9223372036854775807) (h1 : 1 ≤ m) (h4 : m ≤ 4) (hp : p + m ≤ n) (hN : N < 0 ∨ 256 ^ m ≤ N) (N2 : N ≤ 9223372036854775807) :
    Calls Try.prog 9 #[.slice A n c, .int .i64 (p : Int), .int .i64 (m : Int), .bool big, .int .i64 N] w fun e w' => e = .returned (.tuple #[.slice none 0 0, .int .i64 10]) ∧ w = w' := by
  have hE := Lib.hid (show getE n p m = 0 from by unfold getE; rw [if_neg (by omega), if_neg (by omega)])
  by_cases h0 : N < 0
  · clear hN
    go_enter Try.func9, Try.ntmps9
    go_wp2_with (go_at_call 18; refine (check_any _ _ _ _ _ _ hn (by omega)).mono ?_; rw [hE.out]; rintro e w' ⟨rfl, rfl⟩)
    go_ret2
    exact ⟨rfl, rfl⟩
  · have hq : (N / 2 ^ (8 * m) != 0) = true := quo_true N m (by omega) (by omega)
    clear hN
    go_enter Try.func9, Try.ntmps9
    go_wp2_with (go_at_call 18; refine (check_any _ _ _ _ _ _ hn (by omega)).mono ?_; rw [hE.out]; rintro e w' ⟨rfl, rfl⟩)
    go_ret2
    exact ⟨rfl, rfl⟩

set_option maxHeartbeats 400000 in
theorem put_ok (A : Option Addr) (n c p m N : Nat) (big : Bool) (xs : List Nat) (w : World) (h : Bs w w.heap.size A n xs) (hn : n ≤ 140737488355328) (h1 : 1 ≤ m) (h4 : m ≤ 4) (hp : p + m ≤ n) (hN : N < 256 ^ m) :
    Calls Try.prog 9 #[.slice A n c, .int .i64 (p : Int), .int .i64 (m : Int), .bool big, .int .i64 (N : Int)] w (Made w n (putL xs p m big N m)) := by
  have hE := Lib.hid (show getE n p m = 0 from by unfold getE; rw [if_neg (by omega), if_neg (by omega)])
  have hlen := Lib.hid h.1
  have hN4 : N < 4294967296 := Nat.lt_of_lt_of_le hN (show 256 ^ m ≤ 256 ^ 4 from Nat.pow_le_pow_right (by omega) h4)
  have hq : ((N : Int) / 2 ^ (8 * m) != 0) = false := quo_false N m hN
  have hx := Lib.hid h.2.1
  have h' := Lib.hid h
  clear hN h
  go_enter Try.func9, Try.ntmps9
  go_wp2_with (first
    | (go_at_call 18; refine (check_any _ _ _ _ _ _ (by omega) (by omega)).mono ?_; rw [hE.out]; rintro e w' ⟨rfl, rfl⟩)
    | (go_at_call 22; refine (clone_any A n c xs w h'.out (by omega)).mono ?_; rintro e w1 ⟨g, rfl, hg, hblk, hbel⟩)
    | (go_at_call 19; refine (span_any g 0 n n p m _ (by omega) hp (Nat.le_refl _) (by omega)).mono ?_; rintro e w' ⟨rfl, rfl⟩))
  go_loopw [40] (fun i wr => ∃ k : Nat, k ≤ m ∧ i = .int .i64 k ∧ Blk wr g 5 (putL xs p m big N k) ∧ Below w.heap.size w wr) (fun i _ => m - (intOf i).toNat)
  case atStart => exact ⟨0, Nat.zero_le _, rfl, hblk, hbel⟩
  case round =>
    obtain ⟨k, hk, rfl, hbl, hbw⟩ := hrel
    by_cases hlt : k < m
    · have hcx := hbl.cell (p + k) (by rw [putL_length, hlen.out]; omega)
      have hfx := hbl.frozen (p + k)
      go_wp2_with (go_at_call 20; refine (shift_any k m big _ hlt h4).mono ?_; rintro e w' ⟨rfl, rfl⟩)
      go_roundw
      case rel =>
        refine ⟨k + 1, by omega, by go_num, ?_, hbw.setCell (by exact hg) _⟩
        rw [shr_byte N _ (sh_le k m big hlt h4)]
        exact hbl.set_ (p + k) _
      case measure => simp [intOf]; omega
    · obtain rfl : k = m := by omega
      go_wp2
      go_ret2
      exact ⟨g, rfl, hg, hbl, hbw⟩
/-- A slice that reads as xs, and an error's number. -/
def Laid (w : World) (xs : List Nat) (E : Int) (e : Ending) (w' : World) : Prop :=
  ∃ A n c, e = .returned (.tuple #[.slice A n c, .int .i64 E]) ∧ Bs w' w'.heap.size A n xs ∧ n ≤ c ∧ c ≤ 9223372036854775807 ∧ Below w.heap.size w w'

/-- For whatever arguments. -/
theorem put_any (A : Option Addr) (n c : Nat) (p m N : Int) (big : Bool) (xs : List Nat) (w : World) (h : Bs w w.heap.size A n xs) (hn : n ≤ 140737488355328) (p2 : p ≤ 9223372036854775807) (N2 : N ≤ 9223372036854775807) :
    Calls Try.prog 9 #[.slice A n c, .int .i64 p, .int .i64 m, .bool big, .int .i64 N] w (Laid w (putV xs p m big N) (putE n p m N)) := by
  by_cases hE : getE n p m = 0
  · obtain ⟨q1, q2, q3, q4⟩ := getE_ok hE
    obtain ⟨p', rfl⟩ := Int.eq_ofNat_of_zero_le q3
    obtain ⟨m', rfl⟩ := Int.eq_ofNat_of_zero_le (show 0 ≤ m by omega)
    by_cases hN : N < 0 ∨ 256 ^ m' ≤ N
    · have hP : putE n p' m' N = 10 := by unfold putE; rw [if_neg (by simpa using hE), if_pos (by simpa using hN)]
      refine (put_over A n c p' m' N big w (by omega) (by omega) (by omega) (by omega) hN N2).mono ?_
      rintro e w' ⟨rfl, rfl⟩
      exact ⟨none, 0, 0, by rw [hP], by unfold putV; rw [h.1, hP, if_neg (by omega)]; exact Bs.nil _ _ _, Nat.le_refl _, by omega, Below.refl _ _⟩
    · have hP : putE n p' m' N = 0 := by unfold putE; rw [if_neg (by simpa using hE), if_neg (by simpa using hN)]
      obtain ⟨N', rfl⟩ := Int.eq_ofNat_of_zero_le (show 0 ≤ N by omega)
      refine (put_ok A n c p' m' N' big xs w h hn (by omega) (by omega) (by omega) (by
        have : ¬ ((256 ^ m' : Nat) : Int) ≤ N' := fun hh => hN (.inr (by simpa using hh))
        omega)).mono ?_
      rintro e w' ⟨g, rfl, hg, hblk, hbel⟩
      refine ⟨_, n, n, by rw [hP], ?_, Nat.le_refl _, by omega, hbel⟩
      unfold putV
      rw [h.1, hP, if_pos rfl]
      exact hblk.bs (putL_lt h.2.1 _ _ _ _ _) n (by rw [putL_length, h.1])
  · have hP : putE n p m N = getE n p m := by unfold putE; rw [if_pos hE]
    refine (put_bad A n c p m N big w (by omega) p2 hE).mono ?_
    rintro e w' ⟨rfl, rfl⟩
    exact ⟨none, 0, 0, by rw [hP], by unfold putV; rw [h.1, hP, if_neg hE]; exact Bs.nil _ _ _, Nat.le_refl _, by omega, Below.refl _ _⟩
end Go.Proofs.Ytffcbfkdmenedaa
