/- What Get of package field answers: the number of the bytes, or an error. -/
import Derived.Test.YtffcbfkdmenedaaSmall
import Derived.Test.YtffcbfkdmenedaaNum
namespace Go.Proofs.Ytffcbfkdmenedaa
open Go.RowKit
open Pl

set_option maxHeartbeats 400000 in
theorem get_bad (A : Option Addr) (n c : Nat) (p m : Int) (big : Bool) (w : World) (hn : n ≤ 9223372036854775807) (p2 : p ≤ 9223372036854775807) (h : getE n p m ≠ 0) :
    Calls Try.prog 7 #[.slice A n c, .int .i64 p, .int .i64 m, .bool big] w fun e w' => e = .returned (.tuple #[.int .i64 0, .int .i64 (getE n p m)]) ∧ w = w' := by
  have hb : (getE n p m != 0) = true := by simpa using h
  clear h
  go_enter Try.func7, Try.ntmps7
  go_wp2_with (go_at_call 18; refine (check_any _ _ _ _ _ _ hn p2).mono ?_; rintro e w' ⟨rfl, rfl⟩)
  go_ret2
  exact ⟨rfl, rfl⟩

set_option maxHeartbeats 400000 in
theorem get_ok (A : Option Addr) (n c p m : Nat) (big : Bool) (xs : List Nat) (w : World) (B : Nat) (h : Bs w B A n xs) (hc : n ≤ c) (hcm : c ≤ 9223372036854775807) (h1 : 1 ≤ m) (h4 : m ≤ 4) (hp : p + m ≤ n) :
    Calls Try.prog 7 #[.slice A n c, .int .i64 (p : Int), .int .i64 (m : Int), .bool big] w fun e w' => e = .returned (.tuple #[.int .i64 ((getN xs p m big : Nat) : Int), .int .i64 0]) ∧ w = w' := by
  obtain ⟨b, off, rfl, hb, hcell⟩ := h.2.2 (by omega)
  have hlen := cut_length xs p m (by rw [h.1]; omega)
  have hlt : ∀ i, (cut xs p m).getD i 0 < 256 := getD_lt (fun x hx => h.2.1 x (List.mem_of_mem_drop (List.mem_of_mem_take hx)))
  have hfin := Lib.hid (acc_num (cut xs p m) m big h1 h4 hlen)
  have hor := Lib.hid (acc_or (cut xs p m) m big hlt)
  have hal := Lib.hid (fun k hk => acc_lt (cut xs p m) m big hlt k hk h4)
  have hcl := Lib.hid (show ∀ i, i < m → w.cell? ⟨b, off + p + i, none⟩ = some (.int .u8 (((cut xs p m).getD i 0 : Nat) : Int)) from fun i hi => by
    rw [cut_getD xs p m i hi, Nat.add_assoc]; exact hcell (p + i) (by omega))
  have hlt' := Lib.hid hlt
  have hE := Lib.hid (show getE n p m = 0 from by unfold getE; rw [if_neg (by omega), if_neg (by omega)])
  have hgn := Lib.hid (show getN xs p m big = num (ord big (cut xs p m)) from rfl)
  generalize cut xs p m = ys at *
  clear hcell hlen hlt h
  go_enter Try.func7, Try.ntmps7
  go_wp2_with (first
    | (go_at_call 18; refine (check_any _ _ _ _ _ _ (by omega) (by omega)).mono ?_; rw [hE.out]; rintro e w' ⟨rfl, rfl⟩)
    | (go_at_call 19; refine (span_any b off n c p m _ (by omega) hp hc hcm).mono ?_; rintro e w' ⟨rfl, rfl⟩))
  go_loop [11, 26] (fun t i => ∃ k : Nat, k ≤ m ∧ i = .int .i64 k ∧ t = .int .i64 ((acc ys m big k : Nat) : Int)) (fun _ i => m - (intOf i).toNat)
  case atStart => exact ⟨0, Nat.zero_le _, rfl, rfl⟩
  case round =>
    obtain ⟨k, hk, rfl, rfl⟩ := hrel
    have ha := hal.out k hk
    have hy := hlt'.out k
    by_cases hlt : k < m
    · have hcx := hcl.out k hlt
      go_wp2_with (go_at_call 20; refine (shift_any k m big _ hlt h4).mono ?_; rintro e w' ⟨rfl, rfl⟩)
      go_round
      case rel =>
        have hs : sh k m big ≤ 24 := sh_le k m big hlt h4
        have hy' : ys[k]?.getD 0 < 256 := by simpa using hy
        refine ⟨k + 1, by omega, by go_num, ?_⟩
        rw [shl_small _ _ hy' hs, i64_or_nat _ _ (by omega) (by have := shl_lt _ _ hy' hs; omega)]
        have := hor.out k hlt
        simp only [List.getD_eq_getElem?_getD] at this
        rw [this]
      case measure => simp [intOf]; omega
    · obtain rfl : k = m := by omega
      go_wp2
      go_ret2
      exact ⟨ret2_eq (by rw [hgn.out, ← hfin.out]) rfl, rfl⟩

/-- For whatever arguments. -/
theorem get_any (A : Option Addr) (n c : Nat) (p m : Int) (big : Bool) (xs : List Nat) (w : World) (B : Nat) (h : Bs w B A n xs) (hc : n ≤ c) (hcm : c ≤ 9223372036854775807) (p2 : p ≤ 9223372036854775807) :
    Calls Try.prog 7 #[.slice A n c, .int .i64 p, .int .i64 m, .bool big] w fun e w' => e = .returned (.tuple #[.int .i64 (getV xs p m big), .int .i64 (getE n p m)]) ∧ w = w' := by
  by_cases hE : getE n p m = 0
  · obtain ⟨q1, q2, q3, q4⟩ := getE_ok hE
    obtain ⟨p', rfl⟩ := Int.eq_ofNat_of_zero_le q3
    obtain ⟨m', rfl⟩ := Int.eq_ofNat_of_zero_le (show 0 ≤ m by omega)
    refine (get_ok A n c p' m' big xs w B h hc hcm (by omega) (by omega) (by omega)).mono ?_
    rintro e w' ⟨rfl, rfl⟩
    exact ⟨ret2_eq (by unfold getV; rw [h.1, if_pos hE]; simp) hE.symm, rfl⟩
  · refine (get_bad A n c p m big w (by omega) p2 hE).mono ?_
    rintro e w' ⟨rfl, rfl⟩
    exact ⟨ret2_eq (by unfold getV; rw [h.1, if_neg hE]) rfl, rfl⟩
end Go.Proofs.Ytffcbfkdmenedaa
