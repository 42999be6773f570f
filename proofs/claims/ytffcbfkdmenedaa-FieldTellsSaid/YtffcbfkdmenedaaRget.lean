/- What the reference's Get answers: the same numbers as Get's. -/
import Derived.Test.YtffcbfkdmenedaaSmall
import Derived.Test.YtffcbfkdmenedaaNum
namespace Go.Proofs.Ytffcbfkdmenedaa
open Go.RowKit
open Pl

set_option maxHeartbeats 400000 in
theorem rget_bad (A : Option Addr) (n c : Nat) (p m : Int) (big : Bool) (w : World) (hn : n ≤ 9223372036854775807) (h : getE n p m ≠ 0) :
    Calls Try.prog 8 #[.slice A n c, .int .i64 p, .int .i64 m, .bool big] w fun e w' => e = .returned (.tuple #[.int .i64 0, .int .i64 (getE n p m)]) ∧ w = w' := by
  by_cases h1 : m < 1
  · have hE := Lib.hid (show getE n p m = 1 from by unfold getE; rw [if_pos (by omega)])
    clear h
    go_enter Try.func8, Try.ntmps8
    go_wp2
    go_ret2
    exact ⟨ret2_eq rfl hE.out.symm, rfl⟩
  · by_cases h2 : 4 < m
    · have hE := Lib.hid (show getE n p m = 1 from by unfold getE; rw [if_pos (by omega)])
      clear h
      go_enter Try.func8, Try.ntmps8
      go_wp2
      go_ret2
      exact ⟨ret2_eq rfl hE.out.symm, rfl⟩
    · by_cases h3 : p < 0
      · have hE := Lib.hid (show getE n p m = 1 from by unfold getE; rw [if_pos (by omega)])
        clear h
        go_enter Try.func8, Try.ntmps8
        go_wp2
        go_ret2
        exact ⟨ret2_eq rfl hE.out.symm, rfl⟩
      · by_cases h5 : (n : Int) - p < m
        · have hE := Lib.hid (show getE n p m = 2 from by unfold getE; rw [if_neg (by omega), if_pos (by omega)])
          clear h
          by_cases h6 : p ≤ (n : Int)
          · have hd : decide (m ≤ (n : Int) - p) = false := by simp; omega
            have hd' : decide (p ≤ (n : Int)) = true := by simp; omega
            go_enter Try.func8, Try.ntmps8
            go_wp2
            go_ret2
            exact ⟨ret2_eq rfl hE.out.symm, rfl⟩
          · have hd' : decide (p ≤ (n : Int)) = false := by simp; omega
            go_enter Try.func8, Try.ntmps8
            go_wp2
            go_ret2
            exact ⟨ret2_eq rfl hE.out.symm, rfl⟩
        · exact absurd (show getE n p m = 0 from by unfold getE; rw [if_neg (by omega), if_neg (by omega)]) h

set_option maxHeartbeats 400000 in
theorem rget_ok (A : Option Addr) (n c p m : Nat) (big : Bool) (xs : List Nat) (w : World) (B : Nat) (h : Bs w B A n xs) (hn : n ≤ 140737488355328) (h1 : 1 ≤ m) (h4 : m ≤ 4) (hp : p + m ≤ n) :
    Calls Try.prog 8 #[.slice A n c, .int .i64 (p : Int), .int .i64 (m : Int), .bool big] w fun e w' => e = .returned (.tuple #[.int .i64 ((getN xs p m big : Nat) : Int), .int .i64 0]) ∧ w = w' := by
  obtain ⟨b, off, rfl, hb, hcell⟩ := h.2.2 (by omega)
  have hlen := cut_length xs p m (by rw [h.1]; omega)
  have hlt : ∀ i, (ord big (cut xs p m)).getD i 0 < 256 := ord_lt big _ (fun x hx => h.2.1 x (List.mem_of_mem_drop (List.mem_of_mem_take hx)))
  have hcl : ∀ k, k < m → w.cell? ⟨b, off + (if big then p + k else p + m - 1 - k), none⟩ = some (.int .u8 (((ord big (cut xs p m)).getD k 0 : Nat) : Int)) := by
    intro k hk
    cases big
    · rw [ord_small_getD _ _ (by omega), hlen, cut_getD xs p m _ (by omega)]
      have := hcell (p + (m - 1 - k)) (by omega)
      rw [show p + m - 1 - k = p + (m - 1 - k) from by omega]
      simpa using this
    · rw [ord_big, cut_getD xs p m _ hk]
      simpa using hcell (p + k) (by omega)
  have hzl : (ord big (cut xs p m)).length = m := by rw [ord_length, hlen]
  have hnt := Lib.hid (fun k (hk : k < m) => num_take (ord big (cut xs p m)) k (by omega))
  have hnl := Lib.hid (fun k (hk : k ≤ m) => Nat.lt_of_lt_of_le (num_take_lt (ord big (cut xs p m)) hlt k (by omega)) (pow4 k (by omega)))
  have hgn := Lib.hid (show getN xs p m big = num ((ord big (cut xs p m)).take m) from by rw [List.take_of_length_le (by omega)]; rfl)
  have hCL := Lib.hid hcl
  have hLT := Lib.hid hlt
  have g1 : decide ((p : Int) ≤ (n : Int)) = true := by simp; omega
  have g2 : decide ((m : Int) ≤ (n : Int) - (p : Int)) = true := by simp; omega
  generalize ord big (cut xs p m) = zs at *
  clear hcell hlen hlt h hcl hzl
  go_enter Try.func8, Try.ntmps8
  go_wp2
  go_loop [10, 11] (fun t i => ∃ k : Nat, k ≤ m ∧ i = .int .i64 k ∧ t = .int .i64 ((num (zs.take k) : Nat) : Int)) (fun _ i => m - (intOf i).toNat)
  case atStart => exact ⟨0, Nat.zero_le _, rfl, by simp [num]⟩
  case round =>
    obtain ⟨k, hk, rfl, rfl⟩ := hrel
    have ha := hnl.out k hk
    have hy := hLT.out k
    by_cases hlt : k < m
    · have hcx := hCL.out k hlt
      have hnx := Lib.hid (hnt.out k hlt)
      clear g1 g2
      cases big
      · have hcy : w.cell? ⟨b, off + (p + m - 1 - k), none⟩ = some (.int .u8 ((zs.getD k 0 : Nat) : Int)) := by simpa using hcx
        clear hcx
        go_wp2
        go_round
        case rel =>
          have hy' : zs[k]?.getD 0 < 256 := by simpa using hy
          refine ⟨k + 1, by omega, by go_num, ?_⟩
          rw [wrap64_small (((zs[k]?.getD 0 : Nat)) : Int) (by omega) (by omega), wrap64_small _ (by omega) (by omega), hnx.out]
          simp
        case measure => simp [intOf]; omega
      · have hcy : w.cell? ⟨b, off + (p + k), none⟩ = some (.int .u8 ((zs.getD k 0 : Nat) : Int)) := by simpa using hcx
        clear hcx
        go_wp2
        go_round
        case rel =>
          have hy' : zs[k]?.getD 0 < 256 := by simpa using hy
          refine ⟨k + 1, by omega, by go_num, ?_⟩
          rw [wrap64_small (((zs[k]?.getD 0 : Nat)) : Int) (by omega) (by omega), wrap64_small _ (by omega) (by omega), hnx.out]
          simp
        case measure => simp [intOf]; omega
    · obtain rfl : k = m := by omega
      go_wp2
      go_ret2
      exact ⟨ret2_eq (by rw [hgn.out]) rfl, rfl⟩
/-- For whatever arguments. -/
theorem rget_any (A : Option Addr) (n c : Nat) (p m : Int) (big : Bool) (xs : List Nat) (w : World) (B : Nat) (h : Bs w B A n xs) (hn : n ≤ 140737488355328) :
    Calls Try.prog 8 #[.slice A n c, .int .i64 p, .int .i64 m, .bool big] w fun e w' => e = .returned (.tuple #[.int .i64 (getV xs p m big), .int .i64 (getE n p m)]) ∧ w = w' := by
  by_cases hE : getE n p m = 0
  · obtain ⟨q1, q2, q3, q4⟩ := getE_ok hE
    obtain ⟨p', rfl⟩ := Int.eq_ofNat_of_zero_le q3
    obtain ⟨m', rfl⟩ := Int.eq_ofNat_of_zero_le (show 0 ≤ m by omega)
    refine (rget_ok A n c p' m' big xs w B h hn (by omega) (by omega) (by omega)).mono ?_
    rintro e w' ⟨rfl, rfl⟩
    exact ⟨ret2_eq (by unfold getV; rw [h.1, if_pos hE]; simp) hE.symm, rfl⟩
  · refine (rget_bad A n c p m big w (by omega) hE).mono ?_
    rintro e w' ⟨rfl, rfl⟩
    exact ⟨ret2_eq (by unfold getV; rw [h.1, if_neg hE]) rfl, rfl⟩
end Go.Proofs.Ytffcbfkdmenedaa
