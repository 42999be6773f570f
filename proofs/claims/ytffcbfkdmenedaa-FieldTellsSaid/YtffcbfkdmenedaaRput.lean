/- What the reference's Put answers: the same bytes as Put's. -/
import Derived.Test.YtffcbfkdmenedaaRget
import Derived.Test.YtffcbfkdmenedaaPut
namespace Go.Proofs.Ytffcbfkdmenedaa
open Go.RowKit
open Pl

set_option maxHeartbeats 400000 in
theorem rput_bad (A : Option Addr) (n c : Nat) (p m N : Int) (big : Bool) (xs : List Nat) (w : World) (B : Nat) (hB : Bs w B A n xs) (hn : n ≤ 140737488355328) (h : getE n p m ≠ 0) :
    Calls Try.prog 10 #[.slice A n c, .int .i64 p, .int .i64 m, .bool big, .int .i64 N] w fun e w' => e = .returned (.tuple #[.slice none 0 0, .int .i64 (getE n p m)]) ∧ w = w' := by
  have hb : (getE n p m != 0) = true := by simpa using h
  clear h
  go_enter Try.func10, Try.ntmps10
  go_wp2_with (go_at_call 8; refine (rget_any _ _ _ _ _ _ xs _ B hB hn).mono ?_; rintro e w' ⟨rfl, rfl⟩)
  go_ret2
  exact ⟨rfl, rfl⟩

theorem own_form {w : World} {base : Nat} {e : TypeId} {v : Value} {n : Nat} {xs : List Value} (h : w.ownsRow base e 1 v n xs) (hn : 0 < n) : ∃ g cap, v = .slice (some ⟨g, 0, none⟩) n cap ∧ base ≤ g ∧ n ≤ cap ∧ cap ≤ maxLen := by
  rcases h.2 with ⟨_, h0⟩ | ⟨g, cap, cur, hv, hb, _, hnc, hcm, _⟩
  · omega
  · exact ⟨g, cap, hv, hb, hnc, hcm⟩

set_option maxHeartbeats 400000 in
theorem rput_over (A : Option Addr) (n c p m : Nat) (N : Int) (big : Bool) (xs : List Nat) (w : World) (B : Nat) (hB : Bs w B A n xs) (hn : n ≤ 140737488355328) (h1 : 1 ≤ m) (h4 : m ≤ 4) (hp : p + m ≤ n) (hN : N < 0 ∨ 256 ^ m ≤ N) :
    Calls Try.prog 10 #[.slice A n c, .int .i64 (p : Int), .int .i64 (m : Int), .bool big, .int .i64 N] w fun e w' => e = .returned (.tuple #[.slice none 0 0, .int .i64 10]) ∧ w = w' := by
  have hE := Lib.hid (show getE n p m = 0 from by unfold getE; rw [if_neg (by omega), if_neg (by omega)])
  have HN := Lib.hid hN
  clear hN
  go_enter Try.func10, Try.ntmps10
  go_wp2_with (go_at_call 8; refine (rget_any _ _ _ _ _ _ xs _ B hB hn).mono ?_; rw [hE.out]; rintro e w' ⟨rfl, rfl⟩)
  go_loop [14, 15] (fun t i => ∃ k : Nat, k ≤ m ∧ i = .int .i64 k ∧ t = .int .i64 ((256 ^ k : Nat) : Int)) (fun _ i => m - (intOf i).toNat)
  case atStart => exact ⟨0, Nat.zero_le _, rfl, rfl⟩
  case round =>
    obtain ⟨k, hk, rfl, rfl⟩ := hrel
    have hpw := pow4 k (by omega)
    have hpp : 0 < 256 ^ k := Nat.pow_pos (by omega)
    obtain ⟨q, hq⟩ : ∃ q, q = 256 ^ k := ⟨_, rfl⟩
    rw [← hq] at hpw hpp ⊢
    have HQ := Lib.hid hq
    clear hq
    by_cases hlt : k < m
    · go_wp2
      go_round
      case rel => exact ⟨k + 1, by omega, by go_num, by rw [Nat.pow_succ, ← HQ.out]; go_num⟩
      case measure => simp [intOf]; omega
    · obtain rfl : k = m := by omega
      by_cases h0 : N < 0
      · go_wp2
        go_ret2
        exact ⟨rfl, rfl⟩
      · have hge : (q : Int) ≤ N := by
          rcases HN.out with h | h
          · omega
          · rw [HQ.out]; simpa using h
        go_wp2
        go_ret2
        exact ⟨rfl, rfl⟩

set_option maxHeartbeats 1000000 in
theorem rput_ok (A : Option Addr) (n c p m N : Nat) (big : Bool) (xs : List Nat) (w : World) (h : Bs w w.heap.size A n xs) (hn : n ≤ 140737488355328) (h1 : 1 ≤ m) (h4 : m ≤ 4) (hp : p + m ≤ n) (hN : N < 256 ^ m) :
    Calls Try.prog 10 #[.slice A n c, .int .i64 (p : Int), .int .i64 (m : Int), .bool big, .int .i64 (N : Int)] w (Laid w (putL xs p m big N m) 0) := by
  have hE := Lib.hid (show getE n p m = 0 from by unfold getE; rw [if_neg (by omega), if_neg (by omega)])
  have HN := Lib.hid hN
  have hN4 : N < 4294967296 := Nat.lt_of_lt_of_le hN (pow4 m h4)
  have hxs := Lib.hid h.2.1
  have hlen := Lib.hid h.1
  have H := Lib.hid h
  clear hN h
  go_enter Try.func10, Try.ntmps10
  go_wp2_with (go_at_call 8; refine (rget_any _ _ _ _ _ _ xs _ _ H.out hn).mono ?_; rw [hE.out]; rintro e w' ⟨rfl, rfl⟩)
  go_loop [14, 15] (fun t i => ∃ k : Nat, k ≤ m ∧ i = .int .i64 k ∧ t = .int .i64 ((256 ^ k : Nat) : Int)) (fun _ i => m - (intOf i).toNat)
  case atStart => exact ⟨0, Nat.zero_le _, rfl, rfl⟩
  case round =>
    obtain ⟨k, hk, rfl, rfl⟩ := hrel
    have hpw := pow4 k (by omega)
    have hpp : 0 < 256 ^ k := Nat.pow_pos (by omega)
    obtain ⟨q, hq⟩ : ∃ q, q = 256 ^ k := ⟨_, rfl⟩
    rw [← hq] at hpw hpp ⊢
    have HQ := Lib.hid hq
    clear hq
    by_cases hlt : k < m
    · go_wp2
      go_round
      case rel => exact ⟨k + 1, by omega, by go_num, by rw [Nat.pow_succ, ← HQ.out]; go_num⟩
      case measure => simp [intOf]; omega
    · obtain rfl : k = m := by omega
      have hNq : (N : Int) < (q : Int) := by rw [HQ.out]; have := HN.out; omega
      clear hlt
      have hm' := Lib.hid (show (w.alloc (.cells #[] 5)).ownsRow w.heap.size 5 1 (.slice (some ⟨w.heap.size, 0, none⟩) 0 0) 0 (u8s []) from World.ownsRow_made w #[] 0 (Nat.le_refl _) (by simp [maxLen]) (by simp))
      have hsr := Lib.hid (H.out.below ((Below.refl w.heap.size w).alloc (Nat.le_refl _) (.cells #[] 5)))
      have hB0 := Lib.hid ((Below.refl w.heap.size w).alloc (Nat.le_refl _) (.cells #[] 5))
      go_wp2_with (at_builtin; refine wpList_append_bs rfl (.tmp 44) (.tmp 45) 22 rfl w.heap.size 5 Try.underlying22 info_u8 (.slice (some ⟨w.heap.size, 0, none⟩) 0 0) 0 [] rfl hm'.out w.heap.size A n c xs rfl hsr.out (by omega) (by simp) ?_; intro v1 w1 hown hgr; obtain ⟨g, cap, rfl, hbg, hnc, hcm⟩ := own_form hown (by omega); have hown' := Lib.hid hown; have hgr' := Lib.hid hgr; clear hown hgr)
      have hB1 := hB0.out.grown hgr'.out (by simp) (by simp [Value.ownBlock])
      have hown1 : w1.ownsRow w.heap.size 5 1 (.slice (some ⟨g, 0, none⟩) n cap) n (u8s xs) := by simpa using hown'.out
      clear hown' hgr' hm' hsr hB0
      have ho1 := Lib.hid hown1
      clear hown1
      go_loopw [4, 17] (fun t i wr => ∃ j : Nat, j ≤ k ∧ i = .int .i64 j ∧ t = .int .i64 ((N / 256 ^ j : Nat) : Int) ∧ wr.ownsRow w.heap.size 5 1 (.slice (some ⟨g, 0, none⟩) n cap) n (u8s (rputL xs p k big N j)) ∧ Below w.heap.size w wr) (fun _ i _ => k - (intOf i).toNat)
      case atStart => exact ⟨0, Nat.zero_le _, rfl, by simp, ho1.out, hB1⟩
      case round =>
        obtain ⟨j, hj, rfl, rfl, hown, hbw⟩ := hrel
        have hle : N / 256 ^ j ≤ N := Nat.div_le_self _ _
        obtain ⟨r, hr⟩ : ∃ r, r = N / 256 ^ j := ⟨_, rfl⟩
        rw [← hr] at hle ⊢
        have HR := Lib.hid hr
        clear hr
        by_cases hlt : j < k
        · cases big
          · have hcx := (hown.cellAt (p + j) (by omega)).trans (u8s_getElem? _ (p + j) (by rw [rputL_length, hlen.out]; omega))
            have hfx := hown.frozenAt (p + j)
            have hst := Lib.hid (fun u => hown.stored (p + j) u)
            clear hown
            go_wp2
            go_roundw
            case rel =>
              have e1 : ((r : Int) % 256) = ((N / 256 ^ j % 256 : Nat) : Int) := by rw [← HR.out]; simp
              refine ⟨j + 1, by omega, by go_num, ?_, ?_, hbw.setCell (by exact hbg) _⟩
              · rw [← div_step, ← HR.out]; simp
              · rw [e1]
                have := (hst.out (.int .u8 ((N / 256 ^ j % 256 : Nat) : Int))).1
                rw [u8s_set] at this
                exact this
            case measure => simp [intOf]; omega
          · have hcx := (hown.cellAt (p + k - 1 - j) (by omega)).trans (u8s_getElem? _ (p + k - 1 - j) (by rw [rputL_length, hlen.out]; omega))
            have hfx := hown.frozenAt (p + k - 1 - j)
            have hst := Lib.hid (fun u => hown.stored (p + k - 1 - j) u)
            clear hown
            go_wp2
            go_roundw
            case rel =>
              have e1 : ((r : Int) % 256) = ((N / 256 ^ j % 256 : Nat) : Int) := by rw [← HR.out]; simp
              refine ⟨j + 1, by omega, by go_num, ?_, ?_, hbw.setCell (by exact hbg) _⟩
              · rw [← div_step, ← HR.out]; simp
              · rw [e1]
                have := (hst.out (.int .u8 ((N / 256 ^ j % 256 : Nat) : Int))).1
                rw [u8s_set] at this
                exact this
            case measure => simp [intOf]; omega
        · obtain rfl : j = k := by omega
          go_wp2
          go_ret2
          refine ⟨_, n, cap, rfl, ?_, by omega, by simpa [maxLen] using hcm, hbw⟩
          rw [← rputL_eq xs p j big N (by rw [hlen.out]; exact hp)]
          exact Bs.of_own hown (by rw [rputL_eq xs p j big N (by rw [hlen.out]; exact hp)]; exact putL_lt hxs.out _ _ _ _ _)

/-- For whatever arguments. -/
theorem rput_any (A : Option Addr) (n c : Nat) (p m N : Int) (big : Bool) (xs : List Nat) (w : World) (h : Bs w w.heap.size A n xs) (hn : n ≤ 140737488355328) :
    Calls Try.prog 10 #[.slice A n c, .int .i64 p, .int .i64 m, .bool big, .int .i64 N] w (Laid w (putV xs p m big N) (putE n p m N)) := by
  by_cases hE : getE n p m = 0
  · obtain ⟨q1, q2, q3, q4⟩ := getE_ok hE
    obtain ⟨p', rfl⟩ := Int.eq_ofNat_of_zero_le q3
    obtain ⟨m', rfl⟩ := Int.eq_ofNat_of_zero_le (show 0 ≤ m by omega)
    by_cases hN : N < 0 ∨ 256 ^ m' ≤ N
    · have hP : putE n p' m' N = 10 := by unfold putE; rw [if_neg (by simpa using hE), if_pos (by simpa using hN)]
      refine (rput_over A n c p' m' N big xs w _ h hn (by omega) (by omega) (by omega) hN).mono ?_
      rintro e w' ⟨rfl, rfl⟩
      exact ⟨none, 0, 0, by rw [hP], by unfold putV; rw [h.1, hP, if_neg (by omega)]; exact Bs.nil _ _ _, Nat.le_refl _, by omega, Below.refl _ _⟩
    · have hP : putE n p' m' N = 0 := by unfold putE; rw [if_neg (by simpa using hE), if_neg (by simpa using hN)]
      obtain ⟨N', rfl⟩ := Int.eq_ofNat_of_zero_le (show 0 ≤ N by omega)
      have hV : putV xs p' m' big N' = putL xs p' m' big N' m' := by
        unfold putV
        rw [h.1, hP, if_pos rfl]
        simp
      rw [hP, hV]
      exact rput_ok A n c p' m' N' big xs w h hn (by omega) (by omega) (by omega) (by
        have : ¬ ((256 ^ m' : Nat) : Int) ≤ N' := fun hh => hN (.inr (by simpa using hh))
        omega)
  · have hP : putE n p m N = getE n p m := by unfold putE; rw [if_pos hE]
    refine (rput_bad A n c p m N big xs w _ h hn hE).mono ?_
    rintro e w' ⟨rfl, rfl⟩
    exact ⟨none, 0, 0, by rw [hP], by unfold putV; rw [h.1, hP, if_neg hE]; exact Bs.nil _ _ _, Nat.le_refl _, by omega, Below.refl _ _⟩
end Go.Proofs.Ytffcbfkdmenedaa
