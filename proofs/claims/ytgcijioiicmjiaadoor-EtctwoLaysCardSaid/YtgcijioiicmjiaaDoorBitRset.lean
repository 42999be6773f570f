/- What the reference's Set answers: the same bytes as SetLow's and SetHigh's. -/
import Derived.Test.YtgcijioiicmjiaaDoorBitRef
import Derived.StillTailTactics
set_option linter.all false
namespace Go.Proofs.YtgcijioiicmjiaaDoor
open Go.RowKit
open Bi

theorem own_form {w : World} {base : Nat} {e : TypeId} {v : Value} {n : Nat} {xs : List Value} (h : w.ownsRow base e 1 v n xs) (hn : 0 < n) : ∃ g cap, v = .slice (some ⟨g, 0, none⟩) n cap ∧ base ≤ g ∧ n ≤ cap ∧ cap ≤ maxLen := by
  rcases h.2 with ⟨_, h0⟩ | ⟨g, cap, cur, hv, hb, _, hnc, hcm, _⟩
  · omega
  · exact ⟨g, cap, hv, hb, hnc, hcm⟩
theorem own_form' {w : World} {base : Nat} {e : TypeId} {v : Value} {n : Nat} {xs : List Value} (h : w.ownsRow base e 1 v n xs) : ∃ A cap, v = .slice A n cap ∧ n ≤ cap ∧ cap ≤ 9223372036854775807 := by
  rcases h.2 with ⟨hv, h0⟩ | ⟨g, cap, cur, hv, hb, _, hnc, hcm, _⟩
  · exact ⟨none, 0, by rw [hv, h0], by omega, by omega⟩
  · exact ⟨_, cap, hv, hnc, by simpa [maxLen] using hcm⟩

theorem power_still (m : Nat) (w : World) (hm : m ≤ 63) :
    Calls Tryd.prog 88 #[.int .i64 (m : Int)] w fun e w' => e = .returned (.int .u64 ((2 ^ m : Nat) : Int)) ∧ w' = w :=
  (power_any m w hm).mono fun _ _ h => ⟨h.1, h.2.symm⟩

theorem set_val : ∀ x : Nat, x < 256 → ∀ j : Nat, j < 8 → ∀ b : Bool, wrap64 ((x : Int) + wrap64 (wrap64 ((b.toNat : Int) - ((x.testBit j).toNat : Int)) * wrap64 (2 ^ j))) % 256 = ((nm (fun q => if q = j then b else x.testBit q) 8 : Nat) : Int) := by
  decide +kernel

set_option maxRecDepth 100000 in
set_option maxHeartbeats 400000 in
theorem rset_bad (A : Option Addr) (n c : Nat) (p m : Int) (hi : Bool) (N : Nat) (xs : List Nat) (B : Nat) (w : World) (h : Bs w B A n xs) (hn : n ≤ 140737488355328) (hE : getE n p m ≠ 0) :
    Calls Tryd.prog 61 #[.slice A n c, .int .i64 p, .int .i64 m, .bool hi, .int .u64 (N : Int)] w (Laid w [] (getE n p m)) := by
  have hb : (getE n p m != 0) = true := by simpa using hE
  clear hE
  go_enter Tryd.func61, Tryd.ntmps61
  go_wp2_with (go_at_call 60; refine (rget_any _ _ _ _ _ _ xs B _ h hn).mono ?_; rintro e w' ⟨rfl, rfl⟩)
  go_ret2
  exact ⟨none, 0, 0, rfl, Bs.nil _ _ _, Nat.le_refl _, by omega, Below.refl _ _⟩

set_option maxRecDepth 100000 in
set_option maxHeartbeats 400000 in
theorem rset_over (A : Option Addr) (n c p m : Nat) (hi : Bool) (N : Nat) (xs : List Nat) (B : Nat) (w : World) (h : Bs w B A n xs) (hn : n ≤ 140737488355328) (hm : m ≤ 64) (hp : p + m ≤ 8 * n) (hN : 2 ^ m ≤ N) (hN2 : N < 18446744073709551616) :
    Calls Tryd.prog 61 #[.slice A n c, .int .i64 (p : Int), .int .i64 (m : Int), .bool hi, .int .u64 (N : Int)] w (Laid w [] 10) := by
  have hE := Lib.hid (show getE n p m = 0 from getE_zero (by omega) (by omega))
  have hm63 : m < 64 := by
    rcases Nat.lt_or_ge m 64 with h | h
    · exact h
    · obtain rfl : m = 64 := by omega
      omega
  have hq : decide ((2 : Int) ^ m ≤ (N : Int)) = true := by
    rw [show (2 : Int) ^ m = ((2 ^ m : Nat) : Int) from by simp]
    exact decide_eq_true (by omega)
  clear hN
  go_enter Tryd.func61, Tryd.ntmps61
  go_wp2_with (first
    | (go_at_call 60; refine (rget_any _ _ _ _ _ _ xs B _ h hn).mono ?_; rw [hE.out]; rintro e w' ⟨rfl, rfl⟩)
    | (go_at_call 88; refine (power_any m _ (by omega)).mono ?_; rintro e w' ⟨rfl, rfl⟩))
  go_ret2
  exact ⟨none, 0, 0, rfl, Bs.nil _ _ _, Nat.le_refl _, by omega, Below.refl _ _⟩

set_option maxRecDepth 100000 in
set_option maxHeartbeats 2000000 in
theorem rset_low (A : Option Addr) (n c p m N : Nat) (xs : List Nat) (w : World) (h : Bs w w.heap.size A n xs) (hn : n ≤ 140737488355328) (hm : m ≤ 64) (hp : p + m ≤ 8 * n) (hN : N < 2 ^ m) (hN2 : N < 18446744073709551616) :
    Calls Tryd.prog 61 #[.slice A n c, .int .i64 (p : Int), .int .i64 (m : Int), .bool false, .int .u64 (N : Int)] w (Laid w (st xs false p m N) 0) := by
  have hE := Lib.hid (show getE n p m = 0 from getE_zero (by omega) (by omega))
  have hq : decide ((2 : Int) ^ m ≤ (N : Int)) = false := by
    rw [show (2 : Int) ^ m = ((2 ^ m : Nat) : Int) from by simp]
    exact decide_eq_false (by omega)
  have hm' := Lib.hid (show (w.alloc (.cells #[] 5)).ownsRow w.heap.size 5 1 (.slice (some ⟨w.heap.size, 0, none⟩) 0 0) 0 (u8s []) from World.ownsRow_made w #[] 0 (Nat.le_refl _) (by simp [maxLen]) (by simp))
  have hB0 := Lib.hid ((Below.refl w.heap.size w).alloc (Nat.le_refl _) (.cells #[] 5))
  have hsr := Lib.hid (h.below hB0.out)
  have H := Lib.hid h
  have hz := Lib.hid (lay_zero xs false p (fun k => N.testBit k) h.2.1)
  have hF := Lib.hid (low_lay xs p m N)
  clear h hN
  rcases Nat.lt_or_ge m 64 with h64 | h64
  all_goals
    go_enter Tryd.func61, Tryd.ntmps61
    go_wp2_with (first
      | (go_at_call 60; refine (rget_any _ _ _ _ _ _ xs _ _ H.out hn).mono ?_; rw [hE.out]; rintro e w' ⟨rfl, rfl⟩)
      | (go_at_call 88; refine (power_any m _ (by omega)).mono ?_; rintro e w' ⟨rfl, rfl⟩)
      | (at_builtin; refine wpList_append_bs rfl (.tmp 39) (.tmp 40) 22 rfl w.heap.size 5 Tryd.underlying22 info_u8 (.slice (some ⟨w.heap.size, 0, none⟩) 0 0) 0 [] rfl hm'.out w.heap.size A n c xs rfl hsr.out (by omega) (by simp) ?_; intro v1 w1 hown hgr; obtain ⟨A1, cap, rfl, hnc, hcm⟩ := own_form' hown; have hown' := Lib.hid hown; have hgr' := Lib.hid hgr; clear hown hgr))
    have hB1 := hB0.out.grown hgr'.out (by simp) (by simp [Value.ownBlock])
    have ho1 := Lib.hid (show w1.ownsRow w.heap.size 5 1 (.slice A1 n cap) n (u8s xs) from by simpa using hown'.out)
    clear hown' hgr' hm' hsr hB0
    go_loopw [4, 15] (fun t i wr => ∃ k : Nat, k ≤ m ∧ i = .int .i64 k ∧ t = .int .u64 ((N / 2 ^ k : Nat) : Int) ∧ wr.ownsRow w.heap.size 5 1 (.slice A1 n cap) n (u8s (lay xs false p k fun k => N.testBit k)) ∧ Below w.heap.size w wr) (fun _ i _ => m - (intOf i).toNat)
    case atStart => exact ⟨0, Nat.zero_le _, rfl, by simp, by rw [hz.out]; exact ho1.out, hB1⟩
    case round =>
      obtain ⟨k, hk, rfl, rfl, hown, hbw⟩ := hrel
      clear ho1 hB1 hz
      have hle : N / 2 ^ k ≤ N := Nat.div_le_self _ _
      have hbitN := Lib.hid (bit_div N k)
      have hdiv := Lib.hid (show N / 2 ^ (k + 1) = N / 2 ^ k / 2 from by rw [Nat.pow_succ, Nat.div_div_eq_div_mul])
      obtain ⟨r, hr⟩ : ∃ r, r = N / 2 ^ k := ⟨_, rfl⟩
      rw [← hr] at hle hbitN hdiv ⊢
      have HR := Lib.hid hr
      clear hr
      by_cases hlt : k < m
      · obtain ⟨g, cap', hA, hbg, -, -⟩ := own_form hown (by omega)
        have hA1 : A1 = some ⟨g, 0, none⟩ := by injection hA
        clear hA
        subst hA1
        obtain ⟨q, hq8⟩ : ∃ q, q = (p + k) / 8 := ⟨_, rfl⟩
        obtain ⟨j, hj8⟩ : ∃ j, j = (p + k) % 8 := ⟨_, rfl⟩
        have hL := lay_length xs false p k fun k => N.testBit k
        rw [H.out.1] at hL
        have hj : j < 8 := by omega
        have hqn : q < n := by omega
        have hcx := (hown.cellAt q (by omega)).trans (u8s_getElem? _ q (by omega))
        have hfx := hown.frozenAt q
        have hx8 := getD_lt' (lay_lt xs false p k fun k => N.testBit k) q
        have hst := Lib.hid (fun u => hown.stored q u)
        have hBs := Lib.hid (Bs.of_own hown (lay_lt _ _ _ _ _))
        have hbt := Lib.hid (show bt (lay xs false p k fun k => N.testBit k) false (p + k) = ((lay xs false p k fun k => N.testBit k).getD q 0).testBit j from by unfold bt; rw [← hq8, ← hj8]; rfl)
        have hup := Lib.hid (lay_bit_up xs false p k (fun k => N.testBit k) (by rw [H.out.1]; omega))
        rw [← hq8, ← hj8] at hup
        have hq' : ((p : Int) + (k : Int)) / 8 = (q : Int) := by omega
        have hj' : ((p : Int) + (k : Int)) % 8 = (j : Int) := by omega
        generalize (lay xs false p k fun k => N.testBit k).getD q 0 = x at *
        clear hown hq8 hj8
        go_wp2_with (go_at_call 87; refine (rbit_at _ n _ _ (p + k) (by omega) false _ _ _ hBs.out hn (by omega)).mono ?_; rw [hbt.out]; rintro e w' ⟨rfl, rfl⟩)
        refine wp_region_still_tail 19 (by kernel_rfl) (by kernel_rfl) ?_
        simp only [List.take_succ_cons, List.take_zero, List.drop_succ_cons, List.drop_zero]
        change wpStill _ _ wr.drew (fun a' => wpList _ _ _ _ a' wr.drew) _ _
        have hcx2 : wr.drew.cell? ⟨g, q, none⟩ = some (.int .u8 (x : Int)) := hcx
        have hfx2 : wr.drew.frozen? ⟨g, q, none⟩ = false := hfx
        have hdr := Lib.hid (show ∀ v, wr.drew.setCell ⟨g, q, none⟩ v = (wr.setCell ⟨g, q, none⟩ v).drew from fun _ => rfl)
        have hqd : IntKind.i64.wrap (((p : Int) + (k : Int)).tdiv 8) = (q : Int) := by
          rw [Int.tdiv_eq_ediv_of_nonneg (by omega), hq', IntKind.wrap_i64]
          omega
        have hqi : (q : Int) < (n : Int) := by omega
        have hqw : IntKind.i64.wrap (q : Int) = (q : Int) := by rw [IntKind.wrap_i64]; omega
        generalize wr.drew = w2 at *
        iterate 13 still_step
        still_call (power_still j _ (by omega))
        iterate 5 still_step
        refine wpStill_nil ?_
        go_wp2
        go_roundw
        case rel =>
          have hw : (r : Int) % 2 = (((N.testBit k).toNat : Nat) : Int) := by rw [← hbitN.out]; simp
          refine ⟨k + 1, by omega, by go_num, by rw [hdiv.out]; simp, ?_, ?_⟩
          · rw [hw, set_val x hx8 j hj (N.testBit k), hdr.out]
            have := (hst.out (.int .u8 ((nm (fun q => if q = j then N.testBit k else x.testBit q) 8 : Nat) : Int))).1
            rw [u8s_set] at this
            rw [← hup.out]
            exact this
          · rw [hdr.out]
            exact (hbw.setCell (by exact hbg) _).drew
        case measure => simp [intOf]; omega
      · obtain rfl : k = m := by omega
        go_wp2
        go_ret2
        refine ⟨_, n, cap, rfl, ?_, by omega, by omega, hbw⟩
        rw [← hF.out]
        exact Bs.of_own hown (lay_lt _ _ _ _ _)
set_option maxRecDepth 100000 in
set_option maxHeartbeats 2000000 in
theorem rset_high (A : Option Addr) (n c p m N : Nat) (xs : List Nat) (w : World) (h : Bs w w.heap.size A n xs) (hn : n ≤ 140737488355328) (hm : m ≤ 64) (hp : p + m ≤ 8 * n) (hN : N < 2 ^ m) (hN2 : N < 18446744073709551616) :
    Calls Tryd.prog 61 #[.slice A n c, .int .i64 (p : Int), .int .i64 (m : Int), .bool true, .int .u64 (N : Int)] w (Laid w (st xs true p m N) 0) := by
  have hE := Lib.hid (show getE n p m = 0 from getE_zero (by omega) (by omega))
  have hq : decide ((2 : Int) ^ m ≤ (N : Int)) = false := by
    rw [show (2 : Int) ^ m = ((2 ^ m : Nat) : Int) from by simp]
    exact decide_eq_false (by omega)
  have hm' := Lib.hid (show (w.alloc (.cells #[] 5)).ownsRow w.heap.size 5 1 (.slice (some ⟨w.heap.size, 0, none⟩) 0 0) 0 (u8s []) from World.ownsRow_made w #[] 0 (Nat.le_refl _) (by simp [maxLen]) (by simp))
  have hB0 := Lib.hid ((Below.refl w.heap.size w).alloc (Nat.le_refl _) (.cells #[] 5))
  have hsr := Lib.hid (h.below hB0.out)
  have H := Lib.hid h
  have hz := Lib.hid (lay_zero xs true (p + m - 0) (fun i => N.testBit (0 - 1 - i)) h.2.1)
  have hF := Lib.hid (show lay xs true (p + m - m) m (fun i => N.testBit (m - 1 - i)) = st xs true p m N from by rw [Nat.add_sub_cancel]; simp [st])
  clear h hN
  rcases Nat.lt_or_ge m 64 with h64 | h64
  all_goals
    go_enter Tryd.func61, Tryd.ntmps61
    go_wp2_with (first
      | (go_at_call 60; refine (rget_any _ _ _ _ _ _ xs _ _ H.out hn).mono ?_; rw [hE.out]; rintro e w' ⟨rfl, rfl⟩)
      | (go_at_call 88; refine (power_any m _ (by omega)).mono ?_; rintro e w' ⟨rfl, rfl⟩)
      | (at_builtin; refine wpList_append_bs rfl (.tmp 39) (.tmp 40) 22 rfl w.heap.size 5 Tryd.underlying22 info_u8 (.slice (some ⟨w.heap.size, 0, none⟩) 0 0) 0 [] rfl hm'.out w.heap.size A n c xs rfl hsr.out (by omega) (by simp) ?_; intro v1 w1 hown hgr; obtain ⟨A1, cap, rfl, hnc, hcm⟩ := own_form' hown; have hown' := Lib.hid hown; have hgr' := Lib.hid hgr; clear hown hgr))
    have hB1 := hB0.out.grown hgr'.out (by simp) (by simp [Value.ownBlock])
    have ho1 := Lib.hid (show w1.ownsRow w.heap.size 5 1 (.slice A1 n cap) n (u8s xs) from by simpa using hown'.out)
    clear hown' hgr' hm' hsr hB0
    go_loopw [4, 15] (fun t i wr => ∃ k : Nat, k ≤ m ∧ i = .int .i64 k ∧ t = .int .u64 ((N / 2 ^ k : Nat) : Int) ∧ wr.ownsRow w.heap.size 5 1 (.slice A1 n cap) n (u8s (lay xs true (p + m - k) k fun i => N.testBit (k - 1 - i))) ∧ Below w.heap.size w wr) (fun _ i _ => m - (intOf i).toNat)
    case atStart => exact ⟨0, Nat.zero_le _, rfl, by simp, by rw [hz.out]; exact ho1.out, hB1⟩
    case round =>
      obtain ⟨k, hk, rfl, rfl, hown, hbw⟩ := hrel
      clear ho1 hB1 hz
      have hle : N / 2 ^ k ≤ N := Nat.div_le_self _ _
      have hbitN := Lib.hid (bit_div N k)
      have hdiv := Lib.hid (show N / 2 ^ (k + 1) = N / 2 ^ k / 2 from by rw [Nat.pow_succ, Nat.div_div_eq_div_mul])
      obtain ⟨r, hr⟩ : ∃ r, r = N / 2 ^ k := ⟨_, rfl⟩
      rw [← hr] at hle hbitN hdiv ⊢
      have HR := Lib.hid hr
      clear hr
      by_cases hlt : k < m
      · obtain ⟨g, cap', hA, hbg, -, -⟩ := own_form hown (by omega)
        have hA1 : A1 = some ⟨g, 0, none⟩ := by injection hA
        clear hA
        subst hA1
        obtain ⟨s, hs⟩ : ∃ s, s = p + m - 1 - k := ⟨_, rfl⟩
        obtain ⟨q, hq8⟩ : ∃ q, q = s / 8 := ⟨_, rfl⟩
        obtain ⟨j, hj8⟩ : ∃ j, j = 7 - s % 8 := ⟨_, rfl⟩
        have hL := lay_length xs true (p + m - k) k fun i => N.testBit (k - 1 - i)
        rw [H.out.1] at hL
        have hj : j < 8 := by omega
        have hqn : q < n := by omega
        have hcx := (hown.cellAt q (by omega)).trans (u8s_getElem? _ q (by omega))
        have hfx := hown.frozenAt q
        have hx8 := getD_lt' (lay_lt xs true (p + m - k) k fun i => N.testBit (k - 1 - i)) q
        have hst := Lib.hid (fun u => hown.stored q u)
        have hBs := Lib.hid (Bs.of_own hown (lay_lt _ _ _ _ _))
        have hbt := Lib.hid (show bt (lay xs true (p + m - k) k fun i => N.testBit (k - 1 - i)) true s = ((lay xs true (p + m - k) k fun i => N.testBit (k - 1 - i)).getD q 0).testBit j from by unfold bt; rw [← hq8, show pl (s % 8) true = j from by simp [pl]; omega])
        have hup := Lib.hid (lay_bit_down xs true s k (fun i => N.testBit (k - 1 - i)) (fun i => N.testBit (k + 1 - 1 - i)) (by rw [H.out.1]; omega) (fun i hi => by congr 1; omega))
        rw [← hq8, show pl (s % 8) true = j from by simp [pl]; omega, show s + 1 = p + m - k from by omega, show s = p + m - (k + 1) from by omega] at hup
        have hs' : (p : Int) + (m : Int) - 1 - (k : Int) = (s : Int) := by omega
        have hq' : (s : Int) / 8 = (q : Int) := by omega
        have hj' : 7 - (s : Int) % 8 = (j : Int) := by omega
        generalize (lay xs true (p + m - k) k fun i => N.testBit (k - 1 - i)).getD q 0 = x at *
        have hsn : s < 8 * n := by omega
        have HS := Lib.hid hs
        clear hown hq8 hj8 hs
        go_wp2_with (go_at_call 87; refine (rbit_at _ n _ _ s (by omega) true _ _ _ hBs.out hn (by omega)).mono ?_; rw [hbt.out]; rintro e w' ⟨rfl, rfl⟩)
        refine wp_region_still_tail 19 (by kernel_rfl) (by kernel_rfl) ?_
        simp only [List.take_succ_cons, List.take_zero, List.drop_succ_cons, List.drop_zero]
        change wpStill _ _ wr.drew (fun a' => wpList _ _ _ _ a' wr.drew) _ _
        have hcx2 : wr.drew.cell? ⟨g, q, none⟩ = some (.int .u8 (x : Int)) := hcx
        have hfx2 : wr.drew.frozen? ⟨g, q, none⟩ = false := hfx
        have hdr := Lib.hid (show ∀ v, wr.drew.setCell ⟨g, q, none⟩ v = (wr.setCell ⟨g, q, none⟩ v).drew from fun _ => rfl)
        have hqd : IntKind.i64.wrap ((s : Int).tdiv 8) = (q : Int) := by
          rw [Int.tdiv_eq_ediv_of_nonneg (by omega), hq', IntKind.wrap_i64]
          omega
        have hqi : (q : Int) < (n : Int) := by omega
        have hqw : IntKind.i64.wrap (q : Int) = (q : Int) := by rw [IntKind.wrap_i64]; omega
        generalize wr.drew = w2 at *
        iterate 13 still_step
        still_call (power_still j _ (by omega))
        iterate 5 still_step
        refine wpStill_nil ?_
        go_wp2
        go_roundw
        case rel =>
          have hw : (r : Int) % 2 = (((N.testBit k).toNat : Nat) : Int) := by rw [← hbitN.out]; simp
          refine ⟨k + 1, by omega, by go_num, by rw [hdiv.out]; simp, ?_, ?_⟩
          · rw [hw, set_val x hx8 j hj (N.testBit k), hdr.out]
            have := (hst.out (.int .u8 ((nm (fun q => if q = j then N.testBit k else x.testBit q) 8 : Nat) : Int))).1
            rw [u8s_set] at this
            rw [← hup.out]
            exact this
          · rw [hdr.out]
            exact (hbw.setCell (by exact hbg) _).drew
        case measure => simp [intOf]; omega
      · obtain rfl : k = m := by omega
        go_wp2
        go_ret2
        refine ⟨_, n, cap, rfl, ?_, by omega, by omega, hbw⟩
        rw [← hF.out]
        exact Bs.of_own hown (lay_lt _ _ _ _ _)

/-- For whatever arguments. -/
theorem rset_any (A : Option Addr) (n c : Nat) (p m : Int) (hi : Bool) (N : Nat) (xs : List Nat) (w : World) (h : Bs w w.heap.size A n xs) (hn : n ≤ 140737488355328) (hN : N < 18446744073709551616) :
    Calls Tryd.prog 61 #[.slice A n c, .int .i64 p, .int .i64 m, .bool hi, .int .u64 (N : Int)] w (Laid w (setV xs hi p m N) (setE n p m N)) := by
  by_cases hE : getE n p m = 0
  · obtain ⟨q1, q2, q3, q4⟩ := getE_ok hE
    obtain ⟨p', rfl⟩ := Int.eq_ofNat_of_zero_le q1
    obtain ⟨m', rfl⟩ := Int.eq_ofNat_of_zero_le q2
    by_cases hq : N < 2 ^ m'
    · have hS : setE n p' m' N = 0 := by unfold setE; rw [if_pos hE]; simp [hq]
      rw [hS, setV_ok h.1 hS]
      cases hi
      · exact rset_low A n c p' m' N xs w h hn (by omega) (by omega) hq hN
      · exact rset_high A n c p' m' N xs w h hn (by omega) (by omega) hq hN
    · have hS : setE n p' m' N = 10 := by unfold setE; rw [if_pos hE]; simp [hq]
      rw [hS, setV_bad h.1 (by omega)]
      exact rset_over A n c p' m' hi N xs _ w h hn (by omega) (by omega) (by omega) hN
  · have hS : setE n p m N = getE n p m := by unfold setE; rw [if_neg hE]
    rw [hS, setV_bad h.1 (by omega)]
    exact rset_bad A n c p m hi N xs _ w h hn hE
end Go.Proofs.YtgcijioiicmjiaaDoor
