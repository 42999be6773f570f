/- What Part of package field answers, and the reference's: the same bytes. -/
import Derived.Test.YtffcbfkdmenedaaPut
namespace Go.Proofs.Ytffcbfkdmenedaa
open Go.RowKit
open Pl

set_option maxHeartbeats 400000 in
theorem holds_yes (A : Option Addr) (n c : Nat) (p m : Int) (w : World) (hn : n ≤ 9223372036854775807) (h0 : 0 ≤ p) (hm : 0 ≤ m) (h : m ≤ (n : Int) - p) :
    Calls Try.prog 23 #[.slice A n c, .int .i64 p, .int .i64 m] w fun e w' => e = .returned (.bool true) ∧ w = w' := by
  have hd : decide (m ≤ (n : Int) - p) = true := by simp; omega
  go_enter Try.func23, Try.ntmps23
  go_wp2
  go_ret
  exact ⟨rfl, rfl⟩

set_option maxHeartbeats 400000 in
theorem room_yes (A : Option Addr) (n c : Nat) (p m : Int) (w : World) (hn : n ≤ 9223372036854775807) (h0 : 0 ≤ p) (hm : 0 ≤ m) (h : m ≤ (n : Int) - p) :
    Calls Try.prog 21 #[.slice A n c, .int .i64 p, .int .i64 m] w fun e w' => e = .returned (.bool true) ∧ w = w' := by
  have hd : decide (m ≤ (n : Int) - p) = true := by simp; omega
  have hd' : decide (p ≤ (n : Int)) = true := by simp; omega
  go_enter Try.func21, Try.ntmps21
  go_wp2
  go_ret
  exact ⟨rfl, rfl⟩

set_option maxHeartbeats 400000 in
theorem part_bad (A : Option Addr) (n c : Nat) (p m : Int) (w : World) (hn : n ≤ 9223372036854775807) (p2 : p ≤ 9223372036854775807) (h : partE n p m ≠ 0) :
    Calls Try.prog 11 #[.slice A n c, .int .i64 p, .int .i64 m] w fun e w' => e = .returned (.tuple #[.slice none 0 0, .int .i64 (partE n p m)]) ∧ w = w' := by
  by_cases h1 : p < 0
  · have hE := Lib.hid (show partE n p m = 1 from by unfold partE; rw [if_pos (by omega)])
    rw [hE.out]
    clear h
    go_enter Try.func11, Try.ntmps11
    go_wp2
    go_ret2
    exact ⟨rfl, rfl⟩
  · by_cases h2 : m < 0
    · have hE := Lib.hid (show partE n p m = 1 from by unfold partE; rw [if_pos (by omega)])
      rw [hE.out]
      clear h
      go_enter Try.func11, Try.ntmps11
      go_wp2
      go_ret2
      exact ⟨rfl, rfl⟩
    · by_cases h5 : (n : Int) - p < m
      · have hE := Lib.hid (show partE n p m = 2 from by unfold partE; rw [if_neg (by omega), if_pos (by omega)])
        rw [hE.out]
        clear h
        have hd : decide (m ≤ (n : Int) - p) = false := by simp; omega
        go_enter Try.func11, Try.ntmps11
        go_wp2
        go_ret2
        exact ⟨rfl, rfl⟩
      · exact absurd (show partE n p m = 0 from by unfold partE; rw [if_neg (by omega), if_neg (by omega)]) h

set_option maxHeartbeats 400000 in
theorem part_ok (A : Option Addr) (n c p m : Nat) (xs : List Nat) (w : World) (h : Bs w w.heap.size A n xs) (hn : n ≤ 140737488355328) (hc : n ≤ c) (hcm : c ≤ 9223372036854775807) (hp : p + m ≤ n) :
    Calls Try.prog 11 #[.slice A n c, .int .i64 (p : Int), .int .i64 (m : Int)] w (Laid w (cut xs p m) 0) := by
  by_cases hm : m = 0
  · subst hm
    have hx := Lib.hid (show cut xs p 0 = [] from by simp [cut])
    clear h
    go_enter Try.func11, Try.ntmps11
    go_wp2_with (first
      | (go_at_call 19; refine (span_none A n c p _ (by omega) hc hcm).mono ?_; rintro e w' ⟨A', rfl, rfl⟩)
      | (go_at_call 22; refine (clone_any _ 0 0 [] w (Bs.nil _ _ _) (by omega)).mono ?_; rintro e w1 ⟨g, rfl, hg, hblk, hbel⟩)
      | (go_at_call 23; refine (holds_yes _ _ _ _ _ _ (by omega) (by omega) (by omega) (by omega)).mono ?_; rintro e w' ⟨rfl, rfl⟩))
    go_ret2
    exact ⟨_, 0, 0, rfl, by rw [hx.out]; exact Bs.nil _ _ _, Nat.le_refl _, by omega, hbel⟩
  · obtain ⟨b, off, rfl, hb, hcell⟩ := h.2.2 (by omega)
    have hlen := cut_length xs p m (by rw [h.1]; omega)
    have hlt : ∀ x ∈ cut xs p m, x < 256 := fun x hx => h.2.1 x (List.mem_of_mem_drop (List.mem_of_mem_take hx))
    have hsub := Lib.hid (show Bs w w.heap.size (some ⟨b, off + p, none⟩) m (cut xs p m) from ⟨hlen, hlt, fun _ => ⟨b, off + p, rfl, hb, fun i hi => by
      rw [cut_getD xs p m i hi, Nat.add_assoc]; exact hcell (p + i) (by omega)⟩⟩)
    have hL := Lib.hid hlen
    have hT := Lib.hid hlt
    generalize cut xs p m = ys at *
    clear hcell hlen hlt h
    go_enter Try.func11, Try.ntmps11
    go_wp2_with (first
      | (go_at_call 19; refine (span_any b off n c p m _ (by omega) hp hc hcm).mono ?_; rintro e w' ⟨rfl, rfl⟩)
      | (go_at_call 22; refine (clone_any _ m m ys w hsub.out (by omega)).mono ?_; rintro e w1 ⟨g, rfl, hg, hblk, hbel⟩)
      | (go_at_call 23; refine (holds_yes _ _ _ _ _ _ (by omega) (by omega) (by omega) (by omega)).mono ?_; rintro e w' ⟨rfl, rfl⟩))
    go_ret2
    exact ⟨_, m, m, rfl, hblk.bs hT.out m hL.out, Nat.le_refl _, by omega, hbel⟩

theorem part_any (A : Option Addr) (n c : Nat) (p m : Int) (xs : List Nat) (w : World) (h : Bs w w.heap.size A n xs) (hn : n ≤ 140737488355328) (hc : n ≤ c) (hcm : c ≤ 9223372036854775807) (p2 : p ≤ 9223372036854775807) :
    Calls Try.prog 11 #[.slice A n c, .int .i64 p, .int .i64 m] w (Laid w (partV xs p m) (partE n p m)) := by
  by_cases hE : partE n p m = 0
  · obtain ⟨q1, q2, q3⟩ := partE_ok hE
    obtain ⟨p', rfl⟩ := Int.eq_ofNat_of_zero_le q1
    obtain ⟨m', rfl⟩ := Int.eq_ofNat_of_zero_le q2
    have hV : partV xs p' m' = cut xs p' m' := by
      unfold partV
      rw [h.1, if_pos hE]
      simp
    rw [hE, hV]
    exact part_ok A n c p' m' xs w h hn hc hcm (by omega)
  · refine (part_bad A n c p m w (by omega) p2 hE).mono ?_
    rintro e w' ⟨rfl, rfl⟩
    exact ⟨none, 0, 0, rfl, by unfold partV; rw [h.1, if_neg hE]; exact Bs.nil _ _ _, Nat.le_refl _, by omega, Below.refl _ _⟩

set_option maxHeartbeats 400000 in
theorem rpart_bad (A : Option Addr) (n c : Nat) (p m : Int) (w : World) (hn : n ≤ 9223372036854775807) (h : partE n p m ≠ 0) :
    Calls Try.prog 12 #[.slice A n c, .int .i64 p, .int .i64 m] w fun e w' => e = .returned (.tuple #[.slice none 0 0, .int .i64 (partE n p m)]) ∧ w = w' := by
  by_cases h1 : p < 0
  · have hE := Lib.hid (show partE n p m = 1 from by unfold partE; rw [if_pos (by omega)])
    rw [hE.out]
    clear h
    go_enter Try.func12, Try.ntmps12
    go_wp2
    go_ret2
    exact ⟨rfl, rfl⟩
  · by_cases h2 : m < 0
    · have hE := Lib.hid (show partE n p m = 1 from by unfold partE; rw [if_pos (by omega)])
      rw [hE.out]
      clear h
      go_enter Try.func12, Try.ntmps12
      go_wp2
      go_ret2
      exact ⟨rfl, rfl⟩
    · by_cases h5 : (n : Int) - p < m
      · have hE := Lib.hid (show partE n p m = 2 from by unfold partE; rw [if_neg (by omega), if_pos (by omega)])
        rw [hE.out]
        clear h
        by_cases h6 : p ≤ (n : Int)
        · have hd : decide (m ≤ (n : Int) - p) = false := by simp; omega
          have hd' : decide (p ≤ (n : Int)) = true := by simp; omega
          go_enter Try.func12, Try.ntmps12
          go_wp2
          go_ret2
          exact ⟨rfl, rfl⟩
        · have hd' : decide (p ≤ (n : Int)) = false := by simp; omega
          go_enter Try.func12, Try.ntmps12
          go_wp2
          go_ret2
          exact ⟨rfl, rfl⟩
      · exact absurd (show partE n p m = 0 from by unfold partE; rw [if_neg (by omega), if_neg (by omega)]) h

theorem slice_eq {A A' : Option Addr} {n n' c c' : Nat} (h : A = A') (k : n = n') (l : c = c') : Value.slice A n c = .slice A' n' c' := by rw [h, k, l]

theorem own_form' {w : World} {base : Nat} {e : TypeId} {v : Value} {n : Nat} {xs : List Value} (h : w.ownsRow base e 1 v n xs) : ∃ A cap, v = .slice A n cap ∧ n ≤ cap ∧ cap ≤ 9223372036854775807 := by
  rcases h.2 with ⟨hv, h0⟩ | ⟨g, cap, cur, hv, hb, _, hnc, hcm, _⟩
  · exact ⟨none, 0, by rw [hv, h0], by omega, by omega⟩
  · exact ⟨_, cap, hv, hnc, by simpa [maxLen] using hcm⟩

set_option maxHeartbeats 400000 in
theorem rpart_ok (A : Option Addr) (n c p m : Nat) (xs : List Nat) (w : World) (h : Bs w w.heap.size A n xs) (hn : n ≤ 140737488355328) (hc : n ≤ c) (hcm : c ≤ 9223372036854775807) (hp : p + m ≤ n) :
    Calls Try.prog 12 #[.slice A n c, .int .i64 (p : Int), .int .i64 (m : Int)] w (Laid w (cut xs p m) 0) := by
  have hm' := Lib.hid (show (w.alloc (.cells #[] 5)).ownsRow w.heap.size 5 1 (.slice (some ⟨w.heap.size, 0, none⟩) 0 0) 0 (u8s []) from World.ownsRow_made w #[] 0 (Nat.le_refl _) (by simp [maxLen]) (by simp))
  have hB0 := Lib.hid ((Below.refl w.heap.size w).alloc (Nat.le_refl _) (.cells #[] 5))
  by_cases hm : m = 0
  · subst hm
    have hx := Lib.hid (show cut xs p 0 = [] from by simp [cut])
    clear h
    go_enter Try.func12, Try.ntmps12
    go_wp2_with (first | (at_builtin; refine wpList_append_bs rfl (.tmp 19) (.tmp 25) 22 rfl w.heap.size 5 Try.underlying22 info_u8 (.slice (some ⟨w.heap.size, 0, none⟩) 0 0) 0 [] rfl hm'.out w.heap.size _ 0 _ [] rfl (Bs.nil _ _ _) (by omega) (by simp) ?_; intro v1 w1 hown hgr; obtain ⟨A1, cap, rfl, hnc, hcm⟩ := own_form' hown; have hown' := Lib.hid hown; have hgr' := Lib.hid hgr; clear hown hgr) | (go_at_call 21; refine (room_yes _ _ _ _ _ _ (by omega) (by omega) (by omega) (by omega)).mono ?_; rintro e w' ⟨rfl, rfl⟩))
    all_goals
      have hB1 := hB0.out.grown hgr'.out (by simp) (by simp [Value.ownBlock])
      go_ret2
      exact ⟨_, 0, _, rfl, by rw [hx.out]; exact Bs.nil _ _ _, by omega, by omega, hB1⟩
  · obtain ⟨b, off, rfl, hb, hcell⟩ := h.2.2 (by omega)
    have hlen := cut_length xs p m (by rw [h.1]; omega)
    have hlt : ∀ x ∈ cut xs p m, x < 256 := fun x hx => h.2.1 x (List.mem_of_mem_drop (List.mem_of_mem_take hx))
    have hsub := Lib.hid ((show Bs w w.heap.size (some ⟨b, off + p, none⟩) m (cut xs p m) from ⟨hlen, hlt, fun _ => ⟨b, off + p, rfl, hb, fun i hi => by
      rw [cut_getD xs p m i hi, Nat.add_assoc]; exact hcell (p + i) (by omega)⟩⟩).below hB0.out)
    have hT := Lib.hid hlt
    generalize cut xs p m = ys at *
    clear hcell hlen hlt h
    go_enter Try.func12, Try.ntmps12
    go_wp2_with (first | (at_builtin; refine wpList_append_bs rfl (.tmp 19) (.tmp 25) 22 rfl w.heap.size 5 Try.underlying22 info_u8 (.slice (some ⟨w.heap.size, 0, none⟩) 0 0) 0 [] rfl hm'.out w.heap.size (some ⟨b, off + p, none⟩) m _ ys (slice_eq rfl (by omega) rfl) hsub.out (by omega) (by simp) ?_; intro v1 w1 hown hgr; obtain ⟨A1, cap, rfl, hnc, hcm⟩ := own_form' hown; have hown' := Lib.hid hown; have hgr' := Lib.hid hgr; clear hown hgr) | (go_at_call 21; refine (room_yes _ _ _ _ _ _ (by omega) (by omega) (by omega) (by omega)).mono ?_; rintro e w' ⟨rfl, rfl⟩))
    have hB1 := hB0.out.grown hgr'.out (by simp) (by simp [Value.ownBlock])
    go_ret2
    exact ⟨_, m, _, rfl, Bs.of_own (by simpa using hown'.out) hT.out, by omega, by omega, hB1⟩

theorem rpart_any (A : Option Addr) (n c : Nat) (p m : Int) (xs : List Nat) (w : World) (h : Bs w w.heap.size A n xs) (hn : n ≤ 140737488355328) (hc : n ≤ c) (hcm : c ≤ 9223372036854775807) :
    Calls Try.prog 12 #[.slice A n c, .int .i64 p, .int .i64 m] w (Laid w (partV xs p m) (partE n p m)) := by
  by_cases hE : partE n p m = 0
  · obtain ⟨q1, q2, q3⟩ := partE_ok hE
    obtain ⟨p', rfl⟩ := Int.eq_ofNat_of_zero_le q1
    obtain ⟨m', rfl⟩ := Int.eq_ofNat_of_zero_le q2
    have hV : partV xs p' m' = cut xs p' m' := by
      unfold partV
      rw [h.1, if_pos hE]
      simp
    rw [hE, hV]
    exact rpart_ok A n c p' m' xs w h hn hc hcm (by omega)
  · refine (rpart_bad A n c p m w (by omega) hE).mono ?_
    rintro e w' ⟨rfl, rfl⟩
    exact ⟨none, 0, 0, rfl, by unfold partV; rw [h.1, if_neg hE]; exact Bs.nil _ _ _, Nat.le_refl _, by omega, Below.refl _ _⟩
end Go.Proofs.Ytffcbfkdmenedaa
