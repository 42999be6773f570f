/- Best: its closure, then itself; the reference's Sum and Best. -/
import Derived.Test.YtmiildmcebiicaaLvNear
namespace Go.Proofs.Ytmiildmcebiicaa
open Go.RowKit
open Lv

theorem sumV_next (x : Int) (l : List Int) (k n : Nat) (hn : l.length = n) (hk : k < n) (hx : sm x) (hl : ∀ z ∈ l, sm z) (hlen : n ≤ 1000) :
    sumV x (l.take (k + 1)) = sumV x (l.take k) + (x - l.getD k 0) * (x - l.getD k 0) ∧ (0 ≤ sumV x (l.take k) ∧ sumV x (l.take k) ≤ 9000000000000000) ∧ sm (l.getD k 0) := by
  refine ⟨sumV_take x l k (by omega), ?_, ?_⟩
  · have h1 := sumV_bd x (l.take k) hx fun z hz => hl z (List.mem_of_mem_take hz)
    have h2 : (l.take k).length ≤ 1000 := by rw [List.length_take]; omega
    omega
  · have h3 : k < l.length := by omega
    simp only [List.getD_eq_getElem?_getD, List.getElem?_eq_getElem h3, Option.getD_some]
    exact hl _ (List.getElem_mem h3)
theorem getD_sm (l : List Int) (k n : Nat) (hn : l.length = n) (hk : k < n) (hl : ∀ z ∈ l, sm z) : sm (l.getD k 0) := by
  have h3 : k < l.length := by omega
  simp only [List.getD_eq_getElem?_getD, List.getElem?_eq_getElem h3, Option.getD_some]
  exact hl _ (List.getElem_mem h3)

set_option maxHeartbeats 1000000 in
theorem best1_any (i : Nat) (B1 B2 : Nat) (Av Al : Option Addr) (nv cv nl cl : Nat) (vs ls : List Int) (D : Nat) (w : World)
    (h1 : w.cell? ⟨B1, 0, none⟩ = some (.slice Al nl cl)) (h2 : w.cell? ⟨B2, 0, none⟩ = some (.slice Av nv cv))
    (hv : Is w D Av nv vs) (hl : Is w D Al nl ls) (hi : i < nv) (sv : ∀ z ∈ vs, sm z) (sl : ∀ z ∈ ls, sm z) (hn : nl ≤ 1000) :
    Calls Try.prog 29 #[.int .i64 (i : Int), .pointer (some ⟨B1, 0, none⟩), .pointer (some ⟨B2, 0, none⟩)] w fun e w' => e = .returned (.int .i64 (sumV (vs.getD i 0) ls)) ∧ w = w' := by
  obtain ⟨bv, ov, rfl, -, hcv⟩ := hv.open (by omega)
  have hcx := hcv i hi
  have hx := getD_sm vs i nv hv.length hi sv
  clear hcv sv hv
  generalize vs.getD i 0 = x at *
  have HL := Lib.hid hl
  have HX := Lib.hid hx
  have SL := Lib.hid sl
  clear hl sl
  obtain ⟨x0, x1⟩ := hx
  go_enter Try.func29, Try.ntmps29
  go_wp2
  go_loop [5, 10] (fun t i => ∃ k : Nat, k ≤ nl ∧ i = .int .i64 k ∧ t = .int .i64 (sumV x (ls.take k))) (fun _ i => nl - (intOf i).toNat)
  case atStart => exact ⟨0, Nat.zero_le _, rfl, rfl⟩
  case round =>
    obtain ⟨k, hk, rfl, rfl⟩ := hrel
    by_cases hlt : k < nl
    · obtain ⟨bl, ol, rfl, -, hcl⟩ := HL.out.open (by omega)
      have hcy := hcl k hlt
      have hs := sumV_next x ls k nl HL.out.length hlt HX.out SL.out hn
      clear hcl
      generalize ls.getD k 0 = y at *
      obtain ⟨hs1, ⟨s0, s1⟩, y0, y1⟩ := hs
      have HS := Lib.hid hs1
      clear hs1
      generalize sumV x (ls.take k) = S at *
      have hq := sq_bd (x - y) (by omega) (by omega)
      have hS := Lib.hid (fun w => square_any (x - y) w (by omega) (by omega))
      generalize (x - y) * (x - y) = Z at *
      obtain ⟨q0, q1⟩ := hq
      go_wp2_with (go_at_call 27; with_reducible refine (hS.out _).mono ?_; rintro e w' ⟨rfl, rfl⟩)
      go_round
      case rel => exact ⟨k + 1, by omega, by go_num, by rw [HS.out]⟩
      case measure => simp [intOf]; omega
    · obtain rfl : k = nl := by omega
      go_wp2
      go_ret
      exact ⟨ret_int (by rw [List.take_of_length_le (by rw [HL.out.length]; omega)]), rfl⟩

set_option maxHeartbeats 1000000 in
theorem rsum_any (x : Int) (Al : Option Addr) (nl cl : Nat) (ls : List Int) (D : Nat) (w : World)
    (hl : Is w D Al nl ls) (hx : sm x) (sl : ∀ z ∈ ls, sm z) (hn : nl ≤ 1000) :
    Calls Try.prog 30 #[.int .i64 x, .slice Al nl cl] w fun e w' => e = .returned (.int .i64 (sumV x ls)) ∧ w = w' := by
  have HL := Lib.hid hl
  have HX := Lib.hid hx
  have SL := Lib.hid sl
  clear hl sl
  obtain ⟨x0, x1⟩ := hx
  go_enter Try.func30, Try.ntmps30
  go_wp2
  go_loop [5, 6] (fun t i => ∃ k : Nat, k ≤ nl ∧ i = .int .i64 k ∧ t = .int .i64 (sumV x (ls.take k))) (fun _ i => nl - (intOf i).toNat)
  case atStart => exact ⟨0, Nat.zero_le _, rfl, rfl⟩
  case round =>
    obtain ⟨k, hk, rfl, rfl⟩ := hrel
    by_cases hlt : k < nl
    · obtain ⟨bl, ol, rfl, -, hcl⟩ := HL.out.open (by omega)
      have hcy := hcl k hlt
      have hs := sumV_next x ls k nl HL.out.length hlt HX.out SL.out hn
      clear hcl
      generalize ls.getD k 0 = y at *
      obtain ⟨hs1, ⟨s0, s1⟩, y0, y1⟩ := hs
      have HS := Lib.hid hs1
      clear hs1
      generalize sumV x (ls.take k) = S at *
      have e : (x - y) * (x - y) = (y - x) * (y - x) := by rw [show y - x = -(x - y) from by omega, Int.neg_mul_neg]
      rw [e] at HS
      clear e
      have hq := sq_bd (y - x) (by omega) (by omega)
      have hS := Lib.hid (fun w => far_any (y - x) w (by omega) (by omega))
      generalize (y - x) * (y - x) = Z at *
      obtain ⟨q0, q1⟩ := hq
      go_wp2_with (go_at_call 28; with_reducible refine (hS.out _).mono ?_; rintro e w' ⟨rfl, rfl⟩)
      go_round
      case rel => exact ⟨k + 1, by omega, by go_num, by rw [HS.out]⟩
      case measure => simp [intOf]; omega
    · obtain rfl : k = nl := by omega
      go_wp2
      go_ret
      exact ⟨ret_int (by rw [List.take_of_length_le (by rw [HL.out.length]; omega)]), rfl⟩

set_option maxHeartbeats 1000000 in
theorem best_any (Av Al : Option Addr) (nv cv nl cl : Nat) (vs ls : List Int) (w : World) (hv : Is w w.heap.size Av nv vs) (hl : Is w w.heap.size Al nl ls)
    (sv : ∀ z ∈ vs, sm z) (sl : ∀ z ∈ ls, sm z) (hn : nl ≤ 1000) (hnv : nv ≤ 1000) :
    Calls Try.prog 18 #[.slice Av nv cv, .slice Al nl cl] w fun e w' => e = .returned (.int .i64 (bestV vs ls : Int)) ∧ Below w.heap.size w w' := by
  have HV := Lib.hid hv
  have HL := Lib.hid hl
  have SV := Lib.hid sv
  have SL := Lib.hid sl
  clear hv hl sv sl
  go_enter Try.func18, Try.ntmps18
  go_wp2_with fail
  refine (first_best _ _ nv (fun i => sumV (vs.getD i 0) ls) _ (by omega) ?_).mono ?_
  · intro q i hi
    have hb := two_below w (.slice Av nv cv) (.slice Al nl cl) 25 25 q
    refine (best1_any i (w.heap.size + 1) w.heap.size Av Al nv cv nl cl vs ls _ (((w.alloc (.cells #[.slice Av nv cv] 25)).alloc (.cells #[.slice Al nl cl] 25)).drewN q) (two_cells w _ _ 25 25).2 (two_cells w _ _ 25 25).1 (HV.out.later hb) (HL.out.later hb) hi SV.out SL.out hn).mono ?_
    rintro e w' ⟨rfl, rfl⟩
    exact ⟨rfl, _, rfl⟩
  · rintro e w' ⟨rfl, r, rfl⟩
    go_wp2
    go_ret
    exact ⟨ret_int (by rw [bestV, HV.out.length]; simp only [List.getD_eq_getElem?_getD]), two_below w _ _ _ _ _⟩

set_option maxHeartbeats 2000000 in
theorem rbest_any (Av Al : Option Addr) (nv cv nl cl : Nat) (vs ls : List Int) (w : World) (hv : Is w w.heap.size Av nv vs) (hl : Is w w.heap.size Al nl ls)
    (sv : ∀ z ∈ vs, sm z) (sl : ∀ z ∈ ls, sm z) (hn : nl ≤ 1000) (hnv : nv ≤ 1000) :
    Calls Try.prog 19 #[.slice Av nv cv, .slice Al nl cl] w fun e w' => e = .returned (.int .i64 (bestV vs ls : Int)) ∧ Below w.heap.size w w' := by
  have HV := Lib.hid hv
  have HL := Lib.hid hl
  have SV := Lib.hid sv
  have SL := Lib.hid sl
  clear hv hl sv sl
  obtain ⟨c, hc⟩ : ∃ c : Nat → Int, c = fun i => sumV (vs.getD i 0) ls := ⟨_, rfl⟩
  have HF := Lib.hid (show bestV vs ls = argm c nv from by rw [bestV, HV.out.length, hc])
  have HC := Lib.hid (show ∀ i, c i = sumV (vs.getD i 0) ls from fun i => by rw [hc])
  clear hc
  go_enter Try.func19, Try.ntmps19
  go_wp2
  by_cases hz : nv = 0
  · subst hz
    go_loopw [5, 6] (fun t i wr => i = .int .i64 1 ∧ t = .int .i64 0 ∧ wr = w) (fun _ i _ => 0)
    case atStart => exact ⟨rfl, rfl, rfl⟩
    case round =>
      obtain ⟨rfl, rfl, rfl⟩ := hrel
      go_wp2
      go_ret
      exact ⟨ret_int (by rw [HF.out]; rfl), Below.refl _ _⟩
  go_loopw [5, 6] (fun t i wr => ∃ k q : Nat, 1 ≤ k ∧ k ≤ nv ∧ i = .int .i64 k ∧ t = .int .i64 (argm c k : Int) ∧ wr = w.drewN q) (fun _ i _ => nv - (intOf i).toNat)
  case atStart => exact ⟨1, 0, by omega, by omega, rfl, by simp [argm], rfl⟩
  case round =>
    obtain ⟨k, q, hk0, hk, rfl, rfl, hwr⟩ := hrel
    by_cases hlt : k < nv
    · have hal := argm_lt c k (by omega)
      have hs := Lib.hid (show argm c (k + 1) = if c k < c (argm c k) then k else argm c k from rfl)
      generalize argm c k = t at *
      obtain ⟨bv, ov, rfl, -, hcv⟩ := HV.out.open (by omega)
      have hcx : wr.cell? ⟨bv, ov + k, none⟩ = some (.int .i64 (vs.getD k 0)) := by rw [hwr]; exact hcv k hlt
      have hcy : wr.cell? ⟨bv, ov + t, none⟩ = some (.int .i64 (vs.getD t 0)) := by rw [hwr]; exact hcv t (by omega)
      have S1 := Lib.hid (fun n => rsum_any _ Al nl cl ls w.heap.size (wr.drewN n) (HL.out.keep fun _ _ => by rw [hwr]; rfl) (getD_sm vs k nv HV.out.length hlt SV.out) SL.out hn)
      have S2 := Lib.hid (fun n => rsum_any _ Al nl cl ls w.heap.size (wr.drewN n) (HL.out.keep fun _ _ => by rw [hwr]; rfl) (getD_sm vs t nv HV.out.length (by omega) SV.out) SL.out hn)
      have HW := Lib.hid hwr
      clear hwr
      have e1 := HC.out k
      have e2 := HC.out t
      rw [← e1] at S1
      rw [← e2] at S2
      clear hcv HC HF e1 e2
      generalize vs.getD k 0 = x at *
      generalize vs.getD t 0 = y at *
      have i1 : (k : Int) < (nv : Int) := by omega
      have i2 : (t : Int) < (nv : Int) := by omega
      by_cases hcc : c k < c t
      · have hs' := Lib.hid (hs.out.trans (if_pos hcc))
        clear hs
        generalize c t = C2 at *
        generalize c k = C1 at *
        go_wp2_with fail
        go_quiet (first
          | (go_at_call 30; with_reducible exact quiet_same (S1.out _))
          | (go_at_call 30; with_reducible exact quiet_same (S2.out _)))
        go_wp2
        go_roundw
        case rel => exact ⟨k + 1, _, by omega, by omega, by go_num, by rw [hs'.out], by rw [HW.out, World.drewN_drewN]⟩
        case measure => simp [intOf]; omega
      · have hs' := Lib.hid (hs.out.trans (if_neg hcc))
        clear hs
        generalize c t = C2 at *
        generalize c k = C1 at *
        go_wp2_with fail
        go_quiet (first
          | (go_at_call 30; with_reducible exact quiet_same (S1.out _))
          | (go_at_call 30; with_reducible exact quiet_same (S2.out _)))
        go_wp2
        go_roundw
        case rel => exact ⟨k + 1, _, by omega, by omega, by go_num, by rw [hs'.out], by rw [HW.out, World.drewN_drewN]⟩
        case measure => simp [intOf]; omega
    · obtain rfl : k = nv := by omega
      subst hwr
      go_wp2
      go_ret
      exact ⟨ret_int (by rw [HF.out]), ⟨rfl, rfl, rfl, Nat.le_refl _, fun _ _ => rfl⟩⟩
end Go.Proofs.Ytmiildmcebiicaa
