/- What Lows of package bits answers, and the reference's: the same numbers. -/
import Derived.Test.YteefmgchkhbdpaaBitRset
import Derived.Test.YteefmgchkhbdpaaInts
import Derived.Laws.OwnMore
namespace Go.Proofs.Yteefmgchkhbdpaa
open Go.RowKit
open Bi

def lowsE (n : Nat) (p m k : Int) : Int := if p < 0 ∨ m < 0 ∨ 16 < m ∨ k < 0 ∨ 64 < k then 1 else if 8 * (n : Int) - p < m * k then 2 else 0
/-- The first i numbers of K, and noughts. -/
def lowsP (xs : List Nat) (p m K i : Nat) : List Int := (List.range K).map fun j => if j < i then ((getN xs false (p + j * m) m : Nat) : Int) else 0
def lowsL (xs : List Nat) (p m K : Nat) : List Int := (List.range K).map fun j => ((getN xs false (p + j * m) m : Nat) : Int)
def lowsV (xs : List Nat) (p m k : Int) : List Int := if lowsE xs.length p m k = 0 then lowsL xs p.toNat m.toNat k.toNat else []

theorem lowsP_length (xs : List Nat) (p m K i : Nat) : (lowsP xs p m K i).length = K := by simp [lowsP]
theorem lowsL_length (xs : List Nat) (p m K : Nat) : (lowsL xs p m K).length = K := by simp [lowsL]
theorem lowsP_zero (xs : List Nat) (p m K : Nat) : lowsP xs p m K 0 = List.replicate K 0 := by
  apply List.ext_getElem (by simp [lowsP])
  intro i h1 h2
  simp [lowsP]
theorem lowsP_full (xs : List Nat) (p m K : Nat) : lowsP xs p m K K = lowsL xs p m K := by
  unfold lowsP lowsL
  apply List.map_congr_left
  intro j hj
  simp at hj
  simp [hj]
theorem lowsP_set (xs : List Nat) (p m K i : Nat) : (lowsP xs p m K i).set i ((getN xs false (p + i * m) m : Nat) : Int) = lowsP xs p m K (i + 1) := by
  apply List.ext_getElem (by simp [lowsP])
  intro j h1 h2
  simp only [lowsP, List.getElem_set, List.getElem_map, List.getElem_range]
  by_cases h : i = j
  · subst h; simp
  · simp [h, show j < i + 1 ↔ j < i by omega]
theorem lowsL_succ (xs : List Nat) (p m K : Nat) : lowsL xs p m K ++ [((getN xs false (p + K * m) m : Nat) : Int)] = lowsL xs p m (K + 1) := by simp [lowsL, List.range_succ]

theorem lowsE_ok {n : Nat} {p m k : Int} (h : lowsE n p m k = 0) : 0 ≤ p ∧ 0 ≤ m ∧ m ≤ 16 ∧ 0 ≤ k ∧ k ≤ 64 ∧ m * k ≤ 8 * n - p := by
  unfold lowsE at h
  split at h
  · omega
  · split at h
    · omega
    · refine ⟨by omega, by omega, by omega, by omega, by omega, by omega⟩
theorem lowsV_bad {xs : List Nat} {n : Nat} {p m k : Int} (hx : xs.length = n) (h : lowsE n p m k ≠ 0) : lowsV xs p m k = [] := by unfold lowsV; rw [hx, if_neg h]
theorem lowsV_ok {xs : List Nat} {n p m k : Nat} (hx : xs.length = n) (h : lowsE n p m k = 0) : lowsV xs p m k = lowsL xs p m k := by unfold lowsV; rw [hx, if_pos h]; simp

/-- A slice of numbers that reads as zs, and an error's number. -/
def LaidI (w : World) (zs : List Int) (E : Int) (e : Ending) (w' : World) : Prop :=
  ∃ A n c, e = .returned (.tuple #[.slice A n c, .int .i64 E]) ∧ Is w' w'.heap.size A n zs ∧ Below w.heap.size w w'

theorem mul_le (m k : Int) (h0 : 0 ≤ m) (h1 : m ≤ 16) (h2 : 0 ≤ k) (h3 : k ≤ 64) : 0 ≤ m * k ∧ m * k ≤ 1024 := by
  refine ⟨Int.mul_nonneg h0 h2, ?_⟩
  have := Int.mul_le_mul h1 h3 h2 (by omega)
  omega

theorem info_int : (Try.prog.info? 3).map (fun i => (i.zero, i.size, i.bytes)) = some (some (.int .i64 0), 1, 8) := by kernel_rfl

set_option maxHeartbeats 400000 in
theorem lows_bad (A : Option Addr) (n c : Nat) (p m k : Int) (w : World) (hn : n ≤ 140737488355328) (p2 : p ≤ 9223372036854775807) (h : lowsE n p m k ≠ 0) :
    Calls Try.prog 67 #[.slice A n c, .int .i64 p, .int .i64 m, .int .i64 k] w (LaidI w [] (lowsE n p m k)) := by
  by_cases h1 : p < 0 ∨ m < 0 ∨ 16 < m ∨ k < 0 ∨ 64 < k
  · have hE : lowsE n p m k = 1 := by unfold lowsE; rw [if_pos h1]
    rw [hE]
    clear h hE
    by_cases a1 : p < 0
    · clear h1
      go_enter Try.func67, Try.ntmps67
      go_wp2
      go_ret2
      exact ⟨none, 0, 0, rfl, Is.nil _ _ _, Below.refl _ _⟩
    · by_cases a2 : m < 0
      · clear h1
        go_enter Try.func67, Try.ntmps67
        go_wp2
        go_ret2
        exact ⟨none, 0, 0, rfl, Is.nil _ _ _, Below.refl _ _⟩
      · by_cases a3 : 16 < m
        · clear h1
          go_enter Try.func67, Try.ntmps67
          go_wp2
          go_ret2
          exact ⟨none, 0, 0, rfl, Is.nil _ _ _, Below.refl _ _⟩
        · by_cases a4 : k < 0
          · clear h1
            go_enter Try.func67, Try.ntmps67
            go_wp2
            go_ret2
            exact ⟨none, 0, 0, rfl, Is.nil _ _ _, Below.refl _ _⟩
          · have a5 : 64 < k := by omega
            clear h1
            go_enter Try.func67, Try.ntmps67
            go_wp2
            go_ret2
            exact ⟨none, 0, 0, rfl, Is.nil _ _ _, Below.refl _ _⟩
  · have hb := mul_le m k (by omega) (by omega) (by omega) (by omega)
    by_cases h2 : 8 * (n : Int) - p < m * k
    · have hE : lowsE n p m k = 2 := by unfold lowsE; rw [if_neg h1, if_pos h2]
      rw [hE]
      have H2 := Lib.hid h2
      have q1 : 0 ≤ p := by omega
      have q2 : 0 ≤ m := by omega
      have q3 : m ≤ 16 := by omega
      have q4 : 0 ≤ k := by omega
      have q5 : k ≤ 64 := by omega
      clear h hE h1 h2
      go_enter Try.func67, Try.ntmps67
      go_wp2_with (go_at_call 74; refine (holds_no _ _ _ _ _ _ hn q1 p2 H2.out).mono ?_; rintro e w' ⟨rfl, rfl⟩)
      go_ret2
      exact ⟨none, 0, 0, rfl, Is.nil _ _ _, Below.refl _ _⟩
    · exact absurd (show lowsE n p m k = 0 from by unfold lowsE; rw [if_neg h1, if_neg h2]) h

theorem read_at (A : Option Addr) (n c : Nat) (P : Int) (p m : Nat) (hP : P = (p : Int)) (hi : Bool) (xs : List Nat) (w : World) (h : Bs w w.heap.size A n xs) (hn : n ≤ 140737488355328) (hm : m ≤ 64) (hp : p + m ≤ 8 * n) :
    Calls Try.prog 75 #[.slice A n c, .int .i64 P, .int .i64 (m : Int), .bool hi] w fun e w' => e = .returned (.int .u64 ((rd xs hi p m : Nat) : Int)) ∧ Below w.heap.size w w' := by
  subst hP
  exact read_any A n c p m hi xs w h hn hm hp

set_option maxHeartbeats 1000000 in
theorem lows_ok (A : Option Addr) (n c p m K : Nat) (xs : List Nat) (w : World) (h : Bs w w.heap.size A n xs) (hn : n ≤ 140737488355328) (hm : m ≤ 16) (hK : K ≤ 64) (hp : p + m * K ≤ 8 * n) :
    Calls Try.prog 67 #[.slice A n c, .int .i64 (p : Int), .int .i64 (m : Int), .int .i64 (K : Int)] w (LaidI w (lowsL xs p m K) 0) := by
  have hmk := run_make_row' (P := Try.prog) 75 3 (.int .i64 0) 8 Try.underlying75 info_int rfl .i64 .i64 K (by omega) (by omega)
  have hg := Lib.hid (show Row (w.alloc (.cells (madeCells #[.int .i64 0] K) 3)) w.heap.size 3 (i64s (lowsP xs p m K 0)) from by
    have := Row.new w 3 (i64s (lowsP xs p m K 0))
    rw [show (i64s (lowsP xs p m K 0)).toArray = madeCells #[.int .i64 0] K from by
      apply Array.toList_inj.1
      rw [toList_madeCells_one, lowsP_zero]
      simp [i64s]] at this
    exact this)
  have hB := Lib.hid ((Below.refl w.heap.size w).alloc (Nat.le_refl _) (.cells (madeCells #[.int .i64 0] K) 3))
  have H := Lib.hid h
  have hF := Lib.hid (lowsP_full xs p m K)
  have hmk2 : ((m : Int) * (K : Int)) = ((m * K : Nat) : Int) := by simp
  have hmk3 : m * K ≤ 1024 := Nat.le_trans (Nat.mul_le_mul hm hK) (by decide)
  obtain ⟨Z, hZ⟩ : ∃ Z, Z = m * K := ⟨_, rfl⟩
  rw [← hZ] at hmk2 hmk3 hp
  have HZ := Lib.hid hZ
  clear h hZ
  go_enter Try.func67, Try.ntmps67
  go_wp2_with (go_at_call 74; refine (holds_yes _ _ _ _ _ _ hn (by omega) (by omega) (by omega)).mono ?_; rintro e w' ⟨rfl, rfl⟩)
  go_loopw [41] (fun i wr => ∃ k : Nat, k ≤ K ∧ i = .int .i64 k ∧ Row wr w.heap.size 3 (i64s (lowsP xs p m K k)) ∧ Below w.heap.size w wr) (fun i _ => K - (intOf i).toNat)
  case atStart => exact ⟨0, Nat.zero_le _, rfl, hg.out, hB.out⟩
  case round =>
    obtain ⟨k, hk, rfl, hrow, hbw⟩ := hrel
    clear hg hB
    by_cases hlt : k < K
    · have hkm : k * m + m ≤ Z := by
        rw [HZ.out, Nat.mul_comm m K]
        have := Nat.mul_le_mul_right m (show k + 1 ≤ K by omega)
        rw [Nat.add_mul] at this
        omega
      obtain ⟨y, hy⟩ : ∃ y, y = k * m := ⟨_, rfl⟩
      have hy' : ((k : Int) * (m : Int)) = (y : Int) := by rw [hy]; simp
      rw [← hy] at hkm
      have hset := Lib.hid (lowsP_set xs p m K k)
      rw [← hy] at hset
      clear hy
      have hsz := hrow.lt
      have hBs := Lib.hid ((H.out.below hbw).more hbw.size)
      have hr0 := Lib.hid hrow
      have hlo := Lib.hid (rd_low xs (p + y) m)
      have hrl : rd xs false (p + y) m < 65536 := rd_lt' xs false (p + y) m 16 hm
      go_wp2_with (go_at_call 75; refine (read_at A n c _ (p + y) m (by omega) false xs wr hBs.out hn (by omega) (by omega)).mono ?_; rintro e w1 ⟨rfl, hb1⟩; have hrow1 := hr0.out.below hb1 hr0.out.lt; have hcx := hrow1.cell k _ (i64s_get _ k (by rw [lowsP_length]; omega)); have hfx := hrow1.frozen k)
      go_roundw
      case rel =>
        refine ⟨k + 1, by omega, by go_num, ?_, (hbw.trans (hb1.mono hbw.size)).setCell (Nat.le_refl _) _⟩
        rw [← hset.out, hlo.out, ← i64s_set]
        exact hrow1.set_ k _
      case measure => simp [intOf]; omega
    · obtain rfl : k = K := by omega
      go_wp2
      go_ret2
      exact ⟨_, k, k, rfl, by rw [← hF.out]; exact hrow.rs k (by rw [i64s_length, lowsP_length]), hbw⟩

theorem lows_any (A : Option Addr) (n c : Nat) (p m k : Int) (xs : List Nat) (w : World) (h : Bs w w.heap.size A n xs) (hn : n ≤ 140737488355328) (p2 : p ≤ 9223372036854775807) :
    Calls Try.prog 67 #[.slice A n c, .int .i64 p, .int .i64 m, .int .i64 k] w (LaidI w (lowsV xs p m k) (lowsE n p m k)) := by
  by_cases hE : lowsE n p m k = 0
  · obtain ⟨q1, q2, q3, q4, q5, q6⟩ := lowsE_ok hE
    obtain ⟨p', rfl⟩ := Int.eq_ofNat_of_zero_le q1
    obtain ⟨m', rfl⟩ := Int.eq_ofNat_of_zero_le q2
    obtain ⟨k', rfl⟩ := Int.eq_ofNat_of_zero_le q4
    rw [hE, lowsV_ok h.1 hE]
    rw [show (m' : Int) * (k' : Int) = ((m' * k' : Nat) : Int) from by simp] at q6
    exact lows_ok A n c p' m' k' xs w h hn (by omega) (by omega) (by omega)
  · rw [lowsV_bad h.1 hE]
    exact lows_bad A n c p m k w hn p2 hE

theorem own_ge {w : World} {base : Nat} {e : TypeId} {v : Value} {n : Nat} {xs : List Value} (h : w.ownsRow base e 1 v n xs) : ∀ k, v.ownBlock = some k → base ≤ k := by
  intro k hk
  rcases h.2 with ⟨hv, _⟩ | ⟨g, cap, cur, hv, hb, _⟩
  · subst hv; simp [Value.ownBlock] at hk
  · subst hv
    simp [Value.ownBlock] at hk
    omega

theorem rget_at (A : Option Addr) (n c : Nat) (P : Int) (p m : Nat) (hP : P = (p : Int)) (xs : List Nat) (B : Nat) (w : World) (h : Bs w B A n xs) (hn : n ≤ 140737488355328) (hm : m ≤ 64) (hp : p + m ≤ 8 * n) :
    Calls Try.prog 68 #[.slice A n c, .int .i64 P, .int .i64 (m : Int), .bool false] w fun e w' => e = .returned (.tuple #[.int .u64 ((getN xs false p m : Nat) : Int), .int .i64 0]) ∧ w = w' := by
  subst hP
  exact rget_low A n c p m xs B w h hn hm hp

end Go.Proofs.Yteefmgchkhbdpaa
