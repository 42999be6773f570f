/- What Lows of package bits answers, and the reference's: the same numbers. -/
import Derived.Test.YtpdpjljfloanfaaDoorBitRset
import Derived.Test.YtpdpjljfloanfaaDoorInts
import Derived.Laws.OwnMore
set_option linter.all false
namespace Go.Proofs.YtpdpjljfloanfaaDoor
open Go.RowKit
open Bi

def lowsE (n : Nat) (p m k : Int) : Int := if p < 0 ∨ m < 0 ∨ 16 < m ∨ k < 0 ∨ 64 < k then 1 else if 8 * (n : Int) - p < m * k then 2 else 0
/-- The first i numbers of K, and noughts. -/
def lowsP (xs : List Nat) (p m K i : Nat) : List Int := (List.range K).map fun j => if j < i then ((getN xs false (p + j * m) m : Nat) : Int) else 0
def lowsL (xs : List Nat) (p m K : Nat) : List Int := (List.range K).map fun j => ((getN xs false (p + j * m) m : Nat) : Int)
def lowsV (xs : List Nat) (p m k : Int) : List Int := if lowsE xs.length p m k = 0 then lowsL xs p.toNat m.toNat k.toNat else []

theorem lowsP_length (xs : List Nat) (p m K i : Nat) : (lowsP xs p m K i).length = K := by simp [lowsP]
theorem lowsL_length (xs : List Nat) (p m K : Nat) : (lowsL xs p m K).length = K := by simp [lowsL]
theorem lowsP_zero (xs : List Nat) (p m K : Nat) : lowsP xs p m K 0 = List.replicate K 0 := by
  apply List.ext_getElem (by simp [lowsP])
  intro i h1 h2
  simp [lowsP]
theorem lowsP_full (xs : List Nat) (p m K : Nat) : lowsP xs p m K K = lowsL xs p m K := by
  unfold lowsP lowsL
  apply List.map_congr_left
  intro j hj
  simp at hj
  simp [hj]
theorem lowsP_set (xs : List Nat) (p m K i : Nat) : (lowsP xs p m K i).set i ((getN xs false (p + i * m) m : Nat) : Int) = lowsP xs p m K (i + 1) := by
  apply List.ext_getElem (by simp [lowsP])
  intro j h1 h2
  simp only [lowsP, List.getElem_set, List.getElem_map, List.getElem_range]
  by_cases h : i = j
  · subst h; simp
  · simp [h, show j < i + 1 ↔ j < i by omega]
theorem lowsL_succ (xs : List Nat) (p m K : Nat) : lowsL xs p m K ++ [((getN xs false (p + K * m) m : Nat) : Int)] = lowsL xs p m (K + 1) := by simp [lowsL, List.range_succ]

theorem lowsE_ok {n : Nat} {p m k : Int} (h : lowsE n p m k = 0) : 0 ≤ p ∧ 0 ≤ m ∧ m ≤ 16 ∧ 0 ≤ k ∧ k ≤ 64 ∧ m * k ≤ 8 * n - p := by
  unfold lowsE at h
  split at h
  · omega
  · split at h
    · omega
    · refine ⟨by omega, by omega, by omega, by omega, by omega, by omega⟩
theorem lowsV_bad {xs : List Nat} {n : Nat} {p m k : Int} (hx : xs.length = n) (h : lowsE n p m k ≠ 0) : lowsV xs p m k = [] := by unfold lowsV; rw [hx, if_neg h]
theorem lowsV_ok {xs : List Nat} {n p m k : Nat} (hx : xs.length = n) (h : lowsE n p m k = 0) : lowsV xs p m k = lowsL xs p m k := by unfold lowsV; rw [hx, if_pos h]; simp

/-- A slice of numbers that reads as zs, and an error's number. -/
def LaidI (w : World) (zs : List Int) (E : Int) (e : Ending) (w' : World) : Prop :=
  ∃ A n c, e = .returned (.tuple #[.slice A n c, .int .i64 E]) ∧ Is w' w'.heap.size A n zs ∧ Below w.heap.size w w'

theorem mul_le (m k : Int) (h0 : 0 ≤ m) (h1 : m ≤ 16) (h2 : 0 ≤ k) (h3 : k ≤ 64) : 0 ≤ m * k ∧ m * k ≤ 1024 := by
  refine ⟨Int.mul_nonneg h0 h2, ?_⟩
  have := Int.mul_le_mul h1 h3 h2 (by omega)
  omega

theorem info_int : (Tryd.prog.info? 3).map (fun i => (i.zero, i.size, i.bytes)) = some (some (.int .i64 0), 1, 8) := by kernel_rfl

theorem read_at (A : Option Addr) (n c : Nat) (P : Int) (p m : Nat) (hP : P = (p : Int)) (hi : Bool) (xs : List Nat) (w : World) (h : Bs w w.heap.size A n xs) (hn : n ≤ 140737488355328) (hm : m ≤ 64) (hp : p + m ≤ 8 * n) :
    Calls Tryd.prog 32 #[.slice A n c, .int .i64 P, .int .i64 (m : Int), .bool hi] w fun e w' => e = .returned (.int .u64 ((rd xs hi p m : Nat) : Int)) ∧ Below w.heap.size w w' := by
  subst hP
  exact read_any A n c p m hi xs w h hn hm hp

theorem own_ge {w : World} {base : Nat} {e : TypeId} {v : Value} {n : Nat} {xs : List Value} (h : w.ownsRow base e 1 v n xs) : ∀ k, v.ownBlock = some k → base ≤ k := by
  intro k hk
  rcases h.2 with ⟨hv, _⟩ | ⟨g, cap, cur, hv, hb, _⟩
  · subst hv; simp [Value.ownBlock] at hk
  · subst hv
    simp [Value.ownBlock] at hk
    omega

theorem rget_at (A : Option Addr) (n c : Nat) (P : Int) (p m : Nat) (hP : P = (p : Int)) (xs : List Nat) (B : Nat) (w : World) (h : Bs w B A n xs) (hn : n ≤ 140737488355328) (hm : m ≤ 64) (hp : p + m ≤ 8 * n) :
    Calls Tryd.prog 33 #[.slice A n c, .int .i64 P, .int .i64 (m : Int), .bool false] w fun e w' => e = .returned (.tuple #[.int .u64 ((getN xs false p m : Nat) : Int), .int .i64 0]) ∧ w = w' := by
  subst hP
  exact rget_low A n c p m xs B w h hn hm hp

end Go.Proofs.YtpdpjljfloanfaaDoor
