/- What the small functions of package field answer (shift, checkInteger, holds, span, clone), and the reference's room. -/
import Derived.Test.YtffcbfkdmenedaaProg
import Derived.Test.YtffcbfkdmenedaaPlain
import Derived.Test.YtffcbfkdmenedaaBytes
import Derived.Laws.CopyOwn
import Derived.Deep.OwnRows
namespace Go.Proofs.Ytffcbfkdmenedaa
open Go.RowKit
open Pl

theorem ret_int {k : IntKind} {a b : Int} (h : a = b) : Ending.returned (.int k a) = .returned (.int k b) := by rw [h]
theorem ret2_eq {a b c d : Int} (h : a = c) (k : b = d) : Ending.returned (.tuple #[.int .i64 a, .int .i64 b]) = .returned (.tuple #[.int .i64 c, .int .i64 d]) := by rw [h, k]
theorem ret_bool {a b : Bool} (h : a = b) : Ending.returned (.bool a) = .returned (.bool b) := by rw [h]

set_option maxHeartbeats 400000 in
theorem shift_any (i m : Nat) (big : Bool) (w : World) (h : i < m) (h4 : m ≤ 4) :
    Calls Try.prog 20 #[.int .i64 (i : Int), .int .i64 (m : Int), .bool big] w fun e w' => e = .returned (.int .i64 ((sh i m big : Nat) : Int)) ∧ w = w' := by
  cases big
  · have hS := Lib.hid (show ((sh i m false : Nat) : Int) = 8 * (i : Int) from by simp [sh])
    go_enter Try.func20, Try.ntmps20
    go_wp2
    go_ret
    exact ⟨ret_int hS.out.symm, rfl⟩
  · have hS := Lib.hid (show ((sh i m true : Nat) : Int) = 8 * ((m : Int) - 1 - (i : Int)) from by simp [sh]; omega)
    go_enter Try.func20, Try.ntmps20
    go_wp2
    go_ret
    exact ⟨ret_int hS.out.symm, rfl⟩

set_option maxHeartbeats 400000 in
theorem check_any (A : Option Addr) (n c : Nat) (p m : Int) (w : World) (hn : n ≤ 9223372036854775807) (p2 : p ≤ 9223372036854775807) :
    Calls Try.prog 18 #[.slice A n c, .int .i64 p, .int .i64 m] w fun e w' => e = .returned (.int .i64 (getE n p m)) ∧ w = w' := by
  by_cases h1 : m < 1
  · have hE := Lib.hid (show getE n p m = 1 from by unfold getE; rw [if_pos (by omega)])
    go_enter Try.func18, Try.ntmps18
    go_wp2
    go_ret
    exact ⟨ret_int hE.out.symm, rfl⟩
  · by_cases h2 : 4 < m
    · have hE := Lib.hid (show getE n p m = 1 from by unfold getE; rw [if_pos (by omega)])
      go_enter Try.func18, Try.ntmps18
      go_wp2
      go_ret
      exact ⟨ret_int hE.out.symm, rfl⟩
    · by_cases h3 : p < 0
      · have hE := Lib.hid (show getE n p m = 1 from by unfold getE; rw [if_pos (by omega)])
        go_enter Try.func18, Try.ntmps18
        go_wp2
        go_ret
        exact ⟨ret_int hE.out.symm, rfl⟩
      · by_cases h5 : (n : Int) - p < m
        · have hE := Lib.hid (show getE n p m = 2 from by unfold getE; rw [if_neg (by omega), if_pos (by omega)])
          have hd : decide (m ≤ (n : Int) - p) = false := by simp; omega
          go_enter Try.func18, Try.ntmps18
          go_wp2
          go_ret
          exact ⟨ret_int hE.out.symm, rfl⟩
        · have hE := Lib.hid (show getE n p m = 0 from by unfold getE; rw [if_neg (by omega), if_neg (by omega)])
          have hd : decide (m ≤ (n : Int) - p) = true := by simp; omega
          go_enter Try.func18, Try.ntmps18
          go_wp2
          go_ret
          exact ⟨ret_int hE.out.symm, rfl⟩

theorem ret_slice {A A' : Option Addr} {n n' c c' : Nat} (h : A = A') (k : n = n') (l : c = c') : Ending.returned (.slice A n c) = .returned (.slice A' n' c') := by rw [h, k, l]

set_option maxHeartbeats 400000 in
theorem span_any (b off n c p m : Nat) (w : World) (hm : 0 < m) (hp : p + m ≤ n) (hn : n ≤ c) (hc : c ≤ 9223372036854775807) :
    Calls Try.prog 19 #[.slice (some ⟨b, off, none⟩) n c, .int .i64 (p : Int), .int .i64 (m : Int)] w fun e w' => e = .returned (.slice (some ⟨b, off + p, none⟩) m m) ∧ w = w' := by
  go_enter Try.func19, Try.ntmps19
  go_wp2
  go_ret
  exact ⟨ret_slice rfl (by omega) (by omega), rfl⟩

/-- An empty range. -/
def SomeEmpty (w : World) (e : Ending) (w' : World) : Prop := ∃ A, e = .returned (.slice A 0 0) ∧ w = w'

set_option maxHeartbeats 400000 in
theorem span_none (A : Option Addr) (n c p : Nat) (w : World) (hp : p ≤ n) (hn : n ≤ c) (hc : c ≤ 9223372036854775807) :
    Calls Try.prog 19 #[.slice A n c, .int .i64 (p : Int), .int .i64 0] w (SomeEmpty w) := by
  go_enter Try.func19, Try.ntmps19
  go_wp2
  all_goals
    go_ret
    exact ⟨_, ret_slice rfl (by omega) (by omega), rfl⟩

theorem info_u8 : (Try.prog.info? 5).map (fun i => (i.zero, i.size, i.bytes)) = some (some (.int .u8 0), 1, 1) := by kernel_rfl
theorem size_u8 : (Try.prog.info? 5).map (·.size) = some 1 := by kernel_rfl

/-- A new row of n bytes that reads as xs. -/
def Cloned (w : World) (n : Nat) (xs : List Nat) (e : Ending) (w' : World) : Prop :=
  ∃ g, e = .returned (.slice (some ⟨g, 0, none⟩) n n) ∧ w.heap.size ≤ g ∧ Blk w' g 5 xs ∧ Below w.heap.size w w'

theorem splice_all {α : Type} (L cs : List α) (h : L.length = cs.length) : splice L 0 cs = cs := by
  unfold splice
  rw [List.drop_of_length_le (by omega)]
  simp

set_option maxHeartbeats 400000 in
theorem clone_any (A : Option Addr) (n c : Nat) (xs : List Nat) (w : World) (h : Bs w w.heap.size A n xs) (hn : n ≤ 140737488355328) :
    Calls Try.prog 22 #[.slice A n c] w (Cloned w n xs) := by
  have hmk := run_make_row' (P := Try.prog) 22 5 (.int .u8 0) 1 Try.underlying22 info_u8 rfl .i64 .i64 n (by omega) (by omega)
  have hg := Lib.hid (show (w.alloc (.cells (madeCells #[.int .u8 0] n) 5)).heap[w.heap.size]? = some (.cells ((madeCells #[Value.int .u8 0] n).toList.toArray) 5 (0, 0)) from by
    rw [Array.toArray_toList]; exact heap_alloc_new w _)
  have hl := Lib.hid (show (u8s xs).length = Nat.min n n from by rw [u8s_length, h.1]; simp)
  have hp := Lib.hid (show 0 < (u8s xs).length → some (⟨w.heap.size, 0, none⟩ : Addr) = some ⟨w.heap.size, 0, none⟩ ∧ ∃ ad, A = some ad ∧ ∀ j v, (u8s xs)[j]? = some v → (w.alloc (.cells (madeCells #[.int .u8 0] n) 5)).cell? (ad.add j) = some v from by
    intro h0
    rw [u8s_length, h.1] at h0
    obtain ⟨b, off, rfl, hb, hc⟩ := h.2.2 h0
    refine ⟨rfl, _, rfl, fun j v hj => ?_⟩
    have hjl : j < n := by
      rcases Nat.lt_or_ge j n with h | h'
      · exact h
      · rw [List.getElem?_eq_none (by rw [u8s_length, h.1]; exact h')] at hj; cases hj
    have hv : v = .int .u8 ((xs.getD j 0 : Nat) : Int) := by
      have hjx : j < xs.length := by rw [h.1]; exact hjl
      simp [u8s, List.getElem?_eq_getElem hjx] at hj
      rw [← hj]
      simp [List.getElem?_eq_getElem hjx]
    rw [hv, show (⟨b, off, none⟩ : Addr).add j = ⟨b, off + j, none⟩ from by unfold Addr.add; split <;> simp_all, World.cell?_alloc_lt w _ _ (by exact hb)]
    exact hc j hjl)
  have hf := Lib.hid (show 0 + (u8s xs).length ≤ (madeCells #[Value.int .u8 0] n).toList.length from by rw [u8s_length, h.1]; simp [size_madeCells])
  have hB := Lib.hid ((Below.refl w.heap.size w).alloc (Nat.le_refl _) (.cells (madeCells #[.int .u8 0] n) 5))
  have hx := Lib.hid h.1
  clear h
  go_enter Try.func22, Try.ntmps22
  go_wp2_with (with_reducible refine wpList_copy_splice rfl (.tmp 7) (.tmp 8) 22 22 rfl 5 Try.underlying22 size_u8 _ _ _ _ _ _ rfl rfl w.heap.size 0 _ 5 hg.out (u8s xs) hl.out hp.out hf.out (u8s_one xs) w.heap.size w hB.out (Nat.le_refl _) ?_; intro w2 hg2 hb2)
  go_ret
  refine ⟨w.heap.size, rfl, Nat.le_refl _, ?_, hb2⟩
  have := hg2.out
  rw [splice_all _ _ (by rw [u8s_length, hx.out]; simp [size_madeCells])] at this
  exact this
end Go.Proofs.Ytffcbfkdmenedaa
