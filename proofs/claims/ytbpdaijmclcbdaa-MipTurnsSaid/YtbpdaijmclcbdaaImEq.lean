/- Arrays of numbers, and arrays of them, compared. -/
import Derived.Test.YtbpdaijmclcbdaaImGather
import Derived.Laws.StructEq
namespace Go.Proofs.Ytbpdaijmclcbdaa
open Go.RowKit
open Im

theorem all_ints : ∀ (xs ys : List Int), xs.length = ys.length → ((List.range xs.length).all fun i => xs.getD i 0 == ys.getD i 0) = (xs == ys)
  | [], [], _ => rfl
  | x :: xs, y :: ys, h => by
    have ih := all_ints xs ys (by simpa using h)
    rw [List.length_cons, List.range_succ_eq_map, List.all_cons, List.all_map]
    simp only [List.getD_cons_zero, Function.comp_def, List.getD_cons_succ, ih]
    simp [List.cons_beq_cons]
  | [], _ :: _, h => by simp at h
  | _ :: _, [], h => by simp at h

theorem all_rows (m : Nat) : ∀ (n : Nat) (xs ys : List Int), xs.length = n * m → ys.length = n * m → ((List.range n).all fun i => (xs.drop (i * m)).take m == (ys.drop (i * m)).take m) = (xs == ys)
  | 0, xs, ys, h, k => by
    rw [List.eq_nil_of_length_eq_zero (by omega : xs.length = 0), List.eq_nil_of_length_eq_zero (by omega : ys.length = 0)]
    rfl
  | n + 1, xs, ys, h, k => by
    rw [Nat.add_mul] at h k
    have ih := all_rows m n (xs.drop m) (ys.drop m) (by simp; omega) (by simp; omega)
    rw [List.range_succ_eq_map, List.all_cons, List.all_map]
    have e : ∀ (l : List Int) (i : Nat), l.drop ((i + 1) * m) = (l.drop m).drop (i * m) := by
      intro l i
      rw [List.drop_drop, Nat.add_mul, Nat.one_mul, Nat.add_comm]
    simp only [Function.comp_def, Nat.succ_eq_add_one, e, ih, Nat.zero_mul, List.drop_zero]
    rw [Bool.eq_iff_iff]
    simp only [Bool.and_eq_true, beq_iff_eq]
    constructor
    · rintro ⟨a, b⟩
      rw [← List.take_append_drop m xs, ← List.take_append_drop m ys, a, b]
    · rintro rfl
      exact ⟨rfl, rfl⟩

section
variable {P : Program} (w : World)
theorem eqIn_ints (d : Nat) (t e : TypeId) (n : Nat) (ht : P.underlying t = some (.array n e)) (he : P.underlying e = some (.int .i64)) (hsz : ∀ w, (sizeOf e).run P w = .ok 1 w)
    (xs ys : List Int) (hx : xs.length = n) (hy : ys.length = n) :
    (Op.equalIn (d + 2) t (arr xs) (arr ys)).run P w = .ok (xs == ys) w := by
  rw [← all_ints xs ys (hx.trans hy.symm), hx, List.range_eq_range', Op.equalIn]
  simp only [Sem.run_bind, run_underlying ht, Result.andThen_ok, hsz, Std.Legacy.Range.forIn_eq_forIn_range', Std.Legacy.Range.size, Nat.sub_zero, Nat.add_sub_cancel, Nat.div_one]
  have hl : ∀ i ∈ List.range' 0 n 1, i < n := fun i hi => by simpa using (List.mem_range'_1.1 hi).2
  generalize List.range' 0 n 1 = l at hl ⊢
  induction l with
  | nil => simp
  | cons i l ih =>
    have hi : i < n := hl i (by simp)
    have px : (part e (i64s xs).toArray (i * 1)).run P w = .ok (.int .i64 (xs.getD i 0)) w := by
      simp [part, isAgg, run_underlying he, i64s, List.getElem?_eq_getElem (show i < xs.length by omega)]
    have py : (part e (i64s ys).toArray (i * 1)).run P w = .ok (.int .i64 (ys.getD i 0)) w := by
      simp [part, isAgg, run_underlying he, i64s, List.getElem?_eq_getElem (show i < ys.length by omega)]
    have pe : (Op.equalIn (d + 1) e (.int .i64 (xs.getD i 0)) (.int .i64 (ys.getD i 0))).run P w = .ok (xs.getD i 0 == ys.getD i 0) w := run_equalIn_int w d e .i64 .i64 _ _ he
    simp only [List.forIn_cons, Sem.run_bind, px, py, pe, Result.andThen_ok, List.all_cons]
    cases hb : (xs.getD i 0 == ys.getD i 0)
    · simp
    · simp only [Bool.not_true, Bool.false_eq_true, if_false, Sem.run_pure, Result.andThen_ok, Bool.true_and]
      exact ih fun j hj => hl j (by simp [hj])

theorem eqIn_rows (d : Nat) (t e f : TypeId) (n m : Nat) (ht : P.underlying t = some (.array n e)) (he : P.underlying e = some (.array m f)) (hf : P.underlying f = some (.int .i64)) (hsf : ∀ w, (sizeOf f).run P w = .ok 1 w) (hse : ∀ w, (sizeOf e).run P w = .ok m w)
    (xs ys : List Int) (hx : xs.length = n * m) (hy : ys.length = n * m) :
    (Op.equalIn (d + 3) t (arr xs) (arr ys)).run P w = .ok (xs == ys) w := by
  rw [← all_rows m n xs ys hx hy, List.range_eq_range', Op.equalIn]
  simp only [Sem.run_bind, run_underlying ht, Result.andThen_ok, hse, Std.Legacy.Range.forIn_eq_forIn_range', Std.Legacy.Range.size, Nat.sub_zero, Nat.add_sub_cancel, Nat.div_one]
  have hl : ∀ i ∈ List.range' 0 n 1, i < n := fun i hi => by simpa using (List.mem_range'_1.1 hi).2
  generalize List.range' 0 n 1 = l at hl ⊢
  induction l with
  | nil => simp
  | cons i l ih =>
    have hi : i < n := hl i (by simp)
    have him : i * m + m ≤ n * m := by rw [← Nat.succ_mul]; exact Nat.mul_le_mul_right m hi
    have hq : (P.info? e).map (·.size) = some m := by
      have := hse w
      cases h : P.info? e with
      | none => simp [sizeOf, typeInfo, h] at this
      | some inf => simpa [sizeOf, typeInfo, h] using this
    have pt : ∀ zs : List Int, (part e (i64s zs).toArray (i * m)).run P w = .ok (arr ((zs.drop (i * m)).take m)) w := by
      intro zs
      cases h : P.info? e with
      | none => simp [h] at hq
      | some inf =>
        have hz : inf.size = m := by simpa [h] using hq
        simp [part, isAgg, run_underlying he, sizeOf, typeInfo, h, hz, arr]
        rw [i64s_take, i64s_drop]
    have pe : (Op.equalIn (d + 2) e (arr ((xs.drop (i * m)).take m)) (arr ((ys.drop (i * m)).take m))).run P w = .ok ((xs.drop (i * m)).take m == (ys.drop (i * m)).take m) w :=
      eqIn_ints w d e f m he hf hsf _ _ (by simp; omega) (by simp; omega)
    simp only [List.forIn_cons, Sem.run_bind, pt, pe, Result.andThen_ok, List.all_cons]
    cases hb : ((xs.drop (i * m)).take m == (ys.drop (i * m)).take m)
    · simp
    · simp only [Bool.not_true, Bool.false_eq_true, if_false, Sem.run_pure, Result.andThen_ok, Bool.true_and]
      exact ih fun j hj => hl j (by simp [hj])
end
theorem szf : ∀ w, (sizeOf 3).run Try.prog w = .ok 1 w := by
  intro w
  have h := size_int
  cases hi : Try.prog.info? 3 with
  | none => rw [hi] at h; cases h
  | some inf => rw [hi] at h; simp at h; simp [sizeOf, typeInfo, hi, h]
theorem sze : ∀ w, (sizeOf 30).run Try.prog w = .ok 4 w := by
  intro w
  have h := size_texel
  cases hi : Try.prog.info? 30 with
  | none => rw [hi] at h; cases h
  | some inf => rw [hi] at h; simp at h; simp [sizeOf, typeInfo, hi, h]
theorem eq_texel (xs ys : List Int) (hx : xs.length = 4) (hy : ys.length = 4) (w : World) : (Op.equalIn 10000 30 (arr xs) (arr ys)).run Try.prog w = .ok (xs == ys) w :=
  eqIn_ints w 9998 _ _ 4 Try.underlying30 Try.underlying3 szf xs ys hx hy
theorem eq_tile (xs ys : List Int) (hx : xs.length = 64) (hy : ys.length = 64) (w : World) : (Op.equalIn 10000 32 (arr xs) (arr ys)).run Try.prog w = .ok (xs == ys) w :=
  eqIn_rows w 9997 _ _ _ 16 4 Try.underlying32 Try.underlying30 Try.underlying3 szf sze xs ys hx hy

namespace Im
/-- Are the first k texels of a tile equal to its first? -/
def flatB (t : List Int) (k : Nat) : Bool := (List.range k).all fun i => tx t i == tx t 0
theorem flatB_step (t : List Int) (k : Nat) : flatB t (k + 1) = (flatB t k && (tx t k == tx t 0)) := by simp [flatB, List.range_succ]
end Im
theorem index_tile (zs : List Int) (i : Nat) (hi : i < 16) (hn : zs.length = 64) (w : World) :
    (Instr.index 32 (arr zs) (.int .i64 (i : Int))).run Try.prog w = .ok (arr (tx zs i)) w :=
  run_index_row _ _ _ 16 4 Try.underlying32 Try.underlying30 size_texel zs i hi hn w
theorem flatB_false {t : List Int} {k : Nat} (hk : k < 16) (h : tx t k ≠ tx t 0) : flatB t 16 = false := by
  unfold flatB
  rw [List.all_eq_false]
  exact ⟨k, by simp [hk], by simp [h]⟩
set_option maxHeartbeats 1000000 in
theorem flat_any (t : List Int) (w : World) (ht : t.length = 64) :
    Calls Try.prog 17 #[arr t] w fun e w' => e = .returned (.bool (flatB t 16)) ∧ Below w.heap.size w w' := by
  have N0 := Lib.hid (Row.newInts w 32 t)
  have NB := Lib.hid (Below.box w (.cells (i64s t).toArray 32))
  have LT := Lib.hid (show (Try.prog.info? 32).map (·.size) = some t.length from by rw [ht]; exact size_tile)
  have HT := Lib.hid ht
  clear ht
  go_enter Try.func17, Try.ntmps17
  go_wp2_with (with_reducible refine wpList_load_ints rfl 32 (.tmp 1) rfl w.heap.size rfl 32 t 16 30 N0.out Try.underlying32 LT.out ?_)
  go_loopw [4, 6] (fun _ i wr => ∃ k : Nat, k ≤ 16 ∧ i = .int .i64 k ∧ Hid (Row wr w.heap.size 32 (i64s t) ∧ Below w.heap.size w wr ∧ flatB t k = true)) (fun _ i _ => 16 - (intOf i).toNat)
  case atStart => exact ⟨0, by omega, rfl, N0.out, NB.out, rfl⟩
  case round =>
    obtain ⟨k, hk, rfl, hI⟩ := hrel
    clear N0 NB
    by_cases hlt : k < 16
    · have hix := index_tile t k hlt HT.out
      have L4 := Lib.hid (tx_length HT.out hlt)
      have L0 := Lib.hid (show (tx t 0).length = 4 from tx_length HT.out (by omega))
      have LS := Lib.hid (show (Try.prog.info? 30).map (·.size) = some (tx t k).length from by rw [L4.out]; exact size_texel)
      have LV := Lib.hid (show (tx t k).length = ([0, 0, 0, 0] : List Int).length from L4.out)
      have hz := Lib.hid (Row.zero4 wr 30)
      have heq := eq_texel (tx t k) (t.take 4) L4.out (by rw [List.length_take, HT.out]; rfl)
      have e0 : tx t 0 = t.take 4 := by simp [tx]
      have hst := Lib.hid (flatB_step t k)
      have hwl := Lib.hid hI.out.1.lt
      have L64 := Lib.hid (show 0 + 4 ≤ t.length from by rw [HT.out]; omega)
      by_cases he : tx t k = tx t 0
      · have hb : (tx t k == t.take 4) = true := by rw [← e0]; simp [he]
        have hst' := Lib.hid (show flatB t (k + 1) = true from by rw [hst.out, he, hI.out.2.2]; simp)
        rw [hb] at heq
        clear he hb e0 hst
        go_wp2_with (first
          | (with_reducible refine wpList_store_ints rfl 30 (.tmp 4) (.tmp 8) rfl rfl wr.heap.size rfl (tx t k) rfl 30 [0, 0, 0, 0] hz.out LS.out LV.out ?_; intro w2 hr2; have P0 := Lib.hid (hr2.keep (Nat.ne_of_lt hwl.out) (hI.out.1.old (.cells #[.int .i64 0, .int .i64 0, .int .i64 0, .int .i64 0] 30))); have PB := Lib.hid (hr2.below w.heap.size w hI.out.2.1.size (hI.out.2.1.alloc hI.out.2.1.size (.cells #[.int .i64 0, .int .i64 0, .int .i64 0, .int .i64 0] 30))); have P1 := Lib.hid hr2.row; clear hr2)
          | (with_reducible refine wpList_load_ints rfl 30 (.tmp 4) rfl wr.heap.size rfl 30 (tx t k) 4 3 P1.out Try.underlying30 LS.out ?_)
          | (with_reducible refine wpList_load_part rfl 30 (.tmp 10) rfl w.heap.size 0 rfl 32 t 4 4 3 P0.out L64.out Try.underlying30 size_texel ?_))
        go_roundw
        case rel => exact ⟨k + 1, by omega, by go_num, P0.out, PB.out, hst'.out⟩
        case measure => simp [intOf]; omega
      · have hb : (tx t k == t.take 4) = false := by rw [← e0]; simp [he]
        have hf := Lib.hid (flatB_false hlt he)
        rw [hb] at heq
        clear he hb e0 hst
        go_wp2_with (first
          | (with_reducible refine wpList_store_ints rfl 30 (.tmp 4) (.tmp 8) rfl rfl wr.heap.size rfl (tx t k) rfl 30 [0, 0, 0, 0] hz.out LS.out LV.out ?_; intro w2 hr2; have P0 := Lib.hid (hr2.keep (Nat.ne_of_lt hwl.out) (hI.out.1.old (.cells #[.int .i64 0, .int .i64 0, .int .i64 0, .int .i64 0] 30))); have PB := Lib.hid (hr2.below w.heap.size w hI.out.2.1.size (hI.out.2.1.alloc hI.out.2.1.size (.cells #[.int .i64 0, .int .i64 0, .int .i64 0, .int .i64 0] 30))); have P1 := Lib.hid hr2.row; clear hr2)
          | (with_reducible refine wpList_load_ints rfl 30 (.tmp 4) rfl wr.heap.size rfl 30 (tx t k) 4 3 P1.out Try.underlying30 LS.out ?_)
          | (with_reducible refine wpList_load_part rfl 30 (.tmp 10) rfl w.heap.size 0 rfl 32 t 4 4 3 P0.out L64.out Try.underlying30 size_texel ?_))
        go_ret
        exact ⟨ret_bool hf.out.symm, PB.out⟩
    · obtain rfl : k = 16 := by omega
      go_wp2
      go_ret
      exact ⟨ret_bool hI.out.2.2.symm, hI.out.2.1⟩
end Go.Proofs.Ytbpdaijmclcbdaa
