/- Same, Open: merged. -/
import Derived.Test.YtgcijioiicmjiaaDoorProg
import Derived.Test.YtgcijioiicmjiaaDoorPlain
import Derived.Test.YtgcijioiicmjiaaDoorG1
import Derived.Deep.QuietTactic
import Derived.BigQuiet
import Derived.OpenShut
import Derived.ChangeOld
import Derived.Laws.IdiomArrays
set_option linter.all false
namespace Go.Proofs.YtgcijioiicmjiaaDoor
open Go.RowKit
open Pl

/-- It answers b, and only draws. -/
def Told (b : Bool) (w : World) (e : Ending) (w' : World) : Prop := e = .returned (.bool b) ∧ ∃ q, w' = w.drewN q

theorem Told.below {b : Bool} {w : World} {e : Ending} {w' : World} (h : Told b w e w') : Below w.heap.size w w' := by
  obtain ⟨_, q, rfl⟩ := h
  exact ⟨rfl, rfl, rfl, Nat.le_refl _, fun _ _ => rfl⟩

set_option maxHeartbeats 400000 in
theorem same_short (A A' : Option Addr) (n n' c c' : Nat) (w : World) (h : n ≠ n') :
    Calls Tryd.prog 16 #[.slice A n c, .slice A' n' c'] w (Told false w) := by
  have hb : ((n : Int) != (n' : Int)) = true := by simp; omega
  clear h
  go_enter Tryd.func16, Tryd.ntmps16
  go_wp2
  go_ret
  exact ⟨rfl, 0, rfl⟩

set_option maxHeartbeats 1000000 in
theorem same_long (A A' : Option Addr) (n c c' : Nat) (xs ys : List Nat) (B B' : Nat) (w : World) (h : Bs w B A n xs) (h' : Bs w B' A' n ys) (hn : n ≤ 9223372036854775807) :
    Calls Tryd.prog 16 #[.slice A n c, .slice A' n c'] w (Told (decide (xs = ys)) w) := by
  have hb : ((n : Int) != (n : Int)) = false := by simp
  have H := Lib.hid h
  have H' := Lib.hid h'
  clear h h'
  go_enter Tryd.func16, Tryd.ntmps16
  go_wp2
  go_loopw [5] (fun i wr => ∃ k q : Nat, k ≤ n ∧ i = .int .i64 k ∧ wr = w.drewN q ∧ Hid (xs.take k = ys.take k)) (fun i _ => n - (intOf i).toNat)
  case atStart => exact ⟨0, 0, Nat.zero_le _, rfl, rfl, by simp [Hid]⟩
  case round =>
    obtain ⟨k, q, hk, rfl, rfl, htk⟩ := hrel
    by_cases hlt : k < n
    · obtain ⟨b, off, rfl, hb1, hc1⟩ := H.out.2.2 (by omega)
      obtain ⟨b', off', rfl, hb2, hc2⟩ := H'.out.2.2 (by omega)
      have hx := hc1 k hlt
      have hy := hc2 k hlt
      clear hc1 hc2
      have hts := Lib.hid (take_step (xs := xs) (ys := ys) (k := k) (by rw [H.out.1]; exact hlt) (by rw [H'.out.1]; exact hlt) htk.out)
      have hns := Lib.hid (show xs.getD k 0 ≠ ys.getD k 0 → xs ≠ ys from fun h e => h (by rw [e]))
      generalize xs.getD k 0 = x at *
      generalize ys.getD k 0 = y at *
      by_cases he : x = y
      · have hne : ((x : Int) != (y : Int)) = false := by simp [he]
        have hT := Lib.hid (hts.out he)
        clear he hns hts
        go_wp2
        go_quiet (fail)
        go_wp2
        go_roundw
        case rel => exact ⟨k + 1, _, by omega, by go_num, rfl, hT⟩
        case measure => simp [intOf]; omega
      · have hne : ((x : Int) != (y : Int)) = true := by simp; omega
        have hT := Lib.hid (hns.out he)
        clear he hns hts
        go_wp2
        go_quiet (fail)
        go_wp2
        go_ret
        exact ⟨ret_bool (by simp [hT.out]), _, World.drewN_drewN _ _ _⟩
    · obtain rfl : k = n := by omega
      go_wp2
      go_ret
      refine ⟨ret_bool ?_, q, rfl⟩
      have := htk.out
      rw [List.take_of_length_le (by rw [H.out.1]; omega), List.take_of_length_le (by rw [H'.out.1]; omega)] at this
      simp [this]

/-- For whatever two slices. -/
theorem same_any (A A' : Option Addr) (n n' c c' : Nat) (xs ys : List Nat) (B B' : Nat) (w : World) (h : Bs w B A n xs) (h' : Bs w B' A' n' ys) (hn : n ≤ 9223372036854775807) :
    Calls Tryd.prog 16 #[.slice A n c, .slice A' n' c'] w (Told (decide (xs = ys)) w) := by
  by_cases hl : n = n'
  · subst hl
    exact same_long A A' n c c' xs ys B B' w h h' hn
  · have : decide (xs = ys) = false := by
      simp
      rintro rfl
      exact hl (h.1.symm.trans h'.1)
    rw [this]
    exact same_short A A' n n' c c' w hl
end Go.Proofs.YtgcijioiicmjiaaDoor
set_option linter.all false
namespace Go.Proofs.YtgcijioiicmjiaaDoor
open Go.ChangeShapes Go.WideShapes Go.ChangeAt Go.RowKit

section
variable {H : Type} {enc : TypeId × Value → H} {P : Program}

theorem open_bytes {W : World} {r : Reach} {base b0 t e : Nat} {sp : Nat → Bool} {hd : Bool} {v : Value} {d : DataW H} {p : List MemPlace} (ht : P.underlying t = some (.slice e)) (he : P.underlying e = some (.int .u8)) (hce : P.cellsOf e = 1)
    (hok : Value.okWide P W r base t v) (h : DataW.Trod enc P W b0 sp hd t v d p) :
    ∃ A n c xs, v = .slice A n c ∧ Bs W W.heap.size A n xs ∧ n ≤ c ∧ c ≤ 9223372036854775807 := by
  obtain ⟨A, n, c, rfl⟩ := okWide_slice ht hok
  obtain ⟨fuel, hf⟩ := h
  rcases open_ints ht he hce hf with ⟨hcs, _⟩ | ⟨x, l, c', zs, hcs, _, hl, hm, hz, _, hcell, hwz⟩
  · simp [Value.cells] at hcs
    obtain ⟨rfl, rfl, rfl⟩ := hcs
    exact ⟨none, 0, 0, [], rfl, Bs.nil _ _ _, Nat.le_refl _, by omega⟩
  · simp [Value.cells] at hcs
    obtain ⟨rfl, rfl, rfl⟩ := hcs
    have hzl : n ≤ zs.length := by rw [hz]; split <;> omega
    clear hz
    have hbd := fun (z : Int) (hz' : z ∈ zs) => bounds_u8 (hwz z hz')
    refine ⟨some x, n, c, (zs.take n).map Int.toNat, rfl, ⟨by simp; omega, ?_, fun hn => ?_⟩, hl, by simpa [maxLen] using hm⟩
    · intro q hq
      obtain ⟨z, hz1, rfl⟩ := List.mem_map.1 hq
      have := hbd z (List.mem_of_mem_take hz1)
      omega
    · obtain ⟨b, off, spot⟩ := x
      have hc0 := hcell 0 (by omega)
      have hspot : spot = none := by simpa [Addr.add] using World.cell?_spot hc0
      subst hspot
      refine ⟨b, off, rfl, World.block_lt_of_cell? W _ (by simpa [Addr.add] using hc0), fun i hi => ?_⟩
      have hci := hcell i (by omega)
      have hi' : i < zs.length := by omega
      have hb := hbd zs[i] (List.getElem_mem hi')
      rw [show (⟨b, off, none⟩ : Addr).add i = ⟨b, off + i, none⟩ from by unfold Addr.add; split <;> simp_all] at hci
      rw [hci]
      simp [List.getElem?_take, hi, List.getElem?_eq_getElem hi']
      omega

theorem list3 {α : Type} (l : List α) (h : l.toArray.size = 3) : ∃ a b c, l = [a, b, c] := by
  match l, h with
  | [a, b, c], _ => exact ⟨a, b, c, rfl⟩

theorem open_arr3 {W : World} {r : Reach} {base b0 t e : Nat} {sp : Nat → Bool} {hd : Bool} {v : Value} {d : DataW H} {p : List MemPlace} (ht : P.underlying t = some (.array 3 e)) (he : P.underlying e = some (.int .i64)) (hct : P.cellsOf t = 3) (hce : P.cellsOf e = 1)
    (hok : Value.okWide P W r base t v) (h : DataW.Trod enc P W b0 sp hd t v d p) :
    ∃ x y z : Int, v = .agg #[.int .i64 x, .int .i64 y, .int .i64 z] ∧ (-9223372036854775808 ≤ x ∧ x ≤ 9223372036854775807) ∧ (-9223372036854775808 ≤ y ∧ y ≤ 9223372036854775807) ∧ (-9223372036854775808 ≤ z ∧ z ≤ 9223372036854775807) := by
  obtain ⟨cs, rfl, hsz, _⟩ : ∃ cs, v = .agg cs ∧ cs.size = P.cellsOf t ∧ Row.okWide P W r base t cs := by
    simpa [Value.okWide, ht] using hok
  rw [hct] at hsz
  obtain ⟨l⟩ := cs
  obtain ⟨c0, c1, c2, rfl⟩ := list3 l hsz
  obtain ⟨fuel, hf⟩ := h
  obtain ⟨y0, y1, y2, m, hx, hy0, hy1, hy2⟩ := trod_array3 ht hce hf
  obtain ⟨x0, e0, rfl, w0⟩ := DataW.trod_int he hy0
  obtain ⟨x1, e1, rfl, w1⟩ := DataW.trod_int he hy1
  obtain ⟨x2, e2, rfl, w2⟩ := DataW.trod_int he hy2
  simp at e0 e1 e2
  subst e0 e1 e2
  exact ⟨x0, x1, x2, rfl, bounds_i64 w0, bounds_i64 w1, bounds_i64 w2⟩
end
end Go.Proofs.YtgcijioiicmjiaaDoor
