/- Same, Open: merged. -/
import Derived.Test.YtgcijioiicmjiaaDoorProg
import Derived.Test.YtgcijioiicmjiaaDoorPlain
import Derived.Test.YtgcijioiicmjiaaDoorG1
import Derived.Deep.QuietTactic
import Derived.BigQuiet
import Derived.OpenShut
import Derived.ChangeOld
import Derived.Laws.IdiomArrays
set_option linter.all false
namespace Go.Proofs.YtgcijioiicmjiaaDoor
open Go.RowKit
open Pl

/-- It answers b, and only draws. -/
def Told (b : Bool) (w : World) (e : Ending) (w' : World) : Prop := e = .returned (.bool b) ∧ ∃ q, w' = w.drewN q

theorem Told.below {b : Bool} {w : World} {e : Ending} {w' : World} (h : Told b w e w') : Below w.heap.size w w' := by
  obtain ⟨_, q, rfl⟩ := h
  exact ⟨rfl, rfl, rfl, Nat.le_refl _, fun _ _ => rfl⟩

set_option maxHeartbeats 400000 in
theorem same_short (A A' : Option Addr) (n n' c c' : Nat) (w : World) (h : n ≠ n') :
    Calls Tryd.prog 16 #[.slice A n c, .slice A' n' c'] w (Told false w) := by
  have hb : ((n : Int) != (n' : Int)) = true := by simp; omega
  clear h
  go_enter Tryd.func16, Tryd.ntmps16
  go_wp2
  go_ret
  exact ⟨rfl, 0, rfl⟩

set_option maxHeartbeats 1000000 in
theorem same_long (A A' : Option Addr) (n c c' : Nat) (xs ys : List Nat) (B B' : Nat) (w : World) (h : Bs w B A n xs) (h' : Bs w B' A' n ys) (hn : n ≤ 9223372036854775807) :
    Calls Tryd.prog 16 #[.slice A n c, .slice A' n c'] w (Told (decide (xs = ys)) w) := by
  have hb : ((n : Int) != (n : Int)) = false := by simp
  have H := Lib.hid h
  have H' := Lib.hid h'
  clear h h'
  go_enter Tryd.func16, Tryd.ntmps16
  go_wp2
  go_loopw [5] (fun i wr => ∃ k q : Nat, k ≤ n ∧ i = .int .i64 k ∧ wr = w.drewN q ∧ Hid (xs.take k = ys.take k)) (fun i _ => n - (intOf i).toNat)
  case atStart => exact ⟨0, 0, Nat.zero_le _, rfl, rfl, by simp [Hid]⟩
  case round =>
    obtain ⟨k, q, hk, rfl, rfl, htk⟩ := hrel
    by_cases hlt : k < n
    · obtain ⟨b, off, rfl, hb1, hc1⟩ := H.out.2.2 (by omega)
      obtain ⟨b', off', rfl, hb2, hc2⟩ := H'.out.2.2 (by omega)
      have hx := hc1 k hlt
      have hy := hc2 k hlt
      clear hc1 hc2
      have hts := Lib.hid (take_step (xs := xs) (ys := ys) (k := k) (by rw [H.out.1]; exact hlt) (by rw [H'.out.1]; exact hlt) htk.out)
      have hns := Lib.hid (show xs.getD k 0 ≠ ys.getD k 0 → xs ≠ ys from fun h e => h (by rw [e]))
      generalize xs.getD k 0 = x at *
      generalize ys.getD k 0 = y at *
      by_cases he : x = y
      · have hne : ((x : Int) != (y : Int)) = false := by simp [he]
        have hT := Lib.hid (hts.out he)
        clear he hns hts
        go_wp2
        go_quiet (fail)
        go_wp2
        go_roundw
        case rel => exact ⟨k + 1, _, by omega, by go_num, rfl, hT⟩
        case measure => simp [intOf]; omega
      · have hne : ((x : Int) != (y : Int)) = true := by simp; omega
        have hT := Lib.hid (hns.out he)
        clear he hns hts
        go_wp2
        go_quiet (fail)
        go_wp2
        go_ret
        exact ⟨ret_bool (by simp [hT.out]), _, World.drewN_drewN _ _ _⟩
    · obtain rfl : k = n := by omega
      go_wp2
      go_ret
      refine ⟨ret_bool ?_, q, rfl⟩
      have := htk.out
      rw [List.take_of_length_le (by rw [H.out.1]; omega), List.take_of_length_le (by rw [H'.out.1]; omega)] at this
      simp [this]

/-- For whatever two slices. -/
theorem same_any (A A' : Option Addr) (n n' c c' : Nat) (xs ys : List Nat) (B B' : Nat) (w : World) (h : Bs w B A n xs) (h' : Bs w B' A' n' ys) (hn : n ≤ 9223372036854775807) :
    Calls Tryd.prog 16 #[.slice A n c, .slice A' n' c'] w (Told (decide (xs = ys)) w) := by
  by_cases hl : n = n'
  · subst hl
    exact same_long A A' n c c' xs ys B B' w h h' hn
  · have : decide (xs = ys) = false := by
      simp
      rintro rfl
      exact hl (h.1.symm.trans h'.1)
    rw [this]
    exact same_short A A' n n' c c' w hl
end Go.Proofs.YtgcijioiicmjiaaDoor
set_option linter.all false
namespace Go.Proofs.YtgcijioiicmjiaaDoor
open Go.ChangeShapes Go.WideShapes Go.ChangeAt Go.RowKit

section
variable {H : Type} {enc : TypeId × Value → H} {P : Program}

theorem list3 {α : Type} (l : List α) (h : l.toArray.size = 3) : ∃ a b c, l = [a, b, c] := by
  match l, h with
  | [a, b, c], _ => exact ⟨a, b, c, rfl⟩

end
end Go.Proofs.YtgcijioiicmjiaaDoor
