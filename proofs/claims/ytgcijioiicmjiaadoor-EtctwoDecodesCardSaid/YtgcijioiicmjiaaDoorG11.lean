/- Same, Open: merged. -/
import Derived.Test.YtgcijioiicmjiaaDoorProg
import Derived.Test.YtgcijioiicmjiaaDoorPlain
import Derived.Test.YtgcijioiicmjiaaDoorG1
import Derived.Deep.QuietTactic
import Derived.BigQuiet
import Derived.OpenShut
import Derived.ChangeOld
import Derived.Laws.IdiomArrays
set_option linter.all false
namespace Go.Proofs.YtgcijioiicmjiaaDoor
open Go.RowKit
open Pl

/-- It answers b, and only draws. -/
def Told (b : Bool) (w : World) (e : Ending) (w' : World) : Prop := e = .returned (.bool b) ∧ ∃ q, w' = w.drewN q

theorem Told.below {b : Bool} {w : World} {e : Ending} {w' : World} (h : Told b w e w') : Below w.heap.size w w' := by
  obtain ⟨_, q, rfl⟩ := h
  exact ⟨rfl, rfl, rfl, Nat.le_refl _, fun _ _ => rfl⟩

end Go.Proofs.YtgcijioiicmjiaaDoor
set_option linter.all false
namespace Go.Proofs.YtgcijioiicmjiaaDoor
open Go.ChangeShapes Go.WideShapes Go.ChangeAt Go.RowKit

section
variable {H : Type} {enc : TypeId × Value → H} {P : Program}

theorem open_bytes {W : World} {r : Reach} {base b0 t e : Nat} {sp : Nat → Bool} {hd : Bool} {v : Value} {d : DataW H} {p : List MemPlace} (ht : P.underlying t = some (.slice e)) (he : P.underlying e = some (.int .u8)) (hce : P.cellsOf e = 1)
    (hok : Value.okWide P W r base t v) (h : DataW.Trod enc P W b0 sp hd t v d p) :
    ∃ A n c xs, v = .slice A n c ∧ Bs W W.heap.size A n xs ∧ n ≤ c ∧ c ≤ 9223372036854775807 := by
  obtain ⟨A, n, c, rfl⟩ := okWide_slice ht hok
  obtain ⟨fuel, hf⟩ := h
  rcases open_ints ht he hce hf with ⟨hcs, _⟩ | ⟨x, l, c', zs, hcs, _, hl, hm, hz, _, hcell, hwz⟩
  · simp [Value.cells] at hcs
    obtain ⟨rfl, rfl, rfl⟩ := hcs
    exact ⟨none, 0, 0, [], rfl, Bs.nil _ _ _, Nat.le_refl _, by omega⟩
  · simp [Value.cells] at hcs
    obtain ⟨rfl, rfl, rfl⟩ := hcs
    have hzl : n ≤ zs.length := by rw [hz]; split <;> omega
    clear hz
    have hbd := fun (z : Int) (hz' : z ∈ zs) => bounds_u8 (hwz z hz')
    refine ⟨some x, n, c, (zs.take n).map Int.toNat, rfl, ⟨by simp; omega, ?_, fun hn => ?_⟩, hl, by simpa [maxLen] using hm⟩
    · intro q hq
      obtain ⟨z, hz1, rfl⟩ := List.mem_map.1 hq
      have := hbd z (List.mem_of_mem_take hz1)
      omega
    · obtain ⟨b, off, spot⟩ := x
      have hc0 := hcell 0 (by omega)
      have hspot : spot = none := by simpa [Addr.add] using World.cell?_spot hc0
      subst hspot
      refine ⟨b, off, rfl, World.block_lt_of_cell? W _ (by simpa [Addr.add] using hc0), fun i hi => ?_⟩
      have hci := hcell i (by omega)
      have hi' : i < zs.length := by omega
      have hb := hbd zs[i] (List.getElem_mem hi')
      rw [show (⟨b, off, none⟩ : Addr).add i = ⟨b, off + i, none⟩ from by unfold Addr.add; split <;> simp_all] at hci
      rw [hci]
      simp [List.getElem?_take, hi, List.getElem?_eq_getElem hi']
      omega

theorem list3 {α : Type} (l : List α) (h : l.toArray.size = 3) : ∃ a b c, l = [a, b, c] := by
  match l, h with
  | [a, b, c], _ => exact ⟨a, b, c, rfl⟩

end
end Go.Proofs.YtgcijioiicmjiaaDoor
