/- How an array of numbers reads that a law takes by value, of any length. -/
import Derived.Test.YtbjmmllnhanmpaaInts
import Derived.OpenShut
import Derived.ChangeOld
namespace Go.Proofs.Ytbjmmllnhanmpaa
open Go.ChangeShapes Go.WideShapes Go.ChangeAt Go.RowKit

theorem mapM_some {α β : Type} {f : α → Option β} : ∀ {l : List α} {xs : List β}, l.mapM f = some xs → ∀ a ∈ l, ∃ y, f a = some y
  | [], _, _ => by simp
  | a :: l, xs, h => by
    intro b hb
    rw [List.mapM_cons] at h
    cases ha : f a with
    | none => simp [ha] at h
    | some y =>
      cases hl : l.mapM f with
      | none => simp [ha, hl] at h
      | some ys =>
        rcases List.mem_cons.1 hb with rfl | hb
        · exact ⟨y, ha⟩
        · exact mapM_some hl b hb

section
variable {H : Type} {enc : TypeId × Value → H} {P : Program}

/-- Each element of an array reads. -/
theorem trod_array_at {W : World} {b0 : Nat} {sp : Nat → Bool} {hd : Bool} {fuel : Nat} {t e : TypeId} {n : Nat} {cs : List Value} {x : DataW H × List MemPlace} (ht : P.underlying t = some (.array n e))
    (h : DataW.trod enc P W b0 sp hd fuel t cs = some x) (i : Nat) (hi : i < n) : ∃ m y, DataW.trod enc P W b0 sp hd m e ((cs.drop (i * P.cellsOf e)).take (P.cellsOf e)) = some y := by
  cases fuel with
  | zero => simp [DataW.trod] at h
  | succ m =>
    unfold DataW.trod at h
    rw [ht] at h
    simp only at h
    split at h
    · cases hq : (List.range n).mapM (fun i => DataW.trod enc P W b0 sp hd m e ((cs.drop (i * P.cellsOf e)).take (P.cellsOf e))) with
      | none => simp [hq] at h
      | some ys =>
        obtain ⟨y, hy⟩ := mapM_some hq i (by simpa using hi)
        exact ⟨m, y, hy⟩
    · cases h

theorem drop_take_one (cs : List Value) (i : Nat) (h : i < cs.length) : (cs.drop (i * 1)).take 1 = [cs[i]] := by
  rw [Nat.mul_one, List.drop_eq_getElem_cons h, List.take_succ_cons, List.take_zero]

/-- An array of numbers, by value. -/
theorem open_ints_of {W : World} {r : Reach} {base b0 t e n : Nat} {sp : Nat → Bool} {hd : Bool} {v : Value} {d : DataW H} {p : List MemPlace} (ht : P.underlying t = some (.array n e)) (he : P.underlying e = some (.int .i64)) (hct : P.cellsOf t = n) (hce : P.cellsOf e = 1)
    (hok : Value.okWide P W r base t v) (h : DataW.Trod enc P W b0 sp hd t v d p) :
    ∃ zs : List Int, v = .agg (i64s zs).toArray ∧ zs.length = n ∧ ∀ z ∈ zs, -9223372036854775808 ≤ z ∧ z ≤ 9223372036854775807 := by
  obtain ⟨cs, rfl, hsz, _⟩ : ∃ cs, v = .agg cs ∧ cs.size = P.cellsOf t ∧ Row.okWide P W r base t cs := by
    simpa [Value.okWide, ht] using hok
  rw [hct] at hsz
  obtain ⟨fuel, hf⟩ := h
  have hcell : ∀ i (hi : i < cs.toList.length), ∃ z : Int, cs.toList[i] = .int .i64 z ∧ -9223372036854775808 ≤ z ∧ z ≤ 9223372036854775807 := by
    intro i hi
    have hin : i < n := by simpa [hsz] using hi
    obtain ⟨m, y, hy⟩ := trod_array_at ht hf i hin
    rw [hce, show (Value.agg cs).cells.toList = cs.toList from rfl, drop_take_one _ _ hi] at hy
    obtain ⟨z, e0, _, w0⟩ := DataW.trod_int he hy
    simp at e0
    exact ⟨z, by simpa using e0, bounds_i64 w0⟩
  refine ⟨cs.toList.map intOf, ?_, by simp [hsz], ?_⟩
  · congr 1
    apply Array.toList_inj.1
    simp only [i64s, List.map_map]
    apply List.ext_getElem (by simp)
    intro i h1 h2
    obtain ⟨z, hz, _⟩ := hcell i (by simpa using h1)
    simp only [List.getElem_map, Function.comp, hz]
    rfl
  · intro z hz
    obtain ⟨u, hu, rfl⟩ := List.mem_map.1 hz
    obtain ⟨i, hi, rfl⟩ := List.getElem_of_mem hu
    obtain ⟨z, hz, hb⟩ := hcell i hi
    rw [hz]
    exact hb

theorem list2 {α : Type} (l : List α) (h : l.length = 2) : ∃ a b, l = [a, b] := by
  match l, h with
  | [a, b], _ => exact ⟨a, b, rfl⟩

theorem open_arr2 {W : World} {r : Reach} {base b0 t e : Nat} {sp : Nat → Bool} {hd : Bool} {v : Value} {d : DataW H} {p : List MemPlace} (ht : P.underlying t = some (.array 2 e)) (he : P.underlying e = some (.int .i64)) (hct : P.cellsOf t = 2) (hce : P.cellsOf e = 1)
    (hok : Value.okWide P W r base t v) (h : DataW.Trod enc P W b0 sp hd t v d p) :
    ∃ x y : Int, v = .agg #[.int .i64 x, .int .i64 y] ∧ (-9223372036854775808 ≤ x ∧ x ≤ 9223372036854775807) ∧ (-9223372036854775808 ≤ y ∧ y ≤ 9223372036854775807) := by
  obtain ⟨zs, rfl, hl, hb⟩ := open_ints_of ht he hct hce hok h
  obtain ⟨x, y, rfl⟩ := list2 zs hl
  exact ⟨x, y, rfl, hb x (by simp), hb y (by simp)⟩
end

/-- What a law over bytes and an array knows of its arguments while it runs: the bytes, the array's own block. -/
structure EnvR (w : World) (A : Option Addr) (n : Nat) (xs : List Nat) (t : TypeId) (vs : List Value) (wk : World) : Prop where
  bel : Below w.heap.size w wk
  bs : Bs wk wk.heap.size A n xs
  row : Row wk w.heap.size t vs
theorem EnvR.step {w : World} {A : Option Addr} {n : Nat} {xs : List Nat} {t : TypeId} {vs : List Value} {wk wl : World} (h : EnvR w A n xs t vs wk) (hb : Below wk.heap.size wk wl) : EnvR w A n xs t vs wl :=
  ⟨h.bel.trans (hb.mono h.bel.size), (h.bs.below hb).more hb.size, h.row.below hb h.row.lt⟩
theorem EnvR.start {w : World} {A : Option Addr} {n : Nat} {xs : List Nat} (t : TypeId) (vs : List Value) (h : Bs w w.heap.size A n xs) : EnvR w A n xs t vs (w.alloc (.cells vs.toArray t)) :=
  have hb := (Below.refl w.heap.size w).alloc (Nat.le_refl _) (.cells vs.toArray t)
  ⟨hb, (h.below hb).more hb.size, Row.new w t vs⟩
end Go.Proofs.Ytbjmmllnhanmpaa
