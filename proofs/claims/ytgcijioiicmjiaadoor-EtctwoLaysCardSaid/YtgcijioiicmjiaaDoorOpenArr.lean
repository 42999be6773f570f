/- How an array of numbers reads that a law takes by value, of any length. -/
import Derived.Test.YtgcijioiicmjiaaDoorG1
import Derived.OpenShut
import Derived.ChangeOld
set_option linter.all false
namespace Go.Proofs.YtgcijioiicmjiaaDoor
open Go.ChangeShapes Go.WideShapes Go.ChangeAt Go.RowKit

theorem mapM_some {α β : Type} {f : α → Option β} : ∀ {l : List α} {xs : List β}, l.mapM f = some xs → ∀ a ∈ l, ∃ y, f a = some y
  | [], _, _ => by simp
  | a :: l, xs, h => by
    intro b hb
    rw [List.mapM_cons] at h
    cases ha : f a with
    | none => simp [ha] at h
    | some y =>
      cases hl : l.mapM f with
      | none => simp [ha, hl] at h
      | some ys =>
        rcases List.mem_cons.1 hb with rfl | hb
        · exact ⟨y, ha⟩
        · exact mapM_some hl b hb

section
variable {H : Type} {enc : TypeId × Value → H} {P : Program}

/-- Each element of an array reads. -/
theorem trod_array_at {W : World} {b0 : Nat} {sp : Nat → Bool} {hd : Bool} {fuel : Nat} {t e : TypeId} {n : Nat} {cs : List Value} {x : DataW H × List MemPlace} (ht : P.underlying t = some (.array n e))
    (h : DataW.trod enc P W b0 sp hd fuel t cs = some x) (i : Nat) (hi : i < n) : ∃ m y, DataW.trod enc P W b0 sp hd m e ((cs.drop (i * P.cellsOf e)).take (P.cellsOf e)) = some y := by
  cases fuel with
  | zero => simp [DataW.trod] at h
  | succ m =>
    unfold DataW.trod at h
    rw [ht] at h
    simp only at h
    split at h
    · cases hq : (List.range n).mapM (fun i => DataW.trod enc P W b0 sp hd m e ((cs.drop (i * P.cellsOf e)).take (P.cellsOf e))) with
      | none => simp [hq] at h
      | some ys =>
        obtain ⟨y, hy⟩ := mapM_some hq i (by simpa using hi)
        exact ⟨m, y, hy⟩
    · cases h

/-- A type all of whose m cells are numbers. -/
def Flat (enc : TypeId × Value → H) (P : Program) (W : World) (b0 : Nat) (sp : Nat → Bool) (hd : Bool) (e : TypeId) (m : Nat) : Prop :=
  P.cellsOf e = m ∧ ∀ fuel cs x, DataW.trod enc P W b0 sp hd fuel e cs = some x → cs.length = m → ∀ v ∈ cs, ∃ z : Int, v = .int .i64 z ∧ -9223372036854775808 ≤ z ∧ z ≤ 9223372036854775807
theorem Flat.int {W : World} {b0 : Nat} {sp : Nat → Bool} {hd : Bool} {e : TypeId} (he : P.underlying e = some (.int .i64)) (hce : P.cellsOf e = 1) : Flat enc P W b0 sp hd e 1 := by
  refine ⟨hce, fun fuel cs x h hl v hv => ?_⟩
  match cs, hl with
  | [u], _ =>
    obtain rfl : v = u := by simpa using hv
    obtain ⟨z, e0, _, w0⟩ := DataW.trod_int he h
    simp at e0
    exact ⟨z, e0, bounds_i64 w0⟩
theorem Flat.array {W : World} {b0 : Nat} {sp : Nat → Bool} {hd : Bool} {t e : TypeId} {n m : Nat} (ht : P.underlying t = some (.array n e)) (hct : P.cellsOf t = n * m) (hm : 0 < m) (h : Flat enc P W b0 sp hd e m) : Flat enc P W b0 sp hd t (n * m) := by
  refine ⟨hct, fun fuel cs x hx hl v hv => ?_⟩
  obtain ⟨j, hj, rfl⟩ := List.getElem_of_mem hv
  have hjm : j / m < n := Nat.div_lt_of_lt_mul (by rw [Nat.mul_comm]; omega)
  obtain ⟨f, y, hy⟩ := trod_array_at ht hx (j / m) hjm
  rw [h.1] at hy
  have h1 : m * (j / m) + j % m = j := Nat.div_add_mod j m
  have h2 : j % m < m := Nat.mod_lt _ hm
  have h3 : (j / m) * m + m ≤ n * m := by
    rw [← Nat.succ_mul]; exact Nat.mul_le_mul_right m hjm
  refine h.2 f _ y hy (by rw [List.length_take, List.length_drop]; omega) _ ?_
  rw [List.mem_iff_getElem?]
  refine ⟨j % m, ?_⟩
  rw [List.getElem?_take, if_pos h2, List.getElem?_drop, show (j / m) * m + j % m = j from by rw [Nat.mul_comm]; exact h1]
  exact List.getElem?_eq_getElem hj
theorem open_flat {W : World} {r : Reach} {base b0 t e k n : Nat} {sp : Nat → Bool} {hd : Bool} {v : Value} {d : DataW H} {p : List MemPlace} (ht : P.underlying t = some (.array k e)) (hf : Flat enc P W b0 sp hd t n)
    (hok : Value.okWide P W r base t v) (h : DataW.Trod enc P W b0 sp hd t v d p) :
    ∃ zs : List Int, v = .agg (i64s zs).toArray ∧ zs.length = n ∧ ∀ z ∈ zs, -9223372036854775808 ≤ z ∧ z ≤ 9223372036854775807 := by
  obtain ⟨cs, rfl, hsz, _⟩ : ∃ cs, v = .agg cs ∧ cs.size = P.cellsOf t ∧ Row.okWide P W r base t cs := by
    simpa [Value.okWide, ht] using hok
  rw [hf.1] at hsz
  obtain ⟨fuel, hx⟩ := h
  have hall := hf.2 fuel _ _ hx (by simpa [Value.cells] using hsz)
  have hall' : ∀ v ∈ cs.toList, ∃ z : Int, v = .int .i64 z ∧ -9223372036854775808 ≤ z ∧ z ≤ 9223372036854775807 := hall
  refine ⟨cs.toList.map intOf, ?_, by simp [hsz], ?_⟩
  · congr 1
    apply Array.toList_inj.1
    simp only [i64s, List.map_map]
    apply List.ext_getElem (by simp)
    intro i h1 h2
    obtain ⟨z, hz, _⟩ := hall' _ (List.getElem_mem (by simpa using h1))
    simp only [List.getElem_map, Function.comp]
    rw [hz]
    rfl
  · intro z hz
    obtain ⟨u, hu, rfl⟩ := List.mem_map.1 hz
    obtain ⟨z, hz, hb⟩ := hall' u hu
    rw [hz]
    exact hb

end

/-- What a law over bytes and an array knows of its arguments while it runs: the bytes, the array's own block. -/
structure EnvR (w : World) (A : Option Addr) (n : Nat) (xs : List Nat) (t : TypeId) (vs : List Value) (wk : World) : Prop where
  bel : Below w.heap.size w wk
  bs : Bs wk wk.heap.size A n xs
  row : Row wk w.heap.size t vs
theorem EnvR.step {w : World} {A : Option Addr} {n : Nat} {xs : List Nat} {t : TypeId} {vs : List Value} {wk wl : World} (h : EnvR w A n xs t vs wk) (hb : Below wk.heap.size wk wl) : EnvR w A n xs t vs wl :=
  ⟨h.bel.trans (hb.mono h.bel.size), (h.bs.below hb).more hb.size, h.row.below hb h.row.lt⟩
theorem EnvR.start {w : World} {A : Option Addr} {n : Nat} {xs : List Nat} (t : TypeId) (vs : List Value) (h : Bs w w.heap.size A n xs) : EnvR w A n xs t vs (w.alloc (.cells vs.toArray t)) :=
  have hb := (Below.refl w.heap.size w).alloc (Nat.le_refl _) (.cells vs.toArray t)
  ⟨hb, (h.below hb).more hb.size, Row.new w t vs⟩
end Go.Proofs.YtgcijioiicmjiaaDoor
