/- A slice of arrays of numbers, as an argument. -/
import Derived.Test.YteamgegmcmcijaaOpenArr
namespace Go.Proofs.Yteamgegmcmcijaa
open Go.ChangeShapes Go.WideShapes Go.ChangeAt Go.RowKit
theorem add_add (a : Addr) (x y : Nat) : (a.add x).add y = a.add (x + y) := by
  unfold Addr.add
  by_cases hx : x = 0
  · subst hx; simp
  · by_cases hy : y = 0
    · subst hy; simp
    · rw [if_neg hx, if_neg hy, if_neg (by omega)]
      simp [Nat.add_assoc]
section
variable {H : Type} {enc : TypeId × Value → H} {P : Program}
theorem open_flats {W : World} {r : Reach} {base b0 t e m : Nat} {sp : Nat → Bool} {hd : Bool} {v : Value} {d : DataW H} {p : List MemPlace} (ht : P.underlying t = some (.slice e)) (hf : Flat enc P W b0 sp hd e m) (hm : 0 < m)
    (hok : Value.okWide P W r base t v) (h : DataW.Trod enc P W b0 sp hd t v d p) :
    ∃ A n c zs, v = .slice A n c ∧ Rs W W.heap.size A (n * m) (i64s zs) ∧ n ≤ c ∧ c ≤ 9223372036854775807 := by
  obtain ⟨A, n, c, rfl⟩ := okWide_slice ht hok
  obtain ⟨fuel, hx⟩ := h
  rcases DataW.trod_slice ht hx with ⟨hcs, _⟩ | ⟨a, len, cap, elems, rest, k, _, hcs, _, hb, hl, hmx, hlen, hel, _, _⟩
  · simp [Value.cells] at hcs
    obtain ⟨rfl, rfl, rfl⟩ := hcs
    exact ⟨none, 0, 0, [], rfl, by rw [Nat.zero_mul]; exact Rs.nil _ _ _, Nat.le_refl _, by omega⟩
  · simp [Value.cells] at hcs
    obtain ⟨rfl, rfl, rfl⟩ := hcs
    have key : ∀ j, j < n * m → ∃ z : Int, W.cell? (a.add j) = some (.int .i64 z) := by
      intro j hj
      have hi : j / m < n := Nat.div_lt_of_lt_mul (by rw [Nat.mul_comm]; omega)
      have h1 := hel (j / m) hi
      rw [hf.1] at h1
      have h2 : (W.cells? b0 (a.add (j / m * m)) m).bind (DataW.trod enc P W b0 sp hd k e) = some (elems[j / m]'(by omega)) := h1.trans (List.getElem?_eq_getElem (by omega))
      rw [Option.bind_eq_some_iff] at h2
      obtain ⟨cs', hc', hy⟩ := h2
      obtain ⟨_, hcl, hcc⟩ := World.cells?_some hc'
      have hq : j % m < m := Nat.mod_lt _ hm
      have h3 := hcc (j % m) hq
      have h4 : j % m < cs'.length := by omega
      obtain ⟨z, hz, _⟩ := hf.2 k cs' _ hy hcl _ (List.getElem_mem h4)
      refine ⟨z, ?_⟩
      have e1 : (a.add (j / m * m)).add (j % m) = a.add j := by
        rw [add_add, Nat.mul_comm, Nat.div_add_mod]
      rw [e1] at h3
      rw [h3, List.getElem?_eq_getElem h4, hz]
    obtain ⟨b, off, spot⟩ := a
    refine ⟨some ⟨b, off, spot⟩, n, c, (List.range (n * m)).map fun j => intOf ((W.cell? ((⟨b, off, spot⟩ : Addr).add j)).getD undef), rfl, ⟨by simp [i64s_length], fun hn => ?_⟩, hl, by simpa [maxLen] using hmx⟩
    obtain ⟨z0, hz0⟩ := key 0 hn
    have hspot : spot = none := by simpa [Addr.add] using World.cell?_spot hz0
    subst hspot
    refine ⟨b, off, rfl, World.block_lt_of_cell? W _ (by simpa [Addr.add] using hz0), fun i v hv => ?_⟩
    have hi : i < n * m := by
      rcases Nat.lt_or_ge i (n * m) with h | h
      · exact h
      · rw [List.getElem?_eq_none (by simp [i64s_length]; omega)] at hv; cases hv
    obtain ⟨z, hz⟩ := key i hi
    rw [show (⟨b, off, none⟩ : Addr).add i = ⟨b, off + i, none⟩ from by unfold Addr.add; split <;> simp_all] at hz
    rw [hz, ← hv]
    simp [i64s, List.getElem?_range hi, show (⟨b, off, none⟩ : Addr).add i = ⟨b, off + i, none⟩ from by unfold Addr.add; split <;> simp_all, hz, intOf]
end
end Go.Proofs.Yteamgegmcmcijaa
