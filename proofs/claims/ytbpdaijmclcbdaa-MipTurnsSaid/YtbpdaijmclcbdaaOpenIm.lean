/- How images read that a law takes by value: one, two in an array; a slice of tiles. -/
import Derived.Test.YtbpdaijmclcbdaaOpenArr
import Derived.Test.YtbpdaijmclcbdaaImAt
import Derived.Lib.SmallJoins
namespace Go.Proofs.Ytbpdaijmclcbdaa
open Go.ChangeShapes Go.WideShapes Go.ChangeAt Go.RowKit Go.Deep Go.Joins

section
variable {H : Type} {enc : TypeId × Value → H} {P : Program}
theorem bytes_of_trod {W : World} {b0 t e fuel : Nat} {sp : Nat → Bool} {hd : Bool} {u : Value} {x : DataW H × List MemPlace} (ht : P.underlying t = some (.slice e)) (he : P.underlying e = some (.int .u8)) (hce : P.cellsOf e = 1)
    (hf : DataW.trod enc P W b0 sp hd fuel t [u] = some x) :
    ∃ A n c xs, u = .slice A n c ∧ Bs W W.heap.size A n xs ∧ n ≤ c ∧ c ≤ 9223372036854775807 := by
  rcases open_ints ht he hce hf with ⟨hcs, _⟩ | ⟨x, l, c', zs, hcs, _, hl, hm, hz, _, hcell, hwz⟩
  · simp at hcs
    subst hcs
    exact ⟨none, 0, 0, [], rfl, Bs.nil _ _ _, Nat.le_refl _, by omega⟩
  · simp at hcs
    subst hcs
    have hzl : l ≤ zs.length := by rw [hz]; split <;> omega
    clear hz
    have hbd := fun (z : Int) (hz' : z ∈ zs) => bounds_u8 (hwz z hz')
    refine ⟨some x, l, c', (zs.take l).map Int.toNat, rfl, ⟨by simp; omega, ?_, fun hn => ?_⟩, hl, by simpa [maxLen] using hm⟩
    · intro q hq
      obtain ⟨z, hz1, rfl⟩ := List.mem_map.1 hq
      have := hbd z (List.mem_of_mem_take hz1)
      omega
    · obtain ⟨b, off, spot⟩ := x
      have hc0 := hcell 0 (by omega)
      have hspot : spot = none := by simpa [Addr.add] using World.cell?_spot hc0
      subst hspot
      refine ⟨b, off, rfl, World.block_lt_of_cell? W _ (by simpa [Addr.add] using hc0), fun i hi => ?_⟩
      have hci := hcell i (by omega)
      have hi' : i < zs.length := by omega
      have hb := hbd zs[i] (List.getElem_mem hi')
      rw [show (⟨b, off, none⟩ : Addr).add i = ⟨b, off + i, none⟩ from by unfold Addr.add; split <;> simp_all] at hci
      rw [hci]
      simp [List.getElem?_take, hi, List.getElem?_eq_getElem hi']
      omega

/-- A number that an int may be. -/
def I64 (z : Int) : Prop := -9223372036854775808 ≤ z ∧ z ≤ 9223372036854775807

theorem img_of_trod {W : World} {b0 t ti ts e fuel : Nat} {sp : Nat → Bool} {hd : Bool} {cs : List Value} {x : DataW H × List MemPlace} {f0 f1 f2 : Field} (hs : P.underlying t = some (.struct #[f0, f1, f2]))
    (hone : oneCellFields P #[f0, f1, f2] = true) (h0 : f0.type = ti) (h1 : f1.type = ti) (h2 : f2.type = ts) (hti : P.underlying ti = some (.int .i64)) (hts : P.underlying ts = some (.slice e)) (he : P.underlying e = some (.int .u8)) (hce : P.cellsOf e = 1)
    (hC : P.cellsOf t = 3) (h : DataW.trod enc P W b0 sp hd fuel t cs = some x) :
    ∃ (Wd Hg : Int) (A : Option Addr) (n c : Nat) (xs : List Nat), cs = imL Wd Hg A n c ∧ Bs W W.heap.size A n xs ∧ n ≤ 9223372036854775807 ∧ I64 Wd ∧ I64 Hg := by
  obtain ⟨y0, y1, y2, n, hx, hl, g0, g1, g2⟩ := trod_struct3 hs h
  rw [hC] at hl
  obtain ⟨o0, k0⟩ := hone_of hone 0 f0 rfl
  obtain ⟨o1, k1⟩ := hone_of hone 1 f1 rfl
  obtain ⟨o2, k2⟩ := hone_of hone 2 f2 rfl
  match cs, hl with
  | [c0, c1, c2], _ =>
    rw [o0, k0, h0] at g0
    rw [o1, k1, h1] at g1
    rw [o2, k2, h2] at g2
    obtain ⟨z0, e0, _, w0⟩ := DataW.trod_int hti g0
    obtain ⟨z1, e1, _, w1⟩ := DataW.trod_int hti g1
    obtain ⟨A, m, c, xs, e2, hB, hc, hm⟩ := bytes_of_trod (u := c2) hts he hce g2
    simp at e0 e1
    subst e0 e1 e2
    exact ⟨z0, z1, A, m, c, xs, rfl, hB, by omega, bounds_i64 w0, bounds_i64 w1⟩

theorem open_img {W : World} {r : Reach} {base b0 t ti ts e : Nat} {sp : Nat → Bool} {hd : Bool} {v : Value} {d : DataW H} {p : List MemPlace} {f0 f1 f2 : Field} (hs : P.underlying t = some (.struct #[f0, f1, f2]))
    (hone : oneCellFields P #[f0, f1, f2] = true) (h0 : f0.type = ti) (h1 : f1.type = ti) (h2 : f2.type = ts) (hti : P.underlying ti = some (.int .i64)) (hts : P.underlying ts = some (.slice e)) (he : P.underlying e = some (.int .u8)) (hce : P.cellsOf e = 1)
    (hC : P.cellsOf t = 3) (hok : Value.okWide P W r base t v) (h : DataW.Trod enc P W b0 sp hd t v d p) :
    ∃ (Wd Hg : Int) (A : Option Addr) (n c : Nat) (xs : List Nat), v = img Wd Hg A n c ∧ Bs W W.heap.size A n xs ∧ n ≤ 9223372036854775807 ∧ I64 Wd ∧ I64 Hg := by
  obtain ⟨cs, rfl, hsz⟩ := okWide_struct hs hok
  obtain ⟨fuel, hf⟩ := h
  obtain ⟨Wd, Hg, A, n, c, xs, hcs, hr⟩ := img_of_trod hs hone h0 h1 h2 hti hts he hce hC hf
  have hcs' : cs.toList = imL Wd Hg A n c := hcs
  exact ⟨Wd, Hg, A, n, c, xs, by rw [show cs = (imL Wd Hg A n c).toArray from by rw [← hcs']], hr⟩

theorem list6 {α : Type} (l : List α) (h : l.length = 6) : ∃ a b c d e f, l = [a, b, c, d, e, f] := by
  match l, h with
  | [a, b, c, d, e, f], _ => exact ⟨a, b, c, d, e, f, rfl⟩
theorem open_2imgs {W : World} {r : Reach} {base b0 tt t ti ts e : Nat} {sp : Nat → Bool} {hd : Bool} {v : Value} {d : DataW H} {p : List MemPlace} {f0 f1 f2 : Field} (htt : P.underlying tt = some (.array 2 t)) (hCC : P.cellsOf tt = 6) (hs : P.underlying t = some (.struct #[f0, f1, f2]))
    (hone : oneCellFields P #[f0, f1, f2] = true) (h0 : f0.type = ti) (h1 : f1.type = ti) (h2 : f2.type = ts) (hti : P.underlying ti = some (.int .i64)) (hts : P.underlying ts = some (.slice e)) (he : P.underlying e = some (.int .u8)) (hce : P.cellsOf e = 1)
    (hC : P.cellsOf t = 3) (hok : Value.okWide P W r base tt v) (h : DataW.Trod enc P W b0 sp hd tt v d p) :
    ∃ (Wd Hg : Int) (A : Option Addr) (n c : Nat) (xs : List Nat) (Wd' Hg' : Int) (A' : Option Addr) (n' c' : Nat) (xs' : List Nat), v = .agg (imL Wd Hg A n c ++ imL Wd' Hg' A' n' c').toArray ∧ (Bs W W.heap.size A n xs ∧ n ≤ 9223372036854775807 ∧ I64 Wd ∧ I64 Hg) ∧ (Bs W W.heap.size A' n' xs' ∧ n' ≤ 9223372036854775807 ∧ I64 Wd' ∧ I64 Hg') := by
  obtain ⟨cs, rfl, hsz, _⟩ : ∃ cs, v = .agg cs ∧ cs.size = P.cellsOf tt ∧ Row.okWide P W r base tt cs := by
    simpa [Value.okWide, htt] using hok
  rw [hCC] at hsz
  obtain ⟨l⟩ := cs
  obtain ⟨u0, u1, u2, u3, u4, u5, rfl⟩ := list6 l (by simpa using hsz)
  obtain ⟨fuel, hx⟩ := h
  obtain ⟨g0, y0, k0⟩ := trod_array_at htt hx 0 (by omega)
  obtain ⟨g1, y1, k1⟩ := trod_array_at htt hx 1 (by omega)
  rw [hC] at k0 k1
  obtain ⟨Wd, Hg, A, n, c, xs, hcs, hr⟩ := img_of_trod (cs := [u0, u1, u2]) hs hone h0 h1 h2 hti hts he hce hC k0
  obtain ⟨Wd', Hg', A', n', c', xs', hcs', hr'⟩ := img_of_trod (cs := [u3, u4, u5]) hs hone h0 h1 h2 hti hts he hce hC k1
  injection hcs with a0 a1
  injection a1 with a1 a2
  injection a2 with a2 _
  injection hcs' with b0 b1
  injection b1 with b1 b2
  injection b2 with b2 _
  subst a0 a1 a2 b0 b1 b2
  exact ⟨Wd, Hg, A, n, c, xs, Wd', Hg', A', n', c', xs', rfl, hr, hr'⟩
end
end Go.Proofs.Ytbpdaijmclcbdaa
