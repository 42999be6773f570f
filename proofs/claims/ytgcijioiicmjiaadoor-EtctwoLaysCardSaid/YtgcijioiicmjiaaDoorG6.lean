/- KnB, KnV: merged. -/
import Derived.Test.YtgcijioiicmjiaaDoorG5
import Derived.Test.YtgcijioiicmjiaaDoorG1
set_option linter.all false
namespace Go.Proofs.YtgcijioiicmjiaaDoor
open Go.RowKit
open Bi Lv Bc

/-- No block of these resources holds a byte. -/
class NoU8 (R : List Res) : Prop where
  h : ∀ {B : Nat} {u : World}, (∀ r ∈ R, r.holds B u) → ∀ b ∈ blocks R, ∀ i x, u.cell? ⟨b, i, none⟩ ≠ some (.int .u8 x)
instance : NoU8 [] := ⟨fun _ b hb => by simp [blocks] at hb⟩
instance {g : Nat} {t : TypeId} {zs : List Int} {R : List Res} [H : NoU8 R] : NoU8 (.row g t (i64s zs) :: R) := ⟨fun {B u} hr b hb i x hc => by
  rw [mem_blocks] at hb
  obtain ⟨r, hm, e⟩ := hb
  rcases List.mem_cons.1 hm with rfl | hm
  · have hrow : Row u g t (i64s zs) := (hr _ List.mem_cons_self).2
    cases e
    rw [cell_of_row u g i _ _ (0, 0) hrow] at hc
    simp [i64s, List.getElem?_map] at hc
  · exact H.h (fun s hs => hr s (List.mem_cons_of_mem _ hs)) b (mem_blocks.2 ⟨r, hm, e⟩) i x hc⟩
theorem Kn.new_bsi {w u : World} {R : List Res} {F : List (World → Prop)} [H : NoU8 R] (E : Kn w R F u) {A : Option Addr} {n : Nat} {xs : List Nat} (h : Bs u u.heap.size A n xs) : Kn w R (bsF A n xs :: F) u :=
  E.fact fun u' hk => by
    refine ⟨h.1, h.2.1, fun hn => ?_⟩
    obtain ⟨b, off, e, hb, hc⟩ := h.2.2 hn
    refine ⟨b, off, e, Nat.lt_of_lt_of_le hb hk.size, fun i hi => ?_⟩
    rw [World.cell?_of_block (w := u) (hk.block b hb fun hm => H.h E.res b hm _ _ (hc i hi))]
    exact hc i hi
end Go.Proofs.YtgcijioiicmjiaaDoor
set_option linter.all false
namespace Go.Proofs.YtgcijioiicmjiaaDoor
open Go.RowKit

structure RowVTo (w : World) (g : Nat) (t : TypeId) (vs : List Value) (w' : World) : Prop where
  row : Row w' g t vs
  size : w'.heap.size = w.heap.size
  os : w'.os = w.os
  tape : w'.tape = w.tape
  output : w'.output = w.output
  other : ∀ k, k ≠ g → w'.heap[k]? = w.heap[k]?
theorem RowVTo.of_cells (g : Nat) (t : TypeId) : ∀ (ys vs : List Value) (o : Nat) (w : World), Row w g t vs → RowVTo w g t (spl vs o ys) (w.setCells g o ys)
  | [], vs, o, w, h => ⟨h, rfl, rfl, rfl, rfl, fun _ _ => rfl⟩
  | y :: ys, vs, o, w, h => by
    have h1 : Row (w.setCell ⟨g, o, none⟩ y) g t (vs.set o y) := h.set_ o y
    have h2 := RowVTo.of_cells g t ys (vs.set o y) (o + 1) _ h1
    have hb : Below 0 (w.setCell ⟨g, o, none⟩ y) (w.setCell ⟨g, o, none⟩ y) := Below.refl _ _
    exact ⟨h2.row, h2.size.trans (by simp), h2.os.trans rfl, h2.tape.trans rfl, h2.output.trans rfl, fun k hk => (h2.other k hk).trans (heap_setCell_other w ⟨g, o, none⟩ k _ hk)⟩
theorem Row.there_v {w : World} {g : Nat} {t : TypeId} {vs : List Value} (h : Row w g t vs) (o m : Nat) (hm : o + m ≤ vs.length) : w.there g o m := by
  intro j hj
  rw [h.cell (o + j) _ (List.getElem?_eq_getElem (by omega)), h.frozen]
  exact ⟨rfl, rfl⟩
section
variable {w u : World} {R R' : List Res} {F : List (World → Prop)} {ops : Array Oper} {rest : List Oper} {o : Oper} {a : Act} {Q : Exit → Act → World → Prop} {K : Act → World → Prop}
theorem wp_kn_storev (E : Kn w R F u) {ty : TypeId} {x y : Operand} (ho : o.op = .store ty x y) (hd : o.dst = none) {g off : Nat} (hx : a.eval x = .pointer (some ⟨g, off, none⟩)) {ys : List Value} (hy : a.eval y = .agg ys.toArray) {t : TypeId} {vs : List Value} [H : HasRow R g t vs] {m : Nat} [A : Aggr ty m] (hl : ys.length = m) (hm : off + m ≤ vs.length) (h1 : ∀ v ∈ ys, v.oneCell' = true) {vs' : List Value} (hs : spl vs off ys = vs')
    [T : Turn R (.row g t vs) (.row g t vs') R'] (h : ∀ u', Kn w R' F u' → K a u') : o.wp Tryd.prog a u K Q := by
  subst hs
  have hr := (E.res _ H.h)
  refine wp_store_mid ty x y ho g off _ hx hy (by simpa using hr.2.there_v off ys.length (by omega)) (by rw [A.size, ← hl]; simp) (all_oneCell_toArray h1) ?_
  rw [hd]
  have ht := RowVTo.of_cells g t ys vs off u hr.2
  refine h _ (E.turned (r := .row g t vs) (r' := .row g t (spl vs off ys)) ⟨ht.os, ht.tape, ht.output, Nat.le_of_eq ht.size.symm, fun k _ hk => ht.other k fun e => hk (by rw [e]; rfl)⟩ ⟨hr.1, ht.row⟩ (.inl rfl))
theorem kn_storev (E : Kn w R F u) (hgd : o.guard = none) {ty : TypeId} {x y : Operand} (ho : o.op = .store ty x y) (hd : o.dst = none) {g off : Nat} (hx : a.eval x = .pointer (some ⟨g, off, none⟩)) {ys : List Value} (hy : a.eval y = .agg ys.toArray) {t : TypeId} {vs : List Value} [H : HasRow R g t vs] {m : Nat} [A : Aggr ty m] (hl : ys.length = m) (hm : off + m ≤ vs.length) (h1 : ∀ v ∈ ys, v.oneCell' = true) {vs' : List Value} (hs : spl vs off ys = vs')
    [T : Turn R (.row g t vs) (.row g t vs') R'] (h : ∀ u', Kn w R' F u' → wpList Tryd.prog ops Q rest a u') : wpList Tryd.prog ops Q (o :: rest) a u :=
  wpList_plain hgd fun _ hK => wp_kn_storev E ho hd hx hy hl hm h1 hs fun u' E' => hK _ _ (h u' E')
end

end Go.Proofs.YtgcijioiicmjiaaDoor
