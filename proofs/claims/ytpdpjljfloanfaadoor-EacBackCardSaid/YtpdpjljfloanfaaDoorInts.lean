/- A slice of one-cell values that reads as a list, of numbers above all; how such a reading stays; append. -/
import Derived.Test.YtpdpjljfloanfaaDoorBytes
import Derived.Below
set_option linter.all false
namespace Go.Proofs.YtpdpjljfloanfaaDoor
open Go.RowKit

/-- The slice at A, of n values, reads as vs; it lies below block B. -/
def Rs (w : World) (B : Nat) (A : Option Addr) (n : Nat) (vs : List Value) : Prop :=
  vs.length = n ∧ (0 < n → ∃ b off, A = some ⟨b, off, none⟩ ∧ b < B ∧ ∀ i v, vs[i]? = some v → w.cell? ⟨b, off + i, none⟩ = some v)

section
variable {w w' : World} {B B' : Nat} {A : Option Addr} {n : Nat} {vs : List Value}
theorem Rs.nil (w : World) (B : Nat) (A : Option Addr) : Rs w B A 0 [] := ⟨rfl, fun h => absurd h (by omega)⟩
theorem Rs.keep (h : Rs w B A n vs) (hk : ∀ p : Addr, p.block < B → w'.cell? p = w.cell? p) : Rs w' B A n vs :=
  ⟨h.1, fun hn => by
    obtain ⟨b, off, e, hb, hc⟩ := h.2 hn
    exact ⟨b, off, e, hb, fun i v hv => (hk ⟨b, off + i, none⟩ hb).trans (hc i v hv)⟩⟩
theorem Rs.more (h : Rs w B A n vs) (hB : B ≤ B') : Rs w B' A n vs :=
  ⟨h.1, fun hn => by
    obtain ⟨b, off, e, hb, hc⟩ := h.2 hn
    exact ⟨b, off, e, by omega, hc⟩⟩
theorem Rs.below (h : Rs w B A n vs) (hb : Below B w w') : Rs w' B A n vs := h.keep fun _ hp => hb.cell hp
theorem Rs.later (h : Rs w w.heap.size A n vs) (hb : Below w.heap.size w w') : Rs w' w'.heap.size A n vs := (h.below hb).more hb.size

theorem Rs.of_own {base : Nat} {e : TypeId} {c : Nat} (h : w.ownsRow base e 1 (.slice A n c) n vs) : Rs w w.heap.size A n vs := by
  refine ⟨h.1.trans (by simp), fun hn => ?_⟩
  rcases h.2 with ⟨_, h0⟩ | ⟨g, cap, cur, hv, _, hh, _⟩
  · omega
  · have hA : A = some ⟨g, 0, none⟩ := by injection hv
    subst hA
    refine ⟨g, 0, rfl, (Array.getElem?_eq_some_iff.1 hh).1, fun i v hi => ?_⟩
    have := h.cells (g := g) rfl i v hi
    rw [add_at] at this
    simpa using this
end

/-- The cells of a list of numbers. -/
def i64s (zs : List Int) : List Value := zs.map (Value.int .i64)
theorem i64s_length (zs : List Int) : (i64s zs).length = zs.length := by simp [i64s]
theorem i64s_one (zs : List Int) : ∀ v ∈ i64s zs, v.oneCell' = true := by
  intro v hv
  obtain ⟨x, _, rfl⟩ := List.mem_map.1 hv
  rfl
theorem i64s_append (xs ys : List Int) : i64s (xs ++ ys) = i64s xs ++ i64s ys := by simp [i64s]
theorem i64s_get (zs : List Int) (i : Nat) (h : i < zs.length) : (i64s zs)[i]? = some (.int .i64 (zs.getD i 0)) := by simp [i64s, List.getElem?_eq_getElem h]

/-- A slice of numbers. -/
def Is (w : World) (B : Nat) (A : Option Addr) (n : Nat) (zs : List Int) : Prop := Rs w B A n (i64s zs)
section
variable {w w' : World} {B B' : Nat} {A : Option Addr} {n : Nat} {zs : List Int}
theorem Is.length (h : Is w B A n zs) : zs.length = n := by have := h.1; rwa [i64s_length] at this
theorem Is.open (h : Is w B A n zs) (hn : 0 < n) : ∃ b off, A = some ⟨b, off, none⟩ ∧ b < B ∧ ∀ i, i < n → w.cell? ⟨b, off + i, none⟩ = some (.int .i64 (zs.getD i 0)) := by
  obtain ⟨b, off, e, hb, hc⟩ := h.2 hn
  exact ⟨b, off, e, hb, fun i hi => hc i _ (i64s_get zs i (by rw [h.length]; exact hi))⟩
theorem Is.nil (w : World) (B : Nat) (A : Option Addr) : Is w B A 0 [] := Rs.nil w B A
theorem Is.later (h : Is w w.heap.size A n zs) (hb : Below w.heap.size w w') : Is w' w'.heap.size A n zs := Rs.later h hb
end

/-- Block g is just the values vs, none of them frozen. -/
def Row (w : World) (g : Nat) (t : TypeId) (vs : List Value) : Prop := w.heap[g]? = some (.cells vs.toArray t (0, 0))
section
variable {w w' : World} {g : Nat} {t : TypeId} {vs : List Value}
theorem Row.lt (h : Row w g t vs) : g < w.heap.size := (Array.getElem?_eq_some_iff.1 h).1
theorem Row.cell (h : Row w g t vs) (i : Nat) (v : Value) (hv : vs[i]? = some v) : w.cell? ⟨g, i, none⟩ = some v := by
  rw [cell_of_row w g i _ t (0, 0) h]
  simpa using hv
theorem Row.frozen (h : Row w g t vs) (i : Nat) : w.frozen? ⟨g, i, none⟩ = false := by
  unfold Row at h
  simp [World.frozen?, h]
theorem Row.below {B : Nat} (h : Row w g t vs) (hb : Below B w w') (hg : g < B) : Row w' g t vs := (hb.block g hg).trans h
theorem Row.set_ (h : Row w g t vs) (i : Nat) (v : Value) : Row (w.setCell ⟨g, i, none⟩ v) g t (vs.set i v) := by
  unfold Row at h ⊢
  simp [World.setCell, Array.getElem?_modify, h]
theorem Row.new (w : World) (t : TypeId) (vs : List Value) : Row (w.alloc (.cells vs.toArray t)) w.heap.size t vs := heap_alloc_new w _
theorem Row.rs (h : Row w g t vs) (n : Nat) (hn : vs.length = n) : Rs w w.heap.size (some ⟨g, 0, none⟩) n vs :=
  ⟨hn, fun _ => ⟨g, 0, rfl, h.lt, fun i v hv => by simpa using h.cell i v hv⟩⟩
theorem i64s_set (zs : List Int) (i : Nat) (z : Int) : (i64s zs).set i (.int .i64 z) = i64s (zs.set i z) := by simp [i64s, List.map_set]
end

section
variable {P : Program} {w : World}
/-- 'append' of values that read as ys onto a row of the call's own that reads as xs. -/
theorem wpList_append_rs {ops : Array Oper} {rest : List Oper} {o : Oper} {a : Act} {Q : Exit → Act → World → Prop} (hgd : o.guard = none) (s x : Operand) (t : TypeId)
    (ho : o.op = .call { callee := .builtin .append, args := #[s, x], argTypes := #[t, t] })
    (base : Nat) (e : TypeId) (z : Value) (bytes : Nat) (ht : P.underlying t = some (.slice e)) (hinfo : (P.info? e).map (fun i => (i.zero, i.size, i.bytes)) = some (some z, 1, bytes)) (hzc : z.cells = #[z]) (hb0 : bytes ≤ 16)
    (v : Value) (n : Nat) (xs : List Value) (hs : a.eval s = v) (hown : w.ownsRow base e 1 v n xs)
    (B : Nat) (A : Option Addr) (m c : Nat) (ys : List Value) (hx : a.eval x = .slice A m c) (hr : Rs w B A m ys) (h1 : ∀ y ∈ ys, y.oneCell' = true)
    (hbytes : n + m ≤ 8796093022208) (hbase : base ≤ w.heap.size)
    (h : ∀ v' w', w'.ownsRow base e 1 v' (n + m) (xs ++ ys) → w.grownBy w' v.ownBlock → wpList P ops Q rest (a.put o.dst v') w') : wpList P ops Q (o :: rest) a w := by
  obtain ⟨i, hi, hz0, hz1, hz2⟩ := info_parts hinfo
  rcases A with _ | ad
  · have hm : m = 0 := by
      rcases Nat.eq_zero_or_pos m with h0 | h0
      · exact h0
      · obtain ⟨_, _, h', _⟩ := hr.2 h0
        cases h'
    subst hm
    obtain rfl : ys = [] := List.eq_nil_of_length_eq_zero hr.1
    refine wpList_plain hgd fun K hK => ?_
    have hrun := append_none (P := P) (w := w) base t o.type e i ht hi v n xs hown c
    unfold Oper.wp execOp
    simp only [ho, resolve, invoke, builtin, Sem.run_bind, Sem.run_pure, Result.andThen_ok, List.map_toArray, List.map_cons, List.map_nil, hs, hx, hrun]
    exact hK _ _ (h v w (by simpa using hown) (World.grownBy.refl w _))
  · refine wpList_append_own (w := w) hgd s x t ho base e i z 1 bytes ht hi hz0 hz1 hz2 (by rw [hzc]; rfl) (by decide) v n xs hs hown ad m c ys hx (by rw [hr.1]; omega) ?_ h1
      (by simp only [maxLen]; omega) (Nat.le_trans (Nat.mul_le_mul hbytes hb0) (by decide)) hbase fun v' w' h2 h3 _ => h v' w' h2 h3
    intro j u hu
    have hj : j < ys.length := by
      rcases Nat.lt_or_ge j ys.length with h' | h'
      · exact h'
      · rw [List.getElem?_eq_none h'] at hu; cases hu
    obtain ⟨b, off, e', _, hc⟩ := hr.2 (by rw [hr.1] at hj; omega)
    injection e' with e'
    subst e'
    rw [show (⟨b, off, none⟩ : Addr).add j = ⟨b, off + j, none⟩ from by unfold Addr.add; split <;> simp_all]
    exact hc j u hu
end
end Go.Proofs.YtpdpjljfloanfaaDoor
