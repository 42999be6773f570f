/- Bytes, Ints, RowBytes, Tile, Kn, Ty, Held, KnG, BtVar, Ret, Num: merged. -/
import Derived.WalkKit
import Derived.ProofKit
import Derived.Lib.Hide
import Derived.Laws.OwnMore
import Derived.Deep.Draws
import Derived.Maps.AppendAt
import Derived.Below
import Derived.Laws.Rows
import Derived.Laws.Tables
import Derived.Test.YtgcijioiicmjiaaDoorProg
import Derived.Deep.MidRow
import Derived.Great.BuildSlice
import Derived.Deep.RegionHeld3
import Derived.Laws.StructEq
import Derived.LaidLaws
import Derived.Lib.LaidTab
import Derived.Laws.BitsAllLaws
import Derived.Laws.BitsLemmas
import Derived.Laws.ShiftsVarLaws
set_option linter.all false
namespace Go.Proofs.YtgcijioiicmjiaaDoor
open Go.RowKit

/-- The cells of a list of bytes. -/
def u8s (xs : List Nat) : List Value := xs.map fun x : Nat => Value.int .u8 (x : Int)
theorem u8s_length (xs : List Nat) : (u8s xs).length = xs.length := by simp [u8s]
theorem u8s_one (xs : List Nat) : ∀ v ∈ u8s xs, v.oneCell' = true := by
  intro v hv
  obtain ⟨x, _, rfl⟩ := List.mem_map.1 hv
  rfl
theorem u8s_append (xs ys : List Nat) : u8s (xs ++ ys) = u8s xs ++ u8s ys := by simp [u8s]

theorem u8s_set (xs : List Nat) (i x : Nat) : (u8s xs).set i (.int .u8 (x : Int)) = u8s (xs.set i x) := by simp [u8s, List.map_set]
theorem u8s_getElem? (xs : List Nat) (i : Nat) (h : i < xs.length) : (u8s xs)[i]? = some (.int .u8 ((xs.getD i 0 : Nat) : Int)) := by
  simp [u8s, List.getElem?_eq_getElem h]

/-- The slice at A, of n bytes, reads as xs; it lies below block B. -/
def Bs (w : World) (B : Nat) (A : Option Addr) (n : Nat) (xs : List Nat) : Prop :=
  xs.length = n ∧ (∀ x ∈ xs, x < 256) ∧
    (0 < n → ∃ b off, A = some ⟨b, off, none⟩ ∧ b < B ∧ ∀ i, i < n → w.cell? ⟨b, off + i, none⟩ = some (.int .u8 ((xs.getD i 0 : Nat) : Int)))

section
variable {w w' : World} {B B' : Nat} {A : Option Addr} {n : Nat} {xs : List Nat}

theorem Bs.nil (w : World) (B : Nat) (A : Option Addr) : Bs w B A 0 [] := ⟨rfl, by simp, fun h => absurd h (by omega)⟩

theorem Bs.keep (h : Bs w B A n xs) (hk : ∀ p : Addr, p.block < B → w'.cell? p = w.cell? p) : Bs w' B A n xs :=
  ⟨h.1, h.2.1, fun hn => by
    obtain ⟨b, off, e, hb, hc⟩ := h.2.2 hn
    exact ⟨b, off, e, hb, fun i hi => (hk ⟨b, off + i, none⟩ hb).trans (hc i hi)⟩⟩

theorem Bs.more (h : Bs w B A n xs) (hB : B ≤ B') : Bs w B' A n xs :=
  ⟨h.1, h.2.1, fun hn => by
    obtain ⟨b, off, e, hb, hc⟩ := h.2.2 hn
    exact ⟨b, off, e, by omega, hc⟩⟩

theorem Bs.below (h : Bs w B A n xs) (hb : Below B w w') : Bs w' B A n xs := h.keep fun _ hp => hb.cell hp

theorem Bs.drew (h : Bs w B A n xs) : Bs w.drew B A n xs := h
theorem Bs.drewN (h : Bs w B A n xs) (k : Nat) : Bs (w.drewN k) B A n xs := h

theorem Bs.getD_lt (h : Bs w B A n xs) (i : Nat) : xs.getD i 0 < 256 := by
  by_cases hi : i < xs.length
  · have := h.2.1 (xs[i]) (List.getElem_mem hi)
    simpa [List.getD_eq_getElem?_getD, List.getElem?_eq_getElem hi] using this
  · simp [List.getD_eq_getElem?_getD, List.getElem?_eq_none (Nat.le_of_not_lt hi)]

theorem add_at (g i : Nat) : (⟨g, 0, none⟩ : Addr).add i = ⟨g, i, none⟩ := by unfold Addr.add; split <;> simp_all

/-- Of what the call made by append. -/
theorem Bs.of_own {base : Nat} {e : TypeId} {c : Nat} (h : w.ownsRow base e 1 (.slice A n c) n (u8s xs)) (hx : ∀ x ∈ xs, x < 256) : Bs w w.heap.size A n xs := by
  refine ⟨by simpa [u8s] using h.1, hx, fun hn => ?_⟩
  rcases h.2 with ⟨_, h0⟩ | ⟨g, cap, cur, hv, _, hh, _⟩
  · omega
  · have hA : A = some ⟨g, 0, none⟩ := by injection hv
    subst hA
    refine ⟨g, 0, rfl, (Array.getElem?_eq_some_iff.1 hh).1, fun i hi => ?_⟩
    have hl : i < xs.length := by have := h.1; simp [u8s] at this; omega
    have := h.cells (g := g) rfl i (.int .u8 ((xs.getD i 0 : Nat) : Int)) (by simp [u8s, List.getElem?_eq_getElem hl])
    rw [add_at] at this
    simpa using this
end

/-- Block g is just the bytes xs, none of them frozen. -/
def Blk (w : World) (g : Nat) (t : TypeId) (xs : List Nat) : Prop := w.heap[g]? = some (.cells (u8s xs).toArray t (0, 0))

section
variable {w w' : World} {g : Nat} {t : TypeId} {xs : List Nat}
theorem Blk.lt (h : Blk w g t xs) : g < w.heap.size := (Array.getElem?_eq_some_iff.1 h).1
theorem Blk.cell (h : Blk w g t xs) (i : Nat) (hi : i < xs.length) : w.cell? ⟨g, i, none⟩ = some (.int .u8 ((xs.getD i 0 : Nat) : Int)) := by
  rw [cell_of_row w g i _ t (0, 0) h]
  simp [u8s, List.getElem?_eq_getElem hi]
theorem Blk.frozen (h : Blk w g t xs) (i : Nat) : w.frozen? ⟨g, i, none⟩ = false := by
  unfold Blk at h
  simp [World.frozen?, h]
theorem Blk.below {B : Nat} (h : Blk w g t xs) (hb : Below B w w') (hg : g < B) : Blk w' g t xs := (hb.block g hg).trans h
theorem Blk.set_ (h : Blk w g t xs) (i : Nat) (x : Nat) : Blk (w.setCell ⟨g, i, none⟩ (.int .u8 (x : Int))) g t (xs.set i x) := by
  unfold Blk at h ⊢
  simp [World.setCell, Array.getElem?_modify, h, u8s, List.map_set]
theorem Blk.bs (h : Blk w g t xs) (hx : ∀ x ∈ xs, x < 256) (n : Nat) (hn : xs.length = n) : Bs w w.heap.size (some ⟨g, 0, none⟩) n xs :=
  ⟨hn, hx, fun _ => ⟨g, 0, rfl, h.lt, fun i hi => by simpa using h.cell i (by omega)⟩⟩
end

section
variable {P : Program} {w : World}

/-- A nil source: nothing is appended. -/
theorem append_none (base : Nat) (t ty e : TypeId) (i : TypeInfo) (ht : P.underlying t = some (.slice e)) (hi : P.info? e = some i) (v : Value) (n : Nat) (xs : List Value) (hown : w.ownsRow base e 1 v n xs) (c : Nat) :
    (Builtin.append_ #[t, t] ty #[v, .slice none 0 c]).run P w = .ok v w := by
  rcases hown.2 with ⟨rfl, rfl⟩ | ⟨g, cap, cur, rfl, _, _, hnc, _⟩ <;>
    simp [Builtin.append_, run_underlying ht, sizeOf, typeInfo, hi, Builtin.lenOf, Builtin.firstCells, storeCells, *]

/-- 'append' of bytes that read as ys onto a row of the call's own that reads as xs. -/
theorem wpList_append_bs {ops : Array Oper} {rest : List Oper} {o : Oper} {a : Act} {Q : Exit → Act → World → Prop} (hgd : o.guard = none) (s x : Operand) (t : TypeId)
    (ho : o.op = .call { callee := .builtin .append, args := #[s, x], argTypes := #[t, t] })
    (base : Nat) (e : TypeId) (ht : P.underlying t = some (.slice e)) (hinfo : (P.info? e).map (fun i => (i.zero, i.size, i.bytes)) = some (some (.int .u8 0), 1, 1))
    (v : Value) (n : Nat) (xs : List Nat) (hs : a.eval s = v) (hown : w.ownsRow base e 1 v n (u8s xs))
    (B : Nat) (A : Option Addr) (m c : Nat) (ys : List Nat) (hx : a.eval x = .slice A m c) (hr : Bs w B A m ys)
    (hbytes : n + m ≤ 140737488355328) (hbase : base ≤ w.heap.size)
    (h : ∀ v' w', w'.ownsRow base e 1 v' (n + m) (u8s (xs ++ ys)) → w.grownBy w' v.ownBlock → wpList P ops Q rest (a.put o.dst v') w') : wpList P ops Q (o :: rest) a w := by
  obtain ⟨i, hi, hz0, hz1, hz2⟩ := info_parts hinfo
  rcases A with _ | ad
  · have hm : m = 0 := by
      rcases Nat.eq_zero_or_pos m with h0 | h0
      · exact h0
      · obtain ⟨_, _, h', _⟩ := hr.2.2 h0
        cases h'
    subst hm
    obtain rfl : ys = [] := List.eq_nil_of_length_eq_zero hr.1
    refine wpList_plain hgd fun K hK => ?_
    have hrun := append_none (P := P) (w := w) base t o.type e i ht hi v n (u8s xs) hown c
    unfold Oper.wp execOp
    simp only [ho, resolve, invoke, builtin, Sem.run_bind, Sem.run_pure, Result.andThen_ok, List.map_toArray, List.map_cons, List.map_nil, hs, hx, hrun]
    exact hK _ _ (h v w (by simpa using hown) (World.grownBy.refl w _))
  · refine wpList_append_own (w := w) hgd s x t ho base e i (.int .u8 0) 1 1 ht hi hz0 hz1 hz2 rfl (by decide) v n (u8s xs) hs hown ad m c (u8s ys) hx (by rw [u8s_length, hr.1]; omega) ?_ (u8s_one ys)
      (by simp only [maxLen]; omega) (by omega) hbase fun v' w' h2 h3 _ => h v' w' (by rw [u8s_append]; exact h2) h3
    intro j u hu
    have hj : j < ys.length := by
      rcases Nat.lt_or_ge j ys.length with h' | h'
      · exact h'
      · rw [List.getElem?_eq_none (by rw [u8s_length]; exact h')] at hu; cases hu
    obtain ⟨b, off, e', _, hc⟩ := hr.2.2 (by rw [hr.1] at hj; omega)
    injection e' with e'
    subst e'
    simp [u8s, List.getElem?_eq_getElem hj] at hu
    rw [show (⟨b, off, none⟩ : Addr).add j = ⟨b, off + j, none⟩ from by unfold Addr.add; split <;> simp_all, hc j (by rw [← hr.1]; exact hj), ← hu]
    simp [List.getElem?_eq_getElem hj]
end
end Go.Proofs.YtgcijioiicmjiaaDoor
set_option linter.all false
namespace Go.Proofs.YtgcijioiicmjiaaDoor
open Go.RowKit

/-- The slice at A, of n values, reads as vs; it lies below block B. -/
def Rs (w : World) (B : Nat) (A : Option Addr) (n : Nat) (vs : List Value) : Prop :=
  vs.length = n ∧ (0 < n → ∃ b off, A = some ⟨b, off, none⟩ ∧ b < B ∧ ∀ i v, vs[i]? = some v → w.cell? ⟨b, off + i, none⟩ = some v)

section
variable {w w' : World} {B B' : Nat} {A : Option Addr} {n : Nat} {vs : List Value}
theorem Rs.nil (w : World) (B : Nat) (A : Option Addr) : Rs w B A 0 [] := ⟨rfl, fun h => absurd h (by omega)⟩
theorem Rs.keep (h : Rs w B A n vs) (hk : ∀ p : Addr, p.block < B → w'.cell? p = w.cell? p) : Rs w' B A n vs :=
  ⟨h.1, fun hn => by
    obtain ⟨b, off, e, hb, hc⟩ := h.2 hn
    exact ⟨b, off, e, hb, fun i v hv => (hk ⟨b, off + i, none⟩ hb).trans (hc i v hv)⟩⟩
theorem Rs.more (h : Rs w B A n vs) (hB : B ≤ B') : Rs w B' A n vs :=
  ⟨h.1, fun hn => by
    obtain ⟨b, off, e, hb, hc⟩ := h.2 hn
    exact ⟨b, off, e, by omega, hc⟩⟩
theorem Rs.below (h : Rs w B A n vs) (hb : Below B w w') : Rs w' B A n vs := h.keep fun _ hp => hb.cell hp
theorem Rs.later (h : Rs w w.heap.size A n vs) (hb : Below w.heap.size w w') : Rs w' w'.heap.size A n vs := (h.below hb).more hb.size

theorem Rs.of_own {base : Nat} {e : TypeId} {c : Nat} (h : w.ownsRow base e 1 (.slice A n c) n vs) : Rs w w.heap.size A n vs := by
  refine ⟨h.1.trans (by simp), fun hn => ?_⟩
  rcases h.2 with ⟨_, h0⟩ | ⟨g, cap, cur, hv, _, hh, _⟩
  · omega
  · have hA : A = some ⟨g, 0, none⟩ := by injection hv
    subst hA
    refine ⟨g, 0, rfl, (Array.getElem?_eq_some_iff.1 hh).1, fun i v hi => ?_⟩
    have := h.cells (g := g) rfl i v hi
    rw [add_at] at this
    simpa using this
end

/-- The cells of a list of numbers. -/
def i64s (zs : List Int) : List Value := zs.map (Value.int .i64)
theorem i64s_length (zs : List Int) : (i64s zs).length = zs.length := by simp [i64s]
theorem i64s_one (zs : List Int) : ∀ v ∈ i64s zs, v.oneCell' = true := by
  intro v hv
  obtain ⟨x, _, rfl⟩ := List.mem_map.1 hv
  rfl
theorem i64s_append (xs ys : List Int) : i64s (xs ++ ys) = i64s xs ++ i64s ys := by simp [i64s]
theorem i64s_get (zs : List Int) (i : Nat) (h : i < zs.length) : (i64s zs)[i]? = some (.int .i64 (zs.getD i 0)) := by simp [i64s, List.getElem?_eq_getElem h]

/-- A slice of numbers. -/
def Is (w : World) (B : Nat) (A : Option Addr) (n : Nat) (zs : List Int) : Prop := Rs w B A n (i64s zs)
section
variable {w w' : World} {B B' : Nat} {A : Option Addr} {n : Nat} {zs : List Int}
theorem Is.length (h : Is w B A n zs) : zs.length = n := by have := h.1; rwa [i64s_length] at this
theorem Is.open (h : Is w B A n zs) (hn : 0 < n) : ∃ b off, A = some ⟨b, off, none⟩ ∧ b < B ∧ ∀ i, i < n → w.cell? ⟨b, off + i, none⟩ = some (.int .i64 (zs.getD i 0)) := by
  obtain ⟨b, off, e, hb, hc⟩ := h.2 hn
  exact ⟨b, off, e, hb, fun i hi => hc i _ (i64s_get zs i (by rw [h.length]; exact hi))⟩
theorem Is.nil (w : World) (B : Nat) (A : Option Addr) : Is w B A 0 [] := Rs.nil w B A
theorem Is.later (h : Is w w.heap.size A n zs) (hb : Below w.heap.size w w') : Is w' w'.heap.size A n zs := Rs.later h hb
end

/-- Block g is just the values vs, none of them frozen. -/
def Row (w : World) (g : Nat) (t : TypeId) (vs : List Value) : Prop := w.heap[g]? = some (.cells vs.toArray t (0, 0))
section
variable {w w' : World} {g : Nat} {t : TypeId} {vs : List Value}
theorem Row.lt (h : Row w g t vs) : g < w.heap.size := (Array.getElem?_eq_some_iff.1 h).1
theorem Row.cell (h : Row w g t vs) (i : Nat) (v : Value) (hv : vs[i]? = some v) : w.cell? ⟨g, i, none⟩ = some v := by
  rw [cell_of_row w g i _ t (0, 0) h]
  simpa using hv
theorem Row.frozen (h : Row w g t vs) (i : Nat) : w.frozen? ⟨g, i, none⟩ = false := by
  unfold Row at h
  simp [World.frozen?, h]
theorem Row.below {B : Nat} (h : Row w g t vs) (hb : Below B w w') (hg : g < B) : Row w' g t vs := (hb.block g hg).trans h
theorem Row.set_ (h : Row w g t vs) (i : Nat) (v : Value) : Row (w.setCell ⟨g, i, none⟩ v) g t (vs.set i v) := by
  unfold Row at h ⊢
  simp [World.setCell, Array.getElem?_modify, h]
theorem Row.new (w : World) (t : TypeId) (vs : List Value) : Row (w.alloc (.cells vs.toArray t)) w.heap.size t vs := heap_alloc_new w _
theorem i64s_set (zs : List Int) (i : Nat) (z : Int) : (i64s zs).set i (.int .i64 z) = i64s (zs.set i z) := by simp [i64s, List.map_set]
end

section
variable {P : Program} {w : World}
end
end Go.Proofs.YtgcijioiicmjiaaDoor
set_option linter.all false
namespace Go.Proofs.YtgcijioiicmjiaaDoor
open Go.RowKit

theorem Below.setRow {B : Nat} {a w : World} (h : Below B a w) {g : Nat} (hg : B ≤ g) (cs : Array Value) : Below B a (w.setRow g cs) :=
  ⟨h.os, h.tape, h.output, by rw [size_setRow]; exact h.size, fun k hk => by
    have : (w.setRow g cs).heap[k]? = w.heap[k]? := by
      simp only [World.setRow, Array.getElem?_modify]
      rw [if_neg (by omega)]
    rw [this]
    exact h.block k hk⟩

/-- What a store into block g leaves: the row, the size, all else. -/
structure RowAt (w : World) (g : Nat) (t : TypeId) (xs : List Nat) (w' : World) : Prop where
  blk : Blk w' g t xs
  size : w'.heap.size = w.heap.size
  below : ∀ B a, B ≤ g → Below B a w → Below B a w'
  other : ∀ k, k ≠ g → w'.heap[k]? = w.heap[k]?

section
variable {P : Program} {w : World}
theorem wpList_load_bytes {ops : Array Oper} {rest : List Oper} {o : Oper} {a : Act} {Q : Exit → Act → World → Prop} (hgd : o.guard = none) (ty : TypeId) (x : Operand) (ho : o.op = .load ty x)
    (g : Nat) (hx : a.eval x = .pointer (some ⟨g, 0, none⟩)) (t : TypeId) (xs : List Nat) (n : Nat) (e : TypeId) (hg : Blk w g t xs)
    (hu : P.underlying ty = some (.array n e)) (hi : (P.info? ty).map (·.size) = some xs.length)
    (h : wpList P ops Q rest (a.put o.dst (.agg (u8s xs).toArray)) w) : wpList P ops Q (o :: rest) a w :=
  wpList_load_row hgd ty x ho g hx t _ (0, 0) _ hg hu rfl (by simpa [u8s] using hi) h

theorem wpList_store_bytes {ops : Array Oper} {rest : List Oper} {o : Oper} {a : Act} {Q : Exit → Act → World → Prop} (hgd : o.guard = none) (ty : TypeId) (x y : Operand) (ho : o.op = .store ty x y) (hd : o.dst = none)
    (g : Nat) (hx : a.eval x = .pointer (some ⟨g, 0, none⟩)) (xs : List Nat) (hy : a.eval y = .agg (u8s xs).toArray) (t : TypeId) (old : List Nat) (hg : Blk w g t old)
    (hi : (P.info? ty).map (·.size) = some xs.length) (hold : old.length = xs.length)
    (h : ∀ w', RowAt w g t xs w' → wpList P ops Q rest a w') : wpList P ops Q (o :: rest) a w := by
  refine wpList_store_row hgd ty x y ho g _ hx hy t _ hg (by simpa [u8s] using hi) (by simp [u8s, hold]) ?_ ?_
  · rw [Array.all_eq_true_iff_forall_mem]
    intro v hv
    exact u8s_one xs v (by simpa using hv)
  · rw [hd]
    refine h _ ⟨?_, size_setRow _ _ _, fun B b hB hb => Below.setRow hb hB _, fun k hk => ?_⟩
    · unfold Blk at hg ⊢
      simp [World.setRow, Array.getElem?_modify, hg]
    · simp only [World.setRow, Array.getElem?_modify]
      rw [if_neg (by omega)]

/-- A result that lies in a block. -/
theorem results_bytes {fn : Func} {p : Tmp} {ty : TypeId} (h : fn.results = #[.cell p ty]) (tmps : Array Value) (g : Nat) (t : TypeId) (xs : List Nat) (n : Nat) (e : TypeId)
    (hp : tmps.getD p undef = .pointer (some ⟨g, 0, none⟩)) (hg : Blk w g t xs) (hu : P.underlying ty = some (.array n e)) (hi : (P.info? ty).map (·.size) = some xs.length) :
    (results fn tmps).run P w = .ok (.agg (u8s xs).toArray) w :=
  results_cell_row h tmps w g t _ (0, 0) _ hp hg hu rfl (by simpa [u8s] using hi)
end

theorem Blk.new' (w : World) (t : TypeId) (xs : List Nat) : Blk (w.alloc (.cells (u8s xs).toArray t)) w.heap.size t xs := heap_alloc_new w _
theorem Blk.old {w : World} {g : Nat} {t : TypeId} {xs : List Nat} (h : Blk w g t xs) (o : Obj) : Blk (w.alloc o) g t xs := (Below.heap_alloc w o g h.lt).trans h
theorem Blk.rowAt {w w' : World} {g k : Nat} {t t' : TypeId} {xs ys : List Nat} (h : Blk w g t xs) (hr : RowAt w k t' ys w') (hk : g ≠ k) : Blk w' g t xs := (hr.other g hk).trans h
end Go.Proofs.YtgcijioiicmjiaaDoor
set_option linter.all false
namespace Go.Proofs.YtgcijioiicmjiaaDoor
open Go.RowKit

/-- An array of numbers, by value. -/
abbrev arr (zs : List Int) : Value := .agg (i64s zs).toArray

theorem i64s_drop (zs : List Int) (k : Nat) : i64s (zs.drop k) = (i64s zs).drop k := by simp [i64s, List.map_drop]
theorem i64s_take (zs : List Int) (k : Nat) : i64s (zs.take k) = (i64s zs).take k := by simp [i64s, List.map_take]

/-- A number of an array by value. -/
theorem run_index_i64 {P : Program} (t e : TypeId) (n : Nat) (hu : P.underlying t = some (.array n e)) (he : P.underlying e = some (.int .i64)) (hs : (P.info? e).map (·.size) = some 1) (zs : List Int) (i : Nat) (hi : i < n) (hn : zs.length = n) (w : World) :
    (Instr.index t (arr zs) (.int .i64 (i : Int))).run P w = .ok (.int .i64 (zs.getD i 0)) w := by
  cases hq : P.info? e with
  | none => simp [hq] at hs
  | some inf =>
    have hz : inf.size = 1 := by simpa [hq] using hs
    have hx : zs[i]? = some (zs[i]'(by omega)) := List.getElem?_eq_getElem (by omega)
    have hc : (0 : Int) ≤ (i : Int) ∧ (i : Int) < (n : Int) := by omega
    simp [Instr.index, run_underlying hu, run_underlying he, asIntOf, hc, go_sem, sizeOf, typeInfo, hq, hz, part, isAgg, arr, i64s, hx]
    omega

/-- Some values put over those of a list, from a place on. -/
def spl {α : Type} (zs : List α) (o : Nat) : List α → List α
  | [] => zs
  | y :: ys => spl (zs.set o y) (o + 1) ys
theorem spl_length {α : Type} (ys : List α) : ∀ (zs : List α) (o : Nat), (spl zs o ys).length = zs.length := by
  induction ys with
  | nil => intros; rfl
  | cons y ys ih => intro zs o; simp [spl, ih]
theorem spl_get {α : Type} (ys : List α) : ∀ (zs : List α) (o j : Nat), o + ys.length ≤ zs.length → (spl zs o ys)[j]? = if o ≤ j ∧ j < o + ys.length then ys[j - o]? else zs[j]? := by
  induction ys with
  | nil => intro zs o j _; simp [spl]; omega
  | cons y ys ih =>
    intro zs o j h
    simp only [List.length_cons] at h ⊢
    rw [spl, ih _ _ _ (by simp; omega)]
    by_cases h1 : j = o
    · subst h1
      rw [if_neg (by omega), if_pos (by omega)]
      have : j < zs.length := by omega
      simp [List.getElem?_set, this]
    · by_cases h2 : o + 1 ≤ j ∧ j < o + 1 + ys.length
      · rw [if_pos h2, if_pos (by omega), show j - o = (j - (o + 1)) + 1 from by omega]
        simp
      · rw [if_neg h2, if_neg (by omega)]
        simp only [List.getElem?_set]
        rw [if_neg (by omega)]
theorem spl_getD (ys zs : List Int) (o j : Nat) (h : o + ys.length ≤ zs.length) : (spl zs o ys).getD j 0 = if o ≤ j ∧ j < o + ys.length then ys.getD (j - o) 0 else zs.getD j 0 := by
  rw [List.getD_eq_getElem?_getD, spl_get ys zs o j h]
  split <;> rw [List.getD_eq_getElem?_getD]
theorem i64s_spl (ys : List Int) : ∀ (zs : List Int) (o : Nat), spl (i64s zs) o (i64s ys) = i64s (spl zs o ys) := by
  induction ys with
  | nil => intros; rfl
  | cons y ys ih =>
    intro zs o
    show spl ((i64s zs).set o (.int .i64 y)) (o + 1) (i64s ys) = i64s (spl (zs.set o y) (o + 1) ys)
    rw [i64s_set, ih]

/-- What stores into block g leave. -/
structure RowTo (w : World) (g : Nat) (t : TypeId) (zs : List Int) (w' : World) : Prop where
  row : Row w' g t (i64s zs)
  size : w'.heap.size = w.heap.size
  below : ∀ B a, B ≤ g → Below B a w → Below B a w'
  other : ∀ k, k ≠ g → w'.heap[k]? = w.heap[k]?
theorem RowTo.keep {w w' : World} {g : Nat} {t : TypeId} {zs : List Int} (h : RowTo w g t zs w') {k : Nat} {u : TypeId} {vs : List Value} (hk : k ≠ g) (hr : Row w k u vs) : Row w' k u vs := (h.other k hk).trans hr
theorem RowTo.of_cells (g : Nat) (t : TypeId) : ∀ (ys zs : List Int) (o : Nat) (w : World), Row w g t (i64s zs) → RowTo w g t (spl zs o ys) (w.setCells g o (i64s ys))
  | [], zs, o, w, h => ⟨h, rfl, fun _ _ _ h => h, fun _ _ => rfl⟩
  | y :: ys, zs, o, w, h => by
    have h1 : Row (w.setCell ⟨g, o, none⟩ (.int .i64 y)) g t (i64s (zs.set o y)) := by
      have := h.set_ o (.int .i64 y)
      rwa [i64s_set] at this
    have h2 := RowTo.of_cells g t ys (zs.set o y) (o + 1) _ h1
    exact ⟨h2.row, h2.size.trans (by simp), fun B a hB hb => h2.below B a hB (hb.setCell hB _), fun k hk => (h2.other k hk).trans (heap_setCell_other w ⟨g, o, none⟩ k _ hk)⟩

section
variable {P : Program} {w : World}
theorem Row.range {g : Nat} {t : TypeId} {zs : List Int} (h : Row w g t (i64s zs)) (o m : Nat) : w.rangeAt g o (i64s ((zs.drop o).take m)) := by
  intro j v hv
  refine h.cell (o + j) v ?_
  rw [i64s_take, i64s_drop, List.getElem?_take] at hv
  split at hv
  · rwa [List.getElem?_drop] at hv
  · cases hv
theorem Row.there_ {g : Nat} {t : TypeId} {zs : List Int} (h : Row w g t (i64s zs)) (o m : Nat) (hm : o + m ≤ zs.length) : w.there g o m := by
  intro j hj
  rw [h.cell (o + j) _ (i64s_get zs (o + j) (by omega)), h.frozen]
  exact ⟨rfl, rfl⟩

/-- The same where the operation is guarded. -/
theorem wpList_wanted {ops : Array Oper} {rest : List Oper} {o : Oper} {a : Act} {Q : Exit → Act → World → Prop} (hw : Region.wanted o (yielded ops a.tmps) = true)
    (h : ∀ K : Act → World → Prop, (∀ a w, wpList P ops Q rest a w → K a w) → o.wp P a w K Q) : wpList P ops Q (o :: rest) a w :=
  wpList_step fun K hK => by rw [if_pos hw]; exact h K hK
/-- An array into a block, from a place on. -/
theorem wpList_store_part {ops : Array Oper} {rest : List Oper} {o : Oper} {a : Act} {Q : Exit → Act → World → Prop} (hgd : o.guard = none) (ty : TypeId) (x y : Operand) (ho : o.op = .store ty x y) (hd : o.dst = none)
    (g off : Nat) (hx : a.eval x = .pointer (some ⟨g, off, none⟩)) (ys : List Int) (hy : a.eval y = arr ys) (t : TypeId) (zs : List Int) (hg : Row w g t (i64s zs))
    (hi : (P.info? ty).map (·.size) = some ys.length) (hm : off + ys.length ≤ zs.length)
    (h : ∀ w', RowTo w g t (spl zs off ys) w' → wpList P ops Q rest a w') : wpList P ops Q (o :: rest) a w := by
  refine wpList_store_mid hgd ty x y ho g off _ hx hy (by simpa [i64s_length] using hg.there_ off ys.length hm) (by simpa [i64s] using hi) (all_oneCell_toArray (i64s_one ys)) ?_
  rw [hd]
  exact h _ (RowTo.of_cells g t ys zs off w hg)
end
theorem Row.old {w : World} {g : Nat} {t : TypeId} {vs : List Value} (h : Row w g t vs) (o : Obj) : Row (w.alloc o) g t vs := (Below.heap_alloc w o g h.lt).trans h
theorem Row.int {w : World} {g : Nat} {t : TypeId} {zs : List Int} (h : Row w g t (i64s zs)) (i : Nat) (hi : i < zs.length) : w.cell? ⟨g, i, none⟩ = some (.int .i64 (zs.getD i 0)) := h.cell i _ (i64s_get zs i hi)
end Go.Proofs.YtgcijioiicmjiaaDoor
set_option linter.all false
namespace Go.Proofs.YtgcijioiicmjiaaDoor
open Go.RowKit

/-- A block that is just some values; a row that the call itself has made by append. -/
inductive Res
  | row (g : Nat) (t : TypeId) (vs : List Value)
  | own (e : TypeId) (size : Nat) (v : Value) (n : Nat) (xs : List Value)
def Res.block : Res → Option Nat
  | .row g _ _ => some g
  | .own _ _ v _ _ => v.ownBlock
def Res.holds (B : Nat) (u : World) : Res → Prop
  | .row g t vs => B ≤ g ∧ Row u g t vs
  | .own e size v n xs => u.ownsRow B e size v n xs

theorem Res.kept {r : Res} {B : Nat} {u u' : World} (h : r.holds B u) (hk : ∀ b, r.block = some b → u'.heap[b]? = u.heap[b]?) : r.holds B u' := by
  cases r with
  | row g t vs => exact ⟨h.1, (hk g rfl).trans h.2⟩
  | own e size v n xs =>
    refine ⟨h.1, ?_⟩
    rcases h.2 with h0 | ⟨g, cap, cur, rfl, hb, hh, hr⟩
    · exact .inl h0
    · exact .inr ⟨g, cap, cur, rfl, hb, (hk g rfl).trans hh, hr⟩
theorem Res.range {r : Res} {B : Nat} {u : World} (h : r.holds B u) {b : Nat} (hb : r.block = some b) : B ≤ b ∧ b < u.heap.size := by
  cases r with
  | row g t vs => cases hb; exact ⟨h.1, h.2.lt⟩
  | own e size v n xs =>
    rcases h.2 with ⟨rfl, _⟩ | ⟨g, cap, cur, rfl, hg, hh, _⟩
    · cases hb
    · cases hb; exact ⟨hg, (Array.getElem?_eq_some_iff.1 hh).1⟩

def blocks (R : List Res) : List Nat := R.filterMap Res.block
theorem mem_blocks {R : List Res} {b : Nat} : b ∈ blocks R ↔ ∃ r ∈ R, r.block = some b := by simp [blocks]

/-- From u to u' nothing has changed but new blocks and those of B. -/
structure Keep (B : List Nat) (u u' : World) : Prop where
  os : u'.os = u.os
  tape : u'.tape = u.tape
  output : u'.output = u.output
  size : u.heap.size ≤ u'.heap.size
  block : ∀ k, k < u.heap.size → k ∉ B → u'.heap[k]? = u.heap[k]?
theorem Keep.refl (B : List Nat) (u : World) : Keep B u u := ⟨rfl, rfl, rfl, Nat.le_refl _, fun _ _ _ => rfl⟩
theorem Keep.trans {B : List Nat} {a b c : World} (h : Keep B a b) (k : Keep B b c) : Keep B a c :=
  ⟨k.os.trans h.os, k.tape.trans h.tape, k.output.trans h.output, Nat.le_trans h.size k.size, fun i hi hB => (k.block i (Nat.lt_of_lt_of_le hi h.size) hB).trans (h.block i hi hB)⟩
theorem Keep.of_below {B : List Nat} {u u' : World} (h : Below u.heap.size u u') : Keep B u u' := ⟨h.os, h.tape, h.output, h.size, fun k hk _ => h.block k hk⟩

structure Kn (w : World) (R : List Res) (F : List (World → Prop)) (u : World) : Prop where
  res : ∀ r ∈ R, r.holds w.heap.size u
  apart : (blocks R).Nodup
  facts : ∀ f ∈ F, ∀ u', Keep (blocks R) u u' → f u'
  bel : Below w.heap.size w u

section
variable {w u u' : World} {R : List Res} {F : List (World → Prop)}
theorem Kn.start (w : World) : Kn w [] [] w := ⟨by simp, by simp [blocks], by simp, Below.refl _ _⟩
theorem Kn.later (h : Kn w R F u) (hb : Below u.heap.size u u') : Kn w R F u' :=
  ⟨fun r hr => Res.kept (h.res r hr) fun b e => hb.block b (Res.range (h.res r hr) e).2, h.apart, fun f hf u'' hk => h.facts f hf u'' ((Keep.of_below hb).trans hk), h.bel.trans (hb.mono h.bel.size)⟩
theorem Kn.drew (h : Kn w R F u) : Kn w R F u.drew := h.later ⟨rfl, rfl, rfl, Nat.le_refl _, fun _ _ => rfl⟩
theorem Kn.drewN (h : Kn w R F u) (k : Nat) : Kn w R F (u.drewN k) := h.later ⟨rfl, rfl, rfl, Nat.le_refl _, fun _ _ => rfl⟩
theorem Kn.get (h : Kn w R F u) {f : World → Prop} (hf : f ∈ F) : f u := h.facts f hf u (Keep.refl _ _)
/-- A new resource in a new block (or in none). -/
theorem Kn.add (h : Kn w R F u) (hb : Below u.heap.size u u') {r : Res} (hr : r.holds w.heap.size u') (hf : ∀ b, r.block = some b → u.heap.size ≤ b) : Kn w (r :: R) F u' := by
  have h' := h.later hb
  refine ⟨fun s hs => ?_, ?_, fun f hff u'' hk => ?_, h'.bel⟩
  · rcases List.mem_cons.1 hs with rfl | hs
    · exact hr
    · exact h'.res s hs
  · unfold blocks
    rw [List.filterMap_cons]
    split
    · exact h.apart
    · rename_i b e
      refine List.nodup_cons.2 ⟨fun hm => ?_, h.apart⟩
      obtain ⟨s, hs, e'⟩ := mem_blocks.1 hm
      have h1 := (Res.range (h.res s hs) e').2
      have h2 := hf b e
      omega
  · refine h.facts f hff u'' ?_
    refine ⟨hk.os.trans hb.os, hk.tape.trans hb.tape, hk.output.trans hb.output, Nat.le_trans hb.size hk.size, fun k hk1 hk2 => (hk.block k (Nat.lt_of_lt_of_le hk1 hb.size) fun hm => ?_).trans (hb.block k hk1)⟩
    obtain ⟨s, hs, e⟩ := mem_blocks.1 hm
    rcases List.mem_cons.1 hs with rfl | hs
    · have := hf k e; omega
    · exact hk2 (mem_blocks.2 ⟨s, hs, e⟩)
theorem blocks_split (R1 R2 : List Res) (r : Res) : blocks (R1 ++ r :: R2) = blocks R1 ++ (r.block.toList ++ blocks R2) := by
  simp only [blocks, List.filterMap_append, List.filterMap_cons]
  cases r.block <;> rfl
/-- A resource has turned into another, in its own block or in a new one. -/
theorem Kn.turn {R1 R2 : List Res} {r r' : Res} (h : Kn w (R1 ++ r :: R2) F u) (hg : u.grownBy u' r.block) (hr : r'.holds w.heap.size u') (hf : r'.block = r.block ∨ (∀ b, r'.block = some b → u.heap.size ≤ b)) : Kn w (R1 ++ r' :: R2) F u' := by
  have hrm : r ∈ R1 ++ r :: R2 := by simp
  have hB : ∀ b, b ∈ blocks (R1 ++ r' :: R2) → b < u.heap.size → b ∈ blocks (R1 ++ r :: R2) := by
    intro b hb hlt
    rw [blocks_split] at hb ⊢
    simp only [List.mem_append, Option.mem_toList] at hb ⊢
    rcases hb with hb | hb | hb
    · exact .inl hb
    · rcases hf with e | e
      · exact .inr (.inl (e ▸ hb))
      · have := e b hb; omega
    · exact .inr (.inr hb)
  have hap := h.apart
  rw [blocks_split] at hap
  have hne : ∀ s, s ∈ R1 ∨ s ∈ R2 → ∀ b, s.block = some b → some b ≠ r.block := by
    intro s hs b e e'
    have hap' := hap
    rw [← e'] at hap'
    simp only [Option.toList_some, List.singleton_append] at hap'
    have h2 := List.nodup_append.1 hap'
    rcases hs with hs | hs
    · exact h2.2.2 b (mem_blocks.2 ⟨s, hs, e⟩) b (by simp) rfl
    · exact (List.nodup_cons.1 h2.2.1).1 (mem_blocks.2 ⟨s, hs, e⟩)
  refine ⟨fun s hs => ?_, ?_, fun f hff u'' hk => ?_, ?_⟩
  · simp only [List.mem_append, List.mem_cons] at hs
    have key : ∀ s, s ∈ R1 ∨ s ∈ R2 → s.holds w.heap.size u' := fun s hs => by
      have hh : s.holds w.heap.size u := h.res s (by simp; rcases hs with h | h <;> simp [h])
      exact Res.kept hh fun b e => hg.block b (Res.range hh e).2 (hne s hs b e)
    rcases hs with hs | rfl | hs
    · exact key s (.inl hs)
    · exact hr
    · exact key s (.inr hs)
  · rw [blocks_split]
    rcases hf with e | e
    · rw [e]; exact hap
    · cases hbk : r'.block with
      | none =>
        simp only [Option.toList_none, List.nil_append]
        have h2 := List.nodup_append.1 hap
        exact List.nodup_append.2 ⟨h2.1, (List.nodup_append.1 h2.2.1).2.1, fun x hx y hy => h2.2.2 x hx y (by simp [hy])⟩
      | some b =>
        have hb := e b hbk
        have hlt : ∀ s, s ∈ R1 ∨ s ∈ R2 → ∀ c, s.block = some c → c < u.heap.size := fun s hs c hc => (Res.range (h.res s (by simp; rcases hs with h | h <;> simp [h])) hc).2
        have h2 := List.nodup_append.1 hap
        simp only [Option.toList_some, List.singleton_append]
        refine List.nodup_append.2 ⟨h2.1, List.nodup_cons.2 ⟨fun hm => ?_, (List.nodup_append.1 h2.2.1).2.1⟩, fun x hx y hy => ?_⟩
        · obtain ⟨s, hs, e'⟩ := mem_blocks.1 hm
          have := hlt s (.inr hs) b e'; omega
        · rcases List.mem_cons.1 hy with rfl | hy
          · obtain ⟨s, hs, e'⟩ := mem_blocks.1 hx
            have := hlt s (.inl hs) x e'; omega
          · exact h2.2.2 x hx y (by simp [hy])
  · refine h.facts f hff u'' ⟨hk.os.trans hg.os, hk.tape.trans hg.tape, hk.output.trans hg.output, Nat.le_trans hg.size hk.size, fun k hk1 hk2 => ?_⟩
    refine (hk.block k (Nat.lt_of_lt_of_le hk1 hg.size) fun hm => hk2 (hB k hm hk1)).trans (hg.block k hk1 fun e => hk2 (mem_blocks.2 ⟨r, hrm, e.symm⟩))
  · exact h.bel.grown hg h.bel.size fun k e => (Res.range (h.res r hrm) e).1
/-- A fact more. -/
theorem Kn.fact (h : Kn w R F u) {f : World → Prop} (hf : ∀ u', Keep (blocks R) u u' → f u') : Kn w R (f :: F) u :=
  ⟨h.res, h.apart, fun g hg => (List.mem_cons.1 hg).elim (fun e => e ▸ hf) (h.facts g), h.bel⟩
/-- Less is known. -/
theorem Kn.part (h : Kn w R F u) (R' : List Res) (F' : List (World → Prop)) (hR : R'.Sublist R) (hF : ∀ f ∈ F', f ∈ F) : Kn w R' F' u := by
  have hs : (blocks R').Sublist (blocks R) := hR.filterMap _
  exact ⟨fun r hr => h.res r (hR.subset hr), hs.nodup h.apart, fun f hf u' hk => h.facts f (hF f hf) u' ⟨hk.os, hk.tape, hk.output, hk.size, fun k h1 h2 => hk.block k h1 fun hm => h2 (hs.subset hm)⟩, h.bel⟩
end

/-- A block known whole, as a fact. -/
def rowF (g : Nat) (t : TypeId) (vs : List Value) : World → Prop := fun u => Row u g t vs
def bsF (A : Option Addr) (n : Nat) (xs : List Nat) : World → Prop := fun u => Bs u u.heap.size A n xs

class HasRow (R : List Res) (g : Nat) (t : outParam TypeId) (vs : outParam (List Value)) : Prop where
  h : Res.row g t vs ∈ R
instance {R : List Res} {r : Res} {g : Nat} {t : TypeId} {vs : List Value} [H : HasRow R g t vs] : HasRow (r :: R) g t vs := ⟨List.mem_cons_of_mem _ H.h⟩
instance {R : List Res} {g : Nat} {t : TypeId} {vs : List Value} : HasRow (.row g t vs :: R) g t vs := ⟨List.mem_cons_self⟩
class HasRowF (F : List (World → Prop)) (g : Nat) (t : outParam TypeId) (vs : outParam (List Value)) : Prop where
  h : rowF g t vs ∈ F
instance {F : List (World → Prop)} {f : World → Prop} {g : Nat} {t : TypeId} {vs : List Value} [H : HasRowF F g t vs] : HasRowF (f :: F) g t vs := ⟨List.mem_cons_of_mem _ H.h⟩
instance {F : List (World → Prop)} {g : Nat} {t : TypeId} {vs : List Value} : HasRowF (rowF g t vs :: F) g t vs := ⟨List.mem_cons_self⟩
class Sees (R : List Res) (F : List (World → Prop)) (g : Nat) (t : outParam TypeId) (vs : outParam (List Value)) : Prop where
  h : ∀ {w u : World}, Kn w R F u → Row u g t vs
instance {R : List Res} {F : List (World → Prop)} {g : Nat} {t : TypeId} {vs : List Value} [H : HasRowF F g t vs] : Sees R F g t vs := ⟨fun E => E.get H.h⟩
instance {R : List Res} {F : List (World → Prop)} {g : Nat} {t : TypeId} {vs : List Value} [H : HasRow R g t vs] : Sees R F g t vs := ⟨fun E => (E.res _ H.h).2⟩
class HasOwn (R : List Res) (v : Value) (e : outParam TypeId) (size : outParam Nat) (n : outParam Nat) (xs : outParam (List Value)) : Prop where
  h : Res.own e size v n xs ∈ R
instance {R : List Res} {r : Res} {v : Value} {e : TypeId} {size n : Nat} {xs : List Value} [H : HasOwn R v e size n xs] : HasOwn (r :: R) v e size n xs := ⟨List.mem_cons_of_mem _ H.h⟩
instance {R : List Res} {v : Value} {e : TypeId} {size n : Nat} {xs : List Value} : HasOwn (.own e size v n xs :: R) v e size n xs := ⟨List.mem_cons_self⟩
class HasOwnAny (R : List Res) (v : outParam Value) (e : outParam TypeId) (size : outParam Nat) (n : outParam Nat) (xs : outParam (List Value)) : Prop where
  h : Res.own e size v n xs ∈ R
instance {R : List Res} {r : Res} {v : Value} {e : TypeId} {size n : Nat} {xs : List Value} [H : HasOwnAny R v e size n xs] : HasOwnAny (r :: R) v e size n xs := ⟨List.mem_cons_of_mem _ H.h⟩
instance {R : List Res} {v : Value} {e : TypeId} {size n : Nat} {xs : List Value} : HasOwnAny (.own e size v n xs :: R) v e size n xs := ⟨List.mem_cons_self⟩
/-- R' is R with r' in r's place. -/
class Turn (R : List Res) (r r' : Res) (R' : outParam (List Res)) : Prop where
  h : ∃ R1 R2, R = R1 ++ r :: R2 ∧ R' = R1 ++ r' :: R2
instance {R R' : List Res} {s r r' : Res} [H : Turn R r r' R'] : Turn (s :: R) r r' (s :: R') := ⟨by obtain ⟨R1, R2, h1, h2⟩ := H.h; exact ⟨s :: R1, R2, by rw [h1]; rfl, by rw [h2]; rfl⟩⟩
instance {R : List Res} {r r' : Res} : Turn (r :: R) r r' (r' :: R) := ⟨[], R, rfl, rfl⟩
theorem Kn.turned {w u u' : World} {R R' : List Res} {F : List (World → Prop)} {r r' : Res} (h : Kn w R F u) [T : Turn R r r' R'] (hg : u.grownBy u' r.block) (hr : r'.holds w.heap.size u') (hf : r'.block = r.block ∨ (∀ b, r'.block = some b → u.heap.size ≤ b)) : Kn w R' F u' := by
  obtain ⟨R1, R2, rfl, rfl⟩ := T.h
  exact h.turn hg hr hf

/-- R' is R without r. -/
class Pull (R : List Res) (r : Res) (R' : outParam (List Res)) : Prop where
  h : ∃ R1 R2, R = R1 ++ r :: R2 ∧ R' = R1 ++ R2
instance {R R' : List Res} {s r : Res} [H : Pull R r R'] : Pull (s :: R) r (s :: R') := ⟨by obtain ⟨R1, R2, h1, h2⟩ := H.h; exact ⟨s :: R1, R2, by rw [h1]; rfl, by rw [h2]; rfl⟩⟩
instance {R : List Res} {r : Res} : Pull (r :: R) r R := ⟨[], R, rfl, rfl⟩
theorem Kn.perm {w u : World} {R R' : List Res} {F : List (World → Prop)} (h : Kn w R F u) (hp : R.Perm R') : Kn w R' F u := by
  have hb : (blocks R).Perm (blocks R') := hp.filterMap _
  exact ⟨fun r hr => h.res r (hp.mem_iff.2 hr), (hb.nodup_iff).1 h.apart, fun f hf u' hk => h.facts f hf u' ⟨hk.os, hk.tape, hk.output, hk.size, fun k h1 h2 => hk.block k h1 fun hm => h2 (hb.mem_iff.2 hm)⟩, h.bel⟩
/-- A block that is not written any more, as a fact. -/
theorem Kn.rest {w u : World} {R R' : List Res} {F : List (World → Prop)} (h : Kn w R F u) (g : Nat) {t : TypeId} {vs : List Value} [H : HasRow R g t vs] [P : Pull R (.row g t vs) R'] : Kn w R' (rowF g t vs :: F) u := by
  obtain ⟨R1, R2, rfl, rfl⟩ := P.h
  have h2 := h.perm List.perm_middle
  have hap := h2.apart
  have hg : g ∉ blocks (R1 ++ R2) := (List.nodup_cons.1 (show (g :: blocks (R1 ++ R2)).Nodup from hap)).1
  have hr := (h2.res (.row g t vs) (by simp))
  exact (h2.part (R1 ++ R2) F (List.sublist_cons_self _ _) fun _ h => h).fact fun u' hk => (hk.block g hr.2.lt hg).trans hr.2

theorem Kn.row {w u : World} {R : List Res} {F : List (World → Prop)} (E : Kn w R F u) {g : Nat} {t : TypeId} {vs : List Value} [S : Sees R F g t vs] : Row u g t vs := S.h E
theorem Kn.cell {w u : World} {R : List Res} {F : List (World → Prop)} (E : Kn w R F u) (g i : Nat) {t : TypeId} {vs : List Value} [S : Sees R F g t vs] {v : Value} (hv : vs[i]? = some v) : u.cell? ⟨g, i, none⟩ = some v := (S.h E).cell i v hv
theorem Kn.own {w u : World} {R : List Res} {F : List (World → Prop)} (E : Kn w R F u) {v : Value} {e : TypeId} {size n : Nat} {xs : List Value} [H : HasOwn R v e size n xs] : u.ownsRow w.heap.size e size v n xs := E.res _ H.h
/-- A block is new, whatever it holds. -/
theorem Kn.new {w u : World} {R : List Res} {F : List (World → Prop)} (E : Kn w R F u) (t : TypeId) (vs : List Value) : Kn w (.row u.heap.size t vs :: R) F (u.alloc (.cells vs.toArray t)) :=
  E.add ((Below.refl u.heap.size u).alloc (Nat.le_refl _) _) ⟨E.bel.size, Row.new u t vs⟩ fun _ e => by cases e; exact Nat.le_refl _
theorem Kn.own_nil {w u : World} {R : List Res} {F : List (World → Prop)} (E : Kn w R F u) (e : TypeId) (size : Nat) : Kn w (.own e size (.slice none 0 0) 0 [] :: R) F u :=
  E.add (Below.refl _ _) (r := .own e size (.slice none 0 0) 0 []) ⟨by simp, .inl ⟨rfl, rfl⟩⟩ fun _ e => by cases e

theorem Below.box' (w : World) (o : Obj) : Below w.heap.size w (w.alloc o) := (Below.refl w.heap.size w).alloc (Nat.le_refl _) o
theorem grown_set' (w : World) (a : Addr) (u : Value) : w.grownBy (w.setCell a u) (some a.block) :=
  ⟨rfl, rfl, rfl, by simp, fun k _ hk => heap_setCell_other w a k u (fun e => hk (by rw [e]))⟩

/-! Types: one cell, or several; the zero value. -/
class Scal (ty : TypeId) : Prop where
  desc : ∃ d, Tryd.prog.underlying ty = some d ∧ d.isRow = false
  size : (Tryd.prog.info? ty).map (·.size) = some 1
class Aggr (ty : TypeId) (m : outParam Nat) : Prop where
  desc : ∃ d, Tryd.prog.underlying ty = some d ∧ d.isRow = true
  size : (Tryd.prog.info? ty).map (·.size) = some m
class ZeroV (ty : TypeId) (vs : outParam (List Value)) : Prop where
  h : ∃ i z, Tryd.prog.info? ty = some i ∧ i.zero = some z ∧ z.cells = vs.toArray
theorem ZeroV.of {ty : TypeId} {vs : List Value} (h : ((Tryd.prog.info? ty).bind (·.zero)).map (·.cells) = some vs.toArray) : ZeroV ty vs := by
  cases hq : Tryd.prog.info? ty with
  | none => simp [hq] at h
  | some i =>
    cases hz : i.zero with
    | none => simp [hq, hz] at h
    | some z => simp [hq, hz] at h; exact ⟨i, z, hq, hz, h⟩

section
variable {w u : World} {R R' : List Res} {F : List (World → Prop)} {ops : Array Oper} {rest : List Oper} {o : Oper} {a : Act} {Q : Exit → Act → World → Prop} {K : Act → World → Prop}
theorem run_isAgg_no {ty : TypeId} [S : Scal ty] (w : World) : (isAgg ty).run Tryd.prog w = .ok false w := by
  obtain ⟨d, hu, hd⟩ := S.desc
  unfold isAgg
  rw [Sem.run_bind, run_underlying hu w]
  cases d <;> simp_all [TypeDesc.isRow]
theorem wp_kn_load (E : Kn w R F u) {ty : TypeId} {x : Operand} (ho : o.op = .load ty x) {g i : Nat} (hx : a.eval x = .pointer (some ⟨g, i, none⟩)) {t : TypeId} {vs : List Value} [Sees R F g t vs] [Scal ty] {v : Value} (hv : vs[i]? = some v)
    (h : K (a.put o.dst v) u) : o.wp Tryd.prog a u K Q := by
  have hc := E.cell g i hv
  unfold Oper.wp execOp
  simp only [ho, hx, Instr.loadAt, Instr.sureAddr, loadVar, Sem.run_bind, Sem.run_pure, Result.andThen_ok, run_isAgg_no, Bool.false_eq_true, if_false, run_load, hc]
  exact h
theorem kn_load (E : Kn w R F u) (hgd : o.guard = none) {ty : TypeId} {x : Operand} (ho : o.op = .load ty x) {g i : Nat} (hx : a.eval x = .pointer (some ⟨g, i, none⟩)) {t : TypeId} {vs : List Value} [Sees R F g t vs] [Scal ty] {v : Value} (hv : vs[i]? = some v)
    (h : wpList Tryd.prog ops Q rest (a.put o.dst v) u) : wpList Tryd.prog ops Q (o :: rest) a u :=
  wpList_plain hgd fun _ hK => wp_kn_load E ho hx hv (hK _ _ h)
theorem kn_load_if (E : Kn w R F u) (hw : Region.wanted o (yielded ops a.tmps) = true) {ty : TypeId} {x : Operand} (ho : o.op = .load ty x) {g i : Nat} (hx : a.eval x = .pointer (some ⟨g, i, none⟩)) {t : TypeId} {vs : List Value} [Sees R F g t vs] [Scal ty] {v : Value} (hv : vs[i]? = some v)
    (h : wpList Tryd.prog ops Q rest (a.put o.dst v) u) : wpList Tryd.prog ops Q (o :: rest) a u :=
  wpList_wanted hw fun _ hK => wp_kn_load E ho hx hv (hK _ _ h)

/-- A number of an array of numbers; a byte of an array of bytes. -/
theorem kn_loadi (E : Kn w R F u) (hgd : o.guard = none) {ty : TypeId} {x : Operand} (ho : o.op = .load ty x) {g i : Nat} (hx : a.eval x = .pointer (some ⟨g, i, none⟩)) {t : TypeId} {zs : List Int} [Sees R F g t (i64s zs)] [Scal ty] (hi : i < zs.length)
    (h : wpList Tryd.prog ops Q rest (a.put o.dst (.int .i64 (zs.getD i 0))) u) : wpList Tryd.prog ops Q (o :: rest) a u := kn_load E hgd ho hx (i64s_get zs i hi) h
theorem wp_kn_loads (E : Kn w R F u) {ty : TypeId} {x : Operand} (ho : o.op = .load ty x) {g : Nat} (hx : a.eval x = .pointer (some ⟨g, 0, none⟩)) {t : TypeId} {vs : List Value} {m : Nat} [Sees R F g t vs] [A : Aggr ty m] (hl : vs.length = m)
    (h : K (a.put o.dst (.agg vs.toArray)) u) : o.wp Tryd.prog a u K Q := by
  obtain ⟨d, hu, hd⟩ := A.desc
  refine wp_load_row ty x ho g hx t vs.toArray (0, 0) d E.row hu (by cases d <;> simp_all [TypeDesc.isRow]) (by rw [A.size, ← hl]; simp) h
theorem kn_loads (E : Kn w R F u) (hgd : o.guard = none) {ty : TypeId} {x : Operand} (ho : o.op = .load ty x) {g : Nat} (hx : a.eval x = .pointer (some ⟨g, 0, none⟩)) {t : TypeId} {vs : List Value} {m : Nat} [Sees R F g t vs] [Aggr ty m] (hl : vs.length = m)
    (h : wpList Tryd.prog ops Q rest (a.put o.dst (.agg vs.toArray)) u) : wpList Tryd.prog ops Q (o :: rest) a u :=
  wpList_plain hgd fun _ hK => wp_kn_loads E ho hx hl (hK _ _ h)
theorem kn_loads_if (E : Kn w R F u) (hw : Region.wanted o (yielded ops a.tmps) = true) {ty : TypeId} {x : Operand} (ho : o.op = .load ty x) {g : Nat} (hx : a.eval x = .pointer (some ⟨g, 0, none⟩)) {t : TypeId} {vs : List Value} {m : Nat} [Sees R F g t vs] [Aggr ty m] (hl : vs.length = m)
    (h : wpList Tryd.prog ops Q rest (a.put o.dst (.agg vs.toArray)) u) : wpList Tryd.prog ops Q (o :: rest) a u :=
  wpList_wanted hw fun _ hK => wp_kn_loads E ho hx hl (hK _ _ h)
/-- A part of numbers. -/
theorem wp_kn_loadp (E : Kn w R F u) {ty : TypeId} {x : Operand} (ho : o.op = .load ty x) {g off : Nat} (hx : a.eval x = .pointer (some ⟨g, off, none⟩)) {t : TypeId} {zs : List Int} {m : Nat} [Sees R F g t (i64s zs)] [A : Aggr ty m] (hl : off + m ≤ zs.length)
    (h : K (a.put o.dst (arr ((zs.drop off).take m))) u) : o.wp Tryd.prog a u K Q := by
  obtain ⟨d, hu, hd⟩ := A.desc
  have hr : Row u g t (i64s zs) := E.row
  exact wp_load_mid ty x ho g off hx _ d (hr.range off m) hu hd (by rw [A.size, i64s_length, List.length_take, List.length_drop, Nat.min_eq_left (by omega)]) h
theorem kn_loadp (E : Kn w R F u) (hgd : o.guard = none) {ty : TypeId} {x : Operand} (ho : o.op = .load ty x) {g off : Nat} (hx : a.eval x = .pointer (some ⟨g, off, none⟩)) {t : TypeId} {zs : List Int} {m : Nat} [Sees R F g t (i64s zs)] [Aggr ty m] (hl : off + m ≤ zs.length)
    (h : wpList Tryd.prog ops Q rest (a.put o.dst (arr ((zs.drop off).take m))) u) : wpList Tryd.prog ops Q (o :: rest) a u :=
  wpList_plain hgd fun _ hK => wp_kn_loadp E ho hx hl (hK _ _ h)
theorem kn_loadp_if (E : Kn w R F u) (hw : Region.wanted o (yielded ops a.tmps) = true) {ty : TypeId} {x : Operand} (ho : o.op = .load ty x) {g off : Nat} (hx : a.eval x = .pointer (some ⟨g, off, none⟩)) {t : TypeId} {zs : List Int} {m : Nat} [Sees R F g t (i64s zs)] [Aggr ty m] (hl : off + m ≤ zs.length)
    (h : wpList Tryd.prog ops Q rest (a.put o.dst (arr ((zs.drop off).take m))) u) : wpList Tryd.prog ops Q (o :: rest) a u :=
  wpList_wanted hw fun _ hK => wp_kn_loadp E ho hx hl (hK _ _ h)

theorem kn_alloc (E : Kn w R F u) (hgd : o.guard = none) {ty : TypeId} (ho : o.op = .alloc ty) {zs : List Value} [Z : ZeroV ty zs]
    (h : ∀ g u', Kn w (.row g ty zs :: R) F u' → Below u.heap.size u u' → wpList Tryd.prog ops Q rest (a.put o.dst (.pointer (some ⟨g, 0, none⟩))) u') : wpList Tryd.prog ops Q (o :: rest) a u := by
  obtain ⟨i, z, hi, hz, hc⟩ := Z.h
  refine wpList_plain hgd fun _ hK => ?_
  unfold Oper.wp execOp
  simp only [ho, Instr.alloc, zeroValue, typeInfo, Sem.run_bind, Sem.run_pure, Result.andThen_ok, run_program, hi, hz, newVar, newRow, run_newObj, hc]
  exact hK _ _ (h _ _ (E.new ty zs) (Below.box' u _))
theorem kn_box (E : Kn w R F u) (hgd : o.guard = none) {ty : TypeId} {x : Operand} (ho : o.op = .box ty x) {vs : List Value} (hx : a.eval x = .agg vs.toArray)
    (h : ∀ g u', Kn w (.row g ty vs :: R) F u' → Below u.heap.size u u' → wpList Tryd.prog ops Q rest (a.put o.dst (.pointer (some ⟨g, 0, none⟩))) u') : wpList Tryd.prog ops Q (o :: rest) a u := by
  refine wpList_plain hgd fun _ hK => ?_
  unfold Oper.wp execOp
  simp only [ho, hx, Instr.box, Sem.run_bind, Sem.run_pure, Result.andThen_ok, newVar, newRow, run_newObj, Value.cells]
  exact hK _ _ (h _ _ (E.new ty vs) (Below.box' u _))
theorem kn_box1 (E : Kn w R F u) (hgd : o.guard = none) {ty : TypeId} {x : Operand} (ho : o.op = .box ty x) {v : Value} (hx : a.eval x = v) (h1 : v.oneCell' = true)
    (h : ∀ g u', Kn w (.row g ty [v] :: R) F u' → Below u.heap.size u u' → wpList Tryd.prog ops Q rest (a.put o.dst (.pointer (some ⟨g, 0, none⟩))) u') : wpList Tryd.prog ops Q (o :: rest) a u := by
  refine wpList_plain hgd fun _ hK => ?_
  have hc : v.cells = #[v] := by cases v <;> first | rfl | cases h1
  unfold Oper.wp execOp
  simp only [ho, hx, Instr.box, Sem.run_bind, Sem.run_pure, Result.andThen_ok, newVar, newRow, run_newObj, hc]
  exact hK _ _ (h _ _ (E.new ty [v]) (Below.box' u _))

theorem kn_box_int (E : Kn w R F u) (hgd : o.guard = none) {ty : TypeId} {x : Operand} (ho : o.op = .box ty x) {k : IntKind} {z : Int} (hx : a.eval x = .int k z)
    (h : ∀ g u', Kn w (.row g ty [.int k z] :: R) F u' → Below u.heap.size u u' → wpList Tryd.prog ops Q rest (a.put o.dst (.pointer (some ⟨g, 0, none⟩))) u') : wpList Tryd.prog ops Q (o :: rest) a u := kn_box1 E hgd ho hx rfl h
theorem kn_box_slice (E : Kn w R F u) (hgd : o.guard = none) {ty : TypeId} {x : Operand} (ho : o.op = .box ty x) {A : Option Addr} {m c : Nat} (hx : a.eval x = .slice A m c)
    (h : ∀ g u', Kn w (.row g ty [.slice A m c] :: R) F u' → Below u.heap.size u u' → wpList Tryd.prog ops Q rest (a.put o.dst (.pointer (some ⟨g, 0, none⟩))) u') : wpList Tryd.prog ops Q (o :: rest) a u := kn_box1 E hgd ho hx rfl h
theorem kn_box_bool (E : Kn w R F u) (hgd : o.guard = none) {ty : TypeId} {x : Operand} (ho : o.op = .box ty x) {b : Bool} (hx : a.eval x = .bool b)
    (h : ∀ g u', Kn w (.row g ty [.bool b] :: R) F u' → Below u.heap.size u u' → wpList Tryd.prog ops Q rest (a.put o.dst (.pointer (some ⟨g, 0, none⟩))) u') : wpList Tryd.prog ops Q (o :: rest) a u := kn_box1 E hgd ho hx rfl h
theorem kn_box_func (E : Kn w R F u) (hgd : o.guard = none) {ty : TypeId} {x : Operand} (ho : o.op = .box ty x) {f : Fn} {p q : Array Value} (hx : a.eval x = .func f p q)
    (h : ∀ g u', Kn w (.row g ty [.func f p q] :: R) F u' → Below u.heap.size u u' → wpList Tryd.prog ops Q rest (a.put o.dst (.pointer (some ⟨g, 0, none⟩))) u') : wpList Tryd.prog ops Q (o :: rest) a u := kn_box1 E hgd ho hx rfl h
/-- One value into a cell. -/
theorem kn_set (E : Kn w R F u) {g i : Nat} {t : TypeId} {vs : List Value} {v : Value} [H : HasRow R g t vs] [T : Turn R (.row g t vs) (.row g t (vs.set i v)) R'] : Kn w R' F (u.setCell ⟨g, i, none⟩ v) := by
  have hr := (E.res _ H.h)
  exact E.turned (r := .row g t vs) (r' := .row g t (vs.set i v)) (grown_set' u ⟨g, i, none⟩ v) ⟨hr.1, hr.2.set_ i v⟩ (.inl rfl)
theorem wp_kn_store (E : Kn w R F u) {ty : TypeId} {x y : Operand} (ho : o.op = .store ty x y) (hd : o.dst = none) {g i : Nat} (hx : a.eval x = .pointer (some ⟨g, i, none⟩)) {v : Value} (hy : a.eval y = v) (h1 : v.oneCell' = true) {t : TypeId} {vs : List Value} [H : HasRow R g t vs] [S : Scal ty] (hi : i < vs.length)
    [T : Turn R (.row g t vs) (.row g t (vs.set i v)) R'] (h : ∀ u', Kn w R' F u' → K a u') : o.wp Tryd.prog a u K Q := by
  have hr := (E.res _ H.h).2
  have hc : v.cells = #[v] := by cases v <;> first | rfl | cases h1
  have hcell := hr.cell i _ (List.getElem?_eq_getElem hi)
  have hfr := hr.frozen i
  have hk : (storeVar ty ⟨g, i, none⟩ v).run Tryd.prog u = .ok () (u.setCell ⟨g, i, none⟩ v) := by
    have hs := S.size
    cases hq : Tryd.prog.info? ty with
    | none => simp [hq] at hs
    | some inf =>
      have hz : inf.size = 1 := by simpa [hq] using hs
      simp [storeVar, sizeOf, typeInfo, hq, hc, hz, storeCells, run_store _ _ _ _ _ h1, show (⟨g, i, none⟩ : Addr).add 0 = ⟨g, i, none⟩ from by unfold Addr.add; split <;> simp_all, hcell, hfr]
  unfold Oper.wp execOp
  simp only [ho, hx, hy, Instr.storeAt, Instr.sureAddr, Sem.run_bind, Sem.run_pure, Result.andThen_ok, hk]
  show K (a.put o.dst undef) _
  rw [hd]
  exact h _ (kn_set E)
theorem kn_store (E : Kn w R F u) (hgd : o.guard = none) {ty : TypeId} {x y : Operand} (ho : o.op = .store ty x y) (hd : o.dst = none) {g i : Nat} (hx : a.eval x = .pointer (some ⟨g, i, none⟩)) {v : Value} (hy : a.eval y = v) (h1 : v.oneCell' = true) {t : TypeId} {vs : List Value} [H : HasRow R g t vs] [S : Scal ty] (hi : i < vs.length)
    [T : Turn R (.row g t vs) (.row g t (vs.set i v)) R'] (h : ∀ u', Kn w R' F u' → wpList Tryd.prog ops Q rest a u') : wpList Tryd.prog ops Q (o :: rest) a u :=
  wpList_plain hgd fun _ hK => wp_kn_store E ho hd hx hy h1 hi fun u' E' => hK _ _ (h u' E')
/-- A block of one cell. -/
theorem kn_store1 (E : Kn w R F u) (hgd : o.guard = none) {ty : TypeId} {x y : Operand} (ho : o.op = .store ty x y) (hd : o.dst = none) {g : Nat} (hx : a.eval x = .pointer (some ⟨g, 0, none⟩)) {v : Value} (hy : a.eval y = v) (h1 : v.oneCell' = true) {t : TypeId} {old : Value} [H : HasRow R g t [old]] [S : Scal ty]
    [T : Turn R (.row g t [old]) (.row g t [v]) R'] (h : ∀ u', Kn w R' F u' → wpList Tryd.prog ops Q rest a u') : wpList Tryd.prog ops Q (o :: rest) a u :=
  kn_store (i := 0) (T := T) E hgd ho hd hx hy h1 (by simp) h
theorem kn_store1_int (E : Kn w R F u) (hgd : o.guard = none) {ty : TypeId} {x y : Operand} (ho : o.op = .store ty x y) (hd : o.dst = none) {g : Nat} (hx : a.eval x = .pointer (some ⟨g, 0, none⟩)) {k : IntKind} {z : Int} (hy : a.eval y = .int k z) {t : TypeId} {old : Value} [H : HasRow R g t [old]] [S : Scal ty]
    [T : Turn R (.row g t [old]) (.row g t [.int k z]) R'] (h : ∀ u', Kn w R' F u' → wpList Tryd.prog ops Q rest a u') : wpList Tryd.prog ops Q (o :: rest) a u :=
  kn_store1 (T := T) E hgd ho hd hx hy rfl h
theorem kn_store1_slice (E : Kn w R F u) (hgd : o.guard = none) {ty : TypeId} {x y : Operand} (ho : o.op = .store ty x y) (hd : o.dst = none) {g : Nat} (hx : a.eval x = .pointer (some ⟨g, 0, none⟩)) {A : Option Addr} {m c : Nat} (hy : a.eval y = .slice A m c) {t : TypeId} {old : Value} [H : HasRow R g t [old]] [S : Scal ty]
    [T : Turn R (.row g t [old]) (.row g t [.slice A m c]) R'] (h : ∀ u', Kn w R' F u' → wpList Tryd.prog ops Q rest a u') : wpList Tryd.prog ops Q (o :: rest) a u :=
  kn_store1 (T := T) E hgd ho hd hx hy rfl h
theorem kn_store1_bool (E : Kn w R F u) (hgd : o.guard = none) {ty : TypeId} {x y : Operand} (ho : o.op = .store ty x y) (hd : o.dst = none) {g : Nat} (hx : a.eval x = .pointer (some ⟨g, 0, none⟩)) {b : Bool} (hy : a.eval y = .bool b) {t : TypeId} {old : Value} [H : HasRow R g t [old]] [S : Scal ty]
    [T : Turn R (.row g t [old]) (.row g t [.bool b]) R'] (h : ∀ u', Kn w R' F u' → wpList Tryd.prog ops Q rest a u') : wpList Tryd.prog ops Q (o :: rest) a u :=
  kn_store1 (T := T) E hgd ho hd hx hy rfl h
/-- A number into an array of numbers. -/
theorem kn_storei (E : Kn w R F u) (hgd : o.guard = none) {ty : TypeId} {x y : Operand} (ho : o.op = .store ty x y) (hd : o.dst = none) {g i : Nat} (hx : a.eval x = .pointer (some ⟨g, i, none⟩)) {z : Int} (hy : a.eval y = .int .i64 z) {t : TypeId} {zs : List Int} [H : HasRow R g t (i64s zs)] [S : Scal ty] (hi : i < zs.length)
    [T : Turn R (.row g t (i64s zs)) (.row g t (i64s (zs.set i z))) R'] (h : ∀ u', Kn w R' F u' → wpList Tryd.prog ops Q rest a u') : wpList Tryd.prog ops Q (o :: rest) a u := by
  have T' : Turn R (.row g t (i64s zs)) (.row g t ((i64s zs).set i (.int .i64 z))) R' := by rw [i64s_set]; exact T
  exact kn_store (T := T') E hgd ho hd hx hy rfl (by rw [i64s_length]; exact hi) h
/-- A whole block. -/
theorem wp_kn_stores (E : Kn w R F u) {ty : TypeId} {x y : Operand} (ho : o.op = .store ty x y) (hd : o.dst = none) {g : Nat} (hx : a.eval x = .pointer (some ⟨g, 0, none⟩)) {vs : List Value} (hy : a.eval y = .agg vs.toArray) {t : TypeId} {old : List Value} [H : HasRow R g t old] {m : Nat} [A : Aggr ty m] (hl : old.length = m ∧ vs.length = m) (h1 : ∀ v ∈ vs, v.oneCell' = true)
    [T : Turn R (.row g t old) (.row g t vs) R'] (h : ∀ u', Kn w R' F u' → K a u') : o.wp Tryd.prog a u K Q := by
  have hr := (E.res _ H.h)
  refine wp_store_row ty x y ho g vs.toArray hx hy t old.toArray hr.2 (by rw [A.size, ← hl.2]; simp) (by simp [hl.1, hl.2]) (all_oneCell_toArray h1) ?_
  rw [hd]
  refine h _ (E.turned (r := .row g t old) (r' := .row g t vs) ?_ ⟨hr.1, ?_⟩ (.inl rfl))
  · have ho : ∀ k, k ≠ g → (u.setRow g vs.toArray).heap[k]? = u.heap[k]? := by
      intro k hk
      simp only [World.setRow, Array.getElem?_modify]
      rw [if_neg (by omega)]
    exact ⟨rfl, rfl, rfl, by rw [size_setRow]; exact Nat.le_refl _, fun k _ hk => ho k (fun e => hk (by rw [e]; rfl))⟩
  · have := hr.2
    unfold Row at this ⊢
    simp [World.setRow, Array.getElem?_modify, this]
theorem kn_stores (E : Kn w R F u) (hgd : o.guard = none) {ty : TypeId} {x y : Operand} (ho : o.op = .store ty x y) (hd : o.dst = none) {g : Nat} (hx : a.eval x = .pointer (some ⟨g, 0, none⟩)) {vs : List Value} (hy : a.eval y = .agg vs.toArray) {t : TypeId} {old : List Value} [H : HasRow R g t old] {m : Nat} [A : Aggr ty m] (hl : old.length = m ∧ vs.length = m) (h1 : ∀ v ∈ vs, v.oneCell' = true)
    [T : Turn R (.row g t old) (.row g t vs) R'] (h : ∀ u', Kn w R' F u' → wpList Tryd.prog ops Q rest a u') : wpList Tryd.prog ops Q (o :: rest) a u :=
  wpList_plain hgd fun _ hK => wp_kn_stores E ho hd hx hy hl h1 fun u' E' => hK _ _ (h u' E')
/-- Numbers into a part of an array of numbers. -/
theorem kn_storep (E : Kn w R F u) (hgd : o.guard = none) {ty : TypeId} {x y : Operand} (ho : o.op = .store ty x y) (hd : o.dst = none) {g off : Nat} (hx : a.eval x = .pointer (some ⟨g, off, none⟩)) {ys : List Int} (hy : a.eval y = arr ys) {t : TypeId} {zs : List Int} [H : HasRow R g t (i64s zs)] {m : Nat} [A : Aggr ty m] (hl : ys.length = m) (hm : off + m ≤ zs.length)
    [T : Turn R (.row g t (i64s zs)) (.row g t (i64s (spl zs off ys))) R'] (h : ∀ u', Kn w R' F u' → wpList Tryd.prog ops Q rest a u') : wpList Tryd.prog ops Q (o :: rest) a u := by
  have hr := (E.res _ H.h)
  refine wpList_store_part hgd ty x y ho hd g off hx ys hy t zs hr.2 (by rw [A.size, hl]) (by omega) fun u' ht => h u' ?_
  refine E.turned (r := .row g t (i64s zs)) (r' := .row g t (i64s (spl zs off ys))) ?_ ⟨hr.1, ht.row⟩ (.inl rfl)
  have hb := ht.below 0 u (Nat.zero_le _) (Below.refl 0 u)
  exact ⟨hb.os, hb.tape, hb.output, Nat.le_of_eq ht.size.symm, fun k _ hk => ht.other k fun e => hk (by rw [e]; rfl)⟩

/-- 'append' onto a row that the call has made: what is appended reads as ys. -/
theorem kn_append (E : Kn w R F u) (hgd : o.guard = none) {s x : Operand} {t : TypeId} (ho : o.op = .call { callee := .builtin .append, args := #[s, x], argTypes := #[t, t] })
    {v : Value} (hs : a.eval s = v) {e : TypeId} {size n : Nat} {xs : List Value} [H : HasOwnAny R v e size n xs] [P : Pull R (.own e size v n xs) R'] (ht : Tryd.prog.underlying t = some (.slice e))
    {z : Value} {bytes : Nat} (hinfo : (Tryd.prog.info? e).map (fun i => (i.zero, i.size, i.bytes)) = some (some z, size, bytes)) (hzc : z.cells.size = size) (hsz : 0 < size)
    {ad : Addr} {m c : Nat} (hx : a.eval x = .slice (some ad) m c) {ys : List Value} (hl : ys.length = m * size) (hys : ∀ j y, ys[j]? = some y → u.cell? (ad.add j) = some y) (h1 : ∀ y ∈ ys, y.oneCell' = true)
    (hn : n + m ≤ maxLen) (hb : (n + m) * bytes ≤ 140737488355328)
    (h : ∀ v' u', Kn w (.own e size v' (n + m) (xs ++ ys) :: R') F u' → wpList Tryd.prog ops Q rest (a.put o.dst v') u') : wpList Tryd.prog ops Q (o :: rest) a u := by
  obtain ⟨i, hi, hz0, hz1, hz2⟩ := info_parts hinfo
  refine wpList_append_own_at _ hgd s x t ho w.heap.size e i z size bytes ht hi hz0 hz1 hz2 hzc hsz v n xs hs (E.res _ H.h) ad m c ys hx hl hys h1 hn hb E.bel.size fun v' u' h2 h3 _ h5 => ?_
  obtain ⟨R1, R2, rfl, rfl⟩ := P.h
  refine h v' u' (Kn.perm (E.turn (r' := .own e size v' (n + m) (xs ++ ys)) h3 h2 ?_) List.perm_middle)
  rcases h5 with h5 | h5
  · exact .inl h5
  · exact .inr fun b e => by
      have : some b = some u.heap.size := e.symm.trans h5
      cases this
      exact Nat.le_refl _
theorem add_at' (g j : Nat) : (⟨g, 0, none⟩ : Addr).add j = ⟨g, j, none⟩ := by unfold Addr.add; split <;> simp_all
/-- What is appended is a block known whole. -/
theorem kn_append_row (E : Kn w R F u) (hgd : o.guard = none) {s x : Operand} {t : TypeId} (ho : o.op = .call { callee := .builtin .append, args := #[s, x], argTypes := #[t, t] })
    {v : Value} (hs : a.eval s = v) {e : TypeId} {size n : Nat} {xs : List Value} [H : HasOwnAny R v e size n xs] [P : Pull R (.own e size v n xs) R'] (ht : Tryd.prog.underlying t = some (.slice e))
    {z : Value} {bytes : Nat} (hinfo : (Tryd.prog.info? e).map (fun i => (i.zero, i.size, i.bytes)) = some (some z, size, bytes)) (hzc : z.cells.size = size) (hsz : 0 < size)
    {g m c : Nat} (hx : a.eval x = .slice (some ⟨g, 0, none⟩) m c) {t' : TypeId} {ys : List Value} [Sees R F g t' ys] (hl : ys.length = m * size) (h1 : ∀ y ∈ ys, y.oneCell' = true)
    (hn : n + m ≤ maxLen) (hb : (n + m) * bytes ≤ 140737488355328)
    (h : ∀ v' u', Kn w (.own e size v' (n + m) (xs ++ ys) :: R') F u' → wpList Tryd.prog ops Q rest (a.put o.dst v') u') : wpList Tryd.prog ops Q (o :: rest) a u :=
  kn_append E hgd ho hs ht hinfo hzc hsz hx hl (fun j y hy => by rw [add_at']; exact E.cell g j hy) h1 hn hb h

/-- A slice literal of one element. -/
theorem fill_one (size : Nat) (hs : 0 < size) (v : Value) (vs : List Value) (hv : v.cells = vs.toArray) (hl : vs.length = size) (cs : Array Value) (hc : cs.size = 1 * size) :
    Instr.fill (fun i => some (i * size, size)) cs [(0, v)] = some vs.toArray := by
  obtain ⟨r, h1, h2, h3⟩ := Great.fill_dense hs [v] 0 cs (by intro u hu; rw [List.mem_singleton.1 hu, hv]; simpa using hl) (by simp [hc])
  have e : (([v] : List Value).zipIdx 0).map (fun x => (x.2, x.1)) = [(0, v)] := rfl
  rw [e] at h1
  rw [h1]
  congr 1
  apply Array.ext_getElem?
  intro k
  rw [h3 k]
  by_cases hk : k < size
  · rw [if_pos (by simp; omega), Nat.div_eq_of_lt hk, Nat.mod_eq_of_lt hk]
    simp [hv]
  · rw [if_neg (by simp; omega), Array.getElem?_eq_none (by omega), Array.getElem?_eq_none (by simp; omega)]
theorem kn_build1 (E : Kn w R F u) (hgd : o.guard = none) {t e : TypeId} {x : Operand} (ho : o.op = .buildSlice t 1 #[(0, x)]) {v : Value} (hx : a.eval x = v) {vs : List Value} (hv : v.cells = vs.toArray) (hu : Tryd.prog.underlying t = some (.slice e))
    {z : Value} {bytes size : Nat} (hinfo : (Tryd.prog.info? e).map (fun i => (i.zero, i.size, i.bytes)) = some (some z, size, bytes)) (hl : vs.length = size) (hsz : 0 < size) (hs2 : size ≤ 16777216)
    (h : ∀ g u', Kn w (.row g e vs :: R) F u' → Below u.heap.size u u' → wpList Tryd.prog ops Q rest (a.put o.dst (.slice (some ⟨g, 0, none⟩) 1 1)) u') : wpList Tryd.prog ops Q (o :: rest) a u := by
  obtain ⟨i, hi, hz0, hz1, hz2⟩ := info_parts hinfo
  refine wpList_buildSlice hgd t e 1 _ ho vs.toArray i z hu hi hz0 (by rw [hz1]; omega) (by rw [hz1]; omega) ?_ (h _ _ (E.new e vs) (Below.box' u _))
  simp only [List.map_toArray, List.map_cons, List.map_nil]
  rw [hx, hz1]
  exact fill_one size hsz v vs hv hl _ (by simp)
end
end Go.Proofs.YtgcijioiicmjiaaDoor
set_option linter.all false
namespace Go.Proofs.YtgcijioiicmjiaaDoor
open Go.RowKit

instance : Scal 3 := ⟨⟨_, Tryd.underlying3, rfl⟩, by kernel_rfl⟩
instance : Scal 4 := ⟨⟨_, Tryd.underlying4, rfl⟩, by kernel_rfl⟩
instance : Scal 5 := ⟨⟨_, Tryd.underlying5, rfl⟩, by kernel_rfl⟩
instance : Scal 28 := ⟨⟨_, Tryd.underlying28, rfl⟩, by kernel_rfl⟩
instance : Scal 22 := ⟨⟨_, Tryd.underlying22, rfl⟩, by kernel_rfl⟩
instance : Aggr 25 4 := ⟨⟨_, Tryd.underlying25, rfl⟩, by kernel_rfl⟩
instance : Aggr 27 64 := ⟨⟨_, Tryd.underlying27, rfl⟩, by kernel_rfl⟩
instance : Aggr 45 2 := ⟨⟨_, Tryd.underlying45, rfl⟩, by kernel_rfl⟩
instance : Aggr 24 4 := ⟨⟨_, Tryd.underlying24, rfl⟩, by kernel_rfl⟩
instance : ZeroV 3 [.int .i64 0] := .of (by kernel_rfl)
instance : ZeroV 25 (i64s [0, 0, 0, 0]) := .of (by kernel_rfl)
instance : ZeroV 24 (i64s [0, 0, 0, 0]) := .of (by kernel_rfl)
instance : ZeroV 22 [.slice none 0 0] := .of (by kernel_rfl)
instance : Scal 77 := ⟨⟨_, Tryd.underlying77, rfl⟩, by kernel_rfl⟩
instance : Scal 73 := ⟨⟨_, Tryd.underlying73, rfl⟩, by kernel_rfl⟩
instance : Aggr 46 16 := ⟨⟨_, Tryd.underlying46, rfl⟩, by kernel_rfl⟩
instance : Aggr 69 16 := ⟨⟨_, Tryd.underlying69, rfl⟩, by kernel_rfl⟩
instance : ZeroV 45 (i64s [0, 0]) := .of (by kernel_rfl)
instance : ZeroV 46 (i64s [0, 0, 0, 0, 0, 0, 0, 0, 0, 0, 0, 0, 0, 0, 0, 0]) := .of (by kernel_rfl)
instance : ZeroV 69 (i64s [0, 0, 0, 0, 0, 0, 0, 0, 0, 0, 0, 0, 0, 0, 0, 0]) := .of (by kernel_rfl)
end Go.Proofs.YtgcijioiicmjiaaDoor
set_option linter.all false
namespace Go.Proofs.YtgcijioiicmjiaaDoor
section
variable {P : Program} {Q : Exit → Act → World → Prop} {md : Region.Mode} {S : World → Prop}
theorem get_of_drop {l : List Oper} {i : Nat} {oi : Oper} {tl : List Oper} (hd : l.drop i = oi :: tl) : l.toArray[i]? = some oi := by
  have h : (l.drop i)[0]? = some oi := by rw [hd]; rfl
  rw [List.getElem?_drop] at h
  simpa using h
theorem takeL {l : List Oper} {i : Nat} {oi : Oper} {tl : List Oper} {v : Value} {fuel : Nat} {listed : Array Bool} {a : Act} {w : World} (hd : l.drop i = oi :: tl)
    (hs : Region.noSelect l.toArray = true) (hf : Region.free md l.toArray listed i = true) (hr : (Region.ready md l.toArray listed).contains i = true)
    (hQ : ∀ c a w, Q (.panic c) (a.put oi.dst v) w → Q (.panic c) a w) (hy : YieldsIf P l.toArray S oi v a) (hS : S w)
    (h : wpAnyH P md l.toArray Q S fuel (listed.setIfInBounds i true) (a.put oi.dst v) w) : wpAnyH P md l.toArray Q S (fuel + 1) listed a w :=
  wpAnyH_take (get_of_drop hd) hs hf hr hQ hy hS h
theorem callL {l : List Oper} {i : Nat} {o : Oper} {tl : List Oper} {fuel : Nat} {listed : Array Bool} {a : Act} {w : World} (hd : l.drop i = o :: tl) (hr : Region.ready md l.toArray listed = [i])
    (h : ∀ K' : Act → World → Prop, Shut (∀ a w, S w → (S w → wpAnyH P md l.toArray Q S fuel (listed.setIfInBounds i true) a w) → K' a w) → if Region.wanted o (yielded l.toArray a.tmps) = true then Oper.wp P o a w K' Q else K' (a.put o.dst undef) w) :
    wpAnyH P md l.toArray Q S (fuel + 1) listed a w :=
  wpAnyH_ready hr (by simp) (AllReadyH.cons (get_of_drop hd) h AllReadyH.nil)
/-- Two that may come up. -/
theorem callL2 {l : List Oper} {i j : Nat} {o o' : Oper} {tl tl' : List Oper} {fuel : Nat} {listed : Array Bool} {a : Act} {w : World} (hd : l.drop i = o :: tl) (hd' : l.drop j = o' :: tl') (hr : Region.ready md l.toArray listed = [i, j])
    (h : ∀ K' : Act → World → Prop, Shut (∀ a w, S w → (S w → wpAnyH P md l.toArray Q S fuel (listed.setIfInBounds i true) a w) → K' a w) → if Region.wanted o (yielded l.toArray a.tmps) = true then Oper.wp P o a w K' Q else K' (a.put o.dst undef) w)
    (h' : ∀ K' : Act → World → Prop, Shut (∀ a w, S w → (S w → wpAnyH P md l.toArray Q S fuel (listed.setIfInBounds j true) a w) → K' a w) → if Region.wanted o' (yielded l.toArray a.tmps) = true then Oper.wp P o' a w K' Q else K' (a.put o'.dst undef) w) :
    wpAnyH P md l.toArray Q S (fuel + 1) listed a w :=
  wpAnyH_ready hr (by simp) (AllReadyH.cons (get_of_drop hd) h (AllReadyH.cons (get_of_drop hd') h' AllReadyH.nil))
end

end Go.Proofs.YtgcijioiicmjiaaDoor
set_option linter.all false
namespace Go.Proofs.YtgcijioiicmjiaaDoor
open Go.RowKit

section
variable {w u : World} {R R' : List Res} {F : List (World → Prop)}
theorem run_loadVar_kn (E : Kn w R F u) {ty : TypeId} {g : Nat} {t : TypeId} {vs : List Value} {m : Nat} [Sees R F g t vs] [A : Aggr ty m] (hl : vs.length = m) : (loadVar ty ⟨g, 0, none⟩).run Tryd.prog u = .ok (.agg vs.toArray) u := by
  obtain ⟨d, hu, hd⟩ := A.desc
  exact run_loadVar_row u g t ty vs.toArray (0, 0) d E.row hu (by cases d <;> simp_all [TypeDesc.isRow]) (by rw [A.size, ← hl]; simp)
theorem run_loadVar_kn1 (E : Kn w R F u) {ty : TypeId} {g i : Nat} {t : TypeId} {vs : List Value} {v : Value} [Sees R F g t vs] [A : Scal ty] (hv : vs[i]? = some v) : (loadVar ty ⟨g, i, none⟩).run Tryd.prog u = .ok v u := by
  have hc := E.cell g i hv
  simp only [loadVar, Sem.run_bind, run_isAgg_no, Result.andThen_ok, Bool.false_eq_true, if_false, run_load, hc]
theorem results_kn2 (E : Kn w R F u) {fn : Func} {p q : Tmp} {ty : TypeId} (h : fn.results = #[.cell p ty, .tmp q]) (tmps : Array Value) {g : Nat} (hp : tmps.getD p undef = .pointer (some ⟨g, 0, none⟩)) {t : TypeId} {vs : List Value} {m : Nat} [Sees R F g t vs] [A : Aggr ty m] (hl : vs.length = m) :
    (results fn tmps).run Tryd.prog u = .ok (.tuple #[.agg vs.toArray, tmps.getD q undef]) u := by
  have hp' : tmps[p]?.getD undef = .pointer (some ⟨g, 0, none⟩) := by simpa using hp
  simp [results, h, hp', asAddr, run_loadVar_kn E hl]
theorem results_kn (E : Kn w R F u) {fn : Func} {p : Tmp} {ty : TypeId} (h : fn.results = #[.cell p ty]) (tmps : Array Value) {g : Nat} (hp : tmps.getD p undef = .pointer (some ⟨g, 0, none⟩)) {t : TypeId} {vs : List Value} {m : Nat} [Sees R F g t vs] [A : Aggr ty m] (hl : vs.length = m) :
    (results fn tmps).run Tryd.prog u = .ok (.agg vs.toArray) u := by
  have hp' : tmps[p]?.getD undef = .pointer (some ⟨g, 0, none⟩) := by simpa using hp
  simp [results, h, hp', asAddr, run_loadVar_kn E hl]
/-! Loads inside a drawn region. -/
theorem yield_load {ops : Array Oper} {o : Oper} {a : Act} (hw : Region.wanted o (yielded ops a.tmps) = true) {ty : TypeId} {x : Operand} (ho : o.op = .load ty x) {g i : Nat} (hx : a.eval x = .pointer (some ⟨g, i, none⟩)) {t : TypeId} {vs : List Value} [Sees R F g t vs] [Scal ty] {v : Value} (hv : vs[i]? = some v) :
    YieldsIf Tryd.prog ops (Kn w R F) o v a :=
  .inl ⟨hw, fun u E => by
    unfold execOp
    simp only [ho, hx, Instr.loadAt, Instr.sureAddr, Sem.run_bind, Sem.run_pure, Result.andThen_ok, run_loadVar_kn1 E hv]⟩
theorem yield_loads {ops : Array Oper} {o : Oper} {a : Act} (hw : Region.wanted o (yielded ops a.tmps) = true) {ty : TypeId} {x : Operand} (ho : o.op = .load ty x) {g : Nat} (hx : a.eval x = .pointer (some ⟨g, 0, none⟩)) {t : TypeId} {vs : List Value} {m : Nat} [Sees R F g t vs] [Aggr ty m] (hl : vs.length = m) :
    YieldsIf Tryd.prog ops (Kn w R F) o (.agg vs.toArray) a :=
  .inl ⟨hw, fun u E => by
    unfold execOp
    simp only [ho, hx, Instr.loadAt, Instr.sureAddr, Sem.run_bind, Sem.run_pure, Result.andThen_ok, run_loadVar_kn E hl]⟩
theorem yield_loadp {ops : Array Oper} {o : Oper} {a : Act} (hw : Region.wanted o (yielded ops a.tmps) = true) {ty : TypeId} {x : Operand} (ho : o.op = .load ty x) {g off : Nat} (hx : a.eval x = .pointer (some ⟨g, off, none⟩)) {t : TypeId} {zs : List Int} {m : Nat} [Sees R F g t (i64s zs)] [A : Aggr ty m] (hl : off + m ≤ zs.length) :
    YieldsIf Tryd.prog ops (Kn w R F) o (arr ((zs.drop off).take m)) a := by
  obtain ⟨d, hu, hd⟩ := A.desc
  exact yieldsIf_load_mid hw ty x ho g off hx _ d (fun u E => Row.range (Sees.h E) off m) hu hd (by rw [A.size, i64s_length, List.length_take, List.length_drop, Nat.min_eq_left (by omega)])

theorem yield_loadi {ops : Array Oper} {o : Oper} {a : Act} (hw : Region.wanted o (yielded ops a.tmps) = true) {ty : TypeId} {x : Operand} (ho : o.op = .load ty x) {g i : Nat} (hx : a.eval x = .pointer (some ⟨g, i, none⟩)) {t : TypeId} {zs : List Int} [Sees R F g t (i64s zs)] [Scal ty] (hi : i < zs.length) :
    YieldsIf Tryd.prog ops (Kn w R F) o (.int .i64 (zs.getD i 0)) a := yield_load hw ho hx (i64s_get zs i hi)
/-! A row that the call has made by append, known by its block: its elements read and written. -/
class HasOwnAt (R : List Res) (g : Nat) (n cap : outParam Nat) (e : outParam TypeId) (size : outParam Nat) (xs : outParam (List Value)) : Prop where
  h : Res.own e size (.slice (some ⟨g, 0, none⟩) n cap) n xs ∈ R
instance {r : Res} {g n cap : Nat} {e : TypeId} {size : Nat} {xs : List Value} [H : HasOwnAt R g n cap e size xs] : HasOwnAt (r :: R) g n cap e size xs := ⟨List.mem_cons_of_mem _ H.h⟩
instance {g n cap : Nat} {e : TypeId} {size : Nat} {xs : List Value} : HasOwnAt (.own e size (.slice (some ⟨g, 0, none⟩) n cap) n xs :: R) g n cap e size xs := ⟨List.mem_cons_self⟩
theorem own_cell {B g n cap size : Nat} {e : TypeId} {xs : List Value} (h : u.ownsRow B e size (.slice (some ⟨g, 0, none⟩) n cap) n xs) {i : Nat} {v : Value} (hv : xs[i]? = some v) : u.cell? ⟨g, i, none⟩ = some v := by
  rcases h.2 with ⟨h0, _⟩ | ⟨g', cap', cur, hv', _, hh, _, _, _, ht⟩
  · cases h0
  · have e : g' = g := by injection hv' with a; injection a with a; injection a with a; exact a.symm
    subst e
    rw [cell_of_row u g' i cur _ (0, 0) hh]
    rw [← ht, List.getElem?_take] at hv
    split at hv
    · simpa using hv
    · cases hv
section
variable {ops : Array Oper} {rest : List Oper} {o : Oper} {a : Act} {Q : Exit → Act → World → Prop} {K : Act → World → Prop}
theorem wp_kn_alloc (E : Kn w R F u) {ty : TypeId} (ho : o.op = .alloc ty) {zs : List Value} [Z : ZeroV ty zs]
    (h : ∀ g u', Kn w (.row g ty zs :: R) F u' → K (a.put o.dst (.pointer (some ⟨g, 0, none⟩))) u') : o.wp Tryd.prog a u K Q := by
  obtain ⟨i, z, hi, hz, hc⟩ := Z.h
  unfold Oper.wp execOp
  simp only [ho, Instr.alloc, zeroValue, typeInfo, Sem.run_bind, Sem.run_pure, Result.andThen_ok, run_program, hi, hz, newVar, newRow, run_newObj, hc]
  exact h _ _ (E.new ty zs)
end
end
end Go.Proofs.YtgcijioiicmjiaaDoor
set_option linter.all false
namespace Go.Proofs.YtgcijioiicmjiaaDoor
open Go.RowKit

/-- The cells of block g are these values. -/
def cellsF (g : Nat) (vs : List Value) : World → Prop := fun u => ∀ i v, vs[i]? = some v → u.cell? ⟨g, i, none⟩ = some v
theorem lt_of_cell {u : World} {g i : Nat} {v : Value} (h : u.cell? ⟨g, i, none⟩ = some v) : g < u.heap.size := by
  rcases Nat.lt_or_ge g u.heap.size with h1 | h1
  · exact h1
  · simp [World.cell?, Array.getElem?_eq_none h1] at h
section
variable {w u u' : World} {R R' : List Res} {F : List (World → Prop)} {ops : Array Oper} {rest : List Oper} {o : Oper} {a : Act} {Q : Exit → Act → World → Prop} {K : Act → World → Prop}
/-- What stood there when the call began. -/
theorem Kn.arg_cells (E : Kn w R F u) {g : Nat} {vs : List Value} (h : cellsF g vs w) : Kn w R (cellsF g vs :: F) u :=
  E.fact fun u' hk i v hv => by
    have hc := h i v hv
    have hlt := lt_of_cell hc
    have hnot : g ∉ blocks R := fun hm => by
      obtain ⟨r, hr, e'⟩ := mem_blocks.1 hm
      have := (Res.range (E.res r hr) e').1
      omega
    rw [World.cell?_of_block (w := u) (hk.block g (Nat.lt_of_lt_of_le hlt E.bel.size) hnot), World.cell?_of_block (w := w) (E.bel.block g hlt)]
    exact hc
theorem kn_gload (E : Kn w R F u) (hgd : o.guard = none) {ty : TypeId} {x : Operand} (ho : o.op = .load ty x) {g i : Nat} (hx : a.eval x = .pointer (some ⟨g, i, none⟩)) {vs : List Value} (hm : cellsF g vs ∈ F) [Scal ty] {v : Value} (hv : vs[i]? = some v)
    (h : wpList Tryd.prog ops Q rest (a.put o.dst v) u) : wpList Tryd.prog ops Q (o :: rest) a u :=
  wpList_plain hgd fun _ hK => by
    have hc := E.get hm i v hv
    unfold Oper.wp execOp
    simp only [ho, hx, Instr.loadAt, Instr.sureAddr, loadVar, Sem.run_bind, Sem.run_pure, Result.andThen_ok, run_isAgg_no, Bool.false_eq_true, if_false, run_load, hc]
    exact hK _ _ h
theorem kn_gloads (E : Kn w R F u) (hgd : o.guard = none) {ty : TypeId} {x : Operand} (ho : o.op = .load ty x) {g : Nat} (hx : a.eval x = .pointer (some ⟨g, 0, none⟩)) {vs : List Value} (hm : cellsF g vs ∈ F) {m : Nat} [A : Aggr ty m] (hl : vs.length = m)
    (h : wpList Tryd.prog ops Q rest (a.put o.dst (.agg vs.toArray)) u) : wpList Tryd.prog ops Q (o :: rest) a u := by
  obtain ⟨d, hu, hd⟩ := A.desc
  refine wpList_load_mid hgd ty x ho g 0 hx vs d (fun j v hv => ?_) hu hd (by rw [A.size, hl]) h
  rw [Nat.zero_add]
  exact E.get hm j v hv
/-- A part of a block's values. -/
theorem Row.rangeV {g : Nat} {t : TypeId} {vs : List Value} (h : Row u g t vs) (p m : Nat) : u.rangeAt g p ((vs.drop p).take m) := fun j v hv => by
  rw [List.getElem?_take] at hv
  split at hv
  · rw [List.getElem?_drop] at hv
    exact h.cell (p + j) v hv
  · cases hv
theorem wp_kn_loadv (E : Kn w R F u) {ty : TypeId} {x : Operand} (ho : o.op = .load ty x) {g off : Nat} (hx : a.eval x = .pointer (some ⟨g, off, none⟩)) {t : TypeId} {vs : List Value} {m : Nat} [Sees R F g t vs] [A : Aggr ty m] {ys : List Value} (hy : (vs.drop off).take m = ys) (hl : ys.length = m)
    (h : K (a.put o.dst (.agg ys.toArray)) u) : o.wp Tryd.prog a u K Q := by
  obtain ⟨d, hu, hd⟩ := A.desc
  have hr : Row u g t vs := E.row
  subst hy
  exact wp_load_mid ty x ho g off hx _ d (hr.rangeV off m) hu hd (by rw [A.size, hl]) h
theorem kn_loadv (E : Kn w R F u) (hgd : o.guard = none) {ty : TypeId} {x : Operand} (ho : o.op = .load ty x) {g off : Nat} (hx : a.eval x = .pointer (some ⟨g, off, none⟩)) {t : TypeId} {vs : List Value} {m : Nat} [Sees R F g t vs] [A : Aggr ty m] {ys : List Value} (hy : (vs.drop off).take m = ys) (hl : ys.length = m)
    (h : wpList Tryd.prog ops Q rest (a.put o.dst (.agg ys.toArray)) u) : wpList Tryd.prog ops Q (o :: rest) a u :=
  wpList_plain hgd fun _ hK => wp_kn_loadv E ho hx hy hl (hK _ _ h)
/-- A literal of numbers in a new block. -/
theorem kn_buildi (E : Kn w R F u) (hgd : o.guard = none) {t e : TypeId} {len : Nat} {parts : Array (Nat × Operand)} (ho : o.op = .buildSlice t len parts) (zs : List Int)
    (hu : Tryd.prog.underlying t = some (.slice e)) (hsz : (Tryd.prog.info? e).map (·.size) = some 1) (hz : ((Tryd.prog.info? e).bind (·.zero)).isSome = true) (hlen : len = zs.length) (hpos : 0 < len) (hsmall : len ≤ 2 ^ 24)
    (hparts : parts.toList = (zs.zipIdx 0).map fun x => (x.2, Operand.const (Value.int .i64 x.1)))
    (h : ∀ g u', Kn w (.row g e (i64s zs) :: R) F u' → u.heap.size ≤ g → wpList Tryd.prog ops Q rest (a.put o.dst (.slice (some ⟨g, 0, none⟩) len len)) u') : wpList Tryd.prog ops Q (o :: rest) a u := by
  refine wpList_buildFlat hgd t e len parts ho .i64 zs hu hsz hz hlen hpos hsmall hparts ?_
  exact h _ _ (E.new e (i64s zs)) (Nat.le_refl _)
/-- What a call has answered in a new block. -/
theorem Kn.newrow (E : Kn w R F u) (hb : Below u.heap.size u u') {g : Nat} {t : TypeId} {vs : List Value} (hg : u.heap.size ≤ g) (hr : Row u' g t vs) : Kn w (.row g t vs :: R) F u' :=
  E.add hb (r := .row g t vs) ⟨Nat.le_trans E.bel.size hg, hr⟩ fun b e => by cases e; exact hg
end
end Go.Proofs.YtgcijioiicmjiaaDoor
set_option linter.all false
namespace Go.Proofs.YtgcijioiicmjiaaDoor
theorem ret_int {k : IntKind} {a b : Int} (h : a = b) : Ending.returned (.int k a) = .returned (.int k b) := by rw [h]
theorem ret_bool {a b : Bool} (h : a = b) : Ending.returned (.bool a) = .returned (.bool b) := by rw [h]
theorem ret2_eq {a b c d : Int} (h : a = c) (k : b = d) : Ending.returned (.tuple #[.int .i64 a, .int .i64 b]) = .returned (.tuple #[.int .i64 c, .int .i64 d]) := by rw [h, k]
theorem ret3_eq {a b c a' b' c' : Int} (h : a = a') (k : b = b') (l : c = c') : Ending.returned (.tuple #[.int .i64 a, .int .i64 b, .int .i64 c]) = .returned (.tuple #[.int .i64 a', .int .i64 b', .int .i64 c']) := by rw [h, k, l]
end Go.Proofs.YtgcijioiicmjiaaDoor
set_option linter.all false
namespace Go.Proofs.YtgcijioiicmjiaaDoor
open Go.RowKit

theorem ofInt_i64 (a : Nat) (ha : a < 9223372036854775808) : (BitVec.ofInt 64 (a : Int)).toNat = a := by
  rw [BitVec.ofInt_natCast, BitVec.toNat_ofNat]; exact Nat.mod_eq_of_lt (by omega)
theorem i64_or_nat (a b : Nat) (ha : a < 9223372036854775808) (hb : b < 9223372036854775808) : bits .or .i64 (a : Int) (b : Int) = ((a ||| b : Nat) : Int) := by
  have hx : a ||| b < 2 ^ 63 := Nat.or_lt_two_pow (by omega) (by omega)
  show IntKind.i64.wrap ((BitVec.ofInt 64 (a : Int) ||| BitVec.ofInt 64 (b : Int)).toNat : Int) = _
  rw [BitVec.toNat_or, ofInt_i64 a ha, ofInt_i64 b hb, IntKind.wrap_i64]
  omega

theorem wrap64_small (a : Int) (h0 : -9223372036854775808 ≤ a) (h1 : a ≤ 9223372036854775807) : wrap64 a = a := by
  unfold wrap64
  omega

end Go.Proofs.YtgcijioiicmjiaaDoor
