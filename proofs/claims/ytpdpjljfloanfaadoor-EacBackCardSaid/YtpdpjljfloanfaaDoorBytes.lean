/- A slice of bytes that reads as a list of numbers below 256; how such a reading stays. -/
import Derived.WalkKit
import Derived.ProofKit
import Derived.Lib.Hide
import Derived.Laws.OwnMore
import Derived.Deep.Draws
import Derived.Maps.AppendAt
set_option linter.all false
namespace Go.Proofs.YtpdpjljfloanfaaDoor
open Go.RowKit

/-- The cells of a list of bytes. -/
def u8s (xs : List Nat) : List Value := xs.map fun x : Nat => Value.int .u8 (x : Int)
theorem u8s_length (xs : List Nat) : (u8s xs).length = xs.length := by simp [u8s]
theorem u8s_one (xs : List Nat) : ∀ v ∈ u8s xs, v.oneCell' = true := by
  intro v hv
  obtain ⟨x, _, rfl⟩ := List.mem_map.1 hv
  rfl
theorem u8s_append (xs ys : List Nat) : u8s (xs ++ ys) = u8s xs ++ u8s ys := by simp [u8s]

theorem u8s_set (xs : List Nat) (i x : Nat) : (u8s xs).set i (.int .u8 (x : Int)) = u8s (xs.set i x) := by simp [u8s, List.map_set]
theorem u8s_getElem? (xs : List Nat) (i : Nat) (h : i < xs.length) : (u8s xs)[i]? = some (.int .u8 ((xs.getD i 0 : Nat) : Int)) := by
  simp [u8s, List.getElem?_eq_getElem h]

/-- The slice at A, of n bytes, reads as xs; it lies below block B. -/
def Bs (w : World) (B : Nat) (A : Option Addr) (n : Nat) (xs : List Nat) : Prop :=
  xs.length = n ∧ (∀ x ∈ xs, x < 256) ∧
    (0 < n → ∃ b off, A = some ⟨b, off, none⟩ ∧ b < B ∧ ∀ i, i < n → w.cell? ⟨b, off + i, none⟩ = some (.int .u8 ((xs.getD i 0 : Nat) : Int)))

section
variable {w w' : World} {B B' : Nat} {A : Option Addr} {n : Nat} {xs : List Nat}

theorem Bs.nil (w : World) (B : Nat) (A : Option Addr) : Bs w B A 0 [] := ⟨rfl, by simp, fun h => absurd h (by omega)⟩

theorem Bs.keep (h : Bs w B A n xs) (hk : ∀ p : Addr, p.block < B → w'.cell? p = w.cell? p) : Bs w' B A n xs :=
  ⟨h.1, h.2.1, fun hn => by
    obtain ⟨b, off, e, hb, hc⟩ := h.2.2 hn
    exact ⟨b, off, e, hb, fun i hi => (hk ⟨b, off + i, none⟩ hb).trans (hc i hi)⟩⟩

theorem Bs.more (h : Bs w B A n xs) (hB : B ≤ B') : Bs w B' A n xs :=
  ⟨h.1, h.2.1, fun hn => by
    obtain ⟨b, off, e, hb, hc⟩ := h.2.2 hn
    exact ⟨b, off, e, by omega, hc⟩⟩

theorem Bs.below (h : Bs w B A n xs) (hb : Below B w w') : Bs w' B A n xs := h.keep fun _ hp => hb.cell hp

theorem Bs.drew (h : Bs w B A n xs) : Bs w.drew B A n xs := h
theorem Bs.drewN (h : Bs w B A n xs) (k : Nat) : Bs (w.drewN k) B A n xs := h

theorem Bs.getD_lt (h : Bs w B A n xs) (i : Nat) : xs.getD i 0 < 256 := by
  by_cases hi : i < xs.length
  · have := h.2.1 (xs[i]) (List.getElem_mem hi)
    simpa [List.getD_eq_getElem?_getD, List.getElem?_eq_getElem hi] using this
  · simp [List.getD_eq_getElem?_getD, List.getElem?_eq_none (Nat.le_of_not_lt hi)]

theorem add_at (g i : Nat) : (⟨g, 0, none⟩ : Addr).add i = ⟨g, i, none⟩ := by unfold Addr.add; split <;> simp_all

/-- Of what the call made by append. -/
theorem Bs.of_own {base : Nat} {e : TypeId} {c : Nat} (h : w.ownsRow base e 1 (.slice A n c) n (u8s xs)) (hx : ∀ x ∈ xs, x < 256) : Bs w w.heap.size A n xs := by
  refine ⟨by simpa [u8s] using h.1, hx, fun hn => ?_⟩
  rcases h.2 with ⟨_, h0⟩ | ⟨g, cap, cur, hv, _, hh, _⟩
  · omega
  · have hA : A = some ⟨g, 0, none⟩ := by injection hv
    subst hA
    refine ⟨g, 0, rfl, (Array.getElem?_eq_some_iff.1 hh).1, fun i hi => ?_⟩
    have hl : i < xs.length := by have := h.1; simp [u8s] at this; omega
    have := h.cells (g := g) rfl i (.int .u8 ((xs.getD i 0 : Nat) : Int)) (by simp [u8s, List.getElem?_eq_getElem hl])
    rw [add_at] at this
    simpa using this
end

/-- Block g is just the bytes xs, none of them frozen. -/
def Blk (w : World) (g : Nat) (t : TypeId) (xs : List Nat) : Prop := w.heap[g]? = some (.cells (u8s xs).toArray t (0, 0))

section
variable {w w' : World} {g : Nat} {t : TypeId} {xs : List Nat}
theorem Blk.lt (h : Blk w g t xs) : g < w.heap.size := (Array.getElem?_eq_some_iff.1 h).1
theorem Blk.cell (h : Blk w g t xs) (i : Nat) (hi : i < xs.length) : w.cell? ⟨g, i, none⟩ = some (.int .u8 ((xs.getD i 0 : Nat) : Int)) := by
  rw [cell_of_row w g i _ t (0, 0) h]
  simp [u8s, List.getElem?_eq_getElem hi]
theorem Blk.frozen (h : Blk w g t xs) (i : Nat) : w.frozen? ⟨g, i, none⟩ = false := by
  unfold Blk at h
  simp [World.frozen?, h]
theorem Blk.below {B : Nat} (h : Blk w g t xs) (hb : Below B w w') (hg : g < B) : Blk w' g t xs := (hb.block g hg).trans h
theorem Blk.set_ (h : Blk w g t xs) (i : Nat) (x : Nat) : Blk (w.setCell ⟨g, i, none⟩ (.int .u8 (x : Int))) g t (xs.set i x) := by
  unfold Blk at h ⊢
  simp [World.setCell, Array.getElem?_modify, h, u8s, List.map_set]
theorem Blk.bs (h : Blk w g t xs) (hx : ∀ x ∈ xs, x < 256) (n : Nat) (hn : xs.length = n) : Bs w w.heap.size (some ⟨g, 0, none⟩) n xs :=
  ⟨hn, hx, fun _ => ⟨g, 0, rfl, h.lt, fun i hi => by simpa using h.cell i (by omega)⟩⟩
/-- A part of it. -/
theorem Blk.bs_part (h : Blk w g t xs) (hx : ∀ x ∈ xs, x < 256) (p m : Nat) (hn : p + m ≤ xs.length) : Bs w w.heap.size (some ⟨g, p, none⟩) m ((xs.drop p).take m) :=
  ⟨by simp; omega, fun x hx' => hx x (List.mem_of_mem_drop (List.mem_of_mem_take hx')), fun _ => ⟨g, p, rfl, h.lt, fun i hi => by
    rw [h.cell (p + i) (by omega)]
    simp [List.getElem?_take, hi]⟩⟩
end

section
variable {P : Program} {w : World}

/-- A nil source: nothing is appended. -/
theorem append_none (base : Nat) (t ty e : TypeId) (i : TypeInfo) (ht : P.underlying t = some (.slice e)) (hi : P.info? e = some i) (v : Value) (n : Nat) (xs : List Value) (hown : w.ownsRow base e 1 v n xs) (c : Nat) :
    (Builtin.append_ #[t, t] ty #[v, .slice none 0 c]).run P w = .ok v w := by
  rcases hown.2 with ⟨rfl, rfl⟩ | ⟨g, cap, cur, rfl, _, _, hnc, _⟩ <;>
    simp [Builtin.append_, run_underlying ht, sizeOf, typeInfo, hi, Builtin.lenOf, Builtin.firstCells, storeCells, *]

/-- 'append' of bytes that read as ys onto a row of the call's own that reads as xs. -/
theorem wpList_append_bs {ops : Array Oper} {rest : List Oper} {o : Oper} {a : Act} {Q : Exit → Act → World → Prop} (hgd : o.guard = none) (s x : Operand) (t : TypeId)
    (ho : o.op = .call { callee := .builtin .append, args := #[s, x], argTypes := #[t, t] })
    (base : Nat) (e : TypeId) (ht : P.underlying t = some (.slice e)) (hinfo : (P.info? e).map (fun i => (i.zero, i.size, i.bytes)) = some (some (.int .u8 0), 1, 1))
    (v : Value) (n : Nat) (xs : List Nat) (hs : a.eval s = v) (hown : w.ownsRow base e 1 v n (u8s xs))
    (B : Nat) (A : Option Addr) (m c : Nat) (ys : List Nat) (hx : a.eval x = .slice A m c) (hr : Bs w B A m ys)
    (hbytes : n + m ≤ 140737488355328) (hbase : base ≤ w.heap.size)
    (h : ∀ v' w', w'.ownsRow base e 1 v' (n + m) (u8s (xs ++ ys)) → w.grownBy w' v.ownBlock → wpList P ops Q rest (a.put o.dst v') w') : wpList P ops Q (o :: rest) a w := by
  obtain ⟨i, hi, hz0, hz1, hz2⟩ := info_parts hinfo
  rcases A with _ | ad
  · have hm : m = 0 := by
      rcases Nat.eq_zero_or_pos m with h0 | h0
      · exact h0
      · obtain ⟨_, _, h', _⟩ := hr.2.2 h0
        cases h'
    subst hm
    obtain rfl : ys = [] := List.eq_nil_of_length_eq_zero hr.1
    refine wpList_plain hgd fun K hK => ?_
    have hrun := append_none (P := P) (w := w) base t o.type e i ht hi v n (u8s xs) hown c
    unfold Oper.wp execOp
    simp only [ho, resolve, invoke, builtin, Sem.run_bind, Sem.run_pure, Result.andThen_ok, List.map_toArray, List.map_cons, List.map_nil, hs, hx, hrun]
    exact hK _ _ (h v w (by simpa using hown) (World.grownBy.refl w _))
  · refine wpList_append_own (w := w) hgd s x t ho base e i (.int .u8 0) 1 1 ht hi hz0 hz1 hz2 rfl (by decide) v n (u8s xs) hs hown ad m c (u8s ys) hx (by rw [u8s_length, hr.1]; omega) ?_ (u8s_one ys)
      (by simp only [maxLen]; omega) (by omega) hbase fun v' w' h2 h3 _ => h v' w' (by rw [u8s_append]; exact h2) h3
    intro j u hu
    have hj : j < ys.length := by
      rcases Nat.lt_or_ge j ys.length with h' | h'
      · exact h'
      · rw [List.getElem?_eq_none (by rw [u8s_length]; exact h')] at hu; cases hu
    obtain ⟨b, off, e', _, hc⟩ := hr.2.2 (by rw [hr.1] at hj; omega)
    injection e' with e'
    subst e'
    simp [u8s, List.getElem?_eq_getElem hj] at hu
    rw [show (⟨b, off, none⟩ : Addr).add j = ⟨b, off + j, none⟩ from by unfold Addr.add; split <;> simp_all, hc j (by rw [← hr.1]; exact hj), ← hu]
    simp [List.getElem?_eq_getElem hj]
end
end Go.Proofs.YtpdpjljfloanfaaDoor
