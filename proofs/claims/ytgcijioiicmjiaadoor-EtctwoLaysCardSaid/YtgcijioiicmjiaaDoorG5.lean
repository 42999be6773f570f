/- BitLows, BcPart, BcEq: merged. -/
import Derived.Test.YtgcijioiicmjiaaDoorBitRset
import Derived.Test.YtgcijioiicmjiaaDoorG1
import Derived.Laws.OwnMore
import Derived.Test.YtgcijioiicmjiaaDoorG3
import Derived.Laws.CopyOwn
import Derived.Laws.StructEq
import Derived.Great.BuildSlice
set_option linter.all false
namespace Go.Proofs.YtgcijioiicmjiaaDoor
open Go.RowKit
open Bi

end Go.Proofs.YtgcijioiicmjiaaDoor
set_option linter.all false
namespace Go.Proofs.YtgcijioiicmjiaaDoor
open Go.RowKit
open Bi Lv Bc

/-- Bytes that were there when the call began. -/
theorem Kn.arg_bs {w u : World} {R : List Res} {F : List (World → Prop)} (E : Kn w R F u) {A : Option Addr} {n : Nat} {xs : List Nat} (h : Bs w w.heap.size A n xs) : Kn w R (bsF A n xs :: F) u :=
  E.fact fun u' hk => by
    have h2 : Bs u w.heap.size A n xs := h.below E.bel
    refine ⟨h2.1, h2.2.1, fun hn => ?_⟩
    obtain ⟨b, off, e, hb, hc⟩ := h2.2.2 hn
    have hnot : b ∉ blocks R := fun hm => by
      obtain ⟨r, hr, e'⟩ := mem_blocks.1 hm
      have := (Res.range (E.res r hr) e').1
      omega
    refine ⟨b, off, e, Nat.lt_of_lt_of_le hb (Nat.le_trans E.bel.size hk.size), fun i hi => ?_⟩
    rw [World.cell?_of_block (w := u) (hk.block b (Nat.lt_of_lt_of_le hb E.bel.size) hnot)]
    exact hc i hi
theorem Kn.bs {w u : World} {R : List Res} {F : List (World → Prop)} (E : Kn w R F u) {A : Option Addr} {n : Nat} {xs : List Nat} (h : bsF A n xs ∈ F) : Bs u u.heap.size A n xs := E.get h

section
variable {w u : World} {R R' : List Res} {F : List (World → Prop)} {ops : Array Oper} {rest : List Oper} {o : Oper} {a : Act} {Q : Exit → Act → World → Prop}
end

namespace Bc
end Bc
end Go.Proofs.YtgcijioiicmjiaaDoor
set_option linter.all false
namespace Go.Proofs.YtgcijioiicmjiaaDoor
open Go.RowKit
open Bc

theorem size_int : (Tryd.prog.info? 3).map (·.size) = some 1 := by kernel_rfl
theorem size_texel : (Tryd.prog.info? 25).map (·.size) = some 4 := by kernel_rfl

theorem all_ints : ∀ (xs ys : List Int), xs.length = ys.length → ((List.range xs.length).all fun i => xs.getD i 0 == ys.getD i 0) = (xs == ys)
  | [], [], _ => rfl
  | x :: xs, y :: ys, h => by
    have ih := all_ints xs ys (by simpa using h)
    rw [List.length_cons, List.range_succ_eq_map, List.all_cons, List.all_map]
    simp only [List.getD_cons_zero, Function.comp_def, List.getD_cons_succ, ih]
    simp [List.cons_beq_cons]
  | [], _ :: _, h => by simp at h
  | _ :: _, [], h => by simp at h

theorem all_rows (m : Nat) : ∀ (n : Nat) (xs ys : List Int), xs.length = n * m → ys.length = n * m → ((List.range n).all fun i => (xs.drop (i * m)).take m == (ys.drop (i * m)).take m) = (xs == ys)
  | 0, xs, ys, h, k => by
    rw [List.eq_nil_of_length_eq_zero (by omega : xs.length = 0), List.eq_nil_of_length_eq_zero (by omega : ys.length = 0)]
    rfl
  | n + 1, xs, ys, h, k => by
    rw [Nat.add_mul] at h k
    have ih := all_rows m n (xs.drop m) (ys.drop m) (by simp; omega) (by simp; omega)
    rw [List.range_succ_eq_map, List.all_cons, List.all_map]
    have e : ∀ (l : List Int) (i : Nat), l.drop ((i + 1) * m) = (l.drop m).drop (i * m) := by
      intro l i
      rw [List.drop_drop, Nat.add_mul, Nat.one_mul, Nat.add_comm]
    simp only [Function.comp_def, Nat.succ_eq_add_one, e, ih, Nat.zero_mul, List.drop_zero]
    rw [Bool.eq_iff_iff]
    simp only [Bool.and_eq_true, beq_iff_eq]
    constructor
    · rintro ⟨a, b⟩
      rw [← List.take_append_drop m xs, ← List.take_append_drop m ys, a, b]
    · rintro rfl
      exact ⟨rfl, rfl⟩

section
variable {P : Program} (w : World)
theorem eqIn_ints (d : Nat) (t e : TypeId) (n : Nat) (ht : P.underlying t = some (.array n e)) (he : P.underlying e = some (.int .i64)) (hsz : ∀ w, (sizeOf e).run P w = .ok 1 w)
    (xs ys : List Int) (hx : xs.length = n) (hy : ys.length = n) :
    (Op.equalIn (d + 2) t (arr xs) (arr ys)).run P w = .ok (xs == ys) w := by
  rw [← all_ints xs ys (hx.trans hy.symm), hx, List.range_eq_range', Op.equalIn]
  simp only [Sem.run_bind, run_underlying ht, Result.andThen_ok, hsz, Std.Legacy.Range.forIn_eq_forIn_range', Std.Legacy.Range.size, Nat.sub_zero, Nat.add_sub_cancel, Nat.div_one]
  have hl : ∀ i ∈ List.range' 0 n 1, i < n := fun i hi => by simpa using (List.mem_range'_1.1 hi).2
  generalize List.range' 0 n 1 = l at hl ⊢
  induction l with
  | nil => simp
  | cons i l ih =>
    have hi : i < n := hl i (by simp)
    have px : (part e (i64s xs).toArray (i * 1)).run P w = .ok (.int .i64 (xs.getD i 0)) w := by
      simp [part, isAgg, run_underlying he, i64s, List.getElem?_eq_getElem (show i < xs.length by omega)]
    have py : (part e (i64s ys).toArray (i * 1)).run P w = .ok (.int .i64 (ys.getD i 0)) w := by
      simp [part, isAgg, run_underlying he, i64s, List.getElem?_eq_getElem (show i < ys.length by omega)]
    have pe : (Op.equalIn (d + 1) e (.int .i64 (xs.getD i 0)) (.int .i64 (ys.getD i 0))).run P w = .ok (xs.getD i 0 == ys.getD i 0) w := run_equalIn_int w d e .i64 .i64 _ _ he
    simp only [List.forIn_cons, Sem.run_bind, px, py, pe, Result.andThen_ok, List.all_cons]
    cases hb : (xs.getD i 0 == ys.getD i 0)
    · simp
    · simp only [Bool.not_true, Bool.false_eq_true, if_false, Sem.run_pure, Result.andThen_ok, Bool.true_and]
      exact ih fun j hj => hl j (by simp [hj])

theorem eqIn_rows (d : Nat) (t e f : TypeId) (n m : Nat) (ht : P.underlying t = some (.array n e)) (he : P.underlying e = some (.array m f)) (hf : P.underlying f = some (.int .i64)) (hsf : ∀ w, (sizeOf f).run P w = .ok 1 w) (hse : ∀ w, (sizeOf e).run P w = .ok m w)
    (xs ys : List Int) (hx : xs.length = n * m) (hy : ys.length = n * m) :
    (Op.equalIn (d + 3) t (arr xs) (arr ys)).run P w = .ok (xs == ys) w := by
  rw [← all_rows m n xs ys hx hy, List.range_eq_range', Op.equalIn]
  simp only [Sem.run_bind, run_underlying ht, Result.andThen_ok, hse, Std.Legacy.Range.forIn_eq_forIn_range', Std.Legacy.Range.size, Nat.sub_zero, Nat.add_sub_cancel, Nat.div_one]
  have hl : ∀ i ∈ List.range' 0 n 1, i < n := fun i hi => by simpa using (List.mem_range'_1.1 hi).2
  generalize List.range' 0 n 1 = l at hl ⊢
  induction l with
  | nil => simp
  | cons i l ih =>
    have hi : i < n := hl i (by simp)
    have him : i * m + m ≤ n * m := by rw [← Nat.succ_mul]; exact Nat.mul_le_mul_right m hi
    have hq : (P.info? e).map (·.size) = some m := by
      have := hse w
      cases h : P.info? e with
      | none => simp [sizeOf, typeInfo, h] at this
      | some inf => simpa [sizeOf, typeInfo, h] using this
    have pt : ∀ zs : List Int, (part e (i64s zs).toArray (i * m)).run P w = .ok (arr ((zs.drop (i * m)).take m)) w := by
      intro zs
      cases h : P.info? e with
      | none => simp [h] at hq
      | some inf =>
        have hz : inf.size = m := by simpa [h] using hq
        simp [part, isAgg, run_underlying he, sizeOf, typeInfo, h, hz, arr]
        rw [i64s_take, i64s_drop]
    have pe : (Op.equalIn (d + 2) e (arr ((xs.drop (i * m)).take m)) (arr ((ys.drop (i * m)).take m))).run P w = .ok ((xs.drop (i * m)).take m == (ys.drop (i * m)).take m) w :=
      eqIn_ints w d e f m he hf hsf _ _ (by simp; omega) (by simp; omega)
    simp only [List.forIn_cons, Sem.run_bind, pt, pe, Result.andThen_ok, List.all_cons]
    cases hb : ((xs.drop (i * m)).take m == (ys.drop (i * m)).take m)
    · simp
    · simp only [Bool.not_true, Bool.false_eq_true, if_false, Sem.run_pure, Result.andThen_ok, Bool.true_and]
      exact ih fun j hj => hl j (by simp [hj])
end
theorem szf : ∀ w, (sizeOf 3).run Tryd.prog w = .ok 1 w := by
  intro w
  have h := size_int
  cases hi : Tryd.prog.info? 3 with
  | none => rw [hi] at h; cases h
  | some inf => rw [hi] at h; simp at h; simp [sizeOf, typeInfo, hi, h]
theorem sze : ∀ w, (sizeOf 25).run Tryd.prog w = .ok 4 w := by
  intro w
  have h := size_texel
  cases hi : Tryd.prog.info? 25 with
  | none => rw [hi] at h; cases h
  | some inf => rw [hi] at h; simp at h; simp [sizeOf, typeInfo, hi, h]
theorem eq_texel (xs ys : List Int) (hx : xs.length = 4) (hy : ys.length = 4) (w : World) : (Op.equalIn 10000 25 (arr xs) (arr ys)).run Tryd.prog w = .ok (xs == ys) w :=
  eqIn_ints w 9998 _ _ 4 Tryd.underlying25 Tryd.underlying3 szf xs ys hx hy
theorem eq_tile (xs ys : List Int) (hx : xs.length = 64) (hy : ys.length = 64) (w : World) : (Op.equalIn 10000 27 (arr xs) (arr ys)).run Tryd.prog w = .ok (xs == ys) w :=
  eqIn_rows w 9997 _ _ _ 16 4 Tryd.underlying27 Tryd.underlying25 Tryd.underlying3 szf sze xs ys hx hy

theorem kn_buildb {w u : World} {R : List Res} {F : List (World → Prop)} {ops : Array Oper} {rest : List Oper} {o : Oper} {a : Act} {Q : Exit → Act → World → Prop} (E : Kn w R F u) (hgd : o.guard = none) {t e : TypeId} {len : Nat} {parts : Array (Nat × Operand)} (ho : o.op = .buildSlice t len parts) (xs : List Nat)
    (hu : Tryd.prog.underlying t = some (.slice e)) (hsz : (Tryd.prog.info? e).map (·.size) = some 1) (hz : ((Tryd.prog.info? e).bind (·.zero)).isSome = true) (hlen : len = xs.length) (hpos : 0 < len) (hsmall : len ≤ 2 ^ 24)
    (hparts : parts.toList = (((xs.map fun (x : Nat) => (x : Int))).zipIdx 0).map fun x => (x.2, Operand.const (Value.int .u8 x.1)))
    (h : ∀ g u', Kn w (.row g e (u8s xs) :: R) F u' → wpList Tryd.prog ops Q rest (a.put o.dst (.slice (some ⟨g, 0, none⟩) len len)) u') : wpList Tryd.prog ops Q (o :: rest) a u := by
  refine wpList_buildFlat hgd t e len parts ho .u8 (xs.map fun (x : Nat) => (x : Int)) hu hsz hz (by simpa using hlen) hpos hsmall hparts ?_
  have e1 : (xs.map fun (x : Nat) => (x : Int)).map (Value.int .u8) = u8s xs := by simp [u8s]
  rw [e1]
  exact h _ _ (E.new e (u8s xs))
/-- Bytes that are a block which is known. -/
theorem Kn.row_bs {w u : World} {R : List Res} {F : List (World → Prop)} (E : Kn w R F u) {g : Nat} {t : TypeId} {xs : List Nat} [S : Sees R F g t (u8s xs)] (hx : ∀ x ∈ xs, x < 256) (n : Nat) (hl : xs.length = n) : Bs u u.heap.size (some ⟨g, 0, none⟩) n xs := by
  have hr : Row u g t (u8s xs) := S.h E
  exact ⟨hl, hx, fun _ => ⟨g, 0, rfl, hr.lt, fun i hi => by rw [Nat.zero_add]; exact hr.cell i _ (u8s_getElem? xs i (by omega))⟩⟩
end Go.Proofs.YtgcijioiicmjiaaDoor
