/- BitLows, BcPart, BcEq: merged. -/
import Derived.Test.YtgcijioiicmjiaaDoorBitRset
import Derived.Test.YtgcijioiicmjiaaDoorG1
import Derived.Laws.OwnMore
import Derived.Test.YtgcijioiicmjiaaDoorG3
import Derived.Laws.CopyOwn
import Derived.Laws.StructEq
import Derived.Great.BuildSlice
set_option linter.all false
namespace Go.Proofs.YtgcijioiicmjiaaDoor
open Go.RowKit
open Bi

def lowsE (n : Nat) (p m k : Int) : Int := if p < 0 ∨ m < 0 ∨ 16 < m ∨ k < 0 ∨ 64 < k then 1 else if 8 * (n : Int) - p < m * k then 2 else 0
/-- The first i numbers of K, and noughts. -/
def lowsP (xs : List Nat) (p m K i : Nat) : List Int := (List.range K).map fun j => if j < i then ((getN xs false (p + j * m) m : Nat) : Int) else 0
def lowsL (xs : List Nat) (p m K : Nat) : List Int := (List.range K).map fun j => ((getN xs false (p + j * m) m : Nat) : Int)
def lowsV (xs : List Nat) (p m k : Int) : List Int := if lowsE xs.length p m k = 0 then lowsL xs p.toNat m.toNat k.toNat else []

theorem lowsP_length (xs : List Nat) (p m K i : Nat) : (lowsP xs p m K i).length = K := by simp [lowsP]
theorem lowsL_length (xs : List Nat) (p m K : Nat) : (lowsL xs p m K).length = K := by simp [lowsL]
theorem lowsP_zero (xs : List Nat) (p m K : Nat) : lowsP xs p m K 0 = List.replicate K 0 := by
  apply List.ext_getElem (by simp [lowsP])
  intro i h1 h2
  simp [lowsP]
theorem lowsP_full (xs : List Nat) (p m K : Nat) : lowsP xs p m K K = lowsL xs p m K := by
  unfold lowsP lowsL
  apply List.map_congr_left
  intro j hj
  simp at hj
  simp [hj]
theorem lowsP_set (xs : List Nat) (p m K i : Nat) : (lowsP xs p m K i).set i ((getN xs false (p + i * m) m : Nat) : Int) = lowsP xs p m K (i + 1) := by
  apply List.ext_getElem (by simp [lowsP])
  intro j h1 h2
  simp only [lowsP, List.getElem_set, List.getElem_map, List.getElem_range]
  by_cases h : i = j
  · subst h; simp
  · simp [h, show j < i + 1 ↔ j < i by omega]
theorem lowsL_succ (xs : List Nat) (p m K : Nat) : lowsL xs p m K ++ [((getN xs false (p + K * m) m : Nat) : Int)] = lowsL xs p m (K + 1) := by simp [lowsL, List.range_succ]

theorem lowsE_ok {n : Nat} {p m k : Int} (h : lowsE n p m k = 0) : 0 ≤ p ∧ 0 ≤ m ∧ m ≤ 16 ∧ 0 ≤ k ∧ k ≤ 64 ∧ m * k ≤ 8 * n - p := by
  unfold lowsE at h
  split at h
  · omega
  · split at h
    · omega
    · refine ⟨by omega, by omega, by omega, by omega, by omega, by omega⟩
theorem lowsV_bad {xs : List Nat} {n : Nat} {p m k : Int} (hx : xs.length = n) (h : lowsE n p m k ≠ 0) : lowsV xs p m k = [] := by unfold lowsV; rw [hx, if_neg h]
theorem lowsV_ok {xs : List Nat} {n p m k : Nat} (hx : xs.length = n) (h : lowsE n p m k = 0) : lowsV xs p m k = lowsL xs p m k := by unfold lowsV; rw [hx, if_pos h]; simp

/-- A slice of numbers that reads as zs, and an error's number. -/
def LaidI (w : World) (zs : List Int) (E : Int) (e : Ending) (w' : World) : Prop :=
  ∃ A n c, e = .returned (.tuple #[.slice A n c, .int .i64 E]) ∧ Is w' w'.heap.size A n zs ∧ Below w.heap.size w w'

theorem mul_le (m k : Int) (h0 : 0 ≤ m) (h1 : m ≤ 16) (h2 : 0 ≤ k) (h3 : k ≤ 64) : 0 ≤ m * k ∧ m * k ≤ 1024 := by
  refine ⟨Int.mul_nonneg h0 h2, ?_⟩
  have := Int.mul_le_mul h1 h3 h2 (by omega)
  omega

theorem info_int : (Tryd.prog.info? 3).map (fun i => (i.zero, i.size, i.bytes)) = some (some (.int .i64 0), 1, 8) := by kernel_rfl

theorem read_at (A : Option Addr) (n c : Nat) (P : Int) (p m : Nat) (hP : P = (p : Int)) (hi : Bool) (xs : List Nat) (w : World) (h : Bs w w.heap.size A n xs) (hn : n ≤ 140737488355328) (hm : m ≤ 64) (hp : p + m ≤ 8 * n) :
    Calls Tryd.prog 79 #[.slice A n c, .int .i64 P, .int .i64 (m : Int), .bool hi] w fun e w' => e = .returned (.int .u64 ((rd xs hi p m : Nat) : Int)) ∧ Below w.heap.size w w' := by
  subst hP
  exact read_any A n c p m hi xs w h hn hm hp

theorem own_ge {w : World} {base : Nat} {e : TypeId} {v : Value} {n : Nat} {xs : List Value} (h : w.ownsRow base e 1 v n xs) : ∀ k, v.ownBlock = some k → base ≤ k := by
  intro k hk
  rcases h.2 with ⟨hv, _⟩ | ⟨g, cap, cur, hv, hb, _⟩
  · subst hv; simp [Value.ownBlock] at hk
  · subst hv
    simp [Value.ownBlock] at hk
    omega

theorem rget_at (A : Option Addr) (n c : Nat) (P : Int) (p m : Nat) (hP : P = (p : Int)) (xs : List Nat) (B : Nat) (w : World) (h : Bs w B A n xs) (hn : n ≤ 140737488355328) (hm : m ≤ 64) (hp : p + m ≤ 8 * n) :
    Calls Tryd.prog 60 #[.slice A n c, .int .i64 P, .int .i64 (m : Int), .bool false] w fun e w' => e = .returned (.tuple #[.int .u64 ((getN xs false p m : Nat) : Int), .int .i64 0]) ∧ w = w' := by
  subst hP
  exact rget_low A n c p m xs B w h hn hm hp

end Go.Proofs.YtgcijioiicmjiaaDoor
set_option linter.all false
namespace Go.Proofs.YtgcijioiicmjiaaDoor
open Go.RowKit
open Bi Lv Bc

/-- Bytes that were there when the call began. -/
theorem Kn.arg_bs {w u : World} {R : List Res} {F : List (World → Prop)} (E : Kn w R F u) {A : Option Addr} {n : Nat} {xs : List Nat} (h : Bs w w.heap.size A n xs) : Kn w R (bsF A n xs :: F) u :=
  E.fact fun u' hk => by
    have h2 : Bs u w.heap.size A n xs := h.below E.bel
    refine ⟨h2.1, h2.2.1, fun hn => ?_⟩
    obtain ⟨b, off, e, hb, hc⟩ := h2.2.2 hn
    have hnot : b ∉ blocks R := fun hm => by
      obtain ⟨r, hr, e'⟩ := mem_blocks.1 hm
      have := (Res.range (E.res r hr) e').1
      omega
    refine ⟨b, off, e, Nat.lt_of_lt_of_le hb (Nat.le_trans E.bel.size hk.size), fun i hi => ?_⟩
    rw [World.cell?_of_block (w := u) (hk.block b (Nat.lt_of_lt_of_le hb E.bel.size) hnot)]
    exact hc i hi
/-- Bytes that a call has answered, where nothing is held for writing. -/
theorem Kn.new_bs {w u : World} {F : List (World → Prop)} (E : Kn w [] F u) {A : Option Addr} {n : Nat} {xs : List Nat} (h : Bs u u.heap.size A n xs) : Kn w [] (bsF A n xs :: F) u :=
  E.fact fun u' hk => by
    refine ⟨h.1, h.2.1, fun hn => ?_⟩
    obtain ⟨b, off, e, hb, hc⟩ := h.2.2 hn
    refine ⟨b, off, e, Nat.lt_of_lt_of_le hb hk.size, fun i hi => ?_⟩
    rw [World.cell?_of_block (w := u) (hk.block b hb (by simp [blocks]))]
    exact hc i hi
theorem Kn.bs {w u : World} {R : List Res} {F : List (World → Prop)} (E : Kn w R F u) {A : Option Addr} {n : Nat} {xs : List Nat} (h : bsF A n xs ∈ F) : Bs u u.heap.size A n xs := E.get h

section
variable {w u : World} {R R' : List Res} {F : List (World → Prop)} {ops : Array Oper} {rest : List Oper} {o : Oper} {a : Act} {Q : Exit → Act → World → Prop}
/-- 'copy' into the whole of an array of numbers. -/
theorem kn_copy (E : Kn w R F u) (hgd : o.guard = none) {d s : Operand} {dT sT : TypeId} (ho : o.op = .call { callee := .builtin .copy, args := #[d, s], argTypes := #[dT, sT] }) {elem : TypeId} (hu : Tryd.prog.underlying dT = some (.slice elem)) (hsz : (Tryd.prog.info? elem).map (·.size) = some 1)
    {g n cap : Nat} (hd : a.eval d = .slice (some ⟨g, 0, none⟩) n cap) {A : Option Addr} {c : Nat} (hs : a.eval s = .slice A n c) {zs : List Int} (hI : Is u u.heap.size A n zs) (hn : 0 < n) {t : TypeId} {old : List Value} [H : HasRow R g t old] (hl : old.length = n)
    [T : Turn R (.row g t old) (.row g t (i64s zs)) R'] (h : ∀ u', Kn w R' F u' → wpList Tryd.prog ops Q rest (a.put o.dst (goInt n)) u') : wpList Tryd.prog ops Q (o :: rest) a u := by
  have hr := (E.res _ H.h)
  have hz := hI.length
  obtain ⟨b, off, rfl, hb, hc⟩ := hI.2 hn
  have hlen : (i64s zs).length = n := by rw [i64s_length]; exact hz
  refine wpList_copy_own hgd d s dT sT ho elem hu hsz g 0 n cap ⟨b, off, none⟩ n c hd hs old.toArray t hr.2 (i64s zs) (by rw [hlen]; exact (Nat.min_self n).symm) (fun j v hv => by
    rw [show (⟨b, off, none⟩ : Addr).add j = ⟨b, off + j, none⟩ from by unfold Addr.add; split <;> simp_all]
    exact hc j v hv) (by rw [hlen]; simp [hl]) (i64s_one _) ?_
  rw [show (old.toArray.toList.take 0 ++ (i64s zs ++ old.toArray.toList.drop (0 + (i64s zs).length))) = i64s zs from by simp [hlen, hl], hlen]
  refine h _ (E.turned (r := .row g t old) (r' := .row g t (i64s zs)) ?_ ⟨hr.1, ?_⟩ (.inl rfl))
  · have ho : ∀ k, k ≠ g → (u.setRow g (i64s zs).toArray).heap[k]? = u.heap[k]? := by
      intro k hk
      simp only [World.setRow, Array.getElem?_modify]
      rw [if_neg (by omega)]
    exact ⟨rfl, rfl, rfl, by rw [size_setRow]; exact Nat.le_refl _, fun k _ hk => ho k (fun e => hk (by rw [e]; rfl))⟩
  · have := hr.2
    unfold Row at this ⊢
    simp [World.setRow, Array.getElem?_modify, this]
theorem results_kn4 (E : Kn w R F u) {fn : Func} {i j p q : Tmp} {ty : TypeId} (h : fn.results = #[.tmp i, .tmp j, .cell p ty, .tmp q]) (tmps : Array Value) {g : Nat} (hp : tmps.getD p undef = .pointer (some ⟨g, 0, none⟩)) {t : TypeId} {vs : List Value} {m : Nat} [Sees R F g t vs] [A : Aggr ty m] (hl : vs.length = m) :
    (results fn tmps).run Tryd.prog u = .ok (.tuple #[tmps.getD i undef, tmps.getD j undef, .agg vs.toArray, tmps.getD q undef]) u := by
  have hp' : tmps[p]?.getD undef = .pointer (some ⟨g, 0, none⟩) := by simpa using hp
  simp [results, h, hp', asAddr, run_loadVar_kn E hl]
end

namespace Bc
def z16 : List Int := [0, 0, 0, 0, 0, 0, 0, 0, 0, 0, 0, 0, 0, 0, 0, 0]
def paA (xs : List Nat) : Int := ((getN xs false 0 16 : Nat) : Int)
def paB (xs : List Nat) : Int := ((getN xs false 16 16 : Nat) : Int)
def paW (xs : List Nat) : List Int := lowsL xs 32 2 16
theorem paW_length (xs : List Nat) : (paW xs).length = 16 := lowsL_length _ _ _ _
theorem two_cols (xs : List Nat) : lowsL xs 0 16 2 = [paA xs, paB xs] := rfl
theorem paA_bd (xs : List Nat) : 0 ≤ paA xs ∧ paA xs < 65536 := by
  have h := getN_lt xs false 0 16 16 (by omega)
  unfold paA; omega
theorem paB_bd (xs : List Nat) : 0 ≤ paB xs ∧ paB xs < 65536 := by
  have h := getN_lt xs false 16 16 16 (by omega)
  unfold paB; omega
theorem paW_bd (xs : List Nat) (i : Nat) : 0 ≤ (paW xs).getD i 0 ∧ (paW xs).getD i 0 < 4 := by
  by_cases h : i < 16
  · have e : (paW xs).getD i 0 = ((getN xs false (32 + i * 2) 2 : Nat) : Int) := by simp [paW, lowsL, h]
    have hb := getN_lt xs false (32 + i * 2) 2 2 (by omega)
    rw [e]; omega
  · rw [List.getD_eq_getElem?_getD, List.getElem?_eq_none (by rw [paW_length]; omega)]; simp
end Bc
theorem slice2 (g : Nat) (u : World) : (Instr.sliceAt 45 (.pointer (some ⟨g, 0, none⟩)) none none none).run Tryd.prog u = .ok (.slice (some ⟨g, 0, none⟩) 2 2) u := by
  have hl : Tryd.prog.arrayLen 45 = 2 := by kernel_rfl
  have he : Tryd.prog.elem 45 = 3 := by kernel_rfl
  have hs : (Tryd.prog.info? 3).map (·.size) = some 1 := by kernel_rfl
  rw [run_sliceAt_array_all u 45 ⟨g, 0, none⟩ (by rw [hl, he]; exact Tryd.underlying45), he]
  cases hq : Tryd.prog.info? 3 with
  | none => simp [hq] at hs
  | some inf =>
    have hz : inf.size = 1 := by simpa [hq] using hs
    simp [slicedAt, sizeOf, typeInfo, hq, hz, hl, add_at]
theorem slice16 (g : Nat) (u : World) : (Instr.sliceAt 46 (.pointer (some ⟨g, 0, none⟩)) none none none).run Tryd.prog u = .ok (.slice (some ⟨g, 0, none⟩) 16 16) u := by
  have hl : Tryd.prog.arrayLen 46 = 16 := by kernel_rfl
  have he : Tryd.prog.elem 46 = 3 := by kernel_rfl
  have hs : (Tryd.prog.info? 3).map (·.size) = some 1 := by kernel_rfl
  rw [run_sliceAt_array_all u 46 ⟨g, 0, none⟩ (by rw [hl, he]; exact Tryd.underlying46), he]
  cases hq : Tryd.prog.info? 3 with
  | none => simp [hq] at hs
  | some inf =>
    have hz : inf.size = 1 := by simpa [hq] using hs
    simp [slicedAt, sizeOf, typeInfo, hq, hz, hl, add_at]
theorem built_z16 (u : World) : (Instr.build 46 #[]).run Tryd.prog u = .ok (arr z16) u := run_build u _ _ _ (by kernel_rfl)

end Go.Proofs.YtgcijioiicmjiaaDoor
set_option linter.all false
namespace Go.Proofs.YtgcijioiicmjiaaDoor
open Go.RowKit
open Bc

theorem size_int : (Tryd.prog.info? 3).map (·.size) = some 1 := by kernel_rfl
theorem size_texel : (Tryd.prog.info? 25).map (·.size) = some 4 := by kernel_rfl

theorem all_ints : ∀ (xs ys : List Int), xs.length = ys.length → ((List.range xs.length).all fun i => xs.getD i 0 == ys.getD i 0) = (xs == ys)
  | [], [], _ => rfl
  | x :: xs, y :: ys, h => by
    have ih := all_ints xs ys (by simpa using h)
    rw [List.length_cons, List.range_succ_eq_map, List.all_cons, List.all_map]
    simp only [List.getD_cons_zero, Function.comp_def, List.getD_cons_succ, ih]
    simp [List.cons_beq_cons]
  | [], _ :: _, h => by simp at h
  | _ :: _, [], h => by simp at h

theorem all_rows (m : Nat) : ∀ (n : Nat) (xs ys : List Int), xs.length = n * m → ys.length = n * m → ((List.range n).all fun i => (xs.drop (i * m)).take m == (ys.drop (i * m)).take m) = (xs == ys)
  | 0, xs, ys, h, k => by
    rw [List.eq_nil_of_length_eq_zero (by omega : xs.length = 0), List.eq_nil_of_length_eq_zero (by omega : ys.length = 0)]
    rfl
  | n + 1, xs, ys, h, k => by
    rw [Nat.add_mul] at h k
    have ih := all_rows m n (xs.drop m) (ys.drop m) (by simp; omega) (by simp; omega)
    rw [List.range_succ_eq_map, List.all_cons, List.all_map]
    have e : ∀ (l : List Int) (i : Nat), l.drop ((i + 1) * m) = (l.drop m).drop (i * m) := by
      intro l i
      rw [List.drop_drop, Nat.add_mul, Nat.one_mul, Nat.add_comm]
    simp only [Function.comp_def, Nat.succ_eq_add_one, e, ih, Nat.zero_mul, List.drop_zero]
    rw [Bool.eq_iff_iff]
    simp only [Bool.and_eq_true, beq_iff_eq]
    constructor
    · rintro ⟨a, b⟩
      rw [← List.take_append_drop m xs, ← List.take_append_drop m ys, a, b]
    · rintro rfl
      exact ⟨rfl, rfl⟩

section
variable {P : Program} (w : World)
theorem eqIn_ints (d : Nat) (t e : TypeId) (n : Nat) (ht : P.underlying t = some (.array n e)) (he : P.underlying e = some (.int .i64)) (hsz : ∀ w, (sizeOf e).run P w = .ok 1 w)
    (xs ys : List Int) (hx : xs.length = n) (hy : ys.length = n) :
    (Op.equalIn (d + 2) t (arr xs) (arr ys)).run P w = .ok (xs == ys) w := by
  rw [← all_ints xs ys (hx.trans hy.symm), hx, List.range_eq_range', Op.equalIn]
  simp only [Sem.run_bind, run_underlying ht, Result.andThen_ok, hsz, Std.Legacy.Range.forIn_eq_forIn_range', Std.Legacy.Range.size, Nat.sub_zero, Nat.add_sub_cancel, Nat.div_one]
  have hl : ∀ i ∈ List.range' 0 n 1, i < n := fun i hi => by simpa using (List.mem_range'_1.1 hi).2
  generalize List.range' 0 n 1 = l at hl ⊢
  induction l with
  | nil => simp
  | cons i l ih =>
    have hi : i < n := hl i (by simp)
    have px : (part e (i64s xs).toArray (i * 1)).run P w = .ok (.int .i64 (xs.getD i 0)) w := by
      simp [part, isAgg, run_underlying he, i64s, List.getElem?_eq_getElem (show i < xs.length by omega)]
    have py : (part e (i64s ys).toArray (i * 1)).run P w = .ok (.int .i64 (ys.getD i 0)) w := by
      simp [part, isAgg, run_underlying he, i64s, List.getElem?_eq_getElem (show i < ys.length by omega)]
    have pe : (Op.equalIn (d + 1) e (.int .i64 (xs.getD i 0)) (.int .i64 (ys.getD i 0))).run P w = .ok (xs.getD i 0 == ys.getD i 0) w := run_equalIn_int w d e .i64 .i64 _ _ he
    simp only [List.forIn_cons, Sem.run_bind, px, py, pe, Result.andThen_ok, List.all_cons]
    cases hb : (xs.getD i 0 == ys.getD i 0)
    · simp
    · simp only [Bool.not_true, Bool.false_eq_true, if_false, Sem.run_pure, Result.andThen_ok, Bool.true_and]
      exact ih fun j hj => hl j (by simp [hj])

theorem eqIn_rows (d : Nat) (t e f : TypeId) (n m : Nat) (ht : P.underlying t = some (.array n e)) (he : P.underlying e = some (.array m f)) (hf : P.underlying f = some (.int .i64)) (hsf : ∀ w, (sizeOf f).run P w = .ok 1 w) (hse : ∀ w, (sizeOf e).run P w = .ok m w)
    (xs ys : List Int) (hx : xs.length = n * m) (hy : ys.length = n * m) :
    (Op.equalIn (d + 3) t (arr xs) (arr ys)).run P w = .ok (xs == ys) w := by
  rw [← all_rows m n xs ys hx hy, List.range_eq_range', Op.equalIn]
  simp only [Sem.run_bind, run_underlying ht, Result.andThen_ok, hse, Std.Legacy.Range.forIn_eq_forIn_range', Std.Legacy.Range.size, Nat.sub_zero, Nat.add_sub_cancel, Nat.div_one]
  have hl : ∀ i ∈ List.range' 0 n 1, i < n := fun i hi => by simpa using (List.mem_range'_1.1 hi).2
  generalize List.range' 0 n 1 = l at hl ⊢
  induction l with
  | nil => simp
  | cons i l ih =>
    have hi : i < n := hl i (by simp)
    have him : i * m + m ≤ n * m := by rw [← Nat.succ_mul]; exact Nat.mul_le_mul_right m hi
    have hq : (P.info? e).map (·.size) = some m := by
      have := hse w
      cases h : P.info? e with
      | none => simp [sizeOf, typeInfo, h] at this
      | some inf => simpa [sizeOf, typeInfo, h] using this
    have pt : ∀ zs : List Int, (part e (i64s zs).toArray (i * m)).run P w = .ok (arr ((zs.drop (i * m)).take m)) w := by
      intro zs
      cases h : P.info? e with
      | none => simp [h] at hq
      | some inf =>
        have hz : inf.size = m := by simpa [h] using hq
        simp [part, isAgg, run_underlying he, sizeOf, typeInfo, h, hz, arr]
        rw [i64s_take, i64s_drop]
    have pe : (Op.equalIn (d + 2) e (arr ((xs.drop (i * m)).take m)) (arr ((ys.drop (i * m)).take m))).run P w = .ok ((xs.drop (i * m)).take m == (ys.drop (i * m)).take m) w :=
      eqIn_ints w d e f m he hf hsf _ _ (by simp; omega) (by simp; omega)
    simp only [List.forIn_cons, Sem.run_bind, pt, pe, Result.andThen_ok, List.all_cons]
    cases hb : ((xs.drop (i * m)).take m == (ys.drop (i * m)).take m)
    · simp
    · simp only [Bool.not_true, Bool.false_eq_true, if_false, Sem.run_pure, Result.andThen_ok, Bool.true_and]
      exact ih fun j hj => hl j (by simp [hj])
end
theorem szf : ∀ w, (sizeOf 3).run Tryd.prog w = .ok 1 w := by
  intro w
  have h := size_int
  cases hi : Tryd.prog.info? 3 with
  | none => rw [hi] at h; cases h
  | some inf => rw [hi] at h; simp at h; simp [sizeOf, typeInfo, hi, h]
theorem sze : ∀ w, (sizeOf 25).run Tryd.prog w = .ok 4 w := by
  intro w
  have h := size_texel
  cases hi : Tryd.prog.info? 25 with
  | none => rw [hi] at h; cases h
  | some inf => rw [hi] at h; simp at h; simp [sizeOf, typeInfo, hi, h]
theorem eq_texel (xs ys : List Int) (hx : xs.length = 4) (hy : ys.length = 4) (w : World) : (Op.equalIn 10000 25 (arr xs) (arr ys)).run Tryd.prog w = .ok (xs == ys) w :=
  eqIn_ints w 9998 _ _ 4 Tryd.underlying25 Tryd.underlying3 szf xs ys hx hy
theorem eq_tile (xs ys : List Int) (hx : xs.length = 64) (hy : ys.length = 64) (w : World) : (Op.equalIn 10000 27 (arr xs) (arr ys)).run Tryd.prog w = .ok (xs == ys) w :=
  eqIn_rows w 9997 _ _ _ 16 4 Tryd.underlying27 Tryd.underlying25 Tryd.underlying3 szf sze xs ys hx hy

theorem eq_which (xs ys : List Int) (hx : xs.length = 16) (hy : ys.length = 16) (w : World) : (Op.equalIn 10000 46 (arr xs) (arr ys)).run Tryd.prog w = .ok (xs == ys) w :=
  eqIn_ints w 9998 _ _ 16 Tryd.underlying46 Tryd.underlying3 szf xs ys hx hy
theorem eq_pal (xs ys : List Int) (hx : xs.length = 16) (hy : ys.length = 16) (w : World) : (Op.equalIn 10000 69 (arr xs) (arr ys)).run Tryd.prog w = .ok (xs == ys) w :=
  eqIn_rows w 9997 _ _ _ 4 4 Tryd.underlying69 Tryd.underlying25 Tryd.underlying3 szf sze xs ys hx hy
theorem kn_buildb {w u : World} {R : List Res} {F : List (World → Prop)} {ops : Array Oper} {rest : List Oper} {o : Oper} {a : Act} {Q : Exit → Act → World → Prop} (E : Kn w R F u) (hgd : o.guard = none) {t e : TypeId} {len : Nat} {parts : Array (Nat × Operand)} (ho : o.op = .buildSlice t len parts) (xs : List Nat)
    (hu : Tryd.prog.underlying t = some (.slice e)) (hsz : (Tryd.prog.info? e).map (·.size) = some 1) (hz : ((Tryd.prog.info? e).bind (·.zero)).isSome = true) (hlen : len = xs.length) (hpos : 0 < len) (hsmall : len ≤ 2 ^ 24)
    (hparts : parts.toList = (((xs.map fun (x : Nat) => (x : Int))).zipIdx 0).map fun x => (x.2, Operand.const (Value.int .u8 x.1)))
    (h : ∀ g u', Kn w (.row g e (u8s xs) :: R) F u' → wpList Tryd.prog ops Q rest (a.put o.dst (.slice (some ⟨g, 0, none⟩) len len)) u') : wpList Tryd.prog ops Q (o :: rest) a u := by
  refine wpList_buildFlat hgd t e len parts ho .u8 (xs.map fun (x : Nat) => (x : Int)) hu hsz hz (by simpa using hlen) hpos hsmall hparts ?_
  have e1 : (xs.map fun (x : Nat) => (x : Int)).map (Value.int .u8) = u8s xs := by simp [u8s]
  rw [e1]
  exact h _ _ (E.new e (u8s xs))
/-- Bytes that are a block which is known. -/
theorem Kn.row_bs {w u : World} {R : List Res} {F : List (World → Prop)} (E : Kn w R F u) {g : Nat} {t : TypeId} {xs : List Nat} [S : Sees R F g t (u8s xs)] (hx : ∀ x ∈ xs, x < 256) (n : Nat) (hl : xs.length = n) : Bs u u.heap.size (some ⟨g, 0, none⟩) n xs := by
  have hr : Row u g t (u8s xs) := S.h E
  exact ⟨hl, hx, fun _ => ⟨g, 0, rfl, hr.lt, fun i hi => by rw [Nat.zero_add]; exact hr.cell i _ (u8s_getElem? xs i (by omega))⟩⟩
end Go.Proofs.YtgcijioiicmjiaaDoor
