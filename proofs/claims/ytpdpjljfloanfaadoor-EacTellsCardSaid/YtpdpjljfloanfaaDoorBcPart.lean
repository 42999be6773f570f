/- A block's parts: the program's and the reference's. -/
import Derived.Test.YtpdpjljfloanfaaDoorBcPal
import Derived.Test.YtpdpjljfloanfaaDoorBitLows
import Derived.Test.YtpdpjljfloanfaaDoorBitRset
import Derived.Laws.CopyOwn
set_option linter.all false
namespace Go.Proofs.YtpdpjljfloanfaaDoor
open Go.RowKit
open Bi Lv Bc

/-- Bytes that were there when the call began. -/
theorem Kn.arg_bs {w u : World} {R : List Res} {F : List (World → Prop)} (E : Kn w R F u) {A : Option Addr} {n : Nat} {xs : List Nat} (h : Bs w w.heap.size A n xs) : Kn w R (bsF A n xs :: F) u :=
  E.fact fun u' hk => by
    have h2 : Bs u w.heap.size A n xs := h.below E.bel
    refine ⟨h2.1, h2.2.1, fun hn => ?_⟩
    obtain ⟨b, off, e, hb, hc⟩ := h2.2.2 hn
    have hnot : b ∉ blocks R := fun hm => by
      obtain ⟨r, hr, e'⟩ := mem_blocks.1 hm
      have := (Res.range (E.res r hr) e').1
      omega
    refine ⟨b, off, e, Nat.lt_of_lt_of_le hb (Nat.le_trans E.bel.size hk.size), fun i hi => ?_⟩
    rw [World.cell?_of_block (w := u) (hk.block b (Nat.lt_of_lt_of_le hb E.bel.size) hnot)]
    exact hc i hi
/-- Bytes that a call has answered, where nothing is held for writing. -/
theorem Kn.new_bs {w u : World} {F : List (World → Prop)} (E : Kn w [] F u) {A : Option Addr} {n : Nat} {xs : List Nat} (h : Bs u u.heap.size A n xs) : Kn w [] (bsF A n xs :: F) u :=
  E.fact fun u' hk => by
    refine ⟨h.1, h.2.1, fun hn => ?_⟩
    obtain ⟨b, off, e, hb, hc⟩ := h.2.2 hn
    refine ⟨b, off, e, Nat.lt_of_lt_of_le hb hk.size, fun i hi => ?_⟩
    rw [World.cell?_of_block (w := u) (hk.block b hb (by simp [blocks]))]
    exact hc i hi
theorem Kn.bs {w u : World} {R : List Res} {F : List (World → Prop)} (E : Kn w R F u) {A : Option Addr} {n : Nat} {xs : List Nat} (h : bsF A n xs ∈ F) : Bs u u.heap.size A n xs := E.get h

section
variable {w u : World} {R R' : List Res} {F : List (World → Prop)} {ops : Array Oper} {rest : List Oper} {o : Oper} {a : Act} {Q : Exit → Act → World → Prop}
/-- 'copy' into the whole of an array of numbers. -/
theorem kn_copy (E : Kn w R F u) (hgd : o.guard = none) {d s : Operand} {dT sT : TypeId} (ho : o.op = .call { callee := .builtin .copy, args := #[d, s], argTypes := #[dT, sT] }) {elem : TypeId} (hu : Tryd.prog.underlying dT = some (.slice elem)) (hsz : (Tryd.prog.info? elem).map (·.size) = some 1)
    {g n cap : Nat} (hd : a.eval d = .slice (some ⟨g, 0, none⟩) n cap) {A : Option Addr} {c : Nat} (hs : a.eval s = .slice A n c) {zs : List Int} (hI : Is u u.heap.size A n zs) (hn : 0 < n) {t : TypeId} {old : List Value} [H : HasRow R g t old] (hl : old.length = n)
    [T : Turn R (.row g t old) (.row g t (i64s zs)) R'] (h : ∀ u', Kn w R' F u' → wpList Tryd.prog ops Q rest (a.put o.dst (goInt n)) u') : wpList Tryd.prog ops Q (o :: rest) a u := by
  have hr := (E.res _ H.h)
  have hz := hI.length
  obtain ⟨b, off, rfl, hb, hc⟩ := hI.2 hn
  have hlen : (i64s zs).length = n := by rw [i64s_length]; exact hz
  refine wpList_copy_own hgd d s dT sT ho elem hu hsz g 0 n cap ⟨b, off, none⟩ n c hd hs old.toArray t hr.2 (i64s zs) (by rw [hlen]; exact (Nat.min_self n).symm) (fun j v hv => by
    rw [show (⟨b, off, none⟩ : Addr).add j = ⟨b, off + j, none⟩ from by unfold Addr.add; split <;> simp_all]
    exact hc j v hv) (by rw [hlen]; simp [hl]) (i64s_one _) ?_
  rw [show (old.toArray.toList.take 0 ++ (i64s zs ++ old.toArray.toList.drop (0 + (i64s zs).length))) = i64s zs from by simp [hlen, hl], hlen]
  refine h _ (E.turned (r := .row g t old) (r' := .row g t (i64s zs)) ?_ ⟨hr.1, ?_⟩ (.inl rfl))
  · have ho : ∀ k, k ≠ g → (u.setRow g (i64s zs).toArray).heap[k]? = u.heap[k]? := by
      intro k hk
      simp only [World.setRow, Array.getElem?_modify]
      rw [if_neg (by omega)]
    exact ⟨rfl, rfl, rfl, by rw [size_setRow]; exact Nat.le_refl _, fun k _ hk => ho k (fun e => hk (by rw [e]; rfl))⟩
  · have := hr.2
    unfold Row at this ⊢
    simp [World.setRow, Array.getElem?_modify, this]
theorem results_kn4 (E : Kn w R F u) {fn : Func} {i j p q : Tmp} {ty : TypeId} (h : fn.results = #[.tmp i, .tmp j, .cell p ty, .tmp q]) (tmps : Array Value) {g : Nat} (hp : tmps.getD p undef = .pointer (some ⟨g, 0, none⟩)) {t : TypeId} {vs : List Value} {m : Nat} [Sees R F g t vs] [A : Aggr ty m] (hl : vs.length = m) :
    (results fn tmps).run Tryd.prog u = .ok (.tuple #[tmps.getD i undef, tmps.getD j undef, .agg vs.toArray, tmps.getD q undef]) u := by
  have hp' : tmps[p]?.getD undef = .pointer (some ⟨g, 0, none⟩) := by simpa using hp
  simp [results, h, hp', asAddr, run_loadVar_kn E hl]
end

namespace Bc
def z16 : List Int := [0, 0, 0, 0, 0, 0, 0, 0, 0, 0, 0, 0, 0, 0, 0, 0]
def paA (xs : List Nat) : Int := ((getN xs false 0 16 : Nat) : Int)
def paB (xs : List Nat) : Int := ((getN xs false 16 16 : Nat) : Int)
def paW (xs : List Nat) : List Int := lowsL xs 32 2 16
theorem paW_length (xs : List Nat) : (paW xs).length = 16 := lowsL_length _ _ _ _
theorem two_cols (xs : List Nat) : lowsL xs 0 16 2 = [paA xs, paB xs] := rfl
theorem paA_bd (xs : List Nat) : 0 ≤ paA xs ∧ paA xs < 65536 := by
  have h := getN_lt xs false 0 16 16 (by omega)
  unfold paA; omega
theorem paB_bd (xs : List Nat) : 0 ≤ paB xs ∧ paB xs < 65536 := by
  have h := getN_lt xs false 16 16 16 (by omega)
  unfold paB; omega
theorem paW_bd (xs : List Nat) (i : Nat) : 0 ≤ (paW xs).getD i 0 ∧ (paW xs).getD i 0 < 4 := by
  by_cases h : i < 16
  · have e : (paW xs).getD i 0 = ((getN xs false (32 + i * 2) 2 : Nat) : Int) := by simp [paW, lowsL, h]
    have hb := getN_lt xs false (32 + i * 2) 2 2 (by omega)
    rw [e]; omega
  · rw [List.getD_eq_getElem?_getD, List.getElem?_eq_none (by rw [paW_length]; omega)]; simp
end Bc
theorem slice16 (g : Nat) (u : World) : (Instr.sliceAt 25 (.pointer (some ⟨g, 0, none⟩)) none none none).run Tryd.prog u = .ok (.slice (some ⟨g, 0, none⟩) 16 16) u := by
  have hl : Tryd.prog.arrayLen 25 = 16 := by kernel_rfl
  have he : Tryd.prog.elem 25 = 3 := by kernel_rfl
  have hs : (Tryd.prog.info? 3).map (·.size) = some 1 := by kernel_rfl
  rw [run_sliceAt_array_all u 25 ⟨g, 0, none⟩ (by rw [hl, he]; exact Tryd.underlying25), he]
  cases hq : Tryd.prog.info? 3 with
  | none => simp [hq] at hs
  | some inf =>
    have hz : inf.size = 1 := by simpa [hq] using hs
    simp [slicedAt, sizeOf, typeInfo, hq, hz, hl, add_at]
theorem built_z16 (u : World) : (Instr.build 25 #[]).run Tryd.prog u = .ok (arr z16) u := run_build u _ _ _ (by kernel_rfl)

end Go.Proofs.YtpdpjljfloanfaaDoor
