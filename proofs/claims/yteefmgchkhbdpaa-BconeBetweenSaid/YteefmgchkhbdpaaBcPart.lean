/- A block's parts: the program's and the reference's. -/
import Derived.Test.YteefmgchkhbdpaaBcPal
import Derived.Test.YteefmgchkhbdpaaBitLows
import Derived.Test.YteefmgchkhbdpaaBitRset
import Derived.Laws.CopyOwn
namespace Go.Proofs.Yteefmgchkhbdpaa
open Go.RowKit
open Bi Lv Bc

/-- Bytes that were there when the call began. -/
theorem Kn.arg_bs {w u : World} {R : List Res} {F : List (World → Prop)} (E : Kn w R F u) {A : Option Addr} {n : Nat} {xs : List Nat} (h : Bs w w.heap.size A n xs) : Kn w R (bsF A n xs :: F) u :=
  E.fact fun u' hk => by
    have h2 : Bs u w.heap.size A n xs := h.below E.bel
    refine ⟨h2.1, h2.2.1, fun hn => ?_⟩
    obtain ⟨b, off, e, hb, hc⟩ := h2.2.2 hn
    have hnot : b ∉ blocks R := fun hm => by
      obtain ⟨r, hr, e'⟩ := mem_blocks.1 hm
      have := (Res.range (E.res r hr) e').1
      omega
    refine ⟨b, off, e, Nat.lt_of_lt_of_le hb (Nat.le_trans E.bel.size hk.size), fun i hi => ?_⟩
    rw [World.cell?_of_block (w := u) (hk.block b (Nat.lt_of_lt_of_le hb E.bel.size) hnot)]
    exact hc i hi
/-- Bytes that a call has answered, where nothing is held for writing. -/
theorem Kn.new_bs {w u : World} {F : List (World → Prop)} (E : Kn w [] F u) {A : Option Addr} {n : Nat} {xs : List Nat} (h : Bs u u.heap.size A n xs) : Kn w [] (bsF A n xs :: F) u :=
  E.fact fun u' hk => by
    refine ⟨h.1, h.2.1, fun hn => ?_⟩
    obtain ⟨b, off, e, hb, hc⟩ := h.2.2 hn
    refine ⟨b, off, e, Nat.lt_of_lt_of_le hb hk.size, fun i hi => ?_⟩
    rw [World.cell?_of_block (w := u) (hk.block b hb (by simp [blocks]))]
    exact hc i hi
theorem Kn.bs {w u : World} {R : List Res} {F : List (World → Prop)} (E : Kn w R F u) {A : Option Addr} {n : Nat} {xs : List Nat} (h : bsF A n xs ∈ F) : Bs u u.heap.size A n xs := E.get h

section
variable {w u : World} {R R' : List Res} {F : List (World → Prop)} {ops : Array Oper} {rest : List Oper} {o : Oper} {a : Act} {Q : Exit → Act → World → Prop}
/-- 'copy' into the whole of an array of numbers. -/
theorem kn_copy (E : Kn w R F u) (hgd : o.guard = none) {d s : Operand} {dT sT : TypeId} (ho : o.op = .call { callee := .builtin .copy, args := #[d, s], argTypes := #[dT, sT] }) {elem : TypeId} (hu : Try.prog.underlying dT = some (.slice elem)) (hsz : (Try.prog.info? elem).map (·.size) = some 1)
    {g n cap : Nat} (hd : a.eval d = .slice (some ⟨g, 0, none⟩) n cap) {A : Option Addr} {c : Nat} (hs : a.eval s = .slice A n c) {zs : List Int} (hI : Is u u.heap.size A n zs) (hn : 0 < n) {t : TypeId} {old : List Value} [H : HasRow R g t old] (hl : old.length = n)
    [T : Turn R (.row g t old) (.row g t (i64s zs)) R'] (h : ∀ u', Kn w R' F u' → wpList Try.prog ops Q rest (a.put o.dst (goInt n)) u') : wpList Try.prog ops Q (o :: rest) a u := by
  have hr := (E.res _ H.h)
  have hz := hI.length
  obtain ⟨b, off, rfl, hb, hc⟩ := hI.2 hn
  have hlen : (i64s zs).length = n := by rw [i64s_length]; exact hz
  refine wpList_copy_own hgd d s dT sT ho elem hu hsz g 0 n cap ⟨b, off, none⟩ n c hd hs old.toArray t hr.2 (i64s zs) (by rw [hlen]; exact (Nat.min_self n).symm) (fun j v hv => by
    rw [show (⟨b, off, none⟩ : Addr).add j = ⟨b, off + j, none⟩ from by unfold Addr.add; split <;> simp_all]
    exact hc j v hv) (by rw [hlen]; simp [hl]) (i64s_one _) ?_
  rw [show (old.toArray.toList.take 0 ++ (i64s zs ++ old.toArray.toList.drop (0 + (i64s zs).length))) = i64s zs from by simp [hlen, hl], hlen]
  refine h _ (E.turned (r := .row g t old) (r' := .row g t (i64s zs)) ?_ ⟨hr.1, ?_⟩ (.inl rfl))
  · have ho : ∀ k, k ≠ g → (u.setRow g (i64s zs).toArray).heap[k]? = u.heap[k]? := by
      intro k hk
      simp only [World.setRow, Array.getElem?_modify]
      rw [if_neg (by omega)]
    exact ⟨rfl, rfl, rfl, by rw [size_setRow]; exact Nat.le_refl _, fun k _ hk => ho k (fun e => hk (by rw [e]; rfl))⟩
  · have := hr.2
    unfold Row at this ⊢
    simp [World.setRow, Array.getElem?_modify, this]
theorem results_kn4 (E : Kn w R F u) {fn : Func} {i j p q : Tmp} {ty : TypeId} (h : fn.results = #[.tmp i, .tmp j, .cell p ty, .tmp q]) (tmps : Array Value) {g : Nat} (hp : tmps.getD p undef = .pointer (some ⟨g, 0, none⟩)) {t : TypeId} {vs : List Value} {m : Nat} [Sees R F g t vs] [A : Aggr ty m] (hl : vs.length = m) :
    (results fn tmps).run Try.prog u = .ok (.tuple #[tmps.getD i undef, tmps.getD j undef, .agg vs.toArray, tmps.getD q undef]) u := by
  have hp' : tmps[p]?.getD undef = .pointer (some ⟨g, 0, none⟩) := by simpa using hp
  simp [results, h, hp', asAddr, run_loadVar_kn E hl]
end

namespace Bc
def z16 : List Int := [0, 0, 0, 0, 0, 0, 0, 0, 0, 0, 0, 0, 0, 0, 0, 0]
def paA (xs : List Nat) : Int := ((getN xs false 0 16 : Nat) : Int)
def paB (xs : List Nat) : Int := ((getN xs false 16 16 : Nat) : Int)
def paW (xs : List Nat) : List Int := lowsL xs 32 2 16
theorem paW_length (xs : List Nat) : (paW xs).length = 16 := lowsL_length _ _ _ _
theorem two_cols (xs : List Nat) : lowsL xs 0 16 2 = [paA xs, paB xs] := rfl
theorem paA_bd (xs : List Nat) : 0 ≤ paA xs ∧ paA xs < 65536 := by
  have h := getN_lt xs false 0 16 16 (by omega)
  unfold paA; omega
theorem paB_bd (xs : List Nat) : 0 ≤ paB xs ∧ paB xs < 65536 := by
  have h := getN_lt xs false 16 16 16 (by omega)
  unfold paB; omega
theorem paW_bd (xs : List Nat) (i : Nat) : 0 ≤ (paW xs).getD i 0 ∧ (paW xs).getD i 0 < 4 := by
  by_cases h : i < 16
  · have e : (paW xs).getD i 0 = ((getN xs false (32 + i * 2) 2 : Nat) : Int) := by simp [paW, lowsL, h]
    have hb := getN_lt xs false (32 + i * 2) 2 2 (by omega)
    rw [e]; omega
  · rw [List.getD_eq_getElem?_getD, List.getElem?_eq_none (by rw [paW_length]; omega)]; simp
end Bc
theorem slice2 (g : Nat) (u : World) : (Instr.sliceAt 43 (.pointer (some ⟨g, 0, none⟩)) none none none).run Try.prog u = .ok (.slice (some ⟨g, 0, none⟩) 2 2) u := by
  have hl : Try.prog.arrayLen 43 = 2 := by kernel_rfl
  have he : Try.prog.elem 43 = 3 := by kernel_rfl
  have hs : (Try.prog.info? 3).map (·.size) = some 1 := by kernel_rfl
  rw [run_sliceAt_array_all u 43 ⟨g, 0, none⟩ (by rw [hl, he]; exact Try.underlying43), he]
  cases hq : Try.prog.info? 3 with
  | none => simp [hq] at hs
  | some inf =>
    have hz : inf.size = 1 := by simpa [hq] using hs
    simp [slicedAt, sizeOf, typeInfo, hq, hz, hl, add_at]
theorem slice16 (g : Nat) (u : World) : (Instr.sliceAt 51 (.pointer (some ⟨g, 0, none⟩)) none none none).run Try.prog u = .ok (.slice (some ⟨g, 0, none⟩) 16 16) u := by
  have hl : Try.prog.arrayLen 51 = 16 := by kernel_rfl
  have he : Try.prog.elem 51 = 3 := by kernel_rfl
  have hs : (Try.prog.info? 3).map (·.size) = some 1 := by kernel_rfl
  rw [run_sliceAt_array_all u 51 ⟨g, 0, none⟩ (by rw [hl, he]; exact Try.underlying51), he]
  cases hq : Try.prog.info? 3 with
  | none => simp [hq] at hs
  | some inf =>
    have hz : inf.size = 1 := by simpa [hq] using hs
    simp [slicedAt, sizeOf, typeInfo, hq, hz, hl, add_at]
theorem built_z16 (u : World) : (Instr.build 51 #[]).run Try.prog u = .ok (arr z16) u := run_build u _ _ _ (by kernel_rfl)

set_option maxHeartbeats 2000000 in
set_option maxRecDepth 100000 in
theorem parts_no (A : Option Addr) (n c : Nat) (w : World) (hn : n ≠ 8) (_ : n ≤ 9223372036854775807) :
    Calls Try.prog 27 #[.slice A n c] w fun e w' => e = .returned (.tuple #[.int .i64 0, .int .i64 0, arr z16, .int .i64 1]) ∧ Below w.heap.size w w' := by
  have E := Lib.hid (Kn.start w)
  have hn' : ¬ (n : Int) = 8 := by omega
  go_enter Try.func27, Try.ntmps27
  go_wp2_with (first | ((with_reducible refine kn_load E.out rfl rfl rfl rfl ?_)) | ((with_reducible refine kn_load_if E.out rfl rfl rfl rfl ?_)) | ((with_reducible refine kn_loads E.out rfl rfl rfl ?_ ?_); (focus (first | rfl | (simp only [i64s_length, u8s_length]; first | rfl | assumption | omega)))) | ((with_reducible refine kn_loads_if E.out rfl rfl rfl ?_ ?_); (focus (first | rfl | (simp only [i64s_length, u8s_length]; first | rfl | assumption | omega)))) | ((with_reducible refine kn_store1_int E.out rfl rfl rfl rfl rfl ?_); clear E; intro u E0; have E := Lib.hid E0; clear E0) | ((with_reducible refine kn_store1_slice E.out rfl rfl rfl rfl rfl ?_); clear E; intro u E0; have E := Lib.hid E0; clear E0) | ((with_reducible refine kn_store1_bool E.out rfl rfl rfl rfl rfl ?_); clear E; intro u E0; have E := Lib.hid E0; clear E0) | ((with_reducible refine kn_stores E.out rfl rfl rfl rfl rfl ?_ ?_ ?_); (focus (first | exact ⟨rfl, rfl⟩ | (simp only [i64s_length, u8s_length]; refine ⟨?_, ?_⟩ <;> first | rfl | assumption | omega))); (focus (first | exact i64s_one _ | exact u8s_one _ | simp [Value.oneCell'])); clear E; intro u E0; have E := Lib.hid E0; clear E0) | ((with_reducible refine kn_alloc (o := ⟨some 4, _, _, _, _, _⟩) E.out rfl rfl ?_); clear E; intro g4 u E0 hb0; have E := Lib.hid E0; clear E0 hb0) | ((with_reducible refine kn_box (o := ⟨some 4, _, _, _, _, _⟩) E.out rfl rfl rfl ?_); clear E; intro g4 u E0 hb0; have E := Lib.hid E0; clear E0 hb0) | ((with_reducible refine kn_box_int (o := ⟨some 4, _, _, _, _, _⟩) E.out rfl rfl rfl ?_); clear E; intro g4 u E0 hb0; have E := Lib.hid E0; clear E0 hb0) | ((with_reducible refine kn_box_slice (o := ⟨some 4, _, _, _, _, _⟩) E.out rfl rfl rfl ?_); clear E; intro g4 u E0 hb0; have E := Lib.hid E0; clear E0 hb0) | ((with_reducible refine kn_box_bool (o := ⟨some 4, _, _, _, _, _⟩) E.out rfl rfl rfl ?_); clear E; intro g4 u E0 hb0; have E := Lib.hid E0; clear E0 hb0) | ((with_reducible refine kn_box_func (o := ⟨some 4, _, _, _, _, _⟩) E.out rfl rfl rfl ?_); clear E; intro g4 u E0 hb0; have E := Lib.hid E0; clear E0 hb0) | ((with_reducible refine kn_alloc (o := ⟨some 6, _, _, _, _, _⟩) E.out rfl rfl ?_); clear E; intro g6 u E0 hb0; have E := Lib.hid E0; clear E0 hb0) | ((with_reducible refine kn_box (o := ⟨some 6, _, _, _, _, _⟩) E.out rfl rfl rfl ?_); clear E; intro g6 u E0 hb0; have E := Lib.hid E0; clear E0 hb0) | ((with_reducible refine kn_box_int (o := ⟨some 6, _, _, _, _, _⟩) E.out rfl rfl rfl ?_); clear E; intro g6 u E0 hb0; have E := Lib.hid E0; clear E0 hb0) | ((with_reducible refine kn_box_slice (o := ⟨some 6, _, _, _, _, _⟩) E.out rfl rfl rfl ?_); clear E; intro g6 u E0 hb0; have E := Lib.hid E0; clear E0 hb0) | ((with_reducible refine kn_box_bool (o := ⟨some 6, _, _, _, _, _⟩) E.out rfl rfl rfl ?_); clear E; intro g6 u E0 hb0; have E := Lib.hid E0; clear E0 hb0) | ((with_reducible refine kn_box_func (o := ⟨some 6, _, _, _, _, _⟩) E.out rfl rfl rfl ?_); clear E; intro g6 u E0 hb0; have E := Lib.hid E0; clear E0 hb0) | ((with_reducible refine kn_alloc (o := ⟨some 7, _, _, _, _, _⟩) E.out rfl rfl ?_); clear E; intro g7 u E0 hb0; have E := Lib.hid E0; clear E0 hb0) | ((with_reducible refine kn_box (o := ⟨some 7, _, _, _, _, _⟩) E.out rfl rfl rfl ?_); clear E; intro g7 u E0 hb0; have E := Lib.hid E0; clear E0 hb0) | ((with_reducible refine kn_box_int (o := ⟨some 7, _, _, _, _, _⟩) E.out rfl rfl rfl ?_); clear E; intro g7 u E0 hb0; have E := Lib.hid E0; clear E0 hb0) | ((with_reducible refine kn_box_slice (o := ⟨some 7, _, _, _, _, _⟩) E.out rfl rfl rfl ?_); clear E; intro g7 u E0 hb0; have E := Lib.hid E0; clear E0 hb0) | ((with_reducible refine kn_box_bool (o := ⟨some 7, _, _, _, _, _⟩) E.out rfl rfl rfl ?_); clear E; intro g7 u E0 hb0; have E := Lib.hid E0; clear E0 hb0) | ((with_reducible refine kn_box_func (o := ⟨some 7, _, _, _, _, _⟩) E.out rfl rfl rfl ?_); clear E; intro g7 u E0 hb0; have E := Lib.hid E0; clear E0 hb0) | ((with_reducible refine kn_alloc E.out rfl rfl ?_); clear E; intro g u E0 hb0; have E := Lib.hid E0; clear E0 hb0) | ((with_reducible refine kn_box E.out rfl rfl rfl ?_); clear E; intro g u E0 hb0; have E := Lib.hid E0; clear E0 hb0) | ((with_reducible refine kn_box_int E.out rfl rfl rfl ?_); clear E; intro g u E0 hb0; have E := Lib.hid E0; clear E0 hb0) | ((with_reducible refine kn_box_slice E.out rfl rfl rfl ?_); clear E; intro g u E0 hb0; have E := Lib.hid E0; clear E0 hb0) | ((with_reducible refine kn_box_bool E.out rfl rfl rfl ?_); clear E; intro g u E0 hb0; have E := Lib.hid E0; clear E0 hb0) | ((with_reducible refine kn_box_func E.out rfl rfl rfl ?_); clear E; intro g u E0 hb0; have E := Lib.hid E0; clear E0 hb0))
  refine bodyPost_ret (results_kn4 E.out rfl _ rfl (by rfl)) rfl ?_
  exact ⟨rfl, E.out.bel⟩

set_option maxHeartbeats 4000000 in
set_option maxRecDepth 100000 in
theorem parts_ok (A : Option Addr) (c : Nat) (xs : List Nat) (w : World) (h : Bs w w.heap.size A 8 xs) :
    Calls Try.prog 27 #[.slice A 8 c] w fun e w' => e = .returned (.tuple #[.int .i64 (paA xs), .int .i64 (paB xs), arr (paW xs), .int .i64 0]) ∧ Below w.heap.size w w' := by
  have E := Lib.hid ((Kn.start w).arg_bs h)
  have hL1 := Lib.hid (fun (u : World) (hu : Bs u u.heap.size A 8 xs) => show Calls Try.prog 67 #[.slice A 8 c, .int .i64 0, .int .i64 16, .int .i64 2] u (LaidI u [paA xs, paB xs] 0) from lows_ok A 8 c 0 16 2 xs u hu (by omega) (by omega) (by omega) (by omega))
  have hL2 := Lib.hid (fun (u : World) (hu : Bs u u.heap.size A 8 xs) => show Calls Try.prog 67 #[.slice A 8 c, .int .i64 32, .int .i64 2, .int .i64 16] u (LaidI u (paW xs) 0) from lows_ok A 8 c 32 2 16 xs u hu (by omega) (by omega) (by omega) (by omega))
  have hw := paW_length xs
  have hs2 := slice2
  have hs16 := slice16
  have hsz : (Try.prog.info? 3).map (·.size) = some 1 := by kernel_rfl
  clear h
  generalize paA xs = pa at *
  generalize paB xs = pb at *
  generalize paW xs = zw at *
  go_enter Try.func27, Try.ntmps27
  go_wp2_with (first
    | (go_at_call 67; first
        | (refine (hL1.out _ (E.out.bs (by simp))).mono ?_; clear hL1; rintro e w1 ⟨A1, n1, c1, rfl, hI, hb⟩; have E1 := Lib.hid (E.out.later hb); clear hb E; have E := E1; clear E1; obtain rfl : n1 = 2 := hI.length.symm)
        | (refine (hL2.out _ (E.out.bs (by simp))).mono ?_; clear hL2; rintro e w2 ⟨A2, n2, c2, rfl, hI, hb⟩; have E1 := Lib.hid (E.out.later hb); clear hb E; have E := E1; clear E1; obtain rfl : n2 = 16 := by have := hI.length; omega))
    | ((with_reducible refine kn_copy E.out rfl rfl Try.underlying75 hsz rfl rfl hI (by omega) ?_ ?_); (focus (first | rfl | (simp only [i64s_length]; first | rfl | assumption | omega))); clear E hI; intro u E0; have E := Lib.hid E0; clear E0)
    | ((with_reducible refine kn_load E.out rfl rfl rfl rfl ?_)) | ((with_reducible refine kn_load_if E.out rfl rfl rfl rfl ?_)) | ((with_reducible refine kn_loads E.out rfl rfl rfl ?_ ?_); (focus (first | rfl | (simp only [i64s_length, u8s_length]; first | rfl | assumption | omega)))) | ((with_reducible refine kn_loads_if E.out rfl rfl rfl ?_ ?_); (focus (first | rfl | (simp only [i64s_length, u8s_length]; first | rfl | assumption | omega)))) | ((with_reducible refine kn_store1_int E.out rfl rfl rfl rfl rfl ?_); clear E; intro u E0; have E := Lib.hid E0; clear E0) | ((with_reducible refine kn_store1_slice E.out rfl rfl rfl rfl rfl ?_); clear E; intro u E0; have E := Lib.hid E0; clear E0) | ((with_reducible refine kn_store1_bool E.out rfl rfl rfl rfl rfl ?_); clear E; intro u E0; have E := Lib.hid E0; clear E0) | ((with_reducible refine kn_stores E.out rfl rfl rfl rfl rfl ?_ ?_ ?_); (focus (first | exact ⟨rfl, rfl⟩ | (simp only [i64s_length, u8s_length]; refine ⟨?_, ?_⟩ <;> first | rfl | assumption | omega))); (focus (first | exact i64s_one _ | exact u8s_one _ | simp [Value.oneCell'])); clear E; intro u E0; have E := Lib.hid E0; clear E0) | ((with_reducible refine kn_alloc (o := ⟨some 4, _, _, _, _, _⟩) E.out rfl rfl ?_); clear E; intro g4 u E0 hb0; have E := Lib.hid E0; clear E0 hb0) | ((with_reducible refine kn_box (o := ⟨some 4, _, _, _, _, _⟩) E.out rfl rfl rfl ?_); clear E; intro g4 u E0 hb0; have E := Lib.hid E0; clear E0 hb0) | ((with_reducible refine kn_box_int (o := ⟨some 4, _, _, _, _, _⟩) E.out rfl rfl rfl ?_); clear E; intro g4 u E0 hb0; have E := Lib.hid E0; clear E0 hb0) | ((with_reducible refine kn_box_slice (o := ⟨some 4, _, _, _, _, _⟩) E.out rfl rfl rfl ?_); clear E; intro g4 u E0 hb0; have E := Lib.hid E0; clear E0 hb0) | ((with_reducible refine kn_box_bool (o := ⟨some 4, _, _, _, _, _⟩) E.out rfl rfl rfl ?_); clear E; intro g4 u E0 hb0; have E := Lib.hid E0; clear E0 hb0) | ((with_reducible refine kn_box_func (o := ⟨some 4, _, _, _, _, _⟩) E.out rfl rfl rfl ?_); clear E; intro g4 u E0 hb0; have E := Lib.hid E0; clear E0 hb0) | ((with_reducible refine kn_alloc (o := ⟨some 6, _, _, _, _, _⟩) E.out rfl rfl ?_); clear E; intro g6 u E0 hb0; have E := Lib.hid E0; clear E0 hb0) | ((with_reducible refine kn_box (o := ⟨some 6, _, _, _, _, _⟩) E.out rfl rfl rfl ?_); clear E; intro g6 u E0 hb0; have E := Lib.hid E0; clear E0 hb0) | ((with_reducible refine kn_box_int (o := ⟨some 6, _, _, _, _, _⟩) E.out rfl rfl rfl ?_); clear E; intro g6 u E0 hb0; have E := Lib.hid E0; clear E0 hb0) | ((with_reducible refine kn_box_slice (o := ⟨some 6, _, _, _, _, _⟩) E.out rfl rfl rfl ?_); clear E; intro g6 u E0 hb0; have E := Lib.hid E0; clear E0 hb0) | ((with_reducible refine kn_box_bool (o := ⟨some 6, _, _, _, _, _⟩) E.out rfl rfl rfl ?_); clear E; intro g6 u E0 hb0; have E := Lib.hid E0; clear E0 hb0) | ((with_reducible refine kn_box_func (o := ⟨some 6, _, _, _, _, _⟩) E.out rfl rfl rfl ?_); clear E; intro g6 u E0 hb0; have E := Lib.hid E0; clear E0 hb0) | ((with_reducible refine kn_alloc (o := ⟨some 7, _, _, _, _, _⟩) E.out rfl rfl ?_); clear E; intro g7 u E0 hb0; have E := Lib.hid E0; clear E0 hb0) | ((with_reducible refine kn_box (o := ⟨some 7, _, _, _, _, _⟩) E.out rfl rfl rfl ?_); clear E; intro g7 u E0 hb0; have E := Lib.hid E0; clear E0 hb0) | ((with_reducible refine kn_box_int (o := ⟨some 7, _, _, _, _, _⟩) E.out rfl rfl rfl ?_); clear E; intro g7 u E0 hb0; have E := Lib.hid E0; clear E0 hb0) | ((with_reducible refine kn_box_slice (o := ⟨some 7, _, _, _, _, _⟩) E.out rfl rfl rfl ?_); clear E; intro g7 u E0 hb0; have E := Lib.hid E0; clear E0 hb0) | ((with_reducible refine kn_box_bool (o := ⟨some 7, _, _, _, _, _⟩) E.out rfl rfl rfl ?_); clear E; intro g7 u E0 hb0; have E := Lib.hid E0; clear E0 hb0) | ((with_reducible refine kn_box_func (o := ⟨some 7, _, _, _, _, _⟩) E.out rfl rfl rfl ?_); clear E; intro g7 u E0 hb0; have E := Lib.hid E0; clear E0 hb0) | ((with_reducible refine kn_alloc E.out rfl rfl ?_); clear E; intro g u E0 hb0; have E := Lib.hid E0; clear E0 hb0) | ((with_reducible refine kn_box E.out rfl rfl rfl ?_); clear E; intro g u E0 hb0; have E := Lib.hid E0; clear E0 hb0) | ((with_reducible refine kn_box_int E.out rfl rfl rfl ?_); clear E; intro g u E0 hb0; have E := Lib.hid E0; clear E0 hb0) | ((with_reducible refine kn_box_slice E.out rfl rfl rfl ?_); clear E; intro g u E0 hb0; have E := Lib.hid E0; clear E0 hb0) | ((with_reducible refine kn_box_bool E.out rfl rfl rfl ?_); clear E; intro g u E0 hb0; have E := Lib.hid E0; clear E0 hb0) | ((with_reducible refine kn_box_func E.out rfl rfl rfl ?_); clear E; intro g u E0 hb0; have E := Lib.hid E0; clear E0 hb0)
    | go_in)
  go_end0
  go_wp2_with (first
    | (go_at_call 67; first
        | (refine (hL1.out _ (E.out.bs (by simp))).mono ?_; clear hL1; rintro e w1 ⟨A1, n1, c1, rfl, hI, hb⟩; have E1 := Lib.hid (E.out.later hb); clear hb E; have E := E1; clear E1; obtain rfl : n1 = 2 := hI.length.symm)
        | (refine (hL2.out _ (E.out.bs (by simp))).mono ?_; clear hL2; rintro e w2 ⟨A2, n2, c2, rfl, hI, hb⟩; have E1 := Lib.hid (E.out.later hb); clear hb E; have E := E1; clear E1; obtain rfl : n2 = 16 := by have := hI.length; omega))
    | ((with_reducible refine kn_copy E.out rfl rfl Try.underlying75 hsz rfl rfl hI (by omega) ?_ ?_); (focus (first | rfl | (simp only [i64s_length]; first | rfl | assumption | omega))); clear E hI; intro u E0; have E := Lib.hid E0; clear E0)
    | ((with_reducible refine kn_load E.out rfl rfl rfl rfl ?_)) | ((with_reducible refine kn_load_if E.out rfl rfl rfl rfl ?_)) | ((with_reducible refine kn_loads E.out rfl rfl rfl ?_ ?_); (focus (first | rfl | (simp only [i64s_length, u8s_length]; first | rfl | assumption | omega)))) | ((with_reducible refine kn_loads_if E.out rfl rfl rfl ?_ ?_); (focus (first | rfl | (simp only [i64s_length, u8s_length]; first | rfl | assumption | omega)))) | ((with_reducible refine kn_store1_int E.out rfl rfl rfl rfl rfl ?_); clear E; intro u E0; have E := Lib.hid E0; clear E0) | ((with_reducible refine kn_store1_slice E.out rfl rfl rfl rfl rfl ?_); clear E; intro u E0; have E := Lib.hid E0; clear E0) | ((with_reducible refine kn_store1_bool E.out rfl rfl rfl rfl rfl ?_); clear E; intro u E0; have E := Lib.hid E0; clear E0) | ((with_reducible refine kn_stores E.out rfl rfl rfl rfl rfl ?_ ?_ ?_); (focus (first | exact ⟨rfl, rfl⟩ | (simp only [i64s_length, u8s_length]; refine ⟨?_, ?_⟩ <;> first | rfl | assumption | omega))); (focus (first | exact i64s_one _ | exact u8s_one _ | simp [Value.oneCell'])); clear E; intro u E0; have E := Lib.hid E0; clear E0) | ((with_reducible refine kn_alloc (o := ⟨some 4, _, _, _, _, _⟩) E.out rfl rfl ?_); clear E; intro g4 u E0 hb0; have E := Lib.hid E0; clear E0 hb0) | ((with_reducible refine kn_box (o := ⟨some 4, _, _, _, _, _⟩) E.out rfl rfl rfl ?_); clear E; intro g4 u E0 hb0; have E := Lib.hid E0; clear E0 hb0) | ((with_reducible refine kn_box_int (o := ⟨some 4, _, _, _, _, _⟩) E.out rfl rfl rfl ?_); clear E; intro g4 u E0 hb0; have E := Lib.hid E0; clear E0 hb0) | ((with_reducible refine kn_box_slice (o := ⟨some 4, _, _, _, _, _⟩) E.out rfl rfl rfl ?_); clear E; intro g4 u E0 hb0; have E := Lib.hid E0; clear E0 hb0) | ((with_reducible refine kn_box_bool (o := ⟨some 4, _, _, _, _, _⟩) E.out rfl rfl rfl ?_); clear E; intro g4 u E0 hb0; have E := Lib.hid E0; clear E0 hb0) | ((with_reducible refine kn_box_func (o := ⟨some 4, _, _, _, _, _⟩) E.out rfl rfl rfl ?_); clear E; intro g4 u E0 hb0; have E := Lib.hid E0; clear E0 hb0) | ((with_reducible refine kn_alloc (o := ⟨some 6, _, _, _, _, _⟩) E.out rfl rfl ?_); clear E; intro g6 u E0 hb0; have E := Lib.hid E0; clear E0 hb0) | ((with_reducible refine kn_box (o := ⟨some 6, _, _, _, _, _⟩) E.out rfl rfl rfl ?_); clear E; intro g6 u E0 hb0; have E := Lib.hid E0; clear E0 hb0) | ((with_reducible refine kn_box_int (o := ⟨some 6, _, _, _, _, _⟩) E.out rfl rfl rfl ?_); clear E; intro g6 u E0 hb0; have E := Lib.hid E0; clear E0 hb0) | ((with_reducible refine kn_box_slice (o := ⟨some 6, _, _, _, _, _⟩) E.out rfl rfl rfl ?_); clear E; intro g6 u E0 hb0; have E := Lib.hid E0; clear E0 hb0) | ((with_reducible refine kn_box_bool (o := ⟨some 6, _, _, _, _, _⟩) E.out rfl rfl rfl ?_); clear E; intro g6 u E0 hb0; have E := Lib.hid E0; clear E0 hb0) | ((with_reducible refine kn_box_func (o := ⟨some 6, _, _, _, _, _⟩) E.out rfl rfl rfl ?_); clear E; intro g6 u E0 hb0; have E := Lib.hid E0; clear E0 hb0) | ((with_reducible refine kn_alloc (o := ⟨some 7, _, _, _, _, _⟩) E.out rfl rfl ?_); clear E; intro g7 u E0 hb0; have E := Lib.hid E0; clear E0 hb0) | ((with_reducible refine kn_box (o := ⟨some 7, _, _, _, _, _⟩) E.out rfl rfl rfl ?_); clear E; intro g7 u E0 hb0; have E := Lib.hid E0; clear E0 hb0) | ((with_reducible refine kn_box_int (o := ⟨some 7, _, _, _, _, _⟩) E.out rfl rfl rfl ?_); clear E; intro g7 u E0 hb0; have E := Lib.hid E0; clear E0 hb0) | ((with_reducible refine kn_box_slice (o := ⟨some 7, _, _, _, _, _⟩) E.out rfl rfl rfl ?_); clear E; intro g7 u E0 hb0; have E := Lib.hid E0; clear E0 hb0) | ((with_reducible refine kn_box_bool (o := ⟨some 7, _, _, _, _, _⟩) E.out rfl rfl rfl ?_); clear E; intro g7 u E0 hb0; have E := Lib.hid E0; clear E0 hb0) | ((with_reducible refine kn_box_func (o := ⟨some 7, _, _, _, _, _⟩) E.out rfl rfl rfl ?_); clear E; intro g7 u E0 hb0; have E := Lib.hid E0; clear E0 hb0) | ((with_reducible refine kn_alloc E.out rfl rfl ?_); clear E; intro g u E0 hb0; have E := Lib.hid E0; clear E0 hb0) | ((with_reducible refine kn_box E.out rfl rfl rfl ?_); clear E; intro g u E0 hb0; have E := Lib.hid E0; clear E0 hb0) | ((with_reducible refine kn_box_int E.out rfl rfl rfl ?_); clear E; intro g u E0 hb0; have E := Lib.hid E0; clear E0 hb0) | ((with_reducible refine kn_box_slice E.out rfl rfl rfl ?_); clear E; intro g u E0 hb0; have E := Lib.hid E0; clear E0 hb0) | ((with_reducible refine kn_box_bool E.out rfl rfl rfl ?_); clear E; intro g u E0 hb0; have E := Lib.hid E0; clear E0 hb0) | ((with_reducible refine kn_box_func E.out rfl rfl rfl ?_); clear E; intro g u E0 hb0; have E := Lib.hid E0; clear E0 hb0)
    | go_in)
  go_end0
  go_wp2_with fail
  refine wp_region_held_drew (S := Kn w [.row g7 51 (i64s zw), .row g6 43 (i64s [pa, pb])] [bsF A 8 xs]) (by kernel_rfl) (E.out.drew.part _ _ (by repeat (first | exact List.Sublist.refl _ | apply List.Sublist.cons_cons | apply List.Sublist.cons)) (by simp)) (fun kS => ?_)
  have E1 := Lib.hid E.out.drew
  generalize World.drew _ = u1 at kS E1 ⊢
  clear E
  have E := E1
  clear E1
  (refine takeL (i := 0) (v := _) rfl (by kernel_rfl) (by kernel_rfl) (by kernel_rfl) (fun _ _ _ h => h) (by first | exact Or.inl ⟨by rfl, (by intro u hSu; clear hSu; go_simp; try with_reducible rfl)⟩ | exact Or.inr ⟨by rfl, rfl⟩) kS ?_; (try simp only [Act.put, List.setIfInBounds_toArray, List.set_cons_zero, List.set_cons_succ]))
  (refine takeL (i := 1) (v := _) rfl (by kernel_rfl) (by kernel_rfl) (by kernel_rfl) (fun _ _ _ h => h) (by first | exact yield_load rfl rfl rfl rfl | exact yield_loads rfl rfl rfl rfl | exact yield_loads rfl rfl rfl (by simp only [i64s_length, u8s_length]; first | assumption | omega) | exact yield_loadi rfl rfl rfl (by first | assumption | omega) | exact yield_loadp rfl rfl rfl (by first | assumption | omega)) kS ?_; (try simp only [Act.put, List.setIfInBounds_toArray, List.set_cons_zero, List.set_cons_succ]))
  (refine takeL (i := 2) (v := _) rfl (by kernel_rfl) (by kernel_rfl) (by kernel_rfl) (fun _ _ _ h => h) (by first | exact Or.inl ⟨by rfl, (by intro u hSu; clear hSu; go_simp; try with_reducible rfl)⟩ | exact Or.inr ⟨by rfl, rfl⟩) kS ?_; (try simp only [Act.put, List.setIfInBounds_toArray, List.set_cons_zero, List.set_cons_succ]))
  (refine takeL (i := 3) (v := _) rfl (by kernel_rfl) (by kernel_rfl) (by kernel_rfl) (fun _ _ _ h => h) (by first | exact yield_load rfl rfl rfl rfl | exact yield_loads rfl rfl rfl rfl | exact yield_loads rfl rfl rfl (by simp only [i64s_length, u8s_length]; first | assumption | omega) | exact yield_loadi rfl rfl rfl (by first | assumption | omega) | exact yield_loadp rfl rfl rfl (by first | assumption | omega)) kS ?_; (try simp only [Act.put, List.setIfInBounds_toArray, List.set_cons_zero, List.set_cons_succ])); (refine takeL (i := 4) (v := _) rfl (by kernel_rfl) (by kernel_rfl) (by kernel_rfl) (fun _ _ _ h => h) (by first | exact yield_load rfl rfl rfl rfl | exact yield_loads rfl rfl rfl rfl | exact yield_loads rfl rfl rfl (by simp only [i64s_length, u8s_length]; first | assumption | omega) | exact yield_loadi rfl rfl rfl (by first | assumption | omega) | exact yield_loadp rfl rfl rfl (by first | assumption | omega)) kS ?_; (try simp only [Act.put, List.setIfInBounds_toArray, List.set_cons_zero, List.set_cons_succ]))
  (refine takeL (i := 5) (v := _) rfl (by kernel_rfl) (by kernel_rfl) (by kernel_rfl) (fun _ _ _ h => h) (by first | exact Or.inl ⟨by rfl, (by intro u hSu; clear hSu; go_simp; try with_reducible rfl)⟩ | exact Or.inr ⟨by rfl, rfl⟩) kS ?_; (try simp only [Act.put, List.setIfInBounds_toArray, List.set_cons_zero, List.set_cons_succ])); (refine takeL (i := 6) (v := _) rfl (by kernel_rfl) (by kernel_rfl) (by kernel_rfl) (fun _ _ _ h => h) (by first | exact Or.inl ⟨by rfl, (by intro u hSu; clear hSu; go_simp; try with_reducible rfl)⟩ | exact Or.inr ⟨by rfl, rfl⟩) kS ?_; (try simp only [Act.put, List.setIfInBounds_toArray, List.set_cons_zero, List.set_cons_succ]))
  refine callL (i := 7) rfl (by kernel_rfl) (fun K hK => ?_)
  (rw [if_pos (by rfl)]; refine wp_kn_stores (vs := i64s zw) E.out rfl rfl rfl rfl ⟨by rfl, by rw [i64s_length]; exact hw⟩ (i64s_one _) ?_; clear E kS; intro u E0; have E := Lib.hid E0; clear E0; (refine hK.out _ _ (E.out.part _ _ (by repeat (first | exact List.Sublist.refl _ | apply List.Sublist.cons_cons | apply List.Sublist.cons)) (by simp)) (fun kS => ?_); clear hK K; (try simp only [Act.put, List.setIfInBounds_toArray, List.set_cons_zero, List.set_cons_succ])))
  (refine takeL (i := 8) (v := _) rfl (by kernel_rfl) (by kernel_rfl) (by kernel_rfl) (fun _ _ _ h => h) (by first | exact Or.inl ⟨by rfl, (by intro u hSu; clear hSu; go_simp; try with_reducible rfl)⟩ | exact Or.inr ⟨by rfl, rfl⟩) kS ?_; (try simp only [Act.put, List.setIfInBounds_toArray, List.set_cons_zero, List.set_cons_succ]))
  refine wpAnyH_done (by kernel_rfl) ?_ _
  go_wp2_with fail
  refine bodyPost_ret (results_kn4 E.out rfl _ rfl (by rw [i64s_length]; exact hw)) rfl ?_
  exact ⟨rfl, E.out.bel⟩

set_option maxHeartbeats 1000000 in
theorem field_ok (A : Option Addr) (n c : Nat) (P : Int) (p m : Nat) (hP : P = (p : Int)) (xs : List Nat) (w : World) (h : Bs w w.heap.size A n xs) (hn : n ≤ 140737488355328) (hm : m ≤ 16) (hp : p + m ≤ 8 * n) :
    Calls Try.prog 50 #[.slice A n c, .int .i64 P, .int .i64 (m : Int)] w fun e w' => e = .returned (.int .i64 ((getN xs false p m : Nat) : Int)) ∧ w = w' := by
  have hg := Lib.hid (rget_at A n c P p m hP xs _ w h hn (by omega) hp)
  have hl : getN xs false p m < 65536 := getN_lt xs false p m 16 hm
  clear hP h hp
  generalize getN xs false p m = N at *
  go_enter Try.func50, Try.ntmps50
  go_wp2_with (go_at_call 68; refine hg.out.mono ?_; rintro e w1 ⟨rfl, rfl⟩)
  go_ret
  exact ⟨rfl, rfl⟩

set_option maxHeartbeats 2000000 in
set_option maxRecDepth 100000 in
theorem rparts_no (A : Option Addr) (n c : Nat) (w : World) (hn : n ≠ 8) (_ : n ≤ 9223372036854775807) :
    Calls Try.prog 28 #[.slice A n c] w fun e w' => e = .returned (.tuple #[.int .i64 0, .int .i64 0, arr z16, .int .i64 1]) ∧ Below w.heap.size w w' := by
  have E := Lib.hid (Kn.start w)
  have hn' : ¬ (n : Int) = 8 := by omega
  go_enter Try.func28, Try.ntmps28
  go_wp2_with (first | ((with_reducible refine kn_load E.out rfl rfl rfl rfl ?_)) | ((with_reducible refine kn_load_if E.out rfl rfl rfl rfl ?_)) | ((with_reducible refine kn_loads E.out rfl rfl rfl ?_ ?_); (focus (first | rfl | (simp only [i64s_length, u8s_length]; first | rfl | assumption | omega)))) | ((with_reducible refine kn_loads_if E.out rfl rfl rfl ?_ ?_); (focus (first | rfl | (simp only [i64s_length, u8s_length]; first | rfl | assumption | omega)))) | ((with_reducible refine kn_store1_int E.out rfl rfl rfl rfl rfl ?_); clear E; intro u E0; have E := Lib.hid E0; clear E0) | ((with_reducible refine kn_store1_slice E.out rfl rfl rfl rfl rfl ?_); clear E; intro u E0; have E := Lib.hid E0; clear E0) | ((with_reducible refine kn_store1_bool E.out rfl rfl rfl rfl rfl ?_); clear E; intro u E0; have E := Lib.hid E0; clear E0) | ((with_reducible refine kn_stores E.out rfl rfl rfl rfl rfl ?_ ?_ ?_); (focus (first | exact ⟨rfl, rfl⟩ | (simp only [i64s_length, u8s_length]; refine ⟨?_, ?_⟩ <;> first | rfl | assumption | omega))); (focus (first | exact i64s_one _ | exact u8s_one _ | simp [Value.oneCell'])); clear E; intro u E0; have E := Lib.hid E0; clear E0) | ((with_reducible refine kn_alloc (o := ⟨some 4, _, _, _, _, _⟩) E.out rfl rfl ?_); clear E; intro g4 u E0 hb0; have E := Lib.hid E0; clear E0 hb0) | ((with_reducible refine kn_box (o := ⟨some 4, _, _, _, _, _⟩) E.out rfl rfl rfl ?_); clear E; intro g4 u E0 hb0; have E := Lib.hid E0; clear E0 hb0) | ((with_reducible refine kn_box_int (o := ⟨some 4, _, _, _, _, _⟩) E.out rfl rfl rfl ?_); clear E; intro g4 u E0 hb0; have E := Lib.hid E0; clear E0 hb0) | ((with_reducible refine kn_box_slice (o := ⟨some 4, _, _, _, _, _⟩) E.out rfl rfl rfl ?_); clear E; intro g4 u E0 hb0; have E := Lib.hid E0; clear E0 hb0) | ((with_reducible refine kn_box_bool (o := ⟨some 4, _, _, _, _, _⟩) E.out rfl rfl rfl ?_); clear E; intro g4 u E0 hb0; have E := Lib.hid E0; clear E0 hb0) | ((with_reducible refine kn_box_func (o := ⟨some 4, _, _, _, _, _⟩) E.out rfl rfl rfl ?_); clear E; intro g4 u E0 hb0; have E := Lib.hid E0; clear E0 hb0) | ((with_reducible refine kn_alloc (o := ⟨some 6, _, _, _, _, _⟩) E.out rfl rfl ?_); clear E; intro g6 u E0 hb0; have E := Lib.hid E0; clear E0 hb0) | ((with_reducible refine kn_box (o := ⟨some 6, _, _, _, _, _⟩) E.out rfl rfl rfl ?_); clear E; intro g6 u E0 hb0; have E := Lib.hid E0; clear E0 hb0) | ((with_reducible refine kn_box_int (o := ⟨some 6, _, _, _, _, _⟩) E.out rfl rfl rfl ?_); clear E; intro g6 u E0 hb0; have E := Lib.hid E0; clear E0 hb0) | ((with_reducible refine kn_box_slice (o := ⟨some 6, _, _, _, _, _⟩) E.out rfl rfl rfl ?_); clear E; intro g6 u E0 hb0; have E := Lib.hid E0; clear E0 hb0) | ((with_reducible refine kn_box_bool (o := ⟨some 6, _, _, _, _, _⟩) E.out rfl rfl rfl ?_); clear E; intro g6 u E0 hb0; have E := Lib.hid E0; clear E0 hb0) | ((with_reducible refine kn_box_func (o := ⟨some 6, _, _, _, _, _⟩) E.out rfl rfl rfl ?_); clear E; intro g6 u E0 hb0; have E := Lib.hid E0; clear E0 hb0) | ((with_reducible refine kn_alloc E.out rfl rfl ?_); clear E; intro g u E0 hb0; have E := Lib.hid E0; clear E0 hb0) | ((with_reducible refine kn_box E.out rfl rfl rfl ?_); clear E; intro g u E0 hb0; have E := Lib.hid E0; clear E0 hb0) | ((with_reducible refine kn_box_int E.out rfl rfl rfl ?_); clear E; intro g u E0 hb0; have E := Lib.hid E0; clear E0 hb0) | ((with_reducible refine kn_box_slice E.out rfl rfl rfl ?_); clear E; intro g u E0 hb0; have E := Lib.hid E0; clear E0 hb0) | ((with_reducible refine kn_box_bool E.out rfl rfl rfl ?_); clear E; intro g u E0 hb0; have E := Lib.hid E0; clear E0 hb0) | ((with_reducible refine kn_box_func E.out rfl rfl rfl ?_); clear E; intro g u E0 hb0; have E := Lib.hid E0; clear E0 hb0))
  refine wp_region_held_drew (S := Kn w [.row g6 51 (i64s z16)] []) (by kernel_rfl) (E.out.drew.part _ _ (by repeat (first | exact List.Sublist.refl _ | apply List.Sublist.cons_cons | apply List.Sublist.cons)) (by simp)) (fun kS => ?_)
  have E1 := Lib.hid E.out.drew
  generalize World.drew _ = u1 at kS E1 ⊢
  clear E
  have E := E1
  clear E1
  (refine takeL (i := 0) (v := _) rfl (by kernel_rfl) (by kernel_rfl) (by kernel_rfl) (fun _ _ _ h => h) (by first | exact yield_load rfl rfl rfl rfl | exact yield_loads rfl rfl rfl rfl | exact yield_loads rfl rfl rfl (by simp only [i64s_length, u8s_length]; first | assumption | omega) | exact yield_loadi rfl rfl rfl (by first | assumption | omega) | exact yield_loadp rfl rfl rfl (by first | assumption | omega)) kS ?_; (try simp only [Act.put, List.setIfInBounds_toArray, List.set_cons_zero, List.set_cons_succ]))
  (refine takeL (i := 1) (v := _) rfl (by kernel_rfl) (by kernel_rfl) (by kernel_rfl) (fun _ _ _ h => h) (by first | exact Or.inl ⟨by rfl, (by intro u hSu; clear hSu; go_simp; try with_reducible rfl)⟩ | exact Or.inr ⟨by rfl, rfl⟩) kS ?_; (try simp only [Act.put, List.setIfInBounds_toArray, List.set_cons_zero, List.set_cons_succ])); (refine takeL (i := 2) (v := _) rfl (by kernel_rfl) (by kernel_rfl) (by kernel_rfl) (fun _ _ _ h => h) (by first | exact Or.inl ⟨by rfl, (by intro u hSu; clear hSu; go_simp; try with_reducible rfl)⟩ | exact Or.inr ⟨by rfl, rfl⟩) kS ?_; (try simp only [Act.put, List.setIfInBounds_toArray, List.set_cons_zero, List.set_cons_succ]))
  refine callL (i := 3) rfl (by kernel_rfl) (fun K hK => ?_)
  (rw [if_pos (by rfl)]; refine wp_kn_stores (vs := i64s z16) E.out rfl rfl rfl rfl ⟨by rfl, by rfl⟩ (i64s_one _) ?_; clear E kS; intro u E0; have E := Lib.hid E0; clear E0; (refine hK.out _ _ (E.out.part _ _ (by repeat (first | exact List.Sublist.refl _ | apply List.Sublist.cons_cons | apply List.Sublist.cons)) (by simp)) (fun kS => ?_); clear hK K; (try simp only [Act.put, List.setIfInBounds_toArray, List.set_cons_zero, List.set_cons_succ])))
  (refine takeL (i := 4) (v := _) rfl (by kernel_rfl) (by kernel_rfl) (by kernel_rfl) (fun _ _ _ h => h) (by first | exact Or.inl ⟨by rfl, (by intro u hSu; clear hSu; go_simp; try with_reducible rfl)⟩ | exact Or.inr ⟨by rfl, rfl⟩) kS ?_; (try simp only [Act.put, List.setIfInBounds_toArray, List.set_cons_zero, List.set_cons_succ]))
  refine wpAnyH_done (by kernel_rfl) ?_ _
  go_wp2_with fail
  refine bodyPost_ret (results_kn4 E.out rfl _ rfl (by rfl)) rfl ?_
  exact ⟨rfl, E.out.bel⟩

set_option maxHeartbeats 4000000 in
set_option maxRecDepth 100000 in
theorem rparts_ok (A : Option Addr) (c : Nat) (xs : List Nat) (w : World) (h : Bs w w.heap.size A 8 xs) :
    Calls Try.prog 28 #[.slice A 8 c] w fun e w' => e = .returned (.tuple #[.int .i64 (paA xs), .int .i64 (paB xs), arr (paW xs), .int .i64 0]) ∧ Below w.heap.size w w' := by
  have E := Lib.hid ((Kn.start w).arg_bs h)
  have hFa := Lib.hid (fun (u : World) (hu : Bs u u.heap.size A 8 xs) => show Calls Try.prog 50 #[.slice A 8 c, .int .i64 0, .int .i64 16] u (fun e w' => e = .returned (.int .i64 (paA xs)) ∧ u = w') from field_ok A 8 c 0 0 16 rfl xs u hu (by omega) (by omega) (by omega))
  have hFb := Lib.hid (fun (u : World) (hu : Bs u u.heap.size A 8 xs) => show Calls Try.prog 50 #[.slice A 8 c, .int .i64 16, .int .i64 16] u (fun e w' => e = .returned (.int .i64 (paB xs)) ∧ u = w') from field_ok A 8 c 16 16 16 rfl xs u hu (by omega) (by omega) (by omega))
  have HF := Lib.hid (fun (k : Nat) (hk : k < 16) (P : Int) (hP : P = ((32 + k * 2 : Nat) : Int)) (u : World) (hu : Bs u u.heap.size A 8 xs) => show Calls Try.prog 50 #[.slice A 8 c, .int .i64 P, .int .i64 2] u (fun e w' => e = .returned (.int .i64 ((getN xs false (32 + k * 2) 2 : Nat) : Int)) ∧ u = w') from field_ok A 8 c P (32 + k * 2) 2 hP xs u hu (by omega) (by omega) (by omega))
  have H0 := Lib.hid (show lowsP xs 32 2 16 0 = z16 from lowsP_zero xs 32 2 16)
  have HS := Lib.hid (lowsP_set xs 32 2 16)
  have HL := Lib.hid (lowsP_length xs 32 2 16)
  have hw := paW_length xs
  have H16 : lowsP xs 32 2 16 16 = paW xs := lowsP_full xs 32 2 16
  rw [← H16] at hw ⊢
  clear h H16
  generalize lowsP xs 32 2 16 = lp at *
  generalize paA xs = pa at *
  generalize paB xs = pb at *
  go_enter Try.func28, Try.ntmps28
  go_wp2_with (first | ((with_reducible refine kn_load E.out rfl rfl rfl rfl ?_)) | ((with_reducible refine kn_load_if E.out rfl rfl rfl rfl ?_)) | ((with_reducible refine kn_loads E.out rfl rfl rfl ?_ ?_); (focus (first | rfl | (simp only [i64s_length, u8s_length]; first | rfl | assumption | omega)))) | ((with_reducible refine kn_loads_if E.out rfl rfl rfl ?_ ?_); (focus (first | rfl | (simp only [i64s_length, u8s_length]; first | rfl | assumption | omega)))) | ((with_reducible refine kn_store1_int E.out rfl rfl rfl rfl rfl ?_); clear E; intro u E0; have E := Lib.hid E0; clear E0) | ((with_reducible refine kn_store1_slice E.out rfl rfl rfl rfl rfl ?_); clear E; intro u E0; have E := Lib.hid E0; clear E0) | ((with_reducible refine kn_store1_bool E.out rfl rfl rfl rfl rfl ?_); clear E; intro u E0; have E := Lib.hid E0; clear E0) | ((with_reducible refine kn_stores E.out rfl rfl rfl rfl rfl ?_ ?_ ?_); (focus (first | exact ⟨rfl, rfl⟩ | (simp only [i64s_length, u8s_length]; refine ⟨?_, ?_⟩ <;> first | rfl | assumption | omega))); (focus (first | exact i64s_one _ | exact u8s_one _ | simp [Value.oneCell'])); clear E; intro u E0; have E := Lib.hid E0; clear E0) | ((with_reducible refine kn_alloc (o := ⟨some 4, _, _, _, _, _⟩) E.out rfl rfl ?_); clear E; intro g4 u E0 hb0; have E := Lib.hid E0; clear E0 hb0) | ((with_reducible refine kn_box (o := ⟨some 4, _, _, _, _, _⟩) E.out rfl rfl rfl ?_); clear E; intro g4 u E0 hb0; have E := Lib.hid E0; clear E0 hb0) | ((with_reducible refine kn_box_int (o := ⟨some 4, _, _, _, _, _⟩) E.out rfl rfl rfl ?_); clear E; intro g4 u E0 hb0; have E := Lib.hid E0; clear E0 hb0) | ((with_reducible refine kn_box_slice (o := ⟨some 4, _, _, _, _, _⟩) E.out rfl rfl rfl ?_); clear E; intro g4 u E0 hb0; have E := Lib.hid E0; clear E0 hb0) | ((with_reducible refine kn_box_bool (o := ⟨some 4, _, _, _, _, _⟩) E.out rfl rfl rfl ?_); clear E; intro g4 u E0 hb0; have E := Lib.hid E0; clear E0 hb0) | ((with_reducible refine kn_box_func (o := ⟨some 4, _, _, _, _, _⟩) E.out rfl rfl rfl ?_); clear E; intro g4 u E0 hb0; have E := Lib.hid E0; clear E0 hb0) | ((with_reducible refine kn_alloc (o := ⟨some 6, _, _, _, _, _⟩) E.out rfl rfl ?_); clear E; intro g6 u E0 hb0; have E := Lib.hid E0; clear E0 hb0) | ((with_reducible refine kn_box (o := ⟨some 6, _, _, _, _, _⟩) E.out rfl rfl rfl ?_); clear E; intro g6 u E0 hb0; have E := Lib.hid E0; clear E0 hb0) | ((with_reducible refine kn_box_int (o := ⟨some 6, _, _, _, _, _⟩) E.out rfl rfl rfl ?_); clear E; intro g6 u E0 hb0; have E := Lib.hid E0; clear E0 hb0) | ((with_reducible refine kn_box_slice (o := ⟨some 6, _, _, _, _, _⟩) E.out rfl rfl rfl ?_); clear E; intro g6 u E0 hb0; have E := Lib.hid E0; clear E0 hb0) | ((with_reducible refine kn_box_bool (o := ⟨some 6, _, _, _, _, _⟩) E.out rfl rfl rfl ?_); clear E; intro g6 u E0 hb0; have E := Lib.hid E0; clear E0 hb0) | ((with_reducible refine kn_box_func (o := ⟨some 6, _, _, _, _, _⟩) E.out rfl rfl rfl ?_); clear E; intro g6 u E0 hb0; have E := Lib.hid E0; clear E0 hb0) | ((with_reducible refine kn_alloc E.out rfl rfl ?_); clear E; intro g u E0 hb0; have E := Lib.hid E0; clear E0 hb0) | ((with_reducible refine kn_box E.out rfl rfl rfl ?_); clear E; intro g u E0 hb0; have E := Lib.hid E0; clear E0 hb0) | ((with_reducible refine kn_box_int E.out rfl rfl rfl ?_); clear E; intro g u E0 hb0; have E := Lib.hid E0; clear E0 hb0) | ((with_reducible refine kn_box_slice E.out rfl rfl rfl ?_); clear E; intro g u E0 hb0; have E := Lib.hid E0; clear E0 hb0) | ((with_reducible refine kn_box_bool E.out rfl rfl rfl ?_); clear E; intro g u E0 hb0; have E := Lib.hid E0; clear E0 hb0) | ((with_reducible refine kn_box_func E.out rfl rfl rfl ?_); clear E; intro g u E0 hb0; have E := Lib.hid E0; clear E0 hb0))
  go_loopw [7] (fun i wr => ∃ k : Nat, k ≤ 16 ∧ i = .int .i64 k ∧ Hid (Kn w [.row g6 51 (i64s (lp k)), .row g4 51 (i64s z16)] [bsF A 8 xs] wr)) (fun i _ => 16 - (intOf i).toNat)
  case atStart => exact ⟨0, by omega, rfl, by rw [H0.out]; exact E⟩
  case round =>
    clear E
    obtain ⟨k, hk, rfl, E⟩ := hrel
    have hl := HL.out k
    by_cases hlt : k < 16
    · have hS := Lib.hid (HS.out k)
      have hF := Lib.hid (HF.out k hlt)
      clear HS HF HL H0 hFa hFb hw
      generalize getN xs false (32 + k * 2) 2 = N at *
      go_wp2_with (first
        | (go_at_call 50; refine (hF.out _ (by omega) _ (E.out.bs (by simp))).mono ?_; rintro e w1 ⟨rfl, rfl⟩)
        | ((with_reducible refine kn_storei E.out rfl rfl rfl rfl rfl (by omega) ?_); clear E; intro u E0; have E := Lib.hid E0; clear E0)
        | ((with_reducible refine kn_load E.out rfl rfl rfl rfl ?_)) | ((with_reducible refine kn_load_if E.out rfl rfl rfl rfl ?_)) | ((with_reducible refine kn_loads E.out rfl rfl rfl ?_ ?_); (focus (first | rfl | (simp only [i64s_length, u8s_length]; first | rfl | assumption | omega)))) | ((with_reducible refine kn_loads_if E.out rfl rfl rfl ?_ ?_); (focus (first | rfl | (simp only [i64s_length, u8s_length]; first | rfl | assumption | omega)))) | ((with_reducible refine kn_store1_int E.out rfl rfl rfl rfl rfl ?_); clear E; intro u E0; have E := Lib.hid E0; clear E0) | ((with_reducible refine kn_store1_slice E.out rfl rfl rfl rfl rfl ?_); clear E; intro u E0; have E := Lib.hid E0; clear E0) | ((with_reducible refine kn_store1_bool E.out rfl rfl rfl rfl rfl ?_); clear E; intro u E0; have E := Lib.hid E0; clear E0) | ((with_reducible refine kn_stores E.out rfl rfl rfl rfl rfl ?_ ?_ ?_); (focus (first | exact ⟨rfl, rfl⟩ | (simp only [i64s_length, u8s_length]; refine ⟨?_, ?_⟩ <;> first | rfl | assumption | omega))); (focus (first | exact i64s_one _ | exact u8s_one _ | simp [Value.oneCell'])); clear E; intro u E0; have E := Lib.hid E0; clear E0) | ((with_reducible refine kn_alloc E.out rfl rfl ?_); clear E; intro g u E0 hb0; have E := Lib.hid E0; clear E0 hb0) | ((with_reducible refine kn_box E.out rfl rfl rfl ?_); clear E; intro g u E0 hb0; have E := Lib.hid E0; clear E0 hb0) | ((with_reducible refine kn_box_int E.out rfl rfl rfl ?_); clear E; intro g u E0 hb0; have E := Lib.hid E0; clear E0 hb0) | ((with_reducible refine kn_box_slice E.out rfl rfl rfl ?_); clear E; intro g u E0 hb0; have E := Lib.hid E0; clear E0 hb0) | ((with_reducible refine kn_box_bool E.out rfl rfl rfl ?_); clear E; intro g u E0 hb0; have E := Lib.hid E0; clear E0 hb0) | ((with_reducible refine kn_box_func E.out rfl rfl rfl ?_); clear E; intro g u E0 hb0; have E := Lib.hid E0; clear E0 hb0))
      go_roundw
      case rel => exact ⟨k + 1, by omega, by go_num, by rw [← hS.out]; exact E⟩
      case measure => simp [intOf]; omega
    · obtain rfl : k = 16 := by omega
      clear HS HF HL H0 hlt
      obtain ⟨zw, hzw⟩ : ∃ z, z = lp 16 := ⟨_, rfl⟩
      rw [← hzw] at E hw hl
      have HZ := Lib.hid hzw
      clear hzw
      go_wp2_with (first | ((with_reducible refine kn_load E.out rfl rfl rfl rfl ?_)) | ((with_reducible refine kn_load_if E.out rfl rfl rfl rfl ?_)) | ((with_reducible refine kn_loads E.out rfl rfl rfl ?_ ?_); (focus (first | rfl | (simp only [i64s_length, u8s_length]; first | rfl | assumption | omega)))) | ((with_reducible refine kn_loads_if E.out rfl rfl rfl ?_ ?_); (focus (first | rfl | (simp only [i64s_length, u8s_length]; first | rfl | assumption | omega)))) | ((with_reducible refine kn_store1_int E.out rfl rfl rfl rfl rfl ?_); clear E; intro u E0; have E := Lib.hid E0; clear E0) | ((with_reducible refine kn_store1_slice E.out rfl rfl rfl rfl rfl ?_); clear E; intro u E0; have E := Lib.hid E0; clear E0) | ((with_reducible refine kn_store1_bool E.out rfl rfl rfl rfl rfl ?_); clear E; intro u E0; have E := Lib.hid E0; clear E0) | ((with_reducible refine kn_stores E.out rfl rfl rfl rfl rfl ?_ ?_ ?_); (focus (first | exact ⟨rfl, rfl⟩ | (simp only [i64s_length, u8s_length]; refine ⟨?_, ?_⟩ <;> first | rfl | assumption | omega))); (focus (first | exact i64s_one _ | exact u8s_one _ | simp [Value.oneCell'])); clear E; intro u E0; have E := Lib.hid E0; clear E0) | ((with_reducible refine kn_alloc E.out rfl rfl ?_); clear E; intro g u E0 hb0; have E := Lib.hid E0; clear E0 hb0) | ((with_reducible refine kn_box E.out rfl rfl rfl ?_); clear E; intro g u E0 hb0; have E := Lib.hid E0; clear E0 hb0) | ((with_reducible refine kn_box_int E.out rfl rfl rfl ?_); clear E; intro g u E0 hb0; have E := Lib.hid E0; clear E0 hb0) | ((with_reducible refine kn_box_slice E.out rfl rfl rfl ?_); clear E; intro g u E0 hb0; have E := Lib.hid E0; clear E0 hb0) | ((with_reducible refine kn_box_bool E.out rfl rfl rfl ?_); clear E; intro g u E0 hb0; have E := Lib.hid E0; clear E0 hb0) | ((with_reducible refine kn_box_func E.out rfl rfl rfl ?_); clear E; intro g u E0 hb0; have E := Lib.hid E0; clear E0 hb0))
      refine wp_region_held_drew (S := Kn w [.row g6 51 (i64s zw)] [bsF A 8 xs]) (by kernel_rfl) (E.out.drew.part _ _ (by repeat (first | exact List.Sublist.refl _ | apply List.Sublist.cons_cons | apply List.Sublist.cons)) (by simp)) (fun kS => ?_)
      have E1 := Lib.hid E.out.drew
      generalize World.drew _ = u1 at kS E1 ⊢
      clear E
      have E := E1
      clear E1
      (refine takeL (i := 0) (v := _) rfl (by kernel_rfl) (by kernel_rfl) (by kernel_rfl) (fun _ _ _ h => h) (by first | exact Or.inl ⟨by rfl, (by intro u hSu; clear hSu; go_simp; try with_reducible rfl)⟩ | exact Or.inr ⟨by rfl, rfl⟩) kS ?_; (try simp only [Act.put, List.setIfInBounds_toArray, List.set_cons_zero, List.set_cons_succ])); (refine takeL (i := 2) (v := _) rfl (by kernel_rfl) (by kernel_rfl) (by kernel_rfl) (fun _ _ _ h => h) (by first | exact Or.inl ⟨by rfl, (by intro u hSu; clear hSu; go_simp; try with_reducible rfl)⟩ | exact Or.inr ⟨by rfl, rfl⟩) kS ?_; (try simp only [Act.put, List.setIfInBounds_toArray, List.set_cons_zero, List.set_cons_succ]))
      (refine takeL (i := 4) (v := _) rfl (by kernel_rfl) (by kernel_rfl) (by kernel_rfl) (fun _ _ _ h => h) (by first | exact yield_load rfl rfl rfl rfl | exact yield_loads rfl rfl rfl rfl | exact yield_loads rfl rfl rfl (by simp only [i64s_length, u8s_length]; first | assumption | omega) | exact yield_loadi rfl rfl rfl (by first | assumption | omega) | exact yield_loadp rfl rfl rfl (by first | assumption | omega)) kS ?_; (try simp only [Act.put, List.setIfInBounds_toArray, List.set_cons_zero, List.set_cons_succ]))
      refine callL (i := 1) rfl (by kernel_rfl) (fun K hK => ?_)
      (go_simp; refine (hFa.out _ (E.out.bs (by simp))).mono ?_; rintro e w1 ⟨rfl, rfl⟩; go_wp2_with fail; (refine hK.out _ _ (E.out.part _ _ (by repeat (first | exact List.Sublist.refl _ | apply List.Sublist.cons_cons | apply List.Sublist.cons)) (by simp)) (fun kS => ?_); clear hK K; (try simp only [Act.put, List.setIfInBounds_toArray, List.set_cons_zero, List.set_cons_succ])))
      refine callL (i := 3) rfl (by kernel_rfl) (fun K hK => ?_)
      (go_simp; refine (hFb.out _ (E.out.bs (by simp))).mono ?_; rintro e w1 ⟨rfl, rfl⟩; go_wp2_with fail; (refine hK.out _ _ (E.out.part _ _ (by repeat (first | exact List.Sublist.refl _ | apply List.Sublist.cons_cons | apply List.Sublist.cons)) (by simp)) (fun kS => ?_); clear hK K; (try simp only [Act.put, List.setIfInBounds_toArray, List.set_cons_zero, List.set_cons_succ])))
      (refine takeL (i := 5) (v := _) rfl (by kernel_rfl) (by kernel_rfl) (by kernel_rfl) (fun _ _ _ h => h) (by first | exact Or.inl ⟨by rfl, (by intro u hSu; clear hSu; go_simp; try with_reducible rfl)⟩ | exact Or.inr ⟨by rfl, rfl⟩) kS ?_; (try simp only [Act.put, List.setIfInBounds_toArray, List.set_cons_zero, List.set_cons_succ])); (refine takeL (i := 6) (v := _) rfl (by kernel_rfl) (by kernel_rfl) (by kernel_rfl) (fun _ _ _ h => h) (by first | exact Or.inl ⟨by rfl, (by intro u hSu; clear hSu; go_simp; try with_reducible rfl)⟩ | exact Or.inr ⟨by rfl, rfl⟩) kS ?_; (try simp only [Act.put, List.setIfInBounds_toArray, List.set_cons_zero, List.set_cons_succ]))
      refine callL (i := 7) rfl (by kernel_rfl) (fun K hK => ?_)
      (rw [if_pos (by rfl)]; refine wp_kn_stores (vs := i64s zw) E.out rfl rfl rfl rfl ⟨by rfl, by rw [i64s_length]; exact hw⟩ (i64s_one _) ?_; clear E kS; intro u E0; have E := Lib.hid E0; clear E0; (refine hK.out _ _ (E.out.part _ _ (by repeat (first | exact List.Sublist.refl _ | apply List.Sublist.cons_cons | apply List.Sublist.cons)) (by simp)) (fun kS => ?_); clear hK K; (try simp only [Act.put, List.setIfInBounds_toArray, List.set_cons_zero, List.set_cons_succ])))
      (refine takeL (i := 8) (v := _) rfl (by kernel_rfl) (by kernel_rfl) (by kernel_rfl) (fun _ _ _ h => h) (by first | exact Or.inl ⟨by rfl, (by intro u hSu; clear hSu; go_simp; try with_reducible rfl)⟩ | exact Or.inr ⟨by rfl, rfl⟩) kS ?_; (try simp only [Act.put, List.setIfInBounds_toArray, List.set_cons_zero, List.set_cons_succ]))
      refine wpAnyH_done (by kernel_rfl) ?_ _
      go_wp2_with fail
      refine bodyPost_ret (results_kn4 E.out rfl _ rfl (by rw [i64s_length]; exact hw)) rfl ?_
      exact ⟨by rw [← HZ.out]; rfl, E.out.bel⟩
end Go.Proofs.Yteefmgchkhbdpaa
