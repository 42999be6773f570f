/- ETC2 blocks, the program's: a block as it is to be decoded. -/
import Derived.Test.YtgcijioiicmjiaaDoorE2H
set_option linter.all false
namespace Go.Proofs.YtgcijioiicmjiaaDoor
open Go.RowKit
open Bi Lv Eo Et

def fnV : Option Nat → Value
  | none => .nilFunc
  | some gb => tkF gb
/-- A block's parts, its kind, is it opaque, its closure. -/
def bkL (d f : Bool) (Z : List Int) (k : Int) (o : Bool) (T : Option Nat) : List Value := blk d f Z ++ [.int .i64 k, .bool o, fnV T]
theorem bkL_length (d f : Bool) (Z : List Int) (k : Int) (o : Bool) (T : Option Nat) (hZ : Z.length = 24) : (bkL d f Z k o T).length = 29 := by unfold bkL; rw [List.length_append, blk_length (by omega : Z.length + 2 = 26)]; rfl
theorem fnV_one (T : Option Nat) : (fnV T).oneCell' = true := by cases T <;> rfl
theorem bkL_one (d f : Bool) (Z : List Int) (k : Int) (o : Bool) (T : Option Nat) : ∀ v ∈ bkL d f Z k o T, v.oneCell' = true := by
  intro v hv
  unfold bkL at hv
  rcases List.mem_append.1 hv with h | h
  · exact blk_one d f Z v h
  · simp only [List.mem_cons, List.not_mem_nil, or_false] at h
    rcases h with rfl | rfl | rfl
    · rfl
    · rfl
    · exact fnV_one T
theorem bkL_at (d f : Bool) (Z : List Int) (k : Int) (o : Bool) (T : Option Nat) (hZ : Z.length = 24) (i : Nat) : (bkL d f Z k o T)[26 + i]? = [Value.int .i64 k, .bool o, fnV T][i]? := by
  unfold bkL
  rw [List.getElem?_append_right (by rw [blk_length (by omega : Z.length + 2 = 26)]; omega), blk_length (by omega : Z.length + 2 = 26)]
  congr 1
  omega
theorem bkL_f (d f : Bool) (Z : List Int) (k : Int) (o : Bool) (T : Option Nat) : (bkL d f Z k o T)[1]? = some (.bool f) := rfl
theorem bkL_p (d f : Bool) (Z : List Int) (k : Int) (o : Bool) (T : Option Nat) (hZ : Z.length = 24) : ((bkL d f Z k o T).drop 0).take 26 = blk d f Z := by
  unfold bkL
  rw [List.drop_zero, List.take_append_of_le_length (by rw [blk_length (by omega : Z.length + 2 = 26)]; exact Nat.le_refl _), List.take_of_length_le (by rw [blk_length (by omega : Z.length + 2 = 26)]; exact Nat.le_refl _)]
theorem bkL_w (d f : Bool) (Z : List Int) (k : Int) (o : Bool) (T : Option Nat) (hZ : Z.length = 24) : ((bkL d f Z k o T).drop 10).take 16 = i64s ((Z.drop 8).take 16) := by
  unfold bkL
  rw [List.drop_append_of_le_length (by rw [blk_length (by omega : Z.length + 2 = 26)]; omega), List.take_append_of_le_length (by rw [List.length_drop, blk_length (by omega : Z.length + 2 = 26)]; exact Nat.le_refl _)]
  exact blk_part d f Z (i := 8) rfl
instance : ZeroV 57 (bkL false false z24 0 false none) := .of (by kernel_rfl)
instance {d f o : Bool} {Z : List Int} {k : Int} {T : Option Nat} {R : List Res} {g : Nat} {t : TypeId} [H : NoU8 R] : NoU8 (.row g t (bkL d f Z k o T) :: R) := ⟨fun {B u} hr b hb i x hc => by
  rw [mem_blocks] at hb
  obtain ⟨r, hm, e⟩ := hb
  rcases List.mem_cons.1 hm with rfl | hm
  · have hrow : Row u g t (bkL d f Z k o T) := (hr _ List.mem_cons_self).2
    cases e
    rw [cell_of_row u g i _ _ (0, 0) hrow] at hc
    have hmem : Value.int .u8 x ∈ bkL d f Z k o T := by
      have := List.mem_of_getElem? (by simpa using hc)
      exact this
    cases T <;> simp [bkL, blk, i64s, fnV, tkF] at hmem
  · exact H.h (fun s hs => hr s (List.mem_cons_of_mem _ hs)) b (mem_blocks.2 ⟨r, hm, e⟩) i x hc⟩
set_option maxRecDepth 100000 in
theorem built_bk (d f : Bool) (Z : List Int) (hZ : Z.length = 24) (k : Int) (o : Bool) (gb : Nat) (u : World) : (Instr.build 57 #[(0, .agg (blk d f Z).toArray), (1, .int .i64 k), (2, .bool o), (3, tkF gb)]).run Tryd.prog u = .ok (.agg (bkL d f Z k o (some gb)).toArray) u := by
  obtain ⟨a0, a1, a2, a3, a4, a5, a6, a7, a8, a9, a10, a11, a12, a13, a14, a15, a16, a17, a18, a19, a20, a21, a22, a23, rfl⟩ := list24 Z hZ
  exact run_build u _ _ _ (by kernel_rfl)
/-! What decodes a kind. -/
def paF (k : Nat) (B : List Value) : Value := .func (.func (if k = 1 then 55 else if k = 2 then 56 else if k = 3 then 57 else 58)) #[.agg B.toArray] #[]
set_option maxHeartbeats 2000000 in
set_option maxRecDepth 100000 in
theorem painter2 (B : List Value) (hB : B.length = 29) (k : Nat) (hk : k ≤ 3) (hBk : B[26]? = some (.int .i64 (k : Int))) (w : World) : Calls Tryd.prog 24 #[.agg B.toArray] w fun e w' => e = .returned (paF k B) ∧ Below w.heap.size w w' := by
  have E := Lib.hid (Kn.start w)
  replace hB := Lib.hid hB
  unfold paF
  obtain rfl | rfl | rfl | rfl : k = 0 ∨ k = 1 ∨ k = 2 ∨ k = 3 := by omega
  all_goals
    replace hBk := Lib.hid hBk
    simp only [if_true, if_false, show ¬ ((0 : Nat) = 1) from by omega, show ¬ ((0 : Nat) = 2) from by omega, show ¬ ((0 : Nat) = 3) from by omega, show ¬ ((2 : Nat) = 1) from by omega, show ¬ ((3 : Nat) = 1) from by omega, show ¬ ((3 : Nat) = 2) from by omega]
    go_enter Tryd.func24, Tryd.ntmps24
    go_wp2_with (first
      | ((with_reducible refine kn_load (g := g1) (i := 26) E.out rfl rfl rfl hBk.out ?_))
      | ((with_reducible refine kn_loads (g := g1) E.out rfl rfl rfl ?hl ?_); (case hl => exact hB.out))
      | ((with_reducible refine kn_load E.out rfl rfl rfl rfl ?_)) | ((with_reducible refine kn_load_if E.out rfl rfl rfl rfl ?_)) | ((with_reducible refine kn_loads E.out rfl rfl rfl ?_ ?_); (focus (first | rfl | (simp only [i64s_length, u8s_length]; first | rfl | assumption | omega)))) | ((with_reducible refine kn_loads_if E.out rfl rfl rfl ?_ ?_); (focus (first | rfl | (simp only [i64s_length, u8s_length]; first | rfl | assumption | omega)))) | ((with_reducible refine kn_stores E.out rfl rfl rfl rfl rfl ?_ ?_ ?_); (focus (first | exact ⟨rfl, rfl⟩ | (simp only [i64s_length, u8s_length]; refine ⟨?_, ?_⟩ <;> first | rfl | assumption | omega))); (focus (first | exact i64s_one _ | exact u8s_one _ | simp [Value.oneCell'])); clear E; intro u E0; have E := Lib.hid E0; clear E0) | ((with_reducible refine kn_alloc (o := ⟨some 1, _, _, _, _, _⟩) E.out rfl rfl ?_); clear E; intro g1 u E0 hb0; have E := Lib.hid E0; clear E0 hb0) | ((with_reducible refine kn_box (o := ⟨some 1, _, _, _, _, _⟩) E.out rfl rfl rfl ?_); clear E; intro g1 u E0 hb0; have E := Lib.hid E0; clear E0 hb0) | ((with_reducible refine kn_box_int (o := ⟨some 1, _, _, _, _, _⟩) E.out rfl rfl rfl ?_); clear E; intro g1 u E0 hb0; have E := Lib.hid E0; clear E0 hb0) | ((with_reducible refine kn_box_slice (o := ⟨some 1, _, _, _, _, _⟩) E.out rfl rfl rfl ?_); clear E; intro g1 u E0 hb0; have E := Lib.hid E0; clear E0 hb0) | ((with_reducible refine kn_box_bool (o := ⟨some 1, _, _, _, _, _⟩) E.out rfl rfl rfl ?_); clear E; intro g1 u E0 hb0; have E := Lib.hid E0; clear E0 hb0) | ((with_reducible refine kn_box_func (o := ⟨some 1, _, _, _, _, _⟩) E.out rfl rfl rfl ?_); clear E; intro g1 u E0 hb0; have E := Lib.hid E0; clear E0 hb0))
    go_ret
    exact ⟨rfl, E.out.bel⟩

/-! The closure that takes runs of a block. -/
theorem reader2 (A : Option Addr) (n c : Nat) (w : World) : Calls Tryd.prog 36 #[.slice A n c] w fun e w' => ∃ g, e = .returned (tkF g) ∧ w.heap.size ≤ g ∧ Row w' g 22 [.slice A n c] ∧ Below w.heap.size w w' := by
  have E := Lib.hid (Kn.start w)
  go_enter Tryd.func36, Tryd.ntmps36
  go_wp2_with (first | ((with_reducible refine kn_load E.out rfl rfl rfl rfl ?_)) | ((with_reducible refine kn_load_if E.out rfl rfl rfl rfl ?_)) | ((with_reducible refine kn_loads E.out rfl rfl rfl ?_ ?_); (focus (first | rfl | (simp only [i64s_length, u8s_length]; first | rfl | assumption | omega)))) | ((with_reducible refine kn_loads_if E.out rfl rfl rfl ?_ ?_); (focus (first | rfl | (simp only [i64s_length, u8s_length]; first | rfl | assumption | omega)))) | ((with_reducible refine kn_stores E.out rfl rfl rfl rfl rfl ?_ ?_ ?_); (focus (first | exact ⟨rfl, rfl⟩ | (simp only [i64s_length, u8s_length]; refine ⟨?_, ?_⟩ <;> first | rfl | assumption | omega))); (focus (first | exact i64s_one _ | exact u8s_one _ | simp [Value.oneCell'])); clear E; intro u E0; have E := Lib.hid E0; clear E0) | ((with_reducible refine kn_alloc (o := ⟨some 1, _, _, _, _, _⟩) E.out rfl rfl ?_); clear E; intro g1 u E0 hb0; have E := Lib.hid E0; clear E0 hb0) | ((with_reducible refine kn_box (o := ⟨some 1, _, _, _, _, _⟩) E.out rfl rfl rfl ?_); clear E; intro g1 u E0 hb0; have E := Lib.hid E0; clear E0 hb0) | ((with_reducible refine kn_box_int (o := ⟨some 1, _, _, _, _, _⟩) E.out rfl rfl rfl ?_); clear E; intro g1 u E0 hb0; have E := Lib.hid E0; clear E0 hb0) | ((with_reducible refine kn_box_slice (o := ⟨some 1, _, _, _, _, _⟩) E.out rfl rfl rfl ?_); clear E; intro g1 u E0 hb0; have E := Lib.hid E0; clear E0 hb0) | ((with_reducible refine kn_box_bool (o := ⟨some 1, _, _, _, _, _⟩) E.out rfl rfl rfl ?_); clear E; intro g1 u E0 hb0; have E := Lib.hid E0; clear E0 hb0) | ((with_reducible refine kn_box_func (o := ⟨some 1, _, _, _, _, _⟩) E.out rfl rfl rfl ?_); clear E; intro g1 u E0 hb0; have E := Lib.hid E0; clear E0 hb0))
  go_ret
  exact ⟨g1, rfl, (E.out.res _ List.mem_cons_self).1, (E.out.row (g := g1)), E.out.bel⟩
namespace Et
/-- Opaque, as the block says it. -/
def opk (p : Bool) (xs : List Nat) : Bool := opq p xs || decide (kdN p xs = 3)
def kbL : List Int := [1, 2, 3, 0]
theorem kb_at (p : Bool) (xs : List Nat) (far : Nat) (h : farP (pD (pxs p xs)) (pZ (pxs p xs)) 3 = far) : kbL.getD far 0 = ((kdN p xs : Nat) : Int) ∧ far < 4 := by
  have hl := farP_le (pD (pxs p xs)) (pZ (pxs p xs)) 3 (by omega)
  unfold kdN
  rw [h] at hl ⊢
  obtain rfl | rfl | rfl | rfl : far = 0 ∨ far = 1 ∨ far = 2 ∨ far = 3 := by omega
  all_goals exact ⟨rfl, by omega⟩
end Et
set_option maxHeartbeats 2000000 in
set_option maxRecDepth 100000 in
theorem read_no (A : Option Addr) (n c : Nat) (p : Bool) (w : World) (hn : n ≠ 8) (hm : n ≤ 9223372036854775807) :
    Calls Tryd.prog 23 #[.slice A n c, .bool p] w fun e w' => e = .returned (.tuple #[.agg (bkL false false z24 0 false none).toArray, .int .i64 1]) ∧ Below w.heap.size w w' := by
  have E := Lib.hid (Kn.start w)
  have hQ := Lib.hid (fun u => parts_no A n c u hn hm)
  have hz24 := Lib.hid z24_length
  clear hn
  go_enter Tryd.func23, Tryd.ntmps23
  go_wp2_with (first
    | (go_at_call 21; (with_reducible refine (hQ.out _).mono ?_); rintro e w1 ⟨rfl, hb⟩; have E1 := Lib.hid (E.out.later hb); clear hb E; have E := E1; clear E1)
    | ((with_reducible refine kn_bputall (g := g6) E.out rfl rfl rfl rfl rfl ?h1 ?h2 ?_); (case h1 => exact hz24.out); (case h2 => exact hz24.out); clear E; intro u E0; have E := Lib.hid E0; clear E0)
    | ((with_reducible refine kn_load E.out rfl rfl rfl rfl ?_)) | ((with_reducible refine kn_load_if E.out rfl rfl rfl rfl ?_)) | ((with_reducible refine kn_loads E.out rfl rfl rfl ?_ ?_); (focus (first | rfl | (simp only [i64s_length, u8s_length]; first | rfl | assumption | omega)))) | ((with_reducible refine kn_loads_if E.out rfl rfl rfl ?_ ?_); (focus (first | rfl | (simp only [i64s_length, u8s_length]; first | rfl | assumption | omega)))) | ((with_reducible refine kn_stores E.out rfl rfl rfl rfl rfl ?_ ?_ ?_); (focus (first | exact ⟨rfl, rfl⟩ | (simp only [i64s_length, u8s_length]; refine ⟨?_, ?_⟩ <;> first | rfl | assumption | omega))); (focus (first | exact i64s_one _ | exact u8s_one _ | simp [Value.oneCell'])); clear E; intro u E0; have E := Lib.hid E0; clear E0) | ((with_reducible refine kn_alloc (o := ⟨some 4, _, _, _, _, _⟩) E.out rfl rfl ?_); clear E; intro g4 u E0 hb0; have E := Lib.hid E0; clear E0 hb0) | ((with_reducible refine kn_box (o := ⟨some 4, _, _, _, _, _⟩) E.out rfl rfl rfl ?_); clear E; intro g4 u E0 hb0; have E := Lib.hid E0; clear E0 hb0) | ((with_reducible refine kn_box_int (o := ⟨some 4, _, _, _, _, _⟩) E.out rfl rfl rfl ?_); clear E; intro g4 u E0 hb0; have E := Lib.hid E0; clear E0 hb0) | ((with_reducible refine kn_box_slice (o := ⟨some 4, _, _, _, _, _⟩) E.out rfl rfl rfl ?_); clear E; intro g4 u E0 hb0; have E := Lib.hid E0; clear E0 hb0) | ((with_reducible refine kn_box_bool (o := ⟨some 4, _, _, _, _, _⟩) E.out rfl rfl rfl ?_); clear E; intro g4 u E0 hb0; have E := Lib.hid E0; clear E0 hb0) | ((with_reducible refine kn_box_func (o := ⟨some 4, _, _, _, _, _⟩) E.out rfl rfl rfl ?_); clear E; intro g4 u E0 hb0; have E := Lib.hid E0; clear E0 hb0) | ((with_reducible refine kn_alloc (o := ⟨some 6, _, _, _, _, _⟩) E.out rfl rfl ?_); clear E; intro g6 u E0 hb0; have E := Lib.hid E0; clear E0 hb0) | ((with_reducible refine kn_box (o := ⟨some 6, _, _, _, _, _⟩) E.out rfl rfl rfl ?_); clear E; intro g6 u E0 hb0; have E := Lib.hid E0; clear E0 hb0) | ((with_reducible refine kn_box_int (o := ⟨some 6, _, _, _, _, _⟩) E.out rfl rfl rfl ?_); clear E; intro g6 u E0 hb0; have E := Lib.hid E0; clear E0 hb0) | ((with_reducible refine kn_box_slice (o := ⟨some 6, _, _, _, _, _⟩) E.out rfl rfl rfl ?_); clear E; intro g6 u E0 hb0; have E := Lib.hid E0; clear E0 hb0) | ((with_reducible refine kn_box_bool (o := ⟨some 6, _, _, _, _, _⟩) E.out rfl rfl rfl ?_); clear E; intro g6 u E0 hb0; have E := Lib.hid E0; clear E0 hb0) | ((with_reducible refine kn_box_func (o := ⟨some 6, _, _, _, _, _⟩) E.out rfl rfl rfl ?_); clear E; intro g6 u E0 hb0; have E := Lib.hid E0; clear E0 hb0))
  refine bodyPost_ret (results_kn2 E.out rfl _ rfl (by rfl)) rfl ?_
  exact ⟨rfl, E.out.bel⟩
set_option maxHeartbeats 4000000 in
set_option maxRecDepth 100000 in
/-- Without punch, or where the block has its bit 30: the block as it is. -/
theorem read_yes (A : Option Addr) (c : Nat) (p : Bool) (xs : List Nat) (w : World) (h : Bs w w.heap.size A 8 xs) (hp : opq p xs = true) (hK : cellsF 8 (i64s kbL) w) :
    Calls Tryd.prog 23 #[.slice A 8 c, .bool p] w fun e w' => ∃ gb, e = .returned (.tuple #[.agg (bkL (pD xs) (pF xs) (pZ xs) ((kdN p xs : Nat) : Int) true (some gb)).toArray, .int .i64 0]) ∧ Below w.heap.size w w' ∧ cellsF gb [.slice A 8 c] w' ∧ Bs w' w'.heap.size A 8 xs ∧ w.heap.size ≤ gb := by
  have hpx : pxs p xs = xs := by
    cases p
    · rfl
    · exact pxs_same xs h.1 h.2.1 (by simpa [opq] using hp) true
  have E := Lib.hid (((Kn.start w).arg_bs h).arg_cells hK)
  have hQ := Lib.hid (fun u hu => parts_ok A c xs u hu)
  have hBa := Lib.hid (fun u => bases_any (pD xs) (pF xs) (pZ xs) u (pZ_length xs) (ok_parts xs))
  obtain ⟨far, hfar⟩ : ∃ z, farP (pD xs) (pZ xs) 3 = z := ⟨_, rfl⟩
  have hkf := kb_at p xs far (by rw [hpx]; exact hfar)
  rw [hfar] at hBa
  have hkb := Lib.hid ((i64s_get kbL far hkf.2).trans (congrArg (fun z => some (Value.int .i64 z)) hkf.1))
  have hf4 : (far : Int) < 4 := by omega
  have hdd : p = true → pD xs = true := by intro h1; subst h1; show bt xs true 30 = true; simpa [opq] using hp
  have hz := Lib.hid (pZ_length xs)
  have hbk := Lib.hid (show (blk (pD xs) (pF xs) (pZ xs)).length = 26 from blk_length (by have := pZ_length xs; omega))
  have hbl := Lib.hid (baV_length (pD xs) (pZ xs))
  have hBK := fun (gb : Nat) (u : World) => built_bk (pD xs) (pF xs) (pZ xs) (pZ_length xs) ((kdN p xs : Nat) : Int) true gb u
  have hBKl := Lib.hid (fun gb => bkL_length (pD xs) (pF xs) (pZ xs) ((kdN p xs : Nat) : Int) true (some gb) (pZ_length xs))
  have hBK1 := Lib.hid (fun gb => bkL_one (pD xs) (pF xs) (pZ xs) ((kdN p xs : Nat) : Int) true (some gb))
  have hz24 := Lib.hid z24_length
  have hzb := Lib.hid (bkL_length false false z24 0 false none rfl)
  clear h hp hK hpx hkf hfar
  generalize ((kdN p xs : Nat) : Int) = kv at *
  generalize baV (pD xs) (pZ xs) = BA at *
  generalize pD xs = d at *
  generalize pF xs = f at *
  generalize pZ xs = Z at *
  cases p
  · clear hdd
    go_enter Tryd.func23, Tryd.ntmps23
    go_wp2_with (first
      | (go_at_call 21; (with_reducible refine (hQ.out _ ?hB).mono ?_); (case hB => exact E.out.bs (by simp)); clear hQ; rintro e w1 ⟨rfl, hb⟩; have E1 := Lib.hid (E.out.later hb); clear hb E; have E := E1; clear E1)
      | ((with_reducible refine kn_bputall (g := g6) E.out rfl rfl rfl rfl rfl ?h1 ?h2 ?_); (case h1 => exact hz24.out); (case h2 => exact hz.out); clear E; intro u E0; have E := Lib.hid E0; clear E0)
      | (go_at_call 22; (with_reducible refine (hBa.out _).mono ?_); clear hBa; rintro e w1 ⟨rfl, hb⟩; have E1 := Lib.hid (E.out.later hb); clear hb E; have E := E1; clear E1) | ((with_reducible refine kn_stores (g := g9) (vs := i64s BA) E.out rfl rfl rfl rfl rfl ?hl ?h1 ?_); (case hl => exact ⟨rfl, by rw [i64s_length]; exact hbl.out⟩); (case h1 => exact i64s_one _); clear E; intro u E0; have E := Lib.hid E0; clear E0) | ((with_reducible refine kn_gload (g := 8) (i := far) E.out rfl rfl rfl ?h1 hkb.out ?_); (case h1 => simp)) | ((with_reducible refine kn_ball (g := g6) E.out rfl rfl rfl ?h1 ?_); (case h1 => exact hz.out))
      | ((with_reducible refine kn_load E.out rfl rfl rfl rfl ?_)) | ((with_reducible refine kn_load_if E.out rfl rfl rfl rfl ?_)) | ((with_reducible refine kn_loads E.out rfl rfl rfl ?_ ?_); (focus (first | rfl | (simp only [i64s_length, u8s_length]; first | rfl | assumption | omega)))) | ((with_reducible refine kn_loads_if E.out rfl rfl rfl ?_ ?_); (focus (first | rfl | (simp only [i64s_length, u8s_length]; first | rfl | assumption | omega)))) | ((with_reducible refine kn_stores E.out rfl rfl rfl rfl rfl ?_ ?_ ?_); (focus (first | exact ⟨rfl, rfl⟩ | (simp only [i64s_length, u8s_length]; refine ⟨?_, ?_⟩ <;> first | rfl | assumption | omega))); (focus (first | exact i64s_one _ | exact u8s_one _ | simp [Value.oneCell'])); clear E; intro u E0; have E := Lib.hid E0; clear E0) | ((with_reducible refine kn_alloc (o := ⟨some 4, _, _, _, _, _⟩) E.out rfl rfl ?_); clear E; intro g4 u E0 hb0; have E := Lib.hid E0; clear E0 hb0) | ((with_reducible refine kn_box (o := ⟨some 4, _, _, _, _, _⟩) E.out rfl rfl rfl ?_); clear E; intro g4 u E0 hb0; have E := Lib.hid E0; clear E0 hb0) | ((with_reducible refine kn_box_int (o := ⟨some 4, _, _, _, _, _⟩) E.out rfl rfl rfl ?_); clear E; intro g4 u E0 hb0; have E := Lib.hid E0; clear E0 hb0) | ((with_reducible refine kn_box_slice (o := ⟨some 4, _, _, _, _, _⟩) E.out rfl rfl rfl ?_); clear E; intro g4 u E0 hb0; have E := Lib.hid E0; clear E0 hb0) | ((with_reducible refine kn_box_bool (o := ⟨some 4, _, _, _, _, _⟩) E.out rfl rfl rfl ?_); clear E; intro g4 u E0 hb0; have E := Lib.hid E0; clear E0 hb0) | ((with_reducible refine kn_box_func (o := ⟨some 4, _, _, _, _, _⟩) E.out rfl rfl rfl ?_); clear E; intro g4 u E0 hb0; have E := Lib.hid E0; clear E0 hb0) | ((with_reducible refine kn_alloc (o := ⟨some 6, _, _, _, _, _⟩) E.out rfl rfl ?_); clear E; intro g6 u E0 hb0; have E := Lib.hid E0; clear E0 hb0) | ((with_reducible refine kn_box (o := ⟨some 6, _, _, _, _, _⟩) E.out rfl rfl rfl ?_); clear E; intro g6 u E0 hb0; have E := Lib.hid E0; clear E0 hb0) | ((with_reducible refine kn_box_int (o := ⟨some 6, _, _, _, _, _⟩) E.out rfl rfl rfl ?_); clear E; intro g6 u E0 hb0; have E := Lib.hid E0; clear E0 hb0) | ((with_reducible refine kn_box_slice (o := ⟨some 6, _, _, _, _, _⟩) E.out rfl rfl rfl ?_); clear E; intro g6 u E0 hb0; have E := Lib.hid E0; clear E0 hb0) | ((with_reducible refine kn_box_bool (o := ⟨some 6, _, _, _, _, _⟩) E.out rfl rfl rfl ?_); clear E; intro g6 u E0 hb0; have E := Lib.hid E0; clear E0 hb0) | ((with_reducible refine kn_box_func (o := ⟨some 6, _, _, _, _, _⟩) E.out rfl rfl rfl ?_); clear E; intro g6 u E0 hb0; have E := Lib.hid E0; clear E0 hb0) | ((with_reducible refine kn_alloc (o := ⟨some 9, _, _, _, _, _⟩) E.out rfl rfl ?_); clear E; intro g9 u E0 hb0; have E := Lib.hid E0; clear E0 hb0) | ((with_reducible refine kn_box (o := ⟨some 9, _, _, _, _, _⟩) E.out rfl rfl rfl ?_); clear E; intro g9 u E0 hb0; have E := Lib.hid E0; clear E0 hb0) | ((with_reducible refine kn_box_int (o := ⟨some 9, _, _, _, _, _⟩) E.out rfl rfl rfl ?_); clear E; intro g9 u E0 hb0; have E := Lib.hid E0; clear E0 hb0) | ((with_reducible refine kn_box_slice (o := ⟨some 9, _, _, _, _, _⟩) E.out rfl rfl rfl ?_); clear E; intro g9 u E0 hb0; have E := Lib.hid E0; clear E0 hb0) | ((with_reducible refine kn_box_bool (o := ⟨some 9, _, _, _, _, _⟩) E.out rfl rfl rfl ?_); clear E; intro g9 u E0 hb0; have E := Lib.hid E0; clear E0 hb0) | ((with_reducible refine kn_box_func (o := ⟨some 9, _, _, _, _, _⟩) E.out rfl rfl rfl ?_); clear E; intro g9 u E0 hb0; have E := Lib.hid E0; clear E0 hb0))
    (refine wp_region_held_drew (S := Kn w [.row g6 48 (blk d f Z)] []) (by kernel_rfl) (E.out.drew.part _ _ (by repeat (first | exact List.Sublist.refl _ | apply List.Sublist.cons_cons | apply List.Sublist.cons)) (by simp)) (fun kS => ?_)); have E1 := Lib.hid E.out.drew; generalize World.drew _ = u1 at kS E1 ⊢; clear E; have E := E1; clear E1; (refine takeL (i := 0) (v := .agg (blk d f Z).toArray) rfl (by kernel_rfl) (by kernel_rfl) (by kernel_rfl) (fun _ _ _ h => h) (yield_loads (g := g6) rfl rfl rfl hbk.out) kS ?_; (try simp only [Act.put, List.setIfInBounds_toArray, List.set_cons_zero, List.set_cons_succ]))
    (refine takeL (i := 1) (v := _) rfl (by kernel_rfl) (by kernel_rfl) (by kernel_rfl) (fun _ _ _ h => h) (by first | exact Or.inl ⟨by rfl, (by intro u hSu; clear hSu; go_simp; try with_reducible rfl)⟩ | exact Or.inr ⟨by rfl, rfl⟩) kS ?_; (try simp only [Act.put, List.setIfInBounds_toArray, List.set_cons_zero, List.set_cons_succ])); (refine takeL (i := 2) (v := _) rfl (by kernel_rfl) (by kernel_rfl) (by kernel_rfl) (fun _ _ _ h => h) (by first | exact Or.inl ⟨by rfl, (by intro u hSu; clear hSu; go_simp; try with_reducible rfl)⟩ | exact Or.inr ⟨by rfl, rfl⟩) kS ?_; (try simp only [Act.put, List.setIfInBounds_toArray, List.set_cons_zero, List.set_cons_succ])); (refine takeL (i := 3) (v := _) rfl (by kernel_rfl) (by kernel_rfl) (by kernel_rfl) (fun _ _ _ h => h) (by first | exact Or.inl ⟨by rfl, (by intro u hSu; clear hSu; go_simp; try with_reducible rfl)⟩ | exact Or.inr ⟨by rfl, rfl⟩) kS ?_; (try simp only [Act.put, List.setIfInBounds_toArray, List.set_cons_zero, List.set_cons_succ]))
    (refine takeL (i := 4) (v := _) rfl (by kernel_rfl) (by kernel_rfl) (by kernel_rfl) (fun _ _ _ h => h) (Or.inr ⟨by kernel_rfl, rfl⟩) kS ?_; (try simp only [Act.put, List.setIfInBounds_toArray, List.set_cons_zero, List.set_cons_succ])); (refine takeL (i := 5) (v := _) rfl (by kernel_rfl) (by kernel_rfl) (by kernel_rfl) (fun _ _ _ h => h) (Or.inr ⟨by kernel_rfl, rfl⟩) kS ?_; (try simp only [Act.put, List.setIfInBounds_toArray, List.set_cons_zero, List.set_cons_succ]))
    (refine takeL (i := 6) (v := _) rfl (by kernel_rfl) (by kernel_rfl) (by kernel_rfl) (fun _ _ _ h => h) (by first | exact Or.inl ⟨by rfl, (by intro u hSu; clear hSu; go_simp; try with_reducible rfl)⟩ | exact Or.inr ⟨by rfl, rfl⟩) kS ?_; (try simp only [Act.put, List.setIfInBounds_toArray, List.set_cons_zero, List.set_cons_succ])); (refine takeL (i := 7) (v := _) rfl (by kernel_rfl) (by kernel_rfl) (by kernel_rfl) (fun _ _ _ h => h) (by first | exact Or.inl ⟨by rfl, (by intro u hSu; clear hSu; go_simp; try with_reducible rfl)⟩ | exact Or.inr ⟨by rfl, rfl⟩) kS ?_; (try simp only [Act.put, List.setIfInBounds_toArray, List.set_cons_zero, List.set_cons_succ]))
    refine callL (i := 8) rfl (by kernel_rfl) (fun K hK => ?_)
    (go_simp; refine (reader2 _ 8 _ _).mono ?_; rintro e' w1 ⟨gb, rfl, hg1, hr1, hb⟩; have E1 := Lib.hid (E.out.newrow hb hg1 hr1); clear E hb hg1 hr1; have E := E1; clear E1; go_wp2_with fail; (refine hK.out _ _ (E.out.part _ _ (by repeat (first | exact List.Sublist.refl _ | apply List.Sublist.cons_cons | apply List.Sublist.cons)) (by simp)) (fun kS => ?_); clear hK K; (try simp only [Act.put, List.setIfInBounds_toArray, List.set_cons_zero, List.set_cons_succ])))
    (refine takeL (i := 9) (v := .agg (bkL d f Z kv true (some gb)).toArray) rfl (by kernel_rfl) (by kernel_rfl) (by kernel_rfl) (fun _ _ _ h => h) (yield_build4 rfl rfl (hBK gb) (by simp only [List.map_toArray, List.map_cons, List.map_nil]; rfl)) kS ?_; (try simp only [Act.put, List.setIfInBounds_toArray, List.set_cons_zero, List.set_cons_succ]))
    refine callL (i := 10) rfl (by kernel_rfl) (fun K hK => ?_)
    (rw [if_pos (by rfl)]; refine wp_kn_stores (g := g4) (vs := bkL d f Z kv true (some gb)) E.out rfl rfl rfl rfl ⟨by first | exact hzb.out | rfl, hBKl.out gb⟩ (hBK1.out gb) ?_; clear E kS; intro u E0; have E := Lib.hid E0; clear E0; (refine hK.out _ _ (E.out.part _ _ (by repeat (first | exact List.Sublist.refl _ | apply List.Sublist.cons_cons | apply List.Sublist.cons)) (by simp)) (fun kS => ?_); clear hK K; (try simp only [Act.put, List.setIfInBounds_toArray, List.set_cons_zero, List.set_cons_succ])))
    (refine takeL (i := 11) (v := _) rfl (by kernel_rfl) (by kernel_rfl) (by kernel_rfl) (fun _ _ _ h => h) (by first | exact Or.inl ⟨by rfl, (by intro u hSu; clear hSu; go_simp; try with_reducible rfl)⟩ | exact Or.inr ⟨by rfl, rfl⟩) kS ?_; (try simp only [Act.put, List.setIfInBounds_toArray, List.set_cons_zero, List.set_cons_succ]))
    refine wpAnyH_done (by kernel_rfl) ?_ _
    go_wp2_with fail
    refine bodyPost_ret (results_kn2 E.out rfl _ rfl (hBKl.out gb)) rfl ?_
    exact ⟨gb, rfl, E.out.bel, fun i v hv => (E.out.row (g := gb)).cell i v hv, E.out.bs (by simp), (E.out.res (.row gb 22 [.slice A 8 c]) (by simp)).1⟩
  · have hd := hdd rfl
    clear hdd
    subst hd
    go_enter Tryd.func23, Tryd.ntmps23
    go_wp2_with (first
      | (go_at_call 21; (with_reducible refine (hQ.out _ ?hB).mono ?_); (case hB => exact E.out.bs (by simp)); clear hQ; rintro e w1 ⟨rfl, hb⟩; have E1 := Lib.hid (E.out.later hb); clear hb E; have E := E1; clear E1)
      | ((with_reducible refine kn_bputall (g := g6) E.out rfl rfl rfl rfl rfl ?h1 ?h2 ?_); (case h1 => exact hz24.out); (case h2 => exact hz.out); clear E; intro u E0; have E := Lib.hid E0; clear E0)
      | ((with_reducible refine kn_bd_if (g := g6) E.out rfl rfl rfl ?_))
      | (go_at_call 22; (with_reducible refine (hBa.out _).mono ?_); clear hBa; rintro e w1 ⟨rfl, hb⟩; have E1 := Lib.hid (E.out.later hb); clear hb E; have E := E1; clear E1) | ((with_reducible refine kn_stores (g := g9) (vs := i64s BA) E.out rfl rfl rfl rfl rfl ?hl ?h1 ?_); (case hl => exact ⟨rfl, by rw [i64s_length]; exact hbl.out⟩); (case h1 => exact i64s_one _); clear E; intro u E0; have E := Lib.hid E0; clear E0) | ((with_reducible refine kn_gload (g := 8) (i := far) E.out rfl rfl rfl ?h1 hkb.out ?_); (case h1 => simp)) | ((with_reducible refine kn_ball (g := g6) E.out rfl rfl rfl ?h1 ?_); (case h1 => exact hz.out))
      | ((with_reducible refine kn_load E.out rfl rfl rfl rfl ?_)) | ((with_reducible refine kn_load_if E.out rfl rfl rfl rfl ?_)) | ((with_reducible refine kn_loads E.out rfl rfl rfl ?_ ?_); (focus (first | rfl | (simp only [i64s_length, u8s_length]; first | rfl | assumption | omega)))) | ((with_reducible refine kn_loads_if E.out rfl rfl rfl ?_ ?_); (focus (first | rfl | (simp only [i64s_length, u8s_length]; first | rfl | assumption | omega)))) | ((with_reducible refine kn_stores E.out rfl rfl rfl rfl rfl ?_ ?_ ?_); (focus (first | exact ⟨rfl, rfl⟩ | (simp only [i64s_length, u8s_length]; refine ⟨?_, ?_⟩ <;> first | rfl | assumption | omega))); (focus (first | exact i64s_one _ | exact u8s_one _ | simp [Value.oneCell'])); clear E; intro u E0; have E := Lib.hid E0; clear E0) | ((with_reducible refine kn_alloc (o := ⟨some 4, _, _, _, _, _⟩) E.out rfl rfl ?_); clear E; intro g4 u E0 hb0; have E := Lib.hid E0; clear E0 hb0) | ((with_reducible refine kn_box (o := ⟨some 4, _, _, _, _, _⟩) E.out rfl rfl rfl ?_); clear E; intro g4 u E0 hb0; have E := Lib.hid E0; clear E0 hb0) | ((with_reducible refine kn_box_int (o := ⟨some 4, _, _, _, _, _⟩) E.out rfl rfl rfl ?_); clear E; intro g4 u E0 hb0; have E := Lib.hid E0; clear E0 hb0) | ((with_reducible refine kn_box_slice (o := ⟨some 4, _, _, _, _, _⟩) E.out rfl rfl rfl ?_); clear E; intro g4 u E0 hb0; have E := Lib.hid E0; clear E0 hb0) | ((with_reducible refine kn_box_bool (o := ⟨some 4, _, _, _, _, _⟩) E.out rfl rfl rfl ?_); clear E; intro g4 u E0 hb0; have E := Lib.hid E0; clear E0 hb0) | ((with_reducible refine kn_box_func (o := ⟨some 4, _, _, _, _, _⟩) E.out rfl rfl rfl ?_); clear E; intro g4 u E0 hb0; have E := Lib.hid E0; clear E0 hb0) | ((with_reducible refine kn_alloc (o := ⟨some 6, _, _, _, _, _⟩) E.out rfl rfl ?_); clear E; intro g6 u E0 hb0; have E := Lib.hid E0; clear E0 hb0) | ((with_reducible refine kn_box (o := ⟨some 6, _, _, _, _, _⟩) E.out rfl rfl rfl ?_); clear E; intro g6 u E0 hb0; have E := Lib.hid E0; clear E0 hb0) | ((with_reducible refine kn_box_int (o := ⟨some 6, _, _, _, _, _⟩) E.out rfl rfl rfl ?_); clear E; intro g6 u E0 hb0; have E := Lib.hid E0; clear E0 hb0) | ((with_reducible refine kn_box_slice (o := ⟨some 6, _, _, _, _, _⟩) E.out rfl rfl rfl ?_); clear E; intro g6 u E0 hb0; have E := Lib.hid E0; clear E0 hb0) | ((with_reducible refine kn_box_bool (o := ⟨some 6, _, _, _, _, _⟩) E.out rfl rfl rfl ?_); clear E; intro g6 u E0 hb0; have E := Lib.hid E0; clear E0 hb0) | ((with_reducible refine kn_box_func (o := ⟨some 6, _, _, _, _, _⟩) E.out rfl rfl rfl ?_); clear E; intro g6 u E0 hb0; have E := Lib.hid E0; clear E0 hb0) | ((with_reducible refine kn_alloc (o := ⟨some 9, _, _, _, _, _⟩) E.out rfl rfl ?_); clear E; intro g9 u E0 hb0; have E := Lib.hid E0; clear E0 hb0) | ((with_reducible refine kn_box (o := ⟨some 9, _, _, _, _, _⟩) E.out rfl rfl rfl ?_); clear E; intro g9 u E0 hb0; have E := Lib.hid E0; clear E0 hb0) | ((with_reducible refine kn_box_int (o := ⟨some 9, _, _, _, _, _⟩) E.out rfl rfl rfl ?_); clear E; intro g9 u E0 hb0; have E := Lib.hid E0; clear E0 hb0) | ((with_reducible refine kn_box_slice (o := ⟨some 9, _, _, _, _, _⟩) E.out rfl rfl rfl ?_); clear E; intro g9 u E0 hb0; have E := Lib.hid E0; clear E0 hb0) | ((with_reducible refine kn_box_bool (o := ⟨some 9, _, _, _, _, _⟩) E.out rfl rfl rfl ?_); clear E; intro g9 u E0 hb0; have E := Lib.hid E0; clear E0 hb0) | ((with_reducible refine kn_box_func (o := ⟨some 9, _, _, _, _, _⟩) E.out rfl rfl rfl ?_); clear E; intro g9 u E0 hb0; have E := Lib.hid E0; clear E0 hb0))
    (refine wp_region_held_drew (S := Kn w [.row g6 48 (blk true f Z)] []) (by kernel_rfl) (E.out.drew.part _ _ (by repeat (first | exact List.Sublist.refl _ | apply List.Sublist.cons_cons | apply List.Sublist.cons)) (by simp)) (fun kS => ?_)); have E1 := Lib.hid E.out.drew; generalize World.drew _ = u1 at kS E1 ⊢; clear E; have E := E1; clear E1; (refine takeL (i := 0) (v := .agg (blk true f Z).toArray) rfl (by kernel_rfl) (by kernel_rfl) (by kernel_rfl) (fun _ _ _ h => h) (yield_loads (g := g6) rfl rfl rfl hbk.out) kS ?_; (try simp only [Act.put, List.setIfInBounds_toArray, List.set_cons_zero, List.set_cons_succ]))
    (refine takeL (i := 1) (v := _) rfl (by kernel_rfl) (by kernel_rfl) (by kernel_rfl) (fun _ _ _ h => h) (by first | exact Or.inl ⟨by rfl, (by intro u hSu; clear hSu; go_simp; try with_reducible rfl)⟩ | exact Or.inr ⟨by rfl, rfl⟩) kS ?_; (try simp only [Act.put, List.setIfInBounds_toArray, List.set_cons_zero, List.set_cons_succ])); (refine takeL (i := 2) (v := _) rfl (by kernel_rfl) (by kernel_rfl) (by kernel_rfl) (fun _ _ _ h => h) (by first | exact Or.inl ⟨by rfl, (by intro u hSu; clear hSu; go_simp; try with_reducible rfl)⟩ | exact Or.inr ⟨by rfl, rfl⟩) kS ?_; (try simp only [Act.put, List.setIfInBounds_toArray, List.set_cons_zero, List.set_cons_succ])); (refine takeL (i := 3) (v := _) rfl (by kernel_rfl) (by kernel_rfl) (by kernel_rfl) (fun _ _ _ h => h) (by first | exact Or.inl ⟨by rfl, (by intro u hSu; clear hSu; go_simp; try with_reducible rfl)⟩ | exact Or.inr ⟨by rfl, rfl⟩) kS ?_; (try simp only [Act.put, List.setIfInBounds_toArray, List.set_cons_zero, List.set_cons_succ]))
    (refine takeL (i := 4) (v := _) rfl (by kernel_rfl) (by kernel_rfl) (by kernel_rfl) (fun _ _ _ h => h) (Or.inr ⟨by kernel_rfl, rfl⟩) kS ?_; (try simp only [Act.put, List.setIfInBounds_toArray, List.set_cons_zero, List.set_cons_succ])); (refine takeL (i := 5) (v := _) rfl (by kernel_rfl) (by kernel_rfl) (by kernel_rfl) (fun _ _ _ h => h) (Or.inr ⟨by kernel_rfl, rfl⟩) kS ?_; (try simp only [Act.put, List.setIfInBounds_toArray, List.set_cons_zero, List.set_cons_succ]))
    (refine takeL (i := 6) (v := _) rfl (by kernel_rfl) (by kernel_rfl) (by kernel_rfl) (fun _ _ _ h => h) (by first | exact Or.inl ⟨by rfl, (by intro u hSu; clear hSu; go_simp; try with_reducible rfl)⟩ | exact Or.inr ⟨by rfl, rfl⟩) kS ?_; (try simp only [Act.put, List.setIfInBounds_toArray, List.set_cons_zero, List.set_cons_succ])); (refine takeL (i := 7) (v := _) rfl (by kernel_rfl) (by kernel_rfl) (by kernel_rfl) (fun _ _ _ h => h) (by first | exact Or.inl ⟨by rfl, (by intro u hSu; clear hSu; go_simp; try with_reducible rfl)⟩ | exact Or.inr ⟨by rfl, rfl⟩) kS ?_; (try simp only [Act.put, List.setIfInBounds_toArray, List.set_cons_zero, List.set_cons_succ]))
    refine callL (i := 8) rfl (by kernel_rfl) (fun K hK => ?_)
    (go_simp; refine (reader2 _ 8 _ _).mono ?_; rintro e' w1 ⟨gb, rfl, hg1, hr1, hb⟩; have E1 := Lib.hid (E.out.newrow hb hg1 hr1); clear E hb hg1 hr1; have E := E1; clear E1; go_wp2_with fail; (refine hK.out _ _ (E.out.part _ _ (by repeat (first | exact List.Sublist.refl _ | apply List.Sublist.cons_cons | apply List.Sublist.cons)) (by simp)) (fun kS => ?_); clear hK K; (try simp only [Act.put, List.setIfInBounds_toArray, List.set_cons_zero, List.set_cons_succ])))
    (refine takeL (i := 9) (v := .agg (bkL true f Z kv true (some gb)).toArray) rfl (by kernel_rfl) (by kernel_rfl) (by kernel_rfl) (fun _ _ _ h => h) (yield_build4 rfl rfl (hBK gb) (by simp only [List.map_toArray, List.map_cons, List.map_nil]; rfl)) kS ?_; (try simp only [Act.put, List.setIfInBounds_toArray, List.set_cons_zero, List.set_cons_succ]))
    refine callL (i := 10) rfl (by kernel_rfl) (fun K hK => ?_)
    (rw [if_pos (by rfl)]; refine wp_kn_stores (g := g4) (vs := bkL true f Z kv true (some gb)) E.out rfl rfl rfl rfl ⟨by first | exact hzb.out | rfl, hBKl.out gb⟩ (hBK1.out gb) ?_; clear E kS; intro u E0; have E := Lib.hid E0; clear E0; (refine hK.out _ _ (E.out.part _ _ (by repeat (first | exact List.Sublist.refl _ | apply List.Sublist.cons_cons | apply List.Sublist.cons)) (by simp)) (fun kS => ?_); clear hK K; (try simp only [Act.put, List.setIfInBounds_toArray, List.set_cons_zero, List.set_cons_succ])))
    (refine takeL (i := 11) (v := _) rfl (by kernel_rfl) (by kernel_rfl) (by kernel_rfl) (fun _ _ _ h => h) (by first | exact Or.inl ⟨by rfl, (by intro u hSu; clear hSu; go_simp; try with_reducible rfl)⟩ | exact Or.inr ⟨by rfl, rfl⟩) kS ?_; (try simp only [Act.put, List.setIfInBounds_toArray, List.set_cons_zero, List.set_cons_succ]))
    refine wpAnyH_done (by kernel_rfl) ?_ _
    go_wp2_with fail
    refine bodyPost_ret (results_kn2 E.out rfl _ rfl (hBKl.out gb)) rfl ?_
    exact ⟨gb, rfl, E.out.bel, fun i v hv => (E.out.row (g := gb)).cell i v hv, E.out.bs (by simp), (E.out.res (.row gb 22 [.slice A 8 c]) (by simp)).1⟩
set_option maxHeartbeats 4000000 in
set_option maxRecDepth 100000 in
/-- With punch, where the block lacks its bit 30: a copy that has it. -/
theorem read_st (A : Option Addr) (c : Nat) (xs : List Nat) (w : World) (h : Bs w w.heap.size A 8 xs) (hp : bt xs true 30 = false) (hK : cellsF 8 (i64s kbL) w) (hDf : cellsF 2 (i64s [30, 1]) w) :
    Calls Tryd.prog 23 #[.slice A 8 c, .bool true] w fun e w' => ∃ gb A' c', e = .returned (.tuple #[.agg (bkL (pD (pxs true xs)) (pF (pxs true xs)) (pZ (pxs true xs)) ((kdN true xs : Nat) : Int) (((kdN true xs : Nat) : Int) == 3) (some gb)).toArray, .int .i64 0]) ∧ Below w.heap.size w w' ∧ cellsF gb [.slice A' 8 c'] w' ∧ Bs w' w'.heap.size A' 8 (pxs true xs) ∧ w.heap.size ≤ gb := by
  have E := Lib.hid ((((Kn.start w).arg_bs h).arg_cells hDf).arg_cells hK)
  have hQ := Lib.hid (fun u hu => show Calls Tryd.prog 21 #[.slice A 8 c] u (fun e w' => e = .returned (.tuple #[.agg (blk false (pF xs) (pZ xs)).toArray, .int .i64 0]) ∧ Below u.heap.size u w') from by
    have k := parts_ok A c xs u hu
    rw [show pD xs = false from hp] at k
    exact k)
  have hyl : (pxs true xs).length = 8 := by rw [pxs_length]; exact h.1
  have hQ2 := Lib.hid (fun A c u hu => parts_ok A c (pxs true xs) u hu)
  have hS := Lib.hid (fun u hu => show Calls Tryd.prog 35 #[.slice A 8 c, .int .i64 30, .int .i64 1, .int .u64 1] u (Laid u (pxs true xs) 0) from setHigh_ok A 8 c 30 1 1 xs u hu (by omega) (by omega) (by omega) (by omega) (by decide))
  have hBa := Lib.hid (fun u => bases_any (pD (pxs true xs)) (pF (pxs true xs)) (pZ (pxs true xs)) u (pZ_length _) (ok_parts _))
  obtain ⟨far, hfar⟩ : ∃ z, farP (pD (pxs true xs)) (pZ (pxs true xs)) 3 = z := ⟨_, rfl⟩
  have hkf := kb_at true xs far hfar
  rw [hfar] at hBa
  have hkb := Lib.hid ((i64s_get kbL far hkf.2).trans (congrArg (fun z => some (Value.int .i64 z)) hkf.1))
  have hf4 : (far : Int) < 4 := by omega
  have hz0 := Lib.hid (pZ_length xs)
  have hz := Lib.hid (pZ_length (pxs true xs))
  have hbk := Lib.hid (show (blk (pD (pxs true xs)) (pF (pxs true xs)) (pZ (pxs true xs))).length = 26 from blk_length (by have := pZ_length (pxs true xs); omega))
  have hbl := Lib.hid (baV_length (pD (pxs true xs)) (pZ (pxs true xs)))
  have hBK := fun (gb : Nat) (u : World) => built_bk (pD (pxs true xs)) (pF (pxs true xs)) (pZ (pxs true xs)) (pZ_length _) ((kdN true xs : Nat) : Int) (((kdN true xs : Nat) : Int) == 3) gb u
  have hBKl := Lib.hid (fun gb => bkL_length (pD (pxs true xs)) (pF (pxs true xs)) (pZ (pxs true xs)) ((kdN true xs : Nat) : Int) (((kdN true xs : Nat) : Int) == 3) (some gb) (pZ_length _))
  have hBK1 := Lib.hid (fun gb => bkL_one (pD (pxs true xs)) (pF (pxs true xs)) (pZ (pxs true xs)) ((kdN true xs : Nat) : Int) (((kdN true xs : Nat) : Int) == 3) (some gb))
  have hz24 := Lib.hid z24_length
  have hzb := Lib.hid (bkL_length false false z24 0 false none rfl)
  have hd0 : Hid ((i64s [30, 1])[0]? = some (.int .i64 30)) := rfl
  have hd1 : Hid ((i64s [30, 1])[1]? = some (.int .i64 1)) := rfl
  replace hyl := Lib.hid hyl
  clear h hp hK hDf hkf hfar
  generalize ((kdN true xs : Nat) : Int) = kv at *
  generalize pxs true xs = ys at *
  generalize baV (pD ys) (pZ ys) = BA at *
  generalize pD ys = d at *
  generalize pF ys = f at *
  generalize pZ ys = Z at *
  generalize pF xs = f0 at *
  generalize pZ xs = Z0 at *
  go_enter Tryd.func23, Tryd.ntmps23
  go_wp2_with (first
    | (go_at_call 21; (first
        | ((with_reducible refine (hQ.out _ ?hB).mono ?_); (case hB => exact E.out.bs (by simp)); clear hQ; rintro e w1 ⟨rfl, hb⟩; have E1 := Lib.hid (E.out.later hb); clear hb E; have E := E1; clear E1)
        | ((with_reducible refine (hQ2.out _ _ _ ?hB).mono ?_); (case hB => exact E.out.bs (by simp)); clear hQ2; rintro e w1 ⟨rfl, hb⟩; have E1 := Lib.hid (E.out.later hb); clear hb E; have E := E1; clear E1)))
    | (go_at_call 35; (with_reducible refine (hS.out _ ?hB).mono ?_); (case hB => exact E.out.bs (by simp)); clear hS; rintro e w1 ⟨A1, n1, c1, rfl, hB1, hn1, hc1, hb⟩; obtain rfl : n1 = 8 := hB1.1.symm.trans hyl.out; have E1 := Lib.hid (E.out.later hb); clear hb E; have E := E1; clear E1; have E1 := Lib.hid (E.out.new_bsi hB1); clear E hB1; have E := E1; clear E1)
    | ((with_reducible refine kn_bputall (g := g6) E.out rfl rfl rfl rfl rfl ?h1 ?h2 ?_); (case h1 => exact hz24.out); (case h2 => exact hz0.out); clear E; intro u E0; have E := Lib.hid E0; clear E0)
    | ((with_reducible refine kn_bputall (g := g6) E.out rfl rfl rfl rfl rfl ?h1 ?h2 ?_); (case h1 => exact hz0.out); (case h2 => exact hz.out); clear E; intro u E0; have E := Lib.hid E0; clear E0)
    | ((with_reducible refine kn_bd_if (g := g6) E.out rfl rfl rfl ?_))
    | ((with_reducible refine kn_gload (g := 2) (i := 0) E.out rfl rfl rfl ?h1 hd0.out ?_); (case h1 => simp))
    | ((with_reducible refine kn_gload (g := 2) (i := 1) E.out rfl rfl rfl ?h1 hd1.out ?_); (case h1 => simp))
    | (go_at_call 22; (with_reducible refine (hBa.out _).mono ?_); clear hBa; rintro e w1 ⟨rfl, hb⟩; have E1 := Lib.hid (E.out.later hb); clear hb E; have E := E1; clear E1) | ((with_reducible refine kn_stores (g := g9) (vs := i64s BA) E.out rfl rfl rfl rfl rfl ?hl ?h1 ?_); (case hl => exact ⟨rfl, by rw [i64s_length]; exact hbl.out⟩); (case h1 => exact i64s_one _); clear E; intro u E0; have E := Lib.hid E0; clear E0) | ((with_reducible refine kn_gload (g := 8) (i := far) E.out rfl rfl rfl ?h1 hkb.out ?_); (case h1 => simp)) | ((with_reducible refine kn_ball (g := g6) E.out rfl rfl rfl ?h1 ?_); (case h1 => exact hz.out))
    | ((with_reducible refine kn_load E.out rfl rfl rfl rfl ?_)) | ((with_reducible refine kn_load_if E.out rfl rfl rfl rfl ?_)) | ((with_reducible refine kn_loads E.out rfl rfl rfl ?_ ?_); (focus (first | rfl | (simp only [i64s_length, u8s_length]; first | rfl | assumption | omega)))) | ((with_reducible refine kn_loads_if E.out rfl rfl rfl ?_ ?_); (focus (first | rfl | (simp only [i64s_length, u8s_length]; first | rfl | assumption | omega)))) | ((with_reducible refine kn_stores E.out rfl rfl rfl rfl rfl ?_ ?_ ?_); (focus (first | exact ⟨rfl, rfl⟩ | (simp only [i64s_length, u8s_length]; refine ⟨?_, ?_⟩ <;> first | rfl | assumption | omega))); (focus (first | exact i64s_one _ | exact u8s_one _ | simp [Value.oneCell'])); clear E; intro u E0; have E := Lib.hid E0; clear E0) | ((with_reducible refine kn_alloc (o := ⟨some 4, _, _, _, _, _⟩) E.out rfl rfl ?_); clear E; intro g4 u E0 hb0; have E := Lib.hid E0; clear E0 hb0) | ((with_reducible refine kn_box (o := ⟨some 4, _, _, _, _, _⟩) E.out rfl rfl rfl ?_); clear E; intro g4 u E0 hb0; have E := Lib.hid E0; clear E0 hb0) | ((with_reducible refine kn_box_int (o := ⟨some 4, _, _, _, _, _⟩) E.out rfl rfl rfl ?_); clear E; intro g4 u E0 hb0; have E := Lib.hid E0; clear E0 hb0) | ((with_reducible refine kn_box_slice (o := ⟨some 4, _, _, _, _, _⟩) E.out rfl rfl rfl ?_); clear E; intro g4 u E0 hb0; have E := Lib.hid E0; clear E0 hb0) | ((with_reducible refine kn_box_bool (o := ⟨some 4, _, _, _, _, _⟩) E.out rfl rfl rfl ?_); clear E; intro g4 u E0 hb0; have E := Lib.hid E0; clear E0 hb0) | ((with_reducible refine kn_box_func (o := ⟨some 4, _, _, _, _, _⟩) E.out rfl rfl rfl ?_); clear E; intro g4 u E0 hb0; have E := Lib.hid E0; clear E0 hb0) | ((with_reducible refine kn_alloc (o := ⟨some 6, _, _, _, _, _⟩) E.out rfl rfl ?_); clear E; intro g6 u E0 hb0; have E := Lib.hid E0; clear E0 hb0) | ((with_reducible refine kn_box (o := ⟨some 6, _, _, _, _, _⟩) E.out rfl rfl rfl ?_); clear E; intro g6 u E0 hb0; have E := Lib.hid E0; clear E0 hb0) | ((with_reducible refine kn_box_int (o := ⟨some 6, _, _, _, _, _⟩) E.out rfl rfl rfl ?_); clear E; intro g6 u E0 hb0; have E := Lib.hid E0; clear E0 hb0) | ((with_reducible refine kn_box_slice (o := ⟨some 6, _, _, _, _, _⟩) E.out rfl rfl rfl ?_); clear E; intro g6 u E0 hb0; have E := Lib.hid E0; clear E0 hb0) | ((with_reducible refine kn_box_bool (o := ⟨some 6, _, _, _, _, _⟩) E.out rfl rfl rfl ?_); clear E; intro g6 u E0 hb0; have E := Lib.hid E0; clear E0 hb0) | ((with_reducible refine kn_box_func (o := ⟨some 6, _, _, _, _, _⟩) E.out rfl rfl rfl ?_); clear E; intro g6 u E0 hb0; have E := Lib.hid E0; clear E0 hb0) | ((with_reducible refine kn_alloc (o := ⟨some 9, _, _, _, _, _⟩) E.out rfl rfl ?_); clear E; intro g9 u E0 hb0; have E := Lib.hid E0; clear E0 hb0) | ((with_reducible refine kn_box (o := ⟨some 9, _, _, _, _, _⟩) E.out rfl rfl rfl ?_); clear E; intro g9 u E0 hb0; have E := Lib.hid E0; clear E0 hb0) | ((with_reducible refine kn_box_int (o := ⟨some 9, _, _, _, _, _⟩) E.out rfl rfl rfl ?_); clear E; intro g9 u E0 hb0; have E := Lib.hid E0; clear E0 hb0) | ((with_reducible refine kn_box_slice (o := ⟨some 9, _, _, _, _, _⟩) E.out rfl rfl rfl ?_); clear E; intro g9 u E0 hb0; have E := Lib.hid E0; clear E0 hb0) | ((with_reducible refine kn_box_bool (o := ⟨some 9, _, _, _, _, _⟩) E.out rfl rfl rfl ?_); clear E; intro g9 u E0 hb0; have E := Lib.hid E0; clear E0 hb0) | ((with_reducible refine kn_box_func (o := ⟨some 9, _, _, _, _, _⟩) E.out rfl rfl rfl ?_); clear E; intro g9 u E0 hb0; have E := Lib.hid E0; clear E0 hb0))
  (refine wp_region_held_drew (S := Kn w [.row g6 48 (blk d f Z)] []) (by kernel_rfl) (E.out.drew.part _ _ (by repeat (first | exact List.Sublist.refl _ | apply List.Sublist.cons_cons | apply List.Sublist.cons)) (by simp)) (fun kS => ?_)); have E1 := Lib.hid E.out.drew; generalize World.drew _ = u1 at kS E1 ⊢; clear E; have E := E1; clear E1; (refine takeL (i := 0) (v := .agg (blk d f Z).toArray) rfl (by kernel_rfl) (by kernel_rfl) (by kernel_rfl) (fun _ _ _ h => h) (yield_loads (g := g6) rfl rfl rfl hbk.out) kS ?_; (try simp only [Act.put, List.setIfInBounds_toArray, List.set_cons_zero, List.set_cons_succ]))
  (refine takeL (i := 1) (v := _) rfl (by kernel_rfl) (by kernel_rfl) (by kernel_rfl) (fun _ _ _ h => h) (by first | exact Or.inl ⟨by rfl, (by intro u hSu; clear hSu; go_simp; try with_reducible rfl)⟩ | exact Or.inr ⟨by rfl, rfl⟩) kS ?_; (try simp only [Act.put, List.setIfInBounds_toArray, List.set_cons_zero, List.set_cons_succ])); (refine takeL (i := 2) (v := _) rfl (by kernel_rfl) (by kernel_rfl) (by kernel_rfl) (fun _ _ _ h => h) (by first | exact Or.inl ⟨by rfl, (by intro u hSu; clear hSu; go_simp; try with_reducible rfl)⟩ | exact Or.inr ⟨by rfl, rfl⟩) kS ?_; (try simp only [Act.put, List.setIfInBounds_toArray, List.set_cons_zero, List.set_cons_succ])); (refine takeL (i := 3) (v := _) rfl (by kernel_rfl) (by kernel_rfl) (by kernel_rfl) (fun _ _ _ h => h) (by first | exact Or.inl ⟨by rfl, (by intro u hSu; clear hSu; go_simp; try with_reducible rfl)⟩ | exact Or.inr ⟨by rfl, rfl⟩) kS ?_; (try simp only [Act.put, List.setIfInBounds_toArray, List.set_cons_zero, List.set_cons_succ]))
  (refine takeL (i := 4) (v := _) rfl (by kernel_rfl) (by kernel_rfl) (by kernel_rfl) (fun _ _ _ h => h) (by first | exact Or.inl ⟨by rfl, (by intro u hSu; clear hSu; go_simp; try with_reducible rfl)⟩ | exact Or.inr ⟨by rfl, rfl⟩) kS ?_; (try simp only [Act.put, List.setIfInBounds_toArray, List.set_cons_zero, List.set_cons_succ])); (refine takeL (i := 5) (v := _) rfl (by kernel_rfl) (by kernel_rfl) (by kernel_rfl) (fun _ _ _ h => h) (by first | exact Or.inl ⟨by rfl, (by intro u hSu; clear hSu; go_simp; try with_reducible rfl)⟩ | exact Or.inr ⟨by rfl, rfl⟩) kS ?_; (try simp only [Act.put, List.setIfInBounds_toArray, List.set_cons_zero, List.set_cons_succ])); (refine takeL (i := 6) (v := _) rfl (by kernel_rfl) (by kernel_rfl) (by kernel_rfl) (fun _ _ _ h => h) (by first | exact Or.inl ⟨by rfl, (by intro u hSu; clear hSu; go_simp; try with_reducible rfl)⟩ | exact Or.inr ⟨by rfl, rfl⟩) kS ?_; (try simp only [Act.put, List.setIfInBounds_toArray, List.set_cons_zero, List.set_cons_succ])); (refine takeL (i := 7) (v := _) rfl (by kernel_rfl) (by kernel_rfl) (by kernel_rfl) (fun _ _ _ h => h) (by first | exact Or.inl ⟨by rfl, (by intro u hSu; clear hSu; go_simp; try with_reducible rfl)⟩ | exact Or.inr ⟨by rfl, rfl⟩) kS ?_; (try simp only [Act.put, List.setIfInBounds_toArray, List.set_cons_zero, List.set_cons_succ]))
  refine callL (i := 8) rfl (by kernel_rfl) (fun K hK => ?_)
  (go_simp; refine (reader2 _ 8 _ _).mono ?_; rintro e' w1 ⟨gb, rfl, hg1, hr1, hb⟩; have E1 := Lib.hid (E.out.newrow hb hg1 hr1); clear E hb hg1 hr1; have E := E1; clear E1; go_wp2_with fail; (refine hK.out _ _ (E.out.part _ _ (by repeat (first | exact List.Sublist.refl _ | apply List.Sublist.cons_cons | apply List.Sublist.cons)) (by simp)) (fun kS => ?_); clear hK K; (try simp only [Act.put, List.setIfInBounds_toArray, List.set_cons_zero, List.set_cons_succ])))
  (refine takeL (i := 9) (v := .agg (bkL d f Z kv (kv == 3) (some gb)).toArray) rfl (by kernel_rfl) (by kernel_rfl) (by kernel_rfl) (fun _ _ _ h => h) (yield_build4 rfl rfl (hBK gb) (by simp only [List.map_toArray, List.map_cons, List.map_nil]; rfl)) kS ?_; (try simp only [Act.put, List.setIfInBounds_toArray, List.set_cons_zero, List.set_cons_succ]))
  refine callL (i := 10) rfl (by kernel_rfl) (fun K hK => ?_)
  (rw [if_pos (by rfl)]; refine wp_kn_stores (g := g4) (vs := bkL d f Z kv (kv == 3) (some gb)) E.out rfl rfl rfl rfl ⟨by first | exact hzb.out | rfl, hBKl.out gb⟩ (hBK1.out gb) ?_; clear E kS; intro u E0; have E := Lib.hid E0; clear E0; (refine hK.out _ _ (E.out.part _ _ (by repeat (first | exact List.Sublist.refl _ | apply List.Sublist.cons_cons | apply List.Sublist.cons)) (by simp)) (fun kS => ?_); clear hK K; (try simp only [Act.put, List.setIfInBounds_toArray, List.set_cons_zero, List.set_cons_succ])))
  (refine takeL (i := 11) (v := _) rfl (by kernel_rfl) (by kernel_rfl) (by kernel_rfl) (fun _ _ _ h => h) (by first | exact Or.inl ⟨by rfl, (by intro u hSu; clear hSu; go_simp; try with_reducible rfl)⟩ | exact Or.inr ⟨by rfl, rfl⟩) kS ?_; (try simp only [Act.put, List.setIfInBounds_toArray, List.set_cons_zero, List.set_cons_succ]))
  refine wpAnyH_done (by kernel_rfl) ?_ _
  go_wp2_with fail
  refine bodyPost_ret (results_kn2 E.out rfl _ rfl (hBKl.out gb)) rfl ?_
  exact ⟨gb, _, _, rfl, E.out.bel, fun i v hv => (E.out.row (g := gb)).cell i v hv, E.out.bs (by simp), (E.out.res (.row gb 22 [.slice A1 8 c1]) (by simp)).1⟩
theorem read2 (A : Option Addr) (c : Nat) (p : Bool) (xs : List Nat) (w : World) (h : Bs w w.heap.size A 8 xs) (hK : cellsF 8 (i64s kbL) w) (hDf : cellsF 2 (i64s [30, 1]) w) :
    Calls Tryd.prog 23 #[.slice A 8 c, .bool p] w fun e w' => ∃ gb A' c', e = .returned (.tuple #[.agg (bkL (pD (pxs p xs)) (pF (pxs p xs)) (pZ (pxs p xs)) ((kdN p xs : Nat) : Int) (opk p xs) (some gb)).toArray, .int .i64 0]) ∧ Below w.heap.size w w' ∧ cellsF gb [.slice A' 8 c'] w' ∧ Bs w' w'.heap.size A' 8 (pxs p xs) ∧ w.heap.size ≤ gb := by
  by_cases ho : opq p xs = true
  · have hpx : pxs p xs = xs := by
      cases p
      · rfl
      · exact pxs_same xs h.1 h.2.1 (by simpa [opq] using ho) true
    have hk : opk p xs = true := by unfold opk; rw [ho]; rfl
    rw [hpx, hk]
    exact (read_yes A c p xs w h ho hK).mono fun e w' ⟨gb, h1, h2, h3, h4, h5⟩ => ⟨gb, A, c, h1, h2, h3, h4, h5⟩
  · have hp : p = true := by
      cases p
      · exact absurd rfl ho
      · rfl
    subst hp
    have hb : bt xs true 30 = false := by
      cases hq : bt xs true 30
      · rfl
      · exact absurd (by unfold opq; rw [hq]; rfl) ho
    have hk : opk true xs = (((kdN true xs : Nat) : Int) == 3) := by
      unfold opk
      rw [show opq true xs = false from by unfold opq; rw [hb]; rfl, Bool.false_or, Bool.eq_iff_iff, decide_eq_true_iff, beq_iff_eq]
      omega
    rw [hk]
    exact read_st A c xs w h hb hK hDf
end Go.Proofs.YtgcijioiicmjiaaDoor
