/- ETC2 blocks, the document's: bits by their places, colours, distances. -/
import Derived.Test.YtgcijioiicmjiaaDoorE2T
import Derived.Test.YtgcijioiicmjiaaDoorG2
set_option linter.all false
namespace Go.Proofs.YtgcijioiicmjiaaDoor
open Go.RowKit
open Bi Lv Eo Et

instance zeroThree : ZeroV 34 (i64s [0, 0, 0]) := .of (by kernel_rfl)
theorem Kn.see {w u : World} {R : List Res} {F : List (World → Prop)} (E : Kn w R F u) {g : Nat} {t : TypeId} {vs : List Value} [S : Sees R F g t vs] : cellsF g vs u := fun i v hv => (S.h E : Row u g t vs).cell i v hv
namespace Et
def ints (ls : List Nat) : List Int := ls.map fun (i : Nat) => (i : Int)
theorem ints_getElem? (ls : List Nat) (i : Nat) (h : i < ls.length) : (i64s (ints ls))[i]? = some (Value.int .i64 ((ls.getD i 0 : Nat) : Int)) := by
  rw [i64s_get _ _ (by unfold ints; rw [List.length_map]; exact h)]
  unfold ints
  rw [List.getD_eq_getElem?_getD, List.getElem?_map, List.getD_eq_getElem?_getD, List.getElem?_eq_getElem h]
  rfl
end Et
set_option maxHeartbeats 1000000 in
set_option maxRecDepth 100000 in
theorem run11 (A : Option Addr) (c : Nat) (xs : List Nat) (a b m : Nat) (w : World) (h : Bs w w.heap.size A 8 xs) (hb : a + m = b + 1) (h64 : b < 64) (h16 : m ≤ 16) :
    Calls Tryd.prog 41 #[.slice A 8 c, .int .i64 (a : Int), .int .i64 (b : Int)] w fun e w' => e = .returned (.int .i64 (G xs a m)) ∧ Below w.heap.size w w' := by
  have E := Lib.hid ((Kn.start w).arg_bs h)
  have ht := Lib.hid (fun u hu => top_any A 8 c (a : Int) ((b : Int) - (a : Int) + 1) a m rfl (by omega) xs u.heap.size u hu (by omega) h16 (by omega))
  clear h
  go_enter Tryd.func41, Tryd.ntmps41
  go_wp2_with (first
    | (go_at_call 27; (with_reducible refine (ht.out _ ?h1).mono ?_); (case h1 => exact E.out.bs (by simp)); rintro e w1 ⟨rfl, rfl⟩)
    | ((with_reducible refine kn_load E.out rfl rfl rfl rfl ?_)) | ((with_reducible refine kn_load_if E.out rfl rfl rfl rfl ?_)) | ((with_reducible refine kn_loads E.out rfl rfl rfl ?_ ?_); (focus (first | rfl | (simp only [i64s_length, u8s_length]; first | rfl | assumption | omega)))) | ((with_reducible refine kn_loads_if E.out rfl rfl rfl ?_ ?_); (focus (first | rfl | (simp only [i64s_length, u8s_length]; first | rfl | assumption | omega)))) | ((with_reducible refine kn_stores E.out rfl rfl rfl rfl rfl ?_ ?_ ?_); (focus (first | exact ⟨rfl, rfl⟩ | (simp only [i64s_length, u8s_length]; refine ⟨?_, ?_⟩ <;> first | rfl | assumption | omega))); (focus (first | exact i64s_one _ | exact u8s_one _ | simp [Value.oneCell'])); clear E; intro u E0; have E := Lib.hid E0; clear E0))
  go_ret
  exact ⟨rfl, E.out.bel⟩
namespace Et
end Et
end Go.Proofs.YtgcijioiicmjiaaDoor
