/- BconeBlocks: any block's parts and texels, and the block of any parts, are as the document says; no condition. -/
import Derived.Test.YteefmgchkhbdpaaRows
import Derived.Test.YteefmgchkhbdpaaBcAwake
import Derived.Test.YteefmgchkhbdpaaSame
import Derived.Test.YteefmgchkhbdpaaOpen
import Derived.Test.YteefmgchkhbdpaaOpenArr
import Derived.OpenShut
import Derived.ShutString
import Derived.ChangeOld
import Derived.Below
namespace Go.Proofs.Yteefmgchkhbdpaa.bconeBlocks
open Go.ChangeShapes Go.WideShapes Go.ChangeAt Go.RowKit
open Bi Lv Bc

/-- The indices out of eighteen numbers, the first k of them. -/
def wK (l : List Int) : Nat → List Int
  | 0 => z16
  | k + 1 => (wK l k).set k (l.getD (k + 2) 0)
theorem wK_length (l : List Int) : ∀ k, (wK l k).length = 16
  | 0 => rfl
  | k + 1 => by rw [wK, List.length_set, wK_length l k]

set_option maxHeartbeats 2000000 in
set_option maxRecDepth 100000 in
theorem long (A : Option Addr) (n c : Nat) (four : Bool) (l : List Int) (w : World) (hn : 40 < n) :
    Calls Try.prog 5 #[.slice A n c, .bool four, arr l] w fun e w' => e = .returned (.bool true) ∧ Below w.heap.size w w' := by
  have hA := Lib.hid awake_yes
  have E := Lib.hid (Kn.start w)
  have hn' : 40 < (n : Int) := by omega
  go_enter Try.func5, Try.ntmps5
  go_wp2_with (first
    | (go_at_call 19; refine (hA.out _).mono ?_; clear hA; rintro e w1 ⟨rfl, hb⟩; have E1 := Lib.hid (E.out.later hb); clear hb E; have E := E1; clear E1)
    | ((with_reducible refine kn_load E.out rfl rfl rfl rfl ?_)) | ((with_reducible refine kn_load_if E.out rfl rfl rfl rfl ?_)) | ((with_reducible refine kn_loads E.out rfl rfl rfl ?_ ?_); (focus (first | rfl | (simp only [i64s_length, u8s_length]; first | rfl | assumption | omega)))) | ((with_reducible refine kn_loads_if E.out rfl rfl rfl ?_ ?_); (focus (first | rfl | (simp only [i64s_length, u8s_length]; first | rfl | assumption | omega)))) | ((with_reducible refine kn_store1_int E.out rfl rfl rfl rfl rfl ?_); clear E; intro u E0; have E := Lib.hid E0; clear E0) | ((with_reducible refine kn_store1_slice E.out rfl rfl rfl rfl rfl ?_); clear E; intro u E0; have E := Lib.hid E0; clear E0) | ((with_reducible refine kn_store1_bool E.out rfl rfl rfl rfl rfl ?_); clear E; intro u E0; have E := Lib.hid E0; clear E0) | ((with_reducible refine kn_stores E.out rfl rfl rfl rfl rfl ?_ ?_ ?_); (focus (first | exact ⟨rfl, rfl⟩ | (simp only [i64s_length, u8s_length]; refine ⟨?_, ?_⟩ <;> first | rfl | assumption | omega))); (focus (first | exact i64s_one _ | exact u8s_one _ | simp [Value.oneCell'])); clear E; intro u E0; have E := Lib.hid E0; clear E0) | ((with_reducible refine kn_alloc (o := ⟨some 5, _, _, _, _, _⟩) E.out rfl rfl ?_); clear E; intro g5 u E0 hb0; have E := Lib.hid E0; clear E0 hb0) | ((with_reducible refine kn_box (o := ⟨some 5, _, _, _, _, _⟩) E.out rfl rfl rfl ?_); clear E; intro g5 u E0 hb0; have E := Lib.hid E0; clear E0 hb0) | ((with_reducible refine kn_box_int (o := ⟨some 5, _, _, _, _, _⟩) E.out rfl rfl rfl ?_); clear E; intro g5 u E0 hb0; have E := Lib.hid E0; clear E0 hb0) | ((with_reducible refine kn_box_slice (o := ⟨some 5, _, _, _, _, _⟩) E.out rfl rfl rfl ?_); clear E; intro g5 u E0 hb0; have E := Lib.hid E0; clear E0 hb0) | ((with_reducible refine kn_box_bool (o := ⟨some 5, _, _, _, _, _⟩) E.out rfl rfl rfl ?_); clear E; intro g5 u E0 hb0; have E := Lib.hid E0; clear E0 hb0) | ((with_reducible refine kn_box_func (o := ⟨some 5, _, _, _, _, _⟩) E.out rfl rfl rfl ?_); clear E; intro g5 u E0 hb0; have E := Lib.hid E0; clear E0 hb0) | ((with_reducible refine kn_alloc E.out rfl rfl ?_); clear E; intro g u E0 hb0; have E := Lib.hid E0; clear E0 hb0) | ((with_reducible refine kn_box E.out rfl rfl rfl ?_); clear E; intro g u E0 hb0; have E := Lib.hid E0; clear E0 hb0) | ((with_reducible refine kn_box_int E.out rfl rfl rfl ?_); clear E; intro g u E0 hb0; have E := Lib.hid E0; clear E0 hb0) | ((with_reducible refine kn_box_slice E.out rfl rfl rfl ?_); clear E; intro g u E0 hb0; have E := Lib.hid E0; clear E0 hb0) | ((with_reducible refine kn_box_bool E.out rfl rfl rfl ?_); clear E; intro g u E0 hb0; have E := Lib.hid E0; clear E0 hb0) | ((with_reducible refine kn_box_func E.out rfl rfl rfl ?_); clear E; intro g u E0 hb0; have E := Lib.hid E0; clear E0 hb0))
  go_ret
  exact ⟨rfl, E.out.bel⟩

set_option maxHeartbeats 8000000 in
set_option maxRecDepth 100000 in
theorem short (A : Option Addr) (n c : Nat) (xs : List Nat) (four : Bool) (l : List Int) (w : World) (h : Bs w w.heap.size A n xs) (hn : n ≤ 40) (hl : l.length = 18)
    (pa pb er : Int) (zw tt : List Int) (hW : zw.length = 16) (hT : tt.length = 64)
    (hP : Hid (∀ u, Bs u u.heap.size A n xs → Calls Try.prog 27 #[.slice A n c] u fun e w' => e = .returned (.tuple #[.int .i64 pa, .int .i64 pb, arr zw, .int .i64 er]) ∧ Below u.heap.size u w'))
    (hQ : Hid (∀ u, Bs u u.heap.size A n xs → Calls Try.prog 28 #[.slice A n c] u fun e w' => e = .returned (.tuple #[.int .i64 pa, .int .i64 pb, arr zw, .int .i64 er]) ∧ Below u.heap.size u w'))
    (hD : Hid (∀ u, Bs u u.heap.size A n xs → Calls Try.prog 29 #[.slice A n c, .bool four] u fun e w' => e = .returned (.tuple #[arr tt, .int .i64 er]) ∧ Below u.heap.size u w'))
    (hR : Hid (∀ u, Bs u u.heap.size A n xs → Calls Try.prog 30 #[.slice A n c, .bool four] u fun e w' => e = .returned (.tuple #[arr tt, .int .i64 er]) ∧ Below u.heap.size u w')) :
    Calls Try.prog 5 #[.slice A n c, .bool four, arr l] w fun e w' => e = .returned (.bool true) ∧ Below w.heap.size w w' := by
  have hA := Lib.hid awake_yes
  have E := Lib.hid ((Kn.start w).arg_bs h)
  have hn' : ¬ 40 < (n : Int) := by omega
  have hwl := wK_length l
  have hws := Lib.hid (fun k => show wK l (k + 1) = (wK l k).set k (l.getD (k + 2) 0) from rfl)
  have hw0 := Lib.hid (show wK l 0 = z16 from rfl)
  have hJ := Lib.hid (fun a b u => bjoin_any a b (wK l 16) u (hwl 16))
  have hK := Lib.hid (fun a b u => rbjoin_any a b (wK l 16) u (hwl 16))
  have hS := Lib.hid (fun (A1 A2 : Option Addr) (m1 m2 c1 c2 : Nat) (ys : List Nat) (u : World) (h1 : Bs u u.heap.size A1 m1 ys) (h2 : Bs u u.heap.size A2 m2 ys) (hm : m1 ≤ 9223372036854775807) => show Calls Try.prog 33 #[.slice A1 m1 c1, .slice A2 m2 c2] u (Told true u) from by
    have k := same_any A1 A2 m1 m2 c1 c2 ys ys _ _ u h1 h2 hm
    rw [decide_eq_true rfl] at k
    exact k)
  have q1 : ∀ u, (Op.equalIn 10000 51 (arr zw) (arr zw)).run Try.prog u = .ok true u := fun u => by rw [eq_which zw zw hW hW u]; simp
  have q2 : ∀ u, (Op.equalIn 10000 55 (arr tt) (arr tt)).run Try.prog u = .ok true u := fun u => by rw [eq_tile tt tt hT hT u]; simp
  clear h
  replace hwl := Lib.hid hwl
  generalize wK l = wk at *
  go_enter Try.func5, Try.ntmps5
  go_wp2_with (first
    | (go_at_call 19; refine (hA.out _).mono ?_; clear hA; rintro e w1 ⟨rfl, hb⟩; have E1 := Lib.hid (E.out.later hb); clear hb E; have E := E1; clear E1)
    | (go_at_call 27; refine (hP.out _ (E.out.bs (by simp))).mono ?_; clear hP; rintro e w2 ⟨rfl, hb⟩; have E1 := Lib.hid (E.out.later hb); clear hb E; have E := E1; clear E1)
    | (go_at_call 28; refine (hQ.out _ (E.out.bs (by simp))).mono ?_; clear hQ; rintro e w2 ⟨rfl, hb⟩; have E1 := Lib.hid (E.out.later hb); clear hb E; have E := E1; clear E1)
    | (go_at_call 29; refine (hD.out _ (E.out.bs (by simp))).mono ?_; clear hD; rintro e w2 ⟨rfl, hb⟩; have E1 := Lib.hid (E.out.later hb); clear hb E; have E := E1; clear E1)
    | (go_at_call 30; refine (hR.out _ (E.out.bs (by simp))).mono ?_; clear hR; rintro e w2 ⟨rfl, hb⟩; have E1 := Lib.hid (E.out.later hb); clear hb E; have E := E1; clear E1)
    | ((with_reducible refine kn_load E.out rfl rfl rfl rfl ?_)) | ((with_reducible refine kn_load_if E.out rfl rfl rfl rfl ?_)) | ((with_reducible refine kn_loads E.out rfl rfl rfl ?_ ?_); (focus (first | rfl | (simp only [i64s_length, u8s_length]; first | rfl | assumption | omega)))) | ((with_reducible refine kn_loads_if E.out rfl rfl rfl ?_ ?_); (focus (first | rfl | (simp only [i64s_length, u8s_length]; first | rfl | assumption | omega)))) | ((with_reducible refine kn_store1_int E.out rfl rfl rfl rfl rfl ?_); clear E; intro u E0; have E := Lib.hid E0; clear E0) | ((with_reducible refine kn_store1_slice E.out rfl rfl rfl rfl rfl ?_); clear E; intro u E0; have E := Lib.hid E0; clear E0) | ((with_reducible refine kn_store1_bool E.out rfl rfl rfl rfl rfl ?_); clear E; intro u E0; have E := Lib.hid E0; clear E0) | ((with_reducible refine kn_stores E.out rfl rfl rfl rfl rfl ?_ ?_ ?_); (focus (first | exact ⟨rfl, rfl⟩ | (simp only [i64s_length, u8s_length]; refine ⟨?_, ?_⟩ <;> first | rfl | assumption | omega))); (focus (first | exact i64s_one _ | exact u8s_one _ | simp [Value.oneCell'])); clear E; intro u E0; have E := Lib.hid E0; clear E0) | ((with_reducible refine kn_alloc (o := ⟨some 5, _, _, _, _, _⟩) E.out rfl rfl ?_); clear E; intro g5 u E0 hb0; have E := Lib.hid E0; clear E0 hb0) | ((with_reducible refine kn_box (o := ⟨some 5, _, _, _, _, _⟩) E.out rfl rfl rfl ?_); clear E; intro g5 u E0 hb0; have E := Lib.hid E0; clear E0 hb0) | ((with_reducible refine kn_box_int (o := ⟨some 5, _, _, _, _, _⟩) E.out rfl rfl rfl ?_); clear E; intro g5 u E0 hb0; have E := Lib.hid E0; clear E0 hb0) | ((with_reducible refine kn_box_slice (o := ⟨some 5, _, _, _, _, _⟩) E.out rfl rfl rfl ?_); clear E; intro g5 u E0 hb0; have E := Lib.hid E0; clear E0 hb0) | ((with_reducible refine kn_box_bool (o := ⟨some 5, _, _, _, _, _⟩) E.out rfl rfl rfl ?_); clear E; intro g5 u E0 hb0; have E := Lib.hid E0; clear E0 hb0) | ((with_reducible refine kn_box_func (o := ⟨some 5, _, _, _, _, _⟩) E.out rfl rfl rfl ?_); clear E; intro g5 u E0 hb0; have E := Lib.hid E0; clear E0 hb0) | ((with_reducible refine kn_alloc (o := ⟨some 10, _, _, _, _, _⟩) E.out rfl rfl ?_); clear E; intro g10 u E0 hb0; have E := Lib.hid E0; clear E0 hb0) | ((with_reducible refine kn_box (o := ⟨some 10, _, _, _, _, _⟩) E.out rfl rfl rfl ?_); clear E; intro g10 u E0 hb0; have E := Lib.hid E0; clear E0 hb0) | ((with_reducible refine kn_box_int (o := ⟨some 10, _, _, _, _, _⟩) E.out rfl rfl rfl ?_); clear E; intro g10 u E0 hb0; have E := Lib.hid E0; clear E0 hb0) | ((with_reducible refine kn_box_slice (o := ⟨some 10, _, _, _, _, _⟩) E.out rfl rfl rfl ?_); clear E; intro g10 u E0 hb0; have E := Lib.hid E0; clear E0 hb0) | ((with_reducible refine kn_box_bool (o := ⟨some 10, _, _, _, _, _⟩) E.out rfl rfl rfl ?_); clear E; intro g10 u E0 hb0; have E := Lib.hid E0; clear E0 hb0) | ((with_reducible refine kn_box_func (o := ⟨some 10, _, _, _, _, _⟩) E.out rfl rfl rfl ?_); clear E; intro g10 u E0 hb0; have E := Lib.hid E0; clear E0 hb0) | ((with_reducible refine kn_alloc (o := ⟨some 14, _, _, _, _, _⟩) E.out rfl rfl ?_); clear E; intro g14 u E0 hb0; have E := Lib.hid E0; clear E0 hb0) | ((with_reducible refine kn_box (o := ⟨some 14, _, _, _, _, _⟩) E.out rfl rfl rfl ?_); clear E; intro g14 u E0 hb0; have E := Lib.hid E0; clear E0 hb0) | ((with_reducible refine kn_box_int (o := ⟨some 14, _, _, _, _, _⟩) E.out rfl rfl rfl ?_); clear E; intro g14 u E0 hb0; have E := Lib.hid E0; clear E0 hb0) | ((with_reducible refine kn_box_slice (o := ⟨some 14, _, _, _, _, _⟩) E.out rfl rfl rfl ?_); clear E; intro g14 u E0 hb0; have E := Lib.hid E0; clear E0 hb0) | ((with_reducible refine kn_box_bool (o := ⟨some 14, _, _, _, _, _⟩) E.out rfl rfl rfl ?_); clear E; intro g14 u E0 hb0; have E := Lib.hid E0; clear E0 hb0) | ((with_reducible refine kn_box_func (o := ⟨some 14, _, _, _, _, _⟩) E.out rfl rfl rfl ?_); clear E; intro g14 u E0 hb0; have E := Lib.hid E0; clear E0 hb0) | ((with_reducible refine kn_alloc (o := ⟨some 16, _, _, _, _, _⟩) E.out rfl rfl ?_); clear E; intro g16 u E0 hb0; have E := Lib.hid E0; clear E0 hb0) | ((with_reducible refine kn_box (o := ⟨some 16, _, _, _, _, _⟩) E.out rfl rfl rfl ?_); clear E; intro g16 u E0 hb0; have E := Lib.hid E0; clear E0 hb0) | ((with_reducible refine kn_box_int (o := ⟨some 16, _, _, _, _, _⟩) E.out rfl rfl rfl ?_); clear E; intro g16 u E0 hb0; have E := Lib.hid E0; clear E0 hb0) | ((with_reducible refine kn_box_slice (o := ⟨some 16, _, _, _, _, _⟩) E.out rfl rfl rfl ?_); clear E; intro g16 u E0 hb0; have E := Lib.hid E0; clear E0 hb0) | ((with_reducible refine kn_box_bool (o := ⟨some 16, _, _, _, _, _⟩) E.out rfl rfl rfl ?_); clear E; intro g16 u E0 hb0; have E := Lib.hid E0; clear E0 hb0) | ((with_reducible refine kn_box_func (o := ⟨some 16, _, _, _, _, _⟩) E.out rfl rfl rfl ?_); clear E; intro g16 u E0 hb0; have E := Lib.hid E0; clear E0 hb0) | ((with_reducible refine kn_alloc (o := ⟨some 18, _, _, _, _, _⟩) E.out rfl rfl ?_); clear E; intro g18 u E0 hb0; have E := Lib.hid E0; clear E0 hb0) | ((with_reducible refine kn_box (o := ⟨some 18, _, _, _, _, _⟩) E.out rfl rfl rfl ?_); clear E; intro g18 u E0 hb0; have E := Lib.hid E0; clear E0 hb0) | ((with_reducible refine kn_box_int (o := ⟨some 18, _, _, _, _, _⟩) E.out rfl rfl rfl ?_); clear E; intro g18 u E0 hb0; have E := Lib.hid E0; clear E0 hb0) | ((with_reducible refine kn_box_slice (o := ⟨some 18, _, _, _, _, _⟩) E.out rfl rfl rfl ?_); clear E; intro g18 u E0 hb0; have E := Lib.hid E0; clear E0 hb0) | ((with_reducible refine kn_box_bool (o := ⟨some 18, _, _, _, _, _⟩) E.out rfl rfl rfl ?_); clear E; intro g18 u E0 hb0; have E := Lib.hid E0; clear E0 hb0) | ((with_reducible refine kn_box_func (o := ⟨some 18, _, _, _, _, _⟩) E.out rfl rfl rfl ?_); clear E; intro g18 u E0 hb0; have E := Lib.hid E0; clear E0 hb0) | ((with_reducible refine kn_alloc (o := ⟨some 20, _, _, _, _, _⟩) E.out rfl rfl ?_); clear E; intro g20 u E0 hb0; have E := Lib.hid E0; clear E0 hb0) | ((with_reducible refine kn_box (o := ⟨some 20, _, _, _, _, _⟩) E.out rfl rfl rfl ?_); clear E; intro g20 u E0 hb0; have E := Lib.hid E0; clear E0 hb0) | ((with_reducible refine kn_box_int (o := ⟨some 20, _, _, _, _, _⟩) E.out rfl rfl rfl ?_); clear E; intro g20 u E0 hb0; have E := Lib.hid E0; clear E0 hb0) | ((with_reducible refine kn_box_slice (o := ⟨some 20, _, _, _, _, _⟩) E.out rfl rfl rfl ?_); clear E; intro g20 u E0 hb0; have E := Lib.hid E0; clear E0 hb0) | ((with_reducible refine kn_box_bool (o := ⟨some 20, _, _, _, _, _⟩) E.out rfl rfl rfl ?_); clear E; intro g20 u E0 hb0; have E := Lib.hid E0; clear E0 hb0) | ((with_reducible refine kn_box_func (o := ⟨some 20, _, _, _, _, _⟩) E.out rfl rfl rfl ?_); clear E; intro g20 u E0 hb0; have E := Lib.hid E0; clear E0 hb0) | ((with_reducible refine kn_alloc E.out rfl rfl ?_); clear E; intro g u E0 hb0; have E := Lib.hid E0; clear E0 hb0) | ((with_reducible refine kn_box E.out rfl rfl rfl ?_); clear E; intro g u E0 hb0; have E := Lib.hid E0; clear E0 hb0) | ((with_reducible refine kn_box_int E.out rfl rfl rfl ?_); clear E; intro g u E0 hb0; have E := Lib.hid E0; clear E0 hb0) | ((with_reducible refine kn_box_slice E.out rfl rfl rfl ?_); clear E; intro g u E0 hb0; have E := Lib.hid E0; clear E0 hb0) | ((with_reducible refine kn_box_bool E.out rfl rfl rfl ?_); clear E; intro g u E0 hb0; have E := Lib.hid E0; clear E0 hb0) | ((with_reducible refine kn_box_func E.out rfl rfl rfl ?_); clear E; intro g u E0 hb0; have E := Lib.hid E0; clear E0 hb0))
  go_loopw [21] (fun i wr => ∃ k : Nat, k ≤ 16 ∧ i = .int .i64 k ∧ Hid (Kn w [.row g20 51 (i64s (wk k)), .row g18 55 (i64s tt), .row g16 55 (i64s tt), .row g14 51 (i64s zw), .row g10 51 (i64s zw), .row g5 50 (i64s l)] [bsF A n xs] wr)) (fun i _ => 16 - (intOf i).toNat)
  case atStart => exact ⟨0, by omega, rfl, by rw [hw0.out]; exact E⟩
  case round =>
    clear E
    obtain ⟨k, hk, rfl, E⟩ := hrel
    have hkl := hwl.out k
    by_cases hlt : k < 16
    · have hS1 := Lib.hid (hws.out k)
      clear hws hw0 hwl hJ hK hS q1 q2
      go_wp2_with (first
        | ((with_reducible refine kn_loadi (g := g5) E.out rfl rfl rfl ?hi ?_); (case hi => omega))
        | ((with_reducible refine kn_storei (g := g20) E.out rfl rfl rfl rfl rfl ?hi ?_); (case hi => omega); clear E; intro u E0; have E := Lib.hid E0; clear E0)
        | ((with_reducible refine kn_load E.out rfl rfl rfl rfl ?_)) | ((with_reducible refine kn_load_if E.out rfl rfl rfl rfl ?_)) | ((with_reducible refine kn_loads E.out rfl rfl rfl ?_ ?_); (focus (first | rfl | (simp only [i64s_length, u8s_length]; first | rfl | assumption | omega)))) | ((with_reducible refine kn_loads_if E.out rfl rfl rfl ?_ ?_); (focus (first | rfl | (simp only [i64s_length, u8s_length]; first | rfl | assumption | omega)))) | ((with_reducible refine kn_store1_int E.out rfl rfl rfl rfl rfl ?_); clear E; intro u E0; have E := Lib.hid E0; clear E0) | ((with_reducible refine kn_store1_slice E.out rfl rfl rfl rfl rfl ?_); clear E; intro u E0; have E := Lib.hid E0; clear E0) | ((with_reducible refine kn_store1_bool E.out rfl rfl rfl rfl rfl ?_); clear E; intro u E0; have E := Lib.hid E0; clear E0) | ((with_reducible refine kn_stores E.out rfl rfl rfl rfl rfl ?_ ?_ ?_); (focus (first | exact ⟨rfl, rfl⟩ | (simp only [i64s_length, u8s_length]; refine ⟨?_, ?_⟩ <;> first | rfl | assumption | omega))); (focus (first | exact i64s_one _ | exact u8s_one _ | simp [Value.oneCell'])); clear E; intro u E0; have E := Lib.hid E0; clear E0) | ((with_reducible refine kn_alloc E.out rfl rfl ?_); clear E; intro g u E0 hb0; have E := Lib.hid E0; clear E0 hb0) | ((with_reducible refine kn_box E.out rfl rfl rfl ?_); clear E; intro g u E0 hb0; have E := Lib.hid E0; clear E0 hb0) | ((with_reducible refine kn_box_int E.out rfl rfl rfl ?_); clear E; intro g u E0 hb0; have E := Lib.hid E0; clear E0 hb0) | ((with_reducible refine kn_box_slice E.out rfl rfl rfl ?_); clear E; intro g u E0 hb0; have E := Lib.hid E0; clear E0 hb0) | ((with_reducible refine kn_box_bool E.out rfl rfl rfl ?_); clear E; intro g u E0 hb0; have E := Lib.hid E0; clear E0 hb0) | ((with_reducible refine kn_box_func E.out rfl rfl rfl ?_); clear E; intro g u E0 hb0; have E := Lib.hid E0; clear E0 hb0))
      go_roundw
      case rel => exact ⟨k + 1, by omega, by go_num, by rw [hS1.out]; exact E⟩
      case measure => simp [intOf]; omega
    · obtain rfl : k = 16 := by omega
      clear hws hw0 hwl hlt
      have E1 := Lib.hid ((((((E.out.rest g20).rest g18).rest g16).rest g14).rest g10).rest g5)
      clear E
      have E := E1
      clear E1
      have hl0 : 0 < l.length := by omega
      have hl1 : 1 < l.length := by omega
      go_wp2_with (first
        | ((with_reducible refine kn_loadi (g := g5) E.out rfl rfl rfl ?hi ?_); (case hi => omega))
        | (go_at_call 31; refine (hJ.out _ _ _).mono ?_; clear hJ; rintro e w3 ⟨A1, n1, c1, rfl, hB1, hn1, hc1, hb⟩; have E1 := Lib.hid (E.out.later hb); clear hb E; have E := E1; clear E1; have E1 := Lib.hid (E.out.new_bs hB1); clear E hB1; have E := E1; clear E1)
        | (go_at_call 32; refine (hK.out _ _ _).mono ?_; clear hK; rintro e w3 ⟨A2, n2, c2, rfl, hB1, hn2, hc2, hb⟩; have E1 := Lib.hid (E.out.later hb); clear hb E; have E := E1; clear E1; have E1 := Lib.hid (E.out.new_bs hB1); clear E hB1; have E := E1; clear E1)
        | (go_at_call 33; refine (hS.out _ _ _ _ _ _ _ _ (E.out.bs (List.mem_cons_of_mem _ List.mem_cons_self)) (E.out.bs List.mem_cons_self) (by omega)).mono ?_; clear hS; rintro e w4 h4; have hb := h4.below; obtain ⟨rfl, -⟩ := h4; have E1 := Lib.hid (E.out.later hb); clear hb E; have E := E1; clear E1)
        | ((with_reducible refine kn_load E.out rfl rfl rfl rfl ?_)) | ((with_reducible refine kn_load_if E.out rfl rfl rfl rfl ?_)) | ((with_reducible refine kn_loads E.out rfl rfl rfl ?_ ?_); (focus (first | rfl | (simp only [i64s_length, u8s_length]; first | rfl | assumption | omega)))) | ((with_reducible refine kn_loads_if E.out rfl rfl rfl ?_ ?_); (focus (first | rfl | (simp only [i64s_length, u8s_length]; first | rfl | assumption | omega)))) | ((with_reducible refine kn_store1_int E.out rfl rfl rfl rfl rfl ?_); clear E; intro u E0; have E := Lib.hid E0; clear E0) | ((with_reducible refine kn_store1_slice E.out rfl rfl rfl rfl rfl ?_); clear E; intro u E0; have E := Lib.hid E0; clear E0) | ((with_reducible refine kn_store1_bool E.out rfl rfl rfl rfl rfl ?_); clear E; intro u E0; have E := Lib.hid E0; clear E0) | ((with_reducible refine kn_stores E.out rfl rfl rfl rfl rfl ?_ ?_ ?_); (focus (first | exact ⟨rfl, rfl⟩ | (simp only [i64s_length, u8s_length]; refine ⟨?_, ?_⟩ <;> first | rfl | assumption | omega))); (focus (first | exact i64s_one _ | exact u8s_one _ | simp [Value.oneCell'])); clear E; intro u E0; have E := Lib.hid E0; clear E0) | ((with_reducible refine kn_alloc E.out rfl rfl ?_); clear E; intro g u E0 hb0; have E := Lib.hid E0; clear E0 hb0) | ((with_reducible refine kn_box E.out rfl rfl rfl ?_); clear E; intro g u E0 hb0; have E := Lib.hid E0; clear E0 hb0) | ((with_reducible refine kn_box_int E.out rfl rfl rfl ?_); clear E; intro g u E0 hb0; have E := Lib.hid E0; clear E0 hb0) | ((with_reducible refine kn_box_slice E.out rfl rfl rfl ?_); clear E; intro g u E0 hb0; have E := Lib.hid E0; clear E0 hb0) | ((with_reducible refine kn_box_bool E.out rfl rfl rfl ?_); clear E; intro g u E0 hb0; have E := Lib.hid E0; clear E0 hb0) | ((with_reducible refine kn_box_func E.out rfl rfl rfl ?_); clear E; intro g u E0 hb0; have E := Lib.hid E0; clear E0 hb0))
      go_ret
      exact ⟨rfl, E.out.bel⟩

theorem walk (A : Option Addr) (n c : Nat) (xs : List Nat) (four : Bool) (l : List Int) (w : World) (h : Bs w w.heap.size A n xs) (hl : l.length = 18 * 1) :
    Calls Try.prog 5 #[.slice A n c, .bool four, arr l] w fun e w' => e = .returned (.bool true) ∧ Below w.heap.size w w' := by
  by_cases hn : n ≤ 40
  · by_cases h8 : n = 8
    · subst h8
      exact short A 8 c xs four l w h hn hl (paA xs) (paB xs) 0 (paW xs) (decT xs four) (paW_length xs) (decT_length xs four) (fun u hu => parts_ok A c xs u hu) (fun u hu => rparts_ok A c xs u hu) (fun u hu => decode_ok A c xs four u hu) (fun u hu => rdecode_ok A c xs four u hu)
    · exact short A n c xs four l w h hn hl 0 0 1 z16 z64 rfl z64_length (fun u _ => parts_no A n c u h8 (by omega)) (fun u _ => rparts_no A n c u h8 (by omega)) (fun u _ => decode_no A n c four u h8 (by omega)) (fun u _ => rdecode_no A n c four u h8 (by omega))
  · exact long A n c four l w (by omega)

theorem own : ownKnob Try.prog.godebug = none := by kernel_rfl
theorem laidOut : laidOutB Try.prog = true := by kernel_rfl

set_option maxRecDepth 100000 in
theorem lifted (os : Os) (started : os.Started) (H : Type) (enc : TypeId × Value → H) :
    ReturnsInHanded {} Try.checked os 5 .any (Rows.bconeBlocksSpec.pre6 enc Try.prog Try.f5 Rows.bconeBlocksRow.domain false) (Rows.bconeBlocksSpec.post enc Try.prog Try.f5 false true false false) := by
  refine returnsInHanded_of_change (C := Try.checked) own started (by kernel_rfl) Try.func5
    (ChangeSpec.witness6 (enc := enc) (C := Try.checked) false ⟨#[], #[.slice none 0 0, .bool false, .agg #[.int .i64 0, .int .i64 0, .int .i64 0, .int .i64 0, .int .i64 0, .int .i64 0, .int .i64 0, .int .i64 0, .int .i64 0, .int .i64 0, .int .i64 0, .int .i64 0, .int .i64 0, .int .i64 0, .int .i64 0, .int .i64 0, .int .i64 0, .int .i64 0]], []⟩ 8 (by kernel_rfl) (by kernel_rfl) (by kernel_rfl) (by kernel_rfl)) ?_
  intro W base args ds gs before hval0 hW hcnd _
  have hval : ∀ (j : Nat) t v, Try.f5.params[j]? = some t → args[j]? = some v → Value.okWide Try.prog W .any base t v := hval0
  have hW' := hW
  obtain ⟨p, q, hA0, hV, rfl, hfz, hnd⟩ := hW
  have hA : DataW.TrodAll enc Try.prog W 0 (fun _ => true) true Try.f5.params.toList args.toList ds p := hA0
  rw [Try.params5] at hA hval
  obtain ⟨v0, vs0, d0, ds0, p0, q0, hargs, rfl, rfl, h0, r0⟩ := trodAll_cons hA
  obtain ⟨v1, vs1, d1, ds1, p1, q1, rfl, rfl, rfl, h1, r1⟩ := trodAll_cons r0
  obtain ⟨v2, vs2, d2, ds2, p2, q2, rfl, rfl, rfl, h2, r2⟩ := trodAll_cons r1
  obtain ⟨rfl, rfl, rfl⟩ := trodAll_nil r2
  obtain rfl : args = #[v0, v1, v2] := by cases args; simp_all
  have lt0 : ∀ x ∈ p0, x.block < W.heap.size := by obtain ⟨m, hm⟩ := h0; exact DataW.trod_lt m _ _ _ hm
  have lt2 : ∀ x ∈ p2, x.block < W.heap.size := by obtain ⟨m, hm⟩ := h2; exact DataW.trod_lt m _ _ _ hm
  obtain ⟨rfl, rfl⟩ := trodVars_none hV
  obtain ⟨A0, n0, c0, xs0, rfl, hB0, hc0, hcm0⟩ := open_bytes Try.underlying22 Try.underlying5 (by kernel_rfl) (hval 0 22 v0 rfl rfl) h0
  obtain ⟨a1, rfl, rfl, rfl⟩ := open_bool Try.underlying4 (hval 1 4 v1 rfl rfl) h1
  obtain ⟨zs2, rfl, hl2, hz2⟩ := open_flat Try.underlying50 (Flat.array (n := 18) (m := 1) Try.underlying50 (by kernel_rfl) (by omega) (Flat.int Try.underlying3 (by kernel_rfl))) (hval 2 50 v2 rfl rfl) h2
  clear hA0 hval0
  refine (walk A0 n0 c0 xs0 a1 zs2 W hB0 hl2).mono fun e W' ⟨he, bel⟩ => ?_
  subst he
  exact ⟨_, rfl, _, _, _, [], _, [], hW', trodAll_mk1 (shut_bool Try.underlying4 _), (trodAll_cons_mk (Below.trod laidOut (by kernel_rfl) (of_decide_eq_true (by kernel_rfl)) h0 bel lt0) (trodAll_cons_mk (shut_bool Try.underlying4 _) (trodAll_cons_mk (Below.trod laidOut (by kernel_rfl) (of_decide_eq_true (by kernel_rfl)) h2 bel lt2) trodAll_mk0))), rfl, bel.frame _, fun h => by cases h⟩

theorem over : Rows.bconeBlocksRow.holds Try.pinned (OpenSpec.ofChange Rows.bconeBlocksSpec) :=
  OpenClaim.holds_of_wide 5 Try.f5 rfl rfl rfl rfl rfl rfl rfl ⟨rfl, rfl, rfl, rfl, rfl⟩ rfl rfl rfl rfl rfl (by kernel_rfl) Try.func5 (by kernel_rfl)
    (of_decide_eq_true (by kernel_rfl)) (by unfold Func.isWrapper; first | (rw [if_pos (by decide +kernel)]; kernel_rfl) | (rw [if_neg (by decide +kernel)]; exact ⟨rfl, rfl⟩))
    (fun os started H enc _ => lifted os started H enc)
end Go.Proofs.Yteefmgchkhbdpaa.bconeBlocks

namespace Go.Proofs.Yteefmgchkhbdpaa
theorem bconeBlocks_holds : Rows.BconeBlocksSaid := bconeBlocks.over
#print axioms bconeBlocks_holds
end Go.Proofs.Yteefmgchkhbdpaa
