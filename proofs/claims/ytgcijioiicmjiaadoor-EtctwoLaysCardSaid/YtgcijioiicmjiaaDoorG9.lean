/- E2Col, E2Cho, E2Pla, E2Kin: merged. -/
import Derived.Test.YtgcijioiicmjiaaDoorG8
set_option linter.all false
namespace Go.Proofs.YtgcijioiicmjiaaDoor
open Go.RowKit
open Bi Lv Eo Et

set_option maxHeartbeats 2000000 in
set_option maxRecDepth 100000 in
theorem shifted2 (t : List Int) (n : Int) (w : World) (ht : t.length = 4) (hb : ∀ j, 0 ≤ t.getD j 0 ∧ t.getD j 0 ≤ 255) (hn : -183 ≤ n ∧ n ≤ 183) :
    Calls Tryd.prog 84 #[arr t, .int .i64 n] w fun e w' => e = .returned (arr (addV t n)) ∧ Below w.heap.size w w' := by
  have E := Lib.hid (Kn.start w)
  have h0 := Lib.hid (show addP t n 0 = t from rfl)
  have hs := Lib.hid (fun c => show addP t n (c + 1) = (addP t n c).set c (clampV (t.getD c 0 + n) 255) from rfl)
  have hl := Lib.hid (fun c => show (addP t n c).length = 4 from by rw [addP_length, ht])
  have hg := Lib.hid (fun c (hc : c < 3) => show (addP t n c).getD c 0 = t.getD c 0 from by rw [addP_getD _ _ _ _ (by omega), if_neg (by omega)])
  have he := Lib.hid (addP_full t n ht)
  have hal := Lib.hid (show (addV t n).length = 4 from rfl)
  generalize addP t n = P at *
  generalize addV t n = AV at *
  go_enter Tryd.func84, Tryd.ntmps84
  go_wp2_with (first | ((with_reducible refine kn_load E.out rfl rfl rfl rfl ?_)) | ((with_reducible refine kn_load_if E.out rfl rfl rfl rfl ?_)) | ((with_reducible refine kn_loads E.out rfl rfl rfl ?_ ?_); (focus (first | rfl | (simp only [i64s_length, u8s_length]; first | rfl | assumption | omega)))) | ((with_reducible refine kn_loads_if E.out rfl rfl rfl ?_ ?_); (focus (first | rfl | (simp only [i64s_length, u8s_length]; first | rfl | assumption | omega)))) | ((with_reducible refine kn_stores E.out rfl rfl rfl rfl rfl ?_ ?_ ?_); (focus (first | exact ⟨rfl, rfl⟩ | (simp only [i64s_length, u8s_length]; refine ⟨?_, ?_⟩ <;> first | rfl | assumption | omega))); (focus (first | exact i64s_one _ | exact u8s_one _ | simp [Value.oneCell'])); clear E; intro u E0; have E := Lib.hid E0; clear E0) | ((with_reducible refine kn_alloc (o := ⟨some 2, _, _, _, _, _⟩) E.out rfl rfl ?_); clear E; intro g2 u E0 hb0; have E := Lib.hid E0; clear E0 hb0) | ((with_reducible refine kn_box (o := ⟨some 2, _, _, _, _, _⟩) E.out rfl rfl rfl ?_); clear E; intro g2 u E0 hb0; have E := Lib.hid E0; clear E0 hb0) | ((with_reducible refine kn_box_int (o := ⟨some 2, _, _, _, _, _⟩) E.out rfl rfl rfl ?_); clear E; intro g2 u E0 hb0; have E := Lib.hid E0; clear E0 hb0) | ((with_reducible refine kn_box_slice (o := ⟨some 2, _, _, _, _, _⟩) E.out rfl rfl rfl ?_); clear E; intro g2 u E0 hb0; have E := Lib.hid E0; clear E0 hb0) | ((with_reducible refine kn_box_bool (o := ⟨some 2, _, _, _, _, _⟩) E.out rfl rfl rfl ?_); clear E; intro g2 u E0 hb0; have E := Lib.hid E0; clear E0 hb0) | ((with_reducible refine kn_box_func (o := ⟨some 2, _, _, _, _, _⟩) E.out rfl rfl rfl ?_); clear E; intro g2 u E0 hb0; have E := Lib.hid E0; clear E0 hb0) | ((with_reducible refine kn_alloc (o := ⟨some 4, _, _, _, _, _⟩) E.out rfl rfl ?_); clear E; intro g4 u E0 hb0; have E := Lib.hid E0; clear E0 hb0) | ((with_reducible refine kn_box (o := ⟨some 4, _, _, _, _, _⟩) E.out rfl rfl rfl ?_); clear E; intro g4 u E0 hb0; have E := Lib.hid E0; clear E0 hb0) | ((with_reducible refine kn_box_int (o := ⟨some 4, _, _, _, _, _⟩) E.out rfl rfl rfl ?_); clear E; intro g4 u E0 hb0; have E := Lib.hid E0; clear E0 hb0) | ((with_reducible refine kn_box_slice (o := ⟨some 4, _, _, _, _, _⟩) E.out rfl rfl rfl ?_); clear E; intro g4 u E0 hb0; have E := Lib.hid E0; clear E0 hb0) | ((with_reducible refine kn_box_bool (o := ⟨some 4, _, _, _, _, _⟩) E.out rfl rfl rfl ?_); clear E; intro g4 u E0 hb0; have E := Lib.hid E0; clear E0 hb0) | ((with_reducible refine kn_box_func (o := ⟨some 4, _, _, _, _, _⟩) E.out rfl rfl rfl ?_); clear E; intro g4 u E0 hb0; have E := Lib.hid E0; clear E0 hb0))
  go_loopw [6] (fun ci wr => ∃ k : Nat, k ≤ 3 ∧ ci = .int .i64 k ∧ Hid (Kn w [.row g4 25 (i64s [0, 0, 0, 0]), .row g2 25 (i64s (P k))] [] wr)) (fun ci _ => 3 - (intOf ci).toNat)
  case atStart => exact ⟨0, by omega, rfl, by rw [h0.out]; exact E⟩
  case round =>
    clear E
    obtain ⟨k, hk, rfl, E⟩ := hrel
    have hlk := hl.out k
    by_cases hlt : k < 3
    · have hk3 : (k : Int) < 3 := by omega
      have hsk := Lib.hid (hs.out k)
      have hgk := hg.out k hlt
      have hbk := hb k
      have hC := Lib.hid (fun u => clamp_any (t.getD k 0 + n) 255 u)
      clear h0 hs hl hg he hal hb
      obtain ⟨v, hv⟩ : ∃ v, t.getD k 0 = v := ⟨_, rfl⟩
      rw [hv] at hsk hgk hbk hC
      have HG := Lib.hid hgk
      clear hgk hv
      generalize clampV (v + n) 255 = cv at *
      generalize P k = Pk at *
      go_wp2_with (first
        | (go_at_call 42; (with_reducible refine (hC.out _).mono ?_); rintro e w1 ⟨rfl, rfl⟩)
        | ((with_reducible refine kn_loadi (g := g2) (i := k) E.out rfl rfl rfl ?hi ?_); (case hi => omega); rw [HG.out])
        | ((with_reducible refine kn_storei (g := g2) (i := k) E.out rfl rfl rfl rfl rfl ?hi ?_); (case hi => omega); clear E; intro u E0; have E := Lib.hid E0; clear E0)
        | ((with_reducible refine kn_load E.out rfl rfl rfl rfl ?_)) | ((with_reducible refine kn_load_if E.out rfl rfl rfl rfl ?_)) | ((with_reducible refine kn_loads E.out rfl rfl rfl ?_ ?_); (focus (first | rfl | (simp only [i64s_length, u8s_length]; first | rfl | assumption | omega)))) | ((with_reducible refine kn_loads_if E.out rfl rfl rfl ?_ ?_); (focus (first | rfl | (simp only [i64s_length, u8s_length]; first | rfl | assumption | omega)))) | ((with_reducible refine kn_stores E.out rfl rfl rfl rfl rfl ?_ ?_ ?_); (focus (first | exact ⟨rfl, rfl⟩ | (simp only [i64s_length, u8s_length]; refine ⟨?_, ?_⟩ <;> first | rfl | assumption | omega))); (focus (first | exact i64s_one _ | exact u8s_one _ | simp [Value.oneCell'])); clear E; intro u E0; have E := Lib.hid E0; clear E0))
      go_roundw
      case rel => exact ⟨k + 1, by omega, by go_num, by rw [hsk.out]; exact E⟩
      case measure => simp [intOf]; try omega
    · have hk3 : ¬ ((k : Int) < 3) := by omega
      have ek : k = 3 := by omega
      rw [ek, he.out] at E
      have hal' := hal.out
      clear h0 hs hl hg he hal hlt hk ek hlk hb
      go_wp2_with (first
        | ((with_reducible refine kn_loads (g := g2) E.out rfl rfl rfl ?hl ?_); (case hl => rw [i64s_length]; exact hal'))
        | ((with_reducible refine kn_stores (g := g4) (vs := i64s AV) E.out rfl rfl rfl rfl rfl ?hl ?h1 ?_); (case hl => exact ⟨rfl, by rw [i64s_length]; exact hal'⟩); (case h1 => exact i64s_one _); clear E; intro u E0; have E := Lib.hid E0; clear E0)
        | ((with_reducible refine kn_load E.out rfl rfl rfl rfl ?_)) | ((with_reducible refine kn_load_if E.out rfl rfl rfl rfl ?_)) | ((with_reducible refine kn_loads E.out rfl rfl rfl ?_ ?_); (focus (first | rfl | (simp only [i64s_length, u8s_length]; first | rfl | assumption | omega)))) | ((with_reducible refine kn_loads_if E.out rfl rfl rfl ?_ ?_); (focus (first | rfl | (simp only [i64s_length, u8s_length]; first | rfl | assumption | omega)))) | ((with_reducible refine kn_stores E.out rfl rfl rfl rfl rfl ?_ ?_ ?_); (focus (first | exact ⟨rfl, rfl⟩ | (simp only [i64s_length, u8s_length]; refine ⟨?_, ?_⟩ <;> first | rfl | assumption | omega))); (focus (first | exact i64s_one _ | exact u8s_one _ | simp [Value.oneCell'])); clear E; intro u E0; have E := Lib.hid E0; clear E0))
      refine bodyPost_ret (results_kn E.out rfl _ rfl (by rw [i64s_length]; exact hal')) rfl ?_
      exact ⟨rfl, E.out.bel⟩


instance : Aggr 57 29 := ⟨⟨_, Tryd.underlying57, rfl⟩, by kernel_rfl⟩
instance : Scal 55 := ⟨⟨_, Tryd.underlying55, rfl⟩, by kernel_rfl⟩
def tkF (gb : Nat) : Value := .func (.func 71) #[] #[.pointer (some ⟨gb, 0, none⟩)]
namespace Et
/-- Three numbers' runs. -/
def rV3 (a m : Nat → Nat → Nat) : List Int := rV (a 0) (m 0) ++ (rV (a 1) (m 1) ++ rV (a 2) (m 2))
theorem rV3_part (a m : Nat → Nat → Nat) (k : Nat) (hk : k < 3) : ((rV3 a m).drop (k * 6)).take 6 = rV (a k) (m k) := by
  obtain rfl | rfl | rfl : k = 0 ∨ k = 1 ∨ k = 2 := by omega
  all_goals rfl
/-- The colour of such runs: c channels of it. -/
def chV (xs : List Nat) (a m : Nat → Nat → Nat) (c : Nat) : Int := wideV ((tkN xs (a c) (m c) 3 : Nat) : Int) ((wdN (m c) 3 : Nat) : Int)
def clP (xs : List Nat) (a m : Nat → Nat → Nat) : Nat → List Int
  | 0 => [0, 0, 0, 255]
  | c + 1 => (clP xs a m c).set c (chV xs a m c)
theorem clP_length (xs : List Nat) (a m : Nat → Nat → Nat) : ∀ c, (clP xs a m c).length = 4
  | 0 => rfl
  | c + 1 => by rw [clP, List.length_set, clP_length xs a m c]
def clV (xs : List Nat) (a m : Nat → Nat → Nat) : List Int := [chV xs a m 0, chV xs a m 1, chV xs a m 2, 255]
theorem clP_full (xs : List Nat) (a m : Nat → Nat → Nat) : clP xs a m 3 = clV xs a m := rfl
end Et
set_option maxHeartbeats 4000000 in
set_option maxRecDepth 100000 in
theorem colour2 (B : List Value) (hB : B.length = 29) (gb : Nat) (hT : B[28]? = some (tkF gb)) (hO : ∀ v ∈ B, v.oneCell' = true) (A : Option Addr) (c : Nat) (xs : List Nat) (a m : Nat → Nat → Nat) (w : World) (hg : cellsF gb [.slice A 8 c] w) (hx : Bs w w.heap.size A 8 xs) (hb : ∀ k, k < 3 → okR (a k) (m k)) :
    Calls Tryd.prog 82 #[.agg B.toArray, arr (rV3 a m)] w fun e w' => e = .returned (arr (clV xs a m)) ∧ Below w.heap.size w w' := by
  have E := Lib.hid (((Kn.start w).arg_cells hg).arg_bs hx)
  have HI := Lib.hid (fun k (hk : k < 3) u => run_index_agg (P := Tryd.prog) 81 80 3 6 Tryd.underlying81 Tryd.underlying80 rfl (by kernel_rfl) (rV3 a m) k hk rfl u)
  have HP := Lib.hid (fun k (hk : k < 3) => rV3_part a m k hk)
  have HS := Lib.hid (fun k => show (clP xs a m k).set k (chV xs a m k) = clP xs a m (k + 1) from rfl)
  have HL := Lib.hid (fun k => clP_length xs a m k)
  have H0 := Lib.hid (show clP xs a m 0 = [0, 0, 0, 255] from rfl)
  have H3 := Lib.hid (clP_full xs a m)
  have HT := Lib.hid (fun k (hk : k < 3) (u : World) (R : List Res) (E : Kn w R [bsF A 8 xs, cellsF gb [.slice A 8 c]] u) => take3 E gb A c xs (a k) (m k) (by simp) (by simp) (hb k hk))
  have HW := Lib.hid (fun k (hk : k < 3) u => width3 (a k) (m k) u (hb k hk))
  have HC := Lib.hid (fun k u => show Calls Tryd.prog 53 #[.int .i64 ((tkN xs (a k) (m k) 3 : Nat) : Int), .int .i64 ((wdN (m k) 3 : Nat) : Int)] u (fun e w' => e = .returned (.int .i64 (chV xs a m k)) ∧ u = w') from wide_any _ _ u)
  have hcl : Hid ((clV xs a m).length = 4) := rfl
  have hrl : Hid ((i64s (rV3 a m)).length = 18) := rfl
  have HRL : Hid (∀ k, (i64s (rV (a k) (m k))).length = 6) := Lib.hid (fun _ => rfl)
  unfold tkF at hT
  replace hT := Lib.hid hT
  replace hB := Lib.hid hB
  replace hO := Lib.hid hO
  have hBu := fun (u : World) => (run_build u _ _ _ (by kernel_rfl) : (Instr.build 25 #[(3, .int .i64 255)]).run Tryd.prog u = .ok (arr [0, 0, 0, 255]) u)
  clear hg hx hb
  generalize rV3 a m = RV at *
  generalize clP xs a m = CP at *
  generalize clV xs a m = CV at *
  generalize chV xs a m = HV at *
  go_enter Tryd.func82, Tryd.ntmps82
  go_wp2_with (first | ((with_reducible refine kn_loads (g := g3) E.out rfl rfl rfl ?hl ?_); (case hl => exact hrl.out)) | ((with_reducible refine kn_load E.out rfl rfl rfl rfl ?_)) | ((with_reducible refine kn_load_if E.out rfl rfl rfl rfl ?_)) | ((with_reducible refine kn_loads E.out rfl rfl rfl ?_ ?_); (focus (first | rfl | (simp only [i64s_length, u8s_length]; first | rfl | assumption | omega)))) | ((with_reducible refine kn_loads_if E.out rfl rfl rfl ?_ ?_); (focus (first | rfl | (simp only [i64s_length, u8s_length]; first | rfl | assumption | omega)))) | ((with_reducible refine kn_stores E.out rfl rfl rfl rfl rfl ?_ ?_ ?_); (focus (first | exact ⟨rfl, rfl⟩ | (simp only [i64s_length, u8s_length]; refine ⟨?_, ?_⟩ <;> first | rfl | assumption | omega))); (focus (first | exact i64s_one _ | exact u8s_one _ | simp [Value.oneCell'])); clear E; intro u E0; have E := Lib.hid E0; clear E0) | ((with_reducible refine kn_alloc (o := ⟨some 2, _, _, _, _, _⟩) E.out rfl rfl ?_); clear E; intro g2 u E0 hb0; have E := Lib.hid E0; clear E0 hb0) | ((with_reducible refine kn_box (o := ⟨some 2, _, _, _, _, _⟩) E.out rfl rfl rfl ?_); clear E; intro g2 u E0 hb0; have E := Lib.hid E0; clear E0 hb0) | ((with_reducible refine kn_box_int (o := ⟨some 2, _, _, _, _, _⟩) E.out rfl rfl rfl ?_); clear E; intro g2 u E0 hb0; have E := Lib.hid E0; clear E0 hb0) | ((with_reducible refine kn_box_slice (o := ⟨some 2, _, _, _, _, _⟩) E.out rfl rfl rfl ?_); clear E; intro g2 u E0 hb0; have E := Lib.hid E0; clear E0 hb0) | ((with_reducible refine kn_box_bool (o := ⟨some 2, _, _, _, _, _⟩) E.out rfl rfl rfl ?_); clear E; intro g2 u E0 hb0; have E := Lib.hid E0; clear E0 hb0) | ((with_reducible refine kn_box_func (o := ⟨some 2, _, _, _, _, _⟩) E.out rfl rfl rfl ?_); clear E; intro g2 u E0 hb0; have E := Lib.hid E0; clear E0 hb0) | ((with_reducible refine kn_alloc (o := ⟨some 3, _, _, _, _, _⟩) E.out rfl rfl ?_); clear E; intro g3 u E0 hb0; have E := Lib.hid E0; clear E0 hb0) | ((with_reducible refine kn_box (o := ⟨some 3, _, _, _, _, _⟩) E.out rfl rfl rfl ?_); clear E; intro g3 u E0 hb0; have E := Lib.hid E0; clear E0 hb0) | ((with_reducible refine kn_box_int (o := ⟨some 3, _, _, _, _, _⟩) E.out rfl rfl rfl ?_); clear E; intro g3 u E0 hb0; have E := Lib.hid E0; clear E0 hb0) | ((with_reducible refine kn_box_slice (o := ⟨some 3, _, _, _, _, _⟩) E.out rfl rfl rfl ?_); clear E; intro g3 u E0 hb0; have E := Lib.hid E0; clear E0 hb0) | ((with_reducible refine kn_box_bool (o := ⟨some 3, _, _, _, _, _⟩) E.out rfl rfl rfl ?_); clear E; intro g3 u E0 hb0; have E := Lib.hid E0; clear E0 hb0) | ((with_reducible refine kn_box_func (o := ⟨some 3, _, _, _, _, _⟩) E.out rfl rfl rfl ?_); clear E; intro g3 u E0 hb0; have E := Lib.hid E0; clear E0 hb0) | ((with_reducible refine kn_alloc (o := ⟨some 4, _, _, _, _, _⟩) E.out rfl rfl ?_); clear E; intro g4 u E0 hb0; have E := Lib.hid E0; clear E0 hb0) | ((with_reducible refine kn_box (o := ⟨some 4, _, _, _, _, _⟩) E.out rfl rfl rfl ?_); clear E; intro g4 u E0 hb0; have E := Lib.hid E0; clear E0 hb0) | ((with_reducible refine kn_box_int (o := ⟨some 4, _, _, _, _, _⟩) E.out rfl rfl rfl ?_); clear E; intro g4 u E0 hb0; have E := Lib.hid E0; clear E0 hb0) | ((with_reducible refine kn_box_slice (o := ⟨some 4, _, _, _, _, _⟩) E.out rfl rfl rfl ?_); clear E; intro g4 u E0 hb0; have E := Lib.hid E0; clear E0 hb0) | ((with_reducible refine kn_box_bool (o := ⟨some 4, _, _, _, _, _⟩) E.out rfl rfl rfl ?_); clear E; intro g4 u E0 hb0; have E := Lib.hid E0; clear E0 hb0) | ((with_reducible refine kn_box_func (o := ⟨some 4, _, _, _, _, _⟩) E.out rfl rfl rfl ?_); clear E; intro g4 u E0 hb0; have E := Lib.hid E0; clear E0 hb0) | ((with_reducible refine kn_alloc (o := ⟨some 5, _, _, _, _, _⟩) E.out rfl rfl ?_); clear E; intro g5 u E0 hb0; have E := Lib.hid E0; clear E0 hb0) | ((with_reducible refine kn_box (o := ⟨some 5, _, _, _, _, _⟩) E.out rfl rfl rfl ?_); clear E; intro g5 u E0 hb0; have E := Lib.hid E0; clear E0 hb0) | ((with_reducible refine kn_box_int (o := ⟨some 5, _, _, _, _, _⟩) E.out rfl rfl rfl ?_); clear E; intro g5 u E0 hb0; have E := Lib.hid E0; clear E0 hb0) | ((with_reducible refine kn_box_slice (o := ⟨some 5, _, _, _, _, _⟩) E.out rfl rfl rfl ?_); clear E; intro g5 u E0 hb0; have E := Lib.hid E0; clear E0 hb0) | ((with_reducible refine kn_box_bool (o := ⟨some 5, _, _, _, _, _⟩) E.out rfl rfl rfl ?_); clear E; intro g5 u E0 hb0; have E := Lib.hid E0; clear E0 hb0) | ((with_reducible refine kn_box_func (o := ⟨some 5, _, _, _, _, _⟩) E.out rfl rfl rfl ?_); clear E; intro g5 u E0 hb0; have E := Lib.hid E0; clear E0 hb0))
  go_loopw [10] (fun ck wr => ∃ k : Nat, k ≤ 3 ∧ ck = .int .i64 (k : Int) ∧ Hid (Kn w [.row g5 25 (i64s (CP k)), .row g4 25 (i64s [0, 0, 0, 0]), .row g3 81 (i64s RV), .row g2 57 B] [bsF A 8 xs, cellsF gb [.slice A 8 c]] wr)) (fun ck _ => 3 - (intOf ck).toNat)
  case atStart => exact ⟨0, by omega, rfl, by rw [H0.out]; exact E⟩
  case round =>
    clear E
    obtain ⟨k, hk, rfl, E⟩ := hrel
    have hl := HL.out k
    by_cases hlt : k < 3
    · have hk3 : (k : Int) < 3 := by omega
      have hk4 : (k : Int) < 4 := by omega
      have hix := fun u => HI.out k hlt u
      rw [HP.out k hlt] at hix
      have hS := Lib.hid (HS.out k)
      have hTk := Lib.hid (fun (u : World) (R : List Res) (E : Kn w R [bsF A 8 xs, cellsF gb [.slice A 8 c]] u) => HT.out k hlt u R E)
      have hWk := Lib.hid (fun u => HW.out k hlt u)
      have hCk := Lib.hid (fun u => HC.out k u)
      have hk6 := HRL.out k
      clear HI HP HS HL H0 H3 HT HW HC HRL hcl
      generalize ((tkN xs (a k) (m k) 3 : Nat) : Int) = tv at *
      generalize ((wdN (m k) 3 : Nat) : Int) = wv at *
      obtain ⟨RVk, hRVk⟩ : ∃ z, rV (a k) (m k) = z := ⟨_, rfl⟩
      rw [hRVk] at hix hTk hWk hk6
      clear hRVk
      obtain ⟨hv, hhv⟩ : ∃ z, HV k = z := ⟨_, rfl⟩
      rw [hhv] at hS hCk
      clear hhv
      have hk6' : RVk.length = 6 := by rw [← hk6, i64s_length]
      replace hk6 := Lib.hid hk6
      go_wp2_with (first
        | ((with_reducible refine kn_stores (g := g7) (vs := i64s RVk) E.out rfl rfl rfl rfl rfl ?hl ?h1 ?_); (case hl => exact ⟨rfl, hk6.out⟩); (case h1 => exact i64s_one _); clear E; intro u E0; have E := Lib.hid E0; clear E0)
        | ((with_reducible refine kn_load E.out rfl rfl rfl rfl ?_)) | ((with_reducible refine kn_load_if E.out rfl rfl rfl rfl ?_)) | ((with_reducible refine kn_loads E.out rfl rfl rfl ?_ ?_); (focus (first | rfl | (simp only [i64s_length, u8s_length]; first | rfl | assumption | omega)))) | ((with_reducible refine kn_loads_if E.out rfl rfl rfl ?_ ?_); (focus (first | rfl | (simp only [i64s_length, u8s_length]; first | rfl | assumption | omega)))) | ((with_reducible refine kn_stores E.out rfl rfl rfl rfl rfl ?_ ?_ ?_); (focus (first | exact ⟨rfl, rfl⟩ | (simp only [i64s_length, u8s_length]; refine ⟨?_, ?_⟩ <;> first | rfl | assumption | omega))); (focus (first | exact i64s_one _ | exact u8s_one _ | simp [Value.oneCell'])); clear E; intro u E0; have E := Lib.hid E0; clear E0) | ((with_reducible refine kn_alloc (o := ⟨some 7, _, _, _, _, _⟩) E.out rfl rfl ?_); clear E; intro g7 u E0 hb0; have E := Lib.hid E0; clear E0 hb0) | ((with_reducible refine kn_box (o := ⟨some 7, _, _, _, _, _⟩) E.out rfl rfl rfl ?_); clear E; intro g7 u E0 hb0; have E := Lib.hid E0; clear E0 hb0) | ((with_reducible refine kn_box_int (o := ⟨some 7, _, _, _, _, _⟩) E.out rfl rfl rfl ?_); clear E; intro g7 u E0 hb0; have E := Lib.hid E0; clear E0 hb0) | ((with_reducible refine kn_box_slice (o := ⟨some 7, _, _, _, _, _⟩) E.out rfl rfl rfl ?_); clear E; intro g7 u E0 hb0; have E := Lib.hid E0; clear E0 hb0) | ((with_reducible refine kn_box_bool (o := ⟨some 7, _, _, _, _, _⟩) E.out rfl rfl rfl ?_); clear E; intro g7 u E0 hb0; have E := Lib.hid E0; clear E0 hb0) | ((with_reducible refine kn_box_func (o := ⟨some 7, _, _, _, _, _⟩) E.out rfl rfl rfl ?_); clear E; intro g7 u E0 hb0; have E := Lib.hid E0; clear E0 hb0))
      refine wp_region_held_drew (S := Kn w [.row g7 80 (i64s RVk), .row g2 57 B] [bsF A 8 xs, cellsF gb [.slice A 8 c]]) (by kernel_rfl) (E.out.drew.part _ _ (by repeat (first | exact List.Sublist.refl _ | apply List.Sublist.cons_cons | apply List.Sublist.cons)) (by simp)) (fun kS => ?_)
      have E1 := Lib.hid E.out.drew
      generalize World.drew _ = u1 at kS E1 ⊢
      clear E
      have E := E1
      clear E1
      (refine takeL (i := 0) (v := _) rfl (by kernel_rfl) (by kernel_rfl) (by kernel_rfl) (fun _ _ _ h => h) (by first | exact Or.inl ⟨by rfl, (by intro u hSu; clear hSu; go_simp; try with_reducible rfl)⟩ | exact Or.inr ⟨by rfl, rfl⟩) kS ?_; (try simp only [Act.put, List.setIfInBounds_toArray, List.set_cons_zero, List.set_cons_succ])); (refine takeL (i := 1) (v := _) rfl (by kernel_rfl) (by kernel_rfl) (by kernel_rfl) (fun _ _ _ h => h) (by first | exact Or.inl ⟨by rfl, (by intro u hSu; clear hSu; go_simp; try with_reducible rfl)⟩ | exact Or.inr ⟨by rfl, rfl⟩) kS ?_; (try simp only [Act.put, List.setIfInBounds_toArray, List.set_cons_zero, List.set_cons_succ]))
      (refine takeL (i := 2) (v := _) rfl (by kernel_rfl) (by kernel_rfl) (by kernel_rfl) (fun _ _ _ h => h) (yield_load (g := g2) (i := 28) rfl rfl rfl hT.out) kS ?_; (try simp only [Act.put, List.setIfInBounds_toArray, List.set_cons_zero, List.set_cons_succ]))
      (refine takeL (i := 3) (v := _) rfl (by kernel_rfl) (by kernel_rfl) (by kernel_rfl) (fun _ _ _ h => h) (by first | exact yield_load rfl rfl rfl rfl | exact yield_loads rfl rfl rfl rfl | exact yield_loads rfl rfl rfl (by simp only [i64s_length, u8s_length]; first | assumption | omega) | exact yield_loadi rfl rfl rfl (by first | assumption | omega) | exact yield_loadp rfl rfl rfl (by first | assumption | omega)) kS ?_; (try simp only [Act.put, List.setIfInBounds_toArray, List.set_cons_zero, List.set_cons_succ])); (refine takeL (i := 5) (v := _) rfl (by kernel_rfl) (by kernel_rfl) (by kernel_rfl) (fun _ _ _ h => h) (by first | exact yield_load rfl rfl rfl rfl | exact yield_loads rfl rfl rfl rfl | exact yield_loads rfl rfl rfl (by simp only [i64s_length, u8s_length]; first | assumption | omega) | exact yield_loadi rfl rfl rfl (by first | assumption | omega) | exact yield_loadp rfl rfl rfl (by first | assumption | omega)) kS ?_; (try simp only [Act.put, List.setIfInBounds_toArray, List.set_cons_zero, List.set_cons_succ]))
      refine callL (i := 4) rfl (by kernel_rfl) (fun K hK => ?_)
      (go_simp; refine (hTk.out _ _ E.out).mono ?_; rintro e' w1 ⟨rfl, E0⟩; clear E; have E := Lib.hid E0; clear E0; go_wp2_with fail; (refine hK.out _ _ (E.out.part _ _ (by repeat (first | exact List.Sublist.refl _ | apply List.Sublist.cons_cons | apply List.Sublist.cons)) (by simp)) (fun kS => ?_); clear hK K; (try simp only [Act.put, List.setIfInBounds_toArray, List.set_cons_zero, List.set_cons_succ])))
      refine callL (i := 6) rfl (by kernel_rfl) (fun K hK => ?_)
      (go_simp; refine (hWk.out _).mono ?_; rintro e' w1 ⟨rfl, hb⟩; have E1 := Lib.hid (E.out.later hb); clear hb E; have E := E1; clear E1; go_wp2_with fail; (refine hK.out _ _ (E.out.part _ _ (by repeat (first | exact List.Sublist.refl _ | apply List.Sublist.cons_cons | apply List.Sublist.cons)) (by simp)) (fun kS => ?_); clear hK K; (try simp only [Act.put, List.setIfInBounds_toArray, List.set_cons_zero, List.set_cons_succ])))
      refine callL (i := 7) rfl (by kernel_rfl) (fun K hK => ?_)
      (go_simp; refine (hCk.out _).mono ?_; rintro e' w1 ⟨rfl, rfl⟩; go_wp2_with fail; (refine hK.out _ _ (E.out.part _ _ (by repeat (first | exact List.Sublist.refl _ | apply List.Sublist.cons_cons | apply List.Sublist.cons)) (by simp)) (fun kS => ?_); clear hK K; (try simp only [Act.put, List.setIfInBounds_toArray, List.set_cons_zero, List.set_cons_succ])))
      (refine takeL (i := 8) (v := _) rfl (by kernel_rfl) (by kernel_rfl) (by kernel_rfl) (fun _ _ _ h => h) (by first | exact Or.inl ⟨by rfl, (by intro u hSu; clear hSu; go_simp; try with_reducible rfl)⟩ | exact Or.inr ⟨by rfl, rfl⟩) kS ?_; (try simp only [Act.put, List.setIfInBounds_toArray, List.set_cons_zero, List.set_cons_succ]))
      refine callL (i := 9) rfl (by kernel_rfl) (fun K hK => ?_)
      (rw [if_pos (by rfl)]; refine wp_kn_storei (g := g5) (i := k) (z := hv) E.out rfl rfl rfl rfl (by omega) ?_; clear E kS; intro u E0; have E := Lib.hid E0; clear E0; (refine hK.out _ _ (E.out.part _ _ (by repeat (first | exact List.Sublist.refl _ | apply List.Sublist.cons_cons | apply List.Sublist.cons)) (by simp)) (fun kS => ?_); clear hK K; (try simp only [Act.put, List.setIfInBounds_toArray, List.set_cons_zero, List.set_cons_succ])))
      refine wpAnyH_done (by kernel_rfl) ?_ _
      rw [hS.out] at E
      go_wp2_with fail
      go_roundw
      case rel => exact ⟨k + 1, by omega, by go_num, E.out.part _ _ (by repeat (first | exact List.Sublist.refl _ | apply List.Sublist.cons_cons | apply List.Sublist.cons)) (by simp)⟩
      case measure => simp [intOf]; try omega
    · have hk3 : ¬ ((k : Int) < 3) := by omega
      have ek : k = 3 := by omega
      rw [ek, H3.out] at E
      clear HI HP HS HL H0 H3 HT HW HC HRL hl hlt ek
      go_wp2_with (first
        | ((with_reducible refine kn_loads (g := g5) E.out rfl rfl rfl ?hl ?_); (case hl => rw [i64s_length]; exact hcl.out))
        | ((with_reducible refine kn_stores (g := g4) (vs := i64s CV) E.out rfl rfl rfl rfl rfl ?hl ?h1 ?_); (case hl => exact ⟨rfl, by rw [i64s_length]; exact hcl.out⟩); (case h1 => exact i64s_one _); clear E; intro u E0; have E := Lib.hid E0; clear E0)
        | ((with_reducible refine kn_load E.out rfl rfl rfl rfl ?_)) | ((with_reducible refine kn_load_if E.out rfl rfl rfl rfl ?_)) | ((with_reducible refine kn_loads E.out rfl rfl rfl ?_ ?_); (focus (first | rfl | (simp only [i64s_length, u8s_length]; first | rfl | assumption | omega)))) | ((with_reducible refine kn_loads_if E.out rfl rfl rfl ?_ ?_); (focus (first | rfl | (simp only [i64s_length, u8s_length]; first | rfl | assumption | omega)))) | ((with_reducible refine kn_stores E.out rfl rfl rfl rfl rfl ?_ ?_ ?_); (focus (first | exact ⟨rfl, rfl⟩ | (simp only [i64s_length, u8s_length]; refine ⟨?_, ?_⟩ <;> first | rfl | assumption | omega))); (focus (first | exact i64s_one _ | exact u8s_one _ | simp [Value.oneCell'])); clear E; intro u E0; have E := Lib.hid E0; clear E0))
      refine bodyPost_ret (results_kn E.out rfl _ rfl (by rw [i64s_length]; exact hcl.out)) rfl ?_
      exact ⟨rfl, E.out.bel⟩
theorem or_val2 (N h m : Nat) (hN : N < 2097152) (hm : m ≤ 7) (hh : h < 2 ^ m) : bits .or .i64 (IntKind.i64.wrap ((N : Int) * 2 ^ m)) (h : Int) = ((N * 2 ^ m + h : Nat) : Int) := by
  have h1 : 2 ^ m ≤ 2 ^ 7 := Nat.pow_le_pow_right (by omega) hm
  have h2 : N * 2 ^ m ≤ 2097152 * 2 ^ 7 := Nat.mul_le_mul (by omega) h1
  have e : ((N : Int) * 2 ^ m) = ((N * 2 ^ m : Nat) : Int) := by simp
  rw [e, show IntKind.i64.wrap ((N * 2 ^ m : Nat) : Int) = ((N * 2 ^ m : Nat) : Int) from by rw [IntKind.wrap_i64]; omega, i64_or_nat _ _ (by omega) (by omega), Nat.mul_comm N, ← Nat.two_pow_add_eq_or_of_lt hh]
namespace Et
/-- The number whose bits are those of three runs, one behind another. -/
def whN (xs : List Nat) (a m : Nat → Nat → Nat) : Nat → Nat
  | 0 => 0
  | k + 1 => whN xs a m k * 2 ^ wdN (m k) 3 + tkN xs (a k) (m k) 3
theorem tkN_wd (xs : List Nat) (a m : Nat → Nat) : ∀ k, tkN xs a m k < 2 ^ wdN m k
  | 0 => by show 0 < 1; omega
  | k + 1 => by
    have h1 := tkN_wd xs a m k
    have h2 := getN_lt' xs (a k) (m k)
    have h4 : tkN xs a m k * 2 ^ m k + getN xs true (a k) (m k) < (tkN xs a m k + 1) * 2 ^ m k := by rw [Nat.succ_mul]; omega
    have h5 : (tkN xs a m k + 1) * 2 ^ m k ≤ 2 ^ wdN m k * 2 ^ m k := Nat.mul_le_mul h1 (Nat.le_refl _)
    rw [tkN, wdN, Nat.pow_add]
    omega
end Et
set_option maxHeartbeats 4000000 in
set_option maxRecDepth 100000 in
theorem whole2 (B : List Value) (hB : B.length = 29) (gb : Nat) (hT : B[28]? = some (tkF gb)) (hO : ∀ v ∈ B, v.oneCell' = true) (A : Option Addr) (c : Nat) (xs : List Nat) (a m : Nat → Nat → Nat) (w : World) (hg : cellsF gb [.slice A 8 c] w) (hx : Bs w w.heap.size A 8 xs) (hb : ∀ k, k < 3 → okR (a k) (m k)) (hw : ∀ k, k < 3 → wdN (m k) 3 ≤ 7) :
    Calls Tryd.prog 85 #[.agg B.toArray, arr (rV3 a m)] w fun e w' => e = .returned (.int .i64 ((whN xs a m 3 : Nat) : Int)) ∧ Below w.heap.size w w' := by
  have E := Lib.hid (((Kn.start w).arg_cells hg).arg_bs hx)
  have HI := Lib.hid (fun k (hk : k < 3) u => run_index_agg (P := Tryd.prog) 81 80 3 6 Tryd.underlying81 Tryd.underlying80 rfl (by kernel_rfl) (rV3 a m) k hk rfl u)
  have HP := Lib.hid (fun k (hk : k < 3) => rV3_part a m k hk)
  have HS := Lib.hid (fun k => show whN xs a m (k + 1) = whN xs a m k * 2 ^ wdN (m k) 3 + tkN xs (a k) (m k) 3 from rfl)
  have H0 := Lib.hid (show whN xs a m 0 = 0 from rfl)
  have HB : ∀ k, k ≤ 3 → whN xs a m k < 2 ^ (7 * k) := by
    intro k
    induction k with
    | zero => intro _; show 0 < 1; omega
    | succ k ih =>
      intro hk
      have h1 := ih (by omega)
      have h2 := tkN_wd xs (a k) (m k) 3
      have h3 : 2 ^ wdN (m k) 3 ≤ 2 ^ 7 := Nat.pow_le_pow_right (by omega) (hw k (by omega))
      have h4 : whN xs a m k * 2 ^ wdN (m k) 3 + tkN xs (a k) (m k) 3 < (whN xs a m k + 1) * 2 ^ wdN (m k) 3 := by rw [Nat.succ_mul]; omega
      have h5 : (whN xs a m k + 1) * 2 ^ wdN (m k) 3 ≤ 2 ^ (7 * k) * 2 ^ 7 := Nat.mul_le_mul h1 h3
      rw [whN, show 7 * (k + 1) = 7 * k + 7 by omega, Nat.pow_add]
      omega
  have HN := Lib.hid (fun k (hk : k ≤ 3) => show whN xs a m k < 2097152 + 1 - 1 from by
    have h := HB k hk
    have h2 : 2 ^ (7 * k) ≤ 2 ^ 21 := Nat.pow_le_pow_right (by omega) (by omega)
    omega)
  have HT := Lib.hid (fun k (hk : k < 3) (u : World) (R : List Res) (E : Kn w R [bsF A 8 xs, cellsF gb [.slice A 8 c]] u) => take3 E gb A c xs (a k) (m k) (by simp) (by simp) (hb k hk))
  have HW := Lib.hid (fun k (hk : k < 3) u => width3 (a k) (m k) u (hb k hk))
  have HTK := Lib.hid (fun k => tkN_wd xs (a k) (m k) 3)
  have hrl : Hid ((i64s (rV3 a m)).length = 18) := rfl
  have HRL : Hid (∀ k, (i64s (rV (a k) (m k))).length = 6) := Lib.hid (fun _ => rfl)
  unfold tkF at hT
  replace hT := Lib.hid hT
  replace hB := Lib.hid hB
  replace hO := Lib.hid hO
  replace hw := Lib.hid hw
  clear hg hx hb HB
  generalize rV3 a m = RV at *
  generalize whN xs a m = WN at *
  go_enter Tryd.func85, Tryd.ntmps85
  go_wp2_with (first | ((with_reducible refine kn_loads (g := g3) E.out rfl rfl rfl ?hl ?_); (case hl => exact hrl.out)) | ((with_reducible refine kn_load E.out rfl rfl rfl rfl ?_)) | ((with_reducible refine kn_load_if E.out rfl rfl rfl rfl ?_)) | ((with_reducible refine kn_loads E.out rfl rfl rfl ?_ ?_); (focus (first | rfl | (simp only [i64s_length, u8s_length]; first | rfl | assumption | omega)))) | ((with_reducible refine kn_loads_if E.out rfl rfl rfl ?_ ?_); (focus (first | rfl | (simp only [i64s_length, u8s_length]; first | rfl | assumption | omega)))) | ((with_reducible refine kn_stores E.out rfl rfl rfl rfl rfl ?_ ?_ ?_); (focus (first | exact ⟨rfl, rfl⟩ | (simp only [i64s_length, u8s_length]; refine ⟨?_, ?_⟩ <;> first | rfl | assumption | omega))); (focus (first | exact i64s_one _ | exact u8s_one _ | simp [Value.oneCell'])); clear E; intro u E0; have E := Lib.hid E0; clear E0) | ((with_reducible refine kn_alloc (o := ⟨some 2, _, _, _, _, _⟩) E.out rfl rfl ?_); clear E; intro g2 u E0 hb0; have E := Lib.hid E0; clear E0 hb0) | ((with_reducible refine kn_box (o := ⟨some 2, _, _, _, _, _⟩) E.out rfl rfl rfl ?_); clear E; intro g2 u E0 hb0; have E := Lib.hid E0; clear E0 hb0) | ((with_reducible refine kn_box_int (o := ⟨some 2, _, _, _, _, _⟩) E.out rfl rfl rfl ?_); clear E; intro g2 u E0 hb0; have E := Lib.hid E0; clear E0 hb0) | ((with_reducible refine kn_box_slice (o := ⟨some 2, _, _, _, _, _⟩) E.out rfl rfl rfl ?_); clear E; intro g2 u E0 hb0; have E := Lib.hid E0; clear E0 hb0) | ((with_reducible refine kn_box_bool (o := ⟨some 2, _, _, _, _, _⟩) E.out rfl rfl rfl ?_); clear E; intro g2 u E0 hb0; have E := Lib.hid E0; clear E0 hb0) | ((with_reducible refine kn_box_func (o := ⟨some 2, _, _, _, _, _⟩) E.out rfl rfl rfl ?_); clear E; intro g2 u E0 hb0; have E := Lib.hid E0; clear E0 hb0) | ((with_reducible refine kn_alloc (o := ⟨some 3, _, _, _, _, _⟩) E.out rfl rfl ?_); clear E; intro g3 u E0 hb0; have E := Lib.hid E0; clear E0 hb0) | ((with_reducible refine kn_box (o := ⟨some 3, _, _, _, _, _⟩) E.out rfl rfl rfl ?_); clear E; intro g3 u E0 hb0; have E := Lib.hid E0; clear E0 hb0) | ((with_reducible refine kn_box_int (o := ⟨some 3, _, _, _, _, _⟩) E.out rfl rfl rfl ?_); clear E; intro g3 u E0 hb0; have E := Lib.hid E0; clear E0 hb0) | ((with_reducible refine kn_box_slice (o := ⟨some 3, _, _, _, _, _⟩) E.out rfl rfl rfl ?_); clear E; intro g3 u E0 hb0; have E := Lib.hid E0; clear E0 hb0) | ((with_reducible refine kn_box_bool (o := ⟨some 3, _, _, _, _, _⟩) E.out rfl rfl rfl ?_); clear E; intro g3 u E0 hb0; have E := Lib.hid E0; clear E0 hb0) | ((with_reducible refine kn_box_func (o := ⟨some 3, _, _, _, _, _⟩) E.out rfl rfl rfl ?_); clear E; intro g3 u E0 hb0; have E := Lib.hid E0; clear E0 hb0))
  go_loopw [5, 9] (fun cn ck wr => ∃ k : Nat, k ≤ 3 ∧ cn = .int .i64 ((WN k : Nat) : Int) ∧ ck = .int .i64 (k : Int) ∧ Hid (Kn w [.row g3 81 (i64s RV), .row g2 57 B] [bsF A 8 xs, cellsF gb [.slice A 8 c]] wr)) (fun _ ck _ => 3 - (intOf ck).toNat)
  case atStart => exact ⟨0, by omega, by rw [H0.out]; rfl, rfl, E⟩
  case round =>
    clear E
    obtain ⟨k, hk, rfl, rfl, E⟩ := hrel
    by_cases hlt : k < 3
    · have hk3 : (k : Int) < 3 := by omega
      have hix := fun u => HI.out k hlt u
      rw [HP.out k hlt] at hix
      have hN := HN.out k hk
      have hTk := Lib.hid (fun (u : World) (R : List Res) (E : Kn w R [bsF A 8 xs, cellsF gb [.slice A 8 c]] u) => HT.out k hlt u R E)
      have hWk := Lib.hid (fun u => HW.out k hlt u)
      have hk6 := HRL.out k
      have hwk := hw.out k hlt
      have hor := or_val2 (WN k) (tkN xs (a k) (m k) 3) (wdN (m k) 3) (by omega) hwk (HTK.out k)
      rw [← HS.out k] at hor
      clear HI HP HS H0 HT HW HRL HN HTK
      generalize tkN xs (a k) (m k) 3 = tv at *
      generalize wdN (m k) 3 = wv at *
      obtain ⟨RVk, hRVk⟩ : ∃ z, rV (a k) (m k) = z := ⟨_, rfl⟩
      rw [hRVk] at hix hTk hWk hk6
      clear hRVk
      obtain ⟨t1, ht1⟩ : ∃ z, WN (k + 1) = z := ⟨_, rfl⟩
      rw [ht1] at hor
      replace ht1 := Lib.hid ht1
      generalize WN k = t0 at *
      have hk6' : RVk.length = 6 := by rw [← hk6, i64s_length]
      replace hk6 := Lib.hid hk6
      have hwv : (0 : Int) ≤ (wv : Int) := by omega
      replace hor := Lib.hid hor
      go_wp2_with (first
        | ((with_reducible refine kn_stores (g := g7) (vs := i64s RVk) E.out rfl rfl rfl rfl rfl ?hl ?h1 ?_); (case hl => exact ⟨rfl, hk6.out⟩); (case h1 => exact i64s_one _); clear E; intro u E0; have E := Lib.hid E0; clear E0)
        | ((with_reducible refine kn_load E.out rfl rfl rfl rfl ?_)) | ((with_reducible refine kn_load_if E.out rfl rfl rfl rfl ?_)) | ((with_reducible refine kn_loads E.out rfl rfl rfl ?_ ?_); (focus (first | rfl | (simp only [i64s_length, u8s_length]; first | rfl | assumption | omega)))) | ((with_reducible refine kn_loads_if E.out rfl rfl rfl ?_ ?_); (focus (first | rfl | (simp only [i64s_length, u8s_length]; first | rfl | assumption | omega)))) | ((with_reducible refine kn_stores E.out rfl rfl rfl rfl rfl ?_ ?_ ?_); (focus (first | exact ⟨rfl, rfl⟩ | (simp only [i64s_length, u8s_length]; refine ⟨?_, ?_⟩ <;> first | rfl | assumption | omega))); (focus (first | exact i64s_one _ | exact u8s_one _ | simp [Value.oneCell'])); clear E; intro u E0; have E := Lib.hid E0; clear E0) | ((with_reducible refine kn_alloc (o := ⟨some 7, _, _, _, _, _⟩) E.out rfl rfl ?_); clear E; intro g7 u E0 hb0; have E := Lib.hid E0; clear E0 hb0) | ((with_reducible refine kn_box (o := ⟨some 7, _, _, _, _, _⟩) E.out rfl rfl rfl ?_); clear E; intro g7 u E0 hb0; have E := Lib.hid E0; clear E0 hb0) | ((with_reducible refine kn_box_int (o := ⟨some 7, _, _, _, _, _⟩) E.out rfl rfl rfl ?_); clear E; intro g7 u E0 hb0; have E := Lib.hid E0; clear E0 hb0) | ((with_reducible refine kn_box_slice (o := ⟨some 7, _, _, _, _, _⟩) E.out rfl rfl rfl ?_); clear E; intro g7 u E0 hb0; have E := Lib.hid E0; clear E0 hb0) | ((with_reducible refine kn_box_bool (o := ⟨some 7, _, _, _, _, _⟩) E.out rfl rfl rfl ?_); clear E; intro g7 u E0 hb0; have E := Lib.hid E0; clear E0 hb0) | ((with_reducible refine kn_box_func (o := ⟨some 7, _, _, _, _, _⟩) E.out rfl rfl rfl ?_); clear E; intro g7 u E0 hb0; have E := Lib.hid E0; clear E0 hb0))
      refine wp_region_held_drew (S := Kn w [.row g7 80 (i64s RVk), .row g2 57 B] [bsF A 8 xs, cellsF gb [.slice A 8 c]]) (by kernel_rfl) (E.out.drew.part _ _ (by repeat (first | exact List.Sublist.refl _ | apply List.Sublist.cons_cons | apply List.Sublist.cons)) (by simp)) (fun kS => ?_)
      have E1 := Lib.hid E.out.drew
      generalize World.drew _ = u1 at kS E1 ⊢
      clear E
      have E := E1
      clear E1
      (refine takeL (i := 0) (v := _) rfl (by kernel_rfl) (by kernel_rfl) (by kernel_rfl) (fun _ _ _ h => h) (by first | exact Or.inl ⟨by rfl, (by intro u hSu; clear hSu; go_simp; try with_reducible rfl)⟩ | exact Or.inr ⟨by rfl, rfl⟩) kS ?_; (try simp only [Act.put, List.setIfInBounds_toArray, List.set_cons_zero, List.set_cons_succ]))
      (refine takeL (i := 1) (v := _) rfl (by kernel_rfl) (by kernel_rfl) (by kernel_rfl) (fun _ _ _ h => h) (by first | exact yield_load rfl rfl rfl rfl | exact yield_loads rfl rfl rfl rfl | exact yield_loads rfl rfl rfl (by simp only [i64s_length, u8s_length]; first | assumption | omega) | exact yield_loadi rfl rfl rfl (by first | assumption | omega) | exact yield_loadp rfl rfl rfl (by first | assumption | omega)) kS ?_; (try simp only [Act.put, List.setIfInBounds_toArray, List.set_cons_zero, List.set_cons_succ]))
      (refine takeL (i := 4) (v := _) rfl (by kernel_rfl) (by kernel_rfl) (by kernel_rfl) (fun _ _ _ h => h) (by first | exact Or.inl ⟨by rfl, (by intro u hSu; clear hSu; go_simp; try with_reducible rfl)⟩ | exact Or.inr ⟨by rfl, rfl⟩) kS ?_; (try simp only [Act.put, List.setIfInBounds_toArray, List.set_cons_zero, List.set_cons_succ]))
      (refine takeL (i := 5) (v := _) rfl (by kernel_rfl) (by kernel_rfl) (by kernel_rfl) (fun _ _ _ h => h) (yield_load (g := g2) (i := 28) rfl rfl rfl hT.out) kS ?_; (try simp only [Act.put, List.setIfInBounds_toArray, List.set_cons_zero, List.set_cons_succ]))
      (refine takeL (i := 6) (v := _) rfl (by kernel_rfl) (by kernel_rfl) (by kernel_rfl) (fun _ _ _ h => h) (by first | exact yield_load rfl rfl rfl rfl | exact yield_loads rfl rfl rfl rfl | exact yield_loads rfl rfl rfl (by simp only [i64s_length, u8s_length]; first | assumption | omega) | exact yield_loadi rfl rfl rfl (by first | assumption | omega) | exact yield_loadp rfl rfl rfl (by first | assumption | omega)) kS ?_; (try simp only [Act.put, List.setIfInBounds_toArray, List.set_cons_zero, List.set_cons_succ]))
      refine callL (i := 2) rfl (by kernel_rfl) (fun K hK => ?_)
      (go_simp; refine (hWk.out _).mono ?_; rintro e' w1 ⟨rfl, hb⟩; have E1 := Lib.hid (E.out.later hb); clear hb E; have E := E1; clear E1; go_wp2_with fail; (refine hK.out _ _ (E.out.part _ _ (by repeat (first | exact List.Sublist.refl _ | apply List.Sublist.cons_cons | apply List.Sublist.cons)) (by simp)) (fun kS => ?_); clear hK K; (try simp only [Act.put, List.setIfInBounds_toArray, List.set_cons_zero, List.set_cons_succ])))
      (refine takeL (i := 3) (v := _) rfl (by kernel_rfl) (by kernel_rfl) (by kernel_rfl) (fun _ _ _ h => h) (by first | exact Or.inl ⟨by rfl, (by intro u hSu; clear hSu; go_simp; try with_reducible rfl)⟩ | exact Or.inr ⟨by rfl, rfl⟩) kS ?_; (try simp only [Act.put, List.setIfInBounds_toArray, List.set_cons_zero, List.set_cons_succ]))
      refine callL (i := 7) rfl (by kernel_rfl) (fun K hK => ?_)
      (go_simp; refine (hTk.out _ _ E.out).mono ?_; rintro e' w1 ⟨rfl, E0⟩; clear E; have E := Lib.hid E0; clear E0; go_wp2_with fail; (refine hK.out _ _ (E.out.part _ _ (by repeat (first | exact List.Sublist.refl _ | apply List.Sublist.cons_cons | apply List.Sublist.cons)) (by simp)) (fun kS => ?_); clear hK K; (try simp only [Act.put, List.setIfInBounds_toArray, List.set_cons_zero, List.set_cons_succ])))
      (refine takeL (i := 8) (v := _) rfl (by kernel_rfl) (by kernel_rfl) (by kernel_rfl) (fun _ _ _ h => h) (by first | exact Or.inl ⟨by rfl, (by intro u hSu; clear hSu; go_simp; try with_reducible rfl)⟩ | exact Or.inr ⟨by rfl, rfl⟩) kS ?_; (try simp only [Act.put, List.setIfInBounds_toArray, List.set_cons_zero, List.set_cons_succ])); (refine takeL (i := 9) (v := _) rfl (by kernel_rfl) (by kernel_rfl) (by kernel_rfl) (fun _ _ _ h => h) (by first | exact Or.inl ⟨by rfl, (by intro u hSu; clear hSu; go_simp; try with_reducible rfl)⟩ | exact Or.inr ⟨by rfl, rfl⟩) kS ?_; (try simp only [Act.put, List.setIfInBounds_toArray, List.set_cons_zero, List.set_cons_succ]))
      refine wpAnyH_done (by kernel_rfl) ?_ _
      go_wp2_with fail
      go_roundw
      case rel => exact ⟨k + 1, by omega, by rw [ht1.out]; exact congrArg (Value.int .i64) hor.out, by go_num, E.out.part _ _ (by repeat (first | exact List.Sublist.refl _ | apply List.Sublist.cons_cons | apply List.Sublist.cons)) (by simp)⟩
      case measure => simp [intOf]; try omega
    · have hk3 : ¬ ((k : Int) < 3) := by omega
      have ek : k = 3 := by omega
      subst ek
      clear HI HP HS H0 HT HW HRL HN HTK hlt
      go_wp2_with (first | ((with_reducible refine kn_load E.out rfl rfl rfl rfl ?_)) | ((with_reducible refine kn_load_if E.out rfl rfl rfl rfl ?_)) | ((with_reducible refine kn_loads E.out rfl rfl rfl ?_ ?_); (focus (first | rfl | (simp only [i64s_length, u8s_length]; first | rfl | assumption | omega)))) | ((with_reducible refine kn_loads_if E.out rfl rfl rfl ?_ ?_); (focus (first | rfl | (simp only [i64s_length, u8s_length]; first | rfl | assumption | omega)))) | ((with_reducible refine kn_stores E.out rfl rfl rfl rfl rfl ?_ ?_ ?_); (focus (first | exact ⟨rfl, rfl⟩ | (simp only [i64s_length, u8s_length]; refine ⟨?_, ?_⟩ <;> first | rfl | assumption | omega))); (focus (first | exact i64s_one _ | exact u8s_one _ | simp [Value.oneCell'])); clear E; intro u E0; have E := Lib.hid E0; clear E0))
      go_ret
      exact ⟨rfl, E.out.bel⟩
end Go.Proofs.YtgcijioiicmjiaaDoor
set_option linter.all false
namespace Go.Proofs.YtgcijioiicmjiaaDoor
open Go.RowKit
open Bi Lv Eo Et

instance : Aggr 57 29 := ⟨⟨_, Tryd.underlying57, rfl⟩, by kernel_rfl⟩
namespace Et
/-- Texels chosen among four. -/
def choR (W C : List Int) (i : Nat) : List Int := (C.drop ((W.getD i 0).toNat * 4)).take 4
def choV (W C : List Int) : List Int := fl z64 (choR W C) 16
/-- Texels of index 2 cleared, as far as k. -/
def clrP (W T : List Int) : Nat → List Int
  | 0 => T
  | k + 1 => if W.getD k 0 = 2 then spl (clrP W T k) (k * 4) [0, 0, 0, 0] else clrP W T k
theorem clrP_length (W T : List Int) : ∀ k, (clrP W T k).length = T.length
  | 0 => rfl
  | k + 1 => by
    rw [clrP]
    split
    · rw [spl_length, clrP_length W T k]
    · exact clrP_length W T k
def clrV (o : Bool) (W T : List Int) : List Int := if o then T else clrP W T 16
end Et
set_option maxHeartbeats 4000000 in
set_option maxRecDepth 100000 in
theorem choose2 (B : List Value) (hB : B.length = 29) (hO : ∀ v ∈ B, v.oneCell' = true) (W C : List Int) (hW : W.length = 16) (hBW : (B.drop 10).take 16 = i64s W) (hWb : ∀ i, i < 16 → 0 ≤ W.getD i 0 ∧ W.getD i 0 < 4) (hC : C.length = 16) (w : World) :
    Calls Tryd.prog 83 #[.agg B.toArray, arr C] w fun e w' => e = .returned (arr (choV W C)) ∧ Below w.heap.size w w' := by
  have E := Lib.hid (Kn.start w)
  have HI := Lib.hid (fun k (hk : k < 16) u => run_index_i64 (P := Tryd.prog) 46 3 16 Tryd.underlying46 Tryd.underlying3 (by kernel_rfl) W k hk hW u)
  have HF := Lib.hid (fun k => show fl z64 (choR W C) (k + 1) = spl (fl z64 (choR W C) k) (k * 4) (choR W C k) from rfl)
  have HL := Lib.hid (fun k => show (fl z64 (choR W C) k).length = 64 from by rw [fl_length]; exact z64_length)
  have H0 := Lib.hid (show fl z64 (choR W C) 0 = z64 from rfl)
  have HR := Lib.hid (fun i => show (C.drop ((W.getD i 0).toNat * 4)).take 4 = choR W C i from rfl)
  have hz64 := Lib.hid z64_length
  unfold choV
  replace hB := Lib.hid hB
  replace hO := Lib.hid hO
  replace hBW := Lib.hid hBW
  replace hWb := Lib.hid hWb
  replace hC := Lib.hid hC
  replace hW := Lib.hid hW
  generalize fl z64 (choR W C) = FL at *
  generalize choR W C = CR at *
  go_enter Tryd.func83, Tryd.ntmps83
  go_wp2_with (first
    | ((with_reducible refine kn_loadv (g := g2) (off := 10) E.out rfl rfl rfl hBW.out ?hl ?_); (case hl => rw [i64s_length]; exact hW.out))
    | ((with_reducible refine kn_load E.out rfl rfl rfl rfl ?_)) | ((with_reducible refine kn_load_if E.out rfl rfl rfl rfl ?_)) | ((with_reducible refine kn_loads E.out rfl rfl rfl ?_ ?_); (focus (first | rfl | (simp only [i64s_length, u8s_length]; first | rfl | assumption | omega)))) | ((with_reducible refine kn_loads_if E.out rfl rfl rfl ?_ ?_); (focus (first | rfl | (simp only [i64s_length, u8s_length]; first | rfl | assumption | omega)))) | ((with_reducible refine kn_stores E.out rfl rfl rfl rfl rfl ?_ ?_ ?_); (focus (first | exact ⟨rfl, rfl⟩ | (simp only [i64s_length, u8s_length]; refine ⟨?_, ?_⟩ <;> first | rfl | assumption | omega))); (focus (first | exact i64s_one _ | exact u8s_one _ | simp [Value.oneCell'])); clear E; intro u E0; have E := Lib.hid E0; clear E0) | ((with_reducible refine kn_alloc (o := ⟨some 2, _, _, _, _, _⟩) E.out rfl rfl ?_); clear E; intro g2 u E0 hb0; have E := Lib.hid E0; clear E0 hb0) | ((with_reducible refine kn_box (o := ⟨some 2, _, _, _, _, _⟩) E.out rfl rfl rfl ?_); clear E; intro g2 u E0 hb0; have E := Lib.hid E0; clear E0 hb0) | ((with_reducible refine kn_box_int (o := ⟨some 2, _, _, _, _, _⟩) E.out rfl rfl rfl ?_); clear E; intro g2 u E0 hb0; have E := Lib.hid E0; clear E0 hb0) | ((with_reducible refine kn_box_slice (o := ⟨some 2, _, _, _, _, _⟩) E.out rfl rfl rfl ?_); clear E; intro g2 u E0 hb0; have E := Lib.hid E0; clear E0 hb0) | ((with_reducible refine kn_box_bool (o := ⟨some 2, _, _, _, _, _⟩) E.out rfl rfl rfl ?_); clear E; intro g2 u E0 hb0; have E := Lib.hid E0; clear E0 hb0) | ((with_reducible refine kn_box_func (o := ⟨some 2, _, _, _, _, _⟩) E.out rfl rfl rfl ?_); clear E; intro g2 u E0 hb0; have E := Lib.hid E0; clear E0 hb0) | ((with_reducible refine kn_alloc (o := ⟨some 3, _, _, _, _, _⟩) E.out rfl rfl ?_); clear E; intro g3 u E0 hb0; have E := Lib.hid E0; clear E0 hb0) | ((with_reducible refine kn_box (o := ⟨some 3, _, _, _, _, _⟩) E.out rfl rfl rfl ?_); clear E; intro g3 u E0 hb0; have E := Lib.hid E0; clear E0 hb0) | ((with_reducible refine kn_box_int (o := ⟨some 3, _, _, _, _, _⟩) E.out rfl rfl rfl ?_); clear E; intro g3 u E0 hb0; have E := Lib.hid E0; clear E0 hb0) | ((with_reducible refine kn_box_slice (o := ⟨some 3, _, _, _, _, _⟩) E.out rfl rfl rfl ?_); clear E; intro g3 u E0 hb0; have E := Lib.hid E0; clear E0 hb0) | ((with_reducible refine kn_box_bool (o := ⟨some 3, _, _, _, _, _⟩) E.out rfl rfl rfl ?_); clear E; intro g3 u E0 hb0; have E := Lib.hid E0; clear E0 hb0) | ((with_reducible refine kn_box_func (o := ⟨some 3, _, _, _, _, _⟩) E.out rfl rfl rfl ?_); clear E; intro g3 u E0 hb0; have E := Lib.hid E0; clear E0 hb0) | ((with_reducible refine kn_alloc (o := ⟨some 4, _, _, _, _, _⟩) E.out rfl rfl ?_); clear E; intro g4 u E0 hb0; have E := Lib.hid E0; clear E0 hb0) | ((with_reducible refine kn_box (o := ⟨some 4, _, _, _, _, _⟩) E.out rfl rfl rfl ?_); clear E; intro g4 u E0 hb0; have E := Lib.hid E0; clear E0 hb0) | ((with_reducible refine kn_box_int (o := ⟨some 4, _, _, _, _, _⟩) E.out rfl rfl rfl ?_); clear E; intro g4 u E0 hb0; have E := Lib.hid E0; clear E0 hb0) | ((with_reducible refine kn_box_slice (o := ⟨some 4, _, _, _, _, _⟩) E.out rfl rfl rfl ?_); clear E; intro g4 u E0 hb0; have E := Lib.hid E0; clear E0 hb0) | ((with_reducible refine kn_box_bool (o := ⟨some 4, _, _, _, _, _⟩) E.out rfl rfl rfl ?_); clear E; intro g4 u E0 hb0; have E := Lib.hid E0; clear E0 hb0) | ((with_reducible refine kn_box_func (o := ⟨some 4, _, _, _, _, _⟩) E.out rfl rfl rfl ?_); clear E; intro g4 u E0 hb0; have E := Lib.hid E0; clear E0 hb0) | ((with_reducible refine kn_alloc (o := ⟨some 5, _, _, _, _, _⟩) E.out rfl rfl ?_); clear E; intro g5 u E0 hb0; have E := Lib.hid E0; clear E0 hb0) | ((with_reducible refine kn_box (o := ⟨some 5, _, _, _, _, _⟩) E.out rfl rfl rfl ?_); clear E; intro g5 u E0 hb0; have E := Lib.hid E0; clear E0 hb0) | ((with_reducible refine kn_box_int (o := ⟨some 5, _, _, _, _, _⟩) E.out rfl rfl rfl ?_); clear E; intro g5 u E0 hb0; have E := Lib.hid E0; clear E0 hb0) | ((with_reducible refine kn_box_slice (o := ⟨some 5, _, _, _, _, _⟩) E.out rfl rfl rfl ?_); clear E; intro g5 u E0 hb0; have E := Lib.hid E0; clear E0 hb0) | ((with_reducible refine kn_box_bool (o := ⟨some 5, _, _, _, _, _⟩) E.out rfl rfl rfl ?_); clear E; intro g5 u E0 hb0; have E := Lib.hid E0; clear E0 hb0) | ((with_reducible refine kn_box_func (o := ⟨some 5, _, _, _, _, _⟩) E.out rfl rfl rfl ?_); clear E; intro g5 u E0 hb0; have E := Lib.hid E0; clear E0 hb0))
  go_loopw [11] (fun ck wr => ∃ k : Nat, k ≤ 16 ∧ ck = .int .i64 (k : Int) ∧ Hid (Kn w [.row g5 27 (i64s (FL k)), .row g4 27 (i64s z64), .row g3 69 (i64s C), .row g2 57 B] [] wr)) (fun ck _ => 16 - (intOf ck).toNat)
  case atStart => exact ⟨0, by omega, rfl, by rw [H0.out]; exact E⟩
  case round =>
    clear E
    obtain ⟨k, hk, rfl, E⟩ := hrel
    have hl := HL.out k
    by_cases hlt : k < 16
    · have hk3 : (k : Int) < 16 := by omega
      have hix := fun u => HI.out k hlt u
      have hwb := hWb.out k hlt
      have hF := Lib.hid (HF.out k)
      have hR := Lib.hid (HR.out k)
      clear HI HF HL H0 HR hWb
      obtain ⟨v, hv⟩ : ∃ v : Nat, W.getD k 0 = (v : Int) := ⟨(W.getD k 0).toNat, by omega⟩
      rw [hv] at hix hwb hR
      rw [Int.toNat_natCast] at hR
      clear hv
      have hix2 : ∀ u, (Instr.index 46 (.agg (i64s W).toArray) (.int .i64 (k : Int))).run Tryd.prog u = .ok (.int .i64 (v : Int)) u := hix
      have hv4 : (v : Int) < 4 := hwb.2
      have hcl : v * 4 + 4 ≤ C.length := by rw [hC.out]; omega
      obtain ⟨cr, hcr⟩ : ∃ z, CR k = z := ⟨_, rfl⟩
      rw [hcr] at hF hR
      clear hcr
      have hcrl : cr.length = 4 := by rw [← hR.out, List.length_take, List.length_drop]; omega
      clear hwb
      go_wp2_with (first
        | ((with_reducible refine kn_loadp (g := g3) (off := v * 4) E.out rfl rfl rfl ?hl ?_); (case hl => exact hcl); rw [hR.out])
        | ((with_reducible refine kn_storep (g := g5) (off := k * 4) (ys := cr) E.out rfl rfl rfl rfl rfl ?hl ?hm ?_); (case hl => exact hcrl); (case hm => omega); clear E; intro u E0; have E := Lib.hid E0; clear E0)
        | ((with_reducible refine kn_load E.out rfl rfl rfl rfl ?_)) | ((with_reducible refine kn_load_if E.out rfl rfl rfl rfl ?_)) | ((with_reducible refine kn_loads E.out rfl rfl rfl ?_ ?_); (focus (first | rfl | (simp only [i64s_length, u8s_length]; first | rfl | assumption | omega)))) | ((with_reducible refine kn_loads_if E.out rfl rfl rfl ?_ ?_); (focus (first | rfl | (simp only [i64s_length, u8s_length]; first | rfl | assumption | omega)))) | ((with_reducible refine kn_stores E.out rfl rfl rfl rfl rfl ?_ ?_ ?_); (focus (first | exact ⟨rfl, rfl⟩ | (simp only [i64s_length, u8s_length]; refine ⟨?_, ?_⟩ <;> first | rfl | assumption | omega))); (focus (first | exact i64s_one _ | exact u8s_one _ | simp [Value.oneCell'])); clear E; intro u E0; have E := Lib.hid E0; clear E0))
      go_roundw
      case rel => exact ⟨k + 1, by omega, by go_num, by rw [hF.out]; exact E⟩
      case measure => simp [intOf]; try omega
    · have hk3 : ¬ ((k : Int) < 16) := by omega
      have ek : k = 16 := by omega
      rw [ek] at E hl
      clear HI HF HL H0 HR hWb hlt ek
      go_wp2_with (first
        | ((with_reducible refine kn_loads (g := g5) E.out rfl rfl rfl ?hl ?_); (case hl => rw [i64s_length]; exact hl))
        | ((with_reducible refine kn_stores (g := g4) (vs := i64s (FL 16)) E.out rfl rfl rfl rfl rfl ?hl ?h1 ?_); (case hl => exact ⟨by rw [i64s_length]; exact hz64.out, by rw [i64s_length]; exact hl⟩); (case h1 => exact i64s_one _); clear E; intro u E0; have E := Lib.hid E0; clear E0)
        | ((with_reducible refine kn_load E.out rfl rfl rfl rfl ?_)) | ((with_reducible refine kn_load_if E.out rfl rfl rfl rfl ?_)) | ((with_reducible refine kn_loads E.out rfl rfl rfl ?_ ?_); (focus (first | rfl | (simp only [i64s_length, u8s_length]; first | rfl | assumption | omega)))) | ((with_reducible refine kn_loads_if E.out rfl rfl rfl ?_ ?_); (focus (first | rfl | (simp only [i64s_length, u8s_length]; first | rfl | assumption | omega)))) | ((with_reducible refine kn_stores E.out rfl rfl rfl rfl rfl ?_ ?_ ?_); (focus (first | exact ⟨rfl, rfl⟩ | (simp only [i64s_length, u8s_length]; refine ⟨?_, ?_⟩ <;> first | rfl | assumption | omega))); (focus (first | exact i64s_one _ | exact u8s_one _ | simp [Value.oneCell'])); clear E; intro u E0; have E := Lib.hid E0; clear E0))
      refine bodyPost_ret (results_kn E.out rfl _ rfl (by rw [i64s_length]; exact hl)) rfl ?_
      exact ⟨rfl, E.out.bel⟩
set_option maxHeartbeats 4000000 in
set_option maxRecDepth 100000 in
theorem cleared2 (B : List Value) (hB : B.length = 29) (hO : ∀ v ∈ B, v.oneCell' = true) (o : Bool) (hBo : B[27]? = some (.bool o)) (W T : List Int) (hW : W.length = 16) (hBW : (B.drop 10).take 16 = i64s W) (hT : T.length = 64) (w : World) :
    Calls Tryd.prog 25 #[.agg B.toArray, arr T] w fun e w' => e = .returned (arr (clrV o W T)) ∧ Below w.heap.size w w' := by
  have E := Lib.hid (Kn.start w)
  have HI := Lib.hid (fun k (hk : k < 16) u => run_index_i64 (P := Tryd.prog) 46 3 16 Tryd.underlying46 Tryd.underlying3 (by kernel_rfl) W k hk hW u)
  have HF := Lib.hid (fun k => show clrP W T (k + 1) = if W.getD k 0 = 2 then spl (clrP W T k) (k * 4) [0, 0, 0, 0] else clrP W T k from rfl)
  have HL := Lib.hid (fun k => show (clrP W T k).length = 64 from by rw [clrP_length, hT])
  have H0 := Lib.hid (show clrP W T 0 = T from rfl)
  have hz64 := Lib.hid z64_length
  have hBu := fun (u : World) => (run_build u _ _ _ (by kernel_rfl) : (Instr.build 25 #[]).run Tryd.prog u = .ok (arr [0, 0, 0, 0]) u)
  replace hB := Lib.hid hB
  replace hO := Lib.hid hO
  replace hBo := Lib.hid hBo
  replace hBW := Lib.hid hBW
  replace hT := Lib.hid hT
  replace hW := Lib.hid hW
  unfold clrV
  generalize clrP W T = CP at *
  cases o
  · rw [if_neg (by decide)]
    go_enter Tryd.func25, Tryd.ntmps25
    go_wp2_with (first
      | ((with_reducible refine kn_loadv (g := g2) (off := 10) E.out rfl rfl rfl hBW.out ?hl ?_); (case hl => rw [i64s_length]; exact hW.out))
      | ((with_reducible refine kn_load (g := g2) (i := 27) E.out rfl rfl rfl hBo.out ?_))
      | ((with_reducible refine kn_load E.out rfl rfl rfl rfl ?_)) | ((with_reducible refine kn_load_if E.out rfl rfl rfl rfl ?_)) | ((with_reducible refine kn_loads E.out rfl rfl rfl ?_ ?_); (focus (first | rfl | (simp only [i64s_length, u8s_length]; first | rfl | assumption | omega)))) | ((with_reducible refine kn_loads_if E.out rfl rfl rfl ?_ ?_); (focus (first | rfl | (simp only [i64s_length, u8s_length]; first | rfl | assumption | omega)))) | ((with_reducible refine kn_stores E.out rfl rfl rfl rfl rfl ?_ ?_ ?_); (focus (first | exact ⟨rfl, rfl⟩ | (simp only [i64s_length, u8s_length]; refine ⟨?_, ?_⟩ <;> first | rfl | assumption | omega))); (focus (first | exact i64s_one _ | exact u8s_one _ | simp [Value.oneCell'])); clear E; intro u E0; have E := Lib.hid E0; clear E0) | ((with_reducible refine kn_alloc (o := ⟨some 2, _, _, _, _, _⟩) E.out rfl rfl ?_); clear E; intro g2 u E0 hb0; have E := Lib.hid E0; clear E0 hb0) | ((with_reducible refine kn_box (o := ⟨some 2, _, _, _, _, _⟩) E.out rfl rfl rfl ?_); clear E; intro g2 u E0 hb0; have E := Lib.hid E0; clear E0 hb0) | ((with_reducible refine kn_box_int (o := ⟨some 2, _, _, _, _, _⟩) E.out rfl rfl rfl ?_); clear E; intro g2 u E0 hb0; have E := Lib.hid E0; clear E0 hb0) | ((with_reducible refine kn_box_slice (o := ⟨some 2, _, _, _, _, _⟩) E.out rfl rfl rfl ?_); clear E; intro g2 u E0 hb0; have E := Lib.hid E0; clear E0 hb0) | ((with_reducible refine kn_box_bool (o := ⟨some 2, _, _, _, _, _⟩) E.out rfl rfl rfl ?_); clear E; intro g2 u E0 hb0; have E := Lib.hid E0; clear E0 hb0) | ((with_reducible refine kn_box_func (o := ⟨some 2, _, _, _, _, _⟩) E.out rfl rfl rfl ?_); clear E; intro g2 u E0 hb0; have E := Lib.hid E0; clear E0 hb0) | ((with_reducible refine kn_alloc (o := ⟨some 3, _, _, _, _, _⟩) E.out rfl rfl ?_); clear E; intro g3 u E0 hb0; have E := Lib.hid E0; clear E0 hb0) | ((with_reducible refine kn_box (o := ⟨some 3, _, _, _, _, _⟩) E.out rfl rfl rfl ?_); clear E; intro g3 u E0 hb0; have E := Lib.hid E0; clear E0 hb0) | ((with_reducible refine kn_box_int (o := ⟨some 3, _, _, _, _, _⟩) E.out rfl rfl rfl ?_); clear E; intro g3 u E0 hb0; have E := Lib.hid E0; clear E0 hb0) | ((with_reducible refine kn_box_slice (o := ⟨some 3, _, _, _, _, _⟩) E.out rfl rfl rfl ?_); clear E; intro g3 u E0 hb0; have E := Lib.hid E0; clear E0 hb0) | ((with_reducible refine kn_box_bool (o := ⟨some 3, _, _, _, _, _⟩) E.out rfl rfl rfl ?_); clear E; intro g3 u E0 hb0; have E := Lib.hid E0; clear E0 hb0) | ((with_reducible refine kn_box_func (o := ⟨some 3, _, _, _, _, _⟩) E.out rfl rfl rfl ?_); clear E; intro g3 u E0 hb0; have E := Lib.hid E0; clear E0 hb0) | ((with_reducible refine kn_alloc (o := ⟨some 4, _, _, _, _, _⟩) E.out rfl rfl ?_); clear E; intro g4 u E0 hb0; have E := Lib.hid E0; clear E0 hb0) | ((with_reducible refine kn_box (o := ⟨some 4, _, _, _, _, _⟩) E.out rfl rfl rfl ?_); clear E; intro g4 u E0 hb0; have E := Lib.hid E0; clear E0 hb0) | ((with_reducible refine kn_box_int (o := ⟨some 4, _, _, _, _, _⟩) E.out rfl rfl rfl ?_); clear E; intro g4 u E0 hb0; have E := Lib.hid E0; clear E0 hb0) | ((with_reducible refine kn_box_slice (o := ⟨some 4, _, _, _, _, _⟩) E.out rfl rfl rfl ?_); clear E; intro g4 u E0 hb0; have E := Lib.hid E0; clear E0 hb0) | ((with_reducible refine kn_box_bool (o := ⟨some 4, _, _, _, _, _⟩) E.out rfl rfl rfl ?_); clear E; intro g4 u E0 hb0; have E := Lib.hid E0; clear E0 hb0) | ((with_reducible refine kn_box_func (o := ⟨some 4, _, _, _, _, _⟩) E.out rfl rfl rfl ?_); clear E; intro g4 u E0 hb0; have E := Lib.hid E0; clear E0 hb0))
    go_loopw [13] (fun ck wr => ∃ k : Nat, k ≤ 16 ∧ ck = .int .i64 (k : Int) ∧ Hid (Kn w [.row g4 27 (i64s z64), .row g3 27 (i64s (CP k)), .row g2 57 B] [] wr)) (fun ck _ => 16 - (intOf ck).toNat)
    case atStart => exact ⟨0, by omega, rfl, by rw [H0.out]; exact E⟩
    case round =>
      clear E
      obtain ⟨k, hk, rfl, E⟩ := hrel
      have hl := HL.out k
      by_cases hlt : k < 16
      · have hk3 : (k : Int) < 16 := by omega
        have hix := fun u => HI.out k hlt u
        have hF := HF.out k
        clear HI HF HL H0
        obtain ⟨v, hv⟩ : ∃ v, W.getD k 0 = v := ⟨_, rfl⟩
        rw [hv] at hix hF
        clear hv
        have hix2 : ∀ u, (Instr.index 46 (.agg (i64s W).toArray) (.int .i64 (k : Int))).run Tryd.prog u = .ok (.int .i64 v) u := hix
        by_cases hv2 : v = 2
        · have hvb : (v == 2) = true := by rw [hv2]; rfl
          rw [if_pos hv2] at hF
          replace hF := Lib.hid hF
          clear hv2
          go_wp2_with (first
            | ((with_reducible refine kn_storep (g := g3) (off := k * 4) (ys := [0, 0, 0, 0]) E.out rfl rfl rfl rfl rfl ?hl ?hm ?_); (case hl => rfl); (case hm => omega); clear E; intro u E0; have E := Lib.hid E0; clear E0)
            | ((with_reducible refine kn_load E.out rfl rfl rfl rfl ?_)) | ((with_reducible refine kn_load_if E.out rfl rfl rfl rfl ?_)) | ((with_reducible refine kn_loads E.out rfl rfl rfl ?_ ?_); (focus (first | rfl | (simp only [i64s_length, u8s_length]; first | rfl | assumption | omega)))) | ((with_reducible refine kn_loads_if E.out rfl rfl rfl ?_ ?_); (focus (first | rfl | (simp only [i64s_length, u8s_length]; first | rfl | assumption | omega)))) | ((with_reducible refine kn_stores E.out rfl rfl rfl rfl rfl ?_ ?_ ?_); (focus (first | exact ⟨rfl, rfl⟩ | (simp only [i64s_length, u8s_length]; refine ⟨?_, ?_⟩ <;> first | rfl | assumption | omega))); (focus (first | exact i64s_one _ | exact u8s_one _ | simp [Value.oneCell'])); clear E; intro u E0; have E := Lib.hid E0; clear E0))
          go_roundw
          case rel => exact ⟨k + 1, by omega, by go_num, by rw [hF.out]; exact E⟩
          case measure => simp [intOf]; try omega
        · have hvb : (v == 2) = false := beq_eq_false_iff_ne.2 hv2
          rw [if_neg hv2] at hF
          replace hF := Lib.hid hF
          clear hv2
          go_wp2_with (first | ((with_reducible refine kn_load E.out rfl rfl rfl rfl ?_)) | ((with_reducible refine kn_load_if E.out rfl rfl rfl rfl ?_)) | ((with_reducible refine kn_loads E.out rfl rfl rfl ?_ ?_); (focus (first | rfl | (simp only [i64s_length, u8s_length]; first | rfl | assumption | omega)))) | ((with_reducible refine kn_loads_if E.out rfl rfl rfl ?_ ?_); (focus (first | rfl | (simp only [i64s_length, u8s_length]; first | rfl | assumption | omega)))) | ((with_reducible refine kn_stores E.out rfl rfl rfl rfl rfl ?_ ?_ ?_); (focus (first | exact ⟨rfl, rfl⟩ | (simp only [i64s_length, u8s_length]; refine ⟨?_, ?_⟩ <;> first | rfl | assumption | omega))); (focus (first | exact i64s_one _ | exact u8s_one _ | simp [Value.oneCell'])); clear E; intro u E0; have E := Lib.hid E0; clear E0))
          go_roundw
          case rel => exact ⟨k + 1, by omega, by go_num, by rw [hF.out]; exact E⟩
          case measure => simp [intOf]; try omega
      · have hk3 : ¬ ((k : Int) < 16) := by omega
        have ek : k = 16 := by omega
        rw [ek] at E hl
        clear HI HF HL H0 hlt ek
        go_wp2_with (first
          | ((with_reducible refine kn_loads (g := g3) E.out rfl rfl rfl ?hl ?_); (case hl => rw [i64s_length]; exact hl))
          | ((with_reducible refine kn_stores (g := g4) (vs := i64s (CP 16)) E.out rfl rfl rfl rfl rfl ?hl ?h1 ?_); (case hl => exact ⟨by rw [i64s_length]; exact hz64.out, by rw [i64s_length]; exact hl⟩); (case h1 => exact i64s_one _); clear E; intro u E0; have E := Lib.hid E0; clear E0)
          | ((with_reducible refine kn_load E.out rfl rfl rfl rfl ?_)) | ((with_reducible refine kn_load_if E.out rfl rfl rfl rfl ?_)) | ((with_reducible refine kn_loads E.out rfl rfl rfl ?_ ?_); (focus (first | rfl | (simp only [i64s_length, u8s_length]; first | rfl | assumption | omega)))) | ((with_reducible refine kn_loads_if E.out rfl rfl rfl ?_ ?_); (focus (first | rfl | (simp only [i64s_length, u8s_length]; first | rfl | assumption | omega)))) | ((with_reducible refine kn_stores E.out rfl rfl rfl rfl rfl ?_ ?_ ?_); (focus (first | exact ⟨rfl, rfl⟩ | (simp only [i64s_length, u8s_length]; refine ⟨?_, ?_⟩ <;> first | rfl | assumption | omega))); (focus (first | exact i64s_one _ | exact u8s_one _ | simp [Value.oneCell'])); clear E; intro u E0; have E := Lib.hid E0; clear E0))
        refine bodyPost_ret (results_kn E.out rfl _ rfl (by rw [i64s_length]; exact hl)) rfl ?_
        exact ⟨rfl, E.out.bel⟩
  · rw [if_pos rfl]
    go_enter Tryd.func25, Tryd.ntmps25
    go_wp2_with (first
      | ((with_reducible refine kn_load (g := g2) (i := 27) E.out rfl rfl rfl hBo.out ?_))
      | ((with_reducible refine kn_loads (g := g3) E.out rfl rfl rfl ?hl ?_); (case hl => rw [i64s_length]; exact hT.out))
      | ((with_reducible refine kn_stores (g := g4) (vs := i64s T) E.out rfl rfl rfl rfl rfl ?hl ?h1 ?_); (case hl => exact ⟨by rw [i64s_length]; exact hz64.out, by rw [i64s_length]; exact hT.out⟩); (case h1 => exact i64s_one _); clear E; intro u E0; have E := Lib.hid E0; clear E0)
      | ((with_reducible refine kn_load E.out rfl rfl rfl rfl ?_)) | ((with_reducible refine kn_load_if E.out rfl rfl rfl rfl ?_)) | ((with_reducible refine kn_loads E.out rfl rfl rfl ?_ ?_); (focus (first | rfl | (simp only [i64s_length, u8s_length]; first | rfl | assumption | omega)))) | ((with_reducible refine kn_loads_if E.out rfl rfl rfl ?_ ?_); (focus (first | rfl | (simp only [i64s_length, u8s_length]; first | rfl | assumption | omega)))) | ((with_reducible refine kn_stores E.out rfl rfl rfl rfl rfl ?_ ?_ ?_); (focus (first | exact ⟨rfl, rfl⟩ | (simp only [i64s_length, u8s_length]; refine ⟨?_, ?_⟩ <;> first | rfl | assumption | omega))); (focus (first | exact i64s_one _ | exact u8s_one _ | simp [Value.oneCell'])); clear E; intro u E0; have E := Lib.hid E0; clear E0) | ((with_reducible refine kn_alloc (o := ⟨some 2, _, _, _, _, _⟩) E.out rfl rfl ?_); clear E; intro g2 u E0 hb0; have E := Lib.hid E0; clear E0 hb0) | ((with_reducible refine kn_box (o := ⟨some 2, _, _, _, _, _⟩) E.out rfl rfl rfl ?_); clear E; intro g2 u E0 hb0; have E := Lib.hid E0; clear E0 hb0) | ((with_reducible refine kn_box_int (o := ⟨some 2, _, _, _, _, _⟩) E.out rfl rfl rfl ?_); clear E; intro g2 u E0 hb0; have E := Lib.hid E0; clear E0 hb0) | ((with_reducible refine kn_box_slice (o := ⟨some 2, _, _, _, _, _⟩) E.out rfl rfl rfl ?_); clear E; intro g2 u E0 hb0; have E := Lib.hid E0; clear E0 hb0) | ((with_reducible refine kn_box_bool (o := ⟨some 2, _, _, _, _, _⟩) E.out rfl rfl rfl ?_); clear E; intro g2 u E0 hb0; have E := Lib.hid E0; clear E0 hb0) | ((with_reducible refine kn_box_func (o := ⟨some 2, _, _, _, _, _⟩) E.out rfl rfl rfl ?_); clear E; intro g2 u E0 hb0; have E := Lib.hid E0; clear E0 hb0) | ((with_reducible refine kn_alloc (o := ⟨some 3, _, _, _, _, _⟩) E.out rfl rfl ?_); clear E; intro g3 u E0 hb0; have E := Lib.hid E0; clear E0 hb0) | ((with_reducible refine kn_box (o := ⟨some 3, _, _, _, _, _⟩) E.out rfl rfl rfl ?_); clear E; intro g3 u E0 hb0; have E := Lib.hid E0; clear E0 hb0) | ((with_reducible refine kn_box_int (o := ⟨some 3, _, _, _, _, _⟩) E.out rfl rfl rfl ?_); clear E; intro g3 u E0 hb0; have E := Lib.hid E0; clear E0 hb0) | ((with_reducible refine kn_box_slice (o := ⟨some 3, _, _, _, _, _⟩) E.out rfl rfl rfl ?_); clear E; intro g3 u E0 hb0; have E := Lib.hid E0; clear E0 hb0) | ((with_reducible refine kn_box_bool (o := ⟨some 3, _, _, _, _, _⟩) E.out rfl rfl rfl ?_); clear E; intro g3 u E0 hb0; have E := Lib.hid E0; clear E0 hb0) | ((with_reducible refine kn_box_func (o := ⟨some 3, _, _, _, _, _⟩) E.out rfl rfl rfl ?_); clear E; intro g3 u E0 hb0; have E := Lib.hid E0; clear E0 hb0) | ((with_reducible refine kn_alloc (o := ⟨some 4, _, _, _, _, _⟩) E.out rfl rfl ?_); clear E; intro g4 u E0 hb0; have E := Lib.hid E0; clear E0 hb0) | ((with_reducible refine kn_box (o := ⟨some 4, _, _, _, _, _⟩) E.out rfl rfl rfl ?_); clear E; intro g4 u E0 hb0; have E := Lib.hid E0; clear E0 hb0) | ((with_reducible refine kn_box_int (o := ⟨some 4, _, _, _, _, _⟩) E.out rfl rfl rfl ?_); clear E; intro g4 u E0 hb0; have E := Lib.hid E0; clear E0 hb0) | ((with_reducible refine kn_box_slice (o := ⟨some 4, _, _, _, _, _⟩) E.out rfl rfl rfl ?_); clear E; intro g4 u E0 hb0; have E := Lib.hid E0; clear E0 hb0) | ((with_reducible refine kn_box_bool (o := ⟨some 4, _, _, _, _, _⟩) E.out rfl rfl rfl ?_); clear E; intro g4 u E0 hb0; have E := Lib.hid E0; clear E0 hb0) | ((with_reducible refine kn_box_func (o := ⟨some 4, _, _, _, _, _⟩) E.out rfl rfl rfl ?_); clear E; intro g4 u E0 hb0; have E := Lib.hid E0; clear E0 hb0))
    refine bodyPost_ret (results_kn E.out rfl _ rfl (by rw [i64s_length]; exact hT.out)) rfl ?_
    exact ⟨rfl, E.out.bel⟩
end Go.Proofs.YtgcijioiicmjiaaDoor
set_option linter.all false
namespace Go.Proofs.YtgcijioiicmjiaaDoor
open Go.RowKit
open Bi Lv Eo Et

namespace Et
/-- A texel laid number by number, its alpha first. -/
def pP (O : List Int) (o : Nat) (f : Nat → Int) : Nat → List Int
  | 0 => O.set (o + 3) 255
  | c + 1 => (pP O o f c).set (o + c) (f c)
theorem pP_length (O : List Int) (o : Nat) (f : Nat → Int) : ∀ c, (pP O o f c).length = O.length
  | 0 => by rw [pP, List.length_set]
  | c + 1 => by rw [pP, List.length_set, pP_length O o f c]
theorem pP_full (O : List Int) (o : Nat) (f : Nat → Int) (h : o + 4 ≤ O.length) : pP O o f 3 = spl O o [f 0, f 1, f 2, 255] := by
  refine getD_ext (by rw [pP_length, spl_length]) fun j hj => ?_
  show ((((O.set (o + 3) 255).set (o + 0) (f 0)).set (o + 1) (f 1)).set (o + 2) (f 2)).getD j 0 = _
  rw [getD_seti _ _ _ _ (by simp; omega), getD_seti _ _ _ _ (by simp; omega), getD_seti _ _ _ _ (by simp; omega), getD_seti _ _ _ _ (by omega), spl_getD _ _ _ _ (by show o + 4 ≤ _; exact h)]
  show _ = if o ≤ j ∧ j < o + 4 then _ else _
  by_cases hc : o ≤ j ∧ j < o + 4
  · rw [if_pos hc]
    obtain hk | hk | hk | hk : j = o ∨ j = o + 1 ∨ j = o + 2 ∨ j = o + 3 := by omega
    all_goals subst hk; simp
  · rw [if_neg hc, if_neg (by omega), if_neg (by omega), if_neg (by omega), if_neg (by omega)]
end Et
theorem wrapS (z : Int) (h1 : -4611686018427387904 ≤ z) (h2 : z ≤ 4611686018427387904) : IntKind.i64.wrap z = z := by rw [IntKind.wrap_i64]; omega
theorem mul_small (x : Nat) (z : Int) (hx : x < 4) (hz : -255 ≤ z ∧ z ≤ 255) : -765 ≤ (x : Int) * z ∧ (x : Int) * z ≤ 765 := by
  obtain rfl | rfl | rfl | rfl : x = 0 ∨ x = 1 ∨ x = 2 ∨ x = 3 := by omega
  all_goals omega
theorem plane_num (x y : Nat) (o h v : Int) (hx : x < 4) (hy : y < 4) (bo : 0 ≤ o ∧ o ≤ 255) (bh : 0 ≤ h ∧ h ≤ 255) (bv : 0 ≤ v ∧ v ≤ 255) :
    IntKind.i64.wrap (IntKind.i64.wrap (IntKind.i64.wrap (IntKind.i64.wrap ((x : Int) * IntKind.i64.wrap (h - o)) + IntKind.i64.wrap ((y : Int) * IntKind.i64.wrap (v - o))) + IntKind.i64.wrap (4 * o)) + 2) = (x : Int) * (h - o) + (y : Int) * (v - o) + 4 * o + 2 := by
  have h1 := mul_small x (h - o) hx (by omega)
  have h2 := mul_small y (v - o) hy (by omega)
  rw [wrapS (h - o) (by omega) (by omega), wrapS (v - o) (by omega) (by omega)]
  generalize (x : Int) * (h - o) = p at *
  generalize (y : Int) * (v - o) = q at *
  rw [wrapS p (by omega) (by omega), wrapS q (by omega) (by omega), wrapS (p + q) (by omega) (by omega), wrapS (4 * o) (by omega) (by omega), wrapS (p + q + 4 * o) (by omega) (by omega), wrapS _ (by omega) (by omega)]
set_option maxHeartbeats 4000000 in
set_option maxRecDepth 100000 in
theorem plane2 (o h v : List Int) (w : World) (ho : o.length = 4) (hh : h.length = 4) (hv : v.length = 4) (bo : ∀ j, 0 ≤ o.getD j 0 ∧ o.getD j 0 ≤ 255) (bh : ∀ j, 0 ≤ h.getD j 0 ∧ h.getD j 0 ≤ 255) (bv : ∀ j, 0 ≤ v.getD j 0 ∧ v.getD j 0 ≤ 255) :
    Calls Tryd.prog 17 #[arr o, arr h, arr v] w fun e w' => e = .returned (arr (plV o h v)) ∧ Below w.heap.size w w' := by
  have E := Lib.hid (Kn.start w)
  have HF := Lib.hid (fun k => show fl z64 (plR o h v) (k + 1) = spl (fl z64 (plR o h v) k) (k * 4) (plR o h v k) from rfl)
  have HFL := Lib.hid (fun k => show (fl z64 (plR o h v) k).length = 64 from by rw [fl_length]; exact z64_length)
  have HF0 := Lib.hid (show fl z64 (plR o h v) 0 = z64 from rfl)
  have HR := Lib.hid (fun i => show plR o h v i = [plE o h v i 0, plE o h v i 1, plE o h v i 2, 255] from rfl)
  have HE := Lib.hid (fun i c => show plE o h v i c = clampV ((((i % 4 : Nat) : Int) * (h.getD c 0 - o.getD c 0) + ((i / 4 : Nat) : Int) * (v.getD c 0 - o.getD c 0) + 4 * o.getD c 0 + 2) / 4) 255 from rfl)
  have hz64 := Lib.hid z64_length
  unfold plV
  replace bo := Lib.hid bo
  replace bh := Lib.hid bh
  replace bv := Lib.hid bv
  generalize fl z64 (plR o h v) = FL at *
  generalize plR o h v = PR at *
  generalize plE o h v = PE at *
  go_enter Tryd.func17, Tryd.ntmps17
  go_wp2_with (first | ((with_reducible refine kn_load E.out rfl rfl rfl rfl ?_)) | ((with_reducible refine kn_load_if E.out rfl rfl rfl rfl ?_)) | ((with_reducible refine kn_loads E.out rfl rfl rfl ?_ ?_); (focus (first | rfl | (simp only [i64s_length, u8s_length]; first | rfl | assumption | omega)))) | ((with_reducible refine kn_loads_if E.out rfl rfl rfl ?_ ?_); (focus (first | rfl | (simp only [i64s_length, u8s_length]; first | rfl | assumption | omega)))) | ((with_reducible refine kn_stores E.out rfl rfl rfl rfl rfl ?_ ?_ ?_); (focus (first | exact ⟨rfl, rfl⟩ | (simp only [i64s_length, u8s_length]; refine ⟨?_, ?_⟩ <;> first | rfl | assumption | omega))); (focus (first | exact i64s_one _ | exact u8s_one _ | simp [Value.oneCell'])); clear E; intro u E0; have E := Lib.hid E0; clear E0) | ((with_reducible refine kn_alloc (o := ⟨some 3, _, _, _, _, _⟩) E.out rfl rfl ?_); clear E; intro g3 u E0 hb0; have E := Lib.hid E0; clear E0 hb0) | ((with_reducible refine kn_box (o := ⟨some 3, _, _, _, _, _⟩) E.out rfl rfl rfl ?_); clear E; intro g3 u E0 hb0; have E := Lib.hid E0; clear E0 hb0) | ((with_reducible refine kn_box_int (o := ⟨some 3, _, _, _, _, _⟩) E.out rfl rfl rfl ?_); clear E; intro g3 u E0 hb0; have E := Lib.hid E0; clear E0 hb0) | ((with_reducible refine kn_box_slice (o := ⟨some 3, _, _, _, _, _⟩) E.out rfl rfl rfl ?_); clear E; intro g3 u E0 hb0; have E := Lib.hid E0; clear E0 hb0) | ((with_reducible refine kn_box_bool (o := ⟨some 3, _, _, _, _, _⟩) E.out rfl rfl rfl ?_); clear E; intro g3 u E0 hb0; have E := Lib.hid E0; clear E0 hb0) | ((with_reducible refine kn_box_func (o := ⟨some 3, _, _, _, _, _⟩) E.out rfl rfl rfl ?_); clear E; intro g3 u E0 hb0; have E := Lib.hid E0; clear E0 hb0) | ((with_reducible refine kn_alloc (o := ⟨some 4, _, _, _, _, _⟩) E.out rfl rfl ?_); clear E; intro g4 u E0 hb0; have E := Lib.hid E0; clear E0 hb0) | ((with_reducible refine kn_box (o := ⟨some 4, _, _, _, _, _⟩) E.out rfl rfl rfl ?_); clear E; intro g4 u E0 hb0; have E := Lib.hid E0; clear E0 hb0) | ((with_reducible refine kn_box_int (o := ⟨some 4, _, _, _, _, _⟩) E.out rfl rfl rfl ?_); clear E; intro g4 u E0 hb0; have E := Lib.hid E0; clear E0 hb0) | ((with_reducible refine kn_box_slice (o := ⟨some 4, _, _, _, _, _⟩) E.out rfl rfl rfl ?_); clear E; intro g4 u E0 hb0; have E := Lib.hid E0; clear E0 hb0) | ((with_reducible refine kn_box_bool (o := ⟨some 4, _, _, _, _, _⟩) E.out rfl rfl rfl ?_); clear E; intro g4 u E0 hb0; have E := Lib.hid E0; clear E0 hb0) | ((with_reducible refine kn_box_func (o := ⟨some 4, _, _, _, _, _⟩) E.out rfl rfl rfl ?_); clear E; intro g4 u E0 hb0; have E := Lib.hid E0; clear E0 hb0) | ((with_reducible refine kn_alloc (o := ⟨some 5, _, _, _, _, _⟩) E.out rfl rfl ?_); clear E; intro g5 u E0 hb0; have E := Lib.hid E0; clear E0 hb0) | ((with_reducible refine kn_box (o := ⟨some 5, _, _, _, _, _⟩) E.out rfl rfl rfl ?_); clear E; intro g5 u E0 hb0; have E := Lib.hid E0; clear E0 hb0) | ((with_reducible refine kn_box_int (o := ⟨some 5, _, _, _, _, _⟩) E.out rfl rfl rfl ?_); clear E; intro g5 u E0 hb0; have E := Lib.hid E0; clear E0 hb0) | ((with_reducible refine kn_box_slice (o := ⟨some 5, _, _, _, _, _⟩) E.out rfl rfl rfl ?_); clear E; intro g5 u E0 hb0; have E := Lib.hid E0; clear E0 hb0) | ((with_reducible refine kn_box_bool (o := ⟨some 5, _, _, _, _, _⟩) E.out rfl rfl rfl ?_); clear E; intro g5 u E0 hb0; have E := Lib.hid E0; clear E0 hb0) | ((with_reducible refine kn_box_func (o := ⟨some 5, _, _, _, _, _⟩) E.out rfl rfl rfl ?_); clear E; intro g5 u E0 hb0; have E := Lib.hid E0; clear E0 hb0) | ((with_reducible refine kn_alloc (o := ⟨some 6, _, _, _, _, _⟩) E.out rfl rfl ?_); clear E; intro g6 u E0 hb0; have E := Lib.hid E0; clear E0 hb0) | ((with_reducible refine kn_box (o := ⟨some 6, _, _, _, _, _⟩) E.out rfl rfl rfl ?_); clear E; intro g6 u E0 hb0; have E := Lib.hid E0; clear E0 hb0) | ((with_reducible refine kn_box_int (o := ⟨some 6, _, _, _, _, _⟩) E.out rfl rfl rfl ?_); clear E; intro g6 u E0 hb0; have E := Lib.hid E0; clear E0 hb0) | ((with_reducible refine kn_box_slice (o := ⟨some 6, _, _, _, _, _⟩) E.out rfl rfl rfl ?_); clear E; intro g6 u E0 hb0; have E := Lib.hid E0; clear E0 hb0) | ((with_reducible refine kn_box_bool (o := ⟨some 6, _, _, _, _, _⟩) E.out rfl rfl rfl ?_); clear E; intro g6 u E0 hb0; have E := Lib.hid E0; clear E0 hb0) | ((with_reducible refine kn_box_func (o := ⟨some 6, _, _, _, _, _⟩) E.out rfl rfl rfl ?_); clear E; intro g6 u E0 hb0; have E := Lib.hid E0; clear E0 hb0) | ((with_reducible refine kn_alloc (o := ⟨some 7, _, _, _, _, _⟩) E.out rfl rfl ?_); clear E; intro g7 u E0 hb0; have E := Lib.hid E0; clear E0 hb0) | ((with_reducible refine kn_box (o := ⟨some 7, _, _, _, _, _⟩) E.out rfl rfl rfl ?_); clear E; intro g7 u E0 hb0; have E := Lib.hid E0; clear E0 hb0) | ((with_reducible refine kn_box_int (o := ⟨some 7, _, _, _, _, _⟩) E.out rfl rfl rfl ?_); clear E; intro g7 u E0 hb0; have E := Lib.hid E0; clear E0 hb0) | ((with_reducible refine kn_box_slice (o := ⟨some 7, _, _, _, _, _⟩) E.out rfl rfl rfl ?_); clear E; intro g7 u E0 hb0; have E := Lib.hid E0; clear E0 hb0) | ((with_reducible refine kn_box_bool (o := ⟨some 7, _, _, _, _, _⟩) E.out rfl rfl rfl ?_); clear E; intro g7 u E0 hb0; have E := Lib.hid E0; clear E0 hb0) | ((with_reducible refine kn_box_func (o := ⟨some 7, _, _, _, _, _⟩) E.out rfl rfl rfl ?_); clear E; intro g7 u E0 hb0; have E := Lib.hid E0; clear E0 hb0))
  go_loopw [13] (fun ck wr => ∃ i : Nat, i ≤ 16 ∧ ck = .int .i64 (i : Int) ∧ Hid (Kn w [.row g7 27 (i64s (FL i)), .row g6 27 (i64s z64), .row g5 25 (i64s v), .row g4 25 (i64s h), .row g3 25 (i64s o)] [] wr)) (fun ck _ => 16 - (intOf ck).toNat)
  case atStart => exact ⟨0, by omega, rfl, by rw [HF0.out]; exact E⟩
  case round =>
    clear E
    obtain ⟨i, hi, rfl, E⟩ := hrel
    have hfl := HFL.out i
    by_cases hlt : i < 16
    · have hi3 : (i : Int) < 16 := by omega
      have hF := HF.out i
      rw [HR.out i, ← pP_full _ _ (PE i) (by omega)] at hF
      have HPL := Lib.hid (fun c => pP_length (FL i) (i * 4) (PE i) c)
      have HPS := Lib.hid (fun c => show (pP (FL i) (i * 4) (PE i) c).set (i * 4 + c) (PE i c) = pP (FL i) (i * 4) (PE i) (c + 1) from rfl)
      have HP0 := Lib.hid (show (FL i).set (i * 4 + 3) 255 = pP (FL i) (i * 4) (PE i) 0 from rfl)
      have HEi := Lib.hid (fun c => HE.out i c)
      obtain ⟨x, hx⟩ : ∃ z, i % 4 = z := ⟨_, rfl⟩
      obtain ⟨y, hy⟩ : ∃ z, i / 4 = z := ⟨_, rfl⟩
      rw [hx, hy] at HEi
      have hx4 : x < 4 := by omega
      have hy4 : y < 4 := by omega
      have r1 : (i : Int).tmod 4 = (x : Int) := by rw [Int.tmod_eq_emod_of_nonneg (by omega)]; omega
      have r2 : (i : Int).tdiv 4 = (y : Int) := by rw [Int.tdiv_eq_ediv_of_nonneg (by omega)]; omega
      have r3 : wrap64 ((i : Int).tdiv 4) = (y : Int) := by rw [r2, wrap64_small _ (by omega) (by omega)]
      replace hF := Lib.hid hF
      clear HF HFL HF0 HR HE hx hy
      obtain ⟨O, hO⟩ : ∃ z, FL i = z := ⟨_, rfl⟩
      rw [hO] at hF HPL HPS HP0 hfl E
      clear hO
      obtain ⟨PI, hPI⟩ : ∃ z, PE i = z := ⟨_, rfl⟩
      rw [hPI] at hF HPL HPS HP0 HEi
      clear hPI
      generalize pP O (i * 4) PI = PO at *
      go_wp2_with (first
        | ((with_reducible refine kn_storei (g := g7) (i := i * 4 + 3) E.out rfl rfl rfl rfl rfl ?hi ?_); (case hi => omega); clear E; intro u E0; rw [HP0.out] at E0; have E := Lib.hid E0; clear E0)
        | ((with_reducible refine kn_load E.out rfl rfl rfl rfl ?_)) | ((with_reducible refine kn_load_if E.out rfl rfl rfl rfl ?_)) | ((with_reducible refine kn_loads E.out rfl rfl rfl ?_ ?_); (focus (first | rfl | (simp only [i64s_length, u8s_length]; first | rfl | assumption | omega)))) | ((with_reducible refine kn_loads_if E.out rfl rfl rfl ?_ ?_); (focus (first | rfl | (simp only [i64s_length, u8s_length]; first | rfl | assumption | omega)))) | ((with_reducible refine kn_stores E.out rfl rfl rfl rfl rfl ?_ ?_ ?_); (focus (first | exact ⟨rfl, rfl⟩ | (simp only [i64s_length, u8s_length]; refine ⟨?_, ?_⟩ <;> first | rfl | assumption | omega))); (focus (first | exact i64s_one _ | exact u8s_one _ | simp [Value.oneCell'])); clear E; intro u E0; have E := Lib.hid E0; clear E0))
      go_loopw [23] (fun ck wr => ∃ c : Nat, c ≤ 3 ∧ ck = .int .i64 (c : Int) ∧ Hid (Kn w [.row g7 27 (i64s (PO c)), .row g6 27 (i64s z64), .row g5 25 (i64s v), .row g4 25 (i64s h), .row g3 25 (i64s o)] [] wr)) (fun ck _ => 3 - (intOf ck).toNat)
      case atStart => exact ⟨0, by omega, rfl, E⟩
      case round =>
        clear E
        obtain ⟨c, hc, rfl, E⟩ := hrel
        have hpl := HPL.out c
        by_cases hltc : c < 3
        · have hc3 : (c : Int) < 3 := by omega
          have hc4 : (c : Int) < 4 := by omega
          have hps := Lib.hid (HPS.out c)
          have hpe := HEi.out c
          have b1 := bo.out c
          have b2 := bh.out c
          have b3 := bv.out c
          have go3 := i64s_get o c (by omega)
          have go4 := i64s_get h c (by omega)
          have go5 := i64s_get v c (by omega)
          have hnum := Lib.hid (plane_num x y (o.getD c 0) (h.getD c 0) (v.getD c 0) hx4 hy4 b1 b2 b3)
          have hCl := Lib.hid (fun u => show Calls Tryd.prog 42 #[.int .i64 (((x : Int) * (h.getD c 0 - o.getD c 0) + (y : Int) * (v.getD c 0 - o.getD c 0) + 4 * o.getD c 0 + 2) / 4), .int .i64 255] u (fun e w' => e = .returned (.int .i64 (PI c)) ∧ u = w') from by rw [hpe]; exact clamp_any _ 255 u)
          clear HPL HPS HEi HP0 hF bo bh bv
          obtain ⟨oc, hoc⟩ : ∃ z, o.getD c 0 = z := ⟨_, rfl⟩
          obtain ⟨hc', hhc⟩ : ∃ z, h.getD c 0 = z := ⟨_, rfl⟩
          obtain ⟨vc, hvc⟩ : ∃ z, v.getD c 0 = z := ⟨_, rfl⟩
          rw [hoc] at b1 go3
          rw [hhc] at b2 go4
          rw [hvc] at b3 go5
          rw [hoc, hhc, hvc] at hnum hCl
          obtain ⟨pe, hpe2⟩ : ∃ z, PI c = z := ⟨_, rfl⟩
          rw [hpe2] at hps hCl
          obtain ⟨nn, hnn⟩ : ∃ z, (x : Int) * (hc' - oc) + (y : Int) * (vc - oc) + 4 * oc + 2 = z := ⟨_, rfl⟩
          rw [hnn] at hnum hCl
          have hdiv := Lib.hid (show nn / 2 ^ 2 = nn / 4 from rfl)
          have hdiv2 := Lib.hid (show nn >>> 2 = nn / 4 from by rw [Int.shiftRight_eq_div_pow]; rfl)
          clear hpe hpe2 hnn
          clear hoc hhc hvc
          replace go3 := Lib.hid go3
          replace go4 := Lib.hid go4
          replace go5 := Lib.hid go5
          go_wp2_with (first | ((with_reducible refine kn_load E.out rfl rfl rfl rfl ?_)) | ((with_reducible refine kn_load_if E.out rfl rfl rfl rfl ?_)) | ((with_reducible refine kn_loads E.out rfl rfl rfl ?_ ?_); (focus (first | rfl | (simp only [i64s_length, u8s_length]; first | rfl | assumption | omega)))) | ((with_reducible refine kn_loads_if E.out rfl rfl rfl ?_ ?_); (focus (first | rfl | (simp only [i64s_length, u8s_length]; first | rfl | assumption | omega)))) | ((with_reducible refine kn_stores E.out rfl rfl rfl rfl rfl ?_ ?_ ?_); (focus (first | exact ⟨rfl, rfl⟩ | (simp only [i64s_length, u8s_length]; refine ⟨?_, ?_⟩ <;> first | rfl | assumption | omega))); (focus (first | exact i64s_one _ | exact u8s_one _ | simp [Value.oneCell'])); clear E; intro u E0; have E := Lib.hid E0; clear E0))
          refine wp_region_held_drew (S := Kn w [.row g5 25 (i64s v), .row g4 25 (i64s h), .row g3 25 (i64s o)] []) (by kernel_rfl) (E.out.drew.part _ _ (by repeat (first | exact List.Sublist.refl _ | apply List.Sublist.cons_cons | apply List.Sublist.cons)) (by simp)) (fun kS => ?_)
          have E1 := Lib.hid E.out.drew
          generalize World.drew _ = u1 at kS E1 ⊢
          clear E
          have E := E1
          clear E1
          (refine takeL (i := 0) (v := _) rfl (by kernel_rfl) (by kernel_rfl) (by kernel_rfl) (fun _ _ _ h => h) (by first | exact Or.inl ⟨by rfl, (by intro u hSu; clear hSu; go_simp; try with_reducible rfl)⟩ | exact Or.inr ⟨by rfl, rfl⟩) kS ?_; (try simp only [Act.put, List.setIfInBounds_toArray, List.set_cons_zero, List.set_cons_succ])); (refine takeL (i := 1) (v := _) rfl (by kernel_rfl) (by kernel_rfl) (by kernel_rfl) (fun _ _ _ h => h) (by first | exact Or.inl ⟨by rfl, (by intro u hSu; clear hSu; go_simp; try with_reducible rfl)⟩ | exact Or.inr ⟨by rfl, rfl⟩) kS ?_; (try simp only [Act.put, List.setIfInBounds_toArray, List.set_cons_zero, List.set_cons_succ])); (refine takeL (i := 2) (v := _) rfl (by kernel_rfl) (by kernel_rfl) (by kernel_rfl) (fun _ _ _ h => h) (by first | exact Or.inl ⟨by rfl, (by intro u hSu; clear hSu; go_simp; try with_reducible rfl)⟩ | exact Or.inr ⟨by rfl, rfl⟩) kS ?_; (try simp only [Act.put, List.setIfInBounds_toArray, List.set_cons_zero, List.set_cons_succ]))
          (refine takeL (i := 3) (v := _) rfl (by kernel_rfl) (by kernel_rfl) (by kernel_rfl) (fun _ _ _ h => h) (yield_load (g := g4) (i := c) rfl rfl rfl go4.out) kS ?_; (try simp only [Act.put, List.setIfInBounds_toArray, List.set_cons_zero, List.set_cons_succ]))
          (refine takeL (i := 4) (v := _) rfl (by kernel_rfl) (by kernel_rfl) (by kernel_rfl) (fun _ _ _ h => h) (by first | exact Or.inl ⟨by rfl, (by intro u hSu; clear hSu; go_simp; try with_reducible rfl)⟩ | exact Or.inr ⟨by rfl, rfl⟩) kS ?_; (try simp only [Act.put, List.setIfInBounds_toArray, List.set_cons_zero, List.set_cons_succ])); (refine takeL (i := 5) (v := _) rfl (by kernel_rfl) (by kernel_rfl) (by kernel_rfl) (fun _ _ _ h => h) (by first | exact Or.inl ⟨by rfl, (by intro u hSu; clear hSu; go_simp; try with_reducible rfl)⟩ | exact Or.inr ⟨by rfl, rfl⟩) kS ?_; (try simp only [Act.put, List.setIfInBounds_toArray, List.set_cons_zero, List.set_cons_succ]))
          (refine takeL (i := 6) (v := _) rfl (by kernel_rfl) (by kernel_rfl) (by kernel_rfl) (fun _ _ _ h => h) (yield_load (g := g3) (i := c) rfl rfl rfl go3.out) kS ?_; (try simp only [Act.put, List.setIfInBounds_toArray, List.set_cons_zero, List.set_cons_succ]))
          (refine takeL (i := 7) (v := _) rfl (by kernel_rfl) (by kernel_rfl) (by kernel_rfl) (fun _ _ _ h => h) (by first | exact Or.inl ⟨by rfl, (by intro u hSu; clear hSu; go_simp; try with_reducible rfl)⟩ | exact Or.inr ⟨by rfl, rfl⟩) kS ?_; (try simp only [Act.put, List.setIfInBounds_toArray, List.set_cons_zero, List.set_cons_succ])); (refine takeL (i := 8) (v := _) rfl (by kernel_rfl) (by kernel_rfl) (by kernel_rfl) (fun _ _ _ h => h) (by first | exact Or.inl ⟨by rfl, (by intro u hSu; clear hSu; go_simp; try with_reducible rfl)⟩ | exact Or.inr ⟨by rfl, rfl⟩) kS ?_; (try simp only [Act.put, List.setIfInBounds_toArray, List.set_cons_zero, List.set_cons_succ])); (refine takeL (i := 9) (v := _) rfl (by kernel_rfl) (by kernel_rfl) (by kernel_rfl) (fun _ _ _ h => h) (by first | exact Or.inl ⟨by rfl, (by intro u hSu; clear hSu; go_simp; try with_reducible rfl)⟩ | exact Or.inr ⟨by rfl, rfl⟩) kS ?_; (try simp only [Act.put, List.setIfInBounds_toArray, List.set_cons_zero, List.set_cons_succ])); (refine takeL (i := 10) (v := _) rfl (by kernel_rfl) (by kernel_rfl) (by kernel_rfl) (fun _ _ _ h => h) (by first | exact Or.inl ⟨by rfl, (by intro u hSu; clear hSu; go_simp; try with_reducible rfl)⟩ | exact Or.inr ⟨by rfl, rfl⟩) kS ?_; (try simp only [Act.put, List.setIfInBounds_toArray, List.set_cons_zero, List.set_cons_succ])); (refine takeL (i := 11) (v := _) rfl (by kernel_rfl) (by kernel_rfl) (by kernel_rfl) (fun _ _ _ h => h) (by first | exact Or.inl ⟨by rfl, (by intro u hSu; clear hSu; go_simp; try with_reducible rfl)⟩ | exact Or.inr ⟨by rfl, rfl⟩) kS ?_; (try simp only [Act.put, List.setIfInBounds_toArray, List.set_cons_zero, List.set_cons_succ]))
          (refine takeL (i := 12) (v := _) rfl (by kernel_rfl) (by kernel_rfl) (by kernel_rfl) (fun _ _ _ h => h) (yield_load (g := g5) (i := c) rfl rfl rfl go5.out) kS ?_; (try simp only [Act.put, List.setIfInBounds_toArray, List.set_cons_zero, List.set_cons_succ]))
          (refine takeL (i := 13) (v := _) rfl (by kernel_rfl) (by kernel_rfl) (by kernel_rfl) (fun _ _ _ h => h) (by first | exact Or.inl ⟨by rfl, (by intro u hSu; clear hSu; go_simp; try with_reducible rfl)⟩ | exact Or.inr ⟨by rfl, rfl⟩) kS ?_; (try simp only [Act.put, List.setIfInBounds_toArray, List.set_cons_zero, List.set_cons_succ])); (refine takeL (i := 14) (v := _) rfl (by kernel_rfl) (by kernel_rfl) (by kernel_rfl) (fun _ _ _ h => h) (by first | exact Or.inl ⟨by rfl, (by intro u hSu; clear hSu; go_simp; try with_reducible rfl)⟩ | exact Or.inr ⟨by rfl, rfl⟩) kS ?_; (try simp only [Act.put, List.setIfInBounds_toArray, List.set_cons_zero, List.set_cons_succ]))
          (refine takeL (i := 15) (v := _) rfl (by kernel_rfl) (by kernel_rfl) (by kernel_rfl) (fun _ _ _ h => h) (yield_load (g := g3) (i := c) rfl rfl rfl go3.out) kS ?_; (try simp only [Act.put, List.setIfInBounds_toArray, List.set_cons_zero, List.set_cons_succ]))
          (refine takeL (i := 16) (v := _) rfl (by kernel_rfl) (by kernel_rfl) (by kernel_rfl) (fun _ _ _ h => h) (by first | exact Or.inl ⟨by rfl, (by intro u hSu; clear hSu; go_simp; try with_reducible rfl)⟩ | exact Or.inr ⟨by rfl, rfl⟩) kS ?_; (try simp only [Act.put, List.setIfInBounds_toArray, List.set_cons_zero, List.set_cons_succ])); (refine takeL (i := 17) (v := _) rfl (by kernel_rfl) (by kernel_rfl) (by kernel_rfl) (fun _ _ _ h => h) (by first | exact Or.inl ⟨by rfl, (by intro u hSu; clear hSu; go_simp; try with_reducible rfl)⟩ | exact Or.inr ⟨by rfl, rfl⟩) kS ?_; (try simp only [Act.put, List.setIfInBounds_toArray, List.set_cons_zero, List.set_cons_succ])); (refine takeL (i := 18) (v := _) rfl (by kernel_rfl) (by kernel_rfl) (by kernel_rfl) (fun _ _ _ h => h) (by first | exact Or.inl ⟨by rfl, (by intro u hSu; clear hSu; go_simp; try with_reducible rfl)⟩ | exact Or.inr ⟨by rfl, rfl⟩) kS ?_; (try simp only [Act.put, List.setIfInBounds_toArray, List.set_cons_zero, List.set_cons_succ])); (refine takeL (i := 19) (v := _) rfl (by kernel_rfl) (by kernel_rfl) (by kernel_rfl) (fun _ _ _ h => h) (by first | exact Or.inl ⟨by rfl, (by intro u hSu; clear hSu; go_simp; try with_reducible rfl)⟩ | exact Or.inr ⟨by rfl, rfl⟩) kS ?_; (try simp only [Act.put, List.setIfInBounds_toArray, List.set_cons_zero, List.set_cons_succ])); (refine takeL (i := 20) (v := _) rfl (by kernel_rfl) (by kernel_rfl) (by kernel_rfl) (fun _ _ _ h => h) (by first | exact Or.inl ⟨by rfl, (by intro u hSu; clear hSu; go_simp; try with_reducible rfl)⟩ | exact Or.inr ⟨by rfl, rfl⟩) kS ?_; (try simp only [Act.put, List.setIfInBounds_toArray, List.set_cons_zero, List.set_cons_succ]))
          (refine takeL (i := 21) (v := _) rfl (by kernel_rfl) (by kernel_rfl) (by kernel_rfl) (fun _ _ _ h => h) (yield_load (g := g3) (i := c) rfl rfl rfl go3.out) kS ?_; (try simp only [Act.put, List.setIfInBounds_toArray, List.set_cons_zero, List.set_cons_succ]))
          (refine takeL (i := 22) (v := _) rfl (by kernel_rfl) (by kernel_rfl) (by kernel_rfl) (fun _ _ _ h => h) (by first | exact Or.inl ⟨by rfl, (by intro u hSu; clear hSu; go_simp; try with_reducible rfl)⟩ | exact Or.inr ⟨by rfl, rfl⟩) kS ?_; (try simp only [Act.put, List.setIfInBounds_toArray, List.set_cons_zero, List.set_cons_succ])); (refine takeL (i := 23) (v := _) rfl (by kernel_rfl) (by kernel_rfl) (by kernel_rfl) (fun _ _ _ h => h) (by first | exact Or.inl ⟨by rfl, (by intro u hSu; clear hSu; go_simp; try with_reducible rfl)⟩ | exact Or.inr ⟨by rfl, rfl⟩) kS ?_; (try simp only [Act.put, List.setIfInBounds_toArray, List.set_cons_zero, List.set_cons_succ])); (refine takeL (i := 24) (v := _) rfl (by kernel_rfl) (by kernel_rfl) (by kernel_rfl) (fun _ _ _ h => h) (by first | exact Or.inl ⟨by rfl, (by intro u hSu; clear hSu; go_simp; try with_reducible rfl)⟩ | exact Or.inr ⟨by rfl, rfl⟩) kS ?_; (try simp only [Act.put, List.setIfInBounds_toArray, List.set_cons_zero, List.set_cons_succ]))
          rw [hnum.out]
          (refine takeL (i := 25) (v := _) rfl (by kernel_rfl) (by kernel_rfl) (by kernel_rfl) (fun _ _ _ h => h) (by first | exact Or.inl ⟨by rfl, (by intro u hSu; clear hSu; go_simp; try with_reducible rfl)⟩ | exact Or.inr ⟨by rfl, rfl⟩) kS ?_; (try simp only [Act.put, List.setIfInBounds_toArray, List.set_cons_zero, List.set_cons_succ]))
          refine wpAnyH_done (by kernel_rfl) ?_ _
          go_wp2_with fail
          refine wp_region_held_drew (S := fun _ => True) (by kernel_rfl) trivial (fun kS => ?_)
          have E1 := Lib.hid E.out.drew
          generalize World.drew _ = u1 at kS E1 ⊢
          clear E
          have E := E1
          clear E1
          (refine takeL (i := 0) (v := _) rfl (by kernel_rfl) (by kernel_rfl) (by kernel_rfl) (fun _ _ _ h => h) (by first | exact Or.inl ⟨by rfl, (by intro u hSu; clear hSu; go_simp; try with_reducible rfl)⟩ | exact Or.inr ⟨by rfl, rfl⟩) kS ?_; (try simp only [Act.put, List.setIfInBounds_toArray, List.set_cons_zero, List.set_cons_succ])); (refine takeL (i := 1) (v := _) rfl (by kernel_rfl) (by kernel_rfl) (by kernel_rfl) (fun _ _ _ h => h) (by first | exact Or.inl ⟨by rfl, (by intro u hSu; clear hSu; go_simp; try with_reducible rfl)⟩ | exact Or.inr ⟨by rfl, rfl⟩) kS ?_; (try simp only [Act.put, List.setIfInBounds_toArray, List.set_cons_zero, List.set_cons_succ])); (refine takeL (i := 2) (v := _) rfl (by kernel_rfl) (by kernel_rfl) (by kernel_rfl) (fun _ _ _ h => h) (by first | exact Or.inl ⟨by rfl, (by intro u hSu; clear hSu; go_simp; try with_reducible rfl)⟩ | exact Or.inr ⟨by rfl, rfl⟩) kS ?_; (try simp only [Act.put, List.setIfInBounds_toArray, List.set_cons_zero, List.set_cons_succ])); (refine takeL (i := 3) (v := _) rfl (by kernel_rfl) (by kernel_rfl) (by kernel_rfl) (fun _ _ _ h => h) (by first | exact Or.inl ⟨by rfl, (by intro u hSu; clear hSu; go_simp; try with_reducible rfl)⟩ | exact Or.inr ⟨by rfl, rfl⟩) kS ?_; (try simp only [Act.put, List.setIfInBounds_toArray, List.set_cons_zero, List.set_cons_succ])); (refine takeL (i := 5) (v := _) rfl (by kernel_rfl) (by kernel_rfl) (by kernel_rfl) (fun _ _ _ h => h) (by first | exact Or.inl ⟨by rfl, (by intro u hSu; clear hSu; go_simp; try with_reducible rfl)⟩ | exact Or.inr ⟨by rfl, rfl⟩) kS ?_; (try simp only [Act.put, List.setIfInBounds_toArray, List.set_cons_zero, List.set_cons_succ]))
          try (first | rw [hdiv.out] | rw [hdiv2.out])
          refine callL (i := 4) rfl (by kernel_rfl) (fun K hK => ?_)
          (go_simp; (try (first | rw [hdiv.out] | rw [hdiv2.out])); (with_reducible refine (hCl.out _).mono ?_); rintro e' w1 ⟨rfl, rfl⟩; go_wp2_with fail; (refine hK.out _ _ trivial (fun kS => ?_); clear hK K; (try simp only [Act.put, List.setIfInBounds_toArray, List.set_cons_zero, List.set_cons_succ])))
          (refine takeL (i := 6) (v := _) rfl (by kernel_rfl) (by kernel_rfl) (by kernel_rfl) (fun _ _ _ h => h) (by first | exact Or.inl ⟨by rfl, (by intro u hSu; clear hSu; go_simp; try with_reducible rfl)⟩ | exact Or.inr ⟨by rfl, rfl⟩) kS ?_; (try simp only [Act.put, List.setIfInBounds_toArray, List.set_cons_zero, List.set_cons_succ]))
          refine callL (i := 7) rfl (by kernel_rfl) (fun K hK => ?_)
          (rw [if_pos (by rfl)]; refine wp_kn_storei (g := g7) (i := i * 4 + c) (z := pe) E.out rfl rfl rfl rfl (by omega) ?_; clear E kS; intro u E0; have E := Lib.hid E0; clear E0; (refine hK.out _ _ trivial (fun kS => ?_); clear hK K; (try simp only [Act.put, List.setIfInBounds_toArray, List.set_cons_zero, List.set_cons_succ])))
          refine wpAnyH_done (by kernel_rfl) ?_ _
          rw [hps.out] at E
          go_wp2_with fail
          go_roundw
          case rel => exact ⟨c + 1, by omega, by go_num, E⟩
          case measure => simp [intOf]; try omega
        · have hc3 : ¬ ((c : Int) < 3) := by omega
          have ec : c = 3 := by omega
          rw [ec, ← hF.out] at E
          clear HPL HPS HP0 HEi hltc ec hpl
          go_wp2_with (first | ((with_reducible refine kn_load E.out rfl rfl rfl rfl ?_)) | ((with_reducible refine kn_load_if E.out rfl rfl rfl rfl ?_)) | ((with_reducible refine kn_loads E.out rfl rfl rfl ?_ ?_); (focus (first | rfl | (simp only [i64s_length, u8s_length]; first | rfl | assumption | omega)))) | ((with_reducible refine kn_loads_if E.out rfl rfl rfl ?_ ?_); (focus (first | rfl | (simp only [i64s_length, u8s_length]; first | rfl | assumption | omega)))) | ((with_reducible refine kn_stores E.out rfl rfl rfl rfl rfl ?_ ?_ ?_); (focus (first | exact ⟨rfl, rfl⟩ | (simp only [i64s_length, u8s_length]; refine ⟨?_, ?_⟩ <;> first | rfl | assumption | omega))); (focus (first | exact i64s_one _ | exact u8s_one _ | simp [Value.oneCell'])); clear E; intro u E0; have E := Lib.hid E0; clear E0))
          go_roundw
          case rel => exact ⟨i + 1, by omega, by go_num, E⟩
          case measure => simp [intOf]; try omega
    · have hi3 : ¬ ((i : Int) < 16) := by omega
      have ei : i = 16 := by omega
      rw [ei] at E hfl
      clear HF HFL HF0 HR HE hlt ei
      go_wp2_with (first
        | ((with_reducible refine kn_loads (g := g7) E.out rfl rfl rfl ?hl ?_); (case hl => rw [i64s_length]; exact hfl))
        | ((with_reducible refine kn_stores (g := g6) (vs := i64s (FL 16)) E.out rfl rfl rfl rfl rfl ?hl ?h1 ?_); (case hl => exact ⟨by rw [i64s_length]; exact hz64.out, by rw [i64s_length]; exact hfl⟩); (case h1 => exact i64s_one _); clear E; intro u E0; have E := Lib.hid E0; clear E0)
        | ((with_reducible refine kn_load E.out rfl rfl rfl rfl ?_)) | ((with_reducible refine kn_load_if E.out rfl rfl rfl rfl ?_)) | ((with_reducible refine kn_loads E.out rfl rfl rfl ?_ ?_); (focus (first | rfl | (simp only [i64s_length, u8s_length]; first | rfl | assumption | omega)))) | ((with_reducible refine kn_loads_if E.out rfl rfl rfl ?_ ?_); (focus (first | rfl | (simp only [i64s_length, u8s_length]; first | rfl | assumption | omega)))) | ((with_reducible refine kn_stores E.out rfl rfl rfl rfl rfl ?_ ?_ ?_); (focus (first | exact ⟨rfl, rfl⟩ | (simp only [i64s_length, u8s_length]; refine ⟨?_, ?_⟩ <;> first | rfl | assumption | omega))); (focus (first | exact i64s_one _ | exact u8s_one _ | simp [Value.oneCell'])); clear E; intro u E0; have E := Lib.hid E0; clear E0))
      refine bodyPost_ret (results_kn E.out rfl _ rfl (by rw [i64s_length]; exact hfl)) rfl ?_
      exact ⟨rfl, E.out.bel⟩
end Go.Proofs.YtgcijioiicmjiaaDoor
set_option linter.all false
namespace Go.Proofs.YtgcijioiicmjiaaDoor
open Go.RowKit
open Bi Lv Eo Et

theorem yield_gloadp {w : World} {R : List Res} {F : List (World → Prop)} {ops : Array Oper} {o : Oper} {a : Act} (hw : Region.wanted o (yielded ops a.tmps) = true) {ty : TypeId} {x : Operand} (ho : o.op = .load ty x) {g off : Nat} (hx : a.eval x = .pointer (some ⟨g, off, none⟩)) {zs : List Int} (hm : cellsF g (i64s zs) ∈ F) {m : Nat} [A : Aggr ty m] {ys : List Int} (hy : (zs.drop off).take m = ys) (hl : off + m ≤ zs.length) :
    YieldsIf Tryd.prog ops (Kn w R F) o (arr ys) a := by
  subst hy
  obtain ⟨d, hu, hd⟩ := A.desc
  exact yieldsIf_load_mid hw ty x ho g off hx _ d (fun u E => cells_range (E.get hm) off m) hu hd (by rw [A.size, i64s_length, List.length_take, List.length_drop, Nat.min_eq_left (by omega)])
namespace Et
theorem bN_shift (xs : List Nat) : ∀ (l : List Nat) (n : Nat), bN xs l n = n * 2 ^ l.length + bN xs l 0
  | [], n => by simp [bN]
  | i :: l, n => by
    show bN xs l (2 * n + _) = _ + bN xs l (2 * 0 + _)
    rw [bN_shift xs l (2 * n + _), bN_shift xs l (2 * 0 + _), List.length_cons, Nat.pow_succ, Nat.add_mul, Nat.mul_comm (2 ^ l.length) 2, ← Nat.mul_assoc, Nat.mul_comm n 2, Nat.mul_zero, Nat.zero_add]
    omega
/-- The places of the runs' bits. -/
def plc (a m : Nat → Nat) : Nat → List Nat
  | 0 => []
  | k + 1 => plc a m k ++ (List.range (m k)).map (a k + ·)
theorem tk_bN (xs : List Nat) (a m : Nat → Nat) : ∀ k, tkN xs a m k = bN xs (plc a m k) 0
  | 0 => rfl
  | k + 1 => by
    rw [tkN, plc, bN_append, bN_shift xs _ (bN xs (plc a m k) 0), ← tk_bN xs a m k, getN_bN]
    simp
theorem tk_bits (xs : List Nat) (a m : Nat → Nat) (l : List Nat) (h : plc a m 3 = l) : ((tkN xs a m 3 : Nat) : Int) = bits xs l := by rw [tk_bN, h]; rfl
/-- The runs of planar blocks' nine numbers, of T's and of H's six. -/
def runP (q j : Nat) : Nat × Nat := (([[(1, 6), (0, 0), (0, 0)], [(7, 1), (9, 6), (0, 0)], [(15, 1), (19, 2), (22, 3)], [(25, 5), (31, 1), (0, 0)], [(32, 7), (0, 0), (0, 0)], [(39, 6), (0, 0), (0, 0)], [(45, 6), (0, 0), (0, 0)], [(51, 7), (0, 0), (0, 0)], [(58, 6), (0, 0), (0, 0)]] : List (List (Nat × Nat))).getD q []).getD j (0, 0)
def plA (k c j : Nat) : Nat := (runP (3 * k + c) j).1
def plM (k c j : Nat) : Nat := (runP (3 * k + c) j).2
def plL : List Int := rV3 (plA 0) (plM 0) ++ (rV3 (plA 1) (plM 1) ++ rV3 (plA 2) (plM 2))
theorem pl_ok (k : Nat) (hk : k < 3) : ∀ c, c < 3 → okR (plA k c) (plM k c) := by
  have h : ∀ k, k < 3 → ∀ c, c < 3 → ∀ j, j < 3 → plM k c j ≤ 7 ∧ plA k c j + plM k c j ≤ 64 := by decide
  exact fun c hc j hj => h k hk c hc j hj
theorem pl_col (xs : List Nat) : clV xs (plA 0) (plM 0) = oV xs ∧ clV xs (plA 1) (plM 1) = hV xs ∧ clV xs (plA 2) (plM 2) = vV xs := by
  unfold clV chV oV hV vV colP
  rw [tk_bits xs _ _ [1, 2, 3, 4, 5, 6] rfl, tk_bits xs _ _ [7, 9, 10, 11, 12, 13, 14] rfl, tk_bits xs _ _ [15, 19, 20, 22, 23, 24] rfl, tk_bits xs _ _ [25, 26, 27, 28, 29, 31] rfl, tk_bits xs _ _ [32, 33, 34, 35, 36, 37, 38] rfl, tk_bits xs _ _ [39, 40, 41, 42, 43, 44] rfl, tk_bits xs _ _ [45, 46, 47, 48, 49, 50] rfl, tk_bits xs _ _ [51, 52, 53, 54, 55, 56, 57] rfl, tk_bits xs _ _ [58, 59, 60, 61, 62, 63] rfl]
  exact ⟨rfl, rfl, rfl⟩
theorem colP_bd (r g b : Int) (j : Nat) : 0 ≤ (colP r g b).getD j 0 ∧ (colP r g b).getD j 0 ≤ 255 := by
  have h1 := wideV_bd r 6
  have h2 := wideV_bd g 7
  have h3 := wideV_bd b 6
  match j with
  | 0 => exact ⟨h1.1, by have := h1.2; show wideV r 6 ≤ 255; omega⟩
  | 1 => exact ⟨h2.1, by have := h2.2; show wideV g 7 ≤ 255; omega⟩
  | 2 => exact ⟨h3.1, by have := h3.2; show wideV b 6 ≤ 255; omega⟩
  | 3 => exact ⟨show (0 : Int) ≤ 255 by decide, show (255 : Int) ≤ 255 by decide⟩
  | j + 4 => exact ⟨by simp [colP], by simp [colP]⟩
end Et
set_option maxHeartbeats 4000000 in
set_option maxRecDepth 100000 in
theorem planar2 (B : List Value) (hB : B.length = 29) (gb : Nat) (hT : B[28]? = some (tkF gb)) (hO : ∀ v ∈ B, v.oneCell' = true) (A : Option Addr) (c : Nat) (xs : List Nat) (w : World) (hg : cellsF gb [.slice A 8 c] w) (hx : Bs w w.heap.size A 8 xs) (hP : cellsF 1 (i64s plL) w) :
    Calls Tryd.prog 57 #[.agg B.toArray] w fun e w' => e = .returned (arr (plV (oV xs) (hV xs) (vV xs))) ∧ Below w.heap.size w w' := by
  have E := Lib.hid ((((Kn.start w).arg_cells hP).arg_cells hg).arg_bs hx)
  have HC := Lib.hid (fun k (hk : k < 3) u hg hx => colour2 B hB gb hT hO A c xs (plA k) (plM k) u hg hx (pl_ok k hk))
  have HC0 := Lib.hid (fun u hg hx => HC.out 0 (by omega) u hg hx)
  have HC1 := Lib.hid (fun u hg hx => HC.out 1 (by omega) u hg hx)
  have HC2 := Lib.hid (fun u hg hx => HC.out 2 (by omega) u hg hx)
  rw [(pl_col xs).1] at HC0
  rw [(pl_col xs).2.1] at HC1
  rw [(pl_col xs).2.2] at HC2
  have HPl := Lib.hid (fun u => plane2 (oV xs) (hV xs) (vV xs) u rfl rfl rfl (colP_bd _ _ _) (colP_bd _ _ _) (colP_bd _ _ _))
  have hl := Lib.hid (plV_length (oV xs) (hV xs) (vV xs))
  have hz64 := Lib.hid (show (i64s z64).length = 64 from rfl)
  have q0 := Lib.hid (show (plL.drop 0).take 18 = rV3 (plA 0) (plM 0) from rfl)
  have q1 := Lib.hid (show (plL.drop 18).take 18 = rV3 (plA 1) (plM 1) from rfl)
  have q2 := Lib.hid (show (plL.drop 36).take 18 = rV3 (plA 2) (plM 2) from rfl)
  have hpl : Hid (plL.length = 54) := rfl
  clear HC hg hx hP hT
  replace hO := Lib.hid hO
  generalize plV (oV xs) (hV xs) (vV xs) = PV at *
  generalize oV xs = OV at *
  generalize hV xs = HV at *
  generalize vV xs = VV at *
  generalize rV3 (plA 0) (plM 0) = r0 at *
  generalize rV3 (plA 1) (plM 1) = r1 at *
  generalize rV3 (plA 2) (plM 2) = r2 at *
  generalize plL = PL at *
  go_enter Tryd.func57, Tryd.ntmps57
  go_wp2_with (first | ((with_reducible refine kn_load E.out rfl rfl rfl rfl ?_)) | ((with_reducible refine kn_load_if E.out rfl rfl rfl rfl ?_)) | ((with_reducible refine kn_loads E.out rfl rfl rfl ?_ ?_); (focus (first | rfl | (simp only [i64s_length, u8s_length]; first | rfl | assumption | omega)))) | ((with_reducible refine kn_loads_if E.out rfl rfl rfl ?_ ?_); (focus (first | rfl | (simp only [i64s_length, u8s_length]; first | rfl | assumption | omega)))) | ((with_reducible refine kn_stores E.out rfl rfl rfl rfl rfl ?_ ?_ ?_); (focus (first | exact ⟨rfl, rfl⟩ | (simp only [i64s_length, u8s_length]; refine ⟨?_, ?_⟩ <;> first | rfl | assumption | omega))); (focus (first | exact i64s_one _ | exact u8s_one _ | simp [Value.oneCell'])); clear E; intro u E0; have E := Lib.hid E0; clear E0) | ((with_reducible refine kn_alloc (o := ⟨some 1, _, _, _, _, _⟩) E.out rfl rfl ?_); clear E; intro g1 u E0 hb0; have E := Lib.hid E0; clear E0 hb0) | ((with_reducible refine kn_box (o := ⟨some 1, _, _, _, _, _⟩) E.out rfl rfl rfl ?_); clear E; intro g1 u E0 hb0; have E := Lib.hid E0; clear E0 hb0) | ((with_reducible refine kn_box_int (o := ⟨some 1, _, _, _, _, _⟩) E.out rfl rfl rfl ?_); clear E; intro g1 u E0 hb0; have E := Lib.hid E0; clear E0 hb0) | ((with_reducible refine kn_box_slice (o := ⟨some 1, _, _, _, _, _⟩) E.out rfl rfl rfl ?_); clear E; intro g1 u E0 hb0; have E := Lib.hid E0; clear E0 hb0) | ((with_reducible refine kn_box_bool (o := ⟨some 1, _, _, _, _, _⟩) E.out rfl rfl rfl ?_); clear E; intro g1 u E0 hb0; have E := Lib.hid E0; clear E0 hb0) | ((with_reducible refine kn_box_func (o := ⟨some 1, _, _, _, _, _⟩) E.out rfl rfl rfl ?_); clear E; intro g1 u E0 hb0; have E := Lib.hid E0; clear E0 hb0) | ((with_reducible refine kn_alloc (o := ⟨some 2, _, _, _, _, _⟩) E.out rfl rfl ?_); clear E; intro g2 u E0 hb0; have E := Lib.hid E0; clear E0 hb0) | ((with_reducible refine kn_box (o := ⟨some 2, _, _, _, _, _⟩) E.out rfl rfl rfl ?_); clear E; intro g2 u E0 hb0; have E := Lib.hid E0; clear E0 hb0) | ((with_reducible refine kn_box_int (o := ⟨some 2, _, _, _, _, _⟩) E.out rfl rfl rfl ?_); clear E; intro g2 u E0 hb0; have E := Lib.hid E0; clear E0 hb0) | ((with_reducible refine kn_box_slice (o := ⟨some 2, _, _, _, _, _⟩) E.out rfl rfl rfl ?_); clear E; intro g2 u E0 hb0; have E := Lib.hid E0; clear E0 hb0) | ((with_reducible refine kn_box_bool (o := ⟨some 2, _, _, _, _, _⟩) E.out rfl rfl rfl ?_); clear E; intro g2 u E0 hb0; have E := Lib.hid E0; clear E0 hb0) | ((with_reducible refine kn_box_func (o := ⟨some 2, _, _, _, _, _⟩) E.out rfl rfl rfl ?_); clear E; intro g2 u E0 hb0; have E := Lib.hid E0; clear E0 hb0))
  refine wp_region_held_drew (S := Kn w [.row g1 57 B] [bsF A 8 xs, cellsF gb [.slice A 8 c], cellsF 1 (i64s PL)]) (by kernel_rfl) (E.out.drew.part _ _ (by repeat (first | exact List.Sublist.refl _ | apply List.Sublist.cons_cons | apply List.Sublist.cons)) (by simp)) (fun kS => ?_)
  have E1 := Lib.hid E.out.drew
  generalize World.drew _ = u1 at kS E1 ⊢
  clear E
  have E := E1
  clear E1
  (refine takeL (i := 0) (v := .agg B.toArray) rfl (by kernel_rfl) (by kernel_rfl) (by kernel_rfl) (fun _ _ _ h => h) (yield_loads (g := g1) rfl rfl rfl hB) kS ?_; (try simp only [Act.put, List.setIfInBounds_toArray, List.set_cons_zero, List.set_cons_succ]))
  (refine takeL (i := 1) (v := _) rfl (by kernel_rfl) (by kernel_rfl) (by kernel_rfl) (fun _ _ _ h => h) (by first | exact Or.inl ⟨by rfl, (by intro u hSu; clear hSu; go_simp; try with_reducible rfl)⟩ | exact Or.inr ⟨by rfl, rfl⟩) kS ?_; (try simp only [Act.put, List.setIfInBounds_toArray, List.set_cons_zero, List.set_cons_succ]))
  (refine takeL (i := 2) (v := _) rfl (by kernel_rfl) (by kernel_rfl) (by kernel_rfl) (fun _ _ _ h => h) (yield_gloadp (off := 0) rfl rfl rfl (by simp) q0.out (by rw [hpl.out]; omega)) kS ?_; (try simp only [Act.put, List.setIfInBounds_toArray, List.set_cons_zero, List.set_cons_succ]))
  (refine takeL (i := 4) (v := .agg B.toArray) rfl (by kernel_rfl) (by kernel_rfl) (by kernel_rfl) (fun _ _ _ h => h) (yield_loads (g := g1) rfl rfl rfl hB) kS ?_; (try simp only [Act.put, List.setIfInBounds_toArray, List.set_cons_zero, List.set_cons_succ]))
  (refine takeL (i := 5) (v := _) rfl (by kernel_rfl) (by kernel_rfl) (by kernel_rfl) (fun _ _ _ h => h) (by first | exact Or.inl ⟨by rfl, (by intro u hSu; clear hSu; go_simp; try with_reducible rfl)⟩ | exact Or.inr ⟨by rfl, rfl⟩) kS ?_; (try simp only [Act.put, List.setIfInBounds_toArray, List.set_cons_zero, List.set_cons_succ]))
  (refine takeL (i := 6) (v := _) rfl (by kernel_rfl) (by kernel_rfl) (by kernel_rfl) (fun _ _ _ h => h) (yield_gloadp (off := 18) rfl rfl rfl (by simp) q1.out (by rw [hpl.out]; omega)) kS ?_; (try simp only [Act.put, List.setIfInBounds_toArray, List.set_cons_zero, List.set_cons_succ]))
  (refine takeL (i := 8) (v := .agg B.toArray) rfl (by kernel_rfl) (by kernel_rfl) (by kernel_rfl) (fun _ _ _ h => h) (yield_loads (g := g1) rfl rfl rfl hB) kS ?_; (try simp only [Act.put, List.setIfInBounds_toArray, List.set_cons_zero, List.set_cons_succ]))
  (refine takeL (i := 9) (v := _) rfl (by kernel_rfl) (by kernel_rfl) (by kernel_rfl) (fun _ _ _ h => h) (by first | exact Or.inl ⟨by rfl, (by intro u hSu; clear hSu; go_simp; try with_reducible rfl)⟩ | exact Or.inr ⟨by rfl, rfl⟩) kS ?_; (try simp only [Act.put, List.setIfInBounds_toArray, List.set_cons_zero, List.set_cons_succ]))
  (refine takeL (i := 10) (v := _) rfl (by kernel_rfl) (by kernel_rfl) (by kernel_rfl) (fun _ _ _ h => h) (yield_gloadp (off := 36) rfl rfl rfl (by simp) q2.out (by rw [hpl.out]; omega)) kS ?_; (try simp only [Act.put, List.setIfInBounds_toArray, List.set_cons_zero, List.set_cons_succ]))
  refine callL (i := 3) rfl (by kernel_rfl) (fun K hK => ?_)
  (go_simp; refine (HC0.out _ (E.out.get (by simp)) (E.out.bs (by simp))).mono ?_; rintro e' w1 ⟨rfl, hb⟩; have E1 := Lib.hid (E.out.later hb); clear hb E; have E := E1; clear E1; go_wp2_with fail; (refine hK.out _ _ (E.out.part _ _ (by repeat (first | exact List.Sublist.refl _ | apply List.Sublist.cons_cons | apply List.Sublist.cons)) (by simp)) (fun kS => ?_); clear hK K; (try simp only [Act.put, List.setIfInBounds_toArray, List.set_cons_zero, List.set_cons_succ])))
  refine callL (i := 7) rfl (by kernel_rfl) (fun K hK => ?_)
  (go_simp; refine (HC1.out _ (E.out.get (by simp)) (E.out.bs (by simp))).mono ?_; rintro e' w1 ⟨rfl, hb⟩; have E1 := Lib.hid (E.out.later hb); clear hb E; have E := E1; clear E1; go_wp2_with fail; (refine hK.out _ _ (E.out.part _ _ (by repeat (first | exact List.Sublist.refl _ | apply List.Sublist.cons_cons | apply List.Sublist.cons)) (by simp)) (fun kS => ?_); clear hK K; (try simp only [Act.put, List.setIfInBounds_toArray, List.set_cons_zero, List.set_cons_succ])))
  refine callL (i := 11) rfl (by kernel_rfl) (fun K hK => ?_)
  (go_simp; refine (HC2.out _ (E.out.get (by simp)) (E.out.bs (by simp))).mono ?_; rintro e' w1 ⟨rfl, hb⟩; have E1 := Lib.hid (E.out.later hb); clear hb E; have E := E1; clear E1; go_wp2_with fail; (refine hK.out _ _ (E.out.part _ _ (by repeat (first | exact List.Sublist.refl _ | apply List.Sublist.cons_cons | apply List.Sublist.cons)) (by simp)) (fun kS => ?_); clear hK K; (try simp only [Act.put, List.setIfInBounds_toArray, List.set_cons_zero, List.set_cons_succ])))
  refine callL (i := 12) rfl (by kernel_rfl) (fun K hK => ?_)
  (go_simp; refine (HPl.out _).mono ?_; rintro e' w1 ⟨rfl, hb⟩; have E1 := Lib.hid (E.out.later hb); clear hb E; have E := E1; clear E1; go_wp2_with fail; (refine hK.out _ _ (E.out.part _ _ (by repeat (first | exact List.Sublist.refl _ | apply List.Sublist.cons_cons | apply List.Sublist.cons)) (by simp)) (fun kS => ?_); clear hK K; (try simp only [Act.put, List.setIfInBounds_toArray, List.set_cons_zero, List.set_cons_succ])))
  refine callL (i := 13) rfl (by kernel_rfl) (fun K hK => ?_)
  (rw [if_pos (by rfl)]; refine wp_kn_stores (g := g2) (vs := i64s PV) E.out rfl rfl rfl rfl ⟨rfl, by rw [i64s_length]; exact hl.out⟩ (i64s_one _) ?_; clear E kS; intro u E0; have E := Lib.hid E0; clear E0; (refine hK.out _ _ (E.out.part _ _ (by repeat (first | exact List.Sublist.refl _ | apply List.Sublist.cons_cons | apply List.Sublist.cons)) (by simp)) (fun kS => ?_); clear hK K; (try simp only [Act.put, List.setIfInBounds_toArray, List.set_cons_zero, List.set_cons_succ])))
  refine wpAnyH_done (by kernel_rfl) ?_ _
  go_wp2_with fail
  refine bodyPost_ret (results_kn E.out rfl _ rfl (by rw [i64s_length]; exact hl.out)) rfl ?_
  exact ⟨rfl, E.out.bel⟩

namespace Et
/-- Texels of two halves; those of index 0 are bases, as far as k. -/
def hvP (d f : Bool) (Z W : List Int) : Nat → List Int
  | 0 => paV d f Z
  | k + 1 => if W.getD k 0 = 0 then spl (hvP d f Z W k) (k * 4) (bRow d Z (halfN f k)) else hvP d f Z W k
theorem hvP_length (d f : Bool) (Z W : List Int) : ∀ k, (hvP d f Z W k).length = 64
  | 0 => paV_length d f Z
  | k + 1 => by
    rw [hvP]
    split
    · rw [spl_length, hvP_length d f Z W k]
    · exact hvP_length d f Z W k
def hvV (o d f : Bool) (Z W : List Int) : List Int := if o then paV d f Z else hvP d f Z W 16
end Et
set_option maxHeartbeats 4000000 in
set_option maxRecDepth 100000 in
theorem halves2 (B : List Value) (hB : B.length = 29) (hO : ∀ v ∈ B, v.oneCell' = true) (o d f : Bool) (Z W : List Int) (hZ : Z.length = 24) (hok : okP d Z) (hBp : (B.drop 0).take 26 = blk d f Z) (hBf : B[1]? = some (.bool f)) (hBo : B[27]? = some (.bool o)) (hW : W.length = 16) (hBW : (B.drop 10).take 16 = i64s W) (w : World) (hN : Nums w) :
    Calls Tryd.prog 58 #[.agg B.toArray] w fun e w' => e = .returned (arr (hvV o d f Z W)) ∧ Below w.heap.size w w' := by
  have E := Lib.hid ((Kn.start w).arg_nums hN)
  have HI := Lib.hid (fun k (hk : k < 16) u => run_index_i64 (P := Tryd.prog) 46 3 16 Tryd.underlying46 Tryd.underlying3 (by kernel_rfl) W k hk hW u)
  have HF := Lib.hid (fun k => show hvP d f Z W (k + 1) = if W.getD k 0 = 0 then spl (hvP d f Z W k) (k * 4) (bRow d Z (halfN f k)) else hvP d f Z W k from rfl)
  have HL := Lib.hid (fun k => hvP_length d f Z W k)
  have H0 := Lib.hid (show hvP d f Z W 0 = paV d f Z from rfl)
  have HR := Lib.hid (fun k => show ((baV d Z).drop (k * 4)).take 4 = bRow d Z k from rfl)
  have HRL := Lib.hid (fun k (hk : k < 2) => bRow_length d Z k hk)
  have HH := Lib.hid (fun (k : Nat) (hk : k < 16) u => show Calls Tryd.prog 76 #[.bool f, .int .i64 (k : Int)] u (fun e w' => e = .returned (.int .i64 ((halfN f k : Nat) : Int)) ∧ u = w') from by
    rw [← halfV_nat f hk]
    exact half_any f k u)
  have HHL := Lib.hid (fun k (hk : k < 16) => halfN_lt f hk)
  have HP := Lib.hid (fun u hN => paint_any d f Z u hZ hok hN)
  have HB := Lib.hid (fun u => bases_any d f Z u hZ hok)
  have hpl := Lib.hid (paV_length d f Z)
  have hbl := Lib.hid (baV_length d Z)
  have hz64 := Lib.hid (show (i64s z64).length = 64 from rfl)
  have hbk := Lib.hid (show (blk d f Z).length = 26 from blk_length (by omega))
  replace hB := Lib.hid hB
  replace hO := Lib.hid hO
  replace hBp := Lib.hid hBp
  replace hBf := Lib.hid hBf
  replace hBo := Lib.hid hBo
  replace hBW := Lib.hid hBW
  replace hW := Lib.hid hW
  unfold hvV
  clear hok hN
  generalize hvP d f Z W = FP at *
  generalize paV d f Z = PV at *
  generalize baV d Z = BA at *
  generalize bRow d Z = BR at *
  generalize halfN f = HN at *
  generalize farP d Z 3 = far at *
  generalize blk d f Z = bk at *
  cases o
  · rw [if_neg (by decide)]
    go_enter Tryd.func58, Tryd.ntmps58
    go_wp2_with (first
      | (go_at_call 46; (with_reducible refine (HP.out _ ?hB).mono ?_); (case hB => exact E.out.get (by simp)); clear HP; rintro e w1 ⟨rfl, hb⟩; have E1 := Lib.hid (E.out.later hb); clear hb E; have E := E1; clear E1)
      | (go_at_call 22; (with_reducible refine (HB.out _).mono ?_); clear HB; rintro e w1 ⟨rfl, hb⟩; have E1 := Lib.hid (E.out.later hb); clear hb E; have E := E1; clear E1)
      | ((with_reducible refine kn_loadv (g := g1) (off := 0) E.out rfl rfl rfl hBp.out ?hl ?_); (case hl => exact hbk.out))
      | ((with_reducible refine kn_loadv (g := g1) (off := 10) E.out rfl rfl rfl hBW.out ?hl ?_); (case hl => rw [i64s_length]; exact hW.out))
      | ((with_reducible refine kn_load (g := g1) (i := 27) E.out rfl rfl rfl hBo.out ?_))
      | ((with_reducible refine kn_stores (g := g3) (vs := i64s PV) E.out rfl rfl rfl rfl rfl ?hl ?h1 ?_); (case hl => exact ⟨hz64.out, by rw [i64s_length]; exact hpl.out⟩); (case h1 => exact i64s_one _); clear E; intro u E0; have E := Lib.hid E0; clear E0)
      | ((with_reducible refine kn_stores (g := g4) (vs := i64s BA) E.out rfl rfl rfl rfl rfl ?hl ?h1 ?_); (case hl => exact ⟨rfl, by rw [i64s_length]; exact hbl.out⟩); (case h1 => exact i64s_one _); clear E; intro u E0; have E := Lib.hid E0; clear E0)
      | ((with_reducible refine kn_load E.out rfl rfl rfl rfl ?_)) | ((with_reducible refine kn_load_if E.out rfl rfl rfl rfl ?_)) | ((with_reducible refine kn_loads E.out rfl rfl rfl ?_ ?_); (focus (first | rfl | (simp only [i64s_length, u8s_length]; first | rfl | assumption | omega)))) | ((with_reducible refine kn_loads_if E.out rfl rfl rfl ?_ ?_); (focus (first | rfl | (simp only [i64s_length, u8s_length]; first | rfl | assumption | omega)))) | ((with_reducible refine kn_stores E.out rfl rfl rfl rfl rfl ?_ ?_ ?_); (focus (first | exact ⟨rfl, rfl⟩ | (simp only [i64s_length, u8s_length]; refine ⟨?_, ?_⟩ <;> first | rfl | assumption | omega))); (focus (first | exact i64s_one _ | exact u8s_one _ | simp [Value.oneCell'])); clear E; intro u E0; have E := Lib.hid E0; clear E0) | ((with_reducible refine kn_alloc (o := ⟨some 1, _, _, _, _, _⟩) E.out rfl rfl ?_); clear E; intro g1 u E0 hb0; have E := Lib.hid E0; clear E0 hb0) | ((with_reducible refine kn_box (o := ⟨some 1, _, _, _, _, _⟩) E.out rfl rfl rfl ?_); clear E; intro g1 u E0 hb0; have E := Lib.hid E0; clear E0 hb0) | ((with_reducible refine kn_box_int (o := ⟨some 1, _, _, _, _, _⟩) E.out rfl rfl rfl ?_); clear E; intro g1 u E0 hb0; have E := Lib.hid E0; clear E0 hb0) | ((with_reducible refine kn_box_slice (o := ⟨some 1, _, _, _, _, _⟩) E.out rfl rfl rfl ?_); clear E; intro g1 u E0 hb0; have E := Lib.hid E0; clear E0 hb0) | ((with_reducible refine kn_box_bool (o := ⟨some 1, _, _, _, _, _⟩) E.out rfl rfl rfl ?_); clear E; intro g1 u E0 hb0; have E := Lib.hid E0; clear E0 hb0) | ((with_reducible refine kn_box_func (o := ⟨some 1, _, _, _, _, _⟩) E.out rfl rfl rfl ?_); clear E; intro g1 u E0 hb0; have E := Lib.hid E0; clear E0 hb0) | ((with_reducible refine kn_alloc (o := ⟨some 2, _, _, _, _, _⟩) E.out rfl rfl ?_); clear E; intro g2 u E0 hb0; have E := Lib.hid E0; clear E0 hb0) | ((with_reducible refine kn_box (o := ⟨some 2, _, _, _, _, _⟩) E.out rfl rfl rfl ?_); clear E; intro g2 u E0 hb0; have E := Lib.hid E0; clear E0 hb0) | ((with_reducible refine kn_box_int (o := ⟨some 2, _, _, _, _, _⟩) E.out rfl rfl rfl ?_); clear E; intro g2 u E0 hb0; have E := Lib.hid E0; clear E0 hb0) | ((with_reducible refine kn_box_slice (o := ⟨some 2, _, _, _, _, _⟩) E.out rfl rfl rfl ?_); clear E; intro g2 u E0 hb0; have E := Lib.hid E0; clear E0 hb0) | ((with_reducible refine kn_box_bool (o := ⟨some 2, _, _, _, _, _⟩) E.out rfl rfl rfl ?_); clear E; intro g2 u E0 hb0; have E := Lib.hid E0; clear E0 hb0) | ((with_reducible refine kn_box_func (o := ⟨some 2, _, _, _, _, _⟩) E.out rfl rfl rfl ?_); clear E; intro g2 u E0 hb0; have E := Lib.hid E0; clear E0 hb0) | ((with_reducible refine kn_alloc (o := ⟨some 3, _, _, _, _, _⟩) E.out rfl rfl ?_); clear E; intro g3 u E0 hb0; have E := Lib.hid E0; clear E0 hb0) | ((with_reducible refine kn_box (o := ⟨some 3, _, _, _, _, _⟩) E.out rfl rfl rfl ?_); clear E; intro g3 u E0 hb0; have E := Lib.hid E0; clear E0 hb0) | ((with_reducible refine kn_box_int (o := ⟨some 3, _, _, _, _, _⟩) E.out rfl rfl rfl ?_); clear E; intro g3 u E0 hb0; have E := Lib.hid E0; clear E0 hb0) | ((with_reducible refine kn_box_slice (o := ⟨some 3, _, _, _, _, _⟩) E.out rfl rfl rfl ?_); clear E; intro g3 u E0 hb0; have E := Lib.hid E0; clear E0 hb0) | ((with_reducible refine kn_box_bool (o := ⟨some 3, _, _, _, _, _⟩) E.out rfl rfl rfl ?_); clear E; intro g3 u E0 hb0; have E := Lib.hid E0; clear E0 hb0) | ((with_reducible refine kn_box_func (o := ⟨some 3, _, _, _, _, _⟩) E.out rfl rfl rfl ?_); clear E; intro g3 u E0 hb0; have E := Lib.hid E0; clear E0 hb0) | ((with_reducible refine kn_alloc (o := ⟨some 4, _, _, _, _, _⟩) E.out rfl rfl ?_); clear E; intro g4 u E0 hb0; have E := Lib.hid E0; clear E0 hb0) | ((with_reducible refine kn_box (o := ⟨some 4, _, _, _, _, _⟩) E.out rfl rfl rfl ?_); clear E; intro g4 u E0 hb0; have E := Lib.hid E0; clear E0 hb0) | ((with_reducible refine kn_box_int (o := ⟨some 4, _, _, _, _, _⟩) E.out rfl rfl rfl ?_); clear E; intro g4 u E0 hb0; have E := Lib.hid E0; clear E0 hb0) | ((with_reducible refine kn_box_slice (o := ⟨some 4, _, _, _, _, _⟩) E.out rfl rfl rfl ?_); clear E; intro g4 u E0 hb0; have E := Lib.hid E0; clear E0 hb0) | ((with_reducible refine kn_box_bool (o := ⟨some 4, _, _, _, _, _⟩) E.out rfl rfl rfl ?_); clear E; intro g4 u E0 hb0; have E := Lib.hid E0; clear E0 hb0) | ((with_reducible refine kn_box_func (o := ⟨some 4, _, _, _, _, _⟩) E.out rfl rfl rfl ?_); clear E; intro g4 u E0 hb0; have E := Lib.hid E0; clear E0 hb0))
    go_loopw [23] (fun ck wr => ∃ k : Nat, k ≤ 16 ∧ ck = .int .i64 (k : Int) ∧ Hid (Kn w [.row g4 51 (i64s BA), .row g3 27 (i64s (FP k)), .row g2 27 (i64s z64), .row g1 57 B] [Nums] wr)) (fun ck _ => 16 - (intOf ck).toNat)
    case atStart => exact ⟨0, by omega, rfl, by rw [H0.out]; exact E⟩
    case round =>
      clear E
      obtain ⟨k, hk, rfl, E⟩ := hrel
      have hl := HL.out k
      by_cases hlt : k < 16
      · have hk3 : (k : Int) < 16 := by omega
        have hix := fun u => HI.out k hlt u
        have hF := HF.out k
        have hHk := Lib.hid (fun u => HH.out k hlt u)
        have hhl := HHL.out k hlt
        have hR := Lib.hid (HR.out (HN k))
        have hrl := HRL.out (HN k) hhl
        clear HI HF HL H0 HH HHL HR HRL
        obtain ⟨v, hv⟩ : ∃ v, W.getD k 0 = v := ⟨_, rfl⟩
        rw [hv] at hix hF
        clear hv
        obtain ⟨q, hq⟩ : ∃ v, HN k = v := ⟨_, rfl⟩
        rw [hq] at hF hHk hhl hR hrl
        clear hq
        obtain ⟨br, hbr⟩ : ∃ v, BR q = v := ⟨_, rfl⟩
        rw [hbr] at hF hR hrl
        clear hbr
        have hq2 : (q : Int) < 2 := by omega
        have hqb : q * 4 + 4 ≤ BA.length := by rw [hbl.out]; omega
        have hix2 : ∀ u, (Instr.index 46 (.agg (i64s W).toArray) (.int .i64 (k : Int))).run Tryd.prog u = .ok (.int .i64 v) u := hix
        by_cases hv2 : v = 0
        · have hvb : (v == 0) = true := by rw [hv2]; rfl
          rw [if_pos hv2] at hF
          replace hF := Lib.hid hF
          clear hv2
          go_wp2_with (first
            | (go_at_call 76; (with_reducible refine (hHk.out _).mono ?_); clear hHk; rintro e w1 ⟨rfl, rfl⟩)
            | ((with_reducible refine kn_load (g := g1) (i := 1) E.out rfl rfl rfl hBf.out ?_))
            | ((with_reducible refine kn_loadp (g := g4) (off := q * 4) E.out rfl rfl rfl ?hl ?_); (case hl => exact hqb); rw [hR.out])
            | ((with_reducible refine kn_storep (g := g3) (off := k * 4) (ys := br) E.out rfl rfl rfl rfl rfl ?hl ?hm ?_); (case hl => exact hrl); (case hm => omega); clear E; intro u E0; have E := Lib.hid E0; clear E0)
            | ((with_reducible refine kn_load E.out rfl rfl rfl rfl ?_)) | ((with_reducible refine kn_load_if E.out rfl rfl rfl rfl ?_)) | ((with_reducible refine kn_loads E.out rfl rfl rfl ?_ ?_); (focus (first | rfl | (simp only [i64s_length, u8s_length]; first | rfl | assumption | omega)))) | ((with_reducible refine kn_loads_if E.out rfl rfl rfl ?_ ?_); (focus (first | rfl | (simp only [i64s_length, u8s_length]; first | rfl | assumption | omega)))) | ((with_reducible refine kn_stores E.out rfl rfl rfl rfl rfl ?_ ?_ ?_); (focus (first | exact ⟨rfl, rfl⟩ | (simp only [i64s_length, u8s_length]; refine ⟨?_, ?_⟩ <;> first | rfl | assumption | omega))); (focus (first | exact i64s_one _ | exact u8s_one _ | simp [Value.oneCell'])); clear E; intro u E0; have E := Lib.hid E0; clear E0))
          go_roundw
          case rel => exact ⟨k + 1, by omega, by go_num, by rw [hF.out]; exact E⟩
          case measure => simp [intOf]; try omega
        · have hvb : (v == 0) = false := beq_eq_false_iff_ne.2 hv2
          rw [if_neg hv2] at hF
          replace hF := Lib.hid hF
          clear hv2
          go_wp2_with (first | ((with_reducible refine kn_load E.out rfl rfl rfl rfl ?_)) | ((with_reducible refine kn_load_if E.out rfl rfl rfl rfl ?_)) | ((with_reducible refine kn_loads E.out rfl rfl rfl ?_ ?_); (focus (first | rfl | (simp only [i64s_length, u8s_length]; first | rfl | assumption | omega)))) | ((with_reducible refine kn_loads_if E.out rfl rfl rfl ?_ ?_); (focus (first | rfl | (simp only [i64s_length, u8s_length]; first | rfl | assumption | omega)))) | ((with_reducible refine kn_stores E.out rfl rfl rfl rfl rfl ?_ ?_ ?_); (focus (first | exact ⟨rfl, rfl⟩ | (simp only [i64s_length, u8s_length]; refine ⟨?_, ?_⟩ <;> first | rfl | assumption | omega))); (focus (first | exact i64s_one _ | exact u8s_one _ | simp [Value.oneCell'])); clear E; intro u E0; have E := Lib.hid E0; clear E0))
          go_roundw
          case rel => exact ⟨k + 1, by omega, by go_num, by rw [hF.out]; exact E⟩
          case measure => simp [intOf]; try omega
      · have hk3 : ¬ ((k : Int) < 16) := by omega
        have ek : k = 16 := by omega
        rw [ek] at E hl
        clear HI HF HL H0 HH HHL HR HRL hlt ek
        go_wp2_with (first
          | ((with_reducible refine kn_loads (g := g3) E.out rfl rfl rfl ?hl ?_); (case hl => rw [i64s_length]; exact hl))
          | ((with_reducible refine kn_stores (g := g2) (vs := i64s (FP 16)) E.out rfl rfl rfl rfl rfl ?hl ?h1 ?_); (case hl => exact ⟨hz64.out, by rw [i64s_length]; exact hl⟩); (case h1 => exact i64s_one _); clear E; intro u E0; have E := Lib.hid E0; clear E0)
          | ((with_reducible refine kn_load E.out rfl rfl rfl rfl ?_)) | ((with_reducible refine kn_load_if E.out rfl rfl rfl rfl ?_)) | ((with_reducible refine kn_loads E.out rfl rfl rfl ?_ ?_); (focus (first | rfl | (simp only [i64s_length, u8s_length]; first | rfl | assumption | omega)))) | ((with_reducible refine kn_loads_if E.out rfl rfl rfl ?_ ?_); (focus (first | rfl | (simp only [i64s_length, u8s_length]; first | rfl | assumption | omega)))) | ((with_reducible refine kn_stores E.out rfl rfl rfl rfl rfl ?_ ?_ ?_); (focus (first | exact ⟨rfl, rfl⟩ | (simp only [i64s_length, u8s_length]; refine ⟨?_, ?_⟩ <;> first | rfl | assumption | omega))); (focus (first | exact i64s_one _ | exact u8s_one _ | simp [Value.oneCell'])); clear E; intro u E0; have E := Lib.hid E0; clear E0))
        refine bodyPost_ret (results_kn E.out rfl _ rfl (by rw [i64s_length]; exact hl)) rfl ?_
        exact ⟨rfl, E.out.bel⟩
  · rw [if_pos rfl]
    go_enter Tryd.func58, Tryd.ntmps58
    go_wp2_with (first
      | (go_at_call 46; (with_reducible refine (HP.out _ ?hB).mono ?_); (case hB => exact E.out.get (by simp)); clear HP; rintro e w1 ⟨rfl, hb⟩; have E1 := Lib.hid (E.out.later hb); clear hb E; have E := E1; clear E1)
      | ((with_reducible refine kn_loadv (g := g1) (off := 0) E.out rfl rfl rfl hBp.out ?hl ?_); (case hl => exact hbk.out))
      | ((with_reducible refine kn_load (g := g1) (i := 27) E.out rfl rfl rfl hBo.out ?_))
      | ((with_reducible refine kn_stores (g := g3) (vs := i64s PV) E.out rfl rfl rfl rfl rfl ?hl ?h1 ?_); (case hl => exact ⟨hz64.out, by rw [i64s_length]; exact hpl.out⟩); (case h1 => exact i64s_one _); clear E; intro u E0; have E := Lib.hid E0; clear E0)
      | ((with_reducible refine kn_loads (g := g3) E.out rfl rfl rfl ?hl ?_); (case hl => rw [i64s_length]; exact hpl.out))
      | ((with_reducible refine kn_stores (g := g2) (vs := i64s PV) E.out rfl rfl rfl rfl rfl ?hl ?h1 ?_); (case hl => exact ⟨hz64.out, by rw [i64s_length]; exact hpl.out⟩); (case h1 => exact i64s_one _); clear E; intro u E0; have E := Lib.hid E0; clear E0)
      | ((with_reducible refine kn_load E.out rfl rfl rfl rfl ?_)) | ((with_reducible refine kn_load_if E.out rfl rfl rfl rfl ?_)) | ((with_reducible refine kn_loads E.out rfl rfl rfl ?_ ?_); (focus (first | rfl | (simp only [i64s_length, u8s_length]; first | rfl | assumption | omega)))) | ((with_reducible refine kn_loads_if E.out rfl rfl rfl ?_ ?_); (focus (first | rfl | (simp only [i64s_length, u8s_length]; first | rfl | assumption | omega)))) | ((with_reducible refine kn_stores E.out rfl rfl rfl rfl rfl ?_ ?_ ?_); (focus (first | exact ⟨rfl, rfl⟩ | (simp only [i64s_length, u8s_length]; refine ⟨?_, ?_⟩ <;> first | rfl | assumption | omega))); (focus (first | exact i64s_one _ | exact u8s_one _ | simp [Value.oneCell'])); clear E; intro u E0; have E := Lib.hid E0; clear E0) | ((with_reducible refine kn_alloc (o := ⟨some 1, _, _, _, _, _⟩) E.out rfl rfl ?_); clear E; intro g1 u E0 hb0; have E := Lib.hid E0; clear E0 hb0) | ((with_reducible refine kn_box (o := ⟨some 1, _, _, _, _, _⟩) E.out rfl rfl rfl ?_); clear E; intro g1 u E0 hb0; have E := Lib.hid E0; clear E0 hb0) | ((with_reducible refine kn_box_int (o := ⟨some 1, _, _, _, _, _⟩) E.out rfl rfl rfl ?_); clear E; intro g1 u E0 hb0; have E := Lib.hid E0; clear E0 hb0) | ((with_reducible refine kn_box_slice (o := ⟨some 1, _, _, _, _, _⟩) E.out rfl rfl rfl ?_); clear E; intro g1 u E0 hb0; have E := Lib.hid E0; clear E0 hb0) | ((with_reducible refine kn_box_bool (o := ⟨some 1, _, _, _, _, _⟩) E.out rfl rfl rfl ?_); clear E; intro g1 u E0 hb0; have E := Lib.hid E0; clear E0 hb0) | ((with_reducible refine kn_box_func (o := ⟨some 1, _, _, _, _, _⟩) E.out rfl rfl rfl ?_); clear E; intro g1 u E0 hb0; have E := Lib.hid E0; clear E0 hb0) | ((with_reducible refine kn_alloc (o := ⟨some 2, _, _, _, _, _⟩) E.out rfl rfl ?_); clear E; intro g2 u E0 hb0; have E := Lib.hid E0; clear E0 hb0) | ((with_reducible refine kn_box (o := ⟨some 2, _, _, _, _, _⟩) E.out rfl rfl rfl ?_); clear E; intro g2 u E0 hb0; have E := Lib.hid E0; clear E0 hb0) | ((with_reducible refine kn_box_int (o := ⟨some 2, _, _, _, _, _⟩) E.out rfl rfl rfl ?_); clear E; intro g2 u E0 hb0; have E := Lib.hid E0; clear E0 hb0) | ((with_reducible refine kn_box_slice (o := ⟨some 2, _, _, _, _, _⟩) E.out rfl rfl rfl ?_); clear E; intro g2 u E0 hb0; have E := Lib.hid E0; clear E0 hb0) | ((with_reducible refine kn_box_bool (o := ⟨some 2, _, _, _, _, _⟩) E.out rfl rfl rfl ?_); clear E; intro g2 u E0 hb0; have E := Lib.hid E0; clear E0 hb0) | ((with_reducible refine kn_box_func (o := ⟨some 2, _, _, _, _, _⟩) E.out rfl rfl rfl ?_); clear E; intro g2 u E0 hb0; have E := Lib.hid E0; clear E0 hb0) | ((with_reducible refine kn_alloc (o := ⟨some 3, _, _, _, _, _⟩) E.out rfl rfl ?_); clear E; intro g3 u E0 hb0; have E := Lib.hid E0; clear E0 hb0) | ((with_reducible refine kn_box (o := ⟨some 3, _, _, _, _, _⟩) E.out rfl rfl rfl ?_); clear E; intro g3 u E0 hb0; have E := Lib.hid E0; clear E0 hb0) | ((with_reducible refine kn_box_int (o := ⟨some 3, _, _, _, _, _⟩) E.out rfl rfl rfl ?_); clear E; intro g3 u E0 hb0; have E := Lib.hid E0; clear E0 hb0) | ((with_reducible refine kn_box_slice (o := ⟨some 3, _, _, _, _, _⟩) E.out rfl rfl rfl ?_); clear E; intro g3 u E0 hb0; have E := Lib.hid E0; clear E0 hb0) | ((with_reducible refine kn_box_bool (o := ⟨some 3, _, _, _, _, _⟩) E.out rfl rfl rfl ?_); clear E; intro g3 u E0 hb0; have E := Lib.hid E0; clear E0 hb0) | ((with_reducible refine kn_box_func (o := ⟨some 3, _, _, _, _, _⟩) E.out rfl rfl rfl ?_); clear E; intro g3 u E0 hb0; have E := Lib.hid E0; clear E0 hb0))
    refine bodyPost_ret (results_kn E.out rfl _ rfl (by rw [i64s_length]; exact hpl.out)) rfl ?_
    exact ⟨rfl, E.out.bel⟩
end Go.Proofs.YtgcijioiicmjiaaDoor
