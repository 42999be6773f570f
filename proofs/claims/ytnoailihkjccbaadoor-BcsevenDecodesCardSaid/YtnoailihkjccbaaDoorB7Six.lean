/- Blocks of mode 6: Six. -/
import Derived.Test.YtnoailihkjccbaaDoorB7Wri
set_option linter.all false
namespace Go.Proofs.YtnoailihkjccbaaDoor
open Go.RowKit
open Bi Lv Bt B7

namespace B7
def M6 : List Value := [.int .i64 1, .int .i64 0, .int .i64 0, .int .i64 0, .int .i64 7, .int .i64 7, .int .i64 1, .int .i64 0, .int .i64 4, .int .i64 0]
def in64 (n : Int) : Prop := -9223372036854775808 ≤ n ∧ n ≤ 9223372036854775807
/-- Where the ends' numbers lie in the argument. -/
def fx (t : Nat) : Nat := t % 2 * 4 + t / 2
def wb (j : Nat) : Nat := if j = 0 then 3 else 4
/-- Where index j lies. -/
def wq (j : Nat) : Nat := if j = 0 then 65 else 64 + 4 * j
/-- A block's bits. -/
def sb (X M W : List Int) (k : Nat) : Bool :=
  if k < 7 then (64 : Nat).testBit k
  else if k < 63 then (X.getD (fx ((k - 7) / 7)) 0).toNat.testBit ((k - 7) % 7)
  else if k < 65 then (M.getD (k - 63) 0).toNat.testBit 0
  else if k < 68 then (W.getD 0 0).toNat.testBit (k - 65)
  else (W.getD ((k - 64) / 4) 0).toNat.testBit ((k - 64) % 4)
def goX (X : List Int) (t : Nat) : Prop := ∀ s, s < t → fitsI (X.getD (fx s) 0) 7
def goM (X M : List Int) (i : Nat) : Prop := goX X 8 ∧ ∀ s, s < i → fitsI (M.getD s 0) 1
def goW (X M W : List Int) (j : Nat) : Prop := goM X M 2 ∧ ∀ s, s < j → fitsI (W.getD s 0) (wb s)
def okS (X M W : List Int) : Prop := goW X M W 16
instance (X : List Int) (t : Nat) : Decidable (goX X t) := inferInstanceAs (Decidable (∀ s, s < t → _))
instance (X M : List Int) (t : Nat) : Decidable (goM X M t) := inferInstanceAs (Decidable (_ ∧ ∀ s, s < t → _))
instance (X M W : List Int) (t : Nat) : Decidable (goW X M W t) := inferInstanceAs (Decidable (_ ∧ ∀ s, s < t → _))
instance (X M W : List Int) : Decidable (okS X M W) := inferInstanceAs (Decidable (goW X M W 16))
def siV (X M W : List Int) : List Nat := if okS X M W then lay zz false 0 128 (sb X M W) else []
def siE (X M W : List Int) : Int := if okS X M W then 0 else 1
theorem all_succ {t : Nat} {p : Nat → Prop} : (∀ s, s < t + 1 → p s) ↔ ((∀ s, s < t → p s) ∧ p t) :=
  ⟨fun h => ⟨fun s hs => h s (by omega), h t (by omega)⟩, fun h s hs => by
    rcases Nat.lt_or_ge s t with h1 | h1
    · exact h.1 s h1
    · obtain rfl : s = t := by omega
      exact h.2⟩
theorem goX_succ (X : List Int) (t : Nat) : goX X (t + 1) ↔ (goX X t ∧ fitsI (X.getD (fx t) 0) 7) := all_succ
theorem goM_succ (X M : List Int) (t : Nat) : goM X M (t + 1) ↔ (goM X M t ∧ fitsI (M.getD t 0) 1) := by
  unfold goM
  rw [all_succ, and_assoc]
theorem goW_succ (X M W : List Int) (t : Nat) : goW X M W (t + 1) ↔ (goW X M W t ∧ fitsI (W.getD t 0) (wb t)) := by
  unfold goW
  rw [all_succ, and_assoc]
theorem goX_zero (X : List Int) : goX X 0 ↔ True := ⟨fun _ => trivial, fun _ s hs => absurd hs (by omega)⟩
theorem goM_zero (X M : List Int) : goM X M 0 ↔ goX X 8 := ⟨fun h => h.1, fun h => ⟨h, fun s hs => absurd hs (by omega)⟩⟩
theorem goW_zero (X M W : List Int) : goW X M W 0 ↔ goM X M 2 := ⟨fun h => h.1, fun h => ⟨h, fun s hs => absurd hs (by omega)⟩⟩
section
variable (X M W : List Int)
theorem sb_0 (k : Nat) (hk : k < 7) : (64 : Int).toNat.testBit k = sb X M W (0 + k) := by
  unfold sb
  rw [if_pos (by omega), Nat.zero_add]
  rfl
theorem sb_X (t : Nat) (ht : t < 8) (k : Nat) (hk : k < 7) : (X.getD (fx t) 0).toNat.testBit k = sb X M W (7 + 7 * t + k) := by
  unfold sb
  rw [if_neg (by omega), if_pos (by omega), show (7 + 7 * t + k - 7) / 7 = t by omega, show (7 + 7 * t + k - 7) % 7 = k by omega]
theorem sb_M (i : Nat) (hi : i < 2) (k : Nat) (hk : k < 1) : (M.getD i 0).toNat.testBit k = sb X M W (63 + i + k) := by
  unfold sb
  rw [if_neg (by omega), if_neg (by omega), if_pos (by omega), show 63 + i + k - 63 = i by omega, show k = 0 by omega]
theorem sb_W (j : Nat) (hj : j < 16) (k : Nat) (hk : k < wb j) : (W.getD j 0).toNat.testBit k = sb X M W (wq j + k) := by
  unfold wb at hk
  unfold sb wq
  by_cases h : j = 0
  · subst h
    rw [if_pos rfl] at hk
    rw [if_pos rfl, if_neg (by omega), if_neg (by omega), if_neg (by omega), if_pos (by omega), show 65 + k - 65 = k by omega]
  · rw [if_neg h] at hk
    rw [if_neg h, if_neg (by omega), if_neg (by omega), if_neg (by omega), if_neg (by omega), show (64 + 4 * j + k - 64) / 4 = j by omega, show (64 + 4 * j + k - 64) % 4 = k by omega]
theorem wq_succ (j : Nat) : wq j + wb j = wq (j + 1) := by
  unfold wq wb
  rw [if_neg (by omega : ¬ j + 1 = 0)]
  split <;> omega
end
theorem SS.done {X M W : List Int} {xs : List Nat} {P : Nat} {b : Bool} (h : SS (sb X M W) (goW X M W 16) 128 xs P b) : (b = true ∧ xs = siV X M W ∧ siE X M W = 0) ∨ (b = false ∧ siV X M W = [] ∧ siE X M W = 1) := by
  cases b
  · have h2 : ¬ okS X M W := h.no rfl
    exact .inr ⟨rfl, if_neg h2, if_neg h2⟩
  · obtain ⟨h1, _, h3⟩ := h.yes rfl
    have h2 : okS X M W := h1
    exact .inl ⟨rfl, h3.trans (if_pos h2).symm, if_pos h2⟩
theorem SS.weak {f : Nat → Bool} {g g' : Prop} {p : Nat} {xs : List Nat} {P : Nat} {b : Bool} (h : SS f g p xs P b) (hg : g' ↔ g) : SS f g' p xs P b := ⟨h.len, h.le, fun hb => ⟨hg.2 (h.yes hb).1, (h.yes hb).2⟩, fun hb k => h.no hb (hg.1 k)⟩
end B7
theorem widths6 (w : World) : Calls Tryd.prog 33 #[.agg #[.int .i64 1, .int .i64 0, .int .i64 0, .int .i64 0, .int .i64 7, .int .i64 7, .int .i64 1, .int .i64 0, .int .i64 4, .int .i64 0]] w fun e w' => e = .returned (arr [7, 7, 7, 7]) ∧ Below w.heap.size w w' :=
  widths_any ⟨1, 0, 0, 0, 7, 7, 1, 0, 4, 0⟩ w
theorem idx4 (c : Nat) (hc : c < 4) (u : World) : (Instr.index 24 (arr [7, 7, 7, 7]) (.int .i64 (c : Int))).run Tryd.prog u = .ok (.int .i64 7) u := by
  have h := run_index_i64 (P := Tryd.prog) 24 3 4 Tryd.underlying24 Tryd.underlying3 (by kernel_rfl) [7, 7, 7, 7] c hc rfl u
  have e : ([7, 7, 7, 7] : List Int).getD c 0 = 7 := by
    obtain rfl | rfl | rfl | rfl : c = 0 ∨ c = 1 ∨ c = 2 ∨ c = 3 := by omega
    all_goals rfl
  rw [e] at h
  exact h

set_option maxHeartbeats 8000000 in
set_option maxRecDepth 100000 in
theorem six_any (X M W : List Int) (w : World) (hX : X.length = 8) (hM : M.length = 2) (hW : W.length = 16) (bX : ∀ i, in64 (X.getD i 0)) (bM : ∀ i, in64 (M.getD i 0)) (bW : ∀ i, in64 (W.getD i 0)) :
    Calls Tryd.prog 13 #[arr X, arr M, arr W] w (Laid w (siV X M W) (siE X M W)) := by
  have E := Lib.hid (Kn.start w)
  have hm6 := Lib.hid mode6
  have hMo := Lib.hid (fun u => modes u)
  have HIW := Lib.hid (fun (j : Nat) (hj : j < 16) (u : World) => run_index_i64 (P := Tryd.prog) 35 3 16 Tryd.underlying35 Tryd.underlying3 (by kernel_rfl) W j hj hW u)
  have HIM := Lib.hid (fun (j : Nat) (hj : j < 2) (u : World) => run_index_i64 (P := Tryd.prog) 34 3 2 Tryd.underlying34 Tryd.underlying3 (by kernel_rfl) M j hj hM u)
  have HX1 := Lib.hid (fun c (hc : c < 4) xs xs' P P' b b' (h : SS (sb X M W) (goX X (2 * c)) (7 + 14 * c) xs P b) hs => show SS (sb X M W) (goX X (2 * c + 1)) (14 + 14 * c) xs' P' b' from
    h.step (X.getD c 0) 7 (by omega) (by rw [goX_succ, show fx (2 * c) = c by unfold fx; omega]) (fun k hk => by
      have := sb_X X M W (2 * c) (by omega) k hk
      rw [show fx (2 * c) = c by unfold fx; omega, show 7 + 7 * (2 * c) + k = 7 + 14 * c + k by omega] at this
      exact this) hs)
  have HX2 := Lib.hid (fun c (hc : c < 4) xs xs' P P' b b' (h : SS (sb X M W) (goX X (2 * c + 1)) (14 + 14 * c) xs P b) hs => show SS (sb X M W) (goX X (2 * (c + 1))) (7 + 14 * (c + 1)) xs' P' b' from
    h.step (X.getD (4 + c) 0) 7 (by omega) (by rw [show 2 * (c + 1) = 2 * c + 1 + 1 by omega, goX_succ, show fx (2 * c + 1) = 4 + c by unfold fx; omega]) (fun k hk => by
      have := sb_X X M W (2 * c + 1) (by omega) k hk
      rw [show fx (2 * c + 1) = 4 + c by unfold fx; omega, show 7 + 7 * (2 * c + 1) + k = 14 + 14 * c + k by omega] at this
      exact this) hs)
  have HM1 := Lib.hid (fun i (hi : i < 2) xs xs' P P' b b' (h : SS (sb X M W) (goM X M i) (63 + i) xs P b) hs => show SS (sb X M W) (goM X M (i + 1)) (63 + (i + 1)) xs' P' b' from
    h.step (M.getD i 0) 1 (by omega) (goM_succ X M i) (fun k hk => sb_M X M W i hi k hk) hs)
  have HW1 := Lib.hid (fun j (hj : j < 16) xs xs' P P' b b' (h : SS (sb X M W) (goW X M W j) (wq j) xs P b) hs => show SS (sb X M W) (goW X M W (j + 1)) (wq (j + 1)) xs' P' b' from
    h.step (W.getD j 0) (wb j) (wq_succ j) (goW_succ X M W j) (fun k hk => sb_W X M W j hj k hk) hs)
  have H01 := Lib.hid (fun xs' P' b' hs => show SS (sb X M W) (goX X (2 * 0)) (7 + 14 * 0) xs' P' b' from
    ((SS.start (sb X M W)).step 64 7 (by omega) (show goX X 0 ↔ (True ∧ fitsI 64 7) from ⟨fun _ => ⟨trivial, by decide⟩, fun _ => (goX_zero X).2 trivial⟩) (fun k hk => sb_0 X M W k hk) hs))
  have HXM := Lib.hid (fun xs P b (h : SS (sb X M W) (goX X (2 * 4)) (7 + 14 * 4) xs P b) => show SS (sb X M W) (goM X M 0) (63 + 0) xs P b from h.weak (goM_zero X M))
  have HMW := Lib.hid (fun xs P b (h : SS (sb X M W) (goM X M 2) (63 + 2) xs P b) => show SS (sb X M W) (goW X M W 0) (wq 0) xs P b from h.weak (goW_zero X M W))
  have HD := Lib.hid (fun xs P b (h : SS (sb X M W) (goW X M W 16) (wq 16) xs P b) => SS.done (X := X) (M := M) (W := W) (show SS (sb X M W) (goW X M W 16) 128 xs P b from h))
  have HBX := Lib.hid bX
  have HBM := Lib.hid bM
  have HBW := Lib.hid bW
  have HWQ := Lib.hid (fun j (hj : j < 16) => show wq j + wb j ≤ 128 ∧ wb j ≤ 4 from by unfold wq wb; split <;> omega)
  clear bX bM bW
  generalize sb X M W = f at *
  generalize siV X M W = sv at *
  generalize siE X M W = se at *
  go_enter Tryd.func13, Tryd.ntmps13
  go_wp2_with (first
    | (go_at_call 23; refine (hMo.out _).mono ?_; rintro e w1 ⟨g1, rfl, hg1, hr1, hb⟩; have E1 := Lib.hid ((E.out.newrow hb hg1 hr1).rest g1); clear E hb hg1 hr1; have E := E1; clear E1)
    | (go_at_call 32; refine (writer_any E.out).mono ?_; rintro e w2 ⟨gb, ga, gf, A0, c0, rfl, hc1, hc2, E0⟩; clear E; have E := Lib.hid E0; clear E0)
    | (go_at_call 58; refine (put_any gb ga gf A0 c0 0 7 true 64 7 zz rfl E.out (by simp) (by omega) (by omega) (by omega) rfl ⟨hc1, hc2⟩).mono ?_; rintro e w3 ⟨rfl, A1, c1, xs1, P1, b1, hc3, hs, E0⟩; clear E; have E := Lib.hid (E0.part _ [bsF A1 16 xs1] (List.Sublist.refl _) (by simp)); clear E0; have hS := Lib.hid (H01.out _ _ _ hs); clear hs)
    | (go_at_call 33; refine (widths6 _).mono ?_; rintro e w4 ⟨rfl, hb⟩; have E1 := Lib.hid (E.out.later hb); clear hb E; have E := E1; clear E1)
    | ((with_reducible refine kn_loadv (g := g1) (off := 60) E.out rfl rfl ?hx hm6.out rfl ?_); (case hx => rfl))
    | ((with_reducible refine kn_load E.out rfl rfl rfl rfl ?_)) | ((with_reducible refine kn_load_if E.out rfl rfl rfl rfl ?_)) | ((with_reducible refine kn_loads E.out rfl rfl rfl ?_ ?_); (focus (first | rfl | (simp only [i64s_length, u8s_length]; first | rfl | assumption | omega)))) | ((with_reducible refine kn_loads_if E.out rfl rfl rfl ?_ ?_); (focus (first | rfl | (simp only [i64s_length, u8s_length]; first | rfl | assumption | omega)))) | ((with_reducible refine kn_store1_int E.out rfl rfl rfl rfl rfl ?_); clear E; intro u E0; have E := Lib.hid E0; clear E0) | ((with_reducible refine kn_store1_slice E.out rfl rfl rfl rfl rfl ?_); clear E; intro u E0; have E := Lib.hid E0; clear E0) | ((with_reducible refine kn_store1_bool E.out rfl rfl rfl rfl rfl ?_); clear E; intro u E0; have E := Lib.hid E0; clear E0) | ((with_reducible refine kn_stores E.out rfl rfl rfl rfl rfl ?_ ?_ ?_); (focus (first | exact ⟨rfl, rfl⟩ | (simp only [i64s_length, u8s_length]; refine ⟨?_, ?_⟩ <;> first | rfl | assumption | omega))); (focus (first | exact i64s_one _ | exact u8s_one _ | simp [Value.oneCell'])); clear E; intro u E0; have E := Lib.hid E0; clear E0) | ((with_reducible refine kn_alloc (o := ⟨some 3, _, _, _, _, _⟩) E.out rfl rfl ?_); clear E; intro g3 u E0 hb0; have E := Lib.hid E0; clear E0 hb0) | ((with_reducible refine kn_box (o := ⟨some 3, _, _, _, _, _⟩) E.out rfl rfl rfl ?_); clear E; intro g3 u E0 hb0; have E := Lib.hid E0; clear E0 hb0) | ((with_reducible refine kn_box_int (o := ⟨some 3, _, _, _, _, _⟩) E.out rfl rfl rfl ?_); clear E; intro g3 u E0 hb0; have E := Lib.hid E0; clear E0 hb0) | ((with_reducible refine kn_box_slice (o := ⟨some 3, _, _, _, _, _⟩) E.out rfl rfl rfl ?_); clear E; intro g3 u E0 hb0; have E := Lib.hid E0; clear E0 hb0) | ((with_reducible refine kn_box_bool (o := ⟨some 3, _, _, _, _, _⟩) E.out rfl rfl rfl ?_); clear E; intro g3 u E0 hb0; have E := Lib.hid E0; clear E0 hb0) | ((with_reducible refine kn_box_func (o := ⟨some 3, _, _, _, _, _⟩) E.out rfl rfl rfl ?_); clear E; intro g3 u E0 hb0; have E := Lib.hid E0; clear E0 hb0) | ((with_reducible refine kn_alloc (o := ⟨some 4, _, _, _, _, _⟩) E.out rfl rfl ?_); clear E; intro g4 u E0 hb0; have E := Lib.hid E0; clear E0 hb0) | ((with_reducible refine kn_box (o := ⟨some 4, _, _, _, _, _⟩) E.out rfl rfl rfl ?_); clear E; intro g4 u E0 hb0; have E := Lib.hid E0; clear E0 hb0) | ((with_reducible refine kn_box_int (o := ⟨some 4, _, _, _, _, _⟩) E.out rfl rfl rfl ?_); clear E; intro g4 u E0 hb0; have E := Lib.hid E0; clear E0 hb0) | ((with_reducible refine kn_box_slice (o := ⟨some 4, _, _, _, _, _⟩) E.out rfl rfl rfl ?_); clear E; intro g4 u E0 hb0; have E := Lib.hid E0; clear E0 hb0) | ((with_reducible refine kn_box_bool (o := ⟨some 4, _, _, _, _, _⟩) E.out rfl rfl rfl ?_); clear E; intro g4 u E0 hb0; have E := Lib.hid E0; clear E0 hb0) | ((with_reducible refine kn_box_func (o := ⟨some 4, _, _, _, _, _⟩) E.out rfl rfl rfl ?_); clear E; intro g4 u E0 hb0; have E := Lib.hid E0; clear E0 hb0) | ((with_reducible refine kn_alloc (o := ⟨some 5, _, _, _, _, _⟩) E.out rfl rfl ?_); clear E; intro g5 u E0 hb0; have E := Lib.hid E0; clear E0 hb0) | ((with_reducible refine kn_box (o := ⟨some 5, _, _, _, _, _⟩) E.out rfl rfl rfl ?_); clear E; intro g5 u E0 hb0; have E := Lib.hid E0; clear E0 hb0) | ((with_reducible refine kn_box_int (o := ⟨some 5, _, _, _, _, _⟩) E.out rfl rfl rfl ?_); clear E; intro g5 u E0 hb0; have E := Lib.hid E0; clear E0 hb0) | ((with_reducible refine kn_box_slice (o := ⟨some 5, _, _, _, _, _⟩) E.out rfl rfl rfl ?_); clear E; intro g5 u E0 hb0; have E := Lib.hid E0; clear E0 hb0) | ((with_reducible refine kn_box_bool (o := ⟨some 5, _, _, _, _, _⟩) E.out rfl rfl rfl ?_); clear E; intro g5 u E0 hb0; have E := Lib.hid E0; clear E0 hb0) | ((with_reducible refine kn_box_func (o := ⟨some 5, _, _, _, _, _⟩) E.out rfl rfl rfl ?_); clear E; intro g5 u E0 hb0; have E := Lib.hid E0; clear E0 hb0) | ((with_reducible refine kn_alloc (o := ⟨some 8, _, _, _, _, _⟩) E.out rfl rfl ?_); clear E; intro g8 u E0 hb0; have E := Lib.hid E0; clear E0 hb0) | ((with_reducible refine kn_box (o := ⟨some 8, _, _, _, _, _⟩) E.out rfl rfl rfl ?_); clear E; intro g8 u E0 hb0; have E := Lib.hid E0; clear E0 hb0) | ((with_reducible refine kn_box_int (o := ⟨some 8, _, _, _, _, _⟩) E.out rfl rfl rfl ?_); clear E; intro g8 u E0 hb0; have E := Lib.hid E0; clear E0 hb0) | ((with_reducible refine kn_box_slice (o := ⟨some 8, _, _, _, _, _⟩) E.out rfl rfl rfl ?_); clear E; intro g8 u E0 hb0; have E := Lib.hid E0; clear E0 hb0) | ((with_reducible refine kn_box_bool (o := ⟨some 8, _, _, _, _, _⟩) E.out rfl rfl rfl ?_); clear E; intro g8 u E0 hb0; have E := Lib.hid E0; clear E0 hb0) | ((with_reducible refine kn_box_func (o := ⟨some 8, _, _, _, _, _⟩) E.out rfl rfl rfl ?_); clear E; intro g8 u E0 hb0; have E := Lib.hid E0; clear E0 hb0) | ((with_reducible refine kn_alloc E.out rfl rfl ?_); clear E; intro g u E0 hb0; have E := Lib.hid E0; clear E0 hb0) | ((with_reducible refine kn_box E.out rfl rfl rfl ?_); clear E; intro g u E0 hb0; have E := Lib.hid E0; clear E0 hb0) | ((with_reducible refine kn_box_int E.out rfl rfl rfl ?_); clear E; intro g u E0 hb0; have E := Lib.hid E0; clear E0 hb0) | ((with_reducible refine kn_box_slice E.out rfl rfl rfl ?_); clear E; intro g u E0 hb0; have E := Lib.hid E0; clear E0 hb0) | ((with_reducible refine kn_box_bool E.out rfl rfl rfl ?_); clear E; intro g u E0 hb0; have E := Lib.hid E0; clear E0 hb0) | ((with_reducible refine kn_box_func E.out rfl rfl rfl ?_); clear E; intro g u E0 hb0; have E := Lib.hid E0; clear E0 hb0))
  obtain ⟨A, hAe⟩ : ∃ z, z = A1 := ⟨_, rfl⟩
  clear hAe
  go_loopw [28] (fun ci wr => ∃ (c : Nat) (A : Option Addr) (c0 : Nat) (xs : List Nat) (P : Nat) (b : Bool), c ≤ 4 ∧ ci = .int .i64 c ∧ (16 ≤ c0 ∧ c0 ≤ 9223372036854775807) ∧ Hid (SS f (goX X (2 * c)) (7 + 14 * c) xs P b) ∧ Hid (Kn w (wri gb ga gf A c0 P b [.row g8 49 [.int .i64 1, .int .i64 0, .int .i64 0, .int .i64 0, .int .i64 7, .int .i64 7, .int .i64 1, .int .i64 0, .int .i64 4, .int .i64 0], .row g5 35 (i64s W), .row g4 34 (i64s M), .row g3 33 (i64s X)]) [bsF A 16 xs] wr)) (fun ci _ => 4 - (intOf ci).toNat)
  case atStart => exact ⟨0, A1, c1, xs1, P1, b1, by omega, rfl, hc3, hS, E⟩
  case round =>
    clear E hS hc3 A
    obtain ⟨c, A, c0, xs, P, b, hc, rfl, hc0, hS, E⟩ := hrel
    by_cases hlt : c < 4
    · have hc4 : (c : Int) < 4 := by omega
      have hix := idx4 c hlt
      obtain ⟨x0, hx0⟩ : ∃ z, X.getD c 0 = z := ⟨_, rfl⟩
      obtain ⟨x1, hx1⟩ : ∃ z, X.getD (4 + c) 0 = z := ⟨_, rfl⟩
      have hb0 := HBX.out c
      have hb1 := HBX.out (4 + c)
      have hS1 := HX1.out c hlt
      have hS2 := HX2.out c hlt
      rw [hx0] at hb0 hS1
      rw [hx1] at hb1 hS2
      replace hx0 := Lib.hid hx0
      replace hx1 := Lib.hid hx1
      replace hS1 := Lib.hid hS1
      replace hS2 := Lib.hid hS2
      have hP : P + 7 ≤ 128 := by have := hS.out.le; omega
      have hl := hS.out.len
      clear HX1 HX2 HM1 HW1 H01 HXM HMW HD HBX HBM HBW HWQ HIW HIM hMo hm6
      go_wp2_with (first
        | ((with_reducible refine kn_loadi (g := g3) (i := c) E.out rfl rfl rfl ?hi ?_); (case hi => omega); rw [hx0.out])
        | ((with_reducible refine kn_loadi (g := g3) (i := 4 + c) E.out rfl rfl rfl ?hi ?_); (case hi => omega); rw [hx1.out])
        | (go_at_call 58; (first
            | (refine (put_any gb ga gf A c0 P 7 b x0 7 xs rfl E.out (by simp) (by omega) hP hb0 hl hc0).mono ?_; rintro e w3 ⟨rfl, A2, c2, xs2, P2, b2, hc2, hs, E0⟩; have hT := Lib.hid (hS1.out _ _ _ _ _ _ hS.out hs); have hP2 : P2 + 7 ≤ 128 := (by have := hT.out.le; omega); have hl2 := hT.out.len; clear E hs hS hS1 hP; have E := Lib.hid (E0.part _ [bsF A2 16 xs2] (List.Sublist.refl _) (by simp)); clear E0)
            | (refine (put_any gb ga gf A2 c2 P2 7 b2 x1 7 xs2 rfl E.out (by simp) (by omega) hP2 hb1 hl2 hc2).mono ?_; rintro e w3 ⟨rfl, A3, c3, xs3, P3, b3, hc3, hs, E0⟩; have hU := Lib.hid (hS2.out _ _ _ _ _ _ hT.out hs); clear E hs hT hS2; have E := Lib.hid (E0.part _ [bsF A3 16 xs3] (List.Sublist.refl _) (by simp)); clear E0)))
        | ((with_reducible refine kn_load E.out rfl rfl rfl rfl ?_)) | ((with_reducible refine kn_load_if E.out rfl rfl rfl rfl ?_)) | ((with_reducible refine kn_loads E.out rfl rfl rfl ?_ ?_); (focus (first | rfl | (simp only [i64s_length, u8s_length]; first | rfl | assumption | omega)))) | ((with_reducible refine kn_loads_if E.out rfl rfl rfl ?_ ?_); (focus (first | rfl | (simp only [i64s_length, u8s_length]; first | rfl | assumption | omega)))) | ((with_reducible refine kn_store1_int E.out rfl rfl rfl rfl rfl ?_); clear E; intro u E0; have E := Lib.hid E0; clear E0) | ((with_reducible refine kn_store1_slice E.out rfl rfl rfl rfl rfl ?_); clear E; intro u E0; have E := Lib.hid E0; clear E0) | ((with_reducible refine kn_store1_bool E.out rfl rfl rfl rfl rfl ?_); clear E; intro u E0; have E := Lib.hid E0; clear E0) | ((with_reducible refine kn_stores E.out rfl rfl rfl rfl rfl ?_ ?_ ?_); (focus (first | exact ⟨rfl, rfl⟩ | (simp only [i64s_length, u8s_length]; refine ⟨?_, ?_⟩ <;> first | rfl | assumption | omega))); (focus (first | exact i64s_one _ | exact u8s_one _ | simp [Value.oneCell'])); clear E; intro u E0; have E := Lib.hid E0; clear E0) | ((with_reducible refine kn_alloc E.out rfl rfl ?_); clear E; intro g u E0 hb0; have E := Lib.hid E0; clear E0 hb0) | ((with_reducible refine kn_box E.out rfl rfl rfl ?_); clear E; intro g u E0 hb0; have E := Lib.hid E0; clear E0 hb0) | ((with_reducible refine kn_box_int E.out rfl rfl rfl ?_); clear E; intro g u E0 hb0; have E := Lib.hid E0; clear E0 hb0) | ((with_reducible refine kn_box_slice E.out rfl rfl rfl ?_); clear E; intro g u E0 hb0; have E := Lib.hid E0; clear E0 hb0) | ((with_reducible refine kn_box_bool E.out rfl rfl rfl ?_); clear E; intro g u E0 hb0; have E := Lib.hid E0; clear E0 hb0) | ((with_reducible refine kn_box_func E.out rfl rfl rfl ?_); clear E; intro g u E0 hb0; have E := Lib.hid E0; clear E0 hb0))
      go_roundw
      case rel => exact ⟨c + 1, A3, c3, xs3, P3, b3, by omega, by go_num, hc3, hU, E⟩
      case measure => simp [intOf]; try omega
    · obtain rfl : c = 4 := by omega
      replace hS := Lib.hid (HXM.out _ _ _ hS.out)
      clear HX1 HX2 H01 HXM HBX hlt hm6 hMo
      go_wp2_with (first | ((with_reducible refine kn_load E.out rfl rfl rfl rfl ?_)) | ((with_reducible refine kn_load_if E.out rfl rfl rfl rfl ?_)) | ((with_reducible refine kn_loads E.out rfl rfl rfl ?_ ?_); (focus (first | rfl | (simp only [i64s_length, u8s_length]; first | rfl | assumption | omega)))) | ((with_reducible refine kn_loads_if E.out rfl rfl rfl ?_ ?_); (focus (first | rfl | (simp only [i64s_length, u8s_length]; first | rfl | assumption | omega)))) | ((with_reducible refine kn_store1_int E.out rfl rfl rfl rfl rfl ?_); clear E; intro u E0; have E := Lib.hid E0; clear E0) | ((with_reducible refine kn_store1_slice E.out rfl rfl rfl rfl rfl ?_); clear E; intro u E0; have E := Lib.hid E0; clear E0) | ((with_reducible refine kn_store1_bool E.out rfl rfl rfl rfl rfl ?_); clear E; intro u E0; have E := Lib.hid E0; clear E0) | ((with_reducible refine kn_stores E.out rfl rfl rfl rfl rfl ?_ ?_ ?_); (focus (first | exact ⟨rfl, rfl⟩ | (simp only [i64s_length, u8s_length]; refine ⟨?_, ?_⟩ <;> first | rfl | assumption | omega))); (focus (first | exact i64s_one _ | exact u8s_one _ | simp [Value.oneCell'])); clear E; intro u E0; have E := Lib.hid E0; clear E0) | ((with_reducible refine kn_alloc E.out rfl rfl ?_); clear E; intro g u E0 hb0; have E := Lib.hid E0; clear E0 hb0) | ((with_reducible refine kn_box E.out rfl rfl rfl ?_); clear E; intro g u E0 hb0; have E := Lib.hid E0; clear E0 hb0) | ((with_reducible refine kn_box_int E.out rfl rfl rfl ?_); clear E; intro g u E0 hb0; have E := Lib.hid E0; clear E0 hb0) | ((with_reducible refine kn_box_slice E.out rfl rfl rfl ?_); clear E; intro g u E0 hb0; have E := Lib.hid E0; clear E0 hb0) | ((with_reducible refine kn_box_bool E.out rfl rfl rfl ?_); clear E; intro g u E0 hb0; have E := Lib.hid E0; clear E0 hb0) | ((with_reducible refine kn_box_func E.out rfl rfl rfl ?_); clear E; intro g u E0 hb0; have E := Lib.hid E0; clear E0 hb0))
      go_loopw [48] (fun ci wr => ∃ (c : Nat) (A : Option Addr) (c0 : Nat) (xs : List Nat) (P : Nat) (b : Bool), c ≤ 2 ∧ ci = .int .i64 c ∧ (16 ≤ c0 ∧ c0 ≤ 9223372036854775807) ∧ Hid (SS f (goM X M c) (63 + c) xs P b) ∧ Hid (Kn w (wri gb ga gf A c0 P b [.row g8 49 [.int .i64 1, .int .i64 0, .int .i64 0, .int .i64 0, .int .i64 7, .int .i64 7, .int .i64 1, .int .i64 0, .int .i64 4, .int .i64 0], .row g5 35 (i64s W), .row g4 34 (i64s M), .row g3 33 (i64s X)]) [bsF A 16 xs] wr)) (fun ci _ => 2 - (intOf ci).toNat)
      case atStart => exact ⟨0, A, c0, xs, P, b, by omega, rfl, hc0, hS, E⟩
      case round =>
        clear E hS hc0 hc
        clear b P xs c0 A
        obtain ⟨c, A, c0, xs, P, b, hc, rfl, hc0, hS, E⟩ := hrel
        by_cases hlt : c < 2
        · have hc2 : (c : Int) < 2 := by omega
          have hix := HIM.out c hlt
          obtain ⟨x0, hx0⟩ : ∃ z, M.getD c 0 = z := ⟨_, rfl⟩
          have hb0 := HBM.out c
          have hS1 := HM1.out c hlt
          rw [hx0] at hb0 hS1 hix
          clear hx0
          replace hS1 := Lib.hid hS1
          have hP : P + 1 ≤ 128 := by have := hS.out.le; omega
          have hl := hS.out.len
          clear HM1 HW1 HMW HD HBM HBW HWQ HIW HIM
          go_wp2_with (first
            | (go_at_call 58; (refine (put_any gb ga gf A c0 P 1 b x0 1 xs rfl E.out (by simp) (by omega) hP hb0 hl hc0).mono ?_; rintro e w3 ⟨rfl, A2, c2, xs2, P2, b2, hc2, hs, E0⟩; have hT := Lib.hid (hS1.out _ _ _ _ _ _ hS.out hs); clear E hs hS hS1 hP; have E := Lib.hid (E0.part _ [bsF A2 16 xs2] (List.Sublist.refl _) (by simp)); clear E0))
            | ((with_reducible refine kn_load E.out rfl rfl rfl rfl ?_)) | ((with_reducible refine kn_load_if E.out rfl rfl rfl rfl ?_)) | ((with_reducible refine kn_loads E.out rfl rfl rfl ?_ ?_); (focus (first | rfl | (simp only [i64s_length, u8s_length]; first | rfl | assumption | omega)))) | ((with_reducible refine kn_loads_if E.out rfl rfl rfl ?_ ?_); (focus (first | rfl | (simp only [i64s_length, u8s_length]; first | rfl | assumption | omega)))) | ((with_reducible refine kn_store1_int E.out rfl rfl rfl rfl rfl ?_); clear E; intro u E0; have E := Lib.hid E0; clear E0) | ((with_reducible refine kn_store1_slice E.out rfl rfl rfl rfl rfl ?_); clear E; intro u E0; have E := Lib.hid E0; clear E0) | ((with_reducible refine kn_store1_bool E.out rfl rfl rfl rfl rfl ?_); clear E; intro u E0; have E := Lib.hid E0; clear E0) | ((with_reducible refine kn_stores E.out rfl rfl rfl rfl rfl ?_ ?_ ?_); (focus (first | exact ⟨rfl, rfl⟩ | (simp only [i64s_length, u8s_length]; refine ⟨?_, ?_⟩ <;> first | rfl | assumption | omega))); (focus (first | exact i64s_one _ | exact u8s_one _ | simp [Value.oneCell'])); clear E; intro u E0; have E := Lib.hid E0; clear E0) | ((with_reducible refine kn_alloc E.out rfl rfl ?_); clear E; intro g u E0 hb0; have E := Lib.hid E0; clear E0 hb0) | ((with_reducible refine kn_box E.out rfl rfl rfl ?_); clear E; intro g u E0 hb0; have E := Lib.hid E0; clear E0 hb0) | ((with_reducible refine kn_box_int E.out rfl rfl rfl ?_); clear E; intro g u E0 hb0; have E := Lib.hid E0; clear E0 hb0) | ((with_reducible refine kn_box_slice E.out rfl rfl rfl ?_); clear E; intro g u E0 hb0; have E := Lib.hid E0; clear E0 hb0) | ((with_reducible refine kn_box_bool E.out rfl rfl rfl ?_); clear E; intro g u E0 hb0; have E := Lib.hid E0; clear E0 hb0) | ((with_reducible refine kn_box_func E.out rfl rfl rfl ?_); clear E; intro g u E0 hb0; have E := Lib.hid E0; clear E0 hb0))
          go_roundw
          case rel => exact ⟨c + 1, A2, c2, xs2, P2, b2, by omega, by go_num, hc2, hT, E⟩
          case measure => simp [intOf]; try omega
        · obtain rfl : c = 2 := by omega
          replace hS := Lib.hid (HMW.out _ _ _ hS.out)
          clear HM1 HMW HBM HIM hlt
          go_wp2_with (first | ((with_reducible refine kn_load E.out rfl rfl rfl rfl ?_)) | ((with_reducible refine kn_load_if E.out rfl rfl rfl rfl ?_)) | ((with_reducible refine kn_loads E.out rfl rfl rfl ?_ ?_); (focus (first | rfl | (simp only [i64s_length, u8s_length]; first | rfl | assumption | omega)))) | ((with_reducible refine kn_loads_if E.out rfl rfl rfl ?_ ?_); (focus (first | rfl | (simp only [i64s_length, u8s_length]; first | rfl | assumption | omega)))) | ((with_reducible refine kn_store1_int E.out rfl rfl rfl rfl rfl ?_); clear E; intro u E0; have E := Lib.hid E0; clear E0) | ((with_reducible refine kn_store1_slice E.out rfl rfl rfl rfl rfl ?_); clear E; intro u E0; have E := Lib.hid E0; clear E0) | ((with_reducible refine kn_store1_bool E.out rfl rfl rfl rfl rfl ?_); clear E; intro u E0; have E := Lib.hid E0; clear E0) | ((with_reducible refine kn_stores E.out rfl rfl rfl rfl rfl ?_ ?_ ?_); (focus (first | exact ⟨rfl, rfl⟩ | (simp only [i64s_length, u8s_length]; refine ⟨?_, ?_⟩ <;> first | rfl | assumption | omega))); (focus (first | exact i64s_one _ | exact u8s_one _ | simp [Value.oneCell'])); clear E; intro u E0; have E := Lib.hid E0; clear E0) | ((with_reducible refine kn_alloc E.out rfl rfl ?_); clear E; intro g u E0 hb0; have E := Lib.hid E0; clear E0 hb0) | ((with_reducible refine kn_box E.out rfl rfl rfl ?_); clear E; intro g u E0 hb0; have E := Lib.hid E0; clear E0 hb0) | ((with_reducible refine kn_box_int E.out rfl rfl rfl ?_); clear E; intro g u E0 hb0; have E := Lib.hid E0; clear E0 hb0) | ((with_reducible refine kn_box_slice E.out rfl rfl rfl ?_); clear E; intro g u E0 hb0; have E := Lib.hid E0; clear E0 hb0) | ((with_reducible refine kn_box_bool E.out rfl rfl rfl ?_); clear E; intro g u E0 hb0; have E := Lib.hid E0; clear E0 hb0) | ((with_reducible refine kn_box_func E.out rfl rfl rfl ?_); clear E; intro g u E0 hb0; have E := Lib.hid E0; clear E0 hb0))
          go_loopw [58] (fun ci wr => ∃ (c : Nat) (A : Option Addr) (c0 : Nat) (xs : List Nat) (P : Nat) (b : Bool), c ≤ 16 ∧ ci = .int .i64 c ∧ (16 ≤ c0 ∧ c0 ≤ 9223372036854775807) ∧ Hid (SS f (goW X M W c) (wq c) xs P b) ∧ Hid (Kn w (wri gb ga gf A c0 P b [.row g8 49 [.int .i64 1, .int .i64 0, .int .i64 0, .int .i64 0, .int .i64 7, .int .i64 7, .int .i64 1, .int .i64 0, .int .i64 4, .int .i64 0], .row g5 35 (i64s W), .row g4 34 (i64s M), .row g3 33 (i64s X)]) [bsF A 16 xs] wr)) (fun ci _ => 16 - (intOf ci).toNat)
          case atStart => exact ⟨0, A, c0, xs, P, b, by omega, rfl, hc0, hS, E⟩
          case round =>
            clear E hS hc0 hc
            clear b P xs c0 A
            obtain ⟨c, A, c0, xs, P, b, hc, rfl, hc0, hS, E⟩ := hrel
            by_cases hlt : c < 16
            · have hc16 : (c : Int) < 16 := by omega
              have hix := HIW.out c hlt
              obtain ⟨x0, hx0⟩ : ∃ z, W.getD c 0 = z := ⟨_, rfl⟩
              have hb0 := HBW.out c
              have hS1 := HW1.out c hlt
              obtain ⟨hwq, hwb4⟩ := HWQ.out c hlt
              rw [hx0] at hb0 hS1 hix
              clear hx0
              replace hS1 := Lib.hid hS1
              have hP : P + wb c ≤ 128 := by have := hS.out.le; omega
              have hl := hS.out.len
              have hIB := Lib.hid (fun u => show Calls Tryd.prog 34 #[.int .i64 4, .bool ((c : Int) == 0)] u (fun e w' => e = .returned (.int .i64 ((wb c : Nat) : Int)) ∧ u = w') from by
                have h := indexBits_any 4 ((c : Int) == 0) u (by omega)
                have e : (4 : Int) - (B7.b1 ((c : Int) == 0) : Int) = ((wb c : Nat) : Int) := by
                  unfold wb B7.b1
                  by_cases h0 : c = 0
                  · subst h0; rfl
                  · have : ((c : Int) == 0) = false := by simp [h0]
                    rw [this, if_neg h0]
                    rfl
                rw [e] at h
                exact h)
              clear HW1 HD HBW HWQ HIW hwq
              generalize wb c = wbc at *
              go_wp2_with (first
                | (go_at_call 34; refine (hIB.out _).mono ?_; rintro e w2 ⟨rfl, rfl⟩)
                | (go_at_call 58; (refine (put_any gb ga gf A c0 P wbc b x0 wbc xs rfl E.out (by simp) (by omega) hP hb0 hl hc0).mono ?_; rintro e w3 ⟨rfl, A2, c2, xs2, P2, b2, hc2, hs, E0⟩; have hT := Lib.hid (hS1.out _ _ _ _ _ _ hS.out hs); clear E hs hS hS1 hP; have E := Lib.hid (E0.part _ [bsF A2 16 xs2] (List.Sublist.refl _) (by simp)); clear E0))
                | ((with_reducible refine kn_load E.out rfl rfl rfl rfl ?_)) | ((with_reducible refine kn_load_if E.out rfl rfl rfl rfl ?_)) | ((with_reducible refine kn_loads E.out rfl rfl rfl ?_ ?_); (focus (first | rfl | (simp only [i64s_length, u8s_length]; first | rfl | assumption | omega)))) | ((with_reducible refine kn_loads_if E.out rfl rfl rfl ?_ ?_); (focus (first | rfl | (simp only [i64s_length, u8s_length]; first | rfl | assumption | omega)))) | ((with_reducible refine kn_store1_int E.out rfl rfl rfl rfl rfl ?_); clear E; intro u E0; have E := Lib.hid E0; clear E0) | ((with_reducible refine kn_store1_slice E.out rfl rfl rfl rfl rfl ?_); clear E; intro u E0; have E := Lib.hid E0; clear E0) | ((with_reducible refine kn_store1_bool E.out rfl rfl rfl rfl rfl ?_); clear E; intro u E0; have E := Lib.hid E0; clear E0) | ((with_reducible refine kn_stores E.out rfl rfl rfl rfl rfl ?_ ?_ ?_); (focus (first | exact ⟨rfl, rfl⟩ | (simp only [i64s_length, u8s_length]; refine ⟨?_, ?_⟩ <;> first | rfl | assumption | omega))); (focus (first | exact i64s_one _ | exact u8s_one _ | simp [Value.oneCell'])); clear E; intro u E0; have E := Lib.hid E0; clear E0) | ((with_reducible refine kn_alloc E.out rfl rfl ?_); clear E; intro g u E0 hb0; have E := Lib.hid E0; clear E0 hb0) | ((with_reducible refine kn_box E.out rfl rfl rfl ?_); clear E; intro g u E0 hb0; have E := Lib.hid E0; clear E0 hb0) | ((with_reducible refine kn_box_int E.out rfl rfl rfl ?_); clear E; intro g u E0 hb0; have E := Lib.hid E0; clear E0 hb0) | ((with_reducible refine kn_box_slice E.out rfl rfl rfl ?_); clear E; intro g u E0 hb0; have E := Lib.hid E0; clear E0 hb0) | ((with_reducible refine kn_box_bool E.out rfl rfl rfl ?_); clear E; intro g u E0 hb0; have E := Lib.hid E0; clear E0 hb0) | ((with_reducible refine kn_box_func E.out rfl rfl rfl ?_); clear E; intro g u E0 hb0; have E := Lib.hid E0; clear E0 hb0))
              go_roundw
              case rel => exact ⟨c + 1, A2, c2, xs2, P2, b2, by omega, by go_num, hc2, hT, E⟩
              case measure => simp [intOf]; try omega
            · obtain rfl : c = 16 := by omega
              have hD := HD.out _ _ _ hS.out
              have hl := hS.out.len
              clear HW1 HD HBW HWQ HIW hlt hS
              rcases hD with ⟨rfl, rfl, rfl⟩ | ⟨rfl, rfl, rfl⟩
              · go_wp2_with (first
                  | (go_at_call 59; refine (block_yes gb ga gf A c0 P E.out).mono ?_; rintro e w2 ⟨rfl, rfl⟩)
                  | ((with_reducible refine kn_load E.out rfl rfl rfl rfl ?_)) | ((with_reducible refine kn_load_if E.out rfl rfl rfl rfl ?_)) | ((with_reducible refine kn_loads E.out rfl rfl rfl ?_ ?_); (focus (first | rfl | (simp only [i64s_length, u8s_length]; first | rfl | assumption | omega)))) | ((with_reducible refine kn_loads_if E.out rfl rfl rfl ?_ ?_); (focus (first | rfl | (simp only [i64s_length, u8s_length]; first | rfl | assumption | omega)))) | ((with_reducible refine kn_store1_int E.out rfl rfl rfl rfl rfl ?_); clear E; intro u E0; have E := Lib.hid E0; clear E0) | ((with_reducible refine kn_store1_slice E.out rfl rfl rfl rfl rfl ?_); clear E; intro u E0; have E := Lib.hid E0; clear E0) | ((with_reducible refine kn_store1_bool E.out rfl rfl rfl rfl rfl ?_); clear E; intro u E0; have E := Lib.hid E0; clear E0) | ((with_reducible refine kn_stores E.out rfl rfl rfl rfl rfl ?_ ?_ ?_); (focus (first | exact ⟨rfl, rfl⟩ | (simp only [i64s_length, u8s_length]; refine ⟨?_, ?_⟩ <;> first | rfl | assumption | omega))); (focus (first | exact i64s_one _ | exact u8s_one _ | simp [Value.oneCell'])); clear E; intro u E0; have E := Lib.hid E0; clear E0) | ((with_reducible refine kn_alloc E.out rfl rfl ?_); clear E; intro g u E0 hb0; have E := Lib.hid E0; clear E0 hb0) | ((with_reducible refine kn_box E.out rfl rfl rfl ?_); clear E; intro g u E0 hb0; have E := Lib.hid E0; clear E0 hb0) | ((with_reducible refine kn_box_int E.out rfl rfl rfl ?_); clear E; intro g u E0 hb0; have E := Lib.hid E0; clear E0 hb0) | ((with_reducible refine kn_box_slice E.out rfl rfl rfl ?_); clear E; intro g u E0 hb0; have E := Lib.hid E0; clear E0 hb0) | ((with_reducible refine kn_box_bool E.out rfl rfl rfl ?_); clear E; intro g u E0 hb0; have E := Lib.hid E0; clear E0 hb0) | ((with_reducible refine kn_box_func E.out rfl rfl rfl ?_); clear E; intro g u E0 hb0; have E := Lib.hid E0; clear E0 hb0))
                go_ret2
                exact ⟨A, 16, c0, rfl, E.out.bs (by simp), hc0.1, hc0.2, E.out.bel⟩
              · go_wp2_with (first
                  | (go_at_call 59; refine (block_no gb ga gf A c0 P E.out).mono ?_; rintro e w2 ⟨rfl, rfl⟩)
                  | ((with_reducible refine kn_load E.out rfl rfl rfl rfl ?_)) | ((with_reducible refine kn_load_if E.out rfl rfl rfl rfl ?_)) | ((with_reducible refine kn_loads E.out rfl rfl rfl ?_ ?_); (focus (first | rfl | (simp only [i64s_length, u8s_length]; first | rfl | assumption | omega)))) | ((with_reducible refine kn_loads_if E.out rfl rfl rfl ?_ ?_); (focus (first | rfl | (simp only [i64s_length, u8s_length]; first | rfl | assumption | omega)))) | ((with_reducible refine kn_store1_int E.out rfl rfl rfl rfl rfl ?_); clear E; intro u E0; have E := Lib.hid E0; clear E0) | ((with_reducible refine kn_store1_slice E.out rfl rfl rfl rfl rfl ?_); clear E; intro u E0; have E := Lib.hid E0; clear E0) | ((with_reducible refine kn_store1_bool E.out rfl rfl rfl rfl rfl ?_); clear E; intro u E0; have E := Lib.hid E0; clear E0) | ((with_reducible refine kn_stores E.out rfl rfl rfl rfl rfl ?_ ?_ ?_); (focus (first | exact ⟨rfl, rfl⟩ | (simp only [i64s_length, u8s_length]; refine ⟨?_, ?_⟩ <;> first | rfl | assumption | omega))); (focus (first | exact i64s_one _ | exact u8s_one _ | simp [Value.oneCell'])); clear E; intro u E0; have E := Lib.hid E0; clear E0) | ((with_reducible refine kn_alloc E.out rfl rfl ?_); clear E; intro g u E0 hb0; have E := Lib.hid E0; clear E0 hb0) | ((with_reducible refine kn_box E.out rfl rfl rfl ?_); clear E; intro g u E0 hb0; have E := Lib.hid E0; clear E0 hb0) | ((with_reducible refine kn_box_int E.out rfl rfl rfl ?_); clear E; intro g u E0 hb0; have E := Lib.hid E0; clear E0 hb0) | ((with_reducible refine kn_box_slice E.out rfl rfl rfl ?_); clear E; intro g u E0 hb0; have E := Lib.hid E0; clear E0 hb0) | ((with_reducible refine kn_box_bool E.out rfl rfl rfl ?_); clear E; intro g u E0 hb0; have E := Lib.hid E0; clear E0 hb0) | ((with_reducible refine kn_box_func E.out rfl rfl rfl ?_); clear E; intro g u E0 hb0; have E := Lib.hid E0; clear E0 hb0))
                go_ret2
                exact ⟨none, 0, 0, rfl, ⟨rfl, by simp, fun h => absurd h (by omega)⟩, by omega, by omega, E.out.bel⟩
end Go.Proofs.YtnoailihkjccbaaDoor
