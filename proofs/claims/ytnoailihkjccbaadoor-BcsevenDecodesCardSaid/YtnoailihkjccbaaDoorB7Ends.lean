/- The endpoints of a block, taken. -/
import Derived.Test.YtnoailihkjccbaaDoorB7Take
set_option linter.all false
namespace Go.Proofs.YtnoailihkjccbaaDoor
open Go.RowKit
open Bi Lv Bt B7

/-- Numbers into a part of an array of numbers, at the single operation. -/
theorem wp_kn_storep {w u : World} {R R' : List Res} {F : List (World → Prop)} {o : Oper} {a : Act} {Q : Exit → Act → World → Prop} {K : Act → World → Prop} (E : Kn w R F u) {ty : TypeId} {x y : Operand} (ho : o.op = .store ty x y) (hd : o.dst = none) {g off : Nat} (hx : a.eval x = .pointer (some ⟨g, off, none⟩)) {ys : List Int} (hy : a.eval y = arr ys) {t : TypeId} {zs : List Int} [H : HasRow R g t (i64s zs)] {m : Nat} [A : Aggr ty m] (hl : ys.length = m) (hm : off + m ≤ zs.length)
    [T : Turn R (.row g t (i64s zs)) (.row g t (i64s (spl zs off ys))) R'] (h : ∀ u', Kn w R' F u' → K a u') : o.wp Tryd.prog a u K Q := by
  have hr := (E.res _ H.h)
  refine wp_store_mid ty x y ho g off _ hx hy (by simpa [i64s_length] using hr.2.there_ off ys.length (by omega)) (by rw [A.size, ← hl]; simp [i64s]) (all_oneCell_toArray (i64s_one ys)) ?_
  rw [hd]
  have ht := RowTo.of_cells g t ys zs off u hr.2
  refine h _ (E.turned (r := .row g t (i64s zs)) (r' := .row g t (i64s (spl zs off ys))) ?_ ⟨hr.1, ht.row⟩ (.inl rfl))
  have hb := ht.below 0 u (Nat.zero_le _) (Below.refl 0 u)
  exact ⟨hb.os, hb.tape, hb.output, Nat.le_of_eq ht.size.symm, fun k _ hk => ht.other k fun e => hk (by rw [e]; rfl)⟩

namespace B7
/-- The p-bit that the loop holds ahead of endpoint i. -/
def moB (m : Md) (xs : List Nat) (q : Nat) : Nat → Int
  | 0 => 0
  | i + 1 => mo m xs q i
theorem mpos_yes (m : Md) (q i : Nat) (h : i % 2 = 0 ∨ m.O = 0) (h1 : m.E + m.O ≤ 1) : mpos m q i = mat m q i ∧ mpos m q (i + 1) = mat m q i + ex m := by
  unfold mpos mat ex
  by_cases hO : m.O = 0
  · rw [if_pos hO, if_pos hO, if_pos hO, hO, Nat.succ_mul]
    omega
  · rw [if_neg hO, if_neg hO, if_neg hO]
    omega
theorem mpos_no (m : Md) (xs : List Nat) (q i : Nat) (h : ¬ i % 2 = 0) (hO : ¬ m.O = 0) : mpos m q (i + 1) = mpos m q i ∧ moB m xs q i = mo m xs q i := by
  obtain ⟨j, rfl⟩ : ∃ j, i = j + 1 := ⟨i - 1, by omega⟩
  refine ⟨?_, ?_⟩
  · unfold mpos
    rw [if_neg hO, if_neg hO]
    omega
  · show mo m xs q j = mo m xs q (j + 1)
    unfold mo mat
    rw [if_neg hO, if_neg hO, show (j + 1) / 2 = j / 2 by omega]
theorem mpos_mono (m : Md) (q i j : Nat) (h : i ≤ j) : mpos m q i ≤ mpos m q j := by
  unfold mpos
  have := Nat.mul_le_mul_right m.E h
  split <;> omega
theorem num_bd (m : Md) (xs : List Nat) (p i c : Nat) (hL : m.L ≤ 8) (hA : m.A ≤ 8) : 0 ≤ num m xs p i c ∧ num m xs p i c < 256 := by
  have h := getN_lt xs false (cb m p c + i * wd m c) (wd m c) 8 (by unfold wd; split <;> omega)
  unfold num G
  omega
theorem nums_bd (m : Md) (xs : List Nat) (p i j : Nat) (hL : m.L ≤ 8) (hA : m.A ≤ 8) : 0 ≤ (nums m xs p i).getD j 0 ∧ (nums m xs p i).getD j 0 < 256 := by
  match j with
  | 0 => exact num_bd m xs p i 0 hL hA
  | 1 => exact num_bd m xs p i 1 hL hA
  | 2 => exact num_bd m xs p i 2 hL hA
  | 3 => exact num_bd m xs p i 3 hL hA
  | j + 4 => simp [nums]
end B7

set_option maxHeartbeats 8000000 in
set_option maxRecDepth 100000 in
theorem takeEnds_any {w u : World} {R : List Res} {F : List (World → Prop)} (gb ga : Nat) (A : Option Addr) (c0 : Nat) (xs : List Nat) (p : Nat) (m : Md) (E0 : Kn w (.row ga 3 [.int .i64 (p : Int)] :: R) F u) (hb : rowF gb 22 [.slice A 16 c0] ∈ F) (hx : bsF A 16 xs ∈ F)
    (hP1 : 1 ≤ m.P) (hP3 : m.P ≤ 3) (hE : m.E + m.O ≤ 1) (hL : m.L ≤ 8) (hA : m.A ≤ 8) (hq : mpos m (cb m p 4) (2 * m.P) ≤ 128) :
    Calls Tryd.prog 41 #[(.agg #[.int .i64 (m.P : Int), .int .i64 (m.W : Int), .int .i64 (m.T : Int), .int .i64 (m.C : Int), .int .i64 (m.L : Int), .int .i64 (m.A : Int), .int .i64 (m.E : Int), .int .i64 (m.O : Int), .int .i64 (m.F : Int), .int .i64 (m.S : Int)]), .func (.func 48) #[] #[.pointer (some ⟨gb, 0, none⟩), .pointer (some ⟨ga, 0, none⟩)]] u
      fun e u1 => e = .returned (arr (enV m xs p)) ∧ Kn w (.row ga 3 [.int .i64 ((mpos m (cb m p 4) (2 * m.P) : Nat) : Int)] :: R) F u1 := by
  have E := Lib.hid E0
  have hW := Lib.hid (fun u => widths_any m u)
  have hMB := Lib.hid (fun u => moreBits_any m hE u)
  have HIX := Lib.hid (fun (j : Nat) (hj : j < 4) (u : World) => run_index_i64 (P := Tryd.prog) 24 3 4 Tryd.underlying24 Tryd.underlying3 (by kernel_rfl) (wds m) j hj rfl u)
  have HG := Lib.hid (wds_get m)
  have HWD := Lib.hid (fun c => show wd m c ≤ 8 from by unfold wd; split <;> omega)
  have h4 : cb m p 4 ≤ 128 := Nat.le_trans (show cb m p 4 ≤ mpos m (cb m p 4) (2 * m.P) from by unfold mpos; split <;> omega) hq
  have HP := Lib.hid (fun c i (hc : c < 4) (hi : i < 2 * m.P) => show cb m p c + i * wd m c + wd m c ≤ 128 ∧ cb m p c + (i + 1) * wd m c = cb m p c + i * wd m c + wd m c from
    ⟨Nat.le_trans (cb_in m p c i hi) (Nat.le_trans (cb_mono m p (c + 1) 4 hc) h4), by rw [Nat.succ_mul]; omega⟩)
  have HN := Lib.hid (fun c => show cb m p c + 2 * m.P * wd m c = cb m p (c + 1) from rfl)
  have HZ := Lib.hid (nuP_zero m xs p)
  have HNS := Lib.hid (fun c i (hi : i < 2 * m.P) (hc : c < 4) => show (nuP m xs p c i).set (i * 4 + c) ((getN xs false (cb m p c + i * wd m c) (wd m c) : Nat) : Int) = nuP m xs p c (i + 1) from nuP_set m xs p c i hi hc)
  have HNN := Lib.hid (nuP_next m xs p)
  have HNL := Lib.hid (nuP_length m xs p)
  have HR := Lib.hid (fun i (hi : i < 2 * m.P) => nuP_row m xs p i hP3 hi)
  have HCo := Lib.hid (fun i (u : World) => show Calls Tryd.prog 36 #[(.agg #[.int .i64 (m.P : Int), .int .i64 (m.W : Int), .int .i64 (m.T : Int), .int .i64 (m.C : Int), .int .i64 (m.L : Int), .int .i64 (m.A : Int), .int .i64 (m.E : Int), .int .i64 (m.O : Int), .int .i64 (m.F : Int), .int .i64 (m.S : Int)]), arr (nums m xs p i), .int .i64 (mo m xs (cb m p 4) i)] u (fun e w' => e = .returned (arr (epV m xs p i)) ∧ Below u.heap.size u w') from
    colour_any m (nums m xs p i) (mo m xs (cb m p 4) i) u rfl (fun j => nums_bd m xs p i j hL hA) (G_lt _ _ _) hE hL hA)
  have HEL := Lib.hid (fun i => epV_length m xs p i)
  have HF0 := Lib.hid (show fl z24 (epV m xs p) 0 = z24 from rfl)
  have HFS := Lib.hid (fun k => show fl z24 (epV m xs p) (k + 1) = spl (fl z24 (epV m xs p) k) (k * 4) (epV m xs p k) from rfl)
  have HFL := Lib.hid (fun k => show (fl z24 (epV m xs p) k).length = 24 from by rw [fl_length]; exact z24_length)
  have HYES := Lib.hid (fun i (h : i % 2 = 0 ∨ m.O = 0) => mpos_yes m (cb m p 4) i h hE)
  have HNO := Lib.hid (fun i (h : ¬ i % 2 = 0) (hO : ¬ m.O = 0) => mpos_no m xs (cb m p 4) i h hO)
  have HMM := Lib.hid (fun i (hi : i < 2 * m.P) => Nat.le_trans (mpos_mono m (cb m p 4) (i + 1) (2 * m.P) hi) hq)
  have HM0 := Lib.hid (show mpos m (cb m p 4) 0 = cb m p 4 from by unfold mpos; split <;> simp)
  have HMO := Lib.hid (fun i => show moB m xs (cb m p 4) (i + 1) = ((getN xs false (mat m (cb m p 4) i) (ex m) : Nat) : Int) ∧ mo m xs (cb m p 4) i = moB m xs (cb m p 4) (i + 1) from ⟨rfl, rfl⟩)
  have HB0 := Lib.hid (show moB m xs (cb m p 4) 0 = 0 from rfl)
  have HC0 : cb m p 0 = p := rfl
  have hex : ex m ≤ 1 := hE
  have hO1 : m.O ≤ 1 := by omega
  have HEN := Lib.hid (show fl z24 (epV m xs p) (2 * m.P) = enV m xs p from rfl)
  clear hL hA hq h4 hE E0
  generalize mpos m (cb m p 4) = MP at *
  generalize mat m (cb m p 4) = MT at *
  generalize moB m xs (cb m p 4) = MB at *
  generalize mo m xs (cb m p 4) = MO at *
  generalize fl z24 (epV m xs p) = FL at *
  generalize epV m xs p = EP at *
  generalize nums m xs p = NU at *
  generalize nuP m xs p = NP at *
  generalize enV m xs p = EN at *
  generalize wds m = WS at *
  generalize ex m = EX at *
  generalize cb m p = CB at *
  generalize wd m = WD at *
  go_enter Tryd.func41, Tryd.ntmps41
  go_wp2_with (first
    | (go_at_call 33; refine (hW.out _).mono ?_; clear hW; rintro e w2 ⟨rfl, hb⟩; have E1 := Lib.hid (E.out.later hb); clear hb E; have E := E1; clear E1)
    | ((with_reducible refine kn_load E.out rfl rfl rfl rfl ?_)) | ((with_reducible refine kn_load_if E.out rfl rfl rfl rfl ?_)) | ((with_reducible refine kn_loads E.out rfl rfl rfl ?_ ?_); (focus (first | rfl | (simp only [i64s_length, u8s_length]; first | rfl | assumption | omega)))) | ((with_reducible refine kn_loads_if E.out rfl rfl rfl ?_ ?_); (focus (first | rfl | (simp only [i64s_length, u8s_length]; first | rfl | assumption | omega)))) | ((with_reducible refine kn_store1_int E.out rfl rfl rfl rfl rfl ?_); clear E; intro u E0; have E := Lib.hid E0; clear E0) | ((with_reducible refine kn_store1_slice E.out rfl rfl rfl rfl rfl ?_); clear E; intro u E0; have E := Lib.hid E0; clear E0) | ((with_reducible refine kn_store1_bool E.out rfl rfl rfl rfl rfl ?_); clear E; intro u E0; have E := Lib.hid E0; clear E0) | ((with_reducible refine kn_stores E.out rfl rfl rfl rfl rfl ?_ ?_ ?_); (focus (first | exact ⟨rfl, rfl⟩ | (simp only [i64s_length, u8s_length]; refine ⟨?_, ?_⟩ <;> first | rfl | assumption | omega))); (focus (first | exact i64s_one _ | exact u8s_one _ | simp [Value.oneCell'])); clear E; intro u E0; have E := Lib.hid E0; clear E0) | ((with_reducible refine kn_alloc (o := ⟨some 2, _, _, _, _, _⟩) E.out rfl rfl ?_); clear E; intro g2 u E0 hb0; have E := Lib.hid E0; clear E0 hb0) | ((with_reducible refine kn_box (o := ⟨some 2, _, _, _, _, _⟩) E.out rfl rfl rfl ?_); clear E; intro g2 u E0 hb0; have E := Lib.hid E0; clear E0 hb0) | ((with_reducible refine kn_box_int (o := ⟨some 2, _, _, _, _, _⟩) E.out rfl rfl rfl ?_); clear E; intro g2 u E0 hb0; have E := Lib.hid E0; clear E0 hb0) | ((with_reducible refine kn_box_slice (o := ⟨some 2, _, _, _, _, _⟩) E.out rfl rfl rfl ?_); clear E; intro g2 u E0 hb0; have E := Lib.hid E0; clear E0 hb0) | ((with_reducible refine kn_box_bool (o := ⟨some 2, _, _, _, _, _⟩) E.out rfl rfl rfl ?_); clear E; intro g2 u E0 hb0; have E := Lib.hid E0; clear E0 hb0) | ((with_reducible refine kn_box_func (o := ⟨some 2, _, _, _, _, _⟩) E.out rfl rfl rfl ?_); clear E; intro g2 u E0 hb0; have E := Lib.hid E0; clear E0 hb0) | ((with_reducible refine kn_alloc (o := ⟨some 4, _, _, _, _, _⟩) E.out rfl rfl ?_); clear E; intro g4 u E0 hb0; have E := Lib.hid E0; clear E0 hb0) | ((with_reducible refine kn_box (o := ⟨some 4, _, _, _, _, _⟩) E.out rfl rfl rfl ?_); clear E; intro g4 u E0 hb0; have E := Lib.hid E0; clear E0 hb0) | ((with_reducible refine kn_box_int (o := ⟨some 4, _, _, _, _, _⟩) E.out rfl rfl rfl ?_); clear E; intro g4 u E0 hb0; have E := Lib.hid E0; clear E0 hb0) | ((with_reducible refine kn_box_slice (o := ⟨some 4, _, _, _, _, _⟩) E.out rfl rfl rfl ?_); clear E; intro g4 u E0 hb0; have E := Lib.hid E0; clear E0 hb0) | ((with_reducible refine kn_box_bool (o := ⟨some 4, _, _, _, _, _⟩) E.out rfl rfl rfl ?_); clear E; intro g4 u E0 hb0; have E := Lib.hid E0; clear E0 hb0) | ((with_reducible refine kn_box_func (o := ⟨some 4, _, _, _, _, _⟩) E.out rfl rfl rfl ?_); clear E; intro g4 u E0 hb0; have E := Lib.hid E0; clear E0 hb0) | ((with_reducible refine kn_alloc (o := ⟨some 5, _, _, _, _, _⟩) E.out rfl rfl ?_); clear E; intro g5 u E0 hb0; have E := Lib.hid E0; clear E0 hb0) | ((with_reducible refine kn_box (o := ⟨some 5, _, _, _, _, _⟩) E.out rfl rfl rfl ?_); clear E; intro g5 u E0 hb0; have E := Lib.hid E0; clear E0 hb0) | ((with_reducible refine kn_box_int (o := ⟨some 5, _, _, _, _, _⟩) E.out rfl rfl rfl ?_); clear E; intro g5 u E0 hb0; have E := Lib.hid E0; clear E0 hb0) | ((with_reducible refine kn_box_slice (o := ⟨some 5, _, _, _, _, _⟩) E.out rfl rfl rfl ?_); clear E; intro g5 u E0 hb0; have E := Lib.hid E0; clear E0 hb0) | ((with_reducible refine kn_box_bool (o := ⟨some 5, _, _, _, _, _⟩) E.out rfl rfl rfl ?_); clear E; intro g5 u E0 hb0; have E := Lib.hid E0; clear E0 hb0) | ((with_reducible refine kn_box_func (o := ⟨some 5, _, _, _, _, _⟩) E.out rfl rfl rfl ?_); clear E; intro g5 u E0 hb0; have E := Lib.hid E0; clear E0 hb0) | ((with_reducible refine kn_alloc E.out rfl rfl ?_); clear E; intro g u E0 hb0; have E := Lib.hid E0; clear E0 hb0) | ((with_reducible refine kn_box E.out rfl rfl rfl ?_); clear E; intro g u E0 hb0; have E := Lib.hid E0; clear E0 hb0) | ((with_reducible refine kn_box_int E.out rfl rfl rfl ?_); clear E; intro g u E0 hb0; have E := Lib.hid E0; clear E0 hb0) | ((with_reducible refine kn_box_slice E.out rfl rfl rfl ?_); clear E; intro g u E0 hb0; have E := Lib.hid E0; clear E0 hb0) | ((with_reducible refine kn_box_bool E.out rfl rfl rfl ?_); clear E; intro g u E0 hb0; have E := Lib.hid E0; clear E0 hb0) | ((with_reducible refine kn_box_func E.out rfl rfl rfl ?_); clear E; intro g u E0 hb0; have E := Lib.hid E0; clear E0 hb0))
  go_loopw [18] (fun ci wr => ∃ c : Nat, c ≤ 4 ∧ ci = .int .i64 c ∧ Hid (Kn w (.row g5 97 (i64s (NP c 0)) :: .row g4 78 (i64s z24) :: .row g2 49 [.int .i64 (m.P : Int), .int .i64 (m.W : Int), .int .i64 (m.T : Int), .int .i64 (m.C : Int), .int .i64 (m.L : Int), .int .i64 (m.A : Int), .int .i64 (m.E : Int), .int .i64 (m.O : Int), .int .i64 (m.F : Int), .int .i64 (m.S : Int)] :: .row ga 3 [.int .i64 ((CB c : Nat) : Int)] :: R) F wr)) (fun ci _ => 4 - (intOf ci).toNat)
  case atStart => exact ⟨0, by omega, rfl, by rw [HZ.out, HC0]; exact E⟩
  case round =>
    clear E
    obtain ⟨c, hc, rfl, E⟩ := hrel
    by_cases hlt : c < 4
    · have hc4 : (c : Int) < 4 := by omega
      have hix := HIX.out c hlt
      rw [HG.out c hlt] at hix
      have hwd := HWD.out c
      have HP' := Lib.hid (fun i => HP.out c i hlt)
      have hN := Lib.hid (HN.out c)
      have HNS' := Lib.hid (fun i (hi : i < 2 * m.P) => HNS.out c i hi hlt)
      have hNN := Lib.hid (HNN.out c)
      have HNL' := Lib.hid (HNL.out c)
      clear HIX HG HWD HP HN HNS HNN HNL HR HCo HEL HF0 HFS HFL HYES HNO HMM HM0 HMO HB0 HC0 HEN hMB HZ
      generalize WD c = wdc at *
      obtain ⟨cn, hcn⟩ : ∃ z, CB (c + 1) = z := ⟨_, rfl⟩
      rw [hcn] at hN
      replace hcn := Lib.hid hcn
      generalize CB c = cbc at *
      go_wp2_with (first | ((with_reducible refine kn_load E.out rfl rfl rfl rfl ?_)) | ((with_reducible refine kn_load_if E.out rfl rfl rfl rfl ?_)) | ((with_reducible refine kn_loads E.out rfl rfl rfl ?_ ?_); (focus (first | rfl | (simp only [i64s_length, u8s_length]; first | rfl | assumption | omega)))) | ((with_reducible refine kn_loads_if E.out rfl rfl rfl ?_ ?_); (focus (first | rfl | (simp only [i64s_length, u8s_length]; first | rfl | assumption | omega)))) | ((with_reducible refine kn_store1_int E.out rfl rfl rfl rfl rfl ?_); clear E; intro u E0; have E := Lib.hid E0; clear E0) | ((with_reducible refine kn_store1_slice E.out rfl rfl rfl rfl rfl ?_); clear E; intro u E0; have E := Lib.hid E0; clear E0) | ((with_reducible refine kn_store1_bool E.out rfl rfl rfl rfl rfl ?_); clear E; intro u E0; have E := Lib.hid E0; clear E0) | ((with_reducible refine kn_stores E.out rfl rfl rfl rfl rfl ?_ ?_ ?_); (focus (first | exact ⟨rfl, rfl⟩ | (simp only [i64s_length, u8s_length]; refine ⟨?_, ?_⟩ <;> first | rfl | assumption | omega))); (focus (first | exact i64s_one _ | exact u8s_one _ | simp [Value.oneCell'])); clear E; intro u E0; have E := Lib.hid E0; clear E0) | ((with_reducible refine kn_alloc E.out rfl rfl ?_); clear E; intro g u E0 hb0; have E := Lib.hid E0; clear E0 hb0) | ((with_reducible refine kn_box E.out rfl rfl rfl ?_); clear E; intro g u E0 hb0; have E := Lib.hid E0; clear E0 hb0) | ((with_reducible refine kn_box_int E.out rfl rfl rfl ?_); clear E; intro g u E0 hb0; have E := Lib.hid E0; clear E0 hb0) | ((with_reducible refine kn_box_slice E.out rfl rfl rfl ?_); clear E; intro g u E0 hb0; have E := Lib.hid E0; clear E0 hb0) | ((with_reducible refine kn_box_bool E.out rfl rfl rfl ?_); clear E; intro g u E0 hb0; have E := Lib.hid E0; clear E0 hb0) | ((with_reducible refine kn_box_func E.out rfl rfl rfl ?_); clear E; intro g u E0 hb0; have E := Lib.hid E0; clear E0 hb0))
      go_loopw [23] (fun ii wr => ∃ i : Nat, i ≤ 2 * m.P ∧ ii = .int .i64 i ∧ Hid (Kn w (.row g5 97 (i64s (NP c i)) :: .row g4 78 (i64s z24) :: .row g2 49 [.int .i64 (m.P : Int), .int .i64 (m.W : Int), .int .i64 (m.T : Int), .int .i64 (m.C : Int), .int .i64 (m.L : Int), .int .i64 (m.A : Int), .int .i64 (m.E : Int), .int .i64 (m.O : Int), .int .i64 (m.F : Int), .int .i64 (m.S : Int)] :: .row ga 3 [.int .i64 ((cbc + i * wdc : Nat) : Int)] :: R) F wr)) (fun ii _ => 6 - (intOf ii).toNat)
      case atStart => exact ⟨0, by omega, rfl, by rw [Nat.zero_mul, Nat.add_zero]; exact E⟩
      case round =>
        clear E
        obtain ⟨i, hi, rfl, E⟩ := hrel
        by_cases hlt2 : i < 2 * m.P
        · obtain ⟨hp0, hz0⟩ := HP'.out i hlt2
          have hi6 : (i : Int) < 6 := by omega
          have hp := Lib.hid hp0
          have hS := Lib.hid (HNS'.out i hlt2)
          have hnl := HNL'.out i
          have hz := Lib.hid (show ((cbc + (i + 1) * wdc : Nat) : Int) = ((cbc + i * wdc : Nat) : Int) + (wdc : Int) from by rw [hz0]; omega)
          obtain ⟨pk1, hpk1⟩ : ∃ z, cbc + (i + 1) * wdc = z := ⟨_, rfl⟩
          rw [hpk1] at hz
          replace hpk1 := Lib.hid hpk1
          clear hp0 hz0 HP' HNS' HNL'
          generalize cbc + i * wdc = pk at *
          obtain ⟨V, hV⟩ : ∃ z, getN xs false pk wdc = z := ⟨_, rfl⟩
          rw [hV] at hS
          replace hV := Lib.hid hV
          go_wp2_with (first | ((with_reducible refine kn_load E.out rfl rfl rfl rfl ?_)) | ((with_reducible refine kn_load_if E.out rfl rfl rfl rfl ?_)) | ((with_reducible refine kn_loads E.out rfl rfl rfl ?_ ?_); (focus (first | rfl | (simp only [i64s_length, u8s_length]; first | rfl | assumption | omega)))) | ((with_reducible refine kn_loads_if E.out rfl rfl rfl ?_ ?_); (focus (first | rfl | (simp only [i64s_length, u8s_length]; first | rfl | assumption | omega)))) | ((with_reducible refine kn_store1_int E.out rfl rfl rfl rfl rfl ?_); clear E; intro u E0; have E := Lib.hid E0; clear E0) | ((with_reducible refine kn_store1_slice E.out rfl rfl rfl rfl rfl ?_); clear E; intro u E0; have E := Lib.hid E0; clear E0) | ((with_reducible refine kn_store1_bool E.out rfl rfl rfl rfl rfl ?_); clear E; intro u E0; have E := Lib.hid E0; clear E0) | ((with_reducible refine kn_stores E.out rfl rfl rfl rfl rfl ?_ ?_ ?_); (focus (first | exact ⟨rfl, rfl⟩ | (simp only [i64s_length, u8s_length]; refine ⟨?_, ?_⟩ <;> first | rfl | assumption | omega))); (focus (first | exact i64s_one _ | exact u8s_one _ | simp [Value.oneCell'])); clear E; intro u E0; have E := Lib.hid E0; clear E0) | ((with_reducible refine kn_alloc E.out rfl rfl ?_); clear E; intro g u E0 hb0; have E := Lib.hid E0; clear E0 hb0) | ((with_reducible refine kn_box E.out rfl rfl rfl ?_); clear E; intro g u E0 hb0; have E := Lib.hid E0; clear E0 hb0) | ((with_reducible refine kn_box_int E.out rfl rfl rfl ?_); clear E; intro g u E0 hb0; have E := Lib.hid E0; clear E0 hb0) | ((with_reducible refine kn_box_slice E.out rfl rfl rfl ?_); clear E; intro g u E0 hb0; have E := Lib.hid E0; clear E0 hb0) | ((with_reducible refine kn_box_bool E.out rfl rfl rfl ?_); clear E; intro g u E0 hb0; have E := Lib.hid E0; clear E0 hb0) | ((with_reducible refine kn_box_func E.out rfl rfl rfl ?_); clear E; intro g u E0 hb0; have E := Lib.hid E0; clear E0 hb0))
          refine wp_region_held_drew (S := Kn w (.row g4 78 (i64s z24) :: .row g2 49 [.int .i64 (m.P : Int), .int .i64 (m.W : Int), .int .i64 (m.T : Int), .int .i64 (m.C : Int), .int .i64 (m.L : Int), .int .i64 (m.A : Int), .int .i64 (m.E : Int), .int .i64 (m.O : Int), .int .i64 (m.F : Int), .int .i64 (m.S : Int)] :: R) F) (by kernel_rfl) (E.out.drew.part _ _ (by repeat (first | exact List.Sublist.refl _ | apply List.Sublist.cons_cons | apply List.Sublist.cons)) (fun _ h => h)) (fun kS => ?_)
          have E1 := Lib.hid E.out.drew
          generalize World.drew _ = u1 at kS E1 ⊢
          clear E
          have E := E1
          clear E1
          (refine takeL (i := 0) (v := _) rfl (by kernel_rfl) (by kernel_rfl) (by kernel_rfl) (fun _ _ _ h => h) (by first | exact Or.inl ⟨by rfl, (by intro u hSu; clear hSu; go_simp; try with_reducible rfl)⟩ | exact Or.inr ⟨by rfl, rfl⟩) kS ?_; (try simp only [Act.put, List.setIfInBounds_toArray, List.set_cons_zero, List.set_cons_succ])); (refine takeL (i := 1) (v := _) rfl (by kernel_rfl) (by kernel_rfl) (by kernel_rfl) (fun _ _ _ h => h) (by first | exact Or.inl ⟨by rfl, (by intro u hSu; clear hSu; go_simp; try with_reducible rfl)⟩ | exact Or.inr ⟨by rfl, rfl⟩) kS ?_; (try simp only [Act.put, List.setIfInBounds_toArray, List.set_cons_zero, List.set_cons_succ])); (refine takeL (i := 2) (v := _) rfl (by kernel_rfl) (by kernel_rfl) (by kernel_rfl) (fun _ _ _ h => h) (by first | exact Or.inl ⟨by rfl, (by intro u hSu; clear hSu; go_simp; try with_reducible rfl)⟩ | exact Or.inr ⟨by rfl, rfl⟩) kS ?_; (try simp only [Act.put, List.setIfInBounds_toArray, List.set_cons_zero, List.set_cons_succ])); (refine takeL (i := 3) (v := _) rfl (by kernel_rfl) (by kernel_rfl) (by kernel_rfl) (fun _ _ _ h => h) (by first | exact Or.inl ⟨by rfl, (by intro u hSu; clear hSu; go_simp; try with_reducible rfl)⟩ | exact Or.inr ⟨by rfl, rfl⟩) kS ?_; (try simp only [Act.put, List.setIfInBounds_toArray, List.set_cons_zero, List.set_cons_succ])); (refine takeL (i := 5) (v := _) rfl (by kernel_rfl) (by kernel_rfl) (by kernel_rfl) (fun _ _ _ h => h) (by first | exact Or.inl ⟨by rfl, (by intro u hSu; clear hSu; go_simp; try with_reducible rfl)⟩ | exact Or.inr ⟨by rfl, rfl⟩) kS ?_; (try simp only [Act.put, List.setIfInBounds_toArray, List.set_cons_zero, List.set_cons_succ]))
          refine callL (i := 4) rfl (by kernel_rfl) (fun K hK => ?_)
          (go_simp; refine (take_any E.out gb ga A c0 xs pk wdc (wdc : Int) (pk1 : Int) rfl hz.out hb hx (by omega) hp.out).mono ?_; rw [hV.out]; rintro e w1 ⟨rfl, E0⟩; go_wp2_with fail; clear E; have E := Lib.hid E0; clear E0; (refine hK.out _ _ (E.out.part _ _ (by repeat (first | exact List.Sublist.refl _ | apply List.Sublist.cons_cons | apply List.Sublist.cons)) (fun _ h => h)) (fun kS => ?_); clear hK K; (try simp only [Act.put, List.setIfInBounds_toArray, List.set_cons_zero, List.set_cons_succ])))
          (refine takeL (i := 6) (v := _) rfl (by kernel_rfl) (by kernel_rfl) (by kernel_rfl) (fun _ _ _ h => h) (by first | exact Or.inl ⟨by rfl, (by intro u hSu; clear hSu; go_simp; try with_reducible rfl)⟩ | exact Or.inr ⟨by rfl, rfl⟩) kS ?_; (try simp only [Act.put, List.setIfInBounds_toArray, List.set_cons_zero, List.set_cons_succ]))
          refine callL (i := 7) rfl (by kernel_rfl) (fun K hK => ?_)
          (rw [if_pos (by rfl)]; refine wp_kn_storei (z := (V : Int)) E.out rfl rfl rfl rfl (by omega) ?_; clear E kS; intro u E0; have E := Lib.hid E0; clear E0; (refine hK.out _ _ (E.out.part _ _ (by repeat (first | exact List.Sublist.refl _ | apply List.Sublist.cons_cons | apply List.Sublist.cons)) (fun _ h => h)) (fun kS => ?_); clear hK K; (try simp only [Act.put, List.setIfInBounds_toArray, List.set_cons_zero, List.set_cons_succ])))
          refine wpAnyH_done (by kernel_rfl) ?_ _
          go_wp2_with fail
          go_roundw
          case rel => exact ⟨i + 1, by omega, by go_num, by rw [← hS.out, hpk1.out]; exact E⟩
          case measure => simp [intOf]; try omega
        · obtain rfl : i = 2 * m.P := by omega
          rw [hN.out, hNN.out] at E
          clear HP' HNS' HNL' hlt2
          go_wp2_with (first | ((with_reducible refine kn_load E.out rfl rfl rfl rfl ?_)) | ((with_reducible refine kn_load_if E.out rfl rfl rfl rfl ?_)) | ((with_reducible refine kn_loads E.out rfl rfl rfl ?_ ?_); (focus (first | rfl | (simp only [i64s_length, u8s_length]; first | rfl | assumption | omega)))) | ((with_reducible refine kn_loads_if E.out rfl rfl rfl ?_ ?_); (focus (first | rfl | (simp only [i64s_length, u8s_length]; first | rfl | assumption | omega)))) | ((with_reducible refine kn_store1_int E.out rfl rfl rfl rfl rfl ?_); clear E; intro u E0; have E := Lib.hid E0; clear E0) | ((with_reducible refine kn_store1_slice E.out rfl rfl rfl rfl rfl ?_); clear E; intro u E0; have E := Lib.hid E0; clear E0) | ((with_reducible refine kn_store1_bool E.out rfl rfl rfl rfl rfl ?_); clear E; intro u E0; have E := Lib.hid E0; clear E0) | ((with_reducible refine kn_stores E.out rfl rfl rfl rfl rfl ?_ ?_ ?_); (focus (first | exact ⟨rfl, rfl⟩ | (simp only [i64s_length, u8s_length]; refine ⟨?_, ?_⟩ <;> first | rfl | assumption | omega))); (focus (first | exact i64s_one _ | exact u8s_one _ | simp [Value.oneCell'])); clear E; intro u E0; have E := Lib.hid E0; clear E0) | ((with_reducible refine kn_alloc E.out rfl rfl ?_); clear E; intro g u E0 hb0; have E := Lib.hid E0; clear E0 hb0) | ((with_reducible refine kn_box E.out rfl rfl rfl ?_); clear E; intro g u E0 hb0; have E := Lib.hid E0; clear E0 hb0) | ((with_reducible refine kn_box_int E.out rfl rfl rfl ?_); clear E; intro g u E0 hb0; have E := Lib.hid E0; clear E0 hb0) | ((with_reducible refine kn_box_slice E.out rfl rfl rfl ?_); clear E; intro g u E0 hb0; have E := Lib.hid E0; clear E0 hb0) | ((with_reducible refine kn_box_bool E.out rfl rfl rfl ?_); clear E; intro g u E0 hb0; have E := Lib.hid E0; clear E0 hb0) | ((with_reducible refine kn_box_func E.out rfl rfl rfl ?_); clear E; intro g u E0 hb0; have E := Lib.hid E0; clear E0 hb0))
          go_roundw
          case rel => exact ⟨c + 1, by omega, by go_num, by rw [hcn.out]; exact E⟩
          case measure => simp [intOf]; try omega
    · obtain rfl : c = 4 := by omega
      obtain ⟨nu, hnu⟩ : ∃ z, NP 4 0 = z := ⟨_, rfl⟩
      have hnl := HNL.out 4 0
      rw [hnu] at E HR hnl
      obtain ⟨q4, hq4⟩ : ∃ z, CB 4 = z := ⟨_, rfl⟩
      rw [hq4] at E HM0
      clear HIX HG HWD HP HN HNS HNN HNL HC0 HZ hlt hnu hq4
      go_wp2_with (first | ((with_reducible refine kn_load E.out rfl rfl rfl rfl ?_)) | ((with_reducible refine kn_load_if E.out rfl rfl rfl rfl ?_)) | ((with_reducible refine kn_loads E.out rfl rfl rfl ?_ ?_); (focus (first | rfl | (simp only [i64s_length, u8s_length]; first | rfl | assumption | omega)))) | ((with_reducible refine kn_loads_if E.out rfl rfl rfl ?_ ?_); (focus (first | rfl | (simp only [i64s_length, u8s_length]; first | rfl | assumption | omega)))) | ((with_reducible refine kn_store1_int E.out rfl rfl rfl rfl rfl ?_); clear E; intro u E0; have E := Lib.hid E0; clear E0) | ((with_reducible refine kn_store1_slice E.out rfl rfl rfl rfl rfl ?_); clear E; intro u E0; have E := Lib.hid E0; clear E0) | ((with_reducible refine kn_store1_bool E.out rfl rfl rfl rfl rfl ?_); clear E; intro u E0; have E := Lib.hid E0; clear E0) | ((with_reducible refine kn_stores E.out rfl rfl rfl rfl rfl ?_ ?_ ?_); (focus (first | exact ⟨rfl, rfl⟩ | (simp only [i64s_length, u8s_length]; refine ⟨?_, ?_⟩ <;> first | rfl | assumption | omega))); (focus (first | exact i64s_one _ | exact u8s_one _ | simp [Value.oneCell'])); clear E; intro u E0; have E := Lib.hid E0; clear E0) | ((with_reducible refine kn_alloc (o := ⟨some 10, _, _, _, _, _⟩) E.out rfl rfl ?_); clear E; intro g10 u E0 hb0; have E := Lib.hid E0; clear E0 hb0) | ((with_reducible refine kn_box (o := ⟨some 10, _, _, _, _, _⟩) E.out rfl rfl rfl ?_); clear E; intro g10 u E0 hb0; have E := Lib.hid E0; clear E0 hb0) | ((with_reducible refine kn_box_int (o := ⟨some 10, _, _, _, _, _⟩) E.out rfl rfl rfl ?_); clear E; intro g10 u E0 hb0; have E := Lib.hid E0; clear E0 hb0) | ((with_reducible refine kn_box_slice (o := ⟨some 10, _, _, _, _, _⟩) E.out rfl rfl rfl ?_); clear E; intro g10 u E0 hb0; have E := Lib.hid E0; clear E0 hb0) | ((with_reducible refine kn_box_bool (o := ⟨some 10, _, _, _, _, _⟩) E.out rfl rfl rfl ?_); clear E; intro g10 u E0 hb0; have E := Lib.hid E0; clear E0 hb0) | ((with_reducible refine kn_box_func (o := ⟨some 10, _, _, _, _, _⟩) E.out rfl rfl rfl ?_); clear E; intro g10 u E0 hb0; have E := Lib.hid E0; clear E0 hb0) | ((with_reducible refine kn_alloc E.out rfl rfl ?_); clear E; intro g u E0 hb0; have E := Lib.hid E0; clear E0 hb0) | ((with_reducible refine kn_box E.out rfl rfl rfl ?_); clear E; intro g u E0 hb0; have E := Lib.hid E0; clear E0 hb0) | ((with_reducible refine kn_box_int E.out rfl rfl rfl ?_); clear E; intro g u E0 hb0; have E := Lib.hid E0; clear E0 hb0) | ((with_reducible refine kn_box_slice E.out rfl rfl rfl ?_); clear E; intro g u E0 hb0; have E := Lib.hid E0; clear E0 hb0) | ((with_reducible refine kn_box_bool E.out rfl rfl rfl ?_); clear E; intro g u E0 hb0; have E := Lib.hid E0; clear E0 hb0) | ((with_reducible refine kn_box_func E.out rfl rfl rfl ?_); clear E; intro g u E0 hb0; have E := Lib.hid E0; clear E0 hb0))
      go_loopw [11, 36] (fun mv ii wr => ∃ i : Nat, i ≤ 2 * m.P ∧ ii = .int .i64 i ∧ mv = .int .i64 (MB i) ∧ Hid (Kn w (.row g10 78 (i64s (FL i)) :: .row g5 97 (i64s nu) :: .row g4 78 (i64s z24) :: .row g2 49 [.int .i64 (m.P : Int), .int .i64 (m.W : Int), .int .i64 (m.T : Int), .int .i64 (m.C : Int), .int .i64 (m.L : Int), .int .i64 (m.A : Int), .int .i64 (m.E : Int), .int .i64 (m.O : Int), .int .i64 (m.F : Int), .int .i64 (m.S : Int)] :: .row ga 3 [.int .i64 ((MP i : Nat) : Int)] :: R) F wr)) (fun _ ii _ => 6 - (intOf ii).toNat)
      case atStart => exact ⟨0, by omega, rfl, by rw [HB0.out], by rw [HF0.out, HM0.out]; exact E⟩
      case round =>
        clear E
        obtain ⟨i, hi, rfl, rfl, E⟩ := hrel
        have hfl := HFL.out i
        by_cases hlt2 : i < 2 * m.P
        · have hi6 : (i : Int) < 6 := by omega
          have hrow := Lib.hid (HR.out i hlt2)
          have hfS := Lib.hid (HFS.out i)
          have hCo := Lib.hid (HCo.out i)
          have hlen := Lib.hid (HEL.out i)
          have hmm := HMM.out i hlt2
          obtain ⟨hV0, hmo⟩ := HMO.out i
          rw [hmo] at hCo
          have hyes := fun h => HYES.out i h
          have hno := fun h h2 => HNO.out i h h2
          rw [hmo] at hno
          clear HR HFS HFL HCo HEL HMM HMO HYES HNO HM0 HB0 HF0 HEN hmo
          obtain ⟨mp1, hmp1⟩ : ∃ z, MP (i + 1) = z := ⟨_, rfl⟩
          obtain ⟨mb1, hmb1⟩ : ∃ z, MB (i + 1) = z := ⟨_, rfl⟩
          rw [hmp1] at hyes hno hmm
          rw [hmb1] at hCo hV0 hno
          have hmp := Lib.hid hmp1
          have hmb := Lib.hid hmb1
          clear hmp1 hmb1
          generalize EP i = epi at *
          generalize NU i = nui at *
          obtain ⟨mp0, hmp0⟩ : ∃ z, MP i = z := ⟨_, rfl⟩
          obtain ⟨mb0, hmb0⟩ : ∃ z, MB i = z := ⟨_, rfl⟩
          rw [hmp0] at hyes hno E
          rw [hmb0] at hno ⊢
          clear hmp0 hmb0
          by_cases hyn : i % 2 = 0 ∨ m.O = 0
          · obtain ⟨rfl, hz0⟩ := hyes hyn
            obtain ⟨mt, hmt⟩ : ∃ z, MT i = z := ⟨_, rfl⟩
            rw [hmt] at hz0 E hV0
            have hz := Lib.hid (show (mp1 : Int) = (mt : Int) + (EX : Int) from by omega)
            have hp := Lib.hid (show mt + EX ≤ 128 from by omega)
            have hV := Lib.hid hV0.symm
            clear hyes hno hmm hV0 hz0 hmt
            by_cases hev : i % 2 = 0
            · have hr : ((i : Int) % 2 == 0) = true := by simp; omega
              clear hyn
              go_wp2_with (first
                  | (go_at_call 62; refine (hMB.out _).mono ?_; rintro e w1 ⟨rfl, hb0⟩; have E1 := Lib.hid (E.out.later hb0); clear hb0 E; have E := E1; clear E1)
                  | (go_at_call 48; refine (take_any E.out gb ga A c0 xs mt EX (EX : Int) (mp1 : Int) rfl hz.out hb hx (by omega) hp.out).mono ?_; rw [hV.out]; rintro e w1 ⟨rfl, E0⟩; clear E; have E := Lib.hid E0; clear E0)
                  | ((with_reducible refine kn_load E.out rfl rfl rfl rfl ?_)) | ((with_reducible refine kn_load_if E.out rfl rfl rfl rfl ?_)) | ((with_reducible refine kn_loads E.out rfl rfl rfl ?_ ?_); (focus (first | rfl | (simp only [i64s_length, u8s_length]; first | rfl | assumption | omega)))) | ((with_reducible refine kn_loads_if E.out rfl rfl rfl ?_ ?_); (focus (first | rfl | (simp only [i64s_length, u8s_length]; first | rfl | assumption | omega)))) | ((with_reducible refine kn_store1_int E.out rfl rfl rfl rfl rfl ?_); clear E; intro u E0; have E := Lib.hid E0; clear E0) | ((with_reducible refine kn_store1_slice E.out rfl rfl rfl rfl rfl ?_); clear E; intro u E0; have E := Lib.hid E0; clear E0) | ((with_reducible refine kn_store1_bool E.out rfl rfl rfl rfl rfl ?_); clear E; intro u E0; have E := Lib.hid E0; clear E0) | ((with_reducible refine kn_stores E.out rfl rfl rfl rfl rfl ?_ ?_ ?_); (focus (first | exact ⟨rfl, rfl⟩ | (simp only [i64s_length, u8s_length]; refine ⟨?_, ?_⟩ <;> first | rfl | assumption | omega))); (focus (first | exact i64s_one _ | exact u8s_one _ | simp [Value.oneCell'])); clear E; intro u E0; have E := Lib.hid E0; clear E0) | ((with_reducible refine kn_alloc E.out rfl rfl ?_); clear E; intro g u E0 hb0; have E := Lib.hid E0; clear E0 hb0) | ((with_reducible refine kn_box E.out rfl rfl rfl ?_); clear E; intro g u E0 hb0; have E := Lib.hid E0; clear E0 hb0) | ((with_reducible refine kn_box_int E.out rfl rfl rfl ?_); clear E; intro g u E0 hb0; have E := Lib.hid E0; clear E0 hb0) | ((with_reducible refine kn_box_slice E.out rfl rfl rfl ?_); clear E; intro g u E0 hb0; have E := Lib.hid E0; clear E0 hb0) | ((with_reducible refine kn_box_bool E.out rfl rfl rfl ?_); clear E; intro g u E0 hb0; have E := Lib.hid E0; clear E0 hb0) | ((with_reducible refine kn_box_func E.out rfl rfl rfl ?_); clear E; intro g u E0 hb0; have E := Lib.hid E0; clear E0 hb0))
              refine wp_region_held_drew (S := Kn w (.row g5 97 (i64s nu) :: .row g4 78 (i64s z24) :: .row g2 49 [.int .i64 (m.P : Int), .int .i64 (m.W : Int), .int .i64 (m.T : Int), .int .i64 (m.C : Int), .int .i64 (m.L : Int), .int .i64 (m.A : Int), .int .i64 (m.E : Int), .int .i64 (m.O : Int), .int .i64 (m.F : Int), .int .i64 (m.S : Int)] :: R) F) (by kernel_rfl) (E.out.drew.part _ _ (by repeat (first | exact List.Sublist.refl _ | apply List.Sublist.cons_cons | apply List.Sublist.cons)) (fun _ h => h)) (fun kS => ?_)
              have E1 := Lib.hid E.out.drew
              generalize World.drew _ = u1 at kS E1 ⊢
              clear E
              have E := E1
              clear E1
              (refine takeL (i := 0) (v := _) rfl (by kernel_rfl) (by kernel_rfl) (by kernel_rfl) (fun _ _ _ h => h) (by first | exact Or.inl ⟨by rfl, (by intro u hSu; clear hSu; go_simp; try with_reducible rfl)⟩ | exact Or.inr ⟨by rfl, rfl⟩) kS ?_; (try simp only [Act.put, List.setIfInBounds_toArray, List.set_cons_zero, List.set_cons_succ]))
              (refine takeL (i := 1) (v := _) rfl (by kernel_rfl) (by kernel_rfl) (by kernel_rfl) (fun _ _ _ h => h) (yield_loads (g := g2) rfl rfl rfl rfl) kS ?_; (try simp only [Act.put, List.setIfInBounds_toArray, List.set_cons_zero, List.set_cons_succ]))
              (refine takeL (i := 2) (v := _) rfl (by kernel_rfl) (by kernel_rfl) (by kernel_rfl) (fun _ _ _ h => h) (by first | exact Or.inl ⟨by rfl, (by intro u hSu; clear hSu; go_simp; try with_reducible rfl)⟩ | exact Or.inr ⟨by rfl, rfl⟩) kS ?_; (try simp only [Act.put, List.setIfInBounds_toArray, List.set_cons_zero, List.set_cons_succ])); (refine takeL (i := 3) (v := _) rfl (by kernel_rfl) (by kernel_rfl) (by kernel_rfl) (fun _ _ _ h => h) (by first | exact Or.inl ⟨by rfl, (by intro u hSu; clear hSu; go_simp; try with_reducible rfl)⟩ | exact Or.inr ⟨by rfl, rfl⟩) kS ?_; (try simp only [Act.put, List.setIfInBounds_toArray, List.set_cons_zero, List.set_cons_succ]))
              (refine takeL (i := 4) (v := _) rfl (by kernel_rfl) (by kernel_rfl) (by kernel_rfl) (fun _ _ _ h => h) (yield_loadp (g := g5) rfl rfl rfl (by omega)) kS ?_; (try simp only [Act.put, List.setIfInBounds_toArray, List.set_cons_zero, List.set_cons_succ]); rw [hrow.out])
              (refine takeL (i := 5) (v := _) rfl (by kernel_rfl) (by kernel_rfl) (by kernel_rfl) (fun _ _ _ h => h) (by first | exact Or.inl ⟨by rfl, (by intro u hSu; clear hSu; go_simp; try with_reducible rfl)⟩ | exact Or.inr ⟨by rfl, rfl⟩) kS ?_; (try simp only [Act.put, List.setIfInBounds_toArray, List.set_cons_zero, List.set_cons_succ]))
              refine callL (i := 6) rfl (by kernel_rfl) (fun K hK => ?_)
              (go_simp; refine (hCo.out _).mono ?_; rintro e w1 ⟨rfl, hb⟩; go_wp2_with fail; have E1 := Lib.hid (E.out.later hb); clear hb E; have E := E1; clear E1; (refine hK.out _ _ (E.out.part _ _ (by repeat (first | exact List.Sublist.refl _ | apply List.Sublist.cons_cons | apply List.Sublist.cons)) (fun _ h => h)) (fun kS => ?_); clear hK K; (try simp only [Act.put, List.setIfInBounds_toArray, List.set_cons_zero, List.set_cons_succ])))
              (refine takeL (i := 7) (v := _) rfl (by kernel_rfl) (by kernel_rfl) (by kernel_rfl) (fun _ _ _ h => h) (by first | exact Or.inl ⟨by rfl, (by intro u hSu; clear hSu; go_simp; try with_reducible rfl)⟩ | exact Or.inr ⟨by rfl, rfl⟩) kS ?_; (try simp only [Act.put, List.setIfInBounds_toArray, List.set_cons_zero, List.set_cons_succ]))
              refine callL (i := 8) rfl (by kernel_rfl) (fun K hK => ?_)
              (rw [if_pos (by rfl)]; refine wp_kn_storep (ys := epi) E.out rfl rfl rfl rfl hlen.out (by omega) ?_; clear E kS; intro u E0; have E := Lib.hid E0; clear E0; (refine hK.out _ _ (E.out.part _ _ (by repeat (first | exact List.Sublist.refl _ | apply List.Sublist.cons_cons | apply List.Sublist.cons)) (fun _ h => h)) (fun kS => ?_); clear hK K; (try simp only [Act.put, List.setIfInBounds_toArray, List.set_cons_zero, List.set_cons_succ])))
              refine wpAnyH_done (by kernel_rfl) ?_ _
              go_wp2_with fail
              go_roundw
              case rel => exact ⟨i + 1, by omega, by go_num, by rw [hmb.out], by rw [hfS.out, hmp.out]; exact E⟩
              case measure => simp [intOf]; try omega
            · have hO0 : m.O = 0 := hyn.resolve_left hev
              have hr : ((i : Int) % 2 == 0) = false := by simp; omega
              have hO' : (m.O : Int) = 0 := by omega
              rw [hO'] at E hMB hCo
              replace hO' := Lib.hid hO'
              clear hO0
              clear hyn
              go_wp2_with (first
                  | (go_at_call 62; refine (hMB.out _).mono ?_; rintro e w1 ⟨rfl, hb0⟩; have E1 := Lib.hid (E.out.later hb0); clear hb0 E; have E := E1; clear E1)
                  | (go_at_call 48; refine (take_any E.out gb ga A c0 xs mt EX (EX : Int) (mp1 : Int) rfl hz.out hb hx (by omega) hp.out).mono ?_; rw [hV.out]; rintro e w1 ⟨rfl, E0⟩; clear E; have E := Lib.hid E0; clear E0)
                  | ((with_reducible refine kn_load E.out rfl rfl rfl rfl ?_)) | ((with_reducible refine kn_load_if E.out rfl rfl rfl rfl ?_)) | ((with_reducible refine kn_loads E.out rfl rfl rfl ?_ ?_); (focus (first | rfl | (simp only [i64s_length, u8s_length]; first | rfl | assumption | omega)))) | ((with_reducible refine kn_loads_if E.out rfl rfl rfl ?_ ?_); (focus (first | rfl | (simp only [i64s_length, u8s_length]; first | rfl | assumption | omega)))) | ((with_reducible refine kn_store1_int E.out rfl rfl rfl rfl rfl ?_); clear E; intro u E0; have E := Lib.hid E0; clear E0) | ((with_reducible refine kn_store1_slice E.out rfl rfl rfl rfl rfl ?_); clear E; intro u E0; have E := Lib.hid E0; clear E0) | ((with_reducible refine kn_store1_bool E.out rfl rfl rfl rfl rfl ?_); clear E; intro u E0; have E := Lib.hid E0; clear E0) | ((with_reducible refine kn_stores E.out rfl rfl rfl rfl rfl ?_ ?_ ?_); (focus (first | exact ⟨rfl, rfl⟩ | (simp only [i64s_length, u8s_length]; refine ⟨?_, ?_⟩ <;> first | rfl | assumption | omega))); (focus (first | exact i64s_one _ | exact u8s_one _ | simp [Value.oneCell'])); clear E; intro u E0; have E := Lib.hid E0; clear E0) | ((with_reducible refine kn_alloc E.out rfl rfl ?_); clear E; intro g u E0 hb0; have E := Lib.hid E0; clear E0 hb0) | ((with_reducible refine kn_box E.out rfl rfl rfl ?_); clear E; intro g u E0 hb0; have E := Lib.hid E0; clear E0 hb0) | ((with_reducible refine kn_box_int E.out rfl rfl rfl ?_); clear E; intro g u E0 hb0; have E := Lib.hid E0; clear E0 hb0) | ((with_reducible refine kn_box_slice E.out rfl rfl rfl ?_); clear E; intro g u E0 hb0; have E := Lib.hid E0; clear E0 hb0) | ((with_reducible refine kn_box_bool E.out rfl rfl rfl ?_); clear E; intro g u E0 hb0; have E := Lib.hid E0; clear E0 hb0) | ((with_reducible refine kn_box_func E.out rfl rfl rfl ?_); clear E; intro g u E0 hb0; have E := Lib.hid E0; clear E0 hb0))
              refine wp_region_held_drew (S := Kn w (.row g5 97 (i64s nu) :: .row g4 78 (i64s z24) :: .row g2 49 [.int .i64 (m.P : Int), .int .i64 (m.W : Int), .int .i64 (m.T : Int), .int .i64 (m.C : Int), .int .i64 (m.L : Int), .int .i64 (m.A : Int), .int .i64 (m.E : Int), .int .i64 0, .int .i64 (m.F : Int), .int .i64 (m.S : Int)] :: R) F) (by kernel_rfl) (E.out.drew.part _ _ (by repeat (first | exact List.Sublist.refl _ | apply List.Sublist.cons_cons | apply List.Sublist.cons)) (fun _ h => h)) (fun kS => ?_)
              have E1 := Lib.hid E.out.drew
              generalize World.drew _ = u1 at kS E1 ⊢
              clear E
              have E := E1
              clear E1
              (refine takeL (i := 0) (v := _) rfl (by kernel_rfl) (by kernel_rfl) (by kernel_rfl) (fun _ _ _ h => h) (by first | exact Or.inl ⟨by rfl, (by intro u hSu; clear hSu; go_simp; try with_reducible rfl)⟩ | exact Or.inr ⟨by rfl, rfl⟩) kS ?_; (try simp only [Act.put, List.setIfInBounds_toArray, List.set_cons_zero, List.set_cons_succ]))
              (refine takeL (i := 1) (v := _) rfl (by kernel_rfl) (by kernel_rfl) (by kernel_rfl) (fun _ _ _ h => h) (yield_loads (g := g2) rfl rfl rfl rfl) kS ?_; (try simp only [Act.put, List.setIfInBounds_toArray, List.set_cons_zero, List.set_cons_succ]))
              (refine takeL (i := 2) (v := _) rfl (by kernel_rfl) (by kernel_rfl) (by kernel_rfl) (fun _ _ _ h => h) (by first | exact Or.inl ⟨by rfl, (by intro u hSu; clear hSu; go_simp; try with_reducible rfl)⟩ | exact Or.inr ⟨by rfl, rfl⟩) kS ?_; (try simp only [Act.put, List.setIfInBounds_toArray, List.set_cons_zero, List.set_cons_succ])); (refine takeL (i := 3) (v := _) rfl (by kernel_rfl) (by kernel_rfl) (by kernel_rfl) (fun _ _ _ h => h) (by first | exact Or.inl ⟨by rfl, (by intro u hSu; clear hSu; go_simp; try with_reducible rfl)⟩ | exact Or.inr ⟨by rfl, rfl⟩) kS ?_; (try simp only [Act.put, List.setIfInBounds_toArray, List.set_cons_zero, List.set_cons_succ]))
              (refine takeL (i := 4) (v := _) rfl (by kernel_rfl) (by kernel_rfl) (by kernel_rfl) (fun _ _ _ h => h) (yield_loadp (g := g5) rfl rfl rfl (by omega)) kS ?_; (try simp only [Act.put, List.setIfInBounds_toArray, List.set_cons_zero, List.set_cons_succ]); rw [hrow.out])
              (refine takeL (i := 5) (v := _) rfl (by kernel_rfl) (by kernel_rfl) (by kernel_rfl) (fun _ _ _ h => h) (by first | exact Or.inl ⟨by rfl, (by intro u hSu; clear hSu; go_simp; try with_reducible rfl)⟩ | exact Or.inr ⟨by rfl, rfl⟩) kS ?_; (try simp only [Act.put, List.setIfInBounds_toArray, List.set_cons_zero, List.set_cons_succ]))
              refine callL (i := 6) rfl (by kernel_rfl) (fun K hK => ?_)
              (go_simp; refine (hCo.out _).mono ?_; rintro e w1 ⟨rfl, hb⟩; go_wp2_with fail; have E1 := Lib.hid (E.out.later hb); clear hb E; have E := E1; clear E1; (refine hK.out _ _ (E.out.part _ _ (by repeat (first | exact List.Sublist.refl _ | apply List.Sublist.cons_cons | apply List.Sublist.cons)) (fun _ h => h)) (fun kS => ?_); clear hK K; (try simp only [Act.put, List.setIfInBounds_toArray, List.set_cons_zero, List.set_cons_succ])))
              (refine takeL (i := 7) (v := _) rfl (by kernel_rfl) (by kernel_rfl) (by kernel_rfl) (fun _ _ _ h => h) (by first | exact Or.inl ⟨by rfl, (by intro u hSu; clear hSu; go_simp; try with_reducible rfl)⟩ | exact Or.inr ⟨by rfl, rfl⟩) kS ?_; (try simp only [Act.put, List.setIfInBounds_toArray, List.set_cons_zero, List.set_cons_succ]))
              refine callL (i := 8) rfl (by kernel_rfl) (fun K hK => ?_)
              (rw [if_pos (by rfl)]; refine wp_kn_storep (ys := epi) E.out rfl rfl rfl rfl hlen.out (by omega) ?_; clear E kS; intro u E0; have E := Lib.hid E0; clear E0; (refine hK.out _ _ (E.out.part _ _ (by repeat (first | exact List.Sublist.refl _ | apply List.Sublist.cons_cons | apply List.Sublist.cons)) (fun _ h => h)) (fun kS => ?_); clear hK K; (try simp only [Act.put, List.setIfInBounds_toArray, List.set_cons_zero, List.set_cons_succ])))
              refine wpAnyH_done (by kernel_rfl) ?_ _
              go_wp2_with fail
              go_roundw
              case rel => exact ⟨i + 1, by omega, by go_num, by rw [hmb.out], by rw [hfS.out, hmp.out, hO'.out]; exact E⟩
              case measure => simp [intOf]; try omega
          · have hev : ¬ i % 2 = 0 := fun h => hyn (.inl h)
            have hO0 : ¬ m.O = 0 := fun h => hyn (.inr h)
            obtain ⟨rfl, rfl⟩ := hno hev hO0
            have hr : ((i : Int) % 2 == 0) = false := by simp; omega
            have hq : ((m.O : Int) == 0) = false := by simp [hO0]
            clear hyn hyes hno hmm hV0
            go_wp2_with (first | ((with_reducible refine kn_load E.out rfl rfl rfl rfl ?_)) | ((with_reducible refine kn_load_if E.out rfl rfl rfl rfl ?_)) | ((with_reducible refine kn_loads E.out rfl rfl rfl ?_ ?_); (focus (first | rfl | (simp only [i64s_length, u8s_length]; first | rfl | assumption | omega)))) | ((with_reducible refine kn_loads_if E.out rfl rfl rfl ?_ ?_); (focus (first | rfl | (simp only [i64s_length, u8s_length]; first | rfl | assumption | omega)))) | ((with_reducible refine kn_store1_int E.out rfl rfl rfl rfl rfl ?_); clear E; intro u E0; have E := Lib.hid E0; clear E0) | ((with_reducible refine kn_store1_slice E.out rfl rfl rfl rfl rfl ?_); clear E; intro u E0; have E := Lib.hid E0; clear E0) | ((with_reducible refine kn_store1_bool E.out rfl rfl rfl rfl rfl ?_); clear E; intro u E0; have E := Lib.hid E0; clear E0) | ((with_reducible refine kn_stores E.out rfl rfl rfl rfl rfl ?_ ?_ ?_); (focus (first | exact ⟨rfl, rfl⟩ | (simp only [i64s_length, u8s_length]; refine ⟨?_, ?_⟩ <;> first | rfl | assumption | omega))); (focus (first | exact i64s_one _ | exact u8s_one _ | simp [Value.oneCell'])); clear E; intro u E0; have E := Lib.hid E0; clear E0) | ((with_reducible refine kn_alloc E.out rfl rfl ?_); clear E; intro g u E0 hb0; have E := Lib.hid E0; clear E0 hb0) | ((with_reducible refine kn_box E.out rfl rfl rfl ?_); clear E; intro g u E0 hb0; have E := Lib.hid E0; clear E0 hb0) | ((with_reducible refine kn_box_int E.out rfl rfl rfl ?_); clear E; intro g u E0 hb0; have E := Lib.hid E0; clear E0 hb0) | ((with_reducible refine kn_box_slice E.out rfl rfl rfl ?_); clear E; intro g u E0 hb0; have E := Lib.hid E0; clear E0 hb0) | ((with_reducible refine kn_box_bool E.out rfl rfl rfl ?_); clear E; intro g u E0 hb0; have E := Lib.hid E0; clear E0 hb0) | ((with_reducible refine kn_box_func E.out rfl rfl rfl ?_); clear E; intro g u E0 hb0; have E := Lib.hid E0; clear E0 hb0))
            refine wp_region_held_drew (S := Kn w (.row g5 97 (i64s nu) :: .row g4 78 (i64s z24) :: .row g2 49 [.int .i64 (m.P : Int), .int .i64 (m.W : Int), .int .i64 (m.T : Int), .int .i64 (m.C : Int), .int .i64 (m.L : Int), .int .i64 (m.A : Int), .int .i64 (m.E : Int), .int .i64 (m.O : Int), .int .i64 (m.F : Int), .int .i64 (m.S : Int)] :: R) F) (by kernel_rfl) (E.out.drew.part _ _ (by repeat (first | exact List.Sublist.refl _ | apply List.Sublist.cons_cons | apply List.Sublist.cons)) (fun _ h => h)) (fun kS => ?_)
            have E1 := Lib.hid E.out.drew
            generalize World.drew _ = u1 at kS E1 ⊢
            clear E
            have E := E1
            clear E1
            (refine takeL (i := 0) (v := _) rfl (by kernel_rfl) (by kernel_rfl) (by kernel_rfl) (fun _ _ _ h => h) (by first | exact Or.inl ⟨by rfl, (by intro u hSu; clear hSu; go_simp; try with_reducible rfl)⟩ | exact Or.inr ⟨by rfl, rfl⟩) kS ?_; (try simp only [Act.put, List.setIfInBounds_toArray, List.set_cons_zero, List.set_cons_succ]))
            (refine takeL (i := 1) (v := _) rfl (by kernel_rfl) (by kernel_rfl) (by kernel_rfl) (fun _ _ _ h => h) (yield_loads (g := g2) rfl rfl rfl rfl) kS ?_; (try simp only [Act.put, List.setIfInBounds_toArray, List.set_cons_zero, List.set_cons_succ]))
            (refine takeL (i := 2) (v := _) rfl (by kernel_rfl) (by kernel_rfl) (by kernel_rfl) (fun _ _ _ h => h) (by first | exact Or.inl ⟨by rfl, (by intro u hSu; clear hSu; go_simp; try with_reducible rfl)⟩ | exact Or.inr ⟨by rfl, rfl⟩) kS ?_; (try simp only [Act.put, List.setIfInBounds_toArray, List.set_cons_zero, List.set_cons_succ])); (refine takeL (i := 3) (v := _) rfl (by kernel_rfl) (by kernel_rfl) (by kernel_rfl) (fun _ _ _ h => h) (by first | exact Or.inl ⟨by rfl, (by intro u hSu; clear hSu; go_simp; try with_reducible rfl)⟩ | exact Or.inr ⟨by rfl, rfl⟩) kS ?_; (try simp only [Act.put, List.setIfInBounds_toArray, List.set_cons_zero, List.set_cons_succ]))
            (refine takeL (i := 4) (v := _) rfl (by kernel_rfl) (by kernel_rfl) (by kernel_rfl) (fun _ _ _ h => h) (yield_loadp (g := g5) rfl rfl rfl (by omega)) kS ?_; (try simp only [Act.put, List.setIfInBounds_toArray, List.set_cons_zero, List.set_cons_succ]); rw [hrow.out])
            (refine takeL (i := 5) (v := _) rfl (by kernel_rfl) (by kernel_rfl) (by kernel_rfl) (fun _ _ _ h => h) (by first | exact Or.inl ⟨by rfl, (by intro u hSu; clear hSu; go_simp; try with_reducible rfl)⟩ | exact Or.inr ⟨by rfl, rfl⟩) kS ?_; (try simp only [Act.put, List.setIfInBounds_toArray, List.set_cons_zero, List.set_cons_succ]))
            refine callL (i := 6) rfl (by kernel_rfl) (fun K hK => ?_)
            (go_simp; refine (hCo.out _).mono ?_; rintro e w1 ⟨rfl, hb⟩; go_wp2_with fail; have E1 := Lib.hid (E.out.later hb); clear hb E; have E := E1; clear E1; (refine hK.out _ _ (E.out.part _ _ (by repeat (first | exact List.Sublist.refl _ | apply List.Sublist.cons_cons | apply List.Sublist.cons)) (fun _ h => h)) (fun kS => ?_); clear hK K; (try simp only [Act.put, List.setIfInBounds_toArray, List.set_cons_zero, List.set_cons_succ])))
            (refine takeL (i := 7) (v := _) rfl (by kernel_rfl) (by kernel_rfl) (by kernel_rfl) (fun _ _ _ h => h) (by first | exact Or.inl ⟨by rfl, (by intro u hSu; clear hSu; go_simp; try with_reducible rfl)⟩ | exact Or.inr ⟨by rfl, rfl⟩) kS ?_; (try simp only [Act.put, List.setIfInBounds_toArray, List.set_cons_zero, List.set_cons_succ]))
            refine callL (i := 8) rfl (by kernel_rfl) (fun K hK => ?_)
            (rw [if_pos (by rfl)]; refine wp_kn_storep (ys := epi) E.out rfl rfl rfl rfl hlen.out (by omega) ?_; clear E kS; intro u E0; have E := Lib.hid E0; clear E0; (refine hK.out _ _ (E.out.part _ _ (by repeat (first | exact List.Sublist.refl _ | apply List.Sublist.cons_cons | apply List.Sublist.cons)) (fun _ h => h)) (fun kS => ?_); clear hK K; (try simp only [Act.put, List.setIfInBounds_toArray, List.set_cons_zero, List.set_cons_succ])))
            refine wpAnyH_done (by kernel_rfl) ?_ _
            go_wp2_with fail
            go_roundw
            case rel => exact ⟨i + 1, by omega, by go_num, by rw [hmb.out], by rw [hfS.out, hmp.out]; exact E⟩
            case measure => simp [intOf]; try omega
        · obtain rfl : i = 2 * m.P := by omega
          rw [HEN.out] at E hfl
          clear HR HFS HFL HCo HEL HMM HMO HYES HNO HM0 HB0 HF0 HEN hlt2 hMB
          go_wp2_with (first | ((with_reducible refine kn_load E.out rfl rfl rfl rfl ?_)) | ((with_reducible refine kn_load_if E.out rfl rfl rfl rfl ?_)) | ((with_reducible refine kn_loads E.out rfl rfl rfl ?_ ?_); (focus (first | rfl | (simp only [i64s_length, u8s_length]; first | rfl | assumption | omega)))) | ((with_reducible refine kn_loads_if E.out rfl rfl rfl ?_ ?_); (focus (first | rfl | (simp only [i64s_length, u8s_length]; first | rfl | assumption | omega)))) | ((with_reducible refine kn_store1_int E.out rfl rfl rfl rfl rfl ?_); clear E; intro u E0; have E := Lib.hid E0; clear E0) | ((with_reducible refine kn_store1_slice E.out rfl rfl rfl rfl rfl ?_); clear E; intro u E0; have E := Lib.hid E0; clear E0) | ((with_reducible refine kn_store1_bool E.out rfl rfl rfl rfl rfl ?_); clear E; intro u E0; have E := Lib.hid E0; clear E0) | ((with_reducible refine kn_stores E.out rfl rfl rfl rfl rfl ?_ ?_ ?_); (focus (first | exact ⟨rfl, rfl⟩ | (simp only [i64s_length, u8s_length]; refine ⟨?_, ?_⟩ <;> first | rfl | assumption | omega))); (focus (first | exact i64s_one _ | exact u8s_one _ | simp [Value.oneCell'])); clear E; intro u E0; have E := Lib.hid E0; clear E0) | ((with_reducible refine kn_alloc E.out rfl rfl ?_); clear E; intro g u E0 hb0; have E := Lib.hid E0; clear E0 hb0) | ((with_reducible refine kn_box E.out rfl rfl rfl ?_); clear E; intro g u E0 hb0; have E := Lib.hid E0; clear E0 hb0) | ((with_reducible refine kn_box_int E.out rfl rfl rfl ?_); clear E; intro g u E0 hb0; have E := Lib.hid E0; clear E0 hb0) | ((with_reducible refine kn_box_slice E.out rfl rfl rfl ?_); clear E; intro g u E0 hb0; have E := Lib.hid E0; clear E0 hb0) | ((with_reducible refine kn_box_bool E.out rfl rfl rfl ?_); clear E; intro g u E0 hb0; have E := Lib.hid E0; clear E0 hb0) | ((with_reducible refine kn_box_func E.out rfl rfl rfl ?_); clear E; intro g u E0 hb0; have E := Lib.hid E0; clear E0 hb0))
          refine bodyPost_ret (results_kn E.out rfl _ rfl (by rw [i64s_length]; exact hfl)) rfl ?_
          exact ⟨rfl, E.out.part _ _ (by repeat (first | exact List.Sublist.refl _ | apply List.Sublist.cons_cons | apply List.Sublist.cons)) (fun _ h => h)⟩
end Go.Proofs.YtnoailihkjccbaaDoor
