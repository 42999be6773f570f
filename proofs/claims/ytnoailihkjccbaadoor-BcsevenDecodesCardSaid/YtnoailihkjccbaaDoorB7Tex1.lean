/- The texels of a block of a mode. -/
import Derived.Test.YtnoailihkjccbaaDoorB7Kept
set_option linter.all false
namespace Go.Proofs.YtnoailihkjccbaaDoor
open Go.RowKit
open Bi Lv Bt B7


set_option maxHeartbeats 8000000 in
set_option maxRecDepth 100000 in
theorem texels_1 {w u : World} {R : List Res} {F : List (World → Prop)} (gb ga : Nat) (A : Option Addr) (c0 : Nat) (xs : List Nat) (p : Nat) (m : Md) (E0 : Kn w (.row ga 3 [.int .i64 (p : Int)] :: R) F u) (hb : rowF gb 22 [.slice A 16 c0] ∈ F) (hx : bsF A 16 xs ∈ F) (hT : Tabs ∈ F) (ok : Ok m p) (hS : ¬ m.S = 0) (hch0 : getN xs false (p + m.W + m.T) m.C = 0) :
    Calls Tryd.prog 22 #[(.agg #[.int .i64 (m.P : Int), .int .i64 (m.W : Int), .int .i64 (m.T : Int), .int .i64 (m.C : Int), .int .i64 (m.L : Int), .int .i64 (m.A : Int), .int .i64 (m.E : Int), .int .i64 (m.O : Int), .int .i64 (m.F : Int), .int .i64 (m.S : Int)]), .func (.func 48) #[] #[.pointer (some ⟨gb, 0, none⟩), .pointer (some ⟨ga, 0, none⟩)]] u
      fun e u1 => e = .returned (arr (tileV m xs p)) ∧ Kn w R F u1 := by
  have E := Lib.hid E0
  obtain ⟨hP1, hP3, hW6, hT2, hC1, hL1, hL8, hA8, hE1, hO1, hEO, hLE, hAE, hF2, hF4, hS3, hS1, hCS, hall⟩ := ok
  have hway : getN xs false p m.W < 64 := Nat.lt_of_lt_of_le (getN_lt xs false p m.W m.W (Nat.le_refl _)) (show 2 ^ m.W ≤ 2 ^ 6 from Nat.pow_le_pow_right (by omega) hW6)
  have hturn : getN xs false (p + m.W) m.T < 4 := Nat.lt_of_lt_of_le (getN_lt xs false (p + m.W) m.T m.T (Nat.le_refl _)) (show 2 ^ m.T ≤ 2 ^ 2 from Nat.pow_le_pow_right (by omega) hT2)
  have hq1 : q1 m p ≤ cb m (q1 m p) 4 := cb_mono m (q1 m p) 0 4 (by omega)
  have hq2 : cb m (q1 m p) 4 ≤ q2 m p := by unfold q2 mpos; split <;> omega
  have hall2 : q2 m p + (16 * m.F - m.P) + (16 * m.S - 1) ≤ 128 := hall
  have hcA := ipos_cnt (q2 m p) m.F (isA m.P (getN xs false p m.W)) (by omega) 16
  rw [cnt_isA m.P (by omega) hP1 _ hway] at hcA
  have hq3e : q3 m xs p = ipos (q2 m p) m.F (isA m.P (getN xs false p m.W)) 16 := rfl
  have hq3 : ipos (q2 m p) m.F (isA m.P (getN xs false p m.W)) 16 ≤ 128 := by omega
  have hc0 := ipos_cnt (q3 m xs p) m.S is0 (by omega) 16
  rw [cnt_is0] at hc0
  have hq4 : ipos (q3 m xs p) m.S is0 16 ≤ 128 := by omega
  have hzA := Lib.hid (show ((p + m.W : Nat) : Int) = (p : Int) + (m.W : Int) from by omega)
  have hzB := Lib.hid (show ((p + m.W + m.T : Nat) : Int) = ((p + m.W : Nat) : Int) + (m.T : Int) from by omega)
  have hzC := Lib.hid (show ((q1 m p : Nat) : Int) = ((p + m.W + m.T : Nat) : Int) + (m.C : Int) from by unfold q1; omega)
  have hq1' : q1 m p = p + m.W + m.T + m.C := rfl
  have hq128 : q1 m p ≤ 128 := by omega
  have hpA : p + m.W ≤ 128 := by omega
  have hpB : p + m.W + m.T ≤ 128 := by omega
  have hpC : p + m.W + m.T + m.C ≤ 128 := by omega
  have hq2' : mpos m (cb m (q1 m p) 4) (2 * m.P) ≤ 128 := by have : q2 m p = mpos m (cb m (q1 m p) 4) (2 * m.P) := rfl; omega
  have HTE := Lib.hid (fun (R : List Res) (F : List (World → Prop)) (u : World) (E0 : Kn w (.row ga 3 [.int .i64 ((q1 m p : Nat) : Int)] :: R) F u) (hb : rowF gb 22 [.slice A 16 c0] ∈ F) (hx : bsF A 16 xs ∈ F) =>
    show Calls Tryd.prog 41 #[(.agg #[.int .i64 (m.P : Int), .int .i64 (m.W : Int), .int .i64 (m.T : Int), .int .i64 (m.C : Int), .int .i64 (m.L : Int), .int .i64 (m.A : Int), .int .i64 (m.E : Int), .int .i64 (m.O : Int), .int .i64 (m.F : Int), .int .i64 (m.S : Int)]), .func (.func 48) #[] #[.pointer (some ⟨gb, 0, none⟩), .pointer (some ⟨ga, 0, none⟩)]] u (fun e u1 => e = .returned (arr (enV m xs (q1 m p))) ∧ Kn w (.row ga 3 [.int .i64 ((q2 m p : Nat) : Int)] :: R) F u1) from
    takeEnds_any gb ga A c0 xs (q1 m p) m E0 hb hx hP1 hP3 hEO (by omega) hA8 hq2')
  have HW1 := Lib.hid (fun (gm gw : Nat) (R : List Res) (F : List (World → Prop)) (u : World) (E0 : Kn w (.row ga 3 [.int .i64 ((q2 m p : Nat) : Int)] :: R) F u) (hmF : rowF gm 49 [.int .i64 (m.P : Int), .int .i64 (m.W : Int), .int .i64 (m.T : Int), .int .i64 (m.C : Int), .int .i64 (m.L : Int), .int .i64 (m.A : Int), .int .i64 (m.E : Int), .int .i64 (m.O : Int), .int .i64 (m.F : Int), .int .i64 (m.S : Int)] ∈ F) (hwF : rowF gw 3 [.int .i64 ((getN xs false p m.W : Nat) : Int)] ∈ F) (hT : Tabs ∈ F) (hb : rowF gb 22 [.slice A 16 c0] ∈ F) (hx : bsF A 16 xs ∈ F) =>
    show Calls Tryd.prog 42 #[.int .i64 (m.F : Int), .func (.func 48) #[] #[.pointer (some ⟨gb, 0, none⟩), .pointer (some ⟨ga, 0, none⟩)], .func (.func 43) #[] #[.pointer (some ⟨gm, 0, none⟩), .pointer (some ⟨gw, 0, none⟩)]] u
      (fun e u1 => e = .returned (arr (cw0 m xs p)) ∧ Kn w (.row ga 3 [.int .i64 ((q3 m xs p : Nat) : Int)] :: R) F u1) from
    takeWeights_1 gb ga A c0 xs (q2 m p) m.F gm gw m (getN xs false p m.W) hmF hwF hT E0 hb hx hF2 hF4 hq3)
  have HW2 := Lib.hid (fun (R : List Res) (F : List (World → Prop)) (u : World) (E0 : Kn w (.row ga 3 [.int .i64 ((q3 m xs p : Nat) : Int)] :: R) F u) (hb : rowF gb 22 [.slice A 16 c0] ∈ F) (hx : bsF A 16 xs ∈ F) =>
    show Calls Tryd.prog 42 #[.int .i64 (m.S : Int), .func (.func 48) #[] #[.pointer (some ⟨gb, 0, none⟩), .pointer (some ⟨ga, 0, none⟩)], .func (.func 45) #[] #[]] u
      (fun e u1 => e = .returned (arr (wtV xs (q3 m xs p) m.S is0)) ∧ Kn w (.row ga 3 [.int .i64 ((ipos (q3 m xs p) m.S is0 16 : Nat) : Int)] :: R) F u1) from
    takeWeights_2 gb ga A c0 xs (q3 m xs p) m.S E0 hb hx (by omega) (by omega) hq4)
  have hPT := fun i (hi : i < 16) => partV_lt m.P (by omega) hP1 (getN xs false p m.W) hway i hi
  have hen := enV_length m xs (q1 m p)
  have hebd := enV_bd m xs (q1 m p) hP3
  have hcwl : (cw0 m xs p).length = 16 := wtV_length _ _ _ _
  have hawl : (wtV xs (q3 m xs p) m.S is0).length = 16 := wtV_length _ _ _ _
  have hcwb : ∀ j, 0 ≤ (cw0 m xs p).getD j 0 ∧ (cw0 m xs p).getD j 0 ≤ 64 := wtV_bd _ _ _ _
  have hawb : ∀ j, 0 ≤ (wtV xs (q3 m xs p) m.S is0).getD j 0 ∧ (wtV xs (q3 m xs p) m.S is0).getD j 0 ≤ 64 := wtV_bd _ _ _ _
  have htile : tileV m xs p = fl Bc.z64 (txV (enV m xs (q1 m p)) (cw0 m xs p) (wtV xs (q3 m xs p) m.S is0) (ptN m xs p) ((getN xs false (p + m.W) m.T : Nat) : Int)) 16 := by
    have hchN : chN m xs p = ((getN xs false (p + m.W + m.T) m.C : Nat) : Int) := rfl
    unfold tileV cwV awV aw0
    rw [hchN, hch0]
    simp only [hS]
    rfl
  have HBT := Lib.hid (fun (i : Nat) (pt : Nat) (hi : i < 16) (hpt : partV m.P (getN xs false p m.W) i = (pt : Int)) (u : World) =>
    show Calls Tryd.prog 38 #[arr (((enV m xs (q1 m p)).drop (2 * pt * 4)).take 4), arr (((enV m xs (q1 m p)).drop ((2 * pt + 1) * 4)).take 4), .int .i64 ((cw0 m xs p).getD i 0), .int .i64 ((wtV xs (q3 m xs p) m.S is0).getD i 0)] u (fun e w' => e = .returned (arr (btV (((enV m xs (q1 m p)).drop (2 * pt * 4)).take 4) (((enV m xs (q1 m p)).drop ((2 * pt + 1) * 4)).take 4) ((cw0 m xs p).getD i 0) ((wtV xs (q3 m xs p) m.S is0).getD i 0))) ∧ Below u.heap.size u w') from by
    have hp3 : (pt : Int) < 3 := by have := hPT i hi; omega
    exact between64_any _ _ _ _ u (by rw [List.length_take, List.length_drop, hen]; omega) (by rw [List.length_take, List.length_drop, hen]; omega) (row_sm _ hebd _) (row_sm _ hebd _) (by have := hcwb i; unfold sm; omega) (by have := hawb i; unfold sm; omega))
  have HTX := Lib.hid (fun (i : Nat) (hi : i < 16) (pt : Nat) (hpt : partV m.P (getN xs false p m.W) i = (pt : Int)) => show txV (enV m xs (q1 m p)) (cw0 m xs p) (wtV xs (q3 m xs p) m.S is0) (ptN m xs p) ((getN xs false (p + m.W) m.T : Nat) : Int) i = tuV (btV (((enV m xs (q1 m p)).drop (2 * pt * 4)).take 4) (((enV m xs (q1 m p)).drop ((2 * pt + 1) * 4)).take 4) ((cw0 m xs p).getD i 0) ((wtV xs (q3 m xs p) m.S is0).getD i 0)) ((getN xs false (p + m.W) m.T : Nat) : Int) from by
    have e : ptN m xs p i = pt := by unfold ptN wayN; rw [hpt]; rfl
    unfold txV
    rw [e])
  have HTU := Lib.hid (fun (t : List Int) (ht : t.length = 4) (u : World) => turned_any t ((getN xs false (p + m.W) m.T : Nat) : Int) u ht (by omega))
  have HFS := Lib.hid (fun k => show fl Bc.z64 (txV (enV m xs (q1 m p)) (cw0 m xs p) (wtV xs (q3 m xs p) m.S is0) (ptN m xs p) ((getN xs false (p + m.W) m.T : Nat) : Int)) (k + 1) = spl (fl Bc.z64 (txV (enV m xs (q1 m p)) (cw0 m xs p) (wtV xs (q3 m xs p) m.S is0) (ptN m xs p) ((getN xs false (p + m.W) m.T : Nat) : Int)) k) (k * 4) (txV (enV m xs (q1 m p)) (cw0 m xs p) (wtV xs (q3 m xs p) m.S is0) (ptN m xs p) ((getN xs false (p + m.W) m.T : Nat) : Int) k) from rfl)
  have HFL := Lib.hid (fun k => show (fl Bc.z64 (txV (enV m xs (q1 m p)) (cw0 m xs p) (wtV xs (q3 m xs p) m.S is0) (ptN m xs p) ((getN xs false (p + m.W) m.T : Nat) : Int)) k).length = 64 from by rw [fl_length]; exact Bc.z64_length)
  have HF0 := Lib.hid (show fl Bc.z64 (txV (enV m xs (q1 m p)) (cw0 m xs p) (wtV xs (q3 m xs p) m.S is0) (ptN m xs p) ((getN xs false (p + m.W) m.T : Nat) : Int)) 0 = Bc.z64 from rfl)
  rw [htile]
  have HPT := Lib.hid (fun (i : Nat) (hi : i < 16) => show ∃ pt : Nat, partV m.P (getN xs false p m.W) i = (pt : Int) ∧ pt < 3 from by
    have h := hPT i hi
    obtain ⟨pt, e⟩ := Int.eq_ofNat_of_zero_le h.1
    exact ⟨pt, e, by omega⟩)
  have HPA := Lib.hid (fun (i : Nat) (u : World) (hu : Tabs u) => part_any m.P (getN xs false p m.W) i u hu.1 hu.2.1)
  have HTXL := Lib.hid (fun i => txV_length (enV m xs (q1 m p)) (cw0 m xs p) (wtV xs (q3 m xs p) m.S is0) (ptN m xs p) ((getN xs false (p + m.W) m.T : Nat) : Int) i)
  have HCH := Lib.hid hch0
  clear hall2 hq1 hq2 hcA hq3e hq3 hq1' hq2' hPT hebd hcwb hawb htile hall hCS hP1 hP3 hL1 hL8 hA8 hE1 hO1 hEO hLE hAE hF2 hF4 hS3 hS1 E0 hch0 hc0 hq4
  generalize hFT : fl Bc.z64 (txV (enV m xs (q1 m p)) (cw0 m xs p) (wtV xs (q3 m xs p) m.S is0) (ptN m xs p) ((getN xs false (p + m.W) m.T : Nat) : Int)) = FT at *
  generalize hTT : txV (enV m xs (q1 m p)) (cw0 m xs p) (wtV xs (q3 m xs p) m.S is0) (ptN m xs p) ((getN xs false (p + m.W) m.T : Nat) : Int) = TT at *
  clear hFT hTT
  generalize enV m xs (q1 m p) = en at *
  generalize cw0 m xs p = cw at *
  generalize ipos (q3 m xs p) m.S is0 16 = r4 at *
  generalize wtV xs (q3 m xs p) m.S is0 = aw at *
  generalize q3 m xs p = r3 at *
  generalize q2 m p = r2 at *
  generalize q1 m p = r1 at *
  obtain ⟨way, hwy⟩ : ∃ z, getN xs false p m.W = z := ⟨_, rfl⟩
  obtain ⟨turn, htn⟩ : ∃ z, getN xs false (p + m.W) m.T = z := ⟨_, rfl⟩
  rw [hwy] at HW1 HBT HTX HPT HPA hway
  rw [htn] at HTX HTU hturn
  replace hwy := Lib.hid hwy
  replace htn := Lib.hid htn
  obtain ⟨pA, hpAe⟩ : ∃ z, p + m.W = z := ⟨_, rfl⟩
  rw [hpAe] at hzA hzB hzC hpB hpC htn HCH
  obtain ⟨pB, hpBe⟩ : ∃ z, pA + m.T = z := ⟨_, rfl⟩
  rw [hpBe] at hzB hzC hpC HCH
  clear hpAe hpBe
  have hs0 : ((m.S : Int) != 0) = true := by simp [hS]
  have hW16 : m.W ≤ 16 := by omega
  have hT16 : m.T ≤ 16 := by omega
  have hC16 : m.C ≤ 16 := by omega
  clear hS
  go_enter Tryd.func22, Tryd.ntmps22
  go_wp2_with (first
    | (go_at_call 48; (first
        | ((with_reducible refine (take_any E.out gb ga A c0 xs p m.W (m.W : Int) (pA : Int) rfl hzA.out hb hx hW16 hpA).mono ?_); rw [hwy.out])
        | ((with_reducible refine (take_any E.out gb ga A c0 xs pA m.T (m.T : Int) (pB : Int) rfl hzB.out hb hx hT16 hpB).mono ?_); rw [htn.out])
        | ((with_reducible refine (take_any E.out gb ga A c0 xs pB m.C (m.C : Int) (r1 : Int) rfl hzC.out hb hx hC16 hpC).mono ?_); rw [HCH.out])); rintro e w1 ⟨rfl, E0⟩; clear E; have E := Lib.hid E0; clear E0)
    | (go_at_call 41; refine (HTE.out _ _ _ E.out.front hb hx).mono ?_; clear HTE; rintro e w1 ⟨rfl, E0⟩; clear E; have E := Lib.hid E0; clear E0)
    | (go_at_call 42; (first
        | (with_reducible refine (HW1.out g2 g5 _ _ _ ((E.out.rest g2).rest g5).front (by simp) (by simp) (by simp [hT]) (by simp [hb]) (by simp [hx])).mono ?_)
        | (with_reducible refine (HW2.out _ _ _ E.out.front (by simp [hb]) (by simp [hx])).mono ?_)); rintro e w1 ⟨rfl, E0⟩; clear E; have E := Lib.hid E0; clear E0)
    | ((with_reducible refine kn_load (g := g2) (i := 9) E.out rfl rfl rfl rfl ?_))
    | ((with_reducible refine kn_load E.out rfl rfl rfl rfl ?_)) | ((with_reducible refine kn_load_if E.out rfl rfl rfl rfl ?_)) | ((with_reducible refine kn_loads E.out rfl rfl rfl ?_ ?_); (focus (first | rfl | (simp only [i64s_length, u8s_length]; first | rfl | assumption | omega)))) | ((with_reducible refine kn_loads_if E.out rfl rfl rfl ?_ ?_); (focus (first | rfl | (simp only [i64s_length, u8s_length]; first | rfl | assumption | omega)))) | ((with_reducible refine kn_store1_int E.out rfl rfl rfl rfl rfl ?_); clear E; intro u E0; have E := Lib.hid E0; clear E0) | ((with_reducible refine kn_store1_slice E.out rfl rfl rfl rfl rfl ?_); clear E; intro u E0; have E := Lib.hid E0; clear E0) | ((with_reducible refine kn_store1_bool E.out rfl rfl rfl rfl rfl ?_); clear E; intro u E0; have E := Lib.hid E0; clear E0) | ((with_reducible refine kn_stores E.out rfl rfl rfl rfl rfl ?_ ?_ ?_); (focus (first | exact ⟨rfl, rfl⟩ | (simp only [i64s_length, u8s_length]; refine ⟨?_, ?_⟩ <;> first | rfl | assumption | omega))); (focus (first | exact i64s_one _ | exact u8s_one _ | simp [Value.oneCell'])); clear E; intro u E0; have E := Lib.hid E0; clear E0) | ((with_reducible refine kn_alloc (o := ⟨some 2, _, _, _, _, _⟩) E.out rfl rfl ?_); clear E; intro g2 u E0 hb0; have E := Lib.hid E0; clear E0 hb0) | ((with_reducible refine kn_box (o := ⟨some 2, _, _, _, _, _⟩) E.out rfl rfl rfl ?_); clear E; intro g2 u E0 hb0; have E := Lib.hid E0; clear E0 hb0) | ((with_reducible refine kn_box_int (o := ⟨some 2, _, _, _, _, _⟩) E.out rfl rfl rfl ?_); clear E; intro g2 u E0 hb0; have E := Lib.hid E0; clear E0 hb0) | ((with_reducible refine kn_box_slice (o := ⟨some 2, _, _, _, _, _⟩) E.out rfl rfl rfl ?_); clear E; intro g2 u E0 hb0; have E := Lib.hid E0; clear E0 hb0) | ((with_reducible refine kn_box_bool (o := ⟨some 2, _, _, _, _, _⟩) E.out rfl rfl rfl ?_); clear E; intro g2 u E0 hb0; have E := Lib.hid E0; clear E0 hb0) | ((with_reducible refine kn_box_func (o := ⟨some 2, _, _, _, _, _⟩) E.out rfl rfl rfl ?_); clear E; intro g2 u E0 hb0; have E := Lib.hid E0; clear E0 hb0) | ((with_reducible refine kn_alloc (o := ⟨some 4, _, _, _, _, _⟩) E.out rfl rfl ?_); clear E; intro g4 u E0 hb0; have E := Lib.hid E0; clear E0 hb0) | ((with_reducible refine kn_box (o := ⟨some 4, _, _, _, _, _⟩) E.out rfl rfl rfl ?_); clear E; intro g4 u E0 hb0; have E := Lib.hid E0; clear E0 hb0) | ((with_reducible refine kn_box_int (o := ⟨some 4, _, _, _, _, _⟩) E.out rfl rfl rfl ?_); clear E; intro g4 u E0 hb0; have E := Lib.hid E0; clear E0 hb0) | ((with_reducible refine kn_box_slice (o := ⟨some 4, _, _, _, _, _⟩) E.out rfl rfl rfl ?_); clear E; intro g4 u E0 hb0; have E := Lib.hid E0; clear E0 hb0) | ((with_reducible refine kn_box_bool (o := ⟨some 4, _, _, _, _, _⟩) E.out rfl rfl rfl ?_); clear E; intro g4 u E0 hb0; have E := Lib.hid E0; clear E0 hb0) | ((with_reducible refine kn_box_func (o := ⟨some 4, _, _, _, _, _⟩) E.out rfl rfl rfl ?_); clear E; intro g4 u E0 hb0; have E := Lib.hid E0; clear E0 hb0) | ((with_reducible refine kn_alloc (o := ⟨some 5, _, _, _, _, _⟩) E.out rfl rfl ?_); clear E; intro g5 u E0 hb0; have E := Lib.hid E0; clear E0 hb0) | ((with_reducible refine kn_box (o := ⟨some 5, _, _, _, _, _⟩) E.out rfl rfl rfl ?_); clear E; intro g5 u E0 hb0; have E := Lib.hid E0; clear E0 hb0) | ((with_reducible refine kn_box_int (o := ⟨some 5, _, _, _, _, _⟩) E.out rfl rfl rfl ?_); clear E; intro g5 u E0 hb0; have E := Lib.hid E0; clear E0 hb0) | ((with_reducible refine kn_box_slice (o := ⟨some 5, _, _, _, _, _⟩) E.out rfl rfl rfl ?_); clear E; intro g5 u E0 hb0; have E := Lib.hid E0; clear E0 hb0) | ((with_reducible refine kn_box_bool (o := ⟨some 5, _, _, _, _, _⟩) E.out rfl rfl rfl ?_); clear E; intro g5 u E0 hb0; have E := Lib.hid E0; clear E0 hb0) | ((with_reducible refine kn_box_func (o := ⟨some 5, _, _, _, _, _⟩) E.out rfl rfl rfl ?_); clear E; intro g5 u E0 hb0; have E := Lib.hid E0; clear E0 hb0) | ((with_reducible refine kn_alloc (o := ⟨some 8, _, _, _, _, _⟩) E.out rfl rfl ?_); clear E; intro g8 u E0 hb0; have E := Lib.hid E0; clear E0 hb0) | ((with_reducible refine kn_box (o := ⟨some 8, _, _, _, _, _⟩) E.out rfl rfl rfl ?_); clear E; intro g8 u E0 hb0; have E := Lib.hid E0; clear E0 hb0) | ((with_reducible refine kn_box_int (o := ⟨some 8, _, _, _, _, _⟩) E.out rfl rfl rfl ?_); clear E; intro g8 u E0 hb0; have E := Lib.hid E0; clear E0 hb0) | ((with_reducible refine kn_box_slice (o := ⟨some 8, _, _, _, _, _⟩) E.out rfl rfl rfl ?_); clear E; intro g8 u E0 hb0; have E := Lib.hid E0; clear E0 hb0) | ((with_reducible refine kn_box_bool (o := ⟨some 8, _, _, _, _, _⟩) E.out rfl rfl rfl ?_); clear E; intro g8 u E0 hb0; have E := Lib.hid E0; clear E0 hb0) | ((with_reducible refine kn_box_func (o := ⟨some 8, _, _, _, _, _⟩) E.out rfl rfl rfl ?_); clear E; intro g8 u E0 hb0; have E := Lib.hid E0; clear E0 hb0) | ((with_reducible refine kn_alloc (o := ⟨some 9, _, _, _, _, _⟩) E.out rfl rfl ?_); clear E; intro g9 u E0 hb0; have E := Lib.hid E0; clear E0 hb0) | ((with_reducible refine kn_box (o := ⟨some 9, _, _, _, _, _⟩) E.out rfl rfl rfl ?_); clear E; intro g9 u E0 hb0; have E := Lib.hid E0; clear E0 hb0) | ((with_reducible refine kn_box_int (o := ⟨some 9, _, _, _, _, _⟩) E.out rfl rfl rfl ?_); clear E; intro g9 u E0 hb0; have E := Lib.hid E0; clear E0 hb0) | ((with_reducible refine kn_box_slice (o := ⟨some 9, _, _, _, _, _⟩) E.out rfl rfl rfl ?_); clear E; intro g9 u E0 hb0; have E := Lib.hid E0; clear E0 hb0) | ((with_reducible refine kn_box_bool (o := ⟨some 9, _, _, _, _, _⟩) E.out rfl rfl rfl ?_); clear E; intro g9 u E0 hb0; have E := Lib.hid E0; clear E0 hb0) | ((with_reducible refine kn_box_func (o := ⟨some 9, _, _, _, _, _⟩) E.out rfl rfl rfl ?_); clear E; intro g9 u E0 hb0; have E := Lib.hid E0; clear E0 hb0) | ((with_reducible refine kn_alloc (o := ⟨some 10, _, _, _, _, _⟩) E.out rfl rfl ?_); clear E; intro g10 u E0 hb0; have E := Lib.hid E0; clear E0 hb0) | ((with_reducible refine kn_box (o := ⟨some 10, _, _, _, _, _⟩) E.out rfl rfl rfl ?_); clear E; intro g10 u E0 hb0; have E := Lib.hid E0; clear E0 hb0) | ((with_reducible refine kn_box_int (o := ⟨some 10, _, _, _, _, _⟩) E.out rfl rfl rfl ?_); clear E; intro g10 u E0 hb0; have E := Lib.hid E0; clear E0 hb0) | ((with_reducible refine kn_box_slice (o := ⟨some 10, _, _, _, _, _⟩) E.out rfl rfl rfl ?_); clear E; intro g10 u E0 hb0; have E := Lib.hid E0; clear E0 hb0) | ((with_reducible refine kn_box_bool (o := ⟨some 10, _, _, _, _, _⟩) E.out rfl rfl rfl ?_); clear E; intro g10 u E0 hb0; have E := Lib.hid E0; clear E0 hb0) | ((with_reducible refine kn_box_func (o := ⟨some 10, _, _, _, _, _⟩) E.out rfl rfl rfl ?_); clear E; intro g10 u E0 hb0; have E := Lib.hid E0; clear E0 hb0) | ((with_reducible refine kn_alloc (o := ⟨some 11, _, _, _, _, _⟩) E.out rfl rfl ?_); clear E; intro g11 u E0 hb0; have E := Lib.hid E0; clear E0 hb0) | ((with_reducible refine kn_box (o := ⟨some 11, _, _, _, _, _⟩) E.out rfl rfl rfl ?_); clear E; intro g11 u E0 hb0; have E := Lib.hid E0; clear E0 hb0) | ((with_reducible refine kn_box_int (o := ⟨some 11, _, _, _, _, _⟩) E.out rfl rfl rfl ?_); clear E; intro g11 u E0 hb0; have E := Lib.hid E0; clear E0 hb0) | ((with_reducible refine kn_box_slice (o := ⟨some 11, _, _, _, _, _⟩) E.out rfl rfl rfl ?_); clear E; intro g11 u E0 hb0; have E := Lib.hid E0; clear E0 hb0) | ((with_reducible refine kn_box_bool (o := ⟨some 11, _, _, _, _, _⟩) E.out rfl rfl rfl ?_); clear E; intro g11 u E0 hb0; have E := Lib.hid E0; clear E0 hb0) | ((with_reducible refine kn_box_func (o := ⟨some 11, _, _, _, _, _⟩) E.out rfl rfl rfl ?_); clear E; intro g11 u E0 hb0; have E := Lib.hid E0; clear E0 hb0) | ((with_reducible refine kn_alloc E.out rfl rfl ?_); clear E; intro g u E0 hb0; have E := Lib.hid E0; clear E0 hb0) | ((with_reducible refine kn_box E.out rfl rfl rfl ?_); clear E; intro g u E0 hb0; have E := Lib.hid E0; clear E0 hb0) | ((with_reducible refine kn_box_int E.out rfl rfl rfl ?_); clear E; intro g u E0 hb0; have E := Lib.hid E0; clear E0 hb0) | ((with_reducible refine kn_box_slice E.out rfl rfl rfl ?_); clear E; intro g u E0 hb0; have E := Lib.hid E0; clear E0 hb0) | ((with_reducible refine kn_box_bool E.out rfl rfl rfl ?_); clear E; intro g u E0 hb0; have E := Lib.hid E0; clear E0 hb0) | ((with_reducible refine kn_box_func E.out rfl rfl rfl ?_); clear E; intro g u E0 hb0; have E := Lib.hid E0; clear E0 hb0))
  clear HW1 HW2 hzA hzB hzC htn hwy HCH hs0 hpA hpB hpC hW16 hT16 hC16 hq128
  go_loopw [46] (fun ki wr => ∃ k : Nat, k ≤ 16 ∧ ki = .int .i64 k ∧ Hid (Kn w (.row g11 27 (i64s (FT k)) :: .row ga 3 [.int .i64 (r4 : Int)] :: .row g10 35 (i64s aw) :: .row g9 35 (i64s cw) :: .row g8 78 (i64s en) :: .row g4 27 (i64s Bc.z64) :: R) (rowF g5 3 [.int .i64 (way : Int)] :: rowF g2 49 [.int .i64 (m.P : Int), .int .i64 (m.W : Int), .int .i64 (m.T : Int), .int .i64 (m.C : Int), .int .i64 (m.L : Int), .int .i64 (m.A : Int), .int .i64 (m.E : Int), .int .i64 (m.O : Int), .int .i64 (m.F : Int), .int .i64 (m.S : Int)] :: F) wr)) (fun ki _ => 16 - (intOf ki).toNat)
  case atStart => exact ⟨0, by omega, rfl, by rw [HF0.out]; exact E⟩
  case round =>
    clear E
    obtain ⟨k, hk, rfl, E⟩ := hrel
    have hfl := HFL.out k
    by_cases hlt : k < 16
    · obtain ⟨pt, hpt, hp3⟩ := HPT.out k hlt
      have hPA := HPA.out k
      have hBT := HBT.out k pt hlt hpt
      have hTX := HTX.out k hlt pt hpt
      have hFS := HFS.out k
      have hTL := HTXL.out k
      rw [hpt] at hPA
      replace hPA := Lib.hid hPA
      clear HPT HPA HBT HTX HFS HTXL HFL HF0 hpt
      obtain ⟨n, hn⟩ : ∃ n, 2 * pt = n := ⟨_, rfl⟩
      rw [hn] at hBT hTX
      have hn4 : n ≤ 4 := by omega
      obtain ⟨n1, hn1⟩ : ∃ z, n + 1 = z := ⟨_, rfl⟩
      rw [hn1] at hBT hTX
      have hw1 := Lib.hid (show IntKind.i64.wrap ((n : Int) + 1) = (n1 : Int) from by rw [IntKind.wrap_i64]; omega)
      have hn5 : n1 ≤ 5 := by omega
      clear hn1
      have h2n := Lib.hid (show (2 : Int) * (pt : Int) = (n : Int) from by omega)
      clear hn
      have hcg := i64s_get cw k (by omega)
      have hag := i64s_get aw k (by omega)
      generalize cw.getD k 0 = cv at *
      generalize aw.getD k 0 = av at *
      have hTU := HTU.out (btV (List.take 4 (List.drop (n * 4) en)) (List.take 4 (List.drop (n1 * 4) en)) cv av) rfl
      rw [← hTX] at hTU
      clear HTU hTX
      generalize btV (List.take 4 (List.drop (n * 4) en)) (List.take 4 (List.drop (n1 * 4) en)) cv av = bv at *
      generalize TT k = tx at *
      replace hBT := Lib.hid hBT
      replace hTU := Lib.hid hTU
      replace hFS := Lib.hid hFS
      replace hcg := Lib.hid hcg
      replace hag := Lib.hid hag
      replace hTL := Lib.hid hTL
      have hn6 : (n : Int) < 6 := by omega
      have hn7 : (n1 : Int) < 6 := by omega
      go_wp2_with (first
        | (go_at_call 46; refine (hPA.out _ (E.out.get (by simp [hT]))).mono ?_; clear hPA; rintro e w1 ⟨rfl, hb⟩; have E1 := Lib.hid (E.out.later hb); clear hb E; have E := E1; clear E1)
        | ((with_reducible refine kn_load (g := g2) (i := 0) E.out rfl rfl rfl rfl ?_))
        | ((with_reducible refine kn_load (g := g5) (i := 0) E.out rfl rfl rfl rfl ?_))
        | ((with_reducible refine kn_load E.out rfl rfl rfl rfl ?_)) | ((with_reducible refine kn_load_if E.out rfl rfl rfl rfl ?_)) | ((with_reducible refine kn_loads E.out rfl rfl rfl ?_ ?_); (focus (first | rfl | (simp only [i64s_length, u8s_length]; first | rfl | assumption | omega)))) | ((with_reducible refine kn_loads_if E.out rfl rfl rfl ?_ ?_); (focus (first | rfl | (simp only [i64s_length, u8s_length]; first | rfl | assumption | omega)))) | ((with_reducible refine kn_store1_int E.out rfl rfl rfl rfl rfl ?_); clear E; intro u E0; have E := Lib.hid E0; clear E0) | ((with_reducible refine kn_store1_slice E.out rfl rfl rfl rfl rfl ?_); clear E; intro u E0; have E := Lib.hid E0; clear E0) | ((with_reducible refine kn_store1_bool E.out rfl rfl rfl rfl rfl ?_); clear E; intro u E0; have E := Lib.hid E0; clear E0) | ((with_reducible refine kn_stores E.out rfl rfl rfl rfl rfl ?_ ?_ ?_); (focus (first | exact ⟨rfl, rfl⟩ | (simp only [i64s_length, u8s_length]; refine ⟨?_, ?_⟩ <;> first | rfl | assumption | omega))); (focus (first | exact i64s_one _ | exact u8s_one _ | simp [Value.oneCell'])); clear E; intro u E0; have E := Lib.hid E0; clear E0) | ((with_reducible refine kn_alloc E.out rfl rfl ?_); clear E; intro g u E0 hb0; have E := Lib.hid E0; clear E0 hb0) | ((with_reducible refine kn_box E.out rfl rfl rfl ?_); clear E; intro g u E0 hb0; have E := Lib.hid E0; clear E0 hb0) | ((with_reducible refine kn_box_int E.out rfl rfl rfl ?_); clear E; intro g u E0 hb0; have E := Lib.hid E0; clear E0 hb0) | ((with_reducible refine kn_box_slice E.out rfl rfl rfl ?_); clear E; intro g u E0 hb0; have E := Lib.hid E0; clear E0 hb0) | ((with_reducible refine kn_box_bool E.out rfl rfl rfl ?_); clear E; intro g u E0 hb0; have E := Lib.hid E0; clear E0 hb0) | ((with_reducible refine kn_box_func E.out rfl rfl rfl ?_); clear E; intro g u E0 hb0; have E := Lib.hid E0; clear E0 hb0))
      simp only [h2n.out]
      refine wp_region_held_drew (S := Kn w (.row ga 3 [.int .i64 (r4 : Int)] :: .row g10 35 (i64s aw) :: .row g9 35 (i64s cw) :: .row g8 78 (i64s en) :: .row g4 27 (i64s Bc.z64) :: R) (rowF g5 3 [.int .i64 (way : Int)] :: rowF g2 49 [.int .i64 (m.P : Int), .int .i64 (m.W : Int), .int .i64 (m.T : Int), .int .i64 (m.C : Int), .int .i64 (m.L : Int), .int .i64 (m.A : Int), .int .i64 (m.E : Int), .int .i64 (m.O : Int), .int .i64 (m.F : Int), .int .i64 (m.S : Int)] :: F)) (by kernel_rfl) (E.out.drew.part _ _ (by repeat (first | exact List.Sublist.refl _ | apply List.Sublist.cons_cons | apply List.Sublist.cons)) (fun _ h => h)) (fun kS => ?_)
      have E1 := Lib.hid E.out.drew
      generalize World.drew _ = u1 at kS E1 ⊢
      clear E
      have E := E1
      clear E1
      (refine takeL (i := 0) (v := _) rfl (by kernel_rfl) (by kernel_rfl) (by kernel_rfl) (fun _ _ _ h => h) (by first | exact Or.inl ⟨by rfl, (by intro u hSu; clear hSu; go_simp; try with_reducible rfl)⟩ | exact Or.inr ⟨by rfl, rfl⟩) kS ?_; (try simp only [Act.put, List.setIfInBounds_toArray, List.set_cons_zero, List.set_cons_succ])); (refine takeL (i := 1) (v := _) rfl (by kernel_rfl) (by kernel_rfl) (by kernel_rfl) (fun _ _ _ h => h) (by first | exact Or.inl ⟨by rfl, (by intro u hSu; clear hSu; go_simp; try with_reducible rfl)⟩ | exact Or.inr ⟨by rfl, rfl⟩) kS ?_; (try simp only [Act.put, List.setIfInBounds_toArray, List.set_cons_zero, List.set_cons_succ])); (refine takeL (i := 2) (v := _) rfl (by kernel_rfl) (by kernel_rfl) (by kernel_rfl) (fun _ _ _ h => h) (by first | exact Or.inl ⟨by rfl, (by intro u hSu; clear hSu; go_simp; try with_reducible rfl)⟩ | exact Or.inr ⟨by rfl, rfl⟩) kS ?_; (try simp only [Act.put, List.setIfInBounds_toArray, List.set_cons_zero, List.set_cons_succ]))
      (refine takeL (i := 3) (v := _) rfl (by kernel_rfl) (by kernel_rfl) (by kernel_rfl) (fun _ _ _ h => h) (yield_loadp (g := g8) (off := n * 4) rfl rfl rfl (by omega)) kS ?_; (try simp only [Act.put, List.setIfInBounds_toArray, List.set_cons_zero, List.set_cons_succ]))
      (refine takeL (i := 4) (v := _) rfl (by kernel_rfl) (by kernel_rfl) (by kernel_rfl) (fun _ _ _ h => h) (by first | exact Or.inl ⟨by rfl, (by intro u hSu; clear hSu; go_simp; try with_reducible rfl)⟩ | exact Or.inr ⟨by rfl, rfl⟩) kS ?_; (try simp only [Act.put, List.setIfInBounds_toArray, List.set_cons_zero, List.set_cons_succ])); (refine takeL (i := 5) (v := _) rfl (by kernel_rfl) (by kernel_rfl) (by kernel_rfl) (fun _ _ _ h => h) (by first | exact Or.inl ⟨by rfl, (by intro u hSu; clear hSu; go_simp; try with_reducible rfl)⟩ | exact Or.inr ⟨by rfl, rfl⟩) kS ?_; (try simp only [Act.put, List.setIfInBounds_toArray, List.set_cons_zero, List.set_cons_succ]))
      rw [hw1.out]
      (refine takeL (i := 6) (v := _) rfl (by kernel_rfl) (by kernel_rfl) (by kernel_rfl) (fun _ _ _ h => h) (by first | exact Or.inl ⟨by rfl, (by intro u hSu; clear hSu; go_simp; try with_reducible rfl)⟩ | exact Or.inr ⟨by rfl, rfl⟩) kS ?_; (try simp only [Act.put, List.setIfInBounds_toArray, List.set_cons_zero, List.set_cons_succ]))
      (refine takeL (i := 7) (v := _) rfl (by kernel_rfl) (by kernel_rfl) (by kernel_rfl) (fun _ _ _ h => h) (yield_loadp (g := g8) (off := n1 * 4) rfl rfl rfl (by omega)) kS ?_; (try simp only [Act.put, List.setIfInBounds_toArray, List.set_cons_zero, List.set_cons_succ]))
      (refine takeL (i := 8) (v := _) rfl (by kernel_rfl) (by kernel_rfl) (by kernel_rfl) (fun _ _ _ h => h) (by first | exact Or.inl ⟨by rfl, (by intro u hSu; clear hSu; go_simp; try with_reducible rfl)⟩ | exact Or.inr ⟨by rfl, rfl⟩) kS ?_; (try simp only [Act.put, List.setIfInBounds_toArray, List.set_cons_zero, List.set_cons_succ])); (refine takeL (i := 9) (v := _) rfl (by kernel_rfl) (by kernel_rfl) (by kernel_rfl) (fun _ _ _ h => h) (by first | exact Or.inl ⟨by rfl, (by intro u hSu; clear hSu; go_simp; try with_reducible rfl)⟩ | exact Or.inr ⟨by rfl, rfl⟩) kS ?_; (try simp only [Act.put, List.setIfInBounds_toArray, List.set_cons_zero, List.set_cons_succ]))
      (refine takeL (i := 10) (v := _) rfl (by kernel_rfl) (by kernel_rfl) (by kernel_rfl) (fun _ _ _ h => h) (yield_load (g := g9) (i := k) rfl rfl rfl hcg.out) kS ?_; (try simp only [Act.put, List.setIfInBounds_toArray, List.set_cons_zero, List.set_cons_succ]))
      (refine takeL (i := 11) (v := _) rfl (by kernel_rfl) (by kernel_rfl) (by kernel_rfl) (fun _ _ _ h => h) (by first | exact Or.inl ⟨by rfl, (by intro u hSu; clear hSu; go_simp; try with_reducible rfl)⟩ | exact Or.inr ⟨by rfl, rfl⟩) kS ?_; (try simp only [Act.put, List.setIfInBounds_toArray, List.set_cons_zero, List.set_cons_succ])); (refine takeL (i := 12) (v := _) rfl (by kernel_rfl) (by kernel_rfl) (by kernel_rfl) (fun _ _ _ h => h) (by first | exact Or.inl ⟨by rfl, (by intro u hSu; clear hSu; go_simp; try with_reducible rfl)⟩ | exact Or.inr ⟨by rfl, rfl⟩) kS ?_; (try simp only [Act.put, List.setIfInBounds_toArray, List.set_cons_zero, List.set_cons_succ]))
      (refine takeL (i := 13) (v := _) rfl (by kernel_rfl) (by kernel_rfl) (by kernel_rfl) (fun _ _ _ h => h) (yield_load (g := g10) (i := k) rfl rfl rfl hag.out) kS ?_; (try simp only [Act.put, List.setIfInBounds_toArray, List.set_cons_zero, List.set_cons_succ]))
      (refine takeL (i := 15) (v := _) rfl (by kernel_rfl) (by kernel_rfl) (by kernel_rfl) (fun _ _ _ h => h) (by first | exact Or.inl ⟨by rfl, (by intro u hSu; clear hSu; go_simp; try with_reducible rfl)⟩ | exact Or.inr ⟨by rfl, rfl⟩) kS ?_; (try simp only [Act.put, List.setIfInBounds_toArray, List.set_cons_zero, List.set_cons_succ]))
      refine callL (i := 14) rfl (by kernel_rfl) (fun K hK => ?_)
      (go_simp; refine (hBT.out _).mono ?_; rintro e w1 ⟨rfl, hb⟩; go_wp2_with fail; have E1 := Lib.hid (E.out.later hb); clear hb E; have E := E1; clear E1; (refine hK.out _ _ (E.out.part _ _ (by repeat (first | exact List.Sublist.refl _ | apply List.Sublist.cons_cons | apply List.Sublist.cons)) (fun _ h => h)) (fun kS => ?_); clear hK K; (try simp only [Act.put, List.setIfInBounds_toArray, List.set_cons_zero, List.set_cons_succ])))
      refine callL (i := 16) rfl (by kernel_rfl) (fun K hK => ?_)
      (go_simp; refine (hTU.out _).mono ?_; rintro e w1 ⟨rfl, hb⟩; go_wp2_with fail; have E1 := Lib.hid (E.out.later hb); clear hb E; have E := E1; clear E1; (refine hK.out _ _ (E.out.part _ _ (by repeat (first | exact List.Sublist.refl _ | apply List.Sublist.cons_cons | apply List.Sublist.cons)) (fun _ h => h)) (fun kS => ?_); clear hK K; (try simp only [Act.put, List.setIfInBounds_toArray, List.set_cons_zero, List.set_cons_succ])))
      (refine takeL (i := 17) (v := _) rfl (by kernel_rfl) (by kernel_rfl) (by kernel_rfl) (fun _ _ _ h => h) (by first | exact Or.inl ⟨by rfl, (by intro u hSu; clear hSu; go_simp; try with_reducible rfl)⟩ | exact Or.inr ⟨by rfl, rfl⟩) kS ?_; (try simp only [Act.put, List.setIfInBounds_toArray, List.set_cons_zero, List.set_cons_succ]))
      refine callL (i := 18) rfl (by kernel_rfl) (fun K hK => ?_)
      (rw [if_pos (by rfl)]; refine wp_kn_storep (ys := tx) E.out rfl rfl rfl rfl hTL.out (by omega) ?_; clear E kS; intro u E0; have E := Lib.hid E0; clear E0; (refine hK.out _ _ (E.out.part _ _ (by repeat (first | exact List.Sublist.refl _ | apply List.Sublist.cons_cons | apply List.Sublist.cons)) (fun _ h => h)) (fun kS => ?_); clear hK K; (try simp only [Act.put, List.setIfInBounds_toArray, List.set_cons_zero, List.set_cons_succ])))
      refine wpAnyH_done (by kernel_rfl) ?_ _
      go_wp2_with fail
      go_roundw
      case rel => exact ⟨k + 1, by omega, by go_num, by rw [hFS.out]; exact E⟩
      case measure => simp [intOf]; try omega
    · obtain rfl : k = 16 := by omega
      clear HPT HPA HBT HTX HFS HTXL HFL HF0 HTU
      go_wp2_with (first | ((with_reducible refine kn_load E.out rfl rfl rfl rfl ?_)) | ((with_reducible refine kn_load_if E.out rfl rfl rfl rfl ?_)) | ((with_reducible refine kn_loads E.out rfl rfl rfl ?_ ?_); (focus (first | rfl | (simp only [i64s_length, u8s_length]; first | rfl | assumption | omega)))) | ((with_reducible refine kn_loads_if E.out rfl rfl rfl ?_ ?_); (focus (first | rfl | (simp only [i64s_length, u8s_length]; first | rfl | assumption | omega)))) | ((with_reducible refine kn_store1_int E.out rfl rfl rfl rfl rfl ?_); clear E; intro u E0; have E := Lib.hid E0; clear E0) | ((with_reducible refine kn_store1_slice E.out rfl rfl rfl rfl rfl ?_); clear E; intro u E0; have E := Lib.hid E0; clear E0) | ((with_reducible refine kn_store1_bool E.out rfl rfl rfl rfl rfl ?_); clear E; intro u E0; have E := Lib.hid E0; clear E0) | ((with_reducible refine kn_stores E.out rfl rfl rfl rfl rfl ?_ ?_ ?_); (focus (first | exact ⟨rfl, rfl⟩ | (simp only [i64s_length, u8s_length]; refine ⟨?_, ?_⟩ <;> first | rfl | assumption | omega))); (focus (first | exact i64s_one _ | exact u8s_one _ | simp [Value.oneCell'])); clear E; intro u E0; have E := Lib.hid E0; clear E0) | ((with_reducible refine kn_alloc E.out rfl rfl ?_); clear E; intro g u E0 hb0; have E := Lib.hid E0; clear E0 hb0) | ((with_reducible refine kn_box E.out rfl rfl rfl ?_); clear E; intro g u E0 hb0; have E := Lib.hid E0; clear E0 hb0) | ((with_reducible refine kn_box_int E.out rfl rfl rfl ?_); clear E; intro g u E0 hb0; have E := Lib.hid E0; clear E0 hb0) | ((with_reducible refine kn_box_slice E.out rfl rfl rfl ?_); clear E; intro g u E0 hb0; have E := Lib.hid E0; clear E0 hb0) | ((with_reducible refine kn_box_bool E.out rfl rfl rfl ?_); clear E; intro g u E0 hb0; have E := Lib.hid E0; clear E0 hb0) | ((with_reducible refine kn_box_func E.out rfl rfl rfl ?_); clear E; intro g u E0 hb0; have E := Lib.hid E0; clear E0 hb0))
      refine bodyPost_ret (results_kn E.out rfl _ rfl (by rw [i64s_length]; exact hfl)) rfl ?_
      exact ⟨rfl, E.out.part _ _ (by repeat (first | exact List.Sublist.refl _ | apply List.Sublist.cons_cons | apply List.Sublist.cons)) (fun _ h => List.mem_cons_of_mem _ (List.mem_cons_of_mem _ h))⟩
end Go.Proofs.YtnoailihkjccbaaDoor
