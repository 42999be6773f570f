/- The document's Decode. -/
import Derived.Test.YtnoailihkjccbaaDoorB7P12
import Derived.Test.YtnoailihkjccbaaDoorB7P34
import Derived.Test.YtnoailihkjccbaaDoorB7P56
import Derived.Test.YtnoailihkjccbaaDoorB7P78
import Derived.Test.YtnoailihkjccbaaDoorB7P910
import Derived.Test.YtnoailihkjccbaaDoorB7P11
import Derived.Test.YtnoailihkjccbaaDoorB7P1213
set_option linter.all false
namespace Go.Proofs.YtnoailihkjccbaaDoor
open Go.RowKit
open Bi Lv Bt B7

set_option maxHeartbeats 4000000 in
set_option maxRecDepth 100000 in
theorem rdec_ok (A : Option Addr) (c : Nat) (xs : List Nat) (w : World) (h : Bs w w.heap.size A 16 xs) (hm : modeN (xs.getD 0 0) < 8) :
    Calls Tryd.prog 10 #[.slice A 16 c] w fun e w' => e = .returned (.tuple #[arr (decV xs), .int .i64 0]) ∧ Below w.heap.size w w' := by
  have E := Lib.hid ((Kn.start w).arg_bs h)
  have hM := Lib.hid (fun (u : World) (hu : Bs u u.heap.size A 16 xs) => rmode_ok A c xs u hu)
  have hd : decV xs = tileV (md (modeN (xs.getD 0 0))) xs (modeN (xs.getD 0 0) + 1) := by unfold decV; simp only; rw [if_neg (by omega)]
  rw [hd]
  generalize modeN (xs.getD 0 0) = k at *
  have hok := Lib.hid (md_ok k hm)
  have hmc := Lib.hid (md_cells k hm)
  have hl := Lib.hid (show (tileV (md k) xs (k + 1)).length = 64 from tileV_length _ _ _)
  have hMo := Lib.hid (fun u => rmodes u)
  have hk8 : (k : Int) < 8 := by omega
  have hk9 : ¬ ((k : Int) = 8) := by omega
  generalize md k = m at *
  generalize i64s modesL = M at *
  have hML : i64s m.vals = [.int .i64 (m.P : Int), .int .i64 (m.W : Int), .int .i64 (m.T : Int), .int .i64 (m.C : Int), .int .i64 (m.L : Int), .int .i64 (m.A : Int), .int .i64 (m.E : Int), .int .i64 (m.O : Int), .int .i64 (m.F : Int), .int .i64 (m.S : Int)] := rfl
  rw [hML, Nat.mul_comm] at hmc
  obtain ⟨k1, hk1⟩ : ∃ z, k + 1 = z := ⟨_, rfl⟩
  rw [hk1] at hok hl ⊢
  have hw1 := Lib.hid (show IntKind.i64.wrap ((k : Int) + 1) = (k1 : Int) from by rw [IntKind.wrap_i64]; omega)
  have hBu := fun (u : World) => (run_build u _ _ _ (by kernel_rfl) : (Instr.build 27 #[]).run Tryd.prog u = .ok (arr Bc.z64) u)
  have hk1i := Lib.hid (show (k : Int) + 1 = (k1 : Int) from by omega)
  have hkp := hok.out
  have hP3 : 2 * m.P ≤ 6 := by have := hkp.P3; omega
  have hmP : m.P ≤ 3 := hkp.P3
  have hwP := Lib.hid (show 2 * (m.P : Int) = ((2 * m.P : Nat) : Int) from by omega)
  have hW16 := Lib.hid (show m.W ≤ 16 ∧ m.T ≤ 16 ∧ m.C ≤ 16 from by have := hkp.W6; have := hkp.T2; have := hkp.C1; omega)
  obtain ⟨p1, hp1⟩ : ∃ z, k1 + m.W = z := ⟨_, rfl⟩
  obtain ⟨p2, hp2⟩ : ∃ z, p1 + m.T = z := ⟨_, rfl⟩
  obtain ⟨p3, hp3⟩ : ∃ z, p2 + m.C = z := ⟨_, rfl⟩
  have hz1 := Lib.hid (show ((p1 : Nat) : Int) = (k1 : Int) + (m.W : Int) from by omega)
  have hz2 := Lib.hid (show ((p2 : Nat) : Int) = (p1 : Int) + (m.T : Int) from by omega)
  have hz3 := Lib.hid (show ((p3 : Nat) : Int) = (p2 : Int) + (m.C : Int) from by omega)
  have hall : p3 ≤ 128 := by
    have h1 := hkp.all
    have h2 : q1 m k1 ≤ mpos m (cb m (q1 m k1) 4) (2 * m.P) := Nat.le_trans (cb_mono m (q1 m k1) 0 4 (by omega)) (by unfold mpos; split <;> omega)
    have h3 : q1 m k1 = p3 := by unfold q1; omega
    unfold q1 at h2 h3
    omega
  have hq3 := Lib.hid (show cb m p3 4 ≤ 128 from by
    have h1 := hkp.all
    have h3 : q1 m k1 = p3 := by unfold q1; omega
    have h2 : cb m p3 4 ≤ mpos m (cb m p3 4) (2 * m.P) := by unfold mpos; split <;> omega
    unfold q1 at h3
    rw [h3] at h1
    omega)
  have hall7 := Lib.hid (show mpos m (cb m p3 4) (2 * m.P) ≤ 128 from by
    have h1 := hkp.all
    have h3 : q1 m k1 = p3 := by unfold q1; omega
    unfold q1 at h3
    rw [h3] at h1
    omega)
  have hb1 := Lib.hid (show k1 + m.W ≤ 128 ∧ p1 + m.T ≤ 128 ∧ p2 + m.C ≤ 128 from by omega)
  obtain ⟨wy, hwy⟩ : ∃ z, getN xs false k1 m.W = z := ⟨_, rfl⟩
  obtain ⟨tn, htn⟩ : ∃ z, getN xs false p1 m.T = z := ⟨_, rfl⟩
  obtain ⟨ch, hch⟩ : ∃ z, getN xs false p2 m.C = z := ⟨_, rfl⟩
  replace hwy := Lib.hid hwy
  replace htn := Lib.hid htn
  replace hch := Lib.hid hch
  replace hp1 := Lib.hid hp1
  replace hp2 := Lib.hid hp2
  replace hp3 := Lib.hid hp3
  obtain ⟨n, hn⟩ : ∃ n, n = 2 * m.P := ⟨_, rfl⟩
  rw [← hn] at hwP hP3 hall7
  replace hn := Lib.hid hn
  have hs1 := Lib.hid (show s1 m xs p3 0 0 = List.replicate (n * 4) 0 from by rw [hn.out]; exact s1_zero _ _ _)
  have HST := Lib.hid (fun c1 i (hc : c1 < 4) => show (s1 m xs p3 c1 i).set (i * 4 + c1) ((getN xs false (cb m p3 c1 + i * wd m c1) (wd m c1) : Nat) : Int) = s1 m xs p3 c1 (i + 1) from s1_set m xs p3 c1 i hc)
  have HSN := Lib.hid (fun c1 => show s1 m xs p3 c1 n = s1 m xs p3 (c1 + 1) 0 from by rw [hn.out]; exact s1_next m xs p3 c1)
  have HSL := Lib.hid (fun c1 i => show (s1 m xs p3 c1 i).length = n * 4 from by rw [hn.out]; exact s1_length m xs p3 c1 i)
  have HCB := Lib.hid (fun c1 => show cb m p3 (c1 + 1) = cb m p3 c1 + n * wd m c1 from by rw [hn.out]; rfl)
  have HCI := Lib.hid (fun c1 i (hc : c1 < 4) (hi : i < n) => show cb m p3 c1 + i * wd m c1 + wd m c1 ≤ 128 from by
    have h0 := hq3.out
    have h1 := cb_in m p3 c1 i (by rw [← hn.out]; exact hi)
    have h2 := cb_mono m p3 (c1 + 1) 4 (by omega)
    omega)
  have HWD := Lib.hid (fun c1 => show wd m c1 ≤ 16 from by have := hok.out.A8; have := hok.out.L8; unfold wd; split <;> omega)
  obtain ⟨TV, hTV⟩ : ∃ z, tileV m xs k1 = z := ⟨_, rfl⟩
  rw [hTV] at hl ⊢
  replace hTV := Lib.hid hTV
  clear hML h hd hk1 hkp hall
  go_enter Tryd.func10, Tryd.ntmps10
  go_wp2_with (first
    | (go_at_call 12; refine (hM.out _ (E.out.bs (by simp))).mono ?_; clear hM; rintro e w1 ⟨rfl, rfl⟩)
    | (go_at_call 25; refine (hMo.out _).mono ?_; clear hMo; rintro e w2 ⟨g1, rfl, hg1, hr1, hb⟩; have E1 := Lib.hid (E.out.newrow hb hg1 hr1); clear E hb hg1 hr1; have E := E1; clear E1)
    | ((with_reducible refine kn_loadv (g := g1) (off := k * 10) E.out rfl rfl rfl hmc.out rfl ?_))
    | (go_at_call 26; (first
        | rw [hk1i.out] at E; refine (rtake_any E.out g59 A c xs k1 m.W _ _ rfl hz1.out (by simp) hW16.out.1 hb1.out.1).mono ?_; rw [hwy.out]
        | refine (rtake_any E.out g59 A c xs p1 m.T _ _ rfl hz2.out (by simp) hW16.out.2.1 hb1.out.2.1).mono ?_; rw [htn.out]
        | refine (rtake_any E.out g59 A c xs p2 m.C _ _ rfl hz3.out (by simp) hW16.out.2.2 hb1.out.2.2).mono ?_; rw [hch.out]); rintro e w2 ⟨rfl, E0⟩; clear E; have E := Lib.hid E0; clear E0)
    | ((refine kn_maketx (n := n) E.out rfl rfl (congrArg (Value.int .i64) hwP.out) (congrArg (Value.int .i64) hwP.out) hP3 ?_); clear E; intro gs u E0; rw [← hs1.out] at E0; have E := Lib.hid E0; clear E0)
    | ((with_reducible refine kn_load E.out rfl rfl rfl rfl ?_)) | ((with_reducible refine kn_load_if E.out rfl rfl rfl rfl ?_)) | ((with_reducible refine kn_loads E.out rfl rfl rfl ?_ ?_); (focus (first | rfl | (simp only [i64s_length, u8s_length]; first | rfl | assumption | omega)))) | ((with_reducible refine kn_loads_if E.out rfl rfl rfl ?_ ?_); (focus (first | rfl | (simp only [i64s_length, u8s_length]; first | rfl | assumption | omega)))) | ((with_reducible refine kn_store1_int E.out rfl rfl rfl rfl rfl ?_); clear E; intro u E0; have E := Lib.hid E0; clear E0) | ((with_reducible refine kn_store1_slice E.out rfl rfl rfl rfl rfl ?_); clear E; intro u E0; have E := Lib.hid E0; clear E0) | ((with_reducible refine kn_store1_bool E.out rfl rfl rfl rfl rfl ?_); clear E; intro u E0; have E := Lib.hid E0; clear E0) | ((with_reducible refine kn_stores E.out rfl rfl rfl rfl rfl ?_ ?_ ?_); (focus (first | exact ⟨rfl, rfl⟩ | (simp only [i64s_length, u8s_length]; refine ⟨?_, ?_⟩ <;> first | rfl | assumption | omega))); (focus (first | exact i64s_one _ | exact u8s_one _ | simp [Value.oneCell'])); clear E; intro u E0; have E := Lib.hid E0; clear E0) | ((with_reducible refine kn_alloc (o := ⟨some 2, _, _, _, _, _⟩) E.out rfl rfl ?_); clear E; intro g2 u E0 hb0; have E := Lib.hid E0; clear E0 hb0) | ((with_reducible refine kn_box (o := ⟨some 2, _, _, _, _, _⟩) E.out rfl rfl rfl ?_); clear E; intro g2 u E0 hb0; have E := Lib.hid E0; clear E0 hb0) | ((with_reducible refine kn_box_int (o := ⟨some 2, _, _, _, _, _⟩) E.out rfl rfl rfl ?_); clear E; intro g2 u E0 hb0; have E := Lib.hid E0; clear E0 hb0) | ((with_reducible refine kn_box_slice (o := ⟨some 2, _, _, _, _, _⟩) E.out rfl rfl rfl ?_); clear E; intro g2 u E0 hb0; have E := Lib.hid E0; clear E0 hb0) | ((with_reducible refine kn_box_bool (o := ⟨some 2, _, _, _, _, _⟩) E.out rfl rfl rfl ?_); clear E; intro g2 u E0 hb0; have E := Lib.hid E0; clear E0 hb0) | ((with_reducible refine kn_box_func (o := ⟨some 2, _, _, _, _, _⟩) E.out rfl rfl rfl ?_); clear E; intro g2 u E0 hb0; have E := Lib.hid E0; clear E0 hb0) | ((with_reducible refine kn_alloc (o := ⟨some 4, _, _, _, _, _⟩) E.out rfl rfl ?_); clear E; intro g4 u E0 hb0; have E := Lib.hid E0; clear E0 hb0) | ((with_reducible refine kn_box (o := ⟨some 4, _, _, _, _, _⟩) E.out rfl rfl rfl ?_); clear E; intro g4 u E0 hb0; have E := Lib.hid E0; clear E0 hb0) | ((with_reducible refine kn_box_int (o := ⟨some 4, _, _, _, _, _⟩) E.out rfl rfl rfl ?_); clear E; intro g4 u E0 hb0; have E := Lib.hid E0; clear E0 hb0) | ((with_reducible refine kn_box_slice (o := ⟨some 4, _, _, _, _, _⟩) E.out rfl rfl rfl ?_); clear E; intro g4 u E0 hb0; have E := Lib.hid E0; clear E0 hb0) | ((with_reducible refine kn_box_bool (o := ⟨some 4, _, _, _, _, _⟩) E.out rfl rfl rfl ?_); clear E; intro g4 u E0 hb0; have E := Lib.hid E0; clear E0 hb0) | ((with_reducible refine kn_box_func (o := ⟨some 4, _, _, _, _, _⟩) E.out rfl rfl rfl ?_); clear E; intro g4 u E0 hb0; have E := Lib.hid E0; clear E0 hb0) | ((with_reducible refine kn_alloc (o := ⟨some 6, _, _, _, _, _⟩) E.out rfl rfl ?_); clear E; intro g6 u E0 hb0; have E := Lib.hid E0; clear E0 hb0) | ((with_reducible refine kn_box (o := ⟨some 6, _, _, _, _, _⟩) E.out rfl rfl rfl ?_); clear E; intro g6 u E0 hb0; have E := Lib.hid E0; clear E0 hb0) | ((with_reducible refine kn_box_int (o := ⟨some 6, _, _, _, _, _⟩) E.out rfl rfl rfl ?_); clear E; intro g6 u E0 hb0; have E := Lib.hid E0; clear E0 hb0) | ((with_reducible refine kn_box_slice (o := ⟨some 6, _, _, _, _, _⟩) E.out rfl rfl rfl ?_); clear E; intro g6 u E0 hb0; have E := Lib.hid E0; clear E0 hb0) | ((with_reducible refine kn_box_bool (o := ⟨some 6, _, _, _, _, _⟩) E.out rfl rfl rfl ?_); clear E; intro g6 u E0 hb0; have E := Lib.hid E0; clear E0 hb0) | ((with_reducible refine kn_box_func (o := ⟨some 6, _, _, _, _, _⟩) E.out rfl rfl rfl ?_); clear E; intro g6 u E0 hb0; have E := Lib.hid E0; clear E0 hb0) | ((with_reducible refine kn_alloc (o := ⟨some 59, _, _, _, _, _⟩) E.out rfl rfl ?_); clear E; intro g59 u E0 hb0; have E := Lib.hid E0; clear E0 hb0) | ((with_reducible refine kn_box (o := ⟨some 59, _, _, _, _, _⟩) E.out rfl rfl rfl ?_); clear E; intro g59 u E0 hb0; have E := Lib.hid E0; clear E0 hb0) | ((with_reducible refine kn_box_int (o := ⟨some 59, _, _, _, _, _⟩) E.out rfl rfl rfl ?_); clear E; intro g59 u E0 hb0; have E := Lib.hid E0; clear E0 hb0) | ((with_reducible refine kn_box_slice (o := ⟨some 59, _, _, _, _, _⟩) E.out rfl rfl rfl ?_); clear E; intro g59 u E0 hb0; have E := Lib.hid E0; clear E0 hb0) | ((with_reducible refine kn_box_bool (o := ⟨some 59, _, _, _, _, _⟩) E.out rfl rfl rfl ?_); clear E; intro g59 u E0 hb0; have E := Lib.hid E0; clear E0 hb0) | ((with_reducible refine kn_box_func (o := ⟨some 59, _, _, _, _, _⟩) E.out rfl rfl rfl ?_); clear E; intro g59 u E0 hb0; have E := Lib.hid E0; clear E0 hb0) | ((with_reducible refine kn_alloc E.out rfl rfl ?_); clear E; intro g u E0 hb0; have E := Lib.hid E0; clear E0 hb0) | ((with_reducible refine kn_box E.out rfl rfl rfl ?_); clear E; intro g u E0 hb0; have E := Lib.hid E0; clear E0 hb0) | ((with_reducible refine kn_box_int E.out rfl rfl rfl ?_); clear E; intro g u E0 hb0; have E := Lib.hid E0; clear E0 hb0) | ((with_reducible refine kn_box_slice E.out rfl rfl rfl ?_); clear E; intro g u E0 hb0; have E := Lib.hid E0; clear E0 hb0) | ((with_reducible refine kn_box_bool E.out rfl rfl rfl ?_); clear E; intro g u E0 hb0; have E := Lib.hid E0; clear E0 hb0) | ((with_reducible refine kn_box_func E.out rfl rfl rfl ?_); clear E; intro g u E0 hb0; have E := Lib.hid E0; clear E0 hb0))
  have E1 : Hid (Kn w [.row gs 25 (i64s (s1 m xs p3 0 0)), .row g59 59 [.slice A 16 c, .int .i64 ((p3 : Nat) : Int)], .row g6 54 [.int .i64 (m.P : Int), .int .i64 (m.W : Int), .int .i64 (m.T : Int), .int .i64 (m.C : Int), .int .i64 (m.L : Int), .int .i64 (m.A : Int), .int .i64 (m.E : Int), .int .i64 (m.O : Int), .int .i64 (m.F : Int), .int .i64 (m.S : Int)], .row g4 27 (i64s Bc.z64), .row g2 27 (i64s Bc.z64)] [bsF A 16 xs] _) := Lib.hid (E.out.part _ _ (by repeat (first | exact List.Sublist.refl _ | apply List.Sublist.cons_cons | apply List.Sublist.cons)) (by simp))
  clear E
  have E := E1
  clear E1
  refine wp_only' (rd12 m A c xs w _ gs g59 g6 g4 g2 n k1 p3 hok.out hn.out hq3.out _ _ _ _ _ _ _ _ _ _ _ _ _ _ _ _ _ _ _ _ _ _ _ _ _ _ _ _ _ _ _ _ _ _ _ _ _ _ _ _ _ _ _ _ _ _ _ _ _ _ _ _ _ _ _ _ _ _ _ _ _ _ _ _ _ _ _ _ _ _ _ _ _ _ _ _ _ _ _ _ _ _ _ _ _ _ _ _ _ _ _ _ _ _ _ _ _ _ _ _ _ _ _ _ _ _ _ _ _ _ _ _ _ _ _ _ _ _ _ _ _ _ _ _ _ _ _ _ _ _ _ _ _ _ _ _ _ _ _ _ _ _ _ _ _ _ _ _ _ _ _ _ _ _ _ _ _ _ _ _ _ _ _ _ _ _ _ _ _ _ _ _ _ _ _ _ _ _ _ _ _ _ _ _ _ _ _ _ _ _ _ _ _ _ _ _ _ _ _ _ _ _ _ _ _ _ _ _ _ _ _ _ _ _ _ _ _ _ _ _ _ _ _ _ _ _ _ _ _ _ _ _ _ _ _ _ _ _ _ _ _ _ _ _ _ _ _ _ _ _ _ _ _ _ _ _ _ _ _ _ _ _ _ _ _ _ _ _ _ _ _ _ _ _ _ _ _ _ _ _ _ _ _ _ _ _ _ _ _ _ _ _ _ _ _ _ _ _ _ _ _ _ _ _ _ _ _ _ _ _ _ _ _ _ _ _ _ _ _ _ _ _ _ _ _ _ _ _ _ _ _ _ _ _ _ _ _ _ _ _ _ _ _ _ _ _ _ _ _ _ _ _ _ _ _ _ _ _ _ _ _ _ ?_ E)
  clear E
  intro v12 v13 v14 v76 v77 v78 v79 v80 v81 v82 v83 v84 v85 v86 v87 v88 v89 v90 v91 v92 v93 v94 v95 v96 v97 v98 v99 wz E
  obtain ⟨c1, hce⟩ : ∃ c1, c1 = 4 := ⟨4, rfl⟩
  rw [← hce] at E
  ·   have hse : s1 m xs p3 c1 0 = s2 m xs p3 0 := by rw [hce]; exact s1_s2 m xs p3
      have hqe : cb m p3 c1 = cb m p3 4 := by rw [hce]
      rw [hse, hqe] at E
      have hq128 := hq3.out
      have HEV := Lib.hid (fun i c2 (hc : c2 < 4) => show IntKind.i64.wrap (IntKind.i64.wrap (2 * nu m xs p3 (i * 4 + c2)) + ((getN xs false (cb m p3 4 + i) 1 : Nat) : Int)) = e2 m xs p3 (i * 4 + c2) from by
        have hG := G_lt xs (cb m p3 ((i * 4 + c2) % 4) + (i * 4 + c2) / 4 * wd m ((i * 4 + c2) % 4)) (wd m ((i * 4 + c2) % 4))
        have h2 : (2 : Int) ^ wd m ((i * 4 + c2) % 4) ≤ 2 ^ 16 := by
          have : 2 ^ wd m ((i * 4 + c2) % 4) ≤ 2 ^ 16 := Nat.pow_le_pow_right (by omega) (HWD.out _)
          exact_mod_cast this
        have h3 := getN_lt xs false (cb m p3 4 + i) 1 1 (Nat.le_refl _)
        have e : e2 m xs p3 (i * 4 + c2) = 2 * nu m xs p3 (i * 4 + c2) + ((getN xs false (cb m p3 4 + i) 1 : Nat) : Int) := by
          show 2 * nu m xs p3 (i * 4 + c2) + G xs (cb m p3 4 + (i * 4 + c2) / 4) 1 = _
          rw [show (i * 4 + c2) / 4 = i by omega]
          rfl
        rw [e, IntKind.wrap_i64, IntKind.wrap_i64]
        have hn' : nu m xs p3 (i * 4 + c2) = G xs (cb m p3 ((i * 4 + c2) % 4) + (i * 4 + c2) / 4 * wd m ((i * 4 + c2) % 4)) (wd m ((i * 4 + c2) % 4)) := rfl
        rw [hn']
        generalize G xs _ _ = g at *
        generalize getN xs false _ 1 = b at *
        generalize (2 : Int) ^ wd m _ = t at *
        omega)
      have HES := Lib.hid (fun k => s2_set m xs p3 k)
      have HEA := Lib.hid (fun k (hk : k < n * 4) => s2_at m xs p3 k (by rw [← hn.out]; exact hk))
      have HEL := Lib.hid (fun k => show (s2 m xs p3 k).length = n * 4 from by rw [hn.out]; exact s2_length m xs p3 k)
      have HME := Lib.hid (fun (h : m.E = 1) (i : Nat) (hi : i < n) => show cb m p3 4 + i + 1 ≤ 128 from by
        have h1 := hall7.out
        have h2 : mpos m (cb m p3 4) n = cb m p3 4 + n * 1 := by unfold mpos; rw [if_pos (by have := hok.out.EO; omega), h]
        rw [h2] at h1
        omega)
      obtain ⟨q, hq⟩ : ∃ z, cb m p3 4 = z := ⟨_, rfl⟩
      rw [hq] at HEV HME E hq128
      replace hq := Lib.hid hq
      clear HST HSN HSL HCB HCI hs1 hce hse hqe
      go_upto_if 102 with (first | ((with_reducible refine kn_load E.out rfl rfl rfl rfl ?_)) | ((with_reducible refine kn_load_if E.out rfl rfl rfl rfl ?_)) | ((with_reducible refine kn_loads E.out rfl rfl rfl ?_ ?_); (focus (first | rfl | (simp only [i64s_length, u8s_length]; first | rfl | assumption | omega)))) | ((with_reducible refine kn_loads_if E.out rfl rfl rfl ?_ ?_); (focus (first | rfl | (simp only [i64s_length, u8s_length]; first | rfl | assumption | omega)))) | ((with_reducible refine kn_store1_int E.out rfl rfl rfl rfl rfl ?_); clear E; intro u E0; have E := Lib.hid E0; clear E0) | ((with_reducible refine kn_store1_slice E.out rfl rfl rfl rfl rfl ?_); clear E; intro u E0; have E := Lib.hid E0; clear E0) | ((with_reducible refine kn_store1_bool E.out rfl rfl rfl rfl rfl ?_); clear E; intro u E0; have E := Lib.hid E0; clear E0) | ((with_reducible refine kn_stores E.out rfl rfl rfl rfl rfl ?_ ?_ ?_); (focus (first | exact ⟨rfl, rfl⟩ | (simp only [i64s_length, u8s_length]; refine ⟨?_, ?_⟩ <;> first | rfl | assumption | omega))); (focus (first | exact i64s_one _ | exact u8s_one _ | simp [Value.oneCell'])); clear E; intro u E0; have E := Lib.hid E0; clear E0) | ((with_reducible refine kn_alloc E.out rfl rfl ?_); clear E; intro g u E0 hb0; have E := Lib.hid E0; clear E0 hb0) | ((with_reducible refine kn_box E.out rfl rfl rfl ?_); clear E; intro g u E0 hb0; have E := Lib.hid E0; clear E0 hb0) | ((with_reducible refine kn_box_int E.out rfl rfl rfl ?_); clear E; intro g u E0 hb0; have E := Lib.hid E0; clear E0 hb0) | ((with_reducible refine kn_box_slice E.out rfl rfl rfl ?_); clear E; intro g u E0 hb0; have E := Lib.hid E0; clear E0 hb0) | ((with_reducible refine kn_box_bool E.out rfl rfl rfl ?_); clear E; intro g u E0 hb0; have E := Lib.hid E0; clear E0 hb0) | ((with_reducible refine kn_box_func E.out rfl rfl rfl ?_); clear E; intro g u E0 hb0; have E := Lib.hid E0; clear E0 hb0))
      go_cut [15] from 100 to 102 (fun s15 wx => s15 = .int .i64 (m.E : Int) ∧ Hid (Kn w [.row gs 25 (i64s (s2 m xs p3 (n * 4 * m.E))), .row g59 59 [.slice A 16 c, .int .i64 ((q + n * m.E : Nat) : Int)], .row g6 54 [.int .i64 (m.P : Int), .int .i64 (m.W : Int), .int .i64 (m.T : Int), .int .i64 (m.C : Int), .int .i64 (m.L : Int), .int .i64 (m.A : Int), .int .i64 (m.E : Int), .int .i64 (m.O : Int), .int .i64 (m.F : Int), .int .i64 (m.S : Int)], .row g4 27 (i64s Bc.z64), .row g2 27 (i64s Bc.z64)] [bsF A 16 xs] wx))
      case first =>
        obtain ⟨S2, hS2⟩ : ∃ z, s2 m xs p3 = z := ⟨_, rfl⟩
        rw [hS2] at HES HEA HEL E
        replace hS2 := Lib.hid hS2
        have hE1 : m.E ≤ 1 := hok.out.E1
        by_cases hE : m.E = 1
        · have hEb : ((m.E : Int) == 1) = true := by rw [hE]; rfl
          have HI := Lib.hid (HME.out hE)
          have HE := Lib.hid hE
          clear HME hE hE1
          go_wp2_with (first | ((with_reducible refine kn_load E.out rfl rfl rfl rfl ?_)) | ((with_reducible refine kn_load_if E.out rfl rfl rfl rfl ?_)) | ((with_reducible refine kn_loads E.out rfl rfl rfl ?_ ?_); (focus (first | rfl | (simp only [i64s_length, u8s_length]; first | rfl | assumption | omega)))) | ((with_reducible refine kn_loads_if E.out rfl rfl rfl ?_ ?_); (focus (first | rfl | (simp only [i64s_length, u8s_length]; first | rfl | assumption | omega)))) | ((with_reducible refine kn_store1_int E.out rfl rfl rfl rfl rfl ?_); clear E; intro u E0; have E := Lib.hid E0; clear E0) | ((with_reducible refine kn_store1_slice E.out rfl rfl rfl rfl rfl ?_); clear E; intro u E0; have E := Lib.hid E0; clear E0) | ((with_reducible refine kn_store1_bool E.out rfl rfl rfl rfl rfl ?_); clear E; intro u E0; have E := Lib.hid E0; clear E0) | ((with_reducible refine kn_stores E.out rfl rfl rfl rfl rfl ?_ ?_ ?_); (focus (first | exact ⟨rfl, rfl⟩ | (simp only [i64s_length, u8s_length]; refine ⟨?_, ?_⟩ <;> first | rfl | assumption | omega))); (focus (first | exact i64s_one _ | exact u8s_one _ | simp [Value.oneCell'])); clear E; intro u E0; have E := Lib.hid E0; clear E0) | ((with_reducible refine kn_alloc E.out rfl rfl ?_); clear E; intro g u E0 hb0; have E := Lib.hid E0; clear E0 hb0) | ((with_reducible refine kn_box E.out rfl rfl rfl ?_); clear E; intro g u E0 hb0; have E := Lib.hid E0; clear E0 hb0) | ((with_reducible refine kn_box_int E.out rfl rfl rfl ?_); clear E; intro g u E0 hb0; have E := Lib.hid E0; clear E0 hb0) | ((with_reducible refine kn_box_slice E.out rfl rfl rfl ?_); clear E; intro g u E0 hb0; have E := Lib.hid E0; clear E0 hb0) | ((with_reducible refine kn_box_bool E.out rfl rfl rfl ?_); clear E; intro g u E0 hb0; have E := Lib.hid E0; clear E0 hb0) | ((with_reducible refine kn_box_func E.out rfl rfl rfl ?_); clear E; intro g u E0 hb0; have E := Lib.hid E0; clear E0 hb0))
          have hall34 := Lib.hid (show q + n ≤ 128 from by
            by_cases h0 : n = 0
            · omega
            · have := HI.out (n - 1) (by omega); omega)
          clear HEV HI HEA HEL
          refine wp_only' (rd34 m A c xs w _ gs g59 g6 g4 g2 n k1 p3 q hok.out hq.out.symm hn.out hall34.out _ _ _ _ _ _ _ _ _ _ _ _ _ _ _ _ _ _ _ _ _ _ _ _ _ _ _ _ _ _ _ _ _ _ _ _ _ _ _ _ _ _ _ _ _ _ _ _ _ _ _ _ _ _ _ _ _ _ _ _ _ _ _ _ _ _ _ _ _ _ _ _ _ _ _ _ _ _ _ _ _ _ _ _ _ _ _ _ _ _ _ _ _ _ _ _ _ _ _ _ _ _ _ _ _ _ _ _ _ _ _ _ _ _ _ _ _ _ _ _ _ _ _ _ _ _ _ _ _ _ _ _ _ _ _ _ _ _ _ _ _ _ _ _ _ _ _ _ _ _ _ _ _ _ _ _ _ _ _ _ _ _ _ _ _ _ _ _ _ _ _ _ _ _ _ _ _ _ _ _ _ _ _ _ _ _ _ _ _ _ _ _ _ _ _ _ _ _ _ _ _ _ _ _ _ _ _ _ _ _ _ _ _ _ _ _ _ _ _ _ _ _ _ _ _ _ _ _ _ _ _ _ _ _ _ _ _ _ _ _ _ _ _ _ _ _ _ _ _ _ _ _ _ _ _ _ _ _ _ _ _ _ _ _ _ _ _ _ _ _ _ _ _ _ _ _ _ _ _ _ _ _ _ _ _ _ _ _ _ _ _ _ _ _ _ _ _ _ _ _ _ _ _ _ _ _ _ _ _ _ _ _ _ _ _ _ _ _ _ _ _ _ _ _ _ _ _ _ _ _ _ _ _ _ _ _ _ _ _ _ _ _ _ _ _ _ _ _ _ _ _ _ _ _ _ _ _ _ _ _ _ _ ?_ (by rw [hS2.out]; exact E))
          clear E
          intro v16 v17 v18 v103 v104 v105 v106 v107 v108 v109 v110 v111 v112 v113 v114 v115 v116 v117 v118 v119 v120 v121 v122 v123 v124 v125 v126 v127 v128 wz E
          rw [hS2.out] at E
          go_wp2_with (first | ((with_reducible refine kn_load E.out rfl rfl rfl rfl ?_)) | ((with_reducible refine kn_load_if E.out rfl rfl rfl rfl ?_)) | ((with_reducible refine kn_loads E.out rfl rfl rfl ?_ ?_); (focus (first | rfl | (simp only [i64s_length, u8s_length]; first | rfl | assumption | omega)))) | ((with_reducible refine kn_loads_if E.out rfl rfl rfl ?_ ?_); (focus (first | rfl | (simp only [i64s_length, u8s_length]; first | rfl | assumption | omega)))) | ((with_reducible refine kn_store1_int E.out rfl rfl rfl rfl rfl ?_); clear E; intro u E0; have E := Lib.hid E0; clear E0) | ((with_reducible refine kn_store1_slice E.out rfl rfl rfl rfl rfl ?_); clear E; intro u E0; have E := Lib.hid E0; clear E0) | ((with_reducible refine kn_store1_bool E.out rfl rfl rfl rfl rfl ?_); clear E; intro u E0; have E := Lib.hid E0; clear E0) | ((with_reducible refine kn_stores E.out rfl rfl rfl rfl rfl ?_ ?_ ?_); (focus (first | exact ⟨rfl, rfl⟩ | (simp only [i64s_length, u8s_length]; refine ⟨?_, ?_⟩ <;> first | rfl | assumption | omega))); (focus (first | exact i64s_one _ | exact u8s_one _ | simp [Value.oneCell'])); clear E; intro u E0; have E := Lib.hid E0; clear E0) | ((with_reducible refine kn_alloc E.out rfl rfl ?_); clear E; intro g u E0 hb0; have E := Lib.hid E0; clear E0 hb0) | ((with_reducible refine kn_box E.out rfl rfl rfl ?_); clear E; intro g u E0 hb0; have E := Lib.hid E0; clear E0 hb0) | ((with_reducible refine kn_box_int E.out rfl rfl rfl ?_); clear E; intro g u E0 hb0; have E := Lib.hid E0; clear E0 hb0) | ((with_reducible refine kn_box_slice E.out rfl rfl rfl ?_); clear E; intro g u E0 hb0; have E := Lib.hid E0; clear E0 hb0) | ((with_reducible refine kn_box_bool E.out rfl rfl rfl ?_); clear E; intro g u E0 hb0; have E := Lib.hid E0; clear E0 hb0) | ((with_reducible refine kn_box_func E.out rfl rfl rfl ?_); clear E; intro g u E0 hb0; have E := Lib.hid E0; clear E0 hb0))
          have hm1 := Lib.hid (show n * 4 * m.E = n * 4 from by rw [HE.out, Nat.mul_one])
          have hm2 := Lib.hid (show n * m.E = n from by rw [HE.out, Nat.mul_one])
          have hm3 := Lib.hid (show Value.int .i64 1 = .int .i64 (m.E : Int) from by rw [HE.out]; rfl)
          go_meet
          exact ⟨hm3.out, by rw [hm1.out, hm2.out, hS2.out]; exact E⟩
        · have hEb : ((m.E : Int) == 1) = false := by rw [beq_eq_false_iff_ne]; omega
          have hE0 : m.E = 0 := by omega
          have HE0 := Lib.hid hE0
          clear HME HEV HES HEA HEL hE hE1 hE0
          go_wp2_with (first | ((with_reducible refine kn_load E.out rfl rfl rfl rfl ?_)) | ((with_reducible refine kn_load_if E.out rfl rfl rfl rfl ?_)) | ((with_reducible refine kn_loads E.out rfl rfl rfl ?_ ?_); (focus (first | rfl | (simp only [i64s_length, u8s_length]; first | rfl | assumption | omega)))) | ((with_reducible refine kn_loads_if E.out rfl rfl rfl ?_ ?_); (focus (first | rfl | (simp only [i64s_length, u8s_length]; first | rfl | assumption | omega)))) | ((with_reducible refine kn_store1_int E.out rfl rfl rfl rfl rfl ?_); clear E; intro u E0; have E := Lib.hid E0; clear E0) | ((with_reducible refine kn_store1_slice E.out rfl rfl rfl rfl rfl ?_); clear E; intro u E0; have E := Lib.hid E0; clear E0) | ((with_reducible refine kn_store1_bool E.out rfl rfl rfl rfl rfl ?_); clear E; intro u E0; have E := Lib.hid E0; clear E0) | ((with_reducible refine kn_stores E.out rfl rfl rfl rfl rfl ?_ ?_ ?_); (focus (first | exact ⟨rfl, rfl⟩ | (simp only [i64s_length, u8s_length]; refine ⟨?_, ?_⟩ <;> first | rfl | assumption | omega))); (focus (first | exact i64s_one _ | exact u8s_one _ | simp [Value.oneCell'])); clear E; intro u E0; have E := Lib.hid E0; clear E0) | ((with_reducible refine kn_alloc E.out rfl rfl ?_); clear E; intro g u E0 hb0; have E := Lib.hid E0; clear E0 hb0) | ((with_reducible refine kn_box E.out rfl rfl rfl ?_); clear E; intro g u E0 hb0; have E := Lib.hid E0; clear E0 hb0) | ((with_reducible refine kn_box_int E.out rfl rfl rfl ?_); clear E; intro g u E0 hb0; have E := Lib.hid E0; clear E0 hb0) | ((with_reducible refine kn_box_slice E.out rfl rfl rfl ?_); clear E; intro g u E0 hb0; have E := Lib.hid E0; clear E0 hb0) | ((with_reducible refine kn_box_bool E.out rfl rfl rfl ?_); clear E; intro g u E0 hb0; have E := Lib.hid E0; clear E0 hb0) | ((with_reducible refine kn_box_func E.out rfl rfl rfl ?_); clear E; intro g u E0 hb0; have E := Lib.hid E0; clear E0 hb0))
          have hm1 := Lib.hid (show n * 4 * m.E = 0 from by rw [HE0.out, Nat.mul_zero])
          have hm2 := Lib.hid (show q + n * m.E = q from by rw [HE0.out, Nat.mul_zero, Nat.add_zero])
          have hm3 := Lib.hid (show Value.int .i64 0 = .int .i64 (m.E : Int) from by rw [HE0.out]; rfl)
          go_meet
          exact ⟨hm3.out, by rw [hm1.out, hm2.out, hS2.out]; exact E⟩
      case rest =>
        clear E
        obtain ⟨rfl, E⟩ := hcut
        have hEO := hok.out.EO
        have hEq : q = cb m p3 4 := hq.out.symm
        have hN0 := Lib.hid (fun (h1 : m.E = 0) (h2 : m.O = 0) => show s2 m xs p3 0 = s4 m xs p3 0 from (mid_none m xs p3 h1 h2).trans (s4_zero m xs p3))
        have hN1 := Lib.hid (fun (h1 : m.E = 1) (h2 : m.O = 0) => show s2 m xs p3 (n * 4) = s4 m xs p3 0 from by rw [hn.out]; exact (mid_each m xs p3 h1 h2).trans (s4_zero m xs p3))
        have hN2 := Lib.hid (fun (h1 : m.E = 0) (h2 : m.O = 1) => show s3 m xs p3 m.P 0 0 = s4 m xs p3 0 from (mid_both m xs p3 h1 h2).trans (s4_zero m xs p3))
        have hN3 := Lib.hid (s2_s3 m xs p3)
        have hMP := Lib.hid (show mpos m q n = if m.O = 0 then q + n * m.E else q + (n + 1) / 2 from rfl)
        clear HEV HES HEA HEL HME hEq
        go_upto_if 131 with (first | ((with_reducible refine kn_load E.out rfl rfl rfl rfl ?_)) | ((with_reducible refine kn_load_if E.out rfl rfl rfl rfl ?_)) | ((with_reducible refine kn_loads E.out rfl rfl rfl ?_ ?_); (focus (first | rfl | (simp only [i64s_length, u8s_length]; first | rfl | assumption | omega)))) | ((with_reducible refine kn_loads_if E.out rfl rfl rfl ?_ ?_); (focus (first | rfl | (simp only [i64s_length, u8s_length]; first | rfl | assumption | omega)))) | ((with_reducible refine kn_store1_int E.out rfl rfl rfl rfl rfl ?_); clear E; intro u E0; have E := Lib.hid E0; clear E0) | ((with_reducible refine kn_store1_slice E.out rfl rfl rfl rfl rfl ?_); clear E; intro u E0; have E := Lib.hid E0; clear E0) | ((with_reducible refine kn_store1_bool E.out rfl rfl rfl rfl rfl ?_); clear E; intro u E0; have E := Lib.hid E0; clear E0) | ((with_reducible refine kn_stores E.out rfl rfl rfl rfl rfl ?_ ?_ ?_); (focus (first | exact ⟨rfl, rfl⟩ | (simp only [i64s_length, u8s_length]; refine ⟨?_, ?_⟩ <;> first | rfl | assumption | omega))); (focus (first | exact i64s_one _ | exact u8s_one _ | simp [Value.oneCell'])); clear E; intro u E0; have E := Lib.hid E0; clear E0) | ((with_reducible refine kn_alloc E.out rfl rfl ?_); clear E; intro g u E0 hb0; have E := Lib.hid E0; clear E0 hb0) | ((with_reducible refine kn_box E.out rfl rfl rfl ?_); clear E; intro g u E0 hb0; have E := Lib.hid E0; clear E0 hb0) | ((with_reducible refine kn_box_int E.out rfl rfl rfl ?_); clear E; intro g u E0 hb0; have E := Lib.hid E0; clear E0 hb0) | ((with_reducible refine kn_box_slice E.out rfl rfl rfl ?_); clear E; intro g u E0 hb0; have E := Lib.hid E0; clear E0 hb0) | ((with_reducible refine kn_box_bool E.out rfl rfl rfl ?_); clear E; intro g u E0 hb0; have E := Lib.hid E0; clear E0 hb0) | ((with_reducible refine kn_box_func E.out rfl rfl rfl ?_); clear E; intro g u E0 hb0; have E := Lib.hid E0; clear E0 hb0))
        go_cut [15] from 129 to 131 (fun s15 wx => s15 = .int .i64 ((ex m : Nat) : Int) ∧ Hid (Kn w [.row gs 25 (i64s (s4 m xs p3 0)), .row g59 59 [.slice A 16 c, .int .i64 ((mpos m q n : Nat) : Int)], .row g6 54 [.int .i64 (m.P : Int), .int .i64 (m.W : Int), .int .i64 (m.T : Int), .int .i64 (m.C : Int), .int .i64 (m.L : Int), .int .i64 (m.A : Int), .int .i64 (m.E : Int), .int .i64 (m.O : Int), .int .i64 (m.F : Int), .int .i64 (m.S : Int)], .row g4 27 (i64s Bc.z64), .row g2 27 (i64s Bc.z64)] [bsF A 16 xs] wx))
        case first =>
          have hO1 : m.O ≤ 1 := hok.out.O1
          by_cases hO : m.O = 1
          · have hOb : ((m.O : Int) == 1) = true := by rw [hO]; rfl
            have hE0 : m.E = 0 := by omega
            have hi1 : s2 m xs p3 (n * 4 * m.E) = s3 m xs p3 0 0 0 := by rw [hE0, Nat.mul_zero]; exact hN3.out
            have hi2 : q + n * m.E = q := by rw [hE0, Nat.mul_zero, Nat.add_zero]
            rw [hi1, hi2] at E
            have hxm := Lib.hid (show Value.int .i64 1 = .int .i64 ((ex m : Nat) : Int) from by unfold ex; rw [hE0, hO]; rfl)
            have hend := Lib.hid (hN2.out hE0 hO)
            have hpe := Lib.hid (show mpos m q n = q + m.P from by rw [hMP.out, if_neg (by omega)]; have := hn.out; omega)
            have hOO := Lib.hid hO
            have hall8 := Lib.hid (show mpos m q n ≤ 128 from by have h := hall7.out; rw [hq.out] at h; exact h)
            clear hN0 hN1 hN2 hN3 hMP hi1 hi2 hO hE0 hEO hO1
            go_wp2_with (first | ((with_reducible refine kn_load E.out rfl rfl rfl rfl ?_)) | ((with_reducible refine kn_load_if E.out rfl rfl rfl rfl ?_)) | ((with_reducible refine kn_loads E.out rfl rfl rfl ?_ ?_); (focus (first | rfl | (simp only [i64s_length, u8s_length]; first | rfl | assumption | omega)))) | ((with_reducible refine kn_loads_if E.out rfl rfl rfl ?_ ?_); (focus (first | rfl | (simp only [i64s_length, u8s_length]; first | rfl | assumption | omega)))) | ((with_reducible refine kn_store1_int E.out rfl rfl rfl rfl rfl ?_); clear E; intro u E0; have E := Lib.hid E0; clear E0) | ((with_reducible refine kn_store1_slice E.out rfl rfl rfl rfl rfl ?_); clear E; intro u E0; have E := Lib.hid E0; clear E0) | ((with_reducible refine kn_store1_bool E.out rfl rfl rfl rfl rfl ?_); clear E; intro u E0; have E := Lib.hid E0; clear E0) | ((with_reducible refine kn_stores E.out rfl rfl rfl rfl rfl ?_ ?_ ?_); (focus (first | exact ⟨rfl, rfl⟩ | (simp only [i64s_length, u8s_length]; refine ⟨?_, ?_⟩ <;> first | rfl | assumption | omega))); (focus (first | exact i64s_one _ | exact u8s_one _ | simp [Value.oneCell'])); clear E; intro u E0; have E := Lib.hid E0; clear E0) | ((with_reducible refine kn_alloc E.out rfl rfl ?_); clear E; intro g u E0 hb0; have E := Lib.hid E0; clear E0 hb0) | ((with_reducible refine kn_box E.out rfl rfl rfl ?_); clear E; intro g u E0 hb0; have E := Lib.hid E0; clear E0 hb0) | ((with_reducible refine kn_box_int E.out rfl rfl rfl ?_); clear E; intro g u E0 hb0; have E := Lib.hid E0; clear E0 hb0) | ((with_reducible refine kn_box_slice E.out rfl rfl rfl ?_); clear E; intro g u E0 hb0; have E := Lib.hid E0; clear E0 hb0) | ((with_reducible refine kn_box_bool E.out rfl rfl rfl ?_); clear E; intro g u E0 hb0; have E := Lib.hid E0; clear E0 hb0) | ((with_reducible refine kn_box_func E.out rfl rfl rfl ?_); clear E; intro g u E0 hb0; have E := Lib.hid E0; clear E0 hb0))
            refine wp_only' (rd56 m A c xs w _ gs g59 g6 g4 g2 n k1 p3 q hok.out hq.out.symm hn.out hall8.out hOO.out _ _ _ _ _ _ _ _ _ _ _ _ _ _ _ _ _ _ _ _ _ _ _ _ _ _ _ _ _ _ _ _ _ _ _ _ _ _ _ _ _ _ _ _ _ _ _ _ _ _ _ _ _ _ _ _ _ _ _ _ _ _ _ _ _ _ _ _ _ _ _ _ _ _ _ _ _ _ _ _ _ _ _ _ _ _ _ _ _ _ _ _ _ _ _ _ _ _ _ _ _ _ _ _ _ _ _ _ _ _ _ _ _ _ _ _ _ _ _ _ _ _ _ _ _ _ _ _ _ _ _ _ _ _ _ _ _ _ _ _ _ _ _ _ _ _ _ _ _ _ _ _ _ _ _ _ _ _ _ _ _ _ _ _ _ _ _ _ _ _ _ _ _ _ _ _ _ _ _ _ _ _ _ _ _ _ _ _ _ _ _ _ _ _ _ _ _ _ _ _ _ _ _ _ _ _ _ _ _ _ _ _ _ _ _ _ _ _ _ _ _ _ _ _ _ _ _ _ _ _ _ _ _ _ _ _ _ _ _ _ _ _ _ _ _ _ _ _ _ _ _ _ _ _ _ _ _ _ _ _ _ _ _ _ _ _ _ _ _ _ _ _ _ _ _ _ _ _ _ _ _ _ _ _ _ _ _ _ _ _ _ _ _ _ _ _ _ _ _ _ _ _ _ _ _ _ _ _ _ _ _ _ _ _ _ _ _ _ _ _ _ _ _ _ _ _ _ _ _ _ _ _ _ _ _ _ _ _ _ _ _ _ _ _ _ _ _ _ _ _ _ _ _ _ _ _ _ _ _ _ _ _ ?_ E)
            clear E
            intro v19 v20 v21 v132 v133 v134 v135 v136 v137 v138 v139 v140 v141 v142 v143 v144 v145 v146 v147 v148 v149 v150 v151 v152 v153 v154 v155 v156 v157 v158 v159 v160 v161 v162 v163 v164 v165 v166 v167 v168 v169 v170 v171 v172 v173 wz E
            rw [hend.out, ← hpe.out] at E
            go_wp2_with (first | ((with_reducible refine kn_load E.out rfl rfl rfl rfl ?_)) | ((with_reducible refine kn_load_if E.out rfl rfl rfl rfl ?_)) | ((with_reducible refine kn_loads E.out rfl rfl rfl ?_ ?_); (focus (first | rfl | (simp only [i64s_length, u8s_length]; first | rfl | assumption | omega)))) | ((with_reducible refine kn_loads_if E.out rfl rfl rfl ?_ ?_); (focus (first | rfl | (simp only [i64s_length, u8s_length]; first | rfl | assumption | omega)))) | ((with_reducible refine kn_store1_int E.out rfl rfl rfl rfl rfl ?_); clear E; intro u E0; have E := Lib.hid E0; clear E0) | ((with_reducible refine kn_store1_slice E.out rfl rfl rfl rfl rfl ?_); clear E; intro u E0; have E := Lib.hid E0; clear E0) | ((with_reducible refine kn_store1_bool E.out rfl rfl rfl rfl rfl ?_); clear E; intro u E0; have E := Lib.hid E0; clear E0) | ((with_reducible refine kn_stores E.out rfl rfl rfl rfl rfl ?_ ?_ ?_); (focus (first | exact ⟨rfl, rfl⟩ | (simp only [i64s_length, u8s_length]; refine ⟨?_, ?_⟩ <;> first | rfl | assumption | omega))); (focus (first | exact i64s_one _ | exact u8s_one _ | simp [Value.oneCell'])); clear E; intro u E0; have E := Lib.hid E0; clear E0) | ((with_reducible refine kn_alloc E.out rfl rfl ?_); clear E; intro g u E0 hb0; have E := Lib.hid E0; clear E0 hb0) | ((with_reducible refine kn_box E.out rfl rfl rfl ?_); clear E; intro g u E0 hb0; have E := Lib.hid E0; clear E0 hb0) | ((with_reducible refine kn_box_int E.out rfl rfl rfl ?_); clear E; intro g u E0 hb0; have E := Lib.hid E0; clear E0 hb0) | ((with_reducible refine kn_box_slice E.out rfl rfl rfl ?_); clear E; intro g u E0 hb0; have E := Lib.hid E0; clear E0 hb0) | ((with_reducible refine kn_box_bool E.out rfl rfl rfl ?_); clear E; intro g u E0 hb0; have E := Lib.hid E0; clear E0 hb0) | ((with_reducible refine kn_box_func E.out rfl rfl rfl ?_); clear E; intro g u E0 hb0; have E := Lib.hid E0; clear E0 hb0))
            go_meet
            exact ⟨hxm.out, E⟩
          · have hOb : ((m.O : Int) == 1) = false := by rw [beq_eq_false_iff_ne]; omega
            have hO0 : m.O = 0 := by omega
            have hE1 := hok.out.E1
            have hm1 := Lib.hid (show s2 m xs p3 (n * 4 * m.E) = s4 m xs p3 0 from by
              rcases (show m.E = 0 ∨ m.E = 1 by omega) with h | h
              · rw [h, Nat.mul_zero]; exact hN0.out h hO0
              · rw [h, Nat.mul_one]; exact hN1.out h hO0)
            have hm2 := Lib.hid (show mpos m q n = q + n * m.E from by rw [hMP.out, if_pos hO0])
            have hm3 := Lib.hid (show Value.int .i64 (m.E : Int) = .int .i64 ((ex m : Nat) : Int) from by unfold ex; rw [hO0, Nat.add_zero])
            clear hN0 hN1 hN2 hN3 hMP hO hO0 hE1 hO1 hEO
            go_wp2_with (first | ((with_reducible refine kn_load E.out rfl rfl rfl rfl ?_)) | ((with_reducible refine kn_load_if E.out rfl rfl rfl rfl ?_)) | ((with_reducible refine kn_loads E.out rfl rfl rfl ?_ ?_); (focus (first | rfl | (simp only [i64s_length, u8s_length]; first | rfl | assumption | omega)))) | ((with_reducible refine kn_loads_if E.out rfl rfl rfl ?_ ?_); (focus (first | rfl | (simp only [i64s_length, u8s_length]; first | rfl | assumption | omega)))) | ((with_reducible refine kn_store1_int E.out rfl rfl rfl rfl rfl ?_); clear E; intro u E0; have E := Lib.hid E0; clear E0) | ((with_reducible refine kn_store1_slice E.out rfl rfl rfl rfl rfl ?_); clear E; intro u E0; have E := Lib.hid E0; clear E0) | ((with_reducible refine kn_store1_bool E.out rfl rfl rfl rfl rfl ?_); clear E; intro u E0; have E := Lib.hid E0; clear E0) | ((with_reducible refine kn_stores E.out rfl rfl rfl rfl rfl ?_ ?_ ?_); (focus (first | exact ⟨rfl, rfl⟩ | (simp only [i64s_length, u8s_length]; refine ⟨?_, ?_⟩ <;> first | rfl | assumption | omega))); (focus (first | exact i64s_one _ | exact u8s_one _ | simp [Value.oneCell'])); clear E; intro u E0; have E := Lib.hid E0; clear E0) | ((with_reducible refine kn_alloc E.out rfl rfl ?_); clear E; intro g u E0 hb0; have E := Lib.hid E0; clear E0 hb0) | ((with_reducible refine kn_box E.out rfl rfl rfl ?_); clear E; intro g u E0 hb0; have E := Lib.hid E0; clear E0 hb0) | ((with_reducible refine kn_box_int E.out rfl rfl rfl ?_); clear E; intro g u E0 hb0; have E := Lib.hid E0; clear E0 hb0) | ((with_reducible refine kn_box_slice E.out rfl rfl rfl ?_); clear E; intro g u E0 hb0; have E := Lib.hid E0; clear E0 hb0) | ((with_reducible refine kn_box_bool E.out rfl rfl rfl ?_); clear E; intro g u E0 hb0; have E := Lib.hid E0; clear E0 hb0) | ((with_reducible refine kn_box_func E.out rfl rfl rfl ?_); clear E; intro g u E0 hb0; have E := Lib.hid E0; clear E0 hb0))
            go_meet
            exact ⟨hm3.out, by rw [← hm1.out, hm2.out]; exact E⟩
        case rest =>
          clear E
          obtain ⟨rfl, E⟩ := hcut
          have hp3q : p3 = q1 m k1 := by
            have h1 := hp1.out; have h2 := hp2.out; have h3 := hp3.out
            unfold q1; omega
          have hq2 : mpos m q n = q2 m k1 := by unfold q2; rw [← hp3q, hq.out, ← hn.out]
          have hal : q2 m k1 + (16 * m.F - m.P) + (16 * m.S - 1) ≤ 128 := hok.out.all
          have hwyN : wy = wayN m xs k1 := hwy.out.symm
          have hwy6 : wy < 64 := by
            rw [hwyN]
            exact Nat.lt_of_lt_of_le (getN_lt xs false k1 m.W 6 hok.out.W6) (by decide)
          have hq3 : ipos (q2 m k1) m.F (isA m.P wy) 16 = q3 m xs k1 := by rw [hwyN]; rfl
          have hq3e : q3 m xs k1 + (16 * m.S - 1) ≤ 128 := by
            have h1 := hok.out.F2; have h2 := hok.out.P3; have h3 := hok.out.P1
            rw [← hq3, ipos_end _ m.F _ m.P (by omega) (cnt_isA m.P (by omega) h3 wy hwy6) (by omega)]
            omega
          have htnG : (tn : Int) = G xs (k1 + m.W) m.T := by rw [← htn.out, ← hp1.out]; rfl
          have hchG : (ch : Int) = chN m xs k1 := by rw [← hch.out, ← hp2.out, ← hp1.out]; rfl
          have hTVe : fl (List.replicate 64 0) (rTX m xs k1) 16 = TV := hTV.out
          rw [hq2] at E
          replace hp3q := Lib.hid hp3q
          replace hq2 := Lib.hid hq2
          replace hal := Lib.hid (show q2 m k1 + (16 * m.F - m.P) ≤ 128 from by omega)
          replace hwyN := Lib.hid hwyN
          replace hwy6 := Lib.hid hwy6
          replace hq3 := Lib.hid hq3
          replace hq3e := Lib.hid hq3e
          replace htnG := Lib.hid htnG
          replace hchG := Lib.hid hchG
          replace hTVe := Lib.hid hTVe
          clear hN0 hN1 hN2 hN3 hMP hEO
          go_wp2_with (first | ((with_reducible refine kn_load E.out rfl rfl rfl rfl ?_)) | ((with_reducible refine kn_load_if E.out rfl rfl rfl rfl ?_)) | ((with_reducible refine kn_loads E.out rfl rfl rfl ?_ ?_); (focus (first | rfl | (simp only [i64s_length, u8s_length]; first | rfl | assumption | omega)))) | ((with_reducible refine kn_loads_if E.out rfl rfl rfl ?_ ?_); (focus (first | rfl | (simp only [i64s_length, u8s_length]; first | rfl | assumption | omega)))) | ((with_reducible refine kn_store1_int E.out rfl rfl rfl rfl rfl ?_); clear E; intro u E0; have E := Lib.hid E0; clear E0) | ((with_reducible refine kn_store1_slice E.out rfl rfl rfl rfl rfl ?_); clear E; intro u E0; have E := Lib.hid E0; clear E0) | ((with_reducible refine kn_store1_bool E.out rfl rfl rfl rfl rfl ?_); clear E; intro u E0; have E := Lib.hid E0; clear E0) | ((with_reducible refine kn_stores E.out rfl rfl rfl rfl rfl ?_ ?_ ?_); (focus (first | exact ⟨rfl, rfl⟩ | (simp only [i64s_length, u8s_length]; refine ⟨?_, ?_⟩ <;> first | rfl | assumption | omega))); (focus (first | exact i64s_one _ | exact u8s_one _ | simp [Value.oneCell'])); clear E; intro u E0; have E := Lib.hid E0; clear E0) | ((with_reducible refine kn_alloc E.out rfl rfl ?_); clear E; intro g u E0 hb0; have E := Lib.hid E0; clear E0 hb0) | ((with_reducible refine kn_box E.out rfl rfl rfl ?_); clear E; intro g u E0 hb0; have E := Lib.hid E0; clear E0 hb0) | ((with_reducible refine kn_box_int E.out rfl rfl rfl ?_); clear E; intro g u E0 hb0; have E := Lib.hid E0; clear E0 hb0) | ((with_reducible refine kn_box_slice E.out rfl rfl rfl ?_); clear E; intro g u E0 hb0; have E := Lib.hid E0; clear E0 hb0) | ((with_reducible refine kn_box_bool E.out rfl rfl rfl ?_); clear E; intro g u E0 hb0; have E := Lib.hid E0; clear E0 hb0) | ((with_reducible refine kn_box_func E.out rfl rfl rfl ?_); clear E; intro g u E0 hb0; have E := Lib.hid E0; clear E0 hb0))
          refine wp_only' (rd78 m A c xs w _ gs g59 g6 g4 g2 n k1 p3 (q2 m k1) hok.out hn.out _ _ _ _ _ _ _ _ _ _ _ _ _ _ _ _ _ _ _ _ _ _ _ _ _ _ _ _ _ _ _ _ _ _ _ _ _ _ _ _ _ _ _ _ _ _ _ _ _ _ _ _ _ _ _ _ _ _ _ _ _ _ _ _ _ _ _ _ _ _ _ _ _ _ _ _ _ _ _ _ _ _ _ _ _ _ _ _ _ _ _ _ _ _ _ _ _ _ _ _ _ _ _ _ _ _ _ _ _ _ _ _ _ _ _ _ _ _ _ _ _ _ _ _ _ _ _ _ _ _ _ _ _ _ _ _ _ _ _ _ _ _ _ _ _ _ _ _ _ _ _ _ _ _ _ _ _ _ _ _ _ _ _ _ _ _ _ _ _ _ _ _ _ _ _ _ _ _ _ _ _ _ _ _ _ _ _ _ _ _ _ _ _ _ _ _ _ _ _ _ _ _ _ _ _ _ _ _ _ _ _ _ _ _ _ _ _ _ _ _ _ _ _ _ _ _ _ _ _ _ _ _ _ _ _ _ _ _ _ _ _ _ _ _ _ _ _ _ _ _ _ _ _ _ _ _ _ _ _ _ _ _ _ _ _ _ _ _ _ _ _ _ _ _ _ _ _ _ _ _ _ _ _ _ _ _ _ _ _ _ _ _ _ _ _ _ _ _ _ _ _ _ _ _ _ _ _ _ _ _ _ _ _ _ _ _ _ _ _ _ _ _ _ _ _ _ _ _ _ _ _ _ _ _ _ _ _ _ _ _ _ _ _ _ _ _ _ _ _ _ _ _ _ _ _ _ _ _ _ _ _ ?_ E)
          clear E
          intro v22 v23 v174 v175 v176 v177 v178 v179 v180 v181 v182 v183 v184 v185 v186 v187 v188 v189 v190 v191 v192 v193 v194 v195 v196 v197 v198 v199 v200 v201 v202 v203 v204 v205 v206 v207 v208 v209 v210 v211 v212 v213 v214 v215 v216 v217 v218 v219 v220 wz E
          go_wp2_with (first | ((with_reducible refine kn_load E.out rfl rfl rfl rfl ?_)) | ((with_reducible refine kn_load_if E.out rfl rfl rfl rfl ?_)) | ((with_reducible refine kn_loads E.out rfl rfl rfl ?_ ?_); (focus (first | rfl | (simp only [i64s_length, u8s_length]; first | rfl | assumption | omega)))) | ((with_reducible refine kn_loads_if E.out rfl rfl rfl ?_ ?_); (focus (first | rfl | (simp only [i64s_length, u8s_length]; first | rfl | assumption | omega)))) | ((with_reducible refine kn_store1_int E.out rfl rfl rfl rfl rfl ?_); clear E; intro u E0; have E := Lib.hid E0; clear E0) | ((with_reducible refine kn_store1_slice E.out rfl rfl rfl rfl rfl ?_); clear E; intro u E0; have E := Lib.hid E0; clear E0) | ((with_reducible refine kn_store1_bool E.out rfl rfl rfl rfl rfl ?_); clear E; intro u E0; have E := Lib.hid E0; clear E0) | ((with_reducible refine kn_stores E.out rfl rfl rfl rfl rfl ?_ ?_ ?_); (focus (first | exact ⟨rfl, rfl⟩ | (simp only [i64s_length, u8s_length]; refine ⟨?_, ?_⟩ <;> first | rfl | assumption | omega))); (focus (first | exact i64s_one _ | exact u8s_one _ | simp [Value.oneCell'])); clear E; intro u E0; have E := Lib.hid E0; clear E0) | ((with_reducible refine kn_alloc (o := ⟨some 24, _, _, _, _, _⟩) E.out rfl rfl ?_); clear E; intro g24 u E0 hb0; have E := Lib.hid E0; clear E0 hb0) | ((with_reducible refine kn_box (o := ⟨some 24, _, _, _, _, _⟩) E.out rfl rfl rfl ?_); clear E; intro g24 u E0 hb0; have E := Lib.hid E0; clear E0 hb0) | ((with_reducible refine kn_box_int (o := ⟨some 24, _, _, _, _, _⟩) E.out rfl rfl rfl ?_); clear E; intro g24 u E0 hb0; have E := Lib.hid E0; clear E0 hb0) | ((with_reducible refine kn_box_slice (o := ⟨some 24, _, _, _, _, _⟩) E.out rfl rfl rfl ?_); clear E; intro g24 u E0 hb0; have E := Lib.hid E0; clear E0 hb0) | ((with_reducible refine kn_box_bool (o := ⟨some 24, _, _, _, _, _⟩) E.out rfl rfl rfl ?_); clear E; intro g24 u E0 hb0; have E := Lib.hid E0; clear E0 hb0) | ((with_reducible refine kn_box_func (o := ⟨some 24, _, _, _, _, _⟩) E.out rfl rfl rfl ?_); clear E; intro g24 u E0 hb0; have E := Lib.hid E0; clear E0 hb0) | ((with_reducible refine kn_alloc (o := ⟨some 25, _, _, _, _, _⟩) E.out rfl rfl ?_); clear E; intro g25 u E0 hb0; have E := Lib.hid E0; clear E0 hb0) | ((with_reducible refine kn_box (o := ⟨some 25, _, _, _, _, _⟩) E.out rfl rfl rfl ?_); clear E; intro g25 u E0 hb0; have E := Lib.hid E0; clear E0 hb0) | ((with_reducible refine kn_box_int (o := ⟨some 25, _, _, _, _, _⟩) E.out rfl rfl rfl ?_); clear E; intro g25 u E0 hb0; have E := Lib.hid E0; clear E0 hb0) | ((with_reducible refine kn_box_slice (o := ⟨some 25, _, _, _, _, _⟩) E.out rfl rfl rfl ?_); clear E; intro g25 u E0 hb0; have E := Lib.hid E0; clear E0 hb0) | ((with_reducible refine kn_box_bool (o := ⟨some 25, _, _, _, _, _⟩) E.out rfl rfl rfl ?_); clear E; intro g25 u E0 hb0; have E := Lib.hid E0; clear E0 hb0) | ((with_reducible refine kn_box_func (o := ⟨some 25, _, _, _, _, _⟩) E.out rfl rfl rfl ?_); clear E; intro g25 u E0 hb0; have E := Lib.hid E0; clear E0 hb0) | ((with_reducible refine kn_alloc E.out rfl rfl ?_); clear E; intro g u E0 hb0; have E := Lib.hid E0; clear E0 hb0) | ((with_reducible refine kn_box E.out rfl rfl rfl ?_); clear E; intro g u E0 hb0; have E := Lib.hid E0; clear E0 hb0) | ((with_reducible refine kn_box_int E.out rfl rfl rfl ?_); clear E; intro g u E0 hb0; have E := Lib.hid E0; clear E0 hb0) | ((with_reducible refine kn_box_slice E.out rfl rfl rfl ?_); clear E; intro g u E0 hb0; have E := Lib.hid E0; clear E0 hb0) | ((with_reducible refine kn_box_bool E.out rfl rfl rfl ?_); clear E; intro g u E0 hb0; have E := Lib.hid E0; clear E0 hb0) | ((with_reducible refine kn_box_func E.out rfl rfl rfl ?_); clear E; intro g u E0 hb0; have E := Lib.hid E0; clear E0 hb0))
          refine wp_only' (rd910 m A c xs w _ gs g59 g6 g4 g2 n g24 g25 k1 (q2 m k1) wy (s4 m xs p3 (n * 4)) hok.out hwy6.out hal.out _ _ _ _ _ _ _ _ _ _ _ _ _ _ _ _ _ _ _ _ _ _ _ _ _ _ _ _ _ _ _ _ _ _ _ _ _ _ _ _ _ _ _ _ _ _ _ _ _ _ _ _ _ _ _ _ _ _ _ _ _ _ _ _ _ _ _ _ _ _ _ _ _ _ _ _ _ _ _ _ _ _ _ _ _ _ _ _ _ _ _ _ _ _ _ _ _ _ _ _ _ _ _ _ _ _ _ _ _ _ _ _ _ _ _ _ _ _ _ _ _ _ _ _ _ _ _ _ _ _ _ _ _ _ _ _ _ _ _ _ _ _ _ _ _ _ _ _ _ _ _ _ _ _ _ _ _ _ _ _ _ _ _ _ _ _ _ _ _ _ _ _ _ _ _ _ _ _ _ _ _ _ _ _ _ _ _ _ _ _ _ _ _ _ _ _ _ _ _ _ _ _ _ _ _ _ _ _ _ _ _ _ _ _ _ _ _ _ _ _ _ _ _ _ _ _ _ _ _ _ _ _ _ _ _ _ _ _ _ _ _ _ _ _ _ _ _ _ _ _ _ _ _ _ _ _ _ _ _ _ _ _ _ _ _ _ _ _ _ _ _ _ _ _ _ _ _ _ _ _ _ _ _ _ _ _ _ _ _ _ _ _ _ _ _ _ _ _ _ _ _ _ _ _ _ _ _ _ _ _ _ _ _ _ _ _ _ _ _ _ _ _ _ _ _ _ _ _ _ _ _ _ _ _ _ _ _ _ _ _ _ _ _ _ _ _ _ _ _ _ _ _ _ _ _ _ _ _ _ ?_ E)
          clear E
          intro v26 v27 v28 v223 v224 v225 v226 v227 v228 v229 v230 v231 v232 v233 v234 v235 v236 v237 v238 v239 v240 v241 v242 v243 v244 v245 v246 v247 v248 v249 wz E
          rw [hq3.out] at E
          go_wp2_with (first | ((with_reducible refine kn_load E.out rfl rfl rfl rfl ?_)) | ((with_reducible refine kn_load_if E.out rfl rfl rfl rfl ?_)) | ((with_reducible refine kn_loads E.out rfl rfl rfl ?_ ?_); (focus (first | rfl | (simp only [i64s_length, u8s_length]; first | rfl | assumption | omega)))) | ((with_reducible refine kn_loads_if E.out rfl rfl rfl ?_ ?_); (focus (first | rfl | (simp only [i64s_length, u8s_length]; first | rfl | assumption | omega)))) | ((with_reducible refine kn_store1_int E.out rfl rfl rfl rfl rfl ?_); clear E; intro u E0; have E := Lib.hid E0; clear E0) | ((with_reducible refine kn_store1_slice E.out rfl rfl rfl rfl rfl ?_); clear E; intro u E0; have E := Lib.hid E0; clear E0) | ((with_reducible refine kn_store1_bool E.out rfl rfl rfl rfl rfl ?_); clear E; intro u E0; have E := Lib.hid E0; clear E0) | ((with_reducible refine kn_stores E.out rfl rfl rfl rfl rfl ?_ ?_ ?_); (focus (first | exact ⟨rfl, rfl⟩ | (simp only [i64s_length, u8s_length]; refine ⟨?_, ?_⟩ <;> first | rfl | assumption | omega))); (focus (first | exact i64s_one _ | exact u8s_one _ | simp [Value.oneCell'])); clear E; intro u E0; have E := Lib.hid E0; clear E0) | ((with_reducible refine kn_alloc E.out rfl rfl ?_); clear E; intro g u E0 hb0; have E := Lib.hid E0; clear E0 hb0) | ((with_reducible refine kn_box E.out rfl rfl rfl ?_); clear E; intro g u E0 hb0; have E := Lib.hid E0; clear E0 hb0) | ((with_reducible refine kn_box_int E.out rfl rfl rfl ?_); clear E; intro g u E0 hb0; have E := Lib.hid E0; clear E0 hb0) | ((with_reducible refine kn_box_slice E.out rfl rfl rfl ?_); clear E; intro g u E0 hb0; have E := Lib.hid E0; clear E0 hb0) | ((with_reducible refine kn_box_bool E.out rfl rfl rfl ?_); clear E; intro g u E0 hb0; have E := Lib.hid E0; clear E0 hb0) | ((with_reducible refine kn_box_func E.out rfl rfl rfl ?_); clear E; intro g u E0 hb0; have E := Lib.hid E0; clear E0 hb0))
          refine wp_only' (rd11 m A c xs w _ gs g59 g6 g4 g2 n g24 g25 k1 (q3 m xs k1) (s4 m xs p3 (n * 4)) (ixP xs (q2 m k1) m.F (isA m.P wy) 16) hok.out hq3e.out _ _ _ _ _ _ _ _ _ _ _ _ _ _ _ _ _ _ _ _ _ _ _ _ _ _ _ _ _ _ _ _ _ _ _ _ _ _ _ _ _ _ _ _ _ _ _ _ _ _ _ _ _ _ _ _ _ _ _ _ _ _ _ _ _ _ _ _ _ _ _ _ _ _ _ _ _ _ _ _ _ _ _ _ _ _ _ _ _ _ _ _ _ _ _ _ _ _ _ _ _ _ _ _ _ _ _ _ _ _ _ _ _ _ _ _ _ _ _ _ _ _ _ _ _ _ _ _ _ _ _ _ _ _ _ _ _ _ _ _ _ _ _ _ _ _ _ _ _ _ _ _ _ _ _ _ _ _ _ _ _ _ _ _ _ _ _ _ _ _ _ _ _ _ _ _ _ _ _ _ _ _ _ _ _ _ _ _ _ _ _ _ _ _ _ _ _ _ _ _ _ _ _ _ _ _ _ _ _ _ _ _ _ _ _ _ _ _ _ _ _ _ _ _ _ _ _ _ _ _ _ _ _ _ _ _ _ _ _ _ _ _ _ _ _ _ _ _ _ _ _ _ _ _ _ _ _ _ _ _ _ _ _ _ _ _ _ _ _ _ _ _ _ _ _ _ _ _ _ _ _ _ _ _ _ _ _ _ _ _ _ _ _ _ _ _ _ _ _ _ _ _ _ _ _ _ _ _ _ _ _ _ _ _ _ _ _ _ _ _ _ _ _ _ _ _ _ _ _ _ _ _ _ _ _ _ _ _ _ _ _ _ _ _ _ _ _ _ _ _ _ _ _ _ _ _ _ _ _ _ ?_ E)
          clear E
          intro v29 v30 v250 v251 v252 v253 v254 v255 v256 v257 v258 v259 v260 v261 v262 v263 v264 v265 v266 v267 v268 wz pz E
          go_wp2_with (first | ((with_reducible refine kn_load E.out rfl rfl rfl rfl ?_)) | ((with_reducible refine kn_load_if E.out rfl rfl rfl rfl ?_)) | ((with_reducible refine kn_loads E.out rfl rfl rfl ?_ ?_); (focus (first | rfl | (simp only [i64s_length, u8s_length]; first | rfl | assumption | omega)))) | ((with_reducible refine kn_loads_if E.out rfl rfl rfl ?_ ?_); (focus (first | rfl | (simp only [i64s_length, u8s_length]; first | rfl | assumption | omega)))) | ((with_reducible refine kn_store1_int E.out rfl rfl rfl rfl rfl ?_); clear E; intro u E0; have E := Lib.hid E0; clear E0) | ((with_reducible refine kn_store1_slice E.out rfl rfl rfl rfl rfl ?_); clear E; intro u E0; have E := Lib.hid E0; clear E0) | ((with_reducible refine kn_store1_bool E.out rfl rfl rfl rfl rfl ?_); clear E; intro u E0; have E := Lib.hid E0; clear E0) | ((with_reducible refine kn_stores E.out rfl rfl rfl rfl rfl ?_ ?_ ?_); (focus (first | exact ⟨rfl, rfl⟩ | (simp only [i64s_length, u8s_length]; refine ⟨?_, ?_⟩ <;> first | rfl | assumption | omega))); (focus (first | exact i64s_one _ | exact u8s_one _ | simp [Value.oneCell'])); clear E; intro u E0; have E := Lib.hid E0; clear E0) | ((with_reducible refine kn_alloc E.out rfl rfl ?_); clear E; intro g u E0 hb0; have E := Lib.hid E0; clear E0 hb0) | ((with_reducible refine kn_box E.out rfl rfl rfl ?_); clear E; intro g u E0 hb0; have E := Lib.hid E0; clear E0 hb0) | ((with_reducible refine kn_box_int E.out rfl rfl rfl ?_); clear E; intro g u E0 hb0; have E := Lib.hid E0; clear E0 hb0) | ((with_reducible refine kn_box_slice E.out rfl rfl rfl ?_); clear E; intro g u E0 hb0; have E := Lib.hid E0; clear E0 hb0) | ((with_reducible refine kn_box_bool E.out rfl rfl rfl ?_); clear E; intro g u E0 hb0; have E := Lib.hid E0; clear E0 hb0) | ((with_reducible refine kn_box_func E.out rfl rfl rfl ?_); clear E; intro g u E0 hb0; have E := Lib.hid E0; clear E0 hb0))
          refine wp_only' (rd1213 m A c xs w _ gs g59 g6 g4 g2 n g24 g25 k1 p3 pz wy tn ch hok.out hn.out hp3q.out hwyN.out htnG.out hchG.out _ _ _ _ _ _ _ _ _ _ _ _ _ _ _ _ _ _ _ _ _ _ _ _ _ _ _ _ _ _ _ _ _ _ _ _ _ _ _ _ _ _ _ _ _ _ _ _ _ _ _ _ _ _ _ _ _ _ _ _ _ _ _ _ _ _ _ _ _ _ _ _ _ _ _ _ _ _ _ _ _ _ _ _ _ _ _ _ _ _ _ _ _ _ _ _ _ _ _ _ _ _ _ _ _ _ _ _ _ _ _ _ _ _ _ _ _ _ _ _ _ _ _ _ _ _ _ _ _ _ _ _ _ _ _ _ _ _ _ _ _ _ _ _ _ _ _ _ _ _ _ _ _ _ _ _ _ _ _ _ _ _ _ _ _ _ _ _ _ _ _ _ _ _ _ _ _ _ _ _ _ _ _ _ _ _ _ _ _ _ _ _ _ _ _ _ _ _ _ _ _ _ _ _ _ _ _ _ _ _ _ _ _ _ _ _ _ _ _ _ _ _ _ _ _ _ _ _ _ _ _ _ _ _ _ _ _ _ _ _ _ _ _ _ _ _ _ _ _ _ _ _ _ _ _ _ _ _ _ _ _ _ _ _ _ _ _ _ _ _ _ _ _ _ _ _ _ _ _ _ _ _ _ _ _ _ _ _ _ _ _ _ _ _ _ _ _ _ _ _ _ _ _ _ _ _ _ _ _ _ _ _ _ _ _ _ _ _ _ _ _ _ _ _ _ _ _ _ _ _ _ _ _ _ _ _ _ _ _ _ _ _ _ _ _ _ _ _ _ _ _ _ _ _ _ _ _ ?_ E)
          clear E
          intro v31 v32 v33 v34 v35 v36 v37 v38 v39 v40 v269 v270 v271 v272 v273 v274 v275 v276 v277 v278 v279 v280 v281 v282 v283 v284 v285 v286 v287 v288 v289 v290 v291 v292 v293 v294 v295 v296 v297 v298 v299 v300 v301 v302 v303 v304 v305 v306 v307 v308 v309 v310 v311 v312 v313 v314 v315 v316 v317 v318 v319 v320 v321 v322 v323 v324 v325 v326 v327 v328 v329 v330 v331 v332 v333 v334 v335 v336 v337 v338 v339 v340 v341 v342 v343 v344 v345 v346 v347 v348 v349 v350 v351 v352 v353 v354 v355 v356 v357 v358 v359 v360 v361 v362 v363 v364 v365 v366 wz E
          rw [hTVe.out] at E
          have hz64 := Lib.hid (show (i64s Bc.z64).length = 64 from rfl)
          go_wp2_with (first
            | ((with_reducible refine kn_loads (g := g4) E.out rfl rfl rfl ?hl ?_); (case hl => rw [i64s_length]; exact hl.out))
            | ((with_reducible refine kn_stores (g := g2) (vs := i64s TV) E.out rfl rfl rfl rfl rfl ?hl ?h1 ?_); (case hl => exact ⟨hz64.out, by rw [i64s_length]; exact hl.out⟩); (case h1 => exact i64s_one _); clear E; intro u E0; have E := Lib.hid E0; clear E0)
            | ((with_reducible refine kn_load E.out rfl rfl rfl rfl ?_)) | ((with_reducible refine kn_load_if E.out rfl rfl rfl rfl ?_)) | ((with_reducible refine kn_loads E.out rfl rfl rfl ?_ ?_); (focus (first | rfl | (simp only [i64s_length, u8s_length]; first | rfl | assumption | omega)))) | ((with_reducible refine kn_loads_if E.out rfl rfl rfl ?_ ?_); (focus (first | rfl | (simp only [i64s_length, u8s_length]; first | rfl | assumption | omega)))) | ((with_reducible refine kn_store1_int E.out rfl rfl rfl rfl rfl ?_); clear E; intro u E0; have E := Lib.hid E0; clear E0) | ((with_reducible refine kn_store1_slice E.out rfl rfl rfl rfl rfl ?_); clear E; intro u E0; have E := Lib.hid E0; clear E0) | ((with_reducible refine kn_store1_bool E.out rfl rfl rfl rfl rfl ?_); clear E; intro u E0; have E := Lib.hid E0; clear E0) | ((with_reducible refine kn_stores E.out rfl rfl rfl rfl rfl ?_ ?_ ?_); (focus (first | exact ⟨rfl, rfl⟩ | (simp only [i64s_length, u8s_length]; refine ⟨?_, ?_⟩ <;> first | rfl | assumption | omega))); (focus (first | exact i64s_one _ | exact u8s_one _ | simp [Value.oneCell'])); clear E; intro u E0; have E := Lib.hid E0; clear E0) | ((with_reducible refine kn_alloc E.out rfl rfl ?_); clear E; intro g u E0 hb0; have E := Lib.hid E0; clear E0 hb0) | ((with_reducible refine kn_box E.out rfl rfl rfl ?_); clear E; intro g u E0 hb0; have E := Lib.hid E0; clear E0 hb0) | ((with_reducible refine kn_box_int E.out rfl rfl rfl ?_); clear E; intro g u E0 hb0; have E := Lib.hid E0; clear E0 hb0) | ((with_reducible refine kn_box_slice E.out rfl rfl rfl ?_); clear E; intro g u E0 hb0; have E := Lib.hid E0; clear E0 hb0) | ((with_reducible refine kn_box_bool E.out rfl rfl rfl ?_); clear E; intro g u E0 hb0; have E := Lib.hid E0; clear E0 hb0) | ((with_reducible refine kn_box_func E.out rfl rfl rfl ?_); clear E; intro g u E0 hb0; have E := Lib.hid E0; clear E0 hb0))
          refine bodyPost_ret (results_kn2 E.out rfl _ rfl (by rw [i64s_length]; exact hl.out)) rfl ?_
          exact ⟨rfl, E.out.bel⟩
end Go.Proofs.YtnoailihkjccbaaDoor
