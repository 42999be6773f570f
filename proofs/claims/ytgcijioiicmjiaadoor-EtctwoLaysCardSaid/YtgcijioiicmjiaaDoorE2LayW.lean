/- Planar blocks, the program's: the block of three colours. -/
import Derived.Test.YtgcijioiicmjiaaDoorG10
import Derived.Test.YtgcijioiicmjiaaDoorE2T
import Derived.Deep.DeepCutAuto
set_option linter.all false
namespace Go.Proofs.YtgcijioiicmjiaaDoor
open Go.RowKit
open Bi Lv Eo Et
open Bc (z8 z8_lt)

instance : ZeroV 35 (i64s [0, 0, 0, 0, 0, 0, 0, 0, 0]) := .of (by kernel_rfl)
instance : Aggr 84 4 := ⟨⟨_, Tryd.underlying84, rfl⟩, by kernel_rfl⟩
namespace Et
theorem list3 (l : List Int) (h : l.length = 3) : ∃ a b c, l = [a, b, c] := by
  match l, h with
  | [a, b, c], _ => exact ⟨a, b, c, rfl⟩
/-- The numbers of three colours. -/
def zsL (xo xh xv : List Int) : List Int := xo ++ (xh ++ xv)
theorem zsL_length {xo xh xv : List Int} (ho : xo.length = 3) (hh : xh.length = 3) (hv : xv.length = 3) : (zsL xo xh xv).length = 9 := by simp [zsL, ho, hh, hv]
def lL (zs : List Int) (k : Nat) : Int := zs.getD k 0
theorem wd_fd : ∀ i, i < 3 → ∀ c, c < 3 → wdN (plM i c) 3 = (fd (i * 3 + c)).length ∧ (fd (i * 3 + c)).length ≤ 7 := by decide +kernel
theorem okL_of (zs : List Int) (h : ∀ i, i < 3 → ∀ c, c < 3 → okC zs i c) : okL (lL zs) := fun k hk => by
  have e := h (k / 3) (by omega) (k % 3) (by omega)
  unfold okC at e
  rw [(wd_fd (k / 3) (by omega) (k % 3) (by omega)).1, show k / 3 * 3 + k % 3 = k by omega] at e
  exact e
theorem okL_bd {L : Nat → Int} (h : okL L) (k : Nat) (hk : k < 9) : 0 ≤ L k ∧ L k < 128 := by
  have e := h k hk
  have w := (wd_fd (k / 3) (by omega) (k % 3) (by omega)).2
  rw [show k / 3 * 3 + k % 3 = k by omega] at w
  have h2 : 2 ^ (fd k).length ≤ 2 ^ 7 := Nat.pow_le_pow_right (by omega) w
  exact ⟨e.1, by omega⟩
theorem q_ok (q : Nat) (hq : q < 9) : ∀ k, k < 3 → qM q k ≤ 7 ∧ qA q k + qM q k ≤ 64 := by
  have h : ∀ q, q < 9 → ∀ k, k < 3 → qM q k ≤ 7 ∧ qA q k + qM q k ≤ 64 := by decide +kernel
  exact h q hq
end Et
set_option maxRecDepth 100000 in
theorem built_zs (a0 a1 a2 b0 b1 b2 c0 c1 c2 : Int) (u : World) : (Instr.build 35 #[(0, arr [a0, a1, a2]), (1, arr [b0, b1, b2]), (2, arr [c0, c1, c2])]).run Tryd.prog u = .ok (arr (zsL [a0, a1, a2] [b0, b1, b2] [c0, c1, c2])) u := run_build u _ _ _ (by kernel_rfl)
theorem yield_gload {w : World} {R : List Res} {F : List (World → Prop)} {ops : Array Oper} {o : Oper} {a : Act} (hw : Region.wanted o (yielded ops a.tmps) = true) {ty : TypeId} {x : Operand} (ho : o.op = .load ty x) {g i : Nat} (hx : a.eval x = .pointer (some ⟨g, i, none⟩)) {vs : List Value} (hm : cellsF g vs ∈ F) [Scal ty] {v : Value} (hv : vs[i]? = some v) :
    YieldsIf Tryd.prog ops (Kn w R F) o v a :=
  .inl ⟨hw, fun u E => by
    have hc := E.get hm i v hv
    unfold execOp
    simp only [ho, hx, Instr.loadAt, Instr.sureAddr, loadVar, Sem.run_bind, Sem.run_pure, Result.andThen_ok, run_isAgg_no, Bool.false_eq_true, if_false, run_load, hc]⟩
theorem put2r {w u : World} {R : List Res} {F : List (World → Prop)} [NoU8 R] (gb : Nat) (A : Option Addr) (c : Nat) (E0 : Kn w (.row gb 22 [.slice A 8 c] :: R) F u) (n : Int) (zs : List Int) (a m : Nat) (xs ys : List Nat) (hz : zs = [(a : Int), (m : Int)]) (hx : bsF A 8 xs ∈ F) (hp : a + m ≤ 64) (hm : m ≤ 7) (hl : xs.length = 8) (hy : st xs true a m (n % ((2 ^ m : Nat) : Int)).toNat = ys) :
    Calls Tryd.prog 34 #[.agg (i64s zs).toArray, .int .i64 n, .pointer (some ⟨gb, 0, none⟩)] u fun e u1 => e = .returned (.tuple #[]) ∧ ∃ A1 c1, (8 ≤ c1 ∧ c1 ≤ 9223372036854775807) ∧ Kn w (.row gb 22 [.slice A1 8 c1] :: R) (bsF A1 8 ys :: F) u1 := by
  subst hz
  exact put2 gb A c E0 n a m xs ys hx hp hm hl hy
set_option maxHeartbeats 16000000 in
set_option maxRecDepth 100000 in
theorem lay2_ok (xo xh xv : List Int) (ho : xo.length = 3) (hh : xh.length = 3) (hv : xv.length = 3) (hok : ∀ i, i < 3 → ∀ c, c < 3 → okC (zsL xo xh xv) i c) (w : World) (hG : Glb w) :
    Calls Tryd.prog 14 #[arr xo, arr xh, arr xv] w (Laid w (lB (lL (zsL xo xh xv))) 0) := by
  have E := Lib.hid (((((((((Kn.start w).arg_glb hG).arg_cells hG.kb).arg_cells hG.kp).arg_cells hG.bb).arg_cells hG.ba).arg_cells hG.bs).arg_cells hG.bf).arg_cells hG.df |>.arg_cells hG.cP)
  have hz := zsL_length ho hh hv
  have hF := Lib.hid (fun u hu => fit_yes (zsL xo xh xv) hz hok u hu)
  have hL := okL_of _ hok
  have hLb := Lib.hid (fun k (hk : k < 9) => okL_bd hL k hk)
  obtain ⟨a0, a1, a2, rfl⟩ := list3 xo ho
  obtain ⟨b0, b1, b2, rfl⟩ := list3 xh hh
  obtain ⟨c0, c1, c2, rfl⟩ := list3 xv hv
  have hbt := Lib.hid (fun u => built_zs a0 a1 a2 b0 b1 b2 c0 c1 c2 u)
  have hzl := Lib.hid hz
  have HI := Lib.hid (fun i (hi : i < 3) u => run_index_agg (P := Tryd.prog) 82 81 3 18 Tryd.underlying82 Tryd.underlying81 rfl (by kernel_rfl) plL i hi rfl u)
  have HIP := Lib.hid (fun i (hi : i < 3) => plL_part i hi)
  have HJ := Lib.hid (fun i c (hc : c < 3) u => run_index_agg (P := Tryd.prog) 81 80 3 6 Tryd.underlying81 Tryd.underlying80 rfl (by kernel_rfl) (rV3 (plA i) (plM i)) c hc rfl u)
  have HJP := Lib.hid (fun i c (hc : c < 3) => rV3_part (plA i) (plM i) c hc)
  have hpl : Hid ((i64s plL).length = 54) := rfl
  have HR3 : Hid (∀ i, (i64s (rV3 (plA i) (plM i))).length = 18) := Lib.hid (fun _ => rfl)
  have HLY := Lib.hid (fun q j (hq : q < 9) (hj : j < 3) => ly_st (lL (zsL [a0, a1, a2] [b0, b1, b2] [c0, c1, c2])) (fun k hk => (okL_bd hL k hk).1) q j hq hj)
  have HLl := Lib.hid (ly_length (lL (zsL [a0, a1, a2] [b0, b1, b2] [c0, c1, c2])))
  have HL0 := Lib.hid (ly_zero (lL (zsL [a0, a1, a2] [b0, b1, b2] [c0, c1, c2])))
  have HN0 := Lib.hid (nQ_zero (lL (zsL [a0, a1, a2] [b0, b1, b2] [c0, c1, c2])))
  have HNn := Lib.hid (nQ_next (lL (zsL [a0, a1, a2] [b0, b1, b2] [c0, c1, c2])))
  have HNb := Lib.hid (fun q j (hq : q < 9) => nQ_bd (lL (zsL [a0, a1, a2] [b0, b1, b2] [c0, c1, c2])) q j (okL_bd hL q hq))
  have HDf := Lib.hid (ly_diff (lL (zsL [a0, a1, a2] [b0, b1, b2] [c0, c1, c2])))
  have HTa := Lib.hid (fun (u : World) (R : List Res) (F : List (World → Prop)) (gr : Nat) (A : Option Addr) (c : Nat) (E : Kn w R F u) (hg : cellsF gr [.slice A 8 c] ∈ F) (hx : bsF A 8 (lA (lL (zsL [a0, a1, a2] [b0, b1, b2] [c0, c1, c2]))) ∈ F) => show Calls Tryd.prog 71 #[arr [19, 2, 0, 0, 0, 0], .pointer (some ⟨gr, 0, none⟩)] u (fun e u1 => e = .returned (.int .i64 (n2 (lb (lL (zsL [a0, a1, a2] [b0, b1, b2] [c0, c1, c2])) 19) (lb (lL (zsL [a0, a1, a2] [b0, b1, b2] [c0, c1, c2])) 20))) ∧ Kn w R F u1) from by
    rw [← take_a (lL (zsL [a0, a1, a2] [b0, b1, b2] [c0, c1, c2]))]
    exact take3 E gr A c (lA (lL (zsL [a0, a1, a2] [b0, b1, b2] [c0, c1, c2]))) (fun j => (([(19, 2), (0, 0), (0, 0)] : List (Nat × Nat)).getD j (0, 0)).1) (fun j => (([(19, 2), (0, 0), (0, 0)] : List (Nat × Nat)).getD j (0, 0)).2) hg hx (by unfold okR; decide))
  have HTb := Lib.hid (fun (u : World) (R : List Res) (F : List (World → Prop)) (gr : Nat) (A : Option Addr) (c : Nat) (E : Kn w R F u) (hg : cellsF gr [.slice A 8 c] ∈ F) (hx : bsF A 8 (lA (lL (zsL [a0, a1, a2] [b0, b1, b2] [c0, c1, c2]))) ∈ F) => show Calls Tryd.prog 71 #[arr [22, 2, 0, 0, 0, 0], .pointer (some ⟨gr, 0, none⟩)] u (fun e u1 => e = .returned (.int .i64 (n2 (lb (lL (zsL [a0, a1, a2] [b0, b1, b2] [c0, c1, c2])) 22) (lb (lL (zsL [a0, a1, a2] [b0, b1, b2] [c0, c1, c2])) 23))) ∧ Kn w R F u1) from by
    rw [← take_b (lL (zsL [a0, a1, a2] [b0, b1, b2] [c0, c1, c2]))]
    exact take3 E gr A c (lA (lL (zsL [a0, a1, a2] [b0, b1, b2] [c0, c1, c2]))) (fun j => (([(22, 2), (0, 0), (0, 0)] : List (Nat × Nat)).getD j (0, 0)).1) (fun j => (([(22, 2), (0, 0), (0, 0)] : List (Nat × Nat)).getD j (0, 0)).2) hg hx (by unfold okR; decide))
  have hbg := Lib.hid (show big (lL (zsL [a0, a1, a2] [b0, b1, b2] [c0, c1, c2])) = decide (4 ≤ n2 (lb (lL (zsL [a0, a1, a2] [b0, b1, b2] [c0, c1, c2])) 19) (lb (lL (zsL [a0, a1, a2] [b0, b1, b2] [c0, c1, c2])) 20) + n2 (lb (lL (zsL [a0, a1, a2] [b0, b1, b2] [c0, c1, c2])) 22) (lb (lL (zsL [a0, a1, a2] [b0, b1, b2] [c0, c1, c2])) 23)) from rfl)
  have hna := n2_bd (lb (lL (zsL [a0, a1, a2] [b0, b1, b2] [c0, c1, c2])) 19) (lb (lL (zsL [a0, a1, a2] [b0, b1, b2] [c0, c1, c2])) 20)
  have hnb := n2_bd (lb (lL (zsL [a0, a1, a2] [b0, b1, b2] [c0, c1, c2])) 22) (lb (lL (zsL [a0, a1, a2] [b0, b1, b2] [c0, c1, c2])) 23)
  have HAb := Lib.hid (fun h => show st (lA (lL (zsL [a0, a1, a2] [b0, b1, b2] [c0, c1, c2]))) true 16 3 ((7 : Int) % ((2 ^ 3 : Nat) : Int)).toNat = kB (lL (zsL [a0, a1, a2] [b0, b1, b2] [c0, c1, c2])) 0 from above (lL (zsL [a0, a1, a2] [b0, b1, b2] [c0, c1, c2])) h)
  have HBe := Lib.hid (fun h => show st (lA (lL (zsL [a0, a1, a2] [b0, b1, b2] [c0, c1, c2]))) true 21 1 ((1 : Int) % ((2 ^ 1 : Nat) : Int)).toNat = kB (lL (zsL [a0, a1, a2] [b0, b1, b2] [c0, c1, c2])) 0 from below (lL (zsL [a0, a1, a2] [b0, b1, b2] [c0, c1, c2])) h)
  have HKl := Lib.hid (kB_length (lL (zsL [a0, a1, a2] [b0, b1, b2] [c0, c1, c2])))
  have HKk := Lib.hid (kB_kind (lL (zsL [a0, a1, a2] [b0, b1, b2] [c0, c1, c2])))
  have HKs := Lib.hid (kB_st (lL (zsL [a0, a1, a2] [b0, b1, b2] [c0, c1, c2])))
  have HKn := Lib.hid (kB_no (lL (zsL [a0, a1, a2] [b0, b1, b2] [c0, c1, c2])))
  have HKB := Lib.hid (fun (c : Nat) (hc : c < 2) => show (i64s kbL)[c]? = some (Value.int .i64 ((c : Int) + 1)) from by
    obtain rfl | rfl : c = 0 ∨ c = 1 := by omega
    all_goals rfl)
  have HZg := Lib.hid (show ∀ k, (zsL [a0, a1, a2] [b0, b1, b2] [c0, c1, c2]).getD k 0 = lL (zsL [a0, a1, a2] [b0, b1, b2] [c0, c1, c2]) k from fun _ => rfl)
  rw [show lB (lL (zsL [a0, a1, a2] [b0, b1, b2] [c0, c1, c2])) = kB (lL (zsL [a0, a1, a2] [b0, b1, b2] [c0, c1, c2])) 2 from rfl]
  clear hG hok hL ho hh hv hz
  generalize zsL [a0, a1, a2] [b0, b1, b2] [c0, c1, c2] = zs at *
  generalize lL zs = L at *
  generalize plL = PL at *
  generalize kbL = KB at *
  have hAl := Lib.hid (show (lA L).length = 8 from lay8_length (lb L))
  generalize n2 (lb L 19) (lb L 20) = na at *
  generalize n2 (lb L 22) (lb L 23) = nb at *
  have hw7 := Lib.hid (show IntKind.i64.wrap (na + nb) = na + nb from by rw [IntKind.wrap_i64]; omega)
  replace hna := Lib.hid hna
  replace hnb := Lib.hid hnb
  generalize ly L = LY at *
  generalize nQ L = NQ at *
  generalize lA L = LA at *
  generalize kB L = KK at *
  go_enter Tryd.func14, Tryd.ntmps14
  go_wp2_with (first
    | ((with_reducible refine kn_made (pv := #[(0, arr [a0, a1, a2]), (1, arr [b0, b1, b2]), (2, arr [c0, c1, c2])]) rfl rfl ?hp hbt.out ?_); (case hp => simp only [List.map_toArray, List.map_cons, List.map_nil]; rfl))
    | ((with_reducible refine kn_stores (g := g8) (vs := i64s zs) E.out rfl rfl rfl rfl rfl ?hl ?h1 ?_); (case hl => exact ⟨rfl, by rw [i64s_length]; exact hzl.out⟩); (case h1 => exact i64s_one _); clear E; intro u E0; have E := Lib.hid E0; clear E0)
    | ((with_reducible refine kn_loads (g := g8) E.out rfl rfl rfl ?hl ?_); (case hl => rw [i64s_length]; exact hzl.out))
    | (go_at_call 33; (with_reducible refine (hF.out _ ?ha).mono ?_); (case ha => exact E.out.get List.mem_cons_self); clear hF; rintro e w1 ⟨rfl, hb⟩; have E1 := Lib.hid (E.out.later hb); clear hb E; have E := E1; clear E1)
    | ((with_reducible refine kn_make8 E.out rfl rfl rfl rfl ?_); clear E; intro gg u E0 hB; rw [← HL0.out] at hB; have E := Lib.hid ((E0.rest gg).new_bsi hB); clear E0 hB)
    | ((with_reducible refine kn_gloads (g := 1) (vs := i64s PL) E.out rfl rfl ?hx ?h1 ?h2 ?_); (case hx => rfl); (case h1 => simp); (case h2 => exact hpl.out))
    | ((with_reducible refine kn_load E.out rfl rfl rfl rfl ?_)) | ((with_reducible refine kn_load_if E.out rfl rfl rfl rfl ?_)) | ((with_reducible refine kn_loads E.out rfl rfl rfl ?_ ?_); (focus (first | rfl | (simp only [i64s_length, u8s_length]; first | rfl | assumption | omega)))) | ((with_reducible refine kn_loads_if E.out rfl rfl rfl ?_ ?_); (focus (first | rfl | (simp only [i64s_length, u8s_length]; first | rfl | assumption | omega)))) | ((with_reducible refine kn_store1_int E.out rfl rfl rfl rfl rfl ?_); clear E; intro u E0; have E := Lib.hid E0; clear E0) | ((with_reducible refine kn_store1_slice E.out rfl rfl rfl rfl rfl ?_); clear E; intro u E0; have E := Lib.hid E0; clear E0) | ((with_reducible refine kn_store1_bool E.out rfl rfl rfl rfl rfl ?_); clear E; intro u E0; have E := Lib.hid E0; clear E0) | ((with_reducible refine kn_stores E.out rfl rfl rfl rfl rfl ?_ ?_ ?_); (focus (first | exact ⟨rfl, rfl⟩ | (simp only [i64s_length, u8s_length]; refine ⟨?_, ?_⟩ <;> first | rfl | assumption | omega))); (focus (first | exact i64s_one _ | exact u8s_one _ | simp [Value.oneCell'])); clear E; intro u E0; have E := Lib.hid E0; clear E0) | ((with_reducible refine kn_alloc (o := ⟨some 3, _, _, _, _, _⟩) E.out rfl rfl ?_); clear E; intro g3 u E0 hb0; have E := Lib.hid E0; clear E0 hb0) | ((with_reducible refine kn_box (o := ⟨some 3, _, _, _, _, _⟩) E.out rfl rfl rfl ?_); clear E; intro g3 u E0 hb0; have E := Lib.hid E0; clear E0 hb0) | ((with_reducible refine kn_box_int (o := ⟨some 3, _, _, _, _, _⟩) E.out rfl rfl rfl ?_); clear E; intro g3 u E0 hb0; have E := Lib.hid E0; clear E0 hb0) | ((with_reducible refine kn_box_slice (o := ⟨some 3, _, _, _, _, _⟩) E.out rfl rfl rfl ?_); clear E; intro g3 u E0 hb0; have E := Lib.hid E0; clear E0 hb0) | ((with_reducible refine kn_box_bool (o := ⟨some 3, _, _, _, _, _⟩) E.out rfl rfl rfl ?_); clear E; intro g3 u E0 hb0; have E := Lib.hid E0; clear E0 hb0) | ((with_reducible refine kn_box_func (o := ⟨some 3, _, _, _, _, _⟩) E.out rfl rfl rfl ?_); clear E; intro g3 u E0 hb0; have E := Lib.hid E0; clear E0 hb0) | ((with_reducible refine kn_alloc (o := ⟨some 4, _, _, _, _, _⟩) E.out rfl rfl ?_); clear E; intro g4 u E0 hb0; have E := Lib.hid E0; clear E0 hb0) | ((with_reducible refine kn_box (o := ⟨some 4, _, _, _, _, _⟩) E.out rfl rfl rfl ?_); clear E; intro g4 u E0 hb0; have E := Lib.hid E0; clear E0 hb0) | ((with_reducible refine kn_box_int (o := ⟨some 4, _, _, _, _, _⟩) E.out rfl rfl rfl ?_); clear E; intro g4 u E0 hb0; have E := Lib.hid E0; clear E0 hb0) | ((with_reducible refine kn_box_slice (o := ⟨some 4, _, _, _, _, _⟩) E.out rfl rfl rfl ?_); clear E; intro g4 u E0 hb0; have E := Lib.hid E0; clear E0 hb0) | ((with_reducible refine kn_box_bool (o := ⟨some 4, _, _, _, _, _⟩) E.out rfl rfl rfl ?_); clear E; intro g4 u E0 hb0; have E := Lib.hid E0; clear E0 hb0) | ((with_reducible refine kn_box_func (o := ⟨some 4, _, _, _, _, _⟩) E.out rfl rfl rfl ?_); clear E; intro g4 u E0 hb0; have E := Lib.hid E0; clear E0 hb0) | ((with_reducible refine kn_alloc (o := ⟨some 5, _, _, _, _, _⟩) E.out rfl rfl ?_); clear E; intro g5 u E0 hb0; have E := Lib.hid E0; clear E0 hb0) | ((with_reducible refine kn_box (o := ⟨some 5, _, _, _, _, _⟩) E.out rfl rfl rfl ?_); clear E; intro g5 u E0 hb0; have E := Lib.hid E0; clear E0 hb0) | ((with_reducible refine kn_box_int (o := ⟨some 5, _, _, _, _, _⟩) E.out rfl rfl rfl ?_); clear E; intro g5 u E0 hb0; have E := Lib.hid E0; clear E0 hb0) | ((with_reducible refine kn_box_slice (o := ⟨some 5, _, _, _, _, _⟩) E.out rfl rfl rfl ?_); clear E; intro g5 u E0 hb0; have E := Lib.hid E0; clear E0 hb0) | ((with_reducible refine kn_box_bool (o := ⟨some 5, _, _, _, _, _⟩) E.out rfl rfl rfl ?_); clear E; intro g5 u E0 hb0; have E := Lib.hid E0; clear E0 hb0) | ((with_reducible refine kn_box_func (o := ⟨some 5, _, _, _, _, _⟩) E.out rfl rfl rfl ?_); clear E; intro g5 u E0 hb0; have E := Lib.hid E0; clear E0 hb0) | ((with_reducible refine kn_alloc (o := ⟨some 8, _, _, _, _, _⟩) E.out rfl rfl ?_); clear E; intro g8 u E0 hb0; have E := Lib.hid E0; clear E0 hb0) | ((with_reducible refine kn_box (o := ⟨some 8, _, _, _, _, _⟩) E.out rfl rfl rfl ?_); clear E; intro g8 u E0 hb0; have E := Lib.hid E0; clear E0 hb0) | ((with_reducible refine kn_box_int (o := ⟨some 8, _, _, _, _, _⟩) E.out rfl rfl rfl ?_); clear E; intro g8 u E0 hb0; have E := Lib.hid E0; clear E0 hb0) | ((with_reducible refine kn_box_slice (o := ⟨some 8, _, _, _, _, _⟩) E.out rfl rfl rfl ?_); clear E; intro g8 u E0 hb0; have E := Lib.hid E0; clear E0 hb0) | ((with_reducible refine kn_box_bool (o := ⟨some 8, _, _, _, _, _⟩) E.out rfl rfl rfl ?_); clear E; intro g8 u E0 hb0; have E := Lib.hid E0; clear E0 hb0) | ((with_reducible refine kn_box_func (o := ⟨some 8, _, _, _, _, _⟩) E.out rfl rfl rfl ?_); clear E; intro g8 u E0 hb0; have E := Lib.hid E0; clear E0 hb0) | ((with_reducible refine kn_alloc (o := ⟨some 9, _, _, _, _, _⟩) E.out rfl rfl ?_); clear E; intro g9 u E0 hb0; have E := Lib.hid E0; clear E0 hb0) | ((with_reducible refine kn_box (o := ⟨some 9, _, _, _, _, _⟩) E.out rfl rfl rfl ?_); clear E; intro g9 u E0 hb0; have E := Lib.hid E0; clear E0 hb0) | ((with_reducible refine kn_box_int (o := ⟨some 9, _, _, _, _, _⟩) E.out rfl rfl rfl ?_); clear E; intro g9 u E0 hb0; have E := Lib.hid E0; clear E0 hb0) | ((with_reducible refine kn_box_slice (o := ⟨some 9, _, _, _, _, _⟩) E.out rfl rfl rfl ?_); clear E; intro g9 u E0 hb0; have E := Lib.hid E0; clear E0 hb0) | ((with_reducible refine kn_box_bool (o := ⟨some 9, _, _, _, _, _⟩) E.out rfl rfl rfl ?_); clear E; intro g9 u E0 hb0; have E := Lib.hid E0; clear E0 hb0) | ((with_reducible refine kn_box_func (o := ⟨some 9, _, _, _, _, _⟩) E.out rfl rfl rfl ?_); clear E; intro g9 u E0 hb0; have E := Lib.hid E0; clear E0 hb0) | ((with_reducible refine kn_alloc E.out rfl rfl ?_); clear E; intro g u E0 hb0; have E := Lib.hid E0; clear E0 hb0) | ((with_reducible refine kn_box E.out rfl rfl rfl ?_); clear E; intro g u E0 hb0; have E := Lib.hid E0; clear E0 hb0) | ((with_reducible refine kn_box_int E.out rfl rfl rfl ?_); clear E; intro g u E0 hb0; have E := Lib.hid E0; clear E0 hb0) | ((with_reducible refine kn_box_slice E.out rfl rfl rfl ?_); clear E; intro g u E0 hb0; have E := Lib.hid E0; clear E0 hb0) | ((with_reducible refine kn_box_bool E.out rfl rfl rfl ?_); clear E; intro g u E0 hb0; have E := Lib.hid E0; clear E0 hb0) | ((with_reducible refine kn_box_func E.out rfl rfl rfl ?_); clear E; intro g u E0 hb0; have E := Lib.hid E0; clear E0 hb0))
  go_loopw [30] (fun ck wr => ∃ (i : Nat) (A1 : Option Addr) (c1 : Nat), i ≤ 3 ∧ ck = .int .i64 (i : Int) ∧ (8 ≤ c1 ∧ c1 ≤ 9223372036854775807) ∧ Hid (Kn w [.row g9 22 [.slice A1 8 c1], .row g8 35 (i64s zs)] [bsF A1 8 (LY (3 * (3 * i))), cellsF 1 (i64s PL), cellsF 2 (i64s [30, 1]), cellsF 3 (i64s [19, 2, 0, 0, 0, 0]), cellsF 4 (i64s [22, 2, 0, 0, 0, 0]), cellsF 5 (i64s [16, 3]), cellsF 6 (i64s [21, 1]), cellsF 7 (i64s [0, 1, 8, 1]), cellsF 8 (i64s KB), Glb] wr)) (fun ck _ => 3 - (intOf ck).toNat)
  case atStart => exact ⟨0, some ⟨gg, 0, none⟩, 8, by omega, rfl, ⟨by omega, by omega⟩, E.out.part _ _ (by repeat (first | exact List.Sublist.refl _ | apply List.Sublist.cons_cons | apply List.Sublist.cons)) (by simp)⟩
  case round =>
    clear E
    obtain ⟨i, A1, c1, hi, rfl, hc1, E⟩ := hrel
    by_cases hlt : i < 3
    · have hi3 : (i : Int) < 3 := by omega
      have hix : ∀ u, (Instr.index 82 (.agg (i64s PL).toArray) (.int .i64 (i : Int))).run Tryd.prog u = .ok (arr ((PL.drop (i * 18)).take 18)) u := fun u => HI.out i hlt u
      rw [HIP.out i hlt] at hix
      have hJ := Lib.hid (fun c (hc : c < 3) u => HJ.out i c hc u)
      have hJP := Lib.hid (fun c (hc : c < 3) => HJP.out i c hc)
      have hr3 := Lib.hid (HR3.out i)
      have hLQ := Lib.hid (fun c (hc : c < 3) j (hj : j < 3) => HLY.out (3 * i + c) j (by omega) hj)
      have hN0 := Lib.hid (fun c => HN0.out (3 * i + c))
      have hNn := Lib.hid (fun c => HNn.out (3 * i + c))
      have hNb := Lib.hid (fun c (hc : c < 3) j => HNb.out (3 * i + c) j (by omega))
      have hQ := Lib.hid (fun c (hc : c < 3) => q_ok (3 * i + c) (by omega))
      have hZi := Lib.hid (fun c (hc : c < 3) => show (i64s zs)[i * 3 + c]? = some (Value.int .i64 (L (3 * i + c))) from by rw [i64s_get zs (i * 3 + c) (by rw [hzl.out]; omega), HZg.out, Nat.mul_comm])
      clear HI HIP HJ HJP HR3 HLY HN0 HNn HNb HDf HTa HTb HAb HBe HKl HKk HKs HKn HZg HL0
      obtain ⟨R3, hR3⟩ : ∃ z, rV3 (plA i) (plM i) = z := ⟨_, rfl⟩
      rw [hR3] at hix hJ hJP hr3
      clear hR3
      go_wp2_with (first
        | ((with_reducible refine kn_stores (g := g12) (vs := i64s R3) E.out rfl rfl rfl rfl rfl ?hl ?h1 ?_); (case hl => exact ⟨rfl, hr3.out⟩); (case h1 => exact i64s_one _); clear E; intro u E0; have E := Lib.hid E0; clear E0)
        | ((with_reducible refine kn_loads (g := g12) E.out rfl rfl rfl ?hl ?_); (case hl => exact hr3.out))
        | ((with_reducible refine kn_load E.out rfl rfl rfl rfl ?_)) | ((with_reducible refine kn_load_if E.out rfl rfl rfl rfl ?_)) | ((with_reducible refine kn_loads E.out rfl rfl rfl ?_ ?_); (focus (first | rfl | (simp only [i64s_length, u8s_length]; first | rfl | assumption | omega)))) | ((with_reducible refine kn_loads_if E.out rfl rfl rfl ?_ ?_); (focus (first | rfl | (simp only [i64s_length, u8s_length]; first | rfl | assumption | omega)))) | ((with_reducible refine kn_store1_int E.out rfl rfl rfl rfl rfl ?_); clear E; intro u E0; have E := Lib.hid E0; clear E0) | ((with_reducible refine kn_store1_slice E.out rfl rfl rfl rfl rfl ?_); clear E; intro u E0; have E := Lib.hid E0; clear E0) | ((with_reducible refine kn_store1_bool E.out rfl rfl rfl rfl rfl ?_); clear E; intro u E0; have E := Lib.hid E0; clear E0) | ((with_reducible refine kn_stores E.out rfl rfl rfl rfl rfl ?_ ?_ ?_); (focus (first | exact ⟨rfl, rfl⟩ | (simp only [i64s_length, u8s_length]; refine ⟨?_, ?_⟩ <;> first | rfl | assumption | omega))); (focus (first | exact i64s_one _ | exact u8s_one _ | simp [Value.oneCell'])); clear E; intro u E0; have E := Lib.hid E0; clear E0) | ((with_reducible refine kn_alloc (o := ⟨some 12, _, _, _, _, _⟩) E.out rfl rfl ?_); clear E; intro g12 u E0 hb0; have E := Lib.hid E0; clear E0 hb0) | ((with_reducible refine kn_box (o := ⟨some 12, _, _, _, _, _⟩) E.out rfl rfl rfl ?_); clear E; intro g12 u E0 hb0; have E := Lib.hid E0; clear E0 hb0) | ((with_reducible refine kn_box_int (o := ⟨some 12, _, _, _, _, _⟩) E.out rfl rfl rfl ?_); clear E; intro g12 u E0 hb0; have E := Lib.hid E0; clear E0 hb0) | ((with_reducible refine kn_box_slice (o := ⟨some 12, _, _, _, _, _⟩) E.out rfl rfl rfl ?_); clear E; intro g12 u E0 hb0; have E := Lib.hid E0; clear E0 hb0) | ((with_reducible refine kn_box_bool (o := ⟨some 12, _, _, _, _, _⟩) E.out rfl rfl rfl ?_); clear E; intro g12 u E0 hb0; have E := Lib.hid E0; clear E0 hb0) | ((with_reducible refine kn_box_func (o := ⟨some 12, _, _, _, _, _⟩) E.out rfl rfl rfl ?_); clear E; intro g12 u E0 hb0; have E := Lib.hid E0; clear E0 hb0) | ((with_reducible refine kn_alloc E.out rfl rfl ?_); clear E; intro g u E0 hb0; have E := Lib.hid E0; clear E0 hb0) | ((with_reducible refine kn_box E.out rfl rfl rfl ?_); clear E; intro g u E0 hb0; have E := Lib.hid E0; clear E0 hb0) | ((with_reducible refine kn_box_int E.out rfl rfl rfl ?_); clear E; intro g u E0 hb0; have E := Lib.hid E0; clear E0 hb0) | ((with_reducible refine kn_box_slice E.out rfl rfl rfl ?_); clear E; intro g u E0 hb0; have E := Lib.hid E0; clear E0 hb0) | ((with_reducible refine kn_box_bool E.out rfl rfl rfl ?_); clear E; intro g u E0 hb0; have E := Lib.hid E0; clear E0 hb0) | ((with_reducible refine kn_box_func E.out rfl rfl rfl ?_); clear E; intro g u E0 hb0; have E := Lib.hid E0; clear E0 hb0))
      go_loopw [35] (fun ck wr => ∃ (c : Nat) (A1 : Option Addr) (c1 : Nat), c ≤ 3 ∧ ck = .int .i64 (c : Int) ∧ (8 ≤ c1 ∧ c1 ≤ 9223372036854775807) ∧ Hid (Kn w [.row g9 22 [.slice A1 8 c1], .row g8 35 (i64s zs)] [bsF A1 8 (LY (3 * (3 * i + c))), cellsF 1 (i64s PL), cellsF 2 (i64s [30, 1]), cellsF 3 (i64s [19, 2, 0, 0, 0, 0]), cellsF 4 (i64s [22, 2, 0, 0, 0, 0]), cellsF 5 (i64s [16, 3]), cellsF 6 (i64s [21, 1]), cellsF 7 (i64s [0, 1, 8, 1]), cellsF 8 (i64s KB), Glb] wr)) (fun ck _ => 3 - (intOf ck).toNat)
      case atStart => exact ⟨0, A1, c1, by omega, rfl, hc1, E.out.part _ _ (by repeat (first | exact List.Sublist.refl _ | apply List.Sublist.cons_cons | apply List.Sublist.cons)) (by simp)⟩
      case round =>
        clear E
        obtain ⟨c, A2, c2, hc, rfl, hc2, E⟩ := hrel
        by_cases hltc : c < 3
        · have hc3 : (c : Int) < 3 := by omega
          have hjx : ∀ u, (Instr.index 81 (.agg (i64s R3).toArray) (.int .i64 (c : Int))).run Tryd.prog u = .ok (arr ((R3.drop (c * 6)).take 6)) u := fun u => hJ.out c hltc u
          rw [hJP.out c hltc] at hjx
          have hrc := Lib.hid (show (i64s (rV (plA i c) (plM i c))).length = 6 from rfl)
          have hrr := Lib.hid (show (rV (plA i c) (plM i c)).length = 6 from rfl)
          have hP := Lib.hid (fun kk (hk : kk < 3) => show ((rV (plA i c) (plM i c)).drop (kk * 2)).take 2 = [((qA (3 * i + c) kk : Nat) : Int), ((qM (3 * i + c) kk : Nat) : Int)] from rV_part (plA i c) (plM i c) kk hk)
          have hM := Lib.hid (fun kk (hk : kk < 3) => show (i64s (rV (plA i c) (plM i c)))[kk * 2 + 1]? = some (Value.int .i64 ((qM (3 * i + c) kk : Nat) : Int)) from by
            obtain rfl | rfl | rfl : kk = 0 ∨ kk = 1 ∨ kk = 2 := by omega
            all_goals rfl)
          have hLq := Lib.hid (fun j (hj : j < 3) => hLQ.out c hltc j hj)
          have hn0 := Lib.hid (hN0.out c)
          have hnn := Lib.hid (fun j (hj : j < 3) => hNn.out c j hj)
          have hnb := Lib.hid (fun j => hNb.out c hltc j)
          have hq := Lib.hid (hQ.out c hltc)
          have hzi := Lib.hid (hZi.out c hltc)
          clear hJ hJP hr3 hLQ hN0 hNn hNb hQ hZi
          obtain ⟨R1, hR1⟩ : ∃ z, rV (plA i c) (plM i c) = z := ⟨_, rfl⟩
          rw [hR1] at hjx hrc hrr hP hM
          clear hR1
          go_wp2_with (first
            | ((with_reducible refine kn_stores (g := g14) (vs := i64s R1) E.out rfl rfl rfl rfl rfl ?hl ?h1 ?_); (case hl => exact ⟨rfl, hrc.out⟩); (case h1 => exact i64s_one _); clear E; intro u E0; have E := Lib.hid E0; clear E0)
            | ((with_reducible refine kn_load (g := g8) (i := i * 3 + c) E.out rfl rfl rfl hzi.out ?_))
            | ((with_reducible refine kn_load E.out rfl rfl rfl rfl ?_)) | ((with_reducible refine kn_load_if E.out rfl rfl rfl rfl ?_)) | ((with_reducible refine kn_loads E.out rfl rfl rfl ?_ ?_); (focus (first | rfl | (simp only [i64s_length, u8s_length]; first | rfl | assumption | omega)))) | ((with_reducible refine kn_loads_if E.out rfl rfl rfl ?_ ?_); (focus (first | rfl | (simp only [i64s_length, u8s_length]; first | rfl | assumption | omega)))) | ((with_reducible refine kn_store1_int E.out rfl rfl rfl rfl rfl ?_); clear E; intro u E0; have E := Lib.hid E0; clear E0) | ((with_reducible refine kn_store1_slice E.out rfl rfl rfl rfl rfl ?_); clear E; intro u E0; have E := Lib.hid E0; clear E0) | ((with_reducible refine kn_store1_bool E.out rfl rfl rfl rfl rfl ?_); clear E; intro u E0; have E := Lib.hid E0; clear E0) | ((with_reducible refine kn_stores E.out rfl rfl rfl rfl rfl ?_ ?_ ?_); (focus (first | exact ⟨rfl, rfl⟩ | (simp only [i64s_length, u8s_length]; refine ⟨?_, ?_⟩ <;> first | rfl | assumption | omega))); (focus (first | exact i64s_one _ | exact u8s_one _ | simp [Value.oneCell'])); clear E; intro u E0; have E := Lib.hid E0; clear E0) | ((with_reducible refine kn_alloc (o := ⟨some 14, _, _, _, _, _⟩) E.out rfl rfl ?_); clear E; intro g14 u E0 hb0; have E := Lib.hid E0; clear E0 hb0) | ((with_reducible refine kn_box (o := ⟨some 14, _, _, _, _, _⟩) E.out rfl rfl rfl ?_); clear E; intro g14 u E0 hb0; have E := Lib.hid E0; clear E0 hb0) | ((with_reducible refine kn_box_int (o := ⟨some 14, _, _, _, _, _⟩) E.out rfl rfl rfl ?_); clear E; intro g14 u E0 hb0; have E := Lib.hid E0; clear E0 hb0) | ((with_reducible refine kn_box_slice (o := ⟨some 14, _, _, _, _, _⟩) E.out rfl rfl rfl ?_); clear E; intro g14 u E0 hb0; have E := Lib.hid E0; clear E0 hb0) | ((with_reducible refine kn_box_bool (o := ⟨some 14, _, _, _, _, _⟩) E.out rfl rfl rfl ?_); clear E; intro g14 u E0 hb0; have E := Lib.hid E0; clear E0 hb0) | ((with_reducible refine kn_box_func (o := ⟨some 14, _, _, _, _, _⟩) E.out rfl rfl rfl ?_); clear E; intro g14 u E0 hb0; have E := Lib.hid E0; clear E0 hb0) | ((with_reducible refine kn_alloc E.out rfl rfl ?_); clear E; intro g u E0 hb0; have E := Lib.hid E0; clear E0 hb0) | ((with_reducible refine kn_box E.out rfl rfl rfl ?_); clear E; intro g u E0 hb0; have E := Lib.hid E0; clear E0 hb0) | ((with_reducible refine kn_box_int E.out rfl rfl rfl ?_); clear E; intro g u E0 hb0; have E := Lib.hid E0; clear E0 hb0) | ((with_reducible refine kn_box_slice E.out rfl rfl rfl ?_); clear E; intro g u E0 hb0; have E := Lib.hid E0; clear E0 hb0) | ((with_reducible refine kn_box_bool E.out rfl rfl rfl ?_); clear E; intro g u E0 hb0; have E := Lib.hid E0; clear E0 hb0) | ((with_reducible refine kn_box_func E.out rfl rfl rfl ?_); clear E; intro g u E0 hb0; have E := Lib.hid E0; clear E0 hb0))
          go_loopw [15, 16] (fun cn ck wr => ∃ (j : Nat) (z : Int) (A1 : Option Addr) (c1 : Nat), j ≤ 3 ∧ z = 2 - (j : Int) ∧ cn = .int .i64 (NQ (3 * i + c) j) ∧ ck = .int .i64 z ∧ (8 ≤ c1 ∧ c1 ≤ 9223372036854775807) ∧ Hid (Kn w [.row g9 22 [.slice A1 8 c1], .row g14 80 (i64s R1), .row g8 35 (i64s zs)] [bsF A1 8 (LY (3 * (3 * i + c) + j)), cellsF 1 (i64s PL), cellsF 2 (i64s [30, 1]), cellsF 3 (i64s [19, 2, 0, 0, 0, 0]), cellsF 4 (i64s [22, 2, 0, 0, 0, 0]), cellsF 5 (i64s [16, 3]), cellsF 6 (i64s [21, 1]), cellsF 7 (i64s [0, 1, 8, 1]), cellsF 8 (i64s KB), Glb] wr)) (fun _ ck _ => (intOf ck + 1).toNat)
          case atStart => exact ⟨0, 2, A2, c2, by omega, by omega, by rw [hn0.out], rfl, hc2, (kn_front (r := .row g9 22 [.slice A2 8 c2]) E.out).part _ _ (by repeat (first | exact List.Sublist.refl _ | apply List.Sublist.cons_cons | apply List.Sublist.cons)) (by simp)⟩
          case round =>
            clear E
            obtain ⟨j, z, A3, c3, hj, hz, rfl, rfl, hc3', E⟩ := hrel
            by_cases hltj : j < 3
            · obtain ⟨kk, hkk⟩ : ∃ kk : Nat, z = (kk : Int) := ⟨2 - j, by omega⟩
              subst hkk
              have hjk : 2 - j = kk := by omega
              have hk3 : kk < 3 := by omega
              have hg : decide ((kk : Int) ≥ 0) = true := decide_eq_true (by omega)
              have hp := Lib.hid (hP.out kk hk3)
              have hm := Lib.hid (hM.out kk hk3)
              have hl := hLq.out j hltj
              have hn := hnn.out j hltj
              have hqq := hq.out kk hk3
              have hb := hnb.out j
              rw [hjk] at hl hn
              clear hP hM hLq hnn hq hnb hn0
              generalize qA (3 * i + c) kk = ak at *
              generalize qM (3 * i + c) kk = mk at *
              obtain ⟨n1, hn1⟩ : ∃ z, NQ (3 * i + c) (j + 1) = z := ⟨_, rfl⟩
              rw [hn1] at hn
              obtain ⟨l1, hl1⟩ : ∃ z, LY (3 * (3 * i + c) + (j + 1)) = z := ⟨_, rfl⟩
              rw [hl1] at hl
              have hll := Lib.hid (HLl.out (3 * (3 * i + c) + j))
              generalize NQ (3 * i + c) j = n0 at *
              generalize LY (3 * (3 * i + c) + j) = l0 at *
              replace hn := Lib.hid hn
              replace hl := Lib.hid hl
              replace hn1 := Lib.hid hn1
              replace hl1 := Lib.hid hl1
              replace hqq := Lib.hid hqq
              replace hjk := Lib.hid hjk
              replace hz := Lib.hid hz
              go_wp2_with (first
                | (go_at_call 34; (with_reducible refine (put2 g9 A3 c3 E.out n0 ak mk l0 l1 ?h1 ?h2 ?h3 ?h4 ?h5).mono ?_); (case h1 => exact List.mem_cons_self); (case h2 => exact hqq.out.2); (case h3 => exact hqq.out.1); (case h4 => exact hll.out); (case h5 => exact hl.out); clear E; rintro e w1 ⟨rfl, A4, c4, hc4, E0⟩; have E := Lib.hid E0; clear E0)
                | ((with_reducible refine kn_loadp (g := g14) (zs := R1) (off := kk * 2) E.out rfl rfl rfl ?hl ?_); (case hl => rw [hrr.out]; omega); rw [hp.out])
                | ((with_reducible refine kn_load (g := g14) (i := kk * 2 + 1) E.out rfl rfl rfl hm.out ?_))
                | ((with_reducible refine kn_load E.out rfl rfl rfl rfl ?_)) | ((with_reducible refine kn_load_if E.out rfl rfl rfl rfl ?_)) | ((with_reducible refine kn_loads E.out rfl rfl rfl ?_ ?_); (focus (first | rfl | (simp only [i64s_length, u8s_length]; first | rfl | assumption | omega)))) | ((with_reducible refine kn_loads_if E.out rfl rfl rfl ?_ ?_); (focus (first | rfl | (simp only [i64s_length, u8s_length]; first | rfl | assumption | omega)))) | ((with_reducible refine kn_store1_int E.out rfl rfl rfl rfl rfl ?_); clear E; intro u E0; have E := Lib.hid E0; clear E0) | ((with_reducible refine kn_store1_slice E.out rfl rfl rfl rfl rfl ?_); clear E; intro u E0; have E := Lib.hid E0; clear E0) | ((with_reducible refine kn_store1_bool E.out rfl rfl rfl rfl rfl ?_); clear E; intro u E0; have E := Lib.hid E0; clear E0) | ((with_reducible refine kn_stores E.out rfl rfl rfl rfl rfl ?_ ?_ ?_); (focus (first | exact ⟨rfl, rfl⟩ | (simp only [i64s_length, u8s_length]; refine ⟨?_, ?_⟩ <;> first | rfl | assumption | omega))); (focus (first | exact i64s_one _ | exact u8s_one _ | simp [Value.oneCell'])); clear E; intro u E0; have E := Lib.hid E0; clear E0) | ((with_reducible refine kn_alloc E.out rfl rfl ?_); clear E; intro g u E0 hb0; have E := Lib.hid E0; clear E0 hb0) | ((with_reducible refine kn_box E.out rfl rfl rfl ?_); clear E; intro g u E0 hb0; have E := Lib.hid E0; clear E0 hb0) | ((with_reducible refine kn_box_int E.out rfl rfl rfl ?_); clear E; intro g u E0 hb0; have E := Lib.hid E0; clear E0 hb0) | ((with_reducible refine kn_box_slice E.out rfl rfl rfl ?_); clear E; intro g u E0 hb0; have E := Lib.hid E0; clear E0 hb0) | ((with_reducible refine kn_box_bool E.out rfl rfl rfl ?_); clear E; intro g u E0 hb0; have E := Lib.hid E0; clear E0 hb0) | ((with_reducible refine kn_box_func E.out rfl rfl rfl ?_); clear E; intro g u E0 hb0; have E := Lib.hid E0; clear E0 hb0))
              go_roundw
              case rel =>
                have hq7 := hqq.out
                have hpw : n0 / 2 ^ min mk 64 = n1 := by
                  rw [← hn.out, Nat.min_eq_left (by omega)]
                  simp
                exact ⟨j + 1, (kk : Int) - 1, A4, c4, by omega, by have h := hz.out; omega, by rw [hpw, hn1.out], rfl, hc4, by rw [hl1.out]; exact E.out.part _ _ (by repeat (first | exact List.Sublist.refl _ | apply List.Sublist.cons_cons | apply List.Sublist.cons)) (by simp)⟩
              case measure => simp [intOf]; try omega
            · obtain rfl : j = 3 := by omega
              obtain rfl : z = -1 := by omega
              clear hP hM hLq hnn hq hnb hn0 hrc hrr hzi hjx
              go_wp2_with (first | ((with_reducible refine kn_load E.out rfl rfl rfl rfl ?_)) | ((with_reducible refine kn_load_if E.out rfl rfl rfl rfl ?_)) | ((with_reducible refine kn_loads E.out rfl rfl rfl ?_ ?_); (focus (first | rfl | (simp only [i64s_length, u8s_length]; first | rfl | assumption | omega)))) | ((with_reducible refine kn_loads_if E.out rfl rfl rfl ?_ ?_); (focus (first | rfl | (simp only [i64s_length, u8s_length]; first | rfl | assumption | omega)))) | ((with_reducible refine kn_store1_int E.out rfl rfl rfl rfl rfl ?_); clear E; intro u E0; have E := Lib.hid E0; clear E0) | ((with_reducible refine kn_store1_slice E.out rfl rfl rfl rfl rfl ?_); clear E; intro u E0; have E := Lib.hid E0; clear E0) | ((with_reducible refine kn_store1_bool E.out rfl rfl rfl rfl rfl ?_); clear E; intro u E0; have E := Lib.hid E0; clear E0) | ((with_reducible refine kn_stores E.out rfl rfl rfl rfl rfl ?_ ?_ ?_); (focus (first | exact ⟨rfl, rfl⟩ | (simp only [i64s_length, u8s_length]; refine ⟨?_, ?_⟩ <;> first | rfl | assumption | omega))); (focus (first | exact i64s_one _ | exact u8s_one _ | simp [Value.oneCell'])); clear E; intro u E0; have E := Lib.hid E0; clear E0) | ((with_reducible refine kn_alloc E.out rfl rfl ?_); clear E; intro g u E0 hb0; have E := Lib.hid E0; clear E0 hb0) | ((with_reducible refine kn_box E.out rfl rfl rfl ?_); clear E; intro g u E0 hb0; have E := Lib.hid E0; clear E0 hb0) | ((with_reducible refine kn_box_int E.out rfl rfl rfl ?_); clear E; intro g u E0 hb0; have E := Lib.hid E0; clear E0 hb0) | ((with_reducible refine kn_box_slice E.out rfl rfl rfl ?_); clear E; intro g u E0 hb0; have E := Lib.hid E0; clear E0 hb0) | ((with_reducible refine kn_box_bool E.out rfl rfl rfl ?_); clear E; intro g u E0 hb0; have E := Lib.hid E0; clear E0 hb0) | ((with_reducible refine kn_box_func E.out rfl rfl rfl ?_); clear E; intro g u E0 hb0; have E := Lib.hid E0; clear E0 hb0))
              go_roundw
              case rel => exact ⟨c + 1, A3, c3, by omega, by go_num, hc3', by rw [show 3 * (3 * i + (c + 1)) = 3 * (3 * i + c) + 3 from rfl]; exact E.out.part _ _ (by repeat (first | exact List.Sublist.refl _ | apply List.Sublist.cons_cons | apply List.Sublist.cons)) (by simp)⟩
              case measure => simp [intOf]; try omega
        · have hc3 : ¬ ((c : Int) < 3) := by omega
          obtain rfl : c = 3 := by omega
          clear hJ hJP hr3 hLQ hN0 hNn hNb hQ hZi
          go_wp2_with (first | ((with_reducible refine kn_load E.out rfl rfl rfl rfl ?_)) | ((with_reducible refine kn_load_if E.out rfl rfl rfl rfl ?_)) | ((with_reducible refine kn_loads E.out rfl rfl rfl ?_ ?_); (focus (first | rfl | (simp only [i64s_length, u8s_length]; first | rfl | assumption | omega)))) | ((with_reducible refine kn_loads_if E.out rfl rfl rfl ?_ ?_); (focus (first | rfl | (simp only [i64s_length, u8s_length]; first | rfl | assumption | omega)))) | ((with_reducible refine kn_store1_int E.out rfl rfl rfl rfl rfl ?_); clear E; intro u E0; have E := Lib.hid E0; clear E0) | ((with_reducible refine kn_store1_slice E.out rfl rfl rfl rfl rfl ?_); clear E; intro u E0; have E := Lib.hid E0; clear E0) | ((with_reducible refine kn_store1_bool E.out rfl rfl rfl rfl rfl ?_); clear E; intro u E0; have E := Lib.hid E0; clear E0) | ((with_reducible refine kn_stores E.out rfl rfl rfl rfl rfl ?_ ?_ ?_); (focus (first | exact ⟨rfl, rfl⟩ | (simp only [i64s_length, u8s_length]; refine ⟨?_, ?_⟩ <;> first | rfl | assumption | omega))); (focus (first | exact i64s_one _ | exact u8s_one _ | simp [Value.oneCell'])); clear E; intro u E0; have E := Lib.hid E0; clear E0) | ((with_reducible refine kn_alloc E.out rfl rfl ?_); clear E; intro g u E0 hb0; have E := Lib.hid E0; clear E0 hb0) | ((with_reducible refine kn_box E.out rfl rfl rfl ?_); clear E; intro g u E0 hb0; have E := Lib.hid E0; clear E0 hb0) | ((with_reducible refine kn_box_int E.out rfl rfl rfl ?_); clear E; intro g u E0 hb0; have E := Lib.hid E0; clear E0 hb0) | ((with_reducible refine kn_box_slice E.out rfl rfl rfl ?_); clear E; intro g u E0 hb0; have E := Lib.hid E0; clear E0 hb0) | ((with_reducible refine kn_box_bool E.out rfl rfl rfl ?_); clear E; intro g u E0 hb0; have E := Lib.hid E0; clear E0 hb0) | ((with_reducible refine kn_box_func E.out rfl rfl rfl ?_); clear E; intro g u E0 hb0; have E := Lib.hid E0; clear E0 hb0))
          go_roundw
          case rel => exact ⟨i + 1, A2, c2, by omega, by go_num, hc2, by rw [show 3 * (3 * (i + 1)) = 3 * (3 * i + 3) from rfl]; exact E.out.part _ _ (by repeat (first | exact List.Sublist.refl _ | apply List.Sublist.cons_cons | apply List.Sublist.cons)) (by simp)⟩
          case measure => simp [intOf]; try omega
    · have hi3 : ¬ ((i : Int) < 3) := by omega
      obtain rfl : i = 3 := by omega
      clear HI HIP HJ HJP HR3 HLY HN0 HNn HNb HL0 HZg hzl
      have hlN := Lib.hid (HLl.out (3 * (3 * 3)))
      have hdf := Lib.hid (show st (LY (3 * (3 * 3))) true 30 1 ((1 : Int) % ((2 ^ 1 : Nat) : Int)).toNat = LA from HDf.out)
      clear HDf HLl
      generalize LY (3 * (3 * 3)) = l0 at *
      go_upto_region 22 with (first
        | ((with_reducible refine kn_gloads (g := 2) (vs := i64s [30, 1]) E.out rfl rfl ?hx ?h1 ?h2 ?_); (case hx => rfl); (case h1 => simp); (case h2 => rfl))
        | (go_at_call 34; (with_reducible refine (put2r g9 A1 c1 E.out 1 [30, 1] 30 1 l0 LA ?h0 ?h1 ?h2 ?h3 ?h4 ?h5).mono ?_); (case h0 => rfl); (case h1 => exact List.mem_cons_self); (case h2 => omega); (case h3 => omega); (case h4 => exact hlN.out); (case h5 => exact hdf.out); clear E; rintro e w1 ⟨rfl, A2, c2, hc2, E0⟩; have E := Lib.hid E0; clear E0)
        | (go_at_call 36; (with_reducible refine (reader2 A2 8 c2 _).mono ?_); rintro e w1 ⟨gr, he, hg1, hr1, hb⟩; unfold tkF at he; subst he; have E1 := Lib.hid (Kn.new_cells E.out hb hg1 (fun i v hv => hr1.cell i v hv)); clear E hb hg1 hr1; have E := E1; clear E1)
        | ((with_reducible refine kn_load E.out rfl rfl rfl rfl ?_)) | ((with_reducible refine kn_load_if E.out rfl rfl rfl rfl ?_)) | ((with_reducible refine kn_loads E.out rfl rfl rfl ?_ ?_); (focus (first | rfl | (simp only [i64s_length, u8s_length]; first | rfl | assumption | omega)))) | ((with_reducible refine kn_loads_if E.out rfl rfl rfl ?_ ?_); (focus (first | rfl | (simp only [i64s_length, u8s_length]; first | rfl | assumption | omega)))) | ((with_reducible refine kn_store1_int E.out rfl rfl rfl rfl rfl ?_); clear E; intro u E0; have E := Lib.hid E0; clear E0) | ((with_reducible refine kn_store1_slice E.out rfl rfl rfl rfl rfl ?_); clear E; intro u E0; have E := Lib.hid E0; clear E0) | ((with_reducible refine kn_store1_bool E.out rfl rfl rfl rfl rfl ?_); clear E; intro u E0; have E := Lib.hid E0; clear E0) | ((with_reducible refine kn_stores E.out rfl rfl rfl rfl rfl ?_ ?_ ?_); (focus (first | exact ⟨rfl, rfl⟩ | (simp only [i64s_length, u8s_length]; refine ⟨?_, ?_⟩ <;> first | rfl | assumption | omega))); (focus (first | exact i64s_one _ | exact u8s_one _ | simp [Value.oneCell'])); clear E; intro u E0; have E := Lib.hid E0; clear E0) | ((with_reducible refine kn_alloc E.out rfl rfl ?_); clear E; intro g u E0 hb0; have E := Lib.hid E0; clear E0 hb0) | ((with_reducible refine kn_box E.out rfl rfl rfl ?_); clear E; intro g u E0 hb0; have E := Lib.hid E0; clear E0 hb0) | ((with_reducible refine kn_box_int E.out rfl rfl rfl ?_); clear E; intro g u E0 hb0; have E := Lib.hid E0; clear E0 hb0) | ((with_reducible refine kn_box_slice E.out rfl rfl rfl ?_); clear E; intro g u E0 hb0; have E := Lib.hid E0; clear E0 hb0) | ((with_reducible refine kn_box_bool E.out rfl rfl rfl ?_); clear E; intro g u E0 hb0; have E := Lib.hid E0; clear E0 hb0) | ((with_reducible refine kn_box_func E.out rfl rfl rfl ?_); clear E; intro g u E0 hb0; have E := Lib.hid E0; clear E0 hb0))
      have hal := Lib.hid hAl.out
      refine wp_region_held_drew (S := Kn w [] [cellsF 3 (i64s [19, 2, 0, 0, 0, 0]), cellsF 4 (i64s [22, 2, 0, 0, 0, 0])]) (by kernel_rfl) (E.out.drew.part _ _ (by repeat (first | exact List.Sublist.refl _ | apply List.Sublist.cons_cons | apply List.Sublist.cons)) (by simp)) (fun kS => ?_)
      have E1 := Lib.hid E.out.drew
      generalize World.drew _ = u1 at kS E1 ⊢
      clear E
      have E := E1
      clear E1
      (refine takeL (i := 0) (v := _) rfl (by kernel_rfl) (by kernel_rfl) (by kernel_rfl) (fun _ _ _ h => h) (by first | exact Or.inl ⟨by rfl, (by intro u hSu; clear hSu; go_simp; try with_reducible rfl)⟩ | exact Or.inr ⟨by rfl, rfl⟩) kS ?_; (try simp only [Act.put, List.setIfInBounds_toArray, List.set_cons_zero, List.set_cons_succ]))
      (refine takeL (i := 1) (v := _) rfl (by kernel_rfl) (by kernel_rfl) (by kernel_rfl) (fun _ _ _ h => h) (yield_gloadp (off := 0) rfl rfl rfl (by simp) (show (([19, 2, 0, 0, 0, 0] : List Int).drop 0).take 6 = [19, 2, 0, 0, 0, 0] from rfl) (by simp)) kS ?_; (try simp only [Act.put, List.setIfInBounds_toArray, List.set_cons_zero, List.set_cons_succ]))
      (refine takeL (i := 3) (v := _) rfl (by kernel_rfl) (by kernel_rfl) (by kernel_rfl) (fun _ _ _ h => h) (by first | exact Or.inl ⟨by rfl, (by intro u hSu; clear hSu; go_simp; try with_reducible rfl)⟩ | exact Or.inr ⟨by rfl, rfl⟩) kS ?_; (try simp only [Act.put, List.setIfInBounds_toArray, List.set_cons_zero, List.set_cons_succ]))
      (refine takeL (i := 4) (v := _) rfl (by kernel_rfl) (by kernel_rfl) (by kernel_rfl) (fun _ _ _ h => h) (yield_gloadp (off := 0) rfl rfl rfl (by simp) (show (([22, 2, 0, 0, 0, 0] : List Int).drop 0).take 6 = [22, 2, 0, 0, 0, 0] from rfl) (by simp)) kS ?_; (try simp only [Act.put, List.setIfInBounds_toArray, List.set_cons_zero, List.set_cons_succ]))
      refine callL (i := 2) rfl (by kernel_rfl) (fun K hK => ?_)
      (go_simp; (with_reducible refine (HTa.out _ _ _ gr A2 c2 E.out ?h1 ?h2).mono ?_); (case h1 => simp); (case h2 => simp); rintro e' w1 ⟨rfl, E0⟩; clear E; have E := Lib.hid E0; clear E0; go_wp2_with fail; (refine hK.out _ _ (E.out.part _ _ (by repeat (first | exact List.Sublist.refl _ | apply List.Sublist.cons_cons | apply List.Sublist.cons)) (by simp)) (fun kS => ?_); clear hK K; (try simp only [Act.put, List.setIfInBounds_toArray, List.set_cons_zero, List.set_cons_succ])))
      refine callL (i := 5) rfl (by kernel_rfl) (fun K hK => ?_)
      (go_simp; (with_reducible refine (HTb.out _ _ _ gr A2 c2 E.out ?h1 ?h2).mono ?_); (case h1 => simp); (case h2 => simp); rintro e' w1 ⟨rfl, E0⟩; clear E; have E := Lib.hid E0; clear E0; go_wp2_with fail; (refine hK.out _ _ (E.out.part _ _ (by repeat (first | exact List.Sublist.refl _ | apply List.Sublist.cons_cons | apply List.Sublist.cons)) (by simp)) (fun kS => ?_); clear hK K; (try simp only [Act.put, List.setIfInBounds_toArray, List.set_cons_zero, List.set_cons_succ])))
      (refine takeL (i := 6) (v := _) rfl (by kernel_rfl) (by kernel_rfl) (by kernel_rfl) (fun _ _ _ h => h) (by first | exact Or.inl ⟨by rfl, (by intro u hSu; clear hSu; go_simp; try with_reducible rfl)⟩ | exact Or.inr ⟨by rfl, rfl⟩) kS ?_; (try simp only [Act.put, List.setIfInBounds_toArray, List.set_cons_zero, List.set_cons_succ]))
      rw [hw7.out]
      (refine takeL (i := 7) (v := _) rfl (by kernel_rfl) (by kernel_rfl) (by kernel_rfl) (fun _ _ _ h => h) (by first | exact Or.inl ⟨by rfl, (by intro u hSu; clear hSu; go_simp; try with_reducible rfl)⟩ | exact Or.inr ⟨by rfl, rfl⟩) kS ?_; (try simp only [Act.put, List.setIfInBounds_toArray, List.set_cons_zero, List.set_cons_succ]))
      refine wpAnyH_done (by kernel_rfl) ?_ _
      go_upto_if 74 with fail
      go_cut [] from 74 to 84 (fun wx => ∃ (A1 : Option Addr) (c1 : Nat), (8 ≤ c1 ∧ c1 ≤ 9223372036854775807) ∧ Hid (Kn w [.row g9 22 [.slice A1 8 c1]] [bsF A1 8 (KK 0), cellsF 1 (i64s PL), cellsF 2 (i64s [30, 1]), cellsF 3 (i64s [19, 2, 0, 0, 0, 0]), cellsF 4 (i64s [22, 2, 0, 0, 0, 0]), cellsF 5 (i64s [16, 3]), cellsF 6 (i64s [21, 1]), cellsF 7 (i64s [0, 1, 8, 1]), cellsF 8 (i64s KB), Glb] wx))
      case first =>
        clear HTa HTb HKl HKk HKs HKn kS
        by_cases h4 : 4 ≤ na + nb
        · have hd : decide (na + nb ≥ 4) = true := decide_eq_true h4
          have hab := Lib.hid (HAb.out (by rw [hbg.out]; exact decide_eq_true h4))
          clear HAb HBe hbg
          go_wp2_with fail
          refine wp_region_held_drew (S := Kn w [] [cellsF 5 (i64s [16, 3])]) (by kernel_rfl) (E.out.drew.part _ _ (by repeat (first | exact List.Sublist.refl _ | apply List.Sublist.cons_cons | apply List.Sublist.cons)) (by simp)) (fun kS => ?_)
          have E1 := Lib.hid E.out.drew
          generalize World.drew _ = u1 at kS E1 ⊢
          clear E
          have E := E1
          clear E1
          (refine takeL (i := 0) (v := _) rfl (by kernel_rfl) (by kernel_rfl) (by kernel_rfl) (fun _ _ _ h => h) (by first | exact Or.inl ⟨by rfl, (by intro u hSu; clear hSu; go_simp; try with_reducible rfl)⟩ | exact Or.inr ⟨by rfl, rfl⟩) kS ?_; (try simp only [Act.put, List.setIfInBounds_toArray, List.set_cons_zero, List.set_cons_succ]))
          (refine takeL (i := 1) (v := _) rfl (by kernel_rfl) (by kernel_rfl) (by kernel_rfl) (fun _ _ _ h => h) (yield_gloadp (off := 0) rfl rfl rfl (by simp) (show (([16, 3] : List Int).drop 0).take 2 = [16, 3] from rfl) (by simp)) kS ?_; (try simp only [Act.put, List.setIfInBounds_toArray, List.set_cons_zero, List.set_cons_succ]))
          (refine takeL (i := 2) (v := _) rfl (by kernel_rfl) (by kernel_rfl) (by kernel_rfl) (fun _ _ _ h => h) (by first | exact Or.inl ⟨by rfl, (by intro u hSu; clear hSu; go_simp; try with_reducible rfl)⟩ | exact Or.inr ⟨by rfl, rfl⟩) kS ?_; (try simp only [Act.put, List.setIfInBounds_toArray, List.set_cons_zero, List.set_cons_succ]))
          (refine takeL (i := 3) (v := .int .i64 3) rfl (by kernel_rfl) (by kernel_rfl) (by kernel_rfl) (fun _ _ _ h => h) (yield_gload (g := 5) (i := 1) (vs := i64s [16, 3]) rfl rfl rfl (by simp) rfl) kS ?_; (try simp only [Act.put, List.setIfInBounds_toArray, List.set_cons_zero, List.set_cons_succ]))
          (refine takeL (i := 4) (v := _) rfl (by kernel_rfl) (by kernel_rfl) (by kernel_rfl) (fun _ _ _ h => h) (by first | exact Or.inl ⟨by rfl, (by intro u hSu; clear hSu; go_simp; try with_reducible rfl)⟩ | exact Or.inr ⟨by rfl, rfl⟩) kS ?_; (try simp only [Act.put, List.setIfInBounds_toArray, List.set_cons_zero, List.set_cons_succ])); (refine takeL (i := 5) (v := _) rfl (by kernel_rfl) (by kernel_rfl) (by kernel_rfl) (fun _ _ _ h => h) (by first | exact Or.inl ⟨by rfl, (by intro u hSu; clear hSu; go_simp; try with_reducible rfl)⟩ | exact Or.inr ⟨by rfl, rfl⟩) kS ?_; (try simp only [Act.put, List.setIfInBounds_toArray, List.set_cons_zero, List.set_cons_succ]))
          refine callL (i := 6) rfl (by kernel_rfl) (fun K hK => ?_)
          (rw [if_pos (by rfl)]; go_simp; rw [show IntKind.i64.wrap (IntKind.i64.wrap 8 - 1) = 7 from rfl]; refine (put2r g9 A2 c2 E.out 7 [16, 3] 16 3 LA (KK 0) ?h0 ?h1 ?h2 ?h3 ?h4 ?h5).mono ?_; (case h0 => rfl); (case h1 => simp); (case h2 => omega); (case h3 => omega); (case h4 => exact hal.out); (case h5 => exact hab.out); clear E; rintro e w1 ⟨rfl, A3, c3, hc3, E0⟩; have E := Lib.hid E0; clear E0; go_wp2_with fail; (refine hK.out _ _ (E.out.part _ _ (by repeat (first | exact List.Sublist.refl _ | apply List.Sublist.cons_cons | apply List.Sublist.cons)) (by simp)) (fun kS => ?_); clear hK K; (try simp only [Act.put, List.setIfInBounds_toArray, List.set_cons_zero, List.set_cons_succ])))
          refine wpAnyH_done (by kernel_rfl) ?_ _
          go_wp2_with fail
          go_meet
          exact ⟨A3, c3, hc3, E.out.part _ _ (by repeat (first | exact List.Sublist.refl _ | apply List.Sublist.cons_cons | apply List.Sublist.cons)) (by simp)⟩
        · have hd : decide (na + nb ≥ 4) = false := decide_eq_false h4
          have hab := Lib.hid (HBe.out (by rw [hbg.out]; exact decide_eq_false h4))
          clear HAb HBe hbg
          go_wp2_with (first
            | ((with_reducible refine kn_gloads (g := 6) (vs := i64s [21, 1]) E.out rfl rfl ?hx ?h1 ?h2 ?_); (case hx => rfl); (case h1 => simp); (case h2 => rfl))
            | (go_at_call 34; (with_reducible refine (put2r g9 A2 c2 E.out 1 [21, 1] 21 1 LA (KK 0) ?h0 ?h1 ?h2 ?h3 ?h4 ?h5).mono ?_); (case h0 => rfl); (case h1 => simp); (case h2 => omega); (case h3 => omega); (case h4 => exact hal.out); (case h5 => exact hab.out); clear E; rintro e w1 ⟨rfl, A3, c3, hc3, E0⟩; have E := Lib.hid E0; clear E0)
            | ((with_reducible refine kn_load E.out rfl rfl rfl rfl ?_)) | ((with_reducible refine kn_load_if E.out rfl rfl rfl rfl ?_)) | ((with_reducible refine kn_loads E.out rfl rfl rfl ?_ ?_); (focus (first | rfl | (simp only [i64s_length, u8s_length]; first | rfl | assumption | omega)))) | ((with_reducible refine kn_loads_if E.out rfl rfl rfl ?_ ?_); (focus (first | rfl | (simp only [i64s_length, u8s_length]; first | rfl | assumption | omega)))) | ((with_reducible refine kn_store1_int E.out rfl rfl rfl rfl rfl ?_); clear E; intro u E0; have E := Lib.hid E0; clear E0) | ((with_reducible refine kn_store1_slice E.out rfl rfl rfl rfl rfl ?_); clear E; intro u E0; have E := Lib.hid E0; clear E0) | ((with_reducible refine kn_store1_bool E.out rfl rfl rfl rfl rfl ?_); clear E; intro u E0; have E := Lib.hid E0; clear E0) | ((with_reducible refine kn_stores E.out rfl rfl rfl rfl rfl ?_ ?_ ?_); (focus (first | exact ⟨rfl, rfl⟩ | (simp only [i64s_length, u8s_length]; refine ⟨?_, ?_⟩ <;> first | rfl | assumption | omega))); (focus (first | exact i64s_one _ | exact u8s_one _ | simp [Value.oneCell'])); clear E; intro u E0; have E := Lib.hid E0; clear E0) | ((with_reducible refine kn_alloc E.out rfl rfl ?_); clear E; intro g u E0 hb0; have E := Lib.hid E0; clear E0 hb0) | ((with_reducible refine kn_box E.out rfl rfl rfl ?_); clear E; intro g u E0 hb0; have E := Lib.hid E0; clear E0 hb0) | ((with_reducible refine kn_box_int E.out rfl rfl rfl ?_); clear E; intro g u E0 hb0; have E := Lib.hid E0; clear E0 hb0) | ((with_reducible refine kn_box_slice E.out rfl rfl rfl ?_); clear E; intro g u E0 hb0; have E := Lib.hid E0; clear E0 hb0) | ((with_reducible refine kn_box_bool E.out rfl rfl rfl ?_); clear E; intro g u E0 hb0; have E := Lib.hid E0; clear E0 hb0) | ((with_reducible refine kn_box_func E.out rfl rfl rfl ?_); clear E; intro g u E0 hb0; have E := Lib.hid E0; clear E0 hb0))
          go_meet
          exact ⟨A3, c3, hc3, E.out.part _ _ (by repeat (first | exact List.Sublist.refl _ | apply List.Sublist.cons_cons | apply List.Sublist.cons)) (by simp)⟩
      case rest =>
        clear E
        obtain ⟨A3, c3, hc3, E⟩ := hcut
        clear HTa HTb HAb HBe hbg
        go_wp2_with (first
          | ((with_reducible refine kn_gloads (g := 7) (vs := i64s [0, 1, 8, 1]) E.out rfl rfl ?hx ?h1 ?h2 ?_); (case hx => rfl); (case h1 => simp); (case h2 => rfl))
          | ((with_reducible refine kn_load E.out rfl rfl rfl rfl ?_)) | ((with_reducible refine kn_load_if E.out rfl rfl rfl rfl ?_)) | ((with_reducible refine kn_loads E.out rfl rfl rfl ?_ ?_); (focus (first | rfl | (simp only [i64s_length, u8s_length]; first | rfl | assumption | omega)))) | ((with_reducible refine kn_loads_if E.out rfl rfl rfl ?_ ?_); (focus (first | rfl | (simp only [i64s_length, u8s_length]; first | rfl | assumption | omega)))) | ((with_reducible refine kn_store1_int E.out rfl rfl rfl rfl rfl ?_); clear E; intro u E0; have E := Lib.hid E0; clear E0) | ((with_reducible refine kn_store1_slice E.out rfl rfl rfl rfl rfl ?_); clear E; intro u E0; have E := Lib.hid E0; clear E0) | ((with_reducible refine kn_store1_bool E.out rfl rfl rfl rfl rfl ?_); clear E; intro u E0; have E := Lib.hid E0; clear E0) | ((with_reducible refine kn_stores E.out rfl rfl rfl rfl rfl ?_ ?_ ?_); (focus (first | exact ⟨rfl, rfl⟩ | (simp only [i64s_length, u8s_length]; refine ⟨?_, ?_⟩ <;> first | rfl | assumption | omega))); (focus (first | exact i64s_one _ | exact u8s_one _ | simp [Value.oneCell'])); clear E; intro u E0; have E := Lib.hid E0; clear E0) | ((with_reducible refine kn_alloc E.out rfl rfl ?_); clear E; intro g u E0 hb0; have E := Lib.hid E0; clear E0 hb0) | ((with_reducible refine kn_box E.out rfl rfl rfl ?_); clear E; intro g u E0 hb0; have E := Lib.hid E0; clear E0 hb0) | ((with_reducible refine kn_box_int E.out rfl rfl rfl ?_); clear E; intro g u E0 hb0; have E := Lib.hid E0; clear E0 hb0) | ((with_reducible refine kn_box_slice E.out rfl rfl rfl ?_); clear E; intro g u E0 hb0; have E := Lib.hid E0; clear E0 hb0) | ((with_reducible refine kn_box_bool E.out rfl rfl rfl ?_); clear E; intro g u E0 hb0; have E := Lib.hid E0; clear E0 hb0) | ((with_reducible refine kn_box_func E.out rfl rfl rfl ?_); clear E; intro g u E0 hb0; have E := Lib.hid E0; clear E0 hb0))
        go_loopw [86] (fun ck wr => ∃ (c : Nat) (A1 : Option Addr) (c1 : Nat), c ≤ 2 ∧ ck = .int .i64 (c : Int) ∧ (8 ≤ c1 ∧ c1 ≤ 9223372036854775807) ∧ Hid (Kn w [.row g9 22 [.slice A1 8 c1]] [bsF A1 8 (KK c), cellsF 1 (i64s PL), cellsF 2 (i64s [30, 1]), cellsF 3 (i64s [19, 2, 0, 0, 0, 0]), cellsF 4 (i64s [22, 2, 0, 0, 0, 0]), cellsF 5 (i64s [16, 3]), cellsF 6 (i64s [21, 1]), cellsF 7 (i64s [0, 1, 8, 1]), cellsF 8 (i64s KB), Glb] wr)) (fun ck _ => 2 - (intOf ck).toNat)
        case atStart => exact ⟨0, A3, c3, by omega, rfl, hc3, E.out.part _ _ (by repeat (first | exact List.Sublist.refl _ | apply List.Sublist.cons_cons | apply List.Sublist.cons)) (by simp)⟩
        case round =>
          clear E
          obtain ⟨c, A4, c4, hc, rfl, hc4, E⟩ := hrel
          by_cases hltc : c < 2
          · have hc2' : (c : Int) < 2 := by omega
            have hkx : ∀ u, (Instr.index 84 (.agg (i64s [0, 1, 8, 1]).toArray) (.int .i64 (c : Int))).run Tryd.prog u = .ok (arr (([0, 1, 8, 1].drop (c * 2)).take 2)) u := fun u => run_index_agg (P := Tryd.prog) 84 75 2 2 Tryd.underlying84 Tryd.underlying75 rfl (by kernel_rfl) [0, 1, 8, 1] c hltc rfl u
            rw [show (([0, 1, 8, 1] : List Int).drop (c * 2)).take 2 = [((8 * c : Nat) : Int), 1] from by
              obtain rfl | rfl : c = 0 ∨ c = 1 := by omega
              all_goals rfl] at hkx
            have hkb := Lib.hid (HKB.out c hltc)
            have hkk := Lib.hid (HKk.out c hltc)
            have hks := Lib.hid (HKs.out c hltc)
            have hkn := Lib.hid (HKn.out c hltc)
            have hkl := Lib.hid (HKl.out c)
            obtain ⟨e8, he8⟩ : ∃ z, ((8 * c : Nat) : Int) = z := ⟨_, rfl⟩
            rw [he8] at hkx
            replace he8 := Lib.hid he8
            have hkd := Lib.hid (fun (A : Option Addr) (c4 : Nat) (u : World) (hu : Bs u u.heap.size A 8 (KK c)) (hG : Glb u) => show Calls Tryd.prog 10 #[.slice A 8 c4, .bool false] u (fun e w' => e = .returned (.int .i64 ((kdN false (KK c) : Nat) : Int)) ∧ Below u.heap.size u w') from by
              have h := kind2_any A 8 c4 false (KK c) u hu hG (by omega)
              rwa [show kdV 8 false (KK c) = ((kdN false (KK c) : Nat) : Int) from rfl] at h)
            generalize kdN false (KK c) = kd at *
            have hc44 : (c : Int) < 4 := by omega
            clear HKB HKl HKk HKs HKn
            by_cases hlw : low L (8 * c) = true
            · have hq1 : kd = c + 1 := of_decide_eq_true (hkk.out.trans hlw)
              have hq : ((kd : Int) == (c : Int) + 1) = true := by simp [hq1]
              have hks := Lib.hid (hks.out hlw)
              clear hkn hkk hlw hq1
              go_wp2_with (first
                | ((with_reducible refine kn_stores (g := g19) (vs := i64s [e8, 1]) E.out rfl rfl rfl rfl rfl ?hl ?h1 ?_); (case hl => exact ⟨rfl, rfl⟩); (case h1 => exact i64s_one _); clear E; intro u E0; have E := Lib.hid E0; clear E0)
                | ((with_reducible refine kn_load E.out rfl rfl rfl rfl ?_)) | ((with_reducible refine kn_load_if E.out rfl rfl rfl rfl ?_)) | ((with_reducible refine kn_loads E.out rfl rfl rfl ?_ ?_); (focus (first | rfl | (simp only [i64s_length, u8s_length]; first | rfl | assumption | omega)))) | ((with_reducible refine kn_loads_if E.out rfl rfl rfl ?_ ?_); (focus (first | rfl | (simp only [i64s_length, u8s_length]; first | rfl | assumption | omega)))) | ((with_reducible refine kn_store1_int E.out rfl rfl rfl rfl rfl ?_); clear E; intro u E0; have E := Lib.hid E0; clear E0) | ((with_reducible refine kn_store1_slice E.out rfl rfl rfl rfl rfl ?_); clear E; intro u E0; have E := Lib.hid E0; clear E0) | ((with_reducible refine kn_store1_bool E.out rfl rfl rfl rfl rfl ?_); clear E; intro u E0; have E := Lib.hid E0; clear E0) | ((with_reducible refine kn_stores E.out rfl rfl rfl rfl rfl ?_ ?_ ?_); (focus (first | exact ⟨rfl, rfl⟩ | (simp only [i64s_length, u8s_length]; refine ⟨?_, ?_⟩ <;> first | rfl | assumption | omega))); (focus (first | exact i64s_one _ | exact u8s_one _ | simp [Value.oneCell'])); clear E; intro u E0; have E := Lib.hid E0; clear E0) | ((with_reducible refine kn_alloc (o := ⟨some 19, _, _, _, _, _⟩) E.out rfl rfl ?_); clear E; intro g19 u E0 hb0; have E := Lib.hid E0; clear E0 hb0) | ((with_reducible refine kn_box (o := ⟨some 19, _, _, _, _, _⟩) E.out rfl rfl rfl ?_); clear E; intro g19 u E0 hb0; have E := Lib.hid E0; clear E0 hb0) | ((with_reducible refine kn_box_int (o := ⟨some 19, _, _, _, _, _⟩) E.out rfl rfl rfl ?_); clear E; intro g19 u E0 hb0; have E := Lib.hid E0; clear E0 hb0) | ((with_reducible refine kn_box_slice (o := ⟨some 19, _, _, _, _, _⟩) E.out rfl rfl rfl ?_); clear E; intro g19 u E0 hb0; have E := Lib.hid E0; clear E0 hb0) | ((with_reducible refine kn_box_bool (o := ⟨some 19, _, _, _, _, _⟩) E.out rfl rfl rfl ?_); clear E; intro g19 u E0 hb0; have E := Lib.hid E0; clear E0 hb0) | ((with_reducible refine kn_box_func (o := ⟨some 19, _, _, _, _, _⟩) E.out rfl rfl rfl ?_); clear E; intro g19 u E0 hb0; have E := Lib.hid E0; clear E0 hb0) | ((with_reducible refine kn_alloc E.out rfl rfl ?_); clear E; intro g u E0 hb0; have E := Lib.hid E0; clear E0 hb0) | ((with_reducible refine kn_box E.out rfl rfl rfl ?_); clear E; intro g u E0 hb0; have E := Lib.hid E0; clear E0 hb0) | ((with_reducible refine kn_box_int E.out rfl rfl rfl ?_); clear E; intro g u E0 hb0; have E := Lib.hid E0; clear E0 hb0) | ((with_reducible refine kn_box_slice E.out rfl rfl rfl ?_); clear E; intro g u E0 hb0; have E := Lib.hid E0; clear E0 hb0) | ((with_reducible refine kn_box_bool E.out rfl rfl rfl ?_); clear E; intro g u E0 hb0; have E := Lib.hid E0; clear E0 hb0) | ((with_reducible refine kn_box_func E.out rfl rfl rfl ?_); clear E; intro g u E0 hb0; have E := Lib.hid E0; clear E0 hb0))
              refine wp_region_held_drew (S := Kn w [.row g9 22 [.slice A4 8 c4]] [cellsF 8 (i64s KB)]) (by kernel_rfl) (E.out.drew.part _ _ (by repeat (first | exact List.Sublist.refl _ | apply List.Sublist.cons_cons | apply List.Sublist.cons)) (by simp)) (fun kS => ?_)
              have E1 := Lib.hid E.out.drew
              generalize World.drew _ = u1 at kS E1 ⊢
              clear E
              have E := E1
              clear E1
              (refine takeL (i := 0) (v := _) rfl (by kernel_rfl) (by kernel_rfl) (by kernel_rfl) (fun _ _ _ h => h) (by first | exact yield_load rfl rfl rfl rfl | exact yield_loads rfl rfl rfl rfl | exact yield_loads rfl rfl rfl (by simp only [i64s_length, u8s_length]; first | assumption | omega) | exact yield_loadi rfl rfl rfl (by first | assumption | omega) | exact yield_loadp rfl rfl rfl (by first | assumption | omega)) kS ?_; (try simp only [Act.put, List.setIfInBounds_toArray, List.set_cons_zero, List.set_cons_succ]))
              (refine takeL (i := 2) (v := _) rfl (by kernel_rfl) (by kernel_rfl) (by kernel_rfl) (fun _ _ _ h => h) (by first | exact Or.inl ⟨by rfl, (by intro u hSu; clear hSu; go_simp; try with_reducible rfl)⟩ | exact Or.inr ⟨by rfl, rfl⟩) kS ?_; (try simp only [Act.put, List.setIfInBounds_toArray, List.set_cons_zero, List.set_cons_succ])); (refine takeL (i := 3) (v := _) rfl (by kernel_rfl) (by kernel_rfl) (by kernel_rfl) (fun _ _ _ h => h) (by first | exact Or.inl ⟨by rfl, (by intro u hSu; clear hSu; go_simp; try with_reducible rfl)⟩ | exact Or.inr ⟨by rfl, rfl⟩) kS ?_; (try simp only [Act.put, List.setIfInBounds_toArray, List.set_cons_zero, List.set_cons_succ]))
              (refine takeL (i := 4) (v := .int .i64 ((c : Int) + 1)) rfl (by kernel_rfl) (by kernel_rfl) (by kernel_rfl) (fun _ _ _ h => h) (yield_gload (g := 8) (i := c) (vs := i64s KB) rfl rfl rfl (by simp) hkb.out) kS ?_; (try simp only [Act.put, List.setIfInBounds_toArray, List.set_cons_zero, List.set_cons_succ]))
              refine callL (i := 1) rfl (by kernel_rfl) (fun K hK => ?_)
              (rw [if_pos (by rfl)]; go_simp; (with_reducible refine (hkd.out _ _ _ ?h1 ?h2).mono ?_); (case h1 => exact E.out.bs (by simp)); (case h2 => exact E.out.get (by simp)); rintro e' w1 ⟨rfl, hb⟩; have E1 := Lib.hid (E.out.later hb); clear hb E; have E := E1; clear E1; go_wp2_with fail; (refine hK.out _ _ (E.out.part _ _ (by repeat (first | exact List.Sublist.refl _ | apply List.Sublist.cons_cons | apply List.Sublist.cons)) (by simp)) (fun kS => ?_); clear hK K; (try simp only [Act.put, List.setIfInBounds_toArray, List.set_cons_zero, List.set_cons_succ])))
              (refine takeL (i := 5) (v := _) rfl (by kernel_rfl) (by kernel_rfl) (by kernel_rfl) (fun _ _ _ h => h) (by first | exact Or.inl ⟨by rfl, (by intro u hSu; clear hSu; go_simp; try with_reducible rfl)⟩ | exact Or.inr ⟨by rfl, rfl⟩) kS ?_; (try simp only [Act.put, List.setIfInBounds_toArray, List.set_cons_zero, List.set_cons_succ]))
              refine wpAnyH_done (by kernel_rfl) ?_ _
              clear hkd
              go_wp2_with (first
                | ((with_reducible refine kn_loads (g := g19) E.out rfl rfl rfl ?hl ?_); (case hl => rfl))
                | (go_at_call 34; (with_reducible refine (put2r g9 A4 c4 (kn_front (r := .row g9 22 [.slice A4 8 c4]) E.out) 1 [e8, 1] (8 * c) 1 (KK c) (KK (c + 1)) ?h0 ?h1 ?h2 ?h3 ?h4 ?h5).mono ?_); (case h0 => rw [he8.out]; rfl); (case h1 => simp); (case h2 => omega); (case h3 => omega); (case h4 => exact hkl.out); (case h5 => exact hks.out); clear E; rintro e w1 ⟨rfl, A5, c5, hc5, E0⟩; have E := Lib.hid E0; clear E0)
                | ((with_reducible refine kn_load E.out rfl rfl rfl rfl ?_)) | ((with_reducible refine kn_load_if E.out rfl rfl rfl rfl ?_)) | ((with_reducible refine kn_loads E.out rfl rfl rfl ?_ ?_); (focus (first | rfl | (simp only [i64s_length, u8s_length]; first | rfl | assumption | omega)))) | ((with_reducible refine kn_loads_if E.out rfl rfl rfl ?_ ?_); (focus (first | rfl | (simp only [i64s_length, u8s_length]; first | rfl | assumption | omega)))) | ((with_reducible refine kn_store1_int E.out rfl rfl rfl rfl rfl ?_); clear E; intro u E0; have E := Lib.hid E0; clear E0) | ((with_reducible refine kn_store1_slice E.out rfl rfl rfl rfl rfl ?_); clear E; intro u E0; have E := Lib.hid E0; clear E0) | ((with_reducible refine kn_store1_bool E.out rfl rfl rfl rfl rfl ?_); clear E; intro u E0; have E := Lib.hid E0; clear E0) | ((with_reducible refine kn_stores E.out rfl rfl rfl rfl rfl ?_ ?_ ?_); (focus (first | exact ⟨rfl, rfl⟩ | (simp only [i64s_length, u8s_length]; refine ⟨?_, ?_⟩ <;> first | rfl | assumption | omega))); (focus (first | exact i64s_one _ | exact u8s_one _ | simp [Value.oneCell'])); clear E; intro u E0; have E := Lib.hid E0; clear E0) | ((with_reducible refine kn_alloc E.out rfl rfl ?_); clear E; intro g u E0 hb0; have E := Lib.hid E0; clear E0 hb0) | ((with_reducible refine kn_box E.out rfl rfl rfl ?_); clear E; intro g u E0 hb0; have E := Lib.hid E0; clear E0 hb0) | ((with_reducible refine kn_box_int E.out rfl rfl rfl ?_); clear E; intro g u E0 hb0; have E := Lib.hid E0; clear E0 hb0) | ((with_reducible refine kn_box_slice E.out rfl rfl rfl ?_); clear E; intro g u E0 hb0; have E := Lib.hid E0; clear E0 hb0) | ((with_reducible refine kn_box_bool E.out rfl rfl rfl ?_); clear E; intro g u E0 hb0; have E := Lib.hid E0; clear E0 hb0) | ((with_reducible refine kn_box_func E.out rfl rfl rfl ?_); clear E; intro g u E0 hb0; have E := Lib.hid E0; clear E0 hb0))
              go_roundw
              case rel => exact ⟨c + 1, A5, c5, by omega, by go_num, hc5, E.out.part _ _ (by repeat (first | exact List.Sublist.refl _ | apply List.Sublist.cons_cons | apply List.Sublist.cons)) (by simp)⟩
              case measure => simp [intOf]; try omega
            · have hlf : low L (8 * c) = false := by simpa using hlw
              have hq1 : ¬ kd = c + 1 := fun h => by have e := hkk.out; rw [hlf, decide_eq_true h] at e; exact absurd e (by decide)
              have hq : ((kd : Int) == (c : Int) + 1) = false := by simp; omega
              have hkn := Lib.hid (hkn.out hlf)
              clear hks hkk hlw hlf hq1
              go_wp2_with (first
                | ((with_reducible refine kn_stores (g := g19) (vs := i64s [e8, 1]) E.out rfl rfl rfl rfl rfl ?hl ?h1 ?_); (case hl => exact ⟨rfl, rfl⟩); (case h1 => exact i64s_one _); clear E; intro u E0; have E := Lib.hid E0; clear E0)
                | ((with_reducible refine kn_load E.out rfl rfl rfl rfl ?_)) | ((with_reducible refine kn_load_if E.out rfl rfl rfl rfl ?_)) | ((with_reducible refine kn_loads E.out rfl rfl rfl ?_ ?_); (focus (first | rfl | (simp only [i64s_length, u8s_length]; first | rfl | assumption | omega)))) | ((with_reducible refine kn_loads_if E.out rfl rfl rfl ?_ ?_); (focus (first | rfl | (simp only [i64s_length, u8s_length]; first | rfl | assumption | omega)))) | ((with_reducible refine kn_store1_int E.out rfl rfl rfl rfl rfl ?_); clear E; intro u E0; have E := Lib.hid E0; clear E0) | ((with_reducible refine kn_store1_slice E.out rfl rfl rfl rfl rfl ?_); clear E; intro u E0; have E := Lib.hid E0; clear E0) | ((with_reducible refine kn_store1_bool E.out rfl rfl rfl rfl rfl ?_); clear E; intro u E0; have E := Lib.hid E0; clear E0) | ((with_reducible refine kn_stores E.out rfl rfl rfl rfl rfl ?_ ?_ ?_); (focus (first | exact ⟨rfl, rfl⟩ | (simp only [i64s_length, u8s_length]; refine ⟨?_, ?_⟩ <;> first | rfl | assumption | omega))); (focus (first | exact i64s_one _ | exact u8s_one _ | simp [Value.oneCell'])); clear E; intro u E0; have E := Lib.hid E0; clear E0) | ((with_reducible refine kn_alloc (o := ⟨some 19, _, _, _, _, _⟩) E.out rfl rfl ?_); clear E; intro g19 u E0 hb0; have E := Lib.hid E0; clear E0 hb0) | ((with_reducible refine kn_box (o := ⟨some 19, _, _, _, _, _⟩) E.out rfl rfl rfl ?_); clear E; intro g19 u E0 hb0; have E := Lib.hid E0; clear E0 hb0) | ((with_reducible refine kn_box_int (o := ⟨some 19, _, _, _, _, _⟩) E.out rfl rfl rfl ?_); clear E; intro g19 u E0 hb0; have E := Lib.hid E0; clear E0 hb0) | ((with_reducible refine kn_box_slice (o := ⟨some 19, _, _, _, _, _⟩) E.out rfl rfl rfl ?_); clear E; intro g19 u E0 hb0; have E := Lib.hid E0; clear E0 hb0) | ((with_reducible refine kn_box_bool (o := ⟨some 19, _, _, _, _, _⟩) E.out rfl rfl rfl ?_); clear E; intro g19 u E0 hb0; have E := Lib.hid E0; clear E0 hb0) | ((with_reducible refine kn_box_func (o := ⟨some 19, _, _, _, _, _⟩) E.out rfl rfl rfl ?_); clear E; intro g19 u E0 hb0; have E := Lib.hid E0; clear E0 hb0) | ((with_reducible refine kn_alloc E.out rfl rfl ?_); clear E; intro g u E0 hb0; have E := Lib.hid E0; clear E0 hb0) | ((with_reducible refine kn_box E.out rfl rfl rfl ?_); clear E; intro g u E0 hb0; have E := Lib.hid E0; clear E0 hb0) | ((with_reducible refine kn_box_int E.out rfl rfl rfl ?_); clear E; intro g u E0 hb0; have E := Lib.hid E0; clear E0 hb0) | ((with_reducible refine kn_box_slice E.out rfl rfl rfl ?_); clear E; intro g u E0 hb0; have E := Lib.hid E0; clear E0 hb0) | ((with_reducible refine kn_box_bool E.out rfl rfl rfl ?_); clear E; intro g u E0 hb0; have E := Lib.hid E0; clear E0 hb0) | ((with_reducible refine kn_box_func E.out rfl rfl rfl ?_); clear E; intro g u E0 hb0; have E := Lib.hid E0; clear E0 hb0))
              refine wp_region_held_drew (S := Kn w [.row g9 22 [.slice A4 8 c4]] [cellsF 8 (i64s KB)]) (by kernel_rfl) (E.out.drew.part _ _ (by repeat (first | exact List.Sublist.refl _ | apply List.Sublist.cons_cons | apply List.Sublist.cons)) (by simp)) (fun kS => ?_)
              have E1 := Lib.hid E.out.drew
              generalize World.drew _ = u1 at kS E1 ⊢
              clear E
              have E := E1
              clear E1
              (refine takeL (i := 0) (v := _) rfl (by kernel_rfl) (by kernel_rfl) (by kernel_rfl) (fun _ _ _ h => h) (by first | exact yield_load rfl rfl rfl rfl | exact yield_loads rfl rfl rfl rfl | exact yield_loads rfl rfl rfl (by simp only [i64s_length, u8s_length]; first | assumption | omega) | exact yield_loadi rfl rfl rfl (by first | assumption | omega) | exact yield_loadp rfl rfl rfl (by first | assumption | omega)) kS ?_; (try simp only [Act.put, List.setIfInBounds_toArray, List.set_cons_zero, List.set_cons_succ]))
              (refine takeL (i := 2) (v := _) rfl (by kernel_rfl) (by kernel_rfl) (by kernel_rfl) (fun _ _ _ h => h) (by first | exact Or.inl ⟨by rfl, (by intro u hSu; clear hSu; go_simp; try with_reducible rfl)⟩ | exact Or.inr ⟨by rfl, rfl⟩) kS ?_; (try simp only [Act.put, List.setIfInBounds_toArray, List.set_cons_zero, List.set_cons_succ])); (refine takeL (i := 3) (v := _) rfl (by kernel_rfl) (by kernel_rfl) (by kernel_rfl) (fun _ _ _ h => h) (by first | exact Or.inl ⟨by rfl, (by intro u hSu; clear hSu; go_simp; try with_reducible rfl)⟩ | exact Or.inr ⟨by rfl, rfl⟩) kS ?_; (try simp only [Act.put, List.setIfInBounds_toArray, List.set_cons_zero, List.set_cons_succ]))
              (refine takeL (i := 4) (v := .int .i64 ((c : Int) + 1)) rfl (by kernel_rfl) (by kernel_rfl) (by kernel_rfl) (fun _ _ _ h => h) (yield_gload (g := 8) (i := c) (vs := i64s KB) rfl rfl rfl (by simp) hkb.out) kS ?_; (try simp only [Act.put, List.setIfInBounds_toArray, List.set_cons_zero, List.set_cons_succ]))
              refine callL (i := 1) rfl (by kernel_rfl) (fun K hK => ?_)
              (rw [if_pos (by rfl)]; go_simp; (with_reducible refine (hkd.out _ _ _ ?h1 ?h2).mono ?_); (case h1 => exact E.out.bs (by simp)); (case h2 => exact E.out.get (by simp)); rintro e' w1 ⟨rfl, hb⟩; have E1 := Lib.hid (E.out.later hb); clear hb E; have E := E1; clear E1; go_wp2_with fail; (refine hK.out _ _ (E.out.part _ _ (by repeat (first | exact List.Sublist.refl _ | apply List.Sublist.cons_cons | apply List.Sublist.cons)) (by simp)) (fun kS => ?_); clear hK K; (try simp only [Act.put, List.setIfInBounds_toArray, List.set_cons_zero, List.set_cons_succ])))
              (refine takeL (i := 5) (v := _) rfl (by kernel_rfl) (by kernel_rfl) (by kernel_rfl) (fun _ _ _ h => h) (by first | exact Or.inl ⟨by rfl, (by intro u hSu; clear hSu; go_simp; try with_reducible rfl)⟩ | exact Or.inr ⟨by rfl, rfl⟩) kS ?_; (try simp only [Act.put, List.setIfInBounds_toArray, List.set_cons_zero, List.set_cons_succ]))
              refine wpAnyH_done (by kernel_rfl) ?_ _
              clear hkd
              go_wp2_with (first | ((with_reducible refine kn_load E.out rfl rfl rfl rfl ?_)) | ((with_reducible refine kn_load_if E.out rfl rfl rfl rfl ?_)) | ((with_reducible refine kn_loads E.out rfl rfl rfl ?_ ?_); (focus (first | rfl | (simp only [i64s_length, u8s_length]; first | rfl | assumption | omega)))) | ((with_reducible refine kn_loads_if E.out rfl rfl rfl ?_ ?_); (focus (first | rfl | (simp only [i64s_length, u8s_length]; first | rfl | assumption | omega)))) | ((with_reducible refine kn_store1_int E.out rfl rfl rfl rfl rfl ?_); clear E; intro u E0; have E := Lib.hid E0; clear E0) | ((with_reducible refine kn_store1_slice E.out rfl rfl rfl rfl rfl ?_); clear E; intro u E0; have E := Lib.hid E0; clear E0) | ((with_reducible refine kn_store1_bool E.out rfl rfl rfl rfl rfl ?_); clear E; intro u E0; have E := Lib.hid E0; clear E0) | ((with_reducible refine kn_stores E.out rfl rfl rfl rfl rfl ?_ ?_ ?_); (focus (first | exact ⟨rfl, rfl⟩ | (simp only [i64s_length, u8s_length]; refine ⟨?_, ?_⟩ <;> first | rfl | assumption | omega))); (focus (first | exact i64s_one _ | exact u8s_one _ | simp [Value.oneCell'])); clear E; intro u E0; have E := Lib.hid E0; clear E0) | ((with_reducible refine kn_alloc E.out rfl rfl ?_); clear E; intro g u E0 hb0; have E := Lib.hid E0; clear E0 hb0) | ((with_reducible refine kn_box E.out rfl rfl rfl ?_); clear E; intro g u E0 hb0; have E := Lib.hid E0; clear E0 hb0) | ((with_reducible refine kn_box_int E.out rfl rfl rfl ?_); clear E; intro g u E0 hb0; have E := Lib.hid E0; clear E0 hb0) | ((with_reducible refine kn_box_slice E.out rfl rfl rfl ?_); clear E; intro g u E0 hb0; have E := Lib.hid E0; clear E0 hb0) | ((with_reducible refine kn_box_bool E.out rfl rfl rfl ?_); clear E; intro g u E0 hb0; have E := Lib.hid E0; clear E0 hb0) | ((with_reducible refine kn_box_func E.out rfl rfl rfl ?_); clear E; intro g u E0 hb0; have E := Lib.hid E0; clear E0 hb0))
              go_roundw
              case rel => exact ⟨c + 1, A4, c4, by omega, by go_num, hc4, by rw [← hkn.out]; exact E.out.part _ _ (by repeat (first | exact List.Sublist.refl _ | apply List.Sublist.cons_cons | apply List.Sublist.cons)) (by simp)⟩
              case measure => simp [intOf]; try omega
          · have hc2' : ¬ ((c : Int) < 2) := by omega
            obtain rfl : c = 2 := by omega
            have hkl := Lib.hid (HKl.out 2)
            clear HKB HKl HKk HKs HKn
            go_wp2_with (first | ((with_reducible refine kn_load E.out rfl rfl rfl rfl ?_)) | ((with_reducible refine kn_load_if E.out rfl rfl rfl rfl ?_)) | ((with_reducible refine kn_loads E.out rfl rfl rfl ?_ ?_); (focus (first | rfl | (simp only [i64s_length, u8s_length]; first | rfl | assumption | omega)))) | ((with_reducible refine kn_loads_if E.out rfl rfl rfl ?_ ?_); (focus (first | rfl | (simp only [i64s_length, u8s_length]; first | rfl | assumption | omega)))) | ((with_reducible refine kn_store1_int E.out rfl rfl rfl rfl rfl ?_); clear E; intro u E0; have E := Lib.hid E0; clear E0) | ((with_reducible refine kn_store1_slice E.out rfl rfl rfl rfl rfl ?_); clear E; intro u E0; have E := Lib.hid E0; clear E0) | ((with_reducible refine kn_store1_bool E.out rfl rfl rfl rfl rfl ?_); clear E; intro u E0; have E := Lib.hid E0; clear E0) | ((with_reducible refine kn_stores E.out rfl rfl rfl rfl rfl ?_ ?_ ?_); (focus (first | exact ⟨rfl, rfl⟩ | (simp only [i64s_length, u8s_length]; refine ⟨?_, ?_⟩ <;> first | rfl | assumption | omega))); (focus (first | exact i64s_one _ | exact u8s_one _ | simp [Value.oneCell'])); clear E; intro u E0; have E := Lib.hid E0; clear E0) | ((with_reducible refine kn_alloc E.out rfl rfl ?_); clear E; intro g u E0 hb0; have E := Lib.hid E0; clear E0 hb0) | ((with_reducible refine kn_box E.out rfl rfl rfl ?_); clear E; intro g u E0 hb0; have E := Lib.hid E0; clear E0 hb0) | ((with_reducible refine kn_box_int E.out rfl rfl rfl ?_); clear E; intro g u E0 hb0; have E := Lib.hid E0; clear E0 hb0) | ((with_reducible refine kn_box_slice E.out rfl rfl rfl ?_); clear E; intro g u E0 hb0; have E := Lib.hid E0; clear E0 hb0) | ((with_reducible refine kn_box_bool E.out rfl rfl rfl ?_); clear E; intro g u E0 hb0; have E := Lib.hid E0; clear E0 hb0) | ((with_reducible refine kn_box_func E.out rfl rfl rfl ?_); clear E; intro g u E0 hb0; have E := Lib.hid E0; clear E0 hb0))
            go_ret2
            exact ⟨A4, 8, c4, rfl, E.out.bs (by simp), by omega, hc4.2, E.out.bel⟩
end Go.Proofs.YtgcijioiicmjiaaDoor
