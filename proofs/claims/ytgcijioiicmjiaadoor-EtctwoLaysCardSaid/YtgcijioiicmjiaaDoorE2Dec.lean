/- ETC2 blocks, the program's: a block's kind, and its texels. -/
import Derived.Test.YtgcijioiicmjiaaDoorE2Read
set_option linter.all false
namespace Go.Proofs.YtgcijioiicmjiaaDoor
open Go.RowKit
open Bi Lv Eo Et

/-- What the program's variables hold. -/
structure Glb (w : World) : Prop where
  nums : Nums w
  cT : cellsF 9 (i64s tcL) w
  cH : cellsF 12 (i64s hcL) w
  cP : cellsF 1 (i64s plL) w
  dT : cellsF 10 (i64s (rV dtA dtM)) w
  dH : cellsF 11 (i64s (rV dhA dhM)) w
  dis : cellsF 0 (i64s disL) w
  kb : cellsF 8 (i64s kbL) w
  df : cellsF 2 (i64s [30, 1]) w
  kp : cellsF 7 (i64s [0, 1, 8, 1]) w
  ba : cellsF 5 (i64s [16, 3]) w
  bb : cellsF 6 (i64s [21, 1]) w
  bf : cellsF 3 (i64s [19, 2, 0, 0, 0, 0]) w
  bs : cellsF 4 (i64s [22, 2, 0, 0, 0, 0]) w
theorem Kn.arg_glb {w u : World} {R : List Res} {F : List (World → Prop)} (E : Kn w R F u) (h : Glb w) : Kn w R (Glb :: F) u :=
  E.fact fun u' hk => ⟨(E.arg_nums h.nums).facts _ List.mem_cons_self u' hk, (E.arg_cells h.cT).facts _ List.mem_cons_self u' hk, (E.arg_cells h.cH).facts _ List.mem_cons_self u' hk, (E.arg_cells h.cP).facts _ List.mem_cons_self u' hk, (E.arg_cells h.dT).facts _ List.mem_cons_self u' hk, (E.arg_cells h.dH).facts _ List.mem_cons_self u' hk, (E.arg_cells h.dis).facts _ List.mem_cons_self u' hk, (E.arg_cells h.kb).facts _ List.mem_cons_self u' hk, (E.arg_cells h.df).facts _ List.mem_cons_self u' hk, (E.arg_cells h.kp).facts _ List.mem_cons_self u' hk, (E.arg_cells h.ba).facts _ List.mem_cons_self u' hk, (E.arg_cells h.bb).facts _ List.mem_cons_self u' hk, (E.arg_cells h.bf).facts _ List.mem_cons_self u' hk, (E.arg_cells h.bs).facts _ List.mem_cons_self u' hk⟩

theorem Kn.new_cells {w u u' : World} {R : List Res} {F : List (World → Prop)} (E : Kn w R F u) (hb : Below u.heap.size u u') {g : Nat} {vs : List Value} (hg : u.heap.size ≤ g) (h : cellsF g vs u') : Kn w R (cellsF g vs :: F) u' :=
  (E.later hb).fact fun u'' hk i v hv => by
    have hc := h i v hv
    have hlt := lt_of_cell hc
    have hnot : g ∉ blocks R := fun hm => by
      obtain ⟨r, hr, e'⟩ := mem_blocks.1 hm
      have := (Res.range (E.res r hr) e').2
      omega
    rw [World.cell?_of_block (w := u') (hk.block g hlt hnot)]
    exact hc
namespace Et
def whW (ys : List Nat) : List Int := ((pZ ys).drop 8).take 16
theorem whW_length (ys : List Nat) : (whW ys).length = 16 := by unfold whW; rw [List.length_take, List.length_drop, pZ_length]; rfl
theorem whW_getD (ys : List Nat) (i : Nat) (h : i < 16) : (whW ys).getD i 0 = (pZ ys).getD (8 + i) 0 := by
  unfold whW
  rw [List.getD_eq_getElem?_getD, List.getElem?_take, if_pos h, List.getElem?_drop, ← List.getD_eq_getElem?_getD]
theorem whW_bd (ys : List Nat) : ∀ i, i < 16 → 0 ≤ (whW ys).getD i 0 ∧ (whW ys).getD i 0 < 4 := fun i h => by
  rw [whW_getD ys i h]
  exact ok_w (ok_parts ys) h
/-- What a kind's function tells. -/
def ptT (k : Nat) (o : Bool) (ys : List Nat) : List Int := if k = 1 then choV (whW ys) (frT ys) else if k = 2 then choV (whW ys) (frH ys) else if k = 3 then plV (oV ys) (hV ys) (vV ys) else hvV o (pD ys) (pF ys) (pZ ys) (whW ys)
theorem ptT_length (k : Nat) (o : Bool) (ys : List Nat) : (ptT k o ys).length = 64 := by
  unfold ptT
  split
  · unfold choV; rw [fl_length]; exact z64_length
  · split
    · unfold choV; rw [fl_length]; exact z64_length
    · split
      · exact plV_length _ _ _
      · unfold hvV
        split
        · exact paV_length _ _ _
        · exact hvP_length _ _ _ _ _
/-- The program's answer. -/
def deR (p : Bool) (xs : List Nat) : List Int := clrV (opk p xs) (whW (pxs p xs)) (ptT (kdN p xs) (opk p xs) (pxs p xs))
theorem deR_length (p : Bool) (xs : List Nat) : (deR p xs).length = 64 := by
  unfold deR clrV
  split
  · exact ptT_length _ _ _
  · rw [clrP_length, ptT_length]
end Et
set_option maxHeartbeats 2000000 in
set_option maxRecDepth 100000 in
theorem kind_ok (A : Option Addr) (c : Nat) (p : Bool) (xs : List Nat) (w : World) (h : Bs w w.heap.size A 8 xs) (hG : Glb w) :
    Calls Tryd.prog 10 #[.slice A 8 c, .bool p] w fun e w' => e = .returned (.int .i64 ((kdN p xs : Nat) : Int)) ∧ Below w.heap.size w w' := by
  have E := Lib.hid (((Kn.start w).arg_glb hG).arg_bs h)
  have hR := Lib.hid (fun u hu hG => read2 A c p xs u hu (Glb.kb hG) (Glb.df hG))
  have hBl := Lib.hid (fun gb => bkL_length (pD (pxs p xs)) (pF (pxs p xs)) (pZ (pxs p xs)) ((kdN p xs : Nat) : Int) (opk p xs) (some gb) (pZ_length _))
  have hB1 := Lib.hid (fun gb => bkL_one (pD (pxs p xs)) (pF (pxs p xs)) (pZ (pxs p xs)) ((kdN p xs : Nat) : Int) (opk p xs) (some gb))
  have hBk := Lib.hid (fun gb => (bkL_at (pD (pxs p xs)) (pF (pxs p xs)) (pZ (pxs p xs)) ((kdN p xs : Nat) : Int) (opk p xs) (some gb) (pZ_length _) 0).trans (show _ = some (Value.int .i64 ((kdN p xs : Nat) : Int)) from rfl))
  clear h hG
  generalize ((kdN p xs : Nat) : Int) = kv at *
  obtain ⟨B, hB⟩ : ∃ z : Nat → List Value, (fun gb => bkL (pD (pxs p xs)) (pF (pxs p xs)) (pZ (pxs p xs)) kv (opk p xs) (some gb)) = z := ⟨_, rfl⟩
  have hBe : ∀ gb, bkL (pD (pxs p xs)) (pF (pxs p xs)) (pZ (pxs p xs)) kv (opk p xs) (some gb) = B gb := fun gb => congrFun hB gb
  simp only [hBe] at hR hBl hB1 hBk
  clear hB hBe
  go_enter Tryd.func10, Tryd.ntmps10
  go_wp2_with (first
    | (go_at_call 23; (with_reducible refine (hR.out _ ?h1 ?h2).mono ?_); (case h1 => exact E.out.bs (by simp)); (case h2 => exact E.out.get (by simp)); clear hR; rintro e w1 ⟨gb, A1, c1, rfl, hb, hcg, hbs, hge⟩; clear hcg hbs hge; have E1 := Lib.hid (E.out.later hb); clear hb E; have E := E1; clear E1)
    | ((with_reducible refine kn_stores (g := g5) (vs := B gb) E.out rfl rfl rfl rfl rfl ?hl ?h1 ?_); (case hl => exact ⟨by rfl, hBl.out gb⟩); (case h1 => exact hB1.out gb); clear E; intro u E0; have E := Lib.hid E0; clear E0)
    | ((with_reducible refine kn_load (g := g5) (i := 26) E.out rfl rfl rfl (hBk.out gb) ?_))
    | ((with_reducible refine kn_load E.out rfl rfl rfl rfl ?_)) | ((with_reducible refine kn_load_if E.out rfl rfl rfl rfl ?_)) | ((with_reducible refine kn_loads E.out rfl rfl rfl ?_ ?_); (focus (first | rfl | (simp only [i64s_length, u8s_length]; first | rfl | assumption | omega)))) | ((with_reducible refine kn_loads_if E.out rfl rfl rfl ?_ ?_); (focus (first | rfl | (simp only [i64s_length, u8s_length]; first | rfl | assumption | omega)))) | ((with_reducible refine kn_stores E.out rfl rfl rfl rfl rfl ?_ ?_ ?_); (focus (first | exact ⟨rfl, rfl⟩ | (simp only [i64s_length, u8s_length]; refine ⟨?_, ?_⟩ <;> first | rfl | assumption | omega))); (focus (first | exact i64s_one _ | exact u8s_one _ | simp [Value.oneCell'])); clear E; intro u E0; have E := Lib.hid E0; clear E0) | ((with_reducible refine kn_alloc (o := ⟨some 5, _, _, _, _, _⟩) E.out rfl rfl ?_); clear E; intro g5 u E0 hb0; have E := Lib.hid E0; clear E0 hb0) | ((with_reducible refine kn_box (o := ⟨some 5, _, _, _, _, _⟩) E.out rfl rfl rfl ?_); clear E; intro g5 u E0 hb0; have E := Lib.hid E0; clear E0 hb0) | ((with_reducible refine kn_box_int (o := ⟨some 5, _, _, _, _, _⟩) E.out rfl rfl rfl ?_); clear E; intro g5 u E0 hb0; have E := Lib.hid E0; clear E0 hb0) | ((with_reducible refine kn_box_slice (o := ⟨some 5, _, _, _, _, _⟩) E.out rfl rfl rfl ?_); clear E; intro g5 u E0 hb0; have E := Lib.hid E0; clear E0 hb0) | ((with_reducible refine kn_box_bool (o := ⟨some 5, _, _, _, _, _⟩) E.out rfl rfl rfl ?_); clear E; intro g5 u E0 hb0; have E := Lib.hid E0; clear E0 hb0) | ((with_reducible refine kn_box_func (o := ⟨some 5, _, _, _, _, _⟩) E.out rfl rfl rfl ?_); clear E; intro g5 u E0 hb0; have E := Lib.hid E0; clear E0 hb0))
  go_ret
  exact ⟨rfl, E.out.bel⟩
set_option maxHeartbeats 2000000 in
set_option maxRecDepth 100000 in
theorem kind_no (A : Option Addr) (n c : Nat) (p : Bool) (w : World) (hn : n ≠ 8) (hm : n ≤ 9223372036854775807) :
    Calls Tryd.prog 10 #[.slice A n c, .bool p] w fun e w' => e = .returned (.int .i64 0) ∧ Below w.heap.size w w' := by
  have E := Lib.hid (Kn.start w)
  have hR := Lib.hid (fun u => read_no A n c p u hn hm)
  have hBl := Lib.hid (bkL_length false false z24 0 false none rfl)
  have hB1 := Lib.hid (bkL_one false false z24 0 false none)
  clear hn
  obtain ⟨B, hB⟩ : ∃ z : List Value, bkL false false z24 0 false none = z := ⟨_, rfl⟩
  rw [hB] at hR hBl hB1
  clear hB
  go_enter Tryd.func10, Tryd.ntmps10
  go_wp2_with (first
    | (go_at_call 23; (with_reducible refine (hR.out _).mono ?_); clear hR; rintro e w1 ⟨rfl, hb⟩; have E1 := Lib.hid (E.out.later hb); clear hb E; have E := E1; clear E1)
    | ((with_reducible refine kn_stores (g := g5) (vs := B) E.out rfl rfl rfl rfl rfl ?hl ?h1 ?_); (case hl => exact ⟨by rfl, hBl.out⟩); (case h1 => exact hB1.out); clear E; intro u E0; have E := Lib.hid E0; clear E0)
    | ((with_reducible refine kn_load E.out rfl rfl rfl rfl ?_)) | ((with_reducible refine kn_load_if E.out rfl rfl rfl rfl ?_)) | ((with_reducible refine kn_loads E.out rfl rfl rfl ?_ ?_); (focus (first | rfl | (simp only [i64s_length, u8s_length]; first | rfl | assumption | omega)))) | ((with_reducible refine kn_loads_if E.out rfl rfl rfl ?_ ?_); (focus (first | rfl | (simp only [i64s_length, u8s_length]; first | rfl | assumption | omega)))) | ((with_reducible refine kn_stores E.out rfl rfl rfl rfl rfl ?_ ?_ ?_); (focus (first | exact ⟨rfl, rfl⟩ | (simp only [i64s_length, u8s_length]; refine ⟨?_, ?_⟩ <;> first | rfl | assumption | omega))); (focus (first | exact i64s_one _ | exact u8s_one _ | simp [Value.oneCell'])); clear E; intro u E0; have E := Lib.hid E0; clear E0) | ((with_reducible refine kn_alloc (o := ⟨some 5, _, _, _, _, _⟩) E.out rfl rfl ?_); clear E; intro g5 u E0 hb0; have E := Lib.hid E0; clear E0 hb0) | ((with_reducible refine kn_box (o := ⟨some 5, _, _, _, _, _⟩) E.out rfl rfl rfl ?_); clear E; intro g5 u E0 hb0; have E := Lib.hid E0; clear E0 hb0) | ((with_reducible refine kn_box_int (o := ⟨some 5, _, _, _, _, _⟩) E.out rfl rfl rfl ?_); clear E; intro g5 u E0 hb0; have E := Lib.hid E0; clear E0 hb0) | ((with_reducible refine kn_box_slice (o := ⟨some 5, _, _, _, _, _⟩) E.out rfl rfl rfl ?_); clear E; intro g5 u E0 hb0; have E := Lib.hid E0; clear E0 hb0) | ((with_reducible refine kn_box_bool (o := ⟨some 5, _, _, _, _, _⟩) E.out rfl rfl rfl ?_); clear E; intro g5 u E0 hb0; have E := Lib.hid E0; clear E0 hb0) | ((with_reducible refine kn_box_func (o := ⟨some 5, _, _, _, _, _⟩) E.out rfl rfl rfl ?_); clear E; intro g5 u E0 hb0; have E := Lib.hid E0; clear E0 hb0))
  go_ret
  exact ⟨rfl, E.out.bel⟩
set_option maxHeartbeats 8000000 in
set_option maxRecDepth 100000 in
theorem decode_ok2 (A : Option Addr) (c : Nat) (p : Bool) (xs : List Nat) (w : World) (h : Bs w w.heap.size A 8 xs) (hG : Glb w) :
    Calls Tryd.prog 8 #[.slice A 8 c, .bool p] w fun e w' => e = .returned (.tuple #[arr (deR p xs), .int .i64 0]) ∧ Below w.heap.size w w' := by
  have E := Lib.hid (((Kn.start w).arg_glb hG).arg_bs h)
  have hR := Lib.hid (fun u hu hG => read2 A c p xs u hu (Glb.kb hG) (Glb.df hG))
  have hl := Lib.hid (deR_length p xs)
  have hpl := Lib.hid (ptT_length (kdN p xs) (opk p xs) (pxs p xs))
  have hz64 := Lib.hid (show (i64s z64).length = 64 from rfl)
  have hk3 := kdN_le p xs
  have hde : deR p xs = clrV (opk p xs) (whW (pxs p xs)) (ptT (kdN p xs) (opk p xs) (pxs p xs)) := rfl
  rw [hde] at hl ⊢
  clear hde h hG
  generalize hys : pxs p xs = ys at *
  generalize opk p xs = o at *
  obtain ⟨k, hke⟩ : ∃ z, kdN p xs = z := ⟨_, rfl⟩
  rw [hke] at hR hl hpl hk3 ⊢
  clear hke hys
  have hZ := pZ_length ys
  have hBl := Lib.hid (fun gb => bkL_length (pD ys) (pF ys) (pZ ys) (k : Int) o (some gb) hZ)
  have hB1 := Lib.hid (fun gb => bkL_one (pD ys) (pF ys) (pZ ys) (k : Int) o (some gb))
  have hBk := Lib.hid (fun gb => (bkL_at (pD ys) (pF ys) (pZ ys) (k : Int) o (some gb) hZ 0).trans (show _ = some (Value.int .i64 (k : Int)) from rfl))
  have hBo := Lib.hid (fun gb => (bkL_at (pD ys) (pF ys) (pZ ys) (k : Int) o (some gb) hZ 1).trans (show _ = some (Value.bool o) from rfl))
  have hBt := Lib.hid (fun gb => (bkL_at (pD ys) (pF ys) (pZ ys) (k : Int) o (some gb) hZ 2).trans (show _ = some (tkF gb) from rfl))
  have hBf := Lib.hid (fun gb => bkL_f (pD ys) (pF ys) (pZ ys) (k : Int) o (some gb))
  have hBp := Lib.hid (fun gb => bkL_p (pD ys) (pF ys) (pZ ys) (k : Int) o (some gb) hZ)
  have hBw := Lib.hid (fun gb => show ((bkL (pD ys) (pF ys) (pZ ys) (k : Int) o (some gb)).drop 10).take 16 = i64s (whW ys) from bkL_w (pD ys) (pF ys) (pZ ys) (k : Int) o (some gb) hZ)
  have hok := ok_parts ys
  obtain ⟨B, hB⟩ : ∃ z : Nat → List Value, (fun gb => bkL (pD ys) (pF ys) (pZ ys) (k : Int) o (some gb)) = z := ⟨_, rfl⟩
  have hBe : ∀ gb, bkL (pD ys) (pF ys) (pZ ys) (k : Int) o (some gb) = B gb := fun gb => congrFun hB gb
  simp only [hBe] at hR hBl hB1 hBk hBo hBt hBf hBp hBw
  clear hB hBe
  have hPa := Lib.hid (fun gb u => painter2 (B gb) (hBl.out gb) k hk3 (hBk.out gb) u)
  have hCl := Lib.hid (fun gb u => cleared2 (B gb) (hBl.out gb) (hB1.out gb) o (hBo.out gb) (whW ys) (ptT k o ys) (whW_length ys) (hBw.out gb) hpl.out u)
  unfold paF at hPa
  obtain rfl | rfl | rfl | rfl : k = 0 ∨ k = 1 ∨ k = 2 ∨ k = 3 := by omega
  · have hPt := Lib.hid (fun gb u (hG : Glb u) => show Calls Tryd.prog 58 #[.agg (B gb).toArray] u (fun e w' => e = .returned (arr (ptT 0 o ys)) ∧ Below u.heap.size u w') from halves2 (B gb) (hBl.out gb) (hB1.out gb) o (pD ys) (pF ys) (pZ ys) (whW ys) hZ hok (hBp.out gb) (hBf.out gb) (hBo.out gb) (whW_length ys) (hBw.out gb) u (Glb.nums hG))
    have hPt := Lib.hid (fun gb A c u (hG : Glb u) (_ : cellsF gb [.slice A 8 c] u) (_ : Bs u u.heap.size A 8 ys) => hPt.out gb u hG)
    simp only [eq_self, if_true, if_false, show ¬ ((0 : Nat) = 1) from by omega, show ¬ ((0 : Nat) = 2) from by omega, show ¬ ((0 : Nat) = 3) from by omega, show ¬ ((2 : Nat) = 1) from by omega, show ¬ ((3 : Nat) = 1) from by omega, show ¬ ((3 : Nat) = 2) from by omega] at hPa
    clear hBk hBo hBt hBf hBp hBw hok hk3 hZ
    generalize ptT _ o ys = PT at *
    generalize clrV o (whW ys) PT = CV at *
    clear hpl
    go_enter Tryd.func8, Tryd.ntmps8
    go_wp2_with (first
      | (go_at_call 23; (with_reducible refine (hR.out _ ?h1 ?h2).mono ?_); (case h1 => exact E.out.bs (by simp)); (case h2 => exact E.out.get (by simp)); clear hR; rintro e w1 ⟨gb, A1, c1, rfl, hb, hcg, hbs, hge⟩; have E1 := Lib.hid ((Kn.new_cells E.out hb hge hcg).new_bsi hbs); clear E hb hcg hbs hge; have E := E1; clear E1)
      | (go_at_call 24; (with_reducible refine (hPa.out _ _).mono ?_); clear hPa; rintro e w1 ⟨rfl, hb⟩; have E1 := Lib.hid (E.out.later hb); clear hb E; have E := E1; clear E1)
      | ((with_reducible refine kn_stores (g := g6) (vs := B gb) E.out rfl rfl rfl rfl rfl ?hl ?h1 ?_); (case hl => exact ⟨by rfl, hBl.out gb⟩); (case h1 => exact hB1.out gb); clear E; intro u E0; have E := Lib.hid E0; clear E0)
      | ((with_reducible refine kn_loads (g := g6) E.out rfl rfl rfl ?hl ?_); (case hl => exact hBl.out gb))
      | ((with_reducible refine kn_load E.out rfl rfl rfl rfl ?_)) | ((with_reducible refine kn_load_if E.out rfl rfl rfl rfl ?_)) | ((with_reducible refine kn_loads E.out rfl rfl rfl ?_ ?_); (focus (first | rfl | (simp only [i64s_length, u8s_length]; first | rfl | assumption | omega)))) | ((with_reducible refine kn_loads_if E.out rfl rfl rfl ?_ ?_); (focus (first | rfl | (simp only [i64s_length, u8s_length]; first | rfl | assumption | omega)))) | ((with_reducible refine kn_stores E.out rfl rfl rfl rfl rfl ?_ ?_ ?_); (focus (first | exact ⟨rfl, rfl⟩ | (simp only [i64s_length, u8s_length]; refine ⟨?_, ?_⟩ <;> first | rfl | assumption | omega))); (focus (first | exact i64s_one _ | exact u8s_one _ | simp [Value.oneCell'])); clear E; intro u E0; have E := Lib.hid E0; clear E0) | ((with_reducible refine kn_alloc (o := ⟨some 4, _, _, _, _, _⟩) E.out rfl rfl ?_); clear E; intro g4 u E0 hb0; have E := Lib.hid E0; clear E0 hb0) | ((with_reducible refine kn_box (o := ⟨some 4, _, _, _, _, _⟩) E.out rfl rfl rfl ?_); clear E; intro g4 u E0 hb0; have E := Lib.hid E0; clear E0 hb0) | ((with_reducible refine kn_box_int (o := ⟨some 4, _, _, _, _, _⟩) E.out rfl rfl rfl ?_); clear E; intro g4 u E0 hb0; have E := Lib.hid E0; clear E0 hb0) | ((with_reducible refine kn_box_slice (o := ⟨some 4, _, _, _, _, _⟩) E.out rfl rfl rfl ?_); clear E; intro g4 u E0 hb0; have E := Lib.hid E0; clear E0 hb0) | ((with_reducible refine kn_box_bool (o := ⟨some 4, _, _, _, _, _⟩) E.out rfl rfl rfl ?_); clear E; intro g4 u E0 hb0; have E := Lib.hid E0; clear E0 hb0) | ((with_reducible refine kn_box_func (o := ⟨some 4, _, _, _, _, _⟩) E.out rfl rfl rfl ?_); clear E; intro g4 u E0 hb0; have E := Lib.hid E0; clear E0 hb0) | ((with_reducible refine kn_alloc (o := ⟨some 6, _, _, _, _, _⟩) E.out rfl rfl ?_); clear E; intro g6 u E0 hb0; have E := Lib.hid E0; clear E0 hb0) | ((with_reducible refine kn_box (o := ⟨some 6, _, _, _, _, _⟩) E.out rfl rfl rfl ?_); clear E; intro g6 u E0 hb0; have E := Lib.hid E0; clear E0 hb0) | ((with_reducible refine kn_box_int (o := ⟨some 6, _, _, _, _, _⟩) E.out rfl rfl rfl ?_); clear E; intro g6 u E0 hb0; have E := Lib.hid E0; clear E0 hb0) | ((with_reducible refine kn_box_slice (o := ⟨some 6, _, _, _, _, _⟩) E.out rfl rfl rfl ?_); clear E; intro g6 u E0 hb0; have E := Lib.hid E0; clear E0 hb0) | ((with_reducible refine kn_box_bool (o := ⟨some 6, _, _, _, _, _⟩) E.out rfl rfl rfl ?_); clear E; intro g6 u E0 hb0; have E := Lib.hid E0; clear E0 hb0) | ((with_reducible refine kn_box_func (o := ⟨some 6, _, _, _, _, _⟩) E.out rfl rfl rfl ?_); clear E; intro g6 u E0 hb0; have E := Lib.hid E0; clear E0 hb0))
    refine wp_region_held_drew (S := Kn w [.row g6 57 (B gb)] []) (by kernel_rfl) (E.out.drew.part _ _ (by repeat (first | exact List.Sublist.refl _ | apply List.Sublist.cons_cons | apply List.Sublist.cons)) (by simp)) (fun kS => ?_)
    have E1 := Lib.hid E.out.drew
    generalize World.drew _ = u1 at kS E1 ⊢
    clear E
    have E := E1
    clear E1
    (refine takeL (i := 0) (v := .agg (B gb).toArray) rfl (by kernel_rfl) (by kernel_rfl) (by kernel_rfl) (fun _ _ _ h => h) (yield_loads (g := g6) rfl rfl rfl (hBl.out gb)) kS ?_; (try simp only [Act.put, List.setIfInBounds_toArray, List.set_cons_zero, List.set_cons_succ]))
    (refine takeL (i := 1) (v := _) rfl (by kernel_rfl) (by kernel_rfl) (by kernel_rfl) (fun _ _ _ h => h) (by first | exact Or.inl ⟨by rfl, (by intro u hSu; clear hSu; go_simp; try with_reducible rfl)⟩ | exact Or.inr ⟨by rfl, rfl⟩) kS ?_; (try simp only [Act.put, List.setIfInBounds_toArray, List.set_cons_zero, List.set_cons_succ]))
    refine callL (i := 2) rfl (by kernel_rfl) (fun K hK => ?_)
    (go_simp; (with_reducible refine (hPt.out gb A1 c1 _ ?h1 ?h2 ?h3).mono ?_); (case h1 => exact E.out.get (by simp)); (case h2 => exact E.out.get (by simp)); (case h3 => exact E.out.bs (by simp)); rintro e' w1 ⟨rfl, hb⟩; have E1 := Lib.hid (E.out.later hb); clear hb E; have E := E1; clear E1; go_wp2_with fail; (refine hK.out _ _ (E.out.part _ _ (by repeat (first | exact List.Sublist.refl _ | apply List.Sublist.cons_cons | apply List.Sublist.cons)) (by simp)) (fun kS => ?_); clear hK K; (try simp only [Act.put, List.setIfInBounds_toArray, List.set_cons_zero, List.set_cons_succ])))
    refine callL (i := 3) rfl (by kernel_rfl) (fun K hK => ?_)
    (go_simp; (with_reducible refine (hCl.out _ _).mono ?_); rintro e' w1 ⟨rfl, hb⟩; have E1 := Lib.hid (E.out.later hb); clear hb E; have E := E1; clear E1; go_wp2_with fail; (refine hK.out _ _ (E.out.part _ _ (by repeat (first | exact List.Sublist.refl _ | apply List.Sublist.cons_cons | apply List.Sublist.cons)) (by simp)) (fun kS => ?_); clear hK K; (try simp only [Act.put, List.setIfInBounds_toArray, List.set_cons_zero, List.set_cons_succ])))
    refine callL (i := 4) rfl (by kernel_rfl) (fun K hK => ?_)
    (rw [if_pos (by rfl)]; refine wp_kn_stores (g := g4) (vs := i64s CV) E.out rfl rfl rfl rfl ⟨hz64.out, by rw [i64s_length]; exact hl.out⟩ (i64s_one _) ?_; clear E kS; intro u E0; have E := Lib.hid E0; clear E0; (refine hK.out _ _ (E.out.part _ _ (by repeat (first | exact List.Sublist.refl _ | apply List.Sublist.cons_cons | apply List.Sublist.cons)) (by simp)) (fun kS => ?_); clear hK K; (try simp only [Act.put, List.setIfInBounds_toArray, List.set_cons_zero, List.set_cons_succ])))
    (refine takeL (i := 5) (v := _) rfl (by kernel_rfl) (by kernel_rfl) (by kernel_rfl) (fun _ _ _ h => h) (by first | exact Or.inl ⟨by rfl, (by intro u hSu; clear hSu; go_simp; try with_reducible rfl)⟩ | exact Or.inr ⟨by rfl, rfl⟩) kS ?_; (try simp only [Act.put, List.setIfInBounds_toArray, List.set_cons_zero, List.set_cons_succ]))
    refine wpAnyH_done (by kernel_rfl) ?_ _
    go_wp2_with fail
    refine bodyPost_ret (results_kn2 E.out rfl _ rfl (by rw [i64s_length]; exact hl.out)) rfl ?_
    exact ⟨rfl, E.out.bel⟩
  · have hPt := Lib.hid (fun gb A c u (hG : Glb u) (hg : cellsF gb [.slice A 8 c] u) (hx : Bs u u.heap.size A 8 ys) => show Calls Tryd.prog 55 #[.agg (B gb).toArray] u (fun e w' => e = .returned (arr (ptT 1 o ys)) ∧ Below u.heap.size u w') from t2 (B gb) (hBl.out gb) gb (hBt.out gb) (hB1.out gb) (whW ys) (whW_length ys) (hBw.out gb) (whW_bd ys) A c ys u hg hx (Glb.cT hG) (Glb.dT hG) (Glb.dis hG))
    simp only [eq_self, if_true, if_false, show ¬ ((0 : Nat) = 1) from by omega, show ¬ ((0 : Nat) = 2) from by omega, show ¬ ((0 : Nat) = 3) from by omega, show ¬ ((2 : Nat) = 1) from by omega, show ¬ ((3 : Nat) = 1) from by omega, show ¬ ((3 : Nat) = 2) from by omega] at hPa
    clear hBk hBo hBt hBf hBp hBw hok hk3 hZ
    generalize ptT _ o ys = PT at *
    generalize clrV o (whW ys) PT = CV at *
    clear hpl
    go_enter Tryd.func8, Tryd.ntmps8
    go_wp2_with (first
      | (go_at_call 23; (with_reducible refine (hR.out _ ?h1 ?h2).mono ?_); (case h1 => exact E.out.bs (by simp)); (case h2 => exact E.out.get (by simp)); clear hR; rintro e w1 ⟨gb, A1, c1, rfl, hb, hcg, hbs, hge⟩; have E1 := Lib.hid ((Kn.new_cells E.out hb hge hcg).new_bsi hbs); clear E hb hcg hbs hge; have E := E1; clear E1)
      | (go_at_call 24; (with_reducible refine (hPa.out _ _).mono ?_); clear hPa; rintro e w1 ⟨rfl, hb⟩; have E1 := Lib.hid (E.out.later hb); clear hb E; have E := E1; clear E1)
      | ((with_reducible refine kn_stores (g := g6) (vs := B gb) E.out rfl rfl rfl rfl rfl ?hl ?h1 ?_); (case hl => exact ⟨by rfl, hBl.out gb⟩); (case h1 => exact hB1.out gb); clear E; intro u E0; have E := Lib.hid E0; clear E0)
      | ((with_reducible refine kn_loads (g := g6) E.out rfl rfl rfl ?hl ?_); (case hl => exact hBl.out gb))
      | ((with_reducible refine kn_load E.out rfl rfl rfl rfl ?_)) | ((with_reducible refine kn_load_if E.out rfl rfl rfl rfl ?_)) | ((with_reducible refine kn_loads E.out rfl rfl rfl ?_ ?_); (focus (first | rfl | (simp only [i64s_length, u8s_length]; first | rfl | assumption | omega)))) | ((with_reducible refine kn_loads_if E.out rfl rfl rfl ?_ ?_); (focus (first | rfl | (simp only [i64s_length, u8s_length]; first | rfl | assumption | omega)))) | ((with_reducible refine kn_stores E.out rfl rfl rfl rfl rfl ?_ ?_ ?_); (focus (first | exact ⟨rfl, rfl⟩ | (simp only [i64s_length, u8s_length]; refine ⟨?_, ?_⟩ <;> first | rfl | assumption | omega))); (focus (first | exact i64s_one _ | exact u8s_one _ | simp [Value.oneCell'])); clear E; intro u E0; have E := Lib.hid E0; clear E0) | ((with_reducible refine kn_alloc (o := ⟨some 4, _, _, _, _, _⟩) E.out rfl rfl ?_); clear E; intro g4 u E0 hb0; have E := Lib.hid E0; clear E0 hb0) | ((with_reducible refine kn_box (o := ⟨some 4, _, _, _, _, _⟩) E.out rfl rfl rfl ?_); clear E; intro g4 u E0 hb0; have E := Lib.hid E0; clear E0 hb0) | ((with_reducible refine kn_box_int (o := ⟨some 4, _, _, _, _, _⟩) E.out rfl rfl rfl ?_); clear E; intro g4 u E0 hb0; have E := Lib.hid E0; clear E0 hb0) | ((with_reducible refine kn_box_slice (o := ⟨some 4, _, _, _, _, _⟩) E.out rfl rfl rfl ?_); clear E; intro g4 u E0 hb0; have E := Lib.hid E0; clear E0 hb0) | ((with_reducible refine kn_box_bool (o := ⟨some 4, _, _, _, _, _⟩) E.out rfl rfl rfl ?_); clear E; intro g4 u E0 hb0; have E := Lib.hid E0; clear E0 hb0) | ((with_reducible refine kn_box_func (o := ⟨some 4, _, _, _, _, _⟩) E.out rfl rfl rfl ?_); clear E; intro g4 u E0 hb0; have E := Lib.hid E0; clear E0 hb0) | ((with_reducible refine kn_alloc (o := ⟨some 6, _, _, _, _, _⟩) E.out rfl rfl ?_); clear E; intro g6 u E0 hb0; have E := Lib.hid E0; clear E0 hb0) | ((with_reducible refine kn_box (o := ⟨some 6, _, _, _, _, _⟩) E.out rfl rfl rfl ?_); clear E; intro g6 u E0 hb0; have E := Lib.hid E0; clear E0 hb0) | ((with_reducible refine kn_box_int (o := ⟨some 6, _, _, _, _, _⟩) E.out rfl rfl rfl ?_); clear E; intro g6 u E0 hb0; have E := Lib.hid E0; clear E0 hb0) | ((with_reducible refine kn_box_slice (o := ⟨some 6, _, _, _, _, _⟩) E.out rfl rfl rfl ?_); clear E; intro g6 u E0 hb0; have E := Lib.hid E0; clear E0 hb0) | ((with_reducible refine kn_box_bool (o := ⟨some 6, _, _, _, _, _⟩) E.out rfl rfl rfl ?_); clear E; intro g6 u E0 hb0; have E := Lib.hid E0; clear E0 hb0) | ((with_reducible refine kn_box_func (o := ⟨some 6, _, _, _, _, _⟩) E.out rfl rfl rfl ?_); clear E; intro g6 u E0 hb0; have E := Lib.hid E0; clear E0 hb0))
    refine wp_region_held_drew (S := Kn w [.row g6 57 (B gb)] []) (by kernel_rfl) (E.out.drew.part _ _ (by repeat (first | exact List.Sublist.refl _ | apply List.Sublist.cons_cons | apply List.Sublist.cons)) (by simp)) (fun kS => ?_)
    have E1 := Lib.hid E.out.drew
    generalize World.drew _ = u1 at kS E1 ⊢
    clear E
    have E := E1
    clear E1
    (refine takeL (i := 0) (v := .agg (B gb).toArray) rfl (by kernel_rfl) (by kernel_rfl) (by kernel_rfl) (fun _ _ _ h => h) (yield_loads (g := g6) rfl rfl rfl (hBl.out gb)) kS ?_; (try simp only [Act.put, List.setIfInBounds_toArray, List.set_cons_zero, List.set_cons_succ]))
    (refine takeL (i := 1) (v := _) rfl (by kernel_rfl) (by kernel_rfl) (by kernel_rfl) (fun _ _ _ h => h) (by first | exact Or.inl ⟨by rfl, (by intro u hSu; clear hSu; go_simp; try with_reducible rfl)⟩ | exact Or.inr ⟨by rfl, rfl⟩) kS ?_; (try simp only [Act.put, List.setIfInBounds_toArray, List.set_cons_zero, List.set_cons_succ]))
    refine callL (i := 2) rfl (by kernel_rfl) (fun K hK => ?_)
    (go_simp; (with_reducible refine (hPt.out gb A1 c1 _ ?h1 ?h2 ?h3).mono ?_); (case h1 => exact E.out.get (by simp)); (case h2 => exact E.out.get (by simp)); (case h3 => exact E.out.bs (by simp)); rintro e' w1 ⟨rfl, hb⟩; have E1 := Lib.hid (E.out.later hb); clear hb E; have E := E1; clear E1; go_wp2_with fail; (refine hK.out _ _ (E.out.part _ _ (by repeat (first | exact List.Sublist.refl _ | apply List.Sublist.cons_cons | apply List.Sublist.cons)) (by simp)) (fun kS => ?_); clear hK K; (try simp only [Act.put, List.setIfInBounds_toArray, List.set_cons_zero, List.set_cons_succ])))
    refine callL (i := 3) rfl (by kernel_rfl) (fun K hK => ?_)
    (go_simp; (with_reducible refine (hCl.out _ _).mono ?_); rintro e' w1 ⟨rfl, hb⟩; have E1 := Lib.hid (E.out.later hb); clear hb E; have E := E1; clear E1; go_wp2_with fail; (refine hK.out _ _ (E.out.part _ _ (by repeat (first | exact List.Sublist.refl _ | apply List.Sublist.cons_cons | apply List.Sublist.cons)) (by simp)) (fun kS => ?_); clear hK K; (try simp only [Act.put, List.setIfInBounds_toArray, List.set_cons_zero, List.set_cons_succ])))
    refine callL (i := 4) rfl (by kernel_rfl) (fun K hK => ?_)
    (rw [if_pos (by rfl)]; refine wp_kn_stores (g := g4) (vs := i64s CV) E.out rfl rfl rfl rfl ⟨hz64.out, by rw [i64s_length]; exact hl.out⟩ (i64s_one _) ?_; clear E kS; intro u E0; have E := Lib.hid E0; clear E0; (refine hK.out _ _ (E.out.part _ _ (by repeat (first | exact List.Sublist.refl _ | apply List.Sublist.cons_cons | apply List.Sublist.cons)) (by simp)) (fun kS => ?_); clear hK K; (try simp only [Act.put, List.setIfInBounds_toArray, List.set_cons_zero, List.set_cons_succ])))
    (refine takeL (i := 5) (v := _) rfl (by kernel_rfl) (by kernel_rfl) (by kernel_rfl) (fun _ _ _ h => h) (by first | exact Or.inl ⟨by rfl, (by intro u hSu; clear hSu; go_simp; try with_reducible rfl)⟩ | exact Or.inr ⟨by rfl, rfl⟩) kS ?_; (try simp only [Act.put, List.setIfInBounds_toArray, List.set_cons_zero, List.set_cons_succ]))
    refine wpAnyH_done (by kernel_rfl) ?_ _
    go_wp2_with fail
    refine bodyPost_ret (results_kn2 E.out rfl _ rfl (by rw [i64s_length]; exact hl.out)) rfl ?_
    exact ⟨rfl, E.out.bel⟩
  · have hPt := Lib.hid (fun gb A c u (hG : Glb u) (hg : cellsF gb [.slice A 8 c] u) (hx : Bs u u.heap.size A 8 ys) => show Calls Tryd.prog 56 #[.agg (B gb).toArray] u (fun e w' => e = .returned (arr (ptT 2 o ys)) ∧ Below u.heap.size u w') from h2 (B gb) (hBl.out gb) gb (hBt.out gb) (hB1.out gb) (whW ys) (whW_length ys) (hBw.out gb) (whW_bd ys) A c ys u hg hx (Glb.cH hG) (Glb.dH hG) (Glb.dis hG))
    simp only [eq_self, if_true, if_false, show ¬ ((0 : Nat) = 1) from by omega, show ¬ ((0 : Nat) = 2) from by omega, show ¬ ((0 : Nat) = 3) from by omega, show ¬ ((2 : Nat) = 1) from by omega, show ¬ ((3 : Nat) = 1) from by omega, show ¬ ((3 : Nat) = 2) from by omega] at hPa
    clear hBk hBo hBt hBf hBp hBw hok hk3 hZ
    generalize ptT _ o ys = PT at *
    generalize clrV o (whW ys) PT = CV at *
    clear hpl
    go_enter Tryd.func8, Tryd.ntmps8
    go_wp2_with (first
      | (go_at_call 23; (with_reducible refine (hR.out _ ?h1 ?h2).mono ?_); (case h1 => exact E.out.bs (by simp)); (case h2 => exact E.out.get (by simp)); clear hR; rintro e w1 ⟨gb, A1, c1, rfl, hb, hcg, hbs, hge⟩; have E1 := Lib.hid ((Kn.new_cells E.out hb hge hcg).new_bsi hbs); clear E hb hcg hbs hge; have E := E1; clear E1)
      | (go_at_call 24; (with_reducible refine (hPa.out _ _).mono ?_); clear hPa; rintro e w1 ⟨rfl, hb⟩; have E1 := Lib.hid (E.out.later hb); clear hb E; have E := E1; clear E1)
      | ((with_reducible refine kn_stores (g := g6) (vs := B gb) E.out rfl rfl rfl rfl rfl ?hl ?h1 ?_); (case hl => exact ⟨by rfl, hBl.out gb⟩); (case h1 => exact hB1.out gb); clear E; intro u E0; have E := Lib.hid E0; clear E0)
      | ((with_reducible refine kn_loads (g := g6) E.out rfl rfl rfl ?hl ?_); (case hl => exact hBl.out gb))
      | ((with_reducible refine kn_load E.out rfl rfl rfl rfl ?_)) | ((with_reducible refine kn_load_if E.out rfl rfl rfl rfl ?_)) | ((with_reducible refine kn_loads E.out rfl rfl rfl ?_ ?_); (focus (first | rfl | (simp only [i64s_length, u8s_length]; first | rfl | assumption | omega)))) | ((with_reducible refine kn_loads_if E.out rfl rfl rfl ?_ ?_); (focus (first | rfl | (simp only [i64s_length, u8s_length]; first | rfl | assumption | omega)))) | ((with_reducible refine kn_stores E.out rfl rfl rfl rfl rfl ?_ ?_ ?_); (focus (first | exact ⟨rfl, rfl⟩ | (simp only [i64s_length, u8s_length]; refine ⟨?_, ?_⟩ <;> first | rfl | assumption | omega))); (focus (first | exact i64s_one _ | exact u8s_one _ | simp [Value.oneCell'])); clear E; intro u E0; have E := Lib.hid E0; clear E0) | ((with_reducible refine kn_alloc (o := ⟨some 4, _, _, _, _, _⟩) E.out rfl rfl ?_); clear E; intro g4 u E0 hb0; have E := Lib.hid E0; clear E0 hb0) | ((with_reducible refine kn_box (o := ⟨some 4, _, _, _, _, _⟩) E.out rfl rfl rfl ?_); clear E; intro g4 u E0 hb0; have E := Lib.hid E0; clear E0 hb0) | ((with_reducible refine kn_box_int (o := ⟨some 4, _, _, _, _, _⟩) E.out rfl rfl rfl ?_); clear E; intro g4 u E0 hb0; have E := Lib.hid E0; clear E0 hb0) | ((with_reducible refine kn_box_slice (o := ⟨some 4, _, _, _, _, _⟩) E.out rfl rfl rfl ?_); clear E; intro g4 u E0 hb0; have E := Lib.hid E0; clear E0 hb0) | ((with_reducible refine kn_box_bool (o := ⟨some 4, _, _, _, _, _⟩) E.out rfl rfl rfl ?_); clear E; intro g4 u E0 hb0; have E := Lib.hid E0; clear E0 hb0) | ((with_reducible refine kn_box_func (o := ⟨some 4, _, _, _, _, _⟩) E.out rfl rfl rfl ?_); clear E; intro g4 u E0 hb0; have E := Lib.hid E0; clear E0 hb0) | ((with_reducible refine kn_alloc (o := ⟨some 6, _, _, _, _, _⟩) E.out rfl rfl ?_); clear E; intro g6 u E0 hb0; have E := Lib.hid E0; clear E0 hb0) | ((with_reducible refine kn_box (o := ⟨some 6, _, _, _, _, _⟩) E.out rfl rfl rfl ?_); clear E; intro g6 u E0 hb0; have E := Lib.hid E0; clear E0 hb0) | ((with_reducible refine kn_box_int (o := ⟨some 6, _, _, _, _, _⟩) E.out rfl rfl rfl ?_); clear E; intro g6 u E0 hb0; have E := Lib.hid E0; clear E0 hb0) | ((with_reducible refine kn_box_slice (o := ⟨some 6, _, _, _, _, _⟩) E.out rfl rfl rfl ?_); clear E; intro g6 u E0 hb0; have E := Lib.hid E0; clear E0 hb0) | ((with_reducible refine kn_box_bool (o := ⟨some 6, _, _, _, _, _⟩) E.out rfl rfl rfl ?_); clear E; intro g6 u E0 hb0; have E := Lib.hid E0; clear E0 hb0) | ((with_reducible refine kn_box_func (o := ⟨some 6, _, _, _, _, _⟩) E.out rfl rfl rfl ?_); clear E; intro g6 u E0 hb0; have E := Lib.hid E0; clear E0 hb0))
    refine wp_region_held_drew (S := Kn w [.row g6 57 (B gb)] []) (by kernel_rfl) (E.out.drew.part _ _ (by repeat (first | exact List.Sublist.refl _ | apply List.Sublist.cons_cons | apply List.Sublist.cons)) (by simp)) (fun kS => ?_)
    have E1 := Lib.hid E.out.drew
    generalize World.drew _ = u1 at kS E1 ⊢
    clear E
    have E := E1
    clear E1
    (refine takeL (i := 0) (v := .agg (B gb).toArray) rfl (by kernel_rfl) (by kernel_rfl) (by kernel_rfl) (fun _ _ _ h => h) (yield_loads (g := g6) rfl rfl rfl (hBl.out gb)) kS ?_; (try simp only [Act.put, List.setIfInBounds_toArray, List.set_cons_zero, List.set_cons_succ]))
    (refine takeL (i := 1) (v := _) rfl (by kernel_rfl) (by kernel_rfl) (by kernel_rfl) (fun _ _ _ h => h) (by first | exact Or.inl ⟨by rfl, (by intro u hSu; clear hSu; go_simp; try with_reducible rfl)⟩ | exact Or.inr ⟨by rfl, rfl⟩) kS ?_; (try simp only [Act.put, List.setIfInBounds_toArray, List.set_cons_zero, List.set_cons_succ]))
    refine callL (i := 2) rfl (by kernel_rfl) (fun K hK => ?_)
    (go_simp; (with_reducible refine (hPt.out gb A1 c1 _ ?h1 ?h2 ?h3).mono ?_); (case h1 => exact E.out.get (by simp)); (case h2 => exact E.out.get (by simp)); (case h3 => exact E.out.bs (by simp)); rintro e' w1 ⟨rfl, hb⟩; have E1 := Lib.hid (E.out.later hb); clear hb E; have E := E1; clear E1; go_wp2_with fail; (refine hK.out _ _ (E.out.part _ _ (by repeat (first | exact List.Sublist.refl _ | apply List.Sublist.cons_cons | apply List.Sublist.cons)) (by simp)) (fun kS => ?_); clear hK K; (try simp only [Act.put, List.setIfInBounds_toArray, List.set_cons_zero, List.set_cons_succ])))
    refine callL (i := 3) rfl (by kernel_rfl) (fun K hK => ?_)
    (go_simp; (with_reducible refine (hCl.out _ _).mono ?_); rintro e' w1 ⟨rfl, hb⟩; have E1 := Lib.hid (E.out.later hb); clear hb E; have E := E1; clear E1; go_wp2_with fail; (refine hK.out _ _ (E.out.part _ _ (by repeat (first | exact List.Sublist.refl _ | apply List.Sublist.cons_cons | apply List.Sublist.cons)) (by simp)) (fun kS => ?_); clear hK K; (try simp only [Act.put, List.setIfInBounds_toArray, List.set_cons_zero, List.set_cons_succ])))
    refine callL (i := 4) rfl (by kernel_rfl) (fun K hK => ?_)
    (rw [if_pos (by rfl)]; refine wp_kn_stores (g := g4) (vs := i64s CV) E.out rfl rfl rfl rfl ⟨hz64.out, by rw [i64s_length]; exact hl.out⟩ (i64s_one _) ?_; clear E kS; intro u E0; have E := Lib.hid E0; clear E0; (refine hK.out _ _ (E.out.part _ _ (by repeat (first | exact List.Sublist.refl _ | apply List.Sublist.cons_cons | apply List.Sublist.cons)) (by simp)) (fun kS => ?_); clear hK K; (try simp only [Act.put, List.setIfInBounds_toArray, List.set_cons_zero, List.set_cons_succ])))
    (refine takeL (i := 5) (v := _) rfl (by kernel_rfl) (by kernel_rfl) (by kernel_rfl) (fun _ _ _ h => h) (by first | exact Or.inl ⟨by rfl, (by intro u hSu; clear hSu; go_simp; try with_reducible rfl)⟩ | exact Or.inr ⟨by rfl, rfl⟩) kS ?_; (try simp only [Act.put, List.setIfInBounds_toArray, List.set_cons_zero, List.set_cons_succ]))
    refine wpAnyH_done (by kernel_rfl) ?_ _
    go_wp2_with fail
    refine bodyPost_ret (results_kn2 E.out rfl _ rfl (by rw [i64s_length]; exact hl.out)) rfl ?_
    exact ⟨rfl, E.out.bel⟩
  · have hPt := Lib.hid (fun gb A c u (hG : Glb u) (hg : cellsF gb [.slice A 8 c] u) (hx : Bs u u.heap.size A 8 ys) => show Calls Tryd.prog 57 #[.agg (B gb).toArray] u (fun e w' => e = .returned (arr (ptT 3 o ys)) ∧ Below u.heap.size u w') from planar2 (B gb) (hBl.out gb) gb (hBt.out gb) (hB1.out gb) A c ys u hg hx (Glb.cP hG))
    simp only [eq_self, if_true, if_false, show ¬ ((0 : Nat) = 1) from by omega, show ¬ ((0 : Nat) = 2) from by omega, show ¬ ((0 : Nat) = 3) from by omega, show ¬ ((2 : Nat) = 1) from by omega, show ¬ ((3 : Nat) = 1) from by omega, show ¬ ((3 : Nat) = 2) from by omega] at hPa
    clear hBk hBo hBt hBf hBp hBw hok hk3 hZ
    generalize ptT _ o ys = PT at *
    generalize clrV o (whW ys) PT = CV at *
    clear hpl
    go_enter Tryd.func8, Tryd.ntmps8
    go_wp2_with (first
      | (go_at_call 23; (with_reducible refine (hR.out _ ?h1 ?h2).mono ?_); (case h1 => exact E.out.bs (by simp)); (case h2 => exact E.out.get (by simp)); clear hR; rintro e w1 ⟨gb, A1, c1, rfl, hb, hcg, hbs, hge⟩; have E1 := Lib.hid ((Kn.new_cells E.out hb hge hcg).new_bsi hbs); clear E hb hcg hbs hge; have E := E1; clear E1)
      | (go_at_call 24; (with_reducible refine (hPa.out _ _).mono ?_); clear hPa; rintro e w1 ⟨rfl, hb⟩; have E1 := Lib.hid (E.out.later hb); clear hb E; have E := E1; clear E1)
      | ((with_reducible refine kn_stores (g := g6) (vs := B gb) E.out rfl rfl rfl rfl rfl ?hl ?h1 ?_); (case hl => exact ⟨by rfl, hBl.out gb⟩); (case h1 => exact hB1.out gb); clear E; intro u E0; have E := Lib.hid E0; clear E0)
      | ((with_reducible refine kn_loads (g := g6) E.out rfl rfl rfl ?hl ?_); (case hl => exact hBl.out gb))
      | ((with_reducible refine kn_load E.out rfl rfl rfl rfl ?_)) | ((with_reducible refine kn_load_if E.out rfl rfl rfl rfl ?_)) | ((with_reducible refine kn_loads E.out rfl rfl rfl ?_ ?_); (focus (first | rfl | (simp only [i64s_length, u8s_length]; first | rfl | assumption | omega)))) | ((with_reducible refine kn_loads_if E.out rfl rfl rfl ?_ ?_); (focus (first | rfl | (simp only [i64s_length, u8s_length]; first | rfl | assumption | omega)))) | ((with_reducible refine kn_stores E.out rfl rfl rfl rfl rfl ?_ ?_ ?_); (focus (first | exact ⟨rfl, rfl⟩ | (simp only [i64s_length, u8s_length]; refine ⟨?_, ?_⟩ <;> first | rfl | assumption | omega))); (focus (first | exact i64s_one _ | exact u8s_one _ | simp [Value.oneCell'])); clear E; intro u E0; have E := Lib.hid E0; clear E0) | ((with_reducible refine kn_alloc (o := ⟨some 4, _, _, _, _, _⟩) E.out rfl rfl ?_); clear E; intro g4 u E0 hb0; have E := Lib.hid E0; clear E0 hb0) | ((with_reducible refine kn_box (o := ⟨some 4, _, _, _, _, _⟩) E.out rfl rfl rfl ?_); clear E; intro g4 u E0 hb0; have E := Lib.hid E0; clear E0 hb0) | ((with_reducible refine kn_box_int (o := ⟨some 4, _, _, _, _, _⟩) E.out rfl rfl rfl ?_); clear E; intro g4 u E0 hb0; have E := Lib.hid E0; clear E0 hb0) | ((with_reducible refine kn_box_slice (o := ⟨some 4, _, _, _, _, _⟩) E.out rfl rfl rfl ?_); clear E; intro g4 u E0 hb0; have E := Lib.hid E0; clear E0 hb0) | ((with_reducible refine kn_box_bool (o := ⟨some 4, _, _, _, _, _⟩) E.out rfl rfl rfl ?_); clear E; intro g4 u E0 hb0; have E := Lib.hid E0; clear E0 hb0) | ((with_reducible refine kn_box_func (o := ⟨some 4, _, _, _, _, _⟩) E.out rfl rfl rfl ?_); clear E; intro g4 u E0 hb0; have E := Lib.hid E0; clear E0 hb0) | ((with_reducible refine kn_alloc (o := ⟨some 6, _, _, _, _, _⟩) E.out rfl rfl ?_); clear E; intro g6 u E0 hb0; have E := Lib.hid E0; clear E0 hb0) | ((with_reducible refine kn_box (o := ⟨some 6, _, _, _, _, _⟩) E.out rfl rfl rfl ?_); clear E; intro g6 u E0 hb0; have E := Lib.hid E0; clear E0 hb0) | ((with_reducible refine kn_box_int (o := ⟨some 6, _, _, _, _, _⟩) E.out rfl rfl rfl ?_); clear E; intro g6 u E0 hb0; have E := Lib.hid E0; clear E0 hb0) | ((with_reducible refine kn_box_slice (o := ⟨some 6, _, _, _, _, _⟩) E.out rfl rfl rfl ?_); clear E; intro g6 u E0 hb0; have E := Lib.hid E0; clear E0 hb0) | ((with_reducible refine kn_box_bool (o := ⟨some 6, _, _, _, _, _⟩) E.out rfl rfl rfl ?_); clear E; intro g6 u E0 hb0; have E := Lib.hid E0; clear E0 hb0) | ((with_reducible refine kn_box_func (o := ⟨some 6, _, _, _, _, _⟩) E.out rfl rfl rfl ?_); clear E; intro g6 u E0 hb0; have E := Lib.hid E0; clear E0 hb0))
    refine wp_region_held_drew (S := Kn w [.row g6 57 (B gb)] []) (by kernel_rfl) (E.out.drew.part _ _ (by repeat (first | exact List.Sublist.refl _ | apply List.Sublist.cons_cons | apply List.Sublist.cons)) (by simp)) (fun kS => ?_)
    have E1 := Lib.hid E.out.drew
    generalize World.drew _ = u1 at kS E1 ⊢
    clear E
    have E := E1
    clear E1
    (refine takeL (i := 0) (v := .agg (B gb).toArray) rfl (by kernel_rfl) (by kernel_rfl) (by kernel_rfl) (fun _ _ _ h => h) (yield_loads (g := g6) rfl rfl rfl (hBl.out gb)) kS ?_; (try simp only [Act.put, List.setIfInBounds_toArray, List.set_cons_zero, List.set_cons_succ]))
    (refine takeL (i := 1) (v := _) rfl (by kernel_rfl) (by kernel_rfl) (by kernel_rfl) (fun _ _ _ h => h) (by first | exact Or.inl ⟨by rfl, (by intro u hSu; clear hSu; go_simp; try with_reducible rfl)⟩ | exact Or.inr ⟨by rfl, rfl⟩) kS ?_; (try simp only [Act.put, List.setIfInBounds_toArray, List.set_cons_zero, List.set_cons_succ]))
    refine callL (i := 2) rfl (by kernel_rfl) (fun K hK => ?_)
    (go_simp; (with_reducible refine (hPt.out gb A1 c1 _ ?h1 ?h2 ?h3).mono ?_); (case h1 => exact E.out.get (by simp)); (case h2 => exact E.out.get (by simp)); (case h3 => exact E.out.bs (by simp)); rintro e' w1 ⟨rfl, hb⟩; have E1 := Lib.hid (E.out.later hb); clear hb E; have E := E1; clear E1; go_wp2_with fail; (refine hK.out _ _ (E.out.part _ _ (by repeat (first | exact List.Sublist.refl _ | apply List.Sublist.cons_cons | apply List.Sublist.cons)) (by simp)) (fun kS => ?_); clear hK K; (try simp only [Act.put, List.setIfInBounds_toArray, List.set_cons_zero, List.set_cons_succ])))
    refine callL (i := 3) rfl (by kernel_rfl) (fun K hK => ?_)
    (go_simp; (with_reducible refine (hCl.out _ _).mono ?_); rintro e' w1 ⟨rfl, hb⟩; have E1 := Lib.hid (E.out.later hb); clear hb E; have E := E1; clear E1; go_wp2_with fail; (refine hK.out _ _ (E.out.part _ _ (by repeat (first | exact List.Sublist.refl _ | apply List.Sublist.cons_cons | apply List.Sublist.cons)) (by simp)) (fun kS => ?_); clear hK K; (try simp only [Act.put, List.setIfInBounds_toArray, List.set_cons_zero, List.set_cons_succ])))
    refine callL (i := 4) rfl (by kernel_rfl) (fun K hK => ?_)
    (rw [if_pos (by rfl)]; refine wp_kn_stores (g := g4) (vs := i64s CV) E.out rfl rfl rfl rfl ⟨hz64.out, by rw [i64s_length]; exact hl.out⟩ (i64s_one _) ?_; clear E kS; intro u E0; have E := Lib.hid E0; clear E0; (refine hK.out _ _ (E.out.part _ _ (by repeat (first | exact List.Sublist.refl _ | apply List.Sublist.cons_cons | apply List.Sublist.cons)) (by simp)) (fun kS => ?_); clear hK K; (try simp only [Act.put, List.setIfInBounds_toArray, List.set_cons_zero, List.set_cons_succ])))
    (refine takeL (i := 5) (v := _) rfl (by kernel_rfl) (by kernel_rfl) (by kernel_rfl) (fun _ _ _ h => h) (by first | exact Or.inl ⟨by rfl, (by intro u hSu; clear hSu; go_simp; try with_reducible rfl)⟩ | exact Or.inr ⟨by rfl, rfl⟩) kS ?_; (try simp only [Act.put, List.setIfInBounds_toArray, List.set_cons_zero, List.set_cons_succ]))
    refine wpAnyH_done (by kernel_rfl) ?_ _
    go_wp2_with fail
    refine bodyPost_ret (results_kn2 E.out rfl _ rfl (by rw [i64s_length]; exact hl.out)) rfl ?_
    exact ⟨rfl, E.out.bel⟩
theorem kind2_any (A : Option Addr) (n c : Nat) (p : Bool) (xs : List Nat) (w : World) (h : Bs w w.heap.size A n xs) (hG : Glb w) (hm : n ≤ 9223372036854775807) :
    Calls Tryd.prog 10 #[.slice A n c, .bool p] w fun e w' => e = .returned (.int .i64 (kdV n p xs)) ∧ Below w.heap.size w w' := by
  unfold kdV
  by_cases h8 : n = 8
  · subst h8
    rw [if_pos rfl]
    exact kind_ok A c p xs w h hG
  · rw [if_neg h8]
    exact kind_no A n c p w h8 hm

/-! The program's texels are those of the plain functions. -/
namespace Et
theorem pxs_bits (p : Bool) (xs : List Nat) (hl : xs.length = 8) (l : List Nat) (h : ∀ i ∈ l, i < 64 ∧ i ≠ 30) : Et.bits (pxs p xs) l = Et.bits xs l := by
  unfold Et.bits
  congr 1
  have key : ∀ (l : List Nat) (n : Nat), (∀ i ∈ l, i < 64 ∧ i ≠ 30) → bN (pxs p xs) l n = bN xs l n := by
    intro l
    induction l with
    | nil => intro _ _; rfl
    | cons i l ih =>
      intro n hi
      have h1 := hi i List.mem_cons_self
      show bN _ l _ = bN _ l _
      rw [pxs_bit p xs hl i h1.1, if_neg (fun k => h1.2 k.2)]
      exact ih _ fun j hj => hi j (List.mem_cons_of_mem _ hj)
  exact key l 0 h
theorem pxs_frT (p : Bool) (xs : List Nat) (hl : xs.length = 8) : frT (pxs p xs) = frT xs := by
  unfold frT tA tB tD
  rw [pxs_bits p xs hl _ (by decide), pxs_bits p xs hl _ (by decide), pxs_bits p xs hl _ (by decide), pxs_bits p xs hl _ (by decide), pxs_bits p xs hl _ (by decide), pxs_bits p xs hl _ (by decide), pxs_bits p xs hl _ (by decide)]
theorem pxs_hAB (p : Bool) (xs : List Nat) (hl : xs.length = 8) : hA (pxs p xs) = hA xs ∧ hB (pxs p xs) = hB xs := by
  constructor
  · funext c
    unfold hA
    rw [pxs_bits p xs hl _ (by decide), pxs_bits p xs hl _ (by decide), pxs_bits p xs hl _ (by decide)]
  · funext c
    unfold hB
    rw [pxs_bits p xs hl _ (by decide), pxs_bits p xs hl _ (by decide), pxs_bits p xs hl _ (by decide)]
theorem pxs_frH (p : Bool) (xs : List Nat) (hl : xs.length = 8) : frH (pxs p xs) = frH xs := by
  have e := pxs_hAB p xs hl
  unfold frH hD hN
  rw [e.1, e.2, pxs_bits p xs hl _ (by decide)]
theorem pxs_pl (p : Bool) (xs : List Nat) (hl : xs.length = 8) : oV (pxs p xs) = oV xs ∧ hV (pxs p xs) = hV xs ∧ vV (pxs p xs) = vV xs := by
  unfold oV hV vV
  refine ⟨?_, ?_, ?_⟩
  all_goals rw [pxs_bits p xs hl _ (by decide), pxs_bits p xs hl _ (by decide), pxs_bits p xs hl _ (by decide)]
/-- A tile of rows. -/
theorem tile_ext {T : List Int} (hT : T.length = 64) (f : Nat → List Int) (hf : ∀ i, i < 16 → (f i).length = 4) (h : ∀ i, i < 16 → ∀ j, j < 4 → T.getD (i * 4 + j) 0 = (f i).getD j 0) : T = fl z64 f 16 := by
  refine getD_ext (by rw [hT, fl_length]; rfl) fun q hq => ?_
  rw [hT] at hq
  have key : ∀ k, k ≤ 16 → ∀ q, q < 64 → (fl z64 f k).getD q 0 = if q / 4 < k then (f (q / 4)).getD (q % 4) 0 else z64.getD q 0 := by
    intro k
    induction k with
    | zero => intro _ q _; simp [fl]
    | succ k ih =>
      intro hk q hq
      have hfk := hf k (by omega)
      rw [fl, spl_getD _ _ _ _ (by rw [hfk, fl_length]; show k * 4 + 4 ≤ 64; omega), hfk, ih (by omega) q hq]
      by_cases h1 : k * 4 ≤ q ∧ q < k * 4 + 4
      · rw [if_pos h1, if_pos (by omega), show q / 4 = k by omega, show q - k * 4 = q % 4 by omega]
      · rw [if_neg h1]
        by_cases h2 : q / 4 < k
        · rw [if_pos h2, if_pos (by omega)]
        · rw [if_neg h2, if_neg (by omega)]
  rw [key 16 (by omega) q hq, if_pos (by omega), ← h (q / 4) (by omega) (q % 4) (by omega), show q / 4 * 4 + q % 4 = q by omega]
end Et
end Go.Proofs.YtgcijioiicmjiaaDoor
