/- A block's texels. -/
import Derived.Test.YtgcijioiicmjiaaDoorE1Rbase
set_option linter.all false
namespace Go.Proofs.YtgcijioiicmjiaaDoor
open Go.RowKit
open Bi Lv Eo

/-- Numbers into a part of an array of numbers, at the single operation. -/
theorem wp_kn_storeq {w u : World} {R R' : List Res} {F : List (World → Prop)} {o : Oper} {a : Act} {Q : Exit → Act → World → Prop} {K : Act → World → Prop} (E : Kn w R F u) {ty : TypeId} {x y : Operand} (ho : o.op = .store ty x y) (hd : o.dst = none) {g off : Nat} (hx : a.eval x = .pointer (some ⟨g, off, none⟩)) {ys : List Int} (hy : a.eval y = arr ys) {t : TypeId} {zs : List Int} [H : HasRow R g t (i64s zs)] {m : Nat} [A : Aggr ty m] (hl : ys.length = m) (hm : off + m ≤ zs.length)
    [T : Turn R (.row g t (i64s zs)) (.row g t (i64s (spl zs off ys))) R'] (h : ∀ u', Kn w R' F u' → K a u') : o.wp Tryd.prog a u K Q :=
  wp_kn_storev (T := T) E ho hd hx hy (by rw [i64s_length]; exact hl) (by rw [i64s_length]; exact hm) (i64s_one ys) (i64s_spl ys zs off) h

set_option maxHeartbeats 2000000 in
set_option maxRecDepth 100000 in
theorem shifted_any (t : List Int) (n : Int) (w : World) (ht : t.length = 4) (hb : ∀ j, 0 ≤ t.getD j 0 ∧ t.getD j 0 ≤ 255) (hn : -183 ≤ n ∧ n ≤ 183) :
    Calls Tryd.prog 77 #[arr t, .int .i64 n] w fun e w' => e = .returned (arr (addV t n)) ∧ Below w.heap.size w w' := by
  have E := Lib.hid (Kn.start w)
  have h0 := Lib.hid (show addP t n 0 = t from rfl)
  have hs := Lib.hid (fun c => show addP t n (c + 1) = (addP t n c).set c (clampV (t.getD c 0 + n) 255) from rfl)
  have hl := Lib.hid (fun c => show (addP t n c).length = 4 from by rw [addP_length, ht])
  have hg := Lib.hid (fun c (hc : c < 3) => show (addP t n c).getD c 0 = t.getD c 0 from by rw [addP_getD _ _ _ _ (by omega), if_neg (by omega)])
  have he := Lib.hid (addP_full t n ht)
  have hal := Lib.hid (show (addV t n).length = 4 from rfl)
  generalize addP t n = P at *
  generalize addV t n = AV at *
  go_enter Tryd.func77, Tryd.ntmps77
  go_wp2_with (first | ((with_reducible refine kn_load E.out rfl rfl rfl rfl ?_)) | ((with_reducible refine kn_load_if E.out rfl rfl rfl rfl ?_)) | ((with_reducible refine kn_loads E.out rfl rfl rfl ?_ ?_); (focus (first | rfl | (simp only [i64s_length, u8s_length]; first | rfl | assumption | omega)))) | ((with_reducible refine kn_loads_if E.out rfl rfl rfl ?_ ?_); (focus (first | rfl | (simp only [i64s_length, u8s_length]; first | rfl | assumption | omega)))) | ((with_reducible refine kn_stores E.out rfl rfl rfl rfl rfl ?_ ?_ ?_); (focus (first | exact ⟨rfl, rfl⟩ | (simp only [i64s_length, u8s_length]; refine ⟨?_, ?_⟩ <;> first | rfl | assumption | omega))); (focus (first | exact i64s_one _ | exact u8s_one _ | simp [Value.oneCell'])); clear E; intro u E0; have E := Lib.hid E0; clear E0) | ((with_reducible refine kn_alloc (o := ⟨some 2, _, _, _, _, _⟩) E.out rfl rfl ?_); clear E; intro g2 u E0 hb0; have E := Lib.hid E0; clear E0 hb0) | ((with_reducible refine kn_box (o := ⟨some 2, _, _, _, _, _⟩) E.out rfl rfl rfl ?_); clear E; intro g2 u E0 hb0; have E := Lib.hid E0; clear E0 hb0) | ((with_reducible refine kn_box_int (o := ⟨some 2, _, _, _, _, _⟩) E.out rfl rfl rfl ?_); clear E; intro g2 u E0 hb0; have E := Lib.hid E0; clear E0 hb0) | ((with_reducible refine kn_box_slice (o := ⟨some 2, _, _, _, _, _⟩) E.out rfl rfl rfl ?_); clear E; intro g2 u E0 hb0; have E := Lib.hid E0; clear E0 hb0) | ((with_reducible refine kn_box_bool (o := ⟨some 2, _, _, _, _, _⟩) E.out rfl rfl rfl ?_); clear E; intro g2 u E0 hb0; have E := Lib.hid E0; clear E0 hb0) | ((with_reducible refine kn_box_func (o := ⟨some 2, _, _, _, _, _⟩) E.out rfl rfl rfl ?_); clear E; intro g2 u E0 hb0; have E := Lib.hid E0; clear E0 hb0) | ((with_reducible refine kn_alloc (o := ⟨some 4, _, _, _, _, _⟩) E.out rfl rfl ?_); clear E; intro g4 u E0 hb0; have E := Lib.hid E0; clear E0 hb0) | ((with_reducible refine kn_box (o := ⟨some 4, _, _, _, _, _⟩) E.out rfl rfl rfl ?_); clear E; intro g4 u E0 hb0; have E := Lib.hid E0; clear E0 hb0) | ((with_reducible refine kn_box_int (o := ⟨some 4, _, _, _, _, _⟩) E.out rfl rfl rfl ?_); clear E; intro g4 u E0 hb0; have E := Lib.hid E0; clear E0 hb0) | ((with_reducible refine kn_box_slice (o := ⟨some 4, _, _, _, _, _⟩) E.out rfl rfl rfl ?_); clear E; intro g4 u E0 hb0; have E := Lib.hid E0; clear E0 hb0) | ((with_reducible refine kn_box_bool (o := ⟨some 4, _, _, _, _, _⟩) E.out rfl rfl rfl ?_); clear E; intro g4 u E0 hb0; have E := Lib.hid E0; clear E0 hb0) | ((with_reducible refine kn_box_func (o := ⟨some 4, _, _, _, _, _⟩) E.out rfl rfl rfl ?_); clear E; intro g4 u E0 hb0; have E := Lib.hid E0; clear E0 hb0))
  go_loopw [6] (fun ci wr => ∃ k : Nat, k ≤ 3 ∧ ci = .int .i64 k ∧ Hid (Kn w [.row g4 25 (i64s [0, 0, 0, 0]), .row g2 25 (i64s (P k))] [] wr)) (fun ci _ => 3 - (intOf ci).toNat)
  case atStart => exact ⟨0, by omega, rfl, by rw [h0.out]; exact E⟩
  case round =>
    clear E
    obtain ⟨k, hk, rfl, E⟩ := hrel
    have hlk := hl.out k
    by_cases hlt : k < 3
    · have hk3 : (k : Int) < 3 := by omega
      have hsk := Lib.hid (hs.out k)
      have hgk := hg.out k hlt
      have hbk := hb k
      have hC := Lib.hid (fun u => clamp_any (t.getD k 0 + n) 255 u)
      clear h0 hs hl hg he hal hb
      obtain ⟨v, hv⟩ : ∃ v, t.getD k 0 = v := ⟨_, rfl⟩
      rw [hv] at hsk hgk hbk hC
      have HG := Lib.hid hgk
      clear hgk hv
      generalize clampV (v + n) 255 = cv at *
      generalize P k = Pk at *
      go_wp2_with (first
        | (go_at_call 42; (with_reducible refine (hC.out _).mono ?_); rintro e w1 ⟨rfl, rfl⟩)
        | ((with_reducible refine kn_loadi (g := g2) (i := k) E.out rfl rfl rfl ?hi ?_); (case hi => omega); rw [HG.out])
        | ((with_reducible refine kn_storei (g := g2) (i := k) E.out rfl rfl rfl rfl rfl ?hi ?_); (case hi => omega); clear E; intro u E0; have E := Lib.hid E0; clear E0)
        | ((with_reducible refine kn_load E.out rfl rfl rfl rfl ?_)) | ((with_reducible refine kn_load_if E.out rfl rfl rfl rfl ?_)) | ((with_reducible refine kn_loads E.out rfl rfl rfl ?_ ?_); (focus (first | rfl | (simp only [i64s_length, u8s_length]; first | rfl | assumption | omega)))) | ((with_reducible refine kn_loads_if E.out rfl rfl rfl ?_ ?_); (focus (first | rfl | (simp only [i64s_length, u8s_length]; first | rfl | assumption | omega)))) | ((with_reducible refine kn_stores E.out rfl rfl rfl rfl rfl ?_ ?_ ?_); (focus (first | exact ⟨rfl, rfl⟩ | (simp only [i64s_length, u8s_length]; refine ⟨?_, ?_⟩ <;> first | rfl | assumption | omega))); (focus (first | exact i64s_one _ | exact u8s_one _ | simp [Value.oneCell'])); clear E; intro u E0; have E := Lib.hid E0; clear E0))
      go_roundw
      case rel => exact ⟨k + 1, by omega, by go_num, by rw [hsk.out]; exact E⟩
      case measure => simp [intOf]; try omega
    · have hk3 : ¬ ((k : Int) < 3) := by omega
      have ek : k = 3 := by omega
      rw [ek, he.out] at E
      have hal' := hal.out
      clear h0 hs hl hg he hal hlt hk ek hlk hb
      go_wp2_with (first
        | ((with_reducible refine kn_loads (g := g2) E.out rfl rfl rfl ?hl ?_); (case hl => rw [i64s_length]; exact hal'))
        | ((with_reducible refine kn_stores (g := g4) (vs := i64s AV) E.out rfl rfl rfl rfl rfl ?hl ?h1 ?_); (case hl => exact ⟨rfl, by rw [i64s_length]; exact hal'⟩); (case h1 => exact i64s_one _); clear E; intro u E0; have E := Lib.hid E0; clear E0)
        | ((with_reducible refine kn_load E.out rfl rfl rfl rfl ?_)) | ((with_reducible refine kn_load_if E.out rfl rfl rfl rfl ?_)) | ((with_reducible refine kn_loads E.out rfl rfl rfl ?_ ?_); (focus (first | rfl | (simp only [i64s_length, u8s_length]; first | rfl | assumption | omega)))) | ((with_reducible refine kn_loads_if E.out rfl rfl rfl ?_ ?_); (focus (first | rfl | (simp only [i64s_length, u8s_length]; first | rfl | assumption | omega)))) | ((with_reducible refine kn_stores E.out rfl rfl rfl rfl rfl ?_ ?_ ?_); (focus (first | exact ⟨rfl, rfl⟩ | (simp only [i64s_length, u8s_length]; refine ⟨?_, ?_⟩ <;> first | rfl | assumption | omega))); (focus (first | exact i64s_one _ | exact u8s_one _ | simp [Value.oneCell'])); clear E; intro u E0; have E := Lib.hid E0; clear E0))
      refine bodyPost_ret (results_kn E.out rfl _ rfl (by rw [i64s_length]; exact hal')) rfl ?_
      exact ⟨rfl, E.out.bel⟩

end Go.Proofs.YtgcijioiicmjiaaDoor
