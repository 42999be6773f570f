/- The chain of halves: package mip. -/
import Derived.Test.YtbpdaijmclcbdaaMpRhalf
namespace Go.Proofs.Ytbpdaijmclcbdaa
open Go.RowKit
open Im Mp

namespace Mp
/-- The i-th of an image's halves. -/
def chA (W H : Int) (xs : List Nat) : Nat → Int × Int × List Nat
  | 0 => (W, H, xs)
  | i + 1 => (hv (chA W H xs i).1, hv (chA W H xs i).2.1, hf (chA W H xs i).1 (chA W H xs i).2.1 (chA W H xs i).2.2)
def chL (W H : Int) (xs : List Nat) (m : Nat) : List (Int × Int × List Nat) := (List.range m).map (chA W H xs)
theorem chL_length (W H : Int) (xs : List Nat) (m : Nat) : (chL W H xs m).length = m := by simp [chL]
theorem chL_succ (W H : Int) (xs : List Nat) (m : Nat) : chL W H xs (m + 1) = chL W H xs m ++ [chA W H xs m] := by simp [chL, List.range_succ]
theorem chA_right {W H : Int} {xs : List Nat} (h : rightP W H xs.length) : ∀ i, rightP (chA W H xs i).1 (chA W H xs i).2.1 (chA W H xs i).2.2.length
  | 0 => h
  | i + 1 => hf_right (chA_right h i) _
def chP (W H : Int) (n : Nat) (m : Int) : Prop := rightP W H n ∧ 1 ≤ m ∧ m ≤ lvV W H
instance (W H : Int) (n : Nat) (m : Int) : Decidable (chP W H n m) := inferInstanceAs (Decidable (_ ∧ _))
end Mp

/-- Some image values, one for each of l. -/
def imgsF (vs : List Value) (l : List (Int × Int × List Nat)) : World → Prop := fun u => vs.length = l.length ∧ ∀ (i : Nat) (t : Int × Int × List Nat), l[i]? = some t → ∃ W H A n c, vs[i]? = some (img W H A n c) ∧ W = t.1 ∧ H = t.2.1 ∧ Img u (img W H A n c) W H t.2.2
/-- The cells of some values. -/
def cellsOf (vs : List Value) : List Value := vs.flatMap fun v => v.cells.toList
theorem cellsOf_snoc (vs : List Value) (v : Value) : cellsOf (vs ++ [v]) = cellsOf vs ++ v.cells.toList := by simp [cellsOf]
theorem Kn.snoc {w u : World} {R : List Res} {F : List (World → Prop)} (E : Kn w R F u) {vs : List Value} {l : List (Int × Int × List Nat)} {W H : Int} {A : Option Addr} {n c : Nat} {xs : List Nat} (h1 : imgsF vs l ∈ F) (h2 : imgF (Go.Proofs.Ytbpdaijmclcbdaa.img W H A n c) W H xs ∈ F) : Kn w R (imgsF (vs ++ [Go.Proofs.Ytbpdaijmclcbdaa.img W H A n c]) (l ++ [(W, H, xs)]) :: F) u :=
  E.fact fun u' hk => by
    obtain ⟨hl, ha⟩ := E.facts _ h1 u' hk
    have hi : Img u' (Go.Proofs.Ytbpdaijmclcbdaa.img W H A n c) W H xs := E.facts _ h2 u' hk
    refine ⟨by simp [hl], fun i t ht => ?_⟩
    rcases Nat.lt_or_ge i l.length with h | h
    · rw [List.getElem?_append_left h] at ht
      obtain ⟨W1, H1, A1, n1, c1, e, r⟩ := ha i t ht
      exact ⟨W1, H1, A1, n1, c1, by rw [List.getElem?_append_left (by omega)]; exact e, r⟩
    · rw [List.getElem?_append_right h] at ht
      have e0 : i - l.length = 0 := by
        rcases Nat.eq_zero_or_pos (i - l.length) with h' | h'
        · exact h'
        · rw [List.getElem?_eq_none (by simp; omega)] at ht; cases ht
      rw [e0] at ht
      simp at ht
      subst ht
      refine ⟨W, H, A, n, c, ?_, rfl, rfl, hi⟩
      rw [List.getElem?_append_right (by omega), show i - vs.length = 0 from by omega]
      rfl
theorem Kn.imgs_nil {w u : World} {R : List Res} {F : List (World → Prop)} (E : Kn w R F u) : Kn w R (imgsF [] [] :: F) u := E.fact fun u' _ => ⟨rfl, fun i t h => by simp at h⟩
theorem Kn.pix_img {w u : World} {R : List Res} {F : List (World → Prop)} (E : Kn w R F u) {v : Value} {W H : Int} {xs : List Nat} (h : ∀ u', Keep (blocks R) u u' → Img u' v W H xs) : Kn w R (imgF v W H xs :: F) u := E.fact h
theorem info_image : (Try.prog.info? 24).map (fun i => (i.zero, i.size, i.bytes)) = some (some (.agg (imL 0 0 none 0 0).toArray), 3, 40) := by kernel_rfl
/-- A slice of images. -/
def Imgs (w : World) (v : Value) (l : List (Int × Int × List Nat)) : Prop := ∃ A c vs, v = .slice A l.length c ∧ Rs w w.heap.size A (l.length * 3) (cellsOf vs) ∧ imgsF vs l w
/-- A slice literal of one element is a row of the call's own. -/
theorem Kn.row_own {w u : World} {R R' : List Res} {F : List (World → Prop)} (h : Kn w R F u) (g : Nat) {e : TypeId} {vs : List Value} [H : HasRow R g e vs] [P : Pull R (.row g e vs) R'] : Kn w (.own e vs.length (.slice (some ⟨g, 0, none⟩) 1 1) 1 vs :: R') F u := by
  obtain ⟨R1, R2, rfl, rfl⟩ := P.h
  have hr := h.res _ H.h
  refine Kn.perm (h.turn (r' := .own e vs.length (.slice (some ⟨g, 0, none⟩) 1 1) 1 vs) (World.grownBy.refl u _) ⟨by simp, .inr ⟨g, 1, vs.toArray, rfl, hr.1, hr.2, Nat.le_refl _, by simp [maxLen], by simp, by simp⟩⟩ (.inl rfl)) List.perm_middle

def lenOf : Value → Nat
  | .slice _ n _ => n
  | _ => 0
theorem rs_of_own {w : World} {base : Nat} {e : TypeId} {size n c : Nat} {A : Option Addr} {vs : List Value} (h : w.ownsRow base e size (.slice A n c) n vs) : Rs w w.heap.size A (n * size) vs := by
  refine ⟨h.1, fun hn => ?_⟩
  rcases h.2 with ⟨_, h0⟩ | ⟨g, cap, cur, hv, _, hh, _, _, _, ht⟩
  · subst h0; omega
  · have hA : A = some ⟨g, 0, none⟩ := by injection hv
    subst hA
    refine ⟨g, 0, rfl, (Array.getElem?_eq_some_iff.1 hh).1, fun i v hi => ?_⟩
    rw [Nat.zero_add, cell_of_row w g i cur e (0, 0) hh]
    rw [← ht, List.getElem?_take] at hi
    split at hi
    · simpa using hi
    · cases hi
set_option maxHeartbeats 4000000 in
theorem chain_ok (W H : Int) (b off n c : Nat) (xs : List Nat) (m : Nat) (w : World) (hp : chP W H n (m : Int)) (hB : Bs w w.heap.size (some ⟨b, off, none⟩) n xs) :
    Calls Try.prog 25 #[img W H (some ⟨b, off, none⟩) n c, .int .i64 (m : Int)] w fun e w' => ∃ v', e = .returned (.tuple #[v', .int .i64 0]) ∧ Imgs w' v' (chL W H xs m) ∧ Below w.heap.size w w' := by
  obtain ⟨hr, hm1, hm2⟩ := hp
  have hl := hB.1
  have hn : n ≤ 67108864 := by have h1 := mul_sz hr.1; have h2 := hr.2; have h3 : 4 * W * H = 4 * (W * H) := by rw [Int.mul_assoc]
                               omega
  have hs := hr.1
  unfold szP at hs
  obtain ⟨s1, s2, s3, s4⟩ := hs
  have h0 := right_pos hr
  have hm64 : m ≤ 64 := by
    unfold lvV at hm2
    rw [if_neg (by omega)] at hm2
    have := lv_le 63 W H
    omega
  have E := Lib.hid ((Kn.start w).arg_img (show Img w (img W H (some ⟨b, off, none⟩) n c) W H xs from ⟨_, n, c, rfl, hn, hB⟩))
  have hR := Lib.hid (fun u => right_any W H (some ⟨b, off, none⟩) n c u (by omega))
  rw [decide_eq_true hr] at hR
  have hL := Lib.hid (fun u => levels_any W H u (by omega) (by omega))
  have hCl := Lib.hid (fun (u : World) (hu : Bs u u.heap.size (some ⟨b, off, none⟩) n xs) => bclone_any b off n c xs u hu h0 hn)
  have HR := Lib.hid (show ∀ i, rightP (chA W H xs i).1 (chA W H xs i).2.1 (chA W H xs i).2.2.length from chA_right (by rw [hl]; exact hr))
  have HC0 := Lib.hid (show chA W H xs 0 = (W, H, xs) from rfl)
  have HCS := Lib.hid (fun i => show chA W H xs (i + 1) = (hv (chA W H xs i).1, hv (chA W H xs i).2.1, hf (chA W H xs i).1 (chA W H xs i).2.1 (chA W H xs i).2.2) from rfl)
  have HLS := Lib.hid (chL_succ W H xs)
  have HL0 := Lib.hid (show chL W H xs 0 = [] from rfl)
  have HLL := Lib.hid (chL_length W H xs)
  clear hr hB
  generalize lvV W H = L at *
  have hd1 : decide ((m : Int) < 1) = false := by simp; omega
  have hd2 : decide (L < (m : Int)) = false := by simp; omega
  generalize chL W H xs = cl at *
  generalize chA W H xs = ca at *
  go_enter Try.func25, Try.ntmps25
  go_upto_region 3 with (first
    | (go_at_call 20; refine (hR.out _).mono ?_; rintro e w1 ⟨rfl, hb⟩; have E1 := Lib.hid (E.out.later hb); clear hb E; have E := E1; clear E1)
    | (go_at_call 27; refine (hL.out _).mono ?_; rintro e w2 ⟨rfl, hb⟩; have E1 := Lib.hid (E.out.later hb); clear hb E; have E := E1; clear E1)
    | ((with_reducible refine kn_load E.out rfl rfl rfl rfl ?_)) | ((with_reducible refine kn_load_if E.out rfl rfl rfl rfl ?_)) | ((with_reducible refine kn_loads E.out rfl rfl rfl ?_ ?_); (focus (first | rfl | (simp only [i64s_length, u8s_length]; first | rfl | assumption | omega)))) | ((with_reducible refine kn_loads_if E.out rfl rfl rfl ?_ ?_); (focus (first | rfl | (simp only [i64s_length, u8s_length]; first | rfl | assumption | omega)))) | ((with_reducible refine kn_store1_int E.out rfl rfl rfl rfl rfl ?_); clear E; intro u E0; have E := Lib.hid E0; clear E0) | ((with_reducible refine kn_store1_slice E.out rfl rfl rfl rfl rfl ?_); clear E; intro u E0; have E := Lib.hid E0; clear E0) | ((with_reducible refine kn_store1_bool E.out rfl rfl rfl rfl rfl ?_); clear E; intro u E0; have E := Lib.hid E0; clear E0) | ((with_reducible refine kn_stores E.out rfl rfl rfl rfl rfl ?_ ?_ ?_); (focus (first | exact ⟨rfl, rfl⟩ | (simp only [i64s_length, u8s_length]; refine ⟨?_, ?_⟩ <;> first | rfl | assumption | omega))); (focus (first | exact i64s_one _ | exact u8s_one _ | simp [Value.oneCell'])); clear E; intro u E0; have E := Lib.hid E0; clear E0) | ((with_reducible refine kn_alloc (o := ⟨some 2, _, _, _, _, _⟩) E.out rfl rfl ?_); clear E; intro g2 u E0 hb0; have E := Lib.hid E0; clear E0 hb0) | ((with_reducible refine kn_box (o := ⟨some 2, _, _, _, _, _⟩) E.out rfl rfl rfl ?_); clear E; intro g2 u E0 hb0; have E := Lib.hid E0; clear E0 hb0) | ((with_reducible refine kn_box_int (o := ⟨some 2, _, _, _, _, _⟩) E.out rfl rfl rfl ?_); clear E; intro g2 u E0 hb0; have E := Lib.hid E0; clear E0 hb0) | ((with_reducible refine kn_box_slice (o := ⟨some 2, _, _, _, _, _⟩) E.out rfl rfl rfl ?_); clear E; intro g2 u E0 hb0; have E := Lib.hid E0; clear E0 hb0) | ((with_reducible refine kn_box_bool (o := ⟨some 2, _, _, _, _, _⟩) E.out rfl rfl rfl ?_); clear E; intro g2 u E0 hb0; have E := Lib.hid E0; clear E0 hb0) | ((with_reducible refine kn_box_func (o := ⟨some 2, _, _, _, _, _⟩) E.out rfl rfl rfl ?_); clear E; intro g2 u E0 hb0; have E := Lib.hid E0; clear E0 hb0) | ((with_reducible refine kn_alloc E.out rfl rfl ?_); clear E; intro g u E0 hb0; have E := Lib.hid E0; clear E0 hb0) | ((with_reducible refine kn_box E.out rfl rfl rfl ?_); clear E; intro g u E0 hb0; have E := Lib.hid E0; clear E0 hb0) | ((with_reducible refine kn_box_int E.out rfl rfl rfl ?_); clear E; intro g u E0 hb0; have E := Lib.hid E0; clear E0 hb0) | ((with_reducible refine kn_box_slice E.out rfl rfl rfl ?_); clear E; intro g u E0 hb0; have E := Lib.hid E0; clear E0 hb0) | ((with_reducible refine kn_box_bool E.out rfl rfl rfl ?_); clear E; intro g u E0 hb0; have E := Lib.hid E0; clear E0 hb0) | ((with_reducible refine kn_box_func E.out rfl rfl rfl ?_); clear E; intro g u E0 hb0; have E := Lib.hid E0; clear E0 hb0))
  go_cut [6] (fun s6 wx => ∃ (g6 : Nat) (A6 : Option Addr) (c6 : Nat), s6 = .pointer (some ⟨g6, 0, none⟩) ∧ Hid (Kn w [.row g6 24 (imL W H A6 n c6), .row g2 24 (imL W H (some ⟨b, off, none⟩) n c)] [imgF (img W H A6 n c6) W H xs, imgF (img W H (some ⟨b, off, none⟩) n c) W H xs] wx))
  case first =>
    refine wp_region_held_drew (S := Kn w [.row g2 24 (imL W H (some ⟨b, off, none⟩) n c)] [imgF (img W H (some ⟨b, off, none⟩) n c) W H xs]) (by kernel_rfl) E.out.drew (fun kS => ?_)
    generalize World.drew _ = u1 at kS ⊢
    clear E
    have E := Lib.hid kS
    (refine takeL (i := 0) (v := _) rfl (by kernel_rfl) (by kernel_rfl) (by kernel_rfl) (fun _ _ _ h => h) (by first | exact Or.inl ⟨by rfl, (by intro u hSu; clear hSu; go_simp; try with_reducible rfl)⟩ | exact Or.inr ⟨by rfl, rfl⟩) kS ?_; (try simp only [Act.put, List.setIfInBounds_toArray, List.set_cons_zero, List.set_cons_succ]))
    (refine takeL (i := 1) (v := _) rfl (by kernel_rfl) (by kernel_rfl) (by kernel_rfl) (fun _ _ _ h => h) (by first | exact yield_load rfl rfl rfl rfl | exact yield_loads rfl rfl rfl rfl | exact yield_loads rfl rfl rfl (by simp only [i64s_length, u8s_length]; first | assumption | omega) | exact yield_loadi rfl rfl rfl (by first | assumption | omega) | exact yield_loadp rfl rfl rfl (by first | assumption | omega)) kS ?_; (try simp only [Act.put, List.setIfInBounds_toArray, List.set_cons_zero, List.set_cons_succ]))
    (refine takeL (i := 2) (v := _) rfl (by kernel_rfl) (by kernel_rfl) (by kernel_rfl) (fun _ _ _ h => h) (by first | exact Or.inl ⟨by rfl, (by intro u hSu; clear hSu; go_simp; try with_reducible rfl)⟩ | exact Or.inr ⟨by rfl, rfl⟩) kS ?_; (try simp only [Act.put, List.setIfInBounds_toArray, List.set_cons_zero, List.set_cons_succ]))
    (refine takeL (i := 3) (v := _) rfl (by kernel_rfl) (by kernel_rfl) (by kernel_rfl) (fun _ _ _ h => h) (by first | exact yield_load rfl rfl rfl rfl | exact yield_loads rfl rfl rfl rfl | exact yield_loads rfl rfl rfl (by simp only [i64s_length, u8s_length]; first | assumption | omega) | exact yield_loadi rfl rfl rfl (by first | assumption | omega) | exact yield_loadp rfl rfl rfl (by first | assumption | omega)) kS ?_; (try simp only [Act.put, List.setIfInBounds_toArray, List.set_cons_zero, List.set_cons_succ]))
    (refine takeL (i := 4) (v := _) rfl (by kernel_rfl) (by kernel_rfl) (by kernel_rfl) (fun _ _ _ h => h) (by first | exact Or.inl ⟨by rfl, (by intro u hSu; clear hSu; go_simp; try with_reducible rfl)⟩ | exact Or.inr ⟨by rfl, rfl⟩) kS ?_; (try simp only [Act.put, List.setIfInBounds_toArray, List.set_cons_zero, List.set_cons_succ]))
    (refine takeL (i := 5) (v := _) rfl (by kernel_rfl) (by kernel_rfl) (by kernel_rfl) (fun _ _ _ h => h) (by first | exact yield_load rfl rfl rfl rfl | exact yield_loads rfl rfl rfl rfl | exact yield_loads rfl rfl rfl (by simp only [i64s_length, u8s_length]; first | assumption | omega) | exact yield_loadi rfl rfl rfl (by first | assumption | omega) | exact yield_loadp rfl rfl rfl (by first | assumption | omega)) kS ?_; (try simp only [Act.put, List.setIfInBounds_toArray, List.set_cons_zero, List.set_cons_succ]))
    refine callL2 (i := 6) (j := 8) rfl rfl (by kernel_rfl) (fun K hK => ?_) (fun K hK => ?_)
    · (go_simp; refine (hCl.out _ (Img.bs (E.out.img (v := img W H (some ⟨b, off, none⟩) n c)))).mono ?_; rintro e w5 ⟨g, cap, rfl, hg, hpx, hb⟩; have E1 := Lib.hid (E.out.fresh_img hb (show ImgN _ w5 (img W H (some ⟨g, 0, none⟩) n cap) W H xs from ⟨_, n, cap, rfl, hn, hpx.bs hl, fun b off e => by cases e; exact hg⟩)); clear hb hg hpx E; have E := E1; clear E1; go_wp2_with fail; (refine hK.out _ _ (E.out.part _ _ (by repeat (first | exact List.Sublist.refl _ | apply List.Sublist.cons_cons | apply List.Sublist.cons)) (by simp)) (fun kS => ?_); clear hK K; (try simp only [Act.put, List.setIfInBounds_toArray, List.set_cons_zero, List.set_cons_succ])))
      (refine takeL (i := 7) (v := _) rfl (by kernel_rfl) (by kernel_rfl) (by kernel_rfl) (fun _ _ _ h => h) (by first | exact Or.inl ⟨by rfl, (by intro u hSu; clear hSu; go_simp; try with_reducible rfl)⟩ | exact Or.inr ⟨by rfl, rfl⟩) kS ?_; (try simp only [Act.put, List.setIfInBounds_toArray, List.set_cons_zero, List.set_cons_succ]))
      refine callL (i := 8) rfl (by kernel_rfl) (fun K hK => ?_)
      (rw [if_pos (by rfl)]; refine wp_kn_alloc E.out rfl ?_; clear E kS; intro g6 u E0; have E := Lib.hid E0; clear E0; (refine hK.out _ _ (E.out.part _ _ (by repeat (first | exact List.Sublist.refl _ | apply List.Sublist.cons_cons | apply List.Sublist.cons)) (by simp)) (fun kS => ?_); clear hK K; (try simp only [Act.put, List.setIfInBounds_toArray, List.set_cons_zero, List.set_cons_succ])))
      refine callL (i := 9) rfl (by kernel_rfl) (fun K hK => ?_)
      (rw [if_pos (by rfl)]; refine wp_kn_stores (vs := imL W H (some ⟨g, 0, none⟩) n cap) E.out rfl rfl rfl rfl (by exact ⟨rfl, rfl⟩) (by simp [Value.oneCell']) ?_; clear E kS; intro u E0; have E := Lib.hid E0; clear E0; (refine hK.out _ _ (E.out.part _ _ (by repeat (first | exact List.Sublist.refl _ | apply List.Sublist.cons_cons | apply List.Sublist.cons)) (by simp)) (fun kS => ?_); clear hK K; (try simp only [Act.put, List.setIfInBounds_toArray, List.set_cons_zero, List.set_cons_succ])))
      refine wpAnyH_done (by kernel_rfl) ?_ _
      go_wp2_with fail
      go_meet
      exact ⟨g6, _, cap, rfl, E⟩
    · (rw [if_pos (by rfl)]; refine wp_kn_alloc E.out rfl ?_; clear E kS; intro g6 u E0; have E := Lib.hid E0; clear E0; (refine hK.out _ _ (E.out.part _ _ (by repeat (first | exact List.Sublist.refl _ | apply List.Sublist.cons_cons | apply List.Sublist.cons)) (by simp)) (fun kS => ?_); clear hK K; (try simp only [Act.put, List.setIfInBounds_toArray, List.set_cons_zero, List.set_cons_succ])))
      refine callL (i := 6) rfl (by kernel_rfl) (fun K hK => ?_)
      (go_simp; refine (hCl.out _ (Img.bs (E.out.img (v := img W H (some ⟨b, off, none⟩) n c)))).mono ?_; rintro e w5 ⟨g, cap, rfl, hg, hpx, hb⟩; have E1 := Lib.hid (E.out.fresh_img hb (show ImgN _ w5 (img W H (some ⟨g, 0, none⟩) n cap) W H xs from ⟨_, n, cap, rfl, hn, hpx.bs hl, fun b off e => by cases e; exact hg⟩)); clear hb hg hpx E; have E := E1; clear E1; go_wp2_with fail; (refine hK.out _ _ (E.out.part _ _ (by repeat (first | exact List.Sublist.refl _ | apply List.Sublist.cons_cons | apply List.Sublist.cons)) (by simp)) (fun kS => ?_); clear hK K; (try simp only [Act.put, List.setIfInBounds_toArray, List.set_cons_zero, List.set_cons_succ])))
      (refine takeL (i := 7) (v := _) rfl (by kernel_rfl) (by kernel_rfl) (by kernel_rfl) (fun _ _ _ h => h) (by first | exact Or.inl ⟨by rfl, (by intro u hSu; clear hSu; go_simp; try with_reducible rfl)⟩ | exact Or.inr ⟨by rfl, rfl⟩) kS ?_; (try simp only [Act.put, List.setIfInBounds_toArray, List.set_cons_zero, List.set_cons_succ]))
      refine callL (i := 9) rfl (by kernel_rfl) (fun K hK => ?_)
      (rw [if_pos (by rfl)]; refine wp_kn_stores (vs := imL W H (some ⟨g, 0, none⟩) n cap) E.out rfl rfl rfl rfl (by exact ⟨rfl, rfl⟩) (by simp [Value.oneCell']) ?_; clear E kS; intro u E0; have E := Lib.hid E0; clear E0; (refine hK.out _ _ (E.out.part _ _ (by repeat (first | exact List.Sublist.refl _ | apply List.Sublist.cons_cons | apply List.Sublist.cons)) (by simp)) (fun kS => ?_); clear hK K; (try simp only [Act.put, List.setIfInBounds_toArray, List.set_cons_zero, List.set_cons_succ])))
      refine wpAnyH_done (by kernel_rfl) ?_ _
      go_wp2_with fail
      go_meet
      exact ⟨g6, _, cap, rfl, E⟩
  case rest =>
    obtain ⟨g6, A6, c6, rfl, E0⟩ := hcut
    clear E
    have E := Lib.hid E0.out.imgs_nil
    clear E0 hR hL hCl
    go_wp2_with (first
      | ((with_reducible refine kn_build1 (vs := imL W H A6 n c6) E.out rfl rfl rfl ?_ Try.underlying45 info_image ?_ ?_ ?_ ?_); (focus (rfl)); (focus (rfl)); (focus (omega)); (focus (omega)); clear E; intro g7 u E0 hb0; have E := Lib.hid ((E0.row_own g7).snoc (vs := []) (l := []) (W := W) (H := H) (A := A6) (n := n) (c := c6) (xs := xs) (by simp) (by simp)); clear E0 hb0)
      | ((with_reducible refine kn_load E.out rfl rfl rfl rfl ?_)) | ((with_reducible refine kn_load_if E.out rfl rfl rfl rfl ?_)) | ((with_reducible refine kn_loads E.out rfl rfl rfl ?_ ?_); (focus (first | rfl | (simp only [i64s_length, u8s_length]; first | rfl | assumption | omega)))) | ((with_reducible refine kn_loads_if E.out rfl rfl rfl ?_ ?_); (focus (first | rfl | (simp only [i64s_length, u8s_length]; first | rfl | assumption | omega)))) | ((with_reducible refine kn_store1_int E.out rfl rfl rfl rfl rfl ?_); clear E; intro u E0; have E := Lib.hid E0; clear E0) | ((with_reducible refine kn_store1_slice E.out rfl rfl rfl rfl rfl ?_); clear E; intro u E0; have E := Lib.hid E0; clear E0) | ((with_reducible refine kn_store1_bool E.out rfl rfl rfl rfl rfl ?_); clear E; intro u E0; have E := Lib.hid E0; clear E0) | ((with_reducible refine kn_stores E.out rfl rfl rfl rfl rfl ?_ ?_ ?_); (focus (first | exact ⟨rfl, rfl⟩ | (simp only [i64s_length, u8s_length]; refine ⟨?_, ?_⟩ <;> first | rfl | assumption | omega))); (focus (first | exact i64s_one _ | exact u8s_one _ | simp [Value.oneCell'])); clear E; intro u E0; have E := Lib.hid E0; clear E0) | ((with_reducible refine kn_alloc E.out rfl rfl ?_); clear E; intro g u E0 hb0; have E := Lib.hid E0; clear E0 hb0) | ((with_reducible refine kn_box E.out rfl rfl rfl ?_); clear E; intro g u E0 hb0; have E := Lib.hid E0; clear E0 hb0) | ((with_reducible refine kn_box_int E.out rfl rfl rfl ?_); clear E; intro g u E0 hb0; have E := Lib.hid E0; clear E0 hb0) | ((with_reducible refine kn_box_slice E.out rfl rfl rfl ?_); clear E; intro g u E0 hb0; have E := Lib.hid E0; clear E0 hb0) | ((with_reducible refine kn_box_bool E.out rfl rfl rfl ?_); clear E; intro g u E0 hb0; have E := Lib.hid E0; clear E0 hb0) | ((with_reducible refine kn_box_func E.out rfl rfl rfl ?_); clear E; intro g u E0 hb0; have E := Lib.hid E0; clear E0 hb0))
    go_loopw [7] (fun v wr => ∃ (i : Nat) (Al : Option Addr) (c7 : Nat) (vs : List Value) (A6 : Option Addr) (n6 c6 : Nat), i + 1 ≤ m ∧ v = .slice Al (i + 1) c7 ∧ Hid (Kn w [.own 24 3 (.slice Al (i + 1) c7) (i + 1) (cellsOf vs), .row g6 24 (imL (ca i).1 (ca i).2.1 A6 n6 c6), .row g2 24 (imL W H (some ⟨b, off, none⟩) n c)] [imgsF vs (cl (i + 1)), imgF (img (ca i).1 (ca i).2.1 A6 n6 c6) (ca i).1 (ca i).2.1 (ca i).2.2] wr)) (fun v _ => m - lenOf v)
    case atStart => exact ⟨0, _, _, [img W H A6 n c6], A6, n, c6, by omega, rfl, by rw [HLS.out 0, HL0.out, HC0.out]; exact E.out.part _ _ (List.Sublist.refl _) (by simp)⟩
    case round =>
      clear E
      obtain ⟨i, Al, c7, vs, A6', n6, c6', him, rfl, E⟩ := hrel
      by_cases hlt : i + 1 < m
      · have hRi := HR.out i
        have hCi := Lib.hid (HCS.out i)
        have hLi := Lib.hid (HLS.out (i + 1))
        rcases hci : ca i with ⟨Wi, Hi, xi⟩
        rw [hci] at E hRi hCi
        have E1 := Lib.hid (show Kn w [.own 24 3 (.slice Al (i + 1) c7) (i + 1) (cellsOf vs), .row g6 24 (imL Wi Hi A6' n6 c6'), .row g2 24 (imL W H (some ⟨b, off, none⟩) n c)] [imgsF vs (cl (i + 1)), imgF (img Wi Hi A6' n6 c6') Wi Hi xi] wr from E.out)
        have hBs := Img.bs (E1.out.img (v := img Wi Hi A6' n6 c6'))
        have hri : rightP Wi Hi n6 := by have h := hBs.1; rw [← h]; exact hRi
        obtain ⟨b6, off6, rfl, _⟩ := hBs.2.2 (right_pos hri)
        have hHf := Lib.hid (fun (u : World) (hu : Bs u u.heap.size (some ⟨b6, off6, none⟩) n6 xi) => half_ok Wi Hi b6 off6 n6 c6' xi u hri hu)
        have HCi := Lib.hid (show ca (i + 1) = (hv Wi, hv Hi, hf Wi Hi xi) from hCi.out)
        clear E hBs hri hRi hci hCi
        have E := E1
        clear E1
        generalize hv Wi = W2 at *
        generalize hv Hi = H2 at *
        generalize hf Wi Hi xi = x2 at *
        go_wp2_with (first
          | (go_at_call 50; refine (hHf.out _ (Img.bs (E.out.img (v := img Wi Hi (some ⟨b6, off6, none⟩) n6 c6')))).mono ?_; rintro e w7 ⟨v2, rfl, hI, hb⟩; have E1 := Lib.hid (E.out.fresh_img hb hI); clear hb E; have E := E1; clear E1; obtain ⟨A2, n2, c2, rfl, hn2, hB2, hf2⟩ := hI; clear hf2 hB2 hn2)
          | ((with_reducible refine kn_build1 (vs := imL W2 H2 A2 n2 c2) E.out rfl rfl rfl ?_ Try.underlying45 info_image ?_ ?_ ?_ ?_); (focus (rfl)); (focus (rfl)); (focus (omega)); (focus (omega)); clear E; intro g7 u E0 hb0; have E := Lib.hid E0; clear E0 hb0)
          | ((with_reducible refine kn_append_row E.out rfl rfl ?_ Try.underlying45 info_image ?_ ?_ rfl ?_ ?_ ?_ ?_ ?_); (focus (rfl)); (focus (rfl)); (focus (omega)); (focus (rfl)); (focus (simp [Value.oneCell'])); (focus (unfold maxLen; omega)); (focus (omega)); clear E; intro v' u' E0; obtain ⟨gn, cn, rfl⟩ := own_shape (E0.own (v := v')) (by omega); have E := Lib.hid (E0.snoc (vs := vs) (l := cl (i + 1)) (W := W2) (H := H2) (A := A2) (n := n2) (c := c2) (xs := x2) (by simp) (by simp)); clear E0)
          | ((with_reducible refine kn_load E.out rfl rfl rfl rfl ?_)) | ((with_reducible refine kn_load_if E.out rfl rfl rfl rfl ?_)) | ((with_reducible refine kn_loads E.out rfl rfl rfl ?_ ?_); (focus (first | rfl | (simp only [i64s_length, u8s_length]; first | rfl | assumption | omega)))) | ((with_reducible refine kn_loads_if E.out rfl rfl rfl ?_ ?_); (focus (first | rfl | (simp only [i64s_length, u8s_length]; first | rfl | assumption | omega)))) | ((with_reducible refine kn_store1_int E.out rfl rfl rfl rfl rfl ?_); clear E; intro u E0; have E := Lib.hid E0; clear E0) | ((with_reducible refine kn_store1_slice E.out rfl rfl rfl rfl rfl ?_); clear E; intro u E0; have E := Lib.hid E0; clear E0) | ((with_reducible refine kn_store1_bool E.out rfl rfl rfl rfl rfl ?_); clear E; intro u E0; have E := Lib.hid E0; clear E0) | ((with_reducible refine kn_stores E.out rfl rfl rfl rfl rfl ?_ ?_ ?_); (focus (first | exact ⟨rfl, rfl⟩ | (simp only [i64s_length, u8s_length]; refine ⟨?_, ?_⟩ <;> first | rfl | assumption | omega))); (focus (first | exact i64s_one _ | exact u8s_one _ | simp [Value.oneCell'])); clear E; intro u E0; have E := Lib.hid E0; clear E0) | ((with_reducible refine kn_alloc E.out rfl rfl ?_); clear E; intro g u E0 hb0; have E := Lib.hid E0; clear E0 hb0) | ((with_reducible refine kn_box E.out rfl rfl rfl ?_); clear E; intro g u E0 hb0; have E := Lib.hid E0; clear E0 hb0) | ((with_reducible refine kn_box_int E.out rfl rfl rfl ?_); clear E; intro g u E0 hb0; have E := Lib.hid E0; clear E0 hb0) | ((with_reducible refine kn_box_slice E.out rfl rfl rfl ?_); clear E; intro g u E0 hb0; have E := Lib.hid E0; clear E0 hb0) | ((with_reducible refine kn_box_bool E.out rfl rfl rfl ?_); clear E; intro g u E0 hb0; have E := Lib.hid E0; clear E0 hb0) | ((with_reducible refine kn_box_func E.out rfl rfl rfl ?_); clear E; intro g u E0 hb0; have E := Lib.hid E0; clear E0 hb0))
        go_roundw
        case rel => exact ⟨i + 1, _, cn, vs ++ [img W2 H2 A2 n2 c2], A2, n2, c2, by omega, rfl, by rw [hLi.out, HCi.out, cellsOf_snoc]; exact E.out.part _ _ (by repeat (first | exact List.Sublist.refl _ | apply List.Sublist.cons_cons | apply List.Sublist.cons)) (by simp)⟩
        case measure => simp [lenOf]; omega
      · obtain rfl : i + 1 = m := by omega
        go_wp2_with (first | ((with_reducible refine kn_load E.out rfl rfl rfl rfl ?_)) | ((with_reducible refine kn_load_if E.out rfl rfl rfl rfl ?_)) | ((with_reducible refine kn_loads E.out rfl rfl rfl ?_ ?_); (focus (first | rfl | (simp only [i64s_length, u8s_length]; first | rfl | assumption | omega)))) | ((with_reducible refine kn_loads_if E.out rfl rfl rfl ?_ ?_); (focus (first | rfl | (simp only [i64s_length, u8s_length]; first | rfl | assumption | omega)))) | ((with_reducible refine kn_store1_int E.out rfl rfl rfl rfl rfl ?_); clear E; intro u E0; have E := Lib.hid E0; clear E0) | ((with_reducible refine kn_store1_slice E.out rfl rfl rfl rfl rfl ?_); clear E; intro u E0; have E := Lib.hid E0; clear E0) | ((with_reducible refine kn_store1_bool E.out rfl rfl rfl rfl rfl ?_); clear E; intro u E0; have E := Lib.hid E0; clear E0) | ((with_reducible refine kn_stores E.out rfl rfl rfl rfl rfl ?_ ?_ ?_); (focus (first | exact ⟨rfl, rfl⟩ | (simp only [i64s_length, u8s_length]; refine ⟨?_, ?_⟩ <;> first | rfl | assumption | omega))); (focus (first | exact i64s_one _ | exact u8s_one _ | simp [Value.oneCell'])); clear E; intro u E0; have E := Lib.hid E0; clear E0) | ((with_reducible refine kn_alloc E.out rfl rfl ?_); clear E; intro g u E0 hb0; have E := Lib.hid E0; clear E0 hb0) | ((with_reducible refine kn_box E.out rfl rfl rfl ?_); clear E; intro g u E0 hb0; have E := Lib.hid E0; clear E0 hb0) | ((with_reducible refine kn_box_int E.out rfl rfl rfl ?_); clear E; intro g u E0 hb0; have E := Lib.hid E0; clear E0 hb0) | ((with_reducible refine kn_box_slice E.out rfl rfl rfl ?_); clear E; intro g u E0 hb0; have E := Lib.hid E0; clear E0 hb0) | ((with_reducible refine kn_box_bool E.out rfl rfl rfl ?_); clear E; intro g u E0 hb0; have E := Lib.hid E0; clear E0 hb0) | ((with_reducible refine kn_box_func E.out rfl rfl rfl ?_); clear E; intro g u E0 hb0; have E := Lib.hid E0; clear E0 hb0))
        go_ret2
        refine ⟨_, rfl, ?_, E.out.bel⟩
        refine ⟨Al, c7, vs, by rw [HLL.out]; rfl, ?_, E.out.get (f := imgsF vs (cl (i + 1))) (by simp)⟩
        rw [HLL.out]
        exact rs_of_own (E.out.own (v := .slice Al (i + 1) c7))
end Go.Proofs.Ytbpdaijmclcbdaa
