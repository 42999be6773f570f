/- Levels and Side of package mip. -/
import Derived.Test.YtbpdaijmclcbdaaMpRange
namespace Go.Proofs.Ytbpdaijmclcbdaa
open Go.RowKit Go.Shelf
open Im Mp
attribute [local go_sem] Oper.semAt_some

namespace Mp
theorem szL_get : ∀ f w h k, k < (szL f w h).length → (szL f w h)[k]? = some (hvN k w, hvN k h)
  | 0, w, h, k, hk => by
    have : k = 0 := by simp [szL] at hk; exact hk
    subst this
    rfl
  | f + 1, w, h, k, hk => by
    cases k with
    | zero => simp [szL, hvN]
    | succ k =>
      unfold szL at hk ⊢
      by_cases hg : goes w h
      · rw [if_pos hg] at hk ⊢
        simp only [List.getElem?_cons_succ, hvN]
        exact szL_get f (hv w) (hv h) k (by simpa using hk)
      · rw [if_neg hg] at hk
        simp at hk
theorem hvN_add : ∀ a b x, hvN (a + b) x = hvN b (hvN a x)
  | 0, b, x => by rw [Nat.zero_add, hvN]
  | a + 1, b, x => by rw [show a + 1 + b = (a + b) + 1 from by omega, hvN, hvN, hvN_add a b]
theorem szL_last : ∀ f w h, 1 ≤ w → 1 ≤ h → w < 2 ^ (f + 1) → h < 2 ^ (f + 1) → hvN ((szL f w h).length - 1) w = 1 ∧ hvN ((szL f w h).length - 1) h = 1
  | 0, w, h, h1, h2, h3, h4 => by
    simp at h3 h4
    obtain rfl : w = 1 := by omega
    obtain rfl : h = 1 := by omega
    exact ⟨rfl, rfl⟩
  | f + 1, w, h, h1, h2, h3, h4 => by
    by_cases hg : goes w h
    · have hL : (szL (f + 1) w h).length - 1 = ((szL f (hv w) (hv h)).length - 1) + 1 := by
        rw [szL, if_pos hg, List.length_cons, szL_length]
        have := lv_pos f (hv w) (hv h)
        omega
      rw [hL, hvN, hvN]
      obtain ⟨g, hfg, _, h5, h6⟩ := lv_step hg h1 h2 h3 h4
      have : g = f := by omega
      subst this
      exact szL_last g (hv w) (hv h) (hv_pos w) (hv_pos h) h5 h6
    · have : (szL (f + 1) w h).length = 1 := by rw [szL, if_neg hg]; rfl
      rw [this]
      unfold goes at hg
      exact ⟨by simp [hvN]; omega, by simp [hvN]; omega⟩
theorem hvN_late {w : Int} (h1 : 1 ≤ w) (h2 : w ≤ 9223372036854775807) {k : Nat} (hk : (szL 63 w 1).length ≤ k) : hvN k w = 1 := by
  have h := (szL_last 63 w 1 h1 (by omega) (by rw [pow63]; omega) (by rw [pow63]; omega)).1
  have hp := lv_pos 63 w 1
  rw [← szL_length] at hp
  rw [show k = ((szL 63 w 1).length - 1) + (k - ((szL 63 w 1).length - 1)) from by omega, hvN_add, h, hvN_one]
end Mp

theorem Row.far {B gw gh g : Nat} {A C : World} {t : TypeId} {vs : List Value} {row : Option Nat} (h : Row A g t vs) (hg : A.grownBy C row) (hr : ∀ r, row = some r → Far B gw gh r) (h1 : g < B) (h2 : g ≠ gw) (h3 : g ≠ gh) : Row C g t vs := by
  refine (hg.block g h.lt fun e => ?_).trans h
  rcases hr g e.symm with h | h | h
  · omega
  · exact h2 h
  · exact h3 h
theorem below_far {B gw gh n : Nat} {w A C : World} {row : Option Nat} (h : Below n w A) (hn : n ≤ A.heap.size) (hg : A.grownBy C row) (hr : ∀ r, row = some r → Far B gw gh r) (h1 : n ≤ B) (h2 : n ≤ gw) (h3 : n ≤ gh) : Below n w C :=
  h.grown hg hn fun k e => by
    rcases hr k e with h | h | h <;> omega
theorem Leaves.set {B gw gh g i : Nat} (W : World) (v : Value) (h1 : g < B) (h2 : g ≠ gw) (h3 : g ≠ gh) : Leaves B gw gh W (W.setCell ⟨g, i, none⟩ v) :=
  ⟨by simp, fun k _ hk => heap_setCell_other W ⟨g, i, none⟩ k v fun e => by
    have e' : k = g := e
    rcases hk with h | h | h
    · omega
    · exact h2 (e' ▸ h)
    · exact h3 (e' ▸ h)⟩

/-- A result that lies in a cell of its own. -/
theorem results_cell1 {fn : Func} {p : Tmp} {ty : TypeId} {w : World} (h : fn.results = #[.cell p ty]) (tmps : Array Value) {g : Nat} (hp : tmps.getD p undef = .pointer (some ⟨g, 0, none⟩)) {v : Value} (hc : w.cell? ⟨g, 0, none⟩ = some v) (hu : Try.prog.underlying ty = some (.int .i64)) :
    (results fn tmps).run Try.prog w = .ok v w := by
  have hp' : tmps[p]?.getD undef = .pointer (some ⟨g, 0, none⟩) := by simpa using hp
  have ha : (isAgg ty).run Try.prog w = .ok false w := run_isAgg_plain hu rfl w
  simp [results, h, hp', asAddr, loadVar, ha, hc]
theorem Row.old' {w : World} {g : Nat} {t : TypeId} {vs : List Value} (h : Row w g t vs) (o : Obj) : Row (w.alloc o) g t vs := (Below.heap_alloc w o g h.lt).trans h
set_option maxHeartbeats 2000000 in
theorem levels_any (W H : Int) (w : World) (hW : W ≤ 9223372036854775807) (hH : H ≤ 9223372036854775807) :
    Calls Try.prog 27 #[.int .i64 W, .int .i64 H] w fun e w' => e = .returned (.int .i64 (lvV W H)) ∧ Below w.heap.size w w' := by
  by_cases ha : W < 1
  · rw [show lvV W H = 0 from if_pos (.inl ha)]
    go_enter Try.func27, Try.ntmps27
    go_wp2
    go_ret
    exact ⟨rfl, Below.refl _ _⟩
  · by_cases hb : H < 1
    · rw [show lvV W H = 0 from if_pos (.inr hb)]
      have ha' : 1 ≤ W := by omega
      clear ha
      go_enter Try.func27, Try.ntmps27
      go_wp2
      go_ret
      exact ⟨rfl, Below.refl _ _⟩
    · rw [show lvV W H = (lv 63 W H : Int) from if_neg (by omega)]
      have ha' : 1 ≤ W := by omega
      have hb' : 1 ≤ H := by omega
      clear ha hb
      refine (callsIn_wide (n := 4)).1 ?_
      refine callsIn_of_wp_marks Try.func27 rfl trivial ?_ rfl
      simp only [Try.ntmps27, List.size_toArray, List.length_cons, List.length_nil, Nat.reduceAdd, Nat.reduceSub, Array.replicate_succ, Array.replicate_zero, List.push_toArray, List.append_toArray, List.nil_append, List.cons_append]
      gi_wp2_with (refine ⟨trivial, ?_⟩; gi_at_call 53; refine (sizes_in Fence.wide _ trivial rfl _ _ _).mono ?_; rintro e w' ⟨rfl, rfl⟩)
      obtain ⟨U, hU⟩ : ∃ U, U = ((w.alloc (.cells #[.int .i64 0] 3)).alloc (.cells #[.int .i64 W] 3)).alloc (.cells #[.int .i64 H] 3) := ⟨_, rfl⟩
      have uz : U.heap.size = w.heap.size + 3 := by rw [hU]; simp
      have u0 : Row U w.heap.size 3 [.int .i64 0] := hU ▸ (((Row.new w 3 [.int .i64 0]).old' _).old' _)
      have u1 : Row U (w.heap.size + 1) 3 [.int .i64 W] := by
        have := (Row.new (w.alloc (.cells #[.int .i64 0] 3)) 3 [.int .i64 W]).old' (.cells #[.int .i64 H] 3)
        rw [World.size_alloc] at this
        exact hU ▸ this
      have u2 : Row U (w.heap.size + 2) 3 [.int .i64 H] := by
        have := Row.new ((w.alloc (.cells #[.int .i64 0] 3)).alloc (.cells #[.int .i64 W] 3)) 3 [.int .i64 H]
        rw [World.size_alloc, World.size_alloc] at this
        exact hU ▸ this
      have ub : Below w.heap.size w U := hU ▸ ((((Below.refl w.heap.size w).alloc (Nat.le_refl _) _).alloc (by simp) _).alloc (by simp; omega) _)
      rw [← hU]
      clear hU
      refine range_sizes 4 (gw := w.heap.size + 1) (gh := w.heap.size + 2) (by omega) rfl rfl (by omega) ha' hW hb' hH u1 u2
        (fun s A => Row A w.heap.size 3 [.int .i64 (s.length : Int)] ∧ s.length ≤ 64 ∧ Below w.heap.size w A) (fun _ _ => False)
        (fun s A C row ⟨h1, h2, h3⟩ hg hr => ⟨h1.far hg hr (by omega) (by omega) (by omega), h2, below_far h3 h3.size hg hr (by omega) (by omega) (by omega)⟩)
        (fun _ _ _ _ h _ _ => h) ⟨u0, by simp, ub⟩
        (fun x => { tmps := #[.int .i64 W, .int .i64 H, undef, undef, .int .i64 0, .pointer (some ⟨w.heap.size, 0, none⟩), .int .i64 W, .bool (decide (W < 1)), .bool (decide (W < 1)), .int .i64 H, .bool (decide (H < 1)), .bool (decide (W < 1) || decide (H < 1)), .int .i64 W, .int .i64 H, .func (.func 61) #[] #[.pointer (some ⟨w.heap.size + 1, 0, none⟩), .pointer (some ⟨w.heap.size + 2, 0, none⟩)], .int .i64 x.1, .int .i64 x.2, undef, undef, undef], defers := [] }) ?assign ?body ?done ?stop
      case assign =>
        intro l x W1 K hK
        gi_wp2
        simpa using hK
      case body =>
        rintro l pre x W1 ⟨h1, h2, h3⟩ hpx
        have c1 := h1.cell 0 _ rfl
        have f1 := h1.frozen 0
        gi_wp2
        refine ⟨Leaves.set W1 _ (by omega) (by omega) (by omega), ?_, ?_, h3.setCell (Nat.le_refl _) _⟩
        · have := h1.set_ 0 (.int .i64 ((pre.length : Int) + 1))
          simpa using this
        · have := hpx.length_le
          have h4 := lv_le 63 W H
          rw [szL_length] at this
          omega
      case done =>
        rintro D W1 hD ⟨h1, h2, h3⟩ hK
        have c1 := h1.cell 0 _ rfl
        rw [szL_length] at c1
        gi_wp2
        refine ⟨by simp, .inl ⟨_, _, rfl, run_takeDeferred hK, ?_⟩⟩
        exact ⟨_, results_tmp rfl _ _ _, rfl, h3.trans (belowK_b (w := w) (Nat.le_refl _) W1 D _ _ (by omega) hK rfl rfl)⟩
      case stop => rintro D pre W1 _ _ _ h _; exact h.elim

set_option maxHeartbeats 2000000 in
theorem side_any (n l : Int) (w : World) (hn : n ≤ 9223372036854775807) (hl2 : l ≤ 9223372036854775807) :
    Calls Try.prog 29 #[.int .i64 n, .int .i64 l] w fun e w' => e = .returned (.int .i64 (sdV n l)) ∧ Below w.heap.size w w' := by
  have b2 : Below w.heap.size w ((w.alloc (.cells #[.int .i64 l] 3)).alloc (.cells #[.int .i64 0] 3)) := ((Below.refl w.heap.size w).alloc (Nat.le_refl _) _).alloc (by simp) _
  have r2 : Row ((w.alloc (.cells #[.int .i64 l] 3)).alloc (.cells #[.int .i64 0] 3)) (w.heap.size + 1) 3 [.int .i64 0] := by
    have := Row.new (w.alloc (.cells #[.int .i64 l] 3)) 3 [.int .i64 0]
    rwa [World.size_alloc] at this
  have B2 := Lib.hid b2
  have R2 := Lib.hid r2
  clear b2 r2
  by_cases ha : n < 1
  · rw [show sdV n l = 0 from if_pos (.inl ha)]
    go_enter Try.func29, Try.ntmps29
    go_wp2
    refine bodyPost_ret (results_cell1 rfl _ rfl (R2.out.cell 0 _ rfl) Try.underlying3) rfl ?_
    exact ⟨rfl, B2.out⟩
  · by_cases hb : l < 0
    · rw [show sdV n l = 0 from if_pos (.inr hb)]
      have ha' : 1 ≤ n := by omega
      clear ha
      go_enter Try.func29, Try.ntmps29
      go_wp2
      refine bodyPost_ret (results_cell1 rfl _ rfl (R2.out.cell 0 _ rfl) Try.underlying3) rfl ?_
      exact ⟨rfl, B2.out⟩
    · rw [show sdV n l = hvN l.toNat n from if_neg (by omega)]
      have ha' : 1 ≤ n := by omega
      have hb' : 0 ≤ l := by omega
      clear ha hb
      refine (callsIn_wide (n := 4)).1 ?_
      refine callsIn_of_wp_marks Try.func29 rfl trivial ?_ rfl
      simp only [Try.ntmps29, List.size_toArray, List.length_cons, List.length_nil, Nat.reduceAdd, Nat.reduceSub, Array.replicate_succ, Array.replicate_zero, List.push_toArray, List.append_toArray, List.nil_append, List.cons_append]
      gi_wp2_with (refine ⟨trivial, ?_⟩; gi_at_call 53; refine (sizes_in Fence.wide _ trivial rfl _ _ _).mono ?_; rintro e w' ⟨rfl, rfl⟩)
      obtain ⟨U, hU⟩ : ∃ U, U = ((((w.alloc (.cells #[.int .i64 l] 3)).alloc (.cells #[.int .i64 0] 3)).alloc (.cells #[.int .i64 0] 3)).alloc (.cells #[.int .i64 n] 3)).alloc (.cells #[.int .i64 1] 3) := ⟨_, rfl⟩
      have uz : U.heap.size = w.heap.size + 5 := by rw [hU]; simp
      have u0 : Row U w.heap.size 3 [.int .i64 l] := hU ▸ (((((Row.new w 3 [.int .i64 l]).old' _).old' _).old' _).old' _)
      have u1 : Row U (w.heap.size + 1) 3 [.int .i64 0] := by
        have := (((Row.new (w.alloc (.cells #[.int .i64 l] 3)) 3 [.int .i64 0]).old' (.cells #[.int .i64 0] 3)).old' (.cells #[.int .i64 n] 3)).old' (.cells #[.int .i64 1] 3)
        rw [World.size_alloc] at this
        exact hU ▸ this
      have u2 : Row U (w.heap.size + 2) 3 [.int .i64 0] := by
        have := ((Row.new ((w.alloc (.cells #[.int .i64 l] 3)).alloc (.cells #[.int .i64 0] 3)) 3 [.int .i64 0]).old' (.cells #[.int .i64 n] 3)).old' (.cells #[.int .i64 1] 3)
        rw [World.size_alloc, World.size_alloc] at this
        exact hU ▸ this
      have u3 : Row U (w.heap.size + 3) 3 [.int .i64 n] := by
        have := (Row.new (((w.alloc (.cells #[.int .i64 l] 3)).alloc (.cells #[.int .i64 0] 3)).alloc (.cells #[.int .i64 0] 3)) 3 [.int .i64 n]).old' (.cells #[.int .i64 1] 3)
        rw [World.size_alloc, World.size_alloc, World.size_alloc] at this
        exact hU ▸ this
      have u4 : Row U (w.heap.size + 4) 3 [.int .i64 1] := by
        have := Row.new ((((w.alloc (.cells #[.int .i64 l] 3)).alloc (.cells #[.int .i64 0] 3)).alloc (.cells #[.int .i64 0] 3)).alloc (.cells #[.int .i64 n] 3)) 3 [.int .i64 1]
        rw [World.size_alloc, World.size_alloc, World.size_alloc, World.size_alloc] at this
        exact hU ▸ this
      have ub : Below w.heap.size w U := hU ▸ ((((((Below.refl w.heap.size w).alloc (Nat.le_refl _) _).alloc (by simp) _).alloc (by simp; omega) _).alloc (by simp; omega) _).alloc (by simp; omega) _)
      rw [← hU]
      clear hU B2 R2
      refine range_sizes 4 (gw := w.heap.size + 3) (gh := w.heap.size + 4) (W0 := n) (H0 := 1) (by omega) rfl rfl (by omega) ha' hn (by omega) (by omega) u3 u4
        (fun s A => Row A w.heap.size 3 [.int .i64 l] ∧ Row A (w.heap.size + 1) 3 [.int .i64 0] ∧ Row A (w.heap.size + 2) 3 [.int .i64 (s.length : Int)] ∧ (s.length ≤ 64 ∧ (s.length : Int) ≤ l) ∧ Below w.heap.size w A)
        (fun s A => ∃ x : Int × Int, s[s.length - 1]? = some x ∧ (s.length : Int) = l + 1 ∧ Row A (w.heap.size + 1) 3 [.int .i64 x.1] ∧ Below w.heap.size w A)
        (fun s A C row ⟨h1, h2, h3, h4, h5⟩ hg hr => ⟨h1.far hg hr (by omega) (by omega) (by omega), h2.far hg hr (by omega) (by omega) (by omega), h3.far hg hr (by omega) (by omega) (by omega), h4, below_far h5 h5.size hg hr (by omega) (by omega) (by omega)⟩)
        (fun s A C row ⟨x, h1, h2, h3, h4⟩ hg hr => ⟨x, h1, h2, h3.far hg hr (by omega) (by omega) (by omega), below_far h4 h4.size hg hr (by omega) (by omega) (by omega)⟩) ⟨u0, u1, u2, by simpa using hb', ub⟩
        (fun x => { tmps := #[.int .i64 n, .int .i64 l, undef, .pointer (some ⟨w.heap.size, 0, none⟩), .pointer (some ⟨w.heap.size + 1, 0, none⟩), .pointer (some ⟨w.heap.size + 2, 0, none⟩), .int .i64 x.1, .int .i64 n, .bool (decide (n < 1)), .bool (decide (n < 1)), .int .i64 l, .bool (decide (l < 0)), .bool (decide (n < 1) || decide (l < 0)), .int .i64 n, .func (.func 61) #[] #[.pointer (some ⟨w.heap.size + 3, 0, none⟩), .pointer (some ⟨w.heap.size + 4, 0, none⟩)], .int .i64 x.1, .int .i64 x.2, undef, undef, undef, undef, undef, undef], defers := [] }) ?assign ?body ?done ?stop
      case assign =>
        intro l1 x W1 K hK
        gi_wp2
        simpa using hK
      case body =>
        rintro l1 pre x W1 ⟨h1, h2, h3, ⟨h4, h5⟩, h6⟩ hpx
        have c1 := h1.cell 0 _ rfl
        have c2 := h2.cell 0 _ rfl
        have f2 := h2.frozen 0
        have c3 := h3.cell 0 _ rfl
        have f3 := h3.frozen 0
        have hlen := hpx.length_le
        have h7 := lv_le 63 n 1
        rw [szL_length] at hlen
        rw [List.length_append] at hlen
        simp only [List.length_cons, List.length_nil] at hlen
        by_cases hq : (pre.length : Int) = l
        · have hqb : ((pre.length : Int) == l) = true := by simp [hq]
          gi_wp2
          refine ⟨Leaves.set W1 _ (by omega) (by omega) (by omega), x, by simp, by simp; omega, h2.set_ 0 _, h6.setCell (by show w.heap.size ≤ w.heap.size + 1; omega) _⟩
        · have hqb : ((pre.length : Int) == l) = false := by simp [hq]
          gi_wp2
          refine ⟨Leaves.set W1 _ (by omega) (by omega) (by omega), (heap_setCell_other W1 ⟨w.heap.size + 2, 0, none⟩ w.heap.size _ (by show w.heap.size ≠ w.heap.size + 2; omega)).trans h1, (heap_setCell_other W1 ⟨w.heap.size + 2, 0, none⟩ (w.heap.size + 1) _ (by show w.heap.size + 1 ≠ w.heap.size + 2; omega)).trans h2, ?_, ⟨by simp; omega, by simp; omega⟩, h6.setCell (by show w.heap.size ≤ w.heap.size + 2; omega) _⟩
          have := h3.set_ 0 (.int .i64 ((pre.length : Int) + 1))
          simpa using this
      case done =>
        rintro D W1 hD ⟨h1, h2, h3, ⟨h4, h5⟩, h6⟩ hK
        have c2 := h2.cell 0 _ rfl
        have f2 := h2.frozen 0
        have hv1 := Lib.hid (hvN_late ha' hn (k := l.toNat) (by omega))
        clear h4 h5
        gi_wp2
        have r2 := h2.set_ 0 (.int .i64 1)
        have hK' : (W1.setCell ⟨w.heap.size + 1, 0, none⟩ (.int .i64 1)).heap[D]? = some (.deferred (some [])) := (heap_setCell_other W1 ⟨w.heap.size + 1, 0, none⟩ D _ (by show D ≠ w.heap.size + 1; omega)).trans hK
        refine ⟨by simp, .inl ⟨_, _, rfl, run_takeDeferred hK', ?_⟩⟩
        have r3 : Row ((W1.setCell ⟨w.heap.size + 1, 0, none⟩ (.int .i64 1)).putObj D (.deferred none)) (w.heap.size + 1) 3 [.int .i64 1] := (World.putObj_heap_other (by omega)).trans r2
        refine ⟨_, results_cell1 rfl _ rfl (r3.cell 0 _ rfl) Try.underlying3, ret_int hv1.out.symm, ?_⟩
        exact (h6.setCell (by show w.heap.size ≤ w.heap.size + 1; omega) _).trans (belowK_b (w := w) (Nat.le_refl _) _ D _ _ (by omega) hK' rfl rfl)
      case stop =>
        rintro D pre W1 hD hpre hne ⟨x, hx, hlen, h2, h6⟩ hK
        have hval : x.1 = hvN l.toNat n := by
          have e1 : pre.length - 1 = l.toNat := by omega
          have hlt : l.toNat < pre.length := by omega
          have e2 : (szL 63 n 1)[l.toNat]? = pre[l.toNat]? := by
            obtain ⟨t, ht⟩ := hpre
            rw [← ht, List.getElem?_append_left hlt]
          have hll := hpre.length_le
          rw [szL_get 63 n 1 l.toNat (by omega)] at e2
          rw [e1, ← e2] at hx
          cases hx
          rfl
        have HV := Lib.hid hval
        clear hval hx
        gi_wp2
        refine ⟨by simp, .inl ⟨_, _, rfl, run_takeDeferred hK, ?_⟩⟩
        have r3 : Row (W1.putObj D (.deferred none)) (w.heap.size + 1) 3 [.int .i64 x.1] := (World.putObj_heap_other (by omega)).trans h2
        exact ⟨_, results_cell1 rfl _ rfl (r3.cell 0 _ rfl) Try.underlying3, ret_int HV.out, h6.trans (belowK_b (w := w) (Nat.le_refl _) W1 D _ _ (by omega) hK rfl rfl)⟩
end Go.Proofs.Ytbpdaijmclcbdaa
