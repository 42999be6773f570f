/- The iterator of package mip: it goes through the sizes, halving. -/
import Derived.RangeFuncNested
import Derived.RangeFuncBound
import Derived.RangeFuncCalls
import Derived.RangeFuncLeaves
import Derived.Shelf.Abstract
import Derived.Shelf.RegionOpen
import Derived.WalkKit
import Derived.OwnWalkIn
import Derived.TacticsInMore
import Derived.LoopNIn
import Derived.LoopIn
import Derived.Test.YtbpdaijmclcbdaaMpRef
import Derived.Test.YtbpdaijmclcbdaaInts
namespace Go.Proofs.Ytbpdaijmclcbdaa
open Go.RowKit Go.Shelf
open Im Mp
attribute [local go_sem] Oper.semAt_some

namespace Mp
/-- The sizes, one after another. -/
def szL : Nat → Int → Int → List (Int × Int)
  | 0, w, h => [(w, h)]
  | f + 1, w, h => (w, h) :: if goes w h then szL f (hv w) (hv h) else []
theorem szL_length : ∀ f w h, (szL f w h).length = lv f w h
  | 0, _, _ => rfl
  | f + 1, w, h => by
    unfold szL lv
    split
    · rw [List.length_cons, szL_length f]
    · rfl
end Mp

theorem two_set {W : World} {gw gh : Nat} {t : TypeId} {a b : Value} (hne : gw ≠ gh) (h1 : Row W gw t [a]) (h2 : Row W gh t [b]) (X Y : Int) :
    Row ((W.setCell ⟨gw, 0, none⟩ (.int .i64 X)).setCell ⟨gh, 0, none⟩ (.int .i64 Y)).drew gw t [.int .i64 X] ∧ Row ((W.setCell ⟨gw, 0, none⟩ (.int .i64 X)).setCell ⟨gh, 0, none⟩ (.int .i64 Y)).drew gh t [.int .i64 Y] ∧
    ((W.setCell ⟨gw, 0, none⟩ (.int .i64 X)).setCell ⟨gh, 0, none⟩ (.int .i64 Y)).drew.cell? ⟨gw, 0, none⟩ = some (.int .i64 X) ∧ ((W.setCell ⟨gw, 0, none⟩ (.int .i64 X)).setCell ⟨gh, 0, none⟩ (.int .i64 Y)).drew.cell? ⟨gh, 0, none⟩ = some (.int .i64 Y) := by
  have r1 : Row ((W.setCell ⟨gw, 0, none⟩ (.int .i64 X)).setCell ⟨gh, 0, none⟩ (.int .i64 Y)).drew gw t [.int .i64 X] :=
    (heap_setCell_other _ ⟨gh, 0, none⟩ gw _ hne).trans (h1.set_ 0 (.int .i64 X))
  have r2 : Row ((W.setCell ⟨gw, 0, none⟩ (.int .i64 X)).setCell ⟨gh, 0, none⟩ (.int .i64 Y)).drew gh t [.int .i64 Y] :=
    Row.set_ ((heap_setCell_other W ⟨gw, 0, none⟩ gh _ (fun e => hne e.symm)).trans h2) 0 (.int .i64 Y)
  exact ⟨r1, r2, r1.cell 0 _ rfl, r2.cell 0 _ rfl⟩
theorem sizes_in (F : Fence) (n : Nat) (hf : F.fn 53) (hro : F.round = none) (W H : Int) (w : World) :
    CallsIn F n Try.prog 53 #[.int .i64 W, .int .i64 H] w fun e w' => e = .returned (.func (.func 61) #[] #[.pointer (some ⟨w.heap.size, 0, none⟩), .pointer (some ⟨w.heap.size + 1, 0, none⟩)]) ∧ w' = (w.alloc (.cells #[.int .i64 W] 3)).alloc (.cells #[.int .i64 H] 3) := by
  refine callsIn_of_wp Try.func53 rfl hf ?_ hro
  simp only [Try.ntmps53, List.size_toArray, List.length_cons, List.length_nil, Nat.reduceAdd, Nat.reduceSub, Array.replicate_succ, Array.replicate_zero, List.push_toArray, List.append_toArray, List.nil_append, List.cons_append]
  gi_wp2
  go_ret
  exact ⟨rfl, rfl⟩

set_option maxHeartbeats 2000000 in
theorem sizes1_in (F : Fence) (n : Nat) (hf : F.fn 61) (hro : F.round = none) (hn : 1 ≤ n) (l gw gh : Nat) (hne : gw ≠ gh) (J Jx : List (Int × Int) → World → Prop)
    (hset : ∀ pre W v p, (p = gw ∨ p = gh) → J pre W → J pre (W.setCell ⟨p, 0, none⟩ v)) (hdr : ∀ pre W, J pre W → J pre W.drew)
    (W0 H0 : Int)
    (hY : ∀ pre (x : Int × Int) W, J pre W → pre ++ [x] <+: szL 63 W0 H0 → YieldAt F (n - 1) Try.prog l #[.int .i64 x.1, .int .i64 x.2] W fun e W' =>
      (e = .returned (.bool true) ∧ J (pre ++ [x]) W' ∧ W'.heap[gw]? = W.heap[gw]? ∧ W'.heap[gh]? = W.heap[gh]?) ∨ (e = .returned (.bool false) ∧ Jx (pre ++ [x]) W'))
    (hW1 : 1 ≤ W0) (hW2 : W0 ≤ 9223372036854775807) (hH1 : 1 ≤ H0) (hH2 : H0 ≤ 9223372036854775807) (W : World) (hw : Row W gw 3 [.int .i64 W0]) (hh : Row W gh 3 [.int .i64 H0]) (h0 : J [] W) :
    CallsIn F n Try.prog 61 #[.func (.yield l) #[] #[], .pointer (some ⟨gw, 0, none⟩), .pointer (some ⟨gh, 0, none⟩)] W fun e W' => (∃ v, e = .returned v) ∧
      (J (szL 63 W0 H0) W' ∨ ∃ pre, pre <+: szL 63 W0 H0 ∧ pre ≠ [] ∧ Jx pre W') := by
  refine callsIn_of_wp Try.func61 rfl hf ?_ hro
  simp only [Try.ntmps61, List.size_toArray, List.length_cons, List.length_nil, Nat.reduceAdd, Nat.reduceSub, Array.replicate_succ, Array.replicate_zero, List.push_toArray, List.append_toArray, List.nil_append, List.cons_append]
  gi_wp2
  gi_loopw [4] (fun p wr => ∃ (pre : List (Int × Int)) (f : Nat) (X Y : Int), Row wr gw 3 [.int .i64 X] ∧ Row wr gh 3 [.int .i64 Y] ∧ J pre wr ∧ szL 63 W0 H0 = pre ++ szL f X Y ∧ 1 ≤ X ∧ X ≤ 9223372036854775807 ∧ 1 ≤ Y ∧ Y ≤ 9223372036854775807 ∧ X < 2 ^ (f + 1) ∧ Y < 2 ^ (f + 1))
    (fun _ wr => (intOf ((wr.cell? ⟨gw, 0, none⟩).getD undef)).toNat + (intOf ((wr.cell? ⟨gh, 0, none⟩).getD undef)).toNat)
  case atStart => exact ⟨[], 63, W0, H0, hw, hh, h0, rfl, hW1, hW2, hH1, hH2, by rw [pow63]; omega, by rw [pow63]; omega⟩
  case round =>
    obtain ⟨pre, f, X, Y, hX, hY', hJ, hsz, x1, x2, y1, y2, hxf, hyf⟩ := hrel
    have cX := hX.cell 0 _ rfl
    have cY := hY'.cell 0 _ rfl
    by_cases hg : goes X Y
    · obtain ⟨f', rfl, _, hx3, hy3⟩ := lv_step hg x1 y1 hxf hyf
      have hsz' : szL 63 W0 H0 = (pre ++ [(X, Y)]) ++ szL f' (hv X) (hv Y) := by rw [hsz, szL, if_pos hg]; simp
      have hpre : pre ++ [(X, Y)] <+: szL 63 W0 H0 := ⟨_, hsz'.symm⟩
      obtain ⟨fn, tmps, assign, body, hy, hR⟩ := hY pre (X, Y) wr hJ hpre
      dsimp only at hy
      have HS := Lib.hid hsz'
      have HR := Lib.hid hR
      have HP := Lib.hid hpre
      have hm : (hv X).toNat + (hv Y).toNat < X.toNat + Y.toNat := by
        have l1 := hv_le x1
        have l2 := hv_le y1
        have p1 := hv_pos X
        have p2 := hv_pos Y
        rcases hg with h | h
        · have := hv_lt h; omega
        · have := hv_lt h; omega
      have HM := Lib.hid hm
      have HX := Lib.hid hX
      have HY := Lib.hid hY'
      have l1 := hv_le x1
      have l2 := hv_le y1
      have p1 := hv_pos X
      have p2 := hv_pos Y
      have HV := Lib.hid (show hv X = (if X / 2 < 1 then 1 else X / 2) ∧ hv Y = (if Y / 2 < 1 then 1 else Y / 2) from ⟨rfl, rfl⟩)
      clear hsz hsz' hR hpre hm hX hY'
      have hgc : 1 < X ∨ (X ≤ 1 ∧ 1 < Y) := by unfold goes at hg; omega
      clear hg HV
      have HN := Lib.hid hne
      have qx : IntKind.i64.wrap (X.tdiv 2) = X / 2 := by rw [Int.tdiv_eq_ediv_of_nonneg (by omega)]; exact IntWalk.i64_in _ (by omega)
      have qy : IntKind.i64.wrap (Y.tdiv 2) = Y / 2 := by rw [Int.tdiv_eq_ediv_of_nonneg (by omega)]; exact IntWalk.i64_in _ (by omega)
      rcases hgc with hgx | ⟨hgx, hgy⟩ <;>
      · gi_wp2
        refine HR.out.mono ?_
        rintro e W3 (⟨rfl, hJ3, hk1, hk2⟩ | ⟨rfl, hJx3⟩)
        · have RX := Lib.hid (show Row W3 gw 3 [.int .i64 X] from hk1.trans HX.out)
          have RY := Lib.hid (show Row W3 gh 3 [.int .i64 Y] from hk2.trans HY.out)
          have c1 := RX.out.cell 0 _ rfl
          have c2 := RY.out.cell 0 _ rfl
          have f1 := RX.out.frozen 0
          have f2 := RY.out.frozen 0
          have hne2 : gh ≠ gw := fun e => HN.out e.symm
          clear hk1 hk2
          gi_wp2
          gi_region
          all_goals
            gi_wp2
            obtain ⟨T1, T2, T3, T4⟩ := two_set hne RX.out RY.out (hv X) (hv Y)
            refine ⟨⟨pre ++ [(X, Y)], f', hv X, hv Y, T1, T2, hdr _ _ (hset _ _ _ gh (.inr rfl) (hset _ _ _ gw (.inl rfl) hJ3)), HS.out, p1, by omega, p2, by omega, hx3, hy3⟩, ?_⟩
            have e3 := HX.out.cell 0 _ rfl
            have e4 := HY.out.cell 0 _ rfl
            unfold hv at T3 T4
            rw [T3, T4, e3, e4]
            exact HM.out
        · gi_wp2
          go_end0
          exact ⟨⟨_, rfl⟩, .inr ⟨_, HP.out, by simp, hJx3⟩⟩
    · have hgx : X ≤ 1 := by unfold goes at hg; omega
      have hgy : Y ≤ 1 := by unfold goes at hg; omega
      have hsz' : szL 63 W0 H0 = pre ++ [(X, Y)] := by
        rw [hsz]
        cases f with
        | zero => rfl
        | succ f => rw [szL, if_neg hg]
      obtain ⟨fn, tmps, assign, body, hy, hR⟩ := hY pre (X, Y) wr hJ (by rw [hsz']; exact List.prefix_rfl)
      dsimp only at hy
      have HS := Lib.hid hsz'
      have HR := Lib.hid hR
      have HX := Lib.hid hX
      have HY := Lib.hid hY'
      clear hsz hsz' hR hX hY' hg
      gi_wp2
      refine HR.out.mono ?_
      rintro e W3 (⟨rfl, hJ3, hk1, hk2⟩ | ⟨rfl, hJx3⟩)
      · have RX := Lib.hid (show Row W3 gw 3 [.int .i64 X] from hk1.trans HX.out)
        have RY := Lib.hid (show Row W3 gh 3 [.int .i64 Y] from hk2.trans HY.out)
        have c1 := RX.out.cell 0 _ rfl
        have c2 := RY.out.cell 0 _ rfl
        clear hk1 hk2
        gi_wp2
        go_end0
        exact ⟨⟨_, rfl⟩, .inl (by rw [HS.out]; exact hJ3)⟩
      · gi_wp2
        go_end0
        exact ⟨⟨_, rfl⟩, .inr ⟨_, by rw [HS.out]; exact List.prefix_rfl, by simp, hJx3⟩⟩
end Go.Proofs.Ytbpdaijmclcbdaa
