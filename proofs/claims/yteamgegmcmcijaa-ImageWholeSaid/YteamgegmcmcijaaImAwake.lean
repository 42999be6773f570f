/- The laws' own small case: 'awake' answers true. -/
import Derived.Test.YteamgegmcmcijaaImEq
import Derived.Great.BuildSlice
namespace Go.Proofs.Yteamgegmcmcijaa
open Go.RowKit
open Im

namespace Im
def aZ : List Nat := List.replicate 80 0
def aT : List Int := [300, 2, -3, 4]
def aY : List Nat := put aZ (plc 5 4 2) aT
def aG : List Int := gatV 5 4 aY 1 0
theorem a_right : rightP 5 4 80 := by decide
theorem a_at : atP 5 4 aZ 4 2 := by decide
theorem aY_length : aY.length = 80 := by simp [aY, put_length', aZ]
theorem a_has : hasP 5 4 aY.length 1 0 := by rw [aY_length]; decide
theorem a_rightY : rightP 5 4 aY.length := by rw [aY_length]; decide
theorem aG_length : aG.length = 64 := gatV_length _ _ _ _ _
theorem aG8 : tx aG 8 = [255, 2, 0, 4] := by decide
theorem aG11 : tx aG 11 = [255, 2, 0, 4] := by decide
theorem aG0 : tx aG 0 = [0, 0, 0, 0] := by decide
theorem aZ_flat : flatB z64 16 = true := by decide
theorem aG_flat : flatB aG 16 = false := flatB_false (k := 8) (by omega) (by rw [aG8, aG0]; decide)
theorem aYZ : aZ ≠ aY := by decide
theorem a_tl : tl 5 4 = 2 ∧ tl 4 5 = 1 := by decide
end Im

theorem built_aT (w : World) : (Instr.build 30 #[(0, .int .i64 300), (1, .int .i64 2), (2, .int .i64 (-3)), (3, .int .i64 4)]).run Try.prog w = .ok (arr aT) w := run_build w _ _ _ (by kernel_rfl)

structure KnA (w w1 w2 w3 : World) (g : Nat) (A2 : Option Addr) (c2 : Nat) (xZ xY : List Nat) (xG : List Int) (u : World) : Prop where
  r1 : Row u w1.heap.size 24 (imL 5 4 (some ⟨g, 0, none⟩) 80 80)
  r2 : Row u w2.heap.size 24 (imL 5 4 A2 80 c2)
  r3 : Row u w3.heap.size 32 (i64s xG)
  i1 : Img u (img 5 4 (some ⟨g, 0, none⟩) 80 80) 5 4 xZ
  i2 : Img u (img 5 4 A2 80 c2) 5 4 xY
  bel : Below w.heap.size w u
theorem KnA.later {w w1 w2 w3 : World} {g : Nat} {A2 : Option Addr} {c2 : Nat} {xZ xY : List Nat} {xG : List Int} {u u' : World} (h : KnA w w1 w2 w3 g A2 c2 xZ xY xG u) (hb : Below u.heap.size u u') : KnA w w1 w2 w3 g A2 c2 xZ xY xG u' :=
  ⟨h.r1.below hb h.r1.lt, h.r2.below hb h.r2.lt, h.r3.below hb h.r3.lt, h.i1.later hb, h.i2.later hb, h.bel.trans (hb.mono h.bel.size)⟩

set_option maxHeartbeats 2000000 in
theorem awake_any (w : World) : Calls Try.prog 8 #[] w fun e w' => e = .returned (.bool true) ∧ Below w.heap.size w w' := by
  have hN := Lib.hid (fun w => new_ok 5 4 80 w a_right)
  have hP := Lib.hid (fun (u : World) (v : Value) (h : Img u v 5 4 aZ) => put_any v 5 4 aZ 4 2 aT u h rfl)
  simp only [show ∀ z, putW (atP 5 4 aZ 4 2) z = z from fun z => if_pos a_at, show ∀ z, putX (atP 5 4 aZ 4 2) z = z from fun z => if_pos a_at, show noE (atP 5 4 aZ 4 2) = 0 from if_pos a_at, show put aZ (plc 5 4 2) aT = aY from rfl] at hP
  have hG := Lib.hid (fun (u : World) (v : Value) (h : Img u v 5 4 aY) => gather_any v 5 4 aY 1 0 u h (by omega) (by omega))
  rw [show gatV 5 4 aY 1 0 = aG from rfl, show noE (hasP 5 4 aY.length 1 0) = 0 from if_pos a_has] at hG
  have hT := Lib.hid (fun u => tiles_any 5 4 u (by omega) (by omega))
  rw [a_tl.1, a_tl.2] at hT
  have hbT := built_aT
  have LG := Lib.hid (show aG.length = z64.length from by rw [aG_length, z64_length])
  have LS := Lib.hid (show (Try.prog.info? 32).map (·.size) = some aG.length from by rw [aG_length]; exact size_tile)
  have hz := Lib.hid (fun w => Row.zero64 w 32)
  obtain ⟨xZ, hxZ⟩ : ∃ xZ, xZ = aZ := ⟨_, rfl⟩
  obtain ⟨xY, hxY⟩ : ∃ xY, xY = aY := ⟨_, rfl⟩
  obtain ⟨xG, hxG⟩ : ∃ xG, xG = aG := ⟨_, rfl⟩
  rw [show List.replicate 80 0 = xZ from hxZ.symm] at hN
  rw [← hxZ, ← hxY] at hP
  rw [← hxY, ← hxG] at hG
  rw [← hxG] at LG LS
  have LY := Lib.hid (show xY.length = 80 from by rw [hxY]; exact aY_length)
  have LZ := Lib.hid (show xZ.length = 80 from by rw [hxZ]; rfl)
  have HZ := Lib.hid hxZ
  have HY := Lib.hid hxY
  have HG := Lib.hid hxG
  clear hxZ hxY hxG
  go_enter Try.func8, Try.ntmps8
  go_wp2_with (first
    | (go_at_call 33; with_reducible refine (hN.out _).mono ?_; rintro e w1 ⟨g, rfl, hg, hpx, hb⟩; have B1 := Lib.hid (hb.alloc hb.size (.cells (imL 5 4 (some ⟨g, 0, none⟩) 80 80).toArray 24)); have R1 := Lib.hid (Row.new w1 24 (imL 5 4 (some ⟨g, 0, none⟩) 80 80)); have I1 := Lib.hid (Img.of_pix (W := 5) (H := 4) (c := 80) (hpx.old (.cells (imL 5 4 (some ⟨g, 0, none⟩) 80 80).toArray 24)) LZ.out (by omega)); clear hb hpx hg)
    | (go_at_call 34; refine (hP.out _ _ I1.out).mono ?_; rintro e w2 ⟨v2, rfl, hImg, hb⟩; obtain ⟨A2, n2, c2, rfl, hn2, hB2⟩ := hImg; obtain rfl : n2 = 80 := hB2.1.symm.trans LY.out; have B2 := Lib.hid ((B1.out.trans (hb.mono B1.out.size)).alloc (Nat.le_trans B1.out.size hb.size) (.cells (imL 5 4 A2 80 c2).toArray 24)); have I2 := Lib.hid ((I1.out.later hb).later (Below.box w2 (.cells (imL 5 4 A2 80 c2).toArray 24))); have R2 := Lib.hid ((R1.out.below hb R1.out.lt).old (.cells (imL 5 4 A2 80 c2).toArray 24)); have J2 := Lib.hid (show Img _ (img 5 4 A2 80 c2) 5 4 xY from ⟨A2, 80, c2, rfl, hn2, (hB2.below (Below.box w2 (.cells (imL 5 4 A2 80 c2).toArray 24))).more (Below.box w2 (.cells (imL 5 4 A2 80 c2).toArray 24)).size⟩); have Q2 := Lib.hid (Row.new w2 24 (imL 5 4 A2 80 c2)); have z12 := Lib.hid hb.size; clear hb hB2 hn2)
    | (go_at_call 10; refine (hG.out _ _ J2.out).mono ?_; rintro e w3 ⟨rfl, hb⟩; have B3 := Lib.hid ((B2.out.trans (hb.mono B2.out.size)).alloc (Nat.le_trans B2.out.size hb.size) (.cells (i64s z64).toArray 32)); have I3' := Lib.hid (I2.out.later hb); have J3' := Lib.hid (J2.out.later hb); have R3 := Lib.hid ((R2.out.below hb R2.out.lt).old (.cells (i64s z64).toArray 32)); have Q3 := Lib.hid ((Q2.out.below hb Q2.out.lt).old (.cells (i64s z64).toArray 32)); have z23 := Lib.hid hb.size; clear hb)
    | (with_reducible refine wpList_store_ints rfl 32 (.tmp 5) (.tmp 22) rfl rfl w3.heap.size rfl xG rfl 32 z64 (hz.out w3) LS.out LG.out ?_; intro w4 hr4))
  have hne12 : w1.heap.size < w3.heap.size := by have h1 := R3.out.lt; rw [World.size_alloc] at h1; have h2 := z12.out; have h3 := z23.out; rw [World.size_alloc] at h2 h3; omega
  have hne23 : w2.heap.size < w3.heap.size := by have h3 := z23.out; rw [World.size_alloc] at h3; omega
  have hb4 : Below w3.heap.size w3 w4 := hr4.below _ _ (Nat.le_refl _) (Below.box w3 _)
  have K4 : KnA w w1 w2 w3 g A2 c2 xZ xY xG w4 := ⟨hr4.keep (by omega) R3.out, hr4.keep (by omega) Q3.out, hr4.row, I3'.out.later hb4, J3'.out.later hb4, hr4.below _ _ (Nat.le_trans B2.out.size z23.out) B3.out⟩
  have HK := Lib.hid K4
  clear K4 hb4 hr4 R1 R2 R3 Q2 Q3 I1 I2 I3' J2 J3' B1 B2 B3 z12 z23 hN hP hG hz LS LG hbT
  have q1 : ∀ u, (Op.equalIn 10000 30 (.agg #[.int .i64 255, .int .i64 2, .int .i64 0, .int .i64 4]) (.agg #[.int .i64 255, .int .i64 2, .int .i64 0, .int .i64 4])).run Try.prog u = .ok true u := fun u => eq_texel [255, 2, 0, 4] [255, 2, 0, 4] rfl rfl u
  have q0 : ∀ u, (Op.equalIn 10000 30 (.agg #[.int .i64 0, .int .i64 0, .int .i64 0, .int .i64 0]) (.agg #[.int .i64 0, .int .i64 0, .int .i64 0, .int .i64 0])).run Try.prog u = .ok true u := fun u => eq_texel [0, 0, 0, 0] [0, 0, 0, 0] rfl rfl u
  have t32 : w4.cell? ⟨w3.heap.size, 32, none⟩ = some (.int .i64 255) := by have h := HK.out.r3.int 32 (by rw [HG.out, aG_length]; omega); rw [HG.out] at h; exact h
  have t33 : w4.cell? ⟨w3.heap.size, 33, none⟩ = some (.int .i64 2) := by have h := HK.out.r3.int 33 (by rw [HG.out, aG_length]; omega); rw [HG.out] at h; exact h
  have t34 : w4.cell? ⟨w3.heap.size, 34, none⟩ = some (.int .i64 0) := by have h := HK.out.r3.int 34 (by rw [HG.out, aG_length]; omega); rw [HG.out] at h; exact h
  have t35 : w4.cell? ⟨w3.heap.size, 35, none⟩ = some (.int .i64 4) := by have h := HK.out.r3.int 35 (by rw [HG.out, aG_length]; omega); rw [HG.out] at h; exact h
  have t44 : w4.cell? ⟨w3.heap.size, 44, none⟩ = some (.int .i64 255) := by have h := HK.out.r3.int 44 (by rw [HG.out, aG_length]; omega); rw [HG.out] at h; exact h
  have t45 : w4.cell? ⟨w3.heap.size, 45, none⟩ = some (.int .i64 2) := by have h := HK.out.r3.int 45 (by rw [HG.out, aG_length]; omega); rw [HG.out] at h; exact h
  have t46 : w4.cell? ⟨w3.heap.size, 46, none⟩ = some (.int .i64 0) := by have h := HK.out.r3.int 46 (by rw [HG.out, aG_length]; omega); rw [HG.out] at h; exact h
  have t47 : w4.cell? ⟨w3.heap.size, 47, none⟩ = some (.int .i64 4) := by have h := HK.out.r3.int 47 (by rw [HG.out, aG_length]; omega); rw [HG.out] at h; exact h
  have t0 : w4.cell? ⟨w3.heap.size, 0, none⟩ = some (.int .i64 0) := by have h := HK.out.r3.int 0 (by rw [HG.out, aG_length]; omega); rw [HG.out] at h; exact h
  have t1 : w4.cell? ⟨w3.heap.size, 1, none⟩ = some (.int .i64 0) := by have h := HK.out.r3.int 1 (by rw [HG.out, aG_length]; omega); rw [HG.out] at h; exact h
  have t2 : w4.cell? ⟨w3.heap.size, 2, none⟩ = some (.int .i64 0) := by have h := HK.out.r3.int 2 (by rw [HG.out, aG_length]; omega); rw [HG.out] at h; exact h
  have t3 : w4.cell? ⟨w3.heap.size, 3, none⟩ = some (.int .i64 0) := by have h := HK.out.r3.int 3 (by rw [HG.out, aG_length]; omega); rw [HG.out] at h; exact h
  have LS := Lib.hid (show (Try.prog.info? 32).map (·.size) = some xG.length from by rw [HG.out, aG_length]; exact size_tile)
  have hRt := Lib.hid (fun (u : World) => right_any 5 4 A2 80 c2 u (by omega))
  rw [decide_eq_true a_right] at hRt
  have hF0 := Lib.hid (fun (u : World) => flat_any z64 u z64_length)
  rw [aZ_flat] at hF0
  have hF1 := Lib.hid (fun (u : World) => flat_any xG u (by rw [HG.out]; exact aG_length))
  rw [HG.out, aG_flat, ← HG.out] at hF1
  have hS0 := Lib.hid (fun (u : World) (h : Img u (img 5 4 (some ⟨g, 0, none⟩) 80 80) 5 4 xZ) => isame_any _ _ 5 4 5 4 xZ xZ u h h)
  rw [decide_eq_true (show sameP 5 4 5 4 xZ xZ from ⟨rfl, rfl, rfl⟩)] at hS0
  have hS1 := Lib.hid (fun (u : World) (h : Img u (img 5 4 (some ⟨g, 0, none⟩) 80 80) 5 4 xZ) (h' : Img u (img 5 4 A2 80 c2) 5 4 xY) => isame_any _ _ 5 4 5 4 xZ xY u h h')
  rw [decide_eq_false (show ¬ sameP 5 4 5 4 xZ xY from fun h => aYZ (by rw [← HZ.out, ← HY.out]; exact h.2.2))] at hS1
  have hbz := run_build_tile
  have K4 := HK
  have a4_0 := K4.out.r1.cell 0 _ rfl
  have a4_1 := K4.out.r1.cell 1 _ rfl
  have a4_2 := K4.out.r1.cell 2 _ rfl
  have b4_0 := K4.out.r2.cell 0 _ rfl
  have b4_1 := K4.out.r2.cell 1 _ rfl
  have b4_2 := K4.out.r2.cell 2 _ rfl
  clear HK HZ HY HG LY LZ
  go_wp2_with (first
    | (go_at_call 15; refine (hT.out _).mono ?_; rintro e w5 ⟨rfl, rfl⟩)
    | (go_at_call 20; refine (hRt.out _).mono ?_; rintro e w5 ⟨rfl, hb⟩; have K5 := Lib.hid (K4.out.later hb); clear hb)
    | (go_at_call 17; first
        | (refine (hF1.out w6).mono ?_; rintro e w7 ⟨rfl, hb⟩; have K7 := Lib.hid (K6.out.later hb); clear hb; have a7_0 := K7.out.r1.cell 0 _ rfl; have a7_1 := K7.out.r1.cell 1 _ rfl; have a7_2 := K7.out.r1.cell 2 _ rfl; have b7_0 := K7.out.r2.cell 0 _ rfl; have b7_1 := K7.out.r2.cell 1 _ rfl; have b7_2 := K7.out.r2.cell 2 _ rfl)
        | (refine (hF0.out w5).mono ?_; rintro e w6 ⟨rfl, hb⟩; have K6 := Lib.hid (K5.out.later hb); have T6 := Lib.hid K6.out.r3; clear hb))
    | (with_reducible refine wpList_load_ints_if rfl 32 (.tmp 5) rfl w3.heap.size rfl 32 xG 16 30 T6.out Try.underlying32 LS.out ?_)
    | (go_at_call 35; first
        | (refine (hS1.out w8 K8.out.i1 K8.out.i2).mono ?_; rintro e w9 ⟨rfl, hb⟩; have K9 := Lib.hid (K8.out.later hb); clear hb)
        | (refine (hS0.out w7 K7.out.i1).mono ?_; rintro e w8 ⟨rfl, hb⟩; have K8 := Lib.hid (K7.out.later hb); clear hb; have a8_0 := K8.out.r1.cell 0 _ rfl; have a8_1 := K8.out.r1.cell 1 _ rfl; have a8_2 := K8.out.r1.cell 2 _ rfl; have b8_0 := K8.out.r2.cell 0 _ rfl; have b8_1 := K8.out.r2.cell 1 _ rfl; have b8_2 := K8.out.r2.cell 2 _ rfl)))
  go_ret
  exact ⟨rfl, K9.out.bel⟩
end Go.Proofs.Yteamgegmcmcijaa
