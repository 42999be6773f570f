/- BitsTurn: a low bit of any bytes is the high one of the bytes that are turned about; no condition. -/
import Derived.Test.YtbjmmllnhanmpaaRows
import Derived.Test.YtbjmmllnhanmpaaBitAwake
import Derived.Test.YtbjmmllnhanmpaaOpenArr
import Derived.Test.YtbjmmllnhanmpaaOpen
import Derived.OpenShut
import Derived.ShutString
import Derived.ChangeOld
import Derived.Below
namespace Go.Proofs.Ytbjmmllnhanmpaa.bitsTurn
open Go.ChangeShapes Go.WideShapes Go.ChangeAt Go.RowKit
open Bi

/-- The k lowest bits of x, turned about. -/
def tn (x k : Nat) : Nat := nm (fun q => x.testBit (k - 1 - q)) k
def tb (x : Nat) : Nat := tn x 8
theorem tn_step (x k : Nat) : 2 * tn x k + x / 2 ^ k % 2 = tn x (k + 1) := by
  unfold tn
  rw [nm_cons, bit_div]
  congr 2
  apply nm_congr
  intro q _
  congr 1
  omega
theorem tn_lt (x k m : Nat) (h : k ≤ m) : tn x k < 2 ^ m := Nat.lt_of_lt_of_le (nm_lt _ k) (Nat.pow_le_pow_right (by omega) h)
theorem tb_bit (x q : Nat) (h : q < 8) : (tb x).testBit q = x.testBit (7 - q) := by
  unfold tb tn
  rw [nm_bit]
  simp [h]

theorem turn_bt (xs : List Nat) (i : Nat) (h : i < 8 * xs.length) : bt (xs.map tb) true i = bt xs false i := by
  unfold bt
  have h8 : i % 8 < 8 := Nat.mod_lt _ (by omega)
  have e : (xs.map tb).getD (i / 8) 0 = tb (xs.getD (i / 8) 0) := by
    have : i / 8 < xs.length := by omega
    simp [List.getElem?_eq_getElem this]
  rw [e, tb_bit _ _ (pl_lt h8 true)]
  congr 1
  simp [pl]
  omega
theorem turn_getV (xs : List Nat) (n : Nat) (hn : xs.length = n) (p : Int) : getV (xs.map tb) true p 1 = getV xs false p 1 := by
  unfold getV
  rw [List.length_map]
  split
  · rename_i hE
    obtain ⟨q1, q2, q3, q4⟩ := getE_ok hE
    congr 1
    unfold getN
    apply nm_congr
    intro k hk
    have hk' : k = 0 := by simpa using hk
    subst hk'
    simp only [if_true, Bool.false_eq_true, if_false]
    rw [turn_bt _ _ (by simp; omega)]
    congr 1
  · rfl

set_option maxHeartbeats 400000 in
theorem turned_any (x : Nat) (w : World) (h : x < 256) :
    Calls Try.prog 16 #[.int .u8 (x : Int)] w fun e w' => e = .returned (.int .u8 ((tb x : Nat) : Int)) ∧ w = w' := by
  have hF := Lib.hid (show tb x = tn x 8 from rfl)
  have hs := Lib.hid (tn_step x)
  have hl := Lib.hid (fun k => tn_lt x k 8)
  have hd := Lib.hid (show ∀ k, x / 2 ^ (k + 1) = x / 2 ^ k / 2 from fun k => by rw [Nat.pow_succ, Nat.div_div_eq_div_mul])
  have hle := Lib.hid (show ∀ k, x / 2 ^ k ≤ x from fun k => Nat.div_le_self _ _)
  go_enter Try.func16, Try.ntmps16
  go_wp2
  go_loop [0, 3, 4] (fun y t i => ∃ k : Nat, k ≤ 8 ∧ i = .int .i64 k ∧ t = .int .i64 ((tn x k : Nat) : Int) ∧ y = .int .u8 ((x / 2 ^ k : Nat) : Int)) (fun _ _ i => 8 - (intOf i).toNat)
  case atStart => exact ⟨0, Nat.zero_le _, rfl, rfl, by simp⟩
  case round =>
    obtain ⟨k, hk, rfl, rfl, rfl⟩ := hrel
    have h1 := hl.out k hk
    have h2 := hle.out k
    have h3 := Lib.hid (hs.out k)
    have h4 := Lib.hid (hd.out k)
    clear hl hle hs hd
    by_cases hlt : k < 8
    · generalize tn x k = t at *
      generalize x / 2 ^ k = y at *
      go_wp2
      go_round
      case rel =>
        refine ⟨k + 1, by omega, by go_num, ?_, ?_⟩
        · rw [← h3.out]; go_num
        · rw [h4.out]; go_num
      case measure => simp [intOf]; omega
    · obtain rfl : k = 8 := by omega
      go_wp2
      go_ret
      exact ⟨ret_int (by rw [hF.out]), rfl⟩

set_option maxHeartbeats 4000000 in
set_option maxRecDepth 100000 in
theorem walk (A : Option Addr) (n c : Nat) (xs : List Nat) (x : Int) (w : World) (h : Bs w w.heap.size A n xs) (x2 : x ≤ 9223372036854775807) :
    Calls Try.prog 5 #[.slice A n c, .int .i64 x] w fun e w' => e = .returned (.bool true) ∧ Below w.heap.size w w' := by
  have H := Lib.hid h
  clear h
  go_enter Try.func5, Try.ntmps5
  go_wp2_with fail
  refine (awake_any _).mono ?_
  rintro e w1 ⟨rfl, hb1⟩
  by_cases hlong : 64 < n
  · go_wp2_with fail
    go_ret
    exact ⟨rfl, hb1⟩
  · have hn : n ≤ 140737488355328 := by omega
    go_wp2_with fail
    go_loopw [6, 7] (fun o i wr => ∃ k : Nat, k ≤ n ∧ i = .int .i64 k ∧ wr.ownsRow w.heap.size 5 1 o k (u8s ((xs.take k).map tb)) ∧ Below w.heap.size w wr) (fun _ i _ => n - (intOf i).toNat)
    case atStart => exact ⟨0, Nat.zero_le _, rfl, ⟨rfl, Or.inl ⟨rfl, rfl⟩⟩, hb1⟩
    case round =>
      obtain ⟨k, hk, rfl, hown, hbw⟩ := hrel
      clear hb1
      by_cases hlt : k < n
      · obtain ⟨b, off, rfl, hb, hc⟩ := H.out.2.2 (by omega)
        have hcx := (hbw.cell (p := ⟨b, off + k, none⟩) hb).trans (hc k hlt)
        have hx8 := H.out.getD_lt k
        have hsucc := Lib.hid (show (xs.take k).map tb ++ [tb (xs.getD k 0)] = (xs.take (k + 1)).map tb from by
          have : k < xs.length := by rw [H.out.1]; exact hlt
          have e : xs.getD k 0 = xs[k] := by simp [List.getElem?_eq_getElem this]
          rw [e, List.take_succ_eq_append_getElem this, List.map_append]
          rfl)
        clear hc
        generalize xs.getD k 0 = y at *
        have htl : tb y < 256 := tn_lt y 8 8 (Nat.le_refl _)
        have hown0 := Lib.hid (hown.alloc (.cells #[.int .u8 ((tb y : Nat) : Int)] 5))
        have hsrc := Lib.hid (show Bs (wr.alloc (.cells #[.int .u8 ((tb y : Nat) : Int)] 5)) (wr.heap.size + 1) (some ⟨wr.heap.size, 0, none⟩) 1 [tb y] from by
          have := Bs.fresh wr 5 [tb y] 1 rfl (by simpa using htl)
          simpa [u8s] using this)
        have hge := Lib.hid (own_ge hown)
        have hba := Lib.hid (hbw.alloc hbw.size (.cells #[.int .u8 ((tb y : Nat) : Int)] 5))
        clear hown
        go_wp2_with (first
          | (go_at_call 16; refine (turned_any y _ hx8).mono ?_; rintro e w' ⟨rfl, rfl⟩)
          | (at_builtin; refine wpList_append_bs rfl (.tmp 23) (.tmp 29) 22 rfl w.heap.size 5 Try.underlying22 info_u8 _ k _ rfl hown0.out _ (some ⟨wr.heap.size, 0, none⟩) 1 1 _ rfl hsrc.out (by omega) (hba.out.size) ?_; intro v2 w2 hown2 hgr; have hown2' := Lib.hid hown2; have hgr' := Lib.hid hgr; clear hown2 hgr))
        go_roundw
        case rel =>
          refine ⟨k + 1, by omega, by go_num, ?_, hba.out.grown hgr'.out hba.out.size hge.out⟩
          rw [← hsucc.out]
          exact hown2'.out
        case measure => simp [intOf]; omega
      · obtain rfl : k = n := by omega
        obtain ⟨A1, cap, rfl, -, -⟩ := own_form' hown
        have hB1 := Lib.hid (show Bs wr wr.heap.size A1 k (xs.map tb) from by
          have := Bs.of_own hown (by
            intro z hz
            obtain ⟨y, _, rfl⟩ := List.mem_map.1 hz
            exact tn_lt y 8 8 (Nat.le_refl _))
          rwa [List.take_of_length_le (by rw [H.out.1]; omega)] at this)
        have hB0 := Lib.hid ((H.out.below hbw).more hbw.size)
        have hV := Lib.hid (turn_getV xs k H.out.1 x)
        clear hown
        go_wp2_with fail
        refine (low_any A k c x 1 xs wr hB0.out hn x2).mono ?_
        rintro e w2 ⟨rfl, hb2⟩
        have hB2 := Lib.hid (hB1.out.below hb2 |>.more hb2.size)
        have hbw2 := hbw.trans (hb2.mono hbw.size)
        clear hb2 hB1 hB0
        go_wp2_with fail
        refine (high_any A1 k cap x 1 (xs.map tb) w2 hB2.out hn x2).mono ?_
        rw [hV.out]
        rintro e w3 ⟨rfl, hb3⟩
        have hbw3 := hbw2.trans (hb3.mono hbw2.size)
        clear hb3 hB2 hbw2
        go_wp2_with fail
        go_ret
        exact ⟨rfl, hbw3⟩

theorem own : ownKnob Try.prog.godebug = none := by kernel_rfl
theorem laidOut : laidOutB Try.prog = true := by kernel_rfl

set_option maxRecDepth 100000 in
theorem lifted (os : Os) (started : os.Started) (H : Type) (enc : TypeId × Value → H) :
    ReturnsInHanded {} Try.checked os 5 .any (Rows.bitsTurnSpec.pre6 enc Try.prog Try.f5 Rows.bitsTurnRow.domain false) (Rows.bitsTurnSpec.post enc Try.prog Try.f5 false true false false) := by
  refine returnsInHanded_of_change (C := Try.checked) own started (by kernel_rfl) Try.func5
    (ChangeSpec.witness6 (enc := enc) (C := Try.checked) false ⟨#[], #[.slice none 0 0, .int .i64 0], []⟩ 8 (by kernel_rfl) (by kernel_rfl) (by kernel_rfl) (by kernel_rfl)) ?_
  intro W base args ds gs before hval0 hW hcnd _
  have hval : ∀ (j : Nat) t v, Try.f5.params[j]? = some t → args[j]? = some v → Value.okWide Try.prog W .any base t v := hval0
  have hW' := hW
  obtain ⟨p, q, hA0, hV, rfl, hfz, hnd⟩ := hW
  have hA : DataW.TrodAll enc Try.prog W 0 (fun _ => true) true Try.f5.params.toList args.toList ds p := hA0
  rw [Try.params5] at hA hval
  obtain ⟨v0, vs0, d0, ds0, p0, q0, hargs, rfl, rfl, h0, r0⟩ := trodAll_cons hA
  obtain ⟨v1, vs1, d1, ds1, p1, q1, rfl, rfl, rfl, h1, r1⟩ := trodAll_cons r0
  obtain ⟨rfl, rfl, rfl⟩ := trodAll_nil r1
  obtain rfl : args = #[v0, v1] := by cases args; simp_all
  have lt0 : ∀ x ∈ p0, x.block < W.heap.size := by obtain ⟨m, hm⟩ := h0; exact DataW.trod_lt m _ _ _ hm
  obtain ⟨rfl, rfl⟩ := trodVars_none hV
  obtain ⟨A0, n0, c0, xs0, rfl, hB0, hc0, hcm0⟩ := open_bytes Try.underlying22 Try.underlying5 (by kernel_rfl) (hval 0 22 v0 rfl rfl) h0
  obtain ⟨a1, rfl, rfl, rfl, w1⟩ := open_int Try.underlying3 (hval 1 3 v1 rfl rfl) h1
  have hm1 := bounds_i64 w1
  clear hA0 hval0
  refine (walk A0 n0 c0 xs0 a1 W hB0 hm1.2).mono fun e W' ⟨he, bel⟩ => ?_
  subst he
  exact ⟨_, rfl, _, _, _, [], _, [], hW', trodAll_mk1 (shut_bool Try.underlying4 _), (trodAll_cons_mk (Below.trod laidOut (by kernel_rfl) (of_decide_eq_true (by kernel_rfl)) h0 bel lt0) (trodAll_cons_mk (shut_int Try.underlying3 w1) trodAll_mk0)), rfl, bel.frame _, fun h => by cases h⟩

theorem over : Rows.bitsTurnRow.holds Try.pinned (OpenSpec.ofChange Rows.bitsTurnSpec) :=
  OpenClaim.holds_of_wide 5 Try.f5 rfl rfl rfl rfl rfl rfl rfl ⟨rfl, rfl, rfl, rfl, rfl⟩ rfl rfl rfl rfl rfl (by kernel_rfl) Try.func5 (by kernel_rfl)
    (of_decide_eq_true (by kernel_rfl)) (by unfold Func.isWrapper; first | (rw [if_pos (by decide +kernel)]; kernel_rfl) | (rw [if_neg (by decide +kernel)]; exact ⟨rfl, rfl⟩))
    (fun os started H enc _ => lifted os started H enc)
end Go.Proofs.Ytbjmmllnhanmpaa.bitsTurn

namespace Go.Proofs.Ytbjmmllnhanmpaa
theorem bitsTurn_holds : Rows.BitsTurnSaid := bitsTurn.over
#print axioms bitsTurn_holds
end Go.Proofs.Ytbjmmllnhanmpaa
