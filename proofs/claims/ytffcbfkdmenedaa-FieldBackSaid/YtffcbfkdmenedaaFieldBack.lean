/- FieldBack: what Put of package field stored Get returns, all other bytes stay, and in the other byte order, in bytes that are turned, it is the same bytes, turned; no condition. -/
import Derived.Test.YtffcbfkdmenedaaRows
import Derived.Test.YtffcbfkdmenedaaAwake
import Derived.Test.YtffcbfkdmenedaaPart
import Derived.Test.YtffcbfkdmenedaaBackPlain
import Derived.Test.YtffcbfkdmenedaaEnv
import Derived.Test.YtffcbfkdmenedaaOpen
import Derived.Deep.QuietTactic
import Derived.BigQuiet
namespace Go.Proofs.Ytffcbfkdmenedaa.fieldBack
open Go.ChangeShapes Go.WideShapes Go.ChangeAt Go.RowKit
open Pl

theorem below_draw (B : Nat) (w : World) (q : Nat) : Below B w (w.drewN q) := ⟨rfl, rfl, rfl, Nat.le_refl _, fun _ _ => rfl⟩

theorem rev_step (xs : List Nat) (j : Nat) (h : 0 < j) (hj : j ≤ xs.length) : (xs.drop (j - 1)).reverse = (xs.drop j).reverse ++ [xs.getD (j - 1) 0] := by
  have h1 : j - 1 < xs.length := by omega
  rw [List.drop_eq_getElem_cons h1, show j - 1 + 1 = j from by omega]
  simp [List.getElem?_eq_getElem h1]

set_option maxHeartbeats 4000000 in
set_option maxRecDepth 100000 in
theorem walk (A : Option Addr) (n c : Nat) (xs : List Nat) (x y z : Int) (big : Bool) (w : World) (h : Bs w w.heap.size A n xs) (hc : n ≤ c) (hcm : c ≤ 9223372036854775807)
    (x2 : x ≤ 9223372036854775807) (z2 : z ≤ 9223372036854775807) :
    Calls Try.prog 5 #[.slice A n c, .agg #[.int .i64 x, .int .i64 y, .int .i64 z], .bool big] w fun e w' => e = .returned (.bool true) ∧ Below w.heap.size w w' := by
  have E0 := Lib.hid (Env.start x y z 23 h)
  clear h
  go_enter Try.func5, Try.ntmps5
  go_wp2_with fail
  refine (awake_any _).mono ?_
  rintro e w1 ⟨rfl, hb1⟩
  have E1 := Lib.hid (E0.out.step hb1)
  clear hb1 E0
  have kx := E1.out.cx
  have ky := E1.out.cy
  have kz := E1.out.cz
  by_cases hlong : 300 < n
  · go_wp2_with fail
    go_ret
    exact ⟨rfl, E1.out.bel⟩
  · go_wp2_with fail
    refine (put_any A n c x y z big xs w1 E1.out.bs (by omega) x2 z2).mono ?_
    rintro e w2 ⟨A2, n2, c2, rfl, hB2, hc2, hcm2, hb2⟩
    have E2 := Lib.hid (E1.out.step hb2)
    clear hb2 E1 kx ky kz
    have S2 := Lib.hid hB2
    clear hB2
    by_cases hE : putE n x y z = 0
    · rw [hE]
      obtain ⟨p, m, N, rfl, rfl, rfl, h1, h4, hp, hN⟩ := putE_ok hE
      have hlen := Lib.hid E2.out.bs.1
      have hps : putV xs p m big N = putL xs p m big N m := by unfold putV; rw [hlen.out, if_pos hE]; simp
      rw [hps] at S2
      have hn2 : n2 = n := by have := S2.out.1; rw [putL_length, hlen.out] at this; omega
      subst hn2
      have kx := E2.out.cx
      have ky := E2.out.cy
      have kz := E2.out.cz
      have hgv := Lib.hid (show getV (putL xs p m big N m) p m big = N from by
        unfold getV
        rw [putL_length, hlen.out, if_pos (getE_zero _ _ _ h1 h4 hp)]
        simp [get_put xs p m big N (by rw [hlen.out]; exact hp) h1 h4 hN])
      have hge := Lib.hid (getE_zero n2 p m h1 h4 hp)
      have HN := Lib.hid hN
      have HE := Lib.hid hE
      have hN4 : N < 4294967296 := Nat.lt_of_lt_of_le hN (pow4 m h4)
      clear hps hN hE
      go_wp2_with fail
      refine (get_any A2 n2 c2 p m big _ w2 _ S2.out hc2 hcm2 (by omega)).mono ?_
      rintro e w' ⟨rfl, rfl⟩
      rw [hgv.out, hge.out]
      go_wp2_with fail
      go_loopw [12] (fun i wr => ∃ k q : Nat, k ≤ n2 ∧ i = .int .i64 k ∧ wr = w2.drewN q) (fun i _ => n2 - (intOf i).toNat)
      case atStart => exact ⟨0, 0, Nat.zero_le _, rfl, rfl⟩
      case round =>
        obtain ⟨k, q, hk, rfl, rfl⟩ := hrel
        by_cases hlt : k < n2
        · obtain ⟨b, off, rfl, hbb, hcb⟩ := E2.out.bs.2.2 (by omega)
          obtain ⟨g, offg, rfl, hbg, hcg⟩ := S2.out.2.2 (by omega)
          have hx := hcb k hlt
          have hy := hcg k hlt
          clear hcb hcg
          have hfar := Lib.hid (put_far xs p m big N (by rw [hlen.out]; exact hp) k)
          generalize xs.getD k 0 = u at *
          generalize (putL xs p m big N m).getD k 0 = v at *
          by_cases q1 : k < p
          · obtain rfl : v = u := hfar.out (.inl q1)
            have d1 : decide ((k : Int) < (p : Int)) = true := by simp; omega
            have d2 : ((v : Int) != (v : Int)) = false := by simp
            clear hfar
            go_wp2
            go_quiet (fail)
            go_wp2
            go_roundw
            case rel => exact ⟨k + 1, _, by omega, by go_num, rfl⟩
            case measure => simp [intOf]; omega
          · have d1 : decide ((k : Int) < (p : Int)) = false := by simp; omega
            by_cases q3 : p + m ≤ k
            · obtain rfl : v = u := hfar.out (.inr q3)
              have d3 : decide ((p : Int) + (m : Int) ≤ (k : Int)) = true := by simp; omega
              have d2 : ((v : Int) != (v : Int)) = false := by simp
              clear hfar
              go_wp2
              go_quiet (fail)
              go_wp2
              go_roundw
              case rel => exact ⟨k + 1, _, by omega, by go_num, rfl⟩
              case measure => simp [intOf]; omega
            · have d3 : decide ((p : Int) + (m : Int) ≤ (k : Int)) = false := by simp; omega
              clear hfar
              go_wp2
              go_quiet (fail)
              go_wp2
              go_roundw
              case rel => exact ⟨k + 1, _, by omega, by go_num, rfl⟩
              case measure => simp [intOf]; omega
        · obtain rfl : k = n2 := by omega
          have b3 := below_draw w2.heap.size w2 q
          have E3 := Lib.hid (E2.out.step b3)
          have S3 := Lib.hid (S2.out.later b3)
          clear b3 E2 S2 kx ky kz hlt hk hge hgv
          generalize w2.drewN q = w3 at *
          go_wp2
          go_loopw [13, 14] (fun v i wr => ∃ j : Nat, j ≤ k ∧ i = .int .i64 ((j : Int) - 1) ∧ wr.ownsRow w3.heap.size 5 1 v (k - j) (u8s (xs.drop j).reverse) ∧ Below w3.heap.size w3 wr) (fun _ i _ => (intOf i + 1).toNat)
          case atStart => exact ⟨k, Nat.le_refl _, rfl, by rw [Nat.sub_self, List.drop_of_length_le (by rw [hlen.out]; omega)]; exact World.ownsRow_nil _ _ _ _, Below.refl _ _⟩
          case round =>
            obtain ⟨j, hj, rfl, hown, hbw⟩ := hrel
            by_cases hlt : 0 < j
            · obtain ⟨b, off, rfl, hbb, hcb⟩ := (E3.out.step hbw).bs.2.2 (by omega)
              have hx := hcb (j - 1) (by omega)
              have hrev := Lib.hid (rev_step xs j hlt (by rw [hlen.out]; exact hj))
              have hu := Lib.hid (getD_lt E3.out.bs.2.1 (j - 1))
              clear hcb
              generalize xs.getD (j - 1) 0 = u at *
              have hoA := Lib.hid (hown.alloc (.cells (u8s [u]).toArray 5))
              have hlA := Lib.hid (fun k' => (hown.lt k'))
              have hsA := Lib.hid ((Blk.new wr 5 [u] _ rfl).bs (by simpa using hu.out) 1 rfl)
              clear hown
              go_wp2_with (at_builtin; refine wpList_append_bs rfl (.tmp 105) (.tmp 110) 22 rfl w3.heap.size 5 Try.underlying22 info_u8 _ (k - j) _ rfl hoA.out _ (some ⟨wr.heap.size, 0, none⟩) 1 1 [u] rfl hsA.out (by omega) (by have := hbw.size; simp; omega) ?_; intro v1 w4 hown4 hgr4; have hO4 := Lib.hid hown4; have hG4 := Lib.hid hgr4; clear hown4 hgr4)
              go_roundw
              case rel =>
                refine ⟨j - 1, by omega, by go_num, ?_, ?_⟩
                · rw [hrev.out, show k - (j - 1) = k - j + 1 from by omega]
                  exact hO4.out
                · exact (hbw.alloc hbw.size _).grown hG4.out (by have := hbw.size; simp; omega) (fun k' hk' => (hlA.out k' hk').1)
              case measure => simp [intOf]; omega
            · obtain rfl : j = 0 := by omega
              obtain ⟨A3, cap, rfl, hnc, hcm3⟩ := own_form' hown
              have hrl : ∀ r ∈ xs.reverse, r < 256 := fun r hr => E3.out.bs.2.1 r (by simpa using hr)
              have R4 := Lib.hid (Bs.of_own (show wr.ownsRow w3.heap.size 5 1 (.slice A3 (k - 0) cap) (k - 0) (u8s xs.reverse) from by simpa using hown) hrl)
              have E4 := Lib.hid (E3.out.step hbw)
              have S4 := Lib.hid (S3.out.later hbw)
              clear E3 S3 hbw hown
              have kx := E4.out.cx
              have ky := E4.out.cy
              have kz := E4.out.cz
              go_wp2_with fail
              rw [show ((k : Int) - (p : Int) - (m : Int)) = ((k - p - m : Nat) : Int) from by omega]
              refine (put_ok A3 k cap (k - p - m) m N (!big) xs.reverse wr R4.out (by omega) h1 h4 (by omega) HN.out).mono ?_
              rintro e w5 ⟨g, rfl, hg, hblk, hb5⟩
              have hturn := put_turn xs p m big N (by rw [hlen.out]; exact hp)
              rw [hlen.out] at hturn
              rw [hturn] at hblk
              have B5 := Lib.hid hblk
              have E5 := Lib.hid (E4.out.step hb5)
              have S5 := Lib.hid (S4.out.later hb5)
              clear E4 S4 R4 hb5 hblk hturn kx ky kz
              go_wp2_with fail
              go_loopw [17] (fun i wr => ∃ j q : Nat, j ≤ k ∧ i = .int .i64 j ∧ wr = w5.drewN q) (fun i _ => k - (intOf i).toNat)
              case atStart => exact ⟨0, 0, Nat.zero_le _, rfl, rfl⟩
              case round =>
                obtain ⟨j, q, hj', rfl, rfl⟩ := hrel
                by_cases hlt' : j < k
                · obtain ⟨b, off, rfl, hbb, hcb⟩ := S5.out.2.2 (by omega)
                  have hx := hcb j hlt'
                  have hy := B5.out.cell (k - 1 - j) (by rw [List.length_reverse, putL_length, hlen.out]; omega)
                  rw [rev_getD _ _ (by rw [putL_length, hlen.out]; omega), putL_length, hlen.out, show k - 1 - (k - 1 - j) = j from by omega] at hy
                  clear hcb
                  generalize (putL xs p m big N m).getD j 0 = v at *
                  have d2 : ((v : Int) != (v : Int)) = false := by simp
                  go_wp2
                  go_quiet (fail)
                  go_wp2
                  go_roundw
                  case rel => exact ⟨j + 1, _, by omega, by go_num, rfl⟩
                  case measure => simp [intOf]; omega
                · go_wp2
                  go_ret
                  exact ⟨rfl, (E5.out.step (below_draw _ _ _)).bel⟩
    · have hz : n2 = 0 := by
        have := S2.out.1
        unfold putV at this
        rw [E2.out.bs.1, if_neg hE] at this
        simpa using this.symm
      subst hz
      have hne : (putE n x y z != 0) = true := by simpa using hE
      clear hE
      go_wp2_with fail
      go_ret
      exact ⟨rfl, E2.out.bel⟩

theorem own : ownKnob Try.prog.godebug = none := by kernel_rfl
theorem laidOut : laidOutB Try.prog = true := by kernel_rfl

set_option maxRecDepth 100000 in
theorem lifted (os : Os) (started : os.Started) (H : Type) (enc : TypeId × Value → H) :
    ReturnsInHanded {} Try.checked os 5 .any (Rows.fieldBackSpec.pre6 enc Try.prog Try.f5 Rows.fieldBackRow.domain false) (Rows.fieldBackSpec.post enc Try.prog Try.f5 false true false false) := by
  refine returnsInHanded_of_change (C := Try.checked) own started (by kernel_rfl) Try.func5
    (ChangeSpec.witness6 (enc := enc) (C := Try.checked) false ⟨#[], #[.slice none 0 0, .agg #[.int .i64 0, .int .i64 0, .int .i64 0], .bool false], []⟩ 8 (by kernel_rfl) (by kernel_rfl) (by kernel_rfl) (by kernel_rfl)) ?_
  intro W base args ds gs before hval0 hW hcnd _
  have hval : ∀ (j : Nat) t v, Try.f5.params[j]? = some t → args[j]? = some v → Value.okWide Try.prog W .any base t v := hval0
  have hW' := hW
  obtain ⟨p, q, hA0, hV, rfl, hfz, hnd⟩ := hW
  have hA : DataW.TrodAll enc Try.prog W 0 (fun _ => true) true Try.f5.params.toList args.toList ds p := hA0
  rw [Try.params5] at hA hval
  obtain ⟨v0, vs0, d0, ds0, p0, q0, hargs, rfl, rfl, h0, r0⟩ := trodAll_cons hA
  obtain ⟨v1, vs1, d1, ds1, p1, q1, rfl, rfl, rfl, h1, r1⟩ := trodAll_cons r0
  obtain ⟨v2, vs2, d2, ds2, p2, q2, rfl, rfl, rfl, h2, r2⟩ := trodAll_cons r1
  obtain ⟨rfl, rfl, rfl⟩ := trodAll_nil r2
  obtain rfl : args = #[v0, v1, v2] := by cases args; simp_all
  obtain ⟨rfl, rfl⟩ := trodVars_none hV
  have lt0 : ∀ x ∈ p0, x.block < W.heap.size := by obtain ⟨m, hm⟩ := h0; exact DataW.trod_lt m _ _ _ hm
  have lt1 : ∀ x ∈ p1, x.block < W.heap.size := by obtain ⟨m, hm⟩ := h1; exact DataW.trod_lt m _ _ _ hm
  obtain ⟨A, n, c, xs, rfl, hB, hc, hcm⟩ := open_bytes Try.underlying22 Try.underlying5 (by kernel_rfl) (hval 0 22 v0 rfl rfl) h0
  obtain ⟨x, y, z, rfl, bx, by', bz⟩ := open_three Try.underlying23 Try.underlying3 (by kernel_rfl) (by kernel_rfl) (hval 1 23 v1 rfl rfl) h1
  obtain ⟨big, rfl, rfl, rfl⟩ := open_bool Try.underlying4 (hval 2 4 v2 rfl rfl) h2
  clear hA0 hval0
  refine (walk A n c xs x y z big W hB hc hcm bx.2 bz.2).mono fun e W' ⟨he, bel⟩ => ?_
  subst he
  exact ⟨_, rfl, _, _, _, [], _, [], hW', trodAll_mk1 (shut_bool Try.underlying4 _), (trodAll_cons_mk (Below.trod laidOut (by kernel_rfl) (of_decide_eq_true (by kernel_rfl)) h0 bel lt0) (trodAll_cons_mk (Below.trod laidOut (by kernel_rfl) (of_decide_eq_true (by kernel_rfl)) h1 bel lt1) (trodAll_cons_mk (shut_bool Try.underlying4 _) trodAll_mk0))), rfl, bel.frame _, fun h => by cases h⟩

theorem over : Rows.fieldBackRow.holds Try.pinned (OpenSpec.ofChange Rows.fieldBackSpec) :=
  OpenClaim.holds_of_wide 5 Try.f5 rfl rfl rfl rfl rfl rfl rfl ⟨rfl, rfl, rfl, rfl, rfl⟩ rfl rfl rfl rfl rfl (by kernel_rfl) Try.func5 (by kernel_rfl)
    (of_decide_eq_true (by kernel_rfl)) (by unfold Func.isWrapper; first | (rw [if_pos (by decide +kernel)]; kernel_rfl) | (rw [if_neg (by decide +kernel)]; exact ⟨rfl, rfl⟩))
    (fun os started H enc _ => lifted os started H enc)
end Go.Proofs.Ytffcbfkdmenedaa.fieldBack

namespace Go.Proofs.Ytffcbfkdmenedaa
theorem fieldBack_holds : Rows.FieldBackSaid := fieldBack.over
#print axioms fieldBack_holds
end Go.Proofs.Ytffcbfkdmenedaa
