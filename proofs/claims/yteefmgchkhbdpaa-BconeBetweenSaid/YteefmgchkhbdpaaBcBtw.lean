/- Blocks of two colours: no texel is beyond them; a block of one colour; a colour's number. -/
import Derived.Test.YteefmgchkhbdpaaBcDec
import Derived.Test.YteefmgchkhbdpaaBcJoinP
namespace Go.Proofs.Yteefmgchkhbdpaa.Bc
open Bi Lv

theorem ext4 {xs ys : List Int} (hx : xs.length = 4) (hy : ys.length = 4) (h : ∀ c, c < 4 → xs.getD c 0 = ys.getD c 0) : xs = ys := by
  match xs, ys, hx, hy with
  | [a, b, c, d], [a', b', c', d'], _, _ =>
    have h0 : a = a' := h 0 (by omega)
    have h1 : b = b' := h 1 (by omega)
    have h2 : c = c' := h 2 (by omega)
    have h3 : d = d' := h 3 (by omega)
    rw [h0, h1, h2, h3]
theorem part_getD (zs : List Int) (o c : Nat) (h : c < 4) : ((zs.drop o).take 4).getD c 0 = zs.getD (o + c) 0 := by
  simp [List.getElem?_take, h, List.getElem?_drop]
theorem part_len (zs : List Int) (o : Nat) (h : o + 4 ≤ zs.length) : ((zs.drop o).take 4).length = 4 := by rw [List.length_take, List.length_drop]; omega
section
variable {pal W : List Int}
theorem dec_getD (hp : pal.length = 16) (hW : ∀ i, 0 ≤ W.getD i 0 ∧ W.getD i 0 < 4) : ∀ (k i c : Nat), i < k → k ≤ 16 → c < 4 → (decP pal W k).getD (i * 4 + c) 0 = pal.getD ((W.getD i 0).toNat * 4 + c) 0
  | 0, _, _, h, _, _ => absurd h (by omega)
  | k + 1, i, c, h, hk, hc => by
    have hw := hW k
    have hl : ((pal.drop ((W.getD k 0).toNat * 4)).take 4).length = 4 := part_len _ _ (by omega)
    rw [decP, spl_getD _ _ _ _ (by rw [hl, decP_length]; omega), hl]
    by_cases e : i = k
    · subst e
      rw [if_pos (by omega), show i * 4 + c - i * 4 = c by omega, part_getD _ _ _ hc]
    · rw [if_neg (by omega)]
      exact dec_getD hp hW k i c (by omega) (by omega) hc
theorem dec_part (hp : pal.length = 16) (hW : ∀ i, 0 ≤ W.getD i 0 ∧ W.getD i 0 < 4) (i : Nat) (h : i < 16) : ((decP pal W 16).drop (i * 4)).take 4 = (pal.drop ((W.getD i 0).toNat * 4)).take 4 := by
  have hw := hW i
  refine ext4 (part_len _ _ (by rw [decP_length]; omega)) (part_len _ _ (by omega)) fun c hc => ?_
  rw [part_getD _ _ _ hc, part_getD _ _ _ hc, dec_getD hp hW 16 i c h (by omega) hc]
end

theorem mx_btw (a b : Int) : (min a b ≤ mx a b 1 3 ∧ mx a b 1 3 ≤ max a b) ∧ (min a b ≤ mx a b 2 3 ∧ mx a b 2 3 ≤ max a b) ∧ (min a b ≤ mx a b 1 2 ∧ mx a b 1 2 ≤ max a b) := by
  have e1 : mx a b 1 3 = (a * 2 + b * 1 + 0) / 3 := rfl
  have e2 : mx a b 2 3 = (a * 1 + b * 2 + 0) / 3 := rfl
  have e3 : mx a b 1 2 = (a * 1 + b * 1 + 0) / 2 := rfl
  rw [e1, e2, e3]
  omega
/-- What a channel of a palette's texel is. -/
def inB (x y : Int) (c : Nat) (v : Int) : Prop := min ((colV x).getD c 0) ((colV y).getD c 0) ≤ v ∧ v ≤ max ((colV x).getD c 0) ((colV y).getD c 0)
theorem c4 {c : Nat} (h : c < 4) : c = 0 ∨ c = 1 ∨ c = 2 ∨ c = 3 := by omega
theorem t3_btw (x y : Int) (c : Nat) (hc : c < 4) : inB x y c ((t3 x y 1 3).getD c 0) ∧ inB x y c ((t3 x y 2 3).getD c 0) ∧ inB x y c ((t3 x y 1 2).getD c 0) := by
  have hr := mx_btw (rV x) (rV y)
  have hg := mx_btw (gV x) (gV y)
  have hb := mx_btw (bV x) (bV y)
  rcases c4 hc with rfl | rfl | rfl | rfl
  · exact hr
  · exact hg
  · exact hb
  · refine ⟨?_, ?_, ?_⟩ <;> exact ⟨by show min (255 : Int) 255 ≤ 255; omega, by show (255 : Int) ≤ max 255 255; omega⟩
theorem col_btw (x y : Int) (c : Nat) : inB x y c ((colV x).getD c 0) ∧ inB x y c ((colV y).getD c 0) := by
  unfold inB
  omega
theorem four_getD (A B C D : List Int) (ha : A.length = 4) (hb : B.length = 4) (hc : C.length = 4) (hd : D.length = 4) (c : Nat) (h : c < 4) :
    (A ++ B ++ C ++ D).getD (0 * 4 + c) 0 = A.getD c 0 ∧ (A ++ B ++ C ++ D).getD (1 * 4 + c) 0 = B.getD c 0 ∧ (A ++ B ++ C ++ D).getD (2 * 4 + c) 0 = C.getD c 0 ∧ (A ++ B ++ C ++ D).getD (3 * 4 + c) 0 = D.getD c 0 := by
  match A, B, C, D, ha, hb, hc, hd with
  | [_, _, _, _], [_, _, _, _], [_, _, _, _], [_, _, _, _], _, _, _, _ => rcases c4 h with rfl | rfl | rfl | rfl <;> exact ⟨rfl, rfl, rfl, rfl⟩
theorem pal_btw (x y : Int) (four : Bool) (v c : Nat) (hv : v < 4) (hc : c < 4) (h : manyP x y four ∨ v ≠ 3) : inB x y c ((palV x y four).getD (v * 4 + c) 0) := by
  have ht := t3_btw x y c hc
  have hk := col_btw x y c
  by_cases hm : manyP x y four
  · obtain ⟨f0, f1, f2, f3⟩ := four_getD (colV x) (colV y) (t3 x y 1 3) (t3 x y 2 3) rfl rfl rfl rfl c hc
    rw [palV_many hm]
    rcases c4 hv with rfl | rfl | rfl | rfl
    · rw [f0]; exact hk.1
    · rw [f1]; exact hk.2
    · rw [f2]; exact ht.1
    · rw [f3]; exact ht.2.1
  · obtain ⟨f0, f1, f2, f3⟩ := four_getD (colV x) (colV y) (t3 x y 1 2) [0, 0, 0, 0] rfl rfl rfl rfl c hc
    rw [palV_few hm]
    have hv3 : v ≠ 3 := h.resolve_left hm
    have : v = 0 ∨ v = 1 ∨ v = 2 := by omega
    rcases this with rfl | rfl | rfl
    · rw [f0]; exact hk.1
    · rw [f1]; exact hk.2
    · rw [f2]; exact ht.2.2
theorem pal_zero (x y : Int) (four : Bool) (hm : ¬ manyP x y four) : ((palV x y four).drop (3 * 4)).take 4 = [0, 0, 0, 0] := by rw [palV_few hm]; rfl
/-- A texel of a block: between the two colours, or all 0 where there are but three. -/
theorem dec_btw (xs : List Nat) (four : Bool) (i : Nat) (hi : i < 16) (h : manyP (paA xs) (paB xs) four ∨ ((decT xs four).drop (i * 4)).take 4 ≠ [0, 0, 0, 0]) (c : Nat) (hc : c < 4) : inB (paA xs) (paB xs) c ((decT xs four).getD (i * 4 + c) 0) := by
  have hp := palV_length (paA xs) (paB xs) four
  have hw := paW_bd xs i
  rw [decT, dec_getD hp (paW_bd xs) 16 i c hi (by omega) hc]
  refine pal_btw _ _ four _ c (by omega) hc ?_
  rcases h with h | h
  · exact .inl h
  · by_cases hm : manyP (paA xs) (paB xs) four
    · exact .inl hm
    · refine .inr fun e => h ?_
      rw [decT, dec_part hp (paW_bd xs) i hi, e]
      exact pal_zero _ _ four hm
/-! A block of one colour. -/
theorem nm_getN (z : List Nat) (p m : Nat) : getN z false p m = nm (fun k => bt z false (p + k)) m := by rw [rd_low, rd]
theorem jB_bit (a b : Int) (W : List Int) (i : Nat) (h : i < 64) : bt (jB a b W) false i = jb a b W i := by
  unfold jB
  rw [lay_bit _ _ _ _ _ _ (by show i < 8 * 8; omega), if_pos (by omega), Nat.sub_zero]
section
variable {a b : Int} {W : List Int}
theorem paA_join (ha : 0 ≤ a ∧ a < 65536) : paA (jB a b W) = a := by
  unfold paA
  rw [nm_getN, nm_congr (g := jb a b W) (fun k hk => by rw [Nat.zero_add]; exact jB_bit a b W k (by omega)), jb_first ha]
  omega
theorem paB_join (hb : 0 ≤ b ∧ b < 65536) : paB (jB a b W) = b := by
  have h : getN (jB a b W) false 16 16 = b.toNat := by
    rw [nm_getN]
    exact (nm_eq (nat_lt (k := 16) hb) fun k hk => by
      rw [jB_bit a b W _ (by omega)]
      unfold jb
      rw [if_neg (by omega), if_pos (by omega), show 16 + k - 16 = k by omega]).symm
  unfold paB
  rw [h]
  omega
theorem paW_join (hW : ∀ i, i < 16 → 0 ≤ W.getD i 0 ∧ W.getD i 0 < 4) (i : Nat) (hi : i < 16) : (paW (jB a b W)).getD i 0 = W.getD i 0 := by
  have e : (paW (jB a b W)).getD i 0 = ((getN (jB a b W) false (32 + i * 2) 2 : Nat) : Int) := by simp [paW, lowsL, hi]
  have hw := hW i hi
  have h : getN (jB a b W) false (32 + i * 2) 2 = (W.getD i 0).toNat := by
    rw [nm_getN]
    exact (nm_eq (nat_lt (k := 2) hw) fun k hk => by
      rw [jB_bit a b W _ (by omega), show 32 + i * 2 + k = 32 + 2 * i + k by omega]
      exact jb_index i k hk).symm
  rw [e, h]
  omega
end
theorem z16_zero (i : Nat) : z16.getD i 0 = 0 := by
  by_cases h : i < 16
  · have : ∀ i, i < 16 → z16.getD i 0 = 0 := by decide
    exact this i h
  · rw [List.getD_eq_getElem?_getD, List.getElem?_eq_none (show z16.length ≤ i from by show 16 ≤ i; omega)]; rfl
theorem one_ok (m : Int) (hm : 0 ≤ m ∧ m < 65536) : jOk m m z16 := ⟨hm, hm, fun i _ => by rw [z16_zero]; omega⟩
theorem one_dec (m : Int) (hm : 0 ≤ m ∧ m < 65536) (four : Bool) (i : Nat) (hi : i < 16) : ((decT (jB m m z16) four).drop (i * 4)).take 4 = colV m := by
  rw [decT, dec_part (palV_length _ _ _) (paW_bd _) i hi, paW_join (one_ok m hm).2.2 i hi, z16_zero, paA_join hm, paB_join hm]
  by_cases h : manyP m m four
  · rw [palV_many h]; rfl
  · rw [palV_few h]; rfl
/-! A colour's number. -/
theorem p5_wide : ∀ v : Nat, v < 32 → p5 (wideV (v : Int) 5) = v := by decide +kernel
theorem p6_wide : ∀ v : Nat, v < 64 → p6 (wideV (v : Int) 6) = v := by decide +kernel
theorem pk_col (m : Int) (hm : 0 ≤ m ∧ m < 65536) : pkV (rV m) (gV m) (bV m) = m := by
  obtain ⟨n, rfl⟩ := Int.eq_ofNat_of_zero_le hm.1
  have h1 : p5 (rV (n : Int)) = ((n / 2048 % 32 : Nat) : Int) := by
    rw [rV, wideV_congr (v' := ((n / 2048 % 32 : Nat) : Int)) (by show (n : Int) / 2048 % 32 = ((n / 2048 % 32 : Nat) : Int) % 32; omega)]
    exact p5_wide _ (by omega)
  have h2 : p6 (gV (n : Int)) = ((n / 32 % 64 : Nat) : Int) := by
    rw [gV, wideV_congr (v' := ((n / 32 % 64 : Nat) : Int)) (by show (n : Int) / 32 % 64 = ((n / 32 % 64 : Nat) : Int) % 64; omega)]
    exact p6_wide _ (by omega)
  have h3 : p5 (bV (n : Int)) = ((n % 32 : Nat) : Int) := by
    rw [bV, wideV_congr (v' := ((n % 32 : Nat) : Int)) (by show (n : Int) % 32 = ((n % 32 : Nat) : Int) % 32; omega)]
    exact p5_wide _ (by omega)
  rw [pkV, h1, h2, h3]
  omega
theorem and_pow (v : Int) (b : Nat) (hb : b ≤ 16) : bits .and .i64 v ((2 ^ b - 1 : Nat) : Int) = (((v % 2 ^ b).toNat : Nat) : Int) := by
  have h1 : 2 ^ b ≤ 2 ^ 16 := Nat.pow_le_pow_right (by omega) hb
  have h0 : 0 < 2 ^ b := Nat.two_pow_pos b
  have e0 : (2 : Int) ^ b = ((2 ^ b : Nat) : Int) := by simp
  rw [e0]
  show IntKind.i64.wrap ((BitVec.ofInt 64 v &&& BitVec.ofInt 64 ((2 ^ b - 1 : Nat) : Int)).toNat : Int) = _
  rw [BitVec.toNat_and, ofInt_i64 _ (by omega), Nat.and_two_pow_sub_one_eq_mod, BitVec.toNat_ofInt]
  have h2 : (v % ((2 ^ 64 : Nat) : Int)).toNat % 2 ^ b = (v % ((2 ^ b : Nat) : Int)).toNat := by
    have hd : ((2 ^ b : Nat) : Int) ∣ ((2 ^ 64 : Nat) : Int) := Int.natCast_dvd_natCast.2 (Nat.pow_dvd_pow 2 (by omega))
    have := Int.emod_emod_of_dvd v hd
    apply Int.ofNat.inj
    show (((v % ((2 ^ 64 : Nat) : Int)).toNat % 2 ^ b : Nat) : Int) = ((v % ((2 ^ b : Nat) : Int)).toNat : Int)
    rw [Int.natCast_emod, Int.toNat_of_nonneg (Int.emod_nonneg _ (by decide)), Int.toNat_of_nonneg (Int.emod_nonneg _ (by omega)), this]
  rw [h2]
  have h3 : (v % ((2 ^ b : Nat) : Int)).toNat < 2 ^ b := by
    have := Int.emod_lt_of_pos v (show (0 : Int) < ((2 ^ b : Nat) : Int) by omega)
    have := Int.emod_nonneg v (show ((2 ^ b : Nat) : Int) ≠ 0 by omega)
    omega
  rw [IntKind.wrap_i64]
  omega
theorem and_16 (n : Int) : bits .and .i64 n 65535 = n % 65536 := by
  have h := and_pow n 16 (by omega)
  have h2 : (((n % 65536).toNat : Nat) : Int) = n % 65536 := by omega
  rw [← h2]
  exact h
end Go.Proofs.Yteefmgchkhbdpaa.Bc
