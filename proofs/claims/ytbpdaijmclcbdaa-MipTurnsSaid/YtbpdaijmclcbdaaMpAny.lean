/- The chains for whatever image and number; slices of images as facts. -/
import Derived.Test.YtbpdaijmclcbdaaMpRchain
import Derived.Test.YtbpdaijmclcbdaaImRwhole
namespace Go.Proofs.Ytbpdaijmclcbdaa
open Go.RowKit
open Im Mp

namespace Mp
/-- What a chain is of. -/
def chR (W H : Int) (xs : List Nat) (m : Int) : List (Int × Int × List Nat) := if chP W H xs.length m then chL W H xs m.toNat else []
theorem chR_length (W H : Int) (xs : List Nat) (m : Int) : (chR W H xs m).length ≤ 64 := by
  unfold chR
  split
  · rename_i h
    obtain ⟨hr, h1, h2⟩ := h
    rw [chL_length]
    unfold lvV at h2
    have hs := hr.1
    unfold szP at hs
    rw [if_neg (by omega)] at h2
    have := lv_le 63 W H
    omega
  · simp
end Mp
theorem chain_any (v : Value) (W H : Int) (xs : List Nat) (m : Int) (w : World) (h : Img w v W H xs) (hW : W ≤ 9223372036854775807) (hH : H ≤ 9223372036854775807) :
    Calls Try.prog 25 #[v, .int .i64 m] w fun e w' => ∃ v', e = .returned (.tuple #[v', .int .i64 (noE (chP W H xs.length m))]) ∧ Imgs w' v' (chR W H xs m) ∧ Below w.heap.size w w' := by
  obtain ⟨A, n, c, rfl, hn, hB⟩ := h
  have hl := hB.1
  unfold chR
  rw [hl]
  by_cases hp : chP W H n m
  · rw [show noE (chP W H n m) = 0 from if_pos hp, if_pos hp]
    obtain ⟨b, off, rfl, _⟩ := hB.2.2 (right_pos hp.1)
    obtain ⟨k, rfl⟩ : ∃ k : Nat, m = (k : Int) := ⟨m.toNat, by have := hp.2.1; omega⟩
    exact chain_ok W H b off n c xs k w hp hB
  · rw [show noE (chP W H n m) = 1 from if_neg hp, if_neg hp]
    refine (chain_no W H A n c m w hn hW hH hp).mono ?_
    rintro e w' ⟨rfl, hb⟩
    exact ⟨_, rfl, Imgs.nil _, hb⟩
theorem rchain_any (v : Value) (W H : Int) (xs : List Nat) (m : Int) (w : World) (h : Img w v W H xs) (hW : W ≤ 9223372036854775807) (hH : H ≤ 9223372036854775807) :
    Calls Try.prog 26 #[v, .int .i64 m] w fun e w' => ∃ v', e = .returned (.tuple #[v', .int .i64 (noE (chP W H xs.length m))]) ∧ Imgs w' v' (chR W H xs m) ∧ Below w.heap.size w w' := by
  obtain ⟨A, n, c, rfl, hn, hB⟩ := h
  have hl := hB.1
  unfold chR
  rw [hl]
  by_cases hp : chP W H n m
  · rw [show noE (chP W H n m) = 0 from if_pos hp, if_pos hp]
    obtain ⟨b, off, rfl, _⟩ := hB.2.2 (right_pos hp.1)
    obtain ⟨k, rfl⟩ : ∃ k : Nat, m = (k : Int) := ⟨m.toNat, by have := hp.2.1; omega⟩
    exact rchain_ok W H b off n c xs k w hp hB
  · rw [show noE (chP W H n m) = 1 from if_neg hp, if_neg hp]
    refine (rchain_no W H A n c m w hn hW hH hp).mono ?_
    rintro e w' ⟨rfl, hb⟩
    exact ⟨_, rfl, Imgs.nil _, hb⟩

/-- What lies in a new world stays, where nothing is written. -/
theorem Kn.new_rs {w u : World} {F : List (World → Prop)} (E : Kn w [] F u) {A : Option Addr} {n : Nat} {vs : List Value} (h : Rs u u.heap.size A n vs) : Kn w [] (rsF A n vs :: F) u :=
  E.fact fun u' hk => h.keeps (B := blocks []) (fun b off _ => by simp [blocks]) hk
theorem Kn.new_imgs {w u : World} {F : List (World → Prop)} (E : Kn w [] F u) {vs : List Value} {l : List (Int × Int × List Nat)} (h : imgsF vs l u) : Kn w [] (imgsF vs l :: F) u :=
  E.fact fun u' hk => by
    refine ⟨h.1, fun i t ht => ?_⟩
    obtain ⟨W, H, A, n, c, e, e1, e2, hI⟩ := h.2 i t ht
    obtain ⟨A', n', c', e', hn, hB⟩ := hI
    exact ⟨W, H, A, n, c, e, e1, e2, A', n', c', e', hn, hB.keeps (B := blocks []) (fun b off _ => by simp [blocks]) hk⟩
theorem cellsOf_get : ∀ (vs : List Value) (i k : Nat) (v : Value), (∀ v ∈ vs, v.cells.size = 3) → vs[i]? = some v → k < 3 → (cellsOf vs)[i * 3 + k]? = v.cells.toList[k]?
  | [], i, k, v, _, hi, _ => by simp at hi
  | x :: vs, 0, k, v, h, hi, hk => by
    obtain rfl : x = v := by simpa using hi
    rw [show cellsOf (x :: vs) = x.cells.toList ++ cellsOf vs from by simp [cellsOf]]
    have := h x (by simp)
    rw [List.getElem?_append_left (by simp; omega)]
    simp
  | x :: vs, i + 1, k, v, h, hi, hk => by
    rw [show cellsOf (x :: vs) = x.cells.toList ++ cellsOf vs from by simp [cellsOf]]
    have h3 := h x (by simp)
    rw [List.getElem?_append_right (by simp; omega)]
    rw [show (i + 1) * 3 + k - x.cells.toList.length = i * 3 + k from by simp; omega]
    exact cellsOf_get vs i k v (fun y hy => h y (by simp [hy])) (by simpa using hi) hk
theorem imgsF.three {vs : List Value} {l : List (Int × Int × List Nat)} {u : World} (h : imgsF vs l u) : ∀ v ∈ vs, v.cells.size = 3 := by
  intro v hv
  obtain ⟨i, hi⟩ := List.mem_iff_getElem?.1 hv
  have hl : i < l.length := by rw [← h.1]; exact (List.getElem?_eq_some_iff.1 hi).1
  obtain ⟨W, H, A, n, c, e, _⟩ := h.2 i l[i] (by simp [hl])
  rw [hi] at e
  cases e
  rfl
/-- An image loaded out of a slice of images, in a drawn region. -/
theorem yield_image {w : World} {R : List Res} {F : List (World → Prop)} {ops : Array Oper} {o : Oper} {a : Act} (hw : Region.wanted o (yielded ops a.tmps) = true) {x : Operand} (ho : o.op = .load 24 x) {g off i : Nat} (hx : a.eval x = .pointer (some ⟨g, off + i * 3, none⟩)) {n : Nat} {vs : List Value} {l : List (Int × Int × List Nat)} (h1 : rsF (some ⟨g, off, none⟩) (n * 3) (cellsOf vs) ∈ F) (h2 : imgsF vs l ∈ F) {W H : Int} {A : Option Addr} {m c : Nat} (hv : vs[i]? = some (Go.Proofs.Ytbpdaijmclcbdaa.img W H A m c)) (hn : i < n) :
    YieldsIf Try.prog ops (Kn w R F) o (Go.Proofs.Ytbpdaijmclcbdaa.img W H A m c) a := by
  have inst : Aggr 24 3 := inferInstance
  obtain ⟨d, hu, hd⟩ := inst.desc
  refine yieldsIf_load_mid hw 24 x ho g (off + i * 3) hx (imL W H A m c) d (fun u E j v hj => ?_) hu hd (by rw [inst.size]; rfl)
  obtain ⟨b', off', e, _, hc⟩ := (E.get h1).2 (by omega)
  cases e
  have h3 : j < 3 := (List.getElem?_eq_some_iff.1 hj).1
  rw [Nat.add_assoc]
  refine hc (i * 3 + j) v ?_
  rw [cellsOf_get vs i j _ (imgsF.three (E.get h2)) hv h3]
  exact hj
end Go.Proofs.Ytbpdaijmclcbdaa
