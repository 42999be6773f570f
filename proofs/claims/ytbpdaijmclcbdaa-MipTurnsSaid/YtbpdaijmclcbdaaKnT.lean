/- The types of the program, as the laws of Kn ask for them; images among the facts. -/
import Derived.Test.YtbpdaijmclcbdaaTy
import Derived.Test.YtbpdaijmclcbdaaImSame
import Derived.Test.YtbpdaijmclcbdaaImGather
namespace Go.Proofs.Ytbpdaijmclcbdaa
open Go.RowKit
open Im

instance : Scal 45 := ⟨⟨_, Try.underlying45, rfl⟩, by kernel_rfl⟩
instance : Aggr 24 3 := ⟨⟨_, Try.underlying24, rfl⟩, by kernel_rfl⟩
instance : ZeroV 32 (i64s z64) := .of (by kernel_rfl)
instance : ZeroV 24 (imL 0 0 none 0 0) := .of (by kernel_rfl)
instance : ZeroV 45 [.slice none 0 0] := .of (by kernel_rfl)

def imgF (v : Value) (W H : Int) (xs : List Nat) : World → Prop := fun u => Img u v W H xs
class HasImg (F : List (World → Prop)) (v : Value) (W H : outParam Int) (xs : outParam (List Nat)) : Prop where
  h : imgF v W H xs ∈ F
instance {F : List (World → Prop)} {f : World → Prop} {v : Value} {W H : Int} {xs : List Nat} [T : HasImg F v W H xs] : HasImg (f :: F) v W H xs := ⟨List.mem_cons_of_mem _ T.h⟩
instance {F : List (World → Prop)} {v : Value} {W H : Int} {xs : List Nat} : HasImg (imgF v W H xs :: F) v W H xs := ⟨List.mem_cons_self⟩
theorem Kn.img {w u : World} {R : List Res} {F : List (World → Prop)} (E : Kn w R F u) {v : Value} {W H : Int} {xs : List Nat} [T : HasImg F v W H xs] : Img u v W H xs := E.get T.h
theorem Img.bs {w : World} {W H W' H' : Int} {A : Option Addr} {n c : Nat} {xs : List Nat} (h : Img w (img W H A n c) W' H' xs) : Bs w w.heap.size A n xs := by
  obtain ⟨A', n', c', e, hn, hB⟩ := h
  injection e with e
  injection e with e
  have e3 : Value.slice A n c = .slice A' n' c' := by
    injection e with _ e
    injection e with _ e
    injection e with e _
  injection e3 with e1 e2 _
  subst e1 e2
  exact hB
theorem own_shape {w : World} {B n size : Nat} {e : TypeId} {v : Value} {xs : List Value} (h : w.ownsRow B e size v n xs) (hn : 0 < n) : ∃ g cap, v = .slice (some ⟨g, 0, none⟩) n cap := by
  rcases h.2 with ⟨_, h0⟩ | ⟨g, cap, _, hv, _⟩
  · omega
  · exact ⟨g, cap, hv⟩
/-- A reading that no block of R holds stays. -/
theorem Bs.keeps {u u' : World} {A : Option Addr} {n : Nat} {xs : List Nat} {B : List Nat} (h : Bs u u.heap.size A n xs) (hB : ∀ b off, A = some ⟨b, off, none⟩ → b ∉ B) (hk : Keep B u u') : Bs u' u'.heap.size A n xs := by
  refine ⟨h.1, h.2.1, fun hn => ?_⟩
  obtain ⟨b, off, e, hb, hc⟩ := h.2.2 hn
  refine ⟨b, off, e, Nat.lt_of_lt_of_le hb hk.size, fun i hi => ?_⟩
  rw [World.cell?_of_block (w := u) (hk.block b hb (hB b off e))]
  exact hc i hi
theorem Rs.keeps {u u' : World} {A : Option Addr} {n : Nat} {vs : List Value} {B : List Nat} (h : Rs u u.heap.size A n vs) (hB : ∀ b off, A = some ⟨b, off, none⟩ → b ∉ B) (hk : Keep B u u') : Rs u' u'.heap.size A n vs := by
  refine ⟨h.1, fun hn => ?_⟩
  obtain ⟨b, off, e, hb, hc⟩ := h.2 hn
  refine ⟨b, off, e, Nat.lt_of_lt_of_le hb hk.size, fun i v hv => ?_⟩
  rw [World.cell?_of_block (w := u) (hk.block b hb (hB b off e))]
  exact hc i v hv
/-- What was there when the call began: an image, a slice. -/
theorem Kn.arg_img {w u : World} {R : List Res} {F : List (World → Prop)} (E : Kn w R F u) {v : Value} {W H : Int} {xs : List Nat} (h : Img w v W H xs) : Kn w R (imgF v W H xs :: F) u :=
  E.fact fun u' hk => by
    obtain ⟨A, n, c, e, hn, hB⟩ := h
    refine ⟨A, n, c, e, hn, ?_⟩
    have h2 : Bs u w.heap.size A n xs := hB.below E.bel
    refine ⟨h2.1, h2.2.1, fun hn => ?_⟩
    obtain ⟨b, off, e, hb, hc⟩ := h2.2.2 hn
    have hnot : b ∉ blocks R := fun hm => by
      obtain ⟨r, hr, e'⟩ := mem_blocks.1 hm
      have := (Res.range (E.res r hr) e').1
      omega
    refine ⟨b, off, e, Nat.lt_of_lt_of_le hb (Nat.le_trans E.bel.size hk.size), fun i hi => ?_⟩
    rw [World.cell?_of_block (w := u) (hk.block b (Nat.lt_of_lt_of_le hb E.bel.size) hnot)]
    exact hc i hi
/-- An image that a call has answered, where no block is held for writing. -/
theorem Kn.new_img {w u : World} {F : List (World → Prop)} (E : Kn w [] F u) {v : Value} {W H : Int} {xs : List Nat} (h : Img u v W H xs) : Kn w [] (imgF v W H xs :: F) u :=
  E.fact fun u' hk => by
    obtain ⟨A, n, c, e, hn, hB⟩ := h
    exact ⟨A, n, c, e, hn, hB.keeps (B := blocks []) (fun b off _ => by simp [blocks]) hk⟩
/-- An image whose bytes lie in a block from B on. -/
def ImgN (B : Nat) (w : World) (v : Value) (W H : Int) (xs : List Nat) : Prop := ∃ A n c, v = img W H A n c ∧ n ≤ 67108864 ∧ Bs w w.heap.size A n xs ∧ ∀ b off, A = some ⟨b, off, none⟩ → B ≤ b
theorem ImgN.img {B : Nat} {w : World} {v : Value} {W H : Int} {xs : List Nat} (h : ImgN B w v W H xs) : Img w v W H xs := by
  obtain ⟨A, n, c, e, hn, hB, _⟩ := h
  exact ⟨A, n, c, e, hn, hB⟩
theorem ImgN.nil (B : Nat) (w : World) : ImgN B w (Go.Proofs.Ytbpdaijmclcbdaa.img 0 0 none 0 0) 0 0 [] := ⟨none, 0, 0, rfl, by omega, Bs.nil w _ _, fun b off e => by cases e⟩
/-- An image that a call has answered in a new block. -/
theorem Kn.fresh_img {w u u' : World} {R : List Res} {F : List (World → Prop)} (E : Kn w R F u) (hb : Below u.heap.size u u') {v : Value} {W H : Int} {xs : List Nat} (h : ImgN u.heap.size u' v W H xs) : Kn w R (imgF v W H xs :: F) u' :=
  (E.later hb).fact fun u'' hk => by
    obtain ⟨A, n, c, e, hn, hB, hf⟩ := h
    refine ⟨A, n, c, e, hn, hB.keeps (fun b off e' hm => ?_) hk⟩
    obtain ⟨r, hr, er⟩ := mem_blocks.1 hm
    have h1 := (Res.range (E.res r hr) er).2
    have h2 := hf b off e'
    omega
end Go.Proofs.Ytbpdaijmclcbdaa
