/- Images whose bytes are a row of the call's own. -/
import Derived.Test.YtbpdaijmclcbdaaKnT
import Derived.Test.YtbpdaijmclcbdaaKnG
namespace Go.Proofs.Ytbpdaijmclcbdaa
open Go.RowKit
open Im

section
variable {w u : World} {R R' : List Res} {F : List (World → Prop)}
/-- An image whose bytes are such a row. -/
theorem Kn.own_img (E : Kn w R F u) {g n cap : Nat} {e : TypeId} {xs : List Nat} [H : HasOwnAt R g n cap e 1 (u8s xs)] (hx : ∀ x ∈ xs, x < 256) (hn : n ≤ 67108864) (W Hh : Int) : Img u (Go.Proofs.Ytbpdaijmclcbdaa.img W Hh (some ⟨g, 0, none⟩) n cap) W Hh xs := by
  have h := E.res _ H.h
  have hl : xs.length = n := by have := h.1; rwa [u8s_length, Nat.mul_one] at this
  refine ⟨_, n, cap, rfl, hn, hl, hx, fun h0 => ⟨g, 0, rfl, (Res.range h rfl).2, fun i hi => ?_⟩⟩
  rw [Nat.zero_add]
  exact own_cell h (u8s_getElem? xs i (by omega))
theorem Kn.own_imgN (E : Kn w R F u) {g n cap : Nat} {e : TypeId} {xs : List Nat} [H : HasOwnAt R g n cap e 1 (u8s xs)] (hx : ∀ x ∈ xs, x < 256) (hn : n ≤ 67108864) (W Hh : Int) : ImgN w.heap.size u (Go.Proofs.Ytbpdaijmclcbdaa.img W Hh (some ⟨g, 0, none⟩) n cap) W Hh xs := by
  refine ⟨_, n, cap, rfl, hn, Img.bs (E.own_img hx hn W Hh), fun b off e => ?_⟩
  cases e
  exact (Res.range (E.res _ H.h) rfl).1
end
end Go.Proofs.Ytbpdaijmclcbdaa
