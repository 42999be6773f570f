/- Fields of a block laid: the program's closure, the document's 'set'. -/
import Derived.Test.YtgcijioiicmjiaaDoorE1Part
import Derived.Test.YtgcijioiicmjiaaDoorBcJoin
import Derived.Test.YtgcijioiicmjiaaDoorBitRset
set_option linter.all false
namespace Go.Proofs.YtgcijioiicmjiaaDoor
open Go.RowKit
open Bi Lv Eo

namespace Eo
theorem uw_small {z : Int} (h : 0 ≤ z ∧ z < 65536) : IntKind.u64.wrap z = ((z.toNat : Nat) : Int) := by
  rw [IntKind.wrap_u64]; omega
theorem setE_high {p m N : Nat} (hp : p + m ≤ 64) (hN : N < 2 ^ m) : setE 8 (p : Int) (m : Int) N = 0 := by
  unfold setE
  rw [getE_zero (by omega) (by omega), if_pos rfl, if_pos (by simpa using hN)]
end Eo
instance {A : Option Addr} {n c g : Nat} {t : TypeId} {R : List Res} [H : NoU8 R] : NoU8 (.row g t [.slice A n c] :: R) := ⟨fun {B u} hr b hb i x hc => by
  rw [mem_blocks] at hb
  obtain ⟨r, hm, e⟩ := hb
  rcases List.mem_cons.1 hm with rfl | hm
  · have hrow : Row u g t [.slice A n c] := (hr _ List.mem_cons_self).2
    cases e
    rw [cell_of_row u g i _ _ (0, 0) hrow] at hc
    have hmem : Value.int .u8 x ∈ [Value.slice A n c] := by
      have := List.mem_of_getElem? (by simpa using hc)
      exact this
    simp at hmem
  · exact H.h (fun s hs => hr s (List.mem_cons_of_mem _ hs)) b (mem_blocks.2 ⟨r, hm, e⟩) i x hc⟩
end Go.Proofs.YtgcijioiicmjiaaDoor
