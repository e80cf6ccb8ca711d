/- The walk of SyntaxNets. (Written by gen_slaws.py.) -/
import Derived.Test.YtmdijhfkobcbjaaSNetsA
import Derived.Test.YtmdijhfkobcbjaaSNetsB
import Derived.Test.YtmdijhfkobcbjaaSNetsC
import Derived.Test.YtmdijhfkobcbjaaSNetsD
namespace Go.Proofs.Ytmdijhfkobcbjaa
set_option linter.unusedVariables false
set_option linter.unusedSimpArgs false
open Go.RowKit

theorem walk_SyntaxNets (a0 b0 i0 k0 : Int) (W : World) (wa : (Lit.int .u32 a0).wf = true) (wb : (Lit.int .u32 b0).wf = true) (wi : (Lit.int .u8 i0).wf = true) (wk : (Lit.int .u8 k0).wf = true) :
    Calls Try.prog 5 #[.int .u32 a0, .int .u32 b0, .int .u8 i0, .int .u8 k0] W fun e w' => e = .returned (.bool true) ∧ Below W.heap.size W w' := by
  obtain ⟨a, ha, rfl⟩ := nat_u32 a0 wa
  obtain ⟨b, hb, rfl⟩ := nat_u32 b0 wb
  obtain ⟨i, hi, rfl⟩ := nat_u8 i0 wi
  obtain ⟨k, hk, rfl⟩ := nat_u8 k0 wk
  by_cases hs : i % 33 ≤ k % 33
  · cases hI : inB (firstN (i % 33) a) ((i % 33 : Nat) : Int) (firstN (k % 33) b) with
    | true => exact nets_a a b i k ha hb hi hk W hs hI
    | false => exact nets_b a b i k ha hb hi hk W hs hI
  · cases hI : inB (firstN (k % 33) b) ((k % 33 : Nat) : Int) (firstN (i % 33) a) with
    | true => exact nets_c a b i k ha hb hi hk W hs hI
    | false => exact nets_d a b i k ha hb hi hk W hs hI
end Go.Proofs.Ytmdijhfkobcbjaa
