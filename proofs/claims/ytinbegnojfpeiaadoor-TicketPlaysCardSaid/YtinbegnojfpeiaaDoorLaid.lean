/- What the two tables hold when the call begins: out of the row's condition. -/
import Derived.Test.YtinbegnojfpeiaaDoorG2
import Derived.Test.YtinbegnojfpeiaaDoorRows
import Derived.ProofKit
import Derived.LaidMore
import Derived.OpenShut
import Derived.Stop.Joined
namespace Go.Proofs.YtinbegnojfpeiaaDoor
open Go.ChangeShapes Go.WideShapes Go.ChangeAt Go.WideMaps Go.WideElems Go.RowKit
set_option linter.unusedVariables false
set_option maxRecDepth 100000
set_option linter.unusedSimpArgs false

def laid2 {H : Type} : List (String × DataW H) := [("subway/digest.beginning", Rows.laid_subway_digest_beginning), ("subway/digest.roots", Rows.laid_subway_digest_roots)]
theorem gBeg : Tryd.prog.globalNamed "subway/digest.beginning" = some 0 := by kernel_rfl
theorem gRoots : Tryd.prog.globalNamed "subway/digest.roots" = some 1 := by kernel_rfl
theorem tBeg : (Tryd.prog.globals[0]?).map (·.type) = some 80 := by kernel_rfl
theorem tRoots : (Tryd.prog.globals[1]?).map (·.type) = some 95 := by kernel_rfl
theorem cWord : Tryd.prog.cellsOf 79 = 1 := by kernel_rfl

theorem laid_words {H : Type} {enc : TypeId × Value → H} {P : Program} {W : World} {base : Nat} {spare : Nat → Bool} {held : Bool} {fuel : Nat} {t e : TypeId} {n : Nat} {cs : List Value} {l : List Nat} {p : List MemPlace}
    (ht : P.underlying t = some (.array n e)) (he : P.underlying e = some (.int .u32)) (hc : P.cellsOf e = 1) (hn : l.length = n)
    (h : DataW.trod enc P W base spare held fuel t cs = some (.agg (l.map fun x : Nat => .lit (.int .u32 (x : Int))), p)) : ∀ i, i < l.length → cs[i]? = some (.int .u32 ((l.getD i 0 : Nat) : Int)) := by
  obtain ⟨xs, m, rfl, hx, hl, hxn, hel⟩ := DataW.trod_array ht h
  intro i hi
  have h1 := hel i (by omega)
  rw [hc, Nat.mul_one] at h1
  have hix : i < xs.length := by omega
  rw [List.getElem?_eq_getElem hix] at h1
  obtain ⟨k, hk1, hk2, _⟩ := DataW.trod_int he h1
  injection hx with hx1 _
  injection hx1 with hx1
  have h2 : (xs.map (·.1))[i]? = some (.lit (.int .u32 k)) := by rw [List.getElem?_map, List.getElem?_eq_getElem hix, hk2]; rfl
  rw [← hx1, List.getElem?_map, List.getElem?_eq_getElem hi] at h2
  have h3 : ((l[i] : Nat) : Int) = k := by simpa using h2
  have h4 : (cs.drop i)[0]? = some (.int .u32 k) := by
    have : ((cs.drop i).take 1)[0]? = some (.int .u32 k) := by rw [hk1]; rfl
    rwa [List.getElem?_take_of_lt (by omega)] at this
  rw [List.getElem?_drop, Nat.add_zero] at h4
  rw [h4, List.getD, List.getElem?_eq_getElem hi, Option.getD_some, h3]

theorem of_laid {W : World} (h : laidMetH Tryd.prog laid2 W) : Gl W := by
  rw [MakeChecks.laidMetH_plain _ _ _ (by kernel_rfl)] at h
  obtain ⟨ps, ⟨g0, t0, cs0, f0, p0, q0, hg0, ht0, hv0, hd0, ⟨g1, t1, cs1, f1, p1, q1, hg1, ht1, hv1, hd1, _, _⟩, _⟩, _, _⟩ := h
  obtain rfl := Option.some.inj (gBeg.symm.trans hg0)
  obtain rfl := Option.some.inj (gRoots.symm.trans hg1)
  obtain rfl := Option.some.inj (tBeg.symm.trans ht0)
  obtain rfl := Option.some.inj (tRoots.symm.trans ht1)
  have h0 := laid_words (l := H0) Tryd.underlying80 Tryd.underlying79 cWord rfl hd0
  have h1 := laid_words (l := KK) Tryd.underlying95 Tryd.underlying79 cWord rfl hd1
  have hb : ∀ k, k < 8 → W.cell? ⟨0, k, none⟩ = some (wd (H0.getD k 0)) := fun k hk => by
    have := h0 k hk
    rw [World.var?_cell hg0 hv0 k]
    simpa using this
  have hr : ∀ k, k < 64 → W.cell? ⟨1, k, none⟩ = some (wd (KK.getD k 0)) := fun k hk => by
    have := h1 k hk
    rw [World.var?_cell hg1 hv1 k]
    simpa using this
  exact ⟨⟨World.block_lt_of_cell? W _ (hb 0 (by omega)), World.block_lt_of_cell? W _ (hr 0 (by omega))⟩, hb, hr⟩

/-- The door's own heap meets the condition. -/
theorem door_met (os : Os) (args : Array Value) : laidMetH Tryd.prog laid2 ((World.doorLaid Tryd.prog 400 os).forCall (fun _ _ => 0) ⟨#[], args, []⟩).memory :=
  laidMetH_of_parts3 (fuel := 8) (laidMet_of_run' 8 (by kernel_rfl) (by kernel_rfl)) (by kernel_rfl) (by kernel_rfl)
end Go.Proofs.YtinbegnojfpeiaaDoor
