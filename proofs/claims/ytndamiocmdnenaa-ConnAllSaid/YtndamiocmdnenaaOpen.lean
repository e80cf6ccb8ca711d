/- What comes in, opened into my own words. Nothing of the program is named here. -/
import Derived.Test.YtndamiocmdnenaaBase
import Derived.ProofKit
import Derived.OpenShut
import Derived.ShutString
import Derived.ChangeOld
import Derived.Below
import Derived.SliceStrings
namespace Go.Proofs.Ytndamiocmdnenaa
set_option linter.unusedVariables false
set_option maxRecDepth 100000
set_option linter.unusedSimpArgs false
open Go.ChangeShapes Go.WideShapes Go.ChangeAt Go.RowKit

/-- A slice of bytes that came in. -/
structure InB (W : World) (A : Option Addr) (l : List UInt8) (n c : Nat) : Prop where
  rb : Rb W W.heap.size A l
  len : l.length = n
  cap : n ≤ c
  max : c ≤ maxLen
  nil_ : A = none → n = 0 ∧ c = 0

/-- A slice of integers that came in. -/
structure InN (k : IntKind) (W : World) (A : Option Addr) (l : List Int) (n c : Nat) : Prop where
  len : l.length = n
  cap : n ≤ c
  max : c ≤ maxLen
  nil_ : A = none → n = 0 ∧ c = 0
  at_ : n = 0 ∨ ∃ b o, A = some ⟨b, o, none⟩ ∧ b < W.heap.size ∧ ∀ i, (h : i < l.length) → W.cell? ⟨b, o + i, none⟩ = some (.int k l[i])
  wf : ∀ x ∈ l, (Lit.int k x).wf = true

theorem add_plain (b o i : Nat) : (⟨b, o, none⟩ : Addr).add i = ⟨b, o + i, none⟩ := by unfold Addr.add; split <;> simp_all

theorem open_nums {H : Type} {enc : TypeId × Value → H} {P : Program} {W : World} {A : Option Addr} {n c : Nat} {t e : TypeId} {k : IntKind} {d : DataW H} {p : List MemPlace} (ht : P.underlying t = some (.slice e)) (he : P.underlying e = some (.int k)) (hc : P.cellsOf e = 1)
    (h : DataW.Trod enc P W 0 (fun _ => true) true t (.slice A n c) d p) : ∃ l, InN k W A l n c := by
  obtain ⟨fuel, hf⟩ := h
  rcases open_ints ht he hc hf with ⟨hcs, _⟩ | ⟨x, ln, cp, zs, hcs, _, hl, hm, hz, _, hcell, hwz⟩
  · simp [Value.cells] at hcs
    obtain ⟨rfl, rfl, rfl⟩ := hcs
    exact ⟨[], ⟨rfl, Nat.le_refl _, by unfold maxLen; omega, fun _ => ⟨rfl, rfl⟩, .inl rfl, fun x hx => by cases hx⟩⟩
  · simp [Value.cells] at hcs
    obtain ⟨rfl, rfl, rfl⟩ := hcs
    have hzl : zs.length = c := by simpa using hz
    refine ⟨zs.take n, ⟨by rw [List.length_take]; omega, hl, hm, (fun h => by cases h), ?_, fun y hy => hwz y (List.mem_of_mem_take hy)⟩⟩
    by_cases h0 : n = 0
    · exact .inl h0
    · right
      obtain ⟨b, o, spot⟩ := x
      have hc0 := hcell 0 (by omega)
      have hspot : spot = none := by simpa [Addr.add] using World.cell?_spot hc0
      subst hspot
      refine ⟨b, o, rfl, ?_, fun i hi => ?_⟩
      · have := World.block_lt_of_cell? W _ hc0
        rw [add_plain] at this
        exact this
      · have hi' : i < zs.length := by rw [List.length_take] at hi; omega
        have := hcell i hi'
        rw [add_plain] at this
        rw [this]
        simp [List.getD, hi']

theorem open_bytes {H : Type} {enc : TypeId × Value → H} {P : Program} {W : World} {A : Option Addr} {n c : Nat} {t e : TypeId} {d : DataW H} {p : List MemPlace} (ht : P.underlying t = some (.slice e)) (he : P.underlying e = some (.int .u8)) (hc : P.cellsOf e = 1)
    (h : DataW.Trod enc P W 0 (fun _ => true) true t (.slice A n c) d p) : ∃ l, InB W A l n c := by
  obtain ⟨zs, hz⟩ := open_nums ht he hc h
  refine ⟨zs.map fun z => UInt8.ofNat z.toNat, ⟨?_, by rw [List.length_map]; exact hz.len, hz.cap, hz.max, hz.nil_⟩⟩
  rcases hz.at_ with h0 | ⟨b, o, e1, hb, hcell⟩
  · left
    have : zs = [] := List.eq_nil_of_length_eq_zero (by rw [hz.len, h0])
    rw [this]; rfl
  · right
    refine ⟨b, o, e1, hb, fun i hi => ?_⟩
    have hi' : i < zs.length := by simpa using hi
    rw [hcell i hi']
    have hw := hz.wf zs[i] (List.getElem_mem hi')
    have hr : 0 ≤ zs[i] ∧ zs[i] < 256 := by
      have e1 : IntKind.u8.min = 0 := by decide
      have e2 : IntKind.u8.max = 255 := by decide
      simp only [Lit.wf, e1, e2, Bool.and_eq_true, decide_eq_true_eq] at hw
      omega
    have : ((UInt8.ofNat (zs[i].toNat)).toNat : Int) = zs[i] := by
      rw [UInt8.toNat_ofNat']
      omega
    simp only [List.getElem_map]
    rw [this]

end Go.Proofs.Ytndamiocmdnenaa
