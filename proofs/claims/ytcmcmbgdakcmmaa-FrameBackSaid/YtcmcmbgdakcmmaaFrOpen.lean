/- Slices of slices of bytes that came in. -/
import Derived.Test.YtcmcmbgdakcmmaaOpen
import Derived.Test.YtcmcmbgdakcmmaaFrs
import Derived.Deep.Matrix
namespace Go.Proofs.Ytcmcmbgdakcmmaa
set_option linter.unusedVariables false
set_option linter.unusedSimpArgs false
open Go.ChangeShapes Go.WideShapes Go.ChangeAt Go.RowKit

/-- A slice of slices of bytes that came in. -/
structure InF (W : World) (A : Option Addr) (L : List (List UInt8)) (n c : Nat) : Prop where
  rl : Rl W W.heap.size A L
  len : L.length = n
  cap : n ≤ c
  max : c ≤ maxLen
  nil_ : A = none → n = 0 ∧ c = 0

/-- The bytes that numbers are. -/
def byL (zs : List Int) : List UInt8 := zs.map fun z => UInt8.ofNat z.toNat
theorem els_of (W : World) (B : Nat) (V : Nat → Value) (X : Nat → List UInt8) : ∀ (n s : Nat), (∀ r, r < n → ∃ A c, V (s + r) = .slice A (X (s + r)).length c ∧ El W B A c (X (s + r))) → Els W B ((List.range' s n).map V) ((List.range' s n).map X)
  | 0, _, _ => trivial
  | n + 1, s, h => by
    rw [List.range'_succ, List.map_cons, List.map_cons]
    refine ⟨h 0 (by omega), els_of W B V X n (s + 1) (fun r hr => ?_)⟩
    have := h (r + 1) (by omega)
    rwa [show s + (r + 1) = s + 1 + r by omega] at this

theorem open_frs {H : Type} {enc : TypeId × Value → H} {P : Program} {W : World} {A : Option Addr} {n c : Nat} {t e q : TypeId} {d : DataW H} {p : List MemPlace} (ht : P.underlying t = some (.slice e)) (he : P.underlying e = some (.slice q)) (hq : P.underlying q = some (.int .u8)) (ce : P.cellsOf e = 1) (cq : P.cellsOf q = 1)
    (h : DataW.Trod enc P W 0 (fun _ => true) true t (.slice A n c) d p) : ∃ L, InF W A L n c := by
  obtain ⟨fuel, hf⟩ := h
  rcases Go.Deep.open_int_rows ht he hq ce cq hf with ⟨hcs, _⟩ | ⟨a, len, cap, A', L', C', Z', hcs, _, hl, hm, _, hrow⟩
  · simp [Value.cells] at hcs
    obtain ⟨rfl, rfl, rfl⟩ := hcs
    exact ⟨[], ⟨⟨[], trivial, .inl rfl⟩, rfl, Nat.le_refl _, by unfold maxLen; omega, fun _ => ⟨rfl, rfl⟩⟩⟩
  · simp [Value.cells] at hcs
    obtain ⟨rfl, rfl, rfl⟩ := hcs
    refine ⟨(List.range' 0 n).map fun r => byL ((Z' r).take (L' r)), ⟨⟨(List.range' 0 n).map fun r => .slice (A' r) (L' r) (C' r), ?_, ?_⟩, by simp, hl, hm, fun h => by cases h⟩⟩
    · refine els_of W W.heap.size (fun r => .slice (A' r) (L' r) (C' r)) (fun r => byL ((Z' r).take (L' r))) n 0 (fun r hr => ?_)
      rw [Nat.zero_add]
      obtain ⟨h1, h2, h3, h4, h5, h6, h7⟩ := hrow r (by omega)
      have hlen : (byL ((Z' r).take (L' r))).length = L' r := by
        unfold byL
        rw [List.length_map, List.length_take]
        omega
      refine ⟨A' r, C' r, by rw [hlen], ?_⟩
      have hrb : Rb W W.heap.size (A' r) (byL ((Z' r).take (L' r))) := by
        by_cases h0 : L' r = 0
        · left
          exact List.eq_nil_of_length_eq_zero (by rw [hlen, h0])
        · right
          cases hA : A' r with
          | none => have := h6 hA; omega
          | some ad =>
            obtain ⟨_, hc⟩ := h7 ad hA
            obtain ⟨b, o, spot⟩ := ad
            have hc0 := hc 0 (by omega)
            have hspot : spot = none := by simpa [Addr.add] using World.cell?_spot hc0
            subst hspot
            refine ⟨b, o, rfl, ?_, fun i hi => ?_⟩
            · have := World.block_lt_of_cell? W _ hc0
              rw [add_plain] at this
              exact this
            · have hi0 := hi
              rw [hlen] at hi
              have hiZ : i < (Z' r).length := by omega
              have := hc i (by omega)
              rw [add_plain] at this
              rw [this]
              have hg : (Z' r).getD i 0 = (Z' r)[i] := by simp [List.getD, hiZ]
              rw [hg]
              have hw := h5 (Z' r)[i] (List.getElem_mem hiZ)
              have hb : 0 ≤ (Z' r)[i] ∧ (Z' r)[i] < 256 := by
                have e1 : IntKind.u8.min = 0 := by decide
                have e2 : IntKind.u8.max = 255 := by decide
                simp only [Lit.wf, e1, e2, Bool.and_eq_true, decide_eq_true_eq] at hw
                omega
              have e : ((UInt8.ofNat ((Z' r)[i]).toNat).toNat : Int) = (Z' r)[i] := by
                rw [UInt8.toNat_ofNat']
                omega
              have e3 : (byL ((Z' r).take (L' r)))[i]? = some (UInt8.ofNat ((Z' r)[i]).toNat) := by
                unfold byL
                rw [List.getElem?_map, List.getElem?_take_of_lt hi, List.getElem?_eq_getElem hiZ]; rfl
              have e4 : (byL ((Z' r).take (L' r)))[i] = UInt8.ofNat ((Z' r)[i]).toNat := by
                rw [List.getElem?_eq_getElem hi0] at e3
                exact Option.some.inj e3
              rw [e4, e]
      exact hrb.el (Nat.le_refl _) (by rw [hlen]; exact h2) (by unfold maxLen at h3; omega) (fun hA => by rw [hlen]; have := h6 hA; omega)
    · by_cases h0 : n = 0
      · left; rw [h0]; rfl
      · right
        obtain ⟨b, o, spot⟩ := a
        have hc0 := (hrow 0 (by omega)).1
        have hspot : spot = none := by simpa [Addr.add] using World.cell?_spot hc0
        subst hspot
        refine ⟨b, o, rfl, ?_, fun i u hu => ?_⟩
        · have := World.block_lt_of_cell? W _ hc0
          rw [add_plain] at this
          exact this
        · have hi := (List.getElem?_eq_some_iff.1 hu).1
          simp at hi
          have := (hrow i (by omega)).1
          rw [add_plain] at this
          rw [this]
          have e : ((List.range' 0 n).map fun r => Value.slice (A' r) (L' r) (C' r))[i]? = some (.slice (A' i) (L' i) (C' i)) := by
            rw [List.getElem?_map, List.getElem?_range' hi]
            simp
          rw [e] at hu
          exact hu
end Go.Proofs.Ytcmcmbgdakcmmaa
