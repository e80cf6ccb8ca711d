/- Of a number that is no connection's all is nothing; plain. (Written by gen_cnnone.py.) -/
import Derived.Test.YtndamiocmdnenaaCnH
namespace Go.Proofs.Ytndamiocmdnenaa
set_option linter.unusedVariables false
set_option maxRecDepth 100000
set_option linter.unusedSimpArgs false
open Go.RowKit
theorem none_ne {t : Tc} {i : Int} (h : t.f i = none) : neC t i = (([], false, 0), t) := by unfold neC; rw [h]
theorem none_cl {t : Tc} {i : Int} (h : t.f i = none) : clC t i = (false, t) := by unfold clC hsC; rw [h]; rfl
theorem none_fe {t : Tc} {i : Int} (h : t.f i = none) (B : List UInt8) : feC t i B = (0, t) := by unfold feC; rw [h]
theorem none_re {t : Tc} {i : Int} (h : t.f i = none) (n : Int) : reC t i n = ([], t) := by unfold reC; rw [h]
theorem none_sa {t : Tc} {i : Int} (h : t.f i = none) (B : List UInt8) : saC t i B = (false, t) := by unfold saC; rw [h]
theorem none_bu {t : Tc} {i : Int} (h : t.f i = none) (n : Int) : buC t i n = (false, t) := by unfold buC; rw [h]
theorem none_fl {t : Tc} {i : Int} (h : t.f i = none) : flC t i = ([], t) := by unfold flC; rw [h]
theorem none_ha {t : Tc} {i : Int} (h : t.f i = none) : haC t i = (false, t) := by unfold haC; rw [h]
theorem none_ca {t : Tc} {i : Int} (h : t.f i = none) : caC t i = 0 := by unfold caC; rw [h]
theorem none_wa {t : Tc} {i : Int} (h : t.f i = none) : waC t i = 0 := by unfold waC; rw [h]
theorem none_ro {t : Tc} {i : Int} (h : t.f i = none) : roC t i = 0 := by unfold roC; rw [h]
theorem none_cr {t : Tc} {i : Int} (h : t.f i = none) : crC t i = 0 := by unfold crC; rw [h]
theorem none_en {t : Tc} {i : Int} (h : t.f i = none) : enC t i = false := by unfold enC; rw [h]
theorem none_ad {t : Tc} {i : Int} (h : t.f i = none) : adC t i = 0 := by unfold adC; rw [h]
theorem none_hs {t : Tc} {i : Int} (h : t.f i = none) : hsC t i = false := by unfold hsC; rw [h]; rfl
theorem hs_none {t : Tc} {i : Int} (h : hsC t i = false) : t.f i = none := by
  unfold hsC at h
  cases hh : t.f i with
  | none => rfl
  | some c => rw [hh] at h; cases h
end Go.Proofs.Ytndamiocmdnenaa
