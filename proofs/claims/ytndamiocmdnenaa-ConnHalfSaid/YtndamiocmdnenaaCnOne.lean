/- A table of one connection; plain. (Written by gen_cnhalf.py.) -/
import Derived.Test.YtndamiocmdnenaaCnH
namespace Go.Proofs.Ytndamiocmdnenaa
set_option linter.unusedVariables false
set_option maxRecDepth 100000
set_option linter.unusedSimpArgs false
open Go.RowKit

/-- The table of one connection, of number 1. -/
def tOne (c : Cn) : Tc := ⟨[(1, c)], 1⟩
theorem one_f (c : Cn) : (tOne c).f 1 = some c := by unfold tOne Tc.f fnC; rw [if_pos rfl]
theorem one_up (c d : Cn) : (tOne c).up 1 d = tOne d := by unfold tOne Tc.up upC; simp
theorem open_one {a : Int} : opC tc0 a = ((1, 0), tOne (cn0 a)) := by rfl
theorem gc_one {c : Cn} (h : c.q.length ≤ 512 ∧ c.w.length ≤ 1024 ∧ c.cr ≤ 1073741824) : Gc (tOne c) := ⟨by simp [tOne], by simp [tOne], by simp [tOne], fun p hp => by
  have : p = (1, c) := by simpa [tOne] using hp
  rw [this]; exact h⟩
theorem one_fe {c c2 : Cn} {B : List UInt8} {r : Nat} (h : Gc (tOne c)) (e : fe1 c B = (r, c2)) : feC (tOne c) 1 B = (r, tOne c2) := by rw [fe_hit h (one_f c), e, one_up]
theorem one_ca (c : Cn) : caC (tOne c) 1 = c.q.length := by unfold caC; rw [one_f]
theorem one_wa (c : Cn) : waC (tOne c) 1 = c.w.length := by unfold waC; rw [one_f]
theorem one_ro (c : Cn) : roC (tOne c) 1 = 1024 - c.w.length := by unfold roC; rw [one_f]
theorem one_cr (c : Cn) : crC (tOne c) 1 = c.cr := by unfold crC; rw [one_f]
theorem one_en (c : Cn) : enC (tOne c) 1 = c.en := by unfold enC; rw [one_f]
theorem one_ne {c c2 : Cn} {r : List UInt8 × Bool × Int} (h : Gc (tOne c)) (e : ne1 c = (r, c2)) : neC (tOne c) 1 = (r, tOne c2) := by rw [ne_hit h (one_f c), e, one_up]
theorem one_re {c c2 : Cn} {x : Int} {r : List UInt8} (e : re1 c x = (r, c2)) : reC (tOne c) 1 x = (r, tOne c2) := by rw [re_hit (one_f c), e, one_up]
theorem one_sa {c c2 : Cn} {B : List UInt8} {r : Bool} (h : Gc (tOne c)) (e : sa1 c B = (r, c2)) : saC (tOne c) 1 B = (r, tOne c2) := by rw [sa_hit h (one_f c), e, one_up]
theorem one_bu {c c2 : Cn} {x : Int} {r : Bool} (h : Gc (tOne c)) (e : bu1 c x = (r, c2)) : buC (tOne c) 1 x = (r, tOne c2) := by rw [bu_hit h (one_f c), e, one_up]
theorem one_fl {c : Cn} {l : List UInt8} (e : c.w.take c.cr = l) : flC (tOne c) 1 = (l, tOne (fl1 c).2) := by rw [fl_hit (one_f c), one_up]; exact Prod.ext e rfl
theorem one_fl0 {c : Cn} (e : c.w = []) : flC (tOne c) 1 = ([], tOne (fl1 c).2) := one_fl (by rw [e]; simp)
theorem one_ha {c c2 : Cn} {r : Bool} (h : Gc (tOne c)) (e : ha1 c = (r, c2)) : haC (tOne c) 1 = (r, tOne c2) := by rw [ha_hit h (one_f c), e, one_up]
end Go.Proofs.Ytndamiocmdnenaa
