/- The document's own vault: New: its contract. (Written by gen_vtref.py.) -/
import Derived.Test.YtijboiepockmjaaDoorVtRef
import Derived.Test.YtijboiepockmjaaDoorRRight
namespace Go.Proofs.YtijboiepockmjaaDoor
set_option linter.unusedVariables false
set_option maxRecDepth 100000
set_option linter.unusedSimpArgs false
open Go.RowKit

/-- What New leaves. -/
def RnP (C : Bool) (xr : Rcf) (u : World) (e : Ending) (u' : World) : Prop := (C = false → e = .returned (.pointer none)) ∧ (C = true → ∃ rb, e = .returned (.pointer (some ⟨rb, 0, none⟩)) ∧ u.heap.size ≤ rb ∧ Rz u' rb u'.heap.size xr []) ∧ Below u.heap.size u u'
set_option maxHeartbeats 2000000 in
theorem rvnew_ok (x : Cv) (w : World) (h : RC w x) (u : World) (hu : Below w.heap.size w u) :
    Calls Tryd.prog 13 #[.agg (ccs x)] u (RnP (cfgB x.cg) ⟨x.wait, x.grace, x.idle, x.lease, x.A, x.ts.length, x.c, x.ts⟩ u) := by
  have HR := Lib.hid (fun v (hv : Below u.heap.size u v) => rfright_ok x v (h.on (hu.trans (hv.mono hu.size))))
  obtain ⟨C, hC⟩ : ∃ C, cfgB x.cg = C := ⟨_, rfl⟩
  rw [hC] at HR ⊢
  obtain ⟨a0, a1, a2, a3, ts, A, cp⟩ := x
  obtain ⟨n, hn⟩ : ∃ n, ts.length = n := ⟨_, rfl⟩
  simp only [ccs, hn] at HR ⊢
  have H1 := Lib.hid (show Bx u u.heap.size 24 #[.int .i64 a0, .int .i64 a1, .int .i64 a2, .int .i64 a3, .slice A n cp] (u.alloc (.cells #[.int .i64 a0, .int .i64 a1, .int .i64 a2, .int .i64 a3, .slice A n cp] 24)) from Bx.new _ _ _)
  clear h hn hC hu
  go_enter Tryd.func13, Tryd.ntmps13
  cases C with
  | false =>
    go_wp2_with (go_at_call 28; (with_reducible refine (HR.out _ H1.out.l).mono ?_); rintro e u2 ⟨rfl, hb⟩; have H2 := Lib.hid (H1.out.on hb); clear hb)
    go_ret
    exact ⟨fun _ => rfl, fun h => (by cases h), H2.out.l⟩
  | true =>
    go_wp2_with (go_at_call 28; (with_reducible refine (HR.out _ H1.out.l).mono ?_); rintro e u2 ⟨rfl, hb⟩; have H2 := Lib.hid (H1.out.on hb); clear hb; have e0 : u2.cell? ⟨u.heap.size, 0, none⟩ = some (.int .i64 a0) := H2.out.b.cell 0; have e1 : u2.cell? ⟨u.heap.size, 1, none⟩ = some (.int .i64 a1) := H2.out.b.cell 1; have e2 : u2.cell? ⟨u.heap.size, 2, none⟩ = some (.int .i64 a2) := H2.out.b.cell 2; have e3 : u2.cell? ⟨u.heap.size, 3, none⟩ = some (.int .i64 a3) := H2.out.b.cell 3; have e4 : u2.cell? ⟨u.heap.size, 4, none⟩ = some (.slice A n cp) := H2.out.b.cell 4)
    have hk := Bk.new u2 64 #[.int .i64 a0, .int .i64 a1, .int .i64 a2, .int .i64 a3, .slice A n cp, .slice none 0 0]
    go_ret
    exact ⟨fun h => (by cases h), fun _ => ⟨u2.heap.size, rfl, H2.out.l.size, ⟨none, 0, hk, Ow.nil _ _⟩, hk.lt, Nat.le_refl _⟩, H2.out.l.alloc H2.out.l.size _⟩
end Go.Proofs.YtijboiepockmjaaDoor
