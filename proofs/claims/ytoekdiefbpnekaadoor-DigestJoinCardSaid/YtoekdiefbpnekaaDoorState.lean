/- The eight words of a state. Nothing of the program is named here. -/
import Derived.Test.YtoekdiefbpnekaaDoorSched
namespace Go.Proofs.YtoekdiefbpnekaaDoor
set_option linter.unusedVariables false
set_option linter.unusedSimpArgs false

/-- A state as an array's value, and as its cells. -/
abbrev s8 (s : St) : Array Value := #[wd s.a, wd s.b, wd s.c, wd s.d, wd s.e, wd s.f, wd s.g, wd s.h]
abbrev A8 (s : St) : Value := .agg (s8 s)
structure St.Ok (s : St) : Prop where
  a : s.a < 4294967296
  b : s.b < 4294967296
  c : s.c < 4294967296
  d : s.d < 4294967296
  e : s.e < 4294967296
  f : s.f < 4294967296
  g : s.g < 4294967296
  h : s.h < 4294967296
theorem round1_ok {s : St} (h : s.Ok) (k w : Nat) : (round1 s k w).Ok := ⟨wadd_lt _ _, h.a, h.b, h.c, wadd_lt _ _, h.e, h.f, h.g⟩
theorem rounds_ok (w : List Nat) {s : St} (h : s.Ok) : ∀ n, (rounds w s n).Ok
  | 0 => h
  | n + 1 => round1_ok (rounds_ok w h n) _ _
theorem addS_ok (s t : St) : (addS s t).Ok := ⟨wadd_lt _ _, wadd_lt _ _, wadd_lt _ _, wadd_lt _ _, wadd_lt _ _, wadd_lt _ _, wadd_lt _ _, wadd_lt _ _⟩
theorem thr_ok {s : St} (h : s.Ok) (l : List UInt8) : ∀ n, (thr s l n).Ok
  | 0 => h
  | n + 1 => addS_ok _ _
theorem S0_ok : S0.Ok := by constructor <;> decide
/-- The first i words are added. -/
def mix (s r : St) : Nat → St
  | 0 => s
  | 1 => ⟨wadd s.a r.a, s.b, s.c, s.d, s.e, s.f, s.g, s.h⟩
  | 2 => ⟨wadd s.a r.a, wadd s.b r.b, s.c, s.d, s.e, s.f, s.g, s.h⟩
  | 3 => ⟨wadd s.a r.a, wadd s.b r.b, wadd s.c r.c, s.d, s.e, s.f, s.g, s.h⟩
  | 4 => ⟨wadd s.a r.a, wadd s.b r.b, wadd s.c r.c, wadd s.d r.d, s.e, s.f, s.g, s.h⟩
  | 5 => ⟨wadd s.a r.a, wadd s.b r.b, wadd s.c r.c, wadd s.d r.d, wadd s.e r.e, s.f, s.g, s.h⟩
  | 6 => ⟨wadd s.a r.a, wadd s.b r.b, wadd s.c r.c, wadd s.d r.d, wadd s.e r.e, wadd s.f r.f, s.g, s.h⟩
  | 7 => ⟨wadd s.a r.a, wadd s.b r.b, wadd s.c r.c, wadd s.d r.d, wadd s.e r.e, wadd s.f r.f, wadd s.g r.g, s.h⟩
  | _ => addS s r
theorem round1_a (s : St) (k w : Nat) : (round1 s k w).a = wadd (wadd (wadd (wadd (wadd s.h (great s.e 6 11 25)) (wxor (wand s.e s.f) (wand (wnot s.e) s.g))) k) w) (wadd (great s.a 2 13 22) (wxor (wxor (wand s.a s.b) (wand s.a s.c)) (wand s.b s.c))) := by
  rw [round1, rX, rY]
theorem round1_e (s : St) (k w : Nat) : (round1 s k w).e = wadd s.d (wadd (wadd (wadd (wadd s.h (great s.e 6 11 25)) (wxor (wand s.e s.f) (wand (wnot s.e) s.g))) k) w) := by
  rw [round1, rX]
theorem mix_set_0 (s r : St) : (s8 (mix s r 0)).setIfInBounds 0 (wd (wadd s.a r.a)) = s8 (mix s r 1) := by
  simp only [mix, addS, List.setIfInBounds_toArray, List.set_cons_zero, List.set_cons_succ]
theorem mix_set_1 (s r : St) : (s8 (mix s r 1)).setIfInBounds 1 (wd (wadd s.b r.b)) = s8 (mix s r 2) := by
  simp only [mix, addS, List.setIfInBounds_toArray, List.set_cons_zero, List.set_cons_succ]
theorem mix_set_2 (s r : St) : (s8 (mix s r 2)).setIfInBounds 2 (wd (wadd s.c r.c)) = s8 (mix s r 3) := by
  simp only [mix, addS, List.setIfInBounds_toArray, List.set_cons_zero, List.set_cons_succ]
theorem mix_set_3 (s r : St) : (s8 (mix s r 3)).setIfInBounds 3 (wd (wadd s.d r.d)) = s8 (mix s r 4) := by
  simp only [mix, addS, List.setIfInBounds_toArray, List.set_cons_zero, List.set_cons_succ]
theorem mix_set_4 (s r : St) : (s8 (mix s r 4)).setIfInBounds 4 (wd (wadd s.e r.e)) = s8 (mix s r 5) := by
  simp only [mix, addS, List.setIfInBounds_toArray, List.set_cons_zero, List.set_cons_succ]
theorem mix_set_5 (s r : St) : (s8 (mix s r 5)).setIfInBounds 5 (wd (wadd s.f r.f)) = s8 (mix s r 6) := by
  simp only [mix, addS, List.setIfInBounds_toArray, List.set_cons_zero, List.set_cons_succ]
theorem mix_set_6 (s r : St) : (s8 (mix s r 6)).setIfInBounds 6 (wd (wadd s.g r.g)) = s8 (mix s r 7) := by
  simp only [mix, addS, List.setIfInBounds_toArray, List.set_cons_zero, List.set_cons_succ]
theorem mix_set_7 (s r : St) : (s8 (mix s r 7)).setIfInBounds 7 (wd (wadd s.h r.h)) = s8 (mix s r 8) := by
  simp only [mix, addS, List.setIfInBounds_toArray, List.set_cons_zero, List.set_cons_succ]
theorem mix_at_0 (s r : St) : (s8 (mix s r 0))[0]? = some (.int .u32 (s.a : Int)) := by
  simp [s8, mix]
theorem mix_at_1 (s r : St) : (s8 (mix s r 1))[1]? = some (.int .u32 (s.b : Int)) := by
  simp [s8, mix]
theorem mix_at_2 (s r : St) : (s8 (mix s r 2))[2]? = some (.int .u32 (s.c : Int)) := by
  simp [s8, mix]
theorem mix_at_3 (s r : St) : (s8 (mix s r 3))[3]? = some (.int .u32 (s.d : Int)) := by
  simp [s8, mix]
theorem mix_at_4 (s r : St) : (s8 (mix s r 4))[4]? = some (.int .u32 (s.e : Int)) := by
  simp [s8, mix]
theorem mix_at_5 (s r : St) : (s8 (mix s r 5))[5]? = some (.int .u32 (s.f : Int)) := by
  simp [s8, mix]
theorem mix_at_6 (s r : St) : (s8 (mix s r 6))[6]? = some (.int .u32 (s.g : Int)) := by
  simp [s8, mix]
theorem mix_at_7 (s r : St) : (s8 (mix s r 7))[7]? = some (.int .u32 (s.h : Int)) := by
  simp [s8, mix]
theorem mix_8 (s r : St) : mix s r 8 = addS s r := rfl
theorem s8_size (s : St) : (s8 s).size = 8 := rfl
theorem s8_same (s t : St) : (s8 s).size = (s8 t).size := (s8_size s).trans (s8_size t).symm
theorem z8_size (t : St) : (wcells [0, 0, 0, 0, 0, 0, 0, 0]).size = (s8 t).size := (wcells_size _).trans (s8_size t).symm
theorem s8_one (s : St) : (s8 s).all (·.oneCell') = true := by simp [Value.oneCell']
theorem KK_len : KK.length = 64 := rfl
/-- The two tables, as the program lays them. -/
structure Gl (w : World) : Prop where
  size : 1 < w.heap.size
  beg : ∀ k, k < 8 → w.cell? ⟨0, k, none⟩ = some (wd (H0.getD k 0))
  root : ∀ k, k < 64 → w.cell? ⟨1, k, none⟩ = some (wd (KK.getD k 0))
theorem Gl.below {w w' : World} {B : Nat} (h : Gl w) (hb : RowKit.Below B w w') (hB : 1 < B) : Gl w' :=
  ⟨Nat.lt_of_lt_of_le h.size hb.size, fun k hk => (hb.cell (p := ⟨0, k, none⟩) (by show 0 < B; omega)).trans (h.beg k hk), fun k hk => (hb.cell (p := ⟨1, k, none⟩) hB).trans (h.root k hk)⟩
end Go.Proofs.YtoekdiefbpnekaaDoor
