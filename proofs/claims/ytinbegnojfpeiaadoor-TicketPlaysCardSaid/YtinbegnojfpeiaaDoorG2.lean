/- Arr, Sched, State, HexMath, Region, Iw, Bits: texts of this seat, one behind the other. -/
import Derived.Test.YtinbegnojfpeiaaDoorG1
import Derived.Laws.Rows
import Derived.Laws.Tables
import Derived.Laws.CopyOwn
import Derived.Deep.RegionHeld3
import Derived.Test.YtinbegnojfpeiaaDoorChecked
import Derived.Deep.QuietTactic
import Derived.BigQuiet
/- Arrays of words in memory, known whole. Nothing of the program is named here. -/
namespace Go.Proofs.YtinbegnojfpeiaaDoor
set_option linter.unusedVariables false
set_option maxRecDepth 100000
set_option linter.unusedSimpArgs false
open Go.RowKit

/-- Words as cells. -/
def wcells (l : List Nat) : Array Value := (l.map wd).toArray
theorem wcells_size (l : List Nat) : (wcells l).size = l.length := by simp [wcells]
theorem wcells_at (l : List Nat) (i : Nat) (h : i < l.length) : (wcells l)[i]? = some (wd (l.getD i 0)) := by simp [wcells, h, List.getD]
theorem wcells_one (l : List Nat) : (wcells l).all (·.oneCell') = true := by
  rw [Array.all_eq_true_iff_forall_mem]
  intro v hv
  simp only [wcells, List.mem_toArray, List.mem_map] at hv
  obtain ⟨x, _, rfl⟩ := hv
  rfl
/-- The first words of n, the others 0. -/
def pre (l : List Nat) (n : Nat) : List Nat := l ++ List.replicate (n - l.length) 0
theorem pre_len (l : List Nat) (n : Nat) (h : l.length ≤ n) : (pre l n).length = n := by simp [pre]; omega
theorem pre_full (l : List Nat) (n : Nat) (h : l.length = n) : pre l n = l := by simp [pre, h]
theorem pre_at (l : List Nat) (n j : Nat) (h : j < l.length) : (pre l n).getD j 0 = l.getD j 0 := by
  simp [pre, List.getD, List.getElem?_append, h]
theorem wcells_set (l : List Nat) (i x : Nat) : (wcells l).setIfInBounds i (wd x) = wcells (l.set i x) := by
  simp [wcells, List.map_set]
theorem pre_set (l : List Nat) (n x : Nat) (h : l.length < n) : (pre l n).set l.length x = pre (l ++ [x]) n := by
  unfold pre
  obtain ⟨k, hk⟩ : ∃ k, n - l.length = k + 1 := ⟨n - l.length - 1, by omega⟩
  have e : n - (l ++ [x]).length = k := by simp; omega
  rw [hk, e, List.set_append_right _ _ (Nat.le_refl _), Nat.sub_self, List.replicate_succ, List.set_cons_zero]
  simp

theorem take_next (l : List Nat) (i : Nat) (h : i < l.length) : l.take i ++ [l.getD i 0] = l.take (i + 1) := by
  rw [List.take_add_one, List.getD, List.getElem?_eq_getElem h]; rfl
/-- The cell that is written next, and what lies there then. -/
theorem pre_next (l : List Nat) (n i x : Nat) (hn : l.length = n) (hi : i < n) (hx : l.getD i 0 = x) :
    (wcells (pre (l.take i) n))[i]? = some (wd 0) ∧ (wcells (pre (l.take i) n)).setIfInBounds i (wd x) = wcells (pre (l.take (i + 1)) n) := by
  have hl : (l.take i).length = i := by rw [List.length_take]; omega
  constructor
  · rw [wcells_at _ _ (by rw [pre_len _ _ (by omega)]; exact hi)]
    congr 2
    unfold pre
    rw [List.getD, List.getElem?_append_right (by omega), hl, Nat.sub_self]
    rw [List.getElem?_replicate]
    split <;> rfl
  · rw [wcells_set, ← take_next l i (by omega), hx]
    have := pre_set (l.take i) n x (by omega)
    rw [hl] at this
    rw [this]
theorem splice_pre (l : List Nat) (n : Nat) (h : l.length ≤ n) : splice ((pre [] n).map wd) 0 (l.map wd) = (pre l n).map wd := by
  simp only [splice, pre, List.take_zero, List.nil_append, List.length_map, Nat.zero_add, List.length_nil, Nat.sub_zero, List.map_replicate, List.drop_replicate, List.map_append]
/-- One array is being filled: all below it stands, and but for one place it is as it was. -/
def Fill (wr : World) (g : Nat) (t : TypeId) (C : Array Value) (i : Nat) (u : World) : Prop := Below g wr u ∧ ∃ x, Bk u g t (C.setIfInBounds i x)
theorem Fill.first {wr : World} {g : Nat} {t : TypeId} {C : Array Value} {i : Nat} (h : Bk wr g t C) (hi : i < C.size) : Fill wr g t C i wr.drew :=
  ⟨(Below.refl _ _).drew, C[i], by
    have : C.setIfInBounds i C[i] = C := by
      apply Array.ext
      · simp
      · intro j h1 h2
        rw [Array.getElem_setIfInBounds]
        split
        · rename_i e; subst e; rfl
        · rfl
    rw [this]; exact h.drew⟩
theorem Fill.below {wr : World} {g : Nat} {t : TypeId} {C : Array Value} {i : Nat} {u u' : World} (h : Fill wr g t C i u) (hb : Below u.heap.size u u') : Fill wr g t C i u' := by
  obtain ⟨h1, x, h2⟩ := h
  have hg := h2.lt
  exact ⟨h1.trans (hb.mono (by omega)), x, h2.below hb hg⟩
theorem Fill.cell {wr : World} {g : Nat} {t : TypeId} {C : Array Value} {i : Nat} {u : World} (h : Fill wr g t C i u) (j : Nat) (hj : j ≠ i) : u.cell? ⟨g, j, none⟩ = C[j]? := by
  obtain ⟨_, x, h2⟩ := h
  rw [h2.cell, Array.getElem?_setIfInBounds, if_neg (Ne.symm hj)]
theorem Fill.here {wr : World} {g : Nat} {t : TypeId} {C : Array Value} {i : Nat} {u : World} (h : Fill wr g t C i u) (hi : i < C.size) : ∃ v, u.cell? ⟨g, i, none⟩ = some v := by
  obtain ⟨_, x, h2⟩ := h
  exact ⟨x, by rw [h2.cell, Array.getElem?_setIfInBounds, if_pos rfl, if_pos hi]⟩
theorem Fill.frozen {wr : World} {g : Nat} {t : TypeId} {C : Array Value} {i : Nat} {u : World} (h : Fill wr g t C i u) (j : Nat) : u.frozen? ⟨g, j, none⟩ = false := by
  obtain ⟨_, x, h2⟩ := h
  exact h2.frozen j
theorem Fill.set {wr : World} {g : Nat} {t : TypeId} {C : Array Value} {i : Nat} {u : World} (h : Fill wr g t C i u) (v : Value) :
    Fill wr g t C i (u.setCell ⟨g, i, none⟩ v) ∧ Bk (u.setCell ⟨g, i, none⟩ v) g t (C.setIfInBounds i v) ∧ Below g wr (u.setCell ⟨g, i, none⟩ v) := by
  obtain ⟨h1, x, h2⟩ := h
  have e : (C.setIfInBounds i x).setIfInBounds i v = C.setIfInBounds i v := by
    simp
  have hb : Bk (u.setCell ⟨g, i, none⟩ v) g t (C.setIfInBounds i v) := by
    have := h2.set i v
    rw [e] at this
    exact this
  have hB : Below g wr (u.setCell ⟨g, i, none⟩ v) := h1.setCell (p := ⟨g, i, none⟩) (Nat.le_refl _) _
  exact ⟨⟨hB, v, hb⟩, hb, hB⟩
/-- An element of an array that is a value. -/
theorem wpList_index {P : Program} {ops : Array Oper} {rest : List Oper} {o : Oper} {a : Act} {Q : Exit → Act → World → Prop} {w : World} (hgd : o.guard = none) (t : TypeId) (x i : Operand) (ho : o.op = .index t x i) (vx vi v : Value) (hx : a.eval x = vx) (hi : a.eval i = vi)
    (hr : (Instr.index t vx vi).run P w = .ok v w) (h : wpList P ops Q rest (a.put o.dst v) w) : wpList P ops Q (o :: rest) a w :=
  wpList_plain hgd fun _ hK => by
    unfold Oper.wp execOp
    simp only [ho, hx, hi, Sem.run_bind, hr, Result.andThen_ok, Sem.run_pure]
    exact hK _ _ h
/-- From here on the world is one of which S holds. -/
theorem gen_world {P : Program} {c : Code} {Q : Exit → Act → World → Prop} {a : Act} {w : World} (S : World → Prop) (hS : S w) (h : ∀ u, S u → c.wp P Q a u) : c.wp P Q a w := h w hS
theorem Bk.setRow {w : World} {g : Nat} {t : TypeId} {cs : Array Value} (h : Bk w g t cs) (cs' : Array Value) : Bk (w.setRow g cs') g t cs' := setRow_heap w g cs cs' t (0, 0) h
theorem Bk.setRowFar {w : World} {g g' : Nat} {t : TypeId} {cs : Array Value} (h : Bk w g t cs) (hg : g ≠ g') (cs' : Array Value) : Bk (w.setRow g' cs') g t cs := by
  have : (w.setRow g' cs').heap[g]? = w.heap[g]? := by
    unfold World.setRow
    simp only [Array.getElem?_modify]
    rw [if_neg (Ne.symm hg)]
  exact this.trans h
theorem Below.setRow {B : Nat} {a w : World} (h : Below B a w) (g : Nat) (hg : B ≤ g) (cs : Array Value) : Below B a (w.setRow g cs) :=
  ⟨h.os, h.tape, h.output, by show a.heap.size ≤ (w.heap.modify g _).size; rw [Array.size_modify]; exact h.size, fun i hi => by
    have : (w.setRow g cs).heap[i]? = w.heap[i]? := by
      unfold World.setRow
      simp only [Array.getElem?_modify]
      rw [if_neg (by omega)]
    exact this.trans (h.block i hi)⟩
theorem Bk.drewN' {w : World} {g : Nat} {t : TypeId} {cs : Array Value} (h : Bk w g t cs) (n : Nat) : Bk (w.drewN n) g t cs := h
end Go.Proofs.YtinbegnojfpeiaaDoor

/- The schedule of a block: its words, one by one. Nothing of the program is named here. -/
namespace Go.Proofs.YtinbegnojfpeiaaDoor
set_option linter.unusedVariables false
set_option maxRecDepth 100000
set_option linter.unusedSimpArgs false

theorem getD_left (l r : List Nat) (i : Nat) (h : i < l.length) : (l ++ r).getD i 0 = l.getD i 0 := by
  rw [List.getD, List.getD, List.getElem?_append_left h]
theorem getD_right (l r : List Nat) (i : Nat) (h : l.length ≤ i) : (l ++ r).getD i 0 = r.getD (i - l.length) 0 := by
  rw [List.getD, List.getD, List.getElem?_append_right h]
theorem schedL_len (l : List Nat) (h : l.length = 16) : ∀ n, (schedL l n).length = 16 + n
  | 0 => by rw [schedL, h]
  | n + 1 => by rw [schedL, List.length_append, schedL_len l h n]; simp; omega
theorem schedL_low (l : List Nat) (h : l.length = 16) (n i : Nat) (hi : i < 16 + n) : ∀ k, (schedL l (n + k)).getD i 0 = (schedL l n).getD i 0
  | 0 => rfl
  | k + 1 => by
    have hl := schedL_len l h (n + k)
    rw [← Nat.add_assoc, schedL, getD_left _ _ _ (by omega), schedL_low l h n i hi k]
theorem sched_len (l : List Nat) (h : l.length = 16) : (sched l).length = 64 := schedL_len l h 48
theorem sched_take (l : List Nat) (h : l.length = 16) : (sched l).take 16 = l := by
  have : ∀ n, ∃ r, schedL l n = l ++ r := by
    intro n
    induction n with
    | zero => exact ⟨[], by rw [schedL, List.append_nil]⟩
    | succ n ih => obtain ⟨r, hr⟩ := ih; exact ⟨r ++ [nextW (schedL l n)], by rw [schedL, ← List.append_assoc, ← hr]⟩
  obtain ⟨r, hr⟩ := this 48
  rw [sched, hr, ← h, List.take_left]
theorem sched_at (l : List Nat) (h : l.length = 16) (i : Nat) (h1 : 16 ≤ i) (h2 : i < 64) : (sched l).getD i 0 =
    wadd (wadd (wadd (small ((sched l).getD (i - 2) 0) 17 19 10) ((sched l).getD (i - 7) 0)) (small ((sched l).getD (i - 15) 0) 7 18 3)) ((sched l).getD (i - 16) 0) := by
  obtain ⟨n, rfl⟩ : ∃ n, i = 16 + n := ⟨i - 16, by omega⟩
  have hl := schedL_len l h n
  have low : ∀ j, j < 16 + n → (sched l).getD j 0 = (schedL l n).getD j 0 := by
    intro j hj
    have := schedL_low l h n j hj (48 - n)
    rw [show n + (48 - n) = 48 by omega] at this
    exact this
  have top : (sched l).getD (16 + n) 0 = nextW (schedL l n) := by
    have := schedL_low l h (n + 1) (16 + n) (by omega) (48 - (n + 1))
    rw [show n + 1 + (48 - (n + 1)) = 48 by omega] at this
    refine Eq.trans this ?_
    rw [schedL, getD_right _ _ _ (by omega), hl, Nat.sub_self, List.getD_cons_zero]
  rw [top, low _ (by omega), low _ (by omega), low _ (by omega), low _ (by omega), nextW, hl]
theorem sched_lt (l : List Nat) (h : l.length = 16) (hl : ∀ i, l.getD i 0 < 4294967296) (i : Nat) : (sched l).getD i 0 < 4294967296 := by
  by_cases h2 : i < 64
  · by_cases h1 : 16 ≤ i
    · rw [sched_at l h i h1 h2]; exact wadd_lt _ _
    · have := schedL_low l h 0 i (by omega) 48
      rw [Nat.zero_add] at this
      have e : (sched l).getD i 0 = l.getD i 0 := this
      rw [e]; exact hl i
  · have := sched_len l h
    rw [List.getD, List.getElem?_eq_none (by omega), Option.getD_none]; decide
theorem words16_lt (l : List UInt8) (p i : Nat) : (words16 l p).getD i 0 < 4294967296 := by
  by_cases hi : i < 16
  · rw [words16_at l p i hi, wordAt]; exact wor_lt _ _
  · rw [List.getD, List.getElem?_eq_none (by rw [words16_len]; omega), Option.getD_none]; decide
end Go.Proofs.YtinbegnojfpeiaaDoor

/- The eight words of a state. Nothing of the program is named here. -/
namespace Go.Proofs.YtinbegnojfpeiaaDoor
set_option linter.unusedVariables false
set_option maxRecDepth 100000
set_option linter.unusedSimpArgs false

/-- A state as an array's value, and as its cells. -/
abbrev s8 (s : St) : Array Value := #[wd s.a, wd s.b, wd s.c, wd s.d, wd s.e, wd s.f, wd s.g, wd s.h]
abbrev A8 (s : St) : Value := .agg (s8 s)
structure St.Ok (s : St) : Prop where
  a : s.a < 4294967296
  b : s.b < 4294967296
  c : s.c < 4294967296
  d : s.d < 4294967296
  e : s.e < 4294967296
  f : s.f < 4294967296
  g : s.g < 4294967296
  h : s.h < 4294967296
theorem round1_ok {s : St} (h : s.Ok) (k w : Nat) : (round1 s k w).Ok := ⟨wadd_lt _ _, h.a, h.b, h.c, wadd_lt _ _, h.e, h.f, h.g⟩
theorem rounds_ok (w : List Nat) {s : St} (h : s.Ok) : ∀ n, (rounds w s n).Ok
  | 0 => h
  | n + 1 => round1_ok (rounds_ok w h n) _ _
theorem addS_ok (s t : St) : (addS s t).Ok := ⟨wadd_lt _ _, wadd_lt _ _, wadd_lt _ _, wadd_lt _ _, wadd_lt _ _, wadd_lt _ _, wadd_lt _ _, wadd_lt _ _⟩
theorem thr_ok {s : St} (h : s.Ok) (l : List UInt8) : ∀ n, (thr s l n).Ok
  | 0 => h
  | n + 1 => addS_ok _ _
theorem S0_ok : S0.Ok := by constructor <;> decide
/-- The first i words are added. -/
def mix (s r : St) : Nat → St
  | 0 => s
  | 1 => ⟨wadd s.a r.a, s.b, s.c, s.d, s.e, s.f, s.g, s.h⟩
  | 2 => ⟨wadd s.a r.a, wadd s.b r.b, s.c, s.d, s.e, s.f, s.g, s.h⟩
  | 3 => ⟨wadd s.a r.a, wadd s.b r.b, wadd s.c r.c, s.d, s.e, s.f, s.g, s.h⟩
  | 4 => ⟨wadd s.a r.a, wadd s.b r.b, wadd s.c r.c, wadd s.d r.d, s.e, s.f, s.g, s.h⟩
  | 5 => ⟨wadd s.a r.a, wadd s.b r.b, wadd s.c r.c, wadd s.d r.d, wadd s.e r.e, s.f, s.g, s.h⟩
  | 6 => ⟨wadd s.a r.a, wadd s.b r.b, wadd s.c r.c, wadd s.d r.d, wadd s.e r.e, wadd s.f r.f, s.g, s.h⟩
  | 7 => ⟨wadd s.a r.a, wadd s.b r.b, wadd s.c r.c, wadd s.d r.d, wadd s.e r.e, wadd s.f r.f, wadd s.g r.g, s.h⟩
  | _ => addS s r
theorem round1_a (s : St) (k w : Nat) : (round1 s k w).a = wadd (wadd (wadd (wadd (wadd s.h (great s.e 6 11 25)) (wxor (wand s.e s.f) (wand (wnot s.e) s.g))) k) w) (wadd (great s.a 2 13 22) (wxor (wxor (wand s.a s.b) (wand s.a s.c)) (wand s.b s.c))) := by
  rw [round1, rX, rY]
theorem round1_e (s : St) (k w : Nat) : (round1 s k w).e = wadd s.d (wadd (wadd (wadd (wadd s.h (great s.e 6 11 25)) (wxor (wand s.e s.f) (wand (wnot s.e) s.g))) k) w) := by
  rw [round1, rX]
theorem mix_set_0 (s r : St) : (s8 (mix s r 0)).setIfInBounds 0 (wd (wadd s.a r.a)) = s8 (mix s r 1) := by
  simp only [mix, addS, List.setIfInBounds_toArray, List.set_cons_zero, List.set_cons_succ]
theorem mix_set_1 (s r : St) : (s8 (mix s r 1)).setIfInBounds 1 (wd (wadd s.b r.b)) = s8 (mix s r 2) := by
  simp only [mix, addS, List.setIfInBounds_toArray, List.set_cons_zero, List.set_cons_succ]
theorem mix_set_2 (s r : St) : (s8 (mix s r 2)).setIfInBounds 2 (wd (wadd s.c r.c)) = s8 (mix s r 3) := by
  simp only [mix, addS, List.setIfInBounds_toArray, List.set_cons_zero, List.set_cons_succ]
theorem mix_set_3 (s r : St) : (s8 (mix s r 3)).setIfInBounds 3 (wd (wadd s.d r.d)) = s8 (mix s r 4) := by
  simp only [mix, addS, List.setIfInBounds_toArray, List.set_cons_zero, List.set_cons_succ]
theorem mix_set_4 (s r : St) : (s8 (mix s r 4)).setIfInBounds 4 (wd (wadd s.e r.e)) = s8 (mix s r 5) := by
  simp only [mix, addS, List.setIfInBounds_toArray, List.set_cons_zero, List.set_cons_succ]
theorem mix_set_5 (s r : St) : (s8 (mix s r 5)).setIfInBounds 5 (wd (wadd s.f r.f)) = s8 (mix s r 6) := by
  simp only [mix, addS, List.setIfInBounds_toArray, List.set_cons_zero, List.set_cons_succ]
theorem mix_set_6 (s r : St) : (s8 (mix s r 6)).setIfInBounds 6 (wd (wadd s.g r.g)) = s8 (mix s r 7) := by
  simp only [mix, addS, List.setIfInBounds_toArray, List.set_cons_zero, List.set_cons_succ]
theorem mix_set_7 (s r : St) : (s8 (mix s r 7)).setIfInBounds 7 (wd (wadd s.h r.h)) = s8 (mix s r 8) := by
  simp only [mix, addS, List.setIfInBounds_toArray, List.set_cons_zero, List.set_cons_succ]
theorem mix_at_0 (s r : St) : (s8 (mix s r 0))[0]? = some (.int .u32 (s.a : Int)) := by
  simp [s8, mix]
theorem mix_at_1 (s r : St) : (s8 (mix s r 1))[1]? = some (.int .u32 (s.b : Int)) := by
  simp [s8, mix]
theorem mix_at_2 (s r : St) : (s8 (mix s r 2))[2]? = some (.int .u32 (s.c : Int)) := by
  simp [s8, mix]
theorem mix_at_3 (s r : St) : (s8 (mix s r 3))[3]? = some (.int .u32 (s.d : Int)) := by
  simp [s8, mix]
theorem mix_at_4 (s r : St) : (s8 (mix s r 4))[4]? = some (.int .u32 (s.e : Int)) := by
  simp [s8, mix]
theorem mix_at_5 (s r : St) : (s8 (mix s r 5))[5]? = some (.int .u32 (s.f : Int)) := by
  simp [s8, mix]
theorem mix_at_6 (s r : St) : (s8 (mix s r 6))[6]? = some (.int .u32 (s.g : Int)) := by
  simp [s8, mix]
theorem mix_at_7 (s r : St) : (s8 (mix s r 7))[7]? = some (.int .u32 (s.h : Int)) := by
  simp [s8, mix]
theorem mix_8 (s r : St) : mix s r 8 = addS s r := rfl
theorem s8_size (s : St) : (s8 s).size = 8 := rfl
theorem s8_same (s t : St) : (s8 s).size = (s8 t).size := (s8_size s).trans (s8_size t).symm
theorem z8_size (t : St) : (wcells [0, 0, 0, 0, 0, 0, 0, 0]).size = (s8 t).size := (wcells_size _).trans (s8_size t).symm
theorem s8_one (s : St) : (s8 s).all (·.oneCell') = true := by simp [Value.oneCell']
theorem KK_len : KK.length = 64 := rfl
/-- The two tables, as the program lays them. -/
structure Gl (w : World) : Prop where
  size : 0 < w.heap.size ∧ 1 < w.heap.size
  beg : ∀ k, k < 8 → w.cell? ⟨0, k, none⟩ = some (wd (H0.getD k 0))
  root : ∀ k, k < 64 → w.cell? ⟨1, k, none⟩ = some (wd (KK.getD k 0))
theorem Gl.below {w w' : World} {B : Nat} (h : Gl w) (hb : RowKit.Below B w w') (hB : 0 < B ∧ 1 < B) : Gl w' :=
  ⟨⟨Nat.lt_of_lt_of_le h.size.1 hb.size, Nat.lt_of_lt_of_le h.size.2 hb.size⟩, fun k hk => (hb.cell (p := ⟨0, k, none⟩) hB.1).trans (h.beg k hk), fun k hk => (hb.cell (p := ⟨1, k, none⟩) hB.2).trans (h.root k hk)⟩
end Go.Proofs.YtinbegnojfpeiaaDoor

/- Bytes in digits, and the bytes of digits: what the document asks, as Lean functions. Nothing of the program is named here. -/
namespace Go.Proofs.YtinbegnojfpeiaaDoor
set_option linter.unusedVariables false
set_option maxRecDepth 100000
set_option linter.unusedSimpArgs false

def digs : List UInt8 := [48, 49, 50, 51, 52, 53, 54, 55, 56, 57, 97, 98, 99, 100, 101, 102]
/-- The digit of a number below 16. -/
def dig (n : Nat) : UInt8 := digs.getD n 0
def hexB : List UInt8 → List UInt8
  | [] => []
  | c :: r => dig (c.toNat / 16) :: dig (c.toNat % 16) :: hexB r
theorem hexB_len : ∀ l, (hexB l).length = 2 * l.length
  | [] => rfl
  | c :: r => by rw [hexB, List.length_cons, List.length_cons, hexB_len r, List.length_cons]; omega
theorem hexB_app : ∀ a b, hexB (a ++ b) = hexB a ++ hexB b
  | [], b => rfl
  | c :: r, b => by rw [List.cons_append, hexB, hexB, hexB_app r b]; rfl
theorem hexB_take (l : List UInt8) (i : Nat) (h : i < l.length) : hexB (l.take (i + 1)) = hexB (l.take i) ++ [dig (l[i].toNat / 16)] ++ [dig (l[i].toNat % 16)] := by
  rw [List.take_add_one, List.getElem?_eq_getElem h, hexB_app, List.append_assoc]; rfl
/-- A digit's number, if it is one. -/
def val (c : UInt8) : Option Nat := if 48 ≤ c.toNat ∧ c.toNat ≤ 57 then some (c.toNat - 48) else if 97 ≤ c.toNat ∧ c.toNat ≤ 102 then some (c.toNat - 87) else none
theorem val_lt (c : UInt8) (n : Nat) (h : val c = some n) : n < 16 := by
  unfold val at h
  split at h
  · injection h with h; omega
  · split at h
    · injection h with h; omega
    · cases h
theorem val_dig (n : Nat) (h : n < 16) : val (dig n) = some n := by
  have : ∀ m : Fin 16, val (dig m.val) = some m.val := by decide
  exact this ⟨n, h⟩
theorem dig_val (c : UInt8) (n : Nat) (h : val c = some n) : dig n = c := by
  have : ∀ k : Fin 256, ∀ n : Fin 16, val (UInt8.ofNat k.val) = some n.val → dig n.val = UInt8.ofNat k.val := by decide +kernel
  have h1 := this ⟨c.toNat, c.toNat_lt⟩ ⟨n, val_lt c n h⟩
  simp only [UInt8.ofNat_toNat] at h1
  exact h1 h
/-- The bytes of digits, two of each; none if one of these is no digit. -/
def unhexB : List UInt8 → Option (List UInt8)
  | [] => some []
  | [_] => none
  | a :: b :: r => match val a, val b, unhexB r with
    | some x, some y, some l => some (UInt8.ofNat (16 * x + y) :: l)
    | _, _, _ => none
theorem unhexB_hexB : ∀ l, unhexB (hexB l) = some l
  | [] => rfl
  | c :: r => by
    have h := c.toNat_lt
    rw [hexB, unhexB, val_dig _ (by omega), val_dig _ (by omega), unhexB_hexB r]
    simp only
    congr 2
    rw [show 16 * (c.toNat / 16) + c.toNat % 16 = c.toNat by omega, UInt8.ofNat_toNat]
theorem hexB_unhexB : ∀ s l, unhexB s = some l → hexB l = s
  | [], l, h => by rw [unhexB] at h; injection h with h; subst h; rfl
  | [_], l, h => by rw [unhexB] at h; cases h
  | a :: b :: r, l, h => by
    rw [unhexB] at h
    cases ha : val a with
    | none => rw [ha] at h; cases h
    | some x =>
      cases hb : val b with
      | none => rw [ha, hb] at h; cases h
      | some y =>
        cases hr : unhexB r with
        | none => rw [ha, hb, hr] at h; cases h
        | some t =>
          rw [ha, hb, hr] at h
          injection h with h
          subst h
          have hx := val_lt a x ha
          have hy := val_lt b y hb
          have e : (UInt8.ofNat (16 * x + y)).toNat = 16 * x + y := by rw [UInt8.toNat_ofNat']; exact Nat.mod_eq_of_lt (by omega)
          rw [hexB, e, show (16 * x + y) / 16 = x by omega, show (16 * x + y) % 16 = y by omega, dig_val a x ha, dig_val b y hb, hexB_unhexB r t hr]
theorem unhexB_odd : ∀ s, s.length % 2 = 1 → unhexB s = none
  | [], h => by simp at h
  | [_], _ => rfl
  | a :: b :: r, h => by
    rw [unhexB, unhexB_odd r (by simp only [List.length_cons] at h; omega)]
    cases val a <;> cases val b <;> rfl
theorem unhexB_app : ∀ a b x y, unhexB a = some x → unhexB b = some y → unhexB (a ++ b) = some (x ++ y)
  | a, b, x, y, hx, hy => by
    rw [← hexB_unhexB a x hx, ← hexB_unhexB b y hy, ← hexB_app, unhexB_hexB]
end Go.Proofs.YtinbegnojfpeiaaDoor

/- Regions that draw their order: a stronger condition on worlds may be taken up on the way. Nothing of the program is named here. -/
namespace Go.Proofs.YtinbegnojfpeiaaDoor
set_option linter.unusedVariables false
set_option maxRecDepth 100000
set_option linter.unusedSimpArgs false

theorem wpAnyH_mono {P : Program} {md : Region.Mode} {ops : Array Oper} {Q : Exit → Act → World → Prop} {S S' : World → Prop} (hS : ∀ w, S' w → S w) :
    ∀ (fuel : Nat) (listed : Array Bool) (a : Act) (w : World), wpAnyH P md ops Q S' fuel listed a w → wpAnyH P md ops Q S fuel listed a w
  | 0, _, _, _, h => h
  | fuel + 1, _, _, _, h => ⟨h.1, fun i hi => wpOp_mono (fun a' w' h' => ⟨hS w' h'.1, wpAnyH_mono hS fuel _ a' w' h'.2⟩) (h.2 i hi)⟩

/-- 'wpAnyH_take', the operation's own place said outright. -/
theorem take_at {P : Program} {md : Region.Mode} {ops : Array Oper} {Q : Exit → Act → World → Prop} {S : World → Prop} (d : Option Tmp) {i : Nat} {oi : Oper} {v : Value} {fuel : Nat} {listed : Array Bool} {a : Act} {w : World} (hi : ops[i]? = some oi)
    (hd : oi.dst = d) (hs : Region.noSelect ops = true) (hf : Region.free md ops listed i = true) (hr : (Region.ready md ops listed).contains i = true)
    (hQ : ∀ c a w, Q (.panic c) (a.put oi.dst v) w → Q (.panic c) a w) (hy : YieldsIf P ops S oi v a) (hS : S w)
    (h : wpAnyH P md ops Q S fuel (listed.setIfInBounds i true) (a.put d v) w) : wpAnyH P md ops Q S (fuel + 1) listed a w := by
  subst hd
  exact wpAnyH_take hi hs hf hr hQ hy hS h

end Go.Proofs.YtinbegnojfpeiaaDoor

/- A number that lies in its range. -/
namespace Go.Proofs.YtinbegnojfpeiaaDoor
set_option linter.unusedVariables false
set_option maxRecDepth 100000
set_option linter.unusedSimpArgs false
open Go.RowKit
theorem iwrap (x : Int) (n : Nat) (h : x = (n : Int)) (hn : n ≤ 9223372036854775807) : IntKind.i64.wrap x = (n : Int) ∧ wrap64 x = (n : Int) := by
  subst h
  constructor
  · rw [IntKind.wrap_i64]; omega
  · unfold wrap64; omega
end Go.Proofs.YtinbegnojfpeiaaDoor

/- Words turned: the contracts of right, turned, moved. -/
namespace Go.Proofs.YtinbegnojfpeiaaDoor
set_option linter.unusedVariables false
set_option maxRecDepth 100000
set_option linter.unusedSimpArgs false
open Go.RowKit

theorem neg_and31 (n m : Nat) (h1 : 1 ≤ n) (h2 : n + m = 32) : bits .and .u64 (IntKind.u64.wrap (-(n : Int))) 31 = (m : Int) := by
  have e : IntKind.u64.wrap (-(n : Int)) = ((18446744073709551616 - n : Nat) : Int) := by rw [IntKind.wrap_u64]; omega
  have := u64_and_nat (18446744073709551616 - n) 31 (by omega) (by omega)
  rw [e]
  refine Eq.trans this ?_
  rw [nat_mask5]
  omega

theorem right_ok (x n : Nat) (w : World) (hx : x < 4294967296) (h1 : 1 ≤ n) (h2 : n ≤ 31) :
    Calls Tryd.prog 71 #[wd x, .int .i64 n] w fun e w' => e = .returned (wd (rotr x n)) ∧ w' = w := by
  obtain ⟨m, hm⟩ : ∃ m, n + m = 32 := ⟨32 - n, by omega⟩
  have hk := neg_and31 n m h1 hm
  have hw : IntKind.u64.wrap (32 - (m : Int)) = (n : Int) := by rw [IntKind.wrap_u64]; omega
  have e1 : (min n 32 : Nat) = n := by omega
  have e2 : (min m 32 : Nat) = m := by omega
  go_enter Tryd.func71, Tryd.ntmps71
  go_wp2
  go_ret
  refine ⟨?_, rfl⟩
  have e3 : (x : Int) * 2 ^ m % 4294967296 = ((wshl x m : Nat) : Int) := v_shl x m
  have e4 : (x : Int) / 2 ^ n = ((wshr x n : Nat) : Int) := w_shr x n hx
  show Ending.returned (.int .u32 (bits .or .u32 ((x : Int) * 2 ^ m % 4294967296) ((x : Int) / 2 ^ n))) = _
  rw [e3, e4, w_or, wor_comm]
  have e5 : m = 32 - n := by omega
  rw [e5]
  rfl

theorem drewN_add (w : World) (a b : Nat) : (w.drewN a).drewN b = w.drewN (a + b) := by unfold World.drewN; simp [Nat.add_assoc]
theorem Below.drewN' {B : Nat} {a w : World} (h : Below B a w) (n : Nat) : Below B a (w.drewN n) := ⟨h.os, h.tape, h.output, h.size, h.block⟩

theorem turned_ok (x a b c : Nat) (w : World) (hx : x < 4294967296) (ha : 1 ≤ a ∧ a ≤ 31) (hb : 1 ≤ b ∧ b ≤ 31) (hc : 1 ≤ c ∧ c ≤ 31) :
    Calls Tryd.prog 69 #[wd x, .agg #[.int .i64 a, .int .i64 b, .int .i64 c]] w fun e w' => e = .returned (wd (great x a b c)) ∧ Below w.heap.size w w' := by
  have hX : ∀ x y : Nat, bits .xor .u32 (x : Int) (y : Int) = ((wxor x y : Nat) : Int) := w_xor
  go_enter Tryd.func69, Tryd.ntmps69
  go_wp2_with fail
  go_quiet (first
    | (go_at_call_of 71 (Value.int .i64 (a : Int)); exact Calls.quiet_of_same (right_ok x a _ hx ha.1 ha.2))
    | (go_at_call_of 71 (Value.int .i64 (b : Int)); exact Calls.quiet_of_same (right_ok x b _ hx hb.1 hb.2))
    | (go_at_call_of 71 (Value.int .i64 (c : Int)); exact Calls.quiet_of_same (right_ok x c _ hx hc.1 hc.2)))
  go_wp2_with fail
  go_ret
  exact ⟨rfl, Below.drewN' (by go_grown) _⟩

theorem moved_ok (x a b c : Nat) (w : World) (hx : x < 4294967296) (ha : 1 ≤ a ∧ a ≤ 31) (hb : 1 ≤ b ∧ b ≤ 31) (hc : 1 ≤ c ∧ c ≤ 31) :
    Calls Tryd.prog 70 #[wd x, .agg #[.int .i64 a, .int .i64 b, .int .i64 c]] w fun e w' => e = .returned (wd (small x a b c)) ∧ Below w.heap.size w w' := by
  have hX : ∀ x y : Nat, bits .xor .u32 (x : Int) (y : Int) = ((wxor x y : Nat) : Int) := w_xor
  have hS : (x : Int) / 2 ^ c = ((wshr x c : Nat) : Int) := w_shr x c hx
  have hm : (min c 32 : Nat) = c := by omega
  go_enter Tryd.func70, Tryd.ntmps70
  go_wp2_with fail
  go_quiet (first
    | (go_at_call_of 71 (Value.int .i64 (a : Int)); exact Calls.quiet_of_same (right_ok x a _ hx ha.1 ha.2))
    | (go_at_call_of 71 (Value.int .i64 (b : Int)); exact Calls.quiet_of_same (right_ok x b _ hx hb.1 hb.2)))
  go_wp2_with fail
  go_ret
  exact ⟨rfl, Below.drewN' (by go_grown) _⟩

end Go.Proofs.YtinbegnojfpeiaaDoor
