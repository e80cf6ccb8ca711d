/- config.kinds: its contract; a look-up in what it made. -/
import Derived.Test.YtekobdmlgbffnaaGreatDoorG18
import Derived.MapKept
import Derived.Maps.OwnOps
namespace Go.Proofs.YtekobdmlgbffnaaGreatDoor
set_option linter.unusedVariables false
set_option maxRecDepth 100000
set_option linter.unusedSimpArgs false
open Go.RowKit Go.MapKept

/-- At b lies a map of these entries. -/
def Mb (w : World) (b : Nat) (es : Array MapEntry) (clk : Nat) : Prop := w.heap[b]? = some (.map es clk)
theorem Mb.lt {w : World} {b : Nat} {es : Array MapEntry} {clk : Nat} (h : Mb w b es clk) : b < w.heap.size := (Array.getElem?_eq_some_iff.1 h).1

theorem run_check {P : Program} {k : TypeId} (hk : P.underlying k = some .string) (s : ByteArray) (e : Bool) (w : World) : (Instr.checkKey e 10000 k (.string s)).run P w = .ok () w := by
  show (Instr.checkKey e (9999 + 1) k (.string s)).run P w = _
  unfold Instr.checkKey
  simp [run_underlying hk, Result.andThen]
theorem run_find {P : Program} {k : TypeId} (hk : P.underlying k = some .string) (s : ByteArray) (es : List MapEntry) (r : Option (Nat × Value)) (h : Instr.findNow .string (.string s) es 0 = some r) (w : World) : (Instr.findKey k (.string s) es).run P w = .ok r w := by
  unfold Instr.findKey
  simp [run_underlying hk, Result.andThen, h]
theorem run_ins {P : Program} {t k e : TypeId} (ht : P.underlying t = some (.map k e)) (hk : P.underlying k = some .string) (s : ByteArray) (v : Value) {w : World} {b : Nat} {es : Array MapEntry} {clk : Nat} (hb : Mb w b es clk) (h : Instr.findNow .string (.string s) es.toList 0 = some none) :
    (Instr.mapUpdate t (.map (some b)) (.string s) v).run P w = .ok () (w.putObj b (.map (es.push ⟨.string s, v, clk⟩) (clk + 1))) := by
  unfold Instr.mapUpdate
  have h1 := Go.MapKept.run_getObj_map (P := P) hb
  have h2 := Go.MapKept.run_setObj_map (P := P) (.map (es.push ⟨.string s, v, clk⟩) (clk + 1)) hb
  simp [run_underlying ht, Result.andThen, h1, run_check hk, run_find hk s _ _ h, h2]
  rfl
theorem Mb.put {w : World} {b : Nat} {es es' : Array MapEntry} {clk clk' : Nat} (h : Mb w b es clk) : Mb (w.putObj b (.map es' clk')) b es' clk' := World.putObj_heap_same h.lt
theorem below_put {w w' : World} {B b : Nat} {o : Obj} (h : Below B w w') (hb : B ≤ b) : Below B w (w'.putObj b o) :=
  ⟨h.os, h.tape, h.output, by have := h.size; simp [World.putObj]; omega, fun k hk => by rw [World.putObj_heap_other (by omega)]; exact h.block k hk⟩
/-- One entry more, as an operation. -/
theorem wp_ins {P : Program} {ops : Array Oper} {rest : List Oper} {o : Oper} {a : Act} {Q : Exit → Act → World → Prop} {w : World} (hgd : o.guard = none) (t k e : TypeId) (m x : Operand) (s : ByteArray) (ho : o.op = .insert t m (.const (.string s)) x) (ht : P.underlying t = some (.map k e)) (hk : P.underlying k = some .string)
    (b : Nat) (v : Value) (hm : a.eval m = .map (some b)) (hx : a.eval x = v) {es : Array MapEntry} {clk : Nat} (hb : Mb w b es clk) (h : Instr.findNow .string (.string s) es.toList 0 = some none)
    (hK : wpList P ops Q rest (a.put o.dst undef) (w.putObj b (.map (es.push ⟨.string s, v, clk⟩) (clk + 1)))) : wpList P ops Q (o :: rest) a w :=
  wpList_plain hgd fun K hKK => by
    have h1 := run_ins ht hk s v hb h
    have hc : a.eval (.const (.string s)) = .string s := rfl
    unfold Oper.wp execOp
    simp [ho, hm, hx, h1, hc, Result.andThen]
    exact hKK _ _ hK

def kindEs : Array MapEntry := #[⟨.string (bs wTimes), .agg #[.int .i64 4, .func (.func 68) #[] #[]], 0⟩, ⟨.string (bs wTenant), .agg #[.int .i64 3, .func (.func 69) #[] #[]], 1⟩,
  ⟨.string (bs wNet), .agg #[.int .i64 1, .func (.func 70) #[] #[]], 2⟩, ⟨.string (bs wToken), .agg #[.int .i64 3, .func (.func 71) #[] #[]], 3⟩]

set_option maxRecDepth 100000 in
set_option maxHeartbeats 2000000 in
theorem kinds_ok (w : World) : Calls Tryz.prog 33 #[] w fun e w' => e = .returned (.map (some w.heap.size)) ∧ Mb w' w.heap.size kindEs 4 ∧ Below w.heap.size w w' := by
  have hmm := @run_makeMap Tryz.prog
  have B0 : Below w.heap.size w (w.alloc (.map #[] 0)) := (Below.refl _ _).alloc (Nat.le_refl _) _
  have M0 : Mb (w.alloc (.map #[] 0)) w.heap.size #[] 0 := World.alloc_heap_new w _
  have H0 := Lib.hid (And.intro M0 B0)
  clear M0 B0
  go_enter Tryz.func33, Tryz.ntmps33
  go_wp2_with (first
    | (refine wp_ins rfl 66 9 74 (.tmp 1) (.tmp 2) (bs wTimes) rfl Tryz.underlying66 Tryz.underlying9 w.heap.size _ rfl rfl H0.out.1 rfl ?_; have H1 := Lib.hid (And.intro (Mb.put (es' := #[kindEs[0]]) (clk' := 1) H0.out.1) (below_put (o := .map #[kindEs[0]] 1) H0.out.2 (Nat.le_refl _))))
    | (refine wp_ins rfl 66 9 74 (.tmp 1) (.tmp 3) (bs wTenant) rfl Tryz.underlying66 Tryz.underlying9 w.heap.size _ rfl rfl H1.out.1 rfl ?_; have H2 := Lib.hid (And.intro (Mb.put (es' := #[kindEs[0], kindEs[1]]) (clk' := 2) H1.out.1) (below_put (o := .map #[kindEs[0], kindEs[1]] 2) H1.out.2 (Nat.le_refl _))))
    | (refine wp_ins rfl 66 9 74 (.tmp 1) (.tmp 4) (bs wNet) rfl Tryz.underlying66 Tryz.underlying9 w.heap.size _ rfl rfl H2.out.1 rfl ?_; have H3 := Lib.hid (And.intro (Mb.put (es' := #[kindEs[0], kindEs[1], kindEs[2]]) (clk' := 3) H2.out.1) (below_put (o := .map #[kindEs[0], kindEs[1], kindEs[2]] 3) H2.out.2 (Nat.le_refl _))))
    | (refine wp_ins rfl 66 9 74 (.tmp 1) (.tmp 5) (bs wToken) rfl Tryz.underlying66 Tryz.underlying9 w.heap.size _ rfl rfl H3.out.1 rfl ?_; have H4 := Lib.hid (And.intro (Mb.put (es' := kindEs) (clk' := 4) H3.out.1) (below_put (o := .map kindEs 4) H3.out.2 (Nat.le_refl _)))))
  go_ret
  exact ⟨rfl, H4.out.1, H4.out.2⟩
end Go.Proofs.YtekobdmlgbffnaaGreatDoor
