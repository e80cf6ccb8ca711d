/- Calls through the heap's interface; going up, going down. -/
import Derived.Test.YtdfllobdefodfaaCk1
namespace Go.Proofs.Ytdfllobdefodfaa
set_option linter.unusedVariables false
set_option linter.unusedSimpArgs false
open Go.RowKit

variable {u : World} {F : List Nat} {c : Nat} {now : Int} {mb : Nat} {A : Option Addr} {cap : Nat} {l : List Al}

/-- The row, as the heap is handed it. -/
abbrev hpv (c : Nat) : Value := .iface 70 (.pointer (some ⟨c, 2, none⟩))

/-- A call through an interface, as one operation. -/
theorem op_invoke {o : Oper} {a : Act} {K : Act → World → Prop} {Q : Exit → Act → World → Prop} {w : World} (recv : Operand) (name : String) (xs : Array Operand) (ts : Array TypeId)
    (ho : o.op = .call { callee := .invoke recv name, args := xs, argTypes := ts }) (T : TypeId) (p : Value) (hr : a.eval recv = .iface T p) (f : FuncId) (v : Value) (hm : (method (Try.prog.types.size + Made.depth) T p name).run Try.prog w = .ok (f, v) w)
    (args : Array Value) (ha : #[v] ++ xs.map a.eval = args) (hcf : (callFunc f args).run Try.prog w = .ok (.enter f args) w) {R : Ending → World → Prop} (hc : Calls Try.prog f args w R)
    (h : ∀ e w', R e w' → ∃ x, e = .returned x ∧ K (a.put o.dst x) w') : o.wp Try.prog a w K Q := by
  have hrun : (execOp a.eval o).run Try.prog w = .ok (.enter f args) w := by
    subst ha
    unfold execOp
    simp only [ho, resolve, invoke, callMethod, Sem.run_bind, Sem.run_pure, Result.andThen_ok, hr, run_program, hm, hcf]
    have e0 : (#[Value.iface T p] ++ Array.map a.eval xs)[0]? = some (Value.iface T p) := by
      rw [Array.getElem?_append_left (by simp)]
      rfl
    have e1 : (#[Value.iface T p] ++ Array.map a.eval xs).extract 1 = Array.map a.eval xs := by
      apply Array.ext'
      simp only [Array.toList_extract, Array.toList_append, Array.toList_map, List.extract_eq_take_drop]
      simp
      exact List.take_of_length_le (by simp)
    rw [e0]
    simp only [e1, Sem.run_bind, run_program, Result.andThen_ok, hm, hcf]
  unfold Oper.wp
  rw [hrun, Oper.upon_enter]
  refine hc.mono fun e w' hR => ?_
  obtain ⟨x, rfl, hx⟩ := h e w' hR
  exact hx
/-- The same in a region that draws nothing, where the operation's guard, if it has one, is met. -/
theorem wpList_invoke {ops : Array Oper} {rest : List Oper} {o : Oper} {a : Act} {Q : Exit → Act → World → Prop} {w : World} (hw : Region.wanted o (yielded ops a.tmps) = true) (recv : Operand) (name : String) (xs : Array Operand) (ts : Array TypeId)
    (ho : o.op = .call { callee := .invoke recv name, args := xs, argTypes := ts }) (T : TypeId) (p : Value) (hr : a.eval recv = .iface T p) (f : FuncId) (v : Value) (hm : (method (Try.prog.types.size + Made.depth) T p name).run Try.prog w = .ok (f, v) w)
    (args : Array Value) (ha : #[v] ++ xs.map a.eval = args) (hcf : (callFunc f args).run Try.prog w = .ok (.enter f args) w) {R : Ending → World → Prop} (hc : Calls Try.prog f args w R)
    (h : ∀ e w', R e w' → ∃ x, e = .returned x ∧ wpList Try.prog ops Q rest (a.put o.dst x) w') : wpList Try.prog ops Q (o :: rest) a w :=
  wpList_wanted hw fun K hK => op_invoke recv name xs ts ho T p hr f v hm args ha hcf hc (fun e w' hR => let ⟨x, e1, hx⟩ := h e w' hR; ⟨x, e1, hK _ _ hx⟩)

theorem cf_len (args : Array Value) (w : World) : (callFunc 48 args).run Try.prog w = .ok (.enter 48 args) w := by kernel_rfl
theorem cf_less (args : Array Value) (w : World) : (callFunc 49 args).run Try.prog w = .ok (.enter 49 args) w := by kernel_rfl
theorem cf_swap (args : Array Value) (w : World) : (callFunc 50 args).run Try.prog w = .ok (.enter 50 args) w := by kernel_rfl
theorem cf_push (args : Array Value) (w : World) : (callFunc 52 args).run Try.prog w = .ok (.enter 52 args) w := by kernel_rfl
theorem cf_pop (args : Array Value) (w : World) : (callFunc 51 args).run Try.prog w = .ok (.enter 51 args) w := by kernel_rfl

theorem m_push (c : Nat) (w : World) : (method (Try.prog.types.size + Made.depth) 70 (.pointer (some ⟨c, 2, none⟩)) "Push").run Try.prog w = .ok (52, .pointer (some ⟨c, 2, none⟩)) w := by kernel_rfl
theorem m_pop (c : Nat) (w : World) : (method (Try.prog.types.size + Made.depth) 70 (.pointer (some ⟨c, 2, none⟩)) "Pop").run Try.prog w = .ok (51, .pointer (some ⟨c, 2, none⟩)) w := by kernel_rfl
theorem m_less (c : Nat) (w : World) (A : Option Addr) (n cap : Nat) (h : w.cell? ⟨c, 2, none⟩ = some (.slice A n cap)) :
    (method (Try.prog.types.size + Made.depth) 70 (.pointer (some ⟨c, 2, none⟩)) "Less").run Try.prog w = .ok (49, .slice A n cap) w := by
  have e : (method (Try.prog.types.size + Made.depth) 70 (.pointer (some ⟨c, 2, none⟩)) "Less").run Try.prog w = (do let v ← loadVar 58 ⟨c, 2, none⟩; pure (49, v) : Sem _).run Try.prog w := by kernel_rfl
  rw [e]
  go_simp
theorem m_swap (c : Nat) (w : World) (A : Option Addr) (n cap : Nat) (h : w.cell? ⟨c, 2, none⟩ = some (.slice A n cap)) :
    (method (Try.prog.types.size + Made.depth) 70 (.pointer (some ⟨c, 2, none⟩)) "Swap").run Try.prog w = .ok (50, .slice A n cap) w := by
  have e : (method (Try.prog.types.size + Made.depth) 70 (.pointer (some ⟨c, 2, none⟩)) "Swap").run Try.prog w = (do let v ← loadVar 58 ⟨c, 2, none⟩; pure (50, v) : Sem _).run Try.prog w := by kernel_rfl
  rw [e]
  go_simp
theorem m_len (c : Nat) (w : World) (A : Option Addr) (n cap : Nat) (h : w.cell? ⟨c, 2, none⟩ = some (.slice A n cap)) :
    (method (Try.prog.types.size + Made.depth) 70 (.pointer (some ⟨c, 2, none⟩)) "Len").run Try.prog w = .ok (48, .slice A n cap) w := by
  have e : (method (Try.prog.types.size + Made.depth) 70 (.pointer (some ⟨c, 2, none⟩)) "Len").run Try.prog w = (do let v ← loadVar 58 ⟨c, 2, none⟩; pure (48, v) : Sem _).run Try.prog w := by kernel_rfl
  rw [e]
  go_simp

/-- Less, at an operation. -/
theorem wp_less {ops : Array Oper} {rest : List Oper} {o : Oper} {a : Act} {Q : Exit → Act → World → Prop} {w : World} (hw : Region.wanted o (yielded ops a.tmps) = true) (recv x y : Operand)
    (ho : o.op = .call { callee := .invoke recv "Less", args := #[x, y], argTypes := #[3, 3] }) (hr : a.eval recv = hpv c) (i j : Nat) (hx : a.eval x = .int .i64 (i : Int)) (hy : a.eval y = .int .i64 (j : Int))
    (h : Hp w F c now mb A cap l) (hi : i < l.length) (hj : j < l.length) (b : Bool) (hb : decide ((nth l i).lt (nth l j)) = b)
    (hK : ∀ w', Ke [] w w' → Hp w' F c now mb A cap l → wpList Try.prog ops Q rest (a.put o.dst (.bool b)) w') : wpList Try.prog ops Q (o :: rest) a w := by
  refine wpList_invoke hw recv "Less" #[x, y] _ ho _ _ hr _ _ (m_less c w A l.length cap h.ck.cells3.2.2) #[.slice A l.length cap, .int .i64 (i : Int), .int .i64 (j : Int)] (by simp [hx, hy]) (cf_less _ _) (less_ok w h i j l.length rfl hi hj) ?_
  rintro e w' ⟨rfl, hk⟩
  exact ⟨_, rfl, hb ▸ hK w' hk (h.ke hk (by simp))⟩
/-- Swap, at an operation. -/
theorem wp_swap {ops : Array Oper} {rest : List Oper} {o : Oper} {a : Act} {Q : Exit → Act → World → Prop} {w : World} (hw : Region.wanted o (yielded ops a.tmps) = true) (recv x y : Operand)
    (ho : o.op = .call { callee := .invoke recv "Swap", args := #[x, y], argTypes := #[3, 3] }) (hr : a.eval recv = hpv c) (i j : Nat) (hx : a.eval x = .int .i64 (i : Int)) (hy : a.eval y = .int .i64 (j : Int))
    (h : Hp w F c now mb A cap l) (hi : i < l.length) (hj : j < l.length) (hij : i ≠ j)
    (hK : ∀ w', Ke F w w' → Hp w' F c now mb A cap (swp l i j) → wpList Try.prog ops Q rest (a.put o.dst (.tuple #[])) w') : wpList Try.prog ops Q (o :: rest) a w := by
  refine wpList_invoke hw recv "Swap" #[x, y] _ ho _ _ hr _ _ (m_swap c w A l.length cap h.ck.cells3.2.2) #[.slice A l.length cap, .int .i64 (i : Int), .int .i64 (j : Int)] (by simp [hx, hy]) (cf_swap _ _) (swap_ok w h i j l.length rfl hi hj hij) ?_
  rintro e w' ⟨rfl, hk, hk2⟩
  exact ⟨_, rfl, hK w' hk2 hk⟩
/-- Len, at an operation. -/
theorem wp_len {ops : Array Oper} {rest : List Oper} {o : Oper} {a : Act} {Q : Exit → Act → World → Prop} {w : World} (hw : Region.wanted o (yielded ops a.tmps) = true) (recv : Operand)
    (ho : o.op = .call { callee := .invoke recv "Len", args := #[], argTypes := #[] }) (hr : a.eval recv = hpv c) (h : Hp w F c now mb A cap l) (n : Nat) (hn : l.length = n)
    (hK : wpList Try.prog ops Q rest (a.put o.dst (.int .i64 (n : Int))) w) : wpList Try.prog ops Q (o :: rest) a w := by
  refine wpList_invoke hw recv "Len" #[] _ ho _ _ hr _ _ (m_len c w A l.length cap h.ck.cells3.2.2) #[.slice A l.length cap] (by simp) (cf_len _ _) (len_ok A l.length cap w) ?_
  rintro e w' ⟨rfl, rfl⟩
  exact ⟨_, rfl, hn ▸ hK⟩
end Go.Proofs.Ytdfllobdefodfaa
