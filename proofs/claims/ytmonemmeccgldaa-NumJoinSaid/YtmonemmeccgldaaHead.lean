/- The live question of the first layer's statements: always yes. -/
import Derived.Test.YtmonemmeccgldaaPut
import Derived.Test.YtmonemmeccgldaaGet
import Derived.Test.YtmonemmeccgldaaParse
import Derived.Test.YtmonemmeccgldaaRead
import Derived.Test.YtmonemmeccgldaaText
namespace Go.Proofs.Ytmonemmeccgldaa
set_option linter.unusedVariables false
set_option linter.unusedSimpArgs false
open Go.RowKit

theorem q_put : putB 300 = [130, 44] := by simp [putB, dg]
theorem q_get : getS [130, 44, 7] = some (300, 2) := by decide
theorem q_read : readS [2, 97, 98, 99] = some [97, 98] := by decide
theorem q_parse : parseS ⟨#[51, 48, 48]⟩ = some (300, 3) := by decide
theorem q_noparse : parseS ⟨#[48, 51, 48]⟩ = none := by decide
theorem q_text : textB ⟨#[97, 98]⟩ = [2, 97, 98] := by decide
theorem q_dec : decB 300 = [51, 48, 48] := by simp [decB, dg]

/-- What of Put's answer is read later on is still there. -/
structure Held (w w1 : World) : Prop where
  b : Below w.heap.size w w1
  k0 : w1.cell? ⟨w.heap.size, 0, none⟩ = some (.int .u8 130)
  k1 : w1.cell? ⟨w.heap.size, 1, none⟩ = some (.int .u8 44)
  s : w.heap.size < w1.heap.size
theorem Held.on {w w1 w2 : World} (h : Held w w1) (hb : Below w1.heap.size w1 w2) : Held w w2 :=
  ⟨h.b.trans (hb.mono (by have := h.s; omega)), (hb.cell (p := ⟨w.heap.size, 0, none⟩) h.s).trans h.k0, (hb.cell (p := ⟨w.heap.size, 1, none⟩) h.s).trans h.k1, Nat.lt_of_lt_of_le h.s hb.size⟩

set_option maxRecDepth 100000 in
set_option maxHeartbeats 1000000 in
theorem head_ok (w : World) : Calls Try.prog 9 #[] w fun e w' => e = .returned (.bool true) ∧ Below w.heap.size w w' := by
  have hcv := fun (w : World) (C : Array Value) (n c : Nat) => Go.Lib.run_convert_bytes_const (P := Try.prog) w 22 5 C n c Try.underlying22 Try.underlying5
  go_enter Try.func9, Try.ntmps9
  go_wp2_with fail
  refine (put_ok 300 _ (by omega)).mono ?_
  rw [q_put]
  rintro e w1 ⟨rfl, hw1⟩
  have h1 : Held w w1 := by
    rw [hw1]
    exact ⟨by go_grown, by rw [(Bk.new w _ _).cell]; rfl, by rw [(Bk.new w _ _).cell]; rfl, by simp⟩
  clear hw1
  go_wp2_with fail
  refine (get_ok _ [130, 44, 7] 3 3 _ (Rb.bk (t := 5) (g := w1.heap.size) (l := [130, 44, 7]) (Bk.here rfl) |>.more (by simp)) (by simp) rfl).mono ?_
  rw [q_get]
  simp only [numE]
  rintro e w2 ⟨rfl, hw2⟩
  have h2 : Held w w2 := h1.on (((Below.refl _ _).alloc (Nat.le_refl _) _).trans (hw2.mono (by simp)))
  clear hw2 h1
  go_wp2_with fail
  refine (read_ok _ [2, 97, 98, 99] 4 4 _ (Rb.marked (t := 5) (l := [2, 97, 98, 99]) |>.more (by simp)) (by simp) rfl).mono ?_
  rw [q_read]
  simp only [readE, List.length_cons, List.length_nil]
  rintro e w3 ⟨rfl, hw3⟩
  have h3 : Held w w3 := h2.on (((Below.refl _ _).alloc (Nat.le_refl _) _).trans (hw3.mono (by simp)))
  clear hw3 h2
  go_wp2_with fail
  refine (parse_ok _ _ (by decide)).mono ?_
  rw [q_parse]
  simp only [parE]
  rintro e w4 ⟨rfl, hw4⟩
  have h4 : Held w w4 := h3.on hw4
  clear hw4 h3
  go_wp2_with fail
  refine (parse_ok _ _ (by decide)).mono ?_
  rw [q_noparse]
  simp only [parE]
  rintro e w5 ⟨rfl, hw5⟩
  have h5 : Held w w5 := h4.on hw5
  clear hw5 h4
  have k0 := h5.k0
  have k1 := h5.k1
  go_wp2_with fail
  refine (text_ok _ _ (by decide)).mono ?_
  rw [q_text]
  rintro e w6 ⟨A, c, rfl, hO, hb6⟩
  have hst := str_of (P := Try.prog) hO.rb 22 5 9 Try.underlying22 Try.underlying5 Try.underlying9 3 c rfl
  have h6 : Held w w6 := h5.on hb6
  simp only [List.length_cons, List.length_nil]
  go_wp2_with fail
  refine (dec_ok 300 _ (by omega)).mono ?_
  rw [q_dec]
  rintro e w7 ⟨rfl, hb7⟩
  go_wp2_with fail
  go_ret
  exact ⟨rfl, (h6.on hb7).b⟩

end Go.Proofs.Ytmonemmeccgldaa
