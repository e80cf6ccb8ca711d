/- The document's own: Find, Token: their contracts. (Written by gen_cgz1.py.) -/
import Derived.Test.YtijboiepockmjaaDoorCg4
namespace Go.Proofs.YtijboiepockmjaaDoor
set_option linter.unusedVariables false
set_option maxRecDepth 100000
set_option linter.unusedSimpArgs false
open Go.RowKit

theorem Ali.size {w : World} {o p : Obj} : ((w.alloc o).alloc p).heap.size = w.heap.size + 2 := by rw [World.size_alloc, World.size_alloc]

set_option maxRecDepth 100000 in
set_option maxHeartbeats 4000000 in
theorem rtoken_ok (q0 q1 q2 q3 : Value) (A : Option Addr) (l : List Tk) (n c : Nat) (s : ByteArray) (w : World) (h : RK w A l) (hn : l.length = n) (hf : n ≤ 9223372036854775807) :
    Calls Tryd.prog 23 #[.agg #[q0, q1, q2, q3, .slice A n c], .string s] w fun e w' => e = .returned (.tuple #[.agg (kcs ((fK s l).getD zeroTk)), .bool (fK s l).isSome]) ∧ Below w.heap.size w w' := by
  have HR := Lib.hid h
  have HN := Lib.hid hn
  obtain ⟨R, hR⟩ : ∃ R, fK s l = R := ⟨_, rfl⟩
  rw [hR]
  have HA := Lib.hid hR
  have HX1 := Lib.hid (show Bx w w.heap.size 44 #[q0, q1, q2, q3, .slice A n c] ((w.alloc (.cells #[q0, q1, q2, q3, .slice A n c] 44)).alloc (.cells #[.string ⟨#[]⟩, .string ⟨#[]⟩, .int .i64 0] 48)) from (Bx.new w _ _).alloc _)
  have HX2 := Lib.hid (show Bx w (w.heap.size + 1) 48 #[.string ⟨#[]⟩, .string ⟨#[]⟩, .int .i64 0] ((w.alloc (.cells #[q0, q1, q2, q3, .slice A n c] 44)).alloc (.cells #[.string ⟨#[]⟩, .string ⟨#[]⟩, .int .i64 0] 48)) from ⟨by have := Bk.new (w.alloc (.cells #[q0, q1, q2, q3, .slice A n c] 44)) 48 #[.string ⟨#[]⟩, .string ⟨#[]⟩, .int .i64 0]; rwa [World.size_alloc] at this, HX1.out.l⟩)
  clear h hn hR
  go_enter Tryd.func23, Tryd.ntmps23
  go_wp2
  obtain ⟨v0, hv0⟩ : ∃ v, (w.alloc (.cells #[q0, q1, q2, q3, .slice A n c] 44)).alloc (.cells #[.string ⟨#[]⟩, .string ⟨#[]⟩, .int .i64 0] 48) = v := ⟨_, rfl⟩
  rw [hv0] at HX1 HX2
  try rw [hv0]
  clear hv0
  go_loopw [6] (fun v6 wr => ∃ (i : Nat), i ≤ n ∧ v6 = .int .i64 (i : Int) ∧ Hid (R = fK s (l.drop i)) ∧ Hid (Bx w w.heap.size 44 #[q0, q1, q2, q3, .slice A n c] wr) ∧ Hid (Bx w (w.heap.size + 1) 48 #[.string ⟨#[]⟩, .string ⟨#[]⟩, .int .i64 0] wr)) (fun v6 _ => n - (intOf v6).toNat)
  case atStart => exact ⟨0, by omega, rfl, Lib.hid (by rw [List.drop_zero]; exact HA.out.symm), HX1, HX2⟩
  case round =>
    obtain ⟨i, hi, rfl, HD, HY, HB⟩ := hrel
    have e4 : wr.cell? ⟨w.heap.size, 4, none⟩ = some (.slice A n c) := HY.out.b.cell 4
    have z0 : wr.cell? ⟨w.heap.size + 1, 0, none⟩ = some (.string ⟨#[]⟩) := HB.out.b.cell 0
    have fz0 := HB.out.b.frozen 0
    have z1 : wr.cell? ⟨w.heap.size + 1, 1, none⟩ = some (.string ⟨#[]⟩) := HB.out.b.cell 1
    have fz1 := HB.out.b.frozen 1
    have z2 : wr.cell? ⟨w.heap.size + 1, 2, none⟩ = some (.int .i64 0) := HB.out.b.cell 2
    have fz2 := HB.out.b.frozen 2
    by_cases hi1 : i < n
    · have hi2 : (i : Int) < (n : Int) := by omega
      obtain ⟨b, o, x, rfl, hx, hc⟩ := HR.out.at3 i (by rw [HN.out]; exact hi1)
      obtain ⟨c0, c1, c2⟩ := hc wr HB.out.l
      have HST := Lib.hid (show fK s (l.drop i) = if nmEq (x.name) s = true then some x else fK s (l.drop (i + 1)) by
        rw [List.drop_eq_getElem_cons (by rw [HN.out]; exact hi1), (List.getElem?_eq_some_iff.1 hx).2]
        unfold fK
        rw [List.find?_cons]
        cases nmEq (x.name) s <;> rfl)
      obtain ⟨xn, xs, xu⟩ := x
      dsimp only at HST c0 c1 c2
      clear hc hx
      cases hq : nmEq xn s with
      | false =>
        rw [hq] at HST
        have hq2 : (xn.toList == s.toList) = false := hq
        clear hq
        go_wp2
        go_roundw
        case rel => exact ⟨i + 1, by omega, by go_num, Lib.hid (by rw [HD.out, HST.out]; rfl), HY, HB⟩
        case measure => simp [intOf]; omega
      | true =>
        rw [hq] at HST
        have hq2 : (xn.toList == s.toList) = true := hq
        clear hq
        go_wp2
        have kU := (((HB.out.b.set 0 (.string xn)).set 1 (.string xs)).set 2 (.int .i64 xu))
        simp only [List.setIfInBounds_toArray, List.set_cons_zero, List.set_cons_succ] at kU
        have hlow := HB.out.l
        refine bodyPost_ret (v := .tuple #[.agg #[.string xn, .string xs, .int .i64 xu], .bool true]) ?_ rfl ⟨?_, ?_⟩
        · have p0 := kU.cell 0; have p1 := kU.cell 1; have p2 := kU.cell 2
          simp [results, Tryd.f23, go_sem, p0, p1, p2]
        · rw [HD.out, HST.out]; rfl
        · exact (((hlow.setCell (p := ⟨w.heap.size + 1, 0, none⟩) (by show w.heap.size ≤ w.heap.size + 1; omega) _).setCell (p := ⟨w.heap.size + 1, 1, none⟩) (by show w.heap.size ≤ w.heap.size + 1; omega) _).setCell (p := ⟨w.heap.size + 1, 2, none⟩) (by show w.heap.size ≤ w.heap.size + 1; omega) _)
    · have hi2 : ¬ (i : Int) < (n : Int) := by omega
      have hnone : R = none := by rw [HD.out, List.drop_eq_nil_of_le (by rw [HN.out]; omega)]; rfl
      subst hnone
      go_wp2
      have kU := (((HB.out.b.set 0 (.string ⟨#[]⟩)).set 1 (.string ⟨#[]⟩)).set 2 (.int .i64 0))
      simp only [List.setIfInBounds_toArray, List.set_cons_zero, List.set_cons_succ] at kU
      have hlow := HB.out.l
      refine bodyPost_ret (v := .tuple #[.agg #[.string ⟨#[]⟩, .string ⟨#[]⟩, .int .i64 0], .bool false]) ?_ rfl ⟨?_, ?_⟩
      · have p0 := kU.cell 0; have p1 := kU.cell 1; have p2 := kU.cell 2
        simp [results, Tryd.f23, go_sem, p0, p1, p2]
      · rfl
      · exact (((hlow.setCell (p := ⟨w.heap.size + 1, 0, none⟩) (by show w.heap.size ≤ w.heap.size + 1; omega) _).setCell (p := ⟨w.heap.size + 1, 1, none⟩) (by show w.heap.size ≤ w.heap.size + 1; omega) _).setCell (p := ⟨w.heap.size + 1, 2, none⟩) (by show w.heap.size ≤ w.heap.size + 1; omega) _)

set_option maxRecDepth 100000 in
set_option maxHeartbeats 4000000 in
theorem rfind_ok (q0 q1 q2 q3 : Value) (A : Option Addr) (l : List Tv) (n c : Nat) (s : ByteArray) (w : World) (h : RT w A l) (hn : l.length = n) (hf : n ≤ 9223372036854775807) :
    Calls Tryd.prog 22 #[.agg #[q0, q1, q2, q3, .slice A n c], .string s] w fun e w' => e = .returned (.tuple #[.agg (tcs ((fT s l).getD zeroTv)), .bool (fT s l).isSome]) ∧ Below w.heap.size w w' := by
  have HR := Lib.hid h
  have HN := Lib.hid hn
  obtain ⟨R, hR⟩ : ∃ R, fT s l = R := ⟨_, rfl⟩
  rw [hR]
  have HA := Lib.hid hR
  have HX1 := Lib.hid (show Bx w w.heap.size 24 #[q0, q1, q2, q3, .slice A n c] ((w.alloc (.cells #[q0, q1, q2, q3, .slice A n c] 24)).alloc (.cells #[.string ⟨#[]⟩, .int .i64 0, .int .i64 0, .slice none 0 0, .slice none 0 0] 44)) from (Bx.new w _ _).alloc _)
  have HX2 := Lib.hid (show Bx w (w.heap.size + 1) 44 #[.string ⟨#[]⟩, .int .i64 0, .int .i64 0, .slice none 0 0, .slice none 0 0] ((w.alloc (.cells #[q0, q1, q2, q3, .slice A n c] 24)).alloc (.cells #[.string ⟨#[]⟩, .int .i64 0, .int .i64 0, .slice none 0 0, .slice none 0 0] 44)) from ⟨by have := Bk.new (w.alloc (.cells #[q0, q1, q2, q3, .slice A n c] 24)) 44 #[.string ⟨#[]⟩, .int .i64 0, .int .i64 0, .slice none 0 0, .slice none 0 0]; rwa [World.size_alloc] at this, HX1.out.l⟩)
  clear h hn hR
  go_enter Tryd.func22, Tryd.ntmps22
  go_wp2
  obtain ⟨v0, hv0⟩ : ∃ v, (w.alloc (.cells #[q0, q1, q2, q3, .slice A n c] 24)).alloc (.cells #[.string ⟨#[]⟩, .int .i64 0, .int .i64 0, .slice none 0 0, .slice none 0 0] 44) = v := ⟨_, rfl⟩
  rw [hv0] at HX1 HX2
  try rw [hv0]
  clear hv0
  go_loopw [6] (fun v6 wr => ∃ (i : Nat), i ≤ n ∧ v6 = .int .i64 (i : Int) ∧ Hid (R = fT s (l.drop i)) ∧ Hid (Bx w w.heap.size 24 #[q0, q1, q2, q3, .slice A n c] wr) ∧ Hid (Bx w (w.heap.size + 1) 44 #[.string ⟨#[]⟩, .int .i64 0, .int .i64 0, .slice none 0 0, .slice none 0 0] wr)) (fun v6 _ => n - (intOf v6).toNat)
  case atStart => exact ⟨0, by omega, rfl, Lib.hid (by rw [List.drop_zero]; exact HA.out.symm), HX1, HX2⟩
  case round =>
    obtain ⟨i, hi, rfl, HD, HY, HB⟩ := hrel
    have e4 : wr.cell? ⟨w.heap.size, 4, none⟩ = some (.slice A n c) := HY.out.b.cell 4
    have z0 : wr.cell? ⟨w.heap.size + 1, 0, none⟩ = some (.string ⟨#[]⟩) := HB.out.b.cell 0
    have fz0 := HB.out.b.frozen 0
    have z1 : wr.cell? ⟨w.heap.size + 1, 1, none⟩ = some (.int .i64 0) := HB.out.b.cell 1
    have fz1 := HB.out.b.frozen 1
    have z2 : wr.cell? ⟨w.heap.size + 1, 2, none⟩ = some (.int .i64 0) := HB.out.b.cell 2
    have fz2 := HB.out.b.frozen 2
    have z3 : wr.cell? ⟨w.heap.size + 1, 3, none⟩ = some (.slice none 0 0) := HB.out.b.cell 3
    have fz3 := HB.out.b.frozen 3
    have z4 : wr.cell? ⟨w.heap.size + 1, 4, none⟩ = some (.slice none 0 0) := HB.out.b.cell 4
    have fz4 := HB.out.b.frozen 4
    by_cases hi1 : i < n
    · have hi2 : (i : Int) < (n : Int) := by omega
      obtain ⟨b, o, x, rfl, hx, h1, hc⟩ := HR.out.at5 i (by rw [HN.out]; exact hi1)
      obtain ⟨c0, c1, c2, c3, c4⟩ := hc wr HB.out.l
      have HST := Lib.hid (show fT s (l.drop i) = if nmEq (x.t.name) s = true then some x else fT s (l.drop (i + 1)) by
        rw [List.drop_eq_getElem_cons (by rw [HN.out]; exact hi1), (List.getElem?_eq_some_iff.1 hx).2]
        unfold fT
        rw [List.find?_cons]
        cases nmEq (x.t.name) s <;> rfl)
      obtain ⟨⟨xn, xa, xb, xl, xk⟩, An, cn, Ak, ck⟩ := x
      dsimp only at HST c0 c1 c2 c3 c4
      clear hc hx
      cases hq : nmEq xn s with
      | false =>
        rw [hq] at HST
        have hq2 : (xn.toList == s.toList) = false := hq
        clear hq
        go_wp2
        go_roundw
        case rel => exact ⟨i + 1, by omega, by go_num, Lib.hid (by rw [HD.out, HST.out]; rfl), HY, HB⟩
        case measure => simp [intOf]; omega
      | true =>
        rw [hq] at HST
        have hq2 : (xn.toList == s.toList) = true := hq
        clear hq
        go_wp2
        have kU := (((((HB.out.b.set 0 (.string xn)).set 1 (.int .i64 xa)).set 2 (.int .i64 xb)).set 3 (.slice An xl.length cn)).set 4 (.slice Ak xk.length ck))
        simp only [List.setIfInBounds_toArray, List.set_cons_zero, List.set_cons_succ] at kU
        have hlow := HB.out.l
        refine bodyPost_ret (v := .tuple #[.agg #[.string xn, .int .i64 xa, .int .i64 xb, .slice An xl.length cn, .slice Ak xk.length ck], .bool true]) ?_ rfl ⟨?_, ?_⟩
        · have p0 := kU.cell 0; have p1 := kU.cell 1; have p2 := kU.cell 2; have p3 := kU.cell 3; have p4 := kU.cell 4
          simp [results, Tryd.f22, go_sem, p0, p1, p2, p3, p4]
        · rw [HD.out, HST.out]; rfl
        · exact (((((hlow.setCell (p := ⟨w.heap.size + 1, 0, none⟩) (by show w.heap.size ≤ w.heap.size + 1; omega) _).setCell (p := ⟨w.heap.size + 1, 1, none⟩) (by show w.heap.size ≤ w.heap.size + 1; omega) _).setCell (p := ⟨w.heap.size + 1, 2, none⟩) (by show w.heap.size ≤ w.heap.size + 1; omega) _).setCell (p := ⟨w.heap.size + 1, 3, none⟩) (by show w.heap.size ≤ w.heap.size + 1; omega) _).setCell (p := ⟨w.heap.size + 1, 4, none⟩) (by show w.heap.size ≤ w.heap.size + 1; omega) _)
    · have hi2 : ¬ (i : Int) < (n : Int) := by omega
      have hnone : R = none := by rw [HD.out, List.drop_eq_nil_of_le (by rw [HN.out]; omega)]; rfl
      subst hnone
      go_wp2
      have kU := (((((HB.out.b.set 0 (.string ⟨#[]⟩)).set 1 (.int .i64 0)).set 2 (.int .i64 0)).set 3 (.slice none 0 0)).set 4 (.slice none 0 0))
      simp only [List.setIfInBounds_toArray, List.set_cons_zero, List.set_cons_succ] at kU
      have hlow := HB.out.l
      refine bodyPost_ret (v := .tuple #[.agg #[.string ⟨#[]⟩, .int .i64 0, .int .i64 0, .slice none 0 0, .slice none 0 0], .bool false]) ?_ rfl ⟨?_, ?_⟩
      · have p0 := kU.cell 0; have p1 := kU.cell 1; have p2 := kU.cell 2; have p3 := kU.cell 3; have p4 := kU.cell 4
        simp [results, Tryd.f22, go_sem, p0, p1, p2, p3, p4]
      · rfl
      · exact (((((hlow.setCell (p := ⟨w.heap.size + 1, 0, none⟩) (by show w.heap.size ≤ w.heap.size + 1; omega) _).setCell (p := ⟨w.heap.size + 1, 1, none⟩) (by show w.heap.size ≤ w.heap.size + 1; omega) _).setCell (p := ⟨w.heap.size + 1, 2, none⟩) (by show w.heap.size ≤ w.heap.size + 1; omega) _).setCell (p := ⟨w.heap.size + 1, 3, none⟩) (by show w.heap.size ≤ w.heap.size + 1; omega) _).setCell (p := ⟨w.heap.size + 1, 4, none⟩) (by show w.heap.size ≤ w.heap.size + 1; omega) _)

end Go.Proofs.YtijboiepockmjaaDoor
