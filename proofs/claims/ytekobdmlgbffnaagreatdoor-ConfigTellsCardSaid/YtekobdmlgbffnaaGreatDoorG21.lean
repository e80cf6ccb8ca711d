/- Cz1, CgT0, CgT1, ConvB: texts of this seat, one behind the other. -/
import Derived.Test.YtekobdmlgbffnaaGreatDoorCg4
import Derived.Test.YtekobdmlgbffnaaGreatDoorG13
import Derived.Test.YtekobdmlgbffnaaGreatDoorG4
import Derived.Test.YtekobdmlgbffnaaGreatDoorShelf
import Derived.Test.YtekobdmlgbffnaaGreatDoorG8
import Derived.Test.YtekobdmlgbffnaaGreatDoorG1
import Derived.Test.YtekobdmlgbffnaaGreatDoorRows
import Derived.Laws.IdiomStrings
import Derived.Laws.AppendOwn
/- The document's own: Find, Token: their contracts. (Written by gen_cgz1.py.) -/
namespace Go.Proofs.YtekobdmlgbffnaaGreatDoor
set_option linter.unusedVariables false
set_option maxRecDepth 100000
set_option linter.unusedSimpArgs false
open Go.RowKit

theorem Ali.size {w : World} {o p : Obj} : ((w.alloc o).alloc p).heap.size = w.heap.size + 2 := by rw [World.size_alloc, World.size_alloc]

set_option maxRecDepth 100000 in
set_option maxHeartbeats 4000000 in
theorem rtoken_ok (q0 q1 q2 q3 : Value) (A : Option Addr) (l : List Tk) (n c : Nat) (s : ByteArray) (w : World) (h : RK w A l) (hn : l.length = n) (hf : n ≤ 9223372036854775807) :
    Calls Tryz.prog 12 #[.agg #[q0, q1, q2, q3, .slice A n c], .string s] w fun e w' => e = .returned (.tuple #[.agg (kcs ((fK s l).getD zeroTk)), .bool (fK s l).isSome]) ∧ Below w.heap.size w w' := by
  have HR := Lib.hid h
  have HN := Lib.hid hn
  obtain ⟨R, hR⟩ : ∃ R, fK s l = R := ⟨_, rfl⟩
  rw [hR]
  have HA := Lib.hid hR
  have HX1 := Lib.hid (show Bx w w.heap.size 33 #[q0, q1, q2, q3, .slice A n c] ((w.alloc (.cells #[q0, q1, q2, q3, .slice A n c] 33)).alloc (.cells #[.string ⟨#[]⟩, .string ⟨#[]⟩, .int .i64 0] 37)) from (Bx.new w _ _).alloc _)
  have HX2 := Lib.hid (show Bx w (w.heap.size + 1) 37 #[.string ⟨#[]⟩, .string ⟨#[]⟩, .int .i64 0] ((w.alloc (.cells #[q0, q1, q2, q3, .slice A n c] 33)).alloc (.cells #[.string ⟨#[]⟩, .string ⟨#[]⟩, .int .i64 0] 37)) from ⟨by have := Bk.new (w.alloc (.cells #[q0, q1, q2, q3, .slice A n c] 33)) 37 #[.string ⟨#[]⟩, .string ⟨#[]⟩, .int .i64 0]; rwa [World.size_alloc] at this, HX1.out.l⟩)
  clear h hn hR
  go_enter Tryz.func12, Tryz.ntmps12
  go_wp2
  obtain ⟨v0, hv0⟩ : ∃ v, (w.alloc (.cells #[q0, q1, q2, q3, .slice A n c] 33)).alloc (.cells #[.string ⟨#[]⟩, .string ⟨#[]⟩, .int .i64 0] 37) = v := ⟨_, rfl⟩
  rw [hv0] at HX1 HX2
  try rw [hv0]
  clear hv0
  go_loopw [6] (fun v6 wr => ∃ (i : Nat), i ≤ n ∧ v6 = .int .i64 (i : Int) ∧ Hid (R = fK s (l.drop i)) ∧ Hid (Bx w w.heap.size 33 #[q0, q1, q2, q3, .slice A n c] wr) ∧ Hid (Bx w (w.heap.size + 1) 37 #[.string ⟨#[]⟩, .string ⟨#[]⟩, .int .i64 0] wr)) (fun v6 _ => n - (intOf v6).toNat)
  case atStart => exact ⟨0, by omega, rfl, Lib.hid (by rw [List.drop_zero]; exact HA.out.symm), HX1, HX2⟩
  case round =>
    obtain ⟨i, hi, rfl, HD, HY, HB⟩ := hrel
    have e4 : wr.cell? ⟨w.heap.size, 4, none⟩ = some (.slice A n c) := HY.out.b.cell 4
    have z0 : wr.cell? ⟨w.heap.size + 1, 0, none⟩ = some (.string ⟨#[]⟩) := HB.out.b.cell 0
    have fz0 := HB.out.b.frozen 0
    have z1 : wr.cell? ⟨w.heap.size + 1, 1, none⟩ = some (.string ⟨#[]⟩) := HB.out.b.cell 1
    have fz1 := HB.out.b.frozen 1
    have z2 : wr.cell? ⟨w.heap.size + 1, 2, none⟩ = some (.int .i64 0) := HB.out.b.cell 2
    have fz2 := HB.out.b.frozen 2
    by_cases hi1 : i < n
    · have hi2 : (i : Int) < (n : Int) := by omega
      obtain ⟨b, o, x, rfl, hx, hc⟩ := HR.out.at3 i (by rw [HN.out]; exact hi1)
      obtain ⟨c0, c1, c2⟩ := hc wr HB.out.l
      have HST := Lib.hid (show fK s (l.drop i) = if nmEq (x.name) s = true then some x else fK s (l.drop (i + 1)) by
        rw [List.drop_eq_getElem_cons (by rw [HN.out]; exact hi1), (List.getElem?_eq_some_iff.1 hx).2]
        unfold fK
        rw [List.find?_cons]
        cases nmEq (x.name) s <;> rfl)
      obtain ⟨xn, xs, xu⟩ := x
      dsimp only at HST c0 c1 c2
      clear hc hx
      cases hq : nmEq xn s with
      | false =>
        rw [hq] at HST
        have hq2 : (xn.toList == s.toList) = false := hq
        clear hq
        go_wp2
        go_roundw
        case rel => exact ⟨i + 1, by omega, by go_num, Lib.hid (by rw [HD.out, HST.out]; rfl), HY, HB⟩
        case measure => simp [intOf]; omega
      | true =>
        rw [hq] at HST
        have hq2 : (xn.toList == s.toList) = true := hq
        clear hq
        go_wp2
        have kU := (((HB.out.b.set 0 (.string xn)).set 1 (.string xs)).set 2 (.int .i64 xu))
        simp only [List.setIfInBounds_toArray, List.set_cons_zero, List.set_cons_succ] at kU
        have hlow := HB.out.l
        refine bodyPost_ret (v := .tuple #[.agg #[.string xn, .string xs, .int .i64 xu], .bool true]) ?_ rfl ⟨?_, ?_⟩
        · have p0 := kU.cell 0; have p1 := kU.cell 1; have p2 := kU.cell 2
          simp [results, Tryz.f12, go_sem, p0, p1, p2]
        · rw [HD.out, HST.out]; rfl
        · exact (((hlow.setCell (p := ⟨w.heap.size + 1, 0, none⟩) (by show w.heap.size ≤ w.heap.size + 1; omega) _).setCell (p := ⟨w.heap.size + 1, 1, none⟩) (by show w.heap.size ≤ w.heap.size + 1; omega) _).setCell (p := ⟨w.heap.size + 1, 2, none⟩) (by show w.heap.size ≤ w.heap.size + 1; omega) _)
    · have hi2 : ¬ (i : Int) < (n : Int) := by omega
      have hnone : R = none := by rw [HD.out, List.drop_eq_nil_of_le (by rw [HN.out]; omega)]; rfl
      subst hnone
      go_wp2
      have kU := (((HB.out.b.set 0 (.string ⟨#[]⟩)).set 1 (.string ⟨#[]⟩)).set 2 (.int .i64 0))
      simp only [List.setIfInBounds_toArray, List.set_cons_zero, List.set_cons_succ] at kU
      have hlow := HB.out.l
      refine bodyPost_ret (v := .tuple #[.agg #[.string ⟨#[]⟩, .string ⟨#[]⟩, .int .i64 0], .bool false]) ?_ rfl ⟨?_, ?_⟩
      · have p0 := kU.cell 0; have p1 := kU.cell 1; have p2 := kU.cell 2
        simp [results, Tryz.f12, go_sem, p0, p1, p2]
      · rfl
      · exact (((hlow.setCell (p := ⟨w.heap.size + 1, 0, none⟩) (by show w.heap.size ≤ w.heap.size + 1; omega) _).setCell (p := ⟨w.heap.size + 1, 1, none⟩) (by show w.heap.size ≤ w.heap.size + 1; omega) _).setCell (p := ⟨w.heap.size + 1, 2, none⟩) (by show w.heap.size ≤ w.heap.size + 1; omega) _)

set_option maxRecDepth 100000 in
set_option maxHeartbeats 4000000 in
theorem rfind_ok (q0 q1 q2 q3 : Value) (A : Option Addr) (l : List Tv) (n c : Nat) (s : ByteArray) (w : World) (h : RT w A l) (hn : l.length = n) (hf : n ≤ 9223372036854775807) :
    Calls Tryz.prog 10 #[.agg #[q0, q1, q2, q3, .slice A n c], .string s] w fun e w' => e = .returned (.tuple #[.agg (tcs ((fT s l).getD zeroTv)), .bool (fT s l).isSome]) ∧ Below w.heap.size w w' := by
  have HR := Lib.hid h
  have HN := Lib.hid hn
  obtain ⟨R, hR⟩ : ∃ R, fT s l = R := ⟨_, rfl⟩
  rw [hR]
  have HA := Lib.hid hR
  have HX1 := Lib.hid (show Bx w w.heap.size 24 #[q0, q1, q2, q3, .slice A n c] ((w.alloc (.cells #[q0, q1, q2, q3, .slice A n c] 24)).alloc (.cells #[.string ⟨#[]⟩, .int .i64 0, .int .i64 0, .slice none 0 0, .slice none 0 0] 33)) from (Bx.new w _ _).alloc _)
  have HX2 := Lib.hid (show Bx w (w.heap.size + 1) 33 #[.string ⟨#[]⟩, .int .i64 0, .int .i64 0, .slice none 0 0, .slice none 0 0] ((w.alloc (.cells #[q0, q1, q2, q3, .slice A n c] 24)).alloc (.cells #[.string ⟨#[]⟩, .int .i64 0, .int .i64 0, .slice none 0 0, .slice none 0 0] 33)) from ⟨by have := Bk.new (w.alloc (.cells #[q0, q1, q2, q3, .slice A n c] 24)) 33 #[.string ⟨#[]⟩, .int .i64 0, .int .i64 0, .slice none 0 0, .slice none 0 0]; rwa [World.size_alloc] at this, HX1.out.l⟩)
  clear h hn hR
  go_enter Tryz.func10, Tryz.ntmps10
  go_wp2
  obtain ⟨v0, hv0⟩ : ∃ v, (w.alloc (.cells #[q0, q1, q2, q3, .slice A n c] 24)).alloc (.cells #[.string ⟨#[]⟩, .int .i64 0, .int .i64 0, .slice none 0 0, .slice none 0 0] 33) = v := ⟨_, rfl⟩
  rw [hv0] at HX1 HX2
  try rw [hv0]
  clear hv0
  go_loopw [6] (fun v6 wr => ∃ (i : Nat), i ≤ n ∧ v6 = .int .i64 (i : Int) ∧ Hid (R = fT s (l.drop i)) ∧ Hid (Bx w w.heap.size 24 #[q0, q1, q2, q3, .slice A n c] wr) ∧ Hid (Bx w (w.heap.size + 1) 33 #[.string ⟨#[]⟩, .int .i64 0, .int .i64 0, .slice none 0 0, .slice none 0 0] wr)) (fun v6 _ => n - (intOf v6).toNat)
  case atStart => exact ⟨0, by omega, rfl, Lib.hid (by rw [List.drop_zero]; exact HA.out.symm), HX1, HX2⟩
  case round =>
    obtain ⟨i, hi, rfl, HD, HY, HB⟩ := hrel
    have e4 : wr.cell? ⟨w.heap.size, 4, none⟩ = some (.slice A n c) := HY.out.b.cell 4
    have z0 : wr.cell? ⟨w.heap.size + 1, 0, none⟩ = some (.string ⟨#[]⟩) := HB.out.b.cell 0
    have fz0 := HB.out.b.frozen 0
    have z1 : wr.cell? ⟨w.heap.size + 1, 1, none⟩ = some (.int .i64 0) := HB.out.b.cell 1
    have fz1 := HB.out.b.frozen 1
    have z2 : wr.cell? ⟨w.heap.size + 1, 2, none⟩ = some (.int .i64 0) := HB.out.b.cell 2
    have fz2 := HB.out.b.frozen 2
    have z3 : wr.cell? ⟨w.heap.size + 1, 3, none⟩ = some (.slice none 0 0) := HB.out.b.cell 3
    have fz3 := HB.out.b.frozen 3
    have z4 : wr.cell? ⟨w.heap.size + 1, 4, none⟩ = some (.slice none 0 0) := HB.out.b.cell 4
    have fz4 := HB.out.b.frozen 4
    by_cases hi1 : i < n
    · have hi2 : (i : Int) < (n : Int) := by omega
      obtain ⟨b, o, x, rfl, hx, h1, hc⟩ := HR.out.at5 i (by rw [HN.out]; exact hi1)
      obtain ⟨c0, c1, c2, c3, c4⟩ := hc wr HB.out.l
      have HST := Lib.hid (show fT s (l.drop i) = if nmEq (x.t.name) s = true then some x else fT s (l.drop (i + 1)) by
        rw [List.drop_eq_getElem_cons (by rw [HN.out]; exact hi1), (List.getElem?_eq_some_iff.1 hx).2]
        unfold fT
        rw [List.find?_cons]
        cases nmEq (x.t.name) s <;> rfl)
      obtain ⟨⟨xn, xa, xb, xl, xk⟩, An, cn, Ak, ck⟩ := x
      dsimp only at HST c0 c1 c2 c3 c4
      clear hc hx
      cases hq : nmEq xn s with
      | false =>
        rw [hq] at HST
        have hq2 : (xn.toList == s.toList) = false := hq
        clear hq
        go_wp2
        go_roundw
        case rel => exact ⟨i + 1, by omega, by go_num, Lib.hid (by rw [HD.out, HST.out]; rfl), HY, HB⟩
        case measure => simp [intOf]; omega
      | true =>
        rw [hq] at HST
        have hq2 : (xn.toList == s.toList) = true := hq
        clear hq
        go_wp2
        have kU := (((((HB.out.b.set 0 (.string xn)).set 1 (.int .i64 xa)).set 2 (.int .i64 xb)).set 3 (.slice An xl.length cn)).set 4 (.slice Ak xk.length ck))
        simp only [List.setIfInBounds_toArray, List.set_cons_zero, List.set_cons_succ] at kU
        have hlow := HB.out.l
        refine bodyPost_ret (v := .tuple #[.agg #[.string xn, .int .i64 xa, .int .i64 xb, .slice An xl.length cn, .slice Ak xk.length ck], .bool true]) ?_ rfl ⟨?_, ?_⟩
        · have p0 := kU.cell 0; have p1 := kU.cell 1; have p2 := kU.cell 2; have p3 := kU.cell 3; have p4 := kU.cell 4
          simp [results, Tryz.f10, go_sem, p0, p1, p2, p3, p4]
        · rw [HD.out, HST.out]; rfl
        · exact (((((hlow.setCell (p := ⟨w.heap.size + 1, 0, none⟩) (by show w.heap.size ≤ w.heap.size + 1; omega) _).setCell (p := ⟨w.heap.size + 1, 1, none⟩) (by show w.heap.size ≤ w.heap.size + 1; omega) _).setCell (p := ⟨w.heap.size + 1, 2, none⟩) (by show w.heap.size ≤ w.heap.size + 1; omega) _).setCell (p := ⟨w.heap.size + 1, 3, none⟩) (by show w.heap.size ≤ w.heap.size + 1; omega) _).setCell (p := ⟨w.heap.size + 1, 4, none⟩) (by show w.heap.size ≤ w.heap.size + 1; omega) _)
    · have hi2 : ¬ (i : Int) < (n : Int) := by omega
      have hnone : R = none := by rw [HD.out, List.drop_eq_nil_of_le (by rw [HN.out]; omega)]; rfl
      subst hnone
      go_wp2
      have kU := (((((HB.out.b.set 0 (.string ⟨#[]⟩)).set 1 (.int .i64 0)).set 2 (.int .i64 0)).set 3 (.slice none 0 0)).set 4 (.slice none 0 0))
      simp only [List.setIfInBounds_toArray, List.set_cons_zero, List.set_cons_succ] at kU
      have hlow := HB.out.l
      refine bodyPost_ret (v := .tuple #[.agg #[.string ⟨#[]⟩, .int .i64 0, .int .i64 0, .slice none 0 0, .slice none 0 0], .bool false]) ?_ rfl ⟨?_, ?_⟩
      · have p0 := kU.cell 0; have p1 := kU.cell 1; have p2 := kU.cell 2; have p3 := kU.cell 3; have p4 := kU.cell 4
        simp [results, Tryz.f10, go_sem, p0, p1, p2, p3, p4]
      · rfl
      · exact (((((hlow.setCell (p := ⟨w.heap.size + 1, 0, none⟩) (by show w.heap.size ≤ w.heap.size + 1; omega) _).setCell (p := ⟨w.heap.size + 1, 1, none⟩) (by show w.heap.size ≤ w.heap.size + 1; omega) _).setCell (p := ⟨w.heap.size + 1, 2, none⟩) (by show w.heap.size ≤ w.heap.size + 1; omega) _).setCell (p := ⟨w.heap.size + 1, 3, none⟩) (by show w.heap.size ≤ w.heap.size + 1; omega) _).setCell (p := ⟨w.heap.size + 1, 4, none⟩) (by show w.heap.size ≤ w.heap.size + 1; omega) _)

end Go.Proofs.YtekobdmlgbffnaaGreatDoor

/- How long a configuration's text is: plain mathematics. -/
namespace Go.Proofs.YtekobdmlgbffnaaGreatDoor
set_option linter.unusedVariables false
set_option maxRecDepth 100000
set_option linter.unusedSimpArgs false

theorem dg10_le : ∀ (L n : Nat), n < 10 ^ (L + 1) → (dg 10 n).length ≤ L + 1
  | 0, n, h => by rw [dg_small (by omega)]; simp
  | L + 1, n, h => by
    by_cases h1 : n < 10
    · rw [dg_small h1]; simp
    · have h2 : n / 10 < 10 ^ (L + 1) := by
        rw [Nat.pow_succ] at h
        exact Nat.div_lt_of_lt_mul (by omega)
      have := dg10_le L (n / 10) h2
      rw [dg_big (by omega) h1, List.length_append, List.length_singleton]; omega
theorem dec13 (n : Nat) (h : n ≤ 1099511627776) : (decB n).length ≤ 13 := by
  have := dg10_le 12 n (by omega)
  unfold decB; rw [List.length_map]; omega
theorem slash20 (a : Nat) (b : Int) (h : b.toNat ≤ 1099511627776) : (slashL a b).length ≤ 29 := by
  unfold slashL
  split
  · rw [List.length_append, List.length_cons]
    have := dots_len a
    have := dec13 _ h
    omega
  · simp
theorem name20 {s : ByteArray} (h : nameB s = true) : s.data.toList.length ≤ 20 := by
  unfold nameB at h
  simp only [Bool.and_eq_true, decide_eq_true_eq] at h
  exact h.1.1.1.2
theorem joinL_len (c : UInt8) (k : Nat) : ∀ ws : List (List UInt8), (∀ w ∈ ws, w.length ≤ k) → (joinL c ws).length ≤ (k + 1) * ws.length
  | [], _ => by simp [joinL]
  | [p], h => by rw [joinL]; have := h p (by simp); simp; omega
  | p :: q :: ps, h => by
    have ih := joinL_len c k (q :: ps) (fun w hw => h w (List.mem_cons_of_mem _ hw))
    have := h p (by simp)
    rw [joinL, List.length_append, List.length_cons]
    simp only [List.length_cons] at ih ⊢
    rw [Nat.mul_add, Nat.mul_one]
    omega
theorem line_len {ws : List (List UInt8)} (h : ∀ w ∈ ws, w.length ≤ 64) (hn : ws.length ≤ 5) : (lineT ws).length ≤ 326 := by
  have := joinL_len 32 64 ws h
  unfold lineT
  rw [List.length_append, List.length_singleton]
  omega
theorem rightB_bits {a : Nat} {b : Int} (h : rightB a b = true) : b.toNat ≤ 32 := by
  unfold rightB at h
  simp only [Bool.and_eq_true, decide_eq_true_eq] at h
  omega
theorem cfg_short {c : Cg} (h : cfgB c = true) : (∀ ws ∈ cfgLs c, (lineT ws).length ≤ 326) ∧ (cfgLs c).length ≤ 73 := by
  obtain ⟨t1, t2, t3, t4, h5, h6, h7⟩ := cfgB_parts h
  have tt : ∀ n : Int, timB n = true → (decB n.toNat).length ≤ 64 := fun n hn => by
    have := tim_le hn
    have := dec13 n.toNat (by omega)
    omega
  have hten : ∀ t ∈ c.tens, (∀ ws ∈ tenLs t, (lineT ws).length ≤ 326) ∧ (tenLs t).length ≤ 9 := by
    intro t ht
    obtain ⟨a1, a2, a3, a4, a5, a6, a7⟩ := tenB_parts (h7 t ht)
    have hnm : nameB t.name = true := rise_names _ _ h6 _ (List.mem_map.2 ⟨t, ht, rfl⟩)
    constructor
    · intro ws hws
      rcases List.mem_cons.1 hws with rfl | hws
      · refine line_len (fun w hw => ?_) (by simp [tenW])
        simp only [tenW, List.mem_cons, List.not_mem_nil, or_false] at hw
        rcases hw with rfl | rfl | rfl | rfl
        · decide
        · have := name20 hnm; omega
        · have := quo_le a1; have := dec13 t.names.toNat (by omega); omega
        · have := quo_le a2; have := dec13 t.visitors.toNat (by omega); omega
      · rcases List.mem_append.1 hws with hws | hws
        · obtain ⟨n, hn, rfl⟩ := List.mem_map.1 hws
          refine line_len (fun w hw => ?_) (by simp [netW])
          simp only [netW, List.mem_cons, List.not_mem_nil, or_false] at hw
          rcases hw with rfl | rfl
          · decide
          · have := rightB_bits (a4 n hn)
            have := slash20 n.addr n.bits (by omega); omega
        · obtain ⟨k, hk, rfl⟩ := List.mem_map.1 hws
          have hkb := a7 k hk
          have hkn : nameB k.name = true := rise_names _ _ a6 _ (List.mem_map.2 ⟨k, hk, rfl⟩)
          unfold tokB at hkb
          simp only [Bool.and_eq_true, decide_eq_true_eq] at hkb
          obtain ⟨⟨⟨b1, b2⟩, b3⟩, b4⟩ := hkb
          refine line_len (fun w hw => ?_) (by simp [tokW])
          simp only [tokW, List.mem_cons, List.not_mem_nil, or_false] at hw
          rcases hw with rfl | rfl | rfl | rfl
          · decide
          · have := name20 hkn; omega
          · rw [hexB_len]; have : k.sec.data.toList.length = k.sec.size := rfl; omega
          · have := dec13 k.till.toNat (by omega); omega
    · simp only [tenLs, List.length_cons, List.length_append, List.length_map]; omega
  constructor
  · intro ws hws
    rcases List.mem_cons.1 hws with rfl | hws
    · refine line_len (fun w hw => ?_) (by simp [timesW])
      simp only [timesW, List.mem_cons, List.not_mem_nil, or_false] at hw
      rcases hw with rfl | rfl | rfl | rfl | rfl
      · decide
      · exact tt _ t1
      · exact tt _ t2
      · exact tt _ t3
      · exact tt _ t4
    · obtain ⟨t, ht, hm⟩ := List.mem_flatMap.1 hws
      exact (hten t ht).1 ws hm
  · have hl : ∀ l : List Tn, (∀ t ∈ l, (tenLs t).length ≤ 9) → (l.flatMap tenLs).length ≤ 9 * l.length := by
      intro l
      induction l with
      | nil => intro _; simp
      | cons t r ih =>
        intro hh
        have h1 := hh t (by simp)
        have h2 := ih (fun x hx => hh x (List.mem_cons_of_mem _ hx))
        rw [List.flatMap_cons, List.length_append, List.length_cons]; omega
    have := hl c.tens (fun t ht => (hten t ht).2)
    simp only [cfgLs, List.length_cons]; omega
theorem textT_len : ∀ ls : List (List (List UInt8)), (∀ ws ∈ ls, (lineT ws).length ≤ 326) → (textT ls).length ≤ 326 * ls.length
  | [], _ => by simp [textT]
  | ws :: r, h => by
    have h1 := h ws (by simp)
    have h2 := textT_len r (fun x hx => h x (List.mem_cons_of_mem _ hx))
    simp only [textT, List.flatMap_cons, List.length_append, List.length_cons] at h2 ⊢
    omega
theorem print_len (c : Cg) : (printT c).length ≤ 23798 := by
  unfold printT
  split
  · rename_i h
    obtain ⟨h1, h2⟩ := cfg_short h
    have := textT_len _ h1
    omega
  · simp
theorem textT_cons (ws : List (List UInt8)) (r : List (List (List UInt8))) : textT (ws :: r) = lineT ws ++ textT r := rfl
theorem textT_app (a b : List (List (List UInt8))) : textT (a ++ b) = textT a ++ textT b := List.flatMap_append
theorem joinT_len {ws : List (List UInt8)} {n : Nat} (h : (lineT ws).length ≤ n) : (joinL 32 ws).length + 1 ≤ n := by
  unfold lineT at h
  rw [List.length_append, List.length_singleton] at h
  exact h
theorem join_is (c : UInt8) : ∀ ws : List (List UInt8), Go.Lib.join ws [c] = joinL c ws
  | [] => by simp [Go.Lib.join, List.intercalate, joinL]
  | [p] => by simp [Go.Lib.join, List.intercalate, joinL]
  | p :: q :: ps => by
    have ih := join_is c (q :: ps)
    simp only [Go.Lib.join, List.intercalate, List.intersperse_cons_cons, List.flatten_cons] at ih ⊢
    rw [ih, joinL]; rfl
end Go.Proofs.YtekobdmlgbffnaaGreatDoor

/- config.line: its contract. -/
namespace Go.Proofs.YtekobdmlgbffnaaGreatDoor
set_option linter.unusedVariables false
set_option maxRecDepth 100000
set_option linter.unusedSimpArgs false
open Go.RowKit

/-- Words as a row of texts. -/
def wdc (ws : List (List UInt8)) : Array Value := (ws.map fun p => Value.string (bs p)).toArray
set_option maxHeartbeats 1000000 in
theorem line_ok (ws : List (List UInt8)) (n : Nat) (u : World) (hn : ws.length = n) (hn0 : n ≤ 5) (hl : (lineT ws).length ≤ 326) :
    Calls Tryz.prog 49 #[.slice (some ⟨u.heap.size, 0, none⟩) n n] (u.alloc (.cells (wdc ws) 9)) fun e w' => e = .returned (.string (bs (lineT ws))) ∧ Below u.heap.size u w' := by
  have hb : Bk (u.alloc (.cells (wdc ws) 9)) u.heap.size 9 (wdc ws) := Bk.new u _ _
  have hj := Tryz.strings_Join u.heap.size 0 n (ws.map bs) ⟨#[32]⟩ (u.alloc (.cells (wdc ws) 9))
    (fun j x hx => by
      rw [Nat.zero_add, hb.cell]
      rw [List.getElem?_map] at hx
      cases hw : ws[j]? with
      | none => rw [hw] at hx; cases hx
      | some p =>
        rw [hw] at hx
        injection hx with hx
        subst hx
        simp [wdc, hw])
    hb.lt (by rw [List.length_map]; omega) (by rw [List.length_map]; omega)
  have e1 : (ws.map bs).map (·.data.toList) = ws := by
    rw [List.map_map]
    have : ((fun b : ByteArray => b.data.toList) ∘ bs) = id := by funext l; exact bs_data l
    rw [this, List.map_id]
  rw [e1, show (⟨#[32]⟩ : ByteArray).data.toList = [32] from rfl, join_is, List.length_map, hn] at hj
  have hlen := joinT_len hl
  have hj2 := hj (by omega)
  have HJ := Lib.hid (show Calls Tryz.prog 89 #[.slice (some ⟨u.heap.size, 0, none⟩) n n, .string ⟨#[32]⟩] (u.alloc (.cells (wdc ws) 9)) fun e w' => e = .returned (.string (bs (joinL 32 ws))) ∧ Below (u.alloc (.cells (wdc ws) 9)).heap.size (u.alloc (.cells (wdc ws) 9)) w' from hj2)
  obtain ⟨J, hJ⟩ : ∃ J, joinL 32 ws = J := ⟨_, rfl⟩
  have HJL := Lib.hid (show lineT ws = J ++ [10] by rw [← hJ]; rfl)
  rw [hJ] at HJ hlen
  obtain ⟨v, hv⟩ : ∃ v, u.alloc (.cells (wdc ws) 9) = v := ⟨_, rfl⟩
  have HB := Lib.hid (show Below u.heap.size u v by rw [← hv]; exact (Below.refl _ _).alloc (Nat.le_refl _) _)
  rw [hv] at HJ ⊢
  rw [HJL.out]
  have HL := Lib.hid (show J.length + [(10 : UInt8)].length ≤ 9223372036854775807 by simp; omega)
  clear hb hj hj2 e1 hJ hv hl hlen
  go_enter Tryz.func49, Tryz.ntmps49
  go_wp2_with (first
    | (go_at_call 89; refine HJ.out.mono ?_; rintro e w1 ⟨rfl, hb1⟩)
    | (refine wpList_cat (by kernel_rfl) (.tmp 4) (.const (.string ⟨#[10]⟩)) _ _ rfl J [10] (J ++ [10]) rfl rfl HL.out rfl ?_))
  go_ret
  exact ⟨rfl, HB.out.trans (hb1.mono HB.out.size)⟩
end Go.Proofs.YtekobdmlgbffnaaGreatDoor

/- A text as bytes anew. -/
namespace Go.Proofs.YtekobdmlgbffnaaGreatDoor
set_option linter.unusedVariables false
set_option maxRecDepth 100000
set_option linter.unusedSimpArgs false
open Go.RowKit

theorem conv_back (B : ByteArray) (hB : B.size ≤ 1099511627776) (w : World) : ∃ (cap : Nat) (ob : Obj), (convert 9 98 (.string B)).run Tryz.prog w = .ok (.slice (some ⟨w.heap.size, 0, none⟩) B.size cap) (w.drew.alloc ob) ∧ B.size ≤ cap ∧ cap ≤ 9223372036854775807 ∧ Rb (w.drew.alloc ob) (w.drew.alloc ob).heap.size (some ⟨w.heap.size, 0, none⟩) B.data.toList := by
  refine ⟨_, _, run_bytes_of_string w 9 98 5 B Tryz.underlying9 Tryz.underlying98 Tryz.underlying5, grownCap_ge _ _ _ _, ?_, ?_⟩
  · have h := grownCap_le_maxLen w B.size 0 5 (by unfold maxLen; omega)
    unfold maxLen at h
    omega
  · refine .inr ⟨w.heap.size, 0, rfl, by show _ < (w.heap.push _).size; rw [Array.size_push]; omega, fun i hi => ?_⟩
    have hi' : i < B.data.size := by simpa using hi
    refine (cell_of_row (w.drew.alloc _) w.heap.size (0 + i) _ _ _ (heap_alloc_new w.drew _)).trans ?_
    rw [Nat.zero_add, bytesRow_at B _ i hi']
    rfl
end Go.Proofs.YtekobdmlgbffnaaGreatDoor
