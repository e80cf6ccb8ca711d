/- config: find, slices.Clone, Find, Token: their contracts. (Written by gen_cg4.py.) -/
import Derived.Test.YtekobdmlgbffnaaGreatDoorCg2
import Derived.Test.YtekobdmlgbffnaaGreatDoorG4
namespace Go.Proofs.YtekobdmlgbffnaaGreatDoor
set_option linter.unusedVariables false
set_option maxRecDepth 100000
set_option linter.unusedSimpArgs false
open Go.RowKit

def nmEq (a b : ByteArray) : Bool := a.toList == b.toList
theorem nmEq_iff {a b : ByteArray} : nmEq a b = true ↔ a = b := by
  unfold nmEq
  rw [beq_iff_eq, ByteArray.toList_eq, ByteArray.toList_eq]
  constructor
  · intro h
    rw [← bs_of a, ← bs_of b, h]
  · intro h; rw [h]
def zeroTn : Tn := ⟨ByteArray.empty, 0, 0, [], []⟩
def zeroTv : Tv := ⟨zeroTn, none, 0, none, 0⟩
def zeroTk : Tk := ⟨ByteArray.empty, ByteArray.empty, 0⟩
def fT (s : ByteArray) (l : List Tv) : Option Tv := l.find? fun x => nmEq x.t.name s
def fK (s : ByteArray) (l : List Tk) : Option Tk := l.find? fun x => nmEq x.name s

theorem Bx.alloc {w u : World} {g : Nat} {t : TypeId} {cs : Array Value} (h : Bx w g t cs u) (o : Obj) : Bx w g t cs (u.alloc o) := ⟨h.b.alloc o, h.l.alloc h.l.size o⟩

set_option maxRecDepth 100000 in
set_option maxHeartbeats 4000000 in
theorem findK_ok (A : Option Addr) (l : List Tk) (n c : Nat) (s : ByteArray) (w : World) (h : RK w A l) (hn : l.length = n) (hf : n ≤ 9223372036854775807) :
    Calls Tryz.prog 42 #[.slice A n c, .func (.func 43) #[] #[], .string s] w fun e w' => e = .returned (.tuple #[.agg (kcs ((fK s l).getD zeroTk)), .bool (fK s l).isSome]) ∧ Below w.heap.size w w' := by
  have HR := Lib.hid h
  have HN := Lib.hid hn
  obtain ⟨R, hR⟩ : ∃ R, fK s l = R := ⟨_, rfl⟩
  rw [hR]
  have HA := Lib.hid hR
  clear h hn hR
  go_enter Tryz.func42, Tryz.ntmps42
  go_wp2
  go_loopw [13] (fun v13 wr => ∃ (i : Nat), i ≤ n ∧ v13 = .int .i64 (i : Int) ∧ Hid (R = fK s (l.drop i)) ∧ Hid (Bx w w.heap.size 37 #[.string ⟨#[]⟩, .string ⟨#[]⟩, .int .i64 0] wr)) (fun v13 _ => n - (intOf v13).toNat)
  case atStart => exact ⟨0, by omega, rfl, Lib.hid (by rw [List.drop_zero]; exact HA.out.symm), Lib.hid (Bx.new _ _ _)⟩
  case round =>
    obtain ⟨i, hi, rfl, HD, HB⟩ := hrel
    have z0 : wr.cell? ⟨w.heap.size, 0, none⟩ = some (.string ⟨#[]⟩) := HB.out.cell 0
    have z1 : wr.cell? ⟨w.heap.size, 1, none⟩ = some (.string ⟨#[]⟩) := HB.out.cell 1
    have z2 : wr.cell? ⟨w.heap.size, 2, none⟩ = some (.int .i64 0) := HB.out.cell 2
    have fz0 := HB.out.b.frozen 0
    have fz1 := HB.out.b.frozen 1
    have fz2 := HB.out.b.frozen 2
    by_cases hi1 : i < n
    · have hi2 : (i : Int) < (n : Int) := by omega
      obtain ⟨b, o, x, rfl, hx, hc⟩ := HR.out.at3 i (by rw [HN.out]; exact hi1)
      obtain ⟨c0, c1, c2⟩ := hc wr HB.out.l
      have HST := Lib.hid (show fK s (l.drop i) = if nmEq (x.name) s = true then some x else fK s (l.drop (i + 1)) by
        rw [List.drop_eq_getElem_cons (by rw [HN.out]; exact hi1), (List.getElem?_eq_some_iff.1 hx).2]
        unfold fK
        rw [List.find?_cons]
        cases nmEq (x.name) s <;> rfl)
      obtain ⟨xn, xs, xu⟩ := x
      dsimp only at HST c0 c1 c2
      have HF := Lib.hid (fun u => nmk_ok xn xs xu u)
      clear hc hx
      cases hq : nmEq xn s with
      | false =>
        rw [hq] at HST
        have hq2 : (xn.toList == s.toList) = false := hq
        clear hq
        go_wp2_with (go_at_call 43; refine (HF.out _).mono ?_; rintro e u2 ⟨rfl, hb2⟩)
        go_roundw
        case rel => exact ⟨i + 1, by omega, by go_num, Lib.hid (by rw [HD.out, HST.out]; rfl), Lib.hid ((HB.out.alloc _).on hb2)⟩
        case measure => simp [intOf]; omega
      | true =>
        rw [hq] at HST
        have hq2 : (xn.toList == s.toList) = true := hq
        clear hq
        have HBA := Lib.hid (HB.out.alloc (.cells #[.string xn, .string xs, .int .i64 xu] 37))
        have HBN := Lib.hid (Bk.new wr 37 #[.string xn, .string xs, .int .i64 xu])
        go_wp2_with (go_at_call 43; refine (HF.out _).mono ?_; rintro e u2 ⟨rfl, hb2⟩; have HB2 := Lib.hid (HBA.out.on hb2); have k2 := HBN.out.below hb2 HBN.out.lt; have k2_0 : u2.cell? ⟨wr.heap.size, 0, none⟩ = some (.string xn) := k2.cell 0; have k2_1 : u2.cell? ⟨wr.heap.size, 1, none⟩ = some (.string xs) := k2.cell 1; have k2_2 : u2.cell? ⟨wr.heap.size, 2, none⟩ = some (.int .i64 xu) := k2.cell 2; have fy0 := HB2.out.b.frozen 0; have zz0 : u2.cell? ⟨w.heap.size, 0, none⟩ = some (.string ⟨#[]⟩) := HB2.out.cell 0; have fy1 := HB2.out.b.frozen 1; have zz1 : u2.cell? ⟨w.heap.size, 1, none⟩ = some (.string ⟨#[]⟩) := HB2.out.cell 1; have fy2 := HB2.out.b.frozen 2; have zz2 : u2.cell? ⟨w.heap.size, 2, none⟩ = some (.int .i64 0) := HB2.out.cell 2; clear k2 hb2)
        have kU := (((HB2.out.b.set 0 (.string xn)).set 1 (.string xs)).set 2 (.int .i64 xu))
        simp only [List.setIfInBounds_toArray, List.set_cons_zero, List.set_cons_succ] at kU
        have hlow := HB2.out.l
        refine bodyPost_ret (v := .tuple #[.agg #[.string xn, .string xs, .int .i64 xu], .bool true]) ?_ rfl ⟨?_, ?_⟩
        · have p0 := kU.cell 0; have p1 := kU.cell 1; have p2 := kU.cell 2
          simp [results, Tryz.f42, go_sem, p0, p1, p2]
        · rw [HD.out, HST.out]; rfl
        · exact (((hlow.setCell (p := ⟨w.heap.size, 0, none⟩) (Nat.le_refl _) _).setCell (p := ⟨w.heap.size, 1, none⟩) (Nat.le_refl _) _).setCell (p := ⟨w.heap.size, 2, none⟩) (Nat.le_refl _) _)
    · have hi2 : ¬ (i : Int) < (n : Int) := by omega
      have hnone : R = none := by rw [HD.out, List.drop_eq_nil_of_le (by rw [HN.out]; omega)]; rfl
      subst hnone
      have HBA := Lib.hid (HB.out.alloc (.cells #[.string ⟨#[]⟩, .string ⟨#[]⟩, .int .i64 0] 37))
      have g0 : (wr.alloc (.cells #[.string ⟨#[]⟩, .string ⟨#[]⟩, .int .i64 0] 37)).cell? ⟨w.heap.size, 0, none⟩ = some (.string ⟨#[]⟩) := HBA.out.cell 0
      have gf0 := HBA.out.b.frozen 0
      have g1 : (wr.alloc (.cells #[.string ⟨#[]⟩, .string ⟨#[]⟩, .int .i64 0] 37)).cell? ⟨w.heap.size, 1, none⟩ = some (.string ⟨#[]⟩) := HBA.out.cell 1
      have gf1 := HBA.out.b.frozen 1
      have g2 : (wr.alloc (.cells #[.string ⟨#[]⟩, .string ⟨#[]⟩, .int .i64 0] 37)).cell? ⟨w.heap.size, 2, none⟩ = some (.int .i64 0) := HBA.out.cell 2
      have gf2 := HBA.out.b.frozen 2
      go_wp2
      have kU := (((HBA.out.b.set 0 (.string ⟨#[]⟩)).set 1 (.string ⟨#[]⟩)).set 2 (.int .i64 0))
      simp only [List.setIfInBounds_toArray, List.set_cons_zero, List.set_cons_succ] at kU
      have hlow := HBA.out.l
      refine bodyPost_ret (v := .tuple #[.agg #[.string ⟨#[]⟩, .string ⟨#[]⟩, .int .i64 0], .bool false]) ?_ rfl ⟨?_, ?_⟩
      · have p0 := kU.cell 0; have p1 := kU.cell 1; have p2 := kU.cell 2
        simp [results, Tryz.f42, go_sem, p0, p1, p2]
      · rfl
      · exact (((hlow.setCell (p := ⟨w.heap.size, 0, none⟩) (Nat.le_refl _) _).setCell (p := ⟨w.heap.size, 1, none⟩) (Nat.le_refl _) _).setCell (p := ⟨w.heap.size, 2, none⟩) (Nat.le_refl _) _)

set_option maxRecDepth 100000 in
set_option maxHeartbeats 4000000 in
theorem findT_ok (A : Option Addr) (l : List Tv) (n c : Nat) (s : ByteArray) (w : World) (h : RT w A l) (hn : l.length = n) (hf : n ≤ 9223372036854775807) :
    Calls Tryz.prog 38 #[.slice A n c, .func (.func 39) #[] #[], .string s] w fun e w' => e = .returned (.tuple #[.agg (tcs ((fT s l).getD zeroTv)), .bool (fT s l).isSome]) ∧ Below w.heap.size w w' := by
  have HR := Lib.hid h
  have HN := Lib.hid hn
  obtain ⟨R, hR⟩ : ∃ R, fT s l = R := ⟨_, rfl⟩
  rw [hR]
  have HA := Lib.hid hR
  clear h hn hR
  go_enter Tryz.func38, Tryz.ntmps38
  go_wp2
  go_loopw [13] (fun v13 wr => ∃ (i : Nat), i ≤ n ∧ v13 = .int .i64 (i : Int) ∧ Hid (R = fT s (l.drop i)) ∧ Hid (Bx w w.heap.size 33 #[.string ⟨#[]⟩, .int .i64 0, .int .i64 0, .slice none 0 0, .slice none 0 0] wr)) (fun v13 _ => n - (intOf v13).toNat)
  case atStart => exact ⟨0, by omega, rfl, Lib.hid (by rw [List.drop_zero]; exact HA.out.symm), Lib.hid (Bx.new _ _ _)⟩
  case round =>
    obtain ⟨i, hi, rfl, HD, HB⟩ := hrel
    have z0 : wr.cell? ⟨w.heap.size, 0, none⟩ = some (.string ⟨#[]⟩) := HB.out.cell 0
    have z1 : wr.cell? ⟨w.heap.size, 1, none⟩ = some (.int .i64 0) := HB.out.cell 1
    have z2 : wr.cell? ⟨w.heap.size, 2, none⟩ = some (.int .i64 0) := HB.out.cell 2
    have z3 : wr.cell? ⟨w.heap.size, 3, none⟩ = some (.slice none 0 0) := HB.out.cell 3
    have z4 : wr.cell? ⟨w.heap.size, 4, none⟩ = some (.slice none 0 0) := HB.out.cell 4
    have fz0 := HB.out.b.frozen 0
    have fz1 := HB.out.b.frozen 1
    have fz2 := HB.out.b.frozen 2
    have fz3 := HB.out.b.frozen 3
    have fz4 := HB.out.b.frozen 4
    by_cases hi1 : i < n
    · have hi2 : (i : Int) < (n : Int) := by omega
      obtain ⟨b, o, x, rfl, hx, h1, hc⟩ := HR.out.at5 i (by rw [HN.out]; exact hi1)
      obtain ⟨c0, c1, c2, c3, c4⟩ := hc wr HB.out.l
      have HST := Lib.hid (show fT s (l.drop i) = if nmEq (x.t.name) s = true then some x else fT s (l.drop (i + 1)) by
        rw [List.drop_eq_getElem_cons (by rw [HN.out]; exact hi1), (List.getElem?_eq_some_iff.1 hx).2]
        unfold fT
        rw [List.find?_cons]
        cases nmEq (x.t.name) s <;> rfl)
      obtain ⟨⟨xn, xa, xb, xl, xk⟩, An, cn, Ak, ck⟩ := x
      dsimp only at HST c0 c1 c2 c3 c4
      have HF := Lib.hid (fun u => nmt_ok xn xa xb An Ak xl.length cn xk.length ck u)
      clear hc hx
      cases hq : nmEq xn s with
      | false =>
        rw [hq] at HST
        have hq2 : (xn.toList == s.toList) = false := hq
        clear hq
        go_wp2_with (go_at_call 39; refine (HF.out _).mono ?_; rintro e u2 ⟨rfl, hb2⟩)
        go_roundw
        case rel => exact ⟨i + 1, by omega, by go_num, Lib.hid (by rw [HD.out, HST.out]; rfl), Lib.hid ((HB.out.alloc _).on hb2)⟩
        case measure => simp [intOf]; omega
      | true =>
        rw [hq] at HST
        have hq2 : (xn.toList == s.toList) = true := hq
        clear hq
        have HBA := Lib.hid (HB.out.alloc (.cells #[.string xn, .int .i64 xa, .int .i64 xb, .slice An xl.length cn, .slice Ak xk.length ck] 33))
        have HBN := Lib.hid (Bk.new wr 33 #[.string xn, .int .i64 xa, .int .i64 xb, .slice An xl.length cn, .slice Ak xk.length ck])
        go_wp2_with (go_at_call 39; refine (HF.out _).mono ?_; rintro e u2 ⟨rfl, hb2⟩; have HB2 := Lib.hid (HBA.out.on hb2); have k2 := HBN.out.below hb2 HBN.out.lt; have k2_0 : u2.cell? ⟨wr.heap.size, 0, none⟩ = some (.string xn) := k2.cell 0; have k2_1 : u2.cell? ⟨wr.heap.size, 1, none⟩ = some (.int .i64 xa) := k2.cell 1; have k2_2 : u2.cell? ⟨wr.heap.size, 2, none⟩ = some (.int .i64 xb) := k2.cell 2; have k2_3 : u2.cell? ⟨wr.heap.size, 3, none⟩ = some (.slice An xl.length cn) := k2.cell 3; have k2_4 : u2.cell? ⟨wr.heap.size, 4, none⟩ = some (.slice Ak xk.length ck) := k2.cell 4; have fy0 := HB2.out.b.frozen 0; have zz0 : u2.cell? ⟨w.heap.size, 0, none⟩ = some (.string ⟨#[]⟩) := HB2.out.cell 0; have fy1 := HB2.out.b.frozen 1; have zz1 : u2.cell? ⟨w.heap.size, 1, none⟩ = some (.int .i64 0) := HB2.out.cell 1; have fy2 := HB2.out.b.frozen 2; have zz2 : u2.cell? ⟨w.heap.size, 2, none⟩ = some (.int .i64 0) := HB2.out.cell 2; have fy3 := HB2.out.b.frozen 3; have zz3 : u2.cell? ⟨w.heap.size, 3, none⟩ = some (.slice none 0 0) := HB2.out.cell 3; have fy4 := HB2.out.b.frozen 4; have zz4 : u2.cell? ⟨w.heap.size, 4, none⟩ = some (.slice none 0 0) := HB2.out.cell 4; clear k2 hb2)
        have kU := (((((HB2.out.b.set 0 (.string xn)).set 1 (.int .i64 xa)).set 2 (.int .i64 xb)).set 3 (.slice An xl.length cn)).set 4 (.slice Ak xk.length ck))
        simp only [List.setIfInBounds_toArray, List.set_cons_zero, List.set_cons_succ] at kU
        have hlow := HB2.out.l
        refine bodyPost_ret (v := .tuple #[.agg #[.string xn, .int .i64 xa, .int .i64 xb, .slice An xl.length cn, .slice Ak xk.length ck], .bool true]) ?_ rfl ⟨?_, ?_⟩
        · have p0 := kU.cell 0; have p1 := kU.cell 1; have p2 := kU.cell 2; have p3 := kU.cell 3; have p4 := kU.cell 4
          simp [results, Tryz.f38, go_sem, p0, p1, p2, p3, p4]
        · rw [HD.out, HST.out]; rfl
        · exact (((((hlow.setCell (p := ⟨w.heap.size, 0, none⟩) (Nat.le_refl _) _).setCell (p := ⟨w.heap.size, 1, none⟩) (Nat.le_refl _) _).setCell (p := ⟨w.heap.size, 2, none⟩) (Nat.le_refl _) _).setCell (p := ⟨w.heap.size, 3, none⟩) (Nat.le_refl _) _).setCell (p := ⟨w.heap.size, 4, none⟩) (Nat.le_refl _) _)
    · have hi2 : ¬ (i : Int) < (n : Int) := by omega
      have hnone : R = none := by rw [HD.out, List.drop_eq_nil_of_le (by rw [HN.out]; omega)]; rfl
      subst hnone
      have HBA := Lib.hid (HB.out.alloc (.cells #[.string ⟨#[]⟩, .int .i64 0, .int .i64 0, .slice none 0 0, .slice none 0 0] 33))
      have g0 : (wr.alloc (.cells #[.string ⟨#[]⟩, .int .i64 0, .int .i64 0, .slice none 0 0, .slice none 0 0] 33)).cell? ⟨w.heap.size, 0, none⟩ = some (.string ⟨#[]⟩) := HBA.out.cell 0
      have gf0 := HBA.out.b.frozen 0
      have g1 : (wr.alloc (.cells #[.string ⟨#[]⟩, .int .i64 0, .int .i64 0, .slice none 0 0, .slice none 0 0] 33)).cell? ⟨w.heap.size, 1, none⟩ = some (.int .i64 0) := HBA.out.cell 1
      have gf1 := HBA.out.b.frozen 1
      have g2 : (wr.alloc (.cells #[.string ⟨#[]⟩, .int .i64 0, .int .i64 0, .slice none 0 0, .slice none 0 0] 33)).cell? ⟨w.heap.size, 2, none⟩ = some (.int .i64 0) := HBA.out.cell 2
      have gf2 := HBA.out.b.frozen 2
      have g3 : (wr.alloc (.cells #[.string ⟨#[]⟩, .int .i64 0, .int .i64 0, .slice none 0 0, .slice none 0 0] 33)).cell? ⟨w.heap.size, 3, none⟩ = some (.slice none 0 0) := HBA.out.cell 3
      have gf3 := HBA.out.b.frozen 3
      have g4 : (wr.alloc (.cells #[.string ⟨#[]⟩, .int .i64 0, .int .i64 0, .slice none 0 0, .slice none 0 0] 33)).cell? ⟨w.heap.size, 4, none⟩ = some (.slice none 0 0) := HBA.out.cell 4
      have gf4 := HBA.out.b.frozen 4
      go_wp2
      have kU := (((((HBA.out.b.set 0 (.string ⟨#[]⟩)).set 1 (.int .i64 0)).set 2 (.int .i64 0)).set 3 (.slice none 0 0)).set 4 (.slice none 0 0))
      simp only [List.setIfInBounds_toArray, List.set_cons_zero, List.set_cons_succ] at kU
      have hlow := HBA.out.l
      refine bodyPost_ret (v := .tuple #[.agg #[.string ⟨#[]⟩, .int .i64 0, .int .i64 0, .slice none 0 0, .slice none 0 0], .bool false]) ?_ rfl ⟨?_, ?_⟩
      · have p0 := kU.cell 0; have p1 := kU.cell 1; have p2 := kU.cell 2; have p3 := kU.cell 3; have p4 := kU.cell 4
        simp [results, Tryz.f38, go_sem, p0, p1, p2, p3, p4]
      · rfl
      · exact (((((hlow.setCell (p := ⟨w.heap.size, 0, none⟩) (Nat.le_refl _) _).setCell (p := ⟨w.heap.size, 1, none⟩) (Nat.le_refl _) _).setCell (p := ⟨w.heap.size, 2, none⟩) (Nat.le_refl _) _).setCell (p := ⟨w.heap.size, 3, none⟩) (Nat.le_refl _) _).setCell (p := ⟨w.heap.size, 4, none⟩) (Nat.le_refl _) _)

end Go.Proofs.YtekobdmlgbffnaaGreatDoor
