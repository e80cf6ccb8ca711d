/- Cg4, Cg5, Cg6: texts of this seat, one behind the other. -/
import Derived.Test.YtfpjkedcpnmfeaaDoorCg2
import Derived.Test.YtfpjkedcpnmfeaaDoorM4
import Derived.BigRegion
import Derived.Deep.Cut
import Derived.Deep.CutRange
/- config: find, slices.Clone, Find, Token: their contracts. (Written by gen_cg4.py.) -/
namespace Go.Proofs.YtfpjkedcpnmfeaaDoor
set_option linter.unusedVariables false
set_option linter.unusedSimpArgs false
open Go.RowKit

def nmEq (a b : ByteArray) : Bool := a.toList == b.toList
theorem nmEq_iff {a b : ByteArray} : nmEq a b = true ↔ a = b := by
  unfold nmEq
  rw [beq_iff_eq, ByteArray.toList_eq, ByteArray.toList_eq]
  constructor
  · intro h
    rw [← bs_of a, ← bs_of b, h]
  · intro h; rw [h]
def zeroTn : Tn := ⟨ByteArray.empty, 0, 0, [], []⟩
def zeroTv : Tv := ⟨zeroTn, none, 0, none, 0⟩
def zeroTk : Tk := ⟨ByteArray.empty, ByteArray.empty, 0⟩
def fT (s : ByteArray) (l : List Tv) : Option Tv := l.find? fun x => nmEq x.t.name s
def fK (s : ByteArray) (l : List Tk) : Option Tk := l.find? fun x => nmEq x.name s

theorem Bx.alloc {w u : World} {g : Nat} {t : TypeId} {cs : Array Value} (h : Bx w g t cs u) (o : Obj) : Bx w g t cs (u.alloc o) := ⟨h.b.alloc o, h.l.alloc h.l.size o⟩

set_option maxRecDepth 100000 in
set_option maxHeartbeats 4000000 in
theorem findK_ok (A : Option Addr) (l : List Tk) (n c : Nat) (s : ByteArray) (w : World) (h : RK w A l) (hn : l.length = n) (hf : n ≤ 9223372036854775807) :
    Calls Tryd.prog 31 #[.slice A n c, .func (.func 32) #[] #[], .string s] w fun e w' => e = .returned (.tuple #[.agg (kcs ((fK s l).getD zeroTk)), .bool (fK s l).isSome]) ∧ Below w.heap.size w w' := by
  have HR := Lib.hid h
  have HN := Lib.hid hn
  obtain ⟨R, hR⟩ : ∃ R, fK s l = R := ⟨_, rfl⟩
  rw [hR]
  have HA := Lib.hid hR
  clear h hn hR
  go_enter Tryd.func31, Tryd.ntmps31
  go_wp2
  go_loopw [13] (fun v13 wr => ∃ (i : Nat), i ≤ n ∧ v13 = .int .i64 (i : Int) ∧ Hid (R = fK s (l.drop i)) ∧ Hid (Bx w w.heap.size 44 #[.string ⟨#[]⟩, .string ⟨#[]⟩, .int .i64 0] wr)) (fun v13 _ => n - (intOf v13).toNat)
  case atStart => exact ⟨0, by omega, rfl, Lib.hid (by rw [List.drop_zero]; exact HA.out.symm), Lib.hid (Bx.new _ _ _)⟩
  case round =>
    obtain ⟨i, hi, rfl, HD, HB⟩ := hrel
    have z0 : wr.cell? ⟨w.heap.size, 0, none⟩ = some (.string ⟨#[]⟩) := HB.out.cell 0
    have z1 : wr.cell? ⟨w.heap.size, 1, none⟩ = some (.string ⟨#[]⟩) := HB.out.cell 1
    have z2 : wr.cell? ⟨w.heap.size, 2, none⟩ = some (.int .i64 0) := HB.out.cell 2
    have fz0 := HB.out.b.frozen 0
    have fz1 := HB.out.b.frozen 1
    have fz2 := HB.out.b.frozen 2
    by_cases hi1 : i < n
    · have hi2 : (i : Int) < (n : Int) := by omega
      obtain ⟨b, o, x, rfl, hx, hc⟩ := HR.out.at3 i (by rw [HN.out]; exact hi1)
      obtain ⟨c0, c1, c2⟩ := hc wr HB.out.l
      have HST := Lib.hid (show fK s (l.drop i) = if nmEq (x.name) s = true then some x else fK s (l.drop (i + 1)) by
        rw [List.drop_eq_getElem_cons (by rw [HN.out]; exact hi1), (List.getElem?_eq_some_iff.1 hx).2]
        unfold fK
        rw [List.find?_cons]
        cases nmEq (x.name) s <;> rfl)
      obtain ⟨xn, xs, xu⟩ := x
      dsimp only at HST c0 c1 c2
      have HF := Lib.hid (fun u => nmk_ok xn xs xu u)
      clear hc hx
      cases hq : nmEq xn s with
      | false =>
        rw [hq] at HST
        have hq2 : (xn.toList == s.toList) = false := hq
        clear hq
        go_wp2_with (go_at_call 32; refine (HF.out _).mono ?_; rintro e u2 ⟨rfl, hb2⟩)
        go_roundw
        case rel => exact ⟨i + 1, by omega, by go_num, Lib.hid (by rw [HD.out, HST.out]; rfl), Lib.hid ((HB.out.alloc _).on hb2)⟩
        case measure => simp [intOf]; omega
      | true =>
        rw [hq] at HST
        have hq2 : (xn.toList == s.toList) = true := hq
        clear hq
        have HBA := Lib.hid (HB.out.alloc (.cells #[.string xn, .string xs, .int .i64 xu] 44))
        have HBN := Lib.hid (Bk.new wr 44 #[.string xn, .string xs, .int .i64 xu])
        go_wp2_with (go_at_call 32; refine (HF.out _).mono ?_; rintro e u2 ⟨rfl, hb2⟩; have HB2 := Lib.hid (HBA.out.on hb2); have k2 := HBN.out.below hb2 HBN.out.lt; have k2_0 : u2.cell? ⟨wr.heap.size, 0, none⟩ = some (.string xn) := k2.cell 0; have k2_1 : u2.cell? ⟨wr.heap.size, 1, none⟩ = some (.string xs) := k2.cell 1; have k2_2 : u2.cell? ⟨wr.heap.size, 2, none⟩ = some (.int .i64 xu) := k2.cell 2; have fy0 := HB2.out.b.frozen 0; have zz0 : u2.cell? ⟨w.heap.size, 0, none⟩ = some (.string ⟨#[]⟩) := HB2.out.cell 0; have fy1 := HB2.out.b.frozen 1; have zz1 : u2.cell? ⟨w.heap.size, 1, none⟩ = some (.string ⟨#[]⟩) := HB2.out.cell 1; have fy2 := HB2.out.b.frozen 2; have zz2 : u2.cell? ⟨w.heap.size, 2, none⟩ = some (.int .i64 0) := HB2.out.cell 2; clear k2 hb2)
        have kU := (((HB2.out.b.set 0 (.string xn)).set 1 (.string xs)).set 2 (.int .i64 xu))
        simp only [List.setIfInBounds_toArray, List.set_cons_zero, List.set_cons_succ] at kU
        have hlow := HB2.out.l
        refine bodyPost_ret (v := .tuple #[.agg #[.string xn, .string xs, .int .i64 xu], .bool true]) ?_ rfl ⟨?_, ?_⟩
        · have p0 := kU.cell 0; have p1 := kU.cell 1; have p2 := kU.cell 2
          simp [results, Tryd.f31, go_sem, p0, p1, p2]
        · rw [HD.out, HST.out]; rfl
        · exact (((hlow.setCell (p := ⟨w.heap.size, 0, none⟩) (Nat.le_refl _) _).setCell (p := ⟨w.heap.size, 1, none⟩) (Nat.le_refl _) _).setCell (p := ⟨w.heap.size, 2, none⟩) (Nat.le_refl _) _)
    · have hi2 : ¬ (i : Int) < (n : Int) := by omega
      have hnone : R = none := by rw [HD.out, List.drop_eq_nil_of_le (by rw [HN.out]; omega)]; rfl
      subst hnone
      have HBA := Lib.hid (HB.out.alloc (.cells #[.string ⟨#[]⟩, .string ⟨#[]⟩, .int .i64 0] 44))
      have g0 : (wr.alloc (.cells #[.string ⟨#[]⟩, .string ⟨#[]⟩, .int .i64 0] 44)).cell? ⟨w.heap.size, 0, none⟩ = some (.string ⟨#[]⟩) := HBA.out.cell 0
      have gf0 := HBA.out.b.frozen 0
      have g1 : (wr.alloc (.cells #[.string ⟨#[]⟩, .string ⟨#[]⟩, .int .i64 0] 44)).cell? ⟨w.heap.size, 1, none⟩ = some (.string ⟨#[]⟩) := HBA.out.cell 1
      have gf1 := HBA.out.b.frozen 1
      have g2 : (wr.alloc (.cells #[.string ⟨#[]⟩, .string ⟨#[]⟩, .int .i64 0] 44)).cell? ⟨w.heap.size, 2, none⟩ = some (.int .i64 0) := HBA.out.cell 2
      have gf2 := HBA.out.b.frozen 2
      go_wp2
      have kU := (((HBA.out.b.set 0 (.string ⟨#[]⟩)).set 1 (.string ⟨#[]⟩)).set 2 (.int .i64 0))
      simp only [List.setIfInBounds_toArray, List.set_cons_zero, List.set_cons_succ] at kU
      have hlow := HBA.out.l
      refine bodyPost_ret (v := .tuple #[.agg #[.string ⟨#[]⟩, .string ⟨#[]⟩, .int .i64 0], .bool false]) ?_ rfl ⟨?_, ?_⟩
      · have p0 := kU.cell 0; have p1 := kU.cell 1; have p2 := kU.cell 2
        simp [results, Tryd.f31, go_sem, p0, p1, p2]
      · rfl
      · exact (((hlow.setCell (p := ⟨w.heap.size, 0, none⟩) (Nat.le_refl _) _).setCell (p := ⟨w.heap.size, 1, none⟩) (Nat.le_refl _) _).setCell (p := ⟨w.heap.size, 2, none⟩) (Nat.le_refl _) _)

set_option maxRecDepth 100000 in
set_option maxHeartbeats 4000000 in
theorem findT_ok (A : Option Addr) (l : List Tv) (n c : Nat) (s : ByteArray) (w : World) (h : RT w A l) (hn : l.length = n) (hf : n ≤ 9223372036854775807) :
    Calls Tryd.prog 28 #[.slice A n c, .func (.func 22) #[] #[], .string s] w fun e w' => e = .returned (.tuple #[.agg (tcs ((fT s l).getD zeroTv)), .bool (fT s l).isSome]) ∧ Below w.heap.size w w' := by
  have HR := Lib.hid h
  have HN := Lib.hid hn
  obtain ⟨R, hR⟩ : ∃ R, fT s l = R := ⟨_, rfl⟩
  rw [hR]
  have HA := Lib.hid hR
  clear h hn hR
  go_enter Tryd.func28, Tryd.ntmps28
  go_wp2
  go_loopw [13] (fun v13 wr => ∃ (i : Nat), i ≤ n ∧ v13 = .int .i64 (i : Int) ∧ Hid (R = fT s (l.drop i)) ∧ Hid (Bx w w.heap.size 38 #[.string ⟨#[]⟩, .int .i64 0, .int .i64 0, .slice none 0 0, .slice none 0 0] wr)) (fun v13 _ => n - (intOf v13).toNat)
  case atStart => exact ⟨0, by omega, rfl, Lib.hid (by rw [List.drop_zero]; exact HA.out.symm), Lib.hid (Bx.new _ _ _)⟩
  case round =>
    obtain ⟨i, hi, rfl, HD, HB⟩ := hrel
    have z0 : wr.cell? ⟨w.heap.size, 0, none⟩ = some (.string ⟨#[]⟩) := HB.out.cell 0
    have z1 : wr.cell? ⟨w.heap.size, 1, none⟩ = some (.int .i64 0) := HB.out.cell 1
    have z2 : wr.cell? ⟨w.heap.size, 2, none⟩ = some (.int .i64 0) := HB.out.cell 2
    have z3 : wr.cell? ⟨w.heap.size, 3, none⟩ = some (.slice none 0 0) := HB.out.cell 3
    have z4 : wr.cell? ⟨w.heap.size, 4, none⟩ = some (.slice none 0 0) := HB.out.cell 4
    have fz0 := HB.out.b.frozen 0
    have fz1 := HB.out.b.frozen 1
    have fz2 := HB.out.b.frozen 2
    have fz3 := HB.out.b.frozen 3
    have fz4 := HB.out.b.frozen 4
    by_cases hi1 : i < n
    · have hi2 : (i : Int) < (n : Int) := by omega
      obtain ⟨b, o, x, rfl, hx, h1, hc⟩ := HR.out.at5 i (by rw [HN.out]; exact hi1)
      obtain ⟨c0, c1, c2, c3, c4⟩ := hc wr HB.out.l
      have HST := Lib.hid (show fT s (l.drop i) = if nmEq (x.t.name) s = true then some x else fT s (l.drop (i + 1)) by
        rw [List.drop_eq_getElem_cons (by rw [HN.out]; exact hi1), (List.getElem?_eq_some_iff.1 hx).2]
        unfold fT
        rw [List.find?_cons]
        cases nmEq (x.t.name) s <;> rfl)
      obtain ⟨⟨xn, xa, xb, xl, xk⟩, An, cn, Ak, ck⟩ := x
      dsimp only at HST c0 c1 c2 c3 c4
      have HF := Lib.hid (fun u => nmt_ok xn xa xb An Ak xl.length cn xk.length ck u)
      clear hc hx
      cases hq : nmEq xn s with
      | false =>
        rw [hq] at HST
        have hq2 : (xn.toList == s.toList) = false := hq
        clear hq
        go_wp2_with (go_at_call 22; refine (HF.out _).mono ?_; rintro e u2 ⟨rfl, hb2⟩)
        go_roundw
        case rel => exact ⟨i + 1, by omega, by go_num, Lib.hid (by rw [HD.out, HST.out]; rfl), Lib.hid ((HB.out.alloc _).on hb2)⟩
        case measure => simp [intOf]; omega
      | true =>
        rw [hq] at HST
        have hq2 : (xn.toList == s.toList) = true := hq
        clear hq
        have HBA := Lib.hid (HB.out.alloc (.cells #[.string xn, .int .i64 xa, .int .i64 xb, .slice An xl.length cn, .slice Ak xk.length ck] 38))
        have HBN := Lib.hid (Bk.new wr 38 #[.string xn, .int .i64 xa, .int .i64 xb, .slice An xl.length cn, .slice Ak xk.length ck])
        go_wp2_with (go_at_call 22; refine (HF.out _).mono ?_; rintro e u2 ⟨rfl, hb2⟩; have HB2 := Lib.hid (HBA.out.on hb2); have k2 := HBN.out.below hb2 HBN.out.lt; have k2_0 : u2.cell? ⟨wr.heap.size, 0, none⟩ = some (.string xn) := k2.cell 0; have k2_1 : u2.cell? ⟨wr.heap.size, 1, none⟩ = some (.int .i64 xa) := k2.cell 1; have k2_2 : u2.cell? ⟨wr.heap.size, 2, none⟩ = some (.int .i64 xb) := k2.cell 2; have k2_3 : u2.cell? ⟨wr.heap.size, 3, none⟩ = some (.slice An xl.length cn) := k2.cell 3; have k2_4 : u2.cell? ⟨wr.heap.size, 4, none⟩ = some (.slice Ak xk.length ck) := k2.cell 4; have fy0 := HB2.out.b.frozen 0; have zz0 : u2.cell? ⟨w.heap.size, 0, none⟩ = some (.string ⟨#[]⟩) := HB2.out.cell 0; have fy1 := HB2.out.b.frozen 1; have zz1 : u2.cell? ⟨w.heap.size, 1, none⟩ = some (.int .i64 0) := HB2.out.cell 1; have fy2 := HB2.out.b.frozen 2; have zz2 : u2.cell? ⟨w.heap.size, 2, none⟩ = some (.int .i64 0) := HB2.out.cell 2; have fy3 := HB2.out.b.frozen 3; have zz3 : u2.cell? ⟨w.heap.size, 3, none⟩ = some (.slice none 0 0) := HB2.out.cell 3; have fy4 := HB2.out.b.frozen 4; have zz4 : u2.cell? ⟨w.heap.size, 4, none⟩ = some (.slice none 0 0) := HB2.out.cell 4; clear k2 hb2)
        have kU := (((((HB2.out.b.set 0 (.string xn)).set 1 (.int .i64 xa)).set 2 (.int .i64 xb)).set 3 (.slice An xl.length cn)).set 4 (.slice Ak xk.length ck))
        simp only [List.setIfInBounds_toArray, List.set_cons_zero, List.set_cons_succ] at kU
        have hlow := HB2.out.l
        refine bodyPost_ret (v := .tuple #[.agg #[.string xn, .int .i64 xa, .int .i64 xb, .slice An xl.length cn, .slice Ak xk.length ck], .bool true]) ?_ rfl ⟨?_, ?_⟩
        · have p0 := kU.cell 0; have p1 := kU.cell 1; have p2 := kU.cell 2; have p3 := kU.cell 3; have p4 := kU.cell 4
          simp [results, Tryd.f28, go_sem, p0, p1, p2, p3, p4]
        · rw [HD.out, HST.out]; rfl
        · exact (((((hlow.setCell (p := ⟨w.heap.size, 0, none⟩) (Nat.le_refl _) _).setCell (p := ⟨w.heap.size, 1, none⟩) (Nat.le_refl _) _).setCell (p := ⟨w.heap.size, 2, none⟩) (Nat.le_refl _) _).setCell (p := ⟨w.heap.size, 3, none⟩) (Nat.le_refl _) _).setCell (p := ⟨w.heap.size, 4, none⟩) (Nat.le_refl _) _)
    · have hi2 : ¬ (i : Int) < (n : Int) := by omega
      have hnone : R = none := by rw [HD.out, List.drop_eq_nil_of_le (by rw [HN.out]; omega)]; rfl
      subst hnone
      have HBA := Lib.hid (HB.out.alloc (.cells #[.string ⟨#[]⟩, .int .i64 0, .int .i64 0, .slice none 0 0, .slice none 0 0] 38))
      have g0 : (wr.alloc (.cells #[.string ⟨#[]⟩, .int .i64 0, .int .i64 0, .slice none 0 0, .slice none 0 0] 38)).cell? ⟨w.heap.size, 0, none⟩ = some (.string ⟨#[]⟩) := HBA.out.cell 0
      have gf0 := HBA.out.b.frozen 0
      have g1 : (wr.alloc (.cells #[.string ⟨#[]⟩, .int .i64 0, .int .i64 0, .slice none 0 0, .slice none 0 0] 38)).cell? ⟨w.heap.size, 1, none⟩ = some (.int .i64 0) := HBA.out.cell 1
      have gf1 := HBA.out.b.frozen 1
      have g2 : (wr.alloc (.cells #[.string ⟨#[]⟩, .int .i64 0, .int .i64 0, .slice none 0 0, .slice none 0 0] 38)).cell? ⟨w.heap.size, 2, none⟩ = some (.int .i64 0) := HBA.out.cell 2
      have gf2 := HBA.out.b.frozen 2
      have g3 : (wr.alloc (.cells #[.string ⟨#[]⟩, .int .i64 0, .int .i64 0, .slice none 0 0, .slice none 0 0] 38)).cell? ⟨w.heap.size, 3, none⟩ = some (.slice none 0 0) := HBA.out.cell 3
      have gf3 := HBA.out.b.frozen 3
      have g4 : (wr.alloc (.cells #[.string ⟨#[]⟩, .int .i64 0, .int .i64 0, .slice none 0 0, .slice none 0 0] 38)).cell? ⟨w.heap.size, 4, none⟩ = some (.slice none 0 0) := HBA.out.cell 4
      have gf4 := HBA.out.b.frozen 4
      go_wp2
      have kU := (((((HBA.out.b.set 0 (.string ⟨#[]⟩)).set 1 (.int .i64 0)).set 2 (.int .i64 0)).set 3 (.slice none 0 0)).set 4 (.slice none 0 0))
      simp only [List.setIfInBounds_toArray, List.set_cons_zero, List.set_cons_succ] at kU
      have hlow := HBA.out.l
      refine bodyPost_ret (v := .tuple #[.agg #[.string ⟨#[]⟩, .int .i64 0, .int .i64 0, .slice none 0 0, .slice none 0 0], .bool false]) ?_ rfl ⟨?_, ?_⟩
      · have p0 := kU.cell 0; have p1 := kU.cell 1; have p2 := kU.cell 2; have p3 := kU.cell 3; have p4 := kU.cell 4
        simp [results, Tryd.f28, go_sem, p0, p1, p2, p3, p4]
      · rfl
      · exact (((((hlow.setCell (p := ⟨w.heap.size, 0, none⟩) (Nat.le_refl _) _).setCell (p := ⟨w.heap.size, 1, none⟩) (Nat.le_refl _) _).setCell (p := ⟨w.heap.size, 2, none⟩) (Nat.le_refl _) _).setCell (p := ⟨w.heap.size, 3, none⟩) (Nat.le_refl _) _).setCell (p := ⟨w.heap.size, 4, none⟩) (Nat.le_refl _) _)

end Go.Proofs.YtfpjkedcpnmfeaaDoor

/- config: slices.Clone, Find, Token: their contracts. (Written by gen_cg5.py.) -/
namespace Go.Proofs.YtfpjkedcpnmfeaaDoor
set_option linter.unusedVariables false
set_option linter.unusedSimpArgs false
open Go.RowKit

set_option maxRecDepth 100000 in
set_option maxHeartbeats 2000000 in
theorem cloneN_ok (A : Option Addr) (l : List Nt) (n c : Nat) (w : World) (h : RN w A l) (hf : Fit A n c) (hn : l.length = n) (hlen : n ≤ 1099511627776) :
    Calls Tryd.prog 29 #[.slice A n c] w fun e w' => ∃ A2 c2, e = .returned (.slice A2 n c2) ∧ ON w' w.heap.size A2 c2 l ∧ Below w.heap.size w w' := by
  have HR := Lib.hid h
  have HF := Lib.hid hf
  have HN := Lib.hid hn
  cases A with
  | none =>
    obtain ⟨rfl, rfl⟩ := hf.nil_ rfl
    clear h hf hn
    have he := Lib.run_eql_slice_nil (P := Tryd.prog) w 35 53 none 0 0 0 0 Tryd.underlying35
    simp only [Option.isNone_none] at he
    go_enter Tryd.func29, Tryd.ntmps29
    go_wp2
    go_ret
    obtain rfl : l = [] := List.eq_nil_of_length_eq_zero HN.out
    exact ⟨none, 0, rfl, Ow.nil _ _, Below.refl _ _⟩
  | some ad =>
    have HOW := Lib.hid (Ow.empty (e := 53) (k := 2) (f := ncs) w w.heap.size (Nat.le_refl _))
    have HR2 := Lib.hid (Rw.on h ((Below.refl w.heap.size w).alloc (Nat.le_refl _) (.cells #[] 53)))
    clear h hf hn
    have he := Lib.run_eql_slice_nil (P := Tryd.prog) w 35 53 (some ad) n c 0 0 Tryd.underlying35
    simp only [Option.isNone_some] at he
    go_enter Tryd.func29, Tryd.ntmps29
    go_wp2_with (at_builtin; refine wp_rows0 roN rfl (.tmp 5) (.tmp 6) rfl 0 rfl rfl HOW.out l _ n c rfl HN.out (fun h => by cases h) HR2.out (by omega) (by rw [World.size_alloc]; omega) n (by omega) ?_; intro A2 c2 w2 ho hg hb)
    go_ret
    exact ⟨A2, c2, rfl, ho, ((Below.refl w.heap.size w).alloc (Nat.le_refl _) _).trans hb⟩

set_option maxRecDepth 100000 in
set_option maxHeartbeats 2000000 in
theorem cloneK_ok (A : Option Addr) (l : List Tk) (n c : Nat) (w : World) (h : RK w A l) (hf : Fit A n c) (hn : l.length = n) (hlen : n ≤ 1099511627776) :
    Calls Tryd.prog 30 #[.slice A n c] w fun e w' => ∃ A2 c2, e = .returned (.slice A2 n c2) ∧ OK w' w.heap.size A2 c2 l ∧ Below w.heap.size w w' := by
  have HR := Lib.hid h
  have HF := Lib.hid hf
  have HN := Lib.hid hn
  cases A with
  | none =>
    obtain ⟨rfl, rfl⟩ := hf.nil_ rfl
    clear h hf hn
    have he := Lib.run_eql_slice_nil (P := Tryd.prog) w 36 44 none 0 0 0 0 Tryd.underlying36
    simp only [Option.isNone_none] at he
    go_enter Tryd.func30, Tryd.ntmps30
    go_wp2
    go_ret
    obtain rfl : l = [] := List.eq_nil_of_length_eq_zero HN.out
    exact ⟨none, 0, rfl, Ow.nil _ _, Below.refl _ _⟩
  | some ad =>
    have HOW := Lib.hid (Ow.empty (e := 44) (k := 3) (f := kcs) w w.heap.size (Nat.le_refl _))
    have HR2 := Lib.hid (Rw.on h ((Below.refl w.heap.size w).alloc (Nat.le_refl _) (.cells #[] 44)))
    clear h hf hn
    have he := Lib.run_eql_slice_nil (P := Tryd.prog) w 36 44 (some ad) n c 0 0 Tryd.underlying36
    simp only [Option.isNone_some] at he
    go_enter Tryd.func30, Tryd.ntmps30
    go_wp2_with (at_builtin; refine wp_rows0 roK rfl (.tmp 5) (.tmp 6) rfl 0 rfl rfl HOW.out l _ n c rfl HN.out (fun h => by cases h) HR2.out (by omega) (by rw [World.size_alloc]; omega) n (by omega) ?_; intro A2 c2 w2 ho hg hb)
    go_ret
    exact ⟨A2, c2, rfl, ho, ((Below.refl w.heap.size w).alloc (Nat.le_refl _) _).trans hb⟩

set_option maxRecDepth 100000 in
set_option maxHeartbeats 2000000 in
theorem token_ok (x : Tv) (s : ByteArray) (w : World) (h : RT1 w x) :
    Calls Tryd.prog 16 #[.agg (tcs x), .string s] w fun e w' => e = .returned (.tuple #[.agg (kcs ((fK s x.t.toks).getD zeroTk)), .bool (fK s x.t.toks).isSome]) ∧ Below w.heap.size w w' := by
  obtain ⟨⟨nm, a, b, nl, kl⟩, An, cn, Ak, ck⟩ := x
  show Calls Tryd.prog 16 #[.agg #[.string nm, .int .i64 a, .int .i64 b, .slice An nl.length cn, .slice Ak kl.length ck], .string s] w _
  have g1 := h.fk.cap
  have g2 := h.fk.max
  dsimp only at g1 g2
  obtain ⟨n, hn⟩ : ∃ n, nl.length = n := ⟨_, rfl⟩
  obtain ⟨m, hm⟩ : ∃ m, kl.length = m := ⟨_, rfl⟩
  obtain ⟨R, hR⟩ : ∃ R, fK s kl = R := ⟨_, rfl⟩
  have HF := Lib.hid (fun u (hu : Below w.heap.size w u) => findK_ok Ak kl m ck s u (h.k.on hu) hm (by omega))
  rw [hR] at HF ⊢
  have HB0 := Lib.hid ((Bx.new w 38 #[.string nm, .int .i64 a, .int .i64 b, .slice An n cn, .slice Ak m ck]).alloc (.cells #[.string ⟨#[]⟩, .string ⟨#[]⟩, .int .i64 0] 44))
  have HB1 := Lib.hid (Bk.new (w.alloc (.cells #[.string nm, .int .i64 a, .int .i64 b, .slice An n cn, .slice Ak m ck] 38)) 44 #[.string ⟨#[]⟩, .string ⟨#[]⟩, .int .i64 0])
  rw [World.size_alloc] at HB1
  rw [hn, hm]
  clear h hn hm hR g1
  obtain ⟨⟨xn, xs, xu⟩, hx⟩ : ∃ y, R.getD zeroTk = y := ⟨_, rfl⟩
  rw [hx] at HF ⊢
  clear hx
  obtain ⟨is, his⟩ : ∃ is, R.isSome = is := ⟨_, rfl⟩
  rw [his] at HF ⊢
  clear his
  have h40 : (w.alloc (.cells #[.string nm, .int .i64 a, .int .i64 b, .slice An n cn, .slice Ak m ck] 38)).alloc (.cells #[.string ⟨#[]⟩, .string ⟨#[]⟩, .int .i64 0] 44) = (w.alloc (.cells #[.string nm, .int .i64 a, .int .i64 b, .slice An n cn, .slice Ak m ck] 38)).alloc (.cells #[.string ⟨#[]⟩, .string ⟨#[]⟩, .int .i64 0] 44) := rfl
  clear h40
  go_enter Tryd.func16, Tryd.ntmps16
  go_wp2_with (go_at_call 31; refine (HF.out _ HB0.out.l).mono ?_; rintro e u2 ⟨rfl, hb⟩; have HB2 := Lib.hid (HB1.out.below hb HB1.out.lt); have HL2 := Lib.hid (HB0.out.l.trans (hb.mono HB0.out.l.size)); clear hb; have p0 := HB2.out.cell 0; have p1 := HB2.out.cell 1; have p2 := HB2.out.cell 2; have q0 := HB2.out.frozen 0; have q1 := HB2.out.frozen 1; have q2 := HB2.out.frozen 2; simp only [List.getElem?_toArray, List.getElem?_cons_zero, List.getElem?_cons_succ] at p0 p1 p2)
  have kU := (((HB2.out.set 0 (.string xn)).set 1 (.string xs)).set 2 (.int .i64 xu))
  simp only [List.setIfInBounds_toArray, List.set_cons_zero, List.set_cons_succ] at kU
  refine bodyPost_ret (v := .tuple #[.agg #[.string xn, .string xs, .int .i64 xu], .bool is]) ?_ rfl ⟨rfl, ?_⟩
  · have p0 := kU.cell 0; have p1 := kU.cell 1; have p2 := kU.cell 2
    simp [results, Tryd.f16, go_sem, p0, p1, p2]
  · have hl := HL2.out
    exact ((hl.setCell (p := ⟨w.heap.size + 1, 0, none⟩) (by show w.heap.size ≤ w.heap.size + 1; omega) _).setCell (p := ⟨w.heap.size + 1, 1, none⟩) (by show w.heap.size ≤ w.heap.size + 1; omega) _).setCell (p := ⟨w.heap.size + 1, 2, none⟩) (by show w.heap.size ≤ w.heap.size + 1; omega) _

end Go.Proofs.YtfpjkedcpnmfeaaDoor

/- config.Find: its contract. -/
namespace Go.Proofs.YtfpjkedcpnmfeaaDoor
set_option linter.unusedVariables false
set_option linter.unusedSimpArgs false
open Go.RowKit

theorem RT1.zero (w : World) : RT1 w zeroTv := ⟨.inl rfl, .inl rfl, ⟨Nat.le_refl _, by simp [zeroTv], fun _ => ⟨rfl, rfl⟩⟩, ⟨Nat.le_refl _, by simp [zeroTv], fun _ => ⟨rfl, rfl⟩⟩, (fun n hn => by cases hn), by decide, fun k hk => by cases hk⟩
theorem fT_mem {s : ByteArray} {l : List Tv} {x : Tv} (h : fT s l = some x) : x ∈ l ∧ nmEq x.t.name s = true := ⟨List.mem_of_find?_eq_some h, by have := List.find?_some h; exact this⟩
/-- What Find's own region keeps. -/
structure FdSt (w : World) (g : Nat) (nm : ByteArray) (a b : Int) (A3 A4 : Value) (u : World) : Prop where
  b : Bk u g 38 #[.string nm, .int .i64 a, .int .i64 b, A3, A4]
  r : Bk u (w.heap.size + 1) 38 #[.string ⟨#[]⟩, .int .i64 0, .int .i64 0, .slice none 0 0, .slice none 0 0]
  l : Below w.heap.size w u
  lt : w.heap.size + 2 ≤ g
theorem FdSt.on {w u u' : World} {g : Nat} {nm : ByteArray} {a b : Int} {A3 A4 : Value} (h : FdSt w g nm a b A3 A4 u) (hb : Below u.heap.size u u') : FdSt w g nm a b A3 A4 u' := ⟨h.b.below hb h.b.lt, h.r.below hb h.r.lt, h.l.trans (hb.mono h.l.size), h.lt⟩

theorem Ow.base {β : Type} {e : TypeId} {k : Nat} {f : β → Array Value} {w : World} {B B' : Nat} {A : Option Addr} {c : Nat} {l : List β} (h : Ow e k f w B A c l) (hB : B' ≤ B) : Ow e k f w B' A c l :=
  ⟨h.1, h.2.imp id fun ⟨g, cap, cur, hv, hg, r⟩ => ⟨g, cap, cur, hv, Nat.le_trans hB hg, r⟩⟩
set_option maxRecDepth 100000 in
set_option maxHeartbeats 8000000 in
theorem find_cfg2 (x : Cv) (s : ByteArray) (w : World) (h : RC w x) (hfew : ∀ y ∈ x.ts, y.t.nets.length ≤ 1099511627776 ∧ y.t.toks.length ≤ 1099511627776) :
    Calls Tryd.prog 14 #[.agg (ccs x), .string s] w fun e w' => ∃ y : Tv, e = .returned (.tuple #[.agg (tcs y), .bool (fT s x.ts).isSome]) ∧ y.t = ((fT s x.ts).getD zeroTv).t ∧ (RT1 w' y ∧ ON w' w.heap.size y.An y.cn y.t.nets ∧ OK w' w.heap.size y.Ak y.ck y.t.toks) ∧ Below w.heap.size w w' := by
  obtain ⟨a0, a1, a2, a3, ts, A, c⟩ := x
  show Calls Tryd.prog 14 #[.agg #[.int .i64 a0, .int .i64 a1, .int .i64 a2, .int .i64 a3, .slice A ts.length c], .string s] w _
  dsimp only at hfew ⊢
  obtain ⟨k, hk⟩ : ∃ k, ts.length = k := ⟨_, rfl⟩
  have g1 := h.f.cap
  have g2 := h.f.max
  dsimp only at g1 g2
  have HF := Lib.hid (fun u (hu : Below w.heap.size w u) => findT_ok A ts k c s u (h.r.on hu) hk (by omega))
  obtain ⟨z, hz⟩ : ∃ z, (fT s ts).getD zeroTv = z := ⟨_, rfl⟩
  have hz1 : RT1 w z ∧ z.t.nets.length ≤ 1099511627776 ∧ z.t.toks.length ≤ 1099511627776 := by
    cases hq : fT s ts with
    | none => rw [hq] at hz; subst hz; exact ⟨RT1.zero w, by simp [zeroTv, zeroTn], by simp [zeroTv, zeroTn]⟩
    | some y => rw [hq] at hz; subst hz; exact ⟨h.r.each y (fT_mem hq).1, hfew y (fT_mem hq).1⟩
  rw [hz] at HF ⊢
  obtain ⟨is, his⟩ : ∃ is, (fT s ts).isSome = is := ⟨_, rfl⟩
  rw [his] at HF ⊢
  rw [hk]
  clear his hz hfew h hk
  obtain ⟨⟨nm, a, b, nl, kl⟩, An, cn, Ak, ck⟩ := z
  obtain ⟨hr, l1, l2⟩ := hz1
  dsimp only at l1 l2
  obtain ⟨n, hn⟩ : ∃ n, nl.length = n := ⟨_, rfl⟩
  obtain ⟨m, hm⟩ : ∃ m, kl.length = m := ⟨_, rfl⟩
  have HR := Lib.hid hr
  have HNM := Lib.hid (And.intro hn hm)
  have HCN := Lib.hid (fun u (hu : Below w.heap.size w u) => cloneN_ok An nl n cn u (hr.n.on hu) (hn ▸ hr.fn) hn (by omega))
  have HCK := Lib.hid (fun u (hu : Below w.heap.size w u) => cloneK_ok Ak kl m ck u (hr.k.on hu) (hm ▸ hr.fk) hm (by omega))
  have HF2 := Lib.hid (show ∀ u (hu : Below w.heap.size w u), Calls Tryd.prog 28 #[.slice A k c, .func (.func 22) #[] #[], .string s] u fun e w' => e = .returned (.tuple #[.agg #[.string nm, .int .i64 a, .int .i64 b, .slice An n cn, .slice Ak m ck], .bool is]) ∧ Below u.heap.size u w' from fun u hu => by
    have := HF.out u hu
    simp only [tcs, hn, hm] at this
    exact this)
  have HB0 := Lib.hid ((Bx.new w 24 #[.int .i64 a0, .int .i64 a1, .int .i64 a2, .int .i64 a3, .slice A k c]).alloc (.cells #[.string ⟨#[]⟩, .int .i64 0, .int .i64 0, .slice none 0 0, .slice none 0 0] 38))
  have HB1 := Lib.hid (Bk.new (w.alloc (.cells #[.int .i64 a0, .int .i64 a1, .int .i64 a2, .int .i64 a3, .slice A k c] 24)) 38 #[.string ⟨#[]⟩, .int .i64 0, .int .i64 0, .slice none 0 0, .slice none 0 0])
  rw [World.size_alloc] at HB1
  clear HF hr hn hm l1 l2 g1
  go_enter Tryd.func14, Tryd.ntmps14
  go_upto_region 2 with (go_at_call 28; refine (HF2.out _ HB0.out.l).mono ?_; rintro e u2 ⟨rfl, hb⟩; have HS := Lib.hid (show FdSt w u2.heap.size nm a b (.slice An n cn) (.slice Ak m ck) (u2.alloc (.cells #[.string nm, .int .i64 a, .int .i64 b, .slice An n cn, .slice Ak m ck] 38)) from ⟨Bk.new _ _ _, (HB1.out.below hb HB1.out.lt).alloc _, (HB0.out.l.trans (hb.mono HB0.out.l.size)).alloc (Nat.le_trans HB0.out.l.size (by first | exact hb.size | (have := hb.size; omega))) _, by have := hb.size; rw [World.size_alloc, World.size_alloc] at this; omega⟩); clear hb)
  obtain ⟨W2, hW2⟩ : ∃ W2, u2.alloc (.cells #[.string nm, .int .i64 a, .int .i64 b, .slice An n cn, .slice Ak m ck] 38) = W2 := ⟨_, rfl⟩
  obtain ⟨g, hg⟩ : ∃ g, u2.heap.size = g := ⟨_, rfl⟩
  rw [hW2, hg] at HS
  try rw [hW2]
  try rw [hg]
  clear hW2 hg HB0 HB1
  have e3 : W2.cell? ⟨g, 3, none⟩ = some (.slice An n cn) := HS.out.b.cell 3
  have e4 : W2.cell? ⟨g, 4, none⟩ = some (.slice Ak m ck) := HS.out.b.cell 4
  have HSD := Lib.hid (show FdSt w g nm a b (.slice An n cn) (.slice Ak m ck) W2.drew from ⟨HS.out.b.drew, HS.out.r.drew, HS.out.l.drew, HS.out.lt⟩)
  go_region_with (first
    | (go_at_call 29; refine (HCN.out _ HSD.out.l).mono ?_; rintro e v1 ⟨A5, c5, rfl, hr5, hb5⟩; have H1 := Lib.hid (And.intro (HSD.out.on hb5) (And.intro (show g < W2.drew.heap.size from HSD.out.b.lt) hr5)); have k4 : v1.cell? ⟨g, 4, none⟩ = some (.slice Ak m ck) := H1.out.1.b.cell 4; clear hr5 hb5)
    | (go_at_call 30; refine (HCK.out _ H1.out.1.l).mono ?_; rintro e v2 ⟨A6, c6, rfl, hr6, hb6⟩; have H2 := Lib.hid (And.intro (H1.out.1.on hb6) (And.intro (Ow.on H1.out.2.2 hb6) (And.intro (show g < v1.heap.size from H1.out.1.b.lt) hr6))); have k3 : v2.cell? ⟨g, 3, none⟩ = some (.slice An n cn) := H2.out.1.b.cell 3; have k5 : v2.cell? ⟨g, 4, none⟩ = some (.slice Ak m ck) := H2.out.1.b.cell 4; have f3 := H2.out.1.b.frozen 3; have f4 := H2.out.1.b.frozen 4; clear hr6 hb6))
  all_goals
    have hgl := H1.out.2.1
    have hgl2 := H2.out.2.2.1
    have hlt := H2.out.1.lt
    have hU : ∃ U, (v2.setCell ⟨g, 3, none⟩ (.slice A5 n c5)).setCell ⟨g, 4, none⟩ (.slice A6 m c6) = U := ⟨_, rfl⟩
    obtain ⟨U, hU⟩ := hU
    have HFS := Lib.hid (show FdSt w g nm a b (.slice A5 n c5) (.slice A6 m c6) U ∧ ON U W2.drew.heap.size A5 c5 nl ∧ OK U v1.heap.size A6 c6 kl from by
      rw [← hU]
      have kU := ((H2.out.1.b.set 3 (.slice A5 n c5)).set 4 (.slice A6 m c6))
      simp only [List.setIfInBounds_toArray, List.set_cons_zero, List.set_cons_succ] at kU
      exact ⟨⟨kU, (H2.out.1.r.far (p := ⟨g, 3, none⟩) (by show w.heap.size + 1 ≠ g; omega) _).far (p := ⟨g, 4, none⟩) (by show w.heap.size + 1 ≠ g; omega) _, (H2.out.1.l.setCell (p := ⟨g, 3, none⟩) (by show w.heap.size ≤ g; omega) _).setCell (p := ⟨g, 4, none⟩) (by show w.heap.size ≤ g; omega) _, hlt⟩, (H2.out.2.1.set (p := ⟨g, 3, none⟩) hgl _).set (p := ⟨g, 4, none⟩) hgl _, (H2.out.2.2.2.set (p := ⟨g, 3, none⟩) hgl2 _).set (p := ⟨g, 4, none⟩) hgl2 _⟩)
    rw [hU]
    have p0 : U.cell? ⟨g, 0, none⟩ = some (.string nm) := HFS.out.1.b.cell 0
    have p1 : U.cell? ⟨g, 1, none⟩ = some (.int .i64 a) := HFS.out.1.b.cell 1
    have p2 : U.cell? ⟨g, 2, none⟩ = some (.int .i64 b) := HFS.out.1.b.cell 2
    have p3 : U.cell? ⟨g, 3, none⟩ = some (.slice A5 n c5) := HFS.out.1.b.cell 3
    have p4 : U.cell? ⟨g, 4, none⟩ = some (.slice A6 m c6) := HFS.out.1.b.cell 4
    have z0 : U.cell? ⟨w.heap.size + 1, 0, none⟩ = some (.string ⟨#[]⟩) := HFS.out.1.r.cell 0
    have z1 : U.cell? ⟨w.heap.size + 1, 1, none⟩ = some (.int .i64 0) := HFS.out.1.r.cell 1
    have z2 : U.cell? ⟨w.heap.size + 1, 2, none⟩ = some (.int .i64 0) := HFS.out.1.r.cell 2
    have z3 : U.cell? ⟨w.heap.size + 1, 3, none⟩ = some (.slice none 0 0) := HFS.out.1.r.cell 3
    have z4 : U.cell? ⟨w.heap.size + 1, 4, none⟩ = some (.slice none 0 0) := HFS.out.1.r.cell 4
    have y0 := HFS.out.1.r.frozen 0
    have y1 := HFS.out.1.r.frozen 1
    have y2 := HFS.out.1.r.frozen 2
    have y3 := HFS.out.1.r.frozen 3
    have y4 := HFS.out.1.r.frozen 4
    have HLT := Lib.hid (And.intro hgl (And.intro hgl2 hlt))
    clear hU k3 k4 k5 f3 f4 e3 e4 H1 H2 HS HSD hgl hgl2 hlt
    go_wp2_with fail
    have kV := (((((HFS.out.1.r.set 0 (.string nm)).set 1 (.int .i64 a)).set 2 (.int .i64 b)).set 3 (.slice A5 n c5)).set 4 (.slice A6 m c6))
    simp only [List.setIfInBounds_toArray, List.set_cons_zero, List.set_cons_succ] at kV
    have hl := HFS.out.1.l
    obtain ⟨q1, q2, q3⟩ := HLT.out
    have oN := HFS.out.2.1
    have oK := HFS.out.2.2
    refine bodyPost_ret (v := .tuple #[.agg #[.string nm, .int .i64 a, .int .i64 b, .slice A5 n c5, .slice A6 m c6], .bool is]) ?_ rfl ⟨⟨⟨nm, a, b, nl, kl⟩, A5, c5, A6, c6⟩, ?_, rfl, ?_, ?_⟩
    · have p0 := kV.cell 0; have p1 := kV.cell 1; have p2 := kV.cell 2; have p3 := kV.cell 3; have p4 := kV.cell 4
      simp [results, Tryd.f14, go_sem, p0, p1, p2, p3, p4]
    · simp only [tcs, HNM.out.1, HNM.out.2]
    · have hN := ((((oN.set (p := ⟨w.heap.size + 1, 0, none⟩) (by show w.heap.size + 1 < _; omega) (.string nm)).set (p := ⟨w.heap.size + 1, 1, none⟩) (by show w.heap.size + 1 < _; omega) (.int .i64 a)).set (p := ⟨w.heap.size + 1, 2, none⟩) (by show w.heap.size + 1 < _; omega) (.int .i64 b)).set (p := ⟨w.heap.size + 1, 3, none⟩) (by show w.heap.size + 1 < _; omega) (.slice A5 n c5)).set (p := ⟨w.heap.size + 1, 4, none⟩) (by show w.heap.size + 1 < _; omega) (.slice A6 m c6)
      have hK := ((((oK.set (p := ⟨w.heap.size + 1, 0, none⟩) (by show w.heap.size + 1 < _; omega) (.string nm)).set (p := ⟨w.heap.size + 1, 1, none⟩) (by show w.heap.size + 1 < _; omega) (.int .i64 a)).set (p := ⟨w.heap.size + 1, 2, none⟩) (by show w.heap.size + 1 < _; omega) (.int .i64 b)).set (p := ⟨w.heap.size + 1, 3, none⟩) (by show w.heap.size + 1 < _; omega) (.slice A5 n c5)).set (p := ⟨w.heap.size + 1, 4, none⟩) (by show w.heap.size + 1 < _; omega) (.slice A6 m c6)
      have hq1 := hl.size
      exact ⟨⟨hN.rw_ (fun _ => rfl), hK.rw_ (fun _ => rfl), hN.fit, hK.fit, HR.out.lt, HR.out.sz, HR.out.szk⟩, hN.base (by omega), hK.base (by omega)⟩
    · exact ((((hl.setCell (p := ⟨w.heap.size + 1, 0, none⟩) (by show w.heap.size ≤ w.heap.size + 1; omega) _).setCell (p := ⟨w.heap.size + 1, 1, none⟩) (by show w.heap.size ≤ w.heap.size + 1; omega) _).setCell (p := ⟨w.heap.size + 1, 2, none⟩) (by show w.heap.size ≤ w.heap.size + 1; omega) _).setCell (p := ⟨w.heap.size + 1, 3, none⟩) (by show w.heap.size ≤ w.heap.size + 1; omega) _).setCell (p := ⟨w.heap.size + 1, 4, none⟩) (by show w.heap.size ≤ w.heap.size + 1; omega) _
theorem find_cfg (x : Cv) (s : ByteArray) (w : World) (h : RC w x) (hfew : ∀ y ∈ x.ts, y.t.nets.length ≤ 1099511627776 ∧ y.t.toks.length ≤ 1099511627776) :
    Calls Tryd.prog 14 #[.agg (ccs x), .string s] w fun e w' => ∃ y : Tv, e = .returned (.tuple #[.agg (tcs y), .bool (fT s x.ts).isSome]) ∧ y.t = ((fT s x.ts).getD zeroTv).t ∧ RT1 w' y ∧ Below w.heap.size w w' :=
  (find_cfg2 x s w h hfew).mono fun e w' ⟨y, h1, h2, h3, h4⟩ => ⟨y, h1, h2, h3.1, h4⟩
end Go.Proofs.YtfpjkedcpnmfeaaDoor
