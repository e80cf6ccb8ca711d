/- Syn3, Word, Arr, Sched, State, HexMath, CfgM, CgR, NetAt: texts of this seat, one behind the other. -/
import Derived.Test.YtekobdmlgbffnaaGreatDoorG2
import Derived.WalkKit
import Derived.Lib.Hide
import Derived.Test.YtekobdmlgbffnaaGreatDoorG1
import Derived.Laws.Rows
import Derived.Laws.Tables
import Derived.Laws.CopyOwn
import Derived.Test.YtekobdmlgbffnaaGreatDoorRows
/- syntax: named, Name: their contracts. -/
namespace Go.Proofs.YtekobdmlgbffnaaGreatDoor
set_option linter.unusedVariables false
set_option maxRecDepth 100000
set_option linter.unusedSimpArgs false
open Go.RowKit

/-- May a name have that byte? -/
def nmdB (c : UInt8) : Bool := (decide (97 ≤ c.toNat) && decide (c.toNat ≤ 122)) || (decide (48 ≤ c.toNat) && decide (c.toNat ≤ 57)) || decide (c.toNat = 45)
def nameB (s : ByteArray) : Bool := decide (1 ≤ s.size) && decide (s.size ≤ 20) && decide ((s.data.toList.getD 0 0).toNat ≠ 45) && decide ((s.data.toList.getD (s.size - 1) 0).toNat ≠ 45) && s.data.toList.all nmdB

set_option maxHeartbeats 400000 in
theorem named_ok (c : UInt8) (w : World) :
    Calls Tryz.prog 116 #[.int .u8 (c.toNat : Int)] w fun e w' => e = .returned (.bool (nmdB c)) ∧ w = w' := by
  obtain ⟨v, hv⟩ : ∃ v, v = c.toNat := ⟨_, rfl⟩
  have hv2 : v < 256 := by rw [hv]; exact c.toNat_lt
  have hN : nmdB c = ((decide (97 ≤ v) && decide (v ≤ 122)) || (decide (48 ≤ v) && decide (v ≤ 57)) || decide (v = 45)) := by rw [nmdB, hv]
  rw [hN, ← hv]
  clear hN hv
  go_enter Tryz.func116, Tryz.ntmps116
  go_wp2
  all_goals (go_ret; refine ⟨?_, rfl⟩; show Ending.returned (.bool _) = .returned (.bool _); refine congrArg _ (congrArg _ ?_); rw [Bool.eq_iff_iff]; simp; omega)


set_option maxHeartbeats 1000000 in
theorem name_ok (s : ByteArray) (w : World) (hs : s.size ≤ 140737488355328) :
    Calls Tryz.prog 80 #[.string s] w fun e w' => e = .returned (.bool (nameB s)) ∧ w = w' := by
  by_cases h0 : s.size = 0
  · have hN : nameB s = false := by simp [nameB, h0]
    rw [hN]
    clear hN
    obtain rfl : s = ⟨#[]⟩ := by cases s; rename_i d; simp [ByteArray.size] at h0; rw [h0]
    go_enter Tryz.func80, Tryz.ntmps80
    go_wp2
    go_ret
    exact ⟨rfl, rfl⟩
  have hne : (s.toList == []) = false := by
    rw [beq_eq_false_iff_ne, ByteArray.toList_eq]
    intro h
    apply h0
    have := congrArg List.length h
    simpa using this
  by_cases h1 : 20 < s.size
  · have hN : nameB s = false := by have : ¬ s.size ≤ 20 := by omega
                                    simp [nameB, this]
    rw [hN]
    clear hN
    go_enter Tryz.func80, Tryz.ntmps80
    go_wp2
    go_ret
    exact ⟨rfl, rfl⟩
  have hz : 0 < s.size := by omega
  obtain ⟨v0, hv0⟩ : ∃ v0, (s.data.toList.getD 0 0).toNat = v0 := ⟨_, rfl⟩
  obtain ⟨vl, hvl⟩ : ∃ vl, (s.data.toList.getD (s.size - 1) 0).toNat = vl := ⟨_, rfl⟩
  have hx0 : (Instr.index 9 (.string s) (.int .i64 0)).run Tryz.prog w = .ok (.int .u8 (v0 : Int)) w := sidx s 0 v0 hz hv0 w
  have hd20 : decide ((20 : Int) < (s.size : Int)) = false := by simp; omega
  have hxl := sidx s (s.size - 1) vl (by omega) hvl w
  rw [show ((s.size - 1 : Nat) : Int) = (s.size : Int) - 1 by omega] at hxl
  have hN : nameB s = (decide (v0 ≠ 45) && decide (vl ≠ 45) && s.data.toList.all nmdB) := by
    unfold nameB
    rw [hv0, hvl, decide_eq_true (by omega : 1 ≤ s.size), decide_eq_true (by omega : s.size ≤ 20)]; simp
  rw [hN]
  clear hN hv0 hvl
  by_cases d0 : v0 = 45
  · subst d0
    go_enter Tryz.func80, Tryz.ntmps80
    go_wp2
    go_ret
    exact ⟨rfl, rfl⟩
  have e0 : ((v0 : Int) == 45) = false := by rw [beq_eq_false_iff_ne]; omega
  by_cases dl : vl = 45
  · subst dl
    rw [decide_eq_true d0]
    clear d0
    go_enter Tryz.func80, Tryz.ntmps80
    go_wp2
    go_ret
    exact ⟨rfl, rfl⟩
  have el : ((vl : Int) == 45) = false := by rw [beq_eq_false_iff_ne]; omega
  rw [decide_eq_true d0, decide_eq_true dl]
  obtain ⟨R, hR⟩ : ∃ R, R = (true && true && s.data.toList.all nmdB) := ⟨_, rfl⟩
  rw [← hR]
  have HR := Lib.hid (show R = s.data.toList.all nmdB by rw [hR]; simp)
  clear hR d0 dl
  go_enter Tryz.func80, Tryz.ntmps80
  go_wp2_with fail
  clear hx0 hxl e0 el hne hd20
  go_loop [26] (fun v26 => ∃ i : Nat, i ≤ s.size ∧ v26 = .int .i64 i ∧ Hid (R = (s.data.toList.drop i).all nmdB)) (fun v26 => s.size - (intOf v26).toNat)
  case atStart => exact ⟨0, by omega, rfl, HR⟩
  case round =>
    obtain ⟨i, hi, rfl, HE⟩ := hrel
    clear HR
    by_cases hlt : i < s.size
    · obtain ⟨c, hc⟩ : ∃ c, s.data.toList.getD i 0 = c := ⟨_, rfl⟩
      have hxi := sidx s i c.toNat hlt (by rw [hc]) w
      have hcons : s.data.toList.drop i = c :: s.data.toList.drop (i + 1) := by
        have h2 : i < s.data.toList.length := hlt
        rw [List.drop_eq_getElem_cons h2, ← hc, List.getD, List.getElem?_eq_getElem h2]; rfl
      have HC := Lib.hid (show R = (nmdB c && (s.data.toList.drop (i + 1)).all nmdB) by rw [HE.out, hcons, List.all_cons])
      clear hcons hc
      have HNM := Lib.hid (named_ok c w)
      by_cases hb : nmdB c = true
      · rw [hb] at HC HNM
        go_wp2_with (refine HNM.out.mono ?_; rintro e w' ⟨rfl, rfl⟩)
        go_round
        case rel => exact ⟨i + 1, by omega, by go_num, Lib.hid (by rw [HC.out]; simp)⟩
        case measure => simp [intOf]; omega
      · have hb2 : nmdB c = false := by simpa using hb
        rw [hb2] at HC HNM
        clear hb hb2
        go_wp2_with (refine HNM.out.mono ?_; rintro e w' ⟨rfl, rfl⟩)
        go_ret
        exact ⟨by rw [HC.out]; rfl, rfl⟩
    · have HF := Lib.hid (show R = true by rw [HE.out, List.drop_of_length_le (by show s.size ≤ i; omega)]; rfl)
      go_wp2
      go_ret
      exact ⟨by rw [HF.out]; rfl, rfl⟩
end Go.Proofs.YtekobdmlgbffnaaGreatDoor

/- Words of 32 bits as plain numbers, and the sum of bytes over them: what the document asks (SHA-256), as Lean functions. Nothing of the program is named here. -/
namespace Go.Proofs.YtekobdmlgbffnaaGreatDoor
set_option linter.unusedVariables false
set_option maxRecDepth 100000
set_option linter.unusedSimpArgs false

def wadd (a b : Nat) : Nat := (a + b) % 4294967296
def wxor (a b : Nat) : Nat := (a ^^^ b) % 4294967296
def wand (a b : Nat) : Nat := (a &&& b) % 4294967296
def wor (a b : Nat) : Nat := (a ||| b) % 4294967296
def wnot (a : Nat) : Nat := 4294967295 - a % 4294967296
def wshl (a n : Nat) : Nat := (a * 2 ^ n) % 4294967296
def wshr (a n : Nat) : Nat := (a % 4294967296) / 2 ^ n
/-- Turned to the right. -/
def rotr (x n : Nat) : Nat := wor (wshr x n) (wshl x (32 - n))
def great (x a b c : Nat) : Nat := wxor (wxor (rotr x a) (rotr x b)) (rotr x c)
def small (x a b c : Nat) : Nat := wxor (wxor (rotr x a) (rotr x b)) (wshr x c)

def H0 : List Nat := [0x6a09e667, 0xbb67ae85, 0x3c6ef372, 0xa54ff53a, 0x510e527f, 0x9b05688c, 0x1f83d9ab, 0x5be0cd19]
def KK : List Nat := [
  0x428a2f98, 0x71374491, 0xb5c0fbcf, 0xe9b5dba5, 0x3956c25b, 0x59f111f1, 0x923f82a4, 0xab1c5ed5,
  0xd807aa98, 0x12835b01, 0x243185be, 0x550c7dc3, 0x72be5d74, 0x80deb1fe, 0x9bdc06a7, 0xc19bf174,
  0xe49b69c1, 0xefbe4786, 0x0fc19dc6, 0x240ca1cc, 0x2de92c6f, 0x4a7484aa, 0x5cb0a9dc, 0x76f988da,
  0x983e5152, 0xa831c66d, 0xb00327c8, 0xbf597fc7, 0xc6e00bf3, 0xd5a79147, 0x06ca6351, 0x14292967,
  0x27b70a85, 0x2e1b2138, 0x4d2c6dfc, 0x53380d13, 0x650a7354, 0x766a0abb, 0x81c2c92e, 0x92722c85,
  0xa2bfe8a1, 0xa81a664b, 0xc24b8b70, 0xc76c51a3, 0xd192e819, 0xd6990624, 0xf40e3585, 0x106aa070,
  0x19a4c116, 0x1e376c08, 0x2748774c, 0x34b0bcb5, 0x391c0cb3, 0x4ed8aa4a, 0x5b9cca4f, 0x682e6ff3,
  0x748f82ee, 0x78a5636f, 0x84c87814, 0x8cc70208, 0x90befffa, 0xa4506ceb, 0xbef9a3f7, 0xc67178f2]

/-- Eight words: a to h, or H0 to H7. -/
structure St where
  a : Nat
  b : Nat
  c : Nat
  d : Nat
  e : Nat
  f : Nat
  g : Nat
  h : Nat

/-- One byte of a row as a number; 0 behind its end. -/
def byteAt (l : List UInt8) (i : Nat) : Nat := (l.getD i 0).toNat
/-- A word of four bytes, the highest first. -/
def wordAt (l : List UInt8) (p : Nat) : Nat := wor (wor (wor (wshl (byteAt l p) 24) (wshl (byteAt l (p + 1)) 16)) (wshl (byteAt l (p + 2)) 8)) (byteAt l (p + 3))
/-- The sixteen words of the block that begins at p. -/
def words16 (l : List UInt8) (p : Nat) : List Nat := (List.range 16).map fun i => wordAt l (p + 4 * i)
/-- One word more of a schedule. -/
def nextW (l : List Nat) : Nat :=
  wadd (wadd (wadd (small (l.getD (l.length - 2) 0) 17 19 10) (l.getD (l.length - 7) 0)) (small (l.getD (l.length - 15) 0) 7 18 3)) (l.getD (l.length - 16) 0)
def schedL (l : List Nat) : Nat → List Nat
  | 0 => l
  | n + 1 => schedL l n ++ [nextW (schedL l n)]
def sched (l : List Nat) : List Nat := schedL l 48
def rX (s : St) (k w : Nat) : Nat := wadd (wadd (wadd (wadd s.h (great s.e 6 11 25)) (wxor (wand s.e s.f) (wand (wnot s.e) s.g))) k) w
def rY (s : St) : Nat := wadd (great s.a 2 13 22) (wxor (wxor (wand s.a s.b) (wand s.a s.c)) (wand s.b s.c))
def round1 (s : St) (k w : Nat) : St := ⟨wadd (rX s k w) (rY s), s.a, s.b, s.c, wadd s.d (rX s k w), s.e, s.f, s.g⟩
def rounds (w : List Nat) (s : St) : Nat → St
  | 0 => s
  | n + 1 => round1 (rounds w s n) (KK.getD n 0) (w.getD n 0)
def addS (s t : St) : St := ⟨wadd s.a t.a, wadd s.b t.b, wadd s.c t.c, wadd s.d t.d, wadd s.e t.e, wadd s.f t.f, wadd s.g t.g, wadd s.h t.h⟩
def block1 (s : St) (w : List Nat) : St := addS s (rounds w s 64)
/-- The state behind n blocks of l. -/
def thr (s : St) (l : List UInt8) : Nat → St
  | 0 => s
  | n + 1 => block1 (thr s l n) (sched (words16 l (64 * n)))
def S0 : St := ⟨0x6a09e667, 0xbb67ae85, 0x3c6ef372, 0xa54ff53a, 0x510e527f, 0x9b05688c, 0x1f83d9ab, 0x5be0cd19⟩
/-- The eight bytes of a number of 64 bits, the highest first. -/
def be8 (n : Nat) : List UInt8 := (List.range 8).map fun i => UInt8.ofNat (n / 256 ^ (7 - i))
/-- How many blocks the bytes and what is put behind them make. -/
def nblk (n : Nat) : Nat := (n + 8) / 64 + 1
def pad (l : List UInt8) : List UInt8 := l ++ (128 :: List.replicate (64 * nblk l.length - 9 - l.length) 0) ++ be8 (8 * l.length)
def St.list (s : St) : List Nat := [s.a, s.b, s.c, s.d, s.e, s.f, s.g, s.h]
def outB (s : St) : List UInt8 := (List.range 32).map fun i => UInt8.ofNat ((s.list.getD (i / 4) 0) / 2 ^ (24 - 8 * (i % 4)))
def sum (l : List UInt8) : List UInt8 := outB (thr S0 (pad l) (nblk l.length))
theorem ofInt32 (a : Nat) : (BitVec.ofInt 32 (a : Int)).toNat = a % 4294967296 := by
  rw [BitVec.ofInt_natCast, BitVec.toNat_ofNat]
theorem or_mod (a b : Nat) : (a % 4294967296) ||| (b % 4294967296) = (a ||| b) % 4294967296 := by
  have : (4294967296 : Nat) = 2 ^ 32 := rfl
  rw [this, Nat.or_mod_two_pow]
theorem w_or (x y : Nat) : bits .or .u32 (x : Int) (y : Int) = ((wor x y : Nat) : Int) := by
  show IntKind.u32.wrap ((BitVec.ofInt 32 (x : Int) ||| BitVec.ofInt 32 (y : Int)).toNat : Int) = _
  rw [BitVec.toNat_or, ofInt32, ofInt32, or_mod, IntKind.wrap_u32']; unfold wor; omega
/-- A word as a value. -/
abbrev wd (x : Nat) : Value := .int .u32 (x : Int)
end Go.Proofs.YtekobdmlgbffnaaGreatDoor

/- Arrays of words in memory, known whole. Nothing of the program is named here. -/
namespace Go.Proofs.YtekobdmlgbffnaaGreatDoor
set_option linter.unusedVariables false
set_option maxRecDepth 100000
set_option linter.unusedSimpArgs false
open Go.RowKit

/-- Words as cells. -/
def wcells (l : List Nat) : Array Value := (l.map wd).toArray
/-- The first words of n, the others 0. -/
def pre (l : List Nat) (n : Nat) : List Nat := l ++ List.replicate (n - l.length) 0
/-- One array is being filled: all below it stands, and but for one place it is as it was. -/
def Fill (wr : World) (g : Nat) (t : TypeId) (C : Array Value) (i : Nat) (u : World) : Prop := Below g wr u ∧ ∃ x, Bk u g t (C.setIfInBounds i x)
theorem Fill.first {wr : World} {g : Nat} {t : TypeId} {C : Array Value} {i : Nat} (h : Bk wr g t C) (hi : i < C.size) : Fill wr g t C i wr.drew :=
  ⟨(Below.refl _ _).drew, C[i], by
    have : C.setIfInBounds i C[i] = C := by
      apply Array.ext
      · simp
      · intro j h1 h2
        rw [Array.getElem_setIfInBounds]
        split
        · rename_i e; subst e; rfl
        · rfl
    rw [this]; exact h.drew⟩
theorem Fill.below {wr : World} {g : Nat} {t : TypeId} {C : Array Value} {i : Nat} {u u' : World} (h : Fill wr g t C i u) (hb : Below u.heap.size u u') : Fill wr g t C i u' := by
  obtain ⟨h1, x, h2⟩ := h
  have hg := h2.lt
  exact ⟨h1.trans (hb.mono (by omega)), x, h2.below hb hg⟩
theorem Fill.cell {wr : World} {g : Nat} {t : TypeId} {C : Array Value} {i : Nat} {u : World} (h : Fill wr g t C i u) (j : Nat) (hj : j ≠ i) : u.cell? ⟨g, j, none⟩ = C[j]? := by
  obtain ⟨_, x, h2⟩ := h
  rw [h2.cell, Array.getElem?_setIfInBounds, if_neg (Ne.symm hj)]
theorem Fill.here {wr : World} {g : Nat} {t : TypeId} {C : Array Value} {i : Nat} {u : World} (h : Fill wr g t C i u) (hi : i < C.size) : ∃ v, u.cell? ⟨g, i, none⟩ = some v := by
  obtain ⟨_, x, h2⟩ := h
  exact ⟨x, by rw [h2.cell, Array.getElem?_setIfInBounds, if_pos rfl, if_pos hi]⟩
theorem Fill.frozen {wr : World} {g : Nat} {t : TypeId} {C : Array Value} {i : Nat} {u : World} (h : Fill wr g t C i u) (j : Nat) : u.frozen? ⟨g, j, none⟩ = false := by
  obtain ⟨_, x, h2⟩ := h
  exact h2.frozen j
theorem Fill.set {wr : World} {g : Nat} {t : TypeId} {C : Array Value} {i : Nat} {u : World} (h : Fill wr g t C i u) (v : Value) :
    Fill wr g t C i (u.setCell ⟨g, i, none⟩ v) ∧ Bk (u.setCell ⟨g, i, none⟩ v) g t (C.setIfInBounds i v) ∧ Below g wr (u.setCell ⟨g, i, none⟩ v) := by
  obtain ⟨h1, x, h2⟩ := h
  have e : (C.setIfInBounds i x).setIfInBounds i v = C.setIfInBounds i v := by
    simp
  have hb : Bk (u.setCell ⟨g, i, none⟩ v) g t (C.setIfInBounds i v) := by
    have := h2.set i v
    rw [e] at this
    exact this
  have hB : Below g wr (u.setCell ⟨g, i, none⟩ v) := h1.setCell (p := ⟨g, i, none⟩) (Nat.le_refl _) _
  exact ⟨⟨hB, v, hb⟩, hb, hB⟩
/-- An element of an array that is a value. -/
theorem wpList_index {P : Program} {ops : Array Oper} {rest : List Oper} {o : Oper} {a : Act} {Q : Exit → Act → World → Prop} {w : World} (hgd : o.guard = none) (t : TypeId) (x i : Operand) (ho : o.op = .index t x i) (vx vi v : Value) (hx : a.eval x = vx) (hi : a.eval i = vi)
    (hr : (Instr.index t vx vi).run P w = .ok v w) (h : wpList P ops Q rest (a.put o.dst v) w) : wpList P ops Q (o :: rest) a w :=
  wpList_plain hgd fun _ hK => by
    unfold Oper.wp execOp
    simp only [ho, hx, hi, Sem.run_bind, hr, Result.andThen_ok, Sem.run_pure]
    exact hK _ _ h
end Go.Proofs.YtekobdmlgbffnaaGreatDoor

/- The schedule of a block: its words, one by one. Nothing of the program is named here. -/
namespace Go.Proofs.YtekobdmlgbffnaaGreatDoor
set_option linter.unusedVariables false
set_option maxRecDepth 100000
set_option linter.unusedSimpArgs false

end Go.Proofs.YtekobdmlgbffnaaGreatDoor

/- The eight words of a state. Nothing of the program is named here. -/
namespace Go.Proofs.YtekobdmlgbffnaaGreatDoor
set_option linter.unusedVariables false
set_option maxRecDepth 100000
set_option linter.unusedSimpArgs false

/-- A state as an array's value, and as its cells. -/
abbrev s8 (s : St) : Array Value := #[wd s.a, wd s.b, wd s.c, wd s.d, wd s.e, wd s.f, wd s.g, wd s.h]
abbrev A8 (s : St) : Value := .agg (s8 s)
structure St.Ok (s : St) : Prop where
  a : s.a < 4294967296
  b : s.b < 4294967296
  c : s.c < 4294967296
  d : s.d < 4294967296
  e : s.e < 4294967296
  f : s.f < 4294967296
  g : s.g < 4294967296
  h : s.h < 4294967296
/-- The first i words are added. -/
def mix (s r : St) : Nat → St
  | 0 => s
  | 1 => ⟨wadd s.a r.a, s.b, s.c, s.d, s.e, s.f, s.g, s.h⟩
  | 2 => ⟨wadd s.a r.a, wadd s.b r.b, s.c, s.d, s.e, s.f, s.g, s.h⟩
  | 3 => ⟨wadd s.a r.a, wadd s.b r.b, wadd s.c r.c, s.d, s.e, s.f, s.g, s.h⟩
  | 4 => ⟨wadd s.a r.a, wadd s.b r.b, wadd s.c r.c, wadd s.d r.d, s.e, s.f, s.g, s.h⟩
  | 5 => ⟨wadd s.a r.a, wadd s.b r.b, wadd s.c r.c, wadd s.d r.d, wadd s.e r.e, s.f, s.g, s.h⟩
  | 6 => ⟨wadd s.a r.a, wadd s.b r.b, wadd s.c r.c, wadd s.d r.d, wadd s.e r.e, wadd s.f r.f, s.g, s.h⟩
  | 7 => ⟨wadd s.a r.a, wadd s.b r.b, wadd s.c r.c, wadd s.d r.d, wadd s.e r.e, wadd s.f r.f, wadd s.g r.g, s.h⟩
  | _ => addS s r
/-- The two tables, as the program lays them. -/
structure Gl (w : World) : Prop where
  size : 1 < w.heap.size
  beg : ∀ k, k < 8 → w.cell? ⟨0, k, none⟩ = some (wd (H0.getD k 0))
  root : ∀ k, k < 64 → w.cell? ⟨1, k, none⟩ = some (wd (KK.getD k 0))
theorem Gl.below {w w' : World} {B : Nat} (h : Gl w) (hb : RowKit.Below B w w') (hB : 1 < B) : Gl w' :=
  ⟨Nat.lt_of_lt_of_le h.size hb.size, fun k hk => (hb.cell (p := ⟨0, k, none⟩) (by show 0 < B; omega)).trans (h.beg k hk), fun k hk => (hb.cell (p := ⟨1, k, none⟩) hB).trans (h.root k hk)⟩
end Go.Proofs.YtekobdmlgbffnaaGreatDoor

/- Bytes in digits, and the bytes of digits: what the document asks, as Lean functions. Nothing of the program is named here. -/
namespace Go.Proofs.YtekobdmlgbffnaaGreatDoor
set_option linter.unusedVariables false
set_option maxRecDepth 100000
set_option linter.unusedSimpArgs false

def digs : List UInt8 := [48, 49, 50, 51, 52, 53, 54, 55, 56, 57, 97, 98, 99, 100, 101, 102]
/-- The digit of a number below 16. -/
def dig (n : Nat) : UInt8 := digs.getD n 0
def hexB : List UInt8 → List UInt8
  | [] => []
  | c :: r => dig (c.toNat / 16) :: dig (c.toNat % 16) :: hexB r
theorem hexB_len : ∀ l, (hexB l).length = 2 * l.length
  | [] => rfl
  | c :: r => by rw [hexB, List.length_cons, List.length_cons, hexB_len r, List.length_cons]; omega
theorem hexB_app : ∀ a b, hexB (a ++ b) = hexB a ++ hexB b
  | [], b => rfl
  | c :: r, b => by rw [List.cons_append, hexB, hexB, hexB_app r b]; rfl
theorem hexB_take (l : List UInt8) (i : Nat) (h : i < l.length) : hexB (l.take (i + 1)) = hexB (l.take i) ++ [dig (l[i].toNat / 16)] ++ [dig (l[i].toNat % 16)] := by
  rw [List.take_add_one, List.getElem?_eq_getElem h, hexB_app, List.append_assoc]; rfl
/-- A digit's number, if it is one. -/
def val (c : UInt8) : Option Nat := if 48 ≤ c.toNat ∧ c.toNat ≤ 57 then some (c.toNat - 48) else if 97 ≤ c.toNat ∧ c.toNat ≤ 102 then some (c.toNat - 87) else none
theorem val_lt (c : UInt8) (n : Nat) (h : val c = some n) : n < 16 := by
  unfold val at h
  split at h
  · injection h with h; omega
  · split at h
    · injection h with h; omega
    · cases h
theorem val_dig (n : Nat) (h : n < 16) : val (dig n) = some n := by
  have : ∀ m : Fin 16, val (dig m.val) = some m.val := by decide
  exact this ⟨n, h⟩
theorem dig_val (c : UInt8) (n : Nat) (h : val c = some n) : dig n = c := by
  have : ∀ k : Fin 256, ∀ n : Fin 16, val (UInt8.ofNat k.val) = some n.val → dig n.val = UInt8.ofNat k.val := by decide +kernel
  have h1 := this ⟨c.toNat, c.toNat_lt⟩ ⟨n, val_lt c n h⟩
  simp only [UInt8.ofNat_toNat] at h1
  exact h1 h
/-- The bytes of digits, two of each; none if one of these is no digit. -/
def unhexB : List UInt8 → Option (List UInt8)
  | [] => some []
  | [_] => none
  | a :: b :: r => match val a, val b, unhexB r with
    | some x, some y, some l => some (UInt8.ofNat (16 * x + y) :: l)
    | _, _, _ => none
theorem unhexB_hexB : ∀ l, unhexB (hexB l) = some l
  | [] => rfl
  | c :: r => by
    have h := c.toNat_lt
    rw [hexB, unhexB, val_dig _ (by omega), val_dig _ (by omega), unhexB_hexB r]
    simp only
    congr 2
    rw [show 16 * (c.toNat / 16) + c.toNat % 16 = c.toNat by omega, UInt8.ofNat_toNat]
theorem hexB_unhexB : ∀ s l, unhexB s = some l → hexB l = s
  | [], l, h => by rw [unhexB] at h; injection h with h; subst h; rfl
  | [_], l, h => by rw [unhexB] at h; cases h
  | a :: b :: r, l, h => by
    rw [unhexB] at h
    cases ha : val a with
    | none => rw [ha] at h; cases h
    | some x =>
      cases hb : val b with
      | none => rw [ha, hb] at h; cases h
      | some y =>
        cases hr : unhexB r with
        | none => rw [ha, hb, hr] at h; cases h
        | some t =>
          rw [ha, hb, hr] at h
          injection h with h
          subst h
          have hx := val_lt a x ha
          have hy := val_lt b y hb
          have e : (UInt8.ofNat (16 * x + y)).toNat = 16 * x + y := by rw [UInt8.toNat_ofNat']; exact Nat.mod_eq_of_lt (by omega)
          rw [hexB, e, show (16 * x + y) / 16 = x by omega, show (16 * x + y) % 16 = y by omega, dig_val a x ha, dig_val b y hb, hexB_unhexB r t hr]
theorem unhexB_odd : ∀ s, s.length % 2 = 1 → unhexB s = none
  | [], h => by simp at h
  | [_], _ => rfl
  | a :: b :: r, h => by
    rw [unhexB, unhexB_odd r (by simp only [List.length_cons] at h; omega)]
    cases val a <;> cases val b <;> rfl
theorem unhexB_app : ∀ a b x y, unhexB a = some x → unhexB b = some y → unhexB (a ++ b) = some (x ++ y)
  | a, b, x, y, hx, hy => by
    rw [← hexB_unhexB a x hx, ← hexB_unhexB b y hy, ← hexB_app, unhexB_hexB]
end Go.Proofs.YtekobdmlgbffnaaGreatDoor

/- Configurations, their texts, and what is read of a text: plain mathematics. -/
namespace Go.Proofs.YtekobdmlgbffnaaGreatDoor
set_option linter.unusedVariables false
set_option maxRecDepth 100000
set_option linter.unusedSimpArgs false

/-! ### What may be -/

structure Nt where
  addr : Nat
  bits : Int
structure Tk where
  name : ByteArray
  sec : ByteArray
  till : Int
structure Tn where
  name : ByteArray
  names : Int
  visitors : Int
  nets : List Nt
  toks : List Tk
structure Cg where
  wait : Int
  grace : Int
  idle : Int
  lease : Int
  tens : List Tn

/-- Is one text less than another one? -/
def ltS (a b : ByteArray) : Bool := Op.bytesLess a.toList b.toList
/-- Are these names, each greater than the one ahead of it? -/
def rise : ByteArray → List ByteArray → Bool
  | _, [] => true
  | last, x :: r => nameB x && ltS last x && rise x r
def netB (n : Nt) : Bool := rightB n.addr n.bits
def tokB (k : Tk) : Bool := decide (1 ≤ k.sec.size) && decide (k.sec.size ≤ 32) && decide (0 ≤ k.till) && decide (k.till ≤ 1099511627776)
def quoB (n : Int) : Bool := decide (0 ≤ n) && decide (n ≤ 8)
def tenB (t : Tn) : Bool := quoB t.names && quoB t.visitors && decide (t.nets.length ≤ 4) && t.nets.all netB && decide (t.toks.length ≤ 4) && rise ByteArray.empty (t.toks.map (·.name)) && t.toks.all tokB
def timB (n : Int) : Bool := decide (1 ≤ n) && decide (n ≤ 1073741824)
def cfgB (c : Cg) : Bool := timB c.wait && timB c.grace && timB c.idle && timB c.lease && decide (c.tens.length ≤ 8) && rise ByteArray.empty (c.tens.map (·.name)) && c.tens.all tenB

/-! ### Lines -/

def wTimes : List UInt8 := [116, 105, 109, 101, 115]
def wTenant : List UInt8 := [116, 101, 110, 97, 110, 116]
def wNet : List UInt8 := [110, 101, 116]
def wToken : List UInt8 := [116, 111, 107, 101, 110]

def timesW (c : Cg) : List (List UInt8) := [wTimes, decB c.wait.toNat, decB c.grace.toNat, decB c.idle.toNat, decB c.lease.toNat]
def tenW (t : Tn) : List (List UInt8) := [wTenant, t.name.data.toList, decB t.names.toNat, decB t.visitors.toNat]
def netW (n : Nt) : List (List UInt8) := [wNet, slashL n.addr n.bits]
def tokW (k : Tk) : List (List UInt8) := [wToken, k.name.data.toList, hexB k.sec.data.toList, decB k.till.toNat]
def tenLs (t : Tn) : List (List (List UInt8)) := tenW t :: (t.nets.map netW ++ t.toks.map tokW)
def cfgLs (c : Cg) : List (List (List UInt8)) := timesW c :: c.tens.flatMap tenLs
def lineT (ws : List (List UInt8)) : List UInt8 := joinL 32 ws ++ [10]
def textT (ls : List (List (List UInt8))) : List UInt8 := ls.flatMap lineT
def printT (c : Cg) : List UInt8 := if cfgB c = true then textT (cfgLs c) else []

/-- The lines of a text, each with whether it has an end. -/
def linesL : List UInt8 → List (List UInt8 × Bool)
  | [] => []
  | x :: r => if x = 10 then ([], true) :: linesL r else
    match linesL r with
    | [] => [([x], false)]
    | (p, e) :: ps => (x :: p, e) :: ps

theorem lines_cut : ∀ l : List UInt8, l ≠ [] → linesL l = ((cutL 10 l).1, (cutL 10 l).2.2) :: linesL (cutL 10 l).2.1
  | [], h => absurd rfl h
  | x :: r, _ => by
    rw [linesL, cutL]
    by_cases hx : x = 10
    · rw [if_pos hx, if_pos hx]
    · rw [if_neg hx, if_neg hx]
      cases r with
      | nil => rfl
      | cons y r =>
        have ih := lines_cut (y :: r) (by simp)
        rw [ih]

theorem lines_hit (p r : List UInt8) (h : (10 : UInt8) ∉ p) : linesL (p ++ 10 :: r) = (p, true) :: linesL r := by
  have := lines_cut (p ++ 10 :: r) (by simp)
  rw [this, cutL_hit 10 p r h]
theorem lines_miss (p : List UInt8) (h : (10 : UInt8) ∉ p) (h0 : p ≠ []) : linesL p = [(p, false)] := by
  have := lines_cut p h0
  rw [this, cutL_miss 10 p h]
  rfl
/-- A text of whole lines is its lines. -/
theorem lines_text : ∀ l : List UInt8, (∀ x ∈ linesL l, x.2 = true) → l = (linesL l).flatMap fun x => x.1 ++ [10]
  | [], _ => rfl
  | x :: r, h => by
    have ih := lines_text r
    unfold linesL at h ⊢
    by_cases hx : x = 10
    · rw [if_pos hx] at h ⊢
      have := ih (fun y hy => h y (List.mem_cons_of_mem _ hy))
      rw [List.flatMap_cons, ← this, hx]; rfl
    · rw [if_neg hx] at h ⊢
      cases hl : linesL r with
      | nil =>
        rw [hl] at h
        have := h ([x], false) (by simp)
        cases this
      | cons q qs =>
        obtain ⟨q1, q2⟩ := q
        rw [hl] at h ih
        have := ih (fun y hy => by
          rcases List.mem_cons.1 hy with h1 | h1
          · rw [h1]; exact h (x :: q1, q2) (by simp)
          · exact h y (List.mem_cons_of_mem _ h1))
        simp only [List.flatMap_cons] at this ⊢
        rw [List.cons_append, List.cons_append, ← this]

/-! ### What is read -/

def decO (w : List UInt8) : Option Nat := (parseS (bs w)).map (·.1)
theorem decO_is (w : List UInt8) (n : Nat) (h : decO w = some n) : n ≤ 1099511627776 ∧ w = decB n := by
  unfold decO at h
  cases hp : parseS (bs w) with
  | none => rw [hp] at h; cases h
  | some x =>
    obtain ⟨m, k⟩ := x
    rw [hp] at h
    obtain rfl : m = n := by injection h
    obtain ⟨h1, h2⟩ := parse_is _ m k hp
    exact ⟨h1, bs_inj h2⟩

/-- With another last tenant. -/
def lastC (c : Cg) : Option Tn := c.tens.getLast?
def setC (c : Cg) (t : Tn) : Cg := { c with tens := c.tens.dropLast ++ [t] }
def zeroC : Cg := ⟨0, 0, 0, 0, []⟩

def readTimes (c : Cg) : List (List UInt8) → Option Cg
  | [a, b, d, e] => match decO a, decO b, decO d, decO e with
    | some a, some b, some d, some e => some ⟨a, b, d, e, c.tens⟩
    | _, _, _, _ => none
  | _ => none
def readTenant (c : Cg) : List (List UInt8) → Option Cg
  | [n, a, b] => match decO a, decO b with
    | some a, some b => some { c with tens := c.tens ++ [⟨bs n, a, b, [], []⟩] }
    | _, _ => none
  | _ => none
def readNet (c : Cg) : List (List UInt8) → Option Cg
  | [n] => match lastC c with
    | none => none
    | some t => if t.toks = [] then match netO (bs n) with
      | some x => some (setC c { t with nets := t.nets ++ [⟨x.1, x.2⟩] })
      | none => none
      else none
  | _ => none
def readToken (c : Cg) : List (List UInt8) → Option Cg
  | [n, s, u] => match lastC c with
    | none => none
    | some t => match unhexB s, decO u with
      | some b, some v => some (setC c { t with toks := t.toks ++ [⟨bs n, bs b, v⟩] })
      | _, _ => none
  | _ => none
def readW (c : Cg) : List (List UInt8) → Option Cg
  | [] => none
  | k :: ws => if k = wTimes then readTimes c ws else if k = wTenant then readTenant c ws else if k = wNet then readNet c ws else if k = wToken then readToken c ws else none
def okC (o : Option Cg) : Option Cg := match o with
  | some c => if cfgB c = true then some c else none
  | none => none
/-- One line, the first one or another one. -/
def lineC (c : Cg) (first : Bool) (ws : List (List UInt8)) : Option Cg := if decide (ws.head? = some wTimes) = first then okC (readW c ws) else none
def runL : Cg → Nat → List (List UInt8 × Bool) → Except Nat Cg
  | c, at', [] => if at' = 0 then .error 0 else .ok c
  | c, at', (l, e) :: r => if e = true then match lineC c (at' == 0) (piecesL 32 l) with
    | some c' => runL c' (at' + 1) r
    | none => .error at'
    else .error at'
def parseC (s : ByteArray) : Except Nat Cg := runL zeroC 0 (linesL s.data.toList)

end Go.Proofs.YtekobdmlgbffnaaGreatDoor

/- Configurations in memory: rows of structs that slices read as. -/
namespace Go.Proofs.YtekobdmlgbffnaaGreatDoor
set_option linter.unusedVariables false
set_option maxRecDepth 100000
set_option linter.unusedSimpArgs false
open Go.RowKit

/-- The slice at A reads as the rows l, of k cells each. -/
def Rw {β : Type} (k : Nat) (f : β → Array Value) (w : World) (A : Option Addr) (l : List β) : Prop :=
  l = [] ∨ ∃ b o, A = some ⟨b, o, none⟩ ∧ b < w.heap.size ∧ ∀ i, (h : i < l.length) → ∀ j, j < k → w.cell? ⟨b, o + i * k + j, none⟩ = (f l[i])[j]?
theorem Rw.nil {β : Type} {k : Nat} {f : β → Array Value} {w : World} {A : Option Addr} : Rw k f w A [] := .inl rfl
theorem Rw.on {β : Type} {k : Nat} {f : β → Array Value} {w w' : World} {A : Option Addr} {l : List β} (h : Rw k f w A l) (hb : Below w.heap.size w w') : Rw k f w' A l := by
  rcases h with h | ⟨b, o, e, hlt, hc⟩
  · exact .inl h
  · exact .inr ⟨b, o, e, Nat.lt_of_lt_of_le hlt hb.size, fun i hi j hj => (hb.cell (p := ⟨b, o + i * k + j, none⟩) hlt).trans (hc i hi j hj)⟩
/-- One of the rows, in every later world. -/
theorem Rw.at_ {β : Type} {k : Nat} {f : β → Array Value} {w : World} {A : Option Addr} {l : List β} (h : Rw k f w A l) (i : Nat) (hi : i < l.length) :
    ∃ b o x, A = some ⟨b, o, none⟩ ∧ l[i]? = some x ∧ ∀ u, Below w.heap.size w u → ∀ j, j < k → u.cell? ⟨b, o + i * k + j, none⟩ = (f x)[j]? := by
  rcases h with h | ⟨b, o, e, hlt, hc⟩
  · subst h; simp at hi
  · exact ⟨b, o, l[i], e, List.getElem?_eq_getElem hi, fun u hb j hj => (hb.cell (p := ⟨b, o + i * k + j, none⟩) hlt).trans (hc i hi j hj)⟩

abbrev ncs (n : Nt) : Array Value := #[.int .u32 (n.addr : Int), .int .i64 n.bits]
abbrev kcs (k : Tk) : Array Value := #[.string k.name, .string k.sec, .int .i64 k.till]
/-- A tenant, with where its rows lie. -/
structure Tv where
  t : Tn
  An : Option Addr
  cn : Nat
  Ak : Option Addr
  ck : Nat
abbrev tcs (x : Tv) : Array Value := #[.string x.t.name, .int .i64 x.t.names, .int .i64 x.t.visitors, .slice x.An x.t.nets.length x.cn, .slice x.Ak x.t.toks.length x.ck]
structure Cv where
  wait : Int
  grace : Int
  idle : Int
  lease : Int
  ts : List Tv
  A : Option Addr
  c : Nat
abbrev ccs (x : Cv) : Array Value := #[.int .i64 x.wait, .int .i64 x.grace, .int .i64 x.idle, .int .i64 x.lease, .slice x.A x.ts.length x.c]
def Cv.cg (x : Cv) : Cg := ⟨x.wait, x.grace, x.idle, x.lease, x.ts.map (·.t)⟩

/-- Where a slice of n rows may lie. -/
structure Fit (A : Option Addr) (n c : Nat) : Prop where
  cap : n ≤ c
  max : c ≤ 9223372036854775807
  nil_ : A = none → n = 0 ∧ c = 0

abbrev RN (w : World) (A : Option Addr) (l : List Nt) : Prop := Rw 2 ncs w A l
abbrev RK (w : World) (A : Option Addr) (l : List Tk) : Prop := Rw 3 kcs w A l
structure RT1 (w : World) (x : Tv) : Prop where
  n : RN w x.An x.t.nets
  k : RK w x.Ak x.t.toks
  fn : Fit x.An x.t.nets.length x.cn
  fk : Fit x.Ak x.t.toks.length x.ck
  lt : ∀ n ∈ x.t.nets, n.addr < 4294967296
  sz : x.t.name.size ≤ 140737488355328
  szk : ∀ k ∈ x.t.toks, k.name.size ≤ 140737488355328 ∧ k.sec.size ≤ 140737488355328
theorem RT1.on {w w' : World} {x : Tv} (h : RT1 w x) (hb : Below w.heap.size w w') : RT1 w' x := ⟨h.n.on hb, h.k.on hb, h.fn, h.fk, h.lt, h.sz, h.szk⟩
structure RT (w : World) (A : Option Addr) (l : List Tv) : Prop where
  r : Rw 5 tcs w A l
  each : ∀ x ∈ l, RT1 w x
theorem RT.on {w w' : World} {A : Option Addr} {l : List Tv} (h : RT w A l) (hb : Below w.heap.size w w') : RT w' A l := ⟨h.r.on hb, fun x hx => (h.each x hx).on hb⟩
/-- The configuration x lies in memory. -/
structure RC (w : World) (x : Cv) : Prop where
  r : RT w x.A x.ts
  f : Fit x.A x.ts.length x.c
theorem RC.on {w w' : World} {x : Cv} (h : RC w x) (hb : Below w.heap.size w w') : RC w' x := ⟨h.r.on hb, h.f⟩

theorem RN.at2 {w : World} {A : Option Addr} {l : List Nt} (h : RN w A l) (i : Nat) (hi : i < l.length) :
    ∃ b o x, A = some ⟨b, o, none⟩ ∧ l[i]? = some x ∧ ∀ u, Below w.heap.size w u → u.cell? ⟨b, o + i * 2, none⟩ = some (.int .u32 (x.addr : Int)) ∧ u.cell? ⟨b, o + i * 2 + 1, none⟩ = some (.int .i64 x.bits) := by
  obtain ⟨b, o, x, h1, h2, h3⟩ := Rw.at_ h i hi
  exact ⟨b, o, x, h1, h2, fun u hb => ⟨h3 u hb 0 (by omega), h3 u hb 1 (by omega)⟩⟩
theorem RK.at3 {w : World} {A : Option Addr} {l : List Tk} (h : RK w A l) (i : Nat) (hi : i < l.length) :
    ∃ b o x, A = some ⟨b, o, none⟩ ∧ l[i]? = some x ∧ ∀ u, Below w.heap.size w u → u.cell? ⟨b, o + i * 3, none⟩ = some (.string x.name) ∧ u.cell? ⟨b, o + i * 3 + 1, none⟩ = some (.string x.sec) ∧ u.cell? ⟨b, o + i * 3 + 2, none⟩ = some (.int .i64 x.till) := by
  obtain ⟨b, o, x, h1, h2, h3⟩ := Rw.at_ h i hi
  exact ⟨b, o, x, h1, h2, fun u hb => ⟨h3 u hb 0 (by omega), h3 u hb 1 (by omega), h3 u hb 2 (by omega)⟩⟩
theorem RT.at5 {w : World} {A : Option Addr} {l : List Tv} (h : RT w A l) (i : Nat) (hi : i < l.length) :
    ∃ b o x, A = some ⟨b, o, none⟩ ∧ l[i]? = some x ∧ RT1 w x ∧ ∀ u, Below w.heap.size w u → u.cell? ⟨b, o + i * 5, none⟩ = some (.string x.t.name) ∧ u.cell? ⟨b, o + i * 5 + 1, none⟩ = some (.int .i64 x.t.names) ∧ u.cell? ⟨b, o + i * 5 + 2, none⟩ = some (.int .i64 x.t.visitors) ∧
      u.cell? ⟨b, o + i * 5 + 3, none⟩ = some (.slice x.An x.t.nets.length x.cn) ∧ u.cell? ⟨b, o + i * 5 + 4, none⟩ = some (.slice x.Ak x.t.toks.length x.ck) := by
  obtain ⟨b, o, x, h1, h2, h3⟩ := Rw.at_ h.r i hi
  exact ⟨b, o, x, h1, h2, h.each x (List.mem_of_getElem? h2), fun u hb => ⟨h3 u hb 0 (by omega), h3 u hb 1 (by omega), h3 u hb 2 (by omega), h3 u hb 3 (by omega), h3 u hb 4 (by omega)⟩⟩
end Go.Proofs.YtekobdmlgbffnaaGreatDoor

/- syntax.In: its contract. (Written by gen_syn.py.) -/
namespace Go.Proofs.YtekobdmlgbffnaaGreatDoor
set_option linter.unusedVariables false
set_option maxRecDepth 100000
set_option linter.unusedSimpArgs false
open Go.RowKit

/-- A net in a block of its own. -/
structure NetAt (B : Nat) (w : World) (g a : Nat) (bits : Int) (u : World) : Prop where
  b : Below B w u
  c0 : u.cell? ⟨g, 0, none⟩ = some (.int .u32 (a : Int))
  c1 : u.cell? ⟨g, 1, none⟩ = some (.int .i64 bits)
  lt : g < u.heap.size
theorem NetAt.on {B : Nat} {w u u' : World} {g a : Nat} {bits : Int} (h : NetAt B w g a bits u) (hB : B ≤ u.heap.size) (hb : Below u.heap.size u u') : NetAt B w g a bits u' :=
  ⟨h.b.trans (hb.mono hB), (hb.cell (p := ⟨g, 0, none⟩) h.lt).trans h.c0, (hb.cell (p := ⟨g, 1, none⟩) h.lt).trans h.c1, Nat.lt_of_lt_of_le h.lt hb.size⟩
theorem NetAt.draw {B : Nat} {w u : World} {g a : Nat} {bits : Int} (h : NetAt B w g a bits u) : NetAt B w g a bits u.drew := ⟨h.b.drew, h.c0, h.c1, h.lt⟩
theorem NetAt.new (w : World) (a : Nat) (bits : Int) (t : TypeId) : NetAt w.heap.size w w.heap.size a bits (w.alloc (.cells #[.int .u32 (a : Int), .int .i64 bits] t)) := by
  have hk : Bk (w.alloc (.cells #[.int .u32 (a : Int), .int .i64 bits] t)) w.heap.size t #[.int .u32 (a : Int), .int .i64 bits] := Bk.new _ _ _
  exact ⟨(Below.refl _ _).alloc (Nat.le_refl _) _, by rw [hk.cell]; rfl, by rw [hk.cell]; rfl, hk.lt⟩
end Go.Proofs.YtekobdmlgbffnaaGreatDoor
