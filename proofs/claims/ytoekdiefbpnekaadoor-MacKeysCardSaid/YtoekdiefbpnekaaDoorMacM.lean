/- Sums under keys (HMAC), proofs of words: what the document asks, as Lean functions. -/
import Derived.Test.YtoekdiefbpnekaaDoorHexMath
import Derived.Test.YtoekdiefbpnekaaDoorSumL
import Derived.Test.YtoekdiefbpnekaaDoorText
namespace Go.Proofs.YtoekdiefbpnekaaDoor
set_option linter.unusedVariables false
set_option linter.unusedSimpArgs false
open Go.RowKit

/-- A key of at most 64 bytes. -/
def shortK (key : List UInt8) : List UInt8 := if 64 < key.length then sum key else key
/-- A key of 64 bytes. -/
def keyB (key : List UInt8) : List UInt8 := shortK key ++ List.replicate (64 - (shortK key).length) 0
def padB (key : List UInt8) (c : UInt8) : List UInt8 := (keyB key).map fun x => x ^^^ c
def macB (key b : List UInt8) : List UInt8 := sum (padB key 92 ++ sum (padB key 54 ++ b))
theorem shortK_len (key : List UInt8) : (shortK key).length ≤ 64 := by
  unfold shortK
  split
  · rw [sum_len]; decide
  · omega
theorem keyB_len (key : List UInt8) : (keyB key).length = 64 := by
  have := shortK_len key
  unfold keyB; rw [List.length_append, List.length_replicate]; omega
theorem padB_len (key : List UInt8) (c : UInt8) : (padB key c).length = 64 := by unfold padB; rw [List.length_map, keyB_len]
theorem macB_len (key b : List UInt8) : (macB key b).length = 32 := sum_len _
theorem keyB_long (key : List UInt8) (h : 64 < key.length) : keyB key = keyB (sum key) := by
  have e1 : shortK key = sum key := by unfold shortK; rw [if_pos h]
  have e2 : shortK (sum key) = sum key := by unfold shortK; rw [if_neg (by rw [sum_len]; decide)]
  unfold keyB; rw [e1, e2]
theorem macB_long (key b : List UInt8) (h : 64 < key.length) : macB key b = macB (sum key) b := by
  unfold macB padB; rw [keyB_long key h]
theorem keyB_zeros (key : List UInt8) (n : Nat) (h : key.length + n ≤ 64) : keyB (key ++ List.replicate n 0) = keyB key := by
  have e1 : shortK key = key := by unfold shortK; rw [if_neg (by omega)]
  have e2 : shortK (key ++ List.replicate n 0) = key ++ List.replicate n 0 := by unfold shortK; rw [if_neg (by rw [List.length_append, List.length_replicate]; omega)]
  unfold keyB; rw [e1, e2, List.append_assoc, List.replicate_append_replicate, List.length_append, List.length_replicate]
  congr 2; omega
theorem macB_zeros (key b : List UInt8) (n : Nat) (h : key.length + n ≤ 64) : macB (key ++ List.replicate n 0) b = macB key b := by
  unfold macB padB; rw [keyB_zeros key n h]
set_option maxRecDepth 100000 in
theorem macB_fox : hexB (macB [107, 101, 121] [84, 104, 101, 32, 113, 117, 105, 99, 107, 32, 98, 114, 111, 119, 110, 32, 102, 111, 120, 32, 106, 117, 109, 112, 115, 32, 111, 118, 101, 114, 32, 116, 104, 101, 32, 108, 97, 122, 121, 32, 100, 111, 103]) = [102, 55, 98, 99, 56, 51, 102, 52, 51, 48, 53, 51, 56, 52, 50, 52, 98, 49, 51, 50, 57, 56, 101, 54, 97, 97, 54, 102, 98, 49, 52, 51, 101, 102, 52, 100, 53, 57, 97, 49, 52, 57, 52, 54, 49, 55, 53, 57, 57, 55, 52, 55, 57, 100, 98, 99, 50, 100, 49, 97, 51, 99, 100, 56] := by decide +kernel

theorem ofInt8 (x : UInt8) : BitVec.ofInt 8 (x.toNat : Int) = x.toBitVec := by
  rw [BitVec.ofInt_natCast]; simp
theorem b_xor (x y : UInt8) : bits .xor .u8 (x.toNat : Int) (y.toNat : Int) = ((x ^^^ y).toNat : Int) := by
  have h : (x ^^^ y).toNat < 256 := (x ^^^ y).toNat_lt
  show IntKind.u8.wrap ((BitVec.ofInt 8 (x.toNat : Int) ^^^ BitVec.ofInt 8 (y.toNat : Int)).toNat : Int) = _
  rw [ofInt8, ofInt8, IntKind.wrap_u8]
  have e : (x.toBitVec ^^^ y.toBitVec).toNat = (x ^^^ y).toNat := rfl
  rw [e]; omega
theorem b_or (x y : UInt8) : bits .or .u8 (x.toNat : Int) (y.toNat : Int) = ((x ||| y).toNat : Int) := by
  have h : (x ||| y).toNat < 256 := (x ||| y).toNat_lt
  show IntKind.u8.wrap ((BitVec.ofInt 8 (x.toNat : Int) ||| BitVec.ofInt 8 (y.toNat : Int)).toNat : Int) = _
  rw [ofInt8, ofInt8, IntKind.wrap_u8]
  have e : (x.toBitVec ||| y.toBitVec).toNat = (x ||| y).toNat := rfl
  rw [e]; omega
theorem or_zero (x y : UInt8) : (x ||| y) = 0 ↔ x = 0 ∧ y = 0 := UInt8.or_eq_zero_iff
theorem xor_zero (x y : UInt8) : (x ^^^ y) = 0 ↔ x = y := UInt8.xor_eq_zero_iff

/-- The texts of words, one behind the other. -/
def textsB (ws : List ByteArray) : List UInt8 := (ws.map textB).flatten
theorem textsB_take (ws : List ByteArray) (i : Nat) (h : i < ws.length) : textsB (ws.take (i + 1)) = textsB (ws.take i) ++ textB ws[i] := by
  unfold textsB
  rw [List.take_add_one, List.getElem?_eq_getElem h, List.map_append, List.flatten_append]
  simp
def proofB (key : List UInt8) (ws : List ByteArray) : List UInt8 := if (∀ x ∈ ws, x.size ≤ 255) then hexB (macB key (textsB ws)) else []
end Go.Proofs.YtoekdiefbpnekaaDoor
