/- Bytes in digits, and the bytes of digits: what the document asks, as Lean functions. Nothing of the program is named here. -/
import Derived.Test.YtoekdiefbpnekaaDoorState
namespace Go.Proofs.YtoekdiefbpnekaaDoor
set_option linter.unusedVariables false
set_option linter.unusedSimpArgs false

def digs : List UInt8 := [48, 49, 50, 51, 52, 53, 54, 55, 56, 57, 97, 98, 99, 100, 101, 102]
/-- The digit of a number below 16. -/
def dig (n : Nat) : UInt8 := digs.getD n 0
def hexB : List UInt8 → List UInt8
  | [] => []
  | c :: r => dig (c.toNat / 16) :: dig (c.toNat % 16) :: hexB r
theorem hexB_len : ∀ l, (hexB l).length = 2 * l.length
  | [] => rfl
  | c :: r => by rw [hexB, List.length_cons, List.length_cons, hexB_len r, List.length_cons]; omega
theorem hexB_app : ∀ a b, hexB (a ++ b) = hexB a ++ hexB b
  | [], b => rfl
  | c :: r, b => by rw [List.cons_append, hexB, hexB, hexB_app r b]; rfl
theorem hexB_take (l : List UInt8) (i : Nat) (h : i < l.length) : hexB (l.take (i + 1)) = hexB (l.take i) ++ [dig (l[i].toNat / 16)] ++ [dig (l[i].toNat % 16)] := by
  rw [List.take_add_one, List.getElem?_eq_getElem h, hexB_app, List.append_assoc]; rfl
/-- A digit's number, if it is one. -/
def val (c : UInt8) : Option Nat := if 48 ≤ c.toNat ∧ c.toNat ≤ 57 then some (c.toNat - 48) else if 97 ≤ c.toNat ∧ c.toNat ≤ 102 then some (c.toNat - 87) else none
theorem val_lt (c : UInt8) (n : Nat) (h : val c = some n) : n < 16 := by
  unfold val at h
  split at h
  · injection h with h; omega
  · split at h
    · injection h with h; omega
    · cases h
theorem val_dig (n : Nat) (h : n < 16) : val (dig n) = some n := by
  have : ∀ m : Fin 16, val (dig m.val) = some m.val := by decide
  exact this ⟨n, h⟩
theorem dig_val (c : UInt8) (n : Nat) (h : val c = some n) : dig n = c := by
  have : ∀ k : Fin 256, ∀ n : Fin 16, val (UInt8.ofNat k.val) = some n.val → dig n.val = UInt8.ofNat k.val := by decide +kernel
  have h1 := this ⟨c.toNat, c.toNat_lt⟩ ⟨n, val_lt c n h⟩
  simp only [UInt8.ofNat_toNat] at h1
  exact h1 h
/-- The bytes of digits, two of each; none if one of these is no digit. -/
def unhexB : List UInt8 → Option (List UInt8)
  | [] => some []
  | [_] => none
  | a :: b :: r => match val a, val b, unhexB r with
    | some x, some y, some l => some (UInt8.ofNat (16 * x + y) :: l)
    | _, _, _ => none
theorem unhexB_hexB : ∀ l, unhexB (hexB l) = some l
  | [] => rfl
  | c :: r => by
    have h := c.toNat_lt
    rw [hexB, unhexB, val_dig _ (by omega), val_dig _ (by omega), unhexB_hexB r]
    simp only
    congr 2
    rw [show 16 * (c.toNat / 16) + c.toNat % 16 = c.toNat by omega, UInt8.ofNat_toNat]
theorem hexB_unhexB : ∀ s l, unhexB s = some l → hexB l = s
  | [], l, h => by rw [unhexB] at h; injection h with h; subst h; rfl
  | [_], l, h => by rw [unhexB] at h; cases h
  | a :: b :: r, l, h => by
    rw [unhexB] at h
    cases ha : val a with
    | none => rw [ha] at h; cases h
    | some x =>
      cases hb : val b with
      | none => rw [ha, hb] at h; cases h
      | some y =>
        cases hr : unhexB r with
        | none => rw [ha, hb, hr] at h; cases h
        | some t =>
          rw [ha, hb, hr] at h
          injection h with h
          subst h
          have hx := val_lt a x ha
          have hy := val_lt b y hb
          have e : (UInt8.ofNat (16 * x + y)).toNat = 16 * x + y := by rw [UInt8.toNat_ofNat']; exact Nat.mod_eq_of_lt (by omega)
          rw [hexB, e, show (16 * x + y) / 16 = x by omega, show (16 * x + y) % 16 = y by omega, dig_val a x ha, dig_val b y hb, hexB_unhexB r t hr]
theorem unhexB_odd : ∀ s, s.length % 2 = 1 → unhexB s = none
  | [], h => by simp at h
  | [_], _ => rfl
  | a :: b :: r, h => by
    rw [unhexB, unhexB_odd r (by simp only [List.length_cons] at h; omega)]
    cases val a <;> cases val b <;> rfl
theorem unhexB_app : ∀ a b x y, unhexB a = some x → unhexB b = some y → unhexB (a ++ b) = some (x ++ y)
  | a, b, x, y, hx, hy => by
    rw [← hexB_unhexB a x hx, ← hexB_unhexB b y hy, ← hexB_app, unhexB_hexB]
end Go.Proofs.YtoekdiefbpnekaaDoor
