/- DigMath, OrdMath, FoldM, ParMath, SynM, Region, Syn1, Sidx: texts of this seat, one behind the other. -/
import Derived.Test.YtekobdmlgbffnaaGreatDoorG1
import Derived.Lib.Bytealg
import Derived.Deep.RegionHeld3
import Derived.BigQuiet
import Derived.Deep.QuietTactic
import Derived.Test.YtekobdmlgbffnaaGreatDoorRows
import Derived.WalkKit
import Derived.Lib.Hide
/- The digits of a number, as lists: plain mathematics. -/
namespace Go.Proofs.YtekobdmlgbffnaaGreatDoor
set_option linter.unusedVariables false
set_option maxRecDepth 100000
set_option linter.unusedSimpArgs false

/-- The cells of the row of L digits, of which the last k are told. -/
def dcells (b n L k : Nat) : Array Value := ((List.range L).map fun j => Value.int .u8 (if L ≤ j + k then ((n / b ^ (L - 1 - j) % b : Nat) : Int) else 0)).toArray

theorem dcells_none (b n L : Nat) : dcells b n L 0 = Array.replicate L (.int .u8 0) := by
  apply Array.ext
  · simp [dcells]
  · intro i h1 h2
    have : i < L := by simpa [dcells] using h1
    simp [dcells]; omega

theorem dcells_at (b n L k i : Nat) (h : i < L) : (dcells b n L k)[i]? = some (.int .u8 (if L ≤ i + k then ((n / b ^ (L - 1 - i) % b : Nat) : Int) else 0)) := by
  simp [dcells, h]

theorem dcells_set (b n L k : Nat) (h : k < L) : (dcells b n L k).setIfInBounds (L - 1 - k) (.int .u8 ((n / b ^ k % b : Nat) : Int)) = dcells b n L (k + 1) := by
  apply Array.ext
  · simp [dcells]
  · intro i h1 h2
    have hi : i < L := by simpa [dcells] using h2
    rw [Array.getElem_setIfInBounds (by simpa [dcells] using hi)]
    by_cases he : L - 1 - k = i
    · subst he
      have e1 : L - 1 - (L - 1 - k) = k := by omega
      have e2 : L ≤ L - 1 - k + (k + 1) := by omega
      simp [dcells, e1, e2]
    · rw [if_neg he]
      have : (L ≤ i + k) ↔ (L ≤ i + (k + 1)) := by omega
      simp [dcells, this]

/-- The digits of n of base b, the highest first. -/
def dg (b n : Nat) : List Nat := if h : b < 2 ∨ n < b then [n] else dg b (n / b) ++ [n % b]
termination_by n
decreasing_by
  have : ¬ (b < 2 ∨ n < b) := h
  exact Nat.div_lt_self (by omega) (by omega)

/-- A number below b^L, and not below b^(L-1) but for L = 1, has L digits, each what division tells. -/
theorem dg_eq (b : Nat) (hb : 2 ≤ b) : ∀ (L n : Nat), 1 ≤ L → n < b ^ L → (L = 1 ∨ b ^ (L - 1) ≤ n) → dg b n = (List.range L).map fun j => n / b ^ (L - 1 - j) % b := by
  intro L
  induction L with
  | zero => intro n h; omega
  | succ L ih =>
    intro n _ hlt hge
    rw [dg]
    by_cases hL : L = 0
    · subst hL
      have : n < b := by simpa using hlt
      simp [this, Nat.mod_eq_of_lt this]
    · have hge' : b ^ L ≤ n := by rcases hge with h | h; omega; simpa using h
      have hbn : b ≤ n := Nat.le_trans (by calc b = b ^ 1 := by simp
                                            _ ≤ b ^ L := Nat.pow_le_pow_right (by omega) (by omega)) hge'
      have hn : ¬ (b < 2 ∨ n < b) := by omega
      rw [dif_neg hn, ih (n / b) (by omega) (by rw [Nat.div_lt_iff_lt_mul (by omega)]; rw [Nat.pow_succ] at hlt; exact hlt)]
      · rw [List.range_succ, List.map_append]
        congr 1
        · apply List.map_congr_left
          intro j hj
          have hj' : j < L := by simpa using hj
          rw [Nat.div_div_eq_div_mul, ← Nat.pow_succ']
          have : L - 1 - j + 1 = L + 1 - 1 - j := by omega
          rw [Nat.succ_eq_add_one, this]
        · simp
      · by_cases h1 : L = 1
        · exact .inl h1
        · refine .inr ?_
          rw [Nat.le_div_iff_mul_le (by omega), ← Nat.pow_succ]
          have : (L - 1).succ = L := by omega
          rw [this]; exact hge'

theorem dg_lt (b : Nat) (hb : 2 ≤ b) : ∀ (n : Nat), ∀ d ∈ dg b n, d < b := by
  intro n
  induction n using Nat.strongRecOn with
  | ind n ih =>
    rw [dg]
    by_cases h : b < 2 ∨ n < b
    · rw [dif_pos h]; intro d hd; simp at hd; omega
    · rw [dif_neg h]
      intro d hd
      rw [List.mem_append] at hd
      rcases hd with hd | hd
      · exact ih (n / b) (Nat.div_lt_self (by omega) (by omega)) d hd
      · simp at hd; rw [hd]; exact Nat.mod_lt _ (by omega)

/-- A number's bytes. -/
def putB (n : Nat) : List UInt8 := (if n < 128 then [] else (dg 128 (n / 128)).map fun d => UInt8.ofNat (d + 128)) ++ [UInt8.ofNat (n % 128)]
/-- A number's decimals. -/
def decB (n : Nat) : List UInt8 := (dg 10 n).map fun d => UInt8.ofNat (d + 48)

/-- The cells of which the first k are marked. -/
def pcells (a n b L k : Nat) : Array Value := ((List.range L).map fun j => Value.int .u8 (if j < k then ((n / b ^ (L - 1 - j) % b + a : Nat) : Int) else ((n / b ^ (L - 1 - j) % b : Nat) : Int))).toArray

theorem pcells_zero (a n b L : Nat) : pcells a n b L 0 = dcells b n L L := by
  unfold pcells dcells
  congr 1
  apply List.map_congr_left
  intro j hj
  rw [if_neg (by omega), if_pos (by omega)]

theorem pcells_at (a n b L k i : Nat) (h : i < L) : (pcells a n b L k)[i]? = some (.int .u8 (if i < k then ((n / b ^ (L - 1 - i) % b + a : Nat) : Int) else ((n / b ^ (L - 1 - i) % b : Nat) : Int))) := by
  simp [pcells, h]

theorem pcells_set (a n b L k : Nat) (h : k < L) : (pcells a n b L k).setIfInBounds k (.int .u8 ((n / b ^ (L - 1 - k) % b + a : Nat) : Int)) = pcells a n b L (k + 1) := by
  apply Array.ext
  · simp [pcells]
  · intro i h1 h2
    have hi : i < L := by simpa [pcells] using h2
    rw [Array.getElem_setIfInBounds (by simpa [pcells] using hi)]
    by_cases he : k = i
    · subst he
      simp [pcells]
    · rw [if_neg he]
      have : (i < k) ↔ (i < k + 1) := by omega
      simp [pcells, this]

theorem u8_ofNat (d : Nat) (h : d < 256) : (UInt8.ofNat d).toNat = d := by simp [UInt8.toNat_ofNat']; omega

theorem pcells_dec (n L : Nat) (h1 : 1 ≤ L) (hlt : n < 10 ^ L) (hge : L = 1 ∨ 10 ^ (L - 1) ≤ n) : pcells 48 n 10 L L = bcells (decB n) := by
  unfold pcells bcells decB
  rw [dg_eq 10 (by omega) L n h1 hlt hge, List.map_map, List.map_map]
  congr 1
  apply List.map_congr_left
  intro j hj
  have hj' : j < L := by simpa using hj
  have := Nat.mod_lt (n / 10 ^ (L - 1 - j)) (by omega : 10 > 0)
  simp only [Function.comp, if_pos hj']
  rw [u8, u8_ofNat _ (by omega)]

theorem decB_length (n L : Nat) (h1 : 1 ≤ L) (hlt : n < 10 ^ L) (hge : L = 1 ∨ 10 ^ (L - 1) ≤ n) : (decB n).length = L := by
  have h := congrArg Array.size (pcells_dec n L h1 hlt hge)
  rw [bcells_size] at h
  rw [← h]; simp [pcells]

end Go.Proofs.YtekobdmlgbffnaaGreatDoor

/- Greater numbers have greater bytes, or more: plain mathematics. -/
namespace Go.Proofs.YtekobdmlgbffnaaGreatDoor
set_option linter.unusedVariables false
set_option maxRecDepth 100000
set_option linter.unusedSimpArgs false

theorem dg_small {b x : Nat} (h : x < b) : dg b x = [x] := by rw [dg, dif_pos (.inr h)]
theorem dg_big {b x : Nat} (hb : 2 ≤ b) (h : ¬ x < b) : dg b x = dg b (x / b) ++ [x % b] := by
  rw [dg, dif_neg (by omega)]

/-- Fewer, or as many and less. -/
def slx (a b : List UInt8) : Bool := decide (a.length < b.length) || (a.length == b.length && Op.bytesLess a b)

section
variable (b : Nat) (hb : 2 ≤ b) (f g : Nat → UInt8) (hf : ∀ x y, x < b → y < b → (f x < f y ↔ x < y)) (hg : ∀ x y, x < b → y < b → (g x < g y ↔ x < y))
include hb hf

include hg

end

/-- A text of its bytes. -/
def bs (l : List UInt8) : ByteArray := ⟨l.toArray⟩
theorem bs_list (l : List UInt8) : (bs l).toList = l := by rw [ByteArray.toList_eq]; simp [bs]
theorem bs_size (l : List UInt8) : (bs l).size = l.length := by simp [bs, ByteArray.size]
theorem bs_inj {a b : List UInt8} (h : bs a = bs b) : a = b := by rw [← bs_list a, ← bs_list b, h]
theorem bs_of (s : ByteArray) : bs s.data.toList = s := by cases s; simp [bs]
theorem bs_data (l : List UInt8) : (bs l).data.toList = l := by simp [bs]

theorem dg_len (b : Nat) (hb : 2 ≤ b) : ∀ n, (dg b n).length ≤ n + 1 := by
  intro n
  induction n using Nat.strongRecOn with
  | ind n ih =>
    by_cases h : n < b
    · rw [dg_small h]; simp
    · have := ih (n / b) (Nat.div_lt_self (by omega) (by omega))
      have h2 : n / b < n := Nat.div_lt_self (by omega) (by omega)
      rw [dg_big hb h, List.length_append]; simp; omega
theorem decB_len (x : Nat) (hx : x ≤ 1099511627776) : (decB x).length ≤ 140737488355328 := by
  have := dg_len 10 (by omega) x
  unfold decB; rw [List.length_map]; omega
end Go.Proofs.YtekobdmlgbffnaaGreatDoor

/- Numbers of their digits, the highest first: plain mathematics. -/
namespace Go.Proofs.YtekobdmlgbffnaaGreatDoor
set_option linter.unusedVariables false
set_option maxRecDepth 100000
set_option linter.unusedSimpArgs false

theorem numS_no {b : Nat} {st : Nat → Nat × Bool × Bool} {f k n : Nat} (h : (st k).2.2 = false) : numS b st (f + 1) k n = none := by
  simp [numS, h]
theorem numS_last {b : Nat} {st : Nat → Nat × Bool × Bool} {f k n d : Nat} (h : st k = (d, true, true)) (hm : n * b + d ≤ 1099511627776) : numS b st (f + 1) k n = some (n * b + d, k + 1) := by
  simp [numS, h]; omega
theorem numS_more {b : Nat} {st : Nat → Nat × Bool × Bool} {f k n d : Nat} (h : st k = (d, false, true)) (hm : n * b + d ≤ 1099511627776) (h0 : n * b + d ≠ 0) : numS b st (f + 1) k n = numS b st f (k + 1) (n * b + d) := by
  simp only [numS, h]
  rw [if_neg (by simp), if_neg (by rintro (h1 | ⟨h1, _⟩); omega; exact h0 h1), if_neg (by simp)]

theorem numS_big' {b : Nat} {st : Nat → Nat × Bool × Bool} {f k n d : Nat} {last : Bool} (h : st k = (d, last, true)) (hm : 1099511627776 < n * b + d) : numS b st (f + 1) k n = none := by
  simp only [numS, h]
  rw [if_neg (by simp), if_pos (.inl hm)]
theorem numS_zero' {b : Nat} {st : Nat → Nat × Bool × Bool} {f k n d : Nat} (h : st k = (d, false, true)) (hm : n * b + d = 0) : numS b st (f + 1) k n = none := by
  simp [numS, h, hm]

/-- What digits come to. -/
def fold (b n : Nat) (ds : List Nat) : Nat := ds.foldl (fun n d => n * b + d) n
def hiD (b n : Nat) : List Nat := if n < b then [] else dg b (n / b)
theorem dg_step (b n d : Nat) (hb : 2 ≤ b) (hd : d < b) (hn : 1 ≤ n) : dg b (n * b + d) = dg b n ++ [d] := by
  have h1 : 1 * b ≤ n * b := Nat.mul_le_mul_right b hn
  have h2 : (n * b + d) / b = n := by rw [Nat.mul_comm, Nat.mul_add_div (by omega), Nat.div_eq_of_lt hd]; omega
  have h3 : (n * b + d) % b = d := by rw [Nat.mul_comm, Nat.mul_add_mod]; exact Nat.mod_eq_of_lt hd
  rw [dg_big hb (by omega), h2, h3]

theorem ofNat_toNat_eq (c : UInt8) (d : Nat) (h : c.toNat = d) : c = UInt8.ofNat d := by rw [← h]; simp

end Go.Proofs.YtekobdmlgbffnaaGreatDoor

/- There and back, of decimals: plain mathematics. -/
namespace Go.Proofs.YtekobdmlgbffnaaGreatDoor
set_option linter.unusedVariables false
set_option maxRecDepth 100000
set_option linter.unusedSimpArgs false

/-! ### Decimals -/

theorem stP_at (s : ByteArray) (k : Nat) (h : k < s.size) : stP s k = ((s[k]).toNat - 48, decide (k + 1 = s.size), decide (48 ≤ (s[k]).toNat ∧ (s[k]).toNat ≤ 57)) := by simp [stP, h]
theorem stP_end (s : ByteArray) (k : Nat) (h : ¬ k < s.size) : stP s k = (0, true, false) := by simp [stP, h]

theorem par_inv (s : ByteArray) : ∀ (f k n r m : Nat), ((k = 0 ∧ n = 0) ∨ (1 ≤ n ∧ k ≤ s.size ∧ s.data.toList.take k = decB n)) → numS 10 (stP s) f k n = some (r, m) →
    r ≤ 1099511627776 ∧ s.data.toList = decB r := by
  intro f
  induction f with
  | zero => intro k n r m _ h; cases h
  | succ f ih =>
    intro k n r m hI h
    by_cases hk : k < s.size
    · have hst := stP_at s k hk
      have hk2 : k < s.data.toList.length := hk
      have ht : s.data.toList.take (k + 1) = s.data.toList.take k ++ [s.data.toList[k]] := List.take_succ_eq_append_getElem hk2
      have hsk : s.data.toList[k] = s[k] := by
        show s.data.toList[k] = s.data[k]
        simp
      rw [hsk] at ht
      generalize hv : (s[k]).toNat = v at hst
      by_cases hdig : 48 ≤ v ∧ v ≤ 57
      · rw [decide_eq_true hdig] at hst
        have hc : s[k] = UInt8.ofNat ((v - 48) + 48) := by rw [ofNat_toNat_eq _ _ hv]; congr 1; omega
        rw [hc] at ht
        by_cases hbig : 1099511627776 < n * 10 + (v - 48) ∨ (n * 10 + (v - 48) = 0 ∧ decide (k + 1 = s.size) = false)
        · simp only [numS, hst] at h
          rw [if_neg (by simp), if_pos hbig] at h
          cases h
        · have hle : n * 10 + (v - 48) ≤ 1099511627776 := by
            rcases Nat.lt_or_ge 1099511627776 (n * 10 + (v - 48)) with h1 | h1
            · exact absurd (.inl h1) hbig
            · exact h1
          have hnew : s.data.toList.take (k + 1) = decB (n * 10 + (v - 48)) := by
            rw [ht]
            rcases hI with ⟨rfl, rfl⟩ | ⟨hn1, _, htk⟩
            · rw [decB, dg_small (by omega)]; simp
            · rw [htk, decB, decB, dg_step 10 n (v - 48) (by omega) (by omega) hn1, List.map_append]; rfl
          by_cases hlast : k + 1 = s.size
          · rw [decide_eq_true hlast] at hst
            rw [numS_last hst hle] at h
            injection h with h
            injection h with h1 h2
            subst h1
            refine ⟨hle, ?_⟩
            rw [← hnew, List.take_of_length_le]
            show s.size ≤ k + 1
            omega
          · rw [decide_eq_false hlast] at hst
            have hne : n * 10 + (v - 48) ≠ 0 := fun h0 => hbig (.inr ⟨h0, decide_eq_false hlast⟩)
            rw [numS_more hst hle hne] at h
            exact ih (k + 1) _ r m (.inr ⟨by omega, by omega, hnew⟩) h
      · rw [decide_eq_false hdig] at hst
        rw [numS_no (by rw [hst])] at h
        cases h
    · rw [numS_no (by rw [stP_end _ _ hk])] at h
      cases h

theorem parse_is (s : ByteArray) (z k : Nat) (h : parseS s = some (z, k)) : z ≤ 1099511627776 ∧ s = bs (decB z) := by
  obtain ⟨h1, h2⟩ := par_inv s _ 0 0 z k (.inl ⟨rfl, rfl⟩) h
  refine ⟨h1, ?_⟩
  rw [← h2]
  cases s; simp [bs]

end Go.Proofs.YtekobdmlgbffnaaGreatDoor

/- Names, addresses, nets: plain mathematics. -/
namespace Go.Proofs.YtekobdmlgbffnaaGreatDoor
set_option linter.unusedVariables false
set_option maxRecDepth 100000
set_option linter.unusedSimpArgs false

/-! ### Texts cut at a mark -/

/-- What stands ahead of a byte, what behind it, whether there is one. -/
def cutL (c : UInt8) : List UInt8 → List UInt8 × List UInt8 × Bool
  | [] => ([], [], false)
  | x :: r => if x = c then ([], r, true) else (x :: (cutL c r).1, (cutL c r).2.1, (cutL c r).2.2)

def piecesL (c : UInt8) : List UInt8 → List (List UInt8)
  | [] => [[]]
  | x :: r => if x = c then [] :: piecesL c r else
    match piecesL c r with
    | [] => [[x]]
    | p :: ps => (x :: p) :: ps

def joinL (c : UInt8) : List (List UInt8) → List UInt8
  | [] => []
  | [p] => p
  | p :: q :: ps => p ++ c :: joinL c (q :: ps)

theorem cutL_join (c : UInt8) : ∀ l, ((cutL c l).2.2 = true → l = (cutL c l).1 ++ c :: (cutL c l).2.1) ∧ ((cutL c l).2.2 = false → l = (cutL c l).1 ∧ (cutL c l).2.1 = [])
  | [] => by simp [cutL]
  | x :: r => by
    obtain ⟨h1, h2⟩ := cutL_join c r
    unfold cutL
    by_cases hx : x = c
    · simp [hx]
    · simp only [if_neg hx]
      refine ⟨fun h => by rw [List.cons_append, ← h1 h], fun h => ⟨by rw [← (h2 h).1], (h2 h).2⟩⟩
theorem cutL_lt (c : UInt8) (l : List UInt8) (h : (cutL c l).2.2 = true) : (cutL c l).2.1.length < l.length := by
  have := congrArg List.length ((cutL_join c l).1 h)
  rw [List.length_append, List.length_cons] at this
  omega
theorem cutL_len (c : UInt8) (l : List UInt8) : (cutL c l).1.length ≤ l.length ∧ (cutL c l).2.1.length ≤ l.length := by
  cases h : (cutL c l).2.2
  · obtain ⟨h1, h2⟩ := (cutL_join c l).2 h
    exact ⟨Nat.le_of_eq (congrArg List.length h1).symm, by rw [h2]; simp⟩
  · have := congrArg List.length ((cutL_join c l).1 h)
    rw [List.length_append, List.length_cons] at this
    omega
theorem cutL_hit (c : UInt8) : ∀ (p r : List UInt8), c ∉ p → cutL c (p ++ c :: r) = (p, r, true)
  | [], r, _ => by simp [cutL]
  | x :: p, r, h => by
    rw [List.mem_cons, not_or] at h
    have hx : ¬ x = c := fun e => h.1 e.symm
    rw [List.cons_append, cutL, if_neg hx, cutL_hit c p r h.2]
theorem cutL_miss (c : UInt8) : ∀ p : List UInt8, c ∉ p → cutL c p = (p, [], false)
  | [], _ => rfl
  | x :: p, h => by
    rw [List.mem_cons, not_or] at h
    have hx : ¬ x = c := fun e => h.1 e.symm
    rw [cutL, if_neg hx, cutL_miss c p h.2]

theorem pieces_cut (c : UInt8) : ∀ l, piecesL c l = (cutL c l).1 :: (if (cutL c l).2.2 = true then piecesL c (cutL c l).2.1 else [])
  | [] => by simp [cutL, piecesL]
  | x :: r => by
    have ih := pieces_cut c r
    rw [cutL, piecesL]
    by_cases hx : x = c
    · simp [hx]
    · simp only [if_neg hx]
      rw [ih]
theorem pieces_join (c : UInt8) : ∀ l, joinL c (piecesL c l) = l
  | [] => rfl
  | x :: r => by
    have ih := pieces_join c r
    unfold piecesL
    by_cases hx : x = c
    · rw [if_pos hx]
      have hp := pieces_cut c r
      rw [hp] at ih ⊢
      rw [joinL, ih, hx]; rfl
    · rw [if_neg hx]
      cases hp : piecesL c r with
      | nil => rw [pieces_cut] at hp; cases hp
      | cons p ps =>
        rw [hp] at ih
        cases ps with
        | nil => show x :: p = _; rw [show p = r from ih]
        | cons q ps => show (x :: p) ++ c :: joinL c (q :: ps) = _; rw [← ih]; rfl
theorem pieces_small (c : UInt8) (l : List UInt8) : ∀ p ∈ piecesL c l, p.length ≤ l.length := by
  induction hn : l.length using Nat.strongRecOn generalizing l with
  | _ n ih =>
    intro p hp
    rw [pieces_cut] at hp
    rcases List.mem_cons.1 hp with rfl | hp
    · have := (cutL_len c l).1; omega
    · cases hm : (cutL c l).2.2
      · rw [hm] at hp; simp at hp
      · rw [hm, if_pos rfl] at hp
        have := cutL_lt c l hm
        have := ih _ (by omega) (cutL c l).2.1 rfl p hp
        omega

theorem pieces_len (c : UInt8) : ∀ l, (piecesL c l).length ≤ l.length + 1
  | [] => by simp [piecesL]
  | x :: r => by
    have ih := pieces_len c r
    have hc := pieces_cut c r
    rw [piecesL]
    by_cases hx : x = c
    · rw [if_pos hx, List.length_cons, List.length_cons]; omega
    · rw [if_neg hx, hc]
      rw [hc] at ih
      simp only [List.length_cons] at ih ⊢
      omega

/-- What the library's search makes of it. -/
theorem cutL_index (c : UInt8) : ∀ l : List UInt8, (Go.Lib.indexByte l c = -1 ∧ cutL c l = (l, [], false)) ∨ ∃ i : Nat, Go.Lib.indexByte l c = (i : Int) ∧ i < l.length ∧ cutL c l = (l.take i, l.drop (i + 1), true)
  | [] => .inl ⟨by simp [Go.Lib.indexByte], rfl⟩
  | x :: r => by
    unfold cutL Go.Lib.indexByte
    by_cases hx : x = c
    · exact .inr ⟨0, by simp [hx], by simp, by simp [hx]⟩
    · rcases cutL_index c r with ⟨h1, h2⟩ | ⟨i, h1, h2, h3⟩
      · exact .inl ⟨by simp [hx, h1], by simp [hx, h2]⟩
      · refine .inr ⟨i + 1, ?_, by simp; omega, by simp [hx, h3]⟩
        have e : ((i : Int) == -1) = false := by simp
        simp [hx, h1, e]

/-! ### Numbers up to a greatest one -/

def upToO (top : Nat) (p : ByteArray) : Option Nat := match parseS p with
  | some (n, _) => if n ≤ top then some n else none
  | none => none

theorem upToO_is (top n : Nat) (p : ByteArray) (h : upToO top p = some n) : n ≤ top ∧ p = bs (decB n) := by
  unfold upToO at h
  cases hp : parseS p with
  | none => rw [hp] at h; cases h
  | some x =>
    obtain ⟨m, k⟩ := x
    rw [hp] at h
    simp only at h
    by_cases hm : m ≤ top
    · rw [if_pos hm] at h
      obtain rfl : m = n := by injection h
      exact ⟨hm, (parse_is p m k hp).2⟩
    · rw [if_neg hm] at h; cases h


theorem dec_digit (n : Nat) (c : UInt8) (h : c ∈ decB n) : 48 ≤ c.toNat ∧ c.toNat ≤ 57 := by
  unfold decB at h
  obtain ⟨d, hd, rfl⟩ := List.mem_map.1 h
  have := dg_lt 10 (by omega) n d hd
  rw [u8_ofNat _ (by omega)]; omega
theorem dec_no (n : Nat) (c : UInt8) (h : c.toNat < 48) : c ∉ decB n := fun hc => by have := dec_digit n c hc; omega

/-! ### Addresses -/

def dotsB (a : Nat) : List UInt8 := joinL 46 [decB (a / 16777216 % 256), decB (a / 65536 % 256), decB (a / 256 % 256), decB (a % 256)]

def addrL : List (Option Nat) → Option Nat
  | [some a, some b, some c, some d] => some (((a * 256 + b) * 256 + c) * 256 + d)
  | _ => none
def addrO (s : ByteArray) : Option Nat := addrL ((piecesL 46 s.data.toList).map fun p => upToO 255 (bs p))

theorem addrL_some {l : List (Option Nat)} {v : Nat} (h : addrL l = some v) : ∃ a b c d, l = [some a, some b, some c, some d] ∧ v = ((a * 256 + b) * 256 + c) * 256 + d := by
  unfold addrL at h
  split at h
  · injection h with h; exact ⟨_, _, _, _, rfl, h.symm⟩
  · cases h

theorem addr_is (s : ByteArray) (v : Nat) (h : addrO s = some v) : v < 4294967296 ∧ s = bs (dotsB v) := by
  obtain ⟨a, b, c, d, hl, hv⟩ := addrL_some h
  have hlen := congrArg List.length hl
  rw [List.length_map] at hlen
  match hp : piecesL 46 s.data.toList, hlen with
  | [p, q, r, t], _ =>
    rw [hp] at hl
    simp only [List.map_cons, List.map_nil, List.cons.injEq, and_true] at hl
    obtain ⟨h1, h2, h3, h4⟩ := hl
    obtain ⟨k1, e1⟩ := upToO_is _ _ _ h1
    obtain ⟨k2, e2⟩ := upToO_is _ _ _ h2
    obtain ⟨k3, e3⟩ := upToO_is _ _ _ h3
    obtain ⟨k4, e4⟩ := upToO_is _ _ _ h4
    refine ⟨by omega, ?_⟩
    have hj := pieces_join 46 s.data.toList
    rw [hp, bs_inj e1, bs_inj e2, bs_inj e3, bs_inj e4] at hj
    rw [← bs_of s, ← hj]
    unfold dotsB
    rw [show v / 16777216 % 256 = a by omega, show v / 65536 % 256 = b by omega, show v / 256 % 256 = c by omega, show v % 256 = d by omega]

/-! ### Nets -/

/-- An address with 0 behind its first bits. -/
def firstN (bits a : Nat) : Nat := a / 2 ^ (32 - bits) * 2 ^ (32 - bits)
def rightB (a : Nat) (bits : Int) : Bool := decide (0 ≤ bits) && decide (bits ≤ 32) && decide (firstN bits.toNat a = a)
def inB (n : Nat) (bits : Int) (a : Nat) : Bool := rightB n bits && decide (firstN bits.toNat a = n)
def slashL (a : Nat) (bits : Int) : List UInt8 := if rightB a bits = true then dotsB a ++ 47 :: decB bits.toNat else []
def netL : List (List UInt8) → Option (Nat × Nat)
  | [x, y] => match addrO (bs x), upToO 32 (bs y) with
    | some a, some b => if rightB a b = true then some (a, b) else none
    | _, _ => none
  | _ => none
def netO (s : ByteArray) : Option (Nat × Nat) := netL (piecesL 47 s.data.toList)

theorem net_is (s : ByteArray) (a b : Nat) (h : netO s = some (a, b)) : a < 4294967296 ∧ b ≤ 32 ∧ rightB a b = true ∧ s = bs (slashL a b) := by
  unfold netO at h
  have hj := pieces_join 47 s.data.toList
  match hp : piecesL 47 s.data.toList, h with
  | [x, y], h =>
    rw [hp] at hj
    simp only [netL] at h
    cases h1 : addrO (bs x) with
    | none => rw [h1] at h; cases h
    | some a' =>
      cases h2 : upToO 32 (bs y) with
      | none => rw [h1, h2] at h; cases h
      | some b' =>
        rw [h1, h2] at h
        simp only at h
        by_cases hr : rightB a' b' = true
        · rw [if_pos hr] at h
          injection h with h
          injection h with e1 e2
          subst e1; subst e2
          obtain ⟨k1, q1⟩ := addr_is _ _ h1
          obtain ⟨k2, q2⟩ := upToO_is _ _ _ h2
          refine ⟨k1, k2, hr, ?_⟩
          rw [← bs_of s, ← hj]
          unfold slashL
          rw [if_pos hr, bs_inj q1, bs_inj q2]; rfl
        · rw [if_neg hr] at h; cases h

/-! ### What the loops keep -/

def ixs : Nat → List (List UInt8) → List (Nat × ByteArray)
  | _, [] => []
  | k, p :: ps => (k, bs p) :: ixs (k + 1) ps
theorem ixs_len : ∀ (ps : List (List UInt8)) (k : Nat), (ixs k ps).length = ps.length
  | [], _ => rfl
  | p :: ps, k => by rw [ixs, List.length_cons, ixs_len ps, List.length_cons]
def okA (x : Nat × ByteArray) : Bool := (upToO 255 x.2).isSome && !decide (x.1 = 4)
def stA (s : Nat × Nat) (x : Nat × ByteArray) : Nat × Nat := ((s.1 * 256 + (upToO 255 x.2).getD 0) % 4294967296, x.1)
def fA (xs : List (Nat × ByteArray)) : Nat × Nat := xs.foldl stA (0, 0)
theorem fA_snoc (xs : List (Nat × ByteArray)) (x : Nat × ByteArray) : fA (xs ++ [x]) = stA (fA xs) x := by simp [fA]

theorem opt_some {o : Option Nat} (h : o.isSome = true) : ∃ n, o = some n := by cases o <;> simp_all

theorem okA_all {ps : List (List UInt8)} {v : Nat} (h : addrL (ps.map fun p => upToO 255 (bs p)) = some v) : ∀ x ∈ ixs 0 ps, okA x = true := by
  obtain ⟨a, b, c, d, hl, _⟩ := addrL_some h
  have hlen := congrArg List.length hl
  rw [List.length_map] at hlen
  match ps, hlen with
  | [p, q, r, t], _ =>
    simp only [List.map_cons, List.map_nil, List.cons.injEq, and_true] at hl
    obtain ⟨h1, h2, h3, h4⟩ := hl
    intro x hx
    simp only [ixs, List.mem_cons, List.not_mem_nil, or_false] at hx
    rcases hx with rfl | rfl | rfl | rfl <;> simp [okA, h1, h2, h3, h4]

theorem A_done (ps : List (List UInt8)) (h : ∀ x ∈ ixs 0 ps, okA x = true) : addrL (ps.map fun p => upToO 255 (bs p)) = if (fA (ixs 0 ps)).2 = 3 then some (fA (ixs 0 ps)).1 else none := by
  match ps with
  | [] => rfl
  | [p] => simp [ixs, fA, stA, addrL]
  | [p, q] => simp [ixs, fA, stA, addrL]
  | [p, q, r] => simp [ixs, fA, stA, addrL]
  | [p, q, r, t] =>
    have g : ∀ x ∈ [p, q, r, t], ∃ n, upToO 255 (bs x) = some n ∧ n ≤ 255 := by
      intro x hx
      have : (upToO 255 (bs x)).isSome = true := by
        simp only [ixs, List.mem_cons, List.not_mem_nil, or_false, forall_eq_or_imp, forall_eq, okA, Bool.and_eq_true] at h hx
        rcases hx with rfl | rfl | rfl | rfl
        · exact h.1.1
        · exact h.2.1.1
        · exact h.2.2.1.1
        · exact h.2.2.2.1
      obtain ⟨n, hn⟩ := opt_some this
      exact ⟨n, hn, (upToO_is _ _ _ hn).1⟩
    obtain ⟨a, h1, k1⟩ := g p (by simp)
    obtain ⟨b, h2, k2⟩ := g q (by simp)
    obtain ⟨c, h3, k3⟩ := g r (by simp)
    obtain ⟨d, h4, k4⟩ := g t (by simp)
    simp [ixs, fA, stA, addrL, h1, h2, h3, h4]
    omega
  | p :: q :: r :: t :: u :: ps =>
    have := h (4, bs u) (by simp [ixs])
    simp [okA] at this

theorem A_stop (ps : List (List UInt8)) (pre : List (Nat × ByteArray)) (hp : pre <+: ixs 0 ps) (x : Nat × ByteArray) (hx : x ∈ pre) (hb : okA x = false) : addrL (ps.map fun p => upToO 255 (bs p)) = none := by
  cases h : addrL (ps.map fun p => upToO 255 (bs p)) with
  | none => rfl
  | some v =>
    have := okA_all h x (hp.subset hx)
    rw [hb] at this; cases this

/-- The net's loop: what is right of the pieces that came. -/
def okN (x : Nat × ByteArray) : Bool := match x.1 with
  | 0 => (addrO x.2).isSome
  | 1 => (upToO 32 x.2).isSome
  | _ => false
structure StN where
  addr : Nat
  bits : Nat
  last : Nat
def stN (s : StN) (x : Nat × ByteArray) : StN := match x.1 with
  | 0 => ⟨(addrO x.2).getD 0, s.bits, 0⟩
  | 1 => ⟨s.addr, (upToO 32 x.2).getD 0, 1⟩
  | n + 2 => ⟨s.addr, s.bits, n + 2⟩
def fN (xs : List (Nat × ByteArray)) : StN := xs.foldl stN ⟨0, 0, 0⟩
theorem fN_snoc (xs : List (Nat × ByteArray)) (x : Nat × ByteArray) : fN (xs ++ [x]) = stN (fN xs) x := by simp [fN]

theorem N_done (ps : List (List UInt8)) (h : ∀ x ∈ ixs 0 ps, okN x = true) : netL ps = if (fN (ixs 0 ps)).last = 1 ∧ rightB (fN (ixs 0 ps)).addr (fN (ixs 0 ps)).bits = true then some ((fN (ixs 0 ps)).addr, (fN (ixs 0 ps)).bits) else none := by
  match ps with
  | [] => simp [netL, fN, ixs]
  | [p] => simp [netL, fN, ixs, stN]
  | [p, q] =>
    have h1 := h (0, bs p) (by simp [ixs])
    have h2 := h (1, bs q) (by simp [ixs])
    simp only [okN] at h1 h2
    obtain ⟨a, ha⟩ := opt_some h1
    obtain ⟨b, hb⟩ := opt_some h2
    simp [netL, fN, ixs, stN, ha, hb]
  | p :: q :: r :: ps =>
    have := h (2, bs r) (by simp [ixs])
    simp [okN] at this
theorem N_stop (ps : List (List UInt8)) (pre : List (Nat × ByteArray)) (hp : pre <+: ixs 0 ps) (x : Nat × ByteArray) (hx : x ∈ pre) (hb : okN x = false) : netL ps = none := by
  have hm := hp.subset hx
  match ps with
  | [] => simp [netL]
  | [p] => simp [netL]
  | [p, q] =>
    simp only [ixs, List.mem_cons, List.not_mem_nil, or_false] at hm
    rcases hm with rfl | rfl
    · simp only [okN] at hb
      have : addrO (bs p) = none := by cases h : addrO (bs p) <;> simp_all
      simp [netL, this]
    · simp only [okN] at hb
      have : upToO 32 (bs q) = none := by cases h : upToO 32 (bs q) <;> simp_all
      simp [netL, this]
  | p :: q :: r :: ps => simp [netL]

end Go.Proofs.YtekobdmlgbffnaaGreatDoor

/- Regions that draw their order: a stronger condition on worlds may be taken up on the way. Nothing of the program is named here. -/
namespace Go.Proofs.YtekobdmlgbffnaaGreatDoor
set_option linter.unusedVariables false
set_option maxRecDepth 100000
set_option linter.unusedSimpArgs false

/-- 'wpAnyH_take', the operation's own place said outright. -/
theorem take_at {P : Program} {md : Region.Mode} {ops : Array Oper} {Q : Exit → Act → World → Prop} {S : World → Prop} (d : Option Tmp) {i : Nat} {oi : Oper} {v : Value} {fuel : Nat} {listed : Array Bool} {a : Act} {w : World} (hi : ops[i]? = some oi)
    (hd : oi.dst = d) (hs : Region.noSelect ops = true) (hf : Region.free md ops listed i = true) (hr : (Region.ready md ops listed).contains i = true)
    (hQ : ∀ c a w, Q (.panic c) (a.put oi.dst v) w → Q (.panic c) a w) (hy : YieldsIf P ops S oi v a) (hS : S w)
    (h : wpAnyH P md ops Q S fuel (listed.setIfInBounds i true) (a.put d v) w) : wpAnyH P md ops Q S (fuel + 1) listed a w := by
  subst hd
  exact wpAnyH_take hi hs hf hr hQ hy hS h

end Go.Proofs.YtekobdmlgbffnaaGreatDoor

/- syntax: first, right, In, upTo: their contracts. -/
namespace Go.Proofs.YtekobdmlgbffnaaGreatDoor
set_option linter.unusedVariables false
set_option maxRecDepth 100000
set_option linter.unusedSimpArgs false
open Go.RowKit

theorem firstN_le (bits a : Nat) : firstN bits a ≤ a := Nat.div_mul_le_self _ _
theorem first_cast (bits a : Nat) (ha : a < 4294967296) : (a : Int) / 2 ^ (32 - bits) * 2 ^ (32 - bits) % 4294967296 = (firstN bits a : Int) := by
  have h := firstN_le bits a
  have e : (a : Int) / 2 ^ (32 - bits) * 2 ^ (32 - bits) = ((firstN bits a : Nat) : Int) := by simp [firstN]
  rw [e]; omega

set_option maxHeartbeats 400000 in
theorem first_ok (bits a : Nat) (w : World) (hb : bits ≤ 32) (ha : a < 4294967296) :
    Calls Tryz.prog 119 #[.int .i64 bits, .int .u32 a] w fun e w' => e = .returned (.int .u32 (firstN bits a)) ∧ w = w' := by
  go_enter Tryz.func119, Tryz.ntmps119
  go_wp2
  rw [first_cast bits a ha]
  go_ret
  exact ⟨rfl, rfl⟩
theorem first_q (bits a : Nat) (w : World) (hb : bits ≤ 32) (ha : a < 4294967296) :
    Calls Tryz.prog 119 #[.int .i64 bits, .int .u32 a] w fun e w' => e = .returned (.int .u32 (firstN bits a)) ∧ ∃ m, w' = w.drewN m :=
  (first_ok bits a w hb ha).mono fun e w' ⟨h1, h2⟩ => ⟨h1, 0, h2.symm⟩

set_option maxHeartbeats 400000 in
theorem upTo_ok (top : Nat) (s : ByteArray) (w : World) (ht : top ≤ 255) (hl : s.size ≤ 140737488355328) :
    Calls Tryz.prog 132 #[.int .i64 top, .string s] w fun e w' => e = .returned (.tuple #[.int .i64 ((upToO top s).getD 0), .bool (upToO top s).isSome]) ∧ Below w.heap.size w w' := by
  have hp := parse_ok s w hl
  cases hr : parseS s with
  | none =>
    have hu : upToO top s = none := by simp [upToO, hr]
    rw [hr] at hp
    rw [hu]
    clear hu hr
    go_enter Tryz.func132, Tryz.ntmps132
    go_wp2_with fail
    refine hp.mono ?_
    rintro e w1 ⟨rfl, hb1⟩
    clear hp
    simp only [parE]
    go_wp2
    go_ret2
    exact ⟨rfl, hb1⟩
  | some x =>
    obtain ⟨n, k⟩ := x
    rw [hr] at hp
    have hn := (parse_is s n k hr).1
    by_cases hle : n ≤ top
    · have hu : upToO top s = some n := by simp [upToO, hr, hle]
      rw [hu]
      clear hu hr
      go_enter Tryz.func132, Tryz.ntmps132
      go_wp2_with fail
      refine hp.mono ?_
      rintro e w1 ⟨rfl, hb1⟩
      clear hp
      simp only [parE]
      go_wp2
      go_ret2
      exact ⟨rfl, hb1⟩
    · have hu : upToO top s = none := by simp [upToO, hr, hle]
      rw [hu]
      clear hu hr
      go_enter Tryz.func132, Tryz.ntmps132
      go_wp2_with fail
      refine hp.mono ?_
      rintro e w1 ⟨rfl, hb1⟩
      clear hp
      simp only [parE]
      go_wp2
      go_ret2
      exact ⟨rfl, hb1⟩

theorem cast_eq (x y : Nat) : ((x : Int) == (y : Int)) = decide (x = y) := by
  by_cases h : x = y
  · subst h; simp
  · rw [decide_eq_false h, beq_eq_false_iff_ne]; omega

set_option maxHeartbeats 1000000 in
theorem netright_ok (a : Nat) (bits : Int) (w : World) (ha : a < 4294967296) :
    Calls Tryz.prog 91 #[.agg #[.int .u32 a, .int .i64 bits]] w fun e w' => e = .returned (.bool (rightB a bits)) ∧ Below w.heap.size w w' := by
  have hbel : ∀ n, Below w.heap.size w ((w.alloc (.cells #[.int .u32 a, .int .i64 bits] 85)).drewN n) := fun n => below_drewN ((Below.refl _ _).alloc (Nat.le_refl _) _) n
  have HB := Lib.hid hbel
  clear hbel
  by_cases h0 : 0 ≤ bits
  · by_cases h1 : bits ≤ 32
    · obtain ⟨b, rfl⟩ := Int.eq_ofNat_of_zero_le h0
      have hb : b ≤ 32 := by omega
      have hr : rightB a b = decide (firstN b a = a) := by
        have e1 : decide ((0 : Int) ≤ (b : Int)) = true := by simp
        have e2 : decide ((b : Int) ≤ 32) = true := by simp; omega
        unfold rightB
        rw [e1, e2]; simp
      rw [hr]
      clear hr h0
      have hd1 : decide ((0 : Int) ≤ (b : Int)) = true := by simp
      have hd2 : decide ((b : Int) ≤ 32) = true := by simp; omega
      have HE := Lib.hid (cast_eq (firstN b a) a)
      go_enter Tryz.func91, Tryz.ntmps91
      go_wp2
      go_quiet (((go_at_call 119; with_reducible exact Calls.quiet_of (first_q b a _ hb ha))))
      go_wp2
      go_ret
      exact ⟨by rw [← HE.out]; rfl, HB.out _⟩
    · have hr : rightB a bits = false := by simp [rightB, h1]
      rw [hr]
      clear hr
      have hd1 : decide ((0 : Int) ≤ bits) = true := by simpa using h0
      have hd2 : decide (bits ≤ 32) = false := by simpa using h1
      go_enter Tryz.func91, Tryz.ntmps91
      go_wp2
      go_quiet (fail)
      go_wp2
      go_ret
      exact ⟨rfl, HB.out _⟩
  · have hr : rightB a bits = false := by simp [rightB, h0]
    rw [hr]
    clear hr
    have hd1 : decide ((0 : Int) ≤ bits) = false := by simpa using h0
    go_enter Tryz.func91, Tryz.ntmps91
    go_wp2
    go_quiet (fail)
    go_wp2
    go_ret
    exact ⟨rfl, HB.out _⟩
end Go.Proofs.YtekobdmlgbffnaaGreatDoor

/- A byte of a text, its place a letter. -/
namespace Go.Proofs.YtekobdmlgbffnaaGreatDoor
set_option linter.unusedVariables false
set_option maxRecDepth 100000
set_option linter.unusedSimpArgs false
open Go.RowKit

theorem sidx (s : ByteArray) (i v : Nat) (h : i < s.size) (hv : (s.data.toList.getD i 0).toNat = v) (w : World) : (Instr.index 9 (.string s) (.int .i64 (i : Int))).run Tryz.prog w = .ok (.int .u8 (v : Int)) w := by
  subst hv
  rw [run_index_string (P := Tryz.prog) w 9 s .i64 i Tryz.underlying9]
  have e : s.data.toList.getD i 0 = s[i] := by
    have h2 : i < s.data.toList.length := h
    have : s.data.toList[i] = s[i] := by
      show s.data.toList[i] = s.data[i]
      simp
    rw [← this, List.getD, List.getElem?_eq_getElem h2]; rfl
  rw [e]
  simp [h]

end Go.Proofs.YtekobdmlgbffnaaGreatDoor
