/- Sched, State, HexMath, CfgM, CgR, NetAt: texts of this seat, one behind the other. -/
import Derived.Test.YtcplebbaiambgaaG1
import Derived.Test.YtcplebbaiambgaaRows
/- The schedule of a block: its words, one by one. Nothing of the program is named here. -/
namespace Go.Proofs.Ytcplebbaiambgaa
set_option linter.unusedVariables false
set_option maxRecDepth 100000
set_option linter.unusedSimpArgs false

theorem getD_left (l r : List Nat) (i : Nat) (h : i < l.length) : (l ++ r).getD i 0 = l.getD i 0 := by
  rw [List.getD, List.getD, List.getElem?_append_left h]
theorem getD_right (l r : List Nat) (i : Nat) (h : l.length ≤ i) : (l ++ r).getD i 0 = r.getD (i - l.length) 0 := by
  rw [List.getD, List.getD, List.getElem?_append_right h]
theorem schedL_len (l : List Nat) (h : l.length = 16) : ∀ n, (schedL l n).length = 16 + n
  | 0 => by rw [schedL, h]
  | n + 1 => by rw [schedL, List.length_append, schedL_len l h n]; simp; omega
theorem schedL_low (l : List Nat) (h : l.length = 16) (n i : Nat) (hi : i < 16 + n) : ∀ k, (schedL l (n + k)).getD i 0 = (schedL l n).getD i 0
  | 0 => rfl
  | k + 1 => by
    have hl := schedL_len l h (n + k)
    rw [← Nat.add_assoc, schedL, getD_left _ _ _ (by omega), schedL_low l h n i hi k]
theorem sched_len (l : List Nat) (h : l.length = 16) : (sched l).length = 64 := schedL_len l h 48
theorem sched_take (l : List Nat) (h : l.length = 16) : (sched l).take 16 = l := by
  have : ∀ n, ∃ r, schedL l n = l ++ r := by
    intro n
    induction n with
    | zero => exact ⟨[], by rw [schedL, List.append_nil]⟩
    | succ n ih => obtain ⟨r, hr⟩ := ih; exact ⟨r ++ [nextW (schedL l n)], by rw [schedL, ← List.append_assoc, ← hr]⟩
  obtain ⟨r, hr⟩ := this 48
  rw [sched, hr, ← h, List.take_left]
theorem sched_at (l : List Nat) (h : l.length = 16) (i : Nat) (h1 : 16 ≤ i) (h2 : i < 64) : (sched l).getD i 0 =
    wadd (wadd (wadd (small ((sched l).getD (i - 2) 0) 17 19 10) ((sched l).getD (i - 7) 0)) (small ((sched l).getD (i - 15) 0) 7 18 3)) ((sched l).getD (i - 16) 0) := by
  obtain ⟨n, rfl⟩ : ∃ n, i = 16 + n := ⟨i - 16, by omega⟩
  have hl := schedL_len l h n
  have low : ∀ j, j < 16 + n → (sched l).getD j 0 = (schedL l n).getD j 0 := by
    intro j hj
    have := schedL_low l h n j hj (48 - n)
    rw [show n + (48 - n) = 48 by omega] at this
    exact this
  have top : (sched l).getD (16 + n) 0 = nextW (schedL l n) := by
    have := schedL_low l h (n + 1) (16 + n) (by omega) (48 - (n + 1))
    rw [show n + 1 + (48 - (n + 1)) = 48 by omega] at this
    refine Eq.trans this ?_
    rw [schedL, getD_right _ _ _ (by omega), hl, Nat.sub_self, List.getD_cons_zero]
  rw [top, low _ (by omega), low _ (by omega), low _ (by omega), low _ (by omega), nextW, hl]
theorem sched_lt (l : List Nat) (h : l.length = 16) (hl : ∀ i, l.getD i 0 < 4294967296) (i : Nat) : (sched l).getD i 0 < 4294967296 := by
  by_cases h2 : i < 64
  · by_cases h1 : 16 ≤ i
    · rw [sched_at l h i h1 h2]; exact wadd_lt _ _
    · have := schedL_low l h 0 i (by omega) 48
      rw [Nat.zero_add] at this
      have e : (sched l).getD i 0 = l.getD i 0 := this
      rw [e]; exact hl i
  · have := sched_len l h
    rw [List.getD, List.getElem?_eq_none (by omega), Option.getD_none]; decide
theorem words16_lt (l : List UInt8) (p i : Nat) : (words16 l p).getD i 0 < 4294967296 := by
  by_cases hi : i < 16
  · rw [words16_at l p i hi, wordAt]; exact wor_lt _ _
  · rw [List.getD, List.getElem?_eq_none (by rw [words16_len]; omega), Option.getD_none]; decide
end Go.Proofs.Ytcplebbaiambgaa

/- The eight words of a state. Nothing of the program is named here. -/
namespace Go.Proofs.Ytcplebbaiambgaa
set_option linter.unusedVariables false
set_option maxRecDepth 100000
set_option linter.unusedSimpArgs false

/-- A state as an array's value, and as its cells. -/
abbrev s8 (s : St) : Array Value := #[wd s.a, wd s.b, wd s.c, wd s.d, wd s.e, wd s.f, wd s.g, wd s.h]
abbrev A8 (s : St) : Value := .agg (s8 s)
structure St.Ok (s : St) : Prop where
  a : s.a < 4294967296
  b : s.b < 4294967296
  c : s.c < 4294967296
  d : s.d < 4294967296
  e : s.e < 4294967296
  f : s.f < 4294967296
  g : s.g < 4294967296
  h : s.h < 4294967296
theorem round1_ok {s : St} (h : s.Ok) (k w : Nat) : (round1 s k w).Ok := ⟨wadd_lt _ _, h.a, h.b, h.c, wadd_lt _ _, h.e, h.f, h.g⟩
theorem rounds_ok (w : List Nat) {s : St} (h : s.Ok) : ∀ n, (rounds w s n).Ok
  | 0 => h
  | n + 1 => round1_ok (rounds_ok w h n) _ _
theorem addS_ok (s t : St) : (addS s t).Ok := ⟨wadd_lt _ _, wadd_lt _ _, wadd_lt _ _, wadd_lt _ _, wadd_lt _ _, wadd_lt _ _, wadd_lt _ _, wadd_lt _ _⟩
theorem thr_ok {s : St} (h : s.Ok) (l : List UInt8) : ∀ n, (thr s l n).Ok
  | 0 => h
  | n + 1 => addS_ok _ _
theorem S0_ok : S0.Ok := by constructor <;> decide
/-- The first i words are added. -/
def mix (s r : St) : Nat → St
  | 0 => s
  | 1 => ⟨wadd s.a r.a, s.b, s.c, s.d, s.e, s.f, s.g, s.h⟩
  | 2 => ⟨wadd s.a r.a, wadd s.b r.b, s.c, s.d, s.e, s.f, s.g, s.h⟩
  | 3 => ⟨wadd s.a r.a, wadd s.b r.b, wadd s.c r.c, s.d, s.e, s.f, s.g, s.h⟩
  | 4 => ⟨wadd s.a r.a, wadd s.b r.b, wadd s.c r.c, wadd s.d r.d, s.e, s.f, s.g, s.h⟩
  | 5 => ⟨wadd s.a r.a, wadd s.b r.b, wadd s.c r.c, wadd s.d r.d, wadd s.e r.e, s.f, s.g, s.h⟩
  | 6 => ⟨wadd s.a r.a, wadd s.b r.b, wadd s.c r.c, wadd s.d r.d, wadd s.e r.e, wadd s.f r.f, s.g, s.h⟩
  | 7 => ⟨wadd s.a r.a, wadd s.b r.b, wadd s.c r.c, wadd s.d r.d, wadd s.e r.e, wadd s.f r.f, wadd s.g r.g, s.h⟩
  | _ => addS s r
theorem round1_a (s : St) (k w : Nat) : (round1 s k w).a = wadd (wadd (wadd (wadd (wadd s.h (great s.e 6 11 25)) (wxor (wand s.e s.f) (wand (wnot s.e) s.g))) k) w) (wadd (great s.a 2 13 22) (wxor (wxor (wand s.a s.b) (wand s.a s.c)) (wand s.b s.c))) := by
  rw [round1, rX, rY]
theorem round1_e (s : St) (k w : Nat) : (round1 s k w).e = wadd s.d (wadd (wadd (wadd (wadd s.h (great s.e 6 11 25)) (wxor (wand s.e s.f) (wand (wnot s.e) s.g))) k) w) := by
  rw [round1, rX]
theorem mix_set_0 (s r : St) : (s8 (mix s r 0)).setIfInBounds 0 (wd (wadd s.a r.a)) = s8 (mix s r 1) := by
  simp only [mix, addS, List.setIfInBounds_toArray, List.set_cons_zero, List.set_cons_succ]
theorem mix_set_1 (s r : St) : (s8 (mix s r 1)).setIfInBounds 1 (wd (wadd s.b r.b)) = s8 (mix s r 2) := by
  simp only [mix, addS, List.setIfInBounds_toArray, List.set_cons_zero, List.set_cons_succ]
theorem mix_set_2 (s r : St) : (s8 (mix s r 2)).setIfInBounds 2 (wd (wadd s.c r.c)) = s8 (mix s r 3) := by
  simp only [mix, addS, List.setIfInBounds_toArray, List.set_cons_zero, List.set_cons_succ]
theorem mix_set_3 (s r : St) : (s8 (mix s r 3)).setIfInBounds 3 (wd (wadd s.d r.d)) = s8 (mix s r 4) := by
  simp only [mix, addS, List.setIfInBounds_toArray, List.set_cons_zero, List.set_cons_succ]
theorem mix_set_4 (s r : St) : (s8 (mix s r 4)).setIfInBounds 4 (wd (wadd s.e r.e)) = s8 (mix s r 5) := by
  simp only [mix, addS, List.setIfInBounds_toArray, List.set_cons_zero, List.set_cons_succ]
theorem mix_set_5 (s r : St) : (s8 (mix s r 5)).setIfInBounds 5 (wd (wadd s.f r.f)) = s8 (mix s r 6) := by
  simp only [mix, addS, List.setIfInBounds_toArray, List.set_cons_zero, List.set_cons_succ]
theorem mix_set_6 (s r : St) : (s8 (mix s r 6)).setIfInBounds 6 (wd (wadd s.g r.g)) = s8 (mix s r 7) := by
  simp only [mix, addS, List.setIfInBounds_toArray, List.set_cons_zero, List.set_cons_succ]
theorem mix_set_7 (s r : St) : (s8 (mix s r 7)).setIfInBounds 7 (wd (wadd s.h r.h)) = s8 (mix s r 8) := by
  simp only [mix, addS, List.setIfInBounds_toArray, List.set_cons_zero, List.set_cons_succ]
theorem mix_at_0 (s r : St) : (s8 (mix s r 0))[0]? = some (.int .u32 (s.a : Int)) := by
  simp [s8, mix]
theorem mix_at_1 (s r : St) : (s8 (mix s r 1))[1]? = some (.int .u32 (s.b : Int)) := by
  simp [s8, mix]
theorem mix_at_2 (s r : St) : (s8 (mix s r 2))[2]? = some (.int .u32 (s.c : Int)) := by
  simp [s8, mix]
theorem mix_at_3 (s r : St) : (s8 (mix s r 3))[3]? = some (.int .u32 (s.d : Int)) := by
  simp [s8, mix]
theorem mix_at_4 (s r : St) : (s8 (mix s r 4))[4]? = some (.int .u32 (s.e : Int)) := by
  simp [s8, mix]
theorem mix_at_5 (s r : St) : (s8 (mix s r 5))[5]? = some (.int .u32 (s.f : Int)) := by
  simp [s8, mix]
theorem mix_at_6 (s r : St) : (s8 (mix s r 6))[6]? = some (.int .u32 (s.g : Int)) := by
  simp [s8, mix]
theorem mix_at_7 (s r : St) : (s8 (mix s r 7))[7]? = some (.int .u32 (s.h : Int)) := by
  simp [s8, mix]
theorem mix_8 (s r : St) : mix s r 8 = addS s r := rfl
theorem s8_size (s : St) : (s8 s).size = 8 := rfl
theorem s8_same (s t : St) : (s8 s).size = (s8 t).size := (s8_size s).trans (s8_size t).symm
theorem z8_size (t : St) : (wcells [0, 0, 0, 0, 0, 0, 0, 0]).size = (s8 t).size := (wcells_size _).trans (s8_size t).symm
theorem s8_one (s : St) : (s8 s).all (·.oneCell') = true := by simp [Value.oneCell']
theorem KK_len : KK.length = 64 := rfl
/-- The two tables, as the program lays them. -/
structure Gl (w : World) : Prop where
  size : 1 < w.heap.size
  beg : ∀ k, k < 8 → w.cell? ⟨0, k, none⟩ = some (wd (H0.getD k 0))
  root : ∀ k, k < 64 → w.cell? ⟨1, k, none⟩ = some (wd (KK.getD k 0))
theorem Gl.below {w w' : World} {B : Nat} (h : Gl w) (hb : RowKit.Below B w w') (hB : 1 < B) : Gl w' :=
  ⟨Nat.lt_of_lt_of_le h.size hb.size, fun k hk => (hb.cell (p := ⟨0, k, none⟩) (by show 0 < B; omega)).trans (h.beg k hk), fun k hk => (hb.cell (p := ⟨1, k, none⟩) hB).trans (h.root k hk)⟩
end Go.Proofs.Ytcplebbaiambgaa

/- Bytes in digits, and the bytes of digits: what the document asks, as Lean functions. Nothing of the program is named here. -/
namespace Go.Proofs.Ytcplebbaiambgaa
set_option linter.unusedVariables false
set_option maxRecDepth 100000
set_option linter.unusedSimpArgs false

def digs : List UInt8 := [48, 49, 50, 51, 52, 53, 54, 55, 56, 57, 97, 98, 99, 100, 101, 102]
/-- The digit of a number below 16. -/
def dig (n : Nat) : UInt8 := digs.getD n 0
def hexB : List UInt8 → List UInt8
  | [] => []
  | c :: r => dig (c.toNat / 16) :: dig (c.toNat % 16) :: hexB r
theorem hexB_len : ∀ l, (hexB l).length = 2 * l.length
  | [] => rfl
  | c :: r => by rw [hexB, List.length_cons, List.length_cons, hexB_len r, List.length_cons]; omega
theorem hexB_app : ∀ a b, hexB (a ++ b) = hexB a ++ hexB b
  | [], b => rfl
  | c :: r, b => by rw [List.cons_append, hexB, hexB, hexB_app r b]; rfl
theorem hexB_take (l : List UInt8) (i : Nat) (h : i < l.length) : hexB (l.take (i + 1)) = hexB (l.take i) ++ [dig (l[i].toNat / 16)] ++ [dig (l[i].toNat % 16)] := by
  rw [List.take_add_one, List.getElem?_eq_getElem h, hexB_app, List.append_assoc]; rfl
/-- A digit's number, if it is one. -/
def val (c : UInt8) : Option Nat := if 48 ≤ c.toNat ∧ c.toNat ≤ 57 then some (c.toNat - 48) else if 97 ≤ c.toNat ∧ c.toNat ≤ 102 then some (c.toNat - 87) else none
theorem val_lt (c : UInt8) (n : Nat) (h : val c = some n) : n < 16 := by
  unfold val at h
  split at h
  · injection h with h; omega
  · split at h
    · injection h with h; omega
    · cases h
theorem val_dig (n : Nat) (h : n < 16) : val (dig n) = some n := by
  have : ∀ m : Fin 16, val (dig m.val) = some m.val := by decide
  exact this ⟨n, h⟩
theorem dig_val (c : UInt8) (n : Nat) (h : val c = some n) : dig n = c := by
  have : ∀ k : Fin 256, ∀ n : Fin 16, val (UInt8.ofNat k.val) = some n.val → dig n.val = UInt8.ofNat k.val := by decide +kernel
  have h1 := this ⟨c.toNat, c.toNat_lt⟩ ⟨n, val_lt c n h⟩
  simp only [UInt8.ofNat_toNat] at h1
  exact h1 h
/-- The bytes of digits, two of each; none if one of these is no digit. -/
def unhexB : List UInt8 → Option (List UInt8)
  | [] => some []
  | [_] => none
  | a :: b :: r => match val a, val b, unhexB r with
    | some x, some y, some l => some (UInt8.ofNat (16 * x + y) :: l)
    | _, _, _ => none
theorem unhexB_hexB : ∀ l, unhexB (hexB l) = some l
  | [] => rfl
  | c :: r => by
    have h := c.toNat_lt
    rw [hexB, unhexB, val_dig _ (by omega), val_dig _ (by omega), unhexB_hexB r]
    simp only
    congr 2
    rw [show 16 * (c.toNat / 16) + c.toNat % 16 = c.toNat by omega, UInt8.ofNat_toNat]
theorem hexB_unhexB : ∀ s l, unhexB s = some l → hexB l = s
  | [], l, h => by rw [unhexB] at h; injection h with h; subst h; rfl
  | [_], l, h => by rw [unhexB] at h; cases h
  | a :: b :: r, l, h => by
    rw [unhexB] at h
    cases ha : val a with
    | none => rw [ha] at h; cases h
    | some x =>
      cases hb : val b with
      | none => rw [ha, hb] at h; cases h
      | some y =>
        cases hr : unhexB r with
        | none => rw [ha, hb, hr] at h; cases h
        | some t =>
          rw [ha, hb, hr] at h
          injection h with h
          subst h
          have hx := val_lt a x ha
          have hy := val_lt b y hb
          have e : (UInt8.ofNat (16 * x + y)).toNat = 16 * x + y := by rw [UInt8.toNat_ofNat']; exact Nat.mod_eq_of_lt (by omega)
          rw [hexB, e, show (16 * x + y) / 16 = x by omega, show (16 * x + y) % 16 = y by omega, dig_val a x ha, dig_val b y hb, hexB_unhexB r t hr]
theorem unhexB_odd : ∀ s, s.length % 2 = 1 → unhexB s = none
  | [], h => by simp at h
  | [_], _ => rfl
  | a :: b :: r, h => by
    rw [unhexB, unhexB_odd r (by simp only [List.length_cons] at h; omega)]
    cases val a <;> cases val b <;> rfl
theorem unhexB_app : ∀ a b x y, unhexB a = some x → unhexB b = some y → unhexB (a ++ b) = some (x ++ y)
  | a, b, x, y, hx, hy => by
    rw [← hexB_unhexB a x hx, ← hexB_unhexB b y hy, ← hexB_app, unhexB_hexB]
end Go.Proofs.Ytcplebbaiambgaa

/- Configurations, their texts, and what is read of a text: plain mathematics. -/
namespace Go.Proofs.Ytcplebbaiambgaa
set_option linter.unusedVariables false
set_option maxRecDepth 100000
set_option linter.unusedSimpArgs false

/-! ### What may be -/

structure Nt where
  addr : Nat
  bits : Int
structure Tk where
  name : ByteArray
  sec : ByteArray
  till : Int
structure Tn where
  name : ByteArray
  names : Int
  visitors : Int
  nets : List Nt
  toks : List Tk
structure Cg where
  wait : Int
  grace : Int
  idle : Int
  lease : Int
  tens : List Tn

/-- Is one text less than another one? -/
def ltS (a b : ByteArray) : Bool := Op.bytesLess a.toList b.toList
/-- Are these names, each greater than the one ahead of it? -/
def rise : ByteArray → List ByteArray → Bool
  | _, [] => true
  | last, x :: r => nameB x && ltS last x && rise x r
def netB (n : Nt) : Bool := rightB n.addr n.bits
def tokB (k : Tk) : Bool := decide (1 ≤ k.sec.size) && decide (k.sec.size ≤ 32) && decide (0 ≤ k.till) && decide (k.till ≤ 1099511627776)
def quoB (n : Int) : Bool := decide (0 ≤ n) && decide (n ≤ 8)
def tenB (t : Tn) : Bool := quoB t.names && quoB t.visitors && decide (t.nets.length ≤ 4) && t.nets.all netB && decide (t.toks.length ≤ 4) && rise ByteArray.empty (t.toks.map (·.name)) && t.toks.all tokB
def timB (n : Int) : Bool := decide (1 ≤ n) && decide (n ≤ 1073741824)
def cfgB (c : Cg) : Bool := timB c.wait && timB c.grace && timB c.idle && timB c.lease && decide (c.tens.length ≤ 8) && rise ByteArray.empty (c.tens.map (·.name)) && c.tens.all tenB

theorem rise_app : ∀ (a b : List ByteArray) (l : ByteArray), rise l (a ++ b) = true → rise l a = true
  | [], _, _, _ => rfl
  | x :: a, b, l, h => by
    rw [List.cons_append, rise, Bool.and_eq_true] at h
    rw [rise, Bool.and_eq_true]
    exact ⟨h.1, rise_app a b x h.2⟩

/-! ### Lines -/

def wTimes : List UInt8 := [116, 105, 109, 101, 115]
def wTenant : List UInt8 := [116, 101, 110, 97, 110, 116]
def wNet : List UInt8 := [110, 101, 116]
def wToken : List UInt8 := [116, 111, 107, 101, 110]

def timesW (c : Cg) : List (List UInt8) := [wTimes, decB c.wait.toNat, decB c.grace.toNat, decB c.idle.toNat, decB c.lease.toNat]
def tenW (t : Tn) : List (List UInt8) := [wTenant, t.name.data.toList, decB t.names.toNat, decB t.visitors.toNat]
def netW (n : Nt) : List (List UInt8) := [wNet, slashL n.addr n.bits]
def tokW (k : Tk) : List (List UInt8) := [wToken, k.name.data.toList, hexB k.sec.data.toList, decB k.till.toNat]
def tenLs (t : Tn) : List (List (List UInt8)) := tenW t :: (t.nets.map netW ++ t.toks.map tokW)
def cfgLs (c : Cg) : List (List (List UInt8)) := timesW c :: c.tens.flatMap tenLs
def lineT (ws : List (List UInt8)) : List UInt8 := joinL 32 ws ++ [10]
def textT (ls : List (List (List UInt8))) : List UInt8 := ls.flatMap lineT
def printT (c : Cg) : List UInt8 := if cfgB c = true then textT (cfgLs c) else []

/-- The lines of a text, each with whether it has an end. -/
def linesL : List UInt8 → List (List UInt8 × Bool)
  | [] => []
  | x :: r => if x = 10 then ([], true) :: linesL r else
    match linesL r with
    | [] => [([x], false)]
    | (p, e) :: ps => (x :: p, e) :: ps

theorem linesL_cons (x : UInt8) (r : List UInt8) : ∃ p e ps, linesL (x :: r) = (p, e) :: ps := by
  unfold linesL
  by_cases h : x = 10
  · exact ⟨_, _, _, by rw [if_pos h]⟩
  · rw [if_neg h]
    split
    · exact ⟨_, _, _, rfl⟩
    · exact ⟨_, _, _, rfl⟩

theorem lines_cut : ∀ l : List UInt8, l ≠ [] → linesL l = ((cutL 10 l).1, (cutL 10 l).2.2) :: linesL (cutL 10 l).2.1
  | [], h => absurd rfl h
  | x :: r, _ => by
    rw [linesL, cutL]
    by_cases hx : x = 10
    · rw [if_pos hx, if_pos hx]
    · rw [if_neg hx, if_neg hx]
      cases r with
      | nil => rfl
      | cons y r =>
        have ih := lines_cut (y :: r) (by simp)
        rw [ih]

theorem lines_hit (p r : List UInt8) (h : (10 : UInt8) ∉ p) : linesL (p ++ 10 :: r) = (p, true) :: linesL r := by
  have := lines_cut (p ++ 10 :: r) (by simp)
  rw [this, cutL_hit 10 p r h]
theorem lines_miss (p : List UInt8) (h : (10 : UInt8) ∉ p) (h0 : p ≠ []) : linesL p = [(p, false)] := by
  have := lines_cut p h0
  rw [this, cutL_miss 10 p h]
  rfl
theorem lines_no : ∀ l : List UInt8, ∀ p e, (p, e) ∈ linesL l → (10 : UInt8) ∉ p
  | [], _, _, h => by cases h
  | x :: r, p, e, h => by
    have ih := lines_no r
    unfold linesL at h
    by_cases hx : x = 10
    · rw [if_pos hx] at h
      rcases List.mem_cons.1 h with h | h
      · injection h with h1 h2; rw [h1]; simp
      · exact ih p e h
    · rw [if_neg hx] at h
      cases hl : linesL r with
      | nil =>
        rw [hl] at h
        simp only [List.mem_singleton] at h
        injection h with h1 h2
        rw [h1]
        simp only [List.mem_singleton]
        exact fun k => hx k.symm
      | cons q qs =>
        obtain ⟨q1, q2⟩ := q
        rw [hl] at h ih
        simp only [List.mem_cons] at h
        rcases h with h | h
        · injection h with h1 h2
          rw [h1, List.mem_cons, not_or]
          exact ⟨fun k => hx k.symm, ih q1 q2 (by simp)⟩
        · exact ih p e (List.mem_cons_of_mem _ h)
/-- A text of whole lines is its lines. -/
theorem lines_text : ∀ l : List UInt8, (∀ x ∈ linesL l, x.2 = true) → l = (linesL l).flatMap fun x => x.1 ++ [10]
  | [], _ => rfl
  | x :: r, h => by
    have ih := lines_text r
    unfold linesL at h ⊢
    by_cases hx : x = 10
    · rw [if_pos hx] at h ⊢
      have := ih (fun y hy => h y (List.mem_cons_of_mem _ hy))
      rw [List.flatMap_cons, ← this, hx]; rfl
    · rw [if_neg hx] at h ⊢
      cases hl : linesL r with
      | nil =>
        rw [hl] at h
        have := h ([x], false) (by simp)
        cases this
      | cons q qs =>
        obtain ⟨q1, q2⟩ := q
        rw [hl] at h ih
        have := ih (fun y hy => by
          rcases List.mem_cons.1 hy with h1 | h1
          · rw [h1]; exact h (x :: q1, q2) (by simp)
          · exact h y (List.mem_cons_of_mem _ h1))
        simp only [List.flatMap_cons] at this ⊢
        rw [List.cons_append, List.cons_append, ← this]

/-! ### What is read -/

def decO (w : List UInt8) : Option Nat := (parseS (bs w)).map (·.1)
theorem decO_back (n : Nat) (h : n ≤ 1099511627776) : decO (decB n) = some n := by
  obtain ⟨k, hk⟩ := parse_back n h
  simp [decO, hk]
theorem decO_is (w : List UInt8) (n : Nat) (h : decO w = some n) : n ≤ 1099511627776 ∧ w = decB n := by
  unfold decO at h
  cases hp : parseS (bs w) with
  | none => rw [hp] at h; cases h
  | some x =>
    obtain ⟨m, k⟩ := x
    rw [hp] at h
    obtain rfl : m = n := by injection h
    obtain ⟨h1, h2⟩ := parse_is _ m k hp
    exact ⟨h1, bs_inj h2⟩

/-- With another last tenant. -/
def lastC (c : Cg) : Option Tn := c.tens.getLast?
def setC (c : Cg) (t : Tn) : Cg := { c with tens := c.tens.dropLast ++ [t] }
def zeroC : Cg := ⟨0, 0, 0, 0, []⟩

def readTimes (c : Cg) : List (List UInt8) → Option Cg
  | [a, b, d, e] => match decO a, decO b, decO d, decO e with
    | some a, some b, some d, some e => some ⟨a, b, d, e, c.tens⟩
    | _, _, _, _ => none
  | _ => none
def readTenant (c : Cg) : List (List UInt8) → Option Cg
  | [n, a, b] => match decO a, decO b with
    | some a, some b => some { c with tens := c.tens ++ [⟨bs n, a, b, [], []⟩] }
    | _, _ => none
  | _ => none
def readNet (c : Cg) : List (List UInt8) → Option Cg
  | [n] => match lastC c with
    | none => none
    | some t => if t.toks = [] then match netO (bs n) with
      | some x => some (setC c { t with nets := t.nets ++ [⟨x.1, x.2⟩] })
      | none => none
      else none
  | _ => none
def readToken (c : Cg) : List (List UInt8) → Option Cg
  | [n, s, u] => match lastC c with
    | none => none
    | some t => match unhexB s, decO u with
      | some b, some v => some (setC c { t with toks := t.toks ++ [⟨bs n, bs b, v⟩] })
      | _, _ => none
  | _ => none
def readW (c : Cg) : List (List UInt8) → Option Cg
  | [] => none
  | k :: ws => if k = wTimes then readTimes c ws else if k = wTenant then readTenant c ws else if k = wNet then readNet c ws else if k = wToken then readToken c ws else none
def okC (o : Option Cg) : Option Cg := match o with
  | some c => if cfgB c = true then some c else none
  | none => none
/-- One line, the first one or another one. -/
def lineC (c : Cg) (first : Bool) (ws : List (List UInt8)) : Option Cg := if decide (ws.head? = some wTimes) = first then okC (readW c ws) else none
def runL : Cg → Nat → List (List UInt8 × Bool) → Except Nat Cg
  | c, at', [] => if at' = 0 then .error 0 else .ok c
  | c, at', (l, e) :: r => if e = true then match lineC c (at' == 0) (piecesL 32 l) with
    | some c' => runL c' (at' + 1) r
    | none => .error at'
    else .error at'
def parseC (s : ByteArray) : Except Nat Cg := runL zeroC 0 (linesL s.data.toList)

end Go.Proofs.Ytcplebbaiambgaa

/- Configurations in memory: rows of structs that slices read as. -/
namespace Go.Proofs.Ytcplebbaiambgaa
set_option linter.unusedVariables false
set_option maxRecDepth 100000
set_option linter.unusedSimpArgs false
open Go.RowKit

/-- The slice at A reads as the rows l, of k cells each. -/
def Rw {β : Type} (k : Nat) (f : β → Array Value) (w : World) (A : Option Addr) (l : List β) : Prop :=
  l = [] ∨ ∃ b o, A = some ⟨b, o, none⟩ ∧ b < w.heap.size ∧ ∀ i, (h : i < l.length) → ∀ j, j < k → w.cell? ⟨b, o + i * k + j, none⟩ = (f l[i])[j]?
theorem Rw.nil {β : Type} {k : Nat} {f : β → Array Value} {w : World} {A : Option Addr} : Rw k f w A [] := .inl rfl
theorem Rw.on {β : Type} {k : Nat} {f : β → Array Value} {w w' : World} {A : Option Addr} {l : List β} (h : Rw k f w A l) (hb : Below w.heap.size w w') : Rw k f w' A l := by
  rcases h with h | ⟨b, o, e, hlt, hc⟩
  · exact .inl h
  · exact .inr ⟨b, o, e, Nat.lt_of_lt_of_le hlt hb.size, fun i hi j hj => (hb.cell (p := ⟨b, o + i * k + j, none⟩) hlt).trans (hc i hi j hj)⟩
/-- One of the rows, in every later world. -/
theorem Rw.at_ {β : Type} {k : Nat} {f : β → Array Value} {w : World} {A : Option Addr} {l : List β} (h : Rw k f w A l) (i : Nat) (hi : i < l.length) :
    ∃ b o x, A = some ⟨b, o, none⟩ ∧ l[i]? = some x ∧ ∀ u, Below w.heap.size w u → ∀ j, j < k → u.cell? ⟨b, o + i * k + j, none⟩ = (f x)[j]? := by
  rcases h with h | ⟨b, o, e, hlt, hc⟩
  · subst h; simp at hi
  · exact ⟨b, o, l[i], e, List.getElem?_eq_getElem hi, fun u hb j hj => (hb.cell (p := ⟨b, o + i * k + j, none⟩) hlt).trans (hc i hi j hj)⟩

abbrev ncs (n : Nt) : Array Value := #[.int .u32 (n.addr : Int), .int .i64 n.bits]
abbrev kcs (k : Tk) : Array Value := #[.string k.name, .string k.sec, .int .i64 k.till]
/-- A tenant, with where its rows lie. -/
structure Tv where
  t : Tn
  An : Option Addr
  cn : Nat
  Ak : Option Addr
  ck : Nat
abbrev tcs (x : Tv) : Array Value := #[.string x.t.name, .int .i64 x.t.names, .int .i64 x.t.visitors, .slice x.An x.t.nets.length x.cn, .slice x.Ak x.t.toks.length x.ck]
structure Cv where
  wait : Int
  grace : Int
  idle : Int
  lease : Int
  ts : List Tv
  A : Option Addr
  c : Nat
abbrev ccs (x : Cv) : Array Value := #[.int .i64 x.wait, .int .i64 x.grace, .int .i64 x.idle, .int .i64 x.lease, .slice x.A x.ts.length x.c]
def Cv.cg (x : Cv) : Cg := ⟨x.wait, x.grace, x.idle, x.lease, x.ts.map (·.t)⟩

/-- Where a slice of n rows may lie. -/
structure Fit (A : Option Addr) (n c : Nat) : Prop where
  cap : n ≤ c
  max : c ≤ 9223372036854775807
  nil_ : A = none → n = 0 ∧ c = 0

abbrev RN (w : World) (A : Option Addr) (l : List Nt) : Prop := Rw 2 ncs w A l
abbrev RK (w : World) (A : Option Addr) (l : List Tk) : Prop := Rw 3 kcs w A l
structure RT1 (w : World) (x : Tv) : Prop where
  n : RN w x.An x.t.nets
  k : RK w x.Ak x.t.toks
  fn : Fit x.An x.t.nets.length x.cn
  fk : Fit x.Ak x.t.toks.length x.ck
  lt : ∀ n ∈ x.t.nets, n.addr < 4294967296
  sz : x.t.name.size ≤ 140737488355328
  szk : ∀ k ∈ x.t.toks, k.name.size ≤ 140737488355328 ∧ k.sec.size ≤ 140737488355328
theorem RT1.on {w w' : World} {x : Tv} (h : RT1 w x) (hb : Below w.heap.size w w') : RT1 w' x := ⟨h.n.on hb, h.k.on hb, h.fn, h.fk, h.lt, h.sz, h.szk⟩
structure RT (w : World) (A : Option Addr) (l : List Tv) : Prop where
  r : Rw 5 tcs w A l
  each : ∀ x ∈ l, RT1 w x
theorem RT.on {w w' : World} {A : Option Addr} {l : List Tv} (h : RT w A l) (hb : Below w.heap.size w w') : RT w' A l := ⟨h.r.on hb, fun x hx => (h.each x hx).on hb⟩
/-- The configuration x lies in memory. -/
structure RC (w : World) (x : Cv) : Prop where
  r : RT w x.A x.ts
  f : Fit x.A x.ts.length x.c
theorem RC.on {w w' : World} {x : Cv} (h : RC w x) (hb : Below w.heap.size w w') : RC w' x := ⟨h.r.on hb, h.f⟩

theorem RN.at2 {w : World} {A : Option Addr} {l : List Nt} (h : RN w A l) (i : Nat) (hi : i < l.length) :
    ∃ b o x, A = some ⟨b, o, none⟩ ∧ l[i]? = some x ∧ ∀ u, Below w.heap.size w u → u.cell? ⟨b, o + i * 2, none⟩ = some (.int .u32 (x.addr : Int)) ∧ u.cell? ⟨b, o + i * 2 + 1, none⟩ = some (.int .i64 x.bits) := by
  obtain ⟨b, o, x, h1, h2, h3⟩ := Rw.at_ h i hi
  exact ⟨b, o, x, h1, h2, fun u hb => ⟨h3 u hb 0 (by omega), h3 u hb 1 (by omega)⟩⟩
theorem RK.at3 {w : World} {A : Option Addr} {l : List Tk} (h : RK w A l) (i : Nat) (hi : i < l.length) :
    ∃ b o x, A = some ⟨b, o, none⟩ ∧ l[i]? = some x ∧ ∀ u, Below w.heap.size w u → u.cell? ⟨b, o + i * 3, none⟩ = some (.string x.name) ∧ u.cell? ⟨b, o + i * 3 + 1, none⟩ = some (.string x.sec) ∧ u.cell? ⟨b, o + i * 3 + 2, none⟩ = some (.int .i64 x.till) := by
  obtain ⟨b, o, x, h1, h2, h3⟩ := Rw.at_ h i hi
  exact ⟨b, o, x, h1, h2, fun u hb => ⟨h3 u hb 0 (by omega), h3 u hb 1 (by omega), h3 u hb 2 (by omega)⟩⟩
theorem RT.at5 {w : World} {A : Option Addr} {l : List Tv} (h : RT w A l) (i : Nat) (hi : i < l.length) :
    ∃ b o x, A = some ⟨b, o, none⟩ ∧ l[i]? = some x ∧ RT1 w x ∧ ∀ u, Below w.heap.size w u → u.cell? ⟨b, o + i * 5, none⟩ = some (.string x.t.name) ∧ u.cell? ⟨b, o + i * 5 + 1, none⟩ = some (.int .i64 x.t.names) ∧ u.cell? ⟨b, o + i * 5 + 2, none⟩ = some (.int .i64 x.t.visitors) ∧
      u.cell? ⟨b, o + i * 5 + 3, none⟩ = some (.slice x.An x.t.nets.length x.cn) ∧ u.cell? ⟨b, o + i * 5 + 4, none⟩ = some (.slice x.Ak x.t.toks.length x.ck) := by
  obtain ⟨b, o, x, h1, h2, h3⟩ := Rw.at_ h.r i hi
  exact ⟨b, o, x, h1, h2, h.each x (List.mem_of_getElem? h2), fun u hb => ⟨h3 u hb 0 (by omega), h3 u hb 1 (by omega), h3 u hb 2 (by omega), h3 u hb 3 (by omega), h3 u hb 4 (by omega)⟩⟩
end Go.Proofs.Ytcplebbaiambgaa

/- syntax.In: its contract. (Written by gen_syn.py.) -/
namespace Go.Proofs.Ytcplebbaiambgaa
set_option linter.unusedVariables false
set_option maxRecDepth 100000
set_option linter.unusedSimpArgs false
open Go.RowKit

/-- A net in a block of its own. -/
structure NetAt (B : Nat) (w : World) (g a : Nat) (bits : Int) (u : World) : Prop where
  b : Below B w u
  c0 : u.cell? ⟨g, 0, none⟩ = some (.int .u32 (a : Int))
  c1 : u.cell? ⟨g, 1, none⟩ = some (.int .i64 bits)
  lt : g < u.heap.size
theorem NetAt.on {B : Nat} {w u u' : World} {g a : Nat} {bits : Int} (h : NetAt B w g a bits u) (hB : B ≤ u.heap.size) (hb : Below u.heap.size u u') : NetAt B w g a bits u' :=
  ⟨h.b.trans (hb.mono hB), (hb.cell (p := ⟨g, 0, none⟩) h.lt).trans h.c0, (hb.cell (p := ⟨g, 1, none⟩) h.lt).trans h.c1, Nat.lt_of_lt_of_le h.lt hb.size⟩
theorem NetAt.draw {B : Nat} {w u : World} {g a : Nat} {bits : Int} (h : NetAt B w g a bits u) : NetAt B w g a bits u.drew := ⟨h.b.drew, h.c0, h.c1, h.lt⟩
theorem NetAt.new (w : World) (a : Nat) (bits : Int) (t : TypeId) : NetAt w.heap.size w w.heap.size a bits (w.alloc (.cells #[.int .u32 (a : Int), .int .i64 bits] t)) := by
  have hk : Bk (w.alloc (.cells #[.int .u32 (a : Int), .int .i64 bits] t)) w.heap.size t #[.int .u32 (a : Int), .int .i64 bits] := Bk.new _ _ _
  exact ⟨(Below.refl _ _).alloc (Nat.le_refl _) _, by rw [hk.cell]; rfl, by rw [hk.cell]; rfl, hk.lt⟩
end Go.Proofs.Ytcplebbaiambgaa
