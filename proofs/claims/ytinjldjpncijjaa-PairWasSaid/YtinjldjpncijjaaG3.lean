/- SynM, Syn1, Sidx, Syn3, Word, Arr, Sched, State, HexMath, CfgM: texts of this seat, one behind the other. -/
import Derived.Test.YtinjldjpncijjaaG2
import Derived.Lib.Bytealg
import Derived.Test.YtinjldjpncijjaaG1
import Derived.BigQuiet
import Derived.Deep.QuietTactic
import Derived.Deep.RegionHeld3
import Derived.Test.YtinjldjpncijjaaRows
import Derived.WalkKit
import Derived.Lib.Hide
import Derived.Laws.Rows
import Derived.Laws.Tables
import Derived.Laws.CopyOwn
/- Names, addresses, nets: plain mathematics. -/
namespace Go.Proofs.Ytinjldjpncijjaa
set_option linter.unusedVariables false
set_option maxRecDepth 100000
set_option linter.unusedSimpArgs false

/-! ### Texts cut at a mark -/

/-- What stands ahead of a byte, what behind it, whether there is one. -/
def cutL (c : UInt8) : List UInt8 → List UInt8 × List UInt8 × Bool
  | [] => ([], [], false)
  | x :: r => if x = c then ([], r, true) else (x :: (cutL c r).1, (cutL c r).2.1, (cutL c r).2.2)

def piecesL (c : UInt8) : List UInt8 → List (List UInt8)
  | [] => [[]]
  | x :: r => if x = c then [] :: piecesL c r else
    match piecesL c r with
    | [] => [[x]]
    | p :: ps => (x :: p) :: ps

def joinL (c : UInt8) : List (List UInt8) → List UInt8
  | [] => []
  | [p] => p
  | p :: q :: ps => p ++ c :: joinL c (q :: ps)

theorem cutL_join (c : UInt8) : ∀ l, ((cutL c l).2.2 = true → l = (cutL c l).1 ++ c :: (cutL c l).2.1) ∧ ((cutL c l).2.2 = false → l = (cutL c l).1 ∧ (cutL c l).2.1 = [])
  | [] => by simp [cutL]
  | x :: r => by
    obtain ⟨h1, h2⟩ := cutL_join c r
    unfold cutL
    by_cases hx : x = c
    · simp [hx]
    · simp only [if_neg hx]
      refine ⟨fun h => by rw [List.cons_append, ← h1 h], fun h => ⟨by rw [← (h2 h).1], (h2 h).2⟩⟩
theorem cutL_lt (c : UInt8) (l : List UInt8) (h : (cutL c l).2.2 = true) : (cutL c l).2.1.length < l.length := by
  have := congrArg List.length ((cutL_join c l).1 h)
  rw [List.length_append, List.length_cons] at this
  omega
theorem cutL_len (c : UInt8) (l : List UInt8) : (cutL c l).1.length ≤ l.length ∧ (cutL c l).2.1.length ≤ l.length := by
  cases h : (cutL c l).2.2
  · obtain ⟨h1, h2⟩ := (cutL_join c l).2 h
    exact ⟨Nat.le_of_eq (congrArg List.length h1).symm, by rw [h2]; simp⟩
  · have := congrArg List.length ((cutL_join c l).1 h)
    rw [List.length_append, List.length_cons] at this
    omega
theorem cutL_no (c : UInt8) : ∀ l, c ∉ (cutL c l).1
  | [] => by simp [cutL]
  | x :: r => by
    unfold cutL
    by_cases hx : x = c
    · simp [hx]
    · simp only [if_neg hx, List.mem_cons, not_or]
      exact ⟨fun h => hx h.symm, cutL_no c r⟩
theorem cutL_hit (c : UInt8) : ∀ (p r : List UInt8), c ∉ p → cutL c (p ++ c :: r) = (p, r, true)
  | [], r, _ => by simp [cutL]
  | x :: p, r, h => by
    rw [List.mem_cons, not_or] at h
    have hx : ¬ x = c := fun e => h.1 e.symm
    rw [List.cons_append, cutL, if_neg hx, cutL_hit c p r h.2]
theorem cutL_miss (c : UInt8) : ∀ p : List UInt8, c ∉ p → cutL c p = (p, [], false)
  | [], _ => rfl
  | x :: p, h => by
    rw [List.mem_cons, not_or] at h
    have hx : ¬ x = c := fun e => h.1 e.symm
    rw [cutL, if_neg hx, cutL_miss c p h.2]

theorem pieces_cut (c : UInt8) : ∀ l, piecesL c l = (cutL c l).1 :: (if (cutL c l).2.2 = true then piecesL c (cutL c l).2.1 else [])
  | [] => by simp [cutL, piecesL]
  | x :: r => by
    have ih := pieces_cut c r
    rw [cutL, piecesL]
    by_cases hx : x = c
    · simp [hx]
    · simp only [if_neg hx]
      rw [ih]
theorem pieces_join (c : UInt8) : ∀ l, joinL c (piecesL c l) = l
  | [] => rfl
  | x :: r => by
    have ih := pieces_join c r
    unfold piecesL
    by_cases hx : x = c
    · rw [if_pos hx]
      have hp := pieces_cut c r
      rw [hp] at ih ⊢
      rw [joinL, ih, hx]; rfl
    · rw [if_neg hx]
      cases hp : piecesL c r with
      | nil => rw [pieces_cut] at hp; cases hp
      | cons p ps =>
        rw [hp] at ih
        cases ps with
        | nil => show x :: p = _; rw [show p = r from ih]
        | cons q ps => show (x :: p) ++ c :: joinL c (q :: ps) = _; rw [← ih]; rfl
theorem pieces_of (c : UInt8) : ∀ ps : List (List UInt8), ps ≠ [] → (∀ p ∈ ps, c ∉ p) → piecesL c (joinL c ps) = ps
  | [], h, _ => absurd rfl h
  | [p], _, h => by rw [joinL, pieces_cut, cutL_miss c p (h p (by simp))]; simp
  | p :: q :: ps, _, h => by
    rw [joinL, pieces_cut, cutL_hit c p _ (h p (by simp)), if_pos rfl, pieces_of c (q :: ps) (by simp) (fun p' hp' => h p' (List.mem_cons_of_mem _ hp'))]
theorem pieces_small (c : UInt8) (l : List UInt8) : ∀ p ∈ piecesL c l, p.length ≤ l.length := by
  induction hn : l.length using Nat.strongRecOn generalizing l with
  | _ n ih =>
    intro p hp
    rw [pieces_cut] at hp
    rcases List.mem_cons.1 hp with rfl | hp
    · have := (cutL_len c l).1; omega
    · cases hm : (cutL c l).2.2
      · rw [hm] at hp; simp at hp
      · rw [hm, if_pos rfl] at hp
        have := cutL_lt c l hm
        have := ih _ (by omega) (cutL c l).2.1 rfl p hp
        omega

theorem pieces_len (c : UInt8) : ∀ l, (piecesL c l).length ≤ l.length + 1
  | [] => by simp [piecesL]
  | x :: r => by
    have ih := pieces_len c r
    have hc := pieces_cut c r
    rw [piecesL]
    by_cases hx : x = c
    · rw [if_pos hx, List.length_cons, List.length_cons]; omega
    · rw [if_neg hx, hc]
      rw [hc] at ih
      simp only [List.length_cons] at ih ⊢
      omega

/-- What the library's search makes of it. -/
theorem cutL_index (c : UInt8) : ∀ l : List UInt8, (Go.Lib.indexByte l c = -1 ∧ cutL c l = (l, [], false)) ∨ ∃ i : Nat, Go.Lib.indexByte l c = (i : Int) ∧ i < l.length ∧ cutL c l = (l.take i, l.drop (i + 1), true)
  | [] => .inl ⟨by simp [Go.Lib.indexByte], rfl⟩
  | x :: r => by
    unfold cutL Go.Lib.indexByte
    by_cases hx : x = c
    · exact .inr ⟨0, by simp [hx], by simp, by simp [hx]⟩
    · rcases cutL_index c r with ⟨h1, h2⟩ | ⟨i, h1, h2, h3⟩
      · exact .inl ⟨by simp [hx, h1], by simp [hx, h2]⟩
      · refine .inr ⟨i + 1, ?_, by simp; omega, by simp [hx, h3]⟩
        have e : ((i : Int) == -1) = false := by simp
        simp [hx, h1, e]

/-! ### Numbers up to a greatest one -/

def upToO (top : Nat) (p : ByteArray) : Option Nat := match parseS p with
  | some (n, _) => if n ≤ top then some n else none
  | none => none

theorem upToO_dec (top n : Nat) (h : n ≤ top) (ht : top ≤ 1099511627776) : upToO top (bs (decB n)) = some n := by
  obtain ⟨k, hk⟩ := parse_back n (by omega)
  simp [upToO, hk, h]
theorem upToO_is (top n : Nat) (p : ByteArray) (h : upToO top p = some n) : n ≤ top ∧ p = bs (decB n) := by
  unfold upToO at h
  cases hp : parseS p with
  | none => rw [hp] at h; cases h
  | some x =>
    obtain ⟨m, k⟩ := x
    rw [hp] at h
    simp only at h
    by_cases hm : m ≤ top
    · rw [if_pos hm] at h
      obtain rfl : m = n := by injection h
      exact ⟨hm, (parse_is p m k hp).2⟩
    · rw [if_neg hm] at h; cases h


theorem dec_digit (n : Nat) (c : UInt8) (h : c ∈ decB n) : 48 ≤ c.toNat ∧ c.toNat ≤ 57 := by
  unfold decB at h
  obtain ⟨d, hd, rfl⟩ := List.mem_map.1 h
  have := dg_lt 10 (by omega) n d hd
  rw [u8_ofNat _ (by omega)]; omega
theorem dec_no (n : Nat) (c : UInt8) (h : c.toNat < 48) : c ∉ decB n := fun hc => by have := dec_digit n c hc; omega

/-! ### Addresses -/

def dotsB (a : Nat) : List UInt8 := joinL 46 [decB (a / 16777216 % 256), decB (a / 65536 % 256), decB (a / 256 % 256), decB (a % 256)]

def addrL : List (Option Nat) → Option Nat
  | [some a, some b, some c, some d] => some (((a * 256 + b) * 256 + c) * 256 + d)
  | _ => none
def addrO (s : ByteArray) : Option Nat := addrL ((piecesL 46 s.data.toList).map fun p => upToO 255 (bs p))

theorem dotsB_pieces (a : Nat) : piecesL 46 (dotsB a) = [decB (a / 16777216 % 256), decB (a / 65536 % 256), decB (a / 256 % 256), decB (a % 256)] := by
  refine pieces_of 46 _ (by simp) (fun p hp => ?_)
  simp only [List.mem_cons, List.not_mem_nil, or_false] at hp
  rcases hp with rfl | rfl | rfl | rfl <;> exact dec_no _ _ (by decide)

theorem addr_back (a : Nat) (h : a < 4294967296) : addrO (bs (dotsB a)) = some a := by
  unfold addrO
  rw [bs_data, dotsB_pieces]
  simp only [List.map_cons, List.map_nil]
  rw [upToO_dec 255 _ (by omega) (by omega), upToO_dec 255 _ (by omega) (by omega), upToO_dec 255 _ (by omega) (by omega), upToO_dec 255 _ (by omega) (by omega)]
  simp only [addrL]
  congr 1
  omega

theorem addrL_some {l : List (Option Nat)} {v : Nat} (h : addrL l = some v) : ∃ a b c d, l = [some a, some b, some c, some d] ∧ v = ((a * 256 + b) * 256 + c) * 256 + d := by
  unfold addrL at h
  split at h
  · injection h with h; exact ⟨_, _, _, _, rfl, h.symm⟩
  · cases h

theorem addr_is (s : ByteArray) (v : Nat) (h : addrO s = some v) : v < 4294967296 ∧ s = bs (dotsB v) := by
  obtain ⟨a, b, c, d, hl, hv⟩ := addrL_some h
  have hlen := congrArg List.length hl
  rw [List.length_map] at hlen
  match hp : piecesL 46 s.data.toList, hlen with
  | [p, q, r, t], _ =>
    rw [hp] at hl
    simp only [List.map_cons, List.map_nil, List.cons.injEq, and_true] at hl
    obtain ⟨h1, h2, h3, h4⟩ := hl
    obtain ⟨k1, e1⟩ := upToO_is _ _ _ h1
    obtain ⟨k2, e2⟩ := upToO_is _ _ _ h2
    obtain ⟨k3, e3⟩ := upToO_is _ _ _ h3
    obtain ⟨k4, e4⟩ := upToO_is _ _ _ h4
    refine ⟨by omega, ?_⟩
    have hj := pieces_join 46 s.data.toList
    rw [hp, bs_inj e1, bs_inj e2, bs_inj e3, bs_inj e4] at hj
    rw [← bs_of s, ← hj]
    unfold dotsB
    rw [show v / 16777216 % 256 = a by omega, show v / 65536 % 256 = b by omega, show v / 256 % 256 = c by omega, show v % 256 = d by omega]

/-! ### Nets -/

/-- An address with 0 behind its first bits. -/
def firstN (bits a : Nat) : Nat := a / 2 ^ (32 - bits) * 2 ^ (32 - bits)
def rightB (a : Nat) (bits : Int) : Bool := decide (0 ≤ bits) && decide (bits ≤ 32) && decide (firstN bits.toNat a = a)
def inB (n : Nat) (bits : Int) (a : Nat) : Bool := rightB n bits && decide (firstN bits.toNat a = n)
def slashL (a : Nat) (bits : Int) : List UInt8 := if rightB a bits = true then dotsB a ++ 47 :: decB bits.toNat else []
def netL : List (List UInt8) → Option (Nat × Nat)
  | [x, y] => match addrO (bs x), upToO 32 (bs y) with
    | some a, some b => if rightB a b = true then some (a, b) else none
    | _, _ => none
  | _ => none
def netO (s : ByteArray) : Option (Nat × Nat) := netL (piecesL 47 s.data.toList)

theorem dots_no (a : Nat) : (47 : UInt8) ∉ dotsB a := by
  unfold dotsB
  simp only [joinL, List.mem_append, List.mem_cons, not_or]
  refine ⟨dec_no _ _ (by decide), by decide, dec_no _ _ (by decide), by decide, dec_no _ _ (by decide), by decide, dec_no _ _ (by decide)⟩

theorem net_back (a : Nat) (bits : Int) (ha : a < 4294967296) (h : rightB a bits = true) : netO (bs (slashL a bits)) = some (a, bits.toNat) := by
  have hb : 0 ≤ bits ∧ bits ≤ 32 := by
    unfold rightB at h
    simp only [Bool.and_eq_true, decide_eq_true_eq] at h
    exact h.1
  unfold netO slashL
  rw [if_pos h, bs_data, pieces_cut, cutL_hit 47 _ _ (dots_no a), if_pos rfl]
  simp only
  rw [pieces_cut, cutL_miss 47 _ (dec_no _ _ (by decide))]
  simp only [Bool.false_eq_true, if_false, netL]
  rw [addr_back a ha, upToO_dec 32 _ (by omega) (by omega)]
  simp only
  have e : ((bits.toNat : Nat) : Int) = bits := by omega
  rw [e, if_pos h]

theorem net_is (s : ByteArray) (a b : Nat) (h : netO s = some (a, b)) : a < 4294967296 ∧ b ≤ 32 ∧ rightB a b = true ∧ s = bs (slashL a b) := by
  unfold netO at h
  have hj := pieces_join 47 s.data.toList
  match hp : piecesL 47 s.data.toList, h with
  | [x, y], h =>
    rw [hp] at hj
    simp only [netL] at h
    cases h1 : addrO (bs x) with
    | none => rw [h1] at h; cases h
    | some a' =>
      cases h2 : upToO 32 (bs y) with
      | none => rw [h1, h2] at h; cases h
      | some b' =>
        rw [h1, h2] at h
        simp only at h
        by_cases hr : rightB a' b' = true
        · rw [if_pos hr] at h
          injection h with h
          injection h with e1 e2
          subst e1; subst e2
          obtain ⟨k1, q1⟩ := addr_is _ _ h1
          obtain ⟨k2, q2⟩ := upToO_is _ _ _ h2
          refine ⟨k1, k2, hr, ?_⟩
          rw [← bs_of s, ← hj]
          unfold slashL
          rw [if_pos hr, bs_inj q1, bs_inj q2]; rfl
        · rw [if_neg hr] at h; cases h

/-! ### What the loops keep -/

def ixs : Nat → List (List UInt8) → List (Nat × ByteArray)
  | _, [] => []
  | k, p :: ps => (k, bs p) :: ixs (k + 1) ps
theorem ixs_len : ∀ (ps : List (List UInt8)) (k : Nat), (ixs k ps).length = ps.length
  | [], _ => rfl
  | p :: ps, k => by rw [ixs, List.length_cons, ixs_len ps, List.length_cons]
theorem ixs_append : ∀ (ps qs : List (List UInt8)) (k : Nat), ixs k (ps ++ qs) = ixs k ps ++ ixs (k + ps.length) qs
  | [], qs, k => rfl
  | p :: ps, qs, k => by rw [List.cons_append, ixs, ixs_append ps qs, ixs, List.cons_append, List.length_cons]; congr 3; omega

def okA (x : Nat × ByteArray) : Bool := (upToO 255 x.2).isSome && !decide (x.1 = 4)
def stA (s : Nat × Nat) (x : Nat × ByteArray) : Nat × Nat := ((s.1 * 256 + (upToO 255 x.2).getD 0) % 4294967296, x.1)
def fA (xs : List (Nat × ByteArray)) : Nat × Nat := xs.foldl stA (0, 0)
theorem fA_snoc (xs : List (Nat × ByteArray)) (x : Nat × ByteArray) : fA (xs ++ [x]) = stA (fA xs) x := by simp [fA]

theorem opt_some {o : Option Nat} (h : o.isSome = true) : ∃ n, o = some n := by cases o <;> simp_all

theorem okA_all {ps : List (List UInt8)} {v : Nat} (h : addrL (ps.map fun p => upToO 255 (bs p)) = some v) : ∀ x ∈ ixs 0 ps, okA x = true := by
  obtain ⟨a, b, c, d, hl, _⟩ := addrL_some h
  have hlen := congrArg List.length hl
  rw [List.length_map] at hlen
  match ps, hlen with
  | [p, q, r, t], _ =>
    simp only [List.map_cons, List.map_nil, List.cons.injEq, and_true] at hl
    obtain ⟨h1, h2, h3, h4⟩ := hl
    intro x hx
    simp only [ixs, List.mem_cons, List.not_mem_nil, or_false] at hx
    rcases hx with rfl | rfl | rfl | rfl <;> simp [okA, h1, h2, h3, h4]

theorem A_done (ps : List (List UInt8)) (h : ∀ x ∈ ixs 0 ps, okA x = true) : addrL (ps.map fun p => upToO 255 (bs p)) = if (fA (ixs 0 ps)).2 = 3 then some (fA (ixs 0 ps)).1 else none := by
  match ps with
  | [] => rfl
  | [p] => simp [ixs, fA, stA, addrL]
  | [p, q] => simp [ixs, fA, stA, addrL]
  | [p, q, r] => simp [ixs, fA, stA, addrL]
  | [p, q, r, t] =>
    have g : ∀ x ∈ [p, q, r, t], ∃ n, upToO 255 (bs x) = some n ∧ n ≤ 255 := by
      intro x hx
      have : (upToO 255 (bs x)).isSome = true := by
        simp only [ixs, List.mem_cons, List.not_mem_nil, or_false, forall_eq_or_imp, forall_eq, okA, Bool.and_eq_true] at h hx
        rcases hx with rfl | rfl | rfl | rfl
        · exact h.1.1
        · exact h.2.1.1
        · exact h.2.2.1.1
        · exact h.2.2.2.1
      obtain ⟨n, hn⟩ := opt_some this
      exact ⟨n, hn, (upToO_is _ _ _ hn).1⟩
    obtain ⟨a, h1, k1⟩ := g p (by simp)
    obtain ⟨b, h2, k2⟩ := g q (by simp)
    obtain ⟨c, h3, k3⟩ := g r (by simp)
    obtain ⟨d, h4, k4⟩ := g t (by simp)
    simp [ixs, fA, stA, addrL, h1, h2, h3, h4]
    omega
  | p :: q :: r :: t :: u :: ps =>
    have := h (4, bs u) (by simp [ixs])
    simp [okA] at this

theorem A_stop (ps : List (List UInt8)) (pre : List (Nat × ByteArray)) (hp : pre <+: ixs 0 ps) (x : Nat × ByteArray) (hx : x ∈ pre) (hb : okA x = false) : addrL (ps.map fun p => upToO 255 (bs p)) = none := by
  cases h : addrL (ps.map fun p => upToO 255 (bs p)) with
  | none => rfl
  | some v =>
    have := okA_all h x (hp.subset hx)
    rw [hb] at this; cases this

/-- The net's loop: what is right of the pieces that came. -/
def okN (x : Nat × ByteArray) : Bool := match x.1 with
  | 0 => (addrO x.2).isSome
  | 1 => (upToO 32 x.2).isSome
  | _ => false
structure StN where
  addr : Nat
  bits : Nat
  last : Nat
def stN (s : StN) (x : Nat × ByteArray) : StN := match x.1 with
  | 0 => ⟨(addrO x.2).getD 0, s.bits, 0⟩
  | 1 => ⟨s.addr, (upToO 32 x.2).getD 0, 1⟩
  | n + 2 => ⟨s.addr, s.bits, n + 2⟩
def fN (xs : List (Nat × ByteArray)) : StN := xs.foldl stN ⟨0, 0, 0⟩
theorem fN_snoc (xs : List (Nat × ByteArray)) (x : Nat × ByteArray) : fN (xs ++ [x]) = stN (fN xs) x := by simp [fN]

theorem N_done (ps : List (List UInt8)) (h : ∀ x ∈ ixs 0 ps, okN x = true) : netL ps = if (fN (ixs 0 ps)).last = 1 ∧ rightB (fN (ixs 0 ps)).addr (fN (ixs 0 ps)).bits = true then some ((fN (ixs 0 ps)).addr, (fN (ixs 0 ps)).bits) else none := by
  match ps with
  | [] => simp [netL, fN, ixs]
  | [p] => simp [netL, fN, ixs, stN]
  | [p, q] =>
    have h1 := h (0, bs p) (by simp [ixs])
    have h2 := h (1, bs q) (by simp [ixs])
    simp only [okN] at h1 h2
    obtain ⟨a, ha⟩ := opt_some h1
    obtain ⟨b, hb⟩ := opt_some h2
    simp [netL, fN, ixs, stN, ha, hb]
  | p :: q :: r :: ps =>
    have := h (2, bs r) (by simp [ixs])
    simp [okN] at this
theorem N_stop (ps : List (List UInt8)) (pre : List (Nat × ByteArray)) (hp : pre <+: ixs 0 ps) (x : Nat × ByteArray) (hx : x ∈ pre) (hb : okN x = false) : netL ps = none := by
  have hm := hp.subset hx
  match ps with
  | [] => simp [netL]
  | [p] => simp [netL]
  | [p, q] =>
    simp only [ixs, List.mem_cons, List.not_mem_nil, or_false] at hm
    rcases hm with rfl | rfl
    · simp only [okN] at hb
      have : addrO (bs p) = none := by cases h : addrO (bs p) <;> simp_all
      simp [netL, this]
    · simp only [okN] at hb
      have : upToO 32 (bs q) = none := by cases h : upToO 32 (bs q) <;> simp_all
      simp [netL, this]
  | p :: q :: r :: ps => simp [netL]

end Go.Proofs.Ytinjldjpncijjaa

/- syntax: first, right, In, upTo: their contracts. -/
namespace Go.Proofs.Ytinjldjpncijjaa
set_option linter.unusedVariables false
set_option maxRecDepth 100000
set_option linter.unusedSimpArgs false
open Go.RowKit

theorem firstN_le (bits a : Nat) : firstN bits a ≤ a := Nat.div_mul_le_self _ _
theorem first_cast (bits a : Nat) (ha : a < 4294967296) : (a : Int) / 2 ^ (32 - bits) * 2 ^ (32 - bits) % 4294967296 = (firstN bits a : Int) := by
  have h := firstN_le bits a
  have e : (a : Int) / 2 ^ (32 - bits) * 2 ^ (32 - bits) = ((firstN bits a : Nat) : Int) := by simp [firstN]
  rw [e]; omega

theorem cast_eq (x y : Nat) : ((x : Int) == (y : Int)) = decide (x = y) := by
  by_cases h : x = y
  · subst h; simp
  · rw [decide_eq_false h, beq_eq_false_iff_ne]; omega

end Go.Proofs.Ytinjldjpncijjaa

/- A byte of a text, its place a letter. -/
namespace Go.Proofs.Ytinjldjpncijjaa
set_option linter.unusedVariables false
set_option maxRecDepth 100000
set_option linter.unusedSimpArgs false
open Go.RowKit

theorem sidx (s : ByteArray) (i v : Nat) (h : i < s.size) (hv : (s.data.toList.getD i 0).toNat = v) (w : World) : (Instr.index 9 (.string s) (.int .i64 (i : Int))).run Try.prog w = .ok (.int .u8 (v : Int)) w := by
  subst hv
  rw [run_index_string (P := Try.prog) w 9 s .i64 i Try.underlying9]
  have e : s.data.toList.getD i 0 = s[i] := by
    have h2 : i < s.data.toList.length := h
    have : s.data.toList[i] = s[i] := by
      show s.data.toList[i] = s.data[i]
      simp
    rw [← this, List.getD, List.getElem?_eq_getElem h2]; rfl
  rw [e]
  simp [h]

end Go.Proofs.Ytinjldjpncijjaa

/- syntax: named, Name: their contracts. -/
namespace Go.Proofs.Ytinjldjpncijjaa
set_option linter.unusedVariables false
set_option maxRecDepth 100000
set_option linter.unusedSimpArgs false
open Go.RowKit

/-- May a name have that byte? -/
def nmdB (c : UInt8) : Bool := (decide (97 ≤ c.toNat) && decide (c.toNat ≤ 122)) || (decide (48 ≤ c.toNat) && decide (c.toNat ≤ 57)) || decide (c.toNat = 45)
def nameB (s : ByteArray) : Bool := decide (1 ≤ s.size) && decide (s.size ≤ 20) && decide ((s.data.toList.getD 0 0).toNat ≠ 45) && decide ((s.data.toList.getD (s.size - 1) 0).toNat ≠ 45) && s.data.toList.all nmdB

end Go.Proofs.Ytinjldjpncijjaa

/- Words of 32 bits as plain numbers, and the sum of bytes over them: what the document asks (SHA-256), as Lean functions. Nothing of the program is named here. -/
namespace Go.Proofs.Ytinjldjpncijjaa
set_option linter.unusedVariables false
set_option maxRecDepth 100000
set_option linter.unusedSimpArgs false

def wadd (a b : Nat) : Nat := (a + b) % 4294967296
def wxor (a b : Nat) : Nat := (a ^^^ b) % 4294967296
def wand (a b : Nat) : Nat := (a &&& b) % 4294967296
def wor (a b : Nat) : Nat := (a ||| b) % 4294967296
def wnot (a : Nat) : Nat := 4294967295 - a % 4294967296
def wshl (a n : Nat) : Nat := (a * 2 ^ n) % 4294967296
def wshr (a n : Nat) : Nat := (a % 4294967296) / 2 ^ n
/-- Turned to the right. -/
def rotr (x n : Nat) : Nat := wor (wshr x n) (wshl x (32 - n))
def great (x a b c : Nat) : Nat := wxor (wxor (rotr x a) (rotr x b)) (rotr x c)
def small (x a b c : Nat) : Nat := wxor (wxor (rotr x a) (rotr x b)) (wshr x c)

def H0 : List Nat := [0x6a09e667, 0xbb67ae85, 0x3c6ef372, 0xa54ff53a, 0x510e527f, 0x9b05688c, 0x1f83d9ab, 0x5be0cd19]
def KK : List Nat := [
  0x428a2f98, 0x71374491, 0xb5c0fbcf, 0xe9b5dba5, 0x3956c25b, 0x59f111f1, 0x923f82a4, 0xab1c5ed5,
  0xd807aa98, 0x12835b01, 0x243185be, 0x550c7dc3, 0x72be5d74, 0x80deb1fe, 0x9bdc06a7, 0xc19bf174,
  0xe49b69c1, 0xefbe4786, 0x0fc19dc6, 0x240ca1cc, 0x2de92c6f, 0x4a7484aa, 0x5cb0a9dc, 0x76f988da,
  0x983e5152, 0xa831c66d, 0xb00327c8, 0xbf597fc7, 0xc6e00bf3, 0xd5a79147, 0x06ca6351, 0x14292967,
  0x27b70a85, 0x2e1b2138, 0x4d2c6dfc, 0x53380d13, 0x650a7354, 0x766a0abb, 0x81c2c92e, 0x92722c85,
  0xa2bfe8a1, 0xa81a664b, 0xc24b8b70, 0xc76c51a3, 0xd192e819, 0xd6990624, 0xf40e3585, 0x106aa070,
  0x19a4c116, 0x1e376c08, 0x2748774c, 0x34b0bcb5, 0x391c0cb3, 0x4ed8aa4a, 0x5b9cca4f, 0x682e6ff3,
  0x748f82ee, 0x78a5636f, 0x84c87814, 0x8cc70208, 0x90befffa, 0xa4506ceb, 0xbef9a3f7, 0xc67178f2]

/-- Eight words: a to h, or H0 to H7. -/
structure St where
  a : Nat
  b : Nat
  c : Nat
  d : Nat
  e : Nat
  f : Nat
  g : Nat
  h : Nat

/-- One byte of a row as a number; 0 behind its end. -/
def byteAt (l : List UInt8) (i : Nat) : Nat := (l.getD i 0).toNat
/-- A word of four bytes, the highest first. -/
def wordAt (l : List UInt8) (p : Nat) : Nat := wor (wor (wor (wshl (byteAt l p) 24) (wshl (byteAt l (p + 1)) 16)) (wshl (byteAt l (p + 2)) 8)) (byteAt l (p + 3))
/-- The sixteen words of the block that begins at p. -/
def words16 (l : List UInt8) (p : Nat) : List Nat := (List.range 16).map fun i => wordAt l (p + 4 * i)
/-- One word more of a schedule. -/
def nextW (l : List Nat) : Nat :=
  wadd (wadd (wadd (small (l.getD (l.length - 2) 0) 17 19 10) (l.getD (l.length - 7) 0)) (small (l.getD (l.length - 15) 0) 7 18 3)) (l.getD (l.length - 16) 0)
def schedL (l : List Nat) : Nat → List Nat
  | 0 => l
  | n + 1 => schedL l n ++ [nextW (schedL l n)]
def sched (l : List Nat) : List Nat := schedL l 48
def rX (s : St) (k w : Nat) : Nat := wadd (wadd (wadd (wadd s.h (great s.e 6 11 25)) (wxor (wand s.e s.f) (wand (wnot s.e) s.g))) k) w
def rY (s : St) : Nat := wadd (great s.a 2 13 22) (wxor (wxor (wand s.a s.b) (wand s.a s.c)) (wand s.b s.c))
def round1 (s : St) (k w : Nat) : St := ⟨wadd (rX s k w) (rY s), s.a, s.b, s.c, wadd s.d (rX s k w), s.e, s.f, s.g⟩
def rounds (w : List Nat) (s : St) : Nat → St
  | 0 => s
  | n + 1 => round1 (rounds w s n) (KK.getD n 0) (w.getD n 0)
def addS (s t : St) : St := ⟨wadd s.a t.a, wadd s.b t.b, wadd s.c t.c, wadd s.d t.d, wadd s.e t.e, wadd s.f t.f, wadd s.g t.g, wadd s.h t.h⟩
def block1 (s : St) (w : List Nat) : St := addS s (rounds w s 64)
/-- The state behind n blocks of l. -/
def thr (s : St) (l : List UInt8) : Nat → St
  | 0 => s
  | n + 1 => block1 (thr s l n) (sched (words16 l (64 * n)))
def S0 : St := ⟨0x6a09e667, 0xbb67ae85, 0x3c6ef372, 0xa54ff53a, 0x510e527f, 0x9b05688c, 0x1f83d9ab, 0x5be0cd19⟩
/-- The eight bytes of a number of 64 bits, the highest first. -/
def be8 (n : Nat) : List UInt8 := (List.range 8).map fun i => UInt8.ofNat (n / 256 ^ (7 - i))
/-- How many blocks the bytes and what is put behind them make. -/
def nblk (n : Nat) : Nat := (n + 8) / 64 + 1
def pad (l : List UInt8) : List UInt8 := l ++ (128 :: List.replicate (64 * nblk l.length - 9 - l.length) 0) ++ be8 (8 * l.length)
def St.list (s : St) : List Nat := [s.a, s.b, s.c, s.d, s.e, s.f, s.g, s.h]
def outB (s : St) : List UInt8 := (List.range 32).map fun i => UInt8.ofNat ((s.list.getD (i / 4) 0) / 2 ^ (24 - 8 * (i % 4)))
def sum (l : List UInt8) : List UInt8 := outB (thr S0 (pad l) (nblk l.length))
set_option maxRecDepth 100000 in
theorem sum_nil : sum [] = [227, 176, 196, 66, 152, 252, 28, 20, 154, 251, 244, 200, 153, 111, 185, 36, 39, 174, 65, 228, 100, 155, 147, 76, 164, 149, 153, 27, 120, 82, 184, 85] := by decide +kernel
set_option maxRecDepth 100000 in
theorem sum_abc : sum [97, 98, 99] = [186, 120, 22, 191, 143, 1, 207, 234, 65, 65, 64, 222, 93, 174, 34, 35, 176, 3, 97, 163, 150, 23, 122, 156, 180, 16, 255, 97, 242, 0, 21, 173] := by decide +kernel

/-! How the walk spells them. -/
theorem w_add (x y : Nat) : IntKind.u32.wrap ((x : Int) + (y : Int)) = ((wadd x y : Nat) : Int) := by
  rw [IntKind.wrap_u32']; unfold wadd; omega
theorem v_add (x y : Nat) : ((x : Int) + (y : Int)) % 4294967296 = ((wadd x y : Nat) : Int) := by unfold wadd; omega
theorem v_shl (x n : Nat) : (x : Int) * 2 ^ n % 4294967296 = ((wshl x n : Nat) : Int) := by
  unfold wshl; rw [Int.natCast_emod, Int.natCast_mul, Int.natCast_pow]; rfl
theorem ofInt32 (a : Nat) : (BitVec.ofInt 32 (a : Int)).toNat = a % 4294967296 := by
  rw [BitVec.ofInt_natCast, BitVec.toNat_ofNat]
theorem xor_mod (a b : Nat) : (a % 4294967296) ^^^ (b % 4294967296) = (a ^^^ b) % 4294967296 := by
  have : (4294967296 : Nat) = 2 ^ 32 := rfl
  rw [this, Nat.xor_mod_two_pow]
theorem and_mod (a b : Nat) : (a % 4294967296) &&& (b % 4294967296) = (a &&& b) % 4294967296 := by
  have : (4294967296 : Nat) = 2 ^ 32 := rfl
  rw [this, Nat.and_mod_two_pow]
theorem or_mod (a b : Nat) : (a % 4294967296) ||| (b % 4294967296) = (a ||| b) % 4294967296 := by
  have : (4294967296 : Nat) = 2 ^ 32 := rfl
  rw [this, Nat.or_mod_two_pow]
theorem w_xor (x y : Nat) : bits .xor .u32 (x : Int) (y : Int) = ((wxor x y : Nat) : Int) := by
  show IntKind.u32.wrap ((BitVec.ofInt 32 (x : Int) ^^^ BitVec.ofInt 32 (y : Int)).toNat : Int) = _
  rw [BitVec.toNat_xor, ofInt32, ofInt32, xor_mod, IntKind.wrap_u32']; unfold wxor; omega
theorem w_and (x y : Nat) : bits .and .u32 (x : Int) (y : Int) = ((wand x y : Nat) : Int) := by
  show IntKind.u32.wrap ((BitVec.ofInt 32 (x : Int) &&& BitVec.ofInt 32 (y : Int)).toNat : Int) = _
  rw [BitVec.toNat_and, ofInt32, ofInt32, and_mod, IntKind.wrap_u32']; unfold wand; omega
theorem w_or (x y : Nat) : bits .or .u32 (x : Int) (y : Int) = ((wor x y : Nat) : Int) := by
  show IntKind.u32.wrap ((BitVec.ofInt 32 (x : Int) ||| BitVec.ofInt 32 (y : Int)).toNat : Int) = _
  rw [BitVec.toNat_or, ofInt32, ofInt32, or_mod, IntKind.wrap_u32']; unfold wor; omega
theorem all_xor (x : Nat) : 4294967295 ^^^ (x % 4294967296) = 4294967295 - x % 4294967296 := by
  have h : x % 4294967296 < 2 ^ 32 := Nat.mod_lt _ (by decide)
  have h1 := BitVec.toNat_not (x := BitVec.ofNat 32 (x % 4294967296))
  have h2 : ~~~(BitVec.ofNat 32 (x % 4294967296)) = BitVec.allOnes 32 ^^^ BitVec.ofNat 32 (x % 4294967296) := by
    rw [BitVec.allOnes_xor]
  rw [h2, BitVec.toNat_xor, BitVec.toNat_allOnes, BitVec.toNat_ofNat] at h1
  have e : x % 4294967296 % 2 ^ 32 = x % 4294967296 := Nat.mod_eq_of_lt h
  rw [e] at h1
  exact h1
theorem w_not (x : Nat) : bits .xor .u32 4294967295 (x : Int) = ((wnot x : Nat) : Int) := by
  show IntKind.u32.wrap ((BitVec.ofInt 32 ((4294967295 : Nat) : Int) ^^^ BitVec.ofInt 32 (x : Int)).toNat : Int) = _
  have e : 4294967295 % 4294967296 = 4294967295 := by decide
  rw [BitVec.toNat_xor, ofInt32, ofInt32, e, all_xor, IntKind.wrap_u32']; unfold wnot; omega
theorem w_shl (x n : Nat) (h : n ≤ 32) : IntKind.u32.wrap ((x : Int) * 2 ^ n) = ((wshl x n : Nat) : Int) := by
  rw [IntKind.wrap_u32']; unfold wshl; rw [Int.natCast_emod, Int.natCast_mul, Int.natCast_pow]; rfl
theorem w_shr (x n : Nat) (h : x < 4294967296) : (x : Int) / 2 ^ n = ((wshr x n : Nat) : Int) := by
  unfold wshr; rw [Nat.mod_eq_of_lt h, Int.natCast_ediv, Int.natCast_pow]; rfl
theorem wadd_lt (a b : Nat) : wadd a b < 4294967296 := Nat.mod_lt _ (by decide)
theorem wxor_lt (a b : Nat) : wxor a b < 4294967296 := Nat.mod_lt _ (by decide)
theorem wand_lt (a b : Nat) : wand a b < 4294967296 := Nat.mod_lt _ (by decide)
theorem wor_lt (a b : Nat) : wor a b < 4294967296 := Nat.mod_lt _ (by decide)
theorem wnot_lt (a : Nat) : wnot a < 4294967296 := by unfold wnot; omega
theorem wshl_lt (a b : Nat) : wshl a b < 4294967296 := Nat.mod_lt _ (by decide)
theorem wshr_lt (a b : Nat) : wshr a b < 4294967296 := Nat.lt_of_le_of_lt (Nat.div_le_self _ _) (Nat.mod_lt _ (by decide))
theorem rotr_lt (x n : Nat) : rotr x n < 4294967296 := wor_lt _ _
theorem great_lt (x a b c : Nat) : great x a b c < 4294967296 := wxor_lt _ _
theorem small_lt (x a b c : Nat) : small x a b c < 4294967296 := wxor_lt _ _
theorem wor_comm (a b : Nat) : wor a b = wor b a := by unfold wor; rw [Nat.or_comm]
theorem words16_len (l : List UInt8) (p : Nat) : (words16 l p).length = 16 := by
  unfold words16; rw [List.length_map, List.length_range]
theorem words16_at (l : List UInt8) (p i : Nat) (hi : i < 16) : (words16 l p).getD i 0 = wordAt l (p + 4 * i) := by
  unfold words16
  have h : (List.range 16)[i]? = some i := by rw [List.getElem?_range hi]
  rw [List.getD, List.getElem?_map, h, Option.map_some, Option.getD_some]
/-- A word as a value. -/
abbrev wd (x : Nat) : Value := .int .u32 (x : Int)
end Go.Proofs.Ytinjldjpncijjaa

/- Arrays of words in memory, known whole. Nothing of the program is named here. -/
namespace Go.Proofs.Ytinjldjpncijjaa
set_option linter.unusedVariables false
set_option maxRecDepth 100000
set_option linter.unusedSimpArgs false
open Go.RowKit

/-- Words as cells. -/
def wcells (l : List Nat) : Array Value := (l.map wd).toArray
theorem wcells_size (l : List Nat) : (wcells l).size = l.length := by simp [wcells]
theorem wcells_at (l : List Nat) (i : Nat) (h : i < l.length) : (wcells l)[i]? = some (wd (l.getD i 0)) := by simp [wcells, h, List.getD]
theorem wcells_one (l : List Nat) : (wcells l).all (·.oneCell') = true := by
  rw [Array.all_eq_true_iff_forall_mem]
  intro v hv
  simp only [wcells, List.mem_toArray, List.mem_map] at hv
  obtain ⟨x, _, rfl⟩ := hv
  rfl
/-- The first words of n, the others 0. -/
def pre (l : List Nat) (n : Nat) : List Nat := l ++ List.replicate (n - l.length) 0
theorem pre_len (l : List Nat) (n : Nat) (h : l.length ≤ n) : (pre l n).length = n := by simp [pre]; omega
theorem pre_full (l : List Nat) (n : Nat) (h : l.length = n) : pre l n = l := by simp [pre, h]
theorem pre_at (l : List Nat) (n j : Nat) (h : j < l.length) : (pre l n).getD j 0 = l.getD j 0 := by
  simp [pre, List.getD, List.getElem?_append, h]
theorem wcells_set (l : List Nat) (i x : Nat) : (wcells l).setIfInBounds i (wd x) = wcells (l.set i x) := by
  simp [wcells, List.map_set]
theorem pre_set (l : List Nat) (n x : Nat) (h : l.length < n) : (pre l n).set l.length x = pre (l ++ [x]) n := by
  unfold pre
  obtain ⟨k, hk⟩ : ∃ k, n - l.length = k + 1 := ⟨n - l.length - 1, by omega⟩
  have e : n - (l ++ [x]).length = k := by simp; omega
  rw [hk, e, List.set_append_right _ _ (Nat.le_refl _), Nat.sub_self, List.replicate_succ, List.set_cons_zero]
  simp

theorem take_next (l : List Nat) (i : Nat) (h : i < l.length) : l.take i ++ [l.getD i 0] = l.take (i + 1) := by
  rw [List.take_add_one, List.getD, List.getElem?_eq_getElem h]; rfl
/-- The cell that is written next, and what lies there then. -/
theorem pre_next (l : List Nat) (n i x : Nat) (hn : l.length = n) (hi : i < n) (hx : l.getD i 0 = x) :
    (wcells (pre (l.take i) n))[i]? = some (wd 0) ∧ (wcells (pre (l.take i) n)).setIfInBounds i (wd x) = wcells (pre (l.take (i + 1)) n) := by
  have hl : (l.take i).length = i := by rw [List.length_take]; omega
  constructor
  · rw [wcells_at _ _ (by rw [pre_len _ _ (by omega)]; exact hi)]
    congr 2
    unfold pre
    rw [List.getD, List.getElem?_append_right (by omega), hl, Nat.sub_self]
    rw [List.getElem?_replicate]
    split <;> rfl
  · rw [wcells_set, ← take_next l i (by omega), hx]
    have := pre_set (l.take i) n x (by omega)
    rw [hl] at this
    rw [this]
theorem splice_pre (l : List Nat) (n : Nat) (h : l.length ≤ n) : splice ((pre [] n).map wd) 0 (l.map wd) = (pre l n).map wd := by
  simp only [splice, pre, List.take_zero, List.nil_append, List.length_map, Nat.zero_add, List.length_nil, Nat.sub_zero, List.map_replicate, List.drop_replicate, List.map_append]
/-- One array is being filled: all below it stands, and but for one place it is as it was. -/
def Fill (wr : World) (g : Nat) (t : TypeId) (C : Array Value) (i : Nat) (u : World) : Prop := Below g wr u ∧ ∃ x, Bk u g t (C.setIfInBounds i x)
theorem Fill.first {wr : World} {g : Nat} {t : TypeId} {C : Array Value} {i : Nat} (h : Bk wr g t C) (hi : i < C.size) : Fill wr g t C i wr.drew :=
  ⟨(Below.refl _ _).drew, C[i], by
    have : C.setIfInBounds i C[i] = C := by
      apply Array.ext
      · simp
      · intro j h1 h2
        rw [Array.getElem_setIfInBounds]
        split
        · rename_i e; subst e; rfl
        · rfl
    rw [this]; exact h.drew⟩
theorem Fill.below {wr : World} {g : Nat} {t : TypeId} {C : Array Value} {i : Nat} {u u' : World} (h : Fill wr g t C i u) (hb : Below u.heap.size u u') : Fill wr g t C i u' := by
  obtain ⟨h1, x, h2⟩ := h
  have hg := h2.lt
  exact ⟨h1.trans (hb.mono (by omega)), x, h2.below hb hg⟩
theorem Fill.cell {wr : World} {g : Nat} {t : TypeId} {C : Array Value} {i : Nat} {u : World} (h : Fill wr g t C i u) (j : Nat) (hj : j ≠ i) : u.cell? ⟨g, j, none⟩ = C[j]? := by
  obtain ⟨_, x, h2⟩ := h
  rw [h2.cell, Array.getElem?_setIfInBounds, if_neg (Ne.symm hj)]
theorem Fill.here {wr : World} {g : Nat} {t : TypeId} {C : Array Value} {i : Nat} {u : World} (h : Fill wr g t C i u) (hi : i < C.size) : ∃ v, u.cell? ⟨g, i, none⟩ = some v := by
  obtain ⟨_, x, h2⟩ := h
  exact ⟨x, by rw [h2.cell, Array.getElem?_setIfInBounds, if_pos rfl, if_pos hi]⟩
theorem Fill.frozen {wr : World} {g : Nat} {t : TypeId} {C : Array Value} {i : Nat} {u : World} (h : Fill wr g t C i u) (j : Nat) : u.frozen? ⟨g, j, none⟩ = false := by
  obtain ⟨_, x, h2⟩ := h
  exact h2.frozen j
theorem Fill.set {wr : World} {g : Nat} {t : TypeId} {C : Array Value} {i : Nat} {u : World} (h : Fill wr g t C i u) (v : Value) :
    Fill wr g t C i (u.setCell ⟨g, i, none⟩ v) ∧ Bk (u.setCell ⟨g, i, none⟩ v) g t (C.setIfInBounds i v) ∧ Below g wr (u.setCell ⟨g, i, none⟩ v) := by
  obtain ⟨h1, x, h2⟩ := h
  have e : (C.setIfInBounds i x).setIfInBounds i v = C.setIfInBounds i v := by
    simp
  have hb : Bk (u.setCell ⟨g, i, none⟩ v) g t (C.setIfInBounds i v) := by
    have := h2.set i v
    rw [e] at this
    exact this
  have hB : Below g wr (u.setCell ⟨g, i, none⟩ v) := h1.setCell (p := ⟨g, i, none⟩) (Nat.le_refl _) _
  exact ⟨⟨hB, v, hb⟩, hb, hB⟩
/-- An element of an array that is a value. -/
theorem wpList_index {P : Program} {ops : Array Oper} {rest : List Oper} {o : Oper} {a : Act} {Q : Exit → Act → World → Prop} {w : World} (hgd : o.guard = none) (t : TypeId) (x i : Operand) (ho : o.op = .index t x i) (vx vi v : Value) (hx : a.eval x = vx) (hi : a.eval i = vi)
    (hr : (Instr.index t vx vi).run P w = .ok v w) (h : wpList P ops Q rest (a.put o.dst v) w) : wpList P ops Q (o :: rest) a w :=
  wpList_plain hgd fun _ hK => by
    unfold Oper.wp execOp
    simp only [ho, hx, hi, Sem.run_bind, hr, Result.andThen_ok, Sem.run_pure]
    exact hK _ _ h
/-- From here on the world is one of which S holds. -/
theorem gen_world {P : Program} {c : Code} {Q : Exit → Act → World → Prop} {a : Act} {w : World} (S : World → Prop) (hS : S w) (h : ∀ u, S u → c.wp P Q a u) : c.wp P Q a w := h w hS
theorem Bk.setRow {w : World} {g : Nat} {t : TypeId} {cs : Array Value} (h : Bk w g t cs) (cs' : Array Value) : Bk (w.setRow g cs') g t cs' := setRow_heap w g cs cs' t (0, 0) h
theorem Bk.setRowFar {w : World} {g g' : Nat} {t : TypeId} {cs : Array Value} (h : Bk w g t cs) (hg : g ≠ g') (cs' : Array Value) : Bk (w.setRow g' cs') g t cs := by
  have : (w.setRow g' cs').heap[g]? = w.heap[g]? := by
    unfold World.setRow
    simp only [Array.getElem?_modify]
    rw [if_neg (Ne.symm hg)]
  exact this.trans h
theorem Below.setRow {B : Nat} {a w : World} (h : Below B a w) (g : Nat) (hg : B ≤ g) (cs : Array Value) : Below B a (w.setRow g cs) :=
  ⟨h.os, h.tape, h.output, by show a.heap.size ≤ (w.heap.modify g _).size; rw [Array.size_modify]; exact h.size, fun i hi => by
    have : (w.setRow g cs).heap[i]? = w.heap[i]? := by
      unfold World.setRow
      simp only [Array.getElem?_modify]
      rw [if_neg (by omega)]
    exact this.trans (h.block i hi)⟩
theorem Bk.drewN' {w : World} {g : Nat} {t : TypeId} {cs : Array Value} (h : Bk w g t cs) (n : Nat) : Bk (w.drewN n) g t cs := h
end Go.Proofs.Ytinjldjpncijjaa

/- The schedule of a block: its words, one by one. Nothing of the program is named here. -/
namespace Go.Proofs.Ytinjldjpncijjaa
set_option linter.unusedVariables false
set_option maxRecDepth 100000
set_option linter.unusedSimpArgs false

theorem getD_left (l r : List Nat) (i : Nat) (h : i < l.length) : (l ++ r).getD i 0 = l.getD i 0 := by
  rw [List.getD, List.getD, List.getElem?_append_left h]
theorem getD_right (l r : List Nat) (i : Nat) (h : l.length ≤ i) : (l ++ r).getD i 0 = r.getD (i - l.length) 0 := by
  rw [List.getD, List.getD, List.getElem?_append_right h]
theorem schedL_len (l : List Nat) (h : l.length = 16) : ∀ n, (schedL l n).length = 16 + n
  | 0 => by rw [schedL, h]
  | n + 1 => by rw [schedL, List.length_append, schedL_len l h n]; simp; omega
theorem schedL_low (l : List Nat) (h : l.length = 16) (n i : Nat) (hi : i < 16 + n) : ∀ k, (schedL l (n + k)).getD i 0 = (schedL l n).getD i 0
  | 0 => rfl
  | k + 1 => by
    have hl := schedL_len l h (n + k)
    rw [← Nat.add_assoc, schedL, getD_left _ _ _ (by omega), schedL_low l h n i hi k]
theorem sched_len (l : List Nat) (h : l.length = 16) : (sched l).length = 64 := schedL_len l h 48
theorem sched_take (l : List Nat) (h : l.length = 16) : (sched l).take 16 = l := by
  have : ∀ n, ∃ r, schedL l n = l ++ r := by
    intro n
    induction n with
    | zero => exact ⟨[], by rw [schedL, List.append_nil]⟩
    | succ n ih => obtain ⟨r, hr⟩ := ih; exact ⟨r ++ [nextW (schedL l n)], by rw [schedL, ← List.append_assoc, ← hr]⟩
  obtain ⟨r, hr⟩ := this 48
  rw [sched, hr, ← h, List.take_left]
theorem sched_at (l : List Nat) (h : l.length = 16) (i : Nat) (h1 : 16 ≤ i) (h2 : i < 64) : (sched l).getD i 0 =
    wadd (wadd (wadd (small ((sched l).getD (i - 2) 0) 17 19 10) ((sched l).getD (i - 7) 0)) (small ((sched l).getD (i - 15) 0) 7 18 3)) ((sched l).getD (i - 16) 0) := by
  obtain ⟨n, rfl⟩ : ∃ n, i = 16 + n := ⟨i - 16, by omega⟩
  have hl := schedL_len l h n
  have low : ∀ j, j < 16 + n → (sched l).getD j 0 = (schedL l n).getD j 0 := by
    intro j hj
    have := schedL_low l h n j hj (48 - n)
    rw [show n + (48 - n) = 48 by omega] at this
    exact this
  have top : (sched l).getD (16 + n) 0 = nextW (schedL l n) := by
    have := schedL_low l h (n + 1) (16 + n) (by omega) (48 - (n + 1))
    rw [show n + 1 + (48 - (n + 1)) = 48 by omega] at this
    refine Eq.trans this ?_
    rw [schedL, getD_right _ _ _ (by omega), hl, Nat.sub_self, List.getD_cons_zero]
  rw [top, low _ (by omega), low _ (by omega), low _ (by omega), low _ (by omega), nextW, hl]
theorem sched_lt (l : List Nat) (h : l.length = 16) (hl : ∀ i, l.getD i 0 < 4294967296) (i : Nat) : (sched l).getD i 0 < 4294967296 := by
  by_cases h2 : i < 64
  · by_cases h1 : 16 ≤ i
    · rw [sched_at l h i h1 h2]; exact wadd_lt _ _
    · have := schedL_low l h 0 i (by omega) 48
      rw [Nat.zero_add] at this
      have e : (sched l).getD i 0 = l.getD i 0 := this
      rw [e]; exact hl i
  · have := sched_len l h
    rw [List.getD, List.getElem?_eq_none (by omega), Option.getD_none]; decide
theorem words16_lt (l : List UInt8) (p i : Nat) : (words16 l p).getD i 0 < 4294967296 := by
  by_cases hi : i < 16
  · rw [words16_at l p i hi, wordAt]; exact wor_lt _ _
  · rw [List.getD, List.getElem?_eq_none (by rw [words16_len]; omega), Option.getD_none]; decide
end Go.Proofs.Ytinjldjpncijjaa

/- The eight words of a state. Nothing of the program is named here. -/
namespace Go.Proofs.Ytinjldjpncijjaa
set_option linter.unusedVariables false
set_option maxRecDepth 100000
set_option linter.unusedSimpArgs false

/-- A state as an array's value, and as its cells. -/
abbrev s8 (s : St) : Array Value := #[wd s.a, wd s.b, wd s.c, wd s.d, wd s.e, wd s.f, wd s.g, wd s.h]
abbrev A8 (s : St) : Value := .agg (s8 s)
structure St.Ok (s : St) : Prop where
  a : s.a < 4294967296
  b : s.b < 4294967296
  c : s.c < 4294967296
  d : s.d < 4294967296
  e : s.e < 4294967296
  f : s.f < 4294967296
  g : s.g < 4294967296
  h : s.h < 4294967296
theorem round1_ok {s : St} (h : s.Ok) (k w : Nat) : (round1 s k w).Ok := ⟨wadd_lt _ _, h.a, h.b, h.c, wadd_lt _ _, h.e, h.f, h.g⟩
theorem rounds_ok (w : List Nat) {s : St} (h : s.Ok) : ∀ n, (rounds w s n).Ok
  | 0 => h
  | n + 1 => round1_ok (rounds_ok w h n) _ _
theorem addS_ok (s t : St) : (addS s t).Ok := ⟨wadd_lt _ _, wadd_lt _ _, wadd_lt _ _, wadd_lt _ _, wadd_lt _ _, wadd_lt _ _, wadd_lt _ _, wadd_lt _ _⟩
theorem thr_ok {s : St} (h : s.Ok) (l : List UInt8) : ∀ n, (thr s l n).Ok
  | 0 => h
  | n + 1 => addS_ok _ _
theorem S0_ok : S0.Ok := by constructor <;> decide
/-- The first i words are added. -/
def mix (s r : St) : Nat → St
  | 0 => s
  | 1 => ⟨wadd s.a r.a, s.b, s.c, s.d, s.e, s.f, s.g, s.h⟩
  | 2 => ⟨wadd s.a r.a, wadd s.b r.b, s.c, s.d, s.e, s.f, s.g, s.h⟩
  | 3 => ⟨wadd s.a r.a, wadd s.b r.b, wadd s.c r.c, s.d, s.e, s.f, s.g, s.h⟩
  | 4 => ⟨wadd s.a r.a, wadd s.b r.b, wadd s.c r.c, wadd s.d r.d, s.e, s.f, s.g, s.h⟩
  | 5 => ⟨wadd s.a r.a, wadd s.b r.b, wadd s.c r.c, wadd s.d r.d, wadd s.e r.e, s.f, s.g, s.h⟩
  | 6 => ⟨wadd s.a r.a, wadd s.b r.b, wadd s.c r.c, wadd s.d r.d, wadd s.e r.e, wadd s.f r.f, s.g, s.h⟩
  | 7 => ⟨wadd s.a r.a, wadd s.b r.b, wadd s.c r.c, wadd s.d r.d, wadd s.e r.e, wadd s.f r.f, wadd s.g r.g, s.h⟩
  | _ => addS s r
theorem round1_a (s : St) (k w : Nat) : (round1 s k w).a = wadd (wadd (wadd (wadd (wadd s.h (great s.e 6 11 25)) (wxor (wand s.e s.f) (wand (wnot s.e) s.g))) k) w) (wadd (great s.a 2 13 22) (wxor (wxor (wand s.a s.b) (wand s.a s.c)) (wand s.b s.c))) := by
  rw [round1, rX, rY]
theorem round1_e (s : St) (k w : Nat) : (round1 s k w).e = wadd s.d (wadd (wadd (wadd (wadd s.h (great s.e 6 11 25)) (wxor (wand s.e s.f) (wand (wnot s.e) s.g))) k) w) := by
  rw [round1, rX]
theorem mix_set_0 (s r : St) : (s8 (mix s r 0)).setIfInBounds 0 (wd (wadd s.a r.a)) = s8 (mix s r 1) := by
  simp only [mix, addS, List.setIfInBounds_toArray, List.set_cons_zero, List.set_cons_succ]
theorem mix_set_1 (s r : St) : (s8 (mix s r 1)).setIfInBounds 1 (wd (wadd s.b r.b)) = s8 (mix s r 2) := by
  simp only [mix, addS, List.setIfInBounds_toArray, List.set_cons_zero, List.set_cons_succ]
theorem mix_set_2 (s r : St) : (s8 (mix s r 2)).setIfInBounds 2 (wd (wadd s.c r.c)) = s8 (mix s r 3) := by
  simp only [mix, addS, List.setIfInBounds_toArray, List.set_cons_zero, List.set_cons_succ]
theorem mix_set_3 (s r : St) : (s8 (mix s r 3)).setIfInBounds 3 (wd (wadd s.d r.d)) = s8 (mix s r 4) := by
  simp only [mix, addS, List.setIfInBounds_toArray, List.set_cons_zero, List.set_cons_succ]
theorem mix_set_4 (s r : St) : (s8 (mix s r 4)).setIfInBounds 4 (wd (wadd s.e r.e)) = s8 (mix s r 5) := by
  simp only [mix, addS, List.setIfInBounds_toArray, List.set_cons_zero, List.set_cons_succ]
theorem mix_set_5 (s r : St) : (s8 (mix s r 5)).setIfInBounds 5 (wd (wadd s.f r.f)) = s8 (mix s r 6) := by
  simp only [mix, addS, List.setIfInBounds_toArray, List.set_cons_zero, List.set_cons_succ]
theorem mix_set_6 (s r : St) : (s8 (mix s r 6)).setIfInBounds 6 (wd (wadd s.g r.g)) = s8 (mix s r 7) := by
  simp only [mix, addS, List.setIfInBounds_toArray, List.set_cons_zero, List.set_cons_succ]
theorem mix_set_7 (s r : St) : (s8 (mix s r 7)).setIfInBounds 7 (wd (wadd s.h r.h)) = s8 (mix s r 8) := by
  simp only [mix, addS, List.setIfInBounds_toArray, List.set_cons_zero, List.set_cons_succ]
theorem mix_at_0 (s r : St) : (s8 (mix s r 0))[0]? = some (.int .u32 (s.a : Int)) := by
  simp [s8, mix]
theorem mix_at_1 (s r : St) : (s8 (mix s r 1))[1]? = some (.int .u32 (s.b : Int)) := by
  simp [s8, mix]
theorem mix_at_2 (s r : St) : (s8 (mix s r 2))[2]? = some (.int .u32 (s.c : Int)) := by
  simp [s8, mix]
theorem mix_at_3 (s r : St) : (s8 (mix s r 3))[3]? = some (.int .u32 (s.d : Int)) := by
  simp [s8, mix]
theorem mix_at_4 (s r : St) : (s8 (mix s r 4))[4]? = some (.int .u32 (s.e : Int)) := by
  simp [s8, mix]
theorem mix_at_5 (s r : St) : (s8 (mix s r 5))[5]? = some (.int .u32 (s.f : Int)) := by
  simp [s8, mix]
theorem mix_at_6 (s r : St) : (s8 (mix s r 6))[6]? = some (.int .u32 (s.g : Int)) := by
  simp [s8, mix]
theorem mix_at_7 (s r : St) : (s8 (mix s r 7))[7]? = some (.int .u32 (s.h : Int)) := by
  simp [s8, mix]
theorem mix_8 (s r : St) : mix s r 8 = addS s r := rfl
theorem s8_size (s : St) : (s8 s).size = 8 := rfl
theorem s8_same (s t : St) : (s8 s).size = (s8 t).size := (s8_size s).trans (s8_size t).symm
theorem z8_size (t : St) : (wcells [0, 0, 0, 0, 0, 0, 0, 0]).size = (s8 t).size := (wcells_size _).trans (s8_size t).symm
theorem s8_one (s : St) : (s8 s).all (·.oneCell') = true := by simp [Value.oneCell']
theorem KK_len : KK.length = 64 := rfl
end Go.Proofs.Ytinjldjpncijjaa

/- Bytes in digits, and the bytes of digits: what the document asks, as Lean functions. Nothing of the program is named here. -/
namespace Go.Proofs.Ytinjldjpncijjaa
set_option linter.unusedVariables false
set_option maxRecDepth 100000
set_option linter.unusedSimpArgs false

def digs : List UInt8 := [48, 49, 50, 51, 52, 53, 54, 55, 56, 57, 97, 98, 99, 100, 101, 102]
/-- The digit of a number below 16. -/
def dig (n : Nat) : UInt8 := digs.getD n 0
def hexB : List UInt8 → List UInt8
  | [] => []
  | c :: r => dig (c.toNat / 16) :: dig (c.toNat % 16) :: hexB r
theorem hexB_len : ∀ l, (hexB l).length = 2 * l.length
  | [] => rfl
  | c :: r => by rw [hexB, List.length_cons, List.length_cons, hexB_len r, List.length_cons]; omega
theorem hexB_app : ∀ a b, hexB (a ++ b) = hexB a ++ hexB b
  | [], b => rfl
  | c :: r, b => by rw [List.cons_append, hexB, hexB, hexB_app r b]; rfl
theorem hexB_take (l : List UInt8) (i : Nat) (h : i < l.length) : hexB (l.take (i + 1)) = hexB (l.take i) ++ [dig (l[i].toNat / 16)] ++ [dig (l[i].toNat % 16)] := by
  rw [List.take_add_one, List.getElem?_eq_getElem h, hexB_app, List.append_assoc]; rfl
/-- A digit's number, if it is one. -/
def val (c : UInt8) : Option Nat := if 48 ≤ c.toNat ∧ c.toNat ≤ 57 then some (c.toNat - 48) else if 97 ≤ c.toNat ∧ c.toNat ≤ 102 then some (c.toNat - 87) else none
theorem val_lt (c : UInt8) (n : Nat) (h : val c = some n) : n < 16 := by
  unfold val at h
  split at h
  · injection h with h; omega
  · split at h
    · injection h with h; omega
    · cases h
theorem val_dig (n : Nat) (h : n < 16) : val (dig n) = some n := by
  have : ∀ m : Fin 16, val (dig m.val) = some m.val := by decide
  exact this ⟨n, h⟩
theorem dig_val (c : UInt8) (n : Nat) (h : val c = some n) : dig n = c := by
  have : ∀ k : Fin 256, ∀ n : Fin 16, val (UInt8.ofNat k.val) = some n.val → dig n.val = UInt8.ofNat k.val := by decide +kernel
  have h1 := this ⟨c.toNat, c.toNat_lt⟩ ⟨n, val_lt c n h⟩
  simp only [UInt8.ofNat_toNat] at h1
  exact h1 h
/-- The bytes of digits, two of each; none if one of these is no digit. -/
def unhexB : List UInt8 → Option (List UInt8)
  | [] => some []
  | [_] => none
  | a :: b :: r => match val a, val b, unhexB r with
    | some x, some y, some l => some (UInt8.ofNat (16 * x + y) :: l)
    | _, _, _ => none
theorem unhexB_hexB : ∀ l, unhexB (hexB l) = some l
  | [] => rfl
  | c :: r => by
    have h := c.toNat_lt
    rw [hexB, unhexB, val_dig _ (by omega), val_dig _ (by omega), unhexB_hexB r]
    simp only
    congr 2
    rw [show 16 * (c.toNat / 16) + c.toNat % 16 = c.toNat by omega, UInt8.ofNat_toNat]
theorem hexB_unhexB : ∀ s l, unhexB s = some l → hexB l = s
  | [], l, h => by rw [unhexB] at h; injection h with h; subst h; rfl
  | [_], l, h => by rw [unhexB] at h; cases h
  | a :: b :: r, l, h => by
    rw [unhexB] at h
    cases ha : val a with
    | none => rw [ha] at h; cases h
    | some x =>
      cases hb : val b with
      | none => rw [ha, hb] at h; cases h
      | some y =>
        cases hr : unhexB r with
        | none => rw [ha, hb, hr] at h; cases h
        | some t =>
          rw [ha, hb, hr] at h
          injection h with h
          subst h
          have hx := val_lt a x ha
          have hy := val_lt b y hb
          have e : (UInt8.ofNat (16 * x + y)).toNat = 16 * x + y := by rw [UInt8.toNat_ofNat']; exact Nat.mod_eq_of_lt (by omega)
          rw [hexB, e, show (16 * x + y) / 16 = x by omega, show (16 * x + y) % 16 = y by omega, dig_val a x ha, dig_val b y hb, hexB_unhexB r t hr]
theorem unhexB_odd : ∀ s, s.length % 2 = 1 → unhexB s = none
  | [], h => by simp at h
  | [_], _ => rfl
  | a :: b :: r, h => by
    rw [unhexB, unhexB_odd r (by simp only [List.length_cons] at h; omega)]
    cases val a <;> cases val b <;> rfl
theorem unhexB_app : ∀ a b x y, unhexB a = some x → unhexB b = some y → unhexB (a ++ b) = some (x ++ y)
  | a, b, x, y, hx, hy => by
    rw [← hexB_unhexB a x hx, ← hexB_unhexB b y hy, ← hexB_app, unhexB_hexB]
end Go.Proofs.Ytinjldjpncijjaa

/- Configurations, their texts, and what is read of a text: plain mathematics. -/
namespace Go.Proofs.Ytinjldjpncijjaa
set_option linter.unusedVariables false
set_option maxRecDepth 100000
set_option linter.unusedSimpArgs false

/-! ### What may be -/

structure Nt where
  addr : Nat
  bits : Int
structure Tk where
  name : ByteArray
  sec : ByteArray
  till : Int
structure Tn where
  name : ByteArray
  names : Int
  visitors : Int
  nets : List Nt
  toks : List Tk
structure Cg where
  wait : Int
  grace : Int
  idle : Int
  lease : Int
  tens : List Tn

/-- Is one text less than another one? -/
def ltS (a b : ByteArray) : Bool := Op.bytesLess a.toList b.toList
/-- Are these names, each greater than the one ahead of it? -/
def rise : ByteArray → List ByteArray → Bool
  | _, [] => true
  | last, x :: r => nameB x && ltS last x && rise x r
def netB (n : Nt) : Bool := rightB n.addr n.bits
def tokB (k : Tk) : Bool := decide (1 ≤ k.sec.size) && decide (k.sec.size ≤ 32) && decide (0 ≤ k.till) && decide (k.till ≤ 1099511627776)
def quoB (n : Int) : Bool := decide (0 ≤ n) && decide (n ≤ 8)
def tenB (t : Tn) : Bool := quoB t.names && quoB t.visitors && decide (t.nets.length ≤ 4) && t.nets.all netB && decide (t.toks.length ≤ 4) && rise ByteArray.empty (t.toks.map (·.name)) && t.toks.all tokB
def timB (n : Int) : Bool := decide (1 ≤ n) && decide (n ≤ 1073741824)
def cfgB (c : Cg) : Bool := timB c.wait && timB c.grace && timB c.idle && timB c.lease && decide (c.tens.length ≤ 8) && rise ByteArray.empty (c.tens.map (·.name)) && c.tens.all tenB

theorem rise_app : ∀ (a b : List ByteArray) (l : ByteArray), rise l (a ++ b) = true → rise l a = true
  | [], _, _, _ => rfl
  | x :: a, b, l, h => by
    rw [List.cons_append, rise, Bool.and_eq_true] at h
    rw [rise, Bool.and_eq_true]
    exact ⟨h.1, rise_app a b x h.2⟩

/-! ### Lines -/

def wTimes : List UInt8 := [116, 105, 109, 101, 115]
def wTenant : List UInt8 := [116, 101, 110, 97, 110, 116]
def wNet : List UInt8 := [110, 101, 116]
def wToken : List UInt8 := [116, 111, 107, 101, 110]

def timesW (c : Cg) : List (List UInt8) := [wTimes, decB c.wait.toNat, decB c.grace.toNat, decB c.idle.toNat, decB c.lease.toNat]
def tenW (t : Tn) : List (List UInt8) := [wTenant, t.name.data.toList, decB t.names.toNat, decB t.visitors.toNat]
def netW (n : Nt) : List (List UInt8) := [wNet, slashL n.addr n.bits]
def tokW (k : Tk) : List (List UInt8) := [wToken, k.name.data.toList, hexB k.sec.data.toList, decB k.till.toNat]
def tenLs (t : Tn) : List (List (List UInt8)) := tenW t :: (t.nets.map netW ++ t.toks.map tokW)
def cfgLs (c : Cg) : List (List (List UInt8)) := timesW c :: c.tens.flatMap tenLs
def lineT (ws : List (List UInt8)) : List UInt8 := joinL 32 ws ++ [10]
def textT (ls : List (List (List UInt8))) : List UInt8 := ls.flatMap lineT
def printT (c : Cg) : List UInt8 := if cfgB c = true then textT (cfgLs c) else []

/-- The lines of a text, each with whether it has an end. -/
def linesL : List UInt8 → List (List UInt8 × Bool)
  | [] => []
  | x :: r => if x = 10 then ([], true) :: linesL r else
    match linesL r with
    | [] => [([x], false)]
    | (p, e) :: ps => (x :: p, e) :: ps

theorem linesL_cons (x : UInt8) (r : List UInt8) : ∃ p e ps, linesL (x :: r) = (p, e) :: ps := by
  unfold linesL
  by_cases h : x = 10
  · exact ⟨_, _, _, by rw [if_pos h]⟩
  · rw [if_neg h]
    split
    · exact ⟨_, _, _, rfl⟩
    · exact ⟨_, _, _, rfl⟩

theorem lines_cut : ∀ l : List UInt8, l ≠ [] → linesL l = ((cutL 10 l).1, (cutL 10 l).2.2) :: linesL (cutL 10 l).2.1
  | [], h => absurd rfl h
  | x :: r, _ => by
    rw [linesL, cutL]
    by_cases hx : x = 10
    · rw [if_pos hx, if_pos hx]
    · rw [if_neg hx, if_neg hx]
      cases r with
      | nil => rfl
      | cons y r =>
        have ih := lines_cut (y :: r) (by simp)
        rw [ih]

theorem lines_hit (p r : List UInt8) (h : (10 : UInt8) ∉ p) : linesL (p ++ 10 :: r) = (p, true) :: linesL r := by
  have := lines_cut (p ++ 10 :: r) (by simp)
  rw [this, cutL_hit 10 p r h]
theorem lines_miss (p : List UInt8) (h : (10 : UInt8) ∉ p) (h0 : p ≠ []) : linesL p = [(p, false)] := by
  have := lines_cut p h0
  rw [this, cutL_miss 10 p h]
  rfl
theorem lines_no : ∀ l : List UInt8, ∀ p e, (p, e) ∈ linesL l → (10 : UInt8) ∉ p
  | [], _, _, h => by cases h
  | x :: r, p, e, h => by
    have ih := lines_no r
    unfold linesL at h
    by_cases hx : x = 10
    · rw [if_pos hx] at h
      rcases List.mem_cons.1 h with h | h
      · injection h with h1 h2; rw [h1]; simp
      · exact ih p e h
    · rw [if_neg hx] at h
      cases hl : linesL r with
      | nil =>
        rw [hl] at h
        simp only [List.mem_singleton] at h
        injection h with h1 h2
        rw [h1]
        simp only [List.mem_singleton]
        exact fun k => hx k.symm
      | cons q qs =>
        obtain ⟨q1, q2⟩ := q
        rw [hl] at h ih
        simp only [List.mem_cons] at h
        rcases h with h | h
        · injection h with h1 h2
          rw [h1, List.mem_cons, not_or]
          exact ⟨fun k => hx k.symm, ih q1 q2 (by simp)⟩
        · exact ih p e (List.mem_cons_of_mem _ h)
/-- A text of whole lines is its lines. -/
theorem lines_text : ∀ l : List UInt8, (∀ x ∈ linesL l, x.2 = true) → l = (linesL l).flatMap fun x => x.1 ++ [10]
  | [], _ => rfl
  | x :: r, h => by
    have ih := lines_text r
    unfold linesL at h ⊢
    by_cases hx : x = 10
    · rw [if_pos hx] at h ⊢
      have := ih (fun y hy => h y (List.mem_cons_of_mem _ hy))
      rw [List.flatMap_cons, ← this, hx]; rfl
    · rw [if_neg hx] at h ⊢
      cases hl : linesL r with
      | nil =>
        rw [hl] at h
        have := h ([x], false) (by simp)
        cases this
      | cons q qs =>
        obtain ⟨q1, q2⟩ := q
        rw [hl] at h ih
        have := ih (fun y hy => by
          rcases List.mem_cons.1 hy with h1 | h1
          · rw [h1]; exact h (x :: q1, q2) (by simp)
          · exact h y (List.mem_cons_of_mem _ h1))
        simp only [List.flatMap_cons] at this ⊢
        rw [List.cons_append, List.cons_append, ← this]

/-! ### What is read -/

def decO (w : List UInt8) : Option Nat := (parseS (bs w)).map (·.1)
theorem decO_back (n : Nat) (h : n ≤ 1099511627776) : decO (decB n) = some n := by
  obtain ⟨k, hk⟩ := parse_back n h
  simp [decO, hk]
theorem decO_is (w : List UInt8) (n : Nat) (h : decO w = some n) : n ≤ 1099511627776 ∧ w = decB n := by
  unfold decO at h
  cases hp : parseS (bs w) with
  | none => rw [hp] at h; cases h
  | some x =>
    obtain ⟨m, k⟩ := x
    rw [hp] at h
    obtain rfl : m = n := by injection h
    obtain ⟨h1, h2⟩ := parse_is _ m k hp
    exact ⟨h1, bs_inj h2⟩

/-- With another last tenant. -/
def lastC (c : Cg) : Option Tn := c.tens.getLast?
def setC (c : Cg) (t : Tn) : Cg := { c with tens := c.tens.dropLast ++ [t] }
def zeroC : Cg := ⟨0, 0, 0, 0, []⟩

def readTimes (c : Cg) : List (List UInt8) → Option Cg
  | [a, b, d, e] => match decO a, decO b, decO d, decO e with
    | some a, some b, some d, some e => some ⟨a, b, d, e, c.tens⟩
    | _, _, _, _ => none
  | _ => none
def readTenant (c : Cg) : List (List UInt8) → Option Cg
  | [n, a, b] => match decO a, decO b with
    | some a, some b => some { c with tens := c.tens ++ [⟨bs n, a, b, [], []⟩] }
    | _, _ => none
  | _ => none
def readNet (c : Cg) : List (List UInt8) → Option Cg
  | [n] => match lastC c with
    | none => none
    | some t => if t.toks = [] then match netO (bs n) with
      | some x => some (setC c { t with nets := t.nets ++ [⟨x.1, x.2⟩] })
      | none => none
      else none
  | _ => none
def readToken (c : Cg) : List (List UInt8) → Option Cg
  | [n, s, u] => match lastC c with
    | none => none
    | some t => match unhexB s, decO u with
      | some b, some v => some (setC c { t with toks := t.toks ++ [⟨bs n, bs b, v⟩] })
      | _, _ => none
  | _ => none
def readW (c : Cg) : List (List UInt8) → Option Cg
  | [] => none
  | k :: ws => if k = wTimes then readTimes c ws else if k = wTenant then readTenant c ws else if k = wNet then readNet c ws else if k = wToken then readToken c ws else none
def okC (o : Option Cg) : Option Cg := match o with
  | some c => if cfgB c = true then some c else none
  | none => none
/-- One line, the first one or another one. -/
def lineC (c : Cg) (first : Bool) (ws : List (List UInt8)) : Option Cg := if decide (ws.head? = some wTimes) = first then okC (readW c ws) else none
def runL : Cg → Nat → List (List UInt8 × Bool) → Except Nat Cg
  | c, at', [] => if at' = 0 then .error 0 else .ok c
  | c, at', (l, e) :: r => if e = true then match lineC c (at' == 0) (piecesL 32 l) with
    | some c' => runL c' (at' + 1) r
    | none => .error at'
    else .error at'
def parseC (s : ByteArray) : Except Nat Cg := runL zeroC 0 (linesL s.data.toList)

end Go.Proofs.Ytinjldjpncijjaa
