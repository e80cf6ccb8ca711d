/- Names, addresses, nets: plain mathematics. -/
import Derived.Test.YtmdijhfkobcbjaaParMath
import Derived.Lib.Bytealg
namespace Go.Proofs.Ytmdijhfkobcbjaa
set_option linter.unusedVariables false
set_option linter.unusedSimpArgs false

/-! ### Texts cut at a mark -/

/-- What stands ahead of a byte, what behind it, whether there is one. -/
def cutL (c : UInt8) : List UInt8 → List UInt8 × List UInt8 × Bool
  | [] => ([], [], false)
  | x :: r => if x = c then ([], r, true) else (x :: (cutL c r).1, (cutL c r).2.1, (cutL c r).2.2)

def piecesL (c : UInt8) : List UInt8 → List (List UInt8)
  | [] => [[]]
  | x :: r => if x = c then [] :: piecesL c r else
    match piecesL c r with
    | [] => [[x]]
    | p :: ps => (x :: p) :: ps

def joinL (c : UInt8) : List (List UInt8) → List UInt8
  | [] => []
  | [p] => p
  | p :: q :: ps => p ++ c :: joinL c (q :: ps)

theorem cutL_join (c : UInt8) : ∀ l, ((cutL c l).2.2 = true → l = (cutL c l).1 ++ c :: (cutL c l).2.1) ∧ ((cutL c l).2.2 = false → l = (cutL c l).1 ∧ (cutL c l).2.1 = [])
  | [] => by simp [cutL]
  | x :: r => by
    obtain ⟨h1, h2⟩ := cutL_join c r
    unfold cutL
    by_cases hx : x = c
    · simp [hx]
    · simp only [if_neg hx]
      refine ⟨fun h => by rw [List.cons_append, ← h1 h], fun h => ⟨by rw [← (h2 h).1], (h2 h).2⟩⟩
theorem cutL_lt (c : UInt8) (l : List UInt8) (h : (cutL c l).2.2 = true) : (cutL c l).2.1.length < l.length := by
  have := congrArg List.length ((cutL_join c l).1 h)
  rw [List.length_append, List.length_cons] at this
  omega
theorem cutL_len (c : UInt8) (l : List UInt8) : (cutL c l).1.length ≤ l.length ∧ (cutL c l).2.1.length ≤ l.length := by
  cases h : (cutL c l).2.2
  · obtain ⟨h1, h2⟩ := (cutL_join c l).2 h
    exact ⟨Nat.le_of_eq (congrArg List.length h1).symm, by rw [h2]; simp⟩
  · have := congrArg List.length ((cutL_join c l).1 h)
    rw [List.length_append, List.length_cons] at this
    omega
theorem cutL_no (c : UInt8) : ∀ l, c ∉ (cutL c l).1
  | [] => by simp [cutL]
  | x :: r => by
    unfold cutL
    by_cases hx : x = c
    · simp [hx]
    · simp only [if_neg hx, List.mem_cons, not_or]
      exact ⟨fun h => hx h.symm, cutL_no c r⟩
theorem cutL_hit (c : UInt8) : ∀ (p r : List UInt8), c ∉ p → cutL c (p ++ c :: r) = (p, r, true)
  | [], r, _ => by simp [cutL]
  | x :: p, r, h => by
    rw [List.mem_cons, not_or] at h
    have hx : ¬ x = c := fun e => h.1 e.symm
    rw [List.cons_append, cutL, if_neg hx, cutL_hit c p r h.2]
theorem cutL_miss (c : UInt8) : ∀ p : List UInt8, c ∉ p → cutL c p = (p, [], false)
  | [], _ => rfl
  | x :: p, h => by
    rw [List.mem_cons, not_or] at h
    have hx : ¬ x = c := fun e => h.1 e.symm
    rw [cutL, if_neg hx, cutL_miss c p h.2]

theorem pieces_cut (c : UInt8) : ∀ l, piecesL c l = (cutL c l).1 :: (if (cutL c l).2.2 = true then piecesL c (cutL c l).2.1 else [])
  | [] => by simp [cutL, piecesL]
  | x :: r => by
    have ih := pieces_cut c r
    rw [cutL, piecesL]
    by_cases hx : x = c
    · simp [hx]
    · simp only [if_neg hx]
      rw [ih]
theorem pieces_join (c : UInt8) : ∀ l, joinL c (piecesL c l) = l
  | [] => rfl
  | x :: r => by
    have ih := pieces_join c r
    unfold piecesL
    by_cases hx : x = c
    · rw [if_pos hx]
      have hp := pieces_cut c r
      rw [hp] at ih ⊢
      rw [joinL, ih, hx]; rfl
    · rw [if_neg hx]
      cases hp : piecesL c r with
      | nil => rw [pieces_cut] at hp; cases hp
      | cons p ps =>
        rw [hp] at ih
        cases ps with
        | nil => show x :: p = _; rw [show p = r from ih]
        | cons q ps => show (x :: p) ++ c :: joinL c (q :: ps) = _; rw [← ih]; rfl
theorem pieces_of (c : UInt8) : ∀ ps : List (List UInt8), ps ≠ [] → (∀ p ∈ ps, c ∉ p) → piecesL c (joinL c ps) = ps
  | [], h, _ => absurd rfl h
  | [p], _, h => by rw [joinL, pieces_cut, cutL_miss c p (h p (by simp))]; simp
  | p :: q :: ps, _, h => by
    rw [joinL, pieces_cut, cutL_hit c p _ (h p (by simp)), if_pos rfl, pieces_of c (q :: ps) (by simp) (fun p' hp' => h p' (List.mem_cons_of_mem _ hp'))]
theorem pieces_small (c : UInt8) (l : List UInt8) : ∀ p ∈ piecesL c l, p.length ≤ l.length := by
  induction hn : l.length using Nat.strongRecOn generalizing l with
  | _ n ih =>
    intro p hp
    rw [pieces_cut] at hp
    rcases List.mem_cons.1 hp with rfl | hp
    · have := (cutL_len c l).1; omega
    · cases hm : (cutL c l).2.2
      · rw [hm] at hp; simp at hp
      · rw [hm, if_pos rfl] at hp
        have := cutL_lt c l hm
        have := ih _ (by omega) (cutL c l).2.1 rfl p hp
        omega

theorem pieces_len (c : UInt8) : ∀ l, (piecesL c l).length ≤ l.length + 1
  | [] => by simp [piecesL]
  | x :: r => by
    have ih := pieces_len c r
    have hc := pieces_cut c r
    rw [piecesL]
    by_cases hx : x = c
    · rw [if_pos hx, List.length_cons, List.length_cons]; omega
    · rw [if_neg hx, hc]
      rw [hc] at ih
      simp only [List.length_cons] at ih ⊢
      omega

/-- What the library's search makes of it. -/
theorem cutL_index (c : UInt8) : ∀ l : List UInt8, (Go.Lib.indexByte l c = -1 ∧ cutL c l = (l, [], false)) ∨ ∃ i : Nat, Go.Lib.indexByte l c = (i : Int) ∧ i < l.length ∧ cutL c l = (l.take i, l.drop (i + 1), true)
  | [] => .inl ⟨by simp [Go.Lib.indexByte], rfl⟩
  | x :: r => by
    unfold cutL Go.Lib.indexByte
    by_cases hx : x = c
    · exact .inr ⟨0, by simp [hx], by simp, by simp [hx]⟩
    · rcases cutL_index c r with ⟨h1, h2⟩ | ⟨i, h1, h2, h3⟩
      · exact .inl ⟨by simp [hx, h1], by simp [hx, h2]⟩
      · refine .inr ⟨i + 1, ?_, by simp; omega, by simp [hx, h3]⟩
        have e : ((i : Int) == -1) = false := by simp
        simp [hx, h1, e]

/-! ### Numbers up to a greatest one -/

def upToO (top : Nat) (p : ByteArray) : Option Nat := match parseS p with
  | some (n, _) => if n ≤ top then some n else none
  | none => none

theorem upToO_dec (top n : Nat) (h : n ≤ top) (ht : top ≤ 1099511627776) : upToO top (bs (decB n)) = some n := by
  obtain ⟨k, hk⟩ := parse_back n (by omega)
  simp [upToO, hk, h]
theorem upToO_is (top n : Nat) (p : ByteArray) (h : upToO top p = some n) : n ≤ top ∧ p = bs (decB n) := by
  unfold upToO at h
  cases hp : parseS p with
  | none => rw [hp] at h; cases h
  | some x =>
    obtain ⟨m, k⟩ := x
    rw [hp] at h
    simp only at h
    by_cases hm : m ≤ top
    · rw [if_pos hm] at h
      obtain rfl : m = n := by injection h
      exact ⟨hm, (parse_is p m k hp).2⟩
    · rw [if_neg hm] at h; cases h

theorem bs_inj {a b : List UInt8} (h : bs a = bs b) : a = b := by rw [← bs_list a, ← bs_list b, h]
theorem bs_of (s : ByteArray) : bs s.data.toList = s := by cases s; simp [bs]
theorem bs_data (l : List UInt8) : (bs l).data.toList = l := by simp [bs]

theorem dec_digit (n : Nat) (c : UInt8) (h : c ∈ decB n) : 48 ≤ c.toNat ∧ c.toNat ≤ 57 := by
  unfold decB at h
  obtain ⟨d, hd, rfl⟩ := List.mem_map.1 h
  have := dg_lt 10 (by omega) n d hd
  rw [u8_ofNat _ (by omega)]; omega
theorem dec_no (n : Nat) (c : UInt8) (h : c.toNat < 48) : c ∉ decB n := fun hc => by have := dec_digit n c hc; omega

/-! ### Addresses -/

def dotsB (a : Nat) : List UInt8 := joinL 46 [decB (a / 16777216 % 256), decB (a / 65536 % 256), decB (a / 256 % 256), decB (a % 256)]

def addrL : List (Option Nat) → Option Nat
  | [some a, some b, some c, some d] => some (((a * 256 + b) * 256 + c) * 256 + d)
  | _ => none
def addrO (s : ByteArray) : Option Nat := addrL ((piecesL 46 s.data.toList).map fun p => upToO 255 (bs p))

theorem dotsB_pieces (a : Nat) : piecesL 46 (dotsB a) = [decB (a / 16777216 % 256), decB (a / 65536 % 256), decB (a / 256 % 256), decB (a % 256)] := by
  refine pieces_of 46 _ (by simp) (fun p hp => ?_)
  simp only [List.mem_cons, List.not_mem_nil, or_false] at hp
  rcases hp with rfl | rfl | rfl | rfl <;> exact dec_no _ _ (by decide)

theorem addr_back (a : Nat) (h : a < 4294967296) : addrO (bs (dotsB a)) = some a := by
  unfold addrO
  rw [bs_data, dotsB_pieces]
  simp only [List.map_cons, List.map_nil]
  rw [upToO_dec 255 _ (by omega) (by omega), upToO_dec 255 _ (by omega) (by omega), upToO_dec 255 _ (by omega) (by omega), upToO_dec 255 _ (by omega) (by omega)]
  simp only [addrL]
  congr 1
  omega

theorem addrL_some {l : List (Option Nat)} {v : Nat} (h : addrL l = some v) : ∃ a b c d, l = [some a, some b, some c, some d] ∧ v = ((a * 256 + b) * 256 + c) * 256 + d := by
  unfold addrL at h
  split at h
  · injection h with h; exact ⟨_, _, _, _, rfl, h.symm⟩
  · cases h

theorem addr_is (s : ByteArray) (v : Nat) (h : addrO s = some v) : v < 4294967296 ∧ s = bs (dotsB v) := by
  obtain ⟨a, b, c, d, hl, hv⟩ := addrL_some h
  have hlen := congrArg List.length hl
  rw [List.length_map] at hlen
  match hp : piecesL 46 s.data.toList, hlen with
  | [p, q, r, t], _ =>
    rw [hp] at hl
    simp only [List.map_cons, List.map_nil, List.cons.injEq, and_true] at hl
    obtain ⟨h1, h2, h3, h4⟩ := hl
    obtain ⟨k1, e1⟩ := upToO_is _ _ _ h1
    obtain ⟨k2, e2⟩ := upToO_is _ _ _ h2
    obtain ⟨k3, e3⟩ := upToO_is _ _ _ h3
    obtain ⟨k4, e4⟩ := upToO_is _ _ _ h4
    refine ⟨by omega, ?_⟩
    have hj := pieces_join 46 s.data.toList
    rw [hp, bs_inj e1, bs_inj e2, bs_inj e3, bs_inj e4] at hj
    rw [← bs_of s, ← hj]
    unfold dotsB
    rw [show v / 16777216 % 256 = a by omega, show v / 65536 % 256 = b by omega, show v / 256 % 256 = c by omega, show v % 256 = d by omega]

/-! ### Nets -/

/-- An address with 0 behind its first bits. -/
def firstN (bits a : Nat) : Nat := a / 2 ^ (32 - bits) * 2 ^ (32 - bits)
def rightB (a : Nat) (bits : Int) : Bool := decide (0 ≤ bits) && decide (bits ≤ 32) && decide (firstN bits.toNat a = a)
def inB (n : Nat) (bits : Int) (a : Nat) : Bool := rightB n bits && decide (firstN bits.toNat a = n)
def slashL (a : Nat) (bits : Int) : List UInt8 := if rightB a bits = true then dotsB a ++ 47 :: decB bits.toNat else []
def netL : List (List UInt8) → Option (Nat × Nat)
  | [x, y] => match addrO (bs x), upToO 32 (bs y) with
    | some a, some b => if rightB a b = true then some (a, b) else none
    | _, _ => none
  | _ => none
def netO (s : ByteArray) : Option (Nat × Nat) := netL (piecesL 47 s.data.toList)

theorem dots_no (a : Nat) : (47 : UInt8) ∉ dotsB a := by
  unfold dotsB
  simp only [joinL, List.mem_append, List.mem_cons, not_or]
  refine ⟨dec_no _ _ (by decide), by decide, dec_no _ _ (by decide), by decide, dec_no _ _ (by decide), by decide, dec_no _ _ (by decide)⟩

theorem net_back (a : Nat) (bits : Int) (ha : a < 4294967296) (h : rightB a bits = true) : netO (bs (slashL a bits)) = some (a, bits.toNat) := by
  have hb : 0 ≤ bits ∧ bits ≤ 32 := by
    unfold rightB at h
    simp only [Bool.and_eq_true, decide_eq_true_eq] at h
    exact h.1
  unfold netO slashL
  rw [if_pos h, bs_data, pieces_cut, cutL_hit 47 _ _ (dots_no a), if_pos rfl]
  simp only
  rw [pieces_cut, cutL_miss 47 _ (dec_no _ _ (by decide))]
  simp only [Bool.false_eq_true, if_false, netL]
  rw [addr_back a ha, upToO_dec 32 _ (by omega) (by omega)]
  simp only
  have e : ((bits.toNat : Nat) : Int) = bits := by omega
  rw [e, if_pos h]

theorem net_is (s : ByteArray) (a b : Nat) (h : netO s = some (a, b)) : a < 4294967296 ∧ b ≤ 32 ∧ rightB a b = true ∧ s = bs (slashL a b) := by
  unfold netO at h
  have hj := pieces_join 47 s.data.toList
  match hp : piecesL 47 s.data.toList, h with
  | [x, y], h =>
    rw [hp] at hj
    simp only [netL] at h
    cases h1 : addrO (bs x) with
    | none => rw [h1] at h; cases h
    | some a' =>
      cases h2 : upToO 32 (bs y) with
      | none => rw [h1, h2] at h; cases h
      | some b' =>
        rw [h1, h2] at h
        simp only at h
        by_cases hr : rightB a' b' = true
        · rw [if_pos hr] at h
          injection h with h
          injection h with e1 e2
          subst e1; subst e2
          obtain ⟨k1, q1⟩ := addr_is _ _ h1
          obtain ⟨k2, q2⟩ := upToO_is _ _ _ h2
          refine ⟨k1, k2, hr, ?_⟩
          rw [← bs_of s, ← hj]
          unfold slashL
          rw [if_pos hr, bs_inj q1, bs_inj q2]; rfl
        · rw [if_neg hr] at h; cases h

/-! ### What the loops keep -/

def ixs : Nat → List (List UInt8) → List (Nat × ByteArray)
  | _, [] => []
  | k, p :: ps => (k, bs p) :: ixs (k + 1) ps
theorem ixs_len : ∀ (ps : List (List UInt8)) (k : Nat), (ixs k ps).length = ps.length
  | [], _ => rfl
  | p :: ps, k => by rw [ixs, List.length_cons, ixs_len ps, List.length_cons]
theorem ixs_append : ∀ (ps qs : List (List UInt8)) (k : Nat), ixs k (ps ++ qs) = ixs k ps ++ ixs (k + ps.length) qs
  | [], qs, k => rfl
  | p :: ps, qs, k => by rw [List.cons_append, ixs, ixs_append ps qs, ixs, List.cons_append, List.length_cons]; congr 3; omega

def okA (x : Nat × ByteArray) : Bool := (upToO 255 x.2).isSome && !decide (x.1 = 4)
def stA (s : Nat × Nat) (x : Nat × ByteArray) : Nat × Nat := ((s.1 * 256 + (upToO 255 x.2).getD 0) % 4294967296, x.1)
def fA (xs : List (Nat × ByteArray)) : Nat × Nat := xs.foldl stA (0, 0)
theorem fA_snoc (xs : List (Nat × ByteArray)) (x : Nat × ByteArray) : fA (xs ++ [x]) = stA (fA xs) x := by simp [fA]

theorem opt_some {o : Option Nat} (h : o.isSome = true) : ∃ n, o = some n := by cases o <;> simp_all

theorem okA_all {ps : List (List UInt8)} {v : Nat} (h : addrL (ps.map fun p => upToO 255 (bs p)) = some v) : ∀ x ∈ ixs 0 ps, okA x = true := by
  obtain ⟨a, b, c, d, hl, _⟩ := addrL_some h
  have hlen := congrArg List.length hl
  rw [List.length_map] at hlen
  match ps, hlen with
  | [p, q, r, t], _ =>
    simp only [List.map_cons, List.map_nil, List.cons.injEq, and_true] at hl
    obtain ⟨h1, h2, h3, h4⟩ := hl
    intro x hx
    simp only [ixs, List.mem_cons, List.not_mem_nil, or_false] at hx
    rcases hx with rfl | rfl | rfl | rfl <;> simp [okA, h1, h2, h3, h4]

theorem A_done (ps : List (List UInt8)) (h : ∀ x ∈ ixs 0 ps, okA x = true) : addrL (ps.map fun p => upToO 255 (bs p)) = if (fA (ixs 0 ps)).2 = 3 then some (fA (ixs 0 ps)).1 else none := by
  match ps with
  | [] => rfl
  | [p] => simp [ixs, fA, stA, addrL]
  | [p, q] => simp [ixs, fA, stA, addrL]
  | [p, q, r] => simp [ixs, fA, stA, addrL]
  | [p, q, r, t] =>
    have g : ∀ x ∈ [p, q, r, t], ∃ n, upToO 255 (bs x) = some n ∧ n ≤ 255 := by
      intro x hx
      have : (upToO 255 (bs x)).isSome = true := by
        simp only [ixs, List.mem_cons, List.not_mem_nil, or_false, forall_eq_or_imp, forall_eq, okA, Bool.and_eq_true] at h hx
        rcases hx with rfl | rfl | rfl | rfl
        · exact h.1.1
        · exact h.2.1.1
        · exact h.2.2.1.1
        · exact h.2.2.2.1
      obtain ⟨n, hn⟩ := opt_some this
      exact ⟨n, hn, (upToO_is _ _ _ hn).1⟩
    obtain ⟨a, h1, k1⟩ := g p (by simp)
    obtain ⟨b, h2, k2⟩ := g q (by simp)
    obtain ⟨c, h3, k3⟩ := g r (by simp)
    obtain ⟨d, h4, k4⟩ := g t (by simp)
    simp [ixs, fA, stA, addrL, h1, h2, h3, h4]
    omega
  | p :: q :: r :: t :: u :: ps =>
    have := h (4, bs u) (by simp [ixs])
    simp [okA] at this

theorem A_stop (ps : List (List UInt8)) (pre : List (Nat × ByteArray)) (hp : pre <+: ixs 0 ps) (x : Nat × ByteArray) (hx : x ∈ pre) (hb : okA x = false) : addrL (ps.map fun p => upToO 255 (bs p)) = none := by
  cases h : addrL (ps.map fun p => upToO 255 (bs p)) with
  | none => rfl
  | some v =>
    have := okA_all h x (hp.subset hx)
    rw [hb] at this; cases this

/-- The net's loop: what is right of the pieces that came. -/
def okN (x : Nat × ByteArray) : Bool := match x.1 with
  | 0 => (addrO x.2).isSome
  | 1 => (upToO 32 x.2).isSome
  | _ => false
structure StN where
  addr : Nat
  bits : Nat
  last : Nat
def stN (s : StN) (x : Nat × ByteArray) : StN := match x.1 with
  | 0 => ⟨(addrO x.2).getD 0, s.bits, 0⟩
  | 1 => ⟨s.addr, (upToO 32 x.2).getD 0, 1⟩
  | n + 2 => ⟨s.addr, s.bits, n + 2⟩
def fN (xs : List (Nat × ByteArray)) : StN := xs.foldl stN ⟨0, 0, 0⟩
theorem fN_snoc (xs : List (Nat × ByteArray)) (x : Nat × ByteArray) : fN (xs ++ [x]) = stN (fN xs) x := by simp [fN]

theorem N_done (ps : List (List UInt8)) (h : ∀ x ∈ ixs 0 ps, okN x = true) : netL ps = if (fN (ixs 0 ps)).last = 1 ∧ rightB (fN (ixs 0 ps)).addr (fN (ixs 0 ps)).bits = true then some ((fN (ixs 0 ps)).addr, (fN (ixs 0 ps)).bits) else none := by
  match ps with
  | [] => simp [netL, fN, ixs]
  | [p] => simp [netL, fN, ixs, stN]
  | [p, q] =>
    have h1 := h (0, bs p) (by simp [ixs])
    have h2 := h (1, bs q) (by simp [ixs])
    simp only [okN] at h1 h2
    obtain ⟨a, ha⟩ := opt_some h1
    obtain ⟨b, hb⟩ := opt_some h2
    simp [netL, fN, ixs, stN, ha, hb]
  | p :: q :: r :: ps =>
    have := h (2, bs r) (by simp [ixs])
    simp [okN] at this
theorem N_stop (ps : List (List UInt8)) (pre : List (Nat × ByteArray)) (hp : pre <+: ixs 0 ps) (x : Nat × ByteArray) (hx : x ∈ pre) (hb : okN x = false) : netL ps = none := by
  have hm := hp.subset hx
  match ps with
  | [] => simp [netL]
  | [p] => simp [netL]
  | [p, q] =>
    simp only [ixs, List.mem_cons, List.not_mem_nil, or_false] at hm
    rcases hm with rfl | rfl
    · simp only [okN] at hb
      have : addrO (bs p) = none := by cases h : addrO (bs p) <;> simp_all
      simp [netL, this]
    · simp only [okN] at hb
      have : upToO 32 (bs q) = none := by cases h : upToO 32 (bs q) <;> simp_all
      simp [netL, this]
  | p :: q :: r :: ps => simp [netL]

end Go.Proofs.Ytmdijhfkobcbjaa
