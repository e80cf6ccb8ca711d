/- RBits, RSched, RBlock, RSum, RMac, RText, RHex, RProof, VtH, Rdr, Read, ReadM, Get, GetMath, WireM, SkM, CgIn, VtIn: texts of this seat, one behind the other. -/
import Derived.Test.YtekobdmlgbffnaaDoorG6
import Derived.Test.YtekobdmlgbffnaaDoorG2
import Derived.StillTailTactics
import Derived.Handy
import Derived.BigQuiet
import Derived.Deep.QuietTactic
import Derived.Deep.Cut
import Derived.Deep.CutRange
import Derived.Test.YtekobdmlgbffnaaDoorG9
import Derived.Test.YtekobdmlgbffnaaDoorG10
import Derived.Test.YtekobdmlgbffnaaDoorG4
import Derived.Test.YtekobdmlgbffnaaDoorSame
import Derived.Test.YtekobdmlgbffnaaDoorG11
import Derived.Test.YtekobdmlgbffnaaDoorG1
import Derived.Test.YtekobdmlgbffnaaDoorG3
import Derived.Test.YtekobdmlgbffnaaDoorVt4
import Derived.Lib.SlBytesConst
import Derived.Test.YtekobdmlgbffnaaDoorRows
import Derived.ProofKit
import Derived.OpenShut
import Derived.ShutString
import Derived.Deep.Fields
import Derived.Deep.SlicePairs
import Derived.Deep.Strs
import Derived.SizedLaws
/- Words turned: the document's own turn, great, small. -/
namespace Go.Proofs.YtekobdmlgbffnaaDoor
set_option linter.unusedVariables false
set_option maxRecDepth 100000
set_option linter.unusedSimpArgs false
open Go.RowKit

/-! The document's own. -/
end Go.Proofs.YtekobdmlgbffnaaDoor

/- The document's own schedule of a block's words. (Written by gen_rsched.py.) -/
namespace Go.Proofs.YtekobdmlgbffnaaDoor
set_option linter.unusedVariables false
set_option maxRecDepth 100000
set_option linter.unusedSimpArgs false
open Go.RowKit

end Go.Proofs.YtekobdmlgbffnaaDoor

/- The document's own roots, and what one block does. (Written by gen_rblock.py.) -/
namespace Go.Proofs.YtekobdmlgbffnaaDoor
set_option linter.unusedVariables false
set_option maxRecDepth 100000
set_option linter.unusedSimpArgs false
open Go.RowKit

/-- What lies there through the rounds of a block. -/
structure RB (w : World) (g5 g6 g7 : Nat) (s r : St) (W : List Nat) (u : World) : Prop where
  h : Bk u w.heap.size 130 (s8 s)
  z : Bk u (w.heap.size + 1) 130 (wcells [0, 0, 0, 0, 0, 0, 0, 0])
  k : Bk u g5 138 (wcells KK)
  w_ : Bk u g6 138 (wcells W)
  s_ : Bk u g7 130 (s8 r)
  b : Below w.heap.size w u
theorem RB.drewN {w : World} {g5 g6 g7 : Nat} {s r : St} {W : List Nat} {u : World} (x : RB w g5 g6 g7 s r W u) (n : Nat) : RB w g5 g6 g7 s r W (u.drewN n) := ⟨x.h, x.z, x.k, x.w_, x.s_, Below.drewN' x.b n⟩
end Go.Proofs.YtekobdmlgbffnaaDoor

/- The document's own sum. (Written by gen_rsum.py.) -/
namespace Go.Proofs.YtekobdmlgbffnaaDoor
set_option linter.unusedVariables false
set_option maxRecDepth 100000
set_option linter.unusedSimpArgs false
open Go.RowKit

def sLen : Value → Nat
  | .slice _ n _ => n
  | _ => 0
/-- The bytes, the mark, and so many bytes 0. -/
def padA (l : List UInt8) (j : Nat) : List UInt8 := l ++ (128 :: List.replicate j 0)
end Go.Proofs.YtekobdmlgbffnaaDoor

/- The document's own sums under keys. (Written by gen_rmac.py.) -/
namespace Go.Proofs.YtekobdmlgbffnaaDoor
set_option linter.unusedVariables false
set_option maxRecDepth 100000
set_option linter.unusedSimpArgs false
open Go.RowKit

theorem OB.put {w : World} {B : Nat} {e : TypeId} {g c : Nat} {l : List UInt8} (h : OB w B e (some ⟨g, 0, none⟩) c l) (k : Nat) (x : UInt8) : OB (w.setCell ⟨g, k, none⟩ (.int .u8 (x.toNat : Int))) B e (some ⟨g, 0, none⟩) c (l.set k x) := by
  have := (World.ownsRow.stored h k (.int .u8 (x.toNat : Int))).1
  unfold OB
  rw [List.length_set, List.map_set]
  exact this
end Go.Proofs.YtekobdmlgbffnaaDoor

/- The document's own Text. -/
namespace Go.Proofs.YtekobdmlgbffnaaDoor
set_option linter.unusedVariables false
set_option maxRecDepth 100000
set_option linter.unusedSimpArgs false
open Go.RowKit

theorem OB.one {w : World} {B : Nat} {t : TypeId} {c : UInt8} {v : Int} (hB : B ≤ w.heap.size) (hv : v = (c.toNat : Int)) : OB (w.alloc (.cells #[.int .u8 v] t)) B t (some ⟨w.heap.size, 0, none⟩) 1 [c] := by
  subst hv
  exact OB.new (l := [c]) t hB (by simp)

end Go.Proofs.YtekobdmlgbffnaaDoor

/- The document's own digits of bytes. (Written by gen_rhex.py.) -/
namespace Go.Proofs.YtekobdmlgbffnaaDoor
set_option linter.unusedVariables false
set_option maxRecDepth 100000
set_option linter.unusedSimpArgs false
open Go.RowKit

end Go.Proofs.YtekobdmlgbffnaaDoor

/- The document's own Proof. (Out of Proof's own text, its slots turned.) -/
namespace Go.Proofs.YtekobdmlgbffnaaDoor
set_option linter.unusedVariables false
set_option maxRecDepth 100000
set_option linter.unusedSimpArgs false
open Go.RowKit

end Go.Proofs.YtekobdmlgbffnaaDoor

/- The head of vault's laws: its live question is always answered yes. -/
namespace Go.Proofs.YtekobdmlgbffnaaDoor
set_option linter.unusedVariables false
set_option maxRecDepth 100000
set_option linter.unusedSimpArgs false
open Go.RowKit

def annS : ByteArray := ⟨#[97, 110, 110]⟩
def kS : ByteArray := ⟨#[107]⟩
def zS : ByteArray := ⟨#[122]⟩
def nS : ByteArray := ⟨#[110]⟩
def mS : ByteArray := ⟨#[109]⟩
def oneTn : Tn := ⟨annS, 0, 0, [], [⟨kS, ⟨#[115]⟩, 5⟩]⟩
def oneT (d : Nat) : Tv := ⟨oneTn, none, 0, some ⟨d, 0, none⟩, 1⟩
def oneC (b d : Nat) : Cv := ⟨9, 9, 9, 9, [oneT d], some ⟨b, 0, none⟩, 1⟩
theorem one_right (b d : Nat) : cfgB (oneC b d).cg = true := by
  show cfgB ⟨9, 9, 9, 9, [oneTn]⟩ = true
  kernel_rfl
theorem one_tk : tkN [oneTn] annS kS = some ⟨kS, ⟨#[115]⟩, 5⟩ := by kernel_rfl
def pB : List UInt8 := proofB [115] [annS, kS, nS]
def pmB : List UInt8 := proofB [115] [annS, kS, mS]
theorem pB_some : pB ≠ [] := by
  intro h
  have h1 : pB.length = 64 := by
    unfold pB proofB
    rw [if_pos (by decide), hexB_len, macB_len]
  rw [h] at h1
  simp at h1
def pS : ByteArray := ⟨pB.toArray⟩
theorem pS_list : pS.data.toList = pB := by simp [pS]
theorem pS_size : pS.size ≤ 64 := by
  have h1 : pS.data.toList.length = pS.size := rfl
  rw [pS_list] at h1
  have := wnB_len (some ⟨kS, ⟨#[115]⟩, 5⟩) annS kS nS
  have h2 : wnB (some ⟨kS, ⟨#[115]⟩, 5⟩) annS kS nS = pB := rfl
  rw [h2] at this
  omega
abbrev g1R : Rev := [(annS, kS)]
abbrev g2R : Rev := [(annS, kS), (annS, kS)]
/-- A vault that the head made, and what is below it. -/
structure Hv (w : World) (v mb : Nat) (g : Rev) (u : World) : Prop where
  va : Va u v mb [oneTn] g
  l : Below w.heap.size w u
  lv : w.heap.size ≤ mb
theorem Hv.on {w u u' : World} {v mb : Nat} {g : Rev} (h : Hv w v mb g u) (hb : Below u.heap.size u u') : Hv w v mb g u' := ⟨h.va.on hb, h.l.trans (hb.mono h.l.size), h.lv⟩
end Go.Proofs.YtekobdmlgbffnaaDoor

/- num.reader: what it makes, and what each call of that tells. -/
namespace Go.Proofs.YtekobdmlgbffnaaDoor
set_option linter.unusedVariables false
set_option maxRecDepth 100000
set_option linter.unusedSimpArgs false
open Go.RowKit

/-- The reader's variables: how far it is, and what it reads. -/
structure RdB (w : World) (g : Nat) (A : Option Addr) (l : List UInt8) (k : Nat) : Prop where
  pos : Bk w (g + 1) 3 #[.int .i64 k]
  from_ : ∃ c, Bk w g 75 #[.slice A l.length c]
  bytes : Rb w g A l
  size : l.length ≤ 140737488355328
  le : k ≤ l.length

theorem RdB.step {w : World} {g k : Nat} {A : Option Addr} {l : List UInt8} (h : RdB w g A l k) (hk : k < l.length) : RdB (w.setCell ⟨g + 1, 0, none⟩ (.int .i64 ((k + 1 : Nat) : Int))) g A l (k + 1) := by
  obtain ⟨c, hc⟩ := h.from_
  exact ⟨h.pos.set 0 _, ⟨c, hc.far (by show g ≠ g + 1; omega) _⟩, h.bytes.below ((Below.refl g w).setCell (by show g ≤ g + 1; omega) _) (by omega), h.size, by omega⟩

theorem RdB.below {w w' : World} {g k B : Nat} {A : Option Addr} {l : List UInt8} (h : RdB w g A l k) (hb : Below B w w') (hB : g + 2 ≤ B) : RdB w' g A l k := by
  obtain ⟨c, hc⟩ := h.from_
  exact ⟨h.pos.below hb (by omega), ⟨c, hc.below hb (by omega)⟩, h.bytes.below hb (by omega), h.size, h.le⟩

end Go.Proofs.YtekobdmlgbffnaaDoor

/- num.Read: its contract. -/
namespace Go.Proofs.YtekobdmlgbffnaaDoor
set_option linter.unusedVariables false
set_option maxRecDepth 100000
set_option linter.unusedSimpArgs false
open Go.RowKit

/-- The text with which bytes begin. -/
def readS : List UInt8 → Option (List UInt8)
  | [] => none
  | c :: r => if c.toNat ≤ r.length then some (r.take c.toNat) else none

def readE : Option (List UInt8) → Ending
  | some t => .returned (.tuple #[.string ⟨t.toArray⟩, .int .i64 (1 + (t.length : Int)), .bool true])
  | none => .returned (.tuple #[.string ⟨#[]⟩, .int .i64 0, .bool false])

/-- The cells of which the first j are read. -/
def rcells (l : List UInt8) (m j : Nat) : Array Value := ((List.range m).map fun i => Value.int .u8 (if i < j then ((l.getD (1 + i) 0).toNat : Int) else 0)).toArray

end Go.Proofs.YtekobdmlgbffnaaDoor

/- Texts there and back; the first, the last of bytes that a slice reads as. -/
namespace Go.Proofs.YtekobdmlgbffnaaDoor
set_option linter.unusedVariables false
set_option maxRecDepth 100000
set_option linter.unusedSimpArgs false
open Go.RowKit

/-- Of bytes that a slice reads as, the first few. -/
theorem Rb.take {w : World} {B : Nat} {A : Option Addr} {l : List UInt8} (h : Rb w B A l) (k : Nat) : Rb w B A (l.take k) := by
  rcases h with h | ⟨b, o, e, hb, hc⟩
  · left; rw [h]; simp
  · right
    refine ⟨b, o, e, hb, fun i hi => ?_⟩
    have hi' : i < l.length := by rw [List.length_take] at hi; omega
    rw [hc i hi', List.getElem_take]
theorem Rb.drop {w : World} {B g k : Nat} {l : List UInt8} (h : Rb w B (some ⟨g, 0, none⟩) l) : Rb w B (some ⟨g, k, none⟩) (l.drop k) := by
  rcases h with h | ⟨b, o, e, hb, hc⟩
  · left; rw [h]; simp
  · injection e with e
    injection e with e1 e2
    subst e1; subst e2
    refine .inr ⟨g, k, rfl, hb, fun i hi => ?_⟩
    have hi' : k + i < l.length := by rw [List.length_drop] at hi; omega
    have := hc (k + i) hi'
    rw [Nat.zero_add] at this
    rw [this, List.getElem_drop]

end Go.Proofs.YtekobdmlgbffnaaDoor

/- num.Get, num.Parse: their contracts. -/
namespace Go.Proofs.YtekobdmlgbffnaaDoor
set_option linter.unusedVariables false
set_option maxRecDepth 100000
set_option linter.unusedSimpArgs false
open Go.RowKit

def stB (l : List UInt8) (k : Nat) : Nat × Bool × Bool := if h : k < l.length then ((l[k]).toNat % 128, decide ((l[k]).toNat < 128), true) else (0, true, false)
/-- The number with which bytes begin, and how many bytes it has. -/
def getS (l : List UInt8) : Option (Nat × Nat) := numS 128 (stB l) (l.length + 1) 0 0

end Go.Proofs.YtekobdmlgbffnaaDoor

/- There and back, of numbers' bytes: plain mathematics. -/
namespace Go.Proofs.YtekobdmlgbffnaaDoor
set_option linter.unusedVariables false
set_option maxRecDepth 100000
set_option linter.unusedSimpArgs false

/-! ### Bytes -/

end Go.Proofs.YtekobdmlgbffnaaDoor

/- Messages in bytes, there and back: plain mathematics. -/
namespace Go.Proofs.YtekobdmlgbffnaaDoor
set_option linter.unusedVariables false
set_option maxRecDepth 100000
set_option linter.unusedSimpArgs false

/-- A message: its kind, its texts, its numbers. -/
structure Mg where
  k : Int
  a : ByteArray
  b : ByteArray
  n : Int
  m : Int

/-- What each kind has, as bits. -/
def ptL : List Nat := [0, 3, 1, 1, 0, 4, 5, 13, 13, 5, 5, 3, 2, 0, 1]
/-- Has a kind the part at that place? -/
def hasK (k at' : Nat) : Bool := (ptL.getD k 0).testBit at'
def knownB (k : Int) : Bool := decide (1 ≤ k) && decide (k ≤ 14)
def cntB (n : Int) : Bool := decide (0 ≤ n) && decide (n ≤ 1099511627776)
/-- Is there nothing that the kind has not? -/
def onlyB (x : Mg) : Bool := (hasK x.k.toNat 0 || x.a.toList.isEmpty) && (hasK x.k.toNat 1 || x.b.toList.isEmpty) && (hasK x.k.toNat 2 || x.n == 0) && (hasK x.k.toNat 3 || x.m == 0)
def rightM (x : Mg) : Bool := knownB x.k && onlyB x && decide (x.a.size ≤ 64) && decide (x.b.size ≤ 64) && cntB x.n && cntB x.m

/-- A part's bytes. -/
def pieceW (x : Mg) : Nat → List UInt8
  | 0 => textB x.a
  | 1 => textB x.b
  | 2 => putB x.n.toNat
  | _ => putB x.m.toNat
/-- The bytes of the parts of the first places that the kind has. -/
def bodyW (x : Mg) : Nat → List UInt8
  | 0 => []
  | j + 1 => bodyW x j ++ if hasK x.k.toNat j then pieceW x j else []
def putW (x : Mg) : List UInt8 := if rightM x then UInt8.ofNat x.k.toNat :: bodyW x 4 else []

/-- One part is read. -/
def stepW (j : Nat) (x : Mg) (l : List UInt8) : Option (Mg × List UInt8) :=
  match j with
  | 0 => (readS l).map fun t => ({ x with a := bs t }, l.drop (1 + t.length))
  | 1 => (readS l).map fun t => ({ x with b := bs t }, l.drop (1 + t.length))
  | 2 => (getS l).map fun p => ({ x with n := p.1 }, l.drop p.2)
  | _ => (getS l).map fun p => ({ x with m := p.1 }, l.drop p.2)
/-- The parts from a place on, f of them. -/
def goW (k : Nat) : Nat → Mg → List UInt8 → Option (Mg × List UInt8)
  | 0, x, l => some (x, l)
  | f + 1, x, l => if hasK k (3 - f) then (stepW (3 - f) x l).bind fun r => goW k f r.1 r.2 else goW k f x l
/-- What is told of what all parts came to. -/
def endW : Option (Mg × List UInt8) → Option Mg
  | none => none
  | some r => if r.2 = [] ∧ rightM r.1 = true then some r.1 else none
def zeroM (k : Int) : Mg := ⟨k, bs [], bs [], 0, 0⟩
def getW : List UInt8 → Option Mg
  | [] => none
  | c :: r => if knownB (c.toNat : Int) then endW (goW c.toNat 4 (zeroM c.toNat) r) else none

/-- One place on: what it was, whether the kind has it or not. -/
def atW (k j : Nat) (x : Mg) (l : List UInt8) : Option (Mg × List UInt8) := if hasK k j then stepW j x l else some (x, l)
end Go.Proofs.YtekobdmlgbffnaaDoor

/- How one shows who one is: what the document asks, as Lean functions. -/
namespace Go.Proofs.YtekobdmlgbffnaaDoor
set_option linter.unusedVariables false
set_option maxRecDepth 100000
set_option linter.unusedSimpArgs false

/-- Where one stands: ahead of a hello; ahead of a proof of that tenant, token and nonce; known; refused. -/
inductive Sk where
  | new
  | ask (a b n : ByteArray)
  | known (a : ByteArray)
  | no
def eS : ByteArray := ⟨#[]⟩
/-- The first 64 bytes. -/
def cutN (n : ByteArray) : ByteArray := n.extract 0 (min n.size 64)
theorem cutN_size (n : ByteArray) : (cutN n).size = min n.size 64 := by
  unfold cutN
  rw [ByteArray.size_extract]
  omega
theorem cutN_small (n : ByteArray) : (cutN n).size ≤ 64 := by rw [cutN_size]; omega
theorem cutN_all {n : ByteArray} (h : n.size ≤ 64) : cutN n = n := by
  unfold cutN
  rw [show min n.size 64 = n.size by omega]
  exact ByteArray.extract_zero_size
/-- What the vault says of a proof. -/
abbrev Ckf := ByteArray → ByteArray → ByteArray → ByteArray → Int → Int
def ckF (tn : List Tn) (g : Rev) : Ckf := fun a b n p now => ckI (gdB (tkN tn a b) (inR g a b) now) (wnB (tkN tn a b) a b n) p
def hsS (K : Ckf) (s : Sk) (x : Mg) (now : Int) (nn : ByteArray) : Sk := match s with
  | .new => if x.k = 1 then .ask x.a x.b (cutN nn) else .no
  | .ask a b n => if x.k = 3 then (if K a b n x.a now = 0 then .known a else .no) else .no
  | .known a => .known a
  | .no => .no
def hsM (K : Ckf) (s : Sk) (x : Mg) (now : Int) (nn : ByteArray) : Mg := match s with
  | .new => if x.k = 1 then ⟨2, cutN nn, eS, 0, 0⟩ else ⟨5, eS, eS, 1, 0⟩
  | .ask a b n => if x.k = 3 then (if K a b n x.a now = 0 then ⟨4, eS, eS, 0, 0⟩ else ⟨5, eS, eS, K a b n x.a now, 0⟩) else ⟨5, eS, eS, 1, 0⟩
  | .known _ => ⟨0, eS, eS, 0, 0⟩
  | .no => ⟨0, eS, eS, 0, 0⟩
/-- Is it over? -/
def ovS : Sk → Bool
  | .new => false
  | .ask _ _ _ => false
  | .known _ => true
  | .no => true
def whS : Sk → ByteArray
  | .known a => a
  | _ => eS
def knS : Sk → Bool
  | .known _ => true
  | _ => false
/-- What one holds is short; who is known has a name. -/
def skB : Sk → Prop
  | .ask _ _ n => n.size ≤ 64
  | .known a => 1 ≤ a.size
  | _ => True
theorem ck_vals (g : Bool) (w : List UInt8) (p : ByteArray) : ckI g w p = 0 ∨ ckI g w p = 3 ∨ ckI g w p = 101 := by
  unfold ckI
  split
  · right; left; rfl
  · split
    · right; right; rfl
    · left; rfl
theorem ck_zero {g : Bool} {w : List UInt8} {p : ByteArray} : ckI g w p = 0 ↔ g = true ∧ w ≠ [] ∧ w = p.data.toList := by
  unfold ckI
  cases g with
  | false => simp
  | true =>
    simp only [Bool.true_eq_false, if_false, true_and]
    by_cases h : w = [] ∨ w ≠ p.data.toList
    · rw [if_pos h]
      constructor
      · intro h'; cases h'
      · rintro ⟨h1, h2⟩; rcases h with h | h
        · exact absurd h h1
        · exact absurd h2 h
    · rw [if_neg h]
      simp only [not_or, Decidable.not_not] at h
      exact ⟨fun _ => h, fun _ => rfl⟩
/-- A tenant that has a token has a name. -/
theorem gd_name {c : Cg} (hc : cfgB c = true) {a b : ByteArray} {r : Bool} {now : Int} (h : gdB (tkN c.tens a b) r now = true) : 1 ≤ a.size := by
  obtain ⟨_, _, _, _, _, _, h7⟩ := cfgB_parts hc
  unfold gdB at h
  cases hk : tkN c.tens a b with
  | none => rw [hk] at h; cases h
  | some k =>
    unfold tkN at hk
    cases hq : c.tens.find? (fun t => nmEq t.name a) with
    | none => rw [hq] at hk; cases hk
    | some y =>
      obtain ⟨_, _, _, _, _, h6, _⟩ := cfgB_parts hc
      have h3 := List.find?_some hq
      have h4 := rise_names _ _ h6 y.name (List.mem_map.2 ⟨y, List.mem_of_find?_eq_some hq, rfl⟩)
      rw [nmEq_iff] at h3
      subst h3
      unfold nameB at h4
      simp only [Bool.and_eq_true, decide_eq_true_eq] at h4
      exact h4.1.1.1.1
theorem hs_b {c : Cg} (hc : cfgB c = true) (g : Rev) (s : Sk) (x : Mg) (now : Int) (nn : ByteArray) (h : skB s) : skB (hsS (ckF c.tens g) s x now nn) := by
  cases s with
  | new =>
    show skB (if x.k = 1 then .ask x.a x.b (cutN nn) else .no)
    split
    · exact cutN_small nn
    · trivial
  | ask a b n =>
    show skB (if x.k = 3 then (if ckF c.tens g a b n x.a now = 0 then .known a else .no) else .no)
    split
    · split
      · rename_i h1 h2
        exact gd_name hc (ck_zero.1 h2).1
      · trivial
    · trivial
  | known a => exact h
  | no => trivial
end Go.Proofs.YtekobdmlgbffnaaDoor

/- A configuration that came in, by value: from the row's reading to 'RC', with bounds out of the row's reach. -/
namespace Go.Proofs.YtekobdmlgbffnaaDoor
set_option linter.unusedVariables false
set_option maxRecDepth 100000
set_option linter.unusedSimpArgs false
open Go.ChangeShapes Go.WideShapes Go.ChangeAt Go.RowKit Go.Deep

section
variable {H : Type} {enc : TypeId × Value → H} {P : Program} {W : World} {t e : TypeId}

/-- Every weight of it is within the reach. -/
def Wt (P : Program) (t : TypeId) (d : DataW H) : Prop := ∀ n ∈ d.weights P t, n ≤ reachBytes
theorem wt_all : ∀ (l : List (DataW H)), (∀ n ∈ DataW.weightsAll P e l, n ≤ reachBytes) → ∀ x ∈ l, Wt P e x
  | [], _, _, h => by cases h
  | d :: r, h, x, hx => by
    simp only [DataW.weightsAll, List.mem_append] at h
    rcases List.mem_cons.1 hx with hx | hx
    · subst hx; exact fun n hn => h n (.inl hn)
    · exact wt_all r (fun n hn => h n (.inr hn)) x hx
theorem Wt.slice {el sp : List (DataW H)} (hu : P.underlying t = some (.slice e)) (h : Wt P t (.slice el sp)) : el.length * P.bytesOf e ≤ reachBytes ∧ ∀ x ∈ el, Wt P e x := by
  unfold Wt at h
  simp only [DataW.weights, hu] at h
  refine ⟨?_, wt_all el fun n hn => h n (by simp [hn])⟩
  have := h ((el.length + sp.length) * P.bytesOf e) (by simp)
  exact Nat.le_trans (Nat.mul_le_mul_right _ (Nat.le_add_right _ _)) this
theorem Wt.part {fs : Array Field} {parts : List (DataW H)} (hu : P.underlying t = some (.struct fs)) (h : Wt P t (.agg parts)) {j : Nat} {f : Field} {d : DataW H} (hf : fs[j]? = some f) (hd : parts[j]? = some d) : Wt P f.type d := fun n hn => by
  unfold Wt at h
  simp only [DataW.weights, hu] at h
  exact h n (DataW.weights_mem_each (j := j) (t := f.type) (d := d) (by simp [hf]) hd n hn)

theorem open_each {fs : Array Field} {A : Option Addr} {n c k : Nat} {y : DataW H × List MemPlace} {fuel : Nat} (ht : P.underlying t = some (.slice e)) (he : P.underlying e = some (.struct fs)) (ce : P.cellsOf e = k) (h1 : 1 ≤ P.bytesOf e)
    (h : DataW.trod enc P W 0 (fun _ => true) true fuel t [.slice A n c] = some y) (hw : Wt P t y.1) :
    (A = none ∧ n = 0 ∧ c = 0) ∨ ∃ a, A = some a ∧ n ≤ c ∧ c ≤ maxLen ∧ n ≤ reachBytes ∧ ∀ i, i < n → ∃ cs fuel' z, cs.length = k ∧ (∀ j, (hj : j < cs.length) → W.cell? (a.add (i * k + j)) = some cs[j]) ∧ DataW.trod enc P W 0 (fun _ => true) true fuel' e cs = some z ∧ Wt P e z.1 := by
  rcases open_slice ht h with ⟨hcs, _⟩ | ⟨a, len, cap, m, k', D, Pl, hcs, _, hl, hm, hmm, hy, hx⟩
  · left
    simpa using hcs
  · right
    simp only [List.cons.injEq, Value.slice.injEq, and_true] at hcs
    obtain ⟨rfl, rfl, rfl⟩ := hcs
    simp only [if_true] at hmm
    subst hmm
    subst hy
    obtain ⟨w1, w2⟩ := Wt.slice ht hw
    rw [List.length_map, List.length_range] at w1
    refine ⟨a, rfl, hl, hm, Nat.le_trans (Nat.le_mul_of_pos_right _ h1) w1, fun i hi => ?_⟩
    obtain ⟨cs', g1, g2⟩ := hx i (by omega)
    rw [ce] at g1
    obtain ⟨_, hlen, hcell⟩ := World.cells?_some g1
    refine ⟨cs', k', _, hlen, fun j hj => ?_, g2, w2 _ (List.mem_map.2 ⟨i, List.mem_range.2 hi, rfl⟩)⟩
    have := hcell j (by omega)
    rw [Go.Deep.add_add] at this
    rw [this]
    exact List.getElem?_eq_getElem hj
theorem open_field {fs : Array Field} {cs : List Value} {y : DataW H × List MemPlace} {fuel : Nat} (he : P.underlying e = some (.struct fs)) (hone : oneCellFields P fs = true) (h : DataW.trod enc P W 0 (fun _ => true) true fuel e cs = some y) (hw : Wt P e y.1)
    (i : Nat) (f : Field) (hf : fs[i]? = some f) (v : Value) (hv : cs[i]? = some v) : ∃ n z, DataW.trod enc P W 0 (fun _ => true) true n f.type [v] = some z ∧ Wt P f.type z.1 := by
  obtain ⟨xs, n, _, hx, _, hlen, hg⟩ := DataW.trod_struct he h
  subst hx
  obtain ⟨ho, hk⟩ := hone_of hone i f hf
  have hi : i < fs.size := (Array.getElem?_eq_some_iff.1 hf).1
  have h1 := hg i f hf
  have hil : i < cs.length := (List.getElem?_eq_some_iff.1 hv).1
  have e1 : (cs.drop i).take 1 = [v] := by
    rw [List.drop_eq_getElem_cons hil]
    have : cs[i] = v := (List.getElem?_eq_some_iff.1 hv).2
    rw [this]; rfl
  rw [ho, hk, e1] at h1
  refine ⟨n, xs[i]'(by omega), h1.trans (List.getElem?_eq_getElem (by omega)), Wt.part he hw hf ?_⟩
  rw [List.getElem?_map, List.getElem?_eq_getElem (by omega)]; rfl
theorem open_str {v : Value} {n : Nat} {z : DataW H × List MemPlace} (hu : P.underlying t = some .string) (h : DataW.trod enc P W 0 (fun _ => true) true n t [v] = some z) (hw : Wt P t z.1) : ∃ s : ByteArray, v = .string s ∧ s.size ≤ 140737488355328 := by
  obtain ⟨s, q, hz, _⟩ := DataW.trod_string hu h
  refine ⟨s, by simpa using q, ?_⟩
  rw [hz] at hw
  have h1 : s.data.toList.length ≤ reachBytes := hw _ (by simp [DataW.weights])
  have h2 : reachBytes < 140737488355328 := reachBytes_lt
  have h3 : s.data.toList.length = s.size := rfl
  omega
theorem open_num {v : Value} {n : Nat} {k : IntKind} {z : DataW H × List MemPlace} (hu : P.underlying t = some (.int k)) (h : DataW.trod enc P W 0 (fun _ => true) true n t [v] = some z) : ∃ a : Int, v = .int k a ∧ (Lit.int k a).wf = true := by
  obtain ⟨a, q, _, w⟩ := DataW.trod_int hu h
  exact ⟨a, by simpa using q, w⟩
theorem open_slice_of {v : Value} {n : Nat} {z : DataW H × List MemPlace} (hu : P.underlying t = some (.slice e)) (h : DataW.trod enc P W 0 (fun _ => true) true n t [v] = some z) : ∃ A m c, v = .slice A m c := by
  rcases open_slice hu h with ⟨hcs, _⟩ | ⟨a, len, cap, m, k', D, Pl, hcs, _⟩
  · exact ⟨none, 0, 0, by simpa using hcs⟩
  · exact ⟨some a, len, cap, by simpa using hcs⟩
end

theorem lit_u32 {a : Int} (h : (Lit.int .u32 a).wf = true) : 0 ≤ a ∧ a < 4294967296 := by
  have hmin : IntKind.u32.min = 0 := by decide
  have hmax : IntKind.u32.max = 4294967295 := by decide
  simp only [Lit.wf, Bool.and_eq_true, decide_eq_true_eq, hmin, hmax] at h
  omega
/-- The rows of a slice, out of what each place reads as. -/
theorem rw_of {β : Type} [Inhabited β] {W : World} {k : Nat} (hk : 0 < k) {f : β → Array Value} {A : Option Addr} {n c : Nat} {p : β → Prop} {R : Nat}
    (h : (A = none ∧ n = 0 ∧ c = 0) ∨ ∃ a, A = some a ∧ n ≤ c ∧ c ≤ maxLen ∧ n ≤ R ∧ ∀ i, i < n → ∃ x : β, p x ∧ ∀ j, j < k → W.cell? (a.add (i * k + j)) = (f x)[j]?)
    (hf : ∀ x, (f x).size = k) : ∃ l : List β, l.length = n ∧ Rw k f W A l ∧ Fit A l.length c ∧ n ≤ R ∧ ∀ x ∈ l, p x := by
  rcases h with ⟨rfl, rfl, rfl⟩ | ⟨a, rfl, hl, hm, hr, hx⟩
  · exact ⟨[], rfl, .inl rfl, ⟨by simp, by omega, fun _ => ⟨rfl, rfl⟩⟩, Nat.zero_le _, fun x hx => by cases hx⟩
  · obtain ⟨F, hF⟩ := Go.Deep.choose_lt hx
    unfold maxLen at hm
    refine ⟨(List.range n).map F, by simp, ?_, ⟨by simpa using hl, by omega, fun h => by cases h⟩, hr, fun x hx => ?_⟩
    · by_cases hn : n = 0
      · left; rw [hn]; rfl
      · right
        obtain ⟨b, o, spot⟩ := a
        obtain ⟨_, h0⟩ := hF 0 (by omega)
        have h00 := h0 0 hk
        rw [Array.getElem?_eq_getElem (by rw [hf]; exact hk)] at h00
        have hspot : spot = none := by simpa [Addr.add] using World.cell?_spot h00
        subst hspot
        refine ⟨b, o, rfl, ?_, fun i hi j hj => ?_⟩
        · have := World.block_lt_of_cell? W _ h00
          rw [add_plain] at this
          exact this
        · have hi' : i < n := by simpa using hi
          have e : ((List.range n).map F)[i] = F i := by simp
          rw [e]
          have := (hF i hi').2 j hj
          rw [add_plain] at this
          rw [Nat.add_assoc]
          exact this
    · obtain ⟨i, hi, rfl⟩ := List.mem_map.1 hx
      exact (hF i (List.mem_range.1 hi)).1

instance : Inhabited Nt := ⟨⟨0, 0⟩⟩
instance : Inhabited Tk := ⟨⟨ByteArray.empty, ByteArray.empty, 0⟩⟩
instance : Inhabited Tv := ⟨⟨⟨ByteArray.empty, 0, 0, [], []⟩, none, 0, none, 0⟩⟩

theorem net_fields : ∃ f0 f1, Tryd.prog.underlying 102 = some (.struct #[f0, f1]) ∧ f0.type = 100 ∧ f1.type = 3 ∧ oneCellFields Tryd.prog #[f0, f1] = true := ⟨_, _, Tryd.underlying102, rfl, rfl, by kernel_rfl⟩
theorem tok_fields : ∃ f0 f1 f2, Tryd.prog.underlying 59 = some (.struct #[f0, f1, f2]) ∧ f0.type = 9 ∧ f1.type = 9 ∧ f2.type = 2 ∧ oneCellFields Tryd.prog #[f0, f1, f2] = true := ⟨_, _, _, Tryd.underlying59, rfl, rfl, rfl, by kernel_rfl⟩
theorem ten_fields : ∃ f0 f1 f2 f3 f4, Tryd.prog.underlying 57 = some (.struct #[f0, f1, f2, f3, f4]) ∧ f0.type = 9 ∧ f1.type = 3 ∧ f2.type = 3 ∧ f3.type = 54 ∧ f4.type = 55 ∧ oneCellFields Tryd.prog #[f0, f1, f2, f3, f4] = true := ⟨_, _, _, _, _, Tryd.underlying57, rfl, rfl, rfl, rfl, rfl, by kernel_rfl⟩
theorem cfg_fields : ∃ f0 f1 f2 f3 f4, Tryd.prog.underlying 24 = some (.struct #[f0, f1, f2, f3, f4]) ∧ f0.type = 2 ∧ f1.type = 2 ∧ f2.type = 2 ∧ f3.type = 2 ∧ f4.type = 22 ∧ oneCellFields Tryd.prog #[f0, f1, f2, f3, f4] = true := ⟨_, _, _, _, _, Tryd.underlying24, rfl, rfl, rfl, rfl, rfl, by kernel_rfl⟩

theorem five {cs : List Value} (h : cs.length = 5) : ∃ a b c d e, cs = [a, b, c, d, e] := by
  match cs, h with
  | [a, b, c, d, e], _ => exact ⟨a, b, c, d, e, rfl⟩

section
variable {H : Type} {enc : TypeId × Value → H} {W : World}
theorem open_nets {v : Value} {n : Nat} {z : DataW H × List MemPlace} (h : DataW.trod enc Tryd.prog W 0 (fun _ => true) true n 54 [v] = some z) (hw : Wt Tryd.prog 54 z.1) :
    ∃ A c, ∃ l : List Nt, v = .slice A l.length c ∧ RN W A l ∧ Fit A l.length c ∧ l.length ≤ 140737488355328 ∧ ∀ x ∈ l, x.addr < 4294967296 := by
  obtain ⟨f0, f1, hu, t0, t1, hone⟩ := net_fields
  obtain ⟨A, m, c, rfl⟩ := open_slice_of Tryd.underlying54 h
  have h0 := open_each Tryd.underlying54 hu (k := 2) (by kernel_rfl) (of_decide_eq_true (by kernel_rfl)) h hw
  obtain ⟨l, hl, h1, h2, h3, h4⟩ := rw_of (β := Nt) (k := 2) (by omega) (f := ncs) (p := fun x => x.addr < 4294967296) (R := reachBytes) (W := W) (A := A) (n := m) (c := c) (h0.imp id fun ⟨a, e, k1, k2, k3, k4⟩ => ⟨a, e, k1, k2, k3, fun i hi => by
    obtain ⟨cs, fuel', y, q1, q2, q3, q4⟩ := k4 i hi
    match cs, q1 with
    | [v0, v1], _ =>
      obtain ⟨n0, z0, r0, _⟩ := open_field hu hone q3 q4 0 f0 rfl v0 rfl
      obtain ⟨n1, z1, r1, _⟩ := open_field hu hone q3 q4 1 f1 rfl v1 rfl
      rw [t0] at r0
      rw [t1] at r1
      obtain ⟨x0, rfl, w0⟩ := open_num Tryd.underlying100 r0
      obtain ⟨x1, rfl, w1⟩ := open_num Tryd.underlying3 r1
      have hx : 0 ≤ x0 ∧ x0 < 4294967296 := by
        have h1 := lit_u32 w0
        exact h1
      refine ⟨⟨x0.toNat, x1⟩, by show x0.toNat < _; omega, fun j hj => ?_⟩
      have e0 : ((x0.toNat : Nat) : Int) = x0 := by omega
      have := q2 j hj
      rw [this]
      match j, hj with
      | 0, _ => simp [e0]
      | 1, _ => rfl⟩) (fun _ => rfl)
  have h5 : reachBytes < 140737488355328 := reachBytes_lt
  exact ⟨A, c, l, by rw [hl], h1, h2, by omega, h4⟩
theorem open_toks {v : Value} {n : Nat} {z : DataW H × List MemPlace} (h : DataW.trod enc Tryd.prog W 0 (fun _ => true) true n 55 [v] = some z) (hw : Wt Tryd.prog 55 z.1) :
    ∃ A c, ∃ l : List Tk, v = .slice A l.length c ∧ RK W A l ∧ Fit A l.length c ∧ l.length ≤ 140737488355328 ∧ ∀ x ∈ l, x.name.size ≤ 140737488355328 ∧ x.sec.size ≤ 140737488355328 := by
  obtain ⟨f0, f1, f2, hu, t0, t1, t2, hone⟩ := tok_fields
  obtain ⟨A, m, c, rfl⟩ := open_slice_of Tryd.underlying55 h
  have h0 := open_each Tryd.underlying55 hu (k := 3) (by kernel_rfl) (of_decide_eq_true (by kernel_rfl)) h hw
  obtain ⟨l, hl, h1, h2, h3, h4⟩ := rw_of (β := Tk) (k := 3) (by omega) (f := kcs) (p := fun x => x.name.size ≤ 140737488355328 ∧ x.sec.size ≤ 140737488355328) (R := reachBytes) (W := W) (A := A) (n := m) (c := c) (h0.imp id fun ⟨a, e, k1, k2, k3, k4⟩ => ⟨a, e, k1, k2, k3, fun i hi => by
    obtain ⟨cs, fuel', y, q1, q2, q3, q4⟩ := k4 i hi
    match cs, q1 with
    | [v0, v1, v2], _ =>
      obtain ⟨n0, z0, r0, y0⟩ := open_field hu hone q3 q4 0 f0 rfl v0 rfl
      obtain ⟨n1, z1, r1, y1⟩ := open_field hu hone q3 q4 1 f1 rfl v1 rfl
      obtain ⟨n2, z2, r2, _⟩ := open_field hu hone q3 q4 2 f2 rfl v2 rfl
      rw [t0] at r0 y0
      rw [t1] at r1 y1
      rw [t2] at r2
      obtain ⟨x0, rfl, w0⟩ := open_str Tryd.underlying9 r0 y0
      obtain ⟨x1, rfl, w1⟩ := open_str Tryd.underlying9 r1 y1
      obtain ⟨x2, rfl, _⟩ := open_num Tryd.underlying2 r2
      refine ⟨⟨x0, x1, x2⟩, ⟨w0, w1⟩, fun j hj => ?_⟩
      have := q2 j hj
      rw [this]
      match j, hj with
      | 0, _ => rfl
      | 1, _ => rfl
      | 2, _ => rfl⟩) (fun _ => rfl)
  have h5 : reachBytes < 140737488355328 := reachBytes_lt
  exact ⟨A, c, l, by rw [hl], h1, h2, by omega, h4⟩
/-- A tenant that came in. -/
structure InTv (W : World) (x : Tv) : Prop where
  r : RT1 W x
  nn : x.t.nets.length ≤ 140737488355328
  nk : x.t.toks.length ≤ 140737488355328
theorem open_tens {v : Value} {n : Nat} {z : DataW H × List MemPlace} (h : DataW.trod enc Tryd.prog W 0 (fun _ => true) true n 22 [v] = some z) (hw : Wt Tryd.prog 22 z.1) :
    ∃ A c, ∃ l : List Tv, v = .slice A l.length c ∧ Rw 5 tcs W A l ∧ Fit A l.length c ∧ l.length ≤ 140737488355328 ∧ ∀ x ∈ l, InTv W x := by
  obtain ⟨f0, f1, f2, f3, f4, hu, t0, t1, t2, t3, t4, hone⟩ := ten_fields
  obtain ⟨A, m, c, rfl⟩ := open_slice_of Tryd.underlying22 h
  have h0 := open_each Tryd.underlying22 hu (k := 5) (by kernel_rfl) (of_decide_eq_true (by kernel_rfl)) h hw
  obtain ⟨l, hl, h1, h2, h3, h4⟩ := rw_of (β := Tv) (k := 5) (by omega) (f := tcs) (p := fun x => InTv W x) (R := reachBytes) (W := W) (A := A) (n := m) (c := c) (h0.imp id fun ⟨a, e, k1, k2, k3, k4⟩ => ⟨a, e, k1, k2, k3, fun i hi => by
    obtain ⟨cs, fuel', y, q1, q2, q3, q4⟩ := k4 i hi
    obtain ⟨v0, v1, v2, v3, v4, rfl⟩ := five q1
    obtain ⟨n0, z0, r0, y0⟩ := open_field hu hone q3 q4 0 f0 rfl v0 rfl
    obtain ⟨n1, z1, r1, _⟩ := open_field hu hone q3 q4 1 f1 rfl v1 rfl
    obtain ⟨n2, z2, r2, _⟩ := open_field hu hone q3 q4 2 f2 rfl v2 rfl
    obtain ⟨n3, z3, r3, y3⟩ := open_field hu hone q3 q4 3 f3 rfl v3 rfl
    obtain ⟨n4, z4, r4, y4⟩ := open_field hu hone q3 q4 4 f4 rfl v4 rfl
    rw [t0] at r0 y0
    rw [t1] at r1
    rw [t2] at r2
    rw [t3] at r3 y3
    rw [t4] at r4 y4
    obtain ⟨x0, rfl, w0⟩ := open_str Tryd.underlying9 r0 y0
    obtain ⟨x1, rfl, _⟩ := open_num Tryd.underlying3 r1
    obtain ⟨x2, rfl, _⟩ := open_num Tryd.underlying3 r2
    obtain ⟨An, cn, ln, rfl, b1, b2, b3, b4⟩ := open_nets r3 y3
    obtain ⟨Ak, ck, lk, rfl, d1, d2, d3, d4⟩ := open_toks r4 y4
    refine ⟨⟨⟨x0, x1, x2, ln, lk⟩, An, cn, Ak, ck⟩, ⟨⟨b1, d1, b2, d2, b4, w0, d4⟩, b3, d3⟩, fun j hj => ?_⟩
    have := q2 j hj
    rw [this]
    match j, hj with
    | 0, _ => rfl
    | 1, _ => rfl
    | 2, _ => rfl
    | 3, _ => rfl
    | 4, _ => rfl⟩) (fun _ => rfl)
  have h5 : reachBytes < 140737488355328 := reachBytes_lt
  exact ⟨A, c, l, by rw [hl], h1, h2, by omega, h4⟩
end
/-- A configuration that came in. -/
structure InCf (W : World) (x : Cv) : Prop where
  rc : RC W x
  n : x.ts.length ≤ 140737488355328
  each : ∀ y ∈ x.ts, InTv W y

set_option maxRecDepth 100000 in
theorem open_cfg {H : Type} {enc : TypeId × Value → H} {W : World} {r : Reach} {b0 : Nat} {v : Value} {d : DataW H} {p : List MemPlace} {ts : List TypeId} {ds : List (DataW H)} {j : Nat} (hv : Value.okWide Tryd.prog W r b0 24 v) (h : DataW.Trod enc Tryd.prog W 0 (fun _ => true) true 24 v d p)
    (hz : (DataW.weightsEach Tryd.prog ts ds).all (· ≤ reachBytes) = true) (hj : ts[j]? = some 24) (hd : ds[j]? = some d) : ∃ x : Cv, v = .agg (ccs x) ∧ InCf W x := by
  obtain ⟨f0, f1, f2, f3, f4, hu, t0, t1, t2, t3, t4, hone⟩ := cfg_fields
  obtain ⟨cs, rfl, hsz⟩ := okWide_struct hu hv
  have hsz5 : cs.toList.length = 5 := by rw [Array.length_toList, hsz]; exact (show Tryd.prog.cellsOf 24 = 5 by kernel_rfl)
  obtain ⟨v0, v1, v2, v3, v4, hcs⟩ := five hsz5
  have hcs' : cs = #[v0, v1, v2, v3, v4] := by rw [← hcs]
  subst hcs'
  obtain ⟨fuel, hfu⟩ := h
  have hw : Wt Tryd.prog 24 d := fun n hn => by
    have := List.all_eq_true.1 hz _ (DataW.weights_mem_each hj hd n hn)
    simpa using this
  have hfu' : DataW.trod enc Tryd.prog W 0 (fun _ => true) true fuel 24 [v0, v1, v2, v3, v4] = some (d, p) := hfu
  obtain ⟨n0, z0, r0, _⟩ := open_field hu hone hfu' hw 0 f0 rfl v0 rfl
  obtain ⟨n1, z1, r1, _⟩ := open_field hu hone hfu' hw 1 f1 rfl v1 rfl
  obtain ⟨n2, z2, r2, _⟩ := open_field hu hone hfu' hw 2 f2 rfl v2 rfl
  obtain ⟨n3, z3, r3, _⟩ := open_field hu hone hfu' hw 3 f3 rfl v3 rfl
  obtain ⟨n4, z4, r4, y4⟩ := open_field hu hone hfu' hw 4 f4 rfl v4 rfl
  rw [t0] at r0
  rw [t1] at r1
  rw [t2] at r2
  rw [t3] at r3
  rw [t4] at r4 y4
  obtain ⟨x0, rfl, _⟩ := open_num Tryd.underlying2 r0
  obtain ⟨x1, rfl, _⟩ := open_num Tryd.underlying2 r1
  obtain ⟨x2, rfl, _⟩ := open_num Tryd.underlying2 r2
  obtain ⟨x3, rfl, _⟩ := open_num Tryd.underlying2 r3
  obtain ⟨A, c, l, rfl, b1, b2, b3, b4⟩ := open_tens r4 y4
  exact ⟨⟨x0, x1, x2, x3, l, A, c⟩, rfl, ⟨⟨⟨b1, fun y hy => (b4 y hy).r⟩, b2⟩, b3, b4⟩⟩
end Go.Proofs.YtekobdmlgbffnaaDoor

/- Calls of a vault that came in: a slice of structs of a number, four texts and a number; a text that came in, with its size out of the row's reach. -/
namespace Go.Proofs.YtekobdmlgbffnaaDoor
set_option linter.unusedVariables false
set_option maxRecDepth 100000
set_option linter.unusedSimpArgs false
open Go.ChangeShapes Go.WideShapes Go.ChangeAt Go.RowKit Go.Deep

structure Vo where
  what : Int
  tn : ByteArray
  tk : ByteArray
  nn : ByteArray
  pf : ByteArray
  now : Int
abbrev ocs (x : Vo) : Array Value := #[.int .i64 x.what, .string x.tn, .string x.tk, .string x.nn, .string x.pf, .int .i64 x.now]
def Vo.sm (x : Vo) : Prop := x.tn.size ≤ 140737488355328 ∧ x.tk.size ≤ 140737488355328 ∧ x.nn.size ≤ 140737488355328 ∧ x.pf.size ≤ 140737488355328
instance : Inhabited Vo := ⟨⟨0, ByteArray.empty, ByteArray.empty, ByteArray.empty, ByteArray.empty, 0⟩⟩
structure InOps (W : World) (A : Option Addr) (l : List Vo) (c : Nat) : Prop where
  r : Rw 6 ocs W A l
  f : Fit A l.length c
  n : l.length ≤ 140737488355328
  sm : ∀ x ∈ l, x.sm
theorem InOps.on {w w' : World} {A : Option Addr} {l : List Vo} {c : Nat} (h : InOps w A l c) (hb : Below w.heap.size w w') : InOps w' A l c := ⟨h.r.on hb, h.f, h.n, h.sm⟩
/-- A text that came in. -/
theorem open_ustr {H : Type} {enc : TypeId × Value → H} {W : World} {r : Reach} {b0 : Nat} {v : Value} {d : DataW H} {p : List MemPlace} {ts : List TypeId} {ds : List (DataW H)} {j : Nat} (hv : Value.okWide Tryd.prog W r b0 9 v) (h : DataW.Trod enc Tryd.prog W 0 (fun _ => true) true 9 v d p)
    (hz : (DataW.weightsEach Tryd.prog ts ds).all (· ≤ reachBytes) = true) (hj : ts[j]? = some 9) (hd : ds[j]? = some d) : ∃ s : ByteArray, v = .string s ∧ s.size ≤ 140737488355328 := by
  obtain ⟨a, rfl, rfl, rfl, w⟩ := Go.ChangeMaps.open_string Tryd.underlying9 hv h
  refine ⟨a, rfl, ?_⟩
  have := List.all_eq_true.1 hz _ (DataW.weights_mem_each hj hd a.data.toList.length (by simp [DataW.weights]))
  have h1 : a.data.toList.length ≤ reachBytes := by simpa using this
  have h2 : reachBytes < 140737488355328 := reachBytes_lt
  have h3 : a.data.toList.length = a.size := rfl
  omega
end Go.Proofs.YtekobdmlgbffnaaDoor
