/- Rows of texts that the call owns, two for each pair. -/
import Derived.Test.YtekobdmlgbffnaaGreatDoorVtLawT
namespace Go.Proofs.YtekobdmlgbffnaaGreatDoor
set_option linter.unusedVariables false
set_option maxRecDepth 100000
set_option linter.unusedSimpArgs false
open Go.RowKit

abbrev scs (s : ByteArray) : Array Value := #[.string s]
theorem roS : Ro Tryz.prog 71 9 1 16 scs := ⟨Tryz.underlying71, (by
  obtain ⟨i, h1, h2, h3, h4⟩ := info_parts (show (Tryz.prog.info? 9).map (fun i => (i.zero, i.size, i.bytes)) = some (some (.string ByteArray.empty), 1, 16) by kernel_rfl)
  exact ⟨i, _, h1, h2, h3, h4, rfl⟩), by omega, fun _ => rfl, (fun x u hu => by simp at hu; subst hu; rfl), by omega⟩
def flatP (P : Rev) : List ByteArray := P.flatMap fun p => [p.1, p.2]
theorem flatP_len (P : Rev) : (flatP P).length = 2 * P.length := by
  induction P with
  | nil => rfl
  | cons p r ih => simp only [flatP, List.flatMap_cons, List.length_append, List.length_cons, List.length_nil] at ih ⊢; omega
theorem flatP_snoc (P : Rev) (a b : ByteArray) : flatP (P ++ [(a, b)]) = flatP P ++ [a, b] := by simp [flatP]
theorem flatP_at (P : Rev) : ∀ (j : Nat) (p : ByteArray × ByteArray), P[j]? = some p → (flatP P)[2 * j]? = some p.1 ∧ (flatP P)[2 * j + 1]? = some p.2 := by
  induction P with
  | nil => intro j p h; simp at h
  | cons q r ih =>
    intro j p h
    have e : flatP (q :: r) = q.1 :: q.2 :: flatP r := by simp [flatP]
    cases j with
    | zero =>
      simp at h
      subst h
      rw [e]
      exact ⟨rfl, rfl⟩
    | succ j =>
      have := ih j p (by simpa using h)
      rw [e, show 2 * (j + 1) = 2 * j + 1 + 1 by omega, List.getElem?_cons_succ, List.getElem?_cons_succ, List.getElem?_cons_succ, List.getElem?_cons_succ]
      exact this
abbrev OS (w : World) (B : Nat) (A : Option Addr) (c : Nat) (P : Rev) : Prop := Ow 9 1 scs w B A c (flatP P)
/-- The two texts of a pair. -/
theorem OS.at2 {w : World} {B : Nat} {A : Option Addr} {c : Nat} {P : Rev} (h : OS w B A c P) (j : Nat) (hj : j < P.length) :
    ∃ b o a d, A = some ⟨b, o, none⟩ ∧ P[j]? = some (a, d) ∧ ∀ u, Below w.heap.size w u → u.cell? ⟨b, o + 2 * j, none⟩ = some (.string a) ∧ u.cell? ⟨b, o + (2 * j + 1), none⟩ = some (.string d) := by
  obtain ⟨p, hp⟩ : ∃ p, P[j]? = some p := ⟨_, List.getElem?_eq_getElem hj⟩
  obtain ⟨h1, h2⟩ := flatP_at P j p hp
  have hr := Ow.rw_ (f := scs) (k := 1) (fun _ => rfl) h
  have hl1 : 2 * j < (flatP P).length := (List.getElem?_eq_some_iff.1 h1).1
  have hl2 : 2 * j + 1 < (flatP P).length := (List.getElem?_eq_some_iff.1 h2).1
  rcases hr with hr | ⟨b, o, e, hlt, hc⟩
  · rw [hr] at hl1; simp at hl1
  · refine ⟨b, o, p.1, p.2, e, hp, fun u hu => ⟨?_, ?_⟩⟩
    · have := (hu.cell (p := ⟨b, o + (2 * j) * 1 + 0, none⟩) hlt).trans (hc (2 * j) hl1 0 (by omega))
      rw [Nat.mul_one, Nat.add_zero, (List.getElem?_eq_some_iff.1 h1).2] at this
      exact this
    · have := (hu.cell (p := ⟨b, o + (2 * j + 1) * 1 + 0, none⟩) hlt).trans (hc (2 * j + 1) hl2 0 (by omega))
      rw [Nat.mul_one, Nat.add_zero, (List.getElem?_eq_some_iff.1 h2).2] at this
      exact this
theorem OS.on {w u : World} {B : Nat} {A : Option Addr} {c : Nat} {P : Rev} (h : OS w B A c P) (hb : Below w.heap.size w u) : OS u B A c P := Ow.on h hb
theorem OS.keM {w u : World} {B mb : Nat} {A : Option Addr} {c : Nat} {P g : Rev} (h : OS w B A c P) (k : Ke [mb] w u) (hm : Mv w mb g) : OS u B A c P := by
  obtain ⟨es, ck, he⟩ := hm.block
  exact h.keep fun g cs _ hb => hb.keM k he
theorem inR_snoc (P : Rev) (a b x y : ByteArray) : inR (P ++ [(a, b)]) x y = (inR P x y || (nmEq a x && nmEq b y)) := by
  unfold inR
  rw [List.any_append]
  simp
theorem inR_rvS {o : Option Tk} {g : Rev} {a b x y : ByteArray} : inR (rvG o g a b) x y = ((o.isSome && (nmEq a x && nmEq b y)) || inR g x y) := by
  unfold rvG
  split
  · simp
  · rw [inR_cons]; simp
theorem rv_lenS {o : Option Tk} {g : Rev} {a b : ByteArray} : (rvG o g a b).length ≤ g.length + 1 := by
  unfold rvG
  split
  · omega
  · rw [List.length_cons]; exact Nat.le_refl _
theorem Ke.low {L : List Nat} {a b c : World} {B : Nat} (h : Ke L a b) (k : Below B b c) (hB : a.heap.size ≤ B) : Ke L a c :=
  ⟨k.os.trans h.os, k.tape.trans h.tape, k.output.trans h.output, Nat.le_trans h.size k.size, fun i hi hL => (k.block i (by omega)).trans (h.block i hi hL)⟩
theorem Mv.low {u u' : World} {mb B : Nat} {g : Rev} (h : Mv u mb g) (k : Below B u u') (hB : mb < B) : Mv u' mb g := by
  obtain ⟨n, D, ⟨es, clock, hb, r⟩, h4⟩ := h.ex
  exact ⟨n, D, ⟨es, clock, (k.block mb hB).trans hb, r⟩, h4⟩
theorem Va.own {u u' : World} {v mb : Nat} {c : List Tn} {g g' : Rev} (h : Va u v mb c g) (k : Ke [mb] u u') (hm : Mv u' mb g') : Va u' v mb c g' := h.imp fun _ h => h.own k hm
/-- A vault at a later world, by what turned since. -/
theorem Lv.at_ {w u u' : World} {v mb : Nat} {c : List Tn} {g g' : Rev} {L : List (Nat × TypeId × Array Value)} (h : Lv w v mb c g L u) (k : Ke [mb] u u') (hm : Mv u' mb g') : Lv w v mb c g' L u' := h.turn (h.va.own k hm) k
/-- What was revoked of the tokens that there are. -/
structure Rn (c : List Tn) (g P : Rev) : Prop where
  is : ∀ a b, inR g a b = ((tkN c a b).isSome && inR P a b)
theorem Rn.nil (c : List Tn) : Rn c [] [] := ⟨fun a b => by simp [inR]⟩
theorem Rn.more {c : List Tn} {g P : Rev} (h : Rn c g P) (a b : ByteArray) : Rn c (rvG (tkN c a b) g a b) (P ++ [(a, b)]) := ⟨fun x y => by
  rw [inR_rvS, inR_snoc, h.is x y]
  cases hq : (nmEq a x && nmEq b y) with
  | false => simp
  | true =>
    rw [Bool.and_eq_true, nmEq_iff, nmEq_iff] at hq
    obtain ⟨rfl, rfl⟩ := hq
    cases (tkN c a b).isSome <;> simp⟩
end Go.Proofs.YtekobdmlgbffnaaGreatDoor
