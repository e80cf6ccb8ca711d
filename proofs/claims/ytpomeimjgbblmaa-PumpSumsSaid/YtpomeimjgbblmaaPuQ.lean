/- Two of the program's pumps side by side; what one way is, and a broken pump. (Begun in round 16, ahead of the landing.) -/
import Derived.Test.YtpomeimjgbblmaaPuE
namespace Go.Proofs.Ytpomeimjgbblmaa
set_option linter.unusedVariables false
set_option maxRecDepth 100000
set_option linter.unusedSimpArgs false
open Go.RowKit

structure Vq (W u : World) (G : List Nat) (pb : Nat) (p : Pu) (K : List Nat) (qb : Nat) (q : Pu) (m : Nat) : Prop where
  z : Zu W u G pb m p
  y : Zu W u K qb m q
  ne : ∀ y ∈ G, y ∉ K
section
variable {W u u' : World} {G G' K K' : List Nat} {pb qb m : Nat} {p q p' q' : Pu}
theorem Vq.left (h : Vq W u G pb p K qb q m) (s : Sp u u' G G') (k : Zu W u' G' pb m p') : Vq W u' G' pb p' K qb q m :=
  ⟨k, h.y.ke s.k (fun y hy hG => h.ne y hG hy) k.l, fun y hy hH => by
    rcases s.g y hy with e | e
    · exact h.ne y e hH
    · have := h.y.hi y hH; omega⟩
theorem Vq.right (h : Vq W u G pb p K qb q m) (s : Sp u u' K K') (k : Zu W u' K' qb m q') : Vq W u' G pb p K' qb q' m :=
  ⟨h.z.ke s.k (fun y hy hH => h.ne y hy hH) k.l, k, fun y hy hH => by
    rcases s.g y hH with e | e
    · exact h.ne y hy e
    · have := h.z.hi y hy; omega⟩
theorem Vq.on (h : Vq W u G pb p K qb q m) (hb : Below u.heap.size u u') : Vq W u' G pb p K qb q m := ⟨h.z.on hb, h.y.on hb, h.ne⟩
theorem Vq.hi (h : Vq W u G pb p K qb q m) : ∀ y ∈ G ++ K, y < u.heap.size := fun y hy => by
  rcases List.mem_append.1 hy with e | e
  · exact h.z.hi y e
  · exact h.y.hi y e
end
/-- The way of the side 0 is one, and nothing is broken. -/
structure Sw (p q : Pu) : Prop where
  a : p.a = q.a
  pb : p.br = false
  qb : q.br = false
theorem Sw.out1 {p q p2 : Pu} {x : Int} {l : List UInt8} {b : Bool} (h : Sw p q) (e : outP p 1 x = ((l, b), p2)) : ∃ q2, outP q 1 x = ((l, b), q2) ∧ Sw p2 q2 := by
  obtain ⟨pa, pbb, pr⟩ := p
  obtain ⟨qa, qbb, qr⟩ := q
  obtain ⟨h1, h2, h3⟩ := h
  dsimp only at h1 h2 h3
  subst h1; subst h2; subst h3
  refine ⟨⟨p2.a, qbb, false⟩, ?_, ?_⟩
  · injection e with e1 e2
    injection e1 with e1 e3
    subst e2
    rw [← e1, ← e3]
    rfl
  · injection e with e1 e2
    subst e2
    exact ⟨rfl, rfl, rfl⟩
theorem Sw.out0 {p q p2 : Pu} {x : Int} {r : List UInt8 × Bool} (h : Sw p q) (e : outP p 0 x = (r, p2)) : Sw p2 q := by
  obtain ⟨pa, pbb, pr⟩ := p
  obtain ⟨h1, h2, h3⟩ := h
  dsimp only at h1 h2
  subst h2
  injection e with e1 e2
  subst e2
  exact ⟨h1, rfl, h3⟩
theorem Sw.end0 {p q p2 : Pu} {b : Bool} (h : Sw p q) (e : endP p 0 = (b, p2)) : ∃ q2, endP q 0 = (b, q2) ∧ Sw p2 q2 := by
  obtain ⟨pa, pbb, pr⟩ := p
  obtain ⟨qa, qbb, qr⟩ := q
  obtain ⟨h1, h2, h3⟩ := h
  dsimp only at h1 h2 h3
  subst h1; subst h2; subst h3
  obtain ⟨aq, ae, ao, am⟩ := pa
  cases ae
  · injection e with e1 e2
    subst e1; subst e2
    exact ⟨_, rfl, rfl, rfl, rfl⟩
  · injection e with e1 e2
    subst e1; subst e2
    exact ⟨_, rfl, rfl, rfl, rfl⟩
theorem Sw.end1 {p q p2 : Pu} {b : Bool} (h : Sw p q) (e : endP p 1 = (b, p2)) : Sw p2 q := by
  obtain ⟨pa, ⟨bq, be, bo, bm⟩, pr⟩ := p
  obtain ⟨h1, h2, h3⟩ := h
  dsimp only at h1 h2
  subst h2
  cases be
  · injection e with e1 e2
    subst e2
    exact ⟨h1, rfl, h3⟩
  · injection e with e1 e2
    subst e2
    exact ⟨h1, rfl, h3⟩
theorem Sw.in0 {m : Nat} {p q p2 : Pu} {B : List UInt8} {r : Nat} (h : Sw p q) (e : inP m p 0 B = (r, p2)) : ∃ q2, inP m q 0 B = (r, q2) ∧ Sw p2 q2 := by
  obtain ⟨pa, pbb, pr⟩ := p
  obtain ⟨qa, qbb, qr⟩ := q
  obtain ⟨h1, h2, h3⟩ := h
  dsimp only at h1 h2 h3
  subst h1; subst h2; subst h3
  obtain ⟨aq, ae, ao, am⟩ := pa
  cases ae
  · injection e with e1 e2
    subst e1; subst e2
    exact ⟨_, rfl, rfl, rfl, rfl⟩
  · injection e with e1 e2
    subst e1; subst e2
    exact ⟨_, rfl, rfl, rfl, rfl⟩
theorem Sw.in1 {m : Nat} {p q p2 : Pu} {B : List UInt8} {r : Nat} (h : Sw p q) (e : inP m p 1 B = (r, p2)) : Sw p2 q := by
  obtain ⟨pa, ⟨bq, be, bo, bm⟩, pr⟩ := p
  obtain ⟨h1, h2, h3⟩ := h
  dsimp only at h1 h2
  subst h2
  cases be
  · injection e with e1 e2
    subst e2
    exact ⟨h1, rfl, h3⟩
  · injection e with e1 e2
    subst e2
    exact ⟨h1, rfl, h3⟩
theorem Sw.tells {p q : Pu} (h : Sw p q) (m : Nat) : wtP q 1 = wtP p 1 ∧ rmP m q 0 = rmP m p 0 ∧ mvP q 1 = mvP p 1 := by
  obtain ⟨pa, pbb, pr⟩ := p
  obtain ⟨qa, qbb, qr⟩ := q
  obtain ⟨h1, h2, h3⟩ := h
  dsimp only at h1 h2 h3
  subst h1; subst h2; subst h3
  exact ⟨rfl, rfl, rfl⟩
/-- A broken pump. -/
structure Bk0 (p : Pu) : Prop where
  br : p.br = true
  a : p.a.q = []
  b : p.b.q = []
theorem bk0_of (p : Pu) : Bk0 (brP p) := ⟨rfl, rfl, rfl⟩
theorem Bk0.out {p : Pu} (h : Bk0 p) (s x : Int) : outP p s x = (([], false), p) := by
  unfold outP
  split
  · rfl
  · rw [if_pos h.br]
theorem Bk0.in_ {p : Pu} (h : Bk0 p) (m : Nat) (s : Int) (B : List UInt8) : inP m p s B = (0, p) := by
  unfold inP
  split
  · rfl
  · rw [if_pos (by rw [h.br]; rfl)]
theorem Bk0.end_ {p : Pu} (h : Bk0 p) (s : Int) : endP p s = (false, p) := by
  unfold endP
  split
  · rfl
  · rw [if_pos (by rw [h.br]; rfl)]
theorem Bk0.wt {p : Pu} (h : Bk0 p) (s : Int) : wtP p s = 0 := by
  unfold wtP
  split
  · rfl
  · rename_i k _
    cases k
    · show p.b.q.length = 0; rw [h.b]; rfl
    · show p.a.q.length = 0; rw [h.a]; rfl
theorem Bk0.rm {p : Pu} (h : Bk0 p) (m : Nat) (s : Int) : rmP m p s = 0 := by
  unfold rmP
  split
  · rfl
  · rw [if_pos (by rw [h.br]; rfl)]
theorem Bk0.ov {p : Pu} (h : Bk0 p) : ovP p = true := by unfold ovP; rw [h.br]; rfl
theorem br_mv (p : Pu) (s : Int) : mvP (brP p) s = mvP p s := by
  unfold mvP
  split
  · rfl
  · rename_i k _
    cases k <;> rfl
end Go.Proofs.Ytpomeimjgbblmaa
