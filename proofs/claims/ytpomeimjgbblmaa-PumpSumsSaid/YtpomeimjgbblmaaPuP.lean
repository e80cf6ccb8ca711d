/- Both pumps side by side: the program's and the document's own. (Begun in round 16, ahead of the landing.) -/
import Derived.Test.YtpomeimjgbblmaaPuH
import Derived.Test.YtpomeimjgbblmaaPuR4
import Derived.Test.YtpomeimjgbblmaaSpTwo
namespace Go.Proofs.Ytpomeimjgbblmaa
set_option linter.unusedVariables false
set_option maxRecDepth 100000
set_option linter.unusedSimpArgs false
open Go.RowKit

structure Vp (W u : World) (G : List Nat) (pb : Nat) (p : Pu) (H : List Nat) (rb : Nat) (r : Pu) (m : Nat) : Prop where
  z : Zu W u G pb m p
  d : Du W u H rb m r
  ne : ∀ y ∈ G, y ∉ H
section
variable {W u u' : World} {G G' H H' : List Nat} {pb rb m : Nat} {p r p' r' : Pu}
theorem Vp.left (h : Vp W u G pb p H rb r m) (s : Sp u u' G G') (k : Zu W u' G' pb m p') : Vp W u' G' pb p' H rb r m :=
  ⟨k, h.d.ke s.k (fun y hy hG => h.ne y hG hy) k.l, fun y hy hH => by
    rcases s.g y hy with e | e
    · exact h.ne y e hH
    · have := h.d.hi y hH; omega⟩
theorem Vp.right (h : Vp W u G pb p H rb r m) (s : Sp u u' H H') (k : Du W u' H' rb m r') : Vp W u' G pb p H' rb r' m :=
  ⟨h.z.ke s.k (fun y hy hH => h.ne y hy hH) k.l, k, fun y hy hH => by
    rcases s.g y hH with e | e
    · exact h.ne y hy e
    · have := h.z.hi y hy; omega⟩
theorem Vp.on (h : Vp W u G pb p H rb r m) (hb : Below u.heap.size u u') : Vp W u' G pb p H rb r m := ⟨h.z.on hb, h.d.on hb, h.ne⟩
theorem Vp.hi (h : Vp W u G pb p H rb r m) : ∀ y ∈ G ++ H, y < u.heap.size := fun y hy => by
  rcases List.mem_append.1 hy with e | e
  · exact h.z.hi y e
  · exact h.d.hi y e
end
/-- What went out is counted, so many bytes a call at most. -/
structure Fi (i : Nat) (p : Pu) : Prop where
  a : 0 ≤ p.a.mv ∧ p.a.mv ≤ 65536 * (i : Int)
  b : 0 ≤ p.b.mv ∧ p.b.mv ≤ 65536 * (i : Int)
theorem fi_new : Fi 0 pu0 := ⟨by decide, by decide⟩
theorem Fi.fu {i : Nat} {p : Pu} (h : Fi i p) (hi : i ≤ 1000) : Fu p := ⟨⟨h.a.1, by have := h.a.2; omega⟩, ⟨h.b.1, by have := h.b.2; omega⟩⟩
theorem Fi.of {i : Nat} {p q : Pu} (h : Fi i p) (ha : q.a.mv = p.a.mv) (hb : q.b.mv = p.b.mv) : Fi (i + 1) q := ⟨⟨by rw [ha]; exact h.a.1, by rw [ha]; have := h.a.2; omega⟩, ⟨by rw [hb]; exact h.b.1, by rw [hb]; have := h.b.2; omega⟩⟩
theorem up_mv (p : Pu) (k : Bool) (x : Wy) (h : x.mv = (p.w k).mv) : (p.up k x).a.mv = p.a.mv ∧ (p.up k x).b.mv = p.b.mv := by
  cases k
  · exact ⟨h, rfl⟩
  · exact ⟨rfl, h⟩
theorem fi_in {i m : Nat} {p p2 : Pu} {s : Int} {B : List UInt8} {r : Nat} (h : Fi i p) (e : inP m p s B = (r, p2)) : Fi (i + 1) p2 := by
  unfold inP at e
  split at e
  · injection e with _ e; subst e; exact h.of rfl rfl
  · split at e
    · injection e with _ e; subst e; exact h.of rfl rfl
    · injection e with _ e; subst e
      rename_i k _ _ _
      obtain ⟨h1, h2⟩ := up_mv p k { p.w k with q := (p.w k).q ++ B.take (m - (p.w k).q.length) } rfl
      exact h.of h1 h2
theorem fi_end {i : Nat} {p p2 : Pu} {s : Int} {r : Bool} (h : Fi i p) (e : endP p s = (r, p2)) : Fi (i + 1) p2 := by
  unfold endP at e
  split at e
  · injection e with _ e; subst e; exact h.of rfl rfl
  · split at e
    · injection e with _ e; subst e; exact h.of rfl rfl
    · injection e with _ e; subst e
      rename_i k _ _ _
      obtain ⟨h1, h2⟩ := up_mv p k { p.w k with en := true } rfl
      exact h.of h1 h2
theorem fi_br {i : Nat} {p : Pu} (h : Fi i p) : Fi (i + 1) (brP p) := h.of rfl rfl
theorem fi_out {i m : Nat} {p p2 : Pu} {s n : Int} {r : List UInt8 × Bool} (h : Fi i p) (hg : Gu m p) (hm : m ≤ 65536) (e : outP p s n = (r, p2)) : Fi (i + 1) p2 := by
  unfold outP at e
  split at e
  · injection e with _ e; subst e; exact h.of rfl rfl
  · split at e
    · injection e with _ e; subst e; exact h.of rfl rfl
    · injection e with _ e; subst e
      rename_i k _ _ _
      have h1 := (hg.w !k).le
      have h2 := takeM_le2 n (p.w !k).q.length
      generalize takeM n (p.w !k).q.length = T at *
      have ha := h.a
      have hb := h.b
      cases k
      · refine ⟨⟨ha.1, by show p.a.mv ≤ _; omega⟩, ⟨?_, ?_⟩⟩
        · show 0 ≤ p.b.mv + (T : Int); omega
        · show p.b.mv + (T : Int) ≤ _
          have : (T : Int) ≤ 65536 := by omega
          omega
      · refine ⟨⟨?_, ?_⟩, ⟨hb.1, by show p.b.mv ≤ _; omega⟩⟩
        · show 0 ≤ p.a.mv + (T : Int); omega
        · show p.a.mv + (T : Int) ≤ _
          have : (T : Int) ≤ 65536 := by omega
          omega
end Go.Proofs.Ytpomeimjgbblmaa
