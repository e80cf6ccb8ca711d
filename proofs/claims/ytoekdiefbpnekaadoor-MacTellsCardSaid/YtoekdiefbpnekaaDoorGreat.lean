/- great: are these texts too much? -/
import Derived.Test.YtoekdiefbpnekaaDoorProof
namespace Go.Proofs.YtoekdiefbpnekaaDoor
set_option linter.unusedVariables false
set_option linter.unusedSimpArgs false
open Go.RowKit

def gs (ws : List ByteArray) : Nat → Nat
  | 0 => ws.length
  | i + 1 => gs ws i + min (ws.getD i ByteArray.empty).size 9000
theorem gs_mono (ws : List ByteArray) (i : Nat) : ∀ k, gs ws i ≤ gs ws (i + k)
  | 0 => Nat.le_refl _
  | k + 1 => by rw [← Nat.add_assoc, gs]; have := gs_mono ws i k; omega
theorem gs_len (ws : List ByteArray) : ∀ i, ws.length ≤ gs ws i := fun i => by have := gs_mono ws 0 i; rwa [Nat.zero_add] at this
/-- What is not too much: each text is short, and so are all texts' bytes. -/
theorem gs_small (ws : List ByteArray) (h : gs ws ws.length < 9000) : ws.length < 9000 ∧ (∀ x ∈ ws, x.size < 9000) ∧ (textsB ws).length ≤ 9000 := by
  have hsz : ∀ j, (hj : j < ws.length) → ws[j].size < 9000 := by
    intro j hj
    have h1 := gs_mono ws (j + 1) (ws.length - (j + 1))
    rw [show j + 1 + (ws.length - (j + 1)) = ws.length by omega, gs, List.getD, List.getElem?_eq_getElem hj, Option.getD_some] at h1
    omega
  have ht : ∀ i, i ≤ ws.length → (textsB (ws.take i)).length + ws.length ≤ gs ws i + i := by
    intro i
    induction i with
    | zero => intro _; simp [textsB, gs]
    | succ i ih =>
      intro hi
      have hi2 : i < ws.length := by omega
      have h1 := ih (by omega)
      have h2 := hsz i hi2
      rw [textsB_take ws i hi2, List.length_append, gs, List.getD, List.getElem?_eq_getElem hi2, Option.getD_some]
      have h3 : (textB ws[i]).length ≤ ws[i].size + 1 := by
        unfold textB; split
        · rw [List.length_cons]; exact Nat.le_refl _
        · simp
      omega
  refine ⟨by have := gs_len ws ws.length; omega, ?_, ?_⟩
  · intro x hx
    obtain ⟨j, hj, rfl⟩ := List.mem_iff_getElem.1 hx
    exact hsz j hj
  · have := ht ws.length (Nat.le_refl _)
    rw [List.take_of_length_le (Nat.le_refl _)] at this
    omega
def GreatPost (ws : List ByteArray) (w : World) (e : Ending) (w' : World) : Prop := ∃ v, e = .returned (.bool v) ∧ (v = false → gs ws ws.length < 9000) ∧ Below w.heap.size w w'

set_option maxRecDepth 100000 in
set_option maxHeartbeats 1000000 in
theorem great_ok (A : Option Addr) (n c : Nat) (ws : List ByteArray) (w : World) (hl : ws.length = n) (hn : n ≤ 9223372036854775807) (hR : Rs w w.heap.size A ws) :
    Calls Tryd.prog 20 #[.slice A n c] w (GreatPost ws w) := by
  have HL := Lib.hid hl
  have HR := Lib.hid hR
  clear hl hR
  go_enter Tryd.func20, Tryd.ntmps20
  go_wp2_with fail
  go_loopw [3, 4] (fun v3 v4 wr => ∃ i m : Nat, i ≤ n ∧ v4 = .int .i64 i ∧ v3 = .int .i64 m ∧ m ≤ 9223372036854775807 ∧ Hid (m = gs ws i) ∧ Hid (Below w.heap.size w wr)) (fun _ v4 _ => n - (intOf v4).toNat)
  case atStart => exact ⟨0, n, by omega, rfl, rfl, by omega, Lib.hid (by rw [gs, HL.out]), Lib.hid (Below.refl _ _)⟩
  case round =>
    obtain ⟨i, m, hi, rfl, rfl, hm, HM, HB⟩ := hrel
    by_cases hi1 : i < n
    · have hi2 : (i : Int) < (n : Int) := by omega
      by_cases hm9 : m < 9000
      · have hm2 : (m : Int) < 9000 := by omega
        have hiw : i < ws.length := by rw [HL.out]; exact hi1
        obtain ⟨b, o, rfl, hcell⟩ : ∃ b o, A = some ⟨b, o, none⟩ ∧ wr.cell? ⟨b, o + i, none⟩ = some (.string ws[i]) := by
          rcases HR.out with h | ⟨b, o, e, hb, hc⟩
          · subst h; simp at hiw
          · exact ⟨b, o, e, (HB.out.cell (p := ⟨b, o + i, none⟩) hb).trans (hc i hiw)⟩
        have HNX := Lib.hid (show m + min ws[i].size 9000 = gs ws (i + 1) by rw [gs, HM.out, List.getD, List.getElem?_eq_getElem hiw, Option.getD_some])
        obtain ⟨s, hs⟩ : ∃ s, s = ws[i] := ⟨_, rfl⟩
        rw [← hs] at hcell HNX
        obtain ⟨q, hq⟩ : ∃ q, q = min s.size 9000 := ⟨_, rfl⟩
        have hq1 : (min (s.size : Int) 9000) = (q : Int) := by omega
        have hq2 : q ≤ 9000 := by omega
        rw [← hq] at HNX
        clear hs hq hiw
        go_wp2_with fail
        go_roundw
        case rel => exact ⟨i + 1, m + q, by omega, by go_num, by go_num, by omega, HNX, HB⟩
        case measure => simp [intOf]; omega
      · have hm2 : (9000 : Int) ≤ (m : Int) := by omega
        have hd : decide ((m : Int) < 9000) = false := by simp; omega
        have hm3 : (9000 : Nat) ≤ m := by omega
        clear hm9
        go_wp2_with fail
        go_ret
        exact ⟨true, rfl, (fun h => by cases h), HB.out⟩
    · have hi2 : (n : Int) ≤ (i : Int) := by omega
      have hd0 : decide ((i : Int) < (n : Int)) = false := by simp; omega
      have HI := Lib.hid (show i = ws.length by rw [HL.out]; omega)
      by_cases hm9 : m < 9000
      · have hm2 : (m : Int) < 9000 := by omega
        have HM9 := Lib.hid hm9
        have hd9 : decide ((9000 : Int) ≤ (m : Int)) = false := by simp; omega
        go_wp2_with fail
        go_ret
        exact ⟨false, rfl, (fun _ => by rw [← HI.out, ← HM.out]; exact HM9.out), HB.out⟩
      · have hm2 : (9000 : Int) ≤ (m : Int) := by omega
        have hm3 : (9000 : Nat) ≤ m := by omega
        clear hm9
        go_wp2_with fail
        go_ret
        exact ⟨true, rfl, (fun h => by cases h), HB.out⟩
end Go.Proofs.YtoekdiefbpnekaaDoor
