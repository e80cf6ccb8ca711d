/- ending: what is put behind the whole blocks. -/
import Derived.Test.YtinbegnojfpeiaaDoorG3
namespace Go.Proofs.YtinbegnojfpeiaaDoor
set_option linter.unusedVariables false
set_option maxRecDepth 100000
set_option linter.unusedSimpArgs false
open Go.RowKit

/-- How many blocks the last bytes make. -/
def eblk (r : Nat) : Nat := if 64 < r + 9 then 2 else 1
def endB (l : List UInt8) (N : Nat) : List UInt8 := l ++ (128 :: List.replicate (64 * eblk l.length - 9 - l.length) 0) ++ be 8 (8 * N)

theorem splice_bytes (l : List UInt8) (M : Nat) (h : l.length ≤ M) : splice ((List.replicate M 0).map u8) 0 (l.map u8) = (l ++ List.replicate (M - l.length) 0).map u8 := by
  simp only [splice, List.take_zero, List.nil_append, List.length_map, Nat.zero_add, List.map_replicate, List.drop_replicate, List.map_append]
theorem mark_at (l : List UInt8) (k : Nat) : (bcells (l ++ List.replicate (k + 1) 0)).setIfInBounds l.length (u8 128) = bcells (l ++ (128 :: List.replicate k 0)) := by
  unfold bcells
  rw [List.setIfInBounds_toArray]
  congr 1
  rw [← List.map_set, List.set_append_right _ _ (Nat.le_refl _), Nat.sub_self, List.replicate_succ, List.set_cons_zero]

theorem src_of {w : World} {B : Nat} {A : Option Addr} {l : List UInt8} (h : Rb w B A l) (hp : 0 < (l.map u8).length) : ∃ ad, A = some ad ∧ ∀ j v, (l.map u8)[j]? = some v → w.cell? (ad.add j) = some v := by
  rcases h with h | ⟨b, o, e, _, hc⟩
  · subst h; simp at hp
  · refine ⟨_, e, fun j v hv => ?_⟩
    have hj : j < l.length := by
      obtain ⟨h1, _⟩ := List.getElem?_eq_some_iff.1 hv
      simpa using h1
    have hplain : (⟨b, o, none⟩ : Addr).add j = ⟨b, o + j, none⟩ := by unfold Addr.add; split <;> simp_all
    rw [hplain, hc j hj]
    simpa [hj] using hv
theorem end_facts (M r : Nat) (l : List UInt8) (g : Nat) (t : TypeId) (w : World) (hl : l.length = r) (hr : r + 9 ≤ M) (h : Hid (w.heap[g]? = some (.cells (splice ((List.replicate M 0).map u8) 0 (l.map u8)).toArray t (0, 0)))) :
    w.cell? ⟨g, r, none⟩ = some (.int .u8 0) ∧ w.frozen? ⟨g, r, none⟩ = false ∧ Bk (w.setCell ⟨g, r, none⟩ (.int .u8 128)) g t (bcells (l ++ (128 :: List.replicate (M - 9 - r) 0) ++ List.replicate 8 0 ++ [])) := by
  have h1 : Bk w g t (bcells (l ++ List.replicate (M - r) 0)) := by
    have := h.out
    rw [splice_bytes l M (by omega), hl] at this
    exact this
  refine ⟨?_, h1.frozen r, ?_⟩
  · rw [h1.cell, bcells_at _ r (by rw [List.length_append, List.length_replicate, hl]; omega)]
    have e : (l ++ List.replicate (M - r) (0 : UInt8))[r]? = some 0 := by
      rw [List.getElem?_append_right (by omega), hl, Nat.sub_self, List.getElem?_replicate, if_pos (by omega)]
    obtain ⟨hlt, he⟩ := List.getElem?_eq_some_iff.1 e
    rw [he]; rfl
  · have h2 := h1.set r (.int .u8 128)
    obtain ⟨k, hk⟩ : ∃ k, M - r = k + 1 := ⟨M - r - 1, by omega⟩
    have h3 := mark_at l k
    rw [hl] at h3
    rw [hk] at h2
    have e : (Value.int .u8 128) = Go.Proofs.YtinbegnojfpeiaaDoor.u8 128 := rfl
    rw [e, h3] at h2
    have e2 : l ++ (128 :: List.replicate (M - 9 - r) 0) ++ List.replicate 8 0 ++ [] = l ++ (128 :: List.replicate k (0 : UInt8)) := by
      rw [List.append_nil, List.append_assoc, List.cons_append, List.replicate_append_replicate]
      congr 3
      omega
    rw [e2]
    exact h2

set_option maxRecDepth 100000 in
set_option maxHeartbeats 1000000 in
theorem ending_go (M r c N : Nat) (A : Option Addr) (l : List UInt8) (w : World) (hM : M = 64 * eblk r) (hl : l.length = r) (hr : r < 64) (hN : N ≤ 1152921504606846976) (hnil : A = none → r = 0) (hR : Rb w w.heap.size A l) :
    Calls Tryd.prog 58 #[.slice A r c, .int .i64 N] w fun e w' => e = .returned (.slice (some ⟨w.heap.size, 0, none⟩) M M) ∧ Bk w' w.heap.size 5 (bcells (endB l N)) ∧ Below w.heap.size w w' := by
  have hM2 : M = 64 ∧ ¬ 64 < r + 9 ∨ M = 128 ∧ 64 < r + 9 := by unfold eblk at hM; split at hM <;> omega
  have hMl : M ≤ 128 ∧ 64 ≤ M := by omega
  have HL := Lib.hid hl
  have HR := Lib.hid hR
  have HNIL := Lib.hid hnil
  have HR1 := Lib.hid (show ∀ ob : Obj, Rb (w.alloc ob) w.heap.size A l from fun ob => HR.out.below (by go_grown) (Nat.le_refl _))
  have HMM := Lib.hid hM
  clear hl hR hnil hM
  have hmk := mk_bytes (P := Tryd.prog) w 50 5 Tryd.underlying50 bytesInfo M (by omega) ((List.replicate M 0).map u8).toArray (by rw [List.map_replicate]; simp)
  obtain ⟨Z, hZ⟩ : ∃ Z, Z = (List.replicate M 0).map Go.Proofs.YtinbegnojfpeiaaDoor.u8 := ⟨_, rfl⟩
  have HZ := Lib.hid hZ
  have HZL := Lib.hid (show Z.length = M by rw [hZ, List.length_map, List.length_replicate])
  rw [← hZ] at hmk
  clear hZ
  have cu : IntKind.u64.wrap (N : Int) = (N : Int) := by rw [IntKind.wrap_u64]; omega
  have cu2 : (N : Int) % 18446744073709551616 = (N : Int) := by omega
  obtain ⟨N8, hN8⟩ : ∃ N8, N8 = 8 * N := ⟨_, rfl⟩
  have cm : IntKind.u64.wrap ((N : Int) * 8) = (N8 : Int) := by rw [IntKind.wrap_u64]; omega
  have cm2 : (N : Int) * 8 % 18446744073709551616 = (N8 : Int) := by omega
  have HN8 := Lib.hid hN8
  have HN8l := Lib.hid (show N8 < 18446744073709551616 by omega)
  clear hN8
  have hgo : ∀ (a : Act) (w2 : World), True := fun _ _ => trivial
  obtain ⟨rfl, hb⟩ | ⟨rfl, hb⟩ := hM2
  · replace hmk : (Instr.makeSlice 50 (.int .i64 64) (.int .i64 64)).run Tryd.prog w = .ok (.slice (some ⟨w.heap.size, 0, none⟩) 64 64) (w.alloc (.cells Z.toArray 5)) := hmk
    have HTB := Lib.hid hb
    go_enter Tryd.func58, Tryd.ntmps58
    go_upto_region 6 with (refine wpList_copy_splice rfl (.tmp 16) (.tmp 17) 50 50 rfl 5 Tryd.underlying50 (by kernel_rfl) (some ⟨w.heap.size, 0, none⟩) A 64 64 r c rfl rfl w.heap.size 0 Z 5 (heap_alloc_new w _) (l.map u8) (by rw [List.length_map, HL.out]; exact (Nat.min_eq_left (by omega)).symm) (fun hp => ⟨rfl, src_of (HR1.out _) hp⟩) (by rw [List.length_map, HL.out, HZL.out]; omega) (fun v hv => by obtain ⟨x, _, rfl⟩ := List.mem_map.1 hv; rfl) w.heap.size w (by go_grown) (Nat.le_refl _) ?_; intro w2 HC hb2; rw [List.length_map])
    rw [HZ.out] at HC
    have HG := Lib.hid (end_facts 64 r l w.heap.size 5 w2 HL.out (by omega) HC)
    have HB2 := Lib.hid hb2
    have hc : w2.cell? ⟨w.heap.size, r, none⟩ = some (.int .u8 0) := HG.out.1
    have hf : w2.frozen? ⟨w.heap.size, r, none⟩ = false := HG.out.2.1
    have br : (r : Int) < 64 := by omega
    clear HC hb2
    go_wp2_with fail
    refine (put_ok w.heap.size (64 - 8) 8 8 5 (l ++ (128 :: List.replicate (64 - 9 - r) 0)) (List.replicate 8 0) [] N8 _ ?_ ?_ ?_ (by omega) HN8l.out).mono ?_
    · exact HG.out.2.2
    · rw [List.length_append, List.length_cons, List.length_replicate, HL.out]; omega
    · rw [List.length_replicate]
    rintro e w3 ⟨rfl, hB3, hb3⟩
    have HB3 := Lib.hid hB3
    have Hb3 := Lib.hid hb3
    clear hB3 hb3
    go_wp2_with fail
    go_ret
    refine ⟨rfl, ?_, (HB2.out.setCell (p := ⟨w.heap.size, r, none⟩) (Nat.le_refl _) _).trans (Hb3.out.mono ?_)⟩
    · have := HB3.out
      rw [List.append_nil] at this
      unfold endB
      rw [HL.out, ← HMM.out, ← HN8.out]
      exact this
    · exact Nat.le_refl _
  · replace hmk : (Instr.makeSlice 50 (.int .i64 128) (.int .i64 128)).run Tryd.prog w = .ok (.slice (some ⟨w.heap.size, 0, none⟩) 128 128) (w.alloc (.cells Z.toArray 5)) := hmk
    have HTB := Lib.hid hb
    go_enter Tryd.func58, Tryd.ntmps58
    go_upto_region 6 with (refine wpList_copy_splice rfl (.tmp 16) (.tmp 17) 50 50 rfl 5 Tryd.underlying50 (by kernel_rfl) (some ⟨w.heap.size, 0, none⟩) A 128 128 r c rfl rfl w.heap.size 0 Z 5 (heap_alloc_new w _) (l.map u8) (by rw [List.length_map, HL.out]; exact (Nat.min_eq_left (by omega)).symm) (fun hp => ⟨rfl, src_of (HR1.out _) hp⟩) (by rw [List.length_map, HL.out, HZL.out]; omega) (fun v hv => by obtain ⟨x, _, rfl⟩ := List.mem_map.1 hv; rfl) w.heap.size w (by go_grown) (Nat.le_refl _) ?_; intro w2 HC hb2; rw [List.length_map])
    rw [HZ.out] at HC
    have HG := Lib.hid (end_facts 128 r l w.heap.size 5 w2 HL.out (by omega) HC)
    have HB2 := Lib.hid hb2
    have hc : w2.cell? ⟨w.heap.size, r, none⟩ = some (.int .u8 0) := HG.out.1
    have hf : w2.frozen? ⟨w.heap.size, r, none⟩ = false := HG.out.2.1
    have br : (r : Int) < 128 := by omega
    clear HC hb2
    go_wp2_with fail
    refine (put_ok w.heap.size (128 - 8) 8 8 5 (l ++ (128 :: List.replicate (128 - 9 - r) 0)) (List.replicate 8 0) [] N8 _ ?_ ?_ ?_ (by omega) HN8l.out).mono ?_
    · exact HG.out.2.2
    · rw [List.length_append, List.length_cons, List.length_replicate, HL.out]; omega
    · rw [List.length_replicate]
    rintro e w3 ⟨rfl, hB3, hb3⟩
    have HB3 := Lib.hid hB3
    have Hb3 := Lib.hid hb3
    clear hB3 hb3
    go_wp2_with fail
    go_ret
    refine ⟨rfl, ?_, (HB2.out.setCell (p := ⟨w.heap.size, r, none⟩) (Nat.le_refl _) _).trans (Hb3.out.mono ?_)⟩
    · have := HB3.out
      rw [List.append_nil] at this
      unfold endB
      rw [HL.out, ← HMM.out, ← HN8.out]
      exact this
    · exact Nat.le_refl _
end Go.Proofs.YtinbegnojfpeiaaDoor
