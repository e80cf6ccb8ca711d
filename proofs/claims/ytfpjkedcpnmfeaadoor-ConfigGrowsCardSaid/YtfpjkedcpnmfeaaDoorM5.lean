/- Syn8, Syn9, Build, Hex, Unhex: texts of this seat, one behind the other. -/
import Derived.Test.YtfpjkedcpnmfeaaDoorM3
import Derived.Test.YtfpjkedcpnmfeaaDoorShelf
import Derived.Test.YtfpjkedcpnmfeaaDoorM4
import Derived.Test.YtfpjkedcpnmfeaaDoorRows
import Derived.Deep.QuietTactic
import Derived.BigQuiet
import Derived.Deep.Cut
import Derived.Deep.CutRange
import Derived.Shelf.Strings.Builder1
import Derived.Test.YtfpjkedcpnmfeaaDoorM2
/- syntax.Dots: its contract. -/
namespace Go.Proofs.YtfpjkedcpnmfeaaDoor
set_option linter.unusedVariables false
set_option linter.unusedSimpArgs false
open Go.RowKit

def qB (a i : Nat) : Nat := a / 256 ^ (3 - i) % 256
def qcells (a i : Nat) : Array Value := ((List.range 4).map fun j => Value.string (bs (if j < i then decB (qB a j) else []))).toArray
theorem qcells_set (a i : Nat) (h : i < 4) : (qcells a i).setIfInBounds i (.string (bs (decB (qB a i)))) = qcells a (i + 1) := by
  apply Array.ext
  · simp [qcells]
  · intro j h1 h2
    have hj : j < 4 := by simpa [qcells] using h2
    rw [Array.getElem_setIfInBounds (by simpa [qcells] using hj)]
    by_cases he : i = j
    · subst he; simp [qcells]
    · rw [if_neg he]
      have : (j < i) ↔ (j < i + 1) := by omega
      simp [qcells, this]
theorem qcells_at (a i j : Nat) (h : j < 4) : (qcells a i)[j]? = some (.string (bs (if j < i then decB (qB a j) else []))) := by simp [qcells, h]
theorem q_step (a i : Nat) (ha : a < 4294967296) (h : i < 4) : a * 256 ^ i % 4294967296 / 16777216 = qB a i := by
  unfold qB
  match i, h with
  | 0, _ => simp; omega
  | 1, _ => simp; omega
  | 2, _ => simp; omega
  | 3, _ => simp; omega
theorem dotsB_q (a : Nat) (ha : a < 4294967296) : dotsB a = joinL 46 [decB (qB a 0), decB (qB a 1), decB (qB a 2), decB (qB a 3)] := by
  unfold dotsB qB
  simp only [Nat.sub_zero, Nat.reducePow, Nat.reduceSub, Nat.div_one, Nat.pow_zero]
theorem dec_len3 (n : Nat) (h : n < 256) : (decB n).length ≤ 3 := by
  by_cases h1 : n < 10
  · rw [decB_length n 1 (by omega) (by omega) (.inl rfl)]; omega
  · by_cases h2 : n < 100
    · rw [decB_length n 2 (by omega) (by omega) (.inr (by omega))]; omega
    · rw [decB_length n 3 (by omega) (by omega) (.inr (by omega))]; omega
theorem dots_len (a : Nat) : (dotsB a).length ≤ 15 := by
  unfold dotsB
  simp only [joinL, List.length_append, List.length_cons]
  have h1 := dec_len3 (a / 16777216 % 256) (by omega)
  have h2 := dec_len3 (a / 65536 % 256) (by omega)
  have h3 := dec_len3 (a / 256 % 256) (by omega)
  have h4 := dec_len3 (a % 256) (by omega)
  omega

set_option maxHeartbeats 1000000 in
theorem dots_ok (a : Nat) (w : World) (ha : a < 4294967296) :
    Calls Tryd.prog 36 #[.int .u32 a] w fun e w' => e = .returned (.string (bs (dotsB a))) ∧ Below w.heap.size w w' := by
  obtain ⟨R, hR⟩ : ∃ R, R = bs (dotsB a) := ⟨_, rfl⟩
  rw [← hR]
  have HR := Lib.hid hR
  clear hR
  have HQ0 := Lib.hid (show qcells a 0 = #[.string ⟨#[]⟩, .string ⟨#[]⟩, .string ⟨#[]⟩, .string ⟨#[]⟩] from rfl)
  go_enter Tryd.func36, Tryd.ntmps36
  go_wp2_with fail
  go_loopw [0, 5] (fun v0 v5 wr => ∃ (i x : Nat), i ≤ 4 ∧ v5 = .int .i64 i ∧ x < 4294967296 ∧ v0 = .int .u32 x ∧ Hid (x = a * 256 ^ i % 4294967296) ∧ Hid (Bk wr w.heap.size 106 (qcells a i)) ∧ Below w.heap.size w wr) (fun _ v5 _ => 4 - (intOf v5).toNat)
  case atStart => exact ⟨0, a, by omega, rfl, ha, rfl, Lib.hid (by simp; omega), Lib.hid (by rw [HQ0.out]; exact Bk.new _ _ _), (Below.refl _ _).alloc (Nat.le_refl _) _⟩
  case round =>
    obtain ⟨i, x, hi, rfl, hx, rfl, HX, HK, hbel⟩ := hrel
    by_cases hlt : i < 4
    · have HD := Lib.hid (show ∀ u, Calls Tryd.prog 18 #[.int .i64 ((x : Int) / 16777216)] u fun e w' => e = .returned (.string (bs (decB (qB a i)))) ∧ Below u.heap.size u w' from fun u => by
        have e1 : x / 16777216 = qB a i := by rw [HX.out]; exact q_step a i ha hlt
        have e2 : ((x : Int) / 16777216) = ((qB a i : Nat) : Int) := by rw [← e1]; simp
        rw [e2]
        exact dec_ok (qB a i) u (by unfold qB; omega))
      have HX2 := Lib.hid (show x * 256 % 4294967296 = a * 256 ^ (i + 1) % 4294967296 by rw [HX.out, Nat.pow_succ, ← Nat.mul_assoc, Nat.mod_mul_mod])
      obtain ⟨d, hd⟩ : ∃ d, bs (decB (qB a i)) = d := ⟨_, rfl⟩
      rw [hd] at HD
      have HDD := Lib.hid hd
      have hi4 : (i : Int) < 4 := by omega
      clear hd
      go_wp2_with (go_at_call 18; refine (HD.out _).mono ?_; rintro e w2 ⟨rfl, hb2⟩; have hk2 := HK.out.below hb2 HK.out.lt; have hc2 : w2.cell? ⟨w.heap.size, i, none⟩ = some (.string (bs (if i < i then decB (qB a i) else []))) := (by rw [hk2.cell]; exact qcells_at a i i hlt); have hf2 := hk2.frozen i)
      go_roundw
      case rel =>
        refine ⟨i + 1, x * 256 % 4294967296, by omega, by go_num, Nat.mod_lt _ (by omega), by go_num, HX2, Lib.hid ?_, (hbel.trans (hb2.mono hbel.size)).setCell (p := ⟨w.heap.size, i, none⟩) (Nat.le_refl _) _⟩
        have := hk2.set i (.string d)
        rw [← HDD.out, qcells_set a i hlt] at this
        rw [← HDD.out]
        exact this
      case measure => simp [intOf]; omega
    · obtain rfl : i = 4 := by omega
      have HJ := Lib.hid (show Calls Tryd.prog 33 #[.slice (some ⟨w.heap.size, 0, none⟩) 4 4, .string ⟨#[46]⟩] wr fun e w' => e = .returned (.string R) ∧ Below wr.heap.size wr w' by
        have hj := Tryd.strings_Join w.heap.size 0 4 [bs (decB (qB a 0)), bs (decB (qB a 1)), bs (decB (qB a 2)), bs (decB (qB a 3))] ⟨#[46]⟩ wr
          (fun j x hx => by
            have hj4 : j < 4 := by have := (List.getElem?_eq_some_iff.1 hx).1; simpa using this
            rw [Nat.zero_add, HK.out.cell, qcells_at a 4 j hj4, if_pos hj4]
            match j, hj4 with
            | 0, _ => simpa using hx
            | 1, _ => simpa using hx
            | 2, _ => simpa using hx
            | 3, _ => simpa using hx)
          HK.out.lt (by simp) (by simp)
        have hjl : Go.Lib.join ([bs (decB (qB a 0)), bs (decB (qB a 1)), bs (decB (qB a 2)), bs (decB (qB a 3))].map (·.data.toList)) (⟨#[46]⟩ : ByteArray).data.toList = dotsB a := by
          rw [dotsB_q a ha]
          simp only [List.map_cons, List.map_nil, bs_data]
          simp [Go.Lib.join, List.intercalate, joinL]
        rw [hjl] at hj
        have := hj (by have := dots_len a; omega)
        rw [HR.out]
        exact this)
      go_wp2_with (go_at_call 33; refine HJ.out.mono ?_; rintro e w2 ⟨rfl, hb2⟩)
      go_ret
      exact ⟨rfl, hbel.trans (hb2.mono hbel.size)⟩
end Go.Proofs.YtfpjkedcpnmfeaaDoor

/- syntax.Slash: its contract. (Written by gen_syn.py.) -/
namespace Go.Proofs.YtfpjkedcpnmfeaaDoor
set_option linter.unusedVariables false
set_option linter.unusedSimpArgs false
open Go.RowKit

set_option maxHeartbeats 2000000 in
theorem slash_ok (n : Nat) (bits : Int) (w : World) (hn : n < 4294967296) :
    Calls Tryd.prog 19 #[.agg #[.int .u32 n, .int .i64 bits]] w fun e w' => e = .returned (.string (bs (slashL n bits))) ∧ Below w.heap.size w w' := by
  have HS := Lib.hid (NetAt.new w n bits 53)
  by_cases hr : rightB n bits = true
  · have hb : 0 ≤ bits ∧ bits ≤ 32 := by
      unfold rightB at hr
      simp only [Bool.and_eq_true, decide_eq_true_eq] at hr
      exact hr.1
    obtain ⟨b, rfl⟩ := Int.eq_ofNat_of_zero_le hb.1
    have hb2 : b ≤ 32 := by omega
    have HR := Lib.hid (fun u => right_ok n b u hn)
    rw [hr] at HR
    obtain ⟨D, hD⟩ : ∃ D, bs (dotsB n) = D := ⟨_, rfl⟩
    obtain ⟨E, hE⟩ : ∃ E, bs (decB b) = E := ⟨_, rfl⟩
    have z1 : D.size ≤ 15 := by rw [← hD, bs_size]; exact dots_len n
    have z2 : E.size ≤ 3 := by rw [← hE, bs_size]; exact dec_len3 b (by omega)
    have HO := Lib.hid (fun u => dots_ok n u hn)
    rw [hD] at HO
    have HC := Lib.hid (fun u => dec_ok b u (by omega))
    rw [show (⟨(decB b).toArray⟩ : ByteArray) = E from hE] at HC
    have HL := Lib.hid (show bs (slashL n b) = D ++ ⟨#[47]⟩ ++ E by
      rw [← hD, ← hE, show (⟨#[47]⟩ : ByteArray) = bs [47] from rfl, bs_append, bs_append]
      unfold slashL
      rw [if_pos hr, List.append_assoc]; rfl)
    obtain ⟨R, hRR⟩ : ∃ R, bs (slashL n b) = R := ⟨_, rfl⟩
    rw [hRR] at HL ⊢
    clear hr hb hD hE hRR
    go_enter Tryd.func19, Tryd.ntmps19
    go_wp2_with (go_at_call 35; refine (HR.out _).mono ?_; rintro e w2 ⟨rfl, hb3⟩)
    have HS2 := Lib.hid (HS.out.on HS.out.b.size hb3).draw
    clear hb3
    try simp only [List.cons_append, List.nil_append]
    refine wp_region_held_drew (S := fun u => NetAt w.heap.size w w.heap.size n b u) (by kernel_rfl) (HS2.out) (fun hHeld => ?_)
    refine take_at (some 6) (i := 0) (v := ?_) rfl rfl (by kernel_rfl) (by kernel_rfl) (by kernel_rfl) (fun _ _ _ h => h) (Or.inl ⟨by kernel_rfl, ?_⟩) hHeld ?_
    rotate_left
    · intro wz hSw; have hc0 := hSw.c0; have hc1 := hSw.c1; go_simp; try (with_reducible rfl)
    try simp only [Act.put, List.setIfInBounds_toArray, List.set_cons_zero, List.set_cons_succ, List.getElem_toArray, List.getElem_cons_succ, List.getElem_cons_zero]
    refine take_at (some 7) (i := 1) (v := ?_) rfl rfl (by kernel_rfl) (by kernel_rfl) (by kernel_rfl) (fun _ _ _ h => h) (Or.inl ⟨by kernel_rfl, ?_⟩) hHeld ?_
    rotate_left
    · intro wz hSw; have hc0 := hSw.c0; have hc1 := hSw.c1; go_simp; try (with_reducible rfl)
    try simp only [Act.put, List.setIfInBounds_toArray, List.set_cons_zero, List.set_cons_succ, List.getElem_toArray, List.getElem_cons_succ, List.getElem_cons_zero]
    refine take_at (some 10) (i := 4) (v := ?_) rfl rfl (by kernel_rfl) (by kernel_rfl) (by kernel_rfl) (fun _ _ _ h => h) (Or.inl ⟨by kernel_rfl, ?_⟩) hHeld ?_
    rotate_left
    · intro wz hSw; have hc0 := hSw.c0; have hc1 := hSw.c1; go_simp; try (with_reducible rfl)
    try simp only [Act.put, List.setIfInBounds_toArray, List.set_cons_zero, List.set_cons_succ, List.getElem_toArray, List.getElem_cons_succ, List.getElem_cons_zero]
    refine take_at (some 11) (i := 5) (v := ?_) rfl rfl (by kernel_rfl) (by kernel_rfl) (by kernel_rfl) (fun _ _ _ h => h) (Or.inl ⟨by kernel_rfl, ?_⟩) hHeld ?_
    rotate_left
    · intro wz hSw; have hc0 := hSw.c0; have hc1 := hSw.c1; go_simp; try (with_reducible rfl)
    try simp only [Act.put, List.setIfInBounds_toArray, List.set_cons_zero, List.set_cons_succ, List.getElem_toArray, List.getElem_cons_succ, List.getElem_cons_zero]
    refine wpAnyH_ready (rs := [2]) (by kernel_rfl) (by simp) (AllReadyH.cons rfl (fun K hK => ?_) AllReadyH.nil)
    rw [if_pos (by kernel_rfl)]
    go_simp
    refine (HO.out _).mono ?_
    rintro e u2 ⟨rfl, hbu⟩
    try dsimp only
    refine hK.out _ _ (hHeld.on hHeld.b.size hbu) (fun hHeld => ?_)
    try simp only [Act.put, List.setIfInBounds_toArray, List.set_cons_zero, List.set_cons_succ, List.getElem_toArray, List.getElem_cons_succ, List.getElem_cons_zero]
    refine take_at (some 9) (i := 3) (v := ?_) rfl rfl (by kernel_rfl) (by kernel_rfl) (by kernel_rfl) (fun _ _ _ h => h) (Or.inl ⟨by kernel_rfl, ?_⟩) hHeld ?_
    rotate_left
    · intro wz hSw; have hq1 : ¬ 9223372036854775807 < D.size + 1 := (by omega); go_simp; try (with_reducible rfl)
    try simp only [Act.put, List.setIfInBounds_toArray, List.set_cons_zero, List.set_cons_succ, List.getElem_toArray, List.getElem_cons_succ, List.getElem_cons_zero]
    refine wpAnyH_ready (rs := [6]) (by kernel_rfl) (by simp) (AllReadyH.cons rfl (fun K hK => ?_) AllReadyH.nil)
    rw [if_pos (by kernel_rfl)]
    go_simp
    refine (HC.out _).mono ?_
    rintro e u3 ⟨rfl, hbu⟩
    try dsimp only
    refine hK.out _ _ (hHeld.on hHeld.b.size hbu) (fun hHeld => ?_)
    try simp only [Act.put, List.setIfInBounds_toArray, List.set_cons_zero, List.set_cons_succ, List.getElem_toArray, List.getElem_cons_succ, List.getElem_cons_zero]
    refine take_at (some 13) (i := 7) (v := ?_) rfl rfl (by kernel_rfl) (by kernel_rfl) (by kernel_rfl) (fun _ _ _ h => h) (Or.inl ⟨by kernel_rfl, ?_⟩) hHeld ?_
    rotate_left
    · intro wz hSw; have hq1 : ¬ 9223372036854775807 < D.size + 1 + E.size := (by omega); go_simp; try (with_reducible rfl)
    try simp only [Act.put, List.setIfInBounds_toArray, List.set_cons_zero, List.set_cons_succ, List.getElem_toArray, List.getElem_cons_succ, List.getElem_cons_zero]
    refine take_at (some 2) (i := 8) (v := ?_) rfl rfl (by kernel_rfl) (by kernel_rfl) (by kernel_rfl) (fun _ _ _ h => h) (Or.inl ⟨by kernel_rfl, ?_⟩) hHeld ?_
    rotate_left
    · intro wz hSw; have hq1 : ¬ 9223372036854775807 < D.size + 1 + E.size := (by omega); go_simp; try (with_reducible rfl)
    try simp only [Act.put, List.setIfInBounds_toArray, List.set_cons_zero, List.set_cons_succ, List.getElem_toArray, List.getElem_cons_succ, List.getElem_cons_zero]
    refine wpAnyH_done (by kernel_rfl) ?_ _
    go_wp2
    go_ret
    exact ⟨by rw [HL.out]; rfl, hHeld.b⟩
  · have hr2 : rightB n bits = false := by simpa using hr
    have HR := Lib.hid (fun u => right_ok n bits u hn)
    rw [hr2] at HR
    have HL := Lib.hid (show bs (slashL n bits) = ⟨#[]⟩ by unfold slashL; rw [hr2]; rfl)
    rw [HL.out]
    clear hr hr2
    go_enter Tryd.func19, Tryd.ntmps19
    go_wp2_with (go_at_call 35; refine (HR.out _).mono ?_; rintro e w2 ⟨rfl, hb3⟩)
    go_ret
    exact ⟨rfl, HS.out.b.trans (hb3.mono HS.out.b.size)⟩
end Go.Proofs.YtfpjkedcpnmfeaaDoor

/- A byte put behind a builder that has been written to, or grown. -/
namespace Go.Proofs.YtfpjkedcpnmfeaaDoor
set_option linter.unusedVariables false
set_option linter.unusedSimpArgs false
open Go.RowKit

/-- The builder at block b holds the bytes l. -/
abbrev Bd (B b : Nat) (l : List UInt8) (w : World) : Prop := Lib.BuilderAt 85 5 B b (.pointer (some ⟨b, 0, none⟩)) (Lib.byteCells l) w

set_option maxRecDepth 100000 in
theorem ccheck_ok (b : Nat) (w : World) (h0 : w.cell? ⟨b, 0, none⟩ = some (.pointer (some ⟨b, 0, none⟩))) :
    Calls Tryd.prog 56 #[.pointer (some ⟨b, 0, none⟩)] w fun e w' => e = .returned (.tuple #[]) ∧ w' = w := by
  obtain ⟨j, hj, _⟩ := Option.map_eq_some_iff.1 (show (Tryd.prog.info? 85).map (·.size) = some 2 by kernel_rfl)
  go_enter Tryd.func56, Tryd.ntmps56
  go_wp2
  rw [Lib.run_neq_ptr_same w _ Tryd.underlying83 hj]
  go_wp2
  go_end0
  exact ⟨rfl, rfl⟩

set_option maxHeartbeats 1000000 in
theorem wbyte_ok (B b : Nat) (l : List UInt8) (c : UInt8) (w : World) (h : Bd B b l w) (hlen : l.length + 1 ≤ 140737488355328) (hBw : B ≤ w.heap.size) :
    Calls Tryd.prog 38 #[.pointer (some ⟨b, 0, none⟩), .int .u8 (c.toNat : Int)] w fun e w' => e = .returned .nilIface ∧ Bd B b (l ++ [c]) w' ∧ Below B w w' := by
  obtain ⟨i0, hi, hz0, hz1, hz2⟩ := info_parts bytesInfo
  obtain ⟨hB, v, hbk, hown, hne⟩ := h
  have hbl : (Lib.byteCells l).length = l.length := Lib.byteCells_length l
  have c0 : w.cell? ⟨b, 0, none⟩ = some (.pointer (some ⟨b, 0, none⟩)) := by rw [Lib.cell_of_heap hbk]; rfl
  have c1 : w.cell? ⟨b, 1, none⟩ = some v := by rw [Lib.cell_of_heap hbk]; rfl
  have hlt : b < w.heap.size := lt_of_block hbk
  go_enter Tryd.func38, Tryd.ntmps38
  go_wp2_with (go_at_call 56; refine (ccheck_ok b w c0).mono ?_)
  rintro e w1 ⟨rfl, rfl⟩
  go_wp2_with (at_builtin; refine wpList_append_own _ rfl _ _ 47 rfl B 5 i0 (.int .u8 0) 1 1 Tryd.underlying47 hi hz0 hz1 hz2 rfl (by decide) _ _ _ rfl (hown.alloc _) ⟨w1.heap.size, 0, none⟩ 1 1 [.int .u8 (c.toNat : Int)] rfl rfl ?c1 ?c2 ?c3 ?c4 ?c5 ?_)
  case c1 =>
    intro j u hj
    match j, hj with
    | 0, hj => simp at hj; subst hj; simp [Addr.add]
  case c2 => intro u hu; simp at hu; subst hu; rfl
  case c3 => unfold maxLen; omega
  case c4 => omega
  case c5 => simp; omega
  intro v' w2 hown' hgrow _
  have hb2 : w2.heap[b]? = some (.cells #[.pointer (some ⟨b, 0, none⟩), v] 85 (0, 0)) := by
    rw [hgrow.block b (by simp; omega) (fun e => hne e.symm), Lib.alloc_old w1 _ b hlt]
    exact hbk
  have d0 : w2.cell? ⟨b, 0, none⟩ = some (.pointer (some ⟨b, 0, none⟩)) := by rw [Lib.cell_of_heap hb2]; rfl
  have d1 : w2.cell? ⟨b, 1, none⟩ = some v := by rw [Lib.cell_of_heap hb2]; rfl
  have f1 : w2.frozen? ⟨b, 1, none⟩ = false := Lib.frozen_of_heap hb2 1
  have hbel2 : Below B w1 w2 := ((Below.refl B w1).alloc hBw _).grown hgrow (by simp; omega) (fun k hk => (hown.lt k hk).1)
  obtain ⟨g, cap, rfl⟩ : ∃ g cap, v' = .slice (some ⟨g, 0, none⟩) (l.length + 1) cap := by
    rcases hown'.2 with ⟨_, h0⟩ | ⟨g, cap, cur, hv, _⟩
    · omega
    · exact ⟨g, cap, hv⟩
  go_wp2
  go_ret
  refine ⟨rfl, ?_, hbel2.setCell (p := ⟨b, 1, none⟩) hB _⟩
  have := Lib.BuilderAt.put (T := 85) (e := 5) hB hb2 (bs' := Lib.byteCells (l ++ [c])) (by rw [Lib.byteCells_append]; simpa [Lib.byteCells] using hown') (by decide)
  simpa using this
end Go.Proofs.YtfpjkedcpnmfeaaDoor

/- Hex: bytes in digits. -/
namespace Go.Proofs.YtfpjkedcpnmfeaaDoor
set_option linter.unusedVariables false
set_option linter.unusedSimpArgs false
open Go.RowKit

def digS : ByteArray := ⟨#[48, 49, 50, 51, 52, 53, 54, 55, 56, 57, 97, 98, 99, 100, 101, 102]⟩
theorem digS_at (q : Nat) (h : q < 16) (hs : q < digS.size) : digS[q] = dig q := by
  have : ∀ m : Fin 16, ∀ h : m.val < digS.size, digS[m.val] = dig m.val := by decide
  exact this ⟨q, h⟩ hs
theorem idx_dig (q : Nat) (h : q < 16) (k : IntKind) (u : World) : (Instr.index 9 (.string digS) (.int k (q : Int))).run Tryd.prog u = .ok (.int .u8 ((dig q).toNat : Int)) u := by
  have hs : digS.size = 16 := rfl
  rw [run_index_string u 9 digS k (q : Int) Tryd.underlying9, dif_pos (by rw [hs]; omega)]
  have e : digS[(q : Int).toNat]'(by rw [hs]; omega) = dig q := digS_at q h (by rw [hs]; exact h)
  rw [e]

set_option maxRecDepth 100000 in
set_option maxHeartbeats 1000000 in
theorem hex_ok (A : Option Addr) (n c : Nat) (l : List UInt8) (w : World) (hl : l.length = n) (hn : n ≤ 1099511627776) (hR : Rb w w.heap.size A l) :
    Calls Tryd.prog 20 #[.slice A n c] w fun e w' => e = .returned (.string ⟨(hexB l).toArray⟩) ∧ Below w.heap.size w w' := by
  have HL := Lib.hid hl
  have HR := Lib.hid hR
  clear hl hR
  obtain ⟨n2, hn2⟩ : ∃ k, k = 2 * n := ⟨_, rfl⟩
  have y1 : 2 * (n : Int) = (n2 : Int) := by omega
  have hn3 : n2 ≤ 281474976710656 := by omega
  clear hn2
  go_enter Tryd.func20, Tryd.ntmps20
  go_wp2_with fail
  refine (Tryd.Builder_Grow_fresh_cap w.heap.size w.heap.size n2 _ (Nat.le_refl _) (heap_alloc_new w _) ?_ (by omega)).mono ?_
  · show _ ≤ (w.heap.push _).size; rw [Array.size_push]; omega
  rintro e w1 ⟨rfl, ⟨hB1, hb1⟩, _⟩
  have HB1 := Lib.hid (show Bd w.heap.size w.heap.size (hexB (l.take 0)) w1 from hB1)
  have Hb1 := Lib.hid (show Below w.heap.size w w1 from (show Below w.heap.size w (w.alloc _) by go_grown).trans hb1)
  clear hB1 hb1 y1 hn3
  go_wp2_with fail
  go_loopw [12] (fun v12 wr => ∃ i : Nat, i ≤ n ∧ v12 = .int .i64 i ∧ Hid (Bd w.heap.size w.heap.size (hexB (l.take i)) wr) ∧ Hid (Below w.heap.size w wr)) (fun v12 _ => n - (intOf v12).toNat)
  case atStart => exact ⟨0, by omega, rfl, HB1, Hb1⟩
  case round =>
    obtain ⟨i, hi, rfl, HB, HBB⟩ := hrel
    clear HB1 Hb1
    by_cases hi1 : i < n
    · have hil : i < l.length := by rw [HL.out]; exact hi1
      obtain ⟨b, o, rfl, hb, hc⟩ : ∃ b o, A = some ⟨b, o, none⟩ ∧ b < w.heap.size ∧ wr.cell? ⟨b, o + i, none⟩ = some (.int .u8 ((l[i]).toNat : Int)) := by
        rcases HR.out with h | ⟨b, o, e, hb, hc⟩
        · subst h; simp at hil
        · exact ⟨b, o, e, hb, (HBB.out.cell (p := ⟨b, o + i, none⟩) hb).trans (hc i hil)⟩
      have HT := Lib.hid (hexB_take l i hil)
      have hlt := (l[i]).toNat_lt
      obtain ⟨x, hx⟩ : ∃ x, x = (l[i]).toNat := ⟨_, rfl⟩
      rw [← hx] at hc HT hlt
      clear hx
      obtain ⟨q, hq⟩ : ∃ q, q = x / 16 := ⟨_, rfl⟩
      obtain ⟨r, hr⟩ : ∃ r, r = x % 16 := ⟨_, rfl⟩
      have e1 : (x : Int) / 16 = (q : Int) := by omega
      have e2 : (x : Int) % 16 = (r : Int) := by omega
      have e3 : (q : Int) % 256 = (q : Int) := by omega
      have e4 : (r : Int) % 256 = (r : Int) := by omega
      have HQ := Lib.hid (show q < 16 by omega)
      have HRR := Lib.hid (show r < 16 by omega)
      rw [← hq, ← hr] at HT
      have HLEN := Lib.hid (show (hexB (l.take i)).length + 2 ≤ 140737488355328 by rw [hexB_len, List.length_take]; omega)
      have HSZ := Lib.hid HBB.out.size
      clear hq hr hlt
      go_wp2_with (refine wpList_index rfl 9 (.const (.string digS)) (.tmp 17) rfl _ _ _ rfl rfl (idx_dig q HQ.out _ _) ?_)
      refine (wbyte_ok w.heap.size w.heap.size _ (dig q) _ HB.out (by have := HLEN.out; omega) HSZ.out).mono ?_
      rintro e w2 ⟨rfl, hB2, hb2⟩
      have HB2 := Lib.hid hB2
      have HBB2 := Lib.hid (HBB.out.trans hb2)
      have HSZ2 := Lib.hid HBB2.out.size
      clear hB2 hb2
      go_wp2_with (refine wpList_index rfl 9 (.const (.string digS)) (.tmp 21) rfl _ _ (.int .u8 ((dig r).toNat : Int)) rfl rfl (by first | exact idx_dig r HRR.out _ _ | (rw [e2]; exact idx_dig r HRR.out _ _) | (rw [e2, e4]; exact idx_dig r HRR.out _ _)) ?_)
      refine (wbyte_ok w.heap.size w.heap.size _ (dig r) _ HB2.out (by have := HLEN.out; rw [List.length_append, List.length_singleton]; omega) HSZ2.out).mono ?_
      rintro e w3 ⟨rfl, hB3, hb3⟩
      have HB3 := Lib.hid (show Bd w.heap.size w.heap.size (hexB (l.take (i + 1))) w3 by rw [HT.out]; exact hB3)
      have HBB3 := Lib.hid (HBB2.out.trans hb3)
      clear hB3 hb3
      go_wp2_with fail
      go_roundw
      case rel => exact ⟨i + 1, by omega, by go_num, HB3, HBB3⟩
      case measure => simp [intOf]; omega
    · have HI := Lib.hid (show l.take i = l by rw [List.take_of_length_le]; rw [HL.out]; omega)
      go_wp2_with fail
      refine (Tryd.Builder_String_any w.heap.size w.heap.size (hexB l) _ (Or.inr (by have := HB.out; rw [HI.out] at this; exact this)) HBB.out.size).mono ?_
      rintro e w2 ⟨rfl, hb2⟩
      go_wp2_with fail
      go_ret
      exact ⟨rfl, HBB.out.trans hb2⟩
end Go.Proofs.YtfpjkedcpnmfeaaDoor

/- Unhex: the bytes of digits. -/
namespace Go.Proofs.YtfpjkedcpnmfeaaDoor
set_option linter.unusedVariables false
set_option linter.unusedSimpArgs false
open Go.RowKit

theorem idx_str (s : ByteArray) (p : Nat) (h : p < s.size) (u : World) : (Instr.index 9 (.string s) (.int .i64 (p : Int))).run Tryd.prog u = .ok (.int .u8 ((s.data.toList.getD p 0).toNat : Int)) u := by
  rw [run_index_string u 9 s .i64 (p : Int) Tryd.underlying9, dif_pos (by omega)]
  have e : s[(p : Int).toNat]'(by simpa using h) = s.data.toList.getD p 0 := by
    have h2 : p < s.data.size := h
    have h3 : s.data.toList.getD p 0 = s.data[p] := by rw [List.getD, Array.getElem?_toList, Array.getElem?_eq_getElem h2]; rfl
    rw [h3]; rfl
  rw [e]
/-- A digit's place among the digits, or -1. -/
def place (c : UInt8) : Int := match val c with
  | some n => (n : Int)
  | none => -1
theorem place_eq (c : UInt8) : Lib.indexByte digs c = place c := by
  have : ∀ k : Fin 256, Lib.indexByte digs (UInt8.ofNat k.val) = place (UInt8.ofNat k.val) := by decide +kernel
  have h1 := this ⟨c.toNat, c.toNat_lt⟩
  simp only [UInt8.ofNat_toNat] at h1
  exact h1
set_option maxRecDepth 100000 in
theorem find_ok (c : UInt8) (w : World) : Calls Tryd.prog 74 #[.string digS, .int .u8 (c.toNat : Int)] w fun e w' => e = .returned (.int .i64 (place c)) ∧ w' = w :=
  (Tryd.strings_IndexByte digS (c.toNat : Int) w).mono fun e w' ⟨h1, h2⟩ => by
    refine ⟨?_, h2⟩
    rw [h1]
    have e1 : ((c.toNat : Nat) : Int).toNat.toUInt8 = c := by simp
    rw [e1]
    show Ending.returned (.int .i64 (Lib.indexByte digs c)) = _
    rw [place_eq]

theorem hexB_at : ∀ (l : List UInt8) (k : Nat), k < l.length → (hexB l).getD (2 * k) 0 = dig ((l.getD k 0).toNat / 16) ∧ (hexB l).getD (2 * k + 1) 0 = dig ((l.getD k 0).toNat % 16)
  | [], k, h => by simp at h
  | c :: r, 0, h => ⟨rfl, rfl⟩
  | c :: r, k + 1, h => by
    have := hexB_at r k (by simpa using h)
    rw [hexB, show 2 * (k + 1) + 1 = (2 * k + 1) + 1 + 1 by omega, show 2 * (k + 1) = (2 * k) + 1 + 1 by omega]
    simp only [List.getD_cons_succ]
    exact this
theorem unhexB_bad (s : List UInt8) (k : Nat) (hk : 2 * k + 1 < s.length) (h : val (s.getD (2 * k) 0) = none ∨ val (s.getD (2 * k + 1) 0) = none) : unhexB s = none := by
  cases hu : unhexB s with
  | none => rfl
  | some l =>
    exfalso
    have hs := hexB_unhexB s l hu
    have hl := hexB_len l
    rw [hs] at hl
    have h1 := hexB_at l k (by omega)
    rw [hs] at h1
    have h2 := (l.getD k 0).toNat_lt
    rw [h1.1, h1.2, val_dig _ (by omega), val_dig _ (by omega)] at h
    rcases h with h | h <;> cases h
theorem take2 (s : List UInt8) (i : Nat) (h : 2 * i + 1 < s.length) : s.take (2 * (i + 1)) = s.take (2 * i) ++ [s.getD (2 * i) 0, s.getD (2 * i + 1) 0] := by
  rw [show 2 * (i + 1) = 2 * i + 1 + 1 by omega, List.take_add_one, List.take_add_one, List.append_assoc]
  congr 1
  rw [List.getElem?_eq_getElem h, List.getElem?_eq_getElem (by omega), List.getD, List.getD, List.getElem?_eq_getElem h, List.getElem?_eq_getElem (by omega)]
  rfl
theorem unhexB_next (s : List UInt8) (i x y : Nat) (l : List UInt8) (h : 2 * i + 1 < s.length) (hl : unhexB (s.take (2 * i)) = some l) (hx : val (s.getD (2 * i) 0) = some x) (hy : val (s.getD (2 * i + 1) 0) = some y) :
    unhexB (s.take (2 * (i + 1))) = some (l ++ [UInt8.ofNat (16 * x + y)]) := by
  rw [take2 s i h]
  refine unhexB_app _ _ _ _ hl ?_
  rw [unhexB, hx, hy]; rfl
theorem fill_set (l : List UInt8) (k : Nat) (c : UInt8) : (bcells (l ++ List.replicate (k + 1) 0)).setIfInBounds l.length (u8 c) = bcells (l ++ [c] ++ List.replicate k 0) := by
  unfold bcells
  rw [List.setIfInBounds_toArray]
  congr 1
  rw [← List.map_set, List.set_append_right _ _ (Nat.le_refl _), Nat.sub_self, List.replicate_succ, List.set_cons_zero, List.append_assoc]
  rfl

/-- What a reading of digits gives back. -/
def UnhexPost (s : ByteArray) (w : World) (e : Ending) (w' : World) : Prop :=
  (∃ l g, unhexB s.data.toList = some l ∧ e = .returned (.tuple #[.slice (some ⟨g, 0, none⟩) l.length l.length, .bool true]) ∧ Rb w' w'.heap.size (some ⟨g, 0, none⟩) l ∧ w.heap.size ≤ g ∧ Below w.heap.size w w') ∨
  (unhexB s.data.toList = none ∧ e = .returned (.tuple #[.slice none 0 0, .bool false]) ∧ Below w.heap.size w w')

set_option maxRecDepth 100000 in
set_option maxHeartbeats 1000000 in
theorem unhex_ok (s : ByteArray) (w : World) (hn : s.size ≤ 1099511627776) : Calls Tryd.prog 63 #[.string s] w (UnhexPost s w) := by
  by_cases hodd : s.size % 2 = 1
  · have ho : (s.size : Int) % 2 = 1 := by omega
    have ho2 : (s.size : Int).tmod 2 = 1 := by rw [Int.tmod_eq_emod_of_nonneg (by omega)]; exact ho
    have HU := Lib.hid (unhexB_odd s.data.toList hodd)
    clear hodd
    go_enter Tryd.func63, Tryd.ntmps63
    go_wp2
    go_ret2
    exact .inr ⟨HU.out, rfl, Below.refl _ _⟩
  · obtain ⟨m, hm⟩ : ∃ m, s.size = 2 * m := ⟨s.size / 2, by omega⟩
    have ho : (s.size : Int) % 2 = 0 := by omega
    have ho2 : (s.size : Int).tmod 2 = 0 := by rw [Int.tmod_eq_emod_of_nonneg (by omega)]; exact ho
    have hd : (s.size : Int) / 2 = (m : Int) := by omega
    have hd2 : (s.size : Int).tdiv 2 = (m : Int) := by rw [Int.tdiv_eq_ediv_of_nonneg (by omega)]; exact hd
    have hmm : m ≤ 549755813888 := by omega
    have hmk := mk_bytes (P := Tryd.prog) w 47 5 Tryd.underlying47 bytesInfo m (by omega) (bcells (List.replicate m 0)) (by unfold bcells; rw [List.map_replicate]; simp)
    have HM := Lib.hid hm
    have HSL := Lib.hid (show s.data.toList.length = 2 * m from hm)
    clear hm hodd
    go_enter Tryd.func63, Tryd.ntmps63
    go_wp2_with fail
    go_loopw [18] (fun v18 wr => ∃ (i : Nat) (l : List UInt8), i ≤ m ∧ v18 = .int .i64 i ∧ Hid (unhexB (s.data.toList.take (2 * i)) = some l ∧ l.length = i) ∧ Hid (Bk wr w.heap.size 5 (bcells (l ++ List.replicate (m - i) 0))) ∧ Hid (Below w.heap.size w wr)) (fun v18 _ => m - (intOf v18).toNat)
    case atStart => exact ⟨0, [], by omega, rfl, Lib.hid ⟨rfl, rfl⟩, Lib.hid (by rw [Nat.sub_zero]; exact Bk.new _ _ _), Lib.hid (by go_grown)⟩
    case round =>
      obtain ⟨i, l, hi, rfl, HU, HB, HBB⟩ := hrel
      clear hmk
      by_cases hi1 : i < m
      · obtain ⟨p, hp⟩ : ∃ p, p = 2 * i := ⟨_, rfl⟩
        obtain ⟨p1, hp1⟩ : ∃ p1, p1 = 2 * i + 1 := ⟨_, rfl⟩
        have HA := Lib.hid (idx_str s p (by rw [HM.out]; omega))
        have HAB := Lib.hid (idx_str s p1 (by rw [HM.out]; omega))
        have HNX := Lib.hid (fun x y => unhexB_next s.data.toList i x y l (by rw [HSL.out]; omega) HU.out.1)
        have HBAD := Lib.hid (unhexB_bad s.data.toList i (by rw [HSL.out]; omega))
        have y1 : 2 * (i : Int) = (p : Int) := by omega
        have y2 : (p : Int) + 1 = (p1 : Int) := by omega
        have y3 : IntKind.i64.wrap (2 * (i : Int)) = (p : Int) := (iwrap _ p (by omega) (by omega)).1
        have y4 : wrap64 (2 * (i : Int)) = (p : Int) := (iwrap _ p (by omega) (by omega)).2
        have y5 : IntKind.i64.wrap ((p : Int) + 1) = (p1 : Int) := (iwrap _ p1 (by omega) (by omega)).1
        have y6 : wrap64 ((p : Int) + 1) = (p1 : Int) := (iwrap _ p1 (by omega) (by omega)).2
        rw [← hp1, ← hp] at HNX HBAD
        obtain ⟨a, ha⟩ : ∃ a, a = s.data.toList.getD p 0 := ⟨_, rfl⟩
        obtain ⟨b, hb⟩ : ∃ b, b = s.data.toList.getD p1 0 := ⟨_, rfl⟩
        rw [← ha] at HA HNX HBAD
        rw [← hb] at HAB HNX HBAD
        have hcell : wr.cell? ⟨w.heap.size, i, none⟩ = some (.int .u8 0) := by
          rw [HB.out.cell, bcells_at _ i (by rw [List.length_append, List.length_replicate, HU.out.2]; omega)]
          have e : (l ++ List.replicate (m - i) (0 : UInt8))[i]? = some 0 := by
            rw [List.getElem?_append_right (by rw [HU.out.2]; omega), HU.out.2, Nat.sub_self, List.getElem?_replicate, if_pos (by omega)]
          obtain ⟨hlt, he⟩ := List.getElem?_eq_some_iff.1 e
          rw [he]; rfl
        have hfr : wr.frozen? ⟨w.heap.size, i, none⟩ = false := HB.out.frozen i
        have hi3 : (i : Int) < (m : Int) := by omega
        clear hp hp1 ha hb
        cases hva : val a with
        | none =>
          have hpa : place a = -1 := by unfold place; rw [hva]
          have HN := Lib.hid (HBAD.out (.inl hva))
          clear HNX hva
          go_wp2_with (refine wpList_index rfl 9 (.tmp 21) (.tmp 23) rfl _ _ (.int .u8 (a.toNat : Int)) rfl rfl (by first | exact HA.out _ | (rw [y1]; exact HA.out _) | (rw [y3]; exact HA.out _) | (rw [y4]; exact HA.out _)) ?_)
          refine (find_ok a _).mono ?_
          rintro e w2 ⟨rfl, rfl⟩
          go_wp2_with (refine wpList_index rfl 9 (.tmp 26) (.tmp 29) rfl _ _ (.int .u8 (b.toNat : Int)) rfl rfl (by first | exact HAB.out _ | (rw [y2]; exact HAB.out _) | (rw [y5]; exact HAB.out _) | (rw [y6]; exact HAB.out _)) ?_)
          refine (find_ok b _).mono ?_
          rintro e w2 ⟨rfl, rfl⟩
          go_wp2_with fail
          go_ret2
          exact .inr ⟨HN.out, rfl, HBB.out⟩
        | some x =>
          have hpa : place a = (x : Int) := by unfold place; rw [hva]
          have hx16 := val_lt a x hva
          cases hvb : val b with
          | none =>
            have hpb : place b = -1 := by unfold place; rw [hvb]
            have HN := Lib.hid (HBAD.out (.inr hvb))
            clear HNX hva hvb
            go_wp2_with (refine wpList_index rfl 9 (.tmp 21) (.tmp 23) rfl _ _ (.int .u8 (a.toNat : Int)) rfl rfl (by first | exact HA.out _ | (rw [y1]; exact HA.out _) | (rw [y3]; exact HA.out _) | (rw [y4]; exact HA.out _)) ?_)
            refine (find_ok a _).mono ?_
            rintro e w2 ⟨rfl, rfl⟩
            go_wp2_with (refine wpList_index rfl 9 (.tmp 26) (.tmp 29) rfl _ _ (.int .u8 (b.toNat : Int)) rfl rfl (by first | exact HAB.out _ | (rw [y2]; exact HAB.out _) | (rw [y5]; exact HAB.out _) | (rw [y6]; exact HAB.out _)) ?_)
            refine (find_ok b _).mono ?_
            rintro e w2 ⟨rfl, rfl⟩
            go_wp2_with fail
            go_ret2
            exact .inr ⟨HN.out, rfl, HBB.out⟩
          | some y =>
            have hpb : place b = (y : Int) := by unfold place; rw [hvb]
            have hy16 := val_lt b y hvb
            have HN := Lib.hid (HNX.out x y hva hvb)
            obtain ⟨z, hz⟩ : ∃ z, z = 16 * x + y := ⟨_, rfl⟩
            rw [← hz] at HN
            have hz0 : (x : Int) * 16 + (y : Int) = (z : Int) := by omega
            have hz1 : (z : Int) % 256 = (z : Int) := by omega
            have HZ := Lib.hid (show z < 256 by omega)
            clear HNX HBAD hva hvb hz
            go_wp2_with (refine wpList_index rfl 9 (.tmp 21) (.tmp 23) rfl _ _ (.int .u8 (a.toNat : Int)) rfl rfl (by first | exact HA.out _ | (rw [y1]; exact HA.out _) | (rw [y3]; exact HA.out _) | (rw [y4]; exact HA.out _)) ?_)
            refine (find_ok a _).mono ?_
            rintro e w2 ⟨rfl, rfl⟩
            go_wp2_with (refine wpList_index rfl 9 (.tmp 26) (.tmp 29) rfl _ _ (.int .u8 (b.toNat : Int)) rfl rfl (by first | exact HAB.out _ | (rw [y2]; exact HAB.out _) | (rw [y5]; exact HAB.out _) | (rw [y6]; exact HAB.out _)) ?_)
            refine (find_ok b _).mono ?_
            rintro e w2 ⟨rfl, rfl⟩
            go_wp2_with fail
            go_roundw
            case rel =>
              refine ⟨i + 1, l ++ [UInt8.ofNat z], by omega, by go_num, Lib.hid ⟨HN.out, by rw [List.length_append, HU.out.2]; rfl⟩, Lib.hid ?_, Lib.hid ?_⟩
              · have h1 := fill_set l (m - (i + 1)) (UInt8.ofNat z)
                rw [show m - (i + 1) + 1 = m - i by omega, HU.out.2] at h1
                rw [← h1]
                have e1 : Go.Proofs.YtfpjkedcpnmfeaaDoor.u8 (UInt8.ofNat z) = .int .u8 (z : Int) := by
                  show Value.int .u8 (((UInt8.ofNat z).toNat : Nat) : Int) = _
                  rw [UInt8.toNat_ofNat', Nat.mod_eq_of_lt (by have := HZ.out; omega)]
                rw [e1]
                exact HB.out.set i _
              · exact HBB.out.setCell (p := ⟨w.heap.size, i, none⟩) (Nat.le_refl _) _
            case measure => simp [intOf]; omega
      · have HT := Lib.hid (show s.data.toList.take (2 * i) = s.data.toList by rw [List.take_of_length_le]; rw [HSL.out]; omega)
        have HI := Lib.hid (show i = m by omega)
        have hi3 : (m : Int) ≤ (i : Int) := by omega
        go_wp2_with fail
        go_ret2
        refine .inl ⟨l, w.heap.size, ?_, ?_, ?_, Nat.le_refl _, HBB.out⟩
        · have := HU.out.1; rw [HT.out] at this; exact this
        · rw [HU.out.2, HI.out]; rfl
        · have h1 := HB.out
          rw [HI.out, Nat.sub_self, List.replicate_zero, List.append_nil] at h1
          exact (Rb.bk h1).more (by have := h1.lt; omega)
end Go.Proofs.YtfpjkedcpnmfeaaDoor
