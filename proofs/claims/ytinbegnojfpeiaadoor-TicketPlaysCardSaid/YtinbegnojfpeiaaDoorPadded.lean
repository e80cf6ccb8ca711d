/- mac's keys: filled, padded. (Written by gen_mac.py.) -/
import Derived.Test.YtinbegnojfpeiaaDoorG5
import Derived.Test.YtinbegnojfpeiaaDoorG13
import Derived.Laws.CopyOwn
namespace Go.Proofs.YtinbegnojfpeiaaDoor
set_option linter.unusedVariables false
set_option maxRecDepth 100000
set_option linter.unusedSimpArgs false
open Go.RowKit

theorem Rb.row {w : World} {B g : Nat} {t : TypeId} {l : List UInt8} (h : Bk w g t (bcells l)) (hB : g < B) : Rb w B (some ⟨g, 0, none⟩) l := (Rb.bk h).more hB

set_option maxRecDepth 100000 in
set_option maxHeartbeats 2000000 in
theorem filled_ok (A : Option Addr) (n c : Nat) (l : List UInt8) (w : World) (hl : l.length = n) (hc : n ≤ c) (hmax : c ≤ 9223372036854775807) (hn : n ≤ 1099511627776) (hG : Gl w) (hR : Rb w w.heap.size A l) :
    Calls Tryd.prog 48 #[.slice A n c] w fun e w' => e = .returned (.agg (bcells (keyB l))) ∧ Below w.heap.size w w' := by
  have HL := Lib.hid hl
  have HCP := Lib.hid hc
  have HM := Lib.hid hmax
  have HN := Lib.hid hn
  have HG := Lib.hid hG
  have HR := Lib.hid hR
  clear hl hc hmax hG hR
  by_cases h64 : 64 < n
  · have b1 : (64 : Int) < (n : Int) := by omega
    have HB := Lib.hid h64
    clear h64
    go_enter Tryd.func48, Tryd.ntmps48
    go_upto_region 2 with fail
    refine gen_world (fun u => Bk u w.heap.size 83 (bcells (List.replicate 64 0)) ∧ Bk u (w.heap.size + 1) 83 (bcells (List.replicate 64 0)) ∧ Below w.heap.size w u) ?_ (fun w1 hw1 => ?_)
    · have h1 : Bk (w.alloc (.cells (bcells (List.replicate 64 0)) 83)) w.heap.size 83 (bcells (List.replicate 64 0)) := Bk.new _ _ _
      refine ⟨h1.alloc _, Bk.here ?_, by go_grown⟩
      show _ = (w.heap.push _).size; rw [Array.size_push]
    have HA1 := Lib.hid hw1.1
    have HK1 := Lib.hid hw1.2.1
    have HB1 := Lib.hid hw1.2.2
    clear hw1
    go_wp2_with fail
    refine (sum_ok A n c l _ HL.out HCP.out HM.out HN.out (HG.out.below HB1.out HG.out.size) ((HR.out.below HB1.out (Nat.le_refl _)).more HB1.out.size)).mono ?_
    rintro e w2 ⟨rfl, hb2⟩
    have HA2 := Lib.hid (HA1.out.below hb2 HA1.out.lt)
    have HK2 := Lib.hid (HK1.out.below hb2 HK1.out.lt)
    have HB2 := Lib.hid (HB1.out.trans (hb2.mono HB1.out.size))
    clear hb2 HA1 HK1 HB1
    have HE0 := Lib.hid (show (Tryd.prog.info? 68).map (·.size) = some (bcells (sum l)).size by rw [bcells_size, sum_len]; kernel_rfl)
    have HE1 := Lib.hid (show (bcells (List.replicate 32 0)).size = (bcells (sum l)).size by rw [bcells_size, bcells_size, sum_len, List.length_replicate])
    go_upto_region 4 with (refine wpList_store_row rfl 68 (.tmp 4) (.tmp 9) rfl w2.heap.size _ rfl rfl 68 _ (zeros_new w2) HE0.out HE1.out (bcells_one _) ?_)
    refine gen_world (fun u => Bk u w.heap.size 83 (bcells (List.replicate 64 0)) ∧ Bk u (w.heap.size + 1) 83 (bcells (List.replicate 64 0)) ∧ Bk u w2.heap.size 68 (bcells (sum l)) ∧ Below w.heap.size w u) ⟨(HA2.out.alloc _).setRowFar (by have := HA2.out.lt; omega) _, (HK2.out.alloc _).setRowFar (by have := HK2.out.lt; omega) _, (zeros_new w2).setRow _, Below.setRow (HB2.out.alloc HB2.out.size _) _ HB2.out.size _⟩ (fun w3 hw3 => ?_)
    obtain ⟨g, hg⟩ : ∃ g, g = w2.heap.size := ⟨_, rfl⟩
    rw [← hg] at hw3 ⊢
    have HA3 := Lib.hid hw3.1
    have HK3 := Lib.hid hw3.2.1
    have HS3 := Lib.hid hw3.2.2.1
    have HB3 := Lib.hid hw3.2.2.2
    have HR3 := Lib.hid (Rb.row hw3.2.2.1 hw3.2.2.1.lt)
    clear hw3 HA2 HK2 HB2 hg
    try simp only [List.cons_append, List.nil_append]
    refine wp_region_held_drew (S := fun _ => True) (by kernel_rfl) (trivial) (fun hHeld => ?_)
    refine take_at (some 10) (i := 0) (v := ?_) rfl rfl (by kernel_rfl) (by kernel_rfl) (by kernel_rfl) (fun _ _ _ h => h) (Or.inl ⟨by kernel_rfl, ?_⟩) hHeld ?_
    rotate_left
    · intro wz hSw; go_simp; try (with_reducible rfl)
    try simp only [Act.put, List.setIfInBounds_toArray, List.set_cons_zero, List.set_cons_succ, List.getElem_toArray, List.getElem_cons_succ, List.getElem_cons_zero]
    refine take_at (some 11) (i := 1) (v := ?_) rfl rfl (by kernel_rfl) (by kernel_rfl) (by kernel_rfl) (fun _ _ _ h => h) (Or.inl ⟨by kernel_rfl, ?_⟩) hHeld ?_
    rotate_left
    · intro wz hSw; go_simp; try (with_reducible rfl)
    try simp only [Act.put, List.setIfInBounds_toArray, List.set_cons_zero, List.set_cons_succ, List.getElem_toArray, List.getElem_cons_succ, List.getElem_cons_zero]
    refine wpAnyH_ready (rs := [2]) (by kernel_rfl) (by simp) (AllReadyH.cons rfl (fun K hK => ?_) AllReadyH.nil)
    refine step_copy_splice rfl (.tmp 10) (.tmp 11) 50 50 rfl 5 Tryd.underlying50 (by kernel_rfl) (some ⟨w.heap.size + 1, 0, none⟩) (some ⟨g, 0, none⟩) 64 64 32 32 rfl rfl (w.heap.size + 1) 0 ((List.replicate 64 0).map Go.Proofs.YtinbegnojfpeiaaDoor.u8) 83 HK3.out.drew ((sum l).map Go.Proofs.YtinbegnojfpeiaaDoor.u8) (by rw [List.length_map, sum_len]; rfl) (fun hp => ⟨rfl, src_of (HR3.out.below (Below.refl _ _).drew (Nat.le_refl _)) hp⟩) (by rw [List.length_map, List.length_map, sum_len, List.length_replicate]; decide) ?_ (w.heap.size + 1) w3 (Below.refl _ _).drew (Nat.le_refl _) ?_
    · intro v hv
      obtain ⟨x, _, rfl⟩ := List.mem_map.1 hv
      rfl
    intro w4 HC hb4
    rw [show goInt (((sum l).map Go.Proofs.YtinbegnojfpeiaaDoor.u8).length : Int) = .int .i64 32 by rw [List.length_map, sum_len]; rfl]
    refine hK.out _ _ trivial (fun hHeld => ?_)
    try simp only [Act.put, List.setIfInBounds_toArray, List.set_cons_zero, List.set_cons_succ, List.getElem_toArray, List.getElem_cons_succ, List.getElem_cons_zero]
    refine wpAnyH_done (by kernel_rfl) ?_ _
    have HKS := Lib.hid (show keyB l = sum l ++ List.replicate (64 - (sum l).length) 0 by unfold keyB shortK; rw [if_pos (by rw [HL.out]; exact HB.out)])
    rw [splice_bytes (sum l) 64 (by rw [sum_len]; decide), ← HKS.out] at HC
    obtain ⟨w5, hw5⟩ : ∃ w5, w5 = w4 := ⟨_, rfl⟩
    rw [← hw5] at HC hb4 ⊢
    clear hw5
    have HC5 := Lib.hid (show Bk w5 (w.heap.size + 1) 83 (bcells (keyB l)) from HC.out)
    have HA5 := Lib.hid (show Bk w5 w.heap.size 83 (bcells (List.replicate 64 0)) from HA3.out.below hb4 (Nat.lt_succ_self _))
    have HB5 := Lib.hid (HB3.out.trans (hb4.mono (Nat.le_succ _)))
    clear HC hb4 hHeld
    have HE := Lib.hid (show (Tryd.prog.info? 83).map (·.size) = some (bcells (keyB l)).size by rw [bcells_size, keyB_len]; kernel_rfl)
    have HE2 := Lib.hid (show (bcells (List.replicate 64 0)).size = (bcells (keyB l)).size by rw [bcells_size, bcells_size, keyB_len, List.length_replicate])
    go_wp2_with (first
      | refine wpList_load_row rfl 83 (.tmp 3) rfl (w.heap.size + 1) rfl 83 _ (0, 0) _ HC5.out Tryd.underlying83 rfl HE.out ?_
      | refine wpList_store_row rfl 83 (.tmp 2) (.tmp 16) rfl w.heap.size _ rfl rfl 83 _ HA5.out HE.out HE2.out (bcells_one _) ?_)
    obtain ⟨w9, hw9⟩ : ∃ w9, w9 = w5.setRow w.heap.size (bcells (keyB l)) := ⟨_, rfl⟩
    have HB9 : Bk w9 w.heap.size 83 (bcells (keyB l)) := by rw [hw9]; exact HA5.out.setRow _
    have hbel9 : Below w.heap.size w w9 := by rw [hw9]; exact Below.setRow HB5.out _ (Nat.le_refl _) _
    rw [← hw9]
    refine bodyPost_ret (results_cell_row rfl _ _ w.heap.size 83 _ (0, 0) _ rfl HB9 Tryd.underlying83 rfl HE.out) rfl ?_
    exact ⟨rfl, hbel9⟩
  · have b1 : (n : Int) ≤ 64 := by omega
    have HB := Lib.hid (show n ≤ 64 by omega)
    clear h64
    go_enter Tryd.func48, Tryd.ntmps48
    go_upto_region 2 with fail
    refine gen_world (fun u => Bk u w.heap.size 83 (bcells (List.replicate 64 0)) ∧ Bk u (w.heap.size + 1) 83 (bcells (List.replicate 64 0)) ∧ Below w.heap.size w u) ?_ (fun w1 hw1 => ?_)
    · have h1 : Bk (w.alloc (.cells (bcells (List.replicate 64 0)) 83)) w.heap.size 83 (bcells (List.replicate 64 0)) := Bk.new _ _ _
      refine ⟨h1.alloc _, Bk.here ?_, by go_grown⟩
      show _ = (w.heap.push _).size; rw [Array.size_push]
    have HA3 := Lib.hid hw1.1
    have HK3 := Lib.hid hw1.2.1
    have HB3 := Lib.hid hw1.2.2
    have HR3 := Lib.hid ((HR.out.below hw1.2.2 (Nat.le_refl _)).more hw1.2.2.size)
    clear hw1
    go_upto_region 6 with (refine wpList_copy_splice rfl (.tmp 13) (.tmp 14) 50 50 rfl 5 Tryd.underlying50 (by kernel_rfl) (some ⟨w.heap.size + 1, 0, none⟩) A 64 64 n c rfl rfl (w.heap.size + 1) 0 ((List.replicate 64 0).map Go.Proofs.YtinbegnojfpeiaaDoor.u8) 83 HK3.out (l.map u8) (by rw [List.length_map, HL.out]; exact (Nat.min_eq_left HB.out).symm) (fun hp => ⟨rfl, src_of HR3.out hp⟩) (by rw [List.length_map, List.length_map, HL.out, List.length_replicate]; have := HB.out; omega) (fun v hv => by obtain ⟨x, _, rfl⟩ := List.mem_map.1 hv; rfl) (w.heap.size + 1) w1 (Below.refl _ _) (Nat.le_refl _) ?_; intro w4 HC hb4; rw [List.length_map])
    have HKS := Lib.hid (show keyB l = l ++ List.replicate (64 - l.length) 0 by unfold keyB shortK; rw [if_neg (by rw [HL.out]; have := HB.out; omega)])
    rw [splice_bytes l 64 (by rw [HL.out]; exact HB.out), ← HKS.out] at HC
    obtain ⟨w5, hw5⟩ : ∃ w5, w5 = w4 := ⟨_, rfl⟩
    rw [← hw5] at HC hb4 ⊢
    clear hw5
    have HC5 := Lib.hid (show Bk w5 (w.heap.size + 1) 83 (bcells (keyB l)) from HC.out)
    have HA5 := Lib.hid (show Bk w5 w.heap.size 83 (bcells (List.replicate 64 0)) from HA3.out.below hb4 (Nat.lt_succ_self _))
    have HB5 := Lib.hid (HB3.out.trans (hb4.mono (Nat.le_succ _)))
    clear HC hb4
    have HE := Lib.hid (show (Tryd.prog.info? 83).map (·.size) = some (bcells (keyB l)).size by rw [bcells_size, keyB_len]; kernel_rfl)
    have HE2 := Lib.hid (show (bcells (List.replicate 64 0)).size = (bcells (keyB l)).size by rw [bcells_size, bcells_size, keyB_len, List.length_replicate])
    go_wp2_with (first
      | refine wpList_load_row rfl 83 (.tmp 3) rfl (w.heap.size + 1) rfl 83 _ (0, 0) _ HC5.out Tryd.underlying83 rfl HE.out ?_
      | refine wpList_store_row rfl 83 (.tmp 2) (.tmp 16) rfl w.heap.size _ rfl rfl 83 _ HA5.out HE.out HE2.out (bcells_one _) ?_)
    obtain ⟨w9, hw9⟩ : ∃ w9, w9 = w5.setRow w.heap.size (bcells (keyB l)) := ⟨_, rfl⟩
    have HB9 : Bk w9 w.heap.size 83 (bcells (keyB l)) := by rw [hw9]; exact HA5.out.setRow _
    have hbel9 : Below w.heap.size w w9 := by rw [hw9]; exact Below.setRow HB5.out _ (Nat.le_refl _) _
    rw [← hw9]
    refine bodyPost_ret (results_cell_row rfl _ _ w.heap.size 83 _ (0, 0) _ rfl HB9 Tryd.underlying83 rfl HE.out) rfl ?_
    exact ⟨rfl, hbel9⟩

set_option maxRecDepth 100000 in
set_option maxHeartbeats 2000000 in
theorem padded_ok (K : List UInt8) (x : UInt8) (A : Option Addr) (n c : Nat) (l : List UInt8) (w : World) (hK : K.length = 64) (hl : l.length = n) (hn : n ≤ 1099511627776) (hR : Rb w w.heap.size A l) (hnil : A = none → n = 0 ∧ c = 0) :
    Calls Tryd.prog 49 #[.agg (bcells K), .int .u8 (x.toNat : Int), .slice A n c] w fun e w' => ∃ A2 c2, e = .returned (.slice A2 (64 + n) c2) ∧ OB w' w.heap.size 5 A2 c2 (K.map (fun k => k ^^^ x) ++ l) ∧ Below w.heap.size w w' := by
  have HK := Lib.hid hK
  have HL := Lib.hid hl
  have HR := Lib.hid hR
  have HNIL := Lib.hid hnil
  have HE := Lib.hid (show (Tryd.prog.info? 83).map (·.size) = some (bcells K).size by rw [bcells_size, hK]; kernel_rfl)
  obtain ⟨m, hm⟩ : ∃ m, m = 64 + n := ⟨_, rfl⟩
  obtain ⟨y1, z1⟩ := iwrap (64 + (n : Int)) m (by omega) (by omega)
  have hmk := fun u : World => mk_empty (P := Tryd.prog) u 50 5 Tryd.underlying50 bytesInfo m (by omega)
  have HM := Lib.hid hm
  have HMB := Lib.hid (show m ≤ 140737488355328 by omega)
  clear hK hl hR hnil hm
  have hX : ∀ x y : UInt8, bits .xor .u8 (x.toNat : Int) (y.toNat : Int) = ((x ^^^ y).toNat : Int) := b_xor
  go_enter Tryd.func49, Tryd.ntmps49
  go_upto_region 2 with fail
  refine gen_world (fun u => Bk u w.heap.size 83 (bcells K) ∧ OB u w.heap.size 5 (some ⟨w.heap.size + 1, 0, none⟩) m [] ∧ Below w.heap.size w u) ?_ (fun w1 hw1 => ?_)
  · have h1 : Bk (w.alloc (.cells (bcells K) 83)) w.heap.size 83 (bcells K) := Bk.new _ _ _
    have h2 := OB.made (B := w.heap.size) (w.alloc (.cells (bcells K) 83)) 5 m (by simp) HMB.out
    rw [World.size_alloc] at h2
    exact ⟨h1.alloc _, h2, by go_grown⟩
  have HA1 := Lib.hid hw1.1
  have HO1 := Lib.hid hw1.2.1
  have HB1 := Lib.hid hw1.2.2
  clear hw1 hmk y1 z1
  go_wp2_with (refine wpList_load_row rfl 83 (.tmp 3) rfl w.heap.size rfl 83 _ (0, 0) _ HA1.out Tryd.underlying83 rfl HE.out ?_)
  go_loopw [15, 7] (fun v15 v7 wr => ∃ (i : Nat) (A2 : Option Addr) (c2 L : Nat), i ≤ 64 ∧ v15 = .int .i64 i ∧ v7 = .slice A2 L c2 ∧ Hid (((K.take i).map (fun k => k ^^^ x)).length = L) ∧ Hid (OB wr w.heap.size 5 A2 c2 ((K.take i).map (fun k => k ^^^ x))) ∧ Hid (Below w.heap.size w wr)) (fun v15 _ _ => 64 - (intOf v15).toNat)
  case atStart => exact ⟨0, _, _, 0, by omega, rfl, rfl, Lib.hid rfl, HO1, HB1⟩
  case round =>
    obtain ⟨i, A2, c2, L, hi, rfl, rfl, HT, HO, HB⟩ := hrel
    clear HA1 HO1 HB1
    by_cases hi1 : i < 64
    · have hi2 : (i : Int) < 64 := by omega
      have hik : i < K.length := by rw [HK.out]; exact hi1
      have HT2 := Lib.hid (show (K.take (i + 1)).map (fun k => k ^^^ x) = (K.take i).map (fun k => k ^^^ x) ++ [K[i] ^^^ x] by rw [List.take_add_one, List.getElem?_eq_getElem hik, List.map_append]; rfl)
      have HI := Lib.hid (fun u : World => run_idx (P := Tryd.prog) 83 5 64 (bcells K) i _ Tryd.underlying83 Tryd.isAgg5 Tryd.sizeOf5 hi1 (bcells_at K i hik) u)
      have HLB := Lib.hid (show ((K.take i).map (fun k => k ^^^ x)).length ≤ 64 by rw [List.length_map, List.length_take]; omega)
      obtain ⟨k, hk⟩ : ∃ k, k = K[i] := ⟨_, rfl⟩
      rw [← hk] at HT2 HI
      clear hk hik
      go_wp2_with (first
        | (refine wpList_index rfl 83 (.tmp 14) (.tmp 15) rfl _ _ (.int .u8 (k.toNat : Int)) rfl rfl (HI.out _) ?_)
        | (at_builtin; refine wp_app rfl (.tmp 18) (.tmp 22) 50 5 rfl Tryd.underlying50 bytesInfo w.heap.size _ _ _ _ rfl HT.out (HO.out.alloc _) [k ^^^ x] _ _ _ _ rfl rfl (Rb.one (w := wr) (c := k ^^^ x) rfl rfl) (by have := HLB.out; rw [List.length_singleton]; omega) (by have := HB.out.size; simp only [World.size_alloc]; omega) ?_; intro A3 c3 w4 ho3 hg3 hb3))
      go_roundw
      case rel =>
        refine ⟨i + 1, A3, c3, _, by omega, by go_num, rfl, Lib.hid (by rw [HT2.out]; simp), Lib.hid (by rw [HT2.out]; exact ho3), Lib.hid ((HB.out.alloc HB.out.size _).trans hb3)⟩
      case measure => simp [intOf]; omega
    · have hi3 : i = 64 := by omega
      have HI3 := Lib.hid (show K.take i = K by rw [List.take_of_length_le]; rw [HK.out]; omega)
      have hi2 : (64 : Int) ≤ (i : Int) := by omega
      rw [HI3.out] at HT HO
      have HKL := Lib.hid (show (K.map (fun k => k ^^^ x)).length = 64 by rw [List.length_map, HK.out])
      clear hi3
      go_wp2_with (at_builtin; refine wp_app_any rfl (.tmp 25) (.tmp 26) 50 5 rfl Tryd.underlying50 bytesInfo w.heap.size _ _ _ _ rfl HT.out HO.out l A n _ _ rfl HL.out HNIL.out ((HR.out.below HB.out (Nat.le_refl _)).more HB.out.size) (by have := HKL.out; have := HL.out; omega) HB.out.size ?_; intro A3 c3 w4 ho3 hg3 hb3)
      go_ret
      refine ⟨A3, c3, ?_, ho3, HB.out.trans hb3⟩
      show Ending.returned (Value.slice A3 (K.length + l.length) c3) = _
      rw [HK.out, HL.out]
end Go.Proofs.YtinbegnojfpeiaaDoor
