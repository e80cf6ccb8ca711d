/- wire.Put: its contract. -/
import Derived.Test.YtimhjmeebahdaaaDoorWire2
import Derived.Test.YtimhjmeebahdaaaDoorPutO
import Derived.Test.YtimhjmeebahdaaaDoorBytesAt
import Derived.Test.YtimhjmeebahdaaaDoorIdx
import Derived.Test.YtimhjmeebahdaaaDoorRText
namespace Go.Proofs.YtimhjmeebahdaaaDoor
set_option linter.unusedVariables false
set_option linter.unusedSimpArgs false
open Go.RowKit

/-- The parts' bytes, each in a block of its own among p and q. -/
structure Pcs (x : Mg) (p q : Nat) (P : Nat → Nat) (u : World) : Prop where
  rb : ∀ j, j < 4 → Rb u u.heap.size (some ⟨P j, 0, none⟩) (pieceW x j)
  at_ : ∀ j, j < 4 → p ≤ P j ∧ P j < q
  q : q ≤ u.heap.size
theorem Pcs.grown {x : Mg} {p q : Nat} {P : Nat → Nat} {u u' : World} {g : Nat} (h : Pcs x p q P u) (hg : u.grownBy u' (some g)) (hs : g < p ∨ q ≤ g) : Pcs x p q P u' :=
  ⟨fun j hj => by
    have h1 := h.at_ j hj
    have h2 := h.q
    exact ((h.rb j hj).grown hg (by omega) (by intro e; injection e with e; omega)).more hg.size, h.at_, Nat.le_trans h.q hg.size⟩
theorem MgAt.on2 {B : Nat} {w u u' : World} {x : Mg} (H : MgAt B w B x u) (hb : Below (B + 1) u u') : MgAt B w B x u' :=
  ⟨H.row.below hb (by omega), H.glob.below hb (by omega), H.b.trans (hb.mono (by omega))⟩

set_option maxRecDepth 100000 in
set_option maxHeartbeats 8000000 in
theorem wput_ok (x : Mg) (w : World) (hG : Gw w) (ha : x.a.size ≤ 140737488355328) (hb : x.b.size ≤ 140737488355328) :
    Calls Tryd.prog 15 #[.agg x.cells] w fun e w' => ∃ A c, e = .returned (.slice A (putW x).length c) ∧ OB w' w.heap.size 5 A c (putW x) ∧ Below w.heap.size w w' := by
  have H := Lib.hid (MgAt.new (B := w.heap.size) (w := w) (x := x) hG rfl)
  have HR := Lib.hid (fun u (h : Gw u) => right_ok x u h ha hb)
  cases hr : rightM x with
  | false =>
    rw [putW_none x hr]
    rw [hr] at HR
    clear hr
    obtain ⟨k, a, b, n, m⟩ := x
    have cs := H.out.c
    go_enter Tryd.func15, Tryd.ntmps15
    go_wp2_with fail
    refine (HR.out _ H.out.glob).mono ?_
    rintro e w2 ⟨rfl, hb2⟩
    have HB := Lib.hid (H.out.on hb2 (Nat.le_refl _)).b
    go_wp2
    go_ret
    exact ⟨none, 0, rfl, OB.nil _ _ _, HB.out⟩
  | true =>
    rw [put_right x hr]
    obtain ⟨hkn, _, ha6, hb6, hn6, hm6⟩ := right_parts x hr
    obtain ⟨hk1, hk2, hk3⟩ := known_lt x hkn
    rw [hr] at HR
    obtain ⟨k, a, b, n, m⟩ := x
    simp only at hkn ha6 hb6 hn6 hm6 hk1 hk2 hk3 ha hb
    obtain ⟨q, rfl⟩ : ∃ q : Nat, k = (q : Int) := ⟨k.toNat, hk3.symm⟩
    obtain ⟨n, rfl⟩ : ∃ n' : Nat, n = (n' : Int) := ⟨n.toNat, by omega⟩
    obtain ⟨m, rfl⟩ : ∃ m' : Nat, m = (m' : Int) := ⟨m.toNat, by omega⟩
    have hq : q < 15 := by have := hk2; omega
    have HT1 := Lib.hid (fun u => text_o a u (by omega))
    have HT2 := Lib.hid (fun u => text_o b u (by omega))
    have HT3 := Lib.hid (fun u => put_o n u (by omega))
    have HT4 := Lib.hid (fun u => put_o m u (by omega))
    have HK8 := Lib.hid (fun (u : Int) (hu : u = (q : Int)) (wx : World) (hx : w.heap.size + 1 ≤ wx.heap.size) => OB.one (w := wx) (B := w.heap.size + 1) (t := 5) (c := UInt8.ofNat q) (v := u) hx (by rw [hu, UInt8.toNat_ofNat', Nat.mod_eq_of_lt (by omega)]))
    have HLEN := Lib.hid (show ∀ j, j ≤ 4 → (bodyW ⟨q, a, b, n, m⟩ j).length ≤ 400 from body_len _ (by simpa using ha6) (by simpa using hb6) (by simp; omega) (by simp; omega))
    have HPL := Lib.hid (show ∀ j, (pieceW ⟨q, a, b, n, m⟩ j).length ≤ 65 from piece_len _ (by simpa using ha6) (by simpa using hb6) (by simp; omega) (by simp; omega))
    obtain ⟨BW, hBW⟩ : ∃ BW, bodyW ⟨q, a, b, n, m⟩ = BW := ⟨_, rfl⟩
    have HB0 := Lib.hid (show BW 0 = [] by rw [← hBW]; rfl)
    have HBS := Lib.hid (show ∀ j, BW (j + 1) = BW j ++ if hasK q j = true then pieceW ⟨q, a, b, n, m⟩ j else [] by intro j; rw [← hBW]; rfl)
    rw [hBW] at HLEN ⊢
    have hkq : ((q : Int).toNat) = q := rfl
    rw [hkq]
    clear hr hkn ha6 hb6 hn6 hm6 hk1 hk2 hk3 ha hb hBW hkq
    have cs := H.out.c
    go_enter Tryd.func15, Tryd.ntmps15
    go_wp2_with fail
    clear cs
    refine (HR.out _ H.out.glob).mono ?_
    rintro e w2 ⟨rfl, hb2⟩
    have H2 := Lib.hid (H.out.on hb2 (Nat.le_refl _))
    have hsz2 : w.heap.size + 1 ≤ w2.heap.size := by have := hb2.size; simp only [World.size_alloc] at this; omega
    clear hb2 H HR
    have cs := H2.out.c
    go_wp2_with fail
    clear cs
    have HO := Lib.hid (HK8.out (q : Int) rfl w2 hsz2)
    have H3 := Lib.hid (H2.out.on ((Below.refl w2.heap.size w2).alloc (Nat.le_refl _) (.cells #[.int .u8 (q : Int)] 5)) (Nat.le_refl _))
    have hsz3 : (w2.alloc (.cells #[.int .u8 (q : Int)] 5)).heap.size = w2.heap.size + 1 := by simp
    clear H2 HK8
    generalize w2.alloc (.cells #[.int .u8 (q : Int)] 5) = w3 at HO H3 hsz3 ⊢
    have HOD := Lib.hid HO.out.drew
    have HS := Lib.hid H3.out.draw
    try simp only [List.cons_append, List.nil_append]
    refine wp_region_held_drew (S := fun u => MgAt w.heap.size w w.heap.size ⟨q, a, b, n, m⟩ u) (by kernel_rfl) (HS.out) (fun hHeld => ?_)
    refine take_at (some 13) (i := 0) (v := ?_) rfl rfl (by kernel_rfl) (by kernel_rfl) (by kernel_rfl) (fun _ _ _ h => h) (Or.inl ⟨by kernel_rfl, ?_⟩) hHeld ?_
    rotate_left
    · intro wz hSw; obtain ⟨x0, x1, x2, x3, x4⟩ := hSw.c; go_simp; try (with_reducible rfl)
    try simp only [Act.put, List.setIfInBounds_toArray, List.set_cons_zero, List.set_cons_succ, List.getElem_toArray, List.getElem_cons_succ, List.getElem_cons_zero]
    refine take_at (some 14) (i := 1) (v := ?_) rfl rfl (by kernel_rfl) (by kernel_rfl) (by kernel_rfl) (fun _ _ _ h => h) (Or.inl ⟨by kernel_rfl, ?_⟩) hHeld ?_
    rotate_left
    · intro wz hSw; obtain ⟨x0, x1, x2, x3, x4⟩ := hSw.c; go_simp; try (with_reducible rfl)
    try simp only [Act.put, List.setIfInBounds_toArray, List.set_cons_zero, List.set_cons_succ, List.getElem_toArray, List.getElem_cons_succ, List.getElem_cons_zero]
    refine take_at (some 16) (i := 3) (v := ?_) rfl rfl (by kernel_rfl) (by kernel_rfl) (by kernel_rfl) (fun _ _ _ h => h) (Or.inl ⟨by kernel_rfl, ?_⟩) hHeld ?_
    rotate_left
    · intro wz hSw; obtain ⟨x0, x1, x2, x3, x4⟩ := hSw.c; go_simp; try (with_reducible rfl)
    try simp only [Act.put, List.setIfInBounds_toArray, List.set_cons_zero, List.set_cons_succ, List.getElem_toArray, List.getElem_cons_succ, List.getElem_cons_zero]
    refine take_at (some 17) (i := 4) (v := ?_) rfl rfl (by kernel_rfl) (by kernel_rfl) (by kernel_rfl) (fun _ _ _ h => h) (Or.inl ⟨by kernel_rfl, ?_⟩) hHeld ?_
    rotate_left
    · intro wz hSw; obtain ⟨x0, x1, x2, x3, x4⟩ := hSw.c; go_simp; try (with_reducible rfl)
    try simp only [Act.put, List.setIfInBounds_toArray, List.set_cons_zero, List.set_cons_succ, List.getElem_toArray, List.getElem_cons_succ, List.getElem_cons_zero]
    refine take_at (some 19) (i := 6) (v := ?_) rfl rfl (by kernel_rfl) (by kernel_rfl) (by kernel_rfl) (fun _ _ _ h => h) (Or.inl ⟨by kernel_rfl, ?_⟩) hHeld ?_
    rotate_left
    · intro wz hSw; obtain ⟨x0, x1, x2, x3, x4⟩ := hSw.c; go_simp; try (with_reducible rfl)
    try simp only [Act.put, List.setIfInBounds_toArray, List.set_cons_zero, List.set_cons_succ, List.getElem_toArray, List.getElem_cons_succ, List.getElem_cons_zero]
    refine take_at (some 20) (i := 7) (v := ?_) rfl rfl (by kernel_rfl) (by kernel_rfl) (by kernel_rfl) (fun _ _ _ h => h) (Or.inl ⟨by kernel_rfl, ?_⟩) hHeld ?_
    rotate_left
    · intro wz hSw; obtain ⟨x0, x1, x2, x3, x4⟩ := hSw.c; go_simp; try (with_reducible rfl)
    try simp only [Act.put, List.setIfInBounds_toArray, List.set_cons_zero, List.set_cons_succ, List.getElem_toArray, List.getElem_cons_succ, List.getElem_cons_zero]
    refine take_at (some 22) (i := 9) (v := ?_) rfl rfl (by kernel_rfl) (by kernel_rfl) (by kernel_rfl) (fun _ _ _ h => h) (Or.inl ⟨by kernel_rfl, ?_⟩) hHeld ?_
    rotate_left
    · intro wz hSw; obtain ⟨x0, x1, x2, x3, x4⟩ := hSw.c; go_simp; try (with_reducible rfl)
    try simp only [Act.put, List.setIfInBounds_toArray, List.set_cons_zero, List.set_cons_succ, List.getElem_toArray, List.getElem_cons_succ, List.getElem_cons_zero]
    refine take_at (some 23) (i := 10) (v := ?_) rfl rfl (by kernel_rfl) (by kernel_rfl) (by kernel_rfl) (fun _ _ _ h => h) (Or.inl ⟨by kernel_rfl, ?_⟩) hHeld ?_
    rotate_left
    · intro wz hSw; obtain ⟨x0, x1, x2, x3, x4⟩ := hSw.c; go_simp; try (with_reducible rfl)
    try simp only [Act.put, List.setIfInBounds_toArray, List.set_cons_zero, List.set_cons_succ, List.getElem_toArray, List.getElem_cons_succ, List.getElem_cons_zero]
    refine take_at (some 26) (i := 13) (v := ?_) rfl rfl (by kernel_rfl) (by kernel_rfl) (by kernel_rfl) (fun _ _ _ h => h) (Or.inl ⟨by kernel_rfl, ?_⟩) hHeld ?_
    rotate_left
    · intro wz hSw; go_simp; try (with_reducible rfl)
    try simp only [Act.put, List.setIfInBounds_toArray, List.set_cons_zero, List.set_cons_succ, List.getElem_toArray, List.getElem_cons_succ, List.getElem_cons_zero]
    refine wpAnyH_ready (rs := [2]) (by kernel_rfl) (by simp) (AllReadyH.cons rfl (fun K hK => ?_) AllReadyH.nil)
    rw [if_pos (by kernel_rfl)]
    go_simp
    refine (HT1.out _).mono ?_
    rintro e u0 ⟨g0, c0, rfl, ho0, hl0, hg0, hbu0⟩
    try dsimp only
    refine hK.out _ _ (hHeld.on hbu0 (Nat.le_refl _)) (fun hHeld => ?_)
    try simp only [Act.put, List.setIfInBounds_toArray, List.set_cons_zero, List.set_cons_succ, List.getElem_toArray, List.getElem_cons_succ, List.getElem_cons_zero]
    have HO0 := Lib.hid ho0.rb
    clear ho0
    refine wpAnyH_ready (rs := [5]) (by kernel_rfl) (by simp) (AllReadyH.cons rfl (fun K hK => ?_) AllReadyH.nil)
    rw [if_pos (by kernel_rfl)]
    go_simp
    refine (HT2.out _).mono ?_
    rintro e u1 ⟨g1, c1, rfl, ho1, hl1, hg1, hbu1⟩
    try dsimp only
    refine hK.out _ _ (hHeld.on hbu1 (Nat.le_refl _)) (fun hHeld => ?_)
    try simp only [Act.put, List.setIfInBounds_toArray, List.set_cons_zero, List.set_cons_succ, List.getElem_toArray, List.getElem_cons_succ, List.getElem_cons_zero]
    have HO1 := Lib.hid ho1.rb
    clear ho1
    refine wpAnyH_ready (rs := [8]) (by kernel_rfl) (by simp) (AllReadyH.cons rfl (fun K hK => ?_) AllReadyH.nil)
    rw [if_pos (by kernel_rfl)]
    go_simp
    refine (HT3.out _).mono ?_
    rintro e u2 ⟨g2, rfl, ho2, hl2, hg2, hbu2⟩
    try dsimp only
    refine hK.out _ _ (hHeld.on hbu2 (Nat.le_refl _)) (fun hHeld => ?_)
    try simp only [Act.put, List.setIfInBounds_toArray, List.set_cons_zero, List.set_cons_succ, List.getElem_toArray, List.getElem_cons_succ, List.getElem_cons_zero]
    have HO2 := Lib.hid ho2.rb
    clear ho2
    refine wpAnyH_ready (rs := [11]) (by kernel_rfl) (by simp) (AllReadyH.cons rfl (fun K hK => ?_) AllReadyH.nil)
    rw [if_pos (by kernel_rfl)]
    go_simp
    refine (HT4.out _).mono ?_
    rintro e u3 ⟨g3, rfl, ho3, hl3, hg3, hbu3⟩
    try dsimp only
    refine hK.out _ _ (hHeld.on hbu3 (Nat.le_refl _)) (fun hHeld => ?_)
    try simp only [Act.put, List.setIfInBounds_toArray, List.set_cons_zero, List.set_cons_succ, List.getElem_toArray, List.getElem_cons_succ, List.getElem_cons_zero]
    have HO3 := Lib.hid ho3.rb
    clear ho3
    refine take_at (some 25) (i := 12) (v := ?_) rfl rfl (by kernel_rfl) (by kernel_rfl) (by kernel_rfl) (fun _ _ _ h => h) (Or.inl ⟨by kernel_rfl, ?_⟩) hHeld ?_
    rotate_left
    · intro wz hSw; go_simp; try (with_reducible rfl)
    try simp only [Act.put, List.setIfInBounds_toArray, List.set_cons_zero, List.set_cons_succ, List.getElem_toArray, List.getElem_cons_succ, List.getElem_cons_zero]
    refine wpAnyH_done (by kernel_rfl) ?_ _
    have z3 : w3.drew.heap.size = w3.heap.size := rfl
    rw [z3] at hg0 hbu0
    have P0 : Pcs ⟨q, a, b, n, m⟩ w3.heap.size u3.heap.size (fun j => match j with | 0 => g0 | 1 => g1 | 2 => g2 | _ => g3) u3 := by
      have s0 := hbu0.size
      have s1 := hbu1.size
      have s2 := hbu2.size
      have s3 := hbu3.size
      rw [z3] at s0
      refine ⟨fun j hj => ?_, fun j hj => ?_, Nat.le_refl _⟩
      · match j, hj with
        | 0, _ => exact (((HO0.out.below hbu1 (Nat.le_refl _)).below hbu2 s1).below hbu3 (by omega)).more (by omega)
        | 1, _ => exact ((HO1.out.below hbu2 (Nat.le_refl _)).below hbu3 s2).more (by omega)
        | 2, _ => exact (HO2.out.below hbu3 (Nat.le_refl _)).more (by omega)
        | 3, _ => exact HO3.out
      · match j, hj with
        | 0, _ => show w3.heap.size ≤ g0 ∧ g0 < _; omega
        | 1, _ => show w3.heap.size ≤ g1 ∧ g1 < _; omega
        | 2, _ => show w3.heap.size ≤ g2 ∧ g2 < _; omega
        | 3, _ => show w3.heap.size ≤ g3 ∧ g3 < _; omega
    have hO5 : OB u3 (w.heap.size + 1) 5 (some ⟨w2.heap.size, 0, none⟩) 1 [UInt8.ofNat q] := by
      have s0 := hbu0.size
      have s1 := hbu1.size
      have s2 := hbu2.size
      rw [z3] at s0
      exact (((HOD.out.stay hbu0 (Nat.le_refl _)).stay hbu1 (Nat.le_refl _)).stay hbu2 (Nat.le_refl _)).stay hbu3 (Nat.le_refl _)
    have hS5 := Lib.hid hHeld
    have hP5 := Lib.hid P0
    have hO5' := Lib.hid hO5
    have hgo : w2.heap.size < w3.heap.size := by omega
    have hgb : w.heap.size + 1 ≤ w2.heap.size := hsz2
    clear hHeld P0 hO5 HO0 HO1 HO2 HO3 HS HOD H3 HO HT1 HT2 HT3 HT4 z3 hsz3 hsz2
    clear hl0 hl1 hl2 hl3 hg0 hg1 hg2 hg3 hbu0 hbu1 hbu2 hbu3
    clear hK
    have hR5 : w3.heap.size ≤ u3.heap.size := by have := hP5.out.q; have := hP5.out.at_ 0 (by omega); omega
    generalize hgo0 : w2.heap.size = go0 at hO5' hgo hgb ⊢
    generalize hp0 : w3.heap.size = p0 at hP5 hgo hR5 ⊢
    generalize hp4 : u3.heap.size = p4 at hP5 hR5 ⊢
    have HRR := Lib.hid hR5
    clear hgo0 hp0 hp4 hR5
    go_wp2_with fail
    go_loopw [3, 26] (fun v3 v26 wr => ∃ (j gO c L : Nat), j ≤ 4 ∧ v26 = .int .i64 j ∧ v3 = .slice (some ⟨gO, 0, none⟩) L c ∧ Hid (L = 1 + (BW j).length) ∧ Hid (OB wr (w.heap.size + 1) 5 (some ⟨gO, 0, none⟩) c (UInt8.ofNat q :: BW j)) ∧ Hid (gO < p0 ∨ p4 ≤ gO) ∧ Hid (Pcs ⟨q, a, b, n, m⟩ p0 p4 (fun j => match j with | 0 => g0 | 1 => g1 | 2 => g2 | _ => g3) wr) ∧ Hid (MgAt w.heap.size w w.heap.size ⟨q, a, b, n, m⟩ wr)) (fun _ v26 _ => 4 - (intOf v26).toNat)
    case atStart => exact ⟨0, go0, 1, 1, by omega, rfl, rfl, Lib.hid (by rw [HB0.out]; rfl), Lib.hid (by rw [HB0.out]; exact hO5'.out), Lib.hid (.inl hgo), hP5, hS5⟩
    case round =>
      obtain ⟨j, gO, c, L, hj, rfl, rfl, HL, HOO, HSEP, HPP, HMG⟩ := hrel
      clear hP5 hS5 hO5'
      have cs := HMG.out.c
      have hHas := Lib.hid (fun (jj : Nat) (hjj : jj < 4) => has_ok q jj wr HMG.out.glob hq hjj)
      obtain rfl | rfl | rfl | rfl | rfl : j = 0 ∨ j = 1 ∨ j = 2 ∨ j = 3 ∨ j = 4 := by omega
      · obtain ⟨z, hz⟩ : ∃ z, hasK q 0 = z := ⟨_, rfl⟩
        have hcall := Lib.hid (hHas.out 0 (by omega))
        rw [hz] at hcall
        have HN := Lib.hid (show BW 1 = BW 0 ++ if z = true then pieceW ⟨q, a, b, n, m⟩ 0 else [] by rw [← hz]; exact HBS.out 0)
        clear hz
        cases z with
        | true =>
          have HN2 := Lib.hid (show BW 1 = BW 0 ++ textB a from HN.out)
          have HLP := Lib.hid (show (textB a).length ≤ 65 from HPL.out 0)
          go_wp2_with (first
            | (refine wpList_index rfl 55 (.tmp 25) (.tmp 26) rfl _ _ (.slice (some ⟨g0, 0, none⟩) (textB a).length c0) rfl rfl (run_idx 55 24 4 _ 0 _ Tryd.underlying55 Tryd.isAgg24 Tryd.sizeOf24 (by omega) rfl _) ?_)
            | (refine hcall.out.mono ?_; rintro e w6 ⟨rfl, rfl⟩)
            | (at_builtin; refine wp_app_at rfl (.tmp 34) (.tmp 35) 24 5 rfl Tryd.underlying24 byInfo (w.heap.size + 1) (UInt8.ofNat q :: BW 0) gO _ _ rfl (by rw [HL.out, List.length_cons]; omega) HOO.out (by simp) (textB a) g0 _ _ _ rfl rfl (HPP.out.rb 0 (by omega)) (by have := HLEN.out 0 (by omega); have := HLP.out; rw [List.length_cons]; omega) (by have := HMG.out.row.lt; omega) ?_; intro gN cN w7 ho7 hgr7 hb7 hat7))
          go_roundw
          case rel => exact ⟨1, gN, cN, _, by omega, rfl, rfl, Lib.hid (by rw [HN2.out]; simp only [List.length_append, List.length_cons]; omega), Lib.hid (by rw [HN2.out]; exact ho7), Lib.hid (by have := HSEP.out; have := HPP.out.q; rcases hat7 with rfl | rfl <;> omega), Lib.hid (HPP.out.grown hgr7 (by have := HSEP.out; omega)), Lib.hid (HMG.out.on2 hb7)⟩
          case measure => simp [intOf]
        | false =>
          have HN2 := Lib.hid (show BW 1 = BW 0 by rw [HN.out]; simp)
          go_wp2_with (first
            | (refine wpList_index rfl 55 (.tmp 25) (.tmp 26) rfl _ _ (.slice (some ⟨g0, 0, none⟩) (textB a).length c0) rfl rfl (run_idx 55 24 4 _ 0 _ Tryd.underlying55 Tryd.isAgg24 Tryd.sizeOf24 (by omega) rfl _) ?_)
            | (refine hcall.out.mono ?_; rintro e w6 ⟨rfl, rfl⟩))
          go_roundw
          case rel => exact ⟨1, gO, c, _, by omega, rfl, rfl, Lib.hid (by rw [HN2.out]; exact HL.out), Lib.hid (by rw [HN2.out]; exact HOO.out), HSEP, HPP, HMG⟩
          case measure => simp [intOf]
      · obtain ⟨z, hz⟩ : ∃ z, hasK q 1 = z := ⟨_, rfl⟩
        have hcall := Lib.hid (hHas.out 1 (by omega))
        rw [hz] at hcall
        have HN := Lib.hid (show BW 2 = BW 1 ++ if z = true then pieceW ⟨q, a, b, n, m⟩ 1 else [] by rw [← hz]; exact HBS.out 1)
        clear hz
        cases z with
        | true =>
          have HN2 := Lib.hid (show BW 2 = BW 1 ++ textB b from HN.out)
          have HLP := Lib.hid (show (textB b).length ≤ 65 from HPL.out 1)
          go_wp2_with (first
            | (refine wpList_index rfl 55 (.tmp 25) (.tmp 26) rfl _ _ (.slice (some ⟨g1, 0, none⟩) (textB b).length c1) rfl rfl (run_idx 55 24 4 _ 1 _ Tryd.underlying55 Tryd.isAgg24 Tryd.sizeOf24 (by omega) rfl _) ?_)
            | (refine hcall.out.mono ?_; rintro e w6 ⟨rfl, rfl⟩)
            | (at_builtin; refine wp_app_at rfl (.tmp 34) (.tmp 35) 24 5 rfl Tryd.underlying24 byInfo (w.heap.size + 1) (UInt8.ofNat q :: BW 1) gO _ _ rfl (by rw [HL.out, List.length_cons]; omega) HOO.out (by simp) (textB b) g1 _ _ _ rfl rfl (HPP.out.rb 1 (by omega)) (by have := HLEN.out 1 (by omega); have := HLP.out; rw [List.length_cons]; omega) (by have := HMG.out.row.lt; omega) ?_; intro gN cN w7 ho7 hgr7 hb7 hat7))
          go_roundw
          case rel => exact ⟨2, gN, cN, _, by omega, rfl, rfl, Lib.hid (by rw [HN2.out]; simp only [List.length_append, List.length_cons]; omega), Lib.hid (by rw [HN2.out]; exact ho7), Lib.hid (by have := HSEP.out; have := HPP.out.q; rcases hat7 with rfl | rfl <;> omega), Lib.hid (HPP.out.grown hgr7 (by have := HSEP.out; omega)), Lib.hid (HMG.out.on2 hb7)⟩
          case measure => simp [intOf]
        | false =>
          have HN2 := Lib.hid (show BW 2 = BW 1 by rw [HN.out]; simp)
          go_wp2_with (first
            | (refine wpList_index rfl 55 (.tmp 25) (.tmp 26) rfl _ _ (.slice (some ⟨g1, 0, none⟩) (textB b).length c1) rfl rfl (run_idx 55 24 4 _ 1 _ Tryd.underlying55 Tryd.isAgg24 Tryd.sizeOf24 (by omega) rfl _) ?_)
            | (refine hcall.out.mono ?_; rintro e w6 ⟨rfl, rfl⟩))
          go_roundw
          case rel => exact ⟨2, gO, c, _, by omega, rfl, rfl, Lib.hid (by rw [HN2.out]; exact HL.out), Lib.hid (by rw [HN2.out]; exact HOO.out), HSEP, HPP, HMG⟩
          case measure => simp [intOf]
      · obtain ⟨z, hz⟩ : ∃ z, hasK q 2 = z := ⟨_, rfl⟩
        have hcall := Lib.hid (hHas.out 2 (by omega))
        rw [hz] at hcall
        have HN := Lib.hid (show BW 3 = BW 2 ++ if z = true then pieceW ⟨q, a, b, n, m⟩ 2 else [] by rw [← hz]; exact HBS.out 2)
        clear hz
        cases z with
        | true =>
          have HN2 := Lib.hid (show BW 3 = BW 2 ++ putB n from HN.out)
          have HLP := Lib.hid (show (putB n).length ≤ 65 from HPL.out 2)
          go_wp2_with (first
            | (refine wpList_index rfl 55 (.tmp 25) (.tmp 26) rfl _ _ (.slice (some ⟨g2, 0, none⟩) (putB n).length (putB n).length) rfl rfl (run_idx 55 24 4 _ 2 _ Tryd.underlying55 Tryd.isAgg24 Tryd.sizeOf24 (by omega) rfl _) ?_)
            | (refine hcall.out.mono ?_; rintro e w6 ⟨rfl, rfl⟩)
            | (at_builtin; refine wp_app_at rfl (.tmp 34) (.tmp 35) 24 5 rfl Tryd.underlying24 byInfo (w.heap.size + 1) (UInt8.ofNat q :: BW 2) gO _ _ rfl (by rw [HL.out, List.length_cons]; omega) HOO.out (by simp) (putB n) g2 _ _ _ rfl rfl (HPP.out.rb 2 (by omega)) (by have := HLEN.out 2 (by omega); have := HLP.out; rw [List.length_cons]; omega) (by have := HMG.out.row.lt; omega) ?_; intro gN cN w7 ho7 hgr7 hb7 hat7))
          go_roundw
          case rel => exact ⟨3, gN, cN, _, by omega, rfl, rfl, Lib.hid (by rw [HN2.out]; simp only [List.length_append, List.length_cons]; omega), Lib.hid (by rw [HN2.out]; exact ho7), Lib.hid (by have := HSEP.out; have := HPP.out.q; rcases hat7 with rfl | rfl <;> omega), Lib.hid (HPP.out.grown hgr7 (by have := HSEP.out; omega)), Lib.hid (HMG.out.on2 hb7)⟩
          case measure => simp [intOf]
        | false =>
          have HN2 := Lib.hid (show BW 3 = BW 2 by rw [HN.out]; simp)
          go_wp2_with (first
            | (refine wpList_index rfl 55 (.tmp 25) (.tmp 26) rfl _ _ (.slice (some ⟨g2, 0, none⟩) (putB n).length (putB n).length) rfl rfl (run_idx 55 24 4 _ 2 _ Tryd.underlying55 Tryd.isAgg24 Tryd.sizeOf24 (by omega) rfl _) ?_)
            | (refine hcall.out.mono ?_; rintro e w6 ⟨rfl, rfl⟩))
          go_roundw
          case rel => exact ⟨3, gO, c, _, by omega, rfl, rfl, Lib.hid (by rw [HN2.out]; exact HL.out), Lib.hid (by rw [HN2.out]; exact HOO.out), HSEP, HPP, HMG⟩
          case measure => simp [intOf]
      · obtain ⟨z, hz⟩ : ∃ z, hasK q 3 = z := ⟨_, rfl⟩
        have hcall := Lib.hid (hHas.out 3 (by omega))
        rw [hz] at hcall
        have HN := Lib.hid (show BW 4 = BW 3 ++ if z = true then pieceW ⟨q, a, b, n, m⟩ 3 else [] by rw [← hz]; exact HBS.out 3)
        clear hz
        cases z with
        | true =>
          have HN2 := Lib.hid (show BW 4 = BW 3 ++ putB m from HN.out)
          have HLP := Lib.hid (show (putB m).length ≤ 65 from HPL.out 3)
          go_wp2_with (first
            | (refine wpList_index rfl 55 (.tmp 25) (.tmp 26) rfl _ _ (.slice (some ⟨g3, 0, none⟩) (putB m).length (putB m).length) rfl rfl (run_idx 55 24 4 _ 3 _ Tryd.underlying55 Tryd.isAgg24 Tryd.sizeOf24 (by omega) rfl _) ?_)
            | (refine hcall.out.mono ?_; rintro e w6 ⟨rfl, rfl⟩)
            | (at_builtin; refine wp_app_at rfl (.tmp 34) (.tmp 35) 24 5 rfl Tryd.underlying24 byInfo (w.heap.size + 1) (UInt8.ofNat q :: BW 3) gO _ _ rfl (by rw [HL.out, List.length_cons]; omega) HOO.out (by simp) (putB m) g3 _ _ _ rfl rfl (HPP.out.rb 3 (by omega)) (by have := HLEN.out 3 (by omega); have := HLP.out; rw [List.length_cons]; omega) (by have := HMG.out.row.lt; omega) ?_; intro gN cN w7 ho7 hgr7 hb7 hat7))
          go_roundw
          case rel => exact ⟨4, gN, cN, _, by omega, rfl, rfl, Lib.hid (by rw [HN2.out]; simp only [List.length_append, List.length_cons]; omega), Lib.hid (by rw [HN2.out]; exact ho7), Lib.hid (by have := HSEP.out; have := HPP.out.q; rcases hat7 with rfl | rfl <;> omega), Lib.hid (HPP.out.grown hgr7 (by have := HSEP.out; omega)), Lib.hid (HMG.out.on2 hb7)⟩
          case measure => simp [intOf]
        | false =>
          have HN2 := Lib.hid (show BW 4 = BW 3 by rw [HN.out]; simp)
          go_wp2_with (first
            | (refine wpList_index rfl 55 (.tmp 25) (.tmp 26) rfl _ _ (.slice (some ⟨g3, 0, none⟩) (putB m).length (putB m).length) rfl rfl (run_idx 55 24 4 _ 3 _ Tryd.underlying55 Tryd.isAgg24 Tryd.sizeOf24 (by omega) rfl _) ?_)
            | (refine hcall.out.mono ?_; rintro e w6 ⟨rfl, rfl⟩))
          go_roundw
          case rel => exact ⟨4, gO, c, _, by omega, rfl, rfl, Lib.hid (by rw [HN2.out]; exact HL.out), Lib.hid (by rw [HN2.out]; exact HOO.out), HSEP, HPP, HMG⟩
          case measure => simp [intOf]
      · go_wp2
        go_ret
        exact ⟨_, _, by rw [show (BW 4).length + 1 = L by have := HL.out; omega]; rfl, HOO.out.low (by omega), HMG.out.b⟩
end Go.Proofs.YtimhjmeebahdaaaDoor
