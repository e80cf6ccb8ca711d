/- The document's own: last: its contract. (Written by gen_cgz5.py.) -/
import Derived.Test.YtekobdmlgbffnaaGreatDoorG1
import Derived.Test.YtekobdmlgbffnaaGreatDoorCg6
import Derived.Test.YtekobdmlgbffnaaGreatDoorG4
namespace Go.Proofs.YtekobdmlgbffnaaGreatDoor
set_option linter.unusedVariables false
set_option maxRecDepth 100000
set_option linter.unusedSimpArgs false
open Go.RowKit

theorem gen_anyL {P : Program} {md : Region.Mode} {ops : Array Oper} {Q : Exit → Act → World → Prop} {S' : World → Prop} {z fuel : Nat} {listed : Array Bool} {a : Act} {w : World} (S : World → Prop) (hS : S w) (h : ∀ u, S u → wpAnyL P md ops Q S' z fuel listed a u) : wpAnyL P md ops Q S' z fuel listed a w := h w hS
theorem gen_qL {Q : Exit → Act → World → Prop} {e : Exit} {a : Act} {w : World} (S : World → Prop) (hS : S w) (h : ∀ u, S u → Q e a u) : Q e a w := h w hS
theorem Rw.take {β : Type} {k : Nat} {f : β → Array Value} {w : World} {A : Option Addr} {l : List β} (h : Rw k f w A l) (n : Nat) : Rw k f w A (l.take n) := by
  rcases h with h | ⟨b, o, e, hl, hc⟩
  · left; rw [h]; simp
  · refine .inr ⟨b, o, e, hl, fun i hi j hj => ?_⟩
    rw [List.getElem_take]
    exact hc i (by rw [List.length_take] at hi; omega) j hj

set_option maxRecDepth 100000 in
set_option maxHeartbeats 8000000 in
theorem rlast_ok (a0 a1 a2 a3 : Int) (b o : Nat) (ts : List Tv) (n c : Nat) (t : Tv) (w : World) (hr : Rw 5 tcs w (some ⟨b, o, none⟩) ts) (hn : ts.length = n + 1) (hn9 : n + 1 ≤ 1099511626) (hcap : n + 1 ≤ c) (hmax : c ≤ 9223372036854775807) :
    Calls Tryz.prog 77 #[.agg #[.int .i64 a0, .int .i64 a1, .int .i64 a2, .int .i64 a3, .slice (some ⟨b, o, none⟩) (n + 1) c], .agg (tcs t)] w fun e w' => ∃ A2 c2, e = .returned (.agg #[.int .i64 a0, .int .i64 a1, .int .i64 a2, .int .i64 a3, .slice A2 (n + 1) c2]) ∧ Ow 33 5 tcs w' w.heap.size A2 c2 (ts.take n ++ [t]) ∧ Below w.heap.size w w' := by
  obtain ⟨⟨tn, ta, tb, tnl, tkl⟩, TA, tc, TK, tk⟩ := t
  simp only [tcs]
  obtain ⟨us, hus⟩ : ∃ us, ts.take n = us := ⟨_, rfl⟩
  have HUN := Lib.hid (show us.length = n by rw [← hus, List.length_take, hn]; omega)
  have HUR := Lib.hid (show Rw 5 tcs w (some ⟨b, o, none⟩) us by rw [← hus]; exact hr.take n)
  rw [hus]
  have HCAP := Lib.hid hcap
  have HN9 := Lib.hid hn9
  have hq1 : (n : Int) ≤ (c : Int) := by omega
  have hq2 : n ≤ c := by omega
  have hq3 : n + 1 ≤ 9223372036854775807 := by omega
  have H0 := Lib.hid (show Bk (((w.alloc (.cells #[.int .i64 a0, .int .i64 a1, .int .i64 a2, .int .i64 a3, .slice (some ⟨b, o, none⟩) (n + 1) c] 24)).alloc (.cells #[.string tn, .int .i64 ta, .int .i64 tb, .slice TA tnl.length tc, .slice TK tkl.length tk] 33)).alloc (.cells #[.int .i64 0, .int .i64 0, .int .i64 0, .int .i64 0, .slice none 0 0] 24)) w.heap.size 24 #[.int .i64 a0, .int .i64 a1, .int .i64 a2, .int .i64 a3, .slice (some ⟨b, o, none⟩) (n + 1) c] from ((Bk.new w _ _).alloc _).alloc _)
  have H1 := Lib.hid (show Bk (((w.alloc (.cells #[.int .i64 a0, .int .i64 a1, .int .i64 a2, .int .i64 a3, .slice (some ⟨b, o, none⟩) (n + 1) c] 24)).alloc (.cells #[.string tn, .int .i64 ta, .int .i64 tb, .slice TA tnl.length tc, .slice TK tkl.length tk] 33)).alloc (.cells #[.int .i64 0, .int .i64 0, .int .i64 0, .int .i64 0, .slice none 0 0] 24)) (w.heap.size + 1) 33 #[.string tn, .int .i64 ta, .int .i64 tb, .slice TA tnl.length tc, .slice TK tkl.length tk] by have := (Bk.new (w.alloc (.cells #[.int .i64 a0, .int .i64 a1, .int .i64 a2, .int .i64 a3, .slice (some ⟨b, o, none⟩) (n + 1) c] 24)) 33 #[.string tn, .int .i64 ta, .int .i64 tb, .slice TA tnl.length tc, .slice TK tkl.length tk]).alloc (.cells #[.int .i64 0, .int .i64 0, .int .i64 0, .int .i64 0, .slice none 0 0] 24); rwa [World.size_alloc] at this)
  have H2 := Lib.hid (show Bk (((w.alloc (.cells #[.int .i64 a0, .int .i64 a1, .int .i64 a2, .int .i64 a3, .slice (some ⟨b, o, none⟩) (n + 1) c] 24)).alloc (.cells #[.string tn, .int .i64 ta, .int .i64 tb, .slice TA tnl.length tc, .slice TK tkl.length tk] 33)).alloc (.cells #[.int .i64 0, .int .i64 0, .int .i64 0, .int .i64 0, .slice none 0 0] 24)) (w.heap.size + 2) 24 #[.int .i64 0, .int .i64 0, .int .i64 0, .int .i64 0, .slice none 0 0] by have := Bk.new ((w.alloc (.cells #[.int .i64 a0, .int .i64 a1, .int .i64 a2, .int .i64 a3, .slice (some ⟨b, o, none⟩) (n + 1) c] 24)).alloc (.cells #[.string tn, .int .i64 ta, .int .i64 tb, .slice TA tnl.length tc, .slice TK tkl.length tk] 33)) 24 #[.int .i64 0, .int .i64 0, .int .i64 0, .int .i64 0, .slice none 0 0]; rwa [World.size_alloc, World.size_alloc] at this)
  have HL := Lib.hid (show Below w.heap.size w (((w.alloc (.cells #[.int .i64 a0, .int .i64 a1, .int .i64 a2, .int .i64 a3, .slice (some ⟨b, o, none⟩) (n + 1) c] 24)).alloc (.cells #[.string tn, .int .i64 ta, .int .i64 tb, .slice TA tnl.length tc, .slice TK tkl.length tk] 33)).alloc (.cells #[.int .i64 0, .int .i64 0, .int .i64 0, .int .i64 0, .slice none 0 0] 24)) from (((Below.refl w.heap.size w).alloc (Nat.le_refl _) _).alloc (by rw [World.size_alloc]; omega) _).alloc (by rw [World.size_alloc, World.size_alloc]; omega) _)
  have e4 : (((w.alloc (.cells #[.int .i64 a0, .int .i64 a1, .int .i64 a2, .int .i64 a3, .slice (some ⟨b, o, none⟩) (n + 1) c] 24)).alloc (.cells #[.string tn, .int .i64 ta, .int .i64 tb, .slice TA tnl.length tc, .slice TK tkl.length tk] 33)).alloc (.cells #[.int .i64 0, .int .i64 0, .int .i64 0, .int .i64 0, .slice none 0 0] 24)).cell? ⟨w.heap.size, 4, none⟩ = some (.slice (some ⟨b, o, none⟩) (n + 1) c) := H0.out.cell 4
  clear hus hr hn hn9 hcap
  go_enter Tryz.func77, Tryz.ntmps77
  go_upto_region 2 with fail
  obtain ⟨v3, hv3⟩ : ∃ v, ((w.alloc (.cells #[.int .i64 a0, .int .i64 a1, .int .i64 a2, .int .i64 a3, .slice (some ⟨b, o, none⟩) (n + 1) c] 24)).alloc (.cells #[.string tn, .int .i64 ta, .int .i64 tb, .slice TA tnl.length tc, .slice TK tkl.length tk] 33)).alloc (.cells #[.int .i64 0, .int .i64 0, .int .i64 0, .int .i64 0, .slice none 0 0] 24) = v := ⟨_, rfl⟩
  rw [hv3] at H0 H1 H2 HL ⊢
  clear hv3 e4
  have HSZ := Lib.hid HL.out.size
  try simp only [List.cons_append, List.nil_append]
  refine wp_region_L (S := fun u => Below v3.heap.size v3 u) 10 (by kernel_rfl) ((Below.refl _ _).drew) (fun hHeld => ?_)
  refine takeL (some 11) [2, 4, 5, 8, 10] (i := 1) (v := ?_) rfl rfl (by kernel_rfl) (by kernel_rfl) (by kernel_rfl) (by kernel_rfl) (fun _ _ _ h => h) (Or.inl ⟨by kernel_rfl, ?_⟩) hHeld ?_
  rotate_left
  · intro wz hSw; have q4 : wz.cell? ⟨w.heap.size, 4, none⟩ = some (.slice (some ⟨b, o, none⟩) (n + 1) c) := (H0.out.below hSw H0.out.lt).cell 4; have hT := H1.out.below hSw H1.out.lt; have z0 : wz.cell? ⟨w.heap.size + 1, 0, none⟩ = some (.string tn) := hT.cell 0; have z1 : wz.cell? ⟨w.heap.size + 1, 1, none⟩ = some (.int .i64 ta) := hT.cell 1; have z2 : wz.cell? ⟨w.heap.size + 1, 2, none⟩ = some (.int .i64 tb) := hT.cell 2; have z3 : wz.cell? ⟨w.heap.size + 1, 3, none⟩ = some (.slice TA tnl.length tc) := hT.cell 3; have z4 : wz.cell? ⟨w.heap.size + 1, 4, none⟩ = some (.slice TK tkl.length tk) := hT.cell 4; clear hT; go_simp; try (with_reducible rfl)
  try simp only [lay]
  refine takeL (some 12) [4, 5, 8, 10] (i := 2) (v := ?_) rfl rfl (by kernel_rfl) (by kernel_rfl) (by kernel_rfl) (by kernel_rfl) (fun _ _ _ h => h) (Or.inl ⟨by kernel_rfl, ?_⟩) hHeld ?_
  rotate_left
  · intro wz hSw; have q4 : wz.cell? ⟨w.heap.size, 4, none⟩ = some (.slice (some ⟨b, o, none⟩) (n + 1) c) := (H0.out.below hSw H0.out.lt).cell 4; have hT := H1.out.below hSw H1.out.lt; have z0 : wz.cell? ⟨w.heap.size + 1, 0, none⟩ = some (.string tn) := hT.cell 0; have z1 : wz.cell? ⟨w.heap.size + 1, 1, none⟩ = some (.int .i64 ta) := hT.cell 1; have z2 : wz.cell? ⟨w.heap.size + 1, 2, none⟩ = some (.int .i64 tb) := hT.cell 2; have z3 : wz.cell? ⟨w.heap.size + 1, 3, none⟩ = some (.slice TA tnl.length tc) := hT.cell 3; have z4 : wz.cell? ⟨w.heap.size + 1, 4, none⟩ = some (.slice TK tkl.length tk) := hT.cell 4; clear hT; go_simp; try (with_reducible rfl)
  try simp only [lay]
  refine takeL (some 13) [4, 5, 8, 10] (i := 3) (v := ?_) rfl rfl (by kernel_rfl) (by kernel_rfl) (by kernel_rfl) (by kernel_rfl) (fun _ _ _ h => h) (Or.inl ⟨by kernel_rfl, ?_⟩) hHeld ?_
  rotate_left
  · intro wz hSw; have q4 : wz.cell? ⟨w.heap.size, 4, none⟩ = some (.slice (some ⟨b, o, none⟩) (n + 1) c) := (H0.out.below hSw H0.out.lt).cell 4; have hT := H1.out.below hSw H1.out.lt; have z0 : wz.cell? ⟨w.heap.size + 1, 0, none⟩ = some (.string tn) := hT.cell 0; have z1 : wz.cell? ⟨w.heap.size + 1, 1, none⟩ = some (.int .i64 ta) := hT.cell 1; have z2 : wz.cell? ⟨w.heap.size + 1, 2, none⟩ = some (.int .i64 tb) := hT.cell 2; have z3 : wz.cell? ⟨w.heap.size + 1, 3, none⟩ = some (.slice TA tnl.length tc) := hT.cell 3; have z4 : wz.cell? ⟨w.heap.size + 1, 4, none⟩ = some (.slice TK tkl.length tk) := hT.cell 4; clear hT; go_simp; try (with_reducible rfl)
  try simp only [lay]
  refine takeL (some 14) [5, 8, 10] (i := 4) (v := ?_) rfl rfl (by kernel_rfl) (by kernel_rfl) (by kernel_rfl) (by kernel_rfl) (fun _ _ _ h => h) (Or.inl ⟨by kernel_rfl, ?_⟩) hHeld ?_
  rotate_left
  · intro wz hSw; have q4 : wz.cell? ⟨w.heap.size, 4, none⟩ = some (.slice (some ⟨b, o, none⟩) (n + 1) c) := (H0.out.below hSw H0.out.lt).cell 4; have hT := H1.out.below hSw H1.out.lt; have z0 : wz.cell? ⟨w.heap.size + 1, 0, none⟩ = some (.string tn) := hT.cell 0; have z1 : wz.cell? ⟨w.heap.size + 1, 1, none⟩ = some (.int .i64 ta) := hT.cell 1; have z2 : wz.cell? ⟨w.heap.size + 1, 2, none⟩ = some (.int .i64 tb) := hT.cell 2; have z3 : wz.cell? ⟨w.heap.size + 1, 3, none⟩ = some (.slice TA tnl.length tc) := hT.cell 3; have z4 : wz.cell? ⟨w.heap.size + 1, 4, none⟩ = some (.slice TK tkl.length tk) := hT.cell 4; clear hT; go_simp; try (with_reducible rfl)
  try simp only [lay]
  refine takeL (some 16) [7, 8, 10] (i := 6) (v := ?_) rfl rfl (by kernel_rfl) (by kernel_rfl) (by kernel_rfl) (by kernel_rfl) (fun _ _ _ h => h) (Or.inl ⟨by kernel_rfl, ?_⟩) hHeld ?_
  rotate_left
  · intro wz hSw; have q4 : wz.cell? ⟨w.heap.size, 4, none⟩ = some (.slice (some ⟨b, o, none⟩) (n + 1) c) := (H0.out.below hSw H0.out.lt).cell 4; have hT := H1.out.below hSw H1.out.lt; have z0 : wz.cell? ⟨w.heap.size + 1, 0, none⟩ = some (.string tn) := hT.cell 0; have z1 : wz.cell? ⟨w.heap.size + 1, 1, none⟩ = some (.int .i64 ta) := hT.cell 1; have z2 : wz.cell? ⟨w.heap.size + 1, 2, none⟩ = some (.int .i64 tb) := hT.cell 2; have z3 : wz.cell? ⟨w.heap.size + 1, 3, none⟩ = some (.slice TA tnl.length tc) := hT.cell 3; have z4 : wz.cell? ⟨w.heap.size + 1, 4, none⟩ = some (.slice TK tkl.length tk) := hT.cell 4; clear hT; go_simp; try (with_reducible rfl)
  try simp only [lay]
  refine wpAnyL_ready (rs := [0, 7]) (by kernel_rfl) (by simp) (AllReadyL.cons rfl (fun K hK => ?_) (AllReadyL.cons rfl (fun K hK => ?_) AllReadyL.nil))
  · rw [if_pos (by kernel_rfl)]
    go_simp
    refine hK.out _ _ ((Below.refl _ _).drew.alloc (Nat.le_refl _) _) (fun hHeld => ?_)
    try simp only [lay]
    refine gen_anyL (fun u => Below v3.heap.size v3 u ∧ Ow 33 5 tcs u v3.heap.size (some ⟨v3.heap.size, 0, none⟩) 0 ([] : List Tv)) ⟨hHeld, Ow.empty v3.drew v3.heap.size (Nat.le_refl _)⟩ (fun x1 hx1 => ?_)
    clear hHeld
    refine wpAnyL_ready (rs := [5, 7]) (by kernel_rfl) (by simp) (AllReadyL.cons rfl (fun K hK => ?_) (AllReadyL.cons rfl (fun K hK => ?_) AllReadyL.nil))
    · rw [if_pos (by kernel_rfl)]
      refine op_rows roT (.tmp 10) (.tmp 14) rfl 0 rfl rfl hx1.2 us _ n c rfl HUN.out (fun h => by cases h) (HUR.out.on (HL.out.trans (hx1.1.mono HSZ.out))) (by have := HN9.out; omega) hx1.1.size n (Nat.zero_add _) ?_
      intro A1 c1 x2 hox2 hgx2 hbx2
      rw [List.nil_append] at hox2
      refine hK.out _ _ (hx1.1.trans hbx2) (fun hHeld => ?_)
      try simp only [lay]
      refine wpAnyL_ready (rs := [7]) (by kernel_rfl) (by simp) (AllReadyL.cons rfl (fun K hK => ?_) AllReadyL.nil)
      rw [if_pos (by kernel_rfl)]
      go_simp
      refine hK.out _ _ ((hx1.1.trans hbx2).alloc ((hx1.1.trans hbx2).size) _) (fun hHeld => ?_)
      try simp only [lay]
      refine gen_anyL (fun u => Below v3.heap.size v3 u ∧ Bk u x2.heap.size 33 (tcs (⟨⟨tn, ta, tb, tnl, tkl⟩, TA, tc, TK, tk⟩ : Tv)) ∧ Ow 33 5 tcs u v3.heap.size A1 c1 us) ⟨hHeld, Bk.new x2 _ _, hox2.on ((Below.refl _ _).alloc (Nat.le_refl _) _)⟩ (fun x3 hx3 => ?_)
      clear hHeld
      refine wpAnyL_ready (rs := [8]) (by kernel_rfl) (by simp) (AllReadyL.cons rfl (fun K hK => ?_) AllReadyL.nil)
      rw [if_pos (by kernel_rfl)]
      refine op_rows roT (.tmp 15) (.tmp 17) rfl n rfl HUN.out hx3.2.2 [(⟨⟨tn, ta, tb, tnl, tkl⟩, TA, tc, TK, tk⟩ : Tv)] (some ⟨x2.heap.size, 0, none⟩) 1 1 rfl rfl (fun h => by cases h) (Rw.bk hx3.2.1) (by have := HN9.out; omega) hx3.1.size (n + 1) rfl ?_
      intro A2 c2 x4 ho4 hg4 hb4
      have hbl4 := hx3.1.trans hb4
      have hgd4 := H0.out.below hbl4 H0.out.lt
      have d4 : x4.cell? ⟨w.heap.size, 4, none⟩ = some (.slice (some ⟨b, o, none⟩) (n + 1) c) := hgd4.cell 4
      have f4 := hgd4.frozen 4
      refine hK.out _ _ hbl4 (fun hHeld => ?_)
      try simp only [lay]
      refine takeL (some 19) [10] (i := 9) (v := ?_) rfl rfl (by kernel_rfl) (by kernel_rfl) (by kernel_rfl) (by kernel_rfl) (fun _ _ _ h => h) (Or.inl ⟨by kernel_rfl, ?_⟩) hHeld ?_
      rotate_left
      · intro wz hSw; go_simp; try (with_reducible rfl)
      try simp only [lay]
      refine wpAnyL_ready (rs := [10]) (by kernel_rfl) (by simp) (AllReadyL.last rfl (fun K hK => ?_))
      rw [if_pos (by kernel_rfl)]
      go_simp
      refine hK.out _ _ ?_
      try simp only [lay]
      refine wpAnyL_done (by kernel_rfl) ?_ _
      refine gen_qL (fun u => Bk u w.heap.size 24 #[.int .i64 a0, .int .i64 a1, .int .i64 a2, .int .i64 a3, .slice A2 (n + 1) c2] ∧ Bk u (w.heap.size + 2) 24 #[.int .i64 0, .int .i64 0, .int .i64 0, .int .i64 0, .slice none 0 0] ∧ Ow 33 5 tcs u v3.heap.size A2 c2 (us ++ [(⟨⟨tn, ta, tb, tnl, tkl⟩, TA, tc, TK, tk⟩ : Tv)]) ∧ Below w.heap.size w u) ⟨?_, ?_, ?_, ?_⟩ (fun y5 hy5 => ?_)
      · have := hgd4.set 4 (.slice A2 (n + 1) c2)
        simpa only [List.setIfInBounds_toArray, List.set_cons_zero, List.set_cons_succ] using this
      · exact (H2.out.below hbl4 H2.out.lt).far (by show w.heap.size + 2 ≠ w.heap.size; omega) _
      · exact ho4.set (p := ⟨w.heap.size, 4, none⟩) H0.out.lt _
      · exact (HL.out.trans (hbl4.mono HSZ.out)).setCell (p := ⟨w.heap.size, 4, none⟩) (Nat.le_refl _) _
      clear hHeld hbl4 hgd4 ho4 hg4 hb4 d4 f4
      obtain ⟨yd, yz, yo, yl⟩ := hy5
      have y0 : y5.cell? ⟨w.heap.size, 0, none⟩ = some (.int .i64 a0) := yd.cell 0
      have y1 : y5.cell? ⟨w.heap.size, 1, none⟩ = some (.int .i64 a1) := yd.cell 1
      have y2 : y5.cell? ⟨w.heap.size, 2, none⟩ = some (.int .i64 a2) := yd.cell 2
      have y3 : y5.cell? ⟨w.heap.size, 3, none⟩ = some (.int .i64 a3) := yd.cell 3
      have y4 : y5.cell? ⟨w.heap.size, 4, none⟩ = some (.slice A2 (n + 1) c2) := yd.cell 4
      have g0 : y5.cell? ⟨w.heap.size + 2, 0, none⟩ = some (.int .i64 0) := yz.cell 0
      have gf0 := yz.frozen 0
      have g1 : y5.cell? ⟨w.heap.size + 2, 1, none⟩ = some (.int .i64 0) := yz.cell 1
      have gf1 := yz.frozen 1
      have g2 : y5.cell? ⟨w.heap.size + 2, 2, none⟩ = some (.int .i64 0) := yz.cell 2
      have gf2 := yz.frozen 2
      have g3 : y5.cell? ⟨w.heap.size + 2, 3, none⟩ = some (.int .i64 0) := yz.cell 3
      have gf3 := yz.frozen 3
      have g4 : y5.cell? ⟨w.heap.size + 2, 4, none⟩ = some (.slice none 0 0) := yz.cell 4
      have gf4 := yz.frozen 4
      have hlow := yl
      have hown := yo
      go_wp2
      have kU := (((((yz.set 0 (.int .i64 a0)).set 1 (.int .i64 a1)).set 2 (.int .i64 a2)).set 3 (.int .i64 a3)).set 4 (.slice A2 (n + 1) c2))
      simp only [List.setIfInBounds_toArray, List.set_cons_zero, List.set_cons_succ] at kU
      refine bodyPost_ret (v := .agg #[.int .i64 a0, .int .i64 a1, .int .i64 a2, .int .i64 a3, .slice A2 (n + 1) c2]) ?_ rfl ⟨A2, c2, rfl, ?_, ?_⟩
      · have p0 := kU.cell 0; have p1 := kU.cell 1; have p2 := kU.cell 2; have p3 := kU.cell 3; have p4 := kU.cell 4
        simp [results, Tryz.f77, go_sem, p0, p1, p2, p3, p4]
      · exact ((((((hown.set (p := ⟨w.heap.size + 2, 0, none⟩) H2.out.lt _).set (p := ⟨w.heap.size + 2, 1, none⟩) H2.out.lt _).set (p := ⟨w.heap.size + 2, 2, none⟩) H2.out.lt _).set (p := ⟨w.heap.size + 2, 3, none⟩) H2.out.lt _).set (p := ⟨w.heap.size + 2, 4, none⟩) H2.out.lt _)).base HSZ.out
      · exact (((((hlow.setCell (p := ⟨w.heap.size + 2, 0, none⟩) (by show w.heap.size ≤ w.heap.size + 2; omega) _).setCell (p := ⟨w.heap.size + 2, 1, none⟩) (by show w.heap.size ≤ w.heap.size + 2; omega) _).setCell (p := ⟨w.heap.size + 2, 2, none⟩) (by show w.heap.size ≤ w.heap.size + 2; omega) _).setCell (p := ⟨w.heap.size + 2, 3, none⟩) (by show w.heap.size ≤ w.heap.size + 2; omega) _).setCell (p := ⟨w.heap.size + 2, 4, none⟩) (by show w.heap.size ≤ w.heap.size + 2; omega) _)
    · rw [if_pos (by kernel_rfl)]
      go_simp
      refine hK.out _ _ (hx1.1.alloc (hx1.1.size) _) (fun hHeld => ?_)
      try simp only [lay]
      refine gen_anyL (fun u => Below v3.heap.size v3 u ∧ Bk u x1.heap.size 33 (tcs (⟨⟨tn, ta, tb, tnl, tkl⟩, TA, tc, TK, tk⟩ : Tv)) ∧ Ow 33 5 tcs u v3.heap.size (some ⟨v3.heap.size, 0, none⟩) 0 ([] : List Tv)) ⟨hHeld, Bk.new x1 _ _, hx1.2.on ((Below.refl _ _).alloc (Nat.le_refl _) _)⟩ (fun x2 hx2 => ?_)
      clear hHeld
      have hlt1 : v3.heap.size < x1.heap.size := (hx1.2.block 0 _ rfl).2.1
      refine wpAnyL_ready (rs := [5]) (by kernel_rfl) (by simp) (AllReadyL.cons rfl (fun K hK => ?_) AllReadyL.nil)
      rw [if_pos (by kernel_rfl)]
      refine op_rows roT (.tmp 10) (.tmp 14) rfl 0 rfl rfl hx2.2.2 us _ n c rfl HUN.out (fun h => by cases h) (HUR.out.on (HL.out.trans (hx2.1.mono HSZ.out))) (by have := HN9.out; omega) hx2.1.size n (Nat.zero_add _) ?_
      intro A1 c1 x3 hox3 hgx3 hbx3
      rw [List.nil_append] at hox3
      refine hK.out _ _ (hx2.1.trans hbx3) (fun hHeld => ?_)
      try simp only [lay]
      refine wpAnyL_ready (rs := [8]) (by kernel_rfl) (by simp) (AllReadyL.cons rfl (fun K hK => ?_) AllReadyL.nil)
      rw [if_pos (by kernel_rfl)]
      refine op_rows roT (.tmp 15) (.tmp 17) rfl n rfl HUN.out hox3 [(⟨⟨tn, ta, tb, tnl, tkl⟩, TA, tc, TK, tk⟩ : Tv)] (some ⟨x1.heap.size, 0, none⟩) 1 1 rfl rfl (fun h => by cases h) (Rw.bk ((hgx3.block x1.heap.size hx2.2.1.lt (fun e => by injection e with e; dsimp only at e; omega)).trans hx2.2.1)) (by have := HN9.out; omega) (hx2.1.trans hbx3).size (n + 1) rfl ?_
      intro A2 c2 x4 ho4 hg4 hb4
      have hbl4 := (hx2.1.trans hbx3).trans hb4
      have hgd4 := H0.out.below hbl4 H0.out.lt
      have d4 : x4.cell? ⟨w.heap.size, 4, none⟩ = some (.slice (some ⟨b, o, none⟩) (n + 1) c) := hgd4.cell 4
      have f4 := hgd4.frozen 4
      refine hK.out _ _ hbl4 (fun hHeld => ?_)
      try simp only [lay]
      refine takeL (some 19) [10] (i := 9) (v := ?_) rfl rfl (by kernel_rfl) (by kernel_rfl) (by kernel_rfl) (by kernel_rfl) (fun _ _ _ h => h) (Or.inl ⟨by kernel_rfl, ?_⟩) hHeld ?_
      rotate_left
      · intro wz hSw; go_simp; try (with_reducible rfl)
      try simp only [lay]
      refine wpAnyL_ready (rs := [10]) (by kernel_rfl) (by simp) (AllReadyL.last rfl (fun K hK => ?_))
      rw [if_pos (by kernel_rfl)]
      go_simp
      refine hK.out _ _ ?_
      try simp only [lay]
      refine wpAnyL_done (by kernel_rfl) ?_ _
      refine gen_qL (fun u => Bk u w.heap.size 24 #[.int .i64 a0, .int .i64 a1, .int .i64 a2, .int .i64 a3, .slice A2 (n + 1) c2] ∧ Bk u (w.heap.size + 2) 24 #[.int .i64 0, .int .i64 0, .int .i64 0, .int .i64 0, .slice none 0 0] ∧ Ow 33 5 tcs u v3.heap.size A2 c2 (us ++ [(⟨⟨tn, ta, tb, tnl, tkl⟩, TA, tc, TK, tk⟩ : Tv)]) ∧ Below w.heap.size w u) ⟨?_, ?_, ?_, ?_⟩ (fun y5 hy5 => ?_)
      · have := hgd4.set 4 (.slice A2 (n + 1) c2)
        simpa only [List.setIfInBounds_toArray, List.set_cons_zero, List.set_cons_succ] using this
      · exact (H2.out.below hbl4 H2.out.lt).far (by show w.heap.size + 2 ≠ w.heap.size; omega) _
      · exact ho4.set (p := ⟨w.heap.size, 4, none⟩) H0.out.lt _
      · exact (HL.out.trans (hbl4.mono HSZ.out)).setCell (p := ⟨w.heap.size, 4, none⟩) (Nat.le_refl _) _
      clear hHeld hbl4 hgd4 ho4 hg4 hb4 d4 f4
      obtain ⟨yd, yz, yo, yl⟩ := hy5
      have y0 : y5.cell? ⟨w.heap.size, 0, none⟩ = some (.int .i64 a0) := yd.cell 0
      have y1 : y5.cell? ⟨w.heap.size, 1, none⟩ = some (.int .i64 a1) := yd.cell 1
      have y2 : y5.cell? ⟨w.heap.size, 2, none⟩ = some (.int .i64 a2) := yd.cell 2
      have y3 : y5.cell? ⟨w.heap.size, 3, none⟩ = some (.int .i64 a3) := yd.cell 3
      have y4 : y5.cell? ⟨w.heap.size, 4, none⟩ = some (.slice A2 (n + 1) c2) := yd.cell 4
      have g0 : y5.cell? ⟨w.heap.size + 2, 0, none⟩ = some (.int .i64 0) := yz.cell 0
      have gf0 := yz.frozen 0
      have g1 : y5.cell? ⟨w.heap.size + 2, 1, none⟩ = some (.int .i64 0) := yz.cell 1
      have gf1 := yz.frozen 1
      have g2 : y5.cell? ⟨w.heap.size + 2, 2, none⟩ = some (.int .i64 0) := yz.cell 2
      have gf2 := yz.frozen 2
      have g3 : y5.cell? ⟨w.heap.size + 2, 3, none⟩ = some (.int .i64 0) := yz.cell 3
      have gf3 := yz.frozen 3
      have g4 : y5.cell? ⟨w.heap.size + 2, 4, none⟩ = some (.slice none 0 0) := yz.cell 4
      have gf4 := yz.frozen 4
      have hlow := yl
      have hown := yo
      go_wp2
      have kU := (((((yz.set 0 (.int .i64 a0)).set 1 (.int .i64 a1)).set 2 (.int .i64 a2)).set 3 (.int .i64 a3)).set 4 (.slice A2 (n + 1) c2))
      simp only [List.setIfInBounds_toArray, List.set_cons_zero, List.set_cons_succ] at kU
      refine bodyPost_ret (v := .agg #[.int .i64 a0, .int .i64 a1, .int .i64 a2, .int .i64 a3, .slice A2 (n + 1) c2]) ?_ rfl ⟨A2, c2, rfl, ?_, ?_⟩
      · have p0 := kU.cell 0; have p1 := kU.cell 1; have p2 := kU.cell 2; have p3 := kU.cell 3; have p4 := kU.cell 4
        simp [results, Tryz.f77, go_sem, p0, p1, p2, p3, p4]
      · exact ((((((hown.set (p := ⟨w.heap.size + 2, 0, none⟩) H2.out.lt _).set (p := ⟨w.heap.size + 2, 1, none⟩) H2.out.lt _).set (p := ⟨w.heap.size + 2, 2, none⟩) H2.out.lt _).set (p := ⟨w.heap.size + 2, 3, none⟩) H2.out.lt _).set (p := ⟨w.heap.size + 2, 4, none⟩) H2.out.lt _)).base HSZ.out
      · exact (((((hlow.setCell (p := ⟨w.heap.size + 2, 0, none⟩) (by show w.heap.size ≤ w.heap.size + 2; omega) _).setCell (p := ⟨w.heap.size + 2, 1, none⟩) (by show w.heap.size ≤ w.heap.size + 2; omega) _).setCell (p := ⟨w.heap.size + 2, 2, none⟩) (by show w.heap.size ≤ w.heap.size + 2; omega) _).setCell (p := ⟨w.heap.size + 2, 3, none⟩) (by show w.heap.size ≤ w.heap.size + 2; omega) _).setCell (p := ⟨w.heap.size + 2, 4, none⟩) (by show w.heap.size ≤ w.heap.size + 2; omega) _)
  · rw [if_pos (by kernel_rfl)]
    go_simp
    refine hK.out _ _ ((Below.refl _ _).drew.alloc (Nat.le_refl _) _) (fun hHeld => ?_)
    try simp only [lay]
    refine gen_anyL (fun u => Below v3.heap.size v3 u ∧ Bk u v3.heap.size 33 (tcs (⟨⟨tn, ta, tb, tnl, tkl⟩, TA, tc, TK, tk⟩ : Tv))) ⟨hHeld, Bk.new v3.drew _ _⟩ (fun x1 hx1 => ?_)
    clear hHeld
    refine wpAnyL_ready (rs := [0]) (by kernel_rfl) (by simp) (AllReadyL.cons rfl (fun K hK => ?_) AllReadyL.nil)
    rw [if_pos (by kernel_rfl)]
    go_simp
    refine hK.out _ _ (hx1.1.alloc (hx1.1.size) _) (fun hHeld => ?_)
    try simp only [lay]
    refine gen_anyL (fun u => Below v3.heap.size v3 u ∧ Ow 33 5 tcs u v3.heap.size (some ⟨x1.heap.size, 0, none⟩) 0 ([] : List Tv) ∧ Bk u v3.heap.size 33 (tcs (⟨⟨tn, ta, tb, tnl, tkl⟩, TA, tc, TK, tk⟩ : Tv))) ⟨hHeld, Ow.empty x1 v3.heap.size (hx1.1.size), hx1.2.alloc _⟩ (fun x2 hx2 => ?_)
    clear hHeld
    have hlt1 : v3.heap.size < x1.heap.size := hx1.2.lt
    refine wpAnyL_ready (rs := [5]) (by kernel_rfl) (by simp) (AllReadyL.cons rfl (fun K hK => ?_) AllReadyL.nil)
    rw [if_pos (by kernel_rfl)]
    refine op_rows roT (.tmp 10) (.tmp 14) rfl 0 rfl rfl hx2.2.1 us _ n c rfl HUN.out (fun h => by cases h) (HUR.out.on (HL.out.trans (hx2.1.mono HSZ.out))) (by have := HN9.out; omega) hx2.1.size n (Nat.zero_add _) ?_
    intro A1 c1 x3 hox3 hgx3 hbx3
    rw [List.nil_append] at hox3
    refine hK.out _ _ (hx2.1.trans hbx3) (fun hHeld => ?_)
    try simp only [lay]
    refine wpAnyL_ready (rs := [8]) (by kernel_rfl) (by simp) (AllReadyL.cons rfl (fun K hK => ?_) AllReadyL.nil)
    rw [if_pos (by kernel_rfl)]
    refine op_rows roT (.tmp 15) (.tmp 17) rfl n rfl HUN.out hox3 [(⟨⟨tn, ta, tb, tnl, tkl⟩, TA, tc, TK, tk⟩ : Tv)] (some ⟨v3.heap.size, 0, none⟩) 1 1 rfl rfl (fun h => by cases h) (Rw.bk ((hgx3.block v3.heap.size hx2.2.2.lt (fun e => by injection e with e; dsimp only at e; omega)).trans hx2.2.2)) (by have := HN9.out; omega) (hx2.1.trans hbx3).size (n + 1) rfl ?_
    intro A2 c2 x4 ho4 hg4 hb4
    have hbl4 := (hx2.1.trans hbx3).trans hb4
    have hgd4 := H0.out.below hbl4 H0.out.lt
    have d4 : x4.cell? ⟨w.heap.size, 4, none⟩ = some (.slice (some ⟨b, o, none⟩) (n + 1) c) := hgd4.cell 4
    have f4 := hgd4.frozen 4
    refine hK.out _ _ hbl4 (fun hHeld => ?_)
    try simp only [lay]
    refine takeL (some 19) [10] (i := 9) (v := ?_) rfl rfl (by kernel_rfl) (by kernel_rfl) (by kernel_rfl) (by kernel_rfl) (fun _ _ _ h => h) (Or.inl ⟨by kernel_rfl, ?_⟩) hHeld ?_
    rotate_left
    · intro wz hSw; go_simp; try (with_reducible rfl)
    try simp only [lay]
    refine wpAnyL_ready (rs := [10]) (by kernel_rfl) (by simp) (AllReadyL.last rfl (fun K hK => ?_))
    rw [if_pos (by kernel_rfl)]
    go_simp
    refine hK.out _ _ ?_
    try simp only [lay]
    refine wpAnyL_done (by kernel_rfl) ?_ _
    refine gen_qL (fun u => Bk u w.heap.size 24 #[.int .i64 a0, .int .i64 a1, .int .i64 a2, .int .i64 a3, .slice A2 (n + 1) c2] ∧ Bk u (w.heap.size + 2) 24 #[.int .i64 0, .int .i64 0, .int .i64 0, .int .i64 0, .slice none 0 0] ∧ Ow 33 5 tcs u v3.heap.size A2 c2 (us ++ [(⟨⟨tn, ta, tb, tnl, tkl⟩, TA, tc, TK, tk⟩ : Tv)]) ∧ Below w.heap.size w u) ⟨?_, ?_, ?_, ?_⟩ (fun y5 hy5 => ?_)
    · have := hgd4.set 4 (.slice A2 (n + 1) c2)
      simpa only [List.setIfInBounds_toArray, List.set_cons_zero, List.set_cons_succ] using this
    · exact (H2.out.below hbl4 H2.out.lt).far (by show w.heap.size + 2 ≠ w.heap.size; omega) _
    · exact ho4.set (p := ⟨w.heap.size, 4, none⟩) H0.out.lt _
    · exact (HL.out.trans (hbl4.mono HSZ.out)).setCell (p := ⟨w.heap.size, 4, none⟩) (Nat.le_refl _) _
    clear hHeld hbl4 hgd4 ho4 hg4 hb4 d4 f4
    obtain ⟨yd, yz, yo, yl⟩ := hy5
    have y0 : y5.cell? ⟨w.heap.size, 0, none⟩ = some (.int .i64 a0) := yd.cell 0
    have y1 : y5.cell? ⟨w.heap.size, 1, none⟩ = some (.int .i64 a1) := yd.cell 1
    have y2 : y5.cell? ⟨w.heap.size, 2, none⟩ = some (.int .i64 a2) := yd.cell 2
    have y3 : y5.cell? ⟨w.heap.size, 3, none⟩ = some (.int .i64 a3) := yd.cell 3
    have y4 : y5.cell? ⟨w.heap.size, 4, none⟩ = some (.slice A2 (n + 1) c2) := yd.cell 4
    have g0 : y5.cell? ⟨w.heap.size + 2, 0, none⟩ = some (.int .i64 0) := yz.cell 0
    have gf0 := yz.frozen 0
    have g1 : y5.cell? ⟨w.heap.size + 2, 1, none⟩ = some (.int .i64 0) := yz.cell 1
    have gf1 := yz.frozen 1
    have g2 : y5.cell? ⟨w.heap.size + 2, 2, none⟩ = some (.int .i64 0) := yz.cell 2
    have gf2 := yz.frozen 2
    have g3 : y5.cell? ⟨w.heap.size + 2, 3, none⟩ = some (.int .i64 0) := yz.cell 3
    have gf3 := yz.frozen 3
    have g4 : y5.cell? ⟨w.heap.size + 2, 4, none⟩ = some (.slice none 0 0) := yz.cell 4
    have gf4 := yz.frozen 4
    have hlow := yl
    have hown := yo
    go_wp2
    have kU := (((((yz.set 0 (.int .i64 a0)).set 1 (.int .i64 a1)).set 2 (.int .i64 a2)).set 3 (.int .i64 a3)).set 4 (.slice A2 (n + 1) c2))
    simp only [List.setIfInBounds_toArray, List.set_cons_zero, List.set_cons_succ] at kU
    refine bodyPost_ret (v := .agg #[.int .i64 a0, .int .i64 a1, .int .i64 a2, .int .i64 a3, .slice A2 (n + 1) c2]) ?_ rfl ⟨A2, c2, rfl, ?_, ?_⟩
    · have p0 := kU.cell 0; have p1 := kU.cell 1; have p2 := kU.cell 2; have p3 := kU.cell 3; have p4 := kU.cell 4
      simp [results, Tryz.f77, go_sem, p0, p1, p2, p3, p4]
    · exact ((((((hown.set (p := ⟨w.heap.size + 2, 0, none⟩) H2.out.lt _).set (p := ⟨w.heap.size + 2, 1, none⟩) H2.out.lt _).set (p := ⟨w.heap.size + 2, 2, none⟩) H2.out.lt _).set (p := ⟨w.heap.size + 2, 3, none⟩) H2.out.lt _).set (p := ⟨w.heap.size + 2, 4, none⟩) H2.out.lt _)).base HSZ.out
    · exact (((((hlow.setCell (p := ⟨w.heap.size + 2, 0, none⟩) (by show w.heap.size ≤ w.heap.size + 2; omega) _).setCell (p := ⟨w.heap.size + 2, 1, none⟩) (by show w.heap.size ≤ w.heap.size + 2; omega) _).setCell (p := ⟨w.heap.size + 2, 2, none⟩) (by show w.heap.size ≤ w.heap.size + 2; omega) _).setCell (p := ⟨w.heap.size + 2, 3, none⟩) (by show w.heap.size ≤ w.heap.size + 2; omega) _).setCell (p := ⟨w.heap.size + 2, 4, none⟩) (by show w.heap.size ≤ w.heap.size + 2; omega) _)
end Go.Proofs.YtekobdmlgbffnaaGreatDoor
