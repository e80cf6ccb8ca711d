/- The steps of a hand-shake, hello and proof: their contracts. (Written by gen_sk2.py.) -/
import Derived.Test.YtekobdmlgbffnaaGreatDoorG18
import Derived.Test.YtekobdmlgbffnaaGreatDoorG8
import Derived.BigRegion
import Derived.Deep.Cut
import Derived.Deep.CutRange
import Derived.Deep.RegionHeld3
namespace Go.Proofs.YtekobdmlgbffnaaGreatDoor
set_option linter.unusedVariables false
set_option maxRecDepth 100000
set_option linter.unusedSimpArgs false
open Go.RowKit

theorem gen_qS {Q : Exit → Act → World → Prop} {e : Exit} {a : Act} {w : World} (S : World → Prop) (hS : S w) (h : ∀ u, S u → Q e a u) : Q e a w := h w hS
theorem cut_run (n : ByteArray) (m : Nat) (hm : min n.size 64 = m) (u : World) : (Instr.sliceAt 9 (.string n) none (some (.int .i64 (m : Int))) none).run Tryz.prog u = .ok (.string (cutN n)) u := by
  have h1 : (m : Int) ≤ (n.size : Int) := by omega
  unfold cutN
  rw [hm]
  go_simp

set_option maxRecDepth 100000 in
set_option maxHeartbeats 2000000 in
theorem hello_no (v : Nat) (xk xn xm now : Int) (xa xb nn : ByteArray) (w : World) (hk : ¬ xk = 1) :
    Calls Tryz.prog 61 #[.agg #[.pointer (some ⟨v, 0, none⟩)], .agg #[.int .i64 xk, .string xa, .string xb, .int .i64 xn, .int .i64 xm], .int .i64 now, .string nn] w fun e u' => e = .returned (.tuple #[.agg #[.int .i64 5, .string ⟨#[]⟩, .string ⟨#[]⟩, .int .i64 1, .int .i64 0], .agg #[.nilFunc, .string ⟨#[]⟩]]) ∧ Below w.heap.size w u' := by
  have hk2 : (xk != 1) = true := by rw [bne_iff_ne]; exact hk
  obtain ⟨w3, hw3⟩ : ∃ w3, (w.alloc (.cells #[.pointer (some ⟨v, 0, none⟩)] 111)).alloc (.cells #[.int .i64 xk, .string xa, .string xb, .int .i64 xn, .int .i64 xm] 55) = w3 := ⟨_, rfl⟩
  have HR := Lib.hid (show Bk w3 w.heap.size 111 #[.pointer (some ⟨v, 0, none⟩)] by rw [← hw3]; exact (Bk.new w _ _).alloc _)
  have HM := Lib.hid (show Bk w3 (w.heap.size + 1) 55 #[.int .i64 xk, .string xa, .string xb, .int .i64 xn, .int .i64 xm] by
    rw [← hw3]
    have := Bk.new (w.alloc (.cells #[.pointer (some ⟨v, 0, none⟩)] 111)) 55 #[.int .i64 xk, .string xa, .string xb, .int .i64 xn, .int .i64 xm]
    rwa [World.size_alloc] at this)
  have HL := Lib.hid (show Below w.heap.size w w3 by rw [← hw3]; exact ((Below.refl _ _).alloc (Nat.le_refl _) _).alloc (by rw [World.size_alloc]; omega) _)
  have hsz : w3.heap.size = w.heap.size + 1 + 1 := by rw [← hw3, World.size_alloc, World.size_alloc]
  obtain ⟨w5, hw5⟩ : ∃ w5, (w3.alloc (.cells mz 55)).alloc (.cells #[.nilFunc, .string ⟨#[]⟩] 114) = w5 := ⟨_, rfl⟩
  have HT := Lib.hid (show Two w.heap.size (w.heap.size + 1 + 1) w w5 mz #[.nilFunc, .string ⟨#[]⟩] by rw [← hw5, ← hsz]; exact Two.new w w3 _ HL.out HL.out.size _)
  have HB35 := Lib.hid (show Below w3.heap.size w3 w5 by rw [← hw5]; exact ((Below.refl _ _).alloc (Nat.le_refl _) _).alloc (by rw [World.size_alloc]; omega) _)
  have HR5 := Lib.hid (HR.out.below HB35.out HR.out.lt)
  have HM5 := Lib.hid (HM.out.below HB35.out HM.out.lt)
  go_enter Tryz.func61, Tryz.ntmps61
  go_upto_region 1 with fail
  try rw [hw3]
  try rw [hw5]
  clear hw3 hw5 HR HM HL HB35
  obtain ⟨g, hg⟩ : ∃ g, w.heap.size = g := ⟨_, rfl⟩
  have HG := Lib.hid hg
  simp only [hg] at HT HR5 HM5 ⊢
  clear hsz hg
  have m0 : w5.cell? ⟨g + 1, 0, none⟩ = some (.int .i64 xk) := HM5.out.cell 0
  have m1 : w5.cell? ⟨g + 1, 1, none⟩ = some (.string xa) := HM5.out.cell 1
  have m2 : w5.cell? ⟨g + 1, 2, none⟩ = some (.string xb) := HM5.out.cell 2
  have m3 : w5.cell? ⟨g + 1, 3, none⟩ = some (.int .i64 xn) := HM5.out.cell 3
  have m4 : w5.cell? ⟨g + 1, 4, none⟩ = some (.int .i64 xm) := HM5.out.cell 4
  go_wp2_with (go_at_call 101; (with_reducible refine (refused_ok 1 _).mono ?_); rintro e u6 ⟨rfl, hb⟩; have HT6 := Lib.hid (HT.out.on hb); clear hb; have z0 : u6.cell? ⟨(g + 1 + 1), 0, none⟩ = some (.int .i64 0) := HT6.out.m.cell 0; have z1 : u6.cell? ⟨(g + 1 + 1), 1, none⟩ = some (.string ⟨#[]⟩) := HT6.out.m.cell 1; have z2 : u6.cell? ⟨(g + 1 + 1), 2, none⟩ = some (.string ⟨#[]⟩) := HT6.out.m.cell 2; have z3 : u6.cell? ⟨(g + 1 + 1), 3, none⟩ = some (.int .i64 0) := HT6.out.m.cell 3; have z4 : u6.cell? ⟨(g + 1 + 1), 4, none⟩ = some (.int .i64 0) := HT6.out.m.cell 4; have y0 : u6.cell? ⟨(g + 1 + 1) + 1, 0, none⟩ = some (.nilFunc) := HT6.out.s.cell 0; have y1 : u6.cell? ⟨(g + 1 + 1) + 1, 1, none⟩ = some (.string ⟨#[]⟩) := HT6.out.s.cell 1; have f0 := HT6.out.m.frozen 0; have f1 := HT6.out.m.frozen 1; have f2 := HT6.out.m.frozen 2; have f3 := HT6.out.m.frozen 3; have f4 := HT6.out.m.frozen 4; have d0 := HT6.out.s.frozen 0; have d1 := HT6.out.s.frozen 1)
  clear m0 m1 m2 m3 m4 hk hk2
  have HU := HT6.out.set (.int .i64 5) (.string ⟨#[]⟩) (.string ⟨#[]⟩) (.int .i64 1) (.int .i64 0) (.nilFunc) (.string ⟨#[]⟩)
  refine bodyPost_ret (v := .tuple #[.agg #[.int .i64 5, .string ⟨#[]⟩, .string ⟨#[]⟩, .int .i64 1, .int .i64 0], .agg #[.nilFunc, .string ⟨#[]⟩]]) ?_ rfl ⟨rfl, by first | exact HU.l | (rw [HG.out]; exact HU.l)⟩
  have p0 := HU.m.cell 0; have p1 := HU.m.cell 1; have p2 := HU.m.cell 2; have p3 := HU.m.cell 3; have p4 := HU.m.cell 4
  have q0 := HU.s.cell 0; have q1 := HU.s.cell 1
  simp [results, Tryz.f61, go_sem, p0, p1, p2, p3, p4, q0, q1]

set_option maxRecDepth 100000 in
set_option maxHeartbeats 4000000 in
theorem hello_yes (v : Nat) (xn xm now : Int) (xa xb nn : ByteArray) (w : World) (ha : xa.size ≤ 140737488355328) (hb : xb.size ≤ 140737488355328) :
    Calls Tryz.prog 61 #[.agg #[.pointer (some ⟨v, 0, none⟩)], .agg #[.int .i64 1, .string xa, .string xb, .int .i64 xn, .int .i64 xm], .int .i64 now, .string nn] w fun e u' => e = .returned (.tuple #[.agg #[.int .i64 2, .string (cutN nn), .string ⟨#[]⟩, .int .i64 0, .int .i64 0], .agg #[.func (.func 103) #[.agg #[.pointer (some ⟨v, 0, none⟩), .string xa, .string xb, .string (cutN nn)]] #[], .string ⟨#[]⟩]]) ∧ Below w.heap.size w u' := by
  have hmf : ∀ (fn : Fn) (first cap : Array Value) (w : World), (Instr.makeFunc fn first cap).run Tryz.prog w = .ok (.func fn first cap) w := fun _ _ _ _ => rfl
  obtain ⟨m, hm⟩ : ∃ m : Nat, min nn.size 64 = m := ⟨_, rfl⟩
  have HMIN := Lib.hid (show min (nn.size : Int) (64 : Int) = (m : Int) by omega)
  have HSL := Lib.hid (cut_run nn m hm)
  have HCS := Lib.hid (cutN_small nn)
  obtain ⟨cn, hcn⟩ : ∃ cn, cutN nn = cn := ⟨_, rfl⟩
  rw [hcn] at HSL HCS ⊢
  have HZA := Lib.hid ha
  have HZB := Lib.hid hb
  clear hm hcn ha hb
  obtain ⟨w3, hw3⟩ : ∃ w3, (w.alloc (.cells #[.pointer (some ⟨v, 0, none⟩)] 111)).alloc (.cells #[.int .i64 1, .string xa, .string xb, .int .i64 xn, .int .i64 xm] 55) = w3 := ⟨_, rfl⟩
  have HR := Lib.hid (show Bk w3 w.heap.size 111 #[.pointer (some ⟨v, 0, none⟩)] by rw [← hw3]; exact (Bk.new w _ _).alloc _)
  have HM := Lib.hid (show Bk w3 (w.heap.size + 1) 55 #[.int .i64 1, .string xa, .string xb, .int .i64 xn, .int .i64 xm] by
    rw [← hw3]
    have := Bk.new (w.alloc (.cells #[.pointer (some ⟨v, 0, none⟩)] 111)) 55 #[.int .i64 1, .string xa, .string xb, .int .i64 xn, .int .i64 xm]
    rwa [World.size_alloc] at this)
  have HL := Lib.hid (show Below w.heap.size w w3 by rw [← hw3]; exact ((Below.refl _ _).alloc (Nat.le_refl _) _).alloc (by rw [World.size_alloc]; omega) _)
  have hsz : w3.heap.size = w.heap.size + 1 + 1 := by rw [← hw3, World.size_alloc, World.size_alloc]
  obtain ⟨w5, hw5⟩ : ∃ w5, (w3.alloc (.cells mz 55)).alloc (.cells #[.nilFunc, .string ⟨#[]⟩] 114) = w5 := ⟨_, rfl⟩
  have HT := Lib.hid (show Two w.heap.size (w.heap.size + 1 + 1) w w5 mz #[.nilFunc, .string ⟨#[]⟩] by rw [← hw5, ← hsz]; exact Two.new w w3 _ HL.out HL.out.size _)
  have HB35 := Lib.hid (show Below w3.heap.size w3 w5 by rw [← hw5]; exact ((Below.refl _ _).alloc (Nat.le_refl _) _).alloc (by rw [World.size_alloc]; omega) _)
  have HR5 := Lib.hid (HR.out.below HB35.out HR.out.lt)
  have HM5 := Lib.hid (HM.out.below HB35.out HM.out.lt)
  go_enter Tryz.func61, Tryz.ntmps61
  go_upto_region 1 with fail
  try rw [hw3]
  try rw [hw5]
  clear hw3 hw5 HR HM HL HB35
  obtain ⟨g, hg⟩ : ∃ g, w.heap.size = g := ⟨_, rfl⟩
  have HG := Lib.hid hg
  simp only [hg] at HT HR5 HM5 ⊢
  clear hsz hg
  have m0 : w5.cell? ⟨g + 1, 0, none⟩ = some (.int .i64 1) := HM5.out.cell 0
  have m1 : w5.cell? ⟨g + 1, 1, none⟩ = some (.string xa) := HM5.out.cell 1
  have m2 : w5.cell? ⟨g + 1, 2, none⟩ = some (.string xb) := HM5.out.cell 2
  have m3 : w5.cell? ⟨g + 1, 3, none⟩ = some (.int .i64 xn) := HM5.out.cell 3
  have m4 : w5.cell? ⟨g + 1, 4, none⟩ = some (.int .i64 xm) := HM5.out.cell 4
  go_upto_region 3 with fail
  clear m0 m1 m2 m3 m4
  try simp only [List.cons_append, List.nil_append]
  try simp only [List.cons_append, List.nil_append]
  refine wp_region_held_drew (S := fun wz => Below w5.heap.size w5 wz) (by kernel_rfl) ((Below.refl _ _).drew) (fun hHeld => ?_)
  obtain ⟨wd, hwd⟩ : ∃ wd, w5.drew = wd := ⟨_, rfl⟩
  have HSB := Lib.hid (show Below w5.heap.size w5 wd by rw [← hwd]; exact (Below.refl _ _).drew)
  rw [hwd] at hHeld ⊢
  clear hwd
  refine take_at (some 17) (i := 0) (v := ?_) rfl rfl (by kernel_rfl) (by kernel_rfl) (by kernel_rfl) (fun _ _ _ h => h) (Or.inl ⟨by kernel_rfl, ?_⟩) hHeld ?_
  rotate_left
  · intro wz hSw; have hR := HR5.out.below hSw HR5.out.lt; have hM := HM5.out.below hSw HM5.out.lt; have m0 : wz.cell? ⟨g, 0, none⟩ = some (.pointer (some ⟨v, 0, none⟩)) := hR.cell 0; have m1 : wz.cell? ⟨g + 1, 1, none⟩ = some (.string xa) := hM.cell 1; have m2 : wz.cell? ⟨g + 1, 2, none⟩ = some (.string xb) := hM.cell 2; clear hR hM; go_simp; try (with_reducible rfl)
  try simp only [Act.put, List.setIfInBounds_toArray, List.set_cons_zero, List.set_cons_succ, List.getElem_toArray, List.getElem_cons_succ, List.getElem_cons_zero]
  refine take_at (some 18) (i := 1) (v := ?_) rfl rfl (by kernel_rfl) (by kernel_rfl) (by kernel_rfl) (fun _ _ _ h => h) (Or.inl ⟨by kernel_rfl, ?_⟩) hHeld ?_
  rotate_left
  · intro wz hSw; have hR := HR5.out.below hSw HR5.out.lt; have hM := HM5.out.below hSw HM5.out.lt; have m0 : wz.cell? ⟨g, 0, none⟩ = some (.pointer (some ⟨v, 0, none⟩)) := hR.cell 0; have m1 : wz.cell? ⟨g + 1, 1, none⟩ = some (.string xa) := hM.cell 1; have m2 : wz.cell? ⟨g + 1, 2, none⟩ = some (.string xb) := hM.cell 2; clear hR hM; go_simp; try (with_reducible rfl)
  try simp only [Act.put, List.setIfInBounds_toArray, List.set_cons_zero, List.set_cons_succ, List.getElem_toArray, List.getElem_cons_succ, List.getElem_cons_zero]
  refine take_at (some 19) (i := 2) (v := ?_) rfl rfl (by kernel_rfl) (by kernel_rfl) (by kernel_rfl) (fun _ _ _ h => h) (Or.inl ⟨by kernel_rfl, ?_⟩) hHeld ?_
  rotate_left
  · intro wz hSw; have hR := HR5.out.below hSw HR5.out.lt; have hM := HM5.out.below hSw HM5.out.lt; have m0 : wz.cell? ⟨g, 0, none⟩ = some (.pointer (some ⟨v, 0, none⟩)) := hR.cell 0; have m1 : wz.cell? ⟨g + 1, 1, none⟩ = some (.string xa) := hM.cell 1; have m2 : wz.cell? ⟨g + 1, 2, none⟩ = some (.string xb) := hM.cell 2; clear hR hM; go_simp; try (with_reducible rfl)
  try simp only [Act.put, List.setIfInBounds_toArray, List.set_cons_zero, List.set_cons_succ, List.getElem_toArray, List.getElem_cons_succ, List.getElem_cons_zero]
  refine take_at (some 20) (i := 3) (v := ?_) rfl rfl (by kernel_rfl) (by kernel_rfl) (by kernel_rfl) (fun _ _ _ h => h) (Or.inl ⟨by kernel_rfl, ?_⟩) hHeld ?_
  rotate_left
  · intro wz hSw; have hR := HR5.out.below hSw HR5.out.lt; have hM := HM5.out.below hSw HM5.out.lt; have m0 : wz.cell? ⟨g, 0, none⟩ = some (.pointer (some ⟨v, 0, none⟩)) := hR.cell 0; have m1 : wz.cell? ⟨g + 1, 1, none⟩ = some (.string xa) := hM.cell 1; have m2 : wz.cell? ⟨g + 1, 2, none⟩ = some (.string xb) := hM.cell 2; clear hR hM; go_simp; try (with_reducible rfl)
  try simp only [Act.put, List.setIfInBounds_toArray, List.set_cons_zero, List.set_cons_succ, List.getElem_toArray, List.getElem_cons_succ, List.getElem_cons_zero]
  refine take_at (some 22) (i := 5) (v := ?_) rfl rfl (by kernel_rfl) (by kernel_rfl) (by kernel_rfl) (fun _ _ _ h => h) (Or.inl ⟨by kernel_rfl, ?_⟩) hHeld ?_
  rotate_left
  · intro wz hSw; have hR := HR5.out.below hSw HR5.out.lt; have hM := HM5.out.below hSw HM5.out.lt; have m0 : wz.cell? ⟨g, 0, none⟩ = some (.pointer (some ⟨v, 0, none⟩)) := hR.cell 0; have m1 : wz.cell? ⟨g + 1, 1, none⟩ = some (.string xa) := hM.cell 1; have m2 : wz.cell? ⟨g + 1, 2, none⟩ = some (.string xb) := hM.cell 2; clear hR hM; go_simp; try (with_reducible rfl)
  try simp only [Act.put, List.setIfInBounds_toArray, List.set_cons_zero, List.set_cons_succ, List.getElem_toArray, List.getElem_cons_succ, List.getElem_cons_zero]
  refine take_at (some 23) (i := 6) (v := ?_) rfl rfl (by kernel_rfl) (by kernel_rfl) (by kernel_rfl) (fun _ _ _ h => h) (Or.inl ⟨by kernel_rfl, ?_⟩) hHeld ?_
  rotate_left
  · intro wz hSw; have hR := HR5.out.below hSw HR5.out.lt; have hM := HM5.out.below hSw HM5.out.lt; have m0 : wz.cell? ⟨g, 0, none⟩ = some (.pointer (some ⟨v, 0, none⟩)) := hR.cell 0; have m1 : wz.cell? ⟨g + 1, 1, none⟩ = some (.string xa) := hM.cell 1; have m2 : wz.cell? ⟨g + 1, 2, none⟩ = some (.string xb) := hM.cell 2; clear hR hM; go_simp; try (with_reducible rfl)
  try simp only [Act.put, List.setIfInBounds_toArray, List.set_cons_zero, List.set_cons_succ, List.getElem_toArray, List.getElem_cons_succ, List.getElem_cons_zero]
  refine take_at (some 25) (i := 8) (v := ?_) rfl rfl (by kernel_rfl) (by kernel_rfl) (by kernel_rfl) (fun _ _ _ h => h) (Or.inl ⟨by kernel_rfl, ?_⟩) hHeld ?_
  rotate_left
  · intro wz hSw; go_simp; try (with_reducible rfl)
  try simp only [Act.put, List.setIfInBounds_toArray, List.set_cons_zero, List.set_cons_succ, List.getElem_toArray, List.getElem_cons_succ, List.getElem_cons_zero]
  refine take_at (some 26) (i := 9) (v := ?_) rfl rfl (by kernel_rfl) (by kernel_rfl) (by kernel_rfl) (fun _ _ _ h => h) (Or.inl ⟨by kernel_rfl, ?_⟩) hHeld ?_
  rotate_left
  · intro wz hSw; go_simp; try (with_reducible rfl)
  try simp only [Act.put, List.setIfInBounds_toArray, List.set_cons_zero, List.set_cons_succ, List.getElem_toArray, List.getElem_cons_succ, List.getElem_cons_zero]
  refine take_at (some 27) (i := 10) (v := ?_) rfl rfl (by kernel_rfl) (by kernel_rfl) (by kernel_rfl) (fun _ _ _ h => h) (Or.inl ⟨by kernel_rfl, ?_⟩) hHeld ?_
  rotate_left
  · intro wz hSw; have hR := HR5.out.below hSw HR5.out.lt; have hM := HM5.out.below hSw HM5.out.lt; have m0 : wz.cell? ⟨g, 0, none⟩ = some (.pointer (some ⟨v, 0, none⟩)) := hR.cell 0; have m1 : wz.cell? ⟨g + 1, 1, none⟩ = some (.string xa) := hM.cell 1; have m2 : wz.cell? ⟨g + 1, 2, none⟩ = some (.string xb) := hM.cell 2; clear hR hM; go_simp; try (with_reducible rfl)
  try simp only [Act.put, List.setIfInBounds_toArray, List.set_cons_zero, List.set_cons_succ, List.getElem_toArray, List.getElem_cons_succ, List.getElem_cons_zero]
  refine take_at (some 28) (i := 11) rfl rfl (by kernel_rfl) (by kernel_rfl) (by kernel_rfl) (fun _ _ _ h => h) (yieldsIf_min (by kernel_rfl) (.tmp 27) (.const (.int .i64 64)) 3 rfl _ _ _ rfl rfl HMIN.out) hHeld ?_
  try simp only [Act.put, List.setIfInBounds_toArray, List.set_cons_zero, List.set_cons_succ, List.getElem_toArray, List.getElem_cons_succ, List.getElem_cons_zero]
  refine take_at (some 29) (i := 12) rfl rfl (by kernel_rfl) (by kernel_rfl) (by kernel_rfl) (fun _ _ _ h => h) (yieldsIf_slice (by kernel_rfl) 9 (.tmp 25) none (some (.tmp 28)) rfl _ (fun wz => HSL.out wz)) hHeld ?_
  try simp only [Act.put, List.setIfInBounds_toArray, List.set_cons_zero, List.set_cons_succ, List.getElem_toArray, List.getElem_cons_succ, List.getElem_cons_zero]
  refine wpAnyH_ready (rs := [4, 15]) (by kernel_rfl) (by simp) (AllReadyH.cons rfl (fun K hK => ?_) (AllReadyH.cons rfl (fun K hK => ?_) AllReadyH.nil))
  · rw [if_pos (by kernel_rfl)]
    go_simp
    refine (sclone_ok xa _ HZA.out).mono ?_
    rintro e x0 ⟨rfl, hb0⟩
    try dsimp only
    have HSB := Lib.hid (HSB.out.trans (hb0.mono HSB.out.size))
    clear hb0
    refine hK.out _ _ HSB.out (fun hHeld => ?_)
    try simp only [Act.put, List.setIfInBounds_toArray, List.set_cons_zero, List.set_cons_succ, List.getElem_toArray, List.getElem_cons_succ, List.getElem_cons_zero]
    refine wpAnyH_ready (rs := [7, 15]) (by kernel_rfl) (by simp) (AllReadyH.cons rfl (fun K hK => ?_) (AllReadyH.cons rfl (fun K hK => ?_) AllReadyH.nil))
    · rw [if_pos (by kernel_rfl)]
      go_simp
      refine (sclone_ok xb _ HZB.out).mono ?_
      rintro e x1 ⟨rfl, hb1⟩
      try dsimp only
      have HSB := Lib.hid (HSB.out.trans (hb1.mono HSB.out.size))
      clear hb1
      refine hK.out _ _ HSB.out (fun hHeld => ?_)
      try simp only [Act.put, List.setIfInBounds_toArray, List.set_cons_zero, List.set_cons_succ, List.getElem_toArray, List.getElem_cons_succ, List.getElem_cons_zero]
      refine wpAnyH_ready (rs := [13, 15]) (by kernel_rfl) (by simp) (AllReadyH.cons rfl (fun K hK => ?_) (AllReadyH.cons rfl (fun K hK => ?_) AllReadyH.nil))
      · rw [if_pos (by kernel_rfl)]
        go_simp
        refine (sclone_ok cn _ (by have := HCS.out; omega)).mono ?_
        rintro e x2 ⟨rfl, hb2⟩
        try dsimp only
        have HSB := Lib.hid (HSB.out.trans (hb2.mono HSB.out.size))
        clear hb2
        refine hK.out _ _ HSB.out (fun hHeld => ?_)
        try simp only [Act.put, List.setIfInBounds_toArray, List.set_cons_zero, List.set_cons_succ, List.getElem_toArray, List.getElem_cons_succ, List.getElem_cons_zero]
        refine take_at (some 31) (i := 14) (v := ?_) rfl rfl (by kernel_rfl) (by kernel_rfl) (by kernel_rfl) (fun _ _ _ h => h) (Or.inl ⟨by kernel_rfl, ?_⟩) hHeld ?_
        rotate_left
        · intro wz hSw; go_simp; try (with_reducible rfl)
        try simp only [Act.put, List.setIfInBounds_toArray, List.set_cons_zero, List.set_cons_succ, List.getElem_toArray, List.getElem_cons_succ, List.getElem_cons_zero]
        refine wpAnyH_ready (rs := [15]) (by kernel_rfl) (by simp) (AllReadyH.cons rfl (fun K hK => ?_) AllReadyH.nil)
        rw [if_pos (by kernel_rfl)]
        go_simp
        refine hK.out _ _ (HSB.out.alloc HSB.out.size _) (fun hHeld => ?_)
        try simp only [Act.put, List.setIfInBounds_toArray, List.set_cons_zero, List.set_cons_succ, List.getElem_toArray, List.getElem_cons_succ, List.getElem_cons_zero]
        have HC := Lib.hid (Bk.new x2 166 #[.pointer none, .string ⟨#[]⟩, .string ⟨#[]⟩, .string ⟨#[]⟩])
        have HGL := Lib.hid (show w5.heap.size ≤ x2.heap.size from HSB.out.size)
        have HSB := Lib.hid (HSB.out.alloc HSB.out.size (.cells #[.pointer none, .string ⟨#[]⟩, .string ⟨#[]⟩, .string ⟨#[]⟩] 166))
        obtain ⟨G, hG⟩ : ∃ G, x2.heap.size = G := ⟨_, rfl⟩
        obtain ⟨a3, ha3⟩ : ∃ a, x2.alloc (.cells #[.pointer none, .string ⟨#[]⟩, .string ⟨#[]⟩, .string ⟨#[]⟩] 166) = a := ⟨_, rfl⟩
        try rw [ha3]
        rw [ha3] at HC HSB hHeld
        try rw [hG]
        rw [hG] at HC HGL
        clear hG ha3
        have c0 := HC.out.cell 0; have c1 := HC.out.cell 1; have c2 := HC.out.cell 2; have c3 := HC.out.cell 3; have i0 := HC.out.frozen 0; have i1 := HC.out.frozen 1; have i2 := HC.out.frozen 2; have i3 := HC.out.frozen 3
        simp only [List.getElem?_toArray, List.getElem?_cons_zero, List.getElem?_cons_succ] at c0 c1 c2 c3
        refine wpAnyH_ready (rs := [16]) (by kernel_rfl) (by simp) (AllReadyH.cons rfl (fun K hK => ?_) AllReadyH.nil)
        rw [if_pos (by kernel_rfl)]
        go_simp
        clear c0 c1 c2 c3 i0 i1 i2 i3
        refine hK.out _ _ ((((HSB.out.setCell HGL.out _).setCell HGL.out _).setCell HGL.out _).setCell HGL.out _) (fun hHeld => ?_)
        try simp only [Act.put, List.setIfInBounds_toArray, List.set_cons_zero, List.set_cons_succ, List.getElem_toArray, List.getElem_cons_succ, List.getElem_cons_zero]
        refine wpAnyH_done (by kernel_rfl) ?_ _
        have kU := (((HC.out.set 0 (.pointer (some ⟨v, 0, none⟩))).set 1 (.string xa)).set 2 (.string xb)).set 3 (.string cn)
        simp only [List.setIfInBounds_toArray, List.set_cons_zero, List.set_cons_succ] at kU
        refine gen_qS (fun y => Bk y G 166 #[.pointer (some ⟨v, 0, none⟩), .string xa, .string xb, .string cn] ∧ Below w5.heap.size w5 y) ⟨kU, hHeld⟩ (fun y hy => ?_)
        have HY := Lib.hid hy.1
        have HYB := Lib.hid hy.2
        clear hy kU hHeld HC HSB
        have HT6 := Lib.hid (HT.out.on HYB.out)
        have HGN := Lib.hid (show g + 1 + 1 + 1 < G from by have h1 := HT.out.s.lt; have h2 := HGL.out; omega)
        go_upto_region 4 with fail
        try simp only [List.cons_append, List.nil_append]
        try simp only [List.cons_append, List.nil_append]
        refine wp_region_held_drew (S := fun wz => Bk wz G 166 #[.pointer (some ⟨v, 0, none⟩), .string xa, .string xb, .string cn]) (by kernel_rfl) (HY.out.drew) (fun hHeld => ?_)
        obtain ⟨yd, hyd⟩ : ∃ yd, y.drew = yd := ⟨_, rfl⟩
        have HT7 := Lib.hid (HT6.out.on (Below.refl _ _).drew)
        have HX7 := Lib.hid hHeld
        rw [hyd] at HT7 HX7 hHeld ⊢
        clear hyd
        refine take_at (some 32) (i := 0) (v := ?_) rfl rfl (by kernel_rfl) (by kernel_rfl) (by kernel_rfl) (fun _ _ _ h => h) (Or.inl ⟨by kernel_rfl, ?_⟩) hHeld ?_
        rotate_left
        · intro wz hSw; have c0 : wz.cell? ⟨G, 0, none⟩ = some (.pointer (some ⟨v, 0, none⟩)) := hSw.cell 0; have c1 : wz.cell? ⟨G, 1, none⟩ = some (.string xa) := hSw.cell 1; have c2 : wz.cell? ⟨G, 2, none⟩ = some (.string xb) := hSw.cell 2; have c3 : wz.cell? ⟨G, 3, none⟩ = some (.string cn) := hSw.cell 3; go_simp; try (with_reducible rfl)
        try simp only [Act.put, List.setIfInBounds_toArray, List.set_cons_zero, List.set_cons_succ, List.getElem_toArray, List.getElem_cons_succ, List.getElem_cons_zero]
        refine take_at (some 33) (i := 1) (v := ?_) rfl rfl (by kernel_rfl) (by kernel_rfl) (by kernel_rfl) (fun _ _ _ h => h) (Or.inl ⟨by kernel_rfl, ?_⟩) hHeld ?_
        rotate_left
        · intro wz hSw; have c0 : wz.cell? ⟨G, 0, none⟩ = some (.pointer (some ⟨v, 0, none⟩)) := hSw.cell 0; have c1 : wz.cell? ⟨G, 1, none⟩ = some (.string xa) := hSw.cell 1; have c2 : wz.cell? ⟨G, 2, none⟩ = some (.string xb) := hSw.cell 2; have c3 : wz.cell? ⟨G, 3, none⟩ = some (.string cn) := hSw.cell 3; go_simp; try (with_reducible rfl)
        try simp only [Act.put, List.setIfInBounds_toArray, List.set_cons_zero, List.set_cons_succ, List.getElem_toArray, List.getElem_cons_succ, List.getElem_cons_zero]
        refine take_at (some 34) (i := 2) (v := ?_) rfl rfl (by kernel_rfl) (by kernel_rfl) (by kernel_rfl) (fun _ _ _ h => h) (Or.inl ⟨by kernel_rfl, ?_⟩) hHeld ?_
        rotate_left
        · intro wz hSw; have c0 : wz.cell? ⟨G, 0, none⟩ = some (.pointer (some ⟨v, 0, none⟩)) := hSw.cell 0; have c1 : wz.cell? ⟨G, 1, none⟩ = some (.string xa) := hSw.cell 1; have c2 : wz.cell? ⟨G, 2, none⟩ = some (.string xb) := hSw.cell 2; have c3 : wz.cell? ⟨G, 3, none⟩ = some (.string cn) := hSw.cell 3; go_simp; try (with_reducible rfl)
        try simp only [Act.put, List.setIfInBounds_toArray, List.set_cons_zero, List.set_cons_succ, List.getElem_toArray, List.getElem_cons_succ, List.getElem_cons_zero]
        refine take_at (some 35) (i := 3) (v := ?_) rfl rfl (by kernel_rfl) (by kernel_rfl) (by kernel_rfl) (fun _ _ _ h => h) (Or.inl ⟨by kernel_rfl, ?_⟩) hHeld ?_
        rotate_left
        · intro wz hSw; have c0 : wz.cell? ⟨G, 0, none⟩ = some (.pointer (some ⟨v, 0, none⟩)) := hSw.cell 0; have c1 : wz.cell? ⟨G, 1, none⟩ = some (.string xa) := hSw.cell 1; have c2 : wz.cell? ⟨G, 2, none⟩ = some (.string xb) := hSw.cell 2; have c3 : wz.cell? ⟨G, 3, none⟩ = some (.string cn) := hSw.cell 3; go_simp; try (with_reducible rfl)
        try simp only [Act.put, List.setIfInBounds_toArray, List.set_cons_zero, List.set_cons_succ, List.getElem_toArray, List.getElem_cons_succ, List.getElem_cons_zero]
        refine take_at (some 36) (i := 4) (v := ?_) rfl rfl (by kernel_rfl) (by kernel_rfl) (by kernel_rfl) (fun _ _ _ h => h) (Or.inl ⟨by kernel_rfl, ?_⟩) hHeld ?_
        rotate_left
        · intro wz hSw; have c0 : wz.cell? ⟨G, 0, none⟩ = some (.pointer (some ⟨v, 0, none⟩)) := hSw.cell 0; have c1 : wz.cell? ⟨G, 1, none⟩ = some (.string xa) := hSw.cell 1; have c2 : wz.cell? ⟨G, 2, none⟩ = some (.string xb) := hSw.cell 2; have c3 : wz.cell? ⟨G, 3, none⟩ = some (.string cn) := hSw.cell 3; go_simp; try (with_reducible rfl)
        try simp only [Act.put, List.setIfInBounds_toArray, List.set_cons_zero, List.set_cons_succ, List.getElem_toArray, List.getElem_cons_succ, List.getElem_cons_zero]
        refine take_at (some 37) (i := 5) (v := ?_) rfl rfl (by kernel_rfl) (by kernel_rfl) (by kernel_rfl) (fun _ _ _ h => h) (Or.inl ⟨by kernel_rfl, ?_⟩) hHeld ?_
        rotate_left
        · intro wz hSw; have c0 : wz.cell? ⟨G, 0, none⟩ = some (.pointer (some ⟨v, 0, none⟩)) := hSw.cell 0; have c1 : wz.cell? ⟨G, 1, none⟩ = some (.string xa) := hSw.cell 1; have c2 : wz.cell? ⟨G, 2, none⟩ = some (.string xb) := hSw.cell 2; have c3 : wz.cell? ⟨G, 3, none⟩ = some (.string cn) := hSw.cell 3; go_simp; try (with_reducible rfl)
        try simp only [Act.put, List.setIfInBounds_toArray, List.set_cons_zero, List.set_cons_succ, List.getElem_toArray, List.getElem_cons_succ, List.getElem_cons_zero]
        have z0 : yd.cell? ⟨(g + 1 + 1), 0, none⟩ = some (.int .i64 0) := HT7.out.m.cell 0
        have z1 : yd.cell? ⟨(g + 1 + 1), 1, none⟩ = some (.string ⟨#[]⟩) := HT7.out.m.cell 1
        have z2 : yd.cell? ⟨(g + 1 + 1), 2, none⟩ = some (.string ⟨#[]⟩) := HT7.out.m.cell 2
        have z3 : yd.cell? ⟨(g + 1 + 1), 3, none⟩ = some (.int .i64 0) := HT7.out.m.cell 3
        have z4 : yd.cell? ⟨(g + 1 + 1), 4, none⟩ = some (.int .i64 0) := HT7.out.m.cell 4
        have y0 : yd.cell? ⟨(g + 1 + 1) + 1, 0, none⟩ = some (.nilFunc) := HT7.out.s.cell 0
        have y1 : yd.cell? ⟨(g + 1 + 1) + 1, 1, none⟩ = some (.string ⟨#[]⟩) := HT7.out.s.cell 1
        have f0 := HT7.out.m.frozen 0
        have f1 := HT7.out.m.frozen 1
        have f2 := HT7.out.m.frozen 2
        have f3 := HT7.out.m.frozen 3
        have f4 := HT7.out.m.frozen 4
        have d0 := HT7.out.s.frozen 0
        have d1 := HT7.out.s.frozen 1
        refine wpAnyH_ready (rs := [6]) (by kernel_rfl) (by simp) (AllReadyH.cons rfl (fun K hK => ?_) AllReadyH.nil)
        rw [if_pos (by kernel_rfl)]
        go_simp
        clear z0 z1 z2 z3 z4 y0 y1 f0 f1 f2 f3 f4 d0 d1
        have HT8 := Lib.hid (show Two g (g + 1 + 1) w (((((yd.setCell ⟨(g + 1 + 1), 0, none⟩ (.int .i64 2)).setCell ⟨(g + 1 + 1), 1, none⟩ (.string cn)).setCell ⟨(g + 1 + 1), 2, none⟩ (.string ⟨#[]⟩)).setCell ⟨(g + 1 + 1), 3, none⟩ (.int .i64 0)).setCell ⟨(g + 1 + 1), 4, none⟩ (.int .i64 0)) #[.int .i64 2, .string cn, .string ⟨#[]⟩, .int .i64 0, .int .i64 0] #[.nilFunc, .string ⟨#[]⟩] from HT7.out.setM _ _ _ _ _)
        have HX8 := Lib.hid (show Bk (((((yd.setCell ⟨(g + 1 + 1), 0, none⟩ (.int .i64 2)).setCell ⟨(g + 1 + 1), 1, none⟩ (.string cn)).setCell ⟨(g + 1 + 1), 2, none⟩ (.string ⟨#[]⟩)).setCell ⟨(g + 1 + 1), 3, none⟩ (.int .i64 0)).setCell ⟨(g + 1 + 1), 4, none⟩ (.int .i64 0)) G 166 #[.pointer (some ⟨v, 0, none⟩), .string xa, .string xb, .string cn] from HX7.out.far5 (by have h1 := HGN.out; omega) _ _ _ _ _)
        refine hK.out _ _ HX8.out (fun hHeld => ?_)
        try simp only [Act.put, List.setIfInBounds_toArray, List.set_cons_zero, List.set_cons_succ, List.getElem_toArray, List.getElem_cons_succ, List.getElem_cons_zero]
        obtain ⟨ye, hye⟩ : ∃ ye, (((((yd.setCell ⟨(g + 1 + 1), 0, none⟩ (.int .i64 2)).setCell ⟨(g + 1 + 1), 1, none⟩ (.string cn)).setCell ⟨(g + 1 + 1), 2, none⟩ (.string ⟨#[]⟩)).setCell ⟨(g + 1 + 1), 3, none⟩ (.int .i64 0)).setCell ⟨(g + 1 + 1), 4, none⟩ (.int .i64 0)) = ye := ⟨_, rfl⟩
        rw [hye] at HT8 HX8 hHeld ⊢
        clear hye HT7 HX7
        have y0 : ye.cell? ⟨g + 1 + 1 + 1, 0, none⟩ = some (.nilFunc) := HT8.out.s.cell 0
        have y1 : ye.cell? ⟨g + 1 + 1 + 1, 1, none⟩ = some (.string ⟨#[]⟩) := HT8.out.s.cell 1
        have d0 := HT8.out.s.frozen 0
        have d1 := HT8.out.s.frozen 1
        refine wpAnyH_ready (rs := [7]) (by kernel_rfl) (by simp) (AllReadyH.cons rfl (fun K hK => ?_) AllReadyH.nil)
        rw [if_pos (by kernel_rfl)]
        go_simp
        clear y0 y1 d0 d1
        have HT9 := Lib.hid (show Two g (g + 1 + 1) w ((ye.setCell ⟨(g + 1 + 1 + 1), 0, none⟩ (.func (.func 103) #[.agg #[.pointer (some ⟨v, 0, none⟩), .string xa, .string xb, .string cn]] #[])).setCell ⟨(g + 1 + 1 + 1), 1, none⟩ (.string ⟨#[]⟩)) #[.int .i64 2, .string cn, .string ⟨#[]⟩, .int .i64 0, .int .i64 0] #[.func (.func 103) #[.agg #[.pointer (some ⟨v, 0, none⟩), .string xa, .string xb, .string cn]] #[], .string ⟨#[]⟩] from HT8.out.setS _ _)
        refine hK.out _ _ (HX8.out.far2 (by have h1 := HGN.out; omega) _ _) (fun hHeld => ?_)
        try simp only [Act.put, List.setIfInBounds_toArray, List.set_cons_zero, List.set_cons_succ, List.getElem_toArray, List.getElem_cons_succ, List.getElem_cons_zero]
        refine wpAnyH_done (by kernel_rfl) ?_ _
        refine gen_qS (fun y => Two g (g + 1 + 1) w y #[.int .i64 2, .string cn, .string ⟨#[]⟩, .int .i64 0, .int .i64 0] #[.func (.func 103) #[.agg #[.pointer (some ⟨v, 0, none⟩), .string xa, .string xb, .string cn]] #[], .string ⟨#[]⟩]) HT9.out (fun yz HU => ?_)
        clear hHeld HT8 HX8 HT9
        have HUH := Lib.hid HU
        clear HU
        go_wp2
        have HU := HUH.out
        refine bodyPost_ret (v := .tuple #[.agg #[.int .i64 2, .string cn, .string ⟨#[]⟩, .int .i64 0, .int .i64 0], .agg #[.func (.func 103) #[.agg #[.pointer (some ⟨v, 0, none⟩), .string xa, .string xb, .string cn]] #[], .string ⟨#[]⟩]]) ?_ rfl ⟨rfl, by first | exact HU.l | (rw [HG.out]; exact HU.l)⟩
        have p0 := HU.m.cell 0; have p1 := HU.m.cell 1; have p2 := HU.m.cell 2; have p3 := HU.m.cell 3; have p4 := HU.m.cell 4
        have q0 := HU.s.cell 0; have q1 := HU.s.cell 1
        simp [results, Tryz.f61, go_sem, p0, p1, p2, p3, p4, q0, q1]
      · rw [if_pos (by kernel_rfl)]
        go_simp
        refine hK.out _ _ (HSB.out.alloc HSB.out.size _) (fun hHeld => ?_)
        try simp only [Act.put, List.setIfInBounds_toArray, List.set_cons_zero, List.set_cons_succ, List.getElem_toArray, List.getElem_cons_succ, List.getElem_cons_zero]
        have HC := Lib.hid (Bk.new x1 166 #[.pointer none, .string ⟨#[]⟩, .string ⟨#[]⟩, .string ⟨#[]⟩])
        have HGL := Lib.hid (show w5.heap.size ≤ x1.heap.size from HSB.out.size)
        have HSB := Lib.hid (HSB.out.alloc HSB.out.size (.cells #[.pointer none, .string ⟨#[]⟩, .string ⟨#[]⟩, .string ⟨#[]⟩] 166))
        obtain ⟨G, hG⟩ : ∃ G, x1.heap.size = G := ⟨_, rfl⟩
        obtain ⟨a2, ha2⟩ : ∃ a, x1.alloc (.cells #[.pointer none, .string ⟨#[]⟩, .string ⟨#[]⟩, .string ⟨#[]⟩] 166) = a := ⟨_, rfl⟩
        try rw [ha2]
        rw [ha2] at HC HSB hHeld
        try rw [hG]
        rw [hG] at HC HGL
        clear hG ha2
        refine wpAnyH_ready (rs := [13]) (by kernel_rfl) (by simp) (AllReadyH.cons rfl (fun K hK => ?_) AllReadyH.nil)
        rw [if_pos (by kernel_rfl)]
        go_simp
        refine (sclone_ok cn _ (by have := HCS.out; omega)).mono ?_
        rintro e x2 ⟨rfl, hb2⟩
        try dsimp only
        have HSB := Lib.hid (HSB.out.trans (hb2.mono HSB.out.size))
        have HC := Lib.hid (HC.out.below hb2 HC.out.lt)
        clear hb2
        refine hK.out _ _ HSB.out (fun hHeld => ?_)
        try simp only [Act.put, List.setIfInBounds_toArray, List.set_cons_zero, List.set_cons_succ, List.getElem_toArray, List.getElem_cons_succ, List.getElem_cons_zero]
        refine take_at (some 31) (i := 14) (v := ?_) rfl rfl (by kernel_rfl) (by kernel_rfl) (by kernel_rfl) (fun _ _ _ h => h) (Or.inl ⟨by kernel_rfl, ?_⟩) hHeld ?_
        rotate_left
        · intro wz hSw; go_simp; try (with_reducible rfl)
        try simp only [Act.put, List.setIfInBounds_toArray, List.set_cons_zero, List.set_cons_succ, List.getElem_toArray, List.getElem_cons_succ, List.getElem_cons_zero]
        have c0 := HC.out.cell 0; have c1 := HC.out.cell 1; have c2 := HC.out.cell 2; have c3 := HC.out.cell 3; have i0 := HC.out.frozen 0; have i1 := HC.out.frozen 1; have i2 := HC.out.frozen 2; have i3 := HC.out.frozen 3
        simp only [List.getElem?_toArray, List.getElem?_cons_zero, List.getElem?_cons_succ] at c0 c1 c2 c3
        refine wpAnyH_ready (rs := [16]) (by kernel_rfl) (by simp) (AllReadyH.cons rfl (fun K hK => ?_) AllReadyH.nil)
        rw [if_pos (by kernel_rfl)]
        go_simp
        clear c0 c1 c2 c3 i0 i1 i2 i3
        refine hK.out _ _ ((((HSB.out.setCell HGL.out _).setCell HGL.out _).setCell HGL.out _).setCell HGL.out _) (fun hHeld => ?_)
        try simp only [Act.put, List.setIfInBounds_toArray, List.set_cons_zero, List.set_cons_succ, List.getElem_toArray, List.getElem_cons_succ, List.getElem_cons_zero]
        refine wpAnyH_done (by kernel_rfl) ?_ _
        have kU := (((HC.out.set 0 (.pointer (some ⟨v, 0, none⟩))).set 1 (.string xa)).set 2 (.string xb)).set 3 (.string cn)
        simp only [List.setIfInBounds_toArray, List.set_cons_zero, List.set_cons_succ] at kU
        refine gen_qS (fun y => Bk y G 166 #[.pointer (some ⟨v, 0, none⟩), .string xa, .string xb, .string cn] ∧ Below w5.heap.size w5 y) ⟨kU, hHeld⟩ (fun y hy => ?_)
        have HY := Lib.hid hy.1
        have HYB := Lib.hid hy.2
        clear hy kU hHeld HC HSB
        have HT6 := Lib.hid (HT.out.on HYB.out)
        have HGN := Lib.hid (show g + 1 + 1 + 1 < G from by have h1 := HT.out.s.lt; have h2 := HGL.out; omega)
        go_upto_region 4 with fail
        try simp only [List.cons_append, List.nil_append]
        try simp only [List.cons_append, List.nil_append]
        refine wp_region_held_drew (S := fun wz => Bk wz G 166 #[.pointer (some ⟨v, 0, none⟩), .string xa, .string xb, .string cn]) (by kernel_rfl) (HY.out.drew) (fun hHeld => ?_)
        obtain ⟨yd, hyd⟩ : ∃ yd, y.drew = yd := ⟨_, rfl⟩
        have HT7 := Lib.hid (HT6.out.on (Below.refl _ _).drew)
        have HX7 := Lib.hid hHeld
        rw [hyd] at HT7 HX7 hHeld ⊢
        clear hyd
        refine take_at (some 32) (i := 0) (v := ?_) rfl rfl (by kernel_rfl) (by kernel_rfl) (by kernel_rfl) (fun _ _ _ h => h) (Or.inl ⟨by kernel_rfl, ?_⟩) hHeld ?_
        rotate_left
        · intro wz hSw; have c0 : wz.cell? ⟨G, 0, none⟩ = some (.pointer (some ⟨v, 0, none⟩)) := hSw.cell 0; have c1 : wz.cell? ⟨G, 1, none⟩ = some (.string xa) := hSw.cell 1; have c2 : wz.cell? ⟨G, 2, none⟩ = some (.string xb) := hSw.cell 2; have c3 : wz.cell? ⟨G, 3, none⟩ = some (.string cn) := hSw.cell 3; go_simp; try (with_reducible rfl)
        try simp only [Act.put, List.setIfInBounds_toArray, List.set_cons_zero, List.set_cons_succ, List.getElem_toArray, List.getElem_cons_succ, List.getElem_cons_zero]
        refine take_at (some 33) (i := 1) (v := ?_) rfl rfl (by kernel_rfl) (by kernel_rfl) (by kernel_rfl) (fun _ _ _ h => h) (Or.inl ⟨by kernel_rfl, ?_⟩) hHeld ?_
        rotate_left
        · intro wz hSw; have c0 : wz.cell? ⟨G, 0, none⟩ = some (.pointer (some ⟨v, 0, none⟩)) := hSw.cell 0; have c1 : wz.cell? ⟨G, 1, none⟩ = some (.string xa) := hSw.cell 1; have c2 : wz.cell? ⟨G, 2, none⟩ = some (.string xb) := hSw.cell 2; have c3 : wz.cell? ⟨G, 3, none⟩ = some (.string cn) := hSw.cell 3; go_simp; try (with_reducible rfl)
        try simp only [Act.put, List.setIfInBounds_toArray, List.set_cons_zero, List.set_cons_succ, List.getElem_toArray, List.getElem_cons_succ, List.getElem_cons_zero]
        refine take_at (some 34) (i := 2) (v := ?_) rfl rfl (by kernel_rfl) (by kernel_rfl) (by kernel_rfl) (fun _ _ _ h => h) (Or.inl ⟨by kernel_rfl, ?_⟩) hHeld ?_
        rotate_left
        · intro wz hSw; have c0 : wz.cell? ⟨G, 0, none⟩ = some (.pointer (some ⟨v, 0, none⟩)) := hSw.cell 0; have c1 : wz.cell? ⟨G, 1, none⟩ = some (.string xa) := hSw.cell 1; have c2 : wz.cell? ⟨G, 2, none⟩ = some (.string xb) := hSw.cell 2; have c3 : wz.cell? ⟨G, 3, none⟩ = some (.string cn) := hSw.cell 3; go_simp; try (with_reducible rfl)
        try simp only [Act.put, List.setIfInBounds_toArray, List.set_cons_zero, List.set_cons_succ, List.getElem_toArray, List.getElem_cons_succ, List.getElem_cons_zero]
        refine take_at (some 35) (i := 3) (v := ?_) rfl rfl (by kernel_rfl) (by kernel_rfl) (by kernel_rfl) (fun _ _ _ h => h) (Or.inl ⟨by kernel_rfl, ?_⟩) hHeld ?_
        rotate_left
        · intro wz hSw; have c0 : wz.cell? ⟨G, 0, none⟩ = some (.pointer (some ⟨v, 0, none⟩)) := hSw.cell 0; have c1 : wz.cell? ⟨G, 1, none⟩ = some (.string xa) := hSw.cell 1; have c2 : wz.cell? ⟨G, 2, none⟩ = some (.string xb) := hSw.cell 2; have c3 : wz.cell? ⟨G, 3, none⟩ = some (.string cn) := hSw.cell 3; go_simp; try (with_reducible rfl)
        try simp only [Act.put, List.setIfInBounds_toArray, List.set_cons_zero, List.set_cons_succ, List.getElem_toArray, List.getElem_cons_succ, List.getElem_cons_zero]
        refine take_at (some 36) (i := 4) (v := ?_) rfl rfl (by kernel_rfl) (by kernel_rfl) (by kernel_rfl) (fun _ _ _ h => h) (Or.inl ⟨by kernel_rfl, ?_⟩) hHeld ?_
        rotate_left
        · intro wz hSw; have c0 : wz.cell? ⟨G, 0, none⟩ = some (.pointer (some ⟨v, 0, none⟩)) := hSw.cell 0; have c1 : wz.cell? ⟨G, 1, none⟩ = some (.string xa) := hSw.cell 1; have c2 : wz.cell? ⟨G, 2, none⟩ = some (.string xb) := hSw.cell 2; have c3 : wz.cell? ⟨G, 3, none⟩ = some (.string cn) := hSw.cell 3; go_simp; try (with_reducible rfl)
        try simp only [Act.put, List.setIfInBounds_toArray, List.set_cons_zero, List.set_cons_succ, List.getElem_toArray, List.getElem_cons_succ, List.getElem_cons_zero]
        refine take_at (some 37) (i := 5) (v := ?_) rfl rfl (by kernel_rfl) (by kernel_rfl) (by kernel_rfl) (fun _ _ _ h => h) (Or.inl ⟨by kernel_rfl, ?_⟩) hHeld ?_
        rotate_left
        · intro wz hSw; have c0 : wz.cell? ⟨G, 0, none⟩ = some (.pointer (some ⟨v, 0, none⟩)) := hSw.cell 0; have c1 : wz.cell? ⟨G, 1, none⟩ = some (.string xa) := hSw.cell 1; have c2 : wz.cell? ⟨G, 2, none⟩ = some (.string xb) := hSw.cell 2; have c3 : wz.cell? ⟨G, 3, none⟩ = some (.string cn) := hSw.cell 3; go_simp; try (with_reducible rfl)
        try simp only [Act.put, List.setIfInBounds_toArray, List.set_cons_zero, List.set_cons_succ, List.getElem_toArray, List.getElem_cons_succ, List.getElem_cons_zero]
        have z0 : yd.cell? ⟨(g + 1 + 1), 0, none⟩ = some (.int .i64 0) := HT7.out.m.cell 0
        have z1 : yd.cell? ⟨(g + 1 + 1), 1, none⟩ = some (.string ⟨#[]⟩) := HT7.out.m.cell 1
        have z2 : yd.cell? ⟨(g + 1 + 1), 2, none⟩ = some (.string ⟨#[]⟩) := HT7.out.m.cell 2
        have z3 : yd.cell? ⟨(g + 1 + 1), 3, none⟩ = some (.int .i64 0) := HT7.out.m.cell 3
        have z4 : yd.cell? ⟨(g + 1 + 1), 4, none⟩ = some (.int .i64 0) := HT7.out.m.cell 4
        have y0 : yd.cell? ⟨(g + 1 + 1) + 1, 0, none⟩ = some (.nilFunc) := HT7.out.s.cell 0
        have y1 : yd.cell? ⟨(g + 1 + 1) + 1, 1, none⟩ = some (.string ⟨#[]⟩) := HT7.out.s.cell 1
        have f0 := HT7.out.m.frozen 0
        have f1 := HT7.out.m.frozen 1
        have f2 := HT7.out.m.frozen 2
        have f3 := HT7.out.m.frozen 3
        have f4 := HT7.out.m.frozen 4
        have d0 := HT7.out.s.frozen 0
        have d1 := HT7.out.s.frozen 1
        refine wpAnyH_ready (rs := [6]) (by kernel_rfl) (by simp) (AllReadyH.cons rfl (fun K hK => ?_) AllReadyH.nil)
        rw [if_pos (by kernel_rfl)]
        go_simp
        clear z0 z1 z2 z3 z4 y0 y1 f0 f1 f2 f3 f4 d0 d1
        have HT8 := Lib.hid (show Two g (g + 1 + 1) w (((((yd.setCell ⟨(g + 1 + 1), 0, none⟩ (.int .i64 2)).setCell ⟨(g + 1 + 1), 1, none⟩ (.string cn)).setCell ⟨(g + 1 + 1), 2, none⟩ (.string ⟨#[]⟩)).setCell ⟨(g + 1 + 1), 3, none⟩ (.int .i64 0)).setCell ⟨(g + 1 + 1), 4, none⟩ (.int .i64 0)) #[.int .i64 2, .string cn, .string ⟨#[]⟩, .int .i64 0, .int .i64 0] #[.nilFunc, .string ⟨#[]⟩] from HT7.out.setM _ _ _ _ _)
        have HX8 := Lib.hid (show Bk (((((yd.setCell ⟨(g + 1 + 1), 0, none⟩ (.int .i64 2)).setCell ⟨(g + 1 + 1), 1, none⟩ (.string cn)).setCell ⟨(g + 1 + 1), 2, none⟩ (.string ⟨#[]⟩)).setCell ⟨(g + 1 + 1), 3, none⟩ (.int .i64 0)).setCell ⟨(g + 1 + 1), 4, none⟩ (.int .i64 0)) G 166 #[.pointer (some ⟨v, 0, none⟩), .string xa, .string xb, .string cn] from HX7.out.far5 (by have h1 := HGN.out; omega) _ _ _ _ _)
        refine hK.out _ _ HX8.out (fun hHeld => ?_)
        try simp only [Act.put, List.setIfInBounds_toArray, List.set_cons_zero, List.set_cons_succ, List.getElem_toArray, List.getElem_cons_succ, List.getElem_cons_zero]
        obtain ⟨ye, hye⟩ : ∃ ye, (((((yd.setCell ⟨(g + 1 + 1), 0, none⟩ (.int .i64 2)).setCell ⟨(g + 1 + 1), 1, none⟩ (.string cn)).setCell ⟨(g + 1 + 1), 2, none⟩ (.string ⟨#[]⟩)).setCell ⟨(g + 1 + 1), 3, none⟩ (.int .i64 0)).setCell ⟨(g + 1 + 1), 4, none⟩ (.int .i64 0)) = ye := ⟨_, rfl⟩
        rw [hye] at HT8 HX8 hHeld ⊢
        clear hye HT7 HX7
        have y0 : ye.cell? ⟨g + 1 + 1 + 1, 0, none⟩ = some (.nilFunc) := HT8.out.s.cell 0
        have y1 : ye.cell? ⟨g + 1 + 1 + 1, 1, none⟩ = some (.string ⟨#[]⟩) := HT8.out.s.cell 1
        have d0 := HT8.out.s.frozen 0
        have d1 := HT8.out.s.frozen 1
        refine wpAnyH_ready (rs := [7]) (by kernel_rfl) (by simp) (AllReadyH.cons rfl (fun K hK => ?_) AllReadyH.nil)
        rw [if_pos (by kernel_rfl)]
        go_simp
        clear y0 y1 d0 d1
        have HT9 := Lib.hid (show Two g (g + 1 + 1) w ((ye.setCell ⟨(g + 1 + 1 + 1), 0, none⟩ (.func (.func 103) #[.agg #[.pointer (some ⟨v, 0, none⟩), .string xa, .string xb, .string cn]] #[])).setCell ⟨(g + 1 + 1 + 1), 1, none⟩ (.string ⟨#[]⟩)) #[.int .i64 2, .string cn, .string ⟨#[]⟩, .int .i64 0, .int .i64 0] #[.func (.func 103) #[.agg #[.pointer (some ⟨v, 0, none⟩), .string xa, .string xb, .string cn]] #[], .string ⟨#[]⟩] from HT8.out.setS _ _)
        refine hK.out _ _ (HX8.out.far2 (by have h1 := HGN.out; omega) _ _) (fun hHeld => ?_)
        try simp only [Act.put, List.setIfInBounds_toArray, List.set_cons_zero, List.set_cons_succ, List.getElem_toArray, List.getElem_cons_succ, List.getElem_cons_zero]
        refine wpAnyH_done (by kernel_rfl) ?_ _
        refine gen_qS (fun y => Two g (g + 1 + 1) w y #[.int .i64 2, .string cn, .string ⟨#[]⟩, .int .i64 0, .int .i64 0] #[.func (.func 103) #[.agg #[.pointer (some ⟨v, 0, none⟩), .string xa, .string xb, .string cn]] #[], .string ⟨#[]⟩]) HT9.out (fun yz HU => ?_)
        clear hHeld HT8 HX8 HT9
        have HUH := Lib.hid HU
        clear HU
        go_wp2
        have HU := HUH.out
        refine bodyPost_ret (v := .tuple #[.agg #[.int .i64 2, .string cn, .string ⟨#[]⟩, .int .i64 0, .int .i64 0], .agg #[.func (.func 103) #[.agg #[.pointer (some ⟨v, 0, none⟩), .string xa, .string xb, .string cn]] #[], .string ⟨#[]⟩]]) ?_ rfl ⟨rfl, by first | exact HU.l | (rw [HG.out]; exact HU.l)⟩
        have p0 := HU.m.cell 0; have p1 := HU.m.cell 1; have p2 := HU.m.cell 2; have p3 := HU.m.cell 3; have p4 := HU.m.cell 4
        have q0 := HU.s.cell 0; have q1 := HU.s.cell 1
        simp [results, Tryz.f61, go_sem, p0, p1, p2, p3, p4, q0, q1]
    · rw [if_pos (by kernel_rfl)]
      go_simp
      refine hK.out _ _ (HSB.out.alloc HSB.out.size _) (fun hHeld => ?_)
      try simp only [Act.put, List.setIfInBounds_toArray, List.set_cons_zero, List.set_cons_succ, List.getElem_toArray, List.getElem_cons_succ, List.getElem_cons_zero]
      have HC := Lib.hid (Bk.new x0 166 #[.pointer none, .string ⟨#[]⟩, .string ⟨#[]⟩, .string ⟨#[]⟩])
      have HGL := Lib.hid (show w5.heap.size ≤ x0.heap.size from HSB.out.size)
      have HSB := Lib.hid (HSB.out.alloc HSB.out.size (.cells #[.pointer none, .string ⟨#[]⟩, .string ⟨#[]⟩, .string ⟨#[]⟩] 166))
      obtain ⟨G, hG⟩ : ∃ G, x0.heap.size = G := ⟨_, rfl⟩
      obtain ⟨a1, ha1⟩ : ∃ a, x0.alloc (.cells #[.pointer none, .string ⟨#[]⟩, .string ⟨#[]⟩, .string ⟨#[]⟩] 166) = a := ⟨_, rfl⟩
      try rw [ha1]
      rw [ha1] at HC HSB hHeld
      try rw [hG]
      rw [hG] at HC HGL
      clear hG ha1
      refine wpAnyH_ready (rs := [7]) (by kernel_rfl) (by simp) (AllReadyH.cons rfl (fun K hK => ?_) AllReadyH.nil)
      rw [if_pos (by kernel_rfl)]
      go_simp
      refine (sclone_ok xb _ HZB.out).mono ?_
      rintro e x1 ⟨rfl, hb1⟩
      try dsimp only
      have HSB := Lib.hid (HSB.out.trans (hb1.mono HSB.out.size))
      have HC := Lib.hid (HC.out.below hb1 HC.out.lt)
      clear hb1
      refine hK.out _ _ HSB.out (fun hHeld => ?_)
      try simp only [Act.put, List.setIfInBounds_toArray, List.set_cons_zero, List.set_cons_succ, List.getElem_toArray, List.getElem_cons_succ, List.getElem_cons_zero]
      refine wpAnyH_ready (rs := [13]) (by kernel_rfl) (by simp) (AllReadyH.cons rfl (fun K hK => ?_) AllReadyH.nil)
      rw [if_pos (by kernel_rfl)]
      go_simp
      refine (sclone_ok cn _ (by have := HCS.out; omega)).mono ?_
      rintro e x2 ⟨rfl, hb2⟩
      try dsimp only
      have HSB := Lib.hid (HSB.out.trans (hb2.mono HSB.out.size))
      have HC := Lib.hid (HC.out.below hb2 HC.out.lt)
      clear hb2
      refine hK.out _ _ HSB.out (fun hHeld => ?_)
      try simp only [Act.put, List.setIfInBounds_toArray, List.set_cons_zero, List.set_cons_succ, List.getElem_toArray, List.getElem_cons_succ, List.getElem_cons_zero]
      refine take_at (some 31) (i := 14) (v := ?_) rfl rfl (by kernel_rfl) (by kernel_rfl) (by kernel_rfl) (fun _ _ _ h => h) (Or.inl ⟨by kernel_rfl, ?_⟩) hHeld ?_
      rotate_left
      · intro wz hSw; go_simp; try (with_reducible rfl)
      try simp only [Act.put, List.setIfInBounds_toArray, List.set_cons_zero, List.set_cons_succ, List.getElem_toArray, List.getElem_cons_succ, List.getElem_cons_zero]
      have c0 := HC.out.cell 0; have c1 := HC.out.cell 1; have c2 := HC.out.cell 2; have c3 := HC.out.cell 3; have i0 := HC.out.frozen 0; have i1 := HC.out.frozen 1; have i2 := HC.out.frozen 2; have i3 := HC.out.frozen 3
      simp only [List.getElem?_toArray, List.getElem?_cons_zero, List.getElem?_cons_succ] at c0 c1 c2 c3
      refine wpAnyH_ready (rs := [16]) (by kernel_rfl) (by simp) (AllReadyH.cons rfl (fun K hK => ?_) AllReadyH.nil)
      rw [if_pos (by kernel_rfl)]
      go_simp
      clear c0 c1 c2 c3 i0 i1 i2 i3
      refine hK.out _ _ ((((HSB.out.setCell HGL.out _).setCell HGL.out _).setCell HGL.out _).setCell HGL.out _) (fun hHeld => ?_)
      try simp only [Act.put, List.setIfInBounds_toArray, List.set_cons_zero, List.set_cons_succ, List.getElem_toArray, List.getElem_cons_succ, List.getElem_cons_zero]
      refine wpAnyH_done (by kernel_rfl) ?_ _
      have kU := (((HC.out.set 0 (.pointer (some ⟨v, 0, none⟩))).set 1 (.string xa)).set 2 (.string xb)).set 3 (.string cn)
      simp only [List.setIfInBounds_toArray, List.set_cons_zero, List.set_cons_succ] at kU
      refine gen_qS (fun y => Bk y G 166 #[.pointer (some ⟨v, 0, none⟩), .string xa, .string xb, .string cn] ∧ Below w5.heap.size w5 y) ⟨kU, hHeld⟩ (fun y hy => ?_)
      have HY := Lib.hid hy.1
      have HYB := Lib.hid hy.2
      clear hy kU hHeld HC HSB
      have HT6 := Lib.hid (HT.out.on HYB.out)
      have HGN := Lib.hid (show g + 1 + 1 + 1 < G from by have h1 := HT.out.s.lt; have h2 := HGL.out; omega)
      go_upto_region 4 with fail
      try simp only [List.cons_append, List.nil_append]
      try simp only [List.cons_append, List.nil_append]
      refine wp_region_held_drew (S := fun wz => Bk wz G 166 #[.pointer (some ⟨v, 0, none⟩), .string xa, .string xb, .string cn]) (by kernel_rfl) (HY.out.drew) (fun hHeld => ?_)
      obtain ⟨yd, hyd⟩ : ∃ yd, y.drew = yd := ⟨_, rfl⟩
      have HT7 := Lib.hid (HT6.out.on (Below.refl _ _).drew)
      have HX7 := Lib.hid hHeld
      rw [hyd] at HT7 HX7 hHeld ⊢
      clear hyd
      refine take_at (some 32) (i := 0) (v := ?_) rfl rfl (by kernel_rfl) (by kernel_rfl) (by kernel_rfl) (fun _ _ _ h => h) (Or.inl ⟨by kernel_rfl, ?_⟩) hHeld ?_
      rotate_left
      · intro wz hSw; have c0 : wz.cell? ⟨G, 0, none⟩ = some (.pointer (some ⟨v, 0, none⟩)) := hSw.cell 0; have c1 : wz.cell? ⟨G, 1, none⟩ = some (.string xa) := hSw.cell 1; have c2 : wz.cell? ⟨G, 2, none⟩ = some (.string xb) := hSw.cell 2; have c3 : wz.cell? ⟨G, 3, none⟩ = some (.string cn) := hSw.cell 3; go_simp; try (with_reducible rfl)
      try simp only [Act.put, List.setIfInBounds_toArray, List.set_cons_zero, List.set_cons_succ, List.getElem_toArray, List.getElem_cons_succ, List.getElem_cons_zero]
      refine take_at (some 33) (i := 1) (v := ?_) rfl rfl (by kernel_rfl) (by kernel_rfl) (by kernel_rfl) (fun _ _ _ h => h) (Or.inl ⟨by kernel_rfl, ?_⟩) hHeld ?_
      rotate_left
      · intro wz hSw; have c0 : wz.cell? ⟨G, 0, none⟩ = some (.pointer (some ⟨v, 0, none⟩)) := hSw.cell 0; have c1 : wz.cell? ⟨G, 1, none⟩ = some (.string xa) := hSw.cell 1; have c2 : wz.cell? ⟨G, 2, none⟩ = some (.string xb) := hSw.cell 2; have c3 : wz.cell? ⟨G, 3, none⟩ = some (.string cn) := hSw.cell 3; go_simp; try (with_reducible rfl)
      try simp only [Act.put, List.setIfInBounds_toArray, List.set_cons_zero, List.set_cons_succ, List.getElem_toArray, List.getElem_cons_succ, List.getElem_cons_zero]
      refine take_at (some 34) (i := 2) (v := ?_) rfl rfl (by kernel_rfl) (by kernel_rfl) (by kernel_rfl) (fun _ _ _ h => h) (Or.inl ⟨by kernel_rfl, ?_⟩) hHeld ?_
      rotate_left
      · intro wz hSw; have c0 : wz.cell? ⟨G, 0, none⟩ = some (.pointer (some ⟨v, 0, none⟩)) := hSw.cell 0; have c1 : wz.cell? ⟨G, 1, none⟩ = some (.string xa) := hSw.cell 1; have c2 : wz.cell? ⟨G, 2, none⟩ = some (.string xb) := hSw.cell 2; have c3 : wz.cell? ⟨G, 3, none⟩ = some (.string cn) := hSw.cell 3; go_simp; try (with_reducible rfl)
      try simp only [Act.put, List.setIfInBounds_toArray, List.set_cons_zero, List.set_cons_succ, List.getElem_toArray, List.getElem_cons_succ, List.getElem_cons_zero]
      refine take_at (some 35) (i := 3) (v := ?_) rfl rfl (by kernel_rfl) (by kernel_rfl) (by kernel_rfl) (fun _ _ _ h => h) (Or.inl ⟨by kernel_rfl, ?_⟩) hHeld ?_
      rotate_left
      · intro wz hSw; have c0 : wz.cell? ⟨G, 0, none⟩ = some (.pointer (some ⟨v, 0, none⟩)) := hSw.cell 0; have c1 : wz.cell? ⟨G, 1, none⟩ = some (.string xa) := hSw.cell 1; have c2 : wz.cell? ⟨G, 2, none⟩ = some (.string xb) := hSw.cell 2; have c3 : wz.cell? ⟨G, 3, none⟩ = some (.string cn) := hSw.cell 3; go_simp; try (with_reducible rfl)
      try simp only [Act.put, List.setIfInBounds_toArray, List.set_cons_zero, List.set_cons_succ, List.getElem_toArray, List.getElem_cons_succ, List.getElem_cons_zero]
      refine take_at (some 36) (i := 4) (v := ?_) rfl rfl (by kernel_rfl) (by kernel_rfl) (by kernel_rfl) (fun _ _ _ h => h) (Or.inl ⟨by kernel_rfl, ?_⟩) hHeld ?_
      rotate_left
      · intro wz hSw; have c0 : wz.cell? ⟨G, 0, none⟩ = some (.pointer (some ⟨v, 0, none⟩)) := hSw.cell 0; have c1 : wz.cell? ⟨G, 1, none⟩ = some (.string xa) := hSw.cell 1; have c2 : wz.cell? ⟨G, 2, none⟩ = some (.string xb) := hSw.cell 2; have c3 : wz.cell? ⟨G, 3, none⟩ = some (.string cn) := hSw.cell 3; go_simp; try (with_reducible rfl)
      try simp only [Act.put, List.setIfInBounds_toArray, List.set_cons_zero, List.set_cons_succ, List.getElem_toArray, List.getElem_cons_succ, List.getElem_cons_zero]
      refine take_at (some 37) (i := 5) (v := ?_) rfl rfl (by kernel_rfl) (by kernel_rfl) (by kernel_rfl) (fun _ _ _ h => h) (Or.inl ⟨by kernel_rfl, ?_⟩) hHeld ?_
      rotate_left
      · intro wz hSw; have c0 : wz.cell? ⟨G, 0, none⟩ = some (.pointer (some ⟨v, 0, none⟩)) := hSw.cell 0; have c1 : wz.cell? ⟨G, 1, none⟩ = some (.string xa) := hSw.cell 1; have c2 : wz.cell? ⟨G, 2, none⟩ = some (.string xb) := hSw.cell 2; have c3 : wz.cell? ⟨G, 3, none⟩ = some (.string cn) := hSw.cell 3; go_simp; try (with_reducible rfl)
      try simp only [Act.put, List.setIfInBounds_toArray, List.set_cons_zero, List.set_cons_succ, List.getElem_toArray, List.getElem_cons_succ, List.getElem_cons_zero]
      have z0 : yd.cell? ⟨(g + 1 + 1), 0, none⟩ = some (.int .i64 0) := HT7.out.m.cell 0
      have z1 : yd.cell? ⟨(g + 1 + 1), 1, none⟩ = some (.string ⟨#[]⟩) := HT7.out.m.cell 1
      have z2 : yd.cell? ⟨(g + 1 + 1), 2, none⟩ = some (.string ⟨#[]⟩) := HT7.out.m.cell 2
      have z3 : yd.cell? ⟨(g + 1 + 1), 3, none⟩ = some (.int .i64 0) := HT7.out.m.cell 3
      have z4 : yd.cell? ⟨(g + 1 + 1), 4, none⟩ = some (.int .i64 0) := HT7.out.m.cell 4
      have y0 : yd.cell? ⟨(g + 1 + 1) + 1, 0, none⟩ = some (.nilFunc) := HT7.out.s.cell 0
      have y1 : yd.cell? ⟨(g + 1 + 1) + 1, 1, none⟩ = some (.string ⟨#[]⟩) := HT7.out.s.cell 1
      have f0 := HT7.out.m.frozen 0
      have f1 := HT7.out.m.frozen 1
      have f2 := HT7.out.m.frozen 2
      have f3 := HT7.out.m.frozen 3
      have f4 := HT7.out.m.frozen 4
      have d0 := HT7.out.s.frozen 0
      have d1 := HT7.out.s.frozen 1
      refine wpAnyH_ready (rs := [6]) (by kernel_rfl) (by simp) (AllReadyH.cons rfl (fun K hK => ?_) AllReadyH.nil)
      rw [if_pos (by kernel_rfl)]
      go_simp
      clear z0 z1 z2 z3 z4 y0 y1 f0 f1 f2 f3 f4 d0 d1
      have HT8 := Lib.hid (show Two g (g + 1 + 1) w (((((yd.setCell ⟨(g + 1 + 1), 0, none⟩ (.int .i64 2)).setCell ⟨(g + 1 + 1), 1, none⟩ (.string cn)).setCell ⟨(g + 1 + 1), 2, none⟩ (.string ⟨#[]⟩)).setCell ⟨(g + 1 + 1), 3, none⟩ (.int .i64 0)).setCell ⟨(g + 1 + 1), 4, none⟩ (.int .i64 0)) #[.int .i64 2, .string cn, .string ⟨#[]⟩, .int .i64 0, .int .i64 0] #[.nilFunc, .string ⟨#[]⟩] from HT7.out.setM _ _ _ _ _)
      have HX8 := Lib.hid (show Bk (((((yd.setCell ⟨(g + 1 + 1), 0, none⟩ (.int .i64 2)).setCell ⟨(g + 1 + 1), 1, none⟩ (.string cn)).setCell ⟨(g + 1 + 1), 2, none⟩ (.string ⟨#[]⟩)).setCell ⟨(g + 1 + 1), 3, none⟩ (.int .i64 0)).setCell ⟨(g + 1 + 1), 4, none⟩ (.int .i64 0)) G 166 #[.pointer (some ⟨v, 0, none⟩), .string xa, .string xb, .string cn] from HX7.out.far5 (by have h1 := HGN.out; omega) _ _ _ _ _)
      refine hK.out _ _ HX8.out (fun hHeld => ?_)
      try simp only [Act.put, List.setIfInBounds_toArray, List.set_cons_zero, List.set_cons_succ, List.getElem_toArray, List.getElem_cons_succ, List.getElem_cons_zero]
      obtain ⟨ye, hye⟩ : ∃ ye, (((((yd.setCell ⟨(g + 1 + 1), 0, none⟩ (.int .i64 2)).setCell ⟨(g + 1 + 1), 1, none⟩ (.string cn)).setCell ⟨(g + 1 + 1), 2, none⟩ (.string ⟨#[]⟩)).setCell ⟨(g + 1 + 1), 3, none⟩ (.int .i64 0)).setCell ⟨(g + 1 + 1), 4, none⟩ (.int .i64 0)) = ye := ⟨_, rfl⟩
      rw [hye] at HT8 HX8 hHeld ⊢
      clear hye HT7 HX7
      have y0 : ye.cell? ⟨g + 1 + 1 + 1, 0, none⟩ = some (.nilFunc) := HT8.out.s.cell 0
      have y1 : ye.cell? ⟨g + 1 + 1 + 1, 1, none⟩ = some (.string ⟨#[]⟩) := HT8.out.s.cell 1
      have d0 := HT8.out.s.frozen 0
      have d1 := HT8.out.s.frozen 1
      refine wpAnyH_ready (rs := [7]) (by kernel_rfl) (by simp) (AllReadyH.cons rfl (fun K hK => ?_) AllReadyH.nil)
      rw [if_pos (by kernel_rfl)]
      go_simp
      clear y0 y1 d0 d1
      have HT9 := Lib.hid (show Two g (g + 1 + 1) w ((ye.setCell ⟨(g + 1 + 1 + 1), 0, none⟩ (.func (.func 103) #[.agg #[.pointer (some ⟨v, 0, none⟩), .string xa, .string xb, .string cn]] #[])).setCell ⟨(g + 1 + 1 + 1), 1, none⟩ (.string ⟨#[]⟩)) #[.int .i64 2, .string cn, .string ⟨#[]⟩, .int .i64 0, .int .i64 0] #[.func (.func 103) #[.agg #[.pointer (some ⟨v, 0, none⟩), .string xa, .string xb, .string cn]] #[], .string ⟨#[]⟩] from HT8.out.setS _ _)
      refine hK.out _ _ (HX8.out.far2 (by have h1 := HGN.out; omega) _ _) (fun hHeld => ?_)
      try simp only [Act.put, List.setIfInBounds_toArray, List.set_cons_zero, List.set_cons_succ, List.getElem_toArray, List.getElem_cons_succ, List.getElem_cons_zero]
      refine wpAnyH_done (by kernel_rfl) ?_ _
      refine gen_qS (fun y => Two g (g + 1 + 1) w y #[.int .i64 2, .string cn, .string ⟨#[]⟩, .int .i64 0, .int .i64 0] #[.func (.func 103) #[.agg #[.pointer (some ⟨v, 0, none⟩), .string xa, .string xb, .string cn]] #[], .string ⟨#[]⟩]) HT9.out (fun yz HU => ?_)
      clear hHeld HT8 HX8 HT9
      have HUH := Lib.hid HU
      clear HU
      go_wp2
      have HU := HUH.out
      refine bodyPost_ret (v := .tuple #[.agg #[.int .i64 2, .string cn, .string ⟨#[]⟩, .int .i64 0, .int .i64 0], .agg #[.func (.func 103) #[.agg #[.pointer (some ⟨v, 0, none⟩), .string xa, .string xb, .string cn]] #[], .string ⟨#[]⟩]]) ?_ rfl ⟨rfl, by first | exact HU.l | (rw [HG.out]; exact HU.l)⟩
      have p0 := HU.m.cell 0; have p1 := HU.m.cell 1; have p2 := HU.m.cell 2; have p3 := HU.m.cell 3; have p4 := HU.m.cell 4
      have q0 := HU.s.cell 0; have q1 := HU.s.cell 1
      simp [results, Tryz.f61, go_sem, p0, p1, p2, p3, p4, q0, q1]
  · rw [if_pos (by kernel_rfl)]
    go_simp
    refine hK.out _ _ (HSB.out.alloc HSB.out.size _) (fun hHeld => ?_)
    try simp only [Act.put, List.setIfInBounds_toArray, List.set_cons_zero, List.set_cons_succ, List.getElem_toArray, List.getElem_cons_succ, List.getElem_cons_zero]
    have HC := Lib.hid (Bk.new wd 166 #[.pointer none, .string ⟨#[]⟩, .string ⟨#[]⟩, .string ⟨#[]⟩])
    have HGL := Lib.hid (show w5.heap.size ≤ wd.heap.size from HSB.out.size)
    have HSB := Lib.hid (HSB.out.alloc HSB.out.size (.cells #[.pointer none, .string ⟨#[]⟩, .string ⟨#[]⟩, .string ⟨#[]⟩] 166))
    obtain ⟨G, hG⟩ : ∃ G, wd.heap.size = G := ⟨_, rfl⟩
    obtain ⟨a0, ha0⟩ : ∃ a, wd.alloc (.cells #[.pointer none, .string ⟨#[]⟩, .string ⟨#[]⟩, .string ⟨#[]⟩] 166) = a := ⟨_, rfl⟩
    try rw [ha0]
    rw [ha0] at HC HSB hHeld
    try rw [hG]
    rw [hG] at HC HGL
    clear hG ha0
    refine wpAnyH_ready (rs := [4]) (by kernel_rfl) (by simp) (AllReadyH.cons rfl (fun K hK => ?_) AllReadyH.nil)
    rw [if_pos (by kernel_rfl)]
    go_simp
    refine (sclone_ok xa _ HZA.out).mono ?_
    rintro e x0 ⟨rfl, hb0⟩
    try dsimp only
    have HSB := Lib.hid (HSB.out.trans (hb0.mono HSB.out.size))
    have HC := Lib.hid (HC.out.below hb0 HC.out.lt)
    clear hb0
    refine hK.out _ _ HSB.out (fun hHeld => ?_)
    try simp only [Act.put, List.setIfInBounds_toArray, List.set_cons_zero, List.set_cons_succ, List.getElem_toArray, List.getElem_cons_succ, List.getElem_cons_zero]
    refine wpAnyH_ready (rs := [7]) (by kernel_rfl) (by simp) (AllReadyH.cons rfl (fun K hK => ?_) AllReadyH.nil)
    rw [if_pos (by kernel_rfl)]
    go_simp
    refine (sclone_ok xb _ HZB.out).mono ?_
    rintro e x1 ⟨rfl, hb1⟩
    try dsimp only
    have HSB := Lib.hid (HSB.out.trans (hb1.mono HSB.out.size))
    have HC := Lib.hid (HC.out.below hb1 HC.out.lt)
    clear hb1
    refine hK.out _ _ HSB.out (fun hHeld => ?_)
    try simp only [Act.put, List.setIfInBounds_toArray, List.set_cons_zero, List.set_cons_succ, List.getElem_toArray, List.getElem_cons_succ, List.getElem_cons_zero]
    refine wpAnyH_ready (rs := [13]) (by kernel_rfl) (by simp) (AllReadyH.cons rfl (fun K hK => ?_) AllReadyH.nil)
    rw [if_pos (by kernel_rfl)]
    go_simp
    refine (sclone_ok cn _ (by have := HCS.out; omega)).mono ?_
    rintro e x2 ⟨rfl, hb2⟩
    try dsimp only
    have HSB := Lib.hid (HSB.out.trans (hb2.mono HSB.out.size))
    have HC := Lib.hid (HC.out.below hb2 HC.out.lt)
    clear hb2
    refine hK.out _ _ HSB.out (fun hHeld => ?_)
    try simp only [Act.put, List.setIfInBounds_toArray, List.set_cons_zero, List.set_cons_succ, List.getElem_toArray, List.getElem_cons_succ, List.getElem_cons_zero]
    refine take_at (some 31) (i := 14) (v := ?_) rfl rfl (by kernel_rfl) (by kernel_rfl) (by kernel_rfl) (fun _ _ _ h => h) (Or.inl ⟨by kernel_rfl, ?_⟩) hHeld ?_
    rotate_left
    · intro wz hSw; go_simp; try (with_reducible rfl)
    try simp only [Act.put, List.setIfInBounds_toArray, List.set_cons_zero, List.set_cons_succ, List.getElem_toArray, List.getElem_cons_succ, List.getElem_cons_zero]
    have c0 := HC.out.cell 0; have c1 := HC.out.cell 1; have c2 := HC.out.cell 2; have c3 := HC.out.cell 3; have i0 := HC.out.frozen 0; have i1 := HC.out.frozen 1; have i2 := HC.out.frozen 2; have i3 := HC.out.frozen 3
    simp only [List.getElem?_toArray, List.getElem?_cons_zero, List.getElem?_cons_succ] at c0 c1 c2 c3
    refine wpAnyH_ready (rs := [16]) (by kernel_rfl) (by simp) (AllReadyH.cons rfl (fun K hK => ?_) AllReadyH.nil)
    rw [if_pos (by kernel_rfl)]
    go_simp
    clear c0 c1 c2 c3 i0 i1 i2 i3
    refine hK.out _ _ ((((HSB.out.setCell HGL.out _).setCell HGL.out _).setCell HGL.out _).setCell HGL.out _) (fun hHeld => ?_)
    try simp only [Act.put, List.setIfInBounds_toArray, List.set_cons_zero, List.set_cons_succ, List.getElem_toArray, List.getElem_cons_succ, List.getElem_cons_zero]
    refine wpAnyH_done (by kernel_rfl) ?_ _
    have kU := (((HC.out.set 0 (.pointer (some ⟨v, 0, none⟩))).set 1 (.string xa)).set 2 (.string xb)).set 3 (.string cn)
    simp only [List.setIfInBounds_toArray, List.set_cons_zero, List.set_cons_succ] at kU
    refine gen_qS (fun y => Bk y G 166 #[.pointer (some ⟨v, 0, none⟩), .string xa, .string xb, .string cn] ∧ Below w5.heap.size w5 y) ⟨kU, hHeld⟩ (fun y hy => ?_)
    have HY := Lib.hid hy.1
    have HYB := Lib.hid hy.2
    clear hy kU hHeld HC HSB
    have HT6 := Lib.hid (HT.out.on HYB.out)
    have HGN := Lib.hid (show g + 1 + 1 + 1 < G from by have h1 := HT.out.s.lt; have h2 := HGL.out; omega)
    go_upto_region 4 with fail
    try simp only [List.cons_append, List.nil_append]
    try simp only [List.cons_append, List.nil_append]
    refine wp_region_held_drew (S := fun wz => Bk wz G 166 #[.pointer (some ⟨v, 0, none⟩), .string xa, .string xb, .string cn]) (by kernel_rfl) (HY.out.drew) (fun hHeld => ?_)
    obtain ⟨yd, hyd⟩ : ∃ yd, y.drew = yd := ⟨_, rfl⟩
    have HT7 := Lib.hid (HT6.out.on (Below.refl _ _).drew)
    have HX7 := Lib.hid hHeld
    rw [hyd] at HT7 HX7 hHeld ⊢
    clear hyd
    refine take_at (some 32) (i := 0) (v := ?_) rfl rfl (by kernel_rfl) (by kernel_rfl) (by kernel_rfl) (fun _ _ _ h => h) (Or.inl ⟨by kernel_rfl, ?_⟩) hHeld ?_
    rotate_left
    · intro wz hSw; have c0 : wz.cell? ⟨G, 0, none⟩ = some (.pointer (some ⟨v, 0, none⟩)) := hSw.cell 0; have c1 : wz.cell? ⟨G, 1, none⟩ = some (.string xa) := hSw.cell 1; have c2 : wz.cell? ⟨G, 2, none⟩ = some (.string xb) := hSw.cell 2; have c3 : wz.cell? ⟨G, 3, none⟩ = some (.string cn) := hSw.cell 3; go_simp; try (with_reducible rfl)
    try simp only [Act.put, List.setIfInBounds_toArray, List.set_cons_zero, List.set_cons_succ, List.getElem_toArray, List.getElem_cons_succ, List.getElem_cons_zero]
    refine take_at (some 33) (i := 1) (v := ?_) rfl rfl (by kernel_rfl) (by kernel_rfl) (by kernel_rfl) (fun _ _ _ h => h) (Or.inl ⟨by kernel_rfl, ?_⟩) hHeld ?_
    rotate_left
    · intro wz hSw; have c0 : wz.cell? ⟨G, 0, none⟩ = some (.pointer (some ⟨v, 0, none⟩)) := hSw.cell 0; have c1 : wz.cell? ⟨G, 1, none⟩ = some (.string xa) := hSw.cell 1; have c2 : wz.cell? ⟨G, 2, none⟩ = some (.string xb) := hSw.cell 2; have c3 : wz.cell? ⟨G, 3, none⟩ = some (.string cn) := hSw.cell 3; go_simp; try (with_reducible rfl)
    try simp only [Act.put, List.setIfInBounds_toArray, List.set_cons_zero, List.set_cons_succ, List.getElem_toArray, List.getElem_cons_succ, List.getElem_cons_zero]
    refine take_at (some 34) (i := 2) (v := ?_) rfl rfl (by kernel_rfl) (by kernel_rfl) (by kernel_rfl) (fun _ _ _ h => h) (Or.inl ⟨by kernel_rfl, ?_⟩) hHeld ?_
    rotate_left
    · intro wz hSw; have c0 : wz.cell? ⟨G, 0, none⟩ = some (.pointer (some ⟨v, 0, none⟩)) := hSw.cell 0; have c1 : wz.cell? ⟨G, 1, none⟩ = some (.string xa) := hSw.cell 1; have c2 : wz.cell? ⟨G, 2, none⟩ = some (.string xb) := hSw.cell 2; have c3 : wz.cell? ⟨G, 3, none⟩ = some (.string cn) := hSw.cell 3; go_simp; try (with_reducible rfl)
    try simp only [Act.put, List.setIfInBounds_toArray, List.set_cons_zero, List.set_cons_succ, List.getElem_toArray, List.getElem_cons_succ, List.getElem_cons_zero]
    refine take_at (some 35) (i := 3) (v := ?_) rfl rfl (by kernel_rfl) (by kernel_rfl) (by kernel_rfl) (fun _ _ _ h => h) (Or.inl ⟨by kernel_rfl, ?_⟩) hHeld ?_
    rotate_left
    · intro wz hSw; have c0 : wz.cell? ⟨G, 0, none⟩ = some (.pointer (some ⟨v, 0, none⟩)) := hSw.cell 0; have c1 : wz.cell? ⟨G, 1, none⟩ = some (.string xa) := hSw.cell 1; have c2 : wz.cell? ⟨G, 2, none⟩ = some (.string xb) := hSw.cell 2; have c3 : wz.cell? ⟨G, 3, none⟩ = some (.string cn) := hSw.cell 3; go_simp; try (with_reducible rfl)
    try simp only [Act.put, List.setIfInBounds_toArray, List.set_cons_zero, List.set_cons_succ, List.getElem_toArray, List.getElem_cons_succ, List.getElem_cons_zero]
    refine take_at (some 36) (i := 4) (v := ?_) rfl rfl (by kernel_rfl) (by kernel_rfl) (by kernel_rfl) (fun _ _ _ h => h) (Or.inl ⟨by kernel_rfl, ?_⟩) hHeld ?_
    rotate_left
    · intro wz hSw; have c0 : wz.cell? ⟨G, 0, none⟩ = some (.pointer (some ⟨v, 0, none⟩)) := hSw.cell 0; have c1 : wz.cell? ⟨G, 1, none⟩ = some (.string xa) := hSw.cell 1; have c2 : wz.cell? ⟨G, 2, none⟩ = some (.string xb) := hSw.cell 2; have c3 : wz.cell? ⟨G, 3, none⟩ = some (.string cn) := hSw.cell 3; go_simp; try (with_reducible rfl)
    try simp only [Act.put, List.setIfInBounds_toArray, List.set_cons_zero, List.set_cons_succ, List.getElem_toArray, List.getElem_cons_succ, List.getElem_cons_zero]
    refine take_at (some 37) (i := 5) (v := ?_) rfl rfl (by kernel_rfl) (by kernel_rfl) (by kernel_rfl) (fun _ _ _ h => h) (Or.inl ⟨by kernel_rfl, ?_⟩) hHeld ?_
    rotate_left
    · intro wz hSw; have c0 : wz.cell? ⟨G, 0, none⟩ = some (.pointer (some ⟨v, 0, none⟩)) := hSw.cell 0; have c1 : wz.cell? ⟨G, 1, none⟩ = some (.string xa) := hSw.cell 1; have c2 : wz.cell? ⟨G, 2, none⟩ = some (.string xb) := hSw.cell 2; have c3 : wz.cell? ⟨G, 3, none⟩ = some (.string cn) := hSw.cell 3; go_simp; try (with_reducible rfl)
    try simp only [Act.put, List.setIfInBounds_toArray, List.set_cons_zero, List.set_cons_succ, List.getElem_toArray, List.getElem_cons_succ, List.getElem_cons_zero]
    have z0 : yd.cell? ⟨(g + 1 + 1), 0, none⟩ = some (.int .i64 0) := HT7.out.m.cell 0
    have z1 : yd.cell? ⟨(g + 1 + 1), 1, none⟩ = some (.string ⟨#[]⟩) := HT7.out.m.cell 1
    have z2 : yd.cell? ⟨(g + 1 + 1), 2, none⟩ = some (.string ⟨#[]⟩) := HT7.out.m.cell 2
    have z3 : yd.cell? ⟨(g + 1 + 1), 3, none⟩ = some (.int .i64 0) := HT7.out.m.cell 3
    have z4 : yd.cell? ⟨(g + 1 + 1), 4, none⟩ = some (.int .i64 0) := HT7.out.m.cell 4
    have y0 : yd.cell? ⟨(g + 1 + 1) + 1, 0, none⟩ = some (.nilFunc) := HT7.out.s.cell 0
    have y1 : yd.cell? ⟨(g + 1 + 1) + 1, 1, none⟩ = some (.string ⟨#[]⟩) := HT7.out.s.cell 1
    have f0 := HT7.out.m.frozen 0
    have f1 := HT7.out.m.frozen 1
    have f2 := HT7.out.m.frozen 2
    have f3 := HT7.out.m.frozen 3
    have f4 := HT7.out.m.frozen 4
    have d0 := HT7.out.s.frozen 0
    have d1 := HT7.out.s.frozen 1
    refine wpAnyH_ready (rs := [6]) (by kernel_rfl) (by simp) (AllReadyH.cons rfl (fun K hK => ?_) AllReadyH.nil)
    rw [if_pos (by kernel_rfl)]
    go_simp
    clear z0 z1 z2 z3 z4 y0 y1 f0 f1 f2 f3 f4 d0 d1
    have HT8 := Lib.hid (show Two g (g + 1 + 1) w (((((yd.setCell ⟨(g + 1 + 1), 0, none⟩ (.int .i64 2)).setCell ⟨(g + 1 + 1), 1, none⟩ (.string cn)).setCell ⟨(g + 1 + 1), 2, none⟩ (.string ⟨#[]⟩)).setCell ⟨(g + 1 + 1), 3, none⟩ (.int .i64 0)).setCell ⟨(g + 1 + 1), 4, none⟩ (.int .i64 0)) #[.int .i64 2, .string cn, .string ⟨#[]⟩, .int .i64 0, .int .i64 0] #[.nilFunc, .string ⟨#[]⟩] from HT7.out.setM _ _ _ _ _)
    have HX8 := Lib.hid (show Bk (((((yd.setCell ⟨(g + 1 + 1), 0, none⟩ (.int .i64 2)).setCell ⟨(g + 1 + 1), 1, none⟩ (.string cn)).setCell ⟨(g + 1 + 1), 2, none⟩ (.string ⟨#[]⟩)).setCell ⟨(g + 1 + 1), 3, none⟩ (.int .i64 0)).setCell ⟨(g + 1 + 1), 4, none⟩ (.int .i64 0)) G 166 #[.pointer (some ⟨v, 0, none⟩), .string xa, .string xb, .string cn] from HX7.out.far5 (by have h1 := HGN.out; omega) _ _ _ _ _)
    refine hK.out _ _ HX8.out (fun hHeld => ?_)
    try simp only [Act.put, List.setIfInBounds_toArray, List.set_cons_zero, List.set_cons_succ, List.getElem_toArray, List.getElem_cons_succ, List.getElem_cons_zero]
    obtain ⟨ye, hye⟩ : ∃ ye, (((((yd.setCell ⟨(g + 1 + 1), 0, none⟩ (.int .i64 2)).setCell ⟨(g + 1 + 1), 1, none⟩ (.string cn)).setCell ⟨(g + 1 + 1), 2, none⟩ (.string ⟨#[]⟩)).setCell ⟨(g + 1 + 1), 3, none⟩ (.int .i64 0)).setCell ⟨(g + 1 + 1), 4, none⟩ (.int .i64 0)) = ye := ⟨_, rfl⟩
    rw [hye] at HT8 HX8 hHeld ⊢
    clear hye HT7 HX7
    have y0 : ye.cell? ⟨g + 1 + 1 + 1, 0, none⟩ = some (.nilFunc) := HT8.out.s.cell 0
    have y1 : ye.cell? ⟨g + 1 + 1 + 1, 1, none⟩ = some (.string ⟨#[]⟩) := HT8.out.s.cell 1
    have d0 := HT8.out.s.frozen 0
    have d1 := HT8.out.s.frozen 1
    refine wpAnyH_ready (rs := [7]) (by kernel_rfl) (by simp) (AllReadyH.cons rfl (fun K hK => ?_) AllReadyH.nil)
    rw [if_pos (by kernel_rfl)]
    go_simp
    clear y0 y1 d0 d1
    have HT9 := Lib.hid (show Two g (g + 1 + 1) w ((ye.setCell ⟨(g + 1 + 1 + 1), 0, none⟩ (.func (.func 103) #[.agg #[.pointer (some ⟨v, 0, none⟩), .string xa, .string xb, .string cn]] #[])).setCell ⟨(g + 1 + 1 + 1), 1, none⟩ (.string ⟨#[]⟩)) #[.int .i64 2, .string cn, .string ⟨#[]⟩, .int .i64 0, .int .i64 0] #[.func (.func 103) #[.agg #[.pointer (some ⟨v, 0, none⟩), .string xa, .string xb, .string cn]] #[], .string ⟨#[]⟩] from HT8.out.setS _ _)
    refine hK.out _ _ (HX8.out.far2 (by have h1 := HGN.out; omega) _ _) (fun hHeld => ?_)
    try simp only [Act.put, List.setIfInBounds_toArray, List.set_cons_zero, List.set_cons_succ, List.getElem_toArray, List.getElem_cons_succ, List.getElem_cons_zero]
    refine wpAnyH_done (by kernel_rfl) ?_ _
    refine gen_qS (fun y => Two g (g + 1 + 1) w y #[.int .i64 2, .string cn, .string ⟨#[]⟩, .int .i64 0, .int .i64 0] #[.func (.func 103) #[.agg #[.pointer (some ⟨v, 0, none⟩), .string xa, .string xb, .string cn]] #[], .string ⟨#[]⟩]) HT9.out (fun yz HU => ?_)
    clear hHeld HT8 HX8 HT9
    have HUH := Lib.hid HU
    clear HU
    go_wp2
    have HU := HUH.out
    refine bodyPost_ret (v := .tuple #[.agg #[.int .i64 2, .string cn, .string ⟨#[]⟩, .int .i64 0, .int .i64 0], .agg #[.func (.func 103) #[.agg #[.pointer (some ⟨v, 0, none⟩), .string xa, .string xb, .string cn]] #[], .string ⟨#[]⟩]]) ?_ rfl ⟨rfl, by first | exact HU.l | (rw [HG.out]; exact HU.l)⟩
    have p0 := HU.m.cell 0; have p1 := HU.m.cell 1; have p2 := HU.m.cell 2; have p3 := HU.m.cell 3; have p4 := HU.m.cell 4
    have q0 := HU.s.cell 0; have q1 := HU.s.cell 1
    simp [results, Tryz.f61, go_sem, p0, p1, p2, p3, p4, q0, q1]

set_option maxRecDepth 100000 in
set_option maxHeartbeats 4000000 in
theorem proof_no (v : Nat) (a b n : ByteArray) (xk xn xm now : Int) (xa xb nn : ByteArray) (w : World) (hk : ¬ xk = 3) :
    Calls Tryz.prog 103 #[.agg #[.pointer (some ⟨v, 0, none⟩), .string a, .string b, .string n], .agg #[.int .i64 xk, .string xa, .string xb, .int .i64 xn, .int .i64 xm], .int .i64 now, .string nn] w fun e u' => e = .returned (.tuple #[.agg #[.int .i64 5, .string ⟨#[]⟩, .string ⟨#[]⟩, .int .i64 1, .int .i64 0], .agg #[.nilFunc, .string ⟨#[]⟩]]) ∧ Below w.heap.size w u' := by
  have hk2 : (xk != 3) = true := by rw [bne_iff_ne]; exact hk
  obtain ⟨w3, hw3⟩ : ∃ w3, (w.alloc (.cells #[.pointer (some ⟨v, 0, none⟩), .string a, .string b, .string n] 166)).alloc (.cells #[.int .i64 xk, .string xa, .string xb, .int .i64 xn, .int .i64 xm] 55) = w3 := ⟨_, rfl⟩
  have HR := Lib.hid (show Bk w3 w.heap.size 166 #[.pointer (some ⟨v, 0, none⟩), .string a, .string b, .string n] by rw [← hw3]; exact (Bk.new w _ _).alloc _)
  have HM := Lib.hid (show Bk w3 (w.heap.size + 1) 55 #[.int .i64 xk, .string xa, .string xb, .int .i64 xn, .int .i64 xm] by
    rw [← hw3]
    have := Bk.new (w.alloc (.cells #[.pointer (some ⟨v, 0, none⟩), .string a, .string b, .string n] 166)) 55 #[.int .i64 xk, .string xa, .string xb, .int .i64 xn, .int .i64 xm]
    rwa [World.size_alloc] at this)
  have HL := Lib.hid (show Below w.heap.size w w3 by rw [← hw3]; exact ((Below.refl _ _).alloc (Nat.le_refl _) _).alloc (by rw [World.size_alloc]; omega) _)
  have hsz : w3.heap.size = w.heap.size + 1 + 1 := by rw [← hw3, World.size_alloc, World.size_alloc]
  obtain ⟨w5, hw5⟩ : ∃ w5, (w3.alloc (.cells mz 55)).alloc (.cells #[.nilFunc, .string ⟨#[]⟩] 114) = w5 := ⟨_, rfl⟩
  have HT := Lib.hid (show Two w.heap.size (w.heap.size + 1 + 1) w w5 mz #[.nilFunc, .string ⟨#[]⟩] by rw [← hw5, ← hsz]; exact Two.new w w3 _ HL.out HL.out.size _)
  have HB35 := Lib.hid (show Below w3.heap.size w3 w5 by rw [← hw5]; exact ((Below.refl _ _).alloc (Nat.le_refl _) _).alloc (by rw [World.size_alloc]; omega) _)
  have HR5 := Lib.hid (HR.out.below HB35.out HR.out.lt)
  have HM5 := Lib.hid (HM.out.below HB35.out HM.out.lt)
  go_enter Tryz.func103, Tryz.ntmps103
  go_upto_region 1 with fail
  try rw [hw3]
  try rw [hw5]
  clear hw3 hw5 HR HM HL HB35
  obtain ⟨g, hg⟩ : ∃ g, w.heap.size = g := ⟨_, rfl⟩
  have HG := Lib.hid hg
  simp only [hg] at HT HR5 HM5 ⊢
  clear hsz hg
  have m0 : w5.cell? ⟨g + 1, 0, none⟩ = some (.int .i64 xk) := HM5.out.cell 0
  have m1 : w5.cell? ⟨g + 1, 1, none⟩ = some (.string xa) := HM5.out.cell 1
  have m2 : w5.cell? ⟨g + 1, 2, none⟩ = some (.string xb) := HM5.out.cell 2
  have m3 : w5.cell? ⟨g + 1, 3, none⟩ = some (.int .i64 xn) := HM5.out.cell 3
  have m4 : w5.cell? ⟨g + 1, 4, none⟩ = some (.int .i64 xm) := HM5.out.cell 4
  go_wp2_with (go_at_call 101; (with_reducible refine (refused_ok 1 _).mono ?_); rintro e u6 ⟨rfl, hb⟩; have HT6 := Lib.hid (HT.out.on hb); clear hb; have z0 : u6.cell? ⟨(g + 1 + 1), 0, none⟩ = some (.int .i64 0) := HT6.out.m.cell 0; have z1 : u6.cell? ⟨(g + 1 + 1), 1, none⟩ = some (.string ⟨#[]⟩) := HT6.out.m.cell 1; have z2 : u6.cell? ⟨(g + 1 + 1), 2, none⟩ = some (.string ⟨#[]⟩) := HT6.out.m.cell 2; have z3 : u6.cell? ⟨(g + 1 + 1), 3, none⟩ = some (.int .i64 0) := HT6.out.m.cell 3; have z4 : u6.cell? ⟨(g + 1 + 1), 4, none⟩ = some (.int .i64 0) := HT6.out.m.cell 4; have y0 : u6.cell? ⟨(g + 1 + 1) + 1, 0, none⟩ = some (.nilFunc) := HT6.out.s.cell 0; have y1 : u6.cell? ⟨(g + 1 + 1) + 1, 1, none⟩ = some (.string ⟨#[]⟩) := HT6.out.s.cell 1; have f0 := HT6.out.m.frozen 0; have f1 := HT6.out.m.frozen 1; have f2 := HT6.out.m.frozen 2; have f3 := HT6.out.m.frozen 3; have f4 := HT6.out.m.frozen 4; have d0 := HT6.out.s.frozen 0; have d1 := HT6.out.s.frozen 1)
  clear m0 m1 m2 m3 m4 hk hk2
  have HU := HT6.out.set (.int .i64 5) (.string ⟨#[]⟩) (.string ⟨#[]⟩) (.int .i64 1) (.int .i64 0) (.nilFunc) (.string ⟨#[]⟩)
  refine bodyPost_ret (v := .tuple #[.agg #[.int .i64 5, .string ⟨#[]⟩, .string ⟨#[]⟩, .int .i64 1, .int .i64 0], .agg #[.nilFunc, .string ⟨#[]⟩]]) ?_ rfl ⟨rfl, by first | exact HU.l | (rw [HG.out]; exact HU.l)⟩
  have p0 := HU.m.cell 0; have p1 := HU.m.cell 1; have p2 := HU.m.cell 2; have p3 := HU.m.cell 3; have p4 := HU.m.cell 4
  have q0 := HU.s.cell 0; have q1 := HU.s.cell 1
  simp [results, Tryz.f103, go_sem, p0, p1, p2, p3, p4, q0, q1]

set_option maxRecDepth 100000 in
set_option maxHeartbeats 4000000 in
theorem proof_bad (v mb : Nat) (c : List Tn) (gr : Rev) (a b n : ByteArray) (xn xm now : Int) (xa xb nn : ByteArray) (w : World) (hv : Va w v mb c gr) (hG : Gl w) (hn : n.size ≤ 140737488355328) (ha : xa.size ≤ 1099511627776) (E : Int) (hE : ckF c gr a b n xa now = E) (h0 : ¬ E = 0) :
    Calls Tryz.prog 103 #[.agg #[.pointer (some ⟨v, 0, none⟩), .string a, .string b, .string n], .agg #[.int .i64 3, .string xa, .string xb, .int .i64 xn, .int .i64 xm], .int .i64 now, .string nn] w fun e u' => e = .returned (.tuple #[.agg #[.int .i64 5, .string ⟨#[]⟩, .string ⟨#[]⟩, .int .i64 E, .int .i64 0], .agg #[.nilFunc, .string ⟨#[]⟩]]) ∧ Below w.heap.size w u' := by
  have HCK := Lib.hid (fun u (hu : Below w.heap.size w u) => vcheck_ok u v mb c gr (hv.on hu) (hG.below hu hG.size) a b n xa now hn ha)
  have hE2 : ckI (gdB (tkN c a b) (inR gr a b) now) (wnB (tkN c a b) a b n) xa = E := hE
  simp only [hE2] at HCK
  have h2 : (E != 0) = true := by rw [bne_iff_ne]; exact h0
  clear hE hE2
  clear hv hG hn ha
  obtain ⟨w3, hw3⟩ : ∃ w3, (w.alloc (.cells #[.pointer (some ⟨v, 0, none⟩), .string a, .string b, .string n] 166)).alloc (.cells #[.int .i64 3, .string xa, .string xb, .int .i64 xn, .int .i64 xm] 55) = w3 := ⟨_, rfl⟩
  have HR := Lib.hid (show Bk w3 w.heap.size 166 #[.pointer (some ⟨v, 0, none⟩), .string a, .string b, .string n] by rw [← hw3]; exact (Bk.new w _ _).alloc _)
  have HM := Lib.hid (show Bk w3 (w.heap.size + 1) 55 #[.int .i64 3, .string xa, .string xb, .int .i64 xn, .int .i64 xm] by
    rw [← hw3]
    have := Bk.new (w.alloc (.cells #[.pointer (some ⟨v, 0, none⟩), .string a, .string b, .string n] 166)) 55 #[.int .i64 3, .string xa, .string xb, .int .i64 xn, .int .i64 xm]
    rwa [World.size_alloc] at this)
  have HL := Lib.hid (show Below w.heap.size w w3 by rw [← hw3]; exact ((Below.refl _ _).alloc (Nat.le_refl _) _).alloc (by rw [World.size_alloc]; omega) _)
  have hsz : w3.heap.size = w.heap.size + 1 + 1 := by rw [← hw3, World.size_alloc, World.size_alloc]
  obtain ⟨w5, hw5⟩ : ∃ w5, (w3.alloc (.cells mz 55)).alloc (.cells #[.nilFunc, .string ⟨#[]⟩] 114) = w5 := ⟨_, rfl⟩
  have HT := Lib.hid (show Two w.heap.size (w.heap.size + 1 + 1) w w5 mz #[.nilFunc, .string ⟨#[]⟩] by rw [← hw5, ← hsz]; exact Two.new w w3 _ HL.out HL.out.size _)
  have HB35 := Lib.hid (show Below w3.heap.size w3 w5 by rw [← hw5]; exact ((Below.refl _ _).alloc (Nat.le_refl _) _).alloc (by rw [World.size_alloc]; omega) _)
  have HR5 := Lib.hid (HR.out.below HB35.out HR.out.lt)
  have HM5 := Lib.hid (HM.out.below HB35.out HM.out.lt)
  go_enter Tryz.func103, Tryz.ntmps103
  go_upto_region 1 with fail
  try rw [hw3]
  try rw [hw5]
  clear hw3 hw5 HR HM HL HB35
  obtain ⟨g, hg⟩ : ∃ g, w.heap.size = g := ⟨_, rfl⟩
  have HG := Lib.hid hg
  simp only [hg] at HT HR5 HM5 ⊢
  clear hsz hg
  have m0 : w5.cell? ⟨g + 1, 0, none⟩ = some (.int .i64 3) := HM5.out.cell 0
  have m1 : w5.cell? ⟨g + 1, 1, none⟩ = some (.string xa) := HM5.out.cell 1
  have m2 : w5.cell? ⟨g + 1, 2, none⟩ = some (.string xb) := HM5.out.cell 2
  have m3 : w5.cell? ⟨g + 1, 3, none⟩ = some (.int .i64 xn) := HM5.out.cell 3
  have m4 : w5.cell? ⟨g + 1, 4, none⟩ = some (.int .i64 xm) := HM5.out.cell 4
  have r0 : w5.cell? ⟨g, 0, none⟩ = some (.pointer (some ⟨v, 0, none⟩)) := HR5.out.cell 0
  have r1 : w5.cell? ⟨g, 1, none⟩ = some (.string a) := HR5.out.cell 1
  have r2 : w5.cell? ⟨g, 2, none⟩ = some (.string b) := HR5.out.cell 2
  have r3 : w5.cell? ⟨g, 3, none⟩ = some (.string n) := HR5.out.cell 3
  go_wp2_with (first
    | (go_at_call 125; (with_reducible refine (HCK.out _ (by have h1 := HT.out.l; rw [← HG.out] at h1; exact h1)).mono ?_); rintro e u6 ⟨rfl, hb⟩; have HT6 := Lib.hid (HT.out.on hb); have HR6 := Lib.hid (HR5.out.below hb HR5.out.lt); clear hb; clear m0 m1 m2 m3 m4 r0 r1 r2 r3)
    | (go_at_call 101; (with_reducible refine (refused_ok E _).mono ?_); rintro e u7 ⟨rfl, hb⟩; have HT7 := Lib.hid (HT6.out.on hb); clear hb; have z0 : u7.cell? ⟨(g + 1 + 1), 0, none⟩ = some (.int .i64 0) := HT7.out.m.cell 0; have z1 : u7.cell? ⟨(g + 1 + 1), 1, none⟩ = some (.string ⟨#[]⟩) := HT7.out.m.cell 1; have z2 : u7.cell? ⟨(g + 1 + 1), 2, none⟩ = some (.string ⟨#[]⟩) := HT7.out.m.cell 2; have z3 : u7.cell? ⟨(g + 1 + 1), 3, none⟩ = some (.int .i64 0) := HT7.out.m.cell 3; have z4 : u7.cell? ⟨(g + 1 + 1), 4, none⟩ = some (.int .i64 0) := HT7.out.m.cell 4; have y0 : u7.cell? ⟨(g + 1 + 1) + 1, 0, none⟩ = some (.nilFunc) := HT7.out.s.cell 0; have y1 : u7.cell? ⟨(g + 1 + 1) + 1, 1, none⟩ = some (.string ⟨#[]⟩) := HT7.out.s.cell 1; have f0 := HT7.out.m.frozen 0; have f1 := HT7.out.m.frozen 1; have f2 := HT7.out.m.frozen 2; have f3 := HT7.out.m.frozen 3; have f4 := HT7.out.m.frozen 4; have d0 := HT7.out.s.frozen 0; have d1 := HT7.out.s.frozen 1))
  have HU := HT7.out.set (.int .i64 5) (.string ⟨#[]⟩) (.string ⟨#[]⟩) (.int .i64 E) (.int .i64 0) (.nilFunc) (.string ⟨#[]⟩)
  refine bodyPost_ret (v := .tuple #[.agg #[.int .i64 5, .string ⟨#[]⟩, .string ⟨#[]⟩, .int .i64 E, .int .i64 0], .agg #[.nilFunc, .string ⟨#[]⟩]]) ?_ rfl ⟨rfl, by first | exact HU.l | (rw [HG.out]; exact HU.l)⟩
  have p0 := HU.m.cell 0; have p1 := HU.m.cell 1; have p2 := HU.m.cell 2; have p3 := HU.m.cell 3; have p4 := HU.m.cell 4
  have q0 := HU.s.cell 0; have q1 := HU.s.cell 1
  simp [results, Tryz.f103, go_sem, p0, p1, p2, p3, p4, q0, q1]

set_option maxRecDepth 100000 in
set_option maxHeartbeats 4000000 in
theorem proof_yes (v mb : Nat) (c : List Tn) (gr : Rev) (a b n : ByteArray) (xn xm now : Int) (xa xb nn : ByteArray) (w : World) (hv : Va w v mb c gr) (hG : Gl w) (hn : n.size ≤ 140737488355328) (ha : xa.size ≤ 1099511627776) (h0 : ckF c gr a b n xa now = 0) :
    Calls Tryz.prog 103 #[.agg #[.pointer (some ⟨v, 0, none⟩), .string a, .string b, .string n], .agg #[.int .i64 3, .string xa, .string xb, .int .i64 xn, .int .i64 xm], .int .i64 now, .string nn] w fun e u' => e = .returned (.tuple #[.agg #[.int .i64 4, .string ⟨#[]⟩, .string ⟨#[]⟩, .int .i64 0, .int .i64 0], .agg #[.nilFunc, .string a]]) ∧ Below w.heap.size w u' := by
  have HCK := Lib.hid (fun u (hu : Below w.heap.size w u) => vcheck_ok u v mb c gr (hv.on hu) (hG.below hu hG.size) a b n xa now hn ha)
  have hE2 : ckI (gdB (tkN c a b) (inR gr a b) now) (wnB (tkN c a b) a b n) xa = 0 := h0
  simp only [hE2] at HCK
  clear h0 hE2
  clear hv hG hn ha
  obtain ⟨w3, hw3⟩ : ∃ w3, (w.alloc (.cells #[.pointer (some ⟨v, 0, none⟩), .string a, .string b, .string n] 166)).alloc (.cells #[.int .i64 3, .string xa, .string xb, .int .i64 xn, .int .i64 xm] 55) = w3 := ⟨_, rfl⟩
  have HR := Lib.hid (show Bk w3 w.heap.size 166 #[.pointer (some ⟨v, 0, none⟩), .string a, .string b, .string n] by rw [← hw3]; exact (Bk.new w _ _).alloc _)
  have HM := Lib.hid (show Bk w3 (w.heap.size + 1) 55 #[.int .i64 3, .string xa, .string xb, .int .i64 xn, .int .i64 xm] by
    rw [← hw3]
    have := Bk.new (w.alloc (.cells #[.pointer (some ⟨v, 0, none⟩), .string a, .string b, .string n] 166)) 55 #[.int .i64 3, .string xa, .string xb, .int .i64 xn, .int .i64 xm]
    rwa [World.size_alloc] at this)
  have HL := Lib.hid (show Below w.heap.size w w3 by rw [← hw3]; exact ((Below.refl _ _).alloc (Nat.le_refl _) _).alloc (by rw [World.size_alloc]; omega) _)
  have hsz : w3.heap.size = w.heap.size + 1 + 1 := by rw [← hw3, World.size_alloc, World.size_alloc]
  obtain ⟨w5, hw5⟩ : ∃ w5, (w3.alloc (.cells mz 55)).alloc (.cells #[.nilFunc, .string ⟨#[]⟩] 114) = w5 := ⟨_, rfl⟩
  have HT := Lib.hid (show Two w.heap.size (w.heap.size + 1 + 1) w w5 mz #[.nilFunc, .string ⟨#[]⟩] by rw [← hw5, ← hsz]; exact Two.new w w3 _ HL.out HL.out.size _)
  have HB35 := Lib.hid (show Below w3.heap.size w3 w5 by rw [← hw5]; exact ((Below.refl _ _).alloc (Nat.le_refl _) _).alloc (by rw [World.size_alloc]; omega) _)
  have HR5 := Lib.hid (HR.out.below HB35.out HR.out.lt)
  have HM5 := Lib.hid (HM.out.below HB35.out HM.out.lt)
  go_enter Tryz.func103, Tryz.ntmps103
  go_upto_region 1 with fail
  try rw [hw3]
  try rw [hw5]
  clear hw3 hw5 HR HM HL HB35
  obtain ⟨g, hg⟩ : ∃ g, w.heap.size = g := ⟨_, rfl⟩
  have HG := Lib.hid hg
  simp only [hg] at HT HR5 HM5 ⊢
  clear hsz hg
  have m0 : w5.cell? ⟨g + 1, 0, none⟩ = some (.int .i64 3) := HM5.out.cell 0
  have m1 : w5.cell? ⟨g + 1, 1, none⟩ = some (.string xa) := HM5.out.cell 1
  have m2 : w5.cell? ⟨g + 1, 2, none⟩ = some (.string xb) := HM5.out.cell 2
  have m3 : w5.cell? ⟨g + 1, 3, none⟩ = some (.int .i64 xn) := HM5.out.cell 3
  have m4 : w5.cell? ⟨g + 1, 4, none⟩ = some (.int .i64 xm) := HM5.out.cell 4
  have r0 : w5.cell? ⟨g, 0, none⟩ = some (.pointer (some ⟨v, 0, none⟩)) := HR5.out.cell 0
  have r1 : w5.cell? ⟨g, 1, none⟩ = some (.string a) := HR5.out.cell 1
  have r2 : w5.cell? ⟨g, 2, none⟩ = some (.string b) := HR5.out.cell 2
  have r3 : w5.cell? ⟨g, 3, none⟩ = some (.string n) := HR5.out.cell 3
  go_upto_region 6 with (go_at_call 125; (with_reducible refine (HCK.out _ (by have h1 := HT.out.l; rw [← HG.out] at h1; exact h1)).mono ?_); rintro e u6 ⟨rfl, hb⟩; have HT6 := Lib.hid (HT.out.on hb); have HR6 := Lib.hid (HR5.out.below hb HR5.out.lt); clear hb; clear m0 m1 m2 m3 m4 r0 r1 r2 r3)
  try simp only [List.cons_append, List.nil_append]
  try simp only [List.cons_append, List.nil_append]
  refine wp_region_held_drew (S := fun wz => Bk wz g 166 #[.pointer (some ⟨v, 0, none⟩), .string a, .string b, .string n]) (by kernel_rfl) (HR6.out.drew) (fun hHeld => ?_)
  obtain ⟨yd, hyd⟩ : ∃ yd, u6.drew = yd := ⟨_, rfl⟩
  have HT7 := Lib.hid (HT6.out.on (Below.refl _ _).drew)
  have HX7 := Lib.hid hHeld
  rw [hyd] at HT7 HX7 hHeld ⊢
  clear hyd
  refine take_at (some 35) (i := 0) (v := ?_) rfl rfl (by kernel_rfl) (by kernel_rfl) (by kernel_rfl) (fun _ _ _ h => h) (Or.inl ⟨by kernel_rfl, ?_⟩) hHeld ?_
  rotate_left
  · intro wz hSw; have c0 : wz.cell? ⟨g, 0, none⟩ = some (.pointer (some ⟨v, 0, none⟩)) := hSw.cell 0; have c1 : wz.cell? ⟨g, 1, none⟩ = some (.string a) := hSw.cell 1; have c2 : wz.cell? ⟨g, 2, none⟩ = some (.string b) := hSw.cell 2; have c3 : wz.cell? ⟨g, 3, none⟩ = some (.string n) := hSw.cell 3; go_simp; try (with_reducible rfl)
  try simp only [Act.put, List.setIfInBounds_toArray, List.set_cons_zero, List.set_cons_succ, List.getElem_toArray, List.getElem_cons_succ, List.getElem_cons_zero]
  refine take_at (some 36) (i := 1) (v := ?_) rfl rfl (by kernel_rfl) (by kernel_rfl) (by kernel_rfl) (fun _ _ _ h => h) (Or.inl ⟨by kernel_rfl, ?_⟩) hHeld ?_
  rotate_left
  · intro wz hSw; have c0 : wz.cell? ⟨g, 0, none⟩ = some (.pointer (some ⟨v, 0, none⟩)) := hSw.cell 0; have c1 : wz.cell? ⟨g, 1, none⟩ = some (.string a) := hSw.cell 1; have c2 : wz.cell? ⟨g, 2, none⟩ = some (.string b) := hSw.cell 2; have c3 : wz.cell? ⟨g, 3, none⟩ = some (.string n) := hSw.cell 3; go_simp; try (with_reducible rfl)
  try simp only [Act.put, List.setIfInBounds_toArray, List.set_cons_zero, List.set_cons_succ, List.getElem_toArray, List.getElem_cons_succ, List.getElem_cons_zero]
  refine take_at (some 37) (i := 2) (v := ?_) rfl rfl (by kernel_rfl) (by kernel_rfl) (by kernel_rfl) (fun _ _ _ h => h) (Or.inl ⟨by kernel_rfl, ?_⟩) hHeld ?_
  rotate_left
  · intro wz hSw; have c0 : wz.cell? ⟨g, 0, none⟩ = some (.pointer (some ⟨v, 0, none⟩)) := hSw.cell 0; have c1 : wz.cell? ⟨g, 1, none⟩ = some (.string a) := hSw.cell 1; have c2 : wz.cell? ⟨g, 2, none⟩ = some (.string b) := hSw.cell 2; have c3 : wz.cell? ⟨g, 3, none⟩ = some (.string n) := hSw.cell 3; go_simp; try (with_reducible rfl)
  try simp only [Act.put, List.setIfInBounds_toArray, List.set_cons_zero, List.set_cons_succ, List.getElem_toArray, List.getElem_cons_succ, List.getElem_cons_zero]
  refine take_at (some 38) (i := 3) (v := ?_) rfl rfl (by kernel_rfl) (by kernel_rfl) (by kernel_rfl) (fun _ _ _ h => h) (Or.inl ⟨by kernel_rfl, ?_⟩) hHeld ?_
  rotate_left
  · intro wz hSw; have c0 : wz.cell? ⟨g, 0, none⟩ = some (.pointer (some ⟨v, 0, none⟩)) := hSw.cell 0; have c1 : wz.cell? ⟨g, 1, none⟩ = some (.string a) := hSw.cell 1; have c2 : wz.cell? ⟨g, 2, none⟩ = some (.string b) := hSw.cell 2; have c3 : wz.cell? ⟨g, 3, none⟩ = some (.string n) := hSw.cell 3; go_simp; try (with_reducible rfl)
  try simp only [Act.put, List.setIfInBounds_toArray, List.set_cons_zero, List.set_cons_succ, List.getElem_toArray, List.getElem_cons_succ, List.getElem_cons_zero]
  have z0 : yd.cell? ⟨(g + 1 + 1), 0, none⟩ = some (.int .i64 0) := HT7.out.m.cell 0
  have z1 : yd.cell? ⟨(g + 1 + 1), 1, none⟩ = some (.string ⟨#[]⟩) := HT7.out.m.cell 1
  have z2 : yd.cell? ⟨(g + 1 + 1), 2, none⟩ = some (.string ⟨#[]⟩) := HT7.out.m.cell 2
  have z3 : yd.cell? ⟨(g + 1 + 1), 3, none⟩ = some (.int .i64 0) := HT7.out.m.cell 3
  have z4 : yd.cell? ⟨(g + 1 + 1), 4, none⟩ = some (.int .i64 0) := HT7.out.m.cell 4
  have y0 : yd.cell? ⟨(g + 1 + 1) + 1, 0, none⟩ = some (.nilFunc) := HT7.out.s.cell 0
  have y1 : yd.cell? ⟨(g + 1 + 1) + 1, 1, none⟩ = some (.string ⟨#[]⟩) := HT7.out.s.cell 1
  have f0 := HT7.out.m.frozen 0
  have f1 := HT7.out.m.frozen 1
  have f2 := HT7.out.m.frozen 2
  have f3 := HT7.out.m.frozen 3
  have f4 := HT7.out.m.frozen 4
  have d0 := HT7.out.s.frozen 0
  have d1 := HT7.out.s.frozen 1
  refine wpAnyH_ready (rs := [4]) (by kernel_rfl) (by simp) (AllReadyH.cons rfl (fun K hK => ?_) AllReadyH.nil)
  rw [if_pos (by kernel_rfl)]
  go_simp
  clear z0 z1 z2 z3 z4 y0 y1 f0 f1 f2 f3 f4 d0 d1
  have HT8 := Lib.hid (show Two g (g + 1 + 1) w (((((yd.setCell ⟨(g + 1 + 1), 0, none⟩ (.int .i64 4)).setCell ⟨(g + 1 + 1), 1, none⟩ (.string ⟨#[]⟩)).setCell ⟨(g + 1 + 1), 2, none⟩ (.string ⟨#[]⟩)).setCell ⟨(g + 1 + 1), 3, none⟩ (.int .i64 0)).setCell ⟨(g + 1 + 1), 4, none⟩ (.int .i64 0)) #[.int .i64 4, .string ⟨#[]⟩, .string ⟨#[]⟩, .int .i64 0, .int .i64 0] #[.nilFunc, .string ⟨#[]⟩] from HT7.out.setM _ _ _ _ _)
  have HX8 := Lib.hid (show Bk (((((yd.setCell ⟨(g + 1 + 1), 0, none⟩ (.int .i64 4)).setCell ⟨(g + 1 + 1), 1, none⟩ (.string ⟨#[]⟩)).setCell ⟨(g + 1 + 1), 2, none⟩ (.string ⟨#[]⟩)).setCell ⟨(g + 1 + 1), 3, none⟩ (.int .i64 0)).setCell ⟨(g + 1 + 1), 4, none⟩ (.int .i64 0)) g 166 #[.pointer (some ⟨v, 0, none⟩), .string a, .string b, .string n] from HX7.out.far5 (by omega) _ _ _ _ _)
  refine hK.out _ _ HX8.out (fun hHeld => ?_)
  try simp only [Act.put, List.setIfInBounds_toArray, List.set_cons_zero, List.set_cons_succ, List.getElem_toArray, List.getElem_cons_succ, List.getElem_cons_zero]
  obtain ⟨ye, hye⟩ : ∃ ye, (((((yd.setCell ⟨(g + 1 + 1), 0, none⟩ (.int .i64 4)).setCell ⟨(g + 1 + 1), 1, none⟩ (.string ⟨#[]⟩)).setCell ⟨(g + 1 + 1), 2, none⟩ (.string ⟨#[]⟩)).setCell ⟨(g + 1 + 1), 3, none⟩ (.int .i64 0)).setCell ⟨(g + 1 + 1), 4, none⟩ (.int .i64 0)) = ye := ⟨_, rfl⟩
  rw [hye] at HT8 HX8 hHeld ⊢
  clear hye HT7 HX7
  have y0 : ye.cell? ⟨g + 1 + 1 + 1, 0, none⟩ = some (.nilFunc) := HT8.out.s.cell 0
  have y1 : ye.cell? ⟨g + 1 + 1 + 1, 1, none⟩ = some (.string ⟨#[]⟩) := HT8.out.s.cell 1
  have d0 := HT8.out.s.frozen 0
  have d1 := HT8.out.s.frozen 1
  refine wpAnyH_ready (rs := [5]) (by kernel_rfl) (by simp) (AllReadyH.cons rfl (fun K hK => ?_) AllReadyH.nil)
  rw [if_pos (by kernel_rfl)]
  go_simp
  clear y0 y1 d0 d1
  have HT9 := Lib.hid (show Two g (g + 1 + 1) w ((ye.setCell ⟨(g + 1 + 1 + 1), 0, none⟩ (.nilFunc)).setCell ⟨(g + 1 + 1 + 1), 1, none⟩ (.string a)) #[.int .i64 4, .string ⟨#[]⟩, .string ⟨#[]⟩, .int .i64 0, .int .i64 0] #[.nilFunc, .string a] from HT8.out.setS _ _)
  refine hK.out _ _ (HX8.out.far2 (by omega) _ _) (fun hHeld => ?_)
  try simp only [Act.put, List.setIfInBounds_toArray, List.set_cons_zero, List.set_cons_succ, List.getElem_toArray, List.getElem_cons_succ, List.getElem_cons_zero]
  refine wpAnyH_done (by kernel_rfl) ?_ _
  refine gen_qS (fun y => Two g (g + 1 + 1) w y #[.int .i64 4, .string ⟨#[]⟩, .string ⟨#[]⟩, .int .i64 0, .int .i64 0] #[.nilFunc, .string a]) HT9.out (fun yz HU => ?_)
  clear hHeld HT8 HX8 HT9
  have HUH := Lib.hid HU
  clear HU
  go_wp2
  have HU := HUH.out
  refine bodyPost_ret (v := .tuple #[.agg #[.int .i64 4, .string ⟨#[]⟩, .string ⟨#[]⟩, .int .i64 0, .int .i64 0], .agg #[.nilFunc, .string a]]) ?_ rfl ⟨rfl, by first | exact HU.l | (rw [HG.out]; exact HU.l)⟩
  have p0 := HU.m.cell 0; have p1 := HU.m.cell 1; have p2 := HU.m.cell 2; have p3 := HU.m.cell 3; have p4 := HU.m.cell 4
  have q0 := HU.s.cell 0; have q1 := HU.s.cell 1
  simp [results, Tryz.f103, go_sem, p0, p1, p2, p3, p4, q0, q1]
end Go.Proofs.YtekobdmlgbffnaaGreatDoor
