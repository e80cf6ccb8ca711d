/- Hear: its contract. (Written by gen_sk3.py.) -/
import Derived.Test.YtekobdmlgbffnaaGreatDoorSk2
import Derived.Test.YtekobdmlgbffnaaGreatDoorG9
namespace Go.Proofs.YtekobdmlgbffnaaGreatDoor
set_option linter.unusedVariables false
set_option maxRecDepth 100000
set_option linter.unusedSimpArgs false
open Go.RowKit

theorem ke_far {L : List Nat} {w u : World} {p : Addr} (h : Ke L w u) (hg : w.heap.size ≤ p.block) (v : Value) : Ke L w (u.setCell p v) :=
  ⟨h.os, h.tape, h.output, by simpa [World.setCell] using h.size, fun k hk hn => (Below.heap_setCell _ _ _ _ (by omega)).trans (h.block k hk hn)⟩
theorem ke_set5 {L : List Nat} {w u : World} {g : Nat} (h : Ke L w u) (hg : w.heap.size ≤ g) (a b c d e : Value) : Ke L w (set5 u g a b c d e) :=
  ke_far (ke_far (ke_far (ke_far (ke_far h (p := ⟨g, 0, none⟩) hg a) (p := ⟨g, 1, none⟩) hg b) (p := ⟨g, 2, none⟩) hg c) (p := ⟨g, 3, none⟩) hg d) (p := ⟨g, 4, none⟩) hg e
/-- What Hear leaves, where it is not over: a step told of M and of what comes next. -/
def HrP (w : World) (sb : Nat) (M S : Array Value) (e : Ending) (u' : World) : Prop := e = .returned (.tuple #[.agg M, .bool true]) ∧ Bk u' sb 114 S ∧ Ke [sb] w u'
set_option maxRecDepth 100000 in
set_option maxHeartbeats 4000000 in
theorem hear_hello_no (sb : Nat) (r : Value) (xk xn xm now : Int) (xa xb nn : ByteArray) (w : World) (k' n' m' : Int) (a' b' who' : ByteArray) (hb : Bk w sb 114 #[.func (.func 61) #[r] #[], .string ⟨#[]⟩])
    (hf : ∀ u, Below w.heap.size w u → Calls Tryz.prog 61 #[r, .agg #[.int .i64 xk, .string xa, .string xb, .int .i64 xn, .int .i64 xm], .int .i64 now, .string nn] u fun e u' => e = .returned (.tuple #[.agg #[.int .i64 k', .string a', .string b', .int .i64 n', .int .i64 m'], .agg #[.nilFunc, .string who']]) ∧ Below u.heap.size u u') :
    Calls Tryz.prog 27 #[.pointer (some ⟨sb, 0, none⟩), .agg #[.int .i64 xk, .string xa, .string xb, .int .i64 xn, .int .i64 xm], .int .i64 now, .string nn] w (HrP w sb #[.int .i64 k', .string a', .string b', .int .i64 n', .int .i64 m'] #[.nilFunc, .string who']) := by
  have HF := Lib.hid hf
  obtain ⟨w3, hw3⟩ : ∃ w3, (w.alloc (.cells #[.int .i64 xk, .string xa, .string xb, .int .i64 xn, .int .i64 xm] 55)).alloc (.cells #[.int .i64 0, .string ⟨#[]⟩, .string ⟨#[]⟩, .int .i64 0, .int .i64 0] 55) = w3 := ⟨_, rfl⟩
  have HL := Lib.hid (show Below w.heap.size w w3 by rw [← hw3]; exact ((Below.refl _ _).alloc (Nat.le_refl _) _).alloc (by rw [World.size_alloc]; omega) _)
  have HM := Lib.hid (show Bk w3 w.heap.size 55 #[.int .i64 xk, .string xa, .string xb, .int .i64 xn, .int .i64 xm] by rw [← hw3]; exact (Bk.new w _ _).alloc _)
  have HE := Lib.hid (show Bk w3 (w.heap.size + 1) 55 #[.int .i64 0, .string ⟨#[]⟩, .string ⟨#[]⟩, .int .i64 0, .int .i64 0] by
    rw [← hw3]
    have := Bk.new (w.alloc (.cells #[.int .i64 xk, .string xa, .string xb, .int .i64 xn, .int .i64 xm] 55)) 55 #[.int .i64 0, .string ⟨#[]⟩, .string ⟨#[]⟩, .int .i64 0, .int .i64 0]
    rwa [World.size_alloc] at this)
  have HS := Lib.hid (hb.below HL.out hb.lt)
  have HSL := Lib.hid hb.lt
  clear hf hb
  go_enter Tryz.func27, Tryz.ntmps27
  go_upto_region 1 with fail
  try rw [hw3]
  clear hw3
  obtain ⟨g, hg⟩ : ∃ g, w.heap.size = g := ⟨_, rfl⟩
  have HG := Lib.hid hg
  simp only [hg] at HM HE ⊢
  clear hg
  go_upto_region 3 with (go_at_call 31; (with_reducible refine (over_func sb _ _ _ _ HS.out).mono ?_); rintro e u2 ⟨rfl, hu2⟩; rw [hu2]; clear hu2)
  have HSZ := Lib.hid (show g + 1 < w3.heap.size from HE.out.lt)
  go_upto_region 4 with fail
  try simp only [List.cons_append, List.nil_append]
  have HN := Lib.hid (Bk.new w3 55 #[.int .i64 0, .string ⟨#[]⟩, .string ⟨#[]⟩, .int .i64 0, .int .i64 0])
  have HB4 := Lib.hid ((Below.refl w3.heap.size w3).alloc (Nat.le_refl _) (.cells #[.int .i64 0, .string ⟨#[]⟩, .string ⟨#[]⟩, .int .i64 0, .int .i64 0] 55))
  obtain ⟨G, hG⟩ : ∃ G, w3.heap.size = G := ⟨_, rfl⟩
  obtain ⟨w4, hw4⟩ : ∃ w4, w3.alloc (.cells #[.int .i64 0, .string ⟨#[]⟩, .string ⟨#[]⟩, .int .i64 0, .int .i64 0] 55) = w4 := ⟨_, rfl⟩
  rw [hw4] at HN HB4 ⊢
  have HLE := Lib.hid (show Below w.heap.size w w4 from HL.out.trans (HB4.out.mono HL.out.size))
  have HM4 := Lib.hid (HM.out.below HB4.out HM.out.lt)
  have HE4 := Lib.hid (HE.out.below HB4.out HE.out.lt)
  have HS4 := Lib.hid (HS.out.below HB4.out HS.out.lt)
  rw [hG] at HN HSZ
  try rw [hG]
  clear hw4 hG HB4 HM HE HS HL
  have HSG := Lib.hid (show sb < g by rw [HG.out] at HSL; exact HSL.out)
  try simp only [List.cons_append, List.nil_append]
  refine wp_region_L (S := fun wz => Bk wz g 55 #[.int .i64 xk, .string xa, .string xb, .int .i64 xn, .int .i64 xm] ∧ Bk wz sb 114 #[.func (.func 61) #[r] #[], .string ⟨#[]⟩]) 14 (by kernel_rfl) (⟨HM4.out.drew, HS4.out.drew⟩) (fun hHeld => ?_)
  obtain ⟨wd, hwd⟩ : ∃ wd, w4.drew = wd := ⟨_, rfl⟩
  have HBD := Lib.hid (show Below w4.heap.size w4 wd by rw [← hwd]; exact (Below.refl _ _).drew)
  rw [hwd] at hHeld ⊢
  clear hwd
  refine takeL (some 15) [14] (i := 0) (v := ?_) rfl rfl (by kernel_rfl) (by kernel_rfl) (by kernel_rfl) (by kernel_rfl) (fun _ _ _ h => h) (Or.inl ⟨by kernel_rfl, ?_⟩) hHeld ?_
  rotate_left
  · intro wz hSw; go_simp; try (with_reducible rfl)
  try simp only [Act.put, List.setIfInBounds_toArray, List.set_cons_zero, List.set_cons_succ, List.getElem_toArray, List.getElem_cons_succ, List.getElem_cons_zero]
  refine takeL (some 16) [14] (i := 1) (v := ?_) rfl rfl (by kernel_rfl) (by kernel_rfl) (by kernel_rfl) (by kernel_rfl) (fun _ _ _ h => h) (Or.inl ⟨by kernel_rfl, ?_⟩) hHeld ?_
  rotate_left
  · intro wz hSw; go_simp; try (with_reducible rfl)
  try simp only [Act.put, List.setIfInBounds_toArray, List.set_cons_zero, List.set_cons_succ, List.getElem_toArray, List.getElem_cons_succ, List.getElem_cons_zero]
  refine takeL (some 17) [14] (i := 2) (v := ?_) rfl rfl (by kernel_rfl) (by kernel_rfl) (by kernel_rfl) (by kernel_rfl) (fun _ _ _ h => h) (Or.inl ⟨by kernel_rfl, ?_⟩) hHeld ?_
  rotate_left
  · intro wz hSw; have m0 : wz.cell? ⟨g, 0, none⟩ = some (.int .i64 xk) := hSw.1.cell 0; have m1 : wz.cell? ⟨g, 1, none⟩ = some (.string xa) := hSw.1.cell 1; have m2 : wz.cell? ⟨g, 2, none⟩ = some (.string xb) := hSw.1.cell 2; have m3 : wz.cell? ⟨g, 3, none⟩ = some (.int .i64 xn) := hSw.1.cell 3; have m4 : wz.cell? ⟨g, 4, none⟩ = some (.int .i64 xm) := hSw.1.cell 4; have s0 : wz.cell? ⟨sb, 0, none⟩ = some (.func (.func 61) #[r] #[]) := hSw.2.cell 0; go_simp; try (with_reducible rfl)
  try simp only [Act.put, List.setIfInBounds_toArray, List.set_cons_zero, List.set_cons_succ, List.getElem_toArray, List.getElem_cons_succ, List.getElem_cons_zero]
  refine takeL (some 18) [14] (i := 3) (v := ?_) rfl rfl (by kernel_rfl) (by kernel_rfl) (by kernel_rfl) (by kernel_rfl) (fun _ _ _ h => h) (Or.inl ⟨by kernel_rfl, ?_⟩) hHeld ?_
  rotate_left
  · intro wz hSw; have m0 : wz.cell? ⟨g, 0, none⟩ = some (.int .i64 xk) := hSw.1.cell 0; have m1 : wz.cell? ⟨g, 1, none⟩ = some (.string xa) := hSw.1.cell 1; have m2 : wz.cell? ⟨g, 2, none⟩ = some (.string xb) := hSw.1.cell 2; have m3 : wz.cell? ⟨g, 3, none⟩ = some (.int .i64 xn) := hSw.1.cell 3; have m4 : wz.cell? ⟨g, 4, none⟩ = some (.int .i64 xm) := hSw.1.cell 4; have s0 : wz.cell? ⟨sb, 0, none⟩ = some (.func (.func 61) #[r] #[]) := hSw.2.cell 0; go_simp; try (with_reducible rfl)
  try simp only [Act.put, List.setIfInBounds_toArray, List.set_cons_zero, List.set_cons_succ, List.getElem_toArray, List.getElem_cons_succ, List.getElem_cons_zero]
  refine takeL (some 19) [14] (i := 4) (v := ?_) rfl rfl (by kernel_rfl) (by kernel_rfl) (by kernel_rfl) (by kernel_rfl) (fun _ _ _ h => h) (Or.inl ⟨by kernel_rfl, ?_⟩) hHeld ?_
  rotate_left
  · intro wz hSw; have m0 : wz.cell? ⟨g, 0, none⟩ = some (.int .i64 xk) := hSw.1.cell 0; have m1 : wz.cell? ⟨g, 1, none⟩ = some (.string xa) := hSw.1.cell 1; have m2 : wz.cell? ⟨g, 2, none⟩ = some (.string xb) := hSw.1.cell 2; have m3 : wz.cell? ⟨g, 3, none⟩ = some (.int .i64 xn) := hSw.1.cell 3; have m4 : wz.cell? ⟨g, 4, none⟩ = some (.int .i64 xm) := hSw.1.cell 4; have s0 : wz.cell? ⟨sb, 0, none⟩ = some (.func (.func 61) #[r] #[]) := hSw.2.cell 0; go_simp; try (with_reducible rfl)
  try simp only [Act.put, List.setIfInBounds_toArray, List.set_cons_zero, List.set_cons_succ, List.getElem_toArray, List.getElem_cons_succ, List.getElem_cons_zero]
  refine takeL (some 20) [14] (i := 5) (v := ?_) rfl rfl (by kernel_rfl) (by kernel_rfl) (by kernel_rfl) (by kernel_rfl) (fun _ _ _ h => h) (Or.inl ⟨by kernel_rfl, ?_⟩) hHeld ?_
  rotate_left
  · intro wz hSw; have m0 : wz.cell? ⟨g, 0, none⟩ = some (.int .i64 xk) := hSw.1.cell 0; have m1 : wz.cell? ⟨g, 1, none⟩ = some (.string xa) := hSw.1.cell 1; have m2 : wz.cell? ⟨g, 2, none⟩ = some (.string xb) := hSw.1.cell 2; have m3 : wz.cell? ⟨g, 3, none⟩ = some (.int .i64 xn) := hSw.1.cell 3; have m4 : wz.cell? ⟨g, 4, none⟩ = some (.int .i64 xm) := hSw.1.cell 4; have s0 : wz.cell? ⟨sb, 0, none⟩ = some (.func (.func 61) #[r] #[]) := hSw.2.cell 0; go_simp; try (with_reducible rfl)
  try simp only [Act.put, List.setIfInBounds_toArray, List.set_cons_zero, List.set_cons_succ, List.getElem_toArray, List.getElem_cons_succ, List.getElem_cons_zero]
  refine takeL (some 21) [14] (i := 6) (v := ?_) rfl rfl (by kernel_rfl) (by kernel_rfl) (by kernel_rfl) (by kernel_rfl) (fun _ _ _ h => h) (Or.inl ⟨by kernel_rfl, ?_⟩) hHeld ?_
  rotate_left
  · intro wz hSw; go_simp; try (with_reducible rfl)
  try simp only [Act.put, List.setIfInBounds_toArray, List.set_cons_zero, List.set_cons_succ, List.getElem_toArray, List.getElem_cons_succ, List.getElem_cons_zero]
  refine takeL (some 22) [14] (i := 7) (v := ?_) rfl rfl (by kernel_rfl) (by kernel_rfl) (by kernel_rfl) (by kernel_rfl) (fun _ _ _ h => h) (Or.inl ⟨by kernel_rfl, ?_⟩) hHeld ?_
  rotate_left
  · intro wz hSw; go_simp; try (with_reducible rfl)
  try simp only [Act.put, List.setIfInBounds_toArray, List.set_cons_zero, List.set_cons_succ, List.getElem_toArray, List.getElem_cons_succ, List.getElem_cons_zero]
  refine wpAnyL_ready (rs := [8]) (by kernel_rfl) (by simp) (AllReadyL.cons rfl (fun K hK => ?_) AllReadyL.nil)
  rw [if_pos (by kernel_rfl)]
  go_simp
  refine (HF.out _ (HLE.out.trans (HBD.out.mono HLE.out.size))).mono ?_
  rintro e u5 ⟨rfl, hb5⟩
  try dsimp only
  refine hK.out _ _ (⟨hHeld.1.below hb5 hHeld.1.lt, hHeld.2.below hb5 hHeld.2.lt⟩) (fun hHeld => ?_)
  try simp only [Act.put, List.setIfInBounds_toArray, List.set_cons_zero, List.set_cons_succ, List.getElem_toArray, List.getElem_cons_succ, List.getElem_cons_zero]
  have HB5 := Lib.hid (HBD.out.trans (hb5.mono HBD.out.size))
  clear hb5 HBD
  refine takeL (some 14) [14] (i := 9) (v := ?_) rfl rfl (by kernel_rfl) (by kernel_rfl) (by kernel_rfl) (by kernel_rfl) (fun _ _ _ h => h) (Or.inl ⟨by kernel_rfl, ?_⟩) hHeld ?_
  rotate_left
  · intro wz hSw; go_simp; try (with_reducible rfl)
  try simp only [Act.put, List.setIfInBounds_toArray, List.set_cons_zero, List.set_cons_succ, List.getElem_toArray, List.getElem_cons_succ, List.getElem_cons_zero]
  refine takeL (some 24) [14] (i := 10) (v := ?_) rfl rfl (by kernel_rfl) (by kernel_rfl) (by kernel_rfl) (by kernel_rfl) (fun _ _ _ h => h) (Or.inl ⟨by kernel_rfl, ?_⟩) hHeld ?_
  rotate_left
  · intro wz hSw; go_simp; try (with_reducible rfl)
  try simp only [Act.put, List.setIfInBounds_toArray, List.set_cons_zero, List.set_cons_succ, List.getElem_toArray, List.getElem_cons_succ, List.getElem_cons_zero]
  refine takeL (some 25) [14] (i := 11) (v := ?_) rfl rfl (by kernel_rfl) (by kernel_rfl) (by kernel_rfl) (by kernel_rfl) (fun _ _ _ h => h) (Or.inl ⟨by kernel_rfl, ?_⟩) hHeld ?_
  rotate_left
  · intro wz hSw; go_simp; try (with_reducible rfl)
  try simp only [Act.put, List.setIfInBounds_toArray, List.set_cons_zero, List.set_cons_succ, List.getElem_toArray, List.getElem_cons_succ, List.getElem_cons_zero]
  have HN5 := Lib.hid (HN.out.below HB5.out HN.out.lt)
  have z0 : u5.cell? ⟨G, 0, none⟩ = some (.int .i64 0) := HN5.out.cell 0
  have z1 : u5.cell? ⟨G, 1, none⟩ = some (.string ⟨#[]⟩) := HN5.out.cell 1
  have z2 : u5.cell? ⟨G, 2, none⟩ = some (.string ⟨#[]⟩) := HN5.out.cell 2
  have z3 : u5.cell? ⟨G, 3, none⟩ = some (.int .i64 0) := HN5.out.cell 3
  have z4 : u5.cell? ⟨G, 4, none⟩ = some (.int .i64 0) := HN5.out.cell 4
  have f0 := HN5.out.frozen 0
  have f1 := HN5.out.frozen 1
  have f2 := HN5.out.frozen 2
  have f3 := HN5.out.frozen 3
  have f4 := HN5.out.frozen 4
  refine wpAnyL_ready (rs := [12]) (by kernel_rfl) (by simp) (AllReadyL.cons rfl (fun K hK => ?_) AllReadyL.nil)
  rw [if_pos (by kernel_rfl)]
  go_simp
  clear z0 z1 z2 z3 z4 f0 f1 f2 f3 f4
  have HN6 := Lib.hid (show Bk (((((u5.setCell ⟨G, 0, none⟩ (.int .i64 k')).setCell ⟨G, 1, none⟩ (.string a')).setCell ⟨G, 2, none⟩ (.string b')).setCell ⟨G, 3, none⟩ (.int .i64 n')).setCell ⟨G, 4, none⟩ (.int .i64 m')) G 55 #[.int .i64 k', .string a', .string b', .int .i64 n', .int .i64 m'] from HN5.out.set5 _ _ _ _ _)
  have HM6 := Lib.hid (show Bk (((((u5.setCell ⟨G, 0, none⟩ (.int .i64 k')).setCell ⟨G, 1, none⟩ (.string a')).setCell ⟨G, 2, none⟩ (.string b')).setCell ⟨G, 3, none⟩ (.int .i64 n')).setCell ⟨G, 4, none⟩ (.int .i64 m')) g 55 #[.int .i64 xk, .string xa, .string xb, .int .i64 xn, .int .i64 xm] from hHeld.1.far5 (by have := HSZ.out; omega) _ _ _ _ _)
  have HS6 := Lib.hid (show Bk (((((u5.setCell ⟨G, 0, none⟩ (.int .i64 k')).setCell ⟨G, 1, none⟩ (.string a')).setCell ⟨G, 2, none⟩ (.string b')).setCell ⟨G, 3, none⟩ (.int .i64 n')).setCell ⟨G, 4, none⟩ (.int .i64 m')) sb 114 #[.func (.func 61) #[r] #[], .string ⟨#[]⟩] from hHeld.2.far5 (by have := HSZ.out; have := HSG.out; omega) _ _ _ _ _)
  have HE6 := Lib.hid (show Bk (((((u5.setCell ⟨G, 0, none⟩ (.int .i64 k')).setCell ⟨G, 1, none⟩ (.string a')).setCell ⟨G, 2, none⟩ (.string b')).setCell ⟨G, 3, none⟩ (.int .i64 n')).setCell ⟨G, 4, none⟩ (.int .i64 m')) (g + 1) 55 #[.int .i64 0, .string ⟨#[]⟩, .string ⟨#[]⟩, .int .i64 0, .int .i64 0] from (HE4.out.below HB5.out HE4.out.lt).far5 (by have := HSZ.out; omega) _ _ _ _ _)
  have HL6 := Lib.hid (show Below w.heap.size w (((((u5.setCell ⟨G, 0, none⟩ (.int .i64 k')).setCell ⟨G, 1, none⟩ (.string a')).setCell ⟨G, 2, none⟩ (.string b')).setCell ⟨G, 3, none⟩ (.int .i64 n')).setCell ⟨G, 4, none⟩ (.int .i64 m')) from below_set5 (HLE.out.trans (HB5.out.mono HLE.out.size)) (by have h1 := HSZ.out; rw [HG.out]; omega) _ _ _ _ _)
  refine hK.out _ _ ⟨HM6.out, HS6.out⟩ (fun hHeld => ?_)
  try simp only [Act.put, List.setIfInBounds_toArray, List.set_cons_zero, List.set_cons_succ, List.getElem_toArray, List.getElem_cons_succ, List.getElem_cons_zero]
  obtain ⟨u6, hu6⟩ : ∃ u6, (((((u5.setCell ⟨G, 0, none⟩ (.int .i64 k')).setCell ⟨G, 1, none⟩ (.string a')).setCell ⟨G, 2, none⟩ (.string b')).setCell ⟨G, 3, none⟩ (.int .i64 n')).setCell ⟨G, 4, none⟩ (.int .i64 m')) = u6 := ⟨_, rfl⟩
  rw [hu6] at HN6 HM6 HS6 HE6 HL6 hHeld ⊢
  clear hu6 HN5 HB5 HM4 HS4 HE4 HN HLE
  refine takeL (some 26) [14] (i := 13) (v := ?_) rfl rfl (by kernel_rfl) (by kernel_rfl) (by kernel_rfl) (by kernel_rfl) (fun _ _ _ h => h) (Or.inl ⟨by kernel_rfl, ?_⟩) hHeld ?_
  rotate_left
  · intro wz hSw; have m0 : wz.cell? ⟨g, 0, none⟩ = some (.int .i64 xk) := hSw.1.cell 0; have m1 : wz.cell? ⟨g, 1, none⟩ = some (.string xa) := hSw.1.cell 1; have m2 : wz.cell? ⟨g, 2, none⟩ = some (.string xb) := hSw.1.cell 2; have m3 : wz.cell? ⟨g, 3, none⟩ = some (.int .i64 xn) := hSw.1.cell 3; have m4 : wz.cell? ⟨g, 4, none⟩ = some (.int .i64 xm) := hSw.1.cell 4; have s0 : wz.cell? ⟨sb, 0, none⟩ = some (.func (.func 61) #[r] #[]) := hSw.2.cell 0; go_simp; try (with_reducible rfl)
  try simp only [Act.put, List.setIfInBounds_toArray, List.set_cons_zero, List.set_cons_succ, List.getElem_toArray, List.getElem_cons_succ, List.getElem_cons_zero]
  have s0 : u6.cell? ⟨sb, 0, none⟩ = some (.func (.func 61) #[r] #[]) := HS6.out.cell 0
  have s1 : u6.cell? ⟨sb, 1, none⟩ = some (.string ⟨#[]⟩) := HS6.out.cell 1
  have f0 := HS6.out.frozen 0
  have f1 := HS6.out.frozen 1
  refine wpAnyL_ready (rs := [14]) (by kernel_rfl) (by simp) (AllReadyL.last rfl (fun K hK => ?_))
  rw [if_pos (by kernel_rfl)]
  go_simp
  clear s0 s1 f0 f1
  refine hK.out _ _ ?_
  try simp only [Act.put, List.setIfInBounds_toArray, List.set_cons_zero, List.set_cons_succ, List.getElem_toArray, List.getElem_cons_succ, List.getElem_cons_zero]
  refine wpAnyL_done (by kernel_rfl) ?_ _
  have HS7 := Lib.hid (show Bk ((u6.setCell ⟨sb, 0, none⟩ (.nilFunc)).setCell ⟨sb, 1, none⟩ (.string who')) sb 114 #[.nilFunc, .string who'] from HS6.out.set2 _ _)
  have HN7 := Lib.hid (show Bk ((u6.setCell ⟨sb, 0, none⟩ (.nilFunc)).setCell ⟨sb, 1, none⟩ (.string who')) G 55 #[.int .i64 k', .string a', .string b', .int .i64 n', .int .i64 m'] from HN6.out.far2 (by have := HSZ.out; have := HSG.out; omega) _ _)
  have HE7 := Lib.hid (show Bk ((u6.setCell ⟨sb, 0, none⟩ (.nilFunc)).setCell ⟨sb, 1, none⟩ (.string who')) (g + 1) 55 #[.int .i64 0, .string ⟨#[]⟩, .string ⟨#[]⟩, .int .i64 0, .int .i64 0] from HE6.out.far2 (by have := HSG.out; omega) _ _)
  have HK7 := Lib.hid (show Ke [sb] w ((u6.setCell ⟨sb, 0, none⟩ (.nilFunc)).setCell ⟨sb, 1, none⟩ (.string who')) from ((Ke.of HL6.out).nil.set (p := ⟨sb, 0, none⟩) (List.mem_singleton.2 rfl) _).set (p := ⟨sb, 1, none⟩) (List.mem_singleton.2 rfl) _)
  refine gen_qS (fun y => Bk y sb 114 #[.nilFunc, .string who'] ∧ Bk y G 55 #[.int .i64 k', .string a', .string b', .int .i64 n', .int .i64 m'] ∧ Bk y (g + 1) 55 #[.int .i64 0, .string ⟨#[]⟩, .string ⟨#[]⟩, .int .i64 0, .int .i64 0] ∧ Ke [sb] w y) ⟨HS7.out, HN7.out, HE7.out, HK7.out⟩ (fun y hy => ?_)
  have HY := Lib.hid hy
  clear hy HS7 HN7 HE7 HK7 HN6 HM6 HS6 HE6 HL6 hHeld
  have c0 : y.cell? ⟨G, 0, none⟩ = some (.int .i64 k') := HY.out.2.1.cell 0
  have c1 : y.cell? ⟨G, 1, none⟩ = some (.string a') := HY.out.2.1.cell 1
  have c2 : y.cell? ⟨G, 2, none⟩ = some (.string b') := HY.out.2.1.cell 2
  have c3 : y.cell? ⟨G, 3, none⟩ = some (.int .i64 n') := HY.out.2.1.cell 3
  have c4 : y.cell? ⟨G, 4, none⟩ = some (.int .i64 m') := HY.out.2.1.cell 4
  have z0 : y.cell? ⟨g + 1, 0, none⟩ = some (.int .i64 0) := HY.out.2.2.1.cell 0
  have z1 : y.cell? ⟨g + 1, 1, none⟩ = some (.string ⟨#[]⟩) := HY.out.2.2.1.cell 1
  have z2 : y.cell? ⟨g + 1, 2, none⟩ = some (.string ⟨#[]⟩) := HY.out.2.2.1.cell 2
  have z3 : y.cell? ⟨g + 1, 3, none⟩ = some (.int .i64 0) := HY.out.2.2.1.cell 3
  have z4 : y.cell? ⟨g + 1, 4, none⟩ = some (.int .i64 0) := HY.out.2.2.1.cell 4
  have f0 := HY.out.2.2.1.frozen 0
  have f1 := HY.out.2.2.1.frozen 1
  have f2 := HY.out.2.2.1.frozen 2
  have f3 := HY.out.2.2.1.frozen 3
  have f4 := HY.out.2.2.1.frozen 4
  go_wp2
  have hE : Bk (((((y.setCell ⟨(g + 1), 0, none⟩ (.int .i64 k')).setCell ⟨(g + 1), 1, none⟩ (.string a')).setCell ⟨(g + 1), 2, none⟩ (.string b')).setCell ⟨(g + 1), 3, none⟩ (.int .i64 n')).setCell ⟨(g + 1), 4, none⟩ (.int .i64 m')) (g + 1) 55 #[.int .i64 k', .string a', .string b', .int .i64 n', .int .i64 m'] := HY.out.2.2.1.set5 _ _ _ _ _
  have hS : Bk (((((y.setCell ⟨(g + 1), 0, none⟩ (.int .i64 k')).setCell ⟨(g + 1), 1, none⟩ (.string a')).setCell ⟨(g + 1), 2, none⟩ (.string b')).setCell ⟨(g + 1), 3, none⟩ (.int .i64 n')).setCell ⟨(g + 1), 4, none⟩ (.int .i64 m')) sb 114 #[.nilFunc, .string who'] := HY.out.1.far5 (by have := HSG.out; omega) _ _ _ _ _
  have hK : Ke [sb] w (((((y.setCell ⟨(g + 1), 0, none⟩ (.int .i64 k')).setCell ⟨(g + 1), 1, none⟩ (.string a')).setCell ⟨(g + 1), 2, none⟩ (.string b')).setCell ⟨(g + 1), 3, none⟩ (.int .i64 n')).setCell ⟨(g + 1), 4, none⟩ (.int .i64 m')) := ke_set5 HY.out.2.2.2 (by rw [HG.out]; omega) _ _ _ _ _
  have p0 := hE.cell 0; have p1 := hE.cell 1; have p2 := hE.cell 2; have p3 := hE.cell 3; have p4 := hE.cell 4
  refine bodyPost_ret (v := .tuple #[.agg #[.int .i64 k', .string a', .string b', .int .i64 n', .int .i64 m'], .bool true]) ?_ rfl ⟨rfl, hS, hK⟩
  simp [results, Tryz.f27, go_sem, p0, p1, p2, p3, p4]
set_option maxRecDepth 100000 in
set_option maxHeartbeats 4000000 in
theorem hear_hello_yes (sb : Nat) (r : Value) (xk xn xm now : Int) (xa xb nn : ByteArray) (w : World) (k' n' m' : Int) (a' b' who' : ByteArray) (r' : Value) (hb : Bk w sb 114 #[.func (.func 61) #[r] #[], .string ⟨#[]⟩])
    (hf : ∀ u, Below w.heap.size w u → Calls Tryz.prog 61 #[r, .agg #[.int .i64 xk, .string xa, .string xb, .int .i64 xn, .int .i64 xm], .int .i64 now, .string nn] u fun e u' => e = .returned (.tuple #[.agg #[.int .i64 k', .string a', .string b', .int .i64 n', .int .i64 m'], .agg #[.func (.func 103) #[r'] #[], .string who']]) ∧ Below u.heap.size u u') :
    Calls Tryz.prog 27 #[.pointer (some ⟨sb, 0, none⟩), .agg #[.int .i64 xk, .string xa, .string xb, .int .i64 xn, .int .i64 xm], .int .i64 now, .string nn] w (HrP w sb #[.int .i64 k', .string a', .string b', .int .i64 n', .int .i64 m'] #[.func (.func 103) #[r'] #[], .string who']) := by
  have HF := Lib.hid hf
  obtain ⟨w3, hw3⟩ : ∃ w3, (w.alloc (.cells #[.int .i64 xk, .string xa, .string xb, .int .i64 xn, .int .i64 xm] 55)).alloc (.cells #[.int .i64 0, .string ⟨#[]⟩, .string ⟨#[]⟩, .int .i64 0, .int .i64 0] 55) = w3 := ⟨_, rfl⟩
  have HL := Lib.hid (show Below w.heap.size w w3 by rw [← hw3]; exact ((Below.refl _ _).alloc (Nat.le_refl _) _).alloc (by rw [World.size_alloc]; omega) _)
  have HM := Lib.hid (show Bk w3 w.heap.size 55 #[.int .i64 xk, .string xa, .string xb, .int .i64 xn, .int .i64 xm] by rw [← hw3]; exact (Bk.new w _ _).alloc _)
  have HE := Lib.hid (show Bk w3 (w.heap.size + 1) 55 #[.int .i64 0, .string ⟨#[]⟩, .string ⟨#[]⟩, .int .i64 0, .int .i64 0] by
    rw [← hw3]
    have := Bk.new (w.alloc (.cells #[.int .i64 xk, .string xa, .string xb, .int .i64 xn, .int .i64 xm] 55)) 55 #[.int .i64 0, .string ⟨#[]⟩, .string ⟨#[]⟩, .int .i64 0, .int .i64 0]
    rwa [World.size_alloc] at this)
  have HS := Lib.hid (hb.below HL.out hb.lt)
  have HSL := Lib.hid hb.lt
  clear hf hb
  go_enter Tryz.func27, Tryz.ntmps27
  go_upto_region 1 with fail
  try rw [hw3]
  clear hw3
  obtain ⟨g, hg⟩ : ∃ g, w.heap.size = g := ⟨_, rfl⟩
  have HG := Lib.hid hg
  simp only [hg] at HM HE ⊢
  clear hg
  go_upto_region 3 with (go_at_call 31; (with_reducible refine (over_func sb _ _ _ _ HS.out).mono ?_); rintro e u2 ⟨rfl, hu2⟩; rw [hu2]; clear hu2)
  have HSZ := Lib.hid (show g + 1 < w3.heap.size from HE.out.lt)
  go_upto_region 4 with fail
  try simp only [List.cons_append, List.nil_append]
  have HN := Lib.hid (Bk.new w3 55 #[.int .i64 0, .string ⟨#[]⟩, .string ⟨#[]⟩, .int .i64 0, .int .i64 0])
  have HB4 := Lib.hid ((Below.refl w3.heap.size w3).alloc (Nat.le_refl _) (.cells #[.int .i64 0, .string ⟨#[]⟩, .string ⟨#[]⟩, .int .i64 0, .int .i64 0] 55))
  obtain ⟨G, hG⟩ : ∃ G, w3.heap.size = G := ⟨_, rfl⟩
  obtain ⟨w4, hw4⟩ : ∃ w4, w3.alloc (.cells #[.int .i64 0, .string ⟨#[]⟩, .string ⟨#[]⟩, .int .i64 0, .int .i64 0] 55) = w4 := ⟨_, rfl⟩
  rw [hw4] at HN HB4 ⊢
  have HLE := Lib.hid (show Below w.heap.size w w4 from HL.out.trans (HB4.out.mono HL.out.size))
  have HM4 := Lib.hid (HM.out.below HB4.out HM.out.lt)
  have HE4 := Lib.hid (HE.out.below HB4.out HE.out.lt)
  have HS4 := Lib.hid (HS.out.below HB4.out HS.out.lt)
  rw [hG] at HN HSZ
  try rw [hG]
  clear hw4 hG HB4 HM HE HS HL
  have HSG := Lib.hid (show sb < g by rw [HG.out] at HSL; exact HSL.out)
  try simp only [List.cons_append, List.nil_append]
  refine wp_region_L (S := fun wz => Bk wz g 55 #[.int .i64 xk, .string xa, .string xb, .int .i64 xn, .int .i64 xm] ∧ Bk wz sb 114 #[.func (.func 61) #[r] #[], .string ⟨#[]⟩]) 14 (by kernel_rfl) (⟨HM4.out.drew, HS4.out.drew⟩) (fun hHeld => ?_)
  obtain ⟨wd, hwd⟩ : ∃ wd, w4.drew = wd := ⟨_, rfl⟩
  have HBD := Lib.hid (show Below w4.heap.size w4 wd by rw [← hwd]; exact (Below.refl _ _).drew)
  rw [hwd] at hHeld ⊢
  clear hwd
  refine takeL (some 15) [14] (i := 0) (v := ?_) rfl rfl (by kernel_rfl) (by kernel_rfl) (by kernel_rfl) (by kernel_rfl) (fun _ _ _ h => h) (Or.inl ⟨by kernel_rfl, ?_⟩) hHeld ?_
  rotate_left
  · intro wz hSw; go_simp; try (with_reducible rfl)
  try simp only [Act.put, List.setIfInBounds_toArray, List.set_cons_zero, List.set_cons_succ, List.getElem_toArray, List.getElem_cons_succ, List.getElem_cons_zero]
  refine takeL (some 16) [14] (i := 1) (v := ?_) rfl rfl (by kernel_rfl) (by kernel_rfl) (by kernel_rfl) (by kernel_rfl) (fun _ _ _ h => h) (Or.inl ⟨by kernel_rfl, ?_⟩) hHeld ?_
  rotate_left
  · intro wz hSw; go_simp; try (with_reducible rfl)
  try simp only [Act.put, List.setIfInBounds_toArray, List.set_cons_zero, List.set_cons_succ, List.getElem_toArray, List.getElem_cons_succ, List.getElem_cons_zero]
  refine takeL (some 17) [14] (i := 2) (v := ?_) rfl rfl (by kernel_rfl) (by kernel_rfl) (by kernel_rfl) (by kernel_rfl) (fun _ _ _ h => h) (Or.inl ⟨by kernel_rfl, ?_⟩) hHeld ?_
  rotate_left
  · intro wz hSw; have m0 : wz.cell? ⟨g, 0, none⟩ = some (.int .i64 xk) := hSw.1.cell 0; have m1 : wz.cell? ⟨g, 1, none⟩ = some (.string xa) := hSw.1.cell 1; have m2 : wz.cell? ⟨g, 2, none⟩ = some (.string xb) := hSw.1.cell 2; have m3 : wz.cell? ⟨g, 3, none⟩ = some (.int .i64 xn) := hSw.1.cell 3; have m4 : wz.cell? ⟨g, 4, none⟩ = some (.int .i64 xm) := hSw.1.cell 4; have s0 : wz.cell? ⟨sb, 0, none⟩ = some (.func (.func 61) #[r] #[]) := hSw.2.cell 0; go_simp; try (with_reducible rfl)
  try simp only [Act.put, List.setIfInBounds_toArray, List.set_cons_zero, List.set_cons_succ, List.getElem_toArray, List.getElem_cons_succ, List.getElem_cons_zero]
  refine takeL (some 18) [14] (i := 3) (v := ?_) rfl rfl (by kernel_rfl) (by kernel_rfl) (by kernel_rfl) (by kernel_rfl) (fun _ _ _ h => h) (Or.inl ⟨by kernel_rfl, ?_⟩) hHeld ?_
  rotate_left
  · intro wz hSw; have m0 : wz.cell? ⟨g, 0, none⟩ = some (.int .i64 xk) := hSw.1.cell 0; have m1 : wz.cell? ⟨g, 1, none⟩ = some (.string xa) := hSw.1.cell 1; have m2 : wz.cell? ⟨g, 2, none⟩ = some (.string xb) := hSw.1.cell 2; have m3 : wz.cell? ⟨g, 3, none⟩ = some (.int .i64 xn) := hSw.1.cell 3; have m4 : wz.cell? ⟨g, 4, none⟩ = some (.int .i64 xm) := hSw.1.cell 4; have s0 : wz.cell? ⟨sb, 0, none⟩ = some (.func (.func 61) #[r] #[]) := hSw.2.cell 0; go_simp; try (with_reducible rfl)
  try simp only [Act.put, List.setIfInBounds_toArray, List.set_cons_zero, List.set_cons_succ, List.getElem_toArray, List.getElem_cons_succ, List.getElem_cons_zero]
  refine takeL (some 19) [14] (i := 4) (v := ?_) rfl rfl (by kernel_rfl) (by kernel_rfl) (by kernel_rfl) (by kernel_rfl) (fun _ _ _ h => h) (Or.inl ⟨by kernel_rfl, ?_⟩) hHeld ?_
  rotate_left
  · intro wz hSw; have m0 : wz.cell? ⟨g, 0, none⟩ = some (.int .i64 xk) := hSw.1.cell 0; have m1 : wz.cell? ⟨g, 1, none⟩ = some (.string xa) := hSw.1.cell 1; have m2 : wz.cell? ⟨g, 2, none⟩ = some (.string xb) := hSw.1.cell 2; have m3 : wz.cell? ⟨g, 3, none⟩ = some (.int .i64 xn) := hSw.1.cell 3; have m4 : wz.cell? ⟨g, 4, none⟩ = some (.int .i64 xm) := hSw.1.cell 4; have s0 : wz.cell? ⟨sb, 0, none⟩ = some (.func (.func 61) #[r] #[]) := hSw.2.cell 0; go_simp; try (with_reducible rfl)
  try simp only [Act.put, List.setIfInBounds_toArray, List.set_cons_zero, List.set_cons_succ, List.getElem_toArray, List.getElem_cons_succ, List.getElem_cons_zero]
  refine takeL (some 20) [14] (i := 5) (v := ?_) rfl rfl (by kernel_rfl) (by kernel_rfl) (by kernel_rfl) (by kernel_rfl) (fun _ _ _ h => h) (Or.inl ⟨by kernel_rfl, ?_⟩) hHeld ?_
  rotate_left
  · intro wz hSw; have m0 : wz.cell? ⟨g, 0, none⟩ = some (.int .i64 xk) := hSw.1.cell 0; have m1 : wz.cell? ⟨g, 1, none⟩ = some (.string xa) := hSw.1.cell 1; have m2 : wz.cell? ⟨g, 2, none⟩ = some (.string xb) := hSw.1.cell 2; have m3 : wz.cell? ⟨g, 3, none⟩ = some (.int .i64 xn) := hSw.1.cell 3; have m4 : wz.cell? ⟨g, 4, none⟩ = some (.int .i64 xm) := hSw.1.cell 4; have s0 : wz.cell? ⟨sb, 0, none⟩ = some (.func (.func 61) #[r] #[]) := hSw.2.cell 0; go_simp; try (with_reducible rfl)
  try simp only [Act.put, List.setIfInBounds_toArray, List.set_cons_zero, List.set_cons_succ, List.getElem_toArray, List.getElem_cons_succ, List.getElem_cons_zero]
  refine takeL (some 21) [14] (i := 6) (v := ?_) rfl rfl (by kernel_rfl) (by kernel_rfl) (by kernel_rfl) (by kernel_rfl) (fun _ _ _ h => h) (Or.inl ⟨by kernel_rfl, ?_⟩) hHeld ?_
  rotate_left
  · intro wz hSw; go_simp; try (with_reducible rfl)
  try simp only [Act.put, List.setIfInBounds_toArray, List.set_cons_zero, List.set_cons_succ, List.getElem_toArray, List.getElem_cons_succ, List.getElem_cons_zero]
  refine takeL (some 22) [14] (i := 7) (v := ?_) rfl rfl (by kernel_rfl) (by kernel_rfl) (by kernel_rfl) (by kernel_rfl) (fun _ _ _ h => h) (Or.inl ⟨by kernel_rfl, ?_⟩) hHeld ?_
  rotate_left
  · intro wz hSw; go_simp; try (with_reducible rfl)
  try simp only [Act.put, List.setIfInBounds_toArray, List.set_cons_zero, List.set_cons_succ, List.getElem_toArray, List.getElem_cons_succ, List.getElem_cons_zero]
  refine wpAnyL_ready (rs := [8]) (by kernel_rfl) (by simp) (AllReadyL.cons rfl (fun K hK => ?_) AllReadyL.nil)
  rw [if_pos (by kernel_rfl)]
  go_simp
  refine (HF.out _ (HLE.out.trans (HBD.out.mono HLE.out.size))).mono ?_
  rintro e u5 ⟨rfl, hb5⟩
  try dsimp only
  refine hK.out _ _ (⟨hHeld.1.below hb5 hHeld.1.lt, hHeld.2.below hb5 hHeld.2.lt⟩) (fun hHeld => ?_)
  try simp only [Act.put, List.setIfInBounds_toArray, List.set_cons_zero, List.set_cons_succ, List.getElem_toArray, List.getElem_cons_succ, List.getElem_cons_zero]
  have HB5 := Lib.hid (HBD.out.trans (hb5.mono HBD.out.size))
  clear hb5 HBD
  refine takeL (some 14) [14] (i := 9) (v := ?_) rfl rfl (by kernel_rfl) (by kernel_rfl) (by kernel_rfl) (by kernel_rfl) (fun _ _ _ h => h) (Or.inl ⟨by kernel_rfl, ?_⟩) hHeld ?_
  rotate_left
  · intro wz hSw; go_simp; try (with_reducible rfl)
  try simp only [Act.put, List.setIfInBounds_toArray, List.set_cons_zero, List.set_cons_succ, List.getElem_toArray, List.getElem_cons_succ, List.getElem_cons_zero]
  refine takeL (some 24) [14] (i := 10) (v := ?_) rfl rfl (by kernel_rfl) (by kernel_rfl) (by kernel_rfl) (by kernel_rfl) (fun _ _ _ h => h) (Or.inl ⟨by kernel_rfl, ?_⟩) hHeld ?_
  rotate_left
  · intro wz hSw; go_simp; try (with_reducible rfl)
  try simp only [Act.put, List.setIfInBounds_toArray, List.set_cons_zero, List.set_cons_succ, List.getElem_toArray, List.getElem_cons_succ, List.getElem_cons_zero]
  refine takeL (some 25) [14] (i := 11) (v := ?_) rfl rfl (by kernel_rfl) (by kernel_rfl) (by kernel_rfl) (by kernel_rfl) (fun _ _ _ h => h) (Or.inl ⟨by kernel_rfl, ?_⟩) hHeld ?_
  rotate_left
  · intro wz hSw; go_simp; try (with_reducible rfl)
  try simp only [Act.put, List.setIfInBounds_toArray, List.set_cons_zero, List.set_cons_succ, List.getElem_toArray, List.getElem_cons_succ, List.getElem_cons_zero]
  have HN5 := Lib.hid (HN.out.below HB5.out HN.out.lt)
  have z0 : u5.cell? ⟨G, 0, none⟩ = some (.int .i64 0) := HN5.out.cell 0
  have z1 : u5.cell? ⟨G, 1, none⟩ = some (.string ⟨#[]⟩) := HN5.out.cell 1
  have z2 : u5.cell? ⟨G, 2, none⟩ = some (.string ⟨#[]⟩) := HN5.out.cell 2
  have z3 : u5.cell? ⟨G, 3, none⟩ = some (.int .i64 0) := HN5.out.cell 3
  have z4 : u5.cell? ⟨G, 4, none⟩ = some (.int .i64 0) := HN5.out.cell 4
  have f0 := HN5.out.frozen 0
  have f1 := HN5.out.frozen 1
  have f2 := HN5.out.frozen 2
  have f3 := HN5.out.frozen 3
  have f4 := HN5.out.frozen 4
  refine wpAnyL_ready (rs := [12]) (by kernel_rfl) (by simp) (AllReadyL.cons rfl (fun K hK => ?_) AllReadyL.nil)
  rw [if_pos (by kernel_rfl)]
  go_simp
  clear z0 z1 z2 z3 z4 f0 f1 f2 f3 f4
  have HN6 := Lib.hid (show Bk (((((u5.setCell ⟨G, 0, none⟩ (.int .i64 k')).setCell ⟨G, 1, none⟩ (.string a')).setCell ⟨G, 2, none⟩ (.string b')).setCell ⟨G, 3, none⟩ (.int .i64 n')).setCell ⟨G, 4, none⟩ (.int .i64 m')) G 55 #[.int .i64 k', .string a', .string b', .int .i64 n', .int .i64 m'] from HN5.out.set5 _ _ _ _ _)
  have HM6 := Lib.hid (show Bk (((((u5.setCell ⟨G, 0, none⟩ (.int .i64 k')).setCell ⟨G, 1, none⟩ (.string a')).setCell ⟨G, 2, none⟩ (.string b')).setCell ⟨G, 3, none⟩ (.int .i64 n')).setCell ⟨G, 4, none⟩ (.int .i64 m')) g 55 #[.int .i64 xk, .string xa, .string xb, .int .i64 xn, .int .i64 xm] from hHeld.1.far5 (by have := HSZ.out; omega) _ _ _ _ _)
  have HS6 := Lib.hid (show Bk (((((u5.setCell ⟨G, 0, none⟩ (.int .i64 k')).setCell ⟨G, 1, none⟩ (.string a')).setCell ⟨G, 2, none⟩ (.string b')).setCell ⟨G, 3, none⟩ (.int .i64 n')).setCell ⟨G, 4, none⟩ (.int .i64 m')) sb 114 #[.func (.func 61) #[r] #[], .string ⟨#[]⟩] from hHeld.2.far5 (by have := HSZ.out; have := HSG.out; omega) _ _ _ _ _)
  have HE6 := Lib.hid (show Bk (((((u5.setCell ⟨G, 0, none⟩ (.int .i64 k')).setCell ⟨G, 1, none⟩ (.string a')).setCell ⟨G, 2, none⟩ (.string b')).setCell ⟨G, 3, none⟩ (.int .i64 n')).setCell ⟨G, 4, none⟩ (.int .i64 m')) (g + 1) 55 #[.int .i64 0, .string ⟨#[]⟩, .string ⟨#[]⟩, .int .i64 0, .int .i64 0] from (HE4.out.below HB5.out HE4.out.lt).far5 (by have := HSZ.out; omega) _ _ _ _ _)
  have HL6 := Lib.hid (show Below w.heap.size w (((((u5.setCell ⟨G, 0, none⟩ (.int .i64 k')).setCell ⟨G, 1, none⟩ (.string a')).setCell ⟨G, 2, none⟩ (.string b')).setCell ⟨G, 3, none⟩ (.int .i64 n')).setCell ⟨G, 4, none⟩ (.int .i64 m')) from below_set5 (HLE.out.trans (HB5.out.mono HLE.out.size)) (by have h1 := HSZ.out; rw [HG.out]; omega) _ _ _ _ _)
  refine hK.out _ _ ⟨HM6.out, HS6.out⟩ (fun hHeld => ?_)
  try simp only [Act.put, List.setIfInBounds_toArray, List.set_cons_zero, List.set_cons_succ, List.getElem_toArray, List.getElem_cons_succ, List.getElem_cons_zero]
  obtain ⟨u6, hu6⟩ : ∃ u6, (((((u5.setCell ⟨G, 0, none⟩ (.int .i64 k')).setCell ⟨G, 1, none⟩ (.string a')).setCell ⟨G, 2, none⟩ (.string b')).setCell ⟨G, 3, none⟩ (.int .i64 n')).setCell ⟨G, 4, none⟩ (.int .i64 m')) = u6 := ⟨_, rfl⟩
  rw [hu6] at HN6 HM6 HS6 HE6 HL6 hHeld ⊢
  clear hu6 HN5 HB5 HM4 HS4 HE4 HN HLE
  refine takeL (some 26) [14] (i := 13) (v := ?_) rfl rfl (by kernel_rfl) (by kernel_rfl) (by kernel_rfl) (by kernel_rfl) (fun _ _ _ h => h) (Or.inl ⟨by kernel_rfl, ?_⟩) hHeld ?_
  rotate_left
  · intro wz hSw; have m0 : wz.cell? ⟨g, 0, none⟩ = some (.int .i64 xk) := hSw.1.cell 0; have m1 : wz.cell? ⟨g, 1, none⟩ = some (.string xa) := hSw.1.cell 1; have m2 : wz.cell? ⟨g, 2, none⟩ = some (.string xb) := hSw.1.cell 2; have m3 : wz.cell? ⟨g, 3, none⟩ = some (.int .i64 xn) := hSw.1.cell 3; have m4 : wz.cell? ⟨g, 4, none⟩ = some (.int .i64 xm) := hSw.1.cell 4; have s0 : wz.cell? ⟨sb, 0, none⟩ = some (.func (.func 61) #[r] #[]) := hSw.2.cell 0; go_simp; try (with_reducible rfl)
  try simp only [Act.put, List.setIfInBounds_toArray, List.set_cons_zero, List.set_cons_succ, List.getElem_toArray, List.getElem_cons_succ, List.getElem_cons_zero]
  have s0 : u6.cell? ⟨sb, 0, none⟩ = some (.func (.func 61) #[r] #[]) := HS6.out.cell 0
  have s1 : u6.cell? ⟨sb, 1, none⟩ = some (.string ⟨#[]⟩) := HS6.out.cell 1
  have f0 := HS6.out.frozen 0
  have f1 := HS6.out.frozen 1
  refine wpAnyL_ready (rs := [14]) (by kernel_rfl) (by simp) (AllReadyL.last rfl (fun K hK => ?_))
  rw [if_pos (by kernel_rfl)]
  go_simp
  clear s0 s1 f0 f1
  refine hK.out _ _ ?_
  try simp only [Act.put, List.setIfInBounds_toArray, List.set_cons_zero, List.set_cons_succ, List.getElem_toArray, List.getElem_cons_succ, List.getElem_cons_zero]
  refine wpAnyL_done (by kernel_rfl) ?_ _
  have HS7 := Lib.hid (show Bk ((u6.setCell ⟨sb, 0, none⟩ (.func (.func 103) #[r'] #[])).setCell ⟨sb, 1, none⟩ (.string who')) sb 114 #[.func (.func 103) #[r'] #[], .string who'] from HS6.out.set2 _ _)
  have HN7 := Lib.hid (show Bk ((u6.setCell ⟨sb, 0, none⟩ (.func (.func 103) #[r'] #[])).setCell ⟨sb, 1, none⟩ (.string who')) G 55 #[.int .i64 k', .string a', .string b', .int .i64 n', .int .i64 m'] from HN6.out.far2 (by have := HSZ.out; have := HSG.out; omega) _ _)
  have HE7 := Lib.hid (show Bk ((u6.setCell ⟨sb, 0, none⟩ (.func (.func 103) #[r'] #[])).setCell ⟨sb, 1, none⟩ (.string who')) (g + 1) 55 #[.int .i64 0, .string ⟨#[]⟩, .string ⟨#[]⟩, .int .i64 0, .int .i64 0] from HE6.out.far2 (by have := HSG.out; omega) _ _)
  have HK7 := Lib.hid (show Ke [sb] w ((u6.setCell ⟨sb, 0, none⟩ (.func (.func 103) #[r'] #[])).setCell ⟨sb, 1, none⟩ (.string who')) from ((Ke.of HL6.out).nil.set (p := ⟨sb, 0, none⟩) (List.mem_singleton.2 rfl) _).set (p := ⟨sb, 1, none⟩) (List.mem_singleton.2 rfl) _)
  refine gen_qS (fun y => Bk y sb 114 #[.func (.func 103) #[r'] #[], .string who'] ∧ Bk y G 55 #[.int .i64 k', .string a', .string b', .int .i64 n', .int .i64 m'] ∧ Bk y (g + 1) 55 #[.int .i64 0, .string ⟨#[]⟩, .string ⟨#[]⟩, .int .i64 0, .int .i64 0] ∧ Ke [sb] w y) ⟨HS7.out, HN7.out, HE7.out, HK7.out⟩ (fun y hy => ?_)
  have HY := Lib.hid hy
  clear hy HS7 HN7 HE7 HK7 HN6 HM6 HS6 HE6 HL6 hHeld
  have c0 : y.cell? ⟨G, 0, none⟩ = some (.int .i64 k') := HY.out.2.1.cell 0
  have c1 : y.cell? ⟨G, 1, none⟩ = some (.string a') := HY.out.2.1.cell 1
  have c2 : y.cell? ⟨G, 2, none⟩ = some (.string b') := HY.out.2.1.cell 2
  have c3 : y.cell? ⟨G, 3, none⟩ = some (.int .i64 n') := HY.out.2.1.cell 3
  have c4 : y.cell? ⟨G, 4, none⟩ = some (.int .i64 m') := HY.out.2.1.cell 4
  have z0 : y.cell? ⟨g + 1, 0, none⟩ = some (.int .i64 0) := HY.out.2.2.1.cell 0
  have z1 : y.cell? ⟨g + 1, 1, none⟩ = some (.string ⟨#[]⟩) := HY.out.2.2.1.cell 1
  have z2 : y.cell? ⟨g + 1, 2, none⟩ = some (.string ⟨#[]⟩) := HY.out.2.2.1.cell 2
  have z3 : y.cell? ⟨g + 1, 3, none⟩ = some (.int .i64 0) := HY.out.2.2.1.cell 3
  have z4 : y.cell? ⟨g + 1, 4, none⟩ = some (.int .i64 0) := HY.out.2.2.1.cell 4
  have f0 := HY.out.2.2.1.frozen 0
  have f1 := HY.out.2.2.1.frozen 1
  have f2 := HY.out.2.2.1.frozen 2
  have f3 := HY.out.2.2.1.frozen 3
  have f4 := HY.out.2.2.1.frozen 4
  go_wp2
  have hE : Bk (((((y.setCell ⟨(g + 1), 0, none⟩ (.int .i64 k')).setCell ⟨(g + 1), 1, none⟩ (.string a')).setCell ⟨(g + 1), 2, none⟩ (.string b')).setCell ⟨(g + 1), 3, none⟩ (.int .i64 n')).setCell ⟨(g + 1), 4, none⟩ (.int .i64 m')) (g + 1) 55 #[.int .i64 k', .string a', .string b', .int .i64 n', .int .i64 m'] := HY.out.2.2.1.set5 _ _ _ _ _
  have hS : Bk (((((y.setCell ⟨(g + 1), 0, none⟩ (.int .i64 k')).setCell ⟨(g + 1), 1, none⟩ (.string a')).setCell ⟨(g + 1), 2, none⟩ (.string b')).setCell ⟨(g + 1), 3, none⟩ (.int .i64 n')).setCell ⟨(g + 1), 4, none⟩ (.int .i64 m')) sb 114 #[.func (.func 103) #[r'] #[], .string who'] := HY.out.1.far5 (by have := HSG.out; omega) _ _ _ _ _
  have hK : Ke [sb] w (((((y.setCell ⟨(g + 1), 0, none⟩ (.int .i64 k')).setCell ⟨(g + 1), 1, none⟩ (.string a')).setCell ⟨(g + 1), 2, none⟩ (.string b')).setCell ⟨(g + 1), 3, none⟩ (.int .i64 n')).setCell ⟨(g + 1), 4, none⟩ (.int .i64 m')) := ke_set5 HY.out.2.2.2 (by rw [HG.out]; omega) _ _ _ _ _
  have p0 := hE.cell 0; have p1 := hE.cell 1; have p2 := hE.cell 2; have p3 := hE.cell 3; have p4 := hE.cell 4
  refine bodyPost_ret (v := .tuple #[.agg #[.int .i64 k', .string a', .string b', .int .i64 n', .int .i64 m'], .bool true]) ?_ rfl ⟨rfl, hS, hK⟩
  simp [results, Tryz.f27, go_sem, p0, p1, p2, p3, p4]
set_option maxRecDepth 100000 in
set_option maxHeartbeats 4000000 in
theorem hear_proof (sb : Nat) (r : Value) (xk xn xm now : Int) (xa xb nn : ByteArray) (w : World) (k' n' m' : Int) (a' b' who' : ByteArray) (hb : Bk w sb 114 #[.func (.func 103) #[r] #[], .string ⟨#[]⟩])
    (hf : ∀ u, Below w.heap.size w u → Calls Tryz.prog 103 #[r, .agg #[.int .i64 xk, .string xa, .string xb, .int .i64 xn, .int .i64 xm], .int .i64 now, .string nn] u fun e u' => e = .returned (.tuple #[.agg #[.int .i64 k', .string a', .string b', .int .i64 n', .int .i64 m'], .agg #[.nilFunc, .string who']]) ∧ Below u.heap.size u u') :
    Calls Tryz.prog 27 #[.pointer (some ⟨sb, 0, none⟩), .agg #[.int .i64 xk, .string xa, .string xb, .int .i64 xn, .int .i64 xm], .int .i64 now, .string nn] w (HrP w sb #[.int .i64 k', .string a', .string b', .int .i64 n', .int .i64 m'] #[.nilFunc, .string who']) := by
  have HF := Lib.hid hf
  obtain ⟨w3, hw3⟩ : ∃ w3, (w.alloc (.cells #[.int .i64 xk, .string xa, .string xb, .int .i64 xn, .int .i64 xm] 55)).alloc (.cells #[.int .i64 0, .string ⟨#[]⟩, .string ⟨#[]⟩, .int .i64 0, .int .i64 0] 55) = w3 := ⟨_, rfl⟩
  have HL := Lib.hid (show Below w.heap.size w w3 by rw [← hw3]; exact ((Below.refl _ _).alloc (Nat.le_refl _) _).alloc (by rw [World.size_alloc]; omega) _)
  have HM := Lib.hid (show Bk w3 w.heap.size 55 #[.int .i64 xk, .string xa, .string xb, .int .i64 xn, .int .i64 xm] by rw [← hw3]; exact (Bk.new w _ _).alloc _)
  have HE := Lib.hid (show Bk w3 (w.heap.size + 1) 55 #[.int .i64 0, .string ⟨#[]⟩, .string ⟨#[]⟩, .int .i64 0, .int .i64 0] by
    rw [← hw3]
    have := Bk.new (w.alloc (.cells #[.int .i64 xk, .string xa, .string xb, .int .i64 xn, .int .i64 xm] 55)) 55 #[.int .i64 0, .string ⟨#[]⟩, .string ⟨#[]⟩, .int .i64 0, .int .i64 0]
    rwa [World.size_alloc] at this)
  have HS := Lib.hid (hb.below HL.out hb.lt)
  have HSL := Lib.hid hb.lt
  clear hf hb
  go_enter Tryz.func27, Tryz.ntmps27
  go_upto_region 1 with fail
  try rw [hw3]
  clear hw3
  obtain ⟨g, hg⟩ : ∃ g, w.heap.size = g := ⟨_, rfl⟩
  have HG := Lib.hid hg
  simp only [hg] at HM HE ⊢
  clear hg
  go_upto_region 3 with (go_at_call 31; (with_reducible refine (over_func sb _ _ _ _ HS.out).mono ?_); rintro e u2 ⟨rfl, hu2⟩; rw [hu2]; clear hu2)
  have HSZ := Lib.hid (show g + 1 < w3.heap.size from HE.out.lt)
  go_upto_region 4 with fail
  try simp only [List.cons_append, List.nil_append]
  have HN := Lib.hid (Bk.new w3 55 #[.int .i64 0, .string ⟨#[]⟩, .string ⟨#[]⟩, .int .i64 0, .int .i64 0])
  have HB4 := Lib.hid ((Below.refl w3.heap.size w3).alloc (Nat.le_refl _) (.cells #[.int .i64 0, .string ⟨#[]⟩, .string ⟨#[]⟩, .int .i64 0, .int .i64 0] 55))
  obtain ⟨G, hG⟩ : ∃ G, w3.heap.size = G := ⟨_, rfl⟩
  obtain ⟨w4, hw4⟩ : ∃ w4, w3.alloc (.cells #[.int .i64 0, .string ⟨#[]⟩, .string ⟨#[]⟩, .int .i64 0, .int .i64 0] 55) = w4 := ⟨_, rfl⟩
  rw [hw4] at HN HB4 ⊢
  have HLE := Lib.hid (show Below w.heap.size w w4 from HL.out.trans (HB4.out.mono HL.out.size))
  have HM4 := Lib.hid (HM.out.below HB4.out HM.out.lt)
  have HE4 := Lib.hid (HE.out.below HB4.out HE.out.lt)
  have HS4 := Lib.hid (HS.out.below HB4.out HS.out.lt)
  rw [hG] at HN HSZ
  try rw [hG]
  clear hw4 hG HB4 HM HE HS HL
  have HSG := Lib.hid (show sb < g by rw [HG.out] at HSL; exact HSL.out)
  try simp only [List.cons_append, List.nil_append]
  refine wp_region_L (S := fun wz => Bk wz g 55 #[.int .i64 xk, .string xa, .string xb, .int .i64 xn, .int .i64 xm] ∧ Bk wz sb 114 #[.func (.func 103) #[r] #[], .string ⟨#[]⟩]) 14 (by kernel_rfl) (⟨HM4.out.drew, HS4.out.drew⟩) (fun hHeld => ?_)
  obtain ⟨wd, hwd⟩ : ∃ wd, w4.drew = wd := ⟨_, rfl⟩
  have HBD := Lib.hid (show Below w4.heap.size w4 wd by rw [← hwd]; exact (Below.refl _ _).drew)
  rw [hwd] at hHeld ⊢
  clear hwd
  refine takeL (some 15) [14] (i := 0) (v := ?_) rfl rfl (by kernel_rfl) (by kernel_rfl) (by kernel_rfl) (by kernel_rfl) (fun _ _ _ h => h) (Or.inl ⟨by kernel_rfl, ?_⟩) hHeld ?_
  rotate_left
  · intro wz hSw; go_simp; try (with_reducible rfl)
  try simp only [Act.put, List.setIfInBounds_toArray, List.set_cons_zero, List.set_cons_succ, List.getElem_toArray, List.getElem_cons_succ, List.getElem_cons_zero]
  refine takeL (some 16) [14] (i := 1) (v := ?_) rfl rfl (by kernel_rfl) (by kernel_rfl) (by kernel_rfl) (by kernel_rfl) (fun _ _ _ h => h) (Or.inl ⟨by kernel_rfl, ?_⟩) hHeld ?_
  rotate_left
  · intro wz hSw; go_simp; try (with_reducible rfl)
  try simp only [Act.put, List.setIfInBounds_toArray, List.set_cons_zero, List.set_cons_succ, List.getElem_toArray, List.getElem_cons_succ, List.getElem_cons_zero]
  refine takeL (some 17) [14] (i := 2) (v := ?_) rfl rfl (by kernel_rfl) (by kernel_rfl) (by kernel_rfl) (by kernel_rfl) (fun _ _ _ h => h) (Or.inl ⟨by kernel_rfl, ?_⟩) hHeld ?_
  rotate_left
  · intro wz hSw; have m0 : wz.cell? ⟨g, 0, none⟩ = some (.int .i64 xk) := hSw.1.cell 0; have m1 : wz.cell? ⟨g, 1, none⟩ = some (.string xa) := hSw.1.cell 1; have m2 : wz.cell? ⟨g, 2, none⟩ = some (.string xb) := hSw.1.cell 2; have m3 : wz.cell? ⟨g, 3, none⟩ = some (.int .i64 xn) := hSw.1.cell 3; have m4 : wz.cell? ⟨g, 4, none⟩ = some (.int .i64 xm) := hSw.1.cell 4; have s0 : wz.cell? ⟨sb, 0, none⟩ = some (.func (.func 103) #[r] #[]) := hSw.2.cell 0; go_simp; try (with_reducible rfl)
  try simp only [Act.put, List.setIfInBounds_toArray, List.set_cons_zero, List.set_cons_succ, List.getElem_toArray, List.getElem_cons_succ, List.getElem_cons_zero]
  refine takeL (some 18) [14] (i := 3) (v := ?_) rfl rfl (by kernel_rfl) (by kernel_rfl) (by kernel_rfl) (by kernel_rfl) (fun _ _ _ h => h) (Or.inl ⟨by kernel_rfl, ?_⟩) hHeld ?_
  rotate_left
  · intro wz hSw; have m0 : wz.cell? ⟨g, 0, none⟩ = some (.int .i64 xk) := hSw.1.cell 0; have m1 : wz.cell? ⟨g, 1, none⟩ = some (.string xa) := hSw.1.cell 1; have m2 : wz.cell? ⟨g, 2, none⟩ = some (.string xb) := hSw.1.cell 2; have m3 : wz.cell? ⟨g, 3, none⟩ = some (.int .i64 xn) := hSw.1.cell 3; have m4 : wz.cell? ⟨g, 4, none⟩ = some (.int .i64 xm) := hSw.1.cell 4; have s0 : wz.cell? ⟨sb, 0, none⟩ = some (.func (.func 103) #[r] #[]) := hSw.2.cell 0; go_simp; try (with_reducible rfl)
  try simp only [Act.put, List.setIfInBounds_toArray, List.set_cons_zero, List.set_cons_succ, List.getElem_toArray, List.getElem_cons_succ, List.getElem_cons_zero]
  refine takeL (some 19) [14] (i := 4) (v := ?_) rfl rfl (by kernel_rfl) (by kernel_rfl) (by kernel_rfl) (by kernel_rfl) (fun _ _ _ h => h) (Or.inl ⟨by kernel_rfl, ?_⟩) hHeld ?_
  rotate_left
  · intro wz hSw; have m0 : wz.cell? ⟨g, 0, none⟩ = some (.int .i64 xk) := hSw.1.cell 0; have m1 : wz.cell? ⟨g, 1, none⟩ = some (.string xa) := hSw.1.cell 1; have m2 : wz.cell? ⟨g, 2, none⟩ = some (.string xb) := hSw.1.cell 2; have m3 : wz.cell? ⟨g, 3, none⟩ = some (.int .i64 xn) := hSw.1.cell 3; have m4 : wz.cell? ⟨g, 4, none⟩ = some (.int .i64 xm) := hSw.1.cell 4; have s0 : wz.cell? ⟨sb, 0, none⟩ = some (.func (.func 103) #[r] #[]) := hSw.2.cell 0; go_simp; try (with_reducible rfl)
  try simp only [Act.put, List.setIfInBounds_toArray, List.set_cons_zero, List.set_cons_succ, List.getElem_toArray, List.getElem_cons_succ, List.getElem_cons_zero]
  refine takeL (some 20) [14] (i := 5) (v := ?_) rfl rfl (by kernel_rfl) (by kernel_rfl) (by kernel_rfl) (by kernel_rfl) (fun _ _ _ h => h) (Or.inl ⟨by kernel_rfl, ?_⟩) hHeld ?_
  rotate_left
  · intro wz hSw; have m0 : wz.cell? ⟨g, 0, none⟩ = some (.int .i64 xk) := hSw.1.cell 0; have m1 : wz.cell? ⟨g, 1, none⟩ = some (.string xa) := hSw.1.cell 1; have m2 : wz.cell? ⟨g, 2, none⟩ = some (.string xb) := hSw.1.cell 2; have m3 : wz.cell? ⟨g, 3, none⟩ = some (.int .i64 xn) := hSw.1.cell 3; have m4 : wz.cell? ⟨g, 4, none⟩ = some (.int .i64 xm) := hSw.1.cell 4; have s0 : wz.cell? ⟨sb, 0, none⟩ = some (.func (.func 103) #[r] #[]) := hSw.2.cell 0; go_simp; try (with_reducible rfl)
  try simp only [Act.put, List.setIfInBounds_toArray, List.set_cons_zero, List.set_cons_succ, List.getElem_toArray, List.getElem_cons_succ, List.getElem_cons_zero]
  refine takeL (some 21) [14] (i := 6) (v := ?_) rfl rfl (by kernel_rfl) (by kernel_rfl) (by kernel_rfl) (by kernel_rfl) (fun _ _ _ h => h) (Or.inl ⟨by kernel_rfl, ?_⟩) hHeld ?_
  rotate_left
  · intro wz hSw; go_simp; try (with_reducible rfl)
  try simp only [Act.put, List.setIfInBounds_toArray, List.set_cons_zero, List.set_cons_succ, List.getElem_toArray, List.getElem_cons_succ, List.getElem_cons_zero]
  refine takeL (some 22) [14] (i := 7) (v := ?_) rfl rfl (by kernel_rfl) (by kernel_rfl) (by kernel_rfl) (by kernel_rfl) (fun _ _ _ h => h) (Or.inl ⟨by kernel_rfl, ?_⟩) hHeld ?_
  rotate_left
  · intro wz hSw; go_simp; try (with_reducible rfl)
  try simp only [Act.put, List.setIfInBounds_toArray, List.set_cons_zero, List.set_cons_succ, List.getElem_toArray, List.getElem_cons_succ, List.getElem_cons_zero]
  refine wpAnyL_ready (rs := [8]) (by kernel_rfl) (by simp) (AllReadyL.cons rfl (fun K hK => ?_) AllReadyL.nil)
  rw [if_pos (by kernel_rfl)]
  go_simp
  refine (HF.out _ (HLE.out.trans (HBD.out.mono HLE.out.size))).mono ?_
  rintro e u5 ⟨rfl, hb5⟩
  try dsimp only
  refine hK.out _ _ (⟨hHeld.1.below hb5 hHeld.1.lt, hHeld.2.below hb5 hHeld.2.lt⟩) (fun hHeld => ?_)
  try simp only [Act.put, List.setIfInBounds_toArray, List.set_cons_zero, List.set_cons_succ, List.getElem_toArray, List.getElem_cons_succ, List.getElem_cons_zero]
  have HB5 := Lib.hid (HBD.out.trans (hb5.mono HBD.out.size))
  clear hb5 HBD
  refine takeL (some 14) [14] (i := 9) (v := ?_) rfl rfl (by kernel_rfl) (by kernel_rfl) (by kernel_rfl) (by kernel_rfl) (fun _ _ _ h => h) (Or.inl ⟨by kernel_rfl, ?_⟩) hHeld ?_
  rotate_left
  · intro wz hSw; go_simp; try (with_reducible rfl)
  try simp only [Act.put, List.setIfInBounds_toArray, List.set_cons_zero, List.set_cons_succ, List.getElem_toArray, List.getElem_cons_succ, List.getElem_cons_zero]
  refine takeL (some 24) [14] (i := 10) (v := ?_) rfl rfl (by kernel_rfl) (by kernel_rfl) (by kernel_rfl) (by kernel_rfl) (fun _ _ _ h => h) (Or.inl ⟨by kernel_rfl, ?_⟩) hHeld ?_
  rotate_left
  · intro wz hSw; go_simp; try (with_reducible rfl)
  try simp only [Act.put, List.setIfInBounds_toArray, List.set_cons_zero, List.set_cons_succ, List.getElem_toArray, List.getElem_cons_succ, List.getElem_cons_zero]
  refine takeL (some 25) [14] (i := 11) (v := ?_) rfl rfl (by kernel_rfl) (by kernel_rfl) (by kernel_rfl) (by kernel_rfl) (fun _ _ _ h => h) (Or.inl ⟨by kernel_rfl, ?_⟩) hHeld ?_
  rotate_left
  · intro wz hSw; go_simp; try (with_reducible rfl)
  try simp only [Act.put, List.setIfInBounds_toArray, List.set_cons_zero, List.set_cons_succ, List.getElem_toArray, List.getElem_cons_succ, List.getElem_cons_zero]
  have HN5 := Lib.hid (HN.out.below HB5.out HN.out.lt)
  have z0 : u5.cell? ⟨G, 0, none⟩ = some (.int .i64 0) := HN5.out.cell 0
  have z1 : u5.cell? ⟨G, 1, none⟩ = some (.string ⟨#[]⟩) := HN5.out.cell 1
  have z2 : u5.cell? ⟨G, 2, none⟩ = some (.string ⟨#[]⟩) := HN5.out.cell 2
  have z3 : u5.cell? ⟨G, 3, none⟩ = some (.int .i64 0) := HN5.out.cell 3
  have z4 : u5.cell? ⟨G, 4, none⟩ = some (.int .i64 0) := HN5.out.cell 4
  have f0 := HN5.out.frozen 0
  have f1 := HN5.out.frozen 1
  have f2 := HN5.out.frozen 2
  have f3 := HN5.out.frozen 3
  have f4 := HN5.out.frozen 4
  refine wpAnyL_ready (rs := [12]) (by kernel_rfl) (by simp) (AllReadyL.cons rfl (fun K hK => ?_) AllReadyL.nil)
  rw [if_pos (by kernel_rfl)]
  go_simp
  clear z0 z1 z2 z3 z4 f0 f1 f2 f3 f4
  have HN6 := Lib.hid (show Bk (((((u5.setCell ⟨G, 0, none⟩ (.int .i64 k')).setCell ⟨G, 1, none⟩ (.string a')).setCell ⟨G, 2, none⟩ (.string b')).setCell ⟨G, 3, none⟩ (.int .i64 n')).setCell ⟨G, 4, none⟩ (.int .i64 m')) G 55 #[.int .i64 k', .string a', .string b', .int .i64 n', .int .i64 m'] from HN5.out.set5 _ _ _ _ _)
  have HM6 := Lib.hid (show Bk (((((u5.setCell ⟨G, 0, none⟩ (.int .i64 k')).setCell ⟨G, 1, none⟩ (.string a')).setCell ⟨G, 2, none⟩ (.string b')).setCell ⟨G, 3, none⟩ (.int .i64 n')).setCell ⟨G, 4, none⟩ (.int .i64 m')) g 55 #[.int .i64 xk, .string xa, .string xb, .int .i64 xn, .int .i64 xm] from hHeld.1.far5 (by have := HSZ.out; omega) _ _ _ _ _)
  have HS6 := Lib.hid (show Bk (((((u5.setCell ⟨G, 0, none⟩ (.int .i64 k')).setCell ⟨G, 1, none⟩ (.string a')).setCell ⟨G, 2, none⟩ (.string b')).setCell ⟨G, 3, none⟩ (.int .i64 n')).setCell ⟨G, 4, none⟩ (.int .i64 m')) sb 114 #[.func (.func 103) #[r] #[], .string ⟨#[]⟩] from hHeld.2.far5 (by have := HSZ.out; have := HSG.out; omega) _ _ _ _ _)
  have HE6 := Lib.hid (show Bk (((((u5.setCell ⟨G, 0, none⟩ (.int .i64 k')).setCell ⟨G, 1, none⟩ (.string a')).setCell ⟨G, 2, none⟩ (.string b')).setCell ⟨G, 3, none⟩ (.int .i64 n')).setCell ⟨G, 4, none⟩ (.int .i64 m')) (g + 1) 55 #[.int .i64 0, .string ⟨#[]⟩, .string ⟨#[]⟩, .int .i64 0, .int .i64 0] from (HE4.out.below HB5.out HE4.out.lt).far5 (by have := HSZ.out; omega) _ _ _ _ _)
  have HL6 := Lib.hid (show Below w.heap.size w (((((u5.setCell ⟨G, 0, none⟩ (.int .i64 k')).setCell ⟨G, 1, none⟩ (.string a')).setCell ⟨G, 2, none⟩ (.string b')).setCell ⟨G, 3, none⟩ (.int .i64 n')).setCell ⟨G, 4, none⟩ (.int .i64 m')) from below_set5 (HLE.out.trans (HB5.out.mono HLE.out.size)) (by have h1 := HSZ.out; rw [HG.out]; omega) _ _ _ _ _)
  refine hK.out _ _ ⟨HM6.out, HS6.out⟩ (fun hHeld => ?_)
  try simp only [Act.put, List.setIfInBounds_toArray, List.set_cons_zero, List.set_cons_succ, List.getElem_toArray, List.getElem_cons_succ, List.getElem_cons_zero]
  obtain ⟨u6, hu6⟩ : ∃ u6, (((((u5.setCell ⟨G, 0, none⟩ (.int .i64 k')).setCell ⟨G, 1, none⟩ (.string a')).setCell ⟨G, 2, none⟩ (.string b')).setCell ⟨G, 3, none⟩ (.int .i64 n')).setCell ⟨G, 4, none⟩ (.int .i64 m')) = u6 := ⟨_, rfl⟩
  rw [hu6] at HN6 HM6 HS6 HE6 HL6 hHeld ⊢
  clear hu6 HN5 HB5 HM4 HS4 HE4 HN HLE
  refine takeL (some 26) [14] (i := 13) (v := ?_) rfl rfl (by kernel_rfl) (by kernel_rfl) (by kernel_rfl) (by kernel_rfl) (fun _ _ _ h => h) (Or.inl ⟨by kernel_rfl, ?_⟩) hHeld ?_
  rotate_left
  · intro wz hSw; have m0 : wz.cell? ⟨g, 0, none⟩ = some (.int .i64 xk) := hSw.1.cell 0; have m1 : wz.cell? ⟨g, 1, none⟩ = some (.string xa) := hSw.1.cell 1; have m2 : wz.cell? ⟨g, 2, none⟩ = some (.string xb) := hSw.1.cell 2; have m3 : wz.cell? ⟨g, 3, none⟩ = some (.int .i64 xn) := hSw.1.cell 3; have m4 : wz.cell? ⟨g, 4, none⟩ = some (.int .i64 xm) := hSw.1.cell 4; have s0 : wz.cell? ⟨sb, 0, none⟩ = some (.func (.func 103) #[r] #[]) := hSw.2.cell 0; go_simp; try (with_reducible rfl)
  try simp only [Act.put, List.setIfInBounds_toArray, List.set_cons_zero, List.set_cons_succ, List.getElem_toArray, List.getElem_cons_succ, List.getElem_cons_zero]
  have s0 : u6.cell? ⟨sb, 0, none⟩ = some (.func (.func 103) #[r] #[]) := HS6.out.cell 0
  have s1 : u6.cell? ⟨sb, 1, none⟩ = some (.string ⟨#[]⟩) := HS6.out.cell 1
  have f0 := HS6.out.frozen 0
  have f1 := HS6.out.frozen 1
  refine wpAnyL_ready (rs := [14]) (by kernel_rfl) (by simp) (AllReadyL.last rfl (fun K hK => ?_))
  rw [if_pos (by kernel_rfl)]
  go_simp
  clear s0 s1 f0 f1
  refine hK.out _ _ ?_
  try simp only [Act.put, List.setIfInBounds_toArray, List.set_cons_zero, List.set_cons_succ, List.getElem_toArray, List.getElem_cons_succ, List.getElem_cons_zero]
  refine wpAnyL_done (by kernel_rfl) ?_ _
  have HS7 := Lib.hid (show Bk ((u6.setCell ⟨sb, 0, none⟩ (.nilFunc)).setCell ⟨sb, 1, none⟩ (.string who')) sb 114 #[.nilFunc, .string who'] from HS6.out.set2 _ _)
  have HN7 := Lib.hid (show Bk ((u6.setCell ⟨sb, 0, none⟩ (.nilFunc)).setCell ⟨sb, 1, none⟩ (.string who')) G 55 #[.int .i64 k', .string a', .string b', .int .i64 n', .int .i64 m'] from HN6.out.far2 (by have := HSZ.out; have := HSG.out; omega) _ _)
  have HE7 := Lib.hid (show Bk ((u6.setCell ⟨sb, 0, none⟩ (.nilFunc)).setCell ⟨sb, 1, none⟩ (.string who')) (g + 1) 55 #[.int .i64 0, .string ⟨#[]⟩, .string ⟨#[]⟩, .int .i64 0, .int .i64 0] from HE6.out.far2 (by have := HSG.out; omega) _ _)
  have HK7 := Lib.hid (show Ke [sb] w ((u6.setCell ⟨sb, 0, none⟩ (.nilFunc)).setCell ⟨sb, 1, none⟩ (.string who')) from ((Ke.of HL6.out).nil.set (p := ⟨sb, 0, none⟩) (List.mem_singleton.2 rfl) _).set (p := ⟨sb, 1, none⟩) (List.mem_singleton.2 rfl) _)
  refine gen_qS (fun y => Bk y sb 114 #[.nilFunc, .string who'] ∧ Bk y G 55 #[.int .i64 k', .string a', .string b', .int .i64 n', .int .i64 m'] ∧ Bk y (g + 1) 55 #[.int .i64 0, .string ⟨#[]⟩, .string ⟨#[]⟩, .int .i64 0, .int .i64 0] ∧ Ke [sb] w y) ⟨HS7.out, HN7.out, HE7.out, HK7.out⟩ (fun y hy => ?_)
  have HY := Lib.hid hy
  clear hy HS7 HN7 HE7 HK7 HN6 HM6 HS6 HE6 HL6 hHeld
  have c0 : y.cell? ⟨G, 0, none⟩ = some (.int .i64 k') := HY.out.2.1.cell 0
  have c1 : y.cell? ⟨G, 1, none⟩ = some (.string a') := HY.out.2.1.cell 1
  have c2 : y.cell? ⟨G, 2, none⟩ = some (.string b') := HY.out.2.1.cell 2
  have c3 : y.cell? ⟨G, 3, none⟩ = some (.int .i64 n') := HY.out.2.1.cell 3
  have c4 : y.cell? ⟨G, 4, none⟩ = some (.int .i64 m') := HY.out.2.1.cell 4
  have z0 : y.cell? ⟨g + 1, 0, none⟩ = some (.int .i64 0) := HY.out.2.2.1.cell 0
  have z1 : y.cell? ⟨g + 1, 1, none⟩ = some (.string ⟨#[]⟩) := HY.out.2.2.1.cell 1
  have z2 : y.cell? ⟨g + 1, 2, none⟩ = some (.string ⟨#[]⟩) := HY.out.2.2.1.cell 2
  have z3 : y.cell? ⟨g + 1, 3, none⟩ = some (.int .i64 0) := HY.out.2.2.1.cell 3
  have z4 : y.cell? ⟨g + 1, 4, none⟩ = some (.int .i64 0) := HY.out.2.2.1.cell 4
  have f0 := HY.out.2.2.1.frozen 0
  have f1 := HY.out.2.2.1.frozen 1
  have f2 := HY.out.2.2.1.frozen 2
  have f3 := HY.out.2.2.1.frozen 3
  have f4 := HY.out.2.2.1.frozen 4
  go_wp2
  have hE : Bk (((((y.setCell ⟨(g + 1), 0, none⟩ (.int .i64 k')).setCell ⟨(g + 1), 1, none⟩ (.string a')).setCell ⟨(g + 1), 2, none⟩ (.string b')).setCell ⟨(g + 1), 3, none⟩ (.int .i64 n')).setCell ⟨(g + 1), 4, none⟩ (.int .i64 m')) (g + 1) 55 #[.int .i64 k', .string a', .string b', .int .i64 n', .int .i64 m'] := HY.out.2.2.1.set5 _ _ _ _ _
  have hS : Bk (((((y.setCell ⟨(g + 1), 0, none⟩ (.int .i64 k')).setCell ⟨(g + 1), 1, none⟩ (.string a')).setCell ⟨(g + 1), 2, none⟩ (.string b')).setCell ⟨(g + 1), 3, none⟩ (.int .i64 n')).setCell ⟨(g + 1), 4, none⟩ (.int .i64 m')) sb 114 #[.nilFunc, .string who'] := HY.out.1.far5 (by have := HSG.out; omega) _ _ _ _ _
  have hK : Ke [sb] w (((((y.setCell ⟨(g + 1), 0, none⟩ (.int .i64 k')).setCell ⟨(g + 1), 1, none⟩ (.string a')).setCell ⟨(g + 1), 2, none⟩ (.string b')).setCell ⟨(g + 1), 3, none⟩ (.int .i64 n')).setCell ⟨(g + 1), 4, none⟩ (.int .i64 m')) := ke_set5 HY.out.2.2.2 (by rw [HG.out]; omega) _ _ _ _ _
  have p0 := hE.cell 0; have p1 := hE.cell 1; have p2 := hE.cell 2; have p3 := hE.cell 3; have p4 := hE.cell 4
  refine bodyPost_ret (v := .tuple #[.agg #[.int .i64 k', .string a', .string b', .int .i64 n', .int .i64 m'], .bool true]) ?_ rfl ⟨rfl, hS, hK⟩
  simp [results, Tryz.f27, go_sem, p0, p1, p2, p3, p4]

set_option maxHeartbeats 2000000 in
theorem hear_over (sb : Nat) (xk xn xm now : Int) (xa xb nn a : ByteArray) (w : World) (hb : Bk w sb 114 #[.nilFunc, .string a]) :
    Calls Tryz.prog 27 #[.pointer (some ⟨sb, 0, none⟩), .agg #[.int .i64 xk, .string xa, .string xb, .int .i64 xn, .int .i64 xm], .int .i64 now, .string nn] w fun e u' => e = .returned (.tuple #[.agg #[.int .i64 0, .string ⟨#[]⟩, .string ⟨#[]⟩, .int .i64 0, .int .i64 0], .bool false]) ∧ Below w.heap.size w u' := by
  obtain ⟨w3, hw3⟩ : ∃ w3, (w.alloc (.cells #[.int .i64 xk, .string xa, .string xb, .int .i64 xn, .int .i64 xm] 55)).alloc (.cells #[.int .i64 0, .string ⟨#[]⟩, .string ⟨#[]⟩, .int .i64 0, .int .i64 0] 55) = w3 := ⟨_, rfl⟩
  have HL := Lib.hid (show Below w.heap.size w w3 by rw [← hw3]; exact ((Below.refl _ _).alloc (Nat.le_refl _) _).alloc (by rw [World.size_alloc]; omega) _)
  have HE := Lib.hid (show Bk w3 (w.heap.size + 1) 55 #[.int .i64 0, .string ⟨#[]⟩, .string ⟨#[]⟩, .int .i64 0, .int .i64 0] by
    rw [← hw3]
    have := Bk.new (w.alloc (.cells #[.int .i64 xk, .string xa, .string xb, .int .i64 xn, .int .i64 xm] 55)) 55 #[.int .i64 0, .string ⟨#[]⟩, .string ⟨#[]⟩, .int .i64 0, .int .i64 0]
    rwa [World.size_alloc] at this)
  have HS := Lib.hid (hb.below HL.out hb.lt)
  clear hb
  go_enter Tryz.func27, Tryz.ntmps27
  go_upto_region 1 with fail
  try rw [hw3]
  clear hw3
  have z0 : w3.cell? ⟨w.heap.size + 1, 0, none⟩ = some (.int .i64 0) := HE.out.cell 0
  have z1 : w3.cell? ⟨w.heap.size + 1, 1, none⟩ = some (.string ⟨#[]⟩) := HE.out.cell 1
  have z2 : w3.cell? ⟨w.heap.size + 1, 2, none⟩ = some (.string ⟨#[]⟩) := HE.out.cell 2
  have z3 : w3.cell? ⟨w.heap.size + 1, 3, none⟩ = some (.int .i64 0) := HE.out.cell 3
  have z4 : w3.cell? ⟨w.heap.size + 1, 4, none⟩ = some (.int .i64 0) := HE.out.cell 4
  have f0 := HE.out.frozen 0
  have f1 := HE.out.frozen 1
  have f2 := HE.out.frozen 2
  have f3 := HE.out.frozen 3
  have f4 := HE.out.frozen 4
  go_wp2_with (go_at_call 31; (with_reducible refine (over_nil sb _ _ HS.out).mono ?_); rintro e u2 ⟨rfl, hu2⟩; rw [hu2]; clear hu2)
  have HU : Bk (((((w3.setCell ⟨(w.heap.size + 1), 0, none⟩ (.int .i64 0)).setCell ⟨(w.heap.size + 1), 1, none⟩ (.string ⟨#[]⟩)).setCell ⟨(w.heap.size + 1), 2, none⟩ (.string ⟨#[]⟩)).setCell ⟨(w.heap.size + 1), 3, none⟩ (.int .i64 0)).setCell ⟨(w.heap.size + 1), 4, none⟩ (.int .i64 0)) (w.heap.size + 1) 55 #[.int .i64 0, .string ⟨#[]⟩, .string ⟨#[]⟩, .int .i64 0, .int .i64 0] := HE.out.set5 _ _ _ _ _
  have p0 := HU.cell 0; have p1 := HU.cell 1; have p2 := HU.cell 2; have p3 := HU.cell 3; have p4 := HU.cell 4
  refine bodyPost_ret (v := .tuple #[.agg #[.int .i64 0, .string ⟨#[]⟩, .string ⟨#[]⟩, .int .i64 0, .int .i64 0], .bool false]) ?_ rfl ⟨rfl, below_set5 HL.out (Nat.le_succ _) _ _ _ _ _⟩
  simp [results, Tryz.f27, go_sem, p0, p1, p2, p3, p4]
end Go.Proofs.YtekobdmlgbffnaaGreatDoor
