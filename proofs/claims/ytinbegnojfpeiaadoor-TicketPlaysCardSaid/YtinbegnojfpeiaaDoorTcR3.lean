/- The document's own book of tickets: Redeem: its contract. (Begun in round 14, in a seat of the document's own book alone.) -/
import Derived.Test.YtinbegnojfpeiaaDoorTcR2
namespace Go.Proofs.YtinbegnojfpeiaaDoor
set_option linter.unusedVariables false
set_option maxRecDepth 100000
set_option linter.unusedSimpArgs false
open Go.RowKit

abbrev set4 (u : World) (g : Nat) (p : Ps) : World := (((u.setCell ⟨g, 0, none⟩ (.int .i64 p.vis)).setCell ⟨g, 1, none⟩ (.string p.nm)).setCell ⟨g, 2, none⟩ (.string p.ten)).setCell ⟨g, 3, none⟩ (.int .i64 p.ep)
theorem Bk.set4 {u : World} {g : Nat} {t : TypeId} {q : Ps} (h : Bk u g t (pcs q)) (p : Ps) : Bk (set4 u g p) g t (pcs p) := by
  have kU := (((h.set 0 (.int .i64 p.vis)).set 1 (.string p.nm)).set 2 (.string p.ten)).set 3 (.int .i64 p.ep)
  simpa only [pcs, List.setIfInBounds_toArray, List.set_cons_zero, List.set_cons_succ] using kU
theorem ke_set4 (u : World) (g : Nat) (p : Ps) : Ke [g] u (set4 u g p) :=
  ((((Ke.refl [g] u).set (p := ⟨g, 0, none⟩) (List.mem_singleton.2 rfl) _).set (p := ⟨g, 1, none⟩) (List.mem_singleton.2 rfl) _).set (p := ⟨g, 2, none⟩) (List.mem_singleton.2 rfl) _).set (p := ⟨g, 3, none⟩) (List.mem_singleton.2 rfl) _
/-- A block that came after u turns. -/
theorem Sp.late {u v w : World} {G G' : List Nat} (h : Sp u v G G') {g : Nat} (k : Ke [g] v w) (hg : u.heap.size ≤ g) : Sp u w G G' :=
  ⟨⟨k.os.trans h.k.os, k.tape.trans h.k.tape, k.output.trans h.k.output, Nat.le_trans h.k.size k.size, fun i hi hG => (k.block i (Nat.lt_of_lt_of_le hi h.k.size) (fun hx => by
      have := List.mem_singleton.1 hx
      omega)).trans (h.k.block i hi hG)⟩, h.g⟩
section
variable {W u u' : World} {H H' : List Nat} {db : Nat} {key : ByteArray} {b b' : Bt}
theorem Dt.late {v : World} (h : Dt W v H db key b) {g : Nat} (k : Ke [g] v u) (hg : g ∉ H) (hW : W.heap.size ≤ g) : Dt W u H db key b :=
  h.ke k (fun y hy hx => hg (by rw [← List.mem_singleton.1 hx]; exact hy)) (h.l.trans (k.below h.l.size (fun x hx => by rw [List.mem_singleton.1 hx]; exact hW)))
theorem redNo {W u u1 : World} {H : List Nat} {db : Nat} {key : ByteArray} {b : Bt} {R : Ps × Int × Bt} {g : Nat} {t : TypeId} (hz : Bz u1 H g t (pcs zeroPs)) (h : Dt W u H db key b) (hb : Below u.heap.size u u1) (hg : u.heap.size ≤ g) (q : Ps) (m : Int) (hR : R = (q, m, b)) (e : Ending) (he : e = .returned (.tuple #[.agg (pcs q), .int .i64 m])) : RedPost W u H db key R e (set4 u1 g q) := by
  refine ⟨by rw [hR]; exact he, H, ?_, ?_⟩
  · rw [hR]
    exact (h.on hb).late (ke_set4 _ _ _) hz.n (Nat.le_trans h.l.size hg)
  · exact ((Ke.of hb).sp).late (ke_set4 _ _ _) hg
set_option maxRecDepth 100000 in
set_option maxHeartbeats 4000000 in
theorem t_redeem (h : Dt W u H db key b) (s ten : ByteArray) (R : Ps × Int × Bt) (hE : redT b s ten = R) (hf : b.l.length ≤ 64) :
    Calls Tryd.prog 15 #[.pointer (some ⟨db, 0, none⟩), .string s, .string ten] u fun e u' => RedPost W u H db key R e u' := by
  obtain ⟨A, c, h1, h2, _⟩ := h.ex
  obtain ⟨n, hn⟩ : ∃ n, b.l.length = n := ⟨_, rfl⟩
  have HR := Lib.hid (Ow.rw_ (f := tkc) (k := 5) (fun _ => rfl) h2)
  have HN := Lib.hid hn
  have HF := Lib.hid hf
  have HD := Lib.hid h
  have HE := Lib.hid hE
  obtain ⟨u1, hu1⟩ : ∃ u1, u.alloc (.cells #[.int .i64 0, .string ⟨#[]⟩, .string ⟨#[]⟩, .int .i64 0] 31) = u1 := ⟨_, rfl⟩
  obtain ⟨g, hg⟩ : ∃ g, u.heap.size = g := ⟨_, rfl⟩
  have HB := Lib.hid (show Below u.heap.size u u1 by rw [← hu1]; exact (Below.refl _ _).alloc (Nat.le_refl _) _)
  have HZ := Lib.hid (show Bz u1 H g 31 (pcs zeroPs) by rw [← hu1, ← hg]; exact Bz.new h.hi _ _)
  have HG := Lib.hid hg
  rw [hn] at h1 hf
  have c2 : u1.cell? ⟨db, 2, none⟩ = some (.slice A n c) := (h1.below HB.out h1.lt).cell 2
  have z0 : u1.cell? ⟨g, 0, none⟩ = some (.int .i64 0) := HZ.out.b.cell 0
  have z1 : u1.cell? ⟨g, 1, none⟩ = some (.string ⟨#[]⟩) := HZ.out.b.cell 1
  have z2 : u1.cell? ⟨g, 2, none⟩ = some (.string ⟨#[]⟩) := HZ.out.b.cell 2
  have z3 : u1.cell? ⟨g, 3, none⟩ = some (.int .i64 0) := HZ.out.b.cell 3
  have f0 := HZ.out.b.frozen 0
  have f1 := HZ.out.b.frozen 1
  have f2 := HZ.out.b.frozen 2
  have f3 := HZ.out.b.frozen 3
  clear h h1 h2 hn hE
  go_enter Tryd.func15, Tryd.ntmps15
  go_upto_region 1 with fail
  try rw [hu1]
  try rw [hg]
  clear hu1 hg
  go_wp2
  go_loopw [8] (fun v8 wr => ∃ i : Nat, i ≤ n ∧ v8 = .int .i64 (i : Int) ∧ Hid (∀ y ∈ b.l.take i, texT s y = false) ∧ wr = u1) (fun v8 _ => n - (intOf v8).toNat)
  case atStart => exact ⟨0, by omega, rfl, Lib.hid (fun y hy => by simp at hy), by first | rfl | trivial⟩
  case round =>
    obtain ⟨i, hi, rfl, H0, hwr⟩ := hrel
    subst hwr
    by_cases hi1 : i < n
    · have hi2 : (i : Int) < (n : Int) := by omega
      obtain ⟨bx, o, x, rfl, hx, hc⟩ := row5 HR.out i (by rw [HN.out]; exact hi1)
      obtain ⟨x0, x1, x2, x3, x4⟩ := hc _ HB.out
      have HX := Lib.hid hx
      obtain ⟨e, he⟩ : ∃ e, (x.tx.toList == s.toList) = e := ⟨_, rfl⟩
      have HV := Lib.hid (show texT s x = e from he)
      have he2 : (x.tx.toList != s.toList) = !e := by rw [bne, he]
      clear hc hx
      cases e with
      | true =>
        simp only [Bool.not_true] at he2
        obtain ⟨k, hk⟩ : ∃ k, (x.p.ten.toList == ten.toList) = k := ⟨_, rfl⟩
        have HP := Lib.hid (show R = if k = true then (x.p, 0, ⟨b.se, b.l.take i ++ b.l.drop (i + 1)⟩) else (zeroPs, 131, b) from by
          rw [← HE.out, red_at HX.out H0.out HV.out, ← hk]; rfl)
        have hk2 : (x.p.ten.toList != ten.toList) = !k := by rw [bne, hk]
        go_upto_region 6 with fail
        obtain ⟨⟨xv, xn, xt, xe⟩, hxp⟩ : ∃ q, x.p = q := ⟨_, rfl⟩
        rw [hxp] at HP hk hk2 x1 x2 x3 x4
        dsimp only at hk hk2 x1 x2 x3 x4
        simp only [hxp]
        obtain ⟨u3, hu3⟩ : ∃ u3, wr.alloc (.cells #[.int .i64 xv, .string xn, .string xt, .int .i64 xe] 31) = u3 := ⟨_, rfl⟩
        obtain ⟨gx, hgx⟩ : ∃ gx, wr.heap.size = gx := ⟨_, rfl⟩
        have HB3 := Lib.hid (show Below u.heap.size u u3 by rw [← hu3]; exact HB.out.alloc HB.out.size _)
        have hlt : ∀ y ∈ H, y < wr.heap.size := fun y hy => Nat.lt_of_lt_of_le (HD.out.hi y hy) HB.out.size
        have HX3 := Lib.hid (show Bz u3 H gx 31 (pcs ⟨xv, xn, xt, xe⟩) by rw [← hu3, ← hgx]; exact Bz.new hlt _ _)
        have HZ3 := Lib.hid (show Bz u3 H g 31 (pcs zeroPs) by rw [← hu3]; exact HZ.out.alloc _)
        rw [hu3, hgx]
        clear hu3 hgx hlt x0 x1 x2 x3 x4 c2 z0 z1 z2 z3 f0 f1 f2 f3 hxp he he2 H0 HV
        have y2 : u3.cell? ⟨gx, 2, none⟩ = some (.string xt) := HX3.out.b.cell 2
        cases k with
        | false =>
          have z0 : u3.cell? ⟨g, 0, none⟩ = some (.int .i64 0) := HZ3.out.b.cell 0
          have z1 : u3.cell? ⟨g, 1, none⟩ = some (.string ⟨#[]⟩) := HZ3.out.b.cell 1
          have z2 : u3.cell? ⟨g, 2, none⟩ = some (.string ⟨#[]⟩) := HZ3.out.b.cell 2
          have z3 : u3.cell? ⟨g, 3, none⟩ = some (.int .i64 0) := HZ3.out.b.cell 3
          have f0 := HZ3.out.b.frozen 0
          have f1 := HZ3.out.b.frozen 1
          have f2 := HZ3.out.b.frozen 2
          have f3 := HZ3.out.b.frozen 3
          simp only [Bool.not_false] at hk2
          go_wp2
          have HU := HZ3.out.b.set4 zeroPs
          simp only [set4, pcs, zeroPs] at HU
          have p0 := HU.cell 0; have p1 := HU.cell 1; have p2 := HU.cell 2; have p3 := HU.cell 3
          refine bodyPost_ret (v := .tuple #[.agg (pcs zeroPs), .int .i64 131]) ?_ rfl (redNo HZ3.out HD.out HB3.out (by rw [HG.out]; exact Nat.le_refl _) zeroPs 131 HP.out _ rfl)
          simp [results, Tryd.f15, go_sem, zeroPs, p0, p1, p2, p3]
        | true =>
          simp only [Bool.not_true] at hk2
          have HC := Lib.hid (t_drop (HD.out.on HB3.out) i (by rw [HN.out]; exact hi1) HF.out)
          go_upto_region 9 with (go_at_call 24; (with_reducible refine HC.out.mono ?_); rintro e u4 ⟨H4, rfl, k1, k2⟩; have HD4 := Lib.hid k1; have HS4 := Lib.hid k2; clear k1 k2)
          clear y2
          have HX4 := Lib.hid (HX3.out.step HS4.out)
          have HZ4 := Lib.hid (HZ3.out.step HS4.out)
          have y0 : u4.cell? ⟨gx, 0, none⟩ = some (.int .i64 xv) := HX4.out.b.cell 0
          have y1 : u4.cell? ⟨gx, 1, none⟩ = some (.string xn) := HX4.out.b.cell 1
          have y2 : u4.cell? ⟨gx, 2, none⟩ = some (.string xt) := HX4.out.b.cell 2
          have y3 : u4.cell? ⟨gx, 3, none⟩ = some (.int .i64 xe) := HX4.out.b.cell 3
          have z0 : u4.cell? ⟨g, 0, none⟩ = some (.int .i64 0) := HZ4.out.b.cell 0
          have z1 : u4.cell? ⟨g, 1, none⟩ = some (.string ⟨#[]⟩) := HZ4.out.b.cell 1
          have z2 : u4.cell? ⟨g, 2, none⟩ = some (.string ⟨#[]⟩) := HZ4.out.b.cell 2
          have z3 : u4.cell? ⟨g, 3, none⟩ = some (.int .i64 0) := HZ4.out.b.cell 3
          have f0 := HZ4.out.b.frozen 0
          have f1 := HZ4.out.b.frozen 1
          have f2 := HZ4.out.b.frozen 2
          have f3 := HZ4.out.b.frozen 3
          go_wp2
          have HU := HZ4.out.b.set4 ⟨xv, xn, xt, xe⟩
          simp only [set4, pcs] at HU
          have p0 := HU.cell 0; have p1 := HU.cell 1; have p2 := HU.cell 2; have p3 := HU.cell 3
          refine bodyPost_ret (v := .tuple #[.agg #[.int .i64 xv, .string xn, .string xt, .int .i64 xe], .int .i64 0]) ?_ rfl ?_
          · simp [results, Tryd.f15, go_sem, p0, p1, p2, p3]
          · have hS := ((Ke.of HB3.out).sp (G := H)).trans HS4.out
            have hgg : u.heap.size ≤ g := by rw [HG.out]; exact Nat.le_refl _
            refine ⟨by rw [HP.out]; rfl, H4, ?_, hS.late (ke_set4 u4 g ⟨xv, xn, xt, xe⟩) hgg⟩
            rw [HP.out]
            exact HD4.out.late (ke_set4 u4 g ⟨xv, xn, xt, xe⟩) HZ4.out.n (Nat.le_trans HD.out.l.size hgg)
      | false =>
        simp only [Bool.not_false] at he2
        go_wp2
        go_roundw
        case rel =>
          refine ⟨i + 1, by omega, by go_num, Lib.hid (fun y hy => ?_), by first | rfl | trivial⟩
          rw [List.take_add_one, HX.out, List.mem_append] at hy
          rcases hy with hy | hy
          · exact H0.out y hy
          · simp at hy; rw [hy]; exact HV.out
        case measure => simp [intOf]; omega
    · have hi2 : ¬ (i : Int) < (n : Int) := by omega
      have HP := Lib.hid (show R = (zeroPs, 151, b) from by
        rw [← HE.out]
        unfold redT
        rw [(erase_no (p := texT s) (l := b.l) (fun y hy => H0.out y (by rw [List.take_of_length_le (by rw [HN.out]; omega)]; exact hy))).2])
      go_wp2
      have HU := HZ.out.b.set4 zeroPs
      simp only [set4, pcs, zeroPs] at HU
      have p0 := HU.cell 0; have p1 := HU.cell 1; have p2 := HU.cell 2; have p3 := HU.cell 3
      refine bodyPost_ret (v := .tuple #[.agg (pcs zeroPs), .int .i64 151]) ?_ rfl (redNo HZ.out HD.out HB.out (by rw [HG.out]; exact Nat.le_refl _) zeroPs 151 HP.out _ rfl)
      simp [results, Tryd.f15, go_sem, zeroPs, p0, p1, p2, p3]
end
end Go.Proofs.YtinbegnojfpeiaaDoor
