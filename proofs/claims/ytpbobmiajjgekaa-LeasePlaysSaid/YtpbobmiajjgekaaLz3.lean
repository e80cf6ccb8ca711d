/- keep, Holder, own: their contracts. (Written by gen_lz3.py.) -/
import Derived.Test.YtpbobmiajjgekaaLzT
import Derived.Test.YtpbobmiajjgekaaG12
namespace Go.Proofs.Ytpbobmiajjgekaa
set_option linter.unusedVariables false
set_option maxRecDepth 100000
set_option linter.unusedSimpArgs false
open Go.RowKit

theorem Bk.two {u : World} {a : Nat} {t t' : TypeId} {cs ds : Array Value} (h : Bk u a t cs) (k : Bk u a t' ds) : cs = ds ∧ t = t' := by
  have h3 : u.heap[a]? = some (.cells cs t (0, 0)) := h
  have h4 : u.heap[a]? = some (.cells ds t' (0, 0)) := k
  rw [h3] at h4
  injection h4 with h4
  injection h4 with h5 h6
  exact ⟨h5, h6⟩
theorem Bk.apart {u : World} {a c : Nat} {t t' : TypeId} {cs ds : Array Value} (h : Bk u a t cs) (k : Bk u c t' ds) (ht : t ≠ t') : a ≠ c := by
  rintro rfl
  exact ht (h.two k).2
theorem Bk.set6Far {w : World} {g k : Nat} {t : TypeId} {cs : Array Value} (h : Bk w g t cs) (hn : k ≠ g) (a b c d e f : Value) : Bk (Proofs.Ytpbobmiajjgekaa.set6 w k a b c d e f) g t cs :=
  (((((h.far (p := ⟨k, 0, none⟩) hn.symm a).far (p := ⟨k, 1, none⟩) hn.symm b).far (p := ⟨k, 2, none⟩) hn.symm c).far (p := ⟨k, 3, none⟩) hn.symm d).far (p := ⟨k, 4, none⟩) hn.symm e).far (p := ⟨k, 5, none⟩) hn.symm f
theorem ke_set6' {u w : World} {L : List Nat} {g : Nat} (h : Ke L u w) (hg : u.heap.size ≤ g) (v0 v1 v2 v3 v4 v5 : Value) : Ke L u (Proofs.Ytpbobmiajjgekaa.set6 w g v0 v1 v2 v3 v4 v5) := by
  have k : Below u.heap.size w (Proofs.Ytpbobmiajjgekaa.set6 w g v0 v1 v2 v3 v4 v5) := below_set6 (Below.refl _ w) hg v0 v1 v2 v3 v4 v5
  exact ⟨k.os.trans h.os, k.tape.trans h.tape, k.output.trans h.output, Nat.le_trans h.size k.size, fun i hi hL => (k.block i (by omega)).trans (h.block i hi hL)⟩
/-- What keep leaves. -/
structure KpP (a : Nat) (x : Ls) (S : Int) (u : World) (e : Ending) (u' : World) : Prop where
  e : e = .returned (.agg (lsc x))
  k : Bk u' a 32 (lsc { x with held := false, till := S })
  ke : Ke [a] u u'
set_option maxRecDepth 100000 in
set_option maxHeartbeats 2000000 in
theorem lkeep_ok (u : World) (gb mb a : Nat) (g most nx : Int) (x : Ls) (F S : Int) (h : Bk u gb 60 (lzc g most nx mb)) (hx : Bk u a 32 (lsc x)) (hw : IntKind.i64.wrap (F + g) = S) :
    Calls Try.prog 40 #[.pointer (some ⟨gb, 0, none⟩), .pointer (some ⟨a, 0, none⟩), .int .i64 F] u (KpP a x S u) := by
  have hne : a ≠ gb := hx.apart h (by decide)
  obtain ⟨u1, hu1⟩ : ∃ u1, u.alloc (.cells #[.string ⟨#[]⟩, .string ⟨#[]⟩, .int .i64 0, .int .i64 0, .int .i64 0, .bool false] 32) = u1 := ⟨_, rfl⟩
  have HB1 := Lib.hid (show Below u.heap.size u u1 by rw [← hu1]; exact (Below.refl _ _).alloc (Nat.le_refl _) _)
  obtain ⟨gz, hgz⟩ : ∃ gz, u.heap.size = gz := ⟨_, rfl⟩
  have HGZ := Lib.hid hgz
  have HZ1 := Lib.hid (show Bk u1 gz 32 #[.string ⟨#[]⟩, .string ⟨#[]⟩, .int .i64 0, .int .i64 0, .int .i64 0, .bool false] by rw [← hu1, ← hgz]; exact Bk.new _ _ _)
  have HX1 := Lib.hid (hx.below HB1.out hx.lt)
  have HG1 := Lib.hid (h.below HB1.out h.lt)
  have HLT := Lib.hid (And.intro hx.lt h.lt)
  obtain ⟨xn, xt, xc, xe, xu, xh⟩ := x
  obtain ⟨gx, hgx⟩ : ∃ gx, u1.heap.size = gx := ⟨_, rfl⟩
  obtain ⟨u2, hu2⟩ : ∃ u2, u1.alloc (.cells #[.string xn, .string xt, .int .i64 xc, .int .i64 xe, .int .i64 xu, .bool xh] 32) = u2 := ⟨_, rfl⟩
  have HB12 := Lib.hid (show Below u1.heap.size u1 u2 by rw [← hu2]; exact (Below.refl _ _).alloc (Nat.le_refl _) _)
  have HY2 := Lib.hid (show Bk u2 gx 32 #[.string xn, .string xt, .int .i64 xc, .int .i64 xe, .int .i64 xu, .bool xh] by rw [← hu2, ← hgx]; exact Bk.new _ _ _)
  have HZ2 := Lib.hid (HZ1.out.below HB12.out HZ1.out.lt)
  have HX2 := Lib.hid (HX1.out.below HB12.out HX1.out.lt)
  have HG2 := Lib.hid (HG1.out.below HB12.out HG1.out.lt)
  have HN1 := Lib.hid (show gx ≠ a by rw [← hgx]; have := HX1.out.lt; omega)
  have HN2 := Lib.hid (show gz ≠ a by rw [← hgz]; have := HLT.out.1; omega)
  have HN3 := Lib.hid (show gz ≠ gx by rw [← hgx]; have := HZ1.out.lt; omega)
  dsimp only [lsc] at HX1 HX2
  obtain ⟨u4, hu4⟩ : ∃ u4, (u2.setCell ⟨a, 5, none⟩ (.bool false)).setCell ⟨a, 4, none⟩ (.int .i64 S) = u4 := ⟨_, rfl⟩
  have HX4 := Lib.hid (show Bk u4 a 32 #[.string xn, .string xt, .int .i64 xc, .int .i64 xe, .int .i64 (S), .bool false] by rw [← hu4]; simpa only [List.setIfInBounds_toArray, List.set_cons_zero, List.set_cons_succ] using (HX2.out.set 5 (.bool false)).set 4 (.int .i64 S))
  have HY4 := Lib.hid (show Bk u4 gx 32 #[.string xn, .string xt, .int .i64 xc, .int .i64 xe, .int .i64 xu, .bool xh] by rw [← hu4]; exact (HY2.out.far (p := ⟨a, 5, none⟩) HN1.out _).far (p := ⟨a, 4, none⟩) HN1.out _)
  have HZ4 := Lib.hid (show Bk u4 gz 32 #[.string ⟨#[]⟩, .string ⟨#[]⟩, .int .i64 0, .int .i64 0, .int .i64 0, .bool false] by rw [← hu4]; exact (HZ2.out.far (p := ⟨a, 5, none⟩) HN2.out _).far (p := ⟨a, 4, none⟩) HN2.out _)
  have HK4 := Lib.hid (show Ke [a] u u4 by rw [← hu4]; exact (((Ke.of (HB1.out.trans (HB12.out.mono HB1.out.size))).nil).set (p := ⟨a, 5, none⟩) (List.mem_singleton.2 rfl) _).set (p := ⟨a, 4, none⟩) (List.mem_singleton.2 rfl) _)
  clear h hx hne
  go_enter Try.func40, Try.ntmps40
  go_upto_region 1 with fail
  try rw [hu1]
  try rw [hgz]
  clear hu1 hgz
  have x0 : u1.cell? ⟨a, 0, none⟩ = some (.string xn) := HX1.out.cell 0
  have x1 : u1.cell? ⟨a, 1, none⟩ = some (.string xt) := HX1.out.cell 1
  have x2 : u1.cell? ⟨a, 2, none⟩ = some (.int .i64 xc) := HX1.out.cell 2
  have x3 : u1.cell? ⟨a, 3, none⟩ = some (.int .i64 xe) := HX1.out.cell 3
  have x4 : u1.cell? ⟨a, 4, none⟩ = some (.int .i64 xu) := HX1.out.cell 4
  have x5 : u1.cell? ⟨a, 5, none⟩ = some (.bool xh) := HX1.out.cell 5
  go_upto_region 2 with fail
  try rw [hgx]
  try rw [hu2]
  clear hu2 hgx x0 x1 x2 x3 x4 x5
  have x0 : u2.cell? ⟨a, 0, none⟩ = some (.string xn) := HX2.out.cell 0
  have x1 : u2.cell? ⟨a, 1, none⟩ = some (.string xt) := HX2.out.cell 1
  have x2 : u2.cell? ⟨a, 2, none⟩ = some (.int .i64 xc) := HX2.out.cell 2
  have x3 : u2.cell? ⟨a, 3, none⟩ = some (.int .i64 xe) := HX2.out.cell 3
  have x4 : u2.cell? ⟨a, 4, none⟩ = some (.int .i64 xu) := HX2.out.cell 4
  have x5 : u2.cell? ⟨a, 5, none⟩ = some (.bool xh) := HX2.out.cell 5
  have f0 := HX2.out.frozen 0
  have f1 := HX2.out.frozen 1
  have f2 := HX2.out.frozen 2
  have f3 := HX2.out.frozen 3
  have f4 := HX2.out.frozen 4
  have f5 := HX2.out.frozen 5
  have e0 : u2.cell? ⟨gb, 0, none⟩ = some (.int .i64 g) := HG2.out.cell 0
  go_upto_region 3 with fail
  try rw [hu4]
  clear hu4 hw e0 x0 x1 x2 x3 x4 x5 f0 f1 f2 f3 f4 f5
  have y0 : u4.cell? ⟨gx, 0, none⟩ = some (.string xn) := HY4.out.cell 0
  have y1 : u4.cell? ⟨gx, 1, none⟩ = some (.string xt) := HY4.out.cell 1
  have y2 : u4.cell? ⟨gx, 2, none⟩ = some (.int .i64 xc) := HY4.out.cell 2
  have y3 : u4.cell? ⟨gx, 3, none⟩ = some (.int .i64 xe) := HY4.out.cell 3
  have y4 : u4.cell? ⟨gx, 4, none⟩ = some (.int .i64 xu) := HY4.out.cell 4
  have y5 : u4.cell? ⟨gx, 5, none⟩ = some (.bool xh) := HY4.out.cell 5
  have k0 := HY4.out.frozen 0
  have k1 := HY4.out.frozen 1
  have k2 := HY4.out.frozen 2
  have k3 := HY4.out.frozen 3
  have k4 := HY4.out.frozen 4
  have k5 := HY4.out.frozen 5
  have z0 : u4.cell? ⟨gz, 0, none⟩ = some (.string ⟨#[]⟩) := HZ4.out.cell 0
  have z1 : u4.cell? ⟨gz, 1, none⟩ = some (.string ⟨#[]⟩) := HZ4.out.cell 1
  have z2 : u4.cell? ⟨gz, 2, none⟩ = some (.int .i64 0) := HZ4.out.cell 2
  have z3 : u4.cell? ⟨gz, 3, none⟩ = some (.int .i64 0) := HZ4.out.cell 3
  have z4 : u4.cell? ⟨gz, 4, none⟩ = some (.int .i64 0) := HZ4.out.cell 4
  have z5 : u4.cell? ⟨gz, 5, none⟩ = some (.bool false) := HZ4.out.cell 5
  have m0 := HZ4.out.frozen 0
  have m1 := HZ4.out.frozen 1
  have m2 := HZ4.out.frozen 2
  have m3 := HZ4.out.frozen 3
  have m4 := HZ4.out.frozen 4
  have m5 := HZ4.out.frozen 5
  go_wp2
  have HU : Bk ((((((u4.setCell ⟨gz, 0, none⟩ (.string xn)).setCell ⟨gz, 1, none⟩ (.string xt)).setCell ⟨gz, 2, none⟩ (.int .i64 xc)).setCell ⟨gz, 3, none⟩ (.int .i64 xe)).setCell ⟨gz, 4, none⟩ (.int .i64 xu)).setCell ⟨gz, 5, none⟩ (.bool xh)) gz 32 #[.string xn, .string xt, .int .i64 xc, .int .i64 xe, .int .i64 xu, .bool xh] := HZ4.out.set6 _ _ _ _ _ _
  have p0 := HU.cell 0; have p1 := HU.cell 1; have p2 := HU.cell 2; have p3 := HU.cell 3; have p4 := HU.cell 4; have p5 := HU.cell 5
  refine bodyPost_ret (v := .agg #[.string xn, .string xt, .int .i64 xc, .int .i64 xe, .int .i64 xu, .bool xh]) ?_ rfl ⟨rfl, HX4.out.set6Far HN2.out _ _ _ _ _ _, ke_set6' HK4.out (by rw [HGZ.out]; exact Nat.le_refl _) _ _ _ _ _ _⟩
  try simp [results, Try.f40, go_sem, p0, p1, p2, p3, p4, p5]

set_option maxRecDepth 100000 in
set_option maxHeartbeats 4000000 in
theorem lholder_ok {u : World} {gb mb : Nat} {ad : ByteArray → Nat} {g most : Int} {b : Bo} (h : Lz u gb mb ad g most b) (s : ByteArray) (now : Int) (hs : s.size ≤ 140737488355328) :
    Calls Try.prog 27 #[.pointer (some ⟨gb, 0, none⟩), .string s, .int .i64 now] u fun e u' => e = .returned (.tuple #[.agg (lsc ((holdL b s now).getD zeroLs)), .bool (holdL b s now).isSome]) ∧ Below u.heap.size u u' := by
  obtain ⟨u1, hu1⟩ : ∃ u1, u.alloc (.cells #[.string ⟨#[]⟩, .string ⟨#[]⟩, .int .i64 0, .int .i64 0, .int .i64 0, .bool false] 32) = u1 := ⟨_, rfl⟩
  have HB := Lib.hid (show Below u.heap.size u u1 by rw [← hu1]; exact (Below.refl _ _).alloc (Nat.le_refl _) _)
  have HZ := Lib.hid (show Bk u1 u.heap.size 32 #[.string ⟨#[]⟩, .string ⟨#[]⟩, .int .i64 0, .int .i64 0, .int .i64 0, .bool false] by rw [← hu1]; exact Bk.new _ _ _)
  have HL := Lib.hid (h.on HB.out)
  unfold holdL
  obtain ⟨gz, hgz⟩ : ∃ gz, u.heap.size = gz := ⟨_, rfl⟩
  have HGZ := Lib.hid hgz
  clear h
  cases hf : fnL s b.l with
  | none =>
    have HF := Lib.hid (lfind_none HL.out s now hs hf)
    clear hf
    go_enter Try.func27, Try.ntmps27
    go_upto_region 1 with fail
    try rw [hu1]
    try rw [hgz]
    rw [hgz] at HZ
    clear hu1 hgz
    have z0 : u1.cell? ⟨gz, 0, none⟩ = some (.string ⟨#[]⟩) := HZ.out.cell 0
    have z1 : u1.cell? ⟨gz, 1, none⟩ = some (.string ⟨#[]⟩) := HZ.out.cell 1
    have z2 : u1.cell? ⟨gz, 2, none⟩ = some (.int .i64 0) := HZ.out.cell 2
    have z3 : u1.cell? ⟨gz, 3, none⟩ = some (.int .i64 0) := HZ.out.cell 3
    have z4 : u1.cell? ⟨gz, 4, none⟩ = some (.int .i64 0) := HZ.out.cell 4
    have z5 : u1.cell? ⟨gz, 5, none⟩ = some (.bool false) := HZ.out.cell 5
    have f0 := HZ.out.frozen 0
    have f1 := HZ.out.frozen 1
    have f2 := HZ.out.frozen 2
    have f3 := HZ.out.frozen 3
    have f4 := HZ.out.frozen 4
    have f5 := HZ.out.frozen 5
    go_wp2_with (go_at_call 51; (with_reducible refine HF.out.mono ?_); rintro e u2 ⟨rfl, hu⟩; rw [hu]; clear hu)
    have HU : Bk ((((((u1.setCell ⟨gz, 0, none⟩ (.string ⟨#[]⟩)).setCell ⟨gz, 1, none⟩ (.string ⟨#[]⟩)).setCell ⟨gz, 2, none⟩ (.int .i64 0)).setCell ⟨gz, 3, none⟩ (.int .i64 0)).setCell ⟨gz, 4, none⟩ (.int .i64 0)).setCell ⟨gz, 5, none⟩ (.bool false)) gz 32 #[.string ⟨#[]⟩, .string ⟨#[]⟩, .int .i64 0, .int .i64 0, .int .i64 0, .bool false] := HZ.out.set6 _ _ _ _ _ _
    have p0 := HU.cell 0; have p1 := HU.cell 1; have p2 := HU.cell 2; have p3 := HU.cell 3; have p4 := HU.cell 4; have p5 := HU.cell 5
    refine bodyPost_ret (v := .tuple #[.agg #[.string ⟨#[]⟩, .string ⟨#[]⟩, .int .i64 0, .int .i64 0, .int .i64 0, .bool false], .bool false]) ?_ rfl ⟨rfl, below_set6 HB.out (by rw [HGZ.out]; exact Nat.le_refl _) _ _ _ _ _ _⟩
    try simp [results, Try.f27, go_sem, p0, p1, p2, p3, p4, p5]
  | some x =>
    have HF := Lib.hid (lfind_some HL.out s now x hf)
    obtain ⟨he, hx⟩ := fn_name hf
    have HX := Lib.hid (HL.out.each x hx)
    rw [he] at HX
    obtain ⟨hv, hhv⟩ : ∃ hv, heL x now = hv := ⟨_, rfl⟩
    rw [show (some x).filter (fun x => heL x now) = if hv = true then some x else none by rw [← hhv]; simp [Option.filter]]
    obtain ⟨st, hst⟩ : ∃ st, stI g x now = st := ⟨_, rfl⟩
    have HSH := Lib.hid (show st = 2 ↔ hv = true by rw [← hst, ← hhv]; exact stI_held)
    rw [hst] at HF
    obtain ⟨ax, hax⟩ : ∃ ax, ad s = ax := ⟨_, rfl⟩
    rw [hax] at HF HX
    clear hf hhv hst he hx hax
    obtain ⟨xn, xt, xc, xe, xu, xh⟩ := x
    dsimp only [lsc] at HX
    cases hv with
    | false =>
      have hs2 : (st != 2) = true := by
        have : ¬ st = 2 := fun e => by have := HSH.out.1 e; cases this
        simp [this]
      go_enter Try.func27, Try.ntmps27
      go_upto_region 1 with fail
      try rw [hu1]
      try rw [hgz]
      rw [hgz] at HZ
      clear hu1 hgz
      have z0 : u1.cell? ⟨gz, 0, none⟩ = some (.string ⟨#[]⟩) := HZ.out.cell 0
      have z1 : u1.cell? ⟨gz, 1, none⟩ = some (.string ⟨#[]⟩) := HZ.out.cell 1
      have z2 : u1.cell? ⟨gz, 2, none⟩ = some (.int .i64 0) := HZ.out.cell 2
      have z3 : u1.cell? ⟨gz, 3, none⟩ = some (.int .i64 0) := HZ.out.cell 3
      have z4 : u1.cell? ⟨gz, 4, none⟩ = some (.int .i64 0) := HZ.out.cell 4
      have z5 : u1.cell? ⟨gz, 5, none⟩ = some (.bool false) := HZ.out.cell 5
      have f0 := HZ.out.frozen 0
      have f1 := HZ.out.frozen 1
      have f2 := HZ.out.frozen 2
      have f3 := HZ.out.frozen 3
      have f4 := HZ.out.frozen 4
      have f5 := HZ.out.frozen 5
      go_wp2_with (go_at_call 51; (with_reducible refine HF.out.mono ?_); rintro e u2 ⟨rfl, hu⟩; rw [hu]; clear hu)
      have HU : Bk ((((((u1.setCell ⟨gz, 0, none⟩ (.string ⟨#[]⟩)).setCell ⟨gz, 1, none⟩ (.string ⟨#[]⟩)).setCell ⟨gz, 2, none⟩ (.int .i64 0)).setCell ⟨gz, 3, none⟩ (.int .i64 0)).setCell ⟨gz, 4, none⟩ (.int .i64 0)).setCell ⟨gz, 5, none⟩ (.bool false)) gz 32 #[.string ⟨#[]⟩, .string ⟨#[]⟩, .int .i64 0, .int .i64 0, .int .i64 0, .bool false] := HZ.out.set6 _ _ _ _ _ _
      have p0 := HU.cell 0; have p1 := HU.cell 1; have p2 := HU.cell 2; have p3 := HU.cell 3; have p4 := HU.cell 4; have p5 := HU.cell 5
      refine bodyPost_ret (v := .tuple #[.agg #[.string ⟨#[]⟩, .string ⟨#[]⟩, .int .i64 0, .int .i64 0, .int .i64 0, .bool false], .bool false]) ?_ rfl ⟨rfl, below_set6 HB.out (by rw [HGZ.out]; exact Nat.le_refl _) _ _ _ _ _ _⟩
      try simp [results, Try.f27, go_sem, p0, p1, p2, p3, p4, p5]
    | true =>
      obtain rfl : st = 2 := HSH.out.2 rfl
      go_enter Try.func27, Try.ntmps27
      go_upto_region 1 with fail
      try rw [hu1]
      try rw [hgz]
      rw [hgz] at HZ
      clear hu1 hgz
      have z0 : u1.cell? ⟨gz, 0, none⟩ = some (.string ⟨#[]⟩) := HZ.out.cell 0
      have z1 : u1.cell? ⟨gz, 1, none⟩ = some (.string ⟨#[]⟩) := HZ.out.cell 1
      have z2 : u1.cell? ⟨gz, 2, none⟩ = some (.int .i64 0) := HZ.out.cell 2
      have z3 : u1.cell? ⟨gz, 3, none⟩ = some (.int .i64 0) := HZ.out.cell 3
      have z4 : u1.cell? ⟨gz, 4, none⟩ = some (.int .i64 0) := HZ.out.cell 4
      have z5 : u1.cell? ⟨gz, 5, none⟩ = some (.bool false) := HZ.out.cell 5
      have f0 := HZ.out.frozen 0
      have f1 := HZ.out.frozen 1
      have f2 := HZ.out.frozen 2
      have f3 := HZ.out.frozen 3
      have f4 := HZ.out.frozen 4
      have f5 := HZ.out.frozen 5
      have x0 : u1.cell? ⟨ax, 0, none⟩ = some (.string xn) := HX.out.cell 0
      have x1 : u1.cell? ⟨ax, 1, none⟩ = some (.string xt) := HX.out.cell 1
      have x2 : u1.cell? ⟨ax, 2, none⟩ = some (.int .i64 xc) := HX.out.cell 2
      have x3 : u1.cell? ⟨ax, 3, none⟩ = some (.int .i64 xe) := HX.out.cell 3
      have x4 : u1.cell? ⟨ax, 4, none⟩ = some (.int .i64 xu) := HX.out.cell 4
      have x5 : u1.cell? ⟨ax, 5, none⟩ = some (.bool xh) := HX.out.cell 5
      go_wp2_with (go_at_call 51; (with_reducible refine HF.out.mono ?_); rintro e u2 ⟨rfl, hu⟩; rw [hu]; clear hu)
      have HU : Bk ((((((u1.setCell ⟨gz, 0, none⟩ (.string xn)).setCell ⟨gz, 1, none⟩ (.string xt)).setCell ⟨gz, 2, none⟩ (.int .i64 xc)).setCell ⟨gz, 3, none⟩ (.int .i64 xe)).setCell ⟨gz, 4, none⟩ (.int .i64 xu)).setCell ⟨gz, 5, none⟩ (.bool xh)) gz 32 #[.string xn, .string xt, .int .i64 xc, .int .i64 xe, .int .i64 xu, .bool xh] := HZ.out.set6 _ _ _ _ _ _
      have p0 := HU.cell 0; have p1 := HU.cell 1; have p2 := HU.cell 2; have p3 := HU.cell 3; have p4 := HU.cell 4; have p5 := HU.cell 5
      refine bodyPost_ret (v := .tuple #[.agg #[.string xn, .string xt, .int .i64 xc, .int .i64 xe, .int .i64 xu, .bool xh], .bool true]) ?_ rfl ⟨rfl, below_set6 HB.out (by rw [HGZ.out]; exact Nat.le_refl _) _ _ _ _ _ _⟩
      try simp [results, Try.f27, go_sem, p0, p1, p2, p3, p4, p5]

/-- What own tells: the lease's block, or why not. -/
def OwP (ad : ByteArray → Nat) (s : ByteArray) (er : Int) (u : World) (e : Ending) (u' : World) : Prop := e = .returned (.tuple #[if er = 0 then .pointer (some ⟨ad s, 0, none⟩) else .pointer none, .int .i64 er]) ∧ u' = u
set_option maxRecDepth 100000 in
set_option maxHeartbeats 2000000 in
theorem lown_ok {u : World} {gb mb : Nat} {ad : ByteArray → Nat} {g most : Int} {b : Bo} (h : Lz u gb mb ad g most b) (ten s : ByteArray) (ep now : Int) (hs : s.size ≤ 140737488355328) (hc : clkB now = true) :
    Calls Try.prog 36 #[.pointer (some ⟨gb, 0, none⟩), .string ten, .string s, .int .i64 ep, .int .i64 now] u (OwP ad s (ownL b ten s ep now).2 u) := by
  have HL := Lib.hid h
  obtain ⟨er, her⟩ : ∃ er, (ownL b ten s ep now).2 = er := ⟨_, rfl⟩
  rw [her]
  unfold ownL at her
  rw [hc, if_neg (by simp)] at her
  unfold holdL at her
  have HER := Lib.hid her
  clear h her hc
  cases hf : fnL s b.l with
  | none =>
    have HF := Lib.hid (lfind_none HL.out s now hs hf)
    have HE := Lib.hid (show er = 3 by rw [← HER.out, hf]; rfl)
    clear hf
    go_enter Try.func36, Try.ntmps36
    go_wp2_with (go_at_call 51; (with_reducible refine HF.out.mono ?_); rintro e u2 ⟨rfl, hu⟩; rw [hu]; clear hu)
    go_ret2
    exact ⟨by rw [HE.out]; rfl, rfl⟩
  | some x =>
    have HF := Lib.hid (lfind_some HL.out s now x hf)
    obtain ⟨he, hx⟩ := fn_name hf
    have HX := Lib.hid (HL.out.each x hx)
    rw [he] at HX
    obtain ⟨hv, hhv⟩ : ∃ hv, heL x now = hv := ⟨_, rfl⟩
    have HE := Lib.hid (show er = (match (if hv = true then some x else none : Option Ls) with | none => ((zeroLs, 3) : Ls × Int) | some x => if nmE x.ten ten = false then (zeroLs, 131) else if x.epoch = ep then (x, 0) else (zeroLs, 132)).2 by
      rw [← HER.out, hf, ← hhv]
      rfl)
    obtain ⟨st, hst⟩ : ∃ st, stI g x now = st := ⟨_, rfl⟩
    have HSH := Lib.hid (show st = 2 ↔ hv = true by rw [← hst, ← hhv]; exact stI_held)
    rw [hst] at HF
    obtain ⟨ax, hax⟩ : ∃ ax, ad s = ax := ⟨_, rfl⟩
    have HAX := Lib.hid hax
    rw [hax] at HF HX
    clear hf hhv hst he hx hax HER
    obtain ⟨xn, xt, xc, xe, xu, xh⟩ := x
    dsimp only [lsc] at HX HE
    cases hv with
    | false =>
      have hs2 : (st != 2) = true := by
        have : ¬ st = 2 := fun e => by have := HSH.out.1 e; cases this
        simp [this]
      have HE2 := Lib.hid (show er = 3 by rw [HE.out]; rfl)
      go_enter Try.func36, Try.ntmps36
      go_wp2_with (go_at_call 51; (with_reducible refine HF.out.mono ?_); rintro e u2 ⟨rfl, hu⟩; rw [hu]; clear hu)
      go_ret2
      exact ⟨by rw [HE2.out]; rfl, rfl⟩
    | true =>
      obtain rfl : st = 2 := HSH.out.2 rfl
      have x1 : u.cell? ⟨ax, 1, none⟩ = some (.string xt) := HX.out.cell 1
      have x3 : u.cell? ⟨ax, 3, none⟩ = some (.int .i64 xe) := HX.out.cell 3
      obtain ⟨q, hq⟩ : ∃ q, (xt.toList == ten.toList) = q := ⟨_, rfl⟩
      have hq2 : (xt.toList != ten.toList) = !q := by rw [bne, hq]
      have HQ := Lib.hid (show nmE xt ten = q from hq)
      cases q with
      | false =>
        have HE2 := Lib.hid (show er = 131 by rw [HE.out, if_pos rfl]; dsimp only; rw [HQ.out]; rfl)
        go_enter Try.func36, Try.ntmps36
        go_wp2_with (go_at_call 51; (with_reducible refine HF.out.mono ?_); rintro e u2 ⟨rfl, hu⟩; rw [hu]; clear hu)
        go_ret2
        exact ⟨by rw [HE2.out]; rfl, rfl⟩
      | true =>
        by_cases hep : xe = ep
        · subst hep
          have HE2 := Lib.hid (show er = 0 by rw [HE.out, if_pos rfl]; dsimp only; rw [HQ.out]; simp)
          go_enter Try.func36, Try.ntmps36
          go_wp2_with (go_at_call 51; (with_reducible refine HF.out.mono ?_); rintro e u2 ⟨rfl, hu⟩; rw [hu]; clear hu)
          go_ret2
          exact ⟨by rw [HE2.out, HAX.out]; rfl, rfl⟩
        · have hep2 : (xe == ep) = false := by simp [hep]
          have hep3 : (xe != ep) = true := by simp [hep]
          have HE2 := Lib.hid (show er = 132 by rw [HE.out, if_pos rfl]; dsimp only; rw [HQ.out, if_neg hep]; rfl)
          clear hep
          go_enter Try.func36, Try.ntmps36
          go_wp2_with (go_at_call 51; (with_reducible refine HF.out.mono ?_); rintro e u2 ⟨rfl, hu⟩; rw [hu]; clear hu)
          go_ret2
          exact ⟨by rw [HE2.out]; rfl, rfl⟩
end Go.Proofs.Ytpbobmiajjgekaa
