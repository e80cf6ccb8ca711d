/- LsR5, LsR6: texts of this seat, one behind the other. -/
import Derived.Test.YtpbobmiajjgekaaLsR4
/- The document's own book of leases: kept, New, Holder: their contracts. (Written by gen_lsr5.py.) -/
namespace Go.Proofs.Ytpbobmiajjgekaa
set_option linter.unusedVariables false
set_option maxRecDepth 100000
set_option linter.unusedSimpArgs false
open Go.RowKit

abbrev set6 (w : World) (g : Nat) (a b c d e f : Value) : World := (((((w.setCell ⟨g, 0, none⟩ a).setCell ⟨g, 1, none⟩ b).setCell ⟨g, 2, none⟩ c).setCell ⟨g, 3, none⟩ d).setCell ⟨g, 4, none⟩ e).setCell ⟨g, 5, none⟩ f
theorem Bk.set6 {w : World} {g : Nat} {t : TypeId} {x0 x1 x2 x3 x4 x5 : Value} (h : Bk w g t #[x0, x1, x2, x3, x4, x5]) (a b c d e f : Value) : Bk (Proofs.Ytpbobmiajjgekaa.set6 w g a b c d e f) g t #[a, b, c, d, e, f] := by
  have k := (((((h.set 0 a).set 1 b).set 2 c).set 3 d).set 4 e).set 5 f
  simpa only [List.setIfInBounds_toArray, List.set_cons_zero, List.set_cons_succ] using k
theorem below_set6 {w u : World} {B g : Nat} (h : Below B w u) (hg : B ≤ g) (a b c d e f : Value) : Below B w (set6 u g a b c d e f) :=
  (((((h.setCell (p := ⟨g, 0, none⟩) hg a).setCell (p := ⟨g, 1, none⟩) hg b).setCell (p := ⟨g, 2, none⟩) hg c).setCell (p := ⟨g, 3, none⟩) hg d).setCell (p := ⟨g, 4, none⟩) hg e).setCell (p := ⟨g, 5, none⟩) hg f
set_option maxRecDepth 100000 in
set_option maxHeartbeats 2000000 in
theorem lrkept_ok (u : World) (bb B : Nat) (g most : Int) (b : Bo) (x : Ls) (now : Int) (h : Lr u bb B g most b) (hg : 0 ≤ g) (hg2 : g ≤ 1073741824) (hx : 0 ≤ x.till) (hx2 : x.till ≤ 1125899906842624) :
    Calls Try.prog 49 #[.pointer (some ⟨bb, 0, none⟩), .agg (lsc x), .int .i64 now] u fun e u' => e = .returned (.bool (kpL g x now)) ∧ Below u.heap.size u u' := by
  obtain ⟨⟨A, c, h1, h2⟩, _, _⟩ := h
  obtain ⟨xn, xt, xc, xe, xu, xh⟩ := x
  dsimp only at hx hx2
  obtain ⟨u1, hu1⟩ : ∃ u1, u.alloc (.cells #[.string xn, .string xt, .int .i64 xc, .int .i64 xe, .int .i64 xu, .bool xh] 32) = u1 := ⟨_, rfl⟩
  have HB := Lib.hid (show Below u.heap.size u u1 by rw [← hu1]; exact (Below.refl _ _).alloc (Nat.le_refl _) _)
  have hk : Bk u1 u.heap.size 32 #[.string xn, .string xt, .int .i64 xc, .int .i64 xe, .int .i64 xu, .bool xh] := by rw [← hu1]; exact Bk.new _ _ _
  have c4 : u1.cell? ⟨u.heap.size, 4, none⟩ = some (.int .i64 xu) := hk.cell 4
  have c5 : u1.cell? ⟨u.heap.size, 5, none⟩ = some (.bool xh) := hk.cell 5
  have e1 : u1.cell? ⟨bb, 1, none⟩ = some (.int .i64 g) := (h1.below HB.out h1.lt).cell 1
  obtain ⟨G, rfl⟩ := Int.eq_ofNat_of_zero_le hg
  obtain ⟨U, rfl⟩ := Int.eq_ofNat_of_zero_le hx
  obtain ⟨S, hS⟩ : ∃ S : Nat, (U : Int) + (G : Int) = (S : Int) := ⟨U + G, by omega⟩
  have hw := (iwrap ((U : Int) + (G : Int)) S hS (by omega)).1
  have HS := Lib.hid hS
  clear h1 h2 hk hg hg2 hx hx2
  cases xh with
  | false =>
    clear hw hS
    have HR := Lib.hid (show kpL (G : Int) ⟨xn, xt, xc, xe, U, false⟩ now = decide (now < (U : Int)) by simp [kpL])
    go_enter Try.func49, Try.ntmps49
    go_wp2
    go_ret
    exact ⟨by rw [HR.out]; first | done | rfl | simp, HB.out⟩
  | true =>
    have HR := Lib.hid (show kpL (G : Int) ⟨xn, xt, xc, xe, U, true⟩ now = (decide ((U : Int) ≤ now) && decide (now < (S : Int))) by simp only [kpL, if_true, hS])
    clear hS
    by_cases h3 : (U : Int) ≤ now
    · have h4 : now ≥ (U : Int) := h3
      have h5 : decide ((U : Int) ≤ now) = true := decide_eq_true h3
      go_enter Try.func49, Try.ntmps49
      go_wp2
      go_quiet (fail)
      go_wp2
      go_ret
      exact ⟨by rw [HR.out, h5]; simp, by first | exact HB.out | exact HB.out.trans ((below_dn _).mono HB.out.size)⟩
    · have h5 : decide ((U : Int) ≤ now) = false := decide_eq_false h3
      have h4 : decide (now ≥ (U : Int)) = false := decide_eq_false h3
      go_enter Try.func49, Try.ntmps49
      go_wp2
      go_quiet (fail)
      go_wp2
      go_ret
      exact ⟨by rw [HR.out, h5]; simp, by first | exact HB.out | exact HB.out.trans ((below_dn _).mono HB.out.size)⟩
set_option maxHeartbeats 1000000 in
theorem lrnew_ok (g most : Int) (w : World) : Calls Try.prog 12 #[.int .i64 g, .int .i64 most] w fun e w' => ((timB g && timB most) = false ∧ e = .returned (.pointer none) ∨ (timB g && timB most) = true ∧ e = .returned (.pointer (some ⟨w.heap.size, 0, none⟩)) ∧ Lr w' w.heap.size w'.heap.size g most ⟨[], 1⟩) ∧ Below w.heap.size w w' := by
  have H1 := Lib.hid (fun u => lrtime_ok g u)
  have H2 := Lib.hid (fun u => lrtime_ok most u)
  obtain ⟨a, ha⟩ : ∃ a, timB g = a := ⟨_, rfl⟩
  obtain ⟨b, hb⟩ : ∃ b, timB most = b := ⟨_, rfl⟩
  simp only [ha] at H1 ⊢
  simp only [hb] at H2 ⊢
  clear ha hb
  have arm : True := trivial
  cases a with
  | false =>
    go_enter Try.func12, Try.ntmps12
    go_wp2_with (go_at_call 34; (with_reducible refine (H1.out _).mono ?_); rintro e u5 ⟨rfl, hu⟩; rw [hu]; clear hu)
    go_ret
    exact ⟨.inl ⟨rfl, rfl⟩, Below.refl _ _⟩
  | true =>
    cases b with
    | false =>
      go_enter Try.func12, Try.ntmps12
      go_wp2_with (first
        | (go_at_call 34; (with_reducible refine (H1.out _).mono ?_); rintro e u5 ⟨rfl, hu⟩; rw [hu]; clear hu)
        | (go_at_call 34; (with_reducible refine (H2.out _).mono ?_); rintro e u5 ⟨rfl, hu⟩; rw [hu]; clear hu))
      go_ret
      exact ⟨.inl ⟨rfl, rfl⟩, Below.refl _ _⟩
    | true =>
      go_enter Try.func12, Try.ntmps12
      go_wp2_with (first
        | (go_at_call 34; (with_reducible refine (H1.out _).mono ?_); rintro e u5 ⟨rfl, hu⟩; rw [hu]; clear hu)
        | (go_at_call 34; (with_reducible refine (H2.out _).mono ?_); rintro e u5 ⟨rfl, hu⟩; rw [hu]; clear hu))
      go_ret
      have hk := Bk.new w 46 (bkc none 0 0 g most 1)
      exact ⟨.inr ⟨rfl, rfl, ⟨⟨none, 0, hk, Ow.nil _ _⟩, hk.lt, Nat.le_refl _⟩⟩, (Below.refl _ _).alloc (Nat.le_refl _) _⟩

set_option maxRecDepth 100000 in
set_option maxHeartbeats 4000000 in
theorem lrholder_ok (u : World) (bb B : Nat) (g most : Int) (b : Bo) (s : ByteArray) (now : Int) (h : Lr u bb B g most b) (hl : b.l.length ≤ 1000000) :
    Calls Try.prog 28 #[.pointer (some ⟨bb, 0, none⟩), .string s, .int .i64 now] u fun e u' => e = .returned (.tuple #[.agg (lsc ((holdL b s now).getD zeroLs)), .bool (holdL b s now).isSome]) ∧ Below u.heap.size u u' := by
  obtain ⟨u1, hu1⟩ : ∃ u1, u.alloc (.cells #[.string ⟨#[]⟩, .string ⟨#[]⟩, .int .i64 0, .int .i64 0, .int .i64 0, .bool false] 32) = u1 := ⟨_, rfl⟩
  have HB := Lib.hid (show Below u.heap.size u u1 by rw [← hu1]; exact (Below.refl _ _).alloc (Nat.le_refl _) _)
  have HZ := Lib.hid (show Bk u1 u.heap.size 32 #[.string ⟨#[]⟩, .string ⟨#[]⟩, .int .i64 0, .int .i64 0, .int .i64 0, .bool false] by rw [← hu1]; exact Bk.new _ _ _)
  have HF := Lib.hid (lrfind_ok u1 bb B g most b s (h.on HB.out) (by omega))
  obtain ⟨⟨A, c, h1, h2⟩, _, _⟩ := h
  have HR := Lib.hid ((Ow.rw_ (f := lsc) (k := 6) (fun _ => rfl) h2).on HB.out)
  have HK := Lib.hid (h1.below HB.out h1.lt)
  obtain ⟨l, nx⟩ := b
  dsimp only at HF HR HK hl
  unfold holdL
  dsimp only
  obtain ⟨n, hn⟩ : ∃ n, l.length = n := ⟨_, rfl⟩
  have HN := Lib.hid hn
  rw [hn] at HK hl
  clear h1 h2 hn
  obtain ⟨gz, hgz⟩ : ∃ gz, u.heap.size = gz := ⟨_, rfl⟩
  have HGZ := Lib.hid hgz
  cases hf : fnL s l with
  | none =>
    have HF0 := Lib.hid (show Calls Try.prog 53 #[.pointer (some ⟨bb, 0, none⟩), .string s] u1 fun e u' => e = .returned (.int .i64 (-1)) ∧ Below u1.heap.size u1 u' from HF.out.mono fun e u' hh => by
      obtain ⟨⟨i, x, _, _, _, h4⟩ | ⟨h5, _⟩, hb⟩ := hh
      · rw [hf] at h4; cases h4
      · exact ⟨h5, hb⟩)
    clear hf HF
    go_enter Try.func28, Try.ntmps28
    go_upto_region 1 with fail
    try rw [hu1]
    try rw [hgz]
    rw [hgz] at HZ
    clear hu1 hgz
    go_upto_region 3 with (go_at_call 53; (with_reducible refine HF0.out.mono ?_); rintro e u2 ⟨rfl, hb⟩; have HB2 := Lib.hid (HB.out.trans (hb.mono HB.out.size)); have HZ2 := Lib.hid (HZ.out.below hb HZ.out.lt); clear hb)
    have z0 : u2.cell? ⟨gz, 0, none⟩ = some (.string ⟨#[]⟩) := HZ2.out.cell 0
    have z1 : u2.cell? ⟨gz, 1, none⟩ = some (.string ⟨#[]⟩) := HZ2.out.cell 1
    have z2 : u2.cell? ⟨gz, 2, none⟩ = some (.int .i64 0) := HZ2.out.cell 2
    have z3 : u2.cell? ⟨gz, 3, none⟩ = some (.int .i64 0) := HZ2.out.cell 3
    have z4 : u2.cell? ⟨gz, 4, none⟩ = some (.int .i64 0) := HZ2.out.cell 4
    have z5 : u2.cell? ⟨gz, 5, none⟩ = some (.bool false) := HZ2.out.cell 5
    have f0 := HZ2.out.frozen 0
    have f1 := HZ2.out.frozen 1
    have f2 := HZ2.out.frozen 2
    have f3 := HZ2.out.frozen 3
    have f4 := HZ2.out.frozen 4
    have f5 := HZ2.out.frozen 5
    go_wp2
    have HU : Bk ((((((u2.setCell ⟨gz, 0, none⟩ (.string ⟨#[]⟩)).setCell ⟨gz, 1, none⟩ (.string ⟨#[]⟩)).setCell ⟨gz, 2, none⟩ (.int .i64 0)).setCell ⟨gz, 3, none⟩ (.int .i64 0)).setCell ⟨gz, 4, none⟩ (.int .i64 0)).setCell ⟨gz, 5, none⟩ (.bool false)) gz 32 #[.string ⟨#[]⟩, .string ⟨#[]⟩, .int .i64 0, .int .i64 0, .int .i64 0, .bool false] := HZ2.out.set6 _ _ _ _ _ _
    have p0 := HU.cell 0; have p1 := HU.cell 1; have p2 := HU.cell 2; have p3 := HU.cell 3; have p4 := HU.cell 4; have p5 := HU.cell 5
    refine bodyPost_ret (v := .tuple #[.agg #[.string ⟨#[]⟩, .string ⟨#[]⟩, .int .i64 0, .int .i64 0, .int .i64 0, .bool false], .bool false]) ?_ rfl ⟨rfl, below_set6 HB2.out (by rw [HGZ.out]; exact Nat.le_refl _) _ _ _ _ _ _⟩
    simp [results, Try.f28, go_sem, p0, p1, p2, p3, p4, p5]
  | some x =>
    have HF1 := Lib.hid (show Calls Try.prog 53 #[.pointer (some ⟨bb, 0, none⟩), .string s] u1 fun e u' => (∃ i : Nat, e = .returned (.int .i64 (i : Int)) ∧ i < n ∧ l[i]? = some x) ∧ Below u1.heap.size u1 u' from HF.out.mono fun e u' hh => by
      obtain ⟨⟨i, y, h0, h1, h2, h4⟩ | ⟨_, h5⟩, hb⟩ := hh
      · rw [hf] at h4
        injection h4 with h4
        subst h4
        exact ⟨⟨i, h0, by rw [← HN.out]; exact h1, h2⟩, hb⟩
      · rw [hf] at h5; cases h5)
    have HH := Lib.hid (fun w => lrheld_ok x now w)
    obtain ⟨hv, hhv⟩ : ∃ hv, heL x now = hv := ⟨_, rfl⟩
    rw [show (some x).filter (fun x => heL x now) = if hv = true then some x else none by rw [← hhv]; simp [Option.filter]]
    simp only [hhv] at HH
    clear hf HF hhv
    go_enter Try.func28, Try.ntmps28
    go_upto_region 1 with fail
    try rw [hu1]
    try rw [hgz]
    rw [hgz] at HZ
    clear hu1 hgz
    go_upto_region 2 with (go_at_call 53; (with_reducible refine HF1.out.mono ?_); rintro e u2 ⟨⟨i, rfl, hi, hx⟩, hb⟩; have HI := Lib.hid (And.intro hi hx); have HB2 := Lib.hid (HB.out.trans (hb.mono HB.out.size)); have HZ2 := Lib.hid (HZ.out.below hb HZ.out.lt); have HBC := Lib.hid hb; clear hb hi hx)
    have hi1 := HI.out.1
    have hi2 : (i : Int) < (n : Int) := by omega
    have hi3 : ¬ (i : Int) < 0 := by omega
    have hi4 : decide ((i : Int) < 0) = false := decide_eq_false hi3
    obtain ⟨bx, o, x', rfl, hx', hc⟩ := row6 HR.out i (by rw [HN.out]; exact hi1)
    have hxx : x' = x := by have h1 := HI.out.2; rw [hx'] at h1; injection h1
    subst hxx
    have HC := Lib.hid hc
    clear hx' hc
    obtain ⟨xn, xt, xc, xe, xu, xh⟩ := x'
    obtain ⟨c0, c1, c2, c3, c4, c5⟩ := HC.out u2 HBC.out
    try dsimp only at c0 c1 c2 c3 c4 c5 HH
    have e0 : u2.cell? ⟨bb, 0, none⟩ = some (.slice (some ⟨bx, o, none⟩) n c) := (HK.out.below HBC.out HK.out.lt).cell 0
    cases hv with
    | false =>
      go_upto_region 3 with (go_at_call 46; (with_reducible refine (HH.out _).mono ?_); rintro e u3 ⟨rfl, hb⟩; have HB3 := Lib.hid (HB2.out.trans (hb.mono HB2.out.size)); have HZ3 := Lib.hid (HZ2.out.below hb HZ2.out.lt); clear hb)
      clear e0 c0 c1 c2 c3 c4 c5
      have HB2 := HB3
      have HZ2 := HZ3
      have z0 : u3.cell? ⟨gz, 0, none⟩ = some (.string ⟨#[]⟩) := HZ2.out.cell 0
      have z1 : u3.cell? ⟨gz, 1, none⟩ = some (.string ⟨#[]⟩) := HZ2.out.cell 1
      have z2 : u3.cell? ⟨gz, 2, none⟩ = some (.int .i64 0) := HZ2.out.cell 2
      have z3 : u3.cell? ⟨gz, 3, none⟩ = some (.int .i64 0) := HZ2.out.cell 3
      have z4 : u3.cell? ⟨gz, 4, none⟩ = some (.int .i64 0) := HZ2.out.cell 4
      have z5 : u3.cell? ⟨gz, 5, none⟩ = some (.bool false) := HZ2.out.cell 5
      have f0 := HZ2.out.frozen 0
      have f1 := HZ2.out.frozen 1
      have f2 := HZ2.out.frozen 2
      have f3 := HZ2.out.frozen 3
      have f4 := HZ2.out.frozen 4
      have f5 := HZ2.out.frozen 5
      go_wp2
      have HU : Bk ((((((u3.setCell ⟨gz, 0, none⟩ (.string ⟨#[]⟩)).setCell ⟨gz, 1, none⟩ (.string ⟨#[]⟩)).setCell ⟨gz, 2, none⟩ (.int .i64 0)).setCell ⟨gz, 3, none⟩ (.int .i64 0)).setCell ⟨gz, 4, none⟩ (.int .i64 0)).setCell ⟨gz, 5, none⟩ (.bool false)) gz 32 #[.string ⟨#[]⟩, .string ⟨#[]⟩, .int .i64 0, .int .i64 0, .int .i64 0, .bool false] := HZ2.out.set6 _ _ _ _ _ _
      have p0 := HU.cell 0; have p1 := HU.cell 1; have p2 := HU.cell 2; have p3 := HU.cell 3; have p4 := HU.cell 4; have p5 := HU.cell 5
      refine bodyPost_ret (v := .tuple #[.agg #[.string ⟨#[]⟩, .string ⟨#[]⟩, .int .i64 0, .int .i64 0, .int .i64 0, .bool false], .bool false]) ?_ rfl ⟨rfl, below_set6 HB2.out (by rw [HGZ.out]; exact Nat.le_refl _) _ _ _ _ _ _⟩
      simp [results, Try.f28, go_sem, p0, p1, p2, p3, p4, p5]
    | true =>
      go_upto_region 4 with (go_at_call 46; (with_reducible refine (HH.out _).mono ?_); rintro e u3 ⟨rfl, hb⟩; have HB3 := Lib.hid (HB2.out.trans (hb.mono HB2.out.size)); have HZ3 := Lib.hid (HZ2.out.below hb HZ2.out.lt); have HBC3 := Lib.hid (HBC.out.trans (hb.mono HBC.out.size)); clear hb)
      clear e0 c0 c1 c2 c3 c4 c5
      have HB2 := HB3
      have HZ2 := HZ3
      obtain ⟨c0, c1, c2, c3, c4, c5⟩ := HC.out u3 HBC3.out
      try dsimp only at c0 c1 c2 c3 c4 c5
      have e0 : u3.cell? ⟨bb, 0, none⟩ = some (.slice (some ⟨bx, o, none⟩) n c) := (HK.out.below HBC3.out HK.out.lt).cell 0
      have z0 : u3.cell? ⟨gz, 0, none⟩ = some (.string ⟨#[]⟩) := HZ2.out.cell 0
      have z1 : u3.cell? ⟨gz, 1, none⟩ = some (.string ⟨#[]⟩) := HZ2.out.cell 1
      have z2 : u3.cell? ⟨gz, 2, none⟩ = some (.int .i64 0) := HZ2.out.cell 2
      have z3 : u3.cell? ⟨gz, 3, none⟩ = some (.int .i64 0) := HZ2.out.cell 3
      have z4 : u3.cell? ⟨gz, 4, none⟩ = some (.int .i64 0) := HZ2.out.cell 4
      have z5 : u3.cell? ⟨gz, 5, none⟩ = some (.bool false) := HZ2.out.cell 5
      have f0 := HZ2.out.frozen 0
      have f1 := HZ2.out.frozen 1
      have f2 := HZ2.out.frozen 2
      have f3 := HZ2.out.frozen 3
      have f4 := HZ2.out.frozen 4
      have f5 := HZ2.out.frozen 5
      go_wp2
      have HU : Bk ((((((u3.setCell ⟨gz, 0, none⟩ (.string xn)).setCell ⟨gz, 1, none⟩ (.string xt)).setCell ⟨gz, 2, none⟩ (.int .i64 xc)).setCell ⟨gz, 3, none⟩ (.int .i64 xe)).setCell ⟨gz, 4, none⟩ (.int .i64 xu)).setCell ⟨gz, 5, none⟩ (.bool xh)) gz 32 #[.string xn, .string xt, .int .i64 xc, .int .i64 xe, .int .i64 xu, .bool xh] := HZ2.out.set6 _ _ _ _ _ _
      have p0 := HU.cell 0; have p1 := HU.cell 1; have p2 := HU.cell 2; have p3 := HU.cell 3; have p4 := HU.cell 4; have p5 := HU.cell 5
      refine bodyPost_ret (v := .tuple #[.agg #[.string xn, .string xt, .int .i64 xc, .int .i64 xe, .int .i64 xu, .bool xh], .bool true]) ?_ rfl ⟨rfl, below_set6 HB2.out (by rw [HGZ.out]; exact Nat.le_refl _) _ _ _ _ _ _⟩
      simp [results, Try.f28, go_sem, p0, p1, p2, p3, p4, p5]
end Go.Proofs.Ytpbobmiajjgekaa

/- The document's own book of leases: own: its contract. (Written by gen_lsr6.py.) -/
namespace Go.Proofs.Ytpbobmiajjgekaa
set_option linter.unusedVariables false
set_option maxRecDepth 100000
set_option linter.unusedSimpArgs false
open Go.RowKit

set_option maxRecDepth 100000 in
set_option maxHeartbeats 4000000 in
theorem lrown_ok (u : World) (bb B : Nat) (g most : Int) (b : Bo) (ten s : ByteArray) (ep now : Int) (h : Lr u bb B g most b) (hl : b.l.length ≤ 1000000) :
    Calls Try.prog 38 #[.pointer (some ⟨bb, 0, none⟩), .string ten, .string s, .int .i64 ep, .int .i64 now] u fun e u' => e = .returned (.tuple #[.agg (lsc (ownL b ten s ep now).1), .int .i64 (ownL b ten s ep now).2]) ∧ Below u.heap.size u u' := by
  obtain ⟨u1, hu1⟩ : ∃ u1, u.alloc (.cells #[.string ⟨#[]⟩, .string ⟨#[]⟩, .int .i64 0, .int .i64 0, .int .i64 0, .bool false] 32) = u1 := ⟨_, rfl⟩
  have HB := Lib.hid (show Below u.heap.size u u1 by rw [← hu1]; exact (Below.refl _ _).alloc (Nat.le_refl _) _)
  have HZ := Lib.hid (show Bk u1 u.heap.size 32 #[.string ⟨#[]⟩, .string ⟨#[]⟩, .int .i64 0, .int .i64 0, .int .i64 0, .bool false] by rw [← hu1]; exact Bk.new _ _ _)
  have HH := Lib.hid (lrholder_ok u1 bb B g most b s now (h.on HB.out) hl)
  have HC := Lib.hid (fun w => lrclock_ok now w)
  clear h hl
  obtain ⟨R, hR⟩ : ∃ R, ownL b ten s ep now = R := ⟨_, rfl⟩
  have hr := hR
  simp only [hR]
  unfold ownL at hr
  obtain ⟨hd, hhd⟩ : ∃ hd, holdL b s now = hd := ⟨_, rfl⟩
  obtain ⟨ck, hck⟩ : ∃ ck, clkB now = ck := ⟨_, rfl⟩
  simp only [hhd] at HH hr
  simp only [hck] at HC hr
  have HR := Lib.hid hr
  clear hhd hck hr hR
  obtain ⟨y, hy⟩ : ∃ y, hd.getD zeroLs = y := ⟨_, rfl⟩
  obtain ⟨is, his⟩ : ∃ is, hd.isSome = is := ⟨_, rfl⟩
  simp only [hy, his] at HH
  have HY := Lib.hid hy
  have HI := Lib.hid his
  clear hy his
  obtain ⟨yn, yt, yc, ye, yu, yh⟩ := y
  have arm : True := trivial
  obtain ⟨gz, hgz⟩ : ∃ gz, u.heap.size = gz := ⟨_, rfl⟩
  have HGZ := Lib.hid hgz
  go_enter Try.func38, Try.ntmps38
  go_upto_region 1 with fail
  try rw [hu1]
  try rw [hgz]
  rw [hgz] at HZ
  clear hu1 hgz
  go_upto_region 2 with (go_at_call 28; (with_reducible refine HH.out.mono ?_); rintro e u2 ⟨rfl, hb⟩; have HB2 := Lib.hid (HB.out.trans (hb.mono HB.out.size)); have HZ2 := Lib.hid (HZ.out.below hb HZ.out.lt); clear hb)
  obtain ⟨gx, hgx⟩ : ∃ gx, u2.heap.size = gx := ⟨_, rfl⟩
  obtain ⟨u3, hu3⟩ : ∃ u3, u2.alloc (.cells #[.string yn, .string yt, .int .i64 yc, .int .i64 ye, .int .i64 yu, .bool yh] 32) = u3 := ⟨_, rfl⟩
  have HB3 := Lib.hid (show Below u.heap.size u u3 by rw [← hu3]; exact HB2.out.alloc HB2.out.size _)
  have HX := Lib.hid (show Bk u3 gx 32 #[.string yn, .string yt, .int .i64 yc, .int .i64 ye, .int .i64 yu, .bool yh] by rw [← hu3, ← hgx]; exact Bk.new _ _ _)
  have HZ3 := Lib.hid (show Bk u3 gz 32 #[.string ⟨#[]⟩, .string ⟨#[]⟩, .int .i64 0, .int .i64 0, .int .i64 0, .bool false] by rw [← hu3]; exact HZ2.out.below ((Below.refl _ _).alloc (Nat.le_refl _) _) HZ2.out.lt)
  rw [hu3, hgx]
  clear hu3 hgx HB2 HZ2
  cases ck with
  | false =>
    have HS := Lib.hid (show R = (zeroLs, 1) by rw [← HR.out]; rfl)
    have z0 : u3.cell? ⟨gz, 0, none⟩ = some (.string ⟨#[]⟩) := HZ3.out.cell 0
    have z1 : u3.cell? ⟨gz, 1, none⟩ = some (.string ⟨#[]⟩) := HZ3.out.cell 1
    have z2 : u3.cell? ⟨gz, 2, none⟩ = some (.int .i64 0) := HZ3.out.cell 2
    have z3 : u3.cell? ⟨gz, 3, none⟩ = some (.int .i64 0) := HZ3.out.cell 3
    have z4 : u3.cell? ⟨gz, 4, none⟩ = some (.int .i64 0) := HZ3.out.cell 4
    have z5 : u3.cell? ⟨gz, 5, none⟩ = some (.bool false) := HZ3.out.cell 5
    have f0 := HZ3.out.frozen 0
    have f1 := HZ3.out.frozen 1
    have f2 := HZ3.out.frozen 2
    have f3 := HZ3.out.frozen 3
    have f4 := HZ3.out.frozen 4
    have f5 := HZ3.out.frozen 5
    go_wp2_with (go_at_call 41; (with_reducible refine (HC.out _).mono ?_); rintro e u5 ⟨rfl, hu⟩; rw [hu]; clear hu)
    have HU : Bk ((((((u3.setCell ⟨gz, 0, none⟩ (.string ⟨#[]⟩)).setCell ⟨gz, 1, none⟩ (.string ⟨#[]⟩)).setCell ⟨gz, 2, none⟩ (.int .i64 0)).setCell ⟨gz, 3, none⟩ (.int .i64 0)).setCell ⟨gz, 4, none⟩ (.int .i64 0)).setCell ⟨gz, 5, none⟩ (.bool false)) gz 32 #[.string ⟨#[]⟩, .string ⟨#[]⟩, .int .i64 0, .int .i64 0, .int .i64 0, .bool false] := HZ3.out.set6 _ _ _ _ _ _
    have p0 := HU.cell 0; have p1 := HU.cell 1; have p2 := HU.cell 2; have p3 := HU.cell 3; have p4 := HU.cell 4; have p5 := HU.cell 5
    refine bodyPost_ret (v := .tuple #[.agg #[.string ⟨#[]⟩, .string ⟨#[]⟩, .int .i64 0, .int .i64 0, .int .i64 0, .bool false], .int .i64 1]) ?_ rfl ⟨by rw [HS.out]; try rfl, below_set6 HB3.out (by rw [HGZ.out]; exact Nat.le_refl _) _ _ _ _ _ _⟩
    try simp [results, Try.f38, go_sem, p0, p1, p2, p3, p4, p5]
  | true =>
    cases is with
    | false =>
      have hn : hd = none := by cases hd with
        | none => rfl
        | some v => exact absurd HI.out (by simp)
      subst hn
      have HS := Lib.hid (show R = (zeroLs, 3) by rw [← HR.out]; rfl)
      have z0 : u3.cell? ⟨gz, 0, none⟩ = some (.string ⟨#[]⟩) := HZ3.out.cell 0
      have z1 : u3.cell? ⟨gz, 1, none⟩ = some (.string ⟨#[]⟩) := HZ3.out.cell 1
      have z2 : u3.cell? ⟨gz, 2, none⟩ = some (.int .i64 0) := HZ3.out.cell 2
      have z3 : u3.cell? ⟨gz, 3, none⟩ = some (.int .i64 0) := HZ3.out.cell 3
      have z4 : u3.cell? ⟨gz, 4, none⟩ = some (.int .i64 0) := HZ3.out.cell 4
      have z5 : u3.cell? ⟨gz, 5, none⟩ = some (.bool false) := HZ3.out.cell 5
      have f0 := HZ3.out.frozen 0
      have f1 := HZ3.out.frozen 1
      have f2 := HZ3.out.frozen 2
      have f3 := HZ3.out.frozen 3
      have f4 := HZ3.out.frozen 4
      have f5 := HZ3.out.frozen 5
      go_wp2_with (go_at_call 41; (with_reducible refine (HC.out _).mono ?_); rintro e u5 ⟨rfl, hu⟩; rw [hu]; clear hu)
      have HU : Bk ((((((u3.setCell ⟨gz, 0, none⟩ (.string ⟨#[]⟩)).setCell ⟨gz, 1, none⟩ (.string ⟨#[]⟩)).setCell ⟨gz, 2, none⟩ (.int .i64 0)).setCell ⟨gz, 3, none⟩ (.int .i64 0)).setCell ⟨gz, 4, none⟩ (.int .i64 0)).setCell ⟨gz, 5, none⟩ (.bool false)) gz 32 #[.string ⟨#[]⟩, .string ⟨#[]⟩, .int .i64 0, .int .i64 0, .int .i64 0, .bool false] := HZ3.out.set6 _ _ _ _ _ _
      have p0 := HU.cell 0; have p1 := HU.cell 1; have p2 := HU.cell 2; have p3 := HU.cell 3; have p4 := HU.cell 4; have p5 := HU.cell 5
      refine bodyPost_ret (v := .tuple #[.agg #[.string ⟨#[]⟩, .string ⟨#[]⟩, .int .i64 0, .int .i64 0, .int .i64 0, .bool false], .int .i64 3]) ?_ rfl ⟨by rw [HS.out]; try rfl, below_set6 HB3.out (by rw [HGZ.out]; exact Nat.le_refl _) _ _ _ _ _ _⟩
      try simp [results, Try.f38, go_sem, p0, p1, p2, p3, p4, p5]
    | true =>
      have hn : hd = some ⟨yn, yt, yc, ye, yu, yh⟩ := by cases hd with
        | none => exact absurd HI.out (by simp)
        | some v => exact congrArg some HY.out
      subst hn
      obtain ⟨q, hq⟩ : ∃ q, (yt.toList == ten.toList) = q := ⟨_, rfl⟩
      have HQ := Lib.hid (show nmE yt ten = q from hq)
      have HR2 := Lib.hid (show R = if nmE yt ten = false then (zeroLs, 131) else if ye = ep then (⟨yn, yt, yc, ye, yu, yh⟩, 0) else (zeroLs, 132) by rw [← HR.out]; rfl)
      cases q with
      | false =>
        have HS := Lib.hid (show R = (zeroLs, 131) by rw [HR2.out, HQ.out]; rfl)
        have z0 : u3.cell? ⟨gz, 0, none⟩ = some (.string ⟨#[]⟩) := HZ3.out.cell 0
        have z1 : u3.cell? ⟨gz, 1, none⟩ = some (.string ⟨#[]⟩) := HZ3.out.cell 1
        have z2 : u3.cell? ⟨gz, 2, none⟩ = some (.int .i64 0) := HZ3.out.cell 2
        have z3 : u3.cell? ⟨gz, 3, none⟩ = some (.int .i64 0) := HZ3.out.cell 3
        have z4 : u3.cell? ⟨gz, 4, none⟩ = some (.int .i64 0) := HZ3.out.cell 4
        have z5 : u3.cell? ⟨gz, 5, none⟩ = some (.bool false) := HZ3.out.cell 5
        have f0 := HZ3.out.frozen 0
        have f1 := HZ3.out.frozen 1
        have f2 := HZ3.out.frozen 2
        have f3 := HZ3.out.frozen 3
        have f4 := HZ3.out.frozen 4
        have f5 := HZ3.out.frozen 5
        have y0 : u3.cell? ⟨gx, 0, none⟩ = some (.string yn) := HX.out.cell 0
        have y1 : u3.cell? ⟨gx, 1, none⟩ = some (.string yt) := HX.out.cell 1
        have y2 : u3.cell? ⟨gx, 2, none⟩ = some (.int .i64 yc) := HX.out.cell 2
        have y3 : u3.cell? ⟨gx, 3, none⟩ = some (.int .i64 ye) := HX.out.cell 3
        have y4 : u3.cell? ⟨gx, 4, none⟩ = some (.int .i64 yu) := HX.out.cell 4
        have y5 : u3.cell? ⟨gx, 5, none⟩ = some (.bool yh) := HX.out.cell 5
        have k0 := HX.out.frozen 0
        have k1 := HX.out.frozen 1
        have k2 := HX.out.frozen 2
        have k3 := HX.out.frozen 3
        have k4 := HX.out.frozen 4
        have k5 := HX.out.frozen 5
        go_wp2_with (go_at_call 41; (with_reducible refine (HC.out _).mono ?_); rintro e u5 ⟨rfl, hu⟩; rw [hu]; clear hu)
        have HU : Bk ((((((u3.setCell ⟨gz, 0, none⟩ (.string ⟨#[]⟩)).setCell ⟨gz, 1, none⟩ (.string ⟨#[]⟩)).setCell ⟨gz, 2, none⟩ (.int .i64 0)).setCell ⟨gz, 3, none⟩ (.int .i64 0)).setCell ⟨gz, 4, none⟩ (.int .i64 0)).setCell ⟨gz, 5, none⟩ (.bool false)) gz 32 #[.string ⟨#[]⟩, .string ⟨#[]⟩, .int .i64 0, .int .i64 0, .int .i64 0, .bool false] := HZ3.out.set6 _ _ _ _ _ _
        have p0 := HU.cell 0; have p1 := HU.cell 1; have p2 := HU.cell 2; have p3 := HU.cell 3; have p4 := HU.cell 4; have p5 := HU.cell 5
        refine bodyPost_ret (v := .tuple #[.agg #[.string ⟨#[]⟩, .string ⟨#[]⟩, .int .i64 0, .int .i64 0, .int .i64 0, .bool false], .int .i64 131]) ?_ rfl ⟨by rw [HS.out]; try rfl, below_set6 HB3.out (by rw [HGZ.out]; exact Nat.le_refl _) _ _ _ _ _ _⟩
        try simp [results, Try.f38, go_sem, p0, p1, p2, p3, p4, p5]
      | true =>
        by_cases he : ye = ep
        · subst he
          have HS := Lib.hid (show R = (⟨yn, yt, yc, ye, yu, yh⟩, 0) by rw [HR2.out, HQ.out]; simp)
          have z0 : u3.cell? ⟨gz, 0, none⟩ = some (.string ⟨#[]⟩) := HZ3.out.cell 0
          have z1 : u3.cell? ⟨gz, 1, none⟩ = some (.string ⟨#[]⟩) := HZ3.out.cell 1
          have z2 : u3.cell? ⟨gz, 2, none⟩ = some (.int .i64 0) := HZ3.out.cell 2
          have z3 : u3.cell? ⟨gz, 3, none⟩ = some (.int .i64 0) := HZ3.out.cell 3
          have z4 : u3.cell? ⟨gz, 4, none⟩ = some (.int .i64 0) := HZ3.out.cell 4
          have z5 : u3.cell? ⟨gz, 5, none⟩ = some (.bool false) := HZ3.out.cell 5
          have f0 := HZ3.out.frozen 0
          have f1 := HZ3.out.frozen 1
          have f2 := HZ3.out.frozen 2
          have f3 := HZ3.out.frozen 3
          have f4 := HZ3.out.frozen 4
          have f5 := HZ3.out.frozen 5
          have y0 : u3.cell? ⟨gx, 0, none⟩ = some (.string yn) := HX.out.cell 0
          have y1 : u3.cell? ⟨gx, 1, none⟩ = some (.string yt) := HX.out.cell 1
          have y2 : u3.cell? ⟨gx, 2, none⟩ = some (.int .i64 yc) := HX.out.cell 2
          have y3 : u3.cell? ⟨gx, 3, none⟩ = some (.int .i64 ye) := HX.out.cell 3
          have y4 : u3.cell? ⟨gx, 4, none⟩ = some (.int .i64 yu) := HX.out.cell 4
          have y5 : u3.cell? ⟨gx, 5, none⟩ = some (.bool yh) := HX.out.cell 5
          have k0 := HX.out.frozen 0
          have k1 := HX.out.frozen 1
          have k2 := HX.out.frozen 2
          have k3 := HX.out.frozen 3
          have k4 := HX.out.frozen 4
          have k5 := HX.out.frozen 5
          go_wp2_with (go_at_call 41; (with_reducible refine (HC.out _).mono ?_); rintro e u5 ⟨rfl, hu⟩; rw [hu]; clear hu)
          have HU : Bk ((((((u3.setCell ⟨gz, 0, none⟩ (.string yn)).setCell ⟨gz, 1, none⟩ (.string yt)).setCell ⟨gz, 2, none⟩ (.int .i64 yc)).setCell ⟨gz, 3, none⟩ (.int .i64 ye)).setCell ⟨gz, 4, none⟩ (.int .i64 yu)).setCell ⟨gz, 5, none⟩ (.bool yh)) gz 32 #[.string yn, .string yt, .int .i64 yc, .int .i64 ye, .int .i64 yu, .bool yh] := HZ3.out.set6 _ _ _ _ _ _
          have p0 := HU.cell 0; have p1 := HU.cell 1; have p2 := HU.cell 2; have p3 := HU.cell 3; have p4 := HU.cell 4; have p5 := HU.cell 5
          refine bodyPost_ret (v := .tuple #[.agg #[.string yn, .string yt, .int .i64 yc, .int .i64 ye, .int .i64 yu, .bool yh], .int .i64 0]) ?_ rfl ⟨by rw [HS.out]; try rfl, below_set6 HB3.out (by rw [HGZ.out]; exact Nat.le_refl _) _ _ _ _ _ _⟩
          try simp [results, Try.f38, go_sem, p0, p1, p2, p3, p4, p5]
        · have he2 : decide (ye = ep) = false := decide_eq_false he
          have he3 : (ye == ep) = false := by simp [he]
          have HS := Lib.hid (show R = (zeroLs, 132) by rw [HR2.out, HQ.out]; simp [he])
          have z0 : u3.cell? ⟨gz, 0, none⟩ = some (.string ⟨#[]⟩) := HZ3.out.cell 0
          have z1 : u3.cell? ⟨gz, 1, none⟩ = some (.string ⟨#[]⟩) := HZ3.out.cell 1
          have z2 : u3.cell? ⟨gz, 2, none⟩ = some (.int .i64 0) := HZ3.out.cell 2
          have z3 : u3.cell? ⟨gz, 3, none⟩ = some (.int .i64 0) := HZ3.out.cell 3
          have z4 : u3.cell? ⟨gz, 4, none⟩ = some (.int .i64 0) := HZ3.out.cell 4
          have z5 : u3.cell? ⟨gz, 5, none⟩ = some (.bool false) := HZ3.out.cell 5
          have f0 := HZ3.out.frozen 0
          have f1 := HZ3.out.frozen 1
          have f2 := HZ3.out.frozen 2
          have f3 := HZ3.out.frozen 3
          have f4 := HZ3.out.frozen 4
          have f5 := HZ3.out.frozen 5
          have y0 : u3.cell? ⟨gx, 0, none⟩ = some (.string yn) := HX.out.cell 0
          have y1 : u3.cell? ⟨gx, 1, none⟩ = some (.string yt) := HX.out.cell 1
          have y2 : u3.cell? ⟨gx, 2, none⟩ = some (.int .i64 yc) := HX.out.cell 2
          have y3 : u3.cell? ⟨gx, 3, none⟩ = some (.int .i64 ye) := HX.out.cell 3
          have y4 : u3.cell? ⟨gx, 4, none⟩ = some (.int .i64 yu) := HX.out.cell 4
          have y5 : u3.cell? ⟨gx, 5, none⟩ = some (.bool yh) := HX.out.cell 5
          have k0 := HX.out.frozen 0
          have k1 := HX.out.frozen 1
          have k2 := HX.out.frozen 2
          have k3 := HX.out.frozen 3
          have k4 := HX.out.frozen 4
          have k5 := HX.out.frozen 5
          go_wp2_with (go_at_call 41; (with_reducible refine (HC.out _).mono ?_); rintro e u5 ⟨rfl, hu⟩; rw [hu]; clear hu)
          have HU : Bk ((((((u3.setCell ⟨gz, 0, none⟩ (.string ⟨#[]⟩)).setCell ⟨gz, 1, none⟩ (.string ⟨#[]⟩)).setCell ⟨gz, 2, none⟩ (.int .i64 0)).setCell ⟨gz, 3, none⟩ (.int .i64 0)).setCell ⟨gz, 4, none⟩ (.int .i64 0)).setCell ⟨gz, 5, none⟩ (.bool false)) gz 32 #[.string ⟨#[]⟩, .string ⟨#[]⟩, .int .i64 0, .int .i64 0, .int .i64 0, .bool false] := HZ3.out.set6 _ _ _ _ _ _
          have p0 := HU.cell 0; have p1 := HU.cell 1; have p2 := HU.cell 2; have p3 := HU.cell 3; have p4 := HU.cell 4; have p5 := HU.cell 5
          refine bodyPost_ret (v := .tuple #[.agg #[.string ⟨#[]⟩, .string ⟨#[]⟩, .int .i64 0, .int .i64 0, .int .i64 0, .bool false], .int .i64 132]) ?_ rfl ⟨by rw [HS.out]; try rfl, below_set6 HB3.out (by rw [HGZ.out]; exact Nat.le_refl _) _ _ _ _ _ _⟩
          try simp [results, Try.f38, go_sem, p0, p1, p2, p3, p4, p5]
end Go.Proofs.Ytpbobmiajjgekaa
